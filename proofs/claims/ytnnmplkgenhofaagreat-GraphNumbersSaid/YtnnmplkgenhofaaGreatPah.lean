import Derived.Test.YtnnmplkgenhofaaGreatPag
set_option maxRecDepth 100000
set_option maxHeartbeats 12800000
namespace Go.Proofs.YtnnmplkgenhofaaGreat
open Go.RowKit
theorem Sep.pick {w0 w:World} {P l' l1:List Chunk} (H:Sep w0 w (P++l1)) (f:List Nat) (hf:f.map (fun i:Nat=>P[i]?)=l'.map some) (hd:f.Nodup):Sep w0 w (l' ++ l1):=by
 have hlt:∀ k∈f,k<P.length:=by
  intro k hk;have:P[k]? ∈ l'.map some:=by rw[← hf];exact List.mem_map.2 ⟨k,hk,rfl⟩
  obtain⟨c,_,hc⟩:=List.mem_map.1 this;exact(List.getElem?_eq_some_iff.1 hc.symm).1
 refine H.sub (f++(List.range l1.length).map (fun j=>P.length+j)) ?_ ?_
 ·rw[List.map_append,List.map_append,← hf]
  congr 1
  ·exact List.map_congr_left fun k hk=>List.getElem?_append_left (hlt k hk)
  ·rw[List.map_map];apply List.ext_getElem?;intro j;rw[List.getElem?_map,List.getElem?_map];rcases Nat.lt_or_ge j l1.length with h|h
   ·rw[List.getElem?_range h,List.getElem?_eq_getElem h];simp only[Option.map_some,Function.comp];rw[List.getElem?_append_right (by omega),show P.length+j-P.length=j by omega,List.getElem?_eq_getElem h]
   ·rw[List.getElem?_eq_none (by simpa using h),List.getElem?_eq_none h];rfl
 ·rw[List.nodup_append];refine⟨hd,?_,?_⟩
  ·exact List.pairwise_map.2 ((List.nodup_range (n:=l1.length)).imp (fun {a b} h hab=>h (by omega)))
  ·intro a ha b hb hab;obtain⟨j,_,rfl⟩:=List.mem_map.1 hb;have:=hlt a ha;omega
theorem Tryz.sizeNode:(Tryz.prog.info? 34).map (·.size)=some 7:=by kernel_rfl
theorem ret_node {fn:Func} {R:Ending→World→Prop} {a:Act} {w0 w:World} {l:List Chunk} {p:Tmp} {g:Nat} {v0 v1 v2 v3 v4 v5 v6:Value} (H:Sep w0 w l) (i:Nat) (hi:l[i]? = some (.box g 34 [v0,v1,v2,v3,v4,v5,v6]))
  (h:fn.results=#[.cell p 34]) (hp:a.tmps.getD p undef=.pointer (some ⟨g,0,none⟩)) (hd:a.defers=[]) (hR:R (.returned (.agg #[v0,v1,v2,v3,v4,v5,v6])) w):bodyPost Tryz.prog fn R .ret a w :=
 bodyPost_ret_by (results_cell_row h a.tmps w g _ _ _ _ hp (H.heap i hi) Tryz.underlying34 rfl Tryz.sizeNode) hd hR
theorem app_at {P l0:List Chunk} (i:Nat):(P++l0)[P.length+i]? = l0[i]? := by
 rw[List.getElem?_append_right (by omega),show P.length+i-P.length=i by omega]
theorem app_set {P l0:List Chunk} (i:Nat) (X:Chunk):(P++l0).set (P.length+i) X=P++l0.set i X:=by
 rw[List.set_append_right _ _ (by omega),show P.length+i-P.length=i by omega]
theorem KT.app {P l l0 l1:List Chunk} {i:Nat} {b b' : Chunk} (hK:KT l i b l0) (h:KT (P++l0) (P.length+i) b' l1):∃ l2,l1=P++l2∧KT l i b' l2 :=
 ⟨_,h.eq.trans (app_set i b'),hK.trans_ (KT.mk_ hK.1)⟩
section
variable {w0 w : World} {P l l0 : List Chunk} {i g : Nat} {A : Option Addr} {n c a : Nat} {xs : List Int}
theorem next_s (m:Int) (H:Sep w0 w (P++l0)) (hK:KT l i (TB g A n c a) l0) (hI:Ints w0 A n xs) (ha:a≤n) (hm:Fits m) :
  Calls Tryz.prog 11 #[.pointer (some ⟨g,0,none⟩),.int .i64 m] w fun e w' => e=.returned (.int .i64 (tv xs a m))∧∃ l1,KT l i (TB g A n c (ta xs a m)) l1∧Sep w0 w' (P++l1) :=
 (next_k m H (i:=P.length+i) ((app_at i).trans hK.1) hI ha hm).mono fun _ _ ⟨he,_,h1,h2⟩=>by
  obtain⟨l2,e,h3⟩:=hK.app h1;subst e;exact⟨he,l2,h3,h2⟩
theorem number_s (H:Sep w0 w (P++l0)) (hK:KT l i (TB g A n c a) l0) (hI:Ints w0 A n xs) (ha:a≤n) :
  Calls Tryz.prog 31 #[.pointer (some ⟨g,0,none⟩)] w fun e w' => e=.returned (.int .i64 (kNum xs a).1)∧∃ l1,KT l i (TB g A n c (kNum xs a).2) l1∧Sep w0 w' (P++l1) :=
 (number_k H (i:=P.length+i) ((app_at i).trans hK.1) hI ha).mono fun _ _ ⟨he,_,h1,h2⟩=>by
  obtain⟨l2,e,h3⟩:=hK.app h1;subst e;exact⟨he,l2,h3,h2⟩
theorem shape_s (H:Sep w0 w (P++l0)) (hK:KT l i (TB g A n c a) l0) (hI:Ints w0 A n xs) (ha:a≤n) :
  Calls Tryz.prog 30 #[.pointer (some ⟨g,0,none⟩)] w fun e w' => ∃ v m,e=.returned v∧∃ l1,KT l i (TB g A n c (kShape xs a).2) l1∧Sep w0 w' ((.own 3 v m (kShape xs a).1::P)++l1) :=
 (shape_k H (i:=P.length+i) ((app_at i).trans hK.1) hI ha).mono fun _ _ ⟨v,m,he,_,h1,h2⟩=>by
  obtain⟨l2,e,h3⟩:=hK.app h1;subst e;exact⟨v,m,he,l2,h3,h2⟩
end
theorem kNum_le {xs:List Int} {a n:Nat} (h:xs.length=n) (ha:a≤n):(kNum xs a).2≤n:=by
 rw[kNum]
 split
 ·exact ta_le _ h (ta_le _ h ha)
 ·split
  ·exact ta_le _ h ha
  ·exact ta_le _ h (ta_le _ h ha)
theorem kDims_le {xs:List Int} {n:Nat} (h:xs.length=n):∀(j a:Nat),a≤n→(kDims xs j a).2≤n∧(kDims xs j a).1.length=j
 | 0,a,ha=>⟨ha,rfl⟩
 | j+1,a,ha=>by
  obtain⟨h1,h2⟩:=kDims_le h j (ta xs a 8) (ta_le _ h ha);exact⟨h1,by rw[kDims,List.length_cons,h2]⟩
theorem kShape_le {xs:List Int} {a n:Nat} (h:xs.length=n) (ha:a≤n):(kShape xs a).2≤n∧(kShape xs a).1.length≤3:=by
 obtain⟨h1,h2⟩:=kDims_le h (tv xs a 4).toNat (ta xs a 4) (ta_le _ h ha);refine⟨h1,?_⟩;rw[kShape,h2];have:=tv_lt xs a (show(0:Int)<4 by omega);omega
theorem kNum_fits (xs:List Int) (a:Nat):Fits (kNum xs a).1:=by
 rw[kNum]
 split
 ·obtain⟨q,hq⟩:=Int.eq_ofNat_of_zero_le (tv_nonneg xs (ta xs a 9) 6);have:=tv_lt xs (ta xs a 9) (show(0:Int)<6 by omega);obtain⟨x,hx,hf⟩:=lits_at q (by omega);rw[hq,Int.toNat_natCast,List.getD_eq_getElem?_getD,hx];exact hf
 ·split
  ·exact⟨by omega,by omega⟩
  ·have h1:=tv_nonneg xs (ta xs a 9) 19;have h2:=tv_lt xs (ta xs a 9) (show(0:Int)<19 by omega);exact⟨by simp only;omega,by simp only;omega⟩
def Stays (w0:World) (l:List Chunk) (i g:Nat) (A:Option Addr) (n c:Nat) (Q:World→Prop):Prop:=∀(w:World) (a:Nat) (l1:List Chunk),KT l i (TB g A n c a) l1→Sep w0 w l1→Q w
def LilsK (w0:World) (l:List Chunk) (i g:Nat) (A:Option Addr) (n c:Nat) (Al:Option Addr) (nl:Nat) (L:List (List Int)):Prop :=
 L.length=nl∧nl≤900∧∀(j:Nat) (x:List Int),L[j]? = some x→∃ la B m cap,Al=some la∧m≤cap∧Stays w0 l i g A n c fun w=>la.block<w.heap.size∧w.cell? (la.add j)=some (.slice B m cap)∧Ints w B m x
theorem LilsK.lils {w0 w:World} {l l1:List Chunk} {i g:Nat} {A:Option Addr} {n c a:Nat} {Al:Option Addr} {nl:Nat} {L:List (List Int)} (h:LilsK w0 l i g A n c Al nl L) (hK:KT l i (TB g A n c a) l1) (H:Sep w0 w l1):Lils w Al nl L :=
 ⟨h.1,h.2.1,fun j x hx=>by
  obtain⟨la,B,m,cap,e,hc,hs⟩:=h.2.2 j x hx;obtain⟨h1,h2,h3⟩:=hs w a l1 hK H
  exact⟨la,B,m,cap,e,h1,h2,hc,h3⟩⟩
theorem Sep.rest_ {w0 w:World}:∀ {P l1:List Chunk},Sep w0 w (P++l1)→Sep w0 w l1
 | [],_,h=>h
 | _::_,_,h=>Sep.rest_ (Sep.tail_ h)
def ndV (op:Int) (ins shape a:List Int) (n how:Int):NodeV:=⟨op,ins,shape,a,n,how,⟨#[]⟩⟩
def kSrc (xs:List Int) (a:Nat):NodeV × Nat :=
 if tv xs a 4=0 then(ndV 2 [] (kShape xs (ta xs a 4)).1 [] (kNum xs (kShape xs (ta xs a 4)).2).1 0,(kNum xs (kShape xs (ta xs a 4)).2).2)
 else if tv xs a 4=1 then
  (ndV 3 [] ((3::(kShape xs (ta xs a 4)).1).take 3) [tv xs (kShape xs (ta xs a 4)).2 ((3::(kShape xs (ta xs a 4)).1).take 3).length] 0 0,ta xs (kShape xs (ta xs a 4)).2 ((3::(kShape xs (ta xs a 4)).1).take 3).length)
 else(ndV 1 [] (kShape xs (ta xs a 4)).1 [] 0 0,(kShape xs (ta xs a 4)).2)
def NodePost (w0:World) (l:List Chunk) (i g:Nat) (A:Option Addr) (n c:Nat) (r:NodeV × Nat) (e:Ending) (w' : World):Prop :=
 ∃ vA mA vB mB vC mC,e=.returned (.agg #[.int .i64 r.1.op,vA,vB,vC,.int .i64 r.1.n,.int .i64 r.1.how,.string r.1.note])∧∃ l1,KT l i (TB g A n c r.2) l1∧Sep w0 w' ([.own 3 vA mA r.1.ins,.own 3 vB mB r.1.shape,.own 3 vC mC r.1.a]++l1)
end Go.Proofs.YtnnmplkgenhofaaGreat
