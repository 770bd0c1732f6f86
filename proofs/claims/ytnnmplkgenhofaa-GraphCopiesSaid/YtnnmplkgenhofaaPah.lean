import Derived.Test.YtnnmplkgenhofaaPag
namespace Go.Proofs.Ytnnmplkgenhofaa
open Go.RowKit
theorem infoBool:(Try.prog.info? 4).map (fun i=>(i.zero,i.size,i.bytes))=some (some (.bool false),1,1):=by kernel_rfl
theorem run_make_falses {n:Nat} (hn:n≤17592186044000) (w:World) :
  (Instr.makeSlice 74 (.int .i64 n) (.int .i64 n)).run Try.prog w=.ok (.slice (some ⟨w.heap.size,0,none⟩) n n) (w.alloc (.cells (Array.replicate n (Value.bool false)) 4)):=by
 rw [← List.toArray_replicate];have hu:Try.prog.underlying 74=some (.slice 4):=by kernel_rfl
 have hb:=infoBool
 cases e:Try.prog.info? 4 with
 | none=>rw [e] at hb;cases hb
 | some i =>
  rw [e] at hb;simp only [Option.map_some,Option.some.injEq,Prod.mk.injEq] at hb;obtain ⟨hz0,hz1,hz2⟩:=hb;have:=run_make (P:=Try.prog) w _ _ i (.bool false) hu e hz0 .i64 .i64 n n (by omega) (by omega) (by rw [hz2];omega) (by omega);rw [this,hz1];simp only [Int.toNat_natCast,Nat.mul_one]
  have hm:madeCells (Value.bool false).cells n=(List.replicate n (Value.bool false)).toArray:=by
   apply Array.toList_inj.1;rw [show (Value.bool false).cells=#[Value.bool false] from rfl,toList_madeCells_one]
  rw [hm]
theorem set_mid (acc:List Int) (m:Nat) (x y:Int):(acc++y::List.replicate m 0).set acc.length x=(acc++[x])++List.replicate m 0:=by simp
def kSpec (xs:List Int) (ns:Nat):Nat→Nat→List Bool→List Int × Nat
 | 0,a,_=>([],a)
 | m+1,a,used =>
  if 0<ns then
   (if tv xs a 2=0 then
    (if used.getD (tv xs (ta xs a 2) ns).toNat true=false then
     (tv xs (ta xs a 2) ns::(kSpec xs ns m (ta xs (ta xs a 2) ns) (used.set (tv xs (ta xs a 2) ns).toNat true)).1,(kSpec xs ns m (ta xs (ta xs a 2) ns) (used.set (tv xs (ta xs a 2) ns).toNat true)).2)
    else (-1::(kSpec xs ns m (ta xs (ta xs a 2) ns) used).1,(kSpec xs ns m (ta xs (ta xs a 2) ns) used).2))
   else (-1::(kSpec xs ns m (ta xs a 2) used).1,(kSpec xs ns m (ta xs a 2) used).2))
  else (-1::(kSpec xs ns m a used).1,(kSpec xs ns m a used).2)
set_option maxRecDepth 100000 in
set_option maxHeartbeats 3200000 in
theorem spec_k {A1:Option Addr} {ns c1 r:Nat} (hr:r≤100) (hns:ns≤100) {w0 w:World} {l:List Chunk} {i g:Nat} {A:Option Addr} {n c a:Nat} {xs:List Int} (H:Sep w0 w l) (hi:l[i]? = some (TB g A n c a)) (hI:Ints w0 A n xs) (ha:a≤n) :
  Calls Try.prog 20 #[.pointer (some ⟨g,0,none⟩),.slice A1 ns c1,.int .i64 r] w fun e w' => ∃ v m,e=.returned v∧∃ l1,KT l i (TB g A n c (kSpec xs ns r a (List.replicate ns false)).2) l1∧Sep w0 w' (.own 3 v m (kSpec xs ns r a (List.replicate ns false)).1::l1):=by
 have HXL:=Hd hI.len;have HI:=Hd hI;have hnle:=hI.le;have KI:=Hd hi;have hm1:=run_make_noughts Try.underlying22 Try.infoInt (n:=r) (by omega);have hm2:=run_make_falses (n:=ns) (by omega);have h1:=(H.noughts 3 r (by omega)).allocBox (w.heap.size+1) 4 (List.replicate ns (Value.bool false)) (by simp);rw [List.toArray_replicate] at h1
 go_enter Try.func20,Try.ntmps20
 go_upto_region 3 with fail
 generalize (w.alloc (.cells (noughts r) 3)).alloc (.cells (Array.replicate ns (Value.bool false)) 4)=w2 at *;have hgs:w.heap.size<w.heap.size+1:=by omega
 generalize w.heap.size+1=gu at *;generalize w.heap.size=go at *;have H1:=Hd (h1.swap);clear h1 hm1 hm2 H hI hi
 go_wp2_with fail
 go_loopw [18] (fun iv wr=>∃ (j:Nat) (acc:List Int) (a2:Nat) (used:List Bool) (l1:List Chunk),iv=.int .i64 j∧j≤r∧acc.length=j∧used.length=ns∧a2≤n∧(acc++(kSpec xs ns (r-j) a2 used).1,(kSpec xs ns (r-j) a2 used).2)=kSpec xs ns r a (List.replicate ns false)∧KT l i (TB g A n c a2) l1∧Sep w0 wr (.own 3 (.slice (some ⟨go,0,none⟩) r r) r (acc++List.replicate (r-j) 0)::.box gu 4 (used.map Value.bool)::l1)) (fun iv _=>r-(intOf iv).toNat)
 case atStart=>exact ⟨0,[],a,List.replicate ns false,l,rfl,by omega,rfl,by simp,ha,rfl,⟨KI.out,fun _=>rfl⟩,by rw [List.map_replicate];exact H1.out⟩
 case round =>
  clear H1;obtain ⟨j,acc,a2,used,l1,rfl,hj,hacc,hul,ba2,hq,hK,hS⟩:=hrel;have HQ:=Hd hq;have HK:=Hd hK;have HUL:=Hd hul;have HACC:=Hd hacc;clear hq hK hul hacc;by_cases hlt:j<r
  ·obtain ⟨m,hm⟩:∃ m,r-j=m+1:=⟨r-j-1,by omega⟩;rw [hm,List.replicate_succ] at hS;have HQD:=Hd (show (acc++(kSpec xs ns (m+1) a2 used).1,(kSpec xs ns (m+1) a2 used).2)=kSpec xs ns r a (List.replicate ns false) by rw [← hm];exact HQ.out);have HM:=Hd (show r-(j+1)=m by omega);clear hm;have hxz:(acc++0::List.replicate m 0)[j]? = some 0:=by rw [List.getElem?_append_right (by have:=HACC.out;omega),HACC.out];simp
   have hcz:=(hS.own 0 rfl).cell hxz;have hff:=(hS.own 0 rfl).frozen j;have h5:=hS.store 0 j (x := -1) ⟨by omega,by omega⟩ rfl;rw [show (acc++0::List.replicate m 0:List Int).set j (-1)=(acc++[-1])++List.replicate m 0 by rw [← HACC.out];exact set_mid acc m (-1) 0] at h5;have H5:=Hd (show Sep w0 (wr.setCell ⟨go,j,none⟩ (.int .i64 (-1))) (.own 3 (.slice (some ⟨go,0,none⟩) r r) r ((acc++[-1])++List.replicate m 0)::.box gu 4 (used.map Value.bool)::l1) from h5);clear h5 hS hxz
   go_upto_region 7 with fail
   generalize wr.setCell ⟨go,j,none⟩ (.int .i64 (-1))=w5 at *;clear hcz hff;by_cases hns:0<ns
   ·have d1:decide (0<ns)=true:=by simpa using hns
    go_wp2_with fail
    refine (next_k 2 H5.out (i:=i+2) HK.out.1 HI.out ba2 ⟨by omega,by omega⟩).mono ?_;rintro e3 w3 ⟨rfl,l3,hK3,hS3⟩;obtain rfl:=hK3.eq;obtain ⟨q,hq⟩:∃ q,tv xs a2 2=q:=⟨_,rfl⟩;obtain ⟨a3,ha3⟩:∃ r,ta xs a2 2=r:=⟨_,rfl⟩;have ba3:=ta_le 2 HXL.out ba2;rw [ha3] at ba3 hS3;rw [hq];have HQ3:=Hd hq;have HA3:=Hd ha3;have H6:=Hd (show Sep w0 w3 (.own 3 (.slice (some ⟨go,0,none⟩) r r) r ((acc++[-1])++List.replicate m 0)::.box gu 4 (used.map Value.bool)::l1.set i (TB g A n c a3)) from hS3);have HK6:=Hd (HK.out.trans_ (KT.mk_ (b:=TB g A n c a3) HK.out.1));clear hq ha3 hS3 hK3 H5;by_cases h0:q=0
    ·subst h0
     go_wp2_with fail
     refine (next_k (ns:Int) H6.out (i:=i+2) HK6.out.1 HI.out ba3 ⟨by omega,by omega⟩).mono ?_;rintro e4 w4 ⟨rfl,l4,hK4,hS4⟩;obtain rfl:=hK4.eq;have k0:=tv_nonneg xs a3 (ns:Int);have k1:=tv_lt xs a3 (show (0:Int)<(ns:Int) by omega);obtain ⟨kv,hkv⟩:∃ q,tv xs a3 (ns:Int)=q:=⟨_,rfl⟩;rw [hkv] at k0 k1 ⊢;obtain ⟨k,rfl⟩:=Int.eq_ofNat_of_zero_le k0;obtain ⟨a4,ha4⟩:∃ r,ta xs a3 (ns:Int)=r:=⟨_,rfl⟩;have ba4:=ta_le (ns:Int) HXL.out ba3;rw [ha4] at ba4 hS4;have HKV:=Hd hkv;have HA4:=Hd ha4;have H7:=Hd (show Sep w0 w4 (.own 3 (.slice (some ⟨go,0,none⟩) r r) r ((acc++[-1])++List.replicate m 0)::.box gu 4 (used.map Value.bool)::(l1.set i (TB g A n c a3)).set i (TB g A n c a4)) from hS4);have HK7:=Hd (HK6.out.trans_ (KT.mk_ (b:=TB g A n c a4) HK6.out.1));have hkn:k<ns:=by omega
     clear hkv ha4 hS4 hK4 H6 k0 k1;obtain ⟨ub,hub⟩:∃ b,used[k]? = some b:=⟨_,List.getElem?_eq_getElem (by have:=HUL.out;omega)⟩;have hcu:=H7.out.cell 1 k rfl (show (used.map Value.bool)[k]? = some (.bool ub) by rw [List.getElem?_map,hub];rfl);have HGD:=Hd (show used.getD k true=ub by rw [List.getD_eq_getElem?_getD,hub];rfl);have HUB:=Hd hub;clear hub
     cases ub with
     | false =>
      have hxz:((acc++[-1])++List.replicate m 0)[j]? = some (-1):=by rw [List.getElem?_append_left (by rw [List.length_append,List.length_singleton];have:=HACC.out;omega),List.getElem?_append_right (by have:=HACC.out;omega),HACC.out];simp
      have hcz:=(H7.out.own 0 rfl).cell hxz;have hff:=(H7.out.own 0 rfl).frozen j;have h8:=H7.out.store 0 j (x:=(k:Int)) ⟨by omega,by omega⟩ rfl;rw [show ((acc++[-1])++List.replicate m 0:List Int).set j (k:Int)=(acc++[(k:Int)])++List.replicate m 0 by rw [List.append_assoc,List.singleton_append,← HACC.out];exact set_mid acc m k (-1)] at h8;have H8:=Hd (show Sep w0 (w4.setCell ⟨go,j,none⟩ (.int .i64 (k:Int))) (.own 3 (.slice (some ⟨go,0,none⟩) r r) r ((acc++[(k:Int)])++List.replicate m 0)::.box gu 4 (used.map Value.bool)::(l1.set i (TB g A n c a3)).set i (TB g A n c a4)) from h8);have hcu2:=H8.out.cell 1 k rfl (show (used.map Value.bool)[k]? = some (.bool false) by rw [List.getElem?_map,HUB.out];rfl);have hfu2:=H8.out.frozenBox 1 k rfl;have h9:=H8.out.setBox 1 k (.bool true) rfl;have HMS:=Hd (show (used.map Value.bool).set k (.bool true)=(used.set k true).map Value.bool by rw [List.map_set]);have h10:Sep w0 ((w4.setCell ⟨go,j,none⟩ (.int .i64 (k:Int))).setCell ⟨gu,k,none⟩ (.bool true)) (.own 3 (.slice (some ⟨go,0,none⟩) r r) r ((acc++[(k:Int)])++List.replicate m 0)::.box gu 4 ((used.map Value.bool).set k (.bool true))::(l1.set i (TB g A n c a3)).set i (TB g A n c a4)):=h9;rw [HMS.out] at h10;have H10:=Hd h10;clear h8 h9 h10 hxz;have HQE:=Hd (show ((acc++[(k:Int)])++(kSpec xs ns m a4 (used.set k true)).1,(kSpec xs ns m a4 (used.set k true)).2)=kSpec xs ns r a (List.replicate ns false) by have h7:=HQD.out;rw [kSpec,if_pos hns,HQ3.out,if_pos rfl,HA3.out,HKV.out,Int.toNat_natCast,HGD.out,if_pos rfl,HA4.out] at h7;rw [List.append_assoc];exact h7);go_wp2;go_roundw
      case rel=>exact ⟨j+1,acc++[(k:Int)],a4,used.set k true,_,by go_num,by omega,by rw [List.length_append,List.length_singleton,HACC.out],by rw [List.length_set];exact HUL.out,by first | exact ba2 | omega,by rw [HM.out];exact HQE.out,HK7.out,by rw [HM.out];exact H10.out⟩
      case measure=>simp [intOf];omega
     | true =>
      have HQE:=Hd (show ((acc++[-1])++(kSpec xs ns m a4 used).1,(kSpec xs ns m a4 used).2)=kSpec xs ns r a (List.replicate ns false) by have h7:=HQD.out;rw [kSpec,if_pos hns,HQ3.out,if_pos rfl,HA3.out,HKV.out,Int.toNat_natCast,HGD.out,if_neg (by decide),HA4.out] at h7;rw [List.append_assoc];exact h7);go_wp2;go_roundw
      case rel=>exact ⟨j+1,acc++[-1],a4,used,_,by go_num,by omega,by rw [List.length_append,List.length_singleton,HACC.out],HUL.out,by first | exact ba2 | omega,by rw [HM.out];exact HQE.out,HK7.out,by rw [HM.out];exact H7.out⟩
      case measure=>simp [intOf];omega
    ·have d2:(q==0)=false:=by simpa using h0
     have HQE:=Hd (show ((acc++[-1])++(kSpec xs ns m a3 used).1,(kSpec xs ns m a3 used).2)=kSpec xs ns r a (List.replicate ns false) by have h7:=HQD.out;rw [kSpec,if_pos hns,HQ3.out,if_neg h0,HA3.out] at h7;rw [List.append_assoc];exact h7);clear h0;go_wp2;go_roundw
     case rel=>exact ⟨j+1,acc++[-1],a3,used,_,by go_num,by omega,by rw [List.length_append,List.length_singleton,HACC.out],HUL.out,by first | exact ba2 | omega,by rw [HM.out];exact HQE.out,HK6.out,by rw [HM.out];exact H6.out⟩
     case measure=>simp [intOf];omega
   ·have d1:decide (0<ns)=false:=by simpa using hns
    have HQE:=Hd (show ((acc++[-1])++(kSpec xs ns m a2 used).1,(kSpec xs ns m a2 used).2)=kSpec xs ns r a (List.replicate ns false) by have h7:=HQD.out;rw [kSpec,if_neg hns] at h7;rw [List.append_assoc];exact h7);go_wp2;go_roundw
    case rel=>exact ⟨j+1,acc++[-1],a2,used,_,by go_num,by omega,by rw [List.length_append,List.length_singleton,HACC.out],HUL.out,by first | exact ba2 | omega,by rw [HM.out];exact HQE.out,HK.out,by rw [HM.out];exact H5.out⟩
    case measure=>simp [intOf];omega
  ·have hjr:j=r:=by omega
   have HE:=Hd (show kSpec xs ns r a (List.replicate ns false)=(acc,a2) by rw [← HQ.out,show r-j=0 by omega,kSpec,List.append_nil]);rw [show r-j=0 by omega,List.replicate_zero,List.append_nil] at hS;have HS:=Hd hS;clear hS;go_wp2;go_ret;rw [HE.out];exact ⟨_,_,rfl,_,HK.out,HS.out.less1⟩
theorem Sep.pick {w0 w:World} {P l' l1:List Chunk} (H:Sep w0 w (P++l1)) (f:List Nat) (hf:f.map (fun i:Nat=>P[i]?)=l'.map some) (hd:f.Nodup):Sep w0 w (l' ++ l1):=by
 have hlt:∀ k∈f,k<P.length:=by
  intro k hk;have:P[k]? ∈ l'.map some:=by rw [← hf];exact List.mem_map.2 ⟨k,hk,rfl⟩
  obtain ⟨c,_,hc⟩:=List.mem_map.1 this;exact (List.getElem?_eq_some_iff.1 hc.symm).1
 refine H.sub (f++(List.range l1.length).map (fun j=>P.length+j)) ?_ ?_
 ·rw [List.map_append,List.map_append,← hf]
  congr 1
  ·exact List.map_congr_left fun k hk=>List.getElem?_append_left (hlt k hk)
  ·rw [List.map_map];apply List.ext_getElem?;intro j;rw [List.getElem?_map,List.getElem?_map];rcases Nat.lt_or_ge j l1.length with h | h
   ·rw [List.getElem?_range h,List.getElem?_eq_getElem h];simp only [Option.map_some,Function.comp];rw [List.getElem?_append_right (by omega),show P.length+j-P.length=j by omega,List.getElem?_eq_getElem h]
   ·rw [List.getElem?_eq_none (by simpa using h),List.getElem?_eq_none h];rfl
 ·rw [List.nodup_append];refine ⟨hd,?_,?_⟩
  ·exact List.pairwise_map.2 ((List.nodup_range (n:=l1.length)).imp (fun {a b} h hab=>h (by omega)))
  ·intro a ha b hb hab;obtain ⟨j,_,rfl⟩:=List.mem_map.1 hb;have:=hlt a ha;omega
theorem Try.sizeNode:(Try.prog.info? 32).map (·.size)=some 7:=by kernel_rfl
theorem ret_node {fn:Func} {R:Ending→World→Prop} {a:Act} {w0 w:World} {l:List Chunk} {p:Tmp} {g:Nat} {v0 v1 v2 v3 v4 v5 v6:Value} (H:Sep w0 w l) (i:Nat) (hi:l[i]? = some (.box g 32 [v0,v1,v2,v3,v4,v5,v6]))
  (h:fn.results=#[.cell p 32]) (hp:a.tmps.getD p undef=.pointer (some ⟨g,0,none⟩)) (hd:a.defers=[]) (hR:R (.returned (.agg #[v0,v1,v2,v3,v4,v5,v6])) w):bodyPost Try.prog fn R .ret a w :=
 bodyPost_ret_by (results_cell_row h a.tmps w g _ _ _ _ hp (H.heap i hi) Try.underlying32 rfl Try.sizeNode) hd hR
theorem app_at {P l0:List Chunk} (i:Nat):(P++l0)[P.length+i]? = l0[i]? := by
 rw [List.getElem?_append_right (by omega),show P.length+i-P.length=i by omega]
theorem app_set {P l0:List Chunk} (i:Nat) (X:Chunk):(P++l0).set (P.length+i) X=P++l0.set i X:=by
 rw [List.set_append_right _ _ (by omega),show P.length+i-P.length=i by omega]
theorem KT.app {P l l0 l1:List Chunk} {i:Nat} {b b' : Chunk} (hK:KT l i b l0) (h:KT (P++l0) (P.length+i) b' l1):∃ l2,l1=P++l2∧KT l i b' l2 :=
 ⟨_,h.eq.trans (app_set i b'),hK.trans_ (KT.mk_ hK.1)⟩
section
variable {w0 w : World} {P l l0 : List Chunk} {i g : Nat} {A : Option Addr} {n c a : Nat} {xs : List Int}
theorem next_s (m:Int) (H:Sep w0 w (P++l0)) (hK:KT l i (TB g A n c a) l0) (hI:Ints w0 A n xs) (ha:a≤n) (hm:Fits m) :
  Calls Try.prog 14 #[.pointer (some ⟨g,0,none⟩),.int .i64 m] w fun e w' => e=.returned (.int .i64 (tv xs a m))∧∃ l1,KT l i (TB g A n c (ta xs a m)) l1∧Sep w0 w' (P++l1) :=
 (next_k m H (i:=P.length+i) ((app_at i).trans hK.1) hI ha hm).mono fun _ _ ⟨he,_,h1,h2⟩=>by
  obtain ⟨l2,e,h3⟩:=hK.app h1;subst e;exact ⟨he,l2,h3,h2⟩
theorem number_s (H:Sep w0 w (P++l0)) (hK:KT l i (TB g A n c a) l0) (hI:Ints w0 A n xs) (ha:a≤n) :
  Calls Try.prog 34 #[.pointer (some ⟨g,0,none⟩)] w fun e w' => e=.returned (.int .i64 (kNum xs a).1)∧∃ l1,KT l i (TB g A n c (kNum xs a).2) l1∧Sep w0 w' (P++l1) :=
 (number_k H (i:=P.length+i) ((app_at i).trans hK.1) hI ha).mono fun _ _ ⟨he,_,h1,h2⟩=>by
  obtain ⟨l2,e,h3⟩:=hK.app h1;subst e;exact ⟨he,l2,h3,h2⟩
theorem shape_s (H:Sep w0 w (P++l0)) (hK:KT l i (TB g A n c a) l0) (hI:Ints w0 A n xs) (ha:a≤n) :
  Calls Try.prog 33 #[.pointer (some ⟨g,0,none⟩)] w fun e w' => ∃ v m,e=.returned v∧∃ l1,KT l i (TB g A n c (kShape xs a).2) l1∧Sep w0 w' ((.own 3 v m (kShape xs a).1::P)++l1) :=
 (shape_k H (i:=P.length+i) ((app_at i).trans hK.1) hI ha).mono fun _ _ ⟨v,m,he,_,h1,h2⟩=>by
  obtain ⟨l2,e,h3⟩:=hK.app h1;subst e;exact ⟨v,m,he,l2,h3,h2⟩
end
theorem kNum_le {xs:List Int} {a n:Nat} (h:xs.length=n) (ha:a≤n):(kNum xs a).2≤n:=by
 rw [kNum]
 split
 ·exact ta_le _ h (ta_le _ h ha)
 ·split
  ·exact ta_le _ h ha
  ·exact ta_le _ h (ta_le _ h ha)
theorem kDims_le {xs:List Int} {n:Nat} (h:xs.length=n):∀ (j a:Nat),a≤n→(kDims xs j a).2≤n∧(kDims xs j a).1.length=j
 | 0,a,ha=>⟨ha,rfl⟩
 | j+1,a,ha=>by
  obtain ⟨h1,h2⟩:=kDims_le h j (ta xs a 8) (ta_le _ h ha);exact ⟨h1,by rw [kDims,List.length_cons,h2]⟩
theorem kShape_le {xs:List Int} {a n:Nat} (h:xs.length=n) (ha:a≤n):(kShape xs a).2≤n∧(kShape xs a).1.length≤3:=by
 obtain ⟨h1,h2⟩:=kDims_le h (tv xs a 4).toNat (ta xs a 4) (ta_le _ h ha);refine ⟨h1,?_⟩;rw [kShape,h2];have:=tv_lt xs a (show (0:Int)<4 by omega);omega
theorem kNum_fits (xs:List Int) (a:Nat):Fits (kNum xs a).1:=by
 rw [kNum]
 split
 ·obtain ⟨q,hq⟩:=Int.eq_ofNat_of_zero_le (tv_nonneg xs (ta xs a 9) 6);have:=tv_lt xs (ta xs a 9) (show (0:Int)<6 by omega);obtain ⟨x,hx,hf⟩:=lits_at q (by omega);rw [hq,Int.toNat_natCast,List.getD_eq_getElem?_getD,hx];exact hf
 ·split
  ·exact ⟨by omega,by omega⟩
  ·have h1:=tv_nonneg xs (ta xs a 9) 19;have h2:=tv_lt xs (ta xs a 9) (show (0:Int)<19 by omega);exact ⟨by simp only;omega,by simp only;omega⟩
def Stays (w0:World) (l:List Chunk) (i g:Nat) (A:Option Addr) (n c:Nat) (Q:World→Prop):Prop:=∀ (w:World) (a:Nat) (l1:List Chunk),KT l i (TB g A n c a) l1→Sep w0 w l1→Q w
def LilsK (w0:World) (l:List Chunk) (i g:Nat) (A:Option Addr) (n c:Nat) (Al:Option Addr) (nl:Nat) (L:List (List Int)):Prop :=
 L.length=nl∧nl≤900∧∀ (j:Nat) (x:List Int),L[j]? = some x→∃ la B m cap,Al=some la∧m≤cap∧Stays w0 l i g A n c fun w=>la.block<w.heap.size∧w.cell? (la.add j)=some (.slice B m cap)∧Ints w B m x
theorem LilsK.lils {w0 w:World} {l l1:List Chunk} {i g:Nat} {A:Option Addr} {n c a:Nat} {Al:Option Addr} {nl:Nat} {L:List (List Int)} (h:LilsK w0 l i g A n c Al nl L) (hK:KT l i (TB g A n c a) l1) (H:Sep w0 w l1):Lils w Al nl L :=
 ⟨h.1,h.2.1,fun j x hx=>by
  obtain ⟨la,B,m,cap,e,hc,hs⟩:=h.2.2 j x hx;obtain ⟨h1,h2,h3⟩:=hs w a l1 hK H
  exact ⟨la,B,m,cap,e,h1,h2,hc,h3⟩⟩
theorem Sep.rest_ {w0 w:World}:∀ {P l1:List Chunk},Sep w0 w (P++l1)→Sep w0 w l1
 | [],_,h=>h
 | _::_,_,h=>Sep.rest_ (Sep.tail_ h)
def ndV (op:Int) (ins shape a:List Int) (n how:Int):NodeV:=⟨op,ins,shape,a,n,how,⟨#[]⟩⟩
def kSrc (xs:List Int) (a:Nat):NodeV × Nat :=
 if tv xs a 4=0 then (ndV 2 [] (kShape xs (ta xs a 4)).1 [] (kNum xs (kShape xs (ta xs a 4)).2).1 0,(kNum xs (kShape xs (ta xs a 4)).2).2)
 else if tv xs a 4=1 then
  (ndV 3 [] ((3::(kShape xs (ta xs a 4)).1).take 3) [tv xs (kShape xs (ta xs a 4)).2 ((3::(kShape xs (ta xs a 4)).1).take 3).length] 0 0,ta xs (kShape xs (ta xs a 4)).2 ((3::(kShape xs (ta xs a 4)).1).take 3).length)
 else (ndV 1 [] (kShape xs (ta xs a 4)).1 [] 0 0,(kShape xs (ta xs a 4)).2)
def NodePost (w0:World) (l:List Chunk) (i g:Nat) (A:Option Addr) (n c:Nat) (r:NodeV × Nat) (e:Ending) (w' : World):Prop :=
 ∃ vA mA vB mB vC mC,e=.returned (.agg #[.int .i64 r.1.op,vA,vB,vC,.int .i64 r.1.n,.int .i64 r.1.how,.string r.1.note])∧∃ l1,KT l i (TB g A n c r.2) l1∧Sep w0 w' ([.own 3 vA mA r.1.ins,.own 3 vB mB r.1.shape,.own 3 vC mC r.1.a]++l1)
end Go.Proofs.Ytnnmplkgenhofaa
