import Derived.Maps.AppendAt
import Derived.Test.YtnnmplkgenhofaaGreatPad
import Derived.Test.YtnnmplkgenhofaaGreatPae
import Derived.Test.YtnnmplkgenhofaaGreatPaf
set_option maxRecDepth 100000
set_option maxHeartbeats 12800000
namespace Go.Proofs.YtnnmplkgenhofaaGreat
open Go.RowKit
theorem infoLst:(Tryz.prog.info? 22).map (fun i=>(i.zero,i.size,i.bytes))=some (some (.slice none 0 0),1,24):=by kernel_rfl
theorem infoLst_parts:∃ i,Tryz.prog.info? 22=some i∧i.zero=some (.slice none 0 0)∧i.size=1∧i.bytes=24:=by
 have h:=infoLst
 cases e:Tryz.prog.info? 22 with
 | none=>rw[e] at h;cases h
 | some i =>
  rw[e] at h;simp only[Option.map_some,Option.some.injEq,Prod.mk.injEq] at h;exact⟨i,rfl,h.1,h.2.1,h.2.2⟩
theorem wpList_append_lst {w0 w:World} {ops:Array Oper} {rest:List Oper} {o:Oper} {a:Act} {Q:Exit→Act→World→Prop} (hgd:o.guard=none) (s y:Operand) (t:TypeId)
  (ho:o.op=.call { callee:=.builtin .append,args:=#[s,y],argTypes:=#[t,t] }) (ht:Tryz.prog.underlying t=some (.slice 22))
  {l:List Chunk} (H:Sep w0 w l) (i:Nat) {v:Value} {n:Nat} {us:List Value} (hi:l[i]? = some (.row 22 1 v n us)) (hs:a.eval s=v) {S:Option Addr} {sn sc:Nat} (c:Nat) (hy:a.eval y=.slice (some ⟨w.heap.size,0,none⟩) 1 c)
  (hn:n≤1000)
  (h:∀ v' w', Sep w0 w' (l.set i (.row 22 1 v' (n+1) (us++[.slice S sn sc])))→wpList Tryz.prog ops Q rest (a.put o.dst v') w') :
  wpList Tryz.prog ops Q (o::rest) a (w.alloc (.cells #[.slice S sn sc] 22)):=by
 obtain⟨ti,h1,h2,h3,h4⟩:=infoLst_parts;have H' := H.below ((Below.refl w.heap.size w).alloc (Nat.le_refl _) (.cells #[.slice S sn sc] 22));have hsz:=H'.size;refine wpList_append_own_at _ hgd s y t ho w0.heap.size 22 ti _ 1 24 ht h1 h2 h3 h4 (by rfl) (by omega) v n us hs (H'.at_ i hi) ⟨w.heap.size,0,none⟩ 1 c [.slice S sn sc] hy rfl ?_ (by simp[Value.oneCell']) (by unfold maxLen;omega) (by omega) hsz ?_
 ·intro j u hj;have hb:=heap_alloc_new w (.cells #[.slice S sn sc] 22)
  match j,hj with
  | 0,hj=>simp at hj;subst hj;exact cell_of_row _ _ 0 _ _ _ hb
  | j+1,hj=>simp at hj
 ·intro v' w' h5 h6 _ h8
  exact h v' w' (H'.change i hi h6 h5 fun b hb=>by
   have hb:v'.ownBlock=some b:=hb;rcases h8 with e|e
   ·exact .inl (e.symm.trans hb)
   ·rw[e] at hb;injection hb with hb;subst hb;exact .inr (Nat.le_refl _))
def PoolL (us:List Value) (L:List (List Int)) (pool:List Chunk):Prop:=us.length=L.length∧∀(j:Nat) (s:List Int),L[j]? = some s→∃(S:Option Addr) (sn sc p:Nat),us[j]? = some (.slice S sn sc)∧pool[p]? = some (Chunk.own 3 (.slice S sn sc) sn s)
theorem poolL_nil {pool:List Chunk}:PoolL [] [] pool:=⟨rfl,fun j t h=>by simp at h⟩
theorem PoolL.shift {us:List Value} {L:List (List Int)} {pool:List Chunk} {c:Chunk} (h:PoolL us L pool):PoolL us L (c::pool) :=
 ⟨h.1,fun j s hs=>by
  obtain⟨S,sn,sc,p,h1,h2⟩:=h.2 j s hs
  exact⟨S,sn,sc,p+1,h1,h2⟩⟩
theorem PoolL.snoc {us:List Value} {L:List (List Int)} {pool:List Chunk} {S:Option Addr} {sn sc p:Nat} {s:List Int} (h:PoolL us L pool) (hp:pool[p]? = some (Chunk.own 3 (.slice S sn sc) sn s)):PoolL (us++[.slice S sn sc]) (L++[s]) pool:=by
 obtain⟨hl,h⟩:=h;refine⟨by simp[hl],fun j u hu=>?_⟩;rcases Nat.lt_or_ge j L.length with hj|hj
 ·rw[List.getElem?_append_left hj] at hu;obtain⟨S', sn', sc', p', h1,h2⟩:=h j u hu;exact⟨S', sn', sc', p', by rw[List.getElem?_append_left (by omega)];exact h1,h2⟩
 ·rw[List.getElem?_append_right hj] at hu
  have hj' : j=L.length:=by
   rcases Nat.eq_or_lt_of_le hj with e|e
   ·exact e.symm
   ·obtain⟨m,hm⟩:∃ m,j-L.length=m+1:=⟨j-L.length-1,by omega⟩;rw[hm] at hu;simp at hu
  subst hj';simp at hu;subst hu;exact⟨S,sn,sc,p,by rw[List.getElem?_append_right (by omega),hl];simp,hp⟩
theorem PoolL.more {us:List Value} {L:List (List Int)} {pool:List Chunk} {S:Option Addr} {sn sc:Nat} {s:List Int} (h:PoolL us L pool):PoolL (us++[.slice S sn sc]) (L++[s]) (Chunk.own 3 (.slice S sn sc) sn s::pool) :=
 h.shift.snoc (p:=0) rfl
theorem addrL0 (g j:Nat):(⟨g,0,none⟩:Addr).add j=⟨g,j,none⟩:=by
 by_cases h:j=0
 ·subst h;rfl
 ·simp[Addr.add,h]
theorem pool_lils {w0 w:World} {l:List Chunk} {v:Value} {n:Nat} {us:List Value} {L:List (List Int)} {pool:List Chunk} (i:Nat) (h:Sep w0 w l) (hi:l[i]? = some (.row 22 1 v n us)) (hP:PoolL us L pool) (hn:L.length=n) (hn2:n≤900) (f:Nat) (hf:∀ i,l[i+f]? = pool[i]?) :
  ∃ A c,v=.slice A n c∧n≤c∧Lils w A n L:=by
 have hr:w.ownsRow w0.heap.size 22 1 v n us:=h.at_ i hi;rcases Nat.eq_zero_or_pos n with e|e
 ·subst e;have hT:∀ A,Lils w A 0 L:=fun A=>⟨hn,by omega,fun j t ht=>by rw[List.eq_nil_of_length_eq_zero hn] at ht;simp at ht⟩
  rcases hr.2 with ⟨hv,_⟩|⟨g,cap,cur,hv,_⟩
  ·exact⟨none,0,hv,Nat.le_refl _,hT _⟩
  ·exact⟨_,cap,hv,Nat.zero_le _,hT _⟩
 ·obtain⟨g,c,rfl,hc⟩:=h.rowForm i hi e;refine⟨_,c,rfl,hc,hn,hn2,fun j s hs=>?_⟩;have hj:j<L.length:=(List.getElem?_eq_some_iff.1 hs).1;obtain⟨S,sn,sc,p,h1,h2⟩:=hP.2 j s hs;have hlt:=(World.ownsRow.lt hr g rfl).2;have hp:=h.ownInts (p+f) ((hf p).trans h2);refine⟨⟨g,0,none⟩,S,sn,sc,rfl,hlt,?_,hp.2.1,hp.2.2⟩;rw[addrL0,hr.cellAt j (by omega),h1]
theorem pool_cell {w0 w:World} {l:List Chunk} {g c n:Nat} {us:List Value} (h:Sep w0 w l) (i:Nat) (hi:l[i]? = some (.row 22 1 (.slice (some ⟨g,0,none⟩) n c) n us)) {j:Nat} {u:Value} (hu:us[j]? = some u) (hj:j<n):w.cell? ((⟨g,0,none⟩:Addr).add j)=some u:=by
 have hr:w.ownsRow w0.heap.size 22 1 (.slice (some ⟨g,0,none⟩) n c) n us:=h.at_ i hi;rw[addrL0,hr.cellAt j (by omega),hu]
def kSame:Nat→List (List Int)→List Int→List Int
 | _,[],_=>[]
 | k,x::l,s=>if x=s then(k:Int)::kSame (k+1) l s else kSame (k+1) l s
theorem drop_ll {L:List (List Int)} {j:Nat} {y:List Int} (h:L[j]? = some y):L.drop j=y::L.drop (j+1):=by
 obtain⟨hj,rfl⟩:=List.getElem?_eq_some_iff.1 h;exact List.drop_eq_getElem_cons hj
theorem same_k {w:World} {A B:Option Addr} {n cl m c:Nat} {L:List (List Int)} {s:List Int} (h:Lils w A n L) (g:Ints w B m s) :
  Calls Tryz.prog 32 #[.slice A n cl,.slice B m c] w fun e w' => (∃ v m,e=.returned v∧OwnS w' w.heap.size 3 v m (kSame 0 L s))∧Below w.heap.size w w' := by
 have hll:=h.1;have hln:=h.2.1;have HLL:=Hd hll;have HL:=Hd h;have HG:=Hd g;clear h g hll;have H:=Hd ((Sep.nil w).addNil 3)
 go_enter Tryz.func32,Tryz.ntmps32
 go_wp2_with fail
 go_loopw [9,5] (fun iv ov wr=>∃(j:Nat) (vo:Value) (acc:List Int),vo=ov∧iv=.int .i64 j∧j≤n∧acc.length≤j∧acc++kSame j (L.drop j) s=kSame 0 L s∧Sep w wr [.own 3 vo acc.length acc]) (fun iv _ _=>n-(intOf iv).toNat)
 case atStart=>exact⟨0,_,[],rfl,rfl,by omega,Nat.le_refl _,by rw[List.nil_append];rfl,H.out⟩
 case round =>
  clear H;obtain⟨j,vo,acc,rfl,rfl,hj,hal,hq,hS⟩:=hrel;have H:=Hd hS;have HQ:=Hd hq;clear hS hq;by_cases hlt:j<n
  ·obtain⟨x,hx⟩:∃ x,L[j]? = some x:=⟨_,List.getElem?_eq_getElem (by have:=HLL.out;omega)⟩;obtain⟨la,Bs,ms,cs,hla,hlb,hcl,hmc,hI⟩:=HL.out.2.2 j x hx;subst hla;have hcj:=H.out.oldCell (p:=la.add j) (blk_add hlb) hcl;have HQD:=Hd (show acc++kSame j (x::L.drop (j+1)) s=kSame 0 L s by rw[← drop_ll hx];exact HQ.out);have CI:=refInts_any (c:=cs) (d:=c) (H.out.oldI hI) (H.out.oldI HG.out);clear hcl hI hx
   go_wp2_with fail
   refine CI.mono ?_;rintro e1 w1 ⟨rfl,k1,rfl⟩;replace H:=Hd (H.out.drewN k1);obtain⟨v1,hv1⟩:∃ v,World.drewN wr k1=v:=⟨_,rfl⟩;rw[hv1] at H ⊢;clear hv1 CI hcj;by_cases hxs:x=s
   ·have d1:(x==s)=true:=by simpa using hxs
    rw[d1];have HQE:=Hd (show(acc++[(j:Int)])++kSame (j+1) (L.drop (j+1)) s=kSame 0 L s by have h5:=HQD.out;rw[kSame,if_pos hxs] at h5;rw[List.append_assoc];exact h5);clear hxs d1
    go_wp2_with (at_builtin;refine wpList_append_sep rfl (.tmp 18) (.tmp 20) 22 3 rfl Tryz.underlying22 Tryz.infoInt H.out 0 rfl rfl (j:Int) ⟨by omega,by omega⟩ _ rfl ?c1 ?_)
    case c1=>omega
    intro v' w' h';have H8:=Hd h';clear h';go_wp2;go_roundw
    case rel=>exact⟨j+1,_,acc++[(j:Int)],rfl,by go_num,by omega,by rw[List.length_append,List.length_singleton];omega,HQE.out,by rw[List.length_append,List.length_singleton];exact H8.out⟩
    case measure=>simp[intOf];omega
   ·have d1:(x==s)=false:=by simpa using hxs
    rw[d1];have HQE:=Hd (show acc++kSame (j+1) (L.drop (j+1)) s=kSame 0 L s by have h5:=HQD.out;rw[kSame,if_neg hxs] at h5;exact h5);clear hxs d1;go_wp2;go_roundw
    case rel=>exact⟨j+1,_,acc,rfl,by go_num,by omega,by omega,HQE.out,H.out⟩
    case measure=>simp[intOf];omega
  ·obtain rfl:j=n:=by omega
   have HE:=Hd (show kSame 0 L s=acc by have h5:=HQ.out;rw[List.drop_eq_nil_of_le (by have:=HLL.out;omega)] at h5;rw[← h5,kSame,List.append_nil]);go_wp2;go_ret;rw[HE.out];exact⟨⟨_,_,rfl,H.out.ownS 0 rfl⟩,H.out.base⟩
theorem Sep.emptyAt9 {w0 w:World} {l:List Chunk} (h:Sep w0 w l) (e:TypeId) (g:Nat) (hg:w.heap.size=g):Sep w0 (w.alloc (.cells #[] e)) (.own e (.slice (some ⟨g,0,none⟩) 0 0) 0 []::l):=by
 subst hg;exact h.empty e
def meshT:List (List Int × ByteArray):=[([2],⟨#[120]⟩),([3],⟨#[120]⟩),([2,2],⟨#[121,195,169]⟩),([4],⟨#[120]⟩),([2,3],⟨#[121,195,169]⟩),([],⟨#[]⟩),([2,2,2],⟨#[97,98,228,184,150]⟩),([5],⟨#[120]⟩),([1,3],⟨#[121,195,169]⟩),([8],⟨#[120]⟩)]
def kMesh (xs:List Int) (a:Nat):List Int × ByteArray:=meshT.getD (tv xs a 10).toNat ([],⟨#[]⟩)
theorem Sep.dropMid {w0 w:World} {c:Chunk}:∀(k:Nat) {l:List Chunk},Sep w0 w (c::l)→Sep w0 w (c::l.drop k)
 | 0,_,h=>h
 | _+1,[],h=>h
 | k+1,_::_,h=>Sep.dropMid k (Sep.less1 h)
theorem mesh_k {w0 w:World} {l:List Chunk} {i g:Nat} {A:Option Addr} {n c a:Nat} {xs:List Int} (H:Sep w0 w l) (hi:l[i]? = some (TB g A n c a)) (hI:Ints w0 A n xs) (ha:a≤n) :
  Calls Tryz.prog 10 #[.pointer (some ⟨g,0,none⟩)] w fun e w' => ∃ v m,e=.returned (.tuple #[v,.string (kMesh xs a).2])∧∃ l1,KT l i (TB g A n c (ta xs a 10)) l1∧Sep w0 w' (.own 3 v m (kMesh xs a).1::l1):=by
 have HXL:=Hd hI.len;have HI:=Hd hI;have hnle:=hI.le;have h1:=((((((((((H).lit 3 #[.int .i64 2] [2] 1 (w.heap.size) (rfl) rfl (by decide)).lit 3 #[.int .i64 3] [3] 1 (w.heap.size+1) (by simp) rfl (by decide)).lit 3 #[.int .i64 2,.int .i64 2] [2,2] 2 (w.heap.size+1+1) (by simp) rfl (by decide)).lit 3 #[.int .i64 4] [4] 1 (w.heap.size+1+1+1) (by simp) rfl (by decide)).lit 3 #[.int .i64 2,.int .i64 3] [2,3] 2 (w.heap.size+1+1+1+1) (by simp) rfl (by decide)).lit 3 #[] [] 0 (w.heap.size+1+1+1+1+1) (by simp) rfl (by decide)).lit 3 #[.int .i64 2,.int .i64 2,.int .i64 2] [2,2,2] 3 (w.heap.size+1+1+1+1+1+1) (by simp) rfl (by decide)).lit 3 #[.int .i64 5] [5] 1 (w.heap.size+1+1+1+1+1+1+1) (by simp) rfl (by decide)).lit 3 #[.int .i64 1,.int .i64 3] [1,3] 2 (w.heap.size+1+1+1+1+1+1+1+1) (by simp) rfl (by decide)).lit 3 #[.int .i64 8] [8] 1 (w.heap.size+1+1+1+1+1+1+1+1+1) (by simp) rfl (by decide);have h2:=h1.allocBox (w.heap.size+1+1+1+1+1+1+1+1+1+1) 22 [.slice (some ⟨w.heap.size,0,none⟩) 1 1,.slice (some ⟨w.heap.size+1,0,none⟩) 1 1,.slice (some ⟨w.heap.size+1+1,0,none⟩) 2 2,.slice (some ⟨w.heap.size+1+1+1,0,none⟩) 1 1,.slice (some ⟨w.heap.size+1+1+1+1,0,none⟩) 2 2,.slice (some ⟨w.heap.size+1+1+1+1+1,0,none⟩) 0 0,.slice (some ⟨w.heap.size+1+1+1+1+1+1,0,none⟩) 3 3,.slice (some ⟨w.heap.size+1+1+1+1+1+1+1,0,none⟩) 1 1,.slice (some ⟨w.heap.size+1+1+1+1+1+1+1+1,0,none⟩) 2 2,.slice (some ⟨w.heap.size+1+1+1+1+1+1+1+1+1,0,none⟩) 1 1] (by simp);have H2:=Hd h2;have KI:=Hd hi;clear h1 h2 H hi hI
 go_enter Tryz.func10,Tryz.ntmps10
 go_wp2_with fail
 refine(next_k 10 H2.out (i:=i+11) KI.out HI.out ha ⟨by omega,by omega⟩).mono ?_;rintro e1 w1 ⟨rfl,l1,hK1,hS1⟩;obtain rfl:=hK1.eq;have q0:=tv_nonneg xs a 10;have q1:=tv_lt xs a (show(0:Int)<10 by omega);obtain⟨q,hq⟩:∃ q,tv xs a 10=q:=⟨_,rfl⟩;rw[hq] at q0 q1 ⊢;have HQ:=Hd (show kMesh xs a=meshT.getD q.toNat ([],⟨#[]⟩) by rw[kMesh,hq]);obtain⟨qn,rfl⟩:=Int.eq_ofNat_of_zero_le q0;obtain⟨a1,ha1⟩:∃ r,ta xs a 10=r:=⟨_,rfl⟩;rw[ha1] at hS1;have HA1:=Hd ha1;have H3:=Hd (show Sep w0 w1 (.box (w.heap.size+1+1+1+1+1+1+1+1+1+1) 22 [.slice (some ⟨w.heap.size,0,none⟩) 1 1,.slice (some ⟨w.heap.size+1,0,none⟩) 1 1,.slice (some ⟨w.heap.size+1+1,0,none⟩) 2 2,.slice (some ⟨w.heap.size+1+1+1,0,none⟩) 1 1,.slice (some ⟨w.heap.size+1+1+1+1,0,none⟩) 2 2,.slice (some ⟨w.heap.size+1+1+1+1+1,0,none⟩) 0 0,.slice (some ⟨w.heap.size+1+1+1+1+1+1,0,none⟩) 3 3,.slice (some ⟨w.heap.size+1+1+1+1+1+1+1,0,none⟩) 1 1,.slice (some ⟨w.heap.size+1+1+1+1+1+1+1+1,0,none⟩) 2 2,.slice (some ⟨w.heap.size+1+1+1+1+1+1+1+1+1,0,none⟩) 1 1]::.own 3 (.slice (some ⟨w.heap.size+1+1+1+1+1+1+1+1+1,0,none⟩) 1 1) 1 [8]::.own 3 (.slice (some ⟨w.heap.size+1+1+1+1+1+1+1+1,0,none⟩) 2 2) 2 [1,3]::.own 3 (.slice (some ⟨w.heap.size+1+1+1+1+1+1+1,0,none⟩) 1 1) 1 [5]::.own 3 (.slice (some ⟨w.heap.size+1+1+1+1+1+1,0,none⟩) 3 3) 3 [2,2,2]::.own 3 (.slice (some ⟨w.heap.size+1+1+1+1+1,0,none⟩) 0 0) 0 []::.own 3 (.slice (some ⟨w.heap.size+1+1+1+1,0,none⟩) 2 2) 2 [2,3]::.own 3 (.slice (some ⟨w.heap.size+1+1+1,0,none⟩) 1 1) 1 [4]::.own 3 (.slice (some ⟨w.heap.size+1+1,0,none⟩) 2 2) 2 [2,2]::.own 3 (.slice (some ⟨w.heap.size+1,0,none⟩) 1 1) 1 [3]::.own 3 (.slice (some ⟨w.heap.size,0,none⟩) 1 1) 1 [2]::l.set i (TB g A n c a1)) from hS1);have HK:=Hd (KT.mk_ (b:=TB g A n c a1) KI.out);have hqn:qn<10:=by omega
 clear hq ha1 hS1 hK1 H2 q0 q1;have hcase:qn=0∨qn=1∨qn=2∨qn=3∨qn=4∨qn=5∨qn=6∨qn=7∨qn=8∨qn=9:=by omega
 rcases hcase with rfl|rfl|rfl|rfl|rfl|rfl|rfl|rfl|rfl|rfl
 ·have hc:=H3.out.cell 0 0 rfl rfl;have hlt:(0:Int)<10:=by omega
  have h4:=H3.out.allocBox w1.heap.size 9 [.string ⟨#[120]⟩,.string ⟨#[121,195,169]⟩,.string ⟨#[97,98,228,184,150]⟩] rfl;have H4:=Hd h4;have ht:=H4.out.cell 0 0 rfl rfl;clear h4;have H5:=Hd (H4.out.emptyAt9 3 (w1.heap.size+1) (by simp))
  go_wp2_with (at_builtin;refine wpList_appends_sep rfl (.tmp 34) (.tmp 35) 22 3 rfl Tryz.underlying22 Tryz.infoInt H5.out 0 rfl rfl _ 1 _ _ rfl (H5.out.ownInts 12 rfl).2.2 ?c1 ?_)
  case c1=>omega
  intro v9 w9 h9;have H9:=Hd h9;clear h9 H5 hc ht;have HX:=Hd (show kMesh xs a=([2],⟨#[120]⟩) from HQ.out);go_wp2;go_ret2;rw[HX.out];refine⟨_,_,rfl,_,by rw[HA1.out];exact HK.out,(Sep.dropMid 12 H9.out)⟩
 ·have hc:=H3.out.cell 0 1 rfl rfl;have hlt:(1:Int)<10:=by omega
  have h4:=H3.out.allocBox w1.heap.size 9 [.string ⟨#[120]⟩,.string ⟨#[121,195,169]⟩,.string ⟨#[97,98,228,184,150]⟩] rfl;have H4:=Hd h4;have ht:=H4.out.cell 0 0 rfl rfl;clear h4;have H5:=Hd (H4.out.emptyAt9 3 (w1.heap.size+1) (by simp))
  go_wp2_with (at_builtin;refine wpList_appends_sep rfl (.tmp 34) (.tmp 35) 22 3 rfl Tryz.underlying22 Tryz.infoInt H5.out 0 rfl rfl _ 1 _ _ rfl (H5.out.ownInts 11 rfl).2.2 ?c1 ?_)
  case c1=>omega
  intro v9 w9 h9;have H9:=Hd h9;clear h9 H5 hc ht;have HX:=Hd (show kMesh xs a=([3],⟨#[120]⟩) from HQ.out);go_wp2;go_ret2;rw[HX.out];refine⟨_,_,rfl,_,by rw[HA1.out];exact HK.out,(Sep.dropMid 12 H9.out)⟩
 ·have hc:=H3.out.cell 0 2 rfl rfl;have hlt:(2:Int)<10:=by omega
  have h4:=H3.out.allocBox w1.heap.size 9 [.string ⟨#[120]⟩,.string ⟨#[121,195,169]⟩,.string ⟨#[97,98,228,184,150]⟩] rfl;have H4:=Hd h4;have ht:=H4.out.cell 0 1 rfl rfl;clear h4;have H5:=Hd (H4.out.emptyAt9 3 (w1.heap.size+1) (by simp))
  go_wp2_with (at_builtin;refine wpList_appends_sep rfl (.tmp 34) (.tmp 35) 22 3 rfl Tryz.underlying22 Tryz.infoInt H5.out 0 rfl rfl _ 2 _ _ rfl (H5.out.ownInts 10 rfl).2.2 ?c1 ?_)
  case c1=>omega
  intro v9 w9 h9;have H9:=Hd h9;clear h9 H5 hc ht;have HX:=Hd (show kMesh xs a=([2,2],⟨#[121,195,169]⟩) from HQ.out);go_wp2;go_ret2;rw[HX.out];refine⟨_,_,rfl,_,by rw[HA1.out];exact HK.out,(Sep.dropMid 12 H9.out)⟩
 ·have hc:=H3.out.cell 0 3 rfl rfl;have hlt:(3:Int)<10:=by omega
  have h4:=H3.out.allocBox w1.heap.size 9 [.string ⟨#[120]⟩,.string ⟨#[121,195,169]⟩,.string ⟨#[97,98,228,184,150]⟩] rfl;have H4:=Hd h4;have ht:=H4.out.cell 0 0 rfl rfl;clear h4;have H5:=Hd (H4.out.emptyAt9 3 (w1.heap.size+1) (by simp))
  go_wp2_with (at_builtin;refine wpList_appends_sep rfl (.tmp 34) (.tmp 35) 22 3 rfl Tryz.underlying22 Tryz.infoInt H5.out 0 rfl rfl _ 1 _ _ rfl (H5.out.ownInts 9 rfl).2.2 ?c1 ?_)
  case c1=>omega
  intro v9 w9 h9;have H9:=Hd h9;clear h9 H5 hc ht;have HX:=Hd (show kMesh xs a=([4],⟨#[120]⟩) from HQ.out);go_wp2;go_ret2;rw[HX.out];refine⟨_,_,rfl,_,by rw[HA1.out];exact HK.out,(Sep.dropMid 12 H9.out)⟩
 ·have hc:=H3.out.cell 0 4 rfl rfl;have hlt:(4:Int)<10:=by omega
  have h4:=H3.out.allocBox w1.heap.size 9 [.string ⟨#[120]⟩,.string ⟨#[121,195,169]⟩,.string ⟨#[97,98,228,184,150]⟩] rfl;have H4:=Hd h4;have ht:=H4.out.cell 0 1 rfl rfl;clear h4;have H5:=Hd (H4.out.emptyAt9 3 (w1.heap.size+1) (by simp))
  go_wp2_with (at_builtin;refine wpList_appends_sep rfl (.tmp 34) (.tmp 35) 22 3 rfl Tryz.underlying22 Tryz.infoInt H5.out 0 rfl rfl _ 2 _ _ rfl (H5.out.ownInts 8 rfl).2.2 ?c1 ?_)
  case c1=>omega
  intro v9 w9 h9;have H9:=Hd h9;clear h9 H5 hc ht;have HX:=Hd (show kMesh xs a=([2,3],⟨#[121,195,169]⟩) from HQ.out);go_wp2;go_ret2;rw[HX.out];refine⟨_,_,rfl,_,by rw[HA1.out];exact HK.out,(Sep.dropMid 12 H9.out)⟩
 ·have hc:=H3.out.cell 0 5 rfl rfl;have hlt:(5:Int)<10:=by omega
  have h4:=H3.out.allocBox w1.heap.size 9 [.string ⟨#[120]⟩,.string ⟨#[121,195,169]⟩,.string ⟨#[97,98,228,184,150]⟩] rfl;have H4:=Hd h4;have ht:=H4.out.cell 0 0 rfl rfl;clear h4;have H5:=Hd (H4.out.emptyAt9 3 (w1.heap.size+1) (by simp))
  go_wp2_with (at_builtin;refine wpList_appends_sep rfl (.tmp 34) (.tmp 35) 22 3 rfl Tryz.underlying22 Tryz.infoInt H5.out 0 rfl rfl _ 0 _ _ rfl (H5.out.ownInts 7 rfl).2.2 ?c1 ?_)
  case c1=>omega
  intro v9 w9 h9;have H9:=Hd h9;clear h9 H5 hc ht;have HX:=Hd (show kMesh xs a=([],⟨#[]⟩) from HQ.out);go_wp2;go_ret2;rw[HX.out];refine⟨_,_,rfl,_,by rw[HA1.out];exact HK.out,(Sep.dropMid 12 H9.out)⟩
 ·have hc:=H3.out.cell 0 6 rfl rfl;have hlt:(6:Int)<10:=by omega
  have h4:=H3.out.allocBox w1.heap.size 9 [.string ⟨#[120]⟩,.string ⟨#[121,195,169]⟩,.string ⟨#[97,98,228,184,150]⟩] rfl;have H4:=Hd h4;have ht:=H4.out.cell 0 2 rfl rfl;clear h4;have H5:=Hd (H4.out.emptyAt9 3 (w1.heap.size+1) (by simp))
  go_wp2_with (at_builtin;refine wpList_appends_sep rfl (.tmp 34) (.tmp 35) 22 3 rfl Tryz.underlying22 Tryz.infoInt H5.out 0 rfl rfl _ 3 _ _ rfl (H5.out.ownInts 6 rfl).2.2 ?c1 ?_)
  case c1=>omega
  intro v9 w9 h9;have H9:=Hd h9;clear h9 H5 hc ht;have HX:=Hd (show kMesh xs a=([2,2,2],⟨#[97,98,228,184,150]⟩) from HQ.out);go_wp2;go_ret2;rw[HX.out];refine⟨_,_,rfl,_,by rw[HA1.out];exact HK.out,(Sep.dropMid 12 H9.out)⟩
 ·have hc:=H3.out.cell 0 7 rfl rfl;have hlt:(7:Int)<10:=by omega
  have h4:=H3.out.allocBox w1.heap.size 9 [.string ⟨#[120]⟩,.string ⟨#[121,195,169]⟩,.string ⟨#[97,98,228,184,150]⟩] rfl;have H4:=Hd h4;have ht:=H4.out.cell 0 0 rfl rfl;clear h4;have H5:=Hd (H4.out.emptyAt9 3 (w1.heap.size+1) (by simp))
  go_wp2_with (at_builtin;refine wpList_appends_sep rfl (.tmp 34) (.tmp 35) 22 3 rfl Tryz.underlying22 Tryz.infoInt H5.out 0 rfl rfl _ 1 _ _ rfl (H5.out.ownInts 5 rfl).2.2 ?c1 ?_)
  case c1=>omega
  intro v9 w9 h9;have H9:=Hd h9;clear h9 H5 hc ht;have HX:=Hd (show kMesh xs a=([5],⟨#[120]⟩) from HQ.out);go_wp2;go_ret2;rw[HX.out];refine⟨_,_,rfl,_,by rw[HA1.out];exact HK.out,(Sep.dropMid 12 H9.out)⟩
 ·have hc:=H3.out.cell 0 8 rfl rfl;have hlt:(8:Int)<10:=by omega
  have h4:=H3.out.allocBox w1.heap.size 9 [.string ⟨#[120]⟩,.string ⟨#[121,195,169]⟩,.string ⟨#[97,98,228,184,150]⟩] rfl;have H4:=Hd h4;have ht:=H4.out.cell 0 1 rfl rfl;clear h4;have H5:=Hd (H4.out.emptyAt9 3 (w1.heap.size+1) (by simp))
  go_wp2_with (at_builtin;refine wpList_appends_sep rfl (.tmp 34) (.tmp 35) 22 3 rfl Tryz.underlying22 Tryz.infoInt H5.out 0 rfl rfl _ 2 _ _ rfl (H5.out.ownInts 4 rfl).2.2 ?c1 ?_)
  case c1=>omega
  intro v9 w9 h9;have H9:=Hd h9;clear h9 H5 hc ht;have HX:=Hd (show kMesh xs a=([1,3],⟨#[121,195,169]⟩) from HQ.out);go_wp2;go_ret2;rw[HX.out];refine⟨_,_,rfl,_,by rw[HA1.out];exact HK.out,(Sep.dropMid 12 H9.out)⟩
 ·have hc:=H3.out.cell 0 9 rfl rfl;have hlt:(9:Int)<10:=by omega
  have h4:=H3.out.allocBox w1.heap.size 9 [.string ⟨#[120]⟩,.string ⟨#[121,195,169]⟩,.string ⟨#[97,98,228,184,150]⟩] rfl;have H4:=Hd h4;have ht:=H4.out.cell 0 0 rfl rfl;clear h4;have H5:=Hd (H4.out.emptyAt9 3 (w1.heap.size+1) (by simp))
  go_wp2_with (at_builtin;refine wpList_appends_sep rfl (.tmp 34) (.tmp 35) 22 3 rfl Tryz.underlying22 Tryz.infoInt H5.out 0 rfl rfl _ 1 _ _ rfl (H5.out.ownInts 3 rfl).2.2 ?c1 ?_)
  case c1=>omega
  intro v9 w9 h9;have H9:=Hd h9;clear h9 H5 hc ht;have HX:=Hd (show kMesh xs a=([8],⟨#[120]⟩) from HQ.out);go_wp2;go_ret2;rw[HX.out];refine⟨_,_,rfl,_,by rw[HA1.out];exact HK.out,(Sep.dropMid 12 H9.out)⟩
theorem infoBool:(Tryz.prog.info? 4).map (fun i=>(i.zero,i.size,i.bytes))=some (some (.bool false),1,1):=by kernel_rfl
theorem run_make_falses {n:Nat} (hn:n≤17592186044000) (w:World) :
  (Instr.makeSlice 77 (.int .i64 n) (.int .i64 n)).run Tryz.prog w=.ok (.slice (some ⟨w.heap.size,0,none⟩) n n) (w.alloc (.cells (Array.replicate n (Value.bool false)) 4)):=by
 rw[← List.toArray_replicate];have hu:Tryz.prog.underlying 77=some (.slice 4):=by kernel_rfl
 have hb:=infoBool
 cases e:Tryz.prog.info? 4 with
 | none=>rw[e] at hb;cases hb
 | some i =>
  rw[e] at hb;simp only[Option.map_some,Option.some.injEq,Prod.mk.injEq] at hb;obtain⟨hz0,hz1,hz2⟩:=hb;have:=run_make (P:=Tryz.prog) w _ _ i (.bool false) hu e hz0 .i64 .i64 n n (by omega) (by omega) (by rw[hz2];omega) (by omega);rw[this,hz1];simp only[Int.toNat_natCast,Nat.mul_one]
  have hm:madeCells (Value.bool false).cells n=(List.replicate n (Value.bool false)).toArray:=by
   apply Array.toList_inj.1;rw[show(Value.bool false).cells=#[Value.bool false] from rfl,toList_madeCells_one]
  rw[hm]
theorem set_mid (acc:List Int) (m:Nat) (x y:Int):(acc++y::List.replicate m 0).set acc.length x=(acc++[x])++List.replicate m 0:=by simp
def kSpec (xs:List Int) (ns:Nat):Nat→Nat→List Bool→List Int × Nat
 | 0,a,_=>([],a)
 | m+1,a,used =>
  if 0<ns then
   (if tv xs a 2=0 then
    (if used.getD (tv xs (ta xs a 2) ns).toNat true=false then
     (tv xs (ta xs a 2) ns::(kSpec xs ns m (ta xs (ta xs a 2) ns) (used.set (tv xs (ta xs a 2) ns).toNat true)).1,(kSpec xs ns m (ta xs (ta xs a 2) ns) (used.set (tv xs (ta xs a 2) ns).toNat true)).2)
    else(-1::(kSpec xs ns m (ta xs (ta xs a 2) ns) used).1,(kSpec xs ns m (ta xs (ta xs a 2) ns) used).2))
   else(-1::(kSpec xs ns m (ta xs a 2) used).1,(kSpec xs ns m (ta xs a 2) used).2))
  else(-1::(kSpec xs ns m a used).1,(kSpec xs ns m a used).2)
theorem spec_k {A1:Option Addr} {ns c1 r:Nat} (hr:r≤100) (hns:ns≤100) {w0 w:World} {l:List Chunk} {i g:Nat} {A:Option Addr} {n c a:Nat} {xs:List Int} (H:Sep w0 w l) (hi:l[i]? = some (TB g A n c a)) (hI:Ints w0 A n xs) (ha:a≤n) :
  Calls Tryz.prog 16 #[.pointer (some ⟨g,0,none⟩),.slice A1 ns c1,.int .i64 r] w fun e w' => ∃ v m,e=.returned v∧∃ l1,KT l i (TB g A n c (kSpec xs ns r a (List.replicate ns false)).2) l1∧Sep w0 w' (.own 3 v m (kSpec xs ns r a (List.replicate ns false)).1::l1):=by
 have HXL:=Hd hI.len;have HI:=Hd hI;have hnle:=hI.le;have KI:=Hd hi;have hm1:=run_make_noughts Tryz.underlying22 Tryz.infoInt (n:=r) (by omega);have hm2:=run_make_falses (n:=ns) (by omega);have h1:=(H.noughts 3 r (by omega)).allocBox (w.heap.size+1) 4 (List.replicate ns (Value.bool false)) (by simp);rw[List.toArray_replicate] at h1
 go_enter Tryz.func16,Tryz.ntmps16
 go_upto_region 3 with fail
 generalize (w.alloc (.cells (noughts r) 3)).alloc (.cells (Array.replicate ns (Value.bool false)) 4)=w2 at *;have hgs:w.heap.size<w.heap.size+1:=by omega
 generalize w.heap.size+1=gu at *;generalize w.heap.size=go at *;have H1:=Hd (h1.swap);clear h1 hm1 hm2 H hI hi
 go_wp2_with fail
 go_loopw [18] (fun iv wr=>∃(j:Nat) (acc:List Int) (a2:Nat) (used:List Bool) (l1:List Chunk),iv=.int .i64 j∧j≤r∧acc.length=j∧used.length=ns∧a2≤n∧(acc++(kSpec xs ns (r-j) a2 used).1,(kSpec xs ns (r-j) a2 used).2)=kSpec xs ns r a (List.replicate ns false)∧KT l i (TB g A n c a2) l1∧Sep w0 wr (.own 3 (.slice (some ⟨go,0,none⟩) r r) r (acc++List.replicate (r-j) 0)::.box gu 4 (used.map Value.bool)::l1)) (fun iv _=>r-(intOf iv).toNat)
 case atStart=>exact⟨0,[],a,List.replicate ns false,l,rfl,by omega,rfl,by simp,ha,rfl,⟨KI.out,fun _=>rfl⟩,by rw[List.map_replicate];exact H1.out⟩
 case round =>
  clear H1;obtain⟨j,acc,a2,used,l1,rfl,hj,hacc,hul,ba2,hq,hK,hS⟩:=hrel;have HQ:=Hd hq;have HK:=Hd hK;have HUL:=Hd hul;have HACC:=Hd hacc;clear hq hK hul hacc;by_cases hlt:j<r
  ·obtain⟨m,hm⟩:∃ m,r-j=m+1:=⟨r-j-1,by omega⟩;rw[hm,List.replicate_succ] at hS;have HQD:=Hd (show(acc++(kSpec xs ns (m+1) a2 used).1,(kSpec xs ns (m+1) a2 used).2)=kSpec xs ns r a (List.replicate ns false) by rw[← hm];exact HQ.out);have HM:=Hd (show r-(j+1)=m by omega);clear hm;have hxz:(acc++0::List.replicate m 0)[j]? = some 0:=by rw[List.getElem?_append_right (by have:=HACC.out;omega),HACC.out];simp
   have hcz:=(hS.own 0 rfl).cell hxz;have hff:=(hS.own 0 rfl).frozen j;have h5:=hS.store 0 j (x := -1) ⟨by omega,by omega⟩ rfl;rw[show(acc++0::List.replicate m 0:List Int).set j (-1)=(acc++[-1])++List.replicate m 0 by rw[← HACC.out];exact set_mid acc m (-1) 0] at h5;have H5:=Hd (show Sep w0 (wr.setCell ⟨go,j,none⟩ (.int .i64 (-1))) (.own 3 (.slice (some ⟨go,0,none⟩) r r) r ((acc++[-1])++List.replicate m 0)::.box gu 4 (used.map Value.bool)::l1) from h5);clear h5 hS hxz
   go_upto_region 7 with fail
   generalize wr.setCell ⟨go,j,none⟩ (.int .i64 (-1))=w5 at *;clear hcz hff;by_cases hns:0<ns
   ·have d1:decide (0<ns)=true:=by simpa using hns
    go_wp2_with fail
    refine(next_k 2 H5.out (i:=i+2) HK.out.1 HI.out ba2 ⟨by omega,by omega⟩).mono ?_;rintro e3 w3 ⟨rfl,l3,hK3,hS3⟩;obtain rfl:=hK3.eq;obtain⟨q,hq⟩:∃ q,tv xs a2 2=q:=⟨_,rfl⟩;obtain⟨a3,ha3⟩:∃ r,ta xs a2 2=r:=⟨_,rfl⟩;have ba3:=ta_le 2 HXL.out ba2;rw[ha3] at ba3 hS3;rw[hq];have HQ3:=Hd hq;have HA3:=Hd ha3;have H6:=Hd (show Sep w0 w3 (.own 3 (.slice (some ⟨go,0,none⟩) r r) r ((acc++[-1])++List.replicate m 0)::.box gu 4 (used.map Value.bool)::l1.set i (TB g A n c a3)) from hS3);have HK6:=Hd (HK.out.trans_ (KT.mk_ (b:=TB g A n c a3) HK.out.1));clear hq ha3 hS3 hK3 H5;by_cases h0:q=0
    ·subst h0
     go_wp2_with fail
     refine(next_k (ns:Int) H6.out (i:=i+2) HK6.out.1 HI.out ba3 ⟨by omega,by omega⟩).mono ?_;rintro e4 w4 ⟨rfl,l4,hK4,hS4⟩;obtain rfl:=hK4.eq;have k0:=tv_nonneg xs a3 (ns:Int);have k1:=tv_lt xs a3 (show(0:Int)<(ns:Int) by omega);obtain⟨kv,hkv⟩:∃ q,tv xs a3 (ns:Int)=q:=⟨_,rfl⟩;rw[hkv] at k0 k1 ⊢;obtain⟨k,rfl⟩:=Int.eq_ofNat_of_zero_le k0;obtain⟨a4,ha4⟩:∃ r,ta xs a3 (ns:Int)=r:=⟨_,rfl⟩;have ba4:=ta_le (ns:Int) HXL.out ba3;rw[ha4] at ba4 hS4;have HKV:=Hd hkv;have HA4:=Hd ha4;have H7:=Hd (show Sep w0 w4 (.own 3 (.slice (some ⟨go,0,none⟩) r r) r ((acc++[-1])++List.replicate m 0)::.box gu 4 (used.map Value.bool)::(l1.set i (TB g A n c a3)).set i (TB g A n c a4)) from hS4);have HK7:=Hd (HK6.out.trans_ (KT.mk_ (b:=TB g A n c a4) HK6.out.1));have hkn:k<ns:=by omega
     clear hkv ha4 hS4 hK4 H6 k0 k1;obtain⟨ub,hub⟩:∃ b,used[k]? = some b:=⟨_,List.getElem?_eq_getElem (by have:=HUL.out;omega)⟩;have hcu:=H7.out.cell 1 k rfl (show(used.map Value.bool)[k]? = some (.bool ub) by rw[List.getElem?_map,hub];rfl);have HGD:=Hd (show used.getD k true=ub by rw[List.getD_eq_getElem?_getD,hub];rfl);have HUB:=Hd hub;clear hub
     cases ub with
     | false =>
      have hxz:((acc++[-1])++List.replicate m 0)[j]? = some (-1):=by rw[List.getElem?_append_left (by rw[List.length_append,List.length_singleton];have:=HACC.out;omega),List.getElem?_append_right (by have:=HACC.out;omega),HACC.out];simp
      have hcz:=(H7.out.own 0 rfl).cell hxz;have hff:=(H7.out.own 0 rfl).frozen j;have h8:=H7.out.store 0 j (x:=(k:Int)) ⟨by omega,by omega⟩ rfl;rw[show((acc++[-1])++List.replicate m 0:List Int).set j (k:Int)=(acc++[(k:Int)])++List.replicate m 0 by rw[List.append_assoc,List.singleton_append,← HACC.out];exact set_mid acc m k (-1)] at h8;have H8:=Hd (show Sep w0 (w4.setCell ⟨go,j,none⟩ (.int .i64 (k:Int))) (.own 3 (.slice (some ⟨go,0,none⟩) r r) r ((acc++[(k:Int)])++List.replicate m 0)::.box gu 4 (used.map Value.bool)::(l1.set i (TB g A n c a3)).set i (TB g A n c a4)) from h8);have hcu2:=H8.out.cell 1 k rfl (show(used.map Value.bool)[k]? = some (.bool false) by rw[List.getElem?_map,HUB.out];rfl);have hfu2:=H8.out.frozenBox 1 k rfl;have h9:=H8.out.setBox 1 k (.bool true) rfl;have HMS:=Hd (show(used.map Value.bool).set k (.bool true)=(used.set k true).map Value.bool by rw[List.map_set]);have h10:Sep w0 ((w4.setCell ⟨go,j,none⟩ (.int .i64 (k:Int))).setCell ⟨gu,k,none⟩ (.bool true)) (.own 3 (.slice (some ⟨go,0,none⟩) r r) r ((acc++[(k:Int)])++List.replicate m 0)::.box gu 4 ((used.map Value.bool).set k (.bool true))::(l1.set i (TB g A n c a3)).set i (TB g A n c a4)):=h9;rw[HMS.out] at h10;have H10:=Hd h10;clear h8 h9 h10 hxz;have HQE:=Hd (show((acc++[(k:Int)])++(kSpec xs ns m a4 (used.set k true)).1,(kSpec xs ns m a4 (used.set k true)).2)=kSpec xs ns r a (List.replicate ns false) by have h7:=HQD.out;rw[kSpec,if_pos hns,HQ3.out,if_pos rfl,HA3.out,HKV.out,Int.toNat_natCast,HGD.out,if_pos rfl,HA4.out] at h7;rw[List.append_assoc];exact h7);go_wp2;go_roundw
      case rel=>exact⟨j+1,acc++[(k:Int)],a4,used.set k true,_,by go_num,by omega,by rw[List.length_append,List.length_singleton,HACC.out],by rw[List.length_set];exact HUL.out,by first|exact ba2|omega,by rw[HM.out];exact HQE.out,HK7.out,by rw[HM.out];exact H10.out⟩
      case measure=>simp[intOf];omega
     | true =>
      have HQE:=Hd (show((acc++[-1])++(kSpec xs ns m a4 used).1,(kSpec xs ns m a4 used).2)=kSpec xs ns r a (List.replicate ns false) by have h7:=HQD.out;rw[kSpec,if_pos hns,HQ3.out,if_pos rfl,HA3.out,HKV.out,Int.toNat_natCast,HGD.out,if_neg (by decide),HA4.out] at h7;rw[List.append_assoc];exact h7);go_wp2;go_roundw
      case rel=>exact⟨j+1,acc++[-1],a4,used,_,by go_num,by omega,by rw[List.length_append,List.length_singleton,HACC.out],HUL.out,by first|exact ba2|omega,by rw[HM.out];exact HQE.out,HK7.out,by rw[HM.out];exact H7.out⟩
      case measure=>simp[intOf];omega
    ·have d2:(q==0)=false:=by simpa using h0
     have HQE:=Hd (show((acc++[-1])++(kSpec xs ns m a3 used).1,(kSpec xs ns m a3 used).2)=kSpec xs ns r a (List.replicate ns false) by have h7:=HQD.out;rw[kSpec,if_pos hns,HQ3.out,if_neg h0,HA3.out] at h7;rw[List.append_assoc];exact h7);clear h0;go_wp2;go_roundw
     case rel=>exact⟨j+1,acc++[-1],a3,used,_,by go_num,by omega,by rw[List.length_append,List.length_singleton,HACC.out],HUL.out,by first|exact ba2|omega,by rw[HM.out];exact HQE.out,HK6.out,by rw[HM.out];exact H6.out⟩
     case measure=>simp[intOf];omega
   ·have d1:decide (0<ns)=false:=by simpa using hns
    have HQE:=Hd (show((acc++[-1])++(kSpec xs ns m a2 used).1,(kSpec xs ns m a2 used).2)=kSpec xs ns r a (List.replicate ns false) by have h7:=HQD.out;rw[kSpec,if_neg hns] at h7;rw[List.append_assoc];exact h7);go_wp2;go_roundw
    case rel=>exact⟨j+1,acc++[-1],a2,used,_,by go_num,by omega,by rw[List.length_append,List.length_singleton,HACC.out],HUL.out,by first|exact ba2|omega,by rw[HM.out];exact HQE.out,HK.out,by rw[HM.out];exact H5.out⟩
    case measure=>simp[intOf];omega
  ·have hjr:j=r:=by omega
   have HE:=Hd (show kSpec xs ns r a (List.replicate ns false)=(acc,a2) by rw[← HQ.out,show r-j=0 by omega,kSpec,List.append_nil]);rw[show r-j=0 by omega,List.replicate_zero,List.append_nil] at hS;have HS:=Hd hS;clear hS;go_wp2;go_ret;rw[HE.out];exact⟨_,_,rfl,_,HK.out,HS.out.less1⟩
end Go.Proofs.YtnnmplkgenhofaaGreat
