import Derived.Test.YtnnmplkgenhofaaPbg
import Derived.Test.YtnnmplkgenhofaaPbh
import Derived.Test.YtnnmplkgenhofaaPbp
import Derived.Test.YtnnmplkgenhofaaPbq
namespace Go.Proofs.Ytnnmplkgenhofaa
open Go.RowKit
def NodK (w:World) (us:List Value) (N:List NodeV):Prop :=
 us.length=N.length*7∧∀ (j:Nat) (nd:NodeV),N[j]? = some nd→∃ A na ca B nb cb C nc cc,(∀ i,i<7→us[j*7+i]? = (nodeCells nd A na ca B nb cb C nc cc)[i]?)∧NodeL w nd A na ca B nb cb C nc cc
theorem nodK_nil (w:World):NodK w [] []:=⟨rfl,fun j nd h=>by simp at h⟩
theorem NodK.below {w w' : World} {us:List Value} {N:List NodeV} (h:NodK w us N) (hb:Below w.heap.size w w'):NodK w' us N :=
 ⟨h.1,fun j nd hj=>by
  obtain ⟨A,na,ca,B,nb,cb,C,nc,cc,h1,h2⟩:=h.2 j nd hj
  exact ⟨A,na,ca,B,nb,cb,C,nc,cc,h1,h2.below hb⟩⟩
theorem NodK.append {w:World} {us vs:List Value} {N M:List NodeV} (h:NodK w us N) (g:NodK w vs M):NodK w (us++vs) (N++M):=by
 refine ⟨by rw [List.length_append,List.length_append,h.1,g.1];omega,fun j nd hj => ?_⟩;rcases Nat.lt_or_ge j N.length with hl | hl
 ·rw [List.getElem?_append_left hl] at hj;obtain ⟨A,na,ca,B,nb,cb,C,nc,cc,h1,h2⟩:=h.2 j nd hj;refine ⟨A,na,ca,B,nb,cb,C,nc,cc,fun i hi => ?_,h2⟩;rw [List.getElem?_append_left (by have:=h.1;omega)];exact h1 i hi
 ·rw [List.getElem?_append_right hl] at hj;obtain ⟨A,na,ca,B,nb,cb,C,nc,cc,h1,h2⟩:=g.2 _ nd hj;refine ⟨A,na,ca,B,nb,cb,C,nc,cc,fun i hi => ?_,h2⟩;have:=h.1;rw [List.getElem?_append_right (by omega),show j*7+i-us.length=(j-N.length)*7+i by omega];exact h1 i hi
theorem nodK_one {w:World} {nd:NodeV} {A:Option Addr} {na ca:Nat} {B:Option Addr} {nb cb:Nat} {C:Option Addr} {nc cc:Nat} (h:NodeL w nd A na ca B nb cb C nc cc):NodK w (nodeCells nd A na ca B nb cb C nc cc) [nd] :=
 ⟨rfl,fun j x hj=>by
  have hj0:j=0:=by
   rcases Nat.eq_zero_or_pos j with e | e
   ·exact e
   ·rw [List.getElem?_eq_none (by simp;omega)] at hj;cases hj
  subst hj0;injection hj with hj;subst hj
  exact ⟨A,na,ca,B,nb,cb,C,nc,cc,fun i _=>by rw [Nat.zero_mul,Nat.zero_add],h⟩⟩
def set7 (us:List Value) (k:Nat) (v0 v1 v2 v3 v4 v5 v6:Value):List Value :=
 ((((((us.set k v0).set (k+1) v1).set (k+2) v2).set (k+3) v3).set (k+4) v4).set (k+5) v5).set (k+6) v6
theorem set7_other {us:List Value} {k i:Nat} {v0 v1 v2 v3 v4 v5 v6:Value} (h:i<k∨k+7≤i):(set7 us k v0 v1 v2 v3 v4 v5 v6)[i]? = us[i]? := by
 unfold set7
 repeat rw [List.getElem?_set_ne (by omega)]
theorem set7_at {us:List Value} {k:Nat} {v0 v1 v2 v3 v4 v5 v6:Value} (hk:k+7≤us.length) {i:Nat} (hi:i<7):(set7 us k v0 v1 v2 v3 v4 v5 v6)[k+i]? = [v0,v1,v2,v3,v4,v5,v6][i]? := by
 unfold set7;have hc:i=0∨i=1∨i=2∨i=3∨i=4∨i=5∨i=6:=by omega
 rcases hc with rfl | rfl | rfl | rfl | rfl | rfl | rfl
 ·repeat rw [List.getElem?_set_ne (by omega)]
  rw [Nat.add_zero,List.getElem?_set_self (by omega)];rfl
 ·repeat rw [List.getElem?_set_ne (by omega)]
  rw [List.getElem?_set_self (by simp;omega)];rfl
 ·repeat rw [List.getElem?_set_ne (by omega)]
  rw [List.getElem?_set_self (by simp;omega)];rfl
 ·repeat rw [List.getElem?_set_ne (by omega)]
  rw [List.getElem?_set_self (by simp;omega)];rfl
 ·repeat rw [List.getElem?_set_ne (by omega)]
  rw [List.getElem?_set_self (by simp;omega)];rfl
 ·repeat rw [List.getElem?_set_ne (by omega)]
  rw [List.getElem?_set_self (by simp;omega)];rfl
 ·rw [List.getElem?_set_self (by simp;omega)];rfl
theorem NodK.set {w:World} {us:List Value} {N:List NodeV} (h:NodK w us N) {k:Nat} (hk:k<N.length) {nd:NodeV} {A:Option Addr} {na ca:Nat} {B:Option Addr} {nb cb:Nat} {C:Option Addr} {nc cc:Nat} (g:NodeL w nd A na ca B nb cb C nc cc) :
  NodK w (set7 us (k*7) (.int .i64 nd.op) (.slice A na ca) (.slice B nb cb) (.slice C nc cc) (.int .i64 nd.n) (.int .i64 nd.how) (.string nd.note)) (N.set k nd):=by
 refine ⟨by unfold set7;simp [h.1],fun j x hj => ?_⟩;by_cases e:j=k
 ·subst e;rw [List.getElem?_set_self hk] at hj;injection hj with hj;subst hj
  exact ⟨A,na,ca,B,nb,cb,C,nc,cc,fun i hi=>set7_at (by have:=h.1;omega) hi,g⟩
 ·rw [List.getElem?_set_ne (fun q=>e q.symm)] at hj;obtain ⟨A', na', ca', B', nb', cb', C', nc', cc', h1,h2⟩:=h.2 j x hj;refine ⟨A', na', ca', B', nb', cb', C', nc', cc', fun i hi => ?_,h2⟩;rw [set7_other (by omega)];exact h1 i hi
theorem nods_cells {w:World} {A:Option Addr} {n:Nat} {N:List NodeV} (h:Nods w A n N) :
  ∃ us,NodK w us N∧us.length=n*7∧(∀ u∈us,u.oneCell' = true)∧(∀ ad,A=some ad→∀ j u,us[j]? = some u→w.cell? (ad.add j)=some u):=by
 have key:∀ m,m≤N.length→∃ us,NodK w us (N.take m)∧(∀ u∈us,u.oneCell' = true)∧(∀ ad,A=some ad→∀ j u,us[j]? = some u→w.cell? (ad.add j)=some u):=by
  intro m
  induction m with
  | zero=>exact fun _=>⟨[],nodK_nil w,by simp,by simp⟩
  | succ m ih =>
   intro hm;obtain ⟨us,h1,h2,h3⟩:=ih (by omega);have hg:N[m]? = some (N[m]'(by omega)):=List.getElem?_eq_getElem (by omega);obtain ⟨nd,hnd⟩:∃ nd,N[m]'(by omega)=nd:=⟨_,rfl⟩;rw [hnd] at hg;obtain ⟨a,S,na,ca,B,nb,cb,C,nc,cc,e,hl,c0,c1,c2,c3,c4,c5,c6,hN⟩:=h.2.2 m nd hg;have hlen:us.length=m*7:=by rw [h1.1,List.length_take];congr 1;omega
   refine ⟨us++nodeCells nd S na ca B nb cb C nc cc,?_,?_,?_⟩
   ·rw [List.take_add_one,hg];exact h1.append (nodK_one hN)
   ·intro u hu;rcases List.mem_append.1 hu with hu | hu
    ·exact h2 u hu
    ·simp only [nodeCells,List.mem_cons,List.not_mem_nil,or_false] at hu;rcases hu with rfl | rfl | rfl | rfl | rfl | rfl | rfl <;> rfl
   ·intro ad had j u hu;rw [e] at had;injection had with had;subst had
    rcases Nat.lt_or_ge j us.length with hj | hj
    ·rw [List.getElem?_append_left hj] at hu;exact h3 a e j u hu
    ·rw [List.getElem?_append_right hj] at hu;obtain ⟨i,hi⟩:∃ i,j=m*7+i:=⟨j-m*7,by omega⟩;subst hi;rw [hlen,show m*7+i-m*7=i by omega] at hu
     have hi7:i<7:=by
      rcases Nat.lt_or_ge i 7 with q | q
      ·exact q
      ·rw [List.getElem?_eq_none (by simp [nodeCells];omega)] at hu;cases hu
     have adr:∀ i,0<i→a.add (m*7+i)=⟨(a.add (m*7)).block,(a.add (m*7)).off+i,none⟩:=fun i hi=>by
      by_cases hm0:m*7=0
      ·rw [hm0];simp [Addr.add];omega
      ·simp [Addr.add,hm0];omega
     have hc:i=0∨i=1∨i=2∨i=3∨i=4∨i=5∨i=6:=by omega
     rcases hc with rfl | rfl | rfl | rfl | rfl | rfl | rfl
     ·rw [Nat.add_zero,c0];exact hu
     ·rw [adr 1 (by omega),c1];exact hu
     ·rw [adr 2 (by omega),c2];exact hu
     ·rw [adr 3 (by omega),c3];exact hu
     ·rw [adr 4 (by omega),c4];exact hu
     ·rw [adr 5 (by omega),c5];exact hu
     ·rw [adr 6 (by omega),c6];exact hu
 obtain ⟨us,h1,h2,h3⟩:=key N.length (Nat.le_refl _);rw [List.take_length] at h1;exact ⟨us,h1,by rw [h1.1,h.1],h2,h3⟩
theorem row_nods {w0 w:World} {l:List Chunk} {v:Value} {n:Nat} {us:List Value} {N:List NodeV} (i:Nat) (h:Sep w0 w l) (hi:l[i]? = some (.row 32 7 v n us)) (hK:NodK w us N) (hn:N.length=n) (hn2:n≤900) :
  ∃ A c,v=.slice A n c∧n≤c∧Nods w A n N:=by
 have hr:w.ownsRow w0.heap.size 32 7 v n us:=h.at_ i hi;rcases Nat.eq_zero_or_pos n with e | e
 ·subst e;have hT:∀ A,Nods w A 0 N:=fun A=>⟨hn,by omega,fun j t ht=>by rw [List.eq_nil_of_length_eq_zero hn] at ht;simp at ht⟩
  rcases hr.2 with ⟨hv,_⟩ | ⟨g,cap,cur,hv,_⟩
  ·exact ⟨none,0,hv,Nat.le_refl _,hT _⟩
  ·exact ⟨_,cap,hv,Nat.zero_le _,hT _⟩
 ·obtain ⟨g,c,rfl,hc⟩:=h.rowForm i hi e;refine ⟨_,c,rfl,hc,hn,hn2,fun j nd hs => ?_⟩;have hj:j<N.length:=(List.getElem?_eq_some_iff.1 hs).1;obtain ⟨A,na,ca,B,nb,cb,C,nc,cc,h1,h2⟩:=hK.2 j nd hs;have hlt:=(World.ownsRow.lt hr g rfl).2;have hc0:∀ k:Nat,k<7→w.cell? ⟨g,j*7+k,none⟩=(nodeCells nd A na ca B nb cb C nc cc)[k]? := fun k hk=>(hr.cellAt (j*7+k) (by omega)).trans (h1 k hk)
  refine ⟨⟨g,0,none⟩,A,na,ca,B,nb,cb,C,nc,cc,rfl,hlt,?_,?_,?_,?_,?_,?_,?_,h2⟩
  ·rw [addrL0];exact hc0 0 (by omega)
  ·rw [addrL0];exact hc0 1 (by omega)
  ·rw [addrL0];exact hc0 2 (by omega)
  ·rw [addrL0];exact hc0 3 (by omega)
  ·rw [addrL0];exact hc0 4 (by omega)
  ·rw [addrL0];exact hc0 5 (by omega)
  ·rw [addrL0];exact hc0 6 (by omega)
theorem Sep.setRow {w0 w:World} {l:List Chunk} (h:Sep w0 w l) (i:Nat) {e:TypeId} {k g n c:Nat} {us:List Value} (hi:l[i]? = some (.row e k (.slice (some ⟨g,0,none⟩) n c) n us)) (j:Nat) (u:Value) :
  Sep w0 (w.setCell ⟨g,j,none⟩ u) (l.set i (.row e k (.slice (some ⟨g,0,none⟩) n c) n (us.set j u))):=by
 have hr:w.ownsRow w0.heap.size e k (.slice (some ⟨g,0,none⟩) n c) n us:=h.at_ i hi;obtain ⟨h1,h2⟩:=hr.stored j u;exact h.change i hi h2 h1 fun b hb=>.inl hb
theorem Sep.cellRow {w0 w:World} {l:List Chunk} (h:Sep w0 w l) (i:Nat) {e:TypeId} {k g n c:Nat} {us:List Value} (hi:l[i]? = some (.row e k (.slice (some ⟨g,0,none⟩) n c) n us)) {j:Nat} {u:Value} (hj:us[j]? = some u):w.cell? ⟨g,j,none⟩=some u:=by
 have hr:w.ownsRow w0.heap.size e k (.slice (some ⟨g,0,none⟩) n c) n us:=h.at_ i hi;have hl:=(List.getElem?_eq_some_iff.1 hj).1;have:=hr.1;exact (hr.cellAt j (by omega)).trans hj
theorem Sep.frozenRow {w0 w:World} {l:List Chunk} (h:Sep w0 w l) (i:Nat) {e:TypeId} {k g n c:Nat} {us:List Value} (hi:l[i]? = some (.row e k (.slice (some ⟨g,0,none⟩) n c) n us)) (j:Nat):w.frozen? ⟨g,j,none⟩=false:=by
 have hr:w.ownsRow w0.heap.size e k (.slice (some ⟨g,0,none⟩) n c) n us:=h.at_ i hi;exact hr.frozenAt j
theorem Sep.emptyRow {w0 w:World} {l:List Chunk} (h:Sep w0 w l):Sep w0 (w.alloc (.cells #[] 32)) (.row 32 7 (.slice (some ⟨w.heap.size,0,none⟩) 0 0) 0 []::l):=by
 refine h.pushNew (h.below ((Below.refl _ _).alloc (Nat.le_refl _) _)) ?_ fun k hk=>by
  have hk:some w.heap.size=some k:=hk;injection hk with hk;omega
 exact World.ownsRow_lit w #[] 0 h.size (Nat.zero_le _) rfl
structure NodC (w:World) (A:Option Addr) (m:Nat) (vs:List Value):Prop where
 len:vs.length=m*7
 one:∀ u∈vs,u.oneCell' = true
 at_:∀ ad,A=some ad→∀ j u,vs[j]? = some u→w.cell? (ad.add j)=some u
 none_:A=none→m=0
 few:m≤900
theorem nods_c {w:World} {A:Option Addr} {m:Nat} {M:List NodeV} (hM:Nods w A m M):∃ vs,NodK w vs M∧NodC w A m vs:=by
 obtain ⟨vs,k1,k2,k3,k4⟩:=nods_cells hM;refine ⟨vs,k1,k2,k3,k4,fun e => ?_,hM.2.1⟩;rcases Nat.eq_zero_or_pos m with h | h
 ·exact h
 ·obtain ⟨x,hx⟩:∃ x,M[0]? = some x:=⟨_,List.getElem?_eq_getElem (by have:=hM.1;omega)⟩;obtain ⟨a0,_,_,_,_,_,_,_,_,_,e0,_⟩:=hM.2.2 0 x hx;rw [e] at e0;cases e0
theorem NodC.below {w w' : World} {A:Option Addr} {m:Nat} {vs:List Value} (h:NodC w A m vs) (hb:Below w.heap.size w w'):NodC w' A m vs :=
 ⟨h.len,h.one,fun ad e j u hu=>(hb.cell (World.block_lt_of_cell? _ _ (h.at_ ad e j u hu))).trans (h.at_ ad e j u hu),h.none_,h.few⟩
theorem wpList_append_nods {w0 w:World} {ops:Array Oper} {rest:List Oper} {o:Oper} {a:Act} {Q:Exit→Act→World→Prop} (hgd:o.guard=none) (s y:Operand) (t:TypeId)
  (ho:o.op=.call { callee:=.builtin .append,args:=#[s,y],argTypes:=#[t,t] }) (ht:Try.prog.underlying t=some (.slice 32))
  {l:List Chunk} (H:Sep w0 w l) (i:Nat) {v:Value} {n:Nat} {us:List Value} (hi:l[i]? = some (.row 32 7 v n us)) (hs:a.eval s=v) {A:Option Addr} {m c:Nat} {vs:List Value} (hy:a.eval y=.slice A m c) (hM:NodC w A m vs)
  (hn:n≤1000)
  (h:∀ v' w', Sep w0 w' (l.set i (.row 32 7 v' (n+m) (us++vs)))→wpList Try.prog ops Q rest (a.put o.dst v') w') :
  wpList Try.prog ops Q (o::rest) a w:=by
 obtain ⟨ti,g1,g2,g3,g4⟩:=infoNode_parts;have hr:w.ownsRow w0.heap.size 32 7 v n us:=H.at_ i hi;have hfew:=hM.few
 cases A with
 | some ad =>
  refine wpList_append_own_at _ hgd s y t ho w0.heap.size 32 ti _ 7 112 ht g1 g2 g3 g4 (by rfl) (by omega) v n us hs hr ad m c vs hy hM.len (hM.at_ ad rfl) hM.one (by unfold maxLen;omega) (by omega) H.size ?_;intro v' w' h5 h6 _ h8
  exact h v' w' (H.change i hi h6 h5 fun b hb=>by
   have hb:v'.ownBlock=some b:=hb;rcases h8 with e | e
   ·exact .inl (e.symm.trans hb)
   ·rw [e] at hb;injection hb with hb;subst hb;exact .inr (Nat.le_refl _))
 | none =>
  have hm:m=0:=hM.none_ rfl;subst hm;have hvs:vs=[]:=List.eq_nil_of_length_eq_zero (by have:=hM.len;omega)
  have hrun:(Builtin.append_ #[t,t] o.type #[v,.slice none 0 c]).run Try.prog w=.ok v w:=by
   rcases hr.2 with ⟨rfl,rfl⟩ | ⟨g,cap,cur,rfl,_,_,hnc,_⟩
   ·simp [Builtin.append_,run_underlying ht,sizeOf,typeInfo,g1,Builtin.lenOf,Builtin.firstCells]
   ·simp [Builtin.append_,run_underlying ht,sizeOf,typeInfo,g1,Builtin.lenOf,Builtin.firstCells,hnc,storeCells]
  refine wpList_plain hgd fun K hK => ?_
  unfold Oper.wp execOp;simp only [ho,resolve,invoke,builtin,Sem.run_bind,Sem.run_pure,Result.andThen_ok,List.map_toArray,List.map_cons,List.map_nil,hs,hy,hrun]
  have hset:l.set i (.row 32 7 v (n+0) (us++vs))=l:=by
   rw [hvs,List.append_nil,Nat.add_zero];apply List.ext_getElem?;intro j;by_cases e:j=i
   ·subst e;rw [List.getElem?_set_self (List.getElem?_eq_some_iff.1 hi).1,hi]
   ·rw [List.getElem?_set_ne (fun q=>e q.symm)]
  exact hK _ _ (h v w (by rw [hset];exact H))
def sizesB (s:List Int):Bool:=decide (s.length≤3) && s.all sizeOk && decide (Sh.pr s≤8)
theorem meshF_eq (G:GraphV):meshF G=(sizesB G.sizes && rightB (runesOf G.names) G.sizes.length):=rfl
theorem sizes_bad {s:List Int} {j:Nat} {x:Int} (h:s[j]? = some x) (hx:x<1∨8<x):sizesB s=false:=by
 obtain ⟨hj,rfl⟩:=List.getElem?_eq_some_iff.1 h
 cases e:sizesB s with
 | false=>rfl
 | true =>
  simp only [sizesB,Bool.and_eq_true,decide_eq_true_eq,List.all_eq_true,sizeOk] at e;obtain ⟨⟨h1,h2⟩,_⟩:=e;have:=h2 _ (List.getElem_mem hj);omega
theorem sizes_end {s:List Int} (hl:s.length≤3) (h:∀ (i:Nat) (x:Int),s[i]? = some x→1≤x∧x≤8):sizesB s=decide (Sh.pr s≤8):=by
 have:s.all sizeOk=true:=by
  rw [List.all_eq_true];intro x hx;obtain ⟨i,hi,e⟩:=List.getElem_of_mem hx;have:=h i x (by rw [List.getElem?_eq_getElem hi,e]);simp [sizeOk,this]
 simp only [sizesB,this,decide_eq_true hl,Bool.true_and]
set_option maxRecDepth 100000 in
set_option maxHeartbeats 1600000 in
theorem gSizes_any {w:World} {A:Option Addr} {n c:Nat} {s:List Int} (h:Ints w A n s) :
  Calls Try.prog 21 #[.slice A n c] w fun e w' => e=.returned (.bool (sizesB s))∧w=w' := by
 have HSL:=Hd h.len;have hle:=h.le;by_cases hn:3<n
 ·have d0:decide (3<n)=true:=by simpa using hn
  have HX:=Hd (show sizesB s=false by rw [sizesB,decide_eq_false (by have:=HSL.out;omega)];rfl);clear h
  go_enter Try.func21,Try.ntmps21
  go_wp2;go_ret;exact ⟨ret_bool HX.out.symm,rfl⟩
 have d0:decide (3<n)=false:=by simpa using hn
 have hn3:n≤3:=by omega
 go_enter Try.func21,Try.ntmps21
 go_wp2
 go_loop [11,3] (fun iv nv=>∃ j:Nat,iv=.int .i64 j∧nv=.int .i64 (Sh.pr (s.take j))∧j≤n∧(∀ (i:Nat) (x:Int),s[i]? = some x→i<j→1≤x∧x≤8)) (fun iv _=>n-(intOf iv).toNat)
 case atStart=>exact ⟨0,rfl,rfl,by omega,by omega⟩
 case round =>
  obtain ⟨j,rfl,rfl,hj,hAll⟩:=hrel;have HA:=Hd hAll;clear hAll;by_cases hlt:j<n
  ·obtain ⟨sa,x,hsA,_,hx,hcx,hfx⟩:=h.at_ (k:=j) hlt;subst hsA;by_cases h1:x<1
   ·have d1:decide (x<1)=true:=by simpa using h1
    have HX:=Hd (sizes_bad hx (by omega));clear hx hfx;go_wp2;go_ret;exact ⟨ret_bool HX.out.symm,rfl⟩
   have d1:decide (x<1)=false:=by simpa using h1
   by_cases h2:8<x
   ·have d2:decide (8<x)=true:=by simpa using h2
    have HX:=Hd (sizes_bad hx (by omega));clear hx hfx;go_wp2;go_ret;exact ⟨ret_bool HX.out.symm,rfl⟩
   have d2:decide (8<x)=false:=by simpa using h2
   have hpt:=Sh.pr_take s hx;have HX:=Hd hx
   have hps:∀ k,k≤j+1→0≤Sh.pr (s.take k)∧Sh.pr (s.take k)≤1048576:=fun k hk=>by
    have hm:∀ y∈s.take k,0≤y∧y≤32:=fun y hy=>by
     obtain ⟨i,hi,e⟩:=List.getElem_of_mem hy;rw [List.length_take] at hi;have hi2:s[i]? = some y:=by rw [← e,List.getElem_take,List.getElem?_eq_getElem]
     rcases Nat.lt_or_ge i j with hij | hij
     ·have:=HA.out i y hi2 hij;omega
     ·obtain rfl:i=j:=by omega
      have h9:=HX.out;rw [hi2] at h9;injection h9 with h9;omega
    have hl4:(s.take k).length≤4:=by rw [List.length_take];omega
    exact Sh.pr_small _ hm hl4
   obtain ⟨hq1,hq2⟩:=hps (j+1) (by omega);obtain ⟨hq3,hq4⟩:=hps j (by omega);rw [hpt] at hq1 hq2;obtain ⟨P,hP⟩:∃ P,Sh.pr (s.take j)=P:=⟨_,rfl⟩;rw [hP] at hq1 hq2 hq3 hq4 hpt ⊢;have hwp:IntKind.i64.wrap (P*x)=P*x:=IntWalk.i64_in _ ⟨by omega,by omega⟩;have HPT:=Hd hpt;clear hpt hps hP hx hfx;go_wp2;go_round
   case rel=>exact ⟨j+1,by go_num,by rw [HPT.out],by omega,fun i y hi hi2=>by
    rcases Nat.lt_or_ge i j with hij | hij
    ·exact HA.out i y hi hij
    ·obtain rfl:i=j:=by omega
     have h9:=HX.out
     rw [hi] at h9;injection h9 with h9;omega⟩
   case measure=>simp [intOf];omega
  ·obtain rfl:j=n:=by omega
   have HE:=Hd (sizes_end (s:=s) (by have:=HSL.out;omega) (fun i x hi=>HA.out i x hi (by have:=HSL.out;have:=(List.getElem?_eq_some_iff.1 hi).1;omega)));rw [List.take_of_length_le (by have:=HSL.out;omega)];obtain ⟨P,hP⟩:∃ P,Sh.pr s=P:=⟨_,rfl⟩;rw [hP] at HE ⊢;clear hP;go_wp2;go_ret;exact ⟨ret_bool (by rw [HE.out]),rfl⟩
theorem run_make_row {t e:TypeId} {i:TypeInfo} {z:Value} {k:Nat} (ht:Try.prog.underlying t=some (.slice e)) (hi:Try.prog.info? e=some i) (hz:i.zero=some z) (hk:i.size=k) (hb:i.bytes≤200) {l c:Nat} (hlc:l≤c) (hc:c≤1000) (w:World) :
  (Instr.makeSlice t (.int .i64 l) (.int .i64 c)).run Try.prog w=.ok (.slice (some ⟨w.heap.size,0,none⟩) l c) (w.alloc (.cells (madeCells z.cells (c*k)) e)):=by
 have hbc:i.bytes*c≤200*1000:=Nat.mul_le_mul hb hc;have:=run_make (P:=Try.prog) w t e i z ht hi hz .i64 .i64 l c (by omega) (by omega) (by omega) (by omega);rw [this,hk];simp only [Int.toNat_natCast]
theorem Sep.madeRow {w0 w:World} {l:List Chunk} (h:Sep w0 w l) (e:TypeId) (k n c:Nat) (cs:Array Value) (hs:cs.size=c*k) (hnc:n≤c) (hc:c≤1000) :
  Sep w0 (w.alloc (.cells cs e)) (.row e k (.slice (some ⟨w.heap.size,0,none⟩) n c) n (cs.toList.take (n*k))::l):=by
 have hnk:n*k≤c*k:=Nat.mul_le_mul_right k hnc
 refine h.pushNew (h.below ((Below.refl _ _).alloc (Nat.le_refl _) _)) ?_ fun k hk=>by
  have hk:some w.heap.size=some k:=hk;injection hk with hk;omega
 exact ⟨by rw [List.length_take,Array.length_toList,hs];omega,.inr ⟨w.heap.size,c,cs,rfl,h.size,heap_alloc_new _ _,hnc,by unfold maxLen;omega,hs,rfl⟩⟩
def lRow (n:Nat):Array Value:=madeCells #[.slice none 0 0] n
theorem lRow_size (n:Nat):(lRow n).size=n:=size_madeCells _ _
theorem run_make_lists {l c:Nat} (hlc:l≤c) (hc:c≤1000) (w:World) :
  (Instr.makeSlice 27 (.int .i64 l) (.int .i64 c)).run Try.prog w=.ok (.slice (some ⟨w.heap.size,0,none⟩) l c) (w.alloc (.cells (lRow c) 22)):=by
 obtain ⟨i,hi,hz,hs,hb⟩:=infoLst_parts;have:=run_make_row Try.underlying27 hi hz hs (by omega) hlc hc w;rw [this,Nat.mul_one];rfl
theorem run_make_lists0 {c:Nat} (hc:c≤1000) (w:World) :
  (Instr.makeSlice 27 (.int .i64 0) (.int .i64 c)).run Try.prog w=.ok (.slice (some ⟨w.heap.size,0,none⟩) 0 c) (w.alloc (.cells (lRow c) 22)):=run_make_lists (l:=0) (Nat.zero_le _) hc w
def LilK (w:World) (us:List Value) (L:List (List Int)):Prop:=L.length≤us.length∧∀ (j:Nat) (s:List Int),L[j]? = some s→∃ B m c,us[j]? = some (.slice B m c)∧m≤c∧Ints w B m s
theorem lilK_nil (w:World) (us:List Value):LilK w us []:=⟨Nat.zero_le _,fun j s h=>by simp at h⟩
theorem LilK.snoc {w:World} {us:List Value} {L:List (List Int)} (h:LilK w us L) {B:Option Addr} {m c:Nat} {s:List Int} (hI:Ints w B m s) (hm:m≤c) {q:Nat} (hq:L.length=q) (hu:q<us.length):LilK w (us.set q (.slice B m c)) (L++[s]):=by
 refine ⟨by rw [List.length_set,List.length_append,List.length_singleton];omega,fun j x hx => ?_⟩;rcases Nat.lt_or_ge j L.length with hj | hj
 ·rw [List.getElem?_append_left hj] at hx;rw [List.getElem?_set_ne (by omega)];exact h.2 j x hx
 ·rw [List.getElem?_append_right hj] at hx
  have hj' : j=q:=by
   rcases Nat.eq_or_lt_of_le hj with e | e
   ·omega
   ·rw [List.getElem?_eq_none (by simp;omega)] at hx;cases hx
  subst hj';rw [hq,Nat.sub_self] at hx;injection hx with hx;subst hx
  exact ⟨B,m,c,by rw [List.getElem?_set_self hu],hm,hI⟩
theorem row_lils {w0 w:World} {l:List Chunk} {g n c:Nat} {us:List Value} {L:List (List Int)} (h:Sep w0 w l) (i:Nat) (hi:l[i]? = some (.row 22 1 (.slice (some ⟨g,0,none⟩) n c) n us)) (hK:LilK w0 us L) (hn:L.length=n) (hn2:n≤900):Lils w (some ⟨g,0,none⟩) n L:=by
 have hr:w.ownsRow w0.heap.size 22 1 (.slice (some ⟨g,0,none⟩) n c) n us:=h.at_ i hi;refine ⟨hn,hn2,fun j x hx => ?_⟩;obtain ⟨B,m,cc,hu,hm,hI⟩:=hK.2 j x hx;have hj:j<L.length:=(List.getElem?_eq_some_iff.1 hx).1;exact ⟨⟨g,0,none⟩,B,m,cc,rfl,(World.ownsRow.lt hr g rfl).2,by rw [addrL0,hr.cellAt j (by omega),hu],hm,h.oldI hI⟩
noncomputable def nextR (nm:List Int) (acc:List (List Int)) (nd:NodeV):Int × List Int :=
 if insOk acc nd.ins=true then
  (if (shapeR nd (insOf acc nd.ins)).1=0 then
   (if noteE nm nd (shapeR nd (insOf acc nd.ins)).2.length=0 then (0,(shapeR nd (insOf acc nd.ins)).2)
   else (noteE nm nd (shapeR nd (insOf acc nd.ins)).2.length,[]))
  else ((shapeR nd (insOf acc nd.ins)).1,[]))
 else (23,[])
theorem shapesGo_next (nm:List Int) (acc:List (List Int)) (nd:NodeV) (l:List NodeV):shapesGo nm acc (nd::l)=if (nextR nm acc nd).1=0 then shapesGo nm (acc++[(nextR nm acc nd).2]) l else ((nextR nm acc nd).1,[]):=by
 rw [shapesGo,nextR]
 split
 ·split
  ·split
   ·rfl
   ·rfl
  ·rfl
 ·rfl
set_option maxRecDepth 100000 in
set_option maxHeartbeats 3200000 in
theorem gNext_any {w:World} {v:Value} {nd:NodeV} {nm:ByteArray} {Al:Option Addr} {nl cl:Nat} {acc:List (List Int)} (hnm:nm.size≤17592186044000) (h:NodeIs w v nd) (hLi:Lils w Al nl acc) (hq:nd.ins.length≤800) :
  Calls Try.prog 23 #[.string nm,v,.slice Al nl cl] w (ListPost w (nextR (runesOf nm) acc nd)):=by
 have HN:=h;obtain ⟨S,ns,cs,D,nD,cD,E,ne,ce,rfl,hNL⟩:=h;replace HN:=Hd HN;have h1:=(Sep.nil w).allocBox w.heap.size 32 [.int .i64 nd.op,.slice S ns cs,.slice D nD cD,.slice E ne ce,.int .i64 nd.n,.int .i64 nd.how,.string nd.note] rfl;have HNL:=Hd hNL;have HSL:=Hd hNL.inA.len;have hns:ns≤800:=by have:=HSL.out;omega
 have hln:=hLi.2.1;have HLI:=Hd hLi;have HLL:=Hd hLi.1;obtain ⟨nmr,hnmr⟩:∃ r,runesOf nm=r:=⟨_,rfl⟩;have HNM:=Hd hnmr;have HNT:=Hd hNL.note;have HNZ:=Hd hnm;rw [hnmr];clear hNL hLi hq hnmr hnm
 go_enter Try.func23,Try.ntmps23
 go_upto_region 1 with fail
 generalize w.alloc (.cells #[.int .i64 nd.op,.slice S ns cs,.slice D nD cD,.slice E ne ce,.int .i64 nd.n,.int .i64 nd.how,.string nd.note] 32)=W at *;generalize hgn:w.heap.size=gn at *;have HGN:=Hd hgn;have H:=Hd h1;clear h1 hgn;obtain ⟨n0,n1,n2,n3,n4,n5,n6⟩:=H.out.cells7 0 rfl;have hmk:=run_make_lists (l:=ns) (c:=ns) (Nat.le_refl _) (by omega);have h2:=H.out.madeRow 22 1 ns ns (lRow ns) (by rw [lRow_size,Nat.mul_one]) (Nat.le_refl _) (by omega)
 go_upto_region 2 with fail
 generalize W.alloc (.cells (lRow ns) 22)=W2 at *;generalize hgr:W.heap.size=gr at *;have HGR:=Hd hgr;replace H:=Hd h2;clear h2 hmk hgr n0 n1 n2 n3 n4 n5 n6;obtain ⟨u0,hu0⟩:∃ u,(lRow ns).toList.take (ns*1)=u:=⟨_,rfl⟩;have HU0:=Hd (show u0.length=ns by rw [← hu0,List.length_take,Array.length_toList,lRow_size];omega);rw [hu0] at H;clear hu0;have n1:=H.out.cell 1 1 rfl rfl
 go_wp2_with fail
 clear n1
 go_loopw [23] (fun iv wr=>∃ (q:Nat) (us:List Value),iv=.int .i64 q∧q≤ns∧us.length=ns∧(∀ (i:Nat) (x:Int),nd.ins[i]? = some x→i<q→0≤x∧x<acc.length)∧LilK w us (insOf acc (nd.ins.take q))∧Sep w wr [.row 22 1 (.slice (some ⟨gr,0,none⟩) ns ns) ns us,.box gn 32 [.int .i64 nd.op,.slice S ns cs,.slice D nD cD,.slice E ne ce,.int .i64 nd.n,.int .i64 nd.how,.string nd.note]]) (fun iv _=>ns-(intOf iv).toNat)
 case atStart=>exact ⟨0,u0,rfl,by omega,HU0.out,by omega,lilK_nil _ _,H.out⟩
 case round =>
  clear H;obtain ⟨q,us,rfl,hq,hul,hAll,hK,hS⟩:=hrel;have H:=Hd hS;have HK:=Hd hK;have HA:=Hd hAll;have HUL:=Hd hul;clear hS hK hAll hul;by_cases hlq:q<ns
  ·obtain ⟨sa,x,hsA,_,hx,hcx,_⟩:=(H.out.oldI HNL.out.inA).at_ (k:=q) hlq;subst hsA;have HX:=Hd hx;have HBAD:=Hd (show ¬ (0≤x∧x<acc.length)→nextR nmr acc nd=(23,[]) from fun h=>by rw [nextR,if_neg];rw [insOk_bad HX.out h];simp);clear hx;by_cases h1:x<0
   ·have d1:decide (x<0)=true:=by simpa using h1
    have HQ:=Hd (HBAD.out (by omega));clear HBAD;go_wp2;go_ret2;exact listPost_no HQ.out H.out.base
   have d1:decide (x<0)=false:=by simpa using h1
   obtain ⟨xx,rfl⟩:=Int.eq_ofNat_of_zero_le (by omega:0≤x);by_cases h2:nl≤xx
   ·have d2:decide (nl≤xx)=true:=by simpa using h2
    have HQ:=Hd (HBAD.out (by have:=HLL.out;omega));clear HBAD;go_wp2;go_ret2;exact listPost_no HQ.out H.out.base
   have d2:decide (nl≤xx)=false:=by simpa using h2
   clear HBAD;obtain ⟨s,hs⟩:∃ s,acc[xx]? = some s:=⟨_,List.getElem?_eq_getElem (by have:=HLL.out;omega)⟩;obtain ⟨la,B5,m5,c5,hAl,hlb,hcl,hmc,hI5⟩:=HLI.out.2.2 xx s hs;subst hAl;have hcy:=H.out.oldCell (p:=la.add xx) (blk_add hlb) hcl;obtain ⟨u9,hu9⟩:∃ u,us[q]? = some u:=⟨_,List.getElem?_eq_getElem (by have:=HUL.out;omega)⟩;have hcq:=H.out.cellRow 0 rfl hu9;have hfq:=H.out.frozenRow 0 rfl q;have HST:=Hd (H.out.setRow 0 rfl q (.slice B5 m5 c5))
   have HK2:=Hd (show LilK w (us.set q (.slice B5 m5 c5)) (insOf acc (nd.ins.take (q+1))) by
    have he:insOf acc (nd.ins.take (q+1))=insOf acc (nd.ins.take q)++[s]:=by
     rw [List.take_add_one,HX.out,insOf,insOf,List.map_append];simp [List.getD_eq_getElem?_getD,hs]
    rw [he]
    exact HK.out.snoc hI5 hmc (by rw [insOf,List.length_map,List.length_take];have:=HSL.out;omega) (by have:=HUL.out;omega))
   have hxn:xx<nl:=by omega
   clear hs hcl hI5 hu9;go_wp2;go_roundw
   case rel=>exact ⟨q+1,_,by go_num,by omega,by rw [List.length_set];exact HUL.out,fun i y hi hi2=>by
    rcases Nat.lt_or_ge i q with hij | hij
    ·exact HA.out i y hi hij
    ·obtain rfl:i=q:=by omega
     have h9:=HX.out
     rw [hi] at h9;injection h9 with h9;have:=HLL.out;omega,HK2.out,HST.out⟩
   case measure=>simp [intOf];omega
  ·obtain rfl:q=ns:=by omega
   have HIN:=Hd (show insOk acc nd.ins=true from insOk_good fun i x hi=>HA.out i x hi (by have:=HSL.out;have:=(List.getElem?_eq_some_iff.1 hi).1;omega));have hK9:=HK.out;rw [List.take_of_length_le (by have:=HSL.out;omega)] at hK9;have hLi:=row_lils H.out 0 rfl hK9 (by rw [insOf,List.length_map];exact HSL.out) (by omega);have CS:=gShape_any (cl:=q) (show NodeIs wr (.agg #[.int .i64 nd.op,.slice S q cs,.slice D nD cD,.slice E ne ce,.int .i64 nd.n,.int .i64 nd.how,.string nd.note]) nd from HN.out.below H.out.base) hLi;obtain ⟨⟨e5,s5⟩,hR⟩:∃ r,shapeR nd (insOf acc nd.ins)=r:=⟨_,rfl⟩;rw [hR] at CS;have HR:=Hd hR;clear hLi hR hK9;obtain ⟨n0,n1,n2,n3,n4,n5,n6⟩:=H.out.cells7 1 rfl
   go_wp2_with fail
   refine CS.mono ?_;rintro e4 w4 ⟨⟨v5,m5,rfl,hO⟩,hb4⟩;clear CS n0 n1 n2 n3 n4 n5 n6;replace hO:OwnS w4 _ 3 v5 m5 s5:=hO;obtain ⟨A5,c5,rfl,hmc5,_,_⟩:=hO.form;have HML:=Hd hO.len;replace H:=Hd (H.out.addOwn hb4 hO);clear hO hb4;by_cases he:e5=0
   ·subst he;have n6:=H.out.cell 2 6 rfl rfl;have CN:=nNote_any (w:=w4) (m5:Int) HNZ.out HNT.out;rw [HNM.out] at CN;obtain ⟨e6,hE⟩:∃ e6,noteE nmr nd m5=e6:=⟨_,rfl⟩;have HE6:=Hd hE;unfold noteE at hE;rw [hE] at CN;clear hE
    go_wp2_with fail
    refine CN.mono ?_;rintro e8 w8 ⟨⟨v8,m8,rfl,_⟩,hb8⟩;replace H:=Hd (H.out.below hb8);clear CN hb8 n6;by_cases he6:e6=0
    ·subst he6;have HQ:=Hd (show nextR nmr acc nd=(0,s5) by rw [nextR,if_pos HIN.out,HR.out,if_pos rfl,HML.out,HE6.out,if_pos rfl]);go_wp2;go_ret2;exact listPost_yes HQ.out (H.out.ownS 0 rfl) H.out.base
    ·have dE:(e6 != 0)=true:=by simpa using he6
     have HQ:=Hd (show nextR nmr acc nd=(e6,[]) by rw [nextR,if_pos HIN.out,HR.out,if_pos rfl,HML.out,HE6.out,if_neg he6]);clear he6;go_wp2;go_ret2;exact listPost_no HQ.out H.out.base
   ·have dE:(e5 != 0)=true:=by simpa using he
    have HQ:=Hd (show nextR nmr acc nd=(e5,[]) by rw [nextR,if_pos HIN.out,HR.out,if_neg he]);clear he;go_wp2;go_ret2;exact listPost_no HQ.out H.out.base
end Go.Proofs.Ytnnmplkgenhofaa
