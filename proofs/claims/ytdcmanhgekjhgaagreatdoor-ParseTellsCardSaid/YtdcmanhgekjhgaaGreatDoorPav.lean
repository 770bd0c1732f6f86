import Derived.Test.YtdcmanhgekjhgaaGreatDoorPar
import Derived.Test.YtdcmanhgekjhgaaGreatDoorPau
set_option maxRecDepth 100000
set_option maxHeartbeats 12800000
namespace Go.Proofs.YtdcmanhgekjhgaaGreatDoor
open Go.RowKit Go.Proofs.Tryz
variable {A B C:Option Addr} {M N:List a0l} {c ca cb cc g i k m n na nb nc:Nat} {e:TypeId} {nd:a0l} {us vs:List Value} {v v0 v1 v2 v3 v4 v5 v6:Value} {w w' w0:World}
def NodK (w:World) (us:List Value) (N:List a0l):Prop :=
 us.length=N.length*7∧∀(j:Nat) (nd:a0l),N[j]?=some nd→∃ A na ca B nb cb C nc cc,(∀ i,i<7→us[j*7+i]?=(a8n nd A na ca B nb cb C nc cc)[i]?)∧a9l w nd A na ca B nb cb C nc cc
theorem d1i (w:World):NodK w [] []:=⟨rfl,fun j nd h=>by simp at h⟩
theorem NodK.below (h:NodK w us N)(hb:Below w.heap.size w w'):NodK w' us N :=
 ⟨h.1,fun j nd hj=>by
  obtain⟨A,na,ca,B,nb,cb,C,nc,cc,h1,h2⟩:=h.2 j nd hj
  exact⟨A,na,ca,B,nb,cb,C,nc,cc,h1,h2.below hb⟩⟩
theorem NodK.append (h:NodK w us N)(g:NodK w vs M):NodK w (us++vs) (N++M):=by
 refine⟨by rw[List.length_append,List.length_append,h.1,g.1];omega,fun j nd hj=>?_⟩;rcases Nat.lt_or_ge j N.length with hl|hl
 ·rw[List.getElem?_append_left hl] at hj;obtain⟨A,na,ca,B,nb,cb,C,nc,cc,h1,h2⟩:=h.2 j nd hj;refine⟨A,na,ca,B,nb,cb,C,nc,cc,fun i hi=>?_,h2⟩;rw[List.getElem?_append_left (by have:=h.1;omega)];exact h1 i hi
 ·rw[List.getElem?_append_right hl] at hj;obtain⟨A,na,ca,B,nb,cb,C,nc,cc,h1,h2⟩:=g.2 _ nd hj;refine⟨A,na,ca,B,nb,cb,C,nc,cc,fun i hi=>?_,h2⟩;have:=h.1;rw[List.getElem?_append_right (by omega),show j*7+i-us.length=(j-N.length)*7+i by omega];exact h1 i hi
theorem c3g (h:a9l w nd A na ca B nb cb C nc cc):NodK w (a8n nd A na ca B nb cb C nc cc) [nd] :=
 ⟨rfl,fun j x hj=>by
  have hj0:j=0:=by
   rcases Nat.eq_zero_or_pos j with e|e
   ·exact e
   ·rw[List.getElem?_eq_none (by simp;omega)] at hj;cases hj
  subst hj0;injection hj with hj;subst hj
  exact⟨A,na,ca,B,nb,cb,C,nc,cc,fun i _=>by rw[Nat.zero_mul,Nat.zero_add],h⟩⟩
def set7 (us:List Value) (k:Nat) (v0 v1 v2 v3 v4 v5 v6:Value):List Value :=
 ((((((us.set k v0).set (k+1) v1).set (k+2) v2).set (k+3) v3).set (k+4) v4).set (k+5) v5).set (k+6) v6
theorem d4a (h:i<k∨k+7≤i):(set7 us k v0 v1 v2 v3 v4 v5 v6)[i]?=us[i]? := by
 unfold set7
 repeat rw[List.getElem?_set_ne (by omega)]
theorem e5m (hk:k+7≤us.length)(hi:i<7):(set7 us k v0 v1 v2 v3 v4 v5 v6)[k+i]?=[v0,v1,v2,v3,v4,v5,v6][i]? := by
 unfold set7;have hc:i=0∨i=1∨i=2∨i=3∨i=4∨i=5∨i=6:=by omega
 rcases hc with rfl|rfl|rfl|rfl|rfl|rfl|rfl
 ·repeat rw[List.getElem?_set_ne (by omega)]
  rw[Nat.add_zero,List.getElem?_set_self (by omega)];rfl
 ·repeat rw[List.getElem?_set_ne (by omega)]
  rw[List.getElem?_set_self (by simp;omega)];rfl
 ·repeat rw[List.getElem?_set_ne (by omega)]
  rw[List.getElem?_set_self (by simp;omega)];rfl
 ·repeat rw[List.getElem?_set_ne (by omega)]
  rw[List.getElem?_set_self (by simp;omega)];rfl
 ·repeat rw[List.getElem?_set_ne (by omega)]
  rw[List.getElem?_set_self (by simp;omega)];rfl
 ·repeat rw[List.getElem?_set_ne (by omega)]
  rw[List.getElem?_set_self (by simp;omega)];rfl
 ·rw[List.getElem?_set_self (by simp;omega)];rfl
theorem NodK.set (h:NodK w us N)(hk:k<N.length)(g:a9l w nd A na ca B nb cb C nc cc):
  NodK w (set7 us (k*7) (.int .i64 nd.op) (.slice A na ca) (.slice B nb cb) (.slice C nc cc) (.int .i64 nd.n) (.int .i64 nd.how) (.string nd.note)) (N.set k nd):=by
 refine⟨by unfold set7;simp[h.1],fun j x hj=>?_⟩;by_cases e:j=k
 ·subst e;rw[List.getElem?_set_self hk] at hj;injection hj with hj;subst hj
  exact⟨A,na,ca,B,nb,cb,C,nc,cc,fun i hi=>e5m (by have:=h.1;omega) hi,g⟩
 ·rw[List.getElem?_set_ne (fun q=>e q.symm)] at hj;obtain⟨A', na', ca', B', nb', cb', C', nc', cc', h1,h2⟩:=h.2 j x hj;refine⟨A', na', ca', B', nb', cb', C', nc', cc', fun i hi=>?_,h2⟩;rw[d4a (by omega)];exact h1 i hi
theorem d3i (h:Nods w A n N):
  ∃ us,NodK w us N∧us.length=n*7∧(∀ u∈us,u.oneCell'=true)∧(∀ ad,A=some ad→∀ j u,us[j]?=some u→w.cell? (ad.add j)=some u):=by
 have key:∀ m,m≤N.length→∃ us,NodK w us (N.take m)∧(∀ u∈us,u.oneCell'=true)∧(∀ ad,A=some ad→∀ j u,us[j]?=some u→w.cell? (ad.add j)=some u):=by
  intro m
  induction m with
  | zero=>exact fun _=>⟨[],d1i w,by simp,by simp⟩
  | succ m ih =>
   intro hm;obtain⟨us,h1,h2,h3⟩:=ih (by omega);have hg:N[m]?=some (N[m]'(by omega)):=List.getElem?_eq_getElem (by omega);obtain⟨nd,hnd⟩:∃ nd,N[m]'(by omega)=nd:=⟨_,rfl⟩;rw[hnd] at hg;obtain⟨a,S,na,ca,B,nb,cb,C,nc,cc,e,hl,c0,c1,c2,c3,c4,c5,c6,hN⟩:=h.2.2 m nd hg;have hlen:us.length=m*7:=by rw[h1.1,List.length_take];congr 1;omega
   refine⟨us++a8n nd S na ca B nb cb C nc cc,?_,?_,?_⟩
   ·rw[List.take_add_one,hg];exact h1.append (c3g hN)
   ·intro u hu;rcases List.mem_append.1 hu with hu|hu
    ·exact h2 u hu
    ·simp only[a8n,List.mem_cons,List.not_mem_nil,or_false] at hu;rcases hu with rfl|rfl|rfl|rfl|rfl|rfl|rfl <;> rfl
   ·intro ad had j u hu;rw[e] at had;injection had with had;subst had
    rcases Nat.lt_or_ge j us.length with hj|hj
    ·rw[List.getElem?_append_left hj] at hu;exact h3 a e j u hu
    ·rw[List.getElem?_append_right hj] at hu;obtain⟨i,hi⟩:∃ i,j=m*7+i:=⟨j-m*7,by omega⟩;subst hi;rw[hlen,show m*7+i-m*7=i by omega] at hu
     have hi7:i<7:=by
      rcases Nat.lt_or_ge i 7 with q|q
      ·exact q
      ·rw[List.getElem?_eq_none (by simp[a8n];omega)] at hu;cases hu
     have adr:∀ i,0<i→a.add (m*7+i)=⟨(a.add (m*7)).block,(a.add (m*7)).off+i,none⟩:=fun i hi=>by
      by_cases hm0:m*7=0
      ·rw[hm0];simp[Addr.add];omega
      ·simp[Addr.add,hm0];omega
     have hc:i=0∨i=1∨i=2∨i=3∨i=4∨i=5∨i=6:=by omega
     rcases hc with rfl|rfl|rfl|rfl|rfl|rfl|rfl
     ·rw[Nat.add_zero,c0];exact hu
     ·rw[adr 1 (by omega),c1];exact hu
     ·rw[adr 2 (by omega),c2];exact hu
     ·rw[adr 3 (by omega),c3];exact hu
     ·rw[adr 4 (by omega),c4];exact hu
     ·rw[adr 5 (by omega),c5];exact hu
     ·rw[adr 6 (by omega),c6];exact hu
 obtain⟨us,h1,h2,h3⟩:=key N.length (Nat.le_refl _);rw[List.take_length] at h1;exact⟨us,h1,by rw[h1.1,h.1],h2,h3⟩
theorem b3q {l:List a0e}(i:Nat)(h:Sep w0 w l)(hi:l[i]?=some (.row 49 7 v n us))(hK:NodK w us N)(hn:N.length=n)(hn2:n≤90000):
  ∃ A c,v=.slice A n c∧n≤c∧Nods w A n N:=by
 have hr:w.ownsRow w0.heap.size 49 7 v n us:=h.at_ i hi;rcases Nat.eq_zero_or_pos n with e|e
 ·subst e;have hT:∀ A,Nods w A 0 N:=fun A=>⟨hn,by omega,fun j t ht=>by rw[List.eq_nil_of_length_eq_zero hn] at ht;simp at ht⟩
  rcases hr.2 with ⟨hv,_⟩|⟨g,cap,cur,hv,_⟩
  ·exact⟨none,0,hv,Nat.le_refl _,hT _⟩
  ·exact⟨_,cap,hv,Nat.zero_le _,hT _⟩
 ·obtain⟨g,c,rfl,hc⟩:=h.rowForm i hi e;refine⟨_,c,rfl,hc,hn,hn2,fun j nd hs=>?_⟩;have hj:j<N.length:=(lL hs);obtain⟨A,na,ca,B,nb,cb,C,nc,cc,h1,h2⟩:=hK.2 j nd hs;have hlt:=(World.ownsRow.lt hr g rfl).2;have hc0:∀ k:Nat,k<7→w.cell? ⟨g,j*7+k,none⟩=(a8n nd A na ca B nb cb C nc cc)[k]? := fun k hk=>(hr.cellAt (j*7+k) (by omega)).trans (h1 k hk)
  refine⟨⟨g,0,none⟩,A,na,ca,B,nb,cb,C,nc,cc,rfl,hlt,?_,?_,?_,?_,?_,?_,?_,h2⟩
  ·rw[a4h];exact hc0 0 (by omega)
  ·rw[a4h];exact hc0 1 (by omega)
  ·rw[a4h];exact hc0 2 (by omega)
  ·rw[a4h];exact hc0 3 (by omega)
  ·rw[a4h];exact hc0 4 (by omega)
  ·rw[a4h];exact hc0 5 (by omega)
  ·rw[a4h];exact hc0 6 (by omega)
theorem Sep.setRow {l:List a0e}(h:Sep w0 w l)(i:Nat)(hi:l[i]?=some (.row e k (.slice (some ⟨g,0,none⟩) n c) n us))(j:Nat)(u:Value):
  Sep w0 (w.setCell ⟨g,j,none⟩ u) (l.set i (.row e k (.slice (some ⟨g,0,none⟩) n c) n (us.set j u))):=by
 have hr:w.ownsRow w0.heap.size e k (.slice (some ⟨g,0,none⟩) n c) n us:=h.at_ i hi;obtain⟨h1,h2⟩:=hr.stored j u;exact h.change i hi h2 h1 fun b hb=>.inl hb
theorem Sep.cellRow {l:List a0e}(h:Sep w0 w l)(i:Nat)(hi:l[i]?=some (.row e k (.slice (some ⟨g,0,none⟩) n c) n us)){j:Nat}{u:Value}(hj:us[j]?=some u):w.cell? ⟨g,j,none⟩=some u:=by
 have hr:w.ownsRow w0.heap.size e k (.slice (some ⟨g,0,none⟩) n c) n us:=h.at_ i hi;have hl:=(lL hj);have:=hr.1;exact(hr.cellAt j (by omega)).trans hj
theorem Sep.frozenRow {l:List a0e}(h:Sep w0 w l)(i:Nat)(hi:l[i]?=some (.row e k (.slice (some ⟨g,0,none⟩) n c) n us))(j:Nat):w.frozen? ⟨g,j,none⟩=false:=by
 have hr:w.ownsRow w0.heap.size e k (.slice (some ⟨g,0,none⟩) n c) n us:=h.at_ i hi;exact hr.frozenAt j
theorem Sep.emptyRow {l:List a0e}(h:Sep w0 w l):Sep w0 (w.alloc (.cells #[] 49)) (.row 49 7 (.slice (some ⟨w.heap.size,0,none⟩) 0 0) 0 []::l):=by
 refine h.pushNew (h.below ((Below.refl _ _).alloc (Nat.le_refl _) _)) ?_ fun k hk=>by
  have hk:some w.heap.size=some k:=hk;injection hk with hk;omega
 exact World.ownsRow_lit w #[] 0 h.size (Nat.zero_le _) rfl
structure NodC (w:World) (A:Option Addr) (m:Nat) (vs:List Value):Prop where
 len:vs.length=m*7
 one:∀ u∈vs,u.oneCell'=true
 at_:∀ ad,A=some ad→∀ j u,vs[j]?=some u→w.cell? (ad.add j)=some u
 none_:A=none→m=0
 few:m≤90000
theorem e6p (hM:Nods w A m M):∃ vs,NodK w vs M∧NodC w A m vs:=by
 obtain⟨vs,k1,k2,k3,k4⟩:=d3i hM;refine⟨vs,k1,k2,k3,k4,fun e=>?_,hM.2.1⟩;rcases Nat.eq_zero_or_pos m with h|h
 ·exact h
 ·obtain⟨x,hx⟩:∃ x,M[0]?=some x:=gE (by have:=hM.1;omega);obtain⟨a0,_,_,_,_,_,_,_,_,_,e0,_⟩:=hM.2.2 0 x hx;rw[e] at e0;cases e0
theorem NodC.below (h:NodC w A m vs)(hb:Below w.heap.size w w'):NodC w' A m vs :=
 ⟨h.len,h.one,fun ad e j u hu=>(hb.cell (World.block_lt_of_cell? _ _ (h.at_ ad e j u hu))).trans (h.at_ ad e j u hu),h.none_,h.few⟩
theorem b4c {ops:Array Oper}{rest:List Oper}{o:Oper}{a:Act}{Q:Exit→Act→World→Prop}(hgd:o.guard=none)(s y:Operand)(t:TypeId)
  (ho:o.op=.call { callee:=.builtin .append,args:=#[s,y],argTypes:=#[t,t] })(ht:prog.underlying t=some (.slice 49))
  {l:List a0e}(H:Sep w0 w l)(i:Nat)(hi:l[i]?=some (.row 49 7 v n us))(hs:a.eval s=v)(hy:a.eval y=.slice A m c)(hM:NodC w A m vs)
  (hn:n≤100000)
  (h:∀ v' w', Sep w0 w' (l.set i (.row 49 7 v' (n+m) (us++vs)))→wpList prog ops Q rest (a.put o.dst v') w'):
  wpList prog ops Q (o::rest) a w:=by
 obtain⟨ti,g1,g2,g3,g4⟩:=b1s;have hr:w.ownsRow w0.heap.size 49 7 v n us:=H.at_ i hi;have hfew:=hM.few
 cases A with
 | some ad =>
  refine wpList_append_own_at _ hgd s y t ho w0.heap.size 49 ti _ 7 112 ht g1 g2 g3 g4 (by rfl) (by omega) v n us hs hr ad m c vs hy hM.len (hM.at_ ad rfl) hM.one (by unfold maxLen;omega) (by omega) H.size ?_;intro v' w' h5 h6 _ h8
  exact h v' w' (H.change i hi h6 h5 fun b hb=>by
   have hb:v'.ownBlock=some b:=hb;rcases h8 with e|e
   ·exact .inl (e.symm.trans hb)
   ·rw[e] at hb;injection hb with hb;subst hb;exact .inr (Nat.le_refl _))
 | none =>
  have hm:m=0:=hM.none_ rfl;subst hm;have hvs:vs=[]:=List.eq_nil_of_length_eq_zero (by have:=hM.len;omega)
  have hrun:(Builtin.append_ #[t,t] o.type #[v,.slice none 0 c]).run prog w=.ok v w:=by
   rcases hr.2 with ⟨rfl,rfl⟩|⟨g,cap,cur,rfl,_,_,hnc,_⟩
   ·simp[Builtin.append_,run_underlying ht,sizeOf,typeInfo,g1,Builtin.lenOf,Builtin.firstCells]
   ·simp[Builtin.append_,run_underlying ht,sizeOf,typeInfo,g1,Builtin.lenOf,Builtin.firstCells,hnc,storeCells]
  refine wpList_plain hgd fun K hK=>?_
  unfold Oper.wp execOp;simp only[ho,resolve,invoke,builtin,Sem.run_bind,Sem.run_pure,Result.andThen_ok,List.map_toArray,List.map_cons,List.map_nil,hs,hy,hrun]
  have hset:l.set i (.row 49 7 v (n+0) (us++vs))=l:=by
   rw[hvs,List.append_nil,Nat.add_zero];apply List.ext_getElem?;intro j;by_cases e:j=i
   ·subst e;rw[List.getElem?_set_self (lL hi),hi]
   ·rw[List.getElem?_set_ne (fun q=>e q.symm)]
  exact hK _ _ (h v w (by rw[hset];exact H))
def e5z (w0:World) (pool:List a0e) (S:Option Addr) (sn sc:Nat) (D:Option Addr) (dn dc:Nat) (t:List Int × List Int):Prop :=
 (∃ p q:Nat,pool[p]?=some (a0e.own 3 (.slice S sn sc) sn t.1)∧pool[q]?=some (a0e.own 2 (.slice D dn dc) dn t.2))∨Ten w0 (.agg #[.slice S sn sc,.slice D dn dc]) t.1 t.2
def e4h (w0:World) (us:List Value) (L:TL) (pool:List a0e):Prop:=us.length=L.length*2∧∀(j:Nat) (t:List Int × List Int),L[j]?=some t→∃(S:Option Addr) (sn sc:Nat) (D:Option Addr) (dn dc:Nat),us[j*2]?=some (.slice S sn sc)∧us[j*2+1]?=some (.slice D dn dc)∧e5z w0 pool S sn sc D dn dc t
theorem e4h.snoc {L:TL}{pool:List a0e}{S D:Option Addr}{sn sc dn dc:Nat}{t:List Int × List Int}(h:e4h w0 us L pool)(ht:e5z w0 pool S sn sc D dn dc t):e4h w0 (us++[.slice S sn sc,.slice D dn dc]) (L++[t]) pool:=by
 obtain⟨hl,h⟩:=h;refine⟨by simp[hl];omega,fun j u hu=>?_⟩;rcases Nat.lt_or_ge j L.length with hj|hj
 ·rw[List.getElem?_append_left hj] at hu;obtain⟨S', sn', sc', D', dn', dc', h1,h2,h3⟩:=h j u hu;exact⟨S', sn', sc', D', dn', dc', by rw[List.getElem?_append_left (by omega)];exact h1,by rw[List.getElem?_append_left (by omega)];exact h2,h3⟩
 ·rw[List.getElem?_append_right hj] at hu
  have hj' : j=L.length:=by
   rcases Nat.eq_or_lt_of_le hj with e|e
   ·exact e.symm
   ·obtain⟨m,hm⟩:∃ m,j-L.length=m+1:=⟨j-L.length-1,by omega⟩;rw[hm] at hu;simp at hu
  subst hj';simp at hu;subst hu;exact⟨S,sn,sc,D,dn,dc,by rw[List.getElem?_append_right (by omega),hl];simp,by rw[List.getElem?_append_right (by omega),hl];simp,ht⟩
def a0e.mine:a0e→Prop
 | .own _ _ _ _=>True
 | .row _ _ _ _ _=>True
 | .box _ _ _=>True
 | _=>False
theorem a0e.lower {base base' : Nat}{c:a0e}(h:c.holds w base)(hm:c.mine)(hb:base' ≤ base):c.holds w base':=by
 cases c with
 | own e v n xs=>exact OwnS.mono h hb
 | row e k v n us =>
  refine⟨h.1,?_⟩;rcases h.2 with hh|⟨g,cap,cur,h1,h2,h3⟩
  ·exact .inl hh
  ·exact .inr ⟨g,cap,cur,h1,Nat.le_trans hb h2,h3⟩
 | box g t vs=>exact⟨Nat.le_trans hb h.1,h.2⟩
 | ints A n xs=>cases hm
 | vals A n k us=>cases hm
 | tape g=>cases hm
theorem Sep.join {wT:World}{l m:List a0e}(h:Sep w0 w l)(hb:Below w.heap.size w w')(k:Sep wT w' m)(hsz:w.heap.size≤wT.heap.size)(hm:∀ c∈m,c.mine):Sep w0 w' (m++l):=by
 obtain⟨h1,h2,h3⟩:=Sep.pair.1 (h.below hb);obtain⟨k1,k2,k3⟩:=Sep.pair.1 k;have h0:=(Sep.pair.1 h).2.1;have hs:=h.size;refine Sep.pair.2 ⟨h1,fun c hc=>?_,List.pairwise_append.2 ⟨k3,h3,fun a ha b hb' q hq hq'=>?_⟩⟩
 ·rcases List.mem_append.1 hc with hc|hc
  ·exact a0e.lower (k2 c hc) (hm c hc) (by omega)
  ·exact h2 c hc
 ·have x1:=(a0e.block_ge (k2 a ha) hq).1;have x2:=(a0e.block_ge (h0 b hb') hq').2;omega
def LilO (w0:World) (us:List Value) (L:List (List Int)):Prop:=us.length=L.length∧∀(j:Nat) (s:List Int),L[j]?=some s→∃ B m c,us[j]?=some (.slice B m c)∧m≤c∧Ints w0 B m s
theorem LilO.snoc {L:List (List Int)}(h:LilO w0 us L){s:List Int}(hI:Ints w0 B m s)(hm:m≤c):LilO w0 (us++[.slice B m c]) (L++[s]):=by
 obtain⟨hl,h⟩:=h;refine⟨by simp[hl],fun j u hu=>?_⟩;rcases Nat.lt_or_ge j L.length with hj|hj
 ·rw[List.getElem?_append_left hj] at hu;obtain⟨B', m', c', h1,h2,h3⟩:=h j u hu;exact⟨B', m', c', by rw[List.getElem?_append_left (by omega)];exact h1,h2,h3⟩
 ·rw[List.getElem?_append_right hj] at hu
  have hj' : j=L.length:=by
   rcases Nat.eq_or_lt_of_le hj with e|e
   ·exact e.symm
   ·obtain⟨m,hm⟩:∃ m,j-L.length=m+1:=⟨j-L.length-1,by omega⟩;rw[hm] at hu;simp at hu
  subst hj';simp at hu;subst hu;exact⟨B,m,c,by rw[List.getElem?_append_right (by omega),hl];simp,hm,hI⟩
end Go.Proofs.YtdcmanhgekjhgaaGreatDoor
