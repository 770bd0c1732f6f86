import Derived.Test.YtajhdeddgdhccaaGreatDoorPbk
set_option maxRecDepth 100000
set_option maxHeartbeats 12800000
namespace Go.Proofs.YtajhdeddgdhccaaGreatDoor
open Go.RowKit Go.Proofs.Tryz
variable {A B C:Option Addr} {L M N:List a0p} {Q:Exit→Act→World→Prop} {a:Act} {c ca cb cc g i k m n na nb nc:Nat} {e:TypeId} {l pool:List a0i} {nd:a0p} {o:Oper} {ops:Array Oper} {rest:List Oper} {us vs:List Value} {v v0 v1 v2 v3 v4 v5 v6:Value} {w w' w0:World}
theorem d0u:(prog.info? 37).map (fun i=>(i.zero,i.size,i.bytes))=some (some (.agg zA),7,112):=by kernel_rfl
theorem a8y:∃ i,prog.info? 37=some i∧i.zero=some (.agg zA)∧i.size=7∧i.bytes=112:=by
 have h:=d0u
 cases e:prog.info? 37 with
 | none=>rw[e] at h;cases h
 | some i =>
  rw[e] at h;simp only[Option.map_some,Option.some.injEq,Prod.mk.injEq] at h;exact⟨i,rfl,h.1,h.2.1,h.2.2⟩
theorem a4v (hgd:o.guard=none)(s y:Operand)(t:TypeId)
  (ho:o.op=.call { callee:=.builtin .append,args:=#[s,y],argTypes:=#[t,t] })(ht:prog.underlying t=some (.slice 37))
  (H:Sep w0 w l)(i:Nat)(hi:l[i]?=some (.row 37 7 v n us))(hs:a.eval s=v)(c:Nat)(hy:a.eval y=.slice (some ⟨w.heap.size,0,none⟩) 1 c)
  (h1:v0.oneCell'=true)(h2:v1.oneCell'=true)(h3:v2.oneCell'=true)(h4:v3.oneCell'=true)(h5:v4.oneCell'=true)(h6:v5.oneCell'=true)(h7:v6.oneCell'=true)
  (hn:n≤1000)
  (h:∀ v' w', Sep w0 w' (l.set i (.row 37 7 v' (n+1) (us++[v0,v1,v2,v3,v4,v5,v6])))→wpList prog ops Q rest (a.put o.dst v') w'):
  wpList prog ops Q (o::rest) a (w.alloc (.cells #[v0,v1,v2,v3,v4,v5,v6] 37)):=by
 obtain⟨ti,g1,g2,g3,g4⟩:=a8y;have H':=H.below ((Below.refl w.heap.size w).alloc (Nat.le_refl _) (.cells #[v0,v1,v2,v3,v4,v5,v6] 37));have hsz:=H'.size;refine wpList_append_own_at _ hgd s y t ho w0.heap.size 37 ti _ 7 112 ht g1 g2 g3 g4 (by rfl) (by omega) v n us hs (H'.at_ i hi) ⟨w.heap.size,0,none⟩ 1 c [v0,v1,v2,v3,v4,v5,v6] hy rfl ?_ (by simp[h1,h2,h3,h4,h5,h6,h7]) (by unfold maxLen;omega) (by omega) hsz ?_
 ·intro j u hj;have hb:=heap_alloc_new w (.cells #[v0,v1,v2,v3,v4,v5,v6] 37)
  match j,hj with
  | 0,hj=>simp at hj;subst hj;exact cell_of_row _ _ 0 _ _ _ hb
  | 1,hj=>simp at hj;subst hj;exact cell_of_row _ _ 1 _ _ _ hb
  | 2,hj=>simp at hj;subst hj;exact cell_of_row _ _ 2 _ _ _ hb
  | 3,hj=>simp at hj;subst hj;exact cell_of_row _ _ 3 _ _ _ hb
  | 4,hj=>simp at hj;subst hj;exact cell_of_row _ _ 4 _ _ _ hb
  | 5,hj=>simp at hj;subst hj;exact cell_of_row _ _ 5 _ _ _ hb
  | 6,hj=>simp at hj;subst hj;exact cell_of_row _ _ 6 _ _ _ hb
  | j+7,hj=>simp at hj
 ·intro v' w' h5 h6 _ h8
  exact h v' w' (H'.change i hi h6 h5 fun b hb=>by
   have hb:v'.ownBlock=some b:=hb;rcases h8 with e|e
   ·exact .inl (e.symm.trans hb)
   ·rw[e] at hb;injection hb with hb;subst hb;exact .inr (Nat.le_refl _))
structure d5f (us:List Value) (j:Nat) (nd:a0p) (pool:List a0i) (A:Option Addr) (na ca:Nat) (B:Option Addr) (nb cb:Nat) (C:Option Addr) (nc cc p q r:Nat):Prop where
 u0:us[j*7]?=some (.int .i64 nd.op)
 u1:us[j*7+1]?=some (.slice A na ca)
 u2:us[j*7+2]?=some (.slice B nb cb)
 u3:us[j*7+3]?=some (.slice C nc cc)
 u4:us[j*7+4]?=some (.int .i64 nd.n)
 u5:us[j*7+5]?=some (.int .i64 nd.how)
 u6:us[j*7+6]?=some (.string nd.note)
 pA:pool[p]?=some (a0i.own 3 (.slice A na ca) na nd.ins)
 pB:pool[q]?=some (a0i.own 3 (.slice B nb cb) nb nd.shape)
 pC:pool[r]?=some (a0i.own 3 (.slice C nc cc) nc nd.a)
 op:Fits nd.op
 n:Fits nd.n
 how:Fits nd.how
 note:nd.note.size≤17592186044000
def b6w (us:List Value) (L:List a0p) (pool:List a0i):Prop:=us.length=L.length*7∧∀(j:Nat) (nd:a0p),L[j]?=some nd→∃ A na ca B nb cb C nc cc p q r,d5f us j nd pool A na ca B nb cb C nc cc p q r
theorem c8m:b6w [] [] pool:=⟨rfl,fun j t h=>by simp at h⟩
theorem b6w.shift {c:a0i}(h:b6w us L pool):b6w us L (c::pool) :=
 ⟨h.1,fun j s hs=>by
  obtain⟨A,na,ca,B,nb,cb,C,nc,cc,p,q,r,h⟩:=h.2 j s hs
  exact⟨A,na,ca,B,nb,cb,C,nc,cc,p+1,q+1,r+1,h.u0,h.u1,h.u2,h.u3,h.u4,h.u5,h.u6,h.pA,h.pB,h.pC,h.op,h.n,h.how,h.note⟩⟩
theorem b6w.snoc {p q r:Nat}(h:b6w us L pool)
  (pA:pool[p]?=some (a0i.own 3 (.slice A na ca) na nd.ins))(pB:pool[q]?=some (a0i.own 3 (.slice B nb cb) nb nd.shape))(pC:pool[r]?=some (a0i.own 3 (.slice C nc cc) nc nd.a))(h1:Fits nd.op)(h2:Fits nd.n)(h3:Fits nd.how)(h4:nd.note.size≤17592186044000):
  b6w (us++[.int .i64 nd.op,.slice A na ca,.slice B nb cb,.slice C nc cc,.int .i64 nd.n,.int .i64 nd.how,.string nd.note]) (L++[nd]) pool:=by
 obtain⟨hl,h⟩:=h;refine⟨by simp[hl];omega,fun j u hu=>?_⟩;rcases Nat.lt_or_ge j L.length with hj|hj
 ·rw[List.getElem?_append_left hj] at hu;obtain⟨A', na', ca', B', nb', cb', C', nc', cc', p', q', r', g⟩:=h j u hu
  have ea:∀(k:Nat) (x:Value),us[k]?=some x→(us++[.int .i64 nd.op,.slice A na ca,.slice B nb cb,.slice C nc cc,.int .i64 nd.n,.int .i64 nd.how,.string nd.note])[k]?=some x:=fun k x hk=>by
   rw[List.getElem?_append_left (lL hk)];exact hk
  exact⟨A', na', ca', B', nb', cb', C', nc', cc', p', q', r', ea _ _ g.u0,ea _ _ g.u1,ea _ _ g.u2,ea _ _ g.u3,ea _ _ g.u4,ea _ _ g.u5,ea _ _ g.u6,g.pA,g.pB,g.pC,g.op,g.n,g.how,g.note⟩
 ·rw[List.getElem?_append_right hj] at hu
  have hj' : j=L.length:=by
   rcases Nat.eq_or_lt_of_le hj with e|e
   ·exact e.symm
   ·obtain⟨m,hm⟩:∃ m,j-L.length=m+1:=⟨j-L.length-1,by omega⟩;rw[hm] at hu;simp at hu
  subst hj';simp at hu;subst hu
  have ea:∀(k:Nat),(us++[.int .i64 nd.op,.slice A na ca,.slice B nb cb,.slice C nc cc,.int .i64 nd.n,.int .i64 nd.how,.string nd.note])[L.length*7+k]?=[Value.int .i64 nd.op,.slice A na ca,.slice B nb cb,.slice C nc cc,.int .i64 nd.n,.int .i64 nd.how,.string nd.note][k]? := fun k=>by
   rw[List.getElem?_append_right (by omega),hl,show L.length*7+k-L.length*7=k by omega]
  exact⟨A,na,ca,B,nb,cb,C,nc,cc,p,q,r,ea 0,ea 1,ea 2,ea 3,ea 4,ea 5,ea 6,pA,pB,pC,h1,h2,h3,h4⟩
theorem b0i (i:Nat)(h:Sep w0 w l)(hi:l[i]?=some (.row 37 7 v n us))(hP:b6w us L pool)(hn:L.length=n)(hn2:n≤900)(f:Nat)(hf:∀ i,l[i+f]?=pool[i]?):
  ∃ A c,v=.slice A n c∧n≤c∧Nods w A n L:=by
 have hr:w.ownsRow w0.heap.size 37 7 v n us:=h.at_ i hi;rcases Nat.eq_zero_or_pos n with e|e
 ·subst e;have hT:∀ A,Nods w A 0 L:=fun A=>⟨hn,by omega,fun j t ht=>by rw[List.eq_nil_of_length_eq_zero hn] at ht;simp at ht⟩
  rcases hr.2 with ⟨hv,_⟩|⟨g,cap,cur,hv,_⟩
  ·exact⟨none,0,hv,Nat.le_refl _,hT _⟩
  ·exact⟨_,cap,hv,Nat.zero_le _,hT _⟩
 ·obtain⟨g,c,rfl,hc⟩:=h.rowForm i hi e;refine⟨_,c,rfl,hc,hn,hn2,fun j s hs=>?_⟩;have hj:j<L.length:=(lL hs);obtain⟨A,na,ca,B,nb,cb,C,nc,cc,p,q,r,g1⟩:=hP.2 j s hs;have hlt:=(World.ownsRow.lt hr g rfl).2;have hA:=h.ownInts (p+f) ((hf p).trans g1.pA);have hB:=h.ownInts (q+f) ((hf q).trans g1.pB);have hC:=h.ownInts (r+f) ((hf r).trans g1.pC);have hc0:∀ k:Nat,k<7→w.cell? ⟨g,j*7+k,none⟩=us[j*7+k]? := fun k hk=>hr.cellAt (j*7+k) (by omega)
  refine⟨⟨g,0,none⟩,A,na,ca,B,nb,cb,C,nc,cc,rfl,hlt,?_,?_,?_,?_,?_,?_,?_,⟨hA.2.1,hB.2.1,hC.2.1,hA.2.2,hB.2.2,hC.2.2,g1.op,g1.n,g1.how,g1.note⟩⟩
  ·rw[a2h];exact(hc0 0 (by omega)).trans g1.u0
  ·rw[a2h];exact(hc0 1 (by omega)).trans g1.u1
  ·rw[a2h];exact(hc0 2 (by omega)).trans g1.u2
  ·rw[a2h];exact(hc0 3 (by omega)).trans g1.u3
  ·rw[a2h];exact(hc0 4 (by omega)).trans g1.u4
  ·rw[a2h];exact(hc0 5 (by omega)).trans g1.u5
  ·rw[a2h];exact(hc0 6 (by omega)).trans g1.u6
theorem c4s {L:List (List Int)}(k f:Nat)(h:Sep w0 w l)(hk:l[k]?=some (.row 23 1 v m us))(hki:i≠k)(hP:a6w us L pool)(hn:L.length=m)(hn2:m≤900)(hf:∀ j,l[j+f]?=pool[j]?)(hif:i<f):
  ∃ Al cl,v=.slice Al m cl∧m≤cl∧a5l w0 l i g A n c Al m L:=by
 have hr:w.ownsRow w0.heap.size 23 1 v m us:=h.at_ k hk;rcases Nat.eq_zero_or_pos m with e|e
 ·subst e;have hT:∀ Al,a5l w0 l i g A n c Al 0 L:=fun Al=>⟨hn,by omega,fun j t ht=>by rw[List.eq_nil_of_length_eq_zero hn] at ht;simp at ht⟩
  rcases hr.2 with ⟨hv,_⟩|⟨g,cap,cur,hv,_⟩
  ·exact⟨none,0,hv,Nat.le_refl _,hT _⟩
  ·exact⟨_,cap,hv,Nat.zero_le _,hT _⟩
 ·obtain⟨gr,cr,rfl,hc⟩:=h.rowForm k hk e;refine⟨_,cr,rfl,hc,hn,hn2,fun j s hs=>?_⟩;have hj:j<L.length:=(lL hs);obtain⟨S,sn,sc,p,h1,h2⟩:=hP.2 j s hs;have hsc:=(h.ownInts (p+f) ((hf p).trans h2)).2.1;refine⟨⟨gr,0,none⟩,S,sn,sc,rfl,hsc,fun w1 a1 l1 hK H1=>?_⟩;have e1:=hK.eq;subst e1;have hk1:(l.set i (TB g A n c a1))[k]?=some (.row 23 1 (.slice (some ⟨gr,0,none⟩) m cr) m us):=by rw[List.getElem?_set_ne hki];exact hk
  have hr1:w1.ownsRow w0.heap.size 23 1 (.slice (some ⟨gr,0,none⟩) m cr) m us:=H1.at_ k hk1;have hp1:(l.set i (TB g A n c a1))[p+f]?=some (a0i.own 3 (.slice S sn sc) sn s):=by rw[List.getElem?_set_ne (by omega)];exact(hf p).trans h2
  refine⟨(World.ownsRow.lt hr1 gr rfl).2,?_,(H1.ownInts (p+f) hp1).2.2⟩;rw[a2h,hr1.cellAt j (by omega),h1]
def NodK (w:World) (us:List Value) (N:List a0p):Prop :=
 us.length=N.length*7∧∀(j:Nat) (nd:a0p),N[j]?=some nd→∃ A na ca B nb cb C nc cc,(∀ i,i<7→us[j*7+i]?=(a5r nd A na ca B nb cb C nc cc)[i]?)∧b8m w nd A na ca B nb cb C nc cc
theorem d1r (w:World):NodK w [] []:=⟨rfl,fun j nd h=>by simp at h⟩
theorem NodK.below (h:NodK w us N)(hb:Below w.heap.size w w'):NodK w' us N :=
 ⟨h.1,fun j nd hj=>by
  obtain⟨A,na,ca,B,nb,cb,C,nc,cc,h1,h2⟩:=h.2 j nd hj
  exact⟨A,na,ca,B,nb,cb,C,nc,cc,h1,h2.below hb⟩⟩
theorem NodK.append (h:NodK w us N)(g:NodK w vs M):NodK w (us++vs) (N++M):=by
 refine⟨by rw[List.length_append,List.length_append,h.1,g.1];omega,fun j nd hj=>?_⟩;rcases Nat.lt_or_ge j N.length with hl|hl
 ·rw[List.getElem?_append_left hl] at hj;obtain⟨A,na,ca,B,nb,cb,C,nc,cc,h1,h2⟩:=h.2 j nd hj;refine⟨A,na,ca,B,nb,cb,C,nc,cc,fun i hi=>?_,h2⟩;rw[List.getElem?_append_left (by have:=h.1;omega)];exact h1 i hi
 ·rw[List.getElem?_append_right hl] at hj;obtain⟨A,na,ca,B,nb,cb,C,nc,cc,h1,h2⟩:=g.2 _ nd hj;refine⟨A,na,ca,B,nb,cb,C,nc,cc,fun i hi=>?_,h2⟩;have:=h.1;rw[List.getElem?_append_right (by omega),show j*7+i-us.length=(j-N.length)*7+i by omega];exact h1 i hi
theorem b7q (h:b8m w nd A na ca B nb cb C nc cc):NodK w (a5r nd A na ca B nb cb C nc cc) [nd] :=
 ⟨rfl,fun j x hj=>by
  have hj0:j=0:=by
   rcases Nat.eq_zero_or_pos j with e|e
   ·exact e
   ·rw[List.getElem?_eq_none (by simp;omega)] at hj;cases hj
  subst hj0;injection hj with hj;subst hj
  exact⟨A,na,ca,B,nb,cb,C,nc,cc,fun i _=>by rw[Nat.zero_mul,Nat.zero_add],h⟩⟩
def set7 (us:List Value) (k:Nat) (v0 v1 v2 v3 v4 v5 v6:Value):List Value :=
 ((((((us.set k v0).set (k+1) v1).set (k+2) v2).set (k+3) v3).set (k+4) v4).set (k+5) v5).set (k+6) v6
theorem c5j (h:i<k∨k+7≤i):(set7 us k v0 v1 v2 v3 v4 v5 v6)[i]?=us[i]? := by
 unfold set7
 repeat rw[List.getElem?_set_ne (by omega)]
theorem d4q (hk:k+7≤us.length)(hi:i<7):(set7 us k v0 v1 v2 v3 v4 v5 v6)[k+i]?=[v0,v1,v2,v3,v4,v5,v6][i]? := by
 unfold set7;have hc:i=0∨i=1∨i=2∨i=3∨i=4∨i=5∨i=6:=by omega
 rcases hc with rfl|rfl|rfl|rfl|rfl|rfl|rfl
 ·repeat rw[List.getElem?_set_ne (by omega)]
  rw[Nat.add_zero,List.getElem?_set_self (by omega)];rfl
 ·repeat rw[List.getElem?_set_ne (by omega)]
  rw[List.getElem?_set_self (by simp;omega)];rfl
 ·repeat rw[List.getElem?_set_ne (by omega)]
  rw[List.getElem?_set_self (by simp;omega)];rfl
 ·repeat rw[List.getElem?_set_ne (by omega)]
  rw[List.getElem?_set_self (by simp;omega)];rfl
 ·repeat rw[List.getElem?_set_ne (by omega)]
  rw[List.getElem?_set_self (by simp;omega)];rfl
 ·repeat rw[List.getElem?_set_ne (by omega)]
  rw[List.getElem?_set_self (by simp;omega)];rfl
 ·rw[List.getElem?_set_self (by simp;omega)];rfl
theorem NodK.set (h:NodK w us N)(hk:k<N.length)(g:b8m w nd A na ca B nb cb C nc cc):
  NodK w (set7 us (k*7) (.int .i64 nd.op) (.slice A na ca) (.slice B nb cb) (.slice C nc cc) (.int .i64 nd.n) (.int .i64 nd.how) (.string nd.note)) (N.set k nd):=by
 refine⟨by unfold set7;simp[h.1],fun j x hj=>?_⟩;by_cases e:j=k
 ·subst e;rw[List.getElem?_set_self hk] at hj;injection hj with hj;subst hj
  exact⟨A,na,ca,B,nb,cb,C,nc,cc,fun i hi=>d4q (by have:=h.1;omega) hi,g⟩
 ·rw[List.getElem?_set_ne (fun q=>e q.symm)] at hj;obtain⟨A', na', ca', B', nb', cb', C', nc', cc', h1,h2⟩:=h.2 j x hj;refine⟨A', na', ca', B', nb', cb', C', nc', cc', fun i hi=>?_,h2⟩;rw[c5j (by omega)];exact h1 i hi
theorem c4z (h:Nods w A n N):
  ∃ us,NodK w us N∧us.length=n*7∧(∀ u∈us,u.oneCell'=true)∧(∀ ad,A=some ad→∀ j u,us[j]?=some u→w.cell? (ad.add j)=some u):=by
 have key:∀ m,m≤N.length→∃ us,NodK w us (N.take m)∧(∀ u∈us,u.oneCell'=true)∧(∀ ad,A=some ad→∀ j u,us[j]?=some u→w.cell? (ad.add j)=some u):=by
  intro m
  induction m with
  | zero=>exact fun _=>⟨[],d1r w,by simp,by simp⟩
  | succ m ih =>
   intro hm;obtain⟨us,h1,h2,h3⟩:=ih (by omega);have hg:N[m]?=some (N[m]'(by omega)):=List.getElem?_eq_getElem (by omega);obtain⟨nd,hnd⟩:∃ nd,N[m]'(by omega)=nd:=⟨_,rfl⟩;rw[hnd] at hg;obtain⟨a,S,na,ca,B,nb,cb,C,nc,cc,e,hl,c0,c1,c2,c3,c4,c5,c6,hN⟩:=h.2.2 m nd hg;have hlen:us.length=m*7:=by rw[h1.1,List.length_take];congr 1;omega
   refine⟨us++a5r nd S na ca B nb cb C nc cc,?_,?_,?_⟩
   ·rw[List.take_add_one,hg];exact h1.append (b7q hN)
   ·intro u hu;rcases List.mem_append.1 hu with hu|hu
    ·exact h2 u hu
    ·simp only[a5r,List.mem_cons,List.not_mem_nil,or_false] at hu;rcases hu with rfl|rfl|rfl|rfl|rfl|rfl|rfl <;> rfl
   ·intro ad had j u hu;rw[e] at had;injection had with had;subst had
    rcases Nat.lt_or_ge j us.length with hj|hj
    ·rw[List.getElem?_append_left hj] at hu;exact h3 a e j u hu
    ·rw[List.getElem?_append_right hj] at hu;obtain⟨i,hi⟩:∃ i,j=m*7+i:=⟨j-m*7,by omega⟩;subst hi;rw[hlen,show m*7+i-m*7=i by omega] at hu
     have hi7:i<7:=by
      rcases Nat.lt_or_ge i 7 with q|q
      ·exact q
      ·rw[List.getElem?_eq_none (by simp[a5r];omega)] at hu;cases hu
     have adr:∀ i,0<i→a.add (m*7+i)=⟨(a.add (m*7)).block,(a.add (m*7)).off+i,none⟩:=fun i hi=>by
      by_cases hm0:m*7=0
      ·rw[hm0];simp[Addr.add];omega
      ·simp[Addr.add,hm0];omega
     have hc:i=0∨i=1∨i=2∨i=3∨i=4∨i=5∨i=6:=by omega
     rcases hc with rfl|rfl|rfl|rfl|rfl|rfl|rfl
     ·rw[Nat.add_zero,c0];exact hu
     ·rw[adr 1 (by omega),c1];exact hu
     ·rw[adr 2 (by omega),c2];exact hu
     ·rw[adr 3 (by omega),c3];exact hu
     ·rw[adr 4 (by omega),c4];exact hu
     ·rw[adr 5 (by omega),c5];exact hu
     ·rw[adr 6 (by omega),c6];exact hu
 obtain⟨us,h1,h2,h3⟩:=key N.length (Nat.le_refl _);rw[List.take_length] at h1;exact⟨us,h1,by rw[h1.1,h.1],h2,h3⟩
theorem d2m (i:Nat)(h:Sep w0 w l)(hi:l[i]?=some (.row 37 7 v n us))(hK:NodK w us N)(hn:N.length=n)(hn2:n≤900):
  ∃ A c,v=.slice A n c∧n≤c∧Nods w A n N:=by
 have hr:w.ownsRow w0.heap.size 37 7 v n us:=h.at_ i hi;rcases Nat.eq_zero_or_pos n with e|e
 ·subst e;have hT:∀ A,Nods w A 0 N:=fun A=>⟨hn,by omega,fun j t ht=>by rw[List.eq_nil_of_length_eq_zero hn] at ht;simp at ht⟩
  rcases hr.2 with ⟨hv,_⟩|⟨g,cap,cur,hv,_⟩
  ·exact⟨none,0,hv,Nat.le_refl _,hT _⟩
  ·exact⟨_,cap,hv,Nat.zero_le _,hT _⟩
 ·obtain⟨g,c,rfl,hc⟩:=h.rowForm i hi e;refine⟨_,c,rfl,hc,hn,hn2,fun j nd hs=>?_⟩;have hj:j<N.length:=(lL hs);obtain⟨A,na,ca,B,nb,cb,C,nc,cc,h1,h2⟩:=hK.2 j nd hs;have hlt:=(World.ownsRow.lt hr g rfl).2;have hc0:∀ k:Nat,k<7→w.cell? ⟨g,j*7+k,none⟩=(a5r nd A na ca B nb cb C nc cc)[k]? := fun k hk=>(hr.cellAt (j*7+k) (by omega)).trans (h1 k hk)
  refine⟨⟨g,0,none⟩,A,na,ca,B,nb,cb,C,nc,cc,rfl,hlt,?_,?_,?_,?_,?_,?_,?_,h2⟩
  ·rw[a2h];exact hc0 0 (by omega)
  ·rw[a2h];exact hc0 1 (by omega)
  ·rw[a2h];exact hc0 2 (by omega)
  ·rw[a2h];exact hc0 3 (by omega)
  ·rw[a2h];exact hc0 4 (by omega)
  ·rw[a2h];exact hc0 5 (by omega)
  ·rw[a2h];exact hc0 6 (by omega)
theorem Sep.setRow (h:Sep w0 w l)(i:Nat)(hi:l[i]?=some (.row e k (.slice (some ⟨g,0,none⟩) n c) n us))(j:Nat)(u:Value):
  Sep w0 (w.setCell ⟨g,j,none⟩ u) (l.set i (.row e k (.slice (some ⟨g,0,none⟩) n c) n (us.set j u))):=by
 have hr:w.ownsRow w0.heap.size e k (.slice (some ⟨g,0,none⟩) n c) n us:=h.at_ i hi;obtain⟨h1,h2⟩:=hr.stored j u;exact h.change i hi h2 h1 fun b hb=>.inl hb
theorem Sep.cellRow (h:Sep w0 w l)(i:Nat)(hi:l[i]?=some (.row e k (.slice (some ⟨g,0,none⟩) n c) n us)){j:Nat}{u:Value}(hj:us[j]?=some u):w.cell? ⟨g,j,none⟩=some u:=by
 have hr:w.ownsRow w0.heap.size e k (.slice (some ⟨g,0,none⟩) n c) n us:=h.at_ i hi;have hl:=(lL hj);have:=hr.1;exact(hr.cellAt j (by omega)).trans hj
theorem Sep.frozenRow (h:Sep w0 w l)(i:Nat)(hi:l[i]?=some (.row e k (.slice (some ⟨g,0,none⟩) n c) n us))(j:Nat):w.frozen? ⟨g,j,none⟩=false:=by
 have hr:w.ownsRow w0.heap.size e k (.slice (some ⟨g,0,none⟩) n c) n us:=h.at_ i hi;exact hr.frozenAt j
theorem Sep.emptyRow (h:Sep w0 w l):Sep w0 (w.alloc (.cells #[] 37)) (.row 37 7 (.slice (some ⟨w.heap.size,0,none⟩) 0 0) 0 []::l):=by
 refine h.pushNew (h.below ((Below.refl _ _).alloc (Nat.le_refl _) _)) ?_ fun k hk=>by
  have hk:some w.heap.size=some k:=hk;injection hk with hk;omega
 exact World.ownsRow_lit w #[] 0 h.size (Nat.zero_le _) rfl
structure NodC (w:World) (A:Option Addr) (m:Nat) (vs:List Value):Prop where
 len:vs.length=m*7
 one:∀ u∈vs,u.oneCell'=true
 at_:∀ ad,A=some ad→∀ j u,vs[j]?=some u→w.cell? (ad.add j)=some u
 none_:A=none→m=0
 few:m≤900
theorem d5r (hM:Nods w A m M):∃ vs,NodK w vs M∧NodC w A m vs:=by
 obtain⟨vs,k1,k2,k3,k4⟩:=c4z hM;refine⟨vs,k1,k2,k3,k4,fun e=>?_,hM.2.1⟩;rcases Nat.eq_zero_or_pos m with h|h
 ·exact h
 ·obtain⟨x,hx⟩:∃ x,M[0]?=some x:=gE (by have:=hM.1;omega);obtain⟨a0,_,_,_,_,_,_,_,_,_,e0,_⟩:=hM.2.2 0 x hx;rw[e] at e0;cases e0
theorem NodC.below (h:NodC w A m vs)(hb:Below w.heap.size w w'):NodC w' A m vs :=
 ⟨h.len,h.one,fun ad e j u hu=>(hb.cell (World.block_lt_of_cell? _ _ (h.at_ ad e j u hu))).trans (h.at_ ad e j u hu),h.none_,h.few⟩
theorem b0y (hgd:o.guard=none)(s y:Operand)(t:TypeId)
  (ho:o.op=.call { callee:=.builtin .append,args:=#[s,y],argTypes:=#[t,t] })(ht:prog.underlying t=some (.slice 37))
  (H:Sep w0 w l)(i:Nat)(hi:l[i]?=some (.row 37 7 v n us))(hs:a.eval s=v)(hy:a.eval y=.slice A m c)(hM:NodC w A m vs)
  (hn:n≤1000)
  (h:∀ v' w', Sep w0 w' (l.set i (.row 37 7 v' (n+m) (us++vs)))→wpList prog ops Q rest (a.put o.dst v') w'):
  wpList prog ops Q (o::rest) a w:=by
 obtain⟨ti,g1,g2,g3,g4⟩:=a8y;have hr:w.ownsRow w0.heap.size 37 7 v n us:=H.at_ i hi;have hfew:=hM.few
 cases A with
 | some ad =>
  refine wpList_append_own_at _ hgd s y t ho w0.heap.size 37 ti _ 7 112 ht g1 g2 g3 g4 (by rfl) (by omega) v n us hs hr ad m c vs hy hM.len (hM.at_ ad rfl) hM.one (by unfold maxLen;omega) (by omega) H.size ?_;intro v' w' h5 h6 _ h8
  exact h v' w' (H.change i hi h6 h5 fun b hb=>by
   have hb:v'.ownBlock=some b:=hb;rcases h8 with e|e
   ·exact .inl (e.symm.trans hb)
   ·rw[e] at hb;injection hb with hb;subst hb;exact .inr (Nat.le_refl _))
 | none =>
  have hm:m=0:=hM.none_ rfl;subst hm;have hvs:vs=[]:=List.eq_nil_of_length_eq_zero (by have:=hM.len;omega)
  have hrun:(Builtin.append_ #[t,t] o.type #[v,.slice none 0 c]).run prog w=.ok v w:=by
   rcases hr.2 with ⟨rfl,rfl⟩|⟨g,cap,cur,rfl,_,_,hnc,_⟩
   ·simp[Builtin.append_,run_underlying ht,sizeOf,typeInfo,g1,Builtin.lenOf,Builtin.firstCells]
   ·simp[Builtin.append_,run_underlying ht,sizeOf,typeInfo,g1,Builtin.lenOf,Builtin.firstCells,hnc,storeCells]
  refine wpList_plain hgd fun K hK=>?_
  unfold Oper.wp execOp;simp only[ho,resolve,invoke,builtin,Sem.run_bind,Sem.run_pure,Result.andThen_ok,List.map_toArray,List.map_cons,List.map_nil,hs,hy,hrun]
  have hset:l.set i (.row 37 7 v (n+0) (us++vs))=l:=by
   rw[hvs,List.append_nil,Nat.add_zero];apply List.ext_getElem?;intro j;by_cases e:j=i
   ·subst e;rw[List.getElem?_set_self (lL hi),hi]
   ·rw[List.getElem?_set_ne (fun q=>e q.symm)]
  exact hK _ _ (h v w (by rw[hset];exact H))
end Go.Proofs.YtajhdeddgdhccaaGreatDoor
