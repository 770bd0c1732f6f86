import Derived.Test.YtjblengklgkgfaaGreatPau
import Derived.Test.YtjblengklgkgfaaGreatPbh
set_option maxRecDepth 100000
set_option maxHeartbeats 12800000
namespace Go.Proofs.YtjblengklgkgfaaGreat
open Go.RowKit Go.Proofs.Tryz
variable {A B C:Option Addr} {L M N:List a0s} {Q:Exit→Act→World→Prop} {a:Act} {c ca cb cc g i j k m n na nb nc q:Nat} {e:TypeId} {l pool:List a0c} {nd:a0s} {o:Oper} {ops:Array Oper} {rest:List Oper} {s:List Int} {us vs:List Value} {v v0 v1 v2 v3 v4 v5 v6:Value} {w w' w0:World}
theorem d8e:(prog.info? 38).map (fun i=>(i.zero,i.size,i.bytes))=some (some (.agg zA),7,112):=by kernel_rfl
theorem a6o:∃ i,prog.info? 38=some i∧i.zero=some (.agg zA)∧i.size=7∧i.bytes=112:=by
 have h:=d8e
 cases e:prog.info? 38 with
 | none=>rw[e] at h;cases h
 | some i =>
  rw[e] at h;simp only[Option.map_some,Option.some.injEq,Prod.mk.injEq] at h;exact⟨i,rfl,h.1,h.2.1,h.2.2⟩
theorem a6e (hgd:o.guard=none)(s y:Operand)(t:TypeId)
  (ho:o.op=.call { callee:=.builtin .append,args:=#[s,y],argTypes:=#[t,t] })(ht:prog.underlying t=some (.slice 38))
  (H:Sep w0 w l)(i:Nat)(hi:l[i]?=some (.row 38 7 v n us))(hs:a.eval s=v)(c:Nat)(hy:a.eval y=.slice (some ⟨w.heap.size,0,none⟩) 1 c)
  (h1:v0.oneCell'=true)(h2:v1.oneCell'=true)(h3:v2.oneCell'=true)(h4:v3.oneCell'=true)(h5:v4.oneCell'=true)(h6:v5.oneCell'=true)(h7:v6.oneCell'=true)
  (hn:n≤1000)
  (h:∀ v' w', Sep w0 w' (l.set i (.row 38 7 v' (n+1) (us++[v0,v1,v2,v3,v4,v5,v6])))→wpList prog ops Q rest (a.put o.dst v') w'):
  wpList prog ops Q (o::rest) a (w.alloc (.cells #[v0,v1,v2,v3,v4,v5,v6] 38)):=by
 obtain⟨ti,g1,g2,g3,g4⟩:=a6o;have H':=H.below ((Below.refl w.heap.size w).alloc (Nat.le_refl _) (.cells #[v0,v1,v2,v3,v4,v5,v6] 38));have hsz:=H'.size;refine wpList_append_own_at _ hgd s y t ho w0.heap.size 38 ti _ 7 112 ht g1 g2 g3 g4 (by rfl) (by omega) v n us hs (H'.at_ i hi) ⟨w.heap.size,0,none⟩ 1 c [v0,v1,v2,v3,v4,v5,v6] hy rfl ?_ (by simp[h1,h2,h3,h4,h5,h6,h7]) (by unfold maxLen;omega) (by omega) hsz ?_
 ·intro j u hj;have hb:=heap_alloc_new w (.cells #[v0,v1,v2,v3,v4,v5,v6] 38)
  match j,hj with
  | 0,hj=>simp at hj;subst hj;exact cell_of_row _ _ 0 _ _ _ hb
  | 1,hj=>simp at hj;subst hj;exact cell_of_row _ _ 1 _ _ _ hb
  | 2,hj=>simp at hj;subst hj;exact cell_of_row _ _ 2 _ _ _ hb
  | 3,hj=>simp at hj;subst hj;exact cell_of_row _ _ 3 _ _ _ hb
  | 4,hj=>simp at hj;subst hj;exact cell_of_row _ _ 4 _ _ _ hb
  | 5,hj=>simp at hj;subst hj;exact cell_of_row _ _ 5 _ _ _ hb
  | 6,hj=>simp at hj;subst hj;exact cell_of_row _ _ 6 _ _ _ hb
  | j+7,hj=>simp at hj
 ·intro v' w' h5 h6 _ h8
  exact h v' w' (H'.change i hi h6 h5 fun b hb=>by
   have hb:v'.ownBlock=some b:=hb;rcases h8 with e|e
   ·exact .inl (e.symm.trans hb)
   ·rw[e] at hb;injection hb with hb;subst hb;exact .inr (Nat.le_refl _))
structure e1y (us:List Value) (j:Nat) (nd:a0s) (pool:List a0c) (A:Option Addr) (na ca:Nat) (B:Option Addr) (nb cb:Nat) (C:Option Addr) (nc cc p q r:Nat):Prop where
 u0:us[j*7]?=some (.int .i64 nd.op)
 u1:us[j*7+1]?=some (.slice A na ca)
 u2:us[j*7+2]?=some (.slice B nb cb)
 u3:us[j*7+3]?=some (.slice C nc cc)
 u4:us[j*7+4]?=some (.int .i64 nd.n)
 u5:us[j*7+5]?=some (.int .i64 nd.how)
 u6:us[j*7+6]?=some (.string nd.note)
 pA:pool[p]?=some (a0c.own 3 (.slice A na ca) na nd.ins)
 pB:pool[q]?=some (a0c.own 3 (.slice B nb cb) nb nd.shape)
 pC:pool[r]?=some (a0c.own 3 (.slice C nc cc) nc nd.a)
 op:Fits nd.op
 n:Fits nd.n
 how:Fits nd.how
 note:nd.note.size≤17592186044000
def c3k (us:List Value) (L:List a0s) (pool:List a0c):Prop:=us.length=L.length*7∧∀(j:Nat) (nd:a0s),L[j]?=some nd→∃ A na ca B nb cb C nc cc p q r,e1y us j nd pool A na ca B nb cb C nc cc p q r
theorem d5z:c3k [] [] pool:=⟨rfl,fun j t h=>by simp at h⟩
theorem c3k.shift {c:a0c}(h:c3k us L pool):c3k us L (c::pool) :=
 ⟨h.1,fun j s hs=>by
  obtain⟨A,na,ca,B,nb,cb,C,nc,cc,p,q,r,h⟩:=h.2 j s hs
  exact⟨A,na,ca,B,nb,cb,C,nc,cc,p+1,q+1,r+1,h.u0,h.u1,h.u2,h.u3,h.u4,h.u5,h.u6,h.pA,h.pB,h.pC,h.op,h.n,h.how,h.note⟩⟩
theorem c3k.snoc {p r:Nat}(h:c3k us L pool)
  (pA:pool[p]?=some (a0c.own 3 (.slice A na ca) na nd.ins))(pB:pool[q]?=some (a0c.own 3 (.slice B nb cb) nb nd.shape))(pC:pool[r]?=some (a0c.own 3 (.slice C nc cc) nc nd.a))(h1:Fits nd.op)(h2:Fits nd.n)(h3:Fits nd.how)(h4:nd.note.size≤17592186044000):
  c3k (us++[.int .i64 nd.op,.slice A na ca,.slice B nb cb,.slice C nc cc,.int .i64 nd.n,.int .i64 nd.how,.string nd.note]) (L++[nd]) pool:=by
 obtain⟨hl,h⟩:=h;refine⟨by simp[hl];omega,fun j u hu=>?_⟩;rcases Nat.lt_or_ge j L.length with hj|hj
 ·rw[List.getElem?_append_left hj] at hu;obtain⟨A', na', ca', B', nb', cb', C', nc', cc', p', q', r', g⟩:=h j u hu
  have ea:∀(k:Nat) (x:Value),us[k]?=some x→(us++[.int .i64 nd.op,.slice A na ca,.slice B nb cb,.slice C nc cc,.int .i64 nd.n,.int .i64 nd.how,.string nd.note])[k]?=some x:=fun k x hk=>by
   rw[List.getElem?_append_left (lL hk)];exact hk
  exact⟨A', na', ca', B', nb', cb', C', nc', cc', p', q', r', ea _ _ g.u0,ea _ _ g.u1,ea _ _ g.u2,ea _ _ g.u3,ea _ _ g.u4,ea _ _ g.u5,ea _ _ g.u6,g.pA,g.pB,g.pC,g.op,g.n,g.how,g.note⟩
 ·rw[List.getElem?_append_right hj] at hu
  have hj' : j=L.length:=by
   rcases Nat.eq_or_lt_of_le hj with e|e
   ·exact e.symm
   ·obtain⟨m,hm⟩:∃ m,j-L.length=m+1:=⟨j-L.length-1,by omega⟩;rw[hm] at hu;simp at hu
  subst hj';simp at hu;subst hu
  have ea:∀(k:Nat),(us++[.int .i64 nd.op,.slice A na ca,.slice B nb cb,.slice C nc cc,.int .i64 nd.n,.int .i64 nd.how,.string nd.note])[L.length*7+k]?=[Value.int .i64 nd.op,.slice A na ca,.slice B nb cb,.slice C nc cc,.int .i64 nd.n,.int .i64 nd.how,.string nd.note][k]? := fun k=>by
   rw[List.getElem?_append_right (by omega),hl,show L.length*7+k-L.length*7=k by omega]
  exact⟨A,na,ca,B,nb,cb,C,nc,cc,p,q,r,ea 0,ea 1,ea 2,ea 3,ea 4,ea 5,ea 6,pA,pB,pC,h1,h2,h3,h4⟩
theorem b4y (i:Nat)(h:Sep w0 w l)(hi:l[i]?=some (.row 38 7 v n us))(hP:c3k us L pool)(hn:L.length=n)(hn2:n≤900)(f:Nat)(hf:∀ i,l[i+f]?=pool[i]?):
  ∃ A c,v=.slice A n c∧n≤c∧Nods w A n L:=by
 have hr:w.ownsRow w0.heap.size 38 7 v n us:=h.at_ i hi;rcases Nat.eq_zero_or_pos n with e|e
 ·subst e;have hT:∀ A,Nods w A 0 L:=fun A=>⟨hn,by omega,fun j t ht=>by rw[List.eq_nil_of_length_eq_zero hn] at ht;simp at ht⟩
  rcases hr.2 with ⟨hv,_⟩|⟨g,cap,cur,hv,_⟩
  ·exact⟨none,0,hv,Nat.le_refl _,hT _⟩
  ·exact⟨_,cap,hv,Nat.zero_le _,hT _⟩
 ·obtain⟨g,c,rfl,hc⟩:=h.rowForm i hi e;refine⟨_,c,rfl,hc,hn,hn2,fun j s hs=>?_⟩;have hj:j<L.length:=(lL hs);obtain⟨A,na,ca,B,nb,cb,C,nc,cc,p,q,r,g1⟩:=hP.2 j s hs;have hlt:=(World.ownsRow.lt hr g rfl).2;have hA:=h.ownInts (p+f) ((hf p).trans g1.pA);have hB:=h.ownInts (q+f) ((hf q).trans g1.pB);have hC:=h.ownInts (r+f) ((hf r).trans g1.pC);have hc0:∀ k:Nat,k<7→w.cell? ⟨g,j*7+k,none⟩=us[j*7+k]? := fun k hk=>hr.cellAt (j*7+k) (by omega)
  refine⟨⟨g,0,none⟩,A,na,ca,B,nb,cb,C,nc,cc,rfl,hlt,?_,?_,?_,?_,?_,?_,?_,⟨hA.2.1,hB.2.1,hC.2.1,hA.2.2,hB.2.2,hC.2.2,g1.op,g1.n,g1.how,g1.note⟩⟩
  ·rw[a3j];exact(hc0 0 (by omega)).trans g1.u0
  ·rw[a3j];exact(hc0 1 (by omega)).trans g1.u1
  ·rw[a3j];exact(hc0 2 (by omega)).trans g1.u2
  ·rw[a3j];exact(hc0 3 (by omega)).trans g1.u3
  ·rw[a3j];exact(hc0 4 (by omega)).trans g1.u4
  ·rw[a3j];exact(hc0 5 (by omega)).trans g1.u5
  ·rw[a3j];exact(hc0 6 (by omega)).trans g1.u6
theorem d1c {L:List (List Int)}(k f:Nat)(h:Sep w0 w l)(hk:l[k]?=some (.row 22 1 v m us))(hki:i≠k)(hP:a9o us L pool)(hn:L.length=m)(hn2:m≤900)(hf:∀ j,l[j+f]?=pool[j]?)(hif:i<f):
  ∃ Al cl,v=.slice Al m cl∧m≤cl∧a7k w0 l i g A n c Al m L:=by
 have hr:w.ownsRow w0.heap.size 22 1 v m us:=h.at_ k hk;rcases Nat.eq_zero_or_pos m with e|e
 ·subst e;have hT:∀ Al,a7k w0 l i g A n c Al 0 L:=fun Al=>⟨hn,by omega,fun j t ht=>by rw[List.eq_nil_of_length_eq_zero hn] at ht;simp at ht⟩
  rcases hr.2 with ⟨hv,_⟩|⟨g,cap,cur,hv,_⟩
  ·exact⟨none,0,hv,Nat.le_refl _,hT _⟩
  ·exact⟨_,cap,hv,Nat.zero_le _,hT _⟩
 ·obtain⟨gr,cr,rfl,hc⟩:=h.rowForm k hk e;refine⟨_,cr,rfl,hc,hn,hn2,fun j s hs=>?_⟩;have hj:j<L.length:=(lL hs);obtain⟨S,sn,sc,p,h1,h2⟩:=hP.2 j s hs;have hsc:=(h.ownInts (p+f) ((hf p).trans h2)).2.1;refine⟨⟨gr,0,none⟩,S,sn,sc,rfl,hsc,fun w1 a1 l1 hK H1=>?_⟩;have e1:=hK.eq;subst e1;have hk1:(l.set i (TB g A n c a1))[k]?=some (.row 22 1 (.slice (some ⟨gr,0,none⟩) m cr) m us):=by rw[List.getElem?_set_ne hki];exact hk
  have hr1:w1.ownsRow w0.heap.size 22 1 (.slice (some ⟨gr,0,none⟩) m cr) m us:=H1.at_ k hk1;have hp1:(l.set i (TB g A n c a1))[p+f]?=some (a0c.own 3 (.slice S sn sc) sn s):=by rw[List.getElem?_set_ne (by omega)];exact(hf p).trans h2
  refine⟨(World.ownsRow.lt hr1 gr rfl).2,?_,(H1.ownInts (p+f) hp1).2.2⟩;rw[a3j,hr1.cellAt j (by omega),h1]
def NodK (w:World) (us:List Value) (N:List a0s):Prop :=
 us.length=N.length*7∧∀(j:Nat) (nd:a0s),N[j]?=some nd→∃ A na ca B nb cb C nc cc,(∀ i,i<7→us[j*7+i]?=(a7t nd A na ca B nb cb C nc cc)[i]?)∧b0g w nd A na ca B nb cb C nc cc
theorem d8b (w:World):NodK w [] []:=⟨rfl,fun j nd h=>by simp at h⟩
theorem NodK.below (h:NodK w us N)(hb:Below w.heap.size w w'):NodK w' us N :=
 ⟨h.1,fun j nd hj=>by
  obtain⟨A,na,ca,B,nb,cb,C,nc,cc,h1,h2⟩:=h.2 j nd hj
  exact⟨A,na,ca,B,nb,cb,C,nc,cc,h1,h2.below hb⟩⟩
theorem NodK.append (h:NodK w us N)(g:NodK w vs M):NodK w (us++vs) (N++M):=by
 refine⟨by rw[List.length_append,List.length_append,h.1,g.1];omega,fun j nd hj=>?_⟩;rcases Nat.lt_or_ge j N.length with hl|hl
 ·rw[List.getElem?_append_left hl] at hj;obtain⟨A,na,ca,B,nb,cb,C,nc,cc,h1,h2⟩:=h.2 j nd hj;refine⟨A,na,ca,B,nb,cb,C,nc,cc,fun i hi=>?_,h2⟩;rw[List.getElem?_append_left (by have:=h.1;omega)];exact h1 i hi
 ·rw[List.getElem?_append_right hl] at hj;obtain⟨A,na,ca,B,nb,cb,C,nc,cc,h1,h2⟩:=g.2 _ nd hj;refine⟨A,na,ca,B,nb,cb,C,nc,cc,fun i hi=>?_,h2⟩;have:=h.1;rw[List.getElem?_append_right (by omega),show j*7+i-us.length=(j-N.length)*7+i by omega];exact h1 i hi
theorem b1x (h:b0g w nd A na ca B nb cb C nc cc):NodK w (a7t nd A na ca B nb cb C nc cc) [nd] :=
 ⟨rfl,fun j x hj=>by
  have hj0:j=0:=by
   rcases Nat.eq_zero_or_pos j with e|e
   ·exact e
   ·rw[List.getElem?_eq_none (by simp;omega)] at hj;cases hj
  subst hj0;injection hj with hj;subst hj
  exact⟨A,na,ca,B,nb,cb,C,nc,cc,fun i _=>by rw[Nat.zero_mul,Nat.zero_add],h⟩⟩
def set7 (us:List Value) (k:Nat) (v0 v1 v2 v3 v4 v5 v6:Value):List Value :=
 ((((((us.set k v0).set (k+1) v1).set (k+2) v2).set (k+3) v3).set (k+4) v4).set (k+5) v5).set (k+6) v6
theorem d0j (h:i<k∨k+7≤i):(set7 us k v0 v1 v2 v3 v4 v5 v6)[i]?=us[i]? := by
 unfold set7
 repeat rw[List.getElem?_set_ne (by omega)]
theorem e0d (hk:k+7≤us.length)(hi:i<7):(set7 us k v0 v1 v2 v3 v4 v5 v6)[k+i]?=[v0,v1,v2,v3,v4,v5,v6][i]? := by
 unfold set7;have hc:i=0∨i=1∨i=2∨i=3∨i=4∨i=5∨i=6:=by omega
 rcases hc with rfl|rfl|rfl|rfl|rfl|rfl|rfl
 ·repeat rw[List.getElem?_set_ne (by omega)]
  rw[Nat.add_zero,List.getElem?_set_self (by omega)];rfl
 ·repeat rw[List.getElem?_set_ne (by omega)]
  rw[List.getElem?_set_self (by simp;omega)];rfl
 ·repeat rw[List.getElem?_set_ne (by omega)]
  rw[List.getElem?_set_self (by simp;omega)];rfl
 ·repeat rw[List.getElem?_set_ne (by omega)]
  rw[List.getElem?_set_self (by simp;omega)];rfl
 ·repeat rw[List.getElem?_set_ne (by omega)]
  rw[List.getElem?_set_self (by simp;omega)];rfl
 ·repeat rw[List.getElem?_set_ne (by omega)]
  rw[List.getElem?_set_self (by simp;omega)];rfl
 ·rw[List.getElem?_set_self (by simp;omega)];rfl
theorem NodK.set (h:NodK w us N)(hk:k<N.length)(g:b0g w nd A na ca B nb cb C nc cc):
  NodK w (set7 us (k*7) (.int .i64 nd.op) (.slice A na ca) (.slice B nb cb) (.slice C nc cc) (.int .i64 nd.n) (.int .i64 nd.how) (.string nd.note)) (N.set k nd):=by
 refine⟨by unfold set7;simp[h.1],fun j x hj=>?_⟩;by_cases e:j=k
 ·subst e;rw[List.getElem?_set_self hk] at hj;injection hj with hj;subst hj
  exact⟨A,na,ca,B,nb,cb,C,nc,cc,fun i hi=>e0d (by have:=h.1;omega) hi,g⟩
 ·rw[List.getElem?_set_ne (fun q=>e q.symm)] at hj;obtain⟨A', na', ca', B', nb', cb', C', nc', cc', h1,h2⟩:=h.2 j x hj;refine⟨A', na', ca', B', nb', cb', C', nc', cc', fun i hi=>?_,h2⟩;rw[d0j (by omega)];exact h1 i hi
theorem d2b (h:Nods w A n N):
  ∃ us,NodK w us N∧us.length=n*7∧(∀ u∈us,u.oneCell'=true)∧(∀ ad,A=some ad→∀ j u,us[j]?=some u→w.cell? (ad.add j)=some u):=by
 have key:∀ m,m≤N.length→∃ us,NodK w us (N.take m)∧(∀ u∈us,u.oneCell'=true)∧(∀ ad,A=some ad→∀ j u,us[j]?=some u→w.cell? (ad.add j)=some u):=by
  intro m
  induction m with
  | zero=>exact fun _=>⟨[],d8b w,by simp,by simp⟩
  | succ m ih =>
   intro hm;obtain⟨us,h1,h2,h3⟩:=ih (by omega);have hg:N[m]?=some (N[m]'(by omega)):=List.getElem?_eq_getElem (by omega);obtain⟨nd,hnd⟩:∃ nd,N[m]'(by omega)=nd:=⟨_,rfl⟩;rw[hnd] at hg;obtain⟨a,S,na,ca,B,nb,cb,C,nc,cc,e,hl,c0,c1,c2,c3,c4,c5,c6,hN⟩:=h.2.2 m nd hg;have hlen:us.length=m*7:=by rw[h1.1,List.length_take];congr 1;omega
   refine⟨us++a7t nd S na ca B nb cb C nc cc,?_,?_,?_⟩
   ·rw[List.take_add_one,hg];exact h1.append (b1x hN)
   ·intro u hu;rcases List.mem_append.1 hu with hu|hu
    ·exact h2 u hu
    ·simp only[a7t,List.mem_cons,List.not_mem_nil,or_false] at hu;rcases hu with rfl|rfl|rfl|rfl|rfl|rfl|rfl <;> rfl
   ·intro ad had j u hu;rw[e] at had;injection had with had;subst had
    rcases Nat.lt_or_ge j us.length with hj|hj
    ·rw[List.getElem?_append_left hj] at hu;exact h3 a e j u hu
    ·rw[List.getElem?_append_right hj] at hu;obtain⟨i,hi⟩:∃ i,j=m*7+i:=⟨j-m*7,by omega⟩;subst hi;rw[hlen,show m*7+i-m*7=i by omega] at hu
     have hi7:i<7:=by
      rcases Nat.lt_or_ge i 7 with q|q
      ·exact q
      ·rw[List.getElem?_eq_none (by simp[a7t];omega)] at hu;cases hu
     have adr:∀ i,0<i→a.add (m*7+i)=⟨(a.add (m*7)).block,(a.add (m*7)).off+i,none⟩:=fun i hi=>by
      by_cases hm0:m*7=0
      ·rw[hm0];simp[Addr.add];omega
      ·simp[Addr.add,hm0];omega
     have hc:i=0∨i=1∨i=2∨i=3∨i=4∨i=5∨i=6:=by omega
     rcases hc with rfl|rfl|rfl|rfl|rfl|rfl|rfl
     ·rw[Nat.add_zero,c0];exact hu
     ·rw[adr 1 (by omega),c1];exact hu
     ·rw[adr 2 (by omega),c2];exact hu
     ·rw[adr 3 (by omega),c3];exact hu
     ·rw[adr 4 (by omega),c4];exact hu
     ·rw[adr 5 (by omega),c5];exact hu
     ·rw[adr 6 (by omega),c6];exact hu
 obtain⟨us,h1,h2,h3⟩:=key N.length (Nat.le_refl _);rw[List.take_length] at h1;exact⟨us,h1,by rw[h1.1,h.1],h2,h3⟩
theorem b6v (i:Nat)(h:Sep w0 w l)(hi:l[i]?=some (.row 38 7 v n us))(hK:NodK w us N)(hn:N.length=n)(hn2:n≤900):
  ∃ A c,v=.slice A n c∧n≤c∧Nods w A n N:=by
 have hr:w.ownsRow w0.heap.size 38 7 v n us:=h.at_ i hi;rcases Nat.eq_zero_or_pos n with e|e
 ·subst e;have hT:∀ A,Nods w A 0 N:=fun A=>⟨hn,by omega,fun j t ht=>by rw[List.eq_nil_of_length_eq_zero hn] at ht;simp at ht⟩
  rcases hr.2 with ⟨hv,_⟩|⟨g,cap,cur,hv,_⟩
  ·exact⟨none,0,hv,Nat.le_refl _,hT _⟩
  ·exact⟨_,cap,hv,Nat.zero_le _,hT _⟩
 ·obtain⟨g,c,rfl,hc⟩:=h.rowForm i hi e;refine⟨_,c,rfl,hc,hn,hn2,fun j nd hs=>?_⟩;have hj:j<N.length:=(lL hs);obtain⟨A,na,ca,B,nb,cb,C,nc,cc,h1,h2⟩:=hK.2 j nd hs;have hlt:=(World.ownsRow.lt hr g rfl).2;have hc0:∀ k:Nat,k<7→w.cell? ⟨g,j*7+k,none⟩=(a7t nd A na ca B nb cb C nc cc)[k]? := fun k hk=>(hr.cellAt (j*7+k) (by omega)).trans (h1 k hk)
  refine⟨⟨g,0,none⟩,A,na,ca,B,nb,cb,C,nc,cc,rfl,hlt,?_,?_,?_,?_,?_,?_,?_,h2⟩
  ·rw[a3j];exact hc0 0 (by omega)
  ·rw[a3j];exact hc0 1 (by omega)
  ·rw[a3j];exact hc0 2 (by omega)
  ·rw[a3j];exact hc0 3 (by omega)
  ·rw[a3j];exact hc0 4 (by omega)
  ·rw[a3j];exact hc0 5 (by omega)
  ·rw[a3j];exact hc0 6 (by omega)
theorem Sep.setRow (h:Sep w0 w l)(i:Nat)(hi:l[i]?=some (.row e k (.slice (some ⟨g,0,none⟩) n c) n us))(j:Nat)(u:Value):
  Sep w0 (w.setCell ⟨g,j,none⟩ u) (l.set i (.row e k (.slice (some ⟨g,0,none⟩) n c) n (us.set j u))):=by
 have hr:w.ownsRow w0.heap.size e k (.slice (some ⟨g,0,none⟩) n c) n us:=h.at_ i hi;obtain⟨h1,h2⟩:=hr.stored j u;exact h.change i hi h2 h1 fun b hb=>.inl hb
theorem Sep.cellRow (h:Sep w0 w l)(i:Nat)(hi:l[i]?=some (.row e k (.slice (some ⟨g,0,none⟩) n c) n us)){u:Value}(hj:us[j]?=some u):w.cell? ⟨g,j,none⟩=some u:=by
 have hr:w.ownsRow w0.heap.size e k (.slice (some ⟨g,0,none⟩) n c) n us:=h.at_ i hi;have hl:=(lL hj);have:=hr.1;exact(hr.cellAt j (by omega)).trans hj
theorem Sep.frozenRow (h:Sep w0 w l)(i:Nat)(hi:l[i]?=some (.row e k (.slice (some ⟨g,0,none⟩) n c) n us))(j:Nat):w.frozen? ⟨g,j,none⟩=false:=by
 have hr:w.ownsRow w0.heap.size e k (.slice (some ⟨g,0,none⟩) n c) n us:=h.at_ i hi;exact hr.frozenAt j
theorem Sep.emptyRow (h:Sep w0 w l):Sep w0 (w.alloc (.cells #[] 38)) (.row 38 7 (.slice (some ⟨w.heap.size,0,none⟩) 0 0) 0 []::l):=by
 refine h.pushNew (h.below ((Below.refl _ _).alloc (Nat.le_refl _) _)) ?_ fun k hk=>by
  have hk:some w.heap.size=some k:=hk;injection hk with hk;omega
 exact World.ownsRow_lit w #[] 0 h.size (Nat.zero_le _) rfl
structure NodC (w:World) (A:Option Addr) (m:Nat) (vs:List Value):Prop where
 len:vs.length=m*7
 one:∀ u∈vs,u.oneCell'=true
 at_:∀ ad,A=some ad→∀ j u,vs[j]?=some u→w.cell? (ad.add j)=some u
 none_:A=none→m=0
 few:m≤900
theorem d9y (hM:Nods w A m M):∃ vs,NodK w vs M∧NodC w A m vs:=by
 obtain⟨vs,k1,k2,k3,k4⟩:=d2b hM;refine⟨vs,k1,k2,k3,k4,fun e=>?_,hM.2.1⟩;rcases Nat.eq_zero_or_pos m with h|h
 ·exact h
 ·obtain⟨x,hx⟩:∃ x,M[0]?=some x:=gE (by have:=hM.1;omega);obtain⟨a0,_,_,_,_,_,_,_,_,_,e0,_⟩:=hM.2.2 0 x hx;rw[e] at e0;cases e0
theorem NodC.below (h:NodC w A m vs)(hb:Below w.heap.size w w'):NodC w' A m vs :=
 ⟨h.len,h.one,fun ad e j u hu=>(hb.cell (World.block_lt_of_cell? _ _ (h.at_ ad e j u hu))).trans (h.at_ ad e j u hu),h.none_,h.few⟩
theorem b4x (hgd:o.guard=none)(s y:Operand)(t:TypeId)
  (ho:o.op=.call { callee:=.builtin .append,args:=#[s,y],argTypes:=#[t,t] })(ht:prog.underlying t=some (.slice 38))
  (H:Sep w0 w l)(i:Nat)(hi:l[i]?=some (.row 38 7 v n us))(hs:a.eval s=v)(hy:a.eval y=.slice A m c)(hM:NodC w A m vs)
  (hn:n≤1000)
  (h:∀ v' w', Sep w0 w' (l.set i (.row 38 7 v' (n+m) (us++vs)))→wpList prog ops Q rest (a.put o.dst v') w'):
  wpList prog ops Q (o::rest) a w:=by
 obtain⟨ti,g1,g2,g3,g4⟩:=a6o;have hr:w.ownsRow w0.heap.size 38 7 v n us:=H.at_ i hi;have hfew:=hM.few
 cases A with
 | some ad =>
  refine wpList_append_own_at _ hgd s y t ho w0.heap.size 38 ti _ 7 112 ht g1 g2 g3 g4 (by rfl) (by omega) v n us hs hr ad m c vs hy hM.len (hM.at_ ad rfl) hM.one (by unfold maxLen;omega) (by omega) H.size ?_;intro v' w' h5 h6 _ h8
  exact h v' w' (H.change i hi h6 h5 fun b hb=>by
   have hb:v'.ownBlock=some b:=hb;rcases h8 with e|e
   ·exact .inl (e.symm.trans hb)
   ·rw[e] at hb;injection hb with hb;subst hb;exact .inr (Nat.le_refl _))
 | none =>
  have hm:m=0:=hM.none_ rfl;subst hm;have hvs:vs=[]:=List.eq_nil_of_length_eq_zero (by have:=hM.len;omega)
  have hrun:(Builtin.append_ #[t,t] o.type #[v,.slice none 0 c]).run prog w=.ok v w:=by
   rcases hr.2 with ⟨rfl,rfl⟩|⟨g,cap,cur,rfl,_,_,hnc,_⟩
   ·simp[Builtin.append_,run_underlying ht,sizeOf,typeInfo,g1,Builtin.lenOf,Builtin.firstCells]
   ·simp[Builtin.append_,run_underlying ht,sizeOf,typeInfo,g1,Builtin.lenOf,Builtin.firstCells,hnc,storeCells]
  refine wpList_plain hgd fun K hK=>?_
  unfold Oper.wp execOp;simp only[ho,resolve,invoke,builtin,Sem.run_bind,Sem.run_pure,Result.andThen_ok,List.map_toArray,List.map_cons,List.map_nil,hs,hy,hrun]
  have hset:l.set i (.row 38 7 v (n+0) (us++vs))=l:=by
   rw[hvs,List.append_nil,Nat.add_zero];apply List.ext_getElem?;intro j;by_cases e:j=i
   ·subst e;rw[List.getElem?_set_self (lL hi),hi]
   ·rw[List.getElem?_set_ne (fun q=>e q.symm)]
  exact hK _ _ (h v w (by rw[hset];exact H))
def b2i (s:List Int):Bool:=decide (s.length≤3)&&s.all b2k&&decide (Sh.pr s≤8)
theorem d9g (G:a3n):a8n G=(b2i G.sizes&&a9a (a0k G.names) G.sizes.length):=rfl
theorem c4h {x:Int}(h:s[j]?=some x)(hx:x<1∨8<x):b2i s=false:=by
 obtain⟨hj,rfl⟩:=List.getElem?_eq_some_iff.1 h
 cases e:b2i s with
 | false=>rfl
 | true =>
  simp only[b2i,Bool.and_eq_true,decide_eq_true_eq,List.all_eq_true,b2k] at e;obtain⟨⟨h1,h2⟩,_⟩:=e;have:=h2 _ (List.getElem_mem hj);omega
theorem d5m (hl:s.length≤3)(h:∀(i:Nat) (x:Int),s[i]?=some x→1≤x∧x≤8):b2i s=decide (Sh.pr s≤8):=by
 have:s.all b2k=true:=by
  rw[List.all_eq_true];intro x hx;obtain⟨i,hi,e⟩:=List.getElem_of_mem hx;have:=h i x (by rw[List.getElem?_eq_getElem hi,e]);simp[b2k,this]
 simp only[b2i,this,decide_eq_true hl,Bool.true_and]
theorem d0q (h:Ints w A n s):
  Calls prog 55 #[.slice A n c] w fun e w'=>e=.returned (.bool (b2i s))∧w=w':=by
 have HSL:=Hd h.len;have hle:=h.le;by_cases hn:3<n
 ·have d0:decide (3<n)=true:=by simpa using hn
  have HX:=Hd (show b2i s=false by rw[b2i,decide_eq_false (by have:=HSL.out;omega)];rfl);clear h
  go_enter func55,ntmps55
  go_wp2;go_ret;exact⟨a0b HX.symm,rfl⟩
 have d0:decide (3<n)=false:=by simpa using hn
 have hn3:n≤3:=by omega
 go_enter func55,ntmps55
 go_wp2
 go_loop [11,3] (fun iv nv=>∃ j:Nat,iv=.int .i64 j∧nv=.int .i64 (Sh.pr (s.take j))∧j≤n∧(∀(i:Nat) (x:Int),s[i]?=some x→i<j→1≤x∧x≤8)) (fun iv _=>n-(intOf iv).toNat)
 case atStart=>exact⟨0,rfl,rfl,by omega,by omega⟩
 case round =>
  obtain⟨j,rfl,rfl,hj,hAll⟩:=hrel;have HA:=Hd hAll;clear hAll;by_cases hlt:j<n
  ·obtain⟨sa,x,hsA,_,hx,hcx,hfx⟩:=h.at_ (k:=j) hlt;subst hsA;by_cases h1:x<1
   ·have d1:decide (x<1)=true:=by simpa using h1
    have HX:=Hd (c4h hx (by omega));clear hx hfx;go_wp2;go_ret;exact⟨a0b HX.symm,rfl⟩
   have d1:decide (x<1)=false:=by simpa using h1
   by_cases h2:8<x
   ·have d2:decide (8<x)=true:=by simpa using h2
    have HX:=Hd (c4h hx (by omega));clear hx hfx;go_wp2;go_ret;exact⟨a0b HX.symm,rfl⟩
   have d2:decide (8<x)=false:=by simpa using h2
   have hpt:=Sh.pr_take s hx;have HX:=Hd hx
   have hps:∀ k,k≤j+1→0≤Sh.pr (s.take k)∧Sh.pr (s.take k)≤1048576:=fun k hk=>by
    have hm:∀ y∈s.take k,0≤y∧y≤32:=fun y hy=>by
     obtain⟨i,hi,e⟩:=List.getElem_of_mem hy;rw[List.length_take] at hi;have hi2:s[i]?=some y:=by rw[←e,List.getElem_take,List.getElem?_eq_getElem]
     rcases Nat.lt_or_ge i j with hij|hij
     ·have:=HA.out i y hi2 hij;omega
     ·obtain rfl:i=j:=by omega
      have h9:=HX.out;rw[hi2] at h9;injection h9 with h9;omega
    have hl4:(s.take k).length≤4:=by rw[List.length_take];omega
    exact Sh.pr_small _ hm hl4
   obtain⟨hq1,hq2⟩:=hps (j+1) (by omega);obtain⟨hq3,hq4⟩:=hps j (by omega);rw[hpt] at hq1 hq2;obtain⟨P,hP⟩:∃ P,Sh.pr (s.take j)=P:=⟨_,rfl⟩;rw[hP] at hq1 hq2 hq3 hq4 hpt ⊢;have hwp:IntKind.i64.wrap (P*x)=P*x:=IntWalk.i64_in _ ⟨by omega,by omega⟩;have HPT:=Hd hpt;clear hpt hps hP hx hfx;go_wp2;go_round
   case rel=>exact⟨j+1,by go_num,by rw[HPT.out],by omega,fun i y hi hi2=>by
    rcases Nat.lt_or_ge i j with hij|hij
    ·exact HA i y hi hij
    ·obtain rfl:i=j:=by omega
     have h9:=HX.out
     rw[hi] at h9;injection h9 with h9;omega⟩
   case measure=>simp[intOf];omega
  ·obtain rfl:j=n:=by omega
   have HE:=Hd (d5m (s:=s) (by have:=HSL.out;omega) (fun i x hi=>HA.out i x hi (by have:=HSL.out;have:=(lL hi);omega)));rw[List.take_of_length_le (by have:=HSL.out;omega)];obtain⟨P,hP⟩:∃ P,Sh.pr s=P:=⟨_,rfl⟩;rw[hP] at HE ⊢;clear hP;go_wp2;go_ret;exact⟨a0b (by rw[HE.out]),rfl⟩
theorem b6o {t:TypeId}{i:TypeInfo}{z:Value}(ht:prog.underlying t=some (.slice e))(hi:prog.info? e=some i)(hz:i.zero=some z)(hk:i.size=k)(hb:i.bytes≤200){l:Nat}(hlc:l≤c)(hc:c≤1000)(w:World):
  (Instr.makeSlice t (.int .i64 l) (.int .i64 c)).run prog w=.ok (.slice (some ⟨w.heap.size,0,none⟩) l c) (w.alloc (.cells (madeCells z.cells (c*k)) e)):=by
 have hbc:i.bytes*c≤200*1000:=Nat.mul_le_mul hb hc;have:=run_make (P:=prog) w t e i z ht hi hz .i64 .i64 l c (by omega) (by omega) (by omega) (by omega);rw[this,hk];simp only[Int.toNat_natCast]
theorem Sep.madeRow (h:Sep w0 w l)(e:TypeId)(k n c:Nat)(cs:Array Value)(hs:cs.size=c*k)(hnc:n≤c)(hc:c≤1000):
  Sep w0 (w.alloc (.cells cs e)) (.row e k (.slice (some ⟨w.heap.size,0,none⟩) n c) n (cs.toList.take (n*k))::l):=by
 have hnk:n*k≤c*k:=Nat.mul_le_mul_right k hnc
 refine h.pushNew (h.below ((Below.refl _ _).alloc (Nat.le_refl _) _)) ?_ fun k hk=>by
  have hk:some w.heap.size=some k:=hk;injection hk with hk;omega
 exact⟨by rw[List.length_take,Array.length_toList,hs];omega,.inr ⟨w.heap.size,c,cs,rfl,h.size,heap_alloc_new _ _,hnc,by unfold maxLen;omega,hs,rfl⟩⟩
def lRow (n:Nat):Array Value:=madeCells #[.slice none 0 0] n
theorem b0q (n:Nat):(lRow n).size=n:=size_madeCells _ _
theorem a8k {l:Nat}(hlc:l≤c)(hc:c≤1000)(w:World):
  (Instr.makeSlice 35 (.int .i64 l) (.int .i64 c)).run prog w=.ok (.slice (some ⟨w.heap.size,0,none⟩) l c) (w.alloc (.cells (lRow c) 22)):=by
 obtain⟨i,hi,hz,hs,hb⟩:=b4i;have:=b6o underlying35 hi hz hs (by omega) hlc hc w;rw[this,Nat.mul_one];rfl
theorem b7p (hc:c≤1000)(w:World):
  (Instr.makeSlice 35 (.int .i64 0) (.int .i64 c)).run prog w=.ok (.slice (some ⟨w.heap.size,0,none⟩) 0 c) (w.alloc (.cells (lRow c) 22)):=a8k (l:=0) (Nat.zero_le _) hc w
def LilK (w:World) (us:List Value) (L:List (List Int)):Prop:=L.length≤us.length∧∀(j:Nat) (s:List Int),L[j]?=some s→∃ B m c,us[j]?=some (.slice B m c)∧m≤c∧Ints w B m s
theorem c9l (w:World)(us:List Value):LilK w us []:=⟨Nat.zero_le _,fun j s h=>by simp at h⟩
theorem LilK.snoc {L:List (List Int)}(h:LilK w us L)(hI:Ints w B m s)(hm:m≤c)(hq:L.length=q)(hu:q<us.length):LilK w (us.set q (.slice B m c)) (L++[s]):=by
 refine⟨by rw[List.length_set,List.length_append,List.length_singleton];omega,fun j x hx=>?_⟩;rcases Nat.lt_or_ge j L.length with hj|hj
 ·rw[List.getElem?_append_left hj] at hx;rw[List.getElem?_set_ne (by omega)];exact h.2 j x hx
 ·rw[List.getElem?_append_right hj] at hx
  have hj' : j=q:=by
   rcases Nat.eq_or_lt_of_le hj with e|e
   ·omega
   ·rw[List.getElem?_eq_none (by simp;omega)] at hx;cases hx
  subst hj';rw[hq,Nat.sub_self] at hx;injection hx with hx;subst hx
  exact⟨B,m,c,by rw[List.getElem?_set_self hu],hm,hI⟩
theorem c9a {L:List (List Int)}(h:Sep w0 w l)(i:Nat)(hi:l[i]?=some (.row 22 1 (.slice (some ⟨g,0,none⟩) n c) n us))(hK:LilK w0 us L)(hn:L.length=n)(hn2:n≤900):Lils w (some ⟨g,0,none⟩) n L:=by
 have hr:w.ownsRow w0.heap.size 22 1 (.slice (some ⟨g,0,none⟩) n c) n us:=h.at_ i hi;refine⟨hn,hn2,fun j x hx=>?_⟩;obtain⟨B,m,cc,hu,hm,hI⟩:=hK.2 j x hx;have hj:j<L.length:=(lL hx);exact⟨⟨g,0,none⟩,B,m,cc,rfl,(World.ownsRow.lt hr g rfl).2,by rw[a3j,hr.cellAt j (by omega),hu],hm,h.oldI hI⟩
noncomputable def b4t (nm:List Int) (acc:List (List Int)) (nd:a0s):Int × List Int :=
 if b6r acc nd.ins=true then
  (if (a1j nd (a2w acc nd.ins)).1=0 then
   (if b5r nm nd (a1j nd (a2w acc nd.ins)).2.length=0 then(0,(a1j nd (a2w acc nd.ins)).2)
   else(b5r nm nd (a1j nd (a2w acc nd.ins)).2.length,[]))
  else((a1j nd (a2w acc nd.ins)).1,[]))
 else(23,[])
theorem c3n (nm:List Int)(acc:List (List Int))(nd:a0s)(l:List a0s):a0i nm acc (nd::l)=if (b4t nm acc nd).1=0 then a0i nm (acc++[(b4t nm acc nd).2]) l else((b4t nm acc nd).1,[]):=by
 rw[a0i,b4t]
 split
 ·split
  ·split
   ·rfl
   ·rfl
  ·rfl
 ·rfl
theorem d4g {nm:ByteArray}{Al:Option Addr}{nl cl:Nat}{acc:List (List Int)}(hnm:nm.size≤17592186044000)(h:a3k w v nd)(hLi:Lils w Al nl acc)(hq:nd.ins.length≤800):
  Calls prog 57 #[.string nm,v,.slice Al nl cl] w (a4j w (b4t (a0k nm) acc nd)):=by
 have HN:=h;obtain⟨S,ns,cs,D,nD,cD,E,ne,ce,rfl,hNL⟩:=h;replace HN:=Hd HN;have h1:=(Sep.nil w).allocBox w.heap.size 38 [.int .i64 nd.op,.slice S ns cs,.slice D nD cD,.slice E ne ce,.int .i64 nd.n,.int .i64 nd.how,.string nd.note] rfl;have HNL:=Hd hNL;have HSL:=Hd hNL.inA.len;have hns:ns≤800:=by have:=HSL.out;omega
 have hln:=hLi.2.1;have HLI:=Hd hLi;have HLL:=Hd hLi.1;obtain⟨nmr,hnmr⟩:∃ r,a0k nm=r:=⟨_,rfl⟩;have HNM:=Hd hnmr;have HNT:=Hd hNL.note;have HNZ:=Hd hnm;rw[hnmr];clear hNL hLi hq hnmr hnm
 go_enter func57,ntmps57
 go_upto_region 1 with fail
 generalize w.alloc (.cells #[.int .i64 nd.op,.slice S ns cs,.slice D nD cD,.slice E ne ce,.int .i64 nd.n,.int .i64 nd.how,.string nd.note] 38)=W at *;generalize hgn:w.heap.size=gn at *;have HGN:=Hd hgn;have H:=Hd h1;clear h1 hgn;obtain⟨n0,n1,n2,n3,n4,n5,n6⟩:=H.cells7 0 rfl;have hmk:=a8k (l:=ns) (c:=ns) (Nat.le_refl _) (by omega);have h2:=H.madeRow 22 1 ns ns (lRow ns) (by rw[b0q,Nat.mul_one]) (Nat.le_refl _) (by omega)
 go_upto_region 2 with fail
 generalize W.alloc (.cells (lRow ns) 22)=W2 at *;generalize hgr:W.heap.size=gr at *;have HGR:=Hd hgr;replace H:=Hd h2;clear h2 hmk hgr n0 n1 n2 n3 n4 n5 n6;obtain⟨u0,hu0⟩:∃ u,(lRow ns).toList.take (ns*1)=u:=⟨_,rfl⟩;have HU0:=Hd (show u0.length=ns by rw[←hu0,List.length_take,Array.length_toList,b0q];omega);rw[hu0] at H;clear hu0;have n1:=H.c 1 1
 go_wp2_with fail
 clear n1
 go_loopw [23] (fun iv wr=>∃(q:Nat) (us:List Value),iv=.int .i64 q∧q≤ns∧us.length=ns∧(∀(i:Nat) (x:Int),nd.ins[i]?=some x→i<q→0≤x∧x<acc.length)∧LilK w us (a2w acc (nd.ins.take q))∧Sep w wr [.row 22 1 (.slice (some ⟨gr,0,none⟩) ns ns) ns us,.box gn 38 [.int .i64 nd.op,.slice S ns cs,.slice D nD cD,.slice E ne ce,.int .i64 nd.n,.int .i64 nd.how,.string nd.note]]) (fun iv _=>ns-(intOf iv).toNat)
 case atStart=>exact⟨0,u0,rfl,by omega,HU0,by omega,c9l _ _,H⟩
 case round =>
  clear H;obtain⟨q,us,rfl,hq,hul,hAll,hK,hS⟩:=hrel;have H:=Hd hS;have HK:=Hd hK;have HA:=Hd hAll;have HUL:=Hd hul;clear hS hK hAll hul;by_cases hlq:q<ns
  ·obtain⟨sa,x,hsA,_,hx,hcx,_⟩:=(H.oldI HNL.inA).at_ (k:=q) hlq;subst hsA;have HX:=Hd hx;have HBAD:=Hd (show ¬(0≤x∧x<acc.length)→b4t nmr acc nd=(23,[]) from fun h=>by rw[b4t,iN];rw[b9v HX.out h];simp);clear hx;by_cases h1:x<0
   ·have d1:decide (x<0)=true:=by simpa using h1
    have HQ:=Hd (HBAD (by omega));clear HBAD;go_wp2;go_ret2;exact a0n HQ H.base
   have d1:decide (x<0)=false:=by simpa using h1
   obtain⟨xx,rfl⟩:=eZ (by omega:0≤x);by_cases h2:nl≤xx
   ·have d2:decide (nl≤xx)=true:=by simpa using h2
    have HQ:=Hd (HBAD (by have:=HLL.out;omega));clear HBAD;go_wp2;go_ret2;exact a0n HQ H.base
   have d2:decide (nl≤xx)=false:=by simpa using h2
   clear HBAD;obtain⟨s,hs⟩:∃ s,acc[xx]?=some s:=gE (by have:=HLL.out;omega);obtain⟨la,B5,m5,c5,hAl,hlb,hcl,hmc,hI5⟩:=HLI.out.2.2 xx s hs;subst hAl;have hcy:=H.oC hcl (a1i hlb);obtain⟨u9,hu9⟩:∃ u,us[q]?=some u:=gE (by have:=HUL.out;omega);have hcq:=H.cellRow 0 rfl hu9;have hfq:=H.frozenRow 0 rfl q;have HST:=Hd (H.setRow 0 rfl q (.slice B5 m5 c5))
   have HK2:=Hd (show LilK w (us.set q (.slice B5 m5 c5)) (a2w acc (nd.ins.take (q+1))) by
    have he:a2w acc (nd.ins.take (q+1))=a2w acc (nd.ins.take q)++[s]:=by
     rw[List.take_add_one,HX.out,a2w,a2w,List.map_append];simp[List.getD_eq_getElem?_getD,hs]
    rw[he]
    exact HK.snoc hI5 hmc (by rw[a2w,List.length_map,List.length_take];have:=HSL.out;omega) (by have:=HUL.out;omega))
   have hxn:xx<nl:=by omega
   clear hs hcl hI5 hu9;go_wp2;go_roundw
   case rel=>exact⟨q+1,_,by go_num,by omega,by rw[List.length_set];exact HUL,fun i y hi hi2=>by
    rcases Nat.lt_or_ge i q with hij|hij
    ·exact HA i y hi hij
    ·obtain rfl:i=q:=by omega
     have h9:=HX.out
     rw[hi] at h9;injection h9 with h9;have:=HLL.out;omega,HK2,HST⟩
   case measure=>simp[intOf];omega
  ·obtain rfl:q=ns:=by omega
   have HIN:=Hd (show b6r acc nd.ins=true from a8z fun i x hi=>HA.out i x hi (by have:=HSL.out;have:=(lL hi);omega));have hK9:=HK.out;rw[List.take_of_length_le (by have:=HSL.out;omega)] at hK9;have hLi:=c9a H 0 rfl hK9 (by rw[a2w,List.length_map];exact HSL) (by omega);have CS:=c1b (cl:=q) (a3k.wide (show a3k wr (.agg #[.int .i64 nd.op,.slice S q cs,.slice D nD cD,.slice E ne ce,.int .i64 nd.n,.int .i64 nd.how,.string nd.note]) nd from HN.below H.base)) hLi;obtain⟨⟨e5,s5⟩,hR⟩:∃ r,a1j nd (a2w acc nd.ins)=r:=⟨_,rfl⟩;rw[hR] at CS;have HR:=Hd hR;clear hLi hR hK9;obtain⟨n0,n1,n2,n3,n4,n5,n6⟩:=H.cells7 1 rfl
   go_wp2_with fail
   refine CS.mono ?_;rintro e4 w4 ⟨⟨v5,m5,rfl,hO⟩,hb4⟩;clear CS n0 n1 n2 n3 n4 n5 n6;replace hO:OwnS w4 _ 3 v5 m5 s5:=hO;obtain⟨A5,c5,rfl,hmc5,_,_⟩:=hO.form;have HML:=Hd hO.len;replace H:=Hd (H.addOwn hb4 hO);clear hO hb4;by_cases he:e5=0
   ·subst he;have n6:=H.c 2 6;have CN:=d3w (w:=w4) (m5:Int) HNZ HNT;rw[HNM.out] at CN;obtain⟨e6,hE⟩:∃ e6,b5r nmr nd m5=e6:=⟨_,rfl⟩;have HE6:=Hd hE;unfold b5r at hE;rw[hE] at CN;clear hE
    go_wp2_with fail
    refine CN.mono ?_;rintro e8 w8 ⟨⟨v8,m8,rfl,_⟩,hb8⟩;replace H:=Hd (H.below hb8);clear CN hb8 n6;by_cases he6:e6=0
    ·subst he6;have HQ:=Hd (show b4t nmr acc nd=(0,s5) by rw[b4t,iP HIN.out,HR.out,iP rfl,HML.out,HE6.out,iP rfl]);go_wp2;go_ret2;exact a3z HQ (H.ownS 0 rfl) H.base
    ·have dE:(e6 != 0)=true:=by simpa using he6
     have HQ:=Hd (show b4t nmr acc nd=(e6,[]) by rw[b4t,iP HIN.out,HR.out,iP rfl,HML.out,HE6.out,iN he6]);clear he6;go_wp2;go_ret2;exact a0n HQ H.base
   ·have dE:(e5 != 0)=true:=by simpa using he
    have HQ:=Hd (show b4t nmr acc nd=(e5,[]) by rw[b4t,iP HIN.out,HR.out,iN he]);clear he;go_wp2;go_ret2;exact a0n HQ H.base
end Go.Proofs.YtjblengklgkgfaaGreat
