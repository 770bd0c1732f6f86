import Derived.Test.YtdcmanhgekjhgaaDoorPah
set_option maxRecDepth 100000
set_option maxHeartbeats 12800000
namespace Go.Proofs.YtdcmanhgekjhgaaDoor
open Go.RowKit Go.Proofs.Tryd
variable {A B C S:Option Addr} {L:List (List Int)} {ca cb cc j n na nb nc sc sn:Nat} {l pool:List a0e} {s:List Int} {us:List Value} {v:Value} {w w' w0:World}
structure a0j where
 op:Int
 ins:List Int
 shape:List Int
 a:List Int
 n:Int
 how:Int
 note:ByteArray
structure a0w where
 sizes:List Int
 names:ByteArray
 nodes:List a0j
 outs:List Int
structure b5b (w:World) (nd:a0j) (A:Option Addr) (na ca:Nat) (B:Option Addr) (nb cb:Nat) (C:Option Addr) (nc cc:Nat):Prop where
 ia:na≤ca
 ib:nb≤cb
 ic:nc≤cc
 inA:Ints w A na nd.ins
 inB:Ints w B nb nd.shape
 inC:Ints w C nc nd.a
 op:Fits nd.op
 n:Fits nd.n
 how:Fits nd.how
 note:nd.note.size≤17592186044000
def c1n (nd:a0j) (A:Option Addr) (na ca:Nat) (B:Option Addr) (nb cb:Nat) (C:Option Addr) (nc cc:Nat):List Value :=
 [.int .i64 nd.op,.slice A na ca,.slice B nb cb,.slice C nc cc,.int .i64 nd.n,.int .i64 nd.how,.string nd.note]
def a4p (w:World) (v:Value) (nd:a0j):Prop :=
 ∃ A na ca B nb cb C nc cc,v=.agg #[.int .i64 nd.op,.slice A na ca,.slice B nb cb,.slice C nc cc,.int .i64 nd.n,.int .i64 nd.how,.string nd.note]∧b5b w nd A na ca B nb cb C nc cc
theorem b5b.below {nd:a0j}(h:b5b w nd A na ca B nb cb C nc cc)(hb:Below w.heap.size w w'):b5b w' nd A na ca B nb cb C nc cc :=
 ⟨h.ia,h.ib,h.ic,h.inA.below hb,h.inB.below hb,h.inC.below hb,h.op,h.n,h.how,h.note⟩
theorem a4p.below {nd:a0j}(h:a4p w v nd)(hb:Below w.heap.size w w'):a4p w' v nd:=by
 obtain⟨A,na,ca,B,nb,cb,C,nc,cc,e,hl⟩:=h;exact⟨A,na,ca,B,nb,cb,C,nc,cc,e,hl.below hb⟩
structure c8c (w:World) (nd:a0j) (A:Option Addr) (na ca:Nat) (B:Option Addr) (nb cb:Nat) (C:Option Addr) (nc cc:Nat):Prop where
 ia:na≤ca
 ib:nb≤cb
 ic:nc≤cc
 inA:Ints w A na nd.ins
 inB:Ints w B nb nd.shape
 inC:Ints w C nc nd.a
 op:Fits nd.op
 n:Fits nd.n
 how:Fits nd.how
 note:True
def a7a (w:World) (v:Value) (nd:a0j):Prop :=
 ∃ A na ca B nb cb C nc cc,v=.agg #[.int .i64 nd.op,.slice A na ca,.slice B nb cb,.slice C nc cc,.int .i64 nd.n,.int .i64 nd.how,.string nd.note]∧c8c w nd A na ca B nb cb C nc cc
theorem a4p.wide {nd:a0j}(h:a4p w v nd):a7a w v nd:=by
 obtain⟨A,na,ca,B,nb,cb,C,nc,cc,e,l⟩:=h;exact⟨A,na,ca,B,nb,cb,C,nc,cc,e,l.ia,l.ib,l.ic,l.inA,l.inB,l.inC,l.op,l.n,l.how,trivial⟩
theorem a7a.below {nd:a0j}(h:a7a w v nd)(hb:Below w.heap.size w w'):a7a w' v nd:=by
 obtain⟨A,na,ca,B,nb,cb,C,nc,cc,e,l⟩:=h;exact⟨A,na,ca,B,nb,cb,C,nc,cc,e,l.ia,l.ib,l.ic,l.inA.below hb,l.inB.below hb,l.inC.below hb,l.op,l.n,l.how,trivial⟩
def Lils (w:World) (A:Option Addr) (n:Nat) (L:List (List Int)):Prop :=
 L.length=n∧n≤90000∧∀ j x,L[j]?=some x→∃ a B m c,A=some a∧a.block<w.heap.size∧w.cell? (a.add j)=some (.slice B m c)∧m≤c∧Ints w B m x
theorem Lils.below (h:Lils w A n L)(hb:Below w.heap.size w w'):Lils w' A n L :=
 ⟨h.1,h.2.1,fun j x hx=>by
  obtain⟨a,B,m,c,e,hl,h0,hc,hI⟩:=h.2.2 j x hx
  exact⟨a,B,m,c,e,by have:=hb.size;omega,(hb.cell (by rw[a0l];exact hl)).trans h0,hc,hI.below hb⟩⟩
def Nods (w:World) (A:Option Addr) (n:Nat) (L:List a0j):Prop :=
 L.length=n∧n≤90000∧∀ j nd,L[j]?=some nd→∃ a S na ca B nb cb C nc cc,A=some a∧a.block<w.heap.size∧w.cell? (a.add (j*7))=some (.int .i64 nd.op) ∧
  w.cell? ⟨(a.add (j*7)).block,(a.add (j*7)).off+1,none⟩=some (.slice S na ca)∧w.cell? ⟨(a.add (j*7)).block,(a.add (j*7)).off+2,none⟩=some (.slice B nb cb)∧w.cell? ⟨(a.add (j*7)).block,(a.add (j*7)).off+3,none⟩=some (.slice C nc cc) ∧
  w.cell? ⟨(a.add (j*7)).block,(a.add (j*7)).off+4,none⟩=some (.int .i64 nd.n)∧w.cell? ⟨(a.add (j*7)).block,(a.add (j*7)).off+5,none⟩=some (.int .i64 nd.how)∧w.cell? ⟨(a.add (j*7)).block,(a.add (j*7)).off+6,none⟩=some (.string nd.note)∧b5b w nd S na ca B nb cb C nc cc
theorem Nods.below {L:List a0j}(h:Nods w A n L)(hb:Below w.heap.size w w'):Nods w' A n L :=
 ⟨h.1,h.2.1,fun j x hx=>by
  obtain⟨a,S,na,ca,B,nb,cb,C,nc,cc,e,hl,h0,h1,h2,h3,h4,h5,h6,hN⟩:=h.2.2 j x hx;have hl' : ∀ k:Nat,(⟨(a.add (j*7)).block,(a.add (j*7)).off+k,none⟩:Addr).block<w.heap.size:=fun k=>by simp only[a0l];exact hl
  exact⟨a,S,na,ca,B,nb,cb,C,nc,cc,e,by have:=hb.size;omega,(hb.cell (by rw[a0l];exact hl)).trans h0,(hb.cell (hl' 1)).trans h1,(hb.cell (hl' 2)).trans h2,(hb.cell (hl' 3)).trans h3,(hb.cell (hl' 4)).trans h4,(hb.cell (hl' 5)).trans h5,(hb.cell (hl' 6)).trans h6,hN.below hb⟩⟩
structure b6q (w:World) (G:a0w) (A:Option Addr) (na ca:Nat) (B:Option Addr) (nb cb:Nat) (C:Option Addr) (nc cc:Nat):Prop where
 ia:na≤ca
 ib:nb≤cb
 ic:nc≤cc
 inA:Ints w A na G.sizes
 inB:Nods w B nb G.nodes
 inC:Ints w C nc G.outs
 names:G.names.size≤17592186044000
def a2w (w:World) (v:Value) (G:a0w):Prop :=
 ∃ A na ca B nb cb C nc cc,v=.agg #[.slice A na ca,.string G.names,.slice B nb cb,.slice C nc cc]∧b6q w G A na ca B nb cb C nc cc
theorem b6q.below {G:a0w}(h:b6q w G A na ca B nb cb C nc cc)(hb:Below w.heap.size w w'):b6q w' G A na ca B nb cb C nc cc :=
 ⟨h.ia,h.ib,h.ic,h.inA.below hb,h.inB.below hb,h.inC.below hb,h.names⟩
theorem a2w.below {G:a0w}(h:a2w w v G)(hb:Below w.heap.size w w'):a2w w' v G:=by
 obtain⟨A,na,ca,B,nb,cb,C,nc,cc,e,hl⟩:=h;exact⟨A,na,ca,B,nb,cb,C,nc,cc,e,hl.below hb⟩
def a0f (op:Int):Int × Bool × Bool × Bool × Bool :=
 if op=1 then(0,true,false,false,false) else if op=2 then(0,true,false,true,false) else if op=3 then(0,true,true,false,false)
 else if op=4∨op=5 then(1,false,false,false,false) else if 6≤op∧op≤11 then(2,false,false,false,false) else if op=12 then(3,false,false,false,false)
 else if op=13∨op=15 then(1,false,true,false,false) else if op=14 then(1,true,true,false,false) else if op=16 then(1,false,true,true,false)
 else if op=17 then(-1,false,true,false,false) else if op=18∨op=20 then(1,false,true,false,true) else if op=19 then(2,false,true,false,false) else(-2,false,false,false,false)
def b2h (t:Int × Bool × Bool × Bool × Bool) (nd:a0j) (k:Int):Bool :=
 if t.1 = -2∨(0≤t.1∧k≠t.1)∨(t.1 = -1∧k<2) then false
 else(t.2.1||decide (nd.shape.length=0))&&(t.2.2.1||decide (nd.a.length=0))&&(t.2.2.2.1||decide (nd.n=0))&&(t.2.2.2.2||decide (nd.how=0))
def a3q (nd:a0j) (k:Int):Bool:=b2h (a0f nd.op) nd k
theorem triN (b:Bool)(n:Nat):b=true∨(b=false∧n=0∧((n:Int)==0)=true)∨(b=false∧¬ n=0∧((n:Int)==0)=false):=by
 cases b
 ·by_cases h:n=0
  ·exact .inr (.inl ⟨rfl,h,by simpa using h⟩)
  ·exact .inr (.inr ⟨rfl,h,by simpa using h⟩)
 ·exact .inl rfl
theorem triI (b:Bool)(n:Int):b=true∨(b=false∧n=0∧(n==0)=true)∨(b=false∧¬ n=0∧(n==0)=false):=by
 cases b
 ·by_cases h:n=0
  ·exact .inr (.inl ⟨rfl,h,by simpa using h⟩)
  ·exact .inr (.inr ⟨rfl,h,by simpa using h⟩)
 ·exact .inl rfl
theorem a2x {a:Addr}{k:Nat}(h:a.block<n):(a.add k).block<n:=by rw[a0l];exact h
theorem old7 (H:Sep w0 w l){la:Addr}{v0 v1 v2 v3 v4 v5 v6:Value}(hb:la.block<w0.heap.size)(k0:w0.cell? (la.add (j*7))=some v0)(k1:w0.cell? ⟨(la.add (j*7)).block,(la.add (j*7)).off+1,none⟩=some v1)(k2:w0.cell? ⟨(la.add (j*7)).block,(la.add (j*7)).off+2,none⟩=some v2)(k3:w0.cell? ⟨(la.add (j*7)).block,(la.add (j*7)).off+3,none⟩=some v3)(k4:w0.cell? ⟨(la.add (j*7)).block,(la.add (j*7)).off+4,none⟩=some v4)(k5:w0.cell? ⟨(la.add (j*7)).block,(la.add (j*7)).off+5,none⟩=some v5)(k6:w0.cell? ⟨(la.add (j*7)).block,(la.add (j*7)).off+6,none⟩=some v6):
  w.cell? (la.add (j*7))=some v0∧w.cell? ⟨(la.add (j*7)).block,(la.add (j*7)).off+1,none⟩=some v1∧w.cell? ⟨(la.add (j*7)).block,(la.add (j*7)).off+2,none⟩=some v2∧w.cell? ⟨(la.add (j*7)).block,(la.add (j*7)).off+3,none⟩=some v3∧w.cell? ⟨(la.add (j*7)).block,(la.add (j*7)).off+4,none⟩=some v4∧w.cell? ⟨(la.add (j*7)).block,(la.add (j*7)).off+5,none⟩=some v5∧w.cell? ⟨(la.add (j*7)).block,(la.add (j*7)).off+6,none⟩=some v6 :=
 ⟨H.oldCell (a2x hb) k0,H.oldCell (a2x hb) k1,H.oldCell (a2x hb) k2,H.oldCell (a2x hb) k3,H.oldCell (a2x hb) k4,H.oldCell (a2x hb) k5,H.oldCell (a2x hb) k6⟩
theorem c6z:(prog.info? 31).map (fun i=>(i.zero,i.size,i.bytes))=some (some (.slice none 0 0),1,24):=by kernel_rfl
theorem a6i:∃ i,prog.info? 31=some i∧i.zero=some (.slice none 0 0)∧i.size=1∧i.bytes=24:=by
 have h:=c6z
 cases e:prog.info? 31 with
 | none=>rw[e] at h;cases h
 | some i =>
  rw[e] at h;simp only[Option.map_some,Option.some.injEq,Prod.mk.injEq] at h;exact⟨i,rfl,h.1,h.2.1,h.2.2⟩
theorem a7u {ops:Array Oper}{rest:List Oper}{o:Oper}{a:Act}{Q:Exit→Act→World→Prop}(hgd:o.guard=none)(s y:Operand)(t:TypeId)
  (ho:o.op=.call { callee:=.builtin .append,args:=#[s,y],argTypes:=#[t,t] })(ht:prog.underlying t=some (.slice 31))
  (H:Sep w0 w l)(i:Nat)(hi:l[i]?=some (.row 31 1 v n us))(hs:a.eval s=v)(c:Nat)(hy:a.eval y=.slice (some ⟨w.heap.size,0,none⟩) 1 c)
  (hn:n≤100000)
  (h:∀ v' w', Sep w0 w' (l.set i (.row 31 1 v' (n+1) (us++[.slice S sn sc])))→wpList prog ops Q rest (a.put o.dst v') w'):
  wpList prog ops Q (o::rest) a (w.alloc (.cells #[.slice S sn sc] 31)):=by
 obtain⟨ti,h1,h2,h3,h4⟩:=a6i;have H':=H.below ((Below.refl w.heap.size w).alloc (Nat.le_refl _) (.cells #[.slice S sn sc] 31));have hsz:=H'.size;refine wpList_append_own_at _ hgd s y t ho w0.heap.size 31 ti _ 1 24 ht h1 h2 h3 h4 (by rfl) (by omega) v n us hs (H'.at_ i hi) ⟨w.heap.size,0,none⟩ 1 c [.slice S sn sc] hy rfl ?_ (by simp[Value.oneCell']) (by unfold maxLen;omega) (by omega) hsz ?_
 ·intro j u hj;have hb:=heap_alloc_new w (.cells #[.slice S sn sc] 31)
  match j,hj with
  | 0,hj=>simp at hj;subst hj;exact cell_of_row _ _ 0 _ _ _ hb
  | j+1,hj=>simp at hj
 ·intro v' w' h5 h6 _ h8
  exact h v' w' (H'.change i hi h6 h5 fun b hb=>by
   have hb:v'.ownBlock=some b:=hb;rcases h8 with e|e
   ·exact .inl (e.symm.trans hb)
   ·rw[e] at hb;injection hb with hb;subst hb;exact .inr (Nat.le_refl _))
def a8k (us:List Value) (L:List (List Int)) (pool:List a0e):Prop:=us.length=L.length∧∀(j:Nat) (s:List Int),L[j]?=some s→∃(S:Option Addr) (sn sc p:Nat),us[j]?=some (.slice S sn sc)∧pool[p]?=some (a0e.own 3 (.slice S sn sc) sn s)
theorem c2c:a8k [] [] pool:=⟨rfl,fun j t h=>by simp at h⟩
theorem a8k.shift {c:a0e}(h:a8k us L pool):a8k us L (c::pool) :=
 ⟨h.1,fun j s hs=>by
  obtain⟨S,sn,sc,p,h1,h2⟩:=h.2 j s hs
  exact⟨S,sn,sc,p+1,h1,h2⟩⟩
theorem a8k.snoc {p:Nat}(h:a8k us L pool)(hp:pool[p]?=some (a0e.own 3 (.slice S sn sc) sn s)):a8k (us++[.slice S sn sc]) (L++[s]) pool:=by
 obtain⟨hl,h⟩:=h;refine⟨by simp[hl],fun j u hu=>?_⟩;rcases Nat.lt_or_ge j L.length with hj|hj
 ·rw[List.getElem?_append_left hj] at hu;obtain⟨S', sn', sc', p', h1,h2⟩:=h j u hu;exact⟨S', sn', sc', p', by rw[List.getElem?_append_left (by omega)];exact h1,h2⟩
 ·rw[List.getElem?_append_right hj] at hu
  have hj' : j=L.length:=by
   rcases Nat.eq_or_lt_of_le hj with e|e
   ·exact e.symm
   ·obtain⟨m,hm⟩:∃ m,j-L.length=m+1:=⟨j-L.length-1,by omega⟩;rw[hm] at hu;simp at hu
  subst hj';simp at hu;subst hu;exact⟨S,sn,sc,p,by rw[List.getElem?_append_right (by omega),hl];simp,hp⟩
theorem a8k.more (h:a8k us L pool):a8k (us++[.slice S sn sc]) (L++[s]) (a0e.own 3 (.slice S sn sc) sn s::pool) :=
 h.shift.snoc (p:=0) rfl
theorem a6a (g j:Nat):(⟨g,0,none⟩:Addr).add j=⟨g,j,none⟩:=by
 by_cases h:j=0
 ·subst h;rfl
 ·simp[Addr.add,h]
theorem b4d (i:Nat)(h:Sep w0 w l)(hi:l[i]?=some (.row 31 1 v n us))(hP:a8k us L pool)(hn:L.length=n)(hn2:n≤90000)(f:Nat)(hf:∀ i,l[i+f]?=pool[i]?):
  ∃ A c,v=.slice A n c∧n≤c∧Lils w A n L:=by
 have hr:w.ownsRow w0.heap.size 31 1 v n us:=h.at_ i hi;rcases Nat.eq_zero_or_pos n with e|e
 ·subst e;have hT:∀ A,Lils w A 0 L:=fun A=>⟨hn,by omega,fun j t ht=>by rw[List.eq_nil_of_length_eq_zero hn] at ht;simp at ht⟩
  rcases hr.2 with ⟨hv,_⟩|⟨g,cap,cur,hv,_⟩
  ·exact⟨none,0,hv,Nat.le_refl _,hT _⟩
  ·exact⟨_,cap,hv,Nat.zero_le _,hT _⟩
 ·obtain⟨g,c,rfl,hc⟩:=h.rowForm i hi e;refine⟨_,c,rfl,hc,hn,hn2,fun j s hs=>?_⟩;have hj:j<L.length:=(lL hs);obtain⟨S,sn,sc,p,h1,h2⟩:=hP.2 j s hs;have hlt:=(World.ownsRow.lt hr g rfl).2;have hp:=h.ownInts (p+f) ((hf p).trans h2);refine⟨⟨g,0,none⟩,S,sn,sc,rfl,hlt,?_,hp.2.1,hp.2.2⟩;rw[a6a,hr.cellAt j (by omega),h1]
def b0t (x:Int):Bool:=decide (1≤x)&&decide (x≤8)
noncomputable def a6j (G:a0w):Bool:=decide (G.sizes.length≤3)&&G.sizes.all b0t&&decide (Sh.pr G.sizes≤8)&&a4v (a0a G.names) G.sizes.length
theorem c4m {G:a0w}(hl:G.sizes.length≤3)(h:∀(i:Nat) (x:Int),G.sizes[i]?=some x→1≤x∧x≤8):a6j G=(decide (Sh.pr G.sizes≤8)&&a4v (a0a G.names) G.sizes.length):=by
 have:G.sizes.all b0t=true:=by
  rw[List.all_eq_true];intro x hx;obtain⟨i,hi,e⟩:=List.getElem_of_mem hx;have:=h i x (by rw[List.getElem?_eq_getElem hi,e]);simp[b0t,this]
 simp only[a6j,this,decide_eq_true hl,Bool.true_and]
theorem c6t {L:List a0j}{y:a0j}(h:L[j]?=some y):L.drop j=y::L.drop (j+1):=by
 obtain⟨hj,rfl⟩:=List.getElem?_eq_some_iff.1 h;exact List.drop_eq_getElem_cons hj
def b6r (w:World) (t:TypeId) (xs:List Int) (e:Ending) (w' : World):Prop:=(∃ v n,e=.returned v∧OwnS w' w.heap.size t v n xs)∧Below w.heap.size w w'
theorem b6r.none_ (w:World)(t:TypeId):b6r w t [] (.returned (.slice none 0 0)) w:=⟨⟨_,_,rfl,OwnS.nil_ _ _ _⟩,Below.refl _ _⟩
theorem b6r.own {g c:Nat}{t:TypeId}{xs:List Int}(h:Own w' w.heap.size t g n c xs)(hb:Below w.heap.size w w'):b6r w t xs (.returned (.slice (some ⟨g,0,none⟩) n c)) w':=⟨⟨_,_,rfl,h⟩,hb⟩
end Go.Proofs.YtdcmanhgekjhgaaDoor
