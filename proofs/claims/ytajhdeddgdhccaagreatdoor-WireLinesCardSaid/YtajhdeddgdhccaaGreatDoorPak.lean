import Derived.Test.YtajhdeddgdhccaaGreatDoorPaj
set_option maxRecDepth 100000
set_option maxHeartbeats 12800000
namespace Go.Proofs.YtajhdeddgdhccaaGreatDoor
open Go.RowKit Go.Proofs.Tryz
variable {A B C S:Option Addr} {L:List (List Int)} {ca cb cc j n na nb nc sc sn:Nat} {l pool:List a0i} {s:List Int} {us:List Value} {v:Value} {w w' w0:World}
structure a0p where
 op:Int
 ins:List Int
 shape:List Int
 a:List Int
 n:Int
 how:Int
 note:ByteArray
structure a2g where
 sizes:List Int
 names:ByteArray
 nodes:List a0p
 outs:List Int
structure b8m (w:World) (nd:a0p) (A:Option Addr) (na ca:Nat) (B:Option Addr) (nb cb:Nat) (C:Option Addr) (nc cc:Nat):Prop where
 ia:na≤ca
 ib:nb≤cb
 ic:nc≤cc
 inA:Ints w A na nd.ins
 inB:Ints w B nb nd.shape
 inC:Ints w C nc nd.a
 op:Fits nd.op
 n:Fits nd.n
 how:Fits nd.how
 note:nd.note.size≤17592186044000
def a5r (nd:a0p) (A:Option Addr) (na ca:Nat) (B:Option Addr) (nb cb:Nat) (C:Option Addr) (nc cc:Nat):List Value :=
 [.int .i64 nd.op,.slice A na ca,.slice B nb cb,.slice C nc cc,.int .i64 nd.n,.int .i64 nd.how,.string nd.note]
def a4x (w:World) (v:Value) (nd:a0p):Prop :=
 ∃ A na ca B nb cb C nc cc,v=.agg #[.int .i64 nd.op,.slice A na ca,.slice B nb cb,.slice C nc cc,.int .i64 nd.n,.int .i64 nd.how,.string nd.note]∧b8m w nd A na ca B nb cb C nc cc
theorem b8m.below {nd:a0p}(h:b8m w nd A na ca B nb cb C nc cc)(hb:Below w.heap.size w w'):b8m w' nd A na ca B nb cb C nc cc :=
 ⟨h.ia,h.ib,h.ic,h.inA.below hb,h.inB.below hb,h.inC.below hb,h.op,h.n,h.how,h.note⟩
theorem a4x.below {nd:a0p}(h:a4x w v nd)(hb:Below w.heap.size w w'):a4x w' v nd:=by
 obtain⟨A,na,ca,B,nb,cb,C,nc,cc,e,hl⟩:=h;exact⟨A,na,ca,B,nb,cb,C,nc,cc,e,hl.below hb⟩
structure d5g (w:World) (nd:a0p) (A:Option Addr) (na ca:Nat) (B:Option Addr) (nb cb:Nat) (C:Option Addr) (nc cc:Nat):Prop where
 ia:na≤ca
 ib:nb≤cb
 ic:nc≤cc
 inA:Ints w A na nd.ins
 inB:Ints w B nb nd.shape
 inC:Ints w C nc nd.a
 op:Fits nd.op
 n:Fits nd.n
 how:Fits nd.how
 note:True
def a5b (w:World) (v:Value) (nd:a0p):Prop :=
 ∃ A na ca B nb cb C nc cc,v=.agg #[.int .i64 nd.op,.slice A na ca,.slice B nb cb,.slice C nc cc,.int .i64 nd.n,.int .i64 nd.how,.string nd.note]∧d5g w nd A na ca B nb cb C nc cc
theorem a4x.wide {nd:a0p}(h:a4x w v nd):a5b w v nd:=by
 obtain⟨A,na,ca,B,nb,cb,C,nc,cc,e,l⟩:=h;exact⟨A,na,ca,B,nb,cb,C,nc,cc,e,l.ia,l.ib,l.ic,l.inA,l.inB,l.inC,l.op,l.n,l.how,trivial⟩
theorem a5b.below {nd:a0p}(h:a5b w v nd)(hb:Below w.heap.size w w'):a5b w' v nd:=by
 obtain⟨A,na,ca,B,nb,cb,C,nc,cc,e,l⟩:=h;exact⟨A,na,ca,B,nb,cb,C,nc,cc,e,l.ia,l.ib,l.ic,l.inA.below hb,l.inB.below hb,l.inC.below hb,l.op,l.n,l.how,trivial⟩
def Lils (w:World) (A:Option Addr) (n:Nat) (L:List (List Int)):Prop :=
 L.length=n∧n≤900∧∀ j x,L[j]?=some x→∃ a B m c,A=some a∧a.block<w.heap.size∧w.cell? (a.add j)=some (.slice B m c)∧m≤c∧Ints w B m x
theorem Lils.below (h:Lils w A n L)(hb:Below w.heap.size w w'):Lils w' A n L :=
 ⟨h.1,h.2.1,fun j x hx=>by
  obtain⟨a,B,m,c,e,hl,h0,hc,hI⟩:=h.2.2 j x hx
  exact⟨a,B,m,c,e,by have:=hb.size;omega,(hb.cell (by rw[a0d];exact hl)).trans h0,hc,hI.below hb⟩⟩
def Nods (w:World) (A:Option Addr) (n:Nat) (L:List a0p):Prop :=
 L.length=n∧n≤900∧∀ j nd,L[j]?=some nd→∃ a S na ca B nb cb C nc cc,A=some a∧a.block<w.heap.size∧w.cell? (a.add (j*7))=some (.int .i64 nd.op) ∧
  w.cell? ⟨(a.add (j*7)).block,(a.add (j*7)).off+1,none⟩=some (.slice S na ca)∧w.cell? ⟨(a.add (j*7)).block,(a.add (j*7)).off+2,none⟩=some (.slice B nb cb)∧w.cell? ⟨(a.add (j*7)).block,(a.add (j*7)).off+3,none⟩=some (.slice C nc cc) ∧
  w.cell? ⟨(a.add (j*7)).block,(a.add (j*7)).off+4,none⟩=some (.int .i64 nd.n)∧w.cell? ⟨(a.add (j*7)).block,(a.add (j*7)).off+5,none⟩=some (.int .i64 nd.how)∧w.cell? ⟨(a.add (j*7)).block,(a.add (j*7)).off+6,none⟩=some (.string nd.note)∧b8m w nd S na ca B nb cb C nc cc
theorem Nods.below {L:List a0p}(h:Nods w A n L)(hb:Below w.heap.size w w'):Nods w' A n L :=
 ⟨h.1,h.2.1,fun j x hx=>by
  obtain⟨a,S,na,ca,B,nb,cb,C,nc,cc,e,hl,h0,h1,h2,h3,h4,h5,h6,hN⟩:=h.2.2 j x hx;have hl' : ∀ k:Nat,(⟨(a.add (j*7)).block,(a.add (j*7)).off+k,none⟩:Addr).block<w.heap.size:=fun k=>by simp only[a0d];exact hl
  exact⟨a,S,na,ca,B,nb,cb,C,nc,cc,e,by have:=hb.size;omega,(hb.cell (by rw[a0d];exact hl)).trans h0,(hb.cell (hl' 1)).trans h1,(hb.cell (hl' 2)).trans h2,(hb.cell (hl' 3)).trans h3,(hb.cell (hl' 4)).trans h4,(hb.cell (hl' 5)).trans h5,(hb.cell (hl' 6)).trans h6,hN.below hb⟩⟩
structure c2n (w:World) (G:a2g) (A:Option Addr) (na ca:Nat) (B:Option Addr) (nb cb:Nat) (C:Option Addr) (nc cc:Nat):Prop where
 ia:na≤ca
 ib:nb≤cb
 ic:nc≤cc
 inA:Ints w A na G.sizes
 inB:Nods w B nb G.nodes
 inC:Ints w C nc G.outs
 names:G.names.size≤17592186044000
def a3r (w:World) (v:Value) (G:a2g):Prop :=
 ∃ A na ca B nb cb C nc cc,v=.agg #[.slice A na ca,.string G.names,.slice B nb cb,.slice C nc cc]∧c2n w G A na ca B nb cb C nc cc
theorem c2n.below {G:a2g}(h:c2n w G A na ca B nb cb C nc cc)(hb:Below w.heap.size w w'):c2n w' G A na ca B nb cb C nc cc :=
 ⟨h.ia,h.ib,h.ic,h.inA.below hb,h.inB.below hb,h.inC.below hb,h.names⟩
theorem a3r.below {G:a2g}(h:a3r w v G)(hb:Below w.heap.size w w'):a3r w' v G:=by
 obtain⟨A,na,ca,B,nb,cb,C,nc,cc,e,hl⟩:=h;exact⟨A,na,ca,B,nb,cb,C,nc,cc,e,hl.below hb⟩
theorem a0o {fn:Func}{t u v x y:Tmp}(h:fn.results=#[.tmp t,.tmp u,.tmp v,.tmp x,.tmp y])(tmps:Array Value)(P:Program)(w:World):
  (results fn tmps).run P w=.ok (.tuple #[tmps.getD t undef,tmps.getD u undef,tmps.getD v undef,tmps.getD x undef,tmps.getD y undef]) w:=by
 simp[results,h]
def a0h (op:Int):Int × Bool × Bool × Bool × Bool :=
 if op=1 then(0,true,false,false,false) else if op=2 then(0,true,false,true,false) else if op=3 then(0,true,true,false,false)
 else if op=4∨op=5 then(1,false,false,false,false) else if 6≤op∧op≤11 then(2,false,false,false,false) else if op=12 then(3,false,false,false,false)
 else if op=13∨op=15 then(1,false,true,false,false) else if op=14 then(1,true,true,false,false) else if op=16 then(1,false,true,true,false)
 else if op=17 then(-1,false,true,false,false) else if op=18∨op=20 then(1,false,true,false,true) else if op=19 then(2,false,true,false,false) else(-2,false,false,false,false)
def a9w (t:Int × Bool × Bool × Bool × Bool) (nd:a0p) (k:Int):Bool :=
 if t.1 = -2∨(0≤t.1∧k≠t.1)∨(t.1 = -1∧k<2) then false
 else(t.2.1||decide (nd.shape.length=0))&&(t.2.2.1||decide (nd.a.length=0))&&(t.2.2.2.1||decide (nd.n=0))&&(t.2.2.2.2||decide (nd.how=0))
def a4n (nd:a0p) (k:Int):Bool:=a9w (a0h nd.op) nd k
theorem triN (b:Bool)(n:Nat):b=true∨(b=false∧n=0∧((n:Int)==0)=true)∨(b=false∧¬ n=0∧((n:Int)==0)=false):=by
 cases b
 ·by_cases h:n=0
  ·exact .inr (.inl ⟨rfl,h,by simpa using h⟩)
  ·exact .inr (.inr ⟨rfl,h,by simpa using h⟩)
 ·exact .inl rfl
theorem triI (b:Bool)(n:Int):b=true∨(b=false∧n=0∧(n==0)=true)∨(b=false∧¬ n=0∧(n==0)=false):=by
 cases b
 ·by_cases h:n=0
  ·exact .inr (.inl ⟨rfl,h,by simpa using h⟩)
  ·exact .inr (.inr ⟨rfl,h,by simpa using h⟩)
 ·exact .inl rfl
theorem a4q {a:Addr}{k:Nat}(h:a.block<n):(a.add k).block<n:=by rw[a0d];exact h
theorem old7 (H:Sep w0 w l){la:Addr}{v0 v1 v2 v3 v4 v5 v6:Value}(hb:la.block<w0.heap.size)(k0:w0.cell? (la.add (j*7))=some v0)(k1:w0.cell? ⟨(la.add (j*7)).block,(la.add (j*7)).off+1,none⟩=some v1)(k2:w0.cell? ⟨(la.add (j*7)).block,(la.add (j*7)).off+2,none⟩=some v2)(k3:w0.cell? ⟨(la.add (j*7)).block,(la.add (j*7)).off+3,none⟩=some v3)(k4:w0.cell? ⟨(la.add (j*7)).block,(la.add (j*7)).off+4,none⟩=some v4)(k5:w0.cell? ⟨(la.add (j*7)).block,(la.add (j*7)).off+5,none⟩=some v5)(k6:w0.cell? ⟨(la.add (j*7)).block,(la.add (j*7)).off+6,none⟩=some v6):
  w.cell? (la.add (j*7))=some v0∧w.cell? ⟨(la.add (j*7)).block,(la.add (j*7)).off+1,none⟩=some v1∧w.cell? ⟨(la.add (j*7)).block,(la.add (j*7)).off+2,none⟩=some v2∧w.cell? ⟨(la.add (j*7)).block,(la.add (j*7)).off+3,none⟩=some v3∧w.cell? ⟨(la.add (j*7)).block,(la.add (j*7)).off+4,none⟩=some v4∧w.cell? ⟨(la.add (j*7)).block,(la.add (j*7)).off+5,none⟩=some v5∧w.cell? ⟨(la.add (j*7)).block,(la.add (j*7)).off+6,none⟩=some v6 :=
 ⟨H.oldCell (a4q hb) k0,H.oldCell (a4q hb) k1,H.oldCell (a4q hb) k2,H.oldCell (a4q hb) k3,H.oldCell (a4q hb) k4,H.oldCell (a4q hb) k5,H.oldCell (a4q hb) k6⟩
theorem d4f:(prog.info? 23).map (fun i=>(i.zero,i.size,i.bytes))=some (some (.slice none 0 0),1,24):=by kernel_rfl
theorem b0a:∃ i,prog.info? 23=some i∧i.zero=some (.slice none 0 0)∧i.size=1∧i.bytes=24:=by
 have h:=d4f
 cases e:prog.info? 23 with
 | none=>rw[e] at h;cases h
 | some i =>
  rw[e] at h;simp only[Option.map_some,Option.some.injEq,Prod.mk.injEq] at h;exact⟨i,rfl,h.1,h.2.1,h.2.2⟩
theorem a1y {ops:Array Oper}{rest:List Oper}{o:Oper}{a:Act}{Q:Exit→Act→World→Prop}(hgd:o.guard=none)(s y:Operand)(t:TypeId)
  (ho:o.op=.call { callee:=.builtin .append,args:=#[s,y],argTypes:=#[t,t] })(ht:prog.underlying t=some (.slice 23))
  (H:Sep w0 w l)(i:Nat)(hi:l[i]?=some (.row 23 1 v n us))(hs:a.eval s=v)(c:Nat)(hy:a.eval y=.slice (some ⟨w.heap.size,0,none⟩) 1 c)
  (hn:n≤1000)
  (h:∀ v' w', Sep w0 w' (l.set i (.row 23 1 v' (n+1) (us++[.slice S sn sc])))→wpList prog ops Q rest (a.put o.dst v') w'):
  wpList prog ops Q (o::rest) a (w.alloc (.cells #[.slice S sn sc] 23)):=by
 obtain⟨ti,h1,h2,h3,h4⟩:=b0a;have H':=H.below ((Below.refl w.heap.size w).alloc (Nat.le_refl _) (.cells #[.slice S sn sc] 23));have hsz:=H'.size;refine wpList_append_own_at _ hgd s y t ho w0.heap.size 23 ti _ 1 24 ht h1 h2 h3 h4 (by rfl) (by omega) v n us hs (H'.at_ i hi) ⟨w.heap.size,0,none⟩ 1 c [.slice S sn sc] hy rfl ?_ (by simp[Value.oneCell']) (by unfold maxLen;omega) (by omega) hsz ?_
 ·intro j u hj;have hb:=heap_alloc_new w (.cells #[.slice S sn sc] 23)
  match j,hj with
  | 0,hj=>simp at hj;subst hj;exact cell_of_row _ _ 0 _ _ _ hb
  | j+1,hj=>simp at hj
 ·intro v' w' h5 h6 _ h8
  exact h v' w' (H'.change i hi h6 h5 fun b hb=>by
   have hb:v'.ownBlock=some b:=hb;rcases h8 with e|e
   ·exact .inl (e.symm.trans hb)
   ·rw[e] at hb;injection hb with hb;subst hb;exact .inr (Nat.le_refl _))
def a6w (us:List Value) (L:List (List Int)) (pool:List a0i):Prop:=us.length=L.length∧∀(j:Nat) (s:List Int),L[j]?=some s→∃(S:Option Addr) (sn sc p:Nat),us[j]?=some (.slice S sn sc)∧pool[p]?=some (a0i.own 3 (.slice S sn sc) sn s)
theorem a8a:a6w [] [] pool:=⟨rfl,fun j t h=>by simp at h⟩
theorem a6w.shift {c:a0i}(h:a6w us L pool):a6w us L (c::pool) :=
 ⟨h.1,fun j s hs=>by
  obtain⟨S,sn,sc,p,h1,h2⟩:=h.2 j s hs
  exact⟨S,sn,sc,p+1,h1,h2⟩⟩
theorem a6w.snoc {p:Nat}(h:a6w us L pool)(hp:pool[p]?=some (a0i.own 3 (.slice S sn sc) sn s)):a6w (us++[.slice S sn sc]) (L++[s]) pool:=by
 obtain⟨hl,h⟩:=h;refine⟨by simp[hl],fun j u hu=>?_⟩;rcases Nat.lt_or_ge j L.length with hj|hj
 ·rw[List.getElem?_append_left hj] at hu;obtain⟨S', sn', sc', p', h1,h2⟩:=h j u hu;exact⟨S', sn', sc', p', by rw[List.getElem?_append_left (by omega)];exact h1,h2⟩
 ·rw[List.getElem?_append_right hj] at hu
  have hj' : j=L.length:=by
   rcases Nat.eq_or_lt_of_le hj with e|e
   ·exact e.symm
   ·obtain⟨m,hm⟩:∃ m,j-L.length=m+1:=⟨j-L.length-1,by omega⟩;rw[hm] at hu;simp at hu
  subst hj';simp at hu;subst hu;exact⟨S,sn,sc,p,by rw[List.getElem?_append_right (by omega),hl];simp,hp⟩
theorem a6w.more (h:a6w us L pool):a6w (us++[.slice S sn sc]) (L++[s]) (a0i.own 3 (.slice S sn sc) sn s::pool) :=
 h.shift.snoc (p:=0) rfl
theorem a2h (g j:Nat):(⟨g,0,none⟩:Addr).add j=⟨g,j,none⟩:=by
 by_cases h:j=0
 ·subst h;rfl
 ·simp[Addr.add,h]
theorem a6q (i:Nat)(h:Sep w0 w l)(hi:l[i]?=some (.row 23 1 v n us))(hP:a6w us L pool)(hn:L.length=n)(hn2:n≤900)(f:Nat)(hf:∀ i,l[i+f]?=pool[i]?):
  ∃ A c,v=.slice A n c∧n≤c∧Lils w A n L:=by
 have hr:w.ownsRow w0.heap.size 23 1 v n us:=h.at_ i hi;rcases Nat.eq_zero_or_pos n with e|e
 ·subst e;have hT:∀ A,Lils w A 0 L:=fun A=>⟨hn,by omega,fun j t ht=>by rw[List.eq_nil_of_length_eq_zero hn] at ht;simp at ht⟩
  rcases hr.2 with ⟨hv,_⟩|⟨g,cap,cur,hv,_⟩
  ·exact⟨none,0,hv,Nat.le_refl _,hT _⟩
  ·exact⟨_,cap,hv,Nat.zero_le _,hT _⟩
 ·obtain⟨g,c,rfl,hc⟩:=h.rowForm i hi e;refine⟨_,c,rfl,hc,hn,hn2,fun j s hs=>?_⟩;have hj:j<L.length:=(lL hs);obtain⟨S,sn,sc,p,h1,h2⟩:=hP.2 j s hs;have hlt:=(World.ownsRow.lt hr g rfl).2;have hp:=h.ownInts (p+f) ((hf p).trans h2);refine⟨⟨g,0,none⟩,S,sn,sc,rfl,hlt,?_,hp.2.1,hp.2.2⟩;rw[a2h,hr.cellAt j (by omega),h1]
theorem b9v {g c:Nat}(h:Sep w0 w l)(i:Nat)(hi:l[i]?=some (.row 23 1 (.slice (some ⟨g,0,none⟩) n c) n us)){u:Value}(hu:us[j]?=some u)(hj:j<n):w.cell? ((⟨g,0,none⟩:Addr).add j)=some u:=by
 have hr:w.ownsRow w0.heap.size 23 1 (.slice (some ⟨g,0,none⟩) n c) n us:=h.at_ i hi;rw[a2h,hr.cellAt j (by omega),hu]
def a9c (x:Int):Bool:=decide (1≤x)&&decide (x≤8)
noncomputable def a5q (G:a2g):Bool:=decide (G.sizes.length≤3)&&G.sizes.all a9c&&decide (Sh.pr G.sizes≤8)&&a6e (a0b G.names) G.sizes.length
theorem b7o {G:a2g}{x:Int}(h:G.sizes[j]?=some x)(hx:x<1∨8<x∨3≤j):a5q G=false:=by
 obtain⟨hj,rfl⟩:=List.getElem?_eq_some_iff.1 h
 cases e:a5q G with
 | false=>rfl
 | true =>
  simp only[a5q,Bool.and_eq_true,decide_eq_true_eq,List.all_eq_true,a9c] at e;obtain⟨⟨⟨h1,h2⟩,_⟩,_⟩:=e;have:=h2 _ (List.getElem_mem hj);omega
theorem b2p {G:a2g}(hl:G.sizes.length≤3)(h:∀(i:Nat) (x:Int),G.sizes[i]?=some x→1≤x∧x≤8):a5q G=(decide (Sh.pr G.sizes≤8)&&a6e (a0b G.names) G.sizes.length):=by
 have:G.sizes.all a9c=true:=by
  rw[List.all_eq_true];intro x hx;obtain⟨i,hi,e⟩:=List.getElem_of_mem hx;have:=h i x (by rw[List.getElem?_eq_getElem hi,e]);simp[a9c,this]
 simp only[a5q,this,decide_eq_true hl,Bool.true_and]
theorem b7u {G:a2g}(h:a3r w v G):
  Calls prog 56 #[v] w fun e w'=>e=.returned (.bool (a5q G))∧Below w.heap.size w w':=by
 have HG:=h;obtain⟨A,na,ca,B,nb,cb,C,nc,cc,rfl,hL⟩:=h;replace HG:=Hd HG;obtain⟨hia,hib,hic,hA,hB,hC,hnm⟩:=hL;have h1:=(((Sep.nil w).old hC).old hA).allocBox w.heap.size 26 [.slice A na ca,.string G.names,.slice B nb cb,.slice C nc cc] rfl;have hal:=hA.le;have hcl:=hC.le;have HAL:=Hd hA.len;have HCL:=Hd hC.len;have HBL:=Hd hB.1;have hbl:=hB.2.1;have HB:=Hd hB;clear hA hC hB
 go_enter func56,ntmps56
 go_upto_region 1 with fail
 generalize w.alloc (.cells #[.slice A na ca,.string G.names,.slice B nb cb,.slice C nc cc] 26)=W at *;have H:=Hd h1;clear h1;obtain⟨g0,g1,g2,g3⟩:=H.cells4 0 rfl
 go_wp2_with fail
 clear g0 g1 g2 g3
 go_loopw [8,3] (fun iv nv wr=>∃ j:Nat,iv=.int .i64 j∧nv=.int .i64 (Sh.pr (G.sizes.take j))∧j≤na∧j≤3∧(∀(i:Nat) (x:Int),G.sizes[i]?=some x→i<j→1≤x∧x≤8)∧Sep w wr [.box w.heap.size 26 [.slice A na ca,.string G.names,.slice B nb cb,.slice C nc cc],.ints A na G.sizes,.ints C nc G.outs]) (fun iv _ _=>na-(intOf iv).toNat)
 case atStart=>exact⟨0,rfl,rfl,by omega,by omega,by omega,H⟩
 case round =>
  clear H;obtain⟨j,rfl,rfl,hj,hj3,hAll,hS⟩:=hrel;have H:=Hd hS;have HA:=Hd hAll;clear hS hAll;obtain⟨g0,g1,g2,g3⟩:=H.cells4 0 rfl;by_cases hlt:j<na
  ·obtain⟨sa,x,hsA,_,hx,hcx,hfx⟩:=(H.oldInts 1 rfl).at_ (k:=j) hlt;subst hsA;by_cases h1:x<1
   ·have d1:decide (x<1)=true:=by simpa using h1
    have HX:=Hd (b7o hx (by omega));clear hx hfx;go_wp2;go_ret;exact⟨a0c HX.symm,H.base⟩
   have d1:decide (x<1)=false:=by simpa using h1
   by_cases h2:8<x
   ·have d2:decide (8<x)=true:=by simpa using h2
    have HX:=Hd (b7o hx (by omega));clear hx hfx;go_wp2;go_ret;exact⟨a0c HX.symm,H.base⟩
   have d2:decide (8<x)=false:=by simpa using h2
   by_cases h3:3≤j
   ·have d3:decide (3≤j)=true:=by simpa using h3
    have HX:=Hd (b7o hx (by omega));clear hx hfx;go_wp2;go_ret;exact⟨a0c HX.symm,H.base⟩
   have d3:decide (3≤j)=false:=by simpa using h3
   have hpt:=Sh.pr_take G.sizes hx;have HX:=Hd hx
   have hps:∀ k,k≤j+1→0≤Sh.pr (G.sizes.take k)∧Sh.pr (G.sizes.take k)≤1048576:=fun k hk=>by
    have hm:∀ y∈G.sizes.take k,0≤y∧y≤32:=fun y hy=>by
     obtain⟨i,hi,e⟩:=List.getElem_of_mem hy;rw[List.length_take] at hi;have hi2:G.sizes[i]?=some y:=by rw[←e,List.getElem_take,List.getElem?_eq_getElem]
     rcases Nat.lt_or_ge i j with hij|hij
     ·have:=HA.out i y hi2 hij;omega
     ·obtain rfl:i=j:=by omega
      have h9:=HX.out;rw[hi2] at h9;injection h9 with h9;omega
    have hl4:(G.sizes.take k).length≤4:=by rw[List.length_take];omega
    exact Sh.pr_small _ hm hl4
   obtain⟨hq1,hq2⟩:=hps (j+1) (by omega);obtain⟨hq3,hq4⟩:=hps j (by omega);rw[hpt] at hq1 hq2;obtain⟨P,hP⟩:∃ P,Sh.pr (G.sizes.take j)=P:=⟨_,rfl⟩;rw[hP] at hq1 hq2 hq3 hq4 hpt ⊢;have hwp:IntKind.i64.wrap (P*x)=P*x:=IntWalk.i64_in _ ⟨by omega,by omega⟩;have HPT:=Hd hpt;clear hpt hps hP hx hfx;go_wp2;go_roundw
   case rel=>exact⟨j+1,by go_num,by rw[HPT.out],by omega,by omega,fun i y hi hi2=>by
    rcases Nat.lt_or_ge i j with hij|hij
    ·exact HA i y hi hij
    ·obtain rfl:i=j:=by omega
     have h9:=HX.out
     rw[hi] at h9;injection h9 with h9;omega,H⟩
   case measure=>simp[intOf];omega
  ·obtain rfl:j=na:=by omega
   have HE:=Hd (b2p (G:=G) (by have:=HAL.out;omega) (fun i x hi=>HA.out i x hi (by have:=HAL.out;have:=(lL hi);omega)));rw[List.take_of_length_le (by have:=HAL.out;omega)];obtain⟨P,hP⟩:∃ P,Sh.pr G.sizes=P:=⟨_,rfl⟩;rw[hP];have HP:=Hd hP;clear hP;by_cases h8:P≤8
   ·have d8:decide (P≤8)=true:=by simpa using h8
    have HX:=Hd (show a5q G=a6e (a0b G.names) (j:Int) by rw[HE.out,HP.out,HAL.out,d8,Bool.true_and])
    go_wp2_with fail
    refine(b7z (j:Int) hnm).mono ?_;rintro e7 w7 ⟨rfl,hb7⟩;replace H:=Hd (H.below hb7);clear hb7 g0 g1 g2 g3;go_wp2;go_ret;exact⟨a0c HX.symm,H.base⟩
   ·have d8:decide (P≤8)=false:=by simpa using h8
    have HX:=Hd (show a5q G=false by rw[HE.out,HP.out,d8,Bool.false_and]);go_wp2;go_ret;exact⟨a0c HX.symm,H.base⟩
theorem c6p {L:List a0p}{y:a0p}(h:L[j]?=some y):L.drop j=y::L.drop (j+1):=by
 obtain⟨hj,rfl⟩:=List.getElem?_eq_some_iff.1 h;exact List.drop_eq_getElem_cons hj
end Go.Proofs.YtajhdeddgdhccaaGreatDoor
