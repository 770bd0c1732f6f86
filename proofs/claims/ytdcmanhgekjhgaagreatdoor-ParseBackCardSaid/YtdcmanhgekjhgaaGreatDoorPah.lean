import Derived.Test.YtdcmanhgekjhgaaGreatDoorPag
set_option maxRecDepth 100000
set_option maxHeartbeats 12800000
namespace Go.Proofs.YtdcmanhgekjhgaaGreatDoor
open Go.RowKit Go.Proofs.Tryz
variable {A B C S:Option Addr} {L:List (List Int)} {ca cb cc j n na nb nc sc sn:Nat} {l pool:List a0e} {s:List Int} {us:List Value} {v:Value} {w w' w0:World}
structure a0l where
 op:Int
 ins:List Int
 shape:List Int
 a:List Int
 n:Int
 how:Int
 note:ByteArray
structure a1d where
 sizes:List Int
 names:ByteArray
 nodes:List a0l
 outs:List Int
structure a9l (w:World) (nd:a0l) (A:Option Addr) (na ca:Nat) (B:Option Addr) (nb cb:Nat) (C:Option Addr) (nc cc:Nat):Prop where
 ia:na≤ca
 ib:nb≤cb
 ic:nc≤cc
 inA:Ints w A na nd.ins
 inB:Ints w B nb nd.shape
 inC:Ints w C nc nd.a
 op:Fits nd.op
 n:Fits nd.n
 how:Fits nd.how
 note:nd.note.size≤17592186044000
def a8n (nd:a0l) (A:Option Addr) (na ca:Nat) (B:Option Addr) (nb cb:Nat) (C:Option Addr) (nc cc:Nat):List Value :=
 [.int .i64 nd.op,.slice A na ca,.slice B nb cb,.slice C nc cc,.int .i64 nd.n,.int .i64 nd.how,.string nd.note]
def a4r (w:World) (v:Value) (nd:a0l):Prop :=
 ∃ A na ca B nb cb C nc cc,v=.agg #[.int .i64 nd.op,.slice A na ca,.slice B nb cb,.slice C nc cc,.int .i64 nd.n,.int .i64 nd.how,.string nd.note]∧a9l w nd A na ca B nb cb C nc cc
theorem a9l.below {nd:a0l}(h:a9l w nd A na ca B nb cb C nc cc)(hb:Below w.heap.size w w'):a9l w' nd A na ca B nb cb C nc cc :=
 ⟨h.ia,h.ib,h.ic,h.inA.below hb,h.inB.below hb,h.inC.below hb,h.op,h.n,h.how,h.note⟩
theorem a4r.below {nd:a0l}(h:a4r w v nd)(hb:Below w.heap.size w w'):a4r w' v nd:=by
 obtain⟨A,na,ca,B,nb,cb,C,nc,cc,e,hl⟩:=h;exact⟨A,na,ca,B,nb,cb,C,nc,cc,e,hl.below hb⟩
structure e6b (w:World) (nd:a0l) (A:Option Addr) (na ca:Nat) (B:Option Addr) (nb cb:Nat) (C:Option Addr) (nc cc:Nat):Prop where
 ia:na≤ca
 ib:nb≤cb
 ic:nc≤cc
 inA:Ints w A na nd.ins
 inB:Ints w B nb nd.shape
 inC:Ints w C nc nd.a
 op:Fits nd.op
 n:Fits nd.n
 how:Fits nd.how
 note:True
def a6i (w:World) (v:Value) (nd:a0l):Prop :=
 ∃ A na ca B nb cb C nc cc,v=.agg #[.int .i64 nd.op,.slice A na ca,.slice B nb cb,.slice C nc cc,.int .i64 nd.n,.int .i64 nd.how,.string nd.note]∧e6b w nd A na ca B nb cb C nc cc
theorem a4r.wide {nd:a0l}(h:a4r w v nd):a6i w v nd:=by
 obtain⟨A,na,ca,B,nb,cb,C,nc,cc,e,l⟩:=h;exact⟨A,na,ca,B,nb,cb,C,nc,cc,e,l.ia,l.ib,l.ic,l.inA,l.inB,l.inC,l.op,l.n,l.how,trivial⟩
theorem a6i.below {nd:a0l}(h:a6i w v nd)(hb:Below w.heap.size w w'):a6i w' v nd:=by
 obtain⟨A,na,ca,B,nb,cb,C,nc,cc,e,l⟩:=h;exact⟨A,na,ca,B,nb,cb,C,nc,cc,e,l.ia,l.ib,l.ic,l.inA.below hb,l.inB.below hb,l.inC.below hb,l.op,l.n,l.how,trivial⟩
def Lils (w:World) (A:Option Addr) (n:Nat) (L:List (List Int)):Prop :=
 L.length=n∧n≤90000∧∀ j x,L[j]?=some x→∃ a B m c,A=some a∧a.block<w.heap.size∧w.cell? (a.add j)=some (.slice B m c)∧m≤c∧Ints w B m x
theorem Lils.below (h:Lils w A n L)(hb:Below w.heap.size w w'):Lils w' A n L :=
 ⟨h.1,h.2.1,fun j x hx=>by
  obtain⟨a,B,m,c,e,hl,h0,hc,hI⟩:=h.2.2 j x hx
  exact⟨a,B,m,c,e,by have:=hb.size;omega,(hb.cell (by rw[a0d];exact hl)).trans h0,hc,hI.below hb⟩⟩
def Nods (w:World) (A:Option Addr) (n:Nat) (L:List a0l):Prop :=
 L.length=n∧n≤90000∧∀ j nd,L[j]?=some nd→∃ a S na ca B nb cb C nc cc,A=some a∧a.block<w.heap.size∧w.cell? (a.add (j*7))=some (.int .i64 nd.op) ∧
  w.cell? ⟨(a.add (j*7)).block,(a.add (j*7)).off+1,none⟩=some (.slice S na ca)∧w.cell? ⟨(a.add (j*7)).block,(a.add (j*7)).off+2,none⟩=some (.slice B nb cb)∧w.cell? ⟨(a.add (j*7)).block,(a.add (j*7)).off+3,none⟩=some (.slice C nc cc) ∧
  w.cell? ⟨(a.add (j*7)).block,(a.add (j*7)).off+4,none⟩=some (.int .i64 nd.n)∧w.cell? ⟨(a.add (j*7)).block,(a.add (j*7)).off+5,none⟩=some (.int .i64 nd.how)∧w.cell? ⟨(a.add (j*7)).block,(a.add (j*7)).off+6,none⟩=some (.string nd.note)∧a9l w nd S na ca B nb cb C nc cc
theorem Nods.below {L:List a0l}(h:Nods w A n L)(hb:Below w.heap.size w w'):Nods w' A n L :=
 ⟨h.1,h.2.1,fun j x hx=>by
  obtain⟨a,S,na,ca,B,nb,cb,C,nc,cc,e,hl,h0,h1,h2,h3,h4,h5,h6,hN⟩:=h.2.2 j x hx;have hl' : ∀ k:Nat,(⟨(a.add (j*7)).block,(a.add (j*7)).off+k,none⟩:Addr).block<w.heap.size:=fun k=>by simp only[a0d];exact hl
  exact⟨a,S,na,ca,B,nb,cb,C,nc,cc,e,by have:=hb.size;omega,(hb.cell (by rw[a0d];exact hl)).trans h0,(hb.cell (hl' 1)).trans h1,(hb.cell (hl' 2)).trans h2,(hb.cell (hl' 3)).trans h3,(hb.cell (hl' 4)).trans h4,(hb.cell (hl' 5)).trans h5,(hb.cell (hl' 6)).trans h6,hN.below hb⟩⟩
structure d0c (w:World) (G:a1d) (A:Option Addr) (na ca:Nat) (B:Option Addr) (nb cb:Nat) (C:Option Addr) (nc cc:Nat):Prop where
 ia:na≤ca
 ib:nb≤cb
 ic:nc≤cc
 inA:Ints w A na G.sizes
 inB:Nods w B nb G.nodes
 inC:Ints w C nc G.outs
 names:G.names.size≤17592186044000
def a1m (w:World) (v:Value) (G:a1d):Prop :=
 ∃ A na ca B nb cb C nc cc,v=.agg #[.slice A na ca,.string G.names,.slice B nb cb,.slice C nc cc]∧d0c w G A na ca B nb cb C nc cc
theorem d0c.below {G:a1d}(h:d0c w G A na ca B nb cb C nc cc)(hb:Below w.heap.size w w'):d0c w' G A na ca B nb cb C nc cc :=
 ⟨h.ia,h.ib,h.ic,h.inA.below hb,h.inB.below hb,h.inC.below hb,h.names⟩
theorem a1m.below {G:a1d}(h:a1m w v G)(hb:Below w.heap.size w w'):a1m w' v G:=by
 obtain⟨A,na,ca,B,nb,cb,C,nc,cc,e,hl⟩:=h;exact⟨A,na,ca,B,nb,cb,C,nc,cc,e,hl.below hb⟩
theorem a0s {fn:Func}{t u v x y:Tmp}(h:fn.results=#[.tmp t,.tmp u,.tmp v,.tmp x,.tmp y])(tmps:Array Value)(P:Program)(w:World):
  (results fn tmps).run P w=.ok (.tuple #[tmps.getD t undef,tmps.getD u undef,tmps.getD v undef,tmps.getD x undef,tmps.getD y undef]) w:=by
 simp[results,h]
def a0j (op:Int):Int × Bool × Bool × Bool × Bool :=
 if op=1 then(0,true,false,false,false) else if op=2 then(0,true,false,true,false) else if op=3 then(0,true,true,false,false)
 else if op=4∨op=5 then(1,false,false,false,false) else if 6≤op∧op≤11 then(2,false,false,false,false) else if op=12 then(3,false,false,false,false)
 else if op=13∨op=15 then(1,false,true,false,false) else if op=14 then(1,true,true,false,false) else if op=16 then(1,false,true,true,false)
 else if op=17 then(-1,false,true,false,false) else if op=18∨op=20 then(1,false,true,false,true) else if op=19 then(2,false,true,false,false) else(-2,false,false,false,false)
def b2i (t:Int × Bool × Bool × Bool × Bool) (nd:a0l) (k:Int):Bool :=
 if t.1 = -2∨(0≤t.1∧k≠t.1)∨(t.1 = -1∧k<2) then false
 else(t.2.1||decide (nd.shape.length=0))&&(t.2.2.1||decide (nd.a.length=0))&&(t.2.2.2.1||decide (nd.n=0))&&(t.2.2.2.2||decide (nd.how=0))
def a5l (nd:a0l) (k:Int):Bool:=b2i (a0j nd.op) nd k
theorem triN (b:Bool)(n:Nat):b=true∨(b=false∧n=0∧((n:Int)==0)=true)∨(b=false∧¬ n=0∧((n:Int)==0)=false):=by
 cases b
 ·by_cases h:n=0
  ·exact .inr (.inl ⟨rfl,h,by simpa using h⟩)
  ·exact .inr (.inr ⟨rfl,h,by simpa using h⟩)
 ·exact .inl rfl
theorem triI (b:Bool)(n:Int):b=true∨(b=false∧n=0∧(n==0)=true)∨(b=false∧¬ n=0∧(n==0)=false):=by
 cases b
 ·by_cases h:n=0
  ·exact .inr (.inl ⟨rfl,h,by simpa using h⟩)
  ·exact .inr (.inr ⟨rfl,h,by simpa using h⟩)
 ·exact .inl rfl
theorem a1y {a:Addr}{k:Nat}(h:a.block<n):(a.add k).block<n:=by rw[a0d];exact h
theorem old7 (H:Sep w0 w l){la:Addr}{v0 v1 v2 v3 v4 v5 v6:Value}(hb:la.block<w0.heap.size)(k0:w0.cell? (la.add (j*7))=some v0)(k1:w0.cell? ⟨(la.add (j*7)).block,(la.add (j*7)).off+1,none⟩=some v1)(k2:w0.cell? ⟨(la.add (j*7)).block,(la.add (j*7)).off+2,none⟩=some v2)(k3:w0.cell? ⟨(la.add (j*7)).block,(la.add (j*7)).off+3,none⟩=some v3)(k4:w0.cell? ⟨(la.add (j*7)).block,(la.add (j*7)).off+4,none⟩=some v4)(k5:w0.cell? ⟨(la.add (j*7)).block,(la.add (j*7)).off+5,none⟩=some v5)(k6:w0.cell? ⟨(la.add (j*7)).block,(la.add (j*7)).off+6,none⟩=some v6):
  w.cell? (la.add (j*7))=some v0∧w.cell? ⟨(la.add (j*7)).block,(la.add (j*7)).off+1,none⟩=some v1∧w.cell? ⟨(la.add (j*7)).block,(la.add (j*7)).off+2,none⟩=some v2∧w.cell? ⟨(la.add (j*7)).block,(la.add (j*7)).off+3,none⟩=some v3∧w.cell? ⟨(la.add (j*7)).block,(la.add (j*7)).off+4,none⟩=some v4∧w.cell? ⟨(la.add (j*7)).block,(la.add (j*7)).off+5,none⟩=some v5∧w.cell? ⟨(la.add (j*7)).block,(la.add (j*7)).off+6,none⟩=some v6 :=
 ⟨H.oldCell (a1y hb) k0,H.oldCell (a1y hb) k1,H.oldCell (a1y hb) k2,H.oldCell (a1y hb) k3,H.oldCell (a1y hb) k4,H.oldCell (a1y hb) k5,H.oldCell (a1y hb) k6⟩
theorem e4x:(prog.info? 25).map (fun i=>(i.zero,i.size,i.bytes))=some (some (.slice none 0 0),1,24):=by kernel_rfl
theorem b3c:∃ i,prog.info? 25=some i∧i.zero=some (.slice none 0 0)∧i.size=1∧i.bytes=24:=by
 have h:=e4x
 cases e:prog.info? 25 with
 | none=>rw[e] at h;cases h
 | some i =>
  rw[e] at h;simp only[Option.map_some,Option.some.injEq,Prod.mk.injEq] at h;exact⟨i,rfl,h.1,h.2.1,h.2.2⟩
theorem a2n {ops:Array Oper}{rest:List Oper}{o:Oper}{a:Act}{Q:Exit→Act→World→Prop}(hgd:o.guard=none)(s y:Operand)(t:TypeId)
  (ho:o.op=.call { callee:=.builtin .append,args:=#[s,y],argTypes:=#[t,t] })(ht:prog.underlying t=some (.slice 25))
  (H:Sep w0 w l)(i:Nat)(hi:l[i]?=some (.row 25 1 v n us))(hs:a.eval s=v)(c:Nat)(hy:a.eval y=.slice (some ⟨w.heap.size,0,none⟩) 1 c)
  (hn:n≤100000)
  (h:∀ v' w', Sep w0 w' (l.set i (.row 25 1 v' (n+1) (us++[.slice S sn sc])))→wpList prog ops Q rest (a.put o.dst v') w'):
  wpList prog ops Q (o::rest) a (w.alloc (.cells #[.slice S sn sc] 25)):=by
 obtain⟨ti,h1,h2,h3,h4⟩:=b3c;have H':=H.below ((Below.refl w.heap.size w).alloc (Nat.le_refl _) (.cells #[.slice S sn sc] 25));have hsz:=H'.size;refine wpList_append_own_at _ hgd s y t ho w0.heap.size 25 ti _ 1 24 ht h1 h2 h3 h4 (by rfl) (by omega) v n us hs (H'.at_ i hi) ⟨w.heap.size,0,none⟩ 1 c [.slice S sn sc] hy rfl ?_ (by simp[Value.oneCell']) (by unfold maxLen;omega) (by omega) hsz ?_
 ·intro j u hj;have hb:=heap_alloc_new w (.cells #[.slice S sn sc] 25)
  match j,hj with
  | 0,hj=>simp at hj;subst hj;exact cell_of_row _ _ 0 _ _ _ hb
  | j+1,hj=>simp at hj
 ·intro v' w' h5 h6 _ h8
  exact h v' w' (H'.change i hi h6 h5 fun b hb=>by
   have hb:v'.ownBlock=some b:=hb;rcases h8 with e|e
   ·exact .inl (e.symm.trans hb)
   ·rw[e] at hb;injection hb with hb;subst hb;exact .inr (Nat.le_refl _))
def a8u (us:List Value) (L:List (List Int)) (pool:List a0e):Prop:=us.length=L.length∧∀(j:Nat) (s:List Int),L[j]?=some s→∃(S:Option Addr) (sn sc p:Nat),us[j]?=some (.slice S sn sc)∧pool[p]?=some (a0e.own 3 (.slice S sn sc) sn s)
theorem b0i:a8u [] [] pool:=⟨rfl,fun j t h=>by simp at h⟩
theorem a8u.shift {c:a0e}(h:a8u us L pool):a8u us L (c::pool) :=
 ⟨h.1,fun j s hs=>by
  obtain⟨S,sn,sc,p,h1,h2⟩:=h.2 j s hs
  exact⟨S,sn,sc,p+1,h1,h2⟩⟩
theorem a8u.snoc {p:Nat}(h:a8u us L pool)(hp:pool[p]?=some (a0e.own 3 (.slice S sn sc) sn s)):a8u (us++[.slice S sn sc]) (L++[s]) pool:=by
 obtain⟨hl,h⟩:=h;refine⟨by simp[hl],fun j u hu=>?_⟩;rcases Nat.lt_or_ge j L.length with hj|hj
 ·rw[List.getElem?_append_left hj] at hu;obtain⟨S', sn', sc', p', h1,h2⟩:=h j u hu;exact⟨S', sn', sc', p', by rw[List.getElem?_append_left (by omega)];exact h1,h2⟩
 ·rw[List.getElem?_append_right hj] at hu
  have hj' : j=L.length:=by
   rcases Nat.eq_or_lt_of_le hj with e|e
   ·exact e.symm
   ·obtain⟨m,hm⟩:∃ m,j-L.length=m+1:=⟨j-L.length-1,by omega⟩;rw[hm] at hu;simp at hu
  subst hj';simp at hu;subst hu;exact⟨S,sn,sc,p,by rw[List.getElem?_append_right (by omega),hl];simp,hp⟩
theorem a8u.more (h:a8u us L pool):a8u (us++[.slice S sn sc]) (L++[s]) (a0e.own 3 (.slice S sn sc) sn s::pool) :=
 h.shift.snoc (p:=0) rfl
theorem a4h (g j:Nat):(⟨g,0,none⟩:Addr).add j=⟨g,j,none⟩:=by
 by_cases h:j=0
 ·subst h;rfl
 ·simp[Addr.add,h]
theorem a8q (i:Nat)(h:Sep w0 w l)(hi:l[i]?=some (.row 25 1 v n us))(hP:a8u us L pool)(hn:L.length=n)(hn2:n≤90000)(f:Nat)(hf:∀ i,l[i+f]?=pool[i]?):
  ∃ A c,v=.slice A n c∧n≤c∧Lils w A n L:=by
 have hr:w.ownsRow w0.heap.size 25 1 v n us:=h.at_ i hi;rcases Nat.eq_zero_or_pos n with e|e
 ·subst e;have hT:∀ A,Lils w A 0 L:=fun A=>⟨hn,by omega,fun j t ht=>by rw[List.eq_nil_of_length_eq_zero hn] at ht;simp at ht⟩
  rcases hr.2 with ⟨hv,_⟩|⟨g,cap,cur,hv,_⟩
  ·exact⟨none,0,hv,Nat.le_refl _,hT _⟩
  ·exact⟨_,cap,hv,Nat.zero_le _,hT _⟩
 ·obtain⟨g,c,rfl,hc⟩:=h.rowForm i hi e;refine⟨_,c,rfl,hc,hn,hn2,fun j s hs=>?_⟩;have hj:j<L.length:=(lL hs);obtain⟨S,sn,sc,p,h1,h2⟩:=hP.2 j s hs;have hlt:=(World.ownsRow.lt hr g rfl).2;have hp:=h.ownInts (p+f) ((hf p).trans h2);refine⟨⟨g,0,none⟩,S,sn,sc,rfl,hlt,?_,hp.2.1,hp.2.2⟩;rw[a4h,hr.cellAt j (by omega),h1]
theorem c6h {g c:Nat}(h:Sep w0 w l)(i:Nat)(hi:l[i]?=some (.row 25 1 (.slice (some ⟨g,0,none⟩) n c) n us)){u:Value}(hu:us[j]?=some u)(hj:j<n):w.cell? ((⟨g,0,none⟩:Addr).add j)=some u:=by
 have hr:w.ownsRow w0.heap.size 25 1 (.slice (some ⟨g,0,none⟩) n c) n us:=h.at_ i hi;rw[a4h,hr.cellAt j (by omega),hu]
def b2b (x:Int):Bool:=decide (1≤x)&&decide (x≤8)
noncomputable def a7n (G:a1d):Bool:=decide (G.sizes.length≤3)&&G.sizes.all b2b&&decide (Sh.pr G.sizes≤8)&&a7v (a0a G.names) G.sizes.length
theorem c3c {G:a1d}{x:Int}(h:G.sizes[j]?=some x)(hx:x<1∨8<x∨3≤j):a7n G=false:=by
 obtain⟨hj,rfl⟩:=List.getElem?_eq_some_iff.1 h
 cases e:a7n G with
 | false=>rfl
 | true =>
  simp only[a7n,Bool.and_eq_true,decide_eq_true_eq,List.all_eq_true,b2b] at e;obtain⟨⟨⟨h1,h2⟩,_⟩,_⟩:=e;have:=h2 _ (List.getElem_mem hj);omega
theorem c3d {G:a1d}(hl:G.sizes.length≤3)(h:∀(i:Nat) (x:Int),G.sizes[i]?=some x→1≤x∧x≤8):a7n G=(decide (Sh.pr G.sizes≤8)&&a7v (a0a G.names) G.sizes.length):=by
 have:G.sizes.all b2b=true:=by
  rw[List.all_eq_true];intro x hx;obtain⟨i,hi,e⟩:=List.getElem_of_mem hx;have:=h i x (by rw[List.getElem?_eq_getElem hi,e]);simp[b2b,this]
 simp only[a7n,this,decide_eq_true hl,Bool.true_and]
theorem c3n {G:a1d}(h:a1m w v G):
  Calls prog 40 #[v] w fun e w'=>e=.returned (.bool (a7n G))∧Below w.heap.size w w':=by
 have HG:=h;obtain⟨A,na,ca,B,nb,cb,C,nc,cc,rfl,hL⟩:=h;replace HG:=Hd HG;obtain⟨hia,hib,hic,hA,hB,hC,hnm⟩:=hL;have h1:=(((Sep.nil w).old hC).old hA).allocBox w.heap.size 28 [.slice A na ca,.string G.names,.slice B nb cb,.slice C nc cc] rfl;have hal:=hA.le;have hcl:=hC.le;have HAL:=Hd hA.len;have HCL:=Hd hC.len;have HBL:=Hd hB.1;have hbl:=hB.2.1;have HB:=Hd hB;clear hA hC hB
 go_enter func40,ntmps40
 go_upto_region 1 with fail
 generalize w.alloc (.cells #[.slice A na ca,.string G.names,.slice B nb cb,.slice C nc cc] 28)=W at *;have H:=Hd h1;clear h1;obtain⟨g0,g1,g2,g3⟩:=H.cells4 0 rfl
 go_wp2_with fail
 clear g0 g1 g2 g3
 go_loopw [8,3] (fun iv nv wr=>∃ j:Nat,iv=.int .i64 j∧nv=.int .i64 (Sh.pr (G.sizes.take j))∧j≤na∧j≤3∧(∀(i:Nat) (x:Int),G.sizes[i]?=some x→i<j→1≤x∧x≤8)∧Sep w wr [.box w.heap.size 28 [.slice A na ca,.string G.names,.slice B nb cb,.slice C nc cc],.ints A na G.sizes,.ints C nc G.outs]) (fun iv _ _=>na-(intOf iv).toNat)
 case atStart=>exact⟨0,rfl,rfl,by omega,by omega,by omega,H⟩
 case round =>
  clear H;obtain⟨j,rfl,rfl,hj,hj3,hAll,hS⟩:=hrel;have H:=Hd hS;have HA:=Hd hAll;clear hS hAll;obtain⟨g0,g1,g2,g3⟩:=H.cells4 0 rfl;by_cases hlt:j<na
  ·obtain⟨sa,x,hsA,_,hx,hcx,hfx⟩:=(H.oldInts 1 rfl).at_ (k:=j) hlt;subst hsA;by_cases h1:x<1
   ·have d1:decide (x<1)=true:=by simpa using h1
    have HX:=Hd (c3c hx (by omega));clear hx hfx;go_wp2;go_ret;exact⟨a0c HX.symm,H.base⟩
   have d1:decide (x<1)=false:=by simpa using h1
   by_cases h2:8<x
   ·have d2:decide (8<x)=true:=by simpa using h2
    have HX:=Hd (c3c hx (by omega));clear hx hfx;go_wp2;go_ret;exact⟨a0c HX.symm,H.base⟩
   have d2:decide (8<x)=false:=by simpa using h2
   by_cases h3:3≤j
   ·have d3:decide (3≤j)=true:=by simpa using h3
    have HX:=Hd (c3c hx (by omega));clear hx hfx;go_wp2;go_ret;exact⟨a0c HX.symm,H.base⟩
   have d3:decide (3≤j)=false:=by simpa using h3
   have hpt:=Sh.pr_take G.sizes hx;have HX:=Hd hx
   have hps:∀ k,k≤j+1→0≤Sh.pr (G.sizes.take k)∧Sh.pr (G.sizes.take k)≤1048576:=fun k hk=>by
    have hm:∀ y∈G.sizes.take k,0≤y∧y≤32:=fun y hy=>by
     obtain⟨i,hi,e⟩:=List.getElem_of_mem hy;rw[List.length_take] at hi;have hi2:G.sizes[i]?=some y:=by rw[←e,List.getElem_take,List.getElem?_eq_getElem]
     rcases Nat.lt_or_ge i j with hij|hij
     ·have:=HA.out i y hi2 hij;omega
     ·obtain rfl:i=j:=by omega
      have h9:=HX.out;rw[hi2] at h9;injection h9 with h9;omega
    have hl4:(G.sizes.take k).length≤4:=by rw[List.length_take];omega
    exact Sh.pr_small _ hm hl4
   obtain⟨hq1,hq2⟩:=hps (j+1) (by omega);obtain⟨hq3,hq4⟩:=hps j (by omega);rw[hpt] at hq1 hq2;obtain⟨P,hP⟩:∃ P,Sh.pr (G.sizes.take j)=P:=⟨_,rfl⟩;rw[hP] at hq1 hq2 hq3 hq4 hpt ⊢;have hwp:IntKind.i64.wrap (P*x)=P*x:=IntWalk.i64_in _ ⟨by omega,by omega⟩;have HPT:=Hd hpt;clear hpt hps hP hx hfx;go_wp2;go_roundw
   case rel=>exact⟨j+1,by go_num,by rw[HPT.out],by omega,by omega,fun i y hi hi2=>by
    rcases Nat.lt_or_ge i j with hij|hij
    ·exact HA i y hi hij
    ·obtain rfl:i=j:=by omega
     have h9:=HX.out
     rw[hi] at h9;injection h9 with h9;omega,H⟩
   case measure=>simp[intOf];omega
  ·obtain rfl:j=na:=by omega
   have HE:=Hd (c3d (G:=G) (by have:=HAL.out;omega) (fun i x hi=>HA.out i x hi (by have:=HAL.out;have:=(lL hi);omega)));rw[List.take_of_length_le (by have:=HAL.out;omega)];obtain⟨P,hP⟩:∃ P,Sh.pr G.sizes=P:=⟨_,rfl⟩;rw[hP];have HP:=Hd hP;clear hP;by_cases h8:P≤8
   ·have d8:decide (P≤8)=true:=by simpa using h8
    have HX:=Hd (show a7n G=a7v (a0a G.names) (j:Int) by rw[HE.out,HP.out,HAL.out,d8,Bool.true_and])
    go_wp2_with fail
    refine(c3t (j:Int) hnm).mono ?_;rintro e7 w7 ⟨rfl,hb7⟩;replace H:=Hd (H.below hb7);clear hb7 g0 g1 g2 g3;go_wp2;go_ret;exact⟨a0c HX.symm,H.base⟩
   ·have d8:decide (P≤8)=false:=by simpa using h8
    have HX:=Hd (show a7n G=false by rw[HE.out,HP.out,d8,Bool.false_and]);go_wp2;go_ret;exact⟨a0c HX.symm,H.base⟩
theorem d5l {L:List a0l}{y:a0l}(h:L[j]?=some y):L.drop j=y::L.drop (j+1):=by
 obtain⟨hj,rfl⟩:=List.getElem?_eq_some_iff.1 h;exact List.drop_eq_getElem_cons hj
theorem c0k (op:Int)(w:World):
  Calls prog 77 #[.int .i64 op] w fun e w'=>e=.returned (.tuple #[.int .i64 (a0j op).1,.bool (a0j op).2.1,.bool (a0j op).2.2.1,.bool (a0j op).2.2.2.1,.bool (a0j op).2.2.2.2])∧w=w':=by
 by_cases h1:op=1
 ·subst h1
  go_enter func77,ntmps77
  go_wp2
  (try simp only[Exit.inBlock,Exit.then])
  refine bodyPost_ret (a0s rfl _ _ _) rfl ?_;exact⟨by simp[a0j],rfl⟩
 by_cases h2:op=2
 ·subst h2;clear h1
  go_enter func77,ntmps77
  go_wp2
  (try simp only[Exit.inBlock,Exit.then])
  refine bodyPost_ret (a0s rfl _ _ _) rfl ?_;exact⟨by simp[a0j],rfl⟩
 by_cases h3:op=3
 ·subst h3;clear h1 h2
  go_enter func77,ntmps77
  go_wp2
  (try simp only[Exit.inBlock,Exit.then])
  refine bodyPost_ret (a0s rfl _ _ _) rfl ?_;exact⟨by simp[a0j],rfl⟩
 by_cases h4:op=4
 ·subst h4;clear h1 h2 h3
  go_enter func77,ntmps77
  go_wp2
  (try simp only[Exit.inBlock,Exit.then])
  refine bodyPost_ret (a0s rfl _ _ _) rfl ?_;exact⟨by simp[a0j],rfl⟩
 by_cases h5:op=5
 ·subst h5;clear h1 h2 h3 h4
  go_enter func77,ntmps77
  go_wp2
  (try simp only[Exit.inBlock,Exit.then])
  refine bodyPost_ret (a0s rfl _ _ _) rfl ?_;exact⟨by simp[a0j],rfl⟩
 by_cases h6:op=6
 ·subst h6;clear h1 h2 h3 h4 h5
  go_enter func77,ntmps77
  go_wp2
  (try simp only[Exit.inBlock,Exit.then])
  refine bodyPost_ret (a0s rfl _ _ _) rfl ?_;exact⟨by simp[a0j],rfl⟩
 by_cases h7:op=7
 ·subst h7;clear h1 h2 h3 h4 h5 h6
  go_enter func77,ntmps77
  go_wp2
  (try simp only[Exit.inBlock,Exit.then])
  refine bodyPost_ret (a0s rfl _ _ _) rfl ?_;exact⟨by simp[a0j],rfl⟩
 by_cases h8:op=8
 ·subst h8;clear h1 h2 h3 h4 h5 h6 h7
  go_enter func77,ntmps77
  go_wp2
  (try simp only[Exit.inBlock,Exit.then])
  refine bodyPost_ret (a0s rfl _ _ _) rfl ?_;exact⟨by simp[a0j],rfl⟩
 by_cases h9:op=9
 ·subst h9;clear h1 h2 h3 h4 h5 h6 h7 h8
  go_enter func77,ntmps77
  go_wp2
  (try simp only[Exit.inBlock,Exit.then])
  refine bodyPost_ret (a0s rfl _ _ _) rfl ?_;exact⟨by simp[a0j],rfl⟩
 by_cases h10:op=10
 ·subst h10;clear h1 h2 h3 h4 h5 h6 h7 h8 h9
  go_enter func77,ntmps77
  go_wp2
  (try simp only[Exit.inBlock,Exit.then])
  refine bodyPost_ret (a0s rfl _ _ _) rfl ?_;exact⟨by simp[a0j],rfl⟩
 by_cases h11:op=11
 ·subst h11;clear h1 h2 h3 h4 h5 h6 h7 h8 h9 h10
  go_enter func77,ntmps77
  go_wp2
  (try simp only[Exit.inBlock,Exit.then])
  refine bodyPost_ret (a0s rfl _ _ _) rfl ?_;exact⟨by simp[a0j],rfl⟩
 by_cases h12:op=12
 ·subst h12;clear h1 h2 h3 h4 h5 h6 h7 h8 h9 h10 h11
  go_enter func77,ntmps77
  go_wp2
  (try simp only[Exit.inBlock,Exit.then])
  refine bodyPost_ret (a0s rfl _ _ _) rfl ?_;exact⟨by simp[a0j],rfl⟩
 by_cases h13:op=13
 ·subst h13;clear h1 h2 h3 h4 h5 h6 h7 h8 h9 h10 h11 h12
  go_enter func77,ntmps77
  go_wp2
  (try simp only[Exit.inBlock,Exit.then])
  refine bodyPost_ret (a0s rfl _ _ _) rfl ?_;exact⟨by simp[a0j],rfl⟩
 by_cases h14:op=14
 ·subst h14;clear h1 h2 h3 h4 h5 h6 h7 h8 h9 h10 h11 h12 h13
  go_enter func77,ntmps77
  go_wp2
  (try simp only[Exit.inBlock,Exit.then])
  refine bodyPost_ret (a0s rfl _ _ _) rfl ?_;exact⟨by simp[a0j],rfl⟩
 by_cases h15:op=15
 ·subst h15;clear h1 h2 h3 h4 h5 h6 h7 h8 h9 h10 h11 h12 h13 h14
  go_enter func77,ntmps77
  go_wp2
  (try simp only[Exit.inBlock,Exit.then])
  refine bodyPost_ret (a0s rfl _ _ _) rfl ?_;exact⟨by simp[a0j],rfl⟩
 by_cases h16:op=16
 ·subst h16;clear h1 h2 h3 h4 h5 h6 h7 h8 h9 h10 h11 h12 h13 h14 h15
  go_enter func77,ntmps77
  go_wp2
  (try simp only[Exit.inBlock,Exit.then])
  refine bodyPost_ret (a0s rfl _ _ _) rfl ?_;exact⟨by simp[a0j],rfl⟩
 by_cases h17:op=17
 ·subst h17;clear h1 h2 h3 h4 h5 h6 h7 h8 h9 h10 h11 h12 h13 h14 h15 h16
  go_enter func77,ntmps77
  go_wp2
  (try simp only[Exit.inBlock,Exit.then])
  refine bodyPost_ret (a0s rfl _ _ _) rfl ?_;exact⟨by simp[a0j],rfl⟩
 by_cases h18:op=18
 ·subst h18;clear h1 h2 h3 h4 h5 h6 h7 h8 h9 h10 h11 h12 h13 h14 h15 h16 h17
  go_enter func77,ntmps77
  go_wp2
  (try simp only[Exit.inBlock,Exit.then])
  refine bodyPost_ret (a0s rfl _ _ _) rfl ?_;exact⟨by simp[a0j],rfl⟩
 by_cases h19:op=19
 ·subst h19;clear h1 h2 h3 h4 h5 h6 h7 h8 h9 h10 h11 h12 h13 h14 h15 h16 h17 h18
  go_enter func77,ntmps77
  go_wp2
  (try simp only[Exit.inBlock,Exit.then])
  refine bodyPost_ret (a0s rfl _ _ _) rfl ?_;exact⟨by simp[a0j],rfl⟩
 by_cases h20:op=20
 ·subst h20;clear h1 h2 h3 h4 h5 h6 h7 h8 h9 h10 h11 h12 h13 h14 h15 h16 h17 h18 h19
  go_enter func77,ntmps77
  go_wp2
  (try simp only[Exit.inBlock,Exit.then])
  refine bodyPost_ret (a0s rfl _ _ _) rfl ?_;exact⟨by simp[a0j],rfl⟩
 have HX:=Hd (show a0j op=(-2,false,false,false,false) by rw[a0j];repeat rw[iN (by omega)]);have b1:(op==1)=false:=by simpa using h1
 have b2:(op==2)=false:=by simpa using h2
 have b3:(op==3)=false:=by simpa using h3
 have b4:(op==4)=false:=by simpa using h4
 have b5:(op==5)=false:=by simpa using h5
 have b12:(op==12)=false:=by simpa using h12
 have b13:(op==13)=false:=by simpa using h13
 have b14:(op==14)=false:=by simpa using h14
 have b15:(op==15)=false:=by simpa using h15
 have b16:(op==16)=false:=by simpa using h16
 have b17:(op==17)=false:=by simpa using h17
 have b18:(op==18)=false:=by simpa using h18
 have b19:(op==19)=false:=by simpa using h19
 have b20:(op==20)=false:=by simpa using h20
 by_cases g:6≤op
 ·have d1:decide (6≤op)=true:=by simpa using g
  have d2:decide (op≤11)=false:=by simp;omega
  clear g h1 h2 h3 h4 h5 h6 h7 h8 h9 h10 h11 h12 h13 h14 h15 h16 h17 h18 h19 h20
  go_enter func77,ntmps77
  go_wp2
  (try simp only[Exit.inBlock,Exit.then])
  refine bodyPost_ret (a0s rfl _ _ _) rfl ?_;exact⟨by rw[HX.out];rfl,rfl⟩
 ·have d1:decide (6≤op)=false:=by simpa using g
  clear g h1 h2 h3 h4 h5 h6 h7 h8 h9 h10 h11 h12 h13 h14 h15 h16 h17 h18 h19 h20
  go_enter func77,ntmps77
  go_wp2
  (try simp only[Exit.inBlock,Exit.then])
  refine bodyPost_ret (a0s rfl _ _ _) rfl ?_;exact⟨by rw[HX.out];rfl,rfl⟩
theorem c3m {nd:a0l}(k:Int)(h:a6i w v nd):
  Calls prog 47 #[v,.int .i64 k] w fun e w'=>e=.returned (.bool (a5l nd k))∧Below w.heap.size w w':=by
 obtain⟨A,na,ca,B,nb,cb,C,nc,cc,rfl,hL⟩:=h;have hb:=(Below.refl w.heap.size w).alloc (Nat.le_refl _) (.cells #[.int .i64 nd.op,.slice A na ca,.slice B nb cb,.slice C nc cc,.int .i64 nd.n,.int .i64 nd.how,.string nd.note] 49);have h1:=(Sep.nil w).allocBox w.heap.size 49 [.int .i64 nd.op,.slice A na ca,.slice B nb cb,.slice C nc cc,.int .i64 nd.n,.int .i64 nd.how,.string nd.note] rfl;have HBL:=Hd (show nd.shape.length=nb from hL.inB.len);have HCL:=Hd (show nd.a.length=nc from hL.inC.len);have C1:=fun w=>c0k nd.op w
 obtain⟨tk,s,a,v,h,ht⟩:∃ tk s a v h,a0j nd.op=(tk,s,a,v,h):=⟨_,_,_,_,_,rfl⟩;simp only[ht] at C1;have HF:=Hd (show a5l nd k=b2i (tk,s,a,v,h) nd k by rw[a5l,ht]);clear ht hL
 go_enter func47,ntmps47
 go_upto_region 1 with fail
 generalize w.alloc (.cells #[.int .i64 nd.op,.slice A na ca,.slice B nb cb,.slice C nc cc,.int .i64 nd.n,.int .i64 nd.how,.string nd.note] 49)=W at *;have H:=Hd h1;clear h1 hb;obtain⟨n0,n1,n2,n3,n4,n5,n6⟩:=H.cells7 0 rfl
 go_wp2_with fail
 refine(C1 _).mono ?_;rintro e1 w1 ⟨rfl,rfl⟩;clear C1;have RF:(tk = -2∨(0≤tk∧k≠tk)∨(tk = -1∧k<2))→b2i (tk,s,a,v,h) nd k=false:=fun hc=>by rw[b2i,iP hc]
 have RT:¬(tk = -2∨(0≤tk∧k≠tk)∨(tk = -1∧k<2))→b2i (tk,s,a,v,h) nd k=((s||decide (nb=0))&&(a||decide (nc=0))&&(v||decide (nd.n=0))&&(h||decide (nd.how=0))):=fun hc=>by rw[b2i,iN hc,HBL.out,HCL.out]
 by_cases h0:tk = -2
 ·have d0:(tk == -2)=true:=by simpa using h0
  subst h0;have HX:=Hd (RF (by omega));clear RF RT;go_wp2;go_ret;exact⟨a0c (HF.trans HX).symm,H.base⟩
 ·have d0:(tk == -2)=false:=by simpa using h0
  by_cases h1:0≤tk
  ·have d1:decide (0≤tk)=true:=by simpa using h1
   have d3:(tk == -1)=false:=by simp;omega
   by_cases h2:k=tk
   ·have d2:(k != tk)=false:=by simpa using h2
    have HT:=Hd (RT (by omega));clear RF RT;rcases triN s nb with rfl|⟨rfl,e0,t0⟩|⟨rfl,e0,t0⟩
    rotate_left 2
    ·have HX:=Hd (HT.trans (show _=false by simp[e0]));clear e0;go_wp2;go_ret;exact⟨a0c (HF.trans HX).symm,H.base⟩
    all_goals (
     rcases triN a nc with rfl|⟨rfl,e1,t1⟩|⟨rfl,e1,t1⟩
     rotate_left 2
     ·have HX:=Hd (HT.trans (show _=false by simp[e1]));clear e1;go_wp2;go_ret;exact⟨a0c (HF.trans HX).symm,H.base⟩
     all_goals (
      rcases triI v nd.n with rfl|⟨rfl,e2,t2⟩|⟨rfl,e2,t2⟩
      rotate_left 2
      ·have HX:=Hd (HT.trans (show _=false by simp[e2]));clear e2;go_wp2;go_ret;exact⟨a0c (HF.trans HX).symm,H.base⟩
      all_goals (
       rcases triI h nd.how with rfl|⟨rfl,e3,t3⟩|⟨rfl,e3,t3⟩
       rotate_left 2
       ·have HX:=Hd (HT.trans (show _=false by simp[e3]));clear e3;go_wp2;go_ret;exact⟨a0c (HF.trans HX).symm,H.base⟩
       all_goals (
        have HX:=Hd (HT.trans (show _=true by simp[*]));go_wp2;go_ret
        exact⟨a0c (HF.trans HX).symm,H.base⟩))))
   ·have d2:(k != tk)=true:=by simpa using h2
    have HX:=Hd (RF (by omega));clear RF RT;go_wp2;go_ret;exact⟨a0c (HF.trans HX).symm,H.base⟩
  ·have d1:decide (0≤tk)=false:=by simpa using h1
   by_cases h3:tk = -1
   ·have d3:(tk == -1)=true:=by simpa using h3
    by_cases h4:k<2
    ·have d4:decide (k<2)=true:=by simpa using h4
     have HX:=Hd (RF (by omega));clear RF RT;go_wp2;go_ret;exact⟨a0c (HF.trans HX).symm,H.base⟩
    ·have d4:decide (k<2)=false:=by simpa using h4
     have HT:=Hd (RT (by omega));clear RF RT;rcases triN s nb with rfl|⟨rfl,e0,t0⟩|⟨rfl,e0,t0⟩
     rotate_left 2
     ·have HX:=Hd (HT.trans (show _=false by simp[e0]));clear e0;go_wp2;go_ret;exact⟨a0c (HF.trans HX).symm,H.base⟩
     all_goals (
      rcases triN a nc with rfl|⟨rfl,e1,t1⟩|⟨rfl,e1,t1⟩
      rotate_left 2
      ·have HX:=Hd (HT.trans (show _=false by simp[e1]));clear e1;go_wp2;go_ret;exact⟨a0c (HF.trans HX).symm,H.base⟩
      all_goals (
       rcases triI v nd.n with rfl|⟨rfl,e2,t2⟩|⟨rfl,e2,t2⟩
       rotate_left 2
       ·have HX:=Hd (HT.trans (show _=false by simp[e2]));clear e2;go_wp2;go_ret;exact⟨a0c (HF.trans HX).symm,H.base⟩
       all_goals (
        rcases triI h nd.how with rfl|⟨rfl,e3,t3⟩|⟨rfl,e3,t3⟩
        rotate_left 2
        ·have HX:=Hd (HT.trans (show _=false by simp[e3]));clear e3;go_wp2;go_ret;exact⟨a0c (HF.trans HX).symm,H.base⟩
        all_goals (
         have HX:=Hd (HT.trans (show _=true by simp[*]));go_wp2;go_ret
         exact⟨a0c (HF.trans HX).symm,H.base⟩))))
   ·have d3:(tk == -1)=false:=by simpa using h3
    have HT:=Hd (RT (by omega));clear RF RT;rcases triN s nb with rfl|⟨rfl,e0,t0⟩|⟨rfl,e0,t0⟩
    rotate_left 2
    ·have HX:=Hd (HT.trans (show _=false by simp[e0]));clear e0;go_wp2;go_ret;exact⟨a0c (HF.trans HX).symm,H.base⟩
    all_goals (
     rcases triN a nc with rfl|⟨rfl,e1,t1⟩|⟨rfl,e1,t1⟩
     rotate_left 2
     ·have HX:=Hd (HT.trans (show _=false by simp[e1]));clear e1;go_wp2;go_ret;exact⟨a0c (HF.trans HX).symm,H.base⟩
     all_goals (
      rcases triI v nd.n with rfl|⟨rfl,e2,t2⟩|⟨rfl,e2,t2⟩
      rotate_left 2
      ·have HX:=Hd (HT.trans (show _=false by simp[e2]));clear e2;go_wp2;go_ret;exact⟨a0c (HF.trans HX).symm,H.base⟩
      all_goals (
       rcases triI h nd.how with rfl|⟨rfl,e3,t3⟩|⟨rfl,e3,t3⟩
       rotate_left 2
       ·have HX:=Hd (HT.trans (show _=false by simp[e3]));clear e3;go_wp2;go_ret;exact⟨a0c (HF.trans HX).symm,H.base⟩
       all_goals (
        have HX:=Hd (HT.trans (show _=true by simp[*]));go_wp2;go_ret
        exact⟨a0c (HF.trans HX).symm,H.base⟩))))
theorem a1a {nd:a0l}(k:Int)(h:a6i w v nd):
  Calls prog 78 #[v,.int .i64 k] w fun e w'=>e=.returned (.bool (decide ((nd.a.length:Int)=k)))∧Below w.heap.size w w':=by
 obtain⟨A,na,ca,B,nb,cb,C,nc,cc,rfl,hL⟩:=h;have h1:=(Sep.nil w).allocBox w.heap.size 49 [.int .i64 nd.op,.slice A na ca,.slice B nb cb,.slice C nc cc,.int .i64 nd.n,.int .i64 nd.how,.string nd.note] rfl;have HCL:=Hd (show nd.a.length=nc from hL.inC.len);clear hL
 go_enter func78,ntmps78
 go_upto_region 1 with fail
 generalize w.alloc (.cells #[.int .i64 nd.op,.slice A na ca,.slice B nb cb,.slice C nc cc,.int .i64 nd.n,.int .i64 nd.how,.string nd.note] 49)=W at *;have H:=Hd h1;clear h1;obtain⟨n0,n1,n2,n3,n4,n5,n6⟩:=H.cells7 0 rfl;go_wp2;go_ret;exact⟨a0c (by rw[HCL.out];rfl),H.base⟩
end Go.Proofs.YtdcmanhgekjhgaaGreatDoor
