import Derived.Maps.AppendAt
import Derived.Test.YtnnmplkgenhofaaPad
import Derived.Test.YtnnmplkgenhofaaPae
import Derived.Test.YtnnmplkgenhofaaPaf
namespace Go.Proofs.Ytnnmplkgenhofaa
open Go.RowKit
structure NodeV where
 op:Int
 ins:List Int
 shape:List Int
 a:List Int
 n:Int
 how:Int
 note:ByteArray
structure GraphV where
 sizes:List Int
 names:ByteArray
 nodes:List NodeV
 outs:List Int
structure NodeL (w:World) (nd:NodeV) (A:Option Addr) (na ca:Nat) (B:Option Addr) (nb cb:Nat) (C:Option Addr) (nc cc:Nat):Prop where
 ia:na≤ca
 ib:nb≤cb
 ic:nc≤cc
 inA:Ints w A na nd.ins
 inB:Ints w B nb nd.shape
 inC:Ints w C nc nd.a
 op:Fits nd.op
 n:Fits nd.n
 how:Fits nd.how
 note:nd.note.size≤17592186044000
def nodeCells (nd:NodeV) (A:Option Addr) (na ca:Nat) (B:Option Addr) (nb cb:Nat) (C:Option Addr) (nc cc:Nat):List Value :=
 [.int .i64 nd.op,.slice A na ca,.slice B nb cb,.slice C nc cc,.int .i64 nd.n,.int .i64 nd.how,.string nd.note]
def NodeIs (w:World) (v:Value) (nd:NodeV):Prop :=
 ∃ A na ca B nb cb C nc cc,v=.agg #[.int .i64 nd.op,.slice A na ca,.slice B nb cb,.slice C nc cc,.int .i64 nd.n,.int .i64 nd.how,.string nd.note]∧NodeL w nd A na ca B nb cb C nc cc
theorem NodeL.below {w w' : World} {nd:NodeV} {A:Option Addr} {na ca:Nat} {B:Option Addr} {nb cb:Nat} {C:Option Addr} {nc cc:Nat} (h:NodeL w nd A na ca B nb cb C nc cc) (hb:Below w.heap.size w w'):NodeL w' nd A na ca B nb cb C nc cc :=
 ⟨h.ia,h.ib,h.ic,h.inA.below hb,h.inB.below hb,h.inC.below hb,h.op,h.n,h.how,h.note⟩
theorem NodeIs.below {w w' : World} {v:Value} {nd:NodeV} (h:NodeIs w v nd) (hb:Below w.heap.size w w'):NodeIs w' v nd:=by
 obtain ⟨A,na,ca,B,nb,cb,C,nc,cc,e,hl⟩:=h;exact ⟨A,na,ca,B,nb,cb,C,nc,cc,e,hl.below hb⟩
def Lils (w:World) (A:Option Addr) (n:Nat) (L:List (List Int)):Prop :=
 L.length=n∧n≤900∧∀ j x,L[j]? = some x→∃ a B m c,A=some a∧a.block<w.heap.size∧w.cell? (a.add j)=some (.slice B m c)∧m≤c∧Ints w B m x
theorem Lils.below {w w' : World} {A:Option Addr} {n:Nat} {L:List (List Int)} (h:Lils w A n L) (hb:Below w.heap.size w w'):Lils w' A n L :=
 ⟨h.1,h.2.1,fun j x hx=>by
  obtain ⟨a,B,m,c,e,hl,h0,hc,hI⟩:=h.2.2 j x hx
  exact ⟨a,B,m,c,e,by have:=hb.size;omega,(hb.cell (by rw [block_of_add];exact hl)).trans h0,hc,hI.below hb⟩⟩
def Nods (w:World) (A:Option Addr) (n:Nat) (L:List NodeV):Prop :=
 L.length=n∧n≤900∧∀ j nd,L[j]? = some nd→∃ a S na ca B nb cb C nc cc,A=some a∧a.block<w.heap.size∧w.cell? (a.add (j*7))=some (.int .i64 nd.op) ∧
  w.cell? ⟨(a.add (j*7)).block,(a.add (j*7)).off+1,none⟩=some (.slice S na ca)∧w.cell? ⟨(a.add (j*7)).block,(a.add (j*7)).off+2,none⟩=some (.slice B nb cb)∧w.cell? ⟨(a.add (j*7)).block,(a.add (j*7)).off+3,none⟩=some (.slice C nc cc) ∧
  w.cell? ⟨(a.add (j*7)).block,(a.add (j*7)).off+4,none⟩=some (.int .i64 nd.n)∧w.cell? ⟨(a.add (j*7)).block,(a.add (j*7)).off+5,none⟩=some (.int .i64 nd.how)∧w.cell? ⟨(a.add (j*7)).block,(a.add (j*7)).off+6,none⟩=some (.string nd.note)∧NodeL w nd S na ca B nb cb C nc cc
theorem Nods.below {w w' : World} {A:Option Addr} {n:Nat} {L:List NodeV} (h:Nods w A n L) (hb:Below w.heap.size w w'):Nods w' A n L :=
 ⟨h.1,h.2.1,fun j x hx=>by
  obtain ⟨a,S,na,ca,B,nb,cb,C,nc,cc,e,hl,h0,h1,h2,h3,h4,h5,h6,hN⟩:=h.2.2 j x hx;have hl' : ∀ k:Nat,(⟨(a.add (j*7)).block,(a.add (j*7)).off+k,none⟩:Addr).block<w.heap.size:=fun k=>by simp only [block_of_add];exact hl
  exact ⟨a,S,na,ca,B,nb,cb,C,nc,cc,e,by have:=hb.size;omega,(hb.cell (by rw [block_of_add];exact hl)).trans h0,(hb.cell (hl' 1)).trans h1,(hb.cell (hl' 2)).trans h2,(hb.cell (hl' 3)).trans h3,(hb.cell (hl' 4)).trans h4,(hb.cell (hl' 5)).trans h5,(hb.cell (hl' 6)).trans h6,hN.below hb⟩⟩
structure GraphL (w:World) (G:GraphV) (A:Option Addr) (na ca:Nat) (B:Option Addr) (nb cb:Nat) (C:Option Addr) (nc cc:Nat):Prop where
 ia:na≤ca
 ib:nb≤cb
 ic:nc≤cc
 inA:Ints w A na G.sizes
 inB:Nods w B nb G.nodes
 inC:Ints w C nc G.outs
 names:G.names.size≤17592186044000
def GraphIs (w:World) (v:Value) (G:GraphV):Prop :=
 ∃ A na ca B nb cb C nc cc,v=.agg #[.slice A na ca,.string G.names,.slice B nb cb,.slice C nc cc]∧GraphL w G A na ca B nb cb C nc cc
theorem GraphL.below {w w' : World} {G:GraphV} {A:Option Addr} {na ca:Nat} {B:Option Addr} {nb cb:Nat} {C:Option Addr} {nc cc:Nat} (h:GraphL w G A na ca B nb cb C nc cc) (hb:Below w.heap.size w w'):GraphL w' G A na ca B nb cb C nc cc :=
 ⟨h.ia,h.ib,h.ic,h.inA.below hb,h.inB.below hb,h.inC.below hb,h.names⟩
theorem GraphIs.below {w w' : World} {v:Value} {G:GraphV} (h:GraphIs w v G) (hb:Below w.heap.size w w'):GraphIs w' v G:=by
 obtain ⟨A,na,ca,B,nb,cb,C,nc,cc,e,hl⟩:=h;exact ⟨A,na,ca,B,nb,cb,C,nc,cc,e,hl.below hb⟩
theorem results_tmp5 {fn:Func} {t u v x y:Tmp} (h:fn.results=#[.tmp t,.tmp u,.tmp v,.tmp x,.tmp y]) (tmps:Array Value) (P:Program) (w:World) :
  (results fn tmps).run P w=.ok (.tuple #[tmps.getD t undef,tmps.getD u undef,tmps.getD v undef,tmps.getD x undef,tmps.getD y undef]) w:=by
 simp [results,h]
def takesF (op:Int):Int × Bool × Bool × Bool × Bool :=
 if op=1 then (0,true,false,false,false) else if op=2 then (0,true,false,true,false) else if op=3 then (0,true,true,false,false)
 else if op=4∨op=5 then (1,false,false,false,false) else if 6≤op∧op≤11 then (2,false,false,false,false) else if op=12 then (3,false,false,false,false)
 else if op=13∨op=15 then (1,false,true,false,false) else if op=14 then (1,true,true,false,false) else if op=16 then (1,false,true,true,false)
 else if op=17 then (-1,false,true,false,false) else if op=18∨op=20 then (1,false,true,false,true) else if op=19 then (2,false,true,false,false) else (-2,false,false,false,false)
def formK (t:Int × Bool × Bool × Bool × Bool) (nd:NodeV) (k:Int):Bool :=
 if t.1 = -2∨(0≤t.1∧k≠t.1)∨(t.1 = -1∧k<2) then false
 else (t.2.1 || decide (nd.shape.length=0)) && (t.2.2.1 || decide (nd.a.length=0)) && (t.2.2.2.1 || decide (nd.n=0)) && (t.2.2.2.2 || decide (nd.how=0))
def formF (nd:NodeV) (k:Int):Bool:=formK (takesF nd.op) nd k
theorem triN (b:Bool) (n:Nat):b=true∨(b=false∧n=0∧((n:Int)==0)=true)∨(b=false∧¬ n=0∧((n:Int)==0)=false):=by
 cases b
 ·by_cases h:n=0
  ·exact .inr (.inl ⟨rfl,h,by simpa using h⟩)
  ·exact .inr (.inr ⟨rfl,h,by simpa using h⟩)
 ·exact .inl rfl
theorem triI (b:Bool) (n:Int):b=true∨(b=false∧n=0∧(n==0)=true)∨(b=false∧¬ n=0∧(n==0)=false):=by
 cases b
 ·by_cases h:n=0
  ·exact .inr (.inl ⟨rfl,h,by simpa using h⟩)
  ·exact .inr (.inr ⟨rfl,h,by simpa using h⟩)
 ·exact .inl rfl
theorem blk_add {a:Addr} {n k:Nat} (h:a.block<n):(a.add k).block<n:=by rw [block_of_add];exact h
theorem old7 {w0 w:World} {l:List Chunk} (H:Sep w0 w l) {la:Addr} {j:Nat} {v0 v1 v2 v3 v4 v5 v6:Value} (hb:la.block<w0.heap.size) (k0:w0.cell? (la.add (j*7))=some v0) (k1:w0.cell? ⟨(la.add (j*7)).block,(la.add (j*7)).off+1,none⟩=some v1) (k2:w0.cell? ⟨(la.add (j*7)).block,(la.add (j*7)).off+2,none⟩=some v2) (k3:w0.cell? ⟨(la.add (j*7)).block,(la.add (j*7)).off+3,none⟩=some v3) (k4:w0.cell? ⟨(la.add (j*7)).block,(la.add (j*7)).off+4,none⟩=some v4) (k5:w0.cell? ⟨(la.add (j*7)).block,(la.add (j*7)).off+5,none⟩=some v5) (k6:w0.cell? ⟨(la.add (j*7)).block,(la.add (j*7)).off+6,none⟩=some v6) :
  w.cell? (la.add (j*7))=some v0∧w.cell? ⟨(la.add (j*7)).block,(la.add (j*7)).off+1,none⟩=some v1∧w.cell? ⟨(la.add (j*7)).block,(la.add (j*7)).off+2,none⟩=some v2∧w.cell? ⟨(la.add (j*7)).block,(la.add (j*7)).off+3,none⟩=some v3∧w.cell? ⟨(la.add (j*7)).block,(la.add (j*7)).off+4,none⟩=some v4∧w.cell? ⟨(la.add (j*7)).block,(la.add (j*7)).off+5,none⟩=some v5∧w.cell? ⟨(la.add (j*7)).block,(la.add (j*7)).off+6,none⟩=some v6 :=
 ⟨H.oldCell (blk_add hb) k0,H.oldCell (blk_add hb) k1,H.oldCell (blk_add hb) k2,H.oldCell (blk_add hb) k3,H.oldCell (blk_add hb) k4,H.oldCell (blk_add hb) k5,H.oldCell (blk_add hb) k6⟩
theorem infoLst:(Try.prog.info? 22).map (fun i=>(i.zero,i.size,i.bytes))=some (some (.slice none 0 0),1,24):=by kernel_rfl
theorem infoLst_parts:∃ i,Try.prog.info? 22=some i∧i.zero=some (.slice none 0 0)∧i.size=1∧i.bytes=24:=by
 have h:=infoLst
 cases e:Try.prog.info? 22 with
 | none=>rw [e] at h;cases h
 | some i =>
  rw [e] at h;simp only [Option.map_some,Option.some.injEq,Prod.mk.injEq] at h;exact ⟨i,rfl,h.1,h.2.1,h.2.2⟩
theorem wpList_append_lst {w0 w:World} {ops:Array Oper} {rest:List Oper} {o:Oper} {a:Act} {Q:Exit→Act→World→Prop} (hgd:o.guard=none) (s y:Operand) (t:TypeId)
  (ho:o.op=.call { callee:=.builtin .append,args:=#[s,y],argTypes:=#[t,t] }) (ht:Try.prog.underlying t=some (.slice 22))
  {l:List Chunk} (H:Sep w0 w l) (i:Nat) {v:Value} {n:Nat} {us:List Value} (hi:l[i]? = some (.row 22 1 v n us)) (hs:a.eval s=v) {S:Option Addr} {sn sc:Nat} (c:Nat) (hy:a.eval y=.slice (some ⟨w.heap.size,0,none⟩) 1 c)
  (hn:n≤1000)
  (h:∀ v' w', Sep w0 w' (l.set i (.row 22 1 v' (n+1) (us++[.slice S sn sc])))→wpList Try.prog ops Q rest (a.put o.dst v') w') :
  wpList Try.prog ops Q (o::rest) a (w.alloc (.cells #[.slice S sn sc] 22)):=by
 obtain ⟨ti,h1,h2,h3,h4⟩:=infoLst_parts;have H' := H.below ((Below.refl w.heap.size w).alloc (Nat.le_refl _) (.cells #[.slice S sn sc] 22));have hsz:=H'.size;refine wpList_append_own_at _ hgd s y t ho w0.heap.size 22 ti _ 1 24 ht h1 h2 h3 h4 (by rfl) (by omega) v n us hs (H'.at_ i hi) ⟨w.heap.size,0,none⟩ 1 c [.slice S sn sc] hy rfl ?_ (by simp [Value.oneCell']) (by unfold maxLen;omega) (by omega) hsz ?_
 ·intro j u hj;have hb:=heap_alloc_new w (.cells #[.slice S sn sc] 22)
  match j,hj with
  | 0,hj=>simp at hj;subst hj;exact cell_of_row _ _ 0 _ _ _ hb
  | j+1,hj=>simp at hj
 ·intro v' w' h5 h6 _ h8
  exact h v' w' (H'.change i hi h6 h5 fun b hb=>by
   have hb:v'.ownBlock=some b:=hb;rcases h8 with e | e
   ·exact .inl (e.symm.trans hb)
   ·rw [e] at hb;injection hb with hb;subst hb;exact .inr (Nat.le_refl _))
def PoolL (us:List Value) (L:List (List Int)) (pool:List Chunk):Prop:=us.length=L.length∧∀ (j:Nat) (s:List Int),L[j]? = some s→∃ (S:Option Addr) (sn sc p:Nat),us[j]? = some (.slice S sn sc)∧pool[p]? = some (Chunk.own 3 (.slice S sn sc) sn s)
theorem poolL_nil {pool:List Chunk}:PoolL [] [] pool:=⟨rfl,fun j t h=>by simp at h⟩
theorem PoolL.shift {us:List Value} {L:List (List Int)} {pool:List Chunk} {c:Chunk} (h:PoolL us L pool):PoolL us L (c::pool) :=
 ⟨h.1,fun j s hs=>by
  obtain ⟨S,sn,sc,p,h1,h2⟩:=h.2 j s hs
  exact ⟨S,sn,sc,p+1,h1,h2⟩⟩
theorem PoolL.snoc {us:List Value} {L:List (List Int)} {pool:List Chunk} {S:Option Addr} {sn sc p:Nat} {s:List Int} (h:PoolL us L pool) (hp:pool[p]? = some (Chunk.own 3 (.slice S sn sc) sn s)):PoolL (us++[.slice S sn sc]) (L++[s]) pool:=by
 obtain ⟨hl,h⟩:=h;refine ⟨by simp [hl],fun j u hu => ?_⟩;rcases Nat.lt_or_ge j L.length with hj | hj
 ·rw [List.getElem?_append_left hj] at hu;obtain ⟨S', sn', sc', p', h1,h2⟩:=h j u hu;exact ⟨S', sn', sc', p', by rw [List.getElem?_append_left (by omega)];exact h1,h2⟩
 ·rw [List.getElem?_append_right hj] at hu
  have hj' : j=L.length:=by
   rcases Nat.eq_or_lt_of_le hj with e | e
   ·exact e.symm
   ·obtain ⟨m,hm⟩:∃ m,j-L.length=m+1:=⟨j-L.length-1,by omega⟩;rw [hm] at hu;simp at hu
  subst hj';simp at hu;subst hu;exact ⟨S,sn,sc,p,by rw [List.getElem?_append_right (by omega),hl];simp,hp⟩
theorem PoolL.more {us:List Value} {L:List (List Int)} {pool:List Chunk} {S:Option Addr} {sn sc:Nat} {s:List Int} (h:PoolL us L pool):PoolL (us++[.slice S sn sc]) (L++[s]) (Chunk.own 3 (.slice S sn sc) sn s::pool) :=
 h.shift.snoc (p:=0) rfl
theorem addrL0 (g j:Nat):(⟨g,0,none⟩:Addr).add j=⟨g,j,none⟩:=by
 by_cases h:j=0
 ·subst h;rfl
 ·simp [Addr.add,h]
theorem pool_lils {w0 w:World} {l:List Chunk} {v:Value} {n:Nat} {us:List Value} {L:List (List Int)} {pool:List Chunk} (i:Nat) (h:Sep w0 w l) (hi:l[i]? = some (.row 22 1 v n us)) (hP:PoolL us L pool) (hn:L.length=n) (hn2:n≤900) (f:Nat) (hf:∀ i,l[i+f]? = pool[i]?) :
  ∃ A c,v=.slice A n c∧n≤c∧Lils w A n L:=by
 have hr:w.ownsRow w0.heap.size 22 1 v n us:=h.at_ i hi;rcases Nat.eq_zero_or_pos n with e | e
 ·subst e;have hT:∀ A,Lils w A 0 L:=fun A=>⟨hn,by omega,fun j t ht=>by rw [List.eq_nil_of_length_eq_zero hn] at ht;simp at ht⟩
  rcases hr.2 with ⟨hv,_⟩ | ⟨g,cap,cur,hv,_⟩
  ·exact ⟨none,0,hv,Nat.le_refl _,hT _⟩
  ·exact ⟨_,cap,hv,Nat.zero_le _,hT _⟩
 ·obtain ⟨g,c,rfl,hc⟩:=h.rowForm i hi e;refine ⟨_,c,rfl,hc,hn,hn2,fun j s hs => ?_⟩;have hj:j<L.length:=(List.getElem?_eq_some_iff.1 hs).1;obtain ⟨S,sn,sc,p,h1,h2⟩:=hP.2 j s hs;have hlt:=(World.ownsRow.lt hr g rfl).2;have hp:=h.ownInts (p+f) ((hf p).trans h2);refine ⟨⟨g,0,none⟩,S,sn,sc,rfl,hlt,?_,hp.2.1,hp.2.2⟩;rw [addrL0,hr.cellAt j (by omega),h1]
theorem pool_cell {w0 w:World} {l:List Chunk} {g c n:Nat} {us:List Value} (h:Sep w0 w l) (i:Nat) (hi:l[i]? = some (.row 22 1 (.slice (some ⟨g,0,none⟩) n c) n us)) {j:Nat} {u:Value} (hu:us[j]? = some u) (hj:j<n):w.cell? ((⟨g,0,none⟩:Addr).add j)=some u:=by
 have hr:w.ownsRow w0.heap.size 22 1 (.slice (some ⟨g,0,none⟩) n c) n us:=h.at_ i hi;rw [addrL0,hr.cellAt j (by omega),hu]
def kSame:Nat→List (List Int)→List Int→List Int
 | _,[],_=>[]
 | k,x::l,s=>if x=s then (k:Int)::kSame (k+1) l s else kSame (k+1) l s
theorem drop_ll {L:List (List Int)} {j:Nat} {y:List Int} (h:L[j]? = some y):L.drop j=y::L.drop (j+1):=by
 obtain ⟨hj,rfl⟩:=List.getElem?_eq_some_iff.1 h;exact List.drop_eq_getElem_cons hj
set_option maxRecDepth 100000 in
set_option maxHeartbeats 1600000 in
theorem same_k {w:World} {A B:Option Addr} {n cl m c:Nat} {L:List (List Int)} {s:List Int} (h:Lils w A n L) (g:Ints w B m s) :
  Calls Try.prog 35 #[.slice A n cl,.slice B m c] w fun e w' => (∃ v m,e=.returned v∧OwnS w' w.heap.size 3 v m (kSame 0 L s))∧Below w.heap.size w w' := by
 have hll:=h.1;have hln:=h.2.1;have HLL:=Hd hll;have HL:=Hd h;have HG:=Hd g;clear h g hll;have H:=Hd ((Sep.nil w).addNil 3)
 go_enter Try.func35,Try.ntmps35
 go_wp2_with fail
 go_loopw [9,5] (fun iv ov wr=>∃ (j:Nat) (vo:Value) (acc:List Int),vo=ov∧iv=.int .i64 j∧j≤n∧acc.length≤j∧acc++kSame j (L.drop j) s=kSame 0 L s∧Sep w wr [.own 3 vo acc.length acc]) (fun iv _ _=>n-(intOf iv).toNat)
 case atStart=>exact ⟨0,_,[],rfl,rfl,by omega,Nat.le_refl _,by rw [List.nil_append];rfl,H.out⟩
 case round =>
  clear H;obtain ⟨j,vo,acc,rfl,rfl,hj,hal,hq,hS⟩:=hrel;have H:=Hd hS;have HQ:=Hd hq;clear hS hq;by_cases hlt:j<n
  ·obtain ⟨x,hx⟩:∃ x,L[j]? = some x:=⟨_,List.getElem?_eq_getElem (by have:=HLL.out;omega)⟩;obtain ⟨la,Bs,ms,cs,hla,hlb,hcl,hmc,hI⟩:=HL.out.2.2 j x hx;subst hla;have hcj:=H.out.oldCell (p:=la.add j) (blk_add hlb) hcl;have HQD:=Hd (show acc++kSame j (x::L.drop (j+1)) s=kSame 0 L s by rw [← drop_ll hx];exact HQ.out);have CI:=refInts_any (c:=cs) (d:=c) (H.out.oldI hI) (H.out.oldI HG.out);clear hcl hI hx
   go_wp2_with fail
   refine CI.mono ?_;rintro e1 w1 ⟨rfl,k1,rfl⟩;replace H:=Hd (H.out.drewN k1);obtain ⟨v1,hv1⟩:∃ v,World.drewN wr k1=v:=⟨_,rfl⟩;rw [hv1] at H ⊢;clear hv1 CI hcj;by_cases hxs:x=s
   ·have d1:(x==s)=true:=by simpa using hxs
    rw [d1];have HQE:=Hd (show (acc++[(j:Int)])++kSame (j+1) (L.drop (j+1)) s=kSame 0 L s by have h5:=HQD.out;rw [kSame,if_pos hxs] at h5;rw [List.append_assoc];exact h5);clear hxs d1
    go_wp2_with (at_builtin;refine wpList_append_sep rfl (.tmp 18) (.tmp 20) 22 3 rfl Try.underlying22 Try.infoInt H.out 0 rfl rfl (j:Int) ⟨by omega,by omega⟩ _ rfl ?c1 ?_)
    case c1=>omega
    intro v' w' h';have H8:=Hd h';clear h';go_wp2;go_roundw
    case rel=>exact ⟨j+1,_,acc++[(j:Int)],rfl,by go_num,by omega,by rw [List.length_append,List.length_singleton];omega,HQE.out,by rw [List.length_append,List.length_singleton];exact H8.out⟩
    case measure=>simp [intOf];omega
   ·have d1:(x==s)=false:=by simpa using hxs
    rw [d1];have HQE:=Hd (show acc++kSame (j+1) (L.drop (j+1)) s=kSame 0 L s by have h5:=HQD.out;rw [kSame,if_neg hxs] at h5;exact h5);clear hxs d1;go_wp2;go_roundw
    case rel=>exact ⟨j+1,_,acc,rfl,by go_num,by omega,by omega,HQE.out,H.out⟩
    case measure=>simp [intOf];omega
  ·obtain rfl:j=n:=by omega
   have HE:=Hd (show kSame 0 L s=acc by have h5:=HQ.out;rw [List.drop_eq_nil_of_le (by have:=HLL.out;omega)] at h5;rw [← h5,kSame,List.append_nil]);go_wp2;go_ret;rw [HE.out];exact ⟨⟨_,_,rfl,H.out.ownS 0 rfl⟩,H.out.base⟩
theorem Sep.emptyAt9 {w0 w:World} {l:List Chunk} (h:Sep w0 w l) (e:TypeId) (g:Nat) (hg:w.heap.size=g):Sep w0 (w.alloc (.cells #[] e)) (.own e (.slice (some ⟨g,0,none⟩) 0 0) 0 []::l):=by
 subst hg;exact h.empty e
def meshT:List (List Int × ByteArray):=[([2],⟨#[120]⟩),([3],⟨#[120]⟩),([2,2],⟨#[121,195,169]⟩),([4],⟨#[120]⟩),([2,3],⟨#[121,195,169]⟩),([],⟨#[]⟩),([2,2,2],⟨#[97,98,228,184,150]⟩),([5],⟨#[120]⟩),([1,3],⟨#[121,195,169]⟩),([8],⟨#[120]⟩)]
def kMesh (xs:List Int) (a:Nat):List Int × ByteArray:=meshT.getD (tv xs a 10).toNat ([],⟨#[]⟩)
theorem Sep.dropMid {w0 w:World} {c:Chunk}:∀ (k:Nat) {l:List Chunk},Sep w0 w (c::l)→Sep w0 w (c::l.drop k)
 | 0,_,h=>h
 | _+1,[],h=>h
 | k+1,_::_,h=>Sep.dropMid k (Sep.less1 h)
set_option maxRecDepth 100000 in
set_option maxHeartbeats 6400000 in
theorem mesh_k {w0 w:World} {l:List Chunk} {i g:Nat} {A:Option Addr} {n c a:Nat} {xs:List Int} (H:Sep w0 w l) (hi:l[i]? = some (TB g A n c a)) (hI:Ints w0 A n xs) (ha:a≤n) :
  Calls Try.prog 15 #[.pointer (some ⟨g,0,none⟩)] w fun e w' => ∃ v m,e=.returned (.tuple #[v,.string (kMesh xs a).2])∧∃ l1,KT l i (TB g A n c (ta xs a 10)) l1∧Sep w0 w' (.own 3 v m (kMesh xs a).1::l1):=by
 have HXL:=Hd hI.len;have HI:=Hd hI;have hnle:=hI.le;have h1:=((((((((((H).lit 3 #[.int .i64 2] [2] 1 (w.heap.size) (rfl) rfl (by decide)).lit 3 #[.int .i64 3] [3] 1 (w.heap.size+1) (by simp) rfl (by decide)).lit 3 #[.int .i64 2,.int .i64 2] [2,2] 2 (w.heap.size+1+1) (by simp) rfl (by decide)).lit 3 #[.int .i64 4] [4] 1 (w.heap.size+1+1+1) (by simp) rfl (by decide)).lit 3 #[.int .i64 2,.int .i64 3] [2,3] 2 (w.heap.size+1+1+1+1) (by simp) rfl (by decide)).lit 3 #[] [] 0 (w.heap.size+1+1+1+1+1) (by simp) rfl (by decide)).lit 3 #[.int .i64 2,.int .i64 2,.int .i64 2] [2,2,2] 3 (w.heap.size+1+1+1+1+1+1) (by simp) rfl (by decide)).lit 3 #[.int .i64 5] [5] 1 (w.heap.size+1+1+1+1+1+1+1) (by simp) rfl (by decide)).lit 3 #[.int .i64 1,.int .i64 3] [1,3] 2 (w.heap.size+1+1+1+1+1+1+1+1) (by simp) rfl (by decide)).lit 3 #[.int .i64 8] [8] 1 (w.heap.size+1+1+1+1+1+1+1+1+1) (by simp) rfl (by decide);have h2:=h1.allocBox (w.heap.size+1+1+1+1+1+1+1+1+1+1) 22 [.slice (some ⟨w.heap.size,0,none⟩) 1 1,.slice (some ⟨w.heap.size+1,0,none⟩) 1 1,.slice (some ⟨w.heap.size+1+1,0,none⟩) 2 2,.slice (some ⟨w.heap.size+1+1+1,0,none⟩) 1 1,.slice (some ⟨w.heap.size+1+1+1+1,0,none⟩) 2 2,.slice (some ⟨w.heap.size+1+1+1+1+1,0,none⟩) 0 0,.slice (some ⟨w.heap.size+1+1+1+1+1+1,0,none⟩) 3 3,.slice (some ⟨w.heap.size+1+1+1+1+1+1+1,0,none⟩) 1 1,.slice (some ⟨w.heap.size+1+1+1+1+1+1+1+1,0,none⟩) 2 2,.slice (some ⟨w.heap.size+1+1+1+1+1+1+1+1+1,0,none⟩) 1 1] (by simp);have H2:=Hd h2;have KI:=Hd hi;clear h1 h2 H hi hI
 go_enter Try.func15,Try.ntmps15
 go_wp2_with fail
 refine (next_k 10 H2.out (i:=i+11) KI.out HI.out ha ⟨by omega,by omega⟩).mono ?_;rintro e1 w1 ⟨rfl,l1,hK1,hS1⟩;obtain rfl:=hK1.eq;have q0:=tv_nonneg xs a 10;have q1:=tv_lt xs a (show (0:Int)<10 by omega);obtain ⟨q,hq⟩:∃ q,tv xs a 10=q:=⟨_,rfl⟩;rw [hq] at q0 q1 ⊢;have HQ:=Hd (show kMesh xs a=meshT.getD q.toNat ([],⟨#[]⟩) by rw [kMesh,hq]);obtain ⟨qn,rfl⟩:=Int.eq_ofNat_of_zero_le q0;obtain ⟨a1,ha1⟩:∃ r,ta xs a 10=r:=⟨_,rfl⟩;rw [ha1] at hS1;have HA1:=Hd ha1;have H3:=Hd (show Sep w0 w1 (.box (w.heap.size+1+1+1+1+1+1+1+1+1+1) 22 [.slice (some ⟨w.heap.size,0,none⟩) 1 1,.slice (some ⟨w.heap.size+1,0,none⟩) 1 1,.slice (some ⟨w.heap.size+1+1,0,none⟩) 2 2,.slice (some ⟨w.heap.size+1+1+1,0,none⟩) 1 1,.slice (some ⟨w.heap.size+1+1+1+1,0,none⟩) 2 2,.slice (some ⟨w.heap.size+1+1+1+1+1,0,none⟩) 0 0,.slice (some ⟨w.heap.size+1+1+1+1+1+1,0,none⟩) 3 3,.slice (some ⟨w.heap.size+1+1+1+1+1+1+1,0,none⟩) 1 1,.slice (some ⟨w.heap.size+1+1+1+1+1+1+1+1,0,none⟩) 2 2,.slice (some ⟨w.heap.size+1+1+1+1+1+1+1+1+1,0,none⟩) 1 1]::.own 3 (.slice (some ⟨w.heap.size+1+1+1+1+1+1+1+1+1,0,none⟩) 1 1) 1 [8]::.own 3 (.slice (some ⟨w.heap.size+1+1+1+1+1+1+1+1,0,none⟩) 2 2) 2 [1,3]::.own 3 (.slice (some ⟨w.heap.size+1+1+1+1+1+1+1,0,none⟩) 1 1) 1 [5]::.own 3 (.slice (some ⟨w.heap.size+1+1+1+1+1+1,0,none⟩) 3 3) 3 [2,2,2]::.own 3 (.slice (some ⟨w.heap.size+1+1+1+1+1,0,none⟩) 0 0) 0 []::.own 3 (.slice (some ⟨w.heap.size+1+1+1+1,0,none⟩) 2 2) 2 [2,3]::.own 3 (.slice (some ⟨w.heap.size+1+1+1,0,none⟩) 1 1) 1 [4]::.own 3 (.slice (some ⟨w.heap.size+1+1,0,none⟩) 2 2) 2 [2,2]::.own 3 (.slice (some ⟨w.heap.size+1,0,none⟩) 1 1) 1 [3]::.own 3 (.slice (some ⟨w.heap.size,0,none⟩) 1 1) 1 [2]::l.set i (TB g A n c a1)) from hS1);have HK:=Hd (KT.mk_ (b:=TB g A n c a1) KI.out);have hqn:qn<10:=by omega
 clear hq ha1 hS1 hK1 H2 q0 q1;have hcase:qn=0∨qn=1∨qn=2∨qn=3∨qn=4∨qn=5∨qn=6∨qn=7∨qn=8∨qn=9:=by omega
 rcases hcase with rfl | rfl | rfl | rfl | rfl | rfl | rfl | rfl | rfl | rfl
 ·have hc:=H3.out.cell 0 0 rfl rfl;have hlt:(0:Int)<10:=by omega
  have h4:=H3.out.allocBox w1.heap.size 9 [.string ⟨#[120]⟩,.string ⟨#[121,195,169]⟩,.string ⟨#[97,98,228,184,150]⟩] rfl;have H4:=Hd h4;have ht:=H4.out.cell 0 0 rfl rfl;clear h4;have H5:=Hd (H4.out.emptyAt9 3 (w1.heap.size+1) (by simp))
  go_wp2_with (at_builtin;refine wpList_appends_sep rfl (.tmp 34) (.tmp 35) 22 3 rfl Try.underlying22 Try.infoInt H5.out 0 rfl rfl _ 1 _ _ rfl (H5.out.ownInts 12 rfl).2.2 ?c1 ?_)
  case c1=>omega
  intro v9 w9 h9;have H9:=Hd h9;clear h9 H5 hc ht;have HX:=Hd (show kMesh xs a=([2],⟨#[120]⟩) from HQ.out);go_wp2;go_ret2;rw [HX.out];refine ⟨_,_,rfl,_,by rw [HA1.out];exact HK.out,(Sep.dropMid 12 H9.out)⟩
 ·have hc:=H3.out.cell 0 1 rfl rfl;have hlt:(1:Int)<10:=by omega
  have h4:=H3.out.allocBox w1.heap.size 9 [.string ⟨#[120]⟩,.string ⟨#[121,195,169]⟩,.string ⟨#[97,98,228,184,150]⟩] rfl;have H4:=Hd h4;have ht:=H4.out.cell 0 0 rfl rfl;clear h4;have H5:=Hd (H4.out.emptyAt9 3 (w1.heap.size+1) (by simp))
  go_wp2_with (at_builtin;refine wpList_appends_sep rfl (.tmp 34) (.tmp 35) 22 3 rfl Try.underlying22 Try.infoInt H5.out 0 rfl rfl _ 1 _ _ rfl (H5.out.ownInts 11 rfl).2.2 ?c1 ?_)
  case c1=>omega
  intro v9 w9 h9;have H9:=Hd h9;clear h9 H5 hc ht;have HX:=Hd (show kMesh xs a=([3],⟨#[120]⟩) from HQ.out);go_wp2;go_ret2;rw [HX.out];refine ⟨_,_,rfl,_,by rw [HA1.out];exact HK.out,(Sep.dropMid 12 H9.out)⟩
 ·have hc:=H3.out.cell 0 2 rfl rfl;have hlt:(2:Int)<10:=by omega
  have h4:=H3.out.allocBox w1.heap.size 9 [.string ⟨#[120]⟩,.string ⟨#[121,195,169]⟩,.string ⟨#[97,98,228,184,150]⟩] rfl;have H4:=Hd h4;have ht:=H4.out.cell 0 1 rfl rfl;clear h4;have H5:=Hd (H4.out.emptyAt9 3 (w1.heap.size+1) (by simp))
  go_wp2_with (at_builtin;refine wpList_appends_sep rfl (.tmp 34) (.tmp 35) 22 3 rfl Try.underlying22 Try.infoInt H5.out 0 rfl rfl _ 2 _ _ rfl (H5.out.ownInts 10 rfl).2.2 ?c1 ?_)
  case c1=>omega
  intro v9 w9 h9;have H9:=Hd h9;clear h9 H5 hc ht;have HX:=Hd (show kMesh xs a=([2,2],⟨#[121,195,169]⟩) from HQ.out);go_wp2;go_ret2;rw [HX.out];refine ⟨_,_,rfl,_,by rw [HA1.out];exact HK.out,(Sep.dropMid 12 H9.out)⟩
 ·have hc:=H3.out.cell 0 3 rfl rfl;have hlt:(3:Int)<10:=by omega
  have h4:=H3.out.allocBox w1.heap.size 9 [.string ⟨#[120]⟩,.string ⟨#[121,195,169]⟩,.string ⟨#[97,98,228,184,150]⟩] rfl;have H4:=Hd h4;have ht:=H4.out.cell 0 0 rfl rfl;clear h4;have H5:=Hd (H4.out.emptyAt9 3 (w1.heap.size+1) (by simp))
  go_wp2_with (at_builtin;refine wpList_appends_sep rfl (.tmp 34) (.tmp 35) 22 3 rfl Try.underlying22 Try.infoInt H5.out 0 rfl rfl _ 1 _ _ rfl (H5.out.ownInts 9 rfl).2.2 ?c1 ?_)
  case c1=>omega
  intro v9 w9 h9;have H9:=Hd h9;clear h9 H5 hc ht;have HX:=Hd (show kMesh xs a=([4],⟨#[120]⟩) from HQ.out);go_wp2;go_ret2;rw [HX.out];refine ⟨_,_,rfl,_,by rw [HA1.out];exact HK.out,(Sep.dropMid 12 H9.out)⟩
 ·have hc:=H3.out.cell 0 4 rfl rfl;have hlt:(4:Int)<10:=by omega
  have h4:=H3.out.allocBox w1.heap.size 9 [.string ⟨#[120]⟩,.string ⟨#[121,195,169]⟩,.string ⟨#[97,98,228,184,150]⟩] rfl;have H4:=Hd h4;have ht:=H4.out.cell 0 1 rfl rfl;clear h4;have H5:=Hd (H4.out.emptyAt9 3 (w1.heap.size+1) (by simp))
  go_wp2_with (at_builtin;refine wpList_appends_sep rfl (.tmp 34) (.tmp 35) 22 3 rfl Try.underlying22 Try.infoInt H5.out 0 rfl rfl _ 2 _ _ rfl (H5.out.ownInts 8 rfl).2.2 ?c1 ?_)
  case c1=>omega
  intro v9 w9 h9;have H9:=Hd h9;clear h9 H5 hc ht;have HX:=Hd (show kMesh xs a=([2,3],⟨#[121,195,169]⟩) from HQ.out);go_wp2;go_ret2;rw [HX.out];refine ⟨_,_,rfl,_,by rw [HA1.out];exact HK.out,(Sep.dropMid 12 H9.out)⟩
 ·have hc:=H3.out.cell 0 5 rfl rfl;have hlt:(5:Int)<10:=by omega
  have h4:=H3.out.allocBox w1.heap.size 9 [.string ⟨#[120]⟩,.string ⟨#[121,195,169]⟩,.string ⟨#[97,98,228,184,150]⟩] rfl;have H4:=Hd h4;have ht:=H4.out.cell 0 0 rfl rfl;clear h4;have H5:=Hd (H4.out.emptyAt9 3 (w1.heap.size+1) (by simp))
  go_wp2_with (at_builtin;refine wpList_appends_sep rfl (.tmp 34) (.tmp 35) 22 3 rfl Try.underlying22 Try.infoInt H5.out 0 rfl rfl _ 0 _ _ rfl (H5.out.ownInts 7 rfl).2.2 ?c1 ?_)
  case c1=>omega
  intro v9 w9 h9;have H9:=Hd h9;clear h9 H5 hc ht;have HX:=Hd (show kMesh xs a=([],⟨#[]⟩) from HQ.out);go_wp2;go_ret2;rw [HX.out];refine ⟨_,_,rfl,_,by rw [HA1.out];exact HK.out,(Sep.dropMid 12 H9.out)⟩
 ·have hc:=H3.out.cell 0 6 rfl rfl;have hlt:(6:Int)<10:=by omega
  have h4:=H3.out.allocBox w1.heap.size 9 [.string ⟨#[120]⟩,.string ⟨#[121,195,169]⟩,.string ⟨#[97,98,228,184,150]⟩] rfl;have H4:=Hd h4;have ht:=H4.out.cell 0 2 rfl rfl;clear h4;have H5:=Hd (H4.out.emptyAt9 3 (w1.heap.size+1) (by simp))
  go_wp2_with (at_builtin;refine wpList_appends_sep rfl (.tmp 34) (.tmp 35) 22 3 rfl Try.underlying22 Try.infoInt H5.out 0 rfl rfl _ 3 _ _ rfl (H5.out.ownInts 6 rfl).2.2 ?c1 ?_)
  case c1=>omega
  intro v9 w9 h9;have H9:=Hd h9;clear h9 H5 hc ht;have HX:=Hd (show kMesh xs a=([2,2,2],⟨#[97,98,228,184,150]⟩) from HQ.out);go_wp2;go_ret2;rw [HX.out];refine ⟨_,_,rfl,_,by rw [HA1.out];exact HK.out,(Sep.dropMid 12 H9.out)⟩
 ·have hc:=H3.out.cell 0 7 rfl rfl;have hlt:(7:Int)<10:=by omega
  have h4:=H3.out.allocBox w1.heap.size 9 [.string ⟨#[120]⟩,.string ⟨#[121,195,169]⟩,.string ⟨#[97,98,228,184,150]⟩] rfl;have H4:=Hd h4;have ht:=H4.out.cell 0 0 rfl rfl;clear h4;have H5:=Hd (H4.out.emptyAt9 3 (w1.heap.size+1) (by simp))
  go_wp2_with (at_builtin;refine wpList_appends_sep rfl (.tmp 34) (.tmp 35) 22 3 rfl Try.underlying22 Try.infoInt H5.out 0 rfl rfl _ 1 _ _ rfl (H5.out.ownInts 5 rfl).2.2 ?c1 ?_)
  case c1=>omega
  intro v9 w9 h9;have H9:=Hd h9;clear h9 H5 hc ht;have HX:=Hd (show kMesh xs a=([5],⟨#[120]⟩) from HQ.out);go_wp2;go_ret2;rw [HX.out];refine ⟨_,_,rfl,_,by rw [HA1.out];exact HK.out,(Sep.dropMid 12 H9.out)⟩
 ·have hc:=H3.out.cell 0 8 rfl rfl;have hlt:(8:Int)<10:=by omega
  have h4:=H3.out.allocBox w1.heap.size 9 [.string ⟨#[120]⟩,.string ⟨#[121,195,169]⟩,.string ⟨#[97,98,228,184,150]⟩] rfl;have H4:=Hd h4;have ht:=H4.out.cell 0 1 rfl rfl;clear h4;have H5:=Hd (H4.out.emptyAt9 3 (w1.heap.size+1) (by simp))
  go_wp2_with (at_builtin;refine wpList_appends_sep rfl (.tmp 34) (.tmp 35) 22 3 rfl Try.underlying22 Try.infoInt H5.out 0 rfl rfl _ 2 _ _ rfl (H5.out.ownInts 4 rfl).2.2 ?c1 ?_)
  case c1=>omega
  intro v9 w9 h9;have H9:=Hd h9;clear h9 H5 hc ht;have HX:=Hd (show kMesh xs a=([1,3],⟨#[121,195,169]⟩) from HQ.out);go_wp2;go_ret2;rw [HX.out];refine ⟨_,_,rfl,_,by rw [HA1.out];exact HK.out,(Sep.dropMid 12 H9.out)⟩
 ·have hc:=H3.out.cell 0 9 rfl rfl;have hlt:(9:Int)<10:=by omega
  have h4:=H3.out.allocBox w1.heap.size 9 [.string ⟨#[120]⟩,.string ⟨#[121,195,169]⟩,.string ⟨#[97,98,228,184,150]⟩] rfl;have H4:=Hd h4;have ht:=H4.out.cell 0 0 rfl rfl;clear h4;have H5:=Hd (H4.out.emptyAt9 3 (w1.heap.size+1) (by simp))
  go_wp2_with (at_builtin;refine wpList_appends_sep rfl (.tmp 34) (.tmp 35) 22 3 rfl Try.underlying22 Try.infoInt H5.out 0 rfl rfl _ 1 _ _ rfl (H5.out.ownInts 3 rfl).2.2 ?c1 ?_)
  case c1=>omega
  intro v9 w9 h9;have H9:=Hd h9;clear h9 H5 hc ht;have HX:=Hd (show kMesh xs a=([8],⟨#[120]⟩) from HQ.out);go_wp2;go_ret2;rw [HX.out];refine ⟨_,_,rfl,_,by rw [HA1.out];exact HK.out,(Sep.dropMid 12 H9.out)⟩
end Go.Proofs.Ytnnmplkgenhofaa
