import Derived.Test.YtnnmplkgenhofaaGreatPaa
import Derived.Test.YtnnmplkgenhofaaGreatPag
import Derived.Test.YtnnmplkgenhofaaGreatPah
import Derived.Test.YtnnmplkgenhofaaGreatPak
import Derived.Test.YtnnmplkgenhofaaGreatPaz
import Derived.Test.YtnnmplkgenhofaaGreatPbe
set_option maxRecDepth 100000
set_option maxHeartbeats 12800000
namespace Go.Proofs.YtnnmplkgenhofaaGreat
open Go.RowKit
def Fine (r:Int × List Int × List Int):Prop:=r.1=0→Sh.right r.2.1=true
theorem fine_no {e:Int} (h:e≠0):Fine (refused e):=fun h' => absurd h' h
theorem fine_one (op:Int) (s d:List Int):Fine (oneR op s d):=by
 rw[oneR];split
 ·exact fine_no (by decide)
 ·split
  ·rename_i h;exact fun _=>right_of h
  ·exact fine_no (by decide)
theorem fine_two (op:Int) (s d t k:List Int):Fine (twoR op s d t k):=by
 rw[twoR];split
 ·exact fine_no (by decide)
 ·split
  ·rename_i h;rw[Bool.and_eq_true] at h;exact fun _=>right_of h.1
  ·exact fine_no (by decide)
theorem fine_pick (cs cd s d t k:List Int):Fine (pickR cs cd s d t k):=by
 rw[pickR];split
 ·rename_i h;simp only[Bool.and_eq_true] at h;exact fun _=>right_of h.2.1.1
 ·exact fine_no (by decide)
theorem fine_turn (s d a:List Int):Fine (turnR s d a):=by
 rw[turnR];split
 ·rename_i h;split
  ·rename_i g;exact fun _=>(turn_right g (right_of h)).1
  ·exact fine_no (by decide)
 ·exact fine_no (by decide)
theorem fine_sp (s d o a:List Int):Fine (spR s d o a):=by
 rw[spR];split
 ·rename_i h;rw[Bool.and_eq_true] at h;split
  ·exact fun _=>h.2
  ·exact fine_no (by decide)
 ·exact fine_no (by decide)
theorem fine_cut (s d f z:List Int):Fine (cutR s d f z):=by
 rw[cutR];split
 ·rename_i h;split
  ·rename_i g;exact fun _=>(cut_fine (right_of h) g).1
  ·exact fine_no (by decide)
 ·exact fine_no (by decide)
theorem fine_pad (s d f z:List Int) (n:Int):Fine (padR s d f z n):=by
 rw[padR];split
 ·split
  ·split
   ·rename_i h;exact fun _=>h
   ·exact fine_no (by decide)
  ·exact fine_no (by decide)
 ·exact fine_no (by decide)
theorem fine_join (ax:Int) (l:TL):Fine (joinR ax l):=by
 rw[joinR];split
 ·split
  ·split
   ·rename_i h;exact fun _=>h.2
   ·exact fine_no (by decide)
  ·exact fine_no (by decide)
 ·exact fine_no (by decide)
theorem fine_fold (how:Int) (s d a:List Int):Fine (foldR how s d a):=by
 rw[foldR];split
 ·split
  ·split
   ·split
    ·rename_i h;exact fun _=>h
    ·exact fine_no (by decide)
   ·exact fine_no (by decide)
  ·exact fine_no (by decide)
 ·exact fine_no (by decide)
theorem fine_dot (s d t k:List Int) (n:Int):Fine (dotR s d t k n):=by
 rw[dotR];split
 ·split
  ·rename_i h;obtain⟨m,rfl,hok,hds⟩:=dsR_zero h;intro _
   show Sh.right (dsR s t m).2=true
   rw[hds];exact hok.rs
  ·rename_i h;exact fine_no h
 ·exact fine_no (by decide)
theorem fine_win (how:Int) (s d:List Int) (ax wide apart:Int):Fine (winR how s d ax wide apart):=by
 rw[winR];split
 ·split
  ·rename_i h;split
   ·rename_i g;rw[winAx_iff] at g;exact fun _=>winS_right (right_of h) (by omega)
   ·exact fine_no (by decide)
  ·exact fine_no (by decide)
 ·exact fine_no (by decide)
theorem fine_work (nd:NodeV) (L:TL):Fine (workR nd L):=by
 unfold workR;by_cases h:nd.op=2
 ·rw[if_pos h];by_cases g:Sh.right nd.shape=true
  ·rw[if_pos g];exact fun _=>g
  ·rw[if_neg g];exact fine_no (by decide)
 rw[if_neg h];clear h;by_cases h:nd.op=3
 ·rw[if_pos h];by_cases g:Sh.right nd.shape=true
  ·rw[if_pos g];by_cases k:nd.a.length=1∧0≤nd.a.getD 0 0∧nd.a.getD 0 0<nd.shape.length
   ·rw[if_pos k];exact fun _=>g
   ·rw[if_neg k];exact fine_no (by decide)
  ·rw[if_neg g];exact fine_no (by decide)
 rw[if_neg h];clear h;by_cases h:nd.op=4∨nd.op=5
 ·rw[if_pos h];exact fine_one _ _ _
 rw[if_neg h];clear h;by_cases h:nd.op=12
 ·rw[if_pos h];exact fine_pick _ _ _ _ _ _
 rw[if_neg h];clear h;by_cases h:nd.op=13
 ·rw[if_pos h];exact fine_turn _ _ _
 rw[if_neg h];clear h;by_cases h:nd.op=14
 ·rw[if_pos h];exact fine_sp _ _ _ _
 rw[if_neg h];clear h;by_cases h:nd.op=15
 ·rw[if_pos h];by_cases g:nd.a.length=2*(L.getD 0 ([],[])).1.length
  ·rw[if_pos g];exact fine_cut _ _ _ _
  ·rw[if_neg g];exact fine_no (by decide)
 rw[if_neg h];clear h;by_cases h:nd.op=16
 ·rw[if_pos h];by_cases g:nd.a.length=2*(L.getD 0 ([],[])).1.length
  ·rw[if_pos g];exact fine_pad _ _ _ _ _
  ·rw[if_neg g];exact fine_no (by decide)
 rw[if_neg h];clear h;by_cases h:nd.op=17
 ·rw[if_pos h];by_cases g:nd.a.length=1
  ·rw[if_pos g];exact fine_join _ _
  ·rw[if_neg g];exact fine_no (by decide)
 rw[if_neg h];clear h;by_cases h:nd.op=18
 ·rw[if_pos h];exact fine_fold _ _ _ _
 rw[if_neg h];clear h;by_cases h:nd.op=19
 ·rw[if_pos h];by_cases g:nd.a.length=1
  ·rw[if_pos g];exact fine_dot _ _ _ _ _
  ·rw[if_neg g];exact fine_no (by decide)
 rw[if_neg h];clear h;by_cases h:nd.op=20
 ·rw[if_pos h];by_cases g:nd.a.length=3
  ·rw[if_pos g];exact fine_win _ _ _ _ _ _
  ·rw[if_neg g];exact fine_no (by decide)
 rw[if_neg h];clear h;exact fine_two _ _ _ _ _
theorem shape_right {nd:NodeV} {L:List (List Int)} (h:(shapeR nd L).1=0):Sh.right (shapeR nd L).2=true:=by
 unfold shapeR at h ⊢
 split
 ·rename_i h1;rw[if_pos h1] at h
  split
  ·rename_i h2;rw[if_pos h2] at h
   split
   ·rename_i h3;rw[if_pos h3] at h
    split
    ·rename_i h4;exact h4
    ·rename_i h4;rw[if_neg h4] at h;cases h
   ·rename_i h3;rw[if_neg h3] at h
    split
    ·rename_i h4;exact fine_work _ _ h4
    ·rename_i h4;rw[if_neg h4] at h;exact absurd h h4
  ·rename_i h2;rw[if_neg h2] at h;cases h
 ·rename_i h1;rw[if_neg h1] at h;cases h
theorem infoNode:(Tryz.prog.info? 34).map (fun i=>(i.zero,i.size,i.bytes))=some (some (.agg #[.int .i64 0,.slice none 0 0,.slice none 0 0,.slice none 0 0,.int .i64 0,.int .i64 0,.string ⟨#[]⟩]),7,112):=by kernel_rfl
theorem infoNode_parts:∃ i,Tryz.prog.info? 34=some i∧i.zero=some (.agg #[.int .i64 0,.slice none 0 0,.slice none 0 0,.slice none 0 0,.int .i64 0,.int .i64 0,.string ⟨#[]⟩])∧i.size=7∧i.bytes=112:=by
 have h:=infoNode
 cases e:Tryz.prog.info? 34 with
 | none=>rw[e] at h;cases h
 | some i =>
  rw[e] at h;simp only[Option.map_some,Option.some.injEq,Prod.mk.injEq] at h;exact⟨i,rfl,h.1,h.2.1,h.2.2⟩
theorem wpList_append_nod {w0 w:World} {ops:Array Oper} {rest:List Oper} {o:Oper} {a:Act} {Q:Exit→Act→World→Prop} (hgd:o.guard=none) (s y:Operand) (t:TypeId)
  (ho:o.op=.call { callee:=.builtin .append,args:=#[s,y],argTypes:=#[t,t] }) (ht:Tryz.prog.underlying t=some (.slice 34))
  {l:List Chunk} (H:Sep w0 w l) (i:Nat) {v:Value} {n:Nat} {us:List Value} (hi:l[i]? = some (.row 34 7 v n us)) (hs:a.eval s=v) {v0 v1 v2 v3 v4 v5 v6:Value} (c:Nat) (hy:a.eval y=.slice (some ⟨w.heap.size,0,none⟩) 1 c)
  (h1:v0.oneCell' = true) (h2:v1.oneCell' = true) (h3:v2.oneCell' = true) (h4:v3.oneCell' = true) (h5:v4.oneCell' = true) (h6:v5.oneCell' = true) (h7:v6.oneCell' = true)
  (hn:n≤1000)
  (h:∀ v' w', Sep w0 w' (l.set i (.row 34 7 v' (n+1) (us++[v0,v1,v2,v3,v4,v5,v6])))→wpList Tryz.prog ops Q rest (a.put o.dst v') w') :
  wpList Tryz.prog ops Q (o::rest) a (w.alloc (.cells #[v0,v1,v2,v3,v4,v5,v6] 34)):=by
 obtain⟨ti,g1,g2,g3,g4⟩:=infoNode_parts;have H' := H.below ((Below.refl w.heap.size w).alloc (Nat.le_refl _) (.cells #[v0,v1,v2,v3,v4,v5,v6] 34));have hsz:=H'.size;refine wpList_append_own_at _ hgd s y t ho w0.heap.size 34 ti _ 7 112 ht g1 g2 g3 g4 (by rfl) (by omega) v n us hs (H'.at_ i hi) ⟨w.heap.size,0,none⟩ 1 c [v0,v1,v2,v3,v4,v5,v6] hy rfl ?_ (by simp[h1,h2,h3,h4,h5,h6,h7]) (by unfold maxLen;omega) (by omega) hsz ?_
 ·intro j u hj;have hb:=heap_alloc_new w (.cells #[v0,v1,v2,v3,v4,v5,v6] 34)
  match j,hj with
  | 0,hj=>simp at hj;subst hj;exact cell_of_row _ _ 0 _ _ _ hb
  | 1,hj=>simp at hj;subst hj;exact cell_of_row _ _ 1 _ _ _ hb
  | 2,hj=>simp at hj;subst hj;exact cell_of_row _ _ 2 _ _ _ hb
  | 3,hj=>simp at hj;subst hj;exact cell_of_row _ _ 3 _ _ _ hb
  | 4,hj=>simp at hj;subst hj;exact cell_of_row _ _ 4 _ _ _ hb
  | 5,hj=>simp at hj;subst hj;exact cell_of_row _ _ 5 _ _ _ hb
  | 6,hj=>simp at hj;subst hj;exact cell_of_row _ _ 6 _ _ _ hb
  | j+7,hj=>simp at hj
 ·intro v' w' h5 h6 _ h8
  exact h v' w' (H'.change i hi h6 h5 fun b hb=>by
   have hb:v'.ownBlock=some b:=hb;rcases h8 with e|e
   ·exact .inl (e.symm.trans hb)
   ·rw[e] at hb;injection hb with hb;subst hb;exact .inr (Nat.le_refl _))
structure InPool (us:List Value) (j:Nat) (nd:NodeV) (pool:List Chunk) (A:Option Addr) (na ca:Nat) (B:Option Addr) (nb cb:Nat) (C:Option Addr) (nc cc p q r:Nat):Prop where
 u0:us[j*7]? = some (.int .i64 nd.op)
 u1:us[j*7+1]? = some (.slice A na ca)
 u2:us[j*7+2]? = some (.slice B nb cb)
 u3:us[j*7+3]? = some (.slice C nc cc)
 u4:us[j*7+4]? = some (.int .i64 nd.n)
 u5:us[j*7+5]? = some (.int .i64 nd.how)
 u6:us[j*7+6]? = some (.string nd.note)
 pA:pool[p]? = some (Chunk.own 3 (.slice A na ca) na nd.ins)
 pB:pool[q]? = some (Chunk.own 3 (.slice B nb cb) nb nd.shape)
 pC:pool[r]? = some (Chunk.own 3 (.slice C nc cc) nc nd.a)
 op:Fits nd.op
 n:Fits nd.n
 how:Fits nd.how
 note:nd.note.size≤17592186044000
def PoolN (us:List Value) (L:List NodeV) (pool:List Chunk):Prop:=us.length=L.length*7∧∀(j:Nat) (nd:NodeV),L[j]? = some nd→∃ A na ca B nb cb C nc cc p q r,InPool us j nd pool A na ca B nb cb C nc cc p q r
theorem poolN_nil {pool:List Chunk}:PoolN [] [] pool:=⟨rfl,fun j t h=>by simp at h⟩
theorem PoolN.shift {us:List Value} {L:List NodeV} {pool:List Chunk} {c:Chunk} (h:PoolN us L pool):PoolN us L (c::pool) :=
 ⟨h.1,fun j s hs=>by
  obtain⟨A,na,ca,B,nb,cb,C,nc,cc,p,q,r,h⟩:=h.2 j s hs
  exact⟨A,na,ca,B,nb,cb,C,nc,cc,p+1,q+1,r+1,h.u0,h.u1,h.u2,h.u3,h.u4,h.u5,h.u6,h.pA,h.pB,h.pC,h.op,h.n,h.how,h.note⟩⟩
theorem PoolN.snoc {us:List Value} {L:List NodeV} {pool:List Chunk} {nd:NodeV} {A:Option Addr} {na ca:Nat} {B:Option Addr} {nb cb:Nat} {C:Option Addr} {nc cc p q r:Nat} (h:PoolN us L pool)
  (pA:pool[p]? = some (Chunk.own 3 (.slice A na ca) na nd.ins)) (pB:pool[q]? = some (Chunk.own 3 (.slice B nb cb) nb nd.shape)) (pC:pool[r]? = some (Chunk.own 3 (.slice C nc cc) nc nd.a)) (h1:Fits nd.op) (h2:Fits nd.n) (h3:Fits nd.how) (h4:nd.note.size≤17592186044000) :
  PoolN (us++[.int .i64 nd.op,.slice A na ca,.slice B nb cb,.slice C nc cc,.int .i64 nd.n,.int .i64 nd.how,.string nd.note]) (L++[nd]) pool:=by
 obtain⟨hl,h⟩:=h;refine⟨by simp[hl];omega,fun j u hu=>?_⟩;rcases Nat.lt_or_ge j L.length with hj|hj
 ·rw[List.getElem?_append_left hj] at hu;obtain⟨A', na', ca', B', nb', cb', C', nc', cc', p', q', r', g⟩:=h j u hu
  have ea:∀(k:Nat) (x:Value),us[k]? = some x→(us++[.int .i64 nd.op,.slice A na ca,.slice B nb cb,.slice C nc cc,.int .i64 nd.n,.int .i64 nd.how,.string nd.note])[k]? = some x:=fun k x hk=>by
   rw[List.getElem?_append_left (List.getElem?_eq_some_iff.1 hk).1];exact hk
  exact⟨A', na', ca', B', nb', cb', C', nc', cc', p', q', r', ea _ _ g.u0,ea _ _ g.u1,ea _ _ g.u2,ea _ _ g.u3,ea _ _ g.u4,ea _ _ g.u5,ea _ _ g.u6,g.pA,g.pB,g.pC,g.op,g.n,g.how,g.note⟩
 ·rw[List.getElem?_append_right hj] at hu
  have hj' : j=L.length:=by
   rcases Nat.eq_or_lt_of_le hj with e|e
   ·exact e.symm
   ·obtain⟨m,hm⟩:∃ m,j-L.length=m+1:=⟨j-L.length-1,by omega⟩;rw[hm] at hu;simp at hu
  subst hj';simp at hu;subst hu
  have ea:∀(k:Nat),(us++[.int .i64 nd.op,.slice A na ca,.slice B nb cb,.slice C nc cc,.int .i64 nd.n,.int .i64 nd.how,.string nd.note])[L.length*7+k]? = [Value.int .i64 nd.op,.slice A na ca,.slice B nb cb,.slice C nc cc,.int .i64 nd.n,.int .i64 nd.how,.string nd.note][k]? := fun k=>by
   rw[List.getElem?_append_right (by omega),hl,show L.length*7+k-L.length*7=k by omega]
  exact⟨A,na,ca,B,nb,cb,C,nc,cc,p,q,r,ea 0,ea 1,ea 2,ea 3,ea 4,ea 5,ea 6,pA,pB,pC,h1,h2,h3,h4⟩
theorem pool_nods {w0 w:World} {l:List Chunk} {v:Value} {n:Nat} {us:List Value} {L:List NodeV} {pool:List Chunk} (i:Nat) (h:Sep w0 w l) (hi:l[i]? = some (.row 34 7 v n us)) (hP:PoolN us L pool) (hn:L.length=n) (hn2:n≤900) (f:Nat) (hf:∀ i,l[i+f]? = pool[i]?) :
  ∃ A c,v=.slice A n c∧n≤c∧Nods w A n L:=by
 have hr:w.ownsRow w0.heap.size 34 7 v n us:=h.at_ i hi;rcases Nat.eq_zero_or_pos n with e|e
 ·subst e;have hT:∀ A,Nods w A 0 L:=fun A=>⟨hn,by omega,fun j t ht=>by rw[List.eq_nil_of_length_eq_zero hn] at ht;simp at ht⟩
  rcases hr.2 with ⟨hv,_⟩|⟨g,cap,cur,hv,_⟩
  ·exact⟨none,0,hv,Nat.le_refl _,hT _⟩
  ·exact⟨_,cap,hv,Nat.zero_le _,hT _⟩
 ·obtain⟨g,c,rfl,hc⟩:=h.rowForm i hi e;refine⟨_,c,rfl,hc,hn,hn2,fun j s hs=>?_⟩;have hj:j<L.length:=(List.getElem?_eq_some_iff.1 hs).1;obtain⟨A,na,ca,B,nb,cb,C,nc,cc,p,q,r,g1⟩:=hP.2 j s hs;have hlt:=(World.ownsRow.lt hr g rfl).2;have hA:=h.ownInts (p+f) ((hf p).trans g1.pA);have hB:=h.ownInts (q+f) ((hf q).trans g1.pB);have hC:=h.ownInts (r+f) ((hf r).trans g1.pC);have hc0:∀ k:Nat,k<7→w.cell? ⟨g,j*7+k,none⟩=us[j*7+k]? := fun k hk=>hr.cellAt (j*7+k) (by omega)
  refine⟨⟨g,0,none⟩,A,na,ca,B,nb,cb,C,nc,cc,rfl,hlt,?_,?_,?_,?_,?_,?_,?_,⟨hA.2.1,hB.2.1,hC.2.1,hA.2.2,hB.2.2,hC.2.2,g1.op,g1.n,g1.how,g1.note⟩⟩
  ·rw[addrL0];exact(hc0 0 (by omega)).trans g1.u0
  ·rw[addrL0];exact(hc0 1 (by omega)).trans g1.u1
  ·rw[addrL0];exact(hc0 2 (by omega)).trans g1.u2
  ·rw[addrL0];exact(hc0 3 (by omega)).trans g1.u3
  ·rw[addrL0];exact(hc0 4 (by omega)).trans g1.u4
  ·rw[addrL0];exact(hc0 5 (by omega)).trans g1.u5
  ·rw[addrL0];exact(hc0 6 (by omega)).trans g1.u6
theorem lilsK_pool {w0 w:World} {l:List Chunk} {i g:Nat} {A:Option Addr} {n c:Nat} {v:Value} {m:Nat} {us:List Value} {L:List (List Int)} {pool:List Chunk} (k f:Nat) (h:Sep w0 w l) (hk:l[k]? = some (.row 22 1 v m us)) (hki:i≠k) (hP:PoolL us L pool) (hn:L.length=m) (hn2:m≤900) (hf:∀ j,l[j+f]? = pool[j]?) (hif:i<f) :
  ∃ Al cl,v=.slice Al m cl∧m≤cl∧LilsK w0 l i g A n c Al m L:=by
 have hr:w.ownsRow w0.heap.size 22 1 v m us:=h.at_ k hk;rcases Nat.eq_zero_or_pos m with e|e
 ·subst e;have hT:∀ Al,LilsK w0 l i g A n c Al 0 L:=fun Al=>⟨hn,by omega,fun j t ht=>by rw[List.eq_nil_of_length_eq_zero hn] at ht;simp at ht⟩
  rcases hr.2 with ⟨hv,_⟩|⟨g,cap,cur,hv,_⟩
  ·exact⟨none,0,hv,Nat.le_refl _,hT _⟩
  ·exact⟨_,cap,hv,Nat.zero_le _,hT _⟩
 ·obtain⟨gr,cr,rfl,hc⟩:=h.rowForm k hk e;refine⟨_,cr,rfl,hc,hn,hn2,fun j s hs=>?_⟩;have hj:j<L.length:=(List.getElem?_eq_some_iff.1 hs).1;obtain⟨S,sn,sc,p,h1,h2⟩:=hP.2 j s hs;have hsc:=(h.ownInts (p+f) ((hf p).trans h2)).2.1;refine⟨⟨gr,0,none⟩,S,sn,sc,rfl,hsc,fun w1 a1 l1 hK H1=>?_⟩;have e1:=hK.eq;subst e1;have hk1:(l.set i (TB g A n c a1))[k]? = some (.row 22 1 (.slice (some ⟨gr,0,none⟩) m cr) m us):=by rw[List.getElem?_set_ne hki];exact hk
  have hr1:w1.ownsRow w0.heap.size 22 1 (.slice (some ⟨gr,0,none⟩) m cr) m us:=H1.at_ k hk1;have hp1:(l.set i (TB g A n c a1))[p+f]? = some (Chunk.own 3 (.slice S sn sc) sn s):=by rw[List.getElem?_set_ne (by omega)];exact(hf p).trans h2
  refine⟨(World.ownsRow.lt hr1 gr rfl).2,?_,(H1.ownInts (p+f) hp1).2.2⟩;rw[addrL0,hr1.cellAt j (by omega),h1]
def findI:List Int→Int→Nat→Int
 | [],_,_ => -1
 | x::l,r,k=>if x=r then k else findI l r (k+1)
def findF (l:List Int) (r:Int):Int:=findI l r 0
theorem findI_none {r:Int}:∀ {l:List Int} {k:Nat},r∉l→findI l r k = -1
 | [],_,_=>rfl
 | x::l,k,h=>by
  rw[findI,if_neg (fun e=>h (by simp[e])),findI_none (fun hm=>h (List.mem_cons_of_mem _ hm))]
theorem findF_none {l:List Int} {r:Int} (h:r∉l):findF l r = -1:=findI_none h
theorem findI_at {r:Int}:∀ {l:List Int} {k j:Nat},l[j]? = some r→r∉l.take j→findI l r k=((k+j:Nat):Int)
 | [],_,_,h,_=>by simp at h
 | x::l,k,0,h,_=>by simp at h;subst h;rw[findI,if_pos rfl];rfl
 | x::l,k,j+1,h,hn=>by
  rw[List.take_succ_cons] at hn;rw[findI,if_neg (fun e=>hn (by simp[e])),findI_at (j:=j) (by simpa using h) (fun hm=>hn (List.mem_cons_of_mem _ hm))]
  congr 1;omega
theorem findF_at {l:List Int} {r:Int} {j:Nat} (h:l[j]? = some r) (hn:r∉l.take j):findF l r=(j:Int):=by
 have:=findI_at (k:=0) h hn;rwa [Nat.zero_add] at this
theorem findF_bd (l:List Int) (r:Int) : -1≤findF l r∧findF l r<l.length:=by
 have:∀(l:List Int) (k:Nat),-1≤findI l r k∧findI l r k<((k+l.length:Nat):Int):=by
  intro l
  induction l with
  | nil=>intro k;rw[findI];exact⟨by omega,by omega⟩
  | cons x l ih =>
   intro k;rw[findI];have:=ih (k+1);rw[List.length_cons]
   split <;> omega
 have:=this l 0;rw[Nat.zero_add] at this;exact this
def badR (x:Int):Prop:=x<33∨x=65533∨x=46∨x=45∨x=40∨x=41
def RightAt (l:List Int) (i:Nat):Prop:=∀ x,l[i]? = some x→¬ badR x∧findF l x=i
def RightN (l:List Int) (n:Int):Prop:=0≤n∧n≤3∧(l.length:Int)=n∧∀ i,RightAt l i
open Classical in
noncomputable def rightB (l:List Int) (n:Int):Bool:=decide (RightN l n)
open Classical in
theorem rightB_yes {l:List Int} {n:Int} (h:RightN l n):rightB l n=true:=decide_eq_true h
open Classical in
theorem rightB_no {l:List Int} {n:Int} (h:¬ RightN l n):rightB l n=false:=decide_eq_false h
def noteStep (nm out:List Int) (r:Int):Option (List Int) :=
 if r=32 then some out else if r=46 then some (out++[-1]) else if findF nm r<0 then none else if findF nm r∈out then none else some (out++[findF nm r])
def noteL (nm:List Int):List Int→List Int→Option (List Int)
 | out,[]=>some out
 | out,r::l=>(noteStep nm out r).bind fun o=>noteL nm o l
def noteR (nm l:List Int) (rank:Int):List Int × Bool × Int :=
 if 16<l.length then([],false,14) else
  match noteL nm [] l with
  | none=>([],false,14)
  | some out=>if out=[] then([],false,0) else if (out.length:Int)=rank then(out,true,0) else([],false,14)
theorem noteR_long {nm l:List Int} {rank:Int} (h:16<l.length):noteR nm l rank=([],false,14):=by rw[noteR,if_pos h]
theorem noteR_bad {nm l:List Int} {rank:Int} (h:l.length≤16) (g:noteL nm [] l=none):noteR nm l rank=([],false,14):=by rw[noteR,if_neg (by omega),g]
theorem noteR_blank {nm l:List Int} {rank:Int} (h:l.length≤16) (g:noteL nm [] l=some []):noteR nm l rank=([],false,0):=by rw[noteR,if_neg (by omega),g];rfl
theorem noteR_rank {nm l out:List Int} {rank:Int} (h:l.length≤16) (g:noteL nm [] l=some out) (hne:out≠[]) (hr:(out.length:Int)≠rank):noteR nm l rank=([],false,14):=by
 rw[noteR,if_neg (by omega),g]
 show(if out=[] then _ else _)=_
 rw[if_neg hne,if_neg hr]
theorem noteR_ok {nm l out:List Int} {rank:Int} (h:l.length≤16) (g:noteL nm [] l=some out) (hne:out≠[]) (hr:(out.length:Int)=rank):noteR nm l rank=(out,true,0):=by
 rw[noteR,if_neg (by omega),g]
 show(if out=[] then _ else _)=_
 rw[if_neg hne,if_pos hr]
theorem noteL_blank {nm l out:List Int} {k:Nat} (h:l[k]? = some 32):noteL nm out (l.drop k)=noteL nm out (l.drop (k+1)):=by rw[drop_at9 h,noteL,noteStep,if_pos rfl];rfl
theorem noteL_point {nm l out:List Int} {k:Nat} (h:l[k]? = some 46):noteL nm out (l.drop k)=noteL nm (out++[-1]) (l.drop (k+1)):=by rw[drop_at9 h,noteL,noteStep,if_neg (by decide),if_pos rfl];rfl
theorem noteL_none {nm l out:List Int} {k:Nat} {r:Int} (h:l[k]? = some r) (h1:r≠32) (h2:r≠46) (h3:findF nm r<0):noteL nm out (l.drop k)=none:=by rw[drop_at9 h,noteL,noteStep,if_neg h1,if_neg h2,if_pos h3];rfl
theorem noteL_twice {nm l out:List Int} {k:Nat} {r:Int} (h:l[k]? = some r) (h1:r≠32) (h2:r≠46) (h3:¬ findF nm r<0) (h4:findF nm r∈out):noteL nm out (l.drop k)=none:=by rw[drop_at9 h,noteL,noteStep,if_neg h1,if_neg h2,if_neg h3,if_pos h4];rfl
theorem noteL_name {nm l out:List Int} {k:Nat} {r:Int} (h:l[k]? = some r) (h1:r≠32) (h2:r≠46) (h3:¬ findF nm r<0) (h4:findF nm r∉out):noteL nm out (l.drop k)=noteL nm (out++[findF nm r]) (l.drop (k+1)):=by rw[drop_at9 h,noteL,noteStep,if_neg h1,if_neg h2,if_neg h3,if_neg h4];rfl
theorem noteL_end {nm l out:List Int} {k:Nat} (h:l.length≤k):noteL nm out (l.drop k)=some out:=by rw[List.drop_eq_nil_of_le h];rfl
end Go.Proofs.YtnnmplkgenhofaaGreat
