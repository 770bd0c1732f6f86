import Derived.Test.YtdcmanhgekjhgaaDoorPak
set_option maxRecDepth 100000
set_option maxHeartbeats 12800000
namespace Go.Proofs.YtdcmanhgekjhgaaDoor
open Go.RowKit Go.Proofs.Tryd
variable {A B C:Option Addr} {K c ca cb cc g i k n na nb nc:Nat} {L N:List a0j} {e:TypeId} {l pool:List a0e} {nd:a0j} {us vs:List Value} {v v0 v1 v2 v3 v4 v5 v6:Value} {w w' w0:World}
def opT1:ByteArray:=⟨#[40]⟩
def shT1:ByteArray:=⟨#[41]⟩
noncomputable def a1y:List ByteArray→Bool→List Int × List ByteArray × Bool
 | [],b=>([],[],b)
 | x::L,true=>([],x::L,true)
 | x::L,false=>((a0k x).1::(a1y L (!(a0k x).2)).1,(a1y L (!(a0k x).2)).2)
noncomputable def a1v:List ByteArray→List Int × List ByteArray × Bool
 | []=>([0],[],true)
 | x::M=>if x=shT1 then([],M,false) else if (a0k x).2=true then((a0k x).1::(a1v M).1,(a1v M).2) else([(a0k x).1],M,true)
noncomputable def a1a (L:List ByteArray) (b:Bool):List Int × List ByteArray × Bool :=
 if L.headD ⟨#[]⟩≠opT1∨(b||L.isEmpty)=true then([],L.drop 1,true) else a1v (L.drop 1)
noncomputable def a1b (s:ByteArray):a0j × Bool :=
 let W:=a0g s
 let f1:=a1a (W.drop 1) W.isEmpty
 let f2:=a1a f1.2.1 f1.2.2
 let f3:=a1a f2.2.1 f2.2.2
 let v1:=a0k (f3.2.1.headD ⟨#[]⟩)
 let q1:=(f3.2.2||f3.2.1.isEmpty) || !v1.2
 let L5:=f3.2.1.drop 1
 let v2:=a0k (L5.headD ⟨#[]⟩)
 let q2:=(q1||L5.isEmpty) || !v2.2
 let L6:=L5.drop 1
 let note:=L6.headD ⟨#[]⟩
 let q3:=(q2||L6.isEmpty)||decide (note=⟨#[]⟩)
 (⟨opF (W.headD ⟨#[]⟩),f1.1,f2.1,f3.1,v1.1,v2.1,if note=a2g then⟨#[]⟩ else note⟩,decide (0<opF (W.headD ⟨#[]⟩)) && !q3&&(L6.drop 1).isEmpty)
def a4n:ByteArray:=⟨#[109,101,115,104]⟩
noncomputable def a2a (s:ByteArray):ByteArray × List Int × Bool :=
 let W:=a0g s
 let W1:=W.drop 1
 let nm:=W1.headD ⟨#[]⟩
 let R:=a1y (W1.drop 1) (W.isEmpty||W1.isEmpty)
 let ok:=decide (W.headD ⟨#[]⟩=a4n) && !decide (nm=⟨#[]⟩)
 (if nm=a2g then⟨#[]⟩ else nm,R.1,(ok&&(!decide (nm=a2g)||decide (R.1.length=0))) && !R.2.2)
noncomputable def a0z:List ByteArray→List a0j × Bool
 | []=>([],true)
 | s::L=>if (a1b s).2=true then((a1b s).1::(a0z L).1,(a0z L).2) else([],false)
noncomputable def a3u (s:ByteArray):List Int × Bool :=
 let W:=a0g s
 let R:=a1y (W.drop 1) W.isEmpty
 (R.1,decide (W.headD ⟨#[]⟩=a5j) && !R.2.2)
def gZ:a0w:=⟨[],⟨#[]⟩,[],[]⟩
noncomputable def a2n (s:ByteArray):a0w × Int :=
 if 65536<s.size then(gZ,3)
 else if (a0s s).2=false∨(a0s s).1.length<2 then(gZ,12)
 else if (a2a ((a0s s).1.headD ⟨#[]⟩)).2.2=false∨(a0z ((a0s s).1.drop 1).dropLast).2=false∨(a3u ((a0s s).1.getLastD ⟨#[]⟩)).2=false then(gZ,12)
 else if (a0c ⟨(a2a ((a0s s).1.headD ⟨#[]⟩)).2.1,(a2a ((a0s s).1.headD ⟨#[]⟩)).1,(a0z ((a0s s).1.drop 1).dropLast).1,(a3u ((a0s s).1.getLastD ⟨#[]⟩)).1⟩).1≠0 then
  (gZ,(a0c ⟨(a2a ((a0s s).1.headD ⟨#[]⟩)).2.1,(a2a ((a0s s).1.headD ⟨#[]⟩)).1,(a0z ((a0s s).1.drop 1).dropLast).1,(a3u ((a0s s).1.getLastD ⟨#[]⟩)).1⟩).1)
 else if (a3g ⟨(a2a ((a0s s).1.headD ⟨#[]⟩)).2.1,(a2a ((a0s s).1.headD ⟨#[]⟩)).1,(a0z ((a0s s).1.drop 1).dropLast).1,(a3u ((a0s s).1.getLastD ⟨#[]⟩)).1⟩).1≠s then(gZ,12)
 else(⟨(a2a ((a0s s).1.headD ⟨#[]⟩)).2.1,(a2a ((a0s s).1.headD ⟨#[]⟩)).1,(a0z ((a0s s).1.drop 1).dropLast).1,(a3u ((a0s s).1.getLastD ⟨#[]⟩)).1⟩,0)
theorem addZ (a:Addr):a.add 0=a:=by cases a;rfl
def Strs (w:World) (K:Nat) (A:Option Addr) (n:Nat) (L:List ByteArray):Prop :=
 L.length=n∧n≤90001∧(∀ x∈L,x.size≤90000)∧∀ j x,L[j]?=some x→∃ a,A=some a∧a.block<w.heap.size∧w.cell? (a.add j)=some (.string x)∧a.block=K
theorem Strs.below {L:List ByteArray}(h:Strs w K A n L)(hb:Below w.heap.size w w'):Strs w' K A n L :=
 ⟨h.1,h.2.1,h.2.2.1,fun j x hx=>by
  obtain⟨a,e,hl,h0,hk⟩:=h.2.2.2 j x hx
  exact⟨a,e,by have:=hb.size;omega,(hb.cell (by rw[a0l];exact hl)).trans h0,hk⟩⟩
theorem b7p (w:World)(K:Nat)(A:Option Addr):Strs w K A 0 []:=⟨rfl,by omega,by simp,fun j x h=>by simp at h⟩
def RdTo (w0:World) (K:Nat) (l:List a0e) (i g:Nat) (L:List ByteArray) (b:Bool) (w' : World):Prop :=
 ∃ A n c,Sep w0 w' (l.set i (.box g 99999 [.slice A n c,.bool b]))∧Strs w0 K A n L∧n≤c
theorem RdTo.set {L:List ByteArray}{b:Bool}(h:RdTo w0 K l i g L b w)(hi:i<l.length):
  ∃ A n c,Sep w0 w (l.set i (.box g 99999 [.slice A n c,.bool b]))∧(l.set i (.box g 99999 [.slice A n c,.bool b]))[i]?=some (.box g 99999 [.slice A n c,.bool b])∧Strs w0 K A n L∧n≤c:=by
 obtain⟨A,n,c,h1,h2,h3⟩:=h;exact⟨A,n,c,h1,List.getElem?_set_self hi,h2,h3⟩
theorem c2k {α : Type}{l:List α}{x : α}(h:l[i]?=some x):l.set i x=l:=by
 apply List.ext_getElem?;intro j;rw[List.getElem?_set]
 split
 ·rename_i e;subst e;rw[iP (lL h),h]
 ·rfl
theorem eqL {x:ByteArray}{l:List UInt8}:x.toList=l↔x=ofL l:=by
 rw[ByteArray.toList_eq];exact⟨fun h=>c0b h,fun h=>by rw[h];rfl⟩
theorem a7t:a0k ⟨#[]⟩=(0,false):=a2j (fun ⟨n,hn,e⟩=>by
 have h:=b7h n hn;rw[e] at h;have:(⟨#[]⟩:ByteArray).size=0:=rfl
 omega)
theorem Tryd.sizeNode:(prog.info? 47).map (·.size)=some 7:=by kernel_rfl
section
variable {w0 w : World} {P l l0 : List a0e} {i g : Nat} {A : Option Addr} {n c a : Nat} {xs : List Int}
end
theorem c4g:(prog.info? 47).map (fun i=>(i.zero,i.size,i.bytes))=some (some (.agg zA),7,112):=by kernel_rfl
theorem b1a:∃ i,prog.info? 47=some i∧i.zero=some (.agg zA)∧i.size=7∧i.bytes=112:=by
 have h:=c4g
 cases e:prog.info? 47 with
 | none=>rw[e] at h;cases h
 | some i =>
  rw[e] at h;simp only[Option.map_some,Option.some.injEq,Prod.mk.injEq] at h;exact⟨i,rfl,h.1,h.2.1,h.2.2⟩
theorem a7v {ops:Array Oper}{rest:List Oper}{o:Oper}{a:Act}{Q:Exit→Act→World→Prop}(hgd:o.guard=none)(s y:Operand)(t:TypeId)
  (ho:o.op=.call { callee:=.builtin .append,args:=#[s,y],argTypes:=#[t,t] })(ht:prog.underlying t=some (.slice 47))
  (H:Sep w0 w l)(i:Nat)(hi:l[i]?=some (.row 47 7 v n us))(hs:a.eval s=v)(c:Nat)(hy:a.eval y=.slice (some ⟨w.heap.size,0,none⟩) 1 c)
  (h1:v0.oneCell'=true)(h2:v1.oneCell'=true)(h3:v2.oneCell'=true)(h4:v3.oneCell'=true)(h5:v4.oneCell'=true)(h6:v5.oneCell'=true)(h7:v6.oneCell'=true)
  (hn:n≤100000)
  (h:∀ v' w', Sep w0 w' (l.set i (.row 47 7 v' (n+1) (us++[v0,v1,v2,v3,v4,v5,v6])))→wpList prog ops Q rest (a.put o.dst v') w'):
  wpList prog ops Q (o::rest) a (w.alloc (.cells #[v0,v1,v2,v3,v4,v5,v6] 47)):=by
 obtain⟨ti,g1,g2,g3,g4⟩:=b1a;have H':=H.below ((Below.refl w.heap.size w).alloc (Nat.le_refl _) (.cells #[v0,v1,v2,v3,v4,v5,v6] 47));have hsz:=H'.size;refine wpList_append_own_at _ hgd s y t ho w0.heap.size 47 ti _ 7 112 ht g1 g2 g3 g4 (by rfl) (by omega) v n us hs (H'.at_ i hi) ⟨w.heap.size,0,none⟩ 1 c [v0,v1,v2,v3,v4,v5,v6] hy rfl ?_ (by simp[h1,h2,h3,h4,h5,h6,h7]) (by unfold maxLen;omega) (by omega) hsz ?_
 ·intro j u hj;have hb:=heap_alloc_new w (.cells #[v0,v1,v2,v3,v4,v5,v6] 47)
  match j,hj with
  | 0,hj=>simp at hj;subst hj;exact cell_of_row _ _ 0 _ _ _ hb
  | 1,hj=>simp at hj;subst hj;exact cell_of_row _ _ 1 _ _ _ hb
  | 2,hj=>simp at hj;subst hj;exact cell_of_row _ _ 2 _ _ _ hb
  | 3,hj=>simp at hj;subst hj;exact cell_of_row _ _ 3 _ _ _ hb
  | 4,hj=>simp at hj;subst hj;exact cell_of_row _ _ 4 _ _ _ hb
  | 5,hj=>simp at hj;subst hj;exact cell_of_row _ _ 5 _ _ _ hb
  | 6,hj=>simp at hj;subst hj;exact cell_of_row _ _ 6 _ _ _ hb
  | j+7,hj=>simp at hj
 ·intro v' w' h5 h6 _ h8
  exact h v' w' (H'.change i hi h6 h5 fun b hb=>by
   have hb:v'.ownBlock=some b:=hb;rcases h8 with e|e
   ·exact .inl (e.symm.trans hb)
   ·rw[e] at hb;injection hb with hb;subst hb;exact .inr (Nat.le_refl _))
structure c8b (us:List Value) (j:Nat) (nd:a0j) (pool:List a0e) (A:Option Addr) (na ca:Nat) (B:Option Addr) (nb cb:Nat) (C:Option Addr) (nc cc p q r:Nat):Prop where
 u0:us[j*7]?=some (.int .i64 nd.op)
 u1:us[j*7+1]?=some (.slice A na ca)
 u2:us[j*7+2]?=some (.slice B nb cb)
 u3:us[j*7+3]?=some (.slice C nc cc)
 u4:us[j*7+4]?=some (.int .i64 nd.n)
 u5:us[j*7+5]?=some (.int .i64 nd.how)
 u6:us[j*7+6]?=some (.string nd.note)
 pA:pool[p]?=some (a0e.own 3 (.slice A na ca) na nd.ins)
 pB:pool[q]?=some (a0e.own 3 (.slice B nb cb) nb nd.shape)
 pC:pool[r]?=some (a0e.own 3 (.slice C nc cc) nc nd.a)
 op:Fits nd.op
 n:Fits nd.n
 how:Fits nd.how
 note:nd.note.size≤17592186044000
def b2a (us:List Value) (L:List a0j) (pool:List a0e):Prop:=us.length=L.length*7∧∀(j:Nat) (nd:a0j),L[j]?=some nd→∃ A na ca B nb cb C nc cc p q r,c8b us j nd pool A na ca B nb cb C nc cc p q r
theorem c2d:b2a [] [] pool:=⟨rfl,fun j t h=>by simp at h⟩
theorem b2a.shift {c:a0e}(h:b2a us L pool):b2a us L (c::pool) :=
 ⟨h.1,fun j s hs=>by
  obtain⟨A,na,ca,B,nb,cb,C,nc,cc,p,q,r,h⟩:=h.2 j s hs
  exact⟨A,na,ca,B,nb,cb,C,nc,cc,p+1,q+1,r+1,h.u0,h.u1,h.u2,h.u3,h.u4,h.u5,h.u6,h.pA,h.pB,h.pC,h.op,h.n,h.how,h.note⟩⟩
theorem b2a.snoc {p q r:Nat}(h:b2a us L pool)
  (pA:pool[p]?=some (a0e.own 3 (.slice A na ca) na nd.ins))(pB:pool[q]?=some (a0e.own 3 (.slice B nb cb) nb nd.shape))(pC:pool[r]?=some (a0e.own 3 (.slice C nc cc) nc nd.a))(h1:Fits nd.op)(h2:Fits nd.n)(h3:Fits nd.how)(h4:nd.note.size≤17592186044000):
  b2a (us++[.int .i64 nd.op,.slice A na ca,.slice B nb cb,.slice C nc cc,.int .i64 nd.n,.int .i64 nd.how,.string nd.note]) (L++[nd]) pool:=by
 obtain⟨hl,h⟩:=h;refine⟨by simp[hl];omega,fun j u hu=>?_⟩;rcases Nat.lt_or_ge j L.length with hj|hj
 ·rw[List.getElem?_append_left hj] at hu;obtain⟨A', na', ca', B', nb', cb', C', nc', cc', p', q', r', g⟩:=h j u hu
  have ea:∀(k:Nat) (x:Value),us[k]?=some x→(us++[.int .i64 nd.op,.slice A na ca,.slice B nb cb,.slice C nc cc,.int .i64 nd.n,.int .i64 nd.how,.string nd.note])[k]?=some x:=fun k x hk=>by
   rw[List.getElem?_append_left (lL hk)];exact hk
  exact⟨A', na', ca', B', nb', cb', C', nc', cc', p', q', r', ea _ _ g.u0,ea _ _ g.u1,ea _ _ g.u2,ea _ _ g.u3,ea _ _ g.u4,ea _ _ g.u5,ea _ _ g.u6,g.pA,g.pB,g.pC,g.op,g.n,g.how,g.note⟩
 ·rw[List.getElem?_append_right hj] at hu
  have hj' : j=L.length:=by
   rcases Nat.eq_or_lt_of_le hj with e|e
   ·exact e.symm
   ·obtain⟨m,hm⟩:∃ m,j-L.length=m+1:=⟨j-L.length-1,by omega⟩;rw[hm] at hu;simp at hu
  subst hj';simp at hu;subst hu
  have ea:∀(k:Nat),(us++[.int .i64 nd.op,.slice A na ca,.slice B nb cb,.slice C nc cc,.int .i64 nd.n,.int .i64 nd.how,.string nd.note])[L.length*7+k]?=[Value.int .i64 nd.op,.slice A na ca,.slice B nb cb,.slice C nc cc,.int .i64 nd.n,.int .i64 nd.how,.string nd.note][k]? := fun k=>by
   rw[List.getElem?_append_right (by omega),hl,show L.length*7+k-L.length*7=k by omega]
  exact⟨A,na,ca,B,nb,cb,C,nc,cc,p,q,r,ea 0,ea 1,ea 2,ea 3,ea 4,ea 5,ea 6,pA,pB,pC,h1,h2,h3,h4⟩
theorem b0g (i:Nat)(h:Sep w0 w l)(hi:l[i]?=some (.row 47 7 v n us))(hP:b2a us L pool)(hn:L.length=n)(hn2:n≤90000)(f:Nat)(hf:∀ i,l[i+f]?=pool[i]?):
  ∃ A c,v=.slice A n c∧n≤c∧Nods w A n L:=by
 have hr:w.ownsRow w0.heap.size 47 7 v n us:=h.at_ i hi;rcases Nat.eq_zero_or_pos n with e|e
 ·subst e;have hT:∀ A,Nods w A 0 L:=fun A=>⟨hn,by omega,fun j t ht=>by rw[List.eq_nil_of_length_eq_zero hn] at ht;simp at ht⟩
  rcases hr.2 with ⟨hv,_⟩|⟨g,cap,cur,hv,_⟩
  ·exact⟨none,0,hv,Nat.le_refl _,hT _⟩
  ·exact⟨_,cap,hv,Nat.zero_le _,hT _⟩
 ·obtain⟨g,c,rfl,hc⟩:=h.rowForm i hi e;refine⟨_,c,rfl,hc,hn,hn2,fun j s hs=>?_⟩;have hj:j<L.length:=(lL hs);obtain⟨A,na,ca,B,nb,cb,C,nc,cc,p,q,r,g1⟩:=hP.2 j s hs;have hlt:=(World.ownsRow.lt hr g rfl).2;have hA:=h.ownInts (p+f) ((hf p).trans g1.pA);have hB:=h.ownInts (q+f) ((hf q).trans g1.pB);have hC:=h.ownInts (r+f) ((hf r).trans g1.pC);have hc0:∀ k:Nat,k<7→w.cell? ⟨g,j*7+k,none⟩=us[j*7+k]? := fun k hk=>hr.cellAt (j*7+k) (by omega)
  refine⟨⟨g,0,none⟩,A,na,ca,B,nb,cb,C,nc,cc,rfl,hlt,?_,?_,?_,?_,?_,?_,?_,⟨hA.2.1,hB.2.1,hC.2.1,hA.2.2,hB.2.2,hC.2.2,g1.op,g1.n,g1.how,g1.note⟩⟩
  ·rw[a6a];exact(hc0 0 (by omega)).trans g1.u0
  ·rw[a6a];exact(hc0 1 (by omega)).trans g1.u1
  ·rw[a6a];exact(hc0 2 (by omega)).trans g1.u2
  ·rw[a6a];exact(hc0 3 (by omega)).trans g1.u3
  ·rw[a6a];exact(hc0 4 (by omega)).trans g1.u4
  ·rw[a6a];exact(hc0 5 (by omega)).trans g1.u5
  ·rw[a6a];exact(hc0 6 (by omega)).trans g1.u6
def NodK (w:World) (us:List Value) (N:List a0j):Prop :=
 us.length=N.length*7∧∀(j:Nat) (nd:a0j),N[j]?=some nd→∃ A na ca B nb cb C nc cc,(∀ i,i<7→us[j*7+i]?=(c1n nd A na ca B nb cb C nc cc)[i]?)∧b5b w nd A na ca B nb cb C nc cc
theorem NodK.below (h:NodK w us N)(hb:Below w.heap.size w w'):NodK w' us N :=
 ⟨h.1,fun j nd hj=>by
  obtain⟨A,na,ca,B,nb,cb,C,nc,cc,h1,h2⟩:=h.2 j nd hj
  exact⟨A,na,ca,B,nb,cb,C,nc,cc,h1,h2.below hb⟩⟩
theorem NodK.append {M:List a0j}(h:NodK w us N)(g:NodK w vs M):NodK w (us++vs) (N++M):=by
 refine⟨by rw[List.length_append,List.length_append,h.1,g.1];omega,fun j nd hj=>?_⟩;rcases Nat.lt_or_ge j N.length with hl|hl
 ·rw[List.getElem?_append_left hl] at hj;obtain⟨A,na,ca,B,nb,cb,C,nc,cc,h1,h2⟩:=h.2 j nd hj;refine⟨A,na,ca,B,nb,cb,C,nc,cc,fun i hi=>?_,h2⟩;rw[List.getElem?_append_left (by have:=h.1;omega)];exact h1 i hi
 ·rw[List.getElem?_append_right hl] at hj;obtain⟨A,na,ca,B,nb,cb,C,nc,cc,h1,h2⟩:=g.2 _ nd hj;refine⟨A,na,ca,B,nb,cb,C,nc,cc,fun i hi=>?_,h2⟩;have:=h.1;rw[List.getElem?_append_right (by omega),show j*7+i-us.length=(j-N.length)*7+i by omega];exact h1 i hi
def set7 (us:List Value) (k:Nat) (v0 v1 v2 v3 v4 v5 v6:Value):List Value :=
 ((((((us.set k v0).set (k+1) v1).set (k+2) v2).set (k+3) v3).set (k+4) v4).set (k+5) v5).set (k+6) v6
theorem b9g (h:i<k∨k+7≤i):(set7 us k v0 v1 v2 v3 v4 v5 v6)[i]?=us[i]? := by
 unfold set7
 repeat rw[List.getElem?_set_ne (by omega)]
theorem c7o (hk:k+7≤us.length)(hi:i<7):(set7 us k v0 v1 v2 v3 v4 v5 v6)[k+i]?=[v0,v1,v2,v3,v4,v5,v6][i]? := by
 unfold set7;have hc:i=0∨i=1∨i=2∨i=3∨i=4∨i=5∨i=6:=by omega
 rcases hc with rfl|rfl|rfl|rfl|rfl|rfl|rfl
 ·repeat rw[List.getElem?_set_ne (by omega)]
  rw[Nat.add_zero,List.getElem?_set_self (by omega)];rfl
 ·repeat rw[List.getElem?_set_ne (by omega)]
  rw[List.getElem?_set_self (by simp;omega)];rfl
 ·repeat rw[List.getElem?_set_ne (by omega)]
  rw[List.getElem?_set_self (by simp;omega)];rfl
 ·repeat rw[List.getElem?_set_ne (by omega)]
  rw[List.getElem?_set_self (by simp;omega)];rfl
 ·repeat rw[List.getElem?_set_ne (by omega)]
  rw[List.getElem?_set_self (by simp;omega)];rfl
 ·repeat rw[List.getElem?_set_ne (by omega)]
  rw[List.getElem?_set_self (by simp;omega)];rfl
 ·rw[List.getElem?_set_self (by simp;omega)];rfl
theorem NodK.set (h:NodK w us N)(hk:k<N.length)(g:b5b w nd A na ca B nb cb C nc cc):
  NodK w (set7 us (k*7) (.int .i64 nd.op) (.slice A na ca) (.slice B nb cb) (.slice C nc cc) (.int .i64 nd.n) (.int .i64 nd.how) (.string nd.note)) (N.set k nd):=by
 refine⟨by unfold set7;simp[h.1],fun j x hj=>?_⟩;by_cases e:j=k
 ·subst e;rw[List.getElem?_set_self hk] at hj;injection hj with hj;subst hj
  exact⟨A,na,ca,B,nb,cb,C,nc,cc,fun i hi=>c7o (by have:=h.1;omega) hi,g⟩
 ·rw[List.getElem?_set_ne (fun q=>e q.symm)] at hj;obtain⟨A', na', ca', B', nb', cb', C', nc', cc', h1,h2⟩:=h.2 j x hj;refine⟨A', na', ca', B', nb', cb', C', nc', cc', fun i hi=>?_,h2⟩;rw[b9g (by omega)];exact h1 i hi
theorem Sep.setRow (h:Sep w0 w l)(i:Nat)(hi:l[i]?=some (.row e k (.slice (some ⟨g,0,none⟩) n c) n us))(j:Nat)(u:Value):
  Sep w0 (w.setCell ⟨g,j,none⟩ u) (l.set i (.row e k (.slice (some ⟨g,0,none⟩) n c) n (us.set j u))):=by
 have hr:w.ownsRow w0.heap.size e k (.slice (some ⟨g,0,none⟩) n c) n us:=h.at_ i hi;obtain⟨h1,h2⟩:=hr.stored j u;exact h.change i hi h2 h1 fun b hb=>.inl hb
theorem Sep.cellRow (h:Sep w0 w l)(i:Nat)(hi:l[i]?=some (.row e k (.slice (some ⟨g,0,none⟩) n c) n us)){j:Nat}{u:Value}(hj:us[j]?=some u):w.cell? ⟨g,j,none⟩=some u:=by
 have hr:w.ownsRow w0.heap.size e k (.slice (some ⟨g,0,none⟩) n c) n us:=h.at_ i hi;have hl:=(lL hj);have:=hr.1;exact(hr.cellAt j (by omega)).trans hj
theorem Sep.frozenRow (h:Sep w0 w l)(i:Nat)(hi:l[i]?=some (.row e k (.slice (some ⟨g,0,none⟩) n c) n us))(j:Nat):w.frozen? ⟨g,j,none⟩=false:=by
 have hr:w.ownsRow w0.heap.size e k (.slice (some ⟨g,0,none⟩) n c) n us:=h.at_ i hi;exact hr.frozenAt j
structure NodC (w:World) (A:Option Addr) (m:Nat) (vs:List Value):Prop where
 len:vs.length=m*7
 one:∀ u∈vs,u.oneCell'=true
 at_:∀ ad,A=some ad→∀ j u,vs[j]?=some u→w.cell? (ad.add j)=some u
 none_:A=none→m=0
 few:m≤90000
theorem NodC.below {m:Nat}(h:NodC w A m vs)(hb:Below w.heap.size w w'):NodC w' A m vs :=
 ⟨h.len,h.one,fun ad e j u hu=>(hb.cell (World.block_lt_of_cell? _ _ (h.at_ ad e j u hu))).trans (h.at_ ad e j u hu),h.none_,h.few⟩
end Go.Proofs.YtdcmanhgekjhgaaDoor
