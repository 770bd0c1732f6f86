import Derived.Test.YtjblengklgkgfaaGreatPau
set_option maxRecDepth 100000
set_option maxHeartbeats 12800000
namespace Go.Proofs.YtjblengklgkgfaaGreat
open Go.RowKit Go.Proofs.Tryz
variable {D S:Option Addr} {L:TL} {c dc dn n sc sn:Nat} {s:List Int} {t:List Int × List Int} {us:List Value} {v:Value} {w w' w0:World}
def b5n (w0:World) (pool:List a0c) (S:Option Addr) (sn sc:Nat) (D:Option Addr) (dn dc:Nat) (t:List Int × List Int):Prop :=
 (∃ p q:Nat,pool[p]?=some (a0c.own 3 (.slice S sn sc) sn t.1)∧pool[q]?=some (a0c.own 2 (.slice D dn dc) dn t.2))∨Ten w0 (.agg #[.slice S sn sc,.slice D dn dc]) t.1 t.2
theorem b5n.up {pool:List a0c}{a b:a0c}(h:b5n w0 pool S sn sc D dn dc t):b5n w0 (a::b::pool) S sn sc D dn dc t:=by
 rcases h with ⟨p,q,h1,h2⟩|h
 ·exact .inl ⟨p+2,q+2,h1,h2⟩
 ·exact .inr h
theorem b5n.top {pool:List a0c}{d:List Int}:b5n w0 (a0c.own 3 (.slice S sn sc) sn s::a0c.own 2 (.slice D dn dc) dn d::pool) S sn sc D dn dc (s,d):=.inl ⟨0,1,rfl,rfl⟩
theorem b5n.ten {l pool:List a0c}(h:b5n w0 pool S sn sc D dn dc t)(H:Sep w0 w l)(f:Nat)(hf:∀ i,l[i+f]?=pool[i]?):Ten w (.agg #[.slice S sn sc,.slice D dn dc]) t.1 t.2:=by
 rcases h with ⟨p,q,h1,h2⟩|h
 ·have hp:=H.ownInts (p+f) ((hf p).trans h1);have hq:=H.ownInts (q+f) ((hf q).trans h2);exact a1s hp.2.2 hp.2.1 hq.2.2 hq.2.1
 ·exact H.oldTen h
def b0f (w0:World) (us:List Value) (L:TL) (pool:List a0c):Prop:=us.length=L.length*2∧∀(j:Nat) (t:List Int × List Int),L[j]?=some t→∃(S:Option Addr) (sn sc:Nat) (D:Option Addr) (dn dc:Nat),us[j*2]?=some (.slice S sn sc)∧us[j*2+1]?=some (.slice D dn dc)∧b5n w0 pool S sn sc D dn dc t
theorem a9b (w0:World)(pool:List a0c):b0f w0 [] [] pool:=⟨rfl,fun j t h=>by simp at h⟩
theorem b0f.up {pool:List a0c}{a b:a0c}(h:b0f w0 us L pool):b0f w0 us L (a::b::pool) :=
 ⟨h.1,fun j t ht=>by
  obtain⟨S,sn,sc,D,dn,dc,h1,h2,h3⟩:=h.2 j t ht
  exact⟨S,sn,sc,D,dn,dc,h1,h2,h3.up⟩⟩
theorem b0f.snoc {pool:List a0c}(h:b0f w0 us L pool)(ht:b5n w0 pool S sn sc D dn dc t):b0f w0 (us++[.slice S sn sc,.slice D dn dc]) (L++[t]) pool:=by
 obtain⟨hl,h⟩:=h;refine⟨by simp[hl];omega,fun j u hu=>?_⟩;rcases Nat.lt_or_ge j L.length with hj|hj
 ·rw[List.getElem?_append_left hj] at hu;obtain⟨S', sn', sc', D', dn', dc', h1,h2,h3⟩:=h j u hu;exact⟨S', sn', sc', D', dn', dc', by rw[List.getElem?_append_left (by omega)];exact h1,by rw[List.getElem?_append_left (by omega)];exact h2,h3⟩
 ·rw[List.getElem?_append_right hj] at hu
  have hj' : j=L.length:=by
   rcases Nat.eq_or_lt_of_le hj with e|e
   ·exact e.symm
   ·obtain⟨m,hm⟩:∃ m,j-L.length=m+1:=⟨j-L.length-1,by omega⟩;rw[hm] at hu;simp at hu
  subst hj';simp at hu;subst hu;exact⟨S,sn,sc,D,dn,dc,by rw[List.getElem?_append_right (by omega),hl];simp,by rw[List.getElem?_append_right (by omega),hl];simp,ht⟩
theorem a6h {l:List a0c}{pool:List a0c}(i:Nat)(h:Sep w0 w l)(hi:l[i]?=some (.row 33 2 v n us))(hP:b0f w0 us L pool)(hn:L.length=n)(hn2:n≤1000)(f:Nat)(hf:∀ i,l[i+f]?=pool[i]?):
  ∃ A c,v=.slice A n c∧n≤c∧Tens w A n L:=by
 have hr:w.ownsRow w0.heap.size 33 2 v n us:=h.at_ i hi;rcases Nat.eq_zero_or_pos n with e|e
 ·subst e;have hT:∀ A,Tens w A 0 L:=fun A=>⟨hn,by omega,fun j t ht=>by rw[List.eq_nil_of_length_eq_zero hn] at ht;simp at ht⟩
  rcases hr.2 with ⟨hv,_⟩|⟨g,cap,cur,hv,_⟩
  ·exact⟨none,0,hv,Nat.le_refl _,hT _⟩
  ·exact⟨_,cap,hv,by omega,hT _⟩
 ·obtain⟨g,c,rfl,hnc⟩:=h.rowForm i hi e;refine⟨_,c,rfl,by omega,hn,by omega,fun j t ht=>?_⟩;have hj:j<L.length:=(lL ht);obtain⟨hl,hP⟩:=hP;obtain⟨S,sn,sc,D,dn,dc,h1,h2,h3⟩:=hP j t ht;have hlt:=(World.ownsRow.lt hr g rfl).2;refine⟨⟨g,0,none⟩,S,sn,sc,D,dn,dc,rfl,hlt,?_,?_,h3.ten h f hf⟩
  ·rw[b7g,hr.cellAt (j*2) (by omega),h1]
  ·rw[b7g,hr.cellAt (j*2+1) (by omega),h2]
theorem c7l {l:List a0c}{g:Nat}(i:Nat)(h:Sep w0 w l)(hi:l[i]?=some (.row 33 2 (.slice (some ⟨g,0,none⟩) n c) n us)){k:Nat}(hk:k<n){x y:Value}(hx:us[k*2]?=some x)(hy:us[k*2+1]?=some y):
  w.cell? ⟨g,k*2,none⟩=some x∧w.cell? ⟨g,k*2+1,none⟩=some y:=by
 have hr:w.ownsRow w0.heap.size 33 2 (.slice (some ⟨g,0,none⟩) n c) n us:=h.at_ i hi;exact⟨by rw[hr.cellAt (k*2) (by omega),hx],by rw[hr.cellAt (k*2+1) (by omega),hy]⟩
theorem d1i {l:List a0c}{pool:List a0c}(h:Sep w0 w (.row 33 2 v n us::l))(hP:Pool us L pool)(hn:L.length=n)(hn2:n≤1000)(f:Nat)(hf:∀ i,l[i+f]?=pool[i]?):
  ∃ A c,v=.slice A n c∧n≤c∧∀(w9:World) (row:Option Nat),w.grownBy w9 row→(∀ g,row=some g→g<w0.heap.size)→Tens w9 A n L:=by
 have hr:w.ownsRow w0.heap.size 33 2 v n us:=h.at_ 0 rfl
 have keepR:∀(w9:World) (row:Option Nat),w.grownBy w9 row→(∀ g,row=some g→g<w0.heap.size)→w9.ownsRow w0.heap.size 33 2 v n us:=fun w9 row hg hlt=>by
  refine World.ownsRow.kept hr hg ?_
  cases hv:v.ownBlock with
  | none=>exact .inl rfl
  | some k=>exact .inr fun he=>by have h1:=(World.ownsRow.lt hr k hv).1;have h2:=hlt k he.symm;omega
 have keepO:∀(w9:World) (row:Option Nat),w.grownBy w9 row→(∀ g,row=some g→g<w0.heap.size)→∀(p:Nat) (e:TypeId) (A:Option Addr) (m c:Nat) (xs:List Int),pool[p]?=some (a0c.own e (.slice A m c) m xs)→m≤c∧Ints w9 A m xs:=fun w9 row hg hlt p e A m c xs hp=>by
  have h0:OwnS w w0.heap.size e (.slice A m c) m xs:=h.at_ (c:=a0c.own e (.slice A m c) m xs) (p+f+1) (by rw[List.getElem?_cons_succ];exact(hf p).trans hp);have h9:OwnS w9 w0.heap.size e (.slice A m c) m xs:=OwnS.grownNe h0 hg fun k hk he=>by have h1:=(h0.1.lt k hk).1;have h2:=hlt k he.symm;omega
  obtain⟨A', c', hv,hc,hI,_⟩:=h9.form;injection hv with q1 q2 q3
  subst q1;subst q3;exact⟨hc,hI⟩
 rcases Nat.eq_zero_or_pos n with e|e
 ·subst e;have hT:∀(w9:World) A,Tens w9 A 0 L:=fun w9 A=>⟨hn,by omega,fun j t ht=>by rw[List.eq_nil_of_length_eq_zero hn] at ht;simp at ht⟩
  rcases hr.2 with ⟨hv,_⟩|⟨g,cap,cur,hv,_⟩
  ·exact⟨none,0,hv,Nat.le_refl _,fun _ _ _ _=>hT _ _⟩
  ·exact⟨_,cap,hv,by omega,fun _ _ _ _=>hT _ _⟩
 ·obtain⟨g,c,rfl,hnc⟩:=h.rowForm 0 rfl e;refine⟨_,c,rfl,by omega,fun w9 row hg hlt=>⟨hn,by omega,fun j t ht=>?_⟩⟩;have hj:j<L.length:=(lL ht);obtain⟨hl,hP⟩:=hP;obtain⟨S,sn,sc,D,dn,dc,p,q,h1,h2,h3,h4⟩:=hP j t ht;have hr9:=keepR w9 row hg hlt;have hp:=keepO w9 row hg hlt p _ _ _ _ _ h3;have hq:=keepO w9 row hg hlt q _ _ _ _ _ h4;have hlt9:=(World.ownsRow.lt hr9 g rfl).2;refine⟨⟨g,0,none⟩,S,sn,sc,D,dn,dc,rfl,hlt9,?_,?_,a1s hp.2 hp.1 hq.2 hq.1⟩
  ·rw[b7g,hr9.cellAt (j*2) (by omega),h1]
  ·rw[b7g,hr9.cellAt (j*2+1) (by omega),h2]
def a0c.mine:a0c→Prop
 | .own _ _ _ _=>True
 | .row _ _ _ _ _=>True
 | .box _ _ _=>True
 | _=>False
theorem a0c.lower {base base' : Nat}{c:a0c}(h:c.holds w base)(hm:c.mine)(hb:base' ≤ base):c.holds w base':=by
 cases c with
 | own e v n xs=>exact OwnS.mono h hb
 | row e k v n us =>
  refine⟨h.1,?_⟩;rcases h.2 with hh|⟨g,cap,cur,h1,h2,h3⟩
  ·exact .inl hh
  ·exact .inr ⟨g,cap,cur,h1,Nat.le_trans hb h2,h3⟩
 | box g t vs=>exact⟨Nat.le_trans hb h.1,h.2⟩
 | ints A n xs=>cases hm
 | vals A n k us=>cases hm
 | tape g=>cases hm
theorem Sep.join {wT:World}{l m:List a0c}(h:Sep w0 w l)(hb:Below w.heap.size w w')(k:Sep wT w' m)(hsz:w.heap.size≤wT.heap.size)(hm:∀ c∈m,c.mine):Sep w0 w' (m++l):=by
 obtain⟨h1,h2,h3⟩:=Sep.pair.1 (h.below hb);obtain⟨k1,k2,k3⟩:=Sep.pair.1 k;have h0:=(Sep.pair.1 h).2.1;have hs:=h.size;refine Sep.pair.2 ⟨h1,fun c hc=>?_,List.pairwise_append.2 ⟨k3,h3,fun a ha b hb' q hq hq'=>?_⟩⟩
 ·rcases List.mem_append.1 hc with hc|hc
  ·exact a0c.lower (k2 c hc) (hm c hc) (by omega)
  ·exact h2 c hc
 ·have x1:=(a0c.block_ge (k2 a ha) hq).1;have x2:=(a0c.block_ge (h0 b hb') hq').2;omega
def LilO (w0:World) (us:List Value) (L:List (List Int)):Prop:=us.length=L.length∧∀(j:Nat) (s:List Int),L[j]?=some s→∃ B m c,us[j]?=some (.slice B m c)∧m≤c∧Ints w0 B m s
theorem d7m (w0:World):LilO w0 [] []:=⟨rfl,fun j s h=>by simp at h⟩
theorem LilO.snoc {L:List (List Int)}(h:LilO w0 us L){B:Option Addr}{m:Nat}(hI:Ints w0 B m s)(hm:m≤c):LilO w0 (us++[.slice B m c]) (L++[s]):=by
 obtain⟨hl,h⟩:=h;refine⟨by simp[hl],fun j u hu=>?_⟩;rcases Nat.lt_or_ge j L.length with hj|hj
 ·rw[List.getElem?_append_left hj] at hu;obtain⟨B', m', c', h1,h2,h3⟩:=h j u hu;exact⟨B', m', c', by rw[List.getElem?_append_left (by omega)];exact h1,h2,h3⟩
 ·rw[List.getElem?_append_right hj] at hu
  have hj' : j=L.length:=by
   rcases Nat.eq_or_lt_of_le hj with e|e
   ·exact e.symm
   ·obtain⟨m,hm⟩:∃ m,j-L.length=m+1:=⟨j-L.length-1,by omega⟩;rw[hm] at hu;simp at hu
  subst hj';simp at hu;subst hu;exact⟨B,m,c,by rw[List.getElem?_append_right (by omega),hl];simp,hm,hI⟩
theorem d2z {l:List a0c}{L:List (List Int)}(i:Nat)(h:Sep w0 w l)(hi:l[i]?=some (.row 22 1 v n us))(hK:LilO w0 us L)(hn:L.length=n)(hn2:n≤900):
  ∃ A c,v=.slice A n c∧n≤c∧Lils w A n L:=by
 have hr:w.ownsRow w0.heap.size 22 1 v n us:=h.at_ i hi;rcases Nat.eq_zero_or_pos n with e|e
 ·subst e;have hT:∀ A,Lils w A 0 L:=fun A=>⟨hn,by omega,fun j t ht=>by rw[List.eq_nil_of_length_eq_zero hn] at ht;simp at ht⟩
  rcases hr.2 with ⟨hv,_⟩|⟨g,cap,cur,hv,_⟩
  ·exact⟨none,0,hv,Nat.le_refl _,hT _⟩
  ·exact⟨_,cap,hv,by omega,hT _⟩
 ·obtain⟨g,c,rfl,hnc⟩:=h.rowForm i hi e;refine⟨_,c,rfl,by omega,hn,hn2,fun j t ht=>?_⟩;have hj:j<L.length:=(lL ht);obtain⟨B,m,cc,h1,h2,h3⟩:=hK.2 j t ht;exact⟨⟨g,0,none⟩,B,m,cc,rfl,(World.ownsRow.lt hr g rfl).2,b7r h i hi h1 (by omega),h2,h.oldI h3⟩
def c7x (w:World) (r:Int × List Int × List Int) (e:Ending) (w' : World):Prop :=
 (∃ u,e=.returned (.tuple #[u,.int .i64 r.1])∧Ten w' u r.2.1 r.2.2)∧Below w.heap.size w w'
def a9i (w:World) (r:Int × TL) (e:Ending) (w' : World):Prop :=
 (∃ A n c,e=.returned (.tuple #[.slice A n c,.int .i64 r.1])∧n≤c∧Tens w' A n r.2)∧Below w.heap.size w w'
theorem b7b (w:World):Tens w none 0 []:=⟨rfl,by omega,fun j t ht=>by simp at ht⟩
theorem a4m {r:Int × TL}{e:Int}(h:r=(e,[]))(hb:Below w.heap.size w w'):a9i w r (.returned (.tuple #[.slice none 0 0,.int .i64 e])) w':=by
 subst h;exact⟨⟨none,0,0,rfl,Nat.le_refl _,b7b _⟩,hb⟩
theorem a8c {r:Int × TL}{A:Option Addr}(h:r=(0,L))(hn:n≤c)(hT:Tens w' A n L)(hb:Below w.heap.size w w'):a9i w r (.returned (.tuple #[.slice A n c,.int .i64 0])) w':=by
 subst h;exact⟨⟨A,n,c,rfl,hn,hT⟩,hb⟩
theorem b1m.node {r:Int × List Int × List Int}{e:Ending}(h:b1m w r e w'):c7x w r e w':=by
 obtain⟨⟨u,h1,h2⟩,h3⟩:=h;exact⟨⟨u,h1,h2.ten⟩,h3⟩
def numP (N:List a0s):Nat:=(N.filter fun nd=>decide (nd.op=1)).length
theorem b6z:∀(N:List a0s) (k:Nat),(parF k N).length=numP N
 | [],_=>rfl
 | nd::N,k=>by
  unfold parF numP;by_cases h:nd.op=1
  ·rw[iP h,List.filter_cons_of_pos (by simpa using h),List.length_cons,List.length_cons,b6z N (k+1)];rfl
  ·rw[iN h,List.filter_cons_of_neg (by simpa using h),b6z N (k+1)];rfl
theorem b9n (M:List a0s):∀(N:List a0s) (k:Nat),parF k (N++M)=parF k N++parF (k+N.length) M
 | [],k=>by simp[parF]
 | nd::N,k=>by
  rw[List.cons_append,parF,parF,b9n M N (k+1),List.length_cons,show k+1+N.length=k+(N.length+1) by omega]
  split <;> rfl
theorem b0p:∀(N:List a0s) (k:Nat),∀ x∈parF k N,(k:Int)≤x∧x<((k+N.length:Nat):Int)
 | [],_=>fun x hx=>by simp[parF] at hx
 | nd::N,k=>fun x hx=>by
  have ih:=b0p N (k+1);rw[parF] at hx;rw[List.length_cons]
  split at hx
  ·rcases List.mem_cons.1 hx with rfl|hx
   ·omega
   ·have:=ih x hx;omega
  ·have:=ih x hx;omega
theorem a9p (P:TL):∀(N:List a0s) (q:Nat) (acc:TL),∃ R,a2i P q acc N=acc++R∧R.length=N.length
 | [],q,acc=>⟨[],by rw[a2i,List.append_nil],rfl⟩
 | nd::N,q,acc=>by
  rw[a2i]
  split
  ·obtain⟨R,h1,h2⟩:=a9p P N (q+1) (acc++[P.getD q ([],[])]);exact⟨P.getD q ([],[])::R,by rw[h1,List.append_assoc];rfl,by simp[h2]⟩
  ·obtain⟨R,h1,h2⟩:=a9p P N q (acc++[(a0r nd (insT acc nd.ins)).2]);exact⟨(a0r nd (insT acc nd.ins)).2::R,by rw[h1,List.append_assoc];rfl,by simp[h2]⟩
theorem b2u (P:TL)(M:List a0s):∀(N:List a0s) (q:Nat) (acc:TL),a2i P q acc (N++M)=a2i P (q+numP N) (a2i P q acc N) M
 | [],q,acc=>rfl
 | nd::N,q,acc=>by
  rw[List.cons_append,a2i,a2i];by_cases h:nd.op=1
  ·rw[iP h,iP h,b2u P M N];have:numP (nd::N)=numP N+1:=by rw[numP,List.filter_cons_of_pos (by simpa using h)];rfl
   rw[this,show q+1+numP N=q+(numP N+1) by omega]
  ·rw[iN h,iN h,b2u P M N];have:numP (nd::N)=numP N:=by rw[numP,List.filter_cons_of_neg (by simpa using h)];rfl
   rw[this]
theorem b5e (P:TL):∀(N:List a0s) (q:Nat) (acc:TL) (i:Nat) (k:Int),(parF acc.length N)[i]?=some k→(a2i P q acc N)[k.toNat]?=some (P.getD (q+i) ([],[]))
 | [],q,acc,i,k,h=>by simp[parF] at h
 | nd::N,q,acc,i,k,h=>by
  rw[parF] at h;rw[a2i];by_cases ho:nd.op=1
  ·rw[iP ho] at h ⊢
   cases i with
   | zero =>
    simp only[List.getElem?_cons_zero,Option.some.injEq] at h;subst h;obtain⟨R,h1,_⟩:=a9p P N (q+1) (acc++[P.getD q ([],[])])
    rw[h1,Int.toNat_natCast,List.append_assoc,List.getElem?_append_right (Nat.le_refl _),Nat.sub_self];rfl
   | succ i =>
    rw[List.getElem?_cons_succ] at h;have:=b5e P N (q+1) (acc++[P.getD q ([],[])]) i k (by rw[List.length_append,List.length_singleton];exact h);rw[this,show q+1+i=q+(i+1) by omega]
  ·rw[iN ho] at h ⊢;exact b5e P N q (acc++[(a0r nd (insT acc nd.ins)).2]) i k (by rw[List.length_append,List.length_singleton];exact h)
theorem c6t {N:List a0s}{P:TL}(hF:FitP N P):insT (a2i P 0 [] N) (parF 0 N)=P:=by
 apply List.ext_getElem?;intro i;rw[insT,List.getElem?_map];rcases Nat.lt_or_ge i P.length with hi|hi
 ·obtain⟨k,hk⟩:∃ k,(parF 0 N)[i]?=some k:=gE (by rw[←hF.1];exact hi);have hv:=b5e P N 0 [] i k hk;rw[hk,Option.map_some,gD,hv,Nat.zero_add,gD,List.getElem?_eq_getElem hi]
  rfl
 ·rw[List.getElem?_eq_none hi,List.getElem?_eq_none (by rw[←hF.1];exact hi)];rfl
theorem c5r {nm:List Int}:∀(N:List a0s) (acc L:List (List Int)),a0i nm acc N=(0,L)→∀ nd∈N,nd.op=1→Sh.right nd.shape=true
 | [],_,_,_=>fun nd h=>by simp at h
 | nd::N,acc,L,h=>fun n hn ho=>by
  obtain⟨_,g2,g3⟩:=b3l h;rcases List.mem_cons.1 hn with rfl|hn
  ·have h1:=b2r ho g2;have h2:=a9n g2;rwa [h1] at h2
  ·exact c5r N _ L g3 n hn ho
theorem c8f:∀(N:List a0s) (b:Nat),∀ x∈parF b N,∃ nd,N[x.toNat-b]?=some nd∧nd.op=1
 | [],_=>fun x hx=>by simp[parF] at hx
 | nd::N,b=>fun x hx=>by
  have ih:=c8f N (b+1);have hin:=b0p N (b+1);rw[parF] at hx
  split at hx
  ·rename_i ho;rcases List.mem_cons.1 hx with rfl|hx
   ·exact⟨nd,by simp,ho⟩
   ·obtain⟨n,h1,h2⟩:=ih x hx;have h3:=hin x hx;exact⟨n,by rw[show x.toNat-b=(x.toNat-(b+1))+1 by omega,List.getElem?_cons_succ];exact h1,h2⟩
  ·obtain⟨n,h1,h2⟩:=ih x hx;have h3:=hin x hx;exact⟨n,by rw[show x.toNat-b=(x.toNat-(b+1))+1 by omega,List.getElem?_cons_succ];exact h1,h2⟩
end Go.Proofs.YtjblengklgkgfaaGreat
