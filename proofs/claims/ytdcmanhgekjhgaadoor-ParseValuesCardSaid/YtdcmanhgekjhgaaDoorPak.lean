import Derived.Test.YtdcmanhgekjhgaaDoorPaj
set_option maxRecDepth 100000
set_option maxHeartbeats 12800000
namespace Go.Proofs.YtdcmanhgekjhgaaDoor
open Go.RowKit Go.Proofs.Tryd
variable {A:Option Addr} {G:a0w} {L acc:List (List Int)} {c j k n q:Nat} {l nm s xs:List Int} {nd:a0j} {w1:World} {x:Int}
noncomputable def a0n (nd:a0j) (L:TL):Int × List Int × List Int :=
 if nd.op=2 then(if Sh.right nd.shape then(0,nd.shape,List.replicate (Sh.size nd.shape).toNat nd.n) else refused 13)
 else if nd.op=3 then(if Sh.right nd.shape then(if nd.a.length=1∧0≤nd.a.getD 0 0∧nd.a.getD 0 0<nd.shape.length then(0,nd.shape,Sh.iota nd.shape (nd.a.getD 0 0).toNat) else refused 1) else refused 13)
 else if nd.op=4∨nd.op=5 then oneR nd.op (L.getD 0 ([],[])).1 (L.getD 0 ([],[])).2
 else if nd.op=12 then c7l (L.getD 0 ([],[])).1 (L.getD 0 ([],[])).2 (L.getD 1 ([],[])).1 (L.getD 1 ([],[])).2 (L.getD 2 ([],[])).1 (L.getD 2 ([],[])).2
 else if nd.op=13 then b9q (L.getD 0 ([],[])).1 (L.getD 0 ([],[])).2 nd.a
 else if nd.op=14 then spR (L.getD 0 ([],[])).1 (L.getD 0 ([],[])).2 nd.shape nd.a
 else if nd.op=15 then(if nd.a.length=2*(L.getD 0 ([],[])).1.length then cutR (L.getD 0 ([],[])).1 (L.getD 0 ([],[])).2 (nd.a.take (L.getD 0 ([],[])).1.length) (nd.a.drop (L.getD 0 ([],[])).1.length) else refused 1)
 else if nd.op=16 then(if nd.a.length=2*(L.getD 0 ([],[])).1.length then padR (L.getD 0 ([],[])).1 (L.getD 0 ([],[])).2 (nd.a.take (L.getD 0 ([],[])).1.length) (nd.a.drop (L.getD 0 ([],[])).1.length) nd.n else refused 1)
 else if nd.op=17 then(if nd.a.length=1 then b3s (nd.a.getD 0 0) L else refused 1)
 else if nd.op=18 then b0z nd.how (L.getD 0 ([],[])).1 (L.getD 0 ([],[])).2 nd.a
 else if nd.op=19 then(if nd.a.length=1 then dotR (L.getD 0 ([],[])).1 (L.getD 0 ([],[])).2 (L.getD 1 ([],[])).1 (L.getD 1 ([],[])).2 (nd.a.getD 0 0) else refused 1)
 else if nd.op=20 then(if nd.a.length=3 then winR nd.how (L.getD 0 ([],[])).1 (L.getD 0 ([],[])).2 (nd.a.getD 0 0) (nd.a.getD 1 0) (nd.a.getD 2 0) else refused 1)
 else twoR nd.op (L.getD 0 ([],[])).1 (L.getD 0 ([],[])).2 (L.getD 1 ([],[])).1 (L.getD 1 ([],[])).2
theorem b0p (h:Ints w1 A n xs)(hk:k≤n)(hc:n≤c):∀ w,(Instr.slice 31 (.slice A n c) none (some (.int .i64 (k:Int))) none).run prog w=.ok (.slice A k c) w:=by
 intro w;have hu:prog.underlying 31=some (.slice 3):=by kernel_rfl
 have hkc:k≤c:=by omega
 cases A with
 | none =>
  have h0:n=0:=by
   rcases Nat.eq_zero_or_pos n with e|e
   ·exact e
   ·obtain⟨a,e', _⟩:=h.2.2.2 e;cases e'
  subst h0;obtain rfl:k=0:=by omega
  go_simp
 | some a=>go_simp
theorem c2h (h:Ints w1 A n xs)(hk:k≤n)(hc:n≤c):∀ w,(Instr.slice 31 (.slice A n c) (some (.int .i64 (k:Int))) none none).run prog w=.ok (.slice (dropA A c k) (n-k) (c-k)) w:=by
 intro w;have hu:prog.underlying 31=some (.slice 3):=by kernel_rfl
 cases A with
 | none =>
  have h0:n=0:=by
   rcases Nat.eq_zero_or_pos n with e|e
   ·exact e
   ·obtain⟨a,e', _⟩:=h.2.2.2 e;cases e'
  subst h0;obtain rfl:k=0:=by omega
  by_cases hcl:c=0
  ·subst hcl
   go_simp
   rw[dropA,iP rfl]
  ·go_simp
   rw[dropA,iN hcl];rfl
 | some a =>
  by_cases hcl:c=k
  ·subst hcl
   go_simp
   rw[dropA,iP rfl]
  ·go_simp
   rw[dropA,iN hcl];rfl
def Pool (us:List Value) (L:TL) (pool:List a0e):Prop:=us.length=L.length*2∧∀(j:Nat) (t:List Int × List Int),L[j]?=some t→∃(S:Option Addr) (sn sc:Nat) (D:Option Addr) (dn dc p q:Nat),us[j*2]?=some (.slice S sn sc)∧us[j*2+1]?=some (.slice D dn dc)∧pool[p]?=some (a0e.own 3 (.slice S sn sc) sn t.1)∧pool[q]?=some (a0e.own 2 (.slice D dn dc) dn t.2)
theorem Pool.more {us:List Value}{L:TL}{pool:List a0e}{S D:Option Addr}{sn sc dn dc:Nat}{t:List Int × List Int}(h:Pool us L pool):
  Pool (us++[.slice S sn sc,.slice D dn dc]) (L++[t]) (a0e.own 3 (.slice S sn sc) sn t.1::a0e.own 2 (.slice D dn dc) dn t.2::pool):=by
 obtain⟨hl,h⟩:=h;refine⟨by simp[hl];omega,fun j u hu=>?_⟩;rcases Nat.lt_or_ge j L.length with hj|hj
 ·rw[List.getElem?_append_left hj] at hu;obtain⟨S', sn', sc', D', dn', dc', p,q,h1,h2,h3,h4⟩:=h j u hu;exact⟨S', sn', sc', D', dn', dc', p+2,q+2,by rw[List.getElem?_append_left (by omega)];exact h1,by rw[List.getElem?_append_left (by omega)];exact h2,h3,h4⟩
 ·rw[List.getElem?_append_right hj] at hu
  have hj' : j=L.length:=by
   rcases Nat.eq_or_lt_of_le hj with e|e
   ·exact e.symm
   ·obtain⟨m,hm⟩:∃ m,j-L.length=m+1:=⟨j-L.length-1,by omega⟩;rw[hm] at hu;simp at hu
  subst hj';simp at hu;subst hu;exact⟨S,sn,sc,D,dn,dc,0,1,by rw[List.getElem?_append_right (by omega),hl];simp,by rw[List.getElem?_append_right (by omega),hl];simp,rfl,rfl⟩
def zeros (s:List Int):List Int × List Int:=(s,List.replicate (Sh.size s).toNat 0)
theorem a0h (h:Sh.right s=true):a0d (zeros s).1 (zeros s).2=true:=by
 have:=Sh.size_bd s;simp only[zeros,a0d,h,Bool.true_and,List.length_replicate,decide_eq_true_eq];omega
noncomputable def a1f (nd:a0j) (L:List (List Int)):Int × List Int :=
 if a3q nd L.length=true then
  (if L.all Sh.right=true then
   (if nd.op=1 then(if Sh.right nd.shape=true then(0,nd.shape) else(13,[]))
   else if (a0n nd (L.map zeros)).1=0 then(0,(a0n nd (L.map zeros)).2.1) else((a0n nd (L.map zeros)).1,[]))
  else(13,[]))
 else(1,[])
theorem b0q (h:a3q nd L.length=false):a1f nd L=(1,[]):=by rw[a1f,h];rfl
theorem b9h (h:a3q nd L.length=true)(hs:L[j]?=some s)(hr:Sh.right s=false):a1f nd L=(13,[]):=by
 have:L.all Sh.right=false:=by
  rw[List.all_eq_false];exact⟨s,mG hs,by rw[hr];simp⟩
 rw[a1f,iP h,this];rfl
theorem b4j (h:a3q nd L.length=true)(ha:L.all Sh.right=true)(ho:nd.op=1):a1f nd L=if Sh.right nd.shape=true then(0,nd.shape) else(13,[]):=by
 rw[a1f,iP h,iP ha,iP ho]
theorem b6j (h:a3q nd L.length=true)(ha:L.all Sh.right=true)(ho:¬ nd.op=1):a1f nd L=if (a0n nd (L.map zeros)).1=0 then(0,(a0n nd (L.map zeros)).2.1) else((a0n nd (L.map zeros)).1,[]):=by
 rw[a1f,iP h,iP ha,iN ho]
theorem c3n (h:∀(i:Nat) (s:List Int),L[i]?=some s→i<L.length→Sh.right s=true):L.all Sh.right=true:=by
 rw[List.all_eq_true];intro s hs;obtain⟨i,hi,e⟩:=List.getElem_of_mem hs;exact h i s (by rw[List.getElem?_eq_getElem hi,e]) hi
def b3r (acc:List (List Int)) (l:List Int):Bool:=l.all fun k=>decide (0≤k)&&decide (k<acc.length)
def a3e (acc:List (List Int)) (l:List Int):List (List Int):=l.map fun k=>acc.getD k.toNat []
noncomputable def b5w (nm:List Int) (nd:a0j) (r:Nat):Int:=(a2b nm (a0a nd.note) (r:Int)).2.2
noncomputable def a0m (nm:List Int) (acc:List (List Int)):List a0j→Int × List (List Int)
 | []=>(0,acc)
 | nd::l=>if b3r acc nd.ins=true then
   (if (a1f nd (a3e acc nd.ins)).1=0 then
    (if b5w nm nd (a1f nd (a3e acc nd.ins)).2.length=0 then a0m nm (acc++[(a1f nd (a3e acc nd.ins)).2]) l
    else(b5w nm nd (a1f nd (a3e acc nd.ins)).2.length,[]))
   else((a1f nd (a3e acc nd.ins)).1,[]))
  else(23,[])
noncomputable def a0c (G:a0w):Int × List (List Int) :=
 if a6j G=true then
  (if G.nodes.length≤48∧G.outs.length≤48 then
   (if (a0m (a0a G.names) [] G.nodes).1=0 then
    (if (G.outs.all fun k=>decide (0≤k)&&decide (k<G.nodes.length))=true then(0,(a0m (a0a G.names) [] G.nodes).2) else(23,[]))
   else((a0m (a0a G.names) [] G.nodes).1,[]))
  else(3,[]))
 else(15,[])
def b9v (q:Nat) (G:a0w):Prop:=∀(j:Nat) (nd:a0j),G.nodes[j]?=some nd→nd.ins.length≤q
theorem c1a (h:l[j]?=some x)(hx:¬(0≤x∧x<acc.length)):b3r acc l=false:=by
 rw[b3r,List.all_eq_false];exact⟨x,mG h,by simpa using fun h0=>by have:=hx;omega⟩
theorem b8i (h:∀(i:Nat) (x:Int),l[i]?=some x→0≤x∧x<acc.length):b3r acc l=true:=by
 rw[b3r,List.all_eq_true];intro x hx;obtain⟨i,hi,e⟩:=List.getElem_of_mem hx;have:=h i x (by rw[List.getElem?_eq_getElem hi,e]);simpa using this
theorem b7k (h:l[j]?=some x)(hx:¬(0≤x∧x<n)):(l.all fun k=>decide (0≤k)&&decide (k<n))=false:=by
 rw[List.all_eq_false];exact⟨x,mG h,by simpa using fun h0=>by have:=hx;omega⟩
theorem c1w (h:∀(i:Nat) (x:Int),l[i]?=some x→0≤x∧x<n):(l.all fun k=>decide (0≤k)&&decide (k<n))=true:=by
 rw[List.all_eq_true];intro x hx;obtain⟨i,hi,e⟩:=List.getElem_of_mem hx;have:=h i x (by rw[List.getElem?_eq_getElem hi,e]);simpa using this
theorem a8i (h:a6j G=false):a0c G=(15,[]):=by rw[a0c,h];rfl
theorem a8h (h:a6j G=true)(hl:¬(G.nodes.length≤48∧G.outs.length≤48)):a0c G=(3,[]):=by rw[a0c,iP h,iN hl]
theorem b9j (h:a6j G=true)(hl:G.nodes.length≤48∧G.outs.length≤48){e:Int}{l:List (List Int)}(hg:a0m (a0a G.names) [] G.nodes=(e,l))(he:¬ e=0):a0c G=(e,[]):=by
 rw[a0c,iP h,iP hl,hg,iN he]
theorem b0s (h:a6j G=true)(hl:G.nodes.length≤48∧G.outs.length≤48){l:List (List Int)}(hg:a0m (a0a G.names) [] G.nodes=(0,l)):a0c G=if (G.outs.all fun k=>decide (0≤k)&&decide (k<G.nodes.length))=true then(0,l) else(23,[]):=by
 rw[a0c,iP h,iP hl,hg,iP rfl]
theorem a4h (w:World):Lils w none 0 []:=⟨rfl,by omega,fun j t ht=>by simp at ht⟩
def Few (q:Nat) (nd:a0j):Prop:=nd.ins.length≤q∧nd.shape.length≤q∧nd.a.length≤q
structure FewG (q:Nat) (G:a0w):Prop where
 nodes:G.nodes.length≤q
 sizes:G.sizes.length≤q
 outs:G.outs.length≤q
 each:∀(j:Nat) (nd:a0j),G.nodes[j]?=some nd→Few q nd
theorem FewG.small (h:FewG q G):b9v q G:=fun j nd hj=>(h.each j nd hj).1
theorem a8g (nm:List Int):∀(N:List a0j) (acc L:List (List Int)),a0m nm acc N=(0,L)→L.length=acc.length+N.length
 | [],acc,L,h=>by
  have:acc=L:=by rw[a0m] at h;injection h
  subst this;rfl
 | nd::N,acc,L,h=>by
  unfold a0m at h
  split at h
  ·split at h
   ·split at h
    ·have:=a8g nm N _ L h;rw[this,List.length_append,List.length_singleton,List.length_cons];omega
    ·rename_i h3;injection h with h;exact absurd h h3
   ·rename_i h2;injection h with h;exact absurd h h2
  ·injection h with h;cases h
noncomputable def a2r (nm:List Int) (note:ByteArray) (rank:Int):ByteArray :=
 if (a2b nm (a0a note) rank).2.1=true then a2e nm (a2b nm (a0a note) rank).1 else a2g
noncomputable def a5h (nm:List Int) (o:ByteArray) (nd:a0j) (s:List Int):ByteArray :=
 o++a3f nd.op++a4i nd.ins++a4i nd.shape++a4i nd.a++spT++numT nd.n++spT++numT nd.how++spT++a2r nm nd.note s.length++lfT
noncomputable def a1x (nm:List Int):ByteArray→List a0j→List (List Int)→ByteArray
 | o,nd::N,s::L=>a1x nm (a5h nm o nd s) N L
 | o,_,_=>o
def c1e:ByteArray:=⟨#[109,101,115,104,32,45]⟩
def b8o:ByteArray:=⟨#[109,101,115,104,32]⟩
def a8l (G:a0w):ByteArray:=a1q (if G.names=⟨#[]⟩ then c1e else b8o++G.names) G.sizes++lfT
def a5j:ByteArray:=⟨#[111,117,116,115]⟩
noncomputable def a1u (G:a0w) (L:List (List Int)):ByteArray:=a1q (a1x (a0a G.names) (a8l G) G.nodes L++a5j) G.outs++lfT
noncomputable def a3g (G:a0w):ByteArray × Int :=
 if (a0c G).1≠0 then(⟨#[]⟩,(a0c G).1)
 else if 65536<(a1u G (a0c G).2).size then(⟨#[]⟩,3) else(a1u G (a0c G).2,0)
theorem b4c {o p:List Int}{r:Int}(h:a1e nm o r=some p):p.length≤o.length+1:=by
 unfold a1e at h
 split at h
 ·injection h with h;subst h;omega
 ·split at h
  ·injection h with h;subst h;simp
  ·split at h
   ·cases h
   ·split at h
    ·cases h
    ·injection h with h;subst h;simp
theorem a9x {nm:List Int}:∀(l o p:List Int),a1k nm o l=some p→p.length≤o.length+l.length
 | [],o,p,h=>by
  have:o=p:=by simpa [a1k] using h
  subst this;omega
 | r::l,o,p,h=>by
  rw[a1k] at h
  cases hs:a1e nm o r with
  | none=>rw[hs] at h;cases h
  | some q =>
   rw[hs] at h;have h1:=a9x l q p h;have h2:=b4c hs;simp only[List.length_cons];omega
theorem a9z (nm l:List Int)(rank:Int):(a2b nm l rank).1.length≤16:=by
 by_cases h:16<l.length
 ·rw[a3z h];simp
 ·cases g:a1k nm [] l with
  | none=>rw[a6m (by omega) g];simp
  | some out =>
   have:=a9x _ _ _ g;simp only[List.length_nil] at this;by_cases he:out=[]
   ·subst he;rw[a2z (by omega) g];simp
   ·by_cases hr:(out.length:Int)=rank
    ·rw[a6n (by omega) g he hr];show out.length≤16;omega
    ·rw[a5d (by omega) g he hr];simp
theorem b8x (nm:List Int)(t:ByteArray)(r:Int):(a2r nm t r).size≤64:=by
 unfold a2r;split
 ·have h:=a7o nm (a2b nm (a0a t) r).1;have:=a9z nm (a0a t) r;omega
 ·show 1≤64;omega
theorem b8m (nm:List Int)(o:ByteArray)(nd:a0j)(s:List Int):(a5h nm o nd s).size≤o.size+128+22*(nd.ins.length+nd.shape.length+nd.a.length):=by
 have h1:=b1p nd.op;have h2:=a2u nd.ins;have h3:=a2u nd.shape;have h4:=a2u nd.a;have h5:=a3a nd.n;have h6:=a3a nd.how;have h7:=b8x nm nd.note s.length;have h8:spT.size=1:=rfl;have h9:lfT.size=1:=rfl;simp only[a5h,ByteArray.size_append,h8,h9];omega
theorem a9o (nm:List Int)(q:Nat):∀(N:List a0j) (L:List (List Int)) (o:ByteArray),(∀ nd∈N,Few q nd)→(a1x nm o N L).size≤o.size+N.length*(128+66*q)
 | [],L,o,_=>by cases L <;> simp[a1x]
 | nd::N,[],o,_=>by simp[a1x]
 | nd::N,s::L,o,h=>by
  rw[a1x];have h1:=a9o nm q N L (a5h nm o nd s) (fun x hx=>h x (List.mem_cons_of_mem _ hx));have h2:=b8m nm o nd s;obtain⟨a,b,c⟩:=h nd List.mem_cons_self;have h3:(N.length+1)*(128+66*q)=N.length*(128+66*q)+(128+66*q):=Nat.succ_mul _ _;rw[List.length_cons,h3];omega
theorem b8n (G:a0w):(a8l G).size≤G.names.size+7+22*G.sizes.length:=by
 have h:=a2v G.sizes (if G.names=⟨#[]⟩ then c1e else b8o++G.names);have h9:lfT.size=1:=rfl
 have:(if G.names=⟨#[]⟩ then c1e else b8o++G.names).size≤G.names.size+6:=by
  split
  ·show 6≤_;omega
  ·rw[ByteArray.size_append];show 5+_≤_;omega
 rw[a8l,ByteArray.size_append];omega
theorem a9n (nm:List Int)(nd:a0j)(s:List Int):∀(N:List a0j) (L:List (List Int)) (o:ByteArray),N.length=L.length→a1x nm o (N++[nd]) (L++[s])=a5h nm (a1x nm o N L) nd s
 | [],[],o,_=>rfl
 | _::N,_::L,o,hl=>by
  show a1x nm (a5h nm o _ _) (N++[nd]) (L++[s])=_
  rw[a9n nm nd s N L _ (by simpa using hl)];rfl
 | [],_::_,o,hl=>by simp at hl
 | _::_,[],o,hl=>by simp at hl
theorem b5u {o:ByteArray}{N:List a0j}(h1:N[k]?=some nd)(h2:L[k]?=some s):
  a1x nm o (N.take (k+1)) (L.take (k+1))=a5h nm (a1x nm o (N.take k) (L.take k)) nd s:=by
 have e1:=(lL h1);have e2:=(lL h2);rw[List.take_add_one,List.take_add_one,h1,h2];exact a9n nm nd s _ _ o (by rw[List.length_take,List.length_take];omega)
theorem a9p (h:FewG q G)(hq:q≤80000)(nm:List Int)(L:List (List Int))(k:Nat)(o:ByteArray):(a1x nm o (G.nodes.take k) L).size≤o.size+422410240000:=by
 have h2:=a9o nm q (G.nodes.take k) L o (fun nd hn=>by
  obtain⟨i,hi,e⟩:=List.getElem_of_mem (List.mem_of_mem_take hn)
  exact h.each i nd (by rw[List.getElem?_eq_getElem hi,e]))
 have h3:(G.nodes.take k).length≤80000:=by have:=h.nodes;rw[List.length_take];omega
 have h4:(G.nodes.take k).length*(128+66*q)≤80000*(128+66*80000):=Nat.mul_le_mul h3 (by omega);omega
theorem b4l (h:(a0c G).1=0):a0m (a0a G.names) [] G.nodes=(0,(a0c G).2)∧(a0c G).2.length=G.nodes.length:=by
 have e:a0m (a0a G.names) [] G.nodes=(0,(a0c G).2):=by
  unfold a0c at h ⊢
  split
  ·rename_i h1;rw[iP h1] at h
   split
   ·rename_i h2;rw[iP h2] at h
    split
    ·rename_i h3;rw[iP h3] at h
     split
     ·exact Prod.ext h3 rfl
     ·rename_i h4;rw[iN h4] at h;cases h
    ·rename_i h3;rw[iN h3] at h;exact absurd h h3
   ·rename_i h2;rw[iN h2] at h;cases h
  ·rename_i h1;rw[iN h1] at h;cases h
 exact⟨e,by simpa using a8g _ _ _ _ e⟩
theorem b4s (h:(a0c G).1≠0):a3g G=(⟨#[]⟩,(a0c G).1):=by rw[a3g,iP h]
theorem a7p (h:(a0c G).1=0)(g:65536<(a1u G (a0c G).2).size):a3g G=(⟨#[]⟩,3):=by rw[a3g,iN (by simpa using h),iP g]
theorem a8u (h:(a0c G).1=0)(g:¬ 65536<(a1u G (a0c G).2).size):a3g G=(a1u G (a0c G).2,0):=by rw[a3g,iN (by simpa using h),iN g]
end Go.Proofs.YtdcmanhgekjhgaaDoor
