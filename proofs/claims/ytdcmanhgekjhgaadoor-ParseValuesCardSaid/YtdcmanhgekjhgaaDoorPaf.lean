import Derived.Test.YtdcmanhgekjhgaaDoorPad
import Derived.Test.YtdcmanhgekjhgaaDoorPae
set_option maxRecDepth 100000
set_option maxHeartbeats 12800000
namespace Go.Proofs.YtdcmanhgekjhgaaDoor
open Go.RowKit Go.Proofs.Tryd
variable {A:Option Addr} {e t:TypeId} {g k n:Nat} {v v0 v1 v2 v3 v4:Value} {vs:List Value} {w w':World} {xs:List Int}
inductive a0e
 | own (e:TypeId) (v:Value) (n:Nat) (xs:List Int)
 | row (e:TypeId) (k:Nat) (v:Value) (n:Nat) (us:List Value)
 | box (g:Nat) (t:TypeId) (vs:List Value)
 | ints (A:Option Addr) (n:Nat) (xs:List Int)
 | vals (A:Option Addr) (n k:Nat) (us:List Value)
 | tape (g:Nat)
def a0e.block:a0e→Option Nat
 | .own _ v _ _=>v.ownBlock
 | .row _ _ v _ _=>v.ownBlock
 | .box g _ _=>some g
 | .ints _ _ _=>none
 | .vals _ _ _ _=>none
 | .tape g=>some g
def c3m (w:World) (A:Option Addr) (n k:Nat) (us:List Value):Prop :=
 us.length=n*k∧(0<n→∃ ad,A=some ad∧ad.block<w.heap.size∧∀ j u,us[j]?=some u→w.cell? (ad.add j)=some u)
theorem c3m.grown {row:Option Nat}{us:List Value}(h:c3m w A n k us)(hg:w.grownBy w' row)(hne:∀ ad,A=some ad→0<n→some ad.block≠row):c3m w' A n k us :=
 ⟨h.1,fun hn=>by
  obtain⟨ad,e,hl,hc⟩:=h.2 hn
  exact⟨ad,e,Nat.lt_of_lt_of_le hl hg.size,fun j u hu=>hg.cell (hc j u hu) (by rw[a0l];exact hne ad e hn)⟩⟩
def a0e.holds (w:World) (base:Nat):a0e→Prop
 | .own e v n xs=>OwnS w base e v n xs
 | .row e k v n us=>w.ownsRow base e k v n us
 | .box g t vs=>base≤g∧w.heap[g]?=some (.cells vs.toArray t (0,0))
 | .ints A n xs=>Ints w A n xs∧∀ ad,A=some ad→0<n→ad.block<base
 | .vals A n k us=>c3m w A n k us∧∀ ad,A=some ad→0<n→ad.block<base
 | .tape g=>Tape w g∧g=base
theorem a1c {o:Obj}(h:w.heap[g]?=some o):g<w.heap.size:=by
 rcases Nat.lt_or_ge g w.heap.size with h' | h'
 ·exact h'
 ·rw[Array.getElem?_eq_none h'] at h;cases h
theorem a0e.block_ge {base:Nat}{c:a0e}(h:c.holds w base)(hk:c.block=some k):base≤k∧k<w.heap.size:=by
 cases c with
 | own e v n xs=>exact h.1.lt k hk
 | row e m v n us=>exact World.ownsRow.lt h k hk
 | box g t vs=>injection hk with hk;subst hk;exact⟨h.1,a1c h.2⟩
 | ints A n xs=>cases hk
 | vals A n k us=>cases hk
 | tape g=>injection hk with hk;subst hk;exact⟨by have:=h.2;omega,h.1.lt⟩
theorem a0e.kept {base:Nat}{c:a0e}{row:Option Nat}(h:c.holds w base)(hg:w.grownBy w' row)(hb:∀ r,row=some r→base≤r)(hne:∀ k,c.block=some k→row≠some k):c.holds w' base:=by
 cases c with
 | own e v n xs=>exact OwnS.grownNe h hg fun k hk he=>hne k hk he.symm
 | row e m v n us =>
  refine World.ownsRow.kept h hg ?_
  cases hv:v.ownBlock with
  | none=>exact .inl rfl
  | some k=>exact .inr fun he=>hne k hv he.symm
 | box g t vs=>exact⟨h.1,(hg.block g (a1c h.2) (fun he=>hne g rfl he.symm)).trans h.2⟩
 | ints A n xs=>exact⟨h.1.grown hg fun ad he hn e=>by have:=h.2 ad he hn;have:=hb _ e.symm;omega,h.2⟩
 | vals A n k us=>exact⟨h.1.grown hg fun ad he hn e=>by have:=h.2 ad he hn;have:=hb _ e.symm;omega,h.2⟩
 | tape g =>
  obtain⟨ht,hgb⟩:=h;have hl:=ht.lt;obtain⟨A,n,c,at_,xs,h1,ha,hI,hn⟩:=ht;exact⟨⟨A,n,c,at_,xs,(hg.block g hl (fun he=>hne g rfl he.symm)).trans h1,ha,hI.grown hg (fun ad he hp e=>by have:=hn ad he hp;have:=hb _ e.symm;omega),hn⟩,hgb⟩
def b2y (a b:a0e):Prop:=∀ k,a.block=some k→b.block≠some k
theorem b2y.symm {a b:a0e}(h:b2y a b):b2y b a:=fun k hb ha=>h k ha hb
def Sep (w0 w:World) (l:List a0e):Prop :=
 Below w0.heap.size w0 w∧(∀(i:Nat) (c:a0e),l[i]?=some c→c.holds w w0.heap.size)∧(∀(i j:Nat) (a b:a0e),i≠j→l[i]?=some a→l[j]?=some b→b2y a b)
section
variable {w0 w w' : World} {l : List a0e}
theorem Sep.base (h:Sep w0 w l):Below w0.heap.size w0 w:=h.1
theorem Sep.at_ (h:Sep w0 w l)(i:Nat){c:a0e}(hi:l[i]?=some c):c.holds w w0.heap.size:=h.2.1 i c hi
theorem Sep.size (h:Sep w0 w l):w0.heap.size≤w.heap.size:=h.1.size
theorem Sep.nil (w:World):Sep w w []:=⟨Below.refl _ _,(fun i c hi=>by simp at hi),(fun i j a b _ hi=>by simp at hi)⟩
theorem Sep.cons_ {c:a0e}(hB:Below w0.heap.size w0 w)(hc:c.holds w w0.heap.size)(hl:∀(i:Nat) (d:a0e),l[i]?=some d→d.holds w w0.heap.size)(ha:∀(i:Nat) (d:a0e),l[i]?=some d→b2y c d)(hp:∀(i j:Nat) (a b:a0e),i≠j→l[i]?=some a→l[j]?=some b→b2y a b):
  Sep w0 w (c::l) :=
 ⟨hB,(fun i d hi=>by
  cases i with
  | zero=>simp at hi;subst hi;exact hc
  | succ i=>exact hl i d (by simpa using hi)),(fun i j a b hij hi hj=>by
  cases i with
  | zero =>
   simp at hi;subst hi
   cases j with
   | zero=>exact absurd rfl hij
   | succ j=>exact ha j b (by simpa using hj)
  | succ i =>
   cases j with
   | zero=>simp at hj;subst hj;exact(ha i a (by simpa using hi)).symm
   | succ j=>exact hp i j a b (by omega) (by simpa using hi) (by simpa using hj))⟩
theorem Sep.old (h:Sep w w l)(hI:Ints w A n xs):Sep w w (.ints A n xs::l) :=
 Sep.cons_ h.1 ⟨hI,fun ad he hn=>by
  obtain⟨ad', e', hb,_⟩:=hI.2.2.2 hn
  rw[e'] at he;injection he with he;subst he;exact hb⟩ h.2.1 (fun i d hi k hk=>by cases hk) h.2.2
theorem Sep.below (h:Sep w0 w l)(hb:Below w.heap.size w w'):Sep w0 w' l :=
 ⟨a4o h.1 hb,(fun i c hi=>a0e.kept (row:=none) (h.2.1 i c hi) (a3r hb none) (by simp) (by simp)),h.2.2⟩
theorem Sep.drewN (h:Sep w0 w l)(k:Nat):Sep w0 (w.drewN k) l:=h.below (a5t (Below.refl _ _) k)
theorem Sep.drew (h:Sep w0 w l):Sep w0 w.drew l:=h.drewN 1
theorem Sep.push {c:a0e}(h:Sep w0 w l)(hb:Below w.heap.size w w')(hc:c.holds w' w0.heap.size)(hn:∀ k,c.block=some k→w.heap.size≤k):Sep w0 w' (c::l):=by
 have h':=h.below hb;exact Sep.cons_ h'.1 hc h'.2.1 (fun i d hi k hk hd=>by have:=hn k hk;have:=(a0e.block_ge (h.2.1 i d hi) hd).2;omega) h.2.2
theorem Sep.addOwn (h:Sep w0 w l)(hb:Below w.heap.size w w')(ho:OwnS w' w.heap.size e v n xs):Sep w0 w' (.own e v n xs::l) :=
 h.push hb (ho.mono h.size) fun k hk=>(ho.1.lt k hk).1
theorem Sep.allocBox (h:Sep w0 w l)(g:Nat)(t:TypeId)(vs:List Value)(hg:w.heap.size=g):Sep w0 (w.alloc (.cells vs.toArray t)) (.box g t vs::l):=by
 subst hg;exact h.push ((Below.refl _ _).alloc (Nat.le_refl _) _) ⟨h.size,heap_alloc_new w _⟩ fun k hk=>by injection hk with hk;omega
theorem Sep.sub {l' : List a0e}(h:Sep w0 w l)(f:List Nat)(hf:f.map (fun i:Nat=>l[i]?)=l'.map some)(hd:f.Nodup):Sep w0 w l':=by
 have key:∀(i:Nat) (c:a0e),l'[i]?=some c→∃ k:Nat,f[i]?=some k∧l[k]?=some c:=by
  intro i c hi;have:(f.map (fun i:Nat=>l[i]?))[i]?=some (some c):=by rw[hf,List.getElem?_map,hi];rfl
  rw[List.getElem?_map,Option.map_eq_some_iff] at this;exact this
 refine⟨h.1,fun i c hi=>?_,fun i j a b hij hi hj=>?_⟩
 ·obtain⟨k,_,hk⟩:=key i c hi;exact h.2.1 k c hk
 ·obtain⟨k,hfk,hk⟩:=key i a hi;obtain⟨m,hfm,hm⟩:=key j b hj;refine h.2.2 k m a b (fun e=>?_) hk hm;subst e;exact hij ((List.getElem?_inj (lL hfk) hd).1 (hfk.trans hfm.symm))
theorem Sep.change {c d:a0e}(h:Sep w0 w l)(i:Nat)(hi:l[i]?=some c)(hg:w.grownBy w' c.block)(hd:d.holds w' w0.heap.size)(hb:∀ k,d.block=some k→c.block=some k∨w.heap.size≤k):Sep w0 w' (l.set i d):=by
 have hc:=h.2.1 i c hi;have hil:i<l.length:=(lL hi)
 have other:∀(j:Nat) (a:a0e),j≠i→l[j]?=some a→b2y d a:=fun j a hj ha k hk hak=>by
  rcases hb k hk with e|e
  ·exact h.2.2 i j c a (Ne.symm hj) hi ha k e hak
  ·have:=(a0e.block_ge (h.2.1 j a ha) hak).2;omega
 refine⟨h.1.grown hg h.size fun k hk=>(a0e.block_ge hc hk).1,fun j a hj=>?_,fun j m a b hjm hj hm=>?_⟩
 ·rw[List.getElem?_set] at hj;by_cases e:i=j
  ·subst e;rw[iP rfl,iP hil] at hj;injection hj with hj;subst hj;exact hd
  ·rw[iN e] at hj;exact a0e.kept (h.2.1 j a hj) hg (fun r hr=>(a0e.block_ge hc hr).1) fun k hk hr=>h.2.2 i j c a e hi hj k hr hk
 ·rw[List.getElem?_set] at hj hm;by_cases e:i=j
  ·subst e;rw[iP rfl,iP hil] at hj;injection hj with hj;subst hj
   rw[iN hjm] at hm;exact other m b (Ne.symm hjm) hm
  ·rw[iN e] at hj;by_cases e' : i=m
   ·subst e';rw[iP rfl,iP hil] at hm;injection hm with hm;subst hm
    exact(other j a (Ne.symm e) hj).symm
   ·rw[iN e'] at hm;exact h.2.2 j m a b hjm hj hm
theorem Sep.store {c:Nat}(h:Sep w0 w l)(i j:Nat){x:Int}(hx:Fits x)(hi:l[i]?=some (.own e (.slice (some ⟨g,0,none⟩) n c) n xs)):
  Sep w0 (w.setCell ⟨g,j,none⟩ (.int .i64 x)) (l.set i (.own e (.slice (some ⟨g,0,none⟩) n c) n (xs.set j x))):=by
 have ho:Own w w0.heap.size e g n c xs:=h.2.1 i _ hi;exact h.change i hi (a2q w g j _) (ho.store j hx) fun k hk=>.inl hk
theorem Sep.setBox (h:Sep w0 w l)(i j:Nat)(v:Value)(hi:l[i]?=some (.box g t vs)):
  Sep w0 (w.setCell ⟨g,j,none⟩ v) (l.set i (.box g t (vs.set j v))):=by
 obtain⟨hg,hh⟩:=h.2.1 i _ hi;refine h.change i hi (a2q w g j _) ⟨hg,?_⟩ fun k hk=>.inl hk
 have:=heap_setCell_same w g j vs.toArray t v hh;simpa using this
theorem Sep.grow {e':TypeId}{v':Value}{n':Nat}{xs':List Int}(h:Sep w0 w l)(i:Nat)(hi:l[i]?=some (.own e v n xs))(hg:w.grownBy w' v.ownBlock)(ho:OwnS w' w0.heap.size e' v' n' xs')(hv:v'.ownBlock=v.ownBlock∨v'.ownBlock=some w.heap.size):
  Sep w0 w' (l.set i (.own e' v' n' xs')) :=
 h.change i hi hg ho fun k hk=>by
  have hk:v'.ownBlock=some k:=hk;rcases hv with e|e
  ·exact .inl (e.symm.trans hk)
  ·rw[e] at hk;injection hk with hk;exact .inr (by omega)
theorem c8u {α : Type}{l:List α}{i:Nat}{x : α}(h:l[i]?=some x):l.set i x=l:=by
 apply List.ext_getElem?;intro j;rw[List.getElem?_set];by_cases hj:i=j
 ·subst hj;rw[iP rfl,h,iP (lL h)]
 ·rw[iN hj]
theorem Sep.tape (h:Sep w0 w l)(i:Nat)(hi:l[i]?=some (.tape g)):Tape w g:=(h.2.1 i _ hi).1
theorem Sep.pushNew {c:a0e}(h:Sep w0 w l)(h' : Sep w0 w' l)(hc:c.holds w' w0.heap.size)(hn:∀ k,c.block=some k→w.heap.size≤k):Sep w0 w' (c::l) :=
 Sep.cons_ h'.1 hc h'.2.1 (fun i d hi k hk hd=>by have:=hn k hk;have:=(a0e.block_ge (h.2.1 i d hi) hd).2;omega) h.2.2
theorem Sep.cell (h:Sep w0 w l)(i j:Nat)(hi:l[i]?=some (.box g t vs))(hj:vs[j]?=some v):w.cell? ⟨g,j,none⟩=some v :=
 cell_of_row _ _ j _ _ _ (h.2.1 i _ hi).2 |>.trans (by simpa using hj)
theorem Sep.c (h:Sep w0 w l)(i j:Nat)(hi:l[i]?=some (.box g t vs):=by rfl)(hj:vs[j]?=some v:=by rfl):w.cell? ⟨g,j,none⟩=some v:=h.cell i j hi hj
theorem Sep.cells4 (h:Sep w0 w l)(i:Nat)(hi:l[i]?=some (.box g t [v0,v1,v2,v3])):w.cell? ⟨g,0,none⟩=some v0∧w.cell? ⟨g,1,none⟩=some v1∧w.cell? ⟨g,2,none⟩=some v2∧w.cell? ⟨g,3,none⟩=some v3 :=
 ⟨h.cell i 0 hi rfl,h.cell i 1 hi rfl,h.cell i 2 hi rfl,h.cell i 3 hi rfl⟩
theorem Sep.cells7 (h:Sep w0 w l)(i:Nat){v5 v6:Value}(hi:l[i]?=some (.box g t [v0,v1,v2,v3,v4,v5,v6])):w.cell? ⟨g,0,none⟩=some v0∧w.cell? ⟨g,1,none⟩=some v1∧w.cell? ⟨g,2,none⟩=some v2∧w.cell? ⟨g,3,none⟩=some v3∧w.cell? ⟨g,4,none⟩=some v4∧w.cell? ⟨g,5,none⟩=some v5∧w.cell? ⟨g,6,none⟩=some v6 :=
 ⟨h.cell i 0 hi rfl,h.cell i 1 hi rfl,h.cell i 2 hi rfl,h.cell i 3 hi rfl,h.cell i 4 hi rfl,h.cell i 5 hi rfl,h.cell i 6 hi rfl⟩
theorem Sep.frozenBox (h:Sep w0 w l)(i j:Nat)(hi:l[i]?=some (.box g t vs)):w.frozen? ⟨g,j,none⟩=false :=
 frozen_of_row _ _ j _ _ (h.2.1 i _ hi).2
theorem Sep.z2 (h:Sep w0 w l)(i:Nat)(hi:l[i]?=some (.box g t (v0::v1::vs))):w.cell? ⟨g,0,none⟩=some v0∧w.cell? ⟨g,1,none⟩=some v1:=⟨h.cell i 0 hi rfl,h.cell i 1 hi rfl⟩
theorem Sep.z3 (h:Sep w0 w l)(i:Nat)(hi:l[i]?=some (.box g t (v0::v1::v2::vs))):w.cell? ⟨g,0,none⟩=some v0∧w.cell? ⟨g,1,none⟩=some v1∧w.cell? ⟨g,2,none⟩=some v2:=⟨h.cell i 0 hi rfl,h.cell i 1 hi rfl,h.cell i 2 hi rfl⟩
theorem Sep.z4 (h:Sep w0 w l)(i:Nat)(hi:l[i]?=some (.box g t (v0::v1::v2::v3::vs))):w.cell? ⟨g,0,none⟩=some v0∧w.cell? ⟨g,1,none⟩=some v1∧w.cell? ⟨g,2,none⟩=some v2∧w.cell? ⟨g,3,none⟩=some v3:=⟨h.cell i 0 hi rfl,h.cell i 1 hi rfl,h.cell i 2 hi rfl,h.cell i 3 hi rfl⟩
theorem Sep.z5 (h:Sep w0 w l)(i:Nat)(hi:l[i]?=some (.box g t (v0::v1::v2::v3::v4::vs))):w.cell? ⟨g,0,none⟩=some v0∧w.cell? ⟨g,1,none⟩=some v1∧w.cell? ⟨g,2,none⟩=some v2∧w.cell? ⟨g,3,none⟩=some v3∧w.cell? ⟨g,4,none⟩=some v4:=⟨h.cell i 0 hi rfl,h.cell i 1 hi rfl,h.cell i 2 hi rfl,h.cell i 3 hi rfl,h.cell i 4 hi rfl⟩
theorem Sep.f2 (h:Sep w0 w l)(i:Nat)(hi:l[i]?=some (.box g t vs)):w.frozen? ⟨g,0,none⟩=false∧w.frozen? ⟨g,1,none⟩=false:=⟨h.frozenBox i 0 hi,h.frozenBox i 1 hi⟩
theorem Sep.b2 (h:Sep w0 w l)(i:Nat)(hi:l[i]?=some (.box g t (v0::v1::vs)):=by rfl):w.cell? ⟨g,0,none⟩=some v0∧w.cell? ⟨g,1,none⟩=some v1∧w.frozen? ⟨g,0,none⟩=false∧w.frozen? ⟨g,1,none⟩=false:=⟨h.cell i 0 hi rfl,h.cell i 1 hi rfl,h.frozenBox i 0 hi,h.frozenBox i 1 hi⟩
theorem Sep.f4 (h:Sep w0 w l)(i:Nat)(hi:l[i]?=some (.box g t vs)):w.frozen? ⟨g,0,none⟩=false∧w.frozen? ⟨g,1,none⟩=false∧w.frozen? ⟨g,2,none⟩=false∧w.frozen? ⟨g,3,none⟩=false:=⟨h.frozenBox i 0 hi,h.frozenBox i 1 hi,h.frozenBox i 2 hi,h.frozenBox i 3 hi⟩
theorem Sep.f7 (h:Sep w0 w l)(i:Nat)(hi:l[i]?=some (.box g t vs)):w.frozen? ⟨g,0,none⟩=false∧w.frozen? ⟨g,1,none⟩=false∧w.frozen? ⟨g,2,none⟩=false∧w.frozen? ⟨g,3,none⟩=false∧w.frozen? ⟨g,4,none⟩=false∧w.frozen? ⟨g,5,none⟩=false∧w.frozen? ⟨g,6,none⟩=false:=⟨h.frozenBox i 0 hi,h.frozenBox i 1 hi,h.frozenBox i 2 hi,h.frozenBox i 3 hi,h.frozenBox i 4 hi,h.frozenBox i 5 hi,h.frozenBox i 6 hi⟩
abbrev oN:a0e:=.own 3 (.slice none 0 0) 0 []
theorem Sep.heap (h:Sep w0 w l)(i:Nat)(hi:l[i]?=some (.box g t vs)):w.heap[g]?=some (.cells vs.toArray t (0,0)):=(h.2.1 i _ hi).2
theorem Sep.ownS (h:Sep w0 w l)(i:Nat)(hi:l[i]?=some (.own e v n xs)):OwnS w w0.heap.size e v n xs:=h.2.1 i _ hi
theorem Sep.own (h:Sep w0 w l)(i:Nat){c:Nat}(hi:l[i]?=some (.own e (.slice (some ⟨g,0,none⟩) n c) n xs)):Own w w0.heap.size e g n c xs:=h.2.1 i _ hi
theorem Sep.oldInts (h:Sep w0 w l)(i:Nat)(hi:l[i]?=some (.ints A n xs)):Ints w A n xs:=(h.2.1 i _ hi).1
theorem Sep.ownInts (h:Sep w0 w l)(i:Nat){m c:Nat}(hi:l[i]?=some (.own e (.slice A m c) n xs)):m=n∧m≤c∧Ints w A n xs:=by
 obtain⟨A', c', hv,hc,hI,_⟩:=OwnS.form (h.2.1 i _ hi);injection hv with h1 h2 h3
 subst h1;subst h2;subst h3;exact⟨rfl,hc,hI⟩
theorem Sep.blockLt (h:Sep w0 w l)(i:Nat)(hi:l[i]?=some (.box g t vs)):w0.heap.size≤g∧g<w.heap.size:=⟨(h.2.1 i _ hi).1,a1c (h.2.1 i _ hi).2⟩
end
end Go.Proofs.YtdcmanhgekjhgaaDoor
namespace Go.Proofs.YtdcmanhgekjhgaaDoor.Sh
def iota (s:List Int) (a:Nat):List Int:=(List.range (size s).toNat).map fun (i:Nat)=>(place s (i:Int)).getD a 0
end Go.Proofs.YtdcmanhgekjhgaaDoor.Sh
namespace Go.Proofs.YtdcmanhgekjhgaaDoor
open Go.RowKit Go.Proofs.Tryd
def Ten (w:World) (v:Value) (s d:List Int):Prop :=
 ∃(A:Option Addr) (n c:Nat) (B:Option Addr) (m e:Nat),v=.agg #[.slice A n c,.slice B m e]∧n≤c∧m≤e∧Ints w A n s∧Ints w B m d
def OTen (w:World) (base:Nat) (v:Value) (s d:List Int):Prop :=
 ∃(vs vd:Value) (n m:Nat),v=.agg #[vs,vd]∧OwnS w base 3 vs n s∧OwnS w base 2 vd m d
section
variable {w w' : World} {base : Nat} {v : Value} {s d : List Int}
theorem Ten.below (h:Ten w v s d) (hb:Below w.heap.size w w'):Ten w' v s d:=by
 obtain⟨A,n,c,B,m,e,rfl,h1,h2,h3,h4⟩:=h;exact⟨A,n,c,B,m,e,rfl,h1,h2,h3.below hb,h4.below hb⟩
theorem OTen.below (h:OTen w base v s d) (hb:Below w.heap.size w w'):OTen w' base v s d:=by
 obtain⟨vs,vd,n,m,rfl,h1,h2⟩:=h;exact⟨vs,vd,n,m,rfl,h1.below hb,h2.below hb⟩
end
def a0d (s d:List Int):Bool:=Sh.right s&&decide ((d.length:Int)=Sh.size s)
theorem c8z:(3:TypeId)≠2∧(3:TypeId)≠99999∧(2:TypeId)≠99999∧(99999:TypeId)≠2:=by decide
theorem b6t {w:World} {g:Nat} {x y:Value} {t:TypeId} (h:w.heap[g]?=some (.cells #[x,y] t (0,0))):w.cell? ⟨g,0,none⟩=some x:=by rw[cell_of_row _ _ 0 _ _ _ h];rfl
end Go.Proofs.YtdcmanhgekjhgaaDoor
namespace Go.Proofs.YtdcmanhgekjhgaaDoor
open Go.RowKit Go.Proofs.Tryd
variable {e:TypeId} {n:Nat} {w:World}
theorem Tryd.sizeInt:(prog.info? 3).map (·.size)=some 1:=by kernel_rfl
def noughts (n:Nat):Array Value:=(List.replicate n (Value.int .i64 0)).toArray
theorem a3y (n:Nat):madeCells #[Value.int .i64 0] n=noughts n:=by
 apply Array.toList_inj.1;rw[toList_madeCells_one];simp[noughts]
theorem a2m {t:TypeId}(ht:prog.underlying t=some (.slice e))(hinfo:(prog.info? e).map (fun i=>(i.zero,i.size,i.bytes))=some (some (.int .i64 0),1,8))
  (hn:n≤17592186044000)(w:World):
  (Instr.makeSlice t (.int .i64 n) (.int .i64 n)).run prog w=.ok (.slice (some ⟨w.heap.size,0,none⟩) n n) (w.alloc (.cells (noughts n) e)):=by
 obtain⟨i,hi,hz0,hz1,hz2⟩:=info_parts hinfo;have:=run_make (P:=prog) w t e i (.int .i64 0) ht hi hz0 .i64 .i64 n n (by omega) (by omega) (by rw[hz2];omega) (by omega);rw[this,hz1];simp only[Int.toNat_natCast,Nat.mul_one];rw[←a3y];rfl
theorem b6a {g base:Nat}(hg:w.heap[g]?=some (.cells (noughts n) e (0,0)))(hb:base≤g)(hn:n≤17592186044000):Own w base e g n n (List.replicate n 0):=by
 refine⟨⟨by simp,.inr ⟨g,n,noughts n,rfl,hb,hg,Nat.le_refl _,by unfold maxLen;omega,by simp[noughts],by simp[noughts]⟩⟩,?_,by omega⟩;intro x hx;rw[List.eq_of_mem_replicate hx];exact⟨by omega,by omega⟩
theorem Ints.lt {A:Option Addr}{xs:List Int}(h:Ints w A n xs):∀ ad,A=some ad→0<n→ad.block<w.heap.size:=fun ad he hn=>by
 obtain⟨a', e', hb,_⟩:=h.2.2.2 hn;rw[e'] at he;injection he with he
 rw[←he];exact hb
end Go.Proofs.YtdcmanhgekjhgaaDoor
