import Derived.Test.YtdcmanhgekjhgaaGreatDoorPac
set_option maxRecDepth 100000
set_option maxHeartbeats 12800000
namespace Go.Proofs.YtdcmanhgekjhgaaGreatDoor
open Go.RowKit Go.Proofs.Tryz
variable {A B:Option Addr} {d g k m n n':Nat} {e e' t:TypeId} {v v' v0 v1 v2 v3 v4:Value} {vs:List Value} {w w':World} {xs xs' ys:List Int}
inductive a0e
 | own (e:TypeId) (v:Value) (n:Nat) (xs:List Int)
 | row (e:TypeId) (k:Nat) (v:Value) (n:Nat) (us:List Value)
 | box (g:Nat) (t:TypeId) (vs:List Value)
 | ints (A:Option Addr) (n:Nat) (xs:List Int)
 | vals (A:Option Addr) (n k:Nat) (us:List Value)
 | tape (g:Nat)
def a0e.block:a0e→Option Nat
 | .own _ v _ _=>v.ownBlock
 | .row _ _ v _ _=>v.ownBlock
 | .box g _ _=>some g
 | .ints _ _ _=>none
 | .vals _ _ _ _=>none
 | .tape g=>some g
def d9u (w:World) (A:Option Addr) (n k:Nat) (us:List Value):Prop :=
 us.length=n*k∧(0<n→∃ ad,A=some ad∧ad.block<w.heap.size∧∀ j u,us[j]?=some u→w.cell? (ad.add j)=some u)
theorem d9u.grown {row:Option Nat}{us:List Value}(h:d9u w A n k us)(hg:w.grownBy w' row)(hne:∀ ad,A=some ad→0<n→some ad.block≠row):d9u w' A n k us :=
 ⟨h.1,fun hn=>by
  obtain⟨ad,e,hl,hc⟩:=h.2 hn
  exact⟨ad,e,Nat.lt_of_lt_of_le hl hg.size,fun j u hu=>hg.cell (hc j u hu) (by rw[a0d];exact hne ad e hn)⟩⟩
def a0e.holds (w:World) (base:Nat):a0e→Prop
 | .own e v n xs=>OwnS w base e v n xs
 | .row e k v n us=>w.ownsRow base e k v n us
 | .box g t vs=>base≤g∧w.heap[g]?=some (.cells vs.toArray t (0,0))
 | .ints A n xs=>Ints w A n xs∧∀ ad,A=some ad→0<n→ad.block<base
 | .vals A n k us=>d9u w A n k us∧∀ ad,A=some ad→0<n→ad.block<base
 | .tape g=>Tape w g∧g=base
theorem a2y {o:Obj}(h:w.heap[g]?=some o):g<w.heap.size:=by
 rcases Nat.lt_or_ge g w.heap.size with h' | h'
 ·exact h'
 ·rw[Array.getElem?_eq_none h'] at h;cases h
theorem a0e.block_ge {base:Nat}{c:a0e}(h:c.holds w base)(hk:c.block=some k):base≤k∧k<w.heap.size:=by
 cases c with
 | own e v n xs=>exact h.1.lt k hk
 | row e m v n us=>exact World.ownsRow.lt h k hk
 | box g t vs=>injection hk with hk;subst hk;exact⟨h.1,a2y h.2⟩
 | ints A n xs=>cases hk
 | vals A n k us=>cases hk
 | tape g=>injection hk with hk;subst hk;exact⟨by have:=h.2;omega,h.1.lt⟩
theorem a0e.kept {base:Nat}{c:a0e}{row:Option Nat}(h:c.holds w base)(hg:w.grownBy w' row)(hb:∀ r,row=some r→base≤r)(hne:∀ k,c.block=some k→row≠some k):c.holds w' base:=by
 cases c with
 | own e v n xs=>exact OwnS.grownNe h hg fun k hk he=>hne k hk he.symm
 | row e m v n us =>
  refine World.ownsRow.kept h hg ?_
  cases hv:v.ownBlock with
  | none=>exact .inl rfl
  | some k=>exact .inr fun he=>hne k hv he.symm
 | box g t vs=>exact⟨h.1,(hg.block g (a2y h.2) (fun he=>hne g rfl he.symm)).trans h.2⟩
 | ints A n xs=>exact⟨h.1.grown hg fun ad he hn e=>by have:=h.2 ad he hn;have:=hb _ e.symm;omega,h.2⟩
 | vals A n k us=>exact⟨h.1.grown hg fun ad he hn e=>by have:=h.2 ad he hn;have:=hb _ e.symm;omega,h.2⟩
 | tape g =>
  obtain⟨ht,hgb⟩:=h;have hl:=ht.lt;obtain⟨A,n,c,at_,xs,h1,ha,hI,hn⟩:=ht;exact⟨⟨A,n,c,at_,xs,(hg.block g hl (fun he=>hne g rfl he.symm)).trans h1,ha,hI.grown hg (fun ad he hp e=>by have:=hn ad he hp;have:=hb _ e.symm;omega),hn⟩,hgb⟩
def c4n (a b:a0e):Prop:=∀ k,a.block=some k→b.block≠some k
theorem c4n.symm {a b:a0e}(h:c4n a b):c4n b a:=fun k hb ha=>h k ha hb
def Sep (w0 w:World) (l:List a0e):Prop :=
 Below w0.heap.size w0 w∧(∀(i:Nat) (c:a0e),l[i]?=some c→c.holds w w0.heap.size)∧(∀(i j:Nat) (a b:a0e),i≠j→l[i]?=some a→l[j]?=some b→c4n a b)
section
variable {w0 w w' : World} {l : List a0e}
theorem Sep.base (h:Sep w0 w l):Below w0.heap.size w0 w:=h.1
theorem Sep.at_ (h:Sep w0 w l)(i:Nat){c:a0e}(hi:l[i]?=some c):c.holds w w0.heap.size:=h.2.1 i c hi
theorem Sep.size (h:Sep w0 w l):w0.heap.size≤w.heap.size:=h.1.size
theorem Sep.nil (w:World):Sep w w []:=⟨Below.refl _ _,(fun i c hi=>by simp at hi),(fun i j a b _ hi=>by simp at hi)⟩
theorem Sep.cons_ {c:a0e}(hB:Below w0.heap.size w0 w)(hc:c.holds w w0.heap.size)(hl:∀(i:Nat) (d:a0e),l[i]?=some d→d.holds w w0.heap.size)(ha:∀(i:Nat) (d:a0e),l[i]?=some d→c4n c d)(hp:∀(i j:Nat) (a b:a0e),i≠j→l[i]?=some a→l[j]?=some b→c4n a b):
  Sep w0 w (c::l) :=
 ⟨hB,(fun i d hi=>by
  cases i with
  | zero=>simp at hi;subst hi;exact hc
  | succ i=>exact hl i d (by simpa using hi)),(fun i j a b hij hi hj=>by
  cases i with
  | zero =>
   simp at hi;subst hi
   cases j with
   | zero=>exact absurd rfl hij
   | succ j=>exact ha j b (by simpa using hj)
  | succ i =>
   cases j with
   | zero=>simp at hj;subst hj;exact(ha i a (by simpa using hi)).symm
   | succ j=>exact hp i j a b (by omega) (by simpa using hi) (by simpa using hj))⟩
theorem Sep.old (h:Sep w w l)(hI:Ints w A n xs):Sep w w (.ints A n xs::l) :=
 Sep.cons_ h.1 ⟨hI,fun ad he hn=>by
  obtain⟨ad', e', hb,_⟩:=hI.2.2.2 hn
  rw[e'] at he;injection he with he;subst he;exact hb⟩ h.2.1 (fun i d hi k hk=>by cases hk) h.2.2
theorem Sep.below (h:Sep w0 w l)(hb:Below w.heap.size w w'):Sep w0 w' l :=
 ⟨a1c h.1 hb,(fun i c hi=>a0e.kept (row:=none) (h.2.1 i c hi) (a8b hb none) (by simp) (by simp)),h.2.2⟩
theorem Sep.drewN (h:Sep w0 w l)(k:Nat):Sep w0 (w.drewN k) l:=h.below (a1h (Below.refl _ _) k)
theorem Sep.drew (h:Sep w0 w l):Sep w0 w.drew l:=h.drewN 1
theorem Sep.push {c:a0e}(h:Sep w0 w l)(hb:Below w.heap.size w w')(hc:c.holds w' w0.heap.size)(hn:∀ k,c.block=some k→w.heap.size≤k):Sep w0 w' (c::l):=by
 have h':=h.below hb;exact Sep.cons_ h'.1 hc h'.2.1 (fun i d hi k hk hd=>by have:=hn k hk;have:=(a0e.block_ge (h.2.1 i d hi) hd).2;omega) h.2.2
theorem Sep.addOwn (h:Sep w0 w l)(hb:Below w.heap.size w w')(ho:OwnS w' w.heap.size e v n xs):Sep w0 w' (.own e v n xs::l) :=
 h.push hb (ho.mono h.size) fun k hk=>(ho.1.lt k hk).1
theorem Sep.addOwn2 (h:Sep w0 w l)(hb:Below w.heap.size w w')(ho:OwnS w' w.heap.size e v n xs)(ho' : OwnS w' w.heap.size e' v' n' xs')(hne:e' ≠ e):Sep w0 w' (.own e v n xs::.own e' v' n' xs' :: l):=by
 have h1:=h.addOwn hb ho';refine Sep.cons_ h1.1 (ho.mono h.size) h1.2.1 (fun i d hi k hk hd=>?_) h1.2.2
 cases i with
 | zero =>
  simp at hi;subst hi;obtain⟨cs,hx⟩:=ho.blk hk
  exact ho'.apart hx hne k hd rfl
 | succ i =>
  have:=(ho.1.lt k hk).1;have:=(a0e.block_ge (h.2.1 i d (by simpa using hi)) hd).2;omega
theorem Sep.allocBox (h:Sep w0 w l)(g:Nat)(t:TypeId)(vs:List Value)(hg:w.heap.size=g):Sep w0 (w.alloc (.cells vs.toArray t)) (.box g t vs::l):=by
 subst hg;exact h.push ((Below.refl _ _).alloc (Nat.le_refl _) _) ⟨h.size,heap_alloc_new w _⟩ fun k hk=>by injection hk with hk;omega
theorem Sep.sub {l' : List a0e}(h:Sep w0 w l)(f:List Nat)(hf:f.map (fun i:Nat=>l[i]?)=l'.map some)(hd:f.Nodup):Sep w0 w l':=by
 have key:∀(i:Nat) (c:a0e),l'[i]?=some c→∃ k:Nat,f[i]?=some k∧l[k]?=some c:=by
  intro i c hi;have:(f.map (fun i:Nat=>l[i]?))[i]?=some (some c):=by rw[hf,List.getElem?_map,hi];rfl
  rw[List.getElem?_map,Option.map_eq_some_iff] at this;exact this
 refine⟨h.1,fun i c hi=>?_,fun i j a b hij hi hj=>?_⟩
 ·obtain⟨k,_,hk⟩:=key i c hi;exact h.2.1 k c hk
 ·obtain⟨k,hfk,hk⟩:=key i a hi;obtain⟨m,hfm,hm⟩:=key j b hj;refine h.2.2 k m a b (fun e=>?_) hk hm;subst e;exact hij ((List.getElem?_inj (lL hfk) hd).1 (hfk.trans hfm.symm))
theorem Sep.change {c d:a0e}(h:Sep w0 w l)(i:Nat)(hi:l[i]?=some c)(hg:w.grownBy w' c.block)(hd:d.holds w' w0.heap.size)(hb:∀ k,d.block=some k→c.block=some k∨w.heap.size≤k):Sep w0 w' (l.set i d):=by
 have hc:=h.2.1 i c hi;have hil:i<l.length:=(lL hi)
 have other:∀(j:Nat) (a:a0e),j≠i→l[j]?=some a→c4n d a:=fun j a hj ha k hk hak=>by
  rcases hb k hk with e|e
  ·exact h.2.2 i j c a (Ne.symm hj) hi ha k e hak
  ·have:=(a0e.block_ge (h.2.1 j a ha) hak).2;omega
 refine⟨h.1.grown hg h.size fun k hk=>(a0e.block_ge hc hk).1,fun j a hj=>?_,fun j m a b hjm hj hm=>?_⟩
 ·rw[List.getElem?_set] at hj;by_cases e:i=j
  ·subst e;rw[iP rfl,iP hil] at hj;injection hj with hj;subst hj;exact hd
  ·rw[iN e] at hj;exact a0e.kept (h.2.1 j a hj) hg (fun r hr=>(a0e.block_ge hc hr).1) fun k hk hr=>h.2.2 i j c a e hi hj k hr hk
 ·rw[List.getElem?_set] at hj hm;by_cases e:i=j
  ·subst e;rw[iP rfl,iP hil] at hj;injection hj with hj;subst hj
   rw[iN hjm] at hm;exact other m b (Ne.symm hjm) hm
  ·rw[iN e] at hj;by_cases e' : i=m
   ·subst e';rw[iP rfl,iP hil] at hm;injection hm with hm;subst hm
    exact(other j a (Ne.symm e) hj).symm
   ·rw[iN e'] at hm;exact h.2.2 j m a b hjm hj hm
theorem Sep.store {c:Nat}(h:Sep w0 w l)(i j:Nat){x:Int}(hx:Fits x)(hi:l[i]?=some (.own e (.slice (some ⟨g,0,none⟩) n c) n xs)):
  Sep w0 (w.setCell ⟨g,j,none⟩ (.int .i64 x)) (l.set i (.own e (.slice (some ⟨g,0,none⟩) n c) n (xs.set j x))):=by
 have ho:Own w w0.heap.size e g n c xs:=h.2.1 i _ hi;exact h.change i hi (a0y w g j _) (ho.store j hx) fun k hk=>.inl hk
theorem Sep.setBox (h:Sep w0 w l)(i j:Nat)(v:Value)(hi:l[i]?=some (.box g t vs)):
  Sep w0 (w.setCell ⟨g,j,none⟩ v) (l.set i (.box g t (vs.set j v))):=by
 obtain⟨hg,hh⟩:=h.2.1 i _ hi;refine h.change i hi (a0y w g j _) ⟨hg,?_⟩ fun k hk=>.inl hk
 have:=heap_setCell_same w g j vs.toArray t v hh;simpa using this
theorem Sep.grow (h:Sep w0 w l)(i:Nat)(hi:l[i]?=some (.own e v n xs))(hg:w.grownBy w' v.ownBlock)(ho:OwnS w' w0.heap.size e' v' n' xs')(hv:v'.ownBlock=v.ownBlock∨v'.ownBlock=some w.heap.size):
  Sep w0 w' (l.set i (.own e' v' n' xs')) :=
 h.change i hi hg ho fun k hk=>by
  have hk:v'.ownBlock=some k:=hk;rcases hv with e|e
  ·exact .inl (e.symm.trans hk)
  ·rw[e] at hk;injection hk with hk;exact .inr (by omega)
theorem e3y {α : Type}{l:List α}{i:Nat}{x : α}(h:l[i]?=some x):l.set i x=l:=by
 apply List.ext_getElem?;intro j;rw[List.getElem?_set];by_cases hj:i=j
 ·subst hj;rw[iP rfl,h,iP (lL h)]
 ·rw[iN hj]
theorem Sep.tape (h:Sep w0 w l)(i:Nat)(hi:l[i]?=some (.tape g)):Tape w g:=(h.2.1 i _ hi).1
theorem Sep.pushNew {c:a0e}(h:Sep w0 w l)(h' : Sep w0 w' l)(hc:c.holds w' w0.heap.size)(hn:∀ k,c.block=some k→w.heap.size≤k):Sep w0 w' (c::l) :=
 Sep.cons_ h'.1 hc h'.2.1 (fun i d hi k hk hd=>by have:=hn k hk;have:=(a0e.block_ge (h.2.1 i d hi) hd).2;omega) h.2.2
theorem Sep.cell (h:Sep w0 w l)(i j:Nat)(hi:l[i]?=some (.box g t vs))(hj:vs[j]?=some v):w.cell? ⟨g,j,none⟩=some v :=
 cell_of_row _ _ j _ _ _ (h.2.1 i _ hi).2 |>.trans (by simpa using hj)
theorem Sep.c (h:Sep w0 w l)(i j:Nat)(hi:l[i]?=some (.box g t vs):=by rfl)(hj:vs[j]?=some v:=by rfl):w.cell? ⟨g,j,none⟩=some v:=h.cell i j hi hj
theorem Sep.cells4 (h:Sep w0 w l)(i:Nat)(hi:l[i]?=some (.box g t [v0,v1,v2,v3])):w.cell? ⟨g,0,none⟩=some v0∧w.cell? ⟨g,1,none⟩=some v1∧w.cell? ⟨g,2,none⟩=some v2∧w.cell? ⟨g,3,none⟩=some v3 :=
 ⟨h.cell i 0 hi rfl,h.cell i 1 hi rfl,h.cell i 2 hi rfl,h.cell i 3 hi rfl⟩
theorem Sep.cells7 (h:Sep w0 w l)(i:Nat){v5 v6:Value}(hi:l[i]?=some (.box g t [v0,v1,v2,v3,v4,v5,v6])):w.cell? ⟨g,0,none⟩=some v0∧w.cell? ⟨g,1,none⟩=some v1∧w.cell? ⟨g,2,none⟩=some v2∧w.cell? ⟨g,3,none⟩=some v3∧w.cell? ⟨g,4,none⟩=some v4∧w.cell? ⟨g,5,none⟩=some v5∧w.cell? ⟨g,6,none⟩=some v6 :=
 ⟨h.cell i 0 hi rfl,h.cell i 1 hi rfl,h.cell i 2 hi rfl,h.cell i 3 hi rfl,h.cell i 4 hi rfl,h.cell i 5 hi rfl,h.cell i 6 hi rfl⟩
theorem Sep.frozenBox (h:Sep w0 w l)(i j:Nat)(hi:l[i]?=some (.box g t vs)):w.frozen? ⟨g,j,none⟩=false :=
 frozen_of_row _ _ j _ _ (h.2.1 i _ hi).2
theorem Sep.z2 (h:Sep w0 w l)(i:Nat)(hi:l[i]?=some (.box g t (v0::v1::vs))):w.cell? ⟨g,0,none⟩=some v0∧w.cell? ⟨g,1,none⟩=some v1:=⟨h.cell i 0 hi rfl,h.cell i 1 hi rfl⟩
theorem Sep.z3 (h:Sep w0 w l)(i:Nat)(hi:l[i]?=some (.box g t (v0::v1::v2::vs))):w.cell? ⟨g,0,none⟩=some v0∧w.cell? ⟨g,1,none⟩=some v1∧w.cell? ⟨g,2,none⟩=some v2:=⟨h.cell i 0 hi rfl,h.cell i 1 hi rfl,h.cell i 2 hi rfl⟩
theorem Sep.z4 (h:Sep w0 w l)(i:Nat)(hi:l[i]?=some (.box g t (v0::v1::v2::v3::vs))):w.cell? ⟨g,0,none⟩=some v0∧w.cell? ⟨g,1,none⟩=some v1∧w.cell? ⟨g,2,none⟩=some v2∧w.cell? ⟨g,3,none⟩=some v3:=⟨h.cell i 0 hi rfl,h.cell i 1 hi rfl,h.cell i 2 hi rfl,h.cell i 3 hi rfl⟩
theorem Sep.z5 (h:Sep w0 w l)(i:Nat)(hi:l[i]?=some (.box g t (v0::v1::v2::v3::v4::vs))):w.cell? ⟨g,0,none⟩=some v0∧w.cell? ⟨g,1,none⟩=some v1∧w.cell? ⟨g,2,none⟩=some v2∧w.cell? ⟨g,3,none⟩=some v3∧w.cell? ⟨g,4,none⟩=some v4:=⟨h.cell i 0 hi rfl,h.cell i 1 hi rfl,h.cell i 2 hi rfl,h.cell i 3 hi rfl,h.cell i 4 hi rfl⟩
theorem Sep.f2 (h:Sep w0 w l)(i:Nat)(hi:l[i]?=some (.box g t vs)):w.frozen? ⟨g,0,none⟩=false∧w.frozen? ⟨g,1,none⟩=false:=⟨h.frozenBox i 0 hi,h.frozenBox i 1 hi⟩
theorem Sep.b2 (h:Sep w0 w l)(i:Nat)(hi:l[i]?=some (.box g t (v0::v1::vs)):=by rfl):w.cell? ⟨g,0,none⟩=some v0∧w.cell? ⟨g,1,none⟩=some v1∧w.frozen? ⟨g,0,none⟩=false∧w.frozen? ⟨g,1,none⟩=false:=⟨h.cell i 0 hi rfl,h.cell i 1 hi rfl,h.frozenBox i 0 hi,h.frozenBox i 1 hi⟩
theorem Sep.f4 (h:Sep w0 w l)(i:Nat)(hi:l[i]?=some (.box g t vs)):w.frozen? ⟨g,0,none⟩=false∧w.frozen? ⟨g,1,none⟩=false∧w.frozen? ⟨g,2,none⟩=false∧w.frozen? ⟨g,3,none⟩=false:=⟨h.frozenBox i 0 hi,h.frozenBox i 1 hi,h.frozenBox i 2 hi,h.frozenBox i 3 hi⟩
theorem Sep.f7 (h:Sep w0 w l)(i:Nat)(hi:l[i]?=some (.box g t vs)):w.frozen? ⟨g,0,none⟩=false∧w.frozen? ⟨g,1,none⟩=false∧w.frozen? ⟨g,2,none⟩=false∧w.frozen? ⟨g,3,none⟩=false∧w.frozen? ⟨g,4,none⟩=false∧w.frozen? ⟨g,5,none⟩=false∧w.frozen? ⟨g,6,none⟩=false:=⟨h.frozenBox i 0 hi,h.frozenBox i 1 hi,h.frozenBox i 2 hi,h.frozenBox i 3 hi,h.frozenBox i 4 hi,h.frozenBox i 5 hi,h.frozenBox i 6 hi⟩
abbrev oN:a0e:=.own 3 (.slice none 0 0) 0 []
theorem Sep.heap (h:Sep w0 w l)(i:Nat)(hi:l[i]?=some (.box g t vs)):w.heap[g]?=some (.cells vs.toArray t (0,0)):=(h.2.1 i _ hi).2
theorem Sep.ownS (h:Sep w0 w l)(i:Nat)(hi:l[i]?=some (.own e v n xs)):OwnS w w0.heap.size e v n xs:=h.2.1 i _ hi
theorem Sep.own (h:Sep w0 w l)(i:Nat){c:Nat}(hi:l[i]?=some (.own e (.slice (some ⟨g,0,none⟩) n c) n xs)):Own w w0.heap.size e g n c xs:=h.2.1 i _ hi
theorem Sep.oldInts (h:Sep w0 w l)(i:Nat)(hi:l[i]?=some (.ints A n xs)):Ints w A n xs:=(h.2.1 i _ hi).1
theorem Sep.ownInts (h:Sep w0 w l)(i:Nat){c:Nat}(hi:l[i]?=some (.own e (.slice A m c) n xs)):m=n∧m≤c∧Ints w A n xs:=by
 obtain⟨A', c', hv,hc,hI,_⟩:=OwnS.form (h.2.1 i _ hi);injection hv with h1 h2 h3
 subst h1;subst h2;subst h3;exact⟨rfl,hc,hI⟩
theorem Sep.blockLt (h:Sep w0 w l)(i:Nat)(hi:l[i]?=some (.box g t vs)):w0.heap.size≤g∧g<w.heap.size:=⟨(h.2.1 i _ hi).1,a2y (h.2.1 i _ hi).2⟩
theorem Sep.ne (h:Sep w0 w l)(i j:Nat){a b:a0e}(hi:l[i]?=some a)(hj:l[j]?=some b)(ha:a.block=some k)(hb:b.block=some m)(hij:i≠j):k≠m:=fun e=>by
 subst e;exact h.2.2 i j a b hij hi hj k ha hb
end
theorem a0r {c:Nat}(h:Ints w A n xs):
  Calls prog 48 #[.slice A n c] w fun e w'=>e=.returned (.bool (Sh.right xs))∧w=w':=by
 have hn:=h.len;have hle:=h.le
 go_enter func48,ntmps48
 go_wp2
 go_loop [3,4] (fun p i=>∃ k:Nat,k≤n∧k≤4∧i=.int .i64 k∧p=.int .i64 (Sh.pr (xs.take k))∧∀ x∈xs.take k,0≤x∧x≤32) (fun _ i=>n-(intOf i).toNat)
 case atStart=>exact⟨0,Nat.zero_le _,Nat.zero_le _,rfl,rfl,by simp⟩
 case round =>
  obtain⟨k,hk,hk4,rfl,rfl,hd⟩:=hrel;have H2:=Hd hn;clear hn;by_cases hlt:k<n
  ·obtain⟨ad,x,rfl,hb,hx,hc,hf⟩:=h.at_ hlt;have H:=Hd hx;clear hx;have HD:=Hd hd;clear hd;by_cases hx0:0≤x∧x≤32
   ·obtain⟨hx1,hx2⟩:=hx0;by_cases hk3:k<4
    ·have hall:∀ y∈xs.take (k+1),0≤y∧y≤32:=by
      intro y hy;rw[List.take_add_one,H.out] at hy;simp at hy;rcases hy with hy|rfl
      ·exact HD y hy
      ·exact⟨hx1,hx2⟩
     have hm:=Sh.pr_small (xs.take (k+1)) hall (by have:=H2.out;simp;omega);rw[Sh.pr_take _ H.out] at hm;obtain⟨hm1,hm2⟩:=hm;have HA:=Hd hall;clear hall;go_wp2;go_round
     case rel=>exact⟨k+1,by omega,by omega,by go_num,by rw[Sh.pr_take _ H.out],HA⟩
     case measure=>simp[intOf];omega
    ·have HR:=Hd (Sh.not_right_long (s:=xs) (by have:=H2.out;omega));go_wp2;go_ret;exact⟨a0c HR.symm,rfl⟩
   ·have HR:=Hd (Sh.not_right_dim H hx0);by_cases hx1:x<0
    ·go_wp2;go_ret;exact⟨a0c HR.symm,rfl⟩
    ·have hx2:32<x:=by omega
     go_wp2;go_ret;exact⟨a0c HR.symm,rfl⟩
  ·have hkn:k=n:=by omega
   have ht:xs.take k=xs:=List.take_of_length_le (by have:=H2.out;omega);rw[ht] at hd ⊢;have hb:=Sh.pr_small xs hd (by have:=H2.out;omega);have HR:=Hd (Sh.right_small (by have:=H2.out;omega) hd);have HD:=Hd hd;clear hd;have HT:=Hd ht;clear ht;have HK:=Hd hkn;clear hkn;go_wp2;go_ret;exact⟨a0c HR.symm,rfl⟩
theorem a2g {c:Nat}(h:Ints w A n xs):
  Calls prog 26 #[.slice A n c] w fun e w'=>e=.returned (.int .i64 (Sh.size xs))∧w=w':=by
 have hn:=h.len;have hle:=h.le
 cases hr:Sh.right xs with
 | false =>
  have H2:=Hd hn;clear hn;have HR:=Hd hr;clear hr
  go_enter func26,ntmps26
  go_wp2_with (go_at_call 48;refine(a0r h).mono ?_;rw[HR.out];rintro e w' ⟨rfl,rfl⟩)
  go_ret
  exact⟨a3e (Sh.size_not HR).symm,rfl⟩
 | true =>
  obtain⟨hl4,hd,hbig⟩:=Sh.right_iff.1 hr;have H2:=Hd hn;clear hn;have HR:=Hd hr;clear hr;have HD:=Hd hd;clear hd
  go_enter func26,ntmps26
  go_wp2_with (go_at_call 48;refine(a0r h).mono ?_;rw[HR.out];rintro e w' ⟨rfl,rfl⟩)
  go_loop [3,4] (fun p i=>∃ k:Nat,k≤n∧i=.int .i64 k∧p=.int .i64 (Sh.pr (xs.take k))) (fun _ i=>n-(intOf i).toNat)
  case atStart=>exact⟨0,Nat.zero_le _,rfl,rfl⟩
  case round =>
   obtain⟨k,hk,rfl,rfl⟩:=hrel;by_cases hlt:k<n
   ·obtain⟨ad,x,rfl,hb,hx,hc,hf⟩:=h.at_ hlt;have hm:=Sh.pr_small (xs.take (k+1)) (fun y hy=>HD.out y (List.mem_of_mem_take hy)) (by have:=H2.out;simp;omega);rw[Sh.pr_take _ hx] at hm;obtain⟨hm1,hm2⟩:=hm;have H:=Hd hx;clear hx;go_wp2;go_round
    case rel=>exact⟨k+1,by omega,by go_num,by rw[Sh.pr_take _ H.out]⟩
    case measure=>simp[intOf];omega
   ·have ht:xs.take k=xs:=List.take_of_length_le (by have:=H2.out;omega);rw[ht];have HT:=Hd ht;clear ht;go_wp2;go_ret;exact⟨a3e (Sh.size_of HR).symm,rfl⟩
theorem a7t {c:Nat}(h:Ints w A n xs)(g:Ints w B m ys):
  Calls prog 115 #[.slice A n c,.slice B m d] w fun e w'=>e=.returned (.int .i64 (Sh.index xs ys))∧∃ k,w'=w.drewN k:=by
 have hn:=h.len;have hm:=g.len;have hle:=h.le;have hme:=g.le
 cases hr:Sh.right xs with
 | false =>
  have HX:=Hd (Sh.index_right (p:=ys) hr);have HR:=Hd hr;clear hr;have H1:=Hd hn;clear hn;have H2:=Hd hm;clear hm
  go_enter func115,ntmps115
  go_wp2_with (go_at_call 48;refine(a0r h).mono ?_;rw[HR.out];rintro e w' ⟨rfl,rfl⟩)
  go_ret
  exact⟨a3e HX.symm,0,rfl⟩
 | true =>
  have H1:=Hd hn;clear hn;have H2:=Hd hm;clear hm;by_cases hnm:m=n
  ·have HR:=Hd hr;clear hr;subst hnm
   go_enter func115,ntmps115
   go_wp2_with (go_at_call 48;refine(a0r h).mono ?_;rw[HR.out];rintro e w' ⟨rfl,rfl⟩)
   go_loopw [5,6] (fun p i wr=>∃ k:Nat,k≤m∧i=.int .i64 k∧p=.int .i64 (Sh.hor (xs.take k) (ys.take k))∧Sh.within (xs.take k) (ys.take k)=true∧∃ q,wr=w.drewN q) (fun _ i _=>m-(intOf i).toNat)
   case atStart=>exact⟨0,Nat.zero_le _,rfl,rfl,rfl,0,rfl⟩
   case round =>
    obtain⟨k,hk,rfl,rfl,hd,q,rfl⟩:=hrel;have HD:=Hd hd;clear hd;by_cases hlt:k<m
    ·obtain⟨ad,x,rfl,hb,hx,hc,hf⟩:=h.at_ hlt;obtain⟨bd,y,rfl,hb', hy,hc', hf'⟩:=g.at_ hlt;have H:=Hd hx;clear hx;have G:=Hd hy;clear hy;by_cases hy0:0≤y∧y<x
     ·obtain⟨hy1,hy2⟩:=hy0;have hw:=Hd (p:=Sh.within (xs.take (k+1)) (ys.take (k+1))=true) (by rw[Sh.within_take H.out G.out,HD.out];simp[hy1,hy2]);have hs:=Sh.hor_small HR (H1.trans H2.symm) (k+1) hw;rw[Sh.hor_take H.out G.out] at hs;obtain⟨hs1,hs2⟩:=hs;have hs':=Sh.hor_small HR (H1.trans H2.symm) k HD;have hp0:0≤Sh.hor (xs.take k) (ys.take k)*x:=Int.mul_nonneg hs'.1 (by omega);have hp1:Sh.hor (xs.take k) (ys.take k)*x≤1048576:=by omega
      clear hs';have hd1:decide (y<0)=false:=by simp;omega
      have hd2:decide (x≤y)=false:=by simp;omega
      go_wp2
      go_quiet (fail)
      go_wp2
      go_quiet (fail)
      go_wp2;go_roundw
      case rel=>exact⟨k+1,by omega,by go_num,by rw[Sh.hor_take H.out G.out],hw,_,rfl⟩
      case measure=>simp[intOf];omega
     ·have HX:=Hd (Sh.index_out H G hy0);by_cases hy1:y<0
      ·have hd1:decide (y<0)=true:=by simpa using hy1
       go_wp2
       go_quiet (fail)
       go_wp2;go_ret;exact⟨a3e HX.symm,_,World.drewN_drewN _ _ _⟩
      ·have hy2:x≤y:=by omega
       have hd1:decide (y<0)=false:=by simpa using hy1
       have hd2:decide (x≤y)=true:=by simpa using hy2
       go_wp2
       go_quiet (fail)
       go_wp2;go_ret;exact⟨a3e HX.symm,_,World.drewN_drewN _ _ _⟩
    ·have ht:xs.take k=xs:=List.take_of_length_le (by have:=H1.out;omega);have ht' : ys.take k=ys:=List.take_of_length_le (by have:=H2.out;omega);have hd:=HD.out;rw[ht,ht'] at hd ⊢;have HX:=Hd (Sh.index_of HR (H2.trans H1.symm) hd);clear ht ht' hd;go_wp2;go_ret;exact⟨a3e HX.symm,_,rfl⟩
  ·have HX:=Hd (Sh.index_len (s:=xs) (p:=ys) (by have:=H1.out;have:=H2.out;omega));have hb:((m:Int) != (n:Int))=true:=by simp;omega
   have HR:=Hd hr;clear hr
   go_enter func115,ntmps115
   go_wp2_with (go_at_call 48;refine(a0r h).mono ?_;rw[HR.out];rintro e w' ⟨rfl,rfl⟩)
   go_ret;exact⟨a3e HX.symm,0,rfl⟩
theorem a5w {c:Nat}(h:Ints w A n xs)(g:Ints w B m ys):
  Calls prog 38 #[.slice A n c,.slice B m d] w fun e w'=>e=.returned (.bool (xs==ys))∧∃ k,w'=w.drewN k:=by
 have hn:=h.len;have hm:=g.len;have hle:=h.le;have hme:=g.le;by_cases hnm:n=m
 ·subst hnm;have H1:=Hd hn;clear hn;have H2:=Hd hm;clear hm
  go_enter func38,ntmps38
  go_wp2
  go_loopw [5] (fun i wr=>∃ k:Nat,k≤n∧i=.int .i64 k∧xs.take k=ys.take k∧∃ q,wr=w.drewN q) (fun i _=>n-(intOf i).toNat)
  case atStart=>exact⟨0,Nat.zero_le _,rfl,rfl,0,rfl⟩
  case round =>
   obtain⟨k,hk,rfl,hd,q,rfl⟩:=hrel;have HD:=Hd hd;clear hd;by_cases hlt:k<n
   ·obtain⟨ad,x,rfl,hb,hx,hc,hf⟩:=h.at_ hlt;obtain⟨bd,y,rfl,hb', hy,hc', hf'⟩:=g.at_ hlt;have H:=Hd hx;clear hx;have G:=Hd hy;clear hy;by_cases hxy:x=y
    ·subst hxy;go_wp2
     go_quiet (fail)
     go_wp2;go_roundw
     case rel=>exact⟨k+1,by omega,by go_num,c7e H G HD,_,rfl⟩
     case measure=>simp[intOf];omega
    ·have HX:=Hd (d1h H G hxy);have hb:(x != y)=true:=by simpa using hxy
     go_wp2
     go_quiet (fail)
     go_wp2;go_ret;exact⟨a0c HX.symm,_,World.drewN_drewN _ _ _⟩
   ·have HX:=Hd (c0y H1 H2 (by omega) HD);go_wp2;go_ret;exact⟨a0c HX.symm,_,rfl⟩
 ·have HX:=Hd (p:=(xs==ys)=false) (by rw[beq_eq_false_iff_ne];rintro rfl;exact hnm (hn.symm.trans hm));have H1:=Hd hn;clear hn;have H2:=Hd hm;clear hm;have hb:((n:Int) != (m:Int))=true:=by simp;omega
  go_enter func38,ntmps38
  go_wp2;go_ret;exact⟨a0c HX.symm,0,rfl⟩
theorem c6n {c:Nat}(i:Int)(h:Ints w A n xs)(hif:Fits i):
  Calls prog 110 #[.slice A n c,.int .i64 i] w fun e w'=>c4p w (Sh.placeOf xs i) e w':=by
 have hn:=h.len;have hle:=h.le;have hsb:=Sh.size_bd xs;obtain⟨hsb1,hsb2⟩:=hsb;obtain⟨hi1,hi2⟩:=hif;by_cases hok:0≤i∧i<Sh.size xs
 ·obtain⟨hr,hd⟩:=Sh.size_pos hok.1 hok.2;have HP:=Hd (p:=Sh.placeOf xs i=Sh.place xs i) (by rw[Sh.placeOf,iP hok]);obtain⟨hi0,his⟩:=hok;have hl4:=(Sh.right_iff.1 hr).1;have hn4:n≤4:=by omega
  have HD:Hid (∀ x∈xs,0≤x∧x≤32):=Hd fun x hx=>⟨by have:=hd x hx;omega,(hd x hx).2⟩
  have H1:=Hd hn;clear hn;have HR:=Hd hr;clear hr;have HE:=Hd hd;clear hd;obtain⟨i0,hi,hz0,hz1,hz2⟩:=info_parts Tryz.infoInt;rw[HP.out]
  go_enter func110,ntmps110
  go_wp2_with (first|(go_at_call 26;refine(a2g h).mono ?_;rintro e w' ⟨rfl,rfl⟩)|(at_make;refine wpList_make_full _ rfl _ _ _ rfl _ _ i0 (.int .i64 0) 1 underlying25 hi hz0 hz1 .i64 .i64 _ _ n rfl rfl rfl rfl ?c1 ?c2 (Nat.le_refl _) ?_))
  case c1=>rw[hz2];omega
  case c2=>unfold maxLen;omega
  intro w1 hown hgr;have hO:=d1o (by omega) hown;have hB:Below w.heap.size w w1:=(Below.refl _ _).grown hgr (Nat.le_refl _) (by simp);have hsz:=hgr.size;clear hown hgr;go_wp2
  go_loopw [1,6] (fun p a wr=>∃(m:Nat) (k:Int),k+1=m∧m≤n∧a=.int .i64 k∧p=.int .i64 (i / Sh.pd (xs.drop m))∧∃ ys,Own wr w.heap.size 3 w.heap.size n n ys∧From m ys (Sh.place xs i)∧Below w.heap.size w wr) (fun _ a _=>(intOf a+1).toNat)
  case atStart =>
   refine⟨n,_,by omega,by omega,rfl,?_,_,hO,⟨?_,?_⟩,hB⟩
   ·rw[List.drop_eq_nil_of_le (by have:=H1.out;omega)];simp[Sh.pd]
   ·simp[Sh.place_length,H1.out]
   ·intro j hj;rw[List.getElem?_eq_none (by simp;omega),List.getElem?_eq_none (by rw[Sh.place_length,H1.out];omega)]
  case round =>
   clear hO hB hsz;obtain⟨m,k,hkm,hk2,rfl,rfl,ys,hO,hF,hB⟩:=hrel;by_cases hk0:0≤k
   ·obtain⟨m,rfl⟩:=eZ hk0;rename_i m0;obtain rfl:m0=m+1:=by omega
    have hmn:m<n:=by omega
    have h':=h.below hB;obtain⟨ad,x,rfl,hb,hx,hc,hf⟩:=h'.at_ hmn;obtain⟨hx1,hx2⟩:=HE.out x (mG hx);have hc2:wr.cell? ⟨w.heap.size,m,none⟩=some (.int .i64 (ys.getD m 0)):=hO.cell (by have:=hO.len;simp[List.getElem?_eq_getElem (by omega:m<ys.length)]);have hfz:=hO.frozen m;have hq:=Sh.pd_small HD hl4 (m+1);have hd0:0≤i / Sh.pd (xs.drop (m+1)):=Int.ediv_nonneg hi0 hq.1;have hd1:i / Sh.pd (xs.drop (m+1))≤9223372036854775807:=Int.le_trans (Int.ediv_le_self _ hi0) hi2;have hm0:0≤i / Sh.pd (xs.drop (m+1)) % x:=Int.emod_nonneg _ (by omega);have hm1:i / Sh.pd (xs.drop (m+1)) % x<x:=Int.emod_lt_of_pos _ (by omega);have HS:=Hd (Sh.left_step (i:=i) hx HD);have hO2:=hO.store m (u:=i / Sh.pd (xs.drop (m+1)) % x) ⟨by omega,by omega⟩;have hF2:=hF.set_ (Sh.place_at (i:=i) hx);have hB2:=hB.setCell (p:=⟨w.heap.size,m,none⟩) (Nat.le_refl _) (.int .i64 (i / Sh.pd (xs.drop (m+1)) % x));have hc3:(wr.setCell ⟨w.heap.size,m,none⟩ (.int .i64 (i / Sh.pd (xs.drop (m+1)) % x))).cell? (ad.add m)=some (.int .i64 x):=(h.below hB2).get hx;have HX:=Hd hx;clear hx hkm hk0 hO hF hB h' hq;go_wp2;go_roundw
    case rel=>exact⟨m,_,by omega,by omega,rfl,by rw[HS.out],_,hO2,hF2,hB2⟩
    case measure=>simp[intOf]
   ·obtain rfl:m=0:=by omega
    obtain rfl:k = -1:=by omega
    have HF:=Hd hF;clear hF;go_wp2;go_ret;rw[←HF.zero];exact c4p.own hO hB
 ·have HP:=Hd (p:=Sh.placeOf xs i=[]) (by rw[Sh.placeOf,iN hok]);rw[HP.out];have H1:=Hd hn;clear hn;by_cases hi0:i<0
  ·go_enter func110,ntmps110
   go_wp2_with (go_at_call 26;refine(a2g h).mono ?_;rintro e w' ⟨rfl,rfl⟩)
   go_ret;exact c4p.none_ w
  ·have hi3:Sh.size xs≤i:=by omega
   clear hok
   go_enter func110,ntmps110
   go_wp2_with (go_at_call 26;refine(a2g h).mono ?_;rintro e w' ⟨rfl,rfl⟩)
   go_ret;exact c4p.none_ w
def b1j:List Int:=[9223372036854775807,-9223372036854775808,4611686018427387904,-1099511627776,8589934592,3037000500]
theorem d6v (r:Nat)(h:r<6):∃ x:Int,b1j[r]?=some x∧Fits x:=by
 have:r=0∨r=1∨r=2∨r=3∨r=4∨r=5:=by omega
 rcases this with rfl|rfl|rfl|rfl|rfl|rfl <;> exact⟨_,rfl,by constructor <;> decide⟩
end Go.Proofs.YtdcmanhgekjhgaaGreatDoor
namespace Go.Proofs.YtdcmanhgekjhgaaGreatDoor.Sh
def lin:List Int→List Int→Int
 | _::r,x::q=>x*pd r+lin r q
 | _,_=>0
theorem c2x (s p:List Int):∀ a:Int,p.length=s.length→(s.zip p).foldl (fun a x=>a*x.1+x.2) a=a*pd s+lin s p:=by
 induction s generalizing p with
 | nil=>intro a h;cases p <;> simp[pd,lin]
 | cons d r ih =>
  intro a h
  cases p with
  | nil=>simp at h
  | cons x q =>
   rw[List.zip_cons_cons,List.foldl_cons,ih q _ (by simpa using h),lin,pd]
   show(a*d+x)*pd r+lin r q=_
   rw[Int.add_mul,Int.mul_assoc];omega
theorem hor_lin {s p:List Int} (h:p.length=s.length):hor s p=lin s p:=by rw[hor,c2x s p 0 h];simp
theorem digits (i P d:Int) (hP:0≤P):i / P % d*P+i % P=i % (d*P):=by
 have e:i / (d*P)=i / P / d:=by rw[Int.mul_comm,Int.ediv_ediv_of_nonneg hP]
 rw[Int.emod_def i (d*P),e,Int.emod_def (i / P) d,Int.emod_def i P,Int.sub_mul];have h1:d*(i / P / d)*P=d*P*(i / P / d):=by rw[Int.mul_assoc,Int.mul_assoc,Int.mul_comm (i / P / d) P]
 have h2:i / P*P=P*(i / P):=Int.mul_comm _ _;omega
theorem lin_place (s:List Int) (hd:∀ x∈s,0≤x∧x≤32) (i:Int):lin s (place s i)=i % pd s:=by
 induction s with
 | nil=>simp[lin,pd,Int.emod_one]
 | cons d r ih =>
  have hr:∀ x∈r,0≤x∧x≤32:=fun x hx=>hd x (by simp[hx])
  rw[place,lin,ih hr,pd,digits _ _ _ (pd_nonneg hr)]
theorem within_iff {s p:List Int}:within s p=true↔∀ x∈s.zip p,0≤x.2∧x.2<x.1:=by
 rw[within,List.all_eq_true]
 constructor <;> intro h x hx <;> simpa using h x hx
theorem within_place {s:List Int} (h:∀ x∈s,1≤x∧x≤32) (i:Int):within s (place s i)=true:=by
 rw[within_iff]
 induction s with
 | nil=>simp[place]
 | cons d r ih =>
  intro x hx;rw[place,List.zip_cons_cons,List.mem_cons] at hx;rcases hx with rfl|hx
  ·have:=h d (by simp);exact⟨Int.emod_nonneg _ (by omega),Int.emod_lt_of_pos _ (by omega)⟩
  ·exact ih (fun x hx=>h x (by simp[hx])) x hx
theorem placeOf_place {s:List Int} {i:Int} (h0:0≤i) (h:i<size s):placeOf s i=place s i:=by rw[placeOf,iP ⟨h0,h⟩]
theorem pd_append (a b:List Int):pd (a++b)=pd a*pd b:=by
 induction a with
 | nil=>simp[pd]
 | cons x a ih=>rw[List.cons_append,pd,pd,ih,Int.mul_assoc]
def iota (s:List Int) (a:Nat):List Int:=(List.range (size s).toNat).map fun (i:Nat)=>(place s (i:Int)).getD a 0
theorem iota_length (s:List Int) (a:Nat):(iota s a).length=(size s).toNat:=by simp[iota]
theorem iota_at {s:List Int} {a i:Nat} (h:(i:Int)<size s):(iota s a)[i]?=some ((place s (i:Int)).getD a 0):=by
 rw[iota,List.getElem?_map,List.getElem?_range (by omega)];rfl
end Go.Proofs.YtdcmanhgekjhgaaGreatDoor.Sh
