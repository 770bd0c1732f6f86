import Derived.Test.YtjblengklgkgfaaGreatPae
set_option maxRecDepth 100000
set_option maxHeartbeats 12800000
namespace Go.Proofs.YtjblengklgkgfaaGreat
open Go.RowKit Go.Proofs.Tryz
variable {A B C:Option Addr} {K:Act→World→Prop} {Q:Exit→Act→World→Prop} {a:Act} {ca cb cc g k m n n' na nb nc:Nat} {e e' t:TypeId} {o:Oper} {ops:Array Oper} {p:Addr} {rest:List Oper} {us vs:List Value} {v v' v0 v1 v2 v3 v4 v5 v6:Value} {w w' w0:World} {xs xs':List Int}
inductive a0c
 | own (e:TypeId) (v:Value) (n:Nat) (xs:List Int)
 | row (e:TypeId) (k:Nat) (v:Value) (n:Nat) (us:List Value)
 | box (g:Nat) (t:TypeId) (vs:List Value)
 | ints (A:Option Addr) (n:Nat) (xs:List Int)
 | vals (A:Option Addr) (n k:Nat) (us:List Value)
 | tape (g:Nat)
def a0c.block:a0c→Option Nat
 | .own _ v _ _=>v.ownBlock
 | .row _ _ v _ _=>v.ownBlock
 | .box g _ _=>some g
 | .ints _ _ _=>none
 | .vals _ _ _ _=>none
 | .tape g=>some g
def d7o (w:World) (A:Option Addr) (n k:Nat) (us:List Value):Prop :=
 us.length=n*k∧(0<n→∃ ad,A=some ad∧ad.block<w.heap.size∧∀ j u,us[j]?=some u→w.cell? (ad.add j)=some u)
theorem d7o.grown {row:Option Nat}(h:d7o w A n k us)(hg:w.grownBy w' row)(hne:∀ ad,A=some ad→0<n→some ad.block≠row):d7o w' A n k us :=
 ⟨h.1,fun hn=>by
  obtain⟨ad,e,hl,hc⟩:=h.2 hn
  exact⟨ad,e,Nat.lt_of_lt_of_le hl hg.size,fun j u hu=>hg.cell (hc j u hu) (by rw[a0g];exact hne ad e hn)⟩⟩
def a0c.holds (w:World) (base:Nat):a0c→Prop
 | .own e v n xs=>OwnS w base e v n xs
 | .row e k v n us=>w.ownsRow base e k v n us
 | .box g t vs=>base≤g∧w.heap[g]?=some (.cells vs.toArray t (0,0))
 | .ints A n xs=>Ints w A n xs∧∀ ad,A=some ad→0<n→ad.block<base
 | .vals A n k us=>d7o w A n k us∧∀ ad,A=some ad→0<n→ad.block<base
 | .tape g=>Tape w g∧g=base
theorem b5o {o:Obj}(h:w.heap[g]?=some o):g<w.heap.size:=by
 rcases Nat.lt_or_ge g w.heap.size with h' | h'
 ·exact h'
 ·rw[Array.getElem?_eq_none h'] at h;cases h
theorem a0c.block_ge {base:Nat}{c:a0c}(h:c.holds w base)(hk:c.block=some k):base≤k∧k<w.heap.size:=by
 cases c with
 | own e v n xs=>exact h.1.lt k hk
 | row e m v n us=>exact World.ownsRow.lt h k hk
 | box g t vs=>injection hk with hk;subst hk;exact⟨h.1,b5o h.2⟩
 | ints A n xs=>cases hk
 | vals A n k us=>cases hk
 | tape g=>injection hk with hk;subst hk;exact⟨by have:=h.2;omega,h.1.lt⟩
theorem a0c.kept {base:Nat}{c:a0c}{row:Option Nat}(h:c.holds w base)(hg:w.grownBy w' row)(hb:∀ r,row=some r→base≤r)(hne:∀ k,c.block=some k→row≠some k):c.holds w' base:=by
 cases c with
 | own e v n xs=>exact OwnS.grownNe h hg fun k hk he=>hne k hk he.symm
 | row e m v n us =>
  refine World.ownsRow.kept h hg ?_
  cases hv:v.ownBlock with
  | none=>exact .inl rfl
  | some k=>exact .inr fun he=>hne k hv he.symm
 | box g t vs=>exact⟨h.1,(hg.block g (b5o h.2) (fun he=>hne g rfl he.symm)).trans h.2⟩
 | ints A n xs=>exact⟨h.1.grown hg fun ad he hn e=>by have:=h.2 ad he hn;have:=hb _ e.symm;omega,h.2⟩
 | vals A n k us=>exact⟨h.1.grown hg fun ad he hn e=>by have:=h.2 ad he hn;have:=hb _ e.symm;omega,h.2⟩
 | tape g =>
  obtain⟨ht,hgb⟩:=h;have hl:=ht.lt;obtain⟨A,n,c,at_,xs,h1,ha,hI,hn⟩:=ht;exact⟨⟨A,n,c,at_,xs,(hg.block g hl (fun he=>hne g rfl he.symm)).trans h1,ha,hI.grown hg (fun ad he hp e=>by have:=hn ad he hp;have:=hb _ e.symm;omega),hn⟩,hgb⟩
def c4d (a b:a0c):Prop:=∀ k,a.block=some k→b.block≠some k
theorem c4d.symm {a b:a0c}(h:c4d a b):c4d b a:=fun k hb ha=>h k ha hb
def Sep (w0 w:World) (l:List a0c):Prop :=
 Below w0.heap.size w0 w∧(∀(i:Nat) (c:a0c),l[i]?=some c→c.holds w w0.heap.size)∧(∀(i j:Nat) (a b:a0c),i≠j→l[i]?=some a→l[j]?=some b→c4d a b)
section
variable {w0 w w' : World} {l : List a0c}
theorem Sep.base (h:Sep w0 w l):Below w0.heap.size w0 w:=h.1
theorem Sep.at_ (h:Sep w0 w l)(i:Nat){c:a0c}(hi:l[i]?=some c):c.holds w w0.heap.size:=h.2.1 i c hi
theorem Sep.size (h:Sep w0 w l):w0.heap.size≤w.heap.size:=h.1.size
theorem Sep.nil (w:World):Sep w w []:=⟨Below.refl _ _,(fun i c hi=>by simp at hi),(fun i j a b _ hi=>by simp at hi)⟩
theorem Sep.cons_ {c:a0c}(hB:Below w0.heap.size w0 w)(hc:c.holds w w0.heap.size)(hl:∀(i:Nat) (d:a0c),l[i]?=some d→d.holds w w0.heap.size)(ha:∀(i:Nat) (d:a0c),l[i]?=some d→c4d c d)(hp:∀(i j:Nat) (a b:a0c),i≠j→l[i]?=some a→l[j]?=some b→c4d a b):
  Sep w0 w (c::l) :=
 ⟨hB,(fun i d hi=>by
  cases i with
  | zero=>simp at hi;subst hi;exact hc
  | succ i=>exact hl i d (by simpa using hi)),(fun i j a b hij hi hj=>by
  cases i with
  | zero =>
   simp at hi;subst hi
   cases j with
   | zero=>exact absurd rfl hij
   | succ j=>exact ha j b (by simpa using hj)
  | succ i =>
   cases j with
   | zero=>simp at hj;subst hj;exact(ha i a (by simpa using hi)).symm
   | succ j=>exact hp i j a b (by omega) (by simpa using hi) (by simpa using hj))⟩
theorem Sep.old (h:Sep w w l)(hI:Ints w A n xs):Sep w w (.ints A n xs::l) :=
 Sep.cons_ h.1 ⟨hI,fun ad he hn=>by
  obtain⟨ad', e', hb,_⟩:=hI.2.2.2 hn
  rw[e'] at he;injection he with he;subst he;exact hb⟩ h.2.1 (fun i d hi k hk=>by cases hk) h.2.2
theorem Sep.below (h:Sep w0 w l)(hb:Below w.heap.size w w'):Sep w0 w' l :=
 ⟨a1m h.1 hb,(fun i c hi=>a0c.kept (row:=none) (h.2.1 i c hi) (a3c hb none) (by simp) (by simp)),h.2.2⟩
theorem Sep.drewN (h:Sep w0 w l)(k:Nat):Sep w0 (w.drewN k) l:=h.below (a0w (Below.refl _ _) k)
theorem Sep.drew (h:Sep w0 w l):Sep w0 w.drew l:=h.drewN 1
theorem Sep.push {c:a0c}(h:Sep w0 w l)(hb:Below w.heap.size w w')(hc:c.holds w' w0.heap.size)(hn:∀ k,c.block=some k→w.heap.size≤k):Sep w0 w' (c::l):=by
 have h':=h.below hb;exact Sep.cons_ h'.1 hc h'.2.1 (fun i d hi k hk hd=>by have:=hn k hk;have:=(a0c.block_ge (h.2.1 i d hi) hd).2;omega) h.2.2
theorem Sep.addOwn (h:Sep w0 w l)(hb:Below w.heap.size w w')(ho:OwnS w' w.heap.size e v n xs):Sep w0 w' (.own e v n xs::l) :=
 h.push hb (ho.mono h.size) fun k hk=>(ho.1.lt k hk).1
theorem Sep.addOwn2 (h:Sep w0 w l)(hb:Below w.heap.size w w')(ho:OwnS w' w.heap.size e v n xs)(ho' : OwnS w' w.heap.size e' v' n' xs')(hne:e' ≠ e):Sep w0 w' (.own e v n xs::.own e' v' n' xs' :: l):=by
 have h1:=h.addOwn hb ho';refine Sep.cons_ h1.1 (ho.mono h.size) h1.2.1 (fun i d hi k hk hd=>?_) h1.2.2
 cases i with
 | zero =>
  simp at hi;subst hi;obtain⟨cs,hx⟩:=ho.blk hk
  exact ho'.apart hx hne k hd rfl
 | succ i =>
  have:=(ho.1.lt k hk).1;have:=(a0c.block_ge (h.2.1 i d (by simpa using hi)) hd).2;omega
theorem Sep.allocBox (h:Sep w0 w l)(g:Nat)(t:TypeId)(vs:List Value)(hg:w.heap.size=g):Sep w0 (w.alloc (.cells vs.toArray t)) (.box g t vs::l):=by
 subst hg;exact h.push ((Below.refl _ _).alloc (Nat.le_refl _) _) ⟨h.size,heap_alloc_new w _⟩ fun k hk=>by injection hk with hk;omega
theorem Sep.sub {l' : List a0c}(h:Sep w0 w l)(f:List Nat)(hf:f.map (fun i:Nat=>l[i]?)=l'.map some)(hd:f.Nodup):Sep w0 w l':=by
 have key:∀(i:Nat) (c:a0c),l'[i]?=some c→∃ k:Nat,f[i]?=some k∧l[k]?=some c:=by
  intro i c hi;have:(f.map (fun i:Nat=>l[i]?))[i]?=some (some c):=by rw[hf,List.getElem?_map,hi];rfl
  rw[List.getElem?_map,Option.map_eq_some_iff] at this;exact this
 refine⟨h.1,fun i c hi=>?_,fun i j a b hij hi hj=>?_⟩
 ·obtain⟨k,_,hk⟩:=key i c hi;exact h.2.1 k c hk
 ·obtain⟨k,hfk,hk⟩:=key i a hi;obtain⟨m,hfm,hm⟩:=key j b hj;refine h.2.2 k m a b (fun e=>?_) hk hm;subst e;exact hij ((List.getElem?_inj (lL hfk) hd).1 (hfk.trans hfm.symm))
theorem Sep.change {c d:a0c}(h:Sep w0 w l)(i:Nat)(hi:l[i]?=some c)(hg:w.grownBy w' c.block)(hd:d.holds w' w0.heap.size)(hb:∀ k,d.block=some k→c.block=some k∨w.heap.size≤k):Sep w0 w' (l.set i d):=by
 have hc:=h.2.1 i c hi;have hil:i<l.length:=(lL hi)
 have other:∀(j:Nat) (a:a0c),j≠i→l[j]?=some a→c4d d a:=fun j a hj ha k hk hak=>by
  rcases hb k hk with e|e
  ·exact h.2.2 i j c a (Ne.symm hj) hi ha k e hak
  ·have:=(a0c.block_ge (h.2.1 j a ha) hak).2;omega
 refine⟨h.1.grown hg h.size fun k hk=>(a0c.block_ge hc hk).1,fun j a hj=>?_,fun j m a b hjm hj hm=>?_⟩
 ·rw[List.getElem?_set] at hj;by_cases e:i=j
  ·subst e;rw[iP rfl,iP hil] at hj;injection hj with hj;subst hj;exact hd
  ·rw[iN e] at hj;exact a0c.kept (h.2.1 j a hj) hg (fun r hr=>(a0c.block_ge hc hr).1) fun k hk hr=>h.2.2 i j c a e hi hj k hr hk
 ·rw[List.getElem?_set] at hj hm;by_cases e:i=j
  ·subst e;rw[iP rfl,iP hil] at hj;injection hj with hj;subst hj
   rw[iN hjm] at hm;exact other m b (Ne.symm hjm) hm
  ·rw[iN e] at hj;by_cases e' : i=m
   ·subst e';rw[iP rfl,iP hil] at hm;injection hm with hm;subst hm
    exact(other j a (Ne.symm e) hj).symm
   ·rw[iN e'] at hm;exact h.2.2 j m a b hjm hj hm
theorem Sep.store {c:Nat}(h:Sep w0 w l)(i j:Nat){x:Int}(hx:Fits x)(hi:l[i]?=some (.own e (.slice (some ⟨g,0,none⟩) n c) n xs)):
  Sep w0 (w.setCell ⟨g,j,none⟩ (.int .i64 x)) (l.set i (.own e (.slice (some ⟨g,0,none⟩) n c) n (xs.set j x))):=by
 have ho:Own w w0.heap.size e g n c xs:=h.2.1 i _ hi;exact h.change i hi (a0h w g j _) (ho.store j hx) fun k hk=>.inl hk
theorem Sep.setBox (h:Sep w0 w l)(i j:Nat)(v:Value)(hi:l[i]?=some (.box g t vs)):
  Sep w0 (w.setCell ⟨g,j,none⟩ v) (l.set i (.box g t (vs.set j v))):=by
 obtain⟨hg,hh⟩:=h.2.1 i _ hi;refine h.change i hi (a0h w g j _) ⟨hg,?_⟩ fun k hk=>.inl hk
 have:=heap_setCell_same w g j vs.toArray t v hh;simpa using this
theorem Sep.grow (h:Sep w0 w l)(i:Nat)(hi:l[i]?=some (.own e v n xs))(hg:w.grownBy w' v.ownBlock)(ho:OwnS w' w0.heap.size e' v' n' xs')(hv:v'.ownBlock=v.ownBlock∨v'.ownBlock=some w.heap.size):
  Sep w0 w' (l.set i (.own e' v' n' xs')) :=
 h.change i hi hg ho fun k hk=>by
  have hk:v'.ownBlock=some k:=hk;rcases hv with e|e
  ·exact .inl (e.symm.trans hk)
  ·rw[e] at hk;injection hk with hk;exact .inr (by omega)
theorem b9l {α : Type}{l:List α}{i:Nat}{x : α}(h:l[i]?=some x):l.set i x=l:=by
 apply List.ext_getElem?;intro j;rw[List.getElem?_set];by_cases hj:i=j
 ·subst hj;rw[iP rfl,h,iP (lL h)]
 ·rw[iN hj]
theorem Sep.read (h:Sep w0 w l)(i:Nat)(hi:l[i]?=some (.tape g))(hr:Read w g w'):Sep w0 w' l:=by
 have:=h.change i hi hr.2 (d:=.tape g) ⟨hr.1,(h.2.1 i _ hi).2⟩ (fun k hk=>.inl hk);rwa [b9l hi] at this
theorem Sep.tape (h:Sep w0 w l)(i:Nat)(hi:l[i]?=some (.tape g)):Tape w g:=(h.2.1 i _ hi).1
theorem Sep.pushNew {c:a0c}(h:Sep w0 w l)(h' : Sep w0 w' l)(hc:c.holds w' w0.heap.size)(hn:∀ k,c.block=some k→w.heap.size≤k):Sep w0 w' (c::l) :=
 Sep.cons_ h'.1 hc h'.2.1 (fun i d hi k hk hd=>by have:=hn k hk;have:=(a0c.block_ge (h.2.1 i d hi) hd).2;omega) h.2.2
theorem Sep.readOwn (h:Sep w0 w l)(i:Nat)(hi:l[i]?=some (.tape g))(hr:Read w g w')(ho:OwnS w' w.heap.size e v n xs):Sep w0 w' (.own e v n xs::l) :=
 h.pushNew (h.read i hi hr) (ho.mono h.size) fun k hk=>(ho.1.lt k hk).1
theorem Sep.readOwn2 (h:Sep w0 w l)(i:Nat)(hi:l[i]?=some (.tape g))(hr:Read w g w')(ho:OwnS w' w.heap.size e v n xs)(ho' : OwnS w' w.heap.size e' v' n' xs')(hne:e' ≠ e):Sep w0 w' (.own e v n xs::.own e' v' n' xs' :: l):=by
 have h1:=h.readOwn i hi hr ho';refine Sep.cons_ h1.1 (ho.mono h.size) h1.2.1 (fun j d hj k hk hd=>?_) h1.2.2
 cases j with
 | zero =>
  simp at hj;subst hj;obtain⟨cs,hx⟩:=ho.blk hk
  exact ho'.apart hx hne k hd rfl
 | succ j =>
  have:=(ho.1.lt k hk).1;have:=(a0c.block_ge (h.2.1 j d (by simpa using hj)) hd).2;omega
theorem Sep.startTape {o:Obj}(hg:w.heap.size=g)(ht:Tape (w.alloc o) g):Sep w (w.alloc o) [.tape g] :=
 Sep.cons_ ((Below.refl _ _).alloc (Nat.le_refl _) _) ⟨ht,hg.symm⟩ (fun i d hi=>by simp at hi) (fun i d hi=>by simp at hi) (fun i j a b _ hi=>by simp at hi)
theorem Sep.cell (h:Sep w0 w l)(i j:Nat)(hi:l[i]?=some (.box g t vs))(hj:vs[j]?=some v):w.cell? ⟨g,j,none⟩=some v :=
 cell_of_row _ _ j _ _ _ (h.2.1 i _ hi).2 |>.trans (by simpa using hj)
theorem Sep.c (h:Sep w0 w l)(i j:Nat)(hi:l[i]?=some (.box g t vs):=by rfl)(hj:vs[j]?=some v:=by rfl):w.cell? ⟨g,j,none⟩=some v:=h.cell i j hi hj
theorem Sep.cells4 (h:Sep w0 w l)(i:Nat)(hi:l[i]?=some (.box g t [v0,v1,v2,v3])):w.cell? ⟨g,0,none⟩=some v0∧w.cell? ⟨g,1,none⟩=some v1∧w.cell? ⟨g,2,none⟩=some v2∧w.cell? ⟨g,3,none⟩=some v3 :=
 ⟨h.cell i 0 hi rfl,h.cell i 1 hi rfl,h.cell i 2 hi rfl,h.cell i 3 hi rfl⟩
theorem Sep.cells7 (h:Sep w0 w l)(i:Nat)(hi:l[i]?=some (.box g t [v0,v1,v2,v3,v4,v5,v6])):w.cell? ⟨g,0,none⟩=some v0∧w.cell? ⟨g,1,none⟩=some v1∧w.cell? ⟨g,2,none⟩=some v2∧w.cell? ⟨g,3,none⟩=some v3∧w.cell? ⟨g,4,none⟩=some v4∧w.cell? ⟨g,5,none⟩=some v5∧w.cell? ⟨g,6,none⟩=some v6 :=
 ⟨h.cell i 0 hi rfl,h.cell i 1 hi rfl,h.cell i 2 hi rfl,h.cell i 3 hi rfl,h.cell i 4 hi rfl,h.cell i 5 hi rfl,h.cell i 6 hi rfl⟩
theorem Sep.frozenBox (h:Sep w0 w l)(i j:Nat)(hi:l[i]?=some (.box g t vs)):w.frozen? ⟨g,j,none⟩=false :=
 frozen_of_row _ _ j _ _ (h.2.1 i _ hi).2
theorem Sep.z2 (h:Sep w0 w l)(i:Nat)(hi:l[i]?=some (.box g t (v0::v1::vs))):w.cell? ⟨g,0,none⟩=some v0∧w.cell? ⟨g,1,none⟩=some v1:=⟨h.cell i 0 hi rfl,h.cell i 1 hi rfl⟩
theorem Sep.z3 (h:Sep w0 w l)(i:Nat)(hi:l[i]?=some (.box g t (v0::v1::v2::vs))):w.cell? ⟨g,0,none⟩=some v0∧w.cell? ⟨g,1,none⟩=some v1∧w.cell? ⟨g,2,none⟩=some v2:=⟨h.cell i 0 hi rfl,h.cell i 1 hi rfl,h.cell i 2 hi rfl⟩
theorem Sep.z4 (h:Sep w0 w l)(i:Nat)(hi:l[i]?=some (.box g t (v0::v1::v2::v3::vs))):w.cell? ⟨g,0,none⟩=some v0∧w.cell? ⟨g,1,none⟩=some v1∧w.cell? ⟨g,2,none⟩=some v2∧w.cell? ⟨g,3,none⟩=some v3:=⟨h.cell i 0 hi rfl,h.cell i 1 hi rfl,h.cell i 2 hi rfl,h.cell i 3 hi rfl⟩
theorem Sep.z5 (h:Sep w0 w l)(i:Nat)(hi:l[i]?=some (.box g t (v0::v1::v2::v3::v4::vs))):w.cell? ⟨g,0,none⟩=some v0∧w.cell? ⟨g,1,none⟩=some v1∧w.cell? ⟨g,2,none⟩=some v2∧w.cell? ⟨g,3,none⟩=some v3∧w.cell? ⟨g,4,none⟩=some v4:=⟨h.cell i 0 hi rfl,h.cell i 1 hi rfl,h.cell i 2 hi rfl,h.cell i 3 hi rfl,h.cell i 4 hi rfl⟩
theorem Sep.f2 (h:Sep w0 w l)(i:Nat)(hi:l[i]?=some (.box g t vs)):w.frozen? ⟨g,0,none⟩=false∧w.frozen? ⟨g,1,none⟩=false:=⟨h.frozenBox i 0 hi,h.frozenBox i 1 hi⟩
theorem Sep.b2 (h:Sep w0 w l)(i:Nat)(hi:l[i]?=some (.box g t (v0::v1::vs)):=by rfl):w.cell? ⟨g,0,none⟩=some v0∧w.cell? ⟨g,1,none⟩=some v1∧w.frozen? ⟨g,0,none⟩=false∧w.frozen? ⟨g,1,none⟩=false:=⟨h.cell i 0 hi rfl,h.cell i 1 hi rfl,h.frozenBox i 0 hi,h.frozenBox i 1 hi⟩
theorem Sep.f4 (h:Sep w0 w l)(i:Nat)(hi:l[i]?=some (.box g t vs)):w.frozen? ⟨g,0,none⟩=false∧w.frozen? ⟨g,1,none⟩=false∧w.frozen? ⟨g,2,none⟩=false∧w.frozen? ⟨g,3,none⟩=false:=⟨h.frozenBox i 0 hi,h.frozenBox i 1 hi,h.frozenBox i 2 hi,h.frozenBox i 3 hi⟩
theorem Sep.f7 (h:Sep w0 w l)(i:Nat)(hi:l[i]?=some (.box g t vs)):w.frozen? ⟨g,0,none⟩=false∧w.frozen? ⟨g,1,none⟩=false∧w.frozen? ⟨g,2,none⟩=false∧w.frozen? ⟨g,3,none⟩=false∧w.frozen? ⟨g,4,none⟩=false∧w.frozen? ⟨g,5,none⟩=false∧w.frozen? ⟨g,6,none⟩=false:=⟨h.frozenBox i 0 hi,h.frozenBox i 1 hi,h.frozenBox i 2 hi,h.frozenBox i 3 hi,h.frozenBox i 4 hi,h.frozenBox i 5 hi,h.frozenBox i 6 hi⟩
abbrev oN:a0c:=.own 3 (.slice none 0 0) 0 []
theorem Sep.heap (h:Sep w0 w l)(i:Nat)(hi:l[i]?=some (.box g t vs)):w.heap[g]?=some (.cells vs.toArray t (0,0)):=(h.2.1 i _ hi).2
theorem Sep.ownS (h:Sep w0 w l)(i:Nat)(hi:l[i]?=some (.own e v n xs)):OwnS w w0.heap.size e v n xs:=h.2.1 i _ hi
theorem Sep.own (h:Sep w0 w l)(i:Nat){c:Nat}(hi:l[i]?=some (.own e (.slice (some ⟨g,0,none⟩) n c) n xs)):Own w w0.heap.size e g n c xs:=h.2.1 i _ hi
theorem Sep.oldInts (h:Sep w0 w l)(i:Nat)(hi:l[i]?=some (.ints A n xs)):Ints w A n xs:=(h.2.1 i _ hi).1
theorem Sep.ownInts (h:Sep w0 w l)(i:Nat){c:Nat}(hi:l[i]?=some (.own e (.slice A m c) n xs)):m=n∧m≤c∧Ints w A n xs:=by
 obtain⟨A', c', hv,hc,hI,_⟩:=OwnS.form (h.2.1 i _ hi);injection hv with h1 h2 h3
 subst h1;subst h2;subst h3;exact⟨rfl,hc,hI⟩
theorem Sep.blockLt (h:Sep w0 w l)(i:Nat)(hi:l[i]?=some (.box g t vs)):w0.heap.size≤g∧g<w.heap.size:=⟨(h.2.1 i _ hi).1,b5o (h.2.1 i _ hi).2⟩
theorem Sep.ne (h:Sep w0 w l)(i j:Nat){a b:a0c}(hi:l[i]?=some a)(hj:l[j]?=some b)(ha:a.block=some k)(hb:b.block=some m)(hij:i≠j):k≠m:=fun e=>by
 subst e;exact h.2.2 i j a b hij hi hj k ha hb
end
variable {P : Program}
theorem Sep.addNil {l:List a0c}(h:Sep w0 w l)(e:TypeId):Sep w0 w (.own e (.slice none 0 0) 0 []::l) :=
 Sep.cons_ h.1 (OwnS.nil_ _ _ _) h.2.1 (fun _ _ _ k hk=>by cases hk) h.2.2
theorem Sep.noughts {l:List a0c}(h:Sep w0 w l)(e:TypeId)(n:Nat)(hn:n≤17592186044000):Sep w0 (w.alloc (.cells (noughts n) e)) (.own e (.slice (some ⟨w.heap.size,0,none⟩) n n) n (List.replicate n 0)::l) :=
 h.addOwn ((Below.refl _ _).alloc (Nat.le_refl _) _) (a7g (heap_alloc_new _ _) (Nat.le_refl _) hn)
theorem d8x (w:World){base:Nat}(e:TypeId)(cs:Array Value)(xs:List Int)(hb:base≤w.heap.size)(hc:cs.toList=xs.map (Value.int .i64))(h:a0y xs n=true):
  OwnS (w.alloc (.cells cs e)) base e (.slice (some ⟨w.heap.size,0,none⟩) n n) n xs:=by
 simp only[a0y,Bool.and_eq_true,decide_eq_true_eq,List.all_eq_true] at h;have hs:cs.size=n*1:=by rw[←Array.length_toList,hc,List.length_map];omega
 refine⟨?_,fun x hx=>h.1.1 x hx,by omega⟩;have:=World.ownsRow_lit (e:=e) w cs n hb (by unfold maxLen;omega) hs;rwa [hc] at this
theorem Sep.lit {l:List a0c}(h:Sep w0 w l)(e:TypeId)(cs:Array Value)(xs:List Int)(n g:Nat)(hg:w.heap.size=g)(hc:cs.toList=xs.map (Value.int .i64))(hl:a0y xs n=true):
  Sep w0 (w.alloc (.cells cs e)) (.own e (.slice (some ⟨g,0,none⟩) n n) n xs::l):=by
 subst hg;exact h.addOwn ((Below.refl _ _).alloc (Nat.le_refl _) _) (d8x w e cs xs (Nat.le_refl _) hc hl)
theorem Sep.empty {l:List a0c}(h:Sep w0 w l)(e:TypeId):Sep w0 (w.alloc (.cells #[] e)) (.own e (.slice (some ⟨w.heap.size,0,none⟩) 0 0) 0 []::l) :=
 h.addOwn ((Below.refl _ _).alloc (Nat.le_refl _) _) (c4g w e (Nat.le_refl _))
theorem Sep.oldCell {l:List a0c}(h:Sep w0 w l)(hb:p.block<w0.heap.size)(hc:w0.cell? p=some v):w.cell? p=some v:=(h.base.cell hb).trans hc
theorem Sep.oC {l:List a0c}(h:Sep w0 w l)(hc:w0.cell? p=some v)(hb:p.block<w0.heap.size):w.cell? p=some v:=h.oldCell hb hc
theorem Sep.oldTen {l:List a0c}(h:Sep w0 w l){s d:List Int}(ht:Ten w0 v s d):Ten w v s d:=ht.below h.base
theorem Sep.oldI {l:List a0c}(h:Sep w0 w l)(hI:Ints w0 A n xs):Ints w A n xs:=hI.below h.base
theorem a0x (hgd:o.guard=none)(s y:Operand)(t e:TypeId)
  (ho:o.op=.call { callee:=.builtin .append,args:=#[s,y],argTypes:=#[t,t] })(ht:P.underlying t=some (.slice e))
  (hinfo:(P.info? e).map (fun i=>(i.zero,i.size,i.bytes))=some (some (.int .i64 0),1,8))
  {l:List a0c}(H:Sep w0 w l)(i:Nat)(hi:l[i]?=some (.own e v n xs))(hs:a.eval s=v)(x:Int)(hf:Fits x)(c:Nat)(hy:a.eval y=.slice (some ⟨w.heap.size,0,none⟩) 1 c)
  (hn:n≤17592186043000)
  (h:∀ v' w', Sep w0 w' (l.set i (.own e v' (n+1) (xs++[x])))→wpList P ops Q rest (a.put o.dst v') w'):
  wpList P ops Q (o::rest) a (w.alloc (.cells #[.int .i64 x] e)):=by
 have H':=H.below ((Below.refl w.heap.size w).alloc (Nat.le_refl _) (.cells #[.int .i64 x] e));refine a6b hgd s y t e ho ht hinfo w0.heap.size v n xs hs (H'.ownS i hi) (by have:=H'.size;exact this) _ 1 c [x] hy (c1n w e #[.int .i64 x] [x] rfl (by simpa using hf) 1 rfl (by omega)) (by omega) fun v' w' h1 h2 h3=>h v' w' (H'.grow i hi h2 h1 h3)
theorem a0v {E:Prop}(hgd:o.guard=none)(s y:Operand)(t e:TypeId)
  (ho:o.op=.call { callee:=.builtin .append,args:=#[s,y],argTypes:=#[t,t] })(ht:P.underlying t=some (.slice e))
  (hinfo:(P.info? e).map (fun i=>(i.zero,i.size,i.bytes))=some (some (.int .i64 0),1,8))
  {l:List a0c}(H:Sep w0 w l)(i:Nat)(hi:l[i]?=some (.own e v n xs))(hs:a.eval s=v)(x:Int)(hf:Fits x)(c:Nat)(hy:a.eval y=.slice (some ⟨w.heap.size,0,none⟩) 1 c)
  (hn:n≤17592186043000)
  (h:∀ v' w', Sep w0 w' (l.set i (.own e v' (n+1) (xs++[x])))→K (a.put o.dst v') w'):
  if Region.wanted o (yielded ops a.tmps)=true then Oper.wp P o a (w.alloc (.cells #[.int .i64 x] e)) K Q else E:=by
 have H':=H.below ((Below.refl w.heap.size w).alloc (Nat.le_refl _) (.cells #[.int .i64 x] e));refine b0c hgd s y t e ho ht hinfo w0.heap.size v n xs hs (H'.ownS i hi) (by have:=H'.size;exact this) _ 1 c [x] hy (c1n w e #[.int .i64 x] [x] rfl (by simpa using hf) 1 rfl (by omega)) (by omega) fun v' w' h1 h2 h3=>h v' w' (H'.grow i hi h2 h1 h3)
theorem a0l (hgd:o.guard=none)(s y:Operand)(t e:TypeId)
  (ho:o.op=.call { callee:=.builtin .append,args:=#[s,y],argTypes:=#[t,t] })(ht:P.underlying t=some (.slice e))
  (hinfo:(P.info? e).map (fun i=>(i.zero,i.size,i.bytes))=some (some (.int .i64 0),1,8))
  {l:List a0c}(H:Sep w0 w l)(i:Nat)(hi:l[i]?=some (.own e v n xs))(hs:a.eval s=v)(A:Option Addr)(m c:Nat)(ys:List Int)(hy:a.eval y=.slice A m c)(hI:Ints w A m ys)
  (hn:n+m≤17592186044000)
  (h:∀ v' w', Sep w0 w' (l.set i (.own e v' (n+m) (xs++ys)))→wpList P ops Q rest (a.put o.dst v') w'):wpList P ops Q (o::rest) a w :=
 a6b hgd s y t e ho ht hinfo w0.heap.size v n xs hs (H.ownS i hi) H.size A m c ys hy hI hn fun v' w' h1 h2 h3=>h v' w' (H.grow i hi h2 h1 h3)
theorem a0p {E:Prop}(hgd:o.guard=none)(s y:Operand)(t e:TypeId)
  (ho:o.op=.call { callee:=.builtin .append,args:=#[s,y],argTypes:=#[t,t] })(ht:P.underlying t=some (.slice e))
  (hinfo:(P.info? e).map (fun i=>(i.zero,i.size,i.bytes))=some (some (.int .i64 0),1,8))
  {l:List a0c}(H:Sep w0 w l)(i:Nat)(hi:l[i]?=some (.own e v n xs))(hs:a.eval s=v)(A:Option Addr)(m c:Nat)(ys:List Int)(hy:a.eval y=.slice A m c)(hI:Ints w A m ys)
  (hn:n+m≤17592186044000)
  (h:∀ v' w', Sep w0 w' (l.set i (.own e v' (n+m) (xs++ys)))→K (a.put o.dst v') w'):
  if Region.wanted o (yielded ops a.tmps)=true then Oper.wp P o a w K Q else E :=
 b0c hgd s y t e ho ht hinfo w0.heap.size v n xs hs (H.ownS i hi) H.size A m c ys hy hI hn fun v' w' h1 h2 h3=>h v' w' (H.grow i hi h2 h1 h3)
theorem Sep.recast {l l' : List a0c}(H:Sep w0 w l)(h:l=l'):Sep w0 w l':=h ▸ H
theorem Sep.tail_ {c:a0c}{l:List a0c}(h:Sep w0 w (c::l)):Sep w0 w l :=
 ⟨h.1,fun i d hi=>h.2.1 (i+1) d hi,fun i j a b hij hi hj=>h.2.2 (i+1) (j+1) a b (by omega) hi hj⟩
theorem Sep.less1 {c d:a0c}{l:List a0c}(h:Sep w0 w (c::d::l)):Sep w0 w (c::l) :=
 Sep.cons_ h.1 (h.2.1 0 c rfl) h.tail_.tail_.2.1 (fun i e hi=>h.2.2 0 (i+2) c e (by omega) rfl hi) h.tail_.tail_.2.2
theorem Sep.swap {c d:a0c}{l:List a0c}(h:Sep w0 w (c::d::l)):Sep w0 w (d::c::l) :=
 Sep.cons_ h.1 (h.2.1 1 d rfl) h.less1.2.1 (fun i e hi=>by
  cases i with
  | zero=>simp at hi;subst hi;exact(h.2.2 0 1 _ d (by omega) rfl rfl).symm
  | succ i=>exact h.2.2 1 (i+2) d e (by omega) rfl (by simpa using hi)) h.less1.2.2
theorem Sep.noughts2 {l:List a0c}(h:Sep w0 w l)(e:TypeId)(n:Nat)(hn:n≤17592186044000):
  Sep w0 ((w.alloc (.cells (Go.Proofs.YtjblengklgkgfaaGreat.noughts n) e)).alloc (.cells (Go.Proofs.YtjblengklgkgfaaGreat.noughts n) e)) (.own e (.slice (some ⟨w.heap.size+1,0,none⟩) n n) n (List.replicate n 0)::.own e (.slice (some ⟨w.heap.size,0,none⟩) n n) n (List.replicate n 0)::l):=by
 have:=(h.noughts e n hn).noughts e n hn;rwa [show(w.alloc (.cells (Go.Proofs.YtjblengklgkgfaaGreat.noughts n) e)).heap.size=w.heap.size+1 by simp] at this
theorem Sep.addOld {l:List a0c}(h:Sep w0 w l)(hI:Ints w0 A n xs):Sep w0 w (.ints A n xs::l) :=
 Sep.cons_ h.1 ⟨h.oldI hI,hI.lt⟩ h.2.1 (fun i d hi k hk=>by cases hk) h.2.2
theorem Sep.pair {l:List a0c}:Sep w0 w l↔Below w0.heap.size w0 w∧(∀ c∈l,a0c.holds w w0.heap.size c)∧l.Pairwise c4d:=by
 constructor
 ·rintro⟨h1,h2,h3⟩;refine⟨h1,fun c hc=>?_,?_⟩
  ·obtain⟨i,hi⟩:=List.getElem?_of_mem hc;exact h2 i c hi
  ·rw[List.pairwise_iff_getElem];intro i j hi hj hij;exact h3 i j _ _ (by omega) (List.getElem?_eq_getElem hi) (List.getElem?_eq_getElem hj)
 ·rintro⟨h1,h2,h3⟩;refine⟨h1,fun i c hi=>h2 c (mG hi),fun i j a b hij hi hj=>?_⟩;rw[List.pairwise_iff_getElem] at h3;obtain⟨hil,rfl⟩:=List.getElem?_eq_some_iff.1 hi;obtain⟨hjl,rfl⟩:=List.getElem?_eq_some_iff.1 hj;rcases Nat.lt_or_ge i j with h|h
  ·exact h3 i j hil hjl h
  ·exact(h3 j i hjl hil (by omega)).symm
theorem Sep.perm {l l' : List a0c}(h:Sep w0 w l)(hp:l.Perm l'):Sep w0 w l':=by
 obtain⟨h1,h2,h3⟩:=Sep.pair.1 h;exact Sep.pair.2 ⟨h1,fun c hc=>h2 c (hp.mem_iff.2 hc),hp.pairwise h3 fun hab=>hab.symm⟩
theorem OwnS.take {base:Nat}{c:Nat}(h:OwnS w base e (.slice A n c) n xs)(hk:k≤n)(h0:0<k):OwnS w base e (.slice A k c) k (xs.take k):=by
 obtain⟨⟨hl,hh⟩,hf,hn⟩:=h;refine⟨⟨by rw[List.map_take,List.length_take,hl];omega,?_⟩,fun x hx=>hf x (List.mem_of_mem_take hx),by omega⟩;rcases hh with ⟨_,h'⟩|⟨g,cap,cur,hv,hb,hg,hnc,hcm,hcs,hct⟩
 ·omega
 ·right
  injection hv with h1 h2 h3
  refine⟨g,cap,cur,by rw[h1,h3],hb,hg,by omega,hcm,hcs,?_⟩;rw[List.map_take,←hct,List.take_take]
  congr 1;omega
theorem Sep.takeOwn {l:List a0c}{c:Nat}(h:Sep w0 w l)(i:Nat)(hi:l[i]?=some (.own e (.slice A n c) n xs))(hk:k≤n)(h0:0<k):
  Sep w0 w (l.set i (.own e (.slice A k c) k (xs.take k))) :=
 h.change i hi (World.grownBy.refl _ _) (OwnS.take (h.ownS i hi) hk h0) fun b hb=>.inl (by cases A <;> exact hb)
theorem Sep.rowForm {l:List a0c}(h:Sep w0 w l)(i:Nat)(hi:l[i]?=some (.row e k v n us))(hn:0<n):∃ g c,v=.slice (some ⟨g,0,none⟩) n c∧n≤c:=by
 have hr:w.ownsRow w0.heap.size e k v n us:=h.at_ i hi;rcases hr.2 with ⟨_,h'⟩|⟨g,cap,cur,hv,_,_,hnc,_⟩
 ·omega
 ·exact⟨g,cap,hv,hnc⟩
theorem Sep.addRowNil {l:List a0c}(h:Sep w0 w l)(e:TypeId)(k:Nat):Sep w0 w (.row e k (.slice none 0 0) 0 []::l) :=
 Sep.cons_ h.1 (World.ownsRow_nil w w0.heap.size e k) h.2.1 (fun _ _ _ b hb=>by cases hb) h.2.2
structure a0s where
 op:Int
 ins:List Int
 shape:List Int
 a:List Int
 n:Int
 how:Int
 note:ByteArray
structure a3n where
 sizes:List Int
 names:ByteArray
 nodes:List a0s
 outs:List Int
structure b0g (w:World) (nd:a0s) (A:Option Addr) (na ca:Nat) (B:Option Addr) (nb cb:Nat) (C:Option Addr) (nc cc:Nat):Prop where
 ia:na≤ca
 ib:nb≤cb
 ic:nc≤cc
 inA:Ints w A na nd.ins
 inB:Ints w B nb nd.shape
 inC:Ints w C nc nd.a
 op:Fits nd.op
 n:Fits nd.n
 how:Fits nd.how
 note:nd.note.size≤17592186044000
def a7t (nd:a0s) (A:Option Addr) (na ca:Nat) (B:Option Addr) (nb cb:Nat) (C:Option Addr) (nc cc:Nat):List Value :=
 [.int .i64 nd.op,.slice A na ca,.slice B nb cb,.slice C nc cc,.int .i64 nd.n,.int .i64 nd.how,.string nd.note]
def a3k (w:World) (v:Value) (nd:a0s):Prop :=
 ∃ A na ca B nb cb C nc cc,v=.agg #[.int .i64 nd.op,.slice A na ca,.slice B nb cb,.slice C nc cc,.int .i64 nd.n,.int .i64 nd.how,.string nd.note]∧b0g w nd A na ca B nb cb C nc cc
theorem b0g.below {nd:a0s}(h:b0g w nd A na ca B nb cb C nc cc)(hb:Below w.heap.size w w'):b0g w' nd A na ca B nb cb C nc cc :=
 ⟨h.ia,h.ib,h.ic,h.inA.below hb,h.inB.below hb,h.inC.below hb,h.op,h.n,h.how,h.note⟩
theorem a3k.below {nd:a0s}(h:a3k w v nd)(hb:Below w.heap.size w w'):a3k w' v nd:=by
 obtain⟨A,na,ca,B,nb,cb,C,nc,cc,e,hl⟩:=h;exact⟨A,na,ca,B,nb,cb,C,nc,cc,e,hl.below hb⟩
structure e2h (w:World) (nd:a0s) (A:Option Addr) (na ca:Nat) (B:Option Addr) (nb cb:Nat) (C:Option Addr) (nc cc:Nat):Prop where
 ia:na≤ca
 ib:nb≤cb
 ic:nc≤cc
 inA:Ints w A na nd.ins
 inB:Ints w B nb nd.shape
 inC:Ints w C nc nd.a
 op:Fits nd.op
 n:Fits nd.n
 how:Fits nd.how
 note:True
def a4a (w:World) (v:Value) (nd:a0s):Prop :=
 ∃ A na ca B nb cb C nc cc,v=.agg #[.int .i64 nd.op,.slice A na ca,.slice B nb cb,.slice C nc cc,.int .i64 nd.n,.int .i64 nd.how,.string nd.note]∧e2h w nd A na ca B nb cb C nc cc
theorem a3k.wide {nd:a0s}(h:a3k w v nd):a4a w v nd:=by
 obtain⟨A,na,ca,B,nb,cb,C,nc,cc,e,l⟩:=h;exact⟨A,na,ca,B,nb,cb,C,nc,cc,e,l.ia,l.ib,l.ic,l.inA,l.inB,l.inC,l.op,l.n,l.how,trivial⟩
theorem a4a.below {nd:a0s}(h:a4a w v nd)(hb:Below w.heap.size w w'):a4a w' v nd:=by
 obtain⟨A,na,ca,B,nb,cb,C,nc,cc,e,l⟩:=h;exact⟨A,na,ca,B,nb,cb,C,nc,cc,e,l.ia,l.ib,l.ic,l.inA.below hb,l.inB.below hb,l.inC.below hb,l.op,l.n,l.how,trivial⟩
def Lils (w:World) (A:Option Addr) (n:Nat) (L:List (List Int)):Prop :=
 L.length=n∧n≤900∧∀ j x,L[j]?=some x→∃ a B m c,A=some a∧a.block<w.heap.size∧w.cell? (a.add j)=some (.slice B m c)∧m≤c∧Ints w B m x
theorem Lils.below {L:List (List Int)}(h:Lils w A n L)(hb:Below w.heap.size w w'):Lils w' A n L :=
 ⟨h.1,h.2.1,fun j x hx=>by
  obtain⟨a,B,m,c,e,hl,h0,hc,hI⟩:=h.2.2 j x hx
  exact⟨a,B,m,c,e,by have:=hb.size;omega,(hb.cell (by rw[a0g];exact hl)).trans h0,hc,hI.below hb⟩⟩
def Nods (w:World) (A:Option Addr) (n:Nat) (L:List a0s):Prop :=
 L.length=n∧n≤900∧∀ j nd,L[j]?=some nd→∃ a S na ca B nb cb C nc cc,A=some a∧a.block<w.heap.size∧w.cell? (a.add (j*7))=some (.int .i64 nd.op) ∧
  w.cell? ⟨(a.add (j*7)).block,(a.add (j*7)).off+1,none⟩=some (.slice S na ca)∧w.cell? ⟨(a.add (j*7)).block,(a.add (j*7)).off+2,none⟩=some (.slice B nb cb)∧w.cell? ⟨(a.add (j*7)).block,(a.add (j*7)).off+3,none⟩=some (.slice C nc cc) ∧
  w.cell? ⟨(a.add (j*7)).block,(a.add (j*7)).off+4,none⟩=some (.int .i64 nd.n)∧w.cell? ⟨(a.add (j*7)).block,(a.add (j*7)).off+5,none⟩=some (.int .i64 nd.how)∧w.cell? ⟨(a.add (j*7)).block,(a.add (j*7)).off+6,none⟩=some (.string nd.note)∧b0g w nd S na ca B nb cb C nc cc
theorem Nods.below {L:List a0s}(h:Nods w A n L)(hb:Below w.heap.size w w'):Nods w' A n L :=
 ⟨h.1,h.2.1,fun j x hx=>by
  obtain⟨a,S,na,ca,B,nb,cb,C,nc,cc,e,hl,h0,h1,h2,h3,h4,h5,h6,hN⟩:=h.2.2 j x hx;have hl' : ∀ k:Nat,(⟨(a.add (j*7)).block,(a.add (j*7)).off+k,none⟩:Addr).block<w.heap.size:=fun k=>by simp only[a0g];exact hl
  exact⟨a,S,na,ca,B,nb,cb,C,nc,cc,e,by have:=hb.size;omega,(hb.cell (by rw[a0g];exact hl)).trans h0,(hb.cell (hl' 1)).trans h1,(hb.cell (hl' 2)).trans h2,(hb.cell (hl' 3)).trans h3,(hb.cell (hl' 4)).trans h4,(hb.cell (hl' 5)).trans h5,(hb.cell (hl' 6)).trans h6,hN.below hb⟩⟩
structure c5d (w:World) (G:a3n) (A:Option Addr) (na ca:Nat) (B:Option Addr) (nb cb:Nat) (C:Option Addr) (nc cc:Nat):Prop where
 ia:na≤ca
 ib:nb≤cb
 ic:nc≤cc
 inA:Ints w A na G.sizes
 inB:Nods w B nb G.nodes
 inC:Ints w C nc G.outs
 names:G.names.size≤17592186044000
def a2c (w:World) (v:Value) (G:a3n):Prop :=
 ∃ A na ca B nb cb C nc cc,v=.agg #[.slice A na ca,.string G.names,.slice B nb cb,.slice C nc cc]∧c5d w G A na ca B nb cb C nc cc
theorem c5d.below {G:a3n}(h:c5d w G A na ca B nb cb C nc cc)(hb:Below w.heap.size w w'):c5d w' G A na ca B nb cb C nc cc :=
 ⟨h.ia,h.ib,h.ic,h.inA.below hb,h.inB.below hb,h.inC.below hb,h.names⟩
theorem a2c.below {G:a3n}(h:a2c w v G)(hb:Below w.heap.size w w'):a2c w' v G:=by
 obtain⟨A,na,ca,B,nb,cb,C,nc,cc,e,hl⟩:=h;exact⟨A,na,ca,B,nb,cb,C,nc,cc,e,hl.below hb⟩
theorem a1e {fn:Func}{t u v x y:Tmp}(h:fn.results=#[.tmp t,.tmp u,.tmp v,.tmp x,.tmp y])(tmps:Array Value)(P:Program)(w:World):
  (results fn tmps).run P w=.ok (.tuple #[tmps.getD t undef,tmps.getD u undef,tmps.getD v undef,tmps.getD x undef,tmps.getD y undef]) w:=by
 simp[results,h]
def a0m (op:Int):Int × Bool × Bool × Bool × Bool :=
 if op=1 then(0,true,false,false,false) else if op=2 then(0,true,false,true,false) else if op=3 then(0,true,true,false,false)
 else if op=4∨op=5 then(1,false,false,false,false) else if 6≤op∧op≤11 then(2,false,false,false,false) else if op=12 then(3,false,false,false,false)
 else if op=13∨op=15 then(1,false,true,false,false) else if op=14 then(1,true,true,false,false) else if op=16 then(1,false,true,true,false)
 else if op=17 then(-1,false,true,false,false) else if op=18∨op=20 then(1,false,true,false,true) else if op=19 then(2,false,true,false,false) else(-2,false,false,false,false)
def b4z (t:Int × Bool × Bool × Bool × Bool) (nd:a0s) (k:Int):Bool :=
 if t.1 = -2∨(0≤t.1∧k≠t.1)∨(t.1 = -1∧k<2) then false
 else(t.2.1||decide (nd.shape.length=0))&&(t.2.2.1||decide (nd.a.length=0))&&(t.2.2.2.1||decide (nd.n=0))&&(t.2.2.2.2||decide (nd.how=0))
def a4h (nd:a0s) (k:Int):Bool:=b4z (a0m nd.op) nd k
theorem triN (b:Bool)(n:Nat):b=true∨(b=false∧n=0∧((n:Int)==0)=true)∨(b=false∧¬ n=0∧((n:Int)==0)=false):=by
 cases b
 ·by_cases h:n=0
  ·exact .inr (.inl ⟨rfl,h,by simpa using h⟩)
  ·exact .inr (.inr ⟨rfl,h,by simpa using h⟩)
 ·exact .inl rfl
theorem triI (b:Bool)(n:Int):b=true∨(b=false∧n=0∧(n==0)=true)∨(b=false∧¬ n=0∧(n==0)=false):=by
 cases b
 ·by_cases h:n=0
  ·exact .inr (.inl ⟨rfl,h,by simpa using h⟩)
  ·exact .inr (.inr ⟨rfl,h,by simpa using h⟩)
 ·exact .inl rfl
theorem a1i {a:Addr}(h:a.block<n):(a.add k).block<n:=by rw[a0g];exact h
theorem old7 {l:List a0c}(H:Sep w0 w l){la:Addr}{j:Nat}(hb:la.block<w0.heap.size)(k0:w0.cell? (la.add (j*7))=some v0)(k1:w0.cell? ⟨(la.add (j*7)).block,(la.add (j*7)).off+1,none⟩=some v1)(k2:w0.cell? ⟨(la.add (j*7)).block,(la.add (j*7)).off+2,none⟩=some v2)(k3:w0.cell? ⟨(la.add (j*7)).block,(la.add (j*7)).off+3,none⟩=some v3)(k4:w0.cell? ⟨(la.add (j*7)).block,(la.add (j*7)).off+4,none⟩=some v4)(k5:w0.cell? ⟨(la.add (j*7)).block,(la.add (j*7)).off+5,none⟩=some v5)(k6:w0.cell? ⟨(la.add (j*7)).block,(la.add (j*7)).off+6,none⟩=some v6):
  w.cell? (la.add (j*7))=some v0∧w.cell? ⟨(la.add (j*7)).block,(la.add (j*7)).off+1,none⟩=some v1∧w.cell? ⟨(la.add (j*7)).block,(la.add (j*7)).off+2,none⟩=some v2∧w.cell? ⟨(la.add (j*7)).block,(la.add (j*7)).off+3,none⟩=some v3∧w.cell? ⟨(la.add (j*7)).block,(la.add (j*7)).off+4,none⟩=some v4∧w.cell? ⟨(la.add (j*7)).block,(la.add (j*7)).off+5,none⟩=some v5∧w.cell? ⟨(la.add (j*7)).block,(la.add (j*7)).off+6,none⟩=some v6 :=
 ⟨H.oldCell (a1i hb) k0,H.oldCell (a1i hb) k1,H.oldCell (a1i hb) k2,H.oldCell (a1i hb) k3,H.oldCell (a1i hb) k4,H.oldCell (a1i hb) k5,H.oldCell (a1i hb) k6⟩
end Go.Proofs.YtjblengklgkgfaaGreat
