import Derived.Test.YtajhdeddgdhccaaGreatDoorPbd
import Derived.Test.YtajhdeddgdhccaaGreatDoorPbt
set_option maxRecDepth 100000
set_option maxHeartbeats 12800000
namespace Go.Proofs.YtajhdeddgdhccaaGreatDoor
open Go.RowKit Go.Proofs.Tryz
variable {L:List (List Int)} {a n:Nat} {s xs:List Int}
noncomputable def kOp (K:Int) (xs:List Int) (b q:Nat) (s:List Int) (L:List (List Int)):a0p × Nat :=
 if K=0 then kOp0 xs b q else if K=1 then kOp1 xs b q s L else if K=2 then kOp1 xs b q s L else if K=3 then kOp3 xs b q s L else if K=4 then kOp4 xs b q s else if K=5 then kOp5 xs b q s
 else if K=6 then kOp6 xs b q s else if K=7 then kOp7 xs b q s else if K=8 then kOp8 xs b q s L else if K=9 then kOp9 xs b q s else if K=10 then kDot xs L s q L.length 0 b else b9d xs b q s
noncomputable def a5o (xs:List Int) (a:Nat) (L:List (List Int)):a0p × Nat :=
 if L.length=0 then kSrc xs a else if tv xs a 5=0 then kSrc xs (ta xs a 5)
 else kOp (tv xs (ta xs (ta xs a 5) L.length) 12) xs (ta xs (ta xs (ta xs a 5) L.length) 12) (tv xs (ta xs a 5) L.length).toNat (L.getD (tv xs (ta xs a 5) L.length).toNat []) L
theorem d5q {w0 w:World}{l:List a0i}{i g:Nat}{A:Option Addr}{c:Nat}{Al:Option Addr}{nl cl:Nat}(hok:∀ s∈L,s.length≤4∧∀ x∈s,0≤x∧x≤32)(H:Sep w0 w l)(hi:l[i]?=some (TB g A n c a))(hI:Ints w0 A n xs)(ha:a≤n)(hL:a5l w0 l i g A n c Al nl L):
  Calls prog 17 #[.pointer (some ⟨g,0,none⟩),.slice Al nl cl] w (a2m w0 l i g A n c (a5o xs a L)):=by
 have hl:=hL.1;rcases Nat.eq_zero_or_pos nl with e|e
 ·rw[a5o,iP (by omega)];exact c8f e H hi hI ha hL
 ·rw[a5o,iN (by omega)];by_cases h5:tv xs a 5=0
  ·rw[iP h5];exact c8g e h5 H hi hI ha hL
  ·rw[iN h5,hl];obtain⟨q,hq⟩:=eZ (a0m xs (ta xs a 5) nl);have hqn:=a3f xs (ta xs a 5) (show(0:Int)<nl by omega);obtain⟨s,hs⟩:∃ s,L[q]?=some s:=gE (by omega);have hsk:=hok s (mG hs);have hgd:L.getD q []=s:=by rw[gD,hs];rfl
   rw[hq,Int.toNat_natCast,hgd];have k0:=a0m xs (ta xs (ta xs a 5) nl) 12;have k1:=a3f xs (ta xs (ta xs a 5) nl) (show(0:Int)<12 by omega);obtain⟨K,hK⟩:∃ K,tv xs (ta xs (ta xs a 5) nl) 12=K:=⟨_,rfl⟩;rw[hK] at k0 k1 ⊢;have hcase:K=0∨K=1∨K=2∨K=3∨K=4∨K=5∨K=6∨K=7∨K=8∨K=9∨K=10∨K=11:=by omega
   unfold kOp;rcases hcase with rfl|rfl|rfl|rfl|rfl|rfl|rfl|rfl|rfl|rfl|rfl|rfl
   ·rw[iP rfl];exact d1s q _ h5 hq hs rfl hK H hi hI ha hL
   ·rw[iN (by decide)];rw[iP rfl];exact d1t q _ h5 hq hs rfl hK H hi hI ha hL
   ·rw[iN (by decide)];rw[iN (by decide)];rw[iP rfl];exact d1u q _ h5 hq hs rfl hK H hi hI ha hL
   ·rw[iN (by decide)];rw[iN (by decide)];rw[iN (by decide)];rw[iP rfl];exact d1v q _ h5 hq hs rfl hK H hi hI ha hL
   ·rw[iN (by decide)];rw[iN (by decide)];rw[iN (by decide)];rw[iN (by decide)];rw[iP rfl];exact d1w q _ h5 hq hs rfl hK hsk.1 H hi hI ha hL
   ·rw[iN (by decide)];rw[iN (by decide)];rw[iN (by decide)];rw[iN (by decide)];rw[iN (by decide)];rw[iP rfl];exact d1x q _ h5 hq hs rfl hK H hi hI ha hL
   ·rw[iN (by decide)];rw[iN (by decide)];rw[iN (by decide)];rw[iN (by decide)];rw[iN (by decide)];rw[iN (by decide)];rw[iP rfl];exact d1y q _ h5 hq hs rfl hK hsk H hi hI ha hL
   ·rw[iN (by decide)];rw[iN (by decide)];rw[iN (by decide)];rw[iN (by decide)];rw[iN (by decide)];rw[iN (by decide)];rw[iN (by decide)];rw[iP rfl];exact d1z q _ h5 hq hs rfl hK hsk.1 H hi hI ha hL
   ·rw[iN (by decide)];rw[iN (by decide)];rw[iN (by decide)];rw[iN (by decide)];rw[iN (by decide)];rw[iN (by decide)];rw[iN (by decide)];rw[iN (by decide)];rw[iP rfl];exact d2a q _ h5 hq hs rfl hK H hi hI ha hL
   ·rw[iN (by decide)];rw[iN (by decide)];rw[iN (by decide)];rw[iN (by decide)];rw[iN (by decide)];rw[iN (by decide)];rw[iN (by decide)];rw[iN (by decide)];rw[iN (by decide)];rw[iP rfl];exact d2b q _ h5 hq hs rfl hK hsk.1 H hi hI ha hL
   ·rw[iN (by decide)];rw[iN (by decide)];rw[iN (by decide)];rw[iN (by decide)];rw[iN (by decide)];rw[iN (by decide)];rw[iN (by decide)];rw[iN (by decide)];rw[iN (by decide)];rw[iN (by decide)];rw[iP rfl];rw[hl];exact c8d q _ h5 hq hs rfl hK H hi hI ha hL
   ·rw[iN (by decide)];rw[iN (by decide)];rw[iN (by decide)];rw[iN (by decide)];rw[iN (by decide)];rw[iN (by decide)];rw[iN (by decide)];rw[iN (by decide)];rw[iN (by decide)];rw[iN (by decide)];rw[iN (by decide)];exact c8e q _ h5 hq hs rfl hK H hi hI ha hL
structure a9f (m n:Nat) (r:a0p × Nat):Prop where
 ins:∀ k∈r.1.ins,0≤k∧k<(m:Int)
 few:r.1.ins.length≤3
 op:Fits r.1.op
 num:Fits r.1.n
 how:Fits r.1.how
 note:r.1.note=⟨#[]⟩
 at_:r.2≤n
theorem c3g:∀(L:List (List Int)) (k:Nat) (s:List Int),∀ x∈a2e k L s,(k:Int)≤x∧x<(k+L.length:Nat)
 | [],k,s,x,hx=>by simp[a2e] at hx
 | y::L,k,s,x,hx=>by
  rw[a2e] at hx;have ih:=c3g L (k+1) s x;rw[List.length_cons]
  split at hx
  ·rcases List.mem_cons.1 hx with rfl|hx
   ·omega
   ·have:=ih hx;omega
  ·have:=ih hx;omega
theorem b0c (j:Nat)(h:0<L.length):0≤(a2e 0 L s).getD j 0∧(a2e 0 L s).getD j 0<(L.length:Int):=by
 rw[gD]
 cases e:(a2e 0 L s)[j]? with
 | none=>simp;omega
 | some x =>
  have:=c3g L 0 s x (mG e);simp only[Option.getD_some];omega
theorem a1m {x:Int}(h : -100≤x)(g:x≤100):Fits x:=⟨by omega,by omega⟩
theorem c3k {m:Nat}(h:xs.length=n)(ha:a≤n):a9f m n (kSrc xs a):=by
 have h1:=a1f 4 h ha;have h2:=a5p h h1;rw[kSrc]
 split
 ·exact⟨by simp[ndV],by simp[ndV],a1m (by simp[ndV]) (by simp[ndV]),a7r _ _,a1m (by simp[ndV]) (by simp[ndV]),rfl,b3q h h2.1⟩
 ·split
  ·exact⟨by simp[ndV],by simp[ndV],a1m (by simp[ndV]) (by simp[ndV]),a1m (by simp[ndV]) (by simp[ndV]),a1m (by simp[ndV]) (by simp[ndV]),rfl,a1f _ h h2.1⟩
  ·exact⟨by simp[ndV],by simp[ndV],a1m (by simp[ndV]) (by simp[ndV]),a1m (by simp[ndV]) (by simp[ndV]),a1m (by simp[ndV]) (by simp[ndV]),rfl,h2.1⟩
section
variable {xs : List Int} {b n m q : Nat}
theorem a7w {op:Int}{sh a:List Int}{k how:Int}{z:Nat}(hq:q<m)(h1 : -100≤op)(h2:op≤100)(h3:Fits k)(h4 : -100≤how)(h5:how≤100)(hz:z≤n):a9f m n (ndV op [(q:Int)] sh a k how,z) :=
 ⟨by intro k hk;simp[ndV] at hk;subst hk;omega,by simp[ndV],a1m h1 h2,h3,a1m h4 h5,rfl,hz⟩
theorem a5x:Fits 0:=⟨by omega,by omega⟩
theorem d0z (h:xs.length=n)(hb:b≤n)(hq:q<m):a9f m n (kOp0 xs b q):=by
 have h1:=a0m xs b 2;have h2:=a3f xs b (show(0:Int)<2 by omega);exact a7w hq (by omega) (by omega) a5x (by omega) (by omega) (a1f _ h hb)
theorem c3j (h:xs.length=n)(hb:b≤n)(hq:q<L.length):a9f L.length n (kOp1 xs b q s L):=by
 have h1:=a0m xs b 6;have h2:=a3f xs b (show(0:Int)<6 by omega);refine⟨?_,by simp[kOp1,ndV],a1m (by simp[kOp1,ndV];omega) (by simp[kOp1,ndV];omega),a5x,a5x,rfl,a1f _ h (a1f _ h hb)⟩;intro k hk;simp only[kOp1,ndV,List.mem_cons,List.not_mem_nil,or_false] at hk;rcases hk with rfl|rfl
 ·omega
 ·exact b0c _ (by omega)
theorem d1a (h:xs.length=n)(hb:b≤n)(hq:q<L.length):a9f L.length n (kOp3 xs b q s L):=by
 refine⟨?_,by simp[kOp3,ndV],a1m (by simp[kOp3,ndV]) (by simp[kOp3,ndV]),a5x,a5x,rfl,a1f _ h (a1f _ h hb)⟩;intro k hk;simp only[kOp3,ndV,List.mem_cons,List.not_mem_nil,or_false] at hk;rcases hk with rfl|rfl|rfl
 ·omega
 ·exact b0c _ (by omega)
 ·exact b0c _ (by omega)
theorem c3f (h:xs.length=n):∀(m j a:Nat) (p:List Int),a≤n→(a8v xs m j a p).2≤n
 | 0,_,_,_,ha=>ha
 | m+1,j,_,_,ha=>c3f h m (j+1) _ _ (a1f _ h ha)
theorem d1b (h:xs.length=n)(hb:b≤n)(hq:q<m):a9f m n (kOp4 xs b q s) :=
 a7w hq (by omega) (by omega) a5x (by omega) (by omega) (c3f h _ _ _ _ hb)
theorem d1c (h:xs.length=n)(hb:b≤n)(hq:q<m):a9f m n (kOp5 xs b q s):=by
 rw[kOp5]
 split
 ·exact a7w hq (by omega) (by omega) a5x (by omega) (by omega) hb
 ·exact a7w hq (by omega) (by omega) a5x (by omega) (by omega) (a1f _ h (a1f _ h hb))
theorem c3b (h:xs.length=n):∀(s:List Int) (a:Nat),a≤n→(a4i xs s a).2≤n
 | [],_,ha=>ha
 | _::s,_,ha=>c3b h s _ (a1f _ h (a1f _ h ha))
theorem d1d (h:xs.length=n)(hb:b≤n)(hq:q<m):a9f m n (kOp6 xs b q s) :=
 a7w hq (by omega) (by omega) a5x (by omega) (by omega) (c3b h _ _ hb)
theorem c3e (h:xs.length=n):∀(m a:Nat),a≤n→(a4o xs m a).2≤n
 | 0,_,ha=>ha
 | m+1,_,ha=>c3e h m _ (a1f _ h (a1f _ h ha))
theorem d1e (h:xs.length=n)(hb:b≤n)(hq:q<m):a9f m n (kOp7 xs b q s) :=
 a7w hq (by omega) (by omega) (a7r _ _) (by omega) (by omega) (b3q h (c3e h _ _ hb))
theorem d1f (h:xs.length=n)(hb:b≤n)(hq:q<L.length):a9f L.length n (kOp8 xs b q s L):=by
 rw[kOp8]
 split
 ·exact a7w hq (by omega) (by omega) a5x (by omega) (by omega) hb
 ·refine⟨?_,by simp[ndV];omega,a1m (by simp[ndV]) (by simp[ndV]),a5x,a5x,rfl,a1f _ h (a1f _ h (a1f _ h hb))⟩;intro k hk;have hk:=List.mem_of_mem_take hk;simp only[List.mem_cons,List.not_mem_nil,or_false] at hk;rcases hk with rfl|rfl|rfl
  ·omega
  ·exact b0c _ (by omega)
  ·omega
theorem b3o (h:xs.length=n):∀(m j a:Nat),a≤n→(a2j xs m j a).2≤n
 | 0,_,_,ha=>ha
 | m+1,j,a,ha=>by
  rw[a2j]
  split
  ·exact b3o h m _ _ (a1f _ h ha)
  ·exact b3o h m _ _ (a1f _ h ha)
theorem d1g (h:xs.length=n)(hb:b≤n)(hq:q<m):a9f m n (kOp9 xs b q s):=by
 have h1:=a0m xs (a2j xs s.length 0 b).2 4;have h2:=a3f xs (a2j xs s.length 0 b).2 (show(0:Int)<4 by omega);exact a7w hq (by omega) (by omega) a5x (by omega) (by omega) (a1f _ h (b3o h _ _ _ hb))
theorem c3i {L:List (List Int)}{s:List Int}(h:xs.length=n)(hq:q<L.length):∀(m k a:Nat),a≤n→a9f L.length n (kDot xs L s q m k a)
 | 0,k,a,ha=>a7w hq (by omega) (by omega) a5x (by omega) (by omega) ha
 | m+1,k,a,ha=>by
  have hin:∀ x∈[(q:Int),(((k+(tv xs a 3).toNat) % L.length:Nat):Int)],0≤x∧x<(L.length:Int):=by
   intro x hx;simp only[List.mem_cons,List.not_mem_nil,or_false] at hx;have:=Nat.mod_lt (k+(tv xs a 3).toNat) (show 0<L.length by omega);rcases hx with rfl|rfl <;> omega
  rw[kDot]
  split
  ·exact⟨hin,by simp[ndV],a1m (by simp[ndV]) (by simp[ndV]),a5x,a5x,rfl,a1f _ h ha⟩
  ·split
   ·exact⟨hin,by simp[ndV],a1m (by simp[ndV]) (by simp[ndV]),a5x,a5x,rfl,a1f _ h ha⟩
   ·exact c3i h hq m (k+1) _ (a1f _ h ha)
theorem c7p (h:xs.length=n)(hb:b≤n)(hq:q<m):a9f m n (b9d xs b q s):=by
 rw[b9d]
 split
 ·exact a7w hq (by omega) (by omega) a5x (by omega) (by omega) hb
 ·have h1:=a0m xs (ta xs (ta xs (ta xs b s.length) 3) 2) 4;have h2:=a3f xs (ta xs (ta xs (ta xs b s.length) 3) 2) (show(0:Int)<4 by omega);exact a7w hq (by omega) (by omega) a5x (by omega) (by omega) (a1f _ h (a1f _ h (a1f _ h (a1f _ h hb))))
theorem b9i (h:xs.length=n)(ha:a≤n):a9f L.length n (a5o xs a L):=by
 rw[a5o]
 split
 ·exact c3k h ha
 ·split
  ·exact c3k h (a1f _ h ha)
  ·have h0:0<L.length:=by omega
   have h1:=a0m xs (ta xs a 5) L.length;have h2:=a3f xs (ta xs a 5) (show(0:Int)<(L.length:Int) by omega);have hq:(tv xs (ta xs a 5) L.length).toNat<L.length:=by omega
   have hb:ta xs (ta xs (ta xs a 5) L.length) 12≤n:=a1f _ h (a1f _ h (a1f _ h ha));generalize (tv xs (ta xs a 5) L.length).toNat=q at *;generalize ta xs (ta xs (ta xs a 5) L.length) 12=b at *;generalize tv xs (ta xs (ta xs a 5) L.length) 12=K at *;generalize L.getD q []=s at *;unfold kOp;by_cases k0:K=0
   ·rw[iP k0];exact d0z h hb hq
   rw[iN k0];by_cases k1:K=1
   ·rw[iP k1];exact c3j h hb hq
   rw[iN k1];by_cases k2:K=2
   ·rw[iP k2];exact c3j h hb hq
   rw[iN k2];by_cases k3:K=3
   ·rw[iP k3];exact d1a h hb hq
   rw[iN k3];by_cases k4:K=4
   ·rw[iP k4];exact d1b h hb hq
   rw[iN k4];by_cases k5:K=5
   ·rw[iP k5];exact d1c h hb hq
   rw[iN k5];by_cases k6:K=6
   ·rw[iP k6];exact d1d h hb hq
   rw[iN k6];by_cases k7:K=7
   ·rw[iP k7];exact d1e h hb hq
   rw[iN k7];by_cases k8:K=8
   ·rw[iP k8];exact d1f h hb hq
   rw[iN k8];by_cases k9:K=9
   ·rw[iP k9];exact d1g h hb hq
   rw[iN k9];by_cases k10:K=10
   ·rw[iP k10];exact c3i h hq _ _ _ hb
   rw[iN k10];exact c7p h hb hq
end
def Fine (r:Int × List Int × List Int):Prop:=r.1=0→Sh.right r.2.1=true
theorem a1c {e:Int}(h:e≠0):Fine (refused e):=fun h'=>absurd h' h
theorem d0k (op:Int)(s d:List Int):Fine (oneR op s d):=by
 rw[oneR];split
 ·exact a1c (by decide)
 ·split
  ·rename_i h;exact fun _=>a2t h
  ·exact a1c (by decide)
theorem d0m (op:Int)(s d t k:List Int):Fine (twoR op s d t k):=by
 rw[twoR];split
 ·exact a1c (by decide)
 ·split
  ·rename_i h;rw[Bool.and_eq_true] at h;exact fun _=>a2t h.1
  ·exact a1c (by decide)
theorem c6v (cs cd s d t k:List Int):Fine (b1k cs cd s d t k):=by
 rw[b1k];split
 ·rename_i h;simp only[Bool.and_eq_true] at h;exact fun _=>a2t h.2.1.1
 ·exact a1c (by decide)
theorem c6w (s d a:List Int):Fine (b0u s d a):=by
 rw[b0u];split
 ·rename_i h;split
  ·rename_i g;exact fun _=>(c5s g (a2t h)).1
  ·exact a1c (by decide)
 ·exact a1c (by decide)
theorem d4c (s d o a:List Int):Fine (spR s d o a):=by
 rw[spR];split
 ·rename_i h;rw[Bool.and_eq_true] at h;split
  ·exact fun _=>h.2
  ·exact a1c (by decide)
 ·exact a1c (by decide)
theorem d0i (s d f z:List Int):Fine (cutR s d f z):=by
 rw[cutR];split
 ·rename_i h;split
  ·rename_i g;exact fun _=>(d0e (a2t h) g).1
  ·exact a1c (by decide)
 ·exact a1c (by decide)
theorem d0l (s d f z:List Int)(n:Int):Fine (padR s d f z n):=by
 rw[padR];split
 ·split
  ·split
   ·rename_i h;exact fun _=>h
   ·exact a1c (by decide)
  ·exact a1c (by decide)
 ·exact a1c (by decide)
theorem c6u (ax:Int)(l:TL):Fine (a7p ax l):=by
 rw[a7p];split
 ·split
  ·split
   ·rename_i h;exact fun _=>h.2
   ·exact a1c (by decide)
  ·exact a1c (by decide)
 ·exact a1c (by decide)
theorem c6t (how:Int)(s d a:List Int):Fine (a6y how s d a):=by
 rw[a6y];split
 ·split
  ·split
   ·split
    ·rename_i h;exact fun _=>h
    ·exact a1c (by decide)
   ·exact a1c (by decide)
  ·exact a1c (by decide)
 ·exact a1c (by decide)
theorem d0j (s d t k:List Int)(n:Int):Fine (dotR s d t k n):=by
 rw[dotR];split
 ·split
  ·rename_i h;obtain⟨m,rfl,hok,hds⟩:=b7f h;intro _
   show Sh.right (dsR s t m).2=true
   rw[hds];exact hok.rs
  ·rename_i h;exact a1c h
 ·exact a1c (by decide)
theorem d0o (how:Int)(s d:List Int)(ax wide apart:Int):Fine (winR how s d ax wide apart):=by
 rw[winR];split
 ·split
  ·rename_i h;split
   ·rename_i g;rw[a8f] at g;exact fun _=>b6u (a2t h) (by omega)
   ·exact a1c (by decide)
  ·exact a1c (by decide)
 ·exact a1c (by decide)
theorem c6x (nd:a0p)(L:TL):Fine (a0q nd L):=by
 unfold a0q;by_cases h:nd.op=2
 ·rw[iP h];by_cases g:Sh.right nd.shape=true
  ·rw[iP g];exact fun _=>g
  ·rw[iN g];exact a1c (by decide)
 rw[iN h];clear h;by_cases h:nd.op=3
 ·rw[iP h];by_cases g:Sh.right nd.shape=true
  ·rw[iP g];by_cases k:nd.a.length=1∧0≤nd.a.getD 0 0∧nd.a.getD 0 0<nd.shape.length
   ·rw[iP k];exact fun _=>g
   ·rw[iN k];exact a1c (by decide)
  ·rw[iN g];exact a1c (by decide)
 rw[iN h];clear h;by_cases h:nd.op=4∨nd.op=5
 ·rw[iP h];exact d0k _ _ _
 rw[iN h];clear h;by_cases h:nd.op=12
 ·rw[iP h];exact c6v _ _ _ _ _ _
 rw[iN h];clear h;by_cases h:nd.op=13
 ·rw[iP h];exact c6w _ _ _
 rw[iN h];clear h;by_cases h:nd.op=14
 ·rw[iP h];exact d4c _ _ _ _
 rw[iN h];clear h;by_cases h:nd.op=15
 ·rw[iP h];by_cases g:nd.a.length=2*(L.getD 0 ([],[])).1.length
  ·rw[iP g];exact d0i _ _ _ _
  ·rw[iN g];exact a1c (by decide)
 rw[iN h];clear h;by_cases h:nd.op=16
 ·rw[iP h];by_cases g:nd.a.length=2*(L.getD 0 ([],[])).1.length
  ·rw[iP g];exact d0l _ _ _ _ _
  ·rw[iN g];exact a1c (by decide)
 rw[iN h];clear h;by_cases h:nd.op=17
 ·rw[iP h];by_cases g:nd.a.length=1
  ·rw[iP g];exact c6u _ _
  ·rw[iN g];exact a1c (by decide)
 rw[iN h];clear h;by_cases h:nd.op=18
 ·rw[iP h];exact c6t _ _ _ _
 rw[iN h];clear h;by_cases h:nd.op=19
 ·rw[iP h];by_cases g:nd.a.length=1
  ·rw[iP g];exact d0j _ _ _ _ _
  ·rw[iN g];exact a1c (by decide)
 rw[iN h];clear h;by_cases h:nd.op=20
 ·rw[iP h];by_cases g:nd.a.length=3
  ·rw[iP g];exact d0o _ _ _ _ _ _
  ·rw[iN g];exact a1c (by decide)
 rw[iN h];clear h;exact d0m _ _ _ _ _
theorem a9q {nd:a0p}(h:(a1a nd L).1=0):Sh.right (a1a nd L).2=true:=by
 unfold a1a at h ⊢
 split
 ·rename_i h1;rw[iP h1] at h
  split
  ·rename_i h2;rw[iP h2] at h
   split
   ·rename_i h3;rw[iP h3] at h
    split
    ·rename_i h4;exact h4
    ·rename_i h4;rw[iN h4] at h;cases h
   ·rename_i h3;rw[iN h3] at h
    split
    ·rename_i h4;exact c6x _ _ h4
    ·rename_i h4;rw[iN h4] at h;exact absurd h h4
  ·rename_i h2;rw[iN h2] at h;cases h
 ·rename_i h1;rw[iN h1] at h;cases h
end Go.Proofs.YtajhdeddgdhccaaGreatDoor
