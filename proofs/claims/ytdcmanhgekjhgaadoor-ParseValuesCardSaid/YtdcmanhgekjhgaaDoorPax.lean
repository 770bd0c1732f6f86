import Derived.Test.YtdcmanhgekjhgaaDoorPau
set_option maxRecDepth 100000
set_option maxHeartbeats 12800000
namespace Go.Proofs.YtdcmanhgekjhgaaDoor
open Go.RowKit Go.Proofs.Tryd
variable {A:Option Addr} {a xs:List Int} {c n r:Nat} {w w':World}
def ownP (s:List Int):Int × List Int:=if Sh.right s=true then(0,s) else(13,[])
def a3h (s a:List Int):Int × List Int:=if Sh.right s=true then(if a.length=1∧0≤a.getD 0 0∧a.getD 0 0<s.length then(0,s) else(1,[])) else(13,[])
open Classical in
noncomputable def a1s (s a:List Int):Int × List Int:=if TuOk s a then(0,a7q s a) else(1,[])
open Classical in
noncomputable def a1l (s o a:List Int):Int × List Int:=if Sh.right o=true then(if SpOk s o a then(0,o) else(1,[])) else(13,[])
def a1r (s a:List Int):Int × List Int:=if a.length=2*s.length∧a5g s (a.take s.length) (a.drop s.length)=true then(0,a.drop s.length) else(1,[])
open Classical in
noncomputable def a1o (s a:List Int):Int × List Int:=if a.length=2*s.length∧b0y s (a.take s.length) (a.drop s.length) then ownP (padS s (a.take s.length) (a.drop s.length)) else(1,[])
def totL (ax:Nat) (L:List (List Int)):Int:=L.foldl (fun a s=>a+s.getD ax 0) 0
def a8w (ax:Nat) (L:List (List Int)):Prop:=∀ s∈L,b5h (L.getD 0 []) ax s
open Classical in
noncomputable def a0y (L:List (List Int)) (a:List Int):Int × List Int :=
 if a.length=1∧0≤a.getD 0 0∧a.getD 0 0<(L.getD 0 []).length then(if a8w (a.getD 0 0).toNat L then ownP ((L.getD 0 []).set (a.getD 0 0).toNat (totL (a.getD 0 0).toNat L)) else(13,[])) else(1,[])
open Classical in
noncomputable def a1p (how:Int) (s a:List Int):Int × List Int:=if a3w how=true∧a5r a s.length then ownP (rest a s) else(1,[])
def a8m (s t a:List Int):Int × List Int:=if a.length=1 then dsR s t (a.getD 0 0) else(1,[])
def a0t (how:Int) (s a:List Int):Int × List Int:=if a.length=3∧a3w how=true∧b0w s (a.getD 0 0)=true∧b0x (a.getD 1 0) (a.getD 2 0)=true then(0,winS s (a.getD 0 0).toNat (a.getD 1 0) (a.getD 2 0)) else(1,[])
open Classical in
noncomputable def a1i (L:List (List Int)):Int × List Int:=if ∀ s∈L,s=L.getD 0 [] then(0,L.getD 0 []) else(13,[])
def a1m (w:World) (r:Int × List Int) (e:Ending) (w' : World):Prop :=
 (∃ v m,e=.returned (.tuple #[v,.int .i64 r.1])∧OwnS w' w.heap.size 3 v m r.2)∧Below w.heap.size w w'
theorem a0b {r:Int × List Int}{e:Int}(h:r=(e,[]))(hb:Below w.heap.size w w'):a1m w r (.returned (.tuple #[.slice none 0 0,.int .i64 e])) w':=by
 subst h;exact⟨⟨_,0,rfl,OwnS.nil_ _ _ _⟩,hb⟩
theorem a1h {r:Int × List Int}{v:Value}{m:Nat}(h:r=(0,xs))(ho:OwnS w' w.heap.size 3 v m xs)(hb:Below w.heap.size w w'):a1m w r (.returned (.tuple #[v,.int .i64 0])) w':=by
 subst h;exact⟨⟨_,m,rfl,ho⟩,hb⟩
theorem a2c (h:Ints w A n xs)(hn:n≤17592186044000):
  Calls prog 83 #[.slice A n c] w fun e w'=>(∃ v,e=.returned v∧OwnS w' w.heap.size 3 v n xs)∧Below w.heap.size w w':=by
 have hmk:=a2m underlying31 Tryd.infoInt (n:=n) (by omega);have h1:=(Sep.nil w).noughts 3 n (by omega);have HI:=Hd h;have hnle:=h.le;clear h
 go_enter func83,ntmps83
 go_upto_region 2 with fail
 generalize hW:w.alloc (.cells (noughts n) 3)=W at *;have H:=Hd h1;have hO:=h1.own 0 rfl;have HO:=Hd hO;have HI2:=Hd (HI.below h1.base);clear h1 hmk hO hW
 go_wp2_with (with_reducible refine a8n rfl (.tmp 7) (.tmp 8) 31 31 rfl 3 underlying31 Tryd.sizeInt HO.out rfl rfl HI2.out ?_)
 intro w3 hO3 hg3;have H3:=Hd (H.change 0 (d:=.own 3 (.slice (some ⟨w.heap.size,0,none⟩) n n) n xs) rfl hg3 hO3 (fun k hk=>.inl hk));clear hO3 hg3;go_wp2;go_ret;exact⟨⟨_,rfl,H3.ownS 0 rfl⟩,H3.base⟩
def axF (x:Int) (n:Nat):Bool:=decide (0≤x)&&decide (x<n)
theorem a5a (x:Int)(w:World):
  Calls prog 84 #[.int .i64 x,.slice A n c] w fun e w'=>e=.returned (.bool (axF x n))∧w=w':=by
 by_cases h:0≤x
 ·have d:decide (0≤x)=true:=by simpa using h
  have HX:=Hd (show axF x n=decide (x<n) by rw[axF,d];rfl)
  go_enter func84,ntmps84
  go_wp2;go_ret;exact⟨a0i (by rw[HX.out]),rfl⟩
 ·have d:decide (0≤x)=false:=by simpa using h
  have HX:=Hd (show axF x n=false by rw[axF,d];rfl)
  go_enter func84,ntmps84
  go_wp2;go_ret;exact⟨a0i HX.symm,rfl⟩
theorem a5s {x:Int}:axF x n=true↔0≤x∧x<n:=by simp[axF]
open Classical in
noncomputable def c2f (a:List Int) (r:Nat):Bool:=decide (a5r a r)
theorem b0j (h:a5r a r):c2f a r=true:=by simpa [c2f] using h
theorem a8r (h:¬ a5r a r):c2f a r=false:=by simpa [c2f] using h
theorem a9e {S:Option Addr}{d:Nat}(h:Ints w A n a)(hr:r≤4):
  Calls prog 85 #[.slice A n c,.slice S r d] w fun e w'=>e=.returned (.bool (c2f a r))∧w=w':=by
 have hn:=h.len;have hle:=h.le;have H1:=Hd hn;clear hn
 go_enter func85,ntmps85
 go_wp2
 go_loop [5,10] (fun last i=>∃(k:Nat) (l:Int),k≤n∧i=.int .i64 k∧last=.int .i64 l ∧ -1≤l∧l≤4∧(∀ j,j<k→b9u a r j)∧(∀ z,0<k→a[k-1]?=some z→z=l)∧(k=0→l = -1)) (fun _ i=>n-(intOf i).toNat)
 case atStart=>exact⟨0,-1,Nat.zero_le _,rfl,rfl,by omega,by omega,fun j hj=>by omega,fun z hz=>by omega,fun _=>rfl⟩
 case round =>
  obtain⟨k,l,hk,rfl,rfl,hl1,hl2,hall,hlast,hz0⟩:=hrel;have HA:=Hd hall;clear hall;have HL:=Hd hlast;clear hlast;have HZ:=Hd hz0;clear hz0;by_cases hlt:k<n
  ·obtain⟨ad,x,rfl,hb,hx,hc,hf⟩:=h.at_ hlt;have HX:=Hd hx;clear hx
   have HLE:=Hd (show ¬ l<x→¬ a5r a r from fun hxl hR=>by
    have h1:=hR k x HX;by_cases hk0:k=0
    ·have:=HZ.out hk0;omega
    ·obtain⟨z,hz⟩:=a2d (l:=a) (k:=k-1) (by have:=H1.out;omega);have:=HL.out z (by omega) hz;have:=h1.2.2 z (by omega) hz
     omega)
   have HGE:=Hd (show ¬ x<r→¬ a5r a r from fun hxl hR=>hxl (hR k x HX).2.1);by_cases g1:x≤l
   ·have HN:=Hd (a8r (HLE (by omega)));clear HLE HGE;have d1:decide (x≤l)=true:=by simpa using g1
    go_wp2;go_ret;exact⟨a0i HN.symm,rfl⟩
   ·have d1:decide (x≤l)=false:=by simpa using g1
    by_cases g2:(r:Int)≤x
    ·have HN:=Hd (a8r (HGE (by omega)));clear HLE HGE;have d2:decide ((r:Int)≤x)=true:=by simpa using g2
     go_wp2;go_ret;exact⟨a0i HN.symm,rfl⟩
    ·clear HLE HGE;have d2:decide ((r:Int)≤x)=false:=by simpa using g2
     go_wp2;go_round
     case rel=>exact⟨k+1,x,by omega,by go_num,rfl,by omega,by omega,fun j hj=>by
      rcases Nat.lt_or_ge j k with h' | h'
      ·exact HA j h'
      ·obtain rfl:j=k:=by omega
       intro y hy;rw[HX.out] at hy;injection hy with hy;subst hy
       refine⟨?_,by omega,fun z hz1 hz2=>?_⟩
       ·omega
       ·have:=HL.out z hz1 hz2;omega,fun z _ hz=>by rw[Nat.add_sub_cancel,HX.out] at hz;injection hz with hz;exact hz.symm,fun e=>by omega⟩
     case measure=>simp[intOf];omega
  ·have HR:=Hd (b0j (show a5r a r from fun j x hx=>HA.out j (by have:=(lL hx);have:=H1.out;omega) x hx));go_wp2;go_ret;exact⟨a0i HR.symm,rfl⟩
theorem b8c (x:Int)(h:Ints w A n a):
  Calls prog 78 #[.slice A n c,.int .i64 x] w fun e w'=>(∃ k:Int,e=.returned (.int .i64 k)∧decide (0≤k)=decide (x∈a))∧w=w':=by
 have hn:=h.len;have hle:=h.le;have H1:=Hd hn;clear hn
 go_enter func78,ntmps78
 go_wp2
 go_loop [8] (fun i=>∃ k:Nat,k≤n∧i=.int .i64 k∧x∉a.take k) (fun i=>n-(intOf i).toNat)
 case atStart=>exact⟨0,Nat.zero_le _,rfl,by simp⟩
 case round =>
  obtain⟨k,hk,rfl,hall⟩:=hrel;have HA:=Hd hall;clear hall;by_cases hlt:k<n
  ·obtain⟨ad,y,rfl,hb,hy,hc,hf⟩:=h.at_ hlt;have HY:=Hd hy;clear hy;by_cases g1:x=y
   ·subst g1;have d1:(x==x)=true:=by simp
    have HM:=Hd (show x∈a from mG HY);go_wp2;go_ret;exact⟨⟨_,rfl,by simp[HM.out]⟩,rfl⟩
   ·have d1:(x==y)=false:=by simpa using g1
    have HNE:=Hd g1;clear g1;go_wp2;go_round
    case rel=>exact⟨k+1,by omega,by go_num,by rw[List.take_add_one,HY.out];simp[HA.out,HNE.out]⟩
    case measure=>simp[intOf];omega
  ·have HM:=Hd (show x∉a by have:=HA.out;rwa [List.take_of_length_le (by have:=H1.out;omega)] at this);go_wp2;go_ret;exact⟨⟨_,rfl,by simp[HM.out]⟩,rfl⟩
theorem a6g (x:Int)(h:Ints w A n a):
  Calls prog 60 #[.slice A n c,.int .i64 x] w fun e w'=>e=.returned (.bool (decide (x∈a)))∧w=w':=by
 have C1:=b8c (c:=c) x h
 go_enter func60,ntmps60
 go_wp2_with fail
 refine C1.mono ?_;rintro e1 w1 ⟨⟨k,rfl,hk⟩,rfl⟩;have HK:=Hd hk;clear hk C1;go_wp2;go_ret;exact⟨a0i HK,rfl⟩
theorem a8p {s:List Int}(h:Ints w A n s):
  Calls prog 67 #[.slice A n c] w (a1m w (ownP s)):=by
 have C1:=a3c (c:=c) h;have hl:=h.len;have HI:=Hd h;clear h
 cases hr:Sh.right s with
 | false =>
  rw[hr] at C1;have HX:=Hd (show ownP s=(13,[]) by rw[ownP,hr];rfl);clear hr
  go_enter func67,ntmps67
  go_wp2_with fail
  refine C1.mono ?_;rintro e1 w1 ⟨rfl,rfl⟩;clear C1;go_wp2;go_ret2
  exact a0b HX (Below.refl _ _)
 | true =>
  rw[hr] at C1;have hn4:=(Sh.right_iff.1 hr).1;have C2:=a2c (c:=c) HI (by omega);have HX:=Hd (show ownP s=(0,s) by rw[ownP,hr];rfl);clear hr
  go_enter func67,ntmps67
  go_wp2_with fail
  refine C1.mono ?_;rintro e1 w1 ⟨rfl,rfl⟩;clear C1
  go_wp2_with fail
  refine C2.mono ?_;rintro e2 w2 ⟨⟨v,rfl,hO⟩,hb⟩;have HO:=Hd hO;clear C2 hO;go_wp2;go_ret2;exact a1h HX HO hb
def Up:Int→Int→List Int→Prop
 | _,_,[]=>True
 | k,n,x::l=>k≤x∧x<n∧Up (x+1) n l
theorem Up.mem:∀ {l:List Int} {k n:Int},Up k n l→∀ x∈l,k≤x∧x<n
 | [],_,_,_,x,hx=>by cases hx
 | y::l,k,n,h,x,hx=>by
  obtain⟨h1,h2,h3⟩:=h;rcases List.mem_cons.1 hx with rfl|hx
  ·exact⟨h1,h2⟩
  ·have:=Up.mem h3 x hx;omega
theorem a9c (how:Int)(w:World):
  Calls prog 87 #[.int .i64 how] w fun e w'=>e=.returned (.bool (a3w how))∧w=w':=by
 by_cases h1:1≤how
 ·have d1:decide (1≤how)=true:=by simpa using h1
  go_enter func87,ntmps87
  go_wp2;go_ret;exact⟨a0i (by simp[a3w,h1]),rfl⟩
 ·have d1:decide (1≤how)=false:=by simpa using h1
  have HX:=Hd (show a3w how=false by simp only[a3w,d1,Bool.false_and])
  go_enter func87,ntmps87
  go_wp2;go_ret;exact⟨a0i HX.symm,rfl⟩
theorem b5g {B:Option Addr}{na ca nb cb:Nat}{b:List Int}(n:Int)(hA:Ints w A na a)(hB:Ints w B nb b)(ka:na≤ca)(kb:nb≤cb):
  Calls prog 88 #[.slice A na ca,.slice B nb cb,.int .i64 n] w fun e w'=>(∃ v m,e=.returned (.tuple #[v,.int .i64 (dsR a b n).1])∧OwnS w' w.heap.size 3 v m (dsR a b n).2)∧Below w.heap.size w w':=by
 have hla:=hA.len;have hlb:=hB.len;have hlea:=hA.le;have hleb:=hB.le;by_cases h0:n<0
 ·have d0:decide (n<0)=true:=by simpa using h0
  have HX:=Hd (b2e (a:=a) (b:=b) (n:=n) (by omega))
  go_enter func88,ntmps88
  go_wp2;go_ret2;rw[HX.out];exact⟨⟨_,0,rfl,OwnS.nil_ _ _ _⟩,Below.refl _ _⟩
 have d0:decide (n<0)=false:=by simpa using h0
 obtain⟨k,rfl⟩:=eZ (by omega:0≤n);clear h0;by_cases h1:na≤k
 ·have d1:decide (na≤k)=true:=by simpa using h1
  have HX:=Hd (b2e (a:=a) (b:=b) (n:=(k:Int)) (by omega));clear hla hlb
  go_enter func88,ntmps88
  go_wp2;go_ret2;rw[HX.out];exact⟨⟨_,0,rfl,OwnS.nil_ _ _ _⟩,Below.refl _ _⟩
 have d1:decide (na≤k)=false:=by simpa using h1
 by_cases h2:nb≤k
 ·have d2:decide (nb≤k)=true:=by simpa using h2
  have HX:=Hd (b2e (a:=a) (b:=b) (n:=(k:Int)) (by omega));clear hla hlb
  go_enter func88,ntmps88
  go_wp2;go_ret2;rw[HX.out];exact⟨⟨_,0,rfl,OwnS.nil_ _ _ _⟩,Below.refl _ _⟩
 have d2:decide (nb≤k)=false:=by simpa using h2
 have hka:k<na:=by omega
 have hkb:k<nb:=by omega
 clear h1 h2;have HAB:=Hd (show k<a.length∧k<b.length by omega);obtain⟨pa,x,hpA,_,hx,hcx,hfx⟩:=hA.at_ (k:=na-1) (by omega);obtain⟨pb,y,hpB,_,hy,hcy,hfy⟩:=hB.at_ (k:=k) hkb;subst hpA;subst hpB;have HX:=Hd (show a.getD (a.length-1) 0=x by rw[gD,hla,hx];rfl);have HY:=Hd (show b.getD k 0=y by rw[gD,hy];rfl);have HLA:=Hd hla;have HLB:=Hd hlb;have IA:=Hd (hA.take (k:=k) (by omega));have IB:=Hd (hB.take (k:=k) (by omega));have HA:=Hd hA;have HB:=Hd hB;clear hx hy hfx hfy hla hlb hA hB;have hwn:IntKind.i64.wrap ((na:Int)-1)=((na-1:Nat):Int):=by rw[show(na:Int)-1=((na-1:Nat):Int) by omega];exact IntWalk.i64_in _ ⟨by omega,by omega⟩
 have CA:=a3c (c:=ca) HA;have CB:=a3c (c:=cb) HB
 cases RA:Sh.right a with
 | false =>
  rw[RA] at CA;have HX:=Hd (a4q HAB (by rw[a4m,RA];rfl))
  go_enter func88,ntmps88
  go_wp2_with fail
  refine CA.mono ?_;rintro e1 w1 ⟨rfl,rfl⟩;clear CA;go_wp2;go_ret2;rw[HX.out]
  exact⟨⟨_,0,rfl,OwnS.nil_ _ _ _⟩,Below.refl _ _⟩
 | true =>
  rw[RA] at CA
  cases RB:Sh.right b with
  | false =>
   rw[RB] at CB;have HX:=Hd (a4q HAB (by rw[a4m,RA,RB];rfl))
   go_enter func88,ntmps88
   go_wp2_with fail
   refine CA.mono ?_;rintro e1 w1 ⟨rfl,rfl⟩;clear CA
   go_wp2_with fail
   refine CB.mono ?_;rintro e2 w2 ⟨rfl,rfl⟩;clear CB;go_wp2;go_ret2;rw[HX.out]
   exact⟨⟨_,0,rfl,OwnS.nil_ _ _ _⟩,Below.refl _ _⟩
  | true =>
   rw[RB] at CB
   cases RP:(a.take k==b.take k) with
   | false =>
    have C3:=fun q=>a6u (c:=ca) (d:=cb) (IA.drewN q) (IB.drewN q)
    simp only[RP] at C3;replace C3:=Hd C3;have HX:=Hd (a4q HAB (by rw[a4m,RA,RB,show decide (a.take k=b.take k)=false from decide_eq_false (by simpa using RP)];rfl))
    go_enter func88,ntmps88
    go_wp2_with fail
    refine CA.mono ?_;rintro e1 w1 ⟨rfl,rfl⟩;clear CA
    go_wp2_with fail
    refine CB.mono ?_;rintro e2 w2 ⟨rfl,rfl⟩;clear CB
    go_upto_region 6 with fail
    go_quiet (first|(go_at_call 86;with_reducible exact a5m (C3.out _)))
    go_wp2;go_ret2;rw[HX.out]
    exact⟨⟨_,0,rfl,OwnS.nil_ _ _ _⟩,(Sep.nil w).drewN _ |>.base⟩
   | true =>
    have C3:=fun q=>a6u (c:=ca) (d:=cb) (IA.drewN q) (IB.drewN q)
    simp only[RP] at C3;replace C3:=Hd C3;by_cases hxy:x=y
    ·subst hxy;have HFT:=Hd (show a4m a b k=true from a7f.2 ⟨RA,RB,by simpa using RP,HX.trans HY.symm⟩);have dxx:(x != x)=false:=by simp
     have hna4:na≤4:=by have:=(Sh.right_iff.1 RA).1;have:=HLA.out;omega
     have hnb4:nb≤4:=by have:=(Sh.right_iff.1 RB).1;have:=HLB.out;omega
     go_enter func88,ntmps88
     go_wp2_with fail
     refine CA.mono ?_;rintro e1 w1 ⟨rfl,rfl⟩;clear CA
     go_wp2_with fail
     refine CB.mono ?_;rintro e2 w2 ⟨rfl,rfl⟩;clear CB
     go_upto_region 6 with fail
     go_quiet (first|(go_at_call 86;with_reducible exact a5m (C3.out _)))
     go_upto_region 8 with fail
     have H:=Hd ((Sep.nil w).drewN nq);generalize w.drewN nq=w5 at *;clear C3 HY dxx hcx hcy;obtain⟨nz,hnz⟩:∃ nz:Nat,na-1+nb-k-1=nz:=⟨_,rfl⟩;have hs3:((na-1:Nat):Int)+(nb:Int)-(k:Int)-1=(nz:Int):=by omega
     have hnz6:nz≤8:=by omega
     have HNZ:=Hd hnz;clear hnz;have hm:=a4j underlying31 Tryd.infoInt (n:=nz) (by omega);have h1:=H.room 3 nz (by omega)
     go_upto_region 9 with fail
     generalize w5.alloc (.cells (noughts nz) 3)=w6 at *;replace H1:=Hd h1;clear h1 hm hs3 H;obtain⟨A2,hsl,hI2⟩:=b0m ((k:Int)+1) (k:=k+1) (by omega) HB (by omega) (by omega) kb;have HI2:=Hd hI2;clear hI2;have hwk:IntKind.i64.wrap ((k:Int)+1)=(k:Int)+1:=IntWalk.i64_in _ ⟨by omega,by omega⟩;have HI1:=Hd (HA.take (k:=na-1) (by omega));have hca1:na≤ca+1:=by omega
     go_wp2_with (at_builtin;refine a3p rfl (.tmp 62) (.tmp 65) 31 3 rfl underlying31 Tryd.infoInt H1.out 0 rfl rfl _ (na-1) ca _ rfl (H1.out.oldI HI1.out) ?c1 ?_)
     case c1=>omega
     intro v2 w2 h2;have H2:=Hd h2;clear h2
     go_wp2_with (at_builtin;refine a3p rfl (.tmp 67) (.tmp 71) 31 3 rfl underlying31 Tryd.infoInt H2.out 0 rfl rfl _ (nb-(k+1)) (cb-(k+1)) _ rfl (H2.out.oldI HI2.out) ?c1 ?_)
     case c1=>omega
     intro v3 w3 h3;have H3:=Hd h3;clear h3;have HL:=Hd (show a.take (na-1)++b.drop (k+1)=dotS a b k by rw[dotS,HLA.out]);have hS3:=H3.out;rw[HL.out] at hS3;obtain⟨nu,hnu⟩:∃ nu,na-1+(nb-(k+1))=nu:=⟨_,rfl⟩;rw[hnu] at hS3;obtain⟨Z,hZ⟩:∃ Z,dotS a b k=Z:=⟨_,rfl⟩;rw[hZ] at hS3;replace H3:=Hd hS3;clear hS3;obtain⟨A5,c5,hv,_,_,_⟩:=(H3.ownS 0 rfl).form;subst hv;have C5:=a3c (c:=c5) ((H3.ownInts 0 rfl).2.2);clear hsl H1 H2 hwk hnu
     cases ho:Sh.right Z with
     | false =>
      rw[ho] at C5
      go_wp2_with fail
      refine C5.mono ?_;rintro e5 w5 ⟨rfl,rfl⟩;have HX:=Hd (b1h HAB HFT (by rw[hZ];exact ho));clear C5 ho hZ;go_wp2;go_ret2;rw[HX.out]
      exact⟨⟨_,0,rfl,OwnS.nil_ _ _ _⟩,H3.base⟩
     | true =>
      rw[ho] at C5
      go_wp2_with fail
      refine C5.mono ?_;rintro e5 w5 ⟨rfl,rfl⟩;have HX:=Hd (c0g HAB HFT (by rw[hZ];exact ho));rw[hZ] at HX;clear C5 ho hZ;go_wp2;go_ret2;rw[HX.out];exact⟨⟨_,_,rfl,H3.ownS 0 rfl⟩,H3.base⟩
    ·have dxy:(x != y)=true:=by simpa using hxy
     have HNE:=Hd hxy;clear hxy;have HX:=Hd (a4q HAB (by rw[a4m,HX.out,HY.out,show decide (x=y)=false from decide_eq_false HNE.out];simp))
     go_enter func88,ntmps88
     go_wp2_with fail
     refine CA.mono ?_;rintro e1 w1 ⟨rfl,rfl⟩;clear CA
     go_wp2_with fail
     refine CB.mono ?_;rintro e2 w2 ⟨rfl,rfl⟩;clear CB
     go_upto_region 6 with fail
     go_quiet (first|(go_at_call 86;with_reducible exact a5m (C3.out _)))
     go_wp2;go_ret2;rw[HX.out];exact⟨⟨_,0,rfl,OwnS.nil_ _ _ _⟩,(Sep.nil w).drewN _ |>.base⟩
theorem c3j (n wide apart:Int)(hn:Fits n)(hw:Fits wide)(ha:Fits apart)(w:World):
  Calls prog 89 #[.int .i64 n,.int .i64 wide,.int .i64 apart] w fun e w'=>e=.returned (.int .i64 (winN n wide apart))∧w=w':=by
 obtain⟨n1,n2⟩:=hn;obtain⟨w1,w2⟩:=hw;obtain⟨a1,a2⟩:=ha;by_cases g0:wide<1
 ·have d0:decide (wide<1)=true:=by simpa using g0
  have HX:=Hd (b2w (n:=n) (wide:=wide) (apart:=apart) (by omega))
  go_enter func89,ntmps89
  go_wp2;go_ret;exact⟨by rw[HX.out];rfl,rfl⟩
 have d0:decide (wide<1)=false:=by simpa using g0
 by_cases g1:apart<1
 ·have d1:decide (apart<1)=true:=by simpa using g1
  have HX:=Hd (b2w (n:=n) (wide:=wide) (apart:=apart) (by omega))
  go_enter func89,ntmps89
  go_wp2;go_ret;exact⟨by rw[HX.out];rfl,rfl⟩
 have d1:decide (apart<1)=false:=by simpa using g1
 by_cases g2:n<wide
 ·have d2:decide (n<wide)=true:=by simpa using g2
  have HX:=Hd (b2w (n:=n) (wide:=wide) (apart:=apart) (by omega))
  go_enter func89,ntmps89
  go_wp2;go_ret;exact⟨by rw[HX.out];rfl,rfl⟩
 have d2:decide (n<wide)=false:=by simpa using g2
 have HX:=Hd (b7s (n:=n) (wide:=wide) (apart:=apart) (by omega));have hwA:IntKind.i64.wrap (n-wide)=n-wide:=IntWalk.i64_in _ ⟨by omega,by omega⟩;have hq0:=Int.ediv_nonneg (a:=n-wide) (b:=apart) (by omega) (by omega);have hq1:=Int.ediv_le_self (a:=n-wide) apart (by omega);have htd:(n-wide).tdiv apart=(n-wide) / apart:=Int.tdiv_eq_ediv_of_nonneg (by omega);obtain⟨q,hq⟩:∃ q,(n-wide) / apart=q:=⟨_,rfl⟩;rw[hq] at htd hq0 hq1 HX;have hwB:IntKind.i64.wrap q=q:=IntWalk.i64_in _ ⟨by omega,by omega⟩;have hwC:IntKind.i64.wrap (q+1)=q+1:=IntWalk.i64_in _ ⟨by omega,by omega⟩;have hne:¬ apart=0:=by omega
 clear hq
 go_enter func89,ntmps89
 go_wp2;go_ret;exact⟨by rw[HX.out];rfl,rfl⟩
end Go.Proofs.YtdcmanhgekjhgaaDoor
