import Derived.Test.YtdcmanhgekjhgaaGreatDoorPbc
set_option maxRecDepth 100000
set_option maxHeartbeats 12800000
namespace Go.Proofs.YtdcmanhgekjhgaaGreatDoor
open Go.RowKit Go.Proofs.Tryz
variable {A:Option Addr} {a s xs:List Int} {c n r:Nat} {w w':World}
def ownP (s:List Int):Int × List Int:=if Sh.right s=true then(0,s) else(13,[])
def a7o (s a:List Int):Int × List Int:=if Sh.right s=true then(if a.length=1∧0≤a.getD 0 0∧a.getD 0 0<s.length then(0,s) else(1,[])) else(13,[])
open Classical in
noncomputable def a5b (s a:List Int):Int × List Int:=if TuOk s a then(0,a3u s a) else(1,[])
open Classical in
noncomputable def a3t (s o a:List Int):Int × List Int:=if Sh.right o=true then(if SpOk s o a then(0,o) else(1,[])) else(13,[])
def a5a (s a:List Int):Int × List Int:=if a.length=2*s.length∧a4m s (a.take s.length) (a.drop s.length)=true then(0,a.drop s.length) else(1,[])
open Classical in
noncomputable def a4p (s a:List Int):Int × List Int:=if a.length=2*s.length∧b6c s (a.take s.length) (a.drop s.length) then ownP (padS s (a.take s.length) (a.drop s.length)) else(1,[])
def totL (ax:Nat) (L:List (List Int)):Int:=L.foldl (fun a s=>a+s.getD ax 0) 0
def b6s (ax:Nat) (L:List (List Int)):Prop:=∀ s∈L,c0c (L.getD 0 []) ax s
open Classical in
noncomputable def a2p (L:List (List Int)) (a:List Int):Int × List Int :=
 if a.length=1∧0≤a.getD 0 0∧a.getD 0 0<(L.getD 0 []).length then(if b6s (a.getD 0 0).toNat L then ownP ((L.getD 0 []).set (a.getD 0 0).toNat (totL (a.getD 0 0).toNat L)) else(13,[])) else(1,[])
open Classical in
noncomputable def a4x (how:Int) (s a:List Int):Int × List Int:=if a5g how=true∧a8v a s.length then ownP (rest a s) else(1,[])
def b6e (s t a:List Int):Int × List Int:=if a.length=1 then dsR s t (a.getD 0 0) else(1,[])
def a1r (how:Int) (s a:List Int):Int × List Int:=if a.length=3∧a5g how=true∧b5e s (a.getD 0 0)=true∧b4a (a.getD 1 0) (a.getD 2 0)=true then(0,winS s (a.getD 0 0).toNat (a.getD 1 0) (a.getD 2 0)) else(1,[])
open Classical in
noncomputable def a3m (L:List (List Int)):Int × List Int:=if ∀ s∈L,s=L.getD 0 [] then(0,L.getD 0 []) else(13,[])
def a3v (w:World) (r:Int × List Int) (e:Ending) (w' : World):Prop :=
 (∃ v m,e=.returned (.tuple #[v,.int .i64 r.1])∧OwnS w' w.heap.size 3 v m r.2)∧Below w.heap.size w w'
theorem a0i {r:Int × List Int}{e:Int}(h:r=(e,[]))(hb:Below w.heap.size w w'):a3v w r (.returned (.tuple #[.slice none 0 0,.int .i64 e])) w':=by
 subst h;exact⟨⟨_,0,rfl,OwnS.nil_ _ _ _⟩,hb⟩
theorem a3k {r:Int × List Int}{v:Value}{m:Nat}(h:r=(0,xs))(ho:OwnS w' w.heap.size 3 v m xs)(hb:Below w.heap.size w w'):a3v w r (.returned (.tuple #[v,.int .i64 0])) w':=by
 subst h;exact⟨⟨_,m,rfl,ho⟩,hb⟩
theorem a5t (h:Ints w A n xs)(hn:n≤17592186044000):
  Calls prog 161 #[.slice A n c] w fun e w'=>(∃ v,e=.returned v∧OwnS w' w.heap.size 3 v n xs)∧Below w.heap.size w w':=by
 have hmk:=a2z underlying25 Tryz.infoInt (n:=n) (by omega);have h1:=(Sep.nil w).noughts 3 n (by omega);have HI:=Hd h;have hnle:=h.le;clear h
 go_enter func161,ntmps161
 go_upto_region 2 with fail
 generalize hW:w.alloc (.cells (noughts n) 3)=W at *;have H:=Hd h1;have hO:=h1.own 0 rfl;have HO:=Hd hO;have HI2:=Hd (HI.below h1.base);clear h1 hmk hO hW
 go_wp2_with (with_reducible refine b6f rfl (.tmp 7) (.tmp 8) 25 25 rfl 3 underlying25 Tryz.sizeInt HO.out rfl rfl HI2.out ?_)
 intro w3 hO3 hg3;have H3:=Hd (H.change 0 (d:=.own 3 (.slice (some ⟨w.heap.size,0,none⟩) n n) n xs) rfl hg3 hO3 (fun k hk=>.inl hk));clear hO3 hg3;go_wp2;go_ret;exact⟨⟨_,rfl,H3.ownS 0 rfl⟩,H3.base⟩
def axF (x:Int) (n:Nat):Bool:=decide (0≤x)&&decide (x<n)
theorem b1c (x:Int)(w:World):
  Calls prog 162 #[.int .i64 x,.slice A n c] w fun e w'=>e=.returned (.bool (axF x n))∧w=w':=by
 by_cases h:0≤x
 ·have d:decide (0≤x)=true:=by simpa using h
  have HX:=Hd (show axF x n=decide (x<n) by rw[axF,d];rfl)
  go_enter func162,ntmps162
  go_wp2;go_ret;exact⟨a0c (by rw[HX.out]),rfl⟩
 ·have d:decide (0≤x)=false:=by simpa using h
  have HX:=Hd (show axF x n=false by rw[axF,d];rfl)
  go_enter func162,ntmps162
  go_wp2;go_ret;exact⟨a0c HX.symm,rfl⟩
theorem b2f {x:Int}:axF x n=true↔0≤x∧x<n:=by simp[axF]
open Classical in
noncomputable def d8d (a:List Int) (r:Nat):Bool:=decide (a8v a r)
theorem b9f (h:a8v a r):d8d a r=true:=by simpa [d8d] using h
theorem b6n (h:¬ a8v a r):d8d a r=false:=by simpa [d8d] using h
theorem b7j {S:Option Addr}{d:Nat}(h:Ints w A n a)(hr:r≤4):
  Calls prog 163 #[.slice A n c,.slice S r d] w fun e w'=>e=.returned (.bool (d8d a r))∧w=w':=by
 have hn:=h.len;have hle:=h.le;have H1:=Hd hn;clear hn
 go_enter func163,ntmps163
 go_wp2
 go_loop [5,10] (fun last i=>∃(k:Nat) (l:Int),k≤n∧i=.int .i64 k∧last=.int .i64 l ∧ -1≤l∧l≤4∧(∀ j,j<k→c2j a r j)∧(∀ z,0<k→a[k-1]?=some z→z=l)∧(k=0→l = -1)) (fun _ i=>n-(intOf i).toNat)
 case atStart=>exact⟨0,-1,Nat.zero_le _,rfl,rfl,by omega,by omega,fun j hj=>by omega,fun z hz=>by omega,fun _=>rfl⟩
 case round =>
  obtain⟨k,l,hk,rfl,rfl,hl1,hl2,hall,hlast,hz0⟩:=hrel;have HA:=Hd hall;clear hall;have HL:=Hd hlast;clear hlast;have HZ:=Hd hz0;clear hz0;by_cases hlt:k<n
  ·obtain⟨ad,x,rfl,hb,hx,hc,hf⟩:=h.at_ hlt;have HX:=Hd hx;clear hx
   have HLE:=Hd (show ¬ l<x→¬ a8v a r from fun hxl hR=>by
    have h1:=hR k x HX;by_cases hk0:k=0
    ·have:=HZ.out hk0;omega
    ·obtain⟨z,hz⟩:=a0h (l:=a) (k:=k-1) (by have:=H1.out;omega);have:=HL.out z (by omega) hz;have:=h1.2.2 z (by omega) hz
     omega)
   have HGE:=Hd (show ¬ x<r→¬ a8v a r from fun hxl hR=>hxl (hR k x HX).2.1);by_cases g1:x≤l
   ·have HN:=Hd (b6n (HLE (by omega)));clear HLE HGE;have d1:decide (x≤l)=true:=by simpa using g1
    go_wp2;go_ret;exact⟨a0c HN.symm,rfl⟩
   ·have d1:decide (x≤l)=false:=by simpa using g1
    by_cases g2:(r:Int)≤x
    ·have HN:=Hd (b6n (HGE (by omega)));clear HLE HGE;have d2:decide ((r:Int)≤x)=true:=by simpa using g2
     go_wp2;go_ret;exact⟨a0c HN.symm,rfl⟩
    ·clear HLE HGE;have d2:decide ((r:Int)≤x)=false:=by simpa using g2
     go_wp2;go_round
     case rel=>exact⟨k+1,x,by omega,by go_num,rfl,by omega,by omega,fun j hj=>by
      rcases Nat.lt_or_ge j k with h' | h'
      ·exact HA j h'
      ·obtain rfl:j=k:=by omega
       intro y hy;rw[HX.out] at hy;injection hy with hy;subst hy
       refine⟨?_,by omega,fun z hz1 hz2=>?_⟩
       ·omega
       ·have:=HL.out z hz1 hz2;omega,fun z _ hz=>by rw[Nat.add_sub_cancel,HX.out] at hz;injection hz with hz;exact hz.symm,fun e=>by omega⟩
     case measure=>simp[intOf];omega
  ·have HR:=Hd (b9f (show a8v a r from fun j x hx=>HA.out j (by have:=(lL hx);have:=H1.out;omega) x hx));go_wp2;go_ret;exact⟨a0c HR.symm,rfl⟩
theorem d2n (x:Int)(h:Ints w A n a):
  Calls prog 151 #[.slice A n c,.int .i64 x] w fun e w'=>(∃ k:Int,e=.returned (.int .i64 k)∧decide (0≤k)=decide (x∈a))∧w=w':=by
 have hn:=h.len;have hle:=h.le;have H1:=Hd hn;clear hn
 go_enter func151,ntmps151
 go_wp2
 go_loop [8] (fun i=>∃ k:Nat,k≤n∧i=.int .i64 k∧x∉a.take k) (fun i=>n-(intOf i).toNat)
 case atStart=>exact⟨0,Nat.zero_le _,rfl,by simp⟩
 case round =>
  obtain⟨k,hk,rfl,hall⟩:=hrel;have HA:=Hd hall;clear hall;by_cases hlt:k<n
  ·obtain⟨ad,y,rfl,hb,hy,hc,hf⟩:=h.at_ hlt;have HY:=Hd hy;clear hy;by_cases g1:x=y
   ·subst g1;have d1:(x==x)=true:=by simp
    have HM:=Hd (show x∈a from mG HY);go_wp2;go_ret;exact⟨⟨_,rfl,by simp[HM.out]⟩,rfl⟩
   ·have d1:(x==y)=false:=by simpa using g1
    have HNE:=Hd g1;clear g1;go_wp2;go_round
    case rel=>exact⟨k+1,by omega,by go_num,by rw[List.take_add_one,HY.out];simp[HA.out,HNE.out]⟩
    case measure=>simp[intOf];omega
  ·have HM:=Hd (show x∉a by have:=HA.out;rwa [List.take_of_length_le (by have:=H1.out;omega)] at this);go_wp2;go_ret;exact⟨⟨_,rfl,by simp[HM.out]⟩,rfl⟩
theorem b2z (x:Int)(h:Ints w A n a):
  Calls prog 130 #[.slice A n c,.int .i64 x] w fun e w'=>e=.returned (.bool (decide (x∈a)))∧w=w':=by
 have C1:=d2n (c:=c) x h
 go_enter func130,ntmps130
 go_wp2_with fail
 refine C1.mono ?_;rintro e1 w1 ⟨⟨k,rfl,hk⟩,rfl⟩;have HK:=Hd hk;clear hk C1;go_wp2;go_ret;exact⟨a0c HK,rfl⟩
theorem b6i (h:Ints w A n s):
  Calls prog 140 #[.slice A n c] w (a3v w (ownP s)):=by
 have C1:=a7h (c:=c) h;have hl:=h.len;have HI:=Hd h;clear h
 cases hr:Sh.right s with
 | false =>
  rw[hr] at C1;have HX:=Hd (show ownP s=(13,[]) by rw[ownP,hr];rfl);clear hr
  go_enter func140,ntmps140
  go_wp2_with fail
  refine C1.mono ?_;rintro e1 w1 ⟨rfl,rfl⟩;clear C1;go_wp2;go_ret2
  exact a0i HX (Below.refl _ _)
 | true =>
  rw[hr] at C1;have hn4:=(Sh.right_iff.1 hr).1;have C2:=a5t (c:=c) HI (by omega);have HX:=Hd (show ownP s=(0,s) by rw[ownP,hr];rfl);clear hr
  go_enter func140,ntmps140
  go_wp2_with fail
  refine C1.mono ?_;rintro e1 w1 ⟨rfl,rfl⟩;clear C1
  go_wp2_with fail
  refine C2.mono ?_;rintro e2 w2 ⟨⟨v,rfl,hO⟩,hb⟩;have HO:=Hd hO;clear C2 hO;go_wp2;go_ret2;exact a3k HX HO hb
def wo:Nat→List Int→List Int→List Int × List Int
 | _,[],ax=>([],ax)
 | k,x::l,ax=>if ax[0]?=some (k:Int) then wo (k+1) l (ax.drop 1) else(x::(wo (k+1) l ax).1,(wo (k+1) l ax).2)
def WoAt (l a:List Int) (j:Nat) (acc ax:List Int):Prop:=wo 0 l a=(acc++(wo j (l.drop j) ax).1,(wo j (l.drop j) ax).2)
theorem WoAt.start (l a:List Int):WoAt l a 0 [] a:=by simp[WoAt]
def Up:Int→Int→List Int→Prop
 | _,_,[]=>True
 | k,n,x::l=>k≤x∧x<n∧Up (x+1) n l
theorem Up.mem:∀ {l:List Int} {k n:Int},Up k n l→∀ x∈l,k≤x∧x<n
 | [],_,_,_,x,hx=>by cases hx
 | y::l,k,n,h,x,hx=>by
  obtain⟨h1,h2,h3⟩:=h;rcases List.mem_cons.1 hx with rfl|hx
  ·exact⟨h1,h2⟩
  ·have:=Up.mem h3 x hx;omega
theorem b7e (how:Int)(w:World):
  Calls prog 165 #[.int .i64 how] w fun e w'=>e=.returned (.bool (a5g how))∧w=w':=by
 by_cases h1:1≤how
 ·have d1:decide (1≤how)=true:=by simpa using h1
  go_enter func165,ntmps165
  go_wp2;go_ret;exact⟨a0c (by simp[a5g,h1]),rfl⟩
 ·have d1:decide (1≤how)=false:=by simpa using h1
  have HX:=Hd (show a5g how=false by simp only[a5g,d1,Bool.false_and])
  go_enter func165,ntmps165
  go_wp2;go_ret;exact⟨a0c HX.symm,rfl⟩
theorem c8d {B:Option Addr}{na ca nb cb:Nat}{b:List Int}(n:Int)(hA:Ints w A na a)(hB:Ints w B nb b)(ka:na≤ca)(kb:nb≤cb):
  Calls prog 166 #[.slice A na ca,.slice B nb cb,.int .i64 n] w fun e w'=>(∃ v m,e=.returned (.tuple #[v,.int .i64 (dsR a b n).1])∧OwnS w' w.heap.size 3 v m (dsR a b n).2)∧Below w.heap.size w w':=by
 have hla:=hA.len;have hlb:=hB.len;have hlea:=hA.le;have hleb:=hB.le;by_cases h0:n<0
 ·have d0:decide (n<0)=true:=by simpa using h0
  have HX:=Hd (b2g (a:=a) (b:=b) (n:=n) (by omega))
  go_enter func166,ntmps166
  go_wp2;go_ret2;rw[HX.out];exact⟨⟨_,0,rfl,OwnS.nil_ _ _ _⟩,Below.refl _ _⟩
 have d0:decide (n<0)=false:=by simpa using h0
 obtain⟨k,rfl⟩:=eZ (by omega:0≤n);clear h0;by_cases h1:na≤k
 ·have d1:decide (na≤k)=true:=by simpa using h1
  have HX:=Hd (b2g (a:=a) (b:=b) (n:=(k:Int)) (by omega));clear hla hlb
  go_enter func166,ntmps166
  go_wp2;go_ret2;rw[HX.out];exact⟨⟨_,0,rfl,OwnS.nil_ _ _ _⟩,Below.refl _ _⟩
 have d1:decide (na≤k)=false:=by simpa using h1
 by_cases h2:nb≤k
 ·have d2:decide (nb≤k)=true:=by simpa using h2
  have HX:=Hd (b2g (a:=a) (b:=b) (n:=(k:Int)) (by omega));clear hla hlb
  go_enter func166,ntmps166
  go_wp2;go_ret2;rw[HX.out];exact⟨⟨_,0,rfl,OwnS.nil_ _ _ _⟩,Below.refl _ _⟩
 have d2:decide (nb≤k)=false:=by simpa using h2
 have hka:k<na:=by omega
 have hkb:k<nb:=by omega
 clear h1 h2;have HAB:=Hd (show k<a.length∧k<b.length by omega);obtain⟨pa,x,hpA,_,hx,hcx,hfx⟩:=hA.at_ (k:=na-1) (by omega);obtain⟨pb,y,hpB,_,hy,hcy,hfy⟩:=hB.at_ (k:=k) hkb;subst hpA;subst hpB;have HX:=Hd (show a.getD (a.length-1) 0=x by rw[gD,hla,hx];rfl);have HY:=Hd (show b.getD k 0=y by rw[gD,hy];rfl);have HLA:=Hd hla;have HLB:=Hd hlb;have IA:=Hd (hA.take (k:=k) (by omega));have IB:=Hd (hB.take (k:=k) (by omega));have HA:=Hd hA;have HB:=Hd hB;clear hx hy hfx hfy hla hlb hA hB;have hwn:IntKind.i64.wrap ((na:Int)-1)=((na-1:Nat):Int):=by rw[show(na:Int)-1=((na-1:Nat):Int) by omega];exact IntWalk.i64_in _ ⟨by omega,by omega⟩
 have CA:=a7h (c:=ca) HA;have CB:=a7h (c:=cb) HB
 cases RA:Sh.right a with
 | false =>
  rw[RA] at CA;have HX:=Hd (a5j HAB (by rw[a6d,RA];rfl))
  go_enter func166,ntmps166
  go_wp2_with fail
  refine CA.mono ?_;rintro e1 w1 ⟨rfl,rfl⟩;clear CA;go_wp2;go_ret2;rw[HX.out]
  exact⟨⟨_,0,rfl,OwnS.nil_ _ _ _⟩,Below.refl _ _⟩
 | true =>
  rw[RA] at CA
  cases RB:Sh.right b with
  | false =>
   rw[RB] at CB;have HX:=Hd (a5j HAB (by rw[a6d,RA,RB];rfl))
   go_enter func166,ntmps166
   go_wp2_with fail
   refine CA.mono ?_;rintro e1 w1 ⟨rfl,rfl⟩;clear CA
   go_wp2_with fail
   refine CB.mono ?_;rintro e2 w2 ⟨rfl,rfl⟩;clear CB;go_wp2;go_ret2;rw[HX.out]
   exact⟨⟨_,0,rfl,OwnS.nil_ _ _ _⟩,Below.refl _ _⟩
  | true =>
   rw[RB] at CB
   cases RP:(a.take k==b.take k) with
   | false =>
    have C3:=fun q=>b3v (c:=ca) (d:=cb) (IA.drewN q) (IB.drewN q)
    simp only[RP] at C3;replace C3:=Hd C3;have HX:=Hd (a5j HAB (by rw[a6d,RA,RB,show decide (a.take k=b.take k)=false from decide_eq_false (by simpa using RP)];rfl))
    go_enter func166,ntmps166
    go_wp2_with fail
    refine CA.mono ?_;rintro e1 w1 ⟨rfl,rfl⟩;clear CA
    go_wp2_with fail
    refine CB.mono ?_;rintro e2 w2 ⟨rfl,rfl⟩;clear CB
    go_upto_region 6 with fail
    go_quiet (first|(go_at_call 164;with_reducible exact a3p (C3.out _)))
    go_wp2;go_ret2;rw[HX.out]
    exact⟨⟨_,0,rfl,OwnS.nil_ _ _ _⟩,(Sep.nil w).drewN _ |>.base⟩
   | true =>
    have C3:=fun q=>b3v (c:=ca) (d:=cb) (IA.drewN q) (IB.drewN q)
    simp only[RP] at C3;replace C3:=Hd C3;by_cases hxy:x=y
    ·subst hxy;have HFT:=Hd (show a6d a b k=true from b0z.2 ⟨RA,RB,by simpa using RP,HX.trans HY.symm⟩);have dxx:(x != x)=false:=by simp
     have hna4:na≤4:=by have:=(Sh.right_iff.1 RA).1;have:=HLA.out;omega
     have hnb4:nb≤4:=by have:=(Sh.right_iff.1 RB).1;have:=HLB.out;omega
     go_enter func166,ntmps166
     go_wp2_with fail
     refine CA.mono ?_;rintro e1 w1 ⟨rfl,rfl⟩;clear CA
     go_wp2_with fail
     refine CB.mono ?_;rintro e2 w2 ⟨rfl,rfl⟩;clear CB
     go_upto_region 6 with fail
     go_quiet (first|(go_at_call 164;with_reducible exact a3p (C3.out _)))
     go_upto_region 8 with fail
     have H:=Hd ((Sep.nil w).drewN nq);generalize w.drewN nq=w5 at *;clear C3 HY dxx hcx hcy;obtain⟨nz,hnz⟩:∃ nz:Nat,na-1+nb-k-1=nz:=⟨_,rfl⟩;have hs3:((na-1:Nat):Int)+(nb:Int)-(k:Int)-1=(nz:Int):=by omega
     have hnz6:nz≤8:=by omega
     have HNZ:=Hd hnz;clear hnz;have hm:=a9g underlying25 Tryz.infoInt (n:=nz) (by omega);have h1:=H.room 3 nz (by omega)
     go_upto_region 9 with fail
     generalize w5.alloc (.cells (noughts nz) 3)=w6 at *;replace H1:=Hd h1;clear h1 hm hs3 H;obtain⟨A2,hsl,hI2⟩:=b3r ((k:Int)+1) (k:=k+1) (by omega) HB (by omega) (by omega) kb;have HI2:=Hd hI2;clear hI2;have hwk:IntKind.i64.wrap ((k:Int)+1)=(k:Int)+1:=IntWalk.i64_in _ ⟨by omega,by omega⟩;have HI1:=Hd (HA.take (k:=na-1) (by omega));have hca1:na≤ca+1:=by omega
     go_wp2_with (at_builtin;refine a0g rfl (.tmp 62) (.tmp 65) 25 3 rfl underlying25 Tryz.infoInt H1.out 0 rfl rfl _ (na-1) ca _ rfl (H1.out.oldI HI1.out) ?c1 ?_)
     case c1=>omega
     intro v2 w2 h2;have H2:=Hd h2;clear h2
     go_wp2_with (at_builtin;refine a0g rfl (.tmp 67) (.tmp 71) 25 3 rfl underlying25 Tryz.infoInt H2.out 0 rfl rfl _ (nb-(k+1)) (cb-(k+1)) _ rfl (H2.out.oldI HI2.out) ?c1 ?_)
     case c1=>omega
     intro v3 w3 h3;have H3:=Hd h3;clear h3;have HL:=Hd (show a.take (na-1)++b.drop (k+1)=dotS a b k by rw[dotS,HLA.out]);have hS3:=H3.out;rw[HL.out] at hS3;obtain⟨nu,hnu⟩:∃ nu,na-1+(nb-(k+1))=nu:=⟨_,rfl⟩;rw[hnu] at hS3;obtain⟨Z,hZ⟩:∃ Z,dotS a b k=Z:=⟨_,rfl⟩;rw[hZ] at hS3;replace H3:=Hd hS3;clear hS3;obtain⟨A5,c5,hv,_,_,_⟩:=(H3.ownS 0 rfl).form;subst hv;have C5:=a7h (c:=c5) ((H3.ownInts 0 rfl).2.2);clear hsl H1 H2 hwk hnu
     cases ho:Sh.right Z with
     | false =>
      rw[ho] at C5
      go_wp2_with fail
      refine C5.mono ?_;rintro e5 w5 ⟨rfl,rfl⟩;have HX:=Hd (b4g HAB HFT (by rw[hZ];exact ho));clear C5 ho hZ;go_wp2;go_ret2;rw[HX.out]
      exact⟨⟨_,0,rfl,OwnS.nil_ _ _ _⟩,H3.base⟩
     | true =>
      rw[ho] at C5
      go_wp2_with fail
      refine C5.mono ?_;rintro e5 w5 ⟨rfl,rfl⟩;have HX:=Hd (d0o HAB HFT (by rw[hZ];exact ho));rw[hZ] at HX;clear C5 ho hZ;go_wp2;go_ret2;rw[HX.out];exact⟨⟨_,_,rfl,H3.ownS 0 rfl⟩,H3.base⟩
    ·have dxy:(x != y)=true:=by simpa using hxy
     have HNE:=Hd hxy;clear hxy;have HX:=Hd (a5j HAB (by rw[a6d,HX.out,HY.out,show decide (x=y)=false from decide_eq_false HNE.out];simp))
     go_enter func166,ntmps166
     go_wp2_with fail
     refine CA.mono ?_;rintro e1 w1 ⟨rfl,rfl⟩;clear CA
     go_wp2_with fail
     refine CB.mono ?_;rintro e2 w2 ⟨rfl,rfl⟩;clear CB
     go_upto_region 6 with fail
     go_quiet (first|(go_at_call 164;with_reducible exact a3p (C3.out _)))
     go_wp2;go_ret2;rw[HX.out];exact⟨⟨_,0,rfl,OwnS.nil_ _ _ _⟩,(Sep.nil w).drewN _ |>.base⟩
namespace Sh
end Sh
def Near (f:List Int):Prop:=∀ x∈f,0≤x∧x≤32
theorem b7a:∀ {s f z:List Int},a4m s f z=true→(∀ x∈s,0≤x∧x≤32)→0≤Sh.pd z∧Sh.pd z≤Sh.pd s∧(∀ x∈z,0≤x∧x≤32)∧(∀ x∈f,0≤x∧x≤32)
 | [],[],[],_,_=>by simp[Sh.pd]
 | n::s,x::f,y::z,h,hd=>by
  simp only[a4m,Bool.and_eq_true,decide_eq_true_eq] at h;obtain⟨h1,h2,h3,h4⟩:=b7a h.2 fun x hx=>hd x (by simp[hx])
  have hn:=hd n (by simp);refine⟨?_,?_,?_,?_⟩
  ·rw[Sh.pd];exact Int.mul_nonneg (by omega) h1
  ·rw[Sh.pd,Sh.pd];exact Int.mul_le_mul (by omega) h2 h1 (by omega)
  ·intro u hu;rcases List.mem_cons.1 hu with rfl|hu
   ·omega
   ·exact h3 u hu
  ·intro u hu;rcases List.mem_cons.1 hu with rfl|hu
   ·omega
   ·exact h4 u hu
 | [],_::_,_,h,_=>by simp[a4m] at h
 | [],[],_::_,h,_=>by simp[a4m] at h
 | _::_,[],_,h,_=>by simp[a4m] at h
 | _::_,_::_,[],h,_=>by simp[a4m] at h
theorem e0a {f z:List Int}(hr:Sh.right s=true)(h:a4m s f z=true):Sh.right z=true∧Near f:=by
 have hs:=Sh.right_iff.1 hr;obtain⟨h1,h2,h3,h4⟩:=b7a h hs.2.1;refine⟨Sh.right_iff.2 ⟨by rw[(b2x h).2];exact hs.1,h3,?_⟩,h4⟩;have:=hs.2.2;rw[Sh.pr_pd] at this ⊢;omega
end Go.Proofs.YtdcmanhgekjhgaaGreatDoor
namespace Go.Proofs.YtdcmanhgekjhgaaGreatDoor
open Go.RowKit Go.Proofs.Tryz
variable {A B:Option Addr} {L:List (List Int)} {a o s:List Int} {c d m n:Nat} {w:World} {y:Int}
theorem d9q (n wide apart:Int)(hn:Fits n)(hw:Fits wide)(ha:Fits apart)(w:World):
  Calls prog 167 #[.int .i64 n,.int .i64 wide,.int .i64 apart] w fun e w'=>e=.returned (.int .i64 (winN n wide apart))∧w=w':=by
 obtain⟨n1,n2⟩:=hn;obtain⟨w1,w2⟩:=hw;obtain⟨a1,a2⟩:=ha;by_cases g0:wide<1
 ·have d0:decide (wide<1)=true:=by simpa using g0
  have HX:=Hd (a9j (n:=n) (wide:=wide) (apart:=apart) (by omega))
  go_enter func167,ntmps167
  go_wp2;go_ret;exact⟨by rw[HX.out];rfl,rfl⟩
 have d0:decide (wide<1)=false:=by simpa using g0
 by_cases g1:apart<1
 ·have d1:decide (apart<1)=true:=by simpa using g1
  have HX:=Hd (a9j (n:=n) (wide:=wide) (apart:=apart) (by omega))
  go_enter func167,ntmps167
  go_wp2;go_ret;exact⟨by rw[HX.out];rfl,rfl⟩
 have d1:decide (apart<1)=false:=by simpa using g1
 by_cases g2:n<wide
 ·have d2:decide (n<wide)=true:=by simpa using g2
  have HX:=Hd (a9j (n:=n) (wide:=wide) (apart:=apart) (by omega))
  go_enter func167,ntmps167
  go_wp2;go_ret;exact⟨by rw[HX.out];rfl,rfl⟩
 have d2:decide (n<wide)=false:=by simpa using g2
 have HX:=Hd (b6r (n:=n) (wide:=wide) (apart:=apart) (by omega));have hwA:IntKind.i64.wrap (n-wide)=n-wide:=IntWalk.i64_in _ ⟨by omega,by omega⟩;have hq0:=Int.ediv_nonneg (a:=n-wide) (b:=apart) (by omega) (by omega);have hq1:=Int.ediv_le_self (a:=n-wide) apart (by omega);have htd:(n-wide).tdiv apart=(n-wide) / apart:=Int.tdiv_eq_ediv_of_nonneg (by omega);obtain⟨q,hq⟩:∃ q,(n-wide) / apart=q:=⟨_,rfl⟩;rw[hq] at htd hq0 hq1 HX;have hwB:IntKind.i64.wrap q=q:=IntWalk.i64_in _ ⟨by omega,by omega⟩;have hwC:IntKind.i64.wrap (q+1)=q+1:=IntWalk.i64_in _ ⟨by omega,by omega⟩;have hne:¬ apart=0:=by omega
 clear hq
 go_enter func167,ntmps167
 go_wp2;go_ret;exact⟨by rw[HX.out];rfl,rfl⟩
theorem d6c (h:a[0]?=some y):a.getD 0 0=y:=by rw[gD,h];rfl
theorem d6d {k:Nat}(h:a[k]?=some y):a.getD k 0=y:=by rw[gD,h];rfl
theorem d4w (a:Addr):a.add 0=a:=by cases a;rfl
theorem Lils.head (h:Lils w A n (s::L)):∃ a B m c,A=some a∧a.block<w.heap.size∧w.cell? a=some (.slice B m c)∧m≤c∧Ints w B m s:=by
 obtain⟨a,B,m,c,h1,h2,h3,h4,h5⟩:=h.2.2 0 s rfl;exact⟨a,B,m,c,h1,h2,by rwa [d4w] at h3,h4,h5⟩
theorem d2c (a:Addr)(j:Nat):(a.add 1).add j=a.add (j+1):=by rw[b0w,Nat.add_comm]
theorem c2a {w1:World}(hL:Lils w1 A n (s::L))(hc:n≤c):∃ A2:Option Addr,(∀ w,(Instr.slice 44 (.slice A n c) (some (.int .i64 1)) none none).run prog w=.ok (.slice A2 (n-1) (c-1)) w)∧Lils w1 A2 (n-1) L:=by
 have hu:prog.underlying 44=some (.slice 25):=by kernel_rfl
 obtain⟨a,B,m,cs,rfl,_⟩:=hL.head;have hn:L.length+1=n:=hL.1;have hn9:=hL.2.1;by_cases hc1:c=1
 ·subst hc1;have h1:n=1:=by omega
  subst h1;obtain rfl:L=[]:=List.eq_nil_of_length_eq_zero (by omega);refine⟨some a,fun w=>?_,rfl,by omega,fun j x hx=>by simp at hx⟩
  go_simp
 ·refine⟨some (a.add 1),fun w=>?_,by omega,by omega,fun j x hx=>?_⟩
  ·have h1:1≤n:=by omega
   have h2:1≤c:=by omega
   go_simp
   intro h;omega
  ·obtain⟨a', B,m,cs,h1,h2,h3,h4,h5⟩:=hL.2.2 (j+1) x hx;injection h1 with h1;subst h1
   exact⟨a.add 1,B,m,cs,rfl,by rw[a0d];exact h2,by rw[d2c];exact h3,h4,h5⟩
theorem c5g (hS:Ints w A n s)(hA:Ints w B m a):
  Calls prog 141 #[.slice A n c,.slice B m d] w (a3v w (a7o s a)):=by
 have C1:=a7h (c:=c) hS;have HSL:=Hd hS.len;have HAL:=Hd hA.len;have hnle:=hS.le;have hmle:=hA.le
 cases hr:Sh.right s with
 | false =>
  rw[hr] at C1;have HX:=Hd (show a7o s a=(13,[]) by rw[a7o,hr];rfl);clear hr hS hA
  go_enter func141,ntmps141
  go_wp2_with fail
  refine C1.mono ?_;rintro e1 w1 ⟨rfl,rfl⟩;clear C1;go_wp2;go_ret2
  exact a0i HX (Below.refl _ _)
 | true =>
  rw[hr] at C1;have HP:=Hd (show a7o s a=if a.length=1∧0≤a.getD 0 0∧a.getD 0 0<s.length then(0,s) else(1,[]) by rw[a7o,hr,iP rfl]);have hn4:n≤4:=by have:=(Sh.right_iff.1 hr).1;have:=HSL.out;omega
  clear hr;by_cases hm:m=1
  ·subst hm;obtain⟨pa,x,hpA,hpb,hx,hcx,hfx⟩:=hA.at_ (k:=0) (by omega);subst hpA;rw[d4w] at hcx;have HX0:=Hd (d6c hx);have C2:=b1c x (A:=A) (n:=n) (c:=c) w;clear hx hfx
   cases hax:axF x n with
   | false =>
    rw[hax] at C2;have HX:=Hd (show a7o s a=(1,[]) by rw[HP.out,iN];rintro⟨_,h1,h2⟩;rw[HX0.out] at h1 h2;rw[HSL.out] at h2;rw[b2f.2 ⟨h1,h2⟩] at hax;cases hax);clear hax hS hA
    go_enter func141,ntmps141
    go_wp2_with fail
    refine C1.mono ?_;rintro e1 w1 ⟨rfl,rfl⟩;clear C1
    go_wp2_with fail
    refine C2.mono ?_;rintro e1 w1 ⟨rfl,rfl⟩;clear C2;go_wp2;go_ret2
    exact a0i HX (Below.refl _ _)
   | true =>
    rw[hax] at C2;have HX:=Hd (show a7o s a=(0,s) by rw[HP.out,iP];have:=b2f.1 hax;rw[HX0.out,HSL.out];exact⟨HAL,this.1,this.2⟩);have C3:=a5t (c:=c) hS (by omega);clear hax hS hA
    go_enter func141,ntmps141
    go_wp2_with fail
    refine C1.mono ?_;rintro e1 w1 ⟨rfl,rfl⟩;clear C1
    go_wp2_with fail
    refine C2.mono ?_;rintro e1 w1 ⟨rfl,rfl⟩;clear C2
    go_wp2_with fail
    refine C3.mono ?_;rintro e2 w2 ⟨⟨v,rfl,hO⟩,hb⟩;have HO:=Hd hO;clear C3 hO;go_wp2;go_ret2;exact a3k HX HO hb
  ·have dm:((m:Int) != 1)=true:=by simp;omega
   have HX:=Hd (show a7o s a=(1,[]) by rw[HP.out,iN];rintro⟨h1,_⟩;have:=HAL.out;omega);clear hm hS hA
   go_enter func141,ntmps141
   go_wp2_with fail
   refine C1.mono ?_;rintro e1 w1 ⟨rfl,rfl⟩;clear C1;go_wp2;go_ret2;exact a0i HX (Below.refl _ _)
theorem d6a {C:Option Addr}{na ca:Nat}{t:List Int}(hS:Ints w A n s)(hT:Ints w B m t)(hA:Ints w C na a)(kn:n≤c)(km:m≤d):
  Calls prog 148 #[.slice A n c,.slice B m d,.slice C na ca] w (a3v w (b6e s t a)):=by
 have HAL:=Hd hA.len;have hmle:=hA.le;by_cases hm:na=1
 ·subst hm;obtain⟨pa,x,hpA,hpb,hx,hcx,hfx⟩:=hA.at_ (k:=0) (by omega);subst hpA;rw[d4w] at hcx;have HX:=Hd (show b6e s t a=dsR s t x by rw[b6e,iP HAL.out,d6c hx]);have C2:=c8d (ca:=c) (cb:=d) x hS hT kn km;clear hx hfx hA hS hT
  go_enter func148,ntmps148
  go_wp2_with fail
  refine C2.mono ?_;rintro e2 w2 ⟨⟨v,k,rfl,hO⟩,hb⟩;have HO:=Hd hO;clear C2 hO;go_wp2;go_ret2;rw[HX.out];exact⟨⟨_,k,rfl,HO⟩,hb⟩
 ·have dm:((na:Int) != 1)=true:=by simp;omega
  have HX:=Hd (show b6e s t a=(1,[]) by rw[b6e,iN];have:=HAL.out;omega);clear hm hA hS hT
  go_enter func148,ntmps148
  go_wp2;go_ret2;exact a0i HX (Below.refl _ _)
theorem c8p (hS:Ints w A n s)(hA:Ints w B m a)(hmd:m≤d)(hr:Sh.right s=true):
  Calls prog 142 #[.slice A n c,.slice B m d] w (a3v w (a5b s a)):=by
 have HSL:=Hd hS.len;have HAL:=Hd hA.len;have hnle:=hS.le;have hmle:=hA.le;have hn4:n≤4:=by have:=(Sh.right_iff.1 hr).1;have:=HSL.out;omega
 by_cases hm:m=n
 ·subst hm;have hmk:=a2z underlying25 Tryz.infoInt (n:=m) (by omega);have h1:=(((Sep.nil w).old hS).old hA).noughts 3 m (by omega);have HRI:=Hd (Sh.right_iff.1 hr).2.1;clear hr
  go_enter func142,ntmps142
  go_upto_region 4 with fail
  generalize w.alloc (.cells (noughts m) 3)=W at *;generalize hgg:w.heap.size=g at *;have HGG:=Hd hgg;have H:=Hd h1;clear h1 hmk hgg
  go_wp2_with fail
  go_loopw [19] (fun iv wr=>∃ k:Nat,iv=.int .i64 k∧k≤m∧(∀ j,j<k→TuAt s a j)∧Sep w wr [.own 3 (.slice (some ⟨g,0,none⟩) m m) m (mix (a3u s a) (List.replicate m 0) k),.ints B m a,.ints A m s]) (fun iv _=>m-(intOf iv).toNat)
  case atStart=>exact⟨0,rfl,by omega,fun j hj=>by omega,by rw[a4v];exact H⟩
  case round =>
   clear H;obtain⟨k,rfl,hk,hall,hSp⟩:=hrel;have H:=Hd hSp;have HALL:=Hd hall;clear hSp hall;by_cases hlt:k<m
   ·obtain⟨pa,x,hpA,hpb,hx,hcx,hfx⟩:=(H.oldInts 1 rfl).at_ (k:=k) hlt;subst hpA;have HX:=Hd hx;have C2:=b1c x (A:=A) (n:=m) (c:=c) wr;clear hx hfx
    cases hax:axF x m with
    | false =>
     rw[hax] at C2
     have HQ:=Hd (show a5b s a=(1,[]) by
      rw[a5b,iN];intro hT;have:=hT.2 k x HX
      rw[b2f.2 ⟨this.1,by have:=HSL.out;omega⟩] at hax;cases hax)
     clear hax
     go_wp2_with fail
     refine C2.mono ?_;rintro e1 w1 ⟨rfl,rfl⟩;clear C2;go_wp2;go_ret2
     exact a0i HQ H.base
    | true =>
     rw[hax] at C2;have hax2:=b2f.1 hax;obtain⟨x,rfl⟩:=eZ hax2.1;have hxm:x<m:=by omega
     have C3:=b2z (c:=d) (x:Int) ((H.oldInts 1 rfl).take (k:=k) (by omega));clear hax hax2
     go_wp2_with fail
     refine C2.mono ?_;rintro e1 w1 ⟨rfl,rfl⟩;clear C2;by_cases hmem:(x:Int)∈a.take k
     ·rw[decide_eq_true hmem] at C3
      have HQ:=Hd (show a5b s a=(1,[]) by
       rw[a5b,iN];intro hT
       exact(hT.2 k x HX).2.2 hmem)
      clear hmem
      go_wp2_with fail
      refine C3.mono ?_;rintro e1 w1 ⟨rfl,rfl⟩;clear C3;go_wp2;go_ret2;exact a0i HQ H.base
     ·rw[decide_eq_false hmem] at C3;obtain⟨ps,y,hpS,hsb,hy,hcy,hfy⟩:=(H.oldInts 2 rfl).at_ (k:=x) hxm;subst hpS;have hO:=H.own 0 rfl;have hfr:=hO.frozen k;have hcz:=hO.cell (j:=k) (x:=0) (a8e (by rw[a4a];exact HAL) hlt)
      have HT:=Hd (show TuAt s a k from fun z hz=>by
       rw[HX.out] at hz;injection hz with hz;subst hz
       exact⟨by omega,by have:=HSL.out;omega,hmem⟩)
      have hst:=H.store 0 k (x:=y) hfy rfl;rw[a5n (by rw[a4a];exact HAL.out) (c4g HX.out (by rw[Int.toNat_natCast];exact hy))] at hst;have HST:=Hd hst;clear hmem hO hst hy hfy
      go_wp2_with fail
      refine C3.mono ?_;rintro e1 w1 ⟨rfl,rfl⟩;clear C3;go_wp2;go_roundw
      case rel=>exact⟨k+1,by go_num,by omega,fun j hj=>by
       rcases Nat.lt_or_ge j k with h' | h'
       ·exact HALL j h'
       ·obtain rfl:j=k:=by omega
        exact HT,HST⟩
      case measure=>simp[intOf];omega
   ·obtain rfl:k=m:=by omega
    have HQ:=Hd (show a5b s a=(0,a3u s a) by
     rw[a5b,iP];refine⟨by have:=HSL.out;have:=HAL.out;omega,fun j x hx=>?_⟩
     exact HALL j (by have:=(lL hx);have:=HAL.out;omega) x hx)
    have HE:=Hd (show mix (a3u s a) (List.replicate k 0) k=a3u s a from a8d (by rw[a4a];exact HAL));go_wp2;go_ret2;exact a3k HQ (by have:=H.ownS 0 rfl;rw[HE.out] at this;exact this) H.base
 ·have dm:((m:Int) != (n:Int))=true:=by simp;omega
  have HX:=Hd (show a5b s a=(1,[]) by rw[a5b,iN];rintro⟨h1,_⟩;have:=HAL.out;have:=HSL.out;omega);clear hm hA hS hr
  go_enter func142,ntmps142
  go_wp2;go_ret2;exact a0i HX (Below.refl _ _)
theorem d8v:SpOk s o a↔a.length=s.length∧a8v a o.length∧∀(k:Nat) (x y:Int),a[k]?=some x→s[k]?=some y→o[x.toNat]?=some y:=by
 constructor
 ·intro h;refine⟨h.1,fun k x hx=>?_,fun k x y hx hy=>(h.2 k x y hx hy).2.2.2⟩;obtain⟨y,hy⟩:=a0h (l:=s) (k:=k) (by rw[←h.1];exact(lL hx));have:=h.2 k x y hx hy;exact⟨this.1,this.2.1,this.2.2.1⟩
 ·rintro⟨hl,h,g⟩;refine⟨hl,fun k x y hx hy=>?_⟩;have:=h k x hx;exact⟨this.1,this.2.1,this.2.2,g k x y hx hy⟩
theorem c8o {O:Option Addr}{no co:Nat}(hS:Ints w A n s)(hO:Ints w O no o)(hA:Ints w B m a):
  Calls prog 143 #[.slice A n c,.slice O no co,.slice B m d] w (a3v w (a3t s o a)):=by
 have C1:=a7h (c:=co) hO;have HSL:=Hd hS.len;have HOL:=Hd hO.len;have HAL:=Hd hA.len;have hnle:=hS.le;have hole:=hO.le;have hmle:=hA.le
 cases hr:Sh.right o with
 | false =>
  rw[hr] at C1;have HX:=Hd (show a3t s o a=(13,[]) by rw[a3t,hr];rfl);clear hr hS hA hO
  go_enter func143,ntmps143
  go_wp2_with fail
  refine C1.mono ?_;rintro e1 w1 ⟨rfl,rfl⟩;clear C1;go_wp2;go_ret2
  exact a0i HX (Below.refl _ _)
 | true =>
  rw[hr] at C1;have HPY:=Hd (show SpOk s o a→a3t s o a=(0,o) from fun h=>by rw[a3t,hr,iP rfl,iP h]);have HPN:=Hd (show ¬ SpOk s o a→a3t s o a=(1,[]) from fun h=>by rw[a3t,hr,iP rfl,iN h]);have hn4:no≤4:=by have:=(Sh.right_iff.1 hr).1;have:=HOL.out;omega
  clear hr;by_cases hm:m=n
  ·subst hm;have C2:=b7j (c:=d) (S:=O) (d:=co) hA hn4;by_cases hri:a8v a no
   ·rw[b9f hri] at C2;have HRI:=Hd hri;clear hri;have h1:=(((Sep.nil w).old hS).old hA).old hO
    go_enter func143,ntmps143
    go_wp2_with fail
    refine C1.mono ?_;rintro e1 w1 ⟨rfl,rfl⟩;clear C1
    go_wp2_with fail
    refine C2.mono ?_;rintro e1 w1 ⟨rfl,rfl⟩;clear C2
    go_wp2_with fail
    go_loopw [26] (fun iv wr=>∃ k:Nat,iv=.int .i64 k∧k≤m∧(∀(j:Nat) (x y:Int),j<k→a[j]?=some x→s[j]?=some y→o[x.toNat]?=some y)∧Sep w wr [.ints O no o,.ints B m a,.ints A m s]) (fun iv _=>m-(intOf iv).toNat)
    case atStart=>exact⟨0,rfl,by omega,fun j x y hj=>by omega,h1⟩
    case round =>
     clear h1;obtain⟨k,rfl,hk,hall,hSp⟩:=hrel;have H:=Hd hSp;have HALL:=Hd hall;clear hSp hall;by_cases hlt:k<m
     ·obtain⟨pa,x,hpA,hpb,hx,hcx,hfx⟩:=(H.oldInts 1 rfl).at_ (k:=k) hlt;subst hpA;obtain⟨ps,y,hpS,hpb2,hy,hcy,hfy⟩:=(H.oldInts 2 rfl).at_ (k:=k) hlt;subst hpS;have hxr:=HRI.out k x hx;obtain⟨x,rfl⟩:=eZ hxr.1;have hxo:x<no:=by omega
      obtain⟨po,z,hpO,hpb3,hz,hcz,hfz⟩:=(H.oldInts 0 rfl).at_ (k:=x) hxo;subst hpO;have HX:=Hd hx;have HY:=Hd hy;have HZ:=Hd hz;clear hx hy hz hfx hfy hfz hxr;by_cases hzy:z=y
      ·subst hzy
       go_wp2_with fail
       go_quiet (fail)
       go_wp2;go_roundw
       case rel=>exact⟨k+1,by go_num,by omega,fun j u v hj hu hv=>by
        rcases Nat.lt_or_ge j k with h' | h'
        ·exact HALL j u v h' hu hv
        ·obtain rfl:j=k:=by omega
         rw[HX.out] at hu;injection hu with hu;subst hu
         rw[HY.out] at hv;injection hv with hv;subst hv
         rw[Int.toNat_natCast];exact HZ,H.drewN _⟩
       case measure=>simp[intOf];omega
      ·have dz:(z != y)=true:=by simpa using hzy
       have HQ:=Hd (show a3t s o a=(1,[]) by
        refine HPN fun hT=>?_
        have h9:=(hT.2 k x y HX HY).2.2.2;rw[Int.toNat_natCast,HZ.out] at h9
        injection h9 with h9;exact hzy h9)
       clear hzy
       go_wp2_with fail
       go_quiet (fail)
       go_wp2;go_ret2;exact a0i HQ (H.drewN _).base
     ·obtain rfl:k=m:=by omega
      have HQ:=Hd (show a3t s o a=(0,o) by
       refine HPY (d8v.2 ?_);refine⟨by have:=HSL.out;have:=HAL.out;omega,by rw[HOL.out];exact HRI,fun j x y hx hy=>?_⟩
       exact HALL j x y (by have:=(lL hx);have:=HAL.out;omega) hx hy)
      have C3:=a5t (c:=co) (H.oldInts 0 rfl) (by omega)
      go_wp2_with fail
      refine C3.mono ?_;rintro e2 w2 ⟨⟨v,rfl,hO⟩,hb⟩;have H2:=Hd (H.addOwn hb hO);clear C3 hO hb;go_wp2;go_ret2;exact a3k HQ (H2.ownS 0 rfl) H2.base
   ·rw[b6n hri] at C2;have HX:=Hd (show a3t s o a=(1,[]) by refine HPN fun h=>?_;exact hri (by have:=(d8v.1 h).2.1;rwa [HOL.out] at this));clear hri hS hA hO
    go_enter func143,ntmps143
    go_wp2_with fail
    refine C1.mono ?_;rintro e1 w1 ⟨rfl,rfl⟩;clear C1
    go_wp2_with fail
    refine C2.mono ?_;rintro e1 w1 ⟨rfl,rfl⟩;clear C2;go_wp2;go_ret2;exact a0i HX (Below.refl _ _)
  ·have dm:((m:Int) != (n:Int))=true:=by simp;omega
   have HX:=Hd (show a3t s o a=(1,[]) by refine HPN ?_;rintro⟨h1,_⟩;have:=HAL.out;have:=HSL.out;omega);clear hm hA hS hO
   go_enter func143,ntmps143
   go_wp2_with fail
   refine C1.mono ?_;rintro e1 w1 ⟨rfl,rfl⟩;clear C1;go_wp2;go_ret2;exact a0i HX (Below.refl _ _)
end Go.Proofs.YtdcmanhgekjhgaaGreatDoor
