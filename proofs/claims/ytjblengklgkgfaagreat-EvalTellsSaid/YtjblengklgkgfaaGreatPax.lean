import Derived.Test.YtjblengklgkgfaaGreatPap
set_option maxRecDepth 100000
set_option maxHeartbeats 12800000
namespace Go.Proofs.YtjblengklgkgfaaGreat
open Go.RowKit Go.Proofs.Tryz
variable {A:Option Addr} {a xs:List Int} {c n r:Nat} {w w':World}
def ownP (s:List Int):Int × List Int:=if Sh.right s=true then(0,s) else(13,[])
def a8d (s a:List Int):Int × List Int:=if Sh.right s=true then(if a.length=1∧0≤a.getD 0 0∧a.getD 0 0<s.length then(0,s) else(1,[])) else(13,[])
open Classical in
noncomputable def a5c (s a:List Int):Int × List Int:=if TuOk s a then(0,a2s s a) else(1,[])
open Classical in
noncomputable def a4i (s o a:List Int):Int × List Int:=if Sh.right o=true then(if SpOk s o a then(0,o) else(1,[])) else(13,[])
def a5f (s a:List Int):Int × List Int:=if a.length=2*s.length∧a3w s (a.take s.length) (a.drop s.length)=true then(0,a.drop s.length) else(1,[])
open Classical in
noncomputable def a4s (s a:List Int):Int × List Int:=if a.length=2*s.length∧b3c s (a.take s.length) (a.drop s.length) then ownP (padS s (a.take s.length) (a.drop s.length)) else(1,[])
def totL (ax:Nat) (L:List (List Int)):Int:=L.foldl (fun a s=>a+s.getD ax 0) 0
def b8t (ax:Nat) (L:List (List Int)):Prop:=∀ s∈L,b3a (L.getD 0 []) ax s
open Classical in
noncomputable def a3h (L:List (List Int)) (a:List Int):Int × List Int :=
 if a.length=1∧0≤a.getD 0 0∧a.getD 0 0<(L.getD 0 []).length then(if b8t (a.getD 0 0).toNat L then ownP ((L.getD 0 []).set (a.getD 0 0).toNat (totL (a.getD 0 0).toNat L)) else(13,[])) else(1,[])
open Classical in
noncomputable def a5a (how:Int) (s a:List Int):Int × List Int:=if a4q how=true∧a7v a s.length then ownP (rest a s) else(1,[])
def b6q (s t a:List Int):Int × List Int:=if a.length=1 then dsR s t (a.getD 0 0) else(1,[])
def a2j (how:Int) (s a:List Int):Int × List Int:=if a.length=3∧a4q how=true∧b3o s (a.getD 0 0)=true∧b2h (a.getD 1 0) (a.getD 2 0)=true then(0,winS s (a.getD 0 0).toNat (a.getD 1 0) (a.getD 2 0)) else(1,[])
open Classical in
noncomputable def a3r (L:List (List Int)):Int × List Int:=if ∀ s∈L,s=L.getD 0 [] then(0,L.getD 0 []) else(13,[])
def a4j (w:World) (r:Int × List Int) (e:Ending) (w' : World):Prop :=
 (∃ v m,e=.returned (.tuple #[v,.int .i64 r.1])∧OwnS w' w.heap.size 3 v m r.2)∧Below w.heap.size w w'
theorem a0n {r:Int × List Int}{e:Int}(h:r=(e,[]))(hb:Below w.heap.size w w'):a4j w r (.returned (.tuple #[.slice none 0 0,.int .i64 e])) w':=by
 subst h;exact⟨⟨_,0,rfl,OwnS.nil_ _ _ _⟩,hb⟩
theorem a3z {r:Int × List Int}{v:Value}{m:Nat}(h:r=(0,xs))(ho:OwnS w' w.heap.size 3 v m xs)(hb:Below w.heap.size w w'):a4j w r (.returned (.tuple #[v,.int .i64 0])) w':=by
 subst h;exact⟨⟨_,m,rfl,ho⟩,hb⟩
theorem a6f (h:Ints w A n xs)(hn:n≤17592186044000):
  Calls prog 141 #[.slice A n c] w fun e w'=>(∃ v,e=.returned v∧OwnS w' w.heap.size 3 v n xs)∧Below w.heap.size w w':=by
 have hmk:=a0t underlying22 Tryz.infoInt (n:=n) (by omega);have h1:=(Sep.nil w).noughts 3 n (by omega);have HI:=Hd h;have hnle:=h.le;clear h
 go_enter func141,ntmps141
 go_upto_region 2 with fail
 generalize hW:w.alloc (.cells (noughts n) 3)=W at *;have H:=Hd h1;have hO:=h1.own 0 rfl;have HO:=Hd hO;have HI2:=Hd (HI.below h1.base);clear h1 hmk hO hW
 go_wp2_with (with_reducible refine a3m rfl (.tmp 7) (.tmp 8) 22 22 rfl 3 underlying22 Tryz.sizeInt HO.out rfl rfl HI2.out ?_)
 intro w3 hO3 hg3;have H3:=Hd (H.change 0 (d:=.own 3 (.slice (some ⟨w.heap.size,0,none⟩) n n) n xs) rfl hg3 hO3 (fun k hk=>.inl hk));clear hO3 hg3;go_wp2;go_ret;exact⟨⟨_,rfl,H3.ownS 0 rfl⟩,H3.base⟩
def axF (x:Int) (n:Nat):Bool:=decide (0≤x)&&decide (x<n)
theorem b1k (x:Int)(w:World):
  Calls prog 142 #[.int .i64 x,.slice A n c] w fun e w'=>e=.returned (.bool (axF x n))∧w=w':=by
 by_cases h:0≤x
 ·have d:decide (0≤x)=true:=by simpa using h
  have HX:=Hd (show axF x n=decide (x<n) by rw[axF,d];rfl)
  go_enter func142,ntmps142
  go_wp2;go_ret;exact⟨a0b (by rw[HX.out]),rfl⟩
 ·have d:decide (0≤x)=false:=by simpa using h
  have HX:=Hd (show axF x n=false by rw[axF,d];rfl)
  go_enter func142,ntmps142
  go_wp2;go_ret;exact⟨a0b HX.symm,rfl⟩
theorem b3e {x:Int}:axF x n=true↔0≤x∧x<n:=by simp[axF]
open Classical in
noncomputable def d4l (a:List Int) (r:Nat):Bool:=decide (a7v a r)
theorem b8i (h:a7v a r):d4l a r=true:=by simpa [d4l] using h
theorem b6s (h:¬ a7v a r):d4l a r=false:=by simpa [d4l] using h
theorem b9p {S:Option Addr}{d:Nat}(h:Ints w A n a)(hr:r≤4):
  Calls prog 144 #[.slice A n c,.slice S r d] w fun e w'=>e=.returned (.bool (d4l a r))∧w=w':=by
 have hn:=h.len;have hle:=h.le;have H1:=Hd hn;clear hn
 go_enter func144,ntmps144
 go_wp2
 go_loop [5,10] (fun last i=>∃(k:Nat) (l:Int),k≤n∧i=.int .i64 k∧last=.int .i64 l ∧ -1≤l∧l≤4∧(∀ j,j<k→c2z a r j)∧(∀ z,0<k→a[k-1]?=some z→z=l)∧(k=0→l = -1)) (fun _ i=>n-(intOf i).toNat)
 case atStart=>exact⟨0,-1,Nat.zero_le _,rfl,rfl,by omega,by omega,fun j hj=>by omega,fun z hz=>by omega,fun _=>rfl⟩
 case round =>
  obtain⟨k,l,hk,rfl,rfl,hl1,hl2,hall,hlast,hz0⟩:=hrel;have HA:=Hd hall;clear hall;have HL:=Hd hlast;clear hlast;have HZ:=Hd hz0;clear hz0;by_cases hlt:k<n
  ·obtain⟨ad,x,rfl,hb,hx,hc,hf⟩:=h.at_ hlt;have HX:=Hd hx;clear hx
   have HLE:=Hd (show ¬ l<x→¬ a7v a r from fun hxl hR=>by
    have h1:=hR k x HX;by_cases hk0:k=0
    ·have:=HZ.out hk0;omega
    ·obtain⟨z,hz⟩:=a0f (l:=a) (k:=k-1) (by have:=H1.out;omega);have:=HL.out z (by omega) hz;have:=h1.2.2 z (by omega) hz
     omega)
   have HGE:=Hd (show ¬ x<r→¬ a7v a r from fun hxl hR=>hxl (hR k x HX).2.1);by_cases g1:x≤l
   ·have HN:=Hd (b6s (HLE (by omega)));clear HLE HGE;have d1:decide (x≤l)=true:=by simpa using g1
    go_wp2;go_ret;exact⟨a0b HN.symm,rfl⟩
   ·have d1:decide (x≤l)=false:=by simpa using g1
    by_cases g2:(r:Int)≤x
    ·have HN:=Hd (b6s (HGE (by omega)));clear HLE HGE;have d2:decide ((r:Int)≤x)=true:=by simpa using g2
     go_wp2;go_ret;exact⟨a0b HN.symm,rfl⟩
    ·clear HLE HGE;have d2:decide ((r:Int)≤x)=false:=by simpa using g2
     go_wp2;go_round
     case rel=>exact⟨k+1,x,by omega,by go_num,rfl,by omega,by omega,fun j hj=>by
      rcases Nat.lt_or_ge j k with h' | h'
      ·exact HA j h'
      ·obtain rfl:j=k:=by omega
       intro y hy;rw[HX.out] at hy;injection hy with hy;subst hy
       refine⟨?_,by omega,fun z hz1 hz2=>?_⟩
       ·omega
       ·have:=HL.out z hz1 hz2;omega,fun z _ hz=>by rw[Nat.add_sub_cancel,HX.out] at hz;injection hz with hz;exact hz.symm,fun e=>by omega⟩
     case measure=>simp[intOf];omega
  ·have HR:=Hd (b8i (show a7v a r from fun j x hx=>HA.out j (by have:=(lL hx);have:=H1.out;omega) x hx));go_wp2;go_ret;exact⟨a0b HR.symm,rfl⟩
theorem d1v (x:Int)(h:Ints w A n a):
  Calls prog 150 #[.slice A n c,.int .i64 x] w fun e w'=>(∃ k:Int,e=.returned (.int .i64 k)∧decide (0≤k)=decide (x∈a))∧w=w':=by
 have hn:=h.len;have hle:=h.le;have H1:=Hd hn;clear hn
 go_enter func150,ntmps150
 go_wp2
 go_loop [8] (fun i=>∃ k:Nat,k≤n∧i=.int .i64 k∧x∉a.take k) (fun i=>n-(intOf i).toNat)
 case atStart=>exact⟨0,Nat.zero_le _,rfl,by simp⟩
 case round =>
  obtain⟨k,hk,rfl,hall⟩:=hrel;have HA:=Hd hall;clear hall;by_cases hlt:k<n
  ·obtain⟨ad,y,rfl,hb,hy,hc,hf⟩:=h.at_ hlt;have HY:=Hd hy;clear hy;by_cases g1:x=y
   ·subst g1;have d1:(x==x)=true:=by simp
    have HM:=Hd (show x∈a from mG HY);go_wp2;go_ret;exact⟨⟨_,rfl,by simp[HM.out]⟩,rfl⟩
   ·have d1:(x==y)=false:=by simpa using g1
    have HNE:=Hd g1;clear g1;go_wp2;go_round
    case rel=>exact⟨k+1,by omega,by go_num,by rw[List.take_add_one,HY.out];simp[HA.out,HNE.out]⟩
    case measure=>simp[intOf];omega
  ·have HM:=Hd (show x∉a by have:=HA.out;rwa [List.take_of_length_le (by have:=H1.out;omega)] at this);go_wp2;go_ret;exact⟨⟨_,rfl,by simp[HM.out]⟩,rfl⟩
theorem b4j (x:Int)(h:Ints w A n a):
  Calls prog 143 #[.slice A n c,.int .i64 x] w fun e w'=>e=.returned (.bool (decide (x∈a)))∧w=w':=by
 have C1:=d1v (c:=c) x h
 go_enter func143,ntmps143
 go_wp2_with fail
 refine C1.mono ?_;rintro e1 w1 ⟨⟨k,rfl,hk⟩,rfl⟩;have HK:=Hd hk;clear hk C1;go_wp2;go_ret;exact⟨a0b HK,rfl⟩
theorem b7a {s:List Int}(h:Ints w A n s):
  Calls prog 91 #[.slice A n c] w (a4j w (ownP s)):=by
 have C1:=a1w (c:=c) h;have hl:=h.len;have HI:=Hd h;clear h
 cases hr:Sh.right s with
 | false =>
  rw[hr] at C1;have HX:=Hd (show ownP s=(13,[]) by rw[ownP,hr];rfl);clear hr
  go_enter func91,ntmps91
  go_wp2_with fail
  refine C1.mono ?_;rintro e1 w1 ⟨rfl,rfl⟩;clear C1;go_wp2;go_ret2
  exact a0n HX (Below.refl _ _)
 | true =>
  rw[hr] at C1;have hn4:=(Sh.right_iff.1 hr).1;have C2:=a6f (c:=c) HI (by omega);have HX:=Hd (show ownP s=(0,s) by rw[ownP,hr];rfl);clear hr
  go_enter func91,ntmps91
  go_wp2_with fail
  refine C1.mono ?_;rintro e1 w1 ⟨rfl,rfl⟩;clear C1
  go_wp2_with fail
  refine C2.mono ?_;rintro e2 w2 ⟨⟨v,rfl,hO⟩,hb⟩;have HO:=Hd hO;clear C2 hO;go_wp2;go_ret2;exact a3z HX HO hb
end Go.Proofs.YtjblengklgkgfaaGreat
