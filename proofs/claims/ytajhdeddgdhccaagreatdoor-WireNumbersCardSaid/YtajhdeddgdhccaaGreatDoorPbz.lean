import Derived.Test.YtajhdeddgdhccaaGreatDoorPbx
set_option maxRecDepth 100000
set_option maxHeartbeats 12800000
namespace Go.Proofs.YtajhdeddgdhccaaGreatDoor
open Go.RowKit Go.Proofs.Tryz
variable {w:World}
theorem c1q {v:Value}{G:a2g}{q:Nat}(h:a3r w v G)(hF:FewG q G)(hT:Tabs w)(hq:q≤800:=by omega):
  Calls prog 5 #[v] w fun e w'=>e=.returned (.bool true)∧Below w.heap.size w w':=by
 have HG:=h;obtain⟨A,na,ca,B,nb,cb,C,nc,cc,rfl,hL⟩:=h;replace HG:=Hd HG;have C1:=fun (w' : World) (hb:Below w.heap.size w w')=>a6v (HG.below hb) hF (hT.below hb) hq
 have C2:=fun (w' : World) (hb:Below w.heap.size w w')=>b7x (HG.below hb) hF hq
 obtain⟨⟨T,e⟩,hTT⟩:∃ r,a5y G=r:=⟨_,rfl⟩;rw[hTT] at C1 C2;have HC1:=Hd C1;have HC2:=Hd C2;have h1:=(Sep.nil w).allocBox w.heap.size 26 [.slice A na ca,.string G.names,.slice B nb cb,.slice C nc cc] rfl;clear C1 C2 hTT hT hL hF
 go_enter func5,ntmps5
 go_upto_region 1 with fail
 generalize w.alloc (.cells #[.slice A na ca,.string G.names,.slice B nb cb,.slice C nc cc] 26)=w1 at *;have H:=Hd h1;clear h1;obtain⟨g0,g1,g2,g3⟩:=H.cells4 0 rfl
 go_wp2_with fail
 refine(HC1 w1 H.base).mono ?_;rintro e1 w2 ⟨rfl,hb⟩;replace H:=Hd (H.below hb);clear hb g0 g1 g2 g3;obtain⟨g0,g1,g2,g3⟩:=H.cells4 0 rfl
 go_wp2_with fail
 refine(HC2 w2 H.base).mono ?_;rintro e2 w3 ⟨rfl,hb⟩;replace H:=Hd (H.below hb);clear hb g0 g1 g2 g3;go_wp2;go_ret;exact⟨by simp,H.base⟩
theorem c5o (k:Nat)(hk:k<80):
  Calls prog 7 #[.int .i64 k] w fun e w'=>(∃ v n ys,e=.returned v∧OwnS w' w.heap.size 3 v n ys)∧Below w.heap.size w w':=by
 go_enter func7,ntmps7
 go_wp2_with fail
 go_loopw [3,4] (fun sv iv wr=>∃(i:Nat) (ys:List Int),iv=.int .i64 i∧i≤200∧OwnS wr w.heap.size 3 sv i ys∧Below w.heap.size w wr) (fun _ iv _=>200-(intOf iv).toNat)
 case atStart=>exact⟨0,[],rfl,by omega,OwnS.nil_ _ _ _,Below.refl _ _⟩
 case round =>
  obtain⟨i,ys,rfl,hi,hO,hB⟩:=hrel;have HO:=Hd hO;have HB:=Hd hB;have hz:=hB.size;obtain⟨Ao,co,hv,hco,_,_⟩:=hO.form;subst hv;have hm1:i*i≤40000:=Nat.le_trans (Nat.mul_le_mul hi hi) (by omega);have hm2:i*k≤16000:=Nat.le_trans (Nat.mul_le_mul hi (show k≤80 by omega)) (by omega);clear hO hB;by_cases hlt:i<200
  ·have d0:decide (i<200)=true:=by simpa using hlt
   go_wp2_with (at_builtin;refine a1x rfl (.tmp 9) (.tmp 22) 23 3 rfl underlying23 Tryz.infoInt w.heap.size _ i ys rfl HO.out hz _ ?cf _ rfl ?c1 ?_)
   case cf=>exact⟨by omega,by omega⟩
   case c1=>omega
   intro v' w' h1 h2 h3;have G1:=Hd h1;have G2:=Hd h2;clear h1 h2 h3;go_wp2;go_roundw
   case rel=>exact⟨i+1,_,by go_num,by omega,G1,HB.trans G2⟩
   case measure=>simp[intOf];omega
  ·have d0:decide (i<200)=false:=by simpa using hlt
   go_wp2;go_ret;exact⟨⟨_,_,_,rfl,HO⟩,HB⟩
def c8z:List Int:=[0,9,10,99,100,9223372036854775807]
theorem d2r {i:Nat}(h:i<6):∃ x:Int,(c8z.map (Value.int .i64))[i]?=some (.int .i64 x)∧0≤x∧x≤9223372036854775807:=by
 obtain⟨x,hx⟩:∃ x,c8z[i]?=some x:=gE h;have hb:∀ y∈c8z,0≤y∧y≤9223372036854775807:=by decide
 exact⟨x,by rw[List.getElem?_map,hx];rfl,hb x (mG hx)⟩
theorem b5g (hT:Tabs w):Calls prog 3 #[] w fun e w'=>e=.returned (.bool true)∧Below w.heap.size w w':=by
 have HT:=Hd hT;clear hT
 go_enter func3,ntmps3
 go_wp2_with fail
 go_loopw [1] (fun kv wr=>∃ k:Nat,kv=.int .i64 k∧k≤80∧Below w.heap.size w wr) (fun kv _=>80-(intOf kv).toNat)
 case atStart=>exact⟨0,rfl,by omega,Below.refl _ _⟩
 case round =>
  obtain⟨k,rfl,hk,hB⟩:=hrel;have HB:=Hd hB;clear hB;by_cases hlt:k<80
  ·have d0:decide ((k:Int)<80)=true:=by simp;omega
   have d0n:decide (k<80)=true:=by simpa using hlt
   obtain⟨wb,rfl⟩:∃ wb:World,wb=wr:=⟨_,rfl⟩;have CT:=c5o (w:=wb) k hlt
   go_wp2_with fail
   refine CT.mono ?_;rintro e1 w1 ⟨⟨v,n,ys,rfl,hO⟩,hb1⟩;obtain⟨At,ct,rfl,_,hI,_⟩:=hO.form;have CG:=c7i (c:=ct) hI;have HF:=Hd (a9v ys);have HB1:=Hd (a1t HB hb1);clear CT hO hI hb1
   go_wp2_with fail
   refine CG.mono ?_;rintro e2 w2 ⟨⟨v,rfl,hG⟩,hb2⟩;have HG:=Hd hG;have HB2:=Hd (a1t HB1 hb2);clear CG hb2 hG
   go_wp2_with fail
   refine(c1q HG HF (HT.below HB2)).mono ?_;rintro e3 w3 ⟨rfl,hb3⟩;have HB3:=Hd (a1t HB2 hb3);clear hb3;go_wp2;go_roundw
   case rel=>exact⟨k+1,by go_num,by omega,HB3⟩
   case measure=>simp[intOf];omega
  ·have d0:decide ((k:Int)<80)=false:=by simp;omega
   have d0n:decide (k<80)=false:=by simpa using hlt
   obtain⟨wb,rfl⟩:∃ wb:World,wb=wr:=⟨_,rfl⟩
   go_wp2_with fail
   go_loopw [2] (fun kv wr=>∃ j:Nat,kv=.int .i64 ((j:Int)-2)∧j≤27∧Below w.heap.size w wr) (fun kv _=>27-(intOf kv+2).toNat)
   case atStart=>exact⟨0,rfl,by omega,HB⟩
   case round =>
    clear HB;obtain⟨j,rfl,hj,hB⟩:=hrel;have HB:=Hd hB;clear hB;by_cases hlj:j<27
    ·have d1:decide ((j:Int)-2<25)=true:=by simp;omega
     obtain⟨wc,rfl⟩:∃ wc:World,wc=wr:=⟨_,rfl⟩;have C1:=b4y wc (op:=(j:Int)-2) ⟨by omega,by omega⟩ (HT.below HB);have C2:=fun w:World=>b0k w ((j:Int)-2)
     obtain⟨X,hX⟩:∃ X,a5e ((j:Int)-2)=X:=⟨_,rfl⟩;rw[hX] at C1 C2;have HC2:=Hd C2;clear C2 hX
     go_wp2_with fail
     refine C1.mono ?_;rintro e1 w1 ⟨rfl,rfl⟩;have HB1:=Hd HB;clear C1
     go_wp2_with fail
     refine(HC2 w1).mono ?_;rintro e2 w2 ⟨rfl,hb2⟩;have HB2:=Hd (a1t HB1 hb2);clear hb2;go_wp2;go_roundw
     case rel=>exact⟨j+1,by go_num,by omega,HB2⟩
     case measure=>simp[intOf];omega
    ·have d1:decide ((j:Int)-2<25)=false:=by simp;omega
     obtain⟨wc,rfl⟩:∃ wc:World,wc=wr:=⟨_,rfl⟩;have h3:=((Sep.nil w).below HB).allocBox wc.heap.size 2 (c8z.map (Value.int .i64)) rfl
     go_wp2_with fail
     obtain⟨gl,hgl⟩:∃ gl,wc.heap.size=gl:=⟨_,rfl⟩;rw[hgl] at h3 ⊢;have H:=Hd h3;clear h3 hgl
     go_loopw [25] (fun kv wr=>∃ i:Nat,kv=.int .i64 i∧i≤6∧Sep w wr [.box gl 2 (c8z.map (Value.int .i64))]) (fun kv _=>6-(intOf kv).toNat)
     case atStart=>exact⟨0,rfl,by omega,H⟩
     case round =>
      clear H;obtain⟨i,rfl,hi,hS⟩:=hrel;have H:=Hd hS;clear hS;by_cases hl6:i<6
      ·obtain⟨x,hx,hx0,hx1⟩:=d2r hl6;have c0:=H.cell 0 i rfl hx;have d2:decide ((i:Int)<6)=true:=by simp;omega
       have d2n:decide (i<6)=true:=by simpa using hl6
       clear hx;have p0:=fun (w' : World) (hb:Below w.heap.size w w')=>a3z (w:=w') (n:=x) ⟨by omega,by omega⟩ (HT.below hb)
       have q0:=fun w:World=>a1p (w:=w) (n:=x) ⟨by omega,by omega⟩
       obtain⟨X,e0⟩:∃ T,numT (x)=T:=⟨_,rfl⟩;rw[e0] at p0 q0;have P0:=Hd p0;have Q0:=Hd q0;clear p0 q0 e0;have p1:=fun (w' : World) (hb:Below w.heap.size w w')=>a3z (w:=w') (n := -x) ⟨by omega,by omega⟩ (HT.below hb)
       have q1:=fun w:World=>a1p (w:=w) (n := -x) ⟨by omega,by omega⟩
       obtain⟨Y,e1⟩:∃ T,numT (-x)=T:=⟨_,rfl⟩;rw[e1] at p1 q1;have P1:=Hd p1;have Q1:=Hd q1;clear p1 q1 e1;have p2:=fun (w' : World) (hb:Below w.heap.size w w')=>a3z (w:=w') (n := -x-1) ⟨by omega,by omega⟩ (HT.below hb)
       have q2:=fun w:World=>a1p (w:=w) (n := -x-1) ⟨by omega,by omega⟩
       obtain⟨Z,e2⟩:∃ T,numT (-x-1)=T:=⟨_,rfl⟩;rw[e2] at p2 q2;have P2:=Hd p2;have Q2:=Hd q2;clear p2 q2 e2
       go_wp2_with fail
       refine(P0 _ H.base).mono ?_;rintro r0 v0 ⟨rfl,hb⟩;replace H:=Hd (H.below hb);clear hb
       go_wp2_with fail
       refine(Q0 _).mono ?_;rintro s0 z0 ⟨rfl,rfl⟩
       go_wp2_with fail
       refine(P1 _ H.base).mono ?_;rintro r1 v1 ⟨rfl,hb⟩;replace H:=Hd (H.below hb);clear hb
       go_wp2_with fail
       refine(Q1 _).mono ?_;rintro s1 z1 ⟨rfl,rfl⟩
       go_wp2_with fail
       refine(P2 _ H.base).mono ?_;rintro r2 v2 ⟨rfl,hb⟩;replace H:=Hd (H.below hb);clear hb
       go_wp2_with fail
       refine(Q2 _).mono ?_;rintro s2 z2 ⟨rfl,rfl⟩;go_wp2;go_roundw
       case rel=>exact⟨i+1,by go_num,by omega,H⟩
       case measure=>simp[intOf];omega
      ·have d2:decide ((i:Int)<6)=false:=by simp;omega
       have d2n:decide (i<6)=false:=by simpa using hl6
       go_wp2_with fail
       refine(b1u (HT.below H.base)).mono ?_;rintro e9 w9 ⟨rfl,hb⟩;replace H:=Hd (H.below hb);clear hb;go_wp2;go_ret;exact⟨rfl,H.base⟩
end Go.Proofs.YtajhdeddgdhccaaGreatDoor
