import Derived.Test.YtdcmanhgekjhgaaGreatDoorPam
set_option maxRecDepth 100000
set_option maxHeartbeats 12800000
namespace Go.Proofs.YtdcmanhgekjhgaaGreatDoor
open Go.RowKit Go.Proofs.Tryz
variable {A:Option Addr} {a b d k s t:List Int} {c i j n:Nat} {w:World}
def e4e (e:Ending) (p:Prop):Prop:=∃ b,e=.returned (.bool b)∧(b=true↔p)
theorem d4x {p:Prop}(h:p):e4e (.returned (.bool true)) p:=⟨true,rfl,by simp;exact h⟩
theorem c2o {p:Prop}(h:¬ p):e4e (.returned (.bool false)) p:=⟨false,rfl,by simp;exact h⟩
theorem a9f (how:Int)(w:World):
  Calls prog 117 #[.int .i64 how] w fun e w'=>e=.returned (.bool (a5g how))∧w=w':=by
 by_cases h1:1≤how
 ·have d1:decide (1≤how)=true:=by simpa using h1
  go_enter func117,ntmps117
  go_wp2;go_ret;exact⟨a0c (by simp[a5g,h1]),rfl⟩
 ·have d1:decide (1≤how)=false:=by simpa using h1
  have HX:=Hd (show a5g how=false by simp only[a5g,d1,Bool.false_and])
  go_enter func117,ntmps117
  go_wp2;go_ret;exact⟨a0c HX.symm,rfl⟩
theorem b5u (how:Int)(w:World):
  Calls prog 120 #[.int .i64 how] w fun e w'=>e=.returned (.int .i64 (a9o how))∧w=w':=by
 by_cases h2:how=2
 ·subst h2
  go_enter func120,ntmps120
  go_wp2;go_ret;exact⟨by simp[a9o],rfl⟩
 by_cases h3:how=3
 ·subst h3;clear h2
  go_enter func120,ntmps120
  go_wp2;go_ret;exact⟨by simp[a9o],rfl⟩
 by_cases h4:how=4
 ·subst h4;clear h2 h3
  go_enter func120,ntmps120
  go_wp2;go_ret;exact⟨by simp[a9o],rfl⟩
 have b2:(how==2)=false:=by simpa using h2
 have b3:(how==3)=false:=by simpa using h3
 have b4:(how==4)=false:=by simpa using h4
 go_enter func120,ntmps120
 go_wp2;go_ret;exact⟨by simp[a9o,h2,h3,h4],rfl⟩
theorem b2o (how a b:Int)(w:World):
  Calls prog 121 #[.int .i64 how,.int .i64 a,.int .i64 b] w fun e w'=>e=.returned (.int .i64 (putF how a b))∧w=w':=by
 by_cases h1:how=1
 ·subst h1
  go_enter func121,ntmps121
  go_wp2;go_ret;exact⟨by simp[putF],rfl⟩
 by_cases h2:how=2
 ·subst h2;clear h1
  go_enter func121,ntmps121
  go_wp2;go_ret;exact⟨by simp[putF],rfl⟩
 by_cases h3:how=3
 ·subst h3;clear h1 h2;by_cases hc:b<a
  ·go_enter func121,ntmps121
   go_wp2;go_ret;exact⟨by simp[putF,hc] <;> omega,rfl⟩
  ·go_enter func121,ntmps121
   go_wp2;go_ret;exact⟨by simp[putF];omega,rfl⟩
 by_cases h4:how=4
 ·subst h4;clear h1 h2 h3;by_cases hc:b > a
  ·go_enter func121,ntmps121
   go_wp2;go_ret;exact⟨by simp[putF,hc] <;> omega,rfl⟩
  ·go_enter func121,ntmps121
   go_wp2;go_ret;exact⟨by simp[putF];omega,rfl⟩
 have b1:(how==1)=false:=by simpa using h1
 have b2:(how==2)=false:=by simpa using h2
 have b3:(how==3)=false:=by simpa using h3
 have b4:(how==4)=false:=by simpa using h4
 go_enter func121,ntmps121
 go_wp2;go_ret;exact⟨by simp[putF,h1,h2,h3,h4],rfl⟩
theorem b8z (x:Int)(h:Ints w A n a):
  Calls prog 119 #[.slice A n c,.int .i64 x] w fun e w'=>e=.returned (.bool (decide (x∈a)))∧w=w':=by
 have hle:=h.le;have H1:=Hd h.len
 go_enter func119,ntmps119
 go_wp2
 go_loop [8] (fun i=>∃ k:Nat,k≤n∧i=.int .i64 k∧x∉a.take k) (fun i=>n-(intOf i).toNat)
 case atStart=>exact⟨0,Nat.zero_le _,rfl,by simp⟩
 case round =>
  obtain⟨k,hk,rfl,hnm⟩:=hrel;have HN:=Hd hnm;clear hnm;by_cases hlt:k<n
  ·obtain⟨ad,y,rfl,hb,hy,hc,hf⟩:=h.at_ hlt;have HY:=Hd hy;clear hy;by_cases hxy:y=x
   ·subst hxy;have HX:=Hd (show decide (y∈a)=true from decide_eq_true (mG HY));go_wp2;go_ret;exact⟨a0c HX.symm,rfl⟩
   ·have d:(y==x)=false:=by simpa using hxy
    have HXY:=Hd hxy;clear hxy;go_wp2;go_round
    case rel=>exact⟨k+1,by omega,by go_num,by
     rw[List.take_add_one,HY.out];intro hm;rcases List.mem_append.1 hm with hm|hm
     ·exact HN hm
     ·exact HXY (List.mem_singleton.1 hm).symm⟩
    case measure=>simp[intOf];omega
  ·have HX:=Hd (show decide (x∈a)=false from decide_eq_false (by have h1:=HN.out;rwa [List.take_of_length_le (by have:=H1.out;omega)] at h1));go_wp2;go_ret;exact⟨a0c HX.symm,rfl⟩
theorem c0p (r:Nat)(h:Ints w A n a)(_hr:r≤4):
  Calls prog 118 #[.slice A n c,.int .i64 r] w fun e w'=>e4e e (a8v a r)∧∃ q,w'=w.drewN q:=by
 have hle:=h.le;have H1:=Hd h.len
 go_enter func118,ntmps118
 go_wp2
 go_loopw [8] (fun i wr=>∃ k:Nat,k≤n∧i=.int .i64 k∧(∀ j,j<k→c2j a r j)∧∃ q,wr=w.drewN q) (fun i _=>n-(intOf i).toNat)
 case atStart=>exact⟨0,Nat.zero_le _,rfl,fun j hj=>by omega,0,rfl⟩
 case round =>
  obtain⟨k,hk,rfl,hall,q,rfl⟩:=hrel;have HALL:=Hd hall;clear hall;by_cases hlt:k<n
  ·obtain⟨ad,x,hA,hb,hx,hc,hf⟩:=h.at_ hlt;have HE:=Hd hx;clear hx
   obtain⟨jp,u,hju,hau⟩:∃(jp:Nat) (u:Int),(k=0∨(k=jp+1∧a[jp]?=some u))∧(k=0∨(w.cell? (ad.add jp)=some (.int .i64 u))):=by
    rcases Nat.eq_zero_or_pos k with hj0|hj0
    ·exact⟨0,0,.inl hj0,.inl hj0⟩
    ·obtain⟨ad2,u,hA2,_,hu,hcu,_⟩:=h.at_ (k:=k-1) (by omega);rw[hA] at hA2;injection hA2 with hA2;subst hA2
     exact⟨k-1,u,.inr ⟨by omega,hu⟩,.inr hcu⟩
   subst hA;have HJ:=Hd hju;clear hju;have HBAD:=Hd (show ¬(0≤x∧x<r∧∀ z,0<k→a[k-1]?=some z→z<x)→¬ a8v a r from fun hbad hR=>hbad (hR k x HE));by_cases g1:x<0
   ·have d1:decide (x<0)=true:=by simpa using g1
    have HN:=Hd (HBAD (by omega));clear HBAD hau
    go_wp2_with fail
    go_quiet (fail)
    go_wp2;go_ret;exact⟨c2o HN,_,World.drewN_drewN _ _ _⟩
   have d1:decide (x<0)=false:=by simpa using g1
   by_cases g2:(r:Int)≤x
   ·have d2:decide ((r:Int)≤x)=true:=by simpa using g2
    have HN:=Hd (HBAD (by omega));clear HBAD hau
    go_wp2_with fail
    go_quiet (fail)
    go_wp2;go_ret;exact⟨c2o HN,_,World.drewN_drewN _ _ _⟩
   have d2:decide ((r:Int)≤x)=false:=by simpa using g2
   have HNEXT:=Hd (show(∀ z,0<k→a[k-1]?=some z→z<x)→∀ j,j<k+1→c2j a r j from fun hz j hj=>by
    rcases Nat.lt_or_ge j k with h' | h'
    ·exact HALL j h'
    ·obtain rfl:j=k:=by omega
     intro y hy;rw[HE.out] at hy;injection hy with hy;subst hy
     exact⟨by omega,by omega,hz⟩)
   by_cases hk0:k=0
   ·have d3:decide (0<k)=false:=by simp[hk0]
    have HG:=Hd (HNEXT fun z hz=>by omega);clear HBAD HNEXT hau hk0
    go_wp2_with fail
    go_quiet (fail)
    go_wp2;go_roundw
    case rel=>exact⟨k+1,by omega,by go_num,HG,_,rfl⟩
    case measure=>simp[intOf];omega
   ·have d3:decide (0<k)=true:=by simp;omega
    have hcu:w.cell? (ad.add jp)=some (.int .i64 u):=by rcases hau with h|h;exact absurd h hk0;exact h
    have hjp:k=jp+1∧a[jp]?=some u:=by rcases HJ with h|h;exact absurd h hk0;exact h
    have hw:IntKind.i64.wrap ((k:Int)-1)=(jp:Int):=by rw[show(k:Int)-1=(jp:Int) by omega];exact IntWalk.i64_in _ ⟨by omega,by omega⟩
    have hjl:jp<n:=by omega
    have HJP:=Hd hjp;clear hau hjp hk0;by_cases g3:x≤u
    ·have d4:decide (x≤u)=true:=by simpa using g3
     have HN:=Hd (HBAD (fun hh=>absurd (hh.2.2 u (by have:=HJP.out.1;omega) (by rw[show k-1=jp by have:=HJP.out.1;omega];exact HJP.out.2)) (by omega)));clear HBAD HNEXT
     go_wp2_with fail
     go_quiet (fail)
     go_wp2;go_ret;exact⟨c2o HN,_,World.drewN_drewN _ _ _⟩
    ·have d4:decide (x≤u)=false:=by simpa using g3
     have HG:=Hd (HNEXT fun z hz hz2=>by rw[show k-1=jp by have:=HJP.out.1;omega,HJP.out.2] at hz2;injection hz2 with hz2;omega);clear HBAD HNEXT
     go_wp2_with fail
     go_quiet (fail)
     go_wp2;go_roundw
     case rel=>exact⟨k+1,by omega,by go_num,HG,_,rfl⟩
     case measure=>simp[intOf];omega
  ·have HR:=Hd (show a8v a r from fun j x hx=>HALL.out j (by have:=(lL hx);have:=H1.out;omega) x hx);go_wp2;go_ret;exact⟨d4x HR,_,rfl⟩
theorem c6m {v:Value}{Aa:Option Addr}{na ca:Nat}(how:Int)(h:Ten w v s d)(hA:Ints w Aa na a):
  Calls prog 88 #[.int .i64 how,v,.slice Aa na ca] w fun e w'=>(∃ u,e=.returned (.tuple #[u,.int .i64 (a8w how s d a).1])∧OTen w' w.heap.size u (a8w how s d a).2.1 (a8w how s d a).2.2)∧Below w.heap.size w w':=by
 cases hh:a5g how with
 | false =>
  obtain⟨A,n,c,B,m,e,rfl,hnc,hme,hI,hJ⟩:=h;have h1:=((Sep.nil w).allocBox w.heap.size 89 [.slice A n c,.slice B m e] rfl).allocBox (w.heap.size+1) 89 [.slice none 0 0,.slice none 0 0] (by simp);have HX:=Hd (c5d (s:=s) (d:=d) (axes:=a) hh);have C1:=a9f how ((w.alloc (.cells #[.slice A n c,.slice B m e] 89)).alloc (.cells #[.slice none 0 0,.slice none 0 0] 89));rw[hh] at C1
  go_enter func88,ntmps88
  go_upto_region 1 with fail
  generalize (w.alloc (.cells #[.slice A n c,.slice B m e] 89)).alloc (.cells #[.slice none 0 0,.slice none 0 0] 89)=W at *;have H:=Hd h1;clear h1 hh
  go_wp2_with fail
  refine C1.mono ?_;rintro e1 w1 ⟨rfl,rfl⟩;obtain⟨r0,r1,fr0,fr1⟩:=H.b2 0;clear C1;go_wp2;rw[HX.out]
  exact sN2 H 0 1 results88
 | true =>
  have HH:=Hd hh;clear hh;obtain⟨A,n,c,B,m,e,rfl,hnc,hme,hI,hJ⟩:=h;have h1:=(((((Sep.nil w).old hA).old hJ).old hI).allocBox w.heap.size 89 [.slice A n c,.slice B m e] rfl).allocBox (w.heap.size+1) 89 [.slice none 0 0,.slice none 0 0] (by simp);have hsl:=hI.len;have hnle:=hI.le;have hmle:=hJ.le;have HFD:=Hd hJ.fit;have HDL:=Hd hJ.len;have hla:=hA.len;have hlea:=hA.le
  go_enter func88,ntmps88
  go_upto_region 1 with fail
  generalize (w.alloc (.cells #[.slice A n c,.slice B m e] 89)).alloc (.cells #[.slice none 0 0,.slice none 0 0] 89)=W at *;have H:=Hd h1;clear h1 hI hJ hA;have HSL:=Hd hsl;clear hsl;have HLa:=Hd hla;clear hla;have hT:=a3z (H.oldInts 2 rfl) hnc (H.oldInts 3 rfl) hme;have C1:=a2c hT;have HT:=Hd hT;clear hT;obtain⟨t0,t1⟩:=H.z2 1 rfl;have CH:=a9f how W;rw[HH.out] at CH
  go_wp2_with fail
  refine CH.mono ?_;rintro e0 w0 ⟨rfl,rfl⟩;clear CH
  go_wp2_with fail
  cases hr:a0b s d with
  | false =>
   rw[hr] at C1;refine C1.mono ?_;rintro e2 w2 ⟨rfl,hb2⟩;replace H:=Hd (H.below hb2);have HX:=Hd (c8e (axes:=a) HH hr);obtain⟨r0,r1,fr0,fr1⟩:=H.b2 0;clear hb2 hr C1 t0 t1;go_wp2;rw[HX.out]
   exact sN2 H 0 13 results88
  | true =>
   rw[hr] at C1;refine C1.mono ?_;rintro e2 w2 ⟨rfl,hb2⟩;replace H:=Hd (H.below hb2);have HRT:=Hd hr;clear hb2 hr C1 t0 t1 HT;have hn4:n≤4:=by have:=(a3c HRT).1;have:=HSL.out;omega
   obtain⟨t0,t1⟩:=H.z2 1 rfl;have C2:=c0p (c:=ca) n (H.oldInts 4 rfl) hn4
   go_wp2_with fail
   refine C2.mono ?_;rintro e3 w3 ⟨⟨b3,rfl,hb⟩,q,rfl⟩;have HB:=Hd hb;replace H:=Hd (H.drewN q);clear hb C2 t0 t1;generalize w2.drewN q=w3 at *
   cases b3
   case false =>
    have HX:=Hd (c5c HH HRT (fun hc=>by have:=HB.out.2 (by rwa [HSL.out] at hc);cases this));obtain⟨r0,r1,fr0,fr1⟩:=H.b2 0;go_wp2;rw[HX.out];exact sN2 H 0 1 results88
   case true =>
    have HRI:=Hd (show a8v a s.length by rw[HSL.out];exact HB.out.1 rfl);clear HB;replace H:=Hd (H.addNil 3);obtain⟨t0,t1⟩:=H.z2 2 rfl
    go_wp2_with fail
    clear t0 t1
    go_loopw [34,8] (fun kv vs wr=>∃(j:Nat) (vx:Value),vx=vs∧kv=.int .i64 j∧j≤n∧Sep w wr [.own 3 vx (rest a (s.take j)).length (rest a (s.take j)),.box (w.heap.size+1) 89 [.slice none 0 0,.slice none 0 0],.box w.heap.size 89 [.slice A n c,.slice B m e],.ints A n s,.ints B m d,.ints Aa na a]) (fun kv _ _=>n-(intOf kv).toNat)
    case atStart=>exact⟨0,_,rfl,rfl,by omega,H⟩
    case round =>
     clear H;obtain⟨j,vx,rfl,rfl,hj,hS⟩:=hrel;have H:=Hd hS;clear hS;by_cases hlt:j<n
     ·obtain⟨sa,y,hsA,_,hy,hcy,hfy⟩:=(H.oldInts 3 rfl).at_ (k:=j) hlt;subst hsA;have HT:=Hd (b9d (axes:=a) hy);have HFY:=Hd hfy;have hrl:=a4t a (s.take j) 0;rw[List.length_take] at hrl;clear hy hfy;obtain⟨t0,t1⟩:=H.z2 2 rfl;have C3:=b8z (c:=ca) (j:Int) (H.oldInts 5 rfl)
      go_wp2_with fail
      by_cases hm:(j:Int)∈a
      ·rw[decide_eq_true hm] at C3;refine C3.mono ?_;rintro e4 w4 ⟨rfl,rfl⟩;have HQ:=Hd (HT.trans (by rw[iP hm,List.append_nil]));clear hm C3 hcy t0 t1;go_wp2;go_roundw
       case rel=>exact⟨j+1,_,rfl,by go_num,by omega,by rw[HQ.out];exact H⟩
       case measure=>simp[intOf];omega
      ·rw[decide_eq_false hm] at C3;refine C3.mono ?_;rintro e4 w4 ⟨rfl,rfl⟩;have HQ:=Hd (HT.trans (by rw[iN hm]));clear hm C3
       go_wp2_with (at_builtin;refine a0o rfl (.tmp 41) (.tmp 47) 25 3 rfl underlying25 Tryz.infoInt H.out 0 rfl rfl y HFY.out _ rfl ?c1 ?_)
       case c1=>exact Nat.le_trans hrl (by omega)
       intro v' w' h';have H8:=Hd h';clear h' hcy t0 t1;go_wp2;go_roundw
       case rel=>exact⟨j+1,_,rfl,by go_num,by omega,by rw[HQ.out,List.length_append,List.length_singleton];exact H8⟩
       case measure=>simp[intOf];omega
     ·have hjn:n=j:=by omega
      subst hjn;have hS:=H.out;rw[List.take_of_length_le (by have:=HSL.out;omega)] at hS;obtain⟨Z,hZ⟩:∃ Z,rest a s=Z:=⟨_,rfl⟩;obtain⟨nz,hnz⟩:∃ nz,Z.length=nz:=⟨_,rfl⟩;rw[hZ,hnz] at hS;have HZ:=Hd hZ;have HNZ:=Hd hnz;have hnz4:nz≤n:=by rw[←hnz,←hZ];have:=a4t a s 0;have h2:=HSL.out;unfold rest;omega
      obtain⟨Az,cz,hv,hcz,_,_⟩:=(hS.ownS 0 rfl).form;subst hv;replace H:=Hd hS;clear hS hZ hnz;have C2:=a0r (c:=cz) ((H.ownInts 0 rfl).2.2)
      go_wp2_with fail
      cases ho:Sh.right Z with
      | false =>
       rw[ho] at C2;refine C2.mono ?_;rintro e5 w5 ⟨rfl,rfl⟩;have HX:=Hd (b5i HH HRT HRI (by rw[HZ.out];exact ho));obtain⟨r0,r1,fr0,fr1⟩:=H.b2 1;clear ho C2;go_wp2;rw[HX.out]
       exact sN2 H 1 13 results88
      | true =>
       rw[ho] at C2;refine C2.mono ?_;rintro e5 w5 ⟨rfl,rfl⟩;have HRO:=Hd ho;have HRZ:=Hd (show Sh.right (rest a s)=true by rw[HZ.out];exact ho);clear ho C2;have CN:=b5u how wr
       go_wp2_with fail
       refine CN.mono ?_;rintro e6 w6 ⟨rfl,rfl⟩;clear CN
       go_wp2_with fail
       refine(a1t (a9o how) ((H.ownInts 0 rfl).2.2) (by omega) (b1h how)).mono ?_;rintro e4 w4 ⟨⟨u,rfl,hu⟩,hb4⟩;obtain⟨S1,ns,sc,D1,N,dc,rfl,hs1,hd1,hsc,hdc,hNle,h5⟩:=H.addTen hb4 hu;rw[List.length_replicate] at hd1;rw[hd1] at h5;have HN:=Hd hd1;have HQ:=Hd (d0s HH HRT HRI HRZ);have h6:=h5.allocBox w4.heap.size 89 [.slice S1 ns sc,.slice D1 N dc] rfl;clear hu hb4 h5 hd1 hs1
       go_upto_region 17 with fail
       generalize w4.alloc (.cells #[.slice S1 ns sc,.slice D1 N dc] 89)=w5 at *;generalize w4.heap.size=gt at *;replace H:=Hd h6;clear h6;obtain⟨t0,t1⟩:=H.z2 5 rfl
       go_wp2_with fail
       clear t0 t1
       go_loopw [61] (fun kv wr=>∃ i:Nat,kv=.int .i64 i∧i≤m∧Sep w wr [.box gt 89 [.slice S1 ns sc,.slice D1 N dc],.own 3 (.slice S1 ns sc) ns Z,.own 2 (.slice D1 N dc) N (a5k how s d a i),.own 3 (.slice Az nz cz) nz Z,.box (w.heap.size+1) 89 [.slice none 0 0,.slice none 0 0],.box w.heap.size 89 [.slice A n c,.slice B m e],.ints A n s,.ints B m d,.ints Aa na a]) (fun kv _=>m-(intOf kv).toNat)
       case atStart=>exact⟨0,rfl,by omega,by rw[b2h,HZ.out,HN.out];exact H⟩
       case round =>
        clear H;obtain⟨i,rfl,hile,hS⟩:=hrel;have H:=Hd hS;clear hS;by_cases hli:i<m
        ·have hiz:(i:Int)<Sh.size s:=by have:=a2i HRT;have:=HDL.out;omega
         obtain⟨t0,t1⟩:=H.z2 5 rfl
         go_wp2_with fail
         refine(a3l i (H.oldInts 6 rfl) ⟨by omega,by omega⟩).mono ?_;rintro e7 w7 ⟨⟨v,n7,rfl,hO⟩,hb7⟩;obtain⟨A7,c7,rfl,hc7,_,_⟩:=hO.form;obtain⟨_,hpl,_,_⟩:=a1q hiz;have hp7:n=n7:=by have:=hO.len;have:=HSL.out;omega
         replace H:=Hd ((H.addOwn hb7 hO).addNil 3);obtain⟨P,hP⟩:∃ P,Sh.placeOf s i=P:=⟨_,rfl⟩;rw[hP] at H hpl;have HP:=Hd hP;have HPL:=Hd (show P.length=n by have:=HSL.out;omega);subst hp7;clear hb7 hO hP hpl hc7 t0 t1
         go_wp2_with fail
         go_loopw [69,12] (fun kv vs wr=>∃(k:Nat) (vx:Value),vx=vs∧kv=.int .i64 k∧k≤n∧Sep w wr [.own 3 vx (rest a (P.take k)).length (rest a (P.take k)),.own 3 (.slice A7 n c7) n P,.box gt 89 [.slice S1 ns sc,.slice D1 N dc],.own 3 (.slice S1 ns sc) ns Z,.own 2 (.slice D1 N dc) N (a5k how s d a i),.own 3 (.slice Az nz cz) nz Z,.box (w.heap.size+1) 89 [.slice none 0 0,.slice none 0 0],.box w.heap.size 89 [.slice A n c,.slice B m e],.ints A n s,.ints B m d,.ints Aa na a]) (fun kv _ _=>n-(intOf kv).toNat)
         case atStart=>exact⟨0,_,rfl,rfl,by omega,H⟩
         case round =>
          clear H;obtain⟨k,vx,rfl,rfl,hk,hS⟩:=hrel;have H:=Hd hS;clear hS;by_cases hlk:k<n
          ·obtain⟨pa,y,hpA,_,hy,hcy,hfy⟩:=((H.ownInts 1 rfl).2.2).at_ (k:=k) hlk;subst hpA;have HT:=Hd (b9d (axes:=a) hy);have HFY:=Hd hfy;have hrl:=a4t a (P.take k) 0;rw[List.length_take] at hrl;clear hy hfy;have C3:=b8z (c:=ca) (k:Int) (H.oldInts 10 rfl)
           go_wp2_with fail
           by_cases hm:(k:Int)∈a
           ·rw[decide_eq_true hm] at C3;refine C3.mono ?_;rintro e8 w8 ⟨rfl,rfl⟩;have HQ2:=Hd (HT.trans (by rw[iP hm,List.append_nil]));clear hm C3 hcy;go_wp2;go_roundw
            case rel=>exact⟨k+1,_,rfl,by go_num,by omega,by rw[HQ2.out];exact H⟩
            case measure=>simp[intOf];omega
           ·rw[decide_eq_false hm] at C3;refine C3.mono ?_;rintro e8 w8 ⟨rfl,rfl⟩;have HQ2:=Hd (HT.trans (by rw[iN hm]));clear hm C3
            go_wp2_with (at_builtin;refine a0o rfl (.tmp 78) (.tmp 80) 25 3 rfl underlying25 Tryz.infoInt H.out 0 rfl rfl y HFY.out _ rfl ?c1 ?_)
            case c1=>exact Nat.le_trans hrl (by omega)
            intro v' w' h';have H8:=Hd h';clear h' hcy;go_wp2;go_roundw
            case rel=>exact⟨k+1,_,rfl,by go_num,by omega,by rw[HQ2.out,List.length_append,List.length_singleton];exact H8⟩
            case measure=>simp[intOf];omega
          ·have hkn:n=k:=by omega
           subst hkn;have hS:=H.out;rw[List.take_of_length_le (by have:=HPL.out;omega)] at hS;have hfw:=c8h HRZ hiz;rw[HP.out,HZ.out] at hfw;obtain⟨hw1,hw2,hw3,hw4⟩:=hfw;obtain⟨Q,hQ⟩:∃ Q,rest a P=Q:=⟨_,rfl⟩;have hql:Q.length=nz:=by rw[←hQ,hw1];exact HNZ
           rw[hQ,hql] at hS;rw[hQ] at hw1 hw2 hw3;obtain⟨Aq,cq,hv,_,_,_⟩:=(hS.ownS 0 rfl).form;subst hv;replace H:=Hd hS;clear hS hQ hql;obtain⟨K,hK⟩:∃ K,b7g s a i=K:=⟨_,rfl⟩;rw[hK] at hw3 hw4;have hKN:K < N:=by have:=HN.out;omega
           have HK:=Hd hK;have CI:=a7t (c:=cz) (d:=cq) ((H.ownInts 5 rfl).2.2) ((H.ownInts 0 rfl).2.2);rw[←hw3] at CI;clear hK hw1 hw2 hw3 hw4
           go_wp2_with fail
           refine CI.mono ?_;rintro e8 w8 ⟨rfl,q8,rfl⟩;replace H:=Hd (H.drewN q8);clear CI;generalize wr.drewN q8=w8 at *;obtain⟨gb,cb,hv,hO⟩:=(H.ownS 4 rfl).own (by omega);injection hv with hv1 _ hv3
           subst hv1;subst hv3;obtain⟨bd,X,hBA,_,hX,hcX,hfX⟩:=(H.oldInts 9 rfl).at_ (k:=i) hli;subst hBA;obtain⟨z,hz⟩:=a0h (l:=a5k how s d a i) (k:=K) (by rw[c2v,HZ.out];have:=HN.out;omega);have hfz:Fits z:=b7h HFD i z (mG hz);have HST:=Hd (show(a5k how s d a i).set K (putF how z X)=a5k how s d a (i+1) by rw[c8f hX,b4i,HK.out,gD,hz];rfl);have hcz:=hO.cell hz;have hff:=hO.frozen K;have h9:=H.store 4 K (x:=putF how z X) (b3l how hfz hfX) rfl;rw[HST.out] at h9;have HS9:=Hd h9.drew;obtain⟨o0,o1⟩:=H.z2 2 rfl;obtain⟨t0,t1⟩:=H.z2 7 rfl;have CP:=fun w=>b2o how z X w
           clear h9 hO hz hfz hX hfX
           go_upto_region 28 with fail
           have hcz1:w8.drew.cell? ⟨gb,K,none⟩=some (.int .i64 z):=hcz;have hcX1:w8.drew.cell? (bd.add i)=some (.int .i64 X):=hcX;have hff1:w8.drew.frozen? ⟨gb,K,none⟩=false:=hff;refine wp_region_still_tail 16 (by kernel_rfl) (by kernel_rfl) ?_;simp only[List.take_succ_cons,List.take_zero,List.drop_succ_cons,List.drop_zero]
           repeat still_step
           still_call ((CP _).mono fun _ _ ⟨h,g⟩=>⟨h,g.symm⟩)
           repeat still_step
           refine wpStill_nil ?_;change wpList _ _ _ _ _ w8.drew;clear o0 o1 t0 t1;go_wp2;go_roundw
           case rel=>exact⟨i+1,by go_num,by omega,HS9.sub [2,3,4,5,6,7,8,9,10] rfl (by decide)⟩
           case measure=>simp[intOf];omega
        ·have him:m=i:=by omega
         subst him;have HQ3:=Hd (show a8w how s d a=(0,Z,a5k how s d a m) by rw[HQ.out,HZ.out,e4w,HDL.out]);obtain⟨o0,o1⟩:=H.z2 0 rfl;obtain⟨r0,r1,fr0,fr1⟩:=H.b2 4;go_wp2;rw[HQ3.out];exact sY2 ((H.setBox 4 0 (.slice S1 ns sc) rfl).setBox 4 1 (.slice D1 N dc) rfl) 4 1 2 (.int .i64 0) results88
def dotS (a b:List Int) (n:Nat):List Int:=a.take (a.length-1)++b.drop (n+1)
def a6d (a b:List Int) (n:Nat):Bool:=Sh.right a&&Sh.right b&&decide (a.take n=b.take n)&&decide (a.getD (a.length-1) 0=b.getD n 0)
def dsOk (a b:List Int) (n:Int):Bool:=decide (0≤n)&&decide (n<a.length)&&decide (n<b.length)
def dsR (a b:List Int) (n:Int):Int × List Int :=
 if dsOk a b n then(if a6d a b n.toNat then(if Sh.right (dotS a b n.toNat) then(0,dotS a b n.toNat) else(13,[])) else(13,[])) else(1,[])
theorem b6g {n:Int}:dsOk a b n=true↔0≤n∧n<a.length∧n<b.length:=by simp[dsOk,and_assoc]
theorem b2g {n:Int}(h:¬(0≤n∧n<a.length∧n<b.length)):dsR a b n=(1,[]):=by
 rw[dsR,iN (by rw[b6g];exact h)]
theorem a5j (h:n<a.length∧n<b.length)(g:a6d a b n=false):dsR a b n=(13,[]):=by
 rw[dsR,iP (b6g.2 ⟨by omega,by omega,by omega⟩),Int.toNat_natCast,g];rfl
theorem b4g (h:n<a.length∧n<b.length)(g:a6d a b n=true)(f:Sh.right (dotS a b n)=false):dsR a b n=(13,[]):=by
 rw[dsR,iP (b6g.2 ⟨by omega,by omega,by omega⟩),Int.toNat_natCast,iP g,f];rfl
theorem d0o (h:n<a.length∧n<b.length)(g:a6d a b n=true)(f:Sh.right (dotS a b n)=true):dsR a b n=(0,dotS a b n):=by
 rw[dsR,iP (b6g.2 ⟨by omega,by omega,by omega⟩),Int.toNat_natCast,iP g,iP f]
structure c4o (a b:List Int) (n:Nat):Prop where
 la:n<a.length
 lb:n<b.length
 ra:Sh.right a=true
 rb:Sh.right b=true
 pre:a.take n=b.take n
 mid:a.getD (a.length-1) 0=b.getD n 0
 rs:Sh.right (dotS a b n)=true
theorem b0z:a6d a b n=true↔Sh.right a=true∧Sh.right b=true∧a.take n=b.take n∧a.getD (a.length-1) 0=b.getD n 0:=by
 simp[a6d,and_assoc]
theorem c2s {n:Int}(h:(dsR a b n).1=0):∃ k:Nat,n=k∧c4o a b k∧dsR a b n=(0,dotS a b k):=by
 by_cases h0:0≤n∧n<a.length∧n<b.length
 ·obtain⟨k,rfl⟩:=eZ h0.1;have hk:k<a.length∧k<b.length:=⟨by omega,by omega⟩
  cases g:a6d a b k with
  | false=>rw[a5j hk g] at h;cases h
  | true =>
   cases f:Sh.right (dotS a b k) with
   | false=>rw[b4g hk g f] at h;cases h
   | true =>
    obtain⟨h1,h2,h3,h4⟩:=b0z.1 g;exact⟨k,rfl,⟨hk.1,hk.2,h1,h2,h3,h4,f⟩,d0o hk g f⟩
 ·rw[b2g h0] at h;cases h
theorem e6g (h:c4o a b n):dsR a b n=(0,dotS a b n):=d0o ⟨h.la,h.lb⟩ (b0z.2 ⟨h.ra,h.rb,h.pre,h.mid⟩) h.rs
def dotB (t:List Int) (n:Nat):Nat:=(Sh.pd (t.drop (n+1))).toNat
def dotA (s:List Int) (n:Nat):Nat:=(Sh.pd ((s.drop n).take (s.length-1-n))).toNat
def dotM (t:List Int) (n:Nat):Nat:=(t.getD n 0).toNat
def dotT (d k:List Int) (A B M i j:Nat):Int:=wrap64 (d.getD (i / B*M+j) 0*k.getD ((i / (A*B)*M+j)*B+i % B) 0)
def e3q (d k:List Int) (A B M i:Nat):Nat→Int
 | 0=>0
 | J+1=>wrap64 (e3q d k A B M i J+dotT d k A B M i J)
def dotV (s d t k:List Int) (n i J:Nat):Int:=e3q d k (dotA s n) (dotB t n) (dotM t n) i J
def dotD (s d t k:List Int) (n:Nat):List Int:=gen (Sh.size (dotS s t n)).toNat fun i=>dotV s d t k n i (dotM t n)
def dotR (s d t k:List Int) (n:Int):Int × List Int × List Int :=
 if a0b s d&&a0b t k then(if (dsR s t n).1=0 then(0,(dsR s t n).2,dotD s d t k n.toNat) else refused (dsR s t n).1) else refused 13
theorem c0w {n:Int}(h:(a0b s d&&a0b t k)=false):dotR s d t k n=refused 13:=by rw[dotR,h];rfl
theorem c0x {n:Int}(h:(a0b s d&&a0b t k)=true)(g:(dsR s t n).1≠0):dotR s d t k n=refused (dsR s t n).1:=by rw[dotR,iP h,iN g]
theorem d5h (h:(a0b s d&&a0b t k)=true)(g:c4o s t n):dotR s d t k n=(0,dotS s t n,dotD s d t k n):=by
 rw[dotR,iP h,e6g g,iP rfl,Int.toNat_natCast]
theorem c8c (s d t k:List Int)(n:Nat):(dotD s d t k n).length=(Sh.size (dotS s t n)).toNat:=a5u _ _
theorem a7s (a b:List Int)(ha:∀ x∈a,0≤x)(hb:0≤Sh.pd b)(i:Int):Sh.place (a++b) i=Sh.place a (i / Sh.pd b)++Sh.place b i:=by
 induction a with
 | nil=>rfl
 | cons x a ih =>
  rw[List.cons_append,Sh.place,Sh.place,List.cons_append,ih (fun y hy=>ha y (by simp[hy])),Sh.pd_append,Int.mul_comm (Sh.pd a),←Int.ediv_ediv_of_nonneg hb]
theorem b1e:∀(a b p q:List Int),p.length=a.length→Sh.lin (a++b) (p++q)=Sh.lin a p*Sh.pd b+Sh.lin b q
 | [],b,[],q,_=>by simp[Sh.lin]
 | [],b,_::_,q,h=>by simp at h
 | x::a,b,[],q,h=>by simp at h
 | x::a,b,y::p,q,h=>by
  rw[List.cons_append,List.cons_append,Sh.lin,Sh.lin,b1e a b p q (by simpa using h),Sh.pd_append,Int.add_mul,Int.mul_assoc];omega
theorem a6r {p q:List Int}(hl:p.length=a.length)(h:Sh.within a p=true)(g:Sh.within b q=true):Sh.within (a++b) (p++q)=true:=by
 rw[Sh.within_iff] at *;rw[List.zip_append hl.symm];intro x hx;rcases List.mem_append.1 hx with hx|hx
 ·exact h x hx
 ·exact g x hx
theorem c5a (h:c4o s t n):∃(hd u v:List Int) (m:Int),hd.length=n∧s=hd++u++[m]∧t=hd++m::v∧dotS s t n=hd++u++v∧u.length=s.length-1-n∧dotA s n=(Sh.pd u).toNat∧dotB t n=(Sh.pd v).toNat∧dotM t n=m.toNat:=by
 have hla:=h.la;have hlb:=h.lb
 have e1:s.take (s.length-1)++[s.getD (s.length-1) 0]=s:=by
  have:=List.take_append_drop (s.length-1) s;rw[List.drop_eq_getElem_cons (by omega),show s.length-1+1=s.length by omega,List.drop_length] at this;rw[gD,List.getElem?_eq_getElem (by omega)];exact this
 have e2:t.take n++t.getD n 0::t.drop (n+1)=t:=by
  have:=List.take_append_drop n t;rw[List.drop_eq_getElem_cons (by omega)] at this;rw[gD,List.getElem?_eq_getElem (by omega)];exact this
 have e3:s.take n++(s.drop n).take (s.length-1-n)=s.take (s.length-1):=by
  have:=List.take_append_drop n (s.take (s.length-1));rw[List.take_take,List.drop_take,show min n (s.length-1)=n by omega] at this;exact this
 refine⟨s.take n,(s.drop n).take (s.length-1-n),t.drop (n+1),t.getD n 0,by simp;omega,?_,?_,?_,by simp;omega,rfl,rfl,rfl⟩
 ·rw[e3,←h.mid];exact e1.symm
 ·rw[h.pre];exact e2.symm
 ·rw[e3];rfl
theorem e6t (m:Int):Sh.pd [m]=m:=by simp[Sh.pd]
theorem d5k (h:c4o s t n)(hi:(i:Int)<Sh.size (dotS s t n))(hj:j<dotM t n):
  ((Sh.placeOf (dotS s t n) i).take (s.length-1)++[(j:Int)]).length=s.length∧Sh.within s ((Sh.placeOf (dotS s t n) i).take (s.length-1)++[(j:Int)])=true ∧
  Sh.index s ((Sh.placeOf (dotS s t n) i).take (s.length-1)++[(j:Int)])=((i / dotB t n*dotM t n+j:Nat):Int):=by
 obtain⟨hd,u,v,m,hn,es,et,eS,hul,eA,eB,eM⟩:=c5a h;have hp:∀ x∈hd++u++v,1≤x∧x≤32:=by rw[←eS];exact(Sh.size_pos (by omega) hi).2
 have hw:=Sh.within_place hp i;have hpv:0<Sh.pd v:=d1q fun x hx=>(hp x (by simp[hx])).1
 have hm:0≤m:=by
  have:=(Sh.right_iff.1 h.ra).2.1 m (by rw[es];simp);exact this.1
 have hsl:(hd++u).length=s.length-1:=by rw[es];simp
 have e1:Sh.placeOf (dotS s t n) i=Sh.place (hd++u) (i / Sh.pd v)++Sh.place v i:=by
  rw[(a1q hi).1,eS];exact a7s _ _ (fun x hx=>by have:=hp x (List.mem_append.2 (.inl hx));omega) (by omega) _
 have e2:(Sh.placeOf (dotS s t n) i).take (s.length-1)=Sh.place (hd++u) (i / Sh.pd v):=by
  rw[e1,←hsl,List.take_append_of_le_length (by rw[Sh.place_length];omega),List.take_of_length_le (by rw[Sh.place_length];omega)]
 have hl:(Sh.place (hd++u) (i / Sh.pd v)++[(j:Int)]).length=s.length:=by
  rw[List.length_append,Sh.place_length,hsl,List.length_singleton];have:=h.la;omega
 have hwi:Sh.within s (Sh.place (hd++u) (i / Sh.pd v)++[(j:Int)])=true:=by
  rw[es];refine a6r (Sh.place_length _ _) (Sh.within_place (fun x hx=>hp x (List.mem_append.2 (.inl hx))) _) ?_;rw[Sh.within_iff];intro x hx;simp at hx;subst hx;exact⟨by simp,by rw[eM] at hj;simp;omega⟩
 rw[e2];refine⟨hl,hwi,?_⟩;rw[Sh.index_of h.ra hl hwi,Sh.hor_lin hl,es,b1e _ _ _ _ (Sh.place_length _ _),e6t,Sh.lin_place _ (fun x hx=>by have:=hp x (List.mem_append.2 (.inl hx));omega)]
 have hlt:(i:Int) / Sh.pd v<Sh.pd (hd++u):=by
  have:=hi;rw[Sh.size_of h.rs,Sh.pr_pd,eS,Sh.pd_append] at this;exact Int.ediv_lt_of_lt_mul hpv this
 rw[Int.emod_eq_of_lt (Int.ediv_nonneg (by omega) (by omega)) hlt];simp only[Sh.lin,Sh.pd,Int.mul_one,Int.add_zero];rw[eB,eM];obtain⟨V,hV⟩:=eZ (show 0≤Sh.pd v by omega);obtain⟨M,hM⟩:=eZ hm;rw[hV,hM]
 push_cast
 simp
theorem d5j (h:c4o s t n)(hi:(i:Int)<Sh.size (dotS s t n))(hj:j<dotM t n):
  ((Sh.placeOf (dotS s t n) i).take n++[(j:Int)]++(Sh.placeOf (dotS s t n) i).drop (s.length-1)).length=t.length∧Sh.within t ((Sh.placeOf (dotS s t n) i).take n++[(j:Int)]++(Sh.placeOf (dotS s t n) i).drop (s.length-1))=true ∧
  Sh.index t ((Sh.placeOf (dotS s t n) i).take n++[(j:Int)]++(Sh.placeOf (dotS s t n) i).drop (s.length-1))=(((i / (dotA s n*dotB t n)*dotM t n+j)*dotB t n+i % dotB t n:Nat):Int):=by
 obtain⟨hd,u,v,m,hn,es,et,eS,hul,eA,eB,eM⟩:=c5a h;have hp:∀ x∈hd++u++v,1≤x∧x≤32:=by rw[←eS];exact(Sh.size_pos (by omega) hi).2
 have hpv:0<Sh.pd v:=d1q fun x hx=>(hp x (by simp[hx])).1
 have hpu:0<Sh.pd u:=d1q fun x hx=>(hp x (by simp[hx])).1
 have hm:0≤m:=((Sh.right_iff.1 h.ra).2.1 m (by rw[es];simp)).1;have hsl:(hd++u).length=s.length-1:=by rw[es];simp
 have e1:Sh.placeOf (dotS s t n) i=Sh.place hd (i / (Sh.pd u*Sh.pd v))++(Sh.place u (i / Sh.pd v)++Sh.place v i):=by
  rw[(a1q hi).1,eS,List.append_assoc,a7s hd (u++v) (fun x hx=>by have:=hp x (by simp[hx]);omega) (by rw[Sh.pd_append];exact Int.mul_nonneg (by omega) (by omega)),
   a7s u v (fun x hx=>by have:=hp x (by simp[hx]);omega) (by omega),Sh.pd_append]
 have e2:(Sh.placeOf (dotS s t n) i).take n=Sh.place hd (i / (Sh.pd u*Sh.pd v)):=by
  rw[e1,List.take_append_of_le_length (by rw[Sh.place_length];omega),List.take_of_length_le (by rw[Sh.place_length];omega)]
 have e3:(Sh.placeOf (dotS s t n) i).drop (s.length-1)=Sh.place v i:=by
  rw[e1,←List.append_assoc,←hsl,List.drop_append_of_le_length (by simp[Sh.place_length]),List.drop_of_length_le (by simp[Sh.place_length])];rfl
 have hl:(Sh.place hd (i / (Sh.pd u*Sh.pd v))++[(j:Int)]++Sh.place v i).length=t.length:=by
  rw[et];simp[Sh.place_length]
 have hwi:Sh.within t (Sh.place hd (i / (Sh.pd u*Sh.pd v))++[(j:Int)]++Sh.place v i)=true:=by
  rw[et,List.append_assoc];refine a6r (Sh.place_length _ _) (Sh.within_place (fun x hx=>hp x (by simp[hx])) _) ?_;refine a6r (a:=[m]) (p:=[(j:Int)]) rfl ?_ (Sh.within_place (fun x hx=>hp x (by simp[hx])) _);rw[Sh.within_iff];intro x hx;simp at hx;subst hx;exact⟨by simp,by rw[eM] at hj;simp;omega⟩
 rw[e2,e3];refine⟨hl,hwi,?_⟩
 have el:Sh.lin t (Sh.place hd (i / (Sh.pd u*Sh.pd v))++[(j:Int)]++Sh.place v i)=Sh.lin hd (Sh.place hd (i / (Sh.pd u*Sh.pd v)))*(m*Sh.pd v)+(j*Sh.pd v+Sh.lin v (Sh.place v i)):=by
  rw[et,List.append_assoc,b1e _ _ _ _ (Sh.place_length _ _)];rfl
 rw[Sh.index_of h.rb hl hwi,Sh.hor_lin hl,el,Sh.lin_place _ (fun x hx=>by have:=hp x (by simp[hx]);omega),Sh.lin_place _ (fun x hx=>by have:=hp x (by simp[hx]);omega)]
 have hlt:(i:Int) / (Sh.pd u*Sh.pd v)<Sh.pd hd:=by
  have:=hi;rw[Sh.size_of h.rs,Sh.pr_pd,eS,List.append_assoc,Sh.pd_append,Sh.pd_append] at this;exact Int.ediv_lt_of_lt_mul (Int.mul_pos hpu hpv) this
 rw[Int.emod_eq_of_lt (Int.ediv_nonneg (by omega) (Int.le_of_lt (Int.mul_pos hpu hpv))) hlt];rw[eA,eB,eM];obtain⟨V,hV⟩:=eZ (show 0≤Sh.pd v by omega);obtain⟨U,hU⟩:=eZ (show 0≤Sh.pd u by omega);obtain⟨M,hM⟩:=eZ hm;rw[hV,hU,hM];simp only[Int.toNat_natCast]
 push_cast
 rw[Int.add_mul,Int.mul_assoc];omega
theorem e0d (h:c4o s t n)(hi:(i:Int)<Sh.size (dotS s t n))(hj:j<dotM t n):
  wrap64 (num s d ((Sh.placeOf (dotS s t n) i).take (s.length-1)++[(j:Int)])*num t k ((Sh.placeOf (dotS s t n) i).take n++[(j:Int)]++(Sh.placeOf (dotS s t n) i).drop (s.length-1)))=dotT d k (dotA s n) (dotB t n) (dotM t n) i j:=by
 obtain⟨_,_,h1⟩:=d5k h hi hj;obtain⟨_,_,h2⟩:=d5j h hi hj;rw[num,num,h1,h2,dotT];simp only[Int.toNat_natCast]
theorem d5i (h:c4o s t n)(hi:(i:Int)<Sh.size (dotS s t n))(hj:j<dotM t n):
  wrap64 (dotV s d t k n i j+wrap64 (num s d ((Sh.placeOf (dotS s t n) i).take (s.length-1)++[(j:Int)])*num t k ((Sh.placeOf (dotS s t n) i).take n++[(j:Int)]++(Sh.placeOf (dotS s t n) i).drop (s.length-1))))=dotV s d t k n i (j+1):=by
 rw[e0d h hi hj];rfl
end Go.Proofs.YtdcmanhgekjhgaaGreatDoor
