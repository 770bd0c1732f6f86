import Derived.Test.YtjblengklgkgfaaGreatPbn
set_option maxRecDepth 100000
set_option maxHeartbeats 12800000
namespace Go.Proofs.YtjblengklgkgfaaGreat
open Go.RowKit Go.Proofs.Tryz
variable {At B:Option Addr} {G:a3n} {L P:TL} {LS:List (List Int)} {cm ct m nt:Nat} {ks:List Int} {v:Value} {w:World}
def d4s (LS:List (List Int)) (P:TL) (ks:List Int):Prop:=P.length=ks.length∧∀(i:Nat) (k:Int) (t:List Int × List Int),ks[i]?=some k→P[i]?=some t→a0a t.1 t.2=true∧t.1=LS.getD k.toNat []
theorem c9v (nm:List Int):∀(N:List a0s) (acc L:List (List Int)) (k:Nat) (nd:a0s),a0i nm acc N=(0,L)→N[k]?=some nd→nd.op=1→L[acc.length+k]?=some nd.shape
 | [],_,_,k,nd,_,hn,_=>by simp at hn
 | n1::N,acc,L,k,nd,h,hn,ho=>by
  obtain⟨_,g2,g3⟩:=b3l h
  cases k with
  | zero =>
   rw[List.getElem?_cons_zero] at hn;injection hn with hn;subst hn
   have hs:=b2r ho g2;rw[hs] at g3
   have hk:∀(N:List a0s) (acc L:List (List Int)),a0i nm acc N=(0,L)→∀(i:Nat) (s:List Int),acc[i]?=some s→L[i]?=some s:=by
    intro N
    induction N with
    | nil=>intro acc L h i s hi;rw[a0i] at h;injection h with _ h;rw[←h];exact hi
    | cons n N ih =>
     intro acc L h i s hi;refine ih _ _ (b3l h).2.2 i s ?_;rw[List.getElem?_append_left (lL hi)];exact hi
   refine hk _ _ _ g3 _ _ ?_
   rw[Nat.add_zero,List.getElem?_append_right (Nat.le_refl _),Nat.sub_self];rfl
  | succ k =>
   rw[List.getElem?_cons_succ] at hn;have:=c9v nm N _ L k nd g3 hn ho;rw[List.length_append,List.length_singleton] at this;rw[show acc.length+(k+1)=acc.length+1+k by omega];exact this
theorem d5w {nm:List Int}{N:List a0s}(h:a0i nm [] N=(0,LS)):d4s LS P (parF 0 N)↔FitP N P:=by
 have hx:∀(i:Nat) (k:Int),(parF 0 N)[i]?=some k→a4z N k=LS.getD k.toNat []:=fun i k hk=>by
  obtain⟨nd,hn,ho⟩:=c8f N 0 k (mG hk);have h1:=c9v nm N [] LS _ nd h hn ho;rw[List.length_nil,Nat.zero_add] at h1;have h2:N[k.toNat]?=some nd:=by simpa using hn
  have h1:LS[k.toNat]?=some nd.shape:=by simpa using h1
  rw[a4z,gD,List.getElem?_map,h2,gD,h1];rfl
 constructor
 ·rintro⟨h1,h2⟩;exact⟨h1,fun i k t hk ht _=>by obtain⟨a,b⟩:=h2 i k t hk ht;exact⟨a,by rw[hx i k hk];exact b⟩⟩
 ·rintro⟨h1,h2⟩;exact⟨h1,fun i k t hk ht=>by obtain⟨a,b⟩:=h2 i k t hk ht (lL ht);exact⟨a,by rw[←hx i k hk];exact b⟩⟩
theorem c1l (hT:Tens w At nt L)(hI:Ints w B m ks)(hk:∀(i:Nat) (x:Int),ks[i]?=some x→0≤x∧x<nt)(hm:m≤800):
  Calls prog 38 #[.slice At nt ct,.slice B m cm] w fun e w'=>(∃ A,e=.returned (.slice A m m)∧Tens w' A m (insT L ks))∧Below w.heap.size w w':=by
 have HT:=Hd hT;have HLN:=Hd hT.1;have hnt:=hT.2.1;have HI:=Hd hI;have HIL:=Hd hI.len;have HK:=Hd hk;clear hT hI hk;have hmk:=a9j (l:=m) (c:=m) (Nat.le_refl _) (by omega);have h2:=(Sep.nil w).madeRow 33 2 m m (tRow m) (b0n m) (Nat.le_refl _) (by omega);obtain⟨u0,hu0⟩:∃ u,(tRow m).toList.take (m*2)=u:=⟨_,rfl⟩;have HU0:=Hd (show u0.length=m*2 by rw[←hu0,List.length_take,Array.length_toList,b0n];omega);rw[hu0] at h2;clear hu0
 go_enter func38,ntmps38
 go_upto_region 2 with fail
 generalize w.alloc (.cells (tRow m) 33)=W2 at *;generalize hgr:w.heap.size=gr at *;have HGR:=Hd hgr;have H:=Hd h2;clear h2 hmk hgr
 go_wp2_with fail
 go_loopw [13] (fun iv wr=>∃(q:Nat) (us:List Value),iv=.int .i64 q∧q≤m∧us.length=m*2∧b0f w (us.take (q*2)) (insT L (ks.take q)) []∧Sep w wr [.row 33 2 (.slice (some ⟨gr,0,none⟩) m m) m us]) (fun iv _=>m-(intOf iv).toNat)
 case atStart=>exact⟨0,u0,rfl,by omega,HU0,by rw[Nat.zero_mul,List.take_zero,List.take_zero];exact a9b _ _,H⟩
 case round =>
  clear H;obtain⟨q,us,rfl,hq,hul,hP,hS⟩:=hrel;have H:=Hd hS;have HP:=Hd hP;have HUL:=Hd hul;clear hS hP hul;by_cases hlq:q<m
  ·obtain⟨sa,x,hsA,_,hx,hcx,_⟩:=(H.oldI HI).at_ (k:=q) hlq;subst hsA;have hxi:=HK.out q x hx;obtain⟨xx,rfl⟩:=eZ hxi.1;have hxb:xx<nt:=by omega
   have hxb2:(xx:Int)<nt:=by omega
   obtain⟨t,ht⟩:∃ t,L[xx]?=some t:=gE (by have:=HLN.out;omega);obtain⟨ta,S5,sn5,sc5,D5,dn5,dc5,hta,htb,t0,t1,hTj⟩:=HT.out.2.2 xx t ht;subst hta;have y0:=H.oC t0 (a1i htb);have y1:=H.oC t1 (a1i htb);obtain⟨u70,hu0⟩:∃ u,us[q*2]?=some u:=gE (by have:=HUL.out;omega);obtain⟨u71,hu1⟩:∃ u,us[q*2+1]?=some u:=gE (by have:=HUL.out;omega);have z0:wr.cell? ⟨gr,q*2,none⟩=some u70:=H.cellRow 0 rfl hu0;have z1:wr.cell? ⟨gr,q*2+1,none⟩=some u71:=H.cellRow 0 rfl hu1;have fz0:wr.frozen? ⟨gr,q*2,none⟩=false:=H.frozenRow 0 rfl (q*2);have fz1:wr.frozen? ⟨gr,q*2+1,none⟩=false:=H.frozenRow 0 rfl (q*2+1);have HST:=Hd ((H.setRow 0 rfl (q*2) (.slice S5 sn5 sc5)).setRow 0 rfl (q*2+1) (.slice D5 dn5 dc5))
   have HPN:=Hd (show b0f w (((us.set (q*2) (.slice S5 sn5 sc5)).set (q*2+1) (.slice D5 dn5 dc5)).take ((q+1)*2)) (insT L (ks.take (q+1))) [] by
    rw[show(q+1)*2=q*2+2 by omega,c4k (by have:=HUL.out;omega),b5a hx ht];exact HP.snoc (.inr hTj))
   clear hx ht t0 t1 hTj hxi htb hu0 hu1;go_wp2;go_roundw
   case rel=>exact⟨q+1,_,by go_num,by omega,by rw[List.length_set,List.length_set];exact HUL,HPN,HST⟩
   case measure=>simp[intOf];omega
  ·obtain rfl:q=m:=by omega
   have hP3:=HP.out;rw[List.take_of_length_le (by have:=HUL.out;omega),List.take_of_length_le (by have:=HIL.out;omega)] at hP3;obtain⟨A9,c9,hv,_,hT9⟩:=a6h 0 H rfl hP3 (by rw[insT,List.length_map];exact HIL) (by omega) 1 (fun k=>rfl);injection hv with hv1 hv2 hv3
   subst hv1;clear hv2 hv3;have HT9:=Hd hT9;clear hT9 hP3;go_wp2;go_ret;exact⟨⟨_,rfl,HT9⟩,H.base⟩
theorem d2a {As:Option Addr}{ms cs:Nat}(hT:Tens w At nt P)(hL:Lils w As ms LS)(hI:Ints w B m ks)(hk:∀(i:Nat) (x:Int),ks[i]?=some x→0≤x∧x<ms):
  Calls prog 34 #[.slice At nt ct,.slice As ms cs,.slice B m cm] w fun e w'=>Asks e (d4s LS P ks)∧Below w.heap.size w w':=by
 have HT:=Hd hT;have HPL:=Hd hT.1;have hnt:=hT.2.1;have HLI:=Hd hL;have HLL:=Hd hL.1;have hms:=hL.2.1;have HI:=Hd hI;have HIL:=Hd hI.len;have hml:=hI.le;have HK:=Hd hk;clear hT hL hI hk
 go_enter func34,ntmps34
 by_cases hm:nt=m
 ·subst hm;have dm:((nt:Int) != (nt:Int))=false:=by simp
  go_wp2_with fail
  go_loopw [16] (fun iv wr=>∃ j:Nat,iv=.int .i64 j∧j≤nt∧(∀(i:Nat) (k:Int) (t:List Int × List Int),ks[i]?=some k→P[i]?=some t→i<j→a0a t.1 t.2=true∧t.1=LS.getD k.toNat [])∧Sep w wr []) (fun iv _=>nt-(intOf iv).toNat)
  case atStart=>exact⟨0,rfl,by omega,by omega,Sep.nil _⟩
  case round =>
   obtain⟨j,rfl,hj,hF,hS⟩:=hrel;have H:=Hd hS;have HF:=Hd hF;clear hS hF;by_cases hlt:j<nt
   ·obtain⟨pa,x,hpA,hpb,hx,hcx,_⟩:=(H.oldI HI).at_ (k:=j) hlt;subst hpA;have hxi:=HK.out j x hx;obtain⟨xx,rfl⟩:=eZ hxi.1;have hxb:xx<ms:=by omega
    have hxb2:(xx:Int)<ms:=by omega
    have xc:decide (xx<ms)=true:=by simpa using hxb
    have xj:decide (j<nt)=true:=by simpa using hlt
    obtain⟨s,hs⟩:∃ s,LS[xx]?=some s:=gE (by have:=HLL.out;omega);obtain⟨la,B5,m5,c5,hla,hlb,hcl,hmc,hI5⟩:=HLI.out.2.2 xx s hs;subst hla;obtain⟨t,ht⟩:∃ t,P[j]?=some t:=gE (by have:=HPL.out;omega);obtain⟨ta,S5,sn5,sc5,D5,dn5,dc5,hta,htb,t0,t1,hTj⟩:=HT.out.2.2 j t ht;subst hta;have HTJ:=Hd hTj;have HI5:=Hd hI5;have HXX:=Hd hx;have HTT:=Hd ht;have HSH:=Hd (show LS.getD (xx:Int).toNat []=s by rw[Int.toNat_natCast,gD,hs];rfl);have HTB:=Hd (a1i (k:=j*2) htb);have HLB:=Hd (a1i (k:=xx) hlb);have HL0:=Hd hcl;have HT0:=Hd t0;have HT1:=Hd t1;clear hs hcl hI5 hx ht hTj hxi t0 t1 htb hlb
    go_upto_region 6 with fail
    have HD:=Hd H.drew;clear hcx;have x0:=HD.oC HT0.out HTB.out;have x1:=HD.oC HT1.out HTB.out;have x2:=HD.oC HL0.out HLB.out
    cases hr:a0a t.1 t.2 with
    | false =>
     have HR:=Hd hr;clear hr;refine wp_region_held_drew (S:=(fun w'=>w'.cell? (ta.add (j*2))=some (.slice S5 sn5 sc5)∧w'.cell? ⟨(ta.add (j*2)).block,(ta.add (j*2)).off+1,none⟩=some (.slice D5 dn5 dc5)∧w'.cell? (la.add xx)=some (.slice B5 m5 c5))) (by kernel_rfl) ?_ (fun hq_=>?_)
     ·exact⟨x0,x1,x2⟩
     refine zV 0 hq_ ?_;refine zV 1 hq_ ?_;refine zV 2 hq_ ?_;refine zV 3 hq_ ?_;refine e1 4 fun K hK=>?_
     first|(refine effU ?_ ?_;(focus rfl))|(go_simp;(go_at_call 51;refine(a2q (HD.oldTen HTJ)).mono ?_;rw[HR.out];rintro e7 w7 ⟨rfl,hb7⟩;have HD7:=Hd (HD.below hb7);clear hb7;have y0:=HD7.oC HT0.out HTB.out;have y1:=HD7.oC HT1.out HTB.out;have y2:=HD7.oC HL0.out HLB.out);go_wp2_with fail)
     refine zX hK (fun hq_=>?_) ⟨y0,y1,y2⟩;refine zV 5 hq_ ?_;refine zV 6 hq_ ?_;refine zT 7 hq_ ?_;refine zT 8 hq_ ?_;refine zT 9 hq_ ?_;refine zT 10 hq_ ?_;refine zT 11 hq_ ?_;refine zT 12 hq_ ?_;refine zT 13 hq_ ?_;refine zT 14 hq_ ?_;refine zT 15 hq_ ?_;refine e1 16 fun K hK=>?_
     first|(refine effU ?_ ?_;(focus rfl))|(go_simp;skip;go_wp2_with fail)
     refine zX hK fun hq_=>?_;refine zT 17 hq_ ?_;refine zV 18 hq_ ?_;refine dN ?_;go_wp2;go_ret
     exact⟨a4v (fun h9=>by have h8:=(h9.2 j _ t HXX HTT).1;rw[HR.out] at h8;cases h8),HD7.base⟩
    | true =>
     have HR:=Hd hr;obtain⟨q,hq⟩:∃ q,(t.1==s)=q:=⟨_,rfl⟩;have HQ:=Hd hq;clear hr hq;refine wp_region_held_drew (S:=(fun w'=>w'.cell? (ta.add (j*2))=some (.slice S5 sn5 sc5)∧w'.cell? ⟨(ta.add (j*2)).block,(ta.add (j*2)).off+1,none⟩=some (.slice D5 dn5 dc5)∧w'.cell? (la.add xx)=some (.slice B5 m5 c5))) (by kernel_rfl) ?_ (fun hq_=>?_)
     ·exact⟨x0,x1,x2⟩
     refine zV 0 hq_ ?_;refine zV 1 hq_ ?_;refine zV 2 hq_ ?_;refine zV 3 hq_ ?_;refine e1 4 fun K hK=>?_
     first|(refine effU ?_ ?_;(focus rfl))|(go_simp;(go_at_call 51;refine(a2q (HD.oldTen HTJ)).mono ?_;rw[HR.out];rintro e7 w7 ⟨rfl,hb7⟩;have HD7:=Hd (HD.below hb7);clear hb7;have y0:=HD7.oC HT0.out HTB.out;have y1:=HD7.oC HT1.out HTB.out;have y2:=HD7.oC HL0.out HLB.out);go_wp2_with fail)
     refine zX hK (fun hq_=>?_) ⟨y0,y1,y2⟩;refine zV 5 hq_ ?_;refine zV 6 hq_ ?_;refine zT 7 hq_ ?_;refine zT 8 hq_ ?_;refine zT 9 hq_ ?_;refine zT 10 hq_ ?_;refine zT 11 hq_ ?_;refine zT 12 hq_ ?_;refine zT 13 hq_ ?_;refine zT 14 hq_ ?_;refine zT 15 hq_ ?_;refine e1 16 fun K hK=>?_
     first|(refine effU ?_ ?_;(focus rfl))|(go_simp;(go_at_call 58;refine(a9h (HD7.oldI (a9v HTJ).1) (HD7.oldI HI5)).mono ?_;rw[HQ.out];rintro e8 w8 ⟨rfl,rfl⟩);go_wp2_with fail)
     refine zX hK (fun hq_=>?_) ⟨y0,y1,y2⟩;refine zT 17 hq_ ?_;refine zV 18 hq_ ?_;refine dN ?_
     cases q with
     | false =>
      go_wp2;go_ret
      exact⟨a4v (fun h9=>by have h8:=(h9.2 j _ t HXX HTT).2;rw[HSH.out] at h8;have h7:=HQ.out;rw[h8] at h7;simp at h7),HD7.base⟩
     | true =>
      have heq:t.1=s:=by have h9:=HQ.out;simpa using h9
      have HFN:=Hd (show ∀(i:Nat) (k:Int) (t:List Int × List Int),ks[i]?=some k→P[i]?=some t→i<j+1→a0a t.1 t.2=true∧t.1=LS.getD k.toNat [] from fun i k u hk hu hi=>by
       rcases Nat.lt_or_ge i j with hij|hij
       ·exact HF i k u hk hu hij
       ·obtain rfl:i=j:=by omega
        have h8:=HXX.out;rw[hk] at h8;injection h8 with h8;subst h8
        have h8:=HTT.out;rw[hu] at h8;injection h8 with h8;subst h8
        exact⟨HR,by rw[HSH.out];exact heq⟩)
      clear heq;go_wp2;go_roundw
      case rel=>exact⟨j+1,by go_num,by omega,HFN,HD7⟩
      case measure=>simp[intOf];omega
   ·obtain rfl:j=nt:=by omega
    go_wp2;go_ret;exact⟨b1v ⟨by rw[HPL.out,HIL.out],fun i k t hk ht=>HF.out i k t hk ht (by have:=HPL.out;have:=(lL ht);omega)⟩,H.base⟩
 ·have dm:((nt:Int) != (m:Int))=true:=by simpa using fun e=>hm (by omega)
  have HNO:=Hd (show ¬ d4s LS P ks from fun h9=>hm (by have h8:=h9.1;rw[HPL.out,HIL.out] at h8;exact h8));clear hm;go_wp2;go_ret;exact⟨a4v HNO,Below.refl _ _⟩
theorem c6c {nd:a0s}(h:a4a w v nd)(hT:Tens w At nt L)(hct:nt≤ct:=by omega)(hn:nt≤800:=by omega):
  Calls prog 30 #[v,.slice At nt ct] w (c7x w (b4h nd L)):=by
 have HN:=Hd h;obtain⟨A,na,ca,B,nb,cb,C,nc,cc,rfl,hL⟩:=h;clear hL;have h1:=((Sep.nil w).allocBox w.heap.size 38 [.int .i64 nd.op,.slice A na ca,.slice B nb cb,.slice C nc cc,.int .i64 nd.n,.int .i64 nd.how,.string nd.note] rfl).allocBox (w.heap.size+1) 33 [.slice none 0 0,.slice none 0 0] (by simp);have HLL:=Hd hT.1;have HTE:=Hd hT;clear hT
 go_enter func30,ntmps30
 go_upto_region 1 with fail
 generalize (w.alloc (.cells #[.int .i64 nd.op,.slice A na ca,.slice B nb cb,.slice C nc cc,.int .i64 nd.n,.int .i64 nd.how,.string nd.note] 38)).alloc (.cells #[.slice none 0 0,.slice none 0 0] 33)=W at *;generalize hgn:w.heap.size=gn at *;have HGN:=Hd hgn;have H:=Hd h1;clear h1 hgn;have hmk:=a8k (l:=nt) (c:=nt) (Nat.le_refl _) (by omega);have h2:=H.madeRow 22 1 nt nt (lRow nt) (by rw[b0q,Nat.mul_one]) (Nat.le_refl _) (by omega)
 go_upto_region 2 with fail
 generalize W.alloc (.cells (lRow nt) 22)=W2 at *;generalize hgr:W.heap.size=gr at *;have HGR:=Hd hgr;replace H:=Hd h2;clear h2 hmk hgr;obtain⟨u0,hu0⟩:∃ u,(lRow nt).toList.take (nt*1)=u:=⟨_,rfl⟩;have HU0:=Hd (show u0.length=nt by rw[←hu0,List.length_take,Array.length_toList,b0q];omega);rw[hu0] at H;clear hu0
 go_wp2_with fail
 go_loopw [16] (fun iv wr=>∃(j:Nat) (us:List Value),iv=.int .i64 j∧j≤nt∧us.length=nt∧(∀(i:Nat) (t:List Int × List Int),L[i]?=some t→i<j→a0a t.1 t.2=true)∧LilK w us ((L.take j).map (·.1))∧Sep w wr [.row 22 1 (.slice (some ⟨gr,0,none⟩) nt nt) nt us,.box (gn+1) 33 [.slice none 0 0,.slice none 0 0],.box gn 38 [.int .i64 nd.op,.slice A na ca,.slice B nb cb,.slice C nc cc,.int .i64 nd.n,.int .i64 nd.how,.string nd.note]]) (fun iv _=>nt-(intOf iv).toNat)
 case atStart=>exact⟨0,u0,rfl,by omega,HU0,by omega,c9l _ _,H⟩
 case round =>
  clear H;obtain⟨j,us,rfl,hj,hul,hAll,hP,hS⟩:=hrel;have H:=Hd hS;have HP:=Hd hP;have HA:=Hd hAll;have HUL:=Hd hul;clear hS hP hAll hul;by_cases hlt:j<nt
  ·obtain⟨t,ht⟩:∃ t,L[j]?=some t:=gE (by have:=HLL.out;omega);obtain⟨la,S,sn,sc,D,dn,dc,hla,hlb,k0,k1,hTj⟩:=HTE.out.2.2 j t ht;subst hla;have q0:=H.oC k0 (a1i hlb);have q1:=H.oC k1 (a1i hlb);have h2:=H.allocBox wr.heap.size 33 [.slice S sn sc,.slice D dn dc] rfl;have HTJ:=Hd hTj;have HTT:=Hd ht;clear k0 k1 hTj ht hlb
   go_upto_region 5 with fail
   generalize wr.alloc (.cells #[.slice S sn sc,.slice D dn dc] 33)=w3 at *;generalize wr.heap.size=gt at *;replace H:=Hd h2;clear h2 q0 q1;obtain⟨b0,b1⟩:=H.z2 0 rfl;have CT:=a2q (H.oldTen HTJ)
   cases hr:a0a t.1 t.2 with
   | false =>
    rw[hr] at CT;have HX:=Hd (c5g (nd:=nd) HTT hr)
    go_wp2_with fail
    refine CT.mono ?_;rintro e4 w4 ⟨rfl,hb4⟩;replace H:=Hd (H.below hb4);clear CT hr hb4 b0 b1;obtain⟨z0,z1,f0,f1⟩:=H.b2 2;have h5:=(H.setBox 2 0 (.slice none 0 0) rfl).setBox 2 1 (.slice none 0 0) rfl;go_wp2
    exact a6n h5 2 rfl (z:=.int .i64 13) results30 rfl rfl rfl (by rw[HX.out];exact⟨⟨_,rfl,a7d _⟩,h5.base⟩)
   | true =>
    rw[hr] at CT;have HR:=Hd hr
    go_wp2_with fail
    refine CT.mono ?_;rintro e4 w4 ⟨rfl,hb4⟩;replace H:=Hd (H.below hb4);clear CT hr hb4 b0 b1;have b0:=H.c 0 0;obtain⟨u9,hu9⟩:∃ u,us[j]?=some u:=gE (by have:=HUL.out;omega);have hcq:=H.cellRow 1 rfl hu9;have hfq:=H.frozenRow 1 rfl j;have hst:=H.setRow 1 rfl j (.slice S sn sc);have HST:=Hd (Sep.tail_ (show Sep w _ (_::[.row 22 1 (.slice (some ⟨gr,0,none⟩) nt nt) nt (us.set j (.slice S sn sc)),.box (gn+1) 33 [.slice none 0 0,.slice none 0 0],.box gn 38 [.int .i64 nd.op,.slice A na ca,.slice B nb cb,.slice C nc cc,.int .i64 nd.n,.int .i64 nd.how,.string nd.note]]) from hst))
    have HK2:=Hd (show LilK w (us.set j (.slice S sn sc)) ((L.take (j+1)).map (·.1)) by
     rw[List.take_add_one,HTT.out,List.map_append]
     exact HP.snoc (a9v HTJ).1 (a9v HTJ).2.1 (by rw[List.length_map,List.length_take];have:=HLL.out;omega) (by have:=HUL.out;omega))
    clear hst hu9;go_wp2;go_roundw
    case rel=>exact⟨j+1,_,by go_num,by omega,by rw[List.length_set];exact HUL,(fun i s2 hi hi2=>by
     rcases Nat.lt_or_ge i j with hij|hij
     ·exact HA i s2 hi hij
     ·obtain rfl:i=j:=by omega
      obtain rfl:s2=t:=by have:=HTT.out;rw[hi] at this;injection this
      exact HR),HK2,HST⟩
    case measure=>simp[intOf];omega
  ·obtain rfl:j=nt:=by omega
   have HALL:=Hd (e0a HLL HA);have hP2:=HP.out;rw[List.take_of_length_le (by have:=HLL.out;omega)] at hP2;have hLi:=c9a H 0 rfl hP2 (by rw[List.length_map];exact HLL) (by omega);have C5:=c1b (cl:=j) (HN.below H.base) hLi;obtain⟨⟨e5,s5⟩,hR⟩:∃ r,a1j nd (L.map (·.1))=r:=⟨_,rfl⟩;rw[hR] at C5;have HR:=Hd hR;clear hR hLi hP2;obtain⟨n0,n1,n2,n3,n4,n5,n6⟩:=H.cells7 2 rfl
   go_wp2_with fail
   refine C5.mono ?_;rintro e6 w6 ⟨⟨v6,m6,rfl,_⟩,hb6⟩;replace H:=Hd (H.below hb6);clear C5 hb6 n0 n1 n2 n3 n4 n5 n6;obtain⟨z0,z1,f0,f1⟩:=H.b2 1;by_cases he:e5=0
   ·subst he;have HBW:Hid (Below w.heap.size w w6):=Hd H.base
    have hm:∃ r,Calls prog 37 #[.agg #[.int .i64 nd.op,.slice A na ca,.slice B nb cb,.slice C nc cc,.int .i64 nd.n,.int .i64 nd.how,.string nd.note],.slice At j ct] w6 (b1m w6 r)∧b4h nd L=r:=by
     by_cases ho:nd.op=1
     ·exact⟨_,c7c (HN.below HBW) ho,b7j HALL HR ho⟩
     ·obtain⟨hx,hf⟩:=c2c HALL HR ho;exact⟨_,b4g (HN.below HBW) (HTE.below HBW) hct hf ho HALL (c3t HALL ho (by rw[HR.out])).2.1,hx⟩
    obtain⟨⟨E,S8,D8⟩,CW,hx⟩:=hm;have HX:=Hd hx;clear hx z0 z1 f0 f1;obtain⟨n0,n1,n2,n3,n4,n5,n6⟩:=H.cells7 2 rfl
    go_wp2_with fail
    refine CW.mono ?_;rintro e7 w7 ⟨⟨u7,rfl,hu7⟩,hb7⟩;obtain⟨S1,ns,sc,D1,n9,dc,rfl,hs1,hd1,hsc,hdc,hNle,h5⟩:=H.addTen hb7 hu7;clear CW n0 n1 n2 n3 n4 n5 n6 hu7 hb7 hs1 hd1;obtain⟨z0,z1,f0,f1⟩:=h5.b2 3;have h6:=(h5.setBox 3 0 (.slice S1 ns sc) rfl).setBox 3 1 (.slice D1 n9 dc) rfl;have H6:=Hd h6;clear h5 h6;go_wp2;exact a6n H6 3 rfl (z:=.int .i64 E) results30 rfl rfl rfl (by rw[HX.out];exact⟨⟨_,rfl,a1s (H6.ownInts 0 rfl).2.2 hsc (H6.ownInts 1 rfl).2.2 hdc⟩,H6.base⟩)
   ·have HX:=Hd (c5u HALL HR he);have dE:(e5 != 0)=true:=by simpa using he
    clear he;have h5:=(H.setBox 1 0 (.slice none 0 0) rfl).setBox 1 1 (.slice none 0 0) rfl;go_wp2;exact a6n h5 1 rfl (z:=.int .i64 e5) results30 rfl rfl rfl (by rw[HX.out];exact⟨⟨_,rfl,a7d _⟩,h5.base⟩)
theorem b3y (nm:List Int):∀(N:List a0s) (acc L:List (List Int)),a0i nm acc N=(0,L)→L.length=acc.length+N.length
 | [],acc,L,h=>by rw[a0i] at h;injection h with _ h;rw[←h];rfl
 | n::N,acc,L,h=>by
  have:=b3y nm N _ L (b3l h).2.2;rw[List.length_append,List.length_singleton] at this;rw[List.length_cons];omega
theorem d2c {L:List (List Int)}(h:a2f G=(0,L)):a0i (a0k G.names) [] G.nodes=(0,L)∧G.nodes.length≤48:=by
 obtain⟨L', h1,h2,_,_⟩:=b1g (G:=G) (by rw[h]);refine⟨?_,h2⟩;unfold a2f at h
 split at h
 ·split at h
  ·split at h
   ·split at h
    ·injection h with _ h;rw[h1] at h ⊢;exact Prod.ext rfl h
    ·injection h with h;cases h
   ·rename_i h3;rw[h1] at h3;exact absurd rfl h3
  ·injection h with h;cases h
 ·injection h with h;cases h
theorem e1c {α : Type}{P:List α}{q:Nat}{t : α}(h:P[q]?=some t):P.drop q=t::P.drop (q+1):=by
 obtain⟨hq,rfl⟩:=List.getElem?_eq_some_iff.1 h;exact List.drop_eq_getElem_cons hq
theorem c3a (h:a2c w v G)(hs:a7y 800 G)(hT:Tens w At nt P)(hct:nt≤ct:=by omega):
  Calls prog 15 #[v,.slice At nt ct] w (a9i w (a6w G P)):=by
 have HG:=h;obtain⟨A,na,ca,B,nb,cb,C,nc,cc,rfl,hL⟩:=h;replace HG:=Hd HG;obtain⟨hia,hib,hic,hA,hB,hC,hnm⟩:=hL;have h1:=(Sep.nil w).allocBox w.heap.size 25 [.slice A na ca,.string G.names,.slice B nb cb,.slice C nc cc] rfl;have HBL:=Hd hB.1;have HB:=Hd hB;have HPL:=Hd hT.1;have HTE:=Hd hT;have HSM:=Hd hs;clear hA hB hC hT hs
 go_enter func15,ntmps15
 go_upto_region 1 with fail
 generalize w.alloc (.cells #[.slice A na ca,.string G.names,.slice B nb cb,.slice C nc cc] 25)=W at *;have H:=Hd h1;clear h1;obtain⟨g0,g1,g2,g3⟩:=H.cells4 0 rfl;have C1:=c8g (HG.below H.base) HSM;obtain⟨⟨e1,LS⟩,he1⟩:∃ r,a2f G=r:=⟨_,rfl⟩;rw[he1] at C1;have HE1:=Hd he1;clear he1
 go_wp2_with fail
 refine C1.mono ?_;rintro e2 w2 ⟨⟨A9,m9,c9,rfl,hmc9,hLi⟩,hb2⟩;replace H:=Hd (H.below hb2);have HLI:Hid (Lils w2 A9 m9 LS):=Hd hLi;clear C1 hb2 g0 g1 g2 g3 hLi;by_cases hz:e1=0
 ·subst hz;have HOK:=Hd (show(a2f G).1=0 by rw[HE1.out]);obtain⟨hgo,hlen⟩:=d2c HE1;have HGO:=Hd hgo;have hnb48:nb≤48:=by have:=HBL.out;omega
  have HLM:=Hd (show m9=nb by have h8:=HLI.out.1;have h7:=b3y _ _ _ _ hgo;rw[List.length_nil] at h7;have:=HBL.out;omega);obtain⟨g0,g1,g2,g3⟩:=H.cells4 0 rfl;have C2:=c7s (HG.below H.base);clear hgo hlen
  go_wp2_with fail
  refine C2.mono ?_;rintro e3 w3 ⟨⟨v3,m,rfl,hO⟩,hb3⟩;obtain⟨Ap,cp,rfl,hcp,_,_⟩:=hO.form;replace HLI:=Hd (HLI.below hb3);replace H:=Hd (H.addOwn hb3 hO);have C3:=d2a (ct:=ct) (cs:=c9) (cm:=cp) (HTE.below H.base) HLI (H.ownInts 0 rfl).2.2 (fun i x hx=>by have h9:=b0p G.nodes 0 x (mG hx);have:=HLM.out;have:=HBL.out;omega);clear C2 hb3 hO g0 g1 g2 g3
  go_wp2_with fail
  refine C3.mono ?_;rintro e4 w4 ⟨⟨b,rfl,hb⟩,hb4⟩;replace hb:=hb.trans (d5w HGO);have HBF:=Hd hb;replace H:=Hd ((H.below hb4).tail_);clear C3 hb hb4
  cases b with
  | false =>
   have HX:=Hd (a9d HOK (fun h9=>by have h8:=HBF.out.2 h9;cases h8));go_wp2;go_ret2
   exact a4m HX H.base
  | true =>
   have HFP:=Hd (HBF.out.1 rfl);have HX:=Hd (a7i HOK HFP);obtain⟨nm,hnm2⟩:∃ nm,a0k G.names=nm:=⟨_,rfl⟩;have HGO2:Hid (a0i nm [] G.nodes=(0,LS)):=Hd (by rw[←hnm2];exact HGO);clear hnm2;have g2:=H.c 0 2;have hmk:=c0k (c:=nb) (by omega);have h2:=H.madeRow 33 2 0 nb (tRow nb) (b0n nb) (Nat.zero_le _) (by omega);rw[Nat.zero_mul,List.take_zero] at h2
   go_upto_region 7 with fail
   generalize w4.alloc (.cells (tRow nb) 33)=w5 at *;generalize w4.heap.size=gr at *;replace H:=Hd h2;clear h2 hmk g2;have g2:=H.c 1 2
   go_wp2_with fail
   clear g2
   go_loopw [34,8,1] (fun iv ov pv wr=>∃(i q np:Nat) (us:List Value) (pool:List a0c) (lx:Value) (acc:TL) (Aq:Option Addr) (cq:Nat),lx=ov∧iv=.int .i64 i∧pv=.slice Aq np cq∧np+q=nt∧np≤cq∧Tens w Aq np (P.drop q)∧i≤nb∧b0f w us acc pool∧Amid nm G.nodes P LS i q acc∧Sep w wr (.row 33 2 lx i us::.box w.heap.size 25 [.slice A na ca,.string G.names,.slice B nb cb,.slice C nc cc]::pool)) (fun iv _ _ _=>nb-(intOf iv).toNat)
   case atStart=>exact⟨0,0,nt,[],[],_,[],At,ct,rfl,rfl,rfl,by omega,hct,HTE,by omega,a9b _ _,b5d HGO2,H⟩
   case round =>
    clear H;obtain⟨i,q,np,us,pool,lx,acc,Aq,cq,rfl,rfl,rfl,hnq,hcq,hTq,hi,hP,hA,hS⟩:=hrel;have H:=Hd hS;have HP:=Hd hP;have HA:=Hd hA;have HTQ:=Hd hTq;clear hS hP hA hTq;by_cases hlt:i<nb
    ·obtain⟨nd,hnd⟩:∃ nd,G.nodes[i]?=some nd:=gE (by have:=HBL.out;omega);obtain⟨la,S,ns,cs,D,nD,cD,E,ne,ce,hla,hlb,k0,k1,k2,k3,k4,k5,k6,hNL⟩:=HB.out.2.2 i nd hnd;subst hla;have c0:=H.oC k0 (a1i hlb);have c1:=H.oC k1 (a1i hlb);have c2:=H.oC k2 (a1i hlb);have c3:=H.oC k3 (a1i hlb);have c4:=H.oC k4 (a1i hlb);have c5:=H.oC k5 (a1i hlb);have c6:=H.oC k6 (a1i hlb);have HND:=Hd hnd;have HNL:=Hd hNL;have hns:ns≤800:=by have h5:=HSM.out i nd hnd;have h6:=hNL.inA.len;omega
     clear k0 k1 k2 k3 k4 k5 k6 hNL hnd;have h3:=H.allocBox wr.heap.size 38 [.int .i64 nd.op,.slice S ns cs,.slice D nD cD,.slice E ne ce,.int .i64 nd.n,.int .i64 nd.how,.string nd.note] rfl
     go_upto_region 10 with fail
     generalize wr.alloc (.cells #[.int .i64 nd.op,.slice S ns cs,.slice D nD cD,.slice E ne ce,.int .i64 nd.n,.int .i64 nd.how,.string nd.note] 38)=w6 at *;generalize wr.heap.size=gn at *;replace H:=Hd h3;clear h3 c0 c1 c2 c3 c4 c5 c6;have n0:=H.c 0 0;by_cases ho:nd.op=1
     ·obtain⟨t,ht,htr,hts,hA2⟩:=HA.param HND ho HFP;have HA2:=Hd hA2;have dop:(nd.op==1)=true:=by simpa using ho
      have hTq:=HTQ.out;rw[e1c ht] at hTq;have hnp:np=(P.drop (q+1)).length+1:=by rw[←hTq.1,List.length_cons]
      obtain⟨a,S5,sn5,sc5,D5,dn5,dc5,hta,htb,t0,t1,hTj⟩:=hTq.zero_;subst hta;have hnp1:1≤np:=by omega
      obtain⟨A2,hsl,hA9⟩:=c5q (a:=a) (n:=np) (c:=cq) hnp1 hcq;have HTN:=Hd (hTq.tail hA9);have y0:=H.oC t0 htb;have y1:=H.oC t1 htb;have CC:=c4w (H.oldTen hTj) (c3w hTj htr).1 (c3w hTj htr).2;have hp0:0<np:=by omega
      have hp0i:(0:Int)<np:=by omega
      clear t0 t1 hTj htr hts hA2 ht ho htb hTq hA9 hnp
      go_wp2_with fail
      refine CC.mono ?_;rintro e7 w7 ⟨⟨u7,rfl,hu7⟩,hb7⟩;obtain⟨S1,m1,sc,D1,n9,dc,rfl,hs1,hd1,hsc,hdc,hNle,h5⟩:=H.addTen hb7 hu7;replace H:=Hd h5;clear CC n0 y0 y1 hu7 hb7 hs1 hd1 h5
      go_wp2_with (at_builtin;refine a2l rfl (.tmp 41) (.tmp 46) 28 rfl underlying28 H.out 3 rfl rfl _ rfl ?c1 ?_)
      case c1=>omega
      intro v9 w9 h9;have h10:=Sep.perm (show Sep w w9 (a0c.own 3 (.slice S1 m1 sc) m1 t.1::a0c.own 2 (.slice D1 n9 dc) n9 t.2::_::.row 33 2 v9 (i+1) (us++[.slice S1 m1 sc,.slice D1 n9 dc])::.box w.heap.size 25 [.slice A na ca,.string G.names,.slice (some la) nb cb,.slice C nc cc]::pool) from h9) (l':=[_,.row 33 2 v9 (i+1) (us++[.slice S1 m1 sc,.slice D1 n9 dc]),.box w.heap.size 25 [.slice A na ca,.string G.names,.slice (some la) nb cb,.slice C nc cc]]++([a0c.own 3 (.slice S1 m1 sc) m1 t.1,a0c.own 2 (.slice D1 n9 dc) n9 t.2]++pool)) (by rw[←List.append_assoc];exact(List.perm_append_comm (l₁:=[a0c.own 3 (.slice S1 m1 sc) m1 t.1,a0c.own 2 (.slice D1 n9 dc) n9 t.2]) (l₂:=[_,_,_])).append_right pool);have H10:=Hd (Sep.tail_ h10);clear h9 h10;go_wp2;go_roundw
      case rel=>exact⟨i+1,q+1,np-1,_,a0c.own 3 (.slice S1 m1 sc) m1 t.1::a0c.own 2 (.slice D1 n9 dc) n9 t.2::pool,_,_,A2,cq-1,rfl,by go_num,rfl,by omega,by omega,HTN,by omega,HP.up.snoc b5n.top,HA2,H10⟩
      case measure=>simp[intOf];omega
     ·obtain⟨hR,hf,hz,hA2⟩:=HA.work HND ho;have HRT:=Hd hR;have HFM:=Hd hf;have HZ:=Hd hz;have HO:=Hd ho;obtain⟨⟨E8,S8,D8⟩,hR8⟩:∃ z,a0r nd (insT acc nd.ins)=z:=⟨_,rfl⟩;obtain rfl:E8=0:=by rw[hR8] at hz;exact hz
      have HR8:=Hd hR8;have HA2:Hid (Amid nm G.nodes P LS (i+1) q (acc++[(S8,D8)])):=Hd (by have h9:=hA2;rw[hR8] at h9;exact h9);have HIN:=Hd (HA.ins HND);have dop:(nd.op==1)=false:=by simpa using ho
      obtain⟨Ao,co,hv,hco,hTo⟩:=a6h 1 H rfl HP HA.len (by omega) 3 (fun k=>rfl);subst hv;have HTO:=Hd hTo;clear hR hf hz hA2 ho hR8 hTo
      go_upto_region 13 with fail
      clear n0
      go_cut [11,12] (fun pv ev wx=>∃(g8:Nat) (S1:Option Addr) (m1 sc:Nat) (D1:Option Addr) (n9 dc:Nat),pv=.pointer (some ⟨g8,0,none⟩)∧ev=.int .i64 0∧Sep w wx (a0c.own 3 (.slice S1 m1 sc) m1 S8::a0c.own 2 (.slice D1 n9 dc) n9 D8::.box g8 33 [.slice S1 m1 sc,.slice D1 n9 dc]::.box gn 38 [.int .i64 nd.op,.slice S ns cs,.slice D nD cD,.slice E ne ce,.int .i64 nd.n,.int .i64 nd.how,.string nd.note]::.row 33 2 (.slice Ao i co) i us::.box w.heap.size 25 [.slice A na ca,.string G.names,.slice (some la) nb cb,.slice C nc cc]::pool))
      case first =>
       have K0:=Hd H.drew;obtain⟨d0,d1,d2,d3,d4,d5,d6⟩:=K0.cells7 0 rfl;refine wp_region_held_drew (S:=(fun w'=>w'.cell? ⟨gn,0,none⟩=some (.int .i64 nd.op)∧w'.cell? ⟨gn,1,none⟩=some (.slice S ns cs)∧w'.cell? ⟨gn,2,none⟩=some (.slice D nD cD)∧w'.cell? ⟨gn,3,none⟩=some (.slice E ne ce)∧w'.cell? ⟨gn,4,none⟩=some (.int .i64 nd.n)∧w'.cell? ⟨gn,5,none⟩=some (.int .i64 nd.how)∧w'.cell? ⟨gn,6,none⟩=some (.string nd.note))) (by kernel_rfl) ?_ (fun hq_=>?_)
       ·exact⟨d0,d1,d2,d3,d4,d5,d6⟩
       refine zV 0 hq_ ?_;refine zV 1 hq_ ?_;refine zV 2 hq_ ?_;refine zV 3 hq_ ?_;refine r2 4 9 (fun K hK=>?_) fun K hK=>?_
       ·first|(refine effU ?_ ?_;(focus rfl))|(go_simp;(go_at_call 38;refine(c1l (HTO.below (a0w (Below.refl _ _) 1)) (HNL.inA.below K0.base) HIN hns).mono ?_;rintro ey1 y1 ⟨⟨A1,rfl,hT1⟩,hb1⟩;have HT1:=Hd hT1;have K1:=Hd (K0.below hb1);obtain⟨x0,x1,x2,x3,x4,x5,x6⟩:=K1.cells7 0 rfl;clear hb1 hT1);go_wp2_with fail)
        refine zX hK (fun hq_=>?_) ⟨x0,x1,x2,x3,x4,x5,x6⟩;refine r2 5 9 (fun K hK=>?_) fun K hK=>?_
        ·first|(refine effU ?_ ?_;(focus rfl))|(go_simp;(go_at_call 37;have CM:=b4g (ct:=ns) (a3k.wide (show a3k _ (.agg #[.int .i64 nd.op,.slice S ns cs,.slice D nD cD,.slice E ne ce,.int .i64 nd.n,.int .i64 nd.how,.string nd.note]) nd from⟨S,ns,cs,D,nD,cD,E,ne,ce,rfl,HNL.below K1.base⟩)) HT1 (Nat.le_refl _) HFM HO HRT HZ;rw[HR8.out] at CM;refine CM.mono ?_;rintro ey2 y2 ⟨⟨u2,rfl,hu2⟩,hb2⟩;obtain⟨S1,m1,sc,D1,n9,dc,rfl,hs1,hd1,hsc,hdc,hNle,h5⟩:=K1.addTen hb2 hu2;have K2:=Hd h5;obtain⟨x20,x21,x22,x23,x24,x25,x26⟩:=K2.cells7 2 rfl;clear CM hu2 hb2 hs1 hd1 h5);go_wp2_with fail)
         refine zX hK (fun hq_=>?_) ⟨x20,x21,x22,x23,x24,x25,x26⟩;refine zV 6 hq_ ?_;refine zV 7 hq_ ?_;refine zV 8 hq_ ?_;refine e1 9 fun K hK=>?_;(have K3:=Hd (K2.allocBox y2.heap.size 33 [.slice none 0 0,.slice none 0 0] rfl);obtain⟨x30,x31,x32,x33,x34,x35,x36⟩:=K3.cells7 3 rfl);go_simp;(try go_wp2_with fail);refine zX hK (fun hq_=>?_) ⟨x30,x31,x32,x33,x34,x35,x36⟩;refine e1 10 fun K hK=>?_;(have HE:=Hd (Sep.perm (K2.allocBox y2.heap.size 33 [.slice S1 m1 sc,.slice D1 n9 dc] rfl) (l':=[a0c.own 3 (.slice S1 m1 sc) m1 S8,a0c.own 2 (.slice D1 n9 dc) n9 D8]++([a0c.box y2.heap.size 33 [.slice S1 m1 sc,.slice D1 n9 dc]]++_)) (by rw[←List.append_assoc];exact(List.perm_append_comm (l₁:=[a0c.box y2.heap.size 33 [.slice S1 m1 sc,.slice D1 n9 dc]]) (l₂:=[_,_])).append_right _));obtain⟨x40,x41,x42,x43,x44,x45,x46⟩:=HE.cells7 3 rfl);go_simp;(try go_wp2_with fail);refine zX hK (fun hq_=>?_) ⟨x40,x41,x42,x43,x44,x45,x46⟩;refine zV 11 hq_ ?_;refine dN ?_
         go_wp2_with fail
         go_meet;exact⟨_,S1,m1,sc,D1,n9,dc,rfl,rfl,HE⟩
        ·(have K2:=Hd (K1.allocBox y1.heap.size 33 [.slice none 0 0,.slice none 0 0] rfl);obtain⟨x20,x21,x22,x23,x24,x25,x26⟩:=K2.cells7 1 rfl)
         go_simp;(try go_wp2_with fail);refine zX hK (fun hq_=>?_) ⟨x20,x21,x22,x23,x24,x25,x26⟩;refine e1 5 fun K hK=>?_
         first|(refine effU ?_ ?_;(focus rfl))|(go_simp;(go_at_call 37;have CM:=b4g (ct:=ns) (a3k.wide (show a3k _ (.agg #[.int .i64 nd.op,.slice S ns cs,.slice D nD cD,.slice E ne ce,.int .i64 nd.n,.int .i64 nd.how,.string nd.note]) nd from⟨S,ns,cs,D,nD,cD,E,ne,ce,rfl,HNL.below K2.base⟩)) (HT1.below ((Below.refl _ _).alloc (Nat.le_refl _) _)) (Nat.le_refl _) HFM HO HRT HZ;rw[HR8.out] at CM;refine CM.mono ?_;rintro ey2 y2 ⟨⟨u2,rfl,hu2⟩,hb2⟩;obtain⟨S1,m1,sc,D1,n9,dc,rfl,hs1,hd1,hsc,hdc,hNle,h5⟩:=K2.addTen hb2 hu2;have K3:=Hd h5;obtain⟨x30,x31,x32,x33,x34,x35,x36⟩:=K3.cells7 3 rfl;clear CM hu2 hb2 hs1 hd1 h5);go_wp2_with fail)
         refine zX hK (fun hq_=>?_) ⟨x30,x31,x32,x33,x34,x35,x36⟩;refine zV 6 hq_ ?_;refine zV 7 hq_ ?_;refine zV 8 hq_ ?_;refine e1 10 fun K hK=>?_
         (obtain⟨zz0,zz1,ff0,ff1⟩:=K3.b2 2;have HE:=Hd ((K3.setBox 2 0 (.slice S1 m1 sc) rfl).setBox 2 1 (.slice D1 n9 dc) rfl);obtain⟨x40,x41,x42,x43,x44,x45,x46⟩:=HE.cells7 3 rfl)
         go_simp;(try go_wp2_with fail);refine zX hK (fun hq_=>?_) ⟨x40,x41,x42,x43,x44,x45,x46⟩;refine zV 11 hq_ ?_;refine dN ?_
         go_wp2_with fail
         go_meet;exact⟨_,S1,m1,sc,D1,n9,dc,rfl,rfl,HE⟩
       ·(have K1:=Hd ((H.allocBox w6.heap.size 33 [.slice none 0 0,.slice none 0 0] rfl).drew);obtain⟨x0,x1,x2,x3,x4,x5,x6⟩:=K1.cells7 1 rfl)
        go_simp;(try go_wp2_with fail);refine zX hK (fun hq_=>?_) ⟨x0,x1,x2,x3,x4,x5,x6⟩;refine e1 4 fun K hK=>?_
        first|(refine effU ?_ ?_;(focus rfl))|(go_simp;(go_at_call 38;refine(c1l (HTO.below (((Below.refl _ _).alloc (Nat.le_refl _) _).drew)) (HNL.inA.below K1.base) HIN hns).mono ?_;rintro ey1 y1 ⟨⟨A1,rfl,hT1⟩,hb1⟩;have HT1:=Hd hT1;have K2:=Hd (K1.below hb1);obtain⟨x20,x21,x22,x23,x24,x25,x26⟩:=K2.cells7 1 rfl;clear hb1 hT1);go_wp2_with fail)
        refine zX hK (fun hq_=>?_) ⟨x20,x21,x22,x23,x24,x25,x26⟩;refine e1 5 fun K hK=>?_
        first|(refine effU ?_ ?_;(focus rfl))|(go_simp;(go_at_call 37;have CM:=b4g (ct:=ns) (a3k.wide (show a3k _ (.agg #[.int .i64 nd.op,.slice S ns cs,.slice D nD cD,.slice E ne ce,.int .i64 nd.n,.int .i64 nd.how,.string nd.note]) nd from⟨S,ns,cs,D,nD,cD,E,ne,ce,rfl,HNL.below K2.base⟩)) HT1 (Nat.le_refl _) HFM HO HRT HZ;rw[HR8.out] at CM;refine CM.mono ?_;rintro ey2 y2 ⟨⟨u2,rfl,hu2⟩,hb2⟩;obtain⟨S1,m1,sc,D1,n9,dc,rfl,hs1,hd1,hsc,hdc,hNle,h5⟩:=K2.addTen hb2 hu2;have K3:=Hd h5;obtain⟨x30,x31,x32,x33,x34,x35,x36⟩:=K3.cells7 3 rfl;clear CM hu2 hb2 hs1 hd1 h5);go_wp2_with fail)
        refine zX hK (fun hq_=>?_) ⟨x30,x31,x32,x33,x34,x35,x36⟩;refine zV 6 hq_ ?_;refine zV 7 hq_ ?_;refine zV 8 hq_ ?_;refine e1 10 fun K hK=>?_
        (obtain⟨zz0,zz1,ff0,ff1⟩:=K3.b2 2;have HE:=Hd ((K3.setBox 2 0 (.slice S1 m1 sc) rfl).setBox 2 1 (.slice D1 n9 dc) rfl);obtain⟨x40,x41,x42,x43,x44,x45,x46⟩:=HE.cells7 3 rfl)
        go_simp;(try go_wp2_with fail);refine zX hK (fun hq_=>?_) ⟨x40,x41,x42,x43,x44,x45,x46⟩;refine zV 11 hq_ ?_;refine dN ?_
        go_wp2_with fail
        go_meet;exact⟨_,S1,m1,sc,D1,n9,dc,rfl,rfl,HE⟩
      case rest =>
       obtain⟨g8,S1,m1,sc,D1,n9,dc,rfl,rfl,hS⟩:=hcut;replace H:=Hd hS;clear hS;obtain⟨b0,b1⟩:=H.z2 2 rfl
       go_wp2_with (at_builtin;refine a2l rfl (.tmp 62) (.tmp 64) 28 rfl underlying28 H.out 4 rfl rfl _ rfl ?c1 ?_)
       case c1=>omega
       intro v9 w9 h9;have h10:=Sep.perm (show Sep w w9 (a0c.own 3 (.slice S1 m1 sc) m1 S8::a0c.own 2 (.slice D1 n9 dc) n9 D8::_::_::.row 33 2 v9 (i+1) (us++[.slice S1 m1 sc,.slice D1 n9 dc])::.box w.heap.size 25 [.slice A na ca,.string G.names,.slice (some la) nb cb,.slice C nc cc]::pool) from h9) (l':=[_,_,.row 33 2 v9 (i+1) (us++[.slice S1 m1 sc,.slice D1 n9 dc]),.box w.heap.size 25 [.slice A na ca,.string G.names,.slice (some la) nb cb,.slice C nc cc]]++([a0c.own 3 (.slice S1 m1 sc) m1 S8,a0c.own 2 (.slice D1 n9 dc) n9 D8]++pool)) (by rw[←List.append_assoc];exact(List.perm_append_comm (l₁:=[a0c.own 3 (.slice S1 m1 sc) m1 S8,a0c.own 2 (.slice D1 n9 dc) n9 D8]) (l₂:=[_,_,_,_])).append_right pool);have H10:=Hd (Sep.tail_ (Sep.tail_ h10));clear h9 h10 b0 b1;go_wp2;go_roundw
       case rel=>exact⟨i+1,q,np,_,a0c.own 3 (.slice S1 m1 sc) m1 S8::a0c.own 2 (.slice D1 n9 dc) n9 D8::pool,_,_,Aq,cq,rfl,by go_num,rfl,by omega,hcq,HTQ,by omega,HP.up.snoc b5n.top,HA2,H10⟩
       case measure=>simp[intOf];omega
    ·obtain rfl:i=nb:=by omega
     obtain⟨A9,c9,rfl,hc9,hT9⟩:=a6h 0 H rfl HP HA.len (by omega) 2 (fun k=>rfl);have HT9:=Hd hT9;clear hT9;go_wp2;go_ret2;exact a8c (by rw[HX.out,(Amid.end_ (by have h9:=HA.out;rw[←HBL.out] at h9;exact h9)).1]) hc9 HT9 H.base
 ·have dz:(e1 != 0)=true:=by simpa using hz
  have HX:=Hd (c2o (P:=P) (G:=G) (by rw[HE1.out];exact hz));clear hz;go_wp2;go_ret2;exact a4m (by rw[HX.out,HE1.out]) H.base
end Go.Proofs.YtjblengklgkgfaaGreat
