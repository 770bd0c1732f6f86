import Derived.Test.YtnnmplkgenhofaaGreatPaz
set_option maxRecDepth 100000
set_option maxHeartbeats 12800000
namespace Go.Proofs.YtnnmplkgenhofaaGreat
open Go.RowKit
theorem node_op5 {w0 w:World} {l:List Chunk} {i g:Nat} {A:Option Addr} {n c a:Nat} {xs:List Int} {Al:Option Addr} {nl cl:Nat} {L:List (List Int)} (q b:Nat) {s:List Int} (h5:¬ tv xs a 5=0) (hq:tv xs (ta xs a 5) nl=q) (hs:L[q]? = some s) (hb:ta xs (ta xs (ta xs a 5) nl) 12=b) (hk:tv xs (ta xs (ta xs a 5) nl) 12=5) (H:Sep w0 w l) (hi:l[i]? = some (TB g A n c a)) (hI:Ints w0 A n xs) (ha:a≤n) (hL:LilsK w0 l i g A n c Al nl L) :
  Calls Tryz.prog 12 #[.pointer (some ⟨g,0,none⟩),.slice Al nl cl] w (NodePost w0 l i g A n c (kOp5 xs b q s)):=by
 obtain⟨KS,hKS⟩:∃ q0,kOp5 xs b q s=q0:=⟨_,rfl⟩;rw[hKS];have HKS:=Hd hKS;clear hKS;have HXL:=Hd hI.len;have HI:=Hd hI;have hnle:=hI.le;have hll:=hL.1;have hln:=hL.2.1;have HLL:=Hd hll;have HLK:=Hd hL;have HK:Hid (KT l i (TB g A n c a) l):=Hd ⟨hi,fun _=>rfl⟩;clear hll;have h1:=(((H.allocBox w.heap.size 34 [.int .i64 0,.slice none 0 0,.slice none 0 0,.slice none 0 0,.int .i64 0,.int .i64 0,.string ⟨#[]⟩] rfl).addNil 3).addNil 3).addNil 3
 go_enter Tryz.func12,Tryz.ntmps12
 go_upto_region 1 with fail
 generalize w.alloc (.cells #[.int .i64 0,.slice none 0 0,.slice none 0 0,.slice none 0 0,.int .i64 0,.int .i64 0,.string ⟨#[]⟩] 34)=W at *;generalize w.heap.size=gr at *;clear H hi hI hL;have H:Hid (Sep w0 W ([oN,oN,oN,.box gr 34 [.int .i64 0,.slice none 0 0,.slice none 0 0,.slice none 0 0,.int .i64 0,.int .i64 0,.string ⟨#[]⟩]]++l)):=Hd h1;clear h1;have hnl:0<nl:=by have h8:L.length=nl:=HLL.out;have:=(List.getElem?_eq_some_iff.1 hs).1;omega
 have dn:((nl:Int)==0)=false:=by simp;omega
 have HQ0:=Hd hq;have HB0:=Hd hb;have HK0:=Hd hk;have HS0:=Hd hs;have h5n:=Hd h5;clear hq hb hk hs h5
 go_wp2_with fail
 refine(next_s (5) H.out HK.out HI.out ha ⟨by omega,by omega⟩).mono ?_;rintro e1 w1 ⟨rfl,l1,hK,hS⟩;have b0:=tv_nonneg xs a (5);have b1:=tv_lt xs a (show(0:Int)<5 by omega);obtain⟨r1,hr⟩:∃ q,tv xs a (5)=q:=⟨_,rfl⟩;rw[hr] at b0 b1 ⊢;obtain⟨r1,rfl⟩:=Int.eq_ofNat_of_zero_le b0;have HR1:=Hd hr;have br1:(r1:Int)<5:=b1;clear b1;obtain⟨a1,ha1⟩:∃ q,ta xs a (5)=q:=⟨_,rfl⟩;have ba1:=ta_le (5) HXL.out ha;rw[ha1] at ba1 hK;have HA1:=Hd ha1;replace HK:=Hd hK;replace H:Hid (Sep w0 w1 ([oN,oN,oN,.box gr 34 [.int .i64 0,.slice none 0 0,.slice none 0 0,.slice none 0 0,.int .i64 0,.int .i64 0,.string ⟨#[]⟩]]++l1)):=Hd hS;clear hr ha1 hK hS b0;have d5:((r1:Int)==0)=false:=by have h8:=HR1.out;have h9:=h5n.out;rw[h8] at h9;simpa using h9
 go_wp2_with fail
 refine(next_s ((nl:Int)) H.out HK.out HI.out ba1 ⟨by omega,by omega⟩).mono ?_;rintro e2 w2 ⟨rfl,l2,hK,hS⟩;have b0:=tv_nonneg xs a1 ((nl:Int));have b1:=tv_lt xs a1 (show(0:Int)<(nl:Int) by omega);obtain⟨r2,hr⟩:∃ q,tv xs a1 ((nl:Int))=q:=⟨_,rfl⟩;rw[hr] at b0 b1 ⊢;obtain⟨r2,rfl⟩:=Int.eq_ofNat_of_zero_le b0;have HR2:=Hd hr;have br2:(r2:Int)<(nl:Int):=b1;clear b1;obtain⟨a2,ha2⟩:∃ q,ta xs a1 ((nl:Int))=q:=⟨_,rfl⟩;have ba2:=ta_le ((nl:Int)) HXL.out ba1;rw[ha2] at ba2 hK;have HA2:=Hd ha2;replace HK:=Hd hK;replace H:Hid (Sep w0 w2 ([oN,oN,oN,.box gr 34 [.int .i64 0,.slice none 0 0,.slice none 0 0,.slice none 0 0,.int .i64 0,.int .i64 0,.string ⟨#[]⟩]]++l2)):=Hd hS;clear hr ha2 hK hS b0;obtain rfl:r2=q:=by have h8:=HR2.out;have h9:=HQ0.out;rw[HA1.out,h8] at h9;omega
 obtain⟨la,Bs,ms,cap,hAl,hmc,hst⟩:=HLK.out.2.2 r2 s HS0.out;subst hAl;have HST:=Hd hst;obtain⟨hlb,hcl,hIs⟩:=hst w2 a2 l2 HK.out H.out.rest_;have HSL:=Hd hIs.len;have hmsl:=hIs.le;have hr2:r2<nl:=by omega
 clear hst hIs hlb
 go_wp2_with fail
 clear hcl;refine(next_s (12) H.out HK.out HI.out ba2 ⟨by omega,by omega⟩).mono ?_;rintro e3 w3 ⟨rfl,l3,hK,hS⟩;have b0:=tv_nonneg xs a2 (12);have b1:=tv_lt xs a2 (show(0:Int)<12 by omega);obtain⟨r3,hr⟩:∃ q,tv xs a2 (12)=q:=⟨_,rfl⟩;rw[hr] at b0 b1 ⊢;obtain⟨r3,rfl⟩:=Int.eq_ofNat_of_zero_le b0;have HR3:=Hd hr;have br3:(r3:Int)<12:=b1;clear b1;obtain⟨a3,ha3⟩:∃ q,ta xs a2 (12)=q:=⟨_,rfl⟩;have ba3:=ta_le (12) HXL.out ba2;rw[ha3] at ba3 hK;have HA3:=Hd ha3;replace HK:=Hd hK;replace H:Hid (Sep w0 w3 ([oN,oN,oN,.box gr 34 [.int .i64 0,.slice none 0 0,.slice none 0 0,.slice none 0 0,.int .i64 0,.int .i64 0,.string ⟨#[]⟩]]++l3)):=Hd hS;clear hr ha3 hK hS b0;obtain rfl:r3=5:=by have h8:=HR3.out;have h9:=HK0.out;rw[HA1.out,HA2.out,h8] at h9;omega
 obtain rfl:a3=b:=by have h8:=HA3.out;have h9:=HB0.out;rw[HA1.out,HA2.out,h8] at h9;exact h9
 clear HR1 HR2 HR3 HQ0 HB0 HK0 h5n d5 dn;by_cases h2:2<ms
 ·have d2:decide (2<ms)=true:=by simpa using h2
  replace H:Hid (Sep w0 (w3.alloc (.cells #[.int .i64 ((r2:Int))] 3)) ([.own 3 (.slice (some ⟨w3.heap.size,0,none⟩) 1 1) 1 [((r2:Int))],oN,oN,oN,.box gr 34 [.int .i64 0,.slice none 0 0,.slice none 0 0,.slice none 0 0,.int .i64 0,.int .i64 0,.string ⟨#[]⟩]]++l3)):=Hd (H.out.lit 3 #[.int .i64 ((r2:Int))] [((r2:Int))] 1 _ rfl rfl (by first|(simp[litOk];done)|(simp[litOk];omega)));have HX:=Hd (show KS=(ndV 4 [(r2:Int)] [] [] 0 0,a3) by rw[← HKS.out,kOp5,if_pos (by have h8:=HSL.out;omega)]);obtain⟨rc0,rc1,rc2,rc3,rc4,rc5,rc6⟩:=H.out.cells7 4 rfl;obtain ⟨fr0,fr1,fr2,fr3,fr4,fr5,fr6⟩:=H.out.f7 4 rfl;have HF:=Hd (((((((H.out.setBox 4 0 (.int .i64 4) rfl).setBox 4 1 (.slice (some ⟨w3.heap.size,0,none⟩) 1 1) rfl).setBox 4 2 (.slice none 0 0) rfl).setBox 4 3 (.slice none 0 0) rfl).setBox 4 4 (.int .i64 0) rfl).setBox 4 5 (.int .i64 0) rfl).setBox 4 6 (.string ⟨#[]⟩) rfl);go_wp2;refine ret_node (v0:=.int .i64 4) (v1:=.slice (some ⟨w3.heap.size,0,none⟩) 1 1) (v2:=.slice none 0 0) (v3:=.slice none 0 0) (v4:=.int .i64 0) (v5:=.int .i64 0) (v6:=.string ⟨#[]⟩) HF.out 4 rfl Tryz.results12 rfl rfl ?_;rw[HX.out];exact⟨_,_,_,_,_,_,rfl,_,HK.out,Sep.pick (P:=[.own 3 (.slice (some ⟨w3.heap.size,0,none⟩) 1 1) 1 [((r2:Int))],oN,oN,oN,.box gr 34 [.int .i64 4,.slice (some ⟨w3.heap.size,0,none⟩) 1 1,.slice none 0 0,.slice none 0 0,.int .i64 0,.int .i64 0,.string ⟨#[]⟩]]) HF.out [0,1,2] rfl (by decide)⟩
 ·have d2:decide (2<ms)=false:=by simpa using h2
  have HN2:=Hd h2;have hms2:ms≤2:=by omega
  clear h2
  go_wp2_with fail
  refine(next_s ((ms:Int)+1) H.out HK.out HI.out ba3 ⟨by omega,by omega⟩).mono ?_;rintro e4 w4 ⟨rfl,l4,hK,hS⟩;have b0:=tv_nonneg xs a3 ((ms:Int)+1);have b1:=tv_lt xs a3 (show(0:Int)<(ms:Int)+1 by omega);obtain⟨r4,hr⟩:∃ q,tv xs a3 ((ms:Int)+1)=q:=⟨_,rfl⟩;rw[hr] at b0 b1 ⊢;obtain⟨r4,rfl⟩:=Int.eq_ofNat_of_zero_le b0;have HR4:=Hd hr;have br4:(r4:Int)<(ms:Int)+1:=b1;clear b1;obtain⟨a4,ha4⟩:∃ q,ta xs a3 ((ms:Int)+1)=q:=⟨_,rfl⟩;have ba4:=ta_le ((ms:Int)+1) HXL.out ba3;rw[ha4] at ba4 hK;have HA4:=Hd ha4;replace HK:=Hd hK;replace H:Hid (Sep w0 w4 ([oN,oN,oN,.box gr 34 [.int .i64 0,.slice none 0 0,.slice none 0 0,.slice none 0 0,.int .i64 0,.int .i64 0,.string ⟨#[]⟩]]++l4)):=Hd hS;clear hr ha4 hK hS b0;have hk:r4≤ms:=by omega
  have hsl1:=run_takeG ((HST.out _ _ _ HK.out H.out.rest_).2.2) hk hmc;have hsl2:=run_dropG ((HST.out _ _ _ HK.out H.out.rest_).2.2) hk hmc;obtain⟨A8,hA8⟩:∃ A8,dropA Bs cap r4=A8:=⟨_,rfl⟩;rw[hA8] at hsl2;have HI8:Hid (∀ w,Ints w Bs ms s→Ints w A8 (ms-r4) (s.drop r4)):=Hd (fun w h=>by have h9:=h.dropA hk hmc;rw[hA8] at h9;exact h9);clear hA8
  go_upto_region 37 with fail
  have H0:=Hd H.out.drew;refine wp_region_held_drew (S:=(fun _=>True)) (by kernel_rfl) ?_ (fun hq_=>?_)
  ·trivial
  refine zW 1 hq_ ?_
  try simp only[pA]
  refine zW 2 hq_ ?_
  try simp only[pA]
  refine zW 3 hq_ ?_
  try simp only[pA]
  refine zW 5 hq_ ?_
  try simp only[pA]
  refine zW 10 hq_ ?_
  try simp only[pA]
  refine zW 11 hq_ ?_
  try simp only[pA]
  refine zW 12 hq_ ?_
  try simp only[pA]
  refine e1 0 fun K hK=>?_
  go_simp
  try go_wp2_with fail
  refine zK hK ?_;clear hK K hq_;intro hq_
  try simp only[pA]
  refine e1 4 fun K hK=>?_
  (have Ge:=Hd (H0.out.empty 3);refine step_appends_sep rfl (.tmp 165) (.tmp 168) 22 3 rfl Tryz.underlying22 Tryz.infoInt Ge.out 0 rfl rfl Bs r4 cap (s.take r4) rfl (((HST.out _ _ _ HK.out Ge.out.tail_.rest_).2.2).take hk) ?_ ?_;(focus omega);intro y1 z1 h5;have G4:Hid (Sep w0 z1 ([.own 3 y1 (0+r4) (s.take r4),oN,oN,oN,.box gr 34 [.int .i64 0,.slice none 0 0,.slice none 0 0,.slice none 0 0,.int .i64 0,.int .i64 0,.string ⟨#[]⟩]]++l4)):=Hd h5;clear h5 Ge)
  refine zK hK ?_;clear hK K hq_;intro hq_
  try simp only[pA]
  refine e1 6 fun K hK=>?_
  first|(refine effU ?_ ?_;(focus rfl))|(go_simp;(go_at_call 11;refine(next_s 4 G4.out HK.out HI.out ba4 ⟨by omega,by omega⟩).mono ?_;rintro e30 w30 ⟨rfl,l30,hK30,hS30⟩;have b0:=tv_nonneg xs a4 4;have b1:=tv_lt xs a4 (show(0:Int)<4 by omega);obtain⟨r30,hr30⟩:∃ z,tv xs a4 4=z:=⟨_,rfl⟩;rw[hr30] at b0 b1 ⊢;obtain⟨r30,rfl⟩:=Int.eq_ofNat_of_zero_le b0;have HR30:=Hd hr30;obtain⟨a30,ha30⟩:∃ z,ta xs a4 4=z:=⟨_,rfl⟩;have ba30:=ta_le 4 HXL.out ba4;rw[ha30] at ba30 hK30;have HA30:=Hd ha30;have HK30:=Hd hK30;have G5:Hid (Sep w0 w30 ([.own 3 y1 (0+r4) (s.take r4),oN,oN,oN,.box gr 34 [.int .i64 0,.slice none 0 0,.slice none 0 0,.slice none 0 0,.int .i64 0,.int .i64 0,.string ⟨#[]⟩]]++l30)):=Hd hS30;have hwd:IntKind.i64.wrap (1+(r30:Int))=1+(r30:Int):=IntWalk.i64_in _ ⟨by omega,by omega⟩;clear hr30 ha30 hK30 hS30 b0);go_wp2_with fail)
  refine zK hK ?_;clear hK K hq_;intro hq_
  try simp only[pA]
  refine zW 7 hq_ ?_
  try simp only[pA]
  refine e1 8 fun K hK=>?_
  go_simp
  try go_wp2_with fail
  refine zK hK ?_;clear hK K hq_;intro hq_
  try simp only[pA]
  refine e1 9 fun K hK=>?_
  (refine step_append_sep rfl (.tmp 169) (.tmp 173) 22 3 rfl Tryz.underlying22 Tryz.infoInt G5.out 0 rfl rfl (1+(r30:Int)) ⟨by omega,by omega⟩ _ rfl ?_ ?_;(focus omega);intro y2 z2 h5;have G6:Hid (Sep w0 z2 ([.own 3 y2 (0+r4+1) (s.take r4++[1+(r30:Int)]),oN,oN,oN,.box gr 34 [.int .i64 0,.slice none 0 0,.slice none 0 0,.slice none 0 0,.int .i64 0,.int .i64 0,.string ⟨#[]⟩]]++l30)):=Hd h5;clear h5)
  refine zK hK ?_;clear hK K hq_;intro hq_
  try simp only[pA]
  refine e1 13 fun K hK=>?_
  (refine step_appends_sep rfl (.tmp 174) (.tmp 177) 22 3 rfl Tryz.underlying22 Tryz.infoInt G6.out 0 rfl rfl A8 (ms-r4) (cap-r4) (s.drop r4) rfl (HI8.out _ (HST.out _ _ _ HK30.out G6.out.rest_).2.2) ?_ ?_;(focus omega);intro y3 z3 h5;have G7:Hid (Sep w0 z3 ([.own 3 y3 (0+r4+1+(ms-r4)) (s.take r4++[1+(r30:Int)]++s.drop r4),oN,oN,oN,.box gr 34 [.int .i64 0,.slice none 0 0,.slice none 0 0,.slice none 0 0,.int .i64 0,.int .i64 0,.string ⟨#[]⟩]]++l30)):=Hd h5;clear h5)
  refine zK hK ?_;clear hK K hq_;intro hq_
  try simp only[pA]
  refine zW 14 hq_ ?_
  try simp only[pA]
  refine wpAnyH_done (by kernel_rfl) ?_ _;have hmo:=Hd (show 0+r4+1+(ms-r4)=ms+1 by omega);obtain⟨O,hO⟩:∃ O,s.take r4++[1+(r30:Int)]++s.drop r4=O:=⟨_,rfl⟩;have HO:=Hd hO;have h9:=G7.out;rw[hmo.out,hO] at h9;obtain⟨Ao,co,hv,hmco,_,_⟩:=(h9.ownS 0 rfl).form;subst hv;replace H:Hid (Sep w0 z3 ([.own 3 (.slice Ao (ms+1) co) (ms+1) O,oN,oN,oN,.box gr 34 [.int .i64 0,.slice none 0 0,.slice none 0 0,.slice none 0 0,.int .i64 0,.int .i64 0,.string ⟨#[]⟩]]++l30)):=Hd h9;clear h9 hO G4 G5 G6 G7 H0 hsl1 hsl2 hwd;replace H:Hid (Sep w0 z3 ([oN,.own 3 (.slice Ao (ms+1) co) (ms+1) O,oN,oN,oN,.box gr 34 [.int .i64 0,.slice none 0 0,.slice none 0 0,.slice none 0 0,.int .i64 0,.int .i64 0,.string ⟨#[]⟩]]++l30)):=Hd (H.out.addNil 3)
  go_wp2_with fail
  go_loopw [181,16] (fun iv av wr=>∃(j:Nat) (va:Value) (acc:List Int),va=av∧iv=.int .i64 j∧j≤ms+1∧acc.length≤j∧acc++kAx r4 (ms+1-j) j=kAx r4 (ms+1) 0∧Sep w0 wr ([.own 3 va acc.length acc,.own 3 (.slice Ao (ms+1) co) (ms+1) O,oN,oN,oN,.box gr 34 [.int .i64 0,.slice none 0 0,.slice none 0 0,.slice none 0 0,.int .i64 0,.int .i64 0,.string ⟨#[]⟩]]++l30)) (fun iv _ _=>ms+1-(intOf iv).toNat)
  case atStart=>exact⟨0,_,[],rfl,rfl,by omega,Nat.le_refl _,rfl,H.out⟩
  case round =>
   clear H;obtain⟨j,va,acc,rfl,rfl,hj,hal,hq,hS⟩:=hrel;have H:=Hd hS;have HQ:=Hd hq;clear hS hq;by_cases hlt:j<ms+1
   ·obtain⟨m,hm⟩:∃ m,ms+1-j=m+1:=⟨ms-j,by omega⟩;have HM:=Hd (show ms+1-(j+1)=m by omega);have HQD:=Hd (show acc++kAx r4 (m+1) j=kAx r4 (ms+1) 0 by rw[← hm];exact HQ.out);clear hm;have dl:decide ((j:Int)<((ms+1:Nat):Int))=true:=by simp;omega
    have dl2:decide (j<ms+1)=true:=by simpa using hlt
    by_cases hjk:j=r4
    ·have dk:((j:Int) != (r4:Int))=false:=by simp;omega
     have HQE:=Hd (show acc++kAx r4 m (j+1)=kAx r4 (ms+1) 0 by have h7:=HQD.out;rw[kAx,if_pos hjk] at h7;exact h7);have HJK:=Hd hjk;clear hjk;go_wp2;go_roundw
     case rel=>exact⟨j+1,_,acc,rfl,by go_num,by omega,by omega,by rw[HM.out];exact HQE.out,H.out⟩
     case measure=>simp[intOf];omega
    ·have dk:((j:Int) != (r4:Int))=true:=by simp;omega
     have HQE:=Hd (show(acc++[(j:Int)])++kAx r4 m (j+1)=kAx r4 (ms+1) 0 by have h7:=HQD.out;rw[kAx,if_neg hjk] at h7;rw[List.append_assoc];exact h7)
     go_wp2_with (at_builtin;refine wpList_append_sep rfl (.tmp 187) (.tmp 189) 22 3 rfl Tryz.underlying22 Tryz.infoInt H.out 0 rfl rfl (j:Int) ⟨by omega,by omega⟩ _ rfl ?c1 ?_)
     case c1=>omega
     intro v' w' h';have H8:=Hd h';clear h';go_wp2;go_roundw
     case rel=>exact⟨j+1,_,acc++[(j:Int)],rfl,by go_num,by omega,by rw[List.length_append,List.length_singleton];omega,by rw[HM.out];exact HQE.out,by rw[List.length_append,List.length_singleton];exact H8.out⟩
     case measure=>simp[intOf];omega
   ·have hjm:j=ms+1:=by omega
    have dl:decide ((j:Int)<((ms+1:Nat):Int))=false:=by simp;omega
    have dl2:decide (j<ms+1)=false:=by simp;omega
    have dl3:decide ((j:Int)<(ms:Int)+1)=false:=by simp;omega
    have HE:=Hd (show kAx r4 (ms+1) 0=acc by rw[← HQ.out,hjm,Nat.sub_self,kAx,List.append_nil]);have HJM:=Hd hjm;clear hjm hlt;obtain⟨A9,c9,hv,hmc9,_,_⟩:=(H.out.ownS 0 rfl).form;subst hv;replace H:Hid (Sep w0 (wr.alloc (.cells #[.int .i64 ((r2:Int))] 3)) ([.own 3 (.slice (some ⟨wr.heap.size,0,none⟩) 1 1) 1 [((r2:Int))],.own 3 (.slice A9 acc.length c9) acc.length acc,.own 3 (.slice Ao (ms+1) co) (ms+1) O,oN,oN,oN,.box gr 34 [.int .i64 0,.slice none 0 0,.slice none 0 0,.slice none 0 0,.int .i64 0,.int .i64 0,.string ⟨#[]⟩]]++l30)):=Hd (H.out.lit 3 #[.int .i64 ((r2:Int))] [((r2:Int))] 1 _ rfl rfl (by first|(simp[litOk];done)|(simp[litOk];omega)));have HX:=Hd (show KS=(ndV 14 [(r2:Int)] O acc 0 0,a30) by rw[← HKS.out,kOp5,if_neg (by have h8:=HSL.out;have h9:=HN2.out;omega),HSL.out,HR4.out,HA4.out,HR30.out,HA30.out,Int.toNat_natCast,HO.out,HE.out]);obtain⟨rc0,rc1,rc2,rc3,rc4,rc5,rc6⟩:=H.out.cells7 6 rfl;obtain ⟨fr0,fr1,fr2,fr3,fr4,fr5,fr6⟩:=H.out.f7 6 rfl;have HF:=Hd (((((((H.out.setBox 6 0 (.int .i64 14) rfl).setBox 6 1 (.slice (some ⟨wr.heap.size,0,none⟩) 1 1) rfl).setBox 6 2 (.slice Ao (ms+1) co) rfl).setBox 6 3 (.slice A9 acc.length c9) rfl).setBox 6 4 (.int .i64 0) rfl).setBox 6 5 (.int .i64 0) rfl).setBox 6 6 (.string ⟨#[]⟩) rfl);go_wp2;refine ret_node (v0:=.int .i64 14) (v1:=.slice (some ⟨wr.heap.size,0,none⟩) 1 1) (v2:=.slice Ao (ms+1) co) (v3:=.slice A9 acc.length c9) (v4:=.int .i64 0) (v5:=.int .i64 0) (v6:=.string ⟨#[]⟩) HF.out 6 rfl Tryz.results12 rfl rfl ?_;rw[HX.out];exact⟨_,_,_,_,_,_,rfl,_,HK30.out,Sep.pick (P:=[.own 3 (.slice (some ⟨wr.heap.size,0,none⟩) 1 1) 1 [((r2:Int))],.own 3 (.slice A9 acc.length c9) acc.length acc,.own 3 (.slice Ao (ms+1) co) (ms+1) O,oN,oN,oN,.box gr 34 [.int .i64 14,.slice (some ⟨wr.heap.size,0,none⟩) 1 1,.slice Ao (ms+1) co,.slice A9 acc.length c9,.int .i64 0,.int .i64 0,.string ⟨#[]⟩]]) HF.out [0,2,1] rfl (by decide)⟩
end Go.Proofs.YtnnmplkgenhofaaGreat
