import Derived.Test.YtnnmplkgenhofaaGreatPba
set_option maxRecDepth 100000
set_option maxHeartbeats 12800000
namespace Go.Proofs.YtnnmplkgenhofaaGreat
open Go.RowKit
def kPerm (xs:List Int):Nat→Nat→Nat→List Int→List Int × Nat
 | 0,_,a,p=>(p,a)
 | m+1,j,a,p=>kPerm xs m (j+1) (ta xs a (j+1)) (p.take (tv xs a (j+1)).toNat++[(j:Int)]++p.drop (tv xs a (j+1)).toNat)
def kOp4 (xs:List Int) (b q:Nat) (s:List Int):NodeV × Nat :=
 (ndV 13 [(q:Int)] [] (kPerm xs s.length 0 b []).1 0 0,(kPerm xs s.length 0 b []).2)
theorem node_op4 {w0 w:World} {l:List Chunk} {i g:Nat} {A:Option Addr} {n c a:Nat} {xs:List Int} {Al:Option Addr} {nl cl:Nat} {L:List (List Int)} (q b:Nat) {s:List Int} (h5:¬ tv xs a 5=0) (hq:tv xs (ta xs a 5) nl=q) (hs:L[q]? = some s) (hb:ta xs (ta xs (ta xs a 5) nl) 12=b) (hk:tv xs (ta xs (ta xs a 5) nl) 12=4) (hs4:s.length≤4) (H:Sep w0 w l) (hi:l[i]? = some (TB g A n c a)) (hI:Ints w0 A n xs) (ha:a≤n) (hL:LilsK w0 l i g A n c Al nl L) :
  Calls Tryz.prog 12 #[.pointer (some ⟨g,0,none⟩),.slice Al nl cl] w (NodePost w0 l i g A n c (kOp4 xs b q s)):=by
 obtain⟨KS,hKS⟩:∃ q0,kOp4 xs b q s=q0:=⟨_,rfl⟩;rw[hKS];have HKS:=Hd hKS;clear hKS;have HXL:=Hd hI.len;have HI:=Hd hI;have hnle:=hI.le;have hll:=hL.1;have hln:=hL.2.1;have HLL:=Hd hll;have HLK:=Hd hL;have HK:Hid (KT l i (TB g A n c a) l):=Hd ⟨hi,fun _=>rfl⟩;clear hll;have h1:=(((H.allocBox w.heap.size 34 [.int .i64 0,.slice none 0 0,.slice none 0 0,.slice none 0 0,.int .i64 0,.int .i64 0,.string ⟨#[]⟩] rfl).addNil 3).addNil 3).addNil 3
 go_enter Tryz.func12,Tryz.ntmps12
 go_upto_region 1 with fail
 generalize w.alloc (.cells #[.int .i64 0,.slice none 0 0,.slice none 0 0,.slice none 0 0,.int .i64 0,.int .i64 0,.string ⟨#[]⟩] 34)=W at *;generalize w.heap.size=gr at *;clear H hi hI hL;have H:Hid (Sep w0 W ([oN,oN,oN,.box gr 34 [.int .i64 0,.slice none 0 0,.slice none 0 0,.slice none 0 0,.int .i64 0,.int .i64 0,.string ⟨#[]⟩]]++l)):=Hd h1;clear h1;have hnl:0<nl:=by have h8:L.length=nl:=HLL.out;have:=(List.getElem?_eq_some_iff.1 hs).1;omega
 have dn:((nl:Int)==0)=false:=by simp;omega
 have HQ0:=Hd hq;have HB0:=Hd hb;have HK0:=Hd hk;have HS0:=Hd hs;have h5n:=Hd h5;clear hq hb hk hs h5
 go_wp2_with fail
 refine(next_s (5) H.out HK.out HI.out ha ⟨by omega,by omega⟩).mono ?_;rintro e1 w1 ⟨rfl,l1,hK,hS⟩;have b0:=tv_nonneg xs a (5);have b1:=tv_lt xs a (show(0:Int)<5 by omega);obtain⟨r1,hr⟩:∃ q,tv xs a (5)=q:=⟨_,rfl⟩;rw[hr] at b0 b1 ⊢;obtain⟨r1,rfl⟩:=Int.eq_ofNat_of_zero_le b0;have HR1:=Hd hr;have br1:(r1:Int)<5:=b1;clear b1;obtain⟨a1,ha1⟩:∃ q,ta xs a (5)=q:=⟨_,rfl⟩;have ba1:=ta_le (5) HXL.out ha;rw[ha1] at ba1 hK;have HA1:=Hd ha1;replace HK:=Hd hK;replace H:Hid (Sep w0 w1 ([oN,oN,oN,.box gr 34 [.int .i64 0,.slice none 0 0,.slice none 0 0,.slice none 0 0,.int .i64 0,.int .i64 0,.string ⟨#[]⟩]]++l1)):=Hd hS;clear hr ha1 hK hS b0;have d5:((r1:Int)==0)=false:=by have h8:=HR1.out;have h9:=h5n.out;rw[h8] at h9;simpa using h9
 go_wp2_with fail
 refine(next_s ((nl:Int)) H.out HK.out HI.out ba1 ⟨by omega,by omega⟩).mono ?_;rintro e2 w2 ⟨rfl,l2,hK,hS⟩;have b0:=tv_nonneg xs a1 ((nl:Int));have b1:=tv_lt xs a1 (show(0:Int)<(nl:Int) by omega);obtain⟨r2,hr⟩:∃ q,tv xs a1 ((nl:Int))=q:=⟨_,rfl⟩;rw[hr] at b0 b1 ⊢;obtain⟨r2,rfl⟩:=Int.eq_ofNat_of_zero_le b0;have HR2:=Hd hr;have br2:(r2:Int)<(nl:Int):=b1;clear b1;obtain⟨a2,ha2⟩:∃ q,ta xs a1 ((nl:Int))=q:=⟨_,rfl⟩;have ba2:=ta_le ((nl:Int)) HXL.out ba1;rw[ha2] at ba2 hK;have HA2:=Hd ha2;replace HK:=Hd hK;replace H:Hid (Sep w0 w2 ([oN,oN,oN,.box gr 34 [.int .i64 0,.slice none 0 0,.slice none 0 0,.slice none 0 0,.int .i64 0,.int .i64 0,.string ⟨#[]⟩]]++l2)):=Hd hS;clear hr ha2 hK hS b0;obtain rfl:r2=q:=by have h8:=HR2.out;have h9:=HQ0.out;rw[HA1.out,h8] at h9;omega
 obtain⟨la,Bs,ms,cap,hAl,hmc,hst⟩:=HLK.out.2.2 r2 s HS0.out;subst hAl;have HST:=Hd hst;obtain⟨hlb,hcl,hIs⟩:=hst w2 a2 l2 HK.out H.out.rest_;have HSL:=Hd hIs.len;have hmsl:=hIs.le;have hr2:r2<nl:=by omega
 clear hst hIs hlb
 go_wp2_with fail
 clear hcl;refine(next_s (12) H.out HK.out HI.out ba2 ⟨by omega,by omega⟩).mono ?_;rintro e3 w3 ⟨rfl,l3,hK,hS⟩;have b0:=tv_nonneg xs a2 (12);have b1:=tv_lt xs a2 (show(0:Int)<12 by omega);obtain⟨r3,hr⟩:∃ q,tv xs a2 (12)=q:=⟨_,rfl⟩;rw[hr] at b0 b1 ⊢;obtain⟨r3,rfl⟩:=Int.eq_ofNat_of_zero_le b0;have HR3:=Hd hr;have br3:(r3:Int)<12:=b1;clear b1;obtain⟨a3,ha3⟩:∃ q,ta xs a2 (12)=q:=⟨_,rfl⟩;have ba3:=ta_le (12) HXL.out ba2;rw[ha3] at ba3 hK;have HA3:=Hd ha3;replace HK:=Hd hK;replace H:Hid (Sep w0 w3 ([oN,oN,oN,.box gr 34 [.int .i64 0,.slice none 0 0,.slice none 0 0,.slice none 0 0,.int .i64 0,.int .i64 0,.string ⟨#[]⟩]]++l3)):=Hd hS;clear hr ha3 hK hS b0;obtain rfl:r3=4:=by have h8:=HR3.out;have h9:=HK0.out;rw[HA1.out,HA2.out,h8] at h9;omega
 obtain rfl:a3=b:=by have h8:=HA3.out;have h9:=HB0.out;rw[HA1.out,HA2.out,h8] at h9;exact h9
 clear HR1 HR2 HR3 HQ0 HB0 HK0 h5n d5 dn
 go_wp2_with fail
 replace H:Hid (Sep w0 w3 ([oN,oN,oN,oN,.box gr 34 [.int .i64 0,.slice none 0 0,.slice none 0 0,.slice none 0 0,.int .i64 0,.int .i64 0,.string ⟨#[]⟩]]++l3)):=Hd (H.out.addNil 3)
 go_loopw [128,11] (fun iv av wr=>∃(j:Nat) (vp:Value) (acc:List Int) (a9:Nat) (l9:List Chunk),vp=av∧iv=.int .i64 j∧j≤ms∧a9≤n∧kPerm xs (ms-j) j a9 acc=kPerm xs ms 0 a3 []∧KT l i (TB g A n c a9) l9∧Sep w0 wr ([.own 3 vp j acc,oN,oN,oN,.box gr 34 [.int .i64 0,.slice none 0 0,.slice none 0 0,.slice none 0 0,.int .i64 0,.int .i64 0,.string ⟨#[]⟩]]++l9)) (fun iv _ _=>ms-(intOf iv).toNat)
 case atStart=>exact⟨0,_,[],a3,_,rfl,rfl,by omega,ba3,rfl,HK.out,H.out⟩
 case round =>
  clear H HK;obtain⟨j,vp,acc,a9,l9,rfl,rfl,hj,ba9,hq,hK,hS⟩:=hrel;obtain⟨Ap,cp,hv,hmcp,_,_⟩:=(hS.ownS 0 rfl).form;subst hv;have HAL:Hid (acc.length=j):=Hd (hS.ownS 0 rfl).len;have H:Hid (Sep w0 wr ([.own 3 (.slice Ap j cp) j acc,oN,oN,oN,.box gr 34 [.int .i64 0,.slice none 0 0,.slice none 0 0,.slice none 0 0,.int .i64 0,.int .i64 0,.string ⟨#[]⟩]]++l9)):=Hd hS;have HK:=Hd hK;have HQ:=Hd hq;clear hS hK hq;by_cases hlt:j<ms
  ·obtain⟨m,hm⟩:∃ m,ms-j=m+1:=⟨ms-j-1,by omega⟩;have HM:=Hd (show ms-(j+1)=m by omega);have HQD:=Hd (show kPerm xs (m+1) j a9 acc=kPerm xs ms 0 a3 [] by rw[← hm];exact HQ.out);clear hm;have hj4:j≤4:=by have h8:=HSL.out;omega
   go_wp2_with fail
   refine(next_s ((j:Int)+1) H.out HK.out HI.out ba9 ⟨by omega,by omega⟩).mono ?_;rintro e21 w21 ⟨rfl,l21,hK,hS⟩;have b0:=tv_nonneg xs a9 ((j:Int)+1);have b1:=tv_lt xs a9 (show(0:Int)<(j:Int)+1 by omega);obtain⟨r21,hr⟩:∃ q,tv xs a9 ((j:Int)+1)=q:=⟨_,rfl⟩;rw[hr] at b0 b1 ⊢;obtain⟨r21,rfl⟩:=Int.eq_ofNat_of_zero_le b0;have HR21:=Hd hr;have br21:(r21:Int)<(j:Int)+1:=b1;clear b1;obtain⟨a21,ha21⟩:∃ q,ta xs a9 ((j:Int)+1)=q:=⟨_,rfl⟩;have ba21:=ta_le ((j:Int)+1) HXL.out ba9;rw[ha21] at ba21 hK;have HA21:=Hd ha21;replace HK:=Hd hK;replace H:Hid (Sep w0 w21 ([.own 3 (.slice Ap j cp) j acc,oN,oN,oN,.box gr 34 [.int .i64 0,.slice none 0 0,.slice none 0 0,.slice none 0 0,.int .i64 0,.int .i64 0,.string ⟨#[]⟩]]++l21)):=Hd hS;clear hr ha21 hK hS b0;have hk:r21≤j:=by omega
   have HQE:=Hd (show kPerm xs m (j+1) a21 (acc.take r21++[(j:Int)]++acc.drop r21)=kPerm xs ms 0 a3 [] by have h7:=HQD.out;rw[kPerm,HR21.out,HA21.out,Int.toNat_natCast] at h7;exact h7);have hsl1:=run_takeG ((H.out.ownInts 0 rfl).2.2) hk hmcp;have hsl2:=run_dropG ((H.out.ownInts 0 rfl).2.2) hk hmcp;obtain⟨A8,hA8⟩:∃ A8,dropA Ap cp r21=A8:=⟨_,rfl⟩;rw[hA8] at hsl2;have HI8:Hid (∀ w,Ints w Ap j acc→Ints w A8 (j-r21) (acc.drop r21)):=Hd (fun w h=>by have h9:=h.dropA hk hmcp;rw[hA8] at h9;exact h9);clear hA8;have HLN:=Hd (show 0+r21+1+(j-r21)=j+1 by omega)
   go_upto_region 30 with fail
   have H0:=Hd H.out.drew;refine wp_region_held_drew (S:=(fun _=>True)) (by kernel_rfl) ?_ (fun hq_=>?_)
   ·trivial
   refine zW 1 hq_ ?_
   try simp only[pA]
   refine zW 2 hq_ ?_
   try simp only[pA]
   refine zW 3 hq_ ?_
   try simp only[pA]
   refine zW 5 hq_ ?_
   try simp only[pA]
   refine zW 8 hq_ ?_
   try simp only[pA]
   refine zW 9 hq_ ?_
   try simp only[pA]
   refine zW 10 hq_ ?_
   try simp only[pA]
   refine rD [0,6] (aC (fun K hK=>?_) (aC (fun K hK=>?_) AllReadyH.nil))
   ·go_simp
    try go_wp2_with fail
    refine zK hK ?_;clear hK K hq_;intro hq_
    try simp only[pA]
    refine rD [4,6] (aC (fun K hK=>?_) (aC (fun K hK=>?_) AllReadyH.nil))
    ·(have Ge:=Hd (H0.out.empty 3);refine step_appends_sep rfl (.tmp 135) (.tmp 138) 22 3 rfl Tryz.underlying22 Tryz.infoInt Ge.out 0 rfl rfl Ap r21 cp (acc.take r21) rfl ((Ge.out.ownInts 1 rfl).2.2.take hk) ?_ ?_;(focus omega);intro y1 z1 h5;have G4:Hid (Sep w0 z1 ([.own 3 y1 (0+r21) (acc.take r21),.own 3 (.slice Ap j cp) j acc,oN,oN,oN,.box gr 34 [.int .i64 0,.slice none 0 0,.slice none 0 0,.slice none 0 0,.int .i64 0,.int .i64 0,.string ⟨#[]⟩]]++l21)):=Hd h5;clear h5 Ge)
     refine zK hK ?_;clear hK K hq_;intro hq_
     try simp only[pA]
     refine e1 6 fun K hK=>?_
     go_simp
     try go_wp2_with fail
     refine zK hK ?_;clear hK K hq_;intro hq_
     try simp only[pA]
     refine e1 7 fun K hK=>?_
     (refine step_append_sep rfl (.tmp 139) (.tmp 141) 22 3 rfl Tryz.underlying22 Tryz.infoInt G4.out 0 rfl rfl (j:Int) ⟨by omega,by omega⟩ _ rfl ?_ ?_;(focus omega);intro y2 z2 h5;have G5:Hid (Sep w0 z2 ([.own 3 y2 (0+r21+1) (acc.take r21++[(j:Int)]),.own 3 (.slice Ap j cp) j acc,oN,oN,oN,.box gr 34 [.int .i64 0,.slice none 0 0,.slice none 0 0,.slice none 0 0,.int .i64 0,.int .i64 0,.string ⟨#[]⟩]]++l21)):=Hd h5;clear h5)
     refine zK hK ?_;clear hK K hq_;intro hq_
     try simp only[pA]
     refine e1 11 fun K hK=>?_
     (refine step_appends_sep rfl (.tmp 142) (.tmp 145) 22 3 rfl Tryz.underlying22 Tryz.infoInt G5.out 0 rfl rfl A8 (j-r21) (cp-r21) (acc.drop r21) rfl (HI8.out _ (G5.out.ownInts 1 rfl).2.2) ?_ ?_;(focus omega);intro y3 z3 h5;have h6:Sep w0 z3 ([.own 3 y3 (0+r21+1+(j-r21)) (acc.take r21++[(j:Int)]++acc.drop r21),.own 3 (.slice Ap j cp) j acc,oN,oN,oN,.box gr 34 [.int .i64 0,.slice none 0 0,.slice none 0 0,.slice none 0 0,.int .i64 0,.int .i64 0,.string ⟨#[]⟩]]++l21):=h5;have G6:Hid (Sep w0 z3 ([.own 3 y3 (0+r21+1+(j-r21)) (acc.take r21++[(j:Int)]++acc.drop r21),oN,oN,oN,.box gr 34 [.int .i64 0,.slice none 0 0,.slice none 0 0,.slice none 0 0,.int .i64 0,.int .i64 0,.string ⟨#[]⟩]]++l21)):=Hd (Sep.less1 h6);clear h5 h6)
     refine zK hK ?_;clear hK K hq_;intro hq_
     try simp only[pA]
     refine zW 12 hq_ ?_
     try simp only[pA]
     refine wpAnyH_done (by kernel_rfl) ?_ _;go_wp2;go_roundw
     case rel=>exact⟨j+1,_,_,a21,_,rfl,by go_num,by omega,ba21,by rw[HM.out];exact HQE.out,HK.out,by rw[← HLN.out];exact G6.out⟩
     case measure=>simp[intOf];omega
    ·go_simp
     try go_wp2_with fail
     refine zK hK ?_;clear hK K hq_;intro hq_
     try simp only[pA]
     refine e1 4 fun K hK=>?_
     (have Ge:=Hd ((H0.out.empty 3).lit 3 #[.int .i64 (j:Int)] [(j:Int)] 1 (w21.drew.heap.size+1) (by rw[size_alloc]) rfl (by simp[litOk];omega));refine step_appends_sep rfl (.tmp 135) (.tmp 138) 22 3 rfl Tryz.underlying22 Tryz.infoInt Ge.out 1 rfl rfl Ap r21 cp (acc.take r21) rfl ((Ge.out.ownInts 2 rfl).2.2.take hk) ?_ ?_;(focus omega);intro y1 z1 h5;have G4:Hid (Sep w0 z1 ([.own 3 (.slice (some ⟨w21.drew.heap.size+1,0,none⟩) 1 1) 1 [(j:Int)],.own 3 y1 (0+r21) (acc.take r21),.own 3 (.slice Ap j cp) j acc,oN,oN,oN,.box gr 34 [.int .i64 0,.slice none 0 0,.slice none 0 0,.slice none 0 0,.int .i64 0,.int .i64 0,.string ⟨#[]⟩]]++l21)):=Hd h5;clear h5 Ge)
     refine zK hK ?_;clear hK K hq_;intro hq_
     try simp only[pA]
     refine e1 7 fun K hK=>?_
     (refine step_appends_sep rfl (.tmp 139) (.tmp 141) 22 3 rfl Tryz.underlying22 Tryz.infoInt G4.out 1 rfl rfl _ 1 1 [(j:Int)] rfl ((G4.out.ownInts 0 rfl).2.2) ?_ ?_;(focus omega);intro y2 z2 h5;have G5:Hid (Sep w0 z2 ([.own 3 (.slice (some ⟨w21.drew.heap.size+1,0,none⟩) 1 1) 1 [(j:Int)],.own 3 y2 (0+r21+1) (acc.take r21++[(j:Int)]),.own 3 (.slice Ap j cp) j acc,oN,oN,oN,.box gr 34 [.int .i64 0,.slice none 0 0,.slice none 0 0,.slice none 0 0,.int .i64 0,.int .i64 0,.string ⟨#[]⟩]]++l21)):=Hd h5;clear h5)
     refine zK hK ?_;clear hK K hq_;intro hq_
     try simp only[pA]
     refine e1 11 fun K hK=>?_
     (refine step_appends_sep rfl (.tmp 142) (.tmp 145) 22 3 rfl Tryz.underlying22 Tryz.infoInt G5.out 1 rfl rfl A8 (j-r21) (cp-r21) (acc.drop r21) rfl (HI8.out _ (G5.out.ownInts 2 rfl).2.2) ?_ ?_;(focus omega);intro y3 z3 h5;have h6:Sep w0 z3 ([.own 3 (.slice (some ⟨w21.drew.heap.size+1,0,none⟩) 1 1) 1 [(j:Int)],.own 3 y3 (0+r21+1+(j-r21)) (acc.take r21++[(j:Int)]++acc.drop r21),.own 3 (.slice Ap j cp) j acc,oN,oN,oN,.box gr 34 [.int .i64 0,.slice none 0 0,.slice none 0 0,.slice none 0 0,.int .i64 0,.int .i64 0,.string ⟨#[]⟩]]++l21):=h5;have G6:Hid (Sep w0 z3 ([.own 3 y3 (0+r21+1+(j-r21)) (acc.take r21++[(j:Int)]++acc.drop r21),oN,oN,oN,.box gr 34 [.int .i64 0,.slice none 0 0,.slice none 0 0,.slice none 0 0,.int .i64 0,.int .i64 0,.string ⟨#[]⟩]]++l21)):=Hd (Sep.less1 (Sep.tail_ h6));clear h5 h6)
     refine zK hK ?_;clear hK K hq_;intro hq_
     try simp only[pA]
     refine zW 12 hq_ ?_
     try simp only[pA]
     refine wpAnyH_done (by kernel_rfl) ?_ _;go_wp2;go_roundw
     case rel=>exact⟨j+1,_,_,a21,_,rfl,by go_num,by omega,ba21,by rw[HM.out];exact HQE.out,HK.out,by rw[← HLN.out];exact G6.out⟩
     case measure=>simp[intOf];omega
   ·go_simp
    try go_wp2_with fail
    refine zK hK ?_;clear hK K hq_;intro hq_
    try simp only[pA]
    refine e1 0 fun K hK=>?_
    go_simp
    try go_wp2_with fail
    refine zK hK ?_;clear hK K hq_;intro hq_
    try simp only[pA]
    refine e1 4 fun K hK=>?_
    (have Ge:=Hd ((H0.out.lit 3 #[.int .i64 (j:Int)] [(j:Int)] 1 w21.drew.heap.size rfl rfl (by simp[litOk];omega)).emptyAt9 3 (w21.drew.heap.size+1) (by rw[size_alloc]));refine step_appends_sep rfl (.tmp 135) (.tmp 138) 22 3 rfl Tryz.underlying22 Tryz.infoInt Ge.out 0 rfl rfl Ap r21 cp (acc.take r21) rfl ((Ge.out.ownInts 2 rfl).2.2.take hk) ?_ ?_;(focus omega);intro y1 z1 h5;have G4:Hid (Sep w0 z1 ([.own 3 y1 (0+r21) (acc.take r21),.own 3 (.slice (some ⟨w21.drew.heap.size,0,none⟩) 1 1) 1 [(j:Int)],.own 3 (.slice Ap j cp) j acc,oN,oN,oN,.box gr 34 [.int .i64 0,.slice none 0 0,.slice none 0 0,.slice none 0 0,.int .i64 0,.int .i64 0,.string ⟨#[]⟩]]++l21)):=Hd h5;clear h5 Ge)
    refine zK hK ?_;clear hK K hq_;intro hq_
    try simp only[pA]
    refine e1 7 fun K hK=>?_
    (refine step_appends_sep rfl (.tmp 139) (.tmp 141) 22 3 rfl Tryz.underlying22 Tryz.infoInt G4.out 0 rfl rfl _ 1 1 [(j:Int)] rfl ((G4.out.ownInts 1 rfl).2.2) ?_ ?_;(focus omega);intro y2 z2 h5;have G5:Hid (Sep w0 z2 ([.own 3 y2 (0+r21+1) (acc.take r21++[(j:Int)]),.own 3 (.slice (some ⟨w21.drew.heap.size,0,none⟩) 1 1) 1 [(j:Int)],.own 3 (.slice Ap j cp) j acc,oN,oN,oN,.box gr 34 [.int .i64 0,.slice none 0 0,.slice none 0 0,.slice none 0 0,.int .i64 0,.int .i64 0,.string ⟨#[]⟩]]++l21)):=Hd h5;clear h5)
    refine zK hK ?_;clear hK K hq_;intro hq_
    try simp only[pA]
    refine e1 11 fun K hK=>?_
    (refine step_appends_sep rfl (.tmp 142) (.tmp 145) 22 3 rfl Tryz.underlying22 Tryz.infoInt G5.out 0 rfl rfl A8 (j-r21) (cp-r21) (acc.drop r21) rfl (HI8.out _ (G5.out.ownInts 2 rfl).2.2) ?_ ?_;(focus omega);intro y3 z3 h5;have h6:Sep w0 z3 ([.own 3 y3 (0+r21+1+(j-r21)) (acc.take r21++[(j:Int)]++acc.drop r21),.own 3 (.slice (some ⟨w21.drew.heap.size,0,none⟩) 1 1) 1 [(j:Int)],.own 3 (.slice Ap j cp) j acc,oN,oN,oN,.box gr 34 [.int .i64 0,.slice none 0 0,.slice none 0 0,.slice none 0 0,.int .i64 0,.int .i64 0,.string ⟨#[]⟩]]++l21):=h5;have G6:Hid (Sep w0 z3 ([.own 3 y3 (0+r21+1+(j-r21)) (acc.take r21++[(j:Int)]++acc.drop r21),oN,oN,oN,.box gr 34 [.int .i64 0,.slice none 0 0,.slice none 0 0,.slice none 0 0,.int .i64 0,.int .i64 0,.string ⟨#[]⟩]]++l21)):=Hd (Sep.less1 (Sep.less1 h6));clear h5 h6)
    refine zK hK ?_;clear hK K hq_;intro hq_
    try simp only[pA]
    refine zW 12 hq_ ?_
    try simp only[pA]
    refine wpAnyH_done (by kernel_rfl) ?_ _;go_wp2;go_roundw
    case rel=>exact⟨j+1,_,_,a21,_,rfl,by go_num,by omega,ba21,by rw[HM.out];exact HQE.out,HK.out,by rw[← HLN.out];exact G6.out⟩
    case measure=>simp[intOf];omega
  ·have hjm:j=ms:=by omega
   subst hjm;have HE:=Hd (show kPerm xs j 0 a3 []=(acc,a9) by rw[← HQ.out,Nat.sub_self,kPerm]);replace H:Hid (Sep w0 (wr.alloc (.cells #[.int .i64 ((r2:Int))] 3)) ([.own 3 (.slice (some ⟨wr.heap.size,0,none⟩) 1 1) 1 [((r2:Int))],.own 3 (.slice Ap j cp) j acc,oN,oN,oN,.box gr 34 [.int .i64 0,.slice none 0 0,.slice none 0 0,.slice none 0 0,.int .i64 0,.int .i64 0,.string ⟨#[]⟩]]++l9)):=Hd (H.out.lit 3 #[.int .i64 ((r2:Int))] [((r2:Int))] 1 _ rfl rfl (by first|(simp[litOk];done)|(simp[litOk];omega)));have HX:=Hd (show KS=(ndV 13 [(r2:Int)] [] acc 0 0,a9) by rw[← HKS.out,kOp4,HSL.out,HE.out]);obtain⟨rc0,rc1,rc2,rc3,rc4,rc5,rc6⟩:=H.out.cells7 5 rfl;obtain ⟨fr0,fr1,fr2,fr3,fr4,fr5,fr6⟩:=H.out.f7 5 rfl;have HF:=Hd (((((((H.out.setBox 5 0 (.int .i64 13) rfl).setBox 5 1 (.slice (some ⟨wr.heap.size,0,none⟩) 1 1) rfl).setBox 5 2 (.slice none 0 0) rfl).setBox 5 3 (.slice Ap j cp) rfl).setBox 5 4 (.int .i64 0) rfl).setBox 5 5 (.int .i64 0) rfl).setBox 5 6 (.string ⟨#[]⟩) rfl);go_wp2;refine ret_node (v0:=.int .i64 13) (v1:=.slice (some ⟨wr.heap.size,0,none⟩) 1 1) (v2:=.slice none 0 0) (v3:=.slice Ap j cp) (v4:=.int .i64 0) (v5:=.int .i64 0) (v6:=.string ⟨#[]⟩) HF.out 5 rfl Tryz.results12 rfl rfl ?_;rw[HX.out];exact⟨_,_,_,_,_,_,rfl,_,HK.out,Sep.pick (P:=[.own 3 (.slice (some ⟨wr.heap.size,0,none⟩) 1 1) 1 [((r2:Int))],.own 3 (.slice Ap j cp) j acc,oN,oN,oN,.box gr 34 [.int .i64 13,.slice (some ⟨wr.heap.size,0,none⟩) 1 1,.slice none 0 0,.slice Ap j cp,.int .i64 0,.int .i64 0,.string ⟨#[]⟩]]) HF.out [0,2,1] rfl (by decide)⟩
end Go.Proofs.YtnnmplkgenhofaaGreat
