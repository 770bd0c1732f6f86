import Derived.Test.YtnnmplkgenhofaaGreatPbb
set_option maxRecDepth 100000
set_option maxHeartbeats 12800000
namespace Go.Proofs.YtnnmplkgenhofaaGreat
open Go.RowKit
def kOp8 (xs:List Int) (b q:Nat) (s:List Int) (L:List (List Int)):NodeV × Nat :=
 if s.length=0 then(ndV 5 [(q:Int)] [] [] 0 0,b)
 else(ndV 17 ([(q:Int),(kSame 0 L s).getD (tv xs b (kSame 0 L s).length).toNat 0,(q:Int)].take (2+(tv xs (ta xs b (kSame 0 L s).length) 2).toNat)) [] [tv xs (ta xs (ta xs b (kSame 0 L s).length) 2) s.length] 0 0,ta xs (ta xs (ta xs b (kSame 0 L s).length) 2) s.length)
theorem run_take39 {A:Addr} {k:Nat} (hk:k≤3):∀ w,(Instr.slice 22 (.slice (some A) 3 3) none (some (.int .i64 (k:Int))) none).run Tryz.prog w=.ok (.slice (some A) k 3) w:=by
 intro w;have hu:Tryz.prog.underlying 22=some (.slice 3):=by kernel_rfl
 go_simp
 intro h;omega
theorem node_op8 {w0 w:World} {l:List Chunk} {i g:Nat} {A:Option Addr} {n c a:Nat} {xs:List Int} {Al:Option Addr} {nl cl:Nat} {L:List (List Int)} (q b:Nat) {s:List Int} (h5:¬ tv xs a 5=0) (hq:tv xs (ta xs a 5) nl=q) (hs:L[q]? = some s) (hb:ta xs (ta xs (ta xs a 5) nl) 12=b) (hk:tv xs (ta xs (ta xs a 5) nl) 12=8) (H:Sep w0 w l) (hi:l[i]? = some (TB g A n c a)) (hI:Ints w0 A n xs) (ha:a≤n) (hL:LilsK w0 l i g A n c Al nl L) :
  Calls Tryz.prog 12 #[.pointer (some ⟨g,0,none⟩),.slice Al nl cl] w (NodePost w0 l i g A n c (kOp8 xs b q s L)):=by
 obtain⟨KS,hKS⟩:∃ q0,kOp8 xs b q s L=q0:=⟨_,rfl⟩;rw[hKS];have HKS:=Hd hKS;clear hKS;have HXL:=Hd hI.len;have HI:=Hd hI;have hnle:=hI.le;have hll:=hL.1;have hln:=hL.2.1;have HLL:=Hd hll;have HLK:=Hd hL;have HK:Hid (KT l i (TB g A n c a) l):=Hd ⟨hi,fun _=>rfl⟩;clear hll;have h1:=(((H.allocBox w.heap.size 34 [.int .i64 0,.slice none 0 0,.slice none 0 0,.slice none 0 0,.int .i64 0,.int .i64 0,.string ⟨#[]⟩] rfl).addNil 3).addNil 3).addNil 3
 go_enter Tryz.func12,Tryz.ntmps12
 go_upto_region 1 with fail
 generalize w.alloc (.cells #[.int .i64 0,.slice none 0 0,.slice none 0 0,.slice none 0 0,.int .i64 0,.int .i64 0,.string ⟨#[]⟩] 34)=W at *;generalize w.heap.size=gr at *;clear H hi hI hL;have H:Hid (Sep w0 W ([oN,oN,oN,.box gr 34 [.int .i64 0,.slice none 0 0,.slice none 0 0,.slice none 0 0,.int .i64 0,.int .i64 0,.string ⟨#[]⟩]]++l)):=Hd h1;clear h1;have hnl:0<nl:=by have h8:L.length=nl:=HLL.out;have:=(List.getElem?_eq_some_iff.1 hs).1;omega
 have dn:((nl:Int)==0)=false:=by simp;omega
 have HQ0:=Hd hq;have HB0:=Hd hb;have HK0:=Hd hk;have HS0:=Hd hs;have h5n:=Hd h5;clear hq hb hk hs h5
 go_wp2_with fail
 refine(next_s (5) H.out HK.out HI.out ha ⟨by omega,by omega⟩).mono ?_;rintro e1 w1 ⟨rfl,l1,hK,hS⟩;have b0:=tv_nonneg xs a (5);have b1:=tv_lt xs a (show(0:Int)<5 by omega);obtain⟨r1,hr⟩:∃ q,tv xs a (5)=q:=⟨_,rfl⟩;rw[hr] at b0 b1 ⊢;obtain⟨r1,rfl⟩:=Int.eq_ofNat_of_zero_le b0;have HR1:=Hd hr;have br1:(r1:Int)<5:=b1;clear b1;obtain⟨a1,ha1⟩:∃ q,ta xs a (5)=q:=⟨_,rfl⟩;have ba1:=ta_le (5) HXL.out ha;rw[ha1] at ba1 hK;have HA1:=Hd ha1;replace HK:=Hd hK;replace H:Hid (Sep w0 w1 ([oN,oN,oN,.box gr 34 [.int .i64 0,.slice none 0 0,.slice none 0 0,.slice none 0 0,.int .i64 0,.int .i64 0,.string ⟨#[]⟩]]++l1)):=Hd hS;clear hr ha1 hK hS b0;have d5:((r1:Int)==0)=false:=by have h8:=HR1.out;have h9:=h5n.out;rw[h8] at h9;simpa using h9
 go_wp2_with fail
 refine(next_s ((nl:Int)) H.out HK.out HI.out ba1 ⟨by omega,by omega⟩).mono ?_;rintro e2 w2 ⟨rfl,l2,hK,hS⟩;have b0:=tv_nonneg xs a1 ((nl:Int));have b1:=tv_lt xs a1 (show(0:Int)<(nl:Int) by omega);obtain⟨r2,hr⟩:∃ q,tv xs a1 ((nl:Int))=q:=⟨_,rfl⟩;rw[hr] at b0 b1 ⊢;obtain⟨r2,rfl⟩:=Int.eq_ofNat_of_zero_le b0;have HR2:=Hd hr;have br2:(r2:Int)<(nl:Int):=b1;clear b1;obtain⟨a2,ha2⟩:∃ q,ta xs a1 ((nl:Int))=q:=⟨_,rfl⟩;have ba2:=ta_le ((nl:Int)) HXL.out ba1;rw[ha2] at ba2 hK;have HA2:=Hd ha2;replace HK:=Hd hK;replace H:Hid (Sep w0 w2 ([oN,oN,oN,.box gr 34 [.int .i64 0,.slice none 0 0,.slice none 0 0,.slice none 0 0,.int .i64 0,.int .i64 0,.string ⟨#[]⟩]]++l2)):=Hd hS;clear hr ha2 hK hS b0;obtain rfl:r2=q:=by have h8:=HR2.out;have h9:=HQ0.out;rw[HA1.out,h8] at h9;omega
 obtain⟨la,Bs,ms,cap,hAl,hmc,hst⟩:=HLK.out.2.2 r2 s HS0.out;subst hAl;have HST:=Hd hst;obtain⟨hlb,hcl,hIs⟩:=hst w2 a2 l2 HK.out H.out.rest_;have HSL:=Hd hIs.len;have hmsl:=hIs.le;have hr2:r2<nl:=by omega
 clear hst hIs hlb
 go_wp2_with fail
 clear hcl;refine(next_s (12) H.out HK.out HI.out ba2 ⟨by omega,by omega⟩).mono ?_;rintro e3 w3 ⟨rfl,l3,hK,hS⟩;have b0:=tv_nonneg xs a2 (12);have b1:=tv_lt xs a2 (show(0:Int)<12 by omega);obtain⟨r3,hr⟩:∃ q,tv xs a2 (12)=q:=⟨_,rfl⟩;rw[hr] at b0 b1 ⊢;obtain⟨r3,rfl⟩:=Int.eq_ofNat_of_zero_le b0;have HR3:=Hd hr;have br3:(r3:Int)<12:=b1;clear b1;obtain⟨a3,ha3⟩:∃ q,ta xs a2 (12)=q:=⟨_,rfl⟩;have ba3:=ta_le (12) HXL.out ba2;rw[ha3] at ba3 hK;have HA3:=Hd ha3;replace HK:=Hd hK;replace H:Hid (Sep w0 w3 ([oN,oN,oN,.box gr 34 [.int .i64 0,.slice none 0 0,.slice none 0 0,.slice none 0 0,.int .i64 0,.int .i64 0,.string ⟨#[]⟩]]++l3)):=Hd hS;clear hr ha3 hK hS b0;obtain rfl:r3=8:=by have h8:=HR3.out;have h9:=HK0.out;rw[HA1.out,HA2.out,h8] at h9;omega
 obtain rfl:a3=b:=by have h8:=HA3.out;have h9:=HB0.out;rw[HA1.out,HA2.out,h8] at h9;exact h9
 clear HR1 HR2 HR3 HQ0 HB0 HK0 h5n d5 dn
 go_wp2_with fail
 refine(same_k (c:=cap) (HLK.out.lils HK.out H.out.rest_) (HST.out _ _ _ HK.out H.out.rest_).2.2).mono ?_;rintro e9 w9 ⟨⟨v9,m9,rfl,hO⟩,hb9⟩;have HPOS:=Hd (kSame_pos (k:=0) HS0.out);have HML:=Hd hO.len;have hm9:0<m9:=by have h8:=HML.out;have h9:=HPOS.out;omega
 obtain⟨gl,cl9,hv,_⟩:=hO.own hm9;subst hv;have hm900:m9≤900:=by have h8:=HML.out;have h9:=kSame_len s L 0;have h10:L.length=nl:=HLL.out;omega
 obtain⟨LS,hLS⟩:∃ q,kSame 0 L s=q:=⟨_,rfl⟩;rw[hLS] at hO;have HLS:=Hd hLS;have h9:=H.out.addOwn hb9 hO;replace H:Hid (Sep w0 w9 ([.own 3 (.slice (some ⟨gl,0,none⟩) m9 cl9) m9 LS,oN,oN,oN,.box gr 34 [.int .i64 0,.slice none 0 0,.slice none 0 0,.slice none 0 0,.int .i64 0,.int .i64 0,.string ⟨#[]⟩]]++l3)):=Hd h9;have HMS:Hid (LS.length=m9):=Hd (by rw[← hLS];exact HML.out);clear hO hb9 h9 hLS HML HPOS;by_cases h0:ms=0
 ·subst h0;replace H:Hid (Sep w0 (w9.alloc (.cells #[.int .i64 ((r2:Int))] 3)) ([.own 3 (.slice (some ⟨w9.heap.size,0,none⟩) 1 1) 1 [((r2:Int))],.own 3 (.slice (some ⟨gl,0,none⟩) m9 cl9) m9 LS,oN,oN,oN,.box gr 34 [.int .i64 0,.slice none 0 0,.slice none 0 0,.slice none 0 0,.int .i64 0,.int .i64 0,.string ⟨#[]⟩]]++l3)):=Hd (H.out.lit 3 #[.int .i64 ((r2:Int))] [((r2:Int))] 1 _ rfl rfl (by first|(simp[litOk];done)|(simp[litOk];omega)));have HX:=Hd (show KS=(ndV 5 [(r2:Int)] [] [] 0 0,a3) by rw[← HKS.out,kOp8,if_pos HSL.out]);obtain⟨rc0,rc1,rc2,rc3,rc4,rc5,rc6⟩:=H.out.cells7 5 rfl;obtain ⟨fr0,fr1,fr2,fr3,fr4,fr5,fr6⟩:=H.out.f7 5 rfl;have HF:=Hd (((((((H.out.setBox 5 0 (.int .i64 5) rfl).setBox 5 1 (.slice (some ⟨w9.heap.size,0,none⟩) 1 1) rfl).setBox 5 2 (.slice none 0 0) rfl).setBox 5 3 (.slice none 0 0) rfl).setBox 5 4 (.int .i64 0) rfl).setBox 5 5 (.int .i64 0) rfl).setBox 5 6 (.string ⟨#[]⟩) rfl);go_wp2;refine ret_node (v0:=.int .i64 5) (v1:=.slice (some ⟨w9.heap.size,0,none⟩) 1 1) (v2:=.slice none 0 0) (v3:=.slice none 0 0) (v4:=.int .i64 0) (v5:=.int .i64 0) (v6:=.string ⟨#[]⟩) HF.out 5 rfl Tryz.results12 rfl rfl ?_;rw[HX.out];exact⟨_,_,_,_,_,_,rfl,_,HK.out,Sep.pick (P:=[.own 3 (.slice (some ⟨w9.heap.size,0,none⟩) 1 1) 1 [((r2:Int))],.own 3 (.slice (some ⟨gl,0,none⟩) m9 cl9) m9 LS,oN,oN,oN,.box gr 34 [.int .i64 5,.slice (some ⟨w9.heap.size,0,none⟩) 1 1,.slice none 0 0,.slice none 0 0,.int .i64 0,.int .i64 0,.string ⟨#[]⟩]]) HF.out [0,2,3] rfl (by decide)⟩
 ·have d0:((ms:Int)==0)=false:=by simp;omega
  have b0:=tv_nonneg xs a3 ((m9:Int));have b1:=tv_lt xs a3 (show(0:Int)<(m9:Int) by omega);obtain⟨r4,hr⟩:∃ z,tv xs a3 ((m9:Int))=z:=⟨_,rfl⟩;rw[hr] at b0 b1;obtain⟨r4,rfl⟩:=Int.eq_ofNat_of_zero_le b0;have HR4:=Hd hr;have br4:(r4:Int)<(m9:Int):=b1;obtain⟨a4,ha4⟩:∃ z,ta xs a3 ((m9:Int))=z:=⟨_,rfl⟩;have HA4:=Hd ha4;clear hr ha4 b0 b1;have ba4:a4≤n:=by rw[← HA4.out];exact ta_le _ HXL.out ba3
  have b0:=tv_nonneg xs a4 (2);have b1:=tv_lt xs a4 (show(0:Int)<2 by omega);obtain⟨r5,hr⟩:∃ z,tv xs a4 (2)=z:=⟨_,rfl⟩;rw[hr] at b0 b1;obtain⟨r5,rfl⟩:=Int.eq_ofNat_of_zero_le b0;have HR5:=Hd hr;have br5:(r5:Int)<2:=b1;obtain⟨a5,ha5⟩:∃ z,ta xs a4 (2)=z:=⟨_,rfl⟩;have HA5:=Hd ha5;clear hr ha5 b0 b1;have ba5:a5≤n:=by rw[← HA5.out];exact ta_le _ HXL.out ba4
  have b0:=tv_nonneg xs a5 ((ms:Int));have b1:=tv_lt xs a5 (show(0:Int)<(ms:Int) by omega);obtain⟨r6,hr⟩:∃ z,tv xs a5 ((ms:Int))=z:=⟨_,rfl⟩;rw[hr] at b0 b1;obtain⟨r6,rfl⟩:=Int.eq_ofNat_of_zero_le b0;have HR6:=Hd hr;have br6:(r6:Int)<(ms:Int):=b1;obtain⟨a6,ha6⟩:∃ z,ta xs a5 ((ms:Int))=z:=⟨_,rfl⟩;have HA6:=Hd ha6;clear hr ha6 b0 b1;have ba6:a6≤n:=by rw[← HA6.out];exact ta_le _ HXL.out ba5
  obtain⟨y4,hy⟩:∃ y,LS[r4]? = some y:=⟨_,List.getElem?_eq_getElem (by have h8:=HMS.out;omega)⟩;have HY4:=Hd hy;obtain⟨fy4,fz4⟩:=(H.out.own 0 rfl).2.1 y4 (List.mem_of_getElem? hy);have hn4:r4<m9:=by omega
  have hr5:r5<2:=by omega
  clear hy;have hwd:IntKind.i64.wrap (2+(r5:Int))=2+(r5:Int):=IntWalk.i64_in _ ⟨by omega,by omega⟩;have hcut:∀(A:Addr) (w:World),(Instr.slice 22 (.slice (some A) 3 3) none (some (.int .i64 (2+(r5:Int)))) none).run Tryz.prog w=.ok (.slice (some A) (2+r5) 3) w:=fun A w=>by have h9:=run_take39 (A:=A) (k:=2+r5) (by omega) w;rwa [show((2+r5:Nat):Int)=2+(r5:Int) by omega] at h9
  have HX:=Hd (show KS=(ndV 17 ([(r2:Int),y4,(r2:Int)].take (2+r5)) [] [(r6:Int)] 0 0,a6) by rw[← HKS.out,kOp8,if_neg (by have h8:=HSL.out;omega),HLS.out,HMS.out,HSL.out,HR4.out,HA4.out,HR5.out,HA5.out,HR6.out,HA6.out,Int.toNat_natCast,Int.toNat_natCast,List.getD_eq_getElem?_getD,HY4.out];rfl)
  go_upto_region 66 with fail
  have H0:=Hd H.out.drew;have c0:=(H0.out.own 0 rfl).cell HY4.out;refine wp_region_held_drew (S:=(fun w' => w'.cell? ⟨gl,r4,none⟩=some (.int .i64 y4))) (by kernel_rfl) ?_ (fun hq_=>?_)
  ·exact c0
  refine zW 0 hq_ ?_
  try simp only[pA]
  refine zW 1 hq_ ?_
  try simp only[pA]
  refine zW 2 hq_ ?_
  try simp only[pA]
  refine zW 3 hq_ ?_
  try simp only[pA]
  refine zW 4 hq_ ?_
  try simp only[pA]
  refine zW 8 hq_ ?_
  try simp only[pA]
  refine zW 10 hq_ ?_
  try simp only[pA]
  refine zW 14 hq_ ?_
  try simp only[pA]
  refine zW 15 hq_ ?_
  try simp only[pA]
  refine zW 16 hq_ ?_
  try simp only[pA]
  refine e1 5 fun K hK=>?_
  first|(refine effU ?_ ?_;(focus rfl))|(go_simp;(go_at_call 11;have Hl:Hid (Sep w0 w9.drew ([.own 3 (.slice (some ⟨gl,0,none⟩) m9 cl9) m9 LS,oN,oN,oN,.box gr 34 [.int .i64 0,.slice none 0 0,.slice none 0 0,.slice none 0 0,.int .i64 0,.int .i64 0,.string ⟨#[]⟩]]++l3)):=Hd (H0.out);refine(next_s ((m9:Int)) Hl.out HK.out HI.out ba3 ⟨by omega,by omega⟩).mono ?_;rintro e4 w24 ⟨rfl,l24,hK,hS⟩;rw[HR4.out];rw[HA4.out] at hK;have HK4:=Hd hK;have H4:Hid (Sep w0 w24 ([.own 3 (.slice (some ⟨gl,0,none⟩) m9 cl9) m9 LS,oN,oN,oN,.box gr 34 [.int .i64 0,.slice none 0 0,.slice none 0 0,.slice none 0 0,.int .i64 0,.int .i64 0,.string ⟨#[]⟩]]++l24)):=Hd hS;have c4:=(H4.out.own 0 rfl).cell HY4.out;clear hK hS);go_wp2_with fail)
  refine zK hK ?_;clear hK K hq_;intro hq_
  try simp only[pA]
  refine zW 6 hq_ ?_
  try simp only[pA]
  refine zW 7 hq_ ?_
  try simp only[pA]
  refine rD [9,11] (aC (fun K hK=>?_) (aC (fun K hK=>?_) AllReadyH.nil))
  ·go_simp
   try go_wp2_with fail
   refine zK hK ?_ (alloc_keep _ (c4));clear hK K hq_;intro hq_
   try simp only[pA]
   refine e1 11 fun K hK=>?_
   first|(refine effU ?_ ?_;(focus rfl))|(go_simp;(go_at_call 11;have Hl:Hid (Sep w0 (w24.alloc (.cells #[.int .i64 (r2:Int),.int .i64 y4,.int .i64 (r2:Int)] 3)) ([.own 3 (.slice (some ⟨w24.heap.size,0,none⟩) 3 3) 3 [(r2:Int),y4,(r2:Int)],.own 3 (.slice (some ⟨gl,0,none⟩) m9 cl9) m9 LS,oN,oN,oN,.box gr 34 [.int .i64 0,.slice none 0 0,.slice none 0 0,.slice none 0 0,.int .i64 0,.int .i64 0,.string ⟨#[]⟩]]++l24)):=Hd ((H4.out).lit 3 #[.int .i64 (r2:Int),.int .i64 y4,.int .i64 (r2:Int)] [(r2:Int),y4,(r2:Int)] 3 (w24.heap.size) rfl rfl (by simp[litOk];omega));refine(next_s (2) Hl.out HK4.out HI.out ba4 ⟨by omega,by omega⟩).mono ?_;rintro e5 w25 ⟨rfl,l25,hK,hS⟩;rw[HR5.out];rw[HA5.out] at hK;have HK5:=Hd hK;have H5:Hid (Sep w0 w25 ([.own 3 (.slice (some ⟨w24.heap.size,0,none⟩) 3 3) 3 [(r2:Int),y4,(r2:Int)],.own 3 (.slice (some ⟨gl,0,none⟩) m9 cl9) m9 LS,oN,oN,oN,.box gr 34 [.int .i64 0,.slice none 0 0,.slice none 0 0,.slice none 0 0,.int .i64 0,.int .i64 0,.string ⟨#[]⟩]]++l25)):=Hd hS;have c5:=(H5.out.own 1 rfl).cell HY4.out;clear hK hS);go_wp2_with fail)
   refine zK hK ?_;clear hK K hq_;intro hq_
   try simp only[pA]
   refine zW 12 hq_ ?_
   try simp only[pA]
   refine zW 13 hq_ ?_
   try simp only[pA]
   refine e1 17 fun K hK=>?_
   first|(refine effU ?_ ?_;(focus rfl))|(go_simp;(go_at_call 11;have Hl:Hid (Sep w0 w25 ([.own 3 (.slice (some ⟨w24.heap.size,0,none⟩) 3 3) 3 [(r2:Int),y4,(r2:Int)],.own 3 (.slice (some ⟨gl,0,none⟩) m9 cl9) m9 LS,oN,oN,oN,.box gr 34 [.int .i64 0,.slice none 0 0,.slice none 0 0,.slice none 0 0,.int .i64 0,.int .i64 0,.string ⟨#[]⟩]]++l25)):=Hd (H5.out);refine(next_s ((ms:Int)) Hl.out HK5.out HI.out ba5 ⟨by omega,by omega⟩).mono ?_;rintro e6 w26 ⟨rfl,l26,hK,hS⟩;rw[HR6.out];rw[HA6.out] at hK;have HK6:=Hd hK;have H6:Hid (Sep w0 w26 ([.own 3 (.slice (some ⟨w24.heap.size,0,none⟩) 3 3) 3 [(r2:Int),y4,(r2:Int)],.own 3 (.slice (some ⟨gl,0,none⟩) m9 cl9) m9 LS,oN,oN,oN,.box gr 34 [.int .i64 0,.slice none 0 0,.slice none 0 0,.slice none 0 0,.int .i64 0,.int .i64 0,.string ⟨#[]⟩]]++l26)):=Hd hS;have c6:=(H6.out.own 1 rfl).cell HY4.out;clear hK hS);go_wp2_with fail)
   refine zK hK ?_;clear hK K hq_;intro hq_
   try simp only[pA]
   refine e1 18 fun K hK=>?_
   go_simp
   try go_wp2_with fail
   refine zK hK ?_ (alloc_keep _ (c6));clear hK K hq_;intro hq_
   try simp only[pA]
   refine zW 19 hq_ ?_
   try simp only[pA]
   refine e1 20 fun K hK=>?_
   (have h6:=((H6.out).lit 3 #[.int .i64 (r6:Int)] [(r6:Int)] 1 (w26.heap.size) rfl rfl (by simp[litOk];omega));have h7:=h6.takeOwn 1 rfl (show 2+r5≤3 by omega) (by omega);have H8:Hid (Sep w0 (w26.alloc (.cells #[.int .i64 (r6:Int)] 3)) ([.own 3 (.slice (some ⟨w26.heap.size,0,none⟩) 1 1) 1 [(r6:Int)],.own 3 (.slice (some ⟨w24.heap.size,0,none⟩) (2+r5) 3) (2+r5) ([(r2:Int),y4,(r2:Int)].take (2+r5)),.own 3 (.slice (some ⟨gl,0,none⟩) m9 cl9) m9 LS,oN,oN,oN,.box gr 34 [.int .i64 0,.slice none 0 0,.slice none 0 0,.slice none 0 0,.int .i64 0,.int .i64 0,.string ⟨#[]⟩]]++l26)):=Hd h7;obtain ⟨rc0,rc1,rc2,rc3,rc4,rc5,rc6⟩:=H8.out.cells7 6 rfl;obtain ⟨fr0,fr1,fr2,fr3,fr4,fr5,fr6⟩:=H8.out.f7 6 rfl;have HF:Hid (Sep w0 ((((((((w26.alloc (.cells #[.int .i64 (r6:Int)] 3)).setCell ⟨gr,0,none⟩ (.int .i64 17)).setCell ⟨gr,1,none⟩ (.slice (some ⟨w24.heap.size,0,none⟩) (2+r5) 3)).setCell ⟨gr,2,none⟩ (.slice none 0 0)).setCell ⟨gr,3,none⟩ (.slice (some ⟨w26.heap.size,0,none⟩) 1 1)).setCell ⟨gr,4,none⟩ (.int .i64 0)).setCell ⟨gr,5,none⟩ (.int .i64 0)).setCell ⟨gr,6,none⟩ (.string ⟨#[]⟩)) ([.own 3 (.slice (some ⟨w26.heap.size,0,none⟩) 1 1) 1 [(r6:Int)],.own 3 (.slice (some ⟨w24.heap.size,0,none⟩) (2+r5) 3) (2+r5) ([(r2:Int),y4,(r2:Int)].take (2+r5)),.own 3 (.slice (some ⟨gl,0,none⟩) m9 cl9) m9 LS,oN,oN,oN,.box gr 34 [.int .i64 17,.slice (some ⟨w24.heap.size,0,none⟩) (2+r5) 3,.slice none 0 0,.slice (some ⟨w26.heap.size,0,none⟩) 1 1,.int .i64 0,.int .i64 0,.string ⟨#[]⟩]]++l26)):=Hd (((((((H8.out.setBox 6 0 (.int .i64 17) rfl).setBox 6 1 (.slice (some ⟨w24.heap.size,0,none⟩) (2+r5) 3) rfl).setBox 6 2 (.slice none 0 0) rfl).setBox 6 3 (.slice (some ⟨w26.heap.size,0,none⟩) 1 1) rfl).setBox 6 4 (.int .i64 0) rfl).setBox 6 5 (.int .i64 0) rfl).setBox 6 6 (.string ⟨#[]⟩) rfl);have f4:=(HF.out.own 2 rfl).cell HY4.out;have HFIN:∃ vA mA vC mC,(.slice (some ⟨w24.heap.size,0,none⟩) (2+r5) 3:Value)=vA∧(.slice (some ⟨w26.heap.size,0,none⟩) 1 1:Value)=vC∧Sep w0 ((((((((w26.alloc (.cells #[.int .i64 (r6:Int)] 3)).setCell ⟨gr,0,none⟩ (.int .i64 17)).setCell ⟨gr,1,none⟩ (.slice (some ⟨w24.heap.size,0,none⟩) (2+r5) 3)).setCell ⟨gr,2,none⟩ (.slice none 0 0)).setCell ⟨gr,3,none⟩ (.slice (some ⟨w26.heap.size,0,none⟩) 1 1)).setCell ⟨gr,4,none⟩ (.int .i64 0)).setCell ⟨gr,5,none⟩ (.int .i64 0)).setCell ⟨gr,6,none⟩ (.string ⟨#[]⟩)) ([.own 3 vA mA ([(r2:Int),y4,(r2:Int)].take (2+r5)),oN,.own 3 vC mC [(r6:Int)]]++l26):=⟨_,_,_,_,rfl,rfl,Sep.pick HF.out [1,3,0] rfl (by decide)⟩;clear h6 h7;go_simp;try go_wp2_with fail)
   refine zK hK ?_;clear hK K hq_;intro hq_
   try simp only[pA]
   refine wpAnyH_done (by kernel_rfl) ?_ _;go_wp2;refine ret_node HF.out 6 rfl Tryz.results12 rfl rfl ?_;rw[HX.out];obtain⟨vA,mA,vC,mC,rfl,rfl,hfin⟩:=HFIN;exact⟨_,_,_,_,_,_,rfl,_,HK6.out,hfin⟩
  ·first|(refine effU ?_ ?_;(focus rfl))|(go_simp;(go_at_call 11;have Hl:Hid (Sep w0 w24 ([.own 3 (.slice (some ⟨gl,0,none⟩) m9 cl9) m9 LS,oN,oN,oN,.box gr 34 [.int .i64 0,.slice none 0 0,.slice none 0 0,.slice none 0 0,.int .i64 0,.int .i64 0,.string ⟨#[]⟩]]++l24)):=Hd (H4.out);refine(next_s (2) Hl.out HK4.out HI.out ba4 ⟨by omega,by omega⟩).mono ?_;rintro e5 w25 ⟨rfl,l25,hK,hS⟩;rw[HR5.out];rw[HA5.out] at hK;have HK5:=Hd hK;have H5:Hid (Sep w0 w25 ([.own 3 (.slice (some ⟨gl,0,none⟩) m9 cl9) m9 LS,oN,oN,oN,.box gr 34 [.int .i64 0,.slice none 0 0,.slice none 0 0,.slice none 0 0,.int .i64 0,.int .i64 0,.string ⟨#[]⟩]]++l25)):=Hd hS;have c5:=(H5.out.own 0 rfl).cell HY4.out;clear hK hS);go_wp2_with fail)
   refine zK hK ?_;clear hK K hq_;intro hq_
   try simp only[pA]
   refine zW 12 hq_ ?_
   try simp only[pA]
   refine rD [9,17] (aC (fun K hK=>?_) (aC (fun K hK=>?_) AllReadyH.nil))
   ·go_simp
    try go_wp2_with fail
    refine zK hK ?_ (alloc_keep _ (c5));clear hK K hq_;intro hq_
    try simp only[pA]
    refine zW 13 hq_ ?_
    try simp only[pA]
    refine e1 17 fun K hK=>?_
    first|(refine effU ?_ ?_;(focus rfl))|(go_simp;(go_at_call 11;have Hl:Hid (Sep w0 (w25.alloc (.cells #[.int .i64 (r2:Int),.int .i64 y4,.int .i64 (r2:Int)] 3)) ([.own 3 (.slice (some ⟨w25.heap.size,0,none⟩) 3 3) 3 [(r2:Int),y4,(r2:Int)],.own 3 (.slice (some ⟨gl,0,none⟩) m9 cl9) m9 LS,oN,oN,oN,.box gr 34 [.int .i64 0,.slice none 0 0,.slice none 0 0,.slice none 0 0,.int .i64 0,.int .i64 0,.string ⟨#[]⟩]]++l25)):=Hd ((H5.out).lit 3 #[.int .i64 (r2:Int),.int .i64 y4,.int .i64 (r2:Int)] [(r2:Int),y4,(r2:Int)] 3 (w25.heap.size) rfl rfl (by simp[litOk];omega));refine(next_s ((ms:Int)) Hl.out HK5.out HI.out ba5 ⟨by omega,by omega⟩).mono ?_;rintro e6 w26 ⟨rfl,l26,hK,hS⟩;rw[HR6.out];rw[HA6.out] at hK;have HK6:=Hd hK;have H6:Hid (Sep w0 w26 ([.own 3 (.slice (some ⟨w25.heap.size,0,none⟩) 3 3) 3 [(r2:Int),y4,(r2:Int)],.own 3 (.slice (some ⟨gl,0,none⟩) m9 cl9) m9 LS,oN,oN,oN,.box gr 34 [.int .i64 0,.slice none 0 0,.slice none 0 0,.slice none 0 0,.int .i64 0,.int .i64 0,.string ⟨#[]⟩]]++l26)):=Hd hS;have c6:=(H6.out.own 1 rfl).cell HY4.out;clear hK hS);go_wp2_with fail)
    refine zK hK ?_;clear hK K hq_;intro hq_
    try simp only[pA]
    refine e1 18 fun K hK=>?_
    go_simp
    try go_wp2_with fail
    refine zK hK ?_ (alloc_keep _ (c6));clear hK K hq_;intro hq_
    try simp only[pA]
    refine zW 19 hq_ ?_
    try simp only[pA]
    refine e1 20 fun K hK=>?_
    (have h6:=((H6.out).lit 3 #[.int .i64 (r6:Int)] [(r6:Int)] 1 (w26.heap.size) rfl rfl (by simp[litOk];omega));have h7:=h6.takeOwn 1 rfl (show 2+r5≤3 by omega) (by omega);have H8:Hid (Sep w0 (w26.alloc (.cells #[.int .i64 (r6:Int)] 3)) ([.own 3 (.slice (some ⟨w26.heap.size,0,none⟩) 1 1) 1 [(r6:Int)],.own 3 (.slice (some ⟨w25.heap.size,0,none⟩) (2+r5) 3) (2+r5) ([(r2:Int),y4,(r2:Int)].take (2+r5)),.own 3 (.slice (some ⟨gl,0,none⟩) m9 cl9) m9 LS,oN,oN,oN,.box gr 34 [.int .i64 0,.slice none 0 0,.slice none 0 0,.slice none 0 0,.int .i64 0,.int .i64 0,.string ⟨#[]⟩]]++l26)):=Hd h7;obtain ⟨rc0,rc1,rc2,rc3,rc4,rc5,rc6⟩:=H8.out.cells7 6 rfl;obtain ⟨fr0,fr1,fr2,fr3,fr4,fr5,fr6⟩:=H8.out.f7 6 rfl;have HF:Hid (Sep w0 ((((((((w26.alloc (.cells #[.int .i64 (r6:Int)] 3)).setCell ⟨gr,0,none⟩ (.int .i64 17)).setCell ⟨gr,1,none⟩ (.slice (some ⟨w25.heap.size,0,none⟩) (2+r5) 3)).setCell ⟨gr,2,none⟩ (.slice none 0 0)).setCell ⟨gr,3,none⟩ (.slice (some ⟨w26.heap.size,0,none⟩) 1 1)).setCell ⟨gr,4,none⟩ (.int .i64 0)).setCell ⟨gr,5,none⟩ (.int .i64 0)).setCell ⟨gr,6,none⟩ (.string ⟨#[]⟩)) ([.own 3 (.slice (some ⟨w26.heap.size,0,none⟩) 1 1) 1 [(r6:Int)],.own 3 (.slice (some ⟨w25.heap.size,0,none⟩) (2+r5) 3) (2+r5) ([(r2:Int),y4,(r2:Int)].take (2+r5)),.own 3 (.slice (some ⟨gl,0,none⟩) m9 cl9) m9 LS,oN,oN,oN,.box gr 34 [.int .i64 17,.slice (some ⟨w25.heap.size,0,none⟩) (2+r5) 3,.slice none 0 0,.slice (some ⟨w26.heap.size,0,none⟩) 1 1,.int .i64 0,.int .i64 0,.string ⟨#[]⟩]]++l26)):=Hd (((((((H8.out.setBox 6 0 (.int .i64 17) rfl).setBox 6 1 (.slice (some ⟨w25.heap.size,0,none⟩) (2+r5) 3) rfl).setBox 6 2 (.slice none 0 0) rfl).setBox 6 3 (.slice (some ⟨w26.heap.size,0,none⟩) 1 1) rfl).setBox 6 4 (.int .i64 0) rfl).setBox 6 5 (.int .i64 0) rfl).setBox 6 6 (.string ⟨#[]⟩) rfl);have f4:=(HF.out.own 2 rfl).cell HY4.out;have HFIN:∃ vA mA vC mC,(.slice (some ⟨w25.heap.size,0,none⟩) (2+r5) 3:Value)=vA∧(.slice (some ⟨w26.heap.size,0,none⟩) 1 1:Value)=vC∧Sep w0 ((((((((w26.alloc (.cells #[.int .i64 (r6:Int)] 3)).setCell ⟨gr,0,none⟩ (.int .i64 17)).setCell ⟨gr,1,none⟩ (.slice (some ⟨w25.heap.size,0,none⟩) (2+r5) 3)).setCell ⟨gr,2,none⟩ (.slice none 0 0)).setCell ⟨gr,3,none⟩ (.slice (some ⟨w26.heap.size,0,none⟩) 1 1)).setCell ⟨gr,4,none⟩ (.int .i64 0)).setCell ⟨gr,5,none⟩ (.int .i64 0)).setCell ⟨gr,6,none⟩ (.string ⟨#[]⟩)) ([.own 3 vA mA ([(r2:Int),y4,(r2:Int)].take (2+r5)),oN,.own 3 vC mC [(r6:Int)]]++l26):=⟨_,_,_,_,rfl,rfl,Sep.pick HF.out [1,3,0] rfl (by decide)⟩;clear h6 h7;go_simp;try go_wp2_with fail)
    refine zK hK ?_;clear hK K hq_;intro hq_
    try simp only[pA]
    refine wpAnyH_done (by kernel_rfl) ?_ _;go_wp2;refine ret_node HF.out 6 rfl Tryz.results12 rfl rfl ?_;rw[HX.out];obtain⟨vA,mA,vC,mC,rfl,rfl,hfin⟩:=HFIN;exact⟨_,_,_,_,_,_,rfl,_,HK6.out,hfin⟩
   ·first|(refine effU ?_ ?_;(focus rfl))|(go_simp;(go_at_call 11;have Hl:Hid (Sep w0 w25 ([.own 3 (.slice (some ⟨gl,0,none⟩) m9 cl9) m9 LS,oN,oN,oN,.box gr 34 [.int .i64 0,.slice none 0 0,.slice none 0 0,.slice none 0 0,.int .i64 0,.int .i64 0,.string ⟨#[]⟩]]++l25)):=Hd (H5.out);refine(next_s ((ms:Int)) Hl.out HK5.out HI.out ba5 ⟨by omega,by omega⟩).mono ?_;rintro e6 w26 ⟨rfl,l26,hK,hS⟩;rw[HR6.out];rw[HA6.out] at hK;have HK6:=Hd hK;have H6:Hid (Sep w0 w26 ([.own 3 (.slice (some ⟨gl,0,none⟩) m9 cl9) m9 LS,oN,oN,oN,.box gr 34 [.int .i64 0,.slice none 0 0,.slice none 0 0,.slice none 0 0,.int .i64 0,.int .i64 0,.string ⟨#[]⟩]]++l26)):=Hd hS;have c6:=(H6.out.own 0 rfl).cell HY4.out;clear hK hS);go_wp2_with fail)
    refine zK hK ?_;clear hK K hq_;intro hq_
    try simp only[pA]
    refine rD [9,18] (aC (fun K hK=>?_) (aC (fun K hK=>?_) AllReadyH.nil))
    ·go_simp
     try go_wp2_with fail
     refine zK hK ?_ (alloc_keep _ (c6));clear hK K hq_;intro hq_
     try simp only[pA]
     refine zW 13 hq_ ?_
     try simp only[pA]
     refine e1 18 fun K hK=>?_
     go_simp
     try go_wp2_with fail
     refine zK hK ?_ (alloc_keep _ (alloc_keep _ (c6)));clear hK K hq_;intro hq_
     try simp only[pA]
     refine zW 19 hq_ ?_
     try simp only[pA]
     refine e1 20 fun K hK=>?_
     (have h6:=(((H6.out).lit 3 #[.int .i64 (r2:Int),.int .i64 y4,.int .i64 (r2:Int)] [(r2:Int),y4,(r2:Int)] 3 (w26.heap.size) rfl rfl (by simp[litOk];omega)).lit 3 #[.int .i64 (r6:Int)] [(r6:Int)] 1 (w26.heap.size+1) (by rw[size_alloc]) rfl (by simp[litOk];omega));have h7:=h6.takeOwn 1 rfl (show 2+r5≤3 by omega) (by omega);have H8:Hid (Sep w0 ((w26.alloc (.cells #[.int .i64 (r2:Int),.int .i64 y4,.int .i64 (r2:Int)] 3)).alloc (.cells #[.int .i64 (r6:Int)] 3)) ([.own 3 (.slice (some ⟨w26.heap.size+1,0,none⟩) 1 1) 1 [(r6:Int)],.own 3 (.slice (some ⟨w26.heap.size,0,none⟩) (2+r5) 3) (2+r5) ([(r2:Int),y4,(r2:Int)].take (2+r5)),.own 3 (.slice (some ⟨gl,0,none⟩) m9 cl9) m9 LS,oN,oN,oN,.box gr 34 [.int .i64 0,.slice none 0 0,.slice none 0 0,.slice none 0 0,.int .i64 0,.int .i64 0,.string ⟨#[]⟩]]++l26)):=Hd h7;obtain ⟨rc0,rc1,rc2,rc3,rc4,rc5,rc6⟩:=H8.out.cells7 6 rfl;obtain ⟨fr0,fr1,fr2,fr3,fr4,fr5,fr6⟩:=H8.out.f7 6 rfl;have HF:Hid (Sep w0 (((((((((w26.alloc (.cells #[.int .i64 (r2:Int),.int .i64 y4,.int .i64 (r2:Int)] 3)).alloc (.cells #[.int .i64 (r6:Int)] 3)).setCell ⟨gr,0,none⟩ (.int .i64 17)).setCell ⟨gr,1,none⟩ (.slice (some ⟨w26.heap.size,0,none⟩) (2+r5) 3)).setCell ⟨gr,2,none⟩ (.slice none 0 0)).setCell ⟨gr,3,none⟩ (.slice (some ⟨w26.heap.size+1,0,none⟩) 1 1)).setCell ⟨gr,4,none⟩ (.int .i64 0)).setCell ⟨gr,5,none⟩ (.int .i64 0)).setCell ⟨gr,6,none⟩ (.string ⟨#[]⟩)) ([.own 3 (.slice (some ⟨w26.heap.size+1,0,none⟩) 1 1) 1 [(r6:Int)],.own 3 (.slice (some ⟨w26.heap.size,0,none⟩) (2+r5) 3) (2+r5) ([(r2:Int),y4,(r2:Int)].take (2+r5)),.own 3 (.slice (some ⟨gl,0,none⟩) m9 cl9) m9 LS,oN,oN,oN,.box gr 34 [.int .i64 17,.slice (some ⟨w26.heap.size,0,none⟩) (2+r5) 3,.slice none 0 0,.slice (some ⟨w26.heap.size+1,0,none⟩) 1 1,.int .i64 0,.int .i64 0,.string ⟨#[]⟩]]++l26)):=Hd (((((((H8.out.setBox 6 0 (.int .i64 17) rfl).setBox 6 1 (.slice (some ⟨w26.heap.size,0,none⟩) (2+r5) 3) rfl).setBox 6 2 (.slice none 0 0) rfl).setBox 6 3 (.slice (some ⟨w26.heap.size+1,0,none⟩) 1 1) rfl).setBox 6 4 (.int .i64 0) rfl).setBox 6 5 (.int .i64 0) rfl).setBox 6 6 (.string ⟨#[]⟩) rfl);have f4:=(HF.out.own 2 rfl).cell HY4.out;have HFIN:∃ vA mA vC mC,(.slice (some ⟨w26.heap.size,0,none⟩) (2+r5) 3:Value)=vA∧(.slice (some ⟨w26.heap.size+1,0,none⟩) 1 1:Value)=vC∧Sep w0 (((((((((w26.alloc (.cells #[.int .i64 (r2:Int),.int .i64 y4,.int .i64 (r2:Int)] 3)).alloc (.cells #[.int .i64 (r6:Int)] 3)).setCell ⟨gr,0,none⟩ (.int .i64 17)).setCell ⟨gr,1,none⟩ (.slice (some ⟨w26.heap.size,0,none⟩) (2+r5) 3)).setCell ⟨gr,2,none⟩ (.slice none 0 0)).setCell ⟨gr,3,none⟩ (.slice (some ⟨w26.heap.size+1,0,none⟩) 1 1)).setCell ⟨gr,4,none⟩ (.int .i64 0)).setCell ⟨gr,5,none⟩ (.int .i64 0)).setCell ⟨gr,6,none⟩ (.string ⟨#[]⟩)) ([.own 3 vA mA ([(r2:Int),y4,(r2:Int)].take (2+r5)),oN,.own 3 vC mC [(r6:Int)]]++l26):=⟨_,_,_,_,rfl,rfl,Sep.pick HF.out [1,3,0] rfl (by decide)⟩;clear h6 h7;go_simp;try go_wp2_with fail)
     refine zK hK ?_;clear hK K hq_;intro hq_
     try simp only[pA]
     refine wpAnyH_done (by kernel_rfl) ?_ _;go_wp2;refine ret_node HF.out 6 rfl Tryz.results12 rfl rfl ?_;rw[HX.out];obtain⟨vA,mA,vC,mC,rfl,rfl,hfin⟩:=HFIN;exact⟨_,_,_,_,_,_,rfl,_,HK6.out,hfin⟩
    ·go_simp
     try go_wp2_with fail
     refine zK hK ?_ (alloc_keep _ (c6));clear hK K hq_;intro hq_
     try simp only[pA]
     refine e1 9 fun K hK=>?_
     go_simp
     try go_wp2_with fail
     refine zK hK ?_ (alloc_keep _ (alloc_keep _ (c6)));clear hK K hq_;intro hq_
     try simp only[pA]
     refine zW 13 hq_ ?_
     try simp only[pA]
     refine zW 19 hq_ ?_
     try simp only[pA]
     refine e1 20 fun K hK=>?_
     (have h6:=(((H6.out).lit 3 #[.int .i64 (r6:Int)] [(r6:Int)] 1 (w26.heap.size) rfl rfl (by simp[litOk];omega)).lit 3 #[.int .i64 (r2:Int),.int .i64 y4,.int .i64 (r2:Int)] [(r2:Int),y4,(r2:Int)] 3 (w26.heap.size+1) (by rw[size_alloc]) rfl (by simp[litOk];omega));have h7:=h6.takeOwn 0 rfl (show 2+r5≤3 by omega) (by omega);have H8:Hid (Sep w0 ((w26.alloc (.cells #[.int .i64 (r6:Int)] 3)).alloc (.cells #[.int .i64 (r2:Int),.int .i64 y4,.int .i64 (r2:Int)] 3)) ([.own 3 (.slice (some ⟨w26.heap.size+1,0,none⟩) (2+r5) 3) (2+r5) ([(r2:Int),y4,(r2:Int)].take (2+r5)),.own 3 (.slice (some ⟨w26.heap.size,0,none⟩) 1 1) 1 [(r6:Int)],.own 3 (.slice (some ⟨gl,0,none⟩) m9 cl9) m9 LS,oN,oN,oN,.box gr 34 [.int .i64 0,.slice none 0 0,.slice none 0 0,.slice none 0 0,.int .i64 0,.int .i64 0,.string ⟨#[]⟩]]++l26)):=Hd h7;obtain ⟨rc0,rc1,rc2,rc3,rc4,rc5,rc6⟩:=H8.out.cells7 6 rfl;obtain ⟨fr0,fr1,fr2,fr3,fr4,fr5,fr6⟩:=H8.out.f7 6 rfl;have HF:Hid (Sep w0 (((((((((w26.alloc (.cells #[.int .i64 (r6:Int)] 3)).alloc (.cells #[.int .i64 (r2:Int),.int .i64 y4,.int .i64 (r2:Int)] 3)).setCell ⟨gr,0,none⟩ (.int .i64 17)).setCell ⟨gr,1,none⟩ (.slice (some ⟨w26.heap.size+1,0,none⟩) (2+r5) 3)).setCell ⟨gr,2,none⟩ (.slice none 0 0)).setCell ⟨gr,3,none⟩ (.slice (some ⟨w26.heap.size,0,none⟩) 1 1)).setCell ⟨gr,4,none⟩ (.int .i64 0)).setCell ⟨gr,5,none⟩ (.int .i64 0)).setCell ⟨gr,6,none⟩ (.string ⟨#[]⟩)) ([.own 3 (.slice (some ⟨w26.heap.size+1,0,none⟩) (2+r5) 3) (2+r5) ([(r2:Int),y4,(r2:Int)].take (2+r5)),.own 3 (.slice (some ⟨w26.heap.size,0,none⟩) 1 1) 1 [(r6:Int)],.own 3 (.slice (some ⟨gl,0,none⟩) m9 cl9) m9 LS,oN,oN,oN,.box gr 34 [.int .i64 17,.slice (some ⟨w26.heap.size+1,0,none⟩) (2+r5) 3,.slice none 0 0,.slice (some ⟨w26.heap.size,0,none⟩) 1 1,.int .i64 0,.int .i64 0,.string ⟨#[]⟩]]++l26)):=Hd (((((((H8.out.setBox 6 0 (.int .i64 17) rfl).setBox 6 1 (.slice (some ⟨w26.heap.size+1,0,none⟩) (2+r5) 3) rfl).setBox 6 2 (.slice none 0 0) rfl).setBox 6 3 (.slice (some ⟨w26.heap.size,0,none⟩) 1 1) rfl).setBox 6 4 (.int .i64 0) rfl).setBox 6 5 (.int .i64 0) rfl).setBox 6 6 (.string ⟨#[]⟩) rfl);have f4:=(HF.out.own 2 rfl).cell HY4.out;have HFIN:∃ vA mA vC mC,(.slice (some ⟨w26.heap.size+1,0,none⟩) (2+r5) 3:Value)=vA∧(.slice (some ⟨w26.heap.size,0,none⟩) 1 1:Value)=vC∧Sep w0 (((((((((w26.alloc (.cells #[.int .i64 (r6:Int)] 3)).alloc (.cells #[.int .i64 (r2:Int),.int .i64 y4,.int .i64 (r2:Int)] 3)).setCell ⟨gr,0,none⟩ (.int .i64 17)).setCell ⟨gr,1,none⟩ (.slice (some ⟨w26.heap.size+1,0,none⟩) (2+r5) 3)).setCell ⟨gr,2,none⟩ (.slice none 0 0)).setCell ⟨gr,3,none⟩ (.slice (some ⟨w26.heap.size,0,none⟩) 1 1)).setCell ⟨gr,4,none⟩ (.int .i64 0)).setCell ⟨gr,5,none⟩ (.int .i64 0)).setCell ⟨gr,6,none⟩ (.string ⟨#[]⟩)) ([.own 3 vA mA ([(r2:Int),y4,(r2:Int)].take (2+r5)),oN,.own 3 vC mC [(r6:Int)]]++l26):=⟨_,_,_,_,rfl,rfl,Sep.pick HF.out [0,3,1] rfl (by decide)⟩;clear h6 h7;go_simp;try go_wp2_with fail)
     refine zK hK ?_;clear hK K hq_;intro hq_
     try simp only[pA]
     refine wpAnyH_done (by kernel_rfl) ?_ _;go_wp2;refine ret_node HF.out 6 rfl Tryz.results12 rfl rfl ?_;rw[HX.out];obtain⟨vA,mA,vC,mC,rfl,rfl,hfin⟩:=HFIN;exact⟨_,_,_,_,_,_,rfl,_,HK6.out,hfin⟩
end Go.Proofs.YtnnmplkgenhofaaGreat
