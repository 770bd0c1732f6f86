import Derived.Test.YtnnmplkgenhofaaGreatPbc
set_option maxRecDepth 100000
set_option maxHeartbeats 12800000
namespace Go.Proofs.YtnnmplkgenhofaaGreat
open Go.RowKit
noncomputable def dotHit (s t:List Int) (j:Nat):Bool:=decide ((shapeR (ndV 19 [0,1] [] [(j:Int)] 0 0) [s,t]).1=0) && decide (Sh.size (shapeR (ndV 19 [0,1] [] [(j:Int)] 0 0) [s,t]).2≤300)
noncomputable def kDot (xs:List Int) (L:List (List Int)) (s:List Int) (q:Nat):Nat→Nat→Nat→NodeV × Nat
 | 0,_,a=>(ndV 5 [(q:Int)] [] [] 0 0,a)
 | m+1,k,a =>
  if dotHit s (L.getD ((k+(tv xs a 3).toNat) % L.length) []) 0=true then(ndV 19 [(q:Int),(((k+(tv xs a 3).toNat) % L.length:Nat):Int)] [] [0] 0 0,ta xs a 3)
  else if dotHit s (L.getD ((k+(tv xs a 3).toNat) % L.length) []) 1=true then(ndV 19 [(q:Int),(((k+(tv xs a 3).toNat) % L.length:Nat):Int)] [] [1] 0 0,ta xs a 3)
  else kDot xs L s q m (k+1) (ta xs a 3)
theorem lils2 {w:World} {g:Nat} {B C:Option Addr} {m c m' c' : Nat} {s t:List Int} (hb:g<w.heap.size) (h0:w.cell? ⟨g,0,none⟩=some (.slice B m c)) (h1:w.cell? ⟨g,1,none⟩=some (.slice C m' c')) (hc:m≤c) (hc' : m' ≤ c') (hI:Ints w B m s) (hJ:Ints w C m' t):Lils w (some ⟨g,0,none⟩) 2 [s,t] :=
 ⟨rfl,by omega,fun j x hx=>by
  match j,hx with
  | 0,hx=>simp at hx;subst hx;exact⟨_,B,m,c,rfl,hb,by rw[addrL0];exact h0,hc,hI⟩
  | 1,hx=>simp at hx;subst hx;exact⟨_,C,m', c', rfl,hb,by rw[addrL0];exact h1,hc', hJ⟩
  | j+2,hx=>simp at hx⟩
theorem dot_k {w0 w:World} {l:List Chunk} {i g:Nat} {A:Option Addr} {n c a:Nat} {xs:List Int} {Al:Option Addr} {nl cl:Nat} {L:List (List Int)} (q:Nat) {s:List Int} (hs:L[q]? = some s) (H:Sep w0 w l) (hi:l[i]? = some (TB g A n c a)) (hI:Ints w0 A n xs) (ha:a≤n) (hL:LilsK w0 l i g A n c Al nl L) :
  Calls Tryz.prog 33 #[.pointer (some ⟨g,0,none⟩),.slice Al nl cl,.int .i64 q] w (NodePost w0 l i g A n c (kDot xs L s q nl 0 a)):=by
 obtain⟨KS,hKS⟩:∃ q0,kDot xs L s q nl 0 a=q0:=⟨_,rfl⟩;rw[hKS];have HKS:=Hd hKS;clear hKS;have HXL:=Hd hI.len;have HI:=Hd hI;have hnle:=hI.le;have hll:=hL.1;have hln:=hL.2.1;have HLL:=Hd hll;have HLK:=Hd hL;have HK:Hid (KT l i (TB g A n c a) l):=Hd ⟨hi,fun _=>rfl⟩;clear hll;have h1:=(((H.allocBox w.heap.size 34 [.int .i64 0,.slice none 0 0,.slice none 0 0,.slice none 0 0,.int .i64 0,.int .i64 0,.string ⟨#[]⟩] rfl).addNil 3).addNil 3).addNil 3
 go_enter Tryz.func33,Tryz.ntmps33
 go_upto_region 1 with fail
 generalize w.alloc (.cells #[.int .i64 0,.slice none 0 0,.slice none 0 0,.slice none 0 0,.int .i64 0,.int .i64 0,.string ⟨#[]⟩] 34)=W at *;generalize w.heap.size=gr at *;clear H hi hI hL;have H:Hid (Sep w0 W ([oN,oN,oN,.box gr 34 [.int .i64 0,.slice none 0 0,.slice none 0 0,.slice none 0 0,.int .i64 0,.int .i64 0,.string ⟨#[]⟩]]++l)):=Hd h1;clear h1;have hnl:0<nl:=by have h8:L.length=nl:=HLL.out;have:=(List.getElem?_eq_some_iff.1 hs).1;omega
 have hqn:q<nl:=by have h8:L.length=nl:=HLL.out;have:=(List.getElem?_eq_some_iff.1 hs).1;omega
 have HS0:=Hd hs;clear hs;obtain⟨la,Bs,ms,cap,hAl,hmc,hst⟩:=HLK.out.2.2 q s HS0.out;subst hAl;have HST:=Hd hst;obtain⟨hlb,hcl,hIs⟩:=hst W a l HK.out H.out.rest_;have HSL:=Hd hIs.len;clear hst hIs hlb
 go_wp2_with fail
 clear hcl
 go_loopw [8] (fun kv wr=>∃(k a9:Nat) (l9:List Chunk),kv=.int .i64 k∧k≤nl∧a9≤n∧kDot xs L s q (nl-k) k a9=KS∧KT l i (TB g A n c a9) l9∧Sep w0 wr ([oN,oN,oN,.box gr 34 [.int .i64 0,.slice none 0 0,.slice none 0 0,.slice none 0 0,.int .i64 0,.int .i64 0,.string ⟨#[]⟩]]++l9)) (fun kv _=>nl-(intOf kv).toNat)
 case atStart=>exact⟨0,a,l,rfl,by omega,ha,HKS.out,HK.out,H.out⟩
 case round =>
  clear H HK;obtain⟨k,a9,l9,rfl,hj,ba9,hq,hK,hS⟩:=hrel;have H:=Hd hS;have HK:=Hd hK;have HQ:=Hd hq;clear hS hK hq;by_cases hlt:k<nl
  ·obtain⟨m,hm⟩:∃ m,nl-k=m+1:=⟨nl-k-1,by omega⟩;have HM:=Hd (show nl-(k+1)=m by omega);have HQD:=Hd (show kDot xs L s q (m+1) k a9=KS by rw[← hm];exact HQ.out);clear hm
   go_wp2_with fail
   refine(next_s (3) H.out HK.out HI.out ba9 ⟨by omega,by omega⟩).mono ?_;rintro e21 w21 ⟨rfl,l21,hK,hS⟩;have b0:=tv_nonneg xs a9 (3);have b1:=tv_lt xs a9 (show(0:Int)<3 by omega);obtain⟨r21,hr⟩:∃ q,tv xs a9 (3)=q:=⟨_,rfl⟩;rw[hr] at b0 b1 ⊢;obtain⟨r21,rfl⟩:=Int.eq_ofNat_of_zero_le b0;have HR21:=Hd hr;have br21:(r21:Int)<3:=b1;clear b1;obtain⟨a21,ha21⟩:∃ q,ta xs a9 (3)=q:=⟨_,rfl⟩;have ba21:=ta_le (3) HXL.out ba9;rw[ha21] at ba21 hK;have HA21:=Hd ha21;replace HK:=Hd hK;replace H:Hid (Sep w0 w21 ([oN,oN,oN,.box gr 34 [.int .i64 0,.slice none 0 0,.slice none 0 0,.slice none 0 0,.int .i64 0,.int .i64 0,.string ⟨#[]⟩]]++l21)):=Hd hS;clear hr ha21 hK hS b0;obtain⟨b,hb⟩:∃ b,(k+r21) % nl=b:=⟨_,rfl⟩;have hbn:b<nl:=by rw[← hb];exact Nat.mod_lt _ hnl
   have HBI:=Hd (show((k:Int)+(r21:Int)) % (nl:Int)=(b:Int) by rw[← hb];simp);have hn0:¬ (nl:Int)=0:=by omega
   have hmod0:(0:Int)≤(k:Int)+(r21:Int):=by omega
   have hbn2:(k+r21) % nl<nl:=by rw[hb];exact hbn
   have hB0:(0:Int)≤((k:Int)+(r21:Int)) % (nl:Int):=Int.emod_nonneg _ hn0;have hB1:((k:Int)+(r21:Int)) % (nl:Int)<(nl:Int):=Int.emod_lt_of_pos _ (by omega);obtain⟨t,ht⟩:∃ t,L[b]? = some t:=⟨_,List.getElem?_eq_getElem (by have h8:L.length=nl:=HLL.out;omega)⟩;have HGT:=Hd (show L.getD b []=t by rw[List.getD_eq_getElem?_getD,ht];rfl);have HBB:=Hd hb;obtain⟨lb,Bt,mt,capt,hAl,hmct,hstt⟩:=HLK.out.2.2 b t ht;injection hAl with hAl
   subst hAl;have HTT:=Hd hstt;clear hstt ht hb
   go_wp2_with fail
   go_loopw [10] (fun nv wr=>∃ j:Nat,nv=.int .i64 j∧j≤2∧(∀ e:Nat,e<j→dotHit s t e=false)∧Sep w0 wr ([oN,oN,oN,.box gr 34 [.int .i64 0,.slice none 0 0,.slice none 0 0,.slice none 0 0,.int .i64 0,.int .i64 0,.string ⟨#[]⟩]]++l21)) (fun nv _=>2-(intOf nv).toNat)
   case atStart=>exact⟨0,rfl,by omega,by omega,H.out⟩
   case round =>
    clear H;obtain⟨j,rfl,hj2,hno,hS⟩:=hrel;have H:=Hd hS;have HNO:=Hd hno;clear hS hno;by_cases hl2:j<2
    ·have dj:decide ((j:Int)<2)=true:=by simp;omega
     replace H:Hid (Sep w0 (wr.alloc (.cells #[.int .i64 ((j:Int))] 3)) ([.own 3 (.slice (some ⟨wr.heap.size,0,none⟩) 1 1) 1 [((j:Int))],oN,oN,oN,.box gr 34 [.int .i64 0,.slice none 0 0,.slice none 0 0,.slice none 0 0,.int .i64 0,.int .i64 0,.string ⟨#[]⟩]]++l21)):=Hd (H.out.lit 3 #[.int .i64 ((j:Int))] [((j:Int))] 1 _ rfl rfl (by first|(simp[litOk];done)|(simp[litOk];omega)));replace H:Hid (Sep w0 ((wr.alloc (.cells #[.int .i64 ((j:Int))] 3)).alloc (.cells #[.int .i64 0,.int .i64 1] 3)) ([.own 3 (.slice (some ⟨wr.heap.size+1,0,none⟩) 2 2) 2 [0,1],.own 3 (.slice (some ⟨wr.heap.size,0,none⟩) 1 1) 1 [((j:Int))],oN,oN,oN,.box gr 34 [.int .i64 0,.slice none 0 0,.slice none 0 0,.slice none 0 0,.int .i64 0,.int .i64 0,.string ⟨#[]⟩]]++l21)):=Hd (H.out.lit 3 #[.int .i64 0,.int .i64 1] [0,1] 2 (wr.heap.size+1) (by rw[size_alloc]) rfl (by decide));have HA:=Hd (HTT.out _ _ _ HK.out H.out.rest_);have hct:=HA.out.2.1;rw[← HBB.out] at hct;have H2:Hid (Sep w0 (((wr.alloc (.cells #[.int .i64 ((j:Int))] 3)).alloc (.cells #[.int .i64 0,.int .i64 1] 3)).alloc (.cells #[.slice Bs ms cap,.slice Bt mt capt] 22)) ([.box (wr.heap.size+1+1) 22 [.slice Bs ms cap,.slice Bt mt capt],.own 3 (.slice (some ⟨wr.heap.size+1,0,none⟩) 2 2) 2 [0,1],.own 3 (.slice (some ⟨wr.heap.size,0,none⟩) 1 1) 1 [((j:Int))],oN,oN,oN,.box gr 34 [.int .i64 0,.slice none 0 0,.slice none 0 0,.slice none 0 0,.int .i64 0,.int .i64 0,.string ⟨#[]⟩]]++l21)):=Hd (H.out.allocBox (wr.heap.size+1+1) 22 [.slice Bs ms cap,.slice Bt mt capt] (by simp));have hLi:=lils2 (H2.out.blockLt 0 rfl).2 (H2.out.cell 0 0 rfl rfl) (H2.out.cell 0 1 rfl rfl) hmc hmct (HST.out _ _ _ HK.out H2.out.rest_).2.2 (HTT.out _ _ _ HK.out H2.out.rest_).2.2;have hNd:NodeIs (((wr.alloc (.cells #[.int .i64 ((j:Int))] 3)).alloc (.cells #[.int .i64 0,.int .i64 1] 3)).alloc (.cells #[.slice Bs ms cap,.slice Bt mt capt] 22)) (.agg #[.int .i64 19,.slice (some ⟨wr.heap.size+1,0,none⟩) 2 2,.slice none 0 0,.slice (some ⟨wr.heap.size,0,none⟩) 1 1,.int .i64 0,.int .i64 0,.string ⟨#[]⟩]) (ndV 19 [0,1] [] [(j:Int)] 0 0):=⟨_,_,_,_,_,_,_,_,_,rfl,⟨Nat.le_refl _,Nat.le_refl _,Nat.le_refl _,(H2.out.ownInts 1 rfl).2.2,Ints.nil_ _ _,(H2.out.ownInts 2 rfl).2.2,⟨by simp only[ndV];decide,by simp only[ndV];decide⟩,⟨by simp only[ndV];decide,by simp only[ndV];decide⟩,⟨by simp only[ndV];decide,by simp only[ndV];decide⟩,by simp only[ndV];decide⟩⟩;have CS:=ref10Shape_any (cl:=2) hNd hLi;obtain⟨⟨e5,s5⟩,hR⟩:∃ r,shapeR (ndV 19 [0,1] [] [(j:Int)] 0 0) [s,t]=r:=⟨_,rfl⟩;rw[hR] at CS;have HHIT:=Hd (show dotHit s t j=(decide (e5=0) && decide (Sh.size s5≤300)) by rw[dotHit,hR]);clear hLi hNd hR
     go_wp2_with fail
     refine CS.mono ?_;rintro e4 w4 ⟨⟨v5,m5,rfl,hO⟩,hb4⟩;clear CS hct;replace hO:OwnS w4 _ 3 v5 m5 s5:=hO;obtain⟨A5,c5,hv5,hmc5,_,_⟩:=hO.form;subst hv5;have h9:=H2.out.addOwn hb4 hO;replace H:Hid (Sep w0 w4 ([.own 3 (.slice A5 m5 c5) m5 s5,.box (wr.heap.size+1+1) 22 [.slice Bs ms cap,.slice Bt mt capt],.own 3 (.slice (some ⟨wr.heap.size+1,0,none⟩) 2 2) 2 [0,1],.own 3 (.slice (some ⟨wr.heap.size,0,none⟩) 1 1) 1 [((j:Int))],oN,oN,oN,.box gr 34 [.int .i64 0,.slice none 0 0,.slice none 0 0,.slice none 0 0,.int .i64 0,.int .i64 0,.string ⟨#[]⟩]]++l21)):=Hd h9;clear hO hb4 h9 H2 HA;by_cases he:e5=0
     ·have dE:(e5==0)=true:=by simpa using he
      have CZ:=refSize_any (c:=c5) ((H.out.ownInts 0 rfl).2.2);have HE0:=Hd he;clear he
      go_wp2_with fail
      refine CZ.mono ?_;rintro e7 w7 ⟨rfl,rfl⟩;clear CZ;obtain⟨z,hz⟩:∃ z,Sh.size s5=z:=⟨_,rfl⟩;rw[hz] at HHIT ⊢;clear hz;by_cases hz3:z≤300
      ·have dz:decide (z≤300)=true:=by simpa using hz3
       have HX1:=Hd (show dotHit s t j=true by rw[HHIT.out,HE0.out,dz];rfl);replace H:Hid (Sep w0 (w4.alloc (.cells #[.int .i64 ((q:Int)),.int .i64 (((k:Int)+(r21:Int)) % (nl:Int))] 3)) ([.own 3 (.slice (some ⟨w4.heap.size,0,none⟩) 2 2) 2 [((q:Int)),(((k:Int)+(r21:Int)) % (nl:Int))],.own 3 (.slice A5 m5 c5) m5 s5,.box (wr.heap.size+1+1) 22 [.slice Bs ms cap,.slice Bt mt capt],.own 3 (.slice (some ⟨wr.heap.size+1,0,none⟩) 2 2) 2 [0,1],.own 3 (.slice (some ⟨wr.heap.size,0,none⟩) 1 1) 1 [((j:Int))],oN,oN,oN,.box gr 34 [.int .i64 0,.slice none 0 0,.slice none 0 0,.slice none 0 0,.int .i64 0,.int .i64 0,.string ⟨#[]⟩]]++l21)):=Hd (H.out.lit 3 #[.int .i64 ((q:Int)),.int .i64 (((k:Int)+(r21:Int)) % (nl:Int))] [((q:Int)),(((k:Int)+(r21:Int)) % (nl:Int))] 2 _ rfl rfl (by first|(simp[litOk];done)|(simp[litOk];omega)));replace H:Hid (Sep w0 ((w4.alloc (.cells #[.int .i64 ((q:Int)),.int .i64 (((k:Int)+(r21:Int)) % (nl:Int))] 3)).alloc (.cells #[.int .i64 (j:Int)] 3)) ([.own 3 (.slice (some ⟨w4.heap.size+1,0,none⟩) 1 1) 1 [(j:Int)],.own 3 (.slice (some ⟨w4.heap.size,0,none⟩) 2 2) 2 [((q:Int)),(((k:Int)+(r21:Int)) % (nl:Int))],.own 3 (.slice A5 m5 c5) m5 s5,.box (wr.heap.size+1+1) 22 [.slice Bs ms cap,.slice Bt mt capt],.own 3 (.slice (some ⟨wr.heap.size+1,0,none⟩) 2 2) 2 [0,1],.own 3 (.slice (some ⟨wr.heap.size,0,none⟩) 1 1) 1 [((j:Int))],oN,oN,oN,.box gr 34 [.int .i64 0,.slice none 0 0,.slice none 0 0,.slice none 0 0,.int .i64 0,.int .i64 0,.string ⟨#[]⟩]]++l21)):=Hd (H.out.lit 3 #[.int .i64 (j:Int)] [(j:Int)] 1 (w4.heap.size+1) (by rw[size_alloc]) rfl (by simp[litOk];omega))
       have HX:=Hd (show KS=(ndV 19 [(q:Int),((k:Int)+(r21:Int)) % (nl:Int)] [] [(j:Int)] 0 0,a21) by
        rw[HBI.out];have h8:L.length=nl:=HLL.out;rw[← HQD.out,kDot,HR21.out,HA21.out,Int.toNat_natCast,h8,HBB.out,HGT.out];rcases Nat.eq_zero_or_pos j with h7|h7
        ·subst h7;rw[if_pos HX1.out];rfl
        ·obtain rfl:j=1:=by omega
         rw[if_neg (by rw[HNO.out 0 (by omega)];decide),if_pos HX1.out];rfl)
       obtain⟨rc0,rc1,rc2,rc3,rc4,rc5,rc6⟩:=H.out.cells7 9 rfl;obtain ⟨fr0,fr1,fr2,fr3,fr4,fr5,fr6⟩:=H.out.f7 9 rfl;have HF:=Hd (((((((H.out.setBox 9 0 (.int .i64 19) rfl).setBox 9 1 (.slice (some ⟨w4.heap.size,0,none⟩) 2 2) rfl).setBox 9 2 (.slice none 0 0) rfl).setBox 9 3 (.slice (some ⟨w4.heap.size+1,0,none⟩) 1 1) rfl).setBox 9 4 (.int .i64 0) rfl).setBox 9 5 (.int .i64 0) rfl).setBox 9 6 (.string ⟨#[]⟩) rfl);go_wp2;refine ret_node (v0:=.int .i64 19) (v1:=.slice (some ⟨w4.heap.size,0,none⟩) 2 2) (v2:=.slice none 0 0) (v3:=.slice (some ⟨w4.heap.size+1,0,none⟩) 1 1) (v4:=.int .i64 0) (v5:=.int .i64 0) (v6:=.string ⟨#[]⟩) HF.out 9 rfl Tryz.results33 rfl rfl ?_;rw[HX.out];exact⟨_,_,_,_,_,_,rfl,_,HK.out,Sep.pick (P:=[.own 3 (.slice (some ⟨w4.heap.size+1,0,none⟩) 1 1) 1 [(j:Int)],.own 3 (.slice (some ⟨w4.heap.size,0,none⟩) 2 2) 2 [((q:Int)),(((k:Int)+(r21:Int)) % (nl:Int))],.own 3 (.slice A5 m5 c5) m5 s5,.box (wr.heap.size+1+1) 22 [.slice Bs ms cap,.slice Bt mt capt],.own 3 (.slice (some ⟨wr.heap.size+1,0,none⟩) 2 2) 2 [0,1],.own 3 (.slice (some ⟨wr.heap.size,0,none⟩) 1 1) 1 [((j:Int))],oN,oN,oN,.box gr 34 [.int .i64 19,.slice (some ⟨w4.heap.size,0,none⟩) 2 2,.slice none 0 0,.slice (some ⟨w4.heap.size+1,0,none⟩) 1 1,.int .i64 0,.int .i64 0,.string ⟨#[]⟩]]) HF.out [1,6,0] rfl (by decide)⟩
      ·have dz:decide (z≤300)=false:=by simpa using hz3
       have HX:=Hd (show dotHit s t j=false by rw[HHIT.out,dz,Bool.and_false]);go_wp2;go_roundw
       case rel=>exact⟨j+1,by go_num,by omega,fun e he=>by
        rcases Nat.lt_or_ge e j with h7|h7
        ·exact HNO.out e h7
        ·obtain rfl:e=j:=by omega
         exact HX.out,Sep.pick H.out [4,5,6,7] rfl (by decide)⟩
       case measure=>simp[intOf];omega
     ·have dE:(e5==0)=false:=by simpa using he
      have HX:=Hd (show dotHit s t j=false by rw[HHIT.out,decide_eq_false he,Bool.false_and]);clear he;go_wp2;go_roundw
      case rel=>exact⟨j+1,by go_num,by omega,fun e he=>by
       rcases Nat.lt_or_ge e j with h7|h7
       ·exact HNO.out e h7
       ·obtain rfl:e=j:=by omega
        exact HX.out,Sep.pick H.out [4,5,6,7] rfl (by decide)⟩
      case measure=>simp[intOf];omega
    ·obtain rfl:j=2:=by omega
     have HQE:=Hd (show kDot xs L s q m (k+1) a21=KS by
      have h8:L.length=nl:=HLL.out;have h7:=HQD.out;rw[kDot,HR21.out,HA21.out,Int.toNat_natCast,h8,HBB.out,HGT.out,if_neg (by rw[HNO.out 0 (by omega)];decide),if_neg (by rw[HNO.out 1 (by omega)];decide)] at h7
      exact h7)
     go_wp2;go_roundw
     case rel=>exact⟨k+1,a21,_,by go_num,by omega,ba21,by rw[HM.out];exact HQE.out,HK.out,H.out⟩
     case measure=>simp[intOf];omega
  ·have hkn:k=nl:=by omega
   subst hkn;replace H:Hid (Sep w0 (wr.alloc (.cells #[.int .i64 ((q:Int))] 3)) ([.own 3 (.slice (some ⟨wr.heap.size,0,none⟩) 1 1) 1 [((q:Int))],oN,oN,oN,.box gr 34 [.int .i64 0,.slice none 0 0,.slice none 0 0,.slice none 0 0,.int .i64 0,.int .i64 0,.string ⟨#[]⟩]]++l9)):=Hd (H.out.lit 3 #[.int .i64 ((q:Int))] [((q:Int))] 1 _ rfl rfl (by first|(simp[litOk];done)|(simp[litOk];omega)));have HX:=Hd (show KS=(ndV 5 [(q:Int)] [] [] 0 0,a9) by rw[← HQ.out,Nat.sub_self,kDot]);obtain⟨rc0,rc1,rc2,rc3,rc4,rc5,rc6⟩:=H.out.cells7 4 rfl;obtain ⟨fr0,fr1,fr2,fr3,fr4,fr5,fr6⟩:=H.out.f7 4 rfl;have HF:=Hd (((((((H.out.setBox 4 0 (.int .i64 5) rfl).setBox 4 1 (.slice (some ⟨wr.heap.size,0,none⟩) 1 1) rfl).setBox 4 2 (.slice none 0 0) rfl).setBox 4 3 (.slice none 0 0) rfl).setBox 4 4 (.int .i64 0) rfl).setBox 4 5 (.int .i64 0) rfl).setBox 4 6 (.string ⟨#[]⟩) rfl);go_wp2;refine ret_node (v0:=.int .i64 5) (v1:=.slice (some ⟨wr.heap.size,0,none⟩) 1 1) (v2:=.slice none 0 0) (v3:=.slice none 0 0) (v4:=.int .i64 0) (v5:=.int .i64 0) (v6:=.string ⟨#[]⟩) HF.out 4 rfl Tryz.results33 rfl rfl ?_;rw[HX.out];exact⟨_,_,_,_,_,_,rfl,_,HK.out,Sep.pick (P:=[.own 3 (.slice (some ⟨wr.heap.size,0,none⟩) 1 1) 1 [((q:Int))],oN,oN,oN,.box gr 34 [.int .i64 5,.slice (some ⟨wr.heap.size,0,none⟩) 1 1,.slice none 0 0,.slice none 0 0,.int .i64 0,.int .i64 0,.string ⟨#[]⟩]]) HF.out [0,1,2] rfl (by decide)⟩
theorem LilsK.app {w0:World} {P l l0:List Chunk} {i g:Nat} {A:Option Addr} {n c a:Nat} {Al:Option Addr} {nl:Nat} {L:List (List Int)} (h:LilsK w0 l i g A n c Al nl L) (hK:KT l i (TB g A n c a) l0):LilsK w0 (P++l0) (P.length+i) g A n c Al nl L :=
 ⟨h.1,h.2.1,fun j x hx=>by
  obtain⟨la,B,m,cap,e,hc,hs⟩:=h.2.2 j x hx;refine⟨la,B,m,cap,e,hc,fun w a' l1 hk H=>?_⟩;obtain⟨l2,rfl,hk2⟩:=hK.app hk
  exact hs w a' l2 hk2 H.rest_⟩
theorem node_op10 {w0 w:World} {l:List Chunk} {i g:Nat} {A:Option Addr} {n c a:Nat} {xs:List Int} {Al:Option Addr} {nl cl:Nat} {L:List (List Int)} (q b:Nat) {s:List Int} (h5:¬ tv xs a 5=0) (hq:tv xs (ta xs a 5) nl=q) (hs:L[q]? = some s) (hb:ta xs (ta xs (ta xs a 5) nl) 12=b) (hk:tv xs (ta xs (ta xs a 5) nl) 12=10) (H:Sep w0 w l) (hi:l[i]? = some (TB g A n c a)) (hI:Ints w0 A n xs) (ha:a≤n) (hL:LilsK w0 l i g A n c Al nl L) :
  Calls Tryz.prog 12 #[.pointer (some ⟨g,0,none⟩),.slice Al nl cl] w (NodePost w0 l i g A n c (kDot xs L s q nl 0 b)):=by
 obtain⟨KS,hKS⟩:∃ q0,kDot xs L s q nl 0 b=q0:=⟨_,rfl⟩;rw[hKS];have HKS:=Hd hKS;clear hKS;have HXL:=Hd hI.len;have HI:=Hd hI;have hnle:=hI.le;have hll:=hL.1;have hln:=hL.2.1;have HLL:=Hd hll;have HLK:=Hd hL;have HK:Hid (KT l i (TB g A n c a) l):=Hd ⟨hi,fun _=>rfl⟩;clear hll;have h1:=(((H.allocBox w.heap.size 34 [.int .i64 0,.slice none 0 0,.slice none 0 0,.slice none 0 0,.int .i64 0,.int .i64 0,.string ⟨#[]⟩] rfl).addNil 3).addNil 3).addNil 3
 go_enter Tryz.func12,Tryz.ntmps12
 go_upto_region 1 with fail
 generalize w.alloc (.cells #[.int .i64 0,.slice none 0 0,.slice none 0 0,.slice none 0 0,.int .i64 0,.int .i64 0,.string ⟨#[]⟩] 34)=W at *;generalize w.heap.size=gr at *;clear H hi hI hL;have H:Hid (Sep w0 W ([oN,oN,oN,.box gr 34 [.int .i64 0,.slice none 0 0,.slice none 0 0,.slice none 0 0,.int .i64 0,.int .i64 0,.string ⟨#[]⟩]]++l)):=Hd h1;clear h1;have hnl:0<nl:=by have h8:L.length=nl:=HLL.out;have:=(List.getElem?_eq_some_iff.1 hs).1;omega
 have dn:((nl:Int)==0)=false:=by simp;omega
 have HQ0:=Hd hq;have HB0:=Hd hb;have HK0:=Hd hk;have HS0:=Hd hs;have h5n:=Hd h5;clear hq hb hk hs h5
 go_wp2_with fail
 refine(next_s (5) H.out HK.out HI.out ha ⟨by omega,by omega⟩).mono ?_;rintro e1 w1 ⟨rfl,l1,hK,hS⟩;have b0:=tv_nonneg xs a (5);have b1:=tv_lt xs a (show(0:Int)<5 by omega);obtain⟨r1,hr⟩:∃ q,tv xs a (5)=q:=⟨_,rfl⟩;rw[hr] at b0 b1 ⊢;obtain⟨r1,rfl⟩:=Int.eq_ofNat_of_zero_le b0;have HR1:=Hd hr;have br1:(r1:Int)<5:=b1;clear b1;obtain⟨a1,ha1⟩:∃ q,ta xs a (5)=q:=⟨_,rfl⟩;have ba1:=ta_le (5) HXL.out ha;rw[ha1] at ba1 hK;have HA1:=Hd ha1;replace HK:=Hd hK;replace H:Hid (Sep w0 w1 ([oN,oN,oN,.box gr 34 [.int .i64 0,.slice none 0 0,.slice none 0 0,.slice none 0 0,.int .i64 0,.int .i64 0,.string ⟨#[]⟩]]++l1)):=Hd hS;clear hr ha1 hK hS b0;have d5:((r1:Int)==0)=false:=by have h8:=HR1.out;have h9:=h5n.out;rw[h8] at h9;simpa using h9
 go_wp2_with fail
 refine(next_s ((nl:Int)) H.out HK.out HI.out ba1 ⟨by omega,by omega⟩).mono ?_;rintro e2 w2 ⟨rfl,l2,hK,hS⟩;have b0:=tv_nonneg xs a1 ((nl:Int));have b1:=tv_lt xs a1 (show(0:Int)<(nl:Int) by omega);obtain⟨r2,hr⟩:∃ q,tv xs a1 ((nl:Int))=q:=⟨_,rfl⟩;rw[hr] at b0 b1 ⊢;obtain⟨r2,rfl⟩:=Int.eq_ofNat_of_zero_le b0;have HR2:=Hd hr;have br2:(r2:Int)<(nl:Int):=b1;clear b1;obtain⟨a2,ha2⟩:∃ q,ta xs a1 ((nl:Int))=q:=⟨_,rfl⟩;have ba2:=ta_le ((nl:Int)) HXL.out ba1;rw[ha2] at ba2 hK;have HA2:=Hd ha2;replace HK:=Hd hK;replace H:Hid (Sep w0 w2 ([oN,oN,oN,.box gr 34 [.int .i64 0,.slice none 0 0,.slice none 0 0,.slice none 0 0,.int .i64 0,.int .i64 0,.string ⟨#[]⟩]]++l2)):=Hd hS;clear hr ha2 hK hS b0;obtain rfl:r2=q:=by have h8:=HR2.out;have h9:=HQ0.out;rw[HA1.out,h8] at h9;omega
 obtain⟨la,Bs,ms,cap,hAl,hmc,hst⟩:=HLK.out.2.2 r2 s HS0.out;subst hAl;have HST:=Hd hst;obtain⟨hlb,hcl,hIs⟩:=hst w2 a2 l2 HK.out H.out.rest_;have HSL:=Hd hIs.len;have hmsl:=hIs.le;have hr2:r2<nl:=by omega
 clear hst hIs hlb
 go_wp2_with fail
 clear hcl;refine(next_s (12) H.out HK.out HI.out ba2 ⟨by omega,by omega⟩).mono ?_;rintro e3 w3 ⟨rfl,l3,hK,hS⟩;have b0:=tv_nonneg xs a2 (12);have b1:=tv_lt xs a2 (show(0:Int)<12 by omega);obtain⟨r3,hr⟩:∃ q,tv xs a2 (12)=q:=⟨_,rfl⟩;rw[hr] at b0 b1 ⊢;obtain⟨r3,rfl⟩:=Int.eq_ofNat_of_zero_le b0;have HR3:=Hd hr;have br3:(r3:Int)<12:=b1;clear b1;obtain⟨a3,ha3⟩:∃ q,ta xs a2 (12)=q:=⟨_,rfl⟩;have ba3:=ta_le (12) HXL.out ba2;rw[ha3] at ba3 hK;have HA3:=Hd ha3;replace HK:=Hd hK;replace H:Hid (Sep w0 w3 ([oN,oN,oN,.box gr 34 [.int .i64 0,.slice none 0 0,.slice none 0 0,.slice none 0 0,.int .i64 0,.int .i64 0,.string ⟨#[]⟩]]++l3)):=Hd hS;clear hr ha3 hK hS b0;obtain rfl:r3=10:=by have h8:=HR3.out;have h9:=HK0.out;rw[HA1.out,HA2.out,h8] at h9;omega
 obtain rfl:a3=b:=by have h8:=HA3.out;have h9:=HB0.out;rw[HA1.out,HA2.out,h8] at h9;exact h9
 clear HR1 HR2 HR3 HQ0 HB0 HK0 h5n d5 dn
 go_wp2_with fail
 refine(dot_k r2 HS0.out H.out ((app_at i).trans HK.out.1) HI.out ba3 (HLK.out.app HK.out)).mono ?_;rintro e9 w9 ⟨vA,mA,vB,mB,vC,mC,rfl,l8,hK9,hS9⟩;obtain⟨l9,rfl,hK⟩:=HK.out.app hK9;obtain⟨⟨nd,ad⟩,hd⟩:∃ z,kDot xs L s r2 nl 0 a3=z:=⟨_,rfl⟩;rw[hd] at hK hS9 ⊢;have HX:=Hd (show KS=(nd,ad) by rw[← HKS.out,hd]);replace HK:=Hd hK;obtain⟨AA,cA,hv,_,_,_⟩:=(hS9.ownS 0 rfl).form;subst hv;obtain⟨AB,cB,hv,_,_,_⟩:=(hS9.ownS 1 rfl).form;subst hv;obtain⟨AC,cC,hv,_,_,_⟩:=(hS9.ownS 2 rfl).form;subst hv;replace H:Hid (Sep w0 w9 ([.own 3 (.slice AA mA cA) mA nd.ins,.own 3 (.slice AB mB cB) mB nd.shape,.own 3 (.slice AC mC cC) mC nd.a,oN,oN,oN,.box gr 34 [.int .i64 0,.slice none 0 0,.slice none 0 0,.slice none 0 0,.int .i64 0,.int .i64 0,.string ⟨#[]⟩]]++l9)):=Hd hS9;clear hd hK hK9 hS9;obtain⟨rc0,rc1,rc2,rc3,rc4,rc5,rc6⟩:=H.out.cells7 6 rfl;obtain ⟨fr0,fr1,fr2,fr3,fr4,fr5,fr6⟩:=H.out.f7 6 rfl;have HF:=Hd (((((((H.out.setBox 6 0 (.int .i64 nd.op) rfl).setBox 6 1 (.slice AA mA cA) rfl).setBox 6 2 (.slice AB mB cB) rfl).setBox 6 3 (.slice AC mC cC) rfl).setBox 6 4 (.int .i64 nd.n) rfl).setBox 6 5 (.int .i64 nd.how) rfl).setBox 6 6 (.string nd.note) rfl);go_wp2;refine ret_node (v0:=.int .i64 nd.op) (v1:=.slice AA mA cA) (v2:=.slice AB mB cB) (v3:=.slice AC mC cC) (v4:=.int .i64 nd.n) (v5:=.int .i64 nd.how) (v6:=.string nd.note) HF.out 6 rfl Tryz.results12 rfl rfl ?_;rw[HX.out];exact⟨_,_,_,_,_,_,rfl,_,HK.out,Sep.pick (P:=[.own 3 (.slice AA mA cA) mA nd.ins,.own 3 (.slice AB mB cB) mB nd.shape,.own 3 (.slice AC mC cC) mC nd.a,oN,oN,oN,.box gr 34 [.int .i64 nd.op,.slice AA mA cA,.slice AB mB cB,.slice AC mC cC,.int .i64 nd.n,.int .i64 nd.how,.string nd.note]]) HF.out [0,1,2] rfl (by decide)⟩
end Go.Proofs.YtnnmplkgenhofaaGreat
