import Derived.Deep.RegionHeld3
import Derived.Test.YtnnmplkgenhofaaGreatPaa
import Derived.Test.YtnnmplkgenhofaaGreatPad
set_option maxRecDepth 100000
set_option maxHeartbeats 12800000
namespace Go.Proofs.YtnnmplkgenhofaaGreat
open Go.RowKit
def tv (xs:List Int) (a:Nat) (m:Int):Int:=if xs.length≤a∨m<1 then 0 else xs.getD a 0 % 1073741825 % m
def ta (xs:List Int) (a:Nat) (m:Int):Nat:=if xs.length≤a∨m<1 then a else a+1
theorem tv_nonneg (xs:List Int) (a:Nat) (m:Int):0≤tv xs a m:=by
 rw[tv]
 split
 ·omega
 ·exact Int.emod_nonneg _ (by omega)
theorem tv_lt (xs:List Int) (a:Nat) {m:Int} (h:0<m):tv xs a m<m:=by
 rw[tv]
 split
 ·omega
 ·exact Int.emod_lt_of_pos _ h
theorem ta_le {xs:List Int} {a n:Nat} (m:Int) (h:xs.length=n) (ha:a≤n):ta xs a m≤n:=by
 rw[ta]
 split <;> omega
abbrev TB (g:Nat) (A:Option Addr) (n c a:Nat):Chunk:=.box g 41 [.slice A n c,.int .i64 (a:Int)]
def KT (l:List Chunk) (i:Nat) (b:Chunk) (l1:List Chunk):Prop:=l1[i]? = some b∧∀ X,l1.set i X=l.set i X
theorem KT.eq {l l1:List Chunk} {i:Nat} {b:Chunk} (h:KT l i b l1):l1=l.set i b:=by rw[← h.2 b,set_eq h.1]
theorem KT.mk_ {l:List Chunk} {i:Nat} {b b' : Chunk} (h:l[i]? = some b'):KT l i b (l.set i b) :=
 ⟨by rw[List.getElem?_set_self (List.getElem?_eq_some_iff.1 h).1],fun X=>by rw[List.set_set]⟩
theorem KT.trans_ {l l1 l2:List Chunk} {i:Nat} {b b' : Chunk} (h:KT l i b l1) (g:KT l1 i b' l2):KT l i b' l2:=⟨g.1,fun X=>by rw[g.2,h.2]⟩
theorem Sep.tape_ {w0 w w' : World} {l:List Chunk} (H:Sep w0 w l) (i:Nat) {g:Nat} {t:TypeId} {vs vs' : List Value} (hi:l[i]? = some (.box g t vs)) (hg:w.grownBy w' (some g)) (hh:w'.heap[g]? = some (.cells vs'.toArray t (0,0))):Sep w0 w' (l.set i (.box g t vs')) :=
 H.change i hi hg ⟨(H.blockLt i hi).1,hh⟩ fun _ hk=>.inl hk
theorem next_raw {w:World} {g:Nat} {A:Option Addr} {n c a:Nat} {xs:List Int} (m:Int) (hg:w.heap[g]? = some (.cells #[.slice A n c,.int .i64 a] 41 (0,0))) (hI:Ints w A n xs) (hne:∀ ad,A=some ad→0<n→ad.block≠g) (ha:a≤n) (hm:Fits m) :
  Calls Tryz.prog 11 #[.pointer (some ⟨g,0,none⟩),.int .i64 m] w fun e w' => e=.returned (.int .i64 (tv xs a m))∧w.grownBy w' (some g)∧w'.heap[g]? = some (.cells #[.slice A n c,.int .i64 ((ta xs a m:Nat):Int)] 41 (0,0)):=by
 obtain⟨hm1,hm2⟩:=hm;have hle:=hI.le;have hxl:=Hd hI.len;have hc0:w.cell? ⟨g,0,none⟩=some (.slice A n c):=by rw[cell_of_row w g 0 _ _ _ hg];rfl
 have hc1:w.cell? ⟨g,1,none⟩=some (.int .i64 a):=by rw[cell_of_row w g 1 _ _ _ hg];rfl
 have hfz:w.frozen? ⟨g,1,none⟩=false:=frozen_of_row w g 1 _ _ hg;have HG:=Hd hg;clear hg;by_cases h1:a=n
 ·subst h1;have HV:=Hd (show tv xs a m=0∧ta xs a m=a by rw[tv,ta,if_pos (.inl (by have:=hxl.out;omega)),if_pos (.inl (by have:=hxl.out;omega))];exact⟨rfl,rfl⟩);have hd1:decide (a≤a)=true:=by simp
  have hd2:decide ((a:Int)≤(a:Int))=true:=by simp
  go_enter Tryz.func11,Tryz.ntmps11
  go_wp2
  go_quiet (fail)
  go_wp2;go_ret;exact⟨ret_int HV.out.1.symm,grown_drewN _ _ _,by rw[HV.out.2];exact HG.out⟩
 ·have h2:a<n:=by omega
  obtain⟨ad,x,rfl,hb,hx,hcx,hf⟩:=hI.at_ h2;have hne' : ad.block≠g:=hne ad rfl (by omega);have hd1:decide (n≤a)=false:=by simp;omega
  have hd2:decide ((n:Int)≤(a:Int))=false:=by simp;omega
  by_cases hm0:m<1
  ·have HV:=Hd (show tv xs a m=0∧ta xs a m=a by rw[tv,ta,if_pos (.inr hm0),if_pos (.inr hm0)];exact⟨rfl,rfl⟩);have hd3:decide (m<1)=true:=by simp;omega
   go_enter Tryz.func11,Tryz.ntmps11
   go_wp2
   go_quiet (fail)
   go_wp2;go_ret;exact⟨ret_int HV.out.1.symm,grown_drewN _ _ _,by rw[HV.out.2];exact HG.out⟩
  ·have HV:=Hd (show tv xs a m=x % 1073741825 % m∧ta xs a m=a+1 by
    have hc:¬ (xs.length≤a∨m<1):=by have:=hxl.out;omega
    rw[tv,ta,if_neg hc,if_neg hc,List.getD_eq_getElem?_getD,hx];exact⟨rfl,rfl⟩)
   have hd3:decide (m<1)=false:=by simp;omega
   go_enter Tryz.func11,Tryz.ntmps11
   go_wp2
   go_quiet (fail)
   go_wp2;have hG2:w.grownBy ((w.drewN nq).setCell ⟨g,1,none⟩ (.int .i64 (a+1))) (some g):=grown_trans (grown_drewN w nq _) (grown_setCell _ g 1 _);have hI2:=hI.grown hG2 (fun ad' e _=>by injection e with e;subst e;intro h';injection h' with h';exact hne' h');have hg2:((w.drewN nq).setCell ⟨g,1,none⟩ (.int .i64 (a+1))).heap[g]? = some (.cells #[.slice (some ad) n c,.int .i64 ((a+1:Nat):Int)] 41 (0,0)):=heap_setCell_same (w.drewN nq) g 1 _ _ (.int .i64 (a+1)) HG.out;have hcx:=hI2.get hx;clear hI;generalize hw2:(w.drewN nq).setCell ⟨g,1,none⟩ (.int .i64 (a+1))=w2 at *;clear hw2;have hc0:w2.cell? ⟨g,0,none⟩=some (.slice (some ad) n c):=by rw[cell_of_row w2 g 0 _ _ _ hg2];rfl
   have hc1:w2.cell? ⟨g,1,none⟩=some (.int .i64 ((a:Int)+1)):=by rw[cell_of_row w2 g 1 _ _ _ hg2];rfl
   have HX:=Hd hx;have HH:=Hd hg2;have HGG:=Hd hG2;clear hx hg2 hd1 hd2 hd3 hG2 HG hfz;have hr0:0≤x % 1073741825:=Int.emod_nonneg _ (by omega);have hr1:x % 1073741825<1073741825:=Int.emod_lt_of_pos _ (by omega);have hs0:0≤x % 1073741825 % m:=Int.emod_nonneg _ (by omega);have hs1:x % 1073741825 % m<m:=Int.emod_lt_of_pos _ (by omega)
   go_quiet ((go_at_call 29;exact quietS (within_any _ _ hf)))
   go_wp2;go_ret;exact⟨ret_int HV.out.1.symm,grown_trans HGG.out (grown_drewN _ _ _),by rw[HV.out.2];exact HH.out⟩
theorem next_k {w0 w:World} {l:List Chunk} {i g:Nat} {A:Option Addr} {n c a:Nat} {xs:List Int} (m:Int) (H:Sep w0 w l) (hi:l[i]? = some (TB g A n c a)) (hI:Ints w0 A n xs) (ha:a≤n) (hm:Fits m) :
  Calls Tryz.prog 11 #[.pointer (some ⟨g,0,none⟩),.int .i64 m] w fun e w' => e=.returned (.int .i64 (tv xs a m))∧∃ l1,KT l i (TB g A n c (ta xs a m)) l1∧Sep w0 w' l1 :=
 (next_raw m (H.heap i hi) (H.oldI hI) (fun ad he hn=>by
  obtain⟨ad', he', hb,_⟩:=hI.2.2.2 hn;rw[he] at he';injection he' with he';subst he'
  have:=(H.blockLt i hi).1
  omega) ha hm).mono fun _ _ ⟨he,hg,hh⟩=>⟨he,_,KT.mk_ hi,H.tape_ i hi hg hh⟩
def kNum (xs:List Int) (a:Nat):Int × Nat :=
 if tv xs a 9=0 then(numberLits.getD (tv xs (ta xs a 9) 6).toNat 0,ta xs (ta xs a 9) 6)
 else if tv xs a 9=1 then(0,ta xs a 9) else(tv xs (ta xs a 9) 19-9,ta xs (ta xs a 9) 19)
def kDims (xs:List Int):Nat→Nat→List Int × Nat
 | 0,a=>([],a)
 | j+1,a=>(shapeDims.getD (tv xs a 8).toNat 0::(kDims xs j (ta xs a 8)).1,(kDims xs j (ta xs a 8)).2)
def kShape (xs:List Int) (a:Nat):List Int × Nat:=kDims xs (tv xs a 4).toNat (ta xs a 4)
theorem number_k {w0 w:World} {l:List Chunk} {i g:Nat} {A:Option Addr} {n c a:Nat} {xs:List Int} (H:Sep w0 w l) (hi:l[i]? = some (TB g A n c a)) (hI:Ints w0 A n xs) (ha:a≤n) :
  Calls Tryz.prog 31 #[.pointer (some ⟨g,0,none⟩)] w fun e w' => e=.returned (.int .i64 (kNum xs a).1)∧∃ l1,KT l i (TB g A n c (kNum xs a).2) l1∧Sep w0 w' l1:=by
 have HXL:=Hd hI.len;have HI:=Hd hI;have HH:=Hd H;have KI:=Hd hi;have hnle:=hI.le;clear H hi hI
 go_enter Tryz.func31,Tryz.ntmps31
 go_wp2_with fail
 refine(next_k 9 HH.out KI.out HI.out ha ⟨by omega,by omega⟩).mono ?_;rintro ew1 w1 ⟨rfl,l1,hKl1,hSl1⟩;obtain⟨r,hr⟩:∃ r,tv xs a 9=r:=⟨_,rfl⟩;obtain⟨a1,ha1⟩:∃ r,ta xs a 9=r:=⟨_,rfl⟩;have br0:=tv_nonneg xs a 9;have br1:=tv_lt xs a (show(0:Int)<9 by omega);have ba1:=ta_le 9 HXL.out ha;rw[hr] at br0 br1 ⊢;rw[ha1] at ba1 hKl1;have HRr:=Hd hr;have HAa1:=Hd ha1;have H1:=Hd hSl1;have HKl1:=Hd hKl1;clear hr ha1 hSl1 hKl1;by_cases h0:r=0
 ·subst h0;have H2:=Hd (H1.out.lit 2 #[.int .i64 9223372036854775807,.int .i64 (-9223372036854775808),.int .i64 4611686018427387904,.int .i64 (-1099511627776),.int .i64 8589934592,.int .i64 3037000500] numberLits 6 w1.heap.size rfl rfl (by decide))
  go_wp2_with fail
  refine(next_k 6 H2.out (i:=i+1) HKl1.out.1 HI.out ba1 ⟨by omega,by omega⟩).mono ?_;rintro e3 w3 ⟨rfl,l3,hK3,hS3⟩;obtain rfl:=hK3.eq;obtain⟨q,hq⟩:∃ q,tv xs a1 6=q:=⟨_,rfl⟩;have q0:=tv_nonneg xs a1 6;have q1:=tv_lt xs a1 (show(0:Int)<6 by omega);rw[hq] at q0 q1 ⊢;obtain⟨qn,rfl⟩:=Int.eq_ofNat_of_zero_le q0;obtain⟨x,hx,hf⟩:=lits_at qn (by omega);have HV:=Hd (show kNum xs a=(x,ta xs a1 6) by rw[kNum,HRr.out,if_pos rfl,HAa1.out,hq,Int.toNat_natCast,List.getD_eq_getElem?_getD,hx];rfl);have hS4:Sep w0 w3 (.own 2 (.slice (some ⟨w1.heap.size,0,none⟩) 6 6) 6 numberLits::l1.set i (TB g A n c (ta xs a1 6))):=hS3;have hcz:=(hS4.own 0 rfl).cell hx;have H4:=Hd hS4.tail_;have hqn:qn<6:=by omega
  clear hx hq hS3 hS4 hK3 q0 q1 H2;go_wp2;go_ret;exact⟨by rw[HV.out];rfl,_,by rw[HV.out];exact HKl1.out.trans_ (KT.mk_ HKl1.out.1),H4.out⟩
 have d0:(r==0)=false:=by simpa using h0
 by_cases h1:r=1
 ·subst h1;have HV:=Hd (show kNum xs a=(0,a1) by rw[kNum,HRr.out,if_neg (by omega),if_pos rfl,HAa1.out]);go_wp2;go_ret;exact⟨by rw[HV.out];rfl,_,by rw[HV.out];exact HKl1.out,H1.out⟩
 ·have d1:(r==1)=false:=by simpa using h1
  have HN:=Hd (And.intro h0 h1);clear h0 h1
  go_wp2_with fail
  refine(next_k 19 H1.out HKl1.out.1 HI.out ba1 ⟨by omega,by omega⟩).mono ?_;rintro ew2 w2 ⟨rfl,l2,hKl2,hSl2⟩;obtain⟨q,hq⟩:∃ r,tv xs a1 19=r:=⟨_,rfl⟩;obtain⟨a2,ha2⟩:∃ r,ta xs a1 19=r:=⟨_,rfl⟩;have bq0:=tv_nonneg xs a1 19;have bq1:=tv_lt xs a1 (show(0:Int)<19 by omega);have ba2:=ta_le 19 HXL.out ba1;rw[hq] at bq0 bq1 ⊢;rw[ha2] at ba2 hKl2;have HRq:=Hd hq;have HAa2:=Hd ha2;have H2:=Hd hSl2;have HKl2:=Hd hKl2;clear hq ha2 hSl2 hKl2;have HV:=Hd (show kNum xs a=(q-9,a2) by rw[kNum,HRr.out,if_neg HN.out.1,if_neg HN.out.2,HAa1.out,HRq.out,HAa2.out]);go_wp2;go_ret;exact⟨by rw[HV.out];rfl,_,by rw[HV.out];exact HKl1.out.trans_ HKl2.out,H2.out⟩
theorem shape_k {w0 w:World} {l:List Chunk} {i g:Nat} {A:Option Addr} {n c a:Nat} {xs:List Int} (H:Sep w0 w l) (hi:l[i]? = some (TB g A n c a)) (hI:Ints w0 A n xs) (ha:a≤n) :
  Calls Tryz.prog 30 #[.pointer (some ⟨g,0,none⟩)] w fun e w' => ∃ v m,e=.returned v∧∃ l1,KT l i (TB g A n c (kShape xs a).2) l1∧Sep w0 w' (.own 3 v m (kShape xs a).1::l1):=by
 have HXL:=Hd hI.len;have HI:=Hd hI;have HH:=Hd (H.addNil 3);have KI:=Hd hi;have hnle:=hI.le;clear H hi hI
 go_enter Tryz.func30,Tryz.ntmps30
 go_wp2_with fail
 refine(next_k 4 HH.out (i:=i+1) KI.out HI.out ha ⟨by omega,by omega⟩).mono ?_;rintro e1 w1 ⟨rfl,l1,hK1,hS1⟩;obtain rfl:=hK1.eq;have b0:=tv_nonneg xs a 4;have b1:=tv_lt xs a (show(0:Int)<4 by omega);obtain⟨r,hr⟩:∃ r,tv xs a 4=r:=⟨_,rfl⟩;rw[hr] at b0 b1 ⊢;obtain⟨rn,rfl⟩:=Int.eq_ofNat_of_zero_le b0;obtain⟨a1,ha1⟩:∃ r,ta xs a 4=r:=⟨_,rfl⟩;have ba1:=ta_le 4 HXL.out ha;rw[ha1] at ba1 hS1;have HV:=Hd (show kShape xs a=kDims xs rn a1 by rw[kShape,hr,ha1,Int.toNat_natCast]);have H1:=Hd (show Sep w0 w1 (oN::l.set i (TB g A n c a1)) from hS1);have HKK:=Hd (KT.mk_ (b:=TB g A n c a1) KI.out);clear hr ha1 hS1 hK1 HH
 go_wp2_with fail
 go_loopw [3,4] (fun sv nv wr=>∃(j:Nat) (acc:List Int) (a2:Nat) (vx:Value) (l1:List Chunk),vx=sv∧nv=.int .i64 j∧acc.length+j≤3∧a2≤n∧(acc++(kDims xs j a2).1,(kDims xs j a2).2)=kDims xs rn a1∧KT l i (TB g A n c a2) l1∧Sep w0 wr (.own 3 vx acc.length acc::l1)) (fun _ nv _=>(intOf nv).toNat)
 case atStart=>exact⟨rn,[],a1,_,_,rfl,rfl,by simp;omega,ba1,rfl,HKK.out,H1.out⟩
 case round =>
  clear H1;obtain⟨j,acc,a2,vx,l1,rfl,rfl,hjl,ba2,hq,hK,hS⟩:=hrel;have H:=Hd hS;have HK:=Hd hK;have HQ:=Hd hq;clear hS hK hq;by_cases hj:0<j
  ·obtain⟨j,rfl⟩:∃ k,j=k+1:=⟨j-1,by omega⟩;have H2:=Hd (H.out.lit 3 #[.int .i64 1,.int .i64 2,.int .i64 3,.int .i64 4,.int .i64 5,.int .i64 0,.int .i64 7,.int .i64 2] shapeDims 8 wr.heap.size rfl rfl (by decide))
   go_wp2_with fail
   refine(next_k 8 H2.out (i:=i+2) HK.out.1 HI.out ba2 ⟨by omega,by omega⟩).mono ?_;rintro e3 w3 ⟨rfl,l3,hK3,hS3⟩;obtain rfl:=hK3.eq;have q0:=tv_nonneg xs a2 8;have q1:=tv_lt xs a2 (show(0:Int)<8 by omega);obtain⟨q,hq⟩:∃ q,tv xs a2 8=q:=⟨_,rfl⟩;rw[hq] at q0 q1 ⊢;obtain⟨qn,rfl⟩:=Int.eq_ofNat_of_zero_le q0;obtain⟨x,hx,hx0,hx7⟩:=dims_at qn (by omega);obtain⟨a3,ha3⟩:∃ r,ta xs a2 8=r:=⟨_,rfl⟩;have ba3:=ta_le 8 HXL.out ba2;rw[ha3] at ba3 hS3;have HQ2:=Hd (show((acc++[x])++(kDims xs j a3).1,(kDims xs j a3).2)=kDims xs rn a1 by have h7:=HQ.out;rw[kDims,hq,ha3,Int.toNat_natCast,List.getD_eq_getElem?_getD,hx] at h7;rw[List.append_assoc];exact h7);have hS4:Sep w0 w3 (.own 3 (.slice (some ⟨wr.heap.size,0,none⟩) 8 8) 8 shapeDims::.own 3 vx acc.length acc::l1.set i (TB g A n c a3)):=hS3;have hcz:=(hS4.own 0 rfl).cell hx;have H4:=Hd hS4;have hqn:qn<8:=by omega
   have HK4:=Hd (HK.out.trans_ (KT.mk_ (b:=TB g A n c a3) HK.out.1));clear hx hq ha3 hS3 hS4 hK3 q0 q1 H2 H
   go_wp2_with (at_builtin;refine wpList_append_sep rfl (.tmp 11) (.tmp 17) 22 3 rfl Tryz.underlying22 Tryz.infoInt H4.out 1 rfl rfl x ⟨by omega,by omega⟩ _ rfl ?c1 ?_)
   case c1=>omega
   intro v' w' h';have H8:=Hd (Sep.tail_ h');clear h' hcz;go_wp2;go_roundw
   case rel=>exact⟨j,acc++[x],a3,_,_,rfl,by go_num,by rw[List.length_append,List.length_singleton];omega,ba3,HQ2.out,HK4.out,by rw[List.length_append,List.length_singleton];exact H8.out⟩
   case measure=>simp[intOf]
  ·obtain rfl:j=0:=by omega
   have HE:=Hd (show kShape xs a=(acc,a2) by rw[HV.out,← HQ.out,kDims,List.append_nil]);go_wp2;go_ret;rw[HE.out];exact⟨_,_,rfl,_,HK.out,H.out⟩
theorem fits_wrap (z:Int):Fits (wrap64 z):=by unfold wrap64 Fits;omega
def stepF (op a b:Int):Int :=
 if op=4 then wrap64 (-a) else if op=5 then(if a=0 then 1 else 0) else if op=6 then wrap64 (a+b) else if op=7 then wrap64 (a-b)
 else if op=8 then wrap64 (a*b) else if op=9 then(if b<a then b else a) else if op=10 then(if b > a then b else a) else if op=11 then(if a<b then 1 else 0) else 0
theorem stepF_fits (op:Int) {a b:Int} (ha:Fits a) (hb:Fits b):Fits (stepF op a b):=by
 have h0:Fits 0:=⟨by omega,by omega⟩;have h1:Fits 1:=⟨by omega,by omega⟩;unfold stepF
 repeat' split
 all_goals first|exact fits_wrap _|assumption
def refused (e:Int):Int × List Int × List Int:=(e,[],[])
def oneR (op:Int) (s d:List Int):Int × List Int × List Int :=
 if op≠4∧op≠5 then refused 1 else if tenRight s d then(0,s,d.map fun x=>stepF op x 0) else refused 13
def twoR (op:Int) (s d t k:List Int):Int × List Int × List Int :=
 if op<6∨11<op then refused 1 else if tenRight s d && (tenRight t k && t==s) then(0,s,List.zipWith (stepF op) d k) else refused 13
def pick3:List Int→List Int→List Int→List Int
 | z::c,x::a,y::b=>(if z=0 then y else x)::pick3 c a b
 | _,_,_=>[]
def pickR (cs cd s d t k:List Int):Int × List Int × List Int :=
 if tenRight cs cd && (tenRight s d && s==cs && (tenRight t k && t==cs)) then(0,s,pick3 cd d k) else refused 13
def mix (t o:List Int) (j:Nat):List Int:=t.take j++o.drop j
theorem mix_zero (t o:List Int):mix t o 0=o:=by simp[mix]
theorem mix_full {t o:List Int} (h:t.length=o.length):mix t o o.length=t:=by simp[mix,← h]
theorem mix_length {t o:List Int} (h:t.length=o.length) (j:Nat):(mix t o j).length=o.length:=by simp[mix];omega
theorem mix_set {t o:List Int} (h:t.length=o.length) {j:Nat} {x:Int} (hx:t[j]? = some x):(mix t o j).set j x=mix t o (j+1):=by
 have hj:j<t.length:=(List.getElem?_eq_some_iff.1 hx).1;have hl:(t.take j).length=j:=by simp;omega
 apply List.ext_getElem?;intro i;unfold mix;rw[List.getElem?_set];by_cases hi:j=i
 ·subst hi;rw[if_pos rfl,if_pos (by simp;omega),List.getElem?_append_left (by simp;omega),List.getElem?_take,if_pos (by omega),hx]
 ·rw[if_neg hi];by_cases hlt:i<j
  ·rw[List.getElem?_append_left (by omega),List.getElem?_append_left (by simp;omega),List.getElem?_take,List.getElem?_take,if_pos hlt,if_pos (by omega)]
  ·have hl2:(t.take (j+1)).length=j+1:=by simp;omega
   rw[List.getElem?_append_right (by omega),List.getElem?_append_right (by omega),hl,hl2,List.getElem?_drop,List.getElem?_drop]
   congr 1;omega
theorem mix_at {t o:List Int} (h:t.length=o.length) {j:Nat} (hj:j<o.length):(mix t o j)[j]? = o[j]? := by
 have hl:(t.take j).length=j:=by simp;omega
 unfold mix;rw[List.getElem?_append_right (by omega),hl,List.getElem?_drop]
 congr 1;omega
theorem mix_rep {t:List Int} {n:Nat} {c:Int} (h:t.length=n) {j:Nat} (hj:j<n):(mix t (List.replicate n c) j)[j]? = some c:=by
 rw[mix_at (by simpa using h) (by simpa using hj),List.getElem?_replicate,if_pos hj]
theorem mix_end {t:List Int} {n:Nat} {c:Int} (h:t.length=n):mix t (List.replicate n c) n=t:=by
 have:=mix_full (t:=t) (o:=List.replicate n c) (by simpa using h);rwa [List.length_replicate] at this
theorem mix_step {t:List Int} {n:Nat} {c x:Int} (h:t.length=n) {j:Nat} (hx:t[j]? = some x):(mix t (List.replicate n c) j).set j x=mix t (List.replicate n c) (j+1):=mix_set (by simpa using h) hx
theorem map_at {d:List Int} {f:Int→Int} {j:Nat} {x:Int} (h:d[j]? = some x):(d.map f)[j]? = some (f x):=by simp[h]
theorem zip_at {d k:List Int} {f:Int→Int→Int} {j:Nat} {x y:Int} (h:d[j]? = some x) (g:k[j]? = some y):(List.zipWith f d k)[j]? = some (f x y):=by
 rw[List.getElem?_zipWith,h,g]
theorem pick3_length:∀(c a b:List Int),a.length=c.length→b.length=c.length→(pick3 c a b).length=c.length
 | [],_,_,_,_=>by simp[pick3]
 | z::c,[],_,h,_=>by simp at h
 | z::c,x::a,[],_,h=>by simp at h
 | z::c,x::a,y::b,h,g=>by simp[pick3,pick3_length c a b (by simpa using h) (by simpa using g)]
theorem pick3_at:∀ {c a b:List Int} {j:Nat} {z x y:Int},c[j]? = some z→a[j]? = some x→b[j]? = some y→(pick3 c a b)[j]? = some (if z=0 then y else x)
 | [],_,_,_,_,_,_,h,_,_=>by simp at h
 | _::_,[],_,_,_,_,_,_,h,_=>by simp at h
 | _::_,_::_,[],_,_,_,_,_,_,h=>by simp at h
 | _::c,_::a,_::b,0,_,_,_,h,g,f=>by simp at h g f;subst h;subst g;subst f;simp[pick3]
 | _::c,_::a,_::b,j+1,_,_,_,h,g,f=>by simp at h g f;simp[pick3,pick3_at h g f]
theorem len_right {s d:List Int} (h:tenRight s d=true):(d.length:Int)=Sh.size s:=by
 simp only[tenRight,Bool.and_eq_true,decide_eq_true_eq] at h;exact h.2
theorem right_of {s d:List Int} (h:tenRight s d=true):Sh.right s=true:=by
 simp only[tenRight,Bool.and_eq_true,decide_eq_true_eq] at h;exact h.1
theorem right_len {s d:List Int} (h:tenRight s d=true):s.length≤4∧d.length≤4096:=by
 have h2:=Sh.size_bd s;have h3:=len_right h;exact⟨(Sh.right_iff.1 (right_of h)).1,by omega⟩
theorem oneR_ok {op:Int} {s d:List Int} (ho:op=4∨op=5) (h:tenRight s d=true):oneR op s d=(0,s,d.map fun x=>stepF op x 0):=by
 rw[oneR,if_neg (by omega),if_pos h]
theorem oneR_arg {op:Int} {s d:List Int} (ho:op≠4∧op≠5):oneR op s d=refused 1:=by rw[oneR,if_pos ho]
theorem oneR_shape {op:Int} {s d:List Int} (ho:op=4∨op=5) (h:tenRight s d=false):oneR op s d=refused 13:=by
 rw[oneR,if_neg (by omega),h];rfl
theorem twoR_arg {op:Int} {s d t k:List Int} (ho:op<6∨11<op):twoR op s d t k=refused 1:=by rw[twoR,if_pos ho]
theorem twoR_ok {op:Int} {s d t k:List Int} (ho:6≤op∧op≤11) (h:(tenRight s d && (tenRight t k && t==s))=true):twoR op s d t k=(0,s,List.zipWith (stepF op) d k):=by
 rw[twoR,if_neg (by omega),if_pos h]
theorem twoR_shape {op:Int} {s d t k:List Int} (ho:6≤op∧op≤11) (h:(tenRight s d && (tenRight t k && t==s))=false):twoR op s d t k=refused 13:=by
 rw[twoR,if_neg (by omega),h];rfl
end Go.Proofs.YtnnmplkgenhofaaGreat
namespace Go.Proofs.YtnnmplkgenhofaaGreat
def nth {α : Type}:List α → Nat→Option α
 | [],_=>none
 | x::_,0=>some x
 | _::l,n+1=>nth l n
theorem nth_list {α : Type}:∀(l:List α) (i:Nat),nth l i=l[i]?
 | [],i=>by simp[nth]
 | x::l,0=>by simp[nth]
 | x::l,i+1=>by simp[nth,nth_list l i]
theorem nth_arr {α : Type} {ops:Array α} {i:Nat} {o : α} (h:nth ops.toList i=some o):ops[i]? = some o:=by
 rw[nth_list] at h;rw[← Array.getElem?_toList];exact h
section
variable {P : Program} {md : Region.Mode} {ops : Array Oper} {Q : Exit → Act → World → Prop} {S : World → Prop} {i : Nat} {oi : Oper} {fuel : Nat} {listed : Array Bool} {a : Act} {w : World}
theorem takeU (hi:ops[i]? = some oi) (hs:Region.noSelect ops=true) (hf:Region.free md ops listed i=true) (hr:(Region.ready md ops listed).contains i=true)
  (hQ:∀ c a w,Q (.panic c) (a.put oi.dst undef) w→Q (.panic c) a w) (hw:Region.wanted oi (yielded ops a.tmps)=false) (hS:S w)
  (h:wpAnyH P md ops Q S fuel (listed.setIfInBounds i true) (a.put oi.dst undef) w):wpAnyH P md ops Q S (fuel+1) listed a w :=
 wpAnyH_take hi hs hf hr hQ (.inr ⟨hw,rfl⟩) hS h
theorem takeW (v:Value) (hi:ops[i]? = some oi) (hs:Region.noSelect ops=true) (hf:Region.free md ops listed i=true) (hr:(Region.ready md ops listed).contains i=true)
  (hQ:∀ c a w,Q (.panic c) (a.put oi.dst v) w→Q (.panic c) a w) (hw:Region.wanted oi (yielded ops a.tmps)=true) (hy:∀ w,S w→(execOp a.eval oi).run P w=.ok (.value v) w) (hS:S w)
  (h:wpAnyH P md ops Q S fuel (listed.setIfInBounds i true) (a.put oi.dst v) w):wpAnyH P md ops Q S (fuel+1) listed a w :=
 wpAnyH_take hi hs hf hr hQ (.inl ⟨hw,hy⟩) hS h
theorem tU (i:Nat) (hS:S w) (h:wpAnyH P md ops Q S fuel (listed.setIfInBounds i true) (a.put oi.dst undef) w)
  (hi:nth ops.toList i=some oi:=by rfl) (hs:Region.noSelect ops=true:=by kernel_rfl) (hf:Region.free md ops listed i=true:=by kernel_rfl) (hr:(Region.ready md ops listed).contains i=true:=by kernel_rfl)
  (hQ:∀ c a w,Q (.panic c) (a.put oi.dst undef) w→Q (.panic c) a w:=by exact fun _ _ _ h=>h) (hw:Region.wanted oi (yielded ops a.tmps)=false:=by rfl):wpAnyH P md ops Q S (fuel+1) listed a w :=
 takeU (nth_arr hi) hs hf hr hQ hw hS h
theorem tW (i:Nat) (hS:S w) (v:Value) (hy:∀ w,S w→(execOp a.eval oi).run P w=.ok (.value v) w) (h:wpAnyH P md ops Q S fuel (listed.setIfInBounds i true) (a.put oi.dst v) w)
  (hi:nth ops.toList i=some oi:=by rfl) (hs:Region.noSelect ops=true:=by kernel_rfl) (hf:Region.free md ops listed i=true:=by kernel_rfl) (hr:(Region.ready md ops listed).contains i=true:=by kernel_rfl)
  (hQ:∀ c a w,Q (.panic c) (a.put oi.dst v) w→Q (.panic c) a w:=by exact fun _ _ _ h=>h) (hw:Region.wanted oi (yielded ops a.tmps)=true:=by rfl):wpAnyH P md ops Q S (fuel+1) listed a w :=
 takeW v (nth_arr hi) hs hf hr hQ hw hy hS h
theorem e1 (i:Nat) {o:Oper} (h:∀ K' : Act→World→Prop,Shut (∀ a w,S w→(S w→wpAnyH P md ops Q S fuel (listed.setIfInBounds i true) a w)→K' a w)→if Region.wanted o (yielded ops a.tmps)=true then Oper.wp P o a w K' Q else K' (a.put o.dst undef) w)
  (ho:nth ops.toList i=some o:=by rfl) (hr:Region.ready md ops listed=[i]:=by kernel_rfl):wpAnyH P md ops Q S (fuel+1) listed a w :=
 wpAnyH_ready hr (by simp) (AllReadyH.cons (nth_arr ho) h AllReadyH.nil)
theorem aC {i:Nat} {o:Oper} {rs:List Nat} (h:∀ K' : Act→World→Prop,Shut (∀ a w,S w→(S w→wpAnyH P md ops Q S fuel (listed.setIfInBounds i true) a w)→K' a w)→if Region.wanted o (yielded ops a.tmps)=true then Oper.wp P o a w K' Q else K' (a.put o.dst undef) w)
  (hs:AllReadyH P md ops Q S fuel listed a w rs) (ho:nth ops.toList i=some o:=by rfl):AllReadyH P md ops Q S fuel listed a w (i::rs):=AllReadyH.cons (nth_arr ho) h hs
theorem rD (rs:List Nat) (h:AllReadyH P md ops Q S fuel listed a w rs) (hr:Region.ready md ops listed=rs:=by kernel_rfl) (hne:rs≠[]:=by simp):wpAnyH P md ops Q S (fuel+1) listed a w:=wpAnyH_ready hr hne h
theorem pS2 {α : Type} (l:List α) (i:Nat) (x : α):l.toArray.setIfInBounds i x=(l.set i x).toArray:=List.setIfInBounds_toArray l i x
theorem pS3 {α : Type} (x y : α) (l:List α):(x::l).set 0 y=y::l:=rfl
theorem pS4 {α : Type} (x y : α) (l:List α) (i:Nat):(x::l).set (i+1) y=x::l.set i y:=rfl
theorem zW (i:Nat) (hS:S w) {v:Value} (h:wpAnyH P md ops Q S fuel (listed.setIfInBounds i true) (a.put oi.dst v) w)
  (hi:nth ops.toList i=some oi:=by rfl) (hy:∀ w,S w→(execOp a.eval oi).run P w=.ok (.value v) w:=by(intro wq sq;repeat (obtain⟨_,sq⟩:=sq));go_simp;try with_reducible rfl)
  (hs:Region.noSelect ops=true:=by kernel_rfl) (hf:Region.free md ops listed i=true:=by kernel_rfl) (hr:(Region.ready md ops listed).contains i=true:=by kernel_rfl)
  (hQ:∀ c a w,Q (.panic c) (a.put oi.dst v) w→Q (.panic c) a w:=by exact fun _ _ _ h=>h) (hw:Region.wanted oi (yielded ops a.tmps)=true:=by rfl):wpAnyH P md ops Q S (fuel+1) listed a w :=
 takeW v (nth_arr hi) hs hf hr hQ hw hy hS h
theorem zK {R K:Act→World→Prop} (hK:Shut (∀ a w,S w→(S w→R a w)→K a w)) (h:S w→R a w) (hS:S w:=by first|with_reducible assumption|exact True.intro|assumption):K a w:=hK.out a w hS h
theorem pA:(∀(t:Array Value) (d:List Deferred) (i:Tmp) (v:Value),(⟨t,d⟩:Act).put (some i) v=⟨t.setIfInBounds i v,d⟩)∧(∀(a:Act) (v:Value),a.put none v=a)∧(∀(l:List Value) (i:Nat) (x:Value),l.toArray.setIfInBounds i x=(l.set i x).toArray)∧(∀(l:List Bool) (i:Nat) (x:Bool),l.toArray.setIfInBounds i x=(l.set i x).toArray)∧(∀(x y:Value) (l:List Value),(x::l).set 0 y=y::l)∧(∀(x y:Bool) (l:List Bool),(x::l).set 0 y=y::l)∧(∀(x y:Value) (l:List Value) (i:Nat),(x::l).set (i+1) y=x::l.set i y)∧(∀(x y:Bool) (l:List Bool) (i:Nat),(x::l).set (i+1) y=x::l.set i y) :=
 ⟨fun _ _ _ _=>rfl,fun _ _=>rfl,fun l i x=>List.setIfInBounds_toArray l i x,fun l i x=>List.setIfInBounds_toArray l i x,fun _ _ _=>rfl,fun _ _ _=>rfl,fun _ _ _ _=>rfl,fun _ _ _ _=>rfl⟩
theorem effU {p q:Prop} {o:Oper} (hw:Region.wanted o (yielded ops a.tmps)=false) (h:q):if Region.wanted o (yielded ops a.tmps)=true then p else q:=by
 rw[if_neg (by rw[hw];decide)];exact h
end
end Go.Proofs.YtnnmplkgenhofaaGreat
