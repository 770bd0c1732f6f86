import Derived.Test.YtdcmanhgekjhgaaGreatDoorPah
set_option maxRecDepth 100000
set_option maxHeartbeats 12800000
namespace Go.Proofs.YtdcmanhgekjhgaaGreatDoor
open Go.RowKit Go.Proofs.Tryz
variable {A:Option Addr} {L:List (List Int)} {a c g i n:Nat} {b b':a0e} {l l1:List a0e} {w w0:World} {xs:List Int}
def tv (xs:List Int) (a:Nat) (m:Int):Int:=if xs.length≤a∨m<1 then 0 else xs.getD a 0 % 1073741825 % m
def ta (xs:List Int) (a:Nat) (m:Int):Nat:=if xs.length≤a∨m<1 then a else a+1
theorem a0q (xs:List Int)(a:Nat)(m:Int):0≤tv xs a m:=by
 rw[tv]
 split
 ·omega
 ·exact Int.emod_nonneg _ (by omega)
theorem a4b (xs:List Int)(a:Nat){m:Int}(h:0<m):tv xs a m<m:=by
 rw[tv]
 split
 ·omega
 ·exact Int.emod_lt_of_pos _ h
theorem a1p (m:Int)(h:xs.length=n)(ha:a≤n):ta xs a m≤n:=by
 rw[ta]
 split <;> omega
abbrev TB (g:Nat) (A:Option Addr) (n c a:Nat):a0e:=.box g 55 [.slice A n c,.int .i64 (a:Int)]
def KT (l:List a0e) (i:Nat) (b:a0e) (l1:List a0e):Prop:=l1[i]?=some b∧∀ X,l1.set i X=l.set i X
theorem KT.eq (h:KT l i b l1):l1=l.set i b:=by rw[←h.2 b,e3y h.1]
theorem KT.mk_ (h:l[i]?=some b'):KT l i b (l.set i b) :=
 ⟨by rw[List.getElem?_set_self (lL h)],fun X=>by rw[List.set_set]⟩
theorem KT.trans_ {l2:List a0e}(h:KT l i b l1)(g:KT l1 i b' l2):KT l i b' l2:=⟨g.1,fun X=>by rw[g.2,h.2]⟩
theorem Sep.tape_ {w':World}(H:Sep w0 w l)(i:Nat){t:TypeId}{vs vs' : List Value}(hi:l[i]?=some (.box g t vs))(hg:w.grownBy w' (some g))(hh:w'.heap[g]?=some (.cells vs'.toArray t (0,0))):Sep w0 w' (l.set i (.box g t vs')) :=
 H.change i hi hg ⟨(H.blockLt i hi).1,hh⟩ fun _ hk=>.inl hk
theorem e1v (m:Int)(hg:w.heap[g]?=some (.cells #[.slice A n c,.int .i64 a] 55 (0,0)))(hI:Ints w A n xs)(hne:∀ ad,A=some ad→0<n→ad.block≠g)(ha:a≤n)(hm:Fits m):
  Calls prog 23 #[.pointer (some ⟨g,0,none⟩),.int .i64 m] w fun e w'=>e=.returned (.int .i64 (tv xs a m))∧w.grownBy w' (some g)∧w'.heap[g]?=some (.cells #[.slice A n c,.int .i64 ((ta xs a m:Nat):Int)] 55 (0,0)):=by
 obtain⟨hm1,hm2⟩:=hm;have hle:=hI.le;have hxl:=Hd hI.len;have hc0:w.cell? ⟨g,0,none⟩=some (.slice A n c):=by rw[cell_of_row w g 0 _ _ _ hg];rfl
 have hc1:w.cell? ⟨g,1,none⟩=some (.int .i64 a):=by rw[cell_of_row w g 1 _ _ _ hg];rfl
 have hfz:w.frozen? ⟨g,1,none⟩=false:=frozen_of_row w g 1 _ _ hg;have HG:=Hd hg;clear hg;by_cases h1:a=n
 ·subst h1;have HV:=Hd (show tv xs a m=0∧ta xs a m=a by rw[tv,ta,iP (.inl (by have:=hxl.out;omega)),iP (.inl (by have:=hxl.out;omega))];exact⟨rfl,rfl⟩);have hd1:decide (a≤a)=true:=by simp
  have hd2:decide ((a:Int)≤(a:Int))=true:=by simp
  go_enter func23,ntmps23
  go_wp2
  go_quiet (fail)
  go_wp2;go_ret;exact⟨a3e HV.out.1.symm,a8y _ _ _,by rw[HV.out.2];exact HG⟩
 ·have h2:a<n:=by omega
  obtain⟨ad,x,rfl,hb,hx,hcx,hf⟩:=hI.at_ h2;have hne' : ad.block≠g:=hne ad rfl (by omega);have hd1:decide (n≤a)=false:=by simp;omega
  have hd2:decide ((n:Int)≤(a:Int))=false:=by simp;omega
  by_cases hm0:m<1
  ·have HV:=Hd (show tv xs a m=0∧ta xs a m=a by rw[tv,ta,iP (.inr hm0),iP (.inr hm0)];exact⟨rfl,rfl⟩);have hd3:decide (m<1)=true:=by simp;omega
   go_enter func23,ntmps23
   go_wp2
   go_quiet (fail)
   go_wp2;go_ret;exact⟨a3e HV.out.1.symm,a8y _ _ _,by rw[HV.out.2];exact HG⟩
  ·have HV:=Hd (show tv xs a m=x % 1073741825 % m∧ta xs a m=a+1 by
    have hc:¬(xs.length≤a∨m<1):=by have:=hxl.out;omega
    rw[tv,ta,iN hc,iN hc,gD,hx];exact⟨rfl,rfl⟩)
   have hd3:decide (m<1)=false:=by simp;omega
   go_enter func23,ntmps23
   go_wp2
   go_quiet (fail)
   go_wp2;have hG2:w.grownBy ((w.drewN nq).setCell ⟨g,1,none⟩ (.int .i64 (a+1))) (some g):=a3n (a8y w nq _) (a0y _ g 1 _);have hI2:=hI.grown hG2 (fun ad' e _=>by injection e with e;subst e;intro h';injection h' with h';exact hne' h');have hg2:((w.drewN nq).setCell ⟨g,1,none⟩ (.int .i64 (a+1))).heap[g]?=some (.cells #[.slice (some ad) n c,.int .i64 ((a+1:Nat):Int)] 55 (0,0)):=heap_setCell_same (w.drewN nq) g 1 _ _ (.int .i64 (a+1)) HG;have hcx:=hI2.get hx;clear hI;generalize hw2:(w.drewN nq).setCell ⟨g,1,none⟩ (.int .i64 (a+1))=w2 at *;clear hw2;have hc0:w2.cell? ⟨g,0,none⟩=some (.slice (some ad) n c):=by rw[cell_of_row w2 g 0 _ _ _ hg2];rfl
   have hc1:w2.cell? ⟨g,1,none⟩=some (.int .i64 ((a:Int)+1)):=by rw[cell_of_row w2 g 1 _ _ _ hg2];rfl
   have HX:=Hd hx;have HH:=Hd hg2;have HGG:=Hd hG2;clear hx hg2 hd1 hd2 hd3 hG2 HG hfz;have hr0:0≤x % 1073741825:=Int.emod_nonneg _ (by omega);have hr1:x % 1073741825<1073741825:=Int.emod_lt_of_pos _ (by omega);have hs0:0≤x % 1073741825 % m:=Int.emod_nonneg _ (by omega);have hs1:x % 1073741825 % m<m:=Int.emod_lt_of_pos _ (by omega)
   go_quiet ((go_at_call 13;exact a3p (d4q _ _ hf)))
   go_wp2;go_ret;exact⟨a3e HV.out.1.symm,a3n HGG (a8y _ _ _),by rw[HV.out.2];exact HH⟩
theorem a5e (m:Int)(H:Sep w0 w l)(hi:l[i]?=some (TB g A n c a))(hI:Ints w0 A n xs)(ha:a≤n)(hm:Fits m):
  Calls prog 23 #[.pointer (some ⟨g,0,none⟩),.int .i64 m] w fun e w'=>e=.returned (.int .i64 (tv xs a m))∧∃ l1,KT l i (TB g A n c (ta xs a m)) l1∧Sep w0 w' l1 :=
 (e1v m (H.heap i hi) (H.oldI hI) (fun ad he hn=>by
  obtain⟨ad', he', hb,_⟩:=hI.2.2.2 hn;rw[he] at he';injection he' with he';subst he'
  have:=(H.blockLt i hi).1
  omega) ha hm).mono fun _ _ ⟨he,hg,hh⟩=>⟨he,_,KT.mk_ hi,H.tape_ i hi hg hh⟩
def kNum (xs:List Int) (a:Nat):Int × Nat :=
 if tv xs a 9=0 then(b1j.getD (tv xs (ta xs a 9) 6).toNat 0,ta xs (ta xs a 9) 6)
 else if tv xs a 9=1 then(0,ta xs a 9) else(tv xs (ta xs a 9) 19-9,ta xs (ta xs a 9) 19)
def a9u (xs:List Int):Nat→Nat→List Int × Nat
 | 0,a=>([],a)
 | j+1,a=>(b3w.getD (tv xs a 8).toNat 0::(a9u xs j (ta xs a 8)).1,(a9u xs j (ta xs a 8)).2)
def a2q (xs:List Int) (a:Nat):List Int × Nat:=a9u xs (tv xs a 4).toNat (ta xs a 4)
theorem e2j (H:Sep w0 w l)(hi:l[i]?=some (TB g A n c a))(hI:Ints w0 A n xs)(ha:a≤n):
  Calls prog 44 #[.pointer (some ⟨g,0,none⟩)] w fun e w'=>e=.returned (.int .i64 (kNum xs a).1)∧∃ l1,KT l i (TB g A n c (kNum xs a).2) l1∧Sep w0 w' l1:=by
 have HXL:=Hd hI.len;have HI:=Hd hI;have HH:=Hd H;have KI:=Hd hi;have hnle:=hI.le;clear H hi hI
 go_enter func44,ntmps44
 go_wp2_with fail
 refine(a5e 9 HH KI HI ha ⟨by omega,by omega⟩).mono ?_;rintro ew1 w1 ⟨rfl,l1,hKl1,hSl1⟩;obtain⟨r,hr⟩:∃ r,tv xs a 9=r:=⟨_,rfl⟩;obtain⟨a1,ha1⟩:∃ r,ta xs a 9=r:=⟨_,rfl⟩;have br0:=a0q xs a 9;have br1:=a4b xs a (show(0:Int)<9 by omega);have ba1:=a1p 9 HXL ha;rw[hr] at br0 br1 ⊢;rw[ha1] at ba1 hKl1;have HRr:=Hd hr;have HAa1:=Hd ha1;have H1:=Hd hSl1;have HKl1:=Hd hKl1;clear hr ha1 hSl1 hKl1;by_cases h0:r=0
 ·subst h0;have H2:=Hd (H1.lit 2 #[.int .i64 9223372036854775807,.int .i64 (-9223372036854775808),.int .i64 4611686018427387904,.int .i64 (-1099511627776),.int .i64 8589934592,.int .i64 3037000500] b1j 6 w1.heap.size rfl rfl (by decide))
  go_wp2_with fail
  refine(a5e 6 H2 (i:=i+1) HKl1.out.1 HI ba1 ⟨by omega,by omega⟩).mono ?_;rintro e3 w3 ⟨rfl,l3,hK3,hS3⟩;obtain rfl:=hK3.eq;obtain⟨q,hq⟩:∃ q,tv xs a1 6=q:=⟨_,rfl⟩;have q0:=a0q xs a1 6;have q1:=a4b xs a1 (show(0:Int)<6 by omega);rw[hq] at q0 q1 ⊢;obtain⟨qn,rfl⟩:=eZ q0;obtain⟨x,hx,hf⟩:=d6v qn (by omega);have HV:=Hd (show kNum xs a=(x,ta xs a1 6) by rw[kNum,HRr.out,iP rfl,HAa1.out,hq,Int.toNat_natCast,gD,hx];rfl);have hS4:Sep w0 w3 (.own 2 (.slice (some ⟨w1.heap.size,0,none⟩) 6 6) 6 b1j::l1.set i (TB g A n c (ta xs a1 6))):=hS3;have hcz:=(hS4.own 0 rfl).cell hx;have H4:=Hd hS4.tail_;have hqn:qn<6:=by omega
  clear hx hq hS3 hS4 hK3 q0 q1 H2;go_wp2;go_ret;exact⟨by rw[HV.out];rfl,_,by rw[HV.out];exact HKl1.trans_ (KT.mk_ HKl1.out.1),H4⟩
 have d0:(r==0)=false:=by simpa using h0
 by_cases h1:r=1
 ·subst h1;have HV:=Hd (show kNum xs a=(0,a1) by rw[kNum,HRr.out,iN (by omega),iP rfl,HAa1.out]);go_wp2;go_ret;exact⟨by rw[HV.out];rfl,_,by rw[HV.out];exact HKl1,H1⟩
 ·have d1:(r==1)=false:=by simpa using h1
  have HN:=Hd (And.intro h0 h1);clear h0 h1
  go_wp2_with fail
  refine(a5e 19 H1 HKl1.out.1 HI ba1 ⟨by omega,by omega⟩).mono ?_;rintro ew2 w2 ⟨rfl,l2,hKl2,hSl2⟩;obtain⟨q,hq⟩:∃ r,tv xs a1 19=r:=⟨_,rfl⟩;obtain⟨a2,ha2⟩:∃ r,ta xs a1 19=r:=⟨_,rfl⟩;have bq0:=a0q xs a1 19;have bq1:=a4b xs a1 (show(0:Int)<19 by omega);have ba2:=a1p 19 HXL ba1;rw[hq] at bq0 bq1 ⊢;rw[ha2] at ba2 hKl2;have HRq:=Hd hq;have HAa2:=Hd ha2;have H2:=Hd hSl2;have HKl2:=Hd hKl2;clear hq ha2 hSl2 hKl2;have HV:=Hd (show kNum xs a=(q-9,a2) by rw[kNum,HRr.out,iN HN.out.1,iN HN.out.2,HAa1.out,HRq.out,HAa2.out]);go_wp2;go_ret;exact⟨by rw[HV.out];rfl,_,by rw[HV.out];exact HKl1.trans_ HKl2,H2⟩
theorem e5n (H:Sep w0 w l)(hi:l[i]?=some (TB g A n c a))(hI:Ints w0 A n xs)(ha:a≤n):
  Calls prog 43 #[.pointer (some ⟨g,0,none⟩)] w fun e w'=>∃ v m,e=.returned v∧∃ l1,KT l i (TB g A n c (a2q xs a).2) l1∧Sep w0 w' (.own 3 v m (a2q xs a).1::l1):=by
 have HXL:=Hd hI.len;have HI:=Hd hI;have HH:=Hd (H.addNil 3);have KI:=Hd hi;have hnle:=hI.le;clear H hi hI
 go_enter func43,ntmps43
 go_wp2_with fail
 refine(a5e 4 HH (i:=i+1) KI HI ha ⟨by omega,by omega⟩).mono ?_;rintro e1 w1 ⟨rfl,l1,hK1,hS1⟩;obtain rfl:=hK1.eq;have b0:=a0q xs a 4;have b1:=a4b xs a (show(0:Int)<4 by omega);obtain⟨r,hr⟩:∃ r,tv xs a 4=r:=⟨_,rfl⟩;rw[hr] at b0 b1 ⊢;obtain⟨rn,rfl⟩:=eZ b0;obtain⟨a1,ha1⟩:∃ r,ta xs a 4=r:=⟨_,rfl⟩;have ba1:=a1p 4 HXL ha;rw[ha1] at ba1 hS1;have HV:=Hd (show a2q xs a=a9u xs rn a1 by rw[a2q,hr,ha1,Int.toNat_natCast]);have H1:=Hd (show Sep w0 w1 (oN::l.set i (TB g A n c a1)) from hS1);have HKK:=Hd (KT.mk_ (b:=TB g A n c a1) KI);clear hr ha1 hS1 hK1 HH
 go_wp2_with fail
 go_loopw [3,4] (fun sv nv wr=>∃(j:Nat) (acc:List Int) (a2:Nat) (vx:Value) (l1:List a0e),vx=sv∧nv=.int .i64 j∧acc.length+j≤3∧a2≤n∧(acc++(a9u xs j a2).1,(a9u xs j a2).2)=a9u xs rn a1∧KT l i (TB g A n c a2) l1∧Sep w0 wr (.own 3 vx acc.length acc::l1)) (fun _ nv _=>(intOf nv).toNat)
 case atStart=>exact⟨rn,[],a1,_,_,rfl,rfl,by simp;omega,ba1,rfl,HKK,H1⟩
 case round =>
  clear H1;obtain⟨j,acc,a2,vx,l1,rfl,rfl,hjl,ba2,hq,hK,hS⟩:=hrel;have H:=Hd hS;have HK:=Hd hK;have HQ:=Hd hq;clear hS hK hq;by_cases hj:0<j
  ·obtain⟨j,rfl⟩:∃ k,j=k+1:=⟨j-1,by omega⟩;have H2:=Hd (H.lit 3 #[.int .i64 1,.int .i64 2,.int .i64 3,.int .i64 4,.int .i64 5,.int .i64 0,.int .i64 7,.int .i64 2] b3w 8 wr.heap.size rfl rfl (by decide))
   go_wp2_with fail
   refine(a5e 8 H2 (i:=i+2) HK.out.1 HI ba2 ⟨by omega,by omega⟩).mono ?_;rintro e3 w3 ⟨rfl,l3,hK3,hS3⟩;obtain rfl:=hK3.eq;have q0:=a0q xs a2 8;have q1:=a4b xs a2 (show(0:Int)<8 by omega);obtain⟨q,hq⟩:∃ q,tv xs a2 8=q:=⟨_,rfl⟩;rw[hq] at q0 q1 ⊢;obtain⟨qn,rfl⟩:=eZ q0;obtain⟨x,hx,hx0,hx7⟩:=e4p qn (by omega);obtain⟨a3,ha3⟩:∃ r,ta xs a2 8=r:=⟨_,rfl⟩;have ba3:=a1p 8 HXL ba2;rw[ha3] at ba3 hS3;have HQ2:=Hd (show((acc++[x])++(a9u xs j a3).1,(a9u xs j a3).2)=a9u xs rn a1 by have h7:=HQ.out;rw[a9u,hq,ha3,Int.toNat_natCast,gD,hx] at h7;rw[List.append_assoc];exact h7);have hS4:Sep w0 w3 (.own 3 (.slice (some ⟨wr.heap.size,0,none⟩) 8 8) 8 b3w::.own 3 vx acc.length acc::l1.set i (TB g A n c a3)):=hS3;have hcz:=(hS4.own 0 rfl).cell hx;have H4:=Hd hS4;have hqn:qn<8:=by omega
   have HK4:=Hd (HK.trans_ (KT.mk_ (b:=TB g A n c a3) HK.out.1));clear hx hq ha3 hS3 hS4 hK3 q0 q1 H2 H
   go_wp2_with (at_builtin;refine a0o rfl (.tmp 11) (.tmp 17) 25 3 rfl underlying25 Tryz.infoInt H4.out 1 rfl rfl x ⟨by omega,by omega⟩ _ rfl ?c1 ?_)
   case c1=>omega
   intro v' w' h';have H8:=Hd (Sep.tail_ h');clear h' hcz;go_wp2;go_roundw
   case rel=>exact⟨j,acc++[x],a3,_,_,rfl,by go_num,by rw[List.length_append,List.length_singleton];omega,ba3,HQ2,HK4,by rw[List.length_append,List.length_singleton];exact H8⟩
   case measure=>simp[intOf]
  ·obtain rfl:j=0:=by omega
   have HE:=Hd (show a2q xs a=(acc,a2) by rw[HV.out,←HQ.out,a9u,List.append_nil]);go_wp2;go_ret;rw[HE.out];exact⟨_,_,rfl,_,HK,H⟩
def a2w:Nat→List (List Int)→List Int→List Int
 | _,[],_=>[]
 | k,x::l,s=>if x=s then(k:Int)::a2w (k+1) l s else a2w (k+1) l s
theorem e4q {j:Nat}{y:List Int}(h:L[j]?=some y):L.drop j=y::L.drop (j+1):=by
 obtain⟨hj,rfl⟩:=List.getElem?_eq_some_iff.1 h;exact List.drop_eq_getElem_cons hj
theorem d1u {B:Option Addr}{cl m:Nat}{s:List Int}(h:Lils w A n L)(g:Ints w B m s):
  Calls prog 45 #[.slice A n cl,.slice B m c] w fun e w'=>(∃ v m,e=.returned v∧OwnS w' w.heap.size 3 v m (a2w 0 L s))∧Below w.heap.size w w':=by
 have hll:=h.1;have hln:=h.2.1;have HLL:=Hd hll;have HL:=Hd h;have HG:=Hd g;clear h g hll;have H:=Hd ((Sep.nil w).addNil 3)
 go_enter func45,ntmps45
 go_wp2_with fail
 go_loopw [9,5] (fun iv ov wr=>∃(j:Nat) (vo:Value) (acc:List Int),vo=ov∧iv=.int .i64 j∧j≤n∧acc.length≤j∧acc++a2w j (L.drop j) s=a2w 0 L s∧Sep w wr [.own 3 vo acc.length acc]) (fun iv _ _=>n-(intOf iv).toNat)
 case atStart=>exact⟨0,_,[],rfl,rfl,by omega,Nat.le_refl _,by rw[List.nil_append];rfl,H⟩
 case round =>
  clear H;obtain⟨j,vo,acc,rfl,rfl,hj,hal,hq,hS⟩:=hrel;have H:=Hd hS;have HQ:=Hd hq;clear hS hq;by_cases hlt:j<n
  ·obtain⟨x,hx⟩:∃ x,L[j]?=some x:=gE (by have:=HLL.out;omega);obtain⟨la,Bs,ms,cs,hla,hlb,hcl,hmc,hI⟩:=HL.out.2.2 j x hx;subst hla;have hcj:=H.oC hcl (a1y hlb);have HQD:=Hd (show acc++a2w j (x::L.drop (j+1)) s=a2w 0 L s by rw[←e4q hx];exact HQ);have CI:=a5w (c:=cs) (d:=c) (H.oldI hI) (H.oldI HG);clear hcl hI hx
   go_wp2_with fail
   refine CI.mono ?_;rintro e1 w1 ⟨rfl,k1,rfl⟩;replace H:=Hd (H.drewN k1);obtain⟨v1,hv1⟩:∃ v,World.drewN wr k1=v:=⟨_,rfl⟩;rw[hv1] at H ⊢;clear hv1 CI hcj;by_cases hxs:x=s
   ·have d1:(x==s)=true:=by simpa using hxs
    rw[d1];have HQE:=Hd (show(acc++[(j:Int)])++a2w (j+1) (L.drop (j+1)) s=a2w 0 L s by have h5:=HQD.out;rw[a2w,iP hxs] at h5;rw[List.append_assoc];exact h5);clear hxs d1
    go_wp2_with (at_builtin;refine a0o rfl (.tmp 18) (.tmp 20) 25 3 rfl underlying25 Tryz.infoInt H.out 0 rfl rfl (j:Int) ⟨by omega,by omega⟩ _ rfl ?c1 ?_)
    case c1=>omega
    intro v' w' h';have H8:=Hd h';clear h';go_wp2;go_roundw
    case rel=>exact⟨j+1,_,acc++[(j:Int)],rfl,by go_num,by omega,by rw[List.length_append,List.length_singleton];omega,HQE,by rw[List.length_append,List.length_singleton];exact H8⟩
    case measure=>simp[intOf];omega
   ·have d1:(x==s)=false:=by simpa using hxs
    rw[d1];have HQE:=Hd (show acc++a2w (j+1) (L.drop (j+1)) s=a2w 0 L s by have h5:=HQD.out;rw[a2w,iN hxs] at h5;exact h5);clear hxs d1;go_wp2;go_roundw
    case rel=>exact⟨j+1,_,acc,rfl,by go_num,by omega,by omega,HQE,H⟩
    case measure=>simp[intOf];omega
  ·obtain rfl:j=n:=by omega
   have HE:=Hd (show a2w 0 L s=acc by have h5:=HQ.out;rw[List.drop_eq_nil_of_le (by have:=HLL.out;omega)] at h5;rw[←h5,a2w,List.append_nil]);go_wp2;go_ret;rw[HE.out];exact⟨⟨_,_,rfl,H.ownS 0 rfl⟩,H.base⟩
theorem Sep.emptyAt9 (h:Sep w0 w l)(e:TypeId)(g:Nat)(hg:w.heap.size=g):Sep w0 (w.alloc (.cells #[] e)) (.own e (.slice (some ⟨g,0,none⟩) 0 0) 0 []::l):=by
 subst hg;exact h.empty e
def e1l:List (List Int × ByteArray):=[([2],⟨#[120]⟩),([3],⟨#[120]⟩),([2,2],⟨#[121,195,169]⟩),([4],⟨#[120]⟩),([2,3],⟨#[121,195,169]⟩),([],⟨#[]⟩),([2,2,2],⟨#[97,98,228,184,150]⟩),([5],⟨#[120]⟩),([1,3],⟨#[121,195,169]⟩),([8],⟨#[120]⟩)]
def a6k (xs:List Int) (a:Nat):List Int × ByteArray:=e1l.getD (tv xs a 10).toNat ([],⟨#[]⟩)
theorem Sep.dropMid {w0 w:World}{c:a0e}:∀(k:Nat) {l:List a0e},Sep w0 w (c::l)→Sep w0 w (c::l.drop k)
 | 0,_,h=>h
 | _+1,[],h=>h
 | k+1,_::_,h=>Sep.dropMid k (Sep.less1 h)
theorem e6l (H:Sep w0 w l)(hi:l[i]?=some (TB g A n c a))(hI:Ints w0 A n xs)(ha:a≤n):
  Calls prog 22 #[.pointer (some ⟨g,0,none⟩)] w fun e w'=>∃ v m,e=.returned (.tuple #[v,.string (a6k xs a).2])∧∃ l1,KT l i (TB g A n c (ta xs a 10)) l1∧Sep w0 w' (.own 3 v m (a6k xs a).1::l1):=by
 have HXL:=Hd hI.len;have HI:=Hd hI;have hnle:=hI.le;have h1:=((((((((((H).lit 3 #[.int .i64 2] [2] 1 (w.heap.size) (rfl) rfl (by decide)).lit 3 #[.int .i64 3] [3] 1 (w.heap.size+1) (by simp) rfl (by decide)).lit 3 #[.int .i64 2,.int .i64 2] [2,2] 2 (w.heap.size+1+1) (by simp) rfl (by decide)).lit 3 #[.int .i64 4] [4] 1 (w.heap.size+1+1+1) (by simp) rfl (by decide)).lit 3 #[.int .i64 2,.int .i64 3] [2,3] 2 (w.heap.size+1+1+1+1) (by simp) rfl (by decide)).lit 3 #[] [] 0 (w.heap.size+1+1+1+1+1) (by simp) rfl (by decide)).lit 3 #[.int .i64 2,.int .i64 2,.int .i64 2] [2,2,2] 3 (w.heap.size+1+1+1+1+1+1) (by simp) rfl (by decide)).lit 3 #[.int .i64 5] [5] 1 (w.heap.size+1+1+1+1+1+1+1) (by simp) rfl (by decide)).lit 3 #[.int .i64 1,.int .i64 3] [1,3] 2 (w.heap.size+1+1+1+1+1+1+1+1) (by simp) rfl (by decide)).lit 3 #[.int .i64 8] [8] 1 (w.heap.size+1+1+1+1+1+1+1+1+1) (by simp) rfl (by decide);have h2:=h1.allocBox (w.heap.size+1+1+1+1+1+1+1+1+1+1) 25 [.slice (some ⟨w.heap.size,0,none⟩) 1 1,.slice (some ⟨w.heap.size+1,0,none⟩) 1 1,.slice (some ⟨w.heap.size+1+1,0,none⟩) 2 2,.slice (some ⟨w.heap.size+1+1+1,0,none⟩) 1 1,.slice (some ⟨w.heap.size+1+1+1+1,0,none⟩) 2 2,.slice (some ⟨w.heap.size+1+1+1+1+1,0,none⟩) 0 0,.slice (some ⟨w.heap.size+1+1+1+1+1+1,0,none⟩) 3 3,.slice (some ⟨w.heap.size+1+1+1+1+1+1+1,0,none⟩) 1 1,.slice (some ⟨w.heap.size+1+1+1+1+1+1+1+1,0,none⟩) 2 2,.slice (some ⟨w.heap.size+1+1+1+1+1+1+1+1+1,0,none⟩) 1 1] (by simp);have H2:=Hd h2;have KI:=Hd hi;clear h1 h2 H hi hI
 go_enter func22,ntmps22
 go_wp2_with fail
 refine(a5e 10 H2 (i:=i+11) KI HI ha ⟨by omega,by omega⟩).mono ?_;rintro e1 w1 ⟨rfl,l1,hK1,hS1⟩;obtain rfl:=hK1.eq;have q0:=a0q xs a 10;have q1:=a4b xs a (show(0:Int)<10 by omega);obtain⟨q,hq⟩:∃ q,tv xs a 10=q:=⟨_,rfl⟩;rw[hq] at q0 q1 ⊢;have HQ:=Hd (show a6k xs a=e1l.getD q.toNat ([],⟨#[]⟩) by rw[a6k,hq]);obtain⟨qn,rfl⟩:=eZ q0;obtain⟨a1,ha1⟩:∃ r,ta xs a 10=r:=⟨_,rfl⟩;rw[ha1] at hS1;have HA1:=Hd ha1;have H3:=Hd (show Sep w0 w1 (.box (w.heap.size+1+1+1+1+1+1+1+1+1+1) 25 [.slice (some ⟨w.heap.size,0,none⟩) 1 1,.slice (some ⟨w.heap.size+1,0,none⟩) 1 1,.slice (some ⟨w.heap.size+1+1,0,none⟩) 2 2,.slice (some ⟨w.heap.size+1+1+1,0,none⟩) 1 1,.slice (some ⟨w.heap.size+1+1+1+1,0,none⟩) 2 2,.slice (some ⟨w.heap.size+1+1+1+1+1,0,none⟩) 0 0,.slice (some ⟨w.heap.size+1+1+1+1+1+1,0,none⟩) 3 3,.slice (some ⟨w.heap.size+1+1+1+1+1+1+1,0,none⟩) 1 1,.slice (some ⟨w.heap.size+1+1+1+1+1+1+1+1,0,none⟩) 2 2,.slice (some ⟨w.heap.size+1+1+1+1+1+1+1+1+1,0,none⟩) 1 1]::.own 3 (.slice (some ⟨w.heap.size+1+1+1+1+1+1+1+1+1,0,none⟩) 1 1) 1 [8]::.own 3 (.slice (some ⟨w.heap.size+1+1+1+1+1+1+1+1,0,none⟩) 2 2) 2 [1,3]::.own 3 (.slice (some ⟨w.heap.size+1+1+1+1+1+1+1,0,none⟩) 1 1) 1 [5]::.own 3 (.slice (some ⟨w.heap.size+1+1+1+1+1+1,0,none⟩) 3 3) 3 [2,2,2]::.own 3 (.slice (some ⟨w.heap.size+1+1+1+1+1,0,none⟩) 0 0) 0 []::.own 3 (.slice (some ⟨w.heap.size+1+1+1+1,0,none⟩) 2 2) 2 [2,3]::.own 3 (.slice (some ⟨w.heap.size+1+1+1,0,none⟩) 1 1) 1 [4]::.own 3 (.slice (some ⟨w.heap.size+1+1,0,none⟩) 2 2) 2 [2,2]::.own 3 (.slice (some ⟨w.heap.size+1,0,none⟩) 1 1) 1 [3]::.own 3 (.slice (some ⟨w.heap.size,0,none⟩) 1 1) 1 [2]::l.set i (TB g A n c a1)) from hS1);have HK:=Hd (KT.mk_ (b:=TB g A n c a1) KI);have hqn:qn<10:=by omega
 clear hq ha1 hS1 hK1 H2 q0 q1;have hcase:qn=0∨qn=1∨qn=2∨qn=3∨qn=4∨qn=5∨qn=6∨qn=7∨qn=8∨qn=9:=by omega
 have mx1:max (1:Int) 0=1:=by decide
 have mx2:max (2:Int) 0=2:=by decide
 have mx0:max (-1:Int) 0=0:=by decide
 rcases hcase with rfl|rfl|rfl|rfl|rfl|rfl|rfl|rfl|rfl|rfl
 ·have hc:=H3.c 0 0;have hlt:(0:Int)<10:=by omega
  have h4:=H3.allocBox w1.heap.size 9 [.string ⟨#[120]⟩,.string ⟨#[121,195,169]⟩,.string ⟨#[97,98,228,184,150]⟩] rfl;have H4:=Hd h4;have ht:=H4.c 0 0;clear h4;have H5:=Hd (H4.emptyAt9 3 (w1.heap.size+1) (by simp))
  go_wp2_with (at_builtin;refine a0g rfl (.tmp 34) (.tmp 35) 25 3 rfl underlying25 Tryz.infoInt H5.out 0 rfl rfl _ 1 _ _ rfl (H5.out.ownInts 12 rfl).2.2 ?c1 ?_)
  case c1=>omega
  intro v9 w9 h9;have H9:=Hd h9;clear h9 H5 hc ht;have HX:=Hd (show a6k xs a=([2],⟨#[120]⟩) from HQ);go_wp2;go_ret2;rw[HX.out];refine⟨_,_,rfl,_,by rw[HA1.out];exact HK,(Sep.dropMid 12 H9)⟩
 ·have hc:=H3.c 0 1;have hlt:(1:Int)<10:=by omega
  have h4:=H3.allocBox w1.heap.size 9 [.string ⟨#[120]⟩,.string ⟨#[121,195,169]⟩,.string ⟨#[97,98,228,184,150]⟩] rfl;have H4:=Hd h4;have ht:=H4.c 0 0;clear h4;have H5:=Hd (H4.emptyAt9 3 (w1.heap.size+1) (by simp))
  go_wp2_with (at_builtin;refine a0g rfl (.tmp 34) (.tmp 35) 25 3 rfl underlying25 Tryz.infoInt H5.out 0 rfl rfl _ 1 _ _ rfl (H5.out.ownInts 11 rfl).2.2 ?c1 ?_)
  case c1=>omega
  intro v9 w9 h9;have H9:=Hd h9;clear h9 H5 hc ht;have HX:=Hd (show a6k xs a=([3],⟨#[120]⟩) from HQ);go_wp2;go_ret2;rw[HX.out];refine⟨_,_,rfl,_,by rw[HA1.out];exact HK,(Sep.dropMid 12 H9)⟩
 ·have hc:=H3.c 0 2;have hlt:(2:Int)<10:=by omega
  have h4:=H3.allocBox w1.heap.size 9 [.string ⟨#[120]⟩,.string ⟨#[121,195,169]⟩,.string ⟨#[97,98,228,184,150]⟩] rfl;have H4:=Hd h4;have ht:=H4.c 0 1;clear h4;have H5:=Hd (H4.emptyAt9 3 (w1.heap.size+1) (by simp))
  go_wp2_with (at_builtin;refine a0g rfl (.tmp 34) (.tmp 35) 25 3 rfl underlying25 Tryz.infoInt H5.out 0 rfl rfl _ 2 _ _ rfl (H5.out.ownInts 10 rfl).2.2 ?c1 ?_)
  case c1=>omega
  intro v9 w9 h9;have H9:=Hd h9;clear h9 H5 hc ht;have HX:=Hd (show a6k xs a=([2,2],⟨#[121,195,169]⟩) from HQ);go_wp2;go_ret2;rw[HX.out];refine⟨_,_,rfl,_,by rw[HA1.out];exact HK,(Sep.dropMid 12 H9)⟩
 ·have hc:=H3.c 0 3;have hlt:(3:Int)<10:=by omega
  have h4:=H3.allocBox w1.heap.size 9 [.string ⟨#[120]⟩,.string ⟨#[121,195,169]⟩,.string ⟨#[97,98,228,184,150]⟩] rfl;have H4:=Hd h4;have ht:=H4.c 0 0;clear h4;have H5:=Hd (H4.emptyAt9 3 (w1.heap.size+1) (by simp))
  go_wp2_with (at_builtin;refine a0g rfl (.tmp 34) (.tmp 35) 25 3 rfl underlying25 Tryz.infoInt H5.out 0 rfl rfl _ 1 _ _ rfl (H5.out.ownInts 9 rfl).2.2 ?c1 ?_)
  case c1=>omega
  intro v9 w9 h9;have H9:=Hd h9;clear h9 H5 hc ht;have HX:=Hd (show a6k xs a=([4],⟨#[120]⟩) from HQ);go_wp2;go_ret2;rw[HX.out];refine⟨_,_,rfl,_,by rw[HA1.out];exact HK,(Sep.dropMid 12 H9)⟩
 ·have hc:=H3.c 0 4;have hlt:(4:Int)<10:=by omega
  have h4:=H3.allocBox w1.heap.size 9 [.string ⟨#[120]⟩,.string ⟨#[121,195,169]⟩,.string ⟨#[97,98,228,184,150]⟩] rfl;have H4:=Hd h4;have ht:=H4.c 0 1;clear h4;have H5:=Hd (H4.emptyAt9 3 (w1.heap.size+1) (by simp))
  go_wp2_with (at_builtin;refine a0g rfl (.tmp 34) (.tmp 35) 25 3 rfl underlying25 Tryz.infoInt H5.out 0 rfl rfl _ 2 _ _ rfl (H5.out.ownInts 8 rfl).2.2 ?c1 ?_)
  case c1=>omega
  intro v9 w9 h9;have H9:=Hd h9;clear h9 H5 hc ht;have HX:=Hd (show a6k xs a=([2,3],⟨#[121,195,169]⟩) from HQ);go_wp2;go_ret2;rw[HX.out];refine⟨_,_,rfl,_,by rw[HA1.out];exact HK,(Sep.dropMid 12 H9)⟩
 ·have hc:=H3.c 0 5;have hlt:(5:Int)<10:=by omega
  have h4:=H3.allocBox w1.heap.size 9 [.string ⟨#[120]⟩,.string ⟨#[121,195,169]⟩,.string ⟨#[97,98,228,184,150]⟩] rfl;have H4:=Hd h4;have ht:=H4.c 0 0;clear h4;have H5:=Hd (H4.emptyAt9 3 (w1.heap.size+1) (by simp))
  go_wp2_with (at_builtin;refine a0g rfl (.tmp 34) (.tmp 35) 25 3 rfl underlying25 Tryz.infoInt H5.out 0 rfl rfl _ 0 _ _ rfl (H5.out.ownInts 7 rfl).2.2 ?c1 ?_)
  case c1=>omega
  intro v9 w9 h9;have H9:=Hd h9;clear h9 H5 hc ht;have HX:=Hd (show a6k xs a=([],⟨#[]⟩) from HQ);go_wp2;go_ret2;rw[HX.out];refine⟨_,_,rfl,_,by rw[HA1.out];exact HK,(Sep.dropMid 12 H9)⟩
 ·have hc:=H3.c 0 6;have hlt:(6:Int)<10:=by omega
  have h4:=H3.allocBox w1.heap.size 9 [.string ⟨#[120]⟩,.string ⟨#[121,195,169]⟩,.string ⟨#[97,98,228,184,150]⟩] rfl;have H4:=Hd h4;have ht:=H4.c 0 2;clear h4;have H5:=Hd (H4.emptyAt9 3 (w1.heap.size+1) (by simp))
  go_wp2_with (at_builtin;refine a0g rfl (.tmp 34) (.tmp 35) 25 3 rfl underlying25 Tryz.infoInt H5.out 0 rfl rfl _ 3 _ _ rfl (H5.out.ownInts 6 rfl).2.2 ?c1 ?_)
  case c1=>omega
  intro v9 w9 h9;have H9:=Hd h9;clear h9 H5 hc ht;have HX:=Hd (show a6k xs a=([2,2,2],⟨#[97,98,228,184,150]⟩) from HQ);go_wp2;go_ret2;rw[HX.out];refine⟨_,_,rfl,_,by rw[HA1.out];exact HK,(Sep.dropMid 12 H9)⟩
 ·have hc:=H3.c 0 7;have hlt:(7:Int)<10:=by omega
  have h4:=H3.allocBox w1.heap.size 9 [.string ⟨#[120]⟩,.string ⟨#[121,195,169]⟩,.string ⟨#[97,98,228,184,150]⟩] rfl;have H4:=Hd h4;have ht:=H4.c 0 0;clear h4;have H5:=Hd (H4.emptyAt9 3 (w1.heap.size+1) (by simp))
  go_wp2_with (at_builtin;refine a0g rfl (.tmp 34) (.tmp 35) 25 3 rfl underlying25 Tryz.infoInt H5.out 0 rfl rfl _ 1 _ _ rfl (H5.out.ownInts 5 rfl).2.2 ?c1 ?_)
  case c1=>omega
  intro v9 w9 h9;have H9:=Hd h9;clear h9 H5 hc ht;have HX:=Hd (show a6k xs a=([5],⟨#[120]⟩) from HQ);go_wp2;go_ret2;rw[HX.out];refine⟨_,_,rfl,_,by rw[HA1.out];exact HK,(Sep.dropMid 12 H9)⟩
 ·have hc:=H3.c 0 8;have hlt:(8:Int)<10:=by omega
  have h4:=H3.allocBox w1.heap.size 9 [.string ⟨#[120]⟩,.string ⟨#[121,195,169]⟩,.string ⟨#[97,98,228,184,150]⟩] rfl;have H4:=Hd h4;have ht:=H4.c 0 1;clear h4;have H5:=Hd (H4.emptyAt9 3 (w1.heap.size+1) (by simp))
  go_wp2_with (at_builtin;refine a0g rfl (.tmp 34) (.tmp 35) 25 3 rfl underlying25 Tryz.infoInt H5.out 0 rfl rfl _ 2 _ _ rfl (H5.out.ownInts 4 rfl).2.2 ?c1 ?_)
  case c1=>omega
  intro v9 w9 h9;have H9:=Hd h9;clear h9 H5 hc ht;have HX:=Hd (show a6k xs a=([1,3],⟨#[121,195,169]⟩) from HQ);go_wp2;go_ret2;rw[HX.out];refine⟨_,_,rfl,_,by rw[HA1.out];exact HK,(Sep.dropMid 12 H9)⟩
 ·have hc:=H3.c 0 9;have hlt:(9:Int)<10:=by omega
  have h4:=H3.allocBox w1.heap.size 9 [.string ⟨#[120]⟩,.string ⟨#[121,195,169]⟩,.string ⟨#[97,98,228,184,150]⟩] rfl;have H4:=Hd h4;have ht:=H4.c 0 0;clear h4;have H5:=Hd (H4.emptyAt9 3 (w1.heap.size+1) (by simp))
  go_wp2_with (at_builtin;refine a0g rfl (.tmp 34) (.tmp 35) 25 3 rfl underlying25 Tryz.infoInt H5.out 0 rfl rfl _ 1 _ _ rfl (H5.out.ownInts 3 rfl).2.2 ?c1 ?_)
  case c1=>omega
  intro v9 w9 h9;have H9:=Hd h9;clear h9 H5 hc ht;have HX:=Hd (show a6k xs a=([8],⟨#[120]⟩) from HQ);go_wp2;go_ret2;rw[HX.out];refine⟨_,_,rfl,_,by rw[HA1.out];exact HK,(Sep.dropMid 12 H9)⟩
end Go.Proofs.YtdcmanhgekjhgaaGreatDoor
