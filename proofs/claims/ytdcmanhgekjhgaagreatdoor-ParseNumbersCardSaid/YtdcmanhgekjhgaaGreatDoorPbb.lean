import Derived.Shelf.Strconv.Clone
import Derived.Test.YtdcmanhgekjhgaaGreatDoorPba
set_option maxRecDepth 100000
set_option maxHeartbeats 12800000
namespace Go.Proofs.YtdcmanhgekjhgaaGreatDoor
open Go.RowKit Go.Proofs.Tryz
variable {g:Nat} {l:List a0e} {s x:ByteArray} {t:TypeId} {w w0:World}
theorem isZ (w:World):a1m w (.agg zH) gZ:=⟨_,_,_,_,_,_,_,_,_,rfl,⟨Nat.le_refl _,Nat.le_refl _,Nat.le_refl _,Ints.nil_ _ none,⟨rfl,by omega,fun j nd h=>by simp[gZ] at h⟩,Ints.nil_ _ none,by show 0≤_;omega⟩⟩
theorem e6h:FewG 80000 gZ:=⟨by show 0≤_;omega,by show 0≤_;omega,by show 0≤_;omega,fun j nd h=>by simp[gZ] at h⟩
theorem Sep.set4 {a b c d:Value}(h:Sep w0 w l)(i:Nat)(hi:l[i]?=some (.box g t [a,b,c,d]))(a' b' c' d' : Value):
  Sep w0 ((((w.setCell ⟨g,0,none⟩ a').setCell ⟨g,1,none⟩ b').setCell ⟨g,2,none⟩ c').setCell ⟨g,3,none⟩ d') (l.set i (.box g t [a', b', c', d'])):=by
 have hil:=(lL hi);have h1:=h.setBox i 0 a' hi;have h2:=h1.setBox i 1 b' (List.getElem?_set_self hil);rw[List.set_set] at h2;have h3:=h2.setBox i 2 c' (List.getElem?_set_self hil);rw[List.set_set] at h3;have h4:=h3.setBox i 3 d' (List.getElem?_set_self hil);rw[List.set_set] at h4;exact h4
theorem Sep.both4 (h:Sep w0 w l)(hp:g<w0.heap.size)(hm:∀ c∈l,c.mine)(a b c d:Value):
  Sep ((((w0.setCell ⟨g,0,none⟩ a).setCell ⟨g,1,none⟩ b).setCell ⟨g,2,none⟩ c).setCell ⟨g,3,none⟩ d) ((((w.setCell ⟨g,0,none⟩ a).setCell ⟨g,1,none⟩ b).setCell ⟨g,2,none⟩ c).setCell ⟨g,3,none⟩ d) l :=
 (((h.both a hp hm).both b (by rw[a2e];exact hp) hm).both c (by rw[a2e,a2e];exact hp) hm).both d (by rw[a2e,a2e,a2e];exact hp) hm
theorem c5r (s:ByteArray):∀ x∈(a0z s).1,x.size≤s.size:=fun x hx=>by
 obtain⟨q,hq,rfl⟩:=List.mem_map.1 hx;have:=a6f 10 (bl s) q (List.dropLast_subset _ hq);rw[a3w] at this;have e:(ofL q).size=q.length:=by rw[←a3w,a6y]
 omega
theorem eqD {l:List UInt8}:(x.toList==l)=decide (x=ofL l):=by
 by_cases h:x=ofL l
 ·rw[decide_eq_true h,eqL.2 h];simp
 ·rw[decide_eq_false h];simpa using (fun e=>h (eqL.1 e):¬ x.toList=l)
theorem d3b (s:ByteArray):(a0z s).1.length≤s.size:=by
 unfold a0z;rw[List.length_map,List.length_dropLast];have:=a5p 10 (bl s);rw[a3w] at this;omega
theorem c1u (h:65536<s.size):a2r s=(gZ,3):=by unfold a2r;rw[iP h]
theorem c9e (h:¬ 65536<s.size)(g:(a0z s).2=false∨(a0z s).1.length<2):a2r s=(gZ,12):=by unfold a2r;rw[iN h,iP g]
theorem d7y {l:List ByteArray}{h:ByteArray × List Int × Bool}{N:List a0l × Bool}{t:List Int × Bool}(hs:¬ 65536<s.size)(hl:a0z s=(l,true))(h2:¬ l.length<2)
  (hh:a4y (l.headD ⟨#[]⟩)=h)(hN:a1s (l.drop 1).dropLast=N)(ht:a5x (l.getLastD ⟨#[]⟩)=t):
  a2r s=if h.2.2=false∨N.2=false∨t.2=false then(gZ,12) else if (a0f ⟨h.2.1,h.1,N.1,t.1⟩).1≠0 then(gZ,(a0f ⟨h.2.1,h.1,N.1,t.1⟩).1) else if (a4f ⟨h.2.1,h.1,N.1,t.1⟩).1≠s then(gZ,12) else(⟨h.2.1,h.1,N.1,t.1⟩,0):=by
 unfold a2r;rw[iN hs,hl,hh,hN,ht,iN (by rintro(e|e);cases e;exact h2 e)]
theorem e3x (a b c r s g:a0e)(P:List a0e):(a::b::c::r::s::g::P).Perm (r::s::g::a::b::c::P):=List.Perm.append_right P (List.perm_append_comm (l₁:=[a,b,c]) (l₂:=[r,s,g]))
theorem d6q {l:List ByteArray}{j:Nat}(h:l.length=j+1)(hx:l[j]?=some x):l.getLastD ⟨#[]⟩=x:=by
 rw[List.getLastD_eq_getLast?,List.getLast?_eq_getElem?,h,Nat.add_sub_cancel,hx];rfl
theorem e6m {l:List ByteArray}{k:Nat}(h:k+2<l.length):((l.drop 1).dropLast)[k]?=l[k+1]? := by
 rw[List.getElem?_dropLast,List.length_drop,iP (by omega),List.getElem?_drop,Nat.add_comm]
theorem e7j {vs:List Value}:∀ c∈[a0e.box g t vs],c.mine:=fun c hc=>by rw[List.mem_singleton] at hc;subst hc;exact True.intro
theorem a2s {w':World}(H:Sep w w' l)(e:Int):b6u w gZ e (.returned (.tuple #[.agg zH,.int .i64 e])) w':=⟨_,rfl,isZ _,e6h,H.base⟩
theorem c0m (w:World)(s:ByteArray)(hs:s.size≤9223372036854775807):
  Calls prog 29 #[.string s] w fun e w'=>b6u w (a2r s).1 (a2r s).2 e w':=by
 have h0:=(Sep.nil w).allocBox w.heap.size 28 zG rfl
 go_enter func29,ntmps29
 go_upto_region 1 with fail
 generalize w.alloc (.cells zH 28)=w0 at *;obtain⟨gR,hgR⟩:∃ g,w.heap.size=g:=⟨_,rfl⟩;have HGR:=Hd hgR;rw[hgR] at h0 ⊢;have H0:=Hd h0;clear h0 hgR;by_cases hbig:65536<s.size
 ·have db:decide ((65536:Int)<(s.size:Int))=true:=decide_eq_true (by omega);have HP:=Hd (c1u hbig);clear hbig;obtain⟨r0,r1,r2,r3⟩:=H0.z4 0 rfl;obtain⟨fr0,fr1,fr2,fr3⟩:=H0.f4 0 rfl
  go_wp2_with fail
  refine a0p (.int .i64 3) (H0.set4 0 rfl _ _ _ _) 0 rfl results29 rfl rfl rfl ?_;rw[HP.out];exact a2s (H0.set4 0 rfl _ _ _ _) _
 ·have db:decide ((65536:Int)<(s.size:Int))=false:=decide_eq_false (by omega);have hs6:s.size≤65536:=by omega
  have C1:=Hd (c0l w0 s (by omega));have HLS:=Hd (c5r s);have HLL:=Hd (d3b s);have HPF:=Hd (c9e hbig);have HPO:=Hd (fun (l:List ByteArray) (h:ByteArray × List Int × Bool) (N:List a0l × Bool) (t:List Int × Bool)=>d7y (s:=s) (l:=l) (h:=h) (N:=N) (t:=t) hbig);obtain⟨⟨l,ok⟩,hl⟩:∃ r,a0z s=r:=⟨_,rfl⟩;rw[hl] at C1 HLS HLL HPF;have HL:=Hd hl;clear hl hbig
  go_wp2_with fail
  refine C1.mono ?_;rintro e1 w1 ⟨v,rfl,hP⟩;obtain⟨A1,c1,K1,rfl,hc1,hS1,hb1,_⟩:=hP.strs (fun x hx=>Nat.le_trans (HLS x hx) (by omega)) (by have:=HLL.out;omega);have HS1:=Hd hS1;replace H0:=Hd (H0.below hb1);have HGL0:=Hd (H0.blockLt 0 rfl).2;clear hP hS1 hb1 C1;obtain⟨n,hn⟩:∃ n,l.length=n:=⟨_,rfl⟩;rw[hn] at HS1 hc1 ⊢;have HN:=Hd hn;have hn9:n≤65536:=by have h9:l.length≤s.size:=HLL.out;omega
  clear hn
  cases ok with
  | false =>
   have HP:=Hd (HPF (.inl rfl));obtain⟨r0,r1,r2,r3⟩:=H0.z4 0 rfl;obtain⟨fr0,fr1,fr2,fr3⟩:=H0.f4 0 rfl
   go_wp2_with fail
   refine a0p (.int .i64 12) (H0.set4 0 rfl _ _ _ _) 0 rfl results29 rfl rfl rfl ?_;rw[HP.out]
   exact a2s (H0.set4 0 rfl _ _ _ _) _
  | true =>
   by_cases hn2:n<2
   ·have d2:decide ((n:Int)<2)=true:=decide_eq_true (by omega);have HP:=Hd (HPF (.inr (by show l.length<2;rw[HN.out];exact hn2)));obtain⟨r0,r1,r2,r3⟩:=H0.z4 0 rfl;obtain⟨fr0,fr1,fr2,fr3⟩:=H0.f4 0 rfl
    go_wp2_with fail
    refine a0p (.int .i64 12) (H0.set4 0 rfl _ _ _ _) 0 rfl results29 rfl rfl rfl ?_;rw[HP.out];exact a2s (H0.set4 0 rfl _ _ _ _) _
   ·have d2:decide ((n:Int)<2)=false:=decide_eq_false (by omega);replace HPO:=Hd (fun (h:ByteArray × List Int × Bool) (N:List a0l × Bool) (t:List Int × Bool)=>HPO.out l h N t HL (by rw[HN.out];exact hn2));clear HPF HL hs;have h2:=(Sep.nil w1).allocBox w1.heap.size 28 zG rfl
    obtain⟨s0,rest0,hl0⟩:∃ x r,l=x::r:=by
     cases l with
     | nil=>have:=HN.out;simp only[List.length_nil] at this;omega
     | cons x r=>exact⟨x,r,rfl⟩
    have hl00:l[0]?=some s0:=by rw[hl0];rfl
    have hh0:l.headD ⟨#[]⟩=s0:=by rw[hl0];rfl
    have HH0:=Hd hh0;obtain⟨a1,hA1,hab1,hcl0,hk9⟩:=HS1.out.2.2.2 0 s0 hl00;clear hk9;subst hA1;have hb2:Below w1.heap.size w1 (w1.alloc (.cells zH 28)):=(Below.refl _ _).alloc (Nat.le_refl _) _;have hsz0:s0.size≤65536:=Nat.le_trans (HLS s0 (mG hl00)) hs6;clear hl00 hh0 hl0
    go_upto_region 7 with fail
    generalize w1.alloc (.cells zH 28)=w2 at *;replace hcl0:=kC hb2 hcl0;have H1:=Hd h2;clear h2 hb2;obtain⟨gG,hgG⟩:∃ g,w1.heap.size=g:=⟨_,rfl⟩;have HGG:=Hd hgG;rw[hgG] at H1 ⊢;clear hgG;rw[addZ] at hcl0;have C2:=Hd (a6b w2 s0 (by omega));have HWS:=Hd (a4c (s:=s0) (by omega));have HWL:=Hd (a4g s0);obtain⟨W,hW⟩:∃ W,a0u s0=W:=⟨_,rfl⟩;rw[hW] at C2 HWS HWL;have HW:=Hd hW;clear hW
    go_wp2_with fail
    refine C2.mono ?_;rintro e3 w3 ⟨v,rfl,hP⟩;obtain⟨A3,c3,K3,rfl,hc3,hS3,hb3,hK3⟩:=hP.strs HWS (by have:=HWL.out;omega);have hgl:=(H1.blockLt 0 rfl).2;have hKG:K3≠gG:=by omega
    have HKG:=Hd hKG;replace H1:=Hd (H1.below hb3);have HS3:=Hd hS3;have hgl3:gG < w3.heap.size:=(H1.blockLt 0 rfl).2;have HGL:=Hd hgl3;have h4:=(Sep.nil w3).allocBox w3.heap.size 100 [.slice A3 W.length c3,.bool false] rfl;clear hP hS3 hb3 hK3 hKG hgl hgl3 C2
    go_upto_region 8 with fail
    generalize w3.alloc (.cells #[.slice A3 W.length c3,.bool false] 100)=w4 at *;obtain⟨g3,hg3⟩:∃ g,w3.heap.size=g:=⟨_,rfl⟩;rw[hg3] at h4 ⊢;have H2:=Hd h4;clear h4 hg3;have C3:=a5f H2 (i:=0) rfl HS3 hc3;obtain⟨s1,hs1⟩:∃ x,W.headD ⟨#[]⟩=x:=⟨_,rfl⟩;obtain⟨q0,hq0⟩:∃ x,(false||W.isEmpty)=x:=⟨_,rfl⟩;rw[hs1,hq0] at C3;have HS1w:=Hd hs1;have HQ0:=Hd hq0;have HC3:=Hd C3;clear C3 hs1 hq0
    go_wp2_with fail
    refine HC3.mono ?_;rintro e4 w5 ⟨rfl,A4,n4,c4,hR,hS,hc4⟩;replace H2:=Hd (show Sep w3 w5 [.box g3 100 [.slice A4 n4 c4,.bool q0]] from hR);have HS4:=Hd hS;clear hR hS HC3;obtain⟨b1,hb1⟩:∃ b,decide (s1=a9b)=b:=⟨_,rfl⟩;have e1:(s1.toList==[109,101,115,104])=b1:=by rw[←hb1];exact eqD (l:=[109,101,115,104])
    have HB1:=Hd hb1;clear hb1;have C3:=a5f H2 (i:=0) rfl HS4 hc4;obtain⟨nm,hnm⟩:∃ x,(W.drop 1).headD ⟨#[]⟩=x:=⟨_,rfl⟩;obtain⟨q1,hq1⟩:∃ x,(q0||(W.drop 1).isEmpty)=x:=⟨_,rfl⟩;rw[hnm,hq1] at C3;have HNM:=Hd hnm;have HQ1:=Hd hq1;have HC3:=Hd C3;clear C3 hnm hq1
    go_wp2_with fail
    clear e1;refine HC3.mono ?_;rintro e5 w6 ⟨rfl,A5,n5,c5,hR,hS,hc5⟩;replace H2:=Hd (show Sep w3 w6 [.box g3 100 [.slice A5 n5 c5,.bool q1]] from hR);have HS5:=Hd hS;clear hR hS HC3;have J1:=Hd (H1.below H2.base);have k1:=J1.c 0 1;have fk1:=J1.frozenBox 0 1 rfl;have h1:=H1.setBox 0 1 (.string nm) rfl;have h2:=H2.both (g:=gG) (i:=1) (.string nm) HGL e7j;have hS:=HS5.apart (g:=gG) (i:=1) (.string nm) HKG
    go_upto_region 10 with fail
    generalize w6.setCell ⟨gG,1,none⟩ (.string nm)=w7 at *;generalize w3.setCell ⟨gG,1,none⟩ (.string nm)=wB at *;replace H1:=Hd (show Sep w1 wB [.box gG 28 [.slice none 0 0,.string nm,.slice none 0 0,.slice none 0 0]] from h1);replace H2:=Hd h2;replace HS5:=Hd hS;clear h1 h2 hS k1 fk1;replace J1:=Hd (H1.below H2.base);have k1:=J1.c 0 1;obtain⟨ok2,hok2⟩:∃ b,(b1 && !decide (nm=⟨#[]⟩))=b:=⟨_,rfl⟩;have HOK2:=Hd hok2
    go_cut [5] (fun v wx=>v=.bool ok2∧wx=w7)
    case first =>
     cases b1 with
     | false =>
      obtain rfl:ok2=false:=by rw[←hok2];rfl
      clear hok2
      go_wp2_with fail
      go_meet
      exact⟨rfl,rfl⟩
     | true =>
      by_cases he:nm=⟨#[]⟩
      ·obtain rfl:ok2=false:=by rw[←hok2,decide_eq_true he];rfl
       have e0:nm.toList.isEmpty=true:=by rw[he,ByteArray.toList_eq];rfl
       clear hok2 he
       go_wp2_with fail
       go_meet;exact⟨rfl,rfl⟩
      ·obtain rfl:ok2=true:=by rw[←hok2,decide_eq_false he];rfl
       have e0:nm.toList.isEmpty=false:=by
        cases hc:nm.toList.isEmpty with
        | false=>rfl
        | true=>exact absurd (eqL.1 (List.isEmpty_iff.1 hc)) he
       clear hok2 he
       go_wp2_with fail
       go_meet;exact⟨rfl,rfl⟩
    case rest =>
     obtain⟨rfl,rfl⟩:=hcut;clear k1 hok2;have C4:=c1x H2 (i:=0) rfl HS5 hc5;obtain⟨R,hR⟩:∃ R,a2x ((W.drop 1).drop 1) q1=R:=⟨_,rfl⟩;rw[hR] at C4;have HR:=Hd hR;have HC4:=Hd C4;clear C4 hR
     go_wp2_with fail
     refine HC4.mono ?_;rintro e6 w8 ⟨v4,m4,rfl,A6,n6,c6,hR,hS,hc6⟩;obtain⟨bad,hbad⟩:∃ b,R.2.2=b:=⟨_,rfl⟩;rw[hbad] at hR;have HBAD:=Hd hbad;have hR:Sep wB w8 [.own 3 v4 m4 R.1,.box g3 100 [.slice A6 n6 c6,.bool bad]]:=hR;obtain⟨B4,d4,hv,hm4,_,_⟩:=(hR.ownS 0 rfl).form;subst hv;have H:=Hd (show Sep w1 w8 [.own 3 (.slice B4 m4 d4) m4 R.1,.box g3 100 [.slice A6 n6 c6,.bool bad],.box gG 28 [.slice none 0 0,.string nm,.slice none 0 0,.slice none 0 0]] from Sep.join H1 hR.base hR (Nat.le_refl _) (by intro c hc;simp only[List.mem_cons,List.not_mem_nil,or_false] at hc;rcases hc with rfl|rfl <;> exact True.intro))
     clear hR hS hbad HC4 H1 H2;have k0:=H.c 2 0;have fk0:=H.frozenBox 2 0 rfl;have h9:=H.setBox 2 0 (.slice B4 m4 d4) rfl
     go_upto_region 12 with fail
     generalize w8.setCell ⟨gG,0,none⟩ (.slice B4 m4 d4)=w9 at *;replace H:=Hd (show Sep w1 w9 [.own 3 (.slice B4 m4 d4) m4 R.1,.box g3 100 [.slice A6 n6 c6,.bool bad],.box gG 28 [.slice B4 m4 d4,.string nm,.slice none 0 0,.slice none 0 0]] from h9);clear h9 k0 fk0;have HRL:=Hd (show R.1.length=m4 from(H.ownInts 0 rfl).2.2.len);obtain⟨nm3,hnm3⟩:∃ x,(if nm=a4d then⟨#[]⟩ else nm)=x:=⟨_,rfl⟩;obtain⟨ok3,hok3⟩:∃ b,(ok2&&(!decide (nm=a4d)||decide (R.1.length=0)))=b:=⟨_,rfl⟩;have HNM3:=Hd hnm3;have HOK3:=Hd hok3;have k1:=H.c 2 1;have fk1:=H.frozenBox 2 1 rfl
     go_upto_if 54 with fail
     go_cut [5] (fun v wx=>v=.bool ok3∧Sep w1 wx [.own 3 (.slice B4 m4 d4) m4 R.1,.box g3 100 [.slice A6 n6 c6,.bool bad],.box gG 28 [.slice B4 m4 d4,.string nm3,.slice none 0 0,.slice none 0 0]])
     case first =>
      by_cases he:nm=a4d
      ·obtain rfl:nm3=⟨#[]⟩:=by rw[←hnm3,iP he]
       have e0:(nm.toList==[45])=true:=by rw[eqL.2 (show nm=ofL [45] from he)];rfl
       have h9:=H.setBox 2 1 (.string ⟨#[]⟩) rfl;have HH:=Hd h9;clear h9;have kk0:=HH.c 2 0;rw[e0]
       cases ok2 with
       | false =>
        obtain rfl:ok3=false:=by rw[←hok3];rfl
        clear hnm3 hok3 he
        go_wp2_with fail
        go_meet
        exact⟨rfl,HH⟩
       | true =>
        by_cases hm0:m4=0
        ·obtain rfl:ok3=true:=by rw[←hok3,decide_eq_true he,decide_eq_true (show R.1.length=0 from by rw[HRL.out];exact hm0)];rfl
         have dm:((m4:Int)==0)=true:=by simpa using hm0
         clear hnm3 hok3 he hm0
         go_wp2_with fail
         go_meet;exact⟨rfl,HH⟩
        ·obtain rfl:ok3=false:=by rw[←hok3,decide_eq_true he,decide_eq_false (show ¬ R.1.length=0 from by rw[HRL.out];exact hm0)];rfl
         have dm:((m4:Int)==0)=false:=by simpa using hm0
         clear hnm3 hok3 he hm0
         go_wp2_with fail
         go_meet;exact⟨rfl,HH⟩
      ·obtain rfl:nm3=nm:=by rw[←hnm3,iN he]
       obtain rfl:ok3=ok2:=by rw[←hok3,decide_eq_false he];simp
       have e0:(nm3.toList==[45])=false:=by simpa using (fun e=>he (eqL.1 e):¬ nm3.toList=[45])
       rw[e0];clear hnm3 hok3 he
       go_wp2_with fail
       go_meet;exact⟨rfl,H⟩
     case rest =>
      obtain⟨rfl,hS⟩:=hcut;replace H:=Hd hS;clear hS k1 fk1 hnm3 hok3
      have HF:=Hd (show a4y s0=(nm3,R.1,ok3 && !bad) by
       unfold a4y
       simp only[HW.out,HNM.out,show W.isEmpty=q0 from HQ0.out,HQ1.out,HR.out,HS1w.out,HB1.out,HOK2.out,HNM3.out,HOK3.out,HBAD.out])
      have kb:=H.c 1 1;by_cases hgood:(ok3 && !bad)=true
      ·obtain⟨rfl,rfl⟩:ok3=true∧bad=false:=by simpa using hgood
       clear hgood;obtain⟨mid,hmid⟩:∃ m,(l.drop 1).dropLast=m:=⟨_,rfl⟩;have HMA:=Hd (fun (k:Nat) (hk:k+2<n)=>show mid[k]?=l[k+1]? by rw[←hmid];exact e6m (by rw[HN.out];exact hk));have HML:=Hd (show mid.length=n-2 by rw[←hmid,List.length_dropLast,List.length_drop,HN.out];omega);have HMS:=Hd (show ∀ x∈mid,x.size≤65536 from fun x hx=>Nat.le_trans (HLS x (List.mem_of_mem_drop (List.dropLast_subset _ (by rw[hmid];exact hx)))) hs6);replace HPO:=Hd (fun (N:List a0l × Bool) (t:List Int × Bool) (hN:a1s mid=N) (ht:a5x (l.getLastD ⟨#[]⟩)=t)=>HPO.out (nm3,R.1,true) N t (by rw[HH0.out,HF.out];rfl) (by rw[hmid];exact hN) ht);clear hmid;have h9:=(H.sub (l':=[.own 3 (.slice B4 m4 d4) m4 R.1,.box gG 28 [.slice B4 m4 d4,.string nm3,.slice none 0 0,.slice none 0 0]]) [0,2] rfl (by decide)).addRowNil 49 7;replace H:=Hd h9;clear h9
       go_wp2_with fail
       go_loopw [8] (fun iv wr=>∃(k j:Nat) (N:List a0l) (us:List Value) (pool:List a0e) (vN:Value),iv=.int .i64 j∧j=k+1∧k+2≤n∧N.length=k∧a1s mid=(N++(a1s (mid.drop k)).1,(a1s (mid.drop k)).2)∧b6v us N pool∧(∀ c∈pool,c.mine)∧Sep w1 wr (.row 49 7 vN k us::.own 3 (.slice B4 m4 d4) m4 R.1::.box gG 28 [.slice B4 m4 d4,.string nm3,vN,.slice none 0 0]::pool)) (fun iv _=>n-(intOf iv).toNat)
       case atStart=>exact⟨0,1,[],[],[],_,by go_num,rfl,by omega,rfl,by simp,b8x,by simp,H⟩
       case round =>
        clear H kb;obtain⟨k,j,N,us,pool,vN,rfl,hj,hk,hNl,hnf,hPN,hmine,hS⟩:=hrel;have H:=Hd hS;have HJ:=Hd hj;have hj1:1≤j:=by omega
        have hj2:j+1≤n:=by omega
        have HPN:=Hd hPN;have HNL:=Hd hNl;have HNF:=Hd hnf;have HMI:=Hd hmine;clear hS hPN hNl hnf hmine hj;by_cases hjlt:j+1<n
        ·have d5:decide ((j:Int)<(n:Int)-1)=true:=decide_eq_true (by omega);obtain⟨x,hx⟩:∃ x,l[j]?=some x:=gE (by rw[HN.out];omega);have hmx:mid[k]?=some x:=by rw[HMA.out k (by have:=HJ.out;omega),←HJ.out];exact hx
         obtain⟨a2,hA2,hk8,hcx,hk9⟩:=(HS1.below H.base).2.2.2 j x hx;clear hk8 hk9;injection hA2 with hA2
         subst hA2;have hxs:x.size≤65536:=HMS.out x (mG hmx)
         have hdr:mid.drop k=x::mid.drop (k+1):=by
          obtain⟨h3,h4⟩:=List.getElem?_eq_some_iff.1 hmx;rw[List.drop_eq_getElem_cons h3,h4]
         have CN:=c3r wr x (by omega);have hfew:=b8k hxs;have hstep:=HNF.out;rw[hdr,a1s] at hstep;obtain⟨⟨nd,okn⟩,hnd⟩:∃ r,a1x x=r:=⟨_,rfl⟩;rw[hnd] at CN hfew hstep;have HCN:=Hd CN;have HFW:=Hd hfew;have HST:=Hd hstep;have hkn:j<n:=by omega
         clear CN hfew hstep hnd hdr hmx hx
         go_wp2_with fail
         refine HCN.mono ?_;rintro e7 w7 ⟨v1,n1,v2,n2,v3,n3,rfl,hSn⟩;obtain⟨B1,d1,hv,_,_,_⟩:=(hSn.ownS 0 rfl).form;subst hv;obtain⟨B2,d2,hv,_,_,_⟩:=(hSn.ownS 1 rfl).form;subst hv;obtain⟨B3,d3,hv,_,_,_⟩:=(hSn.ownS 2 rfl).form;subst hv;have h8:=(show Sep w1 w7 (.own 3 (.slice B1 n1 d1) n1 nd.ins::.own 3 (.slice B2 n2 d2) n2 nd.shape::.own 3 (.slice B3 n3 d3) n3 nd.a::.row 49 7 vN k us::.own 3 (.slice B4 m4 d4) m4 R.1::.box gG 28 [.slice B4 m4 d4,.string nm3,vN,.slice none 0 0]::pool) from Sep.join H hSn.base hSn (Nat.le_refl _) (by intro c hc;simp only[List.mem_cons,List.not_mem_nil,or_false] at hc;rcases hc with rfl|rfl|rfl <;> exact True.intro)).allocBox w7.heap.size 49 [.int .i64 nd.op,.slice B1 n1 d1,.slice B2 n2 d2,.slice B3 n3 d3,.int .i64 nd.n,.int .i64 nd.how,.string nd.note] rfl
         clear hSn HCN hcx
         go_upto_region 21 with fail
         generalize w7.alloc (.cells #[.int .i64 nd.op,.slice B1 n1 d1,.slice B2 n2 d2,.slice B3 n3 d3,.int .i64 nd.n,.int .i64 nd.how,.string nd.note] 49)=w8 at *;obtain⟨gx,hgx⟩:∃ g,w7.heap.size=g:=⟨_,rfl⟩;rw[hgx] at h8 ⊢;replace H:=Hd h8;clear h8 hgx
         cases okn with
         | false =>
          have HP:=Hd (show a2r s=(gZ,12) by rw[HPO.out _ _ rfl rfl,iP (.inr (.inl (by rw[HST.out];rfl)))]);replace H0:=Hd (H0.below H.base);obtain⟨r0,r1,r2,r3⟩:=H0.z4 0 rfl;obtain⟨fr0,fr1,fr2,fr3⟩:=H0.f4 0 rfl
          go_wp2_with fail
          refine a0p (.int .i64 12) (H0.set4 0 rfl _ _ _ _) 0 rfl results29 rfl rfl rfl ?_;rw[HP.out]
          exact a2s (H0.set4 0 rfl _ _ _ _) _
         | true =>
          obtain⟨x0,x1,x2,x3,x4,x5,x6⟩:=H.cells7 0 rfl;have k2:=H.c 6 2
          go_wp2_with (at_builtin;refine a2o rfl (.tmp 91) (.tmp 93) 26 rfl underlying26 H.out 4 rfl rfl _ rfl rfl rfl rfl rfl rfl rfl rfl ?c1 ?_)
          case c1=>have:=HJ.out;omega
          intro vN2 w9 h9;obtain⟨gN,cN,hv,hcN⟩:=h9.rowForm 4 rfl (by omega);subst hv;have H9:=Hd h9;clear h9 k2 x0 x1 x2 x3 x4 x5 x6;have fg:=H9.frozenBox 6 2 rfl;have cg:=H9.c 6 2;have h10:=H9.setBox 6 2 (.slice (some ⟨gN,0,none⟩) (k+1) cN) rfl;have H10:=Hd (show Sep w1 _ (.box gx 49 [.int .i64 nd.op,.slice B1 n1 d1,.slice B2 n2 d2,.slice B3 n3 d3,.int .i64 nd.n,.int .i64 nd.how,.string nd.note]::.own 3 (.slice B1 n1 d1) n1 nd.ins::.own 3 (.slice B2 n2 d2) n2 nd.shape::.own 3 (.slice B3 n3 d3) n3 nd.a::.row 49 7 (.slice (some ⟨gN,0,none⟩) (k+1) cN) (k+1) (us++[.int .i64 nd.op,.slice B1 n1 d1,.slice B2 n2 d2,.slice B3 n3 d3,.int .i64 nd.n,.int .i64 nd.how,.string nd.note])::.own 3 (.slice B4 m4 d4) m4 R.1::.box gG 28 [.slice B4 m4 d4,.string nm3,.slice (some ⟨gN,0,none⟩) (k+1) cN,.slice none 0 0]::pool) from h10);clear h10;go_wp2;go_roundw
          case rel=>exact⟨k+1,j+1,N++[nd],us++[.int .i64 nd.op,.slice B1 n1 d1,.slice B2 n2 d2,.slice B3 n3 d3,.int .i64 nd.n,.int .i64 nd.how,.string nd.note],.own 3 (.slice B1 n1 d1) n1 nd.ins::.own 3 (.slice B2 n2 d2) n2 nd.shape::.own 3 (.slice B3 n3 d3) n3 nd.a::pool,_,by go_num,by rw[HJ.out],by have:=HJ.out;omega,by rw[List.length_append,List.length_singleton,HNL.out],by rw[HST.out];simp,((((HPN.shift (c:=.own 3 (.slice B3 n3 d3) n3 nd.a)).shift (c:=.own 3 (.slice B2 n2 d2) n2 nd.shape)).shift (c:=.own 3 (.slice B1 n1 d1) n1 nd.ins)).snoc (nd:=nd) (p:=0) (q:=1) (r:=2) rfl rfl rfl HFW.out.2.1 HFW.out.2.2.1 HFW.out.2.2.2.1 (Nat.le_trans HFW.out.2.2.2.2 (by omega))),(by intro c hc;simp only[List.mem_cons] at hc;rcases hc with rfl|rfl|rfl|hc;exact True.intro;exact True.intro;exact True.intro;exact HMI c hc),H10.tail_.perm (e3x _ _ _ _ _ _ _)⟩
          case measure=>simp[intOf];omega
        ·have d5:decide ((j:Int)<(n:Int)-1)=false:=decide_eq_false (by omega);obtain rfl:n=j+1:=by omega
         have HNA:=Hd (show a1s mid=(N,true) by rw[HNF.out,List.drop_of_length_le (by rw[HML.out];have:=HJ.out;omega)];simp[a1s]);obtain⟨xl,hxl⟩:∃ x,l[j]?=some x:=gE (by rw[HN.out];omega);have HLA:=Hd (d6q HN hxl);obtain⟨a2,hA2,hk8,hcx,hk9⟩:=(HS1.below H.base).2.2.2 j xl hxl;clear hk8 hk9;injection hA2 with hA2
         subst hA2;have hxs:xl.size≤65536:=Nat.le_trans (HLS xl (mG hxl)) hs6;replace HPO:=Hd (fun (t:List Int × Bool) (ht:a5x xl=t)=>HPO.out (N,true) t HNA (by rw[HLA.out];exact ht));have CW:=Hd (a6b wr xl (by omega));have HWS2:=Hd (a4c (s:=xl) (by omega));have HWL2:=Hd (a4g xl);obtain⟨W2,hW2⟩:∃ W,a0u xl=W:=⟨_,rfl⟩;rw[hW2] at CW HWS2 HWL2;have HW2:=Hd hW2;have HFN:=Hd (show ∀ nd∈N,Few 80000 nd from fun nd hnd=>c1p mid HMS nd (by rw[HNA.out];exact hnd));clear hW2 hxl HNF HMA HMS hjlt
         go_wp2_with fail
         refine CW.mono ?_;rintro e7 w7 ⟨v,rfl,hP⟩;obtain⟨A7,c7,K7,rfl,hc7,hS7,hb7,_⟩:=hP.strs HWS2 (by have:=HWL2.out;omega);replace H:=Hd (H.below hb7);have HS7:=Hd hS7;have h8:=(Sep.nil w7).allocBox w7.heap.size 100 [.slice A7 W2.length c7,.bool false] rfl;clear hP hS7 hb7 CW hcx
         go_upto_region 25 with fail
         generalize w7.alloc (.cells #[.slice A7 W2.length c7,.bool false] 100)=w8 at *;obtain⟨g7,hg7⟩:∃ g,w7.heap.size=g:=⟨_,rfl⟩;rw[hg7] at h8 ⊢;have H2:=Hd h8;clear h8 hg7;have C3:=a5f H2 (i:=0) rfl HS7 hc7;obtain⟨t1,ht1⟩:∃ x,W2.headD ⟨#[]⟩=x:=⟨_,rfl⟩;obtain⟨p0,hp0⟩:∃ x,(false||W2.isEmpty)=x:=⟨_,rfl⟩;rw[ht1,hp0] at C3;have HT1:=Hd ht1;have HP0:=Hd hp0;have HC3:=Hd C3;clear C3 ht1 hp0
         go_wp2_with fail
         refine HC3.mono ?_;rintro e8 w9 ⟨rfl,A8,n8,c8,hR,hS,hc8⟩;replace H2:=Hd (show Sep w7 w9 [.box g7 100 [.slice A8 n8 c8,.bool p0]] from hR);have HS8:=Hd hS;clear hR hS HC3;by_cases hto:t1=a9p
         ·have e1:(t1.toList==[111,117,116,115])=true:=by rw[eqD];exact decide_eq_true hto
          have HTO:=Hd (decide_eq_true hto);clear hto;have C4:=c1x H2 (i:=0) rfl HS8 hc8;obtain⟨T,hT⟩:∃ R,a2x (W2.drop 1) p0=R:=⟨_,rfl⟩;rw[hT] at C4;have HT:=Hd hT;have HC4:=Hd C4;clear C4 hT
          go_wp2_with fail
          refine HC4.mono ?_;rintro e9 w10 ⟨v5,m5,rfl,A9,n9,c9,hR,hS,hc9⟩;obtain⟨bad2,hbad⟩:∃ b,T.2.2=b:=⟨_,rfl⟩;rw[hbad] at hR;have HBAD2:=Hd hbad;have hR:Sep w7 w10 [.own 3 v5 m5 T.1,.box g7 100 [.slice A9 n9 c9,.bool bad2]]:=hR;obtain⟨B5,d5v,hv,_,_,_⟩:=(hR.ownS 0 rfl).form;subst hv;replace H:=Hd (show Sep w1 w10 (.own 3 (.slice B5 m5 d5v) m5 T.1::.box g7 100 [.slice A9 n9 c9,.bool bad2]::.row 49 7 vN k us::.own 3 (.slice B4 m4 d4) m4 R.1::.box gG 28 [.slice B4 m4 d4,.string nm3,vN,.slice none 0 0]::pool) from Sep.join H hR.base hR (Nat.le_refl _) (by intro c hc;simp only[List.mem_cons,List.not_mem_nil,or_false] at hc;rcases hc with rfl|rfl <;> exact True.intro))
          clear hR hS hbad HC4 H2 e1;have k3:=H.c 4 3;have fk3:=H.frozenBox 4 3 rfl;have h9:=H.setBox 4 3 (.slice B5 m5 d5v) rfl
          go_upto_region 28 with fail
          generalize w10.setCell ⟨gG,3,none⟩ (.slice B5 m5 d5v)=w11 at *;replace H:=Hd (show Sep w1 w11 (.own 3 (.slice B5 m5 d5v) m5 T.1::.box g7 100 [.slice A9 n9 c9,.bool bad2]::.row 49 7 vN k us::.own 3 (.slice B4 m4 d4) m4 R.1::.box gG 28 [.slice B4 m4 d4,.string nm3,vN,.slice B5 m5 d5v]::pool) from h9);clear h9 k3 fk3;have HTF:=Hd (show a5x xl=(T.1,!bad2) by unfold a5x;simp only[HW2.out,HT1.out,HTO.out,show W2.isEmpty=p0 from HP0.out,HT.out,HBAD2.out,Bool.true_and]);have kb:=H.c 1 1
          cases bad2 with
          | true =>
           have HP:=Hd (show a2r s=(gZ,12) by rw[HPO.out _ rfl,HTF.out,iP (.inr (.inr rfl))]);replace H0:=Hd (H0.below H.base);obtain⟨r0,r1,r2,r3⟩:=H0.z4 0 rfl;obtain⟨fr0,fr1,fr2,fr3⟩:=H0.f4 0 rfl
           go_wp2_with fail
           refine a0p (.int .i64 12) (H0.set4 0 rfl _ _ _ _) 0 rfl results29 rfl rfl rfl ?_;rw[HP.out]
           exact a2s (H0.set4 0 rfl _ _ _ _) _
          | false =>
           obtain⟨An,cn,hv,hcn,hNi⟩:=a5o 2 H rfl HPN HNL (by omega) 5 (fun j=>rfl);subst hv
           have hnmz:nm3.size≤90000:=by
            have h9:nm.size≤90000:=by rw[←HNM.out];exact b7o (fun x hx=>HWS.out x (List.mem_of_mem_drop hx))
            rw[←HNM3.out];split
            ·exact Nat.zero_le _
            ·exact h9
           have hG:a1m w11 (.agg #[.slice B4 m4 d4,.string nm3,.slice An k cn,.slice B5 m5 d5v]) (⟨R.1,nm3,N,T.1⟩:a1d):=⟨_,_,_,_,_,_,_,_,_,rfl,⟨(H.ownInts 3 rfl).2.1,hcn,(H.ownInts 0 rfl).2.1,(H.ownInts 3 rfl).2.2,hNi,(H.ownInts 0 rfl).2.2,by show nm3.size≤_;omega⟩⟩
           have hF:FewG 80000 (⟨R.1,nm3,N,T.1⟩:a1d):=by
            refine⟨by show N.length≤_;rw[HNL.out];omega,?_,?_,fun j nd hj=>HFN.out nd (mG hj)⟩
            ·show R.1.length≤_;have h8:=b0k ((W.drop 1).drop 1) q1;rw[HR.out,List.length_drop,List.length_drop] at h8;have:=HWL.out;omega
            ·show T.1.length≤_;have h8:=b0k (W2.drop 1) p0;rw[HT.out,List.length_drop] at h8;have:=HWL2.out;omega
           replace HPO:=Hd (show a2r s=if (a0f (⟨R.1,nm3,N,T.1⟩:a1d)).1≠0 then(gZ,(a0f (⟨R.1,nm3,N,T.1⟩:a1d)).1) else if (a4f (⟨R.1,nm3,N,T.1⟩:a1d)).1≠s then(gZ,12) else((⟨R.1,nm3,N,T.1⟩:a1d),0) by rw[HPO.out (T.1,true) HTF.out,iN (by rintro(h|h|h) <;> cases h)])
           have HG:=Hd hG;have HF:=Hd hF;have HCN:=Hd hcn;clear hG hF hNi hcn;obtain⟨Gx,hGx⟩:∃ G,(⟨R.1,nm3,N,T.1⟩:a1d)=G:=⟨_,rfl⟩;have HGX:=Hd hGx;rw[hGx] at HPO HG HF;clear hGx;obtain⟨g0,g1,g2,g3x⟩:=H.cells4 4 rfl;have C5:=c0j HG HF.small;obtain⟨es,hes⟩:∃ e,(a0f Gx).1=e:=⟨_,rfl⟩;rw[hes] at C5;have HC5:=Hd C5;have HES:=Hd hes;clear C5 hes
           go_wp2_with fail
           refine HC5.mono ?_;rintro e10 w12 ⟨rfl,hb10⟩;replace H:=Hd (H.below hb10);replace HG:=Hd (HG.below hb10);clear hb10 g0 g1 g2 g3x HC5 kb;by_cases hez:es=0
           ·have de:(es != 0)=false:=by simpa using hez
            have C6:=a6p HG HF;obtain⟨g0,g1,g2,g3x⟩:=H.cells4 4 rfl;obtain⟨⟨T9,e9t⟩,hT9⟩:∃ e,a4f Gx=e:=⟨_,rfl⟩;rw[hT9] at C6;have HC6:=Hd C6;have HT9:=Hd hT9;clear C6 hT9;have HEZ:=Hd hez;clear hez
            go_wp2_with fail
            refine HC6.mono ?_;rintro e11 w13 ⟨rfl,hb11⟩;replace H:=Hd (H.below hb11);clear hb11 g0 g1 g2 g3x HC6;replace H0:=Hd (H0.below H.base);by_cases hts:T9=s
            ·have e1:(T9.toList==s.toList)=true:=by rw[eqS];exact decide_eq_true hts
             have HP:=Hd (show a2r s=(Gx,0) by rw[HPO.out,iN (by rw[HES.out,HEZ.out];simp),HT9.out,iN (by simpa using hts)]);clear hts;obtain⟨r0,r1,r2,r3⟩:=H0.z4 0 rfl;obtain⟨fr0,fr1,fr2,fr3⟩:=H0.f4 0 rfl;obtain⟨g0,g1,g2,g3x⟩:=H.cells4 4 rfl;have HRL2:=HGL0
             go_wp2_with fail
             refine a0p (.int .i64 0) (H0.set4 0 rfl _ _ _ _) 0 rfl results29 rfl rfl rfl ?_;rw[HP.out];have h14:=Sep.both4 H (g:=gR) HRL2 (by intro c hc;simp only[List.mem_cons] at hc;rcases hc with rfl|rfl|rfl|rfl|rfl|hc;exact True.intro;exact True.intro;exact True.intro;exact True.intro;exact True.intro;exact HMI c hc) (.slice B4 m4 d4) (.string nm3) (.slice An k cn) (.slice B5 m5 d5v);obtain⟨An2,cn2,hv,hcn2,hNi⟩:=a5o 2 h14 rfl HPN HNL (by omega) 5 (fun j=>rfl);injection hv with e1 e2 e3
             subst e1 e3;refine⟨_,rfl,?_,HF,(H0.set4 0 rfl _ _ _ _).base⟩;rw[←HGX.out];exact⟨_,_,_,_,_,_,_,_,_,rfl,⟨(h14.ownInts 3 rfl).2.1,hcn2,(h14.ownInts 0 rfl).2.1,(h14.ownInts 3 rfl).2.2,hNi,(h14.ownInts 0 rfl).2.2,by show nm3.size≤_;omega⟩⟩
            ·have e1:(T9.toList==s.toList)=false:=by rw[eqS];exact decide_eq_false hts
             have HP:=Hd (show a2r s=(gZ,12) by rw[HPO.out,iN (by rw[HES.out,HEZ.out];simp),HT9.out,iP (by simpa using hts)]);clear hts;obtain⟨r0,r1,r2,r3⟩:=H0.z4 0 rfl;obtain⟨fr0,fr1,fr2,fr3⟩:=H0.f4 0 rfl
             go_wp2_with fail
             refine a0p (.int .i64 12) (H0.set4 0 rfl _ _ _ _) 0 rfl results29 rfl rfl rfl ?_;rw[HP.out];exact a2s (H0.set4 0 rfl _ _ _ _) _
           ·have de:(es != 0)=true:=by simpa using hez
            have HP:=Hd (show a2r s=(gZ,es) by rw[HPO.out,HES.out,iP hez]);clear hez;replace H0:=Hd (H0.below H.base);obtain⟨r0,r1,r2,r3⟩:=H0.z4 0 rfl;obtain⟨fr0,fr1,fr2,fr3⟩:=H0.f4 0 rfl
            go_wp2_with fail
            refine a0p (.int .i64 es) (H0.set4 0 rfl _ _ _ _) 0 rfl results29 rfl rfl rfl ?_;rw[HP.out];exact a2s (H0.set4 0 rfl _ _ _ _) _
         ·have e1:(t1.toList==[111,117,116,115])=false:=by rw[eqD];exact decide_eq_false hto
          have HP:=Hd (show a2r s=(gZ,12) by rw[HPO.out _ rfl,iP (.inr (.inr (by unfold a5x;simp only[HW2.out,HT1.out,decide_eq_false hto,Bool.false_and])))]);replace H0:=Hd (H0.below (a1c H.base H2.base));clear hto;obtain⟨r0,r1,r2,r3⟩:=H0.z4 0 rfl;obtain⟨fr0,fr1,fr2,fr3⟩:=H0.f4 0 rfl
          go_wp2_with fail
          refine a0p (.int .i64 12) (H0.set4 0 rfl _ _ _ _) 0 rfl results29 rfl rfl rfl ?_;rw[HP.out];exact a2s (H0.set4 0 rfl _ _ _ _) _
      ·replace hgood:(ok3 && !bad)=false:=by simpa using hgood
       have HP:=Hd (show a2r s=(gZ,12) by rw[HPO.out (nm3,R.1,ok3 && !bad) _ _ (by rw[HH0.out,HF.out]) rfl rfl,iP (.inl hgood)]);replace H0:=Hd (H0.below H.base);obtain⟨r0,r1,r2,r3⟩:=H0.z4 0 rfl;obtain⟨fr0,fr1,fr2,fr3⟩:=H0.f4 0 rfl
       cases ok3 with
       | false =>
        clear hgood
        go_wp2_with fail
        refine a0p (.int .i64 12) (H0.set4 0 rfl _ _ _ _) 0 rfl results29 rfl rfl rfl ?_;rw[HP.out]
        exact a2s (H0.set4 0 rfl _ _ _ _) _
       | true =>
        obtain rfl:bad=true:=by simpa using hgood
        clear hgood
        go_wp2_with fail
        refine a0p (.int .i64 12) (H0.set4 0 rfl _ _ _ _) 0 rfl results29 rfl rfl rfl ?_;rw[HP.out];exact a2s (H0.set4 0 rfl _ _ _ _) _
def c5z:Go.Shelf.Ren:=⟨fun|316=>94|n=>n,fun|0=>0|3=>3|4=>4|5=>5|9=>9|37=>33|127=>149|n=>n,fun n=>n⟩
theorem e1t:Go.Proofs.LaysM.n316 prog c5z:={
 mixed:=by kernel_rfl
 f316:=func94.trans (congrArg some (by kernel_rfl))
 t0:=underlying0
 a0:=Tryz.isAgg0
 z0:=Tryz.sizeOf0
 v0:=Tryz.zeroValue0
 t3:=underlying3
 a3:=Tryz.isAgg3
 z3:=Tryz.sizeOf3
 v3:=Tryz.zeroValue3
 t4:=underlying4
 a4:=Tryz.isAgg4
 z4:=Tryz.sizeOf4
 v4:=Tryz.zeroValue4
 t9:=underlying9
 a9:=Tryz.isAgg9
 z9:=Tryz.sizeOf9
 v9:=Tryz.zeroValue9
 t37:=underlying33
 a37:=Tryz.isAgg33
 z37:=Tryz.sizeOf33
 v37:=Tryz.zeroValue33
 t127:=underlying149
 a127:=Tryz.isAgg149
 z127:=Tryz.sizeOf149
 v127:=Tryz.zeroValue149
 t5:=underlying5
 a5:=Tryz.isAgg5
 z5:=Tryz.sizeOf5
 v5:=Tryz.zeroValue5
 i0:=by kernel_rfl
 i3:=by kernel_rfl
 i4:=by kernel_rfl
 i5:=by kernel_rfl
 i9:=by kernel_rfl
 i37:=by kernel_rfl
 i127:=by kernel_rfl }
theorem d5e (w:World)(s:ByteArray)(hs:s.size≤281474976710656):Calls prog 94 #[.string s] w fun e w'=>e=.returned (.string s)∧Below w.heap.size w w':=Any.stringslite_Clone e1t s w hs
theorem d3z (w:World)(s:ByteArray)(hs:s.size≤281474976710656):Calls prog 58 #[.string s] w fun e w'=>e=.returned (.string s)∧Below w.heap.size w w':=by
 have C:=d5e w s hs
 go_enter func58,ntmps58
 go_wp2_with fail
 refine C.mono ?_;rintro e1 w1 ⟨rfl,hb⟩;have HB:=Hd hb;clear C hb;go_wp2;go_ret;exact⟨rfl,HB⟩
end Go.Proofs.YtdcmanhgekjhgaaGreatDoor
