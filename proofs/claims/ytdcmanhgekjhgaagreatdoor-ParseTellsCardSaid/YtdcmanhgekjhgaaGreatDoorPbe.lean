import Derived.Test.YtdcmanhgekjhgaaGreatDoorPbd
set_option maxRecDepth 100000
set_option maxHeartbeats 12800000
namespace Go.Proofs.YtdcmanhgekjhgaaGreatDoor
open Go.RowKit Go.Proofs.Tryz
variable {s x y:ByteArray} {w:World}
theorem c2m {L:List ByteArray}(h:(⟨#[]⟩:ByteArray)∈L):allB L=false:=by
 cases hq:allB L with
 | false=>rfl
 | true=>have:=List.all_eq_true.1 hq _ h;rw[b1p] at this;cases this
theorem b7i (h:b2j s=false):(⟨#[]⟩:ByteArray)∈a0u s:=by
 by_cases hm:(⟨#[]⟩:ByteArray)∈a0u s
 ·exact hm
 ·unfold b2j at h;rw[d6h hm] at h;cases h
theorem c5f (h:b2j s=true):(⟨#[]⟩:ByteArray)∉a0u s:=fun hm=>by
 unfold b2j at h;rw[d0t hm] at h;cases h
theorem c4m (s:ByteArray):a0u s≠[]:=by
 unfold a0u;exact fun h=>b3x 32 (bl s) (List.map_eq_nil_iff.1 h)
theorem b3b {T:List ByteArray}(hW:a0u s=x::y::T):
  a4y s=(if y=a4d then⟨#[]⟩ else y,(a2x T false).1,((decide (x=a9b) && !decide (y=⟨#[]⟩))&&(!decide (y=a4d)||decide ((a2x T false).1.length=0))) && !(a2x T false).2.2):=by
 unfold a4y;rw[hW];rfl
theorem e0t (hW:a0u s=[x]):(a4y s).2.2=false:=by
 unfold a4y;rw[hW]
 show(((decide (x=a9b) && !decide ((⟨#[]⟩:ByteArray)=⟨#[]⟩))&&_)&&_)=false
 rw[decide_eq_true rfl];simp
theorem d6k {T:List ByteArray}(hW:a0u s=x::y::T)(h:b2j s=false):(a4y s).2.2=false:=by
 have hm:=b7i h;rw[hW] at hm;rw[b3b hW]
 show(((decide (x=a9b) && !decide (y=⟨#[]⟩))&&_) && !(a2x T false).2.2)=false
 rw[c9n];rcases List.mem_cons.1 hm with e|hm
 ·rw[decide_eq_false (show ¬ x=a9b by rw[←e];decide)];simp
 ·rcases List.mem_cons.1 hm with e|hm
  ·rw[decide_eq_true e.symm];simp
  ·rw[c2m hm];simp
theorem d6l {T:List ByteArray}(hW:a0u s=x::y::T)(h:x≠a9b):(a4y s).2.2=false:=by
 rw[b3b hW]
 show(((decide (x=a9b)&&_)&&_)&&_)=false
 rw[decide_eq_false h];simp
theorem d6j {T:List ByteArray}(hW:a0u s=a9b::y::T)(h:y=a4d):a4y s=(⟨#[]⟩,(a2x T false).1,decide (T.length=0)):=by
 rw[b3b hW,iP h,decide_eq_true rfl,decide_eq_false (show ¬ y=⟨#[]⟩ by rw[h];decide),decide_eq_true h]
 cases T with
 | nil=>rfl
 | cons t T=>simp[a2x]
theorem d2t {T:List ByteArray}(hW:a0u s=a9b::y::T)(h0:y≠⟨#[]⟩)(h:y≠a4d):a4y s=(y,(a2x T false).1,allB T):=by
 rw[b3b hW,iN h,decide_eq_true rfl,decide_eq_false h0,decide_eq_false h,c9n];simp
theorem c7d {T:List ByteArray}(hW:a0u s=x::T):a5x s=((a2x T false).1,decide (x=a9p)&&allB T):=by
 unfold a5x;rw[hW]
 show((a2x T false).1,decide (x=a9p) && !(a2x T false).2.2)=_
 rw[c9n,Bool.not_not]
theorem d9a {T:List ByteArray}(hW:a0u s=x::T)(h:b2j s=false):(a5x s).2=false:=by
 have hm:=b7i h;rw[hW] at hm;rw[c7d hW]
 show(decide (x=a9p)&&allB T)=false
 rcases List.mem_cons.1 hm with e|hm
 ·rw[decide_eq_false (show ¬ x=a9p by rw[←e];decide)];rfl
 ·rw[c2m hm];simp
theorem c1h (L:List ByteArray):(a1w L true).2.2=true:=by
 unfold a1w;rw[iP (.inr rfl)]
theorem d6t {L:List ByteArray}(h:(a1w L false).2.2=false):∃ P R,L=opT1::(P++shT1::R)∧allB P=true∧a1w L false=(c4i P,R,false):=by
 rcases b7p L shT1 with ⟨_,hno⟩|⟨P0,R,hL,hP0,_⟩
 ·rw[b1f (.inl hno)] at h;cases h
 ·by_cases hop:L.headD ⟨#[]⟩=opT1
  ·cases P0 with
   | nil=>rw[hL] at hop;exact absurd hop.symm e6r
   | cons y P =>
    have hy:y=opT1:=by rw[hL] at hop;exact hop
    subst hy;have hP:shT1∉P:=fun hm=>hP0 (List.mem_cons_of_mem _ hm)
    have hFL:a1w L false=a2j (P++shT1::R):=by rw[hL];exact d1b
    cases ha:allB P with
    | true=>exact⟨P,R,hL,ha,by rw[hFL,b4p hP ha]⟩
    | false=>rw[hFL,b8f hP ha] at h;cases h
  ·rw[b1f (.inr hop)] at h;cases h
theorem b4n {L:List ByteArray}(h:(a1w L false).2.2=false)(hm:(⟨#[]⟩:ByteArray)∈L):(⟨#[]⟩:ByteArray)∈(a1w L false).2.1:=by
 obtain⟨P,R,h1,h2,h3⟩:=d6t h;rw[h3];rw[h1] at hm;rcases List.mem_cons.1 hm with e|hm
 ·exact absurd e (by decide)
 ·rcases List.mem_append.1 hm with hm|hm
  ·rw[c2m hm] at h2;cases h2
  ·rcases List.mem_cons.1 hm with e|hm
   ·exact absurd e (by decide)
   ·exact hm
theorem e5e:opF ⟨#[]⟩=0:=by decide
section
variable {s x : ByteArray} {T : List ByteArray} {F1 F2 F3 : List Int × List ByteArray × Bool}
theorem e2g (hW:a0u s=x::T)(h1:a1w T false=F1)(h2:a1w F1.2.1 false=F2)(h3:a1w F2.2.1 false=F3){a b c:ByteArray}(g0:0<opF x)(g1:F1.2.2=false)(g2:F2.2.2=false)(g3:F3.2.2=false)(g4:F3.2.1=[a,b,c])(ga:(a0t a).2=true)(gb:(a0t b).2=true)(gc:c≠⟨#[]⟩):
  a1x s=(⟨opF x,F1.1,F2.1,F3.1,(a0t a).1,(a0t b).1,if c=a4d then⟨#[]⟩ else c⟩,true):=by
 unfold a1x;rw[hW];simp only[List.drop_one,List.tail_cons,List.isEmpty_cons,List.headD_cons,h1,g1,h2,g2,h3,g3,g4,ga,gb];refine Prod.ext rfl ?_;simp[g0,gc]
theorem d1j (hW:a0u s=x::T)(h1:a1w T false=F1)(h2:a1w F1.2.1 false=F2)(h3:a1w F2.2.1 false=F3)(h:(a1x s).2=true):
  0<opF x∧F1.2.2=false∧F2.2.2=false∧F3.2.2=false∧∃ a b c,F3.2.1=[a,b,c]∧(a0t a).2=true∧(a0t b).2=true∧c≠⟨#[]⟩:=by
 have e1:F1.2.2=true→(a1x s).2=false:=fun g=>by
  unfold a1x;rw[hW];simp only[List.drop_one,List.tail_cons,List.isEmpty_cons,List.headD_cons,h1,g,c1h,Bool.true_or,Bool.not_true,Bool.and_false,Bool.false_and]
 have e2:F1.2.2=false→F2.2.2=true→(a1x s).2=false:=fun g g'=>by
  unfold a1x;rw[hW];simp only[List.drop_one,List.tail_cons,List.isEmpty_cons,List.headD_cons,h1,g,h2,g', c1h,Bool.true_or,Bool.not_true,Bool.and_false,Bool.false_and]
 have e3:F1.2.2=false→F2.2.2=false→F3.2.2=true→(a1x s).2=false:=fun g g' g''=>by
  unfold a1x;rw[hW];simp only[List.drop_one,List.tail_cons,List.isEmpty_cons,List.headD_cons,h1,g,h2,g', h3,g'', Bool.true_or,Bool.not_true,Bool.and_false,Bool.false_and]
 have g1:F1.2.2=false:=by
  cases hh:F1.2.2 with
  | false=>rfl
  | true=>rw[e1 hh] at h;cases h
 have g2:F2.2.2=false:=by
  cases hh:F2.2.2 with
  | false=>rfl
  | true=>rw[e2 g1 hh] at h;cases h
 have g3:F3.2.2=false:=by
  cases hh:F3.2.2 with
  | false=>rfl
  | true=>rw[e3 g1 g2 hh] at h;cases h
 unfold a1x at h;rw[hW] at h;simp only[List.drop_one,List.tail_cons,List.isEmpty_cons,List.headD_cons,h1,g1,h2,g2,h3,g3,Bool.false_or] at h
 have h0:0<opF x:=by
  by_cases h0:0<opF x
  ·exact h0
  ·simp[h0] at h
 refine⟨h0,g1,g2,g3,?_⟩
 cases hL:F3.2.1 with
 | nil=>rw[hL] at h;simp at h
 | cons a L =>
  cases L with
  | nil=>rw[hL] at h;simp at h
  | cons b L =>
   cases L with
   | nil=>rw[hL] at h;simp at h
   | cons c L =>
    cases L with
    | cons d L=>rw[hL] at h;simp at h
    | nil =>
     rw[hL] at h;simp at h;exact⟨a,b,c,rfl,h.2.1.1,h.2.1.2,h.2.2⟩
theorem d7h (hW:a0u s=x::T)(h:(a1x s).2=true):b2j s=true:=by
 cases hf:b2j s with
 | true=>rfl
 | false =>
  exfalso
  have hm:=b7i hf;rw[hW] at hm;obtain⟨h0,g1,g2,g3,a,b,c,g4,ga,gb,gc⟩:=d1j hW rfl rfl rfl h;rcases List.mem_cons.1 hm with e|hm
  ·rw[←e,e5e] at h0;omega
  ·have m3:=b4n g3 (b4n g2 (b4n g1 hm));rw[g4] at m3;rcases List.mem_cons.1 m3 with e|m3
   ·rw[←e,b1p] at ga;cases ga
   ·rcases List.mem_cons.1 m3 with e|m3
    ·rw[←e,b1p] at gb;cases gb
    ·exact gc (List.mem_singleton.1 m3).symm
end
theorem Sep.set7i {w0:World}{l:List a0e}{g:Nat}{t:TypeId}{a b c d e f k:Value}(h:Sep w0 w l)(i:Nat)(hi:l[i]?=some (.box g t [a,b,c,d,e,f,k]))(a' b' c' d' e' f' k' : Value):
  Sep w0 (((((((w.setCell ⟨g,0,none⟩ a').setCell ⟨g,1,none⟩ b').setCell ⟨g,2,none⟩ c').setCell ⟨g,3,none⟩ d').setCell ⟨g,4,none⟩ e').setCell ⟨g,5,none⟩ f').setCell ⟨g,6,none⟩ k') (l.set i (.box g t [a', b', c', d', e', f', k'])):=by
 have hil:=(lL hi);have h1:=h.setBox i 0 a' hi;have h2:=h1.setBox i 1 b' (List.getElem?_set_self hil);rw[List.set_set] at h2;have h3:=h2.setBox i 2 c' (List.getElem?_set_self hil);rw[List.set_set] at h3;have h4:=h3.setBox i 3 d' (List.getElem?_set_self hil);rw[List.set_set] at h4;have h5:=h4.setBox i 4 e' (List.getElem?_set_self hil);rw[List.set_set] at h5;have h6:=h5.setBox i 5 f' (List.getElem?_set_self hil);rw[List.set_set] at h6;have h7:=h6.setBox i 6 k' (List.getElem?_set_self hil);rw[List.set_set] at h7;exact h7
theorem d7s (s:ByteArray)(hs:s.size≤90000)(hT:Tabs w):
  Calls prog 62 #[.string s] w fun e w'=>∃ v m l nm,e=.returned (.tuple #[.agg #[v,.string nm,.slice none 0 0,.slice none 0 0],.bool (a4y s).2.2])∧Sep w w' [.own 3 v m l]∧nm.size≤90000∧((a4y s).2.2=true→l=(a4y s).2.1∧nm=(a4y s).1):=by
 have h0:=(Sep.nil w).allocBox w.heap.size 28 zG rfl;have HT:=Hd hT;clear hT
 go_enter func62,ntmps62
 go_upto_region 1 with fail
 generalize w.alloc (.cells zH 28)=w0 at *;obtain⟨gR,hgR⟩:∃ g,w.heap.size=g:=⟨_,rfl⟩;rw[hgR] at h0 ⊢;have H0:=Hd h0;clear h0 hgR;have C1:=b8s w0 s hs
 go_wp2_with fail
 refine C1.mono ?_;rintro e1 w1 ⟨A,n,c,K,rfl,hc,hS,hb,_⟩;replace H0:=Hd (H0.below hb);have hL:=hS.1;have hn9:=hS.2.1;have hsm:=hS.2.2.1;have HWS:=Hd (c4m s);have HFB:=Hd (fun (x y:ByteArray) (T:List ByteArray) (hW:a0u s=x::y::T)=>d6k hW);obtain⟨fb,hfb⟩:∃ b,b2j s=b:=⟨_,rfl⟩;have HFU:=Hd (fun h:fb=true=>c5f (hfb.trans h));rw[hfb] at HFB ⊢;have HS:=Hd hS;have HSM:=Hd hsm;have HHO:=Hd (fun (x:ByteArray) (hW:a0u s=[x])=>e0t hW);have HHW:=Hd (fun (x y:ByteArray) (T:List ByteArray) (hW:a0u s=x::y::T)=>d6l hW);have HHD:=Hd (fun (y:ByteArray) (T:List ByteArray) (hW:a0u s=a9b::y::T)=>d6j hW);have HHN:=Hd (fun (y:ByteArray) (T:List ByteArray) (hW:a0u s=a9b::y::T)=>d2t hW);obtain⟨W,hW⟩:∃ W,a0u s=W:=⟨_,rfl⟩;rw[hW] at hL HS HSM HWS HFB HFU HHO HHW HHD HHN;clear hS hb C1 hsm hfb hW
 cases W with
 | nil=>exact absurd rfl HWS
 | cons x W =>
  cases W with
  | nil =>
   obtain rfl:n=1:=hL.symm;have HX:=Hd (HHO x rfl);clear hL
   cases fb with
   | true =>
    obtain⟨r0,r1,r2,r3⟩:=H0.z4 0 rfl;obtain⟨fr0,fr1,fr2,fr3⟩:=H0.f4 0 rfl
    go_wp2_with fail
    refine a0p (.bool false) (H0.set4 0 rfl _ _ _ _) 0 rfl results62 rfl rfl rfl ?_;rw[HX.out]
    exact⟨_,0,[],⟨#[]⟩,rfl,(Sep.ofBelow (H0.set4 0 rfl _ _ _ _).base).addNil 3,Nat.zero_le _,fun h=>by cases h⟩
   | false =>
    obtain⟨r0,r1,r2,r3⟩:=H0.z4 0 rfl;obtain⟨fr0,fr1,fr2,fr3⟩:=H0.f4 0 rfl
    go_wp2_with fail
    refine a0p (.bool false) (H0.set4 0 rfl _ _ _ _) 0 rfl results62 rfl rfl rfl ?_;rw[HX.out]
    exact⟨_,0,[],⟨#[]⟩,rfl,(Sep.ofBelow (H0.set4 0 rfl _ _ _ _).base).addNil 3,Nat.zero_le _,fun h=>by cases h⟩
  | cons y T =>
   have hn2:2≤n:=by rw[←hL];simp
   have d2:decide ((n:Int)<2)=false:=decide_eq_false (by omega)
   cases fb with
   | false =>
    have HX:=Hd (HFB x y T rfl rfl);obtain⟨r0,r1,r2,r3⟩:=H0.z4 0 rfl;obtain⟨fr0,fr1,fr2,fr3⟩:=H0.f4 0 rfl
    go_wp2_with fail
    refine a0p (.bool false) (H0.set4 0 rfl _ _ _ _) 0 rfl results62 rfl rfl rfl ?_;rw[HX.out]
    exact⟨_,0,[],⟨#[]⟩,rfl,(Sep.ofBelow (H0.set4 0 rfl _ _ _ _).base).addNil 3,Nat.zero_le _,fun h=>by cases h⟩
   | true =>
    obtain⟨a,hA,q0,c0,q1⟩:=HS.out.2.2.2 0 x rfl;subst hA;obtain⟨a2,hA,q2,c1,q3⟩:=HS.out.2.2.2 1 y rfl;injection hA with hA;subst hA
    clear q0 q1 q2 q3;rw[addZ] at c0;replace c1:w1.cell? { block:=a.block,off:=a.off+1 }=some (.string y):=c1;by_cases hx:x=a9b
    ·subst hx;have e0:(a9b.toList==[109,101,115,104])=true:=by rw[eqD];exact decide_eq_true rfl
     have hy0:y≠⟨#[]⟩:=fun e=>HFU.out rfl (by rw[e];simp)
     have hyz:y.size≤90000:=HSM.out y (by simp);by_cases hy:y=a4d
     ·have e1:(y.toList==[45])=true:=by rw[eqL.2 (show y=ofL [45] from hy)];rfl
      have HX:=Hd (HHD y T rfl hy);have hTl:T.length+2=n:=by rw[←hL];rfl
      obtain⟨b,hb⟩:∃ b,decide (T.length=0)=b:=⟨_,rfl⟩;have db:((n:Int)==2)=b:=by rw[←hb];cases T with|nil=>(simp at hTl;subst hTl;rfl)|cons t T=>(simp at hTl ⊢;omega)
      have HT0:=Hd (show b=true→(a2x T false).1=[] from fun h=>by rw[←hb] at h;have:=of_decide_eq_true h;rw[List.eq_nil_of_length_eq_zero this];rfl);rw[hb] at HX;clear hy hy0 hTl hb hL;obtain⟨r0,r1,r2,r3⟩:=H0.z4 0 rfl;obtain⟨fr0,fr1,fr2,fr3⟩:=H0.f4 0 rfl
      go_wp2_with fail
      refine a0p (.bool b) (H0.set4 0 rfl _ _ _ _) 0 rfl results62 rfl rfl rfl ?_;rw[HX.out];exact⟨_,0,[],⟨#[]⟩,rfl,(Sep.ofBelow (H0.set4 0 rfl _ _ _ _).base).addNil 3,Nat.zero_le _,fun h=>⟨(HT0 h).symm,rfl⟩⟩
     ·have e1:(y.toList==[45])=false:=by simpa using (fun e=>hy (eqL.1 e):¬ y.toList=[45])
      have HX:=Hd (HHN y T rfl hy0 hy);obtain⟨A2,hr,hS2⟩:=b3s HS hc (k:=2) hn2;have hr:∀ w,(Instr.slice 32 (.slice (some a) n c) (some (.int .i64 2)) none none).run prog w=.ok (.slice A2 (n-2) (c-2)) w:=hr;have hS2:Strs w1 K A2 (n-2) T:=hS2;have C2:=b0h (c:=c-2) hS2 (HT.below H0.base);have HRA:=Hd (fun h:allB T=true=>b3p h);obtain⟨b,hb⟩:∃ b,allB T=b:=⟨_,rfl⟩;rw[hb] at C2 HX HRA;clear hy hy0 hb hS2 hL
      go_wp2_with fail
      refine C2.mono ?_;rintro e2 w2 ⟨v,m,l,rfl,hSe,hl⟩;obtain⟨B,d,hv,_,_,_⟩:=(hSe.ownS 0 rfl).form;subst hv;have H:=Hd (show Sep w w2 [.own 3 (.slice B m d) m l,.box gR 28 zG] from Sep.join H0 hSe.base hSe (Nat.le_refl _) (by intro c hc;rw[List.mem_singleton] at hc;subst hc;exact True.intro));have c1:w2.cell? { block:=a.block,off:=a.off+1 }=some (.string y):=kC hSe.base c1;have HL:=Hd hl;clear C2 hSe hl H0 hr c0 e0 e1;obtain⟨r0,r1,r2,r3⟩:=H.z4 1 rfl;obtain⟨fr0,fr1,fr2,fr3⟩:=H.f4 1 rfl
      go_wp2_with fail
      refine a0p (.bool b) (H.set4 1 rfl _ _ _ _) 1 rfl results62 rfl rfl rfl ?_;rw[HX.out];exact⟨_,m,l,y,rfl,Sep.sub (H.set4 1 rfl _ _ _ _) [0] rfl (by decide),hyz,fun h=>⟨by rw[HRA.out h];exact HL h,rfl⟩⟩
    ·have e0:(x.toList==[109,101,115,104])=false:=by rw[eqD];exact decide_eq_false hx
     have HX:=Hd (HHW x y T rfl hx);clear hx hL;obtain⟨r0,r1,r2,r3⟩:=H0.z4 0 rfl;obtain⟨fr0,fr1,fr2,fr3⟩:=H0.f4 0 rfl
     go_wp2_with fail
     refine a0p (.bool false) (H0.set4 0 rfl _ _ _ _) 0 rfl results62 rfl rfl rfl ?_;rw[HX.out];exact⟨_,0,[],⟨#[]⟩,rfl,(Sep.ofBelow (H0.set4 0 rfl _ _ _ _).base).addNil 3,Nat.zero_le _,fun h=>by cases h⟩
theorem d7u (s:ByteArray)(hs:s.size≤90000)(hT:Tabs w):
  Calls prog 64 #[.string s] w fun e w'=>∃ v m l,e=.returned (.tuple #[v,.bool (a5x s).2])∧Sep w w' [.own 3 v m l]∧((a5x s).2=true→l=(a5x s).1):=by
 have HT:=Hd hT;clear hT;have C1:=b8s w s hs
 go_enter func64,ntmps64
 go_wp2_with fail
 refine C1.mono ?_;rintro e1 w1 ⟨A,n,c,K,rfl,hc,hS,hb,_⟩;have HB:=Hd hb;have hL:=hS.1;have hn9:=hS.2.1;have HWS:=Hd (c4m s);have HFB:=Hd (fun (x:ByteArray) (T:List ByteArray) (hW:a0u s=x::T)=>d9a hW);have HTF:=Hd (fun (x:ByteArray) (T:List ByteArray) (hW:a0u s=x::T)=>c7d hW);obtain⟨fb,hfb⟩:∃ b,b2j s=b:=⟨_,rfl⟩;rw[hfb] at HFB ⊢;have HS:=Hd hS;obtain⟨W,hW⟩:∃ W,a0u s=W:=⟨_,rfl⟩;rw[hW] at hL HS HWS HFB HTF;clear hS hb C1 hfb hW
 cases W with
 | nil=>exact absurd rfl HWS
 | cons x T =>
  have hn1:1≤n:=by rw[←hL];simp
  cases fb with
  | false =>
   have HX:=Hd (HFB x T rfl rfl);clear hL;go_wp2;go_ret2;rw[HX.out]
   exact⟨_,0,[],rfl,(Sep.ofBelow HB).addNil 3,fun h=>by cases h⟩
  | true =>
   obtain⟨a,hA,_,c0,_⟩:=HS.out.2.2.2 0 x rfl;subst hA;rw[addZ] at c0;have HX:=Hd (HTF x T rfl);by_cases hx:x=a9p
   ·subst hx;have e0:(a9p.toList==[111,117,116,115])=true:=by rw[eqD];exact decide_eq_true rfl
    obtain⟨A2,hr,hS2⟩:=b3s HS hc (k:=1) hn1;have hr:∀ w,(Instr.slice 32 (.slice (some a) n c) (some (.int .i64 1)) none none).run prog w=.ok (.slice A2 (n-1) (c-1)) w:=hr;have hS2:Strs w1 K A2 (n-1) T:=hS2;have C2:=b0h (c:=c-1) hS2 (HT.below HB);have HRA:=Hd (fun h:allB T=true=>b3p h);obtain⟨b,hb⟩:∃ b,allB T=b:=⟨_,rfl⟩;rw[hb] at C2 HX HRA;rw[show decide (a9p=a9p)=true from decide_eq_true rfl,Bool.true_and] at HX;clear hb hS2 hL
    go_wp2_with fail
    refine C2.mono ?_;rintro e2 w2 ⟨v,m,l,rfl,hSe,hl⟩;have H:=Hd (show Sep w w2 [.own 3 v m l] from Sep.join (Sep.ofBelow HB) hSe.base hSe (Nat.le_refl _) (by intro c hc;rw[List.mem_singleton] at hc;subst hc;exact True.intro));have HL:=Hd hl;clear C2 hSe hl hr c0 e0;go_wp2;go_ret2;rw[HX.out];exact⟨v,m,l,rfl,H,fun h=>by rw[HRA.out h];exact HL h⟩
   ·have e0:(x.toList==[111,117,116,115])=false:=by rw[eqD];exact decide_eq_false hx
    have HX2:=Hd (show(a5x s).2=false by rw[HX.out,decide_eq_false hx];rfl);clear hx hL;go_wp2;go_ret2;rw[HX2.out];exact⟨_,0,[],rfl,(Sep.ofBelow HB).addNil 3,fun h=>by cases h⟩
def zNd:a0l:=⟨0,[],[],[],0,0,⟨#[]⟩⟩
theorem d7t (s:ByteArray)(hs:s.size≤90000)(hT:Tabs w):
  Calls prog 63 #[.string s] w fun e w'=>∃(nd:a0l) (v1:Value) (n1:Nat) (v2:Value) (n2:Nat) (v3:Value) (n3:Nat),e=.returned (.tuple #[.agg #[.int .i64 nd.op,v1,v2,v3,.int .i64 nd.n,.int .i64 nd.how,.string nd.note],.bool (a1x s).2])∧Sep w w' [.own 3 v1 n1 nd.ins,.own 3 v2 n2 nd.shape,.own 3 v3 n3 nd.a]∧((a1x s).2=true→nd=(a1x s).1):=by
 have h0:=(Sep.nil w).allocBox w.heap.size 49 zN rfl;have HT:=Hd hT;clear hT
 go_enter func63,ntmps63
 go_upto_region 1 with fail
 generalize w.alloc (.cells zA 49)=w0 at *;obtain⟨gR,hgR⟩:∃ g,w.heap.size=g:=⟨_,rfl⟩;rw[hgR] at h0 ⊢;have H0:=Hd h0;clear h0 hgR;have C1:=b8s w0 s hs
 go_wp2_with fail
 refine C1.mono ?_;rintro e1 w1 ⟨A,n,c,K,rfl,hc,hS,hb,_⟩;replace H0:=Hd (H0.below hb);have hL:=hS.1;have hn9:=hS.2.1;have HWS:=Hd (c4m s);have HNF:=Hd (fun (x:ByteArray) (T:List ByteArray) (hW:a0u s=x::T)=>d7h hW);have HNI:=Hd (fun (x:ByteArray) (T:List ByteArray) (F1 F2 F3:List Int × List ByteArray × Bool) (hW:a0u s=x::T)=>d1j (s:=s) (x:=x) (T:=T) (F1:=F1) (F2:=F2) (F3:=F3) hW);have HNY:=Hd (fun (x:ByteArray) (T:List ByteArray) (F1 F2 F3:List Int × List ByteArray × Bool) (hW:a0u s=x::T)=>e2g (s:=s) (x:=x) (T:=T) (F1:=F1) (F2:=F2) (F3:=F3) hW);have HFM:=Hd (fun h:b2j s=true=>c5f h);obtain⟨fb,hfb⟩:∃ b,b2j s=b:=⟨_,rfl⟩;rw[hfb] at HNF HFM ⊢;have HS:=Hd hS;obtain⟨W,hW⟩:∃ W,a0u s=W:=⟨_,rfl⟩;rw[hW] at hL HS HWS HNF HNI HNY HFM;clear hS hb C1 hfb hW
 cases W with
 | nil=>exact absurd rfl HWS
 | cons x T =>
  replace HNI:=Hd (fun F1 F2 F3=>HNI.out x T F1 F2 F3 rfl);replace HNY:=Hd (fun F1 F2 F3=>HNY.out x T F1 F2 F3 rfl);have hn1:1≤n:=by rw[←hL];simp
  cases fb with
  | false =>
   have HX:=Hd (show(a1x s).2=false by cases hq:(a1x s).2 with|false=>rfl|true=>(have:=HNF.out x T rfl hq;cases this));clear hL;obtain⟨r0,r1,r2,r3,r4,r5,r6⟩:=H0.cells7 0 rfl;obtain⟨fr0,fr1,fr2,fr3,fr4,fr5,fr6⟩:=H0.f7 0 rfl
   go_wp2_with fail
   refine a3i (.bool false) (H0.set7i 0 rfl _ _ _ _ _ _ _) 0 rfl results63 rfl rfl rfl ?_;rw[HX.out]
   exact⟨zNd,_,0,_,0,_,0,rfl,(((Sep.ofBelow (H0.set7i 0 rfl _ _ _ _ _ _ _).base).addNil 3).addNil 3).addNil 3,fun h=>by cases h⟩
  | true =>
   obtain⟨a,hA,q0,c0,q1⟩:=HS.out.2.2.2 0 x rfl;clear q0 q1;have HFU:=Hd (HFM rfl);subst hA;rw[addZ] at c0;have h2:=(Sep.nil w1).allocBox w1.heap.size 49 zN rfl;have hb2:Below w1.heap.size w1 (w1.alloc (.cells zA 49)):=(Below.refl _ _).alloc (Nat.le_refl _) _
   go_upto_region 5 with fail
   generalize w1.alloc (.cells zA 49)=w2 at *;replace c0:=kC hb2 c0;obtain⟨g6,hg6⟩:∃ g,w1.heap.size=g:=⟨_,rfl⟩;rw[hg6] at h2 ⊢;have H:=Hd h2;clear h2 hb2 hg6;have CO:=e5g x ((HT.below H0.base).below H.base);obtain⟨op,hop⟩:∃ z,opF x=z:=⟨_,rfl⟩;have hopf:Fits op:=by have:=e3w x;rw[hop] at this;exact⟨by omega,by omega⟩
   rw[hop] at CO HNI HNY;clear hop hL
   go_wp2_with fail
   refine CO.mono ?_;rintro e2 w3 ⟨rfl,rfl⟩;clear CO;have k0:=H.c 0 0;have f0:=H.frozenBox 0 0 rfl;have h3:=H.setBox 0 0 (.int .i64 op) rfl
   go_upto_region 6 with fail
   generalize w3.setCell ⟨g6,0,none⟩ (.int .i64 op)=w4 at *;replace H:=Hd (show Sep w1 w4 [.box g6 49 [.int .i64 op,.slice none 0 0,.slice none 0 0,.slice none 0 0,.int .i64 0,.int .i64 0,.string ⟨#[]⟩]] from h3);clear h3 k0 f0 c0;by_cases ho:0<op
   ·have do1:decide (0<op)=true:=decide_eq_true ho;have hr:∃ A2:Option Addr,(∀ w,(Instr.slice 32 (.slice (some a) n c) (some (.int .i64 1)) none none).run prog w=.ok (.slice A2 (n-1) (c-1)) w)∧Strs w1 K A2 (n-1) T:=b3s HS hc (k:=1) hn1;obtain⟨A2,hr,hS2⟩:=hr;have HS2:=Hd hS2;have HO:=Hd ho;have h3:=H.allocBox w4.heap.size 143 [.pointer (some ⟨g6,1,none⟩),.pointer (some ⟨g6,2,none⟩),.pointer (some ⟨g6,3,none⟩)] rfl;clear hS2 ho HS H;rw[do1]
    go_wp2_with fail
    generalize w4.alloc (.cells #[.pointer (some ⟨g6,1,none⟩),.pointer (some ⟨g6,2,none⟩),.pointer (some ⟨g6,3,none⟩)] 143)=w5 at *;obtain⟨gL,hgL⟩:∃ g,w4.heap.size=g:=⟨_,rfl⟩;rw[hgL] at h3 ⊢;have H:=Hd (show Sep w1 w5 [.box gL 143 [.pointer (some ⟨g6,1,none⟩),.pointer (some ⟨g6,2,none⟩),.pointer (some ⟨g6,3,none⟩)],.box g6 49 [.int .i64 op,.slice none 0 0,.slice none 0 0,.slice none 0 0,.int .i64 0,.int .i64 0,.string ⟨#[]⟩]] from h3);clear h3 hgL hr
    go_loopw [36,7] (fun iv rv wr=>∃(A3:Option Addr) (n3 c3:Nat),rv=.slice A3 n3 c3∧n3≤c3∧((iv=.int .i64 0∧Strs w1 K A3 n3 T∧Sep w1 wr [.box gL 143 [.pointer (some ⟨g6,1,none⟩),.pointer (some ⟨g6,2,none⟩),.pointer (some ⟨g6,3,none⟩)],.box g6 49 [.int .i64 op,.slice none 0 0,.slice none 0 0,.slice none 0 0,.int .i64 0,.int .i64 0,.string ⟨#[]⟩]])∨(∃(B1:Option Addr) (m1 d1:Nat) (F1:List Int × List ByteArray × Bool),iv=.int .i64 1∧a1w T false=F1∧F1.2.2=false∧Strs w1 K A3 n3 F1.2.1∧Sep w1 wr [.own 3 (.slice B1 m1 d1) m1 F1.1,.box gL 143 [.pointer (some ⟨g6,1,none⟩),.pointer (some ⟨g6,2,none⟩),.pointer (some ⟨g6,3,none⟩)],.box g6 49 [.int .i64 op,.slice B1 m1 d1,.slice none 0 0,.slice none 0 0,.int .i64 0,.int .i64 0,.string ⟨#[]⟩]])∨(∃(B1:Option Addr) (m1 d1:Nat) (F1:List Int × List ByteArray × Bool),∃(B2:Option Addr) (m2 d2:Nat) (F2:List Int × List ByteArray × Bool),iv=.int .i64 2∧a1w T false=F1∧F1.2.2=false∧a1w F1.2.1 false=F2∧F2.2.2=false∧Strs w1 K A3 n3 F2.2.1∧Sep w1 wr [.own 3 (.slice B2 m2 d2) m2 F2.1,.own 3 (.slice B1 m1 d1) m1 F1.1,.box gL 143 [.pointer (some ⟨g6,1,none⟩),.pointer (some ⟨g6,2,none⟩),.pointer (some ⟨g6,3,none⟩)],.box g6 49 [.int .i64 op,.slice B1 m1 d1,.slice B2 m2 d2,.slice none 0 0,.int .i64 0,.int .i64 0,.string ⟨#[]⟩]])∨(∃(B1:Option Addr) (m1 d1:Nat) (F1:List Int × List ByteArray × Bool),∃(B2:Option Addr) (m2 d2:Nat) (F2:List Int × List ByteArray × Bool),∃(B3:Option Addr) (m3 d3:Nat) (F3:List Int × List ByteArray × Bool),iv=.int .i64 3∧a1w T false=F1∧F1.2.2=false∧a1w F1.2.1 false=F2∧F2.2.2=false∧a1w F2.2.1 false=F3∧F3.2.2=false∧Strs w1 K A3 n3 F3.2.1∧Sep w1 wr [.own 3 (.slice B3 m3 d3) m3 F3.1,.own 3 (.slice B2 m2 d2) m2 F2.1,.own 3 (.slice B1 m1 d1) m1 F1.1,.box gL 143 [.pointer (some ⟨g6,1,none⟩),.pointer (some ⟨g6,2,none⟩),.pointer (some ⟨g6,3,none⟩)],.box g6 49 [.int .i64 op,.slice B1 m1 d1,.slice B2 m2 d2,.slice B3 m3 d3,.int .i64 0,.int .i64 0,.string ⟨#[]⟩]]))) (fun iv _ _=>3-(intOf iv).toNat)
    case atStart=>exact⟨A2,_,_,rfl,by omega,.inl ⟨rfl,HS2,H⟩⟩
    case round =>
     clear H HS2;obtain⟨A3,n3,c3,rfl,hc3,hdis⟩:=hrel;rcases hdis with ⟨rfl,hS3,hSe⟩|⟨B1,m1,d1,F1,rfl,hF1,hG1,hS3,hSe⟩|⟨B1,m1,d1,F1,B2,m2,d2,F2,rfl,hF1,hG1,hF2,hG2,hS3,hSe⟩|⟨B1,m1,d1,F1,B2,m2,d2,F2,B3,m3,d3,F3,rfl,hF1,hG1,hF2,hG2,hF3,hG3,hS3,hSe⟩
     ·have H:=Hd hSe;have HS3:=Hd hS3;clear hSe hS3;have c0:=H.c 0 0;have C:=b8t HS3 H.base hc3 ((HT.below H0.base).below H.base);obtain⟨F1,hF1⟩:∃ F,a1w T false=F:=⟨_,rfl⟩;rw[hF1] at C;have HF1:=Hd hF1;clear hF1
      go_wp2_with fail
      refine C.mono ?_;rintro e3 w6 ⟨v,m1,l,A4,n4,c4,rfl,hSl,hok⟩;obtain⟨B1,d1,hv,_,_,_⟩:=(hSl.ownS 0 rfl).form;subst hv;have hJ:=Sep.join H hSl.base hSl (Nat.le_refl _) (by intro c hc;rw[List.mem_singleton] at hc;subst hc;exact True.intro);have HOK:=Hd hok;clear C hSl hok c0;replace H:=Hd (show Sep w1 w6 [.own 3 (.slice B1 m1 d1) m1 l,.box gL 143 [.pointer (some ⟨g6,1,none⟩),.pointer (some ⟨g6,2,none⟩),.pointer (some ⟨g6,3,none⟩)],.box g6 49 [.int .i64 op,.slice none 0 0,.slice none 0 0,.slice none 0 0,.int .i64 0,.int .i64 0,.string ⟨#[]⟩]] from hJ);have k1:=H.c 2 1;have f1:=H.frozenBox 2 1 rfl;have h7:=H.setBox 2 1 (.slice B1 m1 d1) rfl;clear hJ
      go_upto_region 13 with fail
      generalize w6.setCell ⟨g6,1,none⟩ (.slice B1 m1 d1)=w7 at *;replace H:=Hd (show Sep w1 w7 [.own 3 (.slice B1 m1 d1) m1 l,.box gL 143 [.pointer (some ⟨g6,1,none⟩),.pointer (some ⟨g6,2,none⟩),.pointer (some ⟨g6,3,none⟩)],.box g6 49 [.int .i64 op,.slice B1 m1 d1,.slice none 0 0,.slice none 0 0,.int .i64 0,.int .i64 0,.string ⟨#[]⟩]] from h7);clear h7 k1 f1;obtain⟨bad,hbad⟩:∃ b,F1.2.2=b:=⟨_,rfl⟩;rw[hbad] at HOK ⊢
      cases bad with
      | true =>
       have HX:=Hd (show(a1x s).2=false by cases hq:(a1x s).2 with|false=>rfl|true=>(have h9:=(HNI F1 _ _ HF1 rfl rfl hq).2.1;rw[hbad] at h9;cases h9));replace H0:=Hd (H0.below H.base);obtain⟨r0,r1,r2,r3,r4,r5,r6⟩:=H0.cells7 0 rfl;obtain⟨fr0,fr1,fr2,fr3,fr4,fr5,fr6⟩:=H0.f7 0 rfl
       go_wp2_with fail
       refine a3i (.bool false) (H0.set7i 0 rfl _ _ _ _ _ _ _) 0 rfl results63 rfl rfl rfl ?_;rw[HX.out]
       exact⟨zNd,_,0,_,0,_,0,rfl,(((Sep.ofBelow (H0.set7i 0 rfl _ _ _ _ _ _ _).base).addNil 3).addNil 3).addNil 3,fun h=>by cases h⟩
      | false =>
       obtain⟨hl,hn4,hS4⟩:=HOK.out rfl;subst hl;have HS4:=Hd hS4;clear hS4 HOK;go_wp2;go_roundw
       case rel=>exact⟨A4,n4,c4,rfl,hn4,.inr (.inl ⟨B1,m1,d1,F1,rfl,HF1,hbad,HS4,H⟩)⟩
       case measure=>simp[intOf]
     ·have H:=Hd hSe;have HS3:=Hd hS3;have HF1:=Hd hF1;have HG1:=Hd hG1;clear hSe hS3 hF1 hG1;have c0:=H.c 1 1;have C:=b8t HS3 H.base hc3 ((HT.below H0.base).below H.base);obtain⟨F2,hF2⟩:∃ F,a1w F1.2.1 false=F:=⟨_,rfl⟩;rw[hF2] at C;have HF2:=Hd hF2;clear hF2
      go_wp2_with fail
      refine C.mono ?_;rintro e3 w6 ⟨v,m2,l,A4,n4,c4,rfl,hSl,hok⟩;obtain⟨B2,d2,hv,_,_,_⟩:=(hSl.ownS 0 rfl).form;subst hv;have hJ:=Sep.join H hSl.base hSl (Nat.le_refl _) (by intro c hc;rw[List.mem_singleton] at hc;subst hc;exact True.intro);have HOK:=Hd hok;clear C hSl hok c0;replace H:=Hd (show Sep w1 w6 [.own 3 (.slice B2 m2 d2) m2 l,.own 3 (.slice B1 m1 d1) m1 F1.1,.box gL 143 [.pointer (some ⟨g6,1,none⟩),.pointer (some ⟨g6,2,none⟩),.pointer (some ⟨g6,3,none⟩)],.box g6 49 [.int .i64 op,.slice B1 m1 d1,.slice none 0 0,.slice none 0 0,.int .i64 0,.int .i64 0,.string ⟨#[]⟩]] from hJ);have k1:=H.c 3 2;have f1:=H.frozenBox 3 2 rfl;have h7:=H.setBox 3 2 (.slice B2 m2 d2) rfl;clear hJ
      go_upto_region 13 with fail
      generalize w6.setCell ⟨g6,2,none⟩ (.slice B2 m2 d2)=w7 at *;replace H:=Hd (show Sep w1 w7 [.own 3 (.slice B2 m2 d2) m2 l,.own 3 (.slice B1 m1 d1) m1 F1.1,.box gL 143 [.pointer (some ⟨g6,1,none⟩),.pointer (some ⟨g6,2,none⟩),.pointer (some ⟨g6,3,none⟩)],.box g6 49 [.int .i64 op,.slice B1 m1 d1,.slice B2 m2 d2,.slice none 0 0,.int .i64 0,.int .i64 0,.string ⟨#[]⟩]] from h7);clear h7 k1 f1;obtain⟨bad,hbad⟩:∃ b,F2.2.2=b:=⟨_,rfl⟩;rw[hbad] at HOK ⊢
      cases bad with
      | true =>
       have HX:=Hd (show(a1x s).2=false by cases hq:(a1x s).2 with|false=>rfl|true=>(have h9:=(HNI F1 F2 _ HF1 HF2 rfl hq).2.2.1;rw[hbad] at h9;cases h9));replace H0:=Hd (H0.below H.base);obtain⟨r0,r1,r2,r3,r4,r5,r6⟩:=H0.cells7 0 rfl;obtain⟨fr0,fr1,fr2,fr3,fr4,fr5,fr6⟩:=H0.f7 0 rfl
       go_wp2_with fail
       refine a3i (.bool false) (H0.set7i 0 rfl _ _ _ _ _ _ _) 0 rfl results63 rfl rfl rfl ?_;rw[HX.out]
       exact⟨zNd,_,0,_,0,_,0,rfl,(((Sep.ofBelow (H0.set7i 0 rfl _ _ _ _ _ _ _).base).addNil 3).addNil 3).addNil 3,fun h=>by cases h⟩
      | false =>
       obtain⟨hl,hn4,hS4⟩:=HOK.out rfl;subst hl;have HS4:=Hd hS4;clear hS4 HOK;go_wp2;go_roundw
       case rel=>exact⟨A4,n4,c4,rfl,hn4,.inr (.inr (.inl ⟨B1,m1,d1,F1,B2,m2,d2,F2,rfl,HF1,HG1,HF2,hbad,HS4,H⟩))⟩
       case measure=>simp[intOf]
     ·have H:=Hd hSe;have HS3:=Hd hS3;have HF1:=Hd hF1;have HG1:=Hd hG1;have HF2:=Hd hF2;have HG2:=Hd hG2;clear hSe hS3 hF1 hG1 hF2 hG2;have c0:=H.c 2 2;have C:=b8t HS3 H.base hc3 ((HT.below H0.base).below H.base);obtain⟨F3,hF3⟩:∃ F,a1w F2.2.1 false=F:=⟨_,rfl⟩;rw[hF3] at C;have HF3:=Hd hF3;clear hF3
      go_wp2_with fail
      refine C.mono ?_;rintro e3 w6 ⟨v,m3,l,A4,n4,c4,rfl,hSl,hok⟩;obtain⟨B3,d3,hv,_,_,_⟩:=(hSl.ownS 0 rfl).form;subst hv;have hJ:=Sep.join H hSl.base hSl (Nat.le_refl _) (by intro c hc;rw[List.mem_singleton] at hc;subst hc;exact True.intro);have HOK:=Hd hok;clear C hSl hok c0;replace H:=Hd (show Sep w1 w6 [.own 3 (.slice B3 m3 d3) m3 l,.own 3 (.slice B2 m2 d2) m2 F2.1,.own 3 (.slice B1 m1 d1) m1 F1.1,.box gL 143 [.pointer (some ⟨g6,1,none⟩),.pointer (some ⟨g6,2,none⟩),.pointer (some ⟨g6,3,none⟩)],.box g6 49 [.int .i64 op,.slice B1 m1 d1,.slice B2 m2 d2,.slice none 0 0,.int .i64 0,.int .i64 0,.string ⟨#[]⟩]] from hJ);have k1:=H.c 4 3;have f1:=H.frozenBox 4 3 rfl;have h7:=H.setBox 4 3 (.slice B3 m3 d3) rfl;clear hJ
      go_upto_region 13 with fail
      generalize w6.setCell ⟨g6,3,none⟩ (.slice B3 m3 d3)=w7 at *;replace H:=Hd (show Sep w1 w7 [.own 3 (.slice B3 m3 d3) m3 l,.own 3 (.slice B2 m2 d2) m2 F2.1,.own 3 (.slice B1 m1 d1) m1 F1.1,.box gL 143 [.pointer (some ⟨g6,1,none⟩),.pointer (some ⟨g6,2,none⟩),.pointer (some ⟨g6,3,none⟩)],.box g6 49 [.int .i64 op,.slice B1 m1 d1,.slice B2 m2 d2,.slice B3 m3 d3,.int .i64 0,.int .i64 0,.string ⟨#[]⟩]] from h7);clear h7 k1 f1;obtain⟨bad,hbad⟩:∃ b,F3.2.2=b:=⟨_,rfl⟩;rw[hbad] at HOK ⊢
      cases bad with
      | true =>
       have HX:=Hd (show(a1x s).2=false by cases hq:(a1x s).2 with|false=>rfl|true=>(have h9:=(HNI F1 F2 F3 HF1 HF2 HF3 hq).2.2.2.1;rw[hbad] at h9;cases h9));replace H0:=Hd (H0.below H.base);obtain⟨r0,r1,r2,r3,r4,r5,r6⟩:=H0.cells7 0 rfl;obtain⟨fr0,fr1,fr2,fr3,fr4,fr5,fr6⟩:=H0.f7 0 rfl
       go_wp2_with fail
       refine a3i (.bool false) (H0.set7i 0 rfl _ _ _ _ _ _ _) 0 rfl results63 rfl rfl rfl ?_;rw[HX.out]
       exact⟨zNd,_,0,_,0,_,0,rfl,(((Sep.ofBelow (H0.set7i 0 rfl _ _ _ _ _ _ _).base).addNil 3).addNil 3).addNil 3,fun h=>by cases h⟩
      | false =>
       obtain⟨hl,hn4,hS4⟩:=HOK.out rfl;subst hl;have HS4:=Hd hS4;clear hS4 HOK;go_wp2;go_roundw
       case rel=>exact⟨A4,n4,c4,rfl,hn4,.inr (.inr (.inr ⟨B1,m1,d1,F1,B2,m2,d2,F2,B3,m3,d3,F3,rfl,HF1,HG1,HF2,HG2,HF3,hbad,HS4,H⟩))⟩
       case measure=>simp[intOf]
     ·have H:=Hd hSe;have HS3:=Hd hS3;have HF1:=Hd hF1;have HG1:=Hd hG1;have HF2:=Hd hF2;have HG2:=Hd hG2;have HF3:=Hd hF3;have HG3:=Hd hG3;replace HNI:=Hd (fun h=>(HNI F1 F2 F3 hF1 hF2 hF3 h).2.2.2.2);replace HNY:=Hd (fun (a b c:ByteArray)=>HNY.out F1 F2 F3 (a:=a) (b:=b) (c:=c) hF1 hF2 hF3 HO hG1 hG2 hG3);have hl3:=hS3.1;clear hSe hS3 hF1 hF2 hF3 hG1 hG2 hG3;obtain⟨L3,hL3⟩:∃ L,F3.2.1=L:=⟨_,rfl⟩;rw[hL3] at HNI HNY HS3 hl3;by_cases h3:n3=3
      ·subst h3
       obtain⟨qa,qb,qc,hq⟩:∃ a b c,L3=[a,b,c]:=by
        match L3,hl3 with
        | [a,b,c],_=>exact⟨a,b,c,rfl⟩
       have HQC:=Hd (show qc≠⟨#[]⟩ from fun e=>HFU.out (by
        have h1:qc∈F3.2.1:=by rw[hL3,hq];simp
        rw[←HF3.out] at h1;have h2:=a8l _ _ _ h1;rw[←HF2.out] at h2;have h3:=a8l _ _ _ h2;rw[←HF1.out] at h3;have h4:=a8l _ _ _ h3
        rw[←e];exact List.mem_cons_of_mem _ h4))
       subst hq;clear hl3 hL3;replace HNI:=Hd (show(a1x s).2=true→(a0t qa).2=true∧(a0t qb).2=true from fun h=>by obtain⟨a,b,c,e,ha,hb,_⟩:=HNI.out h;injection e with e1 e;injection e with e2 _;subst e1 e2;exact⟨ha,hb⟩);replace HNY:=Hd (fun ha hb=>HNY.out qa qb qc rfl ha hb HQC);obtain⟨a3,hA,q0⟩:=HS3.out.2.2.2 0 qa rfl;clear q0;subst hA
       have CE:=Hd (fun (w:World) (hb:Below w1.heap.size w1 w)=>show w.cell? a3=some (.string qa)∧w.cell? { block:=a3.block,off:=a3.off+1 }=some (.string qb)∧w.cell? { block:=a3.block,off:=a3.off+2 }=some (.string qc) from by
        obtain⟨a,hA,_,c0,_⟩:=(HS3.below hb).2.2.2 0 qa rfl;injection hA with hA;subst hA
        obtain⟨a,hA,_,c1,_⟩:=(HS3.below hb).2.2.2 1 qb rfl;injection hA with hA;subst hA
        obtain⟨a,hA,_,c2,_⟩:=(HS3.below hb).2.2.2 2 qc rfl;injection hA with hA;subst hA
        rw[addZ] at c0
        exact⟨c0,c1,c2⟩)
       have hqa:qa.size≤90000:=HS3.out.2.2.1 qa (by simp);have hqb:qb.size≤90000:=HS3.out.2.2.1 qb (by simp);have CA:=a7e (w:=wr) qa hqa ((HT.below H0.base).below H.base);have CB:=Hd (fun (w:World) (hT:Tabs w)=>d1p (w:=w) qb hqb hT);obtain⟨⟨na,oka⟩,hNa⟩:∃ r,a0t qa=r:=⟨_,rfl⟩;obtain⟨⟨nb,okb⟩,hNb⟩:∃ r,a0t qb=r:=⟨_,rfl⟩;rw[hNa] at CA HNI HNY;rw[hNb] at CB HNI HNY;clear hNa hNb HS3 hqa hqb;obtain⟨c0,c1,c2⟩:=CE.out wr H.base
       go_wp2_with fail
       refine CA.mono ?_;rintro e3 w6 ⟨rfl,hb6⟩;replace H:=Hd (H.below hb6);have k4:=H.c 4 4;have f4:=H.frozenBox 4 4 rfl;have h7:=H.setBox 4 4 (.int .i64 na) rfl;clear CA c0 c1 c2 hb6
       go_upto_region 19 with fail
       generalize w6.setCell ⟨g6,4,none⟩ (.int .i64 na)=w7 at *;replace H:=Hd (show Sep w1 w7 [.own 3 (.slice B3 m3 d3) m3 F3.1,.own 3 (.slice B2 m2 d2) m2 F2.1,.own 3 (.slice B1 m1 d1) m1 F1.1,.box gL 143 [.pointer (some ⟨g6,1,none⟩),.pointer (some ⟨g6,2,none⟩),.pointer (some ⟨g6,3,none⟩)],.box g6 49 [.int .i64 op,.slice B1 m1 d1,.slice B2 m2 d2,.slice B3 m3 d3,.int .i64 na,.int .i64 0,.string ⟨#[]⟩]] from h7);clear h7 k4 f4
       cases oka with
       | false =>
        have HX:=Hd (show(a1x s).2=false by cases hq:(a1x s).2 with|false=>rfl|true=>(have h9:=(HNI hq).1;cases h9));replace H0:=Hd (H0.below H.base);obtain⟨r0,r1,r2,r3,r4,r5,r6⟩:=H0.cells7 0 rfl;obtain⟨fr0,fr1,fr2,fr3,fr4,fr5,fr6⟩:=H0.f7 0 rfl
        go_wp2_with fail
        refine a3i (.bool false) (H0.set7i 0 rfl _ _ _ _ _ _ _) 0 rfl results63 rfl rfl rfl ?_;rw[HX.out]
        exact⟨zNd,_,0,_,0,_,0,rfl,(((Sep.ofBelow (H0.set7i 0 rfl _ _ _ _ _ _ _).base).addNil 3).addNil 3).addNil 3,fun h=>by cases h⟩
       | true =>
        obtain⟨c0,c1,c2⟩:=CE.out w7 H.base;have CB2:=CB.out w7 ((HT.below H0.base).below H.base)
        go_wp2_with fail
        refine CB2.mono ?_;rintro e4 w8 ⟨rfl,hb8⟩;replace H:=Hd (H.below hb8);have k4:=H.c 4 5;have f4:=H.frozenBox 4 5 rfl;have h7:=H.setBox 4 5 (.int .i64 nb) rfl;clear CB2 c0 c1 c2 hb8
        go_upto_region 22 with fail
        generalize w8.setCell ⟨g6,5,none⟩ (.int .i64 nb)=w9 at *;replace H:=Hd (show Sep w1 w9 [.own 3 (.slice B3 m3 d3) m3 F3.1,.own 3 (.slice B2 m2 d2) m2 F2.1,.own 3 (.slice B1 m1 d1) m1 F1.1,.box gL 143 [.pointer (some ⟨g6,1,none⟩),.pointer (some ⟨g6,2,none⟩),.pointer (some ⟨g6,3,none⟩)],.box g6 49 [.int .i64 op,.slice B1 m1 d1,.slice B2 m2 d2,.slice B3 m3 d3,.int .i64 na,.int .i64 nb,.string ⟨#[]⟩]] from h7);clear h7 k4 f4
        cases okb with
        | false =>
         have HX:=Hd (show(a1x s).2=false by cases hq:(a1x s).2 with|false=>rfl|true=>(have h9:=(HNI hq).2;cases h9));replace H0:=Hd (H0.below H.base);obtain⟨r0,r1,r2,r3,r4,r5,r6⟩:=H0.cells7 0 rfl;obtain⟨fr0,fr1,fr2,fr3,fr4,fr5,fr6⟩:=H0.f7 0 rfl
         go_wp2_with fail
         refine a3i (.bool false) (H0.set7i 0 rfl _ _ _ _ _ _ _) 0 rfl results63 rfl rfl rfl ?_;rw[HX.out]
         exact⟨zNd,_,0,_,0,_,0,rfl,(((Sep.ofBelow (H0.set7i 0 rfl _ _ _ _ _ _ _).base).addNil 3).addNil 3).addNil 3,fun h=>by cases h⟩
        | true =>
         replace HNY:=Hd (HNY (by first|rfl|trivial) (by first|rfl|trivial));obtain⟨nt,hnt⟩:∃ x,(if qc=a4d then⟨#[]⟩ else qc)=x:=⟨_,rfl⟩;rw[hnt] at HNY;obtain⟨c0,c1,c2⟩:=CE.out w9 H.base;have k6:=H.c 4 6;have f6:=H.frozenBox 4 6 rfl
         go_upto_region 24 with fail
         go_upto_if 81 with fail
         go_cut [] (fun wx=>Sep w1 wx [.own 3 (.slice B3 m3 d3) m3 F3.1,.own 3 (.slice B2 m2 d2) m2 F2.1,.own 3 (.slice B1 m1 d1) m1 F1.1,.box gL 143 [.pointer (some ⟨g6,1,none⟩),.pointer (some ⟨g6,2,none⟩),.pointer (some ⟨g6,3,none⟩)],.box g6 49 [.int .i64 op,.slice B1 m1 d1,.slice B2 m2 d2,.slice B3 m3 d3,.int .i64 na,.int .i64 nb,.string nt]])
         case first =>
          by_cases he:qc=a4d
          ·obtain rfl:nt=⟨#[]⟩:=by rw[←hnt,iP he]
           have e0:(qc.toList==[45])=true:=by rw[eqL.2 (show qc=ofL [45] from he)];rfl
           clear hnt he
           try rw[e0]
           go_wp2_with fail
           go_meet;exact H
          ·obtain rfl:nt=qc:=by rw[←hnt,iN he]
           have e0:(nt.toList==[45])=false:=by simpa using (fun e=>he (eqL.1 e):¬ nt.toList=[45])
           have h9:=H.setBox 4 6 (.string nt) rfl;have HH:=Hd h9;clear hnt he h9
           try rw[e0]
           go_wp2_with fail
           go_meet;exact HH
         case rest =>
          have hS:=hcut;replace H:=Hd hS;clear hS hcut k6 f6 hnt c0 c1 c2
          have J:=Hd (show Sep w wc [.own 3 (.slice B3 m3 d3) m3 F3.1,.own 3 (.slice B2 m2 d2) m2 F2.1,.own 3 (.slice B1 m1 d1) m1 F1.1,.box gL 143 [.pointer (some ⟨g6,1,none⟩),.pointer (some ⟨g6,2,none⟩),.pointer (some ⟨g6,3,none⟩)],.box g6 49 [.int .i64 op,.slice B1 m1 d1,.slice B2 m2 d2,.slice B3 m3 d3,.int .i64 na,.int .i64 nb,.string nt],.box gR 49 zN] from Sep.join H0 H.base H (Nat.le_refl _) (by
           intro c hc;simp only[List.mem_cons,List.not_mem_nil,or_false] at hc
           rcases hc with rfl|rfl|rfl|rfl|rfl <;> exact True.intro))
          clear H H0;obtain⟨k0,k1,k2,k3,k4,k5,k6⟩:=J.cells7 4 rfl;obtain⟨r0,r1,r2,r3,r4,r5,r6⟩:=J.cells7 5 rfl;obtain⟨fr0,fr1,fr2,fr3,fr4,fr5,fr6⟩:=J.f7 5 rfl
          go_wp2_with fail
          refine a3i (.bool true) (J.set7i 5 rfl _ _ _ _ _ _ _) 5 rfl results63 rfl rfl rfl ?_;rw[HNY.out];have HZ:=Sep.sub (l':=[.own 3 (.slice B1 m1 d1) m1 F1.1,.own 3 (.slice B2 m2 d2) m2 F2.1,.own 3 (.slice B3 m3 d3) m3 F3.1]) (J.set7i 5 rfl (.int .i64 op) (.slice B1 m1 d1) (.slice B2 m2 d2) (.slice B3 m3 d3) (.int .i64 na) (.int .i64 nb) (.string nt)) [2,1,0] rfl (by decide)
          first|exact⟨_,_,m1,_,m2,_,m3,rfl,HZ,fun _=>rfl⟩|exact⟨_,_,m1,_,m2,_,rfl,⟨m3,HZ⟩,fun _=>rfl⟩
      ·have d3:((n3:Int) != 3)=true:=by simp;omega
       have HX:=Hd (show(a1x s).2=false by
        cases hq:(a1x s).2 with
        | false=>rfl
        | true =>
         obtain⟨a,b,c,e,_⟩:=HNI.out hq;rw[e] at hl3
         exact absurd hl3.symm h3)
       clear hl3 h3;replace H0:=Hd (H0.below H.base);obtain⟨r0,r1,r2,r3,r4,r5,r6⟩:=H0.cells7 0 rfl;obtain⟨fr0,fr1,fr2,fr3,fr4,fr5,fr6⟩:=H0.f7 0 rfl
       go_wp2_with fail
       refine a3i (.bool false) (H0.set7i 0 rfl _ _ _ _ _ _ _) 0 rfl results63 rfl rfl rfl ?_;rw[HX.out];exact⟨zNd,_,0,_,0,_,0,rfl,(((Sep.ofBelow (H0.set7i 0 rfl _ _ _ _ _ _ _).base).addNil 3).addNil 3).addNil 3,fun h=>by cases h⟩
   ·have do1:decide (0<op)=false:=decide_eq_false ho;have HX:=Hd (show(a1x s).2=false by cases hq:(a1x s).2 with|false=>rfl|true=>exact absurd (HNI _ _ _ rfl rfl rfl hq).1 ho);clear ho;replace H0:=Hd (H0.below H.base);obtain⟨r0,r1,r2,r3,r4,r5,r6⟩:=H0.cells7 0 rfl;obtain⟨fr0,fr1,fr2,fr3,fr4,fr5,fr6⟩:=H0.f7 0 rfl
    go_wp2_with fail
    refine a3i (.bool false) (H0.set7i 0 rfl _ _ _ _ _ _ _) 0 rfl results63 rfl rfl rfl ?_;rw[HX.out];exact⟨zNd,_,0,_,0,_,0,rfl,(((Sep.ofBelow (H0.set7i 0 rfl _ _ _ _ _ _ _).base).addNil 3).addNil 3).addNil 3,fun h=>by cases h⟩
end Go.Proofs.YtdcmanhgekjhgaaGreatDoor
