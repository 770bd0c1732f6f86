import Derived.Test.YtdcmanhgekjhgaaGreatDoorPap
set_option maxRecDepth 100000
set_option maxHeartbeats 12800000
namespace Go.Proofs.YtdcmanhgekjhgaaGreatDoor
open Go.RowKit Go.Proofs.Tryz
variable {nd:a0l}
theorem len1 {α : Type}{l:List α}(h:l.length=1):∃ x,l=[x]:=by
 match l,h with
 | [x],_=>exact⟨x,rfl⟩
theorem len2 {α : Type}{l:List α}(h:l.length=2):∃ x y,l=[x,y]:=by
 match l,h with
 | [x,y],_=>exact⟨x,y,rfl⟩
theorem len3 {α : Type}{l:List α}(h:l.length=3):∃ x y z,l=[x,y,z]:=by
 match l,h with
 | [x,y,z],_=>exact⟨x,y,z,rfl⟩
theorem d2m {k:Int}(h:a5l nd k=true):(a0j nd.op).1 ≠ -2∧(0≤(a0j nd.op).1→k=(a0j nd.op).1)∧((a0j nd.op).1 = -1→2≤k):=by
 rw[a5l,b2i] at h;by_cases hc:(a0j nd.op).1 = -2∨(0≤(a0j nd.op).1∧k≠(a0j nd.op).1)∨((a0j nd.op).1 = -1∧k<2)
 ·rw[iP hc] at h;cases h
 ·refine⟨fun h2=>hc (.inl h2),fun h0=>?_,fun h1=>?_⟩
  ·by_cases hk:k=(a0j nd.op).1
   ·exact hk
   ·exact absurd (.inr (.inl ⟨h0,hk⟩)) hc
  ·rcases Int.lt_or_le k 2 with h2|h2
   ·exact absurd (.inr (.inr ⟨h1,h2⟩)) hc
   ·exact h2
theorem e3g {op:Int}(h:(a0j op).1 ≠ -2):1≤op∧op≤20:=by
 rcases Int.lt_or_le op 1 with h1|h1
 ·exact absurd (by rw[a0j];repeat rw[iN (by omega)]) h
 ·rcases Int.lt_or_le 20 op with h2|h2
  ·exact absurd (by rw[a0j];repeat rw[iN (by omega)]) h
  ·exact⟨h1,h2⟩
theorem c3p {w:World}{v:Value}{At:Option Addr}{nt ct:Nat}{L:TL}(h:a6i w v nd)(hT:Tens w At nt L)(hf:a5l nd L.length=true)(h1:nd.op≠1)(hr:∀ t∈L,a0b t.1 t.2=true):
  Calls prog 50 #[v,.slice At nt ct] w (d9v w (a0w nd L)):=by
 obtain⟨f1,f2,_⟩:=d2m hf;obtain⟨o1,o2⟩:=e3g f1;obtain⟨op,ins,shape,a,nv,how,note⟩:=nd;simp only at f1 f2 o1 o2 h1;have HN:=h;obtain⟨A,na,ca,B,nb,cb,C,nc,cc,rfl,hL⟩:=h;replace HN:=Hd HN;obtain⟨hia,hib,hic,hA,hB,hC,hfo,hfx,hfh,hnote⟩:=hL;simp only at hA hB hC hfo hfx hfh;have g1:=((((Sep.nil w).old hC).old hB).allocBox w.heap.size 49 [.int .i64 op,.slice A na ca,.slice B nb cb,.slice C nc cc,.int .i64 nv,.int .i64 how,.string note] rfl).allocBox (w.heap.size+1) 89 [.slice none 0 0,.slice none 0 0] (by simp);have HBL:=Hd hB.len;have HCL:=Hd hC.len;have hnbl:=hB.le;have hncl:=hC.le;have HFX:=Hd hfx;have HT:=Hd hT;have HC:=Hd hC;have HR:=Hd hr;have HTK:=Hd f2;have HTL:=Hd hT.1;obtain⟨r,hwr⟩:∃ r,a0w (⟨op,ins,shape,a,nv,how,note⟩:a0l) L=r:=⟨_,rfl⟩;rw[hwr];have HW:=Hd hwr;clear hA hB hC hT hr hf f1 f2 hfo hfx hfh hnote hwr
 go_enter func50,ntmps50
 go_upto_region 1 with fail
 generalize (w.alloc (.cells #[.int .i64 op,.slice A na ca,.slice B nb cb,.slice C nc cc,.int .i64 nv,.int .i64 how,.string note] 49)).alloc (.cells #[.slice none 0 0,.slice none 0 0] 89)=W at *;have H:=Hd g1;clear g1;have hcase:op=2∨op=3∨op=4∨op=5∨(6≤op∧op≤11)∨op=12∨op=13∨op=14∨op=15∨op=16∨op=17∨op=18∨op=19∨op=20:=by omega
 clear o1 o2 h1;rcases hcase with rfl|rfl|rfl|rfl|⟨e1,e2⟩|rfl|rfl|rfl|rfl|rfl|rfl|rfl|rfl|rfl
 ·have hl:(L.length:Int)=0:=HTK.out (by decide);obtain rfl:=List.eq_nil_of_length_eq_zero (show L.length=0 by omega);have hw0:(if Sh.right shape=true then((0:Int),shape,List.replicate (Sh.size shape).toNat nv) else refused 13)=r:=by rw[←HW.out];unfold a0w;rw[iP rfl]
  cases hr:Sh.right shape with
  | false =>
   rw[hr] at hw0;obtain rfl:=hw0;obtain⟨n0,n1,n2,n3,n4,n5,n6⟩:=H.cells7 1 rfl;have CR:=a0r (c:=cb) (H.oldInts 2 rfl);rw[hr] at CR
   go_wp2_with fail
   refine CR.mono ?_;rintro e2 w2 ⟨rfl,rfl⟩;clear CR;clear n0 n1 n2 n3 n4 n5 n6;obtain⟨r0,r1,fr0,fr1⟩:=H.b2 0;go_wp2
   exact sN2 H 0 13 results50
  | true =>
   rw[hr] at hw0;obtain rfl:=hw0;obtain⟨n0,n1,n2,n3,n4,n5,n6⟩:=H.cells7 1 rfl;have CR:=a0r (c:=cb) (H.oldInts 2 rfl);rw[hr] at CR
   go_wp2_with fail
   refine CR.mono ?_;rintro e2 w2 ⟨rfl,rfl⟩;clear CR;have hn17:nb≤17592186044000:=by have:=(Sh.right_iff.1 hr).1;have:=HBL.out;omega
   go_wp2_with fail
   refine(a1t nv (H.oldInts 2 rfl) hn17 HFX).mono ?_;rintro e7 w7 ⟨⟨u7,rfl,hu7⟩,hb7⟩;obtain⟨S7,ns7,sc7,D7,nd7,dc7,rfl,H7,r0,r1,fr0,fr1,H8⟩:=H.aB 0 hb7 hu7;clear hu7 hb7 n0 n1 n2 n3 n4 n5 n6;go_wp2;exact sY2 H8 2 0 1 (.int .i64 0) results50
 ·have hl:(L.length:Int)=0:=HTK.out (by decide);obtain rfl:=List.eq_nil_of_length_eq_zero (show L.length=0 by omega);have hw0:(if Sh.right shape=true then(if a.length=1∧0≤a.getD 0 0∧a.getD 0 0<shape.length then((0:Int),shape,Sh.iota shape (a.getD 0 0).toNat) else refused 1) else refused 13)=r:=by have h9:=HW.out;unfold a0w at h9;simp only[] at h9;rw[iN (by decide),iP (by decide)] at h9;exact h9
  cases hr:Sh.right shape with
  | false =>
   rw[hr] at hw0;obtain rfl:=hw0;obtain⟨n0,n1,n2,n3,n4,n5,n6⟩:=H.cells7 1 rfl;have CR:=a0r (c:=cb) (H.oldInts 2 rfl);rw[hr] at CR
   go_wp2_with fail
   refine CR.mono ?_;rintro e2 w2 ⟨rfl,rfl⟩;clear CR;clear n0 n1 n2 n3 n4 n5 n6;obtain⟨r0,r1,fr0,fr1⟩:=H.b2 0;go_wp2
   exact sN2 H 0 13 results50
  | true =>
   rw[hr,iP rfl] at hw0;obtain⟨n0,n1,n2,n3,n4,n5,n6⟩:=H.cells7 1 rfl;have CR:=a0r (c:=cb) (H.oldInts 2 rfl);rw[hr] at CR
   go_wp2_with fail
   refine CR.mono ?_;rintro e2 w2 ⟨rfl,rfl⟩;clear CR;clear n0 n1 n2 n3 n4 n5 n6;by_cases hc:a.length=1
   ·have hnc:=Hd (show nc=1 by have h8:a.length=nc:=HCL.out;omega);have hn3:1≤nc:=by have:=hnc.out;omega
    obtain⟨pa,y0,hpC,hpb,hy0,hcy0,hfy0⟩:=HC.at_ (k:=0) (by omega);subst hpC;rw[show pa.add 0=pa by cases pa;rfl] at hcy0;have HY0:=Hd (show a.getD 0 0=y0 by rw[gD,hy0];rfl);clear hy0 hfy0;rw[HY0.out] at hw0;have hj0:(0:Int)<nc:=by omega
    have hl0:0<nc:=by omega
    by_cases hlo:0≤y0
    ·have d1:decide (y0<0)=false:=by simp;omega
     by_cases hhi:y0<shape.length
     ·rw[iP ⟨hc,hlo,hhi⟩] at hw0;obtain rfl:=hw0;have hhi2:y0<(nb:Int):=by have h5:shape.length=nb:=HBL.out;omega
      clear hc;have d2:decide ((nb:Int)≤y0)=false:=by simp;omega
      obtain⟨n0,n1,n2,n3,n4,n5,n6⟩:=H.cells7 1 rfl;have C1:Calls prog 78 #[.agg #[.int .i64 3,.slice A na ca,.slice B nb cb,.slice (some pa) nc cc,.int .i64 nv,.int .i64 how,.string note],.int .i64 (1)] W.drew fun e w7=>e=.returned (.bool true)∧Below W.drew.heap.size W.drew w7:=(a1a _ (HN.below H.drew.base)).mono fun _ _ ⟨he,hb⟩=>⟨he.trans (a0c (decide_eq_true (by have h8:a.length=nc:=HCL.out;have:=hnc.out;simp only;omega))),hb⟩
      have H0:=Hd H.drew
      go_upto_region 8 with fail
      clear n0 n1 n2 n3 n4 n5 n6;obtain⟨i0,i1,i2,i3,i4,i5,i6⟩:=H0.cells7 1 rfl;have i7:=H0.oldCell hpb hcy0;refine wp_region_held_drew (S:=(fun w'=>w'.cell? ⟨w.heap.size,0,none⟩=some (.int .i64 3)∧w'.cell? ⟨w.heap.size,1,none⟩=some (.slice A na ca)∧w'.cell? ⟨w.heap.size,2,none⟩=some (.slice B nb cb)∧w'.cell? ⟨w.heap.size,3,none⟩=some (.slice (some pa) nc cc)∧w'.cell? ⟨w.heap.size,4,none⟩=some (.int .i64 nv)∧w'.cell? ⟨w.heap.size,5,none⟩=some (.int .i64 how)∧w'.cell? ⟨w.heap.size,6,none⟩=some (.string note)∧w'.cell? pa=some (.int .i64 y0))) (by kernel_rfl) ?_ (fun hq_=>?_)
      ·exact⟨i0,i1,i2,i3,i4,i5,i6,i7⟩
      refine zV 0 hq_ ?_;refine e1 1 fun K hK=>?_
      first|(refine effU ?_ ?_;(focus rfl))|(go_simp;(go_at_call 78;refine C1.mono ?_;rintro e3 w3 ⟨rfl,hb3⟩;have H3:=Hd (H0.below hb3);obtain⟨m0,m1,m2,m3,m4,m5,m6⟩:=H3.cells7 1 rfl;have m7:=H3.oldCell hpb hcy0;clear hb3);go_wp2_with fail)
      refine zX hK (fun hq_=>?_) ⟨m0,m1,m2,m3,m4,m5,m6,m7⟩;refine zV 2 hq_ ?_;refine zV 3 hq_ ?_;refine zT 4 hq_ ?_;refine zT 5 hq_ ?_;refine zT 6 hq_ ?_;refine zT 7 hq_ ?_;refine zT 8 hq_ ?_;refine zV 9 hq_ ?_;refine zV 10 hq_ ?_;refine zT 11 hq_ ?_;refine zT 12 hq_ ?_;refine zT 13 hq_ ?_;refine zT 14 hq_ ?_;refine zT 15 hq_ ?_;refine zT 16 hq_ ?_;refine zT 17 hq_ ?_;refine zT 18 hq_ ?_;refine zV 19 hq_ ?_;refine dN ?_;replace H:=Hd H3;clear H3;obtain⟨ax,rfl⟩:=eZ hlo;rw[Int.toNat_natCast]
      go_upto_region 10 with fail
      obtain⟨n0,n1,n2,n3,n4,n5,n6⟩:=H.cells7 1 rfl
      go_upto_region 10 with fail
      have q0:=H.c 1 2;have q1:=H.c 1 3;have q2:=H.oldCell hpb hcy0
      go_region_held3 (fun w'=>w'.cell? ⟨w.heap.size,2,none⟩=some (.slice B nb cb)∧w'.cell? ⟨w.heap.size,3,none⟩=some (.slice (some pa) nc cc)∧w'.cell? pa=some (.int .i64 (ax:Int))) (go_keep)
       (first|(go_at_call 79;refine(c9m ax (H.drew.oldInts 2 rfl) hr (by omega)).mono ?_;rintro e7 w7 ⟨⟨u7,rfl,hu7⟩,hb7⟩;obtain⟨S7,ns7,sc7,D7,nd7,dc7,rfl,H7,r0,r1,fr0,fr1,H8⟩:=H.drew.aB 0 hb7 hu7;have m0:=H7.c 3 2;have m1:=H7.c 3 3;have m2:=H7.oldCell hpb hcy0;have k0:=H8.c 3 2;have k1:=H8.c 3 3;have k2:=H8.oldCell hpb hcy0;clear hu7 hb7))
      go_wp2;exact sY2 H8 2 0 1 (.int .i64 _) results50
     ·rw[iN (fun h=>hhi h.2.2)] at hw0;obtain rfl:=hw0;have hhi2:¬ y0<(nb:Int):=by have h5:shape.length=nb:=HBL.out;omega
      clear hc;have d2:decide ((nb:Int)≤y0)=true:=by simp;omega
      obtain⟨n0,n1,n2,n3,n4,n5,n6⟩:=H.cells7 1 rfl;have C1:Calls prog 78 #[.agg #[.int .i64 3,.slice A na ca,.slice B nb cb,.slice (some pa) nc cc,.int .i64 nv,.int .i64 how,.string note],.int .i64 (1)] W.drew fun e w7=>e=.returned (.bool true)∧Below W.drew.heap.size W.drew w7:=(a1a _ (HN.below H.drew.base)).mono fun _ _ ⟨he,hb⟩=>⟨he.trans (a0c (decide_eq_true (by have h8:a.length=nc:=HCL.out;have:=hnc.out;simp only;omega))),hb⟩
      have H0:=Hd H.drew
      go_upto_region 8 with fail
      clear n0 n1 n2 n3 n4 n5 n6;obtain⟨i0,i1,i2,i3,i4,i5,i6⟩:=H0.cells7 1 rfl;have i7:=H0.oldCell hpb hcy0;refine wp_region_held_drew (S:=(fun w'=>w'.cell? ⟨w.heap.size,0,none⟩=some (.int .i64 3)∧w'.cell? ⟨w.heap.size,1,none⟩=some (.slice A na ca)∧w'.cell? ⟨w.heap.size,2,none⟩=some (.slice B nb cb)∧w'.cell? ⟨w.heap.size,3,none⟩=some (.slice (some pa) nc cc)∧w'.cell? ⟨w.heap.size,4,none⟩=some (.int .i64 nv)∧w'.cell? ⟨w.heap.size,5,none⟩=some (.int .i64 how)∧w'.cell? ⟨w.heap.size,6,none⟩=some (.string note)∧w'.cell? pa=some (.int .i64 y0))) (by kernel_rfl) ?_ (fun hq_=>?_)
      ·exact⟨i0,i1,i2,i3,i4,i5,i6,i7⟩
      refine zV 0 hq_ ?_;refine e1 1 fun K hK=>?_
      first|(refine effU ?_ ?_;(focus rfl))|(go_simp;(go_at_call 78;refine C1.mono ?_;rintro e3 w3 ⟨rfl,hb3⟩;have H3:=Hd (H0.below hb3);obtain⟨m0,m1,m2,m3,m4,m5,m6⟩:=H3.cells7 1 rfl;have m7:=H3.oldCell hpb hcy0;clear hb3);go_wp2_with fail)
      refine zX hK (fun hq_=>?_) ⟨m0,m1,m2,m3,m4,m5,m6,m7⟩;refine zV 2 hq_ ?_;refine zV 3 hq_ ?_;refine zT 4 hq_ ?_;refine zT 5 hq_ ?_;refine zT 6 hq_ ?_;refine zT 7 hq_ ?_;refine zT 8 hq_ ?_;refine zV 9 hq_ ?_;refine zV 10 hq_ ?_;refine zT 11 hq_ ?_;refine zT 12 hq_ ?_;refine zT 13 hq_ ?_;refine zT 14 hq_ ?_;refine zT 15 hq_ ?_;refine zT 16 hq_ ?_;refine zT 17 hq_ ?_;refine zT 18 hq_ ?_;refine zV 19 hq_ ?_;refine dN ?_;replace H:=Hd H3;clear H3;obtain⟨r0,r1,fr0,fr1⟩:=H.b2 0;go_wp2;exact sN2 H 0 1 results50
    ·rw[iN (fun h=>hlo h.2.1)] at hw0;obtain rfl:=hw0;clear hc;have d1:decide (y0<0)=true:=by simp;omega
     obtain⟨n0,n1,n2,n3,n4,n5,n6⟩:=H.cells7 1 rfl;have C1:Calls prog 78 #[.agg #[.int .i64 3,.slice A na ca,.slice B nb cb,.slice (some pa) nc cc,.int .i64 nv,.int .i64 how,.string note],.int .i64 (1)] W.drew fun e w7=>e=.returned (.bool true)∧Below W.drew.heap.size W.drew w7:=(a1a _ (HN.below H.drew.base)).mono fun _ _ ⟨he,hb⟩=>⟨he.trans (a0c (decide_eq_true (by have h8:a.length=nc:=HCL.out;have:=hnc.out;simp only;omega))),hb⟩
     have H0:=Hd H.drew
     go_upto_region 8 with fail
     clear n0 n1 n2 n3 n4 n5 n6;obtain⟨i0,i1,i2,i3,i4,i5,i6⟩:=H0.cells7 1 rfl;have i7:=H0.oldCell hpb hcy0;refine wp_region_held_drew (S:=(fun w'=>w'.cell? ⟨w.heap.size,0,none⟩=some (.int .i64 3)∧w'.cell? ⟨w.heap.size,1,none⟩=some (.slice A na ca)∧w'.cell? ⟨w.heap.size,2,none⟩=some (.slice B nb cb)∧w'.cell? ⟨w.heap.size,3,none⟩=some (.slice (some pa) nc cc)∧w'.cell? ⟨w.heap.size,4,none⟩=some (.int .i64 nv)∧w'.cell? ⟨w.heap.size,5,none⟩=some (.int .i64 how)∧w'.cell? ⟨w.heap.size,6,none⟩=some (.string note)∧w'.cell? pa=some (.int .i64 y0))) (by kernel_rfl) ?_ (fun hq_=>?_)
     ·exact⟨i0,i1,i2,i3,i4,i5,i6,i7⟩
     refine zV 0 hq_ ?_;refine e1 1 fun K hK=>?_
     first|(refine effU ?_ ?_;(focus rfl))|(go_simp;(go_at_call 78;refine C1.mono ?_;rintro e3 w3 ⟨rfl,hb3⟩;have H3:=Hd (H0.below hb3);obtain⟨m0,m1,m2,m3,m4,m5,m6⟩:=H3.cells7 1 rfl;have m7:=H3.oldCell hpb hcy0;clear hb3);go_wp2_with fail)
     refine zX hK (fun hq_=>?_) ⟨m0,m1,m2,m3,m4,m5,m6,m7⟩;refine zV 2 hq_ ?_;refine zV 3 hq_ ?_;refine zT 4 hq_ ?_;refine zT 5 hq_ ?_;refine zT 6 hq_ ?_;refine zT 7 hq_ ?_;refine zT 8 hq_ ?_;refine zV 9 hq_ ?_;refine zV 10 hq_ ?_;refine zT 11 hq_ ?_;refine zT 12 hq_ ?_;refine zT 13 hq_ ?_;refine zT 14 hq_ ?_;refine zT 15 hq_ ?_;refine zT 16 hq_ ?_;refine zT 17 hq_ ?_;refine zT 18 hq_ ?_;refine zV 19 hq_ ?_;refine dN ?_;replace H:=Hd H3;clear H3;obtain⟨r0,r1,fr0,fr1⟩:=H.b2 0;go_wp2;exact sN2 H 0 1 results50
   ·rw[iN (fun h=>hc h.1)] at hw0;obtain rfl:=hw0;have hnc:=Hd (show ¬ nc=1 by have h8:a.length=nc:=HCL.out;omega);clear hc;obtain⟨n0,n1,n2,n3,n4,n5,n6⟩:=H.cells7 1 rfl;have C1:Calls prog 78 #[.agg #[.int .i64 3,.slice A na ca,.slice B nb cb,.slice C nc cc,.int .i64 nv,.int .i64 how,.string note],.int .i64 (1)] W.drew fun e w7=>e=.returned (.bool false)∧Below W.drew.heap.size W.drew w7:=(a1a _ (HN.below H.drew.base)).mono fun _ _ ⟨he,hb⟩=>⟨he.trans (a0c (decide_eq_false (by have h8:a.length=nc:=HCL.out;have:=hnc.out;simp only;omega))),hb⟩
    have H0:=Hd H.drew
    go_upto_region 8 with fail
    clear n0 n1 n2 n3 n4 n5 n6;obtain⟨i0,i1,i2,i3,i4,i5,i6⟩:=H0.cells7 1 rfl;refine wp_region_held_drew (S:=(fun w'=>w'.cell? ⟨w.heap.size,0,none⟩=some (.int .i64 3)∧w'.cell? ⟨w.heap.size,1,none⟩=some (.slice A na ca)∧w'.cell? ⟨w.heap.size,2,none⟩=some (.slice B nb cb)∧w'.cell? ⟨w.heap.size,3,none⟩=some (.slice C nc cc)∧w'.cell? ⟨w.heap.size,4,none⟩=some (.int .i64 nv)∧w'.cell? ⟨w.heap.size,5,none⟩=some (.int .i64 how)∧w'.cell? ⟨w.heap.size,6,none⟩=some (.string note))) (by kernel_rfl) ?_ (fun hq_=>?_)
    ·exact⟨i0,i1,i2,i3,i4,i5,i6⟩
    refine zV 0 hq_ ?_;refine e1 1 fun K hK=>?_
    first|(refine effU ?_ ?_;(focus rfl))|(go_simp;(go_at_call 78;refine C1.mono ?_;rintro e3 w3 ⟨rfl,hb3⟩;have H3:=Hd (H0.below hb3);obtain⟨m0,m1,m2,m3,m4,m5,m6⟩:=H3.cells7 1 rfl;clear hb3);go_wp2_with fail)
    refine zX hK (fun hq_=>?_) ⟨m0,m1,m2,m3,m4,m5,m6⟩;refine zV 2 hq_ ?_;refine zV 3 hq_ ?_;refine zT 4 hq_ ?_;refine zT 5 hq_ ?_;refine zT 6 hq_ ?_;refine zT 7 hq_ ?_;refine zT 8 hq_ ?_;refine zV 9 hq_ ?_;refine zV 10 hq_ ?_;refine zT 11 hq_ ?_;refine zT 12 hq_ ?_;refine zT 13 hq_ ?_;refine zT 14 hq_ ?_;refine zT 15 hq_ ?_;refine zT 16 hq_ ?_;refine zT 17 hq_ ?_;refine zT 18 hq_ ?_;refine zV 19 hq_ ?_;refine dN ?_;replace H:=Hd H3;clear H3;obtain⟨r0,r1,fr0,fr1⟩:=H.b2 0;go_wp2;exact sN2 H 0 1 results50
 ·have hl:(L.length:Int)=1:=HTK.out (by decide);obtain⟨x,rfl⟩:=len1 (show L.length=1 by omega);obtain rfl:oneR 4 x.1 x.2=r:=by rw[←HW.out];unfold a0w;simp only[];(repeat rw[iN (by decide)]);(try rw[iP (by decide)]);rfl
  obtain⟨at0,S0,sn0,sc0,D0,dn0,dc0,hAt,hbt,c00,c01,ht0⟩:=HT.zero_;subst hAt;have hn0:0<nt:=by have:=HTL.out;simp at this;omega
  obtain⟨n0,n1,n2,n3,n4,n5,n6⟩:=H.cells7 1 rfl
  go_upto_region 13 with fail
  have q0:=H.c 1 0;have q1:=H.oC c00 hbt;have q2:=H.oC c01 hbt
  go_region_held3 (fun w'=>w'.cell? ⟨w.heap.size,0,none⟩=some (.int .i64 4)∧w'.cell? at0=some (.slice S0 sn0 sc0)∧w'.cell? ⟨at0.block,at0.off+1,none⟩=some (.slice D0 dn0 dc0)) (go_keep)
   (first|(go_at_call 80;refine(b8y 4 (ht0.below H.drew.base)).mono ?_;rintro e7 w7 ⟨⟨u7,rfl,hu7⟩,hb7⟩;obtain⟨S7,ns7,sc7,D7,nd7,dc7,rfl,H7,r0,r1,fr0,fr1,H8⟩:=H.drew.aB 0 hb7 hu7;have m0:=H7.c 3 0;have m1:=H7.oC c00 hbt;have m2:=H7.oC c01 hbt;have k0:=H8.c 3 0;have k1:=H8.oC c00 hbt;have k2:=H8.oC c01 hbt;clear hu7 hb7))
  go_wp2;exact sY2 H8 2 0 1 (.int .i64 _) results50
 ·have hl:(L.length:Int)=1:=HTK.out (by decide);obtain⟨x,rfl⟩:=len1 (show L.length=1 by omega);obtain rfl:oneR 5 x.1 x.2=r:=by rw[←HW.out];unfold a0w;simp only[];(repeat rw[iN (by decide)]);(try rw[iP (by decide)]);rfl
  obtain⟨at0,S0,sn0,sc0,D0,dn0,dc0,hAt,hbt,c00,c01,ht0⟩:=HT.zero_;subst hAt;have hn0:0<nt:=by have:=HTL.out;simp at this;omega
  obtain⟨n0,n1,n2,n3,n4,n5,n6⟩:=H.cells7 1 rfl
  go_upto_region 13 with fail
  have q0:=H.c 1 0;have q1:=H.oC c00 hbt;have q2:=H.oC c01 hbt
  go_region_held3 (fun w'=>w'.cell? ⟨w.heap.size,0,none⟩=some (.int .i64 5)∧w'.cell? at0=some (.slice S0 sn0 sc0)∧w'.cell? ⟨at0.block,at0.off+1,none⟩=some (.slice D0 dn0 dc0)) (go_keep)
   (first|(go_at_call 80;refine(b8y 5 (ht0.below H.drew.base)).mono ?_;rintro e7 w7 ⟨⟨u7,rfl,hu7⟩,hb7⟩;obtain⟨S7,ns7,sc7,D7,nd7,dc7,rfl,H7,r0,r1,fr0,fr1,H8⟩:=H.drew.aB 0 hb7 hu7;have m0:=H7.c 3 0;have m1:=H7.oC c00 hbt;have m2:=H7.oC c01 hbt;have k0:=H8.c 3 0;have k1:=H8.oC c00 hbt;have k2:=H8.oC c01 hbt;clear hu7 hb7))
  go_wp2;exact sY2 H8 2 0 1 (.int .i64 _) results50
 ·have hl:(L.length:Int)=2:=(fun (h9:(a0j op).1=2)=>(by rw[←h9];exact HTK (by rw[h9];decide):(L.length:Int)=2)) (by rw[a0j,iN (by omega),iN (by omega),iN (by omega),iN (by omega),iP ⟨e1,e2⟩]);obtain⟨x,y,rfl⟩:=len2 (show L.length=2 by omega);obtain rfl:twoR op x.1 x.2 y.1 y.2=r:=by rw[←HW.out];unfold a0w;simp only[];(repeat rw[iN (by omega)]);rfl
  obtain⟨at0,S0,sn0,sc0,D0,dn0,dc0,hAt,hbt,c00,c01,ht0⟩:=HT.zero_;subst hAt;obtain⟨S1,sn1,sc1,D1,dn1,dc1,c10,c11,ht1⟩:=HT.at1 rfl;obtain⟨hn0,hn1⟩:0<nt∧1<nt:=by have:=HTL.out;simp at this;omega
  have hi1:(1:Int)<nt:=by omega
  have b2:(op==2)=false:=by simp;omega
  have b3:(op==3)=false:=by simp;omega
  have b4:(op==4)=false:=by simp;omega
  have b5:(op==5)=false:=by simp;omega
  have b12:(op==12)=false:=by simp;omega
  have b13:(op==13)=false:=by simp;omega
  have b14:(op==14)=false:=by simp;omega
  have b15:(op==15)=false:=by simp;omega
  have b16:(op==16)=false:=by simp;omega
  have b17:(op==17)=false:=by simp;omega
  have b18:(op==18)=false:=by simp;omega
  have b19:(op==19)=false:=by simp;omega
  have b20:(op==20)=false:=by simp;omega
  obtain⟨n0,n1,n2,n3,n4,n5,n6⟩:=H.cells7 1 rfl
  go_upto_region 41 with fail
  have q0:=H.c 1 0;have q1:=H.oC c00 hbt;have q2:=H.oC c01 hbt;have q3:=H.oC c10 hbt;have q4:=H.oC c11 hbt
  go_region_held3 (fun w'=>w'.cell? ⟨w.heap.size,0,none⟩=some (.int .i64 op)∧w'.cell? at0=some (.slice S0 sn0 sc0)∧w'.cell? ⟨at0.block,at0.off+1,none⟩=some (.slice D0 dn0 dc0)∧w'.cell? ⟨at0.block,at0.off+2,none⟩=some (.slice S1 sn1 sc1)∧w'.cell? ⟨at0.block,at0.off+2+1,none⟩=some (.slice D1 dn1 dc1)) (go_keep)
   (first|(go_at_call 90;refine(c9l op (ht0.below H.drew.base) (ht1.below H.drew.base)).mono ?_;rintro e7 w7 ⟨⟨u7,rfl,hu7⟩,hb7⟩;obtain⟨S7,ns7,sc7,D7,nd7,dc7,rfl,H7,r0,r1,fr0,fr1,H8⟩:=H.drew.aB 0 hb7 hu7;have m0:=H7.c 3 0;have m1:=H7.oC c00 hbt;have m2:=H7.oC c01 hbt;have m3:=H7.oC c10 hbt;have m4:=H7.oC c11 hbt;have k0:=H8.c 3 0;have k1:=H8.oC c00 hbt;have k2:=H8.oC c01 hbt;have k3:=H8.oC c10 hbt;have k4:=H8.oC c11 hbt;clear hu7 hb7))
  go_wp2;exact sY2 H8 2 0 1 (.int .i64 _) results50
 ·have hl:(L.length:Int)=3:=HTK.out (by decide);obtain⟨x,y,z,rfl⟩:=len3 (show L.length=3 by omega);obtain rfl:b4u x.1 x.2 y.1 y.2 z.1 z.2=r:=by rw[←HW.out];unfold a0w;simp only[];(repeat rw[iN (by decide)]);(try rw[iP (by decide)]);rfl
  obtain⟨at0,S0,sn0,sc0,D0,dn0,dc0,hAt,hbt,c00,c01,ht0⟩:=HT.zero_;subst hAt;obtain⟨S1,sn1,sc1,D1,dn1,dc1,c10,c11,ht1⟩:=HT.at1 rfl;obtain⟨S2,sn2,sc2,D2,dn2,dc2,c20,c21,ht2⟩:=HT.at2 rfl;obtain⟨hn0,hn1,hn2⟩:0<nt∧1<nt∧2<nt:=by have:=HTL.out;simp at this;omega
  have hi1:(1:Int)<nt:=by omega
  have hi2:(2:Int)<nt:=by omega
  obtain⟨n0,n1,n2,n3,n4,n5,n6⟩:=H.cells7 1 rfl
  go_upto_region 15 with fail
  have q0:=H.oC c00 hbt;have q1:=H.oC c01 hbt;have q2:=H.oC c10 hbt;have q3:=H.oC c11 hbt;have q4:=H.oC c20 hbt;have q5:=H.oC c21 hbt
  go_region_held3 (fun w'=>w'.cell? at0=some (.slice S0 sn0 sc0)∧w'.cell? ⟨at0.block,at0.off+1,none⟩=some (.slice D0 dn0 dc0)∧w'.cell? ⟨at0.block,at0.off+2,none⟩=some (.slice S1 sn1 sc1)∧w'.cell? ⟨at0.block,at0.off+2+1,none⟩=some (.slice D1 dn1 dc1)∧w'.cell? ⟨at0.block,at0.off+4,none⟩=some (.slice S2 sn2 sc2)∧w'.cell? ⟨at0.block,at0.off+4+1,none⟩=some (.slice D2 dn2 dc2)) (go_keep)
   (first|(go_at_call 81;refine(c6k (ht0.below H.drew.base) (ht1.below H.drew.base) (ht2.below H.drew.base)).mono ?_;rintro e7 w7 ⟨⟨u7,rfl,hu7⟩,hb7⟩;obtain⟨S7,ns7,sc7,D7,nd7,dc7,rfl,H7,r0,r1,fr0,fr1,H8⟩:=H.drew.aB 0 hb7 hu7;have m0:=H7.oC c00 hbt;have m1:=H7.oC c01 hbt;have m2:=H7.oC c10 hbt;have m3:=H7.oC c11 hbt;have m4:=H7.oC c20 hbt;have m5:=H7.oC c21 hbt;have k0:=H8.oC c00 hbt;have k1:=H8.oC c01 hbt;have k2:=H8.oC c10 hbt;have k3:=H8.oC c11 hbt;have k4:=H8.oC c20 hbt;have k5:=H8.oC c21 hbt;clear hu7 hb7))
  go_wp2;exact sY2 H8 2 0 1 (.int .i64 _) results50
 ·have hl:(L.length:Int)=1:=HTK.out (by decide);obtain⟨x,rfl⟩:=len1 (show L.length=1 by omega);obtain rfl:b3y x.1 x.2 a=r:=by rw[←HW.out];unfold a0w;simp only[];(repeat rw[iN (by decide)]);(try rw[iP (by decide)]);rfl
  obtain⟨at0,S0,sn0,sc0,D0,dn0,dc0,hAt,hbt,c00,c01,ht0⟩:=HT.zero_;subst hAt;have hn0:0<nt:=by have:=HTL.out;simp at this;omega
  obtain⟨n0,n1,n2,n3,n4,n5,n6⟩:=H.cells7 1 rfl
  go_upto_region 17 with fail
  have q0:=H.c 1 3;have q1:=H.oC c00 hbt;have q2:=H.oC c01 hbt
  go_region_held3 (fun w'=>w'.cell? ⟨w.heap.size,3,none⟩=some (.slice C nc cc)∧w'.cell? at0=some (.slice S0 sn0 sc0)∧w'.cell? ⟨at0.block,at0.off+1,none⟩=some (.slice D0 dn0 dc0)) (go_keep)
   (first|(go_at_call 82;refine(c6l (ht0.below H.drew.base) (H.drew.oldInts 3 rfl)).mono ?_;rintro e7 w7 ⟨⟨u7,rfl,hu7⟩,hb7⟩;obtain⟨S7,ns7,sc7,D7,nd7,dc7,rfl,H7,r0,r1,fr0,fr1,H8⟩:=H.drew.aB 0 hb7 hu7;have m0:=H7.c 3 3;have m1:=H7.oC c00 hbt;have m2:=H7.oC c01 hbt;have k0:=H8.c 3 3;have k1:=H8.oC c00 hbt;have k2:=H8.oC c01 hbt;clear hu7 hb7))
  go_wp2;exact sY2 H8 2 0 1 (.int .i64 _) results50
 ·have hl:(L.length:Int)=1:=HTK.out (by decide);obtain⟨x,rfl⟩:=len1 (show L.length=1 by omega);obtain rfl:spR x.1 x.2 shape a=r:=by rw[←HW.out];unfold a0w;simp only[];(repeat rw[iN (by decide)]);(try rw[iP (by decide)]);rfl
  obtain⟨at0,S0,sn0,sc0,D0,dn0,dc0,hAt,hbt,c00,c01,ht0⟩:=HT.zero_;subst hAt;have hn0:0<nt:=by have:=HTL.out;simp at this;omega
  obtain⟨n0,n1,n2,n3,n4,n5,n6⟩:=H.cells7 1 rfl
  go_upto_region 19 with fail
  have q0:=H.c 1 2;have q1:=H.c 1 3;have q2:=H.oC c00 hbt;have q3:=H.oC c01 hbt
  go_region_held3 (fun w'=>w'.cell? ⟨w.heap.size,2,none⟩=some (.slice B nb cb)∧w'.cell? ⟨w.heap.size,3,none⟩=some (.slice C nc cc)∧w'.cell? at0=some (.slice S0 sn0 sc0)∧w'.cell? ⟨at0.block,at0.off+1,none⟩=some (.slice D0 dn0 dc0)) (go_keep)
   (first|(go_at_call 83;refine(c0o (ht0.below H.drew.base) (H.drew.oldInts 2 rfl) (H.drew.oldInts 3 rfl)).mono ?_;rintro e7 w7 ⟨⟨u7,rfl,hu7⟩,hb7⟩;obtain⟨S7,ns7,sc7,D7,nd7,dc7,rfl,H7,r0,r1,fr0,fr1,H8⟩:=H.drew.aB 0 hb7 hu7;have m0:=H7.c 3 2;have m1:=H7.c 3 3;have m2:=H7.oC c00 hbt;have m3:=H7.oC c01 hbt;have k0:=H8.c 3 2;have k1:=H8.c 3 3;have k2:=H8.oC c00 hbt;have k3:=H8.oC c01 hbt;clear hu7 hb7))
  go_wp2;exact sY2 H8 2 0 1 (.int .i64 _) results50
 ·have hl:(L.length:Int)=1:=HTK.out (by decide);obtain⟨x,rfl⟩:=len1 (show L.length=1 by omega);have hw0:(if a.length=2*x.1.length then cutR x.1 x.2 (a.take x.1.length) (a.drop x.1.length) else refused 1)=r:=by rw[←HW.out];unfold a0w;simp only[];(repeat rw[iN (by decide)]);(try rw[iP (by decide)]);rfl
  obtain⟨at0,S0,sn0,sc0,D0,dn0,dc0,hAt,hbt,c00,c01,ht0⟩:=HT.zero_;subst hAt;have hn0:0<nt:=by have:=HTL.out;simp at this;omega
  obtain⟨hsn,hsc⟩:=d9c ht0;have hs4:sn0≤4:=by have:=(a3c (HR x (by simp))).1;omega
  have HSN:=Hd hsn;have q0:=H.oldCell hbt c00;have q1:=H.oC c01 hbt;obtain⟨n0,n1,n2,n3,n4,n5,n6⟩:=H.cells7 1 rfl;have hn1:a6i w _ _:=HN.out;clear hsn
  go_upto_region 23 with fail
  by_cases hc:a.length=2*x.1.length
  ·rw[iP hc] at hw0;obtain rfl:=hw0;have hnc:=Hd (show nc=2*sn0 by have h8:a.length=nc:=HCL.out;have:=HSN.out;omega);have C1:Calls prog 78 #[.agg #[.int .i64 15,.slice A na ca,.slice B nb cb,.slice C nc cc,.int .i64 nv,.int .i64 how,.string note],.int .i64 (2*(sn0:Int))] W fun e w7=>e=.returned (.bool true)∧Below W.heap.size W w7:=(a1a _ (HN.below H.base)).mono fun _ _ ⟨he,hb⟩=>⟨he.trans (a0c (decide_eq_true (by have h8:a.length=nc:=HCL.out;have:=hnc.out;simp only;omega))),hb⟩
   clear hn1 hc
   go_wp2_with fail
   refine C1.mono ?_;rintro e3 w3 ⟨rfl,hb3⟩;replace H:=Hd (H.below hb3);clear C1 hb3 n0 n1 n2 n3 n4 n5 n6 q0 q1;have hk:sn0≤nc:=by have:=hnc.out;omega
   have hsl1:=a7i HC hk hic;have hsl2:=b0m HC hk hic;obtain⟨A8,hA8⟩:∃ A8,dropA C cc sn0=A8:=⟨_,rfl⟩;have hI8:=HC.dropA hk hic;rw[hA8] at hsl2 hI8;have HI8:Hid (Ints w A8 (nc-sn0) (a.drop x.1.length)):=Hd (by rw[HSN.out];exact hI8);have HI7:Hid (Ints w C sn0 (a.take x.1.length)):=Hd (by rw[HSN.out];exact HC.take hk);clear hI8 hA8;obtain⟨n0,n1,n2,n3,n4,n5,n6⟩:=H.cells7 1 rfl;have q0:=H.oldCell hbt c00;have q1:=H.oC c01 hbt
   go_upto_region 26 with fail
   clear n0 n1 n2 n3 n4 n5 n6 q0 q1;obtain⟨n0,n1,n2,n3,n4,n5,n6⟩:=H.cells7 1 rfl
   go_upto_region 26 with fail
   have q0:=H.c 1 3;have q1:=H.oC c00 hbt;have q2:=H.oC c01 hbt
   go_region_held3 (fun w'=>w'.cell? ⟨w.heap.size,3,none⟩=some (.slice C nc cc)∧w'.cell? at0=some (.slice S0 sn0 sc0)∧w'.cell? ⟨at0.block,at0.off+1,none⟩=some (.slice D0 dn0 dc0)) (go_keep)
    (first|(go_at_call 84;refine(c3s (ht0.below H.drew.base) (HI7.below H.drew.base) (HI8.below H.drew.base)).mono ?_;rintro e7 w7 ⟨⟨u7,rfl,hu7⟩,hb7⟩;obtain⟨S7,ns7,sc7,D7,nd7,dc7,rfl,H7,r0,r1,fr0,fr1,H8⟩:=H.drew.aB 0 hb7 hu7;have m0:=H7.c 3 3;have m1:=H7.oC c00 hbt;have m2:=H7.oC c01 hbt;have k0:=H8.c 3 3;have k1:=H8.oC c00 hbt;have k2:=H8.oC c01 hbt;clear hu7 hb7))
   go_wp2;exact sY2 H8 2 0 1 (.int .i64 _) results50
  ·rw[iN hc] at hw0;obtain rfl:=hw0;have hnc:=Hd (show ¬ nc=2*sn0 by have h8:a.length=nc:=HCL.out;have:=HSN.out;omega);have C1:Calls prog 78 #[.agg #[.int .i64 15,.slice A na ca,.slice B nb cb,.slice C nc cc,.int .i64 nv,.int .i64 how,.string note],.int .i64 (2*(sn0:Int))] W fun e w7=>e=.returned (.bool false)∧Below W.heap.size W w7:=(a1a _ (HN.below H.base)).mono fun _ _ ⟨he,hb⟩=>⟨he.trans (a0c (decide_eq_false (by have h8:a.length=nc:=HCL.out;have:=hnc.out;simp only;omega))),hb⟩
   clear hn1 hc
   go_wp2_with fail
   refine C1.mono ?_;rintro e3 w3 ⟨rfl,hb3⟩;replace H:=Hd (H.below hb3);clear C1 hb3 n0 n1 n2 n3 n4 n5 n6 q0 q1;obtain⟨r0,r1,fr0,fr1⟩:=H.b2 0;go_wp2;exact sN2 H 0 1 results50
 ·have hl:(L.length:Int)=1:=HTK.out (by decide);obtain⟨x,rfl⟩:=len1 (show L.length=1 by omega);have hw0:(if a.length=2*x.1.length then padR x.1 x.2 (a.take x.1.length) (a.drop x.1.length) nv else refused 1)=r:=by rw[←HW.out];unfold a0w;simp only[];(repeat rw[iN (by decide)]);(try rw[iP (by decide)]);rfl
  obtain⟨at0,S0,sn0,sc0,D0,dn0,dc0,hAt,hbt,c00,c01,ht0⟩:=HT.zero_;subst hAt;have hn0:0<nt:=by have:=HTL.out;simp at this;omega
  obtain⟨hsn,hsc⟩:=d9c ht0;have hs4:sn0≤4:=by have:=(a3c (HR x (by simp))).1;omega
  have HSN:=Hd hsn;have q0:=H.oldCell hbt c00;have q1:=H.oC c01 hbt;obtain⟨n0,n1,n2,n3,n4,n5,n6⟩:=H.cells7 1 rfl;have hn1:a6i w _ _:=HN.out;clear hsn
  go_upto_region 23 with fail
  by_cases hc:a.length=2*x.1.length
  ·rw[iP hc] at hw0;obtain rfl:=hw0;have hnc:=Hd (show nc=2*sn0 by have h8:a.length=nc:=HCL.out;have:=HSN.out;omega);have C1:Calls prog 78 #[.agg #[.int .i64 16,.slice A na ca,.slice B nb cb,.slice C nc cc,.int .i64 nv,.int .i64 how,.string note],.int .i64 (2*(sn0:Int))] W fun e w7=>e=.returned (.bool true)∧Below W.heap.size W w7:=(a1a _ (HN.below H.base)).mono fun _ _ ⟨he,hb⟩=>⟨he.trans (a0c (decide_eq_true (by have h8:a.length=nc:=HCL.out;have:=hnc.out;simp only;omega))),hb⟩
   clear hn1 hc
   go_wp2_with fail
   refine C1.mono ?_;rintro e3 w3 ⟨rfl,hb3⟩;replace H:=Hd (H.below hb3);clear C1 hb3 n0 n1 n2 n3 n4 n5 n6 q0 q1;have hk:sn0≤nc:=by have:=hnc.out;omega
   have hsl1:=a7i HC hk hic;have hsl2:=b0m HC hk hic;obtain⟨A8,hA8⟩:∃ A8,dropA C cc sn0=A8:=⟨_,rfl⟩;have hI8:=HC.dropA hk hic;rw[hA8] at hsl2 hI8;have HI8:Hid (Ints w A8 (nc-sn0) (a.drop x.1.length)):=Hd (by rw[HSN.out];exact hI8);have HI7:Hid (Ints w C sn0 (a.take x.1.length)):=Hd (by rw[HSN.out];exact HC.take hk);clear hI8 hA8;obtain⟨n0,n1,n2,n3,n4,n5,n6⟩:=H.cells7 1 rfl;have q0:=H.oldCell hbt c00;have q1:=H.oC c01 hbt
   go_upto_region 27 with fail
   clear n0 n1 n2 n3 n4 n5 n6 q0 q1;obtain⟨n0,n1,n2,n3,n4,n5,n6⟩:=H.cells7 1 rfl
   go_upto_region 27 with fail
   have q0:=H.c 1 3;have q1:=H.c 1 4;have q2:=H.oC c00 hbt;have q3:=H.oC c01 hbt
   go_region_held3 (fun w'=>w'.cell? ⟨w.heap.size,3,none⟩=some (.slice C nc cc)∧w'.cell? ⟨w.heap.size,4,none⟩=some (.int .i64 nv)∧w'.cell? at0=some (.slice S0 sn0 sc0)∧w'.cell? ⟨at0.block,at0.off+1,none⟩=some (.slice D0 dn0 dc0)) (go_keep)
    (first|(go_at_call 85;refine(c9k _ (ht0.below H.drew.base) (HI7.below H.drew.base) (HI8.below H.drew.base) HFX).mono ?_;rintro e7 w7 ⟨⟨u7,rfl,hu7⟩,hb7⟩;obtain⟨S7,ns7,sc7,D7,nd7,dc7,rfl,H7,r0,r1,fr0,fr1,H8⟩:=H.drew.aB 0 hb7 hu7;have m0:=H7.c 3 3;have m1:=H7.c 3 4;have m2:=H7.oC c00 hbt;have m3:=H7.oC c01 hbt;have k0:=H8.c 3 3;have k1:=H8.c 3 4;have k2:=H8.oC c00 hbt;have k3:=H8.oC c01 hbt;clear hu7 hb7))
   go_wp2;exact sY2 H8 2 0 1 (.int .i64 _) results50
  ·rw[iN hc] at hw0;obtain rfl:=hw0;have hnc:=Hd (show ¬ nc=2*sn0 by have h8:a.length=nc:=HCL.out;have:=HSN.out;omega);have C1:Calls prog 78 #[.agg #[.int .i64 16,.slice A na ca,.slice B nb cb,.slice C nc cc,.int .i64 nv,.int .i64 how,.string note],.int .i64 (2*(sn0:Int))] W fun e w7=>e=.returned (.bool false)∧Below W.heap.size W w7:=(a1a _ (HN.below H.base)).mono fun _ _ ⟨he,hb⟩=>⟨he.trans (a0c (decide_eq_false (by have h8:a.length=nc:=HCL.out;have:=hnc.out;simp only;omega))),hb⟩
   clear hn1 hc
   go_wp2_with fail
   refine C1.mono ?_;rintro e3 w3 ⟨rfl,hb3⟩;replace H:=Hd (H.below hb3);clear C1 hb3 n0 n1 n2 n3 n4 n5 n6 q0 q1;obtain⟨r0,r1,fr0,fr1⟩:=H.b2 0;go_wp2;exact sN2 H 0 1 results50
 ·have hw0:(if a.length=1 then a9t (a.getD 0 0) L else refused 1)=r:=by rw[←HW.out];unfold a0w;simp only[];(repeat rw[iN (by decide)]);(try rw[iP (by decide)]);rfl
  obtain⟨n0,n1,n2,n3,n4,n5,n6⟩:=H.cells7 1 rfl
  go_upto_region 30 with fail
  by_cases hc:a.length=1
  ·rw[iP hc] at hw0;have hnc:=Hd (show nc=1 by have h8:a.length=nc:=HCL.out;omega);have C1:Calls prog 78 #[.agg #[.int .i64 17,.slice A na ca,.slice B nb cb,.slice C nc cc,.int .i64 nv,.int .i64 how,.string note],.int .i64 (1)] W fun e w7=>e=.returned (.bool true)∧Below W.heap.size W w7:=(a1a _ (HN.below H.base)).mono fun _ _ ⟨he,hb⟩=>⟨he.trans (a0c (decide_eq_true (by have h8:a.length=nc:=HCL.out;have:=hnc.out;simp only;omega))),hb⟩
   go_wp2_with fail
   refine C1.mono ?_;rintro e3 w3 ⟨rfl,hb3⟩;replace H:=Hd (H.below hb3);clear C1 hb3 hc n0 n1 n2 n3 n4 n5 n6;have hn3:1≤nc:=by have:=hnc.out;omega
   obtain⟨pa,y0,hpC,hpb,hy0,hcy0,hfy0⟩:=HC.at_ (k:=0) (by omega);subst hpC;rw[show pa.add 0=pa by cases pa;rfl] at hcy0;have HY0:=Hd (show a.getD 0 0=y0 by rw[gD,hy0];rfl);clear hy0 hfy0;rw[HY0.out] at hw0;obtain rfl:=hw0;have hj0:(0:Int)<nc:=by omega
   have hl0:0<nc:=by omega
   obtain⟨n0,n1,n2,n3,n4,n5,n6⟩:=H.cells7 1 rfl
   go_upto_region 33 with fail
   clear n0 n1 n2 n3 n4 n5 n6;obtain⟨n0,n1,n2,n3,n4,n5,n6⟩:=H.cells7 1 rfl;have q0:=H.oldCell hpb hcy0
   go_wp2_with fail
   refine(c6j y0 (HT.below H.base)).mono ?_;rintro e7 w7 ⟨⟨u7,rfl,hu7⟩,hb7⟩;obtain⟨S7,ns7,sc7,D7,nd7,dc7,rfl,H7,r0,r1,fr0,fr1,H8⟩:=H.aB 0 hb7 hu7;clear hu7 hb7 n0 n1 n2 n3 n4 n5 n6;go_wp2;exact sY2 H8 2 0 1 (.int .i64 _) results50
  ·rw[iN hc] at hw0;obtain rfl:=hw0;have hnc:=Hd (show ¬ nc=1 by have h8:a.length=nc:=HCL.out;omega);have C1:Calls prog 78 #[.agg #[.int .i64 17,.slice A na ca,.slice B nb cb,.slice C nc cc,.int .i64 nv,.int .i64 how,.string note],.int .i64 (1)] W fun e w7=>e=.returned (.bool false)∧Below W.heap.size W w7:=(a1a _ (HN.below H.base)).mono fun _ _ ⟨he,hb⟩=>⟨he.trans (a0c (decide_eq_false (by have h8:a.length=nc:=HCL.out;have:=hnc.out;simp only;omega))),hb⟩
   go_wp2_with fail
   refine C1.mono ?_;rintro e3 w3 ⟨rfl,hb3⟩;replace H:=Hd (H.below hb3);clear C1 hb3 hc n0 n1 n2 n3 n4 n5 n6;obtain⟨r0,r1,fr0,fr1⟩:=H.b2 0;go_wp2;exact sN2 H 0 1 results50
 ·have hl:(L.length:Int)=1:=HTK.out (by decide);obtain⟨x,rfl⟩:=len1 (show L.length=1 by omega);obtain rfl:a8w how x.1 x.2 a=r:=by rw[←HW.out];unfold a0w;simp only[];(repeat rw[iN (by decide)]);(try rw[iP (by decide)]);rfl
  obtain⟨at0,S0,sn0,sc0,D0,dn0,dc0,hAt,hbt,c00,c01,ht0⟩:=HT.zero_;subst hAt;have hn0:0<nt:=by have:=HTL.out;simp at this;omega
  obtain⟨n0,n1,n2,n3,n4,n5,n6⟩:=H.cells7 1 rfl
  go_upto_region 36 with fail
  have q0:=H.c 1 3;have q1:=H.c 1 5;have q2:=H.oC c00 hbt;have q3:=H.oC c01 hbt
  go_region_held3 (fun w'=>w'.cell? ⟨w.heap.size,3,none⟩=some (.slice C nc cc)∧w'.cell? ⟨w.heap.size,5,none⟩=some (.int .i64 how)∧w'.cell? at0=some (.slice S0 sn0 sc0)∧w'.cell? ⟨at0.block,at0.off+1,none⟩=some (.slice D0 dn0 dc0)) (go_keep)
   (first|(go_at_call 88;refine(c6m how (ht0.below H.drew.base) (H.drew.oldInts 3 rfl)).mono ?_;rintro e7 w7 ⟨⟨u7,rfl,hu7⟩,hb7⟩;obtain⟨S7,ns7,sc7,D7,nd7,dc7,rfl,H7,r0,r1,fr0,fr1,H8⟩:=H.drew.aB 0 hb7 hu7;have m0:=H7.c 3 3;have m1:=H7.c 3 5;have m2:=H7.oC c00 hbt;have m3:=H7.oC c01 hbt;have k0:=H8.c 3 3;have k1:=H8.c 3 5;have k2:=H8.oC c00 hbt;have k3:=H8.oC c01 hbt;clear hu7 hb7))
  go_wp2;exact sY2 H8 2 0 1 (.int .i64 _) results50
 ·have hl:(L.length:Int)=2:=HTK.out (by decide);obtain⟨x,y,rfl⟩:=len2 (show L.length=2 by omega);have hw0:(if a.length=1 then dotR x.1 x.2 y.1 y.2 (a.getD 0 0) else refused 1)=r:=by rw[←HW.out];unfold a0w;simp only[];(repeat rw[iN (by decide)]);(try rw[iP (by decide)]);rfl
  obtain⟨at0,S0,sn0,sc0,D0,dn0,dc0,hAt,hbt,c00,c01,ht0⟩:=HT.zero_;subst hAt;obtain⟨S1,sn1,sc1,D1,dn1,dc1,c10,c11,ht1⟩:=HT.at1 rfl;obtain⟨hn0,hn1⟩:0<nt∧1<nt:=by have:=HTL.out;simp at this;omega
  have hi1:(1:Int)<nt:=by omega
  obtain⟨n0,n1,n2,n3,n4,n5,n6⟩:=H.cells7 1 rfl
  go_upto_region 30 with fail
  by_cases hc:a.length=1
  ·rw[iP hc] at hw0;have hnc:=Hd (show nc=1 by have h8:a.length=nc:=HCL.out;omega);have C1:Calls prog 78 #[.agg #[.int .i64 19,.slice A na ca,.slice B nb cb,.slice C nc cc,.int .i64 nv,.int .i64 how,.string note],.int .i64 (1)] W fun e w7=>e=.returned (.bool true)∧Below W.heap.size W w7:=(a1a _ (HN.below H.base)).mono fun _ _ ⟨he,hb⟩=>⟨he.trans (a0c (decide_eq_true (by have h8:a.length=nc:=HCL.out;have:=hnc.out;simp only;omega))),hb⟩
   go_wp2_with fail
   refine C1.mono ?_;rintro e3 w3 ⟨rfl,hb3⟩;replace H:=Hd (H.below hb3);clear C1 hb3 hc n0 n1 n2 n3 n4 n5 n6;have hn3:1≤nc:=by have:=hnc.out;omega
   obtain⟨pa,y0,hpC,hpb,hy0,hcy0,hfy0⟩:=HC.at_ (k:=0) (by omega);subst hpC;rw[show pa.add 0=pa by cases pa;rfl] at hcy0;have HY0:=Hd (show a.getD 0 0=y0 by rw[gD,hy0];rfl);clear hy0 hfy0;rw[HY0.out] at hw0;obtain rfl:=hw0;have hj0:(0:Int)<nc:=by omega
   have hl0:0<nc:=by omega
   obtain⟨n0,n1,n2,n3,n4,n5,n6⟩:=H.cells7 1 rfl
   go_upto_region 34 with fail
   clear n0 n1 n2 n3 n4 n5 n6;obtain⟨n0,n1,n2,n3,n4,n5,n6⟩:=H.cells7 1 rfl
   go_upto_region 34 with fail
   have q0:=H.c 1 3;have q1:=H.oC c00 hbt;have q2:=H.oC c01 hbt;have q3:=H.oC c10 hbt;have q4:=H.oC c11 hbt;have q5:=H.oC hcy0 hpb
   go_region_held3 (fun w'=>w'.cell? ⟨w.heap.size,3,none⟩=some (.slice (some pa) nc cc)∧w'.cell? at0=some (.slice S0 sn0 sc0)∧w'.cell? ⟨at0.block,at0.off+1,none⟩=some (.slice D0 dn0 dc0)∧w'.cell? ⟨at0.block,at0.off+2,none⟩=some (.slice S1 sn1 sc1)∧w'.cell? ⟨at0.block,at0.off+2+1,none⟩=some (.slice D1 dn1 dc1)∧w'.cell? pa=some (.int .i64 y0)) (go_keep)
    (first|(go_at_call 87;refine(d3s y0 (ht0.below H.drew.base) (ht1.below H.drew.base)).mono ?_;rintro e7 w7 ⟨⟨u7,rfl,hu7⟩,hb7⟩;obtain⟨S7,ns7,sc7,D7,nd7,dc7,rfl,H7,r0,r1,fr0,fr1,H8⟩:=H.drew.aB 0 hb7 hu7;have m0:=H7.c 3 3;have m1:=H7.oC c00 hbt;have m2:=H7.oC c01 hbt;have m3:=H7.oC c10 hbt;have m4:=H7.oC c11 hbt;have m5:=H7.oC hcy0 hpb;have k0:=H8.c 3 3;have k1:=H8.oC c00 hbt;have k2:=H8.oC c01 hbt;have k3:=H8.oC c10 hbt;have k4:=H8.oC c11 hbt;have k5:=H8.oC hcy0 hpb;clear hu7 hb7))
   go_wp2;exact sY2 H8 2 0 1 (.int .i64 _) results50
  ·rw[iN hc] at hw0;obtain rfl:=hw0;have hnc:=Hd (show ¬ nc=1 by have h8:a.length=nc:=HCL.out;omega);have C1:Calls prog 78 #[.agg #[.int .i64 19,.slice A na ca,.slice B nb cb,.slice C nc cc,.int .i64 nv,.int .i64 how,.string note],.int .i64 (1)] W fun e w7=>e=.returned (.bool false)∧Below W.heap.size W w7:=(a1a _ (HN.below H.base)).mono fun _ _ ⟨he,hb⟩=>⟨he.trans (a0c (decide_eq_false (by have h8:a.length=nc:=HCL.out;have:=hnc.out;simp only;omega))),hb⟩
   go_wp2_with fail
   refine C1.mono ?_;rintro e3 w3 ⟨rfl,hb3⟩;replace H:=Hd (H.below hb3);clear C1 hb3 hc n0 n1 n2 n3 n4 n5 n6;obtain⟨r0,r1,fr0,fr1⟩:=H.b2 0;go_wp2;exact sN2 H 0 1 results50
 ·have hl:(L.length:Int)=1:=HTK.out (by decide);obtain⟨x,rfl⟩:=len1 (show L.length=1 by omega);have hw0:(if a.length=3 then winR how x.1 x.2 (a.getD 0 0) (a.getD 1 0) (a.getD 2 0) else refused 1)=r:=by rw[←HW.out];unfold a0w;simp only[];(repeat rw[iN (by decide)]);(try rw[iP (by decide)]);rfl
  obtain⟨at0,S0,sn0,sc0,D0,dn0,dc0,hAt,hbt,c00,c01,ht0⟩:=HT.zero_;subst hAt;have hn0:0<nt:=by have:=HTL.out;simp at this;omega
  obtain⟨n0,n1,n2,n3,n4,n5,n6⟩:=H.cells7 1 rfl
  go_upto_region 38 with fail
  by_cases hc:a.length=3
  ·rw[iP hc] at hw0;have hnc:=Hd (show nc=3 by have h8:a.length=nc:=HCL.out;omega);have C1:Calls prog 78 #[.agg #[.int .i64 20,.slice A na ca,.slice B nb cb,.slice C nc cc,.int .i64 nv,.int .i64 how,.string note],.int .i64 (3)] W fun e w7=>e=.returned (.bool true)∧Below W.heap.size W w7:=(a1a _ (HN.below H.base)).mono fun _ _ ⟨he,hb⟩=>⟨he.trans (a0c (decide_eq_true (by have h8:a.length=nc:=HCL.out;have:=hnc.out;simp only;omega))),hb⟩
   go_wp2_with fail
   refine C1.mono ?_;rintro e3 w3 ⟨rfl,hb3⟩;replace H:=Hd (H.below hb3);clear C1 hb3 hc n0 n1 n2 n3 n4 n5 n6;have hn3:3≤nc:=by have:=hnc.out;omega
   obtain⟨pa,y0,hpC,hpb,hy0,hcy0,hfy0⟩:=HC.at_ (k:=0) (by omega);subst hpC;rw[show pa.add 0=pa by cases pa;rfl] at hcy0;have HY0:=Hd (show a.getD 0 0=y0 by rw[gD,hy0];rfl);obtain⟨pa1,y1,hpC,_,hy1,hcy1,hfy1⟩:=HC.at_ (k:=1) (by omega);injection hpC with hpC
   subst hpC;simp[Addr.add] at hcy1;have HY1:=Hd (show a.getD 1 0=y1 by rw[gD,hy1];rfl);obtain⟨pa2,y2,hpC,_,hy2,hcy2,hfy2⟩:=HC.at_ (k:=2) (by omega);injection hpC with hpC
   subst hpC;simp[Addr.add] at hcy2;have HY2:=Hd (show a.getD 2 0=y2 by rw[gD,hy2];rfl);clear hy0 hfy0 hy1 hfy1 hy2 hfy2;rw[HY0.out,HY1.out,HY2.out] at hw0;obtain rfl:=hw0;have hj0:(0:Int)<nc:=by omega
   have hj1:(1:Int)<nc:=by omega
   have hj2:(2:Int)<nc:=by omega
   have hl0:0<nc:=by omega
   have hl1:1<nc:=by omega
   have hl2:2<nc:=by omega
   obtain⟨n0,n1,n2,n3,n4,n5,n6⟩:=H.cells7 1 rfl
   go_upto_region 40 with fail
   clear n0 n1 n2 n3 n4 n5 n6;obtain⟨n0,n1,n2,n3,n4,n5,n6⟩:=H.cells7 1 rfl
   go_upto_region 40 with fail
   have q0:=H.c 1 3;have q1:=H.c 1 5;have q2:=H.oC c00 hbt;have q3:=H.oC c01 hbt;have q4:=H.oC hcy0 hpb;have q5:=H.oC hcy1 hpb;have q6:=H.oC hcy2 hpb
   go_region_held3 (fun w'=>w'.cell? ⟨w.heap.size,3,none⟩=some (.slice (some pa) nc cc)∧w'.cell? ⟨w.heap.size,5,none⟩=some (.int .i64 how)∧w'.cell? at0=some (.slice S0 sn0 sc0)∧w'.cell? ⟨at0.block,at0.off+1,none⟩=some (.slice D0 dn0 dc0)∧w'.cell? pa=some (.int .i64 y0)∧w'.cell? ⟨pa.block,pa.off+1,none⟩=some (.int .i64 y1)∧w'.cell? ⟨pa.block,pa.off+2,none⟩=some (.int .i64 y2)) (go_keep)
    (first|(go_at_call 89;refine(c0q how y0 y1 y2 (ht0.below H.drew.base)).mono ?_;rintro e7 w7 ⟨⟨u7,rfl,hu7⟩,hb7⟩;obtain⟨S7,ns7,sc7,D7,nd7,dc7,rfl,H7,r0,r1,fr0,fr1,H8⟩:=H.drew.aB 0 hb7 hu7;have m0:=H7.c 3 3;have m1:=H7.c 3 5;have m2:=H7.oC c00 hbt;have m3:=H7.oC c01 hbt;have m4:=H7.oC hcy0 hpb;have m5:=H7.oC hcy1 hpb;have m6:=H7.oC hcy2 hpb;have k0:=H8.c 3 3;have k1:=H8.c 3 5;have k2:=H8.oC c00 hbt;have k3:=H8.oC c01 hbt;have k4:=H8.oC hcy0 hpb;have k5:=H8.oC hcy1 hpb;have k6:=H8.oC hcy2 hpb;clear hu7 hb7))
   go_wp2;exact sY2 H8 2 0 1 (.int .i64 _) results50
  ·rw[iN hc] at hw0;obtain rfl:=hw0;have hnc:=Hd (show ¬ nc=3 by have h8:a.length=nc:=HCL.out;omega);have C1:Calls prog 78 #[.agg #[.int .i64 20,.slice A na ca,.slice B nb cb,.slice C nc cc,.int .i64 nv,.int .i64 how,.string note],.int .i64 (3)] W fun e w7=>e=.returned (.bool false)∧Below W.heap.size W w7:=(a1a _ (HN.below H.base)).mono fun _ _ ⟨he,hb⟩=>⟨he.trans (a0c (decide_eq_false (by have h8:a.length=nc:=HCL.out;have:=hnc.out;simp only;omega))),hb⟩
   go_wp2_with fail
   refine C1.mono ?_;rintro e3 w3 ⟨rfl,hb3⟩;replace H:=Hd (H.below hb3);clear C1 hb3 hc n0 n1 n2 n3 n4 n5 n6;obtain⟨r0,r1,fr0,fr1⟩:=H.b2 0;go_wp2;exact sN2 H 0 1 results50
end Go.Proofs.YtdcmanhgekjhgaaGreatDoor
