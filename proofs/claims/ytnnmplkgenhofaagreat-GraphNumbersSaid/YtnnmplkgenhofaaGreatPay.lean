import Derived.Test.YtnnmplkgenhofaaGreatPax
set_option maxRecDepth 100000
set_option maxHeartbeats 12800000
namespace Go.Proofs.YtnnmplkgenhofaaGreat
open Go.RowKit
theorem work_2 {w:World} {v:Value} {nd:NodeV} {At:Option Addr} {nt ct:Nat} (hop:nd.op=2) (h:NodeIs w v nd) (hT:Tens w At nt []) :
  Calls Tryz.prog 37 #[v,.slice At nt ct] w (WorkPost w (if Sh.right nd.shape then(0,nd.shape,List.replicate (Sh.size nd.shape).toNat nd.n) else refused 13)):=by
 cases hr:Sh.right nd.shape with
 | false =>
  simp only[Bool.false_eq_true,if_false];obtain⟨op,ins,shape,a,nv,how,note⟩:=nd;simp only at hop;subst hop;have HN:=h;obtain⟨A,na,ca,B,nb,cb,C,nc,cc,rfl,hL⟩:=h;replace HN:=Hd HN;obtain⟨hia,hib,hic,hA,hB,hC,hfo,hfx,hfh,hnote⟩:=hL;simp only at hA hB hC hfo hfx hfh hnote;have h1:=((((Sep.nil w).old hC).old hB).allocBox w.heap.size 34 [.int .i64 2,.slice A na ca,.slice B nb cb,.slice C nc cc,.int .i64 nv,.int .i64 how,.string note] rfl).allocBox (w.heap.size+1) 71 [.slice none 0 0,.slice none 0 0] (by simp);have hbl:=hB.len;have hcl:=hC.len;have HBL:=Hd hbl;have HCL:=Hd hcl;have hnbl:=hB.le;have hncl:=hC.le;have HFX:=Hd hfx;have HT:=Hd hT;have HC:=Hd hC;clear hA hB hC hT hbl hcl hfx hnote
  go_enter Tryz.func37,Tryz.ntmps37
  go_upto_region 1 with fail
  generalize (w.alloc (.cells #[.int .i64 2,.slice A na ca,.slice B nb cb,.slice C nc cc,.int .i64 nv,.int .i64 how,.string note] 34)).alloc (.cells #[.slice none 0 0,.slice none 0 0] 71)=W at *;have H:=Hd h1;clear h1;simp only at hr;obtain⟨n0,n1,n2,n3,n4,n5,n6⟩:=H.out.cells7 1 rfl;have CR:=refRight_any (c:=cb) (H.out.oldInts 2 rfl);rw[hr] at CR
  go_wp2_with fail
  refine CR.mono ?_;rintro e2 w2 ⟨rfl,rfl⟩;clear CR;obtain ⟨r0,r1⟩:=H.out.z2 0 rfl;obtain ⟨fr0,fr1⟩:=H.out.f2 0 rfl;clear n0 n1 n2 n3 n4 n5 n6;go_wp2
  exact sep_ret2 ((H.out.setBox 0 0 (.slice none 0 0) rfl).setBox 0 1 (.slice none 0 0) rfl) 0 rfl (z:=.int .i64 13) Tryz.results37 rfl rfl rfl ⟨⟨_,rfl,_,_,0,0,rfl,OwnS.nil_ _ _ _,OwnS.nil_ _ _ _⟩,((H.out.setBox 0 0 (.slice none 0 0) rfl).setBox 0 1 (.slice none 0 0) rfl).base⟩
 | true =>
  simp only[if_true];obtain⟨op,ins,shape,a,nv,how,note⟩:=nd;simp only at hop;subst hop;have HN:=h;obtain⟨A,na,ca,B,nb,cb,C,nc,cc,rfl,hL⟩:=h;replace HN:=Hd HN;obtain⟨hia,hib,hic,hA,hB,hC,hfo,hfx,hfh,hnote⟩:=hL;simp only at hA hB hC hfo hfx hfh hnote;have h1:=((((Sep.nil w).old hC).old hB).allocBox w.heap.size 34 [.int .i64 2,.slice A na ca,.slice B nb cb,.slice C nc cc,.int .i64 nv,.int .i64 how,.string note] rfl).allocBox (w.heap.size+1) 71 [.slice none 0 0,.slice none 0 0] (by simp);have hbl:=hB.len;have hcl:=hC.len;have HBL:=Hd hbl;have HCL:=Hd hcl;have hnbl:=hB.le;have hncl:=hC.le;have HFX:=Hd hfx;have HT:=Hd hT;have HC:=Hd hC;clear hA hB hC hT hbl hcl hfx hnote
  go_enter Tryz.func37,Tryz.ntmps37
  go_upto_region 1 with fail
  generalize (w.alloc (.cells #[.int .i64 2,.slice A na ca,.slice B nb cb,.slice C nc cc,.int .i64 nv,.int .i64 how,.string note] 34)).alloc (.cells #[.slice none 0 0,.slice none 0 0] 71)=W at *;have H:=Hd h1;clear h1;simp only at hr;obtain⟨n0,n1,n2,n3,n4,n5,n6⟩:=H.out.cells7 1 rfl;have CR:=refRight_any (c:=cb) (H.out.oldInts 2 rfl);rw[hr] at CR
  go_wp2_with fail
  refine CR.mono ?_;rintro e2 w2 ⟨rfl,rfl⟩;clear CR;have hn17:nb≤17592186044000:=by have:=(Sh.right_iff.1 hr).1;have:=HBL.out;omega
  go_wp2_with fail
  refine(refFill_any nv (H.out.oldInts 2 rfl) hn17 HFX.out).mono ?_;rintro e7 w7 ⟨⟨u7,rfl,hu7⟩,hb7⟩;obtain⟨S7,ns7,sc7,D7,nd7,dc7,rfl,hs7,hd7,hsc7,hdc7,hle7,h7⟩:=H.out.addTen hb7 hu7;have H7:=Hd h7;obtain ⟨r0,r1⟩:=H7.out.z2 2 rfl;obtain ⟨fr0,fr1⟩:=H7.out.f2 2 rfl;have H8:=Hd ((H7.out.setBox 2 0 (.slice S7 ns7 sc7) rfl).setBox 2 1 (.slice D7 nd7 dc7) rfl);clear hu7 hb7 h7 hs7 hd7 n0 n1 n2 n3 n4 n5 n6;go_wp2;exact sep_ret2 H8.out 2 rfl (z:=.int .i64 0) Tryz.results37 rfl rfl rfl ⟨⟨_,rfl,_,_,ns7,nd7,rfl,H8.out.ownS 0 rfl,H8.out.ownS 1 rfl⟩,H8.out.base⟩
theorem work_3 {w:World} {v:Value} {nd:NodeV} {At:Option Addr} {nt ct:Nat} (hop:nd.op=3) (h:NodeIs w v nd) (hT:Tens w At nt []) :
  Calls Tryz.prog 37 #[v,.slice At nt ct] w (WorkPost w (if Sh.right nd.shape then(if nd.a.length=1∧0≤nd.a.getD 0 0∧nd.a.getD 0 0<nd.shape.length then(0,nd.shape,Sh.iota nd.shape (nd.a.getD 0 0).toNat) else refused 1) else refused 13)):=by
 cases hr:Sh.right nd.shape with
 | false =>
  simp only[Bool.false_eq_true,if_false];obtain⟨op,ins,shape,a,nv,how,note⟩:=nd;simp only at hop;subst hop;have HN:=h;obtain⟨A,na,ca,B,nb,cb,C,nc,cc,rfl,hL⟩:=h;replace HN:=Hd HN;obtain⟨hia,hib,hic,hA,hB,hC,hfo,hfx,hfh,hnote⟩:=hL;simp only at hA hB hC hfo hfx hfh hnote;have h1:=((((Sep.nil w).old hC).old hB).allocBox w.heap.size 34 [.int .i64 3,.slice A na ca,.slice B nb cb,.slice C nc cc,.int .i64 nv,.int .i64 how,.string note] rfl).allocBox (w.heap.size+1) 71 [.slice none 0 0,.slice none 0 0] (by simp);have hbl:=hB.len;have hcl:=hC.len;have HBL:=Hd hbl;have HCL:=Hd hcl;have hnbl:=hB.le;have hncl:=hC.le;have HFX:=Hd hfx;have HT:=Hd hT;have HC:=Hd hC;clear hA hB hC hT hbl hcl hfx hnote
  go_enter Tryz.func37,Tryz.ntmps37
  go_upto_region 1 with fail
  generalize (w.alloc (.cells #[.int .i64 3,.slice A na ca,.slice B nb cb,.slice C nc cc,.int .i64 nv,.int .i64 how,.string note] 34)).alloc (.cells #[.slice none 0 0,.slice none 0 0] 71)=W at *;have H:=Hd h1;clear h1;simp only at hr;obtain⟨n0,n1,n2,n3,n4,n5,n6⟩:=H.out.cells7 1 rfl;have CR:=refRight_any (c:=cb) (H.out.oldInts 2 rfl);rw[hr] at CR
  go_wp2_with fail
  refine CR.mono ?_;rintro e2 w2 ⟨rfl,rfl⟩;clear CR;obtain ⟨r0,r1⟩:=H.out.z2 0 rfl;obtain ⟨fr0,fr1⟩:=H.out.f2 0 rfl;clear n0 n1 n2 n3 n4 n5 n6;go_wp2
  exact sep_ret2 ((H.out.setBox 0 0 (.slice none 0 0) rfl).setBox 0 1 (.slice none 0 0) rfl) 0 rfl (z:=.int .i64 13) Tryz.results37 rfl rfl rfl ⟨⟨_,rfl,_,_,0,0,rfl,OwnS.nil_ _ _ _,OwnS.nil_ _ _ _⟩,((H.out.setBox 0 0 (.slice none 0 0) rfl).setBox 0 1 (.slice none 0 0) rfl).base⟩
 | true =>
  simp only[if_true];by_cases hc:nd.a.length=1
  ·obtain⟨g0,hg0⟩:∃ g,nd.a.getD 0 0=g:=⟨_,rfl⟩;rw[hg0];by_cases hlo:0≤g0
   ·by_cases hhi:g0<nd.shape.length
    ·rw[if_pos ⟨hc,hlo,hhi⟩];have HG0:=Hd hg0;clear hg0;obtain⟨op,ins,shape,a,nv,how,note⟩:=nd;simp only at hop;subst hop;have HN:=h;obtain⟨A,na,ca,B,nb,cb,C,nc,cc,rfl,hL⟩:=h;replace HN:=Hd HN;obtain⟨hia,hib,hic,hA,hB,hC,hfo,hfx,hfh,hnote⟩:=hL;simp only at hA hB hC hfo hfx hfh hnote;have h1:=((((Sep.nil w).old hC).old hB).allocBox w.heap.size 34 [.int .i64 3,.slice A na ca,.slice B nb cb,.slice C nc cc,.int .i64 nv,.int .i64 how,.string note] rfl).allocBox (w.heap.size+1) 71 [.slice none 0 0,.slice none 0 0] (by simp);have hbl:=hB.len;have hcl:=hC.len;have HBL:=Hd hbl;have HCL:=Hd hcl;have hnbl:=hB.le;have hncl:=hC.le;have HFX:=Hd hfx;have HT:=Hd hT;have HC:=Hd hC;clear hA hB hC hT hbl hcl hfx hnote
     go_enter Tryz.func37,Tryz.ntmps37
     go_upto_region 1 with fail
     generalize (w.alloc (.cells #[.int .i64 3,.slice A na ca,.slice B nb cb,.slice C nc cc,.int .i64 nv,.int .i64 how,.string note] 34)).alloc (.cells #[.slice none 0 0,.slice none 0 0] 71)=W at *;have H:=Hd h1;clear h1;simp only at hr hc hhi;have hnc:=Hd (show nc=1 by have:=HCL.out;omega);clear hc;have hn3:1≤nc:=by have:=hnc.out;omega
     obtain⟨pa,y0,hpC,hpb,hy0,hcy0,hfy0⟩:=HC.out.at_ (k:=0) (by omega);subst hpC;rw[show pa.add 0=pa by cases pa;rfl] at hcy0;have HY0:=Hd (show a.getD 0 0=y0 by rw[List.getD_eq_getElem?_getD,hy0];rfl);clear hy0 hfy0;obtain rfl:y0=g0:=HY0.out.symm.trans HG0.out;have hj0:(0:Int)<nc:=by omega
     have hl0:0<nc:=by omega
     have hhi2:y0<(nb:Int):=by have h5:shape.length=nb:=HBL.out;omega
     obtain⟨n0,n1,n2,n3,n4,n5,n6⟩:=H.out.cells7 1 rfl;have CR:=refRight_any (c:=cb) (H.out.oldInts 2 rfl);rw[hr] at CR
     go_wp2_with fail
     refine CR.mono ?_;rintro e2 w2 ⟨rfl,rfl⟩;clear CR;clear n0 n1 n2 n3 n4 n5 n6;have d1:decide (y0<0)=false:=by simp;omega
     have d2:decide ((nb:Int)≤y0)=false:=by simp;omega
     obtain⟨n0,n1,n2,n3,n4,n5,n6⟩:=H.out.cells7 1 rfl;have C1:Calls Tryz.prog 66 #[.agg #[.int .i64 3,.slice A na ca,.slice B nb cb,.slice (some pa) nc cc,.int .i64 nv,.int .i64 how,.string note],.int .i64 1] W.drew fun e w7=>e=.returned (.bool true)∧Below W.drew.heap.size W.drew w7:=(ref10Count_any _ (HN.out.below H.out.drew.base)).mono fun _ _ ⟨he,hb⟩=>⟨he.trans (ret_bool (decide_eq_true (by have h8:a.length=nc:=HCL.out;have:=hnc.out;simp only;omega))),hb⟩
     have H0:=Hd H.out.drew
     go_upto_region 8 with fail
     clear n0 n1 n2 n3 n4 n5 n6;obtain⟨i0,i1,i2,i3,i4,i5,i6⟩:=H0.out.cells7 1 rfl;have i7:=H0.out.oldCell hpb hcy0;refine wp_region_held_drew (S:=(fun w' => w'.cell? ⟨w.heap.size,0,none⟩=some (.int .i64 3)∧w'.cell? ⟨w.heap.size,1,none⟩=some (.slice A na ca)∧w'.cell? ⟨w.heap.size,2,none⟩=some (.slice B nb cb)∧w'.cell? ⟨w.heap.size,3,none⟩=some (.slice (some pa) nc cc)∧w'.cell? ⟨w.heap.size,4,none⟩=some (.int .i64 nv)∧w'.cell? ⟨w.heap.size,5,none⟩=some (.int .i64 how)∧w'.cell? ⟨w.heap.size,6,none⟩=some (.string note)∧w'.cell? pa=some (.int .i64 y0))) (by kernel_rfl) ?_ (fun hq_=>?_)
     ·exact⟨i0,i1,i2,i3,i4,i5,i6,i7⟩
     refine zW 0 hq_ ?_
     try simp only[pA]
     refine e1 1 fun K hK=>?_
     first|(refine effU ?_ ?_;(focus rfl))|(go_simp;(go_at_call 66;refine C1.mono ?_;rintro e3 w3 ⟨rfl,hb3⟩;have H3:=Hd (H0.out.below hb3);obtain ⟨m0,m1,m2,m3,m4,m5,m6⟩:=H3.out.cells7 1 rfl;have m7:=H3.out.oldCell hpb hcy0;clear hb3);go_wp2_with fail)
     refine zK hK ?_ ⟨m0,m1,m2,m3,m4,m5,m6,m7⟩;clear hK K hq_;intro hq_
     try simp only[pA]
     refine zW 2 hq_ ?_
     try simp only[pA]
     refine zW 3 hq_ ?_
     try simp only[pA]
     first|refine tU 4 hq_ ?_|refine zW 4 hq_ ?_
     try simp only[pA]
     first|refine tU 5 hq_ ?_|refine zW 5 hq_ ?_
     try simp only[pA]
     first|refine tU 6 hq_ ?_|refine zW 6 hq_ ?_
     try simp only[pA]
     first|refine tU 7 hq_ ?_|refine zW 7 hq_ ?_
     try simp only[pA]
     first|refine tU 8 hq_ ?_|refine zW 8 hq_ ?_
     try simp only[pA]
     refine zW 9 hq_ ?_
     try simp only[pA]
     refine zW 10 hq_ ?_
     try simp only[pA]
     first|refine tU 11 hq_ ?_|refine zW 11 hq_ ?_
     try simp only[pA]
     first|refine tU 12 hq_ ?_|refine zW 12 hq_ ?_
     try simp only[pA]
     first|refine tU 13 hq_ ?_|refine zW 13 hq_ ?_
     try simp only[pA]
     first|refine tU 14 hq_ ?_|refine zW 14 hq_ ?_
     try simp only[pA]
     first|refine tU 15 hq_ ?_|refine zW 15 hq_ ?_
     try simp only[pA]
     first|refine tU 16 hq_ ?_|refine zW 16 hq_ ?_
     try simp only[pA]
     first|refine tU 17 hq_ ?_|refine zW 17 hq_ ?_
     try simp only[pA]
     first|refine tU 18 hq_ ?_|refine zW 18 hq_ ?_
     try simp only[pA]
     refine zW 19 hq_ ?_
     try simp only[pA]
     refine wpAnyH_done (by kernel_rfl) ?_ _;replace H:=Hd H3.out;clear H3;obtain⟨ax,rfl⟩:=Int.eq_ofNat_of_zero_le hlo;rw[Int.toNat_natCast]
     go_upto_region 10 with fail
     obtain⟨n0,n1,n2,n3,n4,n5,n6⟩:=H.out.cells7 1 rfl
     go_upto_region 10 with fail
     have q0:=H.out.cell 1 2 rfl rfl;have q1:=H.out.cell 1 3 rfl rfl;have q2:=H.out.oldCell hpb hcy0
     go_region_held3 (fun w' => w'.cell? ⟨w.heap.size,2,none⟩=some (.slice B nb cb)∧w'.cell? ⟨w.heap.size,3,none⟩=some (.slice (some pa) nc cc)∧w'.cell? pa=some (.int .i64 (ax:Int))) (go_keep)
      (first|(go_at_call 67;refine(refIota_any ax (H.out.drew.oldInts 2 rfl) hr (by omega)).mono ?_;rintro e7 w7 ⟨⟨u7,rfl,hu7⟩,hb7⟩;obtain⟨S7,ns7,sc7,D7,nd7,dc7,rfl,hs7,hd7,hsc7,hdc7,hle7,h7⟩:=H.out.drew.addTen hb7 hu7;have H7:=Hd h7;have m0:=H7.out.cell 3 2 rfl rfl;have m1:=H7.out.cell 3 3 rfl rfl;have m2:=H7.out.oldCell hpb hcy0;obtain ⟨r0,r1⟩:=H7.out.z2 2 rfl;obtain ⟨fr0,fr1⟩:=H7.out.f2 2 rfl;have H8:=Hd ((H7.out.setBox 2 0 (.slice S7 ns7 sc7) rfl).setBox 2 1 (.slice D7 nd7 dc7) rfl);have k0:((w7.setCell ⟨w.heap.size+1,0,none⟩ (.slice S7 ns7 sc7)).setCell ⟨w.heap.size+1,1,none⟩ (.slice D7 nd7 dc7)).cell? ⟨w.heap.size,2,none⟩=some (.slice B nb cb):=H8.out.cell 3 2 rfl rfl;have k1:((w7.setCell ⟨w.heap.size+1,0,none⟩ (.slice S7 ns7 sc7)).setCell ⟨w.heap.size+1,1,none⟩ (.slice D7 nd7 dc7)).cell? ⟨w.heap.size,3,none⟩=some (.slice (some pa) nc cc):=H8.out.cell 3 3 rfl rfl;have k2:((w7.setCell ⟨w.heap.size+1,0,none⟩ (.slice S7 ns7 sc7)).setCell ⟨w.heap.size+1,1,none⟩ (.slice D7 nd7 dc7)).cell? pa=some (.int .i64 (ax:Int)):=H8.out.oldCell hpb hcy0;clear hu7 hb7 h7 hs7 hd7))
     go_wp2;exact sep_ret2 H8.out 2 rfl (z:=.int .i64 _) Tryz.results37 rfl rfl rfl ⟨⟨_,rfl,_,_,ns7,nd7,rfl,H8.out.ownS 0 rfl,H8.out.ownS 1 rfl⟩,H8.out.base⟩
    ·rw[if_neg (fun h=>hhi h.2.2)];have HG0:=Hd hg0;clear hg0;obtain⟨op,ins,shape,a,nv,how,note⟩:=nd;simp only at hop;subst hop;have HN:=h;obtain⟨A,na,ca,B,nb,cb,C,nc,cc,rfl,hL⟩:=h;replace HN:=Hd HN;obtain⟨hia,hib,hic,hA,hB,hC,hfo,hfx,hfh,hnote⟩:=hL;simp only at hA hB hC hfo hfx hfh hnote;have h1:=((((Sep.nil w).old hC).old hB).allocBox w.heap.size 34 [.int .i64 3,.slice A na ca,.slice B nb cb,.slice C nc cc,.int .i64 nv,.int .i64 how,.string note] rfl).allocBox (w.heap.size+1) 71 [.slice none 0 0,.slice none 0 0] (by simp);have hbl:=hB.len;have hcl:=hC.len;have HBL:=Hd hbl;have HCL:=Hd hcl;have hnbl:=hB.le;have hncl:=hC.le;have HFX:=Hd hfx;have HT:=Hd hT;have HC:=Hd hC;clear hA hB hC hT hbl hcl hfx hnote
     go_enter Tryz.func37,Tryz.ntmps37
     go_upto_region 1 with fail
     generalize (w.alloc (.cells #[.int .i64 3,.slice A na ca,.slice B nb cb,.slice C nc cc,.int .i64 nv,.int .i64 how,.string note] 34)).alloc (.cells #[.slice none 0 0,.slice none 0 0] 71)=W at *;have H:=Hd h1;clear h1;simp only at hr hc hhi;have hnc:=Hd (show nc=1 by have:=HCL.out;omega);clear hc;have hn3:1≤nc:=by have:=hnc.out;omega
     obtain⟨pa,y0,hpC,hpb,hy0,hcy0,hfy0⟩:=HC.out.at_ (k:=0) (by omega);subst hpC;rw[show pa.add 0=pa by cases pa;rfl] at hcy0;have HY0:=Hd (show a.getD 0 0=y0 by rw[List.getD_eq_getElem?_getD,hy0];rfl);clear hy0 hfy0;obtain rfl:y0=g0:=HY0.out.symm.trans HG0.out;have hj0:(0:Int)<nc:=by omega
     have hl0:0<nc:=by omega
     have hhi2:¬ y0<(nb:Int):=by have h5:shape.length=nb:=HBL.out;omega
     obtain⟨n0,n1,n2,n3,n4,n5,n6⟩:=H.out.cells7 1 rfl;have CR:=refRight_any (c:=cb) (H.out.oldInts 2 rfl);rw[hr] at CR
     go_wp2_with fail
     refine CR.mono ?_;rintro e2 w2 ⟨rfl,rfl⟩;clear CR;clear n0 n1 n2 n3 n4 n5 n6;have d1:decide (y0<0)=false:=by simp;omega
     have d2:decide ((nb:Int)≤y0)=true:=by simp;omega
     obtain⟨n0,n1,n2,n3,n4,n5,n6⟩:=H.out.cells7 1 rfl;have C1:Calls Tryz.prog 66 #[.agg #[.int .i64 3,.slice A na ca,.slice B nb cb,.slice (some pa) nc cc,.int .i64 nv,.int .i64 how,.string note],.int .i64 1] W.drew fun e w7=>e=.returned (.bool true)∧Below W.drew.heap.size W.drew w7:=(ref10Count_any _ (HN.out.below H.out.drew.base)).mono fun _ _ ⟨he,hb⟩=>⟨he.trans (ret_bool (decide_eq_true (by have h8:a.length=nc:=HCL.out;have:=hnc.out;simp only;omega))),hb⟩
     have H0:=Hd H.out.drew
     go_upto_region 8 with fail
     clear n0 n1 n2 n3 n4 n5 n6;obtain⟨i0,i1,i2,i3,i4,i5,i6⟩:=H0.out.cells7 1 rfl;have i7:=H0.out.oldCell hpb hcy0;refine wp_region_held_drew (S:=(fun w' => w'.cell? ⟨w.heap.size,0,none⟩=some (.int .i64 3)∧w'.cell? ⟨w.heap.size,1,none⟩=some (.slice A na ca)∧w'.cell? ⟨w.heap.size,2,none⟩=some (.slice B nb cb)∧w'.cell? ⟨w.heap.size,3,none⟩=some (.slice (some pa) nc cc)∧w'.cell? ⟨w.heap.size,4,none⟩=some (.int .i64 nv)∧w'.cell? ⟨w.heap.size,5,none⟩=some (.int .i64 how)∧w'.cell? ⟨w.heap.size,6,none⟩=some (.string note)∧w'.cell? pa=some (.int .i64 y0))) (by kernel_rfl) ?_ (fun hq_=>?_)
     ·exact⟨i0,i1,i2,i3,i4,i5,i6,i7⟩
     refine zW 0 hq_ ?_
     try simp only[pA]
     refine e1 1 fun K hK=>?_
     first|(refine effU ?_ ?_;(focus rfl))|(go_simp;(go_at_call 66;refine C1.mono ?_;rintro e3 w3 ⟨rfl,hb3⟩;have H3:=Hd (H0.out.below hb3);obtain ⟨m0,m1,m2,m3,m4,m5,m6⟩:=H3.out.cells7 1 rfl;have m7:=H3.out.oldCell hpb hcy0;clear hb3);go_wp2_with fail)
     refine zK hK ?_ ⟨m0,m1,m2,m3,m4,m5,m6,m7⟩;clear hK K hq_;intro hq_
     try simp only[pA]
     refine zW 2 hq_ ?_
     try simp only[pA]
     refine zW 3 hq_ ?_
     try simp only[pA]
     first|refine tU 4 hq_ ?_|refine zW 4 hq_ ?_
     try simp only[pA]
     first|refine tU 5 hq_ ?_|refine zW 5 hq_ ?_
     try simp only[pA]
     first|refine tU 6 hq_ ?_|refine zW 6 hq_ ?_
     try simp only[pA]
     first|refine tU 7 hq_ ?_|refine zW 7 hq_ ?_
     try simp only[pA]
     first|refine tU 8 hq_ ?_|refine zW 8 hq_ ?_
     try simp only[pA]
     refine zW 9 hq_ ?_
     try simp only[pA]
     refine zW 10 hq_ ?_
     try simp only[pA]
     first|refine tU 11 hq_ ?_|refine zW 11 hq_ ?_
     try simp only[pA]
     first|refine tU 12 hq_ ?_|refine zW 12 hq_ ?_
     try simp only[pA]
     first|refine tU 13 hq_ ?_|refine zW 13 hq_ ?_
     try simp only[pA]
     first|refine tU 14 hq_ ?_|refine zW 14 hq_ ?_
     try simp only[pA]
     first|refine tU 15 hq_ ?_|refine zW 15 hq_ ?_
     try simp only[pA]
     first|refine tU 16 hq_ ?_|refine zW 16 hq_ ?_
     try simp only[pA]
     first|refine tU 17 hq_ ?_|refine zW 17 hq_ ?_
     try simp only[pA]
     first|refine tU 18 hq_ ?_|refine zW 18 hq_ ?_
     try simp only[pA]
     refine zW 19 hq_ ?_
     try simp only[pA]
     refine wpAnyH_done (by kernel_rfl) ?_ _;replace H:=Hd H3.out;clear H3;obtain ⟨r0,r1⟩:=H.out.z2 0 rfl;obtain ⟨fr0,fr1⟩:=H.out.f2 0 rfl;go_wp2;exact sep_ret2 ((H.out.setBox 0 0 (.slice none 0 0) rfl).setBox 0 1 (.slice none 0 0) rfl) 0 rfl (z:=.int .i64 1) Tryz.results37 rfl rfl rfl ⟨⟨_,rfl,_,_,0,0,rfl,OwnS.nil_ _ _ _,OwnS.nil_ _ _ _⟩,((H.out.setBox 0 0 (.slice none 0 0) rfl).setBox 0 1 (.slice none 0 0) rfl).base⟩
   ·rw[if_neg (fun h=>hlo h.2.1)];have HG0:=Hd hg0;clear hg0;obtain⟨op,ins,shape,a,nv,how,note⟩:=nd;simp only at hop;subst hop;have HN:=h;obtain⟨A,na,ca,B,nb,cb,C,nc,cc,rfl,hL⟩:=h;replace HN:=Hd HN;obtain⟨hia,hib,hic,hA,hB,hC,hfo,hfx,hfh,hnote⟩:=hL;simp only at hA hB hC hfo hfx hfh hnote;have h1:=((((Sep.nil w).old hC).old hB).allocBox w.heap.size 34 [.int .i64 3,.slice A na ca,.slice B nb cb,.slice C nc cc,.int .i64 nv,.int .i64 how,.string note] rfl).allocBox (w.heap.size+1) 71 [.slice none 0 0,.slice none 0 0] (by simp);have hbl:=hB.len;have hcl:=hC.len;have HBL:=Hd hbl;have HCL:=Hd hcl;have hnbl:=hB.le;have hncl:=hC.le;have HFX:=Hd hfx;have HT:=Hd hT;have HC:=Hd hC;clear hA hB hC hT hbl hcl hfx hnote
    go_enter Tryz.func37,Tryz.ntmps37
    go_upto_region 1 with fail
    generalize (w.alloc (.cells #[.int .i64 3,.slice A na ca,.slice B nb cb,.slice C nc cc,.int .i64 nv,.int .i64 how,.string note] 34)).alloc (.cells #[.slice none 0 0,.slice none 0 0] 71)=W at *;have H:=Hd h1;clear h1;simp only at hr hc;have hnc:=Hd (show nc=1 by have:=HCL.out;omega);clear hc;have hn3:1≤nc:=by have:=hnc.out;omega
    obtain⟨pa,y0,hpC,hpb,hy0,hcy0,hfy0⟩:=HC.out.at_ (k:=0) (by omega);subst hpC;rw[show pa.add 0=pa by cases pa;rfl] at hcy0;have HY0:=Hd (show a.getD 0 0=y0 by rw[List.getD_eq_getElem?_getD,hy0];rfl);clear hy0 hfy0;obtain rfl:y0=g0:=HY0.out.symm.trans HG0.out;have hj0:(0:Int)<nc:=by omega
    have hl0:0<nc:=by omega
    obtain⟨n0,n1,n2,n3,n4,n5,n6⟩:=H.out.cells7 1 rfl;have CR:=refRight_any (c:=cb) (H.out.oldInts 2 rfl);rw[hr] at CR
    go_wp2_with fail
    refine CR.mono ?_;rintro e2 w2 ⟨rfl,rfl⟩;clear CR;clear n0 n1 n2 n3 n4 n5 n6;have d1:decide (y0<0)=true:=by simp;omega
    obtain⟨n0,n1,n2,n3,n4,n5,n6⟩:=H.out.cells7 1 rfl;have C1:Calls Tryz.prog 66 #[.agg #[.int .i64 3,.slice A na ca,.slice B nb cb,.slice (some pa) nc cc,.int .i64 nv,.int .i64 how,.string note],.int .i64 1] W.drew fun e w7=>e=.returned (.bool true)∧Below W.drew.heap.size W.drew w7:=(ref10Count_any _ (HN.out.below H.out.drew.base)).mono fun _ _ ⟨he,hb⟩=>⟨he.trans (ret_bool (decide_eq_true (by have h8:a.length=nc:=HCL.out;have:=hnc.out;simp only;omega))),hb⟩
    have H0:=Hd H.out.drew
    go_upto_region 8 with fail
    clear n0 n1 n2 n3 n4 n5 n6;obtain⟨i0,i1,i2,i3,i4,i5,i6⟩:=H0.out.cells7 1 rfl;have i7:=H0.out.oldCell hpb hcy0;refine wp_region_held_drew (S:=(fun w' => w'.cell? ⟨w.heap.size,0,none⟩=some (.int .i64 3)∧w'.cell? ⟨w.heap.size,1,none⟩=some (.slice A na ca)∧w'.cell? ⟨w.heap.size,2,none⟩=some (.slice B nb cb)∧w'.cell? ⟨w.heap.size,3,none⟩=some (.slice (some pa) nc cc)∧w'.cell? ⟨w.heap.size,4,none⟩=some (.int .i64 nv)∧w'.cell? ⟨w.heap.size,5,none⟩=some (.int .i64 how)∧w'.cell? ⟨w.heap.size,6,none⟩=some (.string note)∧w'.cell? pa=some (.int .i64 y0))) (by kernel_rfl) ?_ (fun hq_=>?_)
    ·exact⟨i0,i1,i2,i3,i4,i5,i6,i7⟩
    refine zW 0 hq_ ?_
    try simp only[pA]
    refine e1 1 fun K hK=>?_
    first|(refine effU ?_ ?_;(focus rfl))|(go_simp;(go_at_call 66;refine C1.mono ?_;rintro e3 w3 ⟨rfl,hb3⟩;have H3:=Hd (H0.out.below hb3);obtain ⟨m0,m1,m2,m3,m4,m5,m6⟩:=H3.out.cells7 1 rfl;have m7:=H3.out.oldCell hpb hcy0;clear hb3);go_wp2_with fail)
    refine zK hK ?_ ⟨m0,m1,m2,m3,m4,m5,m6,m7⟩;clear hK K hq_;intro hq_
    try simp only[pA]
    refine zW 2 hq_ ?_
    try simp only[pA]
    refine zW 3 hq_ ?_
    try simp only[pA]
    first|refine tU 4 hq_ ?_|refine zW 4 hq_ ?_
    try simp only[pA]
    first|refine tU 5 hq_ ?_|refine zW 5 hq_ ?_
    try simp only[pA]
    first|refine tU 6 hq_ ?_|refine zW 6 hq_ ?_
    try simp only[pA]
    first|refine tU 7 hq_ ?_|refine zW 7 hq_ ?_
    try simp only[pA]
    first|refine tU 8 hq_ ?_|refine zW 8 hq_ ?_
    try simp only[pA]
    refine zW 9 hq_ ?_
    try simp only[pA]
    refine zW 10 hq_ ?_
    try simp only[pA]
    first|refine tU 11 hq_ ?_|refine zW 11 hq_ ?_
    try simp only[pA]
    first|refine tU 12 hq_ ?_|refine zW 12 hq_ ?_
    try simp only[pA]
    first|refine tU 13 hq_ ?_|refine zW 13 hq_ ?_
    try simp only[pA]
    first|refine tU 14 hq_ ?_|refine zW 14 hq_ ?_
    try simp only[pA]
    first|refine tU 15 hq_ ?_|refine zW 15 hq_ ?_
    try simp only[pA]
    first|refine tU 16 hq_ ?_|refine zW 16 hq_ ?_
    try simp only[pA]
    first|refine tU 17 hq_ ?_|refine zW 17 hq_ ?_
    try simp only[pA]
    first|refine tU 18 hq_ ?_|refine zW 18 hq_ ?_
    try simp only[pA]
    refine zW 19 hq_ ?_
    try simp only[pA]
    refine wpAnyH_done (by kernel_rfl) ?_ _;replace H:=Hd H3.out;clear H3;obtain ⟨r0,r1⟩:=H.out.z2 0 rfl;obtain ⟨fr0,fr1⟩:=H.out.f2 0 rfl;go_wp2;exact sep_ret2 ((H.out.setBox 0 0 (.slice none 0 0) rfl).setBox 0 1 (.slice none 0 0) rfl) 0 rfl (z:=.int .i64 1) Tryz.results37 rfl rfl rfl ⟨⟨_,rfl,_,_,0,0,rfl,OwnS.nil_ _ _ _,OwnS.nil_ _ _ _⟩,((H.out.setBox 0 0 (.slice none 0 0) rfl).setBox 0 1 (.slice none 0 0) rfl).base⟩
  ·rw[if_neg (fun h=>hc h.1)];obtain⟨op,ins,shape,a,nv,how,note⟩:=nd;simp only at hop;subst hop;have HN:=h;obtain⟨A,na,ca,B,nb,cb,C,nc,cc,rfl,hL⟩:=h;replace HN:=Hd HN;obtain⟨hia,hib,hic,hA,hB,hC,hfo,hfx,hfh,hnote⟩:=hL;simp only at hA hB hC hfo hfx hfh hnote;have h1:=((((Sep.nil w).old hC).old hB).allocBox w.heap.size 34 [.int .i64 3,.slice A na ca,.slice B nb cb,.slice C nc cc,.int .i64 nv,.int .i64 how,.string note] rfl).allocBox (w.heap.size+1) 71 [.slice none 0 0,.slice none 0 0] (by simp);have hbl:=hB.len;have hcl:=hC.len;have HBL:=Hd hbl;have HCL:=Hd hcl;have hnbl:=hB.le;have hncl:=hC.le;have HFX:=Hd hfx;have HT:=Hd hT;have HC:=Hd hC;clear hA hB hC hT hbl hcl hfx hnote
   go_enter Tryz.func37,Tryz.ntmps37
   go_upto_region 1 with fail
   generalize (w.alloc (.cells #[.int .i64 3,.slice A na ca,.slice B nb cb,.slice C nc cc,.int .i64 nv,.int .i64 how,.string note] 34)).alloc (.cells #[.slice none 0 0,.slice none 0 0] 71)=W at *;have H:=Hd h1;clear h1;simp only at hr hc;have hnc:=Hd (show ¬ nc=1 by have:=HCL.out;omega);clear hc;obtain⟨n0,n1,n2,n3,n4,n5,n6⟩:=H.out.cells7 1 rfl;have CR:=refRight_any (c:=cb) (H.out.oldInts 2 rfl);rw[hr] at CR
   go_wp2_with fail
   refine CR.mono ?_;rintro e2 w2 ⟨rfl,rfl⟩;clear CR;clear n0 n1 n2 n3 n4 n5 n6;obtain⟨n0,n1,n2,n3,n4,n5,n6⟩:=H.out.cells7 1 rfl;have C1:Calls Tryz.prog 66 #[.agg #[.int .i64 3,.slice A na ca,.slice B nb cb,.slice C nc cc,.int .i64 nv,.int .i64 how,.string note],.int .i64 1] W.drew fun e w7=>e=.returned (.bool false)∧Below W.drew.heap.size W.drew w7:=(ref10Count_any _ (HN.out.below H.out.drew.base)).mono fun _ _ ⟨he,hb⟩=>⟨he.trans (ret_bool (decide_eq_false (by have h8:a.length=nc:=HCL.out;have:=hnc.out;simp only;omega))),hb⟩
   have H0:=Hd H.out.drew
   go_upto_region 8 with fail
   clear n0 n1 n2 n3 n4 n5 n6;obtain⟨i0,i1,i2,i3,i4,i5,i6⟩:=H0.out.cells7 1 rfl;refine wp_region_held_drew (S:=(fun w' => w'.cell? ⟨w.heap.size,0,none⟩=some (.int .i64 3)∧w'.cell? ⟨w.heap.size,1,none⟩=some (.slice A na ca)∧w'.cell? ⟨w.heap.size,2,none⟩=some (.slice B nb cb)∧w'.cell? ⟨w.heap.size,3,none⟩=some (.slice C nc cc)∧w'.cell? ⟨w.heap.size,4,none⟩=some (.int .i64 nv)∧w'.cell? ⟨w.heap.size,5,none⟩=some (.int .i64 how)∧w'.cell? ⟨w.heap.size,6,none⟩=some (.string note))) (by kernel_rfl) ?_ (fun hq_=>?_)
   ·exact⟨i0,i1,i2,i3,i4,i5,i6⟩
   refine zW 0 hq_ ?_
   try simp only[pA]
   refine e1 1 fun K hK=>?_
   first|(refine effU ?_ ?_;(focus rfl))|(go_simp;(go_at_call 66;refine C1.mono ?_;rintro e3 w3 ⟨rfl,hb3⟩;have H3:=Hd (H0.out.below hb3);obtain ⟨m0,m1,m2,m3,m4,m5,m6⟩:=H3.out.cells7 1 rfl;clear hb3);go_wp2_with fail)
   refine zK hK ?_ ⟨m0,m1,m2,m3,m4,m5,m6⟩;clear hK K hq_;intro hq_
   try simp only[pA]
   refine zW 2 hq_ ?_
   try simp only[pA]
   refine zW 3 hq_ ?_
   try simp only[pA]
   first|refine tU 4 hq_ ?_|refine zW 4 hq_ ?_
   try simp only[pA]
   first|refine tU 5 hq_ ?_|refine zW 5 hq_ ?_
   try simp only[pA]
   first|refine tU 6 hq_ ?_|refine zW 6 hq_ ?_
   try simp only[pA]
   first|refine tU 7 hq_ ?_|refine zW 7 hq_ ?_
   try simp only[pA]
   first|refine tU 8 hq_ ?_|refine zW 8 hq_ ?_
   try simp only[pA]
   refine zW 9 hq_ ?_
   try simp only[pA]
   refine zW 10 hq_ ?_
   try simp only[pA]
   first|refine tU 11 hq_ ?_|refine zW 11 hq_ ?_
   try simp only[pA]
   first|refine tU 12 hq_ ?_|refine zW 12 hq_ ?_
   try simp only[pA]
   first|refine tU 13 hq_ ?_|refine zW 13 hq_ ?_
   try simp only[pA]
   first|refine tU 14 hq_ ?_|refine zW 14 hq_ ?_
   try simp only[pA]
   first|refine tU 15 hq_ ?_|refine zW 15 hq_ ?_
   try simp only[pA]
   first|refine tU 16 hq_ ?_|refine zW 16 hq_ ?_
   try simp only[pA]
   first|refine tU 17 hq_ ?_|refine zW 17 hq_ ?_
   try simp only[pA]
   first|refine tU 18 hq_ ?_|refine zW 18 hq_ ?_
   try simp only[pA]
   refine zW 19 hq_ ?_
   try simp only[pA]
   refine wpAnyH_done (by kernel_rfl) ?_ _;replace H:=Hd H3.out;clear H3;obtain ⟨r0,r1⟩:=H.out.z2 0 rfl;obtain ⟨fr0,fr1⟩:=H.out.f2 0 rfl;go_wp2;exact sep_ret2 ((H.out.setBox 0 0 (.slice none 0 0) rfl).setBox 0 1 (.slice none 0 0) rfl) 0 rfl (z:=.int .i64 1) Tryz.results37 rfl rfl rfl ⟨⟨_,rfl,_,_,0,0,rfl,OwnS.nil_ _ _ _,OwnS.nil_ _ _ _⟩,((H.out.setBox 0 0 (.slice none 0 0) rfl).setBox 0 1 (.slice none 0 0) rfl).base⟩
theorem len1 {α : Type} {l:List α} (h:l.length=1):∃ x,l=[x]:=by
 match l,h with
 | [x],_=>exact⟨x,rfl⟩
theorem len2 {α : Type} {l:List α} (h:l.length=2):∃ x y,l=[x,y]:=by
 match l,h with
 | [x,y],_=>exact⟨x,y,rfl⟩
theorem len3 {α : Type} {l:List α} (h:l.length=3):∃ x y z,l=[x,y,z]:=by
 match l,h with
 | [x,y,z],_=>exact⟨x,y,z,rfl⟩
theorem form_takes {nd:NodeV} {k:Int} (h:formF nd k=true):(takesF nd.op).1 ≠ -2∧(0≤(takesF nd.op).1→k=(takesF nd.op).1)∧((takesF nd.op).1 = -1→2≤k):=by
 rw[formF,formK] at h;by_cases hc:(takesF nd.op).1 = -2∨(0≤(takesF nd.op).1∧k≠(takesF nd.op).1)∨((takesF nd.op).1 = -1∧k<2)
 ·rw[if_pos hc] at h;cases h
 ·refine⟨fun h2=>hc (.inl h2),fun h0=>?_,fun h1=>?_⟩
  ·by_cases hk:k=(takesF nd.op).1
   ·exact hk
   ·exact absurd (.inr (.inl ⟨h0,hk⟩)) hc
  ·rcases Int.lt_or_le k 2 with h2|h2
   ·exact absurd (.inr (.inr ⟨h1,h2⟩)) hc
   ·exact h2
theorem takes_at {op:Int} (h:(takesF op).1 ≠ -2):1≤op∧op≤20:=by
 rcases Int.lt_or_le op 1 with h1|h1
 ·exact absurd (by rw[takesF];repeat rw[if_neg (by omega)]) h
 ·rcases Int.lt_or_le 20 op with h2|h2
  ·exact absurd (by rw[takesF];repeat rw[if_neg (by omega)]) h
  ·exact⟨h1,h2⟩
theorem ref10Work_any {w:World} {v:Value} {nd:NodeV} {At:Option Addr} {nt ct:Nat} {L:TL} (h:NodeIs w v nd) (hT:Tens w At nt L) (hf:formF nd L.length=true) (h1:nd.op≠1) (hr:∀ t∈L,tenRight t.1 t.2=true) :
  Calls Tryz.prog 37 #[v,.slice At nt ct] w (WorkPost w (workR nd L)):=by
 obtain⟨f1,f2,_⟩:=form_takes hf;obtain⟨o1,o2⟩:=takes_at f1;have hcase:nd.op=2∨nd.op=3∨nd.op=4∨nd.op=5∨(6≤nd.op∧nd.op≤11)∨nd.op=12∨nd.op=13∨nd.op=14∨nd.op=15∨nd.op=16∨nd.op=17∨nd.op=18∨nd.op=19∨nd.op=20:=by omega
 rcases hcase with e|e|e|e|⟨e,e'⟩|e|e|e|e|e|e|e|e|e
 ·have ht:(takesF nd.op).1=0:=by rw[e];rfl
  have hl:=f2 (by omega);rw[ht] at hl;obtain rfl:=List.eq_nil_of_length_eq_zero (show L.length=0 by omega);have:=work_2 (ct:=ct) e h hT;unfold workR
  repeat rw[if_neg (by omega)]
  rw[if_pos (by omega)];exact this
 ·have ht:(takesF nd.op).1=0:=by rw[e];rfl
  have hl:=f2 (by omega);rw[ht] at hl;obtain rfl:=List.eq_nil_of_length_eq_zero (show L.length=0 by omega);have:=work_3 (ct:=ct) e h hT;unfold workR
  repeat rw[if_neg (by omega)]
  rw[if_pos (by omega)];exact this
 ·have ht:(takesF nd.op).1=1:=by rw[e];rfl
  have hl:=f2 (by omega);rw[ht] at hl;obtain⟨x,rfl⟩:=len1 (show L.length=1 by omega);have:=work_4 (ct:=ct) e h hT;unfold workR
  repeat rw[if_neg (by omega)]
  rw[if_pos (by omega)];exact this
 ·have ht:(takesF nd.op).1=1:=by rw[e];rfl
  have hl:=f2 (by omega);rw[ht] at hl;obtain⟨x,rfl⟩:=len1 (show L.length=1 by omega);have:=work_5 (ct:=ct) e h hT;unfold workR
  repeat rw[if_neg (by omega)]
  rw[if_pos (by omega)];exact this
 ·have ht:(takesF nd.op).1=2:=by rw[takesF,if_neg (by omega),if_neg (by omega),if_neg (by omega),if_neg (by omega),if_pos ⟨e,e'⟩]
  have hl:=f2 (by omega);rw[ht] at hl;obtain⟨x,y,rfl⟩:=len2 (show L.length=2 by omega);have:=work_two (ct:=ct) e e' h hT;unfold workR;rw[if_neg (by omega),if_neg (by omega),if_neg (by omega),if_neg (by omega),if_neg (by omega),if_neg (by omega),if_neg (by omega),if_neg (by omega),if_neg (by omega),if_neg (by omega),if_neg (by omega),if_neg (by omega)];exact this
 ·have ht:(takesF nd.op).1=3:=by rw[e];rfl
  have hl:=f2 (by omega);rw[ht] at hl;obtain⟨x,y,z,rfl⟩:=len3 (show L.length=3 by omega);have:=work_12 (ct:=ct) e h hT;unfold workR
  repeat rw[if_neg (by omega)]
  rw[if_pos (by omega)];exact this
 ·have ht:(takesF nd.op).1=1:=by rw[e];rfl
  have hl:=f2 (by omega);rw[ht] at hl;obtain⟨x,rfl⟩:=len1 (show L.length=1 by omega);have:=work_13 (ct:=ct) e h hT;unfold workR
  repeat rw[if_neg (by omega)]
  rw[if_pos (by omega)];exact this
 ·have ht:(takesF nd.op).1=1:=by rw[e];rfl
  have hl:=f2 (by omega);rw[ht] at hl;obtain⟨x,rfl⟩:=len1 (show L.length=1 by omega);have:=work_14 (ct:=ct) e h hT;unfold workR
  repeat rw[if_neg (by omega)]
  rw[if_pos (by omega)];exact this
 ·have ht:(takesF nd.op).1=1:=by rw[e];rfl
  have hl:=f2 (by omega);rw[ht] at hl;obtain⟨x,rfl⟩:=len1 (show L.length=1 by omega);have:=work_15 (ct:=ct) e (hr x (by simp)) h hT;unfold workR
  repeat rw[if_neg (by omega)]
  rw[if_pos (by omega)];exact this
 ·have ht:(takesF nd.op).1=1:=by rw[e];rfl
  have hl:=f2 (by omega);rw[ht] at hl;obtain⟨x,rfl⟩:=len1 (show L.length=1 by omega);have:=work_16 (ct:=ct) e (hr x (by simp)) h hT;unfold workR
  repeat rw[if_neg (by omega)]
  rw[if_pos (by omega)];exact this
 ·have:=work_17 (ct:=ct) e h hT;unfold workR
  repeat rw[if_neg (by omega)]
  rw[if_pos (by omega)];exact this
 ·have ht:(takesF nd.op).1=1:=by rw[e];rfl
  have hl:=f2 (by omega);rw[ht] at hl;obtain⟨x,rfl⟩:=len1 (show L.length=1 by omega);have:=work_18 (ct:=ct) e h hT;unfold workR
  repeat rw[if_neg (by omega)]
  rw[if_pos (by omega)];exact this
 ·have ht:(takesF nd.op).1=2:=by rw[e];rfl
  have hl:=f2 (by omega);rw[ht] at hl;obtain⟨x,y,rfl⟩:=len2 (show L.length=2 by omega);have:=work_19 (ct:=ct) e h hT;unfold workR
  repeat rw[if_neg (by omega)]
  rw[if_pos (by omega)];exact this
 ·have ht:(takesF nd.op).1=1:=by rw[e];rfl
  have hl:=f2 (by omega);rw[ht] at hl;obtain⟨x,rfl⟩:=len1 (show L.length=1 by omega);have:=work_20 (ct:=ct) e h hT;unfold workR
  repeat rw[if_neg (by omega)]
  rw[if_pos (by omega)];exact this
end Go.Proofs.YtnnmplkgenhofaaGreat
