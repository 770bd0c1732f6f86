import Derived.Test.YtnnmplkgenhofaaGreatPal
import Derived.Test.YtnnmplkgenhofaaGreatPam
import Derived.Test.YtnnmplkgenhofaaGreatPap
import Derived.Test.YtnnmplkgenhofaaGreatPaq
import Derived.Test.YtnnmplkgenhofaaGreatPar
import Derived.Test.YtnnmplkgenhofaaGreatPas
import Derived.Test.YtnnmplkgenhofaaGreatPau
import Derived.Test.YtnnmplkgenhofaaGreatPaw
set_option maxRecDepth 100000
set_option maxHeartbeats 12800000
namespace Go.Proofs.YtnnmplkgenhofaaGreat
open Go.RowKit
noncomputable def workR (nd:NodeV) (L:TL):Int × List Int × List Int :=
 if nd.op=2 then(if Sh.right nd.shape then(0,nd.shape,List.replicate (Sh.size nd.shape).toNat nd.n) else refused 13)
 else if nd.op=3 then(if Sh.right nd.shape then(if nd.a.length=1∧0≤nd.a.getD 0 0∧nd.a.getD 0 0<nd.shape.length then(0,nd.shape,Sh.iota nd.shape (nd.a.getD 0 0).toNat) else refused 1) else refused 13)
 else if nd.op=4∨nd.op=5 then oneR nd.op (L.getD 0 ([],[])).1 (L.getD 0 ([],[])).2
 else if nd.op=12 then pickR (L.getD 0 ([],[])).1 (L.getD 0 ([],[])).2 (L.getD 1 ([],[])).1 (L.getD 1 ([],[])).2 (L.getD 2 ([],[])).1 (L.getD 2 ([],[])).2
 else if nd.op=13 then turnR (L.getD 0 ([],[])).1 (L.getD 0 ([],[])).2 nd.a
 else if nd.op=14 then spR (L.getD 0 ([],[])).1 (L.getD 0 ([],[])).2 nd.shape nd.a
 else if nd.op=15 then(if nd.a.length=2*(L.getD 0 ([],[])).1.length then cutR (L.getD 0 ([],[])).1 (L.getD 0 ([],[])).2 (nd.a.take (L.getD 0 ([],[])).1.length) (nd.a.drop (L.getD 0 ([],[])).1.length) else refused 1)
 else if nd.op=16 then(if nd.a.length=2*(L.getD 0 ([],[])).1.length then padR (L.getD 0 ([],[])).1 (L.getD 0 ([],[])).2 (nd.a.take (L.getD 0 ([],[])).1.length) (nd.a.drop (L.getD 0 ([],[])).1.length) nd.n else refused 1)
 else if nd.op=17 then(if nd.a.length=1 then joinR (nd.a.getD 0 0) L else refused 1)
 else if nd.op=18 then foldR nd.how (L.getD 0 ([],[])).1 (L.getD 0 ([],[])).2 nd.a
 else if nd.op=19 then(if nd.a.length=1 then dotR (L.getD 0 ([],[])).1 (L.getD 0 ([],[])).2 (L.getD 1 ([],[])).1 (L.getD 1 ([],[])).2 (nd.a.getD 0 0) else refused 1)
 else if nd.op=20 then(if nd.a.length=3 then winR nd.how (L.getD 0 ([],[])).1 (L.getD 0 ([],[])).2 (nd.a.getD 0 0) (nd.a.getD 1 0) (nd.a.getD 2 0) else refused 1)
 else twoR nd.op (L.getD 0 ([],[])).1 (L.getD 0 ([],[])).2 (L.getD 1 ([],[])).1 (L.getD 1 ([],[])).2
def WorkPost (w:World) (r:Int × List Int × List Int) (e:Ending) (w' : World):Prop :=
 (∃ u,e=.returned (.tuple #[u,.int .i64 r.1])∧OTen w' w.heap.size u r.2.1 r.2.2)∧Below w.heap.size w w'
theorem ten_len {w:World} {S D:Option Addr} {sn sc dn dc:Nat} {s d:List Int} (h:Ten w (.agg #[.slice S sn sc,.slice D dn dc]) s d):s.length=sn∧sn≤sc:=by
 obtain⟨A,n,c,B,m,e,hv,hc,_,hI,_⟩:=h;simp only[Value.agg.injEq] at hv;have h1:=congrArg (fun a:Array Value=>a.toList) hv;simp only[List.cons.injEq,Value.slice.injEq] at h1;obtain⟨⟨_,h2,h3⟩,_⟩:=h1;exact⟨hI.len.trans h2.symm,by omega⟩
theorem Tens.at1 {w:World} {A:Option Addr} {n:Nat} {x y:List Int × List Int} {l:TL} (h:Tens w A n (x::y::l)) {a:Addr} (ha:A=some a):∃ S sn sc D dn dc,w.cell? ⟨a.block,a.off+2,none⟩=some (.slice S sn sc)∧w.cell? ⟨a.block,a.off+2+1,none⟩=some (.slice D dn dc)∧Ten w (.agg #[.slice S sn sc,.slice D dn dc]) y.1 y.2:=by
 subst ha;obtain⟨a', S,sn,sc,D,dn,dc,e,hb,h0,h1,ht⟩:=h.2.2 1 y rfl;injection e with e
 subst e;exact⟨S,sn,sc,D,dn,dc,by simpa [Addr.add] using h0,by simpa [Addr.add] using h1,ht⟩
theorem Tens.at2 {w:World} {A:Option Addr} {n:Nat} {x y z:List Int × List Int} {l:TL} (h:Tens w A n (x::y::z::l)) {a:Addr} (ha:A=some a):∃ S sn sc D dn dc,w.cell? ⟨a.block,a.off+4,none⟩=some (.slice S sn sc)∧w.cell? ⟨a.block,a.off+4+1,none⟩=some (.slice D dn dc)∧Ten w (.agg #[.slice S sn sc,.slice D dn dc]) z.1 z.2:=by
 subst ha;obtain⟨a', S,sn,sc,D,dn,dc,e,hb,h0,h1,ht⟩:=h.2.2 2 z rfl;injection e with e
 subst e;exact⟨S,sn,sc,D,dn,dc,by simpa [Addr.add] using h0,by simpa [Addr.add] using h1,ht⟩
theorem run_takeG {w1:World} {A:Option Addr} {n c k:Nat} {xs:List Int} (h:Ints w1 A n xs) (hk:k≤n) (hc:n≤c):∀ w,(Instr.slice 22 (.slice A n c) none (some (.int .i64 (k:Int))) none).run Tryz.prog w=.ok (.slice A k c) w:=by
 intro w;have hu:Tryz.prog.underlying 22=some (.slice 3):=by kernel_rfl
 have hkc:k≤c:=by omega
 cases A with
 | none =>
  have h0:n=0:=by
   rcases Nat.eq_zero_or_pos n with e|e
   ·exact e
   ·obtain⟨a,e', _⟩:=h.2.2.2 e;cases e'
  subst h0;obtain rfl:k=0:=by omega
  go_simp
 | some a=>go_simp
theorem run_dropG {w1:World} {A:Option Addr} {n c k:Nat} {xs:List Int} (h:Ints w1 A n xs) (hk:k≤n) (hc:n≤c):∀ w,(Instr.slice 22 (.slice A n c) (some (.int .i64 (k:Int))) none none).run Tryz.prog w=.ok (.slice (dropA A c k) (n-k) (c-k)) w:=by
 intro w;have hu:Tryz.prog.underlying 22=some (.slice 3):=by kernel_rfl
 cases A with
 | none =>
  have h0:n=0:=by
   rcases Nat.eq_zero_or_pos n with e|e
   ·exact e
   ·obtain⟨a,e', _⟩:=h.2.2.2 e;cases e'
  subst h0;obtain rfl:k=0:=by omega
  by_cases hcl:c=0
  ·subst hcl
   go_simp
   rw[dropA,if_pos rfl]
  ·go_simp
   rw[dropA,if_neg hcl];rfl
 | some a =>
  by_cases hcl:c=k
  ·subst hcl
   go_simp
   rw[dropA,if_pos rfl]
  ·go_simp
   rw[dropA,if_neg hcl];rfl
theorem Tens.zero_ {w:World} {A:Option Addr} {n:Nat} {x:List Int × List Int} {l:TL} (h:Tens w A n (x::l)):∃ a S sn sc D dn dc,A=some a∧a.block<w.heap.size∧w.cell? a=some (.slice S sn sc)∧w.cell? ⟨a.block,a.off+1,none⟩=some (.slice D dn dc)∧Ten w (.agg #[.slice S sn sc,.slice D dn dc]) x.1 x.2:=by
 obtain⟨a,S,sn,sc,D,dn,dc,e,hb,h0,h1,ht⟩:=h.2.2 0 x rfl;have ez:a.add (0*2)=a:=by cases a;rfl
 rw[ez] at h0 h1;exact⟨a,S,sn,sc,D,dn,dc,e,hb,h0,h1,ht⟩
theorem work_4 {w:World} {v:Value} {nd:NodeV} {At:Option Addr} {nt ct:Nat} {x:List Int × List Int} (hop:nd.op=4) (h:NodeIs w v nd) (hT:Tens w At nt [x]) :
  Calls Tryz.prog 37 #[v,.slice At nt ct] w (WorkPost w (oneR nd.op x.1 x.2)):=by
 obtain⟨op,ins,shape,a,nv,how,note⟩:=nd;simp only at hop;subst hop;have HN:=h;obtain⟨A,na,ca,B,nb,cb,C,nc,cc,rfl,hL⟩:=h;replace HN:=Hd HN;obtain⟨hia,hib,hic,hA,hB,hC,hfo,hfx,hfh,hnote⟩:=hL;simp only at hA hB hC hfo hfx hfh hnote;have h1:=((((Sep.nil w).old hC).old hB).allocBox w.heap.size 34 [.int .i64 4,.slice A na ca,.slice B nb cb,.slice C nc cc,.int .i64 nv,.int .i64 how,.string note] rfl).allocBox (w.heap.size+1) 71 [.slice none 0 0,.slice none 0 0] (by simp);have hbl:=hB.len;have hcl:=hC.len;have HBL:=Hd hbl;have HCL:=Hd hcl;have hnbl:=hB.le;have hncl:=hC.le;have HFX:=Hd hfx;have HT:=Hd hT;have HC:=Hd hC;clear hA hB hC hT hbl hcl hfx hnote
 go_enter Tryz.func37,Tryz.ntmps37
 go_upto_region 1 with fail
 generalize (w.alloc (.cells #[.int .i64 4,.slice A na ca,.slice B nb cb,.slice C nc cc,.int .i64 nv,.int .i64 how,.string note] 34)).alloc (.cells #[.slice none 0 0,.slice none 0 0] 71)=W at *;have H:=Hd h1;clear h1;obtain⟨at0,S0,sn0,sc0,D0,dn0,dc0,hAt,hbt,c00,c01,ht0⟩:=HT.out.zero_;subst hAt;have hn0:0<nt:=by have:=HT.out.1;simp at this;omega
 obtain⟨n0,n1,n2,n3,n4,n5,n6⟩:=H.out.cells7 1 rfl
 go_upto_region 13 with fail
 have q0:=H.out.cell 1 0 rfl rfl;have q1:=H.out.oldCell (p:=at0) hbt c00;have q2:=H.out.oldCell (p:=⟨at0.block,at0.off+1,none⟩) hbt c01
 go_region_held3 (fun w' => w'.cell? ⟨w.heap.size,0,none⟩=some (.int .i64 4)∧w'.cell? at0=some (.slice S0 sn0 sc0)∧w'.cell? ⟨at0.block,at0.off+1,none⟩=some (.slice D0 dn0 dc0)) (go_keep)
  (first|(go_at_call 68;refine(ref4One_any 4 (ht0.below H.out.drew.base)).mono ?_;rintro e7 w7 ⟨⟨u7,rfl,hu7⟩,hb7⟩;obtain⟨S7,ns7,sc7,D7,nd7,dc7,rfl,hs7,hd7,hsc7,hdc7,hle7,h7⟩:=H.out.drew.addTen hb7 hu7;have H7:=Hd h7;have m0:=H7.out.cell 3 0 rfl rfl;have m1:=H7.out.oldCell (p:=at0) hbt c00;have m2:=H7.out.oldCell (p:=⟨at0.block,at0.off+1,none⟩) hbt c01;obtain ⟨r0,r1⟩:=H7.out.z2 2 rfl;obtain ⟨fr0,fr1⟩:=H7.out.f2 2 rfl;have H8:=Hd ((H7.out.setBox 2 0 (.slice S7 ns7 sc7) rfl).setBox 2 1 (.slice D7 nd7 dc7) rfl);have k0:((w7.setCell ⟨w.heap.size+1,0,none⟩ (.slice S7 ns7 sc7)).setCell ⟨w.heap.size+1,1,none⟩ (.slice D7 nd7 dc7)).cell? ⟨w.heap.size,0,none⟩=some (.int .i64 4):=H8.out.cell 3 0 rfl rfl;have k1:((w7.setCell ⟨w.heap.size+1,0,none⟩ (.slice S7 ns7 sc7)).setCell ⟨w.heap.size+1,1,none⟩ (.slice D7 nd7 dc7)).cell? at0=some (.slice S0 sn0 sc0):=H8.out.oldCell (p:=at0) hbt c00;have k2:((w7.setCell ⟨w.heap.size+1,0,none⟩ (.slice S7 ns7 sc7)).setCell ⟨w.heap.size+1,1,none⟩ (.slice D7 nd7 dc7)).cell? ⟨at0.block,at0.off+1,none⟩=some (.slice D0 dn0 dc0):=H8.out.oldCell (p:=⟨at0.block,at0.off+1,none⟩) hbt c01;clear hu7 hb7 h7 hs7 hd7))
 go_wp2;exact sep_ret2 H8.out 2 rfl (z:=.int .i64 _) Tryz.results37 rfl rfl rfl ⟨⟨_,rfl,_,_,ns7,nd7,rfl,H8.out.ownS 0 rfl,H8.out.ownS 1 rfl⟩,H8.out.base⟩
theorem work_5 {w:World} {v:Value} {nd:NodeV} {At:Option Addr} {nt ct:Nat} {x:List Int × List Int} (hop:nd.op=5) (h:NodeIs w v nd) (hT:Tens w At nt [x]) :
  Calls Tryz.prog 37 #[v,.slice At nt ct] w (WorkPost w (oneR nd.op x.1 x.2)):=by
 obtain⟨op,ins,shape,a,nv,how,note⟩:=nd;simp only at hop;subst hop;have HN:=h;obtain⟨A,na,ca,B,nb,cb,C,nc,cc,rfl,hL⟩:=h;replace HN:=Hd HN;obtain⟨hia,hib,hic,hA,hB,hC,hfo,hfx,hfh,hnote⟩:=hL;simp only at hA hB hC hfo hfx hfh hnote;have h1:=((((Sep.nil w).old hC).old hB).allocBox w.heap.size 34 [.int .i64 5,.slice A na ca,.slice B nb cb,.slice C nc cc,.int .i64 nv,.int .i64 how,.string note] rfl).allocBox (w.heap.size+1) 71 [.slice none 0 0,.slice none 0 0] (by simp);have hbl:=hB.len;have hcl:=hC.len;have HBL:=Hd hbl;have HCL:=Hd hcl;have hnbl:=hB.le;have hncl:=hC.le;have HFX:=Hd hfx;have HT:=Hd hT;have HC:=Hd hC;clear hA hB hC hT hbl hcl hfx hnote
 go_enter Tryz.func37,Tryz.ntmps37
 go_upto_region 1 with fail
 generalize (w.alloc (.cells #[.int .i64 5,.slice A na ca,.slice B nb cb,.slice C nc cc,.int .i64 nv,.int .i64 how,.string note] 34)).alloc (.cells #[.slice none 0 0,.slice none 0 0] 71)=W at *;have H:=Hd h1;clear h1;obtain⟨at0,S0,sn0,sc0,D0,dn0,dc0,hAt,hbt,c00,c01,ht0⟩:=HT.out.zero_;subst hAt;have hn0:0<nt:=by have:=HT.out.1;simp at this;omega
 obtain⟨n0,n1,n2,n3,n4,n5,n6⟩:=H.out.cells7 1 rfl
 go_upto_region 13 with fail
 have q0:=H.out.cell 1 0 rfl rfl;have q1:=H.out.oldCell (p:=at0) hbt c00;have q2:=H.out.oldCell (p:=⟨at0.block,at0.off+1,none⟩) hbt c01
 go_region_held3 (fun w' => w'.cell? ⟨w.heap.size,0,none⟩=some (.int .i64 5)∧w'.cell? at0=some (.slice S0 sn0 sc0)∧w'.cell? ⟨at0.block,at0.off+1,none⟩=some (.slice D0 dn0 dc0)) (go_keep)
  (first|(go_at_call 68;refine(ref4One_any 5 (ht0.below H.out.drew.base)).mono ?_;rintro e7 w7 ⟨⟨u7,rfl,hu7⟩,hb7⟩;obtain⟨S7,ns7,sc7,D7,nd7,dc7,rfl,hs7,hd7,hsc7,hdc7,hle7,h7⟩:=H.out.drew.addTen hb7 hu7;have H7:=Hd h7;have m0:=H7.out.cell 3 0 rfl rfl;have m1:=H7.out.oldCell (p:=at0) hbt c00;have m2:=H7.out.oldCell (p:=⟨at0.block,at0.off+1,none⟩) hbt c01;obtain ⟨r0,r1⟩:=H7.out.z2 2 rfl;obtain ⟨fr0,fr1⟩:=H7.out.f2 2 rfl;have H8:=Hd ((H7.out.setBox 2 0 (.slice S7 ns7 sc7) rfl).setBox 2 1 (.slice D7 nd7 dc7) rfl);have k0:((w7.setCell ⟨w.heap.size+1,0,none⟩ (.slice S7 ns7 sc7)).setCell ⟨w.heap.size+1,1,none⟩ (.slice D7 nd7 dc7)).cell? ⟨w.heap.size,0,none⟩=some (.int .i64 5):=H8.out.cell 3 0 rfl rfl;have k1:((w7.setCell ⟨w.heap.size+1,0,none⟩ (.slice S7 ns7 sc7)).setCell ⟨w.heap.size+1,1,none⟩ (.slice D7 nd7 dc7)).cell? at0=some (.slice S0 sn0 sc0):=H8.out.oldCell (p:=at0) hbt c00;have k2:((w7.setCell ⟨w.heap.size+1,0,none⟩ (.slice S7 ns7 sc7)).setCell ⟨w.heap.size+1,1,none⟩ (.slice D7 nd7 dc7)).cell? ⟨at0.block,at0.off+1,none⟩=some (.slice D0 dn0 dc0):=H8.out.oldCell (p:=⟨at0.block,at0.off+1,none⟩) hbt c01;clear hu7 hb7 h7 hs7 hd7))
 go_wp2;exact sep_ret2 H8.out 2 rfl (z:=.int .i64 _) Tryz.results37 rfl rfl rfl ⟨⟨_,rfl,_,_,ns7,nd7,rfl,H8.out.ownS 0 rfl,H8.out.ownS 1 rfl⟩,H8.out.base⟩
theorem work_12 {w:World} {v:Value} {nd:NodeV} {At:Option Addr} {nt ct:Nat} {x y z:List Int × List Int} (hop:nd.op=12) (h:NodeIs w v nd) (hT:Tens w At nt [x,y,z]) :
  Calls Tryz.prog 37 #[v,.slice At nt ct] w (WorkPost w (pickR x.1 x.2 y.1 y.2 z.1 z.2)):=by
 obtain⟨op,ins,shape,a,nv,how,note⟩:=nd;simp only at hop;subst hop;have HN:=h;obtain⟨A,na,ca,B,nb,cb,C,nc,cc,rfl,hL⟩:=h;replace HN:=Hd HN;obtain⟨hia,hib,hic,hA,hB,hC,hfo,hfx,hfh,hnote⟩:=hL;simp only at hA hB hC hfo hfx hfh hnote;have h1:=((((Sep.nil w).old hC).old hB).allocBox w.heap.size 34 [.int .i64 12,.slice A na ca,.slice B nb cb,.slice C nc cc,.int .i64 nv,.int .i64 how,.string note] rfl).allocBox (w.heap.size+1) 71 [.slice none 0 0,.slice none 0 0] (by simp);have hbl:=hB.len;have hcl:=hC.len;have HBL:=Hd hbl;have HCL:=Hd hcl;have hnbl:=hB.le;have hncl:=hC.le;have HFX:=Hd hfx;have HT:=Hd hT;have HC:=Hd hC;clear hA hB hC hT hbl hcl hfx hnote
 go_enter Tryz.func37,Tryz.ntmps37
 go_upto_region 1 with fail
 generalize (w.alloc (.cells #[.int .i64 12,.slice A na ca,.slice B nb cb,.slice C nc cc,.int .i64 nv,.int .i64 how,.string note] 34)).alloc (.cells #[.slice none 0 0,.slice none 0 0] 71)=W at *;have H:=Hd h1;clear h1;obtain⟨at0,S0,sn0,sc0,D0,dn0,dc0,hAt,hbt,c00,c01,ht0⟩:=HT.out.zero_;subst hAt;obtain⟨S1,sn1,sc1,D1,dn1,dc1,c10,c11,ht1⟩:=HT.out.at1 rfl;obtain⟨S2,sn2,sc2,D2,dn2,dc2,c20,c21,ht2⟩:=HT.out.at2 rfl;have hn0:0<nt∧1<nt∧2<nt:=by have:=HT.out.1;simp at this;omega
 obtain⟨hn0,hn1,hn2⟩:=hn0;have hi1:(1:Int)<nt:=by omega
 have hi2:(2:Int)<nt:=by omega
 obtain⟨n0,n1,n2,n3,n4,n5,n6⟩:=H.out.cells7 1 rfl
 go_upto_region 15 with fail
 have q0:=H.out.oldCell (p:=at0) hbt c00;have q1:=H.out.oldCell (p:=⟨at0.block,at0.off+1,none⟩) hbt c01;have q2:=H.out.oldCell (p:=⟨at0.block,at0.off+2,none⟩) hbt c10;have q3:=H.out.oldCell (p:=⟨at0.block,at0.off+2+1,none⟩) hbt c11;have q4:=H.out.oldCell (p:=⟨at0.block,at0.off+4,none⟩) hbt c20;have q5:=H.out.oldCell (p:=⟨at0.block,at0.off+4+1,none⟩) hbt c21
 go_region_held3 (fun w' => w'.cell? at0=some (.slice S0 sn0 sc0)∧w'.cell? ⟨at0.block,at0.off+1,none⟩=some (.slice D0 dn0 dc0)∧w'.cell? ⟨at0.block,at0.off+2,none⟩=some (.slice S1 sn1 sc1)∧w'.cell? ⟨at0.block,at0.off+2+1,none⟩=some (.slice D1 dn1 dc1)∧w'.cell? ⟨at0.block,at0.off+4,none⟩=some (.slice S2 sn2 sc2)∧w'.cell? ⟨at0.block,at0.off+4+1,none⟩=some (.slice D2 dn2 dc2)) (go_keep)
  (first|(go_at_call 69;refine(ref4Pick_any (ht0.below H.out.drew.base) (ht1.below H.out.drew.base) (ht2.below H.out.drew.base)).mono ?_;rintro e7 w7 ⟨⟨u7,rfl,hu7⟩,hb7⟩;obtain⟨S7,ns7,sc7,D7,nd7,dc7,rfl,hs7,hd7,hsc7,hdc7,hle7,h7⟩:=H.out.drew.addTen hb7 hu7;have H7:=Hd h7;have m0:=H7.out.oldCell (p:=at0) hbt c00;have m1:=H7.out.oldCell (p:=⟨at0.block,at0.off+1,none⟩) hbt c01;have m2:=H7.out.oldCell (p:=⟨at0.block,at0.off+2,none⟩) hbt c10;have m3:=H7.out.oldCell (p:=⟨at0.block,at0.off+2+1,none⟩) hbt c11;have m4:=H7.out.oldCell (p:=⟨at0.block,at0.off+4,none⟩) hbt c20;have m5:=H7.out.oldCell (p:=⟨at0.block,at0.off+4+1,none⟩) hbt c21;obtain ⟨r0,r1⟩:=H7.out.z2 2 rfl;obtain ⟨fr0,fr1⟩:=H7.out.f2 2 rfl;have H8:=Hd ((H7.out.setBox 2 0 (.slice S7 ns7 sc7) rfl).setBox 2 1 (.slice D7 nd7 dc7) rfl);have k0:((w7.setCell ⟨w.heap.size+1,0,none⟩ (.slice S7 ns7 sc7)).setCell ⟨w.heap.size+1,1,none⟩ (.slice D7 nd7 dc7)).cell? at0=some (.slice S0 sn0 sc0):=H8.out.oldCell (p:=at0) hbt c00;have k1:((w7.setCell ⟨w.heap.size+1,0,none⟩ (.slice S7 ns7 sc7)).setCell ⟨w.heap.size+1,1,none⟩ (.slice D7 nd7 dc7)).cell? ⟨at0.block,at0.off+1,none⟩=some (.slice D0 dn0 dc0):=H8.out.oldCell (p:=⟨at0.block,at0.off+1,none⟩) hbt c01;have k2:((w7.setCell ⟨w.heap.size+1,0,none⟩ (.slice S7 ns7 sc7)).setCell ⟨w.heap.size+1,1,none⟩ (.slice D7 nd7 dc7)).cell? ⟨at0.block,at0.off+2,none⟩=some (.slice S1 sn1 sc1):=H8.out.oldCell (p:=⟨at0.block,at0.off+2,none⟩) hbt c10;have k3:((w7.setCell ⟨w.heap.size+1,0,none⟩ (.slice S7 ns7 sc7)).setCell ⟨w.heap.size+1,1,none⟩ (.slice D7 nd7 dc7)).cell? ⟨at0.block,at0.off+2+1,none⟩=some (.slice D1 dn1 dc1):=H8.out.oldCell (p:=⟨at0.block,at0.off+2+1,none⟩) hbt c11;have k4:((w7.setCell ⟨w.heap.size+1,0,none⟩ (.slice S7 ns7 sc7)).setCell ⟨w.heap.size+1,1,none⟩ (.slice D7 nd7 dc7)).cell? ⟨at0.block,at0.off+4,none⟩=some (.slice S2 sn2 sc2):=H8.out.oldCell (p:=⟨at0.block,at0.off+4,none⟩) hbt c20;have k5:((w7.setCell ⟨w.heap.size+1,0,none⟩ (.slice S7 ns7 sc7)).setCell ⟨w.heap.size+1,1,none⟩ (.slice D7 nd7 dc7)).cell? ⟨at0.block,at0.off+4+1,none⟩=some (.slice D2 dn2 dc2):=H8.out.oldCell (p:=⟨at0.block,at0.off+4+1,none⟩) hbt c21;clear hu7 hb7 h7 hs7 hd7))
 go_wp2;exact sep_ret2 H8.out 2 rfl (z:=.int .i64 _) Tryz.results37 rfl rfl rfl ⟨⟨_,rfl,_,_,ns7,nd7,rfl,H8.out.ownS 0 rfl,H8.out.ownS 1 rfl⟩,H8.out.base⟩
theorem work_13 {w:World} {v:Value} {nd:NodeV} {At:Option Addr} {nt ct:Nat} {x:List Int × List Int} (hop:nd.op=13) (h:NodeIs w v nd) (hT:Tens w At nt [x]) :
  Calls Tryz.prog 37 #[v,.slice At nt ct] w (WorkPost w (turnR x.1 x.2 nd.a)):=by
 obtain⟨op,ins,shape,a,nv,how,note⟩:=nd;simp only at hop;subst hop;have HN:=h;obtain⟨A,na,ca,B,nb,cb,C,nc,cc,rfl,hL⟩:=h;replace HN:=Hd HN;obtain⟨hia,hib,hic,hA,hB,hC,hfo,hfx,hfh,hnote⟩:=hL;simp only at hA hB hC hfo hfx hfh hnote;have h1:=((((Sep.nil w).old hC).old hB).allocBox w.heap.size 34 [.int .i64 13,.slice A na ca,.slice B nb cb,.slice C nc cc,.int .i64 nv,.int .i64 how,.string note] rfl).allocBox (w.heap.size+1) 71 [.slice none 0 0,.slice none 0 0] (by simp);have hbl:=hB.len;have hcl:=hC.len;have HBL:=Hd hbl;have HCL:=Hd hcl;have hnbl:=hB.le;have hncl:=hC.le;have HFX:=Hd hfx;have HT:=Hd hT;have HC:=Hd hC;clear hA hB hC hT hbl hcl hfx hnote
 go_enter Tryz.func37,Tryz.ntmps37
 go_upto_region 1 with fail
 generalize (w.alloc (.cells #[.int .i64 13,.slice A na ca,.slice B nb cb,.slice C nc cc,.int .i64 nv,.int .i64 how,.string note] 34)).alloc (.cells #[.slice none 0 0,.slice none 0 0] 71)=W at *;have H:=Hd h1;clear h1;obtain⟨at0,S0,sn0,sc0,D0,dn0,dc0,hAt,hbt,c00,c01,ht0⟩:=HT.out.zero_;subst hAt;have hn0:0<nt:=by have:=HT.out.1;simp at this;omega
 obtain⟨n0,n1,n2,n3,n4,n5,n6⟩:=H.out.cells7 1 rfl
 go_upto_region 17 with fail
 have q0:=H.out.cell 1 3 rfl rfl;have q1:=H.out.oldCell (p:=at0) hbt c00;have q2:=H.out.oldCell (p:=⟨at0.block,at0.off+1,none⟩) hbt c01
 go_region_held3 (fun w' => w'.cell? ⟨w.heap.size,3,none⟩=some (.slice C nc cc)∧w'.cell? at0=some (.slice S0 sn0 sc0)∧w'.cell? ⟨at0.block,at0.off+1,none⟩=some (.slice D0 dn0 dc0)) (go_keep)
  (first|(go_at_call 70;refine(ref4Turn_any (ht0.below H.out.drew.base) (H.out.drew.oldInts 3 rfl)).mono ?_;rintro e7 w7 ⟨⟨u7,rfl,hu7⟩,hb7⟩;obtain⟨S7,ns7,sc7,D7,nd7,dc7,rfl,hs7,hd7,hsc7,hdc7,hle7,h7⟩:=H.out.drew.addTen hb7 hu7;have H7:=Hd h7;have m0:=H7.out.cell 3 3 rfl rfl;have m1:=H7.out.oldCell (p:=at0) hbt c00;have m2:=H7.out.oldCell (p:=⟨at0.block,at0.off+1,none⟩) hbt c01;obtain ⟨r0,r1⟩:=H7.out.z2 2 rfl;obtain ⟨fr0,fr1⟩:=H7.out.f2 2 rfl;have H8:=Hd ((H7.out.setBox 2 0 (.slice S7 ns7 sc7) rfl).setBox 2 1 (.slice D7 nd7 dc7) rfl);have k0:((w7.setCell ⟨w.heap.size+1,0,none⟩ (.slice S7 ns7 sc7)).setCell ⟨w.heap.size+1,1,none⟩ (.slice D7 nd7 dc7)).cell? ⟨w.heap.size,3,none⟩=some (.slice C nc cc):=H8.out.cell 3 3 rfl rfl;have k1:((w7.setCell ⟨w.heap.size+1,0,none⟩ (.slice S7 ns7 sc7)).setCell ⟨w.heap.size+1,1,none⟩ (.slice D7 nd7 dc7)).cell? at0=some (.slice S0 sn0 sc0):=H8.out.oldCell (p:=at0) hbt c00;have k2:((w7.setCell ⟨w.heap.size+1,0,none⟩ (.slice S7 ns7 sc7)).setCell ⟨w.heap.size+1,1,none⟩ (.slice D7 nd7 dc7)).cell? ⟨at0.block,at0.off+1,none⟩=some (.slice D0 dn0 dc0):=H8.out.oldCell (p:=⟨at0.block,at0.off+1,none⟩) hbt c01;clear hu7 hb7 h7 hs7 hd7))
 go_wp2;exact sep_ret2 H8.out 2 rfl (z:=.int .i64 _) Tryz.results37 rfl rfl rfl ⟨⟨_,rfl,_,_,ns7,nd7,rfl,H8.out.ownS 0 rfl,H8.out.ownS 1 rfl⟩,H8.out.base⟩
theorem work_14 {w:World} {v:Value} {nd:NodeV} {At:Option Addr} {nt ct:Nat} {x:List Int × List Int} (hop:nd.op=14) (h:NodeIs w v nd) (hT:Tens w At nt [x]) :
  Calls Tryz.prog 37 #[v,.slice At nt ct] w (WorkPost w (spR x.1 x.2 nd.shape nd.a)):=by
 obtain⟨op,ins,shape,a,nv,how,note⟩:=nd;simp only at hop;subst hop;have HN:=h;obtain⟨A,na,ca,B,nb,cb,C,nc,cc,rfl,hL⟩:=h;replace HN:=Hd HN;obtain⟨hia,hib,hic,hA,hB,hC,hfo,hfx,hfh,hnote⟩:=hL;simp only at hA hB hC hfo hfx hfh hnote;have h1:=((((Sep.nil w).old hC).old hB).allocBox w.heap.size 34 [.int .i64 14,.slice A na ca,.slice B nb cb,.slice C nc cc,.int .i64 nv,.int .i64 how,.string note] rfl).allocBox (w.heap.size+1) 71 [.slice none 0 0,.slice none 0 0] (by simp);have hbl:=hB.len;have hcl:=hC.len;have HBL:=Hd hbl;have HCL:=Hd hcl;have hnbl:=hB.le;have hncl:=hC.le;have HFX:=Hd hfx;have HT:=Hd hT;have HC:=Hd hC;clear hA hB hC hT hbl hcl hfx hnote
 go_enter Tryz.func37,Tryz.ntmps37
 go_upto_region 1 with fail
 generalize (w.alloc (.cells #[.int .i64 14,.slice A na ca,.slice B nb cb,.slice C nc cc,.int .i64 nv,.int .i64 how,.string note] 34)).alloc (.cells #[.slice none 0 0,.slice none 0 0] 71)=W at *;have H:=Hd h1;clear h1;obtain⟨at0,S0,sn0,sc0,D0,dn0,dc0,hAt,hbt,c00,c01,ht0⟩:=HT.out.zero_;subst hAt;have hn0:0<nt:=by have:=HT.out.1;simp at this;omega
 obtain⟨n0,n1,n2,n3,n4,n5,n6⟩:=H.out.cells7 1 rfl
 go_upto_region 19 with fail
 have q0:=H.out.cell 1 2 rfl rfl;have q1:=H.out.cell 1 3 rfl rfl;have q2:=H.out.oldCell (p:=at0) hbt c00;have q3:=H.out.oldCell (p:=⟨at0.block,at0.off+1,none⟩) hbt c01
 go_region_held3 (fun w' => w'.cell? ⟨w.heap.size,2,none⟩=some (.slice B nb cb)∧w'.cell? ⟨w.heap.size,3,none⟩=some (.slice C nc cc)∧w'.cell? at0=some (.slice S0 sn0 sc0)∧w'.cell? ⟨at0.block,at0.off+1,none⟩=some (.slice D0 dn0 dc0)) (go_keep)
  (first|(go_at_call 71;refine(ref4Spread_any (ht0.below H.out.drew.base) (H.out.drew.oldInts 2 rfl) (H.out.drew.oldInts 3 rfl)).mono ?_;rintro e7 w7 ⟨⟨u7,rfl,hu7⟩,hb7⟩;obtain⟨S7,ns7,sc7,D7,nd7,dc7,rfl,hs7,hd7,hsc7,hdc7,hle7,h7⟩:=H.out.drew.addTen hb7 hu7;have H7:=Hd h7;have m0:=H7.out.cell 3 2 rfl rfl;have m1:=H7.out.cell 3 3 rfl rfl;have m2:=H7.out.oldCell (p:=at0) hbt c00;have m3:=H7.out.oldCell (p:=⟨at0.block,at0.off+1,none⟩) hbt c01;obtain ⟨r0,r1⟩:=H7.out.z2 2 rfl;obtain ⟨fr0,fr1⟩:=H7.out.f2 2 rfl;have H8:=Hd ((H7.out.setBox 2 0 (.slice S7 ns7 sc7) rfl).setBox 2 1 (.slice D7 nd7 dc7) rfl);have k0:((w7.setCell ⟨w.heap.size+1,0,none⟩ (.slice S7 ns7 sc7)).setCell ⟨w.heap.size+1,1,none⟩ (.slice D7 nd7 dc7)).cell? ⟨w.heap.size,2,none⟩=some (.slice B nb cb):=H8.out.cell 3 2 rfl rfl;have k1:((w7.setCell ⟨w.heap.size+1,0,none⟩ (.slice S7 ns7 sc7)).setCell ⟨w.heap.size+1,1,none⟩ (.slice D7 nd7 dc7)).cell? ⟨w.heap.size,3,none⟩=some (.slice C nc cc):=H8.out.cell 3 3 rfl rfl;have k2:((w7.setCell ⟨w.heap.size+1,0,none⟩ (.slice S7 ns7 sc7)).setCell ⟨w.heap.size+1,1,none⟩ (.slice D7 nd7 dc7)).cell? at0=some (.slice S0 sn0 sc0):=H8.out.oldCell (p:=at0) hbt c00;have k3:((w7.setCell ⟨w.heap.size+1,0,none⟩ (.slice S7 ns7 sc7)).setCell ⟨w.heap.size+1,1,none⟩ (.slice D7 nd7 dc7)).cell? ⟨at0.block,at0.off+1,none⟩=some (.slice D0 dn0 dc0):=H8.out.oldCell (p:=⟨at0.block,at0.off+1,none⟩) hbt c01;clear hu7 hb7 h7 hs7 hd7))
 go_wp2;exact sep_ret2 H8.out 2 rfl (z:=.int .i64 _) Tryz.results37 rfl rfl rfl ⟨⟨_,rfl,_,_,ns7,nd7,rfl,H8.out.ownS 0 rfl,H8.out.ownS 1 rfl⟩,H8.out.base⟩
theorem work_18 {w:World} {v:Value} {nd:NodeV} {At:Option Addr} {nt ct:Nat} {x:List Int × List Int} (hop:nd.op=18) (h:NodeIs w v nd) (hT:Tens w At nt [x]) :
  Calls Tryz.prog 37 #[v,.slice At nt ct] w (WorkPost w (foldR nd.how x.1 x.2 nd.a)):=by
 obtain⟨op,ins,shape,a,nv,how,note⟩:=nd;simp only at hop;subst hop;have HN:=h;obtain⟨A,na,ca,B,nb,cb,C,nc,cc,rfl,hL⟩:=h;replace HN:=Hd HN;obtain⟨hia,hib,hic,hA,hB,hC,hfo,hfx,hfh,hnote⟩:=hL;simp only at hA hB hC hfo hfx hfh hnote;have h1:=((((Sep.nil w).old hC).old hB).allocBox w.heap.size 34 [.int .i64 18,.slice A na ca,.slice B nb cb,.slice C nc cc,.int .i64 nv,.int .i64 how,.string note] rfl).allocBox (w.heap.size+1) 71 [.slice none 0 0,.slice none 0 0] (by simp);have hbl:=hB.len;have hcl:=hC.len;have HBL:=Hd hbl;have HCL:=Hd hcl;have hnbl:=hB.le;have hncl:=hC.le;have HFX:=Hd hfx;have HT:=Hd hT;have HC:=Hd hC;clear hA hB hC hT hbl hcl hfx hnote
 go_enter Tryz.func37,Tryz.ntmps37
 go_upto_region 1 with fail
 generalize (w.alloc (.cells #[.int .i64 18,.slice A na ca,.slice B nb cb,.slice C nc cc,.int .i64 nv,.int .i64 how,.string note] 34)).alloc (.cells #[.slice none 0 0,.slice none 0 0] 71)=W at *;have H:=Hd h1;clear h1;obtain⟨at0,S0,sn0,sc0,D0,dn0,dc0,hAt,hbt,c00,c01,ht0⟩:=HT.out.zero_;subst hAt;have hn0:0<nt:=by have:=HT.out.1;simp at this;omega
 obtain⟨n0,n1,n2,n3,n4,n5,n6⟩:=H.out.cells7 1 rfl
 go_upto_region 36 with fail
 have q0:=H.out.cell 1 3 rfl rfl;have q1:=H.out.cell 1 5 rfl rfl;have q2:=H.out.oldCell (p:=at0) hbt c00;have q3:=H.out.oldCell (p:=⟨at0.block,at0.off+1,none⟩) hbt c01
 go_region_held3 (fun w' => w'.cell? ⟨w.heap.size,3,none⟩=some (.slice C nc cc)∧w'.cell? ⟨w.heap.size,5,none⟩=some (.int .i64 how)∧w'.cell? at0=some (.slice S0 sn0 sc0)∧w'.cell? ⟨at0.block,at0.off+1,none⟩=some (.slice D0 dn0 dc0)) (go_keep)
  (first|(go_at_call 76;refine(ref6Fold_any how (ht0.below H.out.drew.base) (H.out.drew.oldInts 3 rfl)).mono ?_;rintro e7 w7 ⟨⟨u7,rfl,hu7⟩,hb7⟩;obtain⟨S7,ns7,sc7,D7,nd7,dc7,rfl,hs7,hd7,hsc7,hdc7,hle7,h7⟩:=H.out.drew.addTen hb7 hu7;have H7:=Hd h7;have m0:=H7.out.cell 3 3 rfl rfl;have m1:=H7.out.cell 3 5 rfl rfl;have m2:=H7.out.oldCell (p:=at0) hbt c00;have m3:=H7.out.oldCell (p:=⟨at0.block,at0.off+1,none⟩) hbt c01;obtain ⟨r0,r1⟩:=H7.out.z2 2 rfl;obtain ⟨fr0,fr1⟩:=H7.out.f2 2 rfl;have H8:=Hd ((H7.out.setBox 2 0 (.slice S7 ns7 sc7) rfl).setBox 2 1 (.slice D7 nd7 dc7) rfl);have k0:((w7.setCell ⟨w.heap.size+1,0,none⟩ (.slice S7 ns7 sc7)).setCell ⟨w.heap.size+1,1,none⟩ (.slice D7 nd7 dc7)).cell? ⟨w.heap.size,3,none⟩=some (.slice C nc cc):=H8.out.cell 3 3 rfl rfl;have k1:((w7.setCell ⟨w.heap.size+1,0,none⟩ (.slice S7 ns7 sc7)).setCell ⟨w.heap.size+1,1,none⟩ (.slice D7 nd7 dc7)).cell? ⟨w.heap.size,5,none⟩=some (.int .i64 how):=H8.out.cell 3 5 rfl rfl;have k2:((w7.setCell ⟨w.heap.size+1,0,none⟩ (.slice S7 ns7 sc7)).setCell ⟨w.heap.size+1,1,none⟩ (.slice D7 nd7 dc7)).cell? at0=some (.slice S0 sn0 sc0):=H8.out.oldCell (p:=at0) hbt c00;have k3:((w7.setCell ⟨w.heap.size+1,0,none⟩ (.slice S7 ns7 sc7)).setCell ⟨w.heap.size+1,1,none⟩ (.slice D7 nd7 dc7)).cell? ⟨at0.block,at0.off+1,none⟩=some (.slice D0 dn0 dc0):=H8.out.oldCell (p:=⟨at0.block,at0.off+1,none⟩) hbt c01;clear hu7 hb7 h7 hs7 hd7))
 go_wp2;exact sep_ret2 H8.out 2 rfl (z:=.int .i64 _) Tryz.results37 rfl rfl rfl ⟨⟨_,rfl,_,_,ns7,nd7,rfl,H8.out.ownS 0 rfl,H8.out.ownS 1 rfl⟩,H8.out.base⟩
theorem work_15 {w:World} {v:Value} {nd:NodeV} {At:Option Addr} {nt ct:Nat} {x:List Int × List Int} (hop:nd.op=15) (hr0:tenRight x.1 x.2=true) (h:NodeIs w v nd) (hT:Tens w At nt [x]) :
  Calls Tryz.prog 37 #[v,.slice At nt ct] w (WorkPost w (if nd.a.length=2*x.1.length then cutR x.1 x.2 (nd.a.take x.1.length) (nd.a.drop x.1.length) else refused 1)):=by
 by_cases hc:nd.a.length=2*x.1.length
 ·rw[if_pos hc];obtain⟨op,ins,shape,a,nv,how,note⟩:=nd;simp only at hop;subst hop;have HN:=h;obtain⟨A,na,ca,B,nb,cb,C,nc,cc,rfl,hL⟩:=h;replace HN:=Hd HN;obtain⟨hia,hib,hic,hA,hB,hC,hfo,hfx,hfh,hnote⟩:=hL;simp only at hA hB hC hfo hfx hfh hnote;have h1:=((((Sep.nil w).old hC).old hB).allocBox w.heap.size 34 [.int .i64 15,.slice A na ca,.slice B nb cb,.slice C nc cc,.int .i64 nv,.int .i64 how,.string note] rfl).allocBox (w.heap.size+1) 71 [.slice none 0 0,.slice none 0 0] (by simp);have hbl:=hB.len;have hcl:=hC.len;have HBL:=Hd hbl;have HCL:=Hd hcl;have hnbl:=hB.le;have hncl:=hC.le;have HFX:=Hd hfx;have HT:=Hd hT;have HC:=Hd hC;clear hA hB hC hT hbl hcl hfx hnote
  go_enter Tryz.func37,Tryz.ntmps37
  go_upto_region 1 with fail
  generalize (w.alloc (.cells #[.int .i64 15,.slice A na ca,.slice B nb cb,.slice C nc cc,.int .i64 nv,.int .i64 how,.string note] 34)).alloc (.cells #[.slice none 0 0,.slice none 0 0] 71)=W at *;have H:=Hd h1;clear h1;obtain⟨at0,S0,sn0,sc0,D0,dn0,dc0,hAt,hbt,c00,c01,ht0⟩:=HT.out.zero_;subst hAt;have hn0:0<nt:=by have:=HT.out.1;simp at this;omega
  simp only at hc;obtain⟨hsn,hsc⟩:=ten_len ht0;have hs4:sn0≤4:=by have:=(right_len hr0).1;omega
  have HSN:=Hd hsn;have hnc:=Hd (show nc=2*sn0 by have:=HCL.out;omega);clear hsn;have q0:=H.out.oldCell hbt c00;have q1:=H.out.oldCell (p:=⟨at0.block,at0.off+1,none⟩) hbt c01;obtain⟨n0,n1,n2,n3,n4,n5,n6⟩:=H.out.cells7 1 rfl;have hn1:NodeIs w _ _:=HN.out
  go_upto_region 23 with fail
  have C1:Calls Tryz.prog 66 #[.agg #[.int .i64 15,.slice A na ca,.slice B nb cb,.slice C nc cc,.int .i64 nv,.int .i64 how,.string note],.int .i64 (2*(sn0:Int))] W fun e w7=>e=.returned (.bool true)∧Below W.heap.size W w7:=(ref10Count_any _ (HN.out.below H.out.base)).mono fun _ _ ⟨he,hb⟩=>⟨he.trans (ret_bool (decide_eq_true (by have h8:a.length=nc:=HCL.out;have:=hnc.out;simp only;omega))),hb⟩
  clear hn1
  go_wp2_with fail
  refine C1.mono ?_;rintro e3 w3 ⟨rfl,hb3⟩;replace H:=Hd (H.out.below hb3);clear C1 hb3 n0 n1 n2 n3 n4 n5 n6 q0 q1;have hk:sn0≤nc:=by have:=hnc.out;omega
  have hsl1:=run_takeG HC.out hk hic;have hsl2:=run_dropG HC.out hk hic;obtain⟨A8,hA8⟩:∃ A8,dropA C cc sn0=A8:=⟨_,rfl⟩;have hI8:=HC.out.dropA hk hic;rw[hA8] at hsl2 hI8;have HI8:Hid (Ints w A8 (nc-sn0) (a.drop x.1.length)):=Hd (by rw[HSN.out];exact hI8);have HI7:Hid (Ints w C sn0 (a.take x.1.length)):=Hd (by rw[HSN.out];exact HC.out.take hk);clear hI8 hA8;obtain⟨n0,n1,n2,n3,n4,n5,n6⟩:=H.out.cells7 1 rfl;have q0:=H.out.oldCell hbt c00;have q1:=H.out.oldCell (p:=⟨at0.block,at0.off+1,none⟩) hbt c01
  go_upto_region 26 with fail
  clear n0 n1 n2 n3 n4 n5 n6 q0 q1;obtain⟨n0,n1,n2,n3,n4,n5,n6⟩:=H.out.cells7 1 rfl
  go_upto_region 26 with fail
  have q0:=H.out.cell 1 3 rfl rfl;have q1:=H.out.oldCell (p:=at0) hbt c00;have q2:=H.out.oldCell (p:=⟨at0.block,at0.off+1,none⟩) hbt c01
  go_region_held3 (fun w' => w'.cell? ⟨w.heap.size,3,none⟩=some (.slice C nc cc)∧w'.cell? at0=some (.slice S0 sn0 sc0)∧w'.cell? ⟨at0.block,at0.off+1,none⟩=some (.slice D0 dn0 dc0)) (go_keep)
   (first|(go_at_call 72;refine(ref4Slice_any (ht0.below H.out.drew.base) (HI7.out.below H.out.drew.base) (HI8.out.below H.out.drew.base)).mono ?_;rintro e7 w7 ⟨⟨u7,rfl,hu7⟩,hb7⟩;obtain⟨S7,ns7,sc7,D7,nd7,dc7,rfl,hs7,hd7,hsc7,hdc7,hle7,h7⟩:=H.out.drew.addTen hb7 hu7;have H7:=Hd h7;have m0:=H7.out.cell 3 3 rfl rfl;have m1:=H7.out.oldCell (p:=at0) hbt c00;have m2:=H7.out.oldCell (p:=⟨at0.block,at0.off+1,none⟩) hbt c01;obtain ⟨r0,r1⟩:=H7.out.z2 2 rfl;obtain ⟨fr0,fr1⟩:=H7.out.f2 2 rfl;have H8:=Hd ((H7.out.setBox 2 0 (.slice S7 ns7 sc7) rfl).setBox 2 1 (.slice D7 nd7 dc7) rfl);have k0:((w7.setCell ⟨w.heap.size+1,0,none⟩ (.slice S7 ns7 sc7)).setCell ⟨w.heap.size+1,1,none⟩ (.slice D7 nd7 dc7)).cell? ⟨w.heap.size,3,none⟩=some (.slice C nc cc):=H8.out.cell 3 3 rfl rfl;have k1:((w7.setCell ⟨w.heap.size+1,0,none⟩ (.slice S7 ns7 sc7)).setCell ⟨w.heap.size+1,1,none⟩ (.slice D7 nd7 dc7)).cell? at0=some (.slice S0 sn0 sc0):=H8.out.oldCell (p:=at0) hbt c00;have k2:((w7.setCell ⟨w.heap.size+1,0,none⟩ (.slice S7 ns7 sc7)).setCell ⟨w.heap.size+1,1,none⟩ (.slice D7 nd7 dc7)).cell? ⟨at0.block,at0.off+1,none⟩=some (.slice D0 dn0 dc0):=H8.out.oldCell (p:=⟨at0.block,at0.off+1,none⟩) hbt c01;clear hu7 hb7 h7 hs7 hd7))
  go_wp2;exact sep_ret2 H8.out 2 rfl (z:=.int .i64 _) Tryz.results37 rfl rfl rfl ⟨⟨_,rfl,_,_,ns7,nd7,rfl,H8.out.ownS 0 rfl,H8.out.ownS 1 rfl⟩,H8.out.base⟩
 ·rw[if_neg hc];obtain⟨op,ins,shape,a,nv,how,note⟩:=nd;simp only at hop;subst hop;have HN:=h;obtain⟨A,na,ca,B,nb,cb,C,nc,cc,rfl,hL⟩:=h;replace HN:=Hd HN;obtain⟨hia,hib,hic,hA,hB,hC,hfo,hfx,hfh,hnote⟩:=hL;simp only at hA hB hC hfo hfx hfh hnote;have h1:=((((Sep.nil w).old hC).old hB).allocBox w.heap.size 34 [.int .i64 15,.slice A na ca,.slice B nb cb,.slice C nc cc,.int .i64 nv,.int .i64 how,.string note] rfl).allocBox (w.heap.size+1) 71 [.slice none 0 0,.slice none 0 0] (by simp);have hbl:=hB.len;have hcl:=hC.len;have HBL:=Hd hbl;have HCL:=Hd hcl;have hnbl:=hB.le;have hncl:=hC.le;have HFX:=Hd hfx;have HT:=Hd hT;have HC:=Hd hC;clear hA hB hC hT hbl hcl hfx hnote
  go_enter Tryz.func37,Tryz.ntmps37
  go_upto_region 1 with fail
  generalize (w.alloc (.cells #[.int .i64 15,.slice A na ca,.slice B nb cb,.slice C nc cc,.int .i64 nv,.int .i64 how,.string note] 34)).alloc (.cells #[.slice none 0 0,.slice none 0 0] 71)=W at *;have H:=Hd h1;clear h1;obtain⟨at0,S0,sn0,sc0,D0,dn0,dc0,hAt,hbt,c00,c01,ht0⟩:=HT.out.zero_;subst hAt;have hn0:0<nt:=by have:=HT.out.1;simp at this;omega
  simp only at hc;obtain⟨hsn,hsc⟩:=ten_len ht0;have hs4:sn0≤4:=by have:=(right_len hr0).1;omega
  have HSN:=Hd hsn;have hnc:=Hd (show ¬ nc=2*sn0 by have:=HCL.out;omega);clear hsn;have q0:=H.out.oldCell hbt c00;have q1:=H.out.oldCell (p:=⟨at0.block,at0.off+1,none⟩) hbt c01;obtain⟨n0,n1,n2,n3,n4,n5,n6⟩:=H.out.cells7 1 rfl;have hn1:NodeIs w _ _:=HN.out
  go_upto_region 23 with fail
  have C1:Calls Tryz.prog 66 #[.agg #[.int .i64 15,.slice A na ca,.slice B nb cb,.slice C nc cc,.int .i64 nv,.int .i64 how,.string note],.int .i64 (2*(sn0:Int))] W fun e w7=>e=.returned (.bool false)∧Below W.heap.size W w7:=(ref10Count_any _ (HN.out.below H.out.base)).mono fun _ _ ⟨he,hb⟩=>⟨he.trans (ret_bool (decide_eq_false (by have h8:a.length=nc:=HCL.out;have:=hnc.out;simp only;omega))),hb⟩
  clear hn1
  go_wp2_with fail
  refine C1.mono ?_;rintro e3 w3 ⟨rfl,hb3⟩;replace H:=Hd (H.out.below hb3);clear C1 hb3 n0 n1 n2 n3 n4 n5 n6 q0 q1;obtain ⟨r0,r1⟩:=H.out.z2 0 rfl;obtain ⟨fr0,fr1⟩:=H.out.f2 0 rfl;go_wp2;exact sep_ret2 ((H.out.setBox 0 0 (.slice none 0 0) rfl).setBox 0 1 (.slice none 0 0) rfl) 0 rfl (z:=.int .i64 1) Tryz.results37 rfl rfl rfl ⟨⟨_,rfl,_,_,0,0,rfl,OwnS.nil_ _ _ _,OwnS.nil_ _ _ _⟩,((H.out.setBox 0 0 (.slice none 0 0) rfl).setBox 0 1 (.slice none 0 0) rfl).base⟩
theorem work_16 {w:World} {v:Value} {nd:NodeV} {At:Option Addr} {nt ct:Nat} {x:List Int × List Int} (hop:nd.op=16) (hr0:tenRight x.1 x.2=true) (h:NodeIs w v nd) (hT:Tens w At nt [x]) :
  Calls Tryz.prog 37 #[v,.slice At nt ct] w (WorkPost w (if nd.a.length=2*x.1.length then padR x.1 x.2 (nd.a.take x.1.length) (nd.a.drop x.1.length) nd.n else refused 1)):=by
 by_cases hc:nd.a.length=2*x.1.length
 ·rw[if_pos hc];obtain⟨op,ins,shape,a,nv,how,note⟩:=nd;simp only at hop;subst hop;have HN:=h;obtain⟨A,na,ca,B,nb,cb,C,nc,cc,rfl,hL⟩:=h;replace HN:=Hd HN;obtain⟨hia,hib,hic,hA,hB,hC,hfo,hfx,hfh,hnote⟩:=hL;simp only at hA hB hC hfo hfx hfh hnote;have h1:=((((Sep.nil w).old hC).old hB).allocBox w.heap.size 34 [.int .i64 16,.slice A na ca,.slice B nb cb,.slice C nc cc,.int .i64 nv,.int .i64 how,.string note] rfl).allocBox (w.heap.size+1) 71 [.slice none 0 0,.slice none 0 0] (by simp);have hbl:=hB.len;have hcl:=hC.len;have HBL:=Hd hbl;have HCL:=Hd hcl;have hnbl:=hB.le;have hncl:=hC.le;have HFX:=Hd hfx;have HT:=Hd hT;have HC:=Hd hC;clear hA hB hC hT hbl hcl hfx hnote
  go_enter Tryz.func37,Tryz.ntmps37
  go_upto_region 1 with fail
  generalize (w.alloc (.cells #[.int .i64 16,.slice A na ca,.slice B nb cb,.slice C nc cc,.int .i64 nv,.int .i64 how,.string note] 34)).alloc (.cells #[.slice none 0 0,.slice none 0 0] 71)=W at *;have H:=Hd h1;clear h1;obtain⟨at0,S0,sn0,sc0,D0,dn0,dc0,hAt,hbt,c00,c01,ht0⟩:=HT.out.zero_;subst hAt;have hn0:0<nt:=by have:=HT.out.1;simp at this;omega
  simp only at hc;obtain⟨hsn,hsc⟩:=ten_len ht0;have hs4:sn0≤4:=by have:=(right_len hr0).1;omega
  have HSN:=Hd hsn;have hnc:=Hd (show nc=2*sn0 by have:=HCL.out;omega);clear hsn;have q0:=H.out.oldCell hbt c00;have q1:=H.out.oldCell (p:=⟨at0.block,at0.off+1,none⟩) hbt c01;obtain⟨n0,n1,n2,n3,n4,n5,n6⟩:=H.out.cells7 1 rfl;have hn1:NodeIs w _ _:=HN.out
  go_upto_region 23 with fail
  have C1:Calls Tryz.prog 66 #[.agg #[.int .i64 16,.slice A na ca,.slice B nb cb,.slice C nc cc,.int .i64 nv,.int .i64 how,.string note],.int .i64 (2*(sn0:Int))] W fun e w7=>e=.returned (.bool true)∧Below W.heap.size W w7:=(ref10Count_any _ (HN.out.below H.out.base)).mono fun _ _ ⟨he,hb⟩=>⟨he.trans (ret_bool (decide_eq_true (by have h8:a.length=nc:=HCL.out;have:=hnc.out;simp only;omega))),hb⟩
  clear hn1
  go_wp2_with fail
  refine C1.mono ?_;rintro e3 w3 ⟨rfl,hb3⟩;replace H:=Hd (H.out.below hb3);clear C1 hb3 n0 n1 n2 n3 n4 n5 n6 q0 q1;have hk:sn0≤nc:=by have:=hnc.out;omega
  have hsl1:=run_takeG HC.out hk hic;have hsl2:=run_dropG HC.out hk hic;obtain⟨A8,hA8⟩:∃ A8,dropA C cc sn0=A8:=⟨_,rfl⟩;have hI8:=HC.out.dropA hk hic;rw[hA8] at hsl2 hI8;have HI8:Hid (Ints w A8 (nc-sn0) (a.drop x.1.length)):=Hd (by rw[HSN.out];exact hI8);have HI7:Hid (Ints w C sn0 (a.take x.1.length)):=Hd (by rw[HSN.out];exact HC.out.take hk);clear hI8 hA8;obtain⟨n0,n1,n2,n3,n4,n5,n6⟩:=H.out.cells7 1 rfl;have q0:=H.out.oldCell hbt c00;have q1:=H.out.oldCell (p:=⟨at0.block,at0.off+1,none⟩) hbt c01
  go_upto_region 27 with fail
  clear n0 n1 n2 n3 n4 n5 n6 q0 q1;obtain⟨n0,n1,n2,n3,n4,n5,n6⟩:=H.out.cells7 1 rfl
  go_upto_region 27 with fail
  have q0:=H.out.cell 1 3 rfl rfl;have q1:=H.out.cell 1 4 rfl rfl;have q2:=H.out.oldCell (p:=at0) hbt c00;have q3:=H.out.oldCell (p:=⟨at0.block,at0.off+1,none⟩) hbt c01
  go_region_held3 (fun w' => w'.cell? ⟨w.heap.size,3,none⟩=some (.slice C nc cc)∧w'.cell? ⟨w.heap.size,4,none⟩=some (.int .i64 nv)∧w'.cell? at0=some (.slice S0 sn0 sc0)∧w'.cell? ⟨at0.block,at0.off+1,none⟩=some (.slice D0 dn0 dc0)) (go_keep)
   (first|(go_at_call 73;refine(ref4Pad_any _ (ht0.below H.out.drew.base) (HI7.out.below H.out.drew.base) (HI8.out.below H.out.drew.base) HFX.out).mono ?_;rintro e7 w7 ⟨⟨u7,rfl,hu7⟩,hb7⟩;obtain⟨S7,ns7,sc7,D7,nd7,dc7,rfl,hs7,hd7,hsc7,hdc7,hle7,h7⟩:=H.out.drew.addTen hb7 hu7;have H7:=Hd h7;have m0:=H7.out.cell 3 3 rfl rfl;have m1:=H7.out.cell 3 4 rfl rfl;have m2:=H7.out.oldCell (p:=at0) hbt c00;have m3:=H7.out.oldCell (p:=⟨at0.block,at0.off+1,none⟩) hbt c01;obtain ⟨r0,r1⟩:=H7.out.z2 2 rfl;obtain ⟨fr0,fr1⟩:=H7.out.f2 2 rfl;have H8:=Hd ((H7.out.setBox 2 0 (.slice S7 ns7 sc7) rfl).setBox 2 1 (.slice D7 nd7 dc7) rfl);have k0:((w7.setCell ⟨w.heap.size+1,0,none⟩ (.slice S7 ns7 sc7)).setCell ⟨w.heap.size+1,1,none⟩ (.slice D7 nd7 dc7)).cell? ⟨w.heap.size,3,none⟩=some (.slice C nc cc):=H8.out.cell 3 3 rfl rfl;have k1:((w7.setCell ⟨w.heap.size+1,0,none⟩ (.slice S7 ns7 sc7)).setCell ⟨w.heap.size+1,1,none⟩ (.slice D7 nd7 dc7)).cell? ⟨w.heap.size,4,none⟩=some (.int .i64 nv):=H8.out.cell 3 4 rfl rfl;have k2:((w7.setCell ⟨w.heap.size+1,0,none⟩ (.slice S7 ns7 sc7)).setCell ⟨w.heap.size+1,1,none⟩ (.slice D7 nd7 dc7)).cell? at0=some (.slice S0 sn0 sc0):=H8.out.oldCell (p:=at0) hbt c00;have k3:((w7.setCell ⟨w.heap.size+1,0,none⟩ (.slice S7 ns7 sc7)).setCell ⟨w.heap.size+1,1,none⟩ (.slice D7 nd7 dc7)).cell? ⟨at0.block,at0.off+1,none⟩=some (.slice D0 dn0 dc0):=H8.out.oldCell (p:=⟨at0.block,at0.off+1,none⟩) hbt c01;clear hu7 hb7 h7 hs7 hd7))
  go_wp2;exact sep_ret2 H8.out 2 rfl (z:=.int .i64 _) Tryz.results37 rfl rfl rfl ⟨⟨_,rfl,_,_,ns7,nd7,rfl,H8.out.ownS 0 rfl,H8.out.ownS 1 rfl⟩,H8.out.base⟩
 ·rw[if_neg hc];obtain⟨op,ins,shape,a,nv,how,note⟩:=nd;simp only at hop;subst hop;have HN:=h;obtain⟨A,na,ca,B,nb,cb,C,nc,cc,rfl,hL⟩:=h;replace HN:=Hd HN;obtain⟨hia,hib,hic,hA,hB,hC,hfo,hfx,hfh,hnote⟩:=hL;simp only at hA hB hC hfo hfx hfh hnote;have h1:=((((Sep.nil w).old hC).old hB).allocBox w.heap.size 34 [.int .i64 16,.slice A na ca,.slice B nb cb,.slice C nc cc,.int .i64 nv,.int .i64 how,.string note] rfl).allocBox (w.heap.size+1) 71 [.slice none 0 0,.slice none 0 0] (by simp);have hbl:=hB.len;have hcl:=hC.len;have HBL:=Hd hbl;have HCL:=Hd hcl;have hnbl:=hB.le;have hncl:=hC.le;have HFX:=Hd hfx;have HT:=Hd hT;have HC:=Hd hC;clear hA hB hC hT hbl hcl hfx hnote
  go_enter Tryz.func37,Tryz.ntmps37
  go_upto_region 1 with fail
  generalize (w.alloc (.cells #[.int .i64 16,.slice A na ca,.slice B nb cb,.slice C nc cc,.int .i64 nv,.int .i64 how,.string note] 34)).alloc (.cells #[.slice none 0 0,.slice none 0 0] 71)=W at *;have H:=Hd h1;clear h1;obtain⟨at0,S0,sn0,sc0,D0,dn0,dc0,hAt,hbt,c00,c01,ht0⟩:=HT.out.zero_;subst hAt;have hn0:0<nt:=by have:=HT.out.1;simp at this;omega
  simp only at hc;obtain⟨hsn,hsc⟩:=ten_len ht0;have hs4:sn0≤4:=by have:=(right_len hr0).1;omega
  have HSN:=Hd hsn;have hnc:=Hd (show ¬ nc=2*sn0 by have:=HCL.out;omega);clear hsn;have q0:=H.out.oldCell hbt c00;have q1:=H.out.oldCell (p:=⟨at0.block,at0.off+1,none⟩) hbt c01;obtain⟨n0,n1,n2,n3,n4,n5,n6⟩:=H.out.cells7 1 rfl;have hn1:NodeIs w _ _:=HN.out
  go_upto_region 23 with fail
  have C1:Calls Tryz.prog 66 #[.agg #[.int .i64 16,.slice A na ca,.slice B nb cb,.slice C nc cc,.int .i64 nv,.int .i64 how,.string note],.int .i64 (2*(sn0:Int))] W fun e w7=>e=.returned (.bool false)∧Below W.heap.size W w7:=(ref10Count_any _ (HN.out.below H.out.base)).mono fun _ _ ⟨he,hb⟩=>⟨he.trans (ret_bool (decide_eq_false (by have h8:a.length=nc:=HCL.out;have:=hnc.out;simp only;omega))),hb⟩
  clear hn1
  go_wp2_with fail
  refine C1.mono ?_;rintro e3 w3 ⟨rfl,hb3⟩;replace H:=Hd (H.out.below hb3);clear C1 hb3 n0 n1 n2 n3 n4 n5 n6 q0 q1;obtain ⟨r0,r1⟩:=H.out.z2 0 rfl;obtain ⟨fr0,fr1⟩:=H.out.f2 0 rfl;go_wp2;exact sep_ret2 ((H.out.setBox 0 0 (.slice none 0 0) rfl).setBox 0 1 (.slice none 0 0) rfl) 0 rfl (z:=.int .i64 1) Tryz.results37 rfl rfl rfl ⟨⟨_,rfl,_,_,0,0,rfl,OwnS.nil_ _ _ _,OwnS.nil_ _ _ _⟩,((H.out.setBox 0 0 (.slice none 0 0) rfl).setBox 0 1 (.slice none 0 0) rfl).base⟩
theorem work_17 {w:World} {v:Value} {nd:NodeV} {At:Option Addr} {nt ct:Nat} {L:TL} (hop:nd.op=17) (h:NodeIs w v nd) (hT:Tens w At nt L) :
  Calls Tryz.prog 37 #[v,.slice At nt ct] w (WorkPost w (if nd.a.length=1 then joinR (nd.a.getD 0 0) L else refused 1)):=by
 by_cases hc:nd.a.length=1
 ·rw[if_pos hc];obtain⟨g0,hg0⟩:∃ g,nd.a.getD 0 0=g:=⟨_,rfl⟩;rw[hg0];have HG0:=Hd hg0;clear hg0;obtain⟨op,ins,shape,a,nv,how,note⟩:=nd;simp only at hop;subst hop;have HN:=h;obtain⟨A,na,ca,B,nb,cb,C,nc,cc,rfl,hL⟩:=h;replace HN:=Hd HN;obtain⟨hia,hib,hic,hA,hB,hC,hfo,hfx,hfh,hnote⟩:=hL;simp only at hA hB hC hfo hfx hfh hnote;have h1:=((((Sep.nil w).old hC).old hB).allocBox w.heap.size 34 [.int .i64 17,.slice A na ca,.slice B nb cb,.slice C nc cc,.int .i64 nv,.int .i64 how,.string note] rfl).allocBox (w.heap.size+1) 71 [.slice none 0 0,.slice none 0 0] (by simp);have hbl:=hB.len;have hcl:=hC.len;have HBL:=Hd hbl;have HCL:=Hd hcl;have hnbl:=hB.le;have hncl:=hC.le;have HFX:=Hd hfx;have HT:=Hd hT;have HC:=Hd hC;clear hA hB hC hT hbl hcl hfx hnote
  go_enter Tryz.func37,Tryz.ntmps37
  go_upto_region 1 with fail
  generalize (w.alloc (.cells #[.int .i64 17,.slice A na ca,.slice B nb cb,.slice C nc cc,.int .i64 nv,.int .i64 how,.string note] 34)).alloc (.cells #[.slice none 0 0,.slice none 0 0] 71)=W at *;have H:=Hd h1;clear h1;simp only at hc;have hnc:=Hd (show nc=1 by have:=HCL.out;omega);obtain⟨n0,n1,n2,n3,n4,n5,n6⟩:=H.out.cells7 1 rfl
  go_upto_region 30 with fail
  have C1:Calls Tryz.prog 66 #[.agg #[.int .i64 17,.slice A na ca,.slice B nb cb,.slice C nc cc,.int .i64 nv,.int .i64 how,.string note],.int .i64 1] W fun e w7=>e=.returned (.bool true)∧Below W.heap.size W w7:=(ref10Count_any _ (HN.out.below H.out.base)).mono fun _ _ ⟨he,hb⟩=>⟨he.trans (ret_bool (decide_eq_true (by have h8:a.length=nc:=HCL.out;have:=hnc.out;simp only;omega))),hb⟩
  go_wp2_with fail
  refine C1.mono ?_;rintro e3 w3 ⟨rfl,hb3⟩;replace H:=Hd (H.out.below hb3);clear C1 hb3 n0 n1 n2 n3 n4 n5 n6;have hn3:1≤nc:=by have:=hnc.out;omega
  obtain⟨pa,y0,hpC,hpb,hy0,hcy0,hfy0⟩:=HC.out.at_ (k:=0) (by omega);subst hpC;rw[show pa.add 0=pa by cases pa;rfl] at hcy0;have HY0:=Hd (show a.getD 0 0=y0 by rw[List.getD_eq_getElem?_getD,hy0];rfl);clear hy0 hfy0;have hj0:(0:Int)<nc:=by omega
  have hl0:0<nc:=by omega
  obtain⟨n0,n1,n2,n3,n4,n5,n6⟩:=H.out.cells7 1 rfl
  go_upto_region 33 with fail
  clear n0 n1 n2 n3 n4 n5 n6;obtain⟨n0,n1,n2,n3,n4,n5,n6⟩:=H.out.cells7 1 rfl;have q0:=H.out.oldCell hpb hcy0
  go_wp2_with fail
  refine(Calls.mono (ref4Join_any y0 (HT.out.below H.out.base)) (fun _ _ hh=>(by rw[show g0=y0 from HG0.out.symm.trans HY0.out];exact hh:WorkPost _ (joinR g0 L) _ _))).mono ?_;rintro e7 w7 ⟨⟨u7,rfl,hu7⟩,hb7⟩;obtain⟨S7,ns7,sc7,D7,nd7,dc7,rfl,hs7,hd7,hsc7,hdc7,hle7,h7⟩:=H.out.addTen hb7 hu7;have H7:=Hd h7;obtain ⟨r0,r1⟩:=H7.out.z2 2 rfl;obtain ⟨fr0,fr1⟩:=H7.out.f2 2 rfl;have H8:=Hd ((H7.out.setBox 2 0 (.slice S7 ns7 sc7) rfl).setBox 2 1 (.slice D7 nd7 dc7) rfl);clear hu7 hb7 h7 hs7 hd7 q0 n0 n1 n2 n3 n4 n5 n6;go_wp2;exact sep_ret2 H8.out 2 rfl (z:=.int .i64 _) Tryz.results37 rfl rfl rfl ⟨⟨_,rfl,_,_,ns7,nd7,rfl,H8.out.ownS 0 rfl,H8.out.ownS 1 rfl⟩,H8.out.base⟩
 ·rw[if_neg hc];obtain⟨op,ins,shape,a,nv,how,note⟩:=nd;simp only at hop;subst hop;have HN:=h;obtain⟨A,na,ca,B,nb,cb,C,nc,cc,rfl,hL⟩:=h;replace HN:=Hd HN;obtain⟨hia,hib,hic,hA,hB,hC,hfo,hfx,hfh,hnote⟩:=hL;simp only at hA hB hC hfo hfx hfh hnote;have h1:=((((Sep.nil w).old hC).old hB).allocBox w.heap.size 34 [.int .i64 17,.slice A na ca,.slice B nb cb,.slice C nc cc,.int .i64 nv,.int .i64 how,.string note] rfl).allocBox (w.heap.size+1) 71 [.slice none 0 0,.slice none 0 0] (by simp);have hbl:=hB.len;have hcl:=hC.len;have HBL:=Hd hbl;have HCL:=Hd hcl;have hnbl:=hB.le;have hncl:=hC.le;have HFX:=Hd hfx;have HT:=Hd hT;have HC:=Hd hC;clear hA hB hC hT hbl hcl hfx hnote
  go_enter Tryz.func37,Tryz.ntmps37
  go_upto_region 1 with fail
  generalize (w.alloc (.cells #[.int .i64 17,.slice A na ca,.slice B nb cb,.slice C nc cc,.int .i64 nv,.int .i64 how,.string note] 34)).alloc (.cells #[.slice none 0 0,.slice none 0 0] 71)=W at *;have H:=Hd h1;clear h1;simp only at hc;have hnc:=Hd (show ¬ nc=1 by have:=HCL.out;omega);obtain⟨n0,n1,n2,n3,n4,n5,n6⟩:=H.out.cells7 1 rfl
  go_upto_region 30 with fail
  have C1:Calls Tryz.prog 66 #[.agg #[.int .i64 17,.slice A na ca,.slice B nb cb,.slice C nc cc,.int .i64 nv,.int .i64 how,.string note],.int .i64 1] W fun e w7=>e=.returned (.bool false)∧Below W.heap.size W w7:=(ref10Count_any _ (HN.out.below H.out.base)).mono fun _ _ ⟨he,hb⟩=>⟨he.trans (ret_bool (decide_eq_false (by have h8:a.length=nc:=HCL.out;have:=hnc.out;simp only;omega))),hb⟩
  go_wp2_with fail
  refine C1.mono ?_;rintro e3 w3 ⟨rfl,hb3⟩;replace H:=Hd (H.out.below hb3);clear C1 hb3 n0 n1 n2 n3 n4 n5 n6;obtain ⟨r0,r1⟩:=H.out.z2 0 rfl;obtain ⟨fr0,fr1⟩:=H.out.f2 0 rfl;go_wp2;exact sep_ret2 ((H.out.setBox 0 0 (.slice none 0 0) rfl).setBox 0 1 (.slice none 0 0) rfl) 0 rfl (z:=.int .i64 1) Tryz.results37 rfl rfl rfl ⟨⟨_,rfl,_,_,0,0,rfl,OwnS.nil_ _ _ _,OwnS.nil_ _ _ _⟩,((H.out.setBox 0 0 (.slice none 0 0) rfl).setBox 0 1 (.slice none 0 0) rfl).base⟩
theorem work_19 {w:World} {v:Value} {nd:NodeV} {At:Option Addr} {nt ct:Nat} {x y:List Int × List Int} (hop:nd.op=19) (h:NodeIs w v nd) (hT:Tens w At nt [x,y]) :
  Calls Tryz.prog 37 #[v,.slice At nt ct] w (WorkPost w (if nd.a.length=1 then dotR x.1 x.2 y.1 y.2 (nd.a.getD 0 0) else refused 1)):=by
 by_cases hc:nd.a.length=1
 ·rw[if_pos hc];obtain⟨g0,hg0⟩:∃ g,nd.a.getD 0 0=g:=⟨_,rfl⟩;rw[hg0];have HG0:=Hd hg0;clear hg0;obtain⟨op,ins,shape,a,nv,how,note⟩:=nd;simp only at hop;subst hop;have HN:=h;obtain⟨A,na,ca,B,nb,cb,C,nc,cc,rfl,hL⟩:=h;replace HN:=Hd HN;obtain⟨hia,hib,hic,hA,hB,hC,hfo,hfx,hfh,hnote⟩:=hL;simp only at hA hB hC hfo hfx hfh hnote;have h1:=((((Sep.nil w).old hC).old hB).allocBox w.heap.size 34 [.int .i64 19,.slice A na ca,.slice B nb cb,.slice C nc cc,.int .i64 nv,.int .i64 how,.string note] rfl).allocBox (w.heap.size+1) 71 [.slice none 0 0,.slice none 0 0] (by simp);have hbl:=hB.len;have hcl:=hC.len;have HBL:=Hd hbl;have HCL:=Hd hcl;have hnbl:=hB.le;have hncl:=hC.le;have HFX:=Hd hfx;have HT:=Hd hT;have HC:=Hd hC;clear hA hB hC hT hbl hcl hfx hnote
  go_enter Tryz.func37,Tryz.ntmps37
  go_upto_region 1 with fail
  generalize (w.alloc (.cells #[.int .i64 19,.slice A na ca,.slice B nb cb,.slice C nc cc,.int .i64 nv,.int .i64 how,.string note] 34)).alloc (.cells #[.slice none 0 0,.slice none 0 0] 71)=W at *;have H:=Hd h1;clear h1;simp only at hc;have hnc:=Hd (show nc=1 by have:=HCL.out;omega);obtain⟨at0,S0,sn0,sc0,D0,dn0,dc0,hAt,hbt,c00,c01,ht0⟩:=HT.out.zero_;subst hAt;obtain⟨S1,sn1,sc1,D1,dn1,dc1,c10,c11,ht1⟩:=HT.out.at1 rfl;have hn0:0<nt∧1<nt:=by have:=HT.out.1;simp at this;omega
  obtain⟨hn0,hn1⟩:=hn0;have hi1:(1:Int)<nt:=by omega
  obtain⟨n0,n1,n2,n3,n4,n5,n6⟩:=H.out.cells7 1 rfl
  go_upto_region 30 with fail
  have C1:Calls Tryz.prog 66 #[.agg #[.int .i64 19,.slice A na ca,.slice B nb cb,.slice C nc cc,.int .i64 nv,.int .i64 how,.string note],.int .i64 1] W fun e w7=>e=.returned (.bool true)∧Below W.heap.size W w7:=(ref10Count_any _ (HN.out.below H.out.base)).mono fun _ _ ⟨he,hb⟩=>⟨he.trans (ret_bool (decide_eq_true (by have h8:a.length=nc:=HCL.out;have:=hnc.out;simp only;omega))),hb⟩
  go_wp2_with fail
  refine C1.mono ?_;rintro e3 w3 ⟨rfl,hb3⟩;replace H:=Hd (H.out.below hb3);clear C1 hb3 n0 n1 n2 n3 n4 n5 n6;have hn3:1≤nc:=by have:=hnc.out;omega
  obtain⟨pa,y0,hpC,hpb,hy0,hcy0,hfy0⟩:=HC.out.at_ (k:=0) (by omega);subst hpC;rw[show pa.add 0=pa by cases pa;rfl] at hcy0;have HY0:=Hd (show a.getD 0 0=y0 by rw[List.getD_eq_getElem?_getD,hy0];rfl);clear hy0 hfy0;have hj0:(0:Int)<nc:=by omega
  have hl0:0<nc:=by omega
  obtain⟨n0,n1,n2,n3,n4,n5,n6⟩:=H.out.cells7 1 rfl
  go_upto_region 34 with fail
  clear n0 n1 n2 n3 n4 n5 n6;obtain⟨n0,n1,n2,n3,n4,n5,n6⟩:=H.out.cells7 1 rfl
  go_upto_region 34 with fail
  have q0:=H.out.cell 1 3 rfl rfl;have q1:=H.out.oldCell (p:=at0) hbt c00;have q2:=H.out.oldCell (p:=⟨at0.block,at0.off+1,none⟩) hbt c01;have q3:=H.out.oldCell (p:=⟨at0.block,at0.off+2,none⟩) hbt c10;have q4:=H.out.oldCell (p:=⟨at0.block,at0.off+2+1,none⟩) hbt c11;have q5:=H.out.oldCell (p:=pa) hpb hcy0
  go_region_held3 (fun w' => w'.cell? ⟨w.heap.size,3,none⟩=some (.slice (some pa) nc cc)∧w'.cell? at0=some (.slice S0 sn0 sc0)∧w'.cell? ⟨at0.block,at0.off+1,none⟩=some (.slice D0 dn0 dc0)∧w'.cell? ⟨at0.block,at0.off+2,none⟩=some (.slice S1 sn1 sc1)∧w'.cell? ⟨at0.block,at0.off+2+1,none⟩=some (.slice D1 dn1 dc1)∧w'.cell? pa=some (.int .i64 y0)) (go_keep)
   (first|(go_at_call 75;refine(Calls.mono (refDot_any y0 (ht0.below H.out.drew.base) (ht1.below H.out.drew.base)) (fun _ _ hh=>(by rw[show g0=y0 from HG0.out.symm.trans HY0.out];exact hh:WorkPost _ (dotR x.1 x.2 y.1 y.2 g0) _ _))).mono ?_;rintro e7 w7 ⟨⟨u7,rfl,hu7⟩,hb7⟩;obtain⟨S7,ns7,sc7,D7,nd7,dc7,rfl,hs7,hd7,hsc7,hdc7,hle7,h7⟩:=H.out.drew.addTen hb7 hu7;have H7:=Hd h7;have m0:=H7.out.cell 3 3 rfl rfl;have m1:=H7.out.oldCell (p:=at0) hbt c00;have m2:=H7.out.oldCell (p:=⟨at0.block,at0.off+1,none⟩) hbt c01;have m3:=H7.out.oldCell (p:=⟨at0.block,at0.off+2,none⟩) hbt c10;have m4:=H7.out.oldCell (p:=⟨at0.block,at0.off+2+1,none⟩) hbt c11;have m5:=H7.out.oldCell (p:=pa) hpb hcy0;obtain ⟨r0,r1⟩:=H7.out.z2 2 rfl;obtain ⟨fr0,fr1⟩:=H7.out.f2 2 rfl;have H8:=Hd ((H7.out.setBox 2 0 (.slice S7 ns7 sc7) rfl).setBox 2 1 (.slice D7 nd7 dc7) rfl);have k0:((w7.setCell ⟨w.heap.size+1,0,none⟩ (.slice S7 ns7 sc7)).setCell ⟨w.heap.size+1,1,none⟩ (.slice D7 nd7 dc7)).cell? ⟨w.heap.size,3,none⟩=some (.slice (some pa) nc cc):=H8.out.cell 3 3 rfl rfl;have k1:((w7.setCell ⟨w.heap.size+1,0,none⟩ (.slice S7 ns7 sc7)).setCell ⟨w.heap.size+1,1,none⟩ (.slice D7 nd7 dc7)).cell? at0=some (.slice S0 sn0 sc0):=H8.out.oldCell (p:=at0) hbt c00;have k2:((w7.setCell ⟨w.heap.size+1,0,none⟩ (.slice S7 ns7 sc7)).setCell ⟨w.heap.size+1,1,none⟩ (.slice D7 nd7 dc7)).cell? ⟨at0.block,at0.off+1,none⟩=some (.slice D0 dn0 dc0):=H8.out.oldCell (p:=⟨at0.block,at0.off+1,none⟩) hbt c01;have k3:((w7.setCell ⟨w.heap.size+1,0,none⟩ (.slice S7 ns7 sc7)).setCell ⟨w.heap.size+1,1,none⟩ (.slice D7 nd7 dc7)).cell? ⟨at0.block,at0.off+2,none⟩=some (.slice S1 sn1 sc1):=H8.out.oldCell (p:=⟨at0.block,at0.off+2,none⟩) hbt c10;have k4:((w7.setCell ⟨w.heap.size+1,0,none⟩ (.slice S7 ns7 sc7)).setCell ⟨w.heap.size+1,1,none⟩ (.slice D7 nd7 dc7)).cell? ⟨at0.block,at0.off+2+1,none⟩=some (.slice D1 dn1 dc1):=H8.out.oldCell (p:=⟨at0.block,at0.off+2+1,none⟩) hbt c11;have k5:((w7.setCell ⟨w.heap.size+1,0,none⟩ (.slice S7 ns7 sc7)).setCell ⟨w.heap.size+1,1,none⟩ (.slice D7 nd7 dc7)).cell? pa=some (.int .i64 y0):=H8.out.oldCell (p:=pa) hpb hcy0;clear hu7 hb7 h7 hs7 hd7))
  go_wp2;exact sep_ret2 H8.out 2 rfl (z:=.int .i64 _) Tryz.results37 rfl rfl rfl ⟨⟨_,rfl,_,_,ns7,nd7,rfl,H8.out.ownS 0 rfl,H8.out.ownS 1 rfl⟩,H8.out.base⟩
 ·rw[if_neg hc];obtain⟨op,ins,shape,a,nv,how,note⟩:=nd;simp only at hop;subst hop;have HN:=h;obtain⟨A,na,ca,B,nb,cb,C,nc,cc,rfl,hL⟩:=h;replace HN:=Hd HN;obtain⟨hia,hib,hic,hA,hB,hC,hfo,hfx,hfh,hnote⟩:=hL;simp only at hA hB hC hfo hfx hfh hnote;have h1:=((((Sep.nil w).old hC).old hB).allocBox w.heap.size 34 [.int .i64 19,.slice A na ca,.slice B nb cb,.slice C nc cc,.int .i64 nv,.int .i64 how,.string note] rfl).allocBox (w.heap.size+1) 71 [.slice none 0 0,.slice none 0 0] (by simp);have hbl:=hB.len;have hcl:=hC.len;have HBL:=Hd hbl;have HCL:=Hd hcl;have hnbl:=hB.le;have hncl:=hC.le;have HFX:=Hd hfx;have HT:=Hd hT;have HC:=Hd hC;clear hA hB hC hT hbl hcl hfx hnote
  go_enter Tryz.func37,Tryz.ntmps37
  go_upto_region 1 with fail
  generalize (w.alloc (.cells #[.int .i64 19,.slice A na ca,.slice B nb cb,.slice C nc cc,.int .i64 nv,.int .i64 how,.string note] 34)).alloc (.cells #[.slice none 0 0,.slice none 0 0] 71)=W at *;have H:=Hd h1;clear h1;simp only at hc;have hnc:=Hd (show ¬ nc=1 by have:=HCL.out;omega);obtain⟨at0,S0,sn0,sc0,D0,dn0,dc0,hAt,hbt,c00,c01,ht0⟩:=HT.out.zero_;subst hAt;obtain⟨S1,sn1,sc1,D1,dn1,dc1,c10,c11,ht1⟩:=HT.out.at1 rfl;have hn0:0<nt∧1<nt:=by have:=HT.out.1;simp at this;omega
  obtain⟨hn0,hn1⟩:=hn0;have hi1:(1:Int)<nt:=by omega
  obtain⟨n0,n1,n2,n3,n4,n5,n6⟩:=H.out.cells7 1 rfl
  go_upto_region 30 with fail
  have C1:Calls Tryz.prog 66 #[.agg #[.int .i64 19,.slice A na ca,.slice B nb cb,.slice C nc cc,.int .i64 nv,.int .i64 how,.string note],.int .i64 1] W fun e w7=>e=.returned (.bool false)∧Below W.heap.size W w7:=(ref10Count_any _ (HN.out.below H.out.base)).mono fun _ _ ⟨he,hb⟩=>⟨he.trans (ret_bool (decide_eq_false (by have h8:a.length=nc:=HCL.out;have:=hnc.out;simp only;omega))),hb⟩
  go_wp2_with fail
  refine C1.mono ?_;rintro e3 w3 ⟨rfl,hb3⟩;replace H:=Hd (H.out.below hb3);clear C1 hb3 n0 n1 n2 n3 n4 n5 n6;obtain ⟨r0,r1⟩:=H.out.z2 0 rfl;obtain ⟨fr0,fr1⟩:=H.out.f2 0 rfl;go_wp2;exact sep_ret2 ((H.out.setBox 0 0 (.slice none 0 0) rfl).setBox 0 1 (.slice none 0 0) rfl) 0 rfl (z:=.int .i64 1) Tryz.results37 rfl rfl rfl ⟨⟨_,rfl,_,_,0,0,rfl,OwnS.nil_ _ _ _,OwnS.nil_ _ _ _⟩,((H.out.setBox 0 0 (.slice none 0 0) rfl).setBox 0 1 (.slice none 0 0) rfl).base⟩
theorem work_20 {w:World} {v:Value} {nd:NodeV} {At:Option Addr} {nt ct:Nat} {x:List Int × List Int} (hop:nd.op=20) (h:NodeIs w v nd) (hT:Tens w At nt [x]) :
  Calls Tryz.prog 37 #[v,.slice At nt ct] w (WorkPost w (if nd.a.length=3 then winR nd.how x.1 x.2 (nd.a.getD 0 0) (nd.a.getD 1 0) (nd.a.getD 2 0) else refused 1)):=by
 by_cases hc:nd.a.length=3
 ·rw[if_pos hc];obtain⟨g0,hg0⟩:∃ g,nd.a.getD 0 0=g:=⟨_,rfl⟩;rw[hg0];have HG0:=Hd hg0;clear hg0;obtain⟨g1,hg1⟩:∃ g,nd.a.getD 1 0=g:=⟨_,rfl⟩;rw[hg1];have HG1:=Hd hg1;clear hg1;obtain⟨g2,hg2⟩:∃ g,nd.a.getD 2 0=g:=⟨_,rfl⟩;rw[hg2];have HG2:=Hd hg2;clear hg2;obtain⟨op,ins,shape,a,nv,how,note⟩:=nd;simp only at hop;subst hop;have HN:=h;obtain⟨A,na,ca,B,nb,cb,C,nc,cc,rfl,hL⟩:=h;replace HN:=Hd HN;obtain⟨hia,hib,hic,hA,hB,hC,hfo,hfx,hfh,hnote⟩:=hL;simp only at hA hB hC hfo hfx hfh hnote;have h1:=((((Sep.nil w).old hC).old hB).allocBox w.heap.size 34 [.int .i64 20,.slice A na ca,.slice B nb cb,.slice C nc cc,.int .i64 nv,.int .i64 how,.string note] rfl).allocBox (w.heap.size+1) 71 [.slice none 0 0,.slice none 0 0] (by simp);have hbl:=hB.len;have hcl:=hC.len;have HBL:=Hd hbl;have HCL:=Hd hcl;have hnbl:=hB.le;have hncl:=hC.le;have HFX:=Hd hfx;have HT:=Hd hT;have HC:=Hd hC;clear hA hB hC hT hbl hcl hfx hnote
  go_enter Tryz.func37,Tryz.ntmps37
  go_upto_region 1 with fail
  generalize (w.alloc (.cells #[.int .i64 20,.slice A na ca,.slice B nb cb,.slice C nc cc,.int .i64 nv,.int .i64 how,.string note] 34)).alloc (.cells #[.slice none 0 0,.slice none 0 0] 71)=W at *;have H:=Hd h1;clear h1;simp only at hc;have hnc:=Hd (show nc=3 by have:=HCL.out;omega);obtain⟨at0,S0,sn0,sc0,D0,dn0,dc0,hAt,hbt,c00,c01,ht0⟩:=HT.out.zero_;subst hAt;have hn0:0<nt:=by have:=HT.out.1;simp at this;omega
  obtain⟨n0,n1,n2,n3,n4,n5,n6⟩:=H.out.cells7 1 rfl
  go_upto_region 38 with fail
  have C1:Calls Tryz.prog 66 #[.agg #[.int .i64 20,.slice A na ca,.slice B nb cb,.slice C nc cc,.int .i64 nv,.int .i64 how,.string note],.int .i64 3] W fun e w7=>e=.returned (.bool true)∧Below W.heap.size W w7:=(ref10Count_any _ (HN.out.below H.out.base)).mono fun _ _ ⟨he,hb⟩=>⟨he.trans (ret_bool (decide_eq_true (by have h8:a.length=nc:=HCL.out;have:=hnc.out;simp only;omega))),hb⟩
  go_wp2_with fail
  refine C1.mono ?_;rintro e3 w3 ⟨rfl,hb3⟩;replace H:=Hd (H.out.below hb3);clear C1 hb3 n0 n1 n2 n3 n4 n5 n6;have hn3:3≤nc:=by have:=hnc.out;omega
  obtain⟨pa,y0,hpC,hpb,hy0,hcy0,hfy0⟩:=HC.out.at_ (k:=0) (by omega);subst hpC;rw[show pa.add 0=pa by cases pa;rfl] at hcy0;have HY0:=Hd (show a.getD 0 0=y0 by rw[List.getD_eq_getElem?_getD,hy0];rfl);obtain⟨pa1,y1,hpC,_,hy1,hcy1,hfy1⟩:=HC.out.at_ (k:=1) (by omega);injection hpC with hpC
  subst hpC;simp[Addr.add] at hcy1;have HY1:=Hd (show a.getD 1 0=y1 by rw[List.getD_eq_getElem?_getD,hy1];rfl);obtain⟨pa2,y2,hpC,_,hy2,hcy2,hfy2⟩:=HC.out.at_ (k:=2) (by omega);injection hpC with hpC
  subst hpC;simp[Addr.add] at hcy2;have HY2:=Hd (show a.getD 2 0=y2 by rw[List.getD_eq_getElem?_getD,hy2];rfl);clear hy0 hfy0 hy1 hfy1 hy2 hfy2;have hj0:(0:Int)<nc:=by omega
  have hj1:(1:Int)<nc:=by omega
  have hj2:(2:Int)<nc:=by omega
  have hl0:0<nc:=by omega
  have hl1:1<nc:=by omega
  have hl2:2<nc:=by omega
  obtain⟨n0,n1,n2,n3,n4,n5,n6⟩:=H.out.cells7 1 rfl
  go_upto_region 40 with fail
  clear n0 n1 n2 n3 n4 n5 n6;obtain⟨n0,n1,n2,n3,n4,n5,n6⟩:=H.out.cells7 1 rfl
  go_upto_region 40 with fail
  have q0:=H.out.cell 1 3 rfl rfl;have q1:=H.out.cell 1 5 rfl rfl;have q2:=H.out.oldCell (p:=at0) hbt c00;have q3:=H.out.oldCell (p:=⟨at0.block,at0.off+1,none⟩) hbt c01;have q4:=H.out.oldCell (p:=pa) hpb hcy0;have q5:=H.out.oldCell (p:=⟨pa.block,pa.off+1,none⟩) hpb hcy1;have q6:=H.out.oldCell (p:=⟨pa.block,pa.off+2,none⟩) hpb hcy2
  go_region_held3 (fun w' => w'.cell? ⟨w.heap.size,3,none⟩=some (.slice (some pa) nc cc)∧w'.cell? ⟨w.heap.size,5,none⟩=some (.int .i64 how)∧w'.cell? at0=some (.slice S0 sn0 sc0)∧w'.cell? ⟨at0.block,at0.off+1,none⟩=some (.slice D0 dn0 dc0)∧w'.cell? pa=some (.int .i64 y0)∧w'.cell? ⟨pa.block,pa.off+1,none⟩=some (.int .i64 y1)∧w'.cell? ⟨pa.block,pa.off+2,none⟩=some (.int .i64 y2)) (go_keep)
   (first|(go_at_call 77;refine(Calls.mono (ref8Window_any how y0 y1 y2 (ht0.below H.out.drew.base)) (fun _ _ hh=>(by rw[show g0=y0 from HG0.out.symm.trans HY0.out,show g1=y1 from HG1.out.symm.trans HY1.out,show g2=y2 from HG2.out.symm.trans HY2.out];exact hh:WorkPost _ (winR how x.1 x.2 g0 g1 g2) _ _))).mono ?_;rintro e7 w7 ⟨⟨u7,rfl,hu7⟩,hb7⟩;obtain⟨S7,ns7,sc7,D7,nd7,dc7,rfl,hs7,hd7,hsc7,hdc7,hle7,h7⟩:=H.out.drew.addTen hb7 hu7;have H7:=Hd h7;have m0:=H7.out.cell 3 3 rfl rfl;have m1:=H7.out.cell 3 5 rfl rfl;have m2:=H7.out.oldCell (p:=at0) hbt c00;have m3:=H7.out.oldCell (p:=⟨at0.block,at0.off+1,none⟩) hbt c01;have m4:=H7.out.oldCell (p:=pa) hpb hcy0;have m5:=H7.out.oldCell (p:=⟨pa.block,pa.off+1,none⟩) hpb hcy1;have m6:=H7.out.oldCell (p:=⟨pa.block,pa.off+2,none⟩) hpb hcy2;obtain ⟨r0,r1⟩:=H7.out.z2 2 rfl;obtain ⟨fr0,fr1⟩:=H7.out.f2 2 rfl;have H8:=Hd ((H7.out.setBox 2 0 (.slice S7 ns7 sc7) rfl).setBox 2 1 (.slice D7 nd7 dc7) rfl);have k0:((w7.setCell ⟨w.heap.size+1,0,none⟩ (.slice S7 ns7 sc7)).setCell ⟨w.heap.size+1,1,none⟩ (.slice D7 nd7 dc7)).cell? ⟨w.heap.size,3,none⟩=some (.slice (some pa) nc cc):=H8.out.cell 3 3 rfl rfl;have k1:((w7.setCell ⟨w.heap.size+1,0,none⟩ (.slice S7 ns7 sc7)).setCell ⟨w.heap.size+1,1,none⟩ (.slice D7 nd7 dc7)).cell? ⟨w.heap.size,5,none⟩=some (.int .i64 how):=H8.out.cell 3 5 rfl rfl;have k2:((w7.setCell ⟨w.heap.size+1,0,none⟩ (.slice S7 ns7 sc7)).setCell ⟨w.heap.size+1,1,none⟩ (.slice D7 nd7 dc7)).cell? at0=some (.slice S0 sn0 sc0):=H8.out.oldCell (p:=at0) hbt c00;have k3:((w7.setCell ⟨w.heap.size+1,0,none⟩ (.slice S7 ns7 sc7)).setCell ⟨w.heap.size+1,1,none⟩ (.slice D7 nd7 dc7)).cell? ⟨at0.block,at0.off+1,none⟩=some (.slice D0 dn0 dc0):=H8.out.oldCell (p:=⟨at0.block,at0.off+1,none⟩) hbt c01;have k4:((w7.setCell ⟨w.heap.size+1,0,none⟩ (.slice S7 ns7 sc7)).setCell ⟨w.heap.size+1,1,none⟩ (.slice D7 nd7 dc7)).cell? pa=some (.int .i64 y0):=H8.out.oldCell (p:=pa) hpb hcy0;have k5:((w7.setCell ⟨w.heap.size+1,0,none⟩ (.slice S7 ns7 sc7)).setCell ⟨w.heap.size+1,1,none⟩ (.slice D7 nd7 dc7)).cell? ⟨pa.block,pa.off+1,none⟩=some (.int .i64 y1):=H8.out.oldCell (p:=⟨pa.block,pa.off+1,none⟩) hpb hcy1;have k6:((w7.setCell ⟨w.heap.size+1,0,none⟩ (.slice S7 ns7 sc7)).setCell ⟨w.heap.size+1,1,none⟩ (.slice D7 nd7 dc7)).cell? ⟨pa.block,pa.off+2,none⟩=some (.int .i64 y2):=H8.out.oldCell (p:=⟨pa.block,pa.off+2,none⟩) hpb hcy2;clear hu7 hb7 h7 hs7 hd7))
  go_wp2;exact sep_ret2 H8.out 2 rfl (z:=.int .i64 _) Tryz.results37 rfl rfl rfl ⟨⟨_,rfl,_,_,ns7,nd7,rfl,H8.out.ownS 0 rfl,H8.out.ownS 1 rfl⟩,H8.out.base⟩
 ·rw[if_neg hc];obtain⟨op,ins,shape,a,nv,how,note⟩:=nd;simp only at hop;subst hop;have HN:=h;obtain⟨A,na,ca,B,nb,cb,C,nc,cc,rfl,hL⟩:=h;replace HN:=Hd HN;obtain⟨hia,hib,hic,hA,hB,hC,hfo,hfx,hfh,hnote⟩:=hL;simp only at hA hB hC hfo hfx hfh hnote;have h1:=((((Sep.nil w).old hC).old hB).allocBox w.heap.size 34 [.int .i64 20,.slice A na ca,.slice B nb cb,.slice C nc cc,.int .i64 nv,.int .i64 how,.string note] rfl).allocBox (w.heap.size+1) 71 [.slice none 0 0,.slice none 0 0] (by simp);have hbl:=hB.len;have hcl:=hC.len;have HBL:=Hd hbl;have HCL:=Hd hcl;have hnbl:=hB.le;have hncl:=hC.le;have HFX:=Hd hfx;have HT:=Hd hT;have HC:=Hd hC;clear hA hB hC hT hbl hcl hfx hnote
  go_enter Tryz.func37,Tryz.ntmps37
  go_upto_region 1 with fail
  generalize (w.alloc (.cells #[.int .i64 20,.slice A na ca,.slice B nb cb,.slice C nc cc,.int .i64 nv,.int .i64 how,.string note] 34)).alloc (.cells #[.slice none 0 0,.slice none 0 0] 71)=W at *;have H:=Hd h1;clear h1;simp only at hc;have hnc:=Hd (show ¬ nc=3 by have:=HCL.out;omega);obtain⟨at0,S0,sn0,sc0,D0,dn0,dc0,hAt,hbt,c00,c01,ht0⟩:=HT.out.zero_;subst hAt;have hn0:0<nt:=by have:=HT.out.1;simp at this;omega
  obtain⟨n0,n1,n2,n3,n4,n5,n6⟩:=H.out.cells7 1 rfl
  go_upto_region 38 with fail
  have C1:Calls Tryz.prog 66 #[.agg #[.int .i64 20,.slice A na ca,.slice B nb cb,.slice C nc cc,.int .i64 nv,.int .i64 how,.string note],.int .i64 3] W fun e w7=>e=.returned (.bool false)∧Below W.heap.size W w7:=(ref10Count_any _ (HN.out.below H.out.base)).mono fun _ _ ⟨he,hb⟩=>⟨he.trans (ret_bool (decide_eq_false (by have h8:a.length=nc:=HCL.out;have:=hnc.out;simp only;omega))),hb⟩
  go_wp2_with fail
  refine C1.mono ?_;rintro e3 w3 ⟨rfl,hb3⟩;replace H:=Hd (H.out.below hb3);clear C1 hb3 n0 n1 n2 n3 n4 n5 n6;obtain ⟨r0,r1⟩:=H.out.z2 0 rfl;obtain ⟨fr0,fr1⟩:=H.out.f2 0 rfl;go_wp2;exact sep_ret2 ((H.out.setBox 0 0 (.slice none 0 0) rfl).setBox 0 1 (.slice none 0 0) rfl) 0 rfl (z:=.int .i64 1) Tryz.results37 rfl rfl rfl ⟨⟨_,rfl,_,_,0,0,rfl,OwnS.nil_ _ _ _,OwnS.nil_ _ _ _⟩,((H.out.setBox 0 0 (.slice none 0 0) rfl).setBox 0 1 (.slice none 0 0) rfl).base⟩
theorem work_two {w:World} {v:Value} {nd:NodeV} {At:Option Addr} {nt ct:Nat} {x y:List Int × List Int} (hop1:6≤nd.op) (hop2:nd.op≤11) (h:NodeIs w v nd) (hT:Tens w At nt [x,y]) :
  Calls Tryz.prog 37 #[v,.slice At nt ct] w (WorkPost w (twoR nd.op x.1 x.2 y.1 y.2)):=by
 obtain⟨op,ins,shape,a,nv,how,note⟩:=nd;simp only at hop1 hop2;have HN:=h;obtain⟨A,na,ca,B,nb,cb,C,nc,cc,rfl,hL⟩:=h;replace HN:=Hd HN;obtain⟨hia,hib,hic,hA,hB,hC,hfo,hfx,hfh,hnote⟩:=hL;simp only at hA hB hC hfo hfx hfh hnote;have h1:=((((Sep.nil w).old hC).old hB).allocBox w.heap.size 34 [.int .i64 op,.slice A na ca,.slice B nb cb,.slice C nc cc,.int .i64 nv,.int .i64 how,.string note] rfl).allocBox (w.heap.size+1) 71 [.slice none 0 0,.slice none 0 0] (by simp);have hbl:=hB.len;have hcl:=hC.len;have HBL:=Hd hbl;have HCL:=Hd hcl;have hnbl:=hB.le;have hncl:=hC.le;have HFX:=Hd hfx;have HT:=Hd hT;have HC:=Hd hC;clear hA hB hC hT hbl hcl hfx hnote
 go_enter Tryz.func37,Tryz.ntmps37
 go_upto_region 1 with fail
 generalize (w.alloc (.cells #[.int .i64 op,.slice A na ca,.slice B nb cb,.slice C nc cc,.int .i64 nv,.int .i64 how,.string note] 34)).alloc (.cells #[.slice none 0 0,.slice none 0 0] 71)=W at *;have H:=Hd h1;clear h1;obtain⟨at0,S0,sn0,sc0,D0,dn0,dc0,hAt,hbt,c00,c01,ht0⟩:=HT.out.zero_;subst hAt;obtain⟨S1,sn1,sc1,D1,dn1,dc1,c10,c11,ht1⟩:=HT.out.at1 rfl;have hn0:0<nt∧1<nt:=by have:=HT.out.1;simp at this;omega
 obtain⟨hn0,hn1⟩:=hn0;have hi1:(1:Int)<nt:=by omega
 have b2:(op==2)=false:=by simp;omega
 have b3:(op==3)=false:=by simp;omega
 have b4:(op==4)=false:=by simp;omega
 have b5:(op==5)=false:=by simp;omega
 have b12:(op==12)=false:=by simp;omega
 have b13:(op==13)=false:=by simp;omega
 have b14:(op==14)=false:=by simp;omega
 have b15:(op==15)=false:=by simp;omega
 have b16:(op==16)=false:=by simp;omega
 have b17:(op==17)=false:=by simp;omega
 have b18:(op==18)=false:=by simp;omega
 have b19:(op==19)=false:=by simp;omega
 have b20:(op==20)=false:=by simp;omega
 obtain⟨n0,n1,n2,n3,n4,n5,n6⟩:=H.out.cells7 1 rfl
 go_upto_region 41 with fail
 have q0:=H.out.cell 1 0 rfl rfl;have q1:=H.out.oldCell (p:=at0) hbt c00;have q2:=H.out.oldCell (p:=⟨at0.block,at0.off+1,none⟩) hbt c01;have q3:=H.out.oldCell (p:=⟨at0.block,at0.off+2,none⟩) hbt c10;have q4:=H.out.oldCell (p:=⟨at0.block,at0.off+2+1,none⟩) hbt c11
 go_region_held3 (fun w' => w'.cell? ⟨w.heap.size,0,none⟩=some (.int .i64 op)∧w'.cell? at0=some (.slice S0 sn0 sc0)∧w'.cell? ⟨at0.block,at0.off+1,none⟩=some (.slice D0 dn0 dc0)∧w'.cell? ⟨at0.block,at0.off+2,none⟩=some (.slice S1 sn1 sc1)∧w'.cell? ⟨at0.block,at0.off+2+1,none⟩=some (.slice D1 dn1 dc1)) (go_keep)
  (first|(go_at_call 78;refine(ref4Two_any op (ht0.below H.out.drew.base) (ht1.below H.out.drew.base)).mono ?_;rintro e7 w7 ⟨⟨u7,rfl,hu7⟩,hb7⟩;obtain⟨S7,ns7,sc7,D7,nd7,dc7,rfl,hs7,hd7,hsc7,hdc7,hle7,h7⟩:=H.out.drew.addTen hb7 hu7;have H7:=Hd h7;have m0:=H7.out.cell 3 0 rfl rfl;have m1:=H7.out.oldCell (p:=at0) hbt c00;have m2:=H7.out.oldCell (p:=⟨at0.block,at0.off+1,none⟩) hbt c01;have m3:=H7.out.oldCell (p:=⟨at0.block,at0.off+2,none⟩) hbt c10;have m4:=H7.out.oldCell (p:=⟨at0.block,at0.off+2+1,none⟩) hbt c11;obtain ⟨r0,r1⟩:=H7.out.z2 2 rfl;obtain ⟨fr0,fr1⟩:=H7.out.f2 2 rfl;have H8:=Hd ((H7.out.setBox 2 0 (.slice S7 ns7 sc7) rfl).setBox 2 1 (.slice D7 nd7 dc7) rfl);have k0:((w7.setCell ⟨w.heap.size+1,0,none⟩ (.slice S7 ns7 sc7)).setCell ⟨w.heap.size+1,1,none⟩ (.slice D7 nd7 dc7)).cell? ⟨w.heap.size,0,none⟩=some (.int .i64 op):=H8.out.cell 3 0 rfl rfl;have k1:((w7.setCell ⟨w.heap.size+1,0,none⟩ (.slice S7 ns7 sc7)).setCell ⟨w.heap.size+1,1,none⟩ (.slice D7 nd7 dc7)).cell? at0=some (.slice S0 sn0 sc0):=H8.out.oldCell (p:=at0) hbt c00;have k2:((w7.setCell ⟨w.heap.size+1,0,none⟩ (.slice S7 ns7 sc7)).setCell ⟨w.heap.size+1,1,none⟩ (.slice D7 nd7 dc7)).cell? ⟨at0.block,at0.off+1,none⟩=some (.slice D0 dn0 dc0):=H8.out.oldCell (p:=⟨at0.block,at0.off+1,none⟩) hbt c01;have k3:((w7.setCell ⟨w.heap.size+1,0,none⟩ (.slice S7 ns7 sc7)).setCell ⟨w.heap.size+1,1,none⟩ (.slice D7 nd7 dc7)).cell? ⟨at0.block,at0.off+2,none⟩=some (.slice S1 sn1 sc1):=H8.out.oldCell (p:=⟨at0.block,at0.off+2,none⟩) hbt c10;have k4:((w7.setCell ⟨w.heap.size+1,0,none⟩ (.slice S7 ns7 sc7)).setCell ⟨w.heap.size+1,1,none⟩ (.slice D7 nd7 dc7)).cell? ⟨at0.block,at0.off+2+1,none⟩=some (.slice D1 dn1 dc1):=H8.out.oldCell (p:=⟨at0.block,at0.off+2+1,none⟩) hbt c11;clear hu7 hb7 h7 hs7 hd7))
 go_wp2;exact sep_ret2 H8.out 2 rfl (z:=.int .i64 _) Tryz.results37 rfl rfl rfl ⟨⟨_,rfl,_,_,ns7,nd7,rfl,H8.out.ownS 0 rfl,H8.out.ownS 1 rfl⟩,H8.out.base⟩
end Go.Proofs.YtnnmplkgenhofaaGreat
