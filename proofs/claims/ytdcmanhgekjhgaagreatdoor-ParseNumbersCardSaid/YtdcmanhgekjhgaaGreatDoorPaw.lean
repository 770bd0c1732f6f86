import Derived.Lib.TrimUEq
import Derived.Shelf.Slices.Turned
import Derived.Shelf.Strings.BuilderRune
import Derived.Shelf.Utf8.RuneCount
import Derived.Test.YtdcmanhgekjhgaaGreatDoorPas
import Derived.Test.YtdcmanhgekjhgaaGreatDoorPav
set_option maxRecDepth 100000
set_option maxHeartbeats 12800000
namespace Go.Proofs.YtdcmanhgekjhgaaGreatDoor
open Go.RowKit Go.Proofs.Tryz
variable {w:World}
theorem a6f (c:UInt8):∀ l:List UInt8,∀ p∈a1n c l,p.length≤l.length
 | [],p,h=>by rw[a1n,List.mem_singleton] at h;subst h;exact Nat.le_refl _
 | b::l,p,h=>by
  have ih:=a6f c l;unfold a1n at h
  split at h
  ·rcases List.mem_cons.1 h with e|e
   ·subst e;simp
   ·have:=ih p e;simp only[List.length_cons];omega
  ·cases hs:a1n c l with
   | nil=>exact absurd hs (b3x c l)
   | cons q qs =>
    rw[hs] at h ih;rcases List.mem_cons.1 h with e|e
    ·subst e;have:=ih q List.mem_cons_self;simp only[List.length_cons];omega
    ·have:=ih p (List.mem_cons_of_mem _ e);simp only[List.length_cons];omega
theorem a4c {s:ByteArray}(h:s.size≤90000):∀ x∈a0u s,x.size≤90000:=fun x hx=>by
 obtain⟨p,hp,rfl⟩:=List.mem_map.1 hx;have:=a6f 32 (bl s) p hp;rw[a3w] at this;have e:(ofL p).size=p.length:=by rw[←a3w,a6y]
 omega
theorem a4g (s:ByteArray):(a0u s).length≤s.size+1:=by
 unfold a0u;rw[List.length_map];have:=a5p 32 (bl s);rw[a3w] at this;exact this
theorem a9q.strs {w1:World}{L:List ByteArray}{v:Value}(h:a9q w L v w1)(hs:∀ x∈L,x.size≤90000)(hl:L.length≤90001):∃ A c K,v=.slice A L.length c∧L.length≤c∧Strs w1 K A L.length L∧Below w.heap.size w w1∧w.heap.size≤K:=by
 obtain⟨n,H⟩:=h;have hn:L.length=n:=by have:=(H.at_ 0 rfl).1;simpa using this
 subst hn
 cases L with
 | nil =>
  obtain⟨A,c,hv,hc⟩:∃ A c,v=.slice A 0 c∧0≤c:=by
   rcases(show w1.ownsRow w.heap.size 9 1 v 0 [] from H.at_ 0 rfl).2 with ⟨hv,_⟩|⟨g,cap,cur,hv,_⟩
   ·exact⟨none,0,hv,Nat.le_refl _⟩
   ·exact⟨_,cap,hv,Nat.zero_le _⟩
  exact⟨A,c,w.heap.size,hv,hc,c4b _ _ _,H.base,Nat.le_refl _⟩
 | cons x L =>
  obtain⟨g,c,hv,hc⟩:=H.rowForm 0 rfl (by simp);subst hv;refine⟨_,c,g,rfl,hc,⟨rfl,hl,hs,fun j y hy=>⟨⟨g,0,none⟩,rfl,?_,?_,rfl⟩⟩,H.base,(a0e.block_ge (H.at_ 0 rfl) (show(a0e.row 9 1 (.slice (some ⟨g,0,none⟩) _ c) _ _).block=some g from rfl)).1⟩
  ·have h8:=block_lt_of_cell (H.cellRow 0 rfl (j:=j) (u:=.string y) (by rw[List.getElem?_map,hy];rfl));exact h8
  ·have:=H.cellRow 0 rfl (j:=j) (u:=.string y) (by rw[List.getElem?_map,hy];rfl)
   cases j <;> simpa [Addr.add] using this
theorem a3i {fn:Func}{R:Ending→World→Prop}{a:Act}{w0:World}{l:List a0e}{p u:Tmp}{g:Nat}{v0 v1 v2 v3 v4 v5 v6:Value}(z:Value)(H:Sep w0 w l)(i:Nat)(hi:l[i]?=some (.box g 49 [v0,v1,v2,v3,v4,v5,v6]))
  (h:fn.results=#[.cell p 49,.tmp u])(hp:a.tmps.getD p undef=.pointer (some ⟨g,0,none⟩))(hz:a.tmps.getD u undef=z)(hd:a.defers=[])(hR:R (.returned (.tuple #[.agg #[v0,v1,v2,v3,v4,v5,v6],z])) w):bodyPost prog fn R .ret a w:=by
 refine bodyPost_ret_by ?_ hd hR;have hp' : a.tmps[p]?.getD undef=.pointer (some ⟨g,0,none⟩):=by simpa using hp
 have hz' : a.tmps[u]?.getD undef=z:=by simpa using hz
 rw[results_cell_tmp h];simp[hp', hz', asAddr,run_loadVar_row w g _ 49 _ _ _ (H.heap i hi) underlying49 rfl Tryz.sizeNode,Result.andThen]
theorem c3r (w:World)(s:ByteArray)(hs:s.size≤90000):
  Calls prog 55 #[.string s] w fun e w'=>∃ v1 n1 v2 n2 v3 n3,e=.returned (.tuple #[.agg #[.int .i64 (a1x s).1.op,v1,v2,v3,.int .i64 (a1x s).1.n,.int .i64 (a1x s).1.how,.string (a1x s).1.note],.bool (a1x s).2])∧Sep w w' [.own 3 v1 n1 (a1x s).1.ins,.own 3 v2 n2 (a1x s).1.shape,.own 3 v3 n3 (a1x s).1.a]:=by
 have h0:=(Sep.nil w).allocBox w.heap.size 49 zN rfl;obtain⟨W,hW⟩:∃ W,a0u s=W:=⟨_,rfl⟩;have hws:=a4c hs;have hwl:=a4g s;have CW:=fun w:World=>a6b w s hs
 rw[hW] at hws hwl CW;have HCW:=Hd CW;have HWS:=Hd hws;have HW:=Hd hW;clear CW hws hW
 go_enter func55,ntmps55
 go_upto_region 1 with fail
 generalize w.alloc (.cells zA 49)=w0 at *;have H0:=Hd h0;clear h0
 go_wp2_with fail
 refine(HCW w0).mono ?_;rintro e1 w1 ⟨v,rfl,hP⟩;obtain⟨A1,c1,K1,rfl,hc1,hS1,hb1,_⟩:=hP.strs HWS (by omega);replace H0:=Hd (H0.below hb1);have h2:=(Sep.nil w1).allocBox w1.heap.size 100 [.slice A1 W.length c1,.bool false] rfl;have HS1:=Hd hS1;clear hP hS1 hb1 HCW
 go_upto_region 2 with fail
 generalize w1.alloc (.cells #[.slice A1 W.length c1,.bool false] 100)=w2 at *;obtain⟨g1,hg1⟩:∃ g1,w1.heap.size=g1:=⟨_,rfl⟩;rw[hg1] at h2 ⊢;have H:=Hd h2;clear h2 hg1;have C1:=a5f H (i:=0) rfl HS1 hc1;obtain⟨s0,hs0⟩:∃ x,W.headD ⟨#[]⟩=x:=⟨_,rfl⟩;obtain⟨q0,hq0⟩:∃ x,(false||W.isEmpty)=x:=⟨_,rfl⟩;rw[hs0,hq0] at C1;have HS0:=Hd hs0;have HQ0:=Hd hq0;have HC1:=Hd C1;clear C1 hs0 hq0
 go_wp2_with fail
 refine HC1.mono ?_;rintro e2 w3 ⟨rfl,A2,n2,c2,hR,hS,hc2⟩;replace H:=Hd (show Sep w1 w3 [.box g1 100 [.slice A2 n2 c2,.bool q0]] from hR);have HS2:=Hd hS;clear hR hS HC1
 go_wp2_with fail
 refine(c9j w3 s0).mono ?_;rintro e3 w4 ⟨rfl,hb⟩;replace H:=Hd (H.below hb);obtain⟨op,hop⟩:∃ x,opF s0=x:=⟨_,rfl⟩;rw[hop];have HOP:=Hd hop;have h5:=H.allocBox w4.heap.size 49 [.int .i64 op,.slice none 0 0,.slice none 0 0,.slice none 0 0,.int .i64 0,.int .i64 0,.string ⟨#[]⟩] rfl;clear hb hop
 go_upto_region 3 with fail
 generalize w4.alloc (.cells #[.int .i64 op,.slice none 0 0,.slice none 0 0,.slice none 0 0,.int .i64 0,.int .i64 0,.string ⟨#[]⟩] 49)=w5 at *;obtain⟨g2,hg2⟩:∃ g2,w4.heap.size=g2:=⟨_,rfl⟩;rw[hg2] at h5 ⊢;replace H:=Hd h5;clear h5 hg2;have C1:=b4v H (i:=1) rfl HS2 hc2;obtain⟨F1,hF1⟩:∃ x,a1w (W.drop 1) q0=x:=⟨_,rfl⟩;rw[hF1] at C1;have HF1:=Hd hF1;have HC1:=Hd C1;clear C1 hF1
 go_wp2_with fail
 refine HC1.mono ?_;rintro e4 x1 ⟨v1,m1,rfl,A3,n3,c3,hR,hS,hc3⟩;have hR:Sep w1 x1 [.own 3 v1 m1 F1.1,.box g2 49 [.int .i64 op,.slice none 0 0,.slice none 0 0,.slice none 0 0,.int .i64 0,.int .i64 0,.string ⟨#[]⟩],.box g1 100 [.slice A3 n3 c3,.bool F1.2.2]]:=hR;obtain⟨B1,d1,hv,_,_,_⟩:=(hR.ownS 0 rfl).form;subst hv;replace H:=Hd hR;have HS3:=Hd hS;clear hR hS HC1;have k1:=H.c 1 1;have f1:=H.frozenBox 1 1 rfl;have h7:=H.setBox 1 1 (.slice B1 m1 d1) rfl
 go_upto_region 4 with fail
 generalize x1.setCell ⟨g2,1,none⟩ (.slice B1 m1 d1)=y1 at *;replace H:=Hd (show Sep w1 y1 [.own 3 (.slice B1 m1 d1) m1 F1.1,.box g2 49 [.int .i64 op,.slice B1 m1 d1,.slice none 0 0,.slice none 0 0,.int .i64 0,.int .i64 0,.string ⟨#[]⟩],.box g1 100 [.slice A3 n3 c3,.bool F1.2.2]] from h7);clear h7 k1 f1;have C1:=b4v H (i:=2) rfl HS3 hc3;obtain⟨F2,hF2⟩:∃ x,a1w F1.2.1 F1.2.2=x:=⟨_,rfl⟩;rw[hF2] at C1;have HF2:=Hd hF2;have HC1:=Hd C1;clear C1 hF2
 go_wp2_with fail
 refine HC1.mono ?_;rintro e5 x2 ⟨v2,m2,rfl,A4,n4,c4,hR,hS,hc4⟩;have hR:Sep w1 x2 [.own 3 v2 m2 F2.1,.own 3 (.slice B1 m1 d1) m1 F1.1,.box g2 49 [.int .i64 op,.slice B1 m1 d1,.slice none 0 0,.slice none 0 0,.int .i64 0,.int .i64 0,.string ⟨#[]⟩],.box g1 100 [.slice A4 n4 c4,.bool F2.2.2]]:=hR;obtain⟨B2,d2,hv,_,_,_⟩:=(hR.ownS 0 rfl).form;subst hv;replace H:=Hd hR;have HS4:=Hd hS;clear hR hS HC1;have k2:=H.c 2 2;have f2:=H.frozenBox 2 2 rfl;have h7:=H.setBox 2 2 (.slice B2 m2 d2) rfl
 go_upto_region 5 with fail
 generalize x2.setCell ⟨g2,2,none⟩ (.slice B2 m2 d2)=y2 at *;replace H:=Hd (show Sep w1 y2 [.own 3 (.slice B2 m2 d2) m2 F2.1,.own 3 (.slice B1 m1 d1) m1 F1.1,.box g2 49 [.int .i64 op,.slice B1 m1 d1,.slice B2 m2 d2,.slice none 0 0,.int .i64 0,.int .i64 0,.string ⟨#[]⟩],.box g1 100 [.slice A4 n4 c4,.bool F2.2.2]] from h7);clear h7 k2 f2;have C1:=b4v H (i:=3) rfl HS4 hc4;obtain⟨F3,hF3⟩:∃ x,a1w F2.2.1 F2.2.2=x:=⟨_,rfl⟩;rw[hF3] at C1;have HF3:=Hd hF3;have HC1:=Hd C1;clear C1 hF3
 go_wp2_with fail
 refine HC1.mono ?_;rintro e6 x3 ⟨v3,m3,rfl,A5,n5,c5,hR,hS,hc5⟩;have hR:Sep w1 x3 [.own 3 v3 m3 F3.1,.own 3 (.slice B2 m2 d2) m2 F2.1,.own 3 (.slice B1 m1 d1) m1 F1.1,.box g2 49 [.int .i64 op,.slice B1 m1 d1,.slice B2 m2 d2,.slice none 0 0,.int .i64 0,.int .i64 0,.string ⟨#[]⟩],.box g1 100 [.slice A5 n5 c5,.bool F3.2.2]]:=hR;obtain⟨B3,d3,hv,_,_,_⟩:=(hR.ownS 0 rfl).form;subst hv;replace H:=Hd hR;have HS5:=Hd hS;clear hR hS HC1;have k3:=H.c 3 3;have f3:=H.frozenBox 3 3 rfl;have h7:=H.setBox 3 3 (.slice B3 m3 d3) rfl
 go_upto_region 6 with fail
 generalize x3.setCell ⟨g2,3,none⟩ (.slice B3 m3 d3)=y3 at *;replace H:=Hd (show Sep w1 y3 [.own 3 (.slice B3 m3 d3) m3 F3.1,.own 3 (.slice B2 m2 d2) m2 F2.1,.own 3 (.slice B1 m1 d1) m1 F1.1,.box g2 49 [.int .i64 op,.slice B1 m1 d1,.slice B2 m2 d2,.slice B3 m3 d3,.int .i64 0,.int .i64 0,.string ⟨#[]⟩],.box g1 100 [.slice A5 n5 c5,.bool F3.2.2]] from h7);clear h7 k3 f3;have C1:=b0j H (i:=4) rfl HS5 hc5;obtain⟨Nv,hNv⟩:∃ x,a0t (F3.2.1.headD ⟨#[]⟩)=x:=⟨_,rfl⟩;have hfN:Fits Nv.1:=by rw[←hNv];exact a5c _
 obtain⟨r0,hr0⟩:∃ x,((F3.2.2||F3.2.1.isEmpty) || !Nv.2)=x:=⟨_,rfl⟩;rw[hNv,hr0] at C1;have HNV:=Hd hNv;have HR0:=Hd hr0;have HC1:=Hd C1;clear C1 hNv hr0;obtain⟨z0,hz0⟩:∃ x,Nv.1=x:=⟨_,rfl⟩;rw[hz0] at HC1 hfN;have HZ0:=Hd hz0;clear hz0
 go_wp2_with fail
 refine HC1.mono ?_;rintro e7 x4 ⟨rfl,A6,n6,c6,hR,hS,hc6⟩;replace H:=Hd (show Sep w1 x4 [.own 3 (.slice B3 m3 d3) m3 F3.1,.own 3 (.slice B2 m2 d2) m2 F2.1,.own 3 (.slice B1 m1 d1) m1 F1.1,.box g2 49 [.int .i64 op,.slice B1 m1 d1,.slice B2 m2 d2,.slice B3 m3 d3,.int .i64 0,.int .i64 0,.string ⟨#[]⟩],.box g1 100 [.slice A6 n6 c6,.bool r0]] from hR);have HS6:=Hd hS;clear hR hS HC1;have k4:=H.c 3 4;have f4:=H.frozenBox 3 4 rfl;have h7:=H.setBox 3 4 (.int .i64 z0) rfl
 go_upto_region 7 with fail
 generalize x4.setCell ⟨g2,4,none⟩ (.int .i64 z0)=y4 at *;replace H:=Hd (show Sep w1 y4 [.own 3 (.slice B3 m3 d3) m3 F3.1,.own 3 (.slice B2 m2 d2) m2 F2.1,.own 3 (.slice B1 m1 d1) m1 F1.1,.box g2 49 [.int .i64 op,.slice B1 m1 d1,.slice B2 m2 d2,.slice B3 m3 d3,.int .i64 z0,.int .i64 0,.string ⟨#[]⟩],.box g1 100 [.slice A6 n6 c6,.bool r0]] from h7);clear h7 k4 f4;have C1:=b0j H (i:=4) rfl HS6 hc6;obtain⟨Mv,hMv⟩:∃ x,a0t ((F3.2.1.drop 1).headD ⟨#[]⟩)=x:=⟨_,rfl⟩;have hfM:Fits Mv.1:=by rw[←hMv];exact a5c _
 obtain⟨r1,hr1⟩:∃ x,((r0||(F3.2.1.drop 1).isEmpty) || !Mv.2)=x:=⟨_,rfl⟩;rw[hMv,hr1] at C1;have HMV:=Hd hMv;have HR1:=Hd hr1;have HC1:=Hd C1;clear C1 hMv hr1;obtain⟨z1,hz1⟩:∃ x,Mv.1=x:=⟨_,rfl⟩;rw[hz1] at HC1 hfM;have HZ1:=Hd hz1;clear hz1
 go_wp2_with fail
 refine HC1.mono ?_;rintro e8 x5 ⟨rfl,A7,n7,c7,hR,hS,hc7⟩;replace H:=Hd (show Sep w1 x5 [.own 3 (.slice B3 m3 d3) m3 F3.1,.own 3 (.slice B2 m2 d2) m2 F2.1,.own 3 (.slice B1 m1 d1) m1 F1.1,.box g2 49 [.int .i64 op,.slice B1 m1 d1,.slice B2 m2 d2,.slice B3 m3 d3,.int .i64 z0,.int .i64 0,.string ⟨#[]⟩],.box g1 100 [.slice A7 n7 c7,.bool r1]] from hR);have HS7:=Hd hS;clear hR hS HC1;have k5:=H.c 3 5;have f5:=H.frozenBox 3 5 rfl;have h7:=H.setBox 3 5 (.int .i64 z1) rfl
 go_upto_region 8 with fail
 generalize x5.setCell ⟨g2,5,none⟩ (.int .i64 z1)=y5 at *;replace H:=Hd (show Sep w1 y5 [.own 3 (.slice B3 m3 d3) m3 F3.1,.own 3 (.slice B2 m2 d2) m2 F2.1,.own 3 (.slice B1 m1 d1) m1 F1.1,.box g2 49 [.int .i64 op,.slice B1 m1 d1,.slice B2 m2 d2,.slice B3 m3 d3,.int .i64 z0,.int .i64 z1,.string ⟨#[]⟩],.box g1 100 [.slice A7 n7 c7,.bool r1]] from h7);clear h7 k5 f5;have C1:=a5f H (i:=4) rfl HS7 hc7;obtain⟨nt,hnt⟩:∃ x,((F3.2.1.drop 1).drop 1).headD ⟨#[]⟩=x:=⟨_,rfl⟩;obtain⟨r2,hr2⟩:∃ x,(r1||((F3.2.1.drop 1).drop 1).isEmpty)=x:=⟨_,rfl⟩;rw[hnt,hr2] at C1;have HNT:=Hd hnt;have HR2:=Hd hr2;have HC1:=Hd C1;clear C1 hnt hr2
 go_wp2_with fail
 refine HC1.mono ?_;rintro e9 x6 ⟨rfl,A8,n8,c8,hR,hS,hc8⟩;replace H:=Hd (show Sep w1 x6 [.own 3 (.slice B3 m3 d3) m3 F3.1,.own 3 (.slice B2 m2 d2) m2 F2.1,.own 3 (.slice B1 m1 d1) m1 F1.1,.box g2 49 [.int .i64 op,.slice B1 m1 d1,.slice B2 m2 d2,.slice B3 m3 d3,.int .i64 z0,.int .i64 z1,.string ⟨#[]⟩],.box g1 100 [.slice A8 n8 c8,.bool r2]] from hR);have HS8:=Hd hS;clear hR hS HC1;have k6:=H.c 3 6;have f6:=H.frozenBox 3 6 rfl;have h7:=H.setBox 3 6 (.string nt) rfl
 go_upto_region 9 with fail
 generalize x6.setCell ⟨g2,6,none⟩ (.string nt)=y6 at *;replace H:=Hd (show Sep w1 y6 [.own 3 (.slice B3 m3 d3) m3 F3.1,.own 3 (.slice B2 m2 d2) m2 F2.1,.own 3 (.slice B1 m1 d1) m1 F1.1,.box g2 49 [.int .i64 op,.slice B1 m1 d1,.slice B2 m2 d2,.slice B3 m3 d3,.int .i64 z0,.int .i64 z1,.string nt],.box g1 100 [.slice A8 n8 c8,.bool r2]] from h7);clear h7 k6 f6;obtain⟨q3,hq3⟩:∃ x,(r2||decide (nt=⟨#[]⟩))=x:=⟨_,rfl⟩;have HQ3:=Hd hq3;have k1:=H.c 4 1;have k6:=H.c 3 6;have f1:=H.frozenBox 4 1 rfl
 go_cut [] (fun wx=>Sep w1 wx [.own 3 (.slice B3 m3 d3) m3 F3.1,.own 3 (.slice B2 m2 d2) m2 F2.1,.own 3 (.slice B1 m1 d1) m1 F1.1,.box g2 49 [.int .i64 op,.slice B1 m1 d1,.slice B2 m2 d2,.slice B3 m3 d3,.int .i64 z0,.int .i64 z1,.string nt],.box g1 100 [.slice A8 n8 c8,.bool q3]])
 case first =>
  cases r2 with
  | true =>
   obtain rfl:q3=true:=by rw[←hq3];rfl
   clear hq3;have h7:=H.setBox 4 1 (.bool true) rfl;have HH:=Hd h7;clear h7
   go_wp2_with fail
   go_meet
   exact HH
  | false =>
   by_cases he:nt=⟨#[]⟩
   ·obtain rfl:q3=true:=by rw[←hq3,decide_eq_true he];rfl
    have e0:nt.toList.isEmpty=true:=by rw[he,ByteArray.toList_eq];rfl
    clear hq3 he;have h7:=H.setBox 4 1 (.bool true) rfl;have HH:=Hd h7;clear h7
    go_wp2_with fail
    go_meet;exact HH
   ·obtain rfl:q3=false:=by rw[←hq3,decide_eq_false he];rfl
    have e0:nt.toList.isEmpty=false:=by
     cases hc:nt.toList.isEmpty with
     | false=>rfl
     | true=>exact absurd (eqL.1 (List.isEmpty_iff.1 hc)) he
    clear hq3 he;have h7:=H.setBox 4 1 (.bool false) rfl;have HH:=Hd h7;clear h7
    go_wp2_with fail
    go_meet;exact HH
 case rest =>
  have hS:=hcut;replace H:=Hd hS;clear hS hcut k1 k6 f1 hq3;obtain⟨nt2,hnt2⟩:∃ x,(if nt=a4d then⟨#[]⟩ else nt)=x:=⟨_,rfl⟩;have HNT2:=Hd hnt2;have k6:=H.c 3 6;have f6:=H.frozenBox 3 6 rfl
  go_upto_if 46 with fail
  go_cut [] (fun wx=>Sep w1 wx [.own 3 (.slice B3 m3 d3) m3 F3.1,.own 3 (.slice B2 m2 d2) m2 F2.1,.own 3 (.slice B1 m1 d1) m1 F1.1,.box g2 49 [.int .i64 op,.slice B1 m1 d1,.slice B2 m2 d2,.slice B3 m3 d3,.int .i64 z0,.int .i64 z1,.string nt2],.box g1 100 [.slice A8 n8 c8,.bool q3]])
  case first =>
   by_cases he:nt=a4d
   ·obtain rfl:nt2=⟨#[]⟩:=by rw[←hnt2,iP he]
    have e0:(nt.toList==[45])=true:=by rw[eqL.2 (show nt=ofL [45] from he)];rfl
    clear hnt2 he;have h7:=H.setBox 3 6 (.string ⟨#[]⟩) rfl;have HH:=Hd h7;clear h7;rw[e0]
    go_wp2_with fail
    go_meet;exact HH
   ·obtain rfl:nt2=nt:=by rw[←hnt2,iN he]
    have e0:(nt2.toList==[45])=false:=by simpa using (fun e=>he (eqL.1 e):¬ nt2.toList=[45])
    clear hnt2 he;rw[e0]
    go_wp2_with fail
    go_meet;exact H
  case rest =>
   have hS:=hcut;replace H:=Hd hS;clear hS hcut k6 f6 hnt2
   have J:=Hd (show Sep w wc [.own 3 (.slice B3 m3 d3) m3 F3.1,.own 3 (.slice B2 m2 d2) m2 F2.1,.own 3 (.slice B1 m1 d1) m1 F1.1,.box g2 49 [.int .i64 op,.slice B1 m1 d1,.slice B2 m2 d2,.slice B3 m3 d3,.int .i64 z0,.int .i64 z1,.string nt2],.box g1 100 [.slice A8 n8 c8,.bool q3],.box w.heap.size 49 zN] from Sep.join H0 H.base H (Nat.le_refl _) (by
    intro c hc;simp only[List.mem_cons,List.not_mem_nil,or_false] at hc
    rcases hc with rfl|rfl|rfl|rfl|rfl <;> exact True.intro))
   have HF:Hid (a1x s=(⟨op,F1.1,F2.1,F3.1,z0,z1,nt2⟩,decide (0<op) && !q3&&((((F3.2.1.drop 1).drop 1).drop 1)).isEmpty)):=Hd (by
    unfold a1x
    simp only[HW.out,show W.isEmpty=q0 from HQ0.out,HF1.out,HF2.out,HF3.out,HS0.out,HOP.out,HNV.out,HMV.out,HR0.out,HR1.out,HR2.out,HNT.out,HNT2.out,HZ0.out,HZ1.out,HQ3.out])
   have HN8:=Hd HS8.out.1;have HJ:=Hd (Sep.set7 (P:=[.own 3 (.slice B3 m3 d3) m3 F3.1,.own 3 (.slice B2 m2 d2) m2 F2.1,.own 3 (.slice B1 m1 d1) m1 F1.1,.box g2 49 [.int .i64 op,.slice B1 m1 d1,.slice B2 m2 d2,.slice B3 m3 d3,.int .i64 z0,.int .i64 z1,.string nt2],.box g1 100 [.slice A8 n8 c8,.bool q3],.box w.heap.size 49 zN]) (l1:=[]) J 5 rfl (.int .i64 op) (.slice B1 m1 d1) (.slice B2 m2 d2) (.slice B3 m3 d3) (.int .i64 z0) (.int .i64 z1) (.string nt2)).drew;obtain⟨k0,k1,k2,k3,k4,k5,k6⟩:=J.cells7 3 rfl;obtain⟨r0,r1⟩:=J.z2 4 rfl;obtain⟨c0,c1,c2,c3,c4,c5,c6⟩:=J.cells7 5 rfl;obtain⟨f0,f1,f2,f3,f4,f5,f6⟩:=J.f7 5 rfl
   go_upto_region 12 with fail
   by_cases ho:0<op
   ·have do1:decide (0<op)=true:=decide_eq_true ho
    cases q3 with
    | true =>
     refine wp_region_held_drew (S:=(fun w'=>w'.cell? ⟨g2,0,none⟩=some (.int .i64 op)∧w'.cell? ⟨g2,1,none⟩=some (.slice B1 m1 d1)∧w'.cell? ⟨g2,2,none⟩=some (.slice B2 m2 d2)∧w'.cell? ⟨g2,3,none⟩=some (.slice B3 m3 d3)∧w'.cell? ⟨g2,4,none⟩=some (.int .i64 z0)∧w'.cell? ⟨g2,5,none⟩=some (.int .i64 z1)∧w'.cell? ⟨g2,6,none⟩=some (.string nt2)∧w'.cell? ⟨g1,0,none⟩=some (.slice A8 n8 c8)∧w'.cell? ⟨g1,1,none⟩=some (.bool true))) (by kernel_rfl) ?_ (fun hq_=>?_)
     ·exact⟨k0,k1,k2,k3,k4,k5,k6,r0,r1⟩
     refine zV 0 hq_ ?_;refine zV 1 hq_ ?_;refine zV 2 hq_ ?_;refine zV 3 hq_ ?_;refine zV 4 hq_ ?_;refine zT 5 hq_ ?_;refine zT 6 hq_ ?_;refine zT 7 hq_ ?_;refine zT 8 hq_ ?_;refine zT 9 hq_ ?_;refine zV 10 hq_ ?_;refine zV 11 hq_ ?_;refine zT 12 hq_ ?_;refine zT 13 hq_ ?_;refine zT 14 hq_ ?_;refine zT 15 hq_ ?_;refine zT 16 hq_ ?_;refine zT 17 hq_ ?_;refine zV 18 hq_ ?_;refine e1 19 fun K hK=>?_;go_simp;(try go_wp2_with fail);refine zX hK (fun hq_=>?_) ⟨HJ.c 3 0,HJ.c 3 1,HJ.c 3 2,HJ.c 3 3,HJ.c 3 4,HJ.c 3 5,HJ.c 3 6,HJ.c 4 0,HJ.c 4 1⟩;refine zV 20 hq_ ?_;refine dN ?_;go_wp2;refine a3i (.bool false) HJ 5 rfl results55 rfl rfl rfl ?_;rw[HF.out]
     exact⟨_,_,_,_,_,_,by simp only[do1,Bool.not_true,Bool.and_false,Bool.false_and],Sep.sub HJ [2,1,0] rfl (by decide)⟩
    | false =>
     by_cases hl:n8=0
     ·have dl:((n8:Int)==0)=true:=by simp[hl]
      have hle:((((F3.2.1.drop 1).drop 1).drop 1)).isEmpty=true:=List.isEmpty_iff.2 (List.eq_nil_of_length_eq_zero (by rw[HN8.out,hl]));clear hl;refine wp_region_held_drew (S:=(fun w'=>w'.cell? ⟨g2,0,none⟩=some (.int .i64 op)∧w'.cell? ⟨g2,1,none⟩=some (.slice B1 m1 d1)∧w'.cell? ⟨g2,2,none⟩=some (.slice B2 m2 d2)∧w'.cell? ⟨g2,3,none⟩=some (.slice B3 m3 d3)∧w'.cell? ⟨g2,4,none⟩=some (.int .i64 z0)∧w'.cell? ⟨g2,5,none⟩=some (.int .i64 z1)∧w'.cell? ⟨g2,6,none⟩=some (.string nt2)∧w'.cell? ⟨g1,0,none⟩=some (.slice A8 n8 c8)∧w'.cell? ⟨g1,1,none⟩=some (.bool false))) (by kernel_rfl) ?_ (fun hq_=>?_)
      ·exact⟨k0,k1,k2,k3,k4,k5,k6,r0,r1⟩
      refine zV 0 hq_ ?_;refine zV 1 hq_ ?_;refine zV 2 hq_ ?_;refine zV 3 hq_ ?_;refine zV 4 hq_ ?_;refine zT 5 hq_ ?_;refine zT 6 hq_ ?_;refine zT 7 hq_ ?_;refine zT 8 hq_ ?_;refine zT 9 hq_ ?_;refine zV 10 hq_ ?_;refine zV 11 hq_ ?_;refine zT 12 hq_ ?_;refine zT 13 hq_ ?_;refine zT 14 hq_ ?_;refine zT 15 hq_ ?_;refine zT 16 hq_ ?_;refine zT 17 hq_ ?_;refine zV 18 hq_ ?_;refine e1 19 fun K hK=>?_;go_simp;(try go_wp2_with fail);refine zX hK (fun hq_=>?_) ⟨HJ.c 3 0,HJ.c 3 1,HJ.c 3 2,HJ.c 3 3,HJ.c 3 4,HJ.c 3 5,HJ.c 3 6,HJ.c 4 0,HJ.c 4 1⟩;refine zV 20 hq_ ?_;refine dN ?_;go_wp2;refine a3i (.bool true) HJ 5 rfl results55 rfl rfl rfl ?_;rw[HF.out];exact⟨_,_,_,_,_,_,by simp only[do1,hle,Bool.not_false,Bool.and_true],Sep.sub HJ [2,1,0] rfl (by decide)⟩
     ·have dl:((n8:Int)==0)=false:=by simpa using hl
      have hle:((((F3.2.1.drop 1).drop 1).drop 1)).isEmpty=false:=by
       cases hc:((((F3.2.1.drop 1).drop 1).drop 1)).isEmpty with
       | false=>rfl
       | true=>exact absurd (by rw[←HN8.out,List.isEmpty_iff.1 hc];rfl) hl
      clear hl;refine wp_region_held_drew (S:=(fun w'=>w'.cell? ⟨g2,0,none⟩=some (.int .i64 op)∧w'.cell? ⟨g2,1,none⟩=some (.slice B1 m1 d1)∧w'.cell? ⟨g2,2,none⟩=some (.slice B2 m2 d2)∧w'.cell? ⟨g2,3,none⟩=some (.slice B3 m3 d3)∧w'.cell? ⟨g2,4,none⟩=some (.int .i64 z0)∧w'.cell? ⟨g2,5,none⟩=some (.int .i64 z1)∧w'.cell? ⟨g2,6,none⟩=some (.string nt2)∧w'.cell? ⟨g1,0,none⟩=some (.slice A8 n8 c8)∧w'.cell? ⟨g1,1,none⟩=some (.bool false))) (by kernel_rfl) ?_ (fun hq_=>?_)
      ·exact⟨k0,k1,k2,k3,k4,k5,k6,r0,r1⟩
      refine zV 0 hq_ ?_;refine zV 1 hq_ ?_;refine zV 2 hq_ ?_;refine zV 3 hq_ ?_;refine zV 4 hq_ ?_;refine zT 5 hq_ ?_;refine zT 6 hq_ ?_;refine zT 7 hq_ ?_;refine zT 8 hq_ ?_;refine zT 9 hq_ ?_;refine zV 10 hq_ ?_;refine zV 11 hq_ ?_;refine zT 12 hq_ ?_;refine zT 13 hq_ ?_;refine zT 14 hq_ ?_;refine zT 15 hq_ ?_;refine zT 16 hq_ ?_;refine zT 17 hq_ ?_;refine zV 18 hq_ ?_;refine e1 19 fun K hK=>?_;go_simp;(try go_wp2_with fail);refine zX hK (fun hq_=>?_) ⟨HJ.c 3 0,HJ.c 3 1,HJ.c 3 2,HJ.c 3 3,HJ.c 3 4,HJ.c 3 5,HJ.c 3 6,HJ.c 4 0,HJ.c 4 1⟩;refine zV 20 hq_ ?_;refine dN ?_;go_wp2;refine a3i (.bool false) HJ 5 rfl results55 rfl rfl rfl ?_;rw[HF.out];exact⟨_,_,_,_,_,_,by simp only[do1,hle,Bool.and_false],Sep.sub HJ [2,1,0] rfl (by decide)⟩
   ·have do1:decide (0<op)=false:=decide_eq_false ho;refine wp_region_held_drew (S:=(fun w'=>w'.cell? ⟨g2,0,none⟩=some (.int .i64 op)∧w'.cell? ⟨g2,1,none⟩=some (.slice B1 m1 d1)∧w'.cell? ⟨g2,2,none⟩=some (.slice B2 m2 d2)∧w'.cell? ⟨g2,3,none⟩=some (.slice B3 m3 d3)∧w'.cell? ⟨g2,4,none⟩=some (.int .i64 z0)∧w'.cell? ⟨g2,5,none⟩=some (.int .i64 z1)∧w'.cell? ⟨g2,6,none⟩=some (.string nt2)∧w'.cell? ⟨g1,0,none⟩=some (.slice A8 n8 c8)∧w'.cell? ⟨g1,1,none⟩=some (.bool q3))) (by kernel_rfl) ?_ (fun hq_=>?_)
    ·exact⟨k0,k1,k2,k3,k4,k5,k6,r0,r1⟩
    refine zV 0 hq_ ?_;refine zV 1 hq_ ?_;refine zV 2 hq_ ?_;refine zV 3 hq_ ?_;refine zV 4 hq_ ?_;refine zT 5 hq_ ?_;refine zT 6 hq_ ?_;refine zT 7 hq_ ?_;refine zT 8 hq_ ?_;refine zT 9 hq_ ?_;refine zV 10 hq_ ?_;refine zV 11 hq_ ?_;refine zT 12 hq_ ?_;refine zT 13 hq_ ?_;refine zT 14 hq_ ?_;refine zT 15 hq_ ?_;refine zT 16 hq_ ?_;refine zT 17 hq_ ?_;refine zV 18 hq_ ?_;refine e1 19 fun K hK=>?_;go_simp;(try go_wp2_with fail);refine zX hK (fun hq_=>?_) ⟨HJ.c 3 0,HJ.c 3 1,HJ.c 3 2,HJ.c 3 3,HJ.c 3 4,HJ.c 3 5,HJ.c 3 6,HJ.c 4 0,HJ.c 4 1⟩;refine zV 20 hq_ ?_;refine dN ?_;go_wp2;refine a3i (.bool false) HJ 5 rfl results55 rfl rfl rfl ?_;rw[HF.out];exact⟨_,_,_,_,_,_,by simp only[do1,Bool.false_and],Sep.sub HJ [2,1,0] rfl (by decide)⟩
theorem b5d (n:Nat)(h:n<256):(UInt8.ofNat n).toNat=n:=by simp;omega
theorem d5g (r:Nat)(hr:r<55296)(t:List UInt8):Lib.decodeL ((Utf8.encode (r:Int)).data.toList++t)=(r,(Utf8.encode (r:Int)).size):=by
 have hv:Utf8.valid (r:Int)=true:=by simp[Utf8.valid];omega
 rw[Lib.decodeL_N];unfold Utf8.encode;simp only[hv,if_true,Int.toNat_natCast];by_cases h1:r<128
 ·simp only[h1,if_true];simp only[List.cons_append,List.nil_append,List.getD_cons_zero,List.getD_cons_succ];rw[b5d r (by omega),Lib.decodeN,iP (by omega)]
  rfl
 ·by_cases h2:r<2048
  ·simp only[h1,h2,if_true,if_false];simp only[List.cons_append,List.nil_append,List.getD_cons_zero,List.getD_cons_succ,List.length_cons];rw[b5d (192+r / 64) (by omega),b5d (128+r % 64) (by omega),Lib.decodeN,iN (by omega),iP ⟨by omega,by omega,by omega⟩,iP (by omega)];exact Prod.ext (show(192+r / 64) % 32*64+(128+r % 64) % 64=r by omega) rfl
  ·simp only[h1,h2,show r<65536 from by omega,if_true,if_false];simp only[List.cons_append,List.nil_append,List.getD_cons_zero,List.getD_cons_succ,List.length_cons];rw[b5d (224+r / 4096) (by omega),b5d (128+r / 64 % 64) (by omega),b5d (128+r % 64) (by omega),Lib.decodeN,iN (by omega),iN (by omega),iP ⟨by omega,⟨by omega,by omega⟩,by omega,by omega⟩,iP ⟨by omega,by omega⟩];exact Prod.ext (show(224+r / 4096) % 16*4096+(128+r / 64 % 64) % 64*64+(128+r % 64) % 64=r by omega) rfl
theorem d5p (r:Int):1≤(Utf8.encode r).size:=by
 unfold Utf8.encode;simp only
 repeat' split
 all_goals simp[ByteArray.size]
theorem toL (s:ByteArray):s.data.toList.length=s.size:=Array.length_toList
theorem e4n (r:Nat)(hr:r<55296)(p q:ByteArray):Utf8.decode (p++(Utf8.encode (r:Int)++q)) p.size=(r,(Utf8.encode (r:Int)).size):=by
 rw[←Lib.decodeL_drop]
 have:(p++(Utf8.encode (r:Int)++q)).data.toList.drop p.size=(Utf8.encode (r:Int)).data.toList++q.data.toList:=by
  simp only[ByteArray.data_append,Array.toList_append];rw[←toL p,List.drop_left]
 rw[this,d5g r hr]
theorem b0y (r:Int)(l:List Int):runesBytes (r::l)=Utf8.encode r++runesBytes l:=by
 have:∀(l:List Int) (a b:ByteArray),l.foldl (fun r n=>r++Utf8.encode n) (a++b)=a++l.foldl (fun r n=>r++Utf8.encode n) b:=by
  intro l
  induction l with
  | nil=>intro a b;rfl
  | cons x l ih=>intro a b;rw[List.foldl_cons,List.foldl_cons,ByteArray.append_assoc,ih]
 have h:=this l (Utf8.encode r) ByteArray.empty;rw[ByteArray.append_empty] at h;rw[runesBytes,List.foldl_cons,ByteArray.empty_append,h];rfl
theorem e2x (l:List Int)(hl:∀ r∈l,0≤r∧r<55296):∀(p:ByteArray) (b:Nat),(runesBytes l).size≤b→a1f (p++runesBytes l) b p.size=l:=by
 induction l with
 | nil =>
  intro p b _;have h0:runesBytes []=ByteArray.empty:=rfl;rw[h0,ByteArray.append_empty]
  cases b with
  | zero=>rfl
  | succ b=>rw[a1f,iN (by omega)]
 | cons r l ih =>
  intro p b hb;obtain⟨h0,h1⟩:=hl r (by simp);obtain⟨r,rfl⟩:=eZ h0;rw[b0y] at hb ⊢;rw[ByteArray.size_append] at hb;have hp:=d5p (r:Int)
  cases b with
  | zero=>omega
  | succ b =>
   rw[a1f,iP (by rw[ByteArray.size_append,ByteArray.size_append];omega),e4n r (by omega)];have:=ih (fun x hx=>hl x (by simp[hx])) (p++Utf8.encode (r:Int)) b (by omega);rw[ByteArray.size_append,ByteArray.append_assoc] at this;rw[this]
theorem b9l (l:List Int)(hl:∀ r∈l,0≤r∧r<55296):a0a (runesBytes l)=l:=by
 have:=e2x l hl ByteArray.empty (runesBytes l).size (Nat.le_refl _);rw[ByteArray.empty_append] at this;exact this
def b5n:Go.Shelf.Ren:=⟨fun|169=>74|n=>n,fun|0=>0|3=>3|9=>9|37=>33|70=>110|72=>112|127=>149|5=>5|n=>n,fun|n=>n⟩
theorem e1p:Go.Proofs.Lays.n169 prog b5n:={
 mixed:=by kernel_rfl
 f169:=func74.trans (congrArg some (by kernel_rfl))
 t0:=underlying0
 a0:=Tryz.isAgg0
 z0:=Tryz.sizeOf0
 v0:=Tryz.zeroValue0
 t3:=underlying3
 a3:=Tryz.isAgg3
 z3:=Tryz.sizeOf3
 v3:=Tryz.zeroValue3
 t9:=underlying9
 a9:=Tryz.isAgg9
 z9:=Tryz.sizeOf9
 v9:=Tryz.zeroValue9
 t37:=underlying33
 a37:=Tryz.isAgg33
 z37:=Tryz.sizeOf33
 v37:=Tryz.zeroValue33
 t70:=underlying110
 a70:=Tryz.isAgg110
 z70:=Tryz.sizeOf110
 v70:=Tryz.zeroValue110
 t72:=underlying112
 a72:=Tryz.isAgg112
 z72:=Tryz.sizeOf112
 v72:=Tryz.zeroValue112
 t127:=underlying149
 a127:=Tryz.isAgg149
 z127:=Tryz.sizeOf149
 v127:=Tryz.zeroValue149 }
theorem d7e:Builder.Extra prog b5n:={
 sizeBuilder:=by kernel_rfl
 liesBuilder:=by kernel_rfl
 t5:=underlying5
 a5:=Tryz.isAgg5
 z5:=Tryz.sizeOf5
 v5:=Tryz.zeroValue5
 infoByte:=by kernel_rfl
 cellsByte:=by kernel_rfl
 sizeByte:=by kernel_rfl
 neB5:=by decide }
def b5m:Go.Shelf.Ren:=⟨fun|168=>132|240=>104|242=>153|276=>129|278=>168|n=>n,fun|0=>0|3=>3|4=>4|5=>5|9=>9|20=>20|21=>21|37=>33|46=>185|51=>183|70=>110|72=>112|75=>114|164=>162|80=>101|n=>n,fun|n=>n⟩
theorem e1o:Go.Proofs.Lays.n168 prog b5m:={
 mixed:=by kernel_rfl
 f168:=func132.trans (congrArg some (by kernel_rfl))
 f240:=func104.trans (congrArg some (by kernel_rfl))
 f242:=func153.trans (congrArg some (by kernel_rfl))
 f276:=func129.trans (congrArg some (by kernel_rfl))
 f278:=func168.trans (congrArg some (by kernel_rfl))
 t0:=underlying0
 a0:=Tryz.isAgg0
 z0:=Tryz.sizeOf0
 v0:=Tryz.zeroValue0
 t3:=underlying3
 a3:=Tryz.isAgg3
 z3:=Tryz.sizeOf3
 v3:=Tryz.zeroValue3
 t4:=underlying4
 a4:=Tryz.isAgg4
 z4:=Tryz.sizeOf4
 v4:=Tryz.zeroValue4
 t5:=underlying5
 a5:=Tryz.isAgg5
 z5:=Tryz.sizeOf5
 v5:=Tryz.zeroValue5
 t9:=underlying9
 a9:=Tryz.isAgg9
 z9:=Tryz.sizeOf9
 v9:=Tryz.zeroValue9
 t20:=underlying20
 a20:=Tryz.isAgg20
 z20:=Tryz.sizeOf20
 v20:=Tryz.zeroValue20
 t21:=underlying21
 a21:=Tryz.isAgg21
 z21:=Tryz.sizeOf21
 v21:=Tryz.zeroValue21
 t37:=underlying33
 a37:=Tryz.isAgg33
 z37:=Tryz.sizeOf33
 v37:=Tryz.zeroValue33
 t46:=underlying185
 a46:=Tryz.isAgg185
 z46:=Tryz.sizeOf185
 v46:=Tryz.zeroValue185
 t51:=underlying183
 a51:=Tryz.isAgg183
 z51:=Tryz.sizeOf183
 v51:=Tryz.zeroValue183
 t70:=underlying110
 a70:=Tryz.isAgg110
 z70:=Tryz.sizeOf110
 v70:=Tryz.zeroValue110
 t72:=underlying112
 a72:=Tryz.isAgg112
 z72:=Tryz.sizeOf112
 v72:=Tryz.zeroValue112
 t75:=underlying114
 a75:=Tryz.isAgg114
 z75:=Tryz.sizeOf114
 v75:=Tryz.zeroValue114
 t164:=underlying162
 a164:=Tryz.isAgg162
 z164:=Tryz.sizeOf162
 v164:=Tryz.zeroValue162 }
theorem d7d:Builder.Extra prog b5m:={
 sizeBuilder:=by kernel_rfl
 liesBuilder:=by kernel_rfl
 t5:=underlying5
 a5:=Tryz.isAgg5
 z5:=Tryz.sizeOf5
 v5:=Tryz.zeroValue5
 infoByte:=by kernel_rfl
 cellsByte:=by kernel_rfl
 sizeByte:=by kernel_rfl
 neB5:=by decide }
def c5y:Go.Shelf.Ren:=⟨fun|195=>152|n=>n,fun|0=>0|3=>3|4=>4|9=>9|n=>n,fun|n=>n⟩
theorem e1s:Go.Proofs.Lays.n195 prog c5y:={
 mixed:=by kernel_rfl
 f195:=func152.trans (congrArg some (by kernel_rfl))
 t0:=underlying0
 a0:=Tryz.isAgg0
 z0:=Tryz.sizeOf0
 v0:=Tryz.zeroValue0
 t3:=underlying3
 a3:=Tryz.isAgg3
 z3:=Tryz.sizeOf3
 v3:=Tryz.zeroValue3
 t4:=underlying4
 a4:=Tryz.isAgg4
 z4:=Tryz.sizeOf4
 v4:=Tryz.zeroValue4
 t9:=underlying9
 a9:=Tryz.isAgg9
 z9:=Tryz.sizeOf9
 v9:=Tryz.zeroValue9 }
def c5v:Go.Shelf.Ren:=⟨fun|107=>130|108=>151|n=>n,fun|0=>0|3=>3|4=>4|28=>25|n=>n,fun|n=>n⟩
theorem d1g:Go.Proofs.Lays.n107 prog c5v:={
 mixed:=by kernel_rfl
 f107:=func130.trans (congrArg some (by kernel_rfl))
 f108:=func151.trans (congrArg some (by kernel_rfl))
 t0:=underlying0
 a0:=Tryz.isAgg0
 z0:=Tryz.sizeOf0
 v0:=Tryz.zeroValue0
 t3:=underlying3
 a3:=Tryz.isAgg3
 z3:=Tryz.sizeOf3
 v3:=Tryz.zeroValue3
 t4:=underlying4
 a4:=Tryz.isAgg4
 z4:=Tryz.sizeOf4
 v4:=Tryz.zeroValue4
 t28:=underlying25
 a28:=Tryz.isAgg25
 z28:=Tryz.sizeOf25
 v28:=Tryz.zeroValue25 }
def Bld (b:Nat) (l:List UInt8) (w:World):Prop:=Lib.IsBuilderF 112 5 b b (Lib.byteCells l) w
theorem c4x (w:World):Bld w.heap.size [] (w.alloc (.cells #[.pointer none,.slice none 0 0] 112)):=Lib.IsBuilderF.of (Lib.fresh_isBuilder 112 5 w)
theorem b6y (b:Nat)(l:List UInt8)(r:Int)(hr : -2147483648≤r∧r≤2147483647)(w:World)(h:Bld b l w)(hl:l.length+4≤140737488355328)(hb:b≤w.heap.size):
  Calls prog 132 #[.pointer (some ⟨b,0,none⟩),.int .i32 r] w fun e w'=>(∃ n:Nat,e=.returned (.tuple #[.int .i64 n,.nilIface]))∧Bld b (l++Lib.encodeRune r) w'∧Below b w w'∧Lib.OthersKept 5 (some b) w w':=by
 refine(Any.Builder_WriteRune_k e1o d7d b b (Lib.byteCells l) r hr.1 hr.2 w h (by rw[Lib.byteCells_length];exact hl) hb).mono ?_;rintro e w' ⟨rfl,h1,h2,h3⟩;refine⟨⟨_,rfl⟩,?_,h2,h3⟩;unfold Bld;rw[Lib.byteCells_append,Lib.byteCells_encodeRune];exact Or.inr h1
theorem b2v (b:Nat)(l:List UInt8)(w:World)(h:Bld b l w)(hb:b≤w.heap.size):
  Calls prog 74 #[.pointer (some ⟨b,0,none⟩)] w fun e w'=>e=.returned (.string ⟨l.toArray⟩)∧Below b w w':=by
 refine(Any.Builder_String_any_k e1p d7e b b l w h hb).mono ?_;rintro e w' ⟨rfl,_,h2,_⟩;exact⟨rfl,h2⟩
theorem c3v (s:ByteArray)(w:World)(hs:s.size≤17592186044000):
  Calls prog 152 #[.string s] w fun e w'=>(∃ n:Nat,n≤s.size∧e=.returned (.int .i64 n))∧Below w.heap.size w w':=by
 refine(Any.utf8_RuneCountInString e1s s w (by omega)).mono ?_;rintro e w' ⟨rfl,pos,rfl⟩;exact⟨⟨_,Lib.runeCount_le s,rfl⟩,(Below.refl _ _).alloc (Nat.le_refl _) _⟩
end Go.Proofs.YtdcmanhgekjhgaaGreatDoor
