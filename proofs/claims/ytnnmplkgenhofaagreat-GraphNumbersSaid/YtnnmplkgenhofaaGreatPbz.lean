import Derived.Test.YtnnmplkgenhofaaGreatPbv
import Derived.Test.YtnnmplkgenhofaaGreatPby
set_option maxRecDepth 100000
set_option maxHeartbeats 12800000
namespace Go.Proofs.YtnnmplkgenhofaaGreat
open Go.RowKit
theorem tape10_any {w:World} (k:Nat) (hk:k<60) :
  Calls Tryz.prog 5 #[.int .i64 k] w fun e w' => (∃ v n ys,e=.returned v∧OwnS w' w.heap.size 3 v n ys)∧Below w.heap.size w w' := by
 go_enter Tryz.func5,Tryz.ntmps5
 go_wp2_with fail
 go_loopw [3,4] (fun sv iv wr=>∃(i:Nat) (ys:List Int),iv=.int .i64 i∧i≤200∧OwnS wr w.heap.size 3 sv i ys∧Below w.heap.size w wr) (fun _ iv _=>200-(intOf iv).toNat)
 case atStart=>exact⟨0,[],rfl,by omega,OwnS.nil_ _ _ _,Below.refl _ _⟩
 case round =>
  obtain⟨i,ys,rfl,hi,hO,hB⟩:=hrel;have HO:=Hd hO;have HB:=Hd hB;have hz:=hB.size;obtain⟨Ao,co,hv,hco,_,_⟩:=hO.form;subst hv;have hm1:i*i≤40000:=Nat.le_trans (Nat.mul_le_mul hi hi) (by omega);have hm2:i*k≤12000:=Nat.le_trans (Nat.mul_le_mul hi (show k≤60 by omega)) (by omega);clear hO hB;by_cases hlt:i<200
  ·have d0:decide (i<200)=true:=by simpa using hlt
   go_wp2_with (at_builtin;refine wpList_append_int rfl (.tmp 9) (.tmp 22) 22 3 rfl Tryz.underlying22 Tryz.infoInt w.heap.size _ i ys rfl HO.out hz _ ?cf _ rfl ?c1 ?_)
   case cf=>exact⟨by omega,by omega⟩
   case c1=>omega
   intro v' w' h1 h2 h3;have G1:=Hd h1;have G2:=Hd h2;clear h1 h2 h3;go_wp2;go_roundw
   case rel=>exact⟨i+1,_,by go_num,by omega,G1.out,HB.out.trans G2.out⟩
   case measure=>simp[intOf];omega
  ·have d0:decide (i<200)=false:=by simpa using hlt
   go_wp2;go_ret;exact⟨⟨_,_,_,rfl,HO.out⟩,HB.out⟩
theorem turns_one {w:World} {g:Nat} {T:TypeId} {f:Nat × Nat} {a b c d:Int} {t:ByteArray} (hb:w.heap[g]? = some (.cells #[.int .i64 a,.int .i64 b,.int .i64 c,.int .i64 d,.string t] T f)) (ok:TurnOk ⟨a,b,c,d,t⟩):Turns w (some ⟨g,0,none⟩) 1 [⟨a,b,c,d,t⟩]:=by
 refine⟨rfl,by omega,fun j x hj=>?_⟩
 have hj0:j=0:=by
  rcases Nat.eq_zero_or_pos j with e|e
  ·exact e
  ·rw[List.getElem?_eq_none (by simp;omega)] at hj;cases hj
 subst hj0;injection hj with hj;subst hj
 have hc:∀ k:Nat,w.cell? ⟨g,k,none⟩=(#[Value.int .i64 a,.int .i64 b,.int .i64 c,.int .i64 d,.string t]:Array Value)[k]? := fun k=>by simp[World.cell?,hb]
 exact⟨ok,⟨g,0,none⟩,rfl,(Array.getElem?_eq_some_iff.1 hb).1,hc 0,hc 1,hc 2,hc 3,hc 4⟩
theorem lils_three {w:World} {g:Nat} {T:TypeId} {f:Nat × Nat} {A0 A1 A2:Option Addr} {n0 c0 n1 c1 n2 c2:Nat} {l0 l1 l2:List Int} (hb:w.heap[g]? = some (.cells #[.slice A0 n0 c0,.slice A1 n1 c1,.slice A2 n2 c2] T f)) (h0:Ints w A0 n0 l0) (h1:Ints w A1 n1 l1) (h2:Ints w A2 n2 l2) (q0:n0≤c0) (q1:n1≤c1) (q2:n2≤c2):Lils w (some ⟨g,0,none⟩) 3 [l0,l1,l2]:=by
 have hc:∀ k:Nat,w.cell? ⟨g,k,none⟩=(#[Value.slice A0 n0 c0,.slice A1 n1 c1,.slice A2 n2 c2]:Array Value)[k]? := fun k=>by simp[World.cell?,hb]
 have hl:=(Array.getElem?_eq_some_iff.1 hb).1;refine⟨rfl,by omega,fun j x hj=>?_⟩;rcases(show j=0∨j=1∨j=2∨3≤j by omega) with rfl|rfl|rfl|hj3
 ·injection hj with hj;subst hj;exact⟨⟨g,0,none⟩,A0,n0,c0,rfl,hl,hc 0,q0,h0⟩
 ·injection hj with hj;subst hj;exact⟨⟨g,0,none⟩,A1,n1,c1,rfl,hl,hc 1,q1,h1⟩
 ·injection hj with hj;subst hj;exact⟨⟨g,0,none⟩,A2,n2,c2,rfl,hl,hc 2,q2,h2⟩
 ·rw[List.getElem?_eq_none (by simpa using hj3)] at hj;cases hj
def zNode:NodeV:=⟨0,[],[],[],0,0,⟨#[]⟩⟩
def zCells:Array Value:=#[.int .i64 0,.slice none 0 0,.slice none 0 0,.slice none 0 0,.int .i64 0,.int .i64 0,.string ⟨#[]⟩]
def zRow:Array Value:=madeCells zCells 343
theorem run_make_nodes (w:World):(Instr.makeSlice 23 (.int .i64 49) (.int .i64 49)).run Tryz.prog w=.ok (.slice (some ⟨w.heap.size,0,none⟩) 49 49) (w.alloc (.cells zRow 34)):=by
 obtain⟨i,hi,hz0,hz1,hz2⟩:=infoNode_parts;have:=run_make (P:=Tryz.prog) w 23 34 i _ Tryz.underlying23 hi hz0 .i64 .i64 49 49 (by omega) (by omega) (by rw[hz2];omega) (by omega);rw[this,hz1];rfl
theorem zRow_at {k:Nat} (hk:k<343):zRow.toList[k]? = zCells[k % 7]? := by
 have h7:k % 7<7:=Nat.mod_lt _ (by omega)
 have:zRow.toList[k]? = some (zCells[k % 7]!):=by
  rw[Array.getElem?_toList,zRow,madeCells,Array.getElem?_map,Array.getElem?_range,if_pos hk];rfl
 rw[this];rcases(show k % 7=0∨k % 7=1∨k % 7=2∨k % 7=3∨k % 7=4∨k % 7=5∨k % 7=6 by omega) with e|e|e|e|e|e|e <;> rw[e] <;> rfl
theorem zRow_nodes (w:World):NodK w zRow.toList (List.replicate 49 zNode):=by
 refine⟨by rw[Array.length_toList,zRow,size_madeCells,List.length_replicate],fun j nd hj=>?_⟩;have hl:=(List.getElem?_eq_some_iff.1 hj).1;rw[List.length_replicate] at hl;have:nd=zNode:=(List.eq_of_mem_replicate (List.mem_of_getElem? hj));subst this;refine⟨none,0,0,none,0,0,none,0,0,fun i hi=>?_,⟨Nat.le_refl _,Nat.le_refl _,Nat.le_refl _,Ints.nil_ _ _,Ints.nil_ _ _,Ints.nil_ _ _,fits0,fits0,fits0,by show 0≤_;omega⟩⟩;rw[zRow_at (by omega),show(j*7+i) % 7=i by omega];rcases(show i=0∨i=1∨i=2∨i=3∨i=4∨i=5∨i=6 by omega) with rfl|rfl|rfl|rfl|rfl|rfl|rfl <;> rfl
theorem numbers10_walk (w:World):Calls Tryz.prog 3 #[] w fun e w' => e=.returned (.bool true)∧Below w.heap.size w w' := by
 go_enter Tryz.func3,Tryz.ntmps3
 go_wp2_with fail
 go_loopw [1] (fun iv wr=>∃ k:Nat,iv=.int .i64 k∧k≤60∧Below w.heap.size w wr) (fun iv _=>60-(intOf iv).toNat)
 case atStart=>exact⟨0,rfl,by omega,Below.refl _ _⟩
 case round =>
  obtain⟨k,rfl,hk,hB⟩:=hrel;have HB:=Hd hB;clear hB;by_cases hlt:k<60
  ·have d0:decide ((k:Int)<60)=true:=by simp;omega
   have d0n:decide (k<60)=true:=by simpa using hlt
   obtain⟨wb,rfl⟩:∃ wb:World,wb=wr:=⟨_,rfl⟩;have CT:=tape10_any (w:=wb) k hlt
   go_wp2_with fail
   refine CT.mono ?_;rintro e1 w1 ⟨⟨v,n,ys,rfl,hO⟩,hb1⟩;obtain⟨At,ct,rfl,_,hI,_⟩:=hO.form;have CG:=graph_k (c:=ct) hI;have hF:=few_graph ys;obtain⟨G,hGd⟩:∃ G,kGraph ys=G:=⟨_,rfl⟩;rw[hGd] at CG hF;have HF:=Hd hF;have HB1:=Hd (then_ HB.out hb1);clear CT hO hI hGd hF hb1
   go_wp2_with fail
   refine CG.mono ?_;rintro e2 w2 ⟨⟨v,rfl,hG⟩,hb2⟩;have HG:=Hd hG;obtain⟨A,na,ca,B,nb,cb,C,nc,cc,rfl,_⟩:=hG;have HB2:=Hd (then_ HB1.out hb2);clear CG hb2;have h1:=(Sep.nil w2).allocBox w2.heap.size 25 [.slice A na ca,.string G.names,.slice B nb cb,.slice C nc cc] rfl
   go_upto_region 5 with fail
   generalize w2.alloc (.cells #[.slice A na ca,.string G.names,.slice B nb cb,.slice C nc cc] 25)=w3 at *;have H:=Hd h1;clear h1
   go_wp2_with fail
   go_loopw [3] (fun jv wr=>∃ j:Nat,jv=.int .i64 ((j:Int)-1)∧j≤6∧Sep w2 wr [.box w2.heap.size 25 [.slice A na ca,.string G.names,.slice B nb cb,.slice C nc cc]]) (fun jv _=>6-(intOf jv+1).toNat)
   case atStart=>exact⟨0,rfl,by omega,H.out⟩
   case round =>
    clear H;obtain⟨j,rfl,hj,hS⟩:=hrel;have H:=Hd hS;clear hS;by_cases hlj:j<6
    ·have d1:decide ((j:Int)-1<5)=true:=by simp;omega
     obtain⟨g0,g1,g2,g3⟩:=H.out.cells4 0 rfl;have CS:=l10same_any (HG.out.below H.out.base) (HF.out.more (by omega))
     go_wp2_with fail
     refine CS.mono ?_;rintro e3 w4 ⟨rfl,hb3⟩;replace H:=Hd (H.out.below hb3);clear CS hb3 g0 g1 g2 g3;obtain⟨g0,g1,g2,g3⟩:=H.out.cells4 0 rfl
     go_wp2_with fail
     have hbA:Below w4.heap.size w4 (w4.alloc (.cells #[.int .i64 ((k:Int)*7+((j:Int)-1)+1),.int .i64 k,.int .i64 j,.int .i64 ((j:Int)-1),.string ⟨#[120,46]⟩] 31)):=(Below.refl _ _).alloc (Nat.le_refl _) _;have hT:=turns_one (heap_alloc_new w4 (.cells #[.int .i64 ((k:Int)*7+((j:Int)-1)+1),.int .i64 k,.int .i64 j,.int .i64 ((j:Int)-1),.string ⟨#[120,46]⟩] 31)) ⟨⟨by show _≤(k:Int)*7+((j:Int)-1)+1;omega,by show(k:Int)*7+((j:Int)-1)+1≤_;omega⟩,⟨by show _≤(k:Int);omega,by show(k:Int)≤_;omega⟩,⟨by show _≤(j:Int);omega,by show(j:Int)≤_;omega⟩,⟨by show _≤(j:Int)-1;omega,by show(j:Int)-1≤_;omega⟩,by show 2≤_;omega⟩;have CO:=Odd_any (c:=1) ((HG.out.below H.out.base).below hbA) HF.out hT;replace H:=Hd (H.out.below hbA);clear hT hbA g0 g1 g2 g3;refine CO.mono ?_;rintro e5 w6 ⟨⟨v6,rfl,G6,hG6,hF6⟩,hb6⟩;replace H:=Hd (H.out.below hb6);have CS:=l10same_any hG6 (hF6.more (by omega));clear CO hb6
     go_wp2_with fail
     refine CS.mono ?_;rintro e7 w8 ⟨rfl,hb7⟩;replace H:=Hd (H.out.below hb7);clear CS hb7 hG6 hF6;go_wp2;go_roundw
     case rel=>exact⟨j+1,by go_num,by omega,H.out⟩
     case measure=>simp[intOf];omega
    ·have d1:decide ((j:Int)-1<5)=false:=by simp;omega
     go_wp2;go_roundw
     case rel=>exact⟨k+1,by go_num,by omega,then_ HB2.out H.out.base⟩
     case measure=>simp[intOf];omega
  ·have d0:decide ((k:Int)<60)=false:=by simp;omega
   have d0n:decide (k<60)=false:=by simpa using hlt
   obtain⟨wb,rfl⟩:∃ wb:World,wb=wr:=⟨_,rfl⟩
   go_wp2_with fail
   go_loopw [4] (fun iv wr=>∃ o:Nat,iv=.int .i64 ((o:Int)-1)∧o≤24∧Below w.heap.size w wr) (fun iv _=>24-(intOf iv+1).toNat)
   case atStart=>exact⟨0,rfl,by omega,HB.out⟩
   case round =>
    clear HB;obtain⟨o,rfl,ho,hB⟩:=hrel;have HB:=Hd hB;clear hB;by_cases hlo:o<24
    ·have d1:decide ((o:Int)-1<23)=true:=by simp;omega
     go_wp2_with fail
     go_loopw [5] (fun hv wr=>∃ h:Nat,hv=.int .i64 h∧h≤16∧Below w.heap.size w wr) (fun hv _=>16-(intOf hv).toNat)
     case atStart=>exact⟨0,rfl,by omega,HB.out⟩
     case round =>
      clear HB;obtain⟨h,rfl,hh,hB⟩:=hrel;have HB:=Hd hB;clear hB;obtain⟨wb,rfl⟩:∃ wb:World,wb=wr:=⟨_,rfl⟩;by_cases hlh:h<16
      ·have d2:decide ((h:Int)<16)=true:=by simp;omega
       have d2n:decide (h<16)=true:=by simpa using hlh
       go_upto_region 17 with fail
       obtain⟨hv,hhv⟩:∃ x,bits BinOp.and IntKind.i64 (h:Int) 3=x:=⟨_,rfl⟩;have hfv:Fits hv:=by rw[← hhv,and3];exact⟨by omega,by omega⟩
       rw[hhv];clear hhv;have h1:=(((Sep.nil wb).lit 3 #[.int .i64 0] [0] 1 wb.heap.size rfl rfl rfl).lit 3 #[.int .i64 2] [2] 1 (wb.heap.size+1) (by simp) rfl rfl).allocBox (wb.heap.size+1+1) 34 [.int .i64 ((o:Int)-1),.slice none 0 0,.slice (some ⟨wb.heap.size+1,0,none⟩) 1 1,.slice (some ⟨wb.heap.size,0,none⟩) 1 1,.int .i64 0,.int .i64 hv,.string ⟨#[]⟩] (by simp);generalize ((wb.alloc (.cells #[.int .i64 0] 3)).alloc (.cells #[.int .i64 2] 3)).alloc (.cells #[.int .i64 ((o:Int)-1),.slice none 0 0,.slice (some ⟨wb.heap.size+1,0,none⟩) 1 1,.slice (some ⟨wb.heap.size,0,none⟩) 1 1,.int .i64 0,.int .i64 hv,.string ⟨#[]⟩] 34)=wn at *;have H:=Hd h1;clear h1;obtain⟨b4,hb4⟩:∃ b,decide (0<bits BinOp.and IntKind.i64 (h:Int) 4)=b:=⟨_,rfl⟩;obtain⟨b8,hb8⟩:∃ b,decide (0<bits BinOp.and IntKind.i64 (h:Int) 8)=b:=⟨_,rfl⟩;have hcut:True:=trivial
       cases b4
       case false =>
        cases b8
        case false =>
         obtain⟨x0,x1,x2,x3,x4,x5,x6⟩:=H.out.cells7 0 rfl;obtain ⟨fx0,fx1,fx2,fx3,fx4,fx5,fx6⟩:=H.out.f7 0 rfl
         go_upto_region 21 with fail
         have h2:=H.out;obtain⟨wm,hwm⟩:∃ wm:World,wm=wn:=⟨_,rfl⟩;rw[← hwm] at h2 ⊢;clear hwm;replace H:=Hd (show Sep wb wm [.box (wb.heap.size+1+1) 34 [.int .i64 ((o:Int)-1),.slice none 0 0,.slice (some ⟨wb.heap.size+1,0,none⟩) 1 1,.slice (some ⟨wb.heap.size,0,none⟩) 1 1,.int .i64 0,.int .i64 hv,.string ⟨#[]⟩],.own 3 (.slice (some ⟨wb.heap.size+1,0,none⟩) 1 1) 1 [2],.own 3 (.slice (some ⟨wb.heap.size,0,none⟩) 1 1) 1 [0]] from h2);clear h2 x0 x1 x2 x3 x4 x5 x6 fx0 fx1 fx2 fx3 fx4 fx5 fx6 hb4 hb8 hcut;have hN:NodeIs wm (.agg #[.int .i64 ((o:Int)-1),.slice none 0 0,.slice (some ⟨wb.heap.size+1,0,none⟩) 1 1,.slice (some ⟨wb.heap.size,0,none⟩) 1 1,.int .i64 0,.int .i64 hv,.string ⟨#[]⟩]) ⟨(o:Int)-1,[],[2],[0],0,hv,⟨#[]⟩⟩:=⟨_,_,_,_,_,_,_,_,_,rfl,⟨Nat.le_refl _,Nat.le_refl _,Nat.le_refl _,Ints.nil_ _ none,(H.out.ownInts 1 rfl).2.2,(H.out.ownInts 2 rfl).2.2,⟨by show _≤(o:Int)-1;omega,by show(o:Int)-1≤_;omega⟩,fits0,hfv,by show 0≤_;omega⟩⟩;have HN:=Hd hN;clear hN;have HBM:=Hd (then_ HB.out H.out.base);have hgx:=(H.out.blockLt 0 rfl).2;have HX0:=Hd (H.out.cell 0 0 rfl rfl);have HX1:=Hd (H.out.cell 0 1 rfl rfl);have HX2:=Hd (H.out.cell 0 2 rfl rfl);have HX3:=Hd (H.out.cell 0 3 rfl rfl);have HX4:=Hd (H.out.cell 0 4 rfl rfl);have HX5:=Hd (H.out.cell 0 5 rfl rfl);have HX6:=Hd (H.out.cell 0 6 rfl rfl);clear H;have HGX:=Hd hgx;clear hgx;obtain⟨gx,hgx⟩:∃ gx,wb.heap.size+1+1=gx:=⟨_,rfl⟩;rw[hgx] at HX0 HX1 HX2 HX3 HX4 HX5 HX6 HGX ⊢;clear hgx
         go_wp2_with fail
         go_loopw [7] (fun mv wr=>∃ m:Nat,mv=.int .i64 m∧m≤4∧Below wm.heap.size wm wr) (fun mv _=>4-(intOf mv).toNat)
         case atStart=>exact⟨0,rfl,by omega,Below.refl _ _⟩
         case round =>
          obtain⟨m,rfl,hm,hB⟩:=hrel;have HBR:=Hd hB;clear hB;obtain⟨wq,rfl⟩:∃ wq:World,wq=wr:=⟨_,rfl⟩;by_cases hlm:m<4
          ·have d3:decide ((m:Int)<4)=true:=by simp;omega
           have d3n:decide (m<4)=true:=by simpa using hlm
           have hm3:m≤3:=by omega
           have h3:=((((Sep.nil wq).lit 3 #[.int .i64 2] [2] 1 wq.heap.size rfl rfl rfl).lit 3 #[.int .i64 2] [2] 1 (wq.heap.size+1) (by simp) rfl rfl).lit 3 #[.int .i64 2] [2] 1 (wq.heap.size+1+1) (by simp) rfl rfl).allocBox (wq.heap.size+1+1+1) 22 [.slice (some ⟨wq.heap.size,0,none⟩) 1 1,.slice (some ⟨wq.heap.size+1,0,none⟩) 1 1,.slice (some ⟨wq.heap.size+1+1,0,none⟩) 1 1] (by simp)
           go_upto_region 25 with fail
           generalize (((wq.alloc (.cells #[.int .i64 2] 3)).alloc (.cells #[.int .i64 2] 3)).alloc (.cells #[.int .i64 2] 3)).alloc (.cells #[.slice (some ⟨wq.heap.size,0,none⟩) 1 1,.slice (some ⟨wq.heap.size+1,0,none⟩) 1 1,.slice (some ⟨wq.heap.size+1+1,0,none⟩) 1 1] 22)=wa at *;have H:=Hd h3;clear h3;have hgq:gx<wq.heap.size:=Nat.lt_of_lt_of_le HGX.out HBR.out.size;have y0:=H.out.oldCell (p:=⟨gx,0,none⟩) hgq ((HBR.out.cell HGX.out).trans HX0.out);have y1:=H.out.oldCell (p:=⟨gx,1,none⟩) hgq ((HBR.out.cell HGX.out).trans HX1.out);have y2:=H.out.oldCell (p:=⟨gx,2,none⟩) hgq ((HBR.out.cell HGX.out).trans HX2.out);have y3:=H.out.oldCell (p:=⟨gx,3,none⟩) hgq ((HBR.out.cell HGX.out).trans HX3.out);have y4:=H.out.oldCell (p:=⟨gx,4,none⟩) hgq ((HBR.out.cell HGX.out).trans HX4.out);have y5:=H.out.oldCell (p:=⟨gx,5,none⟩) hgq ((HBR.out.cell HGX.out).trans HX5.out);have y6:=H.out.oldCell (p:=⟨gx,6,none⟩) hgq ((HBR.out.cell HGX.out).trans HX6.out);have hLi:=(lils_three (H.out.heap 0 rfl) (H.out.ownInts 3 rfl).2.2 (H.out.ownInts 2 rfl).2.2 (H.out.ownInts 1 rfl).2.2 (Nat.le_refl _) (Nat.le_refl _) (Nat.le_refl _)).take hm3;have HLI:=Hd hLi;have HWA:=Hd (Below.refl wa.heap.size wa);clear hLi;have CC:=l10node_any (cl:=3) (HN.out.below (then_ HBR.out H.out.base)) HLI.out
           go_wp2_with fail
           refine CC.mono ?_;rintro e1 w1 ⟨rfl,hb1⟩;have HA1:=Hd hb1;replace H:=Hd (H.out.below hb1);clear CC hb1 y0 y1 y2 y3 y4 y5 y6;have h4:=H.out.lit 3 #[.int .i64 0,.int .i64 2,.int .i64 1] [0,2,1] 3 w1.heap.size rfl rfl rfl;have hbl:Below w1.heap.size w1 (w1.alloc (.cells #[.int .i64 0,.int .i64 2,.int .i64 1] 3)):=(Below.refl _ _).alloc (Nat.le_refl _) _;have hN2:NodeIs (w1.alloc (.cells #[.int .i64 0,.int .i64 2,.int .i64 1] 3)) (.agg #[.int .i64 ((o:Int)-1),.slice none 0 0,.slice none 0 0,.slice (some ⟨w1.heap.size,0,none⟩) 3 3,.int .i64 0,.int .i64 h,.string ⟨#[]⟩]) ⟨(o:Int)-1,[],[],[0,2,1],0,h,⟨#[]⟩⟩:=⟨_,_,_,_,_,_,_,_,_,rfl,⟨Nat.le_refl _,Nat.le_refl _,Nat.le_refl _,Ints.nil_ _ none,Ints.nil_ _ none,(h4.ownInts 0 rfl).2.2,⟨by show _≤(o:Int)-1;omega,by show(o:Int)-1≤_;omega⟩,fits0,⟨by show _≤(h:Int);omega,by show(h:Int)≤_;omega⟩,by show 0≤_;omega⟩⟩;have CC:=l10node_any (cl:=3) hN2 (HLI.out.below (then_ HA1.out hbl));have HA9:=Hd (then_ HA1.out hbl);have H4:=Hd h4;clear hN2 hbl h4
           go_wp2_with fail
           refine CC.mono ?_;rintro e1 w2 ⟨rfl,hb1⟩;have HA2:=Hd (then_ HA9.out hb1);replace H:=Hd (H4.out.below hb1);clear CC hb1 H4 HA9;have h4:=H.out.lit 3 #[.int .i64 0,.int .i64 1] [0,1] 2 w2.heap.size rfl rfl rfl;have hbl:Below w2.heap.size w2 (w2.alloc (.cells #[.int .i64 0,.int .i64 1] 3)):=(Below.refl _ _).alloc (Nat.le_refl _) _;have hN2:NodeIs (w2.alloc (.cells #[.int .i64 0,.int .i64 1] 3)) (.agg #[.int .i64 ((o:Int)-1),.slice none 0 0,.slice none 0 0,.slice (some ⟨w2.heap.size,0,none⟩) 2 2,.int .i64 0,.int .i64 0,.string ⟨#[]⟩]) ⟨(o:Int)-1,[],[],[0,1],0,0,⟨#[]⟩⟩:=⟨_,_,_,_,_,_,_,_,_,rfl,⟨Nat.le_refl _,Nat.le_refl _,Nat.le_refl _,Ints.nil_ _ none,Ints.nil_ _ none,(h4.ownInts 0 rfl).2.2,⟨by show _≤(o:Int)-1;omega,by show(o:Int)-1≤_;omega⟩,fits0,fits0,by show 0≤_;omega⟩⟩;have CC:=l10node_any (cl:=3) hN2 (HLI.out.below (then_ HA2.out hbl));have HA9:=Hd (then_ HA2.out hbl);have H4:=Hd h4;clear hN2 hbl h4
           go_wp2_with fail
           refine CC.mono ?_;rintro e1 w3 ⟨rfl,hb1⟩;have HA3:=Hd (then_ HA9.out hb1);replace H:=Hd (H4.out.below hb1);clear CC hb1 H4 HA9;have h4:=H.out.lit 3 #[.int .i64 2] [2] 1 w3.heap.size rfl rfl rfl;have hbl:Below w3.heap.size w3 (w3.alloc (.cells #[.int .i64 2] 3)):=(Below.refl _ _).alloc (Nat.le_refl _) _;have hN2:NodeIs (w3.alloc (.cells #[.int .i64 2] 3)) (.agg #[.int .i64 ((o:Int)-1),.slice none 0 0,.slice (some ⟨w3.heap.size,0,none⟩) 1 1,.slice none 0 0,.int .i64 3,.int .i64 0,.string ⟨#[]⟩]) ⟨(o:Int)-1,[],[2],[],3,0,⟨#[]⟩⟩:=⟨_,_,_,_,_,_,_,_,_,rfl,⟨Nat.le_refl _,Nat.le_refl _,Nat.le_refl _,Ints.nil_ _ none,(h4.ownInts 0 rfl).2.2,Ints.nil_ _ none,⟨by show _≤(o:Int)-1;omega,by show(o:Int)-1≤_;omega⟩,(fits_lit (n:=3) (by decide) (by decide)),fits0,by show 0≤_;omega⟩⟩;have CC:=l10node_any (cl:=3) hN2 (HLI.out.below (then_ HA3.out hbl));have HA9:=Hd (then_ HA3.out hbl);have H4:=Hd h4;clear hN2 hbl h4
           go_wp2_with fail
           refine CC.mono ?_;rintro e1 w4 ⟨rfl,hb1⟩;have HA4:=Hd (then_ HA9.out hb1);replace H:=Hd (H4.out.below hb1);clear CC hb1 H4 HA9;have h5:=((((H.out).lit 3 #[.int .i64 2,.int .i64 2] [2,2] 2 (w4.heap.size) rfl rfl rfl).lit 3 #[.int .i64 33] [33] 1 (w4.heap.size+1) (by simp) rfl rfl).lit 3 #[.int .i64 2,.int .i64 2] [2,2] 2 (w4.heap.size+1+1) (by simp) rfl rfl).allocBox (w4.heap.size+1+1+1) 22 [.slice (some ⟨w4.heap.size,0,none⟩) 2 2,.slice (some ⟨w4.heap.size+1,0,none⟩) 1 1,.slice (some ⟨w4.heap.size+1+1,0,none⟩) 2 2] (by simp);have hL5:=(lils_three (h5.heap 0 rfl) (h5.ownInts 3 rfl).2.2 (h5.ownInts 2 rfl).2.2 (h5.ownInts 1 rfl).2.2 (Nat.le_refl _) (Nat.le_refl _) (Nat.le_refl _)).take hm3;have hN5:NodeIs ((((w4.alloc (.cells #[.int .i64 2,.int .i64 2] 3)).alloc (.cells #[.int .i64 33] 3)).alloc (.cells #[.int .i64 2,.int .i64 2] 3)).alloc (.cells #[.slice (some ⟨w4.heap.size,0,none⟩) 2 2,.slice (some ⟨w4.heap.size+1,0,none⟩) 1 1,.slice (some ⟨w4.heap.size+1+1,0,none⟩) 2 2] 22)) (.agg #[.int .i64 ((o:Int)-1),.slice none 0 0,.slice none 0 0,.slice none 0 0,.int .i64 0,.int .i64 0,.string ⟨#[]⟩]) ⟨(o:Int)-1,[],[],[],0,0,⟨#[]⟩⟩:=⟨_,_,_,_,_,_,_,_,_,rfl,⟨Nat.le_refl _,Nat.le_refl _,Nat.le_refl _,Ints.nil_ _ none,Ints.nil_ _ none,Ints.nil_ _ none,⟨by show _≤(o:Int)-1;omega,by show(o:Int)-1≤_;omega⟩,fits0,fits0,by show 0≤_;omega⟩⟩;have CC:=l10node_any (cl:=3) hN5 hL5;have H5:=Hd h5;clear h5 hL5 hN5
           go_wp2_with fail
           refine CC.mono ?_;rintro e1 w5 ⟨rfl,hb1⟩;replace H:=Hd (H5.out.below hb1);clear CC hb1 H5;go_wp2;go_roundw
           case rel=>exact⟨m+1,by go_num,by omega,then_ HBR.out H.out.base⟩
           case measure=>simp[intOf];omega
          ·have d3:decide ((m:Int)<4)=false:=by simp;omega
           have d3n:decide (m<4)=false:=by simpa using hlm
           go_wp2;go_roundw
           case rel=>exact⟨h+1,by go_num,by omega,then_ HBM.out HBR.out⟩
           case measure=>simp[intOf];omega
        case true =>
         obtain⟨x0,x1,x2,x3,x4,x5,x6⟩:=H.out.cells7 0 rfl;obtain ⟨fx0,fx1,fx2,fx3,fx4,fx5,fx6⟩:=H.out.f7 0 rfl
         go_upto_region 21 with fail
         have h2:=(H.out.setBox 0 2 (.slice none 0 0) rfl);generalize (wn.setCell ⟨wb.heap.size+1+1,2,none⟩ (.slice none 0 0))=wm at *;replace H:=Hd (show Sep wb wm [.box (wb.heap.size+1+1) 34 [.int .i64 ((o:Int)-1),.slice none 0 0,.slice none 0 0,.slice (some ⟨wb.heap.size,0,none⟩) 1 1,.int .i64 0,.int .i64 hv,.string ⟨#[]⟩],.own 3 (.slice (some ⟨wb.heap.size+1,0,none⟩) 1 1) 1 [2],.own 3 (.slice (some ⟨wb.heap.size,0,none⟩) 1 1) 1 [0]] from h2);clear h2 x0 x1 x2 x3 x4 x5 x6 fx0 fx1 fx2 fx3 fx4 fx5 fx6 hb4 hb8 hcut;have hN:NodeIs wm (.agg #[.int .i64 ((o:Int)-1),.slice none 0 0,.slice none 0 0,.slice (some ⟨wb.heap.size,0,none⟩) 1 1,.int .i64 0,.int .i64 hv,.string ⟨#[]⟩]) ⟨(o:Int)-1,[],[],[0],0,hv,⟨#[]⟩⟩:=⟨_,_,_,_,_,_,_,_,_,rfl,⟨Nat.le_refl _,Nat.le_refl _,Nat.le_refl _,Ints.nil_ _ none,Ints.nil_ _ none,(H.out.ownInts 2 rfl).2.2,⟨by show _≤(o:Int)-1;omega,by show(o:Int)-1≤_;omega⟩,fits0,hfv,by show 0≤_;omega⟩⟩;have HN:=Hd hN;clear hN;have HBM:=Hd (then_ HB.out H.out.base);have hgx:=(H.out.blockLt 0 rfl).2;have HX0:=Hd (H.out.cell 0 0 rfl rfl);have HX1:=Hd (H.out.cell 0 1 rfl rfl);have HX2:=Hd (H.out.cell 0 2 rfl rfl);have HX3:=Hd (H.out.cell 0 3 rfl rfl);have HX4:=Hd (H.out.cell 0 4 rfl rfl);have HX5:=Hd (H.out.cell 0 5 rfl rfl);have HX6:=Hd (H.out.cell 0 6 rfl rfl);clear H;have HGX:=Hd hgx;clear hgx;obtain⟨gx,hgx⟩:∃ gx,wb.heap.size+1+1=gx:=⟨_,rfl⟩;rw[hgx] at HX0 HX1 HX2 HX3 HX4 HX5 HX6 HGX ⊢;clear hgx
         go_wp2_with fail
         go_loopw [7] (fun mv wr=>∃ m:Nat,mv=.int .i64 m∧m≤4∧Below wm.heap.size wm wr) (fun mv _=>4-(intOf mv).toNat)
         case atStart=>exact⟨0,rfl,by omega,Below.refl _ _⟩
         case round =>
          obtain⟨m,rfl,hm,hB⟩:=hrel;have HBR:=Hd hB;clear hB;obtain⟨wq,rfl⟩:∃ wq:World,wq=wr:=⟨_,rfl⟩;by_cases hlm:m<4
          ·have d3:decide ((m:Int)<4)=true:=by simp;omega
           have d3n:decide (m<4)=true:=by simpa using hlm
           have hm3:m≤3:=by omega
           have h3:=((((Sep.nil wq).lit 3 #[.int .i64 2] [2] 1 wq.heap.size rfl rfl rfl).lit 3 #[.int .i64 2] [2] 1 (wq.heap.size+1) (by simp) rfl rfl).lit 3 #[.int .i64 2] [2] 1 (wq.heap.size+1+1) (by simp) rfl rfl).allocBox (wq.heap.size+1+1+1) 22 [.slice (some ⟨wq.heap.size,0,none⟩) 1 1,.slice (some ⟨wq.heap.size+1,0,none⟩) 1 1,.slice (some ⟨wq.heap.size+1+1,0,none⟩) 1 1] (by simp)
           go_upto_region 25 with fail
           generalize (((wq.alloc (.cells #[.int .i64 2] 3)).alloc (.cells #[.int .i64 2] 3)).alloc (.cells #[.int .i64 2] 3)).alloc (.cells #[.slice (some ⟨wq.heap.size,0,none⟩) 1 1,.slice (some ⟨wq.heap.size+1,0,none⟩) 1 1,.slice (some ⟨wq.heap.size+1+1,0,none⟩) 1 1] 22)=wa at *;have H:=Hd h3;clear h3;have hgq:gx<wq.heap.size:=Nat.lt_of_lt_of_le HGX.out HBR.out.size;have y0:=H.out.oldCell (p:=⟨gx,0,none⟩) hgq ((HBR.out.cell HGX.out).trans HX0.out);have y1:=H.out.oldCell (p:=⟨gx,1,none⟩) hgq ((HBR.out.cell HGX.out).trans HX1.out);have y2:=H.out.oldCell (p:=⟨gx,2,none⟩) hgq ((HBR.out.cell HGX.out).trans HX2.out);have y3:=H.out.oldCell (p:=⟨gx,3,none⟩) hgq ((HBR.out.cell HGX.out).trans HX3.out);have y4:=H.out.oldCell (p:=⟨gx,4,none⟩) hgq ((HBR.out.cell HGX.out).trans HX4.out);have y5:=H.out.oldCell (p:=⟨gx,5,none⟩) hgq ((HBR.out.cell HGX.out).trans HX5.out);have y6:=H.out.oldCell (p:=⟨gx,6,none⟩) hgq ((HBR.out.cell HGX.out).trans HX6.out);have hLi:=(lils_three (H.out.heap 0 rfl) (H.out.ownInts 3 rfl).2.2 (H.out.ownInts 2 rfl).2.2 (H.out.ownInts 1 rfl).2.2 (Nat.le_refl _) (Nat.le_refl _) (Nat.le_refl _)).take hm3;have HLI:=Hd hLi;have HWA:=Hd (Below.refl wa.heap.size wa);clear hLi;have CC:=l10node_any (cl:=3) (HN.out.below (then_ HBR.out H.out.base)) HLI.out
           go_wp2_with fail
           refine CC.mono ?_;rintro e1 w1 ⟨rfl,hb1⟩;have HA1:=Hd hb1;replace H:=Hd (H.out.below hb1);clear CC hb1 y0 y1 y2 y3 y4 y5 y6;have h4:=H.out.lit 3 #[.int .i64 0,.int .i64 2,.int .i64 1] [0,2,1] 3 w1.heap.size rfl rfl rfl;have hbl:Below w1.heap.size w1 (w1.alloc (.cells #[.int .i64 0,.int .i64 2,.int .i64 1] 3)):=(Below.refl _ _).alloc (Nat.le_refl _) _;have hN2:NodeIs (w1.alloc (.cells #[.int .i64 0,.int .i64 2,.int .i64 1] 3)) (.agg #[.int .i64 ((o:Int)-1),.slice none 0 0,.slice none 0 0,.slice (some ⟨w1.heap.size,0,none⟩) 3 3,.int .i64 0,.int .i64 h,.string ⟨#[]⟩]) ⟨(o:Int)-1,[],[],[0,2,1],0,h,⟨#[]⟩⟩:=⟨_,_,_,_,_,_,_,_,_,rfl,⟨Nat.le_refl _,Nat.le_refl _,Nat.le_refl _,Ints.nil_ _ none,Ints.nil_ _ none,(h4.ownInts 0 rfl).2.2,⟨by show _≤(o:Int)-1;omega,by show(o:Int)-1≤_;omega⟩,fits0,⟨by show _≤(h:Int);omega,by show(h:Int)≤_;omega⟩,by show 0≤_;omega⟩⟩;have CC:=l10node_any (cl:=3) hN2 (HLI.out.below (then_ HA1.out hbl));have HA9:=Hd (then_ HA1.out hbl);have H4:=Hd h4;clear hN2 hbl h4
           go_wp2_with fail
           refine CC.mono ?_;rintro e1 w2 ⟨rfl,hb1⟩;have HA2:=Hd (then_ HA9.out hb1);replace H:=Hd (H4.out.below hb1);clear CC hb1 H4 HA9;have h4:=H.out.lit 3 #[.int .i64 0,.int .i64 1] [0,1] 2 w2.heap.size rfl rfl rfl;have hbl:Below w2.heap.size w2 (w2.alloc (.cells #[.int .i64 0,.int .i64 1] 3)):=(Below.refl _ _).alloc (Nat.le_refl _) _;have hN2:NodeIs (w2.alloc (.cells #[.int .i64 0,.int .i64 1] 3)) (.agg #[.int .i64 ((o:Int)-1),.slice none 0 0,.slice none 0 0,.slice (some ⟨w2.heap.size,0,none⟩) 2 2,.int .i64 0,.int .i64 0,.string ⟨#[]⟩]) ⟨(o:Int)-1,[],[],[0,1],0,0,⟨#[]⟩⟩:=⟨_,_,_,_,_,_,_,_,_,rfl,⟨Nat.le_refl _,Nat.le_refl _,Nat.le_refl _,Ints.nil_ _ none,Ints.nil_ _ none,(h4.ownInts 0 rfl).2.2,⟨by show _≤(o:Int)-1;omega,by show(o:Int)-1≤_;omega⟩,fits0,fits0,by show 0≤_;omega⟩⟩;have CC:=l10node_any (cl:=3) hN2 (HLI.out.below (then_ HA2.out hbl));have HA9:=Hd (then_ HA2.out hbl);have H4:=Hd h4;clear hN2 hbl h4
           go_wp2_with fail
           refine CC.mono ?_;rintro e1 w3 ⟨rfl,hb1⟩;have HA3:=Hd (then_ HA9.out hb1);replace H:=Hd (H4.out.below hb1);clear CC hb1 H4 HA9;have h4:=H.out.lit 3 #[.int .i64 2] [2] 1 w3.heap.size rfl rfl rfl;have hbl:Below w3.heap.size w3 (w3.alloc (.cells #[.int .i64 2] 3)):=(Below.refl _ _).alloc (Nat.le_refl _) _;have hN2:NodeIs (w3.alloc (.cells #[.int .i64 2] 3)) (.agg #[.int .i64 ((o:Int)-1),.slice none 0 0,.slice (some ⟨w3.heap.size,0,none⟩) 1 1,.slice none 0 0,.int .i64 3,.int .i64 0,.string ⟨#[]⟩]) ⟨(o:Int)-1,[],[2],[],3,0,⟨#[]⟩⟩:=⟨_,_,_,_,_,_,_,_,_,rfl,⟨Nat.le_refl _,Nat.le_refl _,Nat.le_refl _,Ints.nil_ _ none,(h4.ownInts 0 rfl).2.2,Ints.nil_ _ none,⟨by show _≤(o:Int)-1;omega,by show(o:Int)-1≤_;omega⟩,(fits_lit (n:=3) (by decide) (by decide)),fits0,by show 0≤_;omega⟩⟩;have CC:=l10node_any (cl:=3) hN2 (HLI.out.below (then_ HA3.out hbl));have HA9:=Hd (then_ HA3.out hbl);have H4:=Hd h4;clear hN2 hbl h4
           go_wp2_with fail
           refine CC.mono ?_;rintro e1 w4 ⟨rfl,hb1⟩;have HA4:=Hd (then_ HA9.out hb1);replace H:=Hd (H4.out.below hb1);clear CC hb1 H4 HA9;have h5:=((((H.out).lit 3 #[.int .i64 2,.int .i64 2] [2,2] 2 (w4.heap.size) rfl rfl rfl).lit 3 #[.int .i64 33] [33] 1 (w4.heap.size+1) (by simp) rfl rfl).lit 3 #[.int .i64 2,.int .i64 2] [2,2] 2 (w4.heap.size+1+1) (by simp) rfl rfl).allocBox (w4.heap.size+1+1+1) 22 [.slice (some ⟨w4.heap.size,0,none⟩) 2 2,.slice (some ⟨w4.heap.size+1,0,none⟩) 1 1,.slice (some ⟨w4.heap.size+1+1,0,none⟩) 2 2] (by simp);have hL5:=(lils_three (h5.heap 0 rfl) (h5.ownInts 3 rfl).2.2 (h5.ownInts 2 rfl).2.2 (h5.ownInts 1 rfl).2.2 (Nat.le_refl _) (Nat.le_refl _) (Nat.le_refl _)).take hm3;have hN5:NodeIs ((((w4.alloc (.cells #[.int .i64 2,.int .i64 2] 3)).alloc (.cells #[.int .i64 33] 3)).alloc (.cells #[.int .i64 2,.int .i64 2] 3)).alloc (.cells #[.slice (some ⟨w4.heap.size,0,none⟩) 2 2,.slice (some ⟨w4.heap.size+1,0,none⟩) 1 1,.slice (some ⟨w4.heap.size+1+1,0,none⟩) 2 2] 22)) (.agg #[.int .i64 ((o:Int)-1),.slice none 0 0,.slice none 0 0,.slice none 0 0,.int .i64 0,.int .i64 0,.string ⟨#[]⟩]) ⟨(o:Int)-1,[],[],[],0,0,⟨#[]⟩⟩:=⟨_,_,_,_,_,_,_,_,_,rfl,⟨Nat.le_refl _,Nat.le_refl _,Nat.le_refl _,Ints.nil_ _ none,Ints.nil_ _ none,Ints.nil_ _ none,⟨by show _≤(o:Int)-1;omega,by show(o:Int)-1≤_;omega⟩,fits0,fits0,by show 0≤_;omega⟩⟩;have CC:=l10node_any (cl:=3) hN5 hL5;have H5:=Hd h5;clear h5 hL5 hN5
           go_wp2_with fail
           refine CC.mono ?_;rintro e1 w5 ⟨rfl,hb1⟩;replace H:=Hd (H5.out.below hb1);clear CC hb1 H5;go_wp2;go_roundw
           case rel=>exact⟨m+1,by go_num,by omega,then_ HBR.out H.out.base⟩
           case measure=>simp[intOf];omega
          ·have d3:decide ((m:Int)<4)=false:=by simp;omega
           have d3n:decide (m<4)=false:=by simpa using hlm
           go_wp2;go_roundw
           case rel=>exact⟨h+1,by go_num,by omega,then_ HBM.out HBR.out⟩
           case measure=>simp[intOf];omega
       case true =>
        cases b8
        case false =>
         obtain⟨x0,x1,x2,x3,x4,x5,x6⟩:=H.out.cells7 0 rfl;obtain ⟨fx0,fx1,fx2,fx3,fx4,fx5,fx6⟩:=H.out.f7 0 rfl
         go_upto_region 21 with fail
         have h2:=(H.out.setBox 0 3 (.slice none 0 0) rfl);generalize (wn.setCell ⟨wb.heap.size+1+1,3,none⟩ (.slice none 0 0))=wm at *;replace H:=Hd (show Sep wb wm [.box (wb.heap.size+1+1) 34 [.int .i64 ((o:Int)-1),.slice none 0 0,.slice (some ⟨wb.heap.size+1,0,none⟩) 1 1,.slice none 0 0,.int .i64 0,.int .i64 hv,.string ⟨#[]⟩],.own 3 (.slice (some ⟨wb.heap.size+1,0,none⟩) 1 1) 1 [2],.own 3 (.slice (some ⟨wb.heap.size,0,none⟩) 1 1) 1 [0]] from h2);clear h2 x0 x1 x2 x3 x4 x5 x6 fx0 fx1 fx2 fx3 fx4 fx5 fx6 hb4 hb8 hcut;have hN:NodeIs wm (.agg #[.int .i64 ((o:Int)-1),.slice none 0 0,.slice (some ⟨wb.heap.size+1,0,none⟩) 1 1,.slice none 0 0,.int .i64 0,.int .i64 hv,.string ⟨#[]⟩]) ⟨(o:Int)-1,[],[2],[],0,hv,⟨#[]⟩⟩:=⟨_,_,_,_,_,_,_,_,_,rfl,⟨Nat.le_refl _,Nat.le_refl _,Nat.le_refl _,Ints.nil_ _ none,(H.out.ownInts 1 rfl).2.2,Ints.nil_ _ none,⟨by show _≤(o:Int)-1;omega,by show(o:Int)-1≤_;omega⟩,fits0,hfv,by show 0≤_;omega⟩⟩;have HN:=Hd hN;clear hN;have HBM:=Hd (then_ HB.out H.out.base);have hgx:=(H.out.blockLt 0 rfl).2;have HX0:=Hd (H.out.cell 0 0 rfl rfl);have HX1:=Hd (H.out.cell 0 1 rfl rfl);have HX2:=Hd (H.out.cell 0 2 rfl rfl);have HX3:=Hd (H.out.cell 0 3 rfl rfl);have HX4:=Hd (H.out.cell 0 4 rfl rfl);have HX5:=Hd (H.out.cell 0 5 rfl rfl);have HX6:=Hd (H.out.cell 0 6 rfl rfl);clear H;have HGX:=Hd hgx;clear hgx;obtain⟨gx,hgx⟩:∃ gx,wb.heap.size+1+1=gx:=⟨_,rfl⟩;rw[hgx] at HX0 HX1 HX2 HX3 HX4 HX5 HX6 HGX ⊢;clear hgx
         go_wp2_with fail
         go_loopw [7] (fun mv wr=>∃ m:Nat,mv=.int .i64 m∧m≤4∧Below wm.heap.size wm wr) (fun mv _=>4-(intOf mv).toNat)
         case atStart=>exact⟨0,rfl,by omega,Below.refl _ _⟩
         case round =>
          obtain⟨m,rfl,hm,hB⟩:=hrel;have HBR:=Hd hB;clear hB;obtain⟨wq,rfl⟩:∃ wq:World,wq=wr:=⟨_,rfl⟩;by_cases hlm:m<4
          ·have d3:decide ((m:Int)<4)=true:=by simp;omega
           have d3n:decide (m<4)=true:=by simpa using hlm
           have hm3:m≤3:=by omega
           have h3:=((((Sep.nil wq).lit 3 #[.int .i64 2] [2] 1 wq.heap.size rfl rfl rfl).lit 3 #[.int .i64 2] [2] 1 (wq.heap.size+1) (by simp) rfl rfl).lit 3 #[.int .i64 2] [2] 1 (wq.heap.size+1+1) (by simp) rfl rfl).allocBox (wq.heap.size+1+1+1) 22 [.slice (some ⟨wq.heap.size,0,none⟩) 1 1,.slice (some ⟨wq.heap.size+1,0,none⟩) 1 1,.slice (some ⟨wq.heap.size+1+1,0,none⟩) 1 1] (by simp)
           go_upto_region 25 with fail
           generalize (((wq.alloc (.cells #[.int .i64 2] 3)).alloc (.cells #[.int .i64 2] 3)).alloc (.cells #[.int .i64 2] 3)).alloc (.cells #[.slice (some ⟨wq.heap.size,0,none⟩) 1 1,.slice (some ⟨wq.heap.size+1,0,none⟩) 1 1,.slice (some ⟨wq.heap.size+1+1,0,none⟩) 1 1] 22)=wa at *;have H:=Hd h3;clear h3;have hgq:gx<wq.heap.size:=Nat.lt_of_lt_of_le HGX.out HBR.out.size;have y0:=H.out.oldCell (p:=⟨gx,0,none⟩) hgq ((HBR.out.cell HGX.out).trans HX0.out);have y1:=H.out.oldCell (p:=⟨gx,1,none⟩) hgq ((HBR.out.cell HGX.out).trans HX1.out);have y2:=H.out.oldCell (p:=⟨gx,2,none⟩) hgq ((HBR.out.cell HGX.out).trans HX2.out);have y3:=H.out.oldCell (p:=⟨gx,3,none⟩) hgq ((HBR.out.cell HGX.out).trans HX3.out);have y4:=H.out.oldCell (p:=⟨gx,4,none⟩) hgq ((HBR.out.cell HGX.out).trans HX4.out);have y5:=H.out.oldCell (p:=⟨gx,5,none⟩) hgq ((HBR.out.cell HGX.out).trans HX5.out);have y6:=H.out.oldCell (p:=⟨gx,6,none⟩) hgq ((HBR.out.cell HGX.out).trans HX6.out);have hLi:=(lils_three (H.out.heap 0 rfl) (H.out.ownInts 3 rfl).2.2 (H.out.ownInts 2 rfl).2.2 (H.out.ownInts 1 rfl).2.2 (Nat.le_refl _) (Nat.le_refl _) (Nat.le_refl _)).take hm3;have HLI:=Hd hLi;have HWA:=Hd (Below.refl wa.heap.size wa);clear hLi;have CC:=l10node_any (cl:=3) (HN.out.below (then_ HBR.out H.out.base)) HLI.out
           go_wp2_with fail
           refine CC.mono ?_;rintro e1 w1 ⟨rfl,hb1⟩;have HA1:=Hd hb1;replace H:=Hd (H.out.below hb1);clear CC hb1 y0 y1 y2 y3 y4 y5 y6;have h4:=H.out.lit 3 #[.int .i64 0,.int .i64 2,.int .i64 1] [0,2,1] 3 w1.heap.size rfl rfl rfl;have hbl:Below w1.heap.size w1 (w1.alloc (.cells #[.int .i64 0,.int .i64 2,.int .i64 1] 3)):=(Below.refl _ _).alloc (Nat.le_refl _) _;have hN2:NodeIs (w1.alloc (.cells #[.int .i64 0,.int .i64 2,.int .i64 1] 3)) (.agg #[.int .i64 ((o:Int)-1),.slice none 0 0,.slice none 0 0,.slice (some ⟨w1.heap.size,0,none⟩) 3 3,.int .i64 0,.int .i64 h,.string ⟨#[]⟩]) ⟨(o:Int)-1,[],[],[0,2,1],0,h,⟨#[]⟩⟩:=⟨_,_,_,_,_,_,_,_,_,rfl,⟨Nat.le_refl _,Nat.le_refl _,Nat.le_refl _,Ints.nil_ _ none,Ints.nil_ _ none,(h4.ownInts 0 rfl).2.2,⟨by show _≤(o:Int)-1;omega,by show(o:Int)-1≤_;omega⟩,fits0,⟨by show _≤(h:Int);omega,by show(h:Int)≤_;omega⟩,by show 0≤_;omega⟩⟩;have CC:=l10node_any (cl:=3) hN2 (HLI.out.below (then_ HA1.out hbl));have HA9:=Hd (then_ HA1.out hbl);have H4:=Hd h4;clear hN2 hbl h4
           go_wp2_with fail
           refine CC.mono ?_;rintro e1 w2 ⟨rfl,hb1⟩;have HA2:=Hd (then_ HA9.out hb1);replace H:=Hd (H4.out.below hb1);clear CC hb1 H4 HA9;have h4:=H.out.lit 3 #[.int .i64 0,.int .i64 1] [0,1] 2 w2.heap.size rfl rfl rfl;have hbl:Below w2.heap.size w2 (w2.alloc (.cells #[.int .i64 0,.int .i64 1] 3)):=(Below.refl _ _).alloc (Nat.le_refl _) _;have hN2:NodeIs (w2.alloc (.cells #[.int .i64 0,.int .i64 1] 3)) (.agg #[.int .i64 ((o:Int)-1),.slice none 0 0,.slice none 0 0,.slice (some ⟨w2.heap.size,0,none⟩) 2 2,.int .i64 0,.int .i64 0,.string ⟨#[]⟩]) ⟨(o:Int)-1,[],[],[0,1],0,0,⟨#[]⟩⟩:=⟨_,_,_,_,_,_,_,_,_,rfl,⟨Nat.le_refl _,Nat.le_refl _,Nat.le_refl _,Ints.nil_ _ none,Ints.nil_ _ none,(h4.ownInts 0 rfl).2.2,⟨by show _≤(o:Int)-1;omega,by show(o:Int)-1≤_;omega⟩,fits0,fits0,by show 0≤_;omega⟩⟩;have CC:=l10node_any (cl:=3) hN2 (HLI.out.below (then_ HA2.out hbl));have HA9:=Hd (then_ HA2.out hbl);have H4:=Hd h4;clear hN2 hbl h4
           go_wp2_with fail
           refine CC.mono ?_;rintro e1 w3 ⟨rfl,hb1⟩;have HA3:=Hd (then_ HA9.out hb1);replace H:=Hd (H4.out.below hb1);clear CC hb1 H4 HA9;have h4:=H.out.lit 3 #[.int .i64 2] [2] 1 w3.heap.size rfl rfl rfl;have hbl:Below w3.heap.size w3 (w3.alloc (.cells #[.int .i64 2] 3)):=(Below.refl _ _).alloc (Nat.le_refl _) _;have hN2:NodeIs (w3.alloc (.cells #[.int .i64 2] 3)) (.agg #[.int .i64 ((o:Int)-1),.slice none 0 0,.slice (some ⟨w3.heap.size,0,none⟩) 1 1,.slice none 0 0,.int .i64 3,.int .i64 0,.string ⟨#[]⟩]) ⟨(o:Int)-1,[],[2],[],3,0,⟨#[]⟩⟩:=⟨_,_,_,_,_,_,_,_,_,rfl,⟨Nat.le_refl _,Nat.le_refl _,Nat.le_refl _,Ints.nil_ _ none,(h4.ownInts 0 rfl).2.2,Ints.nil_ _ none,⟨by show _≤(o:Int)-1;omega,by show(o:Int)-1≤_;omega⟩,(fits_lit (n:=3) (by decide) (by decide)),fits0,by show 0≤_;omega⟩⟩;have CC:=l10node_any (cl:=3) hN2 (HLI.out.below (then_ HA3.out hbl));have HA9:=Hd (then_ HA3.out hbl);have H4:=Hd h4;clear hN2 hbl h4
           go_wp2_with fail
           refine CC.mono ?_;rintro e1 w4 ⟨rfl,hb1⟩;have HA4:=Hd (then_ HA9.out hb1);replace H:=Hd (H4.out.below hb1);clear CC hb1 H4 HA9;have h5:=((((H.out).lit 3 #[.int .i64 2,.int .i64 2] [2,2] 2 (w4.heap.size) rfl rfl rfl).lit 3 #[.int .i64 33] [33] 1 (w4.heap.size+1) (by simp) rfl rfl).lit 3 #[.int .i64 2,.int .i64 2] [2,2] 2 (w4.heap.size+1+1) (by simp) rfl rfl).allocBox (w4.heap.size+1+1+1) 22 [.slice (some ⟨w4.heap.size,0,none⟩) 2 2,.slice (some ⟨w4.heap.size+1,0,none⟩) 1 1,.slice (some ⟨w4.heap.size+1+1,0,none⟩) 2 2] (by simp);have hL5:=(lils_three (h5.heap 0 rfl) (h5.ownInts 3 rfl).2.2 (h5.ownInts 2 rfl).2.2 (h5.ownInts 1 rfl).2.2 (Nat.le_refl _) (Nat.le_refl _) (Nat.le_refl _)).take hm3;have hN5:NodeIs ((((w4.alloc (.cells #[.int .i64 2,.int .i64 2] 3)).alloc (.cells #[.int .i64 33] 3)).alloc (.cells #[.int .i64 2,.int .i64 2] 3)).alloc (.cells #[.slice (some ⟨w4.heap.size,0,none⟩) 2 2,.slice (some ⟨w4.heap.size+1,0,none⟩) 1 1,.slice (some ⟨w4.heap.size+1+1,0,none⟩) 2 2] 22)) (.agg #[.int .i64 ((o:Int)-1),.slice none 0 0,.slice none 0 0,.slice none 0 0,.int .i64 0,.int .i64 0,.string ⟨#[]⟩]) ⟨(o:Int)-1,[],[],[],0,0,⟨#[]⟩⟩:=⟨_,_,_,_,_,_,_,_,_,rfl,⟨Nat.le_refl _,Nat.le_refl _,Nat.le_refl _,Ints.nil_ _ none,Ints.nil_ _ none,Ints.nil_ _ none,⟨by show _≤(o:Int)-1;omega,by show(o:Int)-1≤_;omega⟩,fits0,fits0,by show 0≤_;omega⟩⟩;have CC:=l10node_any (cl:=3) hN5 hL5;have H5:=Hd h5;clear h5 hL5 hN5
           go_wp2_with fail
           refine CC.mono ?_;rintro e1 w5 ⟨rfl,hb1⟩;replace H:=Hd (H5.out.below hb1);clear CC hb1 H5;go_wp2;go_roundw
           case rel=>exact⟨m+1,by go_num,by omega,then_ HBR.out H.out.base⟩
           case measure=>simp[intOf];omega
          ·have d3:decide ((m:Int)<4)=false:=by simp;omega
           have d3n:decide (m<4)=false:=by simpa using hlm
           go_wp2;go_roundw
           case rel=>exact⟨h+1,by go_num,by omega,then_ HBM.out HBR.out⟩
           case measure=>simp[intOf];omega
        case true =>
         obtain⟨x0,x1,x2,x3,x4,x5,x6⟩:=H.out.cells7 0 rfl;obtain ⟨fx0,fx1,fx2,fx3,fx4,fx5,fx6⟩:=H.out.f7 0 rfl
         go_upto_region 21 with fail
         have h2:=((H.out.setBox 0 3 (.slice none 0 0) rfl).setBox 0 2 (.slice none 0 0) rfl);generalize ((wn.setCell ⟨wb.heap.size+1+1,3,none⟩ (.slice none 0 0)).setCell ⟨wb.heap.size+1+1,2,none⟩ (.slice none 0 0))=wm at *;replace H:=Hd (show Sep wb wm [.box (wb.heap.size+1+1) 34 [.int .i64 ((o:Int)-1),.slice none 0 0,.slice none 0 0,.slice none 0 0,.int .i64 0,.int .i64 hv,.string ⟨#[]⟩],.own 3 (.slice (some ⟨wb.heap.size+1,0,none⟩) 1 1) 1 [2],.own 3 (.slice (some ⟨wb.heap.size,0,none⟩) 1 1) 1 [0]] from h2);clear h2 x0 x1 x2 x3 x4 x5 x6 fx0 fx1 fx2 fx3 fx4 fx5 fx6 hb4 hb8 hcut;have hN:NodeIs wm (.agg #[.int .i64 ((o:Int)-1),.slice none 0 0,.slice none 0 0,.slice none 0 0,.int .i64 0,.int .i64 hv,.string ⟨#[]⟩]) ⟨(o:Int)-1,[],[],[],0,hv,⟨#[]⟩⟩:=⟨_,_,_,_,_,_,_,_,_,rfl,⟨Nat.le_refl _,Nat.le_refl _,Nat.le_refl _,Ints.nil_ _ none,Ints.nil_ _ none,Ints.nil_ _ none,⟨by show _≤(o:Int)-1;omega,by show(o:Int)-1≤_;omega⟩,fits0,hfv,by show 0≤_;omega⟩⟩;have HN:=Hd hN;clear hN;have HBM:=Hd (then_ HB.out H.out.base);have hgx:=(H.out.blockLt 0 rfl).2;have HX0:=Hd (H.out.cell 0 0 rfl rfl);have HX1:=Hd (H.out.cell 0 1 rfl rfl);have HX2:=Hd (H.out.cell 0 2 rfl rfl);have HX3:=Hd (H.out.cell 0 3 rfl rfl);have HX4:=Hd (H.out.cell 0 4 rfl rfl);have HX5:=Hd (H.out.cell 0 5 rfl rfl);have HX6:=Hd (H.out.cell 0 6 rfl rfl);clear H;have HGX:=Hd hgx;clear hgx;obtain⟨gx,hgx⟩:∃ gx,wb.heap.size+1+1=gx:=⟨_,rfl⟩;rw[hgx] at HX0 HX1 HX2 HX3 HX4 HX5 HX6 HGX ⊢;clear hgx
         go_wp2_with fail
         go_loopw [7] (fun mv wr=>∃ m:Nat,mv=.int .i64 m∧m≤4∧Below wm.heap.size wm wr) (fun mv _=>4-(intOf mv).toNat)
         case atStart=>exact⟨0,rfl,by omega,Below.refl _ _⟩
         case round =>
          obtain⟨m,rfl,hm,hB⟩:=hrel;have HBR:=Hd hB;clear hB;obtain⟨wq,rfl⟩:∃ wq:World,wq=wr:=⟨_,rfl⟩;by_cases hlm:m<4
          ·have d3:decide ((m:Int)<4)=true:=by simp;omega
           have d3n:decide (m<4)=true:=by simpa using hlm
           have hm3:m≤3:=by omega
           have h3:=((((Sep.nil wq).lit 3 #[.int .i64 2] [2] 1 wq.heap.size rfl rfl rfl).lit 3 #[.int .i64 2] [2] 1 (wq.heap.size+1) (by simp) rfl rfl).lit 3 #[.int .i64 2] [2] 1 (wq.heap.size+1+1) (by simp) rfl rfl).allocBox (wq.heap.size+1+1+1) 22 [.slice (some ⟨wq.heap.size,0,none⟩) 1 1,.slice (some ⟨wq.heap.size+1,0,none⟩) 1 1,.slice (some ⟨wq.heap.size+1+1,0,none⟩) 1 1] (by simp)
           go_upto_region 25 with fail
           generalize (((wq.alloc (.cells #[.int .i64 2] 3)).alloc (.cells #[.int .i64 2] 3)).alloc (.cells #[.int .i64 2] 3)).alloc (.cells #[.slice (some ⟨wq.heap.size,0,none⟩) 1 1,.slice (some ⟨wq.heap.size+1,0,none⟩) 1 1,.slice (some ⟨wq.heap.size+1+1,0,none⟩) 1 1] 22)=wa at *;have H:=Hd h3;clear h3;have hgq:gx<wq.heap.size:=Nat.lt_of_lt_of_le HGX.out HBR.out.size;have y0:=H.out.oldCell (p:=⟨gx,0,none⟩) hgq ((HBR.out.cell HGX.out).trans HX0.out);have y1:=H.out.oldCell (p:=⟨gx,1,none⟩) hgq ((HBR.out.cell HGX.out).trans HX1.out);have y2:=H.out.oldCell (p:=⟨gx,2,none⟩) hgq ((HBR.out.cell HGX.out).trans HX2.out);have y3:=H.out.oldCell (p:=⟨gx,3,none⟩) hgq ((HBR.out.cell HGX.out).trans HX3.out);have y4:=H.out.oldCell (p:=⟨gx,4,none⟩) hgq ((HBR.out.cell HGX.out).trans HX4.out);have y5:=H.out.oldCell (p:=⟨gx,5,none⟩) hgq ((HBR.out.cell HGX.out).trans HX5.out);have y6:=H.out.oldCell (p:=⟨gx,6,none⟩) hgq ((HBR.out.cell HGX.out).trans HX6.out);have hLi:=(lils_three (H.out.heap 0 rfl) (H.out.ownInts 3 rfl).2.2 (H.out.ownInts 2 rfl).2.2 (H.out.ownInts 1 rfl).2.2 (Nat.le_refl _) (Nat.le_refl _) (Nat.le_refl _)).take hm3;have HLI:=Hd hLi;have HWA:=Hd (Below.refl wa.heap.size wa);clear hLi;have CC:=l10node_any (cl:=3) (HN.out.below (then_ HBR.out H.out.base)) HLI.out
           go_wp2_with fail
           refine CC.mono ?_;rintro e1 w1 ⟨rfl,hb1⟩;have HA1:=Hd hb1;replace H:=Hd (H.out.below hb1);clear CC hb1 y0 y1 y2 y3 y4 y5 y6;have h4:=H.out.lit 3 #[.int .i64 0,.int .i64 2,.int .i64 1] [0,2,1] 3 w1.heap.size rfl rfl rfl;have hbl:Below w1.heap.size w1 (w1.alloc (.cells #[.int .i64 0,.int .i64 2,.int .i64 1] 3)):=(Below.refl _ _).alloc (Nat.le_refl _) _;have hN2:NodeIs (w1.alloc (.cells #[.int .i64 0,.int .i64 2,.int .i64 1] 3)) (.agg #[.int .i64 ((o:Int)-1),.slice none 0 0,.slice none 0 0,.slice (some ⟨w1.heap.size,0,none⟩) 3 3,.int .i64 0,.int .i64 h,.string ⟨#[]⟩]) ⟨(o:Int)-1,[],[],[0,2,1],0,h,⟨#[]⟩⟩:=⟨_,_,_,_,_,_,_,_,_,rfl,⟨Nat.le_refl _,Nat.le_refl _,Nat.le_refl _,Ints.nil_ _ none,Ints.nil_ _ none,(h4.ownInts 0 rfl).2.2,⟨by show _≤(o:Int)-1;omega,by show(o:Int)-1≤_;omega⟩,fits0,⟨by show _≤(h:Int);omega,by show(h:Int)≤_;omega⟩,by show 0≤_;omega⟩⟩;have CC:=l10node_any (cl:=3) hN2 (HLI.out.below (then_ HA1.out hbl));have HA9:=Hd (then_ HA1.out hbl);have H4:=Hd h4;clear hN2 hbl h4
           go_wp2_with fail
           refine CC.mono ?_;rintro e1 w2 ⟨rfl,hb1⟩;have HA2:=Hd (then_ HA9.out hb1);replace H:=Hd (H4.out.below hb1);clear CC hb1 H4 HA9;have h4:=H.out.lit 3 #[.int .i64 0,.int .i64 1] [0,1] 2 w2.heap.size rfl rfl rfl;have hbl:Below w2.heap.size w2 (w2.alloc (.cells #[.int .i64 0,.int .i64 1] 3)):=(Below.refl _ _).alloc (Nat.le_refl _) _;have hN2:NodeIs (w2.alloc (.cells #[.int .i64 0,.int .i64 1] 3)) (.agg #[.int .i64 ((o:Int)-1),.slice none 0 0,.slice none 0 0,.slice (some ⟨w2.heap.size,0,none⟩) 2 2,.int .i64 0,.int .i64 0,.string ⟨#[]⟩]) ⟨(o:Int)-1,[],[],[0,1],0,0,⟨#[]⟩⟩:=⟨_,_,_,_,_,_,_,_,_,rfl,⟨Nat.le_refl _,Nat.le_refl _,Nat.le_refl _,Ints.nil_ _ none,Ints.nil_ _ none,(h4.ownInts 0 rfl).2.2,⟨by show _≤(o:Int)-1;omega,by show(o:Int)-1≤_;omega⟩,fits0,fits0,by show 0≤_;omega⟩⟩;have CC:=l10node_any (cl:=3) hN2 (HLI.out.below (then_ HA2.out hbl));have HA9:=Hd (then_ HA2.out hbl);have H4:=Hd h4;clear hN2 hbl h4
           go_wp2_with fail
           refine CC.mono ?_;rintro e1 w3 ⟨rfl,hb1⟩;have HA3:=Hd (then_ HA9.out hb1);replace H:=Hd (H4.out.below hb1);clear CC hb1 H4 HA9;have h4:=H.out.lit 3 #[.int .i64 2] [2] 1 w3.heap.size rfl rfl rfl;have hbl:Below w3.heap.size w3 (w3.alloc (.cells #[.int .i64 2] 3)):=(Below.refl _ _).alloc (Nat.le_refl _) _;have hN2:NodeIs (w3.alloc (.cells #[.int .i64 2] 3)) (.agg #[.int .i64 ((o:Int)-1),.slice none 0 0,.slice (some ⟨w3.heap.size,0,none⟩) 1 1,.slice none 0 0,.int .i64 3,.int .i64 0,.string ⟨#[]⟩]) ⟨(o:Int)-1,[],[2],[],3,0,⟨#[]⟩⟩:=⟨_,_,_,_,_,_,_,_,_,rfl,⟨Nat.le_refl _,Nat.le_refl _,Nat.le_refl _,Ints.nil_ _ none,(h4.ownInts 0 rfl).2.2,Ints.nil_ _ none,⟨by show _≤(o:Int)-1;omega,by show(o:Int)-1≤_;omega⟩,(fits_lit (n:=3) (by decide) (by decide)),fits0,by show 0≤_;omega⟩⟩;have CC:=l10node_any (cl:=3) hN2 (HLI.out.below (then_ HA3.out hbl));have HA9:=Hd (then_ HA3.out hbl);have H4:=Hd h4;clear hN2 hbl h4
           go_wp2_with fail
           refine CC.mono ?_;rintro e1 w4 ⟨rfl,hb1⟩;have HA4:=Hd (then_ HA9.out hb1);replace H:=Hd (H4.out.below hb1);clear CC hb1 H4 HA9;have h5:=((((H.out).lit 3 #[.int .i64 2,.int .i64 2] [2,2] 2 (w4.heap.size) rfl rfl rfl).lit 3 #[.int .i64 33] [33] 1 (w4.heap.size+1) (by simp) rfl rfl).lit 3 #[.int .i64 2,.int .i64 2] [2,2] 2 (w4.heap.size+1+1) (by simp) rfl rfl).allocBox (w4.heap.size+1+1+1) 22 [.slice (some ⟨w4.heap.size,0,none⟩) 2 2,.slice (some ⟨w4.heap.size+1,0,none⟩) 1 1,.slice (some ⟨w4.heap.size+1+1,0,none⟩) 2 2] (by simp);have hL5:=(lils_three (h5.heap 0 rfl) (h5.ownInts 3 rfl).2.2 (h5.ownInts 2 rfl).2.2 (h5.ownInts 1 rfl).2.2 (Nat.le_refl _) (Nat.le_refl _) (Nat.le_refl _)).take hm3;have hN5:NodeIs ((((w4.alloc (.cells #[.int .i64 2,.int .i64 2] 3)).alloc (.cells #[.int .i64 33] 3)).alloc (.cells #[.int .i64 2,.int .i64 2] 3)).alloc (.cells #[.slice (some ⟨w4.heap.size,0,none⟩) 2 2,.slice (some ⟨w4.heap.size+1,0,none⟩) 1 1,.slice (some ⟨w4.heap.size+1+1,0,none⟩) 2 2] 22)) (.agg #[.int .i64 ((o:Int)-1),.slice none 0 0,.slice none 0 0,.slice none 0 0,.int .i64 0,.int .i64 0,.string ⟨#[]⟩]) ⟨(o:Int)-1,[],[],[],0,0,⟨#[]⟩⟩:=⟨_,_,_,_,_,_,_,_,_,rfl,⟨Nat.le_refl _,Nat.le_refl _,Nat.le_refl _,Ints.nil_ _ none,Ints.nil_ _ none,Ints.nil_ _ none,⟨by show _≤(o:Int)-1;omega,by show(o:Int)-1≤_;omega⟩,fits0,fits0,by show 0≤_;omega⟩⟩;have CC:=l10node_any (cl:=3) hN5 hL5;have H5:=Hd h5;clear h5 hL5 hN5
           go_wp2_with fail
           refine CC.mono ?_;rintro e1 w5 ⟨rfl,hb1⟩;replace H:=Hd (H5.out.below hb1);clear CC hb1 H5;go_wp2;go_roundw
           case rel=>exact⟨m+1,by go_num,by omega,then_ HBR.out H.out.base⟩
           case measure=>simp[intOf];omega
          ·have d3:decide ((m:Int)<4)=false:=by simp;omega
           have d3n:decide (m<4)=false:=by simpa using hlm
           go_wp2;go_roundw
           case rel=>exact⟨h+1,by go_num,by omega,then_ HBM.out HBR.out⟩
           case measure=>simp[intOf];omega
      ·have d2:decide ((h:Int)<16)=false:=by simp;omega
       have d2n:decide (h<16)=false:=by simpa using hlh
       go_wp2;go_roundw
       case rel=>exact⟨o+1,by go_num,by omega,HB.out⟩
       case measure=>simp[intOf];omega
    ·have d1:decide ((o:Int)-1<23)=false:=by simp;omega
     obtain⟨wb,rfl⟩:∃ wb:World,wb=wr:=⟨_,rfl⟩;have h1:=(((((((((((Sep.nil wb).lit 3 #[.int .i64 0] [0] 1 (wb.heap.size) rfl rfl rfl).lit 3 #[.int .i64 1] [1] 1 (wb.heap.size+1) (by simp) rfl rfl).lit 3 #[.int .i64 8] [8] 1 (wb.heap.size+1+1) (by simp) rfl rfl).lit 3 #[.int .i64 9] [9] 1 (wb.heap.size+1+1+1) (by simp) rfl rfl).lit 3 #[.int .i64 2,.int .i64 4] [2,4] 2 (wb.heap.size+1+1+1+1) (by simp) rfl rfl).lit 3 #[.int .i64 3,.int .i64 3] [3,3] 2 (wb.heap.size+1+1+1+1+1) (by simp) rfl rfl).lit 3 #[.int .i64 2,.int .i64 2,.int .i64 2] [2,2,2] 3 (wb.heap.size+1+1+1+1+1+1) (by simp) rfl rfl).lit 3 #[.int .i64 1,.int .i64 1,.int .i64 1,.int .i64 1] [1,1,1,1] 4 (wb.heap.size+1+1+1+1+1+1+1) (by simp) rfl rfl).lit 3 #[.int .i64 (-1)] [(-1)] 1 (wb.heap.size+1+1+1+1+1+1+1+1) (by simp) rfl rfl).lit 3 #[.int .i64 2,.int .i64 2,.int .i64 3] [2,2,3] 3 (wb.heap.size+1+1+1+1+1+1+1+1+1) (by simp) rfl rfl).allocBox (wb.heap.size+1+1+1+1+1+1+1+1+1+1) 22 [.slice none 0 0,.slice (some ⟨wb.heap.size,0,none⟩) 1 1,.slice (some ⟨wb.heap.size+1,0,none⟩) 1 1,.slice (some ⟨wb.heap.size+1+1,0,none⟩) 1 1,.slice (some ⟨wb.heap.size+1+1+1,0,none⟩) 1 1,.slice (some ⟨wb.heap.size+1+1+1+1,0,none⟩) 2 2,.slice (some ⟨wb.heap.size+1+1+1+1+1,0,none⟩) 2 2,.slice (some ⟨wb.heap.size+1+1+1+1+1+1,0,none⟩) 3 3,.slice (some ⟨wb.heap.size+1+1+1+1+1+1+1,0,none⟩) 4 4,.slice (some ⟨wb.heap.size+1+1+1+1+1+1+1+1,0,none⟩) 1 1,.slice (some ⟨wb.heap.size+1+1+1+1+1+1+1+1+1,0,none⟩) 3 3] (by simp)
     go_wp2_with fail
     generalize ((((((((((wb.alloc (.cells #[.int .i64 0] 3)).alloc (.cells #[.int .i64 1] 3)).alloc (.cells #[.int .i64 8] 3)).alloc (.cells #[.int .i64 9] 3)).alloc (.cells #[.int .i64 2,.int .i64 4] 3)).alloc (.cells #[.int .i64 3,.int .i64 3] 3)).alloc (.cells #[.int .i64 2,.int .i64 2,.int .i64 2] 3)).alloc (.cells #[.int .i64 1,.int .i64 1,.int .i64 1,.int .i64 1] 3)).alloc (.cells #[.int .i64 (-1)] 3)).alloc (.cells #[.int .i64 2,.int .i64 2,.int .i64 3] 3)).alloc (.cells #[.slice none 0 0,.slice (some ⟨wb.heap.size,0,none⟩) 1 1,.slice (some ⟨wb.heap.size+1,0,none⟩) 1 1,.slice (some ⟨wb.heap.size+1+1,0,none⟩) 1 1,.slice (some ⟨wb.heap.size+1+1+1,0,none⟩) 1 1,.slice (some ⟨wb.heap.size+1+1+1+1,0,none⟩) 2 2,.slice (some ⟨wb.heap.size+1+1+1+1+1,0,none⟩) 2 2,.slice (some ⟨wb.heap.size+1+1+1+1+1+1,0,none⟩) 3 3,.slice (some ⟨wb.heap.size+1+1+1+1+1+1+1,0,none⟩) 4 4,.slice (some ⟨wb.heap.size+1+1+1+1+1+1+1+1,0,none⟩) 1 1,.slice (some ⟨wb.heap.size+1+1+1+1+1+1+1+1+1,0,none⟩) 3 3] 22)=wm at *;have H:=Hd h1;clear h1
     have hrow:∀ a:Nat,a<11→∃ A n c xs,wm.cell? ⟨wb.heap.size+1+1+1+1+1+1+1+1+1+1,a,none⟩=some (.slice A n c)∧n≤c∧Ints wm A n xs∧n≤4:=fun a ha=>by
      rcases(show a=0∨a=1∨a=2∨a=3∨a=4∨a=5∨a=6∨a=7∨a=8∨a=9∨a=10 by omega) with rfl|rfl|rfl|rfl|rfl|rfl|rfl|rfl|rfl|rfl|rfl
      ·exact⟨_,_,_,_,H.out.cell 0 0 rfl rfl,Nat.le_refl _,Ints.nil_ _ none,by omega⟩
      ·exact⟨_,_,_,_,H.out.cell 0 1 rfl rfl,Nat.le_refl _,(H.out.ownInts 10 rfl).2.2,by omega⟩
      ·exact⟨_,_,_,_,H.out.cell 0 2 rfl rfl,Nat.le_refl _,(H.out.ownInts 9 rfl).2.2,by omega⟩
      ·exact⟨_,_,_,_,H.out.cell 0 3 rfl rfl,Nat.le_refl _,(H.out.ownInts 8 rfl).2.2,by omega⟩
      ·exact⟨_,_,_,_,H.out.cell 0 4 rfl rfl,Nat.le_refl _,(H.out.ownInts 7 rfl).2.2,by omega⟩
      ·exact⟨_,_,_,_,H.out.cell 0 5 rfl rfl,Nat.le_refl _,(H.out.ownInts 6 rfl).2.2,by omega⟩
      ·exact⟨_,_,_,_,H.out.cell 0 6 rfl rfl,Nat.le_refl _,(H.out.ownInts 5 rfl).2.2,by omega⟩
      ·exact⟨_,_,_,_,H.out.cell 0 7 rfl rfl,Nat.le_refl _,(H.out.ownInts 4 rfl).2.2,by omega⟩
      ·exact⟨_,_,_,_,H.out.cell 0 8 rfl rfl,Nat.le_refl _,(H.out.ownInts 3 rfl).2.2,by omega⟩
      ·exact⟨_,_,_,_,H.out.cell 0 9 rfl rfl,Nat.le_refl _,(H.out.ownInts 2 rfl).2.2,by omega⟩
      ·exact⟨_,_,_,_,H.out.cell 0 10 rfl rfl,Nat.le_refl _,(H.out.ownInts 1 rfl).2.2,by omega⟩
     have HROW:=Hd hrow;have HBM:=Hd (then_ HB.out H.out.base);have hgx:=(H.out.blockLt 0 rfl).2;clear hrow H;obtain⟨gx,hgx2⟩:∃ gx,wb.heap.size+1+1+1+1+1+1+1+1+1+1=gx:=⟨_,rfl⟩;rw[hgx2] at hgx HROW ⊢;have HGX:=Hd hgx;clear hgx hgx2
     go_loopw [129] (fun av wr=>∃ a:Nat,av=.int .i64 a∧a≤11∧Below wm.heap.size wm wr) (fun av _=>11-(intOf av).toNat)
     case atStart=>exact⟨0,rfl,by omega,Below.refl _ _⟩
     case round =>
      obtain⟨a,rfl,ha,hB⟩:=hrel;have HBR:=Hd hB;clear hB;obtain⟨wq,rfl⟩:∃ wq:World,wq=wr:=⟨_,rfl⟩;by_cases hla:a<11
      ·have da:decide ((a:Int)<11)=true:=by simp;omega
       obtain⟨SA,sn,sc,ss,hcell,hsc,hIs,hsn⟩:=HROW.out a hla;have cq:=(HBR.out.cell (p:=⟨gx,a,none⟩) HGX.out).trans hcell;have HIS:=Hd hIs;clear hcell hIs;have h2:=(Sep.nil wq).allocBox wq.heap.size 9 [.string ⟨#[]⟩,.string ⟨#[120]⟩,.string ⟨#[120,121]⟩,.string ⟨#[120,121,122]⟩,.string ⟨#[120,120]⟩,.string ⟨#[97,98,99,100]⟩] rfl
       go_wp2_with fail
       generalize wq.alloc (.cells #[.string ⟨#[]⟩,.string ⟨#[120]⟩,.string ⟨#[120,121]⟩,.string ⟨#[120,121,122]⟩,.string ⟨#[120,120]⟩,.string ⟨#[97,98,99,100]⟩] 9)=wn at *;have H:=Hd h2;clear h2 cq;generalize wq.heap.size=gs at *
       have hst:∀ b:Nat,b<6→∃ s:ByteArray,wn.cell? ⟨gs,b,none⟩=some (.string s)∧s.size≤4:=fun b hb=>by
        rcases(show b=0∨b=1∨b=2∨b=3∨b=4∨b=5 by omega) with rfl|rfl|rfl|rfl|rfl|rfl
        ·exact⟨_,H.out.cell 0 0 rfl rfl,by decide⟩
        ·exact⟨_,H.out.cell 0 1 rfl rfl,by decide⟩
        ·exact⟨_,H.out.cell 0 2 rfl rfl,by decide⟩
        ·exact⟨_,H.out.cell 0 3 rfl rfl,by decide⟩
        ·exact⟨_,H.out.cell 0 4 rfl rfl,by decide⟩
        ·exact⟨_,H.out.cell 0 5 rfl rfl,by decide⟩
       have HST:=Hd hst;have hgs:=(H.out.blockLt 0 rfl).2;have HGS:=Hd hgs;have HBN:=Hd (then_ HBR.out H.out.base);have HWN:=Hd H.out.base;clear hst hgs H
       go_loopw [135] (fun bv wr=>∃ b:Nat,bv=.int .i64 b∧b≤6∧Below wn.heap.size wn wr) (fun bv _=>6-(intOf bv).toNat)
       case atStart=>exact⟨0,rfl,by omega,Below.refl _ _⟩
       case round =>
        obtain⟨b,rfl,hb,hB⟩:=hrel;have HBS:=Hd hB;clear hB;obtain⟨wt,rfl⟩:∃ wt:World,wt=wr:=⟨_,rfl⟩;by_cases hlb:b<6
        ·obtain⟨s,hcs,hs4⟩:=HST.out b hlb;have ct:=(HBS.out.cell (p:=⟨gs,b,none⟩) HGS.out).trans hcs;have h3:=(Sep.nil wt).lit 3 #[.int .i64 0] [0] 1 wt.heap.size rfl rfl rfl;have HBT:=Hd (then_ HBN.out HBS.out);have hG:GraphIs (wt.alloc (.cells #[.int .i64 0] 3)) (.agg #[.slice SA sn sc,.string s,.slice none 0 0,.slice (some ⟨wt.heap.size,0,none⟩) 1 1]) ⟨ss,s,[],[0]⟩:=⟨_,_,_,_,_,_,_,_,_,rfl,⟨hsc,Nat.le_refl _,Nat.le_refl _,HIS.out.below (then_ HBT.out h3.base),⟨rfl,by omega,fun j nd h=>by simp at h⟩,(h3.ownInts 0 rfl).2.2,by show s.size≤_;omega⟩⟩;have CC:=l10same_any hG ⟨by show 0≤800;omega,by show ss.length≤800;have:=HIS.out.len;omega,by show 1≤800;omega,fun j nd h=>by simp at h⟩;have H3:=Hd h3;clear h3 hG hcs;have hmk:=run_make_nodes
         go_wp2_with fail
         refine CC.mono ?_;rintro e1 w1 ⟨rfl,hb1⟩;have H1:=Hd (H3.out.below hb1);clear CC hb1 ct;have hb2:Below w1.heap.size w1 (w1.alloc (.cells zRow 34)):=(Below.refl _ _).alloc (Nat.le_refl _) _;have hN:Nods (w1.alloc (.cells zRow 34)) (some ⟨w1.heap.size,0,none⟩) 49 (List.replicate 49 zNode):=nods_block (heap_alloc_new w1 _) (zRow_nodes _) (by rw[List.length_replicate]) (by omega);have hG:GraphIs (w1.alloc (.cells zRow 34)) (.agg #[.slice SA sn sc,.string s,.slice (some ⟨w1.heap.size,0,none⟩) 49 49,.slice none 0 0]) ⟨ss,s,List.replicate 49 zNode,[]⟩:=⟨_,_,_,_,_,_,_,_,_,rfl,⟨hsc,Nat.le_refl _,Nat.le_refl _,HIS.out.below (then_ (then_ HBT.out H1.out.base) hb2),hN,Ints.nil_ _ none,by show s.size≤_;omega⟩⟩;have CC:=l10same_any hG ⟨by show(List.replicate 49 zNode).length≤800;rw[List.length_replicate];omega,by show ss.length≤800;have:=HIS.out.len;omega,by show 0≤800;omega,fun j nd h=>by have h1:=List.eq_of_mem_replicate (List.mem_of_getElem? h);subst h1;exact⟨by show 0≤800;omega,by show 0≤800;omega,by show 0≤800;omega⟩⟩;have HB2:=Hd hb2;clear hN hG hb2
         go_wp2_with fail
         refine CC.mono ?_;rintro e2 w2 ⟨rfl,hb3⟩;have HB3:=Hd (then_ (then_ H1.out.base HB2.out) hb3);clear CC hb3 hmk;go_wp2;go_roundw
         case rel=>exact⟨b+1,by go_num,by omega,then_ HBS.out HB3.out⟩
         case measure=>simp[intOf];omega
        ·go_wp2;go_roundw
         case rel=>exact⟨a+1,by go_num,by omega,then_ HBN.out HBS.out⟩
         case measure=>simp[intOf];omega
      ·go_wp2_with fail
       refine(l10known_any wq).mono ?_;rintro e1 w1 ⟨rfl,hb1⟩;go_wp2;go_ret;exact⟨by trivial,then_ HBM.out (then_ HBR.out hb1)⟩
end Go.Proofs.YtnnmplkgenhofaaGreat
