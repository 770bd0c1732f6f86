import Derived.Test.YtnnmplkgenhofaaGreatPbj
import Derived.Test.YtnnmplkgenhofaaGreatPbt
import Derived.Test.YtnnmplkgenhofaaGreatPbv
set_option maxRecDepth 100000
set_option maxHeartbeats 12800000
namespace Go.Proofs.YtnnmplkgenhofaaGreat
open Go.RowKit
def CopyPost (w:World) (G:GraphV) (e:Ending) (w' : World):Prop :=
 ∃ A na ca B nb cb C nc cc us pool,e=.returned (.agg #[.slice A na ca,.string G.names,.slice B nb cb,.slice C nc cc])∧PoolN us G.nodes pool∧G.nodes.length=nb ∧
  Sep w w' (.own 3 (.slice A na ca) na G.sizes::.row 34 7 (.slice B nb cb) nb us::.own 3 (.slice C nc cc) nc G.outs::pool)
theorem copy_graph {w w' : World} {v:Value} {G:GraphV} {e:Ending} (h0:GraphIs w v G) (h:CopyPost w G e w'):∃ u,e=.returned u∧GraphIs w' u G∧Below w.heap.size w w' := by
 obtain⟨A,na,ca,B,nb,cb,C,nc,cc,us,pool,rfl,hP,hl,hS⟩:=h;obtain⟨A0,na0,ca0,B0,nb0,cb0,C0,nc0,cc0,rfl,hL⟩:=h0;obtain⟨A1,c1,hv1,hc1,hI1,_⟩:=(hS.ownS 0 rfl).form;obtain⟨A3,c3,hv3,hc3,hI3,_⟩:=(hS.ownS 2 rfl).form;obtain⟨A2,c2,hv2,hc2,hN⟩:=pool_nods 1 hS rfl hP hl (by have:=hL.inB.1;have:=hL.inB.2.1;omega) 3 (fun i=>rfl);injection hv1 with q1 _ q2
 injection hv2 with q3 _ q4
 injection hv3 with q5 _ q6
 subst q1 q2 q3 q4 q5 q6;exact⟨_,rfl,⟨_,_,_,_,_,_,_,_,_,rfl,⟨hc1,hc2,hc3,hI1,hN,hI3,hL.names⟩⟩,hS.base⟩
def zC7:Array Value:=#[.int .i64 0,.slice none 0 0,.slice none 0 0,.slice none 0 0,.int .i64 0,.int .i64 0,.string ⟨#[]⟩]
def nRow (n:Nat):Array Value:=madeCells zC7 (n*7)
theorem nRow_size (n:Nat):(nRow n).size=n*7:=size_madeCells _ _
theorem run_make_nodesN {n:Nat} (hn:n≤1000) (w:World) :
  (Instr.makeSlice 23 (.int .i64 n) (.int .i64 n)).run Tryz.prog w=.ok (.slice (some ⟨w.heap.size,0,none⟩) n n) (w.alloc (.cells (nRow n) 34)):=by
 obtain⟨i,hi,hz,hs,hb⟩:=infoNode_parts;exact run_make_row Tryz.underlying23 hi hz hs (by omega) (Nat.le_refl n) hn w
theorem set7_take {us:List Value} {k:Nat} {v0 v1 v2 v3 v4 v5 v6:Value} (hk:k+7≤us.length):(set7 us k v0 v1 v2 v3 v4 v5 v6).take (k+7)=us.take k++[v0,v1,v2,v3,v4,v5,v6]:=by
 have hl:(set7 us k v0 v1 v2 v3 v4 v5 v6).length=us.length:=by unfold set7;simp
 apply List.ext_getElem?;intro i;rw[List.getElem?_take];rcases Nat.lt_or_ge i k with h|h
 ·rw[if_pos (by omega),set7_other (.inl h),List.getElem?_append_left (by rw[List.length_take];omega),List.getElem?_take,if_pos h]
 ·rw[List.getElem?_append_right (by rw[List.length_take];omega),List.length_take,Nat.min_eq_left (by omega)];rcases Nat.lt_or_ge i (k+7) with h2|h2
  ·obtain⟨q,rfl⟩:∃ q,i=k+q:=⟨i-k,by omega⟩;rw[if_pos h2,set7_at hk (by omega),show k+q-k=q by omega]
  ·rw[if_neg (by omega),List.getElem?_eq_none (by simp;omega)]
theorem set7_length {us:List Value} {k:Nat} {v0 v1 v2 v3 v4 v5 v6:Value}:(set7 us k v0 v1 v2 v3 v4 v5 v6).length=us.length:=by unfold set7;simp
theorem Sep.ofPerm {w0 w:World} {a b c d e f:Chunk} {pool:List Chunk} (h:Sep w0 w (a::b::c::d::e::f::pool)):Sep w0 w (c::a::b::pool):=by
 have h2:=Sep.perm h (l' := d::e::f::c::a::b::pool) (((List.perm_append_comm (l₁ := [a,b,c]) (l₂ := [d,e,f])).trans ((List.perm_append_comm (l₁ := [a,b]) (l₂ := [c])).append_left [d,e,f])).append_right pool);have h3:=Sep.tail_ (Sep.tail_ (Sep.tail_ h2));exact h3
theorem gCopy_any {w:World} {v:Value} {G:GraphV} {q:Nat} (h:GraphIs w v G) (hF:FewG q G) (hq:q≤800:=by omega) :
  Calls Tryz.prog 25 #[v] w (CopyPost w G):=by
 obtain⟨A,na,ca,B,nb,cb,C,nc,cc,rfl,hL⟩:=h;have HL:=Hd hL;have HF:=Hd hF;have HAL:=Hd hL.inA.len;have HBL:=Hd hL.inB.1;have HCL:=Hd hL.inC.len;have hna:na≤800:=by have:=HAL.out;have:=hF.sizes;omega
 have hnb:nb≤800:=by have:=HBL.out;have:=hF.nodes;omega
 have hnc:nc≤800:=by have:=HCL.out;have:=hF.outs;omega
 have hHB:=Hd hL.inB;have h1:=((Sep.nil w).allocBox w.heap.size 25 [.slice A na ca,.string G.names,.slice B nb cb,.slice C nc cc] rfl).allocBox (w.heap.size+1) 25 [.slice none 0 0,.string ⟨#[]⟩,.slice none 0 0,.slice none 0 0] (by simp);clear hL hF
 go_enter Tryz.func25,Tryz.ntmps25
 go_upto_region 1 with fail
 generalize (w.alloc (.cells #[.slice A na ca,.string G.names,.slice B nb cb,.slice C nc cc] 25)).alloc (.cells #[.slice none 0 0,.string ⟨#[]⟩,.slice none 0 0,.slice none 0 0] 25)=W at *;generalize hg1:w.heap.size=g1 at *;have HG1:=Hd hg1;have H:=Hd h1;clear h1 hg1;obtain⟨a0,a1,a2,a3⟩:=H.out.cells4 1 rfl;have h1:=H.out.allocBox W.heap.size 25 [.slice A na ca,.string G.names,.slice B nb cb,.slice C nc cc] rfl
 go_upto_region 2 with fail
 generalize W.alloc (.cells #[.slice A na ca,.string G.names,.slice B nb cb,.slice C nc cc] 25)=W2 at *;generalize hgc:W.heap.size=gc at *;have HGC:=Hd hgc;replace H:=Hd h1;clear h1 hgc a0 a1 a2 a3;have K0:=Hd H.out.drew;have i0:=K0.out.cell 2 0 rfl rfl;have i3:=K0.out.cell 2 3 rfl rfl;refine wp_region_held_drew (S:=(fun w' => w'.cell? ⟨g1,0,none⟩=some (.slice A na ca)∧w'.cell? ⟨g1,3,none⟩=some (.slice C nc cc))) (by kernel_rfl) ?_ (fun hq_=>?_)
 ·exact⟨i0,i3⟩
 refine zW 0 hq_ ?_
 try simp only[pA]
 refine zW 1 hq_ ?_
 try simp only[pA]
 refine zW 3 hq_ ?_
 try simp only[pA]
 refine zW 4 hq_ ?_
 try simp only[pA]
 refine e1 2 fun K hK=>?_
 first|(refine effU ?_ ?_;(focus rfl))|(go_simp;(go_at_call 46;refine(copied_any (c:=ca) (K0.out.oldI HL.out.inA) (by omega)).mono ?_;rintro e1 y1 ⟨⟨v1,rfl,hO1⟩,hb1⟩;obtain⟨A1,ca1,hv1,_,_,_⟩:=hO1.form;subst hv1;have K1:=Hd (K0.out.addOwn hb1 hO1);have k10:=K1.out.cell 3 0 rfl rfl;have k13:=K1.out.cell 3 3 rfl rfl;clear hb1 hO1);go_wp2_with fail)
 refine zK hK ?_ ⟨k10,k13⟩;clear hK K hq_;intro hq_
 try simp only[pA]
 refine zW 6 hq_ ?_
 try simp only[pA]
 refine e1 5 fun K hK=>?_
 first|(refine effU ?_ ?_;(focus rfl))|(go_simp;(go_at_call 46;refine(copied_any (c:=cc) (K1.out.oldI HL.out.inC) (by omega)).mono ?_;rintro e2 y2 ⟨⟨v2,rfl,hO2⟩,hb2⟩;obtain⟨C1,cc1,hv2,_,_,_⟩:=hO2.form;subst hv2;have K2:=Hd (K1.out.addOwn hb2 hO2);have k20:=K2.out.cell 4 0 rfl rfl;have k23:=K2.out.cell 4 3 rfl rfl;clear hb2 hO2);go_wp2_with fail)
 refine zK hK ?_ ⟨k20,k23⟩;clear hK K hq_;intro hq_
 try simp only[pA]
 refine e1 7 fun K hK=>?_
 (have fz:=K2.out.frozenBox 2 0 rfl;have cz:=K2.out.cell 2 0 rfl rfl;have K3:=Hd (K2.out.setBox 2 0 (.slice A1 na ca1) rfl);have k30:=K3.out.cell 4 0 rfl rfl;have k33:=K3.out.cell 4 3 rfl rfl)
 go_simp
 try go_wp2_with fail
 refine zK hK ?_ ⟨k30,k33⟩;clear hK K hq_;intro hq_
 try simp only[pA]
 refine zW 8 hq_ ?_
 try simp only[pA]
 refine e1 9 fun K hK=>?_
 (have fz3:=K3.out.frozenBox 2 3 rfl;have cz3:=K3.out.cell 2 3 rfl rfl;have K4:=Hd (K3.out.setBox 2 3 (.slice C1 nc cc1) rfl);have k40:=K4.out.cell 4 0 rfl rfl;have k43:=K4.out.cell 4 3 rfl rfl)
 go_simp
 try go_wp2_with fail
 refine zK hK ?_ ⟨k40,k43⟩;clear hK K hq_;intro hq_
 try simp only[pA]
 refine wpAnyH_done (by kernel_rfl) ?_ _;generalize (y2.setCell ⟨gc,0,none⟩ (.slice A1 na ca1)).setCell ⟨gc,3,none⟩ (.slice C1 nc cc1)=w3 at *;replace H:=Hd (show Sep w w3 [.own 3 (.slice C1 nc cc1) nc G.outs,.own 3 (.slice A1 na ca1) na G.sizes,.box gc 25 [.slice A1 na ca1,.string G.names,.slice B nb cb,.slice C1 nc cc1],.box (g1+1) 25 [.slice none 0 0,.string ⟨#[]⟩,.slice none 0 0,.slice none 0 0],.box g1 25 [.slice A na ca,.string G.names,.slice B nb cb,.slice C nc cc]] from K4.out);clear K0 K1 K2 K3 K4 i0 i3 k10 k13 k20 k23 k30 k33 k40 k43 fz cz fz3 cz3;have hmk:=run_make_nodesN (n:=nb) (by omega);have h2:=H.out.madeRow 34 7 nb nb (nRow nb) (nRow_size nb) (Nat.le_refl _) (by omega);obtain⟨u0,hu0⟩:∃ u,(nRow nb).toList.take (nb*7)=u:=⟨_,rfl⟩;have HU0:=Hd (show u0.length=nb*7 by rw[← hu0,List.length_take,Array.length_toList,nRow_size];omega);rw[hu0] at h2;have a2:=H.out.cell 4 2 rfl rfl;have b2:=h2.cell 3 2 rfl rfl;have fb2:=h2.frozenBox 3 2 rfl;have h3:=h2.setBox 3 2 (.slice (some ⟨w3.heap.size,0,none⟩) nb nb) rfl
 go_upto_region 4 with fail
 generalize (w3.alloc (.cells (nRow nb) 34)).setCell ⟨gc,2,none⟩ (.slice (some ⟨w3.heap.size,0,none⟩) nb nb)=w4 at *;generalize hgN:w3.heap.size=gN at *;have HGN:=Hd hgN;replace H:=Hd (show Sep w w4 [.row 34 7 (.slice (some ⟨gN,0,none⟩) nb nb) nb u0,.own 3 (.slice C1 nc cc1) nc G.outs,.own 3 (.slice A1 na ca1) na G.sizes,.box gc 25 [.slice A1 na ca1,.string G.names,.slice (some ⟨gN,0,none⟩) nb nb,.slice C1 nc cc1],.box (g1+1) 25 [.slice none 0 0,.string ⟨#[]⟩,.slice none 0 0,.slice none 0 0],.box g1 25 [.slice A na ca,.string G.names,.slice B nb cb,.slice C nc cc]] from h3);clear h2 h3 hmk hgN hu0 a2 b2 fb2;have a2:=H.out.cell 5 2 rfl rfl
 go_wp2_with fail
 clear a2
 go_loopw [23] (fun iv wr=>∃(j:Nat) (us:List Value) (pool:List Chunk),iv=.int .i64 j∧j≤nb∧us.length=nb*7∧PoolN (us.take (j*7)) (G.nodes.take j) pool∧Sep w wr (.row 34 7 (.slice (some ⟨gN,0,none⟩) nb nb) nb us::.own 3 (.slice C1 nc cc1) nc G.outs::.own 3 (.slice A1 na ca1) na G.sizes::.box gc 25 [.slice A1 na ca1,.string G.names,.slice (some ⟨gN,0,none⟩) nb nb,.slice C1 nc cc1]::.box (g1+1) 25 [.slice none 0 0,.string ⟨#[]⟩,.slice none 0 0,.slice none 0 0]::.box g1 25 [.slice A na ca,.string G.names,.slice B nb cb,.slice C nc cc]::pool)) (fun iv _=>nb-(intOf iv).toNat)
 case atStart=>exact⟨0,u0,[],rfl,by omega,HU0.out,by rw[Nat.zero_mul,List.take_zero,List.take_zero];exact poolN_nil,H.out⟩
 case round =>
  clear H;obtain⟨j,us,pool,rfl,hj,hul,hP,hS⟩:=hrel;have H:=Hd hS;have HP:=Hd hP;have HUL:=Hd hul;clear hS hP hul;by_cases hlt:j<nb
  ·obtain⟨nd,hnd⟩:∃ nd,G.nodes[j]? = some nd:=⟨_,List.getElem?_eq_getElem (by have:=HBL.out;omega)⟩;obtain⟨la,S,ns,cs,D,nD,cD,E,ne,ce,hla,hlb,k0,k1,k2,k3,k4,k5,k6,hNL⟩:=hHB.out.2.2 j nd hnd;subst hla;have HFW:=Hd (HF.out.each j nd hnd);have hns:ns≤800:=by have:=HFW.out.1;have:=hNL.inA.len;omega
   have hnD:nD≤800:=by have:=HFW.out.2.1;have:=hNL.inB.len;omega
   have hne:ne≤800:=by have:=HFW.out.2.2;have:=hNL.inC.len;omega
   have HNL:=Hd hNL;have HND:=Hd hnd;obtain⟨c0,c1,c2,c3,c4,c5,c6⟩:=old7 H.out hlb k0 k1 k2 k3 k4 k5 k6;have h3:=H.out.allocBox wr.heap.size 34 [.int .i64 nd.op,.slice S ns cs,.slice D nD cD,.slice E ne ce,.int .i64 nd.n,.int .i64 nd.how,.string nd.note] rfl
   go_upto_region 7 with fail
   generalize wr.alloc (.cells #[.int .i64 nd.op,.slice S ns cs,.slice D nD cD,.slice E ne ce,.int .i64 nd.n,.int .i64 nd.how,.string nd.note] 34)=w5 at *;generalize hgn:wr.heap.size=gn at *;replace H:=Hd h3;clear h3 hgn c0 c1 c2 c3 c4 c5 c6 k0 k1 k2 k3 k4 k5 k6 hNL hnd
   go_cut [] (fun wx=>∃(X1:Option Addr) (x1:Nat) (X2:Option Addr) (x2:Nat) (X3:Option Addr) (x3:Nat),Sep w wx (.own 3 (.slice X3 ne x3) ne nd.a::.own 3 (.slice X2 nD x2) nD nd.shape::.own 3 (.slice X1 ns x1) ns nd.ins::.box gn 34 [.int .i64 nd.op,.slice X1 ns x1,.slice X2 nD x2,.slice X3 ne x3,.int .i64 nd.n,.int .i64 nd.how,.string nd.note]::.row 34 7 (.slice (some ⟨gN,0,none⟩) nb nb) nb us::.own 3 (.slice C1 nc cc1) nc G.outs::.own 3 (.slice A1 na ca1) na G.sizes::.box gc 25 [.slice A1 na ca1,.string G.names,.slice (some ⟨gN,0,none⟩) nb nb,.slice C1 nc cc1]::.box (g1+1) 25 [.slice none 0 0,.string ⟨#[]⟩,.slice none 0 0,.slice none 0 0]::.box g1 25 [.slice A na ca,.string G.names,.slice (some la) nb cb,.slice C nc cc]::pool))
   case first =>
    have K0:=Hd H.out.drew;refine wp_region_held_drew (S:=(fun _=>True)) (by kernel_rfl) ?_ (fun hq_=>?_)
    ·exact True.intro
    refine zW 0 hq_ ?_
    try simp only[pA]
    refine zW 3 hq_ ?_
    try simp only[pA]
    refine zW 6 hq_ ?_
    try simp only[pA]
    refine rD [1,4,7] (aC (fun K hK=>?_) (aC (fun K hK=>?_) (aC (fun K hK=>?_) AllReadyH.nil)))
    ·as_aux_lemma =>
      (have q1:=K0.out.cell 0 1 rfl rfl)
      go_simp
      try go_wp2_with fail
      refine zK hK ?_;clear hK K hq_;intro hq_
      try simp only[pA]
      refine rD [2,4,7] (aC (fun K hK=>?_) (aC (fun K hK=>?_) (aC (fun K hK=>?_) AllReadyH.nil)))
      ·as_aux_lemma =>
        first|(refine effU ?_ ?_;(focus rfl))|(go_simp;(go_at_call 46;refine(copied_any (c:=cs) (K0.out.oldI HNL.out.inA) (by omega)).mono ?_;rintro e1 y1 ⟨⟨v1,rfl,hO1⟩,hb1⟩;obtain⟨X1,x1,hv1,_,_,_⟩:=hO1.form;subst hv1;have K1:=Hd (K0.out.addOwn hb1 hO1);clear hb1 hO1);go_wp2_with fail)
        refine zK hK ?_;clear hK K hq_;intro hq_
        try simp only[pA]
        refine rD [4,7] (aC (fun K hK=>?_) (aC (fun K hK=>?_) AllReadyH.nil))
        ·(have q4:=K1.out.cell 1 2 rfl rfl)
         go_simp
         try go_wp2_with fail
         refine zK hK ?_;clear hK K hq_;intro hq_
         try simp only[pA]
         refine rD [5,7] (aC (fun K hK=>?_) (aC (fun K hK=>?_) AllReadyH.nil))
         ·first|(refine effU ?_ ?_;(focus rfl))|(go_simp;(go_at_call 46;refine(copied_any (c:=cD) (K1.out.oldI HNL.out.inB) (by omega)).mono ?_;rintro e2 y2 ⟨⟨v2,rfl,hO2⟩,hb2⟩;obtain⟨X2,x2,hv2,_,_,_⟩:=hO2.form;subst hv2;have K2:=Hd (K1.out.addOwn hb2 hO2);clear hb2 hO2);go_wp2_with fail)
          refine zK hK ?_;clear hK K hq_;intro hq_
          try simp only[pA]
          refine e1 7 fun K hK=>?_
          (have q7:=K2.out.cell 2 3 rfl rfl)
          go_simp
          try go_wp2_with fail
          refine zK hK ?_;clear hK K hq_;intro hq_
          try simp only[pA]
          refine zW 9 hq_ ?_
          try simp only[pA]
          refine e1 8 fun K hK=>?_
          first|(refine effU ?_ ?_;(focus rfl))|(go_simp;(go_at_call 46;refine(copied_any (c:=ce) (K2.out.oldI HNL.out.inC) (by omega)).mono ?_;rintro e3 y3 ⟨⟨v3,rfl,hO3⟩,hb3⟩;obtain⟨X3,x3,hv3,_,_,_⟩:=hO3.form;subst hv3;have K3:=Hd (K2.out.addOwn hb3 hO3);clear hb3 hO3);go_wp2_with fail)
          refine zK hK ?_;clear hK K hq_;intro hq_
          try simp only[pA]
          refine e1 10 fun K hK=>?_
          (have fz10:=K3.out.frozenBox 3 1 rfl;have cz10:=K3.out.cell 3 1 rfl rfl;have K4:=Hd (K3.out.setBox 3 1 (.slice X1 ns x1) rfl))
          go_simp
          try go_wp2_with fail
          refine zK hK ?_;clear hK K hq_;intro hq_
          try simp only[pA]
          refine zW 11 hq_ ?_
          try simp only[pA]
          refine e1 12 fun K hK=>?_
          (have fz12:=K4.out.frozenBox 3 2 rfl;have cz12:=K4.out.cell 3 2 rfl rfl;have K5:=Hd (K4.out.setBox 3 2 (.slice X2 nD x2) rfl))
          go_simp
          try go_wp2_with fail
          refine zK hK ?_;clear hK K hq_;intro hq_
          try simp only[pA]
          refine zW 13 hq_ ?_
          try simp only[pA]
          refine e1 14 fun K hK=>?_
          (have fz14:=K5.out.frozenBox 3 3 rfl;have cz14:=K5.out.cell 3 3 rfl rfl;have K6:=Hd (K5.out.setBox 3 3 (.slice X3 ne x3) rfl))
          go_simp
          try go_wp2_with fail
          refine zK hK ?_;clear hK K hq_;intro hq_
          try simp only[pA]
          refine wpAnyH_done (by kernel_rfl) ?_ _
          go_wp2_with fail
          go_meet;exact⟨X1,x1,X2,x2,X3,x3,K6.out⟩
         ·(have q7:=K1.out.cell 1 3 rfl rfl)
          go_simp
          try go_wp2_with fail
          refine zK hK ?_;clear hK K hq_;intro hq_
          try simp only[pA]
          refine zW 9 hq_ ?_
          try simp only[pA]
          refine e1 5 fun K hK=>?_
          first|(refine effU ?_ ?_;(focus rfl))|(go_simp;(go_at_call 46;refine(copied_any (c:=cD) (K1.out.oldI HNL.out.inB) (by omega)).mono ?_;rintro e2 y2 ⟨⟨v2,rfl,hO2⟩,hb2⟩;obtain⟨X2,x2,hv2,_,_,_⟩:=hO2.form;subst hv2;have K2:=Hd (K1.out.addOwn hb2 hO2);clear hb2 hO2);go_wp2_with fail)
          refine zK hK ?_;clear hK K hq_;intro hq_
          try simp only[pA]
          refine e1 8 fun K hK=>?_
          first|(refine effU ?_ ?_;(focus rfl))|(go_simp;(go_at_call 46;refine(copied_any (c:=ce) (K2.out.oldI HNL.out.inC) (by omega)).mono ?_;rintro e3 y3 ⟨⟨v3,rfl,hO3⟩,hb3⟩;obtain⟨X3,x3,hv3,_,_,_⟩:=hO3.form;subst hv3;have K3:=Hd (K2.out.addOwn hb3 hO3);clear hb3 hO3);go_wp2_with fail)
          refine zK hK ?_;clear hK K hq_;intro hq_
          try simp only[pA]
          refine e1 10 fun K hK=>?_
          (have fz10:=K3.out.frozenBox 3 1 rfl;have cz10:=K3.out.cell 3 1 rfl rfl;have K4:=Hd (K3.out.setBox 3 1 (.slice X1 ns x1) rfl))
          go_simp
          try go_wp2_with fail
          refine zK hK ?_;clear hK K hq_;intro hq_
          try simp only[pA]
          refine zW 11 hq_ ?_
          try simp only[pA]
          refine e1 12 fun K hK=>?_
          (have fz12:=K4.out.frozenBox 3 2 rfl;have cz12:=K4.out.cell 3 2 rfl rfl;have K5:=Hd (K4.out.setBox 3 2 (.slice X2 nD x2) rfl))
          go_simp
          try go_wp2_with fail
          refine zK hK ?_;clear hK K hq_;intro hq_
          try simp only[pA]
          refine zW 13 hq_ ?_
          try simp only[pA]
          refine e1 14 fun K hK=>?_
          (have fz14:=K5.out.frozenBox 3 3 rfl;have cz14:=K5.out.cell 3 3 rfl rfl;have K6:=Hd (K5.out.setBox 3 3 (.slice X3 ne x3) rfl))
          go_simp
          try go_wp2_with fail
          refine zK hK ?_;clear hK K hq_;intro hq_
          try simp only[pA]
          refine wpAnyH_done (by kernel_rfl) ?_ _
          go_wp2_with fail
          go_meet;exact⟨X1,x1,X2,x2,X3,x3,K6.out⟩
        ·(have q7:=K1.out.cell 1 3 rfl rfl)
         go_simp
         try go_wp2_with fail
         refine zK hK ?_;clear hK K hq_;intro hq_
         try simp only[pA]
         refine e1 4 fun K hK=>?_
         (have q4:=K1.out.cell 1 2 rfl rfl)
         go_simp
         try go_wp2_with fail
         refine zK hK ?_;clear hK K hq_;intro hq_
         try simp only[pA]
         refine zW 9 hq_ ?_
         try simp only[pA]
         refine e1 5 fun K hK=>?_
         first|(refine effU ?_ ?_;(focus rfl))|(go_simp;(go_at_call 46;refine(copied_any (c:=cD) (K1.out.oldI HNL.out.inB) (by omega)).mono ?_;rintro e2 y2 ⟨⟨v2,rfl,hO2⟩,hb2⟩;obtain⟨X2,x2,hv2,_,_,_⟩:=hO2.form;subst hv2;have K2:=Hd (K1.out.addOwn hb2 hO2);clear hb2 hO2);go_wp2_with fail)
         refine zK hK ?_;clear hK K hq_;intro hq_
         try simp only[pA]
         refine e1 8 fun K hK=>?_
         first|(refine effU ?_ ?_;(focus rfl))|(go_simp;(go_at_call 46;refine(copied_any (c:=ce) (K2.out.oldI HNL.out.inC) (by omega)).mono ?_;rintro e3 y3 ⟨⟨v3,rfl,hO3⟩,hb3⟩;obtain⟨X3,x3,hv3,_,_,_⟩:=hO3.form;subst hv3;have K3:=Hd (K2.out.addOwn hb3 hO3);clear hb3 hO3);go_wp2_with fail)
         refine zK hK ?_;clear hK K hq_;intro hq_
         try simp only[pA]
         refine e1 10 fun K hK=>?_
         (have fz10:=K3.out.frozenBox 3 1 rfl;have cz10:=K3.out.cell 3 1 rfl rfl;have K4:=Hd (K3.out.setBox 3 1 (.slice X1 ns x1) rfl))
         go_simp
         try go_wp2_with fail
         refine zK hK ?_;clear hK K hq_;intro hq_
         try simp only[pA]
         refine zW 11 hq_ ?_
         try simp only[pA]
         refine e1 12 fun K hK=>?_
         (have fz12:=K4.out.frozenBox 3 2 rfl;have cz12:=K4.out.cell 3 2 rfl rfl;have K5:=Hd (K4.out.setBox 3 2 (.slice X2 nD x2) rfl))
         go_simp
         try go_wp2_with fail
         refine zK hK ?_;clear hK K hq_;intro hq_
         try simp only[pA]
         refine zW 13 hq_ ?_
         try simp only[pA]
         refine e1 14 fun K hK=>?_
         (have fz14:=K5.out.frozenBox 3 3 rfl;have cz14:=K5.out.cell 3 3 rfl rfl;have K6:=Hd (K5.out.setBox 3 3 (.slice X3 ne x3) rfl))
         go_simp
         try go_wp2_with fail
         refine zK hK ?_;clear hK K hq_;intro hq_
         try simp only[pA]
         refine wpAnyH_done (by kernel_rfl) ?_ _
         go_wp2_with fail
         go_meet;exact⟨X1,x1,X2,x2,X3,x3,K6.out⟩
      ·as_aux_lemma =>
        (have q4:=K0.out.cell 0 2 rfl rfl)
        go_simp
        try go_wp2_with fail
        refine zK hK ?_;clear hK K hq_;intro hq_
        try simp only[pA]
        refine rD [2,7] (aC (fun K hK=>?_) (aC (fun K hK=>?_) AllReadyH.nil))
        ·first|(refine effU ?_ ?_;(focus rfl))|(go_simp;(go_at_call 46;refine(copied_any (c:=cs) (K0.out.oldI HNL.out.inA) (by omega)).mono ?_;rintro e1 y1 ⟨⟨v1,rfl,hO1⟩,hb1⟩;obtain⟨X1,x1,hv1,_,_,_⟩:=hO1.form;subst hv1;have K1:=Hd (K0.out.addOwn hb1 hO1);clear hb1 hO1);go_wp2_with fail)
         refine zK hK ?_;clear hK K hq_;intro hq_
         try simp only[pA]
         refine rD [5,7] (aC (fun K hK=>?_) (aC (fun K hK=>?_) AllReadyH.nil))
         ·first|(refine effU ?_ ?_;(focus rfl))|(go_simp;(go_at_call 46;refine(copied_any (c:=cD) (K1.out.oldI HNL.out.inB) (by omega)).mono ?_;rintro e2 y2 ⟨⟨v2,rfl,hO2⟩,hb2⟩;obtain⟨X2,x2,hv2,_,_,_⟩:=hO2.form;subst hv2;have K2:=Hd (K1.out.addOwn hb2 hO2);clear hb2 hO2);go_wp2_with fail)
          refine zK hK ?_;clear hK K hq_;intro hq_
          try simp only[pA]
          refine e1 7 fun K hK=>?_
          (have q7:=K2.out.cell 2 3 rfl rfl)
          go_simp
          try go_wp2_with fail
          refine zK hK ?_;clear hK K hq_;intro hq_
          try simp only[pA]
          refine zW 9 hq_ ?_
          try simp only[pA]
          refine e1 8 fun K hK=>?_
          first|(refine effU ?_ ?_;(focus rfl))|(go_simp;(go_at_call 46;refine(copied_any (c:=ce) (K2.out.oldI HNL.out.inC) (by omega)).mono ?_;rintro e3 y3 ⟨⟨v3,rfl,hO3⟩,hb3⟩;obtain⟨X3,x3,hv3,_,_,_⟩:=hO3.form;subst hv3;have K3:=Hd (K2.out.addOwn hb3 hO3);clear hb3 hO3);go_wp2_with fail)
          refine zK hK ?_;clear hK K hq_;intro hq_
          try simp only[pA]
          refine e1 10 fun K hK=>?_
          (have fz10:=K3.out.frozenBox 3 1 rfl;have cz10:=K3.out.cell 3 1 rfl rfl;have K4:=Hd (K3.out.setBox 3 1 (.slice X1 ns x1) rfl))
          go_simp
          try go_wp2_with fail
          refine zK hK ?_;clear hK K hq_;intro hq_
          try simp only[pA]
          refine zW 11 hq_ ?_
          try simp only[pA]
          refine e1 12 fun K hK=>?_
          (have fz12:=K4.out.frozenBox 3 2 rfl;have cz12:=K4.out.cell 3 2 rfl rfl;have K5:=Hd (K4.out.setBox 3 2 (.slice X2 nD x2) rfl))
          go_simp
          try go_wp2_with fail
          refine zK hK ?_;clear hK K hq_;intro hq_
          try simp only[pA]
          refine zW 13 hq_ ?_
          try simp only[pA]
          refine e1 14 fun K hK=>?_
          (have fz14:=K5.out.frozenBox 3 3 rfl;have cz14:=K5.out.cell 3 3 rfl rfl;have K6:=Hd (K5.out.setBox 3 3 (.slice X3 ne x3) rfl))
          go_simp
          try go_wp2_with fail
          refine zK hK ?_;clear hK K hq_;intro hq_
          try simp only[pA]
          refine wpAnyH_done (by kernel_rfl) ?_ _
          go_wp2_with fail
          go_meet;exact⟨X1,x1,X2,x2,X3,x3,K6.out⟩
         ·(have q7:=K1.out.cell 1 3 rfl rfl)
          go_simp
          try go_wp2_with fail
          refine zK hK ?_;clear hK K hq_;intro hq_
          try simp only[pA]
          refine zW 9 hq_ ?_
          try simp only[pA]
          refine e1 5 fun K hK=>?_
          first|(refine effU ?_ ?_;(focus rfl))|(go_simp;(go_at_call 46;refine(copied_any (c:=cD) (K1.out.oldI HNL.out.inB) (by omega)).mono ?_;rintro e2 y2 ⟨⟨v2,rfl,hO2⟩,hb2⟩;obtain⟨X2,x2,hv2,_,_,_⟩:=hO2.form;subst hv2;have K2:=Hd (K1.out.addOwn hb2 hO2);clear hb2 hO2);go_wp2_with fail)
          refine zK hK ?_;clear hK K hq_;intro hq_
          try simp only[pA]
          refine e1 8 fun K hK=>?_
          first|(refine effU ?_ ?_;(focus rfl))|(go_simp;(go_at_call 46;refine(copied_any (c:=ce) (K2.out.oldI HNL.out.inC) (by omega)).mono ?_;rintro e3 y3 ⟨⟨v3,rfl,hO3⟩,hb3⟩;obtain⟨X3,x3,hv3,_,_,_⟩:=hO3.form;subst hv3;have K3:=Hd (K2.out.addOwn hb3 hO3);clear hb3 hO3);go_wp2_with fail)
          refine zK hK ?_;clear hK K hq_;intro hq_
          try simp only[pA]
          refine e1 10 fun K hK=>?_
          (have fz10:=K3.out.frozenBox 3 1 rfl;have cz10:=K3.out.cell 3 1 rfl rfl;have K4:=Hd (K3.out.setBox 3 1 (.slice X1 ns x1) rfl))
          go_simp
          try go_wp2_with fail
          refine zK hK ?_;clear hK K hq_;intro hq_
          try simp only[pA]
          refine zW 11 hq_ ?_
          try simp only[pA]
          refine e1 12 fun K hK=>?_
          (have fz12:=K4.out.frozenBox 3 2 rfl;have cz12:=K4.out.cell 3 2 rfl rfl;have K5:=Hd (K4.out.setBox 3 2 (.slice X2 nD x2) rfl))
          go_simp
          try go_wp2_with fail
          refine zK hK ?_;clear hK K hq_;intro hq_
          try simp only[pA]
          refine zW 13 hq_ ?_
          try simp only[pA]
          refine e1 14 fun K hK=>?_
          (have fz14:=K5.out.frozenBox 3 3 rfl;have cz14:=K5.out.cell 3 3 rfl rfl;have K6:=Hd (K5.out.setBox 3 3 (.slice X3 ne x3) rfl))
          go_simp
          try go_wp2_with fail
          refine zK hK ?_;clear hK K hq_;intro hq_
          try simp only[pA]
          refine wpAnyH_done (by kernel_rfl) ?_ _
          go_wp2_with fail
          go_meet;exact⟨X1,x1,X2,x2,X3,x3,K6.out⟩
        ·(have q7:=K0.out.cell 0 3 rfl rfl)
         go_simp
         try go_wp2_with fail
         refine zK hK ?_;clear hK K hq_;intro hq_
         try simp only[pA]
         refine e1 2 fun K hK=>?_
         first|(refine effU ?_ ?_;(focus rfl))|(go_simp;(go_at_call 46;refine(copied_any (c:=cs) (K0.out.oldI HNL.out.inA) (by omega)).mono ?_;rintro e1 y1 ⟨⟨v1,rfl,hO1⟩,hb1⟩;obtain⟨X1,x1,hv1,_,_,_⟩:=hO1.form;subst hv1;have K1:=Hd (K0.out.addOwn hb1 hO1);clear hb1 hO1);go_wp2_with fail)
         refine zK hK ?_;clear hK K hq_;intro hq_
         try simp only[pA]
         refine zW 9 hq_ ?_
         try simp only[pA]
         refine e1 5 fun K hK=>?_
         first|(refine effU ?_ ?_;(focus rfl))|(go_simp;(go_at_call 46;refine(copied_any (c:=cD) (K1.out.oldI HNL.out.inB) (by omega)).mono ?_;rintro e2 y2 ⟨⟨v2,rfl,hO2⟩,hb2⟩;obtain⟨X2,x2,hv2,_,_,_⟩:=hO2.form;subst hv2;have K2:=Hd (K1.out.addOwn hb2 hO2);clear hb2 hO2);go_wp2_with fail)
         refine zK hK ?_;clear hK K hq_;intro hq_
         try simp only[pA]
         refine e1 8 fun K hK=>?_
         first|(refine effU ?_ ?_;(focus rfl))|(go_simp;(go_at_call 46;refine(copied_any (c:=ce) (K2.out.oldI HNL.out.inC) (by omega)).mono ?_;rintro e3 y3 ⟨⟨v3,rfl,hO3⟩,hb3⟩;obtain⟨X3,x3,hv3,_,_,_⟩:=hO3.form;subst hv3;have K3:=Hd (K2.out.addOwn hb3 hO3);clear hb3 hO3);go_wp2_with fail)
         refine zK hK ?_;clear hK K hq_;intro hq_
         try simp only[pA]
         refine e1 10 fun K hK=>?_
         (have fz10:=K3.out.frozenBox 3 1 rfl;have cz10:=K3.out.cell 3 1 rfl rfl;have K4:=Hd (K3.out.setBox 3 1 (.slice X1 ns x1) rfl))
         go_simp
         try go_wp2_with fail
         refine zK hK ?_;clear hK K hq_;intro hq_
         try simp only[pA]
         refine zW 11 hq_ ?_
         try simp only[pA]
         refine e1 12 fun K hK=>?_
         (have fz12:=K4.out.frozenBox 3 2 rfl;have cz12:=K4.out.cell 3 2 rfl rfl;have K5:=Hd (K4.out.setBox 3 2 (.slice X2 nD x2) rfl))
         go_simp
         try go_wp2_with fail
         refine zK hK ?_;clear hK K hq_;intro hq_
         try simp only[pA]
         refine zW 13 hq_ ?_
         try simp only[pA]
         refine e1 14 fun K hK=>?_
         (have fz14:=K5.out.frozenBox 3 3 rfl;have cz14:=K5.out.cell 3 3 rfl rfl;have K6:=Hd (K5.out.setBox 3 3 (.slice X3 ne x3) rfl))
         go_simp
         try go_wp2_with fail
         refine zK hK ?_;clear hK K hq_;intro hq_
         try simp only[pA]
         refine wpAnyH_done (by kernel_rfl) ?_ _
         go_wp2_with fail
         go_meet;exact⟨X1,x1,X2,x2,X3,x3,K6.out⟩
      ·as_aux_lemma =>
        (have q7:=K0.out.cell 0 3 rfl rfl)
        go_simp
        try go_wp2_with fail
        refine zK hK ?_;clear hK K hq_;intro hq_
        try simp only[pA]
        refine rD [2,4] (aC (fun K hK=>?_) (aC (fun K hK=>?_) AllReadyH.nil))
        ·first|(refine effU ?_ ?_;(focus rfl))|(go_simp;(go_at_call 46;refine(copied_any (c:=cs) (K0.out.oldI HNL.out.inA) (by omega)).mono ?_;rintro e1 y1 ⟨⟨v1,rfl,hO1⟩,hb1⟩;obtain⟨X1,x1,hv1,_,_,_⟩:=hO1.form;subst hv1;have K1:=Hd (K0.out.addOwn hb1 hO1);clear hb1 hO1);go_wp2_with fail)
         refine zK hK ?_;clear hK K hq_;intro hq_
         try simp only[pA]
         refine e1 4 fun K hK=>?_
         (have q4:=K1.out.cell 1 2 rfl rfl)
         go_simp
         try go_wp2_with fail
         refine zK hK ?_;clear hK K hq_;intro hq_
         try simp only[pA]
         refine zW 9 hq_ ?_
         try simp only[pA]
         refine e1 5 fun K hK=>?_
         first|(refine effU ?_ ?_;(focus rfl))|(go_simp;(go_at_call 46;refine(copied_any (c:=cD) (K1.out.oldI HNL.out.inB) (by omega)).mono ?_;rintro e2 y2 ⟨⟨v2,rfl,hO2⟩,hb2⟩;obtain⟨X2,x2,hv2,_,_,_⟩:=hO2.form;subst hv2;have K2:=Hd (K1.out.addOwn hb2 hO2);clear hb2 hO2);go_wp2_with fail)
         refine zK hK ?_;clear hK K hq_;intro hq_
         try simp only[pA]
         refine e1 8 fun K hK=>?_
         first|(refine effU ?_ ?_;(focus rfl))|(go_simp;(go_at_call 46;refine(copied_any (c:=ce) (K2.out.oldI HNL.out.inC) (by omega)).mono ?_;rintro e3 y3 ⟨⟨v3,rfl,hO3⟩,hb3⟩;obtain⟨X3,x3,hv3,_,_,_⟩:=hO3.form;subst hv3;have K3:=Hd (K2.out.addOwn hb3 hO3);clear hb3 hO3);go_wp2_with fail)
         refine zK hK ?_;clear hK K hq_;intro hq_
         try simp only[pA]
         refine e1 10 fun K hK=>?_
         (have fz10:=K3.out.frozenBox 3 1 rfl;have cz10:=K3.out.cell 3 1 rfl rfl;have K4:=Hd (K3.out.setBox 3 1 (.slice X1 ns x1) rfl))
         go_simp
         try go_wp2_with fail
         refine zK hK ?_;clear hK K hq_;intro hq_
         try simp only[pA]
         refine zW 11 hq_ ?_
         try simp only[pA]
         refine e1 12 fun K hK=>?_
         (have fz12:=K4.out.frozenBox 3 2 rfl;have cz12:=K4.out.cell 3 2 rfl rfl;have K5:=Hd (K4.out.setBox 3 2 (.slice X2 nD x2) rfl))
         go_simp
         try go_wp2_with fail
         refine zK hK ?_;clear hK K hq_;intro hq_
         try simp only[pA]
         refine zW 13 hq_ ?_
         try simp only[pA]
         refine e1 14 fun K hK=>?_
         (have fz14:=K5.out.frozenBox 3 3 rfl;have cz14:=K5.out.cell 3 3 rfl rfl;have K6:=Hd (K5.out.setBox 3 3 (.slice X3 ne x3) rfl))
         go_simp
         try go_wp2_with fail
         refine zK hK ?_;clear hK K hq_;intro hq_
         try simp only[pA]
         refine wpAnyH_done (by kernel_rfl) ?_ _
         go_wp2_with fail
         go_meet;exact⟨X1,x1,X2,x2,X3,x3,K6.out⟩
        ·(have q4:=K0.out.cell 0 2 rfl rfl)
         go_simp
         try go_wp2_with fail
         refine zK hK ?_;clear hK K hq_;intro hq_
         try simp only[pA]
         refine e1 2 fun K hK=>?_
         first|(refine effU ?_ ?_;(focus rfl))|(go_simp;(go_at_call 46;refine(copied_any (c:=cs) (K0.out.oldI HNL.out.inA) (by omega)).mono ?_;rintro e1 y1 ⟨⟨v1,rfl,hO1⟩,hb1⟩;obtain⟨X1,x1,hv1,_,_,_⟩:=hO1.form;subst hv1;have K1:=Hd (K0.out.addOwn hb1 hO1);clear hb1 hO1);go_wp2_with fail)
         refine zK hK ?_;clear hK K hq_;intro hq_
         try simp only[pA]
         refine zW 9 hq_ ?_
         try simp only[pA]
         refine e1 5 fun K hK=>?_
         first|(refine effU ?_ ?_;(focus rfl))|(go_simp;(go_at_call 46;refine(copied_any (c:=cD) (K1.out.oldI HNL.out.inB) (by omega)).mono ?_;rintro e2 y2 ⟨⟨v2,rfl,hO2⟩,hb2⟩;obtain⟨X2,x2,hv2,_,_,_⟩:=hO2.form;subst hv2;have K2:=Hd (K1.out.addOwn hb2 hO2);clear hb2 hO2);go_wp2_with fail)
         refine zK hK ?_;clear hK K hq_;intro hq_
         try simp only[pA]
         refine e1 8 fun K hK=>?_
         first|(refine effU ?_ ?_;(focus rfl))|(go_simp;(go_at_call 46;refine(copied_any (c:=ce) (K2.out.oldI HNL.out.inC) (by omega)).mono ?_;rintro e3 y3 ⟨⟨v3,rfl,hO3⟩,hb3⟩;obtain⟨X3,x3,hv3,_,_,_⟩:=hO3.form;subst hv3;have K3:=Hd (K2.out.addOwn hb3 hO3);clear hb3 hO3);go_wp2_with fail)
         refine zK hK ?_;clear hK K hq_;intro hq_
         try simp only[pA]
         refine e1 10 fun K hK=>?_
         (have fz10:=K3.out.frozenBox 3 1 rfl;have cz10:=K3.out.cell 3 1 rfl rfl;have K4:=Hd (K3.out.setBox 3 1 (.slice X1 ns x1) rfl))
         go_simp
         try go_wp2_with fail
         refine zK hK ?_;clear hK K hq_;intro hq_
         try simp only[pA]
         refine zW 11 hq_ ?_
         try simp only[pA]
         refine e1 12 fun K hK=>?_
         (have fz12:=K4.out.frozenBox 3 2 rfl;have cz12:=K4.out.cell 3 2 rfl rfl;have K5:=Hd (K4.out.setBox 3 2 (.slice X2 nD x2) rfl))
         go_simp
         try go_wp2_with fail
         refine zK hK ?_;clear hK K hq_;intro hq_
         try simp only[pA]
         refine zW 13 hq_ ?_
         try simp only[pA]
         refine e1 14 fun K hK=>?_
         (have fz14:=K5.out.frozenBox 3 3 rfl;have cz14:=K5.out.cell 3 3 rfl rfl;have K6:=Hd (K5.out.setBox 3 3 (.slice X3 ne x3) rfl))
         go_simp
         try go_wp2_with fail
         refine zK hK ?_;clear hK K hq_;intro hq_
         try simp only[pA]
         refine wpAnyH_done (by kernel_rfl) ?_ _
         go_wp2_with fail
         go_meet;exact⟨X1,x1,X2,x2,X3,x3,K6.out⟩
    ·as_aux_lemma =>
      (have q4:=K0.out.cell 0 2 rfl rfl)
      go_simp
      try go_wp2_with fail
      refine zK hK ?_;clear hK K hq_;intro hq_
      try simp only[pA]
      refine rD [1,7] (aC (fun K hK=>?_) (aC (fun K hK=>?_) AllReadyH.nil))
      ·as_aux_lemma =>
        (have q1:=K0.out.cell 0 1 rfl rfl)
        go_simp
        try go_wp2_with fail
        refine zK hK ?_;clear hK K hq_;intro hq_
        try simp only[pA]
        refine rD [2,7] (aC (fun K hK=>?_) (aC (fun K hK=>?_) AllReadyH.nil))
        ·first|(refine effU ?_ ?_;(focus rfl))|(go_simp;(go_at_call 46;refine(copied_any (c:=cs) (K0.out.oldI HNL.out.inA) (by omega)).mono ?_;rintro e1 y1 ⟨⟨v1,rfl,hO1⟩,hb1⟩;obtain⟨X1,x1,hv1,_,_,_⟩:=hO1.form;subst hv1;have K1:=Hd (K0.out.addOwn hb1 hO1);clear hb1 hO1);go_wp2_with fail)
         refine zK hK ?_;clear hK K hq_;intro hq_
         try simp only[pA]
         refine rD [5,7] (aC (fun K hK=>?_) (aC (fun K hK=>?_) AllReadyH.nil))
         ·first|(refine effU ?_ ?_;(focus rfl))|(go_simp;(go_at_call 46;refine(copied_any (c:=cD) (K1.out.oldI HNL.out.inB) (by omega)).mono ?_;rintro e2 y2 ⟨⟨v2,rfl,hO2⟩,hb2⟩;obtain⟨X2,x2,hv2,_,_,_⟩:=hO2.form;subst hv2;have K2:=Hd (K1.out.addOwn hb2 hO2);clear hb2 hO2);go_wp2_with fail)
          refine zK hK ?_;clear hK K hq_;intro hq_
          try simp only[pA]
          refine e1 7 fun K hK=>?_
          (have q7:=K2.out.cell 2 3 rfl rfl)
          go_simp
          try go_wp2_with fail
          refine zK hK ?_;clear hK K hq_;intro hq_
          try simp only[pA]
          refine zW 9 hq_ ?_
          try simp only[pA]
          refine e1 8 fun K hK=>?_
          first|(refine effU ?_ ?_;(focus rfl))|(go_simp;(go_at_call 46;refine(copied_any (c:=ce) (K2.out.oldI HNL.out.inC) (by omega)).mono ?_;rintro e3 y3 ⟨⟨v3,rfl,hO3⟩,hb3⟩;obtain⟨X3,x3,hv3,_,_,_⟩:=hO3.form;subst hv3;have K3:=Hd (K2.out.addOwn hb3 hO3);clear hb3 hO3);go_wp2_with fail)
          refine zK hK ?_;clear hK K hq_;intro hq_
          try simp only[pA]
          refine e1 10 fun K hK=>?_
          (have fz10:=K3.out.frozenBox 3 1 rfl;have cz10:=K3.out.cell 3 1 rfl rfl;have K4:=Hd (K3.out.setBox 3 1 (.slice X1 ns x1) rfl))
          go_simp
          try go_wp2_with fail
          refine zK hK ?_;clear hK K hq_;intro hq_
          try simp only[pA]
          refine zW 11 hq_ ?_
          try simp only[pA]
          refine e1 12 fun K hK=>?_
          (have fz12:=K4.out.frozenBox 3 2 rfl;have cz12:=K4.out.cell 3 2 rfl rfl;have K5:=Hd (K4.out.setBox 3 2 (.slice X2 nD x2) rfl))
          go_simp
          try go_wp2_with fail
          refine zK hK ?_;clear hK K hq_;intro hq_
          try simp only[pA]
          refine zW 13 hq_ ?_
          try simp only[pA]
          refine e1 14 fun K hK=>?_
          (have fz14:=K5.out.frozenBox 3 3 rfl;have cz14:=K5.out.cell 3 3 rfl rfl;have K6:=Hd (K5.out.setBox 3 3 (.slice X3 ne x3) rfl))
          go_simp
          try go_wp2_with fail
          refine zK hK ?_;clear hK K hq_;intro hq_
          try simp only[pA]
          refine wpAnyH_done (by kernel_rfl) ?_ _
          go_wp2_with fail
          go_meet;exact⟨X1,x1,X2,x2,X3,x3,K6.out⟩
         ·(have q7:=K1.out.cell 1 3 rfl rfl)
          go_simp
          try go_wp2_with fail
          refine zK hK ?_;clear hK K hq_;intro hq_
          try simp only[pA]
          refine zW 9 hq_ ?_
          try simp only[pA]
          refine e1 5 fun K hK=>?_
          first|(refine effU ?_ ?_;(focus rfl))|(go_simp;(go_at_call 46;refine(copied_any (c:=cD) (K1.out.oldI HNL.out.inB) (by omega)).mono ?_;rintro e2 y2 ⟨⟨v2,rfl,hO2⟩,hb2⟩;obtain⟨X2,x2,hv2,_,_,_⟩:=hO2.form;subst hv2;have K2:=Hd (K1.out.addOwn hb2 hO2);clear hb2 hO2);go_wp2_with fail)
          refine zK hK ?_;clear hK K hq_;intro hq_
          try simp only[pA]
          refine e1 8 fun K hK=>?_
          first|(refine effU ?_ ?_;(focus rfl))|(go_simp;(go_at_call 46;refine(copied_any (c:=ce) (K2.out.oldI HNL.out.inC) (by omega)).mono ?_;rintro e3 y3 ⟨⟨v3,rfl,hO3⟩,hb3⟩;obtain⟨X3,x3,hv3,_,_,_⟩:=hO3.form;subst hv3;have K3:=Hd (K2.out.addOwn hb3 hO3);clear hb3 hO3);go_wp2_with fail)
          refine zK hK ?_;clear hK K hq_;intro hq_
          try simp only[pA]
          refine e1 10 fun K hK=>?_
          (have fz10:=K3.out.frozenBox 3 1 rfl;have cz10:=K3.out.cell 3 1 rfl rfl;have K4:=Hd (K3.out.setBox 3 1 (.slice X1 ns x1) rfl))
          go_simp
          try go_wp2_with fail
          refine zK hK ?_;clear hK K hq_;intro hq_
          try simp only[pA]
          refine zW 11 hq_ ?_
          try simp only[pA]
          refine e1 12 fun K hK=>?_
          (have fz12:=K4.out.frozenBox 3 2 rfl;have cz12:=K4.out.cell 3 2 rfl rfl;have K5:=Hd (K4.out.setBox 3 2 (.slice X2 nD x2) rfl))
          go_simp
          try go_wp2_with fail
          refine zK hK ?_;clear hK K hq_;intro hq_
          try simp only[pA]
          refine zW 13 hq_ ?_
          try simp only[pA]
          refine e1 14 fun K hK=>?_
          (have fz14:=K5.out.frozenBox 3 3 rfl;have cz14:=K5.out.cell 3 3 rfl rfl;have K6:=Hd (K5.out.setBox 3 3 (.slice X3 ne x3) rfl))
          go_simp
          try go_wp2_with fail
          refine zK hK ?_;clear hK K hq_;intro hq_
          try simp only[pA]
          refine wpAnyH_done (by kernel_rfl) ?_ _
          go_wp2_with fail
          go_meet;exact⟨X1,x1,X2,x2,X3,x3,K6.out⟩
        ·(have q7:=K0.out.cell 0 3 rfl rfl)
         go_simp
         try go_wp2_with fail
         refine zK hK ?_;clear hK K hq_;intro hq_
         try simp only[pA]
         refine e1 2 fun K hK=>?_
         first|(refine effU ?_ ?_;(focus rfl))|(go_simp;(go_at_call 46;refine(copied_any (c:=cs) (K0.out.oldI HNL.out.inA) (by omega)).mono ?_;rintro e1 y1 ⟨⟨v1,rfl,hO1⟩,hb1⟩;obtain⟨X1,x1,hv1,_,_,_⟩:=hO1.form;subst hv1;have K1:=Hd (K0.out.addOwn hb1 hO1);clear hb1 hO1);go_wp2_with fail)
         refine zK hK ?_;clear hK K hq_;intro hq_
         try simp only[pA]
         refine zW 9 hq_ ?_
         try simp only[pA]
         refine e1 5 fun K hK=>?_
         first|(refine effU ?_ ?_;(focus rfl))|(go_simp;(go_at_call 46;refine(copied_any (c:=cD) (K1.out.oldI HNL.out.inB) (by omega)).mono ?_;rintro e2 y2 ⟨⟨v2,rfl,hO2⟩,hb2⟩;obtain⟨X2,x2,hv2,_,_,_⟩:=hO2.form;subst hv2;have K2:=Hd (K1.out.addOwn hb2 hO2);clear hb2 hO2);go_wp2_with fail)
         refine zK hK ?_;clear hK K hq_;intro hq_
         try simp only[pA]
         refine e1 8 fun K hK=>?_
         first|(refine effU ?_ ?_;(focus rfl))|(go_simp;(go_at_call 46;refine(copied_any (c:=ce) (K2.out.oldI HNL.out.inC) (by omega)).mono ?_;rintro e3 y3 ⟨⟨v3,rfl,hO3⟩,hb3⟩;obtain⟨X3,x3,hv3,_,_,_⟩:=hO3.form;subst hv3;have K3:=Hd (K2.out.addOwn hb3 hO3);clear hb3 hO3);go_wp2_with fail)
         refine zK hK ?_;clear hK K hq_;intro hq_
         try simp only[pA]
         refine e1 10 fun K hK=>?_
         (have fz10:=K3.out.frozenBox 3 1 rfl;have cz10:=K3.out.cell 3 1 rfl rfl;have K4:=Hd (K3.out.setBox 3 1 (.slice X1 ns x1) rfl))
         go_simp
         try go_wp2_with fail
         refine zK hK ?_;clear hK K hq_;intro hq_
         try simp only[pA]
         refine zW 11 hq_ ?_
         try simp only[pA]
         refine e1 12 fun K hK=>?_
         (have fz12:=K4.out.frozenBox 3 2 rfl;have cz12:=K4.out.cell 3 2 rfl rfl;have K5:=Hd (K4.out.setBox 3 2 (.slice X2 nD x2) rfl))
         go_simp
         try go_wp2_with fail
         refine zK hK ?_;clear hK K hq_;intro hq_
         try simp only[pA]
         refine zW 13 hq_ ?_
         try simp only[pA]
         refine e1 14 fun K hK=>?_
         (have fz14:=K5.out.frozenBox 3 3 rfl;have cz14:=K5.out.cell 3 3 rfl rfl;have K6:=Hd (K5.out.setBox 3 3 (.slice X3 ne x3) rfl))
         go_simp
         try go_wp2_with fail
         refine zK hK ?_;clear hK K hq_;intro hq_
         try simp only[pA]
         refine wpAnyH_done (by kernel_rfl) ?_ _
         go_wp2_with fail
         go_meet;exact⟨X1,x1,X2,x2,X3,x3,K6.out⟩
      ·as_aux_lemma =>
        (have q7:=K0.out.cell 0 3 rfl rfl)
        go_simp
        try go_wp2_with fail
        refine zK hK ?_;clear hK K hq_;intro hq_
        try simp only[pA]
        refine e1 1 fun K hK=>?_
        (have q1:=K0.out.cell 0 1 rfl rfl)
        go_simp
        try go_wp2_with fail
        refine zK hK ?_;clear hK K hq_;intro hq_
        try simp only[pA]
        refine e1 2 fun K hK=>?_
        first|(refine effU ?_ ?_;(focus rfl))|(go_simp;(go_at_call 46;refine(copied_any (c:=cs) (K0.out.oldI HNL.out.inA) (by omega)).mono ?_;rintro e1 y1 ⟨⟨v1,rfl,hO1⟩,hb1⟩;obtain⟨X1,x1,hv1,_,_,_⟩:=hO1.form;subst hv1;have K1:=Hd (K0.out.addOwn hb1 hO1);clear hb1 hO1);go_wp2_with fail)
        refine zK hK ?_;clear hK K hq_;intro hq_
        try simp only[pA]
        refine zW 9 hq_ ?_
        try simp only[pA]
        refine e1 5 fun K hK=>?_
        first|(refine effU ?_ ?_;(focus rfl))|(go_simp;(go_at_call 46;refine(copied_any (c:=cD) (K1.out.oldI HNL.out.inB) (by omega)).mono ?_;rintro e2 y2 ⟨⟨v2,rfl,hO2⟩,hb2⟩;obtain⟨X2,x2,hv2,_,_,_⟩:=hO2.form;subst hv2;have K2:=Hd (K1.out.addOwn hb2 hO2);clear hb2 hO2);go_wp2_with fail)
        refine zK hK ?_;clear hK K hq_;intro hq_
        try simp only[pA]
        refine e1 8 fun K hK=>?_
        first|(refine effU ?_ ?_;(focus rfl))|(go_simp;(go_at_call 46;refine(copied_any (c:=ce) (K2.out.oldI HNL.out.inC) (by omega)).mono ?_;rintro e3 y3 ⟨⟨v3,rfl,hO3⟩,hb3⟩;obtain⟨X3,x3,hv3,_,_,_⟩:=hO3.form;subst hv3;have K3:=Hd (K2.out.addOwn hb3 hO3);clear hb3 hO3);go_wp2_with fail)
        refine zK hK ?_;clear hK K hq_;intro hq_
        try simp only[pA]
        refine e1 10 fun K hK=>?_
        (have fz10:=K3.out.frozenBox 3 1 rfl;have cz10:=K3.out.cell 3 1 rfl rfl;have K4:=Hd (K3.out.setBox 3 1 (.slice X1 ns x1) rfl))
        go_simp
        try go_wp2_with fail
        refine zK hK ?_;clear hK K hq_;intro hq_
        try simp only[pA]
        refine zW 11 hq_ ?_
        try simp only[pA]
        refine e1 12 fun K hK=>?_
        (have fz12:=K4.out.frozenBox 3 2 rfl;have cz12:=K4.out.cell 3 2 rfl rfl;have K5:=Hd (K4.out.setBox 3 2 (.slice X2 nD x2) rfl))
        go_simp
        try go_wp2_with fail
        refine zK hK ?_;clear hK K hq_;intro hq_
        try simp only[pA]
        refine zW 13 hq_ ?_
        try simp only[pA]
        refine e1 14 fun K hK=>?_
        (have fz14:=K5.out.frozenBox 3 3 rfl;have cz14:=K5.out.cell 3 3 rfl rfl;have K6:=Hd (K5.out.setBox 3 3 (.slice X3 ne x3) rfl))
        go_simp
        try go_wp2_with fail
        refine zK hK ?_;clear hK K hq_;intro hq_
        try simp only[pA]
        refine wpAnyH_done (by kernel_rfl) ?_ _
        go_wp2_with fail
        go_meet;exact⟨X1,x1,X2,x2,X3,x3,K6.out⟩
    ·as_aux_lemma =>
      (have q7:=K0.out.cell 0 3 rfl rfl)
      go_simp
      try go_wp2_with fail
      refine zK hK ?_;clear hK K hq_;intro hq_
      try simp only[pA]
      refine rD [1,4] (aC (fun K hK=>?_) (aC (fun K hK=>?_) AllReadyH.nil))
      ·as_aux_lemma =>
        (have q1:=K0.out.cell 0 1 rfl rfl)
        go_simp
        try go_wp2_with fail
        refine zK hK ?_;clear hK K hq_;intro hq_
        try simp only[pA]
        refine rD [2,4] (aC (fun K hK=>?_) (aC (fun K hK=>?_) AllReadyH.nil))
        ·first|(refine effU ?_ ?_;(focus rfl))|(go_simp;(go_at_call 46;refine(copied_any (c:=cs) (K0.out.oldI HNL.out.inA) (by omega)).mono ?_;rintro e1 y1 ⟨⟨v1,rfl,hO1⟩,hb1⟩;obtain⟨X1,x1,hv1,_,_,_⟩:=hO1.form;subst hv1;have K1:=Hd (K0.out.addOwn hb1 hO1);clear hb1 hO1);go_wp2_with fail)
         refine zK hK ?_;clear hK K hq_;intro hq_
         try simp only[pA]
         refine e1 4 fun K hK=>?_
         (have q4:=K1.out.cell 1 2 rfl rfl)
         go_simp
         try go_wp2_with fail
         refine zK hK ?_;clear hK K hq_;intro hq_
         try simp only[pA]
         refine zW 9 hq_ ?_
         try simp only[pA]
         refine e1 5 fun K hK=>?_
         first|(refine effU ?_ ?_;(focus rfl))|(go_simp;(go_at_call 46;refine(copied_any (c:=cD) (K1.out.oldI HNL.out.inB) (by omega)).mono ?_;rintro e2 y2 ⟨⟨v2,rfl,hO2⟩,hb2⟩;obtain⟨X2,x2,hv2,_,_,_⟩:=hO2.form;subst hv2;have K2:=Hd (K1.out.addOwn hb2 hO2);clear hb2 hO2);go_wp2_with fail)
         refine zK hK ?_;clear hK K hq_;intro hq_
         try simp only[pA]
         refine e1 8 fun K hK=>?_
         first|(refine effU ?_ ?_;(focus rfl))|(go_simp;(go_at_call 46;refine(copied_any (c:=ce) (K2.out.oldI HNL.out.inC) (by omega)).mono ?_;rintro e3 y3 ⟨⟨v3,rfl,hO3⟩,hb3⟩;obtain⟨X3,x3,hv3,_,_,_⟩:=hO3.form;subst hv3;have K3:=Hd (K2.out.addOwn hb3 hO3);clear hb3 hO3);go_wp2_with fail)
         refine zK hK ?_;clear hK K hq_;intro hq_
         try simp only[pA]
         refine e1 10 fun K hK=>?_
         (have fz10:=K3.out.frozenBox 3 1 rfl;have cz10:=K3.out.cell 3 1 rfl rfl;have K4:=Hd (K3.out.setBox 3 1 (.slice X1 ns x1) rfl))
         go_simp
         try go_wp2_with fail
         refine zK hK ?_;clear hK K hq_;intro hq_
         try simp only[pA]
         refine zW 11 hq_ ?_
         try simp only[pA]
         refine e1 12 fun K hK=>?_
         (have fz12:=K4.out.frozenBox 3 2 rfl;have cz12:=K4.out.cell 3 2 rfl rfl;have K5:=Hd (K4.out.setBox 3 2 (.slice X2 nD x2) rfl))
         go_simp
         try go_wp2_with fail
         refine zK hK ?_;clear hK K hq_;intro hq_
         try simp only[pA]
         refine zW 13 hq_ ?_
         try simp only[pA]
         refine e1 14 fun K hK=>?_
         (have fz14:=K5.out.frozenBox 3 3 rfl;have cz14:=K5.out.cell 3 3 rfl rfl;have K6:=Hd (K5.out.setBox 3 3 (.slice X3 ne x3) rfl))
         go_simp
         try go_wp2_with fail
         refine zK hK ?_;clear hK K hq_;intro hq_
         try simp only[pA]
         refine wpAnyH_done (by kernel_rfl) ?_ _
         go_wp2_with fail
         go_meet;exact⟨X1,x1,X2,x2,X3,x3,K6.out⟩
        ·(have q4:=K0.out.cell 0 2 rfl rfl)
         go_simp
         try go_wp2_with fail
         refine zK hK ?_;clear hK K hq_;intro hq_
         try simp only[pA]
         refine e1 2 fun K hK=>?_
         first|(refine effU ?_ ?_;(focus rfl))|(go_simp;(go_at_call 46;refine(copied_any (c:=cs) (K0.out.oldI HNL.out.inA) (by omega)).mono ?_;rintro e1 y1 ⟨⟨v1,rfl,hO1⟩,hb1⟩;obtain⟨X1,x1,hv1,_,_,_⟩:=hO1.form;subst hv1;have K1:=Hd (K0.out.addOwn hb1 hO1);clear hb1 hO1);go_wp2_with fail)
         refine zK hK ?_;clear hK K hq_;intro hq_
         try simp only[pA]
         refine zW 9 hq_ ?_
         try simp only[pA]
         refine e1 5 fun K hK=>?_
         first|(refine effU ?_ ?_;(focus rfl))|(go_simp;(go_at_call 46;refine(copied_any (c:=cD) (K1.out.oldI HNL.out.inB) (by omega)).mono ?_;rintro e2 y2 ⟨⟨v2,rfl,hO2⟩,hb2⟩;obtain⟨X2,x2,hv2,_,_,_⟩:=hO2.form;subst hv2;have K2:=Hd (K1.out.addOwn hb2 hO2);clear hb2 hO2);go_wp2_with fail)
         refine zK hK ?_;clear hK K hq_;intro hq_
         try simp only[pA]
         refine e1 8 fun K hK=>?_
         first|(refine effU ?_ ?_;(focus rfl))|(go_simp;(go_at_call 46;refine(copied_any (c:=ce) (K2.out.oldI HNL.out.inC) (by omega)).mono ?_;rintro e3 y3 ⟨⟨v3,rfl,hO3⟩,hb3⟩;obtain⟨X3,x3,hv3,_,_,_⟩:=hO3.form;subst hv3;have K3:=Hd (K2.out.addOwn hb3 hO3);clear hb3 hO3);go_wp2_with fail)
         refine zK hK ?_;clear hK K hq_;intro hq_
         try simp only[pA]
         refine e1 10 fun K hK=>?_
         (have fz10:=K3.out.frozenBox 3 1 rfl;have cz10:=K3.out.cell 3 1 rfl rfl;have K4:=Hd (K3.out.setBox 3 1 (.slice X1 ns x1) rfl))
         go_simp
         try go_wp2_with fail
         refine zK hK ?_;clear hK K hq_;intro hq_
         try simp only[pA]
         refine zW 11 hq_ ?_
         try simp only[pA]
         refine e1 12 fun K hK=>?_
         (have fz12:=K4.out.frozenBox 3 2 rfl;have cz12:=K4.out.cell 3 2 rfl rfl;have K5:=Hd (K4.out.setBox 3 2 (.slice X2 nD x2) rfl))
         go_simp
         try go_wp2_with fail
         refine zK hK ?_;clear hK K hq_;intro hq_
         try simp only[pA]
         refine zW 13 hq_ ?_
         try simp only[pA]
         refine e1 14 fun K hK=>?_
         (have fz14:=K5.out.frozenBox 3 3 rfl;have cz14:=K5.out.cell 3 3 rfl rfl;have K6:=Hd (K5.out.setBox 3 3 (.slice X3 ne x3) rfl))
         go_simp
         try go_wp2_with fail
         refine zK hK ?_;clear hK K hq_;intro hq_
         try simp only[pA]
         refine wpAnyH_done (by kernel_rfl) ?_ _
         go_wp2_with fail
         go_meet;exact⟨X1,x1,X2,x2,X3,x3,K6.out⟩
      ·as_aux_lemma =>
        (have q4:=K0.out.cell 0 2 rfl rfl)
        go_simp
        try go_wp2_with fail
        refine zK hK ?_;clear hK K hq_;intro hq_
        try simp only[pA]
        refine e1 1 fun K hK=>?_
        (have q1:=K0.out.cell 0 1 rfl rfl)
        go_simp
        try go_wp2_with fail
        refine zK hK ?_;clear hK K hq_;intro hq_
        try simp only[pA]
        refine e1 2 fun K hK=>?_
        first|(refine effU ?_ ?_;(focus rfl))|(go_simp;(go_at_call 46;refine(copied_any (c:=cs) (K0.out.oldI HNL.out.inA) (by omega)).mono ?_;rintro e1 y1 ⟨⟨v1,rfl,hO1⟩,hb1⟩;obtain⟨X1,x1,hv1,_,_,_⟩:=hO1.form;subst hv1;have K1:=Hd (K0.out.addOwn hb1 hO1);clear hb1 hO1);go_wp2_with fail)
        refine zK hK ?_;clear hK K hq_;intro hq_
        try simp only[pA]
        refine zW 9 hq_ ?_
        try simp only[pA]
        refine e1 5 fun K hK=>?_
        first|(refine effU ?_ ?_;(focus rfl))|(go_simp;(go_at_call 46;refine(copied_any (c:=cD) (K1.out.oldI HNL.out.inB) (by omega)).mono ?_;rintro e2 y2 ⟨⟨v2,rfl,hO2⟩,hb2⟩;obtain⟨X2,x2,hv2,_,_,_⟩:=hO2.form;subst hv2;have K2:=Hd (K1.out.addOwn hb2 hO2);clear hb2 hO2);go_wp2_with fail)
        refine zK hK ?_;clear hK K hq_;intro hq_
        try simp only[pA]
        refine e1 8 fun K hK=>?_
        first|(refine effU ?_ ?_;(focus rfl))|(go_simp;(go_at_call 46;refine(copied_any (c:=ce) (K2.out.oldI HNL.out.inC) (by omega)).mono ?_;rintro e3 y3 ⟨⟨v3,rfl,hO3⟩,hb3⟩;obtain⟨X3,x3,hv3,_,_,_⟩:=hO3.form;subst hv3;have K3:=Hd (K2.out.addOwn hb3 hO3);clear hb3 hO3);go_wp2_with fail)
        refine zK hK ?_;clear hK K hq_;intro hq_
        try simp only[pA]
        refine e1 10 fun K hK=>?_
        (have fz10:=K3.out.frozenBox 3 1 rfl;have cz10:=K3.out.cell 3 1 rfl rfl;have K4:=Hd (K3.out.setBox 3 1 (.slice X1 ns x1) rfl))
        go_simp
        try go_wp2_with fail
        refine zK hK ?_;clear hK K hq_;intro hq_
        try simp only[pA]
        refine zW 11 hq_ ?_
        try simp only[pA]
        refine e1 12 fun K hK=>?_
        (have fz12:=K4.out.frozenBox 3 2 rfl;have cz12:=K4.out.cell 3 2 rfl rfl;have K5:=Hd (K4.out.setBox 3 2 (.slice X2 nD x2) rfl))
        go_simp
        try go_wp2_with fail
        refine zK hK ?_;clear hK K hq_;intro hq_
        try simp only[pA]
        refine zW 13 hq_ ?_
        try simp only[pA]
        refine e1 14 fun K hK=>?_
        (have fz14:=K5.out.frozenBox 3 3 rfl;have cz14:=K5.out.cell 3 3 rfl rfl;have K6:=Hd (K5.out.setBox 3 3 (.slice X3 ne x3) rfl))
        go_simp
        try go_wp2_with fail
        refine zK hK ?_;clear hK K hq_;intro hq_
        try simp only[pA]
        refine wpAnyH_done (by kernel_rfl) ?_ _
        go_wp2_with fail
        go_meet;exact⟨X1,x1,X2,x2,X3,x3,K6.out⟩
   case rest =>
    obtain⟨X1,x1,X2,x2,X3,x3,hS⟩:=hcut;replace H:=Hd hS;clear hS;have b2:=H.out.cell 7 2 rfl rfl;obtain⟨n0,n1,n2,n3,n4,n5,n6⟩:=H.out.cells7 3 rfl;have HGET:=Hd (show ∀ k,k<7→∃ u,us[j*7+k]? = some u from fun k hk=>⟨_,List.getElem?_eq_getElem (by have:=HUL.out;omega)⟩);obtain⟨u70,hu0⟩:=HGET.out 0 (by omega);have z0:wc.cell? ⟨gN,j*7,none⟩=some u70:=H.out.cellRow 4 rfl hu0;have fz0:wc.frozen? ⟨gN,j*7,none⟩=false:=H.out.frozenRow 4 rfl (j*7);obtain⟨u71,hu1⟩:=HGET.out 1 (by omega);have z1:wc.cell? ⟨gN,j*7+1,none⟩=some u71:=H.out.cellRow 4 rfl hu1;have fz1:wc.frozen? ⟨gN,j*7+1,none⟩=false:=H.out.frozenRow 4 rfl (j*7+1);obtain⟨u72,hu2⟩:=HGET.out 2 (by omega);have z2:wc.cell? ⟨gN,j*7+2,none⟩=some u72:=H.out.cellRow 4 rfl hu2;have fz2:wc.frozen? ⟨gN,j*7+2,none⟩=false:=H.out.frozenRow 4 rfl (j*7+2);obtain⟨u73,hu3⟩:=HGET.out 3 (by omega);have z3:wc.cell? ⟨gN,j*7+3,none⟩=some u73:=H.out.cellRow 4 rfl hu3;have fz3:wc.frozen? ⟨gN,j*7+3,none⟩=false:=H.out.frozenRow 4 rfl (j*7+3);obtain⟨u74,hu4⟩:=HGET.out 4 (by omega);have z4:wc.cell? ⟨gN,j*7+4,none⟩=some u74:=H.out.cellRow 4 rfl hu4;have fz4:wc.frozen? ⟨gN,j*7+4,none⟩=false:=H.out.frozenRow 4 rfl (j*7+4);obtain⟨u75,hu5⟩:=HGET.out 5 (by omega);have z5:wc.cell? ⟨gN,j*7+5,none⟩=some u75:=H.out.cellRow 4 rfl hu5;have fz5:wc.frozen? ⟨gN,j*7+5,none⟩=false:=H.out.frozenRow 4 rfl (j*7+5);obtain⟨u76,hu6⟩:=HGET.out 6 (by omega);have z6:wc.cell? ⟨gN,j*7+6,none⟩=some u76:=H.out.cellRow 4 rfl hu6;have fz6:wc.frozen? ⟨gN,j*7+6,none⟩=false:=H.out.frozenRow 4 rfl (j*7+6);have h8:=(((((((H.out.setRow 4 rfl (j*7) (.int .i64 nd.op)).setRow 4 rfl (j*7+1) (.slice X1 ns x1)).setRow 4 rfl (j*7+2) (.slice X2 nD x2)).setRow 4 rfl (j*7+3) (.slice X3 ne x3)).setRow 4 rfl (j*7+4) (.int .i64 nd.n)).setRow 4 rfl (j*7+5) (.int .i64 nd.how)).setRow 4 rfl (j*7+6) (.string nd.note));clear hu0 hu1 hu2 hu3 hu4 hu5 hu6
    go_upto_region 9 with fail
    generalize (((((((wc.setCell ⟨gN,j*7,none⟩ (.int .i64 nd.op)).setCell ⟨gN,j*7+1,none⟩ (.slice X1 ns x1)).setCell ⟨gN,j*7+2,none⟩ (.slice X2 nD x2)).setCell ⟨gN,j*7+3,none⟩ (.slice X3 ne x3)).setCell ⟨gN,j*7+4,none⟩ (.int .i64 nd.n)).setCell ⟨gN,j*7+5,none⟩ (.int .i64 nd.how)).setCell ⟨gN,j*7+6,none⟩ (.string nd.note))=w8 at *;have h9:Sep w w8 (.own 3 (.slice X3 ne x3) ne nd.a::.own 3 (.slice X2 nD x2) nD nd.shape::.own 3 (.slice X1 ns x1) ns nd.ins::.box gn 34 [.int .i64 nd.op,.slice X1 ns x1,.slice X2 nD x2,.slice X3 ne x3,.int .i64 nd.n,.int .i64 nd.how,.string nd.note]::.row 34 7 (.slice (some ⟨gN,0,none⟩) nb nb) nb (set7 us (j*7) (.int .i64 nd.op) (.slice X1 ns x1) (.slice X2 nD x2) (.slice X3 ne x3) (.int .i64 nd.n) (.int .i64 nd.how) (.string nd.note))::.own 3 (.slice C1 nc cc1) nc G.outs::.own 3 (.slice A1 na ca1) na G.sizes::.box gc 25 [.slice A1 na ca1,.string G.names,.slice (some ⟨gN,0,none⟩) nb nb,.slice C1 nc cc1]::.box (g1+1) 25 [.slice none 0 0,.string ⟨#[]⟩,.slice none 0 0,.slice none 0 0]::.box g1 25 [.slice A na ca,.string G.names,.slice (some la) nb cb,.slice C nc cc]::pool):=h8;clear h8 b2 n0 n1 n2 n3 n4 n5 n6 z0 z1 z2 z3 z4 z5 z6 fz0 fz1 fz2 fz3 fz4 fz5 fz6;have h10:=Sep.tail_ (Sep.perm h9 (l' := [.box gn 34 [.int .i64 nd.op,.slice X1 ns x1,.slice X2 nD x2,.slice X3 ne x3,.int .i64 nd.n,.int .i64 nd.how,.string nd.note],.row 34 7 (.slice (some ⟨gN,0,none⟩) nb nb) nb (set7 us (j*7) (.int .i64 nd.op) (.slice X1 ns x1) (.slice X2 nD x2) (.slice X3 ne x3) (.int .i64 nd.n) (.int .i64 nd.how) (.string nd.note)),.own 3 (.slice C1 nc cc1) nc G.outs,.own 3 (.slice A1 na ca1) na G.sizes,.box gc 25 [.slice A1 na ca1,.string G.names,.slice (some ⟨gN,0,none⟩) nb nb,.slice C1 nc cc1],.box (g1+1) 25 [.slice none 0 0,.string ⟨#[]⟩,.slice none 0 0,.slice none 0 0],.box g1 25 [.slice A na ca,.string G.names,.slice (some la) nb cb,.slice C nc cc]]++([.own 3 (.slice X3 ne x3) ne nd.a,.own 3 (.slice X2 nD x2) nD nd.shape,.own 3 (.slice X1 ns x1) ns nd.ins]++pool)) (by rw[← List.append_assoc];exact(List.perm_append_comm (l₁ := [.own 3 (.slice X3 ne x3) ne nd.a,.own 3 (.slice X2 nD x2) nD nd.shape,.own 3 (.slice X1 ns x1) ns nd.ins]) (l₂ := [_,_,_,_,_,_,_])).append_right pool));have H10:=Hd h10
    have HP2:=Hd (show PoolN ((set7 us (j*7) (.int .i64 nd.op) (.slice X1 ns x1) (.slice X2 nD x2) (.slice X3 ne x3) (.int .i64 nd.n) (.int .i64 nd.how) (.string nd.note)).take ((j+1)*7)) (G.nodes.take (j+1)) (.own 3 (.slice X3 ne x3) ne nd.a::.own 3 (.slice X2 nD x2) nD nd.shape::.own 3 (.slice X1 ns x1) ns nd.ins::pool) by
     rw[show(j+1)*7=j*7+7 by omega,set7_take (by have:=HUL.out;omega),List.take_add_one,HND.out]
     exact HP.out.shift.shift.shift.snoc (p:=2) (q:=1) (r:=0) rfl rfl rfl HNL.out.op HNL.out.n HNL.out.how HNL.out.note)
    clear h9 h10;go_wp2;go_roundw
    case rel=>exact⟨j+1,_,_,by go_num,by omega,by rw[set7_length];exact HUL.out,HP2.out,H10.out⟩
    case measure=>simp[intOf];omega
  ·obtain rfl:j=nb:=by omega
   have hP9:=HP.out;rw[List.take_of_length_le (by have:=HUL.out;omega),List.take_of_length_le (by have:=HBL.out;omega)] at hP9;have HP9:=Hd hP9;clear hP9;obtain⟨b0,b1,b2,b3⟩:=H.out.cells4 3 rfl;obtain ⟨r0,r1,r2,r3⟩:=H.out.z4 4 rfl;obtain ⟨fr0,fr1,fr2,fr3⟩:=H.out.f4 4 rfl;go_wp2;have h9:=(((H.out.setBox 4 0 (.slice A1 na ca1) rfl).setBox 4 1 (.string G.names) rfl).setBox 4 2 (.slice (some ⟨gN,0,none⟩) j j) rfl).setBox 4 3 (.slice C1 nc cc1) rfl;have HH:=Hd h9;refine ret_graph (v0:=.slice A1 na ca1) (v1:=.string G.names) (v2:=.slice (some ⟨gN,0,none⟩) j j) (v3:=.slice C1 nc cc1) HH.out 4 rfl Tryz.results25 rfl rfl ?_;have hf:Sep w _ _:=HH.out;exact⟨A1,na,ca1,_,j,j,C1,nc,cc1,us,pool,rfl,HP9.out,HBL.out,Sep.ofPerm hf⟩
end Go.Proofs.YtnnmplkgenhofaaGreat
