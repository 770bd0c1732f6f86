import Derived.Test.YtnnmplkgenhofaaPbv
namespace Go.Proofs.Ytnnmplkgenhofaa
open Go.RowKit
theorem Lils.take {w:World} {A:Option Addr} {n:Nat} {L:List (List Int)} (h:Lils w A n L) {k:Nat} (hk:k≤n):Lils w A k (L.take k) :=
 ⟨by rw [List.length_take,h.1];omega,by have:=h.2.1;omega,fun j x hx=>by
  have hj:j<k:=by have:=(List.getElem?_eq_some_iff.1 hx).1;rw [List.length_take] at this;omega
  rw [List.getElem?_take,if_pos hj] at hx
  exact h.2.2 j x hx⟩
theorem Sep.litRow {w0 w:World} {l:List Chunk} (h:Sep w0 w l) (vs:List Value) (n g:Nat) (hg:w.heap.size=g) (hl:vs.length=n*7) (hn:n≤1000):Sep w0 (w.alloc (.cells vs.toArray 32)) (.row 32 7 (.slice (some ⟨g,0,none⟩) n n) n vs::l):=by
 subst hg
 refine h.pushNew (h.below ((Below.refl _ _).alloc (Nat.le_refl _) _)) ?_ fun k hk=>by
  have hk:some w.heap.size=some k:=hk;injection hk with hk;omega
 have:=World.ownsRow_lit w (base:=w0.heap.size) (e:=32) (size:=7) vs.toArray n h.size (by unfold maxLen;omega) (by simpa using hl);have h2:(w.alloc (.cells vs.toArray 32)).ownsRow w0.heap.size 32 7 (.slice (some ⟨w.heap.size,0,none⟩) n n) n vs:=by simpa using this
 exact h2
set_option maxRecDepth 100000 in
set_option maxHeartbeats 6400000 in
theorem made10_walk {w:World} {A0:Option Addr} {n0 c0:Nat} {xs:List Int} (hI:Ints w A0 n0 xs) :
  Calls Try.prog 3 #[.slice A0 n0 c0] w fun e w' => e=.returned (.bool true)∧Below w.heap.size w w' := by
 have C1:=graph_k (c:=c0) hI;have hS1:=shapesR_graph xs;have hSM:=shapes_made xs;have hSB:=shapes_bad xs;have hF1:=few_graph xs;have hFM:=few_made xs;have hFB:=few_bad xs;obtain ⟨G,hGd⟩:∃ G,kGraph xs=G:=⟨_,rfl⟩;obtain ⟨L,hLd⟩:∃ L,(kBody xs).shapes=L:=⟨_,rfl⟩;rw [hGd] at C1 hS1 hSM hSB hF1 hFM hFB;rw [hLd] at hS1 hSM;clear hGd hLd hI;obtain ⟨hS1,hLl⟩:=hS1
 go_enter Try.func3,Try.ntmps3
 go_wp2_with fail
 refine C1.mono ?_;rintro e1 w1 ⟨⟨v,rfl,hG⟩,hb0⟩;have HG:=Hd hG;have HB0:=Hd hb0;obtain ⟨A,na,ca,B,nb,cb,C,nc,cc,rfl,hL⟩:=hG;obtain ⟨vs,hK,hC⟩:=nods_c hL.inB;have hnb:=hL.inB.1;have hLl2:L.length=nb:=by omega
 have hnb9:nb≤20:=by have:=hF1.nodes;omega
 have hnc9:nc≤20:=by have:=hL.inC.len;have:=hF1.outs;omega
 rw [hnb] at hSM hFM;have HK:=Hd hK;have HC:=Hd hC;have HNB:=Hd hnb;have HL:=Hd hL;have HLL:=Hd hLl2;have HS1:=Hd hS1;have HSM:=Hd hSM;have HSB:=Hd hSB;have HF1:=Hd hF1;have HFM:=Hd hFM;have HFB:=Hd hFB;clear C1 hb0 hK hC hnb hL hLl2 hS1 hSM hSB hF1 hFM hFB hLl;have h1:=(Sep.nil w1).allocBox w1.heap.size 25 [.slice A na ca,.string G.names,.slice B nb cb,.slice C nc cc] rfl
 go_upto_region 2 with fail
 generalize w1.alloc (.cells #[.slice A na ca,.string G.names,.slice B nb cb,.slice C nc cc] 25)=w2 at *;have H:=Hd h1;clear h1;obtain ⟨g0,g1,g2,g3⟩:=H.out.cells4 0 rfl;have CC:=gShapes_any (HG.out.below H.out.base) (fun j nd hj=>Nat.le_trans (HF1.out.small j nd hj) (by omega));rw [HS1.out] at CC
 go_wp2_with fail
 refine CC.mono ?_;rintro e2 w3 ⟨⟨A2,m2,c2,rfl,hc2,hL2⟩,hb2⟩;obtain rfl:m2=nb:=by have:=hL2.1;have:=HLL.out;omega
 replace H:=Hd (H.out.below hb2);have HL2:=Hd hL2;clear CC hb2 hL2 g0 g1 g2 g3;have HB1:=Hd H.out.base;have hgb:w1.heap.size<w3.heap.size:=(H.out.blockLt 0 rfl).2;have HQ0:Hid (w3.cell? ⟨w1.heap.size,0,none⟩=some (.slice A na ca)):=Hd (H.out.cell 0 0 rfl rfl);have HQ1:Hid (w3.cell? ⟨w1.heap.size,1,none⟩=some (.string G.names)):=Hd (H.out.cell 0 1 rfl rfl);have HQ2:Hid (w3.cell? ⟨w1.heap.size,2,none⟩=some (.slice B m2 cb)):=Hd (H.out.cell 0 2 rfl rfl);have HQ3:Hid (w3.cell? ⟨w1.heap.size,3,none⟩=some (.slice C nc cc)):=Hd (H.out.cell 0 3 rfl rfl);have HG3:=Hd (HG.out.below HB1.out);have HK3:=Hd (HK.out.below HB1.out);have HC3:=Hd (HC.out.below HB1.out);have HL3:=Hd (HL.out.below HB1.out);obtain ⟨gb,hgbe⟩:∃ gb,w1.heap.size=gb:=⟨_,rfl⟩;rw [hgbe] at hgb HQ0 HQ1 HQ2 HQ3 ⊢;have HGB:=Hd hgb;clear hgb hgbe H;have g0:=HQ0.out;have g1:=HQ1.out;have g2:=HQ2.out;have g3:=HQ3.out;have dn:((m2:Int) != (m2:Int))=false:=by simp
 have h4:=(Sep.nil w3).allocBox w3.heap.size 25 [.slice A na ca,.string G.names,.slice B m2 cb,.slice C nc cc] rfl
 go_upto_region 6 with fail
 generalize w3.alloc (.cells #[.slice A na ca,.string G.names,.slice B m2 cb,.slice C nc cc] 25)=w4 at *;have H:=Hd h4;clear h4 g0 g1 g2 g3;have HE:=Hd H.out.emptyRow;have g0:=HE.out.oldCell HGB.out HQ0.out;have g1:=HE.out.oldCell HGB.out HQ1.out;have g2:=HE.out.oldCell HGB.out HQ2.out;have g3:=HE.out.oldCell HGB.out HQ3.out
 go_wp2_with (at_builtin;refine wpList_append_nods rfl _ _ 23 rfl Try.underlying23 HE.out 0 rfl rfl rfl (HC3.out.below HE.out.base) (by omega) ?_)
 intro v5 w5 h5;have H5:=Hd h5;clear h5 g0 g1 g2 g3
 go_wp2_with (at_builtin;refine wpList_append_nod rfl (.tmp 31) (.tmp 33) 23 rfl Try.underlying23 H5.out 0 rfl rfl _ rfl rfl rfl rfl rfl rfl rfl rfl ?c1 ?_)
 case c1=>omega
 intro v6 w6 h6;obtain ⟨gN,c6,hv,hc6⟩:=h6.rowForm 0 rfl (by omega);subst hv;have H6:=Hd h6;clear h6;obtain ⟨k0,k1,k2,k3⟩:=H6.out.cells4 1 rfl;have fk0:=H6.out.frozenBox 1 0 rfl;have fk1:=H6.out.frozenBox 1 1 rfl;have fk2:=H6.out.frozenBox 1 2 rfl;have fk3:=H6.out.frozenBox 1 3 rfl;have h7:=H6.out.setBox 1 2 (.slice (some ⟨gN,0,none⟩) (m2+1) c6) rfl
 go_upto_region 7 with fail
 generalize w6.setCell ⟨w3.heap.size,2,none⟩ (.slice (some ⟨gN,0,none⟩) (m2+1) c6)=w7 at *;replace H:=Hd (show Sep w3 w7 [.row 32 7 (.slice (some ⟨gN,0,none⟩) (m2+1) c6) (m2+1) (vs++[.int .i64 2,.slice none 0 0,.slice none 0 0,.slice none 0 0,.int .i64 5,.int .i64 0,.string ⟨#[]⟩]),.box w3.heap.size 25 [.slice A na ca,.string G.names,.slice (some ⟨gN,0,none⟩) (m2+1) c6,.slice C nc cc]] from h7);clear h7 H6 H5 HE k0 k1 k2 k3 fk0 fk1 fk2 fk3;have HD:=Hd H.out.drew;have g0:=HD.out.oldCell HGB.out HQ0.out;have g1:=HD.out.oldCell HGB.out HQ1.out;have g2:=HD.out.oldCell HGB.out HQ2.out;have g3:=HD.out.oldCell HGB.out HQ3.out;refine wp_region_held_drew (S:=(fun w' => w'.cell? ⟨gb,2,none⟩=some (.slice B m2 cb)∧w'.cell? ⟨gb,3,none⟩=some (.slice C nc cc))) (by kernel_rfl) ?_ (fun hq_ => ?_)
 ·exact ⟨g2,g3⟩
 refine tW 1 hq_ ?_ ?_ ?_;rotate_left;focus (rintro wq ⟨s0,s1⟩;go_simp;try with_reducible rfl)
 try simp only [Act.put,pS2,pS3,pS4]
 refine tW 2 hq_ ?_ ?_ ?_;rotate_left;focus (rintro wq ⟨s0,s1⟩;go_simp;try with_reducible rfl)
 try simp only [Act.put,pS2,pS3,pS4]
 refine tW 4 hq_ ?_ ?_ ?_;rotate_left;focus (rintro wq ⟨s0,s1⟩;go_simp;try with_reducible rfl)
 try simp only [Act.put,pS2,pS3,pS4]
 refine tW 5 hq_ ?_ ?_ ?_;rotate_left;focus (rintro wq ⟨s0,s1⟩;go_simp;try with_reducible rfl)
 try simp only [Act.put,pS2,pS3,pS4]
 refine tW 6 hq_ ?_ ?_ ?_;rotate_left;focus (rintro wq ⟨s0,s1⟩;go_simp;try with_reducible rfl)
 try simp only [Act.put,pS2,pS3,pS4]
 refine rD [0,7] (aC (fun K hK => ?_) (aC (fun K hK => ?_) AllReadyH.nil))
 ·(have K0:=Hd (((H.out).emptyAt 3 (w7.heap.size) (by simp)).drew);have q0a:=K0.out.oldCell HGB.out HQ2.out;have q0b:=K0.out.oldCell HGB.out HQ3.out)
  go_simp
  try go_wp2_with fail
  refine hK.out _ _ ?_ (fun h2q => ?_)
  ·first | with_reducible assumption | (exact ⟨q0a,q0b⟩) | assumption
  clear hK K hq_;have hq_:=h2q;clear h2q
  try simp only [Act.put,pS2,pS3,pS4]
  refine rD [3,7] (aC (fun K hK => ?_) (aC (fun K hK => ?_) AllReadyH.nil))
  ·(refine step_appends_sep rfl (.tmp 36) (.tmp 38) 22 3 rfl Try.underlying22 Try.infoInt K0.out 0 rfl rfl C nc cc G.outs rfl ((HL3.out.below K0.out.base).inC) ?_ ?_;(focus omega);intro vv x1 h1;rw [Nat.zero_add,List.nil_append] at h1;have K1:=Hd h1;clear h1;have q1a:=K1.out.oldCell HGB.out HQ2.out;have q1b:=K1.out.oldCell HGB.out HQ3.out)
   refine hK.out _ _ ?_ (fun h2q => ?_)
   ·first | with_reducible assumption | (exact ⟨q1a,q1b⟩) | assumption
   clear hK K hq_;have hq_:=h2q;clear h2q
   try simp only [Act.put,pS2,pS3,pS4]
   refine e1 7 fun K hK => ?_
   (have K2:=Hd (K1.out.lit 3 #[.int .i64 (m2:Int)] [(m2:Int)] 1 (x1.heap.size) rfl rfl (by simp [litOk];omega));have q2a:=K2.out.oldCell HGB.out HQ2.out;have q2b:=K2.out.oldCell HGB.out HQ3.out)
   go_simp
   try go_wp2_with fail
   refine hK.out _ _ ?_ (fun h2q => ?_)
   ·first | with_reducible assumption | (exact ⟨q2a,q2b⟩) | assumption
   clear hK K hq_;have hq_:=h2q;clear h2q
   try simp only [Act.put,pS2,pS3,pS4]
   refine e1 8 fun K hK => ?_
   (refine step_appends_sep rfl (.tmp 39) (.tmp 43) 22 3 rfl Try.underlying22 Try.infoInt K2.out 1 rfl rfl _ 1 1 [(m2:Int)] rfl ((K2.out.ownInts 0 rfl).2.2) ?_ ?_;(focus omega);intro vv x8 h3;obtain ⟨Ao,co,hv,hco,_,_⟩:=(h3.ownS 1 rfl).form;subst hv;have K3:=Hd h3;clear h3;have q3a:=K3.out.oldCell HGB.out HQ2.out;have q3b:=K3.out.oldCell HGB.out HQ3.out)
   refine hK.out _ _ ?_ (fun h2q => ?_)
   ·first | with_reducible assumption | (exact ⟨q3a,q3b⟩) | assumption
   clear hK K hq_;have hq_:=h2q;clear h2q
   try simp only [Act.put,pS2,pS3,pS4]
   refine tW 9 hq_ ?_ ?_ ?_;rotate_left;focus (rintro wq ⟨s0,s1⟩;go_simp;try with_reducible rfl)
   try simp only [Act.put,pS2,pS3,pS4]
   refine e1 10 fun K hK => ?_
   (have fz:=K3.out.frozenBox 3 3 rfl;have cz:=K3.out.cell 3 3 rfl rfl;have hs9:=K3.out.setBox 3 3 (.slice Ao (nc+1) co) rfl;have HS:=Hd (hs9.sub (l' := .own 3 (.slice Ao (nc+1) co) (nc+1) (G.outs++[(m2:Int)])::[.row 32 7 (.slice (some ⟨gN,0,none⟩) (m2+1) c6) (m2+1) (vs++[.int .i64 2,.slice none 0 0,.slice none 0 0,.slice none 0 0,.int .i64 5,.int .i64 0,.string ⟨#[]⟩]),.box w3.heap.size 25 [.slice A na ca,.string G.names,.slice (some ⟨gN,0,none⟩) (m2+1) c6,.slice Ao (nc+1) co]]) [1,2,3] rfl (by decide));clear hs9;have qza:=HS.out.oldCell HGB.out HQ2.out;have qzb:=HS.out.oldCell HGB.out HQ3.out)
   go_simp
   try go_wp2_with fail
   refine hK.out _ _ ?_ (fun h2q => ?_)
   ·first | with_reducible assumption | (exact ⟨qza,qzb⟩) | assumption
   clear hK K hq_;have hq_:=h2q;clear h2q
   try simp only [Act.put,pS2,pS3,pS4]
   refine wpAnyH_done (by kernel_rfl) ?_ _;replace H:=HS;clear HS HD g0 g1 g2 g3
   go_upto_region 8 with fail
   generalize x8.setCell ⟨w3.heap.size,3,none⟩ (.slice Ao (nc+1) co)=w9 at *
   have hNn:Nods w9 (some ⟨gN,0,none⟩) (m2+1) (G.nodes++[ndFill]):=by
    obtain ⟨A8,c8,hv,_,h⟩:=row_nods 1 H.out rfl ((HK3.out.below H.out.base).append (nodK_one (nd:=ndFill) (A:=none) (na:=0) (ca:=0) (B:=none) (nb:=0) (cb:=0) (C:=none) (nc:=0) (cc:=0) ⟨Nat.le_refl _,Nat.le_refl _,Nat.le_refl _,Ints.nil_ _ _,Ints.nil_ _ _,Ints.nil_ _ _,fits_lit (by decide) (by decide),fits_lit (by decide) (by decide),fits0,by show 0≤_;omega⟩)) (by rw [List.length_append,List.length_singleton,HNB.out]) (by omega);injection hv with q1 _ _
    rw [q1];exact h
   have hGW:GraphIs w9 (.agg #[.slice A na ca,.string G.names,.slice (some ⟨gN,0,none⟩) (m2+1) c6,.slice Ao (nc+1) co]) ⟨G.sizes,G.names,G.nodes++[ndFill],G.outs++[(m2:Int)]⟩:=⟨_,_,_,_,_,_,_,_,_,rfl,⟨(HL3.out.ia),hc6,hco,(HL3.out.below H.out.base).inA,hNn,(H.out.ownInts 0 rfl).2.2,HL3.out.names⟩⟩;have CC:=gShapes_any hGW (fun j nd hj=>Nat.le_trans (HFM.out.small j nd hj) (by omega));rw [HSM.out] at CC;clear hNn hGW;obtain ⟨k0,k1,k2,k3⟩:=H.out.cells4 2 rfl
   go_wp2_with fail
   refine CC.mono ?_;rintro e9 w10 ⟨⟨A8,m8,c8,rfl,hc8,hL8⟩,hb9⟩;have hm8:m8=m2+1:=by have:=hL8.1;rw [List.length_append,List.length_singleton,HLL.out] at this;omega
   subst hm8;have HB3:=Hd (H.out.base.trans (hb9.mono H.out.size));have HL8:=Hd hL8;have HL2b:=Hd (HL2.out.below HB3.out);have HK10:=Hd (HK3.out.below HB3.out);have HC10:=Hd (HC3.out.below HB3.out);have HL10:=Hd (HL3.out.below HB3.out);have HP0:=Hd (HB3.out.cell HGB.out |>.trans HQ0.out);have HP1:=Hd (HB3.out.cell HGB.out |>.trans HQ1.out);have HP2:=Hd (HB3.out.cell HGB.out |>.trans HQ2.out);have HP3:=Hd (HB3.out.cell HGB.out |>.trans HQ3.out);have HGB10:=Hd (Nat.lt_of_lt_of_le HGB.out HB3.out.size);clear CC hb9 hL8 H k0 k1 k2 k3;have g0:=HP0.out;have g1:=HP1.out;have g2:=HP2.out;have g3:=HP3.out;have h11:=(Sep.nil w10).allocBox w10.heap.size 25 [.slice A na ca,.string G.names,.slice B m2 cb,.slice C nc cc] rfl
   go_upto_region 10 with fail
   generalize w10.alloc (.cells #[.slice A na ca,.string G.names,.slice B m2 cb,.slice C nc cc] 25)=w11 at *;have H:=Hd h11;clear h11 g0 g1 g2 g3;have HE:=Hd ((H.out.lit 3 #[.int .i64 0] [0] 1 w11.heap.size rfl rfl rfl).litRow [.int .i64 5,.slice (some ⟨w11.heap.size,0,none⟩) 1 1,.slice none 0 0,.slice none 0 0,.int .i64 0,.int .i64 0,.string ⟨#[]⟩] 1 (w11.heap.size+1) (by simp) rfl (by omega));have g0:=HE.out.oldCell HGB10.out HP0.out;have g1:=HE.out.oldCell HGB10.out HP1.out;have g2:=HE.out.oldCell HGB10.out HP2.out;have g3:=HE.out.oldCell HGB10.out HP3.out
   go_wp2_with (at_builtin;refine wpList_append_nods rfl _ _ 23 rfl Try.underlying23 HE.out 0 rfl rfl rfl (HC10.out.below HE.out.base) (by omega) ?_)
   intro v12 w12 h12;obtain ⟨gM,c12,hv,hc12⟩:=h12.rowForm 0 rfl (by omega);subst hv;have H12:=Hd h12;clear h12 g0 g1 g2 g3;obtain ⟨k0,k1,k2,k3⟩:=H12.out.cells4 2 rfl;have fk0:=H12.out.frozenBox 2 0 rfl;have fk1:=H12.out.frozenBox 2 1 rfl;have fk2:=H12.out.frozenBox 2 2 rfl;have fk3:=H12.out.frozenBox 2 3 rfl;have h13:=H12.out.setBox 2 2 (.slice (some ⟨gM,0,none⟩) (1+m2) c12) rfl
   go_upto_region 11 with fail
   generalize w12.setCell ⟨w10.heap.size,2,none⟩ (.slice (some ⟨gM,0,none⟩) (1+m2) c12)=w13 at *;replace H:=Hd (show Sep w10 w13 [.row 32 7 (.slice (some ⟨gM,0,none⟩) (1+m2) c12) (1+m2) ([.int .i64 5,.slice (some ⟨w11.heap.size,0,none⟩) 1 1,.slice none 0 0,.slice none 0 0,.int .i64 0,.int .i64 0,.string ⟨#[]⟩]++vs),.own 3 (.slice (some ⟨w11.heap.size,0,none⟩) 1 1) 1 [0],.box w10.heap.size 25 [.slice A na ca,.string G.names,.slice (some ⟨gM,0,none⟩) (1+m2) c12,.slice C nc cc]] from h13);clear h13 H12 HE k0 k1 k2 k3 fk0 fk1 fk2 fk3
   have hNn:Nods w13 (some ⟨gM,0,none⟩) (1+m2) (ndNot::G.nodes):=by
    obtain ⟨A8,c8,hv,_,h⟩:=row_nods 0 H.out rfl ((nodK_one (nd:=ndNot) (A:=some ⟨w11.heap.size,0,none⟩) (na:=1) (ca:=1) (B:=none) (nb:=0) (cb:=0) (C:=none) (nc:=0) (cc:=0) ⟨Nat.le_refl _,Nat.le_refl _,Nat.le_refl _,(H.out.ownInts 1 rfl).2.2,Ints.nil_ _ _,Ints.nil_ _ _,fits_lit (by decide) (by decide),fits0,fits0,by show 0≤_;omega⟩).append (HK10.out.below H.out.base)) (by show (ndNot::G.nodes).length=_;rw [List.length_cons,HNB.out];omega) (by omega);injection hv with q1 _ _
    rw [q1];exact h
   have hGB:GraphIs w13 (.agg #[.slice A na ca,.string G.names,.slice (some ⟨gM,0,none⟩) (1+m2) c12,.slice C nc cc]) ⟨G.sizes,G.names,ndNot::G.nodes,G.outs⟩:=⟨_,_,_,_,_,_,_,_,_,rfl,⟨(HL10.out.ia),hc12,HL10.out.ic,(HL10.out.below H.out.base).inA,hNn,(HL10.out.below H.out.base).inC,HL10.out.names⟩⟩;have HGBad:=Hd hGB;clear hNn hGB;have ke:(((m2+1:Nat):Int)==(m2:Int)+1)=true:=by simp
   have hle:m2≤m2+1:=by omega
   have hcap:m2≤c8:=by omega
   obtain ⟨a8,B9,m9,c9,hA8,hab8,hc9a,hmc9,hI9⟩:=(HL8.out.below H.out.base).2.2 m2 [] (by rw [List.getElem?_append_right (by rw [HLL.out];omega),HLL.out];simp);obtain rfl:m9=0:=hI9.len.symm;subst hA8;have CR:=rows_eq (w:=w13) (c:=c8) (d:=c2) (by have:=((HL8.out.below H.out.base).take (k:=m2) (by omega));rw [List.take_left' HLL.out] at this;exact this) (HL2b.out.below H.out.base);have HCR:=Hd CR;have HC9:=Hd hc9a;have HAB8:=Hd hab8;clear CR hc9a hab8 hI9
   go_wp2_with fail
   refine HCR.out.mono ?_;rintro e14 w14 ⟨rfl,q14,hw14⟩;have H14:=Hd (H.out.drewN q14);rw [← hw14] at H14;have c9x:w14.cell? (a8.add m2)=some (.slice B9 0 c9):=by rw [hw14];exact HC9.out
   have HGB14:Hid (GraphIs w14 (.agg #[.slice A na ca,.string G.names,.slice (some ⟨gM,0,none⟩) (1+m2) c12,.slice C nc cc]) ⟨G.sizes,G.names,ndNot::G.nodes,G.outs⟩):=Hd (by rw [hw14];exact HGBad.out.below (below_drewN (Below.refl _ _) q14));clear hw14 HCR;have CC:=gRight_any HGB14.out (fun j nd hj=>Nat.le_trans (HFB.out.small j nd hj) (by omega));rw [HSB.out] at CC;obtain ⟨k0,k1,k2,k3⟩:=H14.out.cells4 2 rfl
   go_wp2_with fail
   refine CC.mono ?_;rintro e15 w15 ⟨rfl,hb15⟩;have H15:=Hd (H14.out.below hb15);clear CC hb15 c9x k0 k1 k2 k3
   go_wp2_with fail
   refine (l10known_any w15).mono ?_;rintro e16 w16 ⟨rfl,hb16⟩;have H16:=Hd (H15.out.below hb16);go_wp2;go_ret;exact ⟨by trivial,then_ HB0.out (then_ HB1.out (then_ HB3.out H16.out.base))⟩
  ·(have K1:=Hd ((((H.out).emptyAt 3 (w7.heap.size) (by simp)).lit 3 #[.int .i64 (m2:Int)] [(m2:Int)] 1 (w7.heap.size+1) (by simp) rfl (by simp [litOk];omega)).drew);have q1a:=K1.out.oldCell HGB.out HQ2.out;have q1b:=K1.out.oldCell HGB.out HQ3.out)
   go_simp
   try go_wp2_with fail
   refine hK.out _ _ ?_ (fun h2q => ?_)
   ·first | with_reducible assumption | (exact ⟨q1a,q1b⟩) | assumption
   clear hK K hq_;have hq_:=h2q;clear h2q
   try simp only [Act.put,pS2,pS3,pS4]
   refine e1 3 fun K hK => ?_
   (refine step_appends_sep rfl (.tmp 36) (.tmp 38) 22 3 rfl Try.underlying22 Try.infoInt K1.out 1 rfl rfl C nc cc G.outs rfl ((HL3.out.below K1.out.base).inC) ?_ ?_;(focus omega);intro vv x2 h2;rw [Nat.zero_add,List.nil_append] at h2;have K2:=Hd h2;clear h2;have q2a:=K2.out.oldCell HGB.out HQ2.out;have q2b:=K2.out.oldCell HGB.out HQ3.out)
   refine hK.out _ _ ?_ (fun h2q => ?_)
   ·first | with_reducible assumption | (exact ⟨q2a,q2b⟩) | assumption
   clear hK K hq_;have hq_:=h2q;clear h2q
   try simp only [Act.put,pS2,pS3,pS4]
   refine e1 8 fun K hK => ?_
   (refine step_appends_sep rfl (.tmp 39) (.tmp 43) 22 3 rfl Try.underlying22 Try.infoInt K2.out 1 rfl rfl _ 1 1 [(m2:Int)] rfl ((K2.out.ownInts 0 rfl).2.2) ?_ ?_;(focus omega);intro vv x8 h3;obtain ⟨Ao,co,hv,hco,_,_⟩:=(h3.ownS 1 rfl).form;subst hv;have K3:=Hd h3;clear h3;have q3a:=K3.out.oldCell HGB.out HQ2.out;have q3b:=K3.out.oldCell HGB.out HQ3.out)
   refine hK.out _ _ ?_ (fun h2q => ?_)
   ·first | with_reducible assumption | (exact ⟨q3a,q3b⟩) | assumption
   clear hK K hq_;have hq_:=h2q;clear h2q
   try simp only [Act.put,pS2,pS3,pS4]
   refine tW 9 hq_ ?_ ?_ ?_;rotate_left;focus (rintro wq ⟨s0,s1⟩;go_simp;try with_reducible rfl)
   try simp only [Act.put,pS2,pS3,pS4]
   refine e1 10 fun K hK => ?_
   (have fz:=K3.out.frozenBox 3 3 rfl;have cz:=K3.out.cell 3 3 rfl rfl;have hs9:=K3.out.setBox 3 3 (.slice Ao (nc+1) co) rfl;have HS:=Hd (hs9.sub (l' := .own 3 (.slice Ao (nc+1) co) (nc+1) (G.outs++[(m2:Int)])::[.row 32 7 (.slice (some ⟨gN,0,none⟩) (m2+1) c6) (m2+1) (vs++[.int .i64 2,.slice none 0 0,.slice none 0 0,.slice none 0 0,.int .i64 5,.int .i64 0,.string ⟨#[]⟩]),.box w3.heap.size 25 [.slice A na ca,.string G.names,.slice (some ⟨gN,0,none⟩) (m2+1) c6,.slice Ao (nc+1) co]]) [1,2,3] rfl (by decide));clear hs9;have qza:=HS.out.oldCell HGB.out HQ2.out;have qzb:=HS.out.oldCell HGB.out HQ3.out)
   go_simp
   try go_wp2_with fail
   refine hK.out _ _ ?_ (fun h2q => ?_)
   ·first | with_reducible assumption | (exact ⟨qza,qzb⟩) | assumption
   clear hK K hq_;have hq_:=h2q;clear h2q
   try simp only [Act.put,pS2,pS3,pS4]
   refine wpAnyH_done (by kernel_rfl) ?_ _;replace H:=HS;clear HS HD g0 g1 g2 g3
   go_upto_region 8 with fail
   generalize x8.setCell ⟨w3.heap.size,3,none⟩ (.slice Ao (nc+1) co)=w9 at *
   have hNn:Nods w9 (some ⟨gN,0,none⟩) (m2+1) (G.nodes++[ndFill]):=by
    obtain ⟨A8,c8,hv,_,h⟩:=row_nods 1 H.out rfl ((HK3.out.below H.out.base).append (nodK_one (nd:=ndFill) (A:=none) (na:=0) (ca:=0) (B:=none) (nb:=0) (cb:=0) (C:=none) (nc:=0) (cc:=0) ⟨Nat.le_refl _,Nat.le_refl _,Nat.le_refl _,Ints.nil_ _ _,Ints.nil_ _ _,Ints.nil_ _ _,fits_lit (by decide) (by decide),fits_lit (by decide) (by decide),fits0,by show 0≤_;omega⟩)) (by rw [List.length_append,List.length_singleton,HNB.out]) (by omega);injection hv with q1 _ _
    rw [q1];exact h
   have hGW:GraphIs w9 (.agg #[.slice A na ca,.string G.names,.slice (some ⟨gN,0,none⟩) (m2+1) c6,.slice Ao (nc+1) co]) ⟨G.sizes,G.names,G.nodes++[ndFill],G.outs++[(m2:Int)]⟩:=⟨_,_,_,_,_,_,_,_,_,rfl,⟨(HL3.out.ia),hc6,hco,(HL3.out.below H.out.base).inA,hNn,(H.out.ownInts 0 rfl).2.2,HL3.out.names⟩⟩;have CC:=gShapes_any hGW (fun j nd hj=>Nat.le_trans (HFM.out.small j nd hj) (by omega));rw [HSM.out] at CC;clear hNn hGW;obtain ⟨k0,k1,k2,k3⟩:=H.out.cells4 2 rfl
   go_wp2_with fail
   refine CC.mono ?_;rintro e9 w10 ⟨⟨A8,m8,c8,rfl,hc8,hL8⟩,hb9⟩;have hm8:m8=m2+1:=by have:=hL8.1;rw [List.length_append,List.length_singleton,HLL.out] at this;omega
   subst hm8;have HB3:=Hd (H.out.base.trans (hb9.mono H.out.size));have HL8:=Hd hL8;have HL2b:=Hd (HL2.out.below HB3.out);have HK10:=Hd (HK3.out.below HB3.out);have HC10:=Hd (HC3.out.below HB3.out);have HL10:=Hd (HL3.out.below HB3.out);have HP0:=Hd (HB3.out.cell HGB.out |>.trans HQ0.out);have HP1:=Hd (HB3.out.cell HGB.out |>.trans HQ1.out);have HP2:=Hd (HB3.out.cell HGB.out |>.trans HQ2.out);have HP3:=Hd (HB3.out.cell HGB.out |>.trans HQ3.out);have HGB10:=Hd (Nat.lt_of_lt_of_le HGB.out HB3.out.size);clear CC hb9 hL8 H k0 k1 k2 k3;have g0:=HP0.out;have g1:=HP1.out;have g2:=HP2.out;have g3:=HP3.out;have h11:=(Sep.nil w10).allocBox w10.heap.size 25 [.slice A na ca,.string G.names,.slice B m2 cb,.slice C nc cc] rfl
   go_upto_region 10 with fail
   generalize w10.alloc (.cells #[.slice A na ca,.string G.names,.slice B m2 cb,.slice C nc cc] 25)=w11 at *;have H:=Hd h11;clear h11 g0 g1 g2 g3;have HE:=Hd ((H.out.lit 3 #[.int .i64 0] [0] 1 w11.heap.size rfl rfl rfl).litRow [.int .i64 5,.slice (some ⟨w11.heap.size,0,none⟩) 1 1,.slice none 0 0,.slice none 0 0,.int .i64 0,.int .i64 0,.string ⟨#[]⟩] 1 (w11.heap.size+1) (by simp) rfl (by omega));have g0:=HE.out.oldCell HGB10.out HP0.out;have g1:=HE.out.oldCell HGB10.out HP1.out;have g2:=HE.out.oldCell HGB10.out HP2.out;have g3:=HE.out.oldCell HGB10.out HP3.out
   go_wp2_with (at_builtin;refine wpList_append_nods rfl _ _ 23 rfl Try.underlying23 HE.out 0 rfl rfl rfl (HC10.out.below HE.out.base) (by omega) ?_)
   intro v12 w12 h12;obtain ⟨gM,c12,hv,hc12⟩:=h12.rowForm 0 rfl (by omega);subst hv;have H12:=Hd h12;clear h12 g0 g1 g2 g3;obtain ⟨k0,k1,k2,k3⟩:=H12.out.cells4 2 rfl;have fk0:=H12.out.frozenBox 2 0 rfl;have fk1:=H12.out.frozenBox 2 1 rfl;have fk2:=H12.out.frozenBox 2 2 rfl;have fk3:=H12.out.frozenBox 2 3 rfl;have h13:=H12.out.setBox 2 2 (.slice (some ⟨gM,0,none⟩) (1+m2) c12) rfl
   go_upto_region 11 with fail
   generalize w12.setCell ⟨w10.heap.size,2,none⟩ (.slice (some ⟨gM,0,none⟩) (1+m2) c12)=w13 at *;replace H:=Hd (show Sep w10 w13 [.row 32 7 (.slice (some ⟨gM,0,none⟩) (1+m2) c12) (1+m2) ([.int .i64 5,.slice (some ⟨w11.heap.size,0,none⟩) 1 1,.slice none 0 0,.slice none 0 0,.int .i64 0,.int .i64 0,.string ⟨#[]⟩]++vs),.own 3 (.slice (some ⟨w11.heap.size,0,none⟩) 1 1) 1 [0],.box w10.heap.size 25 [.slice A na ca,.string G.names,.slice (some ⟨gM,0,none⟩) (1+m2) c12,.slice C nc cc]] from h13);clear h13 H12 HE k0 k1 k2 k3 fk0 fk1 fk2 fk3
   have hNn:Nods w13 (some ⟨gM,0,none⟩) (1+m2) (ndNot::G.nodes):=by
    obtain ⟨A8,c8,hv,_,h⟩:=row_nods 0 H.out rfl ((nodK_one (nd:=ndNot) (A:=some ⟨w11.heap.size,0,none⟩) (na:=1) (ca:=1) (B:=none) (nb:=0) (cb:=0) (C:=none) (nc:=0) (cc:=0) ⟨Nat.le_refl _,Nat.le_refl _,Nat.le_refl _,(H.out.ownInts 1 rfl).2.2,Ints.nil_ _ _,Ints.nil_ _ _,fits_lit (by decide) (by decide),fits0,fits0,by show 0≤_;omega⟩).append (HK10.out.below H.out.base)) (by show (ndNot::G.nodes).length=_;rw [List.length_cons,HNB.out];omega) (by omega);injection hv with q1 _ _
    rw [q1];exact h
   have hGB:GraphIs w13 (.agg #[.slice A na ca,.string G.names,.slice (some ⟨gM,0,none⟩) (1+m2) c12,.slice C nc cc]) ⟨G.sizes,G.names,ndNot::G.nodes,G.outs⟩:=⟨_,_,_,_,_,_,_,_,_,rfl,⟨(HL10.out.ia),hc12,HL10.out.ic,(HL10.out.below H.out.base).inA,hNn,(HL10.out.below H.out.base).inC,HL10.out.names⟩⟩;have HGBad:=Hd hGB;clear hNn hGB;have ke:(((m2+1:Nat):Int)==(m2:Int)+1)=true:=by simp
   have hle:m2≤m2+1:=by omega
   have hcap:m2≤c8:=by omega
   obtain ⟨a8,B9,m9,c9,hA8,hab8,hc9a,hmc9,hI9⟩:=(HL8.out.below H.out.base).2.2 m2 [] (by rw [List.getElem?_append_right (by rw [HLL.out];omega),HLL.out];simp);obtain rfl:m9=0:=hI9.len.symm;subst hA8;have CR:=rows_eq (w:=w13) (c:=c8) (d:=c2) (by have:=((HL8.out.below H.out.base).take (k:=m2) (by omega));rw [List.take_left' HLL.out] at this;exact this) (HL2b.out.below H.out.base);have HCR:=Hd CR;have HC9:=Hd hc9a;have HAB8:=Hd hab8;clear CR hc9a hab8 hI9
   go_wp2_with fail
   refine HCR.out.mono ?_;rintro e14 w14 ⟨rfl,q14,hw14⟩;have H14:=Hd (H.out.drewN q14);rw [← hw14] at H14;have c9x:w14.cell? (a8.add m2)=some (.slice B9 0 c9):=by rw [hw14];exact HC9.out
   have HGB14:Hid (GraphIs w14 (.agg #[.slice A na ca,.string G.names,.slice (some ⟨gM,0,none⟩) (1+m2) c12,.slice C nc cc]) ⟨G.sizes,G.names,ndNot::G.nodes,G.outs⟩):=Hd (by rw [hw14];exact HGBad.out.below (below_drewN (Below.refl _ _) q14));clear hw14 HCR;have CC:=gRight_any HGB14.out (fun j nd hj=>Nat.le_trans (HFB.out.small j nd hj) (by omega));rw [HSB.out] at CC;obtain ⟨k0,k1,k2,k3⟩:=H14.out.cells4 2 rfl
   go_wp2_with fail
   refine CC.mono ?_;rintro e15 w15 ⟨rfl,hb15⟩;have H15:=Hd (H14.out.below hb15);clear CC hb15 c9x k0 k1 k2 k3
   go_wp2_with fail
   refine (l10known_any w15).mono ?_;rintro e16 w16 ⟨rfl,hb16⟩;have H16:=Hd (H15.out.below hb16);go_wp2;go_ret;exact ⟨by trivial,then_ HB0.out (then_ HB1.out (then_ HB3.out H16.out.base))⟩
 ·(have K0:=Hd (((H.out).lit 3 #[.int .i64 (m2:Int)] [(m2:Int)] 1 (w7.heap.size) (by simp) rfl (by simp [litOk];omega)).drew);have q0a:=K0.out.oldCell HGB.out HQ2.out;have q0b:=K0.out.oldCell HGB.out HQ3.out)
  go_simp
  try go_wp2_with fail
  refine hK.out _ _ ?_ (fun h2q => ?_)
  ·first | with_reducible assumption | (exact ⟨q0a,q0b⟩) | assumption
  clear hK K hq_;have hq_:=h2q;clear h2q
  try simp only [Act.put,pS2,pS3,pS4]
  refine e1 0 fun K hK => ?_
  (have K1:=Hd ((((H.out).lit 3 #[.int .i64 (m2:Int)] [(m2:Int)] 1 (w7.heap.size) (by simp) rfl (by simp [litOk];omega)).emptyAt 3 (w7.heap.size+1) (by simp)).drew);have q1a:=K1.out.oldCell HGB.out HQ2.out;have q1b:=K1.out.oldCell HGB.out HQ3.out)
  go_simp
  try go_wp2_with fail
  refine hK.out _ _ ?_ (fun h2q => ?_)
  ·first | with_reducible assumption | (exact ⟨q1a,q1b⟩) | assumption
  clear hK K hq_;have hq_:=h2q;clear h2q
  try simp only [Act.put,pS2,pS3,pS4]
  refine e1 3 fun K hK => ?_
  (refine step_appends_sep rfl (.tmp 36) (.tmp 38) 22 3 rfl Try.underlying22 Try.infoInt K1.out 0 rfl rfl C nc cc G.outs rfl ((HL3.out.below K1.out.base).inC) ?_ ?_;(focus omega);intro vv x2 h2;rw [Nat.zero_add,List.nil_append] at h2;have K2:=Hd h2;clear h2;have q2a:=K2.out.oldCell HGB.out HQ2.out;have q2b:=K2.out.oldCell HGB.out HQ3.out)
  refine hK.out _ _ ?_ (fun h2q => ?_)
  ·first | with_reducible assumption | (exact ⟨q2a,q2b⟩) | assumption
  clear hK K hq_;have hq_:=h2q;clear h2q
  try simp only [Act.put,pS2,pS3,pS4]
  refine e1 8 fun K hK => ?_
  (refine step_appends_sep rfl (.tmp 39) (.tmp 43) 22 3 rfl Try.underlying22 Try.infoInt K2.out 0 rfl rfl _ 1 1 [(m2:Int)] rfl ((K2.out.ownInts 1 rfl).2.2) ?_ ?_;(focus omega);intro vv x8 h3;obtain ⟨Ao,co,hv,hco,_,_⟩:=(h3.ownS 0 rfl).form;subst hv;have K3:=Hd h3;clear h3;have q3a:=K3.out.oldCell HGB.out HQ2.out;have q3b:=K3.out.oldCell HGB.out HQ3.out)
  refine hK.out _ _ ?_ (fun h2q => ?_)
  ·first | with_reducible assumption | (exact ⟨q3a,q3b⟩) | assumption
  clear hK K hq_;have hq_:=h2q;clear h2q
  try simp only [Act.put,pS2,pS3,pS4]
  refine tW 9 hq_ ?_ ?_ ?_;rotate_left;focus (rintro wq ⟨s0,s1⟩;go_simp;try with_reducible rfl)
  try simp only [Act.put,pS2,pS3,pS4]
  refine e1 10 fun K hK => ?_
  (have fz:=K3.out.frozenBox 3 3 rfl;have cz:=K3.out.cell 3 3 rfl rfl;have hs9:=K3.out.setBox 3 3 (.slice Ao (nc+1) co) rfl;have HS:=Hd (hs9.sub (l' := .own 3 (.slice Ao (nc+1) co) (nc+1) (G.outs++[(m2:Int)])::[.row 32 7 (.slice (some ⟨gN,0,none⟩) (m2+1) c6) (m2+1) (vs++[.int .i64 2,.slice none 0 0,.slice none 0 0,.slice none 0 0,.int .i64 5,.int .i64 0,.string ⟨#[]⟩]),.box w3.heap.size 25 [.slice A na ca,.string G.names,.slice (some ⟨gN,0,none⟩) (m2+1) c6,.slice Ao (nc+1) co]]) [0,2,3] rfl (by decide));clear hs9;have qza:=HS.out.oldCell HGB.out HQ2.out;have qzb:=HS.out.oldCell HGB.out HQ3.out)
  go_simp
  try go_wp2_with fail
  refine hK.out _ _ ?_ (fun h2q => ?_)
  ·first | with_reducible assumption | (exact ⟨qza,qzb⟩) | assumption
  clear hK K hq_;have hq_:=h2q;clear h2q
  try simp only [Act.put,pS2,pS3,pS4]
  refine wpAnyH_done (by kernel_rfl) ?_ _;replace H:=HS;clear HS HD g0 g1 g2 g3
  go_upto_region 8 with fail
  generalize x8.setCell ⟨w3.heap.size,3,none⟩ (.slice Ao (nc+1) co)=w9 at *
  have hNn:Nods w9 (some ⟨gN,0,none⟩) (m2+1) (G.nodes++[ndFill]):=by
   obtain ⟨A8,c8,hv,_,h⟩:=row_nods 1 H.out rfl ((HK3.out.below H.out.base).append (nodK_one (nd:=ndFill) (A:=none) (na:=0) (ca:=0) (B:=none) (nb:=0) (cb:=0) (C:=none) (nc:=0) (cc:=0) ⟨Nat.le_refl _,Nat.le_refl _,Nat.le_refl _,Ints.nil_ _ _,Ints.nil_ _ _,Ints.nil_ _ _,fits_lit (by decide) (by decide),fits_lit (by decide) (by decide),fits0,by show 0≤_;omega⟩)) (by rw [List.length_append,List.length_singleton,HNB.out]) (by omega);injection hv with q1 _ _
   rw [q1];exact h
  have hGW:GraphIs w9 (.agg #[.slice A na ca,.string G.names,.slice (some ⟨gN,0,none⟩) (m2+1) c6,.slice Ao (nc+1) co]) ⟨G.sizes,G.names,G.nodes++[ndFill],G.outs++[(m2:Int)]⟩:=⟨_,_,_,_,_,_,_,_,_,rfl,⟨(HL3.out.ia),hc6,hco,(HL3.out.below H.out.base).inA,hNn,(H.out.ownInts 0 rfl).2.2,HL3.out.names⟩⟩;have CC:=gShapes_any hGW (fun j nd hj=>Nat.le_trans (HFM.out.small j nd hj) (by omega));rw [HSM.out] at CC;clear hNn hGW;obtain ⟨k0,k1,k2,k3⟩:=H.out.cells4 2 rfl
  go_wp2_with fail
  refine CC.mono ?_;rintro e9 w10 ⟨⟨A8,m8,c8,rfl,hc8,hL8⟩,hb9⟩;have hm8:m8=m2+1:=by have:=hL8.1;rw [List.length_append,List.length_singleton,HLL.out] at this;omega
  subst hm8;have HB3:=Hd (H.out.base.trans (hb9.mono H.out.size));have HL8:=Hd hL8;have HL2b:=Hd (HL2.out.below HB3.out);have HK10:=Hd (HK3.out.below HB3.out);have HC10:=Hd (HC3.out.below HB3.out);have HL10:=Hd (HL3.out.below HB3.out);have HP0:=Hd (HB3.out.cell HGB.out |>.trans HQ0.out);have HP1:=Hd (HB3.out.cell HGB.out |>.trans HQ1.out);have HP2:=Hd (HB3.out.cell HGB.out |>.trans HQ2.out);have HP3:=Hd (HB3.out.cell HGB.out |>.trans HQ3.out);have HGB10:=Hd (Nat.lt_of_lt_of_le HGB.out HB3.out.size);clear CC hb9 hL8 H k0 k1 k2 k3;have g0:=HP0.out;have g1:=HP1.out;have g2:=HP2.out;have g3:=HP3.out;have h11:=(Sep.nil w10).allocBox w10.heap.size 25 [.slice A na ca,.string G.names,.slice B m2 cb,.slice C nc cc] rfl
  go_upto_region 10 with fail
  generalize w10.alloc (.cells #[.slice A na ca,.string G.names,.slice B m2 cb,.slice C nc cc] 25)=w11 at *;have H:=Hd h11;clear h11 g0 g1 g2 g3;have HE:=Hd ((H.out.lit 3 #[.int .i64 0] [0] 1 w11.heap.size rfl rfl rfl).litRow [.int .i64 5,.slice (some ⟨w11.heap.size,0,none⟩) 1 1,.slice none 0 0,.slice none 0 0,.int .i64 0,.int .i64 0,.string ⟨#[]⟩] 1 (w11.heap.size+1) (by simp) rfl (by omega));have g0:=HE.out.oldCell HGB10.out HP0.out;have g1:=HE.out.oldCell HGB10.out HP1.out;have g2:=HE.out.oldCell HGB10.out HP2.out;have g3:=HE.out.oldCell HGB10.out HP3.out
  go_wp2_with (at_builtin;refine wpList_append_nods rfl _ _ 23 rfl Try.underlying23 HE.out 0 rfl rfl rfl (HC10.out.below HE.out.base) (by omega) ?_)
  intro v12 w12 h12;obtain ⟨gM,c12,hv,hc12⟩:=h12.rowForm 0 rfl (by omega);subst hv;have H12:=Hd h12;clear h12 g0 g1 g2 g3;obtain ⟨k0,k1,k2,k3⟩:=H12.out.cells4 2 rfl;have fk0:=H12.out.frozenBox 2 0 rfl;have fk1:=H12.out.frozenBox 2 1 rfl;have fk2:=H12.out.frozenBox 2 2 rfl;have fk3:=H12.out.frozenBox 2 3 rfl;have h13:=H12.out.setBox 2 2 (.slice (some ⟨gM,0,none⟩) (1+m2) c12) rfl
  go_upto_region 11 with fail
  generalize w12.setCell ⟨w10.heap.size,2,none⟩ (.slice (some ⟨gM,0,none⟩) (1+m2) c12)=w13 at *;replace H:=Hd (show Sep w10 w13 [.row 32 7 (.slice (some ⟨gM,0,none⟩) (1+m2) c12) (1+m2) ([.int .i64 5,.slice (some ⟨w11.heap.size,0,none⟩) 1 1,.slice none 0 0,.slice none 0 0,.int .i64 0,.int .i64 0,.string ⟨#[]⟩]++vs),.own 3 (.slice (some ⟨w11.heap.size,0,none⟩) 1 1) 1 [0],.box w10.heap.size 25 [.slice A na ca,.string G.names,.slice (some ⟨gM,0,none⟩) (1+m2) c12,.slice C nc cc]] from h13);clear h13 H12 HE k0 k1 k2 k3 fk0 fk1 fk2 fk3
  have hNn:Nods w13 (some ⟨gM,0,none⟩) (1+m2) (ndNot::G.nodes):=by
   obtain ⟨A8,c8,hv,_,h⟩:=row_nods 0 H.out rfl ((nodK_one (nd:=ndNot) (A:=some ⟨w11.heap.size,0,none⟩) (na:=1) (ca:=1) (B:=none) (nb:=0) (cb:=0) (C:=none) (nc:=0) (cc:=0) ⟨Nat.le_refl _,Nat.le_refl _,Nat.le_refl _,(H.out.ownInts 1 rfl).2.2,Ints.nil_ _ _,Ints.nil_ _ _,fits_lit (by decide) (by decide),fits0,fits0,by show 0≤_;omega⟩).append (HK10.out.below H.out.base)) (by show (ndNot::G.nodes).length=_;rw [List.length_cons,HNB.out];omega) (by omega);injection hv with q1 _ _
   rw [q1];exact h
  have hGB:GraphIs w13 (.agg #[.slice A na ca,.string G.names,.slice (some ⟨gM,0,none⟩) (1+m2) c12,.slice C nc cc]) ⟨G.sizes,G.names,ndNot::G.nodes,G.outs⟩:=⟨_,_,_,_,_,_,_,_,_,rfl,⟨(HL10.out.ia),hc12,HL10.out.ic,(HL10.out.below H.out.base).inA,hNn,(HL10.out.below H.out.base).inC,HL10.out.names⟩⟩;have HGBad:=Hd hGB;clear hNn hGB;have ke:(((m2+1:Nat):Int)==(m2:Int)+1)=true:=by simp
  have hle:m2≤m2+1:=by omega
  have hcap:m2≤c8:=by omega
  obtain ⟨a8,B9,m9,c9,hA8,hab8,hc9a,hmc9,hI9⟩:=(HL8.out.below H.out.base).2.2 m2 [] (by rw [List.getElem?_append_right (by rw [HLL.out];omega),HLL.out];simp);obtain rfl:m9=0:=hI9.len.symm;subst hA8;have CR:=rows_eq (w:=w13) (c:=c8) (d:=c2) (by have:=((HL8.out.below H.out.base).take (k:=m2) (by omega));rw [List.take_left' HLL.out] at this;exact this) (HL2b.out.below H.out.base);have HCR:=Hd CR;have HC9:=Hd hc9a;have HAB8:=Hd hab8;clear CR hc9a hab8 hI9
  go_wp2_with fail
  refine HCR.out.mono ?_;rintro e14 w14 ⟨rfl,q14,hw14⟩;have H14:=Hd (H.out.drewN q14);rw [← hw14] at H14;have c9x:w14.cell? (a8.add m2)=some (.slice B9 0 c9):=by rw [hw14];exact HC9.out
  have HGB14:Hid (GraphIs w14 (.agg #[.slice A na ca,.string G.names,.slice (some ⟨gM,0,none⟩) (1+m2) c12,.slice C nc cc]) ⟨G.sizes,G.names,ndNot::G.nodes,G.outs⟩):=Hd (by rw [hw14];exact HGBad.out.below (below_drewN (Below.refl _ _) q14));clear hw14 HCR;have CC:=gRight_any HGB14.out (fun j nd hj=>Nat.le_trans (HFB.out.small j nd hj) (by omega));rw [HSB.out] at CC;obtain ⟨k0,k1,k2,k3⟩:=H14.out.cells4 2 rfl
  go_wp2_with fail
  refine CC.mono ?_;rintro e15 w15 ⟨rfl,hb15⟩;have H15:=Hd (H14.out.below hb15);clear CC hb15 c9x k0 k1 k2 k3
  go_wp2_with fail
  refine (l10known_any w15).mono ?_;rintro e16 w16 ⟨rfl,hb16⟩;have H16:=Hd (H15.out.below hb16);go_wp2;go_ret;exact ⟨by trivial,then_ HB0.out (then_ HB1.out (then_ HB3.out H16.out.base))⟩
end Go.Proofs.Ytnnmplkgenhofaa
