import Derived.Test.YtnnmplkgenhofaaGreatPbi
import Derived.Test.YtnnmplkgenhofaaGreatPbq
import Derived.Test.YtnnmplkgenhofaaGreatPbr
set_option maxRecDepth 100000
set_option maxHeartbeats 12800000
namespace Go.Proofs.YtnnmplkgenhofaaGreat
open Go.RowKit
def sizesB (s:List Int):Bool:=decide (s.length≤3) && s.all sizeOk && decide (Sh.pr s≤8)
theorem meshF_eq (G:GraphV):meshF G=(sizesB G.sizes && rightB (runesOf G.names) G.sizes.length):=rfl
theorem sizes_bad {s:List Int} {j:Nat} {x:Int} (h:s[j]? = some x) (hx:x<1∨8<x):sizesB s=false:=by
 obtain⟨hj,rfl⟩:=List.getElem?_eq_some_iff.1 h
 cases e:sizesB s with
 | false=>rfl
 | true =>
  simp only[sizesB,Bool.and_eq_true,decide_eq_true_eq,List.all_eq_true,sizeOk] at e;obtain⟨⟨h1,h2⟩,_⟩:=e;have:=h2 _ (List.getElem_mem hj);omega
theorem sizes_end {s:List Int} (hl:s.length≤3) (h:∀(i:Nat) (x:Int),s[i]? = some x→1≤x∧x≤8):sizesB s=decide (Sh.pr s≤8):=by
 have:s.all sizeOk=true:=by
  rw[List.all_eq_true];intro x hx;obtain⟨i,hi,e⟩:=List.getElem_of_mem hx;have:=h i x (by rw[List.getElem?_eq_getElem hi,e]);simp[sizeOk,this]
 simp only[sizesB,this,decide_eq_true hl,Bool.true_and]
theorem gSizes_any {w:World} {A:Option Addr} {n c:Nat} {s:List Int} (h:Ints w A n s) :
  Calls Tryz.prog 39 #[.slice A n c] w fun e w' => e=.returned (.bool (sizesB s))∧w=w' := by
 have HSL:=Hd h.len;have hle:=h.le;by_cases hn:3<n
 ·have d0:decide (3<n)=true:=by simpa using hn
  have HX:=Hd (show sizesB s=false by rw[sizesB,decide_eq_false (by have:=HSL.out;omega)];rfl);clear h
  go_enter Tryz.func39,Tryz.ntmps39
  go_wp2;go_ret;exact⟨ret_bool HX.out.symm,rfl⟩
 have d0:decide (3<n)=false:=by simpa using hn
 have hn3:n≤3:=by omega
 go_enter Tryz.func39,Tryz.ntmps39
 go_wp2
 go_loop [11,3] (fun iv nv=>∃ j:Nat,iv=.int .i64 j∧nv=.int .i64 (Sh.pr (s.take j))∧j≤n∧(∀(i:Nat) (x:Int),s[i]? = some x→i<j→1≤x∧x≤8)) (fun iv _=>n-(intOf iv).toNat)
 case atStart=>exact⟨0,rfl,rfl,by omega,by omega⟩
 case round =>
  obtain⟨j,rfl,rfl,hj,hAll⟩:=hrel;have HA:=Hd hAll;clear hAll;by_cases hlt:j<n
  ·obtain⟨sa,x,hsA,_,hx,hcx,hfx⟩:=h.at_ (k:=j) hlt;subst hsA;by_cases h1:x<1
   ·have d1:decide (x<1)=true:=by simpa using h1
    have HX:=Hd (sizes_bad hx (by omega));clear hx hfx;go_wp2;go_ret;exact⟨ret_bool HX.out.symm,rfl⟩
   have d1:decide (x<1)=false:=by simpa using h1
   by_cases h2:8<x
   ·have d2:decide (8<x)=true:=by simpa using h2
    have HX:=Hd (sizes_bad hx (by omega));clear hx hfx;go_wp2;go_ret;exact⟨ret_bool HX.out.symm,rfl⟩
   have d2:decide (8<x)=false:=by simpa using h2
   have hpt:=Sh.pr_take s hx;have HX:=Hd hx
   have hps:∀ k,k≤j+1→0≤Sh.pr (s.take k)∧Sh.pr (s.take k)≤1048576:=fun k hk=>by
    have hm:∀ y∈s.take k,0≤y∧y≤32:=fun y hy=>by
     obtain⟨i,hi,e⟩:=List.getElem_of_mem hy;rw[List.length_take] at hi;have hi2:s[i]? = some y:=by rw[← e,List.getElem_take,List.getElem?_eq_getElem]
     rcases Nat.lt_or_ge i j with hij|hij
     ·have:=HA.out i y hi2 hij;omega
     ·obtain rfl:i=j:=by omega
      have h9:=HX.out;rw[hi2] at h9;injection h9 with h9;omega
    have hl4:(s.take k).length≤4:=by rw[List.length_take];omega
    exact Sh.pr_small _ hm hl4
   obtain⟨hq1,hq2⟩:=hps (j+1) (by omega);obtain⟨hq3,hq4⟩:=hps j (by omega);rw[hpt] at hq1 hq2;obtain⟨P,hP⟩:∃ P,Sh.pr (s.take j)=P:=⟨_,rfl⟩;rw[hP] at hq1 hq2 hq3 hq4 hpt ⊢;have hwp:IntKind.i64.wrap (P*x)=P*x:=IntWalk.i64_in _ ⟨by omega,by omega⟩;have HPT:=Hd hpt;clear hpt hps hP hx hfx;go_wp2;go_round
   case rel=>exact⟨j+1,by go_num,by rw[HPT.out],by omega,fun i y hi hi2=>by
    rcases Nat.lt_or_ge i j with hij|hij
    ·exact HA.out i y hi hij
    ·obtain rfl:i=j:=by omega
     have h9:=HX.out
     rw[hi] at h9;injection h9 with h9;omega⟩
   case measure=>simp[intOf];omega
  ·obtain rfl:j=n:=by omega
   have HE:=Hd (sizes_end (s:=s) (by have:=HSL.out;omega) (fun i x hi=>HA.out i x hi (by have:=HSL.out;have:=(List.getElem?_eq_some_iff.1 hi).1;omega)));rw[List.take_of_length_le (by have:=HSL.out;omega)];obtain⟨P,hP⟩:∃ P,Sh.pr s=P:=⟨_,rfl⟩;rw[hP] at HE ⊢;clear hP;go_wp2;go_ret;exact⟨ret_bool (by rw[HE.out]),rfl⟩
theorem run_make_row {t e:TypeId} {i:TypeInfo} {z:Value} {k:Nat} (ht:Tryz.prog.underlying t=some (.slice e)) (hi:Tryz.prog.info? e=some i) (hz:i.zero=some z) (hk:i.size=k) (hb:i.bytes≤200) {l c:Nat} (hlc:l≤c) (hc:c≤1000) (w:World) :
  (Instr.makeSlice t (.int .i64 l) (.int .i64 c)).run Tryz.prog w=.ok (.slice (some ⟨w.heap.size,0,none⟩) l c) (w.alloc (.cells (madeCells z.cells (c*k)) e)):=by
 have hbc:i.bytes*c≤200*1000:=Nat.mul_le_mul hb hc;have:=run_make (P:=Tryz.prog) w t e i z ht hi hz .i64 .i64 l c (by omega) (by omega) (by omega) (by omega);rw[this,hk];simp only[Int.toNat_natCast]
theorem Sep.madeRow {w0 w:World} {l:List Chunk} (h:Sep w0 w l) (e:TypeId) (k n c:Nat) (cs:Array Value) (hs:cs.size=c*k) (hnc:n≤c) (hc:c≤1000) :
  Sep w0 (w.alloc (.cells cs e)) (.row e k (.slice (some ⟨w.heap.size,0,none⟩) n c) n (cs.toList.take (n*k))::l):=by
 have hnk:n*k≤c*k:=Nat.mul_le_mul_right k hnc
 refine h.pushNew (h.below ((Below.refl _ _).alloc (Nat.le_refl _) _)) ?_ fun k hk=>by
  have hk:some w.heap.size=some k:=hk;injection hk with hk;omega
 exact⟨by rw[List.length_take,Array.length_toList,hs];omega,.inr ⟨w.heap.size,c,cs,rfl,h.size,heap_alloc_new _ _,hnc,by unfold maxLen;omega,hs,rfl⟩⟩
def lRow (n:Nat):Array Value:=madeCells #[.slice none 0 0] n
theorem lRow_size (n:Nat):(lRow n).size=n:=size_madeCells _ _
theorem run_make_lists {l c:Nat} (hlc:l≤c) (hc:c≤1000) (w:World) :
  (Instr.makeSlice 35 (.int .i64 l) (.int .i64 c)).run Tryz.prog w=.ok (.slice (some ⟨w.heap.size,0,none⟩) l c) (w.alloc (.cells (lRow c) 22)):=by
 obtain⟨i,hi,hz,hs,hb⟩:=infoLst_parts;have:=run_make_row Tryz.underlying35 hi hz hs (by omega) hlc hc w;rw[this,Nat.mul_one];rfl
theorem run_make_lists0 {c:Nat} (hc:c≤1000) (w:World) :
  (Instr.makeSlice 35 (.int .i64 0) (.int .i64 c)).run Tryz.prog w=.ok (.slice (some ⟨w.heap.size,0,none⟩) 0 c) (w.alloc (.cells (lRow c) 22)):=run_make_lists (l:=0) (Nat.zero_le _) hc w
def LilK (w:World) (us:List Value) (L:List (List Int)):Prop:=L.length≤us.length∧∀(j:Nat) (s:List Int),L[j]? = some s→∃ B m c,us[j]? = some (.slice B m c)∧m≤c∧Ints w B m s
theorem lilK_nil (w:World) (us:List Value):LilK w us []:=⟨Nat.zero_le _,fun j s h=>by simp at h⟩
theorem LilK.snoc {w:World} {us:List Value} {L:List (List Int)} (h:LilK w us L) {B:Option Addr} {m c:Nat} {s:List Int} (hI:Ints w B m s) (hm:m≤c) {q:Nat} (hq:L.length=q) (hu:q<us.length):LilK w (us.set q (.slice B m c)) (L++[s]):=by
 refine⟨by rw[List.length_set,List.length_append,List.length_singleton];omega,fun j x hx=>?_⟩;rcases Nat.lt_or_ge j L.length with hj|hj
 ·rw[List.getElem?_append_left hj] at hx;rw[List.getElem?_set_ne (by omega)];exact h.2 j x hx
 ·rw[List.getElem?_append_right hj] at hx
  have hj' : j=q:=by
   rcases Nat.eq_or_lt_of_le hj with e|e
   ·omega
   ·rw[List.getElem?_eq_none (by simp;omega)] at hx;cases hx
  subst hj';rw[hq,Nat.sub_self] at hx;injection hx with hx;subst hx
  exact⟨B,m,c,by rw[List.getElem?_set_self hu],hm,hI⟩
theorem row_lils {w0 w:World} {l:List Chunk} {g n c:Nat} {us:List Value} {L:List (List Int)} (h:Sep w0 w l) (i:Nat) (hi:l[i]? = some (.row 22 1 (.slice (some ⟨g,0,none⟩) n c) n us)) (hK:LilK w0 us L) (hn:L.length=n) (hn2:n≤900):Lils w (some ⟨g,0,none⟩) n L:=by
 have hr:w.ownsRow w0.heap.size 22 1 (.slice (some ⟨g,0,none⟩) n c) n us:=h.at_ i hi;refine⟨hn,hn2,fun j x hx=>?_⟩;obtain⟨B,m,cc,hu,hm,hI⟩:=hK.2 j x hx;have hj:j<L.length:=(List.getElem?_eq_some_iff.1 hx).1;exact⟨⟨g,0,none⟩,B,m,cc,rfl,(World.ownsRow.lt hr g rfl).2,by rw[addrL0,hr.cellAt j (by omega),hu],hm,h.oldI hI⟩
noncomputable def nextR (nm:List Int) (acc:List (List Int)) (nd:NodeV):Int × List Int :=
 if insOk acc nd.ins=true then
  (if (shapeR nd (insOf acc nd.ins)).1=0 then
   (if noteE nm nd (shapeR nd (insOf acc nd.ins)).2.length=0 then(0,(shapeR nd (insOf acc nd.ins)).2)
   else(noteE nm nd (shapeR nd (insOf acc nd.ins)).2.length,[]))
  else((shapeR nd (insOf acc nd.ins)).1,[]))
 else(23,[])
theorem shapesGo_next (nm:List Int) (acc:List (List Int)) (nd:NodeV) (l:List NodeV):shapesGo nm acc (nd::l)=if (nextR nm acc nd).1=0 then shapesGo nm (acc++[(nextR nm acc nd).2]) l else((nextR nm acc nd).1,[]):=by
 rw[shapesGo,nextR]
 split
 ·split
  ·split
   ·rfl
   ·rfl
  ·rfl
 ·rfl
theorem gNext_any {w:World} {v:Value} {nd:NodeV} {nm:ByteArray} {Al:Option Addr} {nl cl:Nat} {acc:List (List Int)} (hnm:nm.size≤17592186044000) (h:NodeIs w v nd) (hLi:Lils w Al nl acc) (hq:nd.ins.length≤800) :
  Calls Tryz.prog 41 #[.string nm,v,.slice Al nl cl] w (ListPost w (nextR (runesOf nm) acc nd)):=by
 have HN:=h;obtain⟨S,ns,cs,D,nD,cD,E,ne,ce,rfl,hNL⟩:=h;replace HN:=Hd HN;have h1:=(Sep.nil w).allocBox w.heap.size 34 [.int .i64 nd.op,.slice S ns cs,.slice D nD cD,.slice E ne ce,.int .i64 nd.n,.int .i64 nd.how,.string nd.note] rfl;have HNL:=Hd hNL;have HSL:=Hd hNL.inA.len;have hns:ns≤800:=by have:=HSL.out;omega
 have hln:=hLi.2.1;have HLI:=Hd hLi;have HLL:=Hd hLi.1;obtain⟨nmr,hnmr⟩:∃ r,runesOf nm=r:=⟨_,rfl⟩;have HNM:=Hd hnmr;have HNT:=Hd hNL.note;have HNZ:=Hd hnm;rw[hnmr];clear hNL hLi hq hnmr hnm
 go_enter Tryz.func41,Tryz.ntmps41
 go_upto_region 1 with fail
 generalize w.alloc (.cells #[.int .i64 nd.op,.slice S ns cs,.slice D nD cD,.slice E ne ce,.int .i64 nd.n,.int .i64 nd.how,.string nd.note] 34)=W at *;generalize hgn:w.heap.size=gn at *;have HGN:=Hd hgn;have H:=Hd h1;clear h1 hgn;obtain⟨n0,n1,n2,n3,n4,n5,n6⟩:=H.out.cells7 0 rfl;have hmk:=run_make_lists (l:=ns) (c:=ns) (Nat.le_refl _) (by omega);have h2:=H.out.madeRow 22 1 ns ns (lRow ns) (by rw[lRow_size,Nat.mul_one]) (Nat.le_refl _) (by omega)
 go_upto_region 2 with fail
 generalize W.alloc (.cells (lRow ns) 22)=W2 at *;generalize hgr:W.heap.size=gr at *;have HGR:=Hd hgr;replace H:=Hd h2;clear h2 hmk hgr n0 n1 n2 n3 n4 n5 n6;obtain⟨u0,hu0⟩:∃ u,(lRow ns).toList.take (ns*1)=u:=⟨_,rfl⟩;have HU0:=Hd (show u0.length=ns by rw[← hu0,List.length_take,Array.length_toList,lRow_size];omega);rw[hu0] at H;clear hu0;have n1:=H.out.cell 1 1 rfl rfl
 go_wp2_with fail
 clear n1
 go_loopw [23] (fun iv wr=>∃(q:Nat) (us:List Value),iv=.int .i64 q∧q≤ns∧us.length=ns∧(∀(i:Nat) (x:Int),nd.ins[i]? = some x→i<q→0≤x∧x<acc.length)∧LilK w us (insOf acc (nd.ins.take q))∧Sep w wr [.row 22 1 (.slice (some ⟨gr,0,none⟩) ns ns) ns us,.box gn 34 [.int .i64 nd.op,.slice S ns cs,.slice D nD cD,.slice E ne ce,.int .i64 nd.n,.int .i64 nd.how,.string nd.note]]) (fun iv _=>ns-(intOf iv).toNat)
 case atStart=>exact⟨0,u0,rfl,by omega,HU0.out,by omega,lilK_nil _ _,H.out⟩
 case round =>
  clear H;obtain⟨q,us,rfl,hq,hul,hAll,hK,hS⟩:=hrel;have H:=Hd hS;have HK:=Hd hK;have HA:=Hd hAll;have HUL:=Hd hul;clear hS hK hAll hul;by_cases hlq:q<ns
  ·obtain⟨sa,x,hsA,_,hx,hcx,_⟩:=(H.out.oldI HNL.out.inA).at_ (k:=q) hlq;subst hsA;have HX:=Hd hx;have HBAD:=Hd (show ¬ (0≤x∧x<acc.length)→nextR nmr acc nd=(23,[]) from fun h=>by rw[nextR,if_neg];rw[insOk_bad HX.out h];simp);clear hx;by_cases h1:x<0
   ·have d1:decide (x<0)=true:=by simpa using h1
    have HQ:=Hd (HBAD.out (by omega));clear HBAD;go_wp2;go_ret2;exact listPost_no HQ.out H.out.base
   have d1:decide (x<0)=false:=by simpa using h1
   obtain⟨xx,rfl⟩:=Int.eq_ofNat_of_zero_le (by omega:0≤x);by_cases h2:nl≤xx
   ·have d2:decide (nl≤xx)=true:=by simpa using h2
    have HQ:=Hd (HBAD.out (by have:=HLL.out;omega));clear HBAD;go_wp2;go_ret2;exact listPost_no HQ.out H.out.base
   have d2:decide (nl≤xx)=false:=by simpa using h2
   clear HBAD;obtain⟨s,hs⟩:∃ s,acc[xx]? = some s:=⟨_,List.getElem?_eq_getElem (by have:=HLL.out;omega)⟩;obtain⟨la,B5,m5,c5,hAl,hlb,hcl,hmc,hI5⟩:=HLI.out.2.2 xx s hs;subst hAl;have hcy:=H.out.oldCell (p:=la.add xx) (blk_add hlb) hcl;obtain⟨u9,hu9⟩:∃ u,us[q]? = some u:=⟨_,List.getElem?_eq_getElem (by have:=HUL.out;omega)⟩;have hcq:=H.out.cellRow 0 rfl hu9;have hfq:=H.out.frozenRow 0 rfl q;have HST:=Hd (H.out.setRow 0 rfl q (.slice B5 m5 c5))
   have HK2:=Hd (show LilK w (us.set q (.slice B5 m5 c5)) (insOf acc (nd.ins.take (q+1))) by
    have he:insOf acc (nd.ins.take (q+1))=insOf acc (nd.ins.take q)++[s]:=by
     rw[List.take_add_one,HX.out,insOf,insOf,List.map_append];simp[List.getD_eq_getElem?_getD,hs]
    rw[he]
    exact HK.out.snoc hI5 hmc (by rw[insOf,List.length_map,List.length_take];have:=HSL.out;omega) (by have:=HUL.out;omega))
   have hxn:xx<nl:=by omega
   clear hs hcl hI5 hu9;go_wp2;go_roundw
   case rel=>exact⟨q+1,_,by go_num,by omega,by rw[List.length_set];exact HUL.out,fun i y hi hi2=>by
    rcases Nat.lt_or_ge i q with hij|hij
    ·exact HA.out i y hi hij
    ·obtain rfl:i=q:=by omega
     have h9:=HX.out
     rw[hi] at h9;injection h9 with h9;have:=HLL.out;omega,HK2.out,HST.out⟩
   case measure=>simp[intOf];omega
  ·obtain rfl:q=ns:=by omega
   have HIN:=Hd (show insOk acc nd.ins=true from insOk_good fun i x hi=>HA.out i x hi (by have:=HSL.out;have:=(List.getElem?_eq_some_iff.1 hi).1;omega));have hK9:=HK.out;rw[List.take_of_length_le (by have:=HSL.out;omega)] at hK9;have hLi:=row_lils H.out 0 rfl hK9 (by rw[insOf,List.length_map];exact HSL.out) (by omega);have CS:=gShape_any (cl:=q) (show NodeIs wr (.agg #[.int .i64 nd.op,.slice S q cs,.slice D nD cD,.slice E ne ce,.int .i64 nd.n,.int .i64 nd.how,.string nd.note]) nd from HN.out.below H.out.base) hLi;obtain⟨⟨e5,s5⟩,hR⟩:∃ r,shapeR nd (insOf acc nd.ins)=r:=⟨_,rfl⟩;rw[hR] at CS;have HR:=Hd hR;clear hLi hR hK9;obtain⟨n0,n1,n2,n3,n4,n5,n6⟩:=H.out.cells7 1 rfl
   go_wp2_with fail
   refine CS.mono ?_;rintro e4 w4 ⟨⟨v5,m5,rfl,hO⟩,hb4⟩;clear CS n0 n1 n2 n3 n4 n5 n6;replace hO:OwnS w4 _ 3 v5 m5 s5:=hO;obtain⟨A5,c5,rfl,hmc5,_,_⟩:=hO.form;have HML:=Hd hO.len;replace H:=Hd (H.out.addOwn hb4 hO);clear hO hb4;by_cases he:e5=0
   ·subst he;have n6:=H.out.cell 2 6 rfl rfl;have CN:=nNote_any (w:=w4) (m5:Int) HNZ.out HNT.out;rw[HNM.out] at CN;obtain⟨e6,hE⟩:∃ e6,noteE nmr nd m5=e6:=⟨_,rfl⟩;have HE6:=Hd hE;unfold noteE at hE;rw[hE] at CN;clear hE
    go_wp2_with fail
    refine CN.mono ?_;rintro e8 w8 ⟨⟨v8,m8,rfl,_⟩,hb8⟩;replace H:=Hd (H.out.below hb8);clear CN hb8 n6;by_cases he6:e6=0
    ·subst he6;have HQ:=Hd (show nextR nmr acc nd=(0,s5) by rw[nextR,if_pos HIN.out,HR.out,if_pos rfl,HML.out,HE6.out,if_pos rfl]);go_wp2;go_ret2;exact listPost_yes HQ.out (H.out.ownS 0 rfl) H.out.base
    ·have dE:(e6 != 0)=true:=by simpa using he6
     have HQ:=Hd (show nextR nmr acc nd=(e6,[]) by rw[nextR,if_pos HIN.out,HR.out,if_pos rfl,HML.out,HE6.out,if_neg he6]);clear he6;go_wp2;go_ret2;exact listPost_no HQ.out H.out.base
   ·have dE:(e5 != 0)=true:=by simpa using he
    have HQ:=Hd (show nextR nmr acc nd=(e5,[]) by rw[nextR,if_pos HIN.out,HR.out,if_neg he]);clear he;go_wp2;go_ret2;exact listPost_no HQ.out H.out.base
theorem gShapes_any {w:World} {v:Value} {G:GraphV} (h:GraphIs w v G) (hs:SmallG 800 G) :
  Calls Tryz.prog 17 #[v] w fun e w' => (∃ A m c,e=.returned (.tuple #[.slice A m c,.int .i64 (shapesR G).1])∧m≤c∧Lils w' A m (shapesR G).2)∧Below w.heap.size w w' := by
 have HG:=h;obtain⟨A,na,ca,B,nb,cb,C,nc,cc,rfl,hL⟩:=h;replace HG:=Hd HG;obtain⟨hia,hib,hic,hA,hB,hC,hnm⟩:=hL;have h1:=(((Sep.nil w).old hC).old hA).allocBox w.heap.size 25 [.slice A na ca,.string G.names,.slice B nb cb,.slice C nc cc] rfl;have hal:=hA.le;have hcl:=hC.le;have HAL:=Hd hA.len;have HCL:=Hd hC.len;have HBL:=Hd hB.1;have hbl:=hB.2.1;have HB:=Hd hB;clear hA hC hB
 go_enter Tryz.func17,Tryz.ntmps17
 go_upto_region 1 with fail
 generalize w.alloc (.cells #[.slice A na ca,.string G.names,.slice B nb cb,.slice C nc cc] 25)=W at *;have H:=Hd h1;clear h1;have hsm:=hs;have HSM:=Hd hsm;clear hsm hs;have HNZ:=Hd hnm;obtain⟨g0,g1,g2,g3⟩:=H.out.cells4 0 rfl;have CS:=gSizes_any (c:=ca) (H.out.oldInts 1 rfl);have CN:=nRight_any (w:=W) (na:Int) hnm;have HME:=Hd (meshF_eq G)
 cases hz:sizesB G.sizes with
 | false =>
  rw[hz] at CS;have HX:=Hd (shapesR_mesh (G:=G) (by rw[HME.out,hz];rfl));clear hz CN
  go_wp2_with fail
  refine CS.mono ?_;rintro e2 w2 ⟨rfl,rfl⟩;clear CS g0 g1 g2 g3;go_wp2;go_ret2;rw[HX.out]
  exact⟨⟨none,0,0,rfl,Nat.le_refl _,lils_nil _⟩,H.out.base⟩
 | true =>
  rw[hz] at CS
  go_wp2_with fail
  refine CS.mono ?_;rintro e2 w2 ⟨rfl,rfl⟩;clear CS
  cases hm:rightB (runesOf G.names) (na:Int) with
  | false =>
   rw[hm] at CN;have HX:=Hd (shapesR_mesh (G:=G) (by rw[HME.out,HAL.out,hm,Bool.and_false]));clear hm hz
   go_wp2_with fail
   refine CN.mono ?_;rintro e2 w2 ⟨rfl,hb⟩;replace H:=Hd (H.out.below hb);clear CN hb g0 g1 g2 g3;go_wp2;go_ret2;rw[HX.out]
   exact⟨⟨none,0,0,rfl,Nat.le_refl _,lils_nil _⟩,H.out.base⟩
  | true =>
   rw[hm] at CN;have HM:=Hd (show meshF G=true by rw[HME.out,hz,HAL.out,hm];rfl);clear hm hz
   go_wp2_with fail
   refine CN.mono ?_;rintro e2 w2 ⟨rfl,hb⟩;replace H:=Hd (H.out.below hb);clear CN hb g0 g1 g2 g3;obtain⟨g0,g1,g2,g3⟩:=H.out.cells4 0 rfl;by_cases l1:48<nb
   ·have e1:decide (48<nb)=true:=by simpa using l1
    have HX:=Hd (shapesR_long HM.out (by have:=HBL.out;have:=HCL.out;omega));go_wp2;go_ret2;rw[HX.out];exact⟨⟨none,0,0,rfl,Nat.le_refl _,lils_nil _⟩,H.out.base⟩
   have e1:decide (48<nb)=false:=by simpa using l1
   by_cases l2:48<nc
   ·have e2:decide (48<nc)=true:=by simpa using l2
    have HX:=Hd (shapesR_long HM.out (by have:=HBL.out;have:=HCL.out;omega));go_wp2;go_ret2;rw[HX.out];exact⟨⟨none,0,0,rfl,Nat.le_refl _,lils_nil _⟩,H.out.base⟩
   have e2:decide (48<nc)=false:=by simpa using l2
   have hl48:=Hd (show G.nodes.length≤48∧G.outs.length≤48 by have:=HBL.out;have:=HCL.out;omega);have hnb48:nb≤48:=by omega
   have hnc48:nc≤48:=by omega
   obtain⟨nm,hnmr⟩:∃ nm,runesOf G.names=nm:=⟨_,rfl⟩;have HNM:=Hd hnmr;clear hnmr
   go_upto_region 5 with fail
   clear g0 g1 g2 g3;obtain⟨g0,g1,g2,g3⟩:=H.out.cells4 0 rfl;have hmk:=run_make_lists0 (c:=nb) (by omega);have h2:=H.out.madeRow 22 1 0 nb (lRow nb) (by rw[lRow_size,Nat.mul_one]) (Nat.zero_le _) (by omega);rw[Nat.zero_mul,List.take_zero] at h2
   go_upto_region 6 with fail
   generalize w2.alloc (.cells (lRow nb) 22)=w4 at *;generalize hgr:w2.heap.size=gr at *;replace H:=Hd h2;clear h2 hmk hgr e1 e2 l1 l2 g0 g1 g2 g3;obtain⟨g0,g1,g2,g3⟩:=H.out.cells4 1 rfl
   go_wp2_with fail
   clear g0 g1 g2 g3
   go_loopw [41,4] (fun iv ov wr=>∃(j:Nat) (us:List Value) (pool:List Chunk) (lx:Value) (acc:List (List Int)),lx=ov∧iv=.int .i64 j∧j≤nb∧acc.length=j∧PoolL us acc pool∧shapesGo nm acc (G.nodes.drop j)=shapesGo nm [] G.nodes∧Sep w wr (.row 22 1 lx j us::.box w.heap.size 25 [.slice A na ca,.string G.names,.slice B nb cb,.slice C nc cc]::.ints A na G.sizes::.ints C nc G.outs::pool)) (fun iv _ _=>nb-(intOf iv).toNat)
   case atStart=>exact⟨0,[],[],_,[],rfl,rfl,by omega,rfl,poolL_nil,rfl,H.out⟩
   case round =>
    clear H;obtain⟨j,us,pool,lx,acc,rfl,rfl,hj,hacc,hP,hgo,hS⟩:=hrel;have H:=Hd hS;have HP:=Hd hP;have HGO:=Hd hgo;have HACC:=Hd hacc;clear hS hP hgo hacc;obtain⟨Al,cl,hv,hcl,hLi⟩:=pool_lils 0 H.out rfl HP.out HACC.out (by omega) 4 (fun i=>rfl);subst hv;have HLI:=Hd hLi;clear hLi;obtain⟨g0,g1,g2,g3⟩:=H.out.cells4 1 rfl;by_cases hlt:j<nb
    ·obtain⟨nd,hnd⟩:∃ nd,G.nodes[j]? = some nd:=⟨_,List.getElem?_eq_getElem (by have:=HBL.out;omega)⟩;obtain⟨la,S,ns,cs,D,nD,cD,E,ne,ce,hla,hlb,k0,k1,k2,k3,k4,k5,k6,hNL⟩:=HB.out.2.2 j nd hnd;subst hla;obtain⟨c0,c1,c2,c3,c4,c5,c6⟩:=old7 H.out hlb k0 k1 k2 k3 k4 k5 k6;have HGD:=Hd (show shapesGo nm acc (nd::G.nodes.drop (j+1))=shapesGo nm [] G.nodes by rw[← drop_nd hnd];exact HGO.out);have hns:=HSM.out j nd hnd;have HNL:=Hd hNL;clear k0 k1 k2 k3 k4 k5 k6 hNL hnd;have h3:=H.out.allocBox wr.heap.size 34 [.int .i64 nd.op,.slice S ns cs,.slice D nD cD,.slice E ne ce,.int .i64 nd.n,.int .i64 nd.how,.string nd.note] rfl;have hbw:=(Below.refl wr.heap.size wr).alloc (Nat.le_refl _) (.cells #[.int .i64 nd.op,.slice S ns cs,.slice D nD cD,.slice E ne ce,.int .i64 nd.n,.int .i64 nd.how,.string nd.note] 34);have hLi3:=HLI.out.below hbw
     go_upto_region 9 with fail
     generalize wr.alloc (.cells #[.int .i64 nd.op,.slice S ns cs,.slice D nD cD,.slice E ne ce,.int .i64 nd.n,.int .i64 nd.how,.string nd.note] 34)=w3 at *;generalize wr.heap.size=gn at *;replace H:=Hd h3;clear h3 c0 c1 c2 c3 c4 c5 c6 g0 g1 g2 g3 hbw;obtain⟨g0,g1,g2,g3⟩:=H.out.cells4 2 rfl;obtain⟨n0,n1,n2,n3,n4,n5,n6⟩:=H.out.cells7 0 rfl;have CX:=gNext_any (cl:=cl) HNZ.out (show NodeIs w3 (.agg #[.int .i64 nd.op,.slice S ns cs,.slice D nD cD,.slice E ne ce,.int .i64 nd.n,.int .i64 nd.how,.string nd.note]) nd from⟨S,ns,cs,D,nD,cD,E,ne,ce,rfl,HNL.out.below H.out.base⟩) hLi3 hns;rw[HNM.out] at CX;obtain⟨⟨e5,s5⟩,hR⟩:∃ r,nextR nm acc nd=r:=⟨_,rfl⟩;rw[hR] at CX;have HGX:=Hd (show shapesGo nm [] G.nodes=if e5=0 then shapesGo nm (acc++[s5]) (G.nodes.drop (j+1)) else(e5,[]) by rw[← HGD.out,shapesGo_next,hR]);clear hLi3 hR
     go_wp2_with fail
     refine CX.mono ?_;rintro e4 w5 ⟨⟨v5,m5,rfl,hO⟩,hb4⟩;clear CX n0 n1 n2 n3 n4 n5 n6 g0 g1 g2 g3;replace hO:OwnS w5 _ 3 v5 m5 s5:=hO;obtain⟨A5,c5,rfl,hmc5,_,_⟩:=hO.form;replace H:=Hd (H.out.addOwn hb4 hO);clear hO hb4;by_cases he:e5=0
     ·subst he;have HG2:=Hd (show shapesGo nm (acc++[s5]) (G.nodes.drop (j+1))=shapesGo nm [] G.nodes by rw[HGX.out,if_pos rfl])
      go_wp2_with (at_builtin;refine wpList_append_lst rfl (.tmp 56) (.tmp 58) 35 rfl Tryz.underlying35 H.out 2 rfl rfl _ rfl ?c1 ?_)
      case c1=>omega
      intro v9 w9 h9;have h10:=Sep.tail_ (Sep.perm h9 (l' := [_,.row 22 1 v9 (j+1) (us++[.slice A5 m5 c5]),.box w.heap.size 25 [.slice A na ca,.string G.names,.slice (some la) nb cb,.slice C nc cc],.ints A na G.sizes,.ints C nc G.outs]++([Chunk.own 3 (.slice A5 m5 c5) m5 s5]++pool)) (by rw[← List.append_assoc];exact(List.perm_append_comm (l₁ := [Chunk.own 3 (.slice A5 m5 c5) m5 s5]) (l₂ := [_,_,_,_,_])).append_right pool));have H10:=Hd h10;clear h9 h10;go_wp2;go_roundw
      case rel=>exact⟨j+1,us++[Value.slice A5 m5 c5],Chunk.own 3 (.slice A5 m5 c5) m5 s5::pool,_,acc++[s5],rfl,by go_num,by omega,by rw[List.length_append,List.length_singleton,HACC.out],HP.out.more,HG2.out,H10.out⟩
      case measure=>simp[intOf];omega
     ·have dE:(e5 != 0)=true:=by simpa using he
      have HX:=Hd (shapesR_go HM.out hl48.out (by rw[HNM.out,HGX.out,if_neg he]) he);clear he;go_wp2;go_ret2;rw[HX.out];exact⟨⟨none,0,0,rfl,Nat.le_refl _,lils_nil _⟩,H.out.base⟩
    ·obtain rfl:j=nb:=by omega
     have HEND:=Hd (show shapesGo nm [] G.nodes=(0,acc) by rw[← HGO.out,List.drop_eq_nil_of_le (by have:=HBL.out;omega),shapesGo]);have HXE:=Hd (shapesR_end HM.out hl48.out (by rw[HNM.out];exact HEND.out))
     go_wp2_with fail
     clear g0 g1 g2 g3
     go_loopw [64] (fun iv wr=>∃ q:Nat,iv=.int .i64 q∧q≤nc∧(∀(i:Nat) (x:Int),G.outs[i]? = some x→i<q→0≤x∧x<j)∧Sep w wr (.row 22 1 (.slice Al j cl) j us::.box w.heap.size 25 [.slice A na ca,.string G.names,.slice B j cb,.slice C nc cc]::.ints A na G.sizes::.ints C nc G.outs::pool)) (fun iv _=>nc-(intOf iv).toNat)
     case atStart=>exact⟨0,rfl,by omega,by omega,H.out⟩
     case round =>
      clear H;obtain⟨q,rfl,hq,hAll,hS⟩:=hrel;have H:=Hd hS;have HA:=Hd hAll;clear hS hAll;by_cases hlq:q<nc
      ·obtain⟨sa,x,hsA,_,hx,hcx,_⟩:=(H.out.oldInts 3 rfl).at_ (k:=q) hlq;subst hsA;by_cases h1:x<0
       ·have d1:decide (x<0)=true:=by simpa using h1
        have HX:=Hd (HXE.out.trans (by rw[outs_bad hx (by have:=HBL.out;omega)];rfl:_=((23:Int),([]:List (List Int)))));clear hx;go_wp2;go_ret2;rw[HX.out];exact⟨⟨none,0,0,rfl,Nat.le_refl _,lils_nil _⟩,H.out.base⟩
       obtain⟨xx,rfl⟩:=Int.eq_ofNat_of_zero_le (by omega:0≤x);have d1:decide ((xx:Int)<0)=false:=by simp
       by_cases h2:j≤xx
       ·have d2:decide (j≤xx)=true:=by simpa using h2
        have HX:=Hd (HXE.out.trans (by rw[outs_bad hx (by have:=HBL.out;omega)];rfl:_=((23:Int),([]:List (List Int)))));clear hx;go_wp2;go_ret2;rw[HX.out];exact⟨⟨none,0,0,rfl,Nat.le_refl _,lils_nil _⟩,H.out.base⟩
       have d2:decide (j≤xx)=false:=by simpa using h2
       have HXX:=Hd hx;clear hx;go_wp2;go_roundw
       case rel=>exact⟨q+1,by go_num,by omega,fun i y hi hi2=>by
        rcases Nat.lt_or_ge i q with hij|hij
        ·exact HA.out i y hi hij
        ·obtain rfl:i=q:=by omega
         have h9:=HXX.out
         rw[hi] at h9;injection h9 with h9;omega,H.out⟩
       case measure=>simp[intOf];omega
      ·obtain rfl:q=nc:=by omega
       have HX:=Hd (HXE.out.trans (if_pos (outs_good fun i x hi=>by rw[HBL.out];exact HA.out i x hi (by have:=HCL.out;have:=(List.getElem?_eq_some_iff.1 hi).1;omega))));obtain⟨Al9,cl9,hv,hcl2,hLi⟩:=pool_lils 0 H.out rfl HP.out HACC.out (by omega) 4 (fun i=>rfl);injection hv with hv1 _ hv3
       subst hv1;subst hv3;have HLI:=Hd hLi;clear hLi;go_wp2;go_ret2;rw[HX.out];exact⟨⟨_,_,_,rfl,hcl2,HLI.out⟩,H.out.base⟩
theorem gRight_any {w:World} {v:Value} {G:GraphV} (h:GraphIs w v G) (hs:SmallG 800 G) :
  Calls Tryz.prog 20 #[v] w fun e w' => e=.returned (.int .i64 (shapesR G).1)∧Below w.heap.size w w' := by
 have HG:=h;obtain⟨A,na,ca,B,nb,cb,C,nc,cc,rfl,hL⟩:=h;replace HG:=Hd HG;obtain⟨hia,hib,hic,hA,hB,hC,hnm⟩:=hL;have h1:=(((Sep.nil w).old hC).old hA).allocBox w.heap.size 25 [.slice A na ca,.string G.names,.slice B nb cb,.slice C nc cc] rfl;have hal:=hA.le;have hcl:=hC.le;have HAL:=Hd hA.len;have HCL:=Hd hC.len;have HBL:=Hd hB.1;have hbl:=hB.2.1;have HB:=Hd hB;clear hA hC hB
 go_enter Tryz.func20,Tryz.ntmps20
 go_upto_region 1 with fail
 generalize w.alloc (.cells #[.slice A na ca,.string G.names,.slice B nb cb,.slice C nc cc] 25)=W at *;have H:=Hd h1;clear h1;obtain⟨g0,g1,g2,g3⟩:=H.out.cells4 0 rfl
 go_wp2_with fail
 refine(gShapes_any (HG.out.below H.out.base) hs).mono ?_;rintro e2 w2 ⟨⟨A5,m5,c5,rfl,_,_⟩,hb⟩;replace H:=Hd (H.out.below hb);clear hb g0 g1 g2 g3;go_wp2;go_ret;exact⟨rfl,H.out.base⟩
theorem gParams_any {w:World} {v:Value} {G:GraphV} (h:GraphIs w v G) :
  Calls Tryz.prog 22 #[v] w fun e w' => (∃ v m,e=.returned v∧OwnS w' w.heap.size 3 v m (parF 0 G.nodes))∧Below w.heap.size w w' := by
 have HG:=h;obtain⟨A,na,ca,B,nb,cb,C,nc,cc,rfl,hL⟩:=h;replace HG:=Hd HG;obtain⟨hia,hib,hic,hA,hB,hC,hnm⟩:=hL;have h1:=(((Sep.nil w).old hC).old hA).allocBox w.heap.size 25 [.slice A na ca,.string G.names,.slice B nb cb,.slice C nc cc] rfl;have hal:=hA.le;have hcl:=hC.le;have HAL:=Hd hA.len;have HCL:=Hd hC.len;have HBL:=Hd hB.1;have hbl:=hB.2.1;have HB:=Hd hB;clear hA hC hB
 go_enter Tryz.func22,Tryz.ntmps22
 go_upto_region 1 with fail
 generalize w.alloc (.cells #[.slice A na ca,.string G.names,.slice B nb cb,.slice C nc cc] 25)=W at *;have H:=Hd h1;clear h1;have HN:=Hd (H.out.addNil 3);replace H:=HN;clear HN;obtain⟨g0,g1,g2,g3⟩:=H.out.cells4 1 rfl
 go_wp2_with fail
 clear g0 g1 g2 g3
 go_loopw [9,3] (fun iv ov wr=>∃(j:Nat) (vo:Value) (acc:List Int),vo=ov∧iv=.int .i64 j∧j≤nb∧acc.length≤j∧acc++parF j (G.nodes.drop j)=parF 0 G.nodes∧Sep w wr [.own 3 vo acc.length acc,.box w.heap.size 25 [.slice A na ca,.string G.names,.slice B nb cb,.slice C nc cc],.ints A na G.sizes,.ints C nc G.outs]) (fun iv _ _=>nb-(intOf iv).toNat)
 case atStart=>exact⟨0,_,[],rfl,rfl,by omega,Nat.le_refl _,by rw[List.nil_append];rfl,H.out⟩
 case round =>
  clear H;obtain⟨j,vo,acc,rfl,rfl,hj,hal2,hpar,hS⟩:=hrel;have H:=Hd hS;have HP:=Hd hpar;clear hS hpar;obtain⟨g0,g1,g2,g3⟩:=H.out.cells4 1 rfl;by_cases hlt:j<nb
  ·obtain⟨nd,hnd⟩:∃ nd,G.nodes[j]? = some nd:=⟨_,List.getElem?_eq_getElem (by have:=HBL.out;omega)⟩;obtain⟨la,S,ns,cs,D,nD,cD,E,ne,ce,hla,hlb,k0,k1,k2,k3,k4,k5,k6,hNL⟩:=HB.out.2.2 j nd hnd;subst hla;obtain⟨c0,c1,c2,c3,c4,c5,c6⟩:=old7 H.out hlb k0 k1 k2 k3 k4 k5 k6;have HPD:=Hd (show acc++parF j (nd::G.nodes.drop (j+1))=parF 0 G.nodes by rw[← drop_nd hnd];exact HP.out);clear k0 k1 k2 k3 k4 k5 k6 hNL hnd;have h3:=H.out.allocBox wr.heap.size 34 [.int .i64 nd.op,.slice S ns cs,.slice D nD cD,.slice E ne ce,.int .i64 nd.n,.int .i64 nd.how,.string nd.note] rfl
   go_upto_region 5 with fail
   generalize wr.alloc (.cells #[.int .i64 nd.op,.slice S ns cs,.slice D nD cD,.slice E ne ce,.int .i64 nd.n,.int .i64 nd.how,.string nd.note] 34)=w3 at *;replace H:=Hd h3;clear h3 c0 c1 c2 c3 c4 c5 c6 g0 g1 g2 g3;obtain⟨n0,n1,n2,n3,n4,n5,n6⟩:=H.out.cells7 0 rfl;by_cases ho:nd.op=1
   ·have dop:(nd.op==1)=true:=by simpa using ho
    have HPE:=Hd (show(acc++[(j:Int)])++parF (j+1) (G.nodes.drop (j+1))=parF 0 G.nodes by have h5:=HPD.out;rw[parF,if_pos ho] at h5;rw[List.append_assoc];exact h5);clear ho
    go_wp2_with (at_builtin;refine wpList_append_sep rfl (.tmp 17) (.tmp 19) 22 3 rfl Tryz.underlying22 Tryz.infoInt H.out 1 rfl rfl (j:Int) ⟨by omega,by omega⟩ _ rfl ?c1 ?_)
    case c1=>omega
    intro v' w' h';have H8:=Hd (Sep.tail_ h');clear h' n0 n1 n2 n3 n4 n5 n6;go_wp2;go_roundw
    case rel=>exact⟨j+1,_,acc++[(j:Int)],rfl,by go_num,by omega,by rw[List.length_append,List.length_singleton];omega,HPE.out,by rw[List.length_append,List.length_singleton];exact H8.out⟩
    case measure=>simp[intOf];omega
   ·have dop:(nd.op==1)=false:=by simpa using ho
    have HPE:=Hd (show acc++parF (j+1) (G.nodes.drop (j+1))=parF 0 G.nodes by have h5:=HPD.out;rw[parF,if_neg ho] at h5;exact h5);clear ho;replace H:=Hd H.out.tail_;go_wp2;go_roundw
    case rel=>exact⟨j+1,_,acc,rfl,by go_num,by omega,by omega,HPE.out,H.out⟩
    case measure=>simp[intOf];omega
  ·obtain rfl:j=nb:=by omega
   have HE:=Hd (show parF 0 G.nodes=acc by have h5:=HP.out;rw[List.drop_eq_nil_of_le (by have:=HBL.out;omega)] at h5;rw[← h5,parF,List.append_nil]);go_wp2;go_ret;rw[HE.out];exact⟨⟨_,_,rfl,H.out.ownS 0 rfl⟩,H.out.base⟩
end Go.Proofs.YtnnmplkgenhofaaGreat
