import Derived.Test.YtnnmplkgenhofaaGreatPae
import Derived.Test.YtnnmplkgenhofaaGreatPbk
import Derived.Test.YtnnmplkgenhofaaGreatPbr
import Derived.Test.YtnnmplkgenhofaaGreatPbx
set_option maxRecDepth 100000
set_option maxHeartbeats 12800000
namespace Go.Proofs.YtnnmplkgenhofaaGreat
open Go.RowKit
theorem nods_block {w:World} {g:Nat} {cs:Array Value} {t:TypeId} {f:Nat × Nat} {N:List NodeV} {n:Nat} (hb:w.heap[g]? = some (.cells cs t f)) (hK:NodK w cs.toList N) (hn:N.length=n) (h9:n≤900):Nods w (some ⟨g,0,none⟩) n N:=by
 refine⟨hn,h9,fun j nd hj=>?_⟩;obtain⟨A,na,ca,B,nb,cb,C,nc,cc,h1,h2⟩:=hK.2 j nd hj
 have hc0:∀ k:Nat,k<7→w.cell? ⟨g,j*7+k,none⟩=(nodeCells nd A na ca B nb cb C nc cc)[k]? := fun k hk=>by
  rw[← h1 k hk,show w.cell? ⟨g,j*7+k,none⟩=cs[j*7+k]? from by simp[World.cell?,hb],Array.getElem?_toList]
 have hlt:g<w.heap.size:=(Array.getElem?_eq_some_iff.1 hb).1;refine⟨⟨g,0,none⟩,A,na,ca,B,nb,cb,C,nc,cc,rfl,hlt,?_,?_,?_,?_,?_,?_,?_,h2⟩
 ·rw[addrL0];exact hc0 0 (by omega)
 ·rw[addrL0];exact hc0 1 (by omega)
 ·rw[addrL0];exact hc0 2 (by omega)
 ·rw[addrL0];exact hc0 3 (by omega)
 ·rw[addrL0];exact hc0 4 (by omega)
 ·rw[addrL0];exact hc0 5 (by omega)
 ·rw[addrL0];exact hc0 6 (by omega)
theorem fits_lit {n:Int} (h : -1000≤n) (g:n≤1000):Fits n:=⟨by omega,by omega⟩
theorem l10known_any (w:World):Calls Tryz.prog 9 #[] w fun e w' => e=.returned (.bool true)∧Below w.heap.size w w' := by
 go_enter Tryz.func9,Tryz.ntmps9
 have h1:=(((Sep.nil w).lit 3 #[.int .i64 0] [0] 1 (w.heap.size) rfl rfl rfl).allocBox (w.heap.size+1) 34 [.int .i64 4,.slice (some ⟨w.heap.size,0,none⟩) 1 1,.slice none 0 0,.slice none 0 0,.int .i64 0,.int .i64 0,.string ⟨#[]⟩] (by simp)).allocBox (w.heap.size+1+1) 25 [.slice none 0 0,.string ⟨#[]⟩,.slice (some ⟨w.heap.size+1,0,none⟩) 1 1,.slice none 0 0] (by simp)
 go_upto_region 2 with fail
 generalize (((w.alloc (.cells #[.int .i64 0] 3)).alloc (.cells #[.int .i64 4,.slice (some ⟨w.heap.size,0,none⟩) 1 1,.slice none 0 0,.slice none 0 0,.int .i64 0,.int .i64 0,.string ⟨#[]⟩] 34)).alloc (.cells #[.slice none 0 0,.string ⟨#[]⟩,.slice (some ⟨w.heap.size+1,0,none⟩) 1 1,.slice none 0 0] 25))=w1 at *;have H:=Hd h1;clear h1;have h2:=((((H.out).lit 3 #[.int .i64 2] [2] 1 (w1.heap.size) rfl rfl rfl).lit 3 #[.int .i64 2] [2] 1 (w1.heap.size+1) (by simp) rfl rfl).allocBox (w1.heap.size+1+1) 34 [.int .i64 1,.slice none 0 0,.slice (some ⟨w1.heap.size+1,0,none⟩) 1 1,.slice none 0 0,.int .i64 0,.int .i64 0,.string ⟨#[120,46]⟩] (by simp)).allocBox (w1.heap.size+1+1+1) 25 [.slice (some ⟨w1.heap.size,0,none⟩) 1 1,.string ⟨#[120]⟩,.slice (some ⟨w1.heap.size+1+1,0,none⟩) 1 1,.slice none 0 0] (by simp)
 go_upto_region 3 with fail
 generalize ((((w1.alloc (.cells #[.int .i64 2] 3)).alloc (.cells #[.int .i64 2] 3)).alloc (.cells #[.int .i64 1,.slice none 0 0,.slice (some ⟨w1.heap.size+1,0,none⟩) 1 1,.slice none 0 0,.int .i64 0,.int .i64 0,.string ⟨#[120,46]⟩] 34)).alloc (.cells #[.slice (some ⟨w1.heap.size,0,none⟩) 1 1,.string ⟨#[120]⟩,.slice (some ⟨w1.heap.size+1+1,0,none⟩) 1 1,.slice none 0 0] 25))=w2 at *;replace H:=Hd h2;clear h2;have H3:=Hd (((((H.out).lit 3 #[.int .i64 2,.int .i64 3] [2,3] 2 (w2.heap.size) rfl rfl rfl).lit 3 #[.int .i64 0] [0] 1 (w2.heap.size+1) (by simp) rfl rfl).lit 3 #[.int .i64 1,.int .i64 0] [1,0] 2 (w2.heap.size+1+1) (by simp) rfl rfl).allocBox (w2.heap.size+1+1+1) 34 [.int .i64 1,.slice none 0 0,.slice (some ⟨w2.heap.size,0,none⟩) 2 2,.slice none 0 0,.int .i64 0,.int .i64 0,.string ⟨#[]⟩,.int .i64 13,.slice (some ⟨w2.heap.size+1,0,none⟩) 1 1,.slice none 0 0,.slice (some ⟨w2.heap.size+1+1,0,none⟩) 2 2,.int .i64 0,.int .i64 0,.string ⟨#[]⟩] (by simp));have hN3:=nods_block (n:=2) (N:=gvTwo.nodes) (H3.out.heap 0 rfl) ((nodK_one (nd:=nodV 1 [] [2,3] []) ⟨Nat.le_refl _,Nat.le_refl _,Nat.le_refl _,Ints.nil_ _ none,(H3.out.ownInts 3 rfl).2.2,Ints.nil_ _ none,fits_lit (by decide) (by decide),fits0,fits0,by show 0≤_;omega⟩).append (nodK_one (nd:=nodV 13 [0] [] [1,0]) ⟨Nat.le_refl _,Nat.le_refl _,Nat.le_refl _,(H3.out.ownInts 2 rfl).2.2,Ints.nil_ _ none,(H3.out.ownInts 1 rfl).2.2,fits_lit (by decide) (by decide),fits0,fits0,by show 0≤_;omega⟩)) rfl (by omega);have hN2:=nods_block (n:=1) (N:=gvNoted.nodes) (H3.out.heap 5 rfl) (nodK_one (nd:=⟨1,[],[2],[],0,0,⟨#[120,46]⟩⟩) ⟨Nat.le_refl _,Nat.le_refl _,Nat.le_refl _,Ints.nil_ _ none,(H3.out.ownInts 6 rfl).2.2,Ints.nil_ _ none,fits_lit (by decide) (by decide),fits0,fits0,by show 2≤_;omega⟩) rfl (by omega);have hN1:=nods_block (n:=1) (N:=gvOwn.nodes) (H3.out.heap 9 rfl) (nodK_one (nd:=nodV 4 [0] [] []) ⟨Nat.le_refl _,Nat.le_refl _,Nat.le_refl _,(H3.out.ownInts 10 rfl).2.2,Ints.nil_ _ none,Ints.nil_ _ none,fits_lit (by decide) (by decide),fits0,fits0,by show 0≤_;omega⟩) rfl (by omega);have HGTwo:Hid (GraphIs _ (.agg #[.slice none 0 0,.string ⟨#[]⟩,.slice (some ⟨w2.heap.size+1+1+1,0,none⟩) 2 2,.slice none 0 0]) gvTwo):=Hd ⟨_,_,_,_,_,_,_,_,_,rfl,⟨Nat.le_refl _,Nat.le_refl _,Nat.le_refl _,Ints.nil_ _ none,hN3,Ints.nil_ _ none,by show 0≤_;omega⟩⟩;have HGNoted:Hid (GraphIs _ (.agg #[.slice (some ⟨w1.heap.size,0,none⟩) 1 1,.string ⟨#[120]⟩,.slice (some ⟨w1.heap.size+1+1,0,none⟩) 1 1,.slice none 0 0]) gvNoted):=Hd ⟨_,_,_,_,_,_,_,_,_,rfl,⟨Nat.le_refl _,Nat.le_refl _,Nat.le_refl _,(H3.out.ownInts 7 rfl).2.2,hN2,Ints.nil_ _ none,by show 1≤_;omega⟩⟩;have HGOwn:Hid (GraphIs _ (.agg #[.slice none 0 0,.string ⟨#[]⟩,.slice (some ⟨w.heap.size+1,0,none⟩) 1 1,.slice none 0 0]) gvOwn):=Hd ⟨_,_,_,_,_,_,_,_,_,rfl,⟨Nat.le_refl _,Nat.le_refl _,Nat.le_refl _,Ints.nil_ _ none,hN1,Ints.nil_ _ none,by show 0≤_;omega⟩⟩;have hGN:∀ w9:World,GraphIs w9 (.agg #[.slice none 0 0,.string ⟨#[]⟩,.slice none 0 0,.slice none 0 0]) gvNone:=fun w9=>⟨_,_,_,_,_,_,_,_,_,rfl,⟨Nat.le_refl _,Nat.le_refl _,Nat.le_refl _,Ints.nil_ _ none,⟨rfl,by omega,fun j nd h=>by simp[gvNone] at h⟩,Ints.nil_ _ none,by show 0≤_;omega⟩⟩
 have HGN:=Hd hGN;clear hN1 hN2 hN3 hGN
 have hsTwo:SmallG 800 gvTwo:=fun j nd hj=>by
  have:=List.mem_of_getElem? hj;simp[gvTwo,nodV] at this;rcases this with rfl|rfl <;> simp
 have hsNoted:SmallG 800 gvNoted:=fun j nd hj=>by
  have:=List.mem_of_getElem? hj;simp[gvNoted] at this;subst this;simp
 have hsOwn:SmallG 800 gvOwn:=fun j nd hj=>by
  have:=List.mem_of_getElem? hj;simp[gvOwn,nodV] at this;subst this;simp
 have hsNone:SmallG 800 gvNone:=fun j nd hj=>by
  have:=List.mem_of_getElem? hj;simp[gvNone] at this
 have C1:=gShapes_any HGTwo.out hsTwo;rw[shapes_two] at C1;have HC1:=Hd C1;clear C1
 go_wp2_with fail
 refine HC1.out.mono ?_;rintro e1 w4 ⟨⟨A1,m1,c1,rfl,hc1,hL1⟩,hb1⟩;obtain rfl:m1=2:=by have:=hL1.1;simpa using this.symm
 have H4:=Hd (H3.out.below hb1);have HOwn:=Hd (HGOwn.out.below hb1);have HNoted:=Hd (HGNoted.out.below hb1);obtain⟨a1,S1,sn1,sc1,rfl,hab,cS1,hsc1,hS1⟩:=hL1.2.2 1 [3,2] rfl;have HB4:=Hd (Below.refl w4.heap.size w4);have HS1:=Hd hS1;have HAB:=Hd hab;have HCS:=Hd cS1;clear hL1 hb1 HC1 hS1 cS1 hab;have C2:=gRight_any (HGN.out w4) hsNone;rw[shapes_none] at C2
 go_wp2_with fail
 refine C2.mono ?_;rintro e2 w5 ⟨rfl,hb2⟩;have HB5:=Hd hb2;have H5:=Hd (H4.out.below hb2);clear C2 hb2;have CC:=gRight_any (HOwn.out.below HB5.out) hsOwn;rw[shapes_own] at CC;obtain⟨g0,g1,g2,g3⟩:=H5.out.cells4 8 rfl;obtain⟨k0,k1,k2,k3⟩:=H5.out.cells4 4 rfl
 go_wp2_with fail
 refine CC.mono ?_;rintro e9 w6 ⟨rfl,hb9⟩;have H6:=Hd (H5.out.below hb9);have HB6:=Hd (then_ HB5.out hb9);clear CC hb9 g0 g1 g2 g3 k0 k1 k2 k3;have CC:=gRight_any (HNoted.out.below HB6.out) hsNoted;rw[shapes_noted] at CC;obtain⟨g0,g1,g2,g3⟩:=H6.out.cells4 8 rfl;obtain⟨k0,k1,k2,k3⟩:=H6.out.cells4 4 rfl
 go_wp2_with fail
 refine CC.mono ?_;rintro e9 w7 ⟨rfl,hb9⟩;have H7:=Hd (H6.out.below hb9);have HB7:=Hd (then_ HB6.out hb9);clear CC hb9 g0 g1 g2 g3 k0 k1 k2 k3;have hq:=H7.out.lit 3 #[.int .i64 3,.int .i64 2] [3,2] 2 w7.heap.size rfl rfl rfl;have HQ:=Hd hq;have HB7b:=Hd (HB7.out.alloc HB7.out.size (.cells #[.int .i64 3,.int .i64 2] 3))
 have cl0:w7.cell? ⟨a1.block,a1.off+1,none⟩=some (.slice S1 sn1 sc1):=by
  rw[show(⟨a1.block,a1.off+1,none⟩:Addr)=a1.add 1 from rfl];exact(HB7.out.cell (by rw[block_of_add];exact HAB.out)).trans HCS.out
 have CC:=bookSame_eq (c:=sc1) (d:=2) (HS1.out.below HB7b.out) ((HQ.out.ownInts 0 rfl).2.2);clear hq
 go_wp2_with fail
 refine CC.mono ?_;rintro e9 w8 ⟨rfl,q8,hw8⟩;have H8:=Hd (HQ.out.drewN q8);have HB8:=Hd (below_drewN HB7b.out q8);rw[← hw8] at H8 HB8;clear CC hw8 cl0;have CC:=gParams_any (HNoted.out.below HB8.out);rw[par_noted] at CC;obtain⟨g0,g1,g2,g3⟩:=H8.out.cells4 9 rfl;obtain⟨k0,k1,k2,k3⟩:=H8.out.cells4 5 rfl
 go_wp2_with fail
 refine CC.mono ?_;rintro e9 w9 ⟨⟨v9,m9,rfl,hO9⟩,hb9⟩;obtain⟨A9,c9,rfl,_,_,_⟩:=hO9.form;have H9:=Hd (H8.out.addOwn hb9 hO9);have HB9:=Hd (then_ HB8.out hb9);clear CC hb9 hO9 g0 g1 g2 g3 k0 k1 k2 k3;have hq:=H9.out.lit 3 #[.int .i64 0] [0] 1 w9.heap.size rfl rfl rfl;have HQ2:=Hd hq;have HB9b:=Hd (HB9.out.alloc HB9.out.size (.cells #[.int .i64 0] 3));clear hq;have CC:=bookSame_eq (c:=c9) (d:=1) ((HQ2.out.ownInts 1 rfl).2.2) ((HQ2.out.ownInts 0 rfl).2.2)
 go_wp2_with fail
 refine CC.mono ?_;rintro e9 w10 ⟨rfl,q10,hw10⟩;have H10:=Hd (HQ2.out.drewN q10);have HB10:=Hd (below_drewN HB9b.out q10);rw[← hw10] at H10 HB10;clear CC hw10;have CC:=gSame_any (HOwn.out.below HB10.out) (HOwn.out.below HB10.out);rw[sameG_yes rfl] at CC;obtain⟨g0,g1,g2,g3⟩:=H10.out.cells4 11 rfl;obtain⟨k0,k1,k2,k3⟩:=H10.out.cells4 7 rfl
 go_wp2_with fail
 refine CC.mono ?_;rintro e9 w11 ⟨rfl,hb9⟩;have H11:=Hd (H10.out.below hb9);have HB11:=Hd (then_ HB10.out hb9);clear CC hb9 g0 g1 g2 g3 k0 k1 k2 k3;have CC:=gSame_any (HOwn.out.below HB11.out) (HNoted.out.below HB11.out);rw[own_noted] at CC;obtain⟨g0,g1,g2,g3⟩:=H11.out.cells4 11 rfl;obtain⟨k0,k1,k2,k3⟩:=H11.out.cells4 7 rfl
 go_wp2_with fail
 refine CC.mono ?_;rintro e9 w12 ⟨rfl,hb9⟩;have H12:=Hd (H11.out.below hb9);clear CC hb9 g0 g1 g2 g3 k0 k1 k2 k3;go_wp2;go_ret;exact⟨by trivial,H12.out.base⟩
theorem Lils.take {w:World} {A:Option Addr} {n:Nat} {L:List (List Int)} (h:Lils w A n L) {k:Nat} (hk:k≤n):Lils w A k (L.take k) :=
 ⟨by rw[List.length_take,h.1];omega,by have:=h.2.1;omega,fun j x hx=>by
  have hj:j<k:=by have:=(List.getElem?_eq_some_iff.1 hx).1;rw[List.length_take] at this;omega
  rw[List.getElem?_take,if_pos hj] at hx
  exact h.2.2 j x hx⟩
end Go.Proofs.YtnnmplkgenhofaaGreat
