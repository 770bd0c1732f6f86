import Derived.Test.YtdcmanhgekjhgaaGreatDoorPat
set_option maxRecDepth 100000
set_option maxHeartbeats 12800000
namespace Go.Proofs.YtdcmanhgekjhgaaGreatDoor
open Go.RowKit Go.Proofs.Tryz
variable {A:Option Addr} {L:List a0l} {P l l0 l1 pool:List a0e} {a c g i n r:Nat} {t:TypeId} {us:List Value} {v v0 v1 v2 v3 v4 v5 v6:Value} {w w0:World} {xs:List Int}
theorem e0w:(prog.info? 4).map (fun i=>(i.zero,i.size,i.bytes))=some (some (.bool false),1,1):=by kernel_rfl
theorem b9i (hn:n≤17592186044000)(w:World):
  (Instr.makeSlice 95 (.int .i64 n) (.int .i64 n)).run prog w=.ok (.slice (some ⟨w.heap.size,0,none⟩) n n) (w.alloc (.cells (Array.replicate n (Value.bool false)) 4)):=by
 rw[←List.toArray_replicate];have hu:prog.underlying 95=some (.slice 4):=by kernel_rfl
 have hb:=e0w
 cases e:prog.info? 4 with
 | none=>rw[e] at hb;cases hb
 | some i =>
  rw[e] at hb;simp only[Option.map_some,Option.some.injEq,Prod.mk.injEq] at hb;obtain⟨hz0,hz1,hz2⟩:=hb;have:=run_make (P:=prog) w _ _ i (.bool false) hu e hz0 .i64 .i64 n n (by omega) (by omega) (by rw[hz2];omega) (by omega);rw[this,hz1];simp only[Int.toNat_natCast,Nat.mul_one]
  have hm:madeCells (Value.bool false).cells n=(List.replicate n (Value.bool false)).toArray:=by
   apply Array.toList_inj.1;rw[show(Value.bool false).cells=#[Value.bool false] from rfl,toList_madeCells_one]
  rw[hm]
theorem d8j (acc:List Int)(m:Nat)(x y:Int):(acc++y::List.replicate m 0).set acc.length x=(acc++[x])++List.replicate m 0:=by simp
def a3b (xs:List Int) (ns:Nat):Nat→Nat→List Bool→List Int × Nat
 | 0,a,_=>([],a)
 | m+1,a,used =>
  if 0<ns then
   (if tv xs a 2=0 then
    (if used.getD (tv xs (ta xs a 2) ns).toNat true=false then
     (tv xs (ta xs a 2) ns::(a3b xs ns m (ta xs (ta xs a 2) ns) (used.set (tv xs (ta xs a 2) ns).toNat true)).1,(a3b xs ns m (ta xs (ta xs a 2) ns) (used.set (tv xs (ta xs a 2) ns).toNat true)).2)
    else(-1::(a3b xs ns m (ta xs (ta xs a 2) ns) used).1,(a3b xs ns m (ta xs (ta xs a 2) ns) used).2))
   else(-1::(a3b xs ns m (ta xs a 2) used).1,(a3b xs ns m (ta xs a 2) used).2))
  else(-1::(a3b xs ns m a used).1,(a3b xs ns m a used).2)
theorem e6x {A1:Option Addr}{ns c1:Nat}(hr:r≤100)(hns:ns≤100)(H:Sep w0 w l)(hi:l[i]?=some (TB g A n c a))(hI:Ints w0 A n xs)(ha:a≤n):
  Calls prog 28 #[.pointer (some ⟨g,0,none⟩),.slice A1 ns c1,.int .i64 r] w fun e w'=>∃ v m,e=.returned v∧∃ l1,KT l i (TB g A n c (a3b xs ns r a (List.replicate ns false)).2) l1∧Sep w0 w' (.own 3 v m (a3b xs ns r a (List.replicate ns false)).1::l1):=by
 have HXL:=Hd hI.len;have HI:=Hd hI;have hnle:=hI.le;have KI:=Hd hi;have hm1:=a2z underlying25 Tryz.infoInt (n:=r) (by omega);have hm2:=b9i (n:=ns) (by omega);have h1:=(H.noughts 3 r (by omega)).allocBox (w.heap.size+1) 4 (List.replicate ns (Value.bool false)) (by simp);rw[List.toArray_replicate] at h1
 go_enter func28,ntmps28
 go_upto_region 3 with fail
 generalize (w.alloc (.cells (noughts r) 3)).alloc (.cells (Array.replicate ns (Value.bool false)) 4)=w2 at *;have hgs:w.heap.size<w.heap.size+1:=by omega
 generalize w.heap.size+1=gu at *;generalize w.heap.size=go at *;have H1:=Hd (h1.swap);clear h1 hm1 hm2 H hI hi
 go_wp2_with fail
 go_loopw [18] (fun iv wr=>∃(j:Nat) (acc:List Int) (a2:Nat) (used:List Bool) (l1:List a0e),iv=.int .i64 j∧j≤r∧acc.length=j∧used.length=ns∧a2≤n∧(acc++(a3b xs ns (r-j) a2 used).1,(a3b xs ns (r-j) a2 used).2)=a3b xs ns r a (List.replicate ns false)∧KT l i (TB g A n c a2) l1∧Sep w0 wr (.own 3 (.slice (some ⟨go,0,none⟩) r r) r (acc++List.replicate (r-j) 0)::.box gu 4 (used.map Value.bool)::l1)) (fun iv _=>r-(intOf iv).toNat)
 case atStart=>exact⟨0,[],a,List.replicate ns false,l,rfl,by omega,rfl,by simp,ha,rfl,⟨KI,fun _=>rfl⟩,by rw[List.map_replicate];exact H1⟩
 case round =>
  clear H1;obtain⟨j,acc,a2,used,l1,rfl,hj,hacc,hul,ba2,hq,hK,hS⟩:=hrel;have HQ:=Hd hq;have HK:=Hd hK;have HUL:=Hd hul;have HACC:=Hd hacc;clear hq hK hul hacc;by_cases hlt:j<r
  ·obtain⟨m,hm⟩:∃ m,r-j=m+1:=⟨r-j-1,by omega⟩;rw[hm,List.replicate_succ] at hS;have HQD:=Hd (show(acc++(a3b xs ns (m+1) a2 used).1,(a3b xs ns (m+1) a2 used).2)=a3b xs ns r a (List.replicate ns false) by rw[←hm];exact HQ);have HM:=Hd (show r-(j+1)=m by omega);clear hm;have hxz:(acc++0::List.replicate m 0)[j]?=some 0:=by rw[List.getElem?_append_right (by have:=HACC.out;omega),HACC.out];simp
   have hcz:=(hS.own 0 rfl).cell hxz;have hff:=(hS.own 0 rfl).frozen j;have h5:=hS.store 0 j (x := -1) ⟨by omega,by omega⟩ rfl;rw[show(acc++0::List.replicate m 0:List Int).set j (-1)=(acc++[-1])++List.replicate m 0 by rw[←HACC.out];exact d8j acc m (-1) 0] at h5;have H5:=Hd (show Sep w0 (wr.setCell ⟨go,j,none⟩ (.int .i64 (-1))) (.own 3 (.slice (some ⟨go,0,none⟩) r r) r ((acc++[-1])++List.replicate m 0)::.box gu 4 (used.map Value.bool)::l1) from h5);clear h5 hS hxz
   go_upto_region 7 with fail
   generalize wr.setCell ⟨go,j,none⟩ (.int .i64 (-1))=w5 at *;clear hcz hff;by_cases hns:0<ns
   ·have d1:decide (0<ns)=true:=by simpa using hns
    go_wp2_with fail
    refine(a5e 2 H5 (i:=i+2) HK.out.1 HI ba2 ⟨by omega,by omega⟩).mono ?_;rintro e3 w3 ⟨rfl,l3,hK3,hS3⟩;obtain rfl:=hK3.eq;obtain⟨q,hq⟩:∃ q,tv xs a2 2=q:=⟨_,rfl⟩;obtain⟨a3,ha3⟩:∃ r,ta xs a2 2=r:=⟨_,rfl⟩;have ba3:=a1p 2 HXL ba2;rw[ha3] at ba3 hS3;rw[hq];have HQ3:=Hd hq;have HA3:=Hd ha3;have H6:=Hd (show Sep w0 w3 (.own 3 (.slice (some ⟨go,0,none⟩) r r) r ((acc++[-1])++List.replicate m 0)::.box gu 4 (used.map Value.bool)::l1.set i (TB g A n c a3)) from hS3);have HK6:=Hd (HK.trans_ (KT.mk_ (b:=TB g A n c a3) HK.out.1));clear hq ha3 hS3 hK3 H5;by_cases h0:q=0
    ·subst h0
     go_wp2_with fail
     refine(a5e (ns:Int) H6 (i:=i+2) HK6.out.1 HI ba3 ⟨by omega,by omega⟩).mono ?_;rintro e4 w4 ⟨rfl,l4,hK4,hS4⟩;obtain rfl:=hK4.eq;have k0:=a0q xs a3 (ns:Int);have k1:=a4b xs a3 (show(0:Int)<(ns:Int) by omega);obtain⟨kv,hkv⟩:∃ q,tv xs a3 (ns:Int)=q:=⟨_,rfl⟩;rw[hkv] at k0 k1 ⊢;obtain⟨k,rfl⟩:=eZ k0;obtain⟨a4,ha4⟩:∃ r,ta xs a3 (ns:Int)=r:=⟨_,rfl⟩;have ba4:=a1p (ns:Int) HXL ba3;rw[ha4] at ba4 hS4;have HKV:=Hd hkv;have HA4:=Hd ha4;have H7:=Hd (show Sep w0 w4 (.own 3 (.slice (some ⟨go,0,none⟩) r r) r ((acc++[-1])++List.replicate m 0)::.box gu 4 (used.map Value.bool)::(l1.set i (TB g A n c a3)).set i (TB g A n c a4)) from hS4);have HK7:=Hd (HK6.trans_ (KT.mk_ (b:=TB g A n c a4) HK6.out.1));have hkn:k<ns:=by omega
     clear hkv ha4 hS4 hK4 H6 k0 k1;obtain⟨ub,hub⟩:∃ b,used[k]?=some b:=gE (by have:=HUL.out;omega);have hcu:=H7.cell 1 k rfl (show(used.map Value.bool)[k]?=some (.bool ub) by rw[List.getElem?_map,hub];rfl);have HGD:=Hd (show used.getD k true=ub by rw[gD,hub];rfl);have HUB:=Hd hub;clear hub
     cases ub with
     | false =>
      have hxz:((acc++[-1])++List.replicate m 0)[j]?=some (-1):=by rw[List.getElem?_append_left (by rw[List.length_append,List.length_singleton];have:=HACC.out;omega),List.getElem?_append_right (by have:=HACC.out;omega),HACC.out];simp
      have hcz:=(H7.own 0 rfl).cell hxz;have hff:=(H7.own 0 rfl).frozen j;have h8:=H7.store 0 j (x:=(k:Int)) ⟨by omega,by omega⟩ rfl;rw[show((acc++[-1])++List.replicate m 0:List Int).set j (k:Int)=(acc++[(k:Int)])++List.replicate m 0 by rw[List.append_assoc,List.singleton_append,←HACC.out];exact d8j acc m k (-1)] at h8;have H8:=Hd (show Sep w0 (w4.setCell ⟨go,j,none⟩ (.int .i64 (k:Int))) (.own 3 (.slice (some ⟨go,0,none⟩) r r) r ((acc++[(k:Int)])++List.replicate m 0)::.box gu 4 (used.map Value.bool)::(l1.set i (TB g A n c a3)).set i (TB g A n c a4)) from h8);have hcu2:=H8.cell 1 k rfl (show(used.map Value.bool)[k]?=some (.bool false) by rw[List.getElem?_map,HUB.out];rfl);have hfu2:=H8.frozenBox 1 k rfl;have h9:=H8.setBox 1 k (.bool true) rfl;have HMS:=Hd (show(used.map Value.bool).set k (.bool true)=(used.set k true).map Value.bool by rw[List.map_set]);have h10:Sep w0 ((w4.setCell ⟨go,j,none⟩ (.int .i64 (k:Int))).setCell ⟨gu,k,none⟩ (.bool true)) (.own 3 (.slice (some ⟨go,0,none⟩) r r) r ((acc++[(k:Int)])++List.replicate m 0)::.box gu 4 ((used.map Value.bool).set k (.bool true))::(l1.set i (TB g A n c a3)).set i (TB g A n c a4)):=h9;rw[HMS.out] at h10;have H10:=Hd h10;clear h8 h9 h10 hxz;have HQE:=Hd (show((acc++[(k:Int)])++(a3b xs ns m a4 (used.set k true)).1,(a3b xs ns m a4 (used.set k true)).2)=a3b xs ns r a (List.replicate ns false) by have h7:=HQD.out;rw[a3b,iP hns,HQ3.out,iP rfl,HA3.out,HKV.out,Int.toNat_natCast,HGD.out,iP rfl,HA4.out] at h7;rw[List.append_assoc];exact h7);go_wp2;go_roundw
      case rel=>exact⟨j+1,acc++[(k:Int)],a4,used.set k true,_,by go_num,by omega,by rw[List.length_append,List.length_singleton,HACC.out],by rw[List.length_set];exact HUL,by first|exact ba2|omega,by rw[HM.out];exact HQE,HK7,by rw[HM.out];exact H10⟩
      case measure=>simp[intOf];omega
     | true =>
      have HQE:=Hd (show((acc++[-1])++(a3b xs ns m a4 used).1,(a3b xs ns m a4 used).2)=a3b xs ns r a (List.replicate ns false) by have h7:=HQD.out;rw[a3b,iP hns,HQ3.out,iP rfl,HA3.out,HKV.out,Int.toNat_natCast,HGD.out,iN (by decide),HA4.out] at h7;rw[List.append_assoc];exact h7);go_wp2;go_roundw
      case rel=>exact⟨j+1,acc++[-1],a4,used,_,by go_num,by omega,by rw[List.length_append,List.length_singleton,HACC.out],HUL,by first|exact ba2|omega,by rw[HM.out];exact HQE,HK7,by rw[HM.out];exact H7⟩
      case measure=>simp[intOf];omega
    ·have d2:(q==0)=false:=by simpa using h0
     have HQE:=Hd (show((acc++[-1])++(a3b xs ns m a3 used).1,(a3b xs ns m a3 used).2)=a3b xs ns r a (List.replicate ns false) by have h7:=HQD.out;rw[a3b,iP hns,HQ3.out,iN h0,HA3.out] at h7;rw[List.append_assoc];exact h7);clear h0;go_wp2;go_roundw
     case rel=>exact⟨j+1,acc++[-1],a3,used,_,by go_num,by omega,by rw[List.length_append,List.length_singleton,HACC.out],HUL,by first|exact ba2|omega,by rw[HM.out];exact HQE,HK6,by rw[HM.out];exact H6⟩
     case measure=>simp[intOf];omega
   ·have d1:decide (0<ns)=false:=by simpa using hns
    have HQE:=Hd (show((acc++[-1])++(a3b xs ns m a2 used).1,(a3b xs ns m a2 used).2)=a3b xs ns r a (List.replicate ns false) by have h7:=HQD.out;rw[a3b,iN hns] at h7;rw[List.append_assoc];exact h7);go_wp2;go_roundw
    case rel=>exact⟨j+1,acc++[-1],a2,used,_,by go_num,by omega,by rw[List.length_append,List.length_singleton,HACC.out],HUL,by first|exact ba2|omega,by rw[HM.out];exact HQE,HK,by rw[HM.out];exact H5⟩
    case measure=>simp[intOf];omega
  ·have hjr:j=r:=by omega
   have HE:=Hd (show a3b xs ns r a (List.replicate ns false)=(acc,a2) by rw[←HQ.out,show r-j=0 by omega,a3b,List.append_nil]);rw[show r-j=0 by omega,List.replicate_zero,List.append_nil] at hS;have HS:=Hd hS;clear hS;go_wp2;go_ret;rw[HE.out];exact⟨_,_,rfl,_,HK,HS.less1⟩
theorem Sep.pick {l':List a0e}(H:Sep w0 w (P++l1))(f:List Nat)(hf:f.map (fun i:Nat=>P[i]?)=l'.map some)(hd:f.Nodup):Sep w0 w (l' ++ l1):=by
 have hlt:∀ k∈f,k<P.length:=by
  intro k hk;have:P[k]? ∈ l'.map some:=by rw[←hf];exact List.mem_map.2 ⟨k,hk,rfl⟩
  obtain⟨c,_,hc⟩:=List.mem_map.1 this;exact(lL hc.symm)
 refine H.sub (f++(List.range l1.length).map (fun j=>P.length+j)) ?_ ?_
 ·rw[List.map_append,List.map_append,←hf]
  congr 1
  ·exact List.map_congr_left fun k hk=>List.getElem?_append_left (hlt k hk)
  ·rw[List.map_map];apply List.ext_getElem?;intro j;rw[List.getElem?_map,List.getElem?_map];rcases Nat.lt_or_ge j l1.length with h|h
   ·rw[List.getElem?_range h,List.getElem?_eq_getElem h];simp only[Option.map_some,Function.comp];rw[List.getElem?_append_right (by omega),show P.length+j-P.length=j by omega,List.getElem?_eq_getElem h]
   ·rw[List.getElem?_eq_none (by simpa using h),List.getElem?_eq_none h];rfl
 ·rw[List.nodup_append];refine⟨hd,?_,?_⟩
  ·exact List.pairwise_map.2 ((List.nodup_range (n:=l1.length)).imp (fun {a b} h hab=>h (by omega)))
  ·intro a ha b hb hab;obtain⟨j,_,rfl⟩:=List.mem_map.1 hb;have:=hlt a ha;omega
theorem Tryz.sizeNode:(prog.info? 49).map (·.size)=some 7:=by kernel_rfl
theorem Sep.setBoxP {vs:List Value}(h:Sep w0 w (P++l1))(i j:Nat)(v:Value)(hi:P[i]?=some (.box g t vs)):
  Sep w0 (w.setCell ⟨g,j,none⟩ v) (P.set i (.box g t (vs.set j v))++l1):=by
 have hl:i<P.length:=(lL hi);have:=h.setBox i j v (by rw[List.getElem?_append_left hl];exact hi);rwa [List.set_append_left _ _ hl] at this
theorem Sep.set7 {u0 u1 u2 u3 u4 u5 u6:Value}(h:Sep w0 w (P++l1))(i:Nat)(hi:P[i]?=some (.box g t [u0,u1,u2,u3,u4,u5,u6]))(v0 v1 v2 v3 v4 v5 v6:Value):
  Sep w0 (((((((w.setCell ⟨g,0,none⟩ v0).setCell ⟨g,1,none⟩ v1).setCell ⟨g,2,none⟩ v2).setCell ⟨g,3,none⟩ v3).setCell ⟨g,4,none⟩ v4).setCell ⟨g,5,none⟩ v5).setCell ⟨g,6,none⟩ v6) (P.set i (.box g t [v0,v1,v2,v3,v4,v5,v6])++l1):=by
 have hl:i<P.length:=(lL hi);have h1:=h.setBoxP i 0 v0 hi;have h2:=h1.setBoxP i 1 v1 (by rw[List.getElem?_set_self hl]);rw[List.set_set] at h2;have h3:=h2.setBoxP i 2 v2 (by rw[List.getElem?_set_self hl]);rw[List.set_set] at h3;have h4:=h3.setBoxP i 3 v3 (by rw[List.getElem?_set_self hl]);rw[List.set_set] at h4;have h5:=h4.setBoxP i 4 v4 (by rw[List.getElem?_set_self hl]);rw[List.set_set] at h5;have h6:=h5.setBoxP i 5 v5 (by rw[List.getElem?_set_self hl]);rw[List.set_set] at h6;have h7:=h6.setBoxP i 6 v6 (by rw[List.getElem?_set_self hl]);rw[List.set_set] at h7;exact h7
theorem Sep.litP (h:Sep w0 w (P++l1))(e:TypeId)(cs:Array Value)(xs:List Int)(n:Nat)(hc:cs.toList=xs.map (Value.int .i64))(hl:a1e xs n=true):
  Sep w0 (w.alloc (.cells cs e)) ((.own e (.slice (some ⟨w.heap.size,0,none⟩) n n) n xs::P)++l1):=h.lit e cs xs n _ rfl hc hl
theorem a1g {fn:Func}{R:Ending→World→Prop}{a:Act}{p:Tmp}(H:Sep w0 w l)(i:Nat)(hi:l[i]?=some (.box g 49 [v0,v1,v2,v3,v4,v5,v6]))
  (h:fn.results=#[.cell p 49])(hp:a.tmps.getD p undef=.pointer (some ⟨g,0,none⟩))(hd:a.defers=[])(hR:R (.returned (.agg #[v0,v1,v2,v3,v4,v5,v6])) w):bodyPost prog fn R .ret a w :=
 bodyPost_ret_by (results_cell_row h a.tmps w g _ _ _ _ hp (H.heap i hi) underlying49 rfl Tryz.sizeNode) hd hR
theorem d0i (i:Nat):(P++l0)[P.length+i]?=l0[i]? := by
 rw[List.getElem?_append_right (by omega),show P.length+i-P.length=i by omega]
theorem e4j (i:Nat)(X:a0e):(P++l0).set (P.length+i) X=P++l0.set i X:=by
 rw[List.set_append_right _ _ (by omega),show P.length+i-P.length=i by omega]
theorem KT.app {b b' : a0e}(hK:KT l i b l0)(h:KT (P++l0) (P.length+i) b' l1):∃ l2,l1=P++l2∧KT l i b' l2 :=
 ⟨_,h.eq.trans (e4j i b'),hK.trans_ (KT.mk_ hK.1)⟩
section
variable {w0 w : World} {P l l0 : List a0e} {i g : Nat} {A : Option Addr} {n c a : Nat} {xs : List Int}
theorem b0d (m:Int)(H:Sep w0 w (P++l0))(hK:KT l i (TB g A n c a) l0)(hI:Ints w0 A n xs)(ha:a≤n)(hm:Fits m):
  Calls prog 23 #[.pointer (some ⟨g,0,none⟩),.int .i64 m] w fun e w'=>e=.returned (.int .i64 (tv xs a m))∧∃ l1,KT l i (TB g A n c (ta xs a m)) l1∧Sep w0 w' (P++l1) :=
 (a5e m H (i:=P.length+i) ((d0i i).trans hK.1) hI ha hm).mono fun _ _ ⟨he,_,h1,h2⟩=>by
  obtain⟨l2,e,h3⟩:=hK.app h1;subst e;exact⟨he,l2,h3,h2⟩
theorem a0x (m:Int)(H:Hid (Sep w0 w (P++l0)))(hK:Hid (KT l i (TB g A n c a) l0))(hI:Hid (Ints w0 A n xs))(ha:a≤n)(h0:0<m)(hm:Fits m):
  Calls prog 23 #[.pointer (some ⟨g,0,none⟩),.int .i64 m] w fun e w'=>∃(r a1:Nat) (l1:List a0e),e=.returned (.int .i64 (r:Int))∧Hid (tv xs a m=(r:Int))∧(r:Int)<m∧Hid (ta xs a m=a1)∧a1≤n∧Hid (KT l i (TB g A n c a1) l1)∧Hid (Sep w0 w' (P++l1)) :=
 (b0d m H hK hI ha hm).mono fun _ _ ⟨he,l1,h1,h2⟩=>by
  obtain⟨r,hr⟩:=eZ (a0q xs a m);have hl:=a4b xs a h0;rw[hr] at hl he;exact⟨r,ta xs a m,l1,he,Hd hr,hl,Hd rfl,a1p m hI.len ha,Hd h1,Hd h2⟩
theorem c3i (H:Sep w0 w (P++l0))(hK:KT l i (TB g A n c a) l0)(hI:Ints w0 A n xs)(ha:a≤n):
  Calls prog 44 #[.pointer (some ⟨g,0,none⟩)] w fun e w'=>e=.returned (.int .i64 (kNum xs a).1)∧∃ l1,KT l i (TB g A n c (kNum xs a).2) l1∧Sep w0 w' (P++l1) :=
 (e2j H (i:=P.length+i) ((d0i i).trans hK.1) hI ha).mono fun _ _ ⟨he,_,h1,h2⟩=>by
  obtain⟨l2,e,h3⟩:=hK.app h1;subst e;exact⟨he,l2,h3,h2⟩
theorem b4x (H:Sep w0 w (P++l0))(hK:KT l i (TB g A n c a) l0)(hI:Ints w0 A n xs)(ha:a≤n):
  Calls prog 43 #[.pointer (some ⟨g,0,none⟩)] w fun e w'=>∃ v m,e=.returned v∧∃ l1,KT l i (TB g A n c (a2q xs a).2) l1∧Sep w0 w' ((.own 3 v m (a2q xs a).1::P)++l1) :=
 (e5n H (i:=P.length+i) ((d0i i).trans hK.1) hI ha).mono fun _ _ ⟨v,m,he,_,h1,h2⟩=>by
  obtain⟨l2,e,h3⟩:=hK.app h1;subst e;exact⟨v,m,he,l2,h3,h2⟩
end
theorem b7x (h:xs.length=n)(ha:a≤n):(kNum xs a).2≤n:=by
 rw[kNum]
 split
 ·exact a1p _ h (a1p _ h ha)
 ·split
  ·exact a1p _ h ha
  ·exact a1p _ h (a1p _ h ha)
theorem d0w {xs:List Int}{n:Nat}(h:xs.length=n):∀(j a:Nat),a≤n→(a9u xs j a).2≤n∧(a9u xs j a).1.length=j
 | 0,a,ha=>⟨ha,rfl⟩
 | j+1,a,ha=>by
  obtain⟨h1,h2⟩:=d0w h j (ta xs a 8) (a1p _ h ha);exact⟨h1,by rw[a9u,List.length_cons,h2]⟩
theorem a7b (h:xs.length=n)(ha:a≤n):(a2q xs a).2≤n∧(a2q xs a).1.length≤3:=by
 obtain⟨h1,h2⟩:=d0w h (tv xs a 4).toNat (ta xs a 4) (a1p _ h ha);refine⟨h1,?_⟩;rw[a2q,h2];have:=a4b xs a (show(0:Int)<4 by omega);omega
theorem a9v (xs:List Int)(a:Nat):Fits (kNum xs a).1:=by
 rw[kNum]
 split
 ·obtain⟨q,hq⟩:=eZ (a0q xs (ta xs a 9) 6);have:=a4b xs (ta xs a 9) (show(0:Int)<6 by omega);obtain⟨x,hx,hf⟩:=d6v q (by omega);rw[hq,Int.toNat_natCast,gD,hx];exact hf
 ·split
  ·exact⟨by omega,by omega⟩
  ·have h1:=a0q xs (ta xs a 9) 19;have h2:=a4b xs (ta xs a 9) (show(0:Int)<19 by omega);exact⟨by simp only;omega,by simp only;omega⟩
def e7d (w0:World) (l:List a0e) (i g:Nat) (A:Option Addr) (n c:Nat) (Q:World→Prop):Prop:=∀(w:World) (a:Nat) (l1:List a0e),KT l i (TB g A n c a) l1→Sep w0 w l1→Q w
def a6v (w0:World) (l:List a0e) (i g:Nat) (A:Option Addr) (n c:Nat) (Al:Option Addr) (nl:Nat) (L:List (List Int)):Prop :=
 L.length=nl∧nl≤90000∧∀(j:Nat) (x:List Int),L[j]?=some x→∃ la B m cap,Al=some la∧m≤cap∧e7d w0 l i g A n c fun w=>la.block<w.heap.size∧w.cell? (la.add j)=some (.slice B m cap)∧Ints w B m x
theorem a6v.lils {Al:Option Addr}{nl:Nat}{L:List (List Int)}(h:a6v w0 l i g A n c Al nl L)(hK:KT l i (TB g A n c a) l1)(H:Sep w0 w l1):Lils w Al nl L :=
 ⟨h.1,h.2.1,fun j x hx=>by
  obtain⟨la,B,m,cap,e,hc,hs⟩:=h.2.2 j x hx;obtain⟨h1,h2,h3⟩:=hs w a l1 hK H
  exact⟨la,B,m,cap,e,h1,h2,hc,h3⟩⟩
theorem Sep.rest_ {w0 w:World}:∀ {P l1:List a0e},Sep w0 w (P++l1)→Sep w0 w l1
 | [],_,h=>h
 | _::_,_,h=>Sep.rest_ (Sep.tail_ h)
def ndV (op:Int) (ins shape a:List Int) (n how:Int):a0l:=⟨op,ins,shape,a,n,how,⟨#[]⟩⟩
def kSrc (xs:List Int) (a:Nat):a0l × Nat :=
 if tv xs a 4=0 then(ndV 2 [] (a2q xs (ta xs a 4)).1 [] (kNum xs (a2q xs (ta xs a 4)).2).1 0,(kNum xs (a2q xs (ta xs a 4)).2).2)
 else if tv xs a 4=1 then
  (ndV 3 [] ((3::(a2q xs (ta xs a 4)).1).take 3) [tv xs (a2q xs (ta xs a 4)).2 ((3::(a2q xs (ta xs a 4)).1).take 3).length] 0 0,ta xs (a2q xs (ta xs a 4)).2 ((3::(a2q xs (ta xs a 4)).1).take 3).length)
 else(ndV 1 [] (a2q xs (ta xs a 4)).1 [] 0 0,(a2q xs (ta xs a 4)).2)
def a3g (w0:World) (l:List a0e) (i g:Nat) (A:Option Addr) (n c:Nat) (r:a0l × Nat) (e:Ending) (w' : World):Prop :=
 ∃ vA mA vB mB vC mC,e=.returned (.agg #[.int .i64 r.1.op,vA,vB,vC,.int .i64 r.1.n,.int .i64 r.1.how,.string r.1.note])∧∃ l1,KT l i (TB g A n c r.2) l1∧Sep w0 w' ([.own 3 vA mA r.1.ins,.own 3 vB mB r.1.shape,.own 3 vC mC r.1.a]++l1)
theorem e0x:(prog.info? 49).map (fun i=>(i.zero,i.size,i.bytes))=some (some (.agg zA),7,112):=by kernel_rfl
theorem b1s:∃ i,prog.info? 49=some i∧i.zero=some (.agg zA)∧i.size=7∧i.bytes=112:=by
 have h:=e0x
 cases e:prog.info? 49 with
 | none=>rw[e] at h;cases h
 | some i =>
  rw[e] at h;simp only[Option.map_some,Option.some.injEq,Prod.mk.injEq] at h;exact⟨i,rfl,h.1,h.2.1,h.2.2⟩
theorem a2o {ops:Array Oper}{rest:List Oper}{o:Oper}{a:Act}{Q:Exit→Act→World→Prop}(hgd:o.guard=none)(s y:Operand)(t:TypeId)
  (ho:o.op=.call { callee:=.builtin .append,args:=#[s,y],argTypes:=#[t,t] })(ht:prog.underlying t=some (.slice 49))
  (H:Sep w0 w l)(i:Nat)(hi:l[i]?=some (.row 49 7 v n us))(hs:a.eval s=v)(c:Nat)(hy:a.eval y=.slice (some ⟨w.heap.size,0,none⟩) 1 c)
  (h1:v0.oneCell'=true)(h2:v1.oneCell'=true)(h3:v2.oneCell'=true)(h4:v3.oneCell'=true)(h5:v4.oneCell'=true)(h6:v5.oneCell'=true)(h7:v6.oneCell'=true)
  (hn:n≤100000)
  (h:∀ v' w', Sep w0 w' (l.set i (.row 49 7 v' (n+1) (us++[v0,v1,v2,v3,v4,v5,v6])))→wpList prog ops Q rest (a.put o.dst v') w'):
  wpList prog ops Q (o::rest) a (w.alloc (.cells #[v0,v1,v2,v3,v4,v5,v6] 49)):=by
 obtain⟨ti,g1,g2,g3,g4⟩:=b1s;have H':=H.below ((Below.refl w.heap.size w).alloc (Nat.le_refl _) (.cells #[v0,v1,v2,v3,v4,v5,v6] 49));have hsz:=H'.size;refine wpList_append_own_at _ hgd s y t ho w0.heap.size 49 ti _ 7 112 ht g1 g2 g3 g4 (by rfl) (by omega) v n us hs (H'.at_ i hi) ⟨w.heap.size,0,none⟩ 1 c [v0,v1,v2,v3,v4,v5,v6] hy rfl ?_ (by simp[h1,h2,h3,h4,h5,h6,h7]) (by unfold maxLen;omega) (by omega) hsz ?_
 ·intro j u hj;have hb:=heap_alloc_new w (.cells #[v0,v1,v2,v3,v4,v5,v6] 49)
  match j,hj with
  | 0,hj=>simp at hj;subst hj;exact cell_of_row _ _ 0 _ _ _ hb
  | 1,hj=>simp at hj;subst hj;exact cell_of_row _ _ 1 _ _ _ hb
  | 2,hj=>simp at hj;subst hj;exact cell_of_row _ _ 2 _ _ _ hb
  | 3,hj=>simp at hj;subst hj;exact cell_of_row _ _ 3 _ _ _ hb
  | 4,hj=>simp at hj;subst hj;exact cell_of_row _ _ 4 _ _ _ hb
  | 5,hj=>simp at hj;subst hj;exact cell_of_row _ _ 5 _ _ _ hb
  | 6,hj=>simp at hj;subst hj;exact cell_of_row _ _ 6 _ _ _ hb
  | j+7,hj=>simp at hj
 ·intro v' w' h5 h6 _ h8
  exact h v' w' (H'.change i hi h6 h5 fun b hb=>by
   have hb:v'.ownBlock=some b:=hb;rcases h8 with e|e
   ·exact .inl (e.symm.trans hb)
   ·rw[e] at hb;injection hb with hb;subst hb;exact .inr (Nat.le_refl _))
structure e6a (us:List Value) (j:Nat) (nd:a0l) (pool:List a0e) (A:Option Addr) (na ca:Nat) (B:Option Addr) (nb cb:Nat) (C:Option Addr) (nc cc p q r:Nat):Prop where
 u0:us[j*7]?=some (.int .i64 nd.op)
 u1:us[j*7+1]?=some (.slice A na ca)
 u2:us[j*7+2]?=some (.slice B nb cb)
 u3:us[j*7+3]?=some (.slice C nc cc)
 u4:us[j*7+4]?=some (.int .i64 nd.n)
 u5:us[j*7+5]?=some (.int .i64 nd.how)
 u6:us[j*7+6]?=some (.string nd.note)
 pA:pool[p]?=some (a0e.own 3 (.slice A na ca) na nd.ins)
 pB:pool[q]?=some (a0e.own 3 (.slice B nb cb) nb nd.shape)
 pC:pool[r]?=some (a0e.own 3 (.slice C nc cc) nc nd.a)
 op:Fits nd.op
 n:Fits nd.n
 how:Fits nd.how
 note:nd.note.size≤17592186044000
def b6v (us:List Value) (L:List a0l) (pool:List a0e):Prop:=us.length=L.length*7∧∀(j:Nat) (nd:a0l),L[j]?=some nd→∃ A na ca B nb cb C nc cc p q r,e6a us j nd pool A na ca B nb cb C nc cc p q r
theorem b8x:b6v [] [] pool:=⟨rfl,fun j t h=>by simp at h⟩
theorem b6v.shift {c:a0e}(h:b6v us L pool):b6v us L (c::pool) :=
 ⟨h.1,fun j s hs=>by
  obtain⟨A,na,ca,B,nb,cb,C,nc,cc,p,q,r,h⟩:=h.2 j s hs
  exact⟨A,na,ca,B,nb,cb,C,nc,cc,p+1,q+1,r+1,h.u0,h.u1,h.u2,h.u3,h.u4,h.u5,h.u6,h.pA,h.pB,h.pC,h.op,h.n,h.how,h.note⟩⟩
theorem b6v.snoc {nd:a0l}{na ca:Nat}{B:Option Addr}{nb cb:Nat}{C:Option Addr}{nc cc p q:Nat}(h:b6v us L pool)
  (pA:pool[p]?=some (a0e.own 3 (.slice A na ca) na nd.ins))(pB:pool[q]?=some (a0e.own 3 (.slice B nb cb) nb nd.shape))(pC:pool[r]?=some (a0e.own 3 (.slice C nc cc) nc nd.a))(h1:Fits nd.op)(h2:Fits nd.n)(h3:Fits nd.how)(h4:nd.note.size≤17592186044000):
  b6v (us++[.int .i64 nd.op,.slice A na ca,.slice B nb cb,.slice C nc cc,.int .i64 nd.n,.int .i64 nd.how,.string nd.note]) (L++[nd]) pool:=by
 obtain⟨hl,h⟩:=h;refine⟨by simp[hl];omega,fun j u hu=>?_⟩;rcases Nat.lt_or_ge j L.length with hj|hj
 ·rw[List.getElem?_append_left hj] at hu;obtain⟨A', na', ca', B', nb', cb', C', nc', cc', p', q', r', g⟩:=h j u hu
  have ea:∀(k:Nat) (x:Value),us[k]?=some x→(us++[.int .i64 nd.op,.slice A na ca,.slice B nb cb,.slice C nc cc,.int .i64 nd.n,.int .i64 nd.how,.string nd.note])[k]?=some x:=fun k x hk=>by
   rw[List.getElem?_append_left (lL hk)];exact hk
  exact⟨A', na', ca', B', nb', cb', C', nc', cc', p', q', r', ea _ _ g.u0,ea _ _ g.u1,ea _ _ g.u2,ea _ _ g.u3,ea _ _ g.u4,ea _ _ g.u5,ea _ _ g.u6,g.pA,g.pB,g.pC,g.op,g.n,g.how,g.note⟩
 ·rw[List.getElem?_append_right hj] at hu
  have hj' : j=L.length:=by
   rcases Nat.eq_or_lt_of_le hj with e|e
   ·exact e.symm
   ·obtain⟨m,hm⟩:∃ m,j-L.length=m+1:=⟨j-L.length-1,by omega⟩;rw[hm] at hu;simp at hu
  subst hj';simp at hu;subst hu
  have ea:∀(k:Nat),(us++[.int .i64 nd.op,.slice A na ca,.slice B nb cb,.slice C nc cc,.int .i64 nd.n,.int .i64 nd.how,.string nd.note])[L.length*7+k]?=[Value.int .i64 nd.op,.slice A na ca,.slice B nb cb,.slice C nc cc,.int .i64 nd.n,.int .i64 nd.how,.string nd.note][k]? := fun k=>by
   rw[List.getElem?_append_right (by omega),hl,show L.length*7+k-L.length*7=k by omega]
  exact⟨A,na,ca,B,nb,cb,C,nc,cc,p,q,r,ea 0,ea 1,ea 2,ea 3,ea 4,ea 5,ea 6,pA,pB,pC,h1,h2,h3,h4⟩
theorem a5o (i:Nat)(h:Sep w0 w l)(hi:l[i]?=some (.row 49 7 v n us))(hP:b6v us L pool)(hn:L.length=n)(hn2:n≤90000)(f:Nat)(hf:∀ i,l[i+f]?=pool[i]?):
  ∃ A c,v=.slice A n c∧n≤c∧Nods w A n L:=by
 have hr:w.ownsRow w0.heap.size 49 7 v n us:=h.at_ i hi;rcases Nat.eq_zero_or_pos n with e|e
 ·subst e;have hT:∀ A,Nods w A 0 L:=fun A=>⟨hn,by omega,fun j t ht=>by rw[List.eq_nil_of_length_eq_zero hn] at ht;simp at ht⟩
  rcases hr.2 with ⟨hv,_⟩|⟨g,cap,cur,hv,_⟩
  ·exact⟨none,0,hv,Nat.le_refl _,hT _⟩
  ·exact⟨_,cap,hv,Nat.zero_le _,hT _⟩
 ·obtain⟨g,c,rfl,hc⟩:=h.rowForm i hi e;refine⟨_,c,rfl,hc,hn,hn2,fun j s hs=>?_⟩;have hj:j<L.length:=(lL hs);obtain⟨A,na,ca,B,nb,cb,C,nc,cc,p,q,r,g1⟩:=hP.2 j s hs;have hlt:=(World.ownsRow.lt hr g rfl).2;have hA:=h.ownInts (p+f) ((hf p).trans g1.pA);have hB:=h.ownInts (q+f) ((hf q).trans g1.pB);have hC:=h.ownInts (r+f) ((hf r).trans g1.pC);have hc0:∀ k:Nat,k<7→w.cell? ⟨g,j*7+k,none⟩=us[j*7+k]? := fun k hk=>hr.cellAt (j*7+k) (by omega)
  refine⟨⟨g,0,none⟩,A,na,ca,B,nb,cb,C,nc,cc,rfl,hlt,?_,?_,?_,?_,?_,?_,?_,⟨hA.2.1,hB.2.1,hC.2.1,hA.2.2,hB.2.2,hC.2.2,g1.op,g1.n,g1.how,g1.note⟩⟩
  ·rw[a4h];exact(hc0 0 (by omega)).trans g1.u0
  ·rw[a4h];exact(hc0 1 (by omega)).trans g1.u1
  ·rw[a4h];exact(hc0 2 (by omega)).trans g1.u2
  ·rw[a4h];exact(hc0 3 (by omega)).trans g1.u3
  ·rw[a4h];exact(hc0 4 (by omega)).trans g1.u4
  ·rw[a4h];exact(hc0 5 (by omega)).trans g1.u5
  ·rw[a4h];exact(hc0 6 (by omega)).trans g1.u6
theorem d2y {m:Nat}{L:List (List Int)}(k f:Nat)(h:Sep w0 w l)(hk:l[k]?=some (.row 25 1 v m us))(hki:i≠k)(hP:a8u us L pool)(hn:L.length=m)(hn2:m≤90000)(hf:∀ j,l[j+f]?=pool[j]?)(hif:i<f):
  ∃ Al cl,v=.slice Al m cl∧m≤cl∧a6v w0 l i g A n c Al m L:=by
 have hr:w.ownsRow w0.heap.size 25 1 v m us:=h.at_ k hk;rcases Nat.eq_zero_or_pos m with e|e
 ·subst e;have hT:∀ Al,a6v w0 l i g A n c Al 0 L:=fun Al=>⟨hn,by omega,fun j t ht=>by rw[List.eq_nil_of_length_eq_zero hn] at ht;simp at ht⟩
  rcases hr.2 with ⟨hv,_⟩|⟨g,cap,cur,hv,_⟩
  ·exact⟨none,0,hv,Nat.le_refl _,hT _⟩
  ·exact⟨_,cap,hv,Nat.zero_le _,hT _⟩
 ·obtain⟨gr,cr,rfl,hc⟩:=h.rowForm k hk e;refine⟨_,cr,rfl,hc,hn,hn2,fun j s hs=>?_⟩;have hj:j<L.length:=(lL hs);obtain⟨S,sn,sc,p,h1,h2⟩:=hP.2 j s hs;have hsc:=(h.ownInts (p+f) ((hf p).trans h2)).2.1;refine⟨⟨gr,0,none⟩,S,sn,sc,rfl,hsc,fun w1 a1 l1 hK H1=>?_⟩;have e1:=hK.eq;subst e1;have hk1:(l.set i (TB g A n c a1))[k]?=some (.row 25 1 (.slice (some ⟨gr,0,none⟩) m cr) m us):=by rw[List.getElem?_set_ne hki];exact hk
  have hr1:w1.ownsRow w0.heap.size 25 1 (.slice (some ⟨gr,0,none⟩) m cr) m us:=H1.at_ k hk1;have hp1:(l.set i (TB g A n c a1))[p+f]?=some (a0e.own 3 (.slice S sn sc) sn s):=by rw[List.getElem?_set_ne (by omega)];exact(hf p).trans h2
  refine⟨(World.ownsRow.lt hr1 gr rfl).2,?_,(H1.ownInts (p+f) hp1).2.2⟩;rw[a4h,hr1.cellAt j (by omega),h1]
end Go.Proofs.YtdcmanhgekjhgaaGreatDoor
