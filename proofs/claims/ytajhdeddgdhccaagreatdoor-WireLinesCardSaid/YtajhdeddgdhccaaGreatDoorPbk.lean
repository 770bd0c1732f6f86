import Derived.Test.YtajhdeddgdhccaaGreatDoorPbj
set_option maxRecDepth 100000
set_option maxHeartbeats 12800000
namespace Go.Proofs.YtajhdeddgdhccaaGreatDoor
open Go.RowKit Go.Proofs.Tryz
variable {A:Option Addr} {P l l0 l1:List a0i} {a c g i n:Nat} {t:TypeId} {w w0:World} {xs:List Int}
theorem d0t:(prog.info? 4).map (fun i=>(i.zero,i.size,i.bytes))=some (some (.bool false),1,1):=by kernel_rfl
theorem b4j (hn:n≤17592186044000)(w:World):
  (Instr.makeSlice 90 (.int .i64 n) (.int .i64 n)).run prog w=.ok (.slice (some ⟨w.heap.size,0,none⟩) n n) (w.alloc (.cells (Array.replicate n (Value.bool false)) 4)):=by
 rw[←List.toArray_replicate];have hu:prog.underlying 90=some (.slice 4):=by kernel_rfl
 have hb:=d0t
 cases e:prog.info? 4 with
 | none=>rw[e] at hb;cases hb
 | some i =>
  rw[e] at hb;simp only[Option.map_some,Option.some.injEq,Prod.mk.injEq] at hb;obtain⟨hz0,hz1,hz2⟩:=hb;have:=run_make (P:=prog) w _ _ i (.bool false) hu e hz0 .i64 .i64 n n (by omega) (by omega) (by rw[hz2];omega) (by omega);rw[this,hz1];simp only[Int.toNat_natCast,Nat.mul_one]
  have hm:madeCells (Value.bool false).cells n=(List.replicate n (Value.bool false)).toArray:=by
   apply Array.toList_inj.1;rw[show(Value.bool false).cells=#[Value.bool false] from rfl,toList_madeCells_one]
  rw[hm]
theorem c8w (acc:List Int)(m:Nat)(x y:Int):(acc++y::List.replicate m 0).set acc.length x=(acc++[x])++List.replicate m 0:=by simp
def a2k (xs:List Int) (ns:Nat):Nat→Nat→List Bool→List Int × Nat
 | 0,a,_=>([],a)
 | m+1,a,used =>
  if 0<ns then
   (if tv xs a 2=0 then
    (if used.getD (tv xs (ta xs a 2) ns).toNat true=false then
     (tv xs (ta xs a 2) ns::(a2k xs ns m (ta xs (ta xs a 2) ns) (used.set (tv xs (ta xs a 2) ns).toNat true)).1,(a2k xs ns m (ta xs (ta xs a 2) ns) (used.set (tv xs (ta xs a 2) ns).toNat true)).2)
    else(-1::(a2k xs ns m (ta xs (ta xs a 2) ns) used).1,(a2k xs ns m (ta xs (ta xs a 2) ns) used).2))
   else(-1::(a2k xs ns m (ta xs a 2) used).1,(a2k xs ns m (ta xs a 2) used).2))
  else(-1::(a2k xs ns m a used).1,(a2k xs ns m a used).2)
theorem d5w {A1:Option Addr}{ns c1 r:Nat}(hr:r≤100)(hns:ns≤100)(H:Sep w0 w l)(hi:l[i]?=some (TB g A n c a))(hI:Ints w0 A n xs)(ha:a≤n):
  Calls prog 21 #[.pointer (some ⟨g,0,none⟩),.slice A1 ns c1,.int .i64 r] w fun e w'=>∃ v m,e=.returned v∧∃ l1,KT l i (TB g A n c (a2k xs ns r a (List.replicate ns false)).2) l1∧Sep w0 w' (.own 3 v m (a2k xs ns r a (List.replicate ns false)).1::l1):=by
 have HXL:=Hd hI.len;have HI:=Hd hI;have hnle:=hI.le;have KI:=Hd hi;have hm1:=a2f underlying23 Tryz.infoInt (n:=r) (by omega);have hm2:=b4j (n:=ns) (by omega);have h1:=(H.noughts 3 r (by omega)).allocBox (w.heap.size+1) 4 (List.replicate ns (Value.bool false)) (by simp);rw[List.toArray_replicate] at h1
 go_enter func21,ntmps21
 go_upto_region 3 with fail
 generalize (w.alloc (.cells (noughts r) 3)).alloc (.cells (Array.replicate ns (Value.bool false)) 4)=w2 at *;have hgs:w.heap.size<w.heap.size+1:=by omega
 generalize w.heap.size+1=gu at *;generalize w.heap.size=go at *;have H1:=Hd (h1.swap);clear h1 hm1 hm2 H hI hi
 go_wp2_with fail
 go_loopw [18] (fun iv wr=>∃(j:Nat) (acc:List Int) (a2:Nat) (used:List Bool) (l1:List a0i),iv=.int .i64 j∧j≤r∧acc.length=j∧used.length=ns∧a2≤n∧(acc++(a2k xs ns (r-j) a2 used).1,(a2k xs ns (r-j) a2 used).2)=a2k xs ns r a (List.replicate ns false)∧KT l i (TB g A n c a2) l1∧Sep w0 wr (.own 3 (.slice (some ⟨go,0,none⟩) r r) r (acc++List.replicate (r-j) 0)::.box gu 4 (used.map Value.bool)::l1)) (fun iv _=>r-(intOf iv).toNat)
 case atStart=>exact⟨0,[],a,List.replicate ns false,l,rfl,by omega,rfl,by simp,ha,rfl,⟨KI,fun _=>rfl⟩,by rw[List.map_replicate];exact H1⟩
 case round =>
  clear H1;obtain⟨j,acc,a2,used,l1,rfl,hj,hacc,hul,ba2,hq,hK,hS⟩:=hrel;have HQ:=Hd hq;have HK:=Hd hK;have HUL:=Hd hul;have HACC:=Hd hacc;clear hq hK hul hacc;by_cases hlt:j<r
  ·obtain⟨m,hm⟩:∃ m,r-j=m+1:=⟨r-j-1,by omega⟩;rw[hm,List.replicate_succ] at hS;have HQD:=Hd (show(acc++(a2k xs ns (m+1) a2 used).1,(a2k xs ns (m+1) a2 used).2)=a2k xs ns r a (List.replicate ns false) by rw[←hm];exact HQ);have HM:=Hd (show r-(j+1)=m by omega);clear hm;have hxz:(acc++0::List.replicate m 0)[j]?=some 0:=by rw[List.getElem?_append_right (by have:=HACC.out;omega),HACC.out];simp
   have hcz:=(hS.own 0 rfl).cell hxz;have hff:=(hS.own 0 rfl).frozen j;have h5:=hS.store 0 j (x := -1) ⟨by omega,by omega⟩ rfl;rw[show(acc++0::List.replicate m 0:List Int).set j (-1)=(acc++[-1])++List.replicate m 0 by rw[←HACC.out];exact c8w acc m (-1) 0] at h5;have H5:=Hd (show Sep w0 (wr.setCell ⟨go,j,none⟩ (.int .i64 (-1))) (.own 3 (.slice (some ⟨go,0,none⟩) r r) r ((acc++[-1])++List.replicate m 0)::.box gu 4 (used.map Value.bool)::l1) from h5);clear h5 hS hxz
   go_upto_region 7 with fail
   generalize wr.setCell ⟨go,j,none⟩ (.int .i64 (-1))=w5 at *;clear hcz hff;by_cases hns:0<ns
   ·have d1:decide (0<ns)=true:=by simpa using hns
    go_wp2_with fail
    refine(a4a 2 H5 (i:=i+2) HK.out.1 HI ba2 ⟨by omega,by omega⟩).mono ?_;rintro e3 w3 ⟨rfl,l3,hK3,hS3⟩;obtain rfl:=hK3.eq;obtain⟨q,hq⟩:∃ q,tv xs a2 2=q:=⟨_,rfl⟩;obtain⟨a3,ha3⟩:∃ r,ta xs a2 2=r:=⟨_,rfl⟩;have ba3:=a1f 2 HXL ba2;rw[ha3] at ba3 hS3;rw[hq];have HQ3:=Hd hq;have HA3:=Hd ha3;have H6:=Hd (show Sep w0 w3 (.own 3 (.slice (some ⟨go,0,none⟩) r r) r ((acc++[-1])++List.replicate m 0)::.box gu 4 (used.map Value.bool)::l1.set i (TB g A n c a3)) from hS3);have HK6:=Hd (HK.trans_ (KT.mk_ (b:=TB g A n c a3) HK.out.1));clear hq ha3 hS3 hK3 H5;by_cases h0:q=0
    ·subst h0
     go_wp2_with fail
     refine(a4a (ns:Int) H6 (i:=i+2) HK6.out.1 HI ba3 ⟨by omega,by omega⟩).mono ?_;rintro e4 w4 ⟨rfl,l4,hK4,hS4⟩;obtain rfl:=hK4.eq;have k0:=a0m xs a3 (ns:Int);have k1:=a3f xs a3 (show(0:Int)<(ns:Int) by omega);obtain⟨kv,hkv⟩:∃ q,tv xs a3 (ns:Int)=q:=⟨_,rfl⟩;rw[hkv] at k0 k1 ⊢;obtain⟨k,rfl⟩:=eZ k0;obtain⟨a4,ha4⟩:∃ r,ta xs a3 (ns:Int)=r:=⟨_,rfl⟩;have ba4:=a1f (ns:Int) HXL ba3;rw[ha4] at ba4 hS4;have HKV:=Hd hkv;have HA4:=Hd ha4;have H7:=Hd (show Sep w0 w4 (.own 3 (.slice (some ⟨go,0,none⟩) r r) r ((acc++[-1])++List.replicate m 0)::.box gu 4 (used.map Value.bool)::(l1.set i (TB g A n c a3)).set i (TB g A n c a4)) from hS4);have HK7:=Hd (HK6.trans_ (KT.mk_ (b:=TB g A n c a4) HK6.out.1));have hkn:k<ns:=by omega
     clear hkv ha4 hS4 hK4 H6 k0 k1;obtain⟨ub,hub⟩:∃ b,used[k]?=some b:=gE (by have:=HUL.out;omega);have hcu:=H7.cell 1 k rfl (show(used.map Value.bool)[k]?=some (.bool ub) by rw[List.getElem?_map,hub];rfl);have HGD:=Hd (show used.getD k true=ub by rw[gD,hub];rfl);have HUB:=Hd hub;clear hub
     cases ub with
     | false =>
      have hxz:((acc++[-1])++List.replicate m 0)[j]?=some (-1):=by rw[List.getElem?_append_left (by rw[List.length_append,List.length_singleton];have:=HACC.out;omega),List.getElem?_append_right (by have:=HACC.out;omega),HACC.out];simp
      have hcz:=(H7.own 0 rfl).cell hxz;have hff:=(H7.own 0 rfl).frozen j;have h8:=H7.store 0 j (x:=(k:Int)) ⟨by omega,by omega⟩ rfl;rw[show((acc++[-1])++List.replicate m 0:List Int).set j (k:Int)=(acc++[(k:Int)])++List.replicate m 0 by rw[List.append_assoc,List.singleton_append,←HACC.out];exact c8w acc m k (-1)] at h8;have H8:=Hd (show Sep w0 (w4.setCell ⟨go,j,none⟩ (.int .i64 (k:Int))) (.own 3 (.slice (some ⟨go,0,none⟩) r r) r ((acc++[(k:Int)])++List.replicate m 0)::.box gu 4 (used.map Value.bool)::(l1.set i (TB g A n c a3)).set i (TB g A n c a4)) from h8);have hcu2:=H8.cell 1 k rfl (show(used.map Value.bool)[k]?=some (.bool false) by rw[List.getElem?_map,HUB.out];rfl);have hfu2:=H8.frozenBox 1 k rfl;have h9:=H8.setBox 1 k (.bool true) rfl;have HMS:=Hd (show(used.map Value.bool).set k (.bool true)=(used.set k true).map Value.bool by rw[List.map_set]);have h10:Sep w0 ((w4.setCell ⟨go,j,none⟩ (.int .i64 (k:Int))).setCell ⟨gu,k,none⟩ (.bool true)) (.own 3 (.slice (some ⟨go,0,none⟩) r r) r ((acc++[(k:Int)])++List.replicate m 0)::.box gu 4 ((used.map Value.bool).set k (.bool true))::(l1.set i (TB g A n c a3)).set i (TB g A n c a4)):=h9;rw[HMS.out] at h10;have H10:=Hd h10;clear h8 h9 h10 hxz;have HQE:=Hd (show((acc++[(k:Int)])++(a2k xs ns m a4 (used.set k true)).1,(a2k xs ns m a4 (used.set k true)).2)=a2k xs ns r a (List.replicate ns false) by have h7:=HQD.out;rw[a2k,iP hns,HQ3.out,iP rfl,HA3.out,HKV.out,Int.toNat_natCast,HGD.out,iP rfl,HA4.out] at h7;rw[List.append_assoc];exact h7);go_wp2;go_roundw
      case rel=>exact⟨j+1,acc++[(k:Int)],a4,used.set k true,_,by go_num,by omega,by rw[List.length_append,List.length_singleton,HACC.out],by rw[List.length_set];exact HUL,by first|exact ba2|omega,by rw[HM.out];exact HQE,HK7,by rw[HM.out];exact H10⟩
      case measure=>simp[intOf];omega
     | true =>
      have HQE:=Hd (show((acc++[-1])++(a2k xs ns m a4 used).1,(a2k xs ns m a4 used).2)=a2k xs ns r a (List.replicate ns false) by have h7:=HQD.out;rw[a2k,iP hns,HQ3.out,iP rfl,HA3.out,HKV.out,Int.toNat_natCast,HGD.out,iN (by decide),HA4.out] at h7;rw[List.append_assoc];exact h7);go_wp2;go_roundw
      case rel=>exact⟨j+1,acc++[-1],a4,used,_,by go_num,by omega,by rw[List.length_append,List.length_singleton,HACC.out],HUL,by first|exact ba2|omega,by rw[HM.out];exact HQE,HK7,by rw[HM.out];exact H7⟩
      case measure=>simp[intOf];omega
    ·have d2:(q==0)=false:=by simpa using h0
     have HQE:=Hd (show((acc++[-1])++(a2k xs ns m a3 used).1,(a2k xs ns m a3 used).2)=a2k xs ns r a (List.replicate ns false) by have h7:=HQD.out;rw[a2k,iP hns,HQ3.out,iN h0,HA3.out] at h7;rw[List.append_assoc];exact h7);clear h0;go_wp2;go_roundw
     case rel=>exact⟨j+1,acc++[-1],a3,used,_,by go_num,by omega,by rw[List.length_append,List.length_singleton,HACC.out],HUL,by first|exact ba2|omega,by rw[HM.out];exact HQE,HK6,by rw[HM.out];exact H6⟩
     case measure=>simp[intOf];omega
   ·have d1:decide (0<ns)=false:=by simpa using hns
    have HQE:=Hd (show((acc++[-1])++(a2k xs ns m a2 used).1,(a2k xs ns m a2 used).2)=a2k xs ns r a (List.replicate ns false) by have h7:=HQD.out;rw[a2k,iN hns] at h7;rw[List.append_assoc];exact h7);go_wp2;go_roundw
    case rel=>exact⟨j+1,acc++[-1],a2,used,_,by go_num,by omega,by rw[List.length_append,List.length_singleton,HACC.out],HUL,by first|exact ba2|omega,by rw[HM.out];exact HQE,HK,by rw[HM.out];exact H5⟩
    case measure=>simp[intOf];omega
  ·have hjr:j=r:=by omega
   have HE:=Hd (show a2k xs ns r a (List.replicate ns false)=(acc,a2) by rw[←HQ.out,show r-j=0 by omega,a2k,List.append_nil]);rw[show r-j=0 by omega,List.replicate_zero,List.append_nil] at hS;have HS:=Hd hS;clear hS;go_wp2;go_ret;rw[HE.out];exact⟨_,_,rfl,_,HK,HS.less1⟩
theorem Sep.pick {l':List a0i}(H:Sep w0 w (P++l1))(f:List Nat)(hf:f.map (fun i:Nat=>P[i]?)=l'.map some)(hd:f.Nodup):Sep w0 w (l' ++ l1):=by
 have hlt:∀ k∈f,k<P.length:=by
  intro k hk;have:P[k]? ∈ l'.map some:=by rw[←hf];exact List.mem_map.2 ⟨k,hk,rfl⟩
  obtain⟨c,_,hc⟩:=List.mem_map.1 this;exact(lL hc.symm)
 refine H.sub (f++(List.range l1.length).map (fun j=>P.length+j)) ?_ ?_
 ·rw[List.map_append,List.map_append,←hf]
  congr 1
  ·exact List.map_congr_left fun k hk=>List.getElem?_append_left (hlt k hk)
  ·rw[List.map_map];apply List.ext_getElem?;intro j;rw[List.getElem?_map,List.getElem?_map];rcases Nat.lt_or_ge j l1.length with h|h
   ·rw[List.getElem?_range h,List.getElem?_eq_getElem h];simp only[Option.map_some,Function.comp];rw[List.getElem?_append_right (by omega),show P.length+j-P.length=j by omega,List.getElem?_eq_getElem h]
   ·rw[List.getElem?_eq_none (by simpa using h),List.getElem?_eq_none h];rfl
 ·rw[List.nodup_append];refine⟨hd,?_,?_⟩
  ·exact List.pairwise_map.2 ((List.nodup_range (n:=l1.length)).imp (fun {a b} h hab=>h (by omega)))
  ·intro a ha b hb hab;obtain⟨j,_,rfl⟩:=List.mem_map.1 hb;have:=hlt a ha;omega
theorem Tryz.sizeNode:(prog.info? 37).map (·.size)=some 7:=by kernel_rfl
theorem Sep.setBoxP {vs:List Value}(h:Sep w0 w (P++l1))(i j:Nat)(v:Value)(hi:P[i]?=some (.box g t vs)):
  Sep w0 (w.setCell ⟨g,j,none⟩ v) (P.set i (.box g t (vs.set j v))++l1):=by
 have hl:i<P.length:=(lL hi);have:=h.setBox i j v (by rw[List.getElem?_append_left hl];exact hi);rwa [List.set_append_left _ _ hl] at this
theorem Sep.set7 {u0 u1 u2 u3 u4 u5 u6:Value}(h:Sep w0 w (P++l1))(i:Nat)(hi:P[i]?=some (.box g t [u0,u1,u2,u3,u4,u5,u6]))(v0 v1 v2 v3 v4 v5 v6:Value):
  Sep w0 (((((((w.setCell ⟨g,0,none⟩ v0).setCell ⟨g,1,none⟩ v1).setCell ⟨g,2,none⟩ v2).setCell ⟨g,3,none⟩ v3).setCell ⟨g,4,none⟩ v4).setCell ⟨g,5,none⟩ v5).setCell ⟨g,6,none⟩ v6) (P.set i (.box g t [v0,v1,v2,v3,v4,v5,v6])++l1):=by
 have hl:i<P.length:=(lL hi);have h1:=h.setBoxP i 0 v0 hi;have h2:=h1.setBoxP i 1 v1 (by rw[List.getElem?_set_self hl]);rw[List.set_set] at h2;have h3:=h2.setBoxP i 2 v2 (by rw[List.getElem?_set_self hl]);rw[List.set_set] at h3;have h4:=h3.setBoxP i 3 v3 (by rw[List.getElem?_set_self hl]);rw[List.set_set] at h4;have h5:=h4.setBoxP i 4 v4 (by rw[List.getElem?_set_self hl]);rw[List.set_set] at h5;have h6:=h5.setBoxP i 5 v5 (by rw[List.getElem?_set_self hl]);rw[List.set_set] at h6;have h7:=h6.setBoxP i 6 v6 (by rw[List.getElem?_set_self hl]);rw[List.set_set] at h7;exact h7
theorem Sep.litP (h:Sep w0 w (P++l1))(e:TypeId)(cs:Array Value)(xs:List Int)(n:Nat)(hc:cs.toList=xs.map (Value.int .i64))(hl:a1d xs n=true):
  Sep w0 (w.alloc (.cells cs e)) ((.own e (.slice (some ⟨w.heap.size,0,none⟩) n n) n xs::P)++l1):=h.lit e cs xs n _ rfl hc hl
theorem a0y {fn:Func}{R:Ending→World→Prop}{a:Act}{p:Tmp}{v0 v1 v2 v3 v4 v5 v6:Value}(H:Sep w0 w l)(i:Nat)(hi:l[i]?=some (.box g 37 [v0,v1,v2,v3,v4,v5,v6]))
  (h:fn.results=#[.cell p 37])(hp:a.tmps.getD p undef=.pointer (some ⟨g,0,none⟩))(hd:a.defers=[])(hR:R (.returned (.agg #[v0,v1,v2,v3,v4,v5,v6])) w):bodyPost prog fn R .ret a w :=
 bodyPost_ret_by (results_cell_row h a.tmps w g _ _ _ _ hp (H.heap i hi) underlying37 rfl Tryz.sizeNode) hd hR
theorem c2s (i:Nat):(P++l0)[P.length+i]?=l0[i]? := by
 rw[List.getElem?_append_right (by omega),show P.length+i-P.length=i by omega]
theorem d3s (i:Nat)(X:a0i):(P++l0).set (P.length+i) X=P++l0.set i X:=by
 rw[List.set_append_right _ _ (by omega),show P.length+i-P.length=i by omega]
theorem KT.app {b b' : a0i}(hK:KT l i b l0)(h:KT (P++l0) (P.length+i) b' l1):∃ l2,l1=P++l2∧KT l i b' l2 :=
 ⟨_,h.eq.trans (d3s i b'),hK.trans_ (KT.mk_ hK.1)⟩
section
variable {w0 w : World} {P l l0 : List a0i} {i g : Nat} {A : Option Addr} {n c a : Nat} {xs : List Int}
theorem a7x (m:Int)(H:Sep w0 w (P++l0))(hK:KT l i (TB g A n c a) l0)(hI:Ints w0 A n xs)(ha:a≤n)(hm:Fits m):
  Calls prog 16 #[.pointer (some ⟨g,0,none⟩),.int .i64 m] w fun e w'=>e=.returned (.int .i64 (tv xs a m))∧∃ l1,KT l i (TB g A n c (ta xs a m)) l1∧Sep w0 w' (P++l1) :=
 (a4a m H (i:=P.length+i) ((c2s i).trans hK.1) hI ha hm).mono fun _ _ ⟨he,_,h1,h2⟩=>by
  obtain⟨l2,e,h3⟩:=hK.app h1;subst e;exact⟨he,l2,h3,h2⟩
theorem a0s (m:Int)(H:Hid (Sep w0 w (P++l0)))(hK:Hid (KT l i (TB g A n c a) l0))(hI:Hid (Ints w0 A n xs))(ha:a≤n)(h0:0<m)(hm:Fits m):
  Calls prog 16 #[.pointer (some ⟨g,0,none⟩),.int .i64 m] w fun e w'=>∃(r a1:Nat) (l1:List a0i),e=.returned (.int .i64 (r:Int))∧Hid (tv xs a m=(r:Int))∧(r:Int)<m∧Hid (ta xs a m=a1)∧a1≤n∧Hid (KT l i (TB g A n c a1) l1)∧Hid (Sep w0 w' (P++l1)) :=
 (a7x m H hK hI ha hm).mono fun _ _ ⟨he,l1,h1,h2⟩=>by
  obtain⟨r,hr⟩:=eZ (a0m xs a m);have hl:=a3f xs a h0;rw[hr] at hl he;exact⟨r,ta xs a m,l1,he,Hd hr,hl,Hd rfl,a1f m hI.len ha,Hd h1,Hd h2⟩
theorem b7r (H:Sep w0 w (P++l0))(hK:KT l i (TB g A n c a) l0)(hI:Ints w0 A n xs)(ha:a≤n):
  Calls prog 39 #[.pointer (some ⟨g,0,none⟩)] w fun e w'=>e=.returned (.int .i64 (kNum xs a).1)∧∃ l1,KT l i (TB g A n c (kNum xs a).2) l1∧Sep w0 w' (P++l1) :=
 (d2d H (i:=P.length+i) ((c2s i).trans hK.1) hI ha).mono fun _ _ ⟨he,_,h1,h2⟩=>by
  obtain⟨l2,e,h3⟩:=hK.app h1;subst e;exact⟨he,l2,h3,h2⟩
theorem b1l (H:Sep w0 w (P++l0))(hK:KT l i (TB g A n c a) l0)(hI:Ints w0 A n xs)(ha:a≤n):
  Calls prog 38 #[.pointer (some ⟨g,0,none⟩)] w fun e w'=>∃ v m,e=.returned v∧∃ l1,KT l i (TB g A n c (a2a xs a).2) l1∧Sep w0 w' ((.own 3 v m (a2a xs a).1::P)++l1) :=
 (d4r H (i:=P.length+i) ((c2s i).trans hK.1) hI ha).mono fun _ _ ⟨v,m,he,_,h1,h2⟩=>by
  obtain⟨l2,e,h3⟩:=hK.app h1;subst e;exact⟨v,m,he,l2,h3,h2⟩
end
theorem b3q (h:xs.length=n)(ha:a≤n):(kNum xs a).2≤n:=by
 rw[kNum]
 split
 ·exact a1f _ h (a1f _ h ha)
 ·split
  ·exact a1f _ h ha
  ·exact a1f _ h (a1f _ h ha)
theorem c3c {xs:List Int}{n:Nat}(h:xs.length=n):∀(j a:Nat),a≤n→(a7q xs j a).2≤n∧(a7q xs j a).1.length=j
 | 0,a,ha=>⟨ha,rfl⟩
 | j+1,a,ha=>by
  obtain⟨h1,h2⟩:=c3c h j (ta xs a 8) (a1f _ h ha);exact⟨h1,by rw[a7q,List.length_cons,h2]⟩
theorem a5p (h:xs.length=n)(ha:a≤n):(a2a xs a).2≤n∧(a2a xs a).1.length≤3:=by
 obtain⟨h1,h2⟩:=c3c h (tv xs a 4).toNat (ta xs a 4) (a1f _ h ha);refine⟨h1,?_⟩;rw[a2a,h2];have:=a3f xs a (show(0:Int)<4 by omega);omega
theorem a7r (xs:List Int)(a:Nat):Fits (kNum xs a).1:=by
 rw[kNum]
 split
 ·obtain⟨q,hq⟩:=eZ (a0m xs (ta xs a 9) 6);have:=a3f xs (ta xs a 9) (show(0:Int)<6 by omega);obtain⟨x,hx,hf⟩:=c7o q (by omega);rw[hq,Int.toNat_natCast,gD,hx];exact hf
 ·split
  ·exact⟨by omega,by omega⟩
  ·have h1:=a0m xs (ta xs a 9) 19;have h2:=a3f xs (ta xs a 9) (show(0:Int)<19 by omega);exact⟨by simp only;omega,by simp only;omega⟩
def d5z (w0:World) (l:List a0i) (i g:Nat) (A:Option Addr) (n c:Nat) (Q:World→Prop):Prop:=∀(w:World) (a:Nat) (l1:List a0i),KT l i (TB g A n c a) l1→Sep w0 w l1→Q w
def a5l (w0:World) (l:List a0i) (i g:Nat) (A:Option Addr) (n c:Nat) (Al:Option Addr) (nl:Nat) (L:List (List Int)):Prop :=
 L.length=nl∧nl≤900∧∀(j:Nat) (x:List Int),L[j]?=some x→∃ la B m cap,Al=some la∧m≤cap∧d5z w0 l i g A n c fun w=>la.block<w.heap.size∧w.cell? (la.add j)=some (.slice B m cap)∧Ints w B m x
theorem a5l.lils {Al:Option Addr}{nl:Nat}{L:List (List Int)}(h:a5l w0 l i g A n c Al nl L)(hK:KT l i (TB g A n c a) l1)(H:Sep w0 w l1):Lils w Al nl L :=
 ⟨h.1,h.2.1,fun j x hx=>by
  obtain⟨la,B,m,cap,e,hc,hs⟩:=h.2.2 j x hx;obtain⟨h1,h2,h3⟩:=hs w a l1 hK H
  exact⟨la,B,m,cap,e,h1,h2,hc,h3⟩⟩
theorem Sep.rest_ {w0 w:World}:∀ {P l1:List a0i},Sep w0 w (P++l1)→Sep w0 w l1
 | [],_,h=>h
 | _::_,_,h=>Sep.rest_ (Sep.tail_ h)
def ndV (op:Int) (ins shape a:List Int) (n how:Int):a0p:=⟨op,ins,shape,a,n,how,⟨#[]⟩⟩
def kSrc (xs:List Int) (a:Nat):a0p × Nat :=
 if tv xs a 4=0 then(ndV 2 [] (a2a xs (ta xs a 4)).1 [] (kNum xs (a2a xs (ta xs a 4)).2).1 0,(kNum xs (a2a xs (ta xs a 4)).2).2)
 else if tv xs a 4=1 then
  (ndV 3 [] ((3::(a2a xs (ta xs a 4)).1).take 3) [tv xs (a2a xs (ta xs a 4)).2 ((3::(a2a xs (ta xs a 4)).1).take 3).length] 0 0,ta xs (a2a xs (ta xs a 4)).2 ((3::(a2a xs (ta xs a 4)).1).take 3).length)
 else(ndV 1 [] (a2a xs (ta xs a 4)).1 [] 0 0,(a2a xs (ta xs a 4)).2)
def a2m (w0:World) (l:List a0i) (i g:Nat) (A:Option Addr) (n c:Nat) (r:a0p × Nat) (e:Ending) (w' : World):Prop :=
 ∃ vA mA vB mB vC mC,e=.returned (.agg #[.int .i64 r.1.op,vA,vB,vC,.int .i64 r.1.n,.int .i64 r.1.how,.string r.1.note])∧∃ l1,KT l i (TB g A n c r.2) l1∧Sep w0 w' ([.own 3 vA mA r.1.ins,.own 3 vB mB r.1.shape,.own 3 vC mC r.1.a]++l1)
end Go.Proofs.YtajhdeddgdhccaaGreatDoor
