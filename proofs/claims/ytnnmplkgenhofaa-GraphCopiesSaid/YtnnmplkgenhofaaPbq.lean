import Derived.Shelf.Slices.Turned
import Derived.Shelf.Strings.BuilderRune
import Derived.Shelf.Utf8.RuneCount
import Derived.Test.YtnnmplkgenhofaaRows
import Derived.Test.YtnnmplkgenhofaaPbh
namespace Go.Proofs.Ytnnmplkgenhofaa
open Go.RowKit
def nLays107_ren:Go.Shelf.Ren:=⟨fun | 107=>73 | 108=>95 | n=>n,fun | 0=>0 | 3=>3 | 4=>4 | 28=>22 | n=>n,fun | n=>n⟩
theorem nLays107:Go.Proofs.Lays.n107 Try.prog nLays107_ren:={
 mixed:=by kernel_rfl
 f107:=Try.func73.trans (congrArg some (by kernel_rfl))
 f108:=Try.func95.trans (congrArg some (by kernel_rfl))
 t0:=Try.underlying0
 a0:=Try.isAgg0
 z0:=Try.sizeOf0
 v0:=Try.zeroValue0
 t3:=Try.underlying3
 a3:=Try.isAgg3
 z3:=Try.sizeOf3
 v3:=Try.zeroValue3
 t4:=Try.underlying4
 a4:=Try.isAgg4
 z4:=Try.sizeOf4
 v4:=Try.zeroValue4
 t28:=Try.underlying22
 a28:=Try.isAgg22
 z28:=Try.sizeOf22
 v28:=Try.zeroValue22 }
def RIt (w:World) (K:Nat) (s:ByteArray) (pos k:Nat):Prop :=
 w.heap[K]? = some (.stringIter s pos)∧runesAt s s.size pos=(runesOf s).drop k∧k≤pos
theorem rit_start (w:World) (s:ByteArray):RIt (w.iter s 0) w.heap.size s 0 0:=⟨World.iter_heap w s 0,rfl,Nat.le_refl _⟩
theorem rit_lt {w:World} {K pos k:Nat} {s:ByteArray} (h:RIt w K s pos k):K < w.heap.size:=by
 rcases Nat.lt_or_ge K w.heap.size with hl | hl
 ·exact hl
 ·have:=h.1;rw [Array.getElem?_eq_none hl] at this;cases this
theorem rit_pos {w:World} {K pos k:Nat} {s:ByteArray} (h:RIt w K s pos k):w.iterPos K=pos:=iterPos_at h.1
theorem rit_below {B:Nat} {w w' : World} {K pos k:Nat} {s:ByteArray} (h:RIt w K s pos k) (hb:Below B w w') (hK:K < B):RIt w' K s pos k :=
 ⟨(hb.block K hK).trans h.1,h.2.1,h.2.2⟩
theorem rit_next {B:Nat} {w0 w:World} {K pos k:Nat} {s:ByteArray} (h:RIt w K s pos k) (hlt:pos<s.size) (hB:Below B w0 w) (hK:B≤K) :
  ∃ (w2:World) (r:Int) (d:Nat),(∀ ty,(Instr.next (.pointer (some ⟨K,0,none⟩)) true ty).run Try.prog w=.ok (.tuple #[.bool true,.int .i64 pos,.int .i32 r]) w2) ∧
   RIt w2 K s (pos+d) (k+1)∧1≤d∧(runesOf s)[k]? = some r∧FitsR r∧Below B w0 w2∧w.grownBy w2 (some K):=by
 have hg:=iterAt_grown (w:=w) (s:=s) (k:=K) (pos:=pos+(Utf8.decode s pos).2);have hst:=runesAt_step s hlt;rw [h.2.1] at hst
 have hk:(runesOf s)[k]? = some ((Utf8.decode s pos).1:Int):=by
  have:=congrArg (fun l:List Int=>l[0]?) hst;simpa using this
 have hd:(runesOf s).drop (k+1)=runesAt s s.size (pos+(Utf8.decode s pos).2):=by
  have:=congrArg List.tail hst;simpa using this
 have hw:=decode_width s pos hlt;have:=h.2.2;exact ⟨_,_,(Utf8.decode s pos).2,fun ty=>run_next_at (P:=Try.prog) h.1 hlt ty,⟨iterAt_heap (rit_lt h),hd.symm,by omega⟩,hw,hk,rune_fits s pos,below_of_grown hB (by have:=rit_lt h;omega) hg hK,hg⟩
theorem rit_end {w:World} {K pos k:Nat} {s:ByteArray} (h:RIt w K s pos k) (hlt:¬ pos<s.size):(runesOf s).length≤k:=by
 have:=h.2.1;rw [runesAt_end s hlt] at this;have:=congrArg List.length this;rw [List.length_drop,List.length_nil] at this;omega
theorem rit_over {w:World} {K pos k:Nat} {s:ByteArray} (h:RIt w K s pos k) (hlt:¬ pos<s.size) (ty:TypeId) :
  (Instr.next (.pointer (some ⟨K,0,none⟩)) true ty).run Try.prog w=.ok (.tuple #[.bool false]) w:=run_next_over h.1 hlt ty
theorem rit_bd {w:World} {K pos k:Nat} {s:ByteArray} (h:RIt w K s pos k) (hlt:pos<s.size):k<s.size:=by have:=h.2.2;omega
theorem findI_in {r:Int}:∀ {l:List Int} {k j:Nat},r∈l.take j→findI l r k<((k+j:Nat):Int)
 | [],_,j,h=>by simp at h
 | x::l,k,0,h=>by simp at h
 | x::l,k,j+1,h=>by
  rw [findI]
  split
  ·omega
  ·rename_i hx;rw [List.take_succ_cons] at h;rcases List.mem_cons.1 h with h | h
   ·exact absurd h.symm hx
   ·have:=findI_in (k:=k+1) h;omega
theorem findF_in {l:List Int} {r:Int} {j:Nat} (h:r∈l.take j):findF l r<(j:Int):=by
 have:=findI_in (k:=0) h;rwa [Nat.zero_add] at this
theorem contains_any {w:World} {base n:Nat} {e:TypeId} {v:Value} {xs:List Int} (h:OwnS w base e v n xs) (x:Int) :
  Calls Try.prog 73 #[v,.int .i64 x] w fun e w' => e=.returned (.bool (xs.contains x))∧w=w' := by
 by_cases hn:0<n
 ·obtain ⟨g,c,rfl,hO⟩:=h.own hn;have hl:=hO.len;refine (Any.slices_Contains_int nLays107 g 0 n c xs x w (by omega) hO.2.2 ?_).mono ?_
  ·intro j hj;rw [Nat.zero_add];refine hO.cell ?_;rw [List.getD_eq_getElem?_getD,List.getElem?_eq_getElem hj];rfl
  ·rintro e w' ⟨rfl,rfl⟩;rw [List.take_of_length_le (by omega)];exact ⟨rfl,rfl⟩
 ·obtain rfl:n=0:=by omega
  obtain ⟨A,c,rfl,_,hI,_⟩:=h.form;have:xs=[]:=List.eq_nil_of_length_eq_zero h.len;subst this;refine (Any.slices_Contains_int_empty nLays107 A c x w).mono ?_;rintro e w' ⟨rfl,rfl⟩;exact ⟨rfl,rfl⟩
set_option maxRecDepth 100000 in
set_option maxHeartbeats 1600000 in
theorem nFind_any {w:World} {s:ByteArray} (r:Int) (hs:s.size≤17592186044000) :
  Calls Try.prog 43 #[.string s,.int .i32 r] w fun e w' => e=.returned (.int .i64 (findF (runesOf s) r))∧Below w.heap.size w w' := by
 have HR:=Hd (rit_start w s);have HB:=Hd (show Below w.heap.size w (w.iter s 0) from (Below.refl _ _).alloc (Nat.le_refl _) _);have HS:=Hd hs;clear hs
 go_enter Try.func43,Try.ntmps43
 go_wp2_with fail
 go_loopw [5] (fun v wr=>∃ (pos k:Nat),v=.int .i64 k∧RIt wr w.heap.size s pos k∧r∉(runesOf s).take k∧Below w.heap.size w wr) (fun _ wr=>s.size-wr.iterPos w.heap.size)
 case atStart=>exact ⟨0,0,rfl,HR.out,by simp,HB.out⟩
 case round =>
  obtain ⟨pos,k,rfl,hI,hno,hB⟩:=hrel;have HI:=Hd hI;have HN:=Hd hno;have HBW:=Hd hB;clear hno;by_cases hlt:pos<s.size
  ·obtain ⟨w2,x,d,hnx,hI2,hd,hx,hf,hB2,hg⟩:=rit_next hI hlt hB (Nat.le_refl _);have HI2:=Hd hI2;have HB2:=Hd hB2;have HX:=Hd hx;have hkb:=rit_bd hI hlt;have hs:=HS.out;clear hI hI2 hB hB2 hf hg hx;by_cases hxr:x=r
   ·subst hxr;have HV:=Hd (findF_at HX.out HN.out);go_wp2;go_ret;exact ⟨by rw [HV.out];rfl,HB2.out⟩
   ·have dxr:(x==r)=false:=by simpa using hxr
    have HXR:=Hd hxr;clear hxr;go_wp2;go_roundw
    case rel=>exact ⟨pos+d,k+1,by go_num,HI2.out,by
     rw [List.take_add_one,HX.out];intro hm;rcases List.mem_append.1 hm with hm | hm
     ·exact HN.out hm
     ·exact HXR.out (List.mem_singleton.1 hm).symm,HB2.out⟩
    case measure=>rw [rit_pos HI2.out,rit_pos HI.out];omega
  ·have hnx:=rit_over hI hlt;have HV:=Hd (show findF (runesOf s) r = -1 from findF_none (by have h1:=HN.out;rwa [List.take_of_length_le (rit_end hI hlt)] at h1));clear hI hB;go_wp2;go_ret;exact ⟨by rw [HV.out];rfl,HBW.out⟩
open Classical in
noncomputable def goodR (x:Int):Bool:=decide (¬ badR x)
theorem goodR_yes {x:Int} (h:¬ badR x):goodR x=true:=by unfold goodR;simpa using h
theorem goodR_no {x:Int} (h:badR x):goodR x=false:=by unfold goodR;simpa using h
set_option maxRecDepth 100000 in
set_option maxHeartbeats 1600000 in
theorem nMay_any {w:World} (x:Int) :
  Calls Try.prog 42 #[.int .i32 x] w fun e w' => e=.returned (.bool (goodR x))∧w=w' := by
 by_cases b1:x=46
 ·subst b1;have HG:=Hd (goodR_no (x:=46) (by unfold badR;omega))
  go_enter Try.func42,Try.ntmps42
  go_wp2;go_ret;exact ⟨by rw [HG.out];rfl,by trivial⟩
 by_cases b2:x=45
 ·subst b2;have HG:=Hd (goodR_no (x:=45) (by unfold badR;omega))
  go_enter Try.func42,Try.ntmps42
  go_wp2;go_ret;exact ⟨by rw [HG.out];rfl,by trivial⟩
 by_cases b3:x=40
 ·subst b3;have HG:=Hd (goodR_no (x:=40) (by unfold badR;omega))
  go_enter Try.func42,Try.ntmps42
  go_wp2;go_ret;exact ⟨by rw [HG.out];rfl,by trivial⟩
 by_cases b4:x=41
 ·subst b4;have HG:=Hd (goodR_no (x:=41) (by unfold badR;omega))
  go_enter Try.func42,Try.ntmps42
  go_wp2;go_ret;exact ⟨by rw [HG.out];rfl,by trivial⟩
 by_cases b5:x=65533
 ·subst b5;have HG:=Hd (goodR_no (x:=65533) (by unfold badR;omega))
  go_enter Try.func42,Try.ntmps42
  go_wp2;go_ret;exact ⟨by rw [HG.out];rfl,by trivial⟩
 have d1:(x==46)=false:=by simpa using b1
 have d2:(x==45)=false:=by simpa using b2
 have d3:(x==40)=false:=by simpa using b3
 have d4:(x==41)=false:=by simpa using b4
 have d5:(x==65533)=false:=by simpa using b5
 have HG:=Hd (show decide ((33:Int)≤x)=goodR x by
  by_cases b0:x<33
  ·rw [goodR_no (by unfold badR;omega)];simp;omega
  ·rw [goodR_yes (by unfold badR;omega)];simp;omega)
 clear b1 b2 b3 b4 b5
 go_enter Try.func42,Try.ntmps42
 go_wp2;go_ret;exact ⟨by rw [← HG.out];rfl,by trivial⟩
set_option maxRecDepth 100000 in
set_option maxHeartbeats 3200000 in
theorem nRight_any {w:World} {s:ByteArray} (nn:Int) (hs:s.size≤17592186044000) :
  Calls Try.prog 22 #[.string s,.int .i64 nn] w fun e w' => e=.returned (.bool (rightB (runesOf s) nn))∧Below w.heap.size w w' := by
 have HR:=Hd (rit_start w s);have HB:=Hd (show Below w.heap.size w (w.iter s 0) from (Below.refl _ _).alloc (Nat.le_refl _) _);have HS:=Hd hs;clear hs
 go_enter Try.func22,Try.ntmps22
 by_cases g0:nn<0
 ·have dg0:decide (nn<0)=true:=by simpa using g0
  have HX:=Hd (rightB_no (l:=runesOf s) (n:=nn) (fun h=>by have:=h.1;omega));go_wp2;go_ret;exact ⟨ret_bool HX.out.symm,Below.refl _ _⟩
 have dg0:decide (nn<0)=false:=by simpa using g0
 by_cases g1:3<nn
 ·have dg1:decide (3<nn)=true:=by simpa using g1
  have HX:=Hd (rightB_no (l:=runesOf s) (n:=nn) (fun h=>by have:=h.2.1;omega));go_wp2;go_ret;exact ⟨ret_bool HX.out.symm,Below.refl _ _⟩
 have dg1:decide (3<nn)=false:=by simpa using g1
 go_wp2_with fail
 go_loopw [5] (fun v wr=>∃ (pos k:Nat),v=.int .i64 k∧(k:Int)≤nn∧k≤(runesOf s).length∧RIt wr w.heap.size s pos k∧(∀ j,j<k→RightAt (runesOf s) j)∧Below w.heap.size w wr) (fun _ wr=>s.size-wr.iterPos w.heap.size)
 case atStart=>exact ⟨0,0,rfl,by omega,by omega,HR.out,fun j hj=>by omega,HB.out⟩
 case round =>
  obtain ⟨pos,k,rfl,hk3,hkl9,hI,hall,hB⟩:=hrel;have HI:=Hd hI;have HALL:=Hd hall;have HBW:=Hd hB;clear hall;by_cases hlt:pos<s.size
  ·obtain ⟨w2,x,d,hnx,hI2,hd,hx,hf,hB2,hg⟩:=rit_next hI hlt hB (Nat.le_refl _);have HI2:=Hd hI2;have HB2:=Hd hB2;have HX:=Hd hx;have hkb:=rit_bd hI hlt;have hs:=HS.out;have hkl:k<(runesOf s).length:=(List.getElem?_eq_some_iff.1 hx).1;have HBAD:=Hd (show ¬ (¬ badR x∧findF (runesOf s) x=k)→rightB (runesOf s) nn=false from fun hb=>rightB_no fun h=>hb (h.2.2.2 k x HX.out));clear hI hI2 hB hB2 hf hg hx;by_cases gk:(k:Int)=nn
   ·have dgk:((k:Int)==nn)=true:=by simpa using gk
    have HV:=Hd (rightB_no (l:=runesOf s) (n:=nn) (fun h=>by have:=h.2.2.1;omega));go_wp2;go_ret;exact ⟨ret_bool HV.out.symm,HB2.out⟩
   have dgk:((k:Int)==nn)=false:=by simpa using gk
   have CM:=fun w:World=>nMay_any (w:=w) x
   by_cases bx:badR x
   ·have HV:=Hd (HBAD.out (fun h=>h.1 bx));simp only [goodR_no bx] at CM;clear bx
    go_wp2_with fail
    refine (CM _).mono ?_;rintro e3 w3 ⟨rfl,rfl⟩;clear CM;go_wp2;go_ret;exact ⟨ret_bool HV.out.symm,HB2.out⟩
   have HNB:=Hd bx;simp only [goodR_yes bx] at CM;clear bx;have CF:=nFind_any (w:=w2) (s:=s) x HS.out;obtain ⟨f,hf2⟩:∃ f,findF (runesOf s) x=f:=⟨_,rfl⟩;rw [hf2] at CF;have HF:=Hd hf2;have hfb:=findF_bd (runesOf s) x;rw [hf2] at hfb;clear hf2
   go_wp2_with fail
   refine (CM _).mono ?_;rintro e3 w3 ⟨rfl,rfl⟩;clear CM
   go_wp2_with fail
   refine CF.mono ?_;rintro e4 w4 ⟨rfl,hb4⟩;have HI4:=Hd (rit_below HI2.out hb4 (rit_lt HI2.out));have HB4:=Hd (then_ HB2.out hb4);clear CF hb4;by_cases gf:f<(k:Int)
   ·have dgf:decide (f<(k:Int))=true:=by simpa using gf
    have HV:=Hd (HBAD.out (fun h=>by have:=h.2;rw [HF.out] at this;omega));go_wp2;go_ret;exact ⟨ret_bool HV.out.symm,HB4.out⟩
   have dgf:decide (f<(k:Int))=false:=by simpa using gf
   have HFK:=Hd (show findF (runesOf s) x=k by
    have hm:findF (runesOf s) x≤k:=by
     by_cases hin:x∈(runesOf s).take k
     ·exact Int.le_of_lt (findF_in hin)
     ·rw [findF_at HX.out hin];exact Int.le_refl _
    rw [HF.out] at hm ⊢;omega)
   go_wp2;go_roundw
   case rel=>exact ⟨pos+d,k+1,by go_num,by omega,by omega,HI4.out,fun j hj=>by
    rcases Nat.lt_or_ge j k with h | h
    ·exact HALL.out j h
    ·obtain rfl:j=k:=by omega
     intro y hy;rw [HX.out] at hy;injection hy with hy
     subst hy
     exact ⟨HNB.out,HFK.out⟩,HB4.out⟩
   case measure=>rw [rit_pos HI4.out,rit_pos HI.out];omega
  ·have hnx:=rit_over hI hlt;have hle:=rit_end hI hlt
   have HV:=Hd (show ((k:Int)==nn)=rightB (runesOf s) nn by
    by_cases gk:(k:Int)=nn
    ·rw [rightB_yes ⟨by omega,by omega,by omega,fun j x hj=>by
      rcases Nat.lt_or_ge j k with h | h
      ·exact HALL.out j h x hj
      ·have:=(List.getElem?_eq_some_iff.1 hj).1;omega⟩]
     simpa using gk
    ·rw [rightB_no (fun h=>gk (by have:=h.2.2.1;omega))]
     simpa using gk)
   clear hI hB hle;go_wp2;go_ret;exact ⟨ret_bool HV.out,HBW.out⟩
theorem noteR_bad2 {nm l:List Int} {rank:Int} (g:noteL nm [] l=none):noteR nm l rank=([],false,14):=by
 rcases Nat.lt_or_ge 16 l.length with h | h
 ·exact noteR_long h
 ·exact noteR_bad h g
set_option maxRecDepth 100000 in
set_option maxHeartbeats 3200000 in
theorem nNote_any {w:World} {s t:ByteArray} (rank:Int) (hs:s.size≤17592186044000) (ht:t.size≤17592186044000) :
  Calls Try.prog 45 #[.string s,.string t,.int .i64 rank] w fun e w' => (∃ v m,e=.returned (.tuple #[v,.bool (noteR (runesOf s) (runesOf t) rank).2.1,.int .i64 (noteR (runesOf s) (runesOf t) rank).2.2])∧OwnS w' w.heap.size 3 v m (noteR (runesOf s) (runesOf t) rank).1)∧Below w.heap.size w w' := by
 have HR:=Hd (rit_start w t);have HB:=Hd (show Below w.heap.size w (w.iter t 0) from (Below.refl _ _).alloc (Nat.le_refl _) _);have HZ:=Hd (show w.heap.size+1≤(w.iter t 0).heap.size by simp [World.iter]);have HS:=Hd hs;have HT:=Hd ht;obtain ⟨nm,hnm⟩:∃ l,runesOf s=l:=⟨_,rfl⟩;have HNM:=Hd hnm;have HNB:=Hd (show nm.length≤17592186044000 by rw [← hnm];exact Nat.le_trans (runesOf_length s) hs);rw [hnm];clear hs ht hnm
 go_enter Try.func45,Try.ntmps45
 go_wp2_with fail
 go_loopw [9,10] (fun sv cv wr=>∃ (pos k m:Nat) (out:List Int),cv=.int .i64 k∧k≤16∧m≤k∧k≤(runesOf t).length∧RIt wr w.heap.size t pos k∧OwnS wr (w.heap.size+1) 3 sv m out∧noteL nm [] (runesOf t)=noteL nm out ((runesOf t).drop k)∧w.heap.size+1≤wr.heap.size∧Below w.heap.size w wr) (fun _ _ wr=>t.size-wr.iterPos w.heap.size)
 case atStart=>exact ⟨0,0,0,[],rfl,by omega,by omega,by omega,HR.out,OwnS.nil_ _ _ _,rfl,HZ.out,HB.out⟩
 case round =>
  obtain ⟨pos,k,m,out,rfl,hk,hm,hkl9,hI,hO,hnl,hz,hB⟩:=hrel;have HI:=Hd hI;have HNL:=Hd hnl;have HBW:=Hd hB;have HZW:=Hd hz;clear hnl hz;by_cases hlt:pos<t.size
  ·obtain ⟨w2,x,d,hnx,hI2,hd,hx,hf,hB2,hg⟩:=rit_next hI hlt hB (Nat.le_refl _);have hO2:=hO.grown hg (by omega);have HI2:=Hd hI2;have HO2:=Hd hO2;have HB2:=Hd hB2;have HX:=Hd hx;have HZ2:=Hd (show w.heap.size+1≤w2.heap.size by have:=hg.size;have:=HZW.out;omega);have hkl:k<(runesOf t).length:=(List.getElem?_eq_some_iff.1 hx).1;clear hI hI2 hO hO2 hB hB2 hf hg hx;by_cases g0:16<k+1
   ·have dg0:decide (16<k+1)=true:=by simpa using g0
    have HV:=Hd (noteR_long (nm:=nm) (l:=runesOf t) (rank:=rank) (by omega));go_wp2;go_ret3;rw [HV.out];exact ⟨⟨_,0,rfl,OwnS.nil_ _ _ _⟩,HB2.out⟩
   have dg0:decide (16<k+1)=false:=by simpa using g0
   by_cases b0:x=32
   ·subst b0;have HQ:=Hd (HNL.out.trans (noteL_blank (out:=out) HX.out));go_wp2;go_roundw
    case rel=>exact ⟨pos+d,k+1,m,out,by go_num,by omega,by omega,by omega,HI2.out,HO2.out,HQ.out,HZ2.out,HB2.out⟩
    case measure=>rw [rit_pos HI2.out,rit_pos HI.out];omega
   have db0:(x==32)=false:=by simpa using b0
   have CF:=nFind_any (w:=w2) (s:=s) x HS.out;rw [HNM.out] at CF;have HB0:=Hd b0;clear b0
   go_wp2_with fail
   refine CF.mono ?_;rintro e4 w4 ⟨rfl,hb4⟩;have HI4:=Hd (rit_below HI2.out hb4 (rit_lt HI2.out));have HO4:=Hd (HO2.out.below hb4);have HZ4:=Hd (show w.heap.size+1≤w4.heap.size from Nat.le_trans HZ2.out hb4.size);have HB4:=Hd (then_ HB2.out hb4);have HOL:=Hd HO4.out.len;clear CF hb4;obtain ⟨f,hf2⟩:∃ f,findF nm x=f:=⟨_,rfl⟩;have HF:=Hd hf2;have hfb:=findF_bd nm x;rw [hf2] at hfb ⊢;clear hf2;have hnb:=HNB.out;by_cases b1:x=46
   ·subst b1;have HQ:=Hd (HNL.out.trans (noteL_point (out:=out) HX.out))
    go_wp2_with (at_builtin;refine wpList_append_int rfl _ _ 22 3 rfl Try.underlying22 Try.infoInt9 (w.heap.size+1) _ m out rfl HO4.out HZ4.out (-1) ⟨by omega,by omega⟩ _ rfl ?c1 ?_)
    case c1=>omega
    intro v' w' h1 h2 h3;have HI5:=Hd (rit_below HI4.out h2 (by omega));have G1:=Hd h1;have G2:=Hd (HB4.out.trans (h2.mono (by omega)));have GZ:=Hd (show w.heap.size+1≤w'.heap.size from Nat.le_trans HZ4.out h2.size);clear h1 h2 h3;go_wp2;go_roundw
    case rel=>exact ⟨pos+d,k+1,m+1,out++[-1],by go_num,by omega,by omega,by omega,HI5.out,G1.out,HQ.out,GZ.out,G2.out⟩
    case measure=>rw [rit_pos HI5.out,rit_pos HI.out];omega
   have db1:(x==46)=false:=by simpa using b1
   have HB1:=Hd b1;clear b1;by_cases b2:f<0
   ·have db2:decide (f<0)=true:=by simpa using b2
    have HV:=Hd (noteR_bad2 (rank:=rank) (HNL.out.trans (noteL_none HX.out HB0.out HB1.out (by rw [HF.out];exact b2))));go_wp2;go_ret3;rw [HV.out];exact ⟨⟨_,0,rfl,OwnS.nil_ _ _ _⟩,HB4.out⟩
   have db2:decide (f<0)=false:=by simpa using b2
   have HB2' := Hd (show ¬ findF nm x<0 by rw [HF.out];exact b2);have CC:=contains_any HO4.out f;by_cases b3:f∈out
   ·have HV:=Hd (noteR_bad2 (rank:=rank) (HNL.out.trans (noteL_twice HX.out HB0.out HB1.out HB2'.out (by rw [HF.out];exact b3))));rw [show out.contains f=true from by simpa using b3] at CC;clear b3
    go_wp2_with fail
    refine CC.mono ?_;rintro e5 w5 ⟨rfl,rfl⟩;clear CC;go_wp2;go_ret3;rw [HV.out];exact ⟨⟨_,0,rfl,OwnS.nil_ _ _ _⟩,HB4.out⟩
   have HQ:=Hd (HNL.out.trans (noteL_name (out:=out) HX.out HB0.out HB1.out HB2'.out (by rw [HF.out];exact b3)));rw [show out.contains f=false from by simpa using b3] at CC;clear b3
   go_wp2_with fail
   refine CC.mono ?_;rintro e5 w5 ⟨rfl,rfl⟩;clear CC
   go_wp2_with (at_builtin;refine wpList_append_int rfl _ _ 22 3 rfl Try.underlying22 Try.infoInt9 (w.heap.size+1) _ m out rfl HO4.out HZ4.out f ⟨by omega,by omega⟩ _ rfl ?c1 ?_)
   case c1=>omega
   intro v' w' h1 h2 h3;have HI5:=Hd (rit_below HI4.out h2 (by omega));have G1:=Hd h1;have G2:=Hd (HB4.out.trans (h2.mono (by omega)));have GZ:=Hd (show w.heap.size+1≤w'.heap.size from Nat.le_trans HZ4.out h2.size);clear h1 h2 h3;go_wp2;go_roundw
   case rel=>exact ⟨pos+d,k+1,m+1,out++[f],by go_num,by omega,by omega,by omega,HI5.out,G1.out,by rw [← HF.out];exact HQ.out,GZ.out,G2.out⟩
   case measure=>rw [rit_pos HI5.out,rit_pos HI.out];omega
  ·have hnx:=rit_over hI hlt;have hle:=rit_end hI hlt;have HN16:=Hd (show (runesOf t).length≤16 by omega);have HE:=Hd (HNL.out.trans (noteL_end (out:=out) hle));have HOL:=Hd hO.len;have HOW:=Hd (hO.mono (by omega:w.heap.size≤w.heap.size+1));obtain ⟨Ao,co,hv,hco,_,_⟩:=hO.form;subst hv;clear hI hO hB hle;by_cases m0:m=0
   ·have dm0:((m:Int)==0)=true:=by simpa using m0
    have HOU:out=[]:=List.eq_nil_of_length_eq_zero (by rw [HOL.out];exact m0);have HV:=Hd (noteR_blank (rank:=rank) HN16.out (by rw [HE.out,HOU]));clear HOU;clear m0;go_wp2;go_ret3;rw [HV.out];exact ⟨⟨_,0,rfl,OwnS.nil_ _ _ _⟩,HBW.out⟩
   have dm0:((m:Int)==0)=false:=by simpa using m0
   have HNE:=Hd (show out≠[] from fun h=>m0 (by have:=HOL.out;rw [h] at this;simpa using this.symm));clear m0;by_cases r0:(m:Int)=rank
   ·subst r0;have dr0:((m:Int) != (m:Int))=false:=by simp
    have HV:=Hd (noteR_ok (rank:=(m:Int)) HN16.out HE.out HNE.out (by rw [HOL.out]));go_wp2;go_ret3;rw [HV.out];exact ⟨⟨_,m,rfl,HOW.out⟩,HBW.out⟩
   ·have dr0:((m:Int) != rank)=true:=by simpa using r0
    have HV:=Hd (noteR_rank (rank:=rank) HN16.out HE.out HNE.out (by rw [HOL.out];exact r0));go_wp2;go_ret3;rw [HV.out];exact ⟨⟨_,0,rfl,OwnS.nil_ _ _ _⟩,HBW.out⟩
end Go.Proofs.Ytnnmplkgenhofaa
