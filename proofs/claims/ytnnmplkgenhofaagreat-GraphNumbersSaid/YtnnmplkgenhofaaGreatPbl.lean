import Derived.StillTailTactics
import Derived.Test.YtnnmplkgenhofaaGreatPaa
import Derived.Test.YtnnmplkgenhofaaGreatPad
import Derived.Test.YtnnmplkgenhofaaGreatPae
import Derived.Test.YtnnmplkgenhofaaGreatPam
import Derived.Test.YtnnmplkgenhofaaGreatPan
import Derived.Test.YtnnmplkgenhofaaGreatPas
import Derived.Test.YtnnmplkgenhofaaGreatPau
import Derived.Test.YtnnmplkgenhofaaGreatPaw
import Derived.Test.YtnnmplkgenhofaaGreatPbe
import Derived.Test.YtnnmplkgenhofaaGreatPbk
set_option maxRecDepth 100000
set_option maxHeartbeats 12800000
namespace Go.Proofs.YtnnmplkgenhofaaGreat
open Go.RowKit
def ListPost (w:World) (r:Int × List Int) (e:Ending) (w' : World):Prop :=
 (∃ v m,e=.returned (.tuple #[v,.int .i64 r.1])∧OwnS w' w.heap.size 3 v m r.2)∧Below w.heap.size w w'
theorem listPost_no {w w' : World} {r:Int × List Int} {e:Int} (h:r=(e,[])) (hb:Below w.heap.size w w'):ListPost w r (.returned (.tuple #[.slice none 0 0,.int .i64 e])) w' := by
 subst h;exact⟨⟨_,0,rfl,OwnS.nil_ _ _ _⟩,hb⟩
theorem listPost_yes {w w' : World} {r:Int × List Int} {v:Value} {m:Nat} {xs:List Int} (h:r=(0,xs)) (ho:OwnS w' w.heap.size 3 v m xs) (hb:Below w.heap.size w w'):ListPost w r (.returned (.tuple #[v,.int .i64 0])) w' := by
 subst h;exact⟨⟨_,m,rfl,ho⟩,hb⟩
theorem copied_any {w:World} {A:Option Addr} {n c:Nat} {xs:List Int} (h:Ints w A n xs) (hn:n≤17592186044000) :
  Calls Tryz.prog 46 #[.slice A n c] w fun e w' => (∃ v,e=.returned v∧OwnS w' w.heap.size 3 v n xs)∧Below w.heap.size w w' := by
 have hmk:=run_make_noughts Tryz.underlying22 Tryz.infoInt (n:=n) (by omega);have h1:=(Sep.nil w).noughts 3 n (by omega);have HI:=Hd h;have hnle:=h.le;clear h
 go_enter Tryz.func46,Tryz.ntmps46
 go_upto_region 2 with fail
 generalize hW:w.alloc (.cells (noughts n) 3)=W at *;have H:=Hd h1;have hO:=h1.own 0 rfl;have HO:=Hd hO;have HI2:=Hd (HI.out.below h1.base);clear h1 hmk hO hW
 go_wp2_with (with_reducible refine wpList_copy_ints rfl (.tmp 7) (.tmp 8) 22 22 rfl 3 Tryz.underlying22 Tryz.sizeInt HO.out rfl rfl HI2.out ?_)
 intro w3 hO3 hg3;have H3:=Hd (H.out.change 0 (d:=.own 3 (.slice (some ⟨w.heap.size,0,none⟩) n n) n xs) rfl hg3 hO3 (fun k hk=>.inl hk));clear hO3 hg3;go_wp2;go_ret;exact⟨⟨_,rfl,H3.out.ownS 0 rfl⟩,H3.out.base⟩
def axF (x:Int) (n:Nat):Bool:=decide (0≤x) && decide (x<n)
theorem isAxis_any (x:Int) {A:Option Addr} {n c:Nat} (w:World) :
  Calls Tryz.prog 86 #[.int .i64 x,.slice A n c] w fun e w' => e=.returned (.bool (axF x n))∧w=w' := by
 by_cases h:0≤x
 ·have d:decide (0≤x)=true:=by simpa using h
  have HX:=Hd (show axF x n=decide (x<n) by rw[axF,d];rfl)
  go_enter Tryz.func86,Tryz.ntmps86
  go_wp2;go_ret;exact⟨ret_bool (by rw[HX.out]),rfl⟩
 ·have d:decide (0≤x)=false:=by simpa using h
  have HX:=Hd (show axF x n=false by rw[axF,d];rfl)
  go_enter Tryz.func86,Tryz.ntmps86
  go_wp2;go_ret;exact⟨ret_bool HX.out.symm,rfl⟩
theorem axF_iff {x:Int} {n:Nat}:axF x n=true↔0≤x∧x<n:=by simp[axF]
open Classical in
noncomputable def riseF (a:List Int) (r:Nat):Bool:=decide (Rises a r)
theorem riseF_yes {a:List Int} {r:Nat} (h:Rises a r):riseF a r=true:=by simpa [riseF] using h
theorem riseF_no {a:List Int} {r:Nat} (h:¬ Rises a r):riseF a r=false:=by simpa [riseF] using h
theorem gRising_any {w:World} {A S:Option Addr} {n c r d:Nat} {a:List Int} (h:Ints w A n a) (hr:r≤4) :
  Calls Tryz.prog 88 #[.slice A n c,.slice S r d] w fun e w' => e=.returned (.bool (riseF a r))∧w=w' := by
 have hn:=h.len;have hle:=h.le;have H1:=Hd hn;clear hn
 go_enter Tryz.func88,Tryz.ntmps88
 go_wp2
 go_loop [5,10] (fun last i=>∃(k:Nat) (l:Int),k≤n∧i=.int .i64 k∧last=.int .i64 l ∧ -1≤l∧l≤4∧(∀ j,j<k→RisesAt a r j)∧(∀ z,0<k→a[k-1]? = some z→z=l)∧(k=0→l = -1)) (fun _ i=>n-(intOf i).toNat)
 case atStart=>exact⟨0,-1,Nat.zero_le _,rfl,rfl,by omega,by omega,fun j hj=>by omega,fun z hz=>by omega,fun _=>rfl⟩
 case round =>
  obtain⟨k,l,hk,rfl,rfl,hl1,hl2,hall,hlast,hz0⟩:=hrel;have HA:=Hd hall;clear hall;have HL:=Hd hlast;clear hlast;have HZ:=Hd hz0;clear hz0;by_cases hlt:k<n
  ·obtain⟨ad,x,rfl,hb,hx,hc,hf⟩:=h.at_ hlt;have HX:=Hd hx;clear hx
   have HLE:=Hd (show ¬ l<x→¬ Rises a r from fun hxl hR=>by
    have h1:=hR k x HX.out;by_cases hk0:k=0
    ·have:=HZ.out hk0;omega
    ·obtain⟨z,hz⟩:=getElem_of (l:=a) (k:=k-1) (by have:=H1.out;omega);have:=HL.out z (by omega) hz;have:=h1.2.2 z (by omega) hz
     omega)
   have HGE:=Hd (show ¬ x<r→¬ Rises a r from fun hxl hR=>hxl (hR k x HX.out).2.1);by_cases g1:x≤l
   ·have HN:=Hd (riseF_no (HLE.out (by omega)));clear HLE HGE;have d1:decide (x≤l)=true:=by simpa using g1
    go_wp2;go_ret;exact⟨ret_bool HN.out.symm,rfl⟩
   ·have d1:decide (x≤l)=false:=by simpa using g1
    by_cases g2:(r:Int)≤x
    ·have HN:=Hd (riseF_no (HGE.out (by omega)));clear HLE HGE;have d2:decide ((r:Int)≤x)=true:=by simpa using g2
     go_wp2;go_ret;exact⟨ret_bool HN.out.symm,rfl⟩
    ·clear HLE HGE;have d2:decide ((r:Int)≤x)=false:=by simpa using g2
     go_wp2;go_round
     case rel=>exact⟨k+1,x,by omega,by go_num,rfl,by omega,by omega,fun j hj=>by
      rcases Nat.lt_or_ge j k with h' | h'
      ·exact HA.out j h'
      ·obtain rfl:j=k:=by omega
       intro y hy;rw[HX.out] at hy;injection hy with hy;subst hy
       refine⟨?_,by omega,fun z hz1 hz2=>?_⟩
       ·omega
       ·have:=HL.out z hz1 hz2;omega,fun z _ hz=>by rw[Nat.add_sub_cancel,HX.out] at hz;injection hz with hz;exact hz.symm,fun e=>by omega⟩
     case measure=>simp[intOf];omega
  ·have HR:=Hd (riseF_yes (show Rises a r from fun j x hx=>HA.out j (by have:=(List.getElem?_eq_some_iff.1 hx).1;have:=H1.out;omega) x hx));go_wp2;go_ret;exact⟨ret_bool HR.out.symm,rfl⟩
theorem gIndex_any {w:World} {A:Option Addr} {n c:Nat} {a:List Int} (x:Int) (h:Ints w A n a) :
  Calls Tryz.prog 106 #[.slice A n c,.int .i64 x] w fun e w' => (∃ k:Int,e=.returned (.int .i64 k)∧decide (0≤k)=decide (x∈a))∧w=w' := by
 have hn:=h.len;have hle:=h.le;have H1:=Hd hn;clear hn
 go_enter Tryz.func106,Tryz.ntmps106
 go_wp2
 go_loop [8] (fun i=>∃ k:Nat,k≤n∧i=.int .i64 k∧x∉a.take k) (fun i=>n-(intOf i).toNat)
 case atStart=>exact⟨0,Nat.zero_le _,rfl,by simp⟩
 case round =>
  obtain⟨k,hk,rfl,hall⟩:=hrel;have HA:=Hd hall;clear hall;by_cases hlt:k<n
  ·obtain⟨ad,y,rfl,hb,hy,hc,hf⟩:=h.at_ hlt;have HY:=Hd hy;clear hy;by_cases g1:x=y
   ·subst g1;have d1:(x==x)=true:=by simp
    have HM:=Hd (show x∈a from List.mem_of_getElem? HY.out);go_wp2;go_ret;exact⟨⟨_,rfl,by simp[HM.out]⟩,rfl⟩
   ·have d1:(x==y)=false:=by simpa using g1
    have HNE:=Hd g1;clear g1;go_wp2;go_round
    case rel=>exact⟨k+1,by omega,by go_num,by rw[List.take_add_one,HY.out];simp[HA.out,HNE.out]⟩
    case measure=>simp[intOf];omega
  ·have HM:=Hd (show x∉a by have:=HA.out;rwa [List.take_of_length_le (by have:=H1.out;omega)] at this);go_wp2;go_ret;exact⟨⟨_,rfl,by simp[HM.out]⟩,rfl⟩
theorem gContains_any {w:World} {A:Option Addr} {n c:Nat} {a:List Int} (x:Int) (h:Ints w A n a) :
  Calls Tryz.prog 87 #[.slice A n c,.int .i64 x] w fun e w' => e=.returned (.bool (decide (x∈a)))∧w=w' := by
 have C1:=gIndex_any (c:=c) x h
 go_enter Tryz.func87,Tryz.ntmps87
 go_wp2_with fail
 refine C1.mono ?_;rintro e1 w1 ⟨⟨k,rfl,hk⟩,rfl⟩;have HK:=Hd hk;clear hk C1;go_wp2;go_ret;exact⟨ret_bool HK.out,rfl⟩
theorem gEqual_any {w:World} {A B:Option Addr} {n c m d:Nat} {xs ys:List Int} (h:Ints w A n xs) (g:Ints w B m ys) :
  Calls Tryz.prog 47 #[.slice A n c,.slice B m d] w fun e w' => e=.returned (.bool (xs==ys))∧∃ q,w' = w.drewN q:=by
 have hn:=h.len;have hm:=g.len;have hle:=h.le;have hme:=g.le;by_cases hnm:n=m
 ·subst hnm;have H1:=Hd hn;clear hn;have H2:=Hd hm;clear hm
  go_enter Tryz.func47,Tryz.ntmps47
  go_wp2
  go_loopw [13] (fun i wr=>∃ k:Nat,k≤n∧i=.int .i64 k∧xs.take k=ys.take k∧∃ q,wr=w.drewN q) (fun i _=>n-(intOf i).toNat)
  case atStart=>exact⟨0,Nat.zero_le _,rfl,by simp,0,rfl⟩
  case round =>
   obtain⟨k,hk,rfl,ht,q,rfl⟩:=hrel;have HT:=Hd ht;clear ht;by_cases hlt:k<n
   ·obtain⟨ad,x,rfl,hb,hx,hc,hf⟩:=h.at_ hlt;obtain⟨bd,y,rfl,hb2,hy,hc2,hf2⟩:=g.at_ hlt;have HE:=Hd (⟨hx,hy⟩:_∧_);clear hx hy;by_cases hxy:x=y
    ·subst hxy
     go_wp2_with fail
     go_quiet (fail)
     go_wp2;go_roundw
     case rel=>exact⟨k+1,by omega,by go_num,take_same HE.out.1 HE.out.2 HT.out,_,rfl⟩
     case measure=>simp[intOf];omega
    ·have hb9:(x != y)=true:=by simpa using hxy
     have HN:=Hd (ne_of_at HE.out.1 HE.out.2 hxy);clear hxy
     go_wp2_with fail
     go_quiet (fail)
     go_wp2;go_ret;exact⟨ret_bool HN.out.symm,_,World.drewN_drewN _ _ _⟩
   ·have HQ:=Hd (eq_of_take H1.out H2.out (by omega) HT.out);go_wp2;go_ret;exact⟨ret_bool HQ.out.symm,_,rfl⟩
 ·have hb:((n:Int) != (m:Int))=true:=by simp;omega
  have HN:=Hd (show(xs==ys)=false by
   cases he:(xs==ys) with
   | false=>rfl
   | true=>have:=eq_of_beq he;subst this;omega)
  clear hn hm
  go_enter Tryz.func47,Tryz.ntmps47
  go_wp2;go_ret;exact⟨ret_bool HN.out.symm,0,rfl⟩
theorem gOwn_any {w:World} {A:Option Addr} {n c:Nat} {s:List Int} (h:Ints w A n s) :
  Calls Tryz.prog 54 #[.slice A n c] w (ListPost w (ownP s)):=by
 have C1:=right_any (c:=c) h;have hl:=h.len;have HI:=Hd h;clear h
 cases hr:Sh.right s with
 | false =>
  rw[hr] at C1;have HX:=Hd (show ownP s=(13,[]) by rw[ownP,hr];rfl);clear hr
  go_enter Tryz.func54,Tryz.ntmps54
  go_wp2_with fail
  refine C1.mono ?_;rintro e1 w1 ⟨rfl,rfl⟩;clear C1;go_wp2;go_ret2
  exact listPost_no HX.out (Below.refl _ _)
 | true =>
  rw[hr] at C1;have hn4:=(Sh.right_iff.1 hr).1;have C2:=copied_any (c:=c) HI.out (by omega);have HX:=Hd (show ownP s=(0,s) by rw[ownP,hr];rfl);clear hr
  go_enter Tryz.func54,Tryz.ntmps54
  go_wp2_with fail
  refine C1.mono ?_;rintro e1 w1 ⟨rfl,rfl⟩;clear C1
  go_wp2_with fail
  refine C2.mono ?_;rintro e2 w2 ⟨⟨v,rfl,hO⟩,hb⟩;have HO:=Hd hO;clear C2 hO;go_wp2;go_ret2;exact listPost_yes HX.out HO.out hb
theorem run_make_room {t e:TypeId} (ht:Tryz.prog.underlying t=some (.slice e)) (hinfo:(Tryz.prog.info? e).map (fun i=>(i.zero,i.size,i.bytes))=some (some (.int .i64 0),1,8))
  {n:Nat} (hn:n≤17592186044000) (w:World) :
  (Instr.makeSlice t (.int .i64 0) (.int .i64 n)).run Tryz.prog w=.ok (.slice (some ⟨w.heap.size,0,none⟩) 0 n) (w.alloc (.cells (noughts n) e)):=by
 obtain⟨i,hi,hz0,hz1,hz2⟩:=info_parts hinfo;have:=run_make (P:=Tryz.prog) w t e i (.int .i64 0) ht hi hz0 .i64 .i64 0 n (by omega) (by omega) (by rw[hz2];omega) (by omega);rw[this,hz1];simp only[Int.toNat_natCast,Nat.mul_one];rw[← madeCells_noughts];rfl
theorem Sep.room {w0 w:World} {l:List Chunk} (h:Sep w0 w l) (e:TypeId) (n:Nat) (hn:n≤17592186044000):Sep w0 (w.alloc (.cells (Go.Proofs.YtnnmplkgenhofaaGreat.noughts n) e)) (.own e (.slice (some ⟨w.heap.size,0,none⟩) 0 n) 0 []::l) :=
 h.addOwn ((Below.refl _ _).alloc (Nat.le_refl _) _) ⟨⟨rfl,.inr ⟨w.heap.size,n,Go.Proofs.YtnnmplkgenhofaaGreat.noughts n,rfl,Nat.le_refl _,heap_alloc_new _ _,Nat.zero_le _,by unfold maxLen;omega,by simp[Go.Proofs.YtnnmplkgenhofaaGreat.noughts],by simp⟩⟩,by simp,by omega⟩
def wo:Nat→List Int→List Int→List Int × List Int
 | _,[],ax=>([],ax)
 | k,x::l,ax=>if ax[0]? = some (k:Int) then wo (k+1) l (ax.drop 1) else(x::(wo (k+1) l ax).1,(wo (k+1) l ax).2)
def WoAt (l a:List Int) (j:Nat) (acc ax:List Int):Prop:=wo 0 l a=(acc++(wo j (l.drop j) ax).1,(wo j (l.drop j) ax).2)
theorem WoAt.start (l a:List Int):WoAt l a 0 [] a:=by simp[WoAt]
theorem fdRight_any (how:Int) (w:World) :
  Calls Tryz.prog 90 #[.int .i64 how] w fun e w' => e=.returned (.bool (howOk how))∧w=w' := by
 by_cases h1:1≤how
 ·have d1:decide (1≤how)=true:=by simpa using h1
  go_enter Tryz.func90,Tryz.ntmps90
  go_wp2;go_ret;exact⟨ret_bool (by simp[howOk,h1]),rfl⟩
 ·have d1:decide (1≤how)=false:=by simpa using h1
  have HX:=Hd (show howOk how=false by simp only[howOk,d1,Bool.false_and])
  go_enter Tryz.func90,Tryz.ntmps90
  go_wp2;go_ret;exact⟨ret_bool HX.out.symm,rfl⟩
theorem dtShape_any {w:World} {A B:Option Addr} {na ca nb cb:Nat} {a b:List Int} (n:Int) (hA:Ints w A na a) (hB:Ints w B nb b) (ka:na≤ca) (kb:nb≤cb) :
  Calls Tryz.prog 91 #[.slice A na ca,.slice B nb cb,.int .i64 n] w fun e w' => (∃ v m,e=.returned (.tuple #[v,.int .i64 (dsR a b n).1])∧OwnS w' w.heap.size 3 v m (dsR a b n).2)∧Below w.heap.size w w' := by
 have hla:=hA.len;have hlb:=hB.len;have hlea:=hA.le;have hleb:=hB.le;by_cases h0:n<0
 ·have d0:decide (n<0)=true:=by simpa using h0
  have HX:=Hd (dsR_arg (a:=a) (b:=b) (n:=n) (by omega))
  go_enter Tryz.func91,Tryz.ntmps91
  go_wp2;go_ret2;rw[HX.out];exact⟨⟨_,0,rfl,OwnS.nil_ _ _ _⟩,Below.refl _ _⟩
 have d0:decide (n<0)=false:=by simpa using h0
 obtain⟨k,rfl⟩:=Int.eq_ofNat_of_zero_le (by omega:0≤n);clear h0;by_cases h1:na≤k
 ·have d1:decide (na≤k)=true:=by simpa using h1
  have HX:=Hd (dsR_arg (a:=a) (b:=b) (n:=(k:Int)) (by omega));clear hla hlb
  go_enter Tryz.func91,Tryz.ntmps91
  go_wp2;go_ret2;rw[HX.out];exact⟨⟨_,0,rfl,OwnS.nil_ _ _ _⟩,Below.refl _ _⟩
 have d1:decide (na≤k)=false:=by simpa using h1
 by_cases h2:nb≤k
 ·have d2:decide (nb≤k)=true:=by simpa using h2
  have HX:=Hd (dsR_arg (a:=a) (b:=b) (n:=(k:Int)) (by omega));clear hla hlb
  go_enter Tryz.func91,Tryz.ntmps91
  go_wp2;go_ret2;rw[HX.out];exact⟨⟨_,0,rfl,OwnS.nil_ _ _ _⟩,Below.refl _ _⟩
 have d2:decide (nb≤k)=false:=by simpa using h2
 have hka:k<na:=by omega
 have hkb:k<nb:=by omega
 clear h1 h2;have HAB:=Hd (show k<a.length∧k<b.length by omega);obtain⟨pa,x,hpA,_,hx,hcx,hfx⟩:=hA.at_ (k:=na-1) (by omega);obtain⟨pb,y,hpB,_,hy,hcy,hfy⟩:=hB.at_ (k:=k) hkb;subst hpA;subst hpB;have HX:=Hd (show a.getD (a.length-1) 0=x by rw[List.getD_eq_getElem?_getD,hla,hx];rfl);have HY:=Hd (show b.getD k 0=y by rw[List.getD_eq_getElem?_getD,hy];rfl);have HLA:=Hd hla;have HLB:=Hd hlb;have IA:=Hd (hA.take (k:=k) (by omega));have IB:=Hd (hB.take (k:=k) (by omega));have HA:=Hd hA;have HB:=Hd hB;clear hx hy hfx hfy hla hlb hA hB;have hwn:IntKind.i64.wrap ((na:Int)-1)=((na-1:Nat):Int):=by rw[show(na:Int)-1=((na-1:Nat):Int) by omega];exact IntWalk.i64_in _ ⟨by omega,by omega⟩
 have CA:=right_any (c:=ca) HA.out;have CB:=right_any (c:=cb) HB.out
 cases RA:Sh.right a with
 | false =>
  rw[RA] at CA;have HX:=Hd (dsR_shape HAB.out (by rw[dotFit,RA];rfl))
  go_enter Tryz.func91,Tryz.ntmps91
  go_wp2_with fail
  refine CA.mono ?_;rintro e1 w1 ⟨rfl,rfl⟩;clear CA;go_wp2;go_ret2;rw[HX.out]
  exact⟨⟨_,0,rfl,OwnS.nil_ _ _ _⟩,Below.refl _ _⟩
 | true =>
  rw[RA] at CA
  cases RB:Sh.right b with
  | false =>
   rw[RB] at CB;have HX:=Hd (dsR_shape HAB.out (by rw[dotFit,RA,RB];rfl))
   go_enter Tryz.func91,Tryz.ntmps91
   go_wp2_with fail
   refine CA.mono ?_;rintro e1 w1 ⟨rfl,rfl⟩;clear CA
   go_wp2_with fail
   refine CB.mono ?_;rintro e2 w2 ⟨rfl,rfl⟩;clear CB;go_wp2;go_ret2;rw[HX.out]
   exact⟨⟨_,0,rfl,OwnS.nil_ _ _ _⟩,Below.refl _ _⟩
  | true =>
   rw[RB] at CB
   cases RP:(a.take k==b.take k) with
   | false =>
    have C3:=fun q=>same_any (c:=ca) (d:=cb) (IA.out.drewN q) (IB.out.drewN q)
    simp only[RP] at C3;replace C3:=Hd C3;have HX:=Hd (dsR_shape HAB.out (by rw[dotFit,RA,RB,show decide (a.take k=b.take k)=false from decide_eq_false (by simpa using RP)];rfl))
    go_enter Tryz.func91,Tryz.ntmps91
    go_wp2_with fail
    refine CA.mono ?_;rintro e1 w1 ⟨rfl,rfl⟩;clear CA
    go_wp2_with fail
    refine CB.mono ?_;rintro e2 w2 ⟨rfl,rfl⟩;clear CB
    go_upto_region 6 with fail
    go_quiet (first|(go_at_call 89;with_reducible exact quietS (C3.out _)))
    go_wp2;go_ret2;rw[HX.out]
    exact⟨⟨_,0,rfl,OwnS.nil_ _ _ _⟩,(Sep.nil w).drewN _ |>.base⟩
   | true =>
    have C3:=fun q=>same_any (c:=ca) (d:=cb) (IA.out.drewN q) (IB.out.drewN q)
    simp only[RP] at C3;replace C3:=Hd C3;by_cases hxy:x=y
    ·subst hxy;have HFT:=Hd (show dotFit a b k=true from dotFit_iff.2 ⟨RA,RB,by simpa using RP,HX.out.trans HY.out.symm⟩);have dxx:(x != x)=false:=by simp
     have hna4:na≤4:=by have:=(Sh.right_iff.1 RA).1;have:=HLA.out;omega
     have hnb4:nb≤4:=by have:=(Sh.right_iff.1 RB).1;have:=HLB.out;omega
     go_enter Tryz.func91,Tryz.ntmps91
     go_wp2_with fail
     refine CA.mono ?_;rintro e1 w1 ⟨rfl,rfl⟩;clear CA
     go_wp2_with fail
     refine CB.mono ?_;rintro e2 w2 ⟨rfl,rfl⟩;clear CB
     go_upto_region 6 with fail
     go_quiet (first|(go_at_call 89;with_reducible exact quietS (C3.out _)))
     go_upto_region 8 with fail
     have H:=Hd ((Sep.nil w).drewN nq);generalize w.drewN nq=w5 at *;clear C3 HY dxx hcx hcy;obtain⟨nz,hnz⟩:∃ nz:Nat,na-1+nb-k-1=nz:=⟨_,rfl⟩;have hs3:((na-1:Nat):Int)+(nb:Int)-(k:Int)-1=(nz:Int):=by omega
     have hnz6:nz≤8:=by omega
     have HNZ:=Hd hnz;clear hnz;have hm:=run_make_room Tryz.underlying22 Tryz.infoInt (n:=nz) (by omega);have h1:=H.out.room 3 nz (by omega)
     go_upto_region 9 with fail
     generalize w5.alloc (.cells (noughts nz) 3)=w6 at *;replace H1:=Hd h1;clear h1 hm hs3 H;obtain⟨A2,hsl,hI2⟩:=run_dropK ((k:Int)+1) (k:=k+1) (by omega) HB.out (by omega) (by omega) kb;have HI2:=Hd hI2;clear hI2;have hwk:IntKind.i64.wrap ((k:Int)+1)=(k:Int)+1:=IntWalk.i64_in _ ⟨by omega,by omega⟩;have HI1:=Hd (HA.out.take (k:=na-1) (by omega));have hca1:na≤ca+1:=by omega
     go_wp2_with (at_builtin;refine wpList_appends_sep rfl (.tmp 62) (.tmp 65) 22 3 rfl Tryz.underlying22 Tryz.infoInt H1.out 0 rfl rfl _ (na-1) ca _ rfl (H1.out.oldI HI1.out) ?c1 ?_)
     case c1=>omega
     intro v2 w2 h2;have H2:=Hd h2;clear h2
     go_wp2_with (at_builtin;refine wpList_appends_sep rfl (.tmp 67) (.tmp 71) 22 3 rfl Tryz.underlying22 Tryz.infoInt H2.out 0 rfl rfl _ (nb-(k+1)) (cb-(k+1)) _ rfl (H2.out.oldI HI2.out) ?c1 ?_)
     case c1=>omega
     intro v3 w3 h3;have H3:=Hd h3;clear h3;have HL:=Hd (show a.take (na-1)++b.drop (k+1)=dotS a b k by rw[dotS,HLA.out]);have hS3:=H3.out;rw[HL.out] at hS3;obtain⟨nu,hnu⟩:∃ nu,na-1+(nb-(k+1))=nu:=⟨_,rfl⟩;rw[hnu] at hS3;obtain⟨Z,hZ⟩:∃ Z,dotS a b k=Z:=⟨_,rfl⟩;rw[hZ] at hS3;replace H3:=Hd hS3;clear hS3;obtain⟨A5,c5,hv,_,_,_⟩:=(H3.out.ownS 0 rfl).form;subst hv;have C5:=right_any (c:=c5) ((H3.out.ownInts 0 rfl).2.2);clear hsl H1 H2 hwk hnu
     cases ho:Sh.right Z with
     | false =>
      rw[ho] at C5
      go_wp2_with fail
      refine C5.mono ?_;rintro e5 w5 ⟨rfl,rfl⟩;have HX:=Hd (dsR_shape2 HAB.out HFT.out (by rw[hZ];exact ho));clear C5 ho hZ;go_wp2;go_ret2;rw[HX.out]
      exact⟨⟨_,0,rfl,OwnS.nil_ _ _ _⟩,H3.out.base⟩
     | true =>
      rw[ho] at C5
      go_wp2_with fail
      refine C5.mono ?_;rintro e5 w5 ⟨rfl,rfl⟩;have HX:=Hd (dsR_ok HAB.out HFT.out (by rw[hZ];exact ho));rw[hZ] at HX;clear C5 ho hZ;go_wp2;go_ret2;rw[HX.out];exact⟨⟨_,_,rfl,H3.out.ownS 0 rfl⟩,H3.out.base⟩
    ·have dxy:(x != y)=true:=by simpa using hxy
     have HNE:=Hd hxy;clear hxy;have HX:=Hd (dsR_shape HAB.out (by rw[dotFit,HX.out,HY.out,show decide (x=y)=false from decide_eq_false HNE.out];simp))
     go_enter Tryz.func91,Tryz.ntmps91
     go_wp2_with fail
     refine CA.mono ?_;rintro e1 w1 ⟨rfl,rfl⟩;clear CA
     go_wp2_with fail
     refine CB.mono ?_;rintro e2 w2 ⟨rfl,rfl⟩;clear CB
     go_upto_region 6 with fail
     go_quiet (first|(go_at_call 89;with_reducible exact quietS (C3.out _)))
     go_wp2;go_ret2;rw[HX.out];exact⟨⟨_,0,rfl,OwnS.nil_ _ _ _⟩,(Sep.nil w).drewN _ |>.base⟩
theorem wdOut_any (n wide apart:Int) (hn:Fits n) (hw:Fits wide) (ha:Fits apart) (w:World) :
  Calls Tryz.prog 92 #[.int .i64 n,.int .i64 wide,.int .i64 apart] w fun e w' => e=.returned (.int .i64 (winN n wide apart))∧w=w' := by
 obtain⟨n1,n2⟩:=hn;obtain⟨w1,w2⟩:=hw;obtain⟨a1,a2⟩:=ha;by_cases g0:wide<1
 ·have d0:decide (wide<1)=true:=by simpa using g0
  have HX:=Hd (winN_no (n:=n) (wide:=wide) (apart:=apart) (by omega))
  go_enter Tryz.func92,Tryz.ntmps92
  go_wp2;go_ret;exact⟨by rw[HX.out];rfl,rfl⟩
 have d0:decide (wide<1)=false:=by simpa using g0
 by_cases g1:apart<1
 ·have d1:decide (apart<1)=true:=by simpa using g1
  have HX:=Hd (winN_no (n:=n) (wide:=wide) (apart:=apart) (by omega))
  go_enter Tryz.func92,Tryz.ntmps92
  go_wp2;go_ret;exact⟨by rw[HX.out];rfl,rfl⟩
 have d1:decide (apart<1)=false:=by simpa using g1
 by_cases g2:n<wide
 ·have d2:decide (n<wide)=true:=by simpa using g2
  have HX:=Hd (winN_no (n:=n) (wide:=wide) (apart:=apart) (by omega))
  go_enter Tryz.func92,Tryz.ntmps92
  go_wp2;go_ret;exact⟨by rw[HX.out];rfl,rfl⟩
 have d2:decide (n<wide)=false:=by simpa using g2
 have HX:=Hd (winN_yes (n:=n) (wide:=wide) (apart:=apart) (by omega));have hwA:IntKind.i64.wrap (n-wide)=n-wide:=IntWalk.i64_in _ ⟨by omega,by omega⟩;have hq0:=Int.ediv_nonneg (a:=n-wide) (b:=apart) (by omega) (by omega);have hq1:=Int.ediv_le_self (a:=n-wide) apart (by omega);have htd:(n-wide).tdiv apart=(n-wide) / apart:=Int.tdiv_eq_ediv_of_nonneg (by omega);obtain⟨q,hq⟩:∃ q,(n-wide) / apart=q:=⟨_,rfl⟩;rw[hq] at htd hq0 hq1 HX;have hwB:IntKind.i64.wrap q=q:=IntWalk.i64_in _ ⟨by omega,by omega⟩;have hwC:IntKind.i64.wrap (q+1)=q+1:=IntWalk.i64_in _ ⟨by omega,by omega⟩;have hne:¬ apart=0:=by omega
 clear hq
 go_enter Tryz.func92,Tryz.ntmps92
 go_wp2;go_ret;exact⟨by rw[HX.out];rfl,rfl⟩
end Go.Proofs.YtnnmplkgenhofaaGreat
