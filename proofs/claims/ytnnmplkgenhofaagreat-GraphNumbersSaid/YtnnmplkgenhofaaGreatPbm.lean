import Derived.StillTailTactics
import Derived.Test.YtnnmplkgenhofaaGreatPaf
import Derived.Test.YtnnmplkgenhofaaGreatPax
import Derived.Test.YtnnmplkgenhofaaGreatPbl
set_option maxRecDepth 100000
set_option maxHeartbeats 12800000
namespace Go.Proofs.YtnnmplkgenhofaaGreat
open Go.RowKit
theorem getD0 {a:List Int} {y:Int} (h:a[0]? = some y):a.getD 0 0=y:=by rw[List.getD_eq_getElem?_getD,h];rfl
theorem getDk {a:List Int} {k:Nat} {y:Int} (h:a[k]? = some y):a.getD k 0=y:=by rw[List.getD_eq_getElem?_getD,h];rfl
theorem add_0 (a:Addr):a.add 0=a:=by cases a;rfl
theorem Lils.head {w:World} {A:Option Addr} {n:Nat} {s:List Int} {L:List (List Int)} (h:Lils w A n (s::L)):∃ a B m c,A=some a∧a.block<w.heap.size∧w.cell? a=some (.slice B m c)∧m≤c∧Ints w B m s:=by
 obtain⟨a,B,m,c,h1,h2,h3,h4,h5⟩:=h.2.2 0 s rfl;exact⟨a,B,m,c,h1,h2,by rwa [add_0] at h3,h4,h5⟩
theorem add_one_at (a:Addr) (j:Nat):(a.add 1).add j=a.add (j+1):=by rw[add_of_add,Nat.add_comm]
theorem run_drop1L {w1:World} {A:Option Addr} {n c:Nat} {s:List Int} {L:List (List Int)} (hL:Lils w1 A n (s::L)) (hc:n≤c):∃ A2:Option Addr,(∀ w,(Instr.slice 35 (.slice A n c) (some (.int .i64 1)) none none).run Tryz.prog w=.ok (.slice A2 (n-1) (c-1)) w)∧Lils w1 A2 (n-1) L:=by
 have hu:Tryz.prog.underlying 35=some (.slice 22):=by kernel_rfl
 obtain⟨a,B,m,cs,rfl,_⟩:=hL.head;have hn:L.length+1=n:=hL.1;have hn9:=hL.2.1;by_cases hc1:c=1
 ·subst hc1;have h1:n=1:=by omega
  subst h1;obtain rfl:L=[]:=List.eq_nil_of_length_eq_zero (by omega);refine⟨some a,fun w=>?_,rfl,by omega,fun j x hx=>by simp at hx⟩
  go_simp
 ·refine⟨some (a.add 1),fun w=>?_,by omega,by omega,fun j x hx=>?_⟩
  ·have h1:1≤n:=by omega
   have h2:1≤c:=by omega
   go_simp
   intro h;omega
  ·obtain⟨a', B,m,cs,h1,h2,h3,h4,h5⟩:=hL.2.2 (j+1) x hx;injection h1 with h1;subst h1
   exact⟨a.add 1,B,m,cs,rfl,by rw[block_of_add];exact h2,by rw[add_one_at];exact h3,h4,h5⟩
theorem gCounted_any {w:World} {A B:Option Addr} {n c m d:Nat} {s a:List Int} (hS:Ints w A n s) (hA:Ints w B m a) :
  Calls Tryz.prog 55 #[.slice A n c,.slice B m d] w (ListPost w (countP s a)):=by
 have C1:=right_any (c:=c) hS;have HSL:=Hd hS.len;have HAL:=Hd hA.len;have hnle:=hS.le;have hmle:=hA.le
 cases hr:Sh.right s with
 | false =>
  rw[hr] at C1;have HX:=Hd (show countP s a=(13,[]) by rw[countP,hr];rfl);clear hr hS hA
  go_enter Tryz.func55,Tryz.ntmps55
  go_wp2_with fail
  refine C1.mono ?_;rintro e1 w1 ⟨rfl,rfl⟩;clear C1;go_wp2;go_ret2
  exact listPost_no HX.out (Below.refl _ _)
 | true =>
  rw[hr] at C1;have HP:=Hd (show countP s a=if a.length=1∧0≤a.getD 0 0∧a.getD 0 0<s.length then(0,s) else(1,[]) by rw[countP,hr,if_pos rfl]);have hn4:n≤4:=by have:=(Sh.right_iff.1 hr).1;have:=HSL.out;omega
  clear hr;by_cases hm:m=1
  ·subst hm;obtain⟨pa,x,hpA,hpb,hx,hcx,hfx⟩:=hA.at_ (k:=0) (by omega);subst hpA;rw[add_0] at hcx;have HX0:=Hd (getD0 hx);have C2:=isAxis_any x (A:=A) (n:=n) (c:=c) w;clear hx hfx
   cases hax:axF x n with
   | false =>
    rw[hax] at C2;have HX:=Hd (show countP s a=(1,[]) by rw[HP.out,if_neg];rintro⟨_,h1,h2⟩;rw[HX0.out] at h1 h2;rw[HSL.out] at h2;rw[axF_iff.2 ⟨h1,h2⟩] at hax;cases hax);clear hax hS hA
    go_enter Tryz.func55,Tryz.ntmps55
    go_wp2_with fail
    refine C1.mono ?_;rintro e1 w1 ⟨rfl,rfl⟩;clear C1
    go_wp2_with fail
    refine C2.mono ?_;rintro e1 w1 ⟨rfl,rfl⟩;clear C2;go_wp2;go_ret2
    exact listPost_no HX.out (Below.refl _ _)
   | true =>
    rw[hax] at C2;have HX:=Hd (show countP s a=(0,s) by rw[HP.out,if_pos];have:=axF_iff.1 hax;rw[HX0.out,HSL.out];exact⟨HAL.out,this.1,this.2⟩);have C3:=copied_any (c:=c) hS (by omega);clear hax hS hA
    go_enter Tryz.func55,Tryz.ntmps55
    go_wp2_with fail
    refine C1.mono ?_;rintro e1 w1 ⟨rfl,rfl⟩;clear C1
    go_wp2_with fail
    refine C2.mono ?_;rintro e1 w1 ⟨rfl,rfl⟩;clear C2
    go_wp2_with fail
    refine C3.mono ?_;rintro e2 w2 ⟨⟨v,rfl,hO⟩,hb⟩;have HO:=Hd hO;clear C3 hO;go_wp2;go_ret2;exact listPost_yes HX.out HO.out hb
  ·have dm:((m:Int) != 1)=true:=by simp;omega
   have HX:=Hd (show countP s a=(1,[]) by rw[HP.out,if_neg];rintro⟨h1,_⟩;have:=HAL.out;omega);clear hm hS hA
   go_enter Tryz.func55,Tryz.ntmps55
   go_wp2_with fail
   refine C1.mono ?_;rintro e1 w1 ⟨rfl,rfl⟩;clear C1;go_wp2;go_ret2;exact listPost_no HX.out (Below.refl _ _)
theorem gMult_any {w:World} {A B C:Option Addr} {n c m d na ca:Nat} {s t a:List Int} (hS:Ints w A n s) (hT:Ints w B m t) (hA:Ints w C na a) (kn:n≤c) (km:m≤d) :
  Calls Tryz.prog 62 #[.slice A n c,.slice B m d,.slice C na ca] w (ListPost w (multP s t a)):=by
 have HAL:=Hd hA.len;have hmle:=hA.le;by_cases hm:na=1
 ·subst hm;obtain⟨pa,x,hpA,hpb,hx,hcx,hfx⟩:=hA.at_ (k:=0) (by omega);subst hpA;rw[add_0] at hcx;have HX:=Hd (show multP s t a=dsR s t x by rw[multP,if_pos HAL.out,getD0 hx]);have C2:=dtShape_any (ca:=c) (cb:=d) x hS hT kn km;clear hx hfx hA hS hT
  go_enter Tryz.func62,Tryz.ntmps62
  go_wp2_with fail
  refine C2.mono ?_;rintro e2 w2 ⟨⟨v,k,rfl,hO⟩,hb⟩;have HO:=Hd hO;clear C2 hO;go_wp2;go_ret2;rw[HX.out];exact⟨⟨_,k,rfl,HO.out⟩,hb⟩
 ·have dm:((na:Int) != 1)=true:=by simp;omega
  have HX:=Hd (show multP s t a=(1,[]) by rw[multP,if_neg];have:=HAL.out;omega);clear hm hA hS hT
  go_enter Tryz.func62,Tryz.ntmps62
  go_wp2;go_ret2;exact listPost_no HX.out (Below.refl _ _)
theorem gTurned_any {w:World} {A B:Option Addr} {n c m d:Nat} {s a:List Int} (hS:Ints w A n s) (hA:Ints w B m a) (hmd:m≤d) (hr:Sh.right s=true) :
  Calls Tryz.prog 56 #[.slice A n c,.slice B m d] w (ListPost w (turnedP s a)):=by
 have HSL:=Hd hS.len;have HAL:=Hd hA.len;have hnle:=hS.le;have hmle:=hA.le;have hn4:n≤4:=by have:=(Sh.right_iff.1 hr).1;have:=HSL.out;omega
 by_cases hm:m=n
 ·subst hm;have hmk:=run_make_noughts Tryz.underlying22 Tryz.infoInt (n:=m) (by omega);have h1:=(((Sep.nil w).old hS).old hA).noughts 3 m (by omega);have HRI:=Hd (Sh.right_iff.1 hr).2.1;clear hr
  go_enter Tryz.func56,Tryz.ntmps56
  go_upto_region 4 with fail
  generalize w.alloc (.cells (noughts m) 3)=W at *;generalize hgg:w.heap.size=g at *;have HGG:=Hd hgg;have H:=Hd h1;clear h1 hmk hgg
  go_wp2_with fail
  go_loopw [19] (fun iv wr=>∃ k:Nat,iv=.int .i64 k∧k≤m∧(∀ j,j<k→TuAt s a j)∧Sep w wr [.own 3 (.slice (some ⟨g,0,none⟩) m m) m (mix (turnS s a) (List.replicate m 0) k),.ints B m a,.ints A m s]) (fun iv _=>m-(intOf iv).toNat)
  case atStart=>exact⟨0,rfl,by omega,fun j hj=>by omega,by rw[mix_zero];exact H.out⟩
  case round =>
   clear H;obtain⟨k,rfl,hk,hall,hSp⟩:=hrel;have H:=Hd hSp;have HALL:=Hd hall;clear hSp hall;by_cases hlt:k<m
   ·obtain⟨pa,x,hpA,hpb,hx,hcx,hfx⟩:=(H.out.oldInts 1 rfl).at_ (k:=k) hlt;subst hpA;have HX:=Hd hx;have C2:=isAxis_any x (A:=A) (n:=m) (c:=c) wr;clear hx hfx
    cases hax:axF x m with
    | false =>
     rw[hax] at C2
     have HQ:=Hd (show turnedP s a=(1,[]) by
      rw[turnedP,if_neg];intro hT;have:=hT.2 k x HX.out
      rw[axF_iff.2 ⟨this.1,by have:=HSL.out;omega⟩] at hax;cases hax)
     clear hax
     go_wp2_with fail
     refine C2.mono ?_;rintro e1 w1 ⟨rfl,rfl⟩;clear C2;go_wp2;go_ret2
     exact listPost_no HQ.out H.out.base
    | true =>
     rw[hax] at C2;have hax2:=axF_iff.1 hax;obtain⟨x,rfl⟩:=Int.eq_ofNat_of_zero_le hax2.1;have hxm:x<m:=by omega
     have C3:=gContains_any (c:=d) (x:Int) ((H.out.oldInts 1 rfl).take (k:=k) (by omega));clear hax hax2
     go_wp2_with fail
     refine C2.mono ?_;rintro e1 w1 ⟨rfl,rfl⟩;clear C2;by_cases hmem:(x:Int)∈a.take k
     ·rw[decide_eq_true hmem] at C3
      have HQ:=Hd (show turnedP s a=(1,[]) by
       rw[turnedP,if_neg];intro hT
       exact(hT.2 k x HX.out).2.2 hmem)
      clear hmem
      go_wp2_with fail
      refine C3.mono ?_;rintro e1 w1 ⟨rfl,rfl⟩;clear C3;go_wp2;go_ret2;exact listPost_no HQ.out H.out.base
     ·rw[decide_eq_false hmem] at C3;obtain⟨ps,y,hpS,hsb,hy,hcy,hfy⟩:=(H.out.oldInts 2 rfl).at_ (k:=x) hxm;subst hpS;have hO:=H.out.own 0 rfl;have hfr:=hO.frozen k;have hcz:=hO.cell (j:=k) (x:=0) (mix_rep (by rw[turnS_length];exact HAL.out) hlt)
      have HT:=Hd (show TuAt s a k from fun z hz=>by
       rw[HX.out] at hz;injection hz with hz;subst hz
       exact⟨by omega,by have:=HSL.out;omega,hmem⟩)
      have hst:=H.out.store 0 k (x:=y) hfy rfl;rw[mix_step (by rw[turnS_length];exact HAL.out) (turnS_at HX.out (by rw[Int.toNat_natCast];exact hy))] at hst;have HST:=Hd hst;clear hmem hO hst hy hfy
      go_wp2_with fail
      refine C3.mono ?_;rintro e1 w1 ⟨rfl,rfl⟩;clear C3;go_wp2;go_roundw
      case rel=>exact⟨k+1,by go_num,by omega,fun j hj=>by
       rcases Nat.lt_or_ge j k with h' | h'
       ·exact HALL.out j h'
       ·obtain rfl:j=k:=by omega
        exact HT.out,HST.out⟩
      case measure=>simp[intOf];omega
   ·obtain rfl:k=m:=by omega
    have HQ:=Hd (show turnedP s a=(0,turnS s a) by
     rw[turnedP,if_pos];refine⟨by have:=HSL.out;have:=HAL.out;omega,fun j x hx=>?_⟩
     exact HALL.out j (by have:=(List.getElem?_eq_some_iff.1 hx).1;have:=HAL.out;omega) x hx)
    have HE:=Hd (show mix (turnS s a) (List.replicate k 0) k=turnS s a from mix_end (by rw[turnS_length];exact HAL.out));go_wp2;go_ret2;exact listPost_yes HQ.out (by have:=H.out.ownS 0 rfl;rw[HE.out] at this;exact this) H.out.base
 ·have dm:((m:Int) != (n:Int))=true:=by simp;omega
  have HX:=Hd (show turnedP s a=(1,[]) by rw[turnedP,if_neg];rintro⟨h1,_⟩;have:=HAL.out;have:=HSL.out;omega);clear hm hA hS hr
  go_enter Tryz.func56,Tryz.ntmps56
  go_wp2;go_ret2;exact listPost_no HX.out (Below.refl _ _)
theorem sp_iff2 {s o a:List Int}:SpOk s o a↔a.length=s.length∧Rises a o.length∧∀(k:Nat) (x y:Int),a[k]? = some x→s[k]? = some y→o[x.toNat]? = some y:=by
 constructor
 ·intro h;refine⟨h.1,fun k x hx=>?_,fun k x y hx hy=>(h.2 k x y hx hy).2.2.2⟩;obtain⟨y,hy⟩:=getElem_of (l:=s) (k:=k) (by rw[← h.1];exact(List.getElem?_eq_some_iff.1 hx).1);have:=h.2 k x y hx hy;exact⟨this.1,this.2.1,this.2.2.1⟩
 ·rintro⟨hl,h,g⟩;refine⟨hl,fun k x y hx hy=>?_⟩;have:=h k x hx;exact⟨this.1,this.2.1,this.2.2,g k x y hx hy⟩
theorem gSpread_any {w:World} {A O B:Option Addr} {n c no co m d:Nat} {s o a:List Int} (hS:Ints w A n s) (hO:Ints w O no o) (hA:Ints w B m a) :
  Calls Tryz.prog 57 #[.slice A n c,.slice O no co,.slice B m d] w (ListPost w (spreadP s o a)):=by
 have C1:=right_any (c:=co) hO;have HSL:=Hd hS.len;have HOL:=Hd hO.len;have HAL:=Hd hA.len;have hnle:=hS.le;have hole:=hO.le;have hmle:=hA.le
 cases hr:Sh.right o with
 | false =>
  rw[hr] at C1;have HX:=Hd (show spreadP s o a=(13,[]) by rw[spreadP,hr];rfl);clear hr hS hA hO
  go_enter Tryz.func57,Tryz.ntmps57
  go_wp2_with fail
  refine C1.mono ?_;rintro e1 w1 ⟨rfl,rfl⟩;clear C1;go_wp2;go_ret2
  exact listPost_no HX.out (Below.refl _ _)
 | true =>
  rw[hr] at C1;have HPY:=Hd (show SpOk s o a→spreadP s o a=(0,o) from fun h=>by rw[spreadP,hr,if_pos rfl,if_pos h]);have HPN:=Hd (show ¬ SpOk s o a→spreadP s o a=(1,[]) from fun h=>by rw[spreadP,hr,if_pos rfl,if_neg h]);have hn4:no≤4:=by have:=(Sh.right_iff.1 hr).1;have:=HOL.out;omega
  clear hr;by_cases hm:m=n
  ·subst hm;have C2:=gRising_any (c:=d) (S:=O) (d:=co) hA hn4;by_cases hri:Rises a no
   ·rw[riseF_yes hri] at C2;have HRI:=Hd hri;clear hri;have h1:=(((Sep.nil w).old hS).old hA).old hO
    go_enter Tryz.func57,Tryz.ntmps57
    go_wp2_with fail
    refine C1.mono ?_;rintro e1 w1 ⟨rfl,rfl⟩;clear C1
    go_wp2_with fail
    refine C2.mono ?_;rintro e1 w1 ⟨rfl,rfl⟩;clear C2
    go_wp2_with fail
    go_loopw [26] (fun iv wr=>∃ k:Nat,iv=.int .i64 k∧k≤m∧(∀(j:Nat) (x y:Int),j<k→a[j]? = some x→s[j]? = some y→o[x.toNat]? = some y)∧Sep w wr [.ints O no o,.ints B m a,.ints A m s]) (fun iv _=>m-(intOf iv).toNat)
    case atStart=>exact⟨0,rfl,by omega,fun j x y hj=>by omega,h1⟩
    case round =>
     clear h1;obtain⟨k,rfl,hk,hall,hSp⟩:=hrel;have H:=Hd hSp;have HALL:=Hd hall;clear hSp hall;by_cases hlt:k<m
     ·obtain⟨pa,x,hpA,hpb,hx,hcx,hfx⟩:=(H.out.oldInts 1 rfl).at_ (k:=k) hlt;subst hpA;obtain⟨ps,y,hpS,hpb2,hy,hcy,hfy⟩:=(H.out.oldInts 2 rfl).at_ (k:=k) hlt;subst hpS;have hxr:=HRI.out k x hx;obtain⟨x,rfl⟩:=Int.eq_ofNat_of_zero_le hxr.1;have hxo:x<no:=by omega
      obtain⟨po,z,hpO,hpb3,hz,hcz,hfz⟩:=(H.out.oldInts 0 rfl).at_ (k:=x) hxo;subst hpO;have HX:=Hd hx;have HY:=Hd hy;have HZ:=Hd hz;clear hx hy hz hfx hfy hfz hxr;by_cases hzy:z=y
      ·subst hzy
       go_wp2_with fail
       go_quiet (fail)
       go_wp2;go_roundw
       case rel=>exact⟨k+1,by go_num,by omega,fun j u v hj hu hv=>by
        rcases Nat.lt_or_ge j k with h' | h'
        ·exact HALL.out j u v h' hu hv
        ·obtain rfl:j=k:=by omega
         rw[HX.out] at hu;injection hu with hu;subst hu
         rw[HY.out] at hv;injection hv with hv;subst hv
         rw[Int.toNat_natCast];exact HZ.out,H.out.drewN _⟩
       case measure=>simp[intOf];omega
      ·have dz:(z != y)=true:=by simpa using hzy
       have HQ:=Hd (show spreadP s o a=(1,[]) by
        refine HPN.out fun hT=>?_
        have h9:=(hT.2 k x y HX.out HY.out).2.2.2;rw[Int.toNat_natCast,HZ.out] at h9
        injection h9 with h9;exact hzy h9)
       clear hzy
       go_wp2_with fail
       go_quiet (fail)
       go_wp2;go_ret2;exact listPost_no HQ.out (H.out.drewN _).base
     ·obtain rfl:k=m:=by omega
      have HQ:=Hd (show spreadP s o a=(0,o) by
       refine HPY.out (sp_iff2.2 ?_);refine⟨by have:=HSL.out;have:=HAL.out;omega,by rw[HOL.out];exact HRI.out,fun j x y hx hy=>?_⟩
       exact HALL.out j x y (by have:=(List.getElem?_eq_some_iff.1 hx).1;have:=HAL.out;omega) hx hy)
      have C3:=copied_any (c:=co) (H.out.oldInts 0 rfl) (by omega)
      go_wp2_with fail
      refine C3.mono ?_;rintro e2 w2 ⟨⟨v,rfl,hO⟩,hb⟩;have H2:=Hd (H.out.addOwn hb hO);clear C3 hO hb;go_wp2;go_ret2;exact listPost_yes HQ.out (H2.out.ownS 0 rfl) H2.out.base
   ·rw[riseF_no hri] at C2;have HX:=Hd (show spreadP s o a=(1,[]) by refine HPN.out fun h=>?_;exact hri (by have:=(sp_iff2.1 h).2.1;rwa [HOL.out] at this));clear hri hS hA hO
    go_enter Tryz.func57,Tryz.ntmps57
    go_wp2_with fail
    refine C1.mono ?_;rintro e1 w1 ⟨rfl,rfl⟩;clear C1
    go_wp2_with fail
    refine C2.mono ?_;rintro e1 w1 ⟨rfl,rfl⟩;clear C2;go_wp2;go_ret2;exact listPost_no HX.out (Below.refl _ _)
  ·have dm:((m:Int) != (n:Int))=true:=by simp;omega
   have HX:=Hd (show spreadP s o a=(1,[]) by refine HPN.out ?_;rintro⟨h1,_⟩;have:=HAL.out;have:=HSL.out;omega);clear hm hA hS hO
   go_enter Tryz.func57,Tryz.ntmps57
   go_wp2_with fail
   refine C1.mono ?_;rintro e1 w1 ⟨rfl,rfl⟩;clear C1;go_wp2;go_ret2;exact listPost_no HX.out (Below.refl _ _)
theorem gSliced_any {w:World} {A B:Option Addr} {n c m d:Nat} {s a:List Int} (hS:Ints w A n s) (hA:Ints w B m a) (hmd:m≤d) (hr:Sh.right s=true) :
  Calls Tryz.prog 58 #[.slice A n c,.slice B m d] w (ListPost w (slicedP s a)):=by
 have HSL:=Hd hS.len;have HAL:=Hd hA.len;have hnle:=hS.le;have hmle:=hA.le;have hn4:n≤4:=by have:=(Sh.right_iff.1 hr).1;have:=HSL.out;omega
 have hw2:IntKind.i64.wrap (2*(n:Int))=2*(n:Int):=IntWalk.i64_in _ ⟨by omega,by omega⟩;by_cases hm:m=2*n
 ·have dm:((m:Int) != 2*(n:Int))=false:=by simp;omega
  have HM:=Hd hm;have hnm:n≤m:=by omega
  have hdf:m-n=n:=by omega
  have HRI:=Hd (Sh.right_iff.1 hr).2.1;have hsl1:=run_takeG hA hnm hmd;have hsl2:=run_dropG hA hnm hmd;rw[hdf] at hsl2;have hI1:=hA.take hnm;have hI2:=hA.dropA hnm hmd;rw[hdf] at hI2;obtain⟨A2,hA2⟩:∃ A2,dropA B d n=A2:=⟨_,rfl⟩;rw[hA2] at hsl2 hI2;obtain⟨fl,hfl⟩:∃ fl,a.take n=fl:=⟨_,rfl⟩;obtain⟨zl,hzl⟩:∃ zl,a.drop n=zl:=⟨_,rfl⟩;rw[hfl] at hI1;rw[hzl] at hI2;have HFL:=Hd hI1.len;have HZL:=Hd hI2.len;have HPY:=Hd (show cutOk s fl zl=true→slicedP s a=(0,zl) from fun h=>by rw[slicedP,HSL.out,hfl,hzl,if_pos ⟨by have:=HAL.out;omega,h⟩]);have HPN:=Hd (show ¬ cutOk s fl zl=true→slicedP s a=(1,[]) from fun h=>by rw[slicedP,HSL.out,hfl,hzl,if_neg (fun hc=>h hc.2)]);have h1:=(((Sep.nil w).old hI2).old hI1).old hS;clear hA2 hfl hzl hm hr hI1 hI2 hS hA hdf
  go_enter Tryz.func58,Tryz.ntmps58
  go_upto_region 3 with fail
  go_quiet (fail)
  have H:=Hd (h1.drewN nq);generalize w.drewN nq=w1 at *;clear h1 hsl1 hsl2
  go_wp2_with fail
  go_loopw [26] (fun iv wr=>∃ k:Nat,iv=.int .i64 k∧k≤n∧(∀(j:Nat) (x b y:Int),j<k→s[j]? = some x→fl[j]? = some b→zl[j]? = some y→0≤b∧0≤y∧b≤x∧y≤x-b)∧Sep w wr [.ints A n s,.ints B n fl,.ints A2 n zl]) (fun iv _=>n-(intOf iv).toNat)
  case atStart=>exact⟨0,rfl,by omega,fun j x b y hj=>by omega,H.out⟩
  case round =>
   clear H;obtain⟨k,rfl,hk,hall,hSp⟩:=hrel;have H:=Hd hSp;have HALL:=Hd hall;clear hSp hall;by_cases hlt:k<n
   ·obtain⟨sd,x,hsA,hbs,hx,hcs,hfs⟩:=(H.out.oldInts 0 rfl).at_ hlt;subst hsA;obtain⟨fd,b,hfA,hbf,hb,hcf,hff⟩:=(H.out.oldInts 1 rfl).at_ hlt;subst hfA;obtain⟨zd,y,hzA,hbz,hy,hcz,hfz⟩:=(H.out.oldInts 2 rfl).at_ hlt;subst hzA;obtain⟨hx0,hx1⟩:=HRI.out x (List.mem_of_getElem? hx);obtain⟨hff1,hff2⟩:=hff;obtain⟨hfz1,hfz2⟩:=hfz;have HE:=Hd (⟨hx,hb,hy⟩:_∧_∧_);clear hx hb hy hfs;have HBAD:=Hd (show ¬ (0≤b∧0≤y∧b≤x∧y≤x-b)→slicedP s a=(1,[]) from fun hbad=>HPN.out fun hc=>hbad (cutOk_at hc HE.out.1 HE.out.2.1 HE.out.2.2));by_cases g1:b<0
    ·have d1:decide (b<0)=true:=by simpa using g1
     have HX:=Hd (HBAD.out (by omega));clear HBAD
     go_wp2_with fail
     go_quiet (fail)
     go_wp2;go_ret2;exact listPost_no HX.out (H.out.drewN _).base
    have d1:decide (b<0)=false:=by simpa using g1
    by_cases g2:y<0
    ·have d2:decide (y<0)=true:=by simpa using g2
     have HX:=Hd (HBAD.out (by omega));clear HBAD
     go_wp2_with fail
     go_quiet (fail)
     go_wp2;go_ret2;exact listPost_no HX.out (H.out.drewN _).base
    have d2:decide (y<0)=false:=by simpa using g2
    have hw:IntKind.i64.wrap (x-b)=x-b:=IntWalk.i64_in _ ⟨by omega,by omega⟩;by_cases g3:x-b<y
    ·have d3:decide (x-b<y)=true:=by simpa using g3
     have HX:=Hd (HBAD.out (by omega));clear HBAD
     go_wp2_with fail
     go_quiet (fail)
     go_wp2;go_ret2;exact listPost_no HX.out (H.out.drewN _).base
    have d3:decide (x-b<y)=false:=by simpa using g3
    clear HBAD
    go_wp2_with fail
    go_quiet (fail)
    go_wp2;go_roundw
    case rel=>exact⟨k+1,by go_num,by omega,fun j u v t hj hu hv ht=>by
     rcases Nat.lt_or_ge j k with h' | h'
     ·exact HALL.out j u v t h' hu hv ht
     ·obtain rfl:j=k:=by omega
      rw[HE.out.1] at hu;rw[HE.out.2.1] at hv;rw[HE.out.2.2] at ht;injection hu with hu;injection hv with hv;injection ht with ht
      omega,H.out.drewN _⟩
    case measure=>simp[intOf];omega
   ·obtain rfl:k=n:=by omega
    have HX:=Hd (HPY.out (cutOk_all (by have:=HSL.out;have:=HFL.out;omega) (by have:=HSL.out;have:=HZL.out;omega) fun j x b y hx hb hy=>HALL.out j x b y (by have:=(List.getElem?_eq_some_iff.1 hx).1;have:=HSL.out;omega) hx hb hy));have C3:=copied_any (c:=d-k) (H.out.oldInts 2 rfl) (by omega)
    go_wp2_with fail
    refine C3.mono ?_;rintro e2 w2 ⟨⟨v,rfl,hO⟩,hb⟩;have H2:=Hd (H.out.addOwn hb hO);clear C3 hO hb;go_wp2;go_ret2;exact listPost_yes HX.out (H2.out.ownS 0 rfl) H2.out.base
 ·have dm:((m:Int) != 2*(n:Int))=true:=by simp;omega
  have HX:=Hd (show slicedP s a=(1,[]) by rw[slicedP,if_neg];rintro⟨h1,_⟩;have:=HAL.out;have:=HSL.out;omega);clear hm hA hS hr
  go_enter Tryz.func58,Tryz.ntmps58
  go_wp2;go_ret2;exact listPost_no HX.out (Below.refl _ _)
theorem pad_iff2 {s lo hi:List Int} (h1:lo.length=s.length) (h2:hi.length=s.length):PadOk s lo hi↔∀ x∈lo++hi,0≤x∧x≤32:=by
 constructor
 ·intro h x hx;rcases List.mem_append.1 hx with hx|hx
  ·obtain⟨k,hk⟩:=List.getElem?_of_mem hx;obtain⟨y,hy⟩:=getElem_of (l:=hi) (k:=k) (by have:=(List.getElem?_eq_some_iff.1 hk).1;omega);have:=h.2.2 k x y hk hy;omega
  ·obtain⟨k,hk⟩:=List.getElem?_of_mem hx;obtain⟨y,hy⟩:=getElem_of (l:=lo) (k:=k) (by have:=(List.getElem?_eq_some_iff.1 hk).1;omega);have:=h.2.2 k y x hy hk;omega
 ·intro h;refine⟨h1,h2,fun k x y hx hy=>?_⟩;have:=h x (List.mem_append.2 (.inl (List.mem_of_getElem? hx)));have:=h y (List.mem_append.2 (.inr (List.mem_of_getElem? hy)));omega
theorem gPadded_any {w:World} {A B:Option Addr} {n c m d:Nat} {s a:List Int} (hS:Ints w A n s) (hA:Ints w B m a) (hmd:m≤d) (hr:Sh.right s=true) :
  Calls Tryz.prog 59 #[.slice A n c,.slice B m d] w (ListPost w (paddedP s a)):=by
 have HSL:=Hd hS.len;have HAL:=Hd hA.len;have hnle:=hS.le;have hmle:=hA.le;have hn4:n≤4:=by have:=(Sh.right_iff.1 hr).1;have:=HSL.out;omega
 have hw2:IntKind.i64.wrap (2*(n:Int))=2*(n:Int):=IntWalk.i64_in _ ⟨by omega,by omega⟩;by_cases hm:m=2*n
 ·have dm:((m:Int) != 2*(n:Int))=false:=by simp;omega
  have HM:=Hd hm;have hm8:m≤8:=by omega
  have hnm:n≤m:=by omega
  have HRI:=Hd (Sh.right_iff.1 hr).2.1
  have HPI:=Hd (show PadOk s (a.take n) (a.drop n)↔∀ x∈a,0≤x∧x≤32 by
   have:=pad_iff2 (s:=s) (lo:=a.take n) (hi:=a.drop n) (by rw[List.length_take];have:=HAL.out;have:=HSL.out;omega) (by rw[List.length_drop];have:=HAL.out;have:=HSL.out;omega)
   rwa [List.take_append_drop] at this)
  have HPY:=Hd (show PadOk s (a.take n) (a.drop n)→paddedP s a=ownP (padS s (a.take n) (a.drop n)) from fun h=>by rw[paddedP,HSL.out,if_pos ⟨by have:=HAL.out;omega,h⟩]);have HPN:=Hd (show ¬ PadOk s (a.take n) (a.drop n)→paddedP s a=(1,[]) from fun h=>by rw[paddedP,HSL.out,if_neg (fun hc=>h hc.2)]);have h1:=((Sep.nil w).old hA).old hS;clear hm hr hS hA
  go_enter Tryz.func59,Tryz.ntmps59
  go_wp2_with fail
  go_loopw [19] (fun iv wr=>∃ k:Nat,iv=.int .i64 k∧k≤m∧(∀(j:Nat) (x:Int),j<k→a[j]? = some x→0≤x∧x≤32)∧Sep w wr [.ints A n s,.ints B m a]) (fun iv _=>m-(intOf iv).toNat)
  case atStart=>exact⟨0,rfl,by omega,fun j x hj=>by omega,h1⟩
  case round =>
   clear h1;obtain⟨k,rfl,hk,hall,hSp⟩:=hrel;have H:=Hd hSp;have HALL:=Hd hall;clear hSp hall;by_cases hlt:k<m
   ·obtain⟨fd,x,hfA,hbf,hx,hcf,hff⟩:=(H.out.oldInts 1 rfl).at_ hlt;subst hfA;have HX:=Hd hx;have HBAD:=Hd (show ¬ (0≤x∧x≤32)→paddedP s a=(1,[]) from fun hbad=>HPN.out fun hc=>hbad (HPI.out.1 hc x (List.mem_of_getElem? HX.out)));clear hx hff;by_cases g1:x<0
    ·have d1:decide (x<0)=true:=by simpa using g1
     have HX:=Hd (HBAD.out (by omega));clear HBAD;go_wp2;go_ret2;exact listPost_no HX.out H.out.base
    have d1:decide (x<0)=false:=by simpa using g1
    by_cases g2:32<x
    ·have d2:decide (32<x)=true:=by simpa using g2
     have HX:=Hd (HBAD.out (by omega));clear HBAD;go_wp2;go_ret2;exact listPost_no HX.out H.out.base
    have d2:decide (32<x)=false:=by simpa using g2
    clear HBAD;go_wp2;go_roundw
    case rel=>exact⟨k+1,by go_num,by omega,fun j u hj hu=>by
     rcases Nat.lt_or_ge j k with h' | h'
     ·exact HALL.out j u h' hu
     ·obtain rfl:j=k:=by omega
      rw[HX.out] at hu;injection hu with hu;omega,H.out⟩
    case measure=>simp[intOf];omega
   ·obtain rfl:k=m:=by omega
    have HN:=Hd (show ∀ x∈a,0≤x∧x≤32 from fun x hx=>by
     obtain⟨j,hj⟩:=List.getElem?_of_mem hx
     exact HALL.out j x (by have:=(List.getElem?_eq_some_iff.1 hj).1;have:=HAL.out;omega) hj)
    have HX:=Hd (HPY.out (HPI.out.2 HN.out));clear HPY HPN HPI;obtain⟨P,hP⟩:∃ P,padS s (a.take n) (a.drop n)=P:=⟨_,rfl⟩;rw[hP] at HX;have HPL:=Hd (show P.length=n by rw[← hP,padS_length (by rw[List.length_take];have:=HAL.out;have:=HSL.out;omega) (by rw[List.length_drop];have:=HAL.out;have:=HSL.out;have:=HM.out;omega)];exact HSL.out)
    have HPA:=Hd (show ∀(j:Nat) (x y z:Int),j<n→a[j]? = some x→s[j]? = some y→a[n+j]? = some z→P[j]? = some (x+y+z) from fun j x y z hj hx hy hz=>by
     rw[← hP]
     exact padS_at (by rw[List.getElem?_take,if_pos hj];exact hx) hy (by rw[List.getElem?_drop];exact hz))
    clear hP;have hmk:=run_make_noughts Tryz.underlying22 Tryz.infoInt (n:=n) (by omega);have h1:=H.out.noughts 3 n (by omega)
    go_upto_region 10 with fail
    generalize wr.alloc (.cells (noughts n) 3)=W at *;generalize hgg:wr.heap.size=g at *;have HGG:=Hd hgg;replace H:=Hd h1;clear h1 hmk hgg
    go_wp2_with fail
    go_loopw [35] (fun iv wr=>∃ q:Nat,iv=.int .i64 q∧q≤n∧Sep w wr [.own 3 (.slice (some ⟨g,0,none⟩) n n) n (mix P (List.replicate n 0) q),.ints A n s,.ints B k a]) (fun iv _=>n-(intOf iv).toNat)
    case atStart=>exact⟨0,rfl,by omega,by rw[mix_zero];exact H.out⟩
    case round =>
     clear H;obtain⟨q,rfl,hq,hSp⟩:=hrel;have H:=Hd hSp;clear hSp;by_cases hlq:q<n
     ·obtain⟨sd,y,hsA,hbs,hy,hcs,hfs⟩:=(H.out.oldInts 1 rfl).at_ hlq;subst hsA;obtain⟨pa,x,hpA,hpb,hx,hcx,hfx⟩:=(H.out.oldInts 2 rfl).at_ (k:=q) (by omega);subst hpA;obtain⟨pa2,z,hpA2,hpb2,hz,hcz,hfz⟩:=(H.out.oldInts 2 rfl).at_ (k:=n+q) (by have:=HM.out;omega);injection hpA2 with hpA2
      subst hpA2;have hb1:=HRI.out y (List.mem_of_getElem? hy);have hb2:=HN.out x (List.mem_of_getElem? hx);have hb3:=HN.out z (List.mem_of_getElem? hz);obtain⟨p,hp⟩:∃ p,n+q=p:=⟨_,rfl⟩;have HPP:=Hd hp;have hnq:p<k:=by have:=HM.out;omega
      have hqk:q<k:=by omega
      rw[hp] at hcz;have hO:=H.out.own 0 rfl;have hfr:=hO.frozen q;have hco:=hO.cell (j:=q) (x:=0) (mix_rep HPL.out hlq);have hst:=H.out.store 0 q (x:=x+y+z) ⟨by omega,by omega⟩ rfl;rw[mix_step HPL.out (HPA.out q x y z hlq hx hy hz)] at hst;have HST:=Hd hst;have hw3:IntKind.i64.wrap (x+y)=x+y:=IntWalk.i64_in _ ⟨by omega,by omega⟩;have hw4:IntKind.i64.wrap (x+y+z)=x+y+z:=IntWalk.i64_in _ ⟨by omega,by omega⟩;have hw6:(n:Int)+(q:Int)=(p:Int):=by omega
      have hw7:IntKind.i64.wrap (p:Int)=(p:Int):=IntWalk.i64_in _ ⟨by omega,by omega⟩;clear hp hO hst hx hy hz hfx hfs hfz hb1 hb2 hb3
      go_upto_region 13 with fail
      go_still_tail 17,(by kernel_rfl)
      change wpList _ _ _ _ _ wr.drew;have hco1:wr.drew.cell? ⟨g,q,none⟩=some (.int .i64 0):=hco;have hfr1:wr.drew.frozen? ⟨g,q,none⟩=false:=hfr;go_wp2;go_roundw
      case rel=>exact⟨q+1,by go_num,by omega,HST.out.drew⟩
      case measure=>simp[intOf];omega
     ·obtain rfl:q=n:=by omega
      have HE:=Hd (show mix P (List.replicate q 0) q=P from mix_end HPL.out);have hS9:=H.out;rw[HE.out] at hS9;have H9:=Hd hS9;have C3:=gOwn_any (c:=q) (H9.out.ownInts 0 rfl).2.2;clear hS9
      go_wp2_with fail
      refine C3.mono ?_;rintro e2 w2 ⟨⟨v,j,rfl,hO⟩,hb⟩;replace H:=Hd (H.out.addOwn hb hO);clear C3 hO hb;go_wp2;go_ret2;rw[HX.out];exact⟨⟨_,j,rfl,H.out.ownS 0 rfl⟩,H.out.base⟩
 ·have dm:((m:Int) != 2*(n:Int))=true:=by simp;omega
  have HX:=Hd (show paddedP s a=(1,[]) by rw[paddedP,if_neg];rintro⟨h1,_⟩;have:=HAL.out;have:=HSL.out;omega);clear hm hA hS hr
  go_enter Tryz.func59,Tryz.ntmps59
  go_wp2;go_ret2;exact listPost_no HX.out (Below.refl _ _)
theorem gFolded_any {w:World} {A B:Option Addr} {n c m d:Nat} {s a:List Int} (how:Int) (hS:Ints w A n s) (hA:Ints w B m a) (hr:Sh.right s=true) :
  Calls Tryz.prog 61 #[.int .i64 how,.slice A n c,.slice B m d] w (ListPost w (foldedP how s a)):=by
 have HSL:=Hd hS.len;have HAL:=Hd hA.len;have hnle:=hS.le;have hmle:=hA.le;have hn4:n≤4:=by have:=(Sh.right_iff.1 hr).1;have:=HSL.out;omega
 have C1:=fdRight_any how w
 cases hh:howOk how with
 | false =>
  rw[hh] at C1;have HX:=Hd (show foldedP how s a=(1,[]) by rw[foldedP,if_neg];rw[hh];simp);clear hh hA hS hr
  go_enter Tryz.func61,Tryz.ntmps61
  go_wp2_with fail
  refine C1.mono ?_;rintro e1 w1 ⟨rfl,rfl⟩;clear C1;go_wp2;go_ret2
  exact listPost_no HX.out (Below.refl _ _)
 | true =>
  rw[hh] at C1;have C2:=gRising_any (c:=d) (S:=A) (d:=c) hA hn4;by_cases hri:Rises a n
  ·rw[riseF_yes hri] at C2;have HX:=Hd (show foldedP how s a=ownP (rest a s) by rw[foldedP,if_pos ⟨hh,by rw[HSL.out];exact hri⟩]);have h1:=((Sep.nil w).old hA).old hS;clear hh hri hr hS hA;have hmk:=run_make_room Tryz.underlying22 Tryz.infoInt (n:=n) (by omega);have h2:=h1.room 3 n (by omega)
   go_enter Tryz.func61,Tryz.ntmps61
   go_wp2_with fail
   refine C1.mono ?_;rintro e1 w1 ⟨rfl,rfl⟩;clear C1
   go_wp2_with fail
   refine C2.mono ?_;rintro e1 w1 ⟨rfl,rfl⟩;clear C2
   go_upto_region 4 with fail
   generalize w.alloc (.cells (noughts n) 3)=W at *;have H:=Hd h2;clear h1 h2 hmk
   go_wp2_with fail
   go_loopw [25,8] (fun iv lv wr=>∃(k:Nat) (lx:Value),lx=lv∧iv=.int .i64 k∧k≤n∧Sep w wr [.own 3 lx (rest a (s.take k)).length (rest a (s.take k)),.ints A n s,.ints B m a]) (fun iv _ _=>n-(intOf iv).toNat)
   case atStart=>exact⟨0,_,rfl,rfl,by omega,H.out⟩
   case round =>
    clear H;obtain⟨k,lx,rfl,rfl,hk,hSp⟩:=hrel;have H:=Hd hSp;clear hSp;by_cases hlt:k<n
    ·obtain⟨sd,y,hsA,hbs,hy,hcs,hfs⟩:=(H.out.oldInts 1 rfl).at_ hlt;subst hsA;have HR:=Hd (rest_take (axes:=a) hy);have HF:=Hd hfs;have C3:=gContains_any (c:=d) (k:Int) (H.out.oldInts 2 rfl)
     have hlen:(rest a (s.take k)).length≤k:=by
      have:=rest_length_le a (s.take k) 0;rw[List.length_take] at this;exact Nat.le_trans this (Nat.min_le_left _ _)
     clear hy hfs;by_cases hmem:(k:Int)∈a
     ·rw[decide_eq_true hmem] at C3;have HR2:=Hd (show rest a (s.take (k+1))=rest a (s.take k) by rw[HR.out,if_pos hmem,List.append_nil]);clear hmem hlen
      go_wp2_with fail
      refine C3.mono ?_;rintro e1 w1 ⟨rfl,rfl⟩;clear C3;go_wp2;go_roundw
      case rel=>exact⟨k+1,_,rfl,by go_num,by omega,by rw[HR2.out];exact H.out⟩
      case measure=>simp[intOf];omega
     ·rw[decide_eq_false hmem] at C3;have HR2:=Hd (show rest a (s.take (k+1))=rest a (s.take k)++[y] by rw[HR.out,if_neg hmem]);clear hmem
      go_wp2_with fail
      refine C3.mono ?_;rintro e1 w1 ⟨rfl,rfl⟩;clear C3
      go_wp2_with (at_builtin;refine wpList_append_sep rfl (.tmp 34) (.tmp 36) 22 3 rfl Tryz.underlying22 Tryz.infoInt H.out 0 rfl rfl y HF.out _ rfl ?c1 ?_)
      case c1=>omega
      intro v' w' h';have H8:=Hd h';clear h' hlen;go_wp2;go_roundw
      case rel=>exact⟨k+1,_,rfl,by go_num,by omega,by rw[HR2.out,List.length_append,List.length_singleton];exact H8.out⟩
      case measure=>simp[intOf];omega
    ·obtain rfl:k=n:=by omega
     have hS9:=H.out;rw[List.take_of_length_le (by have:=HSL.out;omega)] at hS9;obtain⟨A9,c9,hv,_,_,_⟩:=(hS9.ownS 0 rfl).form;subst hv;have H9:=Hd hS9;have C3:=gOwn_any (c:=c9) (H9.out.ownInts 0 rfl).2.2;clear hS9
     go_wp2_with fail
     refine C3.mono ?_;rintro e2 w2 ⟨⟨v,j,rfl,hO⟩,hb⟩;have H2:=Hd (H9.out.addOwn hb hO);clear C3 hO hb;go_wp2;go_ret2;rw[HX.out];exact⟨⟨_,j,rfl,H2.out.ownS 0 rfl⟩,H2.out.base⟩
  ·rw[riseF_no hri] at C2;have HX:=Hd (show foldedP how s a=(1,[]) by rw[foldedP,if_neg];rintro⟨_,h⟩;rw[HSL.out] at h;exact hri h);clear hh hri hr hS hA
   go_enter Tryz.func61,Tryz.ntmps61
   go_wp2_with fail
   refine C1.mono ?_;rintro e1 w1 ⟨rfl,rfl⟩;clear C1
   go_wp2_with fail
   refine C2.mono ?_;rintro e1 w1 ⟨rfl,rfl⟩;clear C2;go_wp2;go_ret2;exact listPost_no HX.out (Below.refl _ _)
end Go.Proofs.YtnnmplkgenhofaaGreat
