import Derived.Test.YtnnmplkgenhofaaGreatPac
import Derived.Test.YtnnmplkgenhofaaGreatPad
import Derived.Test.YtnnmplkgenhofaaGreatPaf
import Derived.Test.YtnnmplkgenhofaaGreatPan
import Derived.Test.YtnnmplkgenhofaaGreatPao
set_option maxRecDepth 100000
set_option maxHeartbeats 12800000
namespace Go.Proofs.YtnnmplkgenhofaaGreat
open Go.RowKit
theorem ref4Join_any {w:World} {A:Option Addr} {n c:Nat} {l:TL} (ax:Int) (hT:Tens w A n l) :
  Calls Tryz.prog 74 #[.int .i64 ax,.slice A n c] w fun e w' => (∃ u,e=.returned (.tuple #[u,.int .i64 (joinR ax l).1])∧OTen w' w.heap.size u (joinR ax l).2.1 (joinR ax l).2.2)∧Below w.heap.size w w' := by
 have hl:=hT.1;have hn6:=hT.2.1;have HTN:=Hd hT;have HLN:=Hd hl;clear hT hl;have h1:=(Sep.nil w).allocBox w.heap.size 71 [.slice none 0 0,.slice none 0 0] rfl
 go_enter Tryz.func74,Tryz.ntmps74
 go_upto_region 1 with fail
 generalize w.alloc (.cells #[.slice none 0 0,.slice none 0 0] 71)=W at *;have H:=Hd h1;clear h1
 go_wp2_with fail
 go_loopw [17] (fun kv wr=>∃ j:Nat,kv=.int .i64 j∧j≤n∧(∀(k:Nat) (t:List Int × List Int),k<j→l[k]? = some t→tenRight t.1 t.2=true)∧Sep w wr [.box w.heap.size 71 [.slice none 0 0,.slice none 0 0]]) (fun kv _=>n-(intOf kv).toNat)
 case atStart=>exact⟨0,rfl,by omega,fun k t hk=>by omega,H.out⟩
 case round =>
  clear H;obtain⟨j,rfl,hj,hall,hS⟩:=hrel;have HA:=Hd hall;have H:=Hd hS;clear hall hS;by_cases hlt:j<n
  ·obtain⟨t,ht⟩:=getElem_of (l:=l) (k:=j) (by have:=HLN.out;omega);obtain⟨a,S,sn,sc,D,dn,dc,hA,hbl,q0,q1,hten⟩:=HTN.out.2.2 j t ht;subst hA;have HE:=Hd ht;have HQ0:=Hd q0;have HQ1:=Hd q1;have HTE:=Hd hten;clear ht q0 q1 hten;have q0:=H.out.oldCell (by rw[block_of_add];exact hbl) HQ0.out;have q1:=H.out.oldCell (p:=⟨(a.add (j*2)).block,(a.add (j*2)).off+1,none⟩) (by simp only[block_of_add];exact hbl) HQ1.out;have C1:=refTensor_any (H.out.oldTen HTE.out)
   go_wp2_with fail
   cases hr:tenRight t.1 t.2 with
   | false =>
    rw[hr] at C1;refine C1.mono ?_;rintro e2 w2 ⟨rfl,hb2⟩;replace H:=Hd (H.out.below hb2);have HX:=Hd (joinR_right (ax:=ax) (fun hc=>by have:=hc t (List.mem_of_getElem? HE.out);rw[hr] at this;cases this));obtain ⟨r0,r1⟩:=H.out.z2 0 rfl;obtain ⟨fr0,fr1⟩:=H.out.f2 0 rfl;clear hb2 hr C1 q0 q1;go_wp2;rw[HX.out]
    exact sep_ret2 ((H.out.setBox 0 0 (.slice none 0 0) rfl).setBox 0 1 (.slice none 0 0) rfl) 0 rfl (z:=.int .i64 13) Tryz.results74 rfl rfl rfl ⟨⟨_,rfl,_,_,0,0,rfl,OwnS.nil_ _ _ _,OwnS.nil_ _ _ _⟩,((H.out.setBox 0 0 (.slice none 0 0) rfl).setBox 0 1 (.slice none 0 0) rfl).base⟩
   | true =>
    rw[hr] at C1;refine C1.mono ?_;rintro e2 w2 ⟨rfl,hb2⟩;replace H:=Hd (H.out.below hb2);have HR:=Hd hr;clear hb2 hr C1 q0 q1;go_wp2;go_roundw
    case rel=>exact⟨j+1,by go_num,by omega,fun k u hk hu=>by
     rcases Nat.lt_or_ge k j with h' | h'
     ·exact HA.out k u h' hu
     ·obtain rfl:k=j:=by omega
      rw[HE.out] at hu;injection hu with hu;subst hu;exact HR.out,H.out⟩
    case measure=>simp[intOf];omega
  ·have hjn:n=j:=by omega
   subst hjn;have HAR:=Hd (show allRight l from fun t ht=>by obtain⟨i,hi⟩:=List.getElem?_of_mem ht;exact HA.out i t (by have:=(List.getElem?_eq_some_iff.1 hi).1;have:=HLN.out;omega) hi);clear HA hlt;by_cases hn0:n=0
   ·have dz:((n:Int)==0)=true:=by simp[hn0]
    have HX:=Hd (joinR_arg (ax:=ax) HAR.out (fun hc=>by obtain⟨t,ht,_⟩:=hc;have:=(List.getElem?_eq_some_iff.1 ht).1;have:=HLN.out;omega));clear hn0;obtain ⟨r0,r1⟩:=H.out.z2 0 rfl;obtain ⟨fr0,fr1⟩:=H.out.f2 0 rfl;go_wp2;rw[HX.out];exact sep_ret2 ((H.out.setBox 0 0 (.slice none 0 0) rfl).setBox 0 1 (.slice none 0 0) rfl) 0 rfl (z:=.int .i64 1) Tryz.results74 rfl rfl rfl ⟨⟨_,rfl,_,_,0,0,rfl,OwnS.nil_ _ _ _,OwnS.nil_ _ _ _⟩,((H.out.setBox 0 0 (.slice none 0 0) rfl).setBox 0 1 (.slice none 0 0) rfl).base⟩
   have dz:((n:Int)==0)=false:=by simp;omega
   have hnp:0<n:=by omega
   clear hn0;by_cases g1:ax<0
   ·have d1:decide (ax<0)=true:=by simpa using g1
    have HX:=Hd (joinR_arg (ax:=ax) HAR.out (fun hc=>by obtain⟨t,_,h0,_⟩:=hc;omega));obtain ⟨r0,r1⟩:=H.out.z2 0 rfl;obtain ⟨fr0,fr1⟩:=H.out.f2 0 rfl;go_wp2;rw[HX.out];exact sep_ret2 ((H.out.setBox 0 0 (.slice none 0 0) rfl).setBox 0 1 (.slice none 0 0) rfl) 0 rfl (z:=.int .i64 1) Tryz.results74 rfl rfl rfl ⟨⟨_,rfl,_,_,0,0,rfl,OwnS.nil_ _ _ _,OwnS.nil_ _ _ _⟩,((H.out.setBox 0 0 (.slice none 0 0) rfl).setBox 0 1 (.slice none 0 0) rfl).base⟩
   obtain⟨t0,ht0⟩:=getElem_of (l:=l) (k:=0) (by have:=HLN.out;omega);obtain⟨a,S0,sn0,sc0,D0,dn0,dc0,hA,hbl,g0,_,hten⟩:=HTN.out.2.2 0 t0 ht0;subst hA;rw[show a.add (0*2)=a by cases a;rfl] at g0;obtain⟨hI0,_⟩:=ten_ints hten;have hsn0:=hI0.len;have HI0:=Hd hI0;have HT0:=Hd ht0;have HG0:=Hd g0;clear ht0 g0 hten hI0;have g0:=H.out.oldCell hbl HG0.out;by_cases g2:(sn0:Int)≤ax
   ·have d2:decide ((sn0:Int)≤ax)=true:=by simpa using g2
    have HX:=Hd (joinR_arg (ax:=ax) HAR.out (fun hc=>by obtain⟨t,ht,_,h1⟩:=hc;rw[HT0.out] at ht;injection ht with ht;subst ht;omega));obtain ⟨r0,r1⟩:=H.out.z2 0 rfl;obtain ⟨fr0,fr1⟩:=H.out.f2 0 rfl;clear hsn0;go_wp2;rw[HX.out];exact sep_ret2 ((H.out.setBox 0 0 (.slice none 0 0) rfl).setBox 0 1 (.slice none 0 0) rfl) 0 rfl (z:=.int .i64 1) Tryz.results74 rfl rfl rfl ⟨⟨_,rfl,_,_,0,0,rfl,OwnS.nil_ _ _ _,OwnS.nil_ _ _ _⟩,((H.out.setBox 0 0 (.slice none 0 0) rfl).setBox 0 1 (.slice none 0 0) rfl).base⟩
   obtain⟨xa,rfl⟩:=Int.eq_ofNat_of_zero_le (by omega:0≤ax);have hxa:xa<sn0:=by omega
   have e2:decide (sn0≤xa)=false:=by simp;omega
   have HAX:=Hd (show axOk (xa:Int) l from⟨t0,HT0.out,by omega,by omega⟩);have HHD:=Hd (show head1 l=t0.1 by cases hl:l with|nil=>have:=HT0.out;rw[hl] at this;simp at this|cons u r=>have:=HT0.out;rw[hl] at this;simp at this;rw[← this];rfl);have HHL:=Hd (show(head1 l).length=sn0 by rw[HHD.out];exact hsn0);have hs4:sn0≤4:=by have:=(right_len (HAR.out t0 (List.mem_of_getElem? HT0.out))).1;omega
   clear hsn0 g1 g2;have H5:=Hd (H.out.empty 3);have g5:=H5.out.oldCell hbl HG0.out
   go_wp2_with (at_builtin;refine wpList_appends_sep rfl (.tmp 45) (.tmp 49) 22 3 rfl Tryz.underlying22 Tryz.infoInt H5.out 0 rfl rfl S0 sn0 sc0 t0.1 rfl (H5.out.oldI HI0.out) ?c1 ?_)
   case c1=>omega
   intro v' w' h';obtain⟨gs,cs,hv,hO⟩:=(h'.ownS 0 rfl).own (by omega);subst hv;obtain⟨z,hz⟩:=getElem_of (l:=t0.1) (k:=xa) (by have:=HHL.out;rw[HHD.out] at this;omega);have hcz:=hO.cell hz;have hfz:=hO.frozen xa;have h6:=h'.store 0 xa (x:=0) ⟨by omega,by omega⟩ rfl;clear h' hO hz H H5 g0 g5
   go_upto_region 11 with fail
   generalize w'.setCell ⟨gs,xa,none⟩ (.int .i64 0)=w8 at *;clear hcz hfz;rw[← HHD.out] at h6;have H:=Hd h6;clear h6
   go_wp2_with fail
   go_loopw [56] (fun kv wr=>∃ i:Nat,kv=.int .i64 i∧i≤n∧(∀(k:Nat) (t:List Int × List Int),k<i→l[k]? = some t→fitAx (head1 l) xa t.1)∧tot xa (l.take i)≤32∧Sep w wr [.own 3 (.slice (some ⟨gs,0,none⟩) sn0 cs) sn0 ((head1 l).set xa (tot xa (l.take i))),.box w.heap.size 71 [.slice none 0 0,.slice none 0 0]]) (fun kv _=>n-(intOf kv).toNat)
   case atStart=>exact⟨0,rfl,by omega,fun k t hk=>by omega,by simp[tot],H.out⟩
   case round =>
    clear H;obtain⟨i,rfl,hile,hall,htot,hS⟩:=hrel;have HF:=Hd hall;have H:=Hd hS;clear hall hS;by_cases hli:i<n
    ·have HBI:=Hd hbl;clear hbl;obtain⟨t,ht⟩:=getElem_of (l:=l) (k:=i) (by have:=HLN.out;omega);obtain⟨a,S,sn,sc,D,dn,dc,hA,hbl,q0,q1,hten⟩:=HTN.out.2.2 i t ht;injection hA with hA
     subst hA;have HE:=Hd ht;have HQ0:=Hd q0;have HQ1:=Hd q1;have HTE:=Hd hten;clear ht q0 q1 hten;have q0:=H.out.oldCell (by rw[block_of_add];exact hbl) HQ0.out;have q1:=H.out.oldCell (p:=⟨(a.add (i*2)).block,(a.add (i*2)).off+1,none⟩) (by simp only[block_of_add];exact hbl) HQ1.out;have hsn:=(ten_ints HTE.out).1.len;by_cases hlen:sn=sn0;rotate_left
     ·have hg:((sn:Int) != (sn0:Int))=true:=by simp;omega
      have HX:=Hd (joinR_shape HAR.out HAX.out (fun hk=>by have:=(hk.1 t (List.mem_of_getElem? HE.out)).1;have:=HHL.out;omega));obtain ⟨r0,r1⟩:=H.out.z2 1 rfl;obtain ⟨fr0,fr1⟩:=H.out.f2 1 rfl;clear hlen hsn;go_wp2;rw[HX.out];exact sep_ret2 ((H.out.setBox 1 0 (.slice none 0 0) rfl).setBox 1 1 (.slice none 0 0) rfl) 1 rfl (z:=.int .i64 13) Tryz.results74 rfl rfl rfl ⟨⟨_,rfl,_,_,0,0,rfl,OwnS.nil_ _ _ _,OwnS.nil_ _ _ _⟩,((H.out.setBox 1 0 (.slice none 0 0) rfl).setBox 1 1 (.slice none 0 0) rfl).base⟩
     subst hlen;have HSN:=Hd hsn;clear hsn
     go_wp2_with fail
     go_loopw [71] (fun kv wr2=>∃ k:Nat,kv=.int .i64 k∧k≤sn∧(∀(q:Nat) (x y:Int),q<k→q≠xa→t.1[q]? = some x→(head1 l)[q]? = some y→x=y)∧∃ q,wr2=wr.drewN q) (fun kv _=>sn-(intOf kv).toNat)
     case atStart=>exact⟨0,rfl,by omega,fun q x y hq=>by omega,0,rfl⟩
     case round =>
      obtain⟨k,rfl,hk,hall,q,rfl⟩:=hrel;have HC:=Hd hall;clear hall;by_cases hlk:k<sn
      ·obtain⟨sa,x,hsA,_,hx,hcx,hfx⟩:=((ten_ints (H.out.oldTen HTE.out)).1).at_ (k:=k) hlk;subst hsA;obtain⟨y,hy⟩:=getElem_of (l:=head1 l) (k:=k) (by have:=HHL.out;omega);obtain⟨u,hu⟩:=getElem_of (l:=(head1 l).set xa (tot xa (l.take i))) (k:=k) (by rw[List.length_set];have:=HHL.out;omega);have hcu:=(H.out.own 0 rfl).cell hu;have HXY:=Hd (⟨hx,hy,hu⟩:_∧_∧_);clear hx hy hu hfx;by_cases hkx:k=xa
       ·have d1:((k:Int) != (xa:Int))=false:=by simp[hkx]
        have d2:(k != xa)=false:=by simp[hkx]
        have HKX:=Hd hkx;clear hkx
        go_wp2_with fail
        go_quiet (fail)
        go_wp2;go_roundw
        case rel=>exact⟨k+1,by go_num,by omega,fun q2 x2 y2 hq hne hx2 hy2=>by
         rcases Nat.lt_or_ge q2 k with h' | h'
         ·exact HC.out q2 x2 y2 h' hne hx2 hy2
         ·obtain rfl:q2=k:=by omega
          exact absurd HKX.out hne,_,rfl⟩
        case measure=>simp[intOf];omega
       have d1:((k:Int) != (xa:Int))=true:=by simp;omega
       have d2:(k != xa)=true:=by simp[hkx]
       have huy:u=y:=by have h2:=HXY.out.2.2;rw[List.getElem?_set,if_neg (fun e=>hkx e.symm),HXY.out.2.1] at h2;injection h2 with h2;exact h2.symm
       subst huy;have HKX:=Hd hkx;clear hkx;by_cases hxu:x=u
       ·subst hxu
        go_wp2_with fail
        go_quiet (fail)
        go_wp2;go_roundw
        case rel=>exact⟨k+1,by go_num,by omega,fun q2 x2 y2 hq hne hx2 hy2=>by
         rcases Nat.lt_or_ge q2 k with h' | h'
         ·exact HC.out q2 x2 y2 h' hne hx2 hy2
         ·obtain rfl:q2=k:=by omega
          rw[HXY.out.1] at hx2;rw[HXY.out.2.1] at hy2;injection hx2 with hx2;injection hy2 with hy2;exact hx2.symm.trans hy2,_,rfl⟩
        case measure=>simp[intOf];omega
       ·have d3:(x != u)=true:=by simpa using hxu
        have HX:=Hd (joinR_shape HAR.out HAX.out (fun hk=>hxu ((hk.1 t (List.mem_of_getElem? HE.out)).2 k x u HKX.out HXY.out.1 HXY.out.2.1)));obtain ⟨r0,r1⟩:=H.out.z2 1 rfl;obtain ⟨fr0,fr1⟩:=H.out.f2 1 rfl;clear hxu
        go_wp2_with fail
        go_quiet (fail)
        go_wp2;rw[HX.out];exact sep_ret2 (((H.out.drewN _).setBox 1 0 (.slice none 0 0) rfl).setBox 1 1 (.slice none 0 0) rfl) 1 rfl (z:=.int .i64 13) Tryz.results74 rfl rfl rfl ⟨⟨_,rfl,_,_,0,0,rfl,OwnS.nil_ _ _ _,OwnS.nil_ _ _ _⟩,(((H.out.drewN _).setBox 1 0 (.slice none 0 0) rfl).setBox 1 1 (.slice none 0 0) rfl).base⟩
      ·have hkn:sn=k:=by omega
       subst hkn;have HFI:=Hd (show fitAx (head1 l) xa t.1 from⟨by have:=HHL.out;have:=HSN.out;omega,fun q x y hne hx hy=>HC.out q x y (by have:=(List.getElem?_eq_some_iff.1 hx).1;have:=HSN.out;omega) hne hx hy⟩);clear HC hlk;replace H:=Hd (H.out.drewN q)
       go_upto_region 22 with fail
       generalize wr.drewN q=w4 at *;obtain⟨sa,x,hsA,_,hx,hcx,hfx⟩:=((ten_ints (H.out.oldTen HTE.out)).1).at_ (k:=xa) hxa;subst hsA;have hxb:=right_getD (HAR.out t (List.mem_of_getElem? HE.out)) xa;rw[List.getD_eq_getElem?_getD,hx] at hxb;simp only[Option.getD_some] at hxb;have htp:=(all_tot HAR.out xa i).1;have hcu:=(H.out.own 0 rfl).cell (j:=xa) (x:=tot xa (l.take i)) (by rw[List.getElem?_set,if_pos rfl,if_pos (by have:=HHL.out;omega)]);have hfu:=(H.out.own 0 rfl).frozen xa;have htk:=tot_take HE.out hx;obtain⟨T1,hT1⟩:∃ z,tot xa (l.take i)=z:=⟨_,rfl⟩;rw[hT1] at hcu htp htot htk;have h8:=H.out.store 0 xa (x:=T1+x) ⟨by omega,by omega⟩ rfl;rw[List.set_set,show(head1 l).set xa (T1+x)=(head1 l).set xa (tot xa (l.take (i+1))) by rw[htk]] at h8;have hw:IntKind.i64.wrap (T1+x)=T1+x:=IntWalk.i64_in _ ⟨by omega,by omega⟩;have q0:=H.out.oldCell (by rw[block_of_add];exact hbl) HQ0.out;have HTK:=Hd htk;clear htk hT1 hx
       go_still_tail 16,(by kernel_rfl)
       change wpList _ _ _ _ _ w4.drew;have hcu1:w4.drew.cell? ⟨gs,xa,none⟩=some (.int .i64 T1):=hcu;have hfu1:w4.drew.frozen? ⟨gs,xa,none⟩=false:=hfu;have h9:=h8.drew
       go_upto_region 23 with fail
       generalize (w4.setCell ⟨gs,xa,none⟩ (.int .i64 (T1+x))).drew=w9 at *;have hc9:=(h9.own 0 rfl).cell (j:=xa) (x:=T1+x) (by rw[← HTK.out,List.getElem?_set,if_pos rfl,if_pos (by have:=HHL.out;omega)]);clear hcu hfu hcu1 hfu1 hcx q0 q1 h8 H;have H:=Hd h9;clear h9;by_cases g4:32<T1+x
       ·have d4:decide (32<T1+x)=true:=by simpa using g4
        have HX:=Hd (joinR_shape HAR.out HAX.out (join_long (ax:=xa) HAR.out (by have:=HHL.out;omega) (i:=i+1) (by rw[HTK.out];omega)));obtain ⟨r0,r1⟩:=H.out.z2 1 rfl;obtain ⟨fr0,fr1⟩:=H.out.f2 1 rfl;go_wp2;rw[HX.out];exact sep_ret2 ((H.out.setBox 1 0 (.slice none 0 0) rfl).setBox 1 1 (.slice none 0 0) rfl) 1 rfl (z:=.int .i64 13) Tryz.results74 rfl rfl rfl ⟨⟨_,rfl,_,_,0,0,rfl,OwnS.nil_ _ _ _,OwnS.nil_ _ _ _⟩,((H.out.setBox 1 0 (.slice none 0 0) rfl).setBox 1 1 (.slice none 0 0) rfl).base⟩
       have d4:decide (32<T1+x)=false:=by simpa using g4
       go_wp2;go_roundw
       case rel=>exact⟨i+1,by go_num,by omega,fun k u hk hu=>by
        rcases Nat.lt_or_ge k i with h' | h'
        ·exact HF.out k u h' hu
        ·obtain rfl:k=i:=by omega
         rw[HE.out] at hu;injection hu with hu;subst hu;exact HFI.out,by rw[HTK.out];omega,H.out⟩
       case measure=>simp[intOf];omega
    ·have hin:n=i:=by omega
     subst hin;have HFA:=Hd (show ∀ t∈l,fitAx (head1 l) xa t.1 from fun t ht=>by obtain⟨k,hk⟩:=List.getElem?_of_mem ht;exact HF.out k t (by have:=(List.getElem?_eq_some_iff.1 hk).1;have:=HLN.out;omega) hk);replace H:=Hd (by have h:=H.out;rwa [show(head1 l).set xa (tot xa (l.take n))=joinS xa l by rw[joinS,List.take_of_length_le (by have:=HLN.out;omega)]] at h);clear HF hli htot;have HBI:=Hd hbl;have C2:=refRight_any (c:=cs) ((H.out.ownInts 0 rfl).2.2)
     go_wp2_with fail
     cases ho:Sh.right (joinS xa l) with
     | false =>
      rw[ho] at C2;refine C2.mono ?_;rintro e3 w3 ⟨rfl,rfl⟩;have HX:=Hd (joinR_shape HAR.out HAX.out (fun hk=>by have:=hk.2;rw[show((xa:Int)).toNat=xa from rfl,ho] at this;cases this));obtain ⟨r0,r1⟩:=H.out.z2 1 rfl;obtain ⟨fr0,fr1⟩:=H.out.f2 1 rfl;clear ho C2;go_wp2;rw[HX.out]
      exact sep_ret2 ((H.out.setBox 1 0 (.slice none 0 0) rfl).setBox 1 1 (.slice none 0 0) rfl) 1 rfl (z:=.int .i64 13) Tryz.results74 rfl rfl rfl ⟨⟨_,rfl,_,_,0,0,rfl,OwnS.nil_ _ _ _,OwnS.nil_ _ _ _⟩,((H.out.setBox 1 0 (.slice none 0 0) rfl).setBox 1 1 (.slice none 0 0) rfl).base⟩
     | true =>
      rw[ho] at C2;refine C2.mono ?_;rintro e3 w3 ⟨rfl,rfl⟩;have HRO:=Hd ho;have HOK:=Hd (show JoinOk xa l from⟨HFA.out,ho⟩);clear ho C2
      go_wp2_with fail
      refine(refFill_any 0 ((H.out.ownInts 0 rfl).2.2) (by omega) ⟨by omega,by omega⟩).mono ?_;rintro e4 w4 ⟨⟨u,rfl,hu⟩,hb4⟩;obtain⟨S1,ns,scO,D1,N,dcO,rfl,hs1,hd1,hsc,hdc,hNle,h5⟩:=H.out.addTen hb4 hu;rw[List.length_replicate] at hd1;rw[hd1] at h5;have HN:=Hd hd1;have HQ:=Hd (joinR_ok HAR.out HAX.out HOK.out);have h6:=h5.allocBox w4.heap.size 71 [.slice S1 ns scO,.slice D1 N dcO] rfl;clear hu hb4 h5 hd1 hs1
      go_upto_region 29 with fail
      generalize w4.alloc (.cells #[.slice S1 ns scO,.slice D1 N dcO] 71)=w5 at *;generalize w4.heap.size=gt at *;replace H:=Hd h6;clear h6
      go_wp2_with fail
      go_loopw [125,11] (fun kv av wr=>∃ i:Nat,kv=.int .i64 i∧i≤n∧av=.int .i64 (tot xa (l.take i))∧Sep w wr [.box gt 71 [.slice S1 ns scO,.slice D1 N dcO],.own 3 (.slice S1 ns scO) ns (joinS xa l),.own 2 (.slice D1 N dcO) N (joinUp xa l i),.own 3 (.slice (some ⟨gs,0,none⟩) sn0 cs) sn0 (joinS xa l),.box w.heap.size 71 [.slice none 0 0,.slice none 0 0]]) (fun kv _ _=>n-(intOf kv).toNat)
      case atStart=>exact⟨0,rfl,by omega,by simp[tot],by rw[joinUp_zero,HN.out];exact H.out⟩
      case round =>
       clear H;obtain⟨i,rfl,hile,rfl,hS⟩:=hrel;have H:=Hd hS;clear hS;by_cases hli:i<n
       ·clear hbl;obtain⟨t,ht⟩:=getElem_of (l:=l) (k:=i) (by have:=HLN.out;omega);obtain⟨a,S,sn,sc,D,dn,dc,hA,hbl,q0,q1,hten⟩:=HTN.out.2.2 i t ht;injection hA with hA
        subst hA;have HE:=Hd ht;have HQ0:=Hd q0;have HQ1:=Hd q1;have HTE:=Hd hten;clear ht q0 q1 hten;have q0:=H.out.oldCell (by rw[block_of_add];exact hbl) HQ0.out;have q1:=H.out.oldCell (p:=⟨(a.add (i*2)).block,(a.add (i*2)).off+1,none⟩) (by simp only[block_of_add];exact hbl) HQ1.out;have HDN:=Hd (ten_ints HTE.out).2.len;have HSN:=Hd (ten_ints HTE.out).1.len;have hdn:=(ten_ints HTE.out).2.le;have HTR:=Hd (HAR.out t (List.mem_of_getElem? HE.out));have HFI:=Hd (HFA.out t (List.mem_of_getElem? HE.out));obtain⟨T1,hT1⟩:∃ z,tot xa (l.take i)=z:=⟨_,rfl⟩;have htb:=all_tot HAR.out xa i;have hsx:tot xa l≤32:=(((Sh.right_iff.1 HRO.out).2.1) (tot xa l) (by rw[joinS];exact List.mem_set (by have:=HHL.out;omega) _)).2;rw[hT1] at htb;have HT1:=Hd hT1;rw[show Value.int .i64 (tot xa (l.take i))=Value.int .i64 T1 by rw[hT1]];clear hT1
        go_wp2_with fail
        go_loopw [134] (fun kv wr=>∃ k:Nat,kv=.int .i64 k∧k≤dn∧Sep w wr [.box gt 71 [.slice S1 ns scO,.slice D1 N dcO],.own 3 (.slice S1 ns scO) ns (joinS xa l),.own 2 (.slice D1 N dcO) N (scat (joinUp xa l i) t.2 (joinIx (joinS xa l) xa t.1 T1) k),.own 3 (.slice (some ⟨gs,0,none⟩) sn0 cs) sn0 (joinS xa l),.box w.heap.size 71 [.slice none 0 0,.slice none 0 0]]) (fun kv _=>dn-(intOf kv).toNat)
        case atStart=>exact⟨0,rfl,by omega,H.out⟩
        case round =>
         clear H q0 q1;obtain⟨k,rfl,hk,hS⟩:=hrel;have H:=Hd hS;clear hS;by_cases hlk:k<dn
         ·have hkz:(k:Int)<Sh.size t.1:=by have:=len_right HTR.out;have:=HDN.out;omega
          have q0:=H.out.oldCell (by rw[block_of_add];exact hbl) HQ0.out;have q1:=H.out.oldCell (p:=⟨(a.add (i*2)).block,(a.add (i*2)).off+1,none⟩) (by simp only[block_of_add];exact hbl) HQ1.out
          go_wp2_with fail
          refine(refPlace_own k ((ten_ints (H.out.oldTen HTE.out)).1) ⟨by omega,by omega⟩).mono ?_;rintro e6 w6 ⟨⟨v,n6,rfl,hO⟩,hb6⟩;have hwi:=join_within HAR.out HOK.out (by have:=HHL.out;omega) HE.out hkz;rw[HT1.out] at hwi;obtain⟨_,hpl,hpw,_⟩:=placeOf_of hkz;have hp6:n6=sn0:=by have:=hO.len;have:=HFI.out.1;have:=HHL.out;omega
          obtain⟨gp,cp,hv,hOp⟩:=hO.own (by omega);subst hv;obtain⟨P,hP⟩:∃ P,Sh.placeOf t.1 k=P:=⟨_,rfl⟩;rw[hP] at hO hOp hpl hpw hwi;have HP:=Hd hP;have h7:=H.out.addOwn hb6 hO;obtain⟨x,hx⟩:=getElem_of (l:=P) (k:=xa) (by have:=HFI.out.1;have:=HHL.out;omega);obtain⟨y,hy⟩:=getElem_of (l:=t.1) (k:=xa) (by have:=HFI.out.1;have:=HHL.out;omega);have hxy:=Sh.within_at hpw hy hx;have hyb:=right_getD HTR.out xa;rw[List.getD_eq_getElem?_getD,hy] at hyb;simp only[Option.getD_some] at hyb;have hcx:=hOp.cell hx;have hfx:=hOp.frozen xa;have h8:=h7.store 0 xa (x:=x+T1) ⟨by omega,by omega⟩ rfl;have hw:IntKind.i64.wrap (x+T1)=x+T1:=IntWalk.i64_in _ ⟨by omega,by omega⟩;rw[show P.set xa (x+T1)=addAx P xa T1 by rw[addAx,List.getD_eq_getElem?_getD,hx];rfl] at h8;clear q0 q1 H h7 hO hOp hb6 hpl hpw hx hy hP hxy hyb
          go_upto_region 38 with fail
          generalize w6.setCell ⟨gp,xa,none⟩ (.int .i64 (x+T1))=w7 at *;clear hcx hfx;have H:=Hd h8;clear h8;subst hp6;have hix:=index_lt HRO.out hwi.1 hwi.2;obtain⟨K,hK⟩:=Int.eq_ofNat_of_zero_le hix.1;have hKN:K < N:=by have:=HN.out;omega
          obtain⟨gb,cb,hv,hO⟩:=(H.out.ownS 3 rfl).own (by omega);injection hv with hv1 _ hv3
          subst hv1;subst hv3;obtain ⟨o0,o1⟩:=H.out.z2 1 rfl;have q0:=H.out.oldCell (by rw[block_of_add];exact hbl) HQ0.out;have q1:=H.out.oldCell (p:=⟨(a.add (i*2)).block,(a.add (i*2)).off+1,none⟩) (by simp only[block_of_add];exact hbl) HQ1.out;obtain⟨bd,X,hBA,hbd,hX,_,hfX⟩:=((ten_ints HTE.out).2).at_ (k:=k) hlk;subst hBA;have HDX:=Hd hX;have hcX:=((ten_ints (H.out.oldTen HTE.out)).2).get hX;obtain⟨z,hz⟩:=getElem_of (l:=scat (joinUp xa l i) t.2 (joinIx (joinS xa l) xa t.1 T1) k) (k:=K) (by rw[scat_length,joinUp_length];have:=HN.out;omega);have HZ:=Hd hz;have HFX:=Hd hfX;have HST:=Hd (scat_step (o:=joinUp xa l i) (ix:=(joinIx (joinS xa l) xa t.1 T1)) hX);have HK:=Hd (show(joinIx (joinS xa l) xa t.1 T1) k=K by rw[joinIx,HP.out,hK];rfl);have C1:Calls Tryz.prog 98 #[.slice (some ⟨gs,0,none⟩) n6 cs,.slice (some ⟨gp,0,none⟩) n6 cp] w7.drew fun e w' => e=.returned (.int .i64 K)∧Below w7.drew.heap.size w7.drew w' := by rw[← hK];exact(refIndex_any ((H.out.drew.ownInts 4 rfl).2.2) ((H.out.drew.ownInts 0 rfl).2.2)).mono fun _ _ ⟨e,k,h⟩=>⟨e,by rw[h];exact below_drewN (Below.refl _ _) k⟩
          have HC:=Hd C1;clear hO hwi hix hK C1 o0 q0 hX hz hfX
          go_region_held3 (fun w' => w'.cell? ⟨gt,1,none⟩=some (.slice (some ⟨gb,0,none⟩) N dcO)∧w'.cell? ⟨(a.add (i*2)).block,(a.add (i*2)).off+1,none⟩=some (.slice (some bd) dn dc)∧w'.cell? (bd.add k)=some (.int .i64 X)) (go_keep)
           (first|(go_at_call 98;refine HC.out.mono ?_;rintro e7 w8 ⟨rfl,hb7⟩;have H7:=Hd (H.out.drew.below hb7);have m0:=H7.out.cell 1 1 rfl rfl;have m1:=H7.out.oldCell (p:=⟨(a.add (i*2)).block,(a.add (i*2)).off+1,none⟩) (by simp only[block_of_add];exact hbl) HQ1.out;have m2:=((ten_ints (H7.out.oldTen HTE.out)).2).get HDX.out;have hcs:=(H7.out.own 3 rfl).cell HZ.out;have hfs:=(H7.out.own 3 rfl).frozen K;have HS7:=Hd (H7.out.store 3 K HFX.out rfl);have k0:=HS7.out.cell 1 1 rfl rfl;have k1:=HS7.out.oldCell (p:=⟨(a.add (i*2)).block,(a.add (i*2)).off+1,none⟩) (by simp only[block_of_add];exact hbl) HQ1.out;have k2:=((ten_ints (HS7.out.oldTen HTE.out)).2).get HDX.out))
          clear o1 q1 m0 m1 m2 k0 k1 k2 hcs hfs hcX;go_wp2;go_roundw
          case rel=>exact⟨k+1,by go_num,by omega,by rw[← HST.out,HK.out];exact HS7.out.sub [1,2,3,4,5] rfl (by decide)⟩
          case measure=>simp[intOf];omega
         ·have hkn:dn=k:=by omega
          subst hkn;obtain⟨sa,y,hsA,_,hy,_,_⟩:=((ten_ints (H.out.oldTen HTE.out)).1).at_ (k:=xa) (by have:=HFI.out.1;have:=HHL.out;have:=HSN.out;omega);subst hsA;have hcy:=((ten_ints (H.out.oldTen HTE.out)).1).get hy;have hyb:=right_getD HTR.out xa;rw[List.getD_eq_getElem?_getD,hy] at hyb;simp only[Option.getD_some] at hyb;have htk:=tot_take HE.out hy;rw[HT1.out] at htk;have HTK:=Hd htk;have hw:IntKind.i64.wrap (T1+y)=T1+y:=IntWalk.i64_in _ ⟨by omega,by omega⟩;have hxs:xa<sn:=by have:=HFI.out.1;have:=HHL.out;have:=HSN.out;omega
          have q0:=H.out.oldCell (by rw[block_of_add];exact hbl) HQ0.out;clear hy hyb htk;go_wp2;go_roundw
          case rel=>exact⟨i+1,by go_num,by omega,by rw[HTK.out],by rw[joinUp_step HE.out,HT1.out,HDN.out];exact H.out⟩
          case measure=>simp[intOf];omega
       ·have hin:n=i:=by omega
        subst hin;have HQ2:=Hd (show joinR (xa:Int) l=(0,joinS xa l,joinUp xa l n) by rw[HQ.out,HLN.out];rfl);obtain ⟨o0,o1⟩:=H.out.z2 0 rfl;obtain ⟨r0,r1⟩:=H.out.z2 4 rfl;obtain ⟨fr0,fr1⟩:=H.out.f2 4 rfl;go_wp2;rw[HQ2.out];exact sep_ret2 ((H.out.setBox 4 0 (.slice S1 ns scO) rfl).setBox 4 1 (.slice D1 N dcO) rfl) 4 rfl (z:=.int .i64 0) Tryz.results74 rfl rfl rfl ⟨⟨_,rfl,_,_,ns,N,rfl,((H.out.setBox 4 0 (.slice S1 ns scO) rfl).setBox 4 1 (.slice D1 N dcO) rfl).ownS 1 rfl,((H.out.setBox 4 0 (.slice S1 ns scO) rfl).setBox 4 1 (.slice D1 N dcO) rfl).ownS 2 rfl⟩,((H.out.setBox 4 0 (.slice S1 ns scO) rfl).setBox 4 1 (.slice D1 N dcO) rfl).base⟩
theorem pd_pos {s:List Int} (h:∀ x∈s,1≤x):0<Sh.pd s:=by
 induction s with
 | nil=>simp[Sh.pd]
 | cons e t ih =>
  rw[Sh.pd];exact Int.mul_pos (by have:=h e (by simp);omega) (ih fun x hx=>h x (by simp[hx]))
theorem set_same_ {l:List Int} {j:Nat} {x:Int} (h:l[j]? = some x):l.set j x=l:=by
 apply List.ext_getElem?;intro i;rw[List.getElem?_set];by_cases hi:j=i
 ·subst hi;rw[if_pos rfl,h,if_pos (List.getElem?_eq_some_iff.1 h).1]
 ·rw[if_neg hi]
theorem right_less {s:List Int} {ax:Nat} {x y:Int} (hr:Sh.right s=true) (hx:s[ax]? = some x) (h0:0≤y) (hy:y≤x):Sh.right (s.set ax y)=true:=by
 have h:=Sh.right_iff.1 hr;refine Sh.right_iff.2 ⟨by simpa using h.1,fun z hz=>?_,?_⟩
 ·rcases List.mem_or_eq_of_mem_set hz with hz|rfl
  ·exact h.2.1 z hz
  ·have:=h.2.1 x (List.mem_of_getElem? hx);omega
 ·have key:∀(l:List Int) (k:Nat),(∀ z∈l,0≤z∧z≤32)→l[k]? = some x→Sh.pd (l.set k y)≤Sh.pd l:=by
   intro l
   induction l with
   | nil=>intro k _ hk;simp at hk
   | cons e t ih =>
    intro k hd hk;have ht:=Sh.pd_nonneg (s:=t) fun z hz=>hd z (by simp[hz])
    cases k with
    | zero =>
     simp at hk;subst hk;rw[List.set_cons_zero,Sh.pd,Sh.pd]
     exact Int.mul_le_mul_of_nonneg_right hy ht
    | succ k =>
     rw[List.set_cons_succ,Sh.pd,Sh.pd];exact Int.mul_le_mul_of_nonneg_left (ih k (fun z hz=>hd z (by simp[hz])) (by simpa using hk)) (hd e (by simp)).1
  have:=key s ax h.2.1 hx;rw[Sh.pr_pd];have h3:=h.2.2;rw[Sh.pr_pd] at h3;omega
theorem pd_perm {l l' : List Int} (h:l.Perm l'):Sh.pd l=Sh.pd l' := by
 induction h with
 | nil=>rfl
 | cons x _ ih=>rw[Sh.pd,Sh.pd,ih]
 | swap x y l=>rw[Sh.pd,Sh.pd,Sh.pd,Sh.pd,← Int.mul_assoc,← Int.mul_assoc,Int.mul_comm x y]
 | trans _ _ h1 h2=>exact h1.trans h2
theorem tu_nodup {s a:List Int} (h:TuOk s a):(a.map Int.toNat).Nodup:=by
 show List.Pairwise (· ≠ ·) _
 rw[List.pairwise_iff_getElem];intro i j hi hj hij;simp only[List.length_map] at hi hj;simp only[List.getElem_map];intro e;have hx:a[i]? = some a[i]:=List.getElem?_eq_getElem hi;have hy:a[j]? = some a[j]:=List.getElem?_eq_getElem hj;have h1:=tu_in h hx;have h2:=tu_in h hy;have hxy:a[i]=a[j]:=by omega
 rw[← hxy] at hy;have:=tu_inj h hx hy;omega
theorem turnS_perm {s a:List Int} (h:TuOk s a):(turnS s a).Perm s:=by
 have h1:(a.map Int.toNat).Perm (List.range s.length):=by
  refine(List.perm_ext_iff_of_nodup (tu_nodup h) List.nodup_range).2 fun q=>?_
  rw[List.mem_range,List.mem_map]
  constructor
  ·rintro⟨x,hx,rfl⟩;obtain⟨i,hi⟩:=List.getElem?_of_mem hx;exact(tu_in h hi).2
  ·intro hq;obtain⟨i,hi⟩:=tu_onto h hq;exact⟨_,List.mem_of_getElem? hi,by simp⟩
 have h2:=h1.map (fun j=>s.getD j 0);have e1:(a.map Int.toNat).map (fun j=>s.getD j 0)=turnS s a:=by rw[List.map_map];rfl
 have e2:(List.range s.length).map (fun j=>s.getD j 0)=s:=by
  apply List.ext_getElem?;intro i;rcases Nat.lt_or_ge i s.length with hi|hi
  ·rw[List.getElem?_map,List.getElem?_range hi];simp[List.getD_eq_getElem?_getD,List.getElem?_eq_getElem hi]
  ·rw[List.getElem?_eq_none (by simpa using hi),List.getElem?_eq_none hi]
 rwa [e1,e2] at h2
theorem turn_right {s a:List Int} (h:TuOk s a) (hr:Sh.right s=true):Sh.right (turnS s a)=true∧Sh.size (turnS s a)=Sh.size s:=by
 have hp:=turnS_perm h;have h1:=Sh.right_iff.1 hr;have e:Sh.pr (turnS s a)=Sh.pr s:=by rw[Sh.pr_pd,Sh.pr_pd,pd_perm hp]
 have hr2:Sh.right (turnS s a)=true:=Sh.right_iff.2 ⟨by rw[hp.length_eq];exact h1.1,fun x hx=>h1.2.1 x (hp.mem_iff.1 hx),by rw[e];exact h1.2.2⟩;exact⟨hr2,by rw[Sh.size_of hr2,Sh.size_of hr,e]⟩
def ins (l:List Int) (k:Nat) (x:Int):List Int:=l.take k++[x]++l.drop k
def skip (k n:Nat):List Int:=gen n fun j=>if j<k then(j:Int) else(j:Int)+1
end Go.Proofs.YtnnmplkgenhofaaGreat
