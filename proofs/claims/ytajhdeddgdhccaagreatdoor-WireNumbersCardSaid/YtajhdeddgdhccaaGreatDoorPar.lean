import Derived.Test.YtajhdeddgdhccaaGreatDoorPaj
import Derived.Test.YtajhdeddgdhccaaGreatDoorPap
set_option maxRecDepth 100000
set_option maxHeartbeats 12800000
namespace Go.Proofs.YtajhdeddgdhccaaGreatDoor
open Go.RowKit Go.Proofs.Tryz
variable {a l s:List Int} {x:Int}
theorem b9w {w:World}{A:Option Addr}{n c:Nat}{l:TL}(ax:Int)(hT:Tens w A n l):
  Calls prog 68 #[.int .i64 ax,.slice A n c] w fun e w'=>(∃ u,e=.returned (.tuple #[u,.int .i64 (a7p ax l).1])∧OTen w' w.heap.size u (a7p ax l).2.1 (a7p ax l).2.2)∧Below w.heap.size w w':=by
 have hl:=hT.1;have hn6:=hT.2.1;have HTN:=Hd hT;have HLN:=Hd hl;clear hT hl;have h1:=(Sep.nil w).allocBox w.heap.size 84 [.slice none 0 0,.slice none 0 0] rfl
 go_enter func68,ntmps68
 go_upto_region 1 with fail
 generalize w.alloc (.cells #[.slice none 0 0,.slice none 0 0] 84)=W at *;have H:=Hd h1;clear h1
 go_wp2_with fail
 go_loopw [17] (fun kv wr=>∃ j:Nat,kv=.int .i64 j∧j≤n∧(∀(k:Nat) (t:List Int × List Int),k<j→l[k]?=some t→a0a t.1 t.2=true)∧Sep w wr [.box w.heap.size 84 [.slice none 0 0,.slice none 0 0]]) (fun kv _=>n-(intOf kv).toNat)
 case atStart=>exact⟨0,rfl,by omega,fun k t hk=>by omega,H⟩
 case round =>
  clear H;obtain⟨j,rfl,hj,hall,hS⟩:=hrel;have HA:=Hd hall;have H:=Hd hS;clear hall hS;by_cases hlt:j<n
  ·obtain⟨t,ht⟩:=a0e (l:=l) (k:=j) (by have:=HLN.out;omega);obtain⟨a,S,sn,sc,D,dn,dc,hA,hbl,q0,q1,hten⟩:=HTN.out.2.2 j t ht;subst hA;have HE:=Hd ht;have HQ0:=Hd q0;have HQ1:=Hd q1;have HTE:=Hd hten;clear ht q0 q1 hten;have q0:=H.oldCell (by rw[a0d];exact hbl) HQ0;have q1:=H.oC HQ1.out (by simp only[a0d];exact hbl);have C1:=a1o (H.oldTen HTE)
   go_wp2_with fail
   cases hr:a0a t.1 t.2 with
   | false =>
    rw[hr] at C1;refine C1.mono ?_;rintro e2 w2 ⟨rfl,hb2⟩;replace H:=Hd (H.below hb2);have HX:=Hd (c1n (ax:=ax) (fun hc=>by have:=hc t (mG HE);rw[hr] at this;cases this));obtain⟨r0,r1,fr0,fr1⟩:=H.b2 0;clear hb2 hr C1 q0 q1;go_wp2;rw[HX.out]
    exact sN2 H 0 13 results68
   | true =>
    rw[hr] at C1;refine C1.mono ?_;rintro e2 w2 ⟨rfl,hb2⟩;replace H:=Hd (H.below hb2);have HR:=Hd hr;clear hb2 hr C1 q0 q1;go_wp2;go_roundw
    case rel=>exact⟨j+1,by go_num,by omega,fun k u hk hu=>by
     rcases Nat.lt_or_ge k j with h' | h'
     ·exact HA k u h' hu
     ·obtain rfl:k=j:=by omega
      rw[HE.out] at hu;injection hu with hu;subst hu;exact HR,H⟩
    case measure=>simp[intOf];omega
  ·have hjn:n=j:=by omega
   subst hjn;have HAR:=Hd (show a4w l from fun t ht=>by obtain⟨i,hi⟩:=List.getElem?_of_mem ht;exact HA i t (by have:=(lL hi);have:=HLN.out;omega) hi);clear HA hlt;by_cases hn0:n=0
   ·have dz:((n:Int)==0)=true:=by simp[hn0]
    have HX:=Hd (b0b (ax:=ax) HAR (fun hc=>by obtain⟨t,ht,_⟩:=hc;have:=(lL ht);have:=HLN.out;omega));clear hn0;obtain⟨r0,r1,fr0,fr1⟩:=H.b2 0;go_wp2;rw[HX.out];exact sN2 H 0 1 results68
   have dz:((n:Int)==0)=false:=by simp;omega
   have hnp:0<n:=by omega
   clear hn0;by_cases g1:ax<0
   ·have d1:decide (ax<0)=true:=by simpa using g1
    have HX:=Hd (b0b (ax:=ax) HAR (fun hc=>by obtain⟨t,_,h0,_⟩:=hc;omega));obtain⟨r0,r1,fr0,fr1⟩:=H.b2 0;go_wp2;rw[HX.out];exact sN2 H 0 1 results68
   obtain⟨t0,ht0⟩:=a0e (l:=l) (k:=0) (by have:=HLN.out;omega);obtain⟨a,S0,sn0,sc0,D0,dn0,dc0,hA,hbl,g0,_,hten⟩:=HTN.out.2.2 0 t0 ht0;subst hA;rw[show a.add (0*2)=a by cases a;rfl] at g0;obtain⟨hI0,_⟩:=a0w hten;have hsn0:=hI0.len;have HI0:=Hd hI0;have HT0:=Hd ht0;have HG0:=Hd g0;clear ht0 g0 hten hI0;have g0:=H.oldCell hbl HG0.out;by_cases g2:(sn0:Int)≤ax
   ·have d2:decide ((sn0:Int)≤ax)=true:=by simpa using g2
    have HX:=Hd (b0b (ax:=ax) HAR (fun hc=>by obtain⟨t,ht,_,h1⟩:=hc;rw[HT0.out] at ht;injection ht with ht;subst ht;omega));obtain⟨r0,r1,fr0,fr1⟩:=H.b2 0;clear hsn0;go_wp2;rw[HX.out];exact sN2 H 0 1 results68
   obtain⟨xa,rfl⟩:=eZ (by omega:0≤ax);have hxa:xa<sn0:=by omega
   have e2:decide (sn0≤xa)=false:=by simp;omega
   have HAX:=Hd (show axOk (xa:Int) l from⟨t0,HT0,by omega,by omega⟩);have HHD:=Hd (show a7j l=t0.1 by cases hl:l with|nil=>have:=HT0.out;rw[hl] at this;simp at this|cons u r=>have:=HT0.out;rw[hl] at this;simp at this;rw[←this];rfl);have HHL:=Hd (show(a7j l).length=sn0 by rw[HHD.out];exact hsn0);have hs4:sn0≤4:=by have:=(a2l (HAR t0 (mG HT0))).1;omega
   clear hsn0 g1 g2;have H5:=Hd (H.empty 3);have g5:=H5.oldCell hbl HG0.out
   go_wp2_with (at_builtin;refine a0f rfl (.tmp 45) (.tmp 49) 23 3 rfl underlying23 Tryz.infoInt H5.out 0 rfl rfl S0 sn0 sc0 t0.1 rfl (H5.out.oldI HI0.out) ?c1 ?_)
   case c1=>omega
   intro v' w' h';obtain⟨gs,cs,hv,hO⟩:=(h'.ownS 0 rfl).own (by omega);subst hv;obtain⟨z,hz⟩:=a0e (l:=t0.1) (k:=xa) (by have:=HHL.out;rw[HHD.out] at this;omega);have hcz:=hO.cell hz;have hfz:=hO.frozen xa;have h6:=h'.store 0 xa (x:=0) ⟨by omega,by omega⟩ rfl;clear h' hO hz H H5 g0 g5
   go_upto_region 11 with fail
   generalize w'.setCell ⟨gs,xa,none⟩ (.int .i64 0)=w8 at *;clear hcz hfz;rw[←HHD.out] at h6;have H:=Hd h6;clear h6
   go_wp2_with fail
   go_loopw [56] (fun kv wr=>∃ i:Nat,kv=.int .i64 i∧i≤n∧(∀(k:Nat) (t:List Int × List Int),k<i→l[k]?=some t→b5c (a7j l) xa t.1)∧tot xa (l.take i)≤32∧Sep w wr [.own 3 (.slice (some ⟨gs,0,none⟩) sn0 cs) sn0 ((a7j l).set xa (tot xa (l.take i))),.box w.heap.size 84 [.slice none 0 0,.slice none 0 0]]) (fun kv _=>n-(intOf kv).toNat)
   case atStart=>exact⟨0,rfl,by omega,fun k t hk=>by omega,by simp[tot],H⟩
   case round =>
    clear H;obtain⟨i,rfl,hile,hall,htot,hS⟩:=hrel;have HF:=Hd hall;have H:=Hd hS;clear hall hS;by_cases hli:i<n
    ·have HBI:=Hd hbl;clear hbl;obtain⟨t,ht⟩:=a0e (l:=l) (k:=i) (by have:=HLN.out;omega);obtain⟨a,S,sn,sc,D,dn,dc,hA,hbl,q0,q1,hten⟩:=HTN.out.2.2 i t ht;injection hA with hA
     subst hA;have HE:=Hd ht;have HQ0:=Hd q0;have HQ1:=Hd q1;have HTE:=Hd hten;clear ht q0 q1 hten;have q0:=H.oldCell (by rw[a0d];exact hbl) HQ0;have q1:=H.oC HQ1.out (by simp only[a0d];exact hbl);have hsn:=(a0w HTE).1.len;by_cases hlen:sn=sn0;rotate_left
     ·have hg:((sn:Int) != (sn0:Int))=true:=by simp;omega
      have HX:=Hd (a4t HAR HAX (fun hk=>by have:=(hk.1 t (mG HE)).1;have:=HHL.out;omega));obtain⟨r0,r1,fr0,fr1⟩:=H.b2 1;clear hlen hsn;go_wp2;rw[HX.out];exact sN2 H 1 13 results68
     subst hlen;have HSN:=Hd hsn;clear hsn
     go_wp2_with fail
     go_loopw [71] (fun kv wr2=>∃ k:Nat,kv=.int .i64 k∧k≤sn∧(∀(q:Nat) (x y:Int),q<k→q≠xa→t.1[q]?=some x→(a7j l)[q]?=some y→x=y)∧∃ q,wr2=wr.drewN q) (fun kv _=>sn-(intOf kv).toNat)
     case atStart=>exact⟨0,rfl,by omega,fun q x y hq=>by omega,0,rfl⟩
     case round =>
      obtain⟨k,rfl,hk,hall,q,rfl⟩:=hrel;have HC:=Hd hall;clear hall;by_cases hlk:k<sn
      ·obtain⟨sa,x,hsA,_,hx,hcx,hfx⟩:=((a0w (H.oldTen HTE)).1).at_ (k:=k) hlk;subst hsA;obtain⟨y,hy⟩:=a0e (l:=a7j l) (k:=k) (by have:=HHL.out;omega);obtain⟨u,hu⟩:=a0e (l:=(a7j l).set xa (tot xa (l.take i))) (k:=k) (by rw[List.length_set];have:=HHL.out;omega);have hcu:=(H.own 0 rfl).cell hu;have HXY:=Hd (⟨hx,hy,hu⟩:_∧_∧_);clear hx hy hu hfx;by_cases hkx:k=xa
       ·have d1:((k:Int) != (xa:Int))=false:=by simp[hkx]
        have d2:(k != xa)=false:=by simp[hkx]
        have HKX:=Hd hkx;clear hkx
        go_wp2_with fail
        go_quiet (fail)
        go_wp2;go_roundw
        case rel=>exact⟨k+1,by go_num,by omega,fun q2 x2 y2 hq hne hx2 hy2=>by
         rcases Nat.lt_or_ge q2 k with h' | h'
         ·exact HC q2 x2 y2 h' hne hx2 hy2
         ·obtain rfl:q2=k:=by omega
          exact absurd HKX.out hne,_,rfl⟩
        case measure=>simp[intOf];omega
       have d1:((k:Int) != (xa:Int))=true:=by simp;omega
       have d2:(k != xa)=true:=by simp[hkx]
       have huy:u=y:=by have h2:=HXY.out.2.2;rw[List.getElem?_set,iN (fun e=>hkx e.symm),HXY.out.2.1] at h2;injection h2 with h2;exact h2.symm
       subst huy;have HKX:=Hd hkx;clear hkx;by_cases hxu:x=u
       ·subst hxu
        go_wp2_with fail
        go_quiet (fail)
        go_wp2;go_roundw
        case rel=>exact⟨k+1,by go_num,by omega,fun q2 x2 y2 hq hne hx2 hy2=>by
         rcases Nat.lt_or_ge q2 k with h' | h'
         ·exact HC q2 x2 y2 h' hne hx2 hy2
         ·obtain rfl:q2=k:=by omega
          rw[HXY.out.1] at hx2;rw[HXY.out.2.1] at hy2;injection hx2 with hx2;injection hy2 with hy2;exact hx2.symm.trans hy2,_,rfl⟩
        case measure=>simp[intOf];omega
       ·have d3:(x != u)=true:=by simpa using hxu
        have HX:=Hd (a4t HAR HAX (fun hk=>hxu ((hk.1 t (mG HE)).2 k x u HKX HXY.out.1 HXY.out.2.1)));obtain⟨r0,r1,fr0,fr1⟩:=H.b2 1;clear hxu
        go_wp2_with fail
        go_quiet (fail)
        go_wp2;rw[HX.out];exact sN2 (H.drewN _) 1 13 results68
      ·have hkn:sn=k:=by omega
       subst hkn;have HFI:=Hd (show b5c (a7j l) xa t.1 from⟨by have:=HHL.out;have:=HSN.out;omega,fun q x y hne hx hy=>HC.out q x y (by have:=(lL hx);have:=HSN.out;omega) hne hx hy⟩);clear HC hlk;replace H:=Hd (H.drewN q)
       go_upto_region 22 with fail
       generalize wr.drewN q=w4 at *;obtain⟨sa,x,hsA,_,hx,hcx,hfx⟩:=((a0w (H.oldTen HTE)).1).at_ (k:=xa) hxa;subst hsA;have hxb:=a8t (HAR t (mG HE)) xa;rw[gD,hx] at hxb;simp only[Option.getD_some] at hxb;have htp:=(b2z HAR xa i).1;have hcu:=(H.own 0 rfl).cell (j:=xa) (x:=tot xa (l.take i)) (by rw[List.getElem?_set,iP rfl,iP (by have:=HHL.out;omega)]);have hfu:=(H.own 0 rfl).frozen xa;have htk:=b8e HE hx;obtain⟨T1,hT1⟩:∃ z,tot xa (l.take i)=z:=⟨_,rfl⟩;rw[hT1] at hcu htp htot htk;have h8:=H.store 0 xa (x:=T1+x) ⟨by omega,by omega⟩ rfl;rw[List.set_set,show(a7j l).set xa (T1+x)=(a7j l).set xa (tot xa (l.take (i+1))) by rw[htk]] at h8;have hw:IntKind.i64.wrap (T1+x)=T1+x:=IntWalk.i64_in _ ⟨by omega,by omega⟩;have q0:=H.oldCell (by rw[a0d];exact hbl) HQ0;have HTK:=Hd htk;clear htk hT1 hx
       go_still_tail 16,(by kernel_rfl)
       change wpList _ _ _ _ _ w4.drew;have hcu1:w4.drew.cell? ⟨gs,xa,none⟩=some (.int .i64 T1):=hcu;have hfu1:w4.drew.frozen? ⟨gs,xa,none⟩=false:=hfu;have h9:=h8.drew
       go_upto_region 23 with fail
       generalize (w4.setCell ⟨gs,xa,none⟩ (.int .i64 (T1+x))).drew=w9 at *;have hc9:=(h9.own 0 rfl).cell (j:=xa) (x:=T1+x) (by rw[←HTK.out,List.getElem?_set,iP rfl,iP (by have:=HHL.out;omega)]);clear hcu hfu hcu1 hfu1 hcx q0 q1 h8 H;have H:=Hd h9;clear h9;by_cases g4:32<T1+x
       ·have d4:decide (32<T1+x)=true:=by simpa using g4
        have HX:=Hd (a4t HAR HAX (c7k (ax:=xa) HAR (by have:=HHL.out;omega) (i:=i+1) (by rw[HTK.out];omega)));obtain⟨r0,r1,fr0,fr1⟩:=H.b2 1;go_wp2;rw[HX.out];exact sN2 H 1 13 results68
       have d4:decide (32<T1+x)=false:=by simpa using g4
       go_wp2;go_roundw
       case rel=>exact⟨i+1,by go_num,by omega,fun k u hk hu=>by
        rcases Nat.lt_or_ge k i with h' | h'
        ·exact HF k u h' hu
        ·obtain rfl:k=i:=by omega
         rw[HE.out] at hu;injection hu with hu;subst hu;exact HFI,by rw[HTK.out];omega,H⟩
       case measure=>simp[intOf];omega
    ·have hin:n=i:=by omega
     subst hin;have HFA:=Hd (show ∀ t∈l,b5c (a7j l) xa t.1 from fun t ht=>by obtain⟨k,hk⟩:=List.getElem?_of_mem ht;exact HF k t (by have:=(lL hk);have:=HLN.out;omega) hk);replace H:=Hd (by have h:=H.out;rwa [show(a7j l).set xa (tot xa (l.take n))=a4d xa l by rw[a4d,List.take_of_length_le (by have:=HLN.out;omega)]] at h);clear HF hli htot;have HBI:=Hd hbl;have C2:=a0n (c:=cs) ((H.ownInts 0 rfl).2.2)
     go_wp2_with fail
     cases ho:Sh.right (a4d xa l) with
     | false =>
      rw[ho] at C2;refine C2.mono ?_;rintro e3 w3 ⟨rfl,rfl⟩;have HX:=Hd (a4t HAR HAX (fun hk=>by have:=hk.2;rw[show((xa:Int)).toNat=xa from rfl,ho] at this;cases this));obtain⟨r0,r1,fr0,fr1⟩:=H.b2 1;clear ho C2;go_wp2;rw[HX.out]
      exact sN2 H 1 13 results68
     | true =>
      rw[ho] at C2;refine C2.mono ?_;rintro e3 w3 ⟨rfl,rfl⟩;have HRO:=Hd ho;have HOK:=Hd (show b5r xa l from⟨HFA,ho⟩);clear ho C2
      go_wp2_with fail
      refine(a1i 0 ((H.ownInts 0 rfl).2.2) (by omega) ⟨by omega,by omega⟩).mono ?_;rintro e4 w4 ⟨⟨u,rfl,hu⟩,hb4⟩;obtain⟨S1,ns,scO,D1,N,dcO,rfl,hs1,hd1,hsc,hdc,hNle,h5⟩:=H.addTen hb4 hu;rw[List.length_replicate] at hd1;rw[hd1] at h5;have HN:=Hd hd1;have HQ:=Hd (c3a HAR HAX HOK);have h6:=h5.allocBox w4.heap.size 84 [.slice S1 ns scO,.slice D1 N dcO] rfl;clear hu hb4 h5 hd1 hs1
      go_upto_region 29 with fail
      generalize w4.alloc (.cells #[.slice S1 ns scO,.slice D1 N dcO] 84)=w5 at *;generalize w4.heap.size=gt at *;replace H:=Hd h6;clear h6
      go_wp2_with fail
      go_loopw [125,11] (fun kv av wr=>∃ i:Nat,kv=.int .i64 i∧i≤n∧av=.int .i64 (tot xa (l.take i))∧Sep w wr [.box gt 84 [.slice S1 ns scO,.slice D1 N dcO],.own 3 (.slice S1 ns scO) ns (a4d xa l),.own 2 (.slice D1 N dcO) N (a6a xa l i),.own 3 (.slice (some ⟨gs,0,none⟩) sn0 cs) sn0 (a4d xa l),.box w.heap.size 84 [.slice none 0 0,.slice none 0 0]]) (fun kv _ _=>n-(intOf kv).toNat)
      case atStart=>exact⟨0,rfl,by omega,by simp[tot],by rw[b3n,HN.out];exact H⟩
      case round =>
       clear H;obtain⟨i,rfl,hile,rfl,hS⟩:=hrel;have H:=Hd hS;clear hS;by_cases hli:i<n
       ·clear hbl;obtain⟨t,ht⟩:=a0e (l:=l) (k:=i) (by have:=HLN.out;omega);obtain⟨a,S,sn,sc,D,dn,dc,hA,hbl,q0,q1,hten⟩:=HTN.out.2.2 i t ht;injection hA with hA
        subst hA;have HE:=Hd ht;have HQ0:=Hd q0;have HQ1:=Hd q1;have HTE:=Hd hten;clear ht q0 q1 hten;have q0:=H.oldCell (by rw[a0d];exact hbl) HQ0;have q1:=H.oC HQ1.out (by simp only[a0d];exact hbl);have HDN:=Hd (a0w HTE).2.len;have HSN:=Hd (a0w HTE).1.len;have hdn:=(a0w HTE).2.le;have HTR:=Hd (HAR t (mG HE));have HFI:=Hd (HFA t (mG HE));obtain⟨T1,hT1⟩:∃ z,tot xa (l.take i)=z:=⟨_,rfl⟩;have htb:=b2z HAR xa i;have hsx:tot xa l≤32:=(((Sh.right_iff.1 HRO).2.1) (tot xa l) (by rw[a4d];exact List.mem_set (by have:=HHL.out;omega) _)).2;rw[hT1] at htb;have HT1:=Hd hT1;rw[show Value.int .i64 (tot xa (l.take i))=Value.int .i64 T1 by rw[hT1]];clear hT1
        go_wp2_with fail
        go_loopw [134] (fun kv wr=>∃ k:Nat,kv=.int .i64 k∧k≤dn∧Sep w wr [.box gt 84 [.slice S1 ns scO,.slice D1 N dcO],.own 3 (.slice S1 ns scO) ns (a4d xa l),.own 2 (.slice D1 N dcO) N (scat (a6a xa l i) t.2 (b3m (a4d xa l) xa t.1 T1) k),.own 3 (.slice (some ⟨gs,0,none⟩) sn0 cs) sn0 (a4d xa l),.box w.heap.size 84 [.slice none 0 0,.slice none 0 0]]) (fun kv _=>dn-(intOf kv).toNat)
        case atStart=>exact⟨0,rfl,by omega,H⟩
        case round =>
         clear H q0 q1;obtain⟨k,rfl,hk,hS⟩:=hrel;have H:=Hd hS;clear hS;by_cases hlk:k<dn
         ·have hkz:(k:Int)<Sh.size t.1:=by have:=a1u HTR;have:=HDN.out;omega
          have q0:=H.oldCell (by rw[a0d];exact hbl) HQ0;have q1:=H.oC HQ1.out (by simp only[a0d];exact hbl)
          go_wp2_with fail
          refine(a2q k ((a0w (H.oldTen HTE)).1) ⟨by omega,by omega⟩).mono ?_;rintro e6 w6 ⟨⟨v,n6,rfl,hO⟩,hb6⟩;have hwi:=c1p HAR HOK (by have:=HHL.out;omega) HE hkz;rw[HT1.out] at hwi;obtain⟨_,hpl,hpw,_⟩:=a1g hkz;have hp6:n6=sn0:=by have:=hO.len;have:=HFI.out.1;have:=HHL.out;omega
          obtain⟨gp,cp,hv,hOp⟩:=hO.own (by omega);subst hv;obtain⟨P,hP⟩:∃ P,Sh.placeOf t.1 k=P:=⟨_,rfl⟩;rw[hP] at hO hOp hpl hpw hwi;have HP:=Hd hP;have h7:=H.addOwn hb6 hO;obtain⟨x,hx⟩:=a0e (l:=P) (k:=xa) (by have:=HFI.out.1;have:=HHL.out;omega);obtain⟨y,hy⟩:=a0e (l:=t.1) (k:=xa) (by have:=HFI.out.1;have:=HHL.out;omega);have hxy:=Sh.within_at hpw hy hx;have hyb:=a8t HTR xa;rw[gD,hy] at hyb;simp only[Option.getD_some] at hyb;have hcx:=hOp.cell hx;have hfx:=hOp.frozen xa;have h8:=h7.store 0 xa (x:=x+T1) ⟨by omega,by omega⟩ rfl;have hw:IntKind.i64.wrap (x+T1)=x+T1:=IntWalk.i64_in _ ⟨by omega,by omega⟩;rw[show P.set xa (x+T1)=b6y P xa T1 by rw[b6y,gD,hx];rfl] at h8;clear q0 q1 H h7 hO hOp hb6 hpl hpw hx hy hP hxy hyb
          go_upto_region 38 with fail
          generalize w6.setCell ⟨gp,xa,none⟩ (.int .i64 (x+T1))=w7 at *;clear hcx hfx;have H:=Hd h8;clear h8;subst hp6;have hix:=b2o HRO hwi.1 hwi.2;obtain⟨K,hK⟩:=eZ hix.1;have hKN:K < N:=by have:=HN.out;omega
          obtain⟨gb,cb,hv,hO⟩:=(H.ownS 3 rfl).own (by omega);injection hv with hv1 _ hv3
          subst hv1;subst hv3;obtain⟨o0,o1⟩:=H.z2 1 rfl;have q0:=H.oldCell (by rw[a0d];exact hbl) HQ0;have q1:=H.oC HQ1.out (by simp only[a0d];exact hbl);obtain⟨bd,X,hBA,hbd,hX,_,hfX⟩:=((a0w HTE).2).at_ (k:=k) hlk;subst hBA;have HDX:=Hd hX;have hcX:=((a0w (H.oldTen HTE)).2).get hX;obtain⟨z,hz⟩:=a0e (l:=scat (a6a xa l i) t.2 (b3m (a4d xa l) xa t.1 T1) k) (k:=K) (by rw[a9p,b7n];have:=HN.out;omega);have HZ:=Hd hz;have HFX:=Hd hfX;have HST:=Hd (c0h (o:=a6a xa l i) (ix:=(b3m (a4d xa l) xa t.1 T1)) hX);have HK:=Hd (show(b3m (a4d xa l) xa t.1 T1) k=K by rw[b3m,HP.out,hK];rfl);have C1:Calls prog 91 #[.slice (some ⟨gs,0,none⟩) n6 cs,.slice (some ⟨gp,0,none⟩) n6 cp] w7.drew fun e w'=>e=.returned (.int .i64 K)∧Below w7.drew.heap.size w7.drew w':=by rw[←hK];exact(a6c ((H.drew.ownInts 4 rfl).2.2) ((H.drew.ownInts 0 rfl).2.2)).mono fun _ _ ⟨e,k,h⟩=>⟨e,by rw[h];exact a1l (Below.refl _ _) k⟩
          have HC:=Hd C1;clear hO hwi hix hK C1 o0 q0 hX hz hfX
          go_region_held3 (fun w'=>w'.cell? ⟨gt,1,none⟩=some (.slice (some ⟨gb,0,none⟩) N dcO)∧w'.cell? ⟨(a.add (i*2)).block,(a.add (i*2)).off+1,none⟩=some (.slice (some bd) dn dc)∧w'.cell? (bd.add k)=some (.int .i64 X)) (go_keep)
           (first|(go_at_call 91;refine HC.mono ?_;rintro e7 w8 ⟨rfl,hb7⟩;have H7:=Hd (H.drew.below hb7);have m0:=H7.c 1 1;have m1:=H7.oC HQ1.out (by simp only[a0d];exact hbl);have m2:=((a0w (H7.oldTen HTE)).2).get HDX;have hcs:=(H7.own 3 rfl).cell HZ;have hfs:=(H7.own 3 rfl).frozen K;have HS7:=Hd (H7.store 3 K HFX rfl);have k0:=HS7.c 1 1;have k1:=HS7.oC HQ1.out (by simp only[a0d];exact hbl);have k2:=((a0w (HS7.oldTen HTE)).2).get HDX))
          clear o1 q1 m0 m1 m2 k0 k1 k2 hcs hfs hcX;go_wp2;go_roundw
          case rel=>exact⟨k+1,by go_num,by omega,by rw[←HST.out,HK.out];exact HS7.sub [1,2,3,4,5] rfl (by decide)⟩
          case measure=>simp[intOf];omega
         ·have hkn:dn=k:=by omega
          subst hkn;obtain⟨sa,y,hsA,_,hy,_,_⟩:=((a0w (H.oldTen HTE)).1).at_ (k:=xa) (by have:=HFI.out.1;have:=HHL.out;have:=HSN.out;omega);subst hsA;have hcy:=((a0w (H.oldTen HTE)).1).get hy;have hyb:=a8t HTR xa;rw[gD,hy] at hyb;simp only[Option.getD_some] at hyb;have htk:=b8e HE hy;rw[HT1.out] at htk;have HTK:=Hd htk;have hw:IntKind.i64.wrap (T1+y)=T1+y:=IntWalk.i64_in _ ⟨by omega,by omega⟩;have hxs:xa<sn:=by have:=HFI.out.1;have:=HHL.out;have:=HSN.out;omega
          have q0:=H.oldCell (by rw[a0d];exact hbl) HQ0;clear hy hyb htk;go_wp2;go_roundw
          case rel=>exact⟨i+1,by go_num,by omega,by rw[HTK.out],by rw[c1o HE.out,HT1.out,HDN.out];exact H⟩
          case measure=>simp[intOf];omega
       ·have hin:n=i:=by omega
        subst hin;have HQ2:=Hd (show a7p (xa:Int) l=(0,a4d xa l,a6a xa l n) by rw[HQ.out,HLN.out];rfl);obtain⟨o0,o1⟩:=H.z2 0 rfl;obtain⟨r0,r1,fr0,fr1⟩:=H.b2 4;go_wp2;rw[HQ2.out];exact sY2 ((H.setBox 4 0 (.slice S1 ns scO) rfl).setBox 4 1 (.slice D1 N dcO) rfl) 4 1 2 (.int .i64 0) results68
theorem c3t (h:∀ x∈s,1≤x):0<Sh.pd s:=by
 induction s with
 | nil=>simp[Sh.pd]
 | cons e t ih =>
  rw[Sh.pd];exact Int.mul_pos (by have:=h e (by simp);omega) (ih fun x hx=>h x (by simp[hx]))
theorem b4p {j:Nat}(h:l[j]?=some x):l.set j x=l:=by
 apply List.ext_getElem?;intro i;rw[List.getElem?_set];by_cases hi:j=i
 ·subst hi;rw[iP rfl,h,iP (lL h)]
 ·rw[iN hi]
theorem c5h {ax:Nat}{y:Int}(hr:Sh.right s=true)(hx:s[ax]?=some x)(h0:0≤y)(hy:y≤x):Sh.right (s.set ax y)=true:=by
 have h:=Sh.right_iff.1 hr;refine Sh.right_iff.2 ⟨by simpa using h.1,fun z hz=>?_,?_⟩
 ·rcases List.mem_or_eq_of_mem_set hz with hz|rfl
  ·exact h.2.1 z hz
  ·have:=h.2.1 x (mG hx);omega
 ·have key:∀(l:List Int) (k:Nat),(∀ z∈l,0≤z∧z≤32)→l[k]?=some x→Sh.pd (l.set k y)≤Sh.pd l:=by
   intro l
   induction l with
   | nil=>intro k _ hk;simp at hk
   | cons e t ih =>
    intro k hd hk;have ht:=Sh.pd_nonneg (s:=t) fun z hz=>hd z (by simp[hz])
    cases k with
    | zero =>
     simp at hk;subst hk;rw[List.set_cons_zero,Sh.pd,Sh.pd]
     exact Int.mul_le_mul_of_nonneg_right hy ht
    | succ k =>
     rw[List.set_cons_succ,Sh.pd,Sh.pd];exact Int.mul_le_mul_of_nonneg_left (ih k (fun z hz=>hd z (by simp[hz])) (by simpa using hk)) (hd e (by simp)).1
  have:=key s ax h.2.1 hx;rw[Sh.pr_pd];have h3:=h.2.2;rw[Sh.pr_pd] at h3;omega
theorem d4n {l':List Int}(h:l.Perm l'):Sh.pd l=Sh.pd l':=by
 induction h with
 | nil=>rfl
 | cons x _ ih=>rw[Sh.pd,Sh.pd,ih]
 | swap x y l=>rw[Sh.pd,Sh.pd,Sh.pd,Sh.pd,←Int.mul_assoc,←Int.mul_assoc,Int.mul_comm x y]
 | trans _ _ h1 h2=>exact h1.trans h2
theorem d3f (h:TuOk s a):(a.map Int.toNat).Nodup:=by
 show List.Pairwise (· ≠ ·) _
 rw[List.pairwise_iff_getElem];intro i j hi hj hij;simp only[List.length_map] at hi hj;simp only[List.getElem_map];intro e;have hx:a[i]?=some a[i]:=List.getElem?_eq_getElem hi;have hy:a[j]?=some a[j]:=List.getElem?_eq_getElem hj;have h1:=b4v h hx;have h2:=b4v h hy;have hxy:a[i]=a[j]:=by omega
 rw[←hxy] at hy;have:=c9q h hx hy;omega
theorem c5q (h:TuOk s a):(a2x s a).Perm s:=by
 have h1:(a.map Int.toNat).Perm (List.range s.length):=by
  refine(List.perm_ext_iff_of_nodup (d3f h) List.nodup_range).2 fun q=>?_
  rw[List.mem_range,List.mem_map]
  constructor
  ·rintro⟨x,hx,rfl⟩;obtain⟨i,hi⟩:=List.getElem?_of_mem hx;exact(b4v h hi).2
  ·intro hq;obtain⟨i,hi⟩:=c9r h hq;exact⟨_,mG hi,by simp⟩
 have h2:=h1.map (fun j=>s.getD j 0);have e1:(a.map Int.toNat).map (fun j=>s.getD j 0)=a2x s a:=by rw[List.map_map];rfl
 have e2:(List.range s.length).map (fun j=>s.getD j 0)=s:=by
  apply List.ext_getElem?;intro i;rcases Nat.lt_or_ge i s.length with hi|hi
  ·rw[List.getElem?_map,List.getElem?_range hi];simp[List.getD_eq_getElem?_getD,List.getElem?_eq_getElem hi]
  ·rw[List.getElem?_eq_none (by simpa using hi),List.getElem?_eq_none hi]
 rwa [e1,e2] at h2
theorem c5s (h:TuOk s a)(hr:Sh.right s=true):Sh.right (a2x s a)=true∧Sh.size (a2x s a)=Sh.size s:=by
 have hp:=c5q h;have h1:=Sh.right_iff.1 hr;have e:Sh.pr (a2x s a)=Sh.pr s:=by rw[Sh.pr_pd,Sh.pr_pd,d4n hp]
 have hr2:Sh.right (a2x s a)=true:=Sh.right_iff.2 ⟨by rw[hp.length_eq];exact h1.1,fun x hx=>h1.2.1 x (hp.mem_iff.1 hx),by rw[e];exact h1.2.2⟩;exact⟨hr2,by rw[Sh.size_of hr2,Sh.size_of hr,e]⟩
def ins (l:List Int) (k:Nat) (x:Int):List Int:=l.take k++[x]++l.drop k
def skip (k n:Nat):List Int:=gen n fun j=>if j<k then(j:Int) else(j:Int)+1
end Go.Proofs.YtajhdeddgdhccaaGreatDoor
