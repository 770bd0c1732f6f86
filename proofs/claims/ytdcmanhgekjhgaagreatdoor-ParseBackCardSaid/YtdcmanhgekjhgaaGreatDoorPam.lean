import Derived.Test.YtdcmanhgekjhgaaGreatDoorPak
set_option maxRecDepth 100000
set_option maxHeartbeats 12800000
namespace Go.Proofs.YtdcmanhgekjhgaaGreatDoor
open Go.RowKit Go.Proofs.Tryz
variable {a axes d l s:List Int} {how x:Int} {k:Nat}
theorem c6j {w:World}{A:Option Addr}{n c:Nat}{l:TL}(ax:Int)(hT:Tens w A n l):
  Calls prog 86 #[.int .i64 ax,.slice A n c] w fun e w'=>(∃ u,e=.returned (.tuple #[u,.int .i64 (a9t ax l).1])∧OTen w' w.heap.size u (a9t ax l).2.1 (a9t ax l).2.2)∧Below w.heap.size w w':=by
 have hl:=hT.1;have hn6:=hT.2.1;have HTN:=Hd hT;have HLN:=Hd hl;clear hT hl;have h1:=(Sep.nil w).allocBox w.heap.size 89 [.slice none 0 0,.slice none 0 0] rfl
 go_enter func86,ntmps86
 go_upto_region 1 with fail
 generalize w.alloc (.cells #[.slice none 0 0,.slice none 0 0] 89)=W at *;have H:=Hd h1;clear h1
 go_wp2_with fail
 go_loopw [17] (fun kv wr=>∃ j:Nat,kv=.int .i64 j∧j≤n∧(∀(k:Nat) (t:List Int × List Int),k<j→l[k]?=some t→a0b t.1 t.2=true)∧Sep w wr [.box w.heap.size 89 [.slice none 0 0,.slice none 0 0]]) (fun kv _=>n-(intOf kv).toNat)
 case atStart=>exact⟨0,rfl,by omega,fun k t hk=>by omega,H⟩
 case round =>
  clear H;obtain⟨j,rfl,hj,hall,hS⟩:=hrel;have HA:=Hd hall;have H:=Hd hS;clear hall hS;by_cases hlt:j<n
  ·obtain⟨t,ht⟩:=a0h (l:=l) (k:=j) (by have:=HLN.out;omega);obtain⟨a,S,sn,sc,D,dn,dc,hA,hbl,q0,q1,hten⟩:=HTN.out.2.2 j t ht;subst hA;have HE:=Hd ht;have HQ0:=Hd q0;have HQ1:=Hd q1;have HTE:=Hd hten;clear ht q0 q1 hten;have q0:=H.oldCell (by rw[a0d];exact hbl) HQ0;have q1:=H.oC HQ1.out (by simp only[a0d];exact hbl);have C1:=a2c (H.oldTen HTE)
   go_wp2_with fail
   cases hr:a0b t.1 t.2 with
   | false =>
    rw[hr] at C1;refine C1.mono ?_;rintro e2 w2 ⟨rfl,hb2⟩;replace H:=Hd (H.below hb2);have HX:=Hd (c8r (ax:=ax) (fun hc=>by have:=hc t (mG HE);rw[hr] at this;cases this));obtain⟨r0,r1,fr0,fr1⟩:=H.b2 0;clear hb2 hr C1 q0 q1;go_wp2;rw[HX.out]
    exact sN2 H 0 13 results86
   | true =>
    rw[hr] at C1;refine C1.mono ?_;rintro e2 w2 ⟨rfl,hb2⟩;replace H:=Hd (H.below hb2);have HR:=Hd hr;clear hb2 hr C1 q0 q1;go_wp2;go_roundw
    case rel=>exact⟨j+1,by go_num,by omega,fun k u hk hu=>by
     rcases Nat.lt_or_ge k j with h' | h'
     ·exact HA k u h' hu
     ·obtain rfl:k=j:=by omega
      rw[HE.out] at hu;injection hu with hu;subst hu;exact HR,H⟩
    case measure=>simp[intOf];omega
  ·have hjn:n=j:=by omega
   subst hjn;have HAR:=Hd (show a6a l from fun t ht=>by obtain⟨i,hi⟩:=List.getElem?_of_mem ht;exact HA i t (by have:=(lL hi);have:=HLN.out;omega) hi);clear HA hlt;by_cases hn0:n=0
   ·have dz:((n:Int)==0)=true:=by simp[hn0]
    have HX:=Hd (b3e (ax:=ax) HAR (fun hc=>by obtain⟨t,ht,_⟩:=hc;have:=(lL ht);have:=HLN.out;omega));clear hn0;obtain⟨r0,r1,fr0,fr1⟩:=H.b2 0;go_wp2;rw[HX.out];exact sN2 H 0 1 results86
   have dz:((n:Int)==0)=false:=by simp;omega
   have hnp:0<n:=by omega
   clear hn0;by_cases g1:ax<0
   ·have d1:decide (ax<0)=true:=by simpa using g1
    have HX:=Hd (b3e (ax:=ax) HAR (fun hc=>by obtain⟨t,_,h0,_⟩:=hc;omega));obtain⟨r0,r1,fr0,fr1⟩:=H.b2 0;go_wp2;rw[HX.out];exact sN2 H 0 1 results86
   obtain⟨t0,ht0⟩:=a0h (l:=l) (k:=0) (by have:=HLN.out;omega);obtain⟨a,S0,sn0,sc0,D0,dn0,dc0,hA,hbl,g0,_,hten⟩:=HTN.out.2.2 0 t0 ht0;subst hA;rw[show a.add (0*2)=a by cases a;rfl] at g0;obtain⟨hI0,_⟩:=a1b hten;have hsn0:=hI0.len;have HI0:=Hd hI0;have HT0:=Hd ht0;have HG0:=Hd g0;clear ht0 g0 hten hI0;have g0:=H.oldCell hbl HG0.out;by_cases g2:(sn0:Int)≤ax
   ·have d2:decide ((sn0:Int)≤ax)=true:=by simpa using g2
    have HX:=Hd (b3e (ax:=ax) HAR (fun hc=>by obtain⟨t,ht,_,h1⟩:=hc;rw[HT0.out] at ht;injection ht with ht;subst ht;omega));obtain⟨r0,r1,fr0,fr1⟩:=H.b2 0;clear hsn0;go_wp2;rw[HX.out];exact sN2 H 0 1 results86
   obtain⟨xa,rfl⟩:=eZ (by omega:0≤ax);have hxa:xa<sn0:=by omega
   have e2:decide (sn0≤xa)=false:=by simp;omega
   have HAX:=Hd (show axOk (xa:Int) l from⟨t0,HT0,by omega,by omega⟩);have HHD:=Hd (show a9m l=t0.1 by cases hl:l with|nil=>have:=HT0.out;rw[hl] at this;simp at this|cons u r=>have:=HT0.out;rw[hl] at this;simp at this;rw[←this];rfl);have HHL:=Hd (show(a9m l).length=sn0 by rw[HHD.out];exact hsn0);have hs4:sn0≤4:=by have:=(a3c (HAR t0 (mG HT0))).1;omega
   clear hsn0 g1 g2;have H5:=Hd (H.empty 3);have g5:=H5.oldCell hbl HG0.out
   go_wp2_with (at_builtin;refine a0g rfl (.tmp 45) (.tmp 49) 25 3 rfl underlying25 Tryz.infoInt H5.out 0 rfl rfl S0 sn0 sc0 t0.1 rfl (H5.out.oldI HI0.out) ?c1 ?_)
   case c1=>omega
   intro v' w' h';obtain⟨gs,cs,hv,hO⟩:=(h'.ownS 0 rfl).own (by omega);subst hv;obtain⟨z,hz⟩:=a0h (l:=t0.1) (k:=xa) (by have:=HHL.out;rw[HHD.out] at this;omega);have hcz:=hO.cell hz;have hfz:=hO.frozen xa;have h6:=h'.store 0 xa (x:=0) ⟨by omega,by omega⟩ rfl;clear h' hO hz H H5 g0 g5
   go_upto_region 11 with fail
   generalize w'.setCell ⟨gs,xa,none⟩ (.int .i64 0)=w8 at *;clear hcz hfz;rw[←HHD.out] at h6;have H:=Hd h6;clear h6
   go_wp2_with fail
   go_loopw [56] (fun kv wr=>∃ i:Nat,kv=.int .i64 i∧i≤n∧(∀(k:Nat) (t:List Int × List Int),k<i→l[k]?=some t→c0c (a9m l) xa t.1)∧tot xa (l.take i)≤32∧Sep w wr [.own 3 (.slice (some ⟨gs,0,none⟩) sn0 cs) sn0 ((a9m l).set xa (tot xa (l.take i))),.box w.heap.size 89 [.slice none 0 0,.slice none 0 0]]) (fun kv _=>n-(intOf kv).toNat)
   case atStart=>exact⟨0,rfl,by omega,fun k t hk=>by omega,by simp[tot],H⟩
   case round =>
    clear H;obtain⟨i,rfl,hile,hall,htot,hS⟩:=hrel;have HF:=Hd hall;have H:=Hd hS;clear hall hS;by_cases hli:i<n
    ·have HBI:=Hd hbl;clear hbl;obtain⟨t,ht⟩:=a0h (l:=l) (k:=i) (by have:=HLN.out;omega);obtain⟨a,S,sn,sc,D,dn,dc,hA,hbl,q0,q1,hten⟩:=HTN.out.2.2 i t ht;injection hA with hA
     subst hA;have HE:=Hd ht;have HQ0:=Hd q0;have HQ1:=Hd q1;have HTE:=Hd hten;clear ht q0 q1 hten;have q0:=H.oldCell (by rw[a0d];exact hbl) HQ0;have q1:=H.oC HQ1.out (by simp only[a0d];exact hbl);have hsn:=(a1b HTE).1.len;by_cases hlen:sn=sn0;rotate_left
     ·have hg:((sn:Int) != (sn0:Int))=true:=by simp;omega
      have HX:=Hd (a5v HAR HAX (fun hk=>by have:=(hk.1 t (mG HE)).1;have:=HHL.out;omega));obtain⟨r0,r1,fr0,fr1⟩:=H.b2 1;clear hlen hsn;go_wp2;rw[HX.out];exact sN2 H 1 13 results86
     subst hlen;have HSN:=Hd hsn;clear hsn
     go_wp2_with fail
     go_loopw [71] (fun kv wr2=>∃ k:Nat,kv=.int .i64 k∧k≤sn∧(∀(q:Nat) (x y:Int),q<k→q≠xa→t.1[q]?=some x→(a9m l)[q]?=some y→x=y)∧∃ q,wr2=wr.drewN q) (fun kv _=>sn-(intOf kv).toNat)
     case atStart=>exact⟨0,rfl,by omega,fun q x y hq=>by omega,0,rfl⟩
     case round =>
      obtain⟨k,rfl,hk,hall,q,rfl⟩:=hrel;have HC:=Hd hall;clear hall;by_cases hlk:k<sn
      ·obtain⟨sa,x,hsA,_,hx,hcx,hfx⟩:=((a1b (H.oldTen HTE)).1).at_ (k:=k) hlk;subst hsA;obtain⟨y,hy⟩:=a0h (l:=a9m l) (k:=k) (by have:=HHL.out;omega);obtain⟨u,hu⟩:=a0h (l:=(a9m l).set xa (tot xa (l.take i))) (k:=k) (by rw[List.length_set];have:=HHL.out;omega);have hcu:=(H.own 0 rfl).cell hu;have HXY:=Hd (⟨hx,hy,hu⟩:_∧_∧_);clear hx hy hu hfx;by_cases hkx:k=xa
       ·have d1:((k:Int) != (xa:Int))=false:=by simp[hkx]
        have d2:(k != xa)=false:=by simp[hkx]
        have HKX:=Hd hkx;clear hkx
        go_wp2_with fail
        go_quiet (fail)
        go_wp2;go_roundw
        case rel=>exact⟨k+1,by go_num,by omega,fun q2 x2 y2 hq hne hx2 hy2=>by
         rcases Nat.lt_or_ge q2 k with h' | h'
         ·exact HC q2 x2 y2 h' hne hx2 hy2
         ·obtain rfl:q2=k:=by omega
          exact absurd HKX.out hne,_,rfl⟩
        case measure=>simp[intOf];omega
       have d1:((k:Int) != (xa:Int))=true:=by simp;omega
       have d2:(k != xa)=true:=by simp[hkx]
       have huy:u=y:=by have h2:=HXY.out.2.2;rw[List.getElem?_set,iN (fun e=>hkx e.symm),HXY.out.2.1] at h2;injection h2 with h2;exact h2.symm
       subst huy;have HKX:=Hd hkx;clear hkx;by_cases hxu:x=u
       ·subst hxu
        go_wp2_with fail
        go_quiet (fail)
        go_wp2;go_roundw
        case rel=>exact⟨k+1,by go_num,by omega,fun q2 x2 y2 hq hne hx2 hy2=>by
         rcases Nat.lt_or_ge q2 k with h' | h'
         ·exact HC q2 x2 y2 h' hne hx2 hy2
         ·obtain rfl:q2=k:=by omega
          rw[HXY.out.1] at hx2;rw[HXY.out.2.1] at hy2;injection hx2 with hx2;injection hy2 with hy2;exact hx2.symm.trans hy2,_,rfl⟩
        case measure=>simp[intOf];omega
       ·have d3:(x != u)=true:=by simpa using hxu
        have HX:=Hd (a5v HAR HAX (fun hk=>hxu ((hk.1 t (mG HE)).2 k x u HKX HXY.out.1 HXY.out.2.1)));obtain⟨r0,r1,fr0,fr1⟩:=H.b2 1;clear hxu
        go_wp2_with fail
        go_quiet (fail)
        go_wp2;rw[HX.out];exact sN2 (H.drewN _) 1 13 results86
      ·have hkn:sn=k:=by omega
       subst hkn;have HFI:=Hd (show c0c (a9m l) xa t.1 from⟨by have:=HHL.out;have:=HSN.out;omega,fun q x y hne hx hy=>HC.out q x y (by have:=(lL hx);have:=HSN.out;omega) hne hx hy⟩);clear HC hlk;replace H:=Hd (H.drewN q)
       go_upto_region 22 with fail
       generalize wr.drewN q=w4 at *;obtain⟨sa,x,hsA,_,hx,hcx,hfx⟩:=((a1b (H.oldTen HTE)).1).at_ (k:=xa) hxa;subst hsA;have hxb:=b1n (HAR t (mG HE)) xa;rw[gD,hx] at hxb;simp only[Option.getD_some] at hxb;have htp:=(b6x HAR xa i).1;have hcu:=(H.own 0 rfl).cell (j:=xa) (x:=tot xa (l.take i)) (by rw[List.getElem?_set,iP rfl,iP (by have:=HHL.out;omega)]);have hfu:=(H.own 0 rfl).frozen xa;have htk:=c4f HE hx;obtain⟨T1,hT1⟩:∃ z,tot xa (l.take i)=z:=⟨_,rfl⟩;rw[hT1] at hcu htp htot htk;have h8:=H.store 0 xa (x:=T1+x) ⟨by omega,by omega⟩ rfl;rw[List.set_set,show(a9m l).set xa (T1+x)=(a9m l).set xa (tot xa (l.take (i+1))) by rw[htk]] at h8;have hw:IntKind.i64.wrap (T1+x)=T1+x:=IntWalk.i64_in _ ⟨by omega,by omega⟩;have q0:=H.oldCell (by rw[a0d];exact hbl) HQ0;have HTK:=Hd htk;clear htk hT1 hx
       go_still_tail 16,(by kernel_rfl)
       change wpList _ _ _ _ _ w4.drew;have hcu1:w4.drew.cell? ⟨gs,xa,none⟩=some (.int .i64 T1):=hcu;have hfu1:w4.drew.frozen? ⟨gs,xa,none⟩=false:=hfu;have h9:=h8.drew
       go_upto_region 23 with fail
       generalize (w4.setCell ⟨gs,xa,none⟩ (.int .i64 (T1+x))).drew=w9 at *;have hc9:=(h9.own 0 rfl).cell (j:=xa) (x:=T1+x) (by rw[←HTK.out,List.getElem?_set,iP rfl,iP (by have:=HHL.out;omega)]);clear hcu hfu hcu1 hfu1 hcx q0 q1 h8 H;have H:=Hd h9;clear h9;by_cases g4:32<T1+x
       ·have d4:decide (32<T1+x)=true:=by simpa using g4
        have HX:=Hd (a5v HAR HAX (d6o (ax:=xa) HAR (by have:=HHL.out;omega) (i:=i+1) (by rw[HTK.out];omega)));obtain⟨r0,r1,fr0,fr1⟩:=H.b2 1;go_wp2;rw[HX.out];exact sN2 H 1 13 results86
       have d4:decide (32<T1+x)=false:=by simpa using g4
       go_wp2;go_roundw
       case rel=>exact⟨i+1,by go_num,by omega,fun k u hk hu=>by
        rcases Nat.lt_or_ge k i with h' | h'
        ·exact HF k u h' hu
        ·obtain rfl:k=i:=by omega
         rw[HE.out] at hu;injection hu with hu;subst hu;exact HFI,by rw[HTK.out];omega,H⟩
       case measure=>simp[intOf];omega
    ·have hin:n=i:=by omega
     subst hin;have HFA:=Hd (show ∀ t∈l,c0c (a9m l) xa t.1 from fun t ht=>by obtain⟨k,hk⟩:=List.getElem?_of_mem ht;exact HF k t (by have:=(lL hk);have:=HLN.out;omega) hk);replace H:=Hd (by have h:=H.out;rwa [show(a9m l).set xa (tot xa (l.take n))=a5h xa l by rw[a5h,List.take_of_length_le (by have:=HLN.out;omega)]] at h);clear HF hli htot;have HBI:=Hd hbl;have C2:=a0r (c:=cs) ((H.ownInts 0 rfl).2.2)
     go_wp2_with fail
     cases ho:Sh.right (a5h xa l) with
     | false =>
      rw[ho] at C2;refine C2.mono ?_;rintro e3 w3 ⟨rfl,rfl⟩;have HX:=Hd (a5v HAR HAX (fun hk=>by have:=hk.2;rw[show((xa:Int)).toNat=xa from rfl,ho] at this;cases this));obtain⟨r0,r1,fr0,fr1⟩:=H.b2 1;clear ho C2;go_wp2;rw[HX.out]
      exact sN2 H 1 13 results86
     | true =>
      rw[ho] at C2;refine C2.mono ?_;rintro e3 w3 ⟨rfl,rfl⟩;have HRO:=Hd ho;have HOK:=Hd (show c0v xa l from⟨HFA,ho⟩);clear ho C2
      go_wp2_with fail
      refine(a1t 0 ((H.ownInts 0 rfl).2.2) (by omega) ⟨by omega,by omega⟩).mono ?_;rintro e4 w4 ⟨⟨u,rfl,hu⟩,hb4⟩;obtain⟨S1,ns,scO,D1,N,dcO,rfl,hs1,hd1,hsc,hdc,hNle,h5⟩:=H.addTen hb4 hu;rw[List.length_replicate] at hd1;rw[hd1] at h5;have HN:=Hd hd1;have HQ:=Hd (d0u HAR HAX HOK);have h6:=h5.allocBox w4.heap.size 89 [.slice S1 ns scO,.slice D1 N dcO] rfl;clear hu hb4 h5 hd1 hs1
      go_upto_region 29 with fail
      generalize w4.alloc (.cells #[.slice S1 ns scO,.slice D1 N dcO] 89)=w5 at *;generalize w4.heap.size=gt at *;replace H:=Hd h6;clear h6
      go_wp2_with fail
      go_loopw [125,11] (fun kv av wr=>∃ i:Nat,kv=.int .i64 i∧i≤n∧av=.int .i64 (tot xa (l.take i))∧Sep w wr [.box gt 89 [.slice S1 ns scO,.slice D1 N dcO],.own 3 (.slice S1 ns scO) ns (a5h xa l),.own 2 (.slice D1 N dcO) N (a7p xa l i),.own 3 (.slice (some ⟨gs,0,none⟩) sn0 cs) sn0 (a5h xa l),.box w.heap.size 89 [.slice none 0 0,.slice none 0 0]]) (fun kv _ _=>n-(intOf kv).toNat)
      case atStart=>exact⟨0,rfl,by omega,by simp[tot],by rw[b7u,HN.out];exact H⟩
      case round =>
       clear H;obtain⟨i,rfl,hile,rfl,hS⟩:=hrel;have H:=Hd hS;clear hS;by_cases hli:i<n
       ·clear hbl;obtain⟨t,ht⟩:=a0h (l:=l) (k:=i) (by have:=HLN.out;omega);obtain⟨a,S,sn,sc,D,dn,dc,hA,hbl,q0,q1,hten⟩:=HTN.out.2.2 i t ht;injection hA with hA
        subst hA;have HE:=Hd ht;have HQ0:=Hd q0;have HQ1:=Hd q1;have HTE:=Hd hten;clear ht q0 q1 hten;have q0:=H.oldCell (by rw[a0d];exact hbl) HQ0;have q1:=H.oC HQ1.out (by simp only[a0d];exact hbl);have HDN:=Hd (a1b HTE).2.len;have HSN:=Hd (a1b HTE).1.len;have hdn:=(a1b HTE).2.le;have HTR:=Hd (HAR t (mG HE));have HFI:=Hd (HFA t (mG HE));obtain⟨T1,hT1⟩:∃ z,tot xa (l.take i)=z:=⟨_,rfl⟩;have htb:=b6x HAR xa i;have hsx:tot xa l≤32:=(((Sh.right_iff.1 HRO).2.1) (tot xa l) (by rw[a5h];exact List.mem_set (by have:=HHL.out;omega) _)).2;rw[hT1] at htb;have HT1:=Hd hT1;rw[show Value.int .i64 (tot xa (l.take i))=Value.int .i64 T1 by rw[hT1]];clear hT1
        go_wp2_with fail
        go_loopw [134] (fun kv wr=>∃ k:Nat,kv=.int .i64 k∧k≤dn∧Sep w wr [.box gt 89 [.slice S1 ns scO,.slice D1 N dcO],.own 3 (.slice S1 ns scO) ns (a5h xa l),.own 2 (.slice D1 N dcO) N (scat (a7p xa l i) t.2 (b7t (a5h xa l) xa t.1 T1) k),.own 3 (.slice (some ⟨gs,0,none⟩) sn0 cs) sn0 (a5h xa l),.box w.heap.size 89 [.slice none 0 0,.slice none 0 0]]) (fun kv _=>dn-(intOf kv).toNat)
        case atStart=>exact⟨0,rfl,by omega,H⟩
        case round =>
         clear H q0 q1;obtain⟨k,rfl,hk,hS⟩:=hrel;have H:=Hd hS;clear hS;by_cases hlk:k<dn
         ·have hkz:(k:Int)<Sh.size t.1:=by have:=a2i HTR;have:=HDN.out;omega
          have q0:=H.oldCell (by rw[a0d];exact hbl) HQ0;have q1:=H.oC HQ1.out (by simp only[a0d];exact hbl)
          go_wp2_with fail
          refine(a3l k ((a1b (H.oldTen HTE)).1) ⟨by omega,by omega⟩).mono ?_;rintro e6 w6 ⟨⟨v,n6,rfl,hO⟩,hb6⟩;have hwi:=c8t HAR HOK (by have:=HHL.out;omega) HE hkz;rw[HT1.out] at hwi;obtain⟨_,hpl,hpw,_⟩:=a1q hkz;have hp6:n6=sn0:=by have:=hO.len;have:=HFI.out.1;have:=HHL.out;omega
          obtain⟨gp,cp,hv,hOp⟩:=hO.own (by omega);subst hv;obtain⟨P,hP⟩:∃ P,Sh.placeOf t.1 k=P:=⟨_,rfl⟩;rw[hP] at hO hOp hpl hpw hwi;have HP:=Hd hP;have h7:=H.addOwn hb6 hO;obtain⟨x,hx⟩:=a0h (l:=P) (k:=xa) (by have:=HFI.out.1;have:=HHL.out;omega);obtain⟨y,hy⟩:=a0h (l:=t.1) (k:=xa) (by have:=HFI.out.1;have:=HHL.out;omega);have hxy:=Sh.within_at hpw hy hx;have hyb:=b1n HTR xa;rw[gD,hy] at hyb;simp only[Option.getD_some] at hyb;have hcx:=hOp.cell hx;have hfx:=hOp.frozen xa;have h8:=h7.store 0 xa (x:=x+T1) ⟨by omega,by omega⟩ rfl;have hw:IntKind.i64.wrap (x+T1)=x+T1:=IntWalk.i64_in _ ⟨by omega,by omega⟩;rw[show P.set xa (x+T1)=c2k P xa T1 by rw[c2k,gD,hx];rfl] at h8;clear q0 q1 H h7 hO hOp hb6 hpl hpw hx hy hP hxy hyb
          go_upto_region 38 with fail
          generalize w6.setCell ⟨gp,xa,none⟩ (.int .i64 (x+T1))=w7 at *;clear hcx hfx;have H:=Hd h8;clear h8;subst hp6;have hix:=b6j HRO hwi.1 hwi.2;obtain⟨K,hK⟩:=eZ hix.1;have hKN:K < N:=by have:=HN.out;omega
          obtain⟨gb,cb,hv,hO⟩:=(H.ownS 3 rfl).own (by omega);injection hv with hv1 _ hv3
          subst hv1;subst hv3;obtain⟨o0,o1⟩:=H.z2 1 rfl;have q0:=H.oldCell (by rw[a0d];exact hbl) HQ0;have q1:=H.oC HQ1.out (by simp only[a0d];exact hbl);obtain⟨bd,X,hBA,hbd,hX,_,hfX⟩:=((a1b HTE).2).at_ (k:=k) hlk;subst hBA;have HDX:=Hd hX;have hcX:=((a1b (H.oldTen HTE)).2).get hX;obtain⟨z,hz⟩:=a0h (l:=scat (a7p xa l i) t.2 (b7t (a5h xa l) xa t.1 T1) k) (k:=K) (by rw[b2q,c3a];have:=HN.out;omega);have HZ:=Hd hz;have HFX:=Hd hfX;have HST:=Hd (c6v (o:=a7p xa l i) (ix:=(b7t (a5h xa l) xa t.1 T1)) hX);have HK:=Hd (show(b7t (a5h xa l) xa t.1 T1) k=K by rw[b7t,HP.out,hK];rfl);have C1:Calls prog 115 #[.slice (some ⟨gs,0,none⟩) n6 cs,.slice (some ⟨gp,0,none⟩) n6 cp] w7.drew fun e w'=>e=.returned (.int .i64 K)∧Below w7.drew.heap.size w7.drew w':=by rw[←hK];exact(a7t ((H.drew.ownInts 4 rfl).2.2) ((H.drew.ownInts 0 rfl).2.2)).mono fun _ _ ⟨e,k,h⟩=>⟨e,by rw[h];exact a1h (Below.refl _ _) k⟩
          have HC:=Hd C1;clear hO hwi hix hK C1 o0 q0 hX hz hfX
          go_region_held3 (fun w'=>w'.cell? ⟨gt,1,none⟩=some (.slice (some ⟨gb,0,none⟩) N dcO)∧w'.cell? ⟨(a.add (i*2)).block,(a.add (i*2)).off+1,none⟩=some (.slice (some bd) dn dc)∧w'.cell? (bd.add k)=some (.int .i64 X)) (go_keep)
           (first|(go_at_call 115;refine HC.mono ?_;rintro e7 w8 ⟨rfl,hb7⟩;have H7:=Hd (H.drew.below hb7);have m0:=H7.c 1 1;have m1:=H7.oC HQ1.out (by simp only[a0d];exact hbl);have m2:=((a1b (H7.oldTen HTE)).2).get HDX;have hcs:=(H7.own 3 rfl).cell HZ;have hfs:=(H7.own 3 rfl).frozen K;have HS7:=Hd (H7.store 3 K HFX rfl);have k0:=HS7.c 1 1;have k1:=HS7.oC HQ1.out (by simp only[a0d];exact hbl);have k2:=((a1b (HS7.oldTen HTE)).2).get HDX))
          clear o1 q1 m0 m1 m2 k0 k1 k2 hcs hfs hcX;go_wp2;go_roundw
          case rel=>exact⟨k+1,by go_num,by omega,by rw[←HST.out,HK.out];exact HS7.sub [1,2,3,4,5] rfl (by decide)⟩
          case measure=>simp[intOf];omega
         ·have hkn:dn=k:=by omega
          subst hkn;obtain⟨sa,y,hsA,_,hy,_,_⟩:=((a1b (H.oldTen HTE)).1).at_ (k:=xa) (by have:=HFI.out.1;have:=HHL.out;have:=HSN.out;omega);subst hsA;have hcy:=((a1b (H.oldTen HTE)).1).get hy;have hyb:=b1n HTR xa;rw[gD,hy] at hyb;simp only[Option.getD_some] at hyb;have htk:=c4f HE hy;rw[HT1.out] at htk;have HTK:=Hd htk;have hw:IntKind.i64.wrap (T1+y)=T1+y:=IntWalk.i64_in _ ⟨by omega,by omega⟩;have hxs:xa<sn:=by have:=HFI.out.1;have:=HHL.out;have:=HSN.out;omega
          have q0:=H.oldCell (by rw[a0d];exact hbl) HQ0;clear hy hyb htk;go_wp2;go_roundw
          case rel=>exact⟨i+1,by go_num,by omega,by rw[HTK.out],by rw[c8s HE.out,HT1.out,HDN.out];exact H⟩
          case measure=>simp[intOf];omega
       ·have hin:n=i:=by omega
        subst hin;have HQ2:=Hd (show a9t (xa:Int) l=(0,a5h xa l,a7p xa l n) by rw[HQ.out,HLN.out];rfl);obtain⟨o0,o1⟩:=H.z2 0 rfl;obtain⟨r0,r1,fr0,fr1⟩:=H.b2 4;go_wp2;rw[HQ2.out];exact sY2 ((H.setBox 4 0 (.slice S1 ns scO) rfl).setBox 4 1 (.slice D1 N dcO) rfl) 4 1 2 (.int .i64 0) results86
theorem d1q (h:∀ x∈s,1≤x):0<Sh.pd s:=by
 induction s with
 | nil=>simp[Sh.pd]
 | cons e t ih =>
  rw[Sh.pd];exact Int.mul_pos (by have:=h e (by simp);omega) (ih fun x hx=>h x (by simp[hx]))
theorem b9o {j:Nat}(h:l[j]?=some x):l.set j x=l:=by
 apply List.ext_getElem?;intro i;rw[List.getElem?_set];by_cases hi:j=i
 ·subst hi;rw[iP rfl,h,iP (lL h)]
 ·rw[iN hi]
theorem d3u {ax:Nat}{y:Int}(hr:Sh.right s=true)(hx:s[ax]?=some x)(h0:0≤y)(hy:y≤x):Sh.right (s.set ax y)=true:=by
 have h:=Sh.right_iff.1 hr;refine Sh.right_iff.2 ⟨by simpa using h.1,fun z hz=>?_,?_⟩
 ·rcases List.mem_or_eq_of_mem_set hz with hz|rfl
  ·exact h.2.1 z hz
  ·have:=h.2.1 x (mG hx);omega
 ·have key:∀(l:List Int) (k:Nat),(∀ z∈l,0≤z∧z≤32)→l[k]?=some x→Sh.pd (l.set k y)≤Sh.pd l:=by
   intro l
   induction l with
   | nil=>intro k _ hk;simp at hk
   | cons e t ih =>
    intro k hd hk;have ht:=Sh.pd_nonneg (s:=t) fun z hz=>hd z (by simp[hz])
    cases k with
    | zero =>
     simp at hk;subst hk;rw[List.set_cons_zero,Sh.pd,Sh.pd]
     exact Int.mul_le_mul_of_nonneg_right hy ht
    | succ k =>
     rw[List.set_cons_succ,Sh.pd,Sh.pd];exact Int.mul_le_mul_of_nonneg_left (ih k (fun z hz=>hd z (by simp[hz])) (by simpa using hk)) (hd e (by simp)).1
  have:=key s ax h.2.1 hx;rw[Sh.pr_pd];have h3:=h.2.2;rw[Sh.pr_pd] at h3;omega
theorem e5i {l':List Int}(h:l.Perm l'):Sh.pd l=Sh.pd l':=by
 induction h with
 | nil=>rfl
 | cons x _ ih=>rw[Sh.pd,Sh.pd,ih]
 | swap x y l=>rw[Sh.pd,Sh.pd,Sh.pd,Sh.pd,←Int.mul_assoc,←Int.mul_assoc,Int.mul_comm x y]
 | trans _ _ h1 h2=>exact h1.trans h2
theorem e3m (h:TuOk s a):(a.map Int.toNat).Nodup:=by
 show List.Pairwise (· ≠ ·) _
 rw[List.pairwise_iff_getElem];intro i j hi hj hij;simp only[List.length_map] at hi hj;simp only[List.getElem_map];intro e;have hx:a[i]?=some a[i]:=List.getElem?_eq_getElem hi;have hy:a[j]?=some a[j]:=List.getElem?_eq_getElem hj;have h1:=b9u h hx;have h2:=b9u h hy;have hxy:a[i]=a[j]:=by omega
 rw[←hxy] at hy;have:=d9i h hx hy;omega
theorem d4k (h:TuOk s a):(a3u s a).Perm s:=by
 have h1:(a.map Int.toNat).Perm (List.range s.length):=by
  refine(List.perm_ext_iff_of_nodup (e3m h) List.nodup_range).2 fun q=>?_
  rw[List.mem_range,List.mem_map]
  constructor
  ·rintro⟨x,hx,rfl⟩;obtain⟨i,hi⟩:=List.getElem?_of_mem hx;exact(b9u h hi).2
  ·intro hq;obtain⟨i,hi⟩:=d9j h hq;exact⟨_,mG hi,by simp⟩
 have h2:=h1.map (fun j=>s.getD j 0);have e1:(a.map Int.toNat).map (fun j=>s.getD j 0)=a3u s a:=by rw[List.map_map];rfl
 have e2:(List.range s.length).map (fun j=>s.getD j 0)=s:=by
  apply List.ext_getElem?;intro i;rcases Nat.lt_or_ge i s.length with hi|hi
  ·rw[List.getElem?_map,List.getElem?_range hi];simp[List.getD_eq_getElem?_getD,List.getElem?_eq_getElem hi]
  ·rw[List.getElem?_eq_none (by simpa using hi),List.getElem?_eq_none hi]
 rwa [e1,e2] at h2
theorem d4m (h:TuOk s a)(hr:Sh.right s=true):Sh.right (a3u s a)=true∧Sh.size (a3u s a)=Sh.size s:=by
 have hp:=d4k h;have h1:=Sh.right_iff.1 hr;have e:Sh.pr (a3u s a)=Sh.pr s:=by rw[Sh.pr_pd,Sh.pr_pd,e5i hp]
 have hr2:Sh.right (a3u s a)=true:=Sh.right_iff.2 ⟨by rw[hp.length_eq];exact h1.1,fun x hx=>h1.2.1 x (hp.mem_iff.1 hx),by rw[e];exact h1.2.2⟩;exact⟨hr2,by rw[Sh.size_of hr2,Sh.size_of hr,e]⟩
def ins (l:List Int) (k:Nat) (x:Int):List Int:=l.take k++[x]++l.drop k
def skip (k n:Nat):List Int:=gen n fun j=>if j<k then(j:Int) else(j:Int)+1
def a5g (how:Int):Bool:=decide (1≤how)&&decide (how≤4)
def a9o (how:Int):Int:=if how=2 then 1 else if how=3 then 9223372036854775807 else if how=4 then -9223372036854775808 else 0
def putF (how a b:Int):Int:=if how=1 then wrap64 (a+b) else if how=2 then wrap64 (a*b) else if how=3 then(if b<a then b else a) else if how=4 then(if b > a then b else a) else 0
theorem b1h (how:Int):Fits (a9o how):=by unfold a9o;unfold Fits;split;omega;split;omega;split <;> omega
theorem b3l (how:Int){a b:Int}(ha:Fits a)(hb:Fits b):Fits (putF how a b):=by
 have h0:Fits 0:=⟨by omega,by omega⟩;unfold putF
 repeat' split
 all_goals first|exact a2h _|assumption
def a4k (axes:List Int):Nat→List Int→List Int
 | _,[]=>[]
 | k,x::xs=>if (k:Int)∈axes then a4k axes (k+1) xs else x::a4k axes (k+1) xs
def rest (axes xs:List Int):List Int:=a4k axes 0 xs
theorem b3o (axes:List Int):∀(xs ys:List Int) (k:Nat),a4k axes k (xs++ys)=a4k axes k xs++a4k axes (k+xs.length) ys
 | [],ys,k=>by simp[a4k]
 | x::xs,ys,k=>by
  rw[List.cons_append,a4k,a4k,b3o axes xs ys (k+1),List.length_cons,show k+1+xs.length=k+(xs.length+1) by omega]
  split <;> rfl
theorem b9d {xs:List Int}(h:xs[k]?=some x):rest axes (xs.take (k+1))=rest axes (xs.take k)++(if (k:Int)∈axes then [] else [x]):=by
 have hk:(xs.take k).length=k:=by have:=(lL h);simp;omega
 rw[rest,List.take_add_one,h,b3o,hk,rest]
 congr 1
 simp[a4k]
theorem a4t (axes:List Int):∀(xs:List Int) (k:Nat),(a4k axes k xs).length≤xs.length
 | [],k=>by simp[a4k]
 | x::xs,k=>by
  rw[a4k];have:=a4t axes xs (k+1)
  split <;> simp <;> omega
theorem b9c (axes:List Int):∀(xs ys:List Int) (k:Nat),xs.length=ys.length→(a4k axes k xs).length=(a4k axes k ys).length
 | [],[],k,_=>rfl
 | [],_::_,_,h=>by simp at h
 | _::_,[],_,h=>by simp at h
 | x::xs,y::ys,k,h=>by
  rw[a4k,a4k];have:=b9c axes xs ys (k+1) (by simpa using h)
  split <;> simp[this]
theorem b9e (axes:List Int):∀(s p:List Int) (k:Nat),s.length=p.length→Sh.within s p=true→Sh.within (a4k axes k s) (a4k axes k p)=true
 | [],[],k,_,_=>by simp[a4k,Sh.within]
 | [],_::_,_,h,_=>by simp at h
 | _::_,[],_,h,_=>by simp at h
 | x::s,y::p,k,hl,hw=>by
  rw[Sh.within_iff] at hw;have ih:=b9e axes s p (k+1) (by simpa using hl) (by rw[Sh.within_iff];exact fun z hz=>hw z (by simp[hz]));rw[a4k,a4k]
  split
  ·exact ih
  ·rw[Sh.within_iff] at ih ⊢;intro z hz;rw[List.zip_cons_cons,List.mem_cons] at hz;rcases hz with rfl|hz
   ·exact hw (x,y) (by simp)
   ·exact ih z hz
def c2j (a:List Int) (r k:Nat):Prop:=∀ x,a[k]?=some x→0≤x∧x<r∧∀ z,0<k→a[k-1]?=some z→z<x
def a8v (a:List Int) (r:Nat):Prop:=∀ k,c2j a r k
def b7g (s axes:List Int) (i:Nat):Nat:=(Sh.index (rest axes s) (rest axes (Sh.placeOf s i))).toNat
def b4i (how:Int) (s axes o:List Int) (i:Nat) (x:Int):List Int:=o.set (b7g s axes i) (putF how (o.getD (b7g s axes i) 0) x)
def a5k (how:Int) (s d axes:List Int) (k:Nat):List Int:=(List.range k).foldl (fun o i=>b4i how s axes o i (d.getD i 0)) (List.replicate (Sh.size (rest axes s)).toNat (a9o how))
theorem b2h (how:Int)(s d axes:List Int):a5k how s d axes 0=List.replicate (Sh.size (rest axes s)).toNat (a9o how):=rfl
theorem c8f (h:d[k]?=some x):a5k how s d axes (k+1)=b4i how s axes (a5k how s d axes k) k x:=by
 rw[a5k,a5k,List.range_succ,List.foldl_append];simp[List.getD_eq_getElem?_getD,h]
theorem c2v (how:Int)(s d axes:List Int)(k:Nat):(a5k how s d axes k).length=(Sh.size (rest axes s)).toNat:=by
 induction k with
 | zero=>rw[b2h,List.length_replicate]
 | succ k ih =>
  rw[a5k,List.range_succ,List.foldl_append];simp only[List.foldl_cons,List.foldl_nil,b4i,List.length_set];exact ih
def e4w (how:Int) (s d axes:List Int):List Int:=a5k how s d axes d.length
open Classical in
noncomputable def a8w (how:Int) (s d axes:List Int):Int × List Int × List Int :=
 if a5g how then(if a0b s d then(if a8v axes s.length then(if Sh.right (rest axes s) then(0,rest axes s,e4w how s d axes) else refused 13) else refused 1) else refused 13) else refused 1
theorem c5d (h:a5g how=false):a8w how s d axes=refused 1:=by rw[a8w,h];rfl
theorem c8e (h:a5g how=true)(g:a0b s d=false):a8w how s d axes=refused 13:=by rw[a8w,iP h,g];rfl
theorem c5c (h:a5g how=true)(g:a0b s d=true)(f:¬ a8v axes s.length):a8w how s d axes=refused 1:=by rw[a8w,iP h,iP g,iN f]
theorem b5i (h:a5g how=true)(g:a0b s d=true)(f:a8v axes s.length)(e:Sh.right (rest axes s)=false):a8w how s d axes=refused 13:=by rw[a8w,iP h,iP g,iP f,e];rfl
theorem d0s (h:a5g how=true)(g:a0b s d=true)(f:a8v axes s.length)(e:Sh.right (rest axes s)=true):a8w how s d axes=(0,rest axes s,e4w how s d axes):=by rw[a8w,iP h,iP g,iP f,iP e]
theorem c8h (hr:Sh.right (rest axes s)=true){i:Nat}(hi:(i:Int)<Sh.size s):(rest axes (Sh.placeOf s i)).length=(rest axes s).length∧Sh.within (rest axes s) (rest axes (Sh.placeOf s i))=true∧(b7g s axes i:Int)=Sh.index (rest axes s) (rest axes (Sh.placeOf s i))∧b7g s axes i<(Sh.size (rest axes s)).toNat:=by
 obtain⟨_,hl,hw,_⟩:=a1q hi;have h1:(rest axes (Sh.placeOf s i)).length=(rest axes s).length:=b9c axes _ _ 0 hl;have h2:=b9e axes s (Sh.placeOf s i) 0 hl.symm hw;have h3:=b6j hr h1 h2;exact⟨h1,h2,by rw[b7g];omega,by rw[b7g];omega⟩
theorem b7l (h:∀ x∈l,Fits x)(k:Nat):Fits (l.getD k 0):=by
 rw[gD]
 cases e:l[k]? with
 | none=>exact⟨by simp,by simp⟩
 | some y=>exact h y (mG e)
theorem c8g (how:Int)(s d axes:List Int)(k:Nat):a5k how s d axes (k+1)=b4i how s axes (a5k how s d axes k) k (d.getD k 0):=by
 rw[a5k,a5k,List.range_succ,List.foldl_append];rfl
theorem b7h {how:Int}{s d axes:List Int}(hd:∀ x∈d,Fits x):∀ k,∀ x∈a5k how s d axes k,Fits x
 | 0,x,hx=>by
  rw[b2h] at hx;rw[List.eq_of_mem_replicate hx]
  exact b1h how
 | k+1,x,hx=>by
  rw[c8g,b4i] at hx;have ih:=b7h (how:=how) (s:=s) (axes:=axes) hd k;rcases List.mem_or_eq_of_mem_set hx with hx|rfl
  ·exact ih x hx
  ·exact b3l how (b7l ih _) (b7l hd _)
end Go.Proofs.YtdcmanhgekjhgaaGreatDoor
