import Derived.Test.YtjblengklgkgfaaGreatPbl
set_option maxRecDepth 100000
set_option maxHeartbeats 12800000
namespace Go.Proofs.YtjblengklgkgfaaGreat
open Go.RowKit Go.Proofs.Tryz
variable {c n:Nat} {l:TL}
theorem c1m {ax:Nat}:∀ {l:TL},a1k l→tot ax l≤32*l.length
 | [],_=>by simp[tot]
 | t::l,h=>by
  have h1:=c1m (ax:=ax) (l:=l) fun u hu=>h u (by simp[hu])
  have h2:=a6i (h t (by simp)) ax
  have h3:∀(l:TL) (a:Int),l.foldl (fun a t=>a+t.1.getD ax 0) a=a+tot ax l:=by
   intro l
   induction l with
   | nil=>intro a;simp[tot]
   | cons u l ih=>intro a;rw[tot,List.foldl_cons,List.foldl_cons,ih,ih (0+_)];omega
  have e:tot ax (t::l)=t.1.getD ax 0+tot ax l:=by rw[tot,List.foldl_cons,h3];omega
  rw[e,List.length_cons];omega
theorem d9u (h:a1k l)(ax i:Nat):0≤tot ax (l.take i)∧tot ax (l.take i)≤32*l.length:=by
 have h1:=b2v h ax i;have h2:=c1m (ax:=ax) h;omega
theorem d2q {s t:List Int}{ax:Nat}{x:Int}:But (ax:Int) (s.set ax x) t↔b3a s ax t:=by
 constructor
 ·rintro⟨h1,h2⟩;refine⟨by simpa using h1.symm,fun k a b hne ha hb=>?_⟩;have:=h2 k b a (by omega) (by rw[List.getElem?_set,iN (Ne.symm hne)];exact hb) ha;exact this.symm
 ·rintro⟨h1,h2⟩;refine⟨by simpa using h1.symm,fun k a b hne ha hb=>?_⟩;have hne' : k≠ax:=fun e=>hne (by rw[e])
  rw[List.getElem?_set,iN (Ne.symm hne')] at ha;exact(h2 k b a hne' hb ha).symm
theorem c5q {a:Addr}(h1:1≤n)(hnc:n≤c):∃ A2:Option Addr,(∀ w,(Instr.slice 28 (.slice (some a) n c) (some (.int .i64 1)) none none).run prog w=.ok (.slice A2 (n-1) (c-1)) w)∧(1<n→A2=some (a.add 2)):=by
 have hu:prog.underlying 28=some (.slice 33):=by kernel_rfl
 by_cases hc:c=1
 ·refine⟨some a,fun w=>?_,fun h=>by omega⟩
  go_simp
  intro h;omega
 ·refine⟨some (a.add 2),fun w=>?_,fun h=>rfl⟩
  go_simp
  intro h;omega
theorem d1k {w:World}{A:Option Addr}(ax:Int)(hT:Tens w A n l)(hnc:n≤c):
  Calls prog 69 #[.int .i64 ax,.slice A n c] w fun e w'=>(∃ u,e=.returned (.tuple #[u,.int .i64 (a6r ax l).1])∧OTen w' w.heap.size u (a6r ax l).2.1 (a6r ax l).2.2)∧Below w.heap.size w w':=by
 have hl:=hT.1;have hn6:=hT.2.1;have HTN:=Hd hT;have HLN:=Hd hl;clear hT hl;have h1:=(Sep.nil w).allocBox w.heap.size 33 [.slice none 0 0,.slice none 0 0] rfl
 go_enter func69,ntmps69
 go_upto_region 1 with fail
 generalize w.alloc (.cells #[.slice none 0 0,.slice none 0 0] 33)=W at *;have H:=Hd h1;clear h1
 go_wp2_with fail
 go_loopw [18] (fun kv wr=>∃ j:Nat,kv=.int .i64 j∧j≤n∧(∀(k:Nat) (t:List Int × List Int),k<j→l[k]?=some t→a0a t.1 t.2=true)∧Sep w wr [.box w.heap.size 33 [.slice none 0 0,.slice none 0 0]]) (fun kv _=>n-(intOf kv).toNat)
 case atStart=>exact⟨0,rfl,by omega,fun k t hk=>by omega,H⟩
 case round =>
  clear H;obtain⟨j,rfl,hj,hall,hS⟩:=hrel;have HA:=Hd hall;have H:=Hd hS;clear hall hS;by_cases hlt:j<n
  ·obtain⟨t,ht⟩:=a0f (l:=l) (k:=j) (by have:=HLN.out;omega);obtain⟨a,S,sn,sc,D,dn,dc,hA,hbl,q0,q1,hten⟩:=HTN.out.2.2 (j) t ht;subst hA;have HE:=Hd ht;have HQ0:=Hd q0;have HQ1:=Hd q1;have HTE:=Hd hten;clear ht q0 q1 hten;have q0:=H.oldCell (by rw[a0g];exact hbl) HQ0;have q1:=H.oC HQ1.out (by simp only[a0g];exact hbl);have hB:=H.allocBox wr.heap.size 33 [.slice S sn sc,.slice D dn dc] rfl
   go_upto_region 4 with fail
   generalize wr.alloc (.cells #[.slice S sn sc,.slice D dn dc] 33)=wb at *;replace H:=Hd hB;clear hB q0 q1;obtain⟨b0,b1⟩:=H.z2 0 rfl;have C1:=a2q (H.oldTen HTE)
   go_wp2_with fail
   cases hr:a0a t.1 t.2 with
   | false =>
    rw[hr] at C1;refine C1.mono ?_;rintro e2 w2 ⟨rfl,hb2⟩;replace H:=Hd (H.below hb2);have HX:=Hd (b7e (ax:=ax) (fun hc=>by have:=hc t (mG HE);rw[hr] at this;cases this));obtain⟨r0,r1,fr0,fr1⟩:=H.b2 1;clear hb2 hr C1 b0 b1;go_wp2;rw[HX.out]
    exact sN2 H 1 13 results69
   | true =>
    rw[hr] at C1;refine C1.mono ?_;rintro e2 w2 ⟨rfl,hb2⟩;replace H:=Hd (H.below hb2).tail_;have HR:=Hd hr;clear hb2 hr C1 b0 b1;go_wp2;go_roundw
    case rel=>exact⟨j+1,by go_num,by omega,fun k u hk hu=>by
     rcases Nat.lt_or_ge k j with h' | h'
     ·exact HA k u h' hu
     ·obtain rfl:k=j:=by omega
      rw[HE.out] at hu;injection hu with hu;subst hu;exact HR,H⟩
    case measure=>simp[intOf];omega
  ·have hjn:n=j:=by omega
   subst hjn;have HAR:=Hd (show a1k l from fun t ht=>by obtain⟨i,hi⟩:=List.getElem?_of_mem ht;exact HA i t (by have:=(lL hi);have:=HLN.out;omega) hi);clear HA hlt;by_cases hn0:n=0
   ·have dz:((n:Int)==0)=true:=by simp[hn0]
    have HX:=Hd (a5t (ax:=ax) HAR (fun hc=>by obtain⟨t,ht,_⟩:=hc;have:=(lL ht);have:=HLN.out;omega));clear hn0;obtain⟨r0,r1,fr0,fr1⟩:=H.b2 0;go_wp2;rw[HX.out];exact sN2 H 0 1 results69
   have dz:((n:Int)==0)=false:=by simp;omega
   have hnp:0<n:=by omega
   clear hn0;by_cases g1:ax<0
   ·have d1:decide (ax<0)=true:=by simpa using g1
    have HX:=Hd (a5t (ax:=ax) HAR (fun hc=>by obtain⟨t,_,h0,_⟩:=hc;omega));obtain⟨r0,r1,fr0,fr1⟩:=H.b2 0;go_wp2;rw[HX.out];exact sN2 H 0 1 results69
   obtain⟨t0,ht0⟩:=a0f (l:=l) (k:=0) (by have:=HLN.out;omega);obtain⟨a,S0,sn0,sc0,D0,dn0,dc0,hA,hbl,g0,_,hten⟩:=HTN.out.2.2 0 t0 ht0;subst hA;rw[show a.add (0*2)=a by cases a;rfl] at g0;obtain⟨hI0,_⟩:=a0u hten;have hsn0:=hI0.len;have HI0:=Hd hI0;have HT0:=Hd ht0;have HG0:=Hd g0;clear ht0 g0 hten hI0;have g0:=H.oldCell hbl HG0.out;by_cases g2:(sn0:Int)≤ax
   ·have d2:decide ((sn0:Int)≤ax)=true:=by simpa using g2
    have HX:=Hd (a5t (ax:=ax) HAR (fun hc=>by obtain⟨t,ht,_,h1⟩:=hc;rw[HT0.out] at ht;injection ht with ht;subst ht;omega));obtain⟨r0,r1,fr0,fr1⟩:=H.b2 0;clear hsn0;go_wp2;rw[HX.out];exact sN2 H 0 1 results69
   obtain⟨xa,rfl⟩:=eZ (by omega:0≤ax);have hxa:xa<sn0:=by omega
   have e2:decide (sn0≤xa)=false:=by simp;omega
   have HAX:=Hd (show axOk (xa:Int) l from⟨t0,HT0,by omega,by omega⟩);have HHD:=Hd (show a5d l=t0.1 by cases hl:l with|nil=>have:=HT0.out;rw[hl] at this;simp at this|cons u r=>have:=HT0.out;rw[hl] at this;simp at this;rw[←this];rfl);have HHL:=Hd (show(a5d l).length=sn0 by rw[HHD.out];exact hsn0);have hs4:sn0≤4:=by have:=(a1f (HAR t0 (mG HT0))).1;omega
   clear hsn0 g1 g2;have hm:=a0t underlying22 Tryz.infoInt (n:=sn0) (by omega);have h3:=H.noughts 3 sn0 (by omega)
   go_upto_region 10 with fail
   generalize wr.alloc (.cells (noughts sn0) 3)=w3 at *;generalize wr.heap.size=gs at *;replace H:=Hd h3;clear h3 hm g0;have g0:=H.oldCell hbl HG0.out;have hO:=H.own 0 rfl;obtain⟨A2,hsl,hA2⟩:=c5q (a:=a) hnp hnc;have HA2:=Hd hA2;clear hA2
   go_wp2_with ((with_reducible refine a3m rfl (.tmp 50) (.tmp 54) 22 22 rfl 3 underlying22 Tryz.sizeInt hO rfl rfl (H.out.oldI HI0.out) ?_);intro w4 hO4 hg4)
   have h5:Sep w w4 [.own 3 (.slice (some ⟨gs,0,none⟩) sn0 sn0) sn0 (a5d l),.box w.heap.size 33 [.slice none 0 0,.slice none 0 0]]:=by rw[HHD.out];exact H.grow 0 rfl hg4 hO4 (.inl rfl)
   replace H:=Hd h5;clear h5 hO hO4 hg4 g0;have HQH:=Hd (show ∀ j:Nat,(a.add 2).add (j*2)=a.add ((j+1)*2) from fun j=>by rw[a9f];congr 1;omega);clear hsl;obtain⟨z0,hz0⟩:=a0f (l:=t0.1) (k:=xa) (by have:=HHL.out;rw[HHD.out] at this;omega);have HZ0:=Hd (show(a5d l).set xa (tot xa (l.take (0+1)))=a5d l by rw[b1q HT0.out hz0,List.take_zero,show tot xa []=0 from rfl,Int.zero_add,HHD.out];exact b9l hz0);clear hz0
   go_loopw [59] (fun kv wr=>∃ i:Nat,kv=.int .i64 i∧i≤n-1∧(∀(k:Nat) (t:List Int × List Int),k≤i→l[k]?=some t→b3a (a5d l) xa t.1)∧Sep w wr [.own 3 (.slice (some ⟨gs,0,none⟩) sn0 sn0) sn0 ((a5d l).set xa (tot xa (l.take (i+1)))),.box w.heap.size 33 [.slice none 0 0,.slice none 0 0]]) (fun kv _=>n-1-(intOf kv).toNat)
   case atStart=>exact⟨0,rfl,by omega,fun k t hk ht=>by
    obtain rfl:k=0:=by omega
    rw[HT0.out] at ht;injection ht with ht;subst ht
    rw[HHD.out]
    exact⟨rfl,fun q x y _ hx hy=>by rw[hx] at hy;injection hy⟩,by rw[HZ0.out];exact H⟩
   case round =>
    clear H;obtain⟨i,rfl,hile,hall,hS⟩:=hrel;have HF:=Hd hall;have H:=Hd hS;clear hall hS;by_cases hli:i<n-1
    ·have HBI:=Hd hbl;have hAA:=HA2.out (by omega);subst hAA;obtain⟨t,ht⟩:=a0f (l:=l) (k:=i+1) (by have:=HLN.out;omega);obtain⟨a0,S,sn,sc,D,dn,dc,hA,_,q0,q1,hten⟩:=HTN.out.2.2 (i+1) t ht;injection hA with hA
     subst hA;obtain⟨a2,ha2⟩:∃ a2,a.add 2=a2:=⟨_,rfl⟩;have hab:=HQH.out i;rw[ha2] at hab;have hbl2:(a2.add (i*2)).block<w.heap.size:=by rw[hab,a0g];exact hbl
     rw[←hab] at q0 q1;rw[ha2];have HE:=Hd ht;have HQ0:=Hd q0;have HQ1:=Hd q1;have HTE:=Hd hten;clear ht q0 q1 hten hab;have q0:=H.oldCell hbl2 HQ0.out;have q1:=H.oC HQ1.out hbl2;have hB:=H.allocBox wr.heap.size 33 [.slice S sn sc,.slice D dn dc] rfl
     go_upto_region 14 with fail
     generalize wr.alloc (.cells #[.slice S sn sc,.slice D dn dc] 33)=wb at *;replace H:=Hd hB;clear hB q0 q1;obtain⟨b0,b1⟩:=H.z2 0 rfl;have C1:=c7v (c:=sn0) (d:=sc) (xa:Int) ((H.ownInts 1 rfl).2.2) ((a0u (H.oldTen HTE)).1)
     go_wp2_with fail
     refine C1.mono ?_;rintro e2 w2 ⟨⟨b2,rfl,hb⟩,rfl⟩;have HB:=Hd hb;clear hb C1
     cases b2
     case false =>
      have HX:=Hd (a3s HAR HAX (fun hk=>by have:=HB.out.2 (d2q.2 (hk.1 t (mG HE)));cases this));obtain⟨r0,r1,fr0,fr1⟩:=H.b2 2;clear b0 b1;go_wp2;rw[HX.out];exact sN2 H 2 13 results69
     case true =>
      have HFI:=Hd (d2q.1 (HB.out.1 rfl));clear HB;have hsn:sn=sn0:=by have:=(a0u HTE).1.len;have:=HFI.out.1;have:=HHL.out;omega
      obtain⟨sa,x,hsA,_,hx,hcx,hfx⟩:=((a0u (H.oldTen HTE)).1).at_ (k:=xa) (by omega);subst hsA;have hxb:=a6i (HAR t (mG HE)) xa;rw[gD,hx] at hxb;simp only[Option.getD_some] at hxb;obtain⟨htp,htot⟩:=d9u HAR xa (i+1);rw[HLN.out] at htot;have hcu:=(H.own 1 rfl).cell (j:=xa) (x:=tot xa (l.take (i+1))) (by rw[List.getElem?_set,iP rfl,iP (by have:=HHL.out;omega)]);have hfu:=(H.own 1 rfl).frozen xa;have htk:=b1q HE hx;obtain⟨T1,hT1⟩:∃ z,tot xa (l.take (i+1))=z:=⟨_,rfl⟩;rw[hT1] at hcu htp htot htk;have h8:=H.store 1 xa (x:=T1+x) ⟨by omega,by omega⟩ rfl;rw[List.set_set,show(a5d l).set xa (T1+x)=(a5d l).set xa (tot xa (l.take (i+1+1))) by rw[htk]] at h8;have hw:IntKind.i64.wrap (T1+x)=T1+x:=IntWalk.i64_in _ ⟨by omega,by omega⟩;have HS8:=Hd h8.drew.tail_;have hxs:xa<sn:=by omega
      clear htk hT1 hx h8 hsn
      go_upto_region 16 with fail
      go_still_tail 11,(by kernel_rfl)
      change wpList _ _ _ _ _ wb.drew;have hcu1:wb.drew.cell? ⟨gs,xa,none⟩=some (.int .i64 T1):=hcu;have hfu1:wb.drew.frozen? ⟨gs,xa,none⟩=false:=hfu;go_wp2;go_roundw
      case rel=>exact⟨i+1,by go_num,by omega,fun k u hk hu=>by
       rcases Nat.lt_or_ge i k with h' | h'
       ·obtain rfl:k=i+1:=by omega
        rw[HE.out] at hu;injection hu with hu;subst hu;exact HFI
       ·exact HF k u h' hu,HS8⟩
      case measure=>simp[intOf];omega
    ·have hin:i=n-1:=by omega
     have HFA:=Hd (show ∀ t∈l,b3a (a5d l) xa t.1 from fun t ht=>by obtain⟨k,hk⟩:=List.getElem?_of_mem ht;exact HF k t (by have:=(lL hk);have:=HLN.out;omega) hk);replace H:=Hd (by have h:=H.out;rwa [show(a5d l).set xa (tot xa (l.take (i+1)))=a2o xa l by rw[a2o,List.take_of_length_le (by have:=HLN.out;omega)]] at h);clear HF hin hile
     cases ho:Sh.right (a2o xa l) with
     | false =>
      have C4:=b7u 0 (c:=sn0) ((H.ownInts 0 rfl).2.2) ⟨by omega,by omega⟩ ho;have HX:=Hd (a3s HAR HAX (fun hk=>by have:=hk.2;rw[show((xa:Int)).toNat=xa from rfl,ho] at this;cases this))
      go_wp2_with fail
      refine C4.mono ?_;rintro e5 w5 ⟨⟨u5,rfl,hu5⟩,hb5⟩;obtain⟨S5,n5,sc5,D5,N5,dc5,rfl,hs5,hd5,_,_,_,h5⟩:=H.addTen hb5 hu5;have h6:=h5.allocBox w5.heap.size 33 [.slice S5 n5 sc5,.slice D5 N5 dc5] rfl;clear hu5 hb5 h5 hs5 hd5 C4 ho
      go_upto_region 19 with fail
      generalize w5.alloc (.cells #[.slice S5 n5 sc5,.slice D5 N5 dc5] 33)=w6 at *;replace H:=Hd h6;clear h6;obtain⟨r0,r1,fr0,fr1⟩:=H.b2 4;go_wp2;rw[HX.out]
      exact sN2 H 4 13 results69
     | true =>
      have HRO:=Hd ho;have HOK:=Hd (show b0u xa l from⟨HFA,ho⟩);have C4:=b3n 0 (c:=sn0) ((H.ownInts 0 rfl).2.2) ⟨by omega,by omega⟩ ho;obtain⟨N,hN⟩:=eZ (Sh.size_bd (a2o xa l)).1;have hN4:N≤4096:=by have:=(Sh.size_bd (a2o xa l)).2;omega
      rw[hN,Int.toNat_natCast] at C4;have HN:=Hd hN;clear hN ho;have HJL:=Hd (show(a2o xa l).length=sn0 by rw[a8a];exact HHL);have HQ:=Hd (b4m HAR HAX HOK)
      go_wp2_with fail
      refine C4.mono ?_;rintro e5 w5 ⟨⟨u5,rfl,hu5⟩,hb5⟩;obtain⟨S1,ns,scO,D1,N1,dcO,rfl,hs5,hd5,hsc,hdc,hNle,h5⟩:=H.addTen hb5 hu5;rw[List.length_replicate] at hd5;subst hd5;have hns:sn0=ns:=by have:=HJL.out;omega
      subst hns;have h6:=h5.allocBox w5.heap.size 33 [.slice S1 sn0 scO,.slice D1 N dcO] rfl;clear hu5 hb5 h5 hs5 C4
      go_upto_region 19 with fail
      generalize w5.alloc (.cells #[.slice S1 sn0 scO,.slice D1 N dcO] 33)=w6 at *;generalize w5.heap.size=gt at *;replace H:=Hd h6;clear h6;have hm:=a0t underlying22 Tryz.infoInt (n:=sn0) (by omega);have h3:=H.noughts 3 sn0 (by omega)
      go_upto_region 22 with fail
      generalize w6.alloc (.cells (noughts sn0) 3)=w7 at *;generalize w6.heap.size=ga at *;replace H:=Hd h3;clear h3 hm
      go_wp2_with fail
      go_loopw [96] (fun kv wr=>∃ i:Nat,kv=.int .i64 i∧i≤n∧Sep w wr [.own 3 (.slice (some ⟨ga,0,none⟩) sn0 sn0) sn0 (atAx sn0 xa (tot xa (l.take i))),.box gt 33 [.slice S1 sn0 scO,.slice D1 N dcO],.own 3 (.slice S1 sn0 scO) sn0 (a2o xa l),.own 2 (.slice D1 N dcO) N (a5u xa l i),.own 3 (.slice (some ⟨gs,0,none⟩) sn0 sn0) sn0 (a2o xa l),.box w.heap.size 33 [.slice none 0 0,.slice none 0 0]]) (fun kv _=>n-(intOf kv).toNat)
      case atStart=>exact⟨0,rfl,by omega,by rw[List.take_zero,show tot xa []=0 from rfl,atAx,b9l (by rw[List.getElem?_replicate,iP hxa]),b2w,HN.out];exact H⟩
      case round =>
       clear H;obtain⟨i,rfl,hile,hS⟩:=hrel;have H:=Hd hS;clear hS;by_cases hli:i<n
       ·clear hbl;obtain⟨t,ht⟩:=a0f (l:=l) (k:=i) (by have:=HLN.out;omega);obtain⟨a,S,sn,sc,D,dn,dc,hA,hbl,q0,q1,hten⟩:=HTN.out.2.2 (i) t ht;injection hA with hA
        subst hA;have HE:=Hd ht;have HQ0:=Hd q0;have HQ1:=Hd q1;have HTE:=Hd hten;clear ht q0 q1 hten;have q0:=H.oldCell (by rw[a0g];exact hbl) HQ0;have q1:=H.oC HQ1.out (by simp only[a0g];exact hbl);have hB:=H.allocBox wr.heap.size 33 [.slice S sn sc,.slice D dn dc] rfl
        go_upto_region 25 with fail
        generalize wr.alloc (.cells #[.slice S sn sc,.slice D dn dc] 33)=wb at *;replace H:=Hd hB;clear hB q0 q1;have HDN:=Hd (a0u HTE).2.len;have HSN:=Hd (a0u HTE).1.len;have HTR:=Hd (HAR t (mG HE));obtain⟨hld,hup,hnf,hjt⟩:=d3e HAR HOK (by have:=HHL.out;omega) HE;rw[HJL.out] at hld hup hnf;rw[HN.out,Int.toNat_natCast] at hld;have hsn:sn0=sn:=by have:=HJL.out;have:=HSN.out;omega
        subst hsn;have HLD:=Hd hld;have HUP:=Hd hup;have HNF:=Hd hnf;clear hld hup hnf hjt;have H2:=Hd ((H.addOld (a0u HTE).1).addOld (a0u HTE).2);obtain⟨b0,b1⟩:=H.z2 0 rfl;obtain⟨o0,o1⟩:=H.z2 2 rfl
        go_wp2_with fail
        refine(d5k H2 6 5 3 1 0 rfl rfl rfl rfl rfl (by decide) (fun w' h=>by have:=OwnS.form h;obtain⟨A', c', hv,_,hI,_⟩:=this;injection hv with h1 h2 h3;subst h1;exact hI) (a1p HTR) HRO HNF (by have:=a0z HTR;have:=HDN.out;omega) rfl HLD).mono ?_;rintro e8 w8 ⟨rfl,h8⟩;have h9:Sep w w8 [.ints D dn t.2,.ints S sn0 t.1,.box wr.heap.size 33 [.slice S sn0 sc,.slice D dn dc],.own 3 (.slice (some ⟨ga,0,none⟩) sn0 sn0) sn0 (atAx sn0 xa (tot xa (l.take i))),.box gt 33 [.slice S1 sn0 scO,.slice D1 N dcO],.own 3 (.slice S1 sn0 scO) sn0 (a2o xa l),.own 2 (.slice D1 N dcO) N (layD (a5u xa l i) t.2 t.1 (atAx sn0 xa (tot xa (l.take i))) (a2o xa l) dn),.own 3 (.slice (some ⟨gs,0,none⟩) sn0 sn0) sn0 (a2o xa l),.box w.heap.size 33 [.slice none 0 0,.slice none 0 0]]:=h8;rw[←HDN.out,←HUP.out,HDN.out] at h9;replace H:=Hd h9.tail_.tail_;clear h8 h9 H2 o0 o1 b0 b1;obtain⟨sa,x,hsA,_,hx,hcx,hfx⟩:=((a0u (H.oldTen HTE)).1).at_ (k:=xa) (by omega);subst hsA;have hxb:=a6i HTR xa;rw[gD,hx] at hxb;simp only[Option.getD_some] at hxb;obtain⟨htp,htot⟩:=d9u HAR xa i;rw[HLN.out] at htot;have hcu:=(H.own 1 rfl).cell (j:=xa) (x:=tot xa (l.take i)) (by rw[atAx,List.getElem?_set,iP rfl,iP (by simpa using hxa)]);have hfu:=(H.own 1 rfl).frozen xa;have htk:=b1q HE hx;obtain⟨T1,hT1⟩:∃ z,tot xa (l.take i)=z:=⟨_,rfl⟩;rw[hT1] at hcu htp htot htk;have h8:=H.store 1 xa (x:=T1+x) ⟨by omega,by omega⟩ rfl;rw[atAx,List.set_set,show(List.replicate sn0 0:List Int).set xa (T1+x)=atAx sn0 xa (tot xa (l.take (i+1))) by rw[htk];rfl] at h8;have hw:IntKind.i64.wrap (T1+x)=T1+x:=IntWalk.i64_in _ ⟨by omega,by omega⟩;have b0:=H.c 0 0;have HS8:=Hd h8.drew.tail_;clear htk hT1 hx h8
        go_upto_region 26 with fail
        go_still_tail 11,(by kernel_rfl)
        change wpList _ _ _ _ _ w8.drew;have hcu1:w8.drew.cell? ⟨ga,xa,none⟩=some (.int .i64 T1):=hcu;have hfu1:w8.drew.frozen? ⟨ga,xa,none⟩=false:=hfu;go_wp2;go_roundw
        case rel=>exact⟨i+1,by go_num,by omega,HS8⟩
        case measure=>simp[intOf];omega
       ·have hin:n=i:=by omega
        subst hin;have HQ2:=Hd (show a6r (xa:Int) l=(0,a2o xa l,a5u xa l n) by rw[HQ.out,HLN.out];rfl);obtain⟨o0,o1⟩:=H.z2 1 rfl;obtain⟨r0,r1,fr0,fr1⟩:=H.b2 5;go_wp2;rw[HQ2.out];exact sY2 ((H.setBox 5 0 (.slice S1 sn0 scO) rfl).setBox 5 1 (.slice D1 N dcO) rfl) 5 2 3 (.int .i64 0) results69
end Go.Proofs.YtjblengklgkgfaaGreat
