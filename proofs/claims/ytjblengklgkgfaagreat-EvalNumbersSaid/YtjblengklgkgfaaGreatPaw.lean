import Derived.Test.YtjblengklgkgfaaGreatPav
set_option maxRecDepth 100000
set_option maxHeartbeats 12800000
namespace Go.Proofs.YtjblengklgkgfaaGreat
open Go.RowKit Go.Proofs.Tryz
variable {A0 At:Option Addr} {G:a3n} {L P:TL} {N:List a0s} {c0 ct j n n0 nt:Nat} {e k:Int} {nd:a0s} {s xs:List Int} {t:List Int × List Int} {v:Value} {w:World}
theorem a9v {S D:Option Addr}{sn sc dn dc:Nat}{d:List Int}(h:Ten w (.agg #[.slice S sn sc,.slice D dn dc]) s d):Ints w S sn s∧sn≤sc∧Ints w D dn d∧dn≤dc:=by
 obtain⟨A,n,c,B,m,e,hv,hc,hd,hI,hJ⟩:=h;simp only[Value.agg.injEq] at hv;have h1:=congrArg (fun a:Array Value=>a.toList) hv;simp only[List.cons.injEq,Value.slice.injEq,and_true] at h1;obtain⟨⟨rfl,rfl,rfl⟩,rfl,rfl,rfl⟩:=h1;exact⟨hI,hc,hJ,hd⟩
theorem a7d (w:World):Ten w (.agg #[.slice none 0 0,.slice none 0 0]) [] []:=a1s (Ints.nil_ _ _) (Nat.le_refl _) (Ints.nil_ _ _) (Nat.le_refl _)
theorem c5u (hA:a1k L)(h:a1j nd (L.map (·.1))=(e,s))(he:¬ e=0):b4h nd L=refused e:=by
 rw[b4h,iP hA,h,iN he]
theorem b7j (hA:a1k L)(h:a1j nd (L.map (·.1))=(0,s))(ho:nd.op=1):b4h nd L=refused 22:=by
 rw[b4h,iP hA,h,iP rfl,iP ho]
theorem c2c (hA:a1k L)(h:a1j nd (L.map (·.1))=(0,s))(ho:¬ nd.op=1):b4h nd L=a0r nd L∧a4h nd L.length=true:=by
 refine⟨by rw[b4h,iP hA,h,iP rfl,iN ho],(c3t hA ho (by rw[h])).1⟩
theorem e0a (hl:L.length=n)(h:∀(i:Nat) (t:List Int × List Int),L[i]?=some t→i<n→a0a t.1 t.2=true):a1k L:=fun t ht=>by
 obtain⟨i,hi,e⟩:=List.getElem_of_mem ht;exact h i t (by rw[List.getElem?_eq_getElem hi,e]) (by omega)
theorem b1g (h:(a2f G).1=0):∃ L,a0i (a0k G.names) [] G.nodes=(0,L)∧G.nodes.length≤48∧G.outs.length≤48∧∀ x∈G.outs,0≤x∧x<(G.nodes.length:Nat):=by
 unfold a2f at h
 split at h
 ·split at h
  ·rename_i h2
   split at h
   ·rename_i h3
    split at h
    ·rename_i h4;refine⟨(a0i (a0k G.names) [] G.nodes).2,Prod.ext h3 rfl,h2.1,h2.2,fun x hx=>?_⟩;have:=List.all_eq_true.1 h4 x hx;simpa using this
    ·cases h
   ·rename_i h3;exact absurd h h3
  ·cases h
 ·cases h
theorem d3d (hk:(parF 0 N)[j]?=some k)(ht:P[j]?=some t)(h:a0a t.1 t.2=false∨¬ t.1=a4z N k):¬ FitP N P:=fun hF=>by
 obtain⟨h1,h2⟩:=hF.2 j k t hk ht (lL ht);rcases h with h|h
 ·rw[h1] at h;cases h
 ·exact h h2
theorem c7k.next (h:c7k N P j)(hk:(parF 0 N)[j]?=some k)(ht:P[j]?=some t)(h1:a0a t.1 t.2=true)(h2:t.1=a4z N k):c7k N P (j+1):=fun i x u hx hu hi=>by
 rcases Nat.lt_or_ge i j with hij|hij
 ·exact h i x u hx hu hij
 ·obtain rfl:i=j:=by omega
  rw[hk] at hx;injection hx with hx;subst hx
  rw[ht] at hu;injection hu with hu;subst hu
  exact⟨h1,h2⟩
theorem c1s {k:Nat}(h:N[k]?=some nd):a4z N (k:Int)=nd.shape:=by
 rw[a4z,Int.toNat_natCast,gD,List.getElem?_map,h];rfl
theorem b5a {acc:TL}{l:List Int}{q xx:Nat}(hx:l[q]?=some (xx:Int))(ht:acc[xx]?=some t):insT acc (l.take (q+1))=insT acc (l.take q)++[t]:=by
 rw[List.take_add_one,hx,insT,insT,List.map_append];simp[List.getD_eq_getElem?_getD,ht]
theorem a5x {A B:Option Addr}{c m d:Nat}(h:Tens w A n L)(g:Tens w B m L)(hc:n≤c:=by omega)(hd:m≤d:=by omega):
  Calls prog 18 #[.slice A n c,.slice B m d] w fun e w'=>e=.returned (.bool true)∧Below w.heap.size w w':=by
 obtain rfl:n=m:=h.1.symm.trans g.1;have HL:=Hd h.1;have hn9:=h.2.1;have HA:=Hd h;have HB:=Hd g;clear h g
 go_enter func18,ntmps18
 have dn:((n:Int) != (n:Int))=false:=by simp
 go_wp2_with fail
 go_loopw [5] (fun iv wr=>∃ j:Nat,iv=.int .i64 j∧j≤n∧Below w.heap.size w wr) (fun iv _=>n-(intOf iv).toNat)
 case atStart=>exact⟨0,rfl,by omega,Below.refl _ _⟩
 case round =>
  obtain⟨j,rfl,hj,hb⟩:=hrel;have HBW:=Hd hb;clear hb;by_cases hlt:j<n
  ·obtain⟨x,hx⟩:∃ x,L[j]?=some x:=gE (by have:=HL.out;omega);obtain⟨a,S,sn,sc,D,dn1,dc,hAa,hab,a0,a1,hTa⟩:=(HA.below HBW).2.2 j x hx;obtain⟨b,S2,sn2,sc2,D2,dn2,dc2,hBb,hbb,b0,b1,hTb⟩:=(HB.below HBW).2.2 j x hx;subst hAa;subst hBb;have HTA:=Hd hTa;have HTB:=Hd hTb;have hab2:=a1i (k:=j*2) hab;have hbb2:=a1i (k:=j*2) hbb;have HAB:=Hd hab2;have HBB:=Hd hbb2;clear hTa hTb hx hab hbb hab2 hbb2
   go_upto_region 6 with fail
   have a0d:wr.drew.cell? (a.add (j*2))=some (.slice S sn sc):=a0;have a1d:wr.drew.cell? ⟨(a.add (j*2)).block,(a.add (j*2)).off+1,none⟩=some (.slice D dn1 dc):=a1;have b0d:wr.drew.cell? (b.add (j*2))=some (.slice S2 sn2 sc2):=b0;have b1d:wr.drew.cell? ⟨(b.add (j*2)).block,(b.add (j*2)).off+1,none⟩=some (.slice D2 dn2 dc2):=b1;clear a0 a1 b0 b1;refine wp_region_held_drew (S:=(fun w'=>w'.cell? (a.add (j*2))=some (.slice S sn sc)∧w'.cell? ⟨(a.add (j*2)).block,(a.add (j*2)).off+1,none⟩=some (.slice D dn1 dc)∧w'.cell? (b.add (j*2))=some (.slice S2 sn2 sc2)∧w'.cell? ⟨(b.add (j*2)).block,(b.add (j*2)).off+1,none⟩=some (.slice D2 dn2 dc2))) (by kernel_rfl) ?_ (fun hq_=>?_)
   ·exact⟨a0d,a1d,b0d,b1d⟩
   refine zV 0 hq_ ?_;refine zV 1 hq_ ?_;refine zV 2 hq_ ?_;refine zV 3 hq_ ?_;refine zV 4 hq_ ?_;refine zV 5 hq_ ?_;refine zV 6 hq_ ?_;refine zV 7 hq_ ?_;refine e1 8 fun K hK=>?_
   first|(refine effU ?_ ?_;(focus rfl))|(go_simp;(go_at_call 17;refine(b6b (HTA.below (a0w (Below.refl _ _) 1)) (HTB.below (a0w (Below.refl _ _) 1))).mono ?_;rintro e7 w7 ⟨rfl,hb7⟩;have HB7:=Hd hb7;clear hb7;have x0:=(HB7.cell HAB).trans a0d;have x1:=(HB7.cell (by exact HAB)).trans a1d;have x2:=(HB7.cell HBB).trans b0d;have x3:=(HB7.cell (by exact HBB)).trans b1d);go_wp2_with fail)
   refine zX hK (fun hq_=>?_) ⟨x0,x1,x2,x3⟩;refine zV 9 hq_ ?_;refine dN ?_;clear a0d a1d b0d b1d;go_wp2;go_roundw
   case rel=>exact⟨j+1,by go_num,by omega,a1m HBW (a1m (a0w (Below.refl _ _) 1) HB7)⟩
   case measure=>simp[intOf];omega
  ·obtain rfl:j=n:=by omega
   go_wp2;go_ret;exact⟨by trivial,HBW⟩
theorem c2p (h:a4a w v nd)(hT:Tens w At nt L)(hct:nt≤ct:=by omega)(hn:nt≤800:=by omega):
  Calls prog 31 #[v,.slice At nt ct] w (c7x w (b4h nd L)):=by
 have HN:=Hd h;obtain⟨A,na,ca,B,nb,cb,C,nc,cc,rfl,hL⟩:=h;clear hL;have h1:=((Sep.nil w).allocBox w.heap.size 38 [.int .i64 nd.op,.slice A na ca,.slice B nb cb,.slice C nc cc,.int .i64 nd.n,.int .i64 nd.how,.string nd.note] rfl).allocBox (w.heap.size+1) 33 [.slice none 0 0,.slice none 0 0] (by simp);have HLL:=Hd hT.1;have HTE:=Hd hT;clear hT
 go_enter func31,ntmps31
 go_upto_region 1 with fail
 generalize (w.alloc (.cells #[.int .i64 nd.op,.slice A na ca,.slice B nb cb,.slice C nc cc,.int .i64 nd.n,.int .i64 nd.how,.string nd.note] 38)).alloc (.cells #[.slice none 0 0,.slice none 0 0] 33)=W at *;have H:=Hd (h1.addRowNil 22 1);clear h1
 go_wp2_with fail
 go_loopw [13,6] (fun iv lv wr=>∃(j:Nat) (us:List Value) (lx:Value),lx=lv∧iv=.int .i64 j∧j≤nt∧(∀(i:Nat) (t:List Int × List Int),L[i]?=some t→i<j→a0a t.1 t.2=true)∧LilO w us ((L.take j).map (·.1))∧Sep w wr [.row 22 1 lx j us,.box (w.heap.size+1) 33 [.slice none 0 0,.slice none 0 0],.box w.heap.size 38 [.int .i64 nd.op,.slice A na ca,.slice B nb cb,.slice C nc cc,.int .i64 nd.n,.int .i64 nd.how,.string nd.note]]) (fun iv _ _=>nt-(intOf iv).toNat)
 case atStart=>exact⟨0,[],_,rfl,rfl,by omega,by omega,d7m _,H⟩
 case round =>
  clear H;obtain⟨j,us,lx,rfl,rfl,hj,hAll,hP,hS⟩:=hrel;have H:=Hd hS;have HP:=Hd hP;have HA:=Hd hAll;clear hS hP hAll;by_cases hlt:j<nt
  ·obtain⟨t,ht⟩:∃ t,L[j]?=some t:=gE (by have:=HLL.out;omega);obtain⟨la,S,sn,sc,D,dn,dc,hla,hlb,k0,k1,hTj⟩:=HTE.out.2.2 j t ht;subst hla;have q0:=H.oC k0 (a1i hlb);have q1:=H.oC k1 (a1i hlb);have h2:=H.allocBox wr.heap.size 33 [.slice S sn sc,.slice D dn dc] rfl;have HTJ:=Hd hTj;have HTT:=Hd ht;clear k0 k1 hTj ht
   go_upto_region 5 with fail
   generalize wr.alloc (.cells #[.slice S sn sc,.slice D dn dc] 33)=w3 at *;generalize wr.heap.size=gt at *;replace H:=Hd h2;clear h2 q0 q1;obtain⟨b0,b1⟩:=H.z2 0 rfl;have CT:=a2a (H.oldTen HTJ)
   cases hr:a0a t.1 t.2 with
   | false =>
    rw[hr] at CT;have HX:=Hd (c5g (nd:=nd) HTT hr)
    go_wp2_with fail
    refine CT.mono ?_;rintro e4 w4 ⟨rfl,hb4⟩;replace H:=Hd (H.below hb4);clear CT hr hb4 b0 b1;obtain⟨z0,z1,f0,f1⟩:=H.b2 2;have h5:=(H.setBox 2 0 (.slice none 0 0) rfl).setBox 2 1 (.slice none 0 0) rfl;go_wp2
    exact a6n h5 2 rfl (z:=.int .i64 13) results31 rfl rfl rfl (by rw[HX.out];exact⟨⟨_,rfl,a7d _⟩,h5.base⟩)
   | true =>
    rw[hr] at CT;have HR:=Hd hr
    go_wp2_with fail
    refine CT.mono ?_;rintro e4 w4 ⟨rfl,hb4⟩;replace H:=Hd (H.below hb4);clear CT hr hb4 b0 b1;have b0:=H.c 0 0
    go_wp2_with (at_builtin;refine a2t rfl (.tmp 21) (.tmp 24) 35 rfl underlying35 H.out 1 rfl rfl _ rfl ?c1 ?_)
    case c1=>omega
    intro v9 w9 h9;have h10:=Sep.tail_ (show Sep w w9 (_::[.row 22 1 v9 (j+1) (us++[.slice S sn sc]),.box (w.heap.size+1) 33 [.slice none 0 0,.slice none 0 0],.box w.heap.size 38 [.int .i64 nd.op,.slice A na ca,.slice B nb cb,.slice C nc cc,.int .i64 nd.n,.int .i64 nd.how,.string nd.note]]) from h9);have H10:=Hd h10;clear h9 h10 b0;go_wp2;go_roundw
    case rel=>exact⟨j+1,us++[Value.slice S sn sc],_,rfl,by go_num,by omega,(fun i s2 hi hi2=>by
     rcases Nat.lt_or_ge i j with hij|hij
     ·exact HA i s2 hi hij
     ·obtain rfl:i=j:=by omega
      obtain rfl:s2=t:=by have:=HTT.out;rw[hi] at this;injection this
      exact HR),by rw[List.take_add_one,HTT.out,List.map_append];exact HP.snoc (a9v HTJ).1 (a9v HTJ).2.1,H10⟩
    case measure=>simp[intOf];omega
  ·obtain rfl:j=nt:=by omega
   have HALL:=Hd (e0a HLL HA);have hP2:=HP.out;rw[List.take_of_length_le (by have:=HLL.out;omega)] at hP2;obtain⟨A9,c9,rfl,hc9,hLi⟩:=d2z 0 H rfl hP2 (by rw[List.length_map];exact HLL) (by omega);have C5:=a6k (cl:=c9) (HN.below H.base) hLi;obtain⟨⟨e5,s5⟩,hR⟩:∃ r,a1j nd (L.map (·.1))=r:=⟨_,rfl⟩;rw[hR] at C5;have HR:=Hd hR;clear hR hLi hP2;obtain⟨n0,n1,n2,n3,n4,n5,n6⟩:=H.cells7 2 rfl
   go_wp2_with fail
   refine C5.mono ?_;rintro e6 w6 ⟨⟨v6,m6,rfl,_⟩,hb6⟩;replace H:=Hd (H.below hb6);clear C5 hb6 n0 n1 n2 n3 n4 n5 n6;obtain⟨z0,z1,f0,f1⟩:=H.b2 1;by_cases he:e5=0
   ·subst he;have n0:=H.c 2 0;by_cases ho:nd.op=1
    ·have HX:=Hd (b7j HALL HR ho);have dop:(nd.op==1)=true:=by simpa using ho
     clear ho;have h5:=(H.setBox 1 0 (.slice none 0 0) rfl).setBox 1 1 (.slice none 0 0) rfl;go_wp2;exact a6n h5 1 rfl (z:=.int .i64 22) results31 rfl rfl rfl (by rw[HX.out];exact⟨⟨_,rfl,a7d _⟩,h5.base⟩)
    ·obtain⟨hx,hf⟩:=c2c HALL HR ho;have HX:=Hd hx;have dop:(nd.op==1)=false:=by simpa using ho
     have CW:=a9w (ct:=ct) (HN.below H.base) (HTE.below H.base) hf ho HALL;clear ho hf hx z0 z1 f0 f1;obtain⟨⟨E,S8,D8⟩,hR8⟩:∃ r,a0r nd L=r:=⟨_,rfl⟩;rw[hR8] at CW HX;clear hR8;have n1:=H.c 2 1;have n2:=H.c 2 2;have n3:=H.c 2 3;have n4:=H.c 2 4;have n5:=H.c 2 5;have n6:=H.c 2 6
     go_wp2_with fail
     refine CW.mono ?_;rintro e7 w7 ⟨⟨u7,rfl,hu7⟩,hb7⟩;obtain⟨S1,ns,sc,D1,n9,dc,rfl,hs1,hd1,hsc,hdc,hNle,h5⟩:=H.addTen hb7 hu7;clear CW n0 n1 n2 n3 n4 n5 n6 hu7 hb7 hs1 hd1;obtain⟨z0,z1,f0,f1⟩:=h5.b2 3;have h6:=(h5.setBox 3 0 (.slice S1 ns sc) rfl).setBox 3 1 (.slice D1 n9 dc) rfl;have H6:=Hd h6;clear h5 h6;go_wp2;exact a6n H6 3 rfl (z:=.int .i64 E) results31 rfl rfl rfl (by rw[HX.out];exact⟨⟨_,rfl,a1s (H6.ownInts 0 rfl).2.2 hsc (H6.ownInts 1 rfl).2.2 hdc⟩,H6.base⟩)
   ·have HX:=Hd (c5u HALL HR he);have dE:(e5 != 0)=true:=by simpa using he
    clear he;have h5:=(H.setBox 1 0 (.slice none 0 0) rfl).setBox 1 1 (.slice none 0 0) rfl;go_wp2;exact a6n h5 1 rfl (z:=.int .i64 e5) results31 rfl rfl rfl (by rw[HX.out];exact⟨⟨_,rfl,a7d _⟩,h5.base⟩)
theorem b6n (h:a2c w v G)(hs:a7y 800 G)(hT:Tens w At nt P)(hct:nt≤ct:=by omega)(hn:nt≤800:=by omega):
  Calls prog 28 #[v,.slice At nt ct] w (a9i w (a6w G P)):=by
 have HG:=h;obtain⟨A,na,ca,B,nb,cb,C,nc,cc,rfl,hL⟩:=h;replace HG:=Hd HG;obtain⟨hia,hib,hic,hA,hB,hC,hnm⟩:=hL;have h1:=(Sep.nil w).allocBox w.heap.size 25 [.slice A na ca,.string G.names,.slice B nb cb,.slice C nc cc] rfl;have HBL:=Hd hB.1;have HB:=Hd hB;have HPL:=Hd hT.1;have HTE:=Hd hT;have HSM:=Hd hs;clear hA hB hC hT hs
 go_enter func28,ntmps28
 go_upto_region 1 with fail
 generalize w.alloc (.cells #[.slice A na ca,.string G.names,.slice B nb cb,.slice C nc cc] 25)=W at *;have H:=Hd h1;clear h1;obtain⟨g0,g1,g2,g3⟩:=H.cells4 0 rfl;have C1:=c0f (HG.below H.base) HSM;obtain⟨e1,he1⟩:∃ e,(a2f G).1=e:=⟨_,rfl⟩;rw[he1] at C1;have HE1:=Hd he1;clear he1
 go_wp2_with fail
 refine C1.mono ?_;rintro e2 w2 ⟨rfl,hb2⟩;replace H:=Hd (H.below hb2);clear C1 hb2 g0 g1 g2 g3;by_cases hz:e1=0
 ·subst hz;obtain⟨LS,hgo,hlen,_,_⟩:=b1g HE1;have HGO:=Hd hgo;have hnb48:nb≤48:=by have:=HBL.out;omega
  obtain⟨g0,g1,g2,g3⟩:=H.cells4 0 rfl;have C2:=a7s (HG.below H.base);clear hgo hlen
  go_wp2_with fail
  refine C2.mono ?_;rintro e3 w3 ⟨⟨v3,m,rfl,hO⟩,hb3⟩;obtain⟨Ap,cp,rfl,hcp,_,_⟩:=hO.form;replace H:=Hd (H.addOwn hb3 hO);have HPP:=Hd (H.ownInts 0 rfl).2.2.len;clear C2 hb3 hO g0 g1 g2 g3;by_cases hm:m=nt
  ·subst hm;have dm:((m:Int) != (m:Int))=false:=by simp
   go_wp2_with fail
   go_loopw [33] (fun iv wr=>∃ j:Nat,iv=.int .i64 j∧j≤m∧c7k G.nodes P j∧Sep w wr [.own 3 (.slice Ap m cp) m (parF 0 G.nodes),.box w.heap.size 25 [.slice A na ca,.string G.names,.slice B nb cb,.slice C nc cc]]) (fun iv _=>m-(intOf iv).toNat)
   case atStart=>exact⟨0,rfl,by omega,fun j k t _ _ hj=>by omega,H⟩
   case round =>
    clear H;obtain⟨j,rfl,hj,hF,hS⟩:=hrel;have H:=Hd hS;have HF:=Hd hF;clear hS hF;by_cases hlt:j<m
    ·obtain⟨pa,x,hpA,hpb,hx,hcx,_⟩:=(H.ownInts 0 rfl).2.2.at_ (k:=j) hlt;subst hpA;have hxi:=b0p G.nodes 0 x (mG hx);obtain⟨xx,rfl⟩:=eZ (by omega:0≤x);have hxb:xx<nb:=by have:=HBL.out;omega
     obtain⟨nd,hnd⟩:∃ nd,G.nodes[xx]?=some nd:=gE (by have:=HBL.out;omega);obtain⟨la,S,ns,cs,D,nD,cD,E,ne,ce,hla,hlb,k0,k1,k2,k3,k4,k5,k6,hNL⟩:=HB.out.2.2 xx nd hnd;subst hla;obtain⟨t,ht⟩:∃ t,P[j]?=some t:=gE (by have:=HPL.out;omega);obtain⟨ta,S5,sn5,sc5,D5,dn5,dc5,hta,htb,t0,t1,hTj⟩:=HTE.out.2.2 j t ht;subst hta;have HTJ:=Hd hTj;have HNI:=Hd hNL.inB;have HXX:=Hd hx;have HTT:=Hd ht;have HSH:=Hd (c1s hnd);have HTB:=Hd (a1i (k:=j*2) htb);have HLB:=Hd (a1i (k:=xx*7) hlb);have HK2:=Hd k2;have HT0:=Hd t0;have HT1:=Hd t1;have xc:decide (xx<nb)=true:=by simpa using hxb
     clear k0 k1 k2 k3 k4 k5 k6 hNL hnd hx ht hTj hxi t0 t1 htb hlb
     go_upto_region 10 with fail
     have HD:=Hd H.drew;clear hcx;have x0:=HD.oC HT0.out HTB.out;have x1:=HD.oC HT1.out HTB.out;have x2:=HD.c 1 2;have x3:=HD.oC HK2.out HLB.out
     cases hr:a0a t.1 t.2 with
     | false =>
      have HX:=Hd (a9d HE1 (d3d HXX HTT (.inl hr)));have HR:=Hd hr;clear hr;refine wp_region_held_drew (S:=(fun w'=>w'.cell? (ta.add (j*2))=some (.slice S5 sn5 sc5)∧w'.cell? ⟨(ta.add (j*2)).block,(ta.add (j*2)).off+1,none⟩=some (.slice D5 dn5 dc5)∧w'.cell? ⟨w.heap.size,2,none⟩=some (.slice (some la) nb cb)∧w'.cell? ⟨(la.add (xx*7)).block,(la.add (xx*7)).off+2,none⟩=some (.slice D nD cD))) (by kernel_rfl) ?_ (fun hq_=>?_)
      ·exact⟨x0,x1,x2,x3⟩
      refine zV 0 hq_ ?_;refine zV 1 hq_ ?_;refine zV 2 hq_ ?_;refine zV 3 hq_ ?_;refine e1 4 fun K hK=>?_
      first|(refine effU ?_ ?_;(focus rfl))|(go_simp;(go_at_call 50;refine(a2a (HD.oldTen HTJ)).mono ?_;rw[HR.out];rintro e7 w7 ⟨rfl,hb7⟩;have HD7:=Hd (HD.below hb7);clear hb7;have y0:=HD7.oC HT0.out HTB.out;have y1:=HD7.oC HT1.out HTB.out;have y2:=HD7.c 1 2;have y3:=HD7.oC HK2.out HLB.out);go_wp2_with fail)
      refine zX hK (fun hq_=>?_) ⟨y0,y1,y2,y3⟩;refine zV 5 hq_ ?_;refine zV 6 hq_ ?_;refine zT 7 hq_ ?_;refine zT 8 hq_ ?_;refine zT 9 hq_ ?_;refine zT 10 hq_ ?_;refine zT 11 hq_ ?_;refine zT 12 hq_ ?_;refine zT 13 hq_ ?_;refine zT 14 hq_ ?_;refine zT 15 hq_ ?_;refine zT 16 hq_ ?_;refine zT 17 hq_ ?_;refine e1 18 fun K hK=>?_
      first|(refine effU ?_ ?_;(focus rfl))|(go_simp;skip;go_wp2_with fail)
      refine zX hK fun hq_=>?_;refine zT 19 hq_ ?_;refine zV 20 hq_ ?_;refine dN ?_;go_wp2;go_ret2
      exact a4m HX HD7.base
     | true =>
      have HR:=Hd hr;obtain⟨q,hq⟩:∃ q,(t.1==nd.shape)=q:=⟨_,rfl⟩;have HQ:=Hd hq;clear hr hq;refine wp_region_held_drew (S:=(fun w'=>w'.cell? (ta.add (j*2))=some (.slice S5 sn5 sc5)∧w'.cell? ⟨(ta.add (j*2)).block,(ta.add (j*2)).off+1,none⟩=some (.slice D5 dn5 dc5)∧w'.cell? ⟨w.heap.size,2,none⟩=some (.slice (some la) nb cb)∧w'.cell? ⟨(la.add (xx*7)).block,(la.add (xx*7)).off+2,none⟩=some (.slice D nD cD))) (by kernel_rfl) ?_ (fun hq_=>?_)
      ·exact⟨x0,x1,x2,x3⟩
      refine zV 0 hq_ ?_;refine zV 1 hq_ ?_;refine zV 2 hq_ ?_;refine zV 3 hq_ ?_;refine e1 4 fun K hK=>?_
      first|(refine effU ?_ ?_;(focus rfl))|(go_simp;(go_at_call 50;refine(a2a (HD.oldTen HTJ)).mono ?_;rw[HR.out];rintro e7 w7 ⟨rfl,hb7⟩;have HD7:=Hd (HD.below hb7);clear hb7;have y0:=HD7.oC HT0.out HTB.out;have y1:=HD7.oC HT1.out HTB.out;have y2:=HD7.c 1 2;have y3:=HD7.oC HK2.out HLB.out);go_wp2_with fail)
      refine zX hK (fun hq_=>?_) ⟨y0,y1,y2,y3⟩;refine zV 5 hq_ ?_;refine zV 6 hq_ ?_;refine zT 7 hq_ ?_;refine zT 8 hq_ ?_;refine zT 9 hq_ ?_;refine zT 10 hq_ ?_;refine zT 11 hq_ ?_;refine zT 12 hq_ ?_;refine zT 13 hq_ ?_;refine zT 14 hq_ ?_;refine zT 15 hq_ ?_;refine zT 16 hq_ ?_;refine zT 17 hq_ ?_;refine e1 18 fun K hK=>?_
      first|(refine effU ?_ ?_;(focus rfl))|(go_simp;(go_at_call 39;refine(a5b (HD7.oldI (a9v HTJ).1) (HD7.oldI HNI)).mono ?_;rw[HQ.out];rintro e8 w8 ⟨rfl,k8,rfl⟩;have HD8:=Hd (HD7.drewN k8);have z0:=HD8.oC HT0.out HTB.out;have z1:=HD8.oC HT1.out HTB.out;have z2:=HD8.c 1 2;have z3:=HD8.oC HK2.out HLB.out);go_wp2_with fail)
      refine zX hK (fun hq_=>?_) ⟨z0,z1,z2,z3⟩;refine zT 19 hq_ ?_;refine zV 20 hq_ ?_;refine dN ?_
      cases q with
      | false =>
       have hne:¬ t.1=nd.shape:=by have h9:=HQ.out;intro e;rw[e] at h9;simp at h9
       have HX:=Hd (a9d HE1 (d3d HXX HTT (.inr (by rw[HSH.out];exact hne))));clear hne;go_wp2;go_ret2
       exact a4m HX HD8.base
      | true =>
       have heq:t.1=nd.shape:=by have h9:=HQ.out;simpa using h9
       have HFN:=Hd (HF.next HXX HTT HR (by rw[HSH.out];exact heq));clear heq;go_wp2;go_roundw
       case rel=>exact⟨j+1,by go_num,by omega,HFN,HD8⟩
       case measure=>simp[intOf];omega
    ·obtain rfl:j=m:=by omega
     have HFP:=Hd (show FitP G.nodes P from⟨by rw[HPL.out,HPP.out],by rw[HPL.out];exact HF⟩);have HX:=Hd (a7i HE1 HFP);have g2:=H.c 1 2;obtain⟨nm,hnm2⟩:∃ nm,a0k G.names=nm:=⟨_,rfl⟩;have HGO2:Hid (a0i nm [] G.nodes=(0,LS)):=Hd (by rw[←hnm2];exact HGO);replace H:=Hd ((H.tail_).addRowNil 33 2);clear hnm2
     go_wp2_with fail
     clear g2
     go_loopw [63,10,11] (fun iv ov av wr=>∃(i q:Nat) (us:List Value) (pool:List a0c) (lx:Value) (acc:TL),lx=ov∧iv=.int .i64 i∧av=.int .i64 q∧i≤nb∧q≤j∧b0f w us acc pool∧Amid nm G.nodes P LS i q acc∧Sep w wr (.row 33 2 lx i us::.box w.heap.size 25 [.slice A na ca,.string G.names,.slice B nb cb,.slice C nc cc]::pool)) (fun iv _ _ _=>nb-(intOf iv).toNat)
     case atStart=>exact⟨0,0,[],[],_,[],rfl,rfl,rfl,by omega,by omega,a9b _ _,b5d HGO2,H⟩
     case round =>
      clear H;obtain⟨i,q,us,pool,lx,acc,rfl,rfl,rfl,hi,hq,hP,hA,hS⟩:=hrel;have H:=Hd hS;have HP:=Hd hP;have HA:=Hd hA;clear hS hP hA;by_cases hlt:i<nb
      ·obtain⟨nd,hnd⟩:∃ nd,G.nodes[i]?=some nd:=gE (by have:=HBL.out;omega);obtain⟨la,S,ns,cs,D,nD,cD,E,ne,ce,hla,hlb,k0,k1,k2,k3,k4,k5,k6,hNL⟩:=HB.out.2.2 i nd hnd;subst hla;have c0:=H.oC k0 (a1i hlb);have c1:=H.oC k1 (a1i hlb);have c2:=H.oC k2 (a1i hlb);have c3:=H.oC k3 (a1i hlb);have c4:=H.oC k4 (a1i hlb);have c5:=H.oC k5 (a1i hlb);have c6:=H.oC k6 (a1i hlb);have HND:=Hd hnd;have HNL:=Hd hNL;have HSL:=Hd hNL.inA.len;have hnsl:=hNL.inA.le;have hns:ns≤800:=by have h5:=HSM.out i nd hnd;have h6:=hNL.inA.len;omega
       clear k0 k1 k2 k3 k4 k5 k6 hNL hnd;have h3:=H.allocBox wr.heap.size 38 [.int .i64 nd.op,.slice S ns cs,.slice D nD cD,.slice E ne ce,.int .i64 nd.n,.int .i64 nd.how,.string nd.note] rfl
       go_upto_region 18 with fail
       generalize wr.alloc (.cells #[.int .i64 nd.op,.slice S ns cs,.slice D nD cD,.slice E ne ce,.int .i64 nd.n,.int .i64 nd.how,.string nd.note] 38)=w4 at *;generalize wr.heap.size=gn at *;replace H:=Hd h3;clear h3 c0 c1 c2 c3 c4 c5 c6;have n0:=H.c 0 0;by_cases ho:nd.op=1
       ·obtain⟨t,ht,htr,hts,hA2⟩:=HA.param HND ho HFP;have HA2:=Hd hA2;have hqj:q<j:=by have:=HPL.out;have:=(lL ht);omega
        have dop:(nd.op==1)=true:=by simpa using ho
        obtain⟨ta,S5,sn5,sc5,D5,dn5,dc5,hta,htb,t0,t1,hTj⟩:=HTE.out.2.2 q t ht;subst hta;have y0:=H.oC t0 (a1i htb);have y1:=H.oC t1 (a1i htb);have HPN:=Hd (HP.snoc (.inr hTj));clear t0 t1 hTj htr hts hA2 ht ho htb
        go_wp2_with (at_builtin;refine a2l rfl (.tmp 70) (.tmp 75) 28 rfl underlying28 H.out 1 rfl rfl _ rfl ?c1 ?_)
        case c1=>omega
        intro v9 w9 h9;have h10:=Sep.tail_ (show Sep w w9 (_::.row 33 2 v9 (i+1) (us++[.slice S5 sn5 sc5,.slice D5 dn5 dc5])::.box w.heap.size 25 [.slice A na ca,.string G.names,.slice (some la) nb cb,.slice C nc cc]::pool) from h9);have H10:=Hd h10;clear h9 h10 n0 y0 y1;go_wp2;go_roundw
        case rel=>exact⟨i+1,q+1,_,pool,_,_,rfl,by go_num,by go_num,by omega,by omega,HPN,HA2,H10⟩
        case measure=>simp[intOf];omega
       ·obtain⟨hR,hf,hz,hA2⟩:=HA.work HND ho;have HA2:=Hd hA2;have HRT:=Hd hR;have HFM:=Hd hf;have HZ:=Hd hz;have HO:=Hd ho;have HIN:=Hd (HA.ins HND);have HAL:=Hd HA.len;have dop:(nd.op==1)=false:=by simpa using ho
        replace H:=Hd (H.addRowNil 33 2);have n1:=H.c 1 1;clear hR hf hz hA2 ho
        go_wp2_with fail
        clear n0 n1
        go_loopw [82,14] (fun iv ov wr=>∃(r:Nat) (us2:List Value) (lx2:Value),lx2=ov∧iv=.int .i64 r∧r≤ns∧b0f w us2 (insT acc (nd.ins.take r)) pool∧Sep w wr (.row 33 2 lx2 r us2::.box gn 38 [.int .i64 nd.op,.slice S ns cs,.slice D nD cD,.slice E ne ce,.int .i64 nd.n,.int .i64 nd.how,.string nd.note]::.row 33 2 lx i us::.box w.heap.size 25 [.slice A na ca,.string G.names,.slice (some la) nb cb,.slice C nc cc]::pool)) (fun iv _ _=>ns-(intOf iv).toNat)
        case atStart=>exact⟨0,[],_,rfl,rfl,by omega,a9b _ _,H⟩
        case round =>
         clear H;obtain⟨r,us2,lx2,rfl,rfl,hr,hP2,hS⟩:=hrel;have H:=Hd hS;have HP2:=Hd hP2;clear hS hP2;by_cases hlr:r<ns
         ·obtain⟨sa,x,hsA,_,hx,hcx,_⟩:=(H.oldI HNL.inA).at_ (k:=r) hlr;subst hsA;have hxi:=HIN.out r x hx;obtain⟨xx,rfl⟩:=eZ (by omega:0≤x);have hxj:xx<i:=by omega
          have hxj2:(xx:Int)<i:=by omega
          obtain⟨t,ht⟩:∃ t,acc[xx]?=some t:=gE (by have:=HAL.out;omega);obtain⟨S5,sn5,sc5,D5,dn5,dc5,u0,u1,hHT⟩:=HP.out.2 xx t ht;obtain⟨go,co,hv,hco⟩:=H.rowForm 2 rfl (by omega);subst hv;obtain⟨y0,y1⟩:=c7l 2 H rfl hxj u0 u1;have HPN:=Hd (show b0f w (us2++[.slice S5 sn5 sc5,.slice D5 dn5 dc5]) (insT acc (nd.ins.take (r+1))) pool by rw[b5a hx ht];exact HP2.snoc hHT);clear hx ht u0 u1 hHT hxi
          go_wp2_with (at_builtin;refine a2l rfl (.tmp 86) (.tmp 91) 28 rfl underlying28 H.out 0 rfl rfl _ rfl ?c1 ?_)
          case c1=>omega
          intro v9 w9 h9;have H9:=Hd h9;clear h9 y0 y1 hcx;go_wp2;go_roundw
          case rel=>exact⟨r+1,_,_,rfl,by go_num,by omega,HPN,H9⟩
          case measure=>simp[intOf];omega
         ·obtain rfl:r=ns:=by omega
          have hP3:=HP2.out;rw[List.take_of_length_le (by have:=HSL.out;omega)] at hP3;obtain⟨A9,c9,rfl,hc9,hT9⟩:=a6h 0 H rfl hP3 (by rw[insT,List.length_map];exact HSL) (by omega) 4 (fun k=>rfl);have CW:=a9w (ct:=c9) (a3k.wide (show a3k _ (.agg #[.int .i64 nd.op,.slice S r cs,.slice D nD cD,.slice E ne ce,.int .i64 nd.n,.int .i64 nd.how,.string nd.note]) nd from⟨S,r,cs,D,nD,cD,E,ne,ce,rfl,HNL.below H.base⟩)) hT9 HFM HO HRT;obtain⟨⟨E8,S8,D8⟩,hR8⟩:∃ z,a0r nd (insT acc nd.ins)=z:=⟨_,rfl⟩;have HA3:Hid (Amid nm G.nodes P LS (i+1) q (acc++[(S8,D8)])):=Hd (by have h9:=HA2.out;rw[hR8] at h9;exact h9);rw[hR8] at CW;clear hR8 hT9 hP3;obtain⟨n0,n1,n2,n3,n4,n5,n6⟩:=H.cells7 1 rfl
          go_wp2_with fail
          refine CW.mono ?_;rintro e7 w7 ⟨⟨u7,rfl,hu7⟩,hb7⟩;obtain⟨S1,m1,sc,D1,n9,dc,rfl,hs1,hd1,hsc,hdc,hNle,h5⟩:=H.addTen hb7 hu7;have h6:=h5.allocBox w7.heap.size 33 [.slice S1 m1 sc,.slice D1 n9 dc] rfl;clear CW n0 n1 n2 n3 n4 n5 n6 hu7 hb7 hs1 hd1 h5
          go_upto_region 28 with fail
          generalize w7.alloc (.cells #[.slice S1 m1 sc,.slice D1 n9 dc] 33)=w8 at *;generalize w7.heap.size=g8 at *;replace H:=Hd h6;clear h6;obtain⟨b0,b1⟩:=H.z2 0 rfl
          go_wp2_with (at_builtin;refine a2l rfl (.tmp 100) (.tmp 102) 28 rfl underlying28 H.out 5 rfl rfl _ rfl ?c1 ?_)
          case c1=>omega
          intro v9 w9 h9;have h10:=Sep.perm (Sep.tail_ (show Sep w w9 (_::a0c.own 3 (.slice S1 m1 sc) m1 S8::a0c.own 2 (.slice D1 n9 dc) n9 D8::_::_::.row 33 2 v9 (i+1) (us++[.slice S1 m1 sc,.slice D1 n9 dc])::.box w.heap.size 25 [.slice A na ca,.string G.names,.slice (some la) nb cb,.slice C nc cc]::pool) from h9)) (l':=[_,_,.row 33 2 v9 (i+1) (us++[.slice S1 m1 sc,.slice D1 n9 dc]),.box w.heap.size 25 [.slice A na ca,.string G.names,.slice (some la) nb cb,.slice C nc cc]]++([a0c.own 3 (.slice S1 m1 sc) m1 S8,a0c.own 2 (.slice D1 n9 dc) n9 D8]++pool)) (by rw[←List.append_assoc];exact(List.perm_append_comm (l₁:=[a0c.own 3 (.slice S1 m1 sc) m1 S8,a0c.own 2 (.slice D1 n9 dc) n9 D8]) (l₂:=[_,_,_,_])).append_right pool);have H10:=Hd (Sep.tail_ (Sep.tail_ h10));clear h9 h10 b0 b1;go_wp2;go_roundw
          case rel=>exact⟨i+1,q,_,a0c.own 3 (.slice S1 m1 sc) m1 S8::a0c.own 2 (.slice D1 n9 dc) n9 D8::pool,_,_,rfl,by go_num,rfl,by omega,hq,HP.up.snoc b5n.top,HA3,H10⟩
          case measure=>simp[intOf];omega
      ·obtain rfl:i=nb:=by omega
       obtain⟨A9,c9,rfl,hc9,hT9⟩:=a6h 0 H rfl HP HA.len (by omega) 2 (fun k=>rfl);have HT9:=Hd hT9;clear hT9;go_wp2;go_ret2;exact a8c (by rw[HX.out,(Amid.end_ (by have h9:=HA.out;rw[←HBL.out] at h9;exact h9)).1]) hc9 HT9 H.base
  ·have dm:((m:Int) != (nt:Int))=true:=by simpa using fun e=>hm (by omega)
   have HX:=Hd (a9d (P:=P) HE1 (fun hF=>hm (by have h8:=hF.1;rw[HPL.out,HPP.out] at h8;omega)));clear hm;go_wp2;go_ret2;exact a4m HX H.base
 ·have dz:(e1 != 0)=true:=by simpa using hz
  have HX:=Hd (c2o (P:=P) (G:=G) (by rw[HE1.out];exact hz));clear hz;go_wp2;go_ret2;exact a4m (by rw[HX.out,HE1.out]) H.base
theorem b5l (h:a6w G P=(0,L)):(a2f G).1=0∧FitP G.nodes P∧L=a2i P 0 [] G.nodes:=by
 by_cases h1:(a2f G).1=0
 ·by_cases h2:FitP G.nodes P
  ·rw[a7i h1 h2] at h;injection h with _ h
   exact⟨h1,h2,h.symm⟩
  ·rw[a9d h1 h2] at h;injection h with h;cases h
 ·rw[c2o h1] at h;injection h with h;exact absurd h h1
theorem c1q (h:a6w G P=(0,L)):∀ x∈G.outs,0≤x∧x<(L.length:Nat):=fun x hx=>by
 obtain⟨h1,h2,rfl⟩:=b5l h;obtain⟨LS,h3,_,_,h4⟩:=b1g h1;rw[(b4o h3 h2).2.2];exact h4 x hx
theorem c6b (h:a6w G P=(0,L)):L.length≤48∧G.outs.length≤48:=by
 obtain⟨h1,h2,rfl⟩:=b5l h;obtain⟨LS,h3,h4,h5,_⟩:=b1g h1;rw[(b4o h3 h2).2.2];exact⟨h4,h5⟩
theorem c9k (h:a6w G P=(e,L))(he:¬ e=0):a7p G P=(e,[]):=by rw[a7p,h,iN he]
theorem c3z (h:a6w G P=(0,L)):a7p G P=(0,insT L G.outs):=by rw[a7p,h,iP rfl]
theorem c3m (h:a2c w v G)(hs:a7y 800 G)(hT:Tens w At nt P)(hct:nt≤ct:=by omega)(hn:nt≤800:=by omega):
  Calls prog 29 #[v,.slice At nt ct] w (a9i w (a7p G P)):=by
 have HG:=h;obtain⟨A,na,ca,B,nb,cb,C,nc,cc,rfl,hL⟩:=h;replace HG:=Hd HG;have h1:=(Sep.nil w).allocBox w.heap.size 25 [.slice A na ca,.string G.names,.slice B nb cb,.slice C nc cc] rfl;have hicc:=hL.ic;have HCI:=Hd hL.inC;have hcle:=hL.inC.le;have HCL:=Hd hL.inC.len;have HTE:=Hd hT;have HSM:=Hd hs;clear hT hs hL
 go_enter func29,ntmps29
 go_upto_region 1 with fail
 generalize w.alloc (.cells #[.slice A na ca,.string G.names,.slice B nb cb,.slice C nc cc] 25)=W at *;have H:=Hd h1;clear h1;obtain⟨g0,g1,g2,g3⟩:=H.cells4 0 rfl;have C1:=b6n (ct:=ct) (HG.below H.base) HSM (HTE.below H.base);obtain⟨⟨e1,L1⟩,he1⟩:∃ r,a6w G P=r:=⟨_,rfl⟩;rw[he1] at C1;have HE1:=Hd he1;clear he1
 go_wp2_with fail
 refine C1.mono ?_;rintro e2 w2 ⟨⟨A1,n1,c1,rfl,hc1,hT1⟩,hb2⟩;replace H:=Hd (H.below hb2);have HT1:Hid (Tens w2 A1 n1 L1):=Hd hT1;clear C1 hb2 g0 g1 g2 g3 hT1;by_cases hz:e1=0
 ·subst hz;have HX:=Hd (c3z HE1);have HIN:=Hd (c1q HE1);have hfew:=c6b HE1;have hn48:n1≤48:=by have:=HT1.out.1;omega
  have hc48:nc≤48:=by have:=HCL.out;omega
  have HB2:=Hd H.base;have HC2:=Hd (HCI.below H.base);have g3:=H.c 0 3;replace H:=Hd ((Sep.nil w2).addRowNil 33 2);clear hfew
  go_wp2_with fail
  clear g3
  go_loopw [23,8] (fun iv ov wr=>∃(r:Nat) (us:List Value) (lx:Value),lx=ov∧iv=.int .i64 r∧r≤nc∧b0f w2 us (insT L1 (G.outs.take r)) []∧Sep w2 wr [.row 33 2 lx r us]) (fun iv _ _=>nc-(intOf iv).toNat)
  case atStart=>exact⟨0,[],_,rfl,rfl,by omega,a9b _ _,H⟩
  case round =>
   clear H;obtain⟨r,us,lx,rfl,rfl,hr,hP,hS⟩:=hrel;have H:=Hd hS;have HP:=Hd hP;clear hS hP;by_cases hlr:r<nc
   ·obtain⟨sa,x,hsA,_,hx,hcx,_⟩:=(H.oldI HC2).at_ (k:=r) hlr;subst hsA;have hxi:=HIN.out x (mG hx);obtain⟨xx,rfl⟩:=eZ (by omega:0≤x);have hxj:xx<n1:=by have:=HT1.out.1;omega
    have hxj2:(xx:Int)<n1:=by omega
    obtain⟨t,ht⟩:∃ t,L1[xx]?=some t:=gE (by have:=HT1.out.1;omega);obtain⟨ta,S5,sn5,sc5,D5,dn5,dc5,hta,htb,t0,t1,hTj⟩:=HT1.out.2.2 xx t ht;subst hta;have y0:=H.oC t0 (a1i htb);have y1:=H.oC t1 (a1i htb);have HPN:=Hd (show b0f w2 (us++[.slice S5 sn5 sc5,.slice D5 dn5 dc5]) (insT L1 (G.outs.take (r+1))) [] by rw[b5a hx ht];exact HP.snoc (.inr hTj));clear hx ht t0 t1 hTj hxi htb
    go_wp2_with (at_builtin;refine a2l rfl (.tmp 27) (.tmp 32) 28 rfl underlying28 H.out 0 rfl rfl _ rfl ?c1 ?_)
    case c1=>omega
    intro v9 w9 h9;have H9:=Hd h9;clear h9 y0 y1 hcx;go_wp2;go_roundw
    case rel=>exact⟨r+1,_,_,rfl,by go_num,by omega,HPN,H9⟩
    case measure=>simp[intOf];omega
   ·obtain rfl:r=nc:=by omega
    have hP3:=HP.out;rw[List.take_of_length_le (by have:=HCL.out;omega)] at hP3;obtain⟨A9,c9,rfl,hc9,hT9⟩:=a6h 0 H rfl hP3 (by rw[insT,List.length_map];exact HCL) (by omega) 1 (fun k=>rfl);have HT9:=Hd hT9;clear hT9 hP3;go_wp2;go_ret2;exact a8c HX hc9 HT9 (a1m HB2 H.base)
 ·have dz:(e1 != 0)=true:=by simpa using hz
  have HX:=Hd (c9k HE1 hz);clear hz;go_wp2;go_ret2;exact a4m HX H.base
theorem b8q (h:a2c w v G)(hI:Ints w A0 n0 xs)(hP:∀(j:Nat) (x:Int),(parF 0 G.nodes)[j]?=some x→∃ nd,G.nodes[x.toNat]?=some nd∧Sh.right nd.shape=true)(hf:(parF 0 G.nodes).length≤700):
  Calls prog 9 #[v,.slice A0 n0 c0] w fun e w'=>(∃ v m us pool P,e=.returned v∧m≤700∧P.length=m∧Pool us P pool∧FitP G.nodes P∧∀(w0:World) (l:List a0c),Sep w0 w l→Sep w0 w' (.row 33 2 v m us::(pool++l)))∧Below w.heap.size w w':=by
 have HG:=h;obtain⟨A,na,ca,B,nb,cb,C,nc,cc,rfl,hL⟩:=h;replace HG:=Hd HG;have h1:=(Sep.nil w).allocBox w.heap.size 25 [.slice A na ca,.string G.names,.slice B nb cb,.slice C nc cc] rfl;have q1:=(Below.refl w.heap.size w).alloc (Nat.le_refl _) (.cells #[.slice A na ca,.string G.names,.slice B nb cb,.slice C nc cc] 25);have hT:=d7j (c:=c0) (hI.below q1);have HBT:=Hd (hL.inB.below q1);have HBL:=Hd hL.inB.1;have hnb9:=hL.inB.2.1;have hz1:(w.alloc (.cells #[.slice A na ca,.string G.names,.slice B nb cb,.slice C nc cc] 25)).heap.size=w.heap.size+1:=by simp
 rw[hz1] at hT;have s1:=Sep.startTape hz1 hT;have HPQ:=Hd hP;have HF:=Hd hf;clear hT hL hI hP hf
 go_enter func9,ntmps9
 go_upto_region 2 with fail
 generalize (w.alloc (.cells #[.slice A na ca,.string G.names,.slice B nb cb,.slice C nc cc] 25)).alloc (.cells #[.slice A0 n0 c0,.int .i64 0] 52)=W at *;generalize w.alloc (.cells #[.slice A na ca,.string G.names,.slice B nb cb,.slice C nc cc] 25)=wT at *;have H:=Hd s1;have HQ:=Hd q1;have HGB:Hid (w.heap.size<wT.heap.size):=Hd (by rw[hz1];omega);have HQ0:Hid (wT.cell? ⟨w.heap.size,0,none⟩=some (.slice A na ca)):=Hd (h1.c 0 0);have HQ1:Hid (wT.cell? ⟨w.heap.size,1,none⟩=some (.string G.names)):=Hd (h1.c 0 1);have HQ2:Hid (wT.cell? ⟨w.heap.size,2,none⟩=some (.slice B nb cb)):=Hd (h1.c 0 2);have HQ3:Hid (wT.cell? ⟨w.heap.size,3,none⟩=some (.slice C nc cc)):=Hd (h1.c 0 3);generalize hgT:w.heap.size+1=gT at *;clear s1 hz1 q1 h1 hgT;have g0:=H.oldCell HGB.out HQ0.out;have g1:=H.oldCell HGB.out HQ1.out;have g2:=H.oldCell HGB.out HQ2.out;have g3:=H.oldCell HGB.out HQ3.out;have C2:=a7s ((HG.below HQ).below H.base)
 go_wp2_with fail
 refine C2.mono ?_;rintro e3 w3 ⟨⟨v3,m,rfl,hO⟩,hb3⟩;obtain⟨Ap,cp,rfl,hcp,_,_⟩:=hO.form;replace H:=Hd ((H.addOwn hb3 hO).addRowNil 33 2);have HPP:=Hd (H.ownInts 1 rfl).2.2.len;have hm9:m≤700:=by have:=HPP.out;have:=HF.out;omega
 clear C2 hb3 hO g0 g1 g2 g3
 go_wp2_with fail
 go_loopw [15,6] (fun iv ov wr=>∃(j:Nat) (us:List Value) (pool:List a0c) (lx:Value) (L:TL),lx=ov∧iv=.int .i64 j∧j≤m∧L.length=j∧c7k G.nodes L j∧Pool us L pool∧(∀ c∈pool,c.mine)∧Sep wT wr (.row 33 2 lx j us::.own 3 (.slice Ap m cp) m (parF 0 G.nodes)::.tape gT::pool)) (fun iv _ _=>m-(intOf iv).toNat)
 case atStart=>exact⟨0,[],[],_,[],rfl,rfl,by omega,rfl,(fun j k t _ ht _=>by simp at ht),c9d,(fun c hc=>by simp at hc),H⟩
 case round =>
  clear H;obtain⟨j,us,pool,lx,L,rfl,rfl,hj,hLl,hF,hP,hM,hS⟩:=hrel;have HM:=Hd hM;have H:=Hd hS;have HP:=Hd hP;have HFT:=Hd hF;have HLL:=Hd hLl;clear hS hP hF hLl hM;by_cases hlt:j<m
  ·obtain⟨pa,x,hpA,hpb,hx,hcx,_⟩:=(H.ownInts 1 rfl).2.2.at_ (k:=j) hlt;subst hpA;have hxi:=b0p G.nodes 0 x (mG hx);obtain⟨nd,hnd,hrt⟩:=HPQ.out j x hx;obtain⟨xx,rfl⟩:=eZ (by omega:0≤x);rw[Int.toNat_natCast] at hnd;have hxb:xx<nb:=by have:=HBL.out;omega
   have hxb2:(xx:Int)<nb:=by omega
   obtain⟨la,S,ns,cs,D,nD,cD,E,ne,ce,hla,hlb,k0,k1,k2,k3,k4,k5,k6,hNL⟩:=HBT.out.2.2 xx nd hnd;subst hla;have c2:=H.oC k2 (a1i hlb);have g2:=H.oldCell HGB.out HQ2.out;have hD4:nD≤4:=by have:=(Sh.right_iff.1 hrt).1;have:=hNL.inB.len;omega
   have C5:=c0p (c:=cD) (H.tape 2 rfl) (H.oldI hNL.inB) (by omega);have HXX:=Hd hx;have HRT:=Hd hrt;have HSH:=Hd (c1s hnd);clear k0 k1 k2 k3 k4 k5 k6 hNL hnd hx hrt hxi hlb
   go_wp2_with fail
   refine C5.mono ?_;rintro e5 w5 ⟨⟨v5,d5,rfl,hOT,hdl⟩,hR5⟩;obtain⟨vs,vd,n5,m5,rfl,ho1,ho2⟩:=hOT;obtain⟨S5,sc5,rfl,_,_,_⟩:=ho1.form;obtain⟨D5,dc5,rfl,_,_,_⟩:=ho2.form;have HDL:=Hd hdl;have h5:=H.readOwn2 2 rfl hR5 ho1 ho2 (Ne.symm b2d.1);replace H:=Hd h5;clear C5 ho1 ho2 h5 hR5 hdl c2 g2 hcx
   go_wp2_with (at_builtin;refine a2l rfl (.tmp 19) (.tmp 28) 28 rfl underlying28 H.out 2 rfl rfl _ rfl ?c1 ?_)
   case c1=>omega
   intro v9 w9 h9;have h10:=Sep.perm (show Sep wT w9 (a0c.own 3 (.slice S5 n5 sc5) n5 nd.shape::a0c.own 2 (.slice D5 m5 dc5) m5 d5::.row 33 2 v9 (j+1) (us++[.slice S5 n5 sc5,.slice D5 m5 dc5])::.own 3 (.slice (some pa) m cp) m (parF 0 G.nodes)::.tape gT::pool) from h9) (l':=[.row 33 2 v9 (j+1) (us++[.slice S5 n5 sc5,.slice D5 m5 dc5]),.own 3 (.slice (some pa) m cp) m (parF 0 G.nodes),.tape gT]++([a0c.own 3 (.slice S5 n5 sc5) n5 nd.shape,a0c.own 2 (.slice D5 m5 dc5) m5 d5]++pool)) (by rw[←List.append_assoc];exact(List.perm_append_comm (l₁:=[a0c.own 3 (.slice S5 n5 sc5) n5 nd.shape,a0c.own 2 (.slice D5 m5 dc5) m5 d5]) (l₂:=[_,_,_])).append_right pool);have H10:=Hd h10;clear h9 h10
   have HFN:=Hd (show c7k G.nodes (L++[(nd.shape,d5)]) (j+1) from fun i x u hx hu hi=>by
    rcases Nat.lt_or_ge i j with hij|hij
    ·rw[List.getElem?_append_left (by have:=HLL.out;omega)] at hu;exact HFT i x u hx hu hij
    ·obtain rfl:i=j:=by omega
     rw[List.getElem?_append_right (by have:=HLL.out;omega),HLL.out,Nat.sub_self] at hu;simp at hu;subst hu;have h8:=HXX.out;rw[hx] at h8;injection h8 with h8;subst h8
     exact⟨a9g HRT HDL,HSH.symm⟩)
   go_wp2;go_roundw
   case rel=>exact⟨j+1,_,a0c.own 3 (.slice S5 n5 sc5) n5 nd.shape::a0c.own 2 (.slice D5 m5 dc5) m5 d5::pool,_,_,rfl,by go_num,by omega,by rw[List.length_append,List.length_singleton,HLL.out],HFN,HP.more (t:=(nd.shape,d5)),(fun c hc=>by
    rcases List.mem_cons.1 hc with rfl|hc
    ·trivial
    ·rcases List.mem_cons.1 hc with rfl|hc
     ·trivial
     ·exact HM c hc),H10⟩
   case measure=>simp[intOf];omega
  ·obtain rfl:j=m:=by omega
   have HJ:=Hd (H.less1.less1);go_wp2;go_ret
   exact⟨⟨lx,_,us,pool,L,rfl,hm9,HLL,HP,⟨by rw[HLL.out,HPP.out],by rw[HLL.out];exact HFT⟩,fun w0 l hl=>hl.join (a1m HQ H.base) HJ (by have:=HGB.out;omega) (fun c hc=>by
    rcases List.mem_cons.1 hc with rfl|hc
    ·trivial
    ·exact HM c hc)⟩,a1m HQ H.base⟩
theorem c7y (h:a2c w v G)(hI:Ints w A0 n0 xs)(hP:∀(j:Nat) (x:Int),(parF 0 G.nodes)[j]?=some x→∃ nd,G.nodes[x.toNat]?=some nd∧Sh.right nd.shape=true)(hf:(parF 0 G.nodes).length≤700):
  Calls prog 9 #[v,.slice A0 n0 c0] w fun e w'=>(∃ A m c P,e=.returned (.slice A m c)∧m≤c∧m≤700∧FitP G.nodes P∧∀(w9:World) (row:Option Nat),w'.grownBy w9 row→(∀ g,row=some g→g<w.heap.size)→Tens w9 A m P)∧Below w.heap.size w w':=by
 refine(b8q h hI hP hf).mono ?_;rintro e w' ⟨⟨v1,m,us,pool,P,rfl,hm,hl,hPl,hF,hS⟩,hb⟩;obtain⟨A,c,rfl,hc,hT⟩:=d1i (hS w [] (Sep.nil w)) hPl hl (by omega) 0 (fun i=>by simp);exact⟨⟨A,m,c,P,rfl,hc,hm,hF,hT⟩,hb⟩
end Go.Proofs.YtjblengklgkgfaaGreat
