import Derived.Test.YtajhdeddgdhccaaGreatDoorPaj
set_option maxRecDepth 100000
set_option maxHeartbeats 12800000
namespace Go.Proofs.YtajhdeddgdhccaaGreatDoor
open Go.RowKit Go.Proofs.Tryz
variable {D D' S S':Option Addr} {cd cs d k s t:List Int} {dc dc' dn dn' g sc sc' sn sn':Nat} {v v':Value} {w:World}
theorem d3a (hg:w.heap[g]?=some (.cells #[.slice S sn sc,.slice D dn dc,.slice S' sn' sc', .slice D' dn' dc'] 84 (0,0)))
  (h:Ten w (.agg #[.slice S sn sc,.slice D dn dc]) s d)(h' : Ten w (.agg #[.slice S' sn' sc', .slice D' dn' dc']) t k):Tens w (some ⟨g,0,none⟩) 2 [(s,d),(t,k)] :=
 ⟨rfl,by omega,fun j x hx=>by
  have c0:w.cell? ⟨g,0,none⟩=_:=cell_of_row _ _ 0 _ _ _ hg;have c1:w.cell? ⟨g,1,none⟩=_:=cell_of_row _ _ 1 _ _ _ hg;have c2:w.cell? ⟨g,2,none⟩=_:=cell_of_row _ _ 2 _ _ _ hg;have c3:w.cell? ⟨g,3,none⟩=_:=cell_of_row _ _ 3 _ _ _ hg
  match j,hx with
  | 0,hx=>simp at hx;subst hx;exact⟨_,S,sn,sc,D,dn,dc,rfl,block_lt_of_cell c0,c0,c1,h⟩
  | 1,hx=>simp at hx;subst hx;exact⟨_,S', sn', sc', D', dn', dc', rfl,block_lt_of_cell c0,c2,c3,h'⟩
  | j+2,hx=>simp at hx⟩
theorem d0d:allR (s,d) [(s,d),(t,k)]=if (a0a s d&&(a0a t k&&t==s))=true then 0 else 13:=by simp[allR]
theorem c8q (h:(a0a s d&&(a0a t k&&t==s))=true):a0a s d=true∧a0a t k=true∧t=s:=by
 simp only[Bool.and_eq_true,beq_iff_eq] at h;exact⟨h.1,h.2.1,h.2.2⟩
theorem c2b (op:Int)(h:Ten w v s d)(h' : Ten w v' t k):
  Calls prog 72 #[.int .i64 op,v,v'] w fun e w'=>(∃ u,e=.returned (.tuple #[u,.int .i64 (twoR op s d t k).1])∧OTen w' w.heap.size u (twoR op s d t k).2.1 (twoR op s d t k).2.2)∧Below w.heap.size w w':=by
 obtain⟨A,n,c,B,m,e,rfl,hnc,hme,hI,hJ⟩:=h;obtain⟨A', n', c', B', m', e', rfl,hnc', hme', hI', hJ'⟩:=h';have hz:=(((Below.refl w.heap.size w).alloc (Nat.le_refl _) (.cells #[.slice A n c,.slice B m e] 84)).alloc (by simp) (.cells #[.slice A' n' c', .slice B' m' e'] 84)).alloc (by simp;omega) (.cells #[.slice none 0 0,.slice none 0 0] 84);have ha:(((w.alloc (.cells #[.slice A n c,.slice B m e] 84)).alloc (.cells #[.slice A' n' c', .slice B' m' e'] 84)).alloc (.cells #[.slice none 0 0,.slice none 0 0] 84)).heap[w.heap.size]?=some (.cells #[.slice A n c,.slice B m e] 84):=c2p w (.cells #[.slice A n c,.slice B m e] 84) (.cells #[.slice A' n' c', .slice B' m' e'] 84) (.cells #[.slice none 0 0,.slice none 0 0] 84);have ha' : (((w.alloc (.cells #[.slice A n c,.slice B m e] 84)).alloc (.cells #[.slice A' n' c', .slice B' m' e'] 84)).alloc (.cells #[.slice none 0 0,.slice none 0 0] 84)).heap[w.heap.size+1]?=some (.cells #[.slice A' n' c', .slice B' m' e'] 84):=c2q w (.cells #[.slice A n c,.slice B m e] 84) (.cells #[.slice A' n' c', .slice B' m' e'] 84) (.cells #[.slice none 0 0,.slice none 0 0] 84);have hr:(((w.alloc (.cells #[.slice A n c,.slice B m e] 84)).alloc (.cells #[.slice A' n' c', .slice B' m' e'] 84)).alloc (.cells #[.slice none 0 0,.slice none 0 0] 84)).heap[w.heap.size+1+1]?=some (.cells #[.slice none 0 0,.slice none 0 0] 84):=c2r w (.cells #[.slice A n c,.slice B m e] 84) (.cells #[.slice A' n' c', .slice B' m' e'] 84) (.cells #[.slice none 0 0,.slice none 0 0] 84);have hzs:(((w.alloc (.cells #[.slice A n c,.slice B m e] 84)).alloc (.cells #[.slice A' n' c', .slice B' m' e'] 84)).alloc (.cells #[.slice none 0 0,.slice none 0 0] 84)).heap.size=w.heap.size+1+1+1:=by simp
 go_enter func72,ntmps72
 go_upto_region 1 with fail
 generalize ((w.alloc (.cells #[.slice A n c,.slice B m e] 84)).alloc (.cells #[.slice A' n' c', .slice B' m' e'] 84)).alloc (.cells #[.slice none 0 0,.slice none 0 0] 84)=W at *;have HT:=Hd (a3d (hI.below hz) hnc (hJ.below hz) hme);have HT':=Hd (a3d (hI'.below hz) hnc' (hJ'.below hz) hme');have HA':=Hd ha';have HZ:=Hd hz;have HZS:=Hd hzs;have HA:=Hd ha;have HR:=Hd hr;clear hI hJ hI' hJ' hz hzs ha ha' hr;have a0:=a1n HA;have a1:=a1b HA;have b0:=a1n HA';have b1:=a1b HA';have d0:=a1n HR;have d1:=a1b HR;have f0:=frozen_of_row _ _ 0 _ _ HR;have f1:=frozen_of_row _ _ 1 _ _ HR;by_cases hop:op<6∨11<op
 ·have HX:=Hd (d3g (s:=s) (d:=d) (t:=t) (k:=k) hop);have hgs:op<6∨(¬ op<6∧op > 11):=by omega
  clear a0 a1 b0 b1 hop;rcases hgs with hg4|⟨hg4,hg5⟩
  all_goals (
   go_wp2;rw[HX.out];refine a5j (w.heap.size+1+1) _ _ (.int .i64 1) results72 rfl rfl (a2v HR _ _) rfl ?_;exact⟨⟨_,rfl,_,_,0,0,rfl,OwnS.nil_ _ _ _,OwnS.nil_ _ _ _⟩,(HZ.setCell (by show w.heap.size≤w.heap.size+1+1;omega) _).setCell (by show w.heap.size≤w.heap.size+1+1;omega) _⟩
   )
 ·have hop' : 6≤op∧op≤11:=by omega
  clear hop;obtain⟨tgt,htg⟩:∃ z,z=List.zipWith (a3m op) d k:=⟨_,rfl⟩;have HQ1:=Hd (fun hr:(a0a s d&&(a0a t k&&t==s))=false=>c5t hop' hr);have HQ2:=Hd (fun hr:(a0a s d&&(a0a t k&&t==s))=true=>(d5c hop' hr).trans (show _=((0,s,tgt):Int × List Int × List Int) by rw[htg]));have HAT:=Hd (show ∀ j x y,d[j]?=some x→k[j]?=some y→tgt[j]?=some (a3m op x y) from fun j x y hx hy=>by rw[htg];exact d5y hx hy);have HTL:=Hd (show k.length=d.length→tgt.length=d.length by intro hl;rw[htg];simp;omega);clear htg;have hg4:¬ op<6:=by omega
  have hg5:¬ op > 11:=by omega
  clear hop';have hx:=(Below.refl W.heap.size W).alloc (Nat.le_refl _) (.cells #[.slice A n c,.slice B m e,.slice A' n' c', .slice B' m' e'] 84);have C1:=a9n (c:=2) (d3a (heap_alloc_new W (.cells #[.slice A n c,.slice B m e,.slice A' n' c', .slice B' m' e'] 84)) (HT.below hx) (HT'.below hx));rw[d0d] at C1;have HX:=Hd hx;clear hx
  go_wp2_with fail
  cases hr:(a0a s d&&(a0a t k&&t==s)) with
  | false =>
   rw[hr] at C1;refine C1.mono ?_;rintro e2 w2 ⟨rfl,hb2⟩;have HB:=Hd (a1t HX hb2);have HQ:=Hd (HQ1 hr);have hr2:=(HB.block (w.heap.size+1+1) (by have:=HZS.out;omega)).trans HR;have d0:=a1n hr2;have d1:=a1b hr2;have f0:=frozen_of_row _ _ 0 _ _ hr2;have f1:=frozen_of_row _ _ 1 _ _ hr2;have HR2:=Hd hr2;clear hb2 hr hr2 C1;go_wp2;rw[HQ.out];refine a5j (w.heap.size+1+1) _ _ (.int .i64 13) results72 rfl rfl (a2v HR2 _ _) rfl ?_
   exact⟨⟨_,rfl,_,_,0,0,rfl,OwnS.nil_ _ _ _,OwnS.nil_ _ _ _⟩,((a1t HZ HB).setCell (by show w.heap.size≤w.heap.size+1+1;omega) _).setCell (by show w.heap.size≤w.heap.size+1+1;omega) _⟩
  | true =>
   rw[hr] at C1;refine C1.mono ?_;rintro e2 w2 ⟨rfl,hb2⟩;have HB:=Hd (a1t HX hb2);have HRT:=Hd hr;obtain⟨hra,hrb,hrs⟩:=c8q hr;have HRA:=Hd hra;have HTL:=Hd (HTL (by have:=a1u hra;have:=a1u hrb;rw[hrs] at *;omega));have HKL:=Hd (show k.length=d.length by have:=a1u hra;have:=a1u hrb;rw[hrs] at *;omega);clear hra hrb hrs;have a0:=a8h HB a0;have a1:=a8h HB a1;have HT2:=Hd (HT.below HB);obtain⟨i1,i2⟩:=a0w HT2;have I1:=Hd i1;have I2:=Hd i2;clear hb2 hr C1 i1 i2
   go_wp2_with fail
   refine(a1i 0 I1 (by have:=(a2l HRA).1;have:=I1.len;omega) ⟨by omega,by omega⟩).mono ?_;rintro e3 w3 ⟨⟨u,rfl,hu⟩,hb3⟩;obtain⟨vs,vd,ns,N,rfl,hvs,hvd⟩:=hu;have hNs:(Sh.size s).toNat=N:=by have:=hvd.len;rwa [List.length_replicate] at this
   have hN:tgt.length=N:=by have:=a1u HRA;have:=HTL.out;omega
   rw[hNs] at hvd;clear hNs;have hNle:N≤9223372036854775807:=hvd.2.2;obtain⟨A1,k1,rfl,_,_,_⟩:=hvs.form;obtain⟨D1,k2,rfl,_,_,_⟩:=hvd.form;have hL:=b1h (a1t HB hb3) (hvs.mono HB.size) (hvd.mono HB.size);have HN:=Hd hN;clear hb3 hvs hvd hN a0 a1 b0 b1
   go_upto_region 7 with fail
   generalize w3.alloc (.cells #[.slice A1 ns k1,.slice D1 N k2] 84)=w4 at *;generalize w3.heap.size=gt at *;have t1:=a1b hL.2.1;have HL:=Hd hL;clear hL
   go_wp2_with fail
   clear t1
   go_loopw [32] (fun kv wr=>∃ j:Nat,kv=.int .i64 j∧j≤N∧a5g W wr gt A1 D1 ns k1 N k2 s (mix tgt (List.replicate N 0) j)) (fun kv _=>N - (intOf kv).toNat)
   case atStart=>exact⟨0,rfl,by omega,by rw[a3q];exact HL⟩
   case round =>
    obtain⟨j,rfl,hj,hL⟩:=hrel;have hLr:=hL;have HLr:=Hd hL;have t0:=a1n hL.2.1;have t1:=a1b hL.2.1;have hb:=hL.2.2.2.2;have hz:=(hb.block (w.heap.size+1+1) (by have:=HZS.out;omega)).trans HR;have HB4:=Hd hb;have HT4:=Hd (HT.below hb);have HT5:=Hd (HT'.below hb);have b1:=a1b ((hb.block (w.heap.size+1) (by have:=HZS.out;omega)).trans HA');have a1:=a1b ((hb.block w.heap.size (by have:=HZS.out;omega)).trans HA);have hgt:=hL.1;by_cases hlt:j<N
    ·obtain⟨gb,cb,hv,hO⟩:=hL.2.2.2.1.own (by omega);injection hv with hv1 _ hv3
     subst hv1;subst hv3;obtain⟨_,i2⟩:=a0w HT4;have hjm:j<m:=by have:=i2.len;have:=HN.out;have:=HTL.out;omega
     obtain⟨bd,x,rfl,hbl,hx,hcx,hfx⟩:=i2.at_ (k:=j) hjm;obtain⟨_,i3⟩:=a0w HT5;have hjm' : j<m':=by have:=i3.len;have:=HN.out;have:=HTL.out;have:=HKL.out;omega
     obtain⟨bd', y,rfl,hbl', hy,hcy,hfy⟩:=i3.at_ (k:=j) hjm';have HS:=Hd ((HLr.drew 1).store j (b6r op hfx hfy));have HX:=Hd hx;have HY:=Hd hy;have HF:=Hd hfx;have hcs:=hO.cell (a6k HN hlt);have hfs:=hO.frozen j;obtain⟨hn1,hn2⟩:=hLr.ne;have hbW:=(a0w HT).2.lt bd rfl (by omega);have k0:=a2b (q:=⟨gb,j,none⟩) (u:=.int .i64 (a3m op x y)) t1 hn1;have k1:=a2b (q:=⟨gb,j,none⟩) (u:=.int .i64 (a3m op x y)) a1 (by show w.heap.size≠gb;have:=HZS.out;omega);have hbW':=(a0w HT').2.lt bd' rfl (by omega);have k3:=a2b (q:=⟨gb,j,none⟩) (u:=.int .i64 (a3m op x y)) b1 (by show w.heap.size+1≠gb;have:=HZS.out;omega);have k4:=a2b (q:=⟨gb,j,none⟩) (u:=.int .i64 (a3m op x y)) hcy (by rw[a0d];show bd'.block≠gb;omega);have k2':=a2b (q:=⟨gb,j,none⟩) (u:=.int .i64 (a3m op x y)) hcx (by rw[a0d];show bd.block≠gb;omega);clear hL hb hz i2 i3 hO hx hfx hy hfy t0
     go_wp2_with fail
     go_region_held3 (fun w'=>w'.cell? ⟨gt,1,none⟩=some (.slice (some ⟨gb,0,none⟩) N k2)∧w'.cell? ⟨w.heap.size,1,none⟩=some (.slice (some bd) m e)∧w'.cell? (bd.add j)=some (.int .i64 x)∧w'.cell? ⟨w.heap.size+1,1,none⟩=some (.slice (some bd') m' e')∧w'.cell? (bd'.add j)=some (.int .i64 y)) (go_keep)
      (first|(go_at_call 88;refine(b2b _ _ _ _).mono ?_;rintro e5 w5 ⟨rfl,rfl⟩))
     clear k0 k1 k2' k3 k4 a1 b1 t1 hcx hcy hcs hfs;go_wp2;go_roundw
     case rel=>exact⟨j+1,by go_num,by omega,by rw[←a4j HN.out (HAT.out j x y HX.out HY.out)];exact HS⟩
     case measure=>simp[intOf];omega
    ·obtain rfl:j=N:=by omega
     rw[a6j HN.out] at HLr;have d0:=a1n hz;have d1:=a1b hz;have f0:=frozen_of_row _ _ 0 _ _ hz;have f1:=frozen_of_row _ _ 1 _ _ hz;have HZr:=Hd hz;have HQ:=Hd (HQ2 HRT);clear hL hb hz a1 b1;go_wp2;rw[HQ.out];refine a5j (w.heap.size+1+1) _ _ (.int .i64 0) results72 rfl rfl (a2v HZr _ _) rfl ?_;have hgr:=a2s (a0t wr (w.heap.size+1+1) 0 (.slice A1 ns k1)) (a0t _ (w.heap.size+1+1) 1 (.slice D1 j k2));exact⟨⟨_,rfl,_,_,ns,j,rfl,(HLr.out.2.2.1.grown hgr (by have:=HZS.out;omega)).mono (by have:=HZS.out;omega),(HLr.out.2.2.2.1.grown hgr (by have:=HZS.out;omega)).mono (by have:=HZS.out;omega)⟩,((a1t HZ HB4).setCell (by show w.heap.size≤w.heap.size+1+1;omega) _).setCell (by show w.heap.size≤w.heap.size+1+1;omega) _⟩
theorem c5p {S0 D0:Option Addr}{sn0 sc0 dn0 dc0:Nat} 
  (hg:w.heap[g]?=some (.cells #[.slice S0 sn0 sc0,.slice D0 dn0 dc0,.slice S sn sc,.slice D dn dc,.slice S' sn' sc', .slice D' dn' dc'] 84 (0,0)))
  (h0:Ten w (.agg #[.slice S0 sn0 sc0,.slice D0 dn0 dc0]) cs cd)(h:Ten w (.agg #[.slice S sn sc,.slice D dn dc]) s d)(h' : Ten w (.agg #[.slice S' sn' sc', .slice D' dn' dc']) t k):Tens w (some ⟨g,0,none⟩) 3 [(cs,cd),(s,d),(t,k)] :=
 ⟨rfl,by omega,fun j x hx=>by
  have c0:w.cell? ⟨g,0,none⟩=_:=cell_of_row _ _ 0 _ _ _ hg;have c1:w.cell? ⟨g,1,none⟩=_:=cell_of_row _ _ 1 _ _ _ hg;have c2:w.cell? ⟨g,2,none⟩=_:=cell_of_row _ _ 2 _ _ _ hg;have c3:w.cell? ⟨g,3,none⟩=_:=cell_of_row _ _ 3 _ _ _ hg;have c4:w.cell? ⟨g,4,none⟩=_:=cell_of_row _ _ 4 _ _ _ hg;have c5:w.cell? ⟨g,5,none⟩=_:=cell_of_row _ _ 5 _ _ _ hg
  match j,hx with
  | 0,hx=>simp at hx;subst hx;exact⟨_,S0,sn0,sc0,D0,dn0,dc0,rfl,block_lt_of_cell c0,c0,c1,h0⟩
  | 1,hx=>simp at hx;subst hx;exact⟨_,S,sn,sc,D,dn,dc,rfl,block_lt_of_cell c0,c2,c3,h⟩
  | 2,hx=>simp at hx;subst hx;exact⟨_,S', sn', sc', D', dn', dc', rfl,block_lt_of_cell c0,c4,c5,h'⟩
  | j+3,hx=>simp at hx⟩
theorem c4d:allR (cs,cd) [(cs,cd),(s,d),(t,k)]=if (a0a cs cd&&(a0a s d&&s==cs&&(a0a t k&&t==cs)))=true then 0 else 13:=by simp[allR]
theorem c2d (h:(a0a cs cd&&(a0a s d&&s==cs&&(a0a t k&&t==cs)))=true):a0a cs cd=true∧a0a s d=true∧a0a t k=true∧s=cs∧t=cs:=by
 simp only[Bool.and_eq_true,beq_iff_eq] at h;exact⟨h.1,h.2.1.1,h.2.2.1,h.2.1.2,h.2.2.2⟩
theorem d2j (h:(a0a cs cd&&(a0a s d&&s==cs&&(a0a t k&&t==cs)))=true):b1k cs cd s d t k=(0,s,b5j cd d k):=by rw[b1k,iP h]
theorem c1y (h:(a0a cs cd&&(a0a s d&&s==cs&&(a0a t k&&t==cs)))=false):b1k cs cd s d t k=refused 13:=by rw[b1k,h];rfl
theorem b9x {v0:Value}(h0:Ten w v0 cs cd)(h:Ten w v s d)(h' : Ten w v' t k):
  Calls prog 63 #[v0,v,v'] w fun e w'=>(∃ u,e=.returned (.tuple #[u,.int .i64 (b1k cs cd s d t k).1])∧OTen w' w.heap.size u (b1k cs cd s d t k).2.1 (b1k cs cd s d t k).2.2)∧Below w.heap.size w w':=by
 obtain⟨A0,n0,c0,B0,m0,e0,rfl,hnc0,hme0,hI0,hJ0⟩:=h0;obtain⟨A,n,c,B,m,e,rfl,hnc,hme,hI,hJ⟩:=h;obtain⟨A', n', c', B', m', e', rfl,hnc', hme', hI', hJ'⟩:=h';have hz0:=(((Below.refl w.heap.size w).alloc (Nat.le_refl _) (.cells #[.slice A0 n0 c0,.slice B0 m0 e0] 84)).alloc (by simp) (.cells #[.slice A n c,.slice B m e] 84)).alloc (by simp;omega) (.cells #[.slice A' n' c', .slice B' m' e'] 84);have hz:=hz0.alloc (by simp;omega) (.cells #[.slice none 0 0,.slice none 0 0] 84);have hx0:(((w.alloc (.cells #[.slice A0 n0 c0,.slice B0 m0 e0] 84)).alloc (.cells #[.slice A n c,.slice B m e] 84)).alloc (.cells #[.slice A' n' c', .slice B' m' e'] 84)).heap.size=w.heap.size+1+1+1:=by simp
 have hzx:=(Below.refl (((w.alloc (.cells #[.slice A0 n0 c0,.slice B0 m0 e0] 84)).alloc (.cells #[.slice A n c,.slice B m e] 84)).alloc (.cells #[.slice A' n' c', .slice B' m' e'] 84)).heap.size (((w.alloc (.cells #[.slice A0 n0 c0,.slice B0 m0 e0] 84)).alloc (.cells #[.slice A n c,.slice B m e] 84)).alloc (.cells #[.slice A' n' c', .slice B' m' e'] 84))).alloc (Nat.le_refl _) (.cells #[.slice none 0 0,.slice none 0 0] 84);have hc:((((w.alloc (.cells #[.slice A0 n0 c0,.slice B0 m0 e0] 84)).alloc (.cells #[.slice A n c,.slice B m e] 84)).alloc (.cells #[.slice A' n' c', .slice B' m' e'] 84)).alloc (.cells #[.slice none 0 0,.slice none 0 0] 84)).heap[w.heap.size]?=some (.cells #[.slice A0 n0 c0,.slice B0 m0 e0] 84):=(hzx.block _ (by rw[hx0];omega)).trans (c2p w (.cells #[.slice A0 n0 c0,.slice B0 m0 e0] 84) (.cells #[.slice A n c,.slice B m e] 84) (.cells #[.slice A' n' c', .slice B' m' e'] 84));have ha:((((w.alloc (.cells #[.slice A0 n0 c0,.slice B0 m0 e0] 84)).alloc (.cells #[.slice A n c,.slice B m e] 84)).alloc (.cells #[.slice A' n' c', .slice B' m' e'] 84)).alloc (.cells #[.slice none 0 0,.slice none 0 0] 84)).heap[w.heap.size+1]?=some (.cells #[.slice A n c,.slice B m e] 84):=(hzx.block _ (by rw[hx0];omega)).trans (c2q w (.cells #[.slice A0 n0 c0,.slice B0 m0 e0] 84) (.cells #[.slice A n c,.slice B m e] 84) (.cells #[.slice A' n' c', .slice B' m' e'] 84));have ha' : ((((w.alloc (.cells #[.slice A0 n0 c0,.slice B0 m0 e0] 84)).alloc (.cells #[.slice A n c,.slice B m e] 84)).alloc (.cells #[.slice A' n' c', .slice B' m' e'] 84)).alloc (.cells #[.slice none 0 0,.slice none 0 0] 84)).heap[w.heap.size+1+1]?=some (.cells #[.slice A' n' c', .slice B' m' e'] 84):=(hzx.block _ (by rw[hx0];omega)).trans (c2r w (.cells #[.slice A0 n0 c0,.slice B0 m0 e0] 84) (.cells #[.slice A n c,.slice B m e] 84) (.cells #[.slice A' n' c', .slice B' m' e'] 84));have hr:((((w.alloc (.cells #[.slice A0 n0 c0,.slice B0 m0 e0] 84)).alloc (.cells #[.slice A n c,.slice B m e] 84)).alloc (.cells #[.slice A' n' c', .slice B' m' e'] 84)).alloc (.cells #[.slice none 0 0,.slice none 0 0] 84)).heap[w.heap.size+1+1+1]?=some (.cells #[.slice none 0 0,.slice none 0 0] 84):=by have:=heap_alloc_new (((w.alloc (.cells #[.slice A0 n0 c0,.slice B0 m0 e0] 84)).alloc (.cells #[.slice A n c,.slice B m e] 84)).alloc (.cells #[.slice A' n' c', .slice B' m' e'] 84)) (.cells #[.slice none 0 0,.slice none 0 0] 84);rwa [hx0] at this
 have hzs:((((w.alloc (.cells #[.slice A0 n0 c0,.slice B0 m0 e0] 84)).alloc (.cells #[.slice A n c,.slice B m e] 84)).alloc (.cells #[.slice A' n' c', .slice B' m' e'] 84)).alloc (.cells #[.slice none 0 0,.slice none 0 0] 84)).heap.size=w.heap.size+1+1+1+1:=by simp
 clear hz0 hx0 hzx
 go_enter func63,ntmps63
 go_upto_region 1 with fail
 generalize ((((w.alloc (.cells #[.slice A0 n0 c0,.slice B0 m0 e0] 84)).alloc (.cells #[.slice A n c,.slice B m e] 84)).alloc (.cells #[.slice A' n' c', .slice B' m' e'] 84)).alloc (.cells #[.slice none 0 0,.slice none 0 0] 84))=W at *;have HT0:=Hd (a3d (hI0.below hz) hnc0 (hJ0.below hz) hme0);have HT:=Hd (a3d (hI.below hz) hnc (hJ.below hz) hme);have HT':=Hd (a3d (hI'.below hz) hnc' (hJ'.below hz) hme');have HZ:=Hd hz;have HZS:=Hd hzs;have HA0:=Hd hc;have HA:=Hd ha;have HA':=Hd ha';have HR:=Hd hr;clear hI0 hJ0 hI hJ hI' hJ' hz hzs hc ha ha' hr;have z0:=a1n HA0;have z1:=a1b HA0;have a0:=a1n HA;have a1:=a1b HA;have b0:=a1n HA';have b1:=a1b HA';obtain⟨tgt,htg⟩:∃ z,z=b5j cd d k:=⟨_,rfl⟩;have HQ2:=Hd (fun hr:(a0a cs cd&&(a0a s d&&s==cs&&(a0a t k&&t==cs)))=true=>(d2j hr).trans (show _=((0,s,tgt):Int × List Int × List Int) by rw[htg]));have HAT:=Hd (show ∀(j:Nat) (z x y:Int),cd[j]?=some z→d[j]?=some x→k[j]?=some y→tgt[j]?=some (if z=0 then y else x) from fun j z x y hz hx hy=>by rw[htg];exact c3u hz hx hy);have HTL:=Hd (show d.length=cd.length→k.length=cd.length→tgt.length=cd.length by intro h1 h2;rw[htg];exact b2a _ _ _ h1 h2);clear htg;have hx:=(Below.refl W.heap.size W).alloc (Nat.le_refl _) (.cells #[.slice A0 n0 c0,.slice B0 m0 e0,.slice A n c,.slice B m e,.slice A' n' c', .slice B' m' e'] 84);have C1:=a9n (c:=3) (c5p (heap_alloc_new W (.cells #[.slice A0 n0 c0,.slice B0 m0 e0,.slice A n c,.slice B m e,.slice A' n' c', .slice B' m' e'] 84)) (HT0.below hx) (HT.below hx) (HT'.below hx));rw[c4d] at C1;have HX:=Hd hx;clear hx
 go_wp2_with fail
 cases hr:(a0a cs cd&&(a0a s d&&s==cs&&(a0a t k&&t==cs))) with
 | false =>
  rw[hr] at C1;refine C1.mono ?_;rintro e2 w2 ⟨rfl,hb2⟩;have HB:=Hd (a1t HX hb2);have HQ:=Hd (c1y hr);have hr2:=(HB.block (w.heap.size+1+1+1) (by have:=HZS.out;omega)).trans HR;have d0:=a1n hr2;have d1:=a1b hr2;have f0:=frozen_of_row _ _ 0 _ _ hr2;have f1:=frozen_of_row _ _ 1 _ _ hr2;have HR2:=Hd hr2;clear hb2 hr hr2 C1 z0 z1 a0 a1 b0 b1;go_wp2;rw[HQ.out];refine a5j (w.heap.size+1+1+1) _ _ (.int .i64 13) results63 rfl rfl (a2v HR2 _ _) rfl ?_
  exact⟨⟨_,rfl,_,_,0,0,rfl,OwnS.nil_ _ _ _,OwnS.nil_ _ _ _⟩,((a1t HZ HB).setCell (by show w.heap.size≤w.heap.size+1+1+1;omega) _).setCell (by show w.heap.size≤w.heap.size+1+1+1;omega) _⟩
 | true =>
  rw[hr] at C1;refine C1.mono ?_;rintro e2 w2 ⟨rfl,hb2⟩;have HB:=Hd (a1t HX hb2);obtain⟨hra,hrb,hrc,hrs,hrt⟩:=c2d hr;have hdl:d.length=cd.length:=by have:=a1u hra;have:=a1u hrb;rw[hrs] at *;omega
  have hkl:k.length=cd.length:=by have:=a1u hra;have:=a1u hrc;rw[hrt] at *;omega
  have HDL:=Hd hdl;have HKL:=Hd hkl;have HRB:=Hd hrb;have HQ:=Hd (HQ2 hr);replace HTL:=Hd (HTL hdl hkl);have a0:=a8h HB a0;have a1:=a8h HB a1;have HT2:=Hd (HT.below HB);obtain⟨i1,i2⟩:=a0w HT2;have I1:=Hd i1;clear hb2 hr C1 i1 i2 hra hrb hrc hrs hrt hdl hkl z0 z1 b0 b1
  go_wp2_with fail
  refine(a1i 0 I1 (by have:=(a2l HRB).1;have:=I1.len;omega) ⟨by omega,by omega⟩).mono ?_;rintro e3 w3 ⟨⟨u,rfl,hu⟩,hb3⟩;obtain⟨vs,vd,ns,N,rfl,hvs,hvd⟩:=hu;have hNs:(Sh.size s).toNat=N:=by have:=hvd.len;rwa [List.length_replicate] at this
  have hN:tgt.length=N:=by have:=a1u HRB;have:=HTL.out;have:=HDL.out;omega
  rw[hNs] at hvd;clear hNs;have hNle:N≤9223372036854775807:=hvd.2.2;obtain⟨A1,k1,rfl,_,_,_⟩:=hvs.form;obtain⟨D1,k2,rfl,_,_,_⟩:=hvd.form;have hL:=b1h (a1t HB hb3) (hvs.mono HB.size) (hvd.mono HB.size);have HN:=Hd hN;clear hb3 hvs hvd hN a0 a1
  go_upto_region 5 with fail
  generalize w3.alloc (.cells #[.slice A1 ns k1,.slice D1 N k2] 84)=w4 at *;generalize w3.heap.size=gt at *;have t1:=a1b hL.2.1;have HL:=Hd hL;clear hL
  go_wp2_with fail
  clear t1
  go_loopw [26] (fun kv wr=>∃ j:Nat,kv=.int .i64 j∧j≤N∧a5g W wr gt A1 D1 ns k1 N k2 s (mix tgt (List.replicate N 0) j)) (fun kv _=>N - (intOf kv).toNat)
  case atStart=>exact⟨0,rfl,by omega,by rw[a3q];exact HL⟩
  case round =>
   obtain⟨j,rfl,hj,hL⟩:=hrel;have HLr:=Hd hL;have t0:=a1n hL.2.1;have t1:=a1b hL.2.1;have hb:=hL.2.2.2.2;have hz:=(hb.block (w.heap.size+1+1+1) (by have:=HZS.out;omega)).trans HR;have HB4:=Hd hb;have hgt:=hL.1;by_cases hlt:j<N
   ·obtain⟨gb,cb,hv,hO⟩:=hL.2.2.2.1.own (by omega);injection hv with hv1 _ hv3
    subst hv1;subst hv3;have z1:=a1b ((hb.block w.heap.size (by have:=HZS.out;omega)).trans HA0);have a1:=a1b ((hb.block (w.heap.size+1) (by have:=HZS.out;omega)).trans HA);have b1:=a1b ((hb.block (w.heap.size+1+1) (by have:=HZS.out;omega)).trans HA');obtain⟨_,i1⟩:=a0w (HT0.below hb);obtain⟨_,i2⟩:=a0w (HT.below hb);obtain⟨_,i3⟩:=a0w (HT'.below hb);have hj0:j<m0:=by have:=i1.len;have:=HN.out;have:=HTL.out;omega
    have hj1:j<m:=by have:=i2.len;have:=HN.out;have:=HTL.out;have:=HDL.out;omega
    have hj2:j<m':=by have:=i3.len;have:=HN.out;have:=HTL.out;have:=HKL.out;omega
    obtain⟨zd,z,rfl,hbl0,hz0,hcz,hfz⟩:=i1.at_ (k:=j) hj0;obtain⟨bd,x,rfl,hbl,hx,hcx,hfx⟩:=i2.at_ (k:=j) hj1;obtain⟨bd', y,rfl,hbl', hy,hcy,hfy⟩:=i3.at_ (k:=j) hj2;have HXT:=Hd (HAT j z x y hz0 hx hy);have HFX:=Hd hfx;have HFY:=Hd hfy;have hcs:=hO.cell (a6k HN hlt);have hfs:=hO.frozen j;obtain⟨hn1,hn2⟩:=hL.ne;have hbW0:=(a0w HT0).2.lt zd rfl (by omega);have hbW:=(a0w HT).2.lt bd rfl (by omega);have hbW':=(a0w HT').2.lt bd' rfl (by omega);have k0:=a2b (q:=⟨gb,j,none⟩) (u:=.int .i64 y) t1 hn1;have k1':=a2b (q:=⟨gb,j,none⟩) (u:=.int .i64 y) b1 (by show w.heap.size+1+1≠gb;have:=HZS.out;omega);have k2':=a2b (q:=⟨gb,j,none⟩) (u:=.int .i64 y) hcy (by rw[a0d];show bd'.block≠gb;omega);have p0:=a2b (q:=⟨gb,j,none⟩) (u:=.int .i64 y) z1 (by show w.heap.size≠gb;have:=HZS.out;omega);have p1:=a2b (q:=⟨gb,j,none⟩) (u:=.int .i64 y) hcz (by rw[a0d];show zd.block≠gb;omega);have p2:=a2b (q:=⟨gb,j,none⟩) (u:=.int .i64 y) a1 (by show w.heap.size+1≠gb;have:=HZS.out;omega);have p3:=a2b (q:=⟨gb,j,none⟩) (u:=.int .i64 y) hcx (by rw[a0d];show bd.block≠gb;omega);have hL1:=(HLr.drew 1).store j hfy;clear hL hb hz i1 i2 i3 hO hx hfx hy hfy hz0 hfz t0
    go_upto_region 8 with fail
    go_region_held3 (fun w'=>w'.cell? ⟨gt,1,none⟩=some (.slice (some ⟨gb,0,none⟩) N k2)∧w'.cell? ⟨w.heap.size+1+1,1,none⟩=some (.slice (some bd') m' e')∧w'.cell? (bd'.add j)=some (.int .i64 y)) (go_keep) (fail)
    clear z1 a1 b1 t1 hcz hcx hcy hcs hfs k1' k2';generalize hwq:(wr.setCell ⟨gb,j,none⟩ (.int .i64 y)).drew=wq at *;have hL1:a5g W wq gt A1 (some ⟨gb,0,none⟩) ns k1 N k2 s ((mix tgt (List.replicate N 0) j).set j y):=by rw[←hwq];exact hL1
    clear hwq;by_cases hzz:z=0
    ·have HL1:=Hd hL1;have HXT:=Hd (show tgt[j]?=some y by have:=HXT.out;rwa [iP hzz] at this);clear hL1 p2 p3 k0;go_wp2;go_roundw
     case rel=>exact⟨j+1,by go_num,by omega,by rw[←a4j HN.out HXT.out];exact HL1⟩
     case measure=>simp[intOf];omega
    ·have hne:(z != 0)=true:=by simpa using hzz
     have HXT:=Hd (show tgt[j]?=some x by have:=HXT.out;rwa [iN hzz] at this);have hO:Own wq W.heap.size 2 gb N k2 _:=hL1.2.2.2.1;have hcs:=hO.cell (j:=j) (x:=y) (by rw[List.getElem?_set,iP rfl,iP (by have:=hO.len;simp at this;omega)]);have hfs:=hO.frozen j;have HL1:=Hd ((hL1.drew 1).store j HFX);have k0':=a2b (q:=⟨gb,j,none⟩) (u:=.int .i64 x) k0 hn1;have k1':=a2b (q:=⟨gb,j,none⟩) (u:=.int .i64 x) p2 (by show w.heap.size+1≠gb;have:=HZS.out;omega);have k2':=a2b (q:=⟨gb,j,none⟩) (u:=.int .i64 x) p3 (by rw[a0d];show bd.block≠gb;omega);clear hL1 hO hzz
     go_upto_region 10 with fail
     go_region_held3 (fun w'=>w'.cell? ⟨gt,1,none⟩=some (.slice (some ⟨gb,0,none⟩) N k2)∧w'.cell? ⟨w.heap.size+1,1,none⟩=some (.slice (some bd) m e)∧w'.cell? (bd.add j)=some (.int .i64 x)) (go_keep) (fail)
     clear k0 k0' k1' k2' p0 p1 p2 p3 hcs hfs;go_wp2;go_roundw
     case rel=>exact⟨j+1,by go_num,by omega,by rw[←a4j HN.out HXT.out];have:=HL1.out;rw[List.set_set] at this;exact this⟩
     case measure=>simp[intOf];omega
   ·obtain rfl:j=N:=by omega
    rw[a6j HN.out] at HLr;have d0:=a1n hz;have d1:=a1b hz;have f0:=frozen_of_row _ _ 0 _ _ hz;have f1:=frozen_of_row _ _ 1 _ _ hz;have HZr:=Hd hz;clear hL hb hz;go_wp2;rw[HQ.out];refine a5j (w.heap.size+1+1+1) _ _ (.int .i64 0) results63 rfl rfl (a2v HZr _ _) rfl ?_;have hgr:=a2s (a0t wr (w.heap.size+1+1+1) 0 (.slice A1 ns k1)) (a0t _ (w.heap.size+1+1+1) 1 (.slice D1 j k2));exact⟨⟨_,rfl,_,_,ns,j,rfl,(HLr.out.2.2.1.grown hgr (by have:=HZS.out;omega)).mono (by have:=HZS.out;omega),(HLr.out.2.2.2.1.grown hgr (by have:=HZS.out;omega)).mono (by have:=HZS.out;omega)⟩,((a1t HZ HB4).setCell (by show w.heap.size≤w.heap.size+1+1+1;omega) _).setCell (by show w.heap.size≤w.heap.size+1+1+1;omega) _⟩
end Go.Proofs.YtajhdeddgdhccaaGreatDoor
