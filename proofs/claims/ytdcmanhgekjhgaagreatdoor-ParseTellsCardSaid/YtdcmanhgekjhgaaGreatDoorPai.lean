import Derived.Test.YtdcmanhgekjhgaaGreatDoorPag
set_option maxRecDepth 100000
set_option maxHeartbeats 12800000
namespace Go.Proofs.YtdcmanhgekjhgaaGreatDoor
open Go.RowKit Go.Proofs.Tryz
variable {D D' S S':Option Addr} {R:Ending→World→Prop} {a:Act} {c dc dc' dn dn' g n sc sc' sn sn':Nat} {cd cs d k s t xs:List Int} {l:List a0e} {u v v' v0 v1 x y:Value} {w w' w0:World}
theorem e3i (hg:w.heap[g]?=some (.cells #[.slice S sn sc,.slice D dn dc,.slice S' sn' sc', .slice D' dn' dc'] 89 (0,0)))
  (h:Ten w (.agg #[.slice S sn sc,.slice D dn dc]) s d)(h' : Ten w (.agg #[.slice S' sn' sc', .slice D' dn' dc']) t k):Tens w (some ⟨g,0,none⟩) 2 [(s,d),(t,k)] :=
 ⟨rfl,by omega,fun j x hx=>by
  have c0:w.cell? ⟨g,0,none⟩=_:=cell_of_row _ _ 0 _ _ _ hg;have c1:w.cell? ⟨g,1,none⟩=_:=cell_of_row _ _ 1 _ _ _ hg;have c2:w.cell? ⟨g,2,none⟩=_:=cell_of_row _ _ 2 _ _ _ hg;have c3:w.cell? ⟨g,3,none⟩=_:=cell_of_row _ _ 3 _ _ _ hg
  match j,hx with
  | 0,hx=>simp at hx;subst hx;exact⟨_,S,sn,sc,D,dn,dc,rfl,block_lt_of_cell c0,c0,c1,h⟩
  | 1,hx=>simp at hx;subst hx;exact⟨_,S', sn', sc', D', dn', dc', rfl,block_lt_of_cell c0,c2,c3,h'⟩
  | j+2,hx=>simp at hx⟩
theorem d9w:allR (s,d) [(s,d),(t,k)]=if (a0b s d&&(a0b t k&&t==s))=true then 0 else 13:=by simp[allR]
theorem d8c (h:(a0b s d&&(a0b t k&&t==s))=true):a0b s d=true∧a0b t k=true∧t=s:=by
 simp only[Bool.and_eq_true,beq_iff_eq] at h;exact⟨h.1,h.2.1,h.2.2⟩
theorem c9l (op:Int)(h:Ten w v s d)(h' : Ten w v' t k):
  Calls prog 90 #[.int .i64 op,v,v'] w fun e w'=>(∃ u,e=.returned (.tuple #[u,.int .i64 (twoR op s d t k).1])∧OTen w' w.heap.size u (twoR op s d t k).2.1 (twoR op s d t k).2.2)∧Below w.heap.size w w':=by
 obtain⟨A,n,c,B,m,e,rfl,hnc,hme,hI,hJ⟩:=h;obtain⟨A', n', c', B', m', e', rfl,hnc', hme', hI', hJ'⟩:=h';have hz:=(((Below.refl w.heap.size w).alloc (Nat.le_refl _) (.cells #[.slice A n c,.slice B m e] 89)).alloc (by simp) (.cells #[.slice A' n' c', .slice B' m' e'] 89)).alloc (by simp;omega) (.cells #[.slice none 0 0,.slice none 0 0] 89);have ha:(((w.alloc (.cells #[.slice A n c,.slice B m e] 89)).alloc (.cells #[.slice A' n' c', .slice B' m' e'] 89)).alloc (.cells #[.slice none 0 0,.slice none 0 0] 89)).heap[w.heap.size]?=some (.cells #[.slice A n c,.slice B m e] 89):=d0f w (.cells #[.slice A n c,.slice B m e] 89) (.cells #[.slice A' n' c', .slice B' m' e'] 89) (.cells #[.slice none 0 0,.slice none 0 0] 89);have ha' : (((w.alloc (.cells #[.slice A n c,.slice B m e] 89)).alloc (.cells #[.slice A' n' c', .slice B' m' e'] 89)).alloc (.cells #[.slice none 0 0,.slice none 0 0] 89)).heap[w.heap.size+1]?=some (.cells #[.slice A' n' c', .slice B' m' e'] 89):=d0g w (.cells #[.slice A n c,.slice B m e] 89) (.cells #[.slice A' n' c', .slice B' m' e'] 89) (.cells #[.slice none 0 0,.slice none 0 0] 89);have hr:(((w.alloc (.cells #[.slice A n c,.slice B m e] 89)).alloc (.cells #[.slice A' n' c', .slice B' m' e'] 89)).alloc (.cells #[.slice none 0 0,.slice none 0 0] 89)).heap[w.heap.size+1+1]?=some (.cells #[.slice none 0 0,.slice none 0 0] 89):=d0h w (.cells #[.slice A n c,.slice B m e] 89) (.cells #[.slice A' n' c', .slice B' m' e'] 89) (.cells #[.slice none 0 0,.slice none 0 0] 89);have hzs:(((w.alloc (.cells #[.slice A n c,.slice B m e] 89)).alloc (.cells #[.slice A' n' c', .slice B' m' e'] 89)).alloc (.cells #[.slice none 0 0,.slice none 0 0] 89)).heap.size=w.heap.size+1+1+1:=by simp
 go_enter func90,ntmps90
 go_upto_region 1 with fail
 generalize ((w.alloc (.cells #[.slice A n c,.slice B m e] 89)).alloc (.cells #[.slice A' n' c', .slice B' m' e'] 89)).alloc (.cells #[.slice none 0 0,.slice none 0 0] 89)=W at *;have HT:=Hd (a3z (hI.below hz) hnc (hJ.below hz) hme);have HT':=Hd (a3z (hI'.below hz) hnc' (hJ'.below hz) hme');have HA':=Hd ha';have HZ:=Hd hz;have HZS:=Hd hzs;have HA:=Hd ha;have HR:=Hd hr;clear hI hJ hI' hJ' hz hzs ha ha' hr;have a0:=a2a HA;have a1:=a1j HA;have b0:=a2a HA';have b1:=a1j HA';have d0:=a2a HR;have d1:=a1j HR;have f0:=frozen_of_row _ _ 0 _ _ HR;have f1:=frozen_of_row _ _ 1 _ _ HR;by_cases hop:op<6∨11<op
 ·have HX:=Hd (e3n (s:=s) (d:=d) (t:=t) (k:=k) hop);have hgs:op<6∨(¬ op<6∧op > 11):=by omega
  clear a0 a1 b0 b1 hop;rcases hgs with hg4|⟨hg4,hg5⟩
  all_goals (
   go_wp2;rw[HX.out];refine a6q (w.heap.size+1+1) _ _ (.int .i64 1) results90 rfl rfl (a3r HR _ _) rfl ?_;exact⟨⟨_,rfl,_,_,0,0,rfl,OwnS.nil_ _ _ _,OwnS.nil_ _ _ _⟩,(HZ.setCell (by show w.heap.size≤w.heap.size+1+1;omega) _).setCell (by show w.heap.size≤w.heap.size+1+1;omega) _⟩
   )
 ·have hop' : 6≤op∧op≤11:=by omega
  clear hop;obtain⟨tgt,htg⟩:∃ z,z=List.zipWith (a4q op) d k:=⟨_,rfl⟩;have HQ1:=Hd (fun hr:(a0b s d&&(a0b t k&&t==s))=false=>d4o hop' hr);have HQ2:=Hd (fun hr:(a0b s d&&(a0b t k&&t==s))=true=>(e5w hop' hr).trans (show _=((0,s,tgt):Int × List Int × List Int) by rw[htg]));have HAT:=Hd (show ∀ j x y,d[j]?=some x→k[j]?=some y→tgt[j]?=some (a4q op x y) from fun j x y hx hy=>by rw[htg];exact e7c hx hy);have HTL:=Hd (show k.length=d.length→tgt.length=d.length by intro hl;rw[htg];simp;omega);clear htg;have hg4:¬ op<6:=by omega
  have hg5:¬ op > 11:=by omega
  clear hop';have hx:=(Below.refl W.heap.size W).alloc (Nat.le_refl _) (.cells #[.slice A n c,.slice B m e,.slice A' n' c', .slice B' m' e'] 89);have C1:=b2n (c:=2) (e3i (heap_alloc_new W (.cells #[.slice A n c,.slice B m e,.slice A' n' c', .slice B' m' e'] 89)) (HT.below hx) (HT'.below hx));rw[d9w] at C1;have HX:=Hd hx;clear hx
  go_wp2_with fail
  cases hr:(a0b s d&&(a0b t k&&t==s)) with
  | false =>
   rw[hr] at C1;refine C1.mono ?_;rintro e2 w2 ⟨rfl,hb2⟩;have HB:=Hd (a1c HX hb2);have HQ:=Hd (HQ1 hr);have hr2:=(HB.block (w.heap.size+1+1) (by have:=HZS.out;omega)).trans HR;have d0:=a2a hr2;have d1:=a1j hr2;have f0:=frozen_of_row _ _ 0 _ _ hr2;have f1:=frozen_of_row _ _ 1 _ _ hr2;have HR2:=Hd hr2;clear hb2 hr hr2 C1;go_wp2;rw[HQ.out];refine a6q (w.heap.size+1+1) _ _ (.int .i64 13) results90 rfl rfl (a3r HR2 _ _) rfl ?_
   exact⟨⟨_,rfl,_,_,0,0,rfl,OwnS.nil_ _ _ _,OwnS.nil_ _ _ _⟩,((a1c HZ HB).setCell (by show w.heap.size≤w.heap.size+1+1;omega) _).setCell (by show w.heap.size≤w.heap.size+1+1;omega) _⟩
  | true =>
   rw[hr] at C1;refine C1.mono ?_;rintro e2 w2 ⟨rfl,hb2⟩;have HB:=Hd (a1c HX hb2);have HRT:=Hd hr;obtain⟨hra,hrb,hrs⟩:=d8c hr;have HRA:=Hd hra;have HTL:=Hd (HTL (by have:=a2i hra;have:=a2i hrb;rw[hrs] at *;omega));have HKL:=Hd (show k.length=d.length by have:=a2i hra;have:=a2i hrb;rw[hrs] at *;omega);clear hra hrb hrs;have a0:=b0x HB a0;have a1:=b0x HB a1;have HT2:=Hd (HT.below HB);obtain⟨i1,i2⟩:=a1b HT2;have I1:=Hd i1;have I2:=Hd i2;clear hb2 hr C1 i1 i2
   go_wp2_with fail
   refine(a1t 0 I1 (by have:=(a3c HRA).1;have:=I1.len;omega) ⟨by omega,by omega⟩).mono ?_;rintro e3 w3 ⟨⟨u,rfl,hu⟩,hb3⟩;obtain⟨vs,vd,ns,N,rfl,hvs,hvd⟩:=hu;have hNs:(Sh.size s).toNat=N:=by have:=hvd.len;rwa [List.length_replicate] at this
   have hN:tgt.length=N:=by have:=a2i HRA;have:=HTL.out;omega
   rw[hNs] at hvd;clear hNs;have hNle:N≤9223372036854775807:=hvd.2.2;obtain⟨A1,k1,rfl,_,_,_⟩:=hvs.form;obtain⟨D1,k2,rfl,_,_,_⟩:=hvd.form;have hL:=b4m (a1c HB hb3) (hvs.mono HB.size) (hvd.mono HB.size);have HN:=Hd hN;clear hb3 hvs hvd hN a0 a1 b0 b1
   go_upto_region 7 with fail
   generalize w3.alloc (.cells #[.slice A1 ns k1,.slice D1 N k2] 89)=w4 at *;generalize w3.heap.size=gt at *;have t1:=a1j hL.2.1;have HL:=Hd hL;clear hL
   go_wp2_with fail
   clear t1
   go_loopw [32] (fun kv wr=>∃ j:Nat,kv=.int .i64 j∧j≤N∧a6l W wr gt A1 D1 ns k1 N k2 s (mix tgt (List.replicate N 0) j)) (fun kv _=>N - (intOf kv).toNat)
   case atStart=>exact⟨0,rfl,by omega,by rw[a4v];exact HL⟩
   case round =>
    obtain⟨j,rfl,hj,hL⟩:=hrel;have hLr:=hL;have HLr:=Hd hL;have t0:=a2a hL.2.1;have t1:=a1j hL.2.1;have hb:=hL.2.2.2.2;have hz:=(hb.block (w.heap.size+1+1) (by have:=HZS.out;omega)).trans HR;have HB4:=Hd hb;have HT4:=Hd (HT.below hb);have HT5:=Hd (HT'.below hb);have b1:=a1j ((hb.block (w.heap.size+1) (by have:=HZS.out;omega)).trans HA');have a1:=a1j ((hb.block w.heap.size (by have:=HZS.out;omega)).trans HA);have hgt:=hL.1;by_cases hlt:j<N
    ·obtain⟨gb,cb,hv,hO⟩:=hL.2.2.2.1.own (by omega);injection hv with hv1 _ hv3
     subst hv1;subst hv3;obtain⟨_,i2⟩:=a1b HT4;have hjm:j<m:=by have:=i2.len;have:=HN.out;have:=HTL.out;omega
     obtain⟨bd,x,rfl,hbl,hx,hcx,hfx⟩:=i2.at_ (k:=j) hjm;obtain⟨_,i3⟩:=a1b HT5;have hjm' : j<m':=by have:=i3.len;have:=HN.out;have:=HTL.out;have:=HKL.out;omega
     obtain⟨bd', y,rfl,hbl', hy,hcy,hfy⟩:=i3.at_ (k:=j) hjm';have HS:=Hd ((HLr.drew 1).store j (c2f op hfx hfy));have HX:=Hd hx;have HY:=Hd hy;have HF:=Hd hfx;have hcs:=hO.cell (a8e HN hlt);have hfs:=hO.frozen j;obtain⟨hn1,hn2⟩:=hLr.ne;have hbW:=(a1b HT).2.lt bd rfl (by omega);have k0:=a2t (q:=⟨gb,j,none⟩) (u:=.int .i64 (a4q op x y)) t1 hn1;have k1:=a2t (q:=⟨gb,j,none⟩) (u:=.int .i64 (a4q op x y)) a1 (by show w.heap.size≠gb;have:=HZS.out;omega);have hbW':=(a1b HT').2.lt bd' rfl (by omega);have k3:=a2t (q:=⟨gb,j,none⟩) (u:=.int .i64 (a4q op x y)) b1 (by show w.heap.size+1≠gb;have:=HZS.out;omega);have k4:=a2t (q:=⟨gb,j,none⟩) (u:=.int .i64 (a4q op x y)) hcy (by rw[a0d];show bd'.block≠gb;omega);have k2':=a2t (q:=⟨gb,j,none⟩) (u:=.int .i64 (a4q op x y)) hcx (by rw[a0d];show bd.block≠gb;omega);clear hL hb hz i2 i3 hO hx hfx hy hfy t0
     go_wp2_with fail
     go_region_held3 (fun w'=>w'.cell? ⟨gt,1,none⟩=some (.slice (some ⟨gb,0,none⟩) N k2)∧w'.cell? ⟨w.heap.size,1,none⟩=some (.slice (some bd) m e)∧w'.cell? (bd.add j)=some (.int .i64 x)∧w'.cell? ⟨w.heap.size+1,1,none⟩=some (.slice (some bd') m' e')∧w'.cell? (bd'.add j)=some (.int .i64 y)) (go_keep)
      (first|(go_at_call 112;refine(b5t _ _ _ _).mono ?_;rintro e5 w5 ⟨rfl,rfl⟩))
     clear k0 k1 k2' k3 k4 a1 b1 t1 hcx hcy hcs hfs;go_wp2;go_roundw
     case rel=>exact⟨j+1,by go_num,by omega,by rw[←a5n HN.out (HAT.out j x y HX.out HY.out)];exact HS⟩
     case measure=>simp[intOf];omega
    ·obtain rfl:j=N:=by omega
     rw[a8d HN.out] at HLr;have d0:=a2a hz;have d1:=a1j hz;have f0:=frozen_of_row _ _ 0 _ _ hz;have f1:=frozen_of_row _ _ 1 _ _ hz;have HZr:=Hd hz;have HQ:=Hd (HQ2 HRT);clear hL hb hz a1 b1;go_wp2;rw[HQ.out];refine a6q (w.heap.size+1+1) _ _ (.int .i64 0) results90 rfl rfl (a3r HZr _ _) rfl ?_;have hgr:=a3n (a0y wr (w.heap.size+1+1) 0 (.slice A1 ns k1)) (a0y _ (w.heap.size+1+1) 1 (.slice D1 j k2));exact⟨⟨_,rfl,_,_,ns,j,rfl,(HLr.out.2.2.1.grown hgr (by have:=HZS.out;omega)).mono (by have:=HZS.out;omega),(HLr.out.2.2.2.1.grown hgr (by have:=HZS.out;omega)).mono (by have:=HZS.out;omega)⟩,((a1c HZ HB4).setCell (by show w.heap.size≤w.heap.size+1+1;omega) _).setCell (by show w.heap.size≤w.heap.size+1+1;omega) _⟩
theorem d4h {S0 D0:Option Addr}{sn0 sc0 dn0 dc0:Nat} 
  (hg:w.heap[g]?=some (.cells #[.slice S0 sn0 sc0,.slice D0 dn0 dc0,.slice S sn sc,.slice D dn dc,.slice S' sn' sc', .slice D' dn' dc'] 89 (0,0)))
  (h0:Ten w (.agg #[.slice S0 sn0 sc0,.slice D0 dn0 dc0]) cs cd)(h:Ten w (.agg #[.slice S sn sc,.slice D dn dc]) s d)(h' : Ten w (.agg #[.slice S' sn' sc', .slice D' dn' dc']) t k):Tens w (some ⟨g,0,none⟩) 3 [(cs,cd),(s,d),(t,k)] :=
 ⟨rfl,by omega,fun j x hx=>by
  have c0:w.cell? ⟨g,0,none⟩=_:=cell_of_row _ _ 0 _ _ _ hg;have c1:w.cell? ⟨g,1,none⟩=_:=cell_of_row _ _ 1 _ _ _ hg;have c2:w.cell? ⟨g,2,none⟩=_:=cell_of_row _ _ 2 _ _ _ hg;have c3:w.cell? ⟨g,3,none⟩=_:=cell_of_row _ _ 3 _ _ _ hg;have c4:w.cell? ⟨g,4,none⟩=_:=cell_of_row _ _ 4 _ _ _ hg;have c5:w.cell? ⟨g,5,none⟩=_:=cell_of_row _ _ 5 _ _ _ hg
  match j,hx with
  | 0,hx=>simp at hx;subst hx;exact⟨_,S0,sn0,sc0,D0,dn0,dc0,rfl,block_lt_of_cell c0,c0,c1,h0⟩
  | 1,hx=>simp at hx;subst hx;exact⟨_,S,sn,sc,D,dn,dc,rfl,block_lt_of_cell c0,c2,c3,h⟩
  | 2,hx=>simp at hx;subst hx;exact⟨_,S', sn', sc', D', dn', dc', rfl,block_lt_of_cell c0,c4,c5,h'⟩
  | j+3,hx=>simp at hx⟩
theorem d2d:allR (cs,cd) [(cs,cd),(s,d),(t,k)]=if (a0b cs cd&&(a0b s d&&s==cs&&(a0b t k&&t==cs)))=true then 0 else 13:=by simp[allR]
theorem c9o (h:(a0b cs cd&&(a0b s d&&s==cs&&(a0b t k&&t==cs)))=true):a0b cs cd=true∧a0b s d=true∧a0b t k=true∧s=cs∧t=cs:=by
 simp only[Bool.and_eq_true,beq_iff_eq] at h;exact⟨h.1,h.2.1.1,h.2.2.1,h.2.1.2,h.2.2.2⟩
theorem e2s (h:(a0b cs cd&&(a0b s d&&s==cs&&(a0b t k&&t==cs)))=true):b4u cs cd s d t k=(0,s,c0i cd d k):=by rw[b4u,iP h]
theorem c9h (h:(a0b cs cd&&(a0b s d&&s==cs&&(a0b t k&&t==cs)))=false):b4u cs cd s d t k=refused 13:=by rw[b4u,h];rfl
theorem c6k (h0:Ten w v0 cs cd)(h:Ten w v s d)(h' : Ten w v' t k):
  Calls prog 81 #[v0,v,v'] w fun e w'=>(∃ u,e=.returned (.tuple #[u,.int .i64 (b4u cs cd s d t k).1])∧OTen w' w.heap.size u (b4u cs cd s d t k).2.1 (b4u cs cd s d t k).2.2)∧Below w.heap.size w w':=by
 obtain⟨A0,n0,c0,B0,m0,e0,rfl,hnc0,hme0,hI0,hJ0⟩:=h0;obtain⟨A,n,c,B,m,e,rfl,hnc,hme,hI,hJ⟩:=h;obtain⟨A', n', c', B', m', e', rfl,hnc', hme', hI', hJ'⟩:=h';have hz0:=(((Below.refl w.heap.size w).alloc (Nat.le_refl _) (.cells #[.slice A0 n0 c0,.slice B0 m0 e0] 89)).alloc (by simp) (.cells #[.slice A n c,.slice B m e] 89)).alloc (by simp;omega) (.cells #[.slice A' n' c', .slice B' m' e'] 89);have hz:=hz0.alloc (by simp;omega) (.cells #[.slice none 0 0,.slice none 0 0] 89);have hx0:(((w.alloc (.cells #[.slice A0 n0 c0,.slice B0 m0 e0] 89)).alloc (.cells #[.slice A n c,.slice B m e] 89)).alloc (.cells #[.slice A' n' c', .slice B' m' e'] 89)).heap.size=w.heap.size+1+1+1:=by simp
 have hzx:=(Below.refl (((w.alloc (.cells #[.slice A0 n0 c0,.slice B0 m0 e0] 89)).alloc (.cells #[.slice A n c,.slice B m e] 89)).alloc (.cells #[.slice A' n' c', .slice B' m' e'] 89)).heap.size (((w.alloc (.cells #[.slice A0 n0 c0,.slice B0 m0 e0] 89)).alloc (.cells #[.slice A n c,.slice B m e] 89)).alloc (.cells #[.slice A' n' c', .slice B' m' e'] 89))).alloc (Nat.le_refl _) (.cells #[.slice none 0 0,.slice none 0 0] 89);have hc:((((w.alloc (.cells #[.slice A0 n0 c0,.slice B0 m0 e0] 89)).alloc (.cells #[.slice A n c,.slice B m e] 89)).alloc (.cells #[.slice A' n' c', .slice B' m' e'] 89)).alloc (.cells #[.slice none 0 0,.slice none 0 0] 89)).heap[w.heap.size]?=some (.cells #[.slice A0 n0 c0,.slice B0 m0 e0] 89):=(hzx.block _ (by rw[hx0];omega)).trans (d0f w (.cells #[.slice A0 n0 c0,.slice B0 m0 e0] 89) (.cells #[.slice A n c,.slice B m e] 89) (.cells #[.slice A' n' c', .slice B' m' e'] 89));have ha:((((w.alloc (.cells #[.slice A0 n0 c0,.slice B0 m0 e0] 89)).alloc (.cells #[.slice A n c,.slice B m e] 89)).alloc (.cells #[.slice A' n' c', .slice B' m' e'] 89)).alloc (.cells #[.slice none 0 0,.slice none 0 0] 89)).heap[w.heap.size+1]?=some (.cells #[.slice A n c,.slice B m e] 89):=(hzx.block _ (by rw[hx0];omega)).trans (d0g w (.cells #[.slice A0 n0 c0,.slice B0 m0 e0] 89) (.cells #[.slice A n c,.slice B m e] 89) (.cells #[.slice A' n' c', .slice B' m' e'] 89));have ha' : ((((w.alloc (.cells #[.slice A0 n0 c0,.slice B0 m0 e0] 89)).alloc (.cells #[.slice A n c,.slice B m e] 89)).alloc (.cells #[.slice A' n' c', .slice B' m' e'] 89)).alloc (.cells #[.slice none 0 0,.slice none 0 0] 89)).heap[w.heap.size+1+1]?=some (.cells #[.slice A' n' c', .slice B' m' e'] 89):=(hzx.block _ (by rw[hx0];omega)).trans (d0h w (.cells #[.slice A0 n0 c0,.slice B0 m0 e0] 89) (.cells #[.slice A n c,.slice B m e] 89) (.cells #[.slice A' n' c', .slice B' m' e'] 89));have hr:((((w.alloc (.cells #[.slice A0 n0 c0,.slice B0 m0 e0] 89)).alloc (.cells #[.slice A n c,.slice B m e] 89)).alloc (.cells #[.slice A' n' c', .slice B' m' e'] 89)).alloc (.cells #[.slice none 0 0,.slice none 0 0] 89)).heap[w.heap.size+1+1+1]?=some (.cells #[.slice none 0 0,.slice none 0 0] 89):=by have:=heap_alloc_new (((w.alloc (.cells #[.slice A0 n0 c0,.slice B0 m0 e0] 89)).alloc (.cells #[.slice A n c,.slice B m e] 89)).alloc (.cells #[.slice A' n' c', .slice B' m' e'] 89)) (.cells #[.slice none 0 0,.slice none 0 0] 89);rwa [hx0] at this
 have hzs:((((w.alloc (.cells #[.slice A0 n0 c0,.slice B0 m0 e0] 89)).alloc (.cells #[.slice A n c,.slice B m e] 89)).alloc (.cells #[.slice A' n' c', .slice B' m' e'] 89)).alloc (.cells #[.slice none 0 0,.slice none 0 0] 89)).heap.size=w.heap.size+1+1+1+1:=by simp
 clear hz0 hx0 hzx
 go_enter func81,ntmps81
 go_upto_region 1 with fail
 generalize ((((w.alloc (.cells #[.slice A0 n0 c0,.slice B0 m0 e0] 89)).alloc (.cells #[.slice A n c,.slice B m e] 89)).alloc (.cells #[.slice A' n' c', .slice B' m' e'] 89)).alloc (.cells #[.slice none 0 0,.slice none 0 0] 89))=W at *;have HT0:=Hd (a3z (hI0.below hz) hnc0 (hJ0.below hz) hme0);have HT:=Hd (a3z (hI.below hz) hnc (hJ.below hz) hme);have HT':=Hd (a3z (hI'.below hz) hnc' (hJ'.below hz) hme');have HZ:=Hd hz;have HZS:=Hd hzs;have HA0:=Hd hc;have HA:=Hd ha;have HA':=Hd ha';have HR:=Hd hr;clear hI0 hJ0 hI hJ hI' hJ' hz hzs hc ha ha' hr;have z0:=a2a HA0;have z1:=a1j HA0;have a0:=a2a HA;have a1:=a1j HA;have b0:=a2a HA';have b1:=a1j HA';obtain⟨tgt,htg⟩:∃ z,z=c0i cd d k:=⟨_,rfl⟩;have HQ2:=Hd (fun hr:(a0b cs cd&&(a0b s d&&s==cs&&(a0b t k&&t==cs)))=true=>(e2s hr).trans (show _=((0,s,tgt):Int × List Int × List Int) by rw[htg]));have HAT:=Hd (show ∀(j:Nat) (z x y:Int),cd[j]?=some z→d[j]?=some x→k[j]?=some y→tgt[j]?=some (if z=0 then y else x) from fun j z x y hz hx hy=>by rw[htg];exact d1r hz hx hy);have HTL:=Hd (show d.length=cd.length→k.length=cd.length→tgt.length=cd.length by intro h1 h2;rw[htg];exact b5q _ _ _ h1 h2);clear htg;have hx:=(Below.refl W.heap.size W).alloc (Nat.le_refl _) (.cells #[.slice A0 n0 c0,.slice B0 m0 e0,.slice A n c,.slice B m e,.slice A' n' c', .slice B' m' e'] 89);have C1:=b2n (c:=3) (d4h (heap_alloc_new W (.cells #[.slice A0 n0 c0,.slice B0 m0 e0,.slice A n c,.slice B m e,.slice A' n' c', .slice B' m' e'] 89)) (HT0.below hx) (HT.below hx) (HT'.below hx));rw[d2d] at C1;have HX:=Hd hx;clear hx
 go_wp2_with fail
 cases hr:(a0b cs cd&&(a0b s d&&s==cs&&(a0b t k&&t==cs))) with
 | false =>
  rw[hr] at C1;refine C1.mono ?_;rintro e2 w2 ⟨rfl,hb2⟩;have HB:=Hd (a1c HX hb2);have HQ:=Hd (c9h hr);have hr2:=(HB.block (w.heap.size+1+1+1) (by have:=HZS.out;omega)).trans HR;have d0:=a2a hr2;have d1:=a1j hr2;have f0:=frozen_of_row _ _ 0 _ _ hr2;have f1:=frozen_of_row _ _ 1 _ _ hr2;have HR2:=Hd hr2;clear hb2 hr hr2 C1 z0 z1 a0 a1 b0 b1;go_wp2;rw[HQ.out];refine a6q (w.heap.size+1+1+1) _ _ (.int .i64 13) results81 rfl rfl (a3r HR2 _ _) rfl ?_
  exact⟨⟨_,rfl,_,_,0,0,rfl,OwnS.nil_ _ _ _,OwnS.nil_ _ _ _⟩,((a1c HZ HB).setCell (by show w.heap.size≤w.heap.size+1+1+1;omega) _).setCell (by show w.heap.size≤w.heap.size+1+1+1;omega) _⟩
 | true =>
  rw[hr] at C1;refine C1.mono ?_;rintro e2 w2 ⟨rfl,hb2⟩;have HB:=Hd (a1c HX hb2);obtain⟨hra,hrb,hrc,hrs,hrt⟩:=c9o hr;have hdl:d.length=cd.length:=by have:=a2i hra;have:=a2i hrb;rw[hrs] at *;omega
  have hkl:k.length=cd.length:=by have:=a2i hra;have:=a2i hrc;rw[hrt] at *;omega
  have HDL:=Hd hdl;have HKL:=Hd hkl;have HRB:=Hd hrb;have HQ:=Hd (HQ2 hr);replace HTL:=Hd (HTL hdl hkl);have a0:=b0x HB a0;have a1:=b0x HB a1;have HT2:=Hd (HT.below HB);obtain⟨i1,i2⟩:=a1b HT2;have I1:=Hd i1;clear hb2 hr C1 i1 i2 hra hrb hrc hrs hrt hdl hkl z0 z1 b0 b1
  go_wp2_with fail
  refine(a1t 0 I1 (by have:=(a3c HRB).1;have:=I1.len;omega) ⟨by omega,by omega⟩).mono ?_;rintro e3 w3 ⟨⟨u,rfl,hu⟩,hb3⟩;obtain⟨vs,vd,ns,N,rfl,hvs,hvd⟩:=hu;have hNs:(Sh.size s).toNat=N:=by have:=hvd.len;rwa [List.length_replicate] at this
  have hN:tgt.length=N:=by have:=a2i HRB;have:=HTL.out;have:=HDL.out;omega
  rw[hNs] at hvd;clear hNs;have hNle:N≤9223372036854775807:=hvd.2.2;obtain⟨A1,k1,rfl,_,_,_⟩:=hvs.form;obtain⟨D1,k2,rfl,_,_,_⟩:=hvd.form;have hL:=b4m (a1c HB hb3) (hvs.mono HB.size) (hvd.mono HB.size);have HN:=Hd hN;clear hb3 hvs hvd hN a0 a1
  go_upto_region 5 with fail
  generalize w3.alloc (.cells #[.slice A1 ns k1,.slice D1 N k2] 89)=w4 at *;generalize w3.heap.size=gt at *;have t1:=a1j hL.2.1;have HL:=Hd hL;clear hL
  go_wp2_with fail
  clear t1
  go_loopw [26] (fun kv wr=>∃ j:Nat,kv=.int .i64 j∧j≤N∧a6l W wr gt A1 D1 ns k1 N k2 s (mix tgt (List.replicate N 0) j)) (fun kv _=>N - (intOf kv).toNat)
  case atStart=>exact⟨0,rfl,by omega,by rw[a4v];exact HL⟩
  case round =>
   obtain⟨j,rfl,hj,hL⟩:=hrel;have HLr:=Hd hL;have t0:=a2a hL.2.1;have t1:=a1j hL.2.1;have hb:=hL.2.2.2.2;have hz:=(hb.block (w.heap.size+1+1+1) (by have:=HZS.out;omega)).trans HR;have HB4:=Hd hb;have hgt:=hL.1;by_cases hlt:j<N
   ·obtain⟨gb,cb,hv,hO⟩:=hL.2.2.2.1.own (by omega);injection hv with hv1 _ hv3
    subst hv1;subst hv3;have z1:=a1j ((hb.block w.heap.size (by have:=HZS.out;omega)).trans HA0);have a1:=a1j ((hb.block (w.heap.size+1) (by have:=HZS.out;omega)).trans HA);have b1:=a1j ((hb.block (w.heap.size+1+1) (by have:=HZS.out;omega)).trans HA');obtain⟨_,i1⟩:=a1b (HT0.below hb);obtain⟨_,i2⟩:=a1b (HT.below hb);obtain⟨_,i3⟩:=a1b (HT'.below hb);have hj0:j<m0:=by have:=i1.len;have:=HN.out;have:=HTL.out;omega
    have hj1:j<m:=by have:=i2.len;have:=HN.out;have:=HTL.out;have:=HDL.out;omega
    have hj2:j<m':=by have:=i3.len;have:=HN.out;have:=HTL.out;have:=HKL.out;omega
    obtain⟨zd,z,rfl,hbl0,hz0,hcz,hfz⟩:=i1.at_ (k:=j) hj0;obtain⟨bd,x,rfl,hbl,hx,hcx,hfx⟩:=i2.at_ (k:=j) hj1;obtain⟨bd', y,rfl,hbl', hy,hcy,hfy⟩:=i3.at_ (k:=j) hj2;have HXT:=Hd (HAT j z x y hz0 hx hy);have HFX:=Hd hfx;have HFY:=Hd hfy;have hcs:=hO.cell (a8e HN hlt);have hfs:=hO.frozen j;obtain⟨hn1,hn2⟩:=hL.ne;have hbW0:=(a1b HT0).2.lt zd rfl (by omega);have hbW:=(a1b HT).2.lt bd rfl (by omega);have hbW':=(a1b HT').2.lt bd' rfl (by omega);have k0:=a2t (q:=⟨gb,j,none⟩) (u:=.int .i64 y) t1 hn1;have k1':=a2t (q:=⟨gb,j,none⟩) (u:=.int .i64 y) b1 (by show w.heap.size+1+1≠gb;have:=HZS.out;omega);have k2':=a2t (q:=⟨gb,j,none⟩) (u:=.int .i64 y) hcy (by rw[a0d];show bd'.block≠gb;omega);have p0:=a2t (q:=⟨gb,j,none⟩) (u:=.int .i64 y) z1 (by show w.heap.size≠gb;have:=HZS.out;omega);have p1:=a2t (q:=⟨gb,j,none⟩) (u:=.int .i64 y) hcz (by rw[a0d];show zd.block≠gb;omega);have p2:=a2t (q:=⟨gb,j,none⟩) (u:=.int .i64 y) a1 (by show w.heap.size+1≠gb;have:=HZS.out;omega);have p3:=a2t (q:=⟨gb,j,none⟩) (u:=.int .i64 y) hcx (by rw[a0d];show bd.block≠gb;omega);have hL1:=(HLr.drew 1).store j hfy;clear hL hb hz i1 i2 i3 hO hx hfx hy hfy hz0 hfz t0
    go_upto_region 8 with fail
    go_region_held3 (fun w'=>w'.cell? ⟨gt,1,none⟩=some (.slice (some ⟨gb,0,none⟩) N k2)∧w'.cell? ⟨w.heap.size+1+1,1,none⟩=some (.slice (some bd') m' e')∧w'.cell? (bd'.add j)=some (.int .i64 y)) (go_keep) (fail)
    clear z1 a1 b1 t1 hcz hcx hcy hcs hfs k1' k2';generalize hwq:(wr.setCell ⟨gb,j,none⟩ (.int .i64 y)).drew=wq at *;have hL1:a6l W wq gt A1 (some ⟨gb,0,none⟩) ns k1 N k2 s ((mix tgt (List.replicate N 0) j).set j y):=by rw[←hwq];exact hL1
    clear hwq;by_cases hzz:z=0
    ·have HL1:=Hd hL1;have HXT:=Hd (show tgt[j]?=some y by have:=HXT.out;rwa [iP hzz] at this);clear hL1 p2 p3 k0;go_wp2;go_roundw
     case rel=>exact⟨j+1,by go_num,by omega,by rw[←a5n HN.out HXT.out];exact HL1⟩
     case measure=>simp[intOf];omega
    ·have hne:(z != 0)=true:=by simpa using hzz
     have HXT:=Hd (show tgt[j]?=some x by have:=HXT.out;rwa [iN hzz] at this);have hO:Own wq W.heap.size 2 gb N k2 _:=hL1.2.2.2.1;have hcs:=hO.cell (j:=j) (x:=y) (by rw[List.getElem?_set,iP rfl,iP (by have:=hO.len;simp at this;omega)]);have hfs:=hO.frozen j;have HL1:=Hd ((hL1.drew 1).store j HFX);have k0':=a2t (q:=⟨gb,j,none⟩) (u:=.int .i64 x) k0 hn1;have k1':=a2t (q:=⟨gb,j,none⟩) (u:=.int .i64 x) p2 (by show w.heap.size+1≠gb;have:=HZS.out;omega);have k2':=a2t (q:=⟨gb,j,none⟩) (u:=.int .i64 x) p3 (by rw[a0d];show bd.block≠gb;omega);clear hL1 hO hzz
     go_upto_region 10 with fail
     go_region_held3 (fun w'=>w'.cell? ⟨gt,1,none⟩=some (.slice (some ⟨gb,0,none⟩) N k2)∧w'.cell? ⟨w.heap.size+1,1,none⟩=some (.slice (some bd) m e)∧w'.cell? (bd.add j)=some (.int .i64 x)) (go_keep) (fail)
     clear k0 k0' k1' k2' p0 p1 p2 p3 hcs hfs;go_wp2;go_roundw
     case rel=>exact⟨j+1,by go_num,by omega,by rw[←a5n HN.out HXT.out];have:=HL1.out;rw[List.set_set] at this;exact this⟩
     case measure=>simp[intOf];omega
   ·obtain rfl:j=N:=by omega
    rw[a8d HN.out] at HLr;have d0:=a2a hz;have d1:=a1j hz;have f0:=frozen_of_row _ _ 0 _ _ hz;have f1:=frozen_of_row _ _ 1 _ _ hz;have HZr:=Hd hz;clear hL hb hz;go_wp2;rw[HQ.out];refine a6q (w.heap.size+1+1+1) _ _ (.int .i64 0) results81 rfl rfl (a3r HZr _ _) rfl ?_;have hgr:=a3n (a0y wr (w.heap.size+1+1+1) 0 (.slice A1 ns k1)) (a0y _ (w.heap.size+1+1+1) 1 (.slice D1 j k2));exact⟨⟨_,rfl,_,_,ns,j,rfl,(HLr.out.2.2.1.grown hgr (by have:=HZS.out;omega)).mono (by have:=HZS.out;omega),(HLr.out.2.2.2.1.grown hgr (by have:=HZS.out;omega)).mono (by have:=HZS.out;omega)⟩,((a1c HZ HB4).setCell (by show w.heap.size≤w.heap.size+1+1+1;omega) _).setCell (by show w.heap.size≤w.heap.size+1+1+1;omega) _⟩
def b5g (w:World) (t:TypeId) (xs:List Int) (e:Ending) (w' : World):Prop:=(∃ v n,e=.returned v∧OwnS w' w.heap.size t v n xs)∧Below w.heap.size w w'
theorem b5g.none_ (w:World)(t:TypeId):b5g w t [] (.returned (.slice none 0 0)) w:=⟨⟨_,_,rfl,OwnS.nil_ _ _ _⟩,Below.refl _ _⟩
theorem b5g.own {t:TypeId}(h:Own w' w.heap.size t g n c xs)(hb:Below w.heap.size w w'):b5g w t xs (.returned (.slice (some ⟨g,0,none⟩) n c)) w':=⟨⟨_,_,rfl,h⟩,hb⟩
theorem d1v {fn:Func}{p u:Tmp}{z:Value}(H:Sep w0 w l)(i:Nat)(hi:l[i]?=some (.box g 89 [x,y]))
  (h:fn.results=#[.cell p 89,.tmp u])(hp:a.tmps.getD p undef=.pointer (some ⟨g,0,none⟩))(hz:a.tmps.getD u undef=z)(hd:a.defers=[])(hR:R (.returned (.tuple #[.agg #[x,y],z])) w):bodyPost prog fn R .ret a w :=
 a6q g x y z h hp hz (H.heap i hi) hd hR
theorem sY2 {fn:Func}{p u:Tmp}{n0 n1:Nat}{e0 e1:TypeId}{x0 x1:List Int}(H:Sep w0 w l)(i k0 k1:Nat)(z:Value)(h:fn.results=#[.cell p 89,.tmp u])(hi:l[i]?=some (.box g 89 [v0,v1]):=by rfl)
  (hp:a.tmps.getD p undef=.pointer (some ⟨g,0,none⟩):=by rfl)(hz:a.tmps.getD u undef=z:=by rfl)(hd:a.defers=[]:=by rfl)(h0:l[k0]?=some (.own e0 v0 n0 x0):=by rfl)(h1:l[k1]?=some (.own e1 v1 n1 x1):=by rfl)
  (hR:OwnS w w0.heap.size e0 v0 n0 x0→OwnS w w0.heap.size e1 v1 n1 x1→Below w0.heap.size w0 w→R (.returned (.tuple #[.agg #[v0,v1],z])) w:=by exact fun a b c=>⟨⟨_,rfl,_,_,_,_,rfl,a,b⟩,c⟩):
  bodyPost prog fn R .ret a w:=d1v H i hi h hp hz hd (hR (H.ownS k0 h0) (H.ownS k1 h1) H.base)
theorem sN2 {fn:Func}{p u:Tmp}(H:Sep w0 w l)(i:Nat)(k:Int)(h:fn.results=#[.cell p 89,.tmp u])(hi:l[i]?=some (.box g 89 [x,y]):=by rfl)
  (hp:a.tmps.getD p undef=.pointer (some ⟨g,0,none⟩):=by rfl)(hz:a.tmps.getD u undef=.int .i64 k:=by rfl)(hd:a.defers=[]:=by rfl)
  (hR:∀ W,Below w0.heap.size w0 W→R (.returned (.tuple #[.agg #[.slice none 0 0,.slice none 0 0],.int .i64 k])) W:=by exact fun W hb=>⟨⟨_,rfl,_,_,0,0,rfl,OwnS.nil_ _ _ _,OwnS.nil_ _ _ _⟩,hb⟩):
  bodyPost prog fn R .ret a ((w.setCell ⟨g,0,none⟩ (.slice none 0 0)).setCell ⟨g,1,none⟩ (.slice none 0 0)):=by
 have h2:=(H.setBox i 0 (.slice none 0 0) hi).setBox i 1 (.slice none 0 0) (by rw[List.getElem?_set_self (lL hi)]);rw[List.set_set] at h2;exact d1v h2 i (List.getElem?_set_self (lL hi)) h hp hz hd (hR _ h2.base)
theorem Sep.addTen (h:Sep w0 w l)(hb:Below w.heap.size w w')(hu:OTen w' w.heap.size u s d):
  ∃ S ns sc D nd dc,u=.agg #[.slice S ns sc,.slice D nd dc]∧s.length=ns∧d.length=nd∧ns≤sc∧nd≤dc∧nd≤9223372036854775807∧Sep w0 w' (.own 3 (.slice S ns sc) ns s::.own 2 (.slice D nd dc) nd d::l):=by
 obtain⟨vs,vd,ns,nd,rfl,h1,h2⟩:=hu;obtain⟨S,sc,rfl,hs,_,_⟩:=h1.form;obtain⟨D,dc,rfl,hd,_,_⟩:=h2.form;exact⟨S,ns,sc,D,nd,dc,rfl,h1.len,h2.len,hs,hd,h2.2.2,h.addOwn2 hb h1 h2 (Ne.symm c7m.1)⟩
theorem Sep.aB {t:TypeId}{vs:List Value}(i:Nat)(h:Sep w0 w l)(hb:Below w.heap.size w w')(hu:OTen w' w.heap.size u s d)(hi:l[i]?=some (.box g t (v0::v1::vs)):=by rfl):
  ∃ S ns sc D nd dc,u=.agg #[.slice S ns sc,.slice D nd dc]∧Hid (Sep w0 w' (.own 3 (.slice S ns sc) ns s::.own 2 (.slice D nd dc) nd d::l))∧w'.cell? ⟨g,0,none⟩=some v0∧w'.cell? ⟨g,1,none⟩=some v1∧w'.frozen? ⟨g,0,none⟩=false∧w'.frozen? ⟨g,1,none⟩=false∧Hid (Sep w0 ((w'.setCell ⟨g,0,none⟩ (.slice S ns sc)).setCell ⟨g,1,none⟩ (.slice D nd dc)) (((.own 3 (.slice S ns sc) ns s::.own 2 (.slice D nd dc) nd d::l).set (i+2) (.box g t ((v0::v1::vs).set 0 (.slice S ns sc)))).set (i+2) (.box g t (((v0::v1::vs).set 0 (.slice S ns sc)).set 1 (.slice D nd dc))))):=by
 obtain⟨S,ns,sc,D,nd,dc,rfl,_,_,_,_,_,h7⟩:=h.addTen hb hu
 have hj:(a0e.own 3 (.slice S ns sc) ns s::a0e.own 2 (.slice D nd dc) nd d::l)[i+2]?=some (.box g t (v0::v1::vs)):=hi
 obtain⟨r0,r1,f0,f1⟩:=h7.b2 (i+2) hj
 exact⟨S,ns,sc,D,nd,dc,rfl,Hd h7,r0,r1,f0,f1,Hd ((h7.setBox (i+2) 0 (.slice S ns sc) hj).setBox (i+2) 1 (.slice D nd dc) (List.getElem?_set_self (lL hj)))⟩
theorem a3l {A:Option Addr}(i:Int)(h:Ints w A n xs)(hif:Fits i):
  Calls prog 110 #[.slice A n c,.int .i64 i] w fun e w'=>b5g w 3 (Sh.placeOf xs i) e w':=by
 have hn:=h.len;have hle:=h.le;have hsb:=Sh.size_bd xs;obtain⟨hsb1,hsb2⟩:=hsb;obtain⟨hi1,hi2⟩:=hif;by_cases hok:0≤i∧i<Sh.size xs
 ·obtain⟨hr,hd⟩:=Sh.size_pos hok.1 hok.2;have HP:=Hd (p:=Sh.placeOf xs i=Sh.place xs i) (by rw[Sh.placeOf,iP hok]);obtain⟨hi0,his⟩:=hok;have hl4:=(Sh.right_iff.1 hr).1;have hn4:n≤4:=by omega
  have HD:Hid (∀ x∈xs,0≤x∧x≤32):=Hd fun x hx=>⟨by have:=hd x hx;omega,(hd x hx).2⟩
  have H1:=Hd hn;clear hn;have HR:=Hd hr;clear hr;have HE:=Hd hd;clear hd;obtain⟨i0,hi,hz0,hz1,hz2⟩:=info_parts Tryz.infoInt;rw[HP.out]
  go_enter func110,ntmps110
  go_wp2_with (first|(go_at_call 26;refine(a2g h).mono ?_;rintro e w' ⟨rfl,rfl⟩)|(at_make;refine wpList_make_full _ rfl _ _ _ rfl _ _ i0 (.int .i64 0) 1 underlying25 hi hz0 hz1 .i64 .i64 _ _ n rfl rfl rfl rfl ?c1 ?c2 (Nat.le_refl _) ?_))
  case c1=>rw[hz2];omega
  case c2=>unfold maxLen;omega
  intro w1 hown hgr;have hO:=d1o (by omega) hown;have hB:Below w.heap.size w w1:=(Below.refl _ _).grown hgr (Nat.le_refl _) (by simp);have hsz:=hgr.size;clear hown hgr;go_wp2
  go_loopw [1,6] (fun p a wr=>∃(m:Nat) (k:Int),k+1=m∧m≤n∧a=.int .i64 k∧p=.int .i64 (i / Sh.pd (xs.drop m))∧∃ ys,Own wr w.heap.size 3 w.heap.size n n ys∧From m ys (Sh.place xs i)∧Below w.heap.size w wr) (fun _ a _=>(intOf a+1).toNat)
  case atStart =>
   refine⟨n,_,by omega,by omega,rfl,?_,_,hO,⟨?_,?_⟩,hB⟩
   ·rw[List.drop_eq_nil_of_le (by have:=H1.out;omega)];simp[Sh.pd]
   ·simp[Sh.place_length,H1.out]
   ·intro j hj;rw[List.getElem?_eq_none (by simp;omega),List.getElem?_eq_none (by rw[Sh.place_length,H1.out];omega)]
  case round =>
   clear hO hB hsz;obtain⟨m,k,hkm,hk2,rfl,rfl,ys,hO,hF,hB⟩:=hrel;by_cases hk0:0≤k
   ·obtain⟨m,rfl⟩:=eZ hk0;rename_i m0;obtain rfl:m0=m+1:=by omega
    have hmn:m<n:=by omega
    have h':=h.below hB;obtain⟨ad,x,rfl,hb,hx,hc,hf⟩:=h'.at_ hmn;obtain⟨hx1,hx2⟩:=HE.out x (mG hx);have hc2:wr.cell? ⟨w.heap.size,m,none⟩=some (.int .i64 (ys.getD m 0)):=hO.cell (by have:=hO.len;simp[List.getElem?_eq_getElem (by omega:m<ys.length)]);have hfz:=hO.frozen m;have hq:=Sh.pd_small HD hl4 (m+1);have hd0:0≤i / Sh.pd (xs.drop (m+1)):=Int.ediv_nonneg hi0 hq.1;have hd1:i / Sh.pd (xs.drop (m+1))≤9223372036854775807:=Int.le_trans (Int.ediv_le_self _ hi0) hi2;have hm0:0≤i / Sh.pd (xs.drop (m+1)) % x:=Int.emod_nonneg _ (by omega);have hm1:i / Sh.pd (xs.drop (m+1)) % x<x:=Int.emod_lt_of_pos _ (by omega);have HS:=Hd (Sh.left_step (i:=i) hx HD);have hO2:=hO.store m (u:=i / Sh.pd (xs.drop (m+1)) % x) ⟨by omega,by omega⟩;have hF2:=hF.set_ (Sh.place_at (i:=i) hx);have hB2:=hB.setCell (p:=⟨w.heap.size,m,none⟩) (Nat.le_refl _) (.int .i64 (i / Sh.pd (xs.drop (m+1)) % x));have hc3:(wr.setCell ⟨w.heap.size,m,none⟩ (.int .i64 (i / Sh.pd (xs.drop (m+1)) % x))).cell? (ad.add m)=some (.int .i64 x):=(h.below hB2).get hx;have HX:=Hd hx;clear hx hkm hk0 hO hF hB h' hq;go_wp2;go_roundw
    case rel=>exact⟨m,_,by omega,by omega,rfl,by rw[HS.out],_,hO2,hF2,hB2⟩
    case measure=>simp[intOf]
   ·obtain rfl:m=0:=by omega
    obtain rfl:k = -1:=by omega
    have HF:=Hd hF;clear hF;go_wp2;go_ret;rw[←HF.zero];exact b5g.own hO hB
 ·have HP:=Hd (p:=Sh.placeOf xs i=[]) (by rw[Sh.placeOf,iN hok]);rw[HP.out];have H1:=Hd hn;clear hn;by_cases hi0:i<0
  ·go_enter func110,ntmps110
   go_wp2_with (go_at_call 26;refine(a2g h).mono ?_;rintro e w' ⟨rfl,rfl⟩)
   go_ret;exact b5g.none_ w _
  ·have hi3:Sh.size xs≤i:=by omega
   clear hok
   go_enter func110,ntmps110
   go_wp2_with (go_at_call 26;refine(a2g h).mono ?_;rintro e w' ⟨rfl,rfl⟩)
   go_ret;exact b5g.none_ w _
end Go.Proofs.YtdcmanhgekjhgaaGreatDoor
