import Derived.Test.YtjblengklgkgfaaGreatPaf
import Derived.Test.YtjblengklgkgfaaGreatPah
set_option maxRecDepth 100000
set_option maxHeartbeats 12800000
namespace Go.Proofs.YtjblengklgkgfaaGreat
open Go.RowKit Go.Proofs.Tryz
variable {A:Option Addr} {c n:Nat} {d k s t:List Int} {v v':Value} {w:World}
theorem a8u (op a b:Int)(w:World):
  Calls prog 107 #[.int .i64 op,.int .i64 a,.int .i64 b] w fun e w'=>e=.returned (.int .i64 (a2b op a b))∧w=w':=by
 by_cases h4:op=4
 ·subst h4
  ·go_enter func107,ntmps107
   go_wp2;go_ret;exact⟨by simp[a2b],rfl⟩
 by_cases h5:op=5
 ·subst h5;clear h4;by_cases hc:a=0
  ·go_enter func107,ntmps107
   go_wp2;go_ret;exact⟨by simp[a2b,hc],rfl⟩
  ·go_enter func107,ntmps107
   go_wp2;go_ret;exact⟨by simp[a2b,hc],rfl⟩
 by_cases h6:op=6
 ·subst h6;clear h4 h5
  ·go_enter func107,ntmps107
   go_wp2;go_ret;exact⟨by simp[a2b],rfl⟩
 by_cases h7:op=7
 ·subst h7;clear h4 h5 h6
  ·go_enter func107,ntmps107
   go_wp2;go_ret;exact⟨by simp[a2b],rfl⟩
 by_cases h8:op=8
 ·subst h8;clear h4 h5 h6 h7
  ·go_enter func107,ntmps107
   go_wp2;go_ret;exact⟨by simp[a2b],rfl⟩
 by_cases h9:op=9
 ·subst h9;clear h4 h5 h6 h7 h8;by_cases hc:b<a
  ·go_enter func107,ntmps107
   go_wp2;go_ret;exact⟨by simp[a2b,hc],rfl⟩
  ·go_enter func107,ntmps107
   go_wp2;go_ret;exact⟨by simp[a2b];omega,rfl⟩
 by_cases h10:op=10
 ·subst h10;clear h4 h5 h6 h7 h8 h9;by_cases hc:b > a
  ·go_enter func107,ntmps107
   go_wp2;go_ret;exact⟨by simp[a2b,hc],rfl⟩
  ·go_enter func107,ntmps107
   go_wp2;go_ret;exact⟨by simp[a2b];omega,rfl⟩
 by_cases h11:op=11
 ·subst h11;clear h4 h5 h6 h7 h8 h9 h10;by_cases hc:a<b
  ·go_enter func107,ntmps107
   go_wp2;go_ret;exact⟨by simp[a2b,hc],rfl⟩
  ·go_enter func107,ntmps107
   go_wp2;go_ret;exact⟨by simp[a2b,hc],rfl⟩
 have HX:=Hd (show a2b op a b=0 by simp[a2b,h4,h5,h6,h7,h8,h9,h10,h11])
 go_enter func107,ntmps107
 go_wp2;go_ret;exact⟨by rw[HX.out];rfl,rfl⟩
def fitB (s d t k:List Int):Bool:=a0a s d&&(a0a t k&&s==t)
theorem d6i:(s==t)=(t==s):=by
 by_cases h:s=t
 ·subst h;rfl
 ·rw[beq_eq_false_iff_ne.2 h,beq_eq_false_iff_ne.2 (Ne.symm h)]
theorem c3f:fitB s d t k=(a0a s d&&(a0a t k&&t==s)):=by rw[fitB,d6i]
theorem c3g (h:Ten w v s d)(h' : Ten w v' t k):
  Calls prog 108 #[v,v'] w fun e w'=>e=.returned (.bool (fitB s d t k))∧Below w.heap.size w w':=by
 obtain⟨A,n,c,B,m,e,rfl,hnc,hme,hI,hJ⟩:=h;obtain⟨A', n', c', B', m', e', rfl,hnc', hme', hI', hJ'⟩:=h';have hz:=((Below.refl w.heap.size w).alloc (Nat.le_refl _) (.cells #[.slice A n c,.slice B m e] 33)).alloc (by simp) (.cells #[.slice A' n' c', .slice B' m' e'] 33);have ha:=heap_alloc2_old w (.cells #[.slice A n c,.slice B m e] 33) (.cells #[.slice A' n' c', .slice B' m' e'] 33);have hr:=heap_alloc2_new w (.cells #[.slice A n c,.slice B m e] 33) (.cells #[.slice A' n' c', .slice B' m' e'] 33)
 go_enter func108,ntmps108
 go_upto_region 1 with fail
 generalize (w.alloc (.cells #[.slice A n c,.slice B m e] 33)).alloc (.cells #[.slice A' n' c', .slice B' m' e'] 33)=W at *;have a0:=a0q ha;have a1:=a0j ha;have b0:=a0q hr;have b1:=a0j hr;have HT:=Hd (a1s (hI.below hz) hnc (hJ.below hz) hme);have HT':=Hd (a1s (hI'.below hz) hnc' (hJ'.below hz) hme');have HZ:=Hd hz;have HI:=Hd (hI.below hz);have HI':=Hd (hI'.below hz);clear hI hJ hI' hJ' hz ha hr;have C1:=a2q HT
 go_wp2_with fail
 cases h1:a0a s d with
 | false =>
  rw[h1] at C1;refine C1.mono ?_;rintro e2 w2 ⟨rfl,hb2⟩;have HX:=Hd (show fitB s d t k=false by simp[fitB,h1]);have HB:=Hd (a1m HZ hb2);clear hb2 h1 C1 a0 a1 b0 b1;go_wp2;go_ret
  exact⟨a0b HX.symm,HB⟩
 | true =>
  rw[h1] at C1;refine C1.mono ?_;rintro e2 w2 ⟨rfl,hb2⟩;have HB:=Hd (a1m HZ hb2);have a0:=a1t hb2 a0;have a1:=a1t hb2 a1;have b0:=a1t hb2 b0;have b1:=a1t hb2 b1;have HI2:=Hd (HI.below hb2);have HI2':=Hd (HI'.below hb2);have C2:=a2q (HT'.below hb2);have H1:=Hd h1;clear hb2 h1 C1
  go_wp2_with fail
  cases h2:a0a t k with
  | false =>
   rw[h2] at C2;refine C2.mono ?_;rintro e3 w3 ⟨rfl,hb3⟩;have HX:=Hd (show fitB s d t k=false by simp[fitB,h2]);have HB3:=Hd (a1m HB hb3);clear hb3 h2 C2 a0 a1 b0 b1;go_wp2;go_ret
   exact⟨a0b HX.symm,HB3⟩
  | true =>
   rw[h2] at C2;refine C2.mono ?_;rintro e3 w3 ⟨rfl,hb3⟩;have HX:=Hd (show fitB s d t k=(s==t) by simp[fitB,h2,H1.out]);have HB3:=Hd (a1m HB hb3);have a0:=a1t hb3 a0;have a1:=a1t hb3 a1;have b0:=a1t hb3 b0;have b1:=a1t hb3 b1;have C3:=a9h (c:=c) (d:=c') (HI2.below hb3) (HI2'.below hb3);clear hb3 h2 C2
   go_wp2_with fail
   refine C3.mono ?_;rintro e4 w4 ⟨rfl,rfl⟩;go_wp2;go_ret;exact⟨a0b HX.symm,HB3⟩
theorem c9i (op:Int)(h:Ten w v s d):
  Calls prog 61 #[.int .i64 op,v] w fun e w'=>(∃ u,e=.returned (.tuple #[u,.int .i64 (oneR op s d).1])∧OTen w' w.heap.size u (oneR op s d).2.1 (oneR op s d).2.2)∧Below w.heap.size w w':=by
 obtain⟨A,n,c,B,m,e,rfl,hnc,hme,hI,hJ⟩:=h;have hz:=((Below.refl w.heap.size w).alloc (Nat.le_refl _) (.cells #[.slice A n c,.slice B m e] 33)).alloc (by simp) (.cells #[.slice none 0 0,.slice none 0 0] 33);have ha:=heap_alloc2_old w (.cells #[.slice A n c,.slice B m e] 33) (.cells #[.slice none 0 0,.slice none 0 0] 33);have hr:=heap_alloc2_new w (.cells #[.slice A n c,.slice B m e] 33) (.cells #[.slice none 0 0,.slice none 0 0] 33);have hzs:((w.alloc (.cells #[.slice A n c,.slice B m e] 33)).alloc (.cells #[.slice none 0 0,.slice none 0 0] 33)).heap.size=w.heap.size+1+1:=by simp
 go_enter func61,ntmps61
 go_upto_region 1 with fail
 generalize (w.alloc (.cells #[.slice A n c,.slice B m e] 33)).alloc (.cells #[.slice none 0 0,.slice none 0 0] 33)=W at *;have HT:=Hd (a1s (hI.below hz) hnc (hJ.below hz) hme);have HZ:=Hd hz;have HZS:=Hd hzs;have HA:=Hd ha;have HR:=Hd hr;clear hI hJ hz hzs ha hr;have a0:=a0q HA;have a1:=a0j HA;have d0:=a0q HR;have d1:=a0j HR;have f0:=frozen_of_row _ _ 0 _ _ HR;have f1:=frozen_of_row _ _ 1 _ _ HR;by_cases hop:op≠4∧op≠5
 ·have HX:=Hd (c8y (s:=s) (d:=d) hop);have hg4:(op != 4)=true:=by simp[hop.1]
  have hg5:(op != 5)=true:=by simp[hop.2]
  clear a0 a1 hop;go_wp2;rw[HX.out];refine a2m (w.heap.size+1) _ _ (.int .i64 1) results61 rfl rfl (a1g HR _ _) rfl ?_;exact⟨⟨_,rfl,_,_,0,0,rfl,OwnS.nil_ _ _ _,OwnS.nil_ _ _ _⟩,(HZ.setCell (by show w.heap.size≤w.heap.size+1;omega) _).setCell (by show w.heap.size≤w.heap.size+1;omega) _⟩
 ·have hop' : op=4∨op=5:=by omega
  clear hop;obtain⟨tgt,htg⟩:∃ t,t=d.map fun x=>a2b op x 0:=⟨_,rfl⟩
  have HQ1:=Hd (fun hr:a0a s d=false=>c2b hop' hr);have HQ2:=Hd (fun hr:a0a s d=true=>(c8i hop' hr).trans (show _=((0,s,tgt):Int × List Int × List Int) by rw[htg]));have HAT:=Hd (show ∀ j x,d[j]?=some x→tgt[j]?=some (a2b op x 0) from fun j x hx=>by rw[htg];exact d9q hx);have HTL:=Hd (show tgt.length=d.length by rw[htg];simp);clear htg;have hgs:((op != 4)=false)∨((op != 4)=true∧(op != 5)=false):=by rcases hop' with rfl|rfl <;> simp
  clear hop';rcases hgs with hg4|⟨hg4,hg5⟩
  all_goals (
   have C1:=a2q HT
   go_wp2_with fail
   cases hr:a0a s d with
   | false =>
    rw[hr] at C1;refine C1.mono ?_;rintro e2 w2 ⟨rfl,hb2⟩;have HB:=Hd hb2;have HQ:=Hd (HQ1 hr);have hr2:=(HB.block (w.heap.size+1) (by have:=HZS.out;omega)).trans HR;have d0:=a0q hr2;have d1:=a0j hr2;have f0:=frozen_of_row _ _ 0 _ _ hr2;have f1:=frozen_of_row _ _ 1 _ _ hr2;have HR2:=Hd hr2;clear hb2 hr hr2 C1;go_wp2;rw[HQ.out];refine a2m (w.heap.size+1) _ _ (.int .i64 13) results61 rfl rfl (a1g HR2 _ _) rfl ?_
    exact⟨⟨_,rfl,_,_,0,0,rfl,OwnS.nil_ _ _ _,OwnS.nil_ _ _ _⟩,((a1m HZ HB).setCell (by show w.heap.size≤w.heap.size+1;omega) _).setCell (by show w.heap.size≤w.heap.size+1;omega) _⟩
   | true =>
    rw[hr] at C1;refine C1.mono ?_;rintro e2 w2 ⟨rfl,hb2⟩;have HB:=Hd hb2;have HRT:=Hd hr;have a0:=a1t HB a0;have a1:=a1t HB a1;have HT2:=Hd (HT.below HB);have HFT:=Hd (a0u HT2).2.fit;clear hb2 hr C1
    go_wp2_with fail
    refine(b4u HT2 (by have:=(a1f HRT).1;omega) (by have:=(a1f HRT).2;omega)).mono ?_;rintro e3 w3 ⟨⟨u,ga,gb,ns,N,rfl,rfl,hvs,hvd⟩,hb3⟩;have hDN:d.length=N:=hvd.len;have hN:tgt.length=N:=by have:=HTL.out;omega
    have hNle:N≤9223372036854775807:=hvd.2.2;have HDN:=Hd hDN;have hvs:OwnS w3 w2.heap.size 3 (.slice (some ⟨ga,0,none⟩) ns ns) ns s:=hvs;have hvd:OwnS w3 w2.heap.size 2 (.slice (some ⟨gb,0,none⟩) N N) N d:=hvd;have hL:=a7f (a1m HB hb3) (hvs.mono HB.size) (hvd.mono HB.size);have HN:=Hd hN;clear hb3 hvs hvd hN hDN a0 a1
    go_upto_region 6 with fail
    generalize w3.alloc (.cells #[.slice (some ⟨ga,0,none⟩) ns ns,.slice (some ⟨gb,0,none⟩) N N] 33)=w4 at *;generalize w3.heap.size=gt at *;have t1:=a0j hL.2.1;have HL:=Hd hL;clear hL
    go_wp2_with fail
    clear t1
    go_loopw [25] (fun kv wr=>∃ j:Nat,kv=.int .i64 j∧j≤N∧a5v W wr gt (some ⟨ga,0,none⟩) (some ⟨gb,0,none⟩) ns ns N N s (mix tgt d j)) (fun kv _=>N - (intOf kv).toNat)
    case atStart=>exact⟨0,rfl,by omega,by rw[a2p];exact HL⟩
    case round =>
     obtain⟨j,rfl,hj,hL⟩:=hrel;have hLr:=hL;have HLr:=Hd hL;have t0:=a0q hL.2.1;have t1:=a0j hL.2.1;have hb:=hL.2.2.2.2;have hz:=(hb.block (w.heap.size+1) (by have:=HZS.out;omega)).trans HR;have HB4:=Hd hb;have HT4:=Hd (HT.below hb);have a1:=a0j ((hb.block w.heap.size (by have:=HZS.out;omega)).trans HA);have hgt:=hL.1;by_cases hlt:j<N
     ·have hO:Own wr W.heap.size 2 gb N N _:=hL.2.2.2.1;obtain⟨x,hx⟩:∃ x,d[j]?=some x:=gE (by have:=HDN.out;omega);have hfx:Fits x:=HFT.out x (mG hx);have HS:=Hd ((HLr.drew 1).store j (b1w op hfx (show Fits 0 from⟨by omega,by omega⟩)));have HX:=Hd hx;have hcs:=hO.cell (j:=j) (x:=x) (by rw[c1j (by have:=HN.out;have:=HDN.out;omega) (by have:=HDN.out;omega)];exact hx);have hfs:=hO.frozen j;obtain⟨hn1,hn2⟩:=hLr.ne;have k0:=a2h (q:=⟨gb,j,none⟩) (u:=.int .i64 (a2b op x 0)) t1 hn1;clear hL hb hz hO hx hfx t0 a1
      go_wp2_with fail
      go_region_held3 (fun w'=>w'.cell? ⟨gt,1,none⟩=some (.slice (some ⟨gb,0,none⟩) N N)) (go_keep)
       (first|(go_at_call 107;refine(a8u _ _ _ _).mono ?_;rintro e5 w5 ⟨rfl,rfl⟩))
      clear k0 t1 hcs hfs;go_wp2;go_roundw
      case rel=>exact⟨j+1,by go_num,by omega,by rw[←b3h (by have:=HN.out;have:=HDN.out;omega) (HAT.out j x HX.out)];exact HS⟩
      case measure=>simp[intOf];omega
     ·obtain rfl:j=N:=by omega
      rw[show mix tgt d j=tgt by have:=b1t (t:=tgt) (o:=d) (by have:=HN.out;have:=HDN.out;omega);rwa [HDN.out] at this] at HLr;have d0:=a0q hz;have d1:=a0j hz;have f0:=frozen_of_row _ _ 0 _ _ hz;have f1:=frozen_of_row _ _ 1 _ _ hz;have HZr:=Hd hz;have HQ:=Hd (HQ2 HRT);clear hL hb hz a1;go_wp2;rw[HQ.out];refine a2m (w.heap.size+1) _ _ (.int .i64 0) results61 rfl rfl (a1g HZr _ _) rfl ?_;have hgr:=a1b (a0h wr (w.heap.size+1) 0 (.slice (some ⟨ga,0,none⟩) ns ns)) (a0h _ (w.heap.size+1) 1 (.slice (some ⟨gb,0,none⟩) j j));exact⟨⟨_,rfl,_,_,ns,j,rfl,(HLr.out.2.2.1.grown hgr (by have:=HZS.out;omega)).mono (by have:=HZS.out;omega),(HLr.out.2.2.2.1.grown hgr (by have:=HZS.out;omega)).mono (by have:=HZS.out;omega)⟩,((a1m HZ HB4).setCell (by show w.heap.size≤w.heap.size+1;omega) _).setCell (by show w.heap.size≤w.heap.size+1;omega) _⟩
   )
theorem d6g (op:Int)(h:Ten w v s d)(h' : Ten w v' t k):
  Calls prog 62 #[.int .i64 op,v,v'] w fun e w'=>(∃ u,e=.returned (.tuple #[u,.int .i64 (twoR op s d t k).1])∧OTen w' w.heap.size u (twoR op s d t k).2.1 (twoR op s d t k).2.2)∧Below w.heap.size w w':=by
 obtain⟨A,n,c,B,m,e,rfl,hnc,hme,hI,hJ⟩:=h;obtain⟨A', n', c', B', m', e', rfl,hnc', hme', hI', hJ'⟩:=h';have hz:=(((Below.refl w.heap.size w).alloc (Nat.le_refl _) (.cells #[.slice A n c,.slice B m e] 33)).alloc (by simp) (.cells #[.slice A' n' c', .slice B' m' e'] 33)).alloc (by simp;omega) (.cells #[.slice none 0 0,.slice none 0 0] 33);have ha:(((w.alloc (.cells #[.slice A n c,.slice B m e] 33)).alloc (.cells #[.slice A' n' c', .slice B' m' e'] 33)).alloc (.cells #[.slice none 0 0,.slice none 0 0] 33)).heap[w.heap.size]?=some (.cells #[.slice A n c,.slice B m e] 33):=a6p w (.cells #[.slice A n c,.slice B m e] 33) (.cells #[.slice A' n' c', .slice B' m' e'] 33) (.cells #[.slice none 0 0,.slice none 0 0] 33);have ha' : (((w.alloc (.cells #[.slice A n c,.slice B m e] 33)).alloc (.cells #[.slice A' n' c', .slice B' m' e'] 33)).alloc (.cells #[.slice none 0 0,.slice none 0 0] 33)).heap[w.heap.size+1]?=some (.cells #[.slice A' n' c', .slice B' m' e'] 33):=a6l w (.cells #[.slice A n c,.slice B m e] 33) (.cells #[.slice A' n' c', .slice B' m' e'] 33) (.cells #[.slice none 0 0,.slice none 0 0] 33);have hr:(((w.alloc (.cells #[.slice A n c,.slice B m e] 33)).alloc (.cells #[.slice A' n' c', .slice B' m' e'] 33)).alloc (.cells #[.slice none 0 0,.slice none 0 0] 33)).heap[w.heap.size+1+1]?=some (.cells #[.slice none 0 0,.slice none 0 0] 33):=a6m w (.cells #[.slice A n c,.slice B m e] 33) (.cells #[.slice A' n' c', .slice B' m' e'] 33) (.cells #[.slice none 0 0,.slice none 0 0] 33);have hzs:(((w.alloc (.cells #[.slice A n c,.slice B m e] 33)).alloc (.cells #[.slice A' n' c', .slice B' m' e'] 33)).alloc (.cells #[.slice none 0 0,.slice none 0 0] 33)).heap.size=w.heap.size+1+1+1:=by simp
 go_enter func62,ntmps62
 go_upto_region 1 with fail
 generalize ((w.alloc (.cells #[.slice A n c,.slice B m e] 33)).alloc (.cells #[.slice A' n' c', .slice B' m' e'] 33)).alloc (.cells #[.slice none 0 0,.slice none 0 0] 33)=W at *;have HT:=Hd (a1s (hI.below hz) hnc (hJ.below hz) hme);have HT':=Hd (a1s (hI'.below hz) hnc' (hJ'.below hz) hme');have HA':=Hd ha';have HZ:=Hd hz;have HZS:=Hd hzs;have HA:=Hd ha;have HR:=Hd hr;clear hI hJ hI' hJ' hz hzs ha ha' hr;have a0:=a0q HA;have a1:=a0j HA;have b0:=a0q HA';have b1:=a0j HA';have d0:=a0q HR;have d1:=a0j HR;have f0:=frozen_of_row _ _ 0 _ _ HR;have f1:=frozen_of_row _ _ 1 _ _ HR;by_cases hop:op<6∨11<op
 ·have HX:=Hd (c9j (s:=s) (d:=d) (t:=t) (k:=k) hop);have hgs:op<6∨(¬ op<6∧op > 11):=by omega
  clear a0 a1 b0 b1 hop;rcases hgs with hg4|⟨hg4,hg5⟩
  all_goals (
   go_wp2;rw[HX.out];refine a2m (w.heap.size+1+1) _ _ (.int .i64 1) results62 rfl rfl (a1g HR _ _) rfl ?_;exact⟨⟨_,rfl,_,_,0,0,rfl,OwnS.nil_ _ _ _,OwnS.nil_ _ _ _⟩,(HZ.setCell (by show w.heap.size≤w.heap.size+1+1;omega) _).setCell (by show w.heap.size≤w.heap.size+1+1;omega) _⟩
   )
 ·have hop' : 6≤op∧op≤11:=by omega
  clear hop;obtain⟨tgt,htg⟩:∃ z,z=List.zipWith (a2b op) d k:=⟨_,rfl⟩;have HQ1:=Hd (fun hr:(a0a s d&&(a0a t k&&t==s))=false=>c1u hop' hr);have HQ2:=Hd (fun hr:(a0a s d&&(a0a t k&&t==s))=true=>(d3k hop' hr).trans (show _=((0,s,tgt):Int × List Int × List Int) by rw[htg]));have HAT:=Hd (show ∀ j x y,d[j]?=some x→k[j]?=some y→tgt[j]?=some (a2b op x y) from fun j x y hx hy=>by rw[htg];exact d9t hx hy);have HTL:=Hd (show k.length=d.length→tgt.length=d.length by intro hl;rw[htg];simp;omega);clear htg;have hg4:¬ op<6:=by omega
  have hg5:¬ op > 11:=by omega
  clear hop';have C1:=c3g HT HT';rw[c3f] at C1
  go_wp2_with fail
  cases hr:(a0a s d&&(a0a t k&&t==s)) with
  | false =>
   rw[hr] at C1;refine C1.mono ?_;rintro e2 w2 ⟨rfl,hb2⟩;have HB:=Hd hb2;have HQ:=Hd (HQ1 hr);have hr2:=(HB.block (w.heap.size+1+1) (by have:=HZS.out;omega)).trans HR;have d0:=a0q hr2;have d1:=a0j hr2;have f0:=frozen_of_row _ _ 0 _ _ hr2;have f1:=frozen_of_row _ _ 1 _ _ hr2;have HR2:=Hd hr2;clear hb2 hr hr2 C1;go_wp2;rw[HQ.out];refine a2m (w.heap.size+1+1) _ _ (.int .i64 13) results62 rfl rfl (a1g HR2 _ _) rfl ?_
   exact⟨⟨_,rfl,_,_,0,0,rfl,OwnS.nil_ _ _ _,OwnS.nil_ _ _ _⟩,((a1m HZ HB).setCell (by show w.heap.size≤w.heap.size+1+1;omega) _).setCell (by show w.heap.size≤w.heap.size+1+1;omega) _⟩
  | true =>
   rw[hr] at C1;refine C1.mono ?_;rintro e2 w2 ⟨rfl,hb2⟩;have HB:=Hd hb2;have HRT:=Hd hr;obtain⟨hra,hrb,hrs⟩:=c4j hr;have HRA:=Hd hra;have HTL:=Hd (HTL (by have:=a0z hra;have:=a0z hrb;rw[hrs] at *;omega));have HKL:=Hd (show k.length=d.length by have:=a0z hra;have:=a0z hrb;rw[hrs] at *;omega);clear hra hrb hrs;have a0:=a1t HB a0;have a1:=a1t HB a1;have HT2:=Hd (HT.below HB);have HFT:=Hd (a0u HT2).2.fit;clear hb2 hr C1
   go_wp2_with fail
   refine(b4u HT2 (by have:=(a1f HRA).1;omega) (by have:=(a1f HRA).2;omega)).mono ?_;rintro e3 w3 ⟨⟨u,ga,gb,ns,N,rfl,rfl,hvs,hvd⟩,hb3⟩;have hDN:d.length=N:=hvd.len;have hN:tgt.length=N:=by have:=HTL.out;omega
   have hNle:N≤9223372036854775807:=hvd.2.2;have HDN:=Hd hDN;have hvs:OwnS w3 w2.heap.size 3 (.slice (some ⟨ga,0,none⟩) ns ns) ns s:=hvs;have hvd:OwnS w3 w2.heap.size 2 (.slice (some ⟨gb,0,none⟩) N N) N d:=hvd;have hL:=a7f (a1m HB hb3) (hvs.mono HB.size) (hvd.mono HB.size);have HN:=Hd hN;clear hb3 hvs hvd hN hDN a0 a1 b0 b1
   go_upto_region 6 with fail
   generalize w3.alloc (.cells #[.slice (some ⟨ga,0,none⟩) ns ns,.slice (some ⟨gb,0,none⟩) N N] 33)=w4 at *;generalize w3.heap.size=gt at *;have t1:=a0j hL.2.1;have HL:=Hd hL;clear hL
   go_wp2_with fail
   clear t1
   go_loopw [28] (fun kv wr=>∃ j:Nat,kv=.int .i64 j∧j≤N∧a5v W wr gt (some ⟨ga,0,none⟩) (some ⟨gb,0,none⟩) ns ns N N s (mix tgt d j)) (fun kv _=>N - (intOf kv).toNat)
   case atStart=>exact⟨0,rfl,by omega,by rw[a2p];exact HL⟩
   case round =>
    obtain⟨j,rfl,hj,hL⟩:=hrel;have hLr:=hL;have HLr:=Hd hL;have t0:=a0q hL.2.1;have t1:=a0j hL.2.1;have hb:=hL.2.2.2.2;have hz:=(hb.block (w.heap.size+1+1) (by have:=HZS.out;omega)).trans HR;have HB4:=Hd hb;have HT4:=Hd (HT.below hb);have HT5:=Hd (HT'.below hb);have b1:=a0j ((hb.block (w.heap.size+1) (by have:=HZS.out;omega)).trans HA');have a1:=a0j ((hb.block w.heap.size (by have:=HZS.out;omega)).trans HA);have hgt:=hL.1;by_cases hlt:j<N
    ·have hO:Own wr W.heap.size 2 gb N N _:=hL.2.2.2.1;obtain⟨x,hx⟩:∃ x,d[j]?=some x:=gE (by have:=HDN.out;omega);have hfx:Fits x:=HFT.out x (mG hx);obtain⟨_,i3⟩:=a0u HT5;have hjm' : j<m':=by have:=i3.len;have:=HDN.out;have:=HKL.out;omega
     obtain⟨bd', y,rfl,hbl', hy,hcy,hfy⟩:=i3.at_ (k:=j) hjm';have HS:=Hd ((HLr.drew 1).store j (b1w op hfx hfy));have HX:=Hd hx;have HY:=Hd hy;have hcs:=hO.cell (j:=j) (x:=x) (by rw[c1j (by have:=HN.out;have:=HDN.out;omega) (by have:=HDN.out;omega)];exact hx);have hfs:=hO.frozen j;obtain⟨hn1,hn2⟩:=hLr.ne;have k0:=a2h (q:=⟨gb,j,none⟩) (u:=.int .i64 (a2b op x y)) t1 hn1;have hbW':=(a0u HT').2.lt bd' rfl (by omega);have k3:=a2h (q:=⟨gb,j,none⟩) (u:=.int .i64 (a2b op x y)) b1 (by show w.heap.size+1≠gb;have:=HZS.out;omega);have k4:=a2h (q:=⟨gb,j,none⟩) (u:=.int .i64 (a2b op x y)) hcy (by rw[a0g];show bd'.block≠gb;omega);clear hL hb hz i3 hO hx hfx hy hfy t0 a1
     go_wp2_with fail
     go_region_held3 (fun w'=>w'.cell? ⟨gt,1,none⟩=some (.slice (some ⟨gb,0,none⟩) N N)∧w'.cell? ⟨w.heap.size+1,1,none⟩=some (.slice (some bd') m' e')∧w'.cell? (bd'.add j)=some (.int .i64 y)) (go_keep)
      (first|(go_at_call 107;refine(a8u _ _ _ _).mono ?_;rintro e5 w5 ⟨rfl,rfl⟩))
     clear k0 k3 k4 b1 t1 hcy hcs hfs;go_wp2;go_roundw
     case rel=>exact⟨j+1,by go_num,by omega,by rw[←b3h (by have:=HN.out;have:=HDN.out;omega) (HAT.out j x y HX.out HY.out)];exact HS⟩
     case measure=>simp[intOf];omega
    ·obtain rfl:j=N:=by omega
     rw[show mix tgt d j=tgt by have:=b1t (t:=tgt) (o:=d) (by have:=HN.out;have:=HDN.out;omega);rwa [HDN.out] at this] at HLr;have d0:=a0q hz;have d1:=a0j hz;have f0:=frozen_of_row _ _ 0 _ _ hz;have f1:=frozen_of_row _ _ 1 _ _ hz;have HZr:=Hd hz;have HQ:=Hd (HQ2 HRT);clear hL hb hz a1 b1;go_wp2;rw[HQ.out];refine a2m (w.heap.size+1+1) _ _ (.int .i64 0) results62 rfl rfl (a1g HZr _ _) rfl ?_;have hgr:=a1b (a0h wr (w.heap.size+1+1) 0 (.slice (some ⟨ga,0,none⟩) ns ns)) (a0h _ (w.heap.size+1+1) 1 (.slice (some ⟨gb,0,none⟩) j j));exact⟨⟨_,rfl,_,_,ns,j,rfl,(HLr.out.2.2.1.grown hgr (by have:=HZS.out;omega)).mono (by have:=HZS.out;omega),(HLr.out.2.2.2.1.grown hgr (by have:=HZS.out;omega)).mono (by have:=HZS.out;omega)⟩,((a1m HZ HB4).setCell (by show w.heap.size≤w.heap.size+1+1;omega) _).setCell (by show w.heap.size≤w.heap.size+1+1;omega) _⟩
theorem d7d {l:List Int}{j:Nat}{x:Int}(h:l[j]?=some x):l.set j x=l:=by
 apply List.ext_getElem?;intro i;rw[List.getElem?_set];by_cases hi:j=i
 ·subst hi;rw[iP rfl,h,iP (lL h)]
 ·rw[iN hi]
theorem d3o {v0:Value}{cs cd:List Int}(h0:Ten w v0 cs cd)(h:Ten w v s d)(h' : Ten w v' t k):
  Calls prog 63 #[v0,v,v'] w fun e w'=>(∃ u,e=.returned (.tuple #[u,.int .i64 (a7j cs cd s d t k).1])∧OTen w' w.heap.size u (a7j cs cd s d t k).2.1 (a7j cs cd s d t k).2.2)∧Below w.heap.size w w':=by
 obtain⟨A0,n0,c0,B0,m0,e0,rfl,hnc0,hme0,hI0,hJ0⟩:=h0;obtain⟨A,n,c,B,m,e,rfl,hnc,hme,hI,hJ⟩:=h;obtain⟨A', n', c', B', m', e', rfl,hnc', hme', hI', hJ'⟩:=h';have hz0:=(((Below.refl w.heap.size w).alloc (Nat.le_refl _) (.cells #[.slice A0 n0 c0,.slice B0 m0 e0] 33)).alloc (by simp) (.cells #[.slice A n c,.slice B m e] 33)).alloc (by simp;omega) (.cells #[.slice A' n' c', .slice B' m' e'] 33);have hz:=hz0.alloc (by simp;omega) (.cells #[.slice none 0 0,.slice none 0 0] 33);have hx0:(((w.alloc (.cells #[.slice A0 n0 c0,.slice B0 m0 e0] 33)).alloc (.cells #[.slice A n c,.slice B m e] 33)).alloc (.cells #[.slice A' n' c', .slice B' m' e'] 33)).heap.size=w.heap.size+1+1+1:=by simp
 have hzx:=(Below.refl (((w.alloc (.cells #[.slice A0 n0 c0,.slice B0 m0 e0] 33)).alloc (.cells #[.slice A n c,.slice B m e] 33)).alloc (.cells #[.slice A' n' c', .slice B' m' e'] 33)).heap.size (((w.alloc (.cells #[.slice A0 n0 c0,.slice B0 m0 e0] 33)).alloc (.cells #[.slice A n c,.slice B m e] 33)).alloc (.cells #[.slice A' n' c', .slice B' m' e'] 33))).alloc (Nat.le_refl _) (.cells #[.slice none 0 0,.slice none 0 0] 33);have hc:((((w.alloc (.cells #[.slice A0 n0 c0,.slice B0 m0 e0] 33)).alloc (.cells #[.slice A n c,.slice B m e] 33)).alloc (.cells #[.slice A' n' c', .slice B' m' e'] 33)).alloc (.cells #[.slice none 0 0,.slice none 0 0] 33)).heap[w.heap.size]?=some (.cells #[.slice A0 n0 c0,.slice B0 m0 e0] 33):=(hzx.block _ (by rw[hx0];omega)).trans (a6p w (.cells #[.slice A0 n0 c0,.slice B0 m0 e0] 33) (.cells #[.slice A n c,.slice B m e] 33) (.cells #[.slice A' n' c', .slice B' m' e'] 33));have ha:((((w.alloc (.cells #[.slice A0 n0 c0,.slice B0 m0 e0] 33)).alloc (.cells #[.slice A n c,.slice B m e] 33)).alloc (.cells #[.slice A' n' c', .slice B' m' e'] 33)).alloc (.cells #[.slice none 0 0,.slice none 0 0] 33)).heap[w.heap.size+1]?=some (.cells #[.slice A n c,.slice B m e] 33):=(hzx.block _ (by rw[hx0];omega)).trans (a6l w (.cells #[.slice A0 n0 c0,.slice B0 m0 e0] 33) (.cells #[.slice A n c,.slice B m e] 33) (.cells #[.slice A' n' c', .slice B' m' e'] 33));have ha' : ((((w.alloc (.cells #[.slice A0 n0 c0,.slice B0 m0 e0] 33)).alloc (.cells #[.slice A n c,.slice B m e] 33)).alloc (.cells #[.slice A' n' c', .slice B' m' e'] 33)).alloc (.cells #[.slice none 0 0,.slice none 0 0] 33)).heap[w.heap.size+1+1]?=some (.cells #[.slice A' n' c', .slice B' m' e'] 33):=(hzx.block _ (by rw[hx0];omega)).trans (a6m w (.cells #[.slice A0 n0 c0,.slice B0 m0 e0] 33) (.cells #[.slice A n c,.slice B m e] 33) (.cells #[.slice A' n' c', .slice B' m' e'] 33));have hr:((((w.alloc (.cells #[.slice A0 n0 c0,.slice B0 m0 e0] 33)).alloc (.cells #[.slice A n c,.slice B m e] 33)).alloc (.cells #[.slice A' n' c', .slice B' m' e'] 33)).alloc (.cells #[.slice none 0 0,.slice none 0 0] 33)).heap[w.heap.size+1+1+1]?=some (.cells #[.slice none 0 0,.slice none 0 0] 33):=by have:=heap_alloc_new (((w.alloc (.cells #[.slice A0 n0 c0,.slice B0 m0 e0] 33)).alloc (.cells #[.slice A n c,.slice B m e] 33)).alloc (.cells #[.slice A' n' c', .slice B' m' e'] 33)) (.cells #[.slice none 0 0,.slice none 0 0] 33);rwa [hx0] at this
 have hzs:((((w.alloc (.cells #[.slice A0 n0 c0,.slice B0 m0 e0] 33)).alloc (.cells #[.slice A n c,.slice B m e] 33)).alloc (.cells #[.slice A' n' c', .slice B' m' e'] 33)).alloc (.cells #[.slice none 0 0,.slice none 0 0] 33)).heap.size=w.heap.size+1+1+1+1:=by simp
 clear hz0 hx0 hzx
 go_enter func63,ntmps63
 go_upto_region 1 with fail
 generalize ((((w.alloc (.cells #[.slice A0 n0 c0,.slice B0 m0 e0] 33)).alloc (.cells #[.slice A n c,.slice B m e] 33)).alloc (.cells #[.slice A' n' c', .slice B' m' e'] 33)).alloc (.cells #[.slice none 0 0,.slice none 0 0] 33))=W at *;have HT0:=Hd (a1s (hI0.below hz) hnc0 (hJ0.below hz) hme0);have HT:=Hd (a1s (hI.below hz) hnc (hJ.below hz) hme);have HT':=Hd (a1s (hI'.below hz) hnc' (hJ'.below hz) hme');have HZ:=Hd hz;have HZS:=Hd hzs;have HA0:=Hd hc;have HA:=Hd ha;have HA':=Hd ha';have HR:=Hd hr;clear hI0 hJ0 hI hJ hI' hJ' hz hzs hc ha ha' hr;have z0:=a0q HA0;have z1:=a0j HA0;have a0:=a0q HA;have a1:=a0j HA;have b0:=a0q HA';have b1:=a0j HA';obtain⟨tgt,htg⟩:∃ z,z=b7q cd d k:=⟨_,rfl⟩;have HQ2:=Hd (fun hr:(a0a cs cd&&(a0a s d&&s==cs&&(a0a t k&&t==cs)))=true=>(c8r hr).trans (show _=((0,s,tgt):Int × List Int × List Int) by rw[htg]));have HAT:=Hd (show ∀(j:Nat) (z x y:Int),cd[j]?=some z→d[j]?=some x→k[j]?=some y→tgt[j]?=some (if z=0 then y else x) from fun j z x y hz hx hy=>by rw[htg];exact c2e hz hx hy);have HTL:=Hd (show d.length=cd.length→k.length=cd.length→tgt.length=cd.length by intro h1 h2;rw[htg];exact a8h _ _ _ h1 h2);clear htg;have C1:=c3g HT0 HT
 go_wp2_with fail
 have hfit:(a0a cs cd&&(a0a s d&&s==cs&&(a0a t k&&t==cs)))=(fitB cs cd s d&&fitB cs cd t k):=by
  rw[c3f,c3f]
  cases a0a cs cd <;> cases a0a s d <;> cases (s==cs) <;> simp
 have HFI:=Hd hfit;clear hfit;have d0:=a0q HR;have d1:=a0j HR
 cases h1:fitB cs cd s d with
 | false =>
  rw[h1] at C1;refine C1.mono ?_;rintro e2 w2 ⟨rfl,hb2⟩;have HB:=Hd hb2;have HQ:=Hd (b3s (HFI.trans (by rw[h1];rfl)));have hr2:=(HB.block (w.heap.size+1+1+1) (by have:=HZS.out;omega)).trans HR;have d0:=a0q hr2;have d1:=a0j hr2;have f0:=frozen_of_row _ _ 0 _ _ hr2;have f1:=frozen_of_row _ _ 1 _ _ hr2;have HR2:=Hd hr2;clear hb2 hr2 h1 C1 z0 z1 a0 a1 b0 b1;go_wp2;rw[HQ.out];refine a2m (w.heap.size+1+1+1) _ _ (.int .i64 13) results63 rfl rfl (a1g HR2 _ _) rfl ?_
  exact⟨⟨_,rfl,_,_,0,0,rfl,OwnS.nil_ _ _ _,OwnS.nil_ _ _ _⟩,((a1m HZ HB).setCell (by show w.heap.size≤w.heap.size+1+1+1;omega) _).setCell (by show w.heap.size≤w.heap.size+1+1+1;omega) _⟩
 | true =>
  rw[h1] at C1;refine C1.mono ?_;rintro e1 w1 ⟨rfl,hb1⟩;have HB1:=Hd hb1;have H1:=Hd h1;have z0:=a1t hb1 z0;have z1:=a1t hb1 z1;have a0:=a1t hb1 a0;have a1:=a1t hb1 a1;have b0:=a1t hb1 b0;have b1:=a1t hb1 b1;have C2:=c3g (HT0.below hb1) (HT'.below hb1);clear hb1 C1 h1
  go_wp2_with fail
  cases h2:fitB cs cd t k with
  | false =>
   rw[h2] at C2;refine C2.mono ?_;rintro e2 w2 ⟨rfl,hb2⟩;have HB:=Hd (a1m HB1 hb2);have HQ:=Hd (b3s (HFI.trans (by rw[h2,H1.out];rfl)));have hr2:=(HB.block (w.heap.size+1+1+1) (by have:=HZS.out;omega)).trans HR;have d0:=a0q hr2;have d1:=a0j hr2;have f0:=frozen_of_row _ _ 0 _ _ hr2;have f1:=frozen_of_row _ _ 1 _ _ hr2;have HR2:=Hd hr2;clear hb2 hr2 h2 C2 z0 z1 a0 a1 b0 b1;go_wp2;rw[HQ.out];refine a2m (w.heap.size+1+1+1) _ _ (.int .i64 13) results63 rfl rfl (a1g HR2 _ _) rfl ?_
   exact⟨⟨_,rfl,_,_,0,0,rfl,OwnS.nil_ _ _ _,OwnS.nil_ _ _ _⟩,((a1m HZ HB).setCell (by show w.heap.size≤w.heap.size+1+1+1;omega) _).setCell (by show w.heap.size≤w.heap.size+1+1+1;omega) _⟩
  | true =>
   rw[h2] at C2;refine C2.mono ?_;rintro e2 w2 ⟨rfl,hb2⟩;have hr:=HFI.trans (by rw[h2,H1.out];rfl:(fitB cs cd s d&&fitB cs cd t k)=true);have z0:=a1t hb2 z0;have z1:=a1t hb2 z1;have a0:=a1t hb2 a0;have a1:=a1t hb2 a1;have HB:=Hd (a1m HB1 hb2);clear h2 C2;obtain⟨hra,hrb,hrc,hrs,hrt⟩:=b9u hr;have hdl:d.length=cd.length:=by have:=a0z hra;have:=a0z hrb;rw[hrs] at *;omega
   have hkl:k.length=cd.length:=by have:=a0z hra;have:=a0z hrc;rw[hrt] at *;omega
   have HDL:=Hd hdl;have HKL:=Hd hkl;have HRB:=Hd hrb;have HQ:=Hd (HQ2 hr);replace HTL:=Hd (HTL hdl hkl);have HT2:=Hd (HT.below HB);have HFT:=Hd (a0u HT2).2.fit;clear hb2 hr hra hrb hrc hrs hrt hdl hkl z0 b0 b1
   go_wp2_with fail
   refine(b4u HT2 (by have:=(a1f HRB).1;omega) (by have:=(a1f HRB).2;omega)).mono ?_;rintro e3 w3 ⟨⟨u,ga,gb,ns,N,rfl,rfl,hvs,hvd⟩,hb3⟩;have hDN:d.length=N:=hvd.len;have hN:tgt.length=N:=by have:=HTL.out;have:=HDL.out;omega
   obtain rfl:N=m0:=by have:=(a0u HT0).2.len;have:=HDL.out;omega
   have hNle:N≤9223372036854775807:=hvd.2.2;have HDN:=Hd hDN;have z1:=a0j ((a1m HB hb3).block w.heap.size (by have:=HZS.out;omega) |>.trans HA0);have z1':=a1n (.cells #[.slice (some ⟨ga,0,none⟩) ns ns,.slice (some ⟨gb,0,none⟩) N N] 33) z1;have hvs:OwnS w3 w2.heap.size 3 (.slice (some ⟨ga,0,none⟩) ns ns) ns s:=hvs;have hvd:OwnS w3 w2.heap.size 2 (.slice (some ⟨gb,0,none⟩) N N) N d:=hvd;have hL:=a7f (a1m HB hb3) (hvs.mono HB.size) (hvd.mono HB.size);have HN:=Hd hN;clear hb3 hvs hvd hN hDN a0 a1 z1
   go_upto_region 4 with fail
   generalize w3.alloc (.cells #[.slice (some ⟨ga,0,none⟩) ns ns,.slice (some ⟨gb,0,none⟩) N N] 33)=w4 at *;generalize w3.heap.size=gt at *;have t1:=a0j hL.2.1;have HL:=Hd hL;clear hL
   go_wp2_with fail
   clear t1 z1'
   go_loopw [27] (fun kv wr=>∃ j:Nat,kv=.int .i64 j∧j≤N∧a5v W wr gt (some ⟨ga,0,none⟩) (some ⟨gb,0,none⟩) ns ns N N s (mix tgt d j)) (fun kv _=>N - (intOf kv).toNat)
   case atStart=>exact⟨0,rfl,by omega,by rw[a2p];exact HL⟩
   case round =>
    obtain⟨j,rfl,hj,hL⟩:=hrel;have HLr:=Hd hL;have t0:=a0q hL.2.1;have t1:=a0j hL.2.1;have hb:=hL.2.2.2.2;have hz:=(hb.block (w.heap.size+1+1+1) (by have:=HZS.out;omega)).trans HR;have HB4:=Hd hb;have hgt:=hL.1;by_cases hlt:j<N
    ·have hO:Own wr W.heap.size 2 gb N N _:=hL.2.2.2.1;have b1:=a0j ((hb.block (w.heap.size+1+1) (by have:=HZS.out;omega)).trans HA');obtain⟨_,i1⟩:=a0u (HT0.below hb);obtain⟨_,i3⟩:=a0u (HT'.below hb);have hj0:=hlt;have hj2:j<m':=by have:=i3.len;have:=HDN.out;have:=HDL.out;have:=HKL.out;omega
     obtain⟨zd,z,rfl,hbl0,hz0,hcz,hfz⟩:=i1.at_ (k:=j) hj0;obtain⟨bd', y,rfl,hbl', hy,hcy,hfy⟩:=i3.at_ (k:=j) hj2;obtain⟨x,hx⟩:∃ x,d[j]?=some x:=gE (by have:=HDN.out;omega);have HXT:=Hd (HAT j z x y hz0 hx hy);have hmx:(mix tgt d j)[j]?=some x:=by rw[c1j (by have:=HN.out;have:=HDN.out;omega) (by have:=HDN.out;omega)];exact hx
     have hcs:=hO.cell hmx;have HMX:=Hd hmx;have hfs:=hO.frozen j;obtain⟨hn1,hn2⟩:=hL.ne;have hbW':=(a0u HT').2.lt bd' rfl (by omega);have k0:=a2h (q:=⟨gb,j,none⟩) (u:=.int .i64 y) t1 hn1;have k1':=a2h (q:=⟨gb,j,none⟩) (u:=.int .i64 y) b1 (by show w.heap.size+1+1≠gb;have:=HZS.out;omega);have k2':=a2h (q:=⟨gb,j,none⟩) (u:=.int .i64 y) hcy (by rw[a0g];show bd'.block≠gb;omega);have HLN:=Hd hL;have HL1:=Hd ((HLr.drew 1).store j hfy);have HML:=Hd (show tgt.length=d.length by have:=HN.out;have:=HDN.out;omega);clear hL hb hz i1 i3 hO hx hfy hy hz0 hfz t0 hmx;by_cases hzz:z=0
     ·have HXT:=Hd (show tgt[j]?=some y by have:=HXT.out;rwa [iP hzz] at this);subst hzz
      go_upto_region 8 with fail
      go_region_held3 (fun w'=>w'.cell? ⟨gt,1,none⟩=some (.slice (some ⟨gb,0,none⟩) N N)∧w'.cell? ⟨w.heap.size+1+1,1,none⟩=some (.slice (some bd') m' e')∧w'.cell? (bd'.add j)=some (.int .i64 y)) (go_keep) (fail)
      clear k0 k1' k2' b1 t1 hcz hcy hcs hfs;go_wp2;go_roundw
      case rel=>exact⟨j+1,by go_num,by omega,by rw[←b3h HML.out HXT.out];exact HL1⟩
      case measure=>simp[intOf];omega
     ·have HXT:=Hd (show tgt[j]?=some x by have:=HXT.out;rwa [iN hzz] at this);have hzf:(z==0)=false:=by simpa using hzz
      have HSM:=Hd (show mix tgt d (j+1)=mix tgt d j by rw[←b3h HML.out HXT.out];exact d7d HMX);clear hzz k0 k1' k2' b1 t1 hcy hcs hfs;go_wp2;go_roundw
      case rel=>exact⟨j+1,by go_num,by omega,by rw[HSM.out];exact HLN⟩
      case measure=>simp[intOf];omega
    ·obtain rfl:j=N:=by omega
     rw[show mix tgt d j=tgt by have:=b1t (t:=tgt) (o:=d) (by have:=HN.out;have:=HDN.out;omega);rwa [HDN.out] at this] at HLr;have d0:=a0q hz;have d1:=a0j hz;have f0:=frozen_of_row _ _ 0 _ _ hz;have f1:=frozen_of_row _ _ 1 _ _ hz;have HZr:=Hd hz;clear hL hb hz;go_wp2;rw[HQ.out];refine a2m (w.heap.size+1+1+1) _ _ (.int .i64 0) results63 rfl rfl (a1g HZr _ _) rfl ?_;have hgr:=a1b (a0h wr (w.heap.size+1+1+1) 0 (.slice (some ⟨ga,0,none⟩) ns ns)) (a0h _ (w.heap.size+1+1+1) 1 (.slice (some ⟨gb,0,none⟩) j j));exact⟨⟨_,rfl,_,_,ns,j,rfl,(HLr.out.2.2.1.grown hgr (by have:=HZS.out;omega)).mono (by have:=HZS.out;omega),(HLr.out.2.2.2.1.grown hgr (by have:=HZS.out;omega)).mono (by have:=HZS.out;omega)⟩,((a1m HZ HB4).setCell (by show w.heap.size≤w.heap.size+1+1+1;omega) _).setCell (by show w.heap.size≤w.heap.size+1+1+1;omega) _⟩
theorem b0a {t e:TypeId}(ht:prog.underlying t=some (.slice e))(hinfo:(prog.info? e).map (fun i=>(i.zero,i.size,i.bytes))=some (some (.int .i64 0),1,8))
  (hn:n≤17592186044000)(w:World):
  (Instr.makeSlice t (.int .i64 0) (.int .i64 n)).run prog w=.ok (.slice (some ⟨w.heap.size,0,none⟩) 0 n) (w.alloc (.cells (noughts n) e)):=by
 obtain⟨i,hi,hz0,hz1,hz2⟩:=info_parts hinfo;have:=run_make (P:=prog) w t e i (.int .i64 0) ht hi hz0 .i64 .i64 0 n (by omega) (by omega) (by rw[hz2];omega) (by omega);rw[this,hz1];simp only[Int.toNat_natCast,Nat.mul_one];rw[←a8v];rfl
theorem Sep.room {w0:World}{l:List a0c}(h:Sep w0 w l)(e:TypeId)(n:Nat)(hn:n≤17592186044000):Sep w0 (w.alloc (.cells (Go.Proofs.YtjblengklgkgfaaGreat.noughts n) e)) (.own e (.slice (some ⟨w.heap.size,0,none⟩) 0 n) 0 []::l) :=
 h.addOwn ((Below.refl _ _).alloc (Nat.le_refl _) _) ⟨⟨rfl,.inr ⟨w.heap.size,n,Go.Proofs.YtjblengklgkgfaaGreat.noughts n,rfl,Nat.le_refl _,heap_alloc_new _ _,Nat.zero_le _,by unfold maxLen;omega,by simp[Go.Proofs.YtjblengklgkgfaaGreat.noughts],by simp⟩⟩,by simp,by omega⟩
theorem c2i (x:Int)(h:Ints w A n s)(hx:Fits x)(hr:Sh.right s=true):
  Calls prog 59 #[.slice A n c,.int .i64 x] w fun e w'=>(∃ v,e=.returned (.tuple #[v,.int .i64 0])∧OTen w' w.heap.size v s (List.replicate (Sh.size s).toNat x))∧Below w.heap.size w w':=by
 have:=b4l (c:=c) x h hx;rwa [b0s hr,b5s hr,b5q hr] at this
theorem e1i (x:Int)(h:Ints w A n s)(hx:Fits x)(hr:Sh.right s=false):
  Calls prog 59 #[.slice A n c,.int .i64 x] w fun e w'=>(∃ v,e=.returned (.tuple #[v,.int .i64 13])∧OTen w' w.heap.size v [] [])∧Below w.heap.size w w':=by
 have:=b4l (c:=c) x h hx;rwa [a9m hr,b2o hr,b3r hr] at this
end Go.Proofs.YtjblengklgkgfaaGreat
