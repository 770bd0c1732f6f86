import Derived.Test.YtajhdeddgdhccaaGreatDoorPbi
import Derived.Test.YtajhdeddgdhccaaGreatDoorPbl
set_option maxRecDepth 100000
set_option maxHeartbeats 12800000
namespace Go.Proofs.YtajhdeddgdhccaaGreatDoor
open Go.RowKit Go.Proofs.Tryz
variable {L:List (List Int)} {c l n:Nat} {s:List Int} {us:List Value} {v:Value} {w w0:World}
def a9d (s:List Int):Bool:=decide (s.length≤3)&&s.all a9c&&decide (Sh.pr s≤8)
theorem d1h (G:a2g):a5q G=(a9d G.sizes&&a6e (a0b G.names) G.sizes.length):=rfl
theorem c0m {j:Nat}{x:Int}(h:s[j]?=some x)(hx:x<1∨8<x):a9d s=false:=by
 obtain⟨hj,rfl⟩:=List.getElem?_eq_some_iff.1 h
 cases e:a9d s with
 | false=>rfl
 | true =>
  simp only[a9d,Bool.and_eq_true,decide_eq_true_eq,List.all_eq_true,a9c] at e;obtain⟨⟨h1,h2⟩,_⟩:=e;have:=h2 _ (List.getElem_mem hj);omega
theorem c9a (hl:s.length≤3)(h:∀(i:Nat) (x:Int),s[i]?=some x→1≤x∧x≤8):a9d s=decide (Sh.pr s≤8):=by
 have:s.all a9c=true:=by
  rw[List.all_eq_true];intro x hx;obtain⟨i,hi,e⟩:=List.getElem_of_mem hx;have:=h i x (by rw[List.getElem?_eq_getElem hi,e]);simp[a9c,this]
 simp only[a9d,this,decide_eq_true hl,Bool.true_and]
theorem c4o {A:Option Addr}(h:Ints w A n s):
  Calls prog 48 #[.slice A n c] w fun e w'=>e=.returned (.bool (a9d s))∧w=w':=by
 have HSL:=Hd h.len;have hle:=h.le;by_cases hn:3<n
 ·have d0:decide (3<n)=true:=by simpa using hn
  have HX:=Hd (show a9d s=false by rw[a9d,decide_eq_false (by have:=HSL.out;omega)];rfl);clear h
  go_enter func48,ntmps48
  go_wp2;go_ret;exact⟨a0c HX.symm,rfl⟩
 have d0:decide (3<n)=false:=by simpa using hn
 have hn3:n≤3:=by omega
 go_enter func48,ntmps48
 go_wp2
 go_loop [11,3] (fun iv nv=>∃ j:Nat,iv=.int .i64 j∧nv=.int .i64 (Sh.pr (s.take j))∧j≤n∧(∀(i:Nat) (x:Int),s[i]?=some x→i<j→1≤x∧x≤8)) (fun iv _=>n-(intOf iv).toNat)
 case atStart=>exact⟨0,rfl,rfl,by omega,by omega⟩
 case round =>
  obtain⟨j,rfl,rfl,hj,hAll⟩:=hrel;have HA:=Hd hAll;clear hAll;by_cases hlt:j<n
  ·obtain⟨sa,x,hsA,_,hx,hcx,hfx⟩:=h.at_ (k:=j) hlt;subst hsA;by_cases h1:x<1
   ·have d1:decide (x<1)=true:=by simpa using h1
    have HX:=Hd (c0m hx (by omega));clear hx hfx;go_wp2;go_ret;exact⟨a0c HX.symm,rfl⟩
   have d1:decide (x<1)=false:=by simpa using h1
   by_cases h2:8<x
   ·have d2:decide (8<x)=true:=by simpa using h2
    have HX:=Hd (c0m hx (by omega));clear hx hfx;go_wp2;go_ret;exact⟨a0c HX.symm,rfl⟩
   have d2:decide (8<x)=false:=by simpa using h2
   have hpt:=Sh.pr_take s hx;have HX:=Hd hx
   have hps:∀ k,k≤j+1→0≤Sh.pr (s.take k)∧Sh.pr (s.take k)≤1048576:=fun k hk=>by
    have hm:∀ y∈s.take k,0≤y∧y≤32:=fun y hy=>by
     obtain⟨i,hi,e⟩:=List.getElem_of_mem hy;rw[List.length_take] at hi;have hi2:s[i]?=some y:=by rw[←e,List.getElem_take,List.getElem?_eq_getElem]
     rcases Nat.lt_or_ge i j with hij|hij
     ·have:=HA.out i y hi2 hij;omega
     ·obtain rfl:i=j:=by omega
      have h9:=HX.out;rw[hi2] at h9;injection h9 with h9;omega
    have hl4:(s.take k).length≤4:=by rw[List.length_take];omega
    exact Sh.pr_small _ hm hl4
   obtain⟨hq1,hq2⟩:=hps (j+1) (by omega);obtain⟨hq3,hq4⟩:=hps j (by omega);rw[hpt] at hq1 hq2;obtain⟨P,hP⟩:∃ P,Sh.pr (s.take j)=P:=⟨_,rfl⟩;rw[hP] at hq1 hq2 hq3 hq4 hpt ⊢;have hwp:IntKind.i64.wrap (P*x)=P*x:=IntWalk.i64_in _ ⟨by omega,by omega⟩;have HPT:=Hd hpt;clear hpt hps hP hx hfx;go_wp2;go_round
   case rel=>exact⟨j+1,by go_num,by rw[HPT.out],by omega,fun i y hi hi2=>by
    rcases Nat.lt_or_ge i j with hij|hij
    ·exact HA i y hi hij
    ·obtain rfl:i=j:=by omega
     have h9:=HX.out
     rw[hi] at h9;injection h9 with h9;omega⟩
   case measure=>simp[intOf];omega
  ·obtain rfl:j=n:=by omega
   have HE:=Hd (c9a (s:=s) (by have:=HSL.out;omega) (fun i x hi=>HA.out i x hi (by have:=HSL.out;have:=(lL hi);omega)));rw[List.take_of_length_le (by have:=HSL.out;omega)];obtain⟨P,hP⟩:∃ P,Sh.pr s=P:=⟨_,rfl⟩;rw[hP] at HE ⊢;clear hP;go_wp2;go_ret;exact⟨a0c (by rw[HE.out]),rfl⟩
theorem c0e {t e:TypeId}{i:TypeInfo}{z:Value}{k:Nat}(ht:prog.underlying t=some (.slice e))(hi:prog.info? e=some i)(hz:i.zero=some z)(hk:i.size=k)(hb:i.bytes≤200)(hlc:l≤c)(hc:c≤1000)(w:World):
  (Instr.makeSlice t (.int .i64 l) (.int .i64 c)).run prog w=.ok (.slice (some ⟨w.heap.size,0,none⟩) l c) (w.alloc (.cells (madeCells z.cells (c*k)) e)):=by
 have hbc:i.bytes*c≤200*1000:=Nat.mul_le_mul hb hc;have:=run_make (P:=prog) w t e i z ht hi hz .i64 .i64 l c (by omega) (by omega) (by omega) (by omega);rw[this,hk];simp only[Int.toNat_natCast]
theorem Sep.madeRow {l:List a0i}(h:Sep w0 w l)(e:TypeId)(k n c:Nat)(cs:Array Value)(hs:cs.size=c*k)(hnc:n≤c)(hc:c≤1000):
  Sep w0 (w.alloc (.cells cs e)) (.row e k (.slice (some ⟨w.heap.size,0,none⟩) n c) n (cs.toList.take (n*k))::l):=by
 have hnk:n*k≤c*k:=Nat.mul_le_mul_right k hnc
 refine h.pushNew (h.below ((Below.refl _ _).alloc (Nat.le_refl _) _)) ?_ fun k hk=>by
  have hk:some w.heap.size=some k:=hk;injection hk with hk;omega
 exact⟨by rw[List.length_take,Array.length_toList,hs];omega,.inr ⟨w.heap.size,c,cs,rfl,h.size,heap_alloc_new _ _,hnc,by unfold maxLen;omega,hs,rfl⟩⟩
def lRow (n:Nat):Array Value:=madeCells #[.slice none 0 0] n
theorem b3s (n:Nat):(lRow n).size=n:=size_madeCells _ _
theorem a8z (hlc:l≤c)(hc:c≤1000)(w:World):
  (Instr.makeSlice 44 (.int .i64 l) (.int .i64 c)).run prog w=.ok (.slice (some ⟨w.heap.size,0,none⟩) l c) (w.alloc (.cells (lRow c) 23)):=by
 obtain⟨i,hi,hz,hs,hb⟩:=b0a;have:=c0e underlying44 hi hz hs (by omega) hlc hc w;rw[this,Nat.mul_one];rfl
theorem b4k (hc:c≤1000)(w:World):
  (Instr.makeSlice 44 (.int .i64 0) (.int .i64 c)).run prog w=.ok (.slice (some ⟨w.heap.size,0,none⟩) 0 c) (w.alloc (.cells (lRow c) 23)):=a8z (l:=0) (Nat.zero_le _) hc w
def LilK (w:World) (us:List Value) (L:List (List Int)):Prop:=L.length≤us.length∧∀(j:Nat) (s:List Int),L[j]?=some s→∃ B m c,us[j]?=some (.slice B m c)∧m≤c∧Ints w B m s
theorem d0w (w:World)(us:List Value):LilK w us []:=⟨Nat.zero_le _,fun j s h=>by simp at h⟩
theorem LilK.snoc (h:LilK w us L){B:Option Addr}{m:Nat}(hI:Ints w B m s)(hm:m≤c){q:Nat}(hq:L.length=q)(hu:q<us.length):LilK w (us.set q (.slice B m c)) (L++[s]):=by
 refine⟨by rw[List.length_set,List.length_append,List.length_singleton];omega,fun j x hx=>?_⟩;rcases Nat.lt_or_ge j L.length with hj|hj
 ·rw[List.getElem?_append_left hj] at hx;rw[List.getElem?_set_ne (by omega)];exact h.2 j x hx
 ·rw[List.getElem?_append_right hj] at hx
  have hj' : j=q:=by
   rcases Nat.eq_or_lt_of_le hj with e|e
   ·omega
   ·rw[List.getElem?_eq_none (by simp;omega)] at hx;cases hx
  subst hj';rw[hq,Nat.sub_self] at hx;injection hx with hx;subst hx
  exact⟨B,m,c,by rw[List.getElem?_set_self hu],hm,hI⟩
theorem d2l {l:List a0i}{g:Nat}(h:Sep w0 w l)(i:Nat)(hi:l[i]?=some (.row 23 1 (.slice (some ⟨g,0,none⟩) n c) n us))(hK:LilK w0 us L)(hn:L.length=n)(hn2:n≤900):Lils w (some ⟨g,0,none⟩) n L:=by
 have hr:w.ownsRow w0.heap.size 23 1 (.slice (some ⟨g,0,none⟩) n c) n us:=h.at_ i hi;refine⟨hn,hn2,fun j x hx=>?_⟩;obtain⟨B,m,cc,hu,hm,hI⟩:=hK.2 j x hx;have hj:j<L.length:=(lL hx);exact⟨⟨g,0,none⟩,B,m,cc,rfl,(World.ownsRow.lt hr g rfl).2,by rw[a2h,hr.cellAt j (by omega),hu],hm,h.oldI hI⟩
noncomputable def b0d (nm:List Int) (acc:List (List Int)) (nd:a0p):Int × List Int :=
 if b5d acc nd.ins=true then
  (if (a1a nd (a2d acc nd.ins)).1=0 then
   (if a9l nm nd (a1a nd (a2d acc nd.ins)).2.length=0 then(0,(a1a nd (a2d acc nd.ins)).2)
   else(a9l nm nd (a1a nd (a2d acc nd.ins)).2.length,[]))
  else((a1a nd (a2d acc nd.ins)).1,[]))
 else(23,[])
theorem b8c (nm:List Int)(acc:List (List Int))(nd:a0p)(l:List a0p):a0k nm acc (nd::l)=if (b0d nm acc nd).1=0 then a0k nm (acc++[(b0d nm acc nd).2]) l else((b0d nm acc nd).1,[]):=by
 rw[a0k,b0d]
 split
 ·split
  ·split
   ·rfl
   ·rfl
  ·rfl
 ·rfl
theorem c7d {nd:a0p}{nm:ByteArray}{Al:Option Addr}{nl cl:Nat}{acc:List (List Int)}(hnm:nm.size≤17592186044000)(h:a4x w v nd)(hLi:Lils w Al nl acc)(hq:nd.ins.length≤800):
  Calls prog 50 #[.string nm,v,.slice Al nl cl] w (a2y w (b0d (a0b nm) acc nd)):=by
 have HN:=h;obtain⟨S,ns,cs,D,nD,cD,E,ne,ce,rfl,hNL⟩:=h;replace HN:=Hd HN;have h1:=(Sep.nil w).allocBox w.heap.size 37 [.int .i64 nd.op,.slice S ns cs,.slice D nD cD,.slice E ne ce,.int .i64 nd.n,.int .i64 nd.how,.string nd.note] rfl;have HNL:=Hd hNL;have HSL:=Hd hNL.inA.len;have hns:ns≤800:=by have:=HSL.out;omega
 have hln:=hLi.2.1;have HLI:=Hd hLi;have HLL:=Hd hLi.1;obtain⟨nmr,hnmr⟩:∃ r,a0b nm=r:=⟨_,rfl⟩;have HNM:=Hd hnmr;have HNT:=Hd hNL.note;have HNZ:=Hd hnm;rw[hnmr];clear hNL hLi hq hnmr hnm
 go_enter func50,ntmps50
 go_upto_region 1 with fail
 generalize w.alloc (.cells #[.int .i64 nd.op,.slice S ns cs,.slice D nD cD,.slice E ne ce,.int .i64 nd.n,.int .i64 nd.how,.string nd.note] 37)=W at *;generalize hgn:w.heap.size=gn at *;have HGN:=Hd hgn;have H:=Hd h1;clear h1 hgn;obtain⟨n0,n1,n2,n3,n4,n5,n6⟩:=H.cells7 0 rfl;have hmk:=a8z (l:=ns) (c:=ns) (Nat.le_refl _) (by omega);have h2:=H.madeRow 23 1 ns ns (lRow ns) (by rw[b3s,Nat.mul_one]) (Nat.le_refl _) (by omega)
 go_upto_region 2 with fail
 generalize W.alloc (.cells (lRow ns) 23)=W2 at *;generalize hgr:W.heap.size=gr at *;have HGR:=Hd hgr;replace H:=Hd h2;clear h2 hmk hgr n0 n1 n2 n3 n4 n5 n6;obtain⟨u0,hu0⟩:∃ u,(lRow ns).toList.take (ns*1)=u:=⟨_,rfl⟩;have HU0:=Hd (show u0.length=ns by rw[←hu0,List.length_take,Array.length_toList,b3s];omega);rw[hu0] at H;clear hu0;have n1:=H.c 1 1
 go_wp2_with fail
 clear n1
 go_loopw [23] (fun iv wr=>∃(q:Nat) (us:List Value),iv=.int .i64 q∧q≤ns∧us.length=ns∧(∀(i:Nat) (x:Int),nd.ins[i]?=some x→i<q→0≤x∧x<acc.length)∧LilK w us (a2d acc (nd.ins.take q))∧Sep w wr [.row 23 1 (.slice (some ⟨gr,0,none⟩) ns ns) ns us,.box gn 37 [.int .i64 nd.op,.slice S ns cs,.slice D nD cD,.slice E ne ce,.int .i64 nd.n,.int .i64 nd.how,.string nd.note]]) (fun iv _=>ns-(intOf iv).toNat)
 case atStart=>exact⟨0,u0,rfl,by omega,HU0,by omega,d0w _ _,H⟩
 case round =>
  clear H;obtain⟨q,us,rfl,hq,hul,hAll,hK,hS⟩:=hrel;have H:=Hd hS;have HK:=Hd hK;have HA:=Hd hAll;have HUL:=Hd hul;clear hS hK hAll hul;by_cases hlq:q<ns
  ·obtain⟨sa,x,hsA,_,hx,hcx,_⟩:=(H.oldI HNL.inA).at_ (k:=q) hlq;subst hsA;have HX:=Hd hx;have HBAD:=Hd (show ¬(0≤x∧x<acc.length)→b0d nmr acc nd=(23,[]) from fun h=>by rw[b0d,iN];rw[b3k HX.out h];simp);clear hx;by_cases h1:x<0
   ·have d1:decide (x<0)=true:=by simpa using h1
    have HQ:=Hd (HBAD (by omega));clear HBAD;go_wp2;go_ret2;exact a0g HQ H.base
   have d1:decide (x<0)=false:=by simpa using h1
   obtain⟨xx,rfl⟩:=eZ (by omega:0≤x);by_cases h2:nl≤xx
   ·have d2:decide (nl≤xx)=true:=by simpa using h2
    have HQ:=Hd (HBAD (by have:=HLL.out;omega));clear HBAD;go_wp2;go_ret2;exact a0g HQ H.base
   have d2:decide (nl≤xx)=false:=by simpa using h2
   clear HBAD;obtain⟨s,hs⟩:∃ s,acc[xx]?=some s:=gE (by have:=HLL.out;omega);obtain⟨la,B5,m5,c5,hAl,hlb,hcl,hmc,hI5⟩:=HLI.out.2.2 xx s hs;subst hAl;have hcy:=H.oC hcl (a4q hlb);obtain⟨u9,hu9⟩:∃ u,us[q]?=some u:=gE (by have:=HUL.out;omega);have hcq:=H.cellRow 0 rfl hu9;have hfq:=H.frozenRow 0 rfl q;have HST:=Hd (H.setRow 0 rfl q (.slice B5 m5 c5))
   have HK2:=Hd (show LilK w (us.set q (.slice B5 m5 c5)) (a2d acc (nd.ins.take (q+1))) by
    have he:a2d acc (nd.ins.take (q+1))=a2d acc (nd.ins.take q)++[s]:=by
     rw[List.take_add_one,HX.out,a2d,a2d,List.map_append];simp[List.getD_eq_getElem?_getD,hs]
    rw[he]
    exact HK.snoc hI5 hmc (by rw[a2d,List.length_map,List.length_take];have:=HSL.out;omega) (by have:=HUL.out;omega))
   have hxn:xx<nl:=by omega
   clear hs hcl hI5 hu9;go_wp2;go_roundw
   case rel=>exact⟨q+1,_,by go_num,by omega,by rw[List.length_set];exact HUL,fun i y hi hi2=>by
    rcases Nat.lt_or_ge i q with hij|hij
    ·exact HA i y hi hij
    ·obtain rfl:i=q:=by omega
     have h9:=HX.out
     rw[hi] at h9;injection h9 with h9;have:=HLL.out;omega,HK2,HST⟩
   case measure=>simp[intOf];omega
  ·obtain rfl:q=ns:=by omega
   have HIN:=Hd (show b5d acc nd.ins=true from b1e fun i x hi=>HA.out i x hi (by have:=HSL.out;have:=(lL hi);omega));have hK9:=HK.out;rw[List.take_of_length_le (by have:=HSL.out;omega)] at hK9;have hLi:=d2l H 0 rfl hK9 (by rw[a2d,List.length_map];exact HSL) (by omega);have CS:=c4n (cl:=q) (a4x.wide (show a4x wr (.agg #[.int .i64 nd.op,.slice S q cs,.slice D nD cD,.slice E ne ce,.int .i64 nd.n,.int .i64 nd.how,.string nd.note]) nd from HN.below H.base)) hLi;obtain⟨⟨e5,s5⟩,hR⟩:∃ r,a1a nd (a2d acc nd.ins)=r:=⟨_,rfl⟩;rw[hR] at CS;have HR:=Hd hR;clear hLi hR hK9;obtain⟨n0,n1,n2,n3,n4,n5,n6⟩:=H.cells7 1 rfl
   go_wp2_with fail
   refine CS.mono ?_;rintro e4 w4 ⟨⟨v5,m5,rfl,hO⟩,hb4⟩;clear CS n0 n1 n2 n3 n4 n5 n6;replace hO:OwnS w4 _ 3 v5 m5 s5:=hO;obtain⟨A5,c5,rfl,hmc5,_,_⟩:=hO.form;have HML:=Hd hO.len;replace H:=Hd (H.addOwn hb4 hO);clear hO hb4;by_cases he:e5=0
   ·subst he;have n6:=H.c 2 6;have CN:=b9q (w:=w4) (m5:Int) HNZ HNT;rw[HNM.out] at CN;obtain⟨e6,hE⟩:∃ e6,a9l nmr nd m5=e6:=⟨_,rfl⟩;have HE6:=Hd hE;unfold a9l at hE;rw[hE] at CN;clear hE
    go_wp2_with fail
    refine CN.mono ?_;rintro e8 w8 ⟨⟨v8,m8,rfl,_⟩,hb8⟩;replace H:=Hd (H.below hb8);clear CN hb8 n6;by_cases he6:e6=0
    ·subst he6;have HQ:=Hd (show b0d nmr acc nd=(0,s5) by rw[b0d,iP HIN.out,HR.out,iP rfl,HML.out,HE6.out,iP rfl]);go_wp2;go_ret2;exact a2p HQ (H.ownS 0 rfl) H.base
    ·have dE:(e6 != 0)=true:=by simpa using he6
     have HQ:=Hd (show b0d nmr acc nd=(e6,[]) by rw[b0d,iP HIN.out,HR.out,iP rfl,HML.out,HE6.out,iN he6]);clear he6;go_wp2;go_ret2;exact a0g HQ H.base
   ·have dE:(e5 != 0)=true:=by simpa using he
    have HQ:=Hd (show b0d nmr acc nd=(e5,[]) by rw[b0d,iP HIN.out,HR.out,iN he]);clear he;go_wp2;go_ret2;exact a0g HQ H.base
theorem c1h {G:a2g}(h:a3r w v G)(hs:c5y 800 G):
  Calls prog 24 #[v] w fun e w'=>(∃ A m c,e=.returned (.tuple #[.slice A m c,.int .i64 (a0z G).1])∧m≤c∧Lils w' A m (a0z G).2)∧Below w.heap.size w w':=by
 have HG:=h;obtain⟨A,na,ca,B,nb,cb,C,nc,cc,rfl,hL⟩:=h;replace HG:=Hd HG;obtain⟨hia,hib,hic,hA,hB,hC,hnm⟩:=hL;have h1:=(((Sep.nil w).old hC).old hA).allocBox w.heap.size 26 [.slice A na ca,.string G.names,.slice B nb cb,.slice C nc cc] rfl;have hal:=hA.le;have hcl:=hC.le;have HAL:=Hd hA.len;have HCL:=Hd hC.len;have HBL:=Hd hB.1;have hbl:=hB.2.1;have HB:=Hd hB;clear hA hC hB
 go_enter func24,ntmps24
 go_upto_region 1 with fail
 generalize w.alloc (.cells #[.slice A na ca,.string G.names,.slice B nb cb,.slice C nc cc] 26)=W at *;have H:=Hd h1;clear h1;have hsm:=hs;have HSM:=Hd hsm;clear hsm hs;have HNZ:=Hd hnm;obtain⟨g0,g1,g2,g3⟩:=H.cells4 0 rfl;have CS:=c4o (c:=ca) (H.oldInts 1 rfl);have CN:=c4w (w:=W) (na:Int) hnm;have HME:=Hd (d1h G)
 cases hz:a9d G.sizes with
 | false =>
  rw[hz] at CS;have HX:=Hd (a8e (G:=G) (by rw[HME.out,hz];rfl));clear hz CN
  go_wp2_with fail
  refine CS.mono ?_;rintro e2 w2 ⟨rfl,rfl⟩;clear CS g0 g1 g2 g3;go_wp2;go_ret2;rw[HX.out]
  exact⟨⟨none,0,0,rfl,Nat.le_refl _,a2n _⟩,H.base⟩
 | true =>
  rw[hz] at CS
  go_wp2_with fail
  refine CS.mono ?_;rintro e2 w2 ⟨rfl,rfl⟩;clear CS
  cases hm:a6e (a0b G.names) (na:Int) with
  | false =>
   rw[hm] at CN;have HX:=Hd (a8e (G:=G) (by rw[HME.out,HAL.out,hm,Bool.and_false]));clear hm hz
   go_wp2_with fail
   refine CN.mono ?_;rintro e2 w2 ⟨rfl,hb⟩;replace H:=Hd (H.below hb);clear CN hb g0 g1 g2 g3;go_wp2;go_ret2;rw[HX.out]
   exact⟨⟨none,0,0,rfl,Nat.le_refl _,a2n _⟩,H.base⟩
  | true =>
   rw[hm] at CN;have HM:=Hd (show a5q G=true by rw[HME.out,hz,HAL.out,hm];rfl);clear hm hz
   go_wp2_with fail
   refine CN.mono ?_;rintro e2 w2 ⟨rfl,hb⟩;replace H:=Hd (H.below hb);clear CN hb g0 g1 g2 g3;obtain⟨g0,g1,g2,g3⟩:=H.cells4 0 rfl;by_cases l1:48<nb
   ·have e1:decide (48<nb)=true:=by simpa using l1
    have HX:=Hd (a6g HM (by have:=HBL.out;have:=HCL.out;omega));go_wp2;go_ret2;rw[HX.out];exact⟨⟨none,0,0,rfl,Nat.le_refl _,a2n _⟩,H.base⟩
   have e1:decide (48<nb)=false:=by simpa using l1
   by_cases l2:48<nc
   ·have e2:decide (48<nc)=true:=by simpa using l2
    have HX:=Hd (a6g HM (by have:=HBL.out;have:=HCL.out;omega));go_wp2;go_ret2;rw[HX.out];exact⟨⟨none,0,0,rfl,Nat.le_refl _,a2n _⟩,H.base⟩
   have e2:decide (48<nc)=false:=by simpa using l2
   have hl48:=Hd (show G.nodes.length≤48∧G.outs.length≤48 by have:=HBL.out;have:=HCL.out;omega);have hnb48:nb≤48:=by omega
   have hnc48:nc≤48:=by omega
   obtain⟨nm,hnmr⟩:∃ nm,a0b G.names=nm:=⟨_,rfl⟩;have HNM:=Hd hnmr;clear hnmr
   go_upto_region 5 with fail
   clear g0 g1 g2 g3;obtain⟨g0,g1,g2,g3⟩:=H.cells4 0 rfl;have hmk:=b4k (c:=nb) (by omega);have h2:=H.madeRow 23 1 0 nb (lRow nb) (by rw[b3s,Nat.mul_one]) (Nat.zero_le _) (by omega);rw[Nat.zero_mul,List.take_zero] at h2
   go_upto_region 6 with fail
   generalize w2.alloc (.cells (lRow nb) 23)=w4 at *;generalize hgr:w2.heap.size=gr at *;replace H:=Hd h2;clear h2 hmk hgr e1 e2 l1 l2 g0 g1 g2 g3;obtain⟨g0,g1,g2,g3⟩:=H.cells4 1 rfl
   go_wp2_with fail
   clear g0 g1 g2 g3
   go_loopw [41,4] (fun iv ov wr=>∃(j:Nat) (us:List Value) (pool:List a0i) (lx:Value) (acc:List (List Int)),lx=ov∧iv=.int .i64 j∧j≤nb∧acc.length=j∧a6w us acc pool∧a0k nm acc (G.nodes.drop j)=a0k nm [] G.nodes∧Sep w wr (.row 23 1 lx j us::.box w.heap.size 26 [.slice A na ca,.string G.names,.slice B nb cb,.slice C nc cc]::.ints A na G.sizes::.ints C nc G.outs::pool)) (fun iv _ _=>nb-(intOf iv).toNat)
   case atStart=>exact⟨0,[],[],_,[],rfl,rfl,by omega,rfl,a8a,rfl,H⟩
   case round =>
    clear H;obtain⟨j,us,pool,lx,acc,rfl,rfl,hj,hacc,hP,hgo,hS⟩:=hrel;have H:=Hd hS;have HP:=Hd hP;have HGO:=Hd hgo;have HACC:=Hd hacc;clear hS hP hgo hacc;obtain⟨Al,cl,hv,hcl,hLi⟩:=a6q 0 H rfl HP HACC (by omega) 4 (fun i=>rfl);subst hv;have HLI:=Hd hLi;clear hLi;obtain⟨g0,g1,g2,g3⟩:=H.cells4 1 rfl;by_cases hlt:j<nb
    ·obtain⟨nd,hnd⟩:∃ nd,G.nodes[j]?=some nd:=gE (by have:=HBL.out;omega);obtain⟨la,S,ns,cs,D,nD,cD,E,ne,ce,hla,hlb,k0,k1,k2,k3,k4,k5,k6,hNL⟩:=HB.out.2.2 j nd hnd;subst hla;obtain⟨c0,c1,c2,c3,c4,c5,c6⟩:=old7 H hlb k0 k1 k2 k3 k4 k5 k6;have HGD:=Hd (show a0k nm acc (nd::G.nodes.drop (j+1))=a0k nm [] G.nodes by rw[←c6p hnd];exact HGO);have hns:=HSM.out j nd hnd;have HNL:=Hd hNL;clear k0 k1 k2 k3 k4 k5 k6 hNL hnd;have h3:=H.allocBox wr.heap.size 37 [.int .i64 nd.op,.slice S ns cs,.slice D nD cD,.slice E ne ce,.int .i64 nd.n,.int .i64 nd.how,.string nd.note] rfl;have hbw:=(Below.refl wr.heap.size wr).alloc (Nat.le_refl _) (.cells #[.int .i64 nd.op,.slice S ns cs,.slice D nD cD,.slice E ne ce,.int .i64 nd.n,.int .i64 nd.how,.string nd.note] 37);have hLi3:=HLI.below hbw
     go_upto_region 9 with fail
     generalize wr.alloc (.cells #[.int .i64 nd.op,.slice S ns cs,.slice D nD cD,.slice E ne ce,.int .i64 nd.n,.int .i64 nd.how,.string nd.note] 37)=w3 at *;generalize wr.heap.size=gn at *;replace H:=Hd h3;clear h3 c0 c1 c2 c3 c4 c5 c6 g0 g1 g2 g3 hbw;obtain⟨g0,g1,g2,g3⟩:=H.cells4 2 rfl;obtain⟨n0,n1,n2,n3,n4,n5,n6⟩:=H.cells7 0 rfl;have CX:=c7d (cl:=cl) HNZ (show a4x w3 (.agg #[.int .i64 nd.op,.slice S ns cs,.slice D nD cD,.slice E ne ce,.int .i64 nd.n,.int .i64 nd.how,.string nd.note]) nd from⟨S,ns,cs,D,nD,cD,E,ne,ce,rfl,HNL.below H.base⟩) hLi3 hns;rw[HNM.out] at CX;obtain⟨⟨e5,s5⟩,hR⟩:∃ r,b0d nm acc nd=r:=⟨_,rfl⟩;rw[hR] at CX;have HGX:=Hd (show a0k nm [] G.nodes=if e5=0 then a0k nm (acc++[s5]) (G.nodes.drop (j+1)) else(e5,[]) by rw[←HGD.out,b8c,hR]);clear hLi3 hR
     go_wp2_with fail
     refine CX.mono ?_;rintro e4 w5 ⟨⟨v5,m5,rfl,hO⟩,hb4⟩;clear CX n0 n1 n2 n3 n4 n5 n6 g0 g1 g2 g3;replace hO:OwnS w5 _ 3 v5 m5 s5:=hO;obtain⟨A5,c5,rfl,hmc5,_,_⟩:=hO.form;replace H:=Hd (H.addOwn hb4 hO);clear hO hb4;by_cases he:e5=0
     ·subst he;have HG2:=Hd (show a0k nm (acc++[s5]) (G.nodes.drop (j+1))=a0k nm [] G.nodes by rw[HGX.out,iP rfl])
      go_wp2_with (at_builtin;refine a1y rfl (.tmp 56) (.tmp 58) 44 rfl underlying44 H.out 2 rfl rfl _ rfl ?c1 ?_)
      case c1=>omega
      intro v9 w9 h9;have h10:=Sep.tail_ (Sep.perm h9 (l':=[_,.row 23 1 v9 (j+1) (us++[.slice A5 m5 c5]),.box w.heap.size 26 [.slice A na ca,.string G.names,.slice (some la) nb cb,.slice C nc cc],.ints A na G.sizes,.ints C nc G.outs]++([a0i.own 3 (.slice A5 m5 c5) m5 s5]++pool)) (by rw[←List.append_assoc];exact(List.perm_append_comm (l₁:=[a0i.own 3 (.slice A5 m5 c5) m5 s5]) (l₂:=[_,_,_,_,_])).append_right pool));have H10:=Hd h10;clear h9 h10;go_wp2;go_roundw
      case rel=>exact⟨j+1,us++[Value.slice A5 m5 c5],a0i.own 3 (.slice A5 m5 c5) m5 s5::pool,_,acc++[s5],rfl,by go_num,by omega,by rw[List.length_append,List.length_singleton,HACC.out],HP.more,HG2,H10⟩
      case measure=>simp[intOf];omega
     ·have dE:(e5 != 0)=true:=by simpa using he
      have HX:=Hd (a6s HM hl48 (by rw[HNM.out,HGX.out,iN he]) he);clear he;go_wp2;go_ret2;rw[HX.out];exact⟨⟨none,0,0,rfl,Nat.le_refl _,a2n _⟩,H.base⟩
    ·obtain rfl:j=nb:=by omega
     have HEND:=Hd (show a0k nm [] G.nodes=(0,acc) by rw[←HGO.out,List.drop_eq_nil_of_le (by have:=HBL.out;omega),a0k]);have HXE:=Hd (a3w HM hl48 (by rw[HNM.out];exact HEND))
     go_wp2_with fail
     clear g0 g1 g2 g3
     go_loopw [64] (fun iv wr=>∃ q:Nat,iv=.int .i64 q∧q≤nc∧(∀(i:Nat) (x:Int),G.outs[i]?=some x→i<q→0≤x∧x<j)∧Sep w wr (.row 23 1 (.slice Al j cl) j us::.box w.heap.size 26 [.slice A na ca,.string G.names,.slice B j cb,.slice C nc cc]::.ints A na G.sizes::.ints C nc G.outs::pool)) (fun iv _=>nc-(intOf iv).toNat)
     case atStart=>exact⟨0,rfl,by omega,by omega,H⟩
     case round =>
      clear H;obtain⟨q,rfl,hq,hAll,hS⟩:=hrel;have H:=Hd hS;have HA:=Hd hAll;clear hS hAll;by_cases hlq:q<nc
      ·obtain⟨sa,x,hsA,_,hx,hcx,_⟩:=(H.oldInts 3 rfl).at_ (k:=q) hlq;subst hsA;by_cases h1:x<0
       ·have d1:decide (x<0)=true:=by simpa using h1
        have HX:=Hd (HXE.trans (by rw[b2r hx (by have:=HBL.out;omega)];rfl:_=((23:Int),([]:List (List Int)))));clear hx;go_wp2;go_ret2;rw[HX.out];exact⟨⟨none,0,0,rfl,Nat.le_refl _,a2n _⟩,H.base⟩
       obtain⟨xx,rfl⟩:=eZ (by omega:0≤x);have d1:decide ((xx:Int)<0)=false:=by simp
       by_cases h2:j≤xx
       ·have d2:decide (j≤xx)=true:=by simpa using h2
        have HX:=Hd (HXE.trans (by rw[b2r hx (by have:=HBL.out;omega)];rfl:_=((23:Int),([]:List (List Int)))));clear hx;go_wp2;go_ret2;rw[HX.out];exact⟨⟨none,0,0,rfl,Nat.le_refl _,a2n _⟩,H.base⟩
       have d2:decide (j≤xx)=false:=by simpa using h2
       have HXX:=Hd hx;clear hx;go_wp2;go_roundw
       case rel=>exact⟨q+1,by go_num,by omega,fun i y hi hi2=>by
        rcases Nat.lt_or_ge i q with hij|hij
        ·exact HA i y hi hij
        ·obtain rfl:i=q:=by omega
         have h9:=HXX.out
         rw[hi] at h9;injection h9 with h9;omega,H⟩
       case measure=>simp[intOf];omega
      ·obtain rfl:q=nc:=by omega
       have HX:=Hd (HXE.trans (iP (b0h fun i x hi=>by rw[HBL.out];exact HA i x hi (by have:=HCL.out;have:=(lL hi);omega))));obtain⟨Al9,cl9,hv,hcl2,hLi⟩:=a6q 0 H rfl HP HACC (by omega) 4 (fun i=>rfl);injection hv with hv1 _ hv3
       subst hv1;subst hv3;have HLI:=Hd hLi;clear hLi;go_wp2;go_ret2;rw[HX.out];exact⟨⟨_,_,_,rfl,hcl2,HLI⟩,H.base⟩
end Go.Proofs.YtajhdeddgdhccaaGreatDoor
