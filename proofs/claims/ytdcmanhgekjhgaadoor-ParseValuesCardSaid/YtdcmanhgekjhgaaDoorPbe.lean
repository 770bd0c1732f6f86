import Derived.Test.YtdcmanhgekjhgaaDoorPbd
set_option maxRecDepth 100000
set_option maxHeartbeats 12800000
namespace Go.Proofs.YtdcmanhgekjhgaaDoor
open Go.RowKit Go.Proofs.Tryd
variable {L:List (List Int)} {c l n:Nat} {s:List Int} {us:List Value} {w w0:World}
def a5q (s:List Int):Bool:=decide (s.length≤3)&&s.all b0t&&decide (Sh.pr s≤8)
theorem c4l (G:a0w):a6j G=(a5q G.sizes&&a4v (a0a G.names) G.sizes.length):=rfl
theorem b4m {j:Nat}{x:Int}(h:s[j]?=some x)(hx:x<1∨8<x):a5q s=false:=by
 obtain⟨hj,rfl⟩:=List.getElem?_eq_some_iff.1 h
 cases e:a5q s with
 | false=>rfl
 | true =>
  simp only[a5q,Bool.and_eq_true,decide_eq_true_eq,List.all_eq_true,b0t] at e;obtain⟨⟨h1,h2⟩,_⟩:=e;have:=h2 _ (List.getElem_mem hj);omega
theorem c2q (hl:s.length≤3)(h:∀(i:Nat) (x:Int),s[i]?=some x→1≤x∧x≤8):a5q s=decide (Sh.pr s≤8):=by
 have:s.all b0t=true:=by
  rw[List.all_eq_true];intro x hx;obtain⟨i,hi,e⟩:=List.getElem_of_mem hx;have:=h i x (by rw[List.getElem?_eq_getElem hi,e]);simp[b0t,this]
 simp only[a5q,this,decide_eq_true hl,Bool.true_and]
theorem b8f {A:Option Addr}(h:Ints w A n s):
  Calls prog 40 #[.slice A n c] w fun e w'=>e=.returned (.bool (a5q s))∧w=w':=by
 have HSL:=Hd h.len;have hle:=h.le;by_cases hn:3<n
 ·have d0:decide (3<n)=true:=by simpa using hn
  have HX:=Hd (show a5q s=false by rw[a5q,decide_eq_false (by have:=HSL.out;omega)];rfl);clear h
  go_enter func40,ntmps40
  go_wp2;go_ret;exact⟨a0i HX.symm,rfl⟩
 have d0:decide (3<n)=false:=by simpa using hn
 have hn3:n≤3:=by omega
 go_enter func40,ntmps40
 go_wp2
 go_loop [11,3] (fun iv nv=>∃ j:Nat,iv=.int .i64 j∧nv=.int .i64 (Sh.pr (s.take j))∧j≤n∧(∀(i:Nat) (x:Int),s[i]?=some x→i<j→1≤x∧x≤8)) (fun iv _=>n-(intOf iv).toNat)
 case atStart=>exact⟨0,rfl,rfl,by omega,by omega⟩
 case round =>
  obtain⟨j,rfl,rfl,hj,hAll⟩:=hrel;have HA:=Hd hAll;clear hAll;by_cases hlt:j<n
  ·obtain⟨sa,x,hsA,_,hx,hcx,hfx⟩:=h.at_ (k:=j) hlt;subst hsA;by_cases h1:x<1
   ·have d1:decide (x<1)=true:=by simpa using h1
    have HX:=Hd (b4m hx (by omega));clear hx hfx;go_wp2;go_ret;exact⟨a0i HX.symm,rfl⟩
   have d1:decide (x<1)=false:=by simpa using h1
   by_cases h2:8<x
   ·have d2:decide (8<x)=true:=by simpa using h2
    have HX:=Hd (b4m hx (by omega));clear hx hfx;go_wp2;go_ret;exact⟨a0i HX.symm,rfl⟩
   have d2:decide (8<x)=false:=by simpa using h2
   have hpt:=Sh.pr_take s hx;have HX:=Hd hx
   have hps:∀ k,k≤j+1→0≤Sh.pr (s.take k)∧Sh.pr (s.take k)≤1048576:=fun k hk=>by
    have hm:∀ y∈s.take k,0≤y∧y≤32:=fun y hy=>by
     obtain⟨i,hi,e⟩:=List.getElem_of_mem hy;rw[List.length_take] at hi;have hi2:s[i]?=some y:=by rw[←e,List.getElem_take,List.getElem?_eq_getElem]
     rcases Nat.lt_or_ge i j with hij|hij
     ·have:=HA.out i y hi2 hij;omega
     ·obtain rfl:i=j:=by omega
      have h9:=HX.out;rw[hi2] at h9;injection h9 with h9;omega
    have hl4:(s.take k).length≤4:=by rw[List.length_take];omega
    exact Sh.pr_small _ hm hl4
   obtain⟨hq1,hq2⟩:=hps (j+1) (by omega);obtain⟨hq3,hq4⟩:=hps j (by omega);rw[hpt] at hq1 hq2;obtain⟨P,hP⟩:∃ P,Sh.pr (s.take j)=P:=⟨_,rfl⟩;rw[hP] at hq1 hq2 hq3 hq4 hpt ⊢;have hwp:IntKind.i64.wrap (P*x)=P*x:=IntWalk.i64_in _ ⟨by omega,by omega⟩;have HPT:=Hd hpt;clear hpt hps hP hx hfx;go_wp2;go_round
   case rel=>exact⟨j+1,by go_num,by rw[HPT.out],by omega,fun i y hi hi2=>by
    rcases Nat.lt_or_ge i j with hij|hij
    ·exact HA i y hi hij
    ·obtain rfl:i=j:=by omega
     have h9:=HX.out
     rw[hi] at h9;injection h9 with h9;omega⟩
   case measure=>simp[intOf];omega
  ·obtain rfl:j=n:=by omega
   have HE:=Hd (c2q (s:=s) (by have:=HSL.out;omega) (fun i x hi=>HA.out i x hi (by have:=HSL.out;have:=(lL hi);omega)));rw[List.take_of_length_le (by have:=HSL.out;omega)];obtain⟨P,hP⟩:∃ P,Sh.pr s=P:=⟨_,rfl⟩;rw[hP] at HE ⊢;clear hP;go_wp2;go_ret;exact⟨a0i (by rw[HE.out]),rfl⟩
theorem b4h {t e:TypeId}{i:TypeInfo}{z:Value}{k:Nat}(ht:prog.underlying t=some (.slice e))(hi:prog.info? e=some i)(hz:i.zero=some z)(hk:i.size=k)(hb:i.bytes≤200)(hlc:l≤c)(hc:c≤100000)(w:World):
  (Instr.makeSlice t (.int .i64 l) (.int .i64 c)).run prog w=.ok (.slice (some ⟨w.heap.size,0,none⟩) l c) (w.alloc (.cells (madeCells z.cells (c*k)) e)):=by
 have hbc:i.bytes*c≤200*100000:=Nat.mul_le_mul hb hc;have:=run_make (P:=prog) w t e i z ht hi hz .i64 .i64 l c (by omega) (by omega) (by omega) (by omega);rw[this,hk];simp only[Int.toNat_natCast]
theorem Sep.madeRow {l:List a0e}(h:Sep w0 w l)(e:TypeId)(k n c:Nat)(cs:Array Value)(hs:cs.size=c*k)(hnc:n≤c)(hc:c≤100000):
  Sep w0 (w.alloc (.cells cs e)) (.row e k (.slice (some ⟨w.heap.size,0,none⟩) n c) n (cs.toList.take (n*k))::l):=by
 have hnk:n*k≤c*k:=Nat.mul_le_mul_right k hnc
 refine h.pushNew (h.below ((Below.refl _ _).alloc (Nat.le_refl _) _)) ?_ fun k hk=>by
  have hk:some w.heap.size=some k:=hk;injection hk with hk;omega
 exact⟨by rw[List.length_take,Array.length_toList,hs];omega,.inr ⟨w.heap.size,c,cs,rfl,h.size,heap_alloc_new _ _,hnc,by unfold maxLen;omega,hs,rfl⟩⟩
def lRow (n:Nat):Array Value:=madeCells #[.slice none 0 0] n
theorem a9m (n:Nat):(lRow n).size=n:=size_madeCells _ _
theorem a5o (hlc:l≤c)(hc:c≤100000)(w:World):
  (Instr.makeSlice 52 (.int .i64 l) (.int .i64 c)).run prog w=.ok (.slice (some ⟨w.heap.size,0,none⟩) l c) (w.alloc (.cells (lRow c) 31)):=by
 obtain⟨i,hi,hz,hs,hb⟩:=a6i;have:=b4h underlying52 hi hz hs (by omega) hlc hc w;rw[this,Nat.mul_one];rfl
theorem b0n (hc:c≤100000)(w:World):
  (Instr.makeSlice 52 (.int .i64 0) (.int .i64 c)).run prog w=.ok (.slice (some ⟨w.heap.size,0,none⟩) 0 c) (w.alloc (.cells (lRow c) 31)):=a5o (l:=0) (Nat.zero_le _) hc w
def LilK (w:World) (us:List Value) (L:List (List Int)):Prop:=L.length≤us.length∧∀(j:Nat) (s:List Int),L[j]?=some s→∃ B m c,us[j]?=some (.slice B m c)∧m≤c∧Ints w B m s
theorem c4i (w:World)(us:List Value):LilK w us []:=⟨Nat.zero_le _,fun j s h=>by simp at h⟩
theorem LilK.snoc (h:LilK w us L){B:Option Addr}{m:Nat}(hI:Ints w B m s)(hm:m≤c){q:Nat}(hq:L.length=q)(hu:q<us.length):LilK w (us.set q (.slice B m c)) (L++[s]):=by
 refine⟨by rw[List.length_set,List.length_append,List.length_singleton];omega,fun j x hx=>?_⟩;rcases Nat.lt_or_ge j L.length with hj|hj
 ·rw[List.getElem?_append_left hj] at hx;rw[List.getElem?_set_ne (by omega)];exact h.2 j x hx
 ·rw[List.getElem?_append_right hj] at hx
  have hj' : j=q:=by
   rcases Nat.eq_or_lt_of_le hj with e|e
   ·omega
   ·rw[List.getElem?_eq_none (by simp;omega)] at hx;cases hx
  subst hj';rw[hq,Nat.sub_self] at hx;injection hx with hx;subst hx
  exact⟨B,m,c,by rw[List.getElem?_set_self hu],hm,hI⟩
theorem c5k {l:List a0e}{g:Nat}(h:Sep w0 w l)(i:Nat)(hi:l[i]?=some (.row 31 1 (.slice (some ⟨g,0,none⟩) n c) n us))(hK:LilK w0 us L)(hn:L.length=n)(hn2:n≤90000):Lils w (some ⟨g,0,none⟩) n L:=by
 have hr:w.ownsRow w0.heap.size 31 1 (.slice (some ⟨g,0,none⟩) n c) n us:=h.at_ i hi;refine⟨hn,hn2,fun j x hx=>?_⟩;obtain⟨B,m,cc,hu,hm,hI⟩:=hK.2 j x hx;have hj:j<L.length:=(lL hx);exact⟨⟨g,0,none⟩,B,m,cc,rfl,(World.ownsRow.lt hr g rfl).2,by rw[a6a,hr.cellAt j (by omega),hu],hm,h.oldI hI⟩
noncomputable def a6l (nm:List Int) (acc:List (List Int)) (nd:a0j):Int × List Int :=
 if b3r acc nd.ins=true then
  (if (a1f nd (a3e acc nd.ins)).1=0 then
   (if b5w nm nd (a1f nd (a3e acc nd.ins)).2.length=0 then(0,(a1f nd (a3e acc nd.ins)).2)
   else(b5w nm nd (a1f nd (a3e acc nd.ins)).2.length,[]))
  else((a1f nd (a3e acc nd.ins)).1,[]))
 else(23,[])
theorem b2r (nm:List Int)(acc:List (List Int))(nd:a0j)(l:List a0j):a0m nm acc (nd::l)=if (a6l nm acc nd).1=0 then a0m nm (acc++[(a6l nm acc nd).2]) l else((a6l nm acc nd).1,[]):=by
 rw[a0m,a6l]
 split
 ·split
  ·split
   ·rfl
   ·rfl
  ·rfl
 ·rfl
theorem c0p {v:Value}{nd:a0j}{nm:ByteArray}{Al:Option Addr}{nl cl:Nat}{acc:List (List Int)}(hnm:nm.size≤17592186044000)(h:a4p w v nd)(hLi:Lils w Al nl acc)(hq:nd.ins.length≤80000):
  Calls prog 42 #[.string nm,v,.slice Al nl cl] w (a1m w (a6l (a0a nm) acc nd)):=by
 have HN:=h;obtain⟨S,ns,cs,D,nD,cD,E,ne,ce,rfl,hNL⟩:=h;replace HN:=Hd HN;have h1:=(Sep.nil w).allocBox w.heap.size 47 [.int .i64 nd.op,.slice S ns cs,.slice D nD cD,.slice E ne ce,.int .i64 nd.n,.int .i64 nd.how,.string nd.note] rfl;have HNL:=Hd hNL;have HSL:=Hd hNL.inA.len;have hns:ns≤80000:=by have:=HSL.out;omega
 have hln:=hLi.2.1;have HLI:=Hd hLi;have HLL:=Hd hLi.1;obtain⟨nmr,hnmr⟩:∃ r,a0a nm=r:=⟨_,rfl⟩;have HNM:=Hd hnmr;have HNT:=Hd hNL.note;have HNZ:=Hd hnm;rw[hnmr];clear hNL hLi hq hnmr hnm
 go_enter func42,ntmps42
 go_upto_region 1 with fail
 generalize w.alloc (.cells #[.int .i64 nd.op,.slice S ns cs,.slice D nD cD,.slice E ne ce,.int .i64 nd.n,.int .i64 nd.how,.string nd.note] 47)=W at *;generalize hgn:w.heap.size=gn at *;have HGN:=Hd hgn;have H:=Hd h1;clear h1 hgn;obtain⟨n0,n1,n2,n3,n4,n5,n6⟩:=H.cells7 0 rfl;have hmk:=a5o (l:=ns) (c:=ns) (Nat.le_refl _) (by omega);have h2:=H.madeRow 31 1 ns ns (lRow ns) (by rw[a9m,Nat.mul_one]) (Nat.le_refl _) (by omega)
 go_upto_region 2 with fail
 generalize W.alloc (.cells (lRow ns) 31)=W2 at *;generalize hgr:W.heap.size=gr at *;have HGR:=Hd hgr;replace H:=Hd h2;clear h2 hmk hgr n0 n1 n2 n3 n4 n5 n6;obtain⟨u0,hu0⟩:∃ u,(lRow ns).toList.take (ns*1)=u:=⟨_,rfl⟩;have HU0:=Hd (show u0.length=ns by rw[←hu0,List.length_take,Array.length_toList,a9m];omega);rw[hu0] at H;clear hu0;have n1:=H.c 1 1
 go_wp2_with fail
 clear n1
 go_loopw [23] (fun iv wr=>∃(q:Nat) (us:List Value),iv=.int .i64 q∧q≤ns∧us.length=ns∧(∀(i:Nat) (x:Int),nd.ins[i]?=some x→i<q→0≤x∧x<acc.length)∧LilK w us (a3e acc (nd.ins.take q))∧Sep w wr [.row 31 1 (.slice (some ⟨gr,0,none⟩) ns ns) ns us,.box gn 47 [.int .i64 nd.op,.slice S ns cs,.slice D nD cD,.slice E ne ce,.int .i64 nd.n,.int .i64 nd.how,.string nd.note]]) (fun iv _=>ns-(intOf iv).toNat)
 case atStart=>exact⟨0,u0,rfl,by omega,HU0,by omega,c4i _ _,H⟩
 case round =>
  clear H;obtain⟨q,us,rfl,hq,hul,hAll,hK,hS⟩:=hrel;have H:=Hd hS;have HK:=Hd hK;have HA:=Hd hAll;have HUL:=Hd hul;clear hS hK hAll hul;by_cases hlq:q<ns
  ·obtain⟨sa,x,hsA,_,hx,hcx,_⟩:=(H.oldI HNL.inA).at_ (k:=q) hlq;subst hsA;have HX:=Hd hx;have HBAD:=Hd (show ¬(0≤x∧x<acc.length)→a6l nmr acc nd=(23,[]) from fun h=>by rw[a6l,iN];rw[c1a HX.out h];simp);clear hx;by_cases h1:x<0
   ·have d1:decide (x<0)=true:=by simpa using h1
    have HQ:=Hd (HBAD (by omega));clear HBAD;go_wp2;go_ret2;exact a0b HQ H.base
   have d1:decide (x<0)=false:=by simpa using h1
   obtain⟨xx,rfl⟩:=eZ (by omega:0≤x);by_cases h2:nl≤xx
   ·have d2:decide (nl≤xx)=true:=by simpa using h2
    have HQ:=Hd (HBAD (by have:=HLL.out;omega));clear HBAD;go_wp2;go_ret2;exact a0b HQ H.base
   have d2:decide (nl≤xx)=false:=by simpa using h2
   clear HBAD;obtain⟨s,hs⟩:∃ s,acc[xx]?=some s:=gE (by have:=HLL.out;omega);obtain⟨la,B5,m5,c5,hAl,hlb,hcl,hmc,hI5⟩:=HLI.out.2.2 xx s hs;subst hAl;have hcy:=H.oC hcl (a2x hlb);obtain⟨u9,hu9⟩:∃ u,us[q]?=some u:=gE (by have:=HUL.out;omega);have hcq:=H.cellRow 0 rfl hu9;have hfq:=H.frozenRow 0 rfl q;have HST:=Hd (H.setRow 0 rfl q (.slice B5 m5 c5))
   have HK2:=Hd (show LilK w (us.set q (.slice B5 m5 c5)) (a3e acc (nd.ins.take (q+1))) by
    have he:a3e acc (nd.ins.take (q+1))=a3e acc (nd.ins.take q)++[s]:=by
     rw[List.take_add_one,HX.out,a3e,a3e,List.map_append];simp[List.getD_eq_getElem?_getD,hs]
    rw[he]
    exact HK.snoc hI5 hmc (by rw[a3e,List.length_map,List.length_take];have:=HSL.out;omega) (by have:=HUL.out;omega))
   have hxn:xx<nl:=by omega
   clear hs hcl hI5 hu9;go_wp2;go_roundw
   case rel=>exact⟨q+1,_,by go_num,by omega,by rw[List.length_set];exact HUL,fun i y hi hi2=>by
    rcases Nat.lt_or_ge i q with hij|hij
    ·exact HA i y hi hij
    ·obtain rfl:i=q:=by omega
     have h9:=HX.out
     rw[hi] at h9;injection h9 with h9;have:=HLL.out;omega,HK2,HST⟩
   case measure=>simp[intOf];omega
  ·obtain rfl:q=ns:=by omega
   have HIN:=Hd (show b3r acc nd.ins=true from b8i fun i x hi=>HA.out i x hi (by have:=HSL.out;have:=(lL hi);omega));have hK9:=HK.out;rw[List.take_of_length_le (by have:=HSL.out;omega)] at hK9;have hLi:=c5k H 0 rfl hK9 (by rw[a3e,List.length_map];exact HSL) (by omega);have CS:=b8e (cl:=q) (a4p.wide (show a4p wr (.agg #[.int .i64 nd.op,.slice S q cs,.slice D nD cD,.slice E ne ce,.int .i64 nd.n,.int .i64 nd.how,.string nd.note]) nd from HN.below H.base)) hLi;obtain⟨⟨e5,s5⟩,hR⟩:∃ r,a1f nd (a3e acc nd.ins)=r:=⟨_,rfl⟩;rw[hR] at CS;have HR:=Hd hR;clear hLi hR hK9;obtain⟨n0,n1,n2,n3,n4,n5,n6⟩:=H.cells7 1 rfl
   go_wp2_with fail
   refine CS.mono ?_;rintro e4 w4 ⟨⟨v5,m5,rfl,hO⟩,hb4⟩;clear CS n0 n1 n2 n3 n4 n5 n6;replace hO:OwnS w4 _ 3 v5 m5 s5:=hO;obtain⟨A5,c5,rfl,hmc5,_,_⟩:=hO.form;have HML:=Hd hO.len;replace H:=Hd (H.addOwn hb4 hO);clear hO hb4;by_cases he:e5=0
   ·subst he;have n6:=H.c 2 6;have CN:=b4a (w:=w4) (m5:Int) HNZ HNT;rw[HNM.out] at CN;obtain⟨e6,hE⟩:∃ e6,b5w nmr nd m5=e6:=⟨_,rfl⟩;have HE6:=Hd hE;unfold b5w at hE;rw[hE] at CN;clear hE
    go_wp2_with fail
    refine CN.mono ?_;rintro e8 w8 ⟨⟨v8,m8,rfl,_⟩,hb8⟩;replace H:=Hd (H.below hb8);clear CN hb8 n6;by_cases he6:e6=0
    ·subst he6;have HQ:=Hd (show a6l nmr acc nd=(0,s5) by rw[a6l,iP HIN.out,HR.out,iP rfl,HML.out,HE6.out,iP rfl]);go_wp2;go_ret2;exact a1h HQ (H.ownS 0 rfl) H.base
    ·have dE:(e6 != 0)=true:=by simpa using he6
     have HQ:=Hd (show a6l nmr acc nd=(e6,[]) by rw[a6l,iP HIN.out,HR.out,iP rfl,HML.out,HE6.out,iN he6]);clear he6;go_wp2;go_ret2;exact a0b HQ H.base
   ·have dE:(e5 != 0)=true:=by simpa using he
    have HQ:=Hd (show a6l nmr acc nd=(e5,[]) by rw[a6l,iP HIN.out,HR.out,iN he]);clear he;go_wp2;go_ret2;exact a0b HQ H.base
end Go.Proofs.YtdcmanhgekjhgaaDoor
