import Derived.Test.YtdcmanhgekjhgaaGreatDoorPbe
import Derived.Test.YtdcmanhgekjhgaaGreatDoorPbk
set_option maxRecDepth 100000
set_option maxHeartbeats 12800000
namespace Go.Proofs.YtdcmanhgekjhgaaGreatDoor
open Go.RowKit Go.Proofs.Tryz
variable {G:a1d} {N:List a0l} {k:Nat} {s x:ByteArray} {u v:Value} {w:World}
noncomputable def a8f (s:ByteArray):a1d × Bool :=
 if (a0z s).2=false∨(a0z s).1.length<2 then(gZ,false)
 else if (a4y ((a0z s).1.headD ⟨#[]⟩)).2.2=false∨(a1s ((a0z s).1.drop 1).dropLast).2=false∨(a5x ((a0z s).1.getLastD ⟨#[]⟩)).2=false then(gZ,false)
 else(⟨(a4y ((a0z s).1.headD ⟨#[]⟩)).2.1,(a4y ((a0z s).1.headD ⟨#[]⟩)).1,(a1s ((a0z s).1.drop 1).dropLast).1,(a5x ((a0z s).1.getLastD ⟨#[]⟩)).1⟩,true)
theorem c9f (hs:¬ 65536<s.size):
  a2r s=if (a8f s).2=false then(gZ,12) else if (a0f (a8f s).1).1≠0 then(gZ,(a0f (a8f s).1).1) else if (a4f (a8f s).1).1≠s then(gZ,12) else((a8f s).1,0):=by
 unfold a2r a8f;rw[iN hs]
 split
 ·rw[iP rfl]
 ·split
  ·rw[iP rfl]
  ·rw[iN (show ¬ true=false by simp)]
theorem c1y (g:(a0z s).2=false∨(a0z s).1.length<2):a8f s=(gZ,false):=by unfold a8f;rw[iP g]
theorem e2v {l:List ByteArray}{h:ByteArray × List Int × Bool}{N:List a0l × Bool}{t:List Int × Bool}(hl:a0z s=(l,true))(h2:¬ l.length<2)
  (hh:a4y (l.headD ⟨#[]⟩)=h)(hN:a1s (l.drop 1).dropLast=N)(ht:a5x (l.getLastD ⟨#[]⟩)=t):
  a8f s=if h.2.2=false∨N.2=false∨t.2=false then(gZ,false) else(⟨h.2.1,h.1,N.1,t.1⟩,true):=by
 unfold a8f;rw[hl,hh,hN,ht,iN (by rintro(e|e);cases e;exact h2 e)]
theorem c8w (s:ByteArray):∃(l:List ByteArray) (q:ByteArray),(a1n 10 (bl s)).map ofL=l++[q]∧a0z s=(l,decide (q=⟨#[]⟩))∧(∀ x∈l++[q],x.size≤s.size)∧(l++[q]).length≤s.size+1:=by
 have hne:=b3x 10 (bl s);have hsm:=a6f 10 (bl s);have hlen:=a5p 10 (bl s);obtain⟨U,z,hU⟩:∃ U z,a1n 10 (bl s)=U++[z]:=⟨_,_,(List.dropLast_concat_getLast hne).symm⟩;rw[a3w] at hlen hsm;refine⟨U.map ofL,ofL z,by rw[hU,List.map_append];rfl,?_,?_,?_⟩
 ·unfold a0z;rw[hU,List.dropLast_concat,List.getLast?_concat];refine Prod.ext rfl ?_
  show decide (some z=some [])=decide (ofL z=⟨#[]⟩)
  rw[decide_eq_decide]
  constructor
  ·intro e;injection e with e;rw[e];rfl
  ·intro e;rw[←a6y z,e];rfl
 ·intro x hx;have hx:x∈(U++[z]).map ofL:=by rw[List.map_append];exact hx
  obtain⟨y,hy,rfl⟩:=List.mem_map.1 hx;have:=hsm y (by rw[hU];exact hy);have e:(ofL y).size=y.length:=by rw[←a3w,a6y]
  omega
 ·rw[hU] at hlen;simpa using hlen
def d4v (w w' : World) (v:Value) (G:a1d):Prop:=∀(w2:World) (g:Nat) (a b c d:Value),Below w'.heap.size w' w2→g<w.heap.size→a1m ((((w2.setCell ⟨g,0,none⟩ a).setCell ⟨g,1,none⟩ b).setCell ⟨g,2,none⟩ c).setCell ⟨g,3,none⟩ d) v G
theorem b3m {w':World}{l:List a0e}(H:Sep w w' l):∃ v,Ending.returned (.tuple #[.agg zH,.bool false])=Ending.returned (.tuple #[v,.bool false])∧a1m w' v gZ∧d4v w w' v gZ∧FewG 80000 gZ∧Below w.heap.size w w':=⟨_,rfl,isZ _,fun _ _ _ _ _ _ _ _=>isZ _,e6h,H.base⟩
theorem d7m {mid:List ByteArray}(h:a1s mid=(N++(a1s (mid.drop k)).1,(a1s (mid.drop k)).2))(hd:mid.drop k=x::mid.drop (k+1))(hn:(a1x x).2=true):a1s mid=((N++[(a1x x).1])++(a1s (mid.drop (k+1))).1,(a1s (mid.drop (k+1))).2):=by
 rw[h,hd,a1s,iP hn];simp
theorem d7n {mid:List ByteArray}(h:a1s mid=(N++(a1s (mid.drop k)).1,(a1s (mid.drop k)).2))(hd:mid.drop k=x::mid.drop (k+1))(hn:(a1x x).2=false):(a1s mid).2=false:=by
 rw[h,hd,a1s,iN (by rw[hn];simp)]
theorem d7v (w:World)(s:ByteArray)(hs:s.size≤65536)(hT:Tabs w):
  Calls prog 35 #[.string s] w fun e w'=>∃ v,e=.returned (.tuple #[v,.bool (a8f s).2])∧a1m w' v (a8f s).1∧d4v w w' v (a8f s).1∧FewG 80000 (a8f s).1∧Below w.heap.size w w':=by
 have h0:=(Sep.nil w).allocBox w.heap.size 28 zG rfl;have HT:=Hd hT;obtain⟨l,q,hPL,hlf,hsm,hln⟩:=c8w s;have C1:=fun w0:World=>c1t w0 s 10 10 rfl (by decide) (by omega)
 rw[hPL] at C1;have HC1:=Hd C1;have HSM:=Hd hsm;have HRF:=Hd (fun h=>c1y (s:=s) h);rw[hlf] at HRF;have HLF:=Hd hlf;clear C1 hsm hPL hlf hT;obtain⟨m,hm⟩:∃ m,l.length=m:=⟨_,rfl⟩;have hpl:(l++[q]).length=m+1:=by rw[List.length_append,hm];rfl
 rw[hpl] at hln;have HPL:=Hd hpl;have HM:=Hd hm;rw[show(l,decide (q=⟨#[]⟩)).1.length=m from hm] at HRF;clear hm hpl
 go_enter func35,ntmps35
 go_upto_region 1 with fail
 generalize w.alloc (.cells zH 28)=w0 at *;obtain⟨gR,hgR⟩:∃ g,w.heap.size=g:=⟨_,rfl⟩;rw[hgR] at h0 ⊢;have H0:=Hd h0;clear h0 hgR
 go_wp2_with fail
 refine(HC1 w0).mono ?_;rintro e1 w1 ⟨v,rfl,hP⟩;obtain⟨A1,c1,K1,rfl,hc1,hS1,hb1,_⟩:=hP.strs (fun x hx=>Nat.le_trans (HSM x hx) (by omega)) (by rw[HPL.out];omega);rw[HPL.out] at hS1 hc1 ⊢;replace H0:=Hd (H0.below hb1);have hq:(l++[q])[m]?=some q:=by rw[List.getElem?_append_right (by rw[HM.out];exact Nat.le_refl _),HM.out,Nat.sub_self];rfl
 obtain⟨a1,hA,q0,cq,q1⟩:=hS1.2.2.2 m q hq;clear q0 q1;subst hA;have HS1:=Hd hS1;clear hP hS1 hb1 hq HC1;have hx0:wrap64 ((m:Int)+1-1)=(m:Int):=by unfold wrap64;omega
 by_cases hm2:m<2
 ·have d2:decide ((m:Int)<2)=true:=decide_eq_true (by omega);have HP:=Hd (HRF (.inr hm2));clear hm2;obtain⟨r0,r1,r2,r3⟩:=H0.z4 0 rfl;obtain⟨fr0,fr1,fr2,fr3⟩:=H0.f4 0 rfl
  go_wp2_with fail
  refine a0p (.bool false) (H0.set4 0 rfl _ _ _ _) 0 rfl results35 rfl rfl rfl ?_;rw[HP.out];exact b3m (H0.set4 0 rfl _ _ _ _)
 have d2:decide ((m:Int)<2)=false:=decide_eq_false (by omega);by_cases hqe:q=⟨#[]⟩
 ·have e0:q.toList.isEmpty=true:=by rw[hqe,ByteArray.toList_eq];rfl
  have HRO:=Hd (fun (h:ByteArray × List Int × Bool) (N:List a0l × Bool) (t:List Int × Bool)=>e2v (s:=s) (l:=l) (h:=h) (N:=N) (t:=t) (by rw[HLF.out,decide_eq_true hqe]) (by rw[HM.out];exact hm2));clear HRF HLF hqe
  obtain⟨s0,l0,hl0⟩:∃ x r,l=x::r:=by
   cases l with
   | nil=>have:=HM.out;simp only[List.length_nil] at this;omega
   | cons x r=>exact⟨x,r,rfl⟩
  have hl00:l[0]?=some s0:=by rw[hl0];rfl
  have HH0:=Hd (show l.headD ⟨#[]⟩=s0 by rw[hl0];rfl);have hLP:∀(j:Nat) (x:ByteArray),l[j]?=some x→(l++[q])[j]?=some x:=fun j x h=>by rw[List.getElem?_append_left (lL h)];exact h
  have HLP:=Hd hLP;have HLS:=Hd (show ∀ x∈l,x.size≤65536 from fun x hx=>Nat.le_trans (HSM x (List.mem_append_left _ hx)) hs);obtain⟨a2,hA,q0,hc0,q1⟩:=HS1.out.2.2.2 0 s0 (hLP 0 s0 hl00);injection hA with hA;subst hA
  rw[addZ] at hc0;have hz0:s0.size≤65536:=HLS.out s0 (mG hl00);have CM:=d7s (w:=w1) s0 (by omega) (HT.below H0.base);obtain⟨hd,hhd⟩:∃ h,a4y s0=h:=⟨_,rfl⟩
  have hhl:hd.2.2=true→hd.2.1.length≤80000:=fun _=>by
   rw[←hhd];have h8:=b0k (((a0u s0).drop 1).drop 1) ((a0u s0).isEmpty||((a0u s0).drop 1).isEmpty);have h9:=a4g s0
   show(a2x (((a0u s0).drop 1).drop 1) ((a0u s0).isEmpty||((a0u s0).drop 1).isEmpty)).1.length≤80000
   rw[List.length_drop,List.length_drop] at h8;omega
  rw[hhd] at CM;replace HRO:=Hd (fun (N:List a0l × Bool) (t:List Int × Bool)=>HRO.out hd N t (by rw[HH0.out];exact hhd));have HHL:=Hd hhl;clear hhd hhl hl00 hLP q0 q1 hl0 HH0
  go_wp2_with fail
  refine CM.mono ?_;rintro e2 w2 ⟨v,m4,R,nm,rfl,hSm,hnm,hok⟩;obtain⟨B4,d4,hv,_,_,_⟩:=(hSm.ownS 0 rfl).form;subst hv;have h3:=hSm.allocBox w2.heap.size 28 [.slice B4 m4 d4,.string nm,.slice none 0 0,.slice none 0 0] rfl;clear CM hc0 hSm cq
  go_upto_region 6 with fail
  generalize w2.alloc (.cells #[.slice B4 m4 d4,.string nm,.slice none 0 0,.slice none 0 0] 28)=w3 at *;obtain⟨gG,hgG⟩:∃ g,w2.heap.size=g:=⟨_,rfl⟩;rw[hgG] at h3 ⊢;have H:=Hd (show Sep w1 w3 [.box gG 28 [.slice B4 m4 d4,.string nm,.slice none 0 0,.slice none 0 0],.own 3 (.slice B4 m4 d4) m4 R] from h3);have HOK:=Hd hok;obtain⟨okh,hokh⟩:∃ b,hd.2.2=b:=⟨_,rfl⟩;rw[hokh] at HOK HHL ⊢;have HOH:=Hd hokh;clear h3 hgG hok hokh
  cases okh with
  | false =>
   have HP:=Hd (show a8f s=(gZ,false) by rw[HRO.out _ _ rfl rfl,iP (.inl HOH.out)]);replace H0:=Hd (H0.below H.base);obtain⟨r0,r1,r2,r3⟩:=H0.z4 0 rfl;obtain⟨fr0,fr1,fr2,fr3⟩:=H0.f4 0 rfl
   go_wp2_with fail
   refine a0p (.bool false) (H0.set4 0 rfl _ _ _ _) 0 rfl results35 rfl rfl rfl ?_;rw[HP.out]
   exact b3m (H0.set4 0 rfl _ _ _ _)
  | true =>
   obtain⟨hR,hnme⟩:=HOK.out rfl;have hRl:R.length≤80000:=by rw[hR];exact HHL rfl
   obtain⟨mid,hmid⟩:∃ m,(l.drop 1).dropLast=m:=⟨_,rfl⟩
   have hmid2:((l++[q]).drop 1).take (m-1-1)=mid:=by
    rw[←hmid,List.drop_append_of_le_length (by rw[HM.out];omega),List.take_append_of_le_length (by rw[List.length_drop,HM.out];omega),List.dropLast_eq_take,List.length_drop,HM.out]
   replace HRO:=Hd (fun (N:List a0l × Bool) (t:List Int × Bool) (hN:a1s mid=N) (ht:a5x (l.getLastD ⟨#[]⟩)=t)=>show a8f s=if N.2=false∨t.2=false then(gZ,false) else(⟨R,nm,N.1,t.1⟩,true) by
    rw[HRO.out N t (by rw[hmid];exact hN) ht,HOH.out,hR,hnme]
    simp only[Bool.true_eq_false,false_or])
   obtain⟨A2,hr,hS2⟩:=d1t HS1 hc1 (j:=1) (k:=m-1) (by omega) (by omega);rw[hmid2] at hS2
   have hr:∀ w,(Instr.slice 32 (.slice (some a1) (m+1) c1) (some (.int .i64 1)) (some (.int .i64 ((m:Int)-1))) none).run prog w=.ok (.slice A2 (m-1-1) (c1-1)) w:=fun w=>by
    have:=hr w;rwa [show((m-1:Nat):Int)=(m:Int)-1 by omega] at this
   have hxk:wrap64 ((m:Int)-1)=(m:Int)-1:=by unfold wrap64;omega
   have HMS:=Hd (show ∀ x∈mid,x.size≤65536 from fun x hx=>HLS.out x (List.mem_of_mem_drop (List.dropLast_subset _ (by rw[hmid];exact hx))));have HS2:=Hd hS2;have HML:=Hd hS2.1;have hc2:m-1-1≤c1-1:=by omega
   obtain⟨N0,hN0⟩:∃ n,m-1-1=n:=⟨_,rfl⟩;rw[hN0] at HS2 HML hr;have h9:=(H.sub (l':=[.own 3 (.slice B4 m4 d4) m4 R,.box gG 28 [.slice B4 m4 d4,.string nm,.slice none 0 0,.slice none 0 0]]) [1,0] rfl (by decide)).addRowNil 49 7;replace H:=Hd h9;clear h9 hmid hmid2 hS2 HOK HHL hR hnme HOH
   go_wp2_with fail
   go_loopw [42] (fun iv wr=>∃(k:Nat) (N:List a0l) (us:List Value) (pool:List a0e) (vN:Value),iv=.int .i64 k∧k≤N0∧N.length=k∧(∀ nd∈N,Few 80000 nd)∧a1s mid=(N++(a1s (mid.drop k)).1,(a1s (mid.drop k)).2)∧b6v us N pool∧(∀ c∈pool,c.mine)∧Sep w1 wr (.row 49 7 vN k us::.own 3 (.slice B4 m4 d4) m4 R::.box gG 28 [.slice B4 m4 d4,.string nm,vN,.slice none 0 0]::pool)) (fun iv _=>N0-(intOf iv).toNat)
   case atStart=>exact⟨0,[],[],[],_,rfl,by omega,rfl,by simp,by simp,b8x,by simp,H⟩
   case round =>
    clear H;obtain⟨k,N,us,pool,vN,rfl,hk,hNl,hfw,hnf,hPN,hmine,hS⟩:=hrel;have H:=Hd hS;have HPN:=Hd hPN;have HNL:=Hd hNl;have HNF:=Hd hnf;have HMI:=Hd hmine;have HFW:=Hd hfw;clear hS hPN hNl hnf hmine hfw;by_cases hlt:k<N0
    ·have d5:decide ((k:Int)<(N0:Int))=true:=decide_eq_true (by omega);obtain⟨x,hx⟩:∃ x,mid[k]?=some x:=gE (by rw[HML.out];exact hlt);obtain⟨a2,hA2,q0,hcx,q1⟩:=(HS2.below H.base).2.2.2 k x hx;clear q0 q1;subst hA2;have hxs:x.size≤65536:=HMS.out x (mG hx)
     have hdr:mid.drop k=x::mid.drop (k+1):=by
      obtain⟨h3,h4⟩:=List.getElem?_eq_some_iff.1 hx;rw[List.drop_eq_getElem_cons h3,h4]
     have CN:=d7t (w:=wr) x (by omega) ((HT.below H0.base).below H.base);have hfew:=b8k hxs;have HBAD:=Hd (fun h=>d7n HNF hdr h);have HADD:=Hd (fun h=>d7m HNF hdr h);obtain⟨Nx,hnd⟩:∃ r,a1x x=r:=⟨_,rfl⟩;rw[hnd] at CN hfew HBAD HADD;obtain⟨ndx,okn⟩:=Nx;have HCN:=Hd CN;have HFX:=Hd hfew;clear CN hfew hnd hdr hx
     go_wp2_with fail
     refine HCN.mono ?_;rintro e7 w7 ⟨nd,v1,n1,v2,n2,v3,n3,rfl,hSn,hndx⟩;obtain⟨B1,d1,hv,_,_,_⟩:=(hSn.ownS 0 rfl).form;subst hv;obtain⟨B2,d2v,hv,_,_,_⟩:=(hSn.ownS 1 rfl).form;subst hv;obtain⟨B3,d3,hv,_,_,_⟩:=(hSn.ownS 2 rfl).form;subst hv;have h8:=(show Sep w1 w7 (.own 3 (.slice B1 n1 d1) n1 nd.ins::.own 3 (.slice B2 n2 d2v) n2 nd.shape::.own 3 (.slice B3 n3 d3) n3 nd.a::.row 49 7 vN k us::.own 3 (.slice B4 m4 d4) m4 R::.box gG 28 [.slice B4 m4 d4,.string nm,vN,.slice none 0 0]::pool) from Sep.join H hSn.base hSn (Nat.le_refl _) (by intro c hc;simp only[List.mem_cons,List.not_mem_nil,or_false] at hc;rcases hc with rfl|rfl|rfl <;> exact True.intro)).allocBox w7.heap.size 49 [.int .i64 nd.op,.slice B1 n1 d1,.slice B2 n2 d2v,.slice B3 n3 d3,.int .i64 nd.n,.int .i64 nd.how,.string nd.note] rfl
     have HNX:=Hd hndx;clear hSn HCN hcx hndx
     go_upto_region 12 with fail
     generalize w7.alloc (.cells #[.int .i64 nd.op,.slice B1 n1 d1,.slice B2 n2 d2v,.slice B3 n3 d3,.int .i64 nd.n,.int .i64 nd.how,.string nd.note] 49)=w8 at *;obtain⟨gx,hgx⟩:∃ g,w7.heap.size=g:=⟨_,rfl⟩;rw[hgx] at h8 ⊢;replace H:=Hd h8;clear h8 hgx
     cases okn with
     | false =>
      have HP:=Hd (show a8f s=(gZ,false) by rw[HRO.out _ _ rfl rfl,iP (.inl (HBAD.out rfl))]);replace H0:=Hd (H0.below H.base);obtain⟨r0,r1,r2,r3⟩:=H0.z4 0 rfl;obtain⟨fr0,fr1,fr2,fr3⟩:=H0.f4 0 rfl
      go_wp2_with fail
      refine a0p (.bool false) (H0.set4 0 rfl _ _ _ _) 0 rfl results35 rfl rfl rfl ?_;rw[HP.out]
      exact b3m (H0.set4 0 rfl _ _ _ _)
     | true =>
      obtain rfl:nd=ndx:=HNX.out rfl;replace HADD:=Hd (HADD rfl);obtain⟨x0,x1,x2,x3,x4,x5,x6⟩:=H.cells7 0 rfl;have k2:=H.c 6 2;have hk9:N0≤90000:=by omega
      go_wp2_with (at_builtin;refine a2o rfl (.tmp 55) (.tmp 57) 26 rfl underlying26 H.out 4 rfl rfl _ rfl rfl rfl rfl rfl rfl rfl rfl ?c1 ?_)
      case c1=>omega
      intro vN2 w9 h9;obtain⟨gN,cN,hv,hcN⟩:=h9.rowForm 4 rfl (by omega);subst hv;have H9:=Hd h9;clear h9 k2 x0 x1 x2 x3 x4 x5 x6;have fg:=H9.frozenBox 6 2 rfl;have cg:=H9.c 6 2;have h10:=H9.setBox 6 2 (.slice (some ⟨gN,0,none⟩) (k+1) cN) rfl;have H10:=Hd (show Sep w1 _ (.box gx 49 [.int .i64 nd.op,.slice B1 n1 d1,.slice B2 n2 d2v,.slice B3 n3 d3,.int .i64 nd.n,.int .i64 nd.how,.string nd.note]::.own 3 (.slice B1 n1 d1) n1 nd.ins::.own 3 (.slice B2 n2 d2v) n2 nd.shape::.own 3 (.slice B3 n3 d3) n3 nd.a::.row 49 7 (.slice (some ⟨gN,0,none⟩) (k+1) cN) (k+1) (us++[.int .i64 nd.op,.slice B1 n1 d1,.slice B2 n2 d2v,.slice B3 n3 d3,.int .i64 nd.n,.int .i64 nd.how,.string nd.note])::.own 3 (.slice B4 m4 d4) m4 R::.box gG 28 [.slice B4 m4 d4,.string nm,.slice (some ⟨gN,0,none⟩) (k+1) cN,.slice none 0 0]::pool) from h10);clear h10;go_wp2;go_roundw
      case rel=>exact⟨k+1,N++[nd],us++[.int .i64 nd.op,.slice B1 n1 d1,.slice B2 n2 d2v,.slice B3 n3 d3,.int .i64 nd.n,.int .i64 nd.how,.string nd.note],.own 3 (.slice B1 n1 d1) n1 nd.ins::.own 3 (.slice B2 n2 d2v) n2 nd.shape::.own 3 (.slice B3 n3 d3) n3 nd.a::pool,_,by go_num,by omega,by rw[List.length_append,List.length_singleton,HNL.out],(by intro y hy;rcases List.mem_append.1 hy with hy|hy;exact HFW y hy;rw[List.mem_singleton] at hy;subst hy;exact HFX.out.1),HADD,((((HPN.shift (c:=.own 3 (.slice B3 n3 d3) n3 nd.a)).shift (c:=.own 3 (.slice B2 n2 d2v) n2 nd.shape)).shift (c:=.own 3 (.slice B1 n1 d1) n1 nd.ins)).snoc (nd:=nd) (p:=0) (q:=1) (r:=2) rfl rfl rfl HFX.out.2.1 HFX.out.2.2.1 HFX.out.2.2.2.1 (Nat.le_trans HFX.out.2.2.2.2 (by omega))),(by intro c hc;simp only[List.mem_cons] at hc;rcases hc with rfl|rfl|rfl|hc;exact True.intro;exact True.intro;exact True.intro;exact HMI c hc),H10.tail_.perm (e3x _ _ _ _ _ _ _)⟩
      case measure=>simp[intOf];omega
    ·have d5:decide ((k:Int)<(N0:Int))=false:=decide_eq_false (by omega);obtain rfl:N0=k:=by omega
     have HNA:=Hd (show a1s mid=(N,true) by rw[HNF.out,List.drop_of_length_le (by rw[HML.out];exact Nat.le_refl _)];simp[a1s]);obtain⟨xl,hxl⟩:∃ x,l[m-1]?=some x:=gE (by rw[HM.out];omega);have HLA:=Hd (d6q (j:=m-1) (by rw[HM.out];omega) hxl);obtain⟨a2,hA2,q0,hcx,q1⟩:=(HS1.below H.base).2.2.2 (m-1) xl (HLP _ _ hxl);clear q0 q1;injection hA2 with hA2
     subst hA2;have hxs:xl.size≤65536:=HLS.out xl (mG hxl);replace HRO:=Hd (fun (t:List Int × Bool) (ht:a5x xl=t)=>HRO.out (N,true) t HNA (by rw[HLA.out];exact ht));have CT:=d7u (w:=wr) xl (by omega) ((HT.below H0.base).below H.base)
     have htl:(a5x xl).1.length≤80000:=by
      have h8:=b0k ((a0u xl).drop 1) (a0u xl).isEmpty;have h9:=a4g xl
      show(a2x ((a0u xl).drop 1) (a0u xl).isEmpty).1.length≤80000
      rw[List.length_drop] at h8;omega
     obtain⟨tl9,htl9⟩:∃ t,a5x xl=t:=⟨_,rfl⟩;rw[htl9] at CT htl;replace HRO:=Hd (HRO tl9 htl9);have HTL:=Hd htl;clear htl9 htl hxl HNF hlt
     go_wp2_with fail
     refine CT.mono ?_;rintro e9 w10 ⟨v5,m5,L5,rfl,hR,hL5⟩;obtain⟨B5,d5v,hv,_,_,_⟩:=(hR.ownS 0 rfl).form;subst hv;replace H:=Hd (show Sep w1 w10 (.own 3 (.slice B5 m5 d5v) m5 L5::.row 49 7 vN N0 us::.own 3 (.slice B4 m4 d4) m4 R::.box gG 28 [.slice B4 m4 d4,.string nm,vN,.slice none 0 0]::pool) from Sep.join H hR.base hR (Nat.le_refl _) (by intro c hc;rw[List.mem_singleton] at hc;subst hc;exact True.intro));have HL5:=Hd hL5;clear hR CT hL5 hcx;have k3:=H.c 3 3;have fk3:=H.frozenBox 3 3 rfl;have h9:=H.setBox 3 3 (.slice B5 m5 d5v) rfl
     go_upto_region 17 with fail
     generalize w10.setCell ⟨gG,3,none⟩ (.slice B5 m5 d5v)=w11 at *;replace H:=Hd (show Sep w1 w11 (.own 3 (.slice B5 m5 d5v) m5 L5::.row 49 7 vN N0 us::.own 3 (.slice B4 m4 d4) m4 R::.box gG 28 [.slice B4 m4 d4,.string nm,vN,.slice B5 m5 d5v]::pool) from h9);clear h9 k3 fk3;obtain⟨okt,hokt⟩:∃ b,tl9.2=b:=⟨_,rfl⟩;rw[hokt] at HL5 HRO ⊢;clear hokt
     cases okt with
     | false =>
      have HP:=Hd (show a8f s=(gZ,false) by rw[HRO.out,iP (.inr rfl)]);replace H0:=Hd (H0.below H.base);obtain⟨r0,r1,r2,r3⟩:=H0.z4 0 rfl;obtain⟨fr0,fr1,fr2,fr3⟩:=H0.f4 0 rfl
      go_wp2_with fail
      refine a0p (.bool false) (H0.set4 0 rfl _ _ _ _) 0 rfl results35 rfl rfl rfl ?_;rw[HP.out]
      exact b3m (H0.set4 0 rfl _ _ _ _)
     | true =>
      obtain rfl:=HL5.out rfl;have HP:=Hd (show a8f s=(⟨R,nm,N,tl9.1⟩,true) by rw[HRO.out,iN (by rintro(h|h) <;> cases h)])
      have J:=Hd (show Sep w w11 (.own 3 (.slice B5 m5 d5v) m5 tl9.1::.row 49 7 vN N0 us::.own 3 (.slice B4 m4 d4) m4 R::.box gG 28 [.slice B4 m4 d4,.string nm,vN,.slice B5 m5 d5v]::(pool++[.box gR 28 zG])) from by
       have:=Sep.join H0 H.base H (Nat.le_refl _) (by intro c hc;simp only[List.mem_cons] at hc;rcases hc with rfl|rfl|rfl|rfl|hc;exact True.intro;exact True.intro;exact True.intro;exact True.intro;exact HMI c hc)
       exact this)
      replace J:=Hd (show Sep w w11 (.box gR 28 zG::.own 3 (.slice B5 m5 d5v) m5 tl9.1::.row 49 7 vN N0 us::.own 3 (.slice B4 m4 d4) m4 R::.box gG 28 [.slice B4 m4 d4,.string nm,vN,.slice B5 m5 d5v]::pool) from J.perm (by
       have:=List.perm_append_comm (l₁:=(.own 3 (.slice B5 m5 d5v) m5 tl9.1::.row 49 7 vN N0 us::.own 3 (.slice B4 m4 d4) m4 R::.box gG 28 [.slice B4 m4 d4,.string nm,vN,.slice B5 m5 d5v]::pool:List a0e)) (l₂:=[.box gR 28 zG])
       exact this))
      clear H H0;obtain⟨An,cn,hv,hcn,hNi⟩:=a5o 2 J rfl HPN HNL (by omega) 5 (fun j=>rfl);subst hv;clear hNi hcn;obtain⟨r0,r1,r2,r3⟩:=J.z4 0 rfl;obtain⟨fr0,fr1,fr2,fr3⟩:=J.f4 0 rfl;obtain⟨g0,g1,g2,g3⟩:=J.cells4 4 rfl;have h14:=J.set4 0 rfl (.slice B4 m4 d4) (.string nm) (.slice An N0 cn) (.slice B5 m5 d5v);have HJ:=Hd h14;clear h14
      go_wp2_with fail
      refine a0p (.bool true) HJ 0 rfl results35 rfl rfl rfl ?_;rw[HP.out];obtain⟨An2,cn2,hv,hcn2,hNi⟩:=a5o 2 HJ rfl HPN HNL (by omega) 5 (fun j=>rfl);injection hv with e1 e2 e3
      subst e1 e3;refine⟨_,rfl,?_,?_,?_,HJ.base⟩
      ·exact⟨_,_,_,_,_,_,_,_,_,rfl,⟨(HJ.ownInts 3 rfl).2.1,hcn2,(HJ.ownInts 1 rfl).2.1,(HJ.ownInts 3 rfl).2.2,hNi,(HJ.ownInts 1 rfl).2.2,by show nm.size≤_;omega⟩⟩
      ·intro w2 g a b c d hb2 hg2;have h15:=Sep.both4 (HJ.below hb2) (g:=g) hg2 (by intro c hc;simp only[List.set_cons_zero,List.mem_cons] at hc;rcases hc with rfl|rfl|rfl|rfl|rfl|hc;exact True.intro;exact True.intro;exact True.intro;exact True.intro;exact True.intro;exact HMI c hc) a b c d;obtain⟨An3,cn3,hv,hcn3,hNi3⟩:=a5o 2 h15 rfl HPN HNL (by omega) 5 (fun j=>rfl);injection hv with e1 e2 e3
       subst e1 e3;exact⟨_,_,_,_,_,_,_,_,_,rfl,⟨(h15.ownInts 3 rfl).2.1,hcn3,(h15.ownInts 1 rfl).2.1,(h15.ownInts 3 rfl).2.2,hNi3,(h15.ownInts 1 rfl).2.2,by show nm.size≤_;omega⟩⟩
      ·exact⟨by show N.length≤_;rw[HNL.out];omega,hRl,HTL,fun j nd hj=>HFW.out nd (mG hj)⟩
 ·have e0:q.toList.isEmpty=false:=by
   cases hc:q.toList.isEmpty with
   | false=>rfl
   | true=>exact absurd (eqL.1 (List.isEmpty_iff.1 hc)) hqe
  have HP:=Hd (HRF (.inl (decide_eq_false hqe)));clear hqe hm2;obtain⟨r0,r1,r2,r3⟩:=H0.z4 0 rfl;obtain⟨fr0,fr1,fr2,fr3⟩:=H0.f4 0 rfl
  go_wp2_with fail
  refine a0p (.bool false) (H0.set4 0 rfl _ _ _ _) 0 rfl results35 rfl rfl rfl ?_;rw[HP.out];exact b3m (H0.set4 0 rfl _ _ _ _)
theorem e2u (h:(a8f s).2=true):s≠⟨#[]⟩:=fun e=>by
 subst e;rw[c1y (.inr (by decide))] at h
 cases h
theorem d9e (h:(a0f G).1=0)(hs:(a4f G).1=s)(h0:s≠⟨#[]⟩):(a4f G).2=0:=by
 by_cases g:65536<(a3f G (a0f G).2).size
 ·rw[a6u h g] at hs;exact absurd hs.symm h0
 ·rw[a9i h g]
theorem b1l (s:ByteArray)(hs:s.size≤9223372036854775807)(hT:Tabs w):
  Calls prog 14 #[.string s] w fun e w'=>b6u w (a2r s).1 (a2r s).2 e w':=by
 have h0:=(Sep.nil w).allocBox w.heap.size 28 zG rfl;have HT:=Hd hT;clear hT
 go_enter func14,ntmps14
 go_upto_region 1 with fail
 generalize w.alloc (.cells zH 28)=w0 at *;obtain⟨gR,hgR⟩:∃ g,w.heap.size=g:=⟨_,rfl⟩;rw[hgR] at h0 ⊢;have H0:=Hd h0;clear h0 hgR;by_cases hbig:65536<s.size
 ·have db:decide ((65536:Int)<(s.size:Int))=true:=decide_eq_true (by omega);have HP:=Hd (c1u hbig);clear hbig;obtain⟨r0,r1,r2,r3⟩:=H0.z4 0 rfl;obtain⟨fr0,fr1,fr2,fr3⟩:=H0.f4 0 rfl
  go_wp2_with fail
  refine a0p (.int .i64 3) (H0.set4 0 rfl _ _ _ _) 0 rfl results14 rfl rfl rfl ?_;rw[HP.out];exact a2s (H0.set4 0 rfl _ _ _ _) _
 ·have db:decide ((65536:Int)<(s.size:Int))=false:=decide_eq_false (by omega);have HPR:=Hd (c9f hbig);have CR:=d7v w0 s (by omega) (HT.below H0.base);have HNE:=Hd (fun h=>e2u (s:=s) h);obtain⟨⟨G,ok⟩,hrd⟩:∃ r,a8f s=r:=⟨_,rfl⟩;rw[hrd] at CR HPR HNE;clear hrd hbig
  go_wp2_with fail
  refine CR.mono ?_;rintro e1 w1 ⟨v,rfl,hG,hSG,hF,hb⟩;have HGL:=Hd (H0.blockLt 0 rfl).2;have HSG:=Hd hSG;replace H0:=Hd (H0.below hb);have HF:=Hd hF;have HG0:=Hd hG;obtain⟨A,na,ca,B,nb,cb,C,nc,cc,rfl,hL⟩:=hG;have h2:=(Sep.nil w1).allocBox w1.heap.size 28 [.slice A na ca,.string G.names,.slice B nb cb,.slice C nc cc] rfl;clear hL hb hF CR hSG
  go_upto_region 4 with fail
  generalize w1.alloc (.cells #[.slice A na ca,.string G.names,.slice B nb cb,.slice C nc cc] 28)=w2 at *;obtain⟨g4,hg4⟩:∃ g,w1.heap.size=g:=⟨_,rfl⟩;rw[hg4] at h2 ⊢;have H:=Hd h2;clear h2 hg4;replace HG0:=Hd (HG0.below H.base)
  cases ok with
  | false =>
   have HP:=Hd (show a2r s=(gZ,12) by rw[HPR.out,iP rfl]);replace H0:=Hd (H0.below H.base);obtain⟨r0,r1,r2,r3⟩:=H0.z4 0 rfl;obtain⟨fr0,fr1,fr2,fr3⟩:=H0.f4 0 rfl
   go_wp2_with fail
   refine a0p (.int .i64 12) (H0.set4 0 rfl _ _ _ _) 0 rfl results14 rfl rfl rfl ?_;rw[HP.out]
   exact a2s (H0.set4 0 rfl _ _ _ _) _
  | true =>
   replace HPR:=Hd (show a2r s=if (a0f G).1≠0 then(gZ,(a0f G).1) else if (a4f G).1≠s then(gZ,12) else(G,0) by rw[HPR.out,iN (by simp)]);replace HNE:=Hd (HNE rfl);obtain⟨g0,g1,g2,g3⟩:=H.cells4 0 rfl;have C5:=d2o HG0 HF.small;have HTZ:=Hd (fun h h2=>d9e (G:=G) (s:=s) h h2 HNE);obtain⟨es,hes⟩:∃ e,(a0f G).1=e:=⟨_,rfl⟩;rw[hes] at C5 HPR HTZ;clear hes
   go_wp2_with fail
   refine C5.mono ?_;rintro e2 w3 ⟨rfl,hb⟩;replace H:=Hd (H.below hb);replace HG0:=Hd (HG0.below hb);clear hb g0 g1 g2 g3 C5;by_cases hez:es=0
   ·have de:(es != 0)=false:=by simpa using hez
    subst hez;obtain⟨g0,g1,g2,g3⟩:=H.cells4 0 rfl;have C6:=d9p HG0 HF ((HT.below H0.base).below H.base);obtain⟨⟨T9,e9⟩,hT9⟩:∃ e,a4f G=e:=⟨_,rfl⟩;rw[hT9] at C6 HPR HTZ;clear hT9 de
    go_wp2_with fail
    refine C6.mono ?_;rintro e3 w4 ⟨rfl,hb⟩;replace H:=Hd (H.below hb);replace HG0:=Hd (HG0.below hb);clear hb g0 g1 g2 g3 C6;by_cases hts:T9=s
    ·have e1:(T9.toList==s.toList)=true:=by rw[eqS];exact decide_eq_true hts
     obtain rfl:e9=0:=HTZ.out (by first|rfl|trivial) hts;have HP:=Hd (show a2r s=(G,0) by rw[HPR.out,iN (by simp),iN (by simpa using hts)]);have HB4:=Hd H.base;have J:=Hd (show Sep w w4 [.box g4 28 [.slice A na ca,.string G.names,.slice B nb cb,.slice C nc cc],.box gR 28 zG] from Sep.join H0 H.base H (Nat.le_refl _) (by intro c hc;rw[List.mem_singleton] at hc;subst hc;exact True.intro));clear hts H H0;obtain⟨g0,g1,g2,g3⟩:=J.cells4 0 rfl;obtain⟨r0,r1,r2,r3⟩:=J.z4 1 rfl;obtain⟨fr0,fr1,fr2,fr3⟩:=J.f4 1 rfl;have HJ:=Hd (J.set4 1 rfl (.slice A na ca) (.string G.names) (.slice B nb cb) (.slice C nc cc))
     go_wp2_with fail
     refine a0p (.int .i64 0) HJ 1 rfl results14 rfl rfl rfl ?_;rw[HP.out];exact⟨_,rfl,HSG w4 gR _ _ _ _ HB4 HGL,HF,HJ.base⟩
    ·have e1:(T9.toList==s.toList)=false:=by rw[eqS];exact decide_eq_false hts
     have HP:=Hd (show a2r s=(gZ,12) by rw[HPR.out,iN (by simp),iP (by simpa using hts)]);replace H0:=Hd (H0.below H.base);clear hts HTZ;obtain⟨r0,r1,r2,r3⟩:=H0.z4 0 rfl;obtain⟨fr0,fr1,fr2,fr3⟩:=H0.f4 0 rfl;by_cases he9:e9=0
     ·have d9:(e9 != 0)=false:=by simpa using he9
      clear he9
      go_wp2_with fail
      refine a0p (.int .i64 12) (H0.set4 0 rfl _ _ _ _) 0 rfl results14 rfl rfl rfl ?_;rw[HP.out];exact a2s (H0.set4 0 rfl _ _ _ _) _
     ·have d9:(e9 != 0)=true:=by simpa using he9
      clear he9
      go_wp2_with fail
      refine a0p (.int .i64 12) (H0.set4 0 rfl _ _ _ _) 0 rfl results14 rfl rfl rfl ?_;rw[HP.out];exact a2s (H0.set4 0 rfl _ _ _ _) _
   ·have de:(es != 0)=true:=by simpa using hez
    have HP:=Hd (show a2r s=(gZ,es) by rw[HPR.out,iP hez]);clear hez;replace H0:=Hd (H0.below H.base);obtain⟨r0,r1,r2,r3⟩:=H0.z4 0 rfl;obtain⟨fr0,fr1,fr2,fr3⟩:=H0.f4 0 rfl
    go_wp2_with fail
    refine a0p (.int .i64 es) (H0.set4 0 rfl _ _ _ _) 0 rfl results14 rfl rfl rfl ?_;rw[HP.out];exact a2s (H0.set4 0 rfl _ _ _ _) _
theorem b4t (w:World)(s:ByteArray)(hs:s.size≤90000):
  Calls prog 30 #[.string s] w fun e w'=>c4t w (a0u s) e w':=by
 refine(b8u w s hs).mono ?_;rintro e w' ⟨v,rfl,h⟩;exact h.words (a4c hs) (by have:=a4g s;omega)
theorem d9d (t:ByteArray):(t.toList==t.toList)=true:=by simp
theorem a8r {A B:Option Addr}{n c m d:Nat}{xs:List Int}(h:Ints w A n xs)(g:Ints w B m xs):
  Calls prog 38 #[.slice A n c,.slice B m d] w fun e w'=>e=.returned (.bool true)∧∃ k,w'=w.drewN k :=
 (a5w h g).mono fun _ _ ⟨he,hw⟩=>⟨he.trans (a0c (by simp)),hw⟩
theorem c3o {nd:a0l}(h:a4r w v nd)(g:a4r w u nd):
  Calls prog 39 #[v,u] w fun e w'=>e=.returned (.bool true)∧Below w.heap.size w w':=by
 obtain⟨A1,na1,ca1,B1,nb1,cb1,C1,nc1,cc1,rfl,hL1⟩:=h;obtain⟨A2,na2,ca2,B2,nb2,cb2,C2,nc2,cc2,rfl,hL2⟩:=g;have h1:=((Sep.nil w).allocBox w.heap.size 49 [.int .i64 nd.op,.slice A1 na1 ca1,.slice B1 nb1 cb1,.slice C1 nc1 cc1,.int .i64 nd.n,.int .i64 nd.how,.string nd.note] rfl).allocBox (w.heap.size+1) 49 [.int .i64 nd.op,.slice A2 na2 ca2,.slice B2 nb2 cb2,.slice C2 nc2 cc2,.int .i64 nd.n,.int .i64 nd.how,.string nd.note] (by simp);have HL1:=Hd hL1;have HL2:=Hd hL2;clear hL1 hL2
 go_enter func39,ntmps39
 go_upto_region 1 with fail
 generalize (w.alloc (.cells #[.int .i64 nd.op,.slice A1 na1 ca1,.slice B1 nb1 cb1,.slice C1 nc1 cc1,.int .i64 nd.n,.int .i64 nd.how,.string nd.note] 49)).alloc (.cells #[.int .i64 nd.op,.slice A2 na2 ca2,.slice B2 nb2 cb2,.slice C2 nc2 cc2,.int .i64 nd.n,.int .i64 nd.how,.string nd.note] 49)=W at *;have H:=Hd h1;clear h1;have ht:=d9d nd.note;obtain⟨n0,n1,n2,n3,n4,n5,n6⟩:=H.cells7 1 rfl;obtain⟨m0,m1,m2,m3,m4,m5,m6⟩:=H.cells7 0 rfl
 go_wp2_with fail
 refine(a8r (HL1.inA.below H.base) (HL2.inA.below H.base)).mono ?_;rintro e0 w0 ⟨rfl,k0,rfl⟩;clear n0 m0 n1 m1 n2 m2 n3 m3 n4 m4 n5 m5 n6 m6;replace H:=Hd (H.drewN k0);obtain⟨v0,hv0⟩:∃ v,World.drewN W k0=v:=⟨_,rfl⟩;rw[hv0] at H ⊢;clear hv0;obtain⟨n0,n1,n2,n3,n4,n5,n6⟩:=H.cells7 1 rfl;obtain⟨m0,m1,m2,m3,m4,m5,m6⟩:=H.cells7 0 rfl
 go_wp2_with fail
 refine(a8r (HL1.inB.below H.base) (HL2.inB.below H.base)).mono ?_;rintro e1 w1 ⟨rfl,k1,rfl⟩;clear n0 m0 n1 m1 n2 m2 n3 m3 n4 m4 n5 m5 n6 m6;replace H:=Hd (H.drewN k1);obtain⟨v1,hv1⟩:∃ v,World.drewN v0 k1=v:=⟨_,rfl⟩;rw[hv1] at H ⊢;clear hv1;obtain⟨n0,n1,n2,n3,n4,n5,n6⟩:=H.cells7 1 rfl;obtain⟨m0,m1,m2,m3,m4,m5,m6⟩:=H.cells7 0 rfl
 go_wp2_with fail
 refine(a8r (HL1.inC.below H.base) (HL2.inC.below H.base)).mono ?_;rintro e2 w2 ⟨rfl,k2,rfl⟩;clear n0 m0 n1 m1 n2 m2 n3 m3 n4 m4 n5 m5 n6 m6;replace H:=Hd (H.drewN k2);obtain⟨v2,hv2⟩:∃ v,World.drewN v1 k2=v:=⟨_,rfl⟩;rw[hv2] at H ⊢;clear hv2;obtain⟨n0,n1,n2,n3,n4,n5,n6⟩:=H.cells7 1 rfl;obtain⟨m0,m1,m2,m3,m4,m5,m6⟩:=H.cells7 0 rfl;go_wp2;go_ret;exact⟨rfl,H.base⟩
theorem b5s (h:a1m w v G)(g:a1m w u G):
  Calls prog 15 #[v,u] w fun e w'=>e=.returned (.bool true)∧Below w.heap.size w w':=by
 obtain⟨A1,na1,ca1,B1,nb1,cb1,C1,nc1,cc1,rfl,hL1⟩:=h;obtain⟨A2,na2,ca2,B2,nb2,cb2,C2,nc2,cc2,rfl,hL2⟩:=g;have h1:=((Sep.nil w).allocBox w.heap.size 28 [.slice A1 na1 ca1,.string G.names,.slice B1 nb1 cb1,.slice C1 nc1 cc1] rfl).allocBox (w.heap.size+1) 28 [.slice A2 na2 ca2,.string G.names,.slice B2 nb2 cb2,.slice C2 nc2 cc2] (by simp);obtain rfl:nb1=nb2:=hL1.inB.1.symm.trans hL2.inB.1;have hnb:=hL1.inB.2.1;have HBL:=Hd hL1.inB.1;have HL1:=Hd hL1;have HL2:=Hd hL2;clear hL1 hL2
 go_enter func15,ntmps15
 go_upto_region 1 with fail
 generalize (w.alloc (.cells #[.slice A1 na1 ca1,.string G.names,.slice B1 nb1 cb1,.slice C1 nc1 cc1] 28)).alloc (.cells #[.slice A2 na2 ca2,.string G.names,.slice B2 nb1 cb2,.slice C2 nc2 cc2] 28)=W at *;have H:=Hd h1;clear h1;have ht:=d9d G.names;have hne:((nb1:Int) != (nb1:Int))=false:=by simp
 obtain⟨n0,n1,n2,n3⟩:=H.cells4 1 rfl;obtain⟨m0,m1,m2,m3⟩:=H.cells4 0 rfl
 go_wp2_with fail
 refine(a8r (HL1.inA.below H.base) (HL2.inA.below H.base)).mono ?_;rintro e0 w0 ⟨rfl,k0,rfl⟩;clear n0 m0 n1 m1 n2 m2 n3 m3;replace H:=Hd (H.drewN k0);obtain⟨v0,hv0⟩:∃ v,World.drewN W k0=v:=⟨_,rfl⟩;rw[hv0] at H ⊢;clear hv0;obtain⟨n0,n1,n2,n3⟩:=H.cells4 1 rfl;obtain⟨m0,m1,m2,m3⟩:=H.cells4 0 rfl
 go_wp2_with fail
 refine(a8r (HL1.inC.below H.base) (HL2.inC.below H.base)).mono ?_;rintro e1 w1 ⟨rfl,k1,rfl⟩;clear n0 m0 n1 m1 n2 m2 n3 m3;replace H:=Hd (H.drewN k1);obtain⟨v1,hv1⟩:∃ v,World.drewN v0 k1=v:=⟨_,rfl⟩;rw[hv1] at H ⊢;clear hv1;obtain⟨n0,n1,n2,n3⟩:=H.cells4 1 rfl;obtain⟨m0,m1,m2,m3⟩:=H.cells4 0 rfl
 go_wp2_with fail
 clear n0 m0 n1 m1 n2 m2 n3 m3
 go_loopw [39] (fun iv wr=>∃ j:Nat,iv=.int .i64 j∧j≤nb1∧Sep w wr [.box (w.heap.size+1) 28 [.slice A2 na2 ca2,.string G.names,.slice B2 nb1 cb2,.slice C2 nc2 cc2],.box w.heap.size 28 [.slice A1 na1 ca1,.string G.names,.slice B1 nb1 cb1,.slice C1 nc1 cc1]]) (fun iv _=>nb1-(intOf iv).toNat)
 case atStart=>exact⟨0,rfl,by omega,H⟩
 case round =>
  clear H;obtain⟨j,rfl,hj,hS⟩:=hrel;have H:=Hd hS;clear hS;by_cases hlt:j<nb1
  ·obtain⟨nd,hnd⟩:∃ nd,G.nodes[j]?=some nd:=gE (by have:=HBL.out;omega);obtain⟨l1,P1,p1,q1,Q1,r1,s1,R1,t1,u1,hl1,hb1,k10,k11,k12,k13,k14,k15,k16,hN1⟩:=HL1.inB.2.2 j nd hnd;subst hl1;obtain⟨l2,P2,p2,q2,Q2,r2,s2,R2,t2,u2,hl2,hb2,k20,k21,k22,k23,k24,k25,k26,hN2⟩:=HL2.inB.2.2 j nd hnd;subst hl2;obtain⟨w9,rfl⟩:∃ w9:World,w9=wr:=⟨_,rfl⟩
   go_upto_region 6 with fail
   have H0:=Hd H.drew;have f0:=H.c 1 2;have f1:=H.c 0 2;obtain⟨f2,f3,f4,f5,f6,f7,f8⟩:=old7 H hb1 k10 k11 k12 k13 k14 k15 k16;obtain⟨f9,f10,f11,f12,f13,f14,f15⟩:=old7 H hb2 k20 k21 k22 k23 k24 k25 k26
   go_region_held3 (fun w'=>w'.cell? ⟨w.heap.size,2,none⟩=some (.slice (some l1) nb1 cb1)∧w'.cell? ⟨w.heap.size+1,2,none⟩=some (.slice (some l2) nb1 cb2)∧w'.cell? (l1.add (j*7))=some (.int .i64 nd.op)∧w'.cell? ⟨(l1.add (j*7)).block,(l1.add (j*7)).off+1,none⟩=some (.slice P1 p1 q1)∧w'.cell? ⟨(l1.add (j*7)).block,(l1.add (j*7)).off+2,none⟩=some (.slice Q1 r1 s1)∧w'.cell? ⟨(l1.add (j*7)).block,(l1.add (j*7)).off+3,none⟩=some (.slice R1 t1 u1)∧w'.cell? ⟨(l1.add (j*7)).block,(l1.add (j*7)).off+4,none⟩=some (.int .i64 nd.n)∧w'.cell? ⟨(l1.add (j*7)).block,(l1.add (j*7)).off+5,none⟩=some (.int .i64 nd.how)∧w'.cell? ⟨(l1.add (j*7)).block,(l1.add (j*7)).off+6,none⟩=some (.string nd.note)∧w'.cell? (l2.add (j*7))=some (.int .i64 nd.op)∧w'.cell? ⟨(l2.add (j*7)).block,(l2.add (j*7)).off+1,none⟩=some (.slice P2 p2 q2)∧w'.cell? ⟨(l2.add (j*7)).block,(l2.add (j*7)).off+2,none⟩=some (.slice Q2 r2 s2)∧w'.cell? ⟨(l2.add (j*7)).block,(l2.add (j*7)).off+3,none⟩=some (.slice R2 t2 u2)∧w'.cell? ⟨(l2.add (j*7)).block,(l2.add (j*7)).off+4,none⟩=some (.int .i64 nd.n)∧w'.cell? ⟨(l2.add (j*7)).block,(l2.add (j*7)).off+5,none⟩=some (.int .i64 nd.how)∧w'.cell? ⟨(l2.add (j*7)).block,(l2.add (j*7)).off+6,none⟩=some (.string nd.note)) (go_keep)
    (first|(go_at_call 39;refine(c3o (show a4r _ _ nd from⟨P1,p1,q1,Q1,r1,s1,R1,t1,u1,rfl,hN1.below H0.base⟩) (show a4r _ _ nd from⟨P2,p2,q2,Q2,r2,s2,R2,t2,u2,rfl,hN2.below H0.base⟩)).mono ?_;rintro e7 w7 ⟨rfl,hb7⟩;have H7:=Hd (H0.below hb7);have e0:=H7.c 1 2;have e1:=H7.c 0 2;have e2:=H7.oC k10 (a1y hb1);have e3:=H7.oC k11 (a1y hb1);have e4:=H7.oC k12 (a1y hb1);have e5:=H7.oC k13 (a1y hb1);have e6:=H7.oC k14 (a1y hb1);have e7:=H7.oC k15 (a1y hb1);have e8:=H7.oC k16 (a1y hb1);have e9:=H7.oC k20 (a1y hb2);have e10:=H7.oC k21 (a1y hb2);have e11:=H7.oC k22 (a1y hb2);have e12:=H7.oC k23 (a1y hb2);have e13:=H7.oC k24 (a1y hb2);have e14:=H7.oC k25 (a1y hb2);have e15:=H7.oC k26 (a1y hb2);clear hb7))
   go_wp2;go_roundw
   case rel=>exact⟨j+1,by go_num,by omega,H7⟩
   case measure=>simp[intOf];omega
  ·obtain rfl:j=nb1:=by omega
   go_wp2;go_ret;exact⟨rfl,H.base⟩
end Go.Proofs.YtdcmanhgekjhgaaGreatDoor
