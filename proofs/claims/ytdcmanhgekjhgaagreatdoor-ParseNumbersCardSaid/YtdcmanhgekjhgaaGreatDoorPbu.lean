import Derived.Deep.CutBlock
import Derived.Test.YtdcmanhgekjhgaaGreatDoorPbt
set_option maxRecDepth 100000
set_option maxHeartbeats 12800000
namespace Go.Proofs.YtdcmanhgekjhgaaGreatDoor
open Go.RowKit Go.Proofs.Tryz
variable {A B C D:Option Addr} {G:a1d} {K:Act→World→Prop} {N:List a0l} {Q:Exit→Act→World→Prop} {a:Act} {b:a0e} {c ca cb cc d g k m na nb nc q:Nat} {l:List a0e} {n:Int} {nd:a0l} {o:Oper} {ops:Array Oper} {t:TypeId} {v:Value} {vs:List Value} {w w' w0:World} {xs ys:List Int}
structure c0b where
 what:Int
 node:Int
 at_:Int
 n:Int
 text:ByteArray
structure d0d (t:c0b):Prop where
 what:Fits t.what
 node:Fits t.node
 at_:Fits t.at_
 n:Fits t.n
 text:t.text.size≤140737488351232
def b5a (t:c0b):Value:=.agg #[.int .i64 t.what,.int .i64 t.node,.int .i64 t.at_,.int .i64 t.n,.string t.text]
theorem c7j {a:Int}(h:a<0): -1048577<a.tmod 1048577∧a.tmod 1048577≤0:=by
 have e:=Int.tmod_eq_emod (a:=a) (b:=1048577);by_cases hd:0≤a∨(1048577:Int) ∣ a
 ·rw[iP hd] at e;omega
 ·rw[iN hd] at e;simp at e;omega
theorem b1b (h:FewG q G):∀(j:Nat) (nd:a0l),G.nodes[j]?=some nd→Few (q+1) nd:=fun j nd hj=>by
 have:=h.each j nd hj;exact⟨by have:=this.1;omega,by have:=this.2.1;omega,by have:=this.2.2;omega⟩
theorem e4s (h:∀(j:Nat) (nd:a0l),N[j]?=some nd→Few q nd)(hn:Few q nd):∀(j:Nat) (x:a0l),(N.set k nd)[j]?=some x→Few q x:=fun j x hj=>by
 by_cases e:j=k
 ·subst e
  have hl:j<N.length:=by
   have:=(lL hj);simpa using this
  rw[List.getElem?_set_self hl] at hj;injection hj with hj;subst hj;exact hn
 ·rw[List.getElem?_set_ne (fun h=>e h.symm)] at hj;exact h j x hj
theorem e0f (h:∀(j:Nat) (nd:a0l),N[j]?=some nd→Few q nd)(hn:Few q nd):∀(j:Nat) (x:a0l),(N++[nd])[j]?=some x→Few q x:=fun j x hj=>by
 rcases List.mem_append.1 (mG hj) with hm|hm
 ·obtain⟨i,hi,e⟩:=List.getElem_of_mem hm;exact h i x (by rw[List.getElem?_eq_getElem hi,e])
 ·rw[List.mem_singleton.1 hm];exact hn
def w20 (a:Int):Nat:=if 0≤a then(if a≤1048576 then a.toNat else(a % 1048577).toNat) else if a.tmod 1048577<0 then(a.tmod 1048577+1048577).toNat else(a.tmod 1048577).toNat
theorem e7a (a:Int):w20 a≤1048576:=by
 unfold w20
 split
 ·split <;> omega
 ·have:=c7j (a:=a) (by omega)
  split <;> omega
def atF (x:Int) (k:Nat):Nat:=w20 x % max k 1
theorem d0j (x:Int)(h:0<k):atF x k<k:=by
 unfold atF;rw[show max k 1=k by omega];exact Nat.mod_lt _ h
theorem c7u (a:Int)(w:World)(hf:Fits a):
  Calls prog 13 #[.int .i64 a,.int .i64 0,.int .i64 1048576] w fun e w'=>e=.returned (.int .i64 (w20 a))∧w=w':=by
 obtain⟨h1,h2⟩:=hf;by_cases h0:0≤a
 ·obtain⟨n,rfl⟩:=eZ h0;by_cases hb:n≤1048576
  ·have HV:=Hd (show w20 (n:Int)=n by rw[w20,iP h0,iP (by omega)];rfl)
   go_enter func13,ntmps13
   go_wp2;go_ret;exact⟨a3e (by rw[HV.out]),rfl⟩
  ·have HV:=Hd (show(w20 (n:Int):Int)=(n:Int) % 1048577 by rw[w20,iP h0,iN (by omega)];omega)
   go_enter func13,ntmps13
   go_wp2;go_ret;exact⟨a3e (by rw[HV.out]),rfl⟩
 ·have hlt:a<0:=by omega
  obtain⟨hm1,hm2⟩:=c7j hlt;by_cases ht:a.tmod 1048577<0
  ·have HV:=Hd (show(w20 a:Int)=a.tmod 1048577+1048577 by rw[w20,iN h0,iP ht];omega)
   go_enter func13,ntmps13
   go_wp2;go_ret;exact⟨a3e (by rw[HV.out];omega),rfl⟩
  ·have HV:=Hd (show(w20 a:Int)=a.tmod 1048577 by rw[w20,iN h0,iN ht];omega)
   go_enter func13,ntmps13
   go_wp2;go_ret;exact⟨a3e (by rw[HV.out]),rfl⟩
theorem d0k (x:Int)(k:Nat)(hx:Fits x)(hk:k≤1000000):
  Calls prog 60 #[.int .i64 x,.int .i64 k] w fun e w'=>e=.returned (.int .i64 (atF x k))∧w=w':=by
 have C:=c7u x w hx;obtain⟨r,hr⟩:∃ r,w20 x=r:=⟨_,rfl⟩;have hrl:=e7a x;unfold atF;rw[hr] at C hrl ⊢;clear hr;by_cases h0:0<k
 ·have d0:¬ k=0:=by omega
  have d1:max k 1=k:=by omega
  go_enter func60,ntmps60
  go_wp2_with fail
  refine C.mono ?_;rintro e1 w1 ⟨rfl,rfl⟩;clear C
  go_wp2_with fail
  go_ret;exact⟨a3e (by first|(rw[d1];omega)|(have d2:max (k:Int) 1=k:=(by omega);rw[d1,d2];omega)),rfl⟩
 ·obtain rfl:k=0:=by omega
  go_enter func60,ntmps60
  go_wp2_with fail
  refine C.mono ?_;rintro e1 w1 ⟨rfl,rfl⟩;clear C
  go_wp2_with fail
  go_ret;exact⟨a3e (by first|(rw[show max 0 1=1 from rfl,Nat.mod_one];rfl)|(rw[show max (0:Int) 1=1 from rfl,show max 0 1=1 from rfl,Nat.mod_one];omega)),rfl⟩
theorem b5b {n:Nat}{t:c0b}(hI:Ints w A n xs)(ht:d0d t)(hn:n≤1000):
  Calls prog 61 #[.slice A n c,b5a t] w fun e w'=>(∃ v m ys,e=.returned v∧OwnS w' w.heap.size 3 v m ys∧m≤n+1)∧Below w.heap.size w w':=by
 have h1:=((Sep.nil w).old hI).allocBox w.heap.size 70 [.int .i64 t.what,.int .i64 t.node,.int .i64 t.at_,.int .i64 t.n,.string t.text] rfl;have CA:=fun w:World=>d0k (w:=w) t.at_ n ht.at_ (by omega)
 have hlen:=hI.len;have hfn:=ht.n;have hat:=fun h:0<n=>d0j t.at_ h
 obtain⟨r,hr⟩:∃ r,atF t.at_ n=r:=⟨_,rfl⟩;rw[hr] at hat CA;clear hr;have HAT:=Hd hat;have HLN:=Hd hlen;have HFN:=Hd hfn;have HCA:=Hd CA;clear hat hlen hfn CA;unfold b5a
 go_enter func61,ntmps61
 go_upto_region 1 with fail
 generalize w.alloc (.cells #[.int .i64 t.what,.int .i64 t.node,.int .i64 t.at_,.int .i64 t.n,.string t.text] 70)=W at *;have H:=Hd h1;clear h1;by_cases h0:n=0
 ·have d0:((n:Int)==0)=true:=by simpa using h0
  have t3:=H.c 0 3;have hl:=H.lit 3 #[.int .i64 t.n] [t.n] 1 W.heap.size rfl rfl (by simp[a1e];exact HFN);have HL:=Hd hl;clear hl h0;go_wp2;go_ret;exact⟨⟨_,1,[t.n],rfl,HL.ownS 0 rfl,by omega⟩,HL.base⟩
 ·have d0:((n:Int)==0)=false:=by simpa using h0
  have he:=Hd (H.empty 3)
  go_wp2_with (at_builtin;refine a0g rfl _ _ 25 3 rfl underlying25 Tryz.infoInt he.out 0 rfl rfl A n c xs rfl (he.out.oldInts 2 rfl) ?c1 ?_)
  case c1=>omega
  intro v2 w2 h2;have hnp:0<n:=by omega
  obtain⟨g,c2,hv,hO⟩:=(h2.ownS 0 rfl).own hnp;subst hv;have HRL:=Hd (HAT hnp);obtain⟨y,hy⟩:∃ y,xs[r]?=some y:=gE (by have:=HRL.out;have:=HLN.out;omega);have t2:=h2.drew.c 1 2;have t3:=h2.drew.c 1 3;have u2:=h2.c 1 2;have u3:=h2.c 1 3;have cx:=hO.cell hy;have fx:=hO.frozen r;have cx2:w2.drew.cell? ⟨g,r,none⟩=some (.int .i64 y):=hO.cell hy;have fx2:w2.drew.frozen? ⟨g,r,none⟩=false:=hO.frozen r;have hrl:=HRL.out;have HS:=Hd (h2.drew.store 0 r HFN rfl);have H2:=Hd h2;clear hy hO h2 he
  go_upto_region 4 with fail
  refine wp_region_still_tail 9 (by kernel_rfl) (by kernel_rfl) ?_;simp only[List.take_succ_cons,List.take_zero,List.drop_succ_cons,List.drop_zero]
  repeat still_step
  still_call ((HCA _).mono fun _ _ ⟨h,g⟩=>⟨h,g.symm⟩)
  repeat still_step
  refine wpStill_nil ?_;change wpList _ _ _ _ _ w2.drew;go_wp2;go_ret;exact⟨⟨_,n,_,rfl,HS.ownS 0 rfl,by omega⟩,HS.base⟩
theorem apA (i s y:Nat){E:Prop}(H:Hid (Sep w0 w l))(hI:Ints w A m ys)(hn:m≤17592186044000)
  (h:∀ v' w', Hid (Sep w0 w' (l.set i (.own 3 v' m ys)))→K (a.put o.dst v') w')
  (hgd:o.guard=none:=by rfl)(ho:o.op=.call { callee:=.builtin .append,args:=#[.tmp s,.tmp y],argTypes:=#[25,25] }:=by rfl)
  (hi:l[i]?=some (.own 3 v 0 []):=by rfl)(hs:a.eval (.tmp s)=v:=by rfl)(hy:a.eval (.tmp y)=.slice A m c:=by rfl):
  if Region.wanted o (yielded ops a.tmps)=true then Oper.wp prog o a w K Q else E :=
 a0k hgd (.tmp s) (.tmp y) 25 3 ho underlying25 Tryz.infoInt H.out i hi hs A m c ys hy hI (by omega) fun v' w' h9=>h v' w' (Hd (by rw[Nat.zero_add,List.nil_append] at h9;exact h9))
theorem apB (i j s y:Nat){E:Prop}{n:Nat}(H:Hid (Sep w0 w l))
  (h:∀ A' c' w', n+1≤c' → Hid (Sep w0 w' (l.set i (.own 3 (.slice A' (n+1) c') (n+1) (xs++ys))))→K (a.put o.dst (.slice A' (n+1) c')) w')
  (hgd:o.guard=none:=by rfl)(ho:o.op=.call { callee:=.builtin .append,args:=#[.tmp s,.tmp y],argTypes:=#[25,25] }:=by rfl)
  (hi:l[i]?=some (.own 3 v n xs):=by rfl)(hj:l[j]?=some (.own 3 (.slice A 1 c) 1 ys):=by rfl)(hs:a.eval (.tmp s)=v:=by rfl)(hy:a.eval (.tmp y)=.slice A 1 c:=by rfl)(hn:n+1≤17592186044000:=by omega):
  if Region.wanted o (yielded ops a.tmps)=true then Oper.wp prog o a w K Q else E :=
 a0k hgd (.tmp s) (.tmp y) 25 3 ho underlying25 Tryz.infoInt H.out i hi hs A 1 c ys hy (H.ownInts j hj).2.2 hn fun v' w' h9=>by
  obtain⟨A', c', rfl,hc,_,_⟩:=(h9.ownS i (List.getElem?_set_self (lL hi))).form;exact h A' c' w' hc (Hd h9)
theorem oE (H:Hid (Sep w0 w l)):Hid (Sep w0 (w.alloc (.cells #[] 3)).drew (.own 3 (.slice (some ⟨w.heap.size,0,none⟩) 0 0) 0 []::l)):=Hd (H.emptyAt 3 _ rfl).drew
theorem oL (H:Hid (Sep w0 w l))(hn:Fits n):Hid (Sep w0 (w.alloc (.cells #[.int .i64 n] 3)).drew (.own 3 (.slice (some ⟨w.heap.size,0,none⟩) 1 1) 1 [n]::l)):=Hd (H.lit 3 #[.int .i64 n] [n] 1 _ rfl rfl (by simp[a1e];exact hn)).drew
theorem oQ (H:Hid (Sep w0 w l))(hn:Fits n):Hid (Sep w0 (w.alloc (.cells #[.int .i64 n] 3)) (.own 3 (.slice (some ⟨w.heap.size,0,none⟩) 1 1) 1 [n]::l)):=Hd (H.lit 3 #[.int .i64 n] [n] 1 _ rfl rfl (by simp[a1e];exact hn))
theorem oEL (H:Hid (Sep w0 w l))(hn:Fits n):Hid (Sep w0 ((w.alloc (.cells #[] 3)).alloc (.cells #[.int .i64 n] 3)).drew (.own 3 (.slice (some ⟨w.heap.size+1,0,none⟩) 1 1) 1 [n]::.own 3 (.slice (some ⟨w.heap.size,0,none⟩) 0 0) 0 []::l)):=Hd ((H.emptyAt 3 _ rfl).lit 3 #[.int .i64 n] [n] 1 (w.heap.size+1) (by simp) rfl (by simp[a1e];exact hn)).drew
theorem oLE (H:Hid (Sep w0 w l))(hn:Fits n):Hid (Sep w0 ((w.alloc (.cells #[.int .i64 n] 3)).alloc (.cells #[] 3)).drew (.own 3 (.slice (some ⟨w.heap.size+1,0,none⟩) 0 0) 0 []::.own 3 (.slice (some ⟨w.heap.size,0,none⟩) 1 1) 1 [n]::l)):=Hd ((H.lit 3 #[.int .i64 n] [n] 1 _ rfl rfl (by simp[a1e];exact hn)).emptyAt 3 (w.heap.size+1) (by simp)).drew
theorem oT {c:a0e}(H:Hid (Sep w0 w (b::c::l)))(i j:Nat)(x:Value)(hi:l[i]?=some (.box g t vs):=by rfl):w.frozen? ⟨g,j,none⟩=false∧Hid (Sep w0 (w.setCell ⟨g,j,none⟩ x) (c::l.set i (.box g t (vs.set j x)))) :=
 ⟨H.frozenBox (i+2) j hi,Hd (H.setBox (i+2) j x hi).tail_⟩
theorem oU {c:a0e}(H:Hid (Sep w0 w (b::c::l)))(i j:Nat)(x:Value)(hi:l[i]?=some (.box g t vs):=by rfl):w.frozen? ⟨g,j,none⟩=false∧Hid (Sep w0 (w.setCell ⟨g,j,none⟩ x) (b::l.set i (.box g t (vs.set j x)))) :=
 ⟨H.frozenBox (i+2) j hi,Hd (H.setBox (i+2) j x hi).less1⟩
theorem d0p (h:Few q nd)(o n k:Int)(x:ByteArray):Few (q+1) ⟨o,nd.ins,nd.shape,nd.a,n,k,x⟩:=⟨Nat.le_succ_of_le h.1,Nat.le_succ_of_le h.2.1,Nat.le_succ_of_le h.2.2⟩
theorem a9l.a_ (h:a9l w nd A na ca B nb cb C nc cc)(hb:Below w.heap.size w w')(h1:m≤d)(h2:Ints w' D m xs):a9l w' ⟨nd.op,nd.ins,nd.shape,xs,nd.n,nd.how,nd.note⟩ A na ca B nb cb D m d:=⟨h.ia,h.ib,h1,h.inA.below hb,h.inB.below hb,h2,h.op,h.n,h.how,h.note⟩
theorem a9l.i_ (h:a9l w nd A na ca B nb cb C nc cc)(hb:Below w.heap.size w w')(h1:m≤d)(h2:Ints w' D m xs):a9l w' ⟨nd.op,xs,nd.shape,nd.a,nd.n,nd.how,nd.note⟩ D m d B nb cb C nc cc:=⟨h1,h.ib,h.ic,h2,h.inB.below hb,h.inC.below hb,h.op,h.n,h.how,h.note⟩
theorem e5c (h:a1m w v G)(hs:FewG q G)(hq:q≤700){t:c0b}(ht:d0d t):
  Calls prog 34 #[v,b5a t] w fun e w'=>(∃ v', e=.returned v'∧∃ G', a1m w' v' G'∧FewG (q+1) G')∧Below w.heap.size w w':=by
 obtain⟨A,na,ca,B,nb,cb,C,nc,cc,rfl,hL⟩:=h;obtain⟨vs,hK,hC⟩:=e6p hL.inB;have hnb:=hL.inB.1;have hnb9:=hL.inB.2.1;have hnal:=hL.inA.len;have hncl:=hL.inC.len;have HL:=Hd hL;have HK:=Hd hK;have HC:=Hd hC;have HNB:=Hd hnb;have HSM:=Hd hs;have HT:=Hd ht;have hm9:nb≤q:=by have:=hs.nodes;omega
 have hsz9:na≤q:=by have:=hs.sizes;omega
 have hou9:nc≤q:=by have:=hs.outs;omega
 have HNAL:=Hd hnal;have HNCL:=Hd hncl;clear hL hK hC hs ht hnb hnal hncl;have h1:=(((((Sep.nil w).old HL.inA).old HL.inC).allocBox w.heap.size 28 [.slice A na ca,.string G.names,.slice B nb cb,.slice C nc cc] rfl).allocBox (w.heap.size+1) 70 [.int .i64 t.what,.int .i64 t.node,.int .i64 t.at_,.int .i64 t.n,.string t.text] (by simp)).allocBox (w.heap.size+1+1) 28 zG (by simp);unfold b5a
 go_enter func34,ntmps34
 go_upto_region 1 with fail
 generalize ((w.alloc (.cells #[.slice A na ca,.string G.names,.slice B nb cb,.slice C nc cc] 28)).alloc (.cells #[.int .i64 t.what,.int .i64 t.node,.int .i64 t.at_,.int .i64 t.n,.string t.text] 70)).alloc (.cells zH 28)=W at *;have H:=Hd h1;clear h1;have HE:=Hd H.emptyRow;obtain⟨g0,g1,g2,g3⟩:=HE.cells4 3 rfl;obtain⟨fg0,fg1,fg2,fg3⟩:=HE.f4 3 rfl
 go_wp2_with (at_builtin;refine b4c rfl _ _ 26 rfl underlying26 HE.out 0 rfl rfl rfl (HC.out.below HE.out.base) (by omega) ?_)
 intro v2 w2 h2;clear g0 g1 g2 g3 fg0 fg1 fg2 fg3;have h3:Sep w w2 [.row 49 7 v2 nb vs,.box (w.heap.size+1+1) 28 zG,.box (w.heap.size+1) 70 [.int .i64 t.what,.int .i64 t.node,.int .i64 t.at_,.int .i64 t.n,.string t.text],.box w.heap.size 28 [.slice A na ca,.string G.names,.slice B nb cb,.slice C nc cc],.ints C nc G.outs,.ints A na G.sizes]:=h2;obtain⟨An,cn,hv,hcn,_⟩:=b3q 0 h3 rfl (HK.below h3.base) HNB hnb9;subst hv;have H2:=Hd h3;clear h2 h3;obtain⟨g0,g1,g2,g3⟩:=H2.cells4 3 rfl;obtain⟨fg0,fg1,fg2,fg3⟩:=H2.f4 3 rfl;have h4:=H2.setBox 3 2 (.slice An nb cn) rfl
 go_upto_region 2 with fail
 generalize w2.setCell ⟨w.heap.size,2,none⟩ (.slice An nb cn)=w3 at *;replace H:=Hd (show Sep w w3 [.row 49 7 (.slice An nb cn) nb vs,.box (w.heap.size+1+1) 28 zG,.box (w.heap.size+1) 70 [.int .i64 t.what,.int .i64 t.node,.int .i64 t.at_,.int .i64 t.n,.string t.text],.box w.heap.size 28 [.slice A na ca,.string G.names,.slice An nb cn,.slice C nc cc],.ints C nc G.outs,.ints A na G.sizes] from h4);clear h4 g0 g1 g2 g3 fg0 fg1 fg2 fg3 H2 HE;obtain⟨t0,t1,t2,t3,t4⟩:=H.z5 2 rfl
 go_upto_if 17 with fail
 go_cut [5] (fun q wx=>∃ tx:ByteArray,q=.string tx∧tx.size≤12∧w3=wx)
 case first =>
  by_cases h12:t.text.size≤12
  ·have d12:decide (12<t.text.size)=false:=by simpa using h12
   go_wp2_with fail
   go_meet;exact⟨_,rfl,h12,rfl⟩
  ·have d12:decide (12<t.text.size)=true:=by simpa using h12
   go_wp2_with fail
   go_meet;exact⟨_,rfl,by rw[ByteArray.size_extract];omega,rfl⟩
 case rest =>
  obtain⟨tx,rfl,htx,rfl⟩:=hcut;obtain⟨g0,g1,g2,g3⟩:=H.cells4 3 rfl;have hfw:=HT.what;have hfn:=HT.node
  go_upto_region 5 with fail
  go_cut [29] (fun bv wx=>∃ b9:Bool,bv=.bool b9∧(b9=false→0<nb)∧w3=wx)
  case first =>
   by_cases h0:nb=0
   ·have d0:((nb:Int)==0)=true:=by simpa using h0
    go_wp2_with fail
    go_meet;exact⟨true,rfl,by simp,rfl⟩
   ·have d0:((nb:Int)==0)=false:=by simpa using h0
    by_cases h3:t.what.tmod 4=3
    ·have d3:(t.what.tmod 4==3)=true:=by simpa using h3
     go_wp2_with fail
     go_meet;exact⟨true,rfl,by simp,rfl⟩
    ·have d3:(t.what.tmod 4==3)=false:=by simpa using h3
     go_wp2_with fail
     go_meet;exact⟨false,rfl,fun _=>by omega,rfl⟩
  case rest =>
   obtain⟨b9,rfl,hb9,rfl⟩:=hcut
   cases b9
   case true =>
    clear hb9
    go_wp2_with fail
    have CA:Calls prog 60 #[.int .i64 (wrap64 (t.what.tdiv 4)),.int .i64 5] w3 fun e w'=>e=.returned (.int .i64 (atF (wrap64 (t.what.tdiv 4)) 5))∧w3=w':=d0k (w:=w3) _ 5 (a2h _) (by omega)
    have hr:=d0j (wrap64 (t.what.tdiv 4)) (show 0<5 by omega);obtain⟨r,hrr⟩:∃ r,atF (wrap64 (t.what.tdiv 4)) 5=r:=⟨_,rfl⟩;rw[hrr] at CA hr;clear hrr;refine CA.mono ?_;rintro e4 w4 ⟨rfl,rfl⟩;clear CA
    go_upto_block 0 with fail
    go_cut [] (fun wx=>∃(X9:a0e) (A1:Option Addr) (n1 c1:Nat) (S1:List Int) (tx1:ByteArray) (AN:Option Addr) (nN cN:Nat) (vs1:List Value) (N1:List a0l) (C1:Option Addr) (nc1 cc1:Nat) (O1:List Int),Sep w wx (X9::[.row 49 7 (.slice AN nN cN) nN vs1,.box (w.heap.size+1+1) 28 zG,.box (w.heap.size+1) 70 [.int .i64 t.what,.int .i64 t.node,.int .i64 t.at_,.int .i64 t.n,.string t.text],.box w.heap.size 28 [.slice A1 n1 c1,.string tx1,.slice AN nN cN,.slice C1 nc1 cc1],.ints C nc G.outs,.ints A na G.sizes])∧n1≤c1∧nc1≤cc1∧N1.length=nN∧nN≤q+1∧tx1.size≤17592186044000∧FewG (q+1) ⟨S1,tx1,N1,O1⟩∧NodK w vs1 N1∧∀(w9:World) (L9:List a0e),Sep w w9 (X9::L9)→Ints w9 A1 n1 S1∧Ints w9 C1 nc1 O1)
    case first =>
     rcases(show r=0∨r=1∨r=2∨r=3∨r=4 by omega) with rfl|rfl|rfl|rfl|rfl
     ·go_simp
      have HZ:=Hd (show FewG (q+1) ⟨G.sizes++[t.n],G.names,G.nodes,G.outs⟩ from⟨by show List.length (G.nodes)≤q+1;have:=HNB.out;omega,by show List.length (G.sizes++[t.n])≤q+1;rw[List.length_append,List.length_singleton];have:=HNAL.out;omega,by show List.length (G.outs)≤q+1;have:=HNCL.out;omega,fun j x hj=>b1b HSM j x hj⟩)
      go_upto_region 9 with fail
      have HD:=Hd H.drew;have ct:=HD.c 2 3;have hfn3:=HT.n;refine wp_region_held_drew (S:=(fun w'=>w'.cell? ⟨w.heap.size+1,3,none⟩=some (.int .i64 t.n))) (by kernel_rfl) ?_ (fun hq_=>?_)
      ·exact ct
      refine zV 1 hq_ ?_;refine zV 4 hq_ ?_;refine zV 5 hq_ ?_;refine rD [0,2,6] (aC (fun K hK=>?_) (aC (fun K hK=>?_) (aC (fun K hK=>?_) AllReadyH.nil)))
      ·as_aux_lemma =>
        (have K0:=oE H;have q0:=K0.c 3 3)
        go_simp;(try go_wp2_with fail);refine zX hK fun hq_=>?_;refine rB2 2 6 (fun K hK=>?_) fun K hK=>?_
        ·as_aux_lemma =>
          (have hcz:=K0.c 4 0)
          go_simp;(try go_wp2_with fail);refine zX hK fun hq_=>?_;refine rB2 3 6 (fun K hK=>?_) fun K hK=>?_
          ·(refine apA 0 37 39 K0 (K0.oldInts 6 rfl) (by omega) fun vv x2 K2=>?_;have q2:=K2.c 3 3)
           refine zX hK fun hq_=>?_;refine e1 6 fun K hK=>?_;(have K3:=oQ K2 hfn3;have q3:=K3.c 4 3);go_simp;(try go_wp2_with fail);refine zX hK fun hq_=>?_;refine e1 7 fun K hK=>?_;(refine apB 1 0 40 43 K3 fun Ao2 co2 x4 hco2 K4=>?_;have q4:=K4.c 4 3);refine zX hK fun hq_=>?_;refine zV 8 hq_ ?_;refine e1 9 fun K hK=>?_;(have cz:=K4.c 5 0;obtain⟨fz,HS⟩:=oT K4 3 0 (.slice Ao2 (na+1) co2);have qz:=HS.c 3 3);go_simp;(try go_wp2_with fail);refine zX hK fun hq_=>?_;refine dN ?_
           go_wp2_with fail
           go_meet;exact⟨_,_,_,_,_,_,_,_,_,_,_,_,_,_,_,HS,hco2,HL.ic,HNB,by omega,HL.names,HZ,HK,fun w9 L9 h9=>⟨(h9.ownInts 0 rfl).2.2,HL.inC.below h9.base⟩⟩
          ·(have K2:=oEL H hfn3;have q2:=K2.c 4 3)
           go_simp;(try go_wp2_with fail);refine zX hK fun hq_=>?_;refine e1 3 fun K hK=>?_;(refine apA 1 37 39 K2 (K2.oldInts 7 rfl) (by omega) fun vv x3 K3=>?_;have q3:=K3.c 4 3);refine zX hK fun hq_=>?_;refine e1 7 fun K hK=>?_;(refine apB 1 0 40 43 K3 fun Ao2 co2 x4 hco2 K4=>?_;have q4:=K4.c 4 3);refine zX hK fun hq_=>?_;refine zV 8 hq_ ?_;refine e1 9 fun K hK=>?_;(have cz:=K4.c 5 0;obtain⟨fz,HS⟩:=oT K4 3 0 (.slice Ao2 (na+1) co2);have qz:=HS.c 3 3);go_simp;(try go_wp2_with fail);refine zX hK fun hq_=>?_;refine dN ?_
           go_wp2_with fail
           go_meet;exact⟨_,_,_,_,_,_,_,_,_,_,_,_,_,_,_,HS,hco2,HL.ic,HNB,by omega,HL.names,HZ,HK,fun w9 L9 h9=>⟨(h9.ownInts 0 rfl).2.2,HL.inC.below h9.base⟩⟩
        ·as_aux_lemma =>
          (have K1:=oEL H hfn3;have q1:=K1.c 4 3)
          go_simp;(try go_wp2_with fail);refine zX hK fun hq_=>?_;refine e1 2 fun K hK=>?_;(have hcz:=K1.c 5 0);go_simp;(try go_wp2_with fail);refine zX hK fun hq_=>?_;refine e1 3 fun K hK=>?_;(refine apA 1 37 39 K1 (K1.oldInts 7 rfl) (by omega) fun vv x3 K3=>?_;have q3:=K3.c 4 3);refine zX hK fun hq_=>?_;refine e1 7 fun K hK=>?_;(refine apB 1 0 40 43 K3 fun Ao2 co2 x4 hco2 K4=>?_;have q4:=K4.c 4 3);refine zX hK fun hq_=>?_;refine zV 8 hq_ ?_;refine e1 9 fun K hK=>?_;(have cz:=K4.c 5 0;obtain⟨fz,HS⟩:=oT K4 3 0 (.slice Ao2 (na+1) co2);have qz:=HS.c 3 3);go_simp;(try go_wp2_with fail);refine zX hK fun hq_=>?_;refine dN ?_
          go_wp2_with fail
          go_meet;exact⟨_,_,_,_,_,_,_,_,_,_,_,_,_,_,_,HS,hco2,HL.ic,HNB,by omega,HL.names,HZ,HK,fun w9 L9 h9=>⟨(h9.ownInts 0 rfl).2.2,HL.inC.below h9.base⟩⟩
      ·as_aux_lemma =>
        (have hcz:=HD.c 3 0)
        go_simp;(try go_wp2_with fail);refine zX hK fun hq_=>?_;refine rB2 0 6 (fun K hK=>?_) fun K hK=>?_
        ·as_aux_lemma =>
          (have K1:=oE H;have q1:=K1.c 3 3)
          go_simp;(try go_wp2_with fail);refine zX hK fun hq_=>?_;refine rB2 3 6 (fun K hK=>?_) fun K hK=>?_
          ·(refine apA 0 37 39 K1 (K1.oldInts 6 rfl) (by omega) fun vv x2 K2=>?_;have q2:=K2.c 3 3)
           refine zX hK fun hq_=>?_;refine e1 6 fun K hK=>?_;(have K3:=oQ K2 hfn3;have q3:=K3.c 4 3);go_simp;(try go_wp2_with fail);refine zX hK fun hq_=>?_;refine e1 7 fun K hK=>?_;(refine apB 1 0 40 43 K3 fun Ao2 co2 x4 hco2 K4=>?_;have q4:=K4.c 4 3);refine zX hK fun hq_=>?_;refine zV 8 hq_ ?_;refine e1 9 fun K hK=>?_;(have cz:=K4.c 5 0;obtain⟨fz,HS⟩:=oT K4 3 0 (.slice Ao2 (na+1) co2);have qz:=HS.c 3 3);go_simp;(try go_wp2_with fail);refine zX hK fun hq_=>?_;refine dN ?_
           go_wp2_with fail
           go_meet;exact⟨_,_,_,_,_,_,_,_,_,_,_,_,_,_,_,HS,hco2,HL.ic,HNB,by omega,HL.names,HZ,HK,fun w9 L9 h9=>⟨(h9.ownInts 0 rfl).2.2,HL.inC.below h9.base⟩⟩
          ·(have K2:=oEL H hfn3;have q2:=K2.c 4 3)
           go_simp;(try go_wp2_with fail);refine zX hK fun hq_=>?_;refine e1 3 fun K hK=>?_;(refine apA 1 37 39 K2 (K2.oldInts 7 rfl) (by omega) fun vv x3 K3=>?_;have q3:=K3.c 4 3);refine zX hK fun hq_=>?_;refine e1 7 fun K hK=>?_;(refine apB 1 0 40 43 K3 fun Ao2 co2 x4 hco2 K4=>?_;have q4:=K4.c 4 3);refine zX hK fun hq_=>?_;refine zV 8 hq_ ?_;refine e1 9 fun K hK=>?_;(have cz:=K4.c 5 0;obtain⟨fz,HS⟩:=oT K4 3 0 (.slice Ao2 (na+1) co2);have qz:=HS.c 3 3);go_simp;(try go_wp2_with fail);refine zX hK fun hq_=>?_;refine dN ?_
           go_wp2_with fail
           go_meet;exact⟨_,_,_,_,_,_,_,_,_,_,_,_,_,_,_,HS,hco2,HL.ic,HNB,by omega,HL.names,HZ,HK,fun w9 L9 h9=>⟨(h9.ownInts 0 rfl).2.2,HL.inC.below h9.base⟩⟩
        ·as_aux_lemma =>
          (have K1:=oL H hfn3;have q1:=K1.c 3 3)
          go_simp;(try go_wp2_with fail);refine zX hK fun hq_=>?_;refine e1 0 fun K hK=>?_;(have K2:=oLE H hfn3;have q2:=K2.c 4 3);go_simp;(try go_wp2_with fail);refine zX hK fun hq_=>?_;refine e1 3 fun K hK=>?_;(refine apA 0 37 39 K2 (K2.oldInts 7 rfl) (by omega) fun vv x3 K3=>?_;have q3:=K3.c 4 3);refine zX hK fun hq_=>?_;refine e1 7 fun K hK=>?_;(refine apB 0 1 40 43 K3 fun Ao2 co2 x4 hco2 K4=>?_;have q4:=K4.c 4 3);refine zX hK fun hq_=>?_;refine zV 8 hq_ ?_;refine e1 9 fun K hK=>?_;(have cz:=K4.c 5 0;obtain⟨fz,HS⟩:=oU K4 3 0 (.slice Ao2 (na+1) co2);have qz:=HS.c 3 3);go_simp;(try go_wp2_with fail);refine zX hK fun hq_=>?_;refine dN ?_
          go_wp2_with fail
          go_meet;exact⟨_,_,_,_,_,_,_,_,_,_,_,_,_,_,_,HS,hco2,HL.ic,HNB,by omega,HL.names,HZ,HK,fun w9 L9 h9=>⟨(h9.ownInts 0 rfl).2.2,HL.inC.below h9.base⟩⟩
      ·as_aux_lemma =>
        (have K0:=oL H hfn3;have q0:=K0.c 3 3)
        go_simp;(try go_wp2_with fail);refine zX hK fun hq_=>?_;refine rB2 0 2 (fun K hK=>?_) fun K hK=>?_
        ·as_aux_lemma =>
          (have K1:=oLE H hfn3;have q1:=K1.c 4 3)
          go_simp;(try go_wp2_with fail);refine zX hK fun hq_=>?_;refine e1 2 fun K hK=>?_;(have hcz:=K1.c 5 0);go_simp;(try go_wp2_with fail);refine zX hK fun hq_=>?_;refine e1 3 fun K hK=>?_;(refine apA 0 37 39 K1 (K1.oldInts 7 rfl) (by omega) fun vv x3 K3=>?_;have q3:=K3.c 4 3);refine zX hK fun hq_=>?_;refine e1 7 fun K hK=>?_;(refine apB 0 1 40 43 K3 fun Ao2 co2 x4 hco2 K4=>?_;have q4:=K4.c 4 3);refine zX hK fun hq_=>?_;refine zV 8 hq_ ?_;refine e1 9 fun K hK=>?_;(have cz:=K4.c 5 0;obtain⟨fz,HS⟩:=oU K4 3 0 (.slice Ao2 (na+1) co2);have qz:=HS.c 3 3);go_simp;(try go_wp2_with fail);refine zX hK fun hq_=>?_;refine dN ?_
          go_wp2_with fail
          go_meet;exact⟨_,_,_,_,_,_,_,_,_,_,_,_,_,_,_,HS,hco2,HL.ic,HNB,by omega,HL.names,HZ,HK,fun w9 L9 h9=>⟨(h9.ownInts 0 rfl).2.2,HL.inC.below h9.base⟩⟩
        ·as_aux_lemma =>
          (have hcz:=K0.c 4 0)
          go_simp;(try go_wp2_with fail);refine zX hK fun hq_=>?_;refine e1 0 fun K hK=>?_;(have K2:=oLE H hfn3;have q2:=K2.c 4 3);go_simp;(try go_wp2_with fail);refine zX hK fun hq_=>?_;refine e1 3 fun K hK=>?_;(refine apA 0 37 39 K2 (K2.oldInts 7 rfl) (by omega) fun vv x3 K3=>?_;have q3:=K3.c 4 3);refine zX hK fun hq_=>?_;refine e1 7 fun K hK=>?_;(refine apB 0 1 40 43 K3 fun Ao2 co2 x4 hco2 K4=>?_;have q4:=K4.c 4 3);refine zX hK fun hq_=>?_;refine zV 8 hq_ ?_;refine e1 9 fun K hK=>?_;(have cz:=K4.c 5 0;obtain⟨fz,HS⟩:=oU K4 3 0 (.slice Ao2 (na+1) co2);have qz:=HS.c 3 3);go_simp;(try go_wp2_with fail);refine zX hK fun hq_=>?_;refine dN ?_
          go_wp2_with fail
          go_meet;exact⟨_,_,_,_,_,_,_,_,_,_,_,_,_,_,_,HS,hco2,HL.ic,HNB,by omega,HL.names,HZ,HK,fun w9 L9 h9=>⟨(h9.ownInts 0 rfl).2.2,HL.inC.below h9.base⟩⟩
     ·obtain⟨g0,g1,g2,g3⟩:=H.z4 3 rfl;obtain⟨fg0,fg1,fg2,fg3⟩:=H.f4 3 rfl;have h5:=(H.setBox 3 1 (.string tx) rfl).addNil 3
      go_wp2_with fail
      go_meet;exact⟨_,_,_,_,G.sizes,tx,_,_,_,_,G.nodes,_,_,_,G.outs,h5,HL.ia,HL.ic,HNB,by omega,by omega,⟨by show List.length (G.nodes)≤q+1;have:=HNB.out;omega,by show List.length (G.sizes)≤q+1;have:=HNAL.out;omega,by show List.length (G.outs)≤q+1;have:=HNCL.out;omega,fun j x hj=>b1b HSM j x hj⟩,HK,fun w9 L9 h9=>⟨HL.inA.below h9.base,HL.inC.below h9.base⟩⟩
     ·go_simp
      have HZ:=Hd (show FewG (q+1) ⟨G.sizes,G.names,G.nodes,G.outs++[t.n]⟩ from⟨by show List.length (G.nodes)≤q+1;have:=HNB.out;omega,by show List.length (G.sizes)≤q+1;have:=HNAL.out;omega,by show List.length (G.outs++[t.n])≤q+1;rw[List.length_append,List.length_singleton];have:=HNCL.out;omega,fun j x hj=>b1b HSM j x hj⟩)
      go_upto_region 13 with fail
      have HD:=Hd H.drew;have ct:=HD.c 2 3;have hfn3:=HT.n;refine wp_region_held_drew (S:=(fun w'=>w'.cell? ⟨w.heap.size+1,3,none⟩=some (.int .i64 t.n))) (by kernel_rfl) ?_ (fun hq_=>?_)
      ·exact ct
      refine zV 1 hq_ ?_;refine zV 4 hq_ ?_;refine zV 5 hq_ ?_;refine rD [0,2,6] (aC (fun K hK=>?_) (aC (fun K hK=>?_) (aC (fun K hK=>?_) AllReadyH.nil)))
      ·as_aux_lemma =>
        (have K0:=oE H;have q0:=K0.c 3 3)
        go_simp;(try go_wp2_with fail);refine zX hK fun hq_=>?_;refine rB2 2 6 (fun K hK=>?_) fun K hK=>?_
        ·as_aux_lemma =>
          (have hcz:=K0.c 4 3)
          go_simp;(try go_wp2_with fail);refine zX hK fun hq_=>?_;refine rB2 3 6 (fun K hK=>?_) fun K hK=>?_
          ·(refine apA 0 52 54 K0 (K0.oldInts 5 rfl) (by omega) fun vv x2 K2=>?_;have q2:=K2.c 3 3)
           refine zX hK fun hq_=>?_;refine e1 6 fun K hK=>?_;(have K3:=oQ K2 hfn3;have q3:=K3.c 4 3);go_simp;(try go_wp2_with fail);refine zX hK fun hq_=>?_;refine e1 7 fun K hK=>?_;(refine apB 1 0 55 58 K3 fun Ao2 co2 x4 hco2 K4=>?_;have q4:=K4.c 4 3);refine zX hK fun hq_=>?_;refine zV 8 hq_ ?_;refine e1 9 fun K hK=>?_;(have cz:=K4.c 5 3;obtain⟨fz,HS⟩:=oT K4 3 3 (.slice Ao2 (nc+1) co2);have qz:=HS.c 3 3);go_simp;(try go_wp2_with fail);refine zX hK fun hq_=>?_;refine dN ?_
           go_wp2_with fail
           go_meet;exact⟨_,_,_,_,_,_,_,_,_,_,_,_,_,_,_,HS,HL.ia,hco2,HNB,by omega,HL.names,HZ,HK,fun w9 L9 h9=>⟨HL.inA.below h9.base,(h9.ownInts 0 rfl).2.2⟩⟩
          ·(have K2:=oEL H hfn3;have q2:=K2.c 4 3)
           go_simp;(try go_wp2_with fail);refine zX hK fun hq_=>?_;refine e1 3 fun K hK=>?_;(refine apA 1 52 54 K2 (K2.oldInts 6 rfl) (by omega) fun vv x3 K3=>?_;have q3:=K3.c 4 3);refine zX hK fun hq_=>?_;refine e1 7 fun K hK=>?_;(refine apB 1 0 55 58 K3 fun Ao2 co2 x4 hco2 K4=>?_;have q4:=K4.c 4 3);refine zX hK fun hq_=>?_;refine zV 8 hq_ ?_;refine e1 9 fun K hK=>?_;(have cz:=K4.c 5 3;obtain⟨fz,HS⟩:=oT K4 3 3 (.slice Ao2 (nc+1) co2);have qz:=HS.c 3 3);go_simp;(try go_wp2_with fail);refine zX hK fun hq_=>?_;refine dN ?_
           go_wp2_with fail
           go_meet;exact⟨_,_,_,_,_,_,_,_,_,_,_,_,_,_,_,HS,HL.ia,hco2,HNB,by omega,HL.names,HZ,HK,fun w9 L9 h9=>⟨HL.inA.below h9.base,(h9.ownInts 0 rfl).2.2⟩⟩
        ·as_aux_lemma =>
          (have K1:=oEL H hfn3;have q1:=K1.c 4 3)
          go_simp;(try go_wp2_with fail);refine zX hK fun hq_=>?_;refine e1 2 fun K hK=>?_;(have hcz:=K1.c 5 3);go_simp;(try go_wp2_with fail);refine zX hK fun hq_=>?_;refine e1 3 fun K hK=>?_;(refine apA 1 52 54 K1 (K1.oldInts 6 rfl) (by omega) fun vv x3 K3=>?_;have q3:=K3.c 4 3);refine zX hK fun hq_=>?_;refine e1 7 fun K hK=>?_;(refine apB 1 0 55 58 K3 fun Ao2 co2 x4 hco2 K4=>?_;have q4:=K4.c 4 3);refine zX hK fun hq_=>?_;refine zV 8 hq_ ?_;refine e1 9 fun K hK=>?_;(have cz:=K4.c 5 3;obtain⟨fz,HS⟩:=oT K4 3 3 (.slice Ao2 (nc+1) co2);have qz:=HS.c 3 3);go_simp;(try go_wp2_with fail);refine zX hK fun hq_=>?_;refine dN ?_
          go_wp2_with fail
          go_meet;exact⟨_,_,_,_,_,_,_,_,_,_,_,_,_,_,_,HS,HL.ia,hco2,HNB,by omega,HL.names,HZ,HK,fun w9 L9 h9=>⟨HL.inA.below h9.base,(h9.ownInts 0 rfl).2.2⟩⟩
      ·as_aux_lemma =>
        (have hcz:=HD.c 3 3)
        go_simp;(try go_wp2_with fail);refine zX hK fun hq_=>?_;refine rB2 0 6 (fun K hK=>?_) fun K hK=>?_
        ·as_aux_lemma =>
          (have K1:=oE H;have q1:=K1.c 3 3)
          go_simp;(try go_wp2_with fail);refine zX hK fun hq_=>?_;refine rB2 3 6 (fun K hK=>?_) fun K hK=>?_
          ·(refine apA 0 52 54 K1 (K1.oldInts 5 rfl) (by omega) fun vv x2 K2=>?_;have q2:=K2.c 3 3)
           refine zX hK fun hq_=>?_;refine e1 6 fun K hK=>?_;(have K3:=oQ K2 hfn3;have q3:=K3.c 4 3);go_simp;(try go_wp2_with fail);refine zX hK fun hq_=>?_;refine e1 7 fun K hK=>?_;(refine apB 1 0 55 58 K3 fun Ao2 co2 x4 hco2 K4=>?_;have q4:=K4.c 4 3);refine zX hK fun hq_=>?_;refine zV 8 hq_ ?_;refine e1 9 fun K hK=>?_;(have cz:=K4.c 5 3;obtain⟨fz,HS⟩:=oT K4 3 3 (.slice Ao2 (nc+1) co2);have qz:=HS.c 3 3);go_simp;(try go_wp2_with fail);refine zX hK fun hq_=>?_;refine dN ?_
           go_wp2_with fail
           go_meet;exact⟨_,_,_,_,_,_,_,_,_,_,_,_,_,_,_,HS,HL.ia,hco2,HNB,by omega,HL.names,HZ,HK,fun w9 L9 h9=>⟨HL.inA.below h9.base,(h9.ownInts 0 rfl).2.2⟩⟩
          ·(have K2:=oEL H hfn3;have q2:=K2.c 4 3)
           go_simp;(try go_wp2_with fail);refine zX hK fun hq_=>?_;refine e1 3 fun K hK=>?_;(refine apA 1 52 54 K2 (K2.oldInts 6 rfl) (by omega) fun vv x3 K3=>?_;have q3:=K3.c 4 3);refine zX hK fun hq_=>?_;refine e1 7 fun K hK=>?_;(refine apB 1 0 55 58 K3 fun Ao2 co2 x4 hco2 K4=>?_;have q4:=K4.c 4 3);refine zX hK fun hq_=>?_;refine zV 8 hq_ ?_;refine e1 9 fun K hK=>?_;(have cz:=K4.c 5 3;obtain⟨fz,HS⟩:=oT K4 3 3 (.slice Ao2 (nc+1) co2);have qz:=HS.c 3 3);go_simp;(try go_wp2_with fail);refine zX hK fun hq_=>?_;refine dN ?_
           go_wp2_with fail
           go_meet;exact⟨_,_,_,_,_,_,_,_,_,_,_,_,_,_,_,HS,HL.ia,hco2,HNB,by omega,HL.names,HZ,HK,fun w9 L9 h9=>⟨HL.inA.below h9.base,(h9.ownInts 0 rfl).2.2⟩⟩
        ·as_aux_lemma =>
          (have K1:=oL H hfn3;have q1:=K1.c 3 3)
          go_simp;(try go_wp2_with fail);refine zX hK fun hq_=>?_;refine e1 0 fun K hK=>?_;(have K2:=oLE H hfn3;have q2:=K2.c 4 3);go_simp;(try go_wp2_with fail);refine zX hK fun hq_=>?_;refine e1 3 fun K hK=>?_;(refine apA 0 52 54 K2 (K2.oldInts 6 rfl) (by omega) fun vv x3 K3=>?_;have q3:=K3.c 4 3);refine zX hK fun hq_=>?_;refine e1 7 fun K hK=>?_;(refine apB 0 1 55 58 K3 fun Ao2 co2 x4 hco2 K4=>?_;have q4:=K4.c 4 3);refine zX hK fun hq_=>?_;refine zV 8 hq_ ?_;refine e1 9 fun K hK=>?_;(have cz:=K4.c 5 3;obtain⟨fz,HS⟩:=oU K4 3 3 (.slice Ao2 (nc+1) co2);have qz:=HS.c 3 3);go_simp;(try go_wp2_with fail);refine zX hK fun hq_=>?_;refine dN ?_
          go_wp2_with fail
          go_meet;exact⟨_,_,_,_,_,_,_,_,_,_,_,_,_,_,_,HS,HL.ia,hco2,HNB,by omega,HL.names,HZ,HK,fun w9 L9 h9=>⟨HL.inA.below h9.base,(h9.ownInts 0 rfl).2.2⟩⟩
      ·as_aux_lemma =>
        (have K0:=oL H hfn3;have q0:=K0.c 3 3)
        go_simp;(try go_wp2_with fail);refine zX hK fun hq_=>?_;refine rB2 0 2 (fun K hK=>?_) fun K hK=>?_
        ·as_aux_lemma =>
          (have K1:=oLE H hfn3;have q1:=K1.c 4 3)
          go_simp;(try go_wp2_with fail);refine zX hK fun hq_=>?_;refine e1 2 fun K hK=>?_;(have hcz:=K1.c 5 3);go_simp;(try go_wp2_with fail);refine zX hK fun hq_=>?_;refine e1 3 fun K hK=>?_;(refine apA 0 52 54 K1 (K1.oldInts 6 rfl) (by omega) fun vv x3 K3=>?_;have q3:=K3.c 4 3);refine zX hK fun hq_=>?_;refine e1 7 fun K hK=>?_;(refine apB 0 1 55 58 K3 fun Ao2 co2 x4 hco2 K4=>?_;have q4:=K4.c 4 3);refine zX hK fun hq_=>?_;refine zV 8 hq_ ?_;refine e1 9 fun K hK=>?_;(have cz:=K4.c 5 3;obtain⟨fz,HS⟩:=oU K4 3 3 (.slice Ao2 (nc+1) co2);have qz:=HS.c 3 3);go_simp;(try go_wp2_with fail);refine zX hK fun hq_=>?_;refine dN ?_
          go_wp2_with fail
          go_meet;exact⟨_,_,_,_,_,_,_,_,_,_,_,_,_,_,_,HS,HL.ia,hco2,HNB,by omega,HL.names,HZ,HK,fun w9 L9 h9=>⟨HL.inA.below h9.base,(h9.ownInts 0 rfl).2.2⟩⟩
        ·as_aux_lemma =>
          (have hcz:=K0.c 4 3)
          go_simp;(try go_wp2_with fail);refine zX hK fun hq_=>?_;refine e1 0 fun K hK=>?_;(have K2:=oLE H hfn3;have q2:=K2.c 4 3);go_simp;(try go_wp2_with fail);refine zX hK fun hq_=>?_;refine e1 3 fun K hK=>?_;(refine apA 0 52 54 K2 (K2.oldInts 6 rfl) (by omega) fun vv x3 K3=>?_;have q3:=K3.c 4 3);refine zX hK fun hq_=>?_;refine e1 7 fun K hK=>?_;(refine apB 0 1 55 58 K3 fun Ao2 co2 x4 hco2 K4=>?_;have q4:=K4.c 4 3);refine zX hK fun hq_=>?_;refine zV 8 hq_ ?_;refine e1 9 fun K hK=>?_;(have cz:=K4.c 5 3;obtain⟨fz,HS⟩:=oU K4 3 3 (.slice Ao2 (nc+1) co2);have qz:=HS.c 3 3);go_simp;(try go_wp2_with fail);refine zX hK fun hq_=>?_;refine dN ?_
          go_wp2_with fail
          go_meet;exact⟨_,_,_,_,_,_,_,_,_,_,_,_,_,_,_,HS,HL.ia,hco2,HNB,by omega,HL.names,HZ,HK,fun w9 L9 h9=>⟨HL.inA.below h9.base,(h9.ownInts 0 rfl).2.2⟩⟩
     ·obtain⟨g0,g1,g2,g3⟩:=H.z4 3 rfl;obtain⟨fg0,fg1,fg2,fg3⟩:=H.f4 3 rfl;obtain⟨tq0,tq1,tq2,tq3,tq4⟩:=H.z5 2 rfl
      go_wp2_with (at_builtin;refine a2o rfl (.tmp 64) (.tmp 68) 26 rfl underlying26 H.out 0 rfl rfl _ rfl rfl rfl rfl rfl rfl rfl rfl ?c1 ?_)
      case c1=>omega
      intro v5 w5 h5;obtain⟨gN,c9,hv,hc9⟩:=h5.rowForm 0 rfl (by omega);subst hv;have H5:=Hd h5;clear h5 g0 g1 g2 g3 fg0 fg1 fg2 fg3 tq0 tq1 tq2 tq3 tq4;obtain⟨g0,g1,g2,g3⟩:=H5.cells4 3 rfl;obtain⟨fg0,fg1,fg2,fg3⟩:=H5.f4 3 rfl;have h6:=(H5.setBox 3 2 (.slice (some ⟨gN,0,none⟩) (nb+1) c9) rfl).addNil 3;have HNK:=Hd (show NodK w (vs++[.int .i64 t.n,.slice none 0 0,.slice none 0 0,.slice none 0 0,.int .i64 0,.int .i64 0,.string ⟨#[]⟩]) (G.nodes++[⟨t.n,[],[],[],0,0,⟨#[]⟩⟩]) from HK.append (c3g (A:=none) (na:=0) (ca:=0) (B:=none) (nb:=0) (cb:=0) (C:=none) (nc:=0) (cc:=0) ⟨Nat.le_refl _,Nat.le_refl _,Nat.le_refl _,Ints.nil_ _ _,Ints.nil_ _ _,Ints.nil_ _ _,HT.n,a7m,a7m,by show 0≤_;omega⟩))
      go_wp2_with fail
      go_meet;exact⟨_,_,_,_,G.sizes,G.names,_,_,_,_,G.nodes++[⟨t.n,[],[],[],0,0,⟨#[]⟩⟩],_,_,_,G.outs,h6,HL.ia,HL.ic,by rw[List.length_append,List.length_singleton,HNB.out],by omega,HL.names,⟨by show List.length (G.nodes++[⟨t.n,[],[],[],0,0,⟨#[]⟩⟩])≤q+1;rw[List.length_append,List.length_singleton];have:=HNB.out;omega,by show List.length (G.sizes)≤q+1;have:=HNAL.out;omega,by show List.length (G.outs)≤q+1;have:=HNCL.out;omega,e0f (fun j x hj=>b1b HSM j x hj) ⟨by show 0≤_;omega,by show 0≤_;omega,by show 0≤_;omega⟩⟩,HNK.out,fun w9 L9 h9=>⟨HL.inA.below h9.base,HL.inC.below h9.base⟩⟩
     ·obtain⟨g0,g1,g2,g3⟩:=H.z4 3 rfl;obtain⟨fg0,fg1,fg2,fg3⟩:=H.f4 3 rfl;have h5:=(H.setBox 3 3 (.slice none 0 0) rfl).addNil 3
      go_wp2_with fail
      go_meet;exact⟨_,_,_,_,G.sizes,G.names,_,_,_,_,G.nodes,_,_,_,[],h5,HL.ia,Nat.le_refl _,HNB,by omega,HL.names,⟨by show List.length (G.nodes)≤q+1;have:=HNB.out;omega,by show List.length (G.sizes)≤q+1;have:=HNAL.out;omega,by show List.length ([])≤q+1;simp,fun j x hj=>b1b HSM j x hj⟩,HK,fun w9 L9 h9=>⟨HL.inA.below h9.base,Ints.nil_ _ _⟩⟩
    case rest =>
     clear H g0 g1 g2 g3 t0 t1 t2 t3 t4;obtain⟨X9,A1,n1,c1,S1,tx1,AN,nN,cN,vs1,N1,C1,nc1,cc1,O1,hS,hia,hic,hln,hle,htx1,hFG,hNK,hPA⟩:=hcut;have H:=Hd hS;have HFG:=Hd hFG;have HPA:=Hd hPA;have HNK:=Hd hNK;have HLN:=Hd hln;clear hS hFG hPA hNK hln;obtain⟨w5,rfl⟩:∃ w5:World,w5=wc:=⟨_,rfl⟩;have HX9:=Hd H.base;obtain⟨g0,g1,g2,g3⟩:=H.cells4 4 rfl;obtain⟨rq0,rq1,rq2,rq3⟩:=H.cells4 2 rfl;obtain⟨fr0,fr1,fr2,fr3⟩:=H.f4 2 rfl;have h12:=(((H.setBox 2 0 (.slice A1 n1 c1) rfl).setBox 2 1 (.string tx1) rfl).setBox 2 2 (.slice AN nN cN) rfl).setBox 2 3 (.slice C1 nc1 cc1) rfl;obtain⟨An8,cn8,hv,hcn8,hNi⟩:=b3q 1 h12 rfl (HNK.below (h12.base)) (HLN) (by omega);injection hv with hv1 _ hv3
     subst hv1;subst hv3;have HH:=Hd h12;have HNI:=Hd hNi;clear h12 hNi;go_wp2;refine a7g (v0:=.slice A1 n1 c1) (v1:=.string tx1) (v2:=.slice AN nN cN) (v3:=.slice C1 nc1 cc1) HH 2 rfl results34 rfl rfl ?_;exact⟨⟨_,rfl,⟨S1,tx1,N1,O1⟩,⟨_,_,_,_,_,_,_,_,_,rfl,⟨hia,hcn8,hic,(HPA _ _ HH).1,HNI,(HPA _ _ HH).2,htx1⟩⟩,HFG⟩,HH.base⟩
   case false =>
    have hpos:0<nb:=hb9 rfl;clear hb9;obtain⟨gN,cR,hv,hcR⟩:=H.rowForm 0 rfl hpos;injection hv with hv1 _ hv3
    subst hv1;subst hv3;have CA:=d0k (w:=w3) t.node nb HT.node (by omega);have hkb:=d0j t.node hpos;obtain⟨k,hkk⟩:∃ k,atF t.node nb=k:=⟨_,rfl⟩;rw[hkk] at CA hkb;clear hkk;obtain⟨nd,hnd⟩:∃ nd,G.nodes[k]?=some nd:=gE (by have:=HNB.out;omega);obtain⟨A1,n1,c1,A2,n2,c2,A3,n3,c3,hcell,hNL⟩:=HK.out.2 k nd hnd;have y0:w3.cell? ⟨gN,k*7,none⟩=some (.int .i64 nd.op):=H.cellRow 0 rfl (hcell 0 (by omega));have y1:w3.cell? ⟨gN,k*7+1,none⟩=some (.slice A1 n1 c1):=H.cellRow 0 rfl (hcell 1 (by omega));have y2:w3.cell? ⟨gN,k*7+2,none⟩=some (.slice A2 n2 c2):=H.cellRow 0 rfl (hcell 2 (by omega));have y3:w3.cell? ⟨gN,k*7+3,none⟩=some (.slice A3 n3 c3):=H.cellRow 0 rfl (hcell 3 (by omega));have y4:w3.cell? ⟨gN,k*7+4,none⟩=some (.int .i64 nd.n):=H.cellRow 0 rfl (hcell 4 (by omega));have y5:w3.cell? ⟨gN,k*7+5,none⟩=some (.int .i64 nd.how):=H.cellRow 0 rfl (hcell 5 (by omega));have y6:w3.cell? ⟨gN,k*7+6,none⟩=some (.string nd.note):=H.cellRow 0 rfl (hcell 6 (by omega));have HND:=Hd hnd;have HNL:=Hd hNL;have hfew:=HSM.each k nd hnd;have hn1:n1≤q:=by have:=hNL.inA.len;have:=hfew.1;omega
    have hn2:n2≤q:=by have:=hNL.inB.len;have:=hfew.2.1;omega
    have hn3:n3≤q:=by have:=hNL.inC.len;have:=hfew.2.2;omega
    have HFEW:=Hd hfew;have HCE:=Hd hcell;clear hnd hNL hcell hfew
    go_wp2_with fail
    refine CA.mono ?_;rintro e4 w4 ⟨rfl,rfl⟩;clear CA
    go_upto_region 19 with fail
    have h3:=H.allocBox w3.heap.size 49 [.int .i64 nd.op,.slice A1 n1 c1,.slice A2 n2 c2,.slice A3 n3 c3,.int .i64 nd.n,.int .i64 nd.how,.string nd.note] rfl;generalize w3.alloc (.cells #[.int .i64 nd.op,.slice A1 n1 c1,.slice A2 n2 c2,.slice A3 n3 c3,.int .i64 nd.n,.int .i64 nd.how,.string nd.note] 49)=w5 at *;generalize w3.heap.size=gx at *;replace H:=Hd h3;clear h3 y0 y1 y2 y3 y4 y5 y6 t0 t1 t2 t3 t4 g0 g1 g2 g3;obtain⟨tc0,tc1,tc2,tc3,tc4⟩:=H.z5 3 rfl;have CA:Calls prog 60 #[.int .i64 (wrap64 (t.what.tdiv 4)),.int .i64 9] w5 fun e w'=>e=.returned (.int .i64 (atF (wrap64 (t.what.tdiv 4)) 9))∧w5=w':=d0k (w:=w5) _ 9 (a2h _) (by omega)
    have hr:=d0j (wrap64 (t.what.tdiv 4)) (show 0<9 by omega);obtain⟨r,hrr⟩:∃ r,atF (wrap64 (t.what.tdiv 4)) 9=r:=⟨_,rfl⟩;rw[hrr] at CA hr;clear hrr
    go_wp2_with fail
    refine CA.mono ?_;rintro e5 w6 ⟨rfl,rfl⟩;clear CA;have HTV:=Hd (show b5a t=.agg #[.int .i64 t.what,.int .i64 t.node,.int .i64 t.at_,.int .i64 t.n,.string t.text] from rfl)
    go_upto_block 1 with fail
    go_cut [] (fun wx=>∃(X9:a0e) (B1:Option Addr) (m1 d1:Nat) (B2:Option Addr) (m2 d2:Nat) (B3:Option Addr) (m3 d3:Nat) (nd2:a0l),Sep w wx (X9::[.box gx 49 [.int .i64 nd2.op,.slice B1 m1 d1,.slice B2 m2 d2,.slice B3 m3 d3,.int .i64 nd2.n,.int .i64 nd2.how,.string nd2.note],.row 49 7 (.slice (some ⟨gN,0,none⟩) nb cn) nb vs,.box (w.heap.size+1+1) 28 zG,.box (w.heap.size+1) 70 [.int .i64 t.what,.int .i64 t.node,.int .i64 t.at_,.int .i64 t.n,.string t.text],.box w.heap.size 28 [.slice A na ca,.string G.names,.slice (some ⟨gN,0,none⟩) nb cn,.slice C nc cc],.ints C nc G.outs,.ints A na G.sizes])∧Few (q+1) nd2∧∀(w9:World) (L9:List a0e),Sep w w9 (X9::L9)→a9l w9 nd2 B1 m1 d1 B2 m2 d2 B3 m3 d3)
    case first =>
     rcases(show r=0∨r=1∨r=2∨r=3∨r=4∨r=5∨r=6∨r=7∨r=8 by omega) with rfl|rfl|rfl|rfl|rfl|rfl|rfl|rfl|rfl
     ·obtain⟨x0,x1,x2,x3,x4,x5,x6⟩:=H.cells7 0 rfl;obtain⟨fx0,fx1,fx2,fx3,fx4,fx5,fx6⟩:=H.f7 0 rfl;have h5:=(H.setBox 0 0 (.int .i64 t.n) rfl).addNil 3
      go_wp2_with fail
      go_meet;exact⟨_,_,_,_,_,_,_,_,_,_,⟨t.n,nd.ins,nd.shape,nd.a,nd.n,nd.how,nd.note⟩,h5,d0p HFEW _ _ _ _,fun w9 L9 h9=>⟨HNL.ia,HNL.ib,HNL.ic,(HNL.below h9.base).inA,(HNL.below h9.base).inB,(HNL.below h9.base).inC,HT.n,HNL.n,HNL.how,HNL.note⟩⟩
     ·obtain⟨x0,x1,x2,x3,x4,x5,x6⟩:=H.cells7 0 rfl;have CT:=b5b (w:=w5) (c:=c1) (t:=t) ((HNL.below H.base).inA) HT (by omega);rw[HTV.out] at CT
      go_wp2_with fail
      refine CT.mono ?_;rintro e7 w7 ⟨⟨vo,mo,ys,rfl,hO,hmo⟩,hb7⟩;clear CT x0 x1 x2 x3 x4 x5 x6 tc0 tc1 tc2 tc3 tc4;obtain⟨Ao2,co2,rfl,hco2,_,_⟩:=hO.form;have HOL:=Hd hO.len;replace H:=Hd (H.addOwn hb7 hO);clear hO hb7;obtain⟨x0,x1,x2,x3,x4,x5,x6⟩:=H.cells7 1 rfl;obtain⟨fx0,fx1,fx2,fx3,fx4,fx5,fx6⟩:=H.f7 1 rfl;have h5:=H.setBox 1 1 (.slice Ao2 mo co2) rfl
      go_wp2_with fail
      go_meet;exact⟨_,_,_,_,_,_,_,_,_,_,⟨nd.op,ys,nd.shape,nd.a,nd.n,nd.how,nd.note⟩,h5,⟨by have:=HOL.out;show List.length ys≤q+1;omega,by have:=HFEW.out.2.1;show List.length nd.shape≤q+1;omega,by have:=HFEW.out.2.2;show List.length nd.a≤q+1;omega⟩,fun w9 L9 h9=>HNL.i_ h9.base hco2 (h9.ownInts 0 rfl).2.2⟩
     ·obtain⟨x0,x1,x2,x3,x4,x5,x6⟩:=H.cells7 0 rfl;have CT:=b5b (w:=w5) (c:=c2) (t:=t) ((HNL.below H.base).inB) HT (by omega);rw[HTV.out] at CT
      go_wp2_with fail
      refine CT.mono ?_;rintro e7 w7 ⟨⟨vo,mo,ys,rfl,hO,hmo⟩,hb7⟩;clear CT x0 x1 x2 x3 x4 x5 x6 tc0 tc1 tc2 tc3 tc4;obtain⟨Ao2,co2,rfl,hco2,_,_⟩:=hO.form;have HOL:=Hd hO.len;replace H:=Hd (H.addOwn hb7 hO);clear hO hb7;obtain⟨x0,x1,x2,x3,x4,x5,x6⟩:=H.cells7 1 rfl;obtain⟨fx0,fx1,fx2,fx3,fx4,fx5,fx6⟩:=H.f7 1 rfl;have h5:=H.setBox 1 2 (.slice Ao2 mo co2) rfl
      go_wp2_with fail
      go_meet;exact⟨_,_,_,_,_,_,_,_,_,_,⟨nd.op,nd.ins,ys,nd.a,nd.n,nd.how,nd.note⟩,h5,⟨by have:=HFEW.out.1;show List.length nd.ins≤q+1;omega,by have:=HOL.out;show List.length ys≤q+1;omega,by have:=HFEW.out.2.2;show List.length nd.a≤q+1;omega⟩,fun w9 L9 h9=>⟨HNL.ia,hco2,HNL.ic,(HNL.below h9.base).inA,(h9.ownInts 0 rfl).2.2,(HNL.below h9.base).inC,HNL.op,HNL.n,HNL.how,HNL.note⟩⟩
     ·obtain⟨x0,x1,x2,x3,x4,x5,x6⟩:=H.cells7 0 rfl;have CT:=b5b (w:=w5) (c:=c3) (t:=t) ((HNL.below H.base).inC) HT (by omega);rw[HTV.out] at CT
      go_wp2_with fail
      refine CT.mono ?_;rintro e7 w7 ⟨⟨vo,mo,ys,rfl,hO,hmo⟩,hb7⟩;clear CT x0 x1 x2 x3 x4 x5 x6 tc0 tc1 tc2 tc3 tc4;obtain⟨Ao2,co2,rfl,hco2,_,_⟩:=hO.form;have HOL:=Hd hO.len;replace H:=Hd (H.addOwn hb7 hO);clear hO hb7;obtain⟨x0,x1,x2,x3,x4,x5,x6⟩:=H.cells7 1 rfl;obtain⟨fx0,fx1,fx2,fx3,fx4,fx5,fx6⟩:=H.f7 1 rfl;have h5:=H.setBox 1 3 (.slice Ao2 mo co2) rfl
      go_wp2_with fail
      go_meet;exact⟨_,_,_,_,_,_,_,_,_,_,⟨nd.op,nd.ins,nd.shape,ys,nd.n,nd.how,nd.note⟩,h5,⟨by have:=HFEW.out.1;show List.length nd.ins≤q+1;omega,by have:=HFEW.out.2.1;show List.length nd.shape≤q+1;omega,by have:=HOL.out;show List.length ys≤q+1;omega⟩,fun w9 L9 h9=>HNL.a_ h9.base hco2 (h9.ownInts 0 rfl).2.2⟩
     ·obtain⟨x0,x1,x2,x3,x4,x5,x6⟩:=H.cells7 0 rfl;obtain⟨fx0,fx1,fx2,fx3,fx4,fx5,fx6⟩:=H.f7 0 rfl;have h5:=(H.setBox 0 4 (.int .i64 (wrap64 (nd.n+1))) rfl).addNil 3
      go_wp2_with fail
      go_meet;exact⟨_,_,_,_,_,_,_,_,_,_,⟨nd.op,nd.ins,nd.shape,nd.a,(wrap64 (nd.n+1)),nd.how,nd.note⟩,h5,d0p HFEW _ _ _ _,fun w9 L9 h9=>⟨HNL.ia,HNL.ib,HNL.ic,(HNL.below h9.base).inA,(HNL.below h9.base).inB,(HNL.below h9.base).inC,HNL.op,a2h _,HNL.how,HNL.note⟩⟩
     ·obtain⟨x0,x1,x2,x3,x4,x5,x6⟩:=H.cells7 0 rfl;obtain⟨fx0,fx1,fx2,fx3,fx4,fx5,fx6⟩:=H.f7 0 rfl;have h5:=(H.setBox 0 5 (.int .i64 t.n) rfl).addNil 3
      go_wp2_with fail
      go_meet;exact⟨_,_,_,_,_,_,_,_,_,_,⟨nd.op,nd.ins,nd.shape,nd.a,nd.n,t.n,nd.note⟩,h5,d0p HFEW _ _ _ _,fun w9 L9 h9=>⟨HNL.ia,HNL.ib,HNL.ic,(HNL.below h9.base).inA,(HNL.below h9.base).inB,(HNL.below h9.base).inC,HNL.op,HNL.n,HT.n,HNL.note⟩⟩
     ·obtain⟨x0,x1,x2,x3,x4,x5,x6⟩:=H.cells7 0 rfl;obtain⟨fx0,fx1,fx2,fx3,fx4,fx5,fx6⟩:=H.f7 0 rfl;have h5:=(H.setBox 0 6 (.string tx) rfl).addNil 3
      go_wp2_with fail
      go_meet;exact⟨_,_,_,_,_,_,_,_,_,_,⟨nd.op,nd.ins,nd.shape,nd.a,nd.n,nd.how,tx⟩,h5,d0p HFEW _ _ _ _,fun w9 L9 h9=>⟨HNL.ia,HNL.ib,HNL.ic,(HNL.below h9.base).inA,(HNL.below h9.base).inB,(HNL.below h9.base).inC,HNL.op,HNL.n,HNL.how,by show tx.size≤_;omega⟩⟩
     ·clear tc0 tc1 tc2 tc3 tc4;have HLF:Hid (nd.a.length=n3):=Hd HNL.inC.len;have HZ:=Hd (show Few (q+1) ⟨nd.op,nd.ins,nd.shape,(nd.a++[t.n]),nd.n,nd.how,nd.note⟩ from⟨by have:=HFEW.out.1;show List.length nd.ins≤q+1;omega,by have:=HFEW.out.2.1;show List.length nd.shape≤q+1;omega,by have:=HLF.out;show List.length (nd.a++[t.n])≤q+1;rw[List.length_append,List.length_singleton];omega⟩)
      go_upto_region 36 with fail
      have HD:=Hd H.drew;have ct:=HD.c 3 3;have hfn3:=HT.n;refine wp_region_held_drew (S:=(fun w'=>w'.cell? ⟨w.heap.size+1,3,none⟩=some (.int .i64 t.n))) (by kernel_rfl) ?_ (fun hq_=>?_)
      ·exact ct
      refine zV 1 hq_ ?_;refine zV 4 hq_ ?_;refine zV 5 hq_ ?_;refine rD [0,2,6] (aC (fun K hK=>?_) (aC (fun K hK=>?_) (aC (fun K hK=>?_) AllReadyH.nil)))
      ·as_aux_lemma =>
        (have K0:=oE H;have q0:=K0.c 4 3)
        go_simp;(try go_wp2_with fail);refine zX hK fun hq_=>?_;refine rB2 2 6 (fun K hK=>?_) fun K hK=>?_
        ·as_aux_lemma =>
          (have hcz:=K0.c 1 3)
          go_simp;(try go_wp2_with fail);refine zX hK fun hq_=>?_;refine rB2 3 6 (fun K hK=>?_) fun K hK=>?_
          ·(refine apA 0 139 141 K0 ((HNL.below K0.base).inC) (by omega) fun vv x2 K2=>?_;have q2:=K2.c 4 3)
           refine zX hK fun hq_=>?_;refine e1 6 fun K hK=>?_;(have K3:=oQ K2 hfn3;have q3:=K3.c 5 3);go_simp;(try go_wp2_with fail);refine zX hK fun hq_=>?_;refine e1 7 fun K hK=>?_;(refine apB 1 0 142 145 K3 fun Ao2 co2 x4 hco2 K4=>?_;have q4:=K4.c 5 3);refine zX hK fun hq_=>?_;refine zV 8 hq_ ?_;refine e1 9 fun K hK=>?_;(have cz:=K4.c 2 3;obtain⟨fz,HS⟩:=oT K4 0 3 (.slice Ao2 (n3+1) co2);have qz:=HS.c 4 3);go_simp;(try go_wp2_with fail);refine zX hK fun hq_=>?_;refine dN ?_
           go_wp2_with fail
           go_meet;exact⟨_,_,_,_,_,_,_,_,_,_,⟨nd.op,nd.ins,nd.shape,(nd.a++[t.n]),nd.n,nd.how,nd.note⟩,HS,HZ,fun w9 L9 h9=>HNL.a_ h9.base hco2 (h9.ownInts 0 rfl).2.2⟩
          ·(have K2:=oEL H hfn3;have q2:=K2.c 5 3)
           go_simp;(try go_wp2_with fail);refine zX hK fun hq_=>?_;refine e1 3 fun K hK=>?_;(refine apA 1 139 141 K2 ((HNL.below K2.base).inC) (by omega) fun vv x3 K3=>?_;have q3:=K3.c 5 3);refine zX hK fun hq_=>?_;refine e1 7 fun K hK=>?_;(refine apB 1 0 142 145 K3 fun Ao2 co2 x4 hco2 K4=>?_;have q4:=K4.c 5 3);refine zX hK fun hq_=>?_;refine zV 8 hq_ ?_;refine e1 9 fun K hK=>?_;(have cz:=K4.c 2 3;obtain⟨fz,HS⟩:=oT K4 0 3 (.slice Ao2 (n3+1) co2);have qz:=HS.c 4 3);go_simp;(try go_wp2_with fail);refine zX hK fun hq_=>?_;refine dN ?_
           go_wp2_with fail
           go_meet;exact⟨_,_,_,_,_,_,_,_,_,_,⟨nd.op,nd.ins,nd.shape,(nd.a++[t.n]),nd.n,nd.how,nd.note⟩,HS,HZ,fun w9 L9 h9=>HNL.a_ h9.base hco2 (h9.ownInts 0 rfl).2.2⟩
        ·as_aux_lemma =>
          (have K1:=oEL H hfn3;have q1:=K1.c 5 3)
          go_simp;(try go_wp2_with fail);refine zX hK fun hq_=>?_;refine e1 2 fun K hK=>?_;(have hcz:=K1.c 2 3);go_simp;(try go_wp2_with fail);refine zX hK fun hq_=>?_;refine e1 3 fun K hK=>?_;(refine apA 1 139 141 K1 ((HNL.below K1.base).inC) (by omega) fun vv x3 K3=>?_;have q3:=K3.c 5 3);refine zX hK fun hq_=>?_;refine e1 7 fun K hK=>?_;(refine apB 1 0 142 145 K3 fun Ao2 co2 x4 hco2 K4=>?_;have q4:=K4.c 5 3);refine zX hK fun hq_=>?_;refine zV 8 hq_ ?_;refine e1 9 fun K hK=>?_;(have cz:=K4.c 2 3;obtain⟨fz,HS⟩:=oT K4 0 3 (.slice Ao2 (n3+1) co2);have qz:=HS.c 4 3);go_simp;(try go_wp2_with fail);refine zX hK fun hq_=>?_;refine dN ?_
          go_wp2_with fail
          go_meet;exact⟨_,_,_,_,_,_,_,_,_,_,⟨nd.op,nd.ins,nd.shape,(nd.a++[t.n]),nd.n,nd.how,nd.note⟩,HS,HZ,fun w9 L9 h9=>HNL.a_ h9.base hco2 (h9.ownInts 0 rfl).2.2⟩
      ·as_aux_lemma =>
        (have hcz:=HD.c 0 3)
        go_simp;(try go_wp2_with fail);refine zX hK fun hq_=>?_;refine rB2 0 6 (fun K hK=>?_) fun K hK=>?_
        ·as_aux_lemma =>
          (have K1:=oE H;have q1:=K1.c 4 3)
          go_simp;(try go_wp2_with fail);refine zX hK fun hq_=>?_;refine rB2 3 6 (fun K hK=>?_) fun K hK=>?_
          ·(refine apA 0 139 141 K1 ((HNL.below K1.base).inC) (by omega) fun vv x2 K2=>?_;have q2:=K2.c 4 3)
           refine zX hK fun hq_=>?_;refine e1 6 fun K hK=>?_;(have K3:=oQ K2 hfn3;have q3:=K3.c 5 3);go_simp;(try go_wp2_with fail);refine zX hK fun hq_=>?_;refine e1 7 fun K hK=>?_;(refine apB 1 0 142 145 K3 fun Ao2 co2 x4 hco2 K4=>?_;have q4:=K4.c 5 3);refine zX hK fun hq_=>?_;refine zV 8 hq_ ?_;refine e1 9 fun K hK=>?_;(have cz:=K4.c 2 3;obtain⟨fz,HS⟩:=oT K4 0 3 (.slice Ao2 (n3+1) co2);have qz:=HS.c 4 3);go_simp;(try go_wp2_with fail);refine zX hK fun hq_=>?_;refine dN ?_
           go_wp2_with fail
           go_meet;exact⟨_,_,_,_,_,_,_,_,_,_,⟨nd.op,nd.ins,nd.shape,(nd.a++[t.n]),nd.n,nd.how,nd.note⟩,HS,HZ,fun w9 L9 h9=>HNL.a_ h9.base hco2 (h9.ownInts 0 rfl).2.2⟩
          ·(have K2:=oEL H hfn3;have q2:=K2.c 5 3)
           go_simp;(try go_wp2_with fail);refine zX hK fun hq_=>?_;refine e1 3 fun K hK=>?_;(refine apA 1 139 141 K2 ((HNL.below K2.base).inC) (by omega) fun vv x3 K3=>?_;have q3:=K3.c 5 3);refine zX hK fun hq_=>?_;refine e1 7 fun K hK=>?_;(refine apB 1 0 142 145 K3 fun Ao2 co2 x4 hco2 K4=>?_;have q4:=K4.c 5 3);refine zX hK fun hq_=>?_;refine zV 8 hq_ ?_;refine e1 9 fun K hK=>?_;(have cz:=K4.c 2 3;obtain⟨fz,HS⟩:=oT K4 0 3 (.slice Ao2 (n3+1) co2);have qz:=HS.c 4 3);go_simp;(try go_wp2_with fail);refine zX hK fun hq_=>?_;refine dN ?_
           go_wp2_with fail
           go_meet;exact⟨_,_,_,_,_,_,_,_,_,_,⟨nd.op,nd.ins,nd.shape,(nd.a++[t.n]),nd.n,nd.how,nd.note⟩,HS,HZ,fun w9 L9 h9=>HNL.a_ h9.base hco2 (h9.ownInts 0 rfl).2.2⟩
        ·as_aux_lemma =>
          (have K1:=oL H hfn3;have q1:=K1.c 4 3)
          go_simp;(try go_wp2_with fail);refine zX hK fun hq_=>?_;refine e1 0 fun K hK=>?_;(have K2:=oLE H hfn3;have q2:=K2.c 5 3);go_simp;(try go_wp2_with fail);refine zX hK fun hq_=>?_;refine e1 3 fun K hK=>?_;(refine apA 0 139 141 K2 ((HNL.below K2.base).inC) (by omega) fun vv x3 K3=>?_;have q3:=K3.c 5 3);refine zX hK fun hq_=>?_;refine e1 7 fun K hK=>?_;(refine apB 0 1 142 145 K3 fun Ao2 co2 x4 hco2 K4=>?_;have q4:=K4.c 5 3);refine zX hK fun hq_=>?_;refine zV 8 hq_ ?_;refine e1 9 fun K hK=>?_;(have cz:=K4.c 2 3;obtain⟨fz,HS⟩:=oU K4 0 3 (.slice Ao2 (n3+1) co2);have qz:=HS.c 4 3);go_simp;(try go_wp2_with fail);refine zX hK fun hq_=>?_;refine dN ?_
          go_wp2_with fail
          go_meet;exact⟨_,_,_,_,_,_,_,_,_,_,⟨nd.op,nd.ins,nd.shape,(nd.a++[t.n]),nd.n,nd.how,nd.note⟩,HS,HZ,fun w9 L9 h9=>HNL.a_ h9.base hco2 (h9.ownInts 0 rfl).2.2⟩
      ·as_aux_lemma =>
        (have K0:=oL H hfn3;have q0:=K0.c 4 3)
        go_simp;(try go_wp2_with fail);refine zX hK fun hq_=>?_;refine rB2 0 2 (fun K hK=>?_) fun K hK=>?_
        ·as_aux_lemma =>
          (have K1:=oLE H hfn3;have q1:=K1.c 5 3)
          go_simp;(try go_wp2_with fail);refine zX hK fun hq_=>?_;refine e1 2 fun K hK=>?_;(have hcz:=K1.c 2 3);go_simp;(try go_wp2_with fail);refine zX hK fun hq_=>?_;refine e1 3 fun K hK=>?_;(refine apA 0 139 141 K1 ((HNL.below K1.base).inC) (by omega) fun vv x3 K3=>?_;have q3:=K3.c 5 3);refine zX hK fun hq_=>?_;refine e1 7 fun K hK=>?_;(refine apB 0 1 142 145 K3 fun Ao2 co2 x4 hco2 K4=>?_;have q4:=K4.c 5 3);refine zX hK fun hq_=>?_;refine zV 8 hq_ ?_;refine e1 9 fun K hK=>?_;(have cz:=K4.c 2 3;obtain⟨fz,HS⟩:=oU K4 0 3 (.slice Ao2 (n3+1) co2);have qz:=HS.c 4 3);go_simp;(try go_wp2_with fail);refine zX hK fun hq_=>?_;refine dN ?_
          go_wp2_with fail
          go_meet;exact⟨_,_,_,_,_,_,_,_,_,_,⟨nd.op,nd.ins,nd.shape,(nd.a++[t.n]),nd.n,nd.how,nd.note⟩,HS,HZ,fun w9 L9 h9=>HNL.a_ h9.base hco2 (h9.ownInts 0 rfl).2.2⟩
        ·as_aux_lemma =>
          (have hcz:=K0.c 1 3)
          go_simp;(try go_wp2_with fail);refine zX hK fun hq_=>?_;refine e1 0 fun K hK=>?_;(have K2:=oLE H hfn3;have q2:=K2.c 5 3);go_simp;(try go_wp2_with fail);refine zX hK fun hq_=>?_;refine e1 3 fun K hK=>?_;(refine apA 0 139 141 K2 ((HNL.below K2.base).inC) (by omega) fun vv x3 K3=>?_;have q3:=K3.c 5 3);refine zX hK fun hq_=>?_;refine e1 7 fun K hK=>?_;(refine apB 0 1 142 145 K3 fun Ao2 co2 x4 hco2 K4=>?_;have q4:=K4.c 5 3);refine zX hK fun hq_=>?_;refine zV 8 hq_ ?_;refine e1 9 fun K hK=>?_;(have cz:=K4.c 2 3;obtain⟨fz,HS⟩:=oU K4 0 3 (.slice Ao2 (n3+1) co2);have qz:=HS.c 4 3);go_simp;(try go_wp2_with fail);refine zX hK fun hq_=>?_;refine dN ?_
          go_wp2_with fail
          go_meet;exact⟨_,_,_,_,_,_,_,_,_,_,⟨nd.op,nd.ins,nd.shape,(nd.a++[t.n]),nd.n,nd.how,nd.note⟩,HS,HZ,fun w9 L9 h9=>HNL.a_ h9.base hco2 (h9.ownInts 0 rfl).2.2⟩
     ·clear tc0 tc1 tc2 tc3 tc4;have HLF:Hid (nd.ins.length=n1):=Hd HNL.inA.len;have HZ:=Hd (show Few (q+1) ⟨nd.op,(nd.ins++[t.n]),nd.shape,nd.a,nd.n,nd.how,nd.note⟩ from⟨by have:=HLF.out;show List.length (nd.ins++[t.n])≤q+1;rw[List.length_append,List.length_singleton];omega,by have:=HFEW.out.2.1;show List.length nd.shape≤q+1;omega,by have:=HFEW.out.2.2;show List.length nd.a≤q+1;omega⟩)
      go_upto_region 20 with fail
      have HD:=Hd H.drew;have ct:=HD.c 3 3;have hfn3:=HT.n;refine wp_region_held_drew (S:=(fun w'=>w'.cell? ⟨w.heap.size+1,3,none⟩=some (.int .i64 t.n))) (by kernel_rfl) ?_ (fun hq_=>?_)
      ·exact ct
      refine zV 1 hq_ ?_;refine zV 4 hq_ ?_;refine zV 5 hq_ ?_;refine rD [0,2,6] (aC (fun K hK=>?_) (aC (fun K hK=>?_) (aC (fun K hK=>?_) AllReadyH.nil)))
      ·as_aux_lemma =>
        (have K0:=oE H;have q0:=K0.c 4 3)
        go_simp;(try go_wp2_with fail);refine zX hK fun hq_=>?_;refine rB2 2 6 (fun K hK=>?_) fun K hK=>?_
        ·as_aux_lemma =>
          (have hcz:=K0.c 1 1)
          go_simp;(try go_wp2_with fail);refine zX hK fun hq_=>?_;refine rB2 3 6 (fun K hK=>?_) fun K hK=>?_
          ·(refine apA 0 87 89 K0 ((HNL.below K0.base).inA) (by omega) fun vv x2 K2=>?_;have q2:=K2.c 4 3)
           refine zX hK fun hq_=>?_;refine e1 6 fun K hK=>?_;(have K3:=oQ K2 hfn3;have q3:=K3.c 5 3);go_simp;(try go_wp2_with fail);refine zX hK fun hq_=>?_;refine e1 7 fun K hK=>?_;(refine apB 1 0 90 93 K3 fun Ao2 co2 x4 hco2 K4=>?_;have q4:=K4.c 5 3);refine zX hK fun hq_=>?_;refine zV 8 hq_ ?_;refine e1 9 fun K hK=>?_;(have cz:=K4.c 2 1;obtain⟨fz,HS⟩:=oT K4 0 1 (.slice Ao2 (n1+1) co2);have qz:=HS.c 4 3);go_simp;(try go_wp2_with fail);refine zX hK fun hq_=>?_;refine dN ?_
           go_wp2_with fail
           go_meet;exact⟨_,_,_,_,_,_,_,_,_,_,⟨nd.op,(nd.ins++[t.n]),nd.shape,nd.a,nd.n,nd.how,nd.note⟩,HS,HZ,fun w9 L9 h9=>HNL.i_ h9.base hco2 (h9.ownInts 0 rfl).2.2⟩
          ·(have K2:=oEL H hfn3;have q2:=K2.c 5 3)
           go_simp;(try go_wp2_with fail);refine zX hK fun hq_=>?_;refine e1 3 fun K hK=>?_;(refine apA 1 87 89 K2 ((HNL.below K2.base).inA) (by omega) fun vv x3 K3=>?_;have q3:=K3.c 5 3);refine zX hK fun hq_=>?_;refine e1 7 fun K hK=>?_;(refine apB 1 0 90 93 K3 fun Ao2 co2 x4 hco2 K4=>?_;have q4:=K4.c 5 3);refine zX hK fun hq_=>?_;refine zV 8 hq_ ?_;refine e1 9 fun K hK=>?_;(have cz:=K4.c 2 1;obtain⟨fz,HS⟩:=oT K4 0 1 (.slice Ao2 (n1+1) co2);have qz:=HS.c 4 3);go_simp;(try go_wp2_with fail);refine zX hK fun hq_=>?_;refine dN ?_
           go_wp2_with fail
           go_meet;exact⟨_,_,_,_,_,_,_,_,_,_,⟨nd.op,(nd.ins++[t.n]),nd.shape,nd.a,nd.n,nd.how,nd.note⟩,HS,HZ,fun w9 L9 h9=>HNL.i_ h9.base hco2 (h9.ownInts 0 rfl).2.2⟩
        ·as_aux_lemma =>
          (have K1:=oEL H hfn3;have q1:=K1.c 5 3)
          go_simp;(try go_wp2_with fail);refine zX hK fun hq_=>?_;refine e1 2 fun K hK=>?_;(have hcz:=K1.c 2 1);go_simp;(try go_wp2_with fail);refine zX hK fun hq_=>?_;refine e1 3 fun K hK=>?_;(refine apA 1 87 89 K1 ((HNL.below K1.base).inA) (by omega) fun vv x3 K3=>?_;have q3:=K3.c 5 3);refine zX hK fun hq_=>?_;refine e1 7 fun K hK=>?_;(refine apB 1 0 90 93 K3 fun Ao2 co2 x4 hco2 K4=>?_;have q4:=K4.c 5 3);refine zX hK fun hq_=>?_;refine zV 8 hq_ ?_;refine e1 9 fun K hK=>?_;(have cz:=K4.c 2 1;obtain⟨fz,HS⟩:=oT K4 0 1 (.slice Ao2 (n1+1) co2);have qz:=HS.c 4 3);go_simp;(try go_wp2_with fail);refine zX hK fun hq_=>?_;refine dN ?_
          go_wp2_with fail
          go_meet;exact⟨_,_,_,_,_,_,_,_,_,_,⟨nd.op,(nd.ins++[t.n]),nd.shape,nd.a,nd.n,nd.how,nd.note⟩,HS,HZ,fun w9 L9 h9=>HNL.i_ h9.base hco2 (h9.ownInts 0 rfl).2.2⟩
      ·as_aux_lemma =>
        (have hcz:=HD.c 0 1)
        go_simp;(try go_wp2_with fail);refine zX hK fun hq_=>?_;refine rB2 0 6 (fun K hK=>?_) fun K hK=>?_
        ·as_aux_lemma =>
          (have K1:=oE H;have q1:=K1.c 4 3)
          go_simp;(try go_wp2_with fail);refine zX hK fun hq_=>?_;refine rB2 3 6 (fun K hK=>?_) fun K hK=>?_
          ·(refine apA 0 87 89 K1 ((HNL.below K1.base).inA) (by omega) fun vv x2 K2=>?_;have q2:=K2.c 4 3)
           refine zX hK fun hq_=>?_;refine e1 6 fun K hK=>?_;(have K3:=oQ K2 hfn3;have q3:=K3.c 5 3);go_simp;(try go_wp2_with fail);refine zX hK fun hq_=>?_;refine e1 7 fun K hK=>?_;(refine apB 1 0 90 93 K3 fun Ao2 co2 x4 hco2 K4=>?_;have q4:=K4.c 5 3);refine zX hK fun hq_=>?_;refine zV 8 hq_ ?_;refine e1 9 fun K hK=>?_;(have cz:=K4.c 2 1;obtain⟨fz,HS⟩:=oT K4 0 1 (.slice Ao2 (n1+1) co2);have qz:=HS.c 4 3);go_simp;(try go_wp2_with fail);refine zX hK fun hq_=>?_;refine dN ?_
           go_wp2_with fail
           go_meet;exact⟨_,_,_,_,_,_,_,_,_,_,⟨nd.op,(nd.ins++[t.n]),nd.shape,nd.a,nd.n,nd.how,nd.note⟩,HS,HZ,fun w9 L9 h9=>HNL.i_ h9.base hco2 (h9.ownInts 0 rfl).2.2⟩
          ·(have K2:=oEL H hfn3;have q2:=K2.c 5 3)
           go_simp;(try go_wp2_with fail);refine zX hK fun hq_=>?_;refine e1 3 fun K hK=>?_;(refine apA 1 87 89 K2 ((HNL.below K2.base).inA) (by omega) fun vv x3 K3=>?_;have q3:=K3.c 5 3);refine zX hK fun hq_=>?_;refine e1 7 fun K hK=>?_;(refine apB 1 0 90 93 K3 fun Ao2 co2 x4 hco2 K4=>?_;have q4:=K4.c 5 3);refine zX hK fun hq_=>?_;refine zV 8 hq_ ?_;refine e1 9 fun K hK=>?_;(have cz:=K4.c 2 1;obtain⟨fz,HS⟩:=oT K4 0 1 (.slice Ao2 (n1+1) co2);have qz:=HS.c 4 3);go_simp;(try go_wp2_with fail);refine zX hK fun hq_=>?_;refine dN ?_
           go_wp2_with fail
           go_meet;exact⟨_,_,_,_,_,_,_,_,_,_,⟨nd.op,(nd.ins++[t.n]),nd.shape,nd.a,nd.n,nd.how,nd.note⟩,HS,HZ,fun w9 L9 h9=>HNL.i_ h9.base hco2 (h9.ownInts 0 rfl).2.2⟩
        ·as_aux_lemma =>
          (have K1:=oL H hfn3;have q1:=K1.c 4 3)
          go_simp;(try go_wp2_with fail);refine zX hK fun hq_=>?_;refine e1 0 fun K hK=>?_;(have K2:=oLE H hfn3;have q2:=K2.c 5 3);go_simp;(try go_wp2_with fail);refine zX hK fun hq_=>?_;refine e1 3 fun K hK=>?_;(refine apA 0 87 89 K2 ((HNL.below K2.base).inA) (by omega) fun vv x3 K3=>?_;have q3:=K3.c 5 3);refine zX hK fun hq_=>?_;refine e1 7 fun K hK=>?_;(refine apB 0 1 90 93 K3 fun Ao2 co2 x4 hco2 K4=>?_;have q4:=K4.c 5 3);refine zX hK fun hq_=>?_;refine zV 8 hq_ ?_;refine e1 9 fun K hK=>?_;(have cz:=K4.c 2 1;obtain⟨fz,HS⟩:=oU K4 0 1 (.slice Ao2 (n1+1) co2);have qz:=HS.c 4 3);go_simp;(try go_wp2_with fail);refine zX hK fun hq_=>?_;refine dN ?_
          go_wp2_with fail
          go_meet;exact⟨_,_,_,_,_,_,_,_,_,_,⟨nd.op,(nd.ins++[t.n]),nd.shape,nd.a,nd.n,nd.how,nd.note⟩,HS,HZ,fun w9 L9 h9=>HNL.i_ h9.base hco2 (h9.ownInts 0 rfl).2.2⟩
      ·as_aux_lemma =>
        (have K0:=oL H hfn3;have q0:=K0.c 4 3)
        go_simp;(try go_wp2_with fail);refine zX hK fun hq_=>?_;refine rB2 0 2 (fun K hK=>?_) fun K hK=>?_
        ·as_aux_lemma =>
          (have K1:=oLE H hfn3;have q1:=K1.c 5 3)
          go_simp;(try go_wp2_with fail);refine zX hK fun hq_=>?_;refine e1 2 fun K hK=>?_;(have hcz:=K1.c 2 1);go_simp;(try go_wp2_with fail);refine zX hK fun hq_=>?_;refine e1 3 fun K hK=>?_;(refine apA 0 87 89 K1 ((HNL.below K1.base).inA) (by omega) fun vv x3 K3=>?_;have q3:=K3.c 5 3);refine zX hK fun hq_=>?_;refine e1 7 fun K hK=>?_;(refine apB 0 1 90 93 K3 fun Ao2 co2 x4 hco2 K4=>?_;have q4:=K4.c 5 3);refine zX hK fun hq_=>?_;refine zV 8 hq_ ?_;refine e1 9 fun K hK=>?_;(have cz:=K4.c 2 1;obtain⟨fz,HS⟩:=oU K4 0 1 (.slice Ao2 (n1+1) co2);have qz:=HS.c 4 3);go_simp;(try go_wp2_with fail);refine zX hK fun hq_=>?_;refine dN ?_
          go_wp2_with fail
          go_meet;exact⟨_,_,_,_,_,_,_,_,_,_,⟨nd.op,(nd.ins++[t.n]),nd.shape,nd.a,nd.n,nd.how,nd.note⟩,HS,HZ,fun w9 L9 h9=>HNL.i_ h9.base hco2 (h9.ownInts 0 rfl).2.2⟩
        ·as_aux_lemma =>
          (have hcz:=K0.c 1 1)
          go_simp;(try go_wp2_with fail);refine zX hK fun hq_=>?_;refine e1 0 fun K hK=>?_;(have K2:=oLE H hfn3;have q2:=K2.c 5 3);go_simp;(try go_wp2_with fail);refine zX hK fun hq_=>?_;refine e1 3 fun K hK=>?_;(refine apA 0 87 89 K2 ((HNL.below K2.base).inA) (by omega) fun vv x3 K3=>?_;have q3:=K3.c 5 3);refine zX hK fun hq_=>?_;refine e1 7 fun K hK=>?_;(refine apB 0 1 90 93 K3 fun Ao2 co2 x4 hco2 K4=>?_;have q4:=K4.c 5 3);refine zX hK fun hq_=>?_;refine zV 8 hq_ ?_;refine e1 9 fun K hK=>?_;(have cz:=K4.c 2 1;obtain⟨fz,HS⟩:=oU K4 0 1 (.slice Ao2 (n1+1) co2);have qz:=HS.c 4 3);go_simp;(try go_wp2_with fail);refine zX hK fun hq_=>?_;refine dN ?_
          go_wp2_with fail
          go_meet;exact⟨_,_,_,_,_,_,_,_,_,_,⟨nd.op,(nd.ins++[t.n]),nd.shape,nd.a,nd.n,nd.how,nd.note⟩,HS,HZ,fun w9 L9 h9=>HNL.i_ h9.base hco2 (h9.ownInts 0 rfl).2.2⟩
    case rest =>
     clear H tc0 tc1 tc2 tc3 tc4;obtain⟨X9,B1,m1,d1,B2,m2,d2,B3,m3,d3,nd2,hS,hFW,hPN⟩:=hcut;have H:=Hd hS;have HFW:=Hd hFW;have HPN:=Hd hPN;clear hS hFW hPN;obtain⟨w9,rfl⟩:∃ w9:World,w9=wc:=⟨_,rfl⟩;obtain⟨x0,x1,x2,x3,x4,x5,x6⟩:=H.cells7 1 rfl;obtain⟨gg0,gg1,gg2,gg3⟩:=H.cells4 5 rfl;have z0:w9.cell? ⟨gN,k*7,none⟩=some (.int .i64 nd.op):=H.cellRow 2 rfl (HCE 0 (by omega));have fz0:w9.frozen? ⟨gN,k*7,none⟩=false:=H.frozenRow 2 rfl (k*7);have z1:w9.cell? ⟨gN,k*7+1,none⟩=some (.slice A1 n1 c1):=H.cellRow 2 rfl (HCE 1 (by omega));have fz1:w9.frozen? ⟨gN,k*7+1,none⟩=false:=H.frozenRow 2 rfl (k*7+1);have z2:w9.cell? ⟨gN,k*7+2,none⟩=some (.slice A2 n2 c2):=H.cellRow 2 rfl (HCE 2 (by omega));have fz2:w9.frozen? ⟨gN,k*7+2,none⟩=false:=H.frozenRow 2 rfl (k*7+2);have z3:w9.cell? ⟨gN,k*7+3,none⟩=some (.slice A3 n3 c3):=H.cellRow 2 rfl (HCE 3 (by omega));have fz3:w9.frozen? ⟨gN,k*7+3,none⟩=false:=H.frozenRow 2 rfl (k*7+3);have z4:w9.cell? ⟨gN,k*7+4,none⟩=some (.int .i64 nd.n):=H.cellRow 2 rfl (HCE 4 (by omega));have fz4:w9.frozen? ⟨gN,k*7+4,none⟩=false:=H.frozenRow 2 rfl (k*7+4);have z5:w9.cell? ⟨gN,k*7+5,none⟩=some (.int .i64 nd.how):=H.cellRow 2 rfl (HCE 5 (by omega));have fz5:w9.frozen? ⟨gN,k*7+5,none⟩=false:=H.frozenRow 2 rfl (k*7+5);have z6:w9.cell? ⟨gN,k*7+6,none⟩=some (.string nd.note):=H.cellRow 2 rfl (HCE 6 (by omega));have fz6:w9.frozen? ⟨gN,k*7+6,none⟩=false:=H.frozenRow 2 rfl (k*7+6);have h8:=(((((((H.setRow 2 rfl (k*7) (.int .i64 nd2.op)).setRow 2 rfl (k*7+1) (.slice B1 m1 d1)).setRow 2 rfl (k*7+2) (.slice B2 m2 d2)).setRow 2 rfl (k*7+3) (.slice B3 m3 d3)).setRow 2 rfl (k*7+4) (.int .i64 nd2.n)).setRow 2 rfl (k*7+5) (.int .i64 nd2.how)).setRow 2 rfl (k*7+6) (.string nd2.note))
     go_upto_region 38 with fail
     generalize (((((((w9.setCell ⟨gN,k*7,none⟩ (.int .i64 nd2.op)).setCell ⟨gN,k*7+1,none⟩ (.slice B1 m1 d1)).setCell ⟨gN,k*7+2,none⟩ (.slice B2 m2 d2)).setCell ⟨gN,k*7+3,none⟩ (.slice B3 m3 d3)).setCell ⟨gN,k*7+4,none⟩ (.int .i64 nd2.n)).setCell ⟨gN,k*7+5,none⟩ (.int .i64 nd2.how)).setCell ⟨gN,k*7+6,none⟩ (.string nd2.note))=w8 at *;replace H:=Hd (show Sep w w8 [X9,.box gx 49 [.int .i64 nd2.op,.slice B1 m1 d1,.slice B2 m2 d2,.slice B3 m3 d3,.int .i64 nd2.n,.int .i64 nd2.how,.string nd2.note],.row 49 7 (.slice (some ⟨gN,0,none⟩) nb cn) nb (set7 vs (k*7) (.int .i64 nd2.op) (.slice B1 m1 d1) (.slice B2 m2 d2) (.slice B3 m3 d3) (.int .i64 nd2.n) (.int .i64 nd2.how) (.string nd2.note)),.box (w.heap.size+1+1) 28 zG,.box (w.heap.size+1) 70 [.int .i64 t.what,.int .i64 t.node,.int .i64 t.at_,.int .i64 t.n,.string t.text],.box w.heap.size 28 [.slice A na ca,.string G.names,.slice (some ⟨gN,0,none⟩) nb cn,.slice C nc cc],.ints C nc G.outs,.ints A na G.sizes] from h8);clear h8 x0 x1 x2 x3 x4 x5 x6 z0 z1 z2 z3 z4 z5 z6 fz0 fz1 fz2 fz3 fz4 fz5 fz6 gg0 gg1 gg2 gg3;have HX9:=Hd H.base;obtain⟨g0,g1,g2,g3⟩:=H.cells4 5 rfl;obtain⟨rq0,rq1,rq2,rq3⟩:=H.cells4 3 rfl;obtain⟨fr0,fr1,fr2,fr3⟩:=H.f4 3 rfl;have h12:=(((H.setBox 3 0 (.slice A na ca) rfl).setBox 3 1 (.string G.names) rfl).setBox 3 2 (.slice (some ⟨gN,0,none⟩) nb cn) rfl).setBox 3 3 (.slice C nc cc) rfl;obtain⟨An8,cn8,hv,hcn8,hNi⟩:=b3q 2 h12 rfl (NodK.set (nd:=nd2) (HK.below (h12.base)) (by have:=HNB.out;omega) (HPN _ _ h12)) (by rw[List.length_set,HNB.out]) (by omega);injection hv with hv1 _ hv3
     subst hv1;subst hv3;have HH:=Hd h12;have HNI:=Hd hNi;clear h12 hNi;go_wp2;refine a7g (v0:=.slice A na ca) (v1:=.string G.names) (v2:=.slice (some ⟨gN,0,none⟩) nb cn) (v3:=.slice C nc cc) HH 3 rfl results34 rfl rfl ?_;exact⟨⟨_,rfl,⟨G.sizes,G.names,(G.nodes.set k nd2),G.outs⟩,⟨_,_,_,_,_,_,_,_,_,rfl,⟨HL.ia,hcn8,HL.ic,HH.oldInts 7 rfl,HNI,HH.oldInts 6 rfl,HL.names⟩⟩,⟨by show List.length ((G.nodes.set k nd2))≤q+1;rw[List.length_set];have:=HNB.out;omega,by show List.length (G.sizes)≤q+1;have:=HNAL.out;omega,by show List.length (G.outs)≤q+1;have:=HNCL.out;omega,e4s (fun j x hj=>b1b HSM j x hj) HFW⟩⟩,HH.base⟩
end Go.Proofs.YtdcmanhgekjhgaaGreatDoor
