import Derived.Test.YtjblengklgkgfaaGreatPbv
set_option maxRecDepth 100000
set_option maxHeartbeats 12800000
namespace Go.Proofs.YtjblengklgkgfaaGreat
open Go.RowKit Go.Proofs.Tryz
variable {A0:Option Addr} {L:List (List Int)} {c0 n0 q:Nat} {w:World} {xs ys:List Int}
def Few (q:Nat) (nd:a0s):Prop:=nd.ins.length≤q∧nd.shape.length≤q∧nd.a.length≤q
structure FewG (q:Nat) (G:a3n):Prop where
 nodes:G.nodes.length≤q
 sizes:G.sizes.length≤q
 outs:G.outs.length≤q
 each:∀(j:Nat) (nd:a0s),G.nodes[j]?=some nd→Few q nd
theorem FewG.small {G:a3n}(h:FewG q G):a7y q G:=fun j nd hj=>(h.each j nd hj).1
def Slim (nd:a0s):Prop:=nd.shape.length≤8∧nd.a.length≤8
theorem c4u (xs:List Int):∀(j a:Nat),(b0x xs j a).1.length=j
 | 0,_=>rfl
 | j+1,a=>by rw[b0x];simp only[List.length_cons,c4u xs j]
theorem d1j (xs:List Int)(a:Nat):(a3g xs a).1.length≤3:=by
 have h:=a4l xs a (show(0:Int)<4 by omega);rw[a3g,c4u];omega
theorem c8u (xs:List Int)(a:Nat):Slim (kSrc xs a).1:=by
 have h:=d1j xs (ta xs a 4);rw[kSrc]
 split
 ·exact⟨by show(a3g xs (ta xs a 4)).1.length≤8;omega,by show 0≤8;omega⟩
 ·split
  ·exact⟨by show((3::(a3g xs (ta xs a 4)).1).take 3).length≤8;rw[List.length_take];omega,by show 1≤8;omega⟩
  ·exact⟨by show(a3g xs (ta xs a 4)).1.length≤8;omega,by show 0≤8;omega⟩
theorem c4b (xs:List Int):∀(m j a:Nat) (p:List Int),(b2g xs m j a p).1.length=p.length+m
 | 0,_,_,_=>rfl
 | m+1,j,a,p=>by
  rw[b2g,c4b xs m];simp only[List.length_append,List.length_take,List.length_drop,List.length_singleton];omega
theorem d4w (k:Nat):∀(m j:Nat),(kAx k m j).length≤m
 | 0,_=>Nat.le_refl _
 | m+1,j=>by
  rw[kAx];have:=d4w k m (j+1)
  split
  ·omega
  ·rw[List.length_cons];omega
theorem c4n (xs:List Int):∀(s:List Int) (a:Nat),(a5r xs s a).1.1.length=s.length∧(a5r xs s a).1.2.length=s.length
 | [],_=>⟨rfl,rfl⟩
 | x::s,a=>by
  have h:=c4n xs s (ta xs (ta xs a (x+1)) (x-tv xs a (x+1)+1));rw[a5r];simp only[List.length_cons];omega
theorem c4i (xs:List Int):∀(m a:Nat),(a6c xs m a).1.1.length=m∧(a6c xs m a).1.2.length=m
 | 0,_=>⟨rfl,rfl⟩
 | m+1,a=>by
  have h:=c4i xs m (ta xs (ta xs a 3) 3);rw[a6c];simp only[List.length_cons];omega
theorem c1t (xs:List Int):∀(m j a:Nat),(a3o xs m j a).1.length≤m
 | 0,_,_=>Nat.le_refl _
 | m+1,j,a=>by
  have h:=c1t xs m (j+1) (ta xs a 2);rw[a3o]
  split
  ·simp only[List.length_cons];omega
  ·omega
theorem c5i (xs:List Int)(L:List (List Int))(s:List Int)(q:Nat):∀(m k a:Nat),Slim (kDot xs L s q m k a).1
 | 0,_,_=>⟨by show 0≤8;omega,by show 0≤8;omega⟩
 | m+1,k,a=>by
  rw[kDot]
  split
  ·exact⟨by show 0≤8;omega,by show 1≤8;omega⟩
  ·split
   ·exact⟨by show 0≤8;omega,by show 1≤8;omega⟩
   ·exact c5i xs L s q m (k+1) (ta xs a 3)
theorem e0m {K:Int}{b:Nat}{s:List Int}(hs:s.length≤4):Slim (kOp K xs b q s L).1:=by
 have z:∀ n,n≤8→n≤8:=fun _ h=>h
 unfold kOp
 split
 ·exact⟨z 0 (by omega),z 0 (by omega)⟩
 split
 ·exact⟨z 0 (by omega),z 0 (by omega)⟩
 split
 ·exact⟨z 0 (by omega),z 0 (by omega)⟩
 split
 ·exact⟨z 0 (by omega),z 0 (by omega)⟩
 split
 ·exact⟨z 0 (by omega),by show(b2g xs s.length 0 b []).1.length≤8;rw[c4b];simp;omega⟩
 split
 ·rw[kOp5]
  split
  ·exact⟨z 0 (by omega),z 0 (by omega)⟩
  ·refine⟨?_,?_⟩
   ·show(s.take (tv xs b (s.length+1)).toNat++[1+tv xs (ta xs b (s.length+1)) 4]++s.drop (tv xs b (s.length+1)).toNat).length≤8
    simp only[List.length_append,List.length_take,List.length_drop,List.length_singleton];omega
   ·show(kAx (tv xs b (s.length+1)).toNat (s.length+1) 0).length≤8
    have:=d4w (tv xs b (s.length+1)).toNat (s.length+1) 0;omega
 split
 ·have h:=c4n xs s b;exact⟨z 0 (by omega),by show((a5r xs s b).1.1++(a5r xs s b).1.2).length≤8;rw[List.length_append];omega⟩
 split
 ·have h:=c4i xs s.length b;exact⟨z 0 (by omega),by show((a6c xs s.length b).1.1++(a6c xs s.length b).1.2).length≤8;rw[List.length_append];omega⟩
 split
 ·rw[kOp8]
  split
  ·exact⟨z 0 (by omega),z 0 (by omega)⟩
  ·exact⟨z 0 (by omega),z 1 (by omega)⟩
 split
 ·have h:=c1t xs s.length 0 b;exact⟨z 0 (by omega),by show(a3o xs s.length 0 b).1.length≤8;omega⟩
 split
 ·exact c5i _ _ _ _ _ _ _
 ·rw[c6i]
  split
  ·exact⟨z 0 (by omega),z 0 (by omega)⟩
  ·exact⟨z 0 (by omega),z 3 (by omega)⟩
theorem d3b {a:Nat}(hL:∀ s∈L,s.length≤4):Slim (a7m xs a L).1:=by
 rw[a7m]
 split
 ·exact c8u _ _
 split
 ·exact c8u _ _
 ·refine e0m ?_;rw[gD]
  cases e:L[(tv xs (ta xs a 5) L.length).toNat]? with
  | none=>simp
  | some s=>exact hL s (mG e)
structure d2x (S:KS):Prop where
 nodes:∀ nd∈S.nodes,Slim nd
 shapes:∀ s∈S.shapes,s.length≤4
theorem d3u {nm:List Int}{sz:Nat}{S:KS}(g:d2x S):d2x (c5b xs sz nm S):=by
 obtain⟨N,L,a⟩:=S;obtain⟨g1,g2⟩:=g;have hn:=d3b (xs:=xs) (a:=a) g2;obtain⟨⟨nd,b⟩,hr⟩:∃ r,a7m xs a L=r:=⟨_,rfl⟩;obtain⟨⟨e,z⟩,hs⟩:∃ r,a1j nd (a2w L nd.ins)=r:=⟨_,rfl⟩;have hn' : Slim nd:=by rw[show nd=(a7m xs a L).1 by rw[hr]];exact hn
 by_cases hok:e=0∧Sh.size z≤400
 ·rw[b8r hr hs hok];obtain⟨he,_⟩:=hok;subst he;have hzr:Sh.right z=true:=by have:=a9n (nd:=nd) (L:=a2w L nd.ins);rw[hs] at this;exact this rfl
  have hz4:=(Sh.right_iff.1 hzr).1
  have hsh:∀ s∈L++[z],s.length≤4:=fun s h=>by
   rcases List.mem_append.1 h with h|h
   ·exact g2 s h
   ·rw[List.mem_singleton.1 h];exact hz4
  simp only[kPut]
  split
  ·refine⟨fun x h=>?_,hsh⟩;rcases List.mem_append.1 h with h|h
   ·exact g1 x h
   ·rw[List.mem_singleton.1 h];exact hn'
  ·refine⟨fun x h=>?_,hsh⟩;rcases List.mem_append.1 h with h|h
   ·exact g1 x h
   ·rw[List.mem_singleton.1 h];exact hn'
 ·rw[b1r hr hs hok];exact⟨g1,g2⟩
theorem d3c {xs nm:List Int}{sz:Nat}:∀(k:Nat) (S:KS),d2x S→d2x (kGo xs sz nm k S)
 | 0,_,g=>g
 | k+1,_,g=>d3c k _ (d3u g)
theorem b9o (xs:List Int):FewG 10 (a0o xs):=by
 obtain⟨nm,h⟩:=a5j xs;have hs:d2x (a7q xs):=d3c _ _ ⟨by simp,by simp⟩;refine⟨by have:=h.len;omega,by have:=(b7z xs 0).1;show(a6x xs 0).1.length≤10;omega,by have:=h.outs;omega,fun j nd hj=>?_⟩;have hm:=mG hj;have h1:=h.few nd hm;have h2:=hs.nodes nd hm;exact⟨by omega,by have:=h2.1;omega,by have:=h2.2;omega⟩
theorem a8g {v:Value}(h:a2c w v (a0o ys))(hI:Ints w A0 n0 xs):
  Calls prog 9 #[v,.slice A0 n0 c0] w fun e w'=>(∃ A m c P,e=.returned (.slice A m c)∧m≤c∧m≤700∧FitP (a0o ys).nodes P∧∀(w9:World) (row:Option Nat),w'.grownBy w9 row→(∀ g,row=some g→g<w.heap.size)→Tens w9 A m P)∧Below w.heap.size w w' :=
 c7y h hI (fun j x hx=>by
  obtain⟨_,_,nd,h1,h2,_⟩:=b9e hx
  exact⟨nd,h1,h2⟩) (by have:=c2a ys;omega)
theorem a9u (ys:List Int):a7y 800 (a0o ys):=fun j nd hj=>Nat.le_trans ((b9o ys).small j nd hj) (by omega)
theorem c5n {A1:Option Addr}{n1 c1:Nat}(hI:Ints w A0 n0 xs)(hJ:Ints w A1 n1 ys):
  Calls prog 6 #[.slice A0 n0 c0,.slice A1 n1 c1] w fun e w'=>e=.returned (.bool true)∧Below w.heap.size w w':=by
 have C1:=c3l (c:=c0) hI;have HJ:=Hd hJ;clear hI hJ
 go_enter func6,ntmps6
 go_wp2_with fail
 refine C1.mono ?_;rintro e1 w1 ⟨⟨v,rfl,hG⟩,hb0⟩;have HB0:=Hd hb0;have HJ1:=Hd (HJ.below hb0);have HG:=Hd hG;obtain⟨G,hGd⟩:∃ G,a0o xs=G:=⟨_,rfl⟩;rw[hGd] at HG;have HGD:=Hd hGd;clear hG hGd C1 hb0;obtain⟨A,na,ca,B,nb,cb,C,nc,cc,hv,hL⟩:=HG.out;subst hv;have HL:=Hd hL;clear hL;have h1:=(Sep.nil w1).allocBox w1.heap.size 25 [.slice A na ca,.string G.names,.slice B nb cb,.slice C nc cc] rfl
 go_upto_region 2 with fail
 generalize w1.alloc (.cells #[.slice A na ca,.string G.names,.slice B nb cb,.slice C nc cc] 25)=w2 at *;have H:=Hd h1;clear h1;obtain⟨g0,g1,g2,g3⟩:=H.cells4 0 rfl;have HW2:Hid (w1.heap.size<w2.heap.size):=Hd (H.blockLt 0 rfl).2;have C2:=a8g (ys:=xs) (c0:=c1) (by rw[HGD.out];exact HG.below H.base) (HJ1.below H.base)
 go_wp2_with fail
 refine C2.mono ?_;rintro e2 w3 ⟨⟨At,nt,ct,P,rfl,hct,hnt,hF,hT⟩,hb2⟩;replace H:=Hd (H.below hb2);have HT:=Hd hT;have HF:=Hd hF;clear C2 hb2 hT hF g0 g1 g2 g3;obtain⟨g0,g1,g2,g3⟩:=H.cells4 0 rfl;have C3:=a7s (HG.below H.base)
 go_wp2_with fail
 refine C3.mono ?_;rintro e3 w4 ⟨⟨v3,m,rfl,hO⟩,hb3⟩;obtain⟨Ap,cp,rfl,hcp,_,_⟩:=hO.form;replace H:=Hd (H.addOwn hb3 hO);have HB3:=Hd hb3;clear C3 hb3 hO g0 g1 g2 g3;obtain⟨g0,g1,g2,g3⟩:=H.cells4 1 rfl;have fg3:=H.frozenBox 1 3 rfl;have h5:=H.setBox 1 3 (.slice Ap m cp) rfl
 go_upto_region 4 with fail
 have HT5:Hid (Tens (w4.setCell ⟨w1.heap.size,3,none⟩ (.slice Ap m cp)) At nt P):=Hd (HT _ (some w1.heap.size) (a1b (a3c HB3 _) (a0h _ _ _ _)) (fun g hg=>by injection hg with hg;have:=HW2.out;omega));generalize w4.setCell ⟨w1.heap.size,3,none⟩ (.slice Ap m cp)=w5 at *;replace H:=Hd (show Sep w1 w5 [.own 3 (.slice Ap m cp) m (parF 0 G.nodes),.box w1.heap.size 25 [.slice A na ca,.string G.names,.slice B nb cb,.slice Ap m cp]] from h5);clear h5 g0 g1 g2 g3 fg3;have HG5:Hid (a2c w5 (.agg #[.slice A na ca,.string G.names,.slice B nb cb,.slice Ap m cp]) { G with outs:=parF 0 G.nodes }):=Hd ⟨_,_,_,_,_,_,_,_,_,rfl,⟨HL.ia,HL.ib,hcp,HL.inA.below H.base,HL.inB.below H.base,(H.ownInts 0 rfl).2.2,HL.names⟩⟩;have HS5:Hid (a7y 800 { G with outs:=parF 0 G.nodes }):=Hd (by have h9:=a9u xs;rw[HGD.out] at h9;exact h9);have HE:Hid (a7p { G with outs:=parF 0 G.nodes } P=(0,P)):=Hd (by have h9:=c5m (xs:=xs) HF;rw[HGD.out] at h9;exact h9);obtain⟨g0,g1,g2,g3⟩:=H.cells4 1 rfl;have C4:=a7n (ct:=ct) HG5 HS5 HT5;rw[HE.out] at C4
 go_wp2_with fail
 refine C4.mono ?_;rintro e4 y0 ⟨⟨X0,nx0,cx0,rfl,hcx0,hX⟩,hb⟩;have HX0:=Hd hX;clear hX;replace H:=Hd (H.below hb);replace HG5:=Hd (HG5.below hb);replace HT5:=Hd (HT5.below hb);clear C4 hb g0 g1 g2 g3;obtain⟨g0,g1,g2,g3⟩:=H.cells4 1 rfl;have C4:=a7n (ct:=ct) HG5 HS5 HT5;rw[HE.out] at C4
 go_wp2_with fail
 refine C4.mono ?_;rintro e4 y1 ⟨⟨X1,nx1,cx1,rfl,hcx1,hX⟩,hb⟩;have HX1:=Hd hX;clear hX;replace H:=Hd (H.below hb);replace HG5:=Hd (HG5.below hb);replace HT5:=Hd (HT5.below hb);replace HX0:=Hd (HX0.below hb);clear C4 hb g0 g1 g2 g3;have C5:=a5x (c:=cx0) (d:=ct) HX0 HT5
 go_wp2_with fail
 refine C5.mono ?_;rintro e5 z0 ⟨rfl,hb⟩;replace H:=Hd (H.below hb);replace HT5:=Hd (HT5.below hb);replace HX1:=Hd (HX1.below hb);clear C5 hb;have C5:=a5x (c:=cx1) (d:=ct) HX1 HT5
 go_wp2_with fail
 refine C5.mono ?_;rintro e5 z1 ⟨rfl,hb⟩;replace H:=Hd (H.below hb);replace HT5:=Hd (HT5.below hb);clear C5 hb
 go_wp2_with fail
 refine(a7z _).mono ?_;rintro e6 w6 ⟨rfl,hb⟩;replace H:=Hd (H.below hb);go_wp2;go_ret;exact⟨by trivial,a1m HB0 H.base⟩
end Go.Proofs.YtjblengklgkgfaaGreat
