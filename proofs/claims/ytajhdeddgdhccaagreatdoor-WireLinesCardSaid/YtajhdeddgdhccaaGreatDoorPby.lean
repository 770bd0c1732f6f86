import Derived.Test.YtajhdeddgdhccaaGreatDoorPbx
set_option maxRecDepth 100000
set_option maxHeartbeats 12800000
namespace Go.Proofs.YtajhdeddgdhccaaGreatDoor
open Go.RowKit Go.Proofs.Tryz
variable {i:Nat} {s:ByteArray}
def cntP (s:ByteArray) (i:Nat):Nat:=(s.data.toList.take i).count 10
theorem c2t (s:ByteArray):cntP s s.size=cntN s:=by
 unfold cntP cntN;rw[List.take_of_length_le (by rw[Array.length_toList];exact Nat.le_refl _)]
theorem c6i {b:UInt8}(h:s.data.toList[i]?=some b):cntP s (i+1)=cntP s i+if b=10 then 1 else 0:=by
 unfold cntP;rw[List.take_add_one,h,List.count_append]
 congr 1
 by_cases hb:b=10
 ·subst hb;rfl
 ·rw[iN hb];simp[hb]
theorem c6g (h:i<s.size):cntP s (i+1)=cntP s i+if (s[i].toNat:Int)=10 then 1 else 0:=by
 have e:s.data.toList[i]?=some s[i]:=by rw[Array.getElem?_toList,Array.getElem?_eq_getElem h];rfl
 rw[c6i e]
 congr 1
 by_cases hb:s[i]=10
 ·rw[iP hb,iP (by rw[hb];rfl)]
 ·rw[iN hb,iN];intro q;apply hb;apply UInt8.toNat.inj;have:s[i].toNat=10:=by omega
  rw[this];rfl
theorem d4h {X:ByteArray}(e:s=X++lfT)(h:s.size-1<s.size):((s[s.size-1]'h).toNat:Int)=10:=by
 have h1:s.data.toList[s.size-1]?=some (s[s.size-1]'h):=by rw[Array.getElem?_toList,Array.getElem?_eq_getElem h];rfl
 have h2:s.size=X.size+1:=by rw[e,ByteArray.size_append];rfl
 have h3:s.data.toList=X.data.toList++[10]:=by rw[e,ByteArray.data_append,Array.toList_append];rfl
 have h4:s.data.toList[s.size-1]?=some 10:=by
  rw[h3,show s.size-1=X.data.toList.length by rw[Array.length_toList,h2];rfl,List.getElem?_append_right (Nat.le_refl _),Nat.sub_self];rfl
 have h5:=Option.some.inj (h1.symm.trans h4);rw[h5];rfl
theorem c6h (s:ByteArray)(i:Nat):cntP s i≤i:=Nat.le_trans List.count_le_length (by rw[List.length_take];omega)
theorem b9h {w:World}{A0:Option Addr}{n0 c0:Nat}{xs:List Int}(hI:Ints w A0 n0 xs)(hTB:Tabs w):
  Calls prog 4 #[.slice A0 n0 c0] w fun e w'=>e=.returned (.bool true)∧Below w.heap.size w w':=by
 have HTB:=Hd hTB;clear hTB;have C1:=c7i (c:=c0) hI;have hF1:=a9v xs;have hFM:=b8u xs;obtain⟨T,U,hT,hU,h2⟩:=c1t xs;obtain⟨G,hGd⟩:∃ G,a0x xs=G:=⟨_,rfl⟩;rw[hGd] at C1 hF1 hFM hT hU h2;clear hGd hI
 go_enter func4,ntmps4
 go_wp2_with fail
 refine C1.mono ?_;rintro e1 w1 ⟨⟨v,rfl,hG⟩,hb0⟩;have HG:=Hd hG;have HB0:=Hd hb0;obtain⟨A,na,ca,B,nb,cb,C,nc,cc,rfl,hL⟩:=hG;obtain⟨vs,hK,hC⟩:=d5r hL.inB;have hnb:=hL.inB.1;have hnb9:nb≤20:=by have:=hF1.nodes;omega
 have hnc9:nc≤20:=by have:=hL.inC.len;have:=hF1.outs;omega
 rw[hnb] at h2;have HK:=Hd hK;have HC:=Hd hC;have HNB:=Hd hnb;have HL:=Hd hL;have HF1:=Hd hF1;have HFM:=Hd hFM;have HT:=Hd hT;have HU:=Hd hU;have H2:=Hd h2;clear C1 hb0 hK hC hnb hL hF1 hFM hT hU h2;have h1:=(Sep.nil w1).allocBox w1.heap.size 26 [.slice A na ca,.string G.names,.slice B nb cb,.slice C nc cc] rfl
 go_upto_region 2 with fail
 generalize w1.alloc (.cells #[.slice A na ca,.string G.names,.slice B nb cb,.slice C nc cc] 26)=w2 at *;have H:=Hd h1;clear h1;obtain⟨g0,g1,g2,g3⟩:=H.cells4 0 rfl;have CC:=a6v (HG.below H.base) HF1 ((HTB.below HB0).below H.base);rw[HT.out] at CC
 go_wp2_with fail
 refine CC.mono ?_;rintro e2 w3 ⟨rfl,hb2⟩;replace H:=Hd (H.below hb2);clear CC hb2 g0 g1 g2 g3;have HB1:=Hd H.base;have hgb:w1.heap.size<w3.heap.size:=(H.blockLt 0 rfl).2;have HQ0:Hid (w3.cell? ⟨w1.heap.size,0,none⟩=some (.slice A na ca)):=Hd (H.c 0 0);have HQ1:Hid (w3.cell? ⟨w1.heap.size,1,none⟩=some (.string G.names)):=Hd (H.c 0 1);have HQ2:Hid (w3.cell? ⟨w1.heap.size,2,none⟩=some (.slice B nb cb)):=Hd (H.c 0 2);have HQ3:Hid (w3.cell? ⟨w1.heap.size,3,none⟩=some (.slice C nc cc)):=Hd (H.c 0 3);have HK3:=Hd (HK.below HB1);have HC3:=Hd (HC.below HB1);have HL3:=Hd (HL.below HB1);obtain⟨gb,hgbe⟩:∃ gb,w1.heap.size=gb:=⟨_,rfl⟩;rw[hgbe] at hgb HQ0 HQ1 HQ2 HQ3 ⊢;have HGB:=Hd hgb;clear hgb hgbe H;have g0:=HQ0.out;have g1:=HQ1.out;have g2:=HQ2.out;have g3:=HQ3.out;have h4:=(Sep.nil w3).allocBox w3.heap.size 26 [.slice A na ca,.string G.names,.slice B nb cb,.slice C nc cc] rfl
 go_upto_region 4 with fail
 generalize w3.alloc (.cells #[.slice A na ca,.string G.names,.slice B nb cb,.slice C nc cc] 26)=w4 at *;have H:=Hd h4;clear h4 g0 g1 g2 g3;have HE:=Hd H.emptyRow;have g0:=HE.oldCell HGB.out HQ0.out;have g1:=HE.oldCell HGB.out HQ1.out;have g2:=HE.oldCell HGB.out HQ2.out;have g3:=HE.oldCell HGB.out HQ3.out
 go_wp2_with (at_builtin;refine b0y rfl _ _ 24 rfl underlying24 HE.out 0 rfl rfl rfl (HC3.out.below HE.out.base) (by omega) ?_)
 intro v5 w5 h5;have H5:=Hd h5;clear h5 g0 g1 g2 g3
 go_wp2_with (at_builtin;refine a4v rfl (.tmp 24) (.tmp 26) 24 rfl underlying24 H5.out 0 rfl rfl _ rfl rfl rfl rfl rfl rfl rfl rfl ?c1 ?_)
 case c1=>omega
 intro v6 w6 h6;obtain⟨gN,c6,hv,hc6⟩:=h6.rowForm 0 rfl (by omega);subst hv;have H6:=Hd h6;clear h6;obtain⟨k0,k1,k2,k3⟩:=H6.cells4 1 rfl;have fk2:=H6.frozenBox 1 2 rfl;have h7:=H6.setBox 1 2 (.slice (some ⟨gN,0,none⟩) (nb+1) c6) rfl
 go_upto_region 5 with fail
 generalize w6.setCell ⟨w3.heap.size,2,none⟩ (.slice (some ⟨gN,0,none⟩) (nb+1) c6)=w7 at *;replace H:=Hd (show Sep w3 w7 [.row 37 7 (.slice (some ⟨gN,0,none⟩) (nb+1) c6) (nb+1) (vs++[.int .i64 2,.slice none 0 0,.slice none 0 0,.slice none 0 0,.int .i64 (-7),.int .i64 0,.string ⟨#[]⟩]),.box w3.heap.size 26 [.slice A na ca,.string G.names,.slice (some ⟨gN,0,none⟩) (nb+1) c6,.slice C nc cc]] from h7);clear h7 H6 H5 HE k0 k1 k2 k3 fk2
 have hNn:Nods w7 (some ⟨gN,0,none⟩) (nb+1) (G.nodes++[ndF7]):=by
  obtain⟨A8,c8,hv,_,h⟩:=d2m 0 H rfl ((HK3.below H.base).append (b7q (nd:=ndF7) (A:=none) (na:=0) (ca:=0) (B:=none) (nb:=0) (cb:=0) (C:=none) (nc:=0) (cc:=0) ⟨Nat.le_refl _,Nat.le_refl _,Nat.le_refl _,Ints.nil_ _ _,Ints.nil_ _ _,Ints.nil_ _ _,c2y (by decide) (by decide),⟨by show -9223372036854775808≤(-7:Int);omega,by show(-7:Int)≤_;omega⟩,a5x,by show 0≤_;omega⟩)) (by rw[List.length_append,HNB.out];rfl) (by omega);injection hv with q1 _ _
  rw[q1];exact h
 have hGW:a3r w7 (.agg #[.slice A na ca,.string G.names,.slice (some ⟨gN,0,none⟩) (nb+1) c6,.slice C nc cc]) (b5f G):=⟨_,_,_,_,_,_,_,_,_,rfl,⟨HL3.ia,hc6,HL3.ic,(HL3.below H.base).inA,hNn,(HL3.below H.base).inC,HL3.names⟩⟩;have CC:=a6v hGW HFM (((HTB.below HB0).below HB1).below H.base);rw[HU.out] at CC;clear hNn hGW;obtain⟨k0,k1,k2,k3⟩:=H.cells4 1 rfl
 go_wp2_with fail
 refine CC.mono ?_;rintro e3 w8 ⟨rfl,hb3⟩;replace H:=Hd (H.below hb3);clear CC hb3 k0 k1 k2 k3;have g0:=H.oldCell HGB.out HQ0.out;have g1:=H.oldCell HGB.out HQ1.out;have g2:=H.oldCell HGB.out HQ2.out;have g3:=H.oldCell HGB.out HQ3.out;have hTs:=H2.small;have hUs:=H2.size
 go_wp2_with fail
 go_loop [11,9] (fun iv nv=>∃ i:Nat,i≤T.size∧iv=.int .i64 i∧nv=.int .i64 (cntP T i)) (fun iv _=>T.size-(intOf iv).toNat)
 case atStart=>exact⟨0,Nat.zero_le _,rfl,rfl⟩
 case round =>
  obtain⟨i,hi,rfl,rfl⟩:=hrel;have hcl:=c6h T i;by_cases hlt:i<T.size
  ·have HST:=Hd (c6g hlt);by_cases hb:(T[i].toNat:Int)=10
   ·have db:((T[i].toNat:Int)==10)=true:=by simpa using hb
    have HS2:=Hd (show cntP T (i+1)=cntP T i+1 by rw[HST.out,iP hb]);clear hb;go_wp2;go_round
    case rel=>exact⟨i+1,by omega,by go_num,by rw[HS2.out];go_num⟩
    case measure=>simp[intOf];omega
   ·have db:((T[i].toNat:Int)==10)=false:=by simpa using hb
    have HS2:=Hd (show cntP T (i+1)=cntP T i by rw[HST.out,iN hb,Nat.add_zero]);clear hb;go_wp2;go_round
    case rel=>exact⟨i+1,by omega,by go_num,by rw[HS2.out]⟩
    case measure=>simp[intOf];omega
  ·obtain rfl:T.size=i:=by omega
   have HCT:=Hd (show cntP T T.size=nb+2 by rw[c2t];exact H2.cT);rw[HCT.out];clear hcl
   go_wp2_with fail
   go_loop [12,10] (fun iv nv=>∃ i:Nat,i≤U.size∧iv=.int .i64 i∧nv=.int .i64 (cntP U i)) (fun iv _=>U.size-(intOf iv).toNat)
   case atStart=>exact⟨0,Nat.zero_le _,rfl,rfl⟩
   case round =>
    obtain⟨j,hj,rfl,rfl⟩:=hrel;have hcl:=c6h U j;by_cases hlj:j<U.size
    ·have HST:=Hd (c6g hlj);by_cases hb:(U[j].toNat:Int)=10
     ·have db:((U[j].toNat:Int)==10)=true:=by simpa using hb
      have HS2:=Hd (show cntP U (j+1)=cntP U j+1 by rw[HST.out,iP hb]);clear hb;go_wp2;go_round
      case rel=>exact⟨j+1,by omega,by go_num,by rw[HS2.out];go_num⟩
      case measure=>simp[intOf];omega
     ·have db:((U[j].toNat:Int)==10)=false:=by simpa using hb
      have HS2:=Hd (show cntP U (j+1)=cntP U j by rw[HST.out,iN hb,Nat.add_zero]);clear hb;go_wp2;go_round
      case rel=>exact⟨j+1,by omega,by go_num,by rw[HS2.out]⟩
      case measure=>simp[intOf];omega
    ·obtain rfl:U.size=j:=by omega
     have HCU:=Hd (show cntP U U.size=nb+3 by rw[c2t];exact H2.cU);rw[HCU.out];clear hcl;obtain⟨X,hX⟩:=H2.last;have hT0:1≤T.size:=by rw[hX,ByteArray.size_append];show 1≤_+1;omega
     have hT1:T.size-1<T.size:=by omega
     have p1:((T.size:Int)+24==(T.size:Int)+24)=true:=by simp
     have p2:1≤(T.size:Int)∧(T.size:Int)-1<(T.size:Int):=by omega
     have p3:(nb:Int)+3=(nb:Int)+2+1:=by omega
     have p4:=d4h hX hT1;clear hX
     go_wp2_with fail
     refine(b1u (((HTB.below HB0).below HB1).below H.base)).mono ?_;rintro e9 w9 ⟨rfl,hb⟩;replace H:=Hd (H.below hb);clear hb;go_wp2;go_ret;exact⟨rfl,a1t HB0 (a1t HB1 H.base)⟩
end Go.Proofs.YtajhdeddgdhccaaGreatDoor
namespace Go.Proofs.YtajhdeddgdhccaaGreatDoor
open Go.ChangeShapes Go.WideShapes Go.ChangeAt Go.RowKit Go.Joins Go.Deep Go.Proofs.Tryz
variable {e t:TypeId}
section
variable {H : Type} {enc : TypeId × Value → H} {P : Program} {W : World} {r : Reach} {b0 : Nat}
theorem d2f {a:Option Addr}{len cap fuel:Nat}{x:DataW H × List MemPlace}(ht:P.underlying t=some (.slice e))(he:P.underlying e=some (.int .i64))(hc:P.cellsOf e=1)(hby:P.bytesOf e=8)
  (hf:DataW.trod enc P W 0 (fun _=>true) true fuel t [.slice a len cap]=some x)(hsz:∀ n∈x.1.weights P t,n≤reachBytes):
  ∃ zs,d3p .i64 W a len cap zs∧len≤17592186043904∧len≤cap:=by
 rcases open_ints ht he hc hf with ⟨hcs,_⟩|⟨y,l,c,zs,hcs,_,hl,hm,hz,hx,hcell,hwz⟩
 ·simp at hcs;obtain⟨rfl,rfl,rfl⟩:=hcs;exact⟨[],.inl ⟨rfl,rfl,rfl,rfl⟩,by omega,by omega⟩
 ·simp at hcs;obtain⟨rfl,rfl,rfl⟩:=hcs;have hzl:zs.length=cap:=by simpa using hz
  have hb:=hsz ((List.length (lits (H:=H) .i64 (zs.take len))+List.length (lits (H:=H) .i64 (zs.drop len)))*P.bytesOf e) (by rw[hx];simp[DataW.weights,ht]);rw[hby] at hb;simp only[lits,List.length_map,List.length_take,List.length_drop,reachBytes] at hb;exact⟨zs,.inr ⟨_,rfl,hl,hm,hzl,hcell,hwz⟩,by omega,hl⟩
theorem b5h {v:Value}{d:DataW H}{p:List MemPlace}(ht:P.underlying t=some (.slice e))(he:P.underlying e=some (.int .i64))(hc:P.cellsOf e=1)(hby:P.bytesOf e=8)
  (hv:Value.okWide P W r b0 t v)(h:DataW.Trod enc P W 0 (fun _=>true) true t v d p)(hsz:∀ n∈d.weights P t,n≤reachBytes):
  ∃ a len cap zs,v=.slice a len cap∧d3p .i64 W a len cap zs∧len≤17592186043904∧len≤cap:=by
 obtain⟨a,len,cap,rfl⟩:=okWide_slice ht hv;obtain⟨fuel,hf⟩:=h;obtain⟨zs,h1,h2⟩:=d2f (x:=(d,p)) ht he hc hby (by simpa [Value.cells] using hf) hsz;exact⟨a,len,cap,zs,rfl,h1,h2⟩
end
end Go.Proofs.YtajhdeddgdhccaaGreatDoor
