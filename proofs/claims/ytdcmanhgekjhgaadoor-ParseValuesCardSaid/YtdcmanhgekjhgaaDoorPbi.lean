import Derived.MakeChecks
import Derived.Test.YtdcmanhgekjhgaaDoorPbh
set_option maxRecDepth 100000
set_option maxHeartbeats 12800000
namespace Go.Proofs.YtdcmanhgekjhgaaDoor
open Go.RowKit Go.Proofs.Tryd
variable {n:Int} {t:ByteArray} {w:World}
theorem rn0:b1g [] 0:=⟨by decide,by decide,rfl,fun i x h=>by simp at h⟩
def c6c:a0w:=⟨[],⟨#[]⟩,[],[]⟩
theorem c9e (N:List a0j)(O:List Int):a6j ⟨[],⟨#[]⟩,N,O⟩=true:=by
 rw[c4m (by show 0≤3;omega) (fun i x h=>by simp at h)]
 show(decide (Sh.pr []≤8)&&a4v (a0a ⟨#[]⟩) 0)=true
 rw[show a0a ⟨#[]⟩=[] from rfl,b1w rn0];decide
theorem b6k:a0c c6c=(0,[]):=by
 rw[b0s (G:=c6c) (c9e _ _) ⟨by show 0≤48;omega,by show 0≤48;omega⟩ (l:=[]) rfl];rfl
theorem a9b:∀(f k:Nat),k≠0→k<10 ^ f→∃ b,(bl (digs f k)).head? = some b∧49≤b.toNat∧b.toNat≤57
 | 0,k,h0,h=>by simp at h;omega
 | f+1,k,h0,h=>by
  rw[digs,iN h0,a1t];by_cases hk:k / 10=0
  ·have hk9:k<10:=by omega
   have e:digs f (k / 10)=⟨#[]⟩:=by rw[hk];cases f <;> rfl
   rw[e];have hm:k % 10=k:=Nat.mod_eq_of_lt hk9;refine⟨UInt8.ofNat (48+k % 10),rfl,?_,?_⟩
   ·rw[UInt8.toNat_ofNat'];omega
   ·rw[UInt8.toNat_ofNat'];omega
  ·obtain⟨b,e1,e2⟩:=a9b f (k / 10) hk (by rw[Nat.pow_succ] at h;omega);refine⟨b,?_,e2⟩
   cases hd:bl (digs f (k / 10)) with
   | nil=>rw[hd] at e1;cases e1
   | cons x l=>rw[hd] at e1;exact e1
theorem b0a (h:Fits n):(n=0∧bl (numT n)=[48])∨(n<0∧∃ l b,bl (numT n)=45::l∧l.head? = some b∧49≤b.toNat∧b.toNat≤57)∨(0<n∧∃ b,(bl (numT n)).head? = some b∧49≤b.toNat∧b.toNat≤57):=by
 by_cases h0:n=0
 ·exact .inl ⟨h0,by subst h0;rfl⟩
 ·by_cases hn:n<0
  ·obtain⟨b,e⟩:=a9b 20 n.natAbs (by omega) (a9w h);refine .inr (.inl ⟨hn,bl (digs 20 n.natAbs),b,?_,e⟩);rw[numT,iN h0,iP hn,a1t];rfl
  ·obtain⟨b,e⟩:=a9b 20 n.natAbs (by omega) (a9w h);refine .inr (.inr ⟨by omega,b,?_⟩);rw[numT,iN h0,iN hn];exact e
theorem a8j (ht:1≤t.size):a0k (⟨#[48]⟩++t)=(0,false):=a2j fun ⟨m,hm,e⟩=>by
 have e2:bl (numT m)=48::bl t:=by rw[e,a1t];rfl
 rcases b0a hm with ⟨_,h1⟩|⟨_,l,b,h1,_⟩|⟨_,b,h1,h2,_⟩
 ·rw[h1] at e2;injection e2 with _ e3
  have:=congrArg List.length e3;rw[a1w,List.length_nil] at this;omega
 ·rw[h1] at e2;injection e2 with e3 _;exact absurd e3 (by decide)
 ·rw[e2] at h1;injection h1 with h1;subst h1
  exact absurd h2 (by decide)
theorem b6n:a0k (t++⟨#[32]⟩)=(0,false):=a2j fun ⟨m,hm,e⟩=>by
 have:=a2h hm (c:=32) (by decide);rw[e] at this;exact this (by rw[a1t];exact List.mem_append_right _ (by show(32:UInt8)∈[32];simp))
theorem b9r:a0k (⟨#[43]⟩++t)=(0,false):=a2j fun ⟨m,hm,e⟩=>by
 have:=a2h hm (c:=43) (by decide);rw[e] at this;exact this (by rw[a1t];exact List.mem_append_left _ (by show(43:UInt8)∈[43];simp))
theorem b6o (h:Fits n):(a0k (⟨#[45]⟩++numT n)).2=decide (0<n):=by
 by_cases hp:0<n
 ·have hf:Fits (-n):=⟨by have:=h.2;omega,by have:=h.1;omega⟩
  have e:numT (-n)=⟨#[45]⟩++numT n:=by
   rw[numT,iN (by omega),iP (by omega),Int.natAbs_neg,numT,iN (by omega),iN (by omega)];rfl
  rw[←e,a1g hf,decide_eq_true hp]
 ·rw[a2j,decide_eq_false hp];rintro⟨m,hm,e⟩;have e2:bl (numT m)=45::bl (numT n):=by rw[e,a1t];rfl
  have hn:∃ b,(bl (numT n)).head? = some b∧(b=48∨b=45):=by
   rcases b0a h with ⟨_,h1⟩|⟨_,l,b,h1,_⟩|⟨h1,_⟩
   ·exact⟨48,by rw[h1];rfl,.inl rfl⟩
   ·exact⟨45,by rw[h1];rfl,.inr rfl⟩
   ·exact absurd h1 hp
  obtain⟨b,hb,hb2⟩:=hn;rcases b0a hm with ⟨_,h1⟩|⟨_,l,c,h1,h2,h3,h4⟩|⟨_,c,h1,h2,_⟩
  ·rw[h1] at e2;injection e2 with e3 _;exact absurd e3 (by decide)
  ·rw[h1] at e2;injection e2 with _ e3
   rw[e3,hb] at h2;injection h2 with h2
   subst h2;rcases hb2 with rfl|rfl
   ·exact absurd h3 (by decide)
   ·exact absurd h3 (by decide)
  ·rw[e2] at h1;injection h1 with h1;subst h1
   exact absurd h2 (by decide)
theorem c3k (h:Free 32 t):a0g (t++⟨#[32]⟩++t)=[t,t]:=by
 refine a6x (ws:=[t]) ?_ h (fun w hw=>by rw[List.mem_singleton] at hw;subst hw;exact h);rw[a1t,a1t,c6h]
 show bl t++[32]++bl t=bl t++32::bl t
 simp
def b4t:ByteArray:=⟨#[109,101,115,104,32,45,10,111,117,116,115,10]⟩
theorem b9c:a2n b4t=(gZ,0):=by
 have hs:a0c gZ=(0,[]):=b6k
 have ht:a3g gZ=(b4t,0):=by
  have e:a1u gZ []=b4t:=by kernel_rfl
  rw[a8u (by rw[hs]) (by rw[hs];show ¬ 65536<(a1u gZ []).size;rw[e];decide),hs];exact congrArg (·, (0:Int)) e
 have h:=b9b (G:=gZ) ⟨fun x hx=>by simp[gZ] at hx,fun x hx=>by simp[gZ] at hx,fun x hx=>by simp[gZ] at hx⟩ ht;rw[h];have:a8c gZ=gZ:=rfl;rw[this]
theorem b6e:a2n ⟨#[]⟩=(gZ,12):=by
 unfold a2n;rw[iN (by decide),iP (.inr (by decide))]
theorem c5v:a0k ⟨#[45,55]⟩=(-7,true):=by
 rw[show(⟨#[45,55]⟩:ByteArray)=numT (-7) by kernel_rfl];exact a1g (n := -7) ⟨by omega,by omega⟩
theorem c5u:a0k ⟨#[48,49]⟩=(0,false):=a8j (t:=⟨#[49]⟩) (by decide)
theorem b3t (hT:Tabs w):Calls prog 7 #[] w fun e w'=>e=.returned (.bool true)∧Below w.heap.size w w':=by
 have HT:=Hd hT;have C1:=Hd (b1t (w:=w) b4t (by decide) hT);have C2:=Hd (fun (w' : World) (hb:Below w.heap.size w w')=>b1t (w:=w') ⟨#[]⟩ (by decide) (HT.below hb));have C3:=Hd (fun (w' : World) (hb:Below w.heap.size w w')=>a1j (w:=w') ⟨#[45,55]⟩ (by decide) (HT.below hb));have C4:=Hd (fun (w' : World) (hb:Below w.heap.size w w')=>a1j (w:=w') ⟨#[48,49]⟩ (by decide) (HT.below hb));have C5:=Hd (fun w' : World=>a7l w' ⟨#[97,32,32,98]⟩ (by decide));have C6:=Hd (fun w' : World=>a7l w' ⟨#[]⟩ (by decide));rw[b9c] at C1;rw[b6e] at C2;rw[c5v] at C3;rw[c5u] at C4;simp only[b4t] at C1;clear hT
 go_enter func7,ntmps7
 go_wp2_with fail
 refine C1.mono ?_;rintro e1 w1 ⟨v1,rfl,hG1,_,hb1⟩;obtain⟨A1,na1,ca1,B1,nb1,cb1,D1,nc1,cc1,rfl,hL1⟩:=hG1;obtain rfl:nb1=0:=hL1.inB.1.symm;have h2:=((Sep.nil w).below hb1).allocBox w1.heap.size 34 [.slice A1 na1 ca1,.string gZ.names,.slice B1 0 cb1,.slice D1 nc1 cc1] rfl;clear hL1 hb1 C1
 go_upto_region 2 with fail
 generalize w1.alloc (.cells #[.slice A1 na1 ca1,.string gZ.names,.slice B1 0 cb1,.slice D1 nc1 cc1] 34)=w2 at *;have H:=Hd h2;clear h2
 go_wp2_with fail
 refine(C2 w2 H.base).mono ?_;rintro e2 w3 ⟨v2,rfl,hG2,_,hb2⟩;obtain⟨A2,na2,ca2,B2,nb2,cb2,D2,nc2,cc2,rfl,hL2⟩:=hG2;have h4:=(H.below hb2).allocBox w3.heap.size 34 [.slice A2 na2 ca2,.string gZ.names,.slice B2 nb2 cb2,.slice D2 nc2 cc2] rfl;clear hL2 hb2 C2
 go_upto_region 3 with fail
 generalize w3.alloc (.cells #[.slice A2 na2 ca2,.string gZ.names,.slice B2 nb2 cb2,.slice D2 nc2 cc2] 34)=w4 at *;replace H:=Hd h4;clear h4
 go_wp2_with fail
 refine(C3 w4 H.base).mono ?_;rintro e3 w5 ⟨rfl,hb3⟩;replace H:=Hd (H.below hb3);clear hb3 C3
 go_wp2_with fail
 refine(C4 w5 H.base).mono ?_;rintro e4 w6 ⟨rfl,hb4⟩;replace H:=Hd (H.below hb4);clear hb4 C4;have g2:=H.c 1 2
 go_wp2_with fail
 refine(C5 w6).mono ?_;rintro e5 w7 ⟨A5,n5,c5,K5,rfl,hc5,hS5,hb5⟩;have hn5:n5=3:=hS5.1.symm;replace H:=Hd (H.below hb5);clear hS5 hb5 C5 g2;subst hn5
 go_wp2_with fail
 refine(C6 w7).mono ?_;rintro e6 w8 ⟨A6,n6,c6,K6,rfl,hc6,hS6,hb6⟩;have hn6:n6=1:=hS6.1.symm;replace H:=Hd (H.below hb6);clear hS6 hb6 C6;subst hn6;go_wp2;go_ret;exact⟨rfl,H.base⟩
theorem b2u (hn:Fits n)(hT:Tabs w):
  Calls prog 3 #[.int .i64 n] w fun e w'=>e=.returned (.bool true)∧Below w.heap.size w w':=by
 have HT:=Hd hT;have C1:=Hd (b0h (w:=w) hn);have v1:=a1g hn;have v2:=a8j (t:=numT n) (b7h n hn).1;have v3:=b6n (t:=numT n);have v4:=b9r (t:=numT n);have v5:=b6o hn;have v6:=c3k (t:=numT n) (a2h hn (by decide));have hsz:=a3a n;obtain⟨T,hTT⟩:∃ T,numT n=T:=⟨_,rfl⟩;rw[hTT] at C1 v1 v2 v3 v4 v5 v6 hsz;have z0:(⟨#[48]⟩:ByteArray).size=1:=rfl;have z1:(⟨#[32]⟩:ByteArray).size=1:=rfl;have z2:(⟨#[43]⟩:ByteArray).size=1:=rfl;have z3:(⟨#[45]⟩:ByteArray).size=1:=rfl;have D1:=Hd (fun (w' : World) (hb:Below w.heap.size w w')=>a1j (w:=w') T (by omega) (HT.below hb));have D2:=Hd (fun (w' : World) (hb:Below w.heap.size w w')=>a1j (w:=w') (⟨#[48]⟩++T) (by rw[ByteArray.size_append];omega) (HT.below hb));have D3:=Hd (fun (w' : World) (hb:Below w.heap.size w w')=>a1j (w:=w') (T++⟨#[32]⟩) (by rw[ByteArray.size_append];omega) (HT.below hb));have D4:=Hd (fun (w' : World) (hb:Below w.heap.size w w')=>a1j (w:=w') (⟨#[43]⟩++T) (by rw[ByteArray.size_append];omega) (HT.below hb));have D5:=Hd (fun (w' : World) (hb:Below w.heap.size w w')=>a1j (w:=w') (⟨#[45]⟩++T) (by rw[ByteArray.size_append];omega) (HT.below hb));have D6:=Hd (fun w' : World=>a7l w' (T++⟨#[32]⟩++T) (by rw[ByteArray.size_append,ByteArray.size_append];omega));obtain⟨⟨x5,b5⟩,hx5⟩:∃ r,a0k (⟨#[45]⟩++T)=r:=⟨_,rfl⟩;rw[hx5] at v5 D5;have hb5:b5=decide (0<n):=v5;subst hb5;rw[v1] at D1;rw[v2] at D2;rw[v3] at D3;rw[v4] at D4;rw[v6] at D6;have u1:(⟨#[48]⟩:ByteArray).size+T.size≤9223372036854775807:=by omega
 have u2:T.size+(⟨#[32]⟩:ByteArray).size≤9223372036854775807:=by omega
 have u3:(⟨#[43]⟩:ByteArray).size+T.size≤9223372036854775807:=by omega
 have u4:(⟨#[45]⟩:ByteArray).size+T.size≤9223372036854775807:=by omega
 have u5:(T++⟨#[32]⟩).size+T.size≤9223372036854775807:=by rw[ByteArray.size_append];omega
 have HTT:=Hd hTT;clear hT v1 v2 v3 v4 v5 v6 hx5 hTT z0 z1 z2 z3
 go_enter func3,ntmps3
 go_wp2_with fail
 refine C1.mono ?_;rintro e1 w1 ⟨rfl,rfl⟩;clear C1
 go_wp2_with fail
 refine(D1 w1 (Below.refl _ _)).mono ?_;rintro e2 w2 ⟨rfl,hb⟩;have HB2:=Hd hb;clear hb D1
 go_wp2_with fail
 refine(D2 w2 HB2).mono ?_;rintro e3 w3 ⟨rfl,hb⟩;have HB3:=Hd (a4o HB2 hb);clear hb D2 HB2
 go_wp2_with fail
 refine(D3 w3 HB3).mono ?_;rintro e4 w4 ⟨rfl,hb⟩;have HB4:=Hd (a4o HB3 hb);clear hb D3 HB3
 go_wp2_with fail
 refine(D4 w4 HB4).mono ?_;rintro e5 w5 ⟨rfl,hb⟩;have HB5:=Hd (a4o HB4 hb);clear hb D4 HB4
 go_wp2_with fail
 refine(D5 w5 HB5).mono ?_;rintro e6 w6 ⟨rfl,hb⟩;have HB6:=Hd (a4o HB5 hb);clear hb D5 HB5
 go_wp2_with fail
 refine(D6 w6).mono ?_;rintro e7 w7 ⟨A,m,c,K,rfl,hmc,hS,hb⟩;have HB7:=Hd (a4o HB6 hb);obtain rfl:m=2:=hS.1.symm;obtain⟨a,hA,_,k0,q0⟩:=hS.2.2.2 0 T rfl;obtain⟨a', hA', _,k1,q1⟩:=hS.2.2.2 1 T rfl;subst hA;injection hA' with hA'
 subst hA';rw[addZ] at k0;have k1:w7.cell? { block:=a.block,off:=a.off+1 }=some (.string T):=k1;have CK:=Hd (b3t (HT.below HB7));have e0:(T.toList==T.toList)=true:=by simp
 clear hb D6 HB6 hS q0 q1;by_cases hp:0<n
 ·have dp:decide (0<n)=true:=decide_eq_true hp;rw[dp]
  go_wp2_with fail
  refine CK.mono ?_;rintro e8 w8 ⟨rfl,hb⟩;have HB8:=Hd (a4o HB7 hb);clear hb;go_wp2;go_ret;exact⟨rfl,HB8⟩
 ·have dp:decide (0<n)=false:=decide_eq_false hp;rw[dp]
  go_wp2_with fail
  refine CK.mono ?_;rintro e8 w8 ⟨rfl,hb⟩;have HB8:=Hd (a4o HB7 hb);clear hb;go_wp2;go_ret;exact⟨rfl,HB8⟩
def c6g (l:List ByteArray):DataW Unit:=.agg (l.map fun s=>.lit (.string s.data.toList))
theorem b5s {P:Program}{W:World}{name:String}{d:DataW Unit}:∀ {L:List (String × DataW Unit)} {ps:List MemPlace} {i:Nat},DataW.LaidVars P W L ps→L[i]?=some (name,d) →
  ∃ g t cs fuel p,P.globalNamed name=some g∧(P.globals[g]?).map (·.type)=some t∧W.var? P name=some cs∧DataW.trod (fun _=>()) P W 0 (fun _=>true) false fuel t cs.toList=some (d,p)
 | [],_,_,_,hi=>by simp at hi
 | _::_,_,0,h,hi=>by
  obtain⟨g,t,cs,fuel,p,q,h1,h2,h3,h4,_,_⟩:=h;simp only[List.getElem?_cons_zero,Option.some.injEq] at hi;obtain⟨rfl,rfl⟩:=hi
  exact⟨g,t,cs,fuel,p,h1,h2,h3,h4⟩
 | _::_,_,i+1,h,hi=>by
  obtain⟨_,_,_,_,_,_,_,_,_,_,h5,_⟩:=h;exact b5s h5 (by simpa using hi)
theorem c0d {a b:ByteArray}(h:a.data.toList=b.data.toList):a=b:=ByteArray.ext (Array.toList_inj.1 h)
theorem b6l {P:Program}{fuel:Nat}{t e:TypeId}{n:Nat}{cs:List Value}{l:List ByteArray}{p:List MemPlace}(hl:l.length=n)
  (ht:P.underlying t=some (.array n e))(he:P.underlying e=some .string)(hce:P.cellsOf e=1)(hct:P.cellsOf t=n)
  (h:DataW.trod (fun _=>()) P w 0 (fun _=>true) false fuel t cs=some (c6g l,p)):cs=l.map Value.string:=by
 obtain⟨xs,m,_,hx,hlen,hn,hel⟩:=DataW.trod_array ht h;rw[hce] at hel
 have hx1:l.map (fun s=>(DataW.lit (.string s.data.toList):DataW Unit))=xs.map (·.1):=by
  have:=congrArg Prod.fst hx;injection this
 refine List.ext_getElem (by rw[List.length_map,hlen,hct,hl]) fun i h1 h2=>?_
 have hi:i<n:=by rw[List.length_map,hl] at h2;exact h2
 have hi2:i<xs.length:=by omega
 have h0:=hel i hi;rw[List.getElem?_eq_getElem hi2] at h0;obtain⟨s,e1,e2,_⟩:=DataW.trod_string he h0
 have e3:cs[i]=.string s:=by
  have:=congrArg (fun r:List Value=>r[0]?) e1;simp only[Nat.mul_one,List.getElem?_take,List.getElem?_drop] at this;rw[iP (by omega),Nat.add_zero,List.getElem?_eq_getElem h1] at this;exact Option.some.inj this
 have e4:(DataW.lit (.string (l[i]'(by rw[hl];exact hi)).data.toList):DataW Unit)=xs[i].1:=by
  have:=congrArg (fun r:List (DataW Unit)=>r[i]?) hx1;simp only[List.getElem?_map] at this;rw[List.getElem?_eq_getElem hi2,List.getElem?_eq_getElem (by rw[hl];exact hi)] at this;exact Option.some.inj this
 rw[e2] at e4;injection e4 with e5
 injection e5 with e6
 rw[e3,List.getElem_map,c0d e6]
theorem c7w {W:World}{L:List (String × DataW Unit)}(h:laidMetH prog L W)(hp:(L.all fun x=>x.2.handleName?.isNone)=true)(i j:Nat)
  (hi:L[i]?=some ("internal/strconv.uint64pow10", Lib.tabData .u64 Lib.pow10Tab))(hj:L[j]?=some ("parquetry/wire.ops", c6g opN)):Tabs W:=by
 rw[MakeChecks.laidMetH_plain _ _ _ hp] at h;obtain⟨ps,hv,_,_⟩:=h;refine⟨?_,?_⟩
 ·obtain⟨g,t,cs,fuel,p,h1,h2,h3,h4⟩:=b5s hv hi;obtain rfl:=Option.some.inj ((show prog.globalNamed "internal/strconv.uint64pow10" = some 0 by kernel_rfl).symm.trans h1);obtain rfl:=Option.some.inj ((show(prog.globals[0]?).map (·.type)=some 95 by kernel_rfl).symm.trans h2);have e:=Lib.cells_of_tab underlying95 underlying71 (by kernel_rfl) (by kernel_rfl) h4;unfold TabP Lib.TabIs;rw[h3,←e]
 ·obtain⟨g,t,cs,fuel,p,h1,h2,h3,h4⟩:=b5s hv hj;obtain rfl:=Option.some.inj ((show prog.globalNamed "parquetry/wire.ops" = some 1 by kernel_rfl).symm.trans h1);obtain rfl:=Option.some.inj ((show(prog.globals[1]?).map (·.type)=some 108 by kernel_rfl).symm.trans h2);have e:=b6l (l:=opN) rfl underlying108 underlying9 (by kernel_rfl) (by kernel_rfl) h4;unfold TabO;rw[h3,←e]
end Go.Proofs.YtdcmanhgekjhgaaDoor
