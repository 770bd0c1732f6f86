import Derived.Test.YtdcmanhgekjhgaaGreatDoorPbc
set_option maxRecDepth 100000
set_option maxHeartbeats 12800000
namespace Go.Proofs.YtdcmanhgekjhgaaGreatDoor
open Go.RowKit Go.Proofs.Tryz
variable {A:Option Addr} {K c k n:Nat} {w w1:World} {x:ByteArray}
def idxI (x:ByteArray):List ByteArray→Nat→Int
 | [],_ => -1
 | y::l,k=>if y=x then(k:Int) else idxI x l (k+1)
def idxS (L:List ByteArray) (x:ByteArray):Int:=idxI x L 0
theorem c5j (x:ByteArray):∀(L:List ByteArray) (k:Nat),(idxI x L k = -1∧x∉L)∨∃ P R,L=P++x::R∧x∉P∧idxI x L k=((k+P.length:Nat):Int)
 | [],k=>.inl ⟨rfl,by simp⟩
 | y::L,k=>by
  by_cases h:y=x
  ·subst h;exact .inr ⟨[],L,rfl,by simp,by rw[idxI,iP rfl];rfl⟩
  ·rw[idxI,iN h];rcases c5j x L (k+1) with ⟨h1,h2⟩|⟨P,R,h1,h2,h3⟩
   ·exact .inl ⟨h1,fun hm=>(List.mem_cons.1 hm).elim (fun e=>h e.symm) h2⟩
   ·exact .inr ⟨y::P,R,by rw[h1];rfl,fun hm=>(List.mem_cons.1 hm).elim (fun e=>h e.symm) h2,by rw[h3,List.length_cons];exact congrArg Int.ofNat (by omega)⟩
theorem b7p (L:List ByteArray)(x:ByteArray):(idxS L x = -1∧x∉L)∨∃ P R,L=P++x::R∧x∉P∧idxS L x=(P.length:Int):=by
 rcases c5j x L 0 with h|⟨P,R,h1,h2,h3⟩
 ·exact .inl h
 ·exact .inr ⟨P,R,h1,h2,by rw[idxS,h3,Nat.zero_add]⟩
def hasB (L:List ByteArray) (x:ByteArray):Bool:=L.any fun y=>decide (y=x)
theorem d0t {L:List ByteArray}(h:x∈L):hasB L x=true:=List.any_eq_true.2 ⟨x,h,decide_eq_true rfl⟩
theorem d6h {L:List ByteArray}(h:x∉L):hasB L x=false:=by
 cases hb:hasB L x with
 | false=>rfl
 | true =>
  obtain⟨y,hy,e⟩:=List.any_eq_true.1 hb;exact absurd (by rw[←of_decide_eq_true e];exact hy) h
theorem e0u (L:List ByteArray)(x:ByteArray):decide (0≤idxS L x)=hasB L x:=by
 rcases b7p L x with ⟨h1,h2⟩|⟨P,R,h1,h2,h3⟩
 ·rw[h1,d6h h2];rfl
 ·rw[h3,d0t (show x∈L by rw[h1];simp),decide_eq_true (by omega)]
theorem d6m {y:ByteArray}{L:List ByteArray}(h:L[k]?=some y):idxI x (L.drop k) k=if y=x then(k:Int) else idxI x (L.drop (k+1)) (k+1):=by
 obtain⟨h3,h4⟩:=List.getElem?_eq_some_iff.1 h;rw[List.drop_eq_getElem_cons h3,h4,idxI]
theorem c2c {L:List ByteArray}(hS:Strs w K A n L)(x:ByteArray):
  Calls prog 125 #[.slice A n c,.string x] w fun e w'=>e=.returned (.int .i64 (idxS L x))∧w'=w:=by
 have hL:=hS.1;have hn9:=hS.2.1;have HS:=Hd hS;clear hS
 go_enter func125,ntmps125
 go_wp2_with fail
 go_loop [8] (fun iv=>∃ i:Nat,iv=.int .i64 i∧i≤n∧idxI x (L.drop i) i=idxS L x) (fun iv=>n-(intOf iv).toNat)
 case atStart=>exact⟨0,rfl,by omega,rfl⟩
 case round =>
  obtain⟨i,rfl,hi,hE⟩:=hrel;have HE:=Hd hE;clear hE;by_cases hlt:i<n
  ·have d0:decide ((i:Int)<(n:Int))=true:=decide_eq_true (by omega);obtain⟨y,hy⟩:∃ y,L[i]?=some y:=gE (by rw[hL];exact hlt);obtain⟨a,rfl,_,c0,_⟩:=HS.out.2.2.2 i y hy;have HST:=Hd (d6m (x:=x) hy);clear hy;by_cases hq:y=x
   ·have dq:(x.toList==y.toList)=true:=by rw[eqS,decide_eq_true hq.symm]
    have HY:=Hd (show idxS L x=(i:Int) by rw[←HE.out,HST.out,iP hq]);clear hq;go_wp2;go_ret;exact⟨by rw[HY.out];rfl,rfl⟩
   ·have dq:(x.toList==y.toList)=false:=by rw[eqS,decide_eq_false (fun e=>hq e.symm)]
    have HY:=Hd (show idxI x (L.drop (i+1)) (i+1)=idxS L x by rw[←HE.out,HST.out,iN hq]);clear hq;go_wp2;go_round
    case rel=>exact⟨i+1,by go_num,by omega,HY⟩
    case measure=>simp[intOf];omega
  ·have d0:decide ((i:Int)<(n:Int))=false:=decide_eq_false (by omega);obtain rfl:n=i:=by omega
   have HY:=Hd (show idxS L x = -1 by rw[←HE.out,List.drop_of_length_le (by omega)];rfl);go_wp2;go_ret;exact⟨by rw[HY.out];rfl,rfl⟩
theorem c3x {L:List ByteArray}(hS:Strs w K A n L)(x:ByteArray):
  Calls prog 124 #[.slice A n c,.string x] w fun e w'=>e=.returned (.bool (hasB L x))∧w'=w:=by
 have C:=c2c (c:=c) hS x;have HM:=Hd (e0u L x);clear hS;obtain⟨z,hz⟩:∃ z,idxS L x=z:=⟨_,rfl⟩;rw[hz] at C HM;clear hz
 go_enter func124,ntmps124
 go_wp2_with fail
 refine C.mono ?_;rintro e1 w1 ⟨rfl,rfl⟩;clear C;go_wp2;go_ret;exact⟨by rw[←HM.out];rfl,rfl⟩
def b2j (s:ByteArray):Bool := !hasB (a0u s) ⟨#[]⟩
theorem b8s (w:World)(s:ByteArray)(hs:s.size≤90000):
  Calls prog 96 #[.string s] w fun e w'=>∃ A n c K,e=.returned (.tuple #[.slice A n c,.bool (b2j s)])∧n≤c∧Strs w' K A n (a0u s)∧Below w.heap.size w w'∧w.heap.size≤K:=by
 have C1:=b8u w s hs;have hws:=a4c hs;have hwl:=a4g s;obtain⟨b,hb⟩:∃ b,hasB (a0u s) ⟨#[]⟩=b:=⟨_,rfl⟩;have hfb:b2j s = !b:=by rw[b2j,hb]
 rw[hfb];have HB:=Hd hb;clear hb hfb
 go_enter func96,ntmps96
 go_wp2_with fail
 refine C1.mono ?_;rintro e1 w1 ⟨v,rfl,hP⟩;obtain⟨A,c,K,rfl,hc,hS,hb1,hK⟩:=hP.strs hws (by omega);have C2:=c3x (c:=c) hS ⟨#[]⟩;rw[HB.out] at C2;have HS:=Hd hS;have HB1:=Hd hb1;clear hP hS hb1 C1 hws;obtain⟨N,hN⟩:∃ N,(a0u s).length=N:=⟨_,rfl⟩;rw[hN] at C2 HS hc ⊢;clear hN hwl
 go_wp2_with fail
 refine C2.mono ?_;rintro e2 w2 ⟨rfl,rfl⟩;clear C2;go_wp2;go_ret2;exact⟨A,N,c,K,rfl,hc,HS,HB1,hK⟩
theorem e5g (s:ByteArray)(hT:Tabs w):
  Calls prog 98 #[.string s] w fun e w'=>e=.returned (.tuple #[.int .i64 (opF s),.bool (decide (0<opF s))])∧w'=w:=by
 have HT:=Hd hT;clear hT
 go_enter func98,ntmps98
 go_wp2_with fail
 go_loop [4] (fun iv=>∃ i:Nat,iv=.int .i64 i∧1≤i∧i≤21∧opI s (opN.drop i) i=opF s) (fun iv=>21-(intOf iv).toNat)
 case atStart=>exact⟨1,rfl,by omega,by omega,by
  have h:=c3j (s:=s) (k:=0) (show opN[0]?=some ⟨#[]⟩ from rfl);rw[iN (by omega)] at h
  rw[←h];rfl⟩
 case round =>
  obtain⟨i,rfl,hi1,hi,hE⟩:=hrel;have HE:=Hd hE;clear hE;by_cases hlt:i<21
  ·have d0:decide ((i:Int)≤20)=true:=decide_eq_true (by omega);obtain⟨x,hx⟩:∃ x,opN[i]?=some x:=gE (by show i<21;exact hlt);have HST:=Hd (c3j (s:=s) hx)
   have hnx:a5s i=x:=by
    have:=c3f hi1 (by omega:i≤20);rw[List.getElem?_map,hx] at this;simpa using this.symm
   have CN:=c7q w (op:=(i:Int)) ⟨by omega,by omega⟩ HT;rw[hnx] at CN;clear hx hnx;by_cases hq:x=s
   ·have dq:(x.toList==s.toList)=true:=by rw[eqS,decide_eq_true hq]
    have HY:=Hd (show opF s=(i:Int) by rw[←HE.out,HST.out,iP ⟨by omega,hq⟩]);clear hq
    go_wp2_with fail
    refine CN.mono ?_;rintro e1 w1 ⟨rfl,rfl⟩;clear CN;go_wp2;go_ret2;rw[HY.out,decide_eq_true (by omega)];exact⟨rfl,rfl⟩
   ·have dq:(x.toList==s.toList)=false:=by rw[eqS,decide_eq_false hq]
    have HY:=Hd (show opI s (opN.drop (i+1)) (i+1)=opF s by rw[←HE.out,HST.out,iN (fun h=>hq h.2)]);clear hq
    go_wp2_with fail
    refine CN.mono ?_;rintro e1 w1 ⟨rfl,rfl⟩;clear CN;go_wp2;go_round
    case rel=>exact⟨i+1,by go_num,by omega,by omega,HY⟩
    case measure=>simp[intOf];omega
  ·have d0:decide ((i:Int)≤20)=false:=decide_eq_false (by omega);obtain rfl:i=21:=by omega
   have HY:=Hd (show opF s=0 by rw[←HE.out];rfl);go_wp2;go_ret2;rw[HY.out];exact⟨rfl,rfl⟩
theorem c7n {s:ByteArray}(h:(a0t s).2=false):(a0t s).1=0:=by
 by_cases hv:∃ n,Fits n∧numT n=s
 ·obtain⟨n,hn,rfl⟩:=hv;rw[a3s hn] at h;cases h
 ·rw[a6g hv]
theorem d1p (s:ByteArray)(hs:s.size≤90000)(hT:Tabs w):
  Calls prog 100 #[.string s] w fun e w'=>e=.returned (.tuple #[.int .i64 (a0t s).1,.bool (a0t s).2])∧Below w.heap.size w w':=by
 have C:=a7e s hs hT;have hf:=c7n (s:=s);obtain⟨⟨m,b⟩,hv⟩:∃ r,a0t s=r:=⟨_,rfl⟩;rw[hv] at C hf ⊢;have HF:=Hd hf;clear hv hf hT
 go_enter func100,ntmps100
 go_wp2_with fail
 refine C.mono ?_;rintro e1 w1 ⟨rfl,hb⟩;have HB:=Hd hb;clear C hb
 cases b with
 | true =>
  go_wp2;go_ret2
  exact⟨rfl,HB⟩
 | false =>
  obtain rfl:m=0:=HF.out rfl;go_wp2;go_ret2;exact⟨rfl,HB⟩
noncomputable def allB (L:List ByteArray):Bool:=L.all fun x=>(a0t x).2
noncomputable def c4i (L:List ByteArray):List Int:=L.map fun x=>(a0t x).1
theorem b2u (x:ByteArray)(L:List ByteArray):allB (x::L)=((a0t x).2&&allB L):=rfl
theorem b3p:∀ {L:List ByteArray},allB L=true→a2x L false=(c4i L,[],false)
 | [],_=>rfl
 | x::L,h=>by
  rw[b2u,Bool.and_eq_true] at h;rw[a2x,h.1]
  show((a0t x).1::(a2x L false).1,(a2x L false).2)=_
  rw[b3p h.2];rfl
theorem d3t:∀ L:List ByteArray,(a2x L true).2.2=true
 | []=>rfl
 | _::_=>rfl
theorem d1s:∀ {L:List ByteArray},allB L=false→(a2x L false).2.2=true
 | [],h=>by cases h
 | x::L,h=>by
  rw[b2u] at h;rw[a2x]
  cases hx:(a0t x).2 with
  | true=>rw[hx,Bool.true_and] at h;exact d1s h
  | false=>exact d3t L
theorem c9n (L:List ByteArray):(a2x L false).2.2 = !allB L:=by
 cases h:allB L with
 | true=>rw[b3p h];rfl
 | false=>rw[d1s h];rfl
theorem b4p:∀ {P R:List ByteArray},shT1∉P→allB P=true→a2j (P++shT1::R)=(c4i P,R,false)
 | [],R,_,_=>by rw[List.nil_append,a2j,iP rfl];rfl
 | x::P,R,hP,h=>by
  rw[b2u,Bool.and_eq_true] at h;rw[List.cons_append,a2j,iN (fun e=>hP (by rw[e];exact List.mem_cons_self)),iP h.1,b4p (fun hm=>hP (List.mem_cons_of_mem _ hm)) h.2];rfl
theorem b8f:∀ {P R:List ByteArray},shT1∉P→allB P=false→(a2j (P++shT1::R)).2.2=true
 | [],R,_,h=>by cases h
 | x::P,R,hP,h=>by
  rw[List.cons_append,a2j,iN (fun e=>hP (by rw[e];exact List.mem_cons_self))]
  cases hx:(a0t x).2 with
  | true=>rw[iP rfl];exact b8f (fun hm=>hP (List.mem_cons_of_mem _ hm)) (by rw[b2u,hx,Bool.true_and] at h;exact h)
  | false=>rw[iN (by simp)]
theorem b8h:∀ {M:List ByteArray},shT1∉M→(a2j M).2.2=true
 | [],_=>rfl
 | x::M,h=>by
  rw[a2j,iN (fun e=>h (by rw[e];exact List.mem_cons_self))]
  split
  ·exact b8h (fun hm=>h (List.mem_cons_of_mem _ hm))
  ·rfl
theorem e6r:opT1≠shT1:=by decide
theorem b1f {L:List ByteArray}(h:shT1∉L∨L.headD ⟨#[]⟩≠opT1):(a1w L false).2.2=true:=by
 unfold a1w;by_cases h1:L.headD ⟨#[]⟩≠opT1∨(false||L.isEmpty)=true
 ·rw[iP h1]
 ·rw[iN h1];rcases h with h|h
  ·exact b8h (fun hm=>h (List.mem_of_mem_drop hm))
  ·exact absurd (.inl h) h1
theorem d1b {P R:List ByteArray}:a1w (opT1::(P++shT1::R)) false=a2j (P++shT1::R):=by
 unfold a1w;rw[iN (by simp)];rfl
theorem Strs.from_ {L:List ByteArray}(h:Strs w K A n L)(hk:k≤n):Strs w K (A.map fun a=>a.add k) (n-k) (L.drop k) :=
 ⟨by rw[List.length_drop,h.1],by have:=h.2.1;omega,fun x hx=>h.2.2.1 x (List.mem_of_mem_drop hx),fun j x hx=>by
  rw[List.getElem?_drop] at hx;obtain⟨a,e,h1,h2,h3⟩:=h.2.2.2 (k+j) x hx;subst e
  exact⟨a.add k,rfl,by rw[a0d];exact h1,by rw[b0w];exact h2,by rw[a0d];exact h3⟩⟩
theorem Strs.upto {L:List ByteArray}(h:Strs w K A n L)(hk:k≤n):Strs w K A k (L.take k) :=
 ⟨by rw[List.length_take,h.1];omega,by have:=h.2.1;omega,fun x hx=>h.2.2.1 x (List.mem_of_mem_take hx),fun j x hx=>by
  rw[List.getElem?_take] at hx
  split at hx
  ·exact h.2.2.2 j x hx
  ·cases hx⟩
theorem b0r {B:Option Addr}{L:List ByteArray}(h:Strs w K A 0 L):Strs w K B 0 L:=by
 obtain rfl:L=[]:=List.eq_nil_of_length_eq_zero h.1;exact c4b _ _ _
theorem b3s {L:List ByteArray}(hL:Strs w1 K A n L)(hc:n≤c)(hk:k≤n):
  ∃ A2:Option Addr,(∀ w,(Instr.slice 32 (.slice A n c) (some (.int .i64 (k:Int))) none none).run prog w=.ok (.slice A2 (n-k) (c-k)) w)∧Strs w1 K A2 (n-k) (L.drop k):=by
 have hu:prog.underlying 32=some (.slice 9):=by kernel_rfl
 have hn9:=hL.2.1;by_cases hn0:n=0
 ·subst hn0;obtain rfl:k=0:=by omega
  have hD:=hL.from_ (k:=0) (Nat.le_refl _);by_cases hc0:c=0
  ·subst hc0
   cases A with
   | none=>exact⟨none,fun w=>by go_simp,b0r hD⟩
   | some a=>exact⟨some a,fun w=>by go_simp,b0r hD⟩
  ·cases A with
   | none=>exact⟨none,fun w=>by go_simp;try (intro h;omega),b0r hD⟩
   | some a=>exact⟨some (a.add 0),fun w=>by go_simp;try (intro h;omega),b0r hD⟩
 ·obtain⟨x,hx⟩:∃ x,L[0]?=some x:=gE (by rw[hL.1];omega);obtain⟨a,rfl,_⟩:=hL.2.2.2 0 x hx;have hD:=hL.from_ hk;by_cases hck:c=k
  ·subst hck;have h1:n=c:=by omega
   subst h1;refine⟨some a,fun w=>?_,?_⟩
   ·go_simp
   ·have e:n-n=0:=Nat.sub_self n;rw[e] at hD ⊢;exact b0r hD
  ·refine⟨some (a.add k),fun w=>?_,hD⟩;have h2:k≤c:=by omega
   go_simp
   try (intro h;omega)
theorem d1t {L:List ByteArray}(hL:Strs w1 K A n L)(hc:n≤c){j:Nat}(hj:j≤k)(hk:k<n):
  ∃ A2:Option Addr,(∀ w,(Instr.slice 32 (.slice A n c) (some (.int .i64 (j:Int))) (some (.int .i64 (k:Int))) none).run prog w=.ok (.slice A2 (k-j) (c-j)) w)∧Strs w1 K A2 (k-j) ((L.drop j).take (k-j)):=by
 have hu:prog.underlying 32=some (.slice 9):=by kernel_rfl
 have hn9:=hL.2.1;obtain⟨x,hx⟩:∃ x,L[0]?=some x:=gE (by rw[hL.1];omega);obtain⟨a,rfl,_⟩:=hL.2.2.2 0 x hx;have hD:=(hL.from_ (k:=j) (by omega)).upto (k:=k-j) (by omega);refine⟨some (a.add j),fun w=>?_,hD⟩;have h2:j≤c:=by omega
 have h3:k≤c:=by omega
 have h4:¬ c=j:=by omega
 go_simp
 try (intro h;omega)
theorem b0h {L:List ByteArray}(hS:Strs w K A n L)(hT:Tabs w):
  Calls prog 97 #[.slice A n c] w fun e w'=>∃ v m l,e=.returned (.tuple #[v,.bool (allB L)])∧Sep w w' [.own 3 v m l]∧(allB L=true→l=c4i L):=by
 have hL:=hS.1;have hn9:=hS.2.1;have hmk:=fun w:World=>a9g (t:=25) (e:=3) underlying25 Tryz.infoInt (n:=n) (by omega) w
 have H:=Hd ((Sep.nil w).room 3 n (by omega));have HS:=Hd hS;have HT:=Hd hT;clear hS hT
 go_enter func97,ntmps97
 go_wp2_with fail
 go_loopw [14,4] (fun iv sv wr=>∃(i:Nat) (x:Value),x=sv∧iv=.int .i64 i∧i≤n∧allB (L.take i)=true∧Sep w wr [.own 3 x i (c4i (L.take i))]) (fun iv _ _=>n-(intOf iv).toNat)
 case atStart=>exact⟨0,_,rfl,rfl,by omega,rfl,H⟩
 case round =>
  clear H;obtain⟨i,x,rfl,rfl,hi,hal,hSe⟩:=hrel;have H:=Hd hSe;have HA:=Hd hal;clear hSe hal hmk;by_cases hlt:i<n
  ·have d0:decide ((i:Int)<(n:Int))=true:=decide_eq_true (by omega);obtain⟨y,hy⟩:∃ y,L[i]?=some y:=gE (by rw[hL];exact hlt);have hyz:=HS.out.2.2.1 y (mG hy);obtain⟨a,hA,_,c0,_⟩:=(HS.below H.base).2.2.2 i y hy;subst hA;have htk:L.take (i+1)=L.take i++[y]:=by rw[List.take_add_one,hy];rfl
   have C:=d1p (w:=wr) y hyz (HT.below H.base)
   have hno:(a0t y).2=false→allB L=false:=fun h=>by
    have hm:y∈L:=mG hy
    cases hq:allB L with
    | false=>rfl
    | true=>have:=List.all_eq_true.1 hq y hm;rw[h] at this;cases this
   have hyes:(a0t y).2=true→allB (L.take (i+1))=true:=fun h=>by
    rw[htk];unfold allB;rw[List.all_append];have:=HA.out;unfold allB at this;rw[this];simp[h]
   have hvs:c4i (L.take (i+1))=c4i (L.take i)++[(a0t y).1]:=by rw[htk];unfold c4i;rw[List.map_append];rfl
   have hfy:=a5c y;obtain⟨⟨m,b⟩,hv⟩:∃ r,a0t y=r:=⟨_,rfl⟩;rw[hv] at C hno hyes hvs hfy;have HNO:=Hd hno;have HYES:=Hd hyes;have HVS:=Hd hvs;clear hv hno hyes hvs htk hy hyz
   go_wp2_with fail
   refine C.mono ?_;rintro e1 w1 ⟨rfl,hb⟩;replace H:=Hd (H.below hb);clear C hb c0
   cases b with
   | false =>
    have HX:=Hd (HNO rfl);go_wp2;go_ret2;rw[HX.out]
    exact⟨_,0,[],rfl,(Sep.ofBelow H.base).addNil 3,fun h=>by cases h⟩
   | true =>
    have HY:=Hd (HYES rfl)
    go_wp2_with (at_builtin;refine a0o rfl (.tmp 25) (.tmp 27) 25 3 rfl underlying25 Tryz.infoInt H.out 0 rfl rfl m hfy _ rfl ?c1 ?_)
    case c1=>omega
    intro v3 w3 h3;have H3:=Hd h3;clear h3;go_wp2;go_roundw
    case rel=>exact⟨i+1,v3,rfl,by go_num,by omega,HY,by rw[HVS.out];exact H3⟩
    case measure=>simp[intOf];omega
  ·have d0:decide ((i:Int)<(n:Int))=false:=decide_eq_false (by omega);obtain rfl:n=i:=by omega
   have htk:L.take n=L:=List.take_of_length_le (by omega);rw[htk] at HA H;go_wp2;go_ret2;rw[HA.out];exact⟨_,_,_,rfl,H,fun _=>rfl⟩
theorem b8t {w0:World}{L:List ByteArray}(hS0:Strs w0 K A n L)(hb0:Below w0.heap.size w0 w)(hc:n≤c)(hT:Tabs w):
  Calls prog 99 #[.slice A n c] w fun e w'=>∃ v m l A2 n2 c2,e=.returned (.tuple #[v,.slice A2 n2 c2,.bool (!(a1w L false).2.2)])∧Sep w w' [.own 3 v m l]∧((a1w L false).2.2=false→l=(a1w L false).1∧n2≤c2∧Strs w0 K A2 n2 (a1w L false).2.1):=by
 have hS:=hS0.below hb0;have C1:=c2c (c:=c) hS shT1;have hn9:=hS.2.1;have hL:=hS.1;have HT:=Hd hT;clear hT;rcases b7p L shT1 with ⟨hi,hno⟩|⟨P0,R,hLf,hP0,hi⟩
 ·have HF:=Hd (b1f (.inl hno));rw[hi] at C1;clear hno hS hS0 hb0;simp only[shT1] at C1
  go_enter func99,ntmps99
  go_wp2_with fail
  refine C1.mono ?_;rintro e1 w1 ⟨rfl,rfl⟩;clear C1;go_wp2;go_ret3;rw[HF.out];exact⟨_,0,[],none,0,0,rfl,(Sep.nil _).addNil 3,fun h=>by cases h⟩
 ·rw[hi] at C1;have hpl:P0.length<n:=by rw[←hL,hLf];simp
  obtain⟨x,hx⟩:∃ x,L[0]?=some x:=gE (by rw[hL];omega);have hhd:L.headD ⟨#[]⟩=x:=by cases L with|nil=>cases hx|cons y L=>injection hx
  obtain⟨a,hA,_,c0,_⟩:=hS.2.2.2 0 x hx;subst hA;rw[addZ] at c0;by_cases hop:x=opT1
  ·subst hop
   obtain⟨P,rfl⟩:∃ P,P0=opT1::P:=by
    cases P0 with
    | nil=>rw[hLf] at hx;injection hx with hx;exact absurd hx.symm e6r
    | cons y P=>rw[hLf] at hx;injection hx with hx;exact⟨P,by rw[hx]⟩
   have hFL:=d1b (P:=P) (R:=R);have hP:shT1∉P:=fun hm=>hP0 (List.mem_cons_of_mem _ hm)
   have hLf2:L=opT1::(P++shT1::R):=hLf;rw[←hLf2] at hFL;have hk1:P.length+1=(opT1::P).length:=rfl;obtain⟨k,hk⟩:∃ k,P.length=k:=⟨_,rfl⟩;have hpk:(opT1::P).length=k+1:=by rw[←hk1,hk]
   rw[hpk] at C1 hpl;obtain⟨A1,hr1,hS1⟩:=d1t hS hc (j:=1) (k:=k+1) (by omega) hpl;obtain⟨A2,hr2,hS2⟩:=b3s hS0 hc (k:=k+2) (by omega);have hd1:(L.drop 1).take (k+1-1)=P:=by rw[hLf2,Nat.add_sub_cancel,←hk];simp
   have hd2:L.drop (k+2)=R:=by
    rw[hLf2,←hk,show P.length+2=1+(P.length+1) by omega,←List.drop_drop,List.drop_one,List.tail_cons,←List.drop_drop,List.drop_left];rfl
   rw[hd1,Nat.add_sub_cancel] at hS1;rw[hd2] at hS2;have hga:allB P=true→a1w L false=(c4i P,R,false):=fun h=>by rw[hFL,b4p hP h]
   have hgn:allB P=false→(a1w L false).2.2=true:=fun h=>by rw[hFL,b8f hP h]
   have C2:=b0h hS1 (c:=c-1) HT;obtain⟨b,hb⟩:∃ b,allB P=b:=⟨_,rfl⟩;rw[hb] at hga hgn C2;have HGA:=Hd hga;have HGN:=Hd hgn;have HS2:=Hd hS2;have HR1:=Hd hr1;have HR2:=Hd hr2;clear hga hgn hb hd1 hd2 hS1 hS2 hFL hP hLf2 hk1 hpk hk hx hhd hLf hP0 hS hS0 hb0 hr1 hr2 hi hL;have hr1:∀ w,(Instr.slice 32 (.slice (some a) n c) (some (.int .i64 1)) (some (.int .i64 ((k:Int)+1))) none).run prog w=.ok (.slice A1 k (c-1)) w:=HR1.out;rw[show(((k+1:Nat)):Int)=(k:Int)+1 by omega] at C1;simp only[shT1] at C1
   go_enter func99,ntmps99
   go_wp2_with fail
   refine C1.mono ?_;rintro e1 w1 ⟨rfl,rfl⟩;clear C1;simp only[opT1] at c0
   go_wp2_with fail
   refine C2.mono ?_;rintro e2 w2 ⟨v,m,l,rfl,hSe,hl⟩;have H:=Hd hSe;have HL:=Hd hl;clear C2 hSe hl c0 hr1
   have hr2:∀ w,(Instr.slice 32 (.slice (some a) n c) (some (.int .i64 ((k:Int)+1+1))) none none).run prog w=.ok (.slice A2 (n-(k+2)) (c-(k+2))) w:=fun w=>by
    have:=HR2.out w;rwa [show((k+2:Nat):Int)=(k:Int)+1+1 by omega] at this
   have hk9:wrap64 ((k:Int)+1+1)=(k:Int)+1+1:=by unfold wrap64;omega
   go_wp2_with fail
   go_quiet (fail)
   go_wp2;go_ret3
   cases b with
   | true =>
    rw[HGA.out rfl]
    exact⟨v,m,l,A2,_,_,rfl,H.drewN _,fun _=>⟨HL rfl,by omega,HS2⟩⟩
   | false =>
    rw[HGN.out rfl];exact⟨v,m,l,A2,_,_,rfl,H.drewN _,fun h=>by cases h⟩
  ·have HF:=Hd (b1f (L:=L) (.inr (by rw[hhd];exact hop)));have dq:(x.toList==[40])=false:=by simpa using (fun e=>hop (eqL.1 e):¬ x.toList=[40])
   clear hx hhd hop hLf hP0 hS hS0 hb0;simp only[shT1] at C1
   go_enter func99,ntmps99
   go_wp2_with fail
   refine C1.mono ?_;rintro e1 w1 ⟨rfl,rfl⟩;clear C1;go_wp2;go_ret3;rw[HF.out];exact⟨_,0,[],none,0,0,rfl,(Sep.nil _).addNil 3,fun h=>by cases h⟩
end Go.Proofs.YtdcmanhgekjhgaaGreatDoor
