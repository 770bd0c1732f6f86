import Derived.Test.YtdcmanhgekjhgaaGreatDoorPaf
set_option maxRecDepth 100000
set_option maxHeartbeats 12800000
namespace Go.Proofs.YtdcmanhgekjhgaaGreatDoor
open Go.RowKit Go.Proofs.Tryz
variable {A D S:Option Addr} {N dc g gb sc sn:Nat} {W w w' wr:World} {d ds s:List Int} {n:Int} {p:Addr} {v:Value} {x0:List Int × List Int}
theorem a8h (w:World)(s:ByteArray)(hs:s.size≤90000):
  Calls prog 33 #[.string s] w fun e w'=>e=.returned (.tuple #[.int .i64 (a0t s).1,.bool (a0t s).2])∧w'=w:=by
 go_enter func33,ntmps33
 by_cases hz:s.size<1
 ·have d1:decide (s.size<1)=true:=decide_eq_true hz;have HX:=Hd (a6g (s:=s) (fun ⟨n,hn,e⟩=>by have:=c3h n hn;rw[e] at this;omega));go_wp2;go_ret2;rw[HX.out];exact⟨rfl,rfl⟩
 have d1:decide (s.size<1)=false:=decide_eq_false hz;by_cases hb:20<s.size
 ·have d2:decide (20<s.size)=true:=decide_eq_true hb;have HX:=Hd (a6g (s:=s) (fun ⟨n,hn,e⟩=>by have:=c3h n hn;rw[e] at this;omega));go_wp2;go_ret2;rw[HX.out];exact⟨rfl,rfl⟩
 have d2:decide (20<s.size)=false:=decide_eq_false hb;by_cases hv:∃ n,Fits n∧numT n=s
 ·obtain⟨n,hn,hE⟩:=hv;have HX:=Hd (show a0t s=(n,true) by rw[←hE];exact a3s hn);obtain⟨he1,he2⟩:=c9y hn hE;have HV:=Hd (fun (i:Nat) (hi:i<s.size)=>c4h hn hE hi);have HN:=Hd hn;have HE1:=Hd he1;have HE2:=Hd he2;have HE:=Hd hE;have f1:1≤(s.size:Int):=by omega
  have f2:1≤(s.size:Int)∧(s.size:Int)≤20:=by omega
  have hab:n.natAbs≤9223372036854775808:=by have:=hn.1;have:=hn.2;omega
  clear he1 he2 hE hn
  go_wp2_with fail
  go_loop [5,4] (fun iv nv=>∃ i:Nat,iv=.int .i64 i∧i≤s.size∧nv=.int .i64 (-(pval s i:Int))∧pval s i≤n.natAbs) (fun iv _=>s.size-(intOf iv).toNat)
  case atStart=>exact⟨0,rfl,by omega,rfl,by show 0≤_;omega⟩
  case round =>
   obtain⟨i,rfl,hi,rfl,hp⟩:=hrel;by_cases hlt:i<s.size
   ·rcases HV i hlt with ⟨h0,h1,h2⟩|⟨h0,h1,h2,h3,h4⟩
    ·subst h0;have k1:((s[0].toNat:Int)==45)=true:=by rw[h1];rfl
     have HP1:=Hd h2;have HP0:=Hd (show pval s 0=0 from rfl);clear h1 h2;go_wp2;go_round
     case rel=>exact⟨1,rfl,by omega,by rw[HP1.out,HP0.out],by rw[HP1.out];omega⟩
     case measure=>simp[intOf];omega
    ·obtain⟨c,hc⟩:∃ c,s[i].toNat=c:=⟨_,rfl⟩;rw[hc] at h0 h1 h2 h3;obtain⟨p0,hp0⟩:∃ p,pval s i=p:=⟨_,rfl⟩;rw[hp0] at h3 hp ⊢;have HP1:=Hd h3;have hq:p0*10+(c-48)≤n.natAbs:=by omega
     have k2:48≤(c:Int):=by omega
     have k3:48≤(c:Int)∧(c:Int)≤57:=by omega
     clear h3 h4 hp0;by_cases hi0:i=0
     ·subst hi0
      have k1:((c:Int)==45)=false:=by (have h9:c≠45:=fun e=>h0 ⟨rfl,e⟩);simp;omega
      clear h0;go_wp2;go_round
      case rel=>exact⟨1,rfl,by omega,by rw[HP1.out];exact congrArg (Value.int .i64) (by omega),by rw[HP1.out];exact hq⟩
      case measure=>simp[intOf];omega
     ·have d0:((i:Int)==0)=false:=by simpa using hi0
      clear h0;go_wp2;go_round
      case rel=>exact⟨i+1,by go_num,by omega,by rw[HP1.out];exact congrArg (Value.int .i64) (by omega),by rw[HP1.out];exact hq⟩
      case measure=>simp[intOf];omega
   ·obtain rfl:s.size=i:=by omega
    have hs0:0<s.size:=by omega
    rw[HE1.out];by_cases hneg:n<0
    ·have k1:((s[0].toNat:Int)==45)=true:=by rw[(HE2.out hs0).2 hneg];rfl
     rw[show(-(n.natAbs:Int))=n by omega];have CN:=a2d (w:=w) HN;rw[HE.out] at CN;clear hp
     go_wp2_with fail
     refine CN.mono ?_;rintro e1 w1 ⟨rfl,rfl⟩;clear CN;go_wp2;go_ret2;rw[HX.out];exact⟨rfl,rfl⟩
    ·have k1:((s[0].toNat:Int)==45)=false:=by
      have:s[0].toNat≠45:=fun e=>hneg ((HE2 hs0).1 e)
      simp;omega
     obtain⟨N,rfl⟩:=eZ (show 0≤n by omega);rw[Int.natAbs_natCast] at hab ⊢;have hN9:N≤9223372036854775807:=by have:=HN.out.2;omega
     have CN:=a2d (w:=w) HN;rw[HE.out] at CN;clear hp
     go_wp2_with fail
     refine CN.mono ?_;rintro e1 w1 ⟨rfl,rfl⟩;clear CN;go_wp2;go_ret2;rw[HX.out];exact⟨rfl,rfl⟩
 ·have HX:=Hd (a6g hv);have HV:=Hd hv;have f1:1≤(s.size:Int):=by omega
  have f2:1≤(s.size:Int)∧(s.size:Int)≤20:=by omega
  clear hv
  go_wp2_with fail
  go_loop [5,4] (fun iv nv=>∃(i:Nat) (m:Int),iv=.int .i64 i∧i≤s.size∧nv=.int .i64 m∧Fits m) (fun iv _=>s.size-(intOf iv).toNat)
  case atStart=>exact⟨0,0,rfl,by omega,rfl,by show -9223372036854775808≤(0:Int);omega,by show(0:Int)≤_;omega⟩
  case round =>
   obtain⟨i,m,rfl,hi,rfl,hm⟩:=hrel;have HM:=Hd hm;clear hm;by_cases hlt:i<s.size
   ·obtain⟨c,hc⟩:∃ c,s[i].toNat=c:=⟨_,rfl⟩;have hc9:c<256:=by rw[←hc];exact s[i].toNat_lt
    by_cases hi0:i=0
    ·subst hi0;by_cases h45:c=45
     ·have k1:((c:Int)==45)=true:=by rw[h45];rfl
      clear h45;go_wp2;go_round
      case rel=>exact⟨1,m,rfl,by omega,rfl,HM⟩
      case measure=>simp[intOf];omega
     have k1:((c:Int)==45)=false:=by simp;omega
     clear h45;by_cases hlo:(c:Int)<48
     ·go_wp2;go_ret2;rw[HX.out];exact⟨rfl,rfl⟩
     have k2:48≤(c:Int):=by omega
     clear hlo;by_cases hhi:57<(c:Int)
     ·go_wp2;go_ret2;rw[HX.out];exact⟨rfl,rfl⟩
     have k3:48≤(c:Int)∧(c:Int)≤57:=by omega
     clear hhi;go_wp2;go_round
     case rel=>exact⟨1,_,rfl,by omega,rfl,a2h _⟩
     case measure=>simp[intOf];omega
    ·have d0:((i:Int)==0)=false:=by simpa using hi0
     by_cases hlo:(c:Int)<48
     ·go_wp2;go_ret2;rw[HX.out];exact⟨rfl,rfl⟩
     have k2:48≤(c:Int):=by omega
     clear hlo;by_cases hhi:57<(c:Int)
     ·go_wp2;go_ret2;rw[HX.out];exact⟨rfl,rfl⟩
     have k3:48≤(c:Int)∧(c:Int)≤57:=by omega
     clear hhi;go_wp2;go_round
     case rel=>exact⟨i+1,_,by go_num,by omega,rfl,a2h _⟩
     case measure=>simp[intOf];omega
   ·obtain rfl:s.size=i:=by omega
    have hs0:0<s.size:=by omega
    have CN:=fun (k:Int) (hk:Fits k)=>a2d (w:=w) hk
    have HCN:=Hd CN;clear CN;by_cases h45:(s[0].toNat:Int)=45
    ·have k1:((s[0].toNat:Int)==45)=true:=by simpa using h45
     have k2:((numT m).toList==s.toList)=false:=by rw[eqS,decide_eq_false];exact fun e=>HV.out ⟨m,HM,e⟩
     clear h45
     go_wp2_with fail
     refine(HCN _ HM).mono ?_;rintro e1 w1 ⟨rfl,rfl⟩;go_wp2;go_ret2;rw[HX.out];exact⟨rfl,rfl⟩
    ·have k1:((s[0].toNat:Int)==45)=false:=by simpa using h45
     clear h45;have k2:((numT (wrap64 (-m))).toList==s.toList)=false:=by rw[eqS,decide_eq_false];exact fun e=>HV.out ⟨_,a2h _,e⟩
     go_wp2_with fail
     refine(HCN _ (a2h _)).mono ?_;rintro e1 w1 ⟨rfl,rfl⟩;go_wp2;go_ret2;rw[HX.out];exact⟨rfl,rfl⟩
def tw (ws:List ByteArray):List UInt8:=ws.flatMap fun w=>32::bl w
theorem b5c (w:ByteArray)(ws:List ByteArray):tw (w::ws)=32::(bl w++tw ws):=by
 rw[tw,List.flatMap_cons];rfl
theorem c7l (a b:List ByteArray):tw (a++b)=tw a++tw b:=by
 unfold tw;rw[List.flatMap_append]
theorem e6z (w:ByteArray):tw [w]=32::bl w:=by rw[b5c];simp[tw]
def Free (c:UInt8) (w:ByteArray):Prop:=c∉bl w
theorem c7c:∀ {p:List UInt8} {ws:List ByteArray},(32:UInt8)∉p→(∀ w∈ws,Free 32 w)→a1n 32 (p++tw ws)=p::ws.map bl
 | p,[],hp,_=>by rw[show tw []=[] from rfl,List.append_nil,b4y hp];rfl
 | p,w::ws,hp,h=>by
  rw[b5c,b1o hp,c7c (h w List.mem_cons_self) (fun x hx=>h x (List.mem_cons_of_mem _ hx))];rfl
theorem b9z {s p:ByteArray}{ws:List ByteArray}(e:bl s=bl p++tw ws)(hp:Free 32 p)(h:∀ w∈ws,Free 32 w):a0u s=p::ws:=by
 unfold a0u;rw[e,c7c hp h,List.map_cons,List.map_map,b1t]
 congr 1
 have:(ofL ∘ bl)=id:=by funext x;exact b1t x
 rw[this,List.map_id]
def tl (ls:List ByteArray):List UInt8:=ls.flatMap fun w=>bl w++[10]
theorem c4e (w:ByteArray)(ls:List ByteArray):tl (w::ls)=bl w++10::tl ls:=by
 rw[tl,List.flatMap_cons,List.append_assoc];rfl
theorem d9g (a b:List ByteArray):tl (a++b)=tl a++tl b:=by
 unfold tl;rw[List.flatMap_append]
theorem c7b:∀ {ls:List ByteArray},(∀ w∈ls,Free 10 w)→a1n 10 (tl ls)=ls.map bl++[[]]
 | [],_=>rfl
 | w::ls,h=>by
  rw[c4e,b1o (h w List.mem_cons_self),c7b (fun x hx=>h x (List.mem_cons_of_mem _ hx))];rfl
theorem d6s {s:ByteArray}{ls:List ByteArray}(e:bl s=tl ls)(h:∀ w∈ls,Free 10 w):a0z s=(ls,true):=by
 unfold a0z;rw[e,c7b h,List.dropLast_concat,List.getLast?_concat,List.map_map];have:(ofL ∘ bl)=id:=by funext x;exact b1t x
 rw[this,List.map_id];exact congrArg (ls,·) (by simp)
theorem e0q {c:UInt8}{a b:ByteArray}(ha:Free c a)(hb:Free c b):Free c (a++b):=by
 unfold Free;rw[a6x,List.mem_append];exact fun h=>h.elim ha hb
theorem c9x {c:UInt8}(hc:c≠32){ws:List ByteArray}(h:∀ w∈ws,Free c w):c∉tw ws:=by
 intro hm;rw[tw,List.mem_flatMap] at hm;obtain⟨w,hw,hm⟩:=hm;rcases List.mem_cons.1 hm with e|e
 ·exact hc e
 ·exact h w hw e
theorem b0g (h:Fits n){c:UInt8}(hc:c.toNat<45):Free c (numT n):=by
 obtain⟨D,h1,_,_,h4⟩:=b0f h;unfold Free;rw[h4,List.mem_append];rintro(hm|hm)
 ·split at hm
  ·rw[List.mem_singleton] at hm;subst hm;revert hc;decide
  ·cases hm
 ·have:=(h1 c hm).1;omega
theorem c2p:∀(l:List Int) (o:ByteArray),bl (a3j o l)=bl o++tw (l.map numT)
 | [],o=>by show bl o=bl o++[];rw[List.append_nil]
 | x::l,o=>by
  have e:a3j o (x::l)=a3j (o++spT++numT x) l:=rfl;rw[e,c2p l,a6x,a6x,List.map_cons,b5c]
  show(bl o++[32]++bl (numT x))++tw (l.map numT)=bl o++32::(bl (numT x)++tw (l.map numT))
  simp only[List.append_assoc,List.cons_append,List.nil_append]
def oB:ByteArray:=⟨#[40]⟩
def cB:ByteArray:=⟨#[41]⟩
def b1r (l:List Int):List ByteArray:=oB::(l.map numT++[cB])
theorem e4m (l:List Int):bl (a7c l)=tw (b1r l):=by
 rw[a7c,a6x,c2p,b1r,b5c,c7l,e6z]
 show [32,40]++tw (l.map numT)++[32,41]=32::([40]++(tw (l.map numT)++[32,41]))
 simp only[List.cons_append,List.nil_append]
theorem b4q {l:List Int}(h:∀ x∈l,Fits x){c:UInt8}(hc:c.toNat<40):∀ w∈b1r l,Free c w:=by
 intro w hw;unfold b1r at hw;rcases List.mem_cons.1 hw with e|e
 ·subst e;unfold Free;rw[show bl oB=[40] from rfl,List.mem_singleton];intro e;subst e;revert hc;decide
 ·rcases List.mem_append.1 e with e|e
  ·obtain⟨x,hx,rfl⟩:=List.mem_map.1 e;exact b0g (h x hx) (by omega)
  ·rw[List.mem_singleton] at e;subst e;unfold Free;rw[show bl cB=[41] from rfl,List.mem_singleton];intro e;subst e;revert hc;decide
theorem d7q (h:Fits n):numT n≠cB:=fun e=>by
 have:=b0g h (c:=41) (by decide);rw[e] at this;exact this (by show(41:UInt8)∈[41];simp)
theorem d7g {op:Int}(h1:1≤op)(h2:op≤20):∃ k:Nat,op=k∧1≤k∧k≤20∧a5s op=opN.getD k ⟨#[]⟩:=by
 obtain⟨k,rfl⟩:=eZ (show 0≤op by omega);exact⟨k,rfl,by omega,by omega,by rw[a5s,iN (by omega),Int.toNat_natCast]⟩
theorem c1m (op:Int){c:UInt8}(hc:c.toNat<97):Free c (a5s op):=by
 have key:∀ k:Nat,∀ b∈bl (opN.getD k ⟨#[]⟩),97≤b.toNat:=by
  intro k;by_cases hk:k<21
  ·have:∀ j:Fin 21,∀ b∈bl (opN.getD j.val ⟨#[]⟩),97≤b.toNat:=by decide
   exact this ⟨k,hk⟩
  ·rw[gD,List.getElem?_eq_none (by show 21≤k;omega)];intro b hb;cases hb
 unfold a5s
 split
 ·intro h;cases h
 ·intro h;have:=key _ c h;omega
theorem b5t (op a b:Int)(w:World):
  Calls prog 112 #[.int .i64 op,.int .i64 a,.int .i64 b] w fun e w'=>e=.returned (.int .i64 (a4q op a b))∧w=w':=by
 by_cases h4:op=4
 ·subst h4
  ·go_enter func112,ntmps112
   go_wp2;go_ret;exact⟨by simp[a4q],rfl⟩
 by_cases h5:op=5
 ·subst h5;clear h4;by_cases hc:a=0
  ·go_enter func112,ntmps112
   go_wp2;go_ret;exact⟨by simp[a4q,hc] <;> omega,rfl⟩
  ·go_enter func112,ntmps112
   go_wp2;go_ret;exact⟨by simp[a4q,hc] <;> omega,rfl⟩
 by_cases h6:op=6
 ·subst h6;clear h4 h5
  ·go_enter func112,ntmps112
   go_wp2;go_ret;exact⟨by simp[a4q],rfl⟩
 by_cases h7:op=7
 ·subst h7;clear h4 h5 h6
  ·go_enter func112,ntmps112
   go_wp2;go_ret;exact⟨by simp[a4q],rfl⟩
 by_cases h8:op=8
 ·subst h8;clear h4 h5 h6 h7
  ·go_enter func112,ntmps112
   go_wp2;go_ret;exact⟨by simp[a4q],rfl⟩
 by_cases h9:op=9
 ·subst h9;clear h4 h5 h6 h7 h8;by_cases hc:b<a
  ·go_enter func112,ntmps112
   go_wp2;go_ret;exact⟨by simp[a4q,hc] <;> omega,rfl⟩
  ·go_enter func112,ntmps112
   go_wp2;go_ret;exact⟨by simp[a4q];omega,rfl⟩
 by_cases h10:op=10
 ·subst h10;clear h4 h5 h6 h7 h8 h9;by_cases hc:b > a
  ·go_enter func112,ntmps112
   go_wp2;go_ret;exact⟨by simp[a4q,hc] <;> omega,rfl⟩
  ·go_enter func112,ntmps112
   go_wp2;go_ret;exact⟨by simp[a4q];omega,rfl⟩
 by_cases h11:op=11
 ·subst h11;clear h4 h5 h6 h7 h8 h9 h10;by_cases hc:a<b
  ·go_enter func112,ntmps112
   go_wp2;go_ret;exact⟨by simp[a4q,hc] <;> omega,rfl⟩
  ·go_enter func112,ntmps112
   go_wp2;go_ret;exact⟨by simp[a4q,hc] <;> omega,rfl⟩
 have HX:=Hd (show a4q op a b=0 by simp[a4q,h4,h5,h6,h7,h8,h9,h10,h11])
 go_enter func112,ntmps112
 go_wp2;go_ret;exact⟨by rw[HX.out];rfl,rfl⟩
theorem a5i (hb:Below w.heap.size w w')(h:w.cell? p=some v):w'.cell? p=some v:=(hb.cell (World.block_lt_of_cell? w p h)).trans h
def Tens (w:World) (A:Option Addr) (n:Nat) (l:List (List Int × List Int)):Prop :=
 l.length=n∧n≤1000000∧∀ j x,l[j]?=some x→∃ a S sn sc D dn dc,A=some a∧a.block<w.heap.size∧w.cell? (a.add (j*2))=some (.slice S sn sc)∧w.cell? ⟨(a.add (j*2)).block,(a.add (j*2)).off+1,none⟩=some (.slice D dn dc)∧Ten w (.agg #[.slice S sn sc,.slice D dn dc]) x.1 x.2
theorem Tens.below {n:Nat}{l:List (List Int × List Int)}(h:Tens w A n l)(hb:Below w.heap.size w w'):Tens w' A n l :=
 ⟨h.1,h.2.1,fun j x hx=>by
  obtain⟨a,S,sn,sc,D,dn,dc,e,hbl,h0,h1,ht⟩:=h.2.2 j x hx
  exact⟨a,S,sn,sc,D,dn,dc,e,by have:=hb.size;omega,(hb.cell (by rw[a0d];exact hbl)).trans h0,(hb.cell (by simp only[a0d];exact hbl)).trans h1,ht.below hb⟩⟩
def allR (x0:List Int × List Int) (l:List (List Int × List Int)):Int:=if l.all (fun y=>a0b y.1 y.2&&y.1==x0.1) then 0 else 13
theorem c2n {y:List Int × List Int}{l:List (List Int × List Int)}{j:Nat}(h:l[j]?=some y)(hb:(a0b y.1 y.2&&y.1==x0.1)=false):allR x0 l=13:=by
 rw[allR,iN];rw[List.all_eq_true];intro ha;have:=ha y (mG h);rw[hb] at this;cases this
theorem c4v {l:List (List Int × List Int)}(h:∀ k y,k<l.length→l[k]?=some y→(a0b y.1 y.2&&y.1==x0.1)=true):allR x0 l=0:=by
 rw[allR,iP];rw[List.all_eq_true];intro y hy;obtain⟨k,hk,e⟩:=List.getElem_of_mem hy;exact h k y hk (by rw[List.getElem?_eq_getElem hk,e])
theorem b2n {n c:Nat}{l:List (List Int × List Int)}(h:Tens w A n (x0::l)):
  Calls prog 111 #[.slice A n c] w fun e w'=>e=.returned (.int .i64 (allR x0 (x0::l)))∧Below w.heap.size w w':=by
 have hl:=h.1;have hn:=h.2.1;have hb:=Below.refl w.heap.size w
 go_enter func111,ntmps111
 go_wp2_with fail
 go_loopw [3] (fun kv wr=>∃ j:Nat,kv=.int .i64 j∧j≤n∧(∀ k y,k<j→(x0::l)[k]?=some y→(a0b y.1 y.2&&y.1==x0.1)=true)∧Below w.heap.size w wr) (fun kv _=>n-(intOf kv).toNat)
 case atStart=>exact⟨0,rfl,by omega,by omega,hb⟩
 case round =>
  clear hb;obtain⟨j,rfl,hj,hA,hB⟩:=hrel;have HA:=Hd hA;have HB:=Hd hB;have HT:=Hd (h.below hB);clear hA hB;by_cases hlt:j<n
  ·obtain⟨y,hy⟩:∃ y,(x0::l)[j]?=some y:=gE (by omega);obtain⟨a,S,sn,sc,D,dn,dc,rfl,hbl,h0,h1,ht⟩:=HT.out.2.2 j y hy;obtain⟨a', S0,sn0,sc0,D0,dn0,dc0,ea,_,g0,g1,gt⟩:=HT.out.2.2 0 x0 rfl;injection ea with ea
   subst ea;have hn0:0<n:=by omega
   have ez:a.add (0*2)=a:=by cases a;rfl
   rw[ez] at g0;clear ez;obtain⟨w1,rfl⟩:∃ w1:World,w1=wr:=⟨_,rfl⟩;have HY:=Hd hy;have HT1:=Hd ht;have HT2:=Hd gt;have C1:=a2c (w:=w1.drew) ht;clear hy ht gt
   go_upto_region 4 with fail
   cases hr:a0b y.1 y.2 with
   | false =>
    have HR:=Hd (show(a0b y.1 y.2&&y.1==x0.1)=false by rw[hr];rfl);rw[hr] at C1;clear hr;refine wp_region_held_drew (S:=(fun w'=>w'.cell? (a.add (j*2))=some (.slice S sn sc)∧w'.cell? ⟨(a.add (j*2)).block,(a.add (j*2)).off+1,none⟩=some (.slice D dn dc)∧w'.cell? a=some (.slice S0 sn0 sc0))) (by kernel_rfl) ?_ (fun hq_=>?_)
    ·exact⟨h0,h1,g0⟩
    refine zV 0 hq_ ?_;refine zV 1 hq_ ?_;refine zV 2 hq_ ?_;refine zV 3 hq_ ?_;refine e1 4 fun K hK=>?_
    first|(refine effU ?_ ?_;(focus rfl))|(go_simp;(go_at_call 113;refine C1.mono ?_;rintro e w2 ⟨rfl,hb2⟩;have a0:=a5i (w:=w1.drew) hb2 h0;have a1:=a5i (w:=w1.drew) hb2 h1;have a2:=a5i (w:=w1.drew) hb2 g0;have HB2:=Hd (b9t HB 1 |>.trans (hb2.mono HB.size)));go_wp2_with fail)
    refine zX hK (fun hq_=>?_) ⟨a0,a1,a2⟩;refine zV 5 hq_ ?_;refine zV 6 hq_ ?_;refine zT 7 hq_ ?_;refine zT 8 hq_ ?_;refine zT 9 hq_ ?_;refine zT 10 hq_ ?_;refine zT 11 hq_ ?_;refine zT 12 hq_ ?_;refine zT 13 hq_ ?_;refine zT 14 hq_ ?_;refine zT 15 hq_ ?_;refine e1 16 fun K hK=>?_
    first|(refine effU ?_ ?_;(focus rfl))|(go_simp;skip;go_wp2_with fail)
    refine zX hK fun hq_=>?_;refine zT 17 hq_ ?_;refine zV 18 hq_ ?_;refine dN ?_;go_wp2;go_ret
    exact⟨by rw[c2n HY.out HR.out];rfl,HB2⟩
   | true =>
    rw[hr] at C1;obtain⟨i1,_⟩:=a1b HT1;obtain⟨i2,_⟩:=a1b HT2;have I1:=Hd i1;have I2:=Hd i2;clear i1 i2
    cases hq:(y.1==x0.1) with
    | false =>
     have HR:=Hd (show(a0b y.1 y.2&&y.1==x0.1)=false by rw[hr,hq];rfl);clear hr;refine wp_region_held_drew (S:=(fun w'=>w'.cell? (a.add (j*2))=some (.slice S sn sc)∧w'.cell? ⟨(a.add (j*2)).block,(a.add (j*2)).off+1,none⟩=some (.slice D dn dc)∧w'.cell? a=some (.slice S0 sn0 sc0))) (by kernel_rfl) ?_ (fun hq_=>?_)
     ·exact⟨h0,h1,g0⟩
     refine zV 0 hq_ ?_;refine zV 1 hq_ ?_;refine zV 2 hq_ ?_;refine zV 3 hq_ ?_;refine e1 4 fun K hK=>?_
     first|(refine effU ?_ ?_;(focus rfl))|(go_simp;(go_at_call 113;refine C1.mono ?_;rintro e w2 ⟨rfl,hb2⟩;have a0:=a5i (w:=w1.drew) hb2 h0;have a1:=a5i (w:=w1.drew) hb2 h1;have a2:=a5i (w:=w1.drew) hb2 g0;have HB2:=Hd (b9t HB 1 |>.trans (hb2.mono HB.size));have J1:=Hd (I1.below (w:=w1.drew) hb2);have J2:=Hd (I2.below (w:=w1.drew) hb2));go_wp2_with fail)
     refine zX hK (fun hq_=>?_) ⟨a0,a1,a2⟩;refine zV 5 hq_ ?_;refine zV 6 hq_ ?_;refine zT 7 hq_ ?_;refine zT 8 hq_ ?_;refine zT 9 hq_ ?_;refine zT 10 hq_ ?_;refine zT 11 hq_ ?_;refine zT 12 hq_ ?_;refine zT 13 hq_ ?_;refine zT 14 hq_ ?_;refine zT 15 hq_ ?_;refine e1 16 fun K hK=>?_
     first|(refine effU ?_ ?_;(focus rfl))|(go_simp;(go_at_call 38;refine(a5w J1 J2).mono ?_;rw[hq];rintro e w3 ⟨rfl,q3,rfl⟩;have b0:(w2.drewN q3).cell? (a.add (j*2))=some (.slice S sn sc):=a0;have b1:(w2.drewN q3).cell? ⟨(a.add (j*2)).block,(a.add (j*2)).off+1,none⟩=some (.slice D dn dc):=a1;have b2:(w2.drewN q3).cell? a=some (.slice S0 sn0 sc0):=a2);go_wp2_with fail)
     refine zX hK (fun hq_=>?_) ⟨b0,b1,b2⟩;refine zT 17 hq_ ?_;refine zV 18 hq_ ?_;refine dN ?_;go_wp2;go_ret
     exact⟨by rw[c2n HY.out HR.out];rfl,a1h HB2 _⟩
    | true =>
     have HR:=Hd (show(a0b y.1 y.2&&y.1==x0.1)=true by rw[hr,hq];rfl);clear hr;refine wp_region_held_drew (S:=(fun w'=>w'.cell? (a.add (j*2))=some (.slice S sn sc)∧w'.cell? ⟨(a.add (j*2)).block,(a.add (j*2)).off+1,none⟩=some (.slice D dn dc)∧w'.cell? a=some (.slice S0 sn0 sc0))) (by kernel_rfl) ?_ (fun hq_=>?_)
     ·exact⟨h0,h1,g0⟩
     refine zV 0 hq_ ?_;refine zV 1 hq_ ?_;refine zV 2 hq_ ?_;refine zV 3 hq_ ?_;refine e1 4 fun K hK=>?_
     first|(refine effU ?_ ?_;(focus rfl))|(go_simp;(go_at_call 113;refine C1.mono ?_;rintro e w2 ⟨rfl,hb2⟩;have a0:=a5i (w:=w1.drew) hb2 h0;have a1:=a5i (w:=w1.drew) hb2 h1;have a2:=a5i (w:=w1.drew) hb2 g0;have HB2:=Hd (b9t HB 1 |>.trans (hb2.mono HB.size));have J1:=Hd (I1.below (w:=w1.drew) hb2);have J2:=Hd (I2.below (w:=w1.drew) hb2));go_wp2_with fail)
     refine zX hK (fun hq_=>?_) ⟨a0,a1,a2⟩;refine zV 5 hq_ ?_;refine zV 6 hq_ ?_;refine zT 7 hq_ ?_;refine zT 8 hq_ ?_;refine zT 9 hq_ ?_;refine zT 10 hq_ ?_;refine zT 11 hq_ ?_;refine zT 12 hq_ ?_;refine zT 13 hq_ ?_;refine zT 14 hq_ ?_;refine zT 15 hq_ ?_;refine e1 16 fun K hK=>?_
     first|(refine effU ?_ ?_;(focus rfl))|(go_simp;(go_at_call 38;refine(a5w J1 J2).mono ?_;rw[hq];rintro e w3 ⟨rfl,q3,rfl⟩;have b0:(w2.drewN q3).cell? (a.add (j*2))=some (.slice S sn sc):=a0;have b1:(w2.drewN q3).cell? ⟨(a.add (j*2)).block,(a.add (j*2)).off+1,none⟩=some (.slice D dn dc):=a1;have b2:(w2.drewN q3).cell? a=some (.slice S0 sn0 sc0):=a2);go_wp2_with fail)
     refine zX hK (fun hq_=>?_) ⟨b0,b1,b2⟩;refine zT 17 hq_ ?_;refine zV 18 hq_ ?_;refine dN ?_;go_wp2;go_roundw
     case rel=>exact⟨j+1,by go_num,by omega,fun k z hk hz=>by
      rcases Nat.lt_or_ge k j with h' | h'
      ·exact HA k z h' hz
      ·obtain rfl:k=j:=by omega
       rw[HY.out] at hz;injection hz with hz;subst hz;exact HR,a1h HB2 _⟩
     case measure=>simp[intOf];omega
  ·obtain rfl:j=n:=by omega
   have HX:=Hd (c4v (x0:=x0) (l:=x0::l) (fun k y hk hy=>HA.out k y (by omega) hy));clear hl;go_wp2;go_ret;exact⟨by rw[HX.out];rfl,HB⟩
theorem e3h {dn:Nat}(hg:w.heap[g]?=some (.cells #[.slice S sn sc,.slice D dn dc] 89 (0,0)))(h:Ten w (.agg #[.slice S sn sc,.slice D dn dc]) s d):
  Tens w (some ⟨g,0,none⟩) 1 [(s,d)] :=
 ⟨rfl,by omega,fun j x hx=>by
  cases j with
  | zero=>simp at hx;subst hx;exact⟨_,S,sn,sc,D,dn,dc,rfl,block_lt_of_cell (a2a hg),a2a hg,a1j hg,h⟩
  | succ j=>simp at hx⟩
def a6l (W wr:World) (g:Nat) (S D:Option Addr) (sn sc N dc:Nat) (s ds:List Int):Prop :=
 W.heap.size≤g∧wr.heap[g]?=some (.cells #[.slice S sn sc,.slice D N dc] 89 (0,0))∧OwnS wr W.heap.size 3 (.slice S sn sc) sn s∧OwnS wr W.heap.size 2 (.slice D N dc) N ds∧Below W.heap.size W wr
theorem b4m {w1:World}(hb:Below W.heap.size W w1)(hs:OwnS w1 W.heap.size 3 (.slice S sn sc) sn s)(hd:OwnS w1 W.heap.size 2 (.slice D N dc) N ds):
  a6l W (w1.alloc (.cells #[.slice S sn sc,.slice D N dc] 89)) w1.heap.size S D sn sc N dc s ds :=
 ⟨hb.size,heap_alloc_new w1 _,hs.alloc _,hd.alloc _,hb.alloc hb.size _⟩
theorem a6l.store (h:a6l W wr g S (some ⟨gb,0,none⟩) sn sc N dc s ds)(j:Nat){x:Int}(hx:Fits x):
  a6l W (wr.setCell ⟨gb,j,none⟩ (.int .i64 x)) g S (some ⟨gb,0,none⟩) sn sc N dc s (ds.set j x):=by
 obtain⟨hg,hgx,hS,hD,hB⟩:=h;have hO:Own wr W.heap.size 2 gb N dc ds:=hD;obtain⟨cs,hb⟩:=hO.blk;have hgw:=a0y wr gb j (.int .i64 x);exact⟨hg,(hgw.block _ (block_lt_of_cell (a2a hgx)) (fun h'=>a4z hgx hb c7m.2.2.1.symm (by injection h'))).trans hgx,hS.grownNe hgw (hS.apart hb c7m.1),hO.store j hx,hB.setCell (p:=⟨gb,j,none⟩) hO.base_.1 _⟩
theorem a6l.drew (h:a6l W wr g S D sn sc N dc s ds)(q:Nat):a6l W (wr.drewN q) g S D sn sc N dc s ds :=
 ⟨h.1,h.2.1,h.2.2.1,h.2.2.2.1,a1h h.2.2.2.2 q⟩
theorem a6l.below (h:a6l W wr g S D sn sc N dc s ds)(hb:Below wr.heap.size wr w'):a6l W w' g S D sn sc N dc s ds :=
 ⟨h.1,(hb.block _ (block_lt_of_cell (a2a h.2.1))).trans h.2.1,h.2.2.1.below hb,h.2.2.2.1.below hb,h.2.2.2.2.trans (hb.mono h.2.2.2.2.size)⟩
theorem a2t {q:Addr}{u:Value}(h:wr.cell? p=some v)(hne:p.block≠q.block):(wr.setCell q u).drew.cell? p=some v :=
 (World.cell?_setCell_other wr q p u (fun e=>hne (by rw[e]))).trans h
theorem a6l.ne (h:a6l W wr g S (some ⟨gb,0,none⟩) sn sc N dc s ds):g≠gb∧W.heap.size≤gb:=by
 obtain⟨_,hgx,_,hD,_⟩:=h;have hO:Own wr W.heap.size 2 gb N dc ds:=hD;obtain⟨cs,hb⟩:=hO.blk;exact⟨a4z hgx hb c7m.2.2.1.symm,hO.base_.1⟩
theorem b8y (op:Int)(h:Ten w v s d):
  Calls prog 80 #[.int .i64 op,v] w fun e w'=>(∃ u,e=.returned (.tuple #[u,.int .i64 (oneR op s d).1])∧OTen w' w.heap.size u (oneR op s d).2.1 (oneR op s d).2.2)∧Below w.heap.size w w':=by
 obtain⟨A,n,c,B,m,e,rfl,hnc,hme,hI,hJ⟩:=h;have hz:=((Below.refl w.heap.size w).alloc (Nat.le_refl _) (.cells #[.slice A n c,.slice B m e] 89)).alloc (by simp) (.cells #[.slice none 0 0,.slice none 0 0] 89);have ha:=heap_alloc2_old w (.cells #[.slice A n c,.slice B m e] 89) (.cells #[.slice none 0 0,.slice none 0 0] 89);have hr:=heap_alloc2_new w (.cells #[.slice A n c,.slice B m e] 89) (.cells #[.slice none 0 0,.slice none 0 0] 89);have hzs:((w.alloc (.cells #[.slice A n c,.slice B m e] 89)).alloc (.cells #[.slice none 0 0,.slice none 0 0] 89)).heap.size=w.heap.size+1+1:=by simp
 go_enter func80,ntmps80
 go_upto_region 1 with fail
 generalize (w.alloc (.cells #[.slice A n c,.slice B m e] 89)).alloc (.cells #[.slice none 0 0,.slice none 0 0] 89)=W at *;have HT:=Hd (a3z (hI.below hz) hnc (hJ.below hz) hme);have HZ:=Hd hz;have HZS:=Hd hzs;have HA:=Hd ha;have HR:=Hd hr;clear hI hJ hz hzs ha hr;have a0:=a2a HA;have a1:=a1j HA;have d0:=a2a HR;have d1:=a1j HR;have f0:=frozen_of_row _ _ 0 _ _ HR;have f1:=frozen_of_row _ _ 1 _ _ HR;by_cases hop:op≠4∧op≠5
 ·have HX:=Hd (e2k (s:=s) (d:=d) hop);have hg4:(op != 4)=true:=by simp[hop.1]
  have hg5:(op != 5)=true:=by simp[hop.2]
  clear a0 a1 hop;go_wp2;rw[HX.out];refine a6q (w.heap.size+1) _ _ (.int .i64 1) results80 rfl rfl (a3r HR _ _) rfl ?_;exact⟨⟨_,rfl,_,_,0,0,rfl,OwnS.nil_ _ _ _,OwnS.nil_ _ _ _⟩,(HZ.setCell (by show w.heap.size≤w.heap.size+1;omega) _).setCell (by show w.heap.size≤w.heap.size+1;omega) _⟩
 ·have hop' : op=4∨op=5:=by omega
  clear hop;obtain⟨tgt,htg⟩:∃ t,t=d.map fun x=>a4q op x 0:=⟨_,rfl⟩
  have HQ1:=Hd (fun hr:a0b s d=false=>d3l hop' hr);have HQ2:=Hd (fun hr:a0b s d=true=>(e5d hop' hr).trans (show _=((0,s,tgt):Int × List Int × List Int) by rw[htg]));have HAT:=Hd (show ∀ j x,d[j]?=some x→tgt[j]?=some (a4q op x 0) from fun j x hx=>by rw[htg];exact e6k hx);have HTL:=Hd (show tgt.length=d.length by rw[htg];simp);clear htg;have hgs:((op != 4)=false)∨((op != 4)=true∧(op != 5)=false):=by rcases hop' with rfl|rfl <;> simp
  clear hop';rcases hgs with hg4|⟨hg4,hg5⟩
  all_goals (
   have hx:=(Below.refl W.heap.size W).alloc (Nat.le_refl _) (.cells #[.slice A n c,.slice B m e] 89);have C1:=b2n (c:=1) (e3h (heap_alloc_new W (.cells #[.slice A n c,.slice B m e] 89)) (HT.below hx));have HX:=Hd hx;clear hx
   go_wp2_with fail
   cases hr:a0b s d with
   | false =>
    rw[c2n (j:=0) rfl (by rw[hr];rfl)] at C1;refine C1.mono ?_;rintro e2 w2 ⟨rfl,hb2⟩;have HB:=Hd (a1c HX hb2);have HQ:=Hd (HQ1 hr);have hr2:=(HB.block (w.heap.size+1) (by have:=HZS.out;omega)).trans HR;have d0:=a2a hr2;have d1:=a1j hr2;have f0:=frozen_of_row _ _ 0 _ _ hr2;have f1:=frozen_of_row _ _ 1 _ _ hr2;have HR2:=Hd hr2;clear hb2 hr hr2 C1;go_wp2;rw[HQ.out];refine a6q (w.heap.size+1) _ _ (.int .i64 13) results80 rfl rfl (a3r HR2 _ _) rfl ?_
    exact⟨⟨_,rfl,_,_,0,0,rfl,OwnS.nil_ _ _ _,OwnS.nil_ _ _ _⟩,((a1c HZ HB).setCell (by show w.heap.size≤w.heap.size+1;omega) _).setCell (by show w.heap.size≤w.heap.size+1;omega) _⟩
   | true =>
    rw[c4v (fun k y hk hy=>by obtain rfl:k=0:=(by simp at hk;omega);simp at hy;subst hy;rw[hr];simp)] at C1;refine C1.mono ?_;rintro e2 w2 ⟨rfl,hb2⟩;have HB:=Hd (a1c HX hb2);have HRT:=Hd hr;have a0:=b0x HB a0;have a1:=b0x HB a1;have HT2:=Hd (HT.below HB);obtain⟨i1,i2⟩:=a1b HT2;have I1:=Hd i1;have I2:=Hd i2;clear hb2 hr C1 i1 i2
    go_wp2_with fail
    refine(a1t 0 I1 (by have:=(a3c HRT).1;have:=I1.len;omega) ⟨by omega,by omega⟩).mono ?_;rintro e3 w3 ⟨⟨u,rfl,hu⟩,hb3⟩;obtain⟨vs,vd,ns,N,rfl,hvs,hvd⟩:=hu;have hNs:(Sh.size s).toNat=N:=by have:=hvd.len;rwa [List.length_replicate] at this
    have hN:tgt.length=N:=by have:=a2i HRT;have:=HTL.out;omega
    rw[hNs] at hvd;clear hNs;have hNle:N≤9223372036854775807:=hvd.2.2;obtain⟨A1,k1,rfl,_,_,_⟩:=hvs.form;obtain⟨D1,k2,rfl,_,_,_⟩:=hvd.form;have hL:=b4m (a1c HB hb3) (hvs.mono HB.size) (hvd.mono HB.size);have HN:=Hd hN;clear hb3 hvs hvd hN a0 a1
    go_upto_region 7 with fail
    generalize w3.alloc (.cells #[.slice A1 ns k1,.slice D1 N k2] 89)=w4 at *;generalize w3.heap.size=gt at *;have t1:=a1j hL.2.1;have HL:=Hd hL;clear hL
    go_wp2_with fail
    clear t1
    go_loopw [29] (fun kv wr=>∃ j:Nat,kv=.int .i64 j∧j≤N∧a6l W wr gt A1 D1 ns k1 N k2 s (mix tgt (List.replicate N 0) j)) (fun kv _=>N - (intOf kv).toNat)
    case atStart=>exact⟨0,rfl,by omega,by rw[a4v];exact HL⟩
    case round =>
     obtain⟨j,rfl,hj,hL⟩:=hrel;have hLr:=hL;have HLr:=Hd hL;have t0:=a2a hL.2.1;have t1:=a1j hL.2.1;have hb:=hL.2.2.2.2;have hz:=(hb.block (w.heap.size+1) (by have:=HZS.out;omega)).trans HR;have HB4:=Hd hb;have HT4:=Hd (HT.below hb);have a1:=a1j ((hb.block w.heap.size (by have:=HZS.out;omega)).trans HA);have hgt:=hL.1;by_cases hlt:j<N
     ·obtain⟨gb,cb,hv,hO⟩:=hL.2.2.2.1.own (by omega);injection hv with hv1 _ hv3
      subst hv1;subst hv3;obtain⟨_,i2⟩:=a1b HT4;have hjm:j<m:=by have:=i2.len;have:=HN.out;have:=HTL.out;omega
      obtain⟨bd,x,rfl,hbl,hx,hcx,hfx⟩:=i2.at_ (k:=j) hjm;have HS:=Hd ((HLr.drew 1).store j (c2f op hfx (show Fits 0 from⟨by omega,by omega⟩)));have HX:=Hd hx;have HF:=Hd hfx;have hcs:=hO.cell (a8e HN hlt);have hfs:=hO.frozen j;obtain⟨hn1,hn2⟩:=hLr.ne;have hbW:=(a1b HT).2.lt bd rfl (by omega);have k0:=a2t (q:=⟨gb,j,none⟩) (u:=.int .i64 (a4q op x 0)) t1 hn1;have k1:=a2t (q:=⟨gb,j,none⟩) (u:=.int .i64 (a4q op x 0)) a1 (by show w.heap.size≠gb;have:=HZS.out;omega);have k2':=a2t (q:=⟨gb,j,none⟩) (u:=.int .i64 (a4q op x 0)) hcx (by rw[a0d];show bd.block≠gb;omega);clear hL hb hz i2 hO hx hfx t0
      go_wp2_with fail
      go_region_held3 (fun w'=>w'.cell? ⟨gt,1,none⟩=some (.slice (some ⟨gb,0,none⟩) N k2)∧w'.cell? ⟨w.heap.size,1,none⟩=some (.slice (some bd) m e)∧w'.cell? (bd.add j)=some (.int .i64 x)) (go_keep)
       (first|(go_at_call 112;refine(b5t _ _ _ _).mono ?_;rintro e5 w5 ⟨rfl,rfl⟩))
      clear k0 k1 k2' a1 t1 hcx hcs hfs;go_wp2;go_roundw
      case rel=>exact⟨j+1,by go_num,by omega,by rw[←a5n HN.out (HAT.out j x HX.out)];exact HS⟩
      case measure=>simp[intOf];omega
     ·obtain rfl:j=N:=by omega
      rw[a8d HN.out] at HLr;have d0:=a2a hz;have d1:=a1j hz;have f0:=frozen_of_row _ _ 0 _ _ hz;have f1:=frozen_of_row _ _ 1 _ _ hz;have HZr:=Hd hz;have HQ:=Hd (HQ2 HRT);clear hL hb hz a1;go_wp2;rw[HQ.out];refine a6q (w.heap.size+1) _ _ (.int .i64 0) results80 rfl rfl (a3r HZr _ _) rfl ?_;have hgr:=a3n (a0y wr (w.heap.size+1) 0 (.slice A1 ns k1)) (a0y _ (w.heap.size+1) 1 (.slice D1 j k2));exact⟨⟨_,rfl,_,_,ns,j,rfl,(HLr.out.2.2.1.grown hgr (by have:=HZS.out;omega)).mono (by have:=HZS.out;omega),(HLr.out.2.2.2.1.grown hgr (by have:=HZS.out;omega)).mono (by have:=HZS.out;omega)⟩,((a1c HZ HB4).setCell (by show w.heap.size≤w.heap.size+1;omega) _).setCell (by show w.heap.size≤w.heap.size+1;omega) _⟩
   )
end Go.Proofs.YtdcmanhgekjhgaaGreatDoor
