import Derived.Test.YtdcmanhgekjhgaaDoorPag
set_option maxRecDepth 100000
set_option maxHeartbeats 12800000
namespace Go.Proofs.YtdcmanhgekjhgaaDoor
open Go.RowKit Go.Proofs.Tryd
variable {D S:Option Addr} {N dc g j sc sn:Nat} {W w' wr:World} {c n x:Int} {ds o t:List Int} {s:ByteArray}
def dval (l:List UInt8):Nat:=l.foldl (fun a b=>a*10+(b.toNat-48)) 0
theorem b3i (l:List UInt8)(b:UInt8):dval (l++[b])=dval l*10+(b.toNat-48):=by
 unfold dval;rw[List.foldl_append];rfl
theorem c6u (l:List UInt8):∀ q:List UInt8,dval l≤dval (l++q):=by
 intro q
 have h:∀(q:List UInt8) (a:Nat),a≤q.foldl (fun a b=>a*10+(b.toNat-48)) a:=by
  intro q
  induction q with
  | nil=>intro a;exact Nat.le_refl _
  | cons b q ih=>intro a;rw[List.foldl_cons];have:=ih (a*10+(b.toNat-48));omega
 unfold dval;rw[List.foldl_append];exact h q _
def AllD (l:List UInt8):Prop:=∀ b∈l,48≤b.toNat∧b.toNat≤57
theorem b6v:∀(f k:Nat),k<10 ^ f→AllD (bl (digs f k))∧dval (bl (digs f k))=k
 | 0,k,h=>by
  have:k=0:=by simpa using h
  subst this
  exact⟨fun b hb=>by simp[digs,bl] at hb,rfl⟩
 | f+1,k,h=>by
  by_cases hk:k=0
  ·subst hk;rw[digs,iP rfl];exact⟨fun b hb=>by simp[bl] at hb,rfl⟩
  ·obtain⟨h1,h2⟩:=b6v f (k / 10) (by rw[Nat.pow_succ] at h;omega);have e:bl (b1 (48+k % 10))=[UInt8.ofNat (48+k % 10)]:=rfl;have e2:(UInt8.ofNat (48+k % 10)).toNat=48+k % 10:=by simp;omega
   rw[digs,iN hk,a1t,e];refine⟨fun b hb=>?_,?_⟩
   ·rcases List.mem_append.1 hb with hm|hm
    ·exact h1 b hm
    ·rw[List.mem_singleton.1 hm,e2];omega
   ·rw[b3i,h2,e2];omega
def a4r:List UInt8→List UInt8
 | []=>[]
 | b::l=>if b=45 then l else b::l
def c8s (s:ByteArray):Int:=if (bl s).head? = some 45 then -(dval (a4r (bl s)):Int) else(dval (a4r (bl s)):Int)
theorem a5c {l:List UInt8}(h:AllD l):a4r l=l:=by
 cases l with
 | nil=>rfl
 | cons b l =>
  have:=(h b List.mem_cons_self).1;rw[a4r,iN];intro e;rw[e] at this;revert this;decide
theorem c4c {l:List UInt8}(h:AllD l):l.head? ≠ some 45:=by
 cases l with
 | nil=>simp
 | cons b l =>
  have:=(h b List.mem_cons_self).1;intro e;have e2:b=45:=by simpa using e
  rw[e2] at this;revert this;decide
theorem a9w (h:Fits n):n.natAbs<10 ^ 20:=by
 have h1:=h.1;have h2:=h.2;have:(10:Nat) ^ 20=100000000000000000000:=by decide
 rw[this];omega
theorem a4s (h:Fits n):∃ D:List UInt8,AllD D∧dval D=n.natAbs∧D≠[]∧bl (numT n)=(if n<0 then [45] else [])++D:=by
 by_cases h0:n=0
 ·subst h0;exact⟨[48],fun b hb=>by rw[List.mem_singleton.1 hb];decide,rfl,by simp,rfl⟩
 obtain⟨h1,h2⟩:=b6v 20 n.natAbs (a9w h);have hne:bl (digs 20 n.natAbs)≠[]:=fun e=>by rw[e] at h2;have:n.natAbs=0:=h2.symm;omega
 by_cases hn:n<0
 ·exact⟨_,h1,h2,hne,by rw[numT,iN h0,iP hn,a1t,iP hn];rfl⟩
 ·exact⟨_,h1,h2,hne,by rw[numT,iN h0,iN hn,iN hn];rfl⟩
theorem b4e (h:Fits n):c8s (numT n)=n:=by
 obtain⟨D,h1,h2,h3,h4⟩:=a4s h;unfold c8s;by_cases hn:n<0
 ·rw[h4,iP hn]
  show(if (45::D).head? = some 45 then -(dval (a4r (45::D)):Int) else(dval (a4r (45::D)):Int))=n
  rw[iP (show(45::D).head? = some 45 from rfl),a4r,iP rfl,h2];omega
 ·rw[h4,iN hn,List.nil_append,iN (c4c h1),a5c h1,h2];omega
theorem c5a {m:Int}(h:Fits n)(g:Fits m)(e:numT n=numT m):n=m:=by rw[←b4e h,←b4e g,e]
theorem b7h (n:Int)(h:Fits n):1≤(numT n).size∧(numT n).size≤20:=by
 obtain⟨D,h1,h2,h3,h4⟩:=a4s h;have h5:=a1w (numT n);have hd:1≤D.length:=List.length_pos_iff.2 h3
 constructor
 ·rw[←h5,h4,List.length_append];omega
 ·by_cases h0:n=0
  ·subst h0;show 1≤20;omega
  have hk:n.natAbs<10 ^ 19:=by
   have h1:=h.1;have h2:=h.2;have:(10:Nat) ^ 19=10000000000000000000:=by decide
   rw[this];omega
  have e:=a9a 19 n.natAbs hk;have s1:=a3v 19 n.natAbs;unfold numT;rw[iN h0]
  split
  ·rw[ByteArray.size_append,e];show 1+_≤20;omega
  ·rw[e];omega
open Classical in
noncomputable def a0k (s:ByteArray):Int × Bool:=if h:∃ n,Fits n∧numT n=s then(Classical.choose h,true) else(0,false)
theorem a1g (h:Fits n):a0k (numT n)=(n,true):=by
 have hx:∃ m,Fits m∧numT m=numT n:=⟨n,h,rfl⟩;unfold a0k;rw[dif_pos hx];have:=Classical.choose_spec hx;rw[c5a this.1 h this.2]
theorem a2j (h:¬ ∃ n,Fits n∧numT n=s):a0k s=(0,false):=by unfold a0k;rw[dif_neg h]
theorem a5y (s:ByteArray):Fits (a0k s).1:=by
 by_cases h:∃ n,Fits n∧numT n=s
 ·obtain⟨n,hn,rfl⟩:=h;rw[a1g hn];exact hn
 ·rw[a2j h];exact⟨by show -9223372036854775808≤(0:Int);omega,by show(0:Int)≤_;omega⟩
def pval (s:ByteArray) (i:Nat):Nat:=dval (a4r ((bl s).take i))
theorem b7q (hn:Fits n)(h:numT n=s){i:Nat}(hi:i<s.size):
  (i=0∧s[i].toNat=45∧pval s (i+1)=0)∨(¬(i=0∧s[i].toNat=45)∧48≤s[i].toNat∧s[i].toNat≤57∧pval s (i+1)=pval s i*10+(s[i].toNat-48)∧pval s (i+1)≤n.natAbs):=by
 obtain⟨D,h1,h2,h3,h4⟩:=a4s hn;rw[h] at h4;have hb:=b9z hi;have hD:∀ j,D[j]?=some s[i]→48≤s[i].toNat∧s[i].toNat≤57:=fun j hj=>h1 _ (mG hj)
 have hT:∀ j,AllD (D.take j):=fun j b hb=>h1 b (List.mem_of_mem_take hb)
 have hle:∀ j,dval (D.take j)≤n.natAbs:=fun j=>by
  have:=c6u (D.take j) (D.drop j);rw[List.take_append_drop,h2] at this;exact this
 have hs:∀ j,D[j]?=some s[i]→dval (D.take (j+1))=dval (D.take j)*10+(s[i].toNat-48):=fun j hj=>by rw[List.take_add_one,hj];exact b3i _ _
 by_cases hneg:n<0
 ·rw[iP hneg] at h4;have h4:bl s=45::D:=h4
  cases i with
  | zero =>
   left
   rw[h4] at hb;have hb2:(45:UInt8)=s[0]:=by simpa using hb
   refine⟨rfl,by rw[←hb2];rfl,?_⟩
   unfold pval;rw[h4];rfl
  | succ j =>
   right
   rw[h4,List.getElem?_cons_succ] at hb;have hd:=hD j hb;have e1:pval s (j+1+1)=dval (D.take (j+1)):=by unfold pval;rw[h4,List.take_succ_cons,a4r,iP rfl]
   have e2:pval s (j+1)=dval (D.take j):=by unfold pval;rw[h4,List.take_succ_cons,a4r,iP rfl]
   exact⟨by omega,hd.1,hd.2,by rw[e1,e2];exact hs j hb,by rw[e1];exact hle _⟩
 ·rw[iN hneg,List.nil_append] at h4
  right
  rw[h4] at hb;have hd:=hD i hb;have e1:pval s (i+1)=dval (D.take (i+1)):=by unfold pval;rw[h4,a5c (hT _)]
  have e2:pval s i=dval (D.take i):=by unfold pval;rw[h4,a5c (hT _)]
  exact⟨by omega,hd.1,hd.2,by rw[e1,e2];exact hs i hb,by rw[e1];exact hle _⟩
theorem c3e (hn:Fits n)(h:numT n=s):pval s s.size=n.natAbs∧∀ g:0<s.size,(s[0].toNat=45↔n<0):=by
 obtain⟨D,h1,h2,h3,h4⟩:=a4s hn;rw[h] at h4;have e:(bl s).take s.size=bl s:=List.take_of_length_le (by rw[a1w];exact Nat.le_refl _);by_cases hneg:n<0
 ·rw[iP hneg] at h4;have h4:bl s=45::D:=h4;refine⟨by unfold pval;rw[e,h4,a4r,iP rfl,h2],fun g=>⟨fun _=>hneg,fun _=>?_⟩⟩;have hb:=b9z g;rw[h4] at hb;have hb2:(45:UInt8)=s[0]:=by simpa using hb
  rw[←hb2];rfl
 ·rw[iN hneg,List.nil_append] at h4;refine⟨by unfold pval;rw[e,h4,a5c h1,h2],fun g=>⟨fun e45=>?_,fun hh=>absurd hh hneg⟩⟩;have hb:=b9z g;rw[h4] at hb;have:=(h1 _ (mG hb)).1;omega
theorem a6f (z:Int):Fits (wrap64 z):=by unfold wrap64 Fits;omega
def c8x (op a b:Int):Int :=
 if op=4 then wrap64 (-a) else if op=5 then(if a=0 then 1 else 0) else if op=6 then wrap64 (a+b) else if op=7 then wrap64 (a-b)
 else if op=8 then wrap64 (a*b) else if op=9 then(if b<a then b else a) else if op=10 then(if b > a then b else a) else if op=11 then(if a<b then 1 else 0) else 0
def refused (e:Int):Int × List Int × List Int:=(e,[],[])
def oneR (op:Int) (s d:List Int):Int × List Int × List Int :=
 if op≠4∧op≠5 then refused 1 else if a0d s d then(0,s,d.map fun x=>c8x op x 0) else refused 13
def twoR (op:Int) (s d t k:List Int):Int × List Int × List Int :=
 if op<6∨11<op then refused 1 else if a0d s d&&(a0d t k&&t==s) then(0,s,List.zipWith (c8x op) d k) else refused 13
def c8q:List Int→List Int→List Int→List Int
 | z::c,x::a,y::b=>(if z=0 then y else x)::c8q c a b
 | _,_,_=>[]
def c7l (cs cd s d t k:List Int):Int × List Int × List Int :=
 if a0d cs cd&&(a0d s d&&s==cs&&(a0d t k&&t==cs)) then(0,s,c8q cd d k) else refused 13
def mix (t o:List Int) (j:Nat):List Int:=t.take j++o.drop j
theorem b7c (t o:List Int):mix t o 0=o:=by simp[mix]
theorem c4n (h:t.length=o.length):mix t o o.length=t:=by simp[mix,←h]
theorem c7f (h:t.length=o.length)(hx:t[j]?=some x):(mix t o j).set j x=mix t o (j+1):=by
 have hj:j<t.length:=(lL hx);have hl:(t.take j).length=j:=by simp;omega
 apply List.ext_getElem?;intro i;unfold mix;rw[List.getElem?_set];by_cases hi:j=i
 ·subst hi;rw[iP rfl,iP (by simp;omega),List.getElem?_append_left (by simp;omega),List.getElem?_take,iP (by omega),hx]
 ·rw[iN hi];by_cases hlt:i<j
  ·rw[List.getElem?_append_left (by omega),List.getElem?_append_left (by simp;omega),List.getElem?_take,List.getElem?_take,iP hlt,iP (by omega)]
  ·have hl2:(t.take (j+1)).length=j+1:=by simp;omega
   rw[List.getElem?_append_right (by omega),List.getElem?_append_right (by omega),hl,hl2,List.getElem?_drop,List.getElem?_drop]
   congr 1;omega
theorem c8l (h:t.length=o.length)(hj:j<o.length):(mix t o j)[j]?=o[j]? := by
 have hl:(t.take j).length=j:=by simp;omega
 unfold mix;rw[List.getElem?_append_right (by omega),hl,List.getElem?_drop]
 congr 1;omega
theorem c1g {n:Nat}(h:t.length=n)(hj:j<n):(mix t (List.replicate n c) j)[j]?=some c:=by
 rw[c8l (by simpa using h) (by simpa using hj),List.getElem?_replicate,iP hj]
theorem c1f {n:Nat}(h:t.length=n):mix t (List.replicate n c) n=t:=by
 have:=c4n (t:=t) (o:=List.replicate n c) (by simpa using h);rwa [List.length_replicate] at this
theorem b7b {n:Nat}(h:t.length=n)(hx:t[j]?=some x):(mix t (List.replicate n c) j).set j x=mix t (List.replicate n c) (j+1):=c7f (by simpa using h) hx
def tw (ws:List ByteArray):List UInt8:=ws.flatMap fun w=>32::bl w
theorem a7r (w:ByteArray)(ws:List ByteArray):tw (w::ws)=32::(bl w++tw ws):=by
 rw[tw,List.flatMap_cons];rfl
theorem b4v (a b:List ByteArray):tw (a++b)=tw a++tw b:=by
 unfold tw;rw[List.flatMap_append]
theorem c6h (w:ByteArray):tw [w]=32::bl w:=by rw[a7r];simp[tw]
def Free (c:UInt8) (w:ByteArray):Prop:=c∉bl w
theorem b4o:∀ {p:List UInt8} {ws:List ByteArray},(32:UInt8)∉p→(∀ w∈ws,Free 32 w)→a0u 32 (p++tw ws)=p::ws.map bl
 | p,[],hp,_=>by rw[show tw []=[] from rfl,List.append_nil,a7n hp];rfl
 | p,w::ws,hp,h=>by
  rw[a7r,a5f hp,b4o (h w List.mem_cons_self) (fun x hx=>h x (List.mem_cons_of_mem _ hx))];rfl
theorem a6x {p:ByteArray}{ws:List ByteArray}(e:bl s=bl p++tw ws)(hp:Free 32 p)(h:∀ w∈ws,Free 32 w):a0g s=p::ws:=by
 unfold a0g;rw[e,b4o hp h,List.map_cons,List.map_map,b0b]
 congr 1
 have:(ofL ∘ bl)=id:=by funext x;exact b0b x
 rw[this,List.map_id]
def tl (ls:List ByteArray):List UInt8:=ls.flatMap fun w=>bl w++[10]
theorem b2s (w:ByteArray)(ls:List ByteArray):tl (w::ls)=bl w++10::tl ls:=by
 rw[tl,List.flatMap_cons,List.append_assoc];rfl
theorem c3b (a b:List ByteArray):tl (a++b)=tl a++tl b:=by
 unfold tl;rw[List.flatMap_append]
theorem b4n:∀ {ls:List ByteArray},(∀ w∈ls,Free 10 w)→a0u 10 (tl ls)=ls.map bl++[[]]
 | [],_=>rfl
 | w::ls,h=>by
  rw[b2s,a5f (h w List.mem_cons_self),b4n (fun x hx=>h x (List.mem_cons_of_mem _ hx))];rfl
theorem c1c {ls:List ByteArray}(e:bl s=tl ls)(h:∀ w∈ls,Free 10 w):a0s s=(ls,true):=by
 unfold a0s;rw[e,b4n h,List.dropLast_concat,List.getLast?_concat,List.map_map];have:(ofL ∘ bl)=id:=by funext x;exact b0b x
 rw[this,List.map_id];exact congrArg (ls,·) (by simp)
theorem c4a {c:UInt8}{a b:ByteArray}(ha:Free c a)(hb:Free c b):Free c (a++b):=by
 unfold Free;rw[a1t,List.mem_append];exact fun h=>h.elim ha hb
theorem b6m {c:UInt8}(hc:c≠32){ws:List ByteArray}(h:∀ w∈ws,Free c w):c∉tw ws:=by
 intro hm;rw[tw,List.mem_flatMap] at hm;obtain⟨w,hw,hm⟩:=hm;rcases List.mem_cons.1 hm with e|e
 ·exact hc e
 ·exact h w hw e
theorem a2h (h:Fits n){c:UInt8}(hc:c.toNat<45):Free c (numT n):=by
 obtain⟨D,h1,_,_,h4⟩:=a4s h;unfold Free;rw[h4,List.mem_append];rintro(hm|hm)
 ·split at hm
  ·rw[List.mem_singleton] at hm;subst hm;revert hc;decide
  ·cases hm
 ·have:=(h1 c hm).1;omega
theorem b2c:∀(l:List Int) (o:ByteArray),bl (a1q o l)=bl o++tw (l.map numT)
 | [],o=>by show bl o=bl o++[];rw[List.append_nil]
 | x::l,o=>by
  have e:a1q o (x::l)=a1q (o++spT++numT x) l:=rfl;rw[e,b2c l,a1t,a1t,List.map_cons,a7r]
  show(bl o++[32]++bl (numT x))++tw (l.map numT)=bl o++32::(bl (numT x)++tw (l.map numT))
  simp only[List.append_assoc,List.cons_append,List.nil_append]
def oB:ByteArray:=⟨#[40]⟩
def cB:ByteArray:=⟨#[41]⟩
def a5i (l:List Int):List ByteArray:=oB::(l.map numT++[cB])
theorem c6o (l:List Int):bl (a4i l)=tw (a5i l):=by
 rw[a4i,a1t,b2c,a5i,a7r,b4v,c6h]
 show [32,40]++tw (l.map numT)++[32,41]=32::([40]++(tw (l.map numT)++[32,41]))
 simp only[List.cons_append,List.nil_append]
theorem a7k {l:List Int}(h:∀ x∈l,Fits x){c:UInt8}(hc:c.toNat<40):∀ w∈a5i l,Free c w:=by
 intro w hw;unfold a5i at hw;rcases List.mem_cons.1 hw with e|e
 ·subst e;unfold Free;rw[show bl oB=[40] from rfl,List.mem_singleton];intro e;subst e;revert hc;decide
 ·rcases List.mem_append.1 e with e|e
  ·obtain⟨x,hx,rfl⟩:=List.mem_map.1 e;exact a2h (h x hx) (by omega)
  ·rw[List.mem_singleton] at e;subst e;unfold Free;rw[show bl cB=[41] from rfl,List.mem_singleton];intro e;subst e;revert hc;decide
theorem c1u (h:Fits n):numT n≠cB:=fun e=>by
 have:=a2h h (c:=41) (by decide);rw[e] at this;exact this (by show(41:UInt8)∈[41];simp)
theorem c1m {op:Int}(h1:1≤op)(h2:op≤20):∃ k:Nat,op=k∧1≤k∧k≤20∧a3f op=opN.getD k ⟨#[]⟩:=by
 obtain⟨k,rfl⟩:=eZ (show 0≤op by omega);exact⟨k,rfl,by omega,by omega,by rw[a3f,iN (by omega),Int.toNat_natCast]⟩
theorem b1o (op:Int){c:UInt8}(hc:c.toNat<97):Free c (a3f op):=by
 have key:∀ k:Nat,∀ b∈bl (opN.getD k ⟨#[]⟩),97≤b.toNat:=by
  intro k;by_cases hk:k<21
  ·have:∀ j:Fin 21,∀ b∈bl (opN.getD j.val ⟨#[]⟩),97≤b.toNat:=by decide
   exact this ⟨k,hk⟩
  ·rw[gD,List.getElem?_eq_none (by show 21≤k;omega)];intro b hb;cases hb
 unfold a3f
 split
 ·intro h;cases h
 ·intro h;have:=key _ c h;omega
def Tens (w:World) (A:Option Addr) (n:Nat) (l:List (List Int × List Int)):Prop :=
 l.length=n∧n≤1000000∧∀ j x,l[j]?=some x→∃ a S sn sc D dn dc,A=some a∧a.block<w.heap.size∧w.cell? (a.add (j*2))=some (.slice S sn sc)∧w.cell? ⟨(a.add (j*2)).block,(a.add (j*2)).off+1,none⟩=some (.slice D dn dc)∧Ten w (.agg #[.slice S sn sc,.slice D dn dc]) x.1 x.2
theorem Tens.below {w:World}{A:Option Addr}{n:Nat}{l:List (List Int × List Int)}(h:Tens w A n l)(hb:Below w.heap.size w w'):Tens w' A n l :=
 ⟨h.1,h.2.1,fun j x hx=>by
  obtain⟨a,S,sn,sc,D,dn,dc,e,hbl,h0,h1,ht⟩:=h.2.2 j x hx
  exact⟨a,S,sn,sc,D,dn,dc,e,by have:=hb.size;omega,(hb.cell (by rw[a0l];exact hbl)).trans h0,(hb.cell (by simp only[a0l];exact hbl)).trans h1,ht.below hb⟩⟩
def a5z (W wr:World) (g:Nat) (S D:Option Addr) (sn sc N dc:Nat) (s ds:List Int):Prop :=
 W.heap.size≤g∧wr.heap[g]?=some (.cells #[.slice S sn sc,.slice D N dc] 99999 (0,0))∧OwnS wr W.heap.size 3 (.slice S sn sc) sn s∧OwnS wr W.heap.size 2 (.slice D N dc) N ds∧Below W.heap.size W wr
theorem a5z.store {gb:Nat}{s:List Int}(h:a5z W wr g S (some ⟨gb,0,none⟩) sn sc N dc s ds)(j:Nat)(hx:Fits x):
  a5z W (wr.setCell ⟨gb,j,none⟩ (.int .i64 x)) g S (some ⟨gb,0,none⟩) sn sc N dc s (ds.set j x):=by
 obtain⟨hg,hgx,hS,hD,hB⟩:=h;have hO:Own wr W.heap.size 2 gb N dc ds:=hD;obtain⟨cs,hb⟩:=hO.blk;have hgw:=a2q wr gb j (.int .i64 x);exact⟨hg,(hgw.block _ (block_lt_of_cell (b6t hgx)) (fun h'=>a5w hgx hb c8z.2.2.1.symm (by injection h'))).trans hgx,hS.grownNe hgw (hS.apart hb c8z.1),hO.store j hx,hB.setCell (p:=⟨gb,j,none⟩) hO.base_.1 _⟩
theorem a5z.drew {s:List Int}(h:a5z W wr g S D sn sc N dc s ds)(q:Nat):a5z W (wr.drewN q) g S D sn sc N dc s ds :=
 ⟨h.1,h.2.1,h.2.2.1,h.2.2.2.1,a5t h.2.2.2.2 q⟩
theorem a5z.below {s:List Int}(h:a5z W wr g S D sn sc N dc s ds)(hb:Below wr.heap.size wr w'):a5z W w' g S D sn sc N dc s ds :=
 ⟨h.1,(hb.block _ (block_lt_of_cell (b6t h.2.1))).trans h.2.1,h.2.2.1.below hb,h.2.2.2.1.below hb,h.2.2.2.2.trans (hb.mono h.2.2.2.2.size)⟩
end Go.Proofs.YtdcmanhgekjhgaaDoor
