import Derived.BigQuiet
import Derived.Deep.AppendLies
import Derived.Lib.Hide
import Derived.OpenShut
import Derived.Test.YtdcmanhgekjhgaaDoorProg
import Derived.WalkKit
set_option maxRecDepth 100000
set_option maxHeartbeats 12800000
namespace Go.Proofs.YtdcmanhgekjhgaaDoor
open Go.RowKit Go.Proofs.Tryd
variable {B a g i k n:Nat} {s:ByteArray} {t:TypeId} {w w':World} {x:Int} {xs ys zs:List Int}
abbrev zN:List Value:=[.int .i64 0,.slice none 0 0,.slice none 0 0,.slice none 0 0,.int .i64 0,.int .i64 0,.string ⟨#[]⟩]
abbrev zA:Array Value:=#[.int .i64 0,.slice none 0 0,.slice none 0 0,.slice none 0 0,.int .i64 0,.int .i64 0,.string ⟨#[]⟩]
abbrev zG:List Value:=[.slice none 0 0,.string ⟨#[]⟩,.slice none 0 0,.slice none 0 0]
abbrev zH:Array Value:=#[.slice none 0 0,.string ⟨#[]⟩,.slice none 0 0,.slice none 0 0]
theorem Hd {p:Prop}(h:p):Hid p:=h
theorem iP {c:Prop}{h:Decidable c}(hc:c){α:Sort _}{t e:α}:ite c t e=t:=if_pos hc
theorem iN {c:Prop}{h:Decidable c}(hc:¬ c){α:Sort _}{t e:α}:ite c t e=e:=if_neg hc
theorem eZ {a:Int}(h:0≤a):∃ n:Nat,a=n:=Int.eq_ofNat_of_zero_le h
theorem gE {α:Type}{l:List α}(h:i<l.length):∃ x,l[i]?=some x:=⟨_,List.getElem?_eq_getElem h⟩
theorem lL {α:Type}{l:List α}{x:α}(h:l[i]?=some x):i<l.length:=(List.getElem?_eq_some_iff.1 h).1
theorem mG {α:Type}{l:List α}{x:α}(h:l[i]?=some x):x∈l:=List.mem_of_getElem? h
theorem gD {α:Type}{l:List α}{d:α}:l.getD i d=l[i]?.getD d:=List.getD_eq_getElem?_getD
theorem a0l (a:Addr)(n:Nat):(a.add n).block=a.block:=Go.ChangeShapes.block_add a n
theorem a7c (a:Addr)(i j:Nat):(a.add i).add j=a.add (i+j):=Addr.add_add a i j
def Fits (x:Int):Prop := -9223372036854775808≤x∧x≤9223372036854775807
def Ints (w:World) (A:Option Addr) (n:Nat) (xs:List Int):Prop :=
 xs.length=n∧n≤9223372036854775807∧(∀ x∈xs,Fits x) ∧
 (0<n→∃ ad,A=some ad∧ad.block<w.heap.size∧∀ j x,xs[j]?=some x→w.cell? (ad.add j)=some (.int .i64 x))
section
variable {w w' : World} {A : Option Addr} {n : Nat} {xs : List Int}
theorem Ints.len (h:Ints w A n xs):xs.length=n:=h.1
theorem Ints.le (h:Ints w A n xs):n≤9223372036854775807:=h.2.1
theorem Ints.fit (h:Ints w A n xs):∀ x∈xs,Fits x:=h.2.2.1
theorem Ints.nil_ (w:World)(A:Option Addr):Ints w A 0 []:=⟨rfl,by omega,by simp,fun h=>absurd h (by omega)⟩
theorem Ints.at_ (h:Ints w A n xs)(hk:k<n):
  ∃ ad x,A=some ad∧ad.block<w.heap.size∧xs[k]?=some x∧w.cell? (ad.add k)=some (.int .i64 x)∧Fits x:=by
 obtain⟨ad,e,hb,hc⟩:=h.2.2.2 (by omega);have hl:k<xs.length:=by have:=h.1;omega
 exact⟨ad,xs[k],e,hb,List.getElem?_eq_getElem hl,hc k _ (List.getElem?_eq_getElem hl),h.2.2.1 _ (List.getElem_mem hl)⟩
theorem Ints.get {ad:Addr}(h:Ints w (some ad) n xs)(hx:xs[k]?=some x):w.cell? (ad.add k)=some (.int .i64 x):=by
 have hk:k<n:=by rw[←h.1];exact(lL hx)
 obtain⟨ad', e,_,hc⟩:=h.2.2.2 (by omega);injection e with e
 subst e;exact hc k x hx
theorem Ints.keep (h:Ints w A n xs)(hs:w.heap.size≤w'.heap.size)(hk:∀ p:Addr,p.block<w.heap.size→w'.cell? p=w.cell? p):Ints w' A n xs :=
 ⟨h.1,h.2.1,h.2.2.1,fun hn=>by
  obtain⟨ad,e,hb,hc⟩:=h.2.2.2 hn
  exact⟨ad,e,by omega,fun j u hu=>(hk _ (by rw[a0l];exact hb)).trans (hc j u hu)⟩⟩
theorem Ints.grown (h:Ints w A n xs){row:Option Nat}(hg:w.grownBy w' row)(hne:∀ ad,A=some ad→0<n→some ad.block≠row):Ints w' A n xs :=
 ⟨h.1,h.2.1,h.2.2.1,fun hn=>by
  obtain⟨ad,e,hb,hc⟩:=h.2.2.2 hn
  exact⟨ad,e,by have:=hg.size;omega,fun j u hu=>hg.cell (hc j u hu) (by rw[a0l];exact hne ad e hn)⟩⟩
theorem Ints.below (h:Ints w A n xs)(hb:Below w.heap.size w w'):Ints w' A n xs:=h.keep hb.size fun _ hp=>hb.cell hp
theorem Ints.drew (h:Ints w A n xs):Ints w.drew A n xs:=h
theorem Ints.drewN (h:Ints w A n xs)(k:Nat):Ints (w.drewN k) A n xs:=h
theorem Ints.alloc (h:Ints w A n xs)(o:Obj):Ints (w.alloc o) A n xs:=h.keep (by simp) fun p hp=>World.cell?_alloc_lt w o p hp
end
theorem a5t {a:World}(h:Below B a w)(n:Nat):Below B a (w.drewN n):=⟨h.os,h.tape,h.output,h.size,h.block⟩
theorem a4o {w2:World}(h:Below w.heap.size w w')(k:Below w'.heap.size w' w2):Below w.heap.size w w2:=h.trans (k.mono h.size)
theorem a5m {P:Program}{f:FuncId}{args:Array Value}{v:Value}
  (h:Calls P f args (w.drewN n) fun e w'=>e=.returned v∧w.drewN n=w'):Calls P f args (w.drewN n) fun e w'=>e=.returned v∧∃ m,w'=w.drewN m :=
 h.mono fun _ _ hh=>⟨hh.1,n,hh.2.symm⟩
theorem a2q (w:World)(g i:Nat)(u:Value):w.grownBy (w.setCell ⟨g,i,none⟩ u) (some g) :=
 ⟨rfl,rfl,rfl,by simp[World.setCell],fun k _ hk=>Below.heap_setCell w ⟨g,i,none⟩ u k (fun e=>hk (by rw[e]))⟩
theorem a3r (h:Below w.heap.size w w')(row:Option Nat):w.grownBy w' row:=⟨h.os,h.tape,h.output,h.size,fun k hk _=>h.block k hk⟩
theorem a9i {a b c:World}{row:Option Nat}(h:a.grownBy b row)(k:b.grownBy c row):a.grownBy c row :=
 ⟨k.os.trans h.os,k.tape.trans h.tape,k.output.trans h.output,Nat.le_trans h.size k.size,fun i hi hne=>(k.block i (Nat.lt_of_lt_of_le hi h.size) hne).trans (h.block i hi hne)⟩
theorem a5k {w0:World}(h:Below B w0 w)(hB:B≤w.heap.size)(k:w.grownBy w' (some g))(hg:B≤g):Below B w0 w' :=
 h.grown k hB (fun i hi=>by injection hi with hi;omega)
def Own (w:World) (base:Nat) (e:TypeId) (g n c:Nat) (xs:List Int):Prop :=
 w.ownsRow base e 1 (.slice (some ⟨g,0,none⟩) n c) n (xs.map (Value.int .i64))∧(∀ x∈xs,Fits x)∧n≤9223372036854775807
section
variable {w w' : World} {base g n c : Nat} {e : TypeId} {xs : List Int}
theorem Own.len (h:Own w base e g n c xs):xs.length=n:=by simpa using h.1.1
theorem Own.base_ (h:Own w base e g n c xs):base≤g∧g<w.heap.size:=h.1.lt g rfl
theorem Own.cap (h:Own w base e g n c xs):n≤c:=by
 rcases h.1.2 with ⟨h', _⟩|⟨g', c', cur,h', _,_,hnc,_⟩
 ·simp at h'
 ·simp only[Value.slice.injEq,Option.some.injEq,Addr.mk.injEq,and_true,true_and] at h';obtain⟨rfl,rfl⟩:=h';exact hnc
theorem Own.cell (h:Own w base e g n c xs){j:Nat}(hx:xs[j]?=some x):w.cell? ⟨g,j,none⟩=some (.int .i64 x):=by
 have hj:j<n:=by rw[←h.len];exact(lL hx)
 rw[h.1.cellAt j (by omega),List.getElem?_map,hx];rfl
theorem Own.blk (h:Own w base e g n c xs):∃ cs,w.heap[g]?=some (.cells cs e (0,0)):=by
 rcases h.1.2 with ⟨h', _⟩|⟨g', c', cur,h', _,hh,_⟩
 ·simp at h'
 ·simp only[Value.slice.injEq,Option.some.injEq,Addr.mk.injEq,and_true,true_and] at h';obtain⟨rfl,rfl⟩:=h';exact⟨cur,hh⟩
theorem Own.frozen (h:Own w base e g n c xs)(j:Nat):w.frozen? ⟨g,j,none⟩=false:=h.1.frozenAt j
theorem Own.ints (h:Own w base e g n c xs):Ints w (some ⟨g,0,none⟩) n xs :=
 ⟨h.len,h.2.2,h.2.1,fun _=>⟨_,rfl,h.base_.2,fun _ _ hx=>by rw[Addr.add_lit,Nat.zero_add];exact h.cell hx⟩⟩
theorem Own.below (h:Own w base e g n c xs)(hb:Below w.heap.size w w'):Own w' base e g n c xs:=by
 refine⟨h.1.kept (row:=none) ⟨hb.os,hb.tape,hb.output,hb.size,fun k hk _=>hb.block k hk⟩ (.inr (by simp[Value.ownBlock])),h.2.1,h.2.2⟩
theorem Own.drewN (h:Own w base e g n c xs)(k:Nat):Own (w.drewN k) base e g n c xs:=h
theorem Own.store (h:Own w base e g n c xs)(j:Nat){u:Int}(hu:Fits u):Own (w.setCell ⟨g,j,none⟩ (.int .i64 u)) base e g n c (xs.set j u):=by
 refine⟨?_,?_,h.2.2⟩
 ·have:=(h.1.stored j (.int .i64 u)).1;rwa [←List.map_set] at this
 ·intro x hx;rcases List.mem_or_eq_of_mem_set hx with hx|rfl
  ·exact h.2.1 x hx
  ·exact hu
end
def c7d (xs:List Int) (n:Nat):Bool:=xs.all (fun x=>decide (-9223372036854775808≤x)&&decide (x≤9223372036854775807))&&decide (xs.length=n)&&decide (n≤1000)
def OwnS (w:World) (base:Nat) (e:TypeId) (v:Value) (n:Nat) (xs:List Int):Prop :=
 w.ownsRow base e 1 v n (xs.map (Value.int .i64))∧(∀ x∈xs,Fits x)∧n≤9223372036854775807
section
variable {w w' : World} {base n : Nat} {e : TypeId} {v : Value} {xs : List Int}
theorem OwnS.nil_ (w:World)(base:Nat)(e:TypeId):OwnS w base e (.slice none 0 0) 0 []:=⟨World.ownsRow_nil w base e 1,by simp,by omega⟩
theorem OwnS.len (h:OwnS w base e v n xs):xs.length=n:=by simpa using h.1.1
theorem OwnS.grown (h:OwnS w base e v n xs)(hg:w.grownBy w' (some g))(hb:g<base):OwnS w' base e v n xs :=
 ⟨h.1.kept hg (by
  cases hv:v.ownBlock with
  | none=>exact .inl rfl
  | some k=>right;have:=(h.1.lt k hv).1;intro hk;injection hk with hk;omega),h.2.1,h.2.2⟩
theorem OwnS.below (h:OwnS w base e v n xs)(hb:Below w.heap.size w w'):OwnS w' base e v n xs :=
 ⟨h.1.kept (row:=none) (a3r hb none) (by cases v.ownBlock with|none=>exact .inl rfl|some k=>exact .inr (by simp)),h.2.1,h.2.2⟩
theorem OwnS.alloc (h:OwnS w base e v n xs)(o:Obj):OwnS (w.alloc o) base e v n xs:=⟨h.1.alloc o,h.2.1,h.2.2⟩
theorem OwnS.drew (h:OwnS w base e v n xs):OwnS w.drew base e v n xs:=h
theorem OwnS.drewN (h:OwnS w base e v n xs)(k:Nat):OwnS (w.drewN k) base e v n xs:=h
theorem OwnS.form (h:OwnS w base e v n xs):∃ A c,v=.slice A n c∧n≤c∧Ints w A n xs∧∀ ad,A=some ad→base≤ad.block:=by
 rcases h.1.2 with ⟨rfl,rfl⟩|⟨g,c,cur,rfl,hb,hh,hnc,_⟩
 ·have:xs=[]:=List.eq_nil_of_length_eq_zero h.len;subst this;exact⟨none,0,rfl,by omega,Ints.nil_ _ _,by simp⟩
 ·have hO:Own w base e g n c xs:=h;exact⟨_,c,rfl,hnc,hO.ints,fun ad he=>by injection he with he;subst he;exact hb⟩
theorem OwnS.grownNe (h:OwnS w base e v n xs){row:Option Nat}(hg:w.grownBy w' row)(hb:∀ k,v.ownBlock=some k→some k≠row):OwnS w' base e v n xs :=
 ⟨h.1.kept hg (by
  cases hv:v.ownBlock with
  | none=>exact .inl rfl
  | some k=>exact .inr (hb k hv)),h.2.1,h.2.2⟩
theorem OwnS.blk (h:OwnS w base e v n xs)(hk:v.ownBlock=some k):∃ cs,w.heap[k]?=some (.cells cs e (0,0)):=by
 rcases h.1.2 with ⟨rfl,rfl⟩|⟨g,c,cur,rfl,_,hh,_⟩
 ·simp[Value.ownBlock] at hk
 ·simp only[Value.ownBlock,Option.some.injEq] at hk;subst hk;exact⟨cur,hh⟩
theorem a5w {k':Nat}{cs cs' : Array Value}{t':TypeId}{f f' : Nat × Nat}(h:w.heap[k]?=some (.cells cs t f))(h' : w.heap[k']?=some (.cells cs' t' f'))(ht:t≠t'):k≠k':=by
 rintro rfl;rw[h] at h';injection h' with h'
 injection h' with _ h'
 exact ht h'
theorem OwnS.apart (h:OwnS w base e v n xs){cs:Array Value}{f:Nat × Nat}(hk:w.heap[k]?=some (.cells cs t f))(ht:e≠t):∀ j,v.ownBlock=some j→some j≠some k:=by
 intro j hj he;obtain⟨cs', hb⟩:=h.blk hj;exact a5w hb hk ht (by injection he)
theorem OwnS.mono {base' : Nat}(h:OwnS w base e v n xs)(hb:base' ≤ base):OwnS w base' e v n xs:=by
 refine⟨⟨h.1.1,?_⟩,h.2⟩;rcases h.1.2 with hh|⟨g,cap,cur,h1,h2,h3⟩
 ·exact .inl hh
 ·exact .inr ⟨g,cap,cur,h1,Nat.le_trans hb h2,h3⟩
theorem OwnS.own (h:OwnS w base e v n xs)(hn:0<n):∃ g c,v=.slice (some ⟨g,0,none⟩) n c∧Own w base e g n c xs:=by
 rcases h.1.2 with ⟨rfl,rfl⟩|⟨g,c,cur,rfl,hb,hh,hnc,_⟩
 ·omega
 ·exact⟨g,c,rfl,h⟩
theorem OwnS.block (h:OwnS w base e v n xs)(k:Nat)(hk:v.ownBlock=some k):base≤k:=(h.1.lt k hk).1
end
theorem a4d {P:Program}{ops:Array Oper}{rest:List Oper}{o:Oper}{a:Act}{Q:Exit→Act→World→Prop}(hgd:o.guard=none)(s y:Operand)(t e:TypeId)
  (ho:o.op=.call { callee:=.builtin .append,args:=#[s,y],argTypes:=#[t,t] })(ht:P.underlying t=some (.slice e))
  (hinfo:(P.info? e).map (fun i=>(i.zero,i.size,i.bytes))=some (some (.int .i64 0),1,8))
  (base:Nat)(v:Value)(n:Nat)(xs:List Int)(hs:a.eval s=v)(hown:OwnS w base e v n xs)(hb:base≤w.heap.size)(x:Int)(hf:Fits x)(c:Nat)(hy:a.eval y=.slice (some ⟨w.heap.size,0,none⟩) 1 c)
  (hn:n≤17592186044000)
  (h:∀ v' w', OwnS w' base e v' (n+1) (xs++[x])→Below base w w' → w.grownBy w' v.ownBlock→wpList P ops Q rest (a.put o.dst v') w'):
  wpList P ops Q (o::rest) a (w.alloc (.cells #[.int .i64 x] e)):=by
 obtain⟨i,hi,hz0,hz1,hz2⟩:=info_parts hinfo;refine wpList_append_own _ hgd s y t ho base e i (.int .i64 0) 1 8 ht hi hz0 hz1 hz2 rfl (by decide) v n _ hs (hown.alloc _).1 ⟨w.heap.size,0,none⟩ 1 c [.int .i64 x] hy rfl ?_ ?_ (by unfold maxLen;omega) (by omega) (by simp;omega) ?_
 ·intro j u hj
  cases j with
  | zero=>simp at hj;subst hj;rw[Addr.add_lit,World.cell?_alloc_at _ _ _ _ rfl];rfl
  | succ j=>simp at hj
 ·intro u hu;simp at hu;subst hu;rfl
 ·intro v' w' ho' hg' _;have hO:OwnS w' base e v' (n+1) (xs++[x]):=⟨by simpa using ho', by intro z hz;simp at hz;rcases hz with hz|rfl;exact hown.2.1 z hz;exact hf,by omega⟩;have hgr:w.grownBy w' v.ownBlock:=a9i (World.grownBy_alloc w _ _) hg';exact h v' w' hO ((Below.refl _ _).grown hgr hb (fun k hk=>hown.block k hk)) hgr
theorem c4x {y:Int}(h:xs[k]?=some x)(g:ys[k]?=some y)(hne:x≠y):(xs==ys)=false:=by
 rw[beq_eq_false_iff_ne];rintro rfl;rw[h] at g;exact hne (by injection g)
theorem b7z (h:xs.length=n)(g:ys.length=n)(hk:n≤k)(he:xs.take k=ys.take k):(xs==ys)=true:=by
 rw[List.take_of_length_le (by omega),List.take_of_length_le (by omega)] at he;simp[he]
theorem c2y (h:xs[k]?=some x)(g:ys[k]?=some x)(he:xs.take k=ys.take k):xs.take (k+1)=ys.take (k+1):=by
 rw[List.take_add_one,List.take_add_one,h,g,he]
def c3l (w:World) (xs:List Int) (e:Ending) (w' : World):Prop :=
 (∃ A n c,e=.returned (.slice A n c)∧n≤c∧Ints w' A n xs)∧Below w.heap.size w w'
theorem c3l.none_ (w:World):c3l w [] (.returned (.slice none 0 0)) w:=⟨⟨_,_,_,rfl,by omega,Ints.nil_ _ _⟩,Below.refl _ _⟩
theorem c3l.own {b c:Nat}{e:TypeId}(h:Own w' b e g n c xs)(hb:Below w.heap.size w w'):
  c3l w xs (.returned (.slice (some ⟨g,0,none⟩) n c)) w':=⟨⟨_,_,_,rfl,h.cap,h.ints⟩,hb⟩
def From (k:Nat) (ys zs:List Int):Prop:=ys.length=zs.length∧∀ j,k≤j→ys[j]?=zs[j]?
theorem From.zero (h:From 0 ys zs):ys=zs:=List.ext_getElem? fun j=>h.2 j (by omega)
def Upto (k:Nat) (ys zs:List Int):Prop:=ys.length=zs.length∧∀ j,j<k→ys[j]?=zs[j]?
theorem Upto.all (h:Upto k ys zs)(hk:zs.length≤k):ys=zs:=List.ext_getElem? fun j=>by
 by_cases hj:j<k
 ·exact h.2 j hj
 ·rw[List.getElem?_eq_none (by rw[h.1];omega),List.getElem?_eq_none (by omega)]
theorem a0i {a b:Bool}(h:a=b):Ending.returned (.bool a)=.returned (.bool b):=by rw[h]
theorem b4f {k:IntKind}{a b:Int}{p q:Bool}(h:a=b)(g:p=q):Ending.returned (.tuple #[.int k a,.bool p])=.returned (.tuple #[.int k b,.bool q]):=by rw[h,g]
def bl (s:ByteArray):List UInt8:=s.data.toList
def ofL (l:List UInt8):ByteArray:=⟨l.toArray⟩
theorem a4l (l:List UInt8):bl (ofL l)=l:=rfl
theorem b0b (s:ByteArray):ofL (bl s)=s:=by
 apply ByteArray.ext;simp[ofL,bl]
theorem a1w (s:ByteArray):(bl s).length=s.size:=Array.length_toList
theorem a1t (s t:ByteArray):bl (s++t)=bl s++bl t:=by
 unfold bl;rw[ByteArray.data_append,Array.toList_append]
theorem c0b {t:ByteArray}(h:bl s=bl t):s=t:=by rw[←b0b s,←b0b t,h]
theorem b9z (h:i<s.size):(bl s)[i]?=some s[i]:=by
 unfold bl;rw[Array.getElem?_toList,Array.getElem?_eq_getElem h];rfl
theorem b3j (s:ByteArray)(a b:Nat):s.extract a b=ofL (((bl s).take b).drop a):=by
 apply ByteArray.ext;rw[ByteArray.data_extract];apply Array.toList_inj.1;rw[Array.toList_extract,List.extract]
 show((bl s).drop a).take (b-a)=((bl s).take b).drop a
 rw[List.drop_take]
def a0u (c:UInt8):List UInt8→List (List UInt8)
 | []=>[[]]
 | b::l=>if b=c then []::a0u c l else match a0u c l with
  | []=>[[b]]
  | p::ps=>(b::p)::ps
theorem a6v (c:UInt8):∀ l,a0u c l≠[]
 | []=>by simp[a0u]
 | b::l=>by
  unfold a0u
  split
  ·simp
  ·split <;> simp
theorem a5f {c:UInt8}:∀ {p q:List UInt8},c∉p→a0u c (p++c::q)=p::a0u c q
 | [],q,_=>by rw[List.nil_append,a0u,iP rfl]
 | b::p,q,h=>by
  have hb:¬ b=c:=fun e=>h (by rw[e];exact List.mem_cons_self)
  rw[List.cons_append,a0u,iN hb,a5f (fun hp=>h (List.mem_cons_of_mem _ hp))]
theorem a7n {c:UInt8}:∀ {p:List UInt8},c∉p→a0u c p=[p]
 | [],_=>rfl
 | b::p,h=>by
  have hb:¬ b=c:=fun e=>h (by rw[e];exact List.mem_cons_self)
  rw[a0u,iN hb,a7n (fun hp=>h (List.mem_cons_of_mem _ hp))]
theorem a2t (c:UInt8):∀ l,(a0u c l).length≤l.length+1
 | []=>by simp[a0u]
 | b::l=>by
  have ih:=a2t c l;unfold a0u
  split
  ·simp only[List.length_cons];omega
  ·cases h:a0u c l with
   | nil=>simp
   | cons p ps=>rw[h] at ih;simp only[List.length_cons] at ih ⊢;omega
def NoC (c:UInt8) (s:ByteArray) (a i:Nat):Prop:=∀ j b,(bl s)[j]?=some b→a≤j→j<i→b≠c
theorem NoC.nil (c:UInt8)(s:ByteArray)(a:Nat):NoC c s a a:=fun j b _ h1 h2=>by omega
theorem NoC.mem {c:UInt8}(h:NoC c s a i):c∉((bl s).take i).drop a:=fun hm=>by
 obtain⟨j,hj,e⟩:=List.getElem_of_mem hm;have h1:(((bl s).take i).drop a)[j]?=some c:=by rw[List.getElem?_eq_getElem hj,e]
 rw[List.getElem?_drop,List.getElem?_take] at h1
 split at h1
 ·exact h (a+j) c h1 (by omega) (by omega) rfl
 ·cases h1
theorem c5q {c:UInt8}(h:NoC c s a i)(ha:a≤i)(hi:i<s.size)(hb:s[i]=c):a0u c ((bl s).drop a)=bl (s.extract a i)::a0u c ((bl s).drop (i+1)):=by
 have e:(bl s).drop a=((bl s).take i).drop a++c::(bl s).drop (i+1):=by
  have h1:(bl s).drop i=c::(bl s).drop (i+1):=by
   have h2:=b9z hi;rw[hb] at h2;obtain⟨h3,h4⟩:=List.getElem?_eq_some_iff.1 h2;rw[List.drop_eq_getElem_cons h3,h4]
  rw[←h1]
  conv=>lhs;rw[←List.take_append_drop i (bl s)]
  rw[List.drop_append_of_le_length (by rw[List.length_take,a1w];omega)]
 rw[e,a5f h.mem,b3j,a4l]
theorem b9n {c:UInt8}(h:NoC c s a s.size):a0u c ((bl s).drop a)=[bl (s.extract a s.size)]:=by
 have e:((bl s).take s.size).drop a=(bl s).drop a:=by rw[List.take_of_length_le (by rw[a1w];exact Nat.le_refl _)]
 have h2:=h.mem;rw[e] at h2;rw[a7n h2,b3j,a4l,e]
def a0g (s:ByteArray):List ByteArray:=(a0u 32 (bl s)).map ofL
end Go.Proofs.YtdcmanhgekjhgaaDoor
