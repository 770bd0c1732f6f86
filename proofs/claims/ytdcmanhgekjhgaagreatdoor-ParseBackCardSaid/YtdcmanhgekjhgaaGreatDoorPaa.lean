import Derived.BigQuiet
import Derived.Deep.AppendLies
import Derived.Lib.Hide
import Derived.OpenShut
import Derived.Test.YtdcmanhgekjhgaaGreatDoorProg
import Derived.WalkKit
set_option maxRecDepth 100000
set_option maxHeartbeats 12800000
namespace Go.Proofs.YtdcmanhgekjhgaaGreatDoor
open Go.RowKit Go.Proofs.Tryz
variable {B a c g i j k n:Nat} {b r rank u x y:Int} {e t:TypeId} {l nm out xs ys zs:List Int} {s:ByteArray} {w w':World}
abbrev zN:List Value:=[.int .i64 0,.slice none 0 0,.slice none 0 0,.slice none 0 0,.int .i64 0,.int .i64 0,.string ⟨#[]⟩]
abbrev zA:Array Value:=#[.int .i64 0,.slice none 0 0,.slice none 0 0,.slice none 0 0,.int .i64 0,.int .i64 0,.string ⟨#[]⟩]
abbrev zG:List Value:=[.slice none 0 0,.string ⟨#[]⟩,.slice none 0 0,.slice none 0 0]
abbrev zH:Array Value:=#[.slice none 0 0,.string ⟨#[]⟩,.slice none 0 0,.slice none 0 0]
theorem Hd {p:Prop}(h:p):Hid p:=h
theorem iP {c:Prop}{h:Decidable c}(hc:c){α:Sort _}{t e:α}:ite c t e=t:=if_pos hc
theorem iN {c:Prop}{h:Decidable c}(hc:¬ c){α:Sort _}{t e:α}:ite c t e=e:=if_neg hc
theorem eZ {a:Int}(h:0≤a):∃ n:Nat,a=n:=Int.eq_ofNat_of_zero_le h
theorem gE {α:Type}{l:List α}(h:i<l.length):∃ x,l[i]?=some x:=⟨_,List.getElem?_eq_getElem h⟩
theorem lL {α:Type}{l:List α}{x:α}(h:l[i]?=some x):i<l.length:=(List.getElem?_eq_some_iff.1 h).1
theorem mG {α:Type}{l:List α}{x:α}(h:l[i]?=some x):x∈l:=List.mem_of_getElem? h
theorem gD {α:Type}{l:List α}{d:α}:l.getD i d=l[i]?.getD d:=List.getD_eq_getElem?_getD
theorem a0d (a:Addr)(n:Nat):(a.add n).block=a.block:=Go.ChangeShapes.block_add a n
theorem b0w (a:Addr)(i j:Nat):(a.add i).add j=a.add (i+j):=Addr.add_add a i j
def Fits (x:Int):Prop := -9223372036854775808≤x∧x≤9223372036854775807
def Ints (w:World) (A:Option Addr) (n:Nat) (xs:List Int):Prop :=
 xs.length=n∧n≤9223372036854775807∧(∀ x∈xs,Fits x) ∧
 (0<n→∃ ad,A=some ad∧ad.block<w.heap.size∧∀ j x,xs[j]?=some x→w.cell? (ad.add j)=some (.int .i64 x))
section
variable {w w' : World} {A : Option Addr} {n : Nat} {xs : List Int}
theorem Ints.len (h:Ints w A n xs):xs.length=n:=h.1
theorem Ints.le (h:Ints w A n xs):n≤9223372036854775807:=h.2.1
theorem Ints.fit (h:Ints w A n xs):∀ x∈xs,Fits x:=h.2.2.1
theorem Ints.nil_ (w:World)(A:Option Addr):Ints w A 0 []:=⟨rfl,by omega,by simp,fun h=>absurd h (by omega)⟩
theorem Ints.at_ (h:Ints w A n xs)(hk:k<n):
  ∃ ad x,A=some ad∧ad.block<w.heap.size∧xs[k]?=some x∧w.cell? (ad.add k)=some (.int .i64 x)∧Fits x:=by
 obtain⟨ad,e,hb,hc⟩:=h.2.2.2 (by omega);have hl:k<xs.length:=by have:=h.1;omega
 exact⟨ad,xs[k],e,hb,List.getElem?_eq_getElem hl,hc k _ (List.getElem?_eq_getElem hl),h.2.2.1 _ (List.getElem_mem hl)⟩
theorem Ints.get {ad:Addr}(h:Ints w (some ad) n xs)(hx:xs[k]?=some x):w.cell? (ad.add k)=some (.int .i64 x):=by
 have hk:k<n:=by rw[←h.1];exact(lL hx)
 obtain⟨ad', e,_,hc⟩:=h.2.2.2 (by omega);injection e with e
 subst e;exact hc k x hx
theorem Ints.keep (h:Ints w A n xs)(hs:w.heap.size≤w'.heap.size)(hk:∀ p:Addr,p.block<w.heap.size→w'.cell? p=w.cell? p):Ints w' A n xs :=
 ⟨h.1,h.2.1,h.2.2.1,fun hn=>by
  obtain⟨ad,e,hb,hc⟩:=h.2.2.2 hn
  exact⟨ad,e,by omega,fun j u hu=>(hk _ (by rw[a0d];exact hb)).trans (hc j u hu)⟩⟩
theorem Ints.grown (h:Ints w A n xs){row:Option Nat}(hg:w.grownBy w' row)(hne:∀ ad,A=some ad→0<n→some ad.block≠row):Ints w' A n xs :=
 ⟨h.1,h.2.1,h.2.2.1,fun hn=>by
  obtain⟨ad,e,hb,hc⟩:=h.2.2.2 hn
  exact⟨ad,e,by have:=hg.size;omega,fun j u hu=>hg.cell (hc j u hu) (by rw[a0d];exact hne ad e hn)⟩⟩
theorem Ints.below (h:Ints w A n xs)(hb:Below w.heap.size w w'):Ints w' A n xs:=h.keep hb.size fun _ hp=>hb.cell hp
theorem Ints.drew (h:Ints w A n xs):Ints w.drew A n xs:=h
theorem Ints.drewN (h:Ints w A n xs)(k:Nat):Ints (w.drewN k) A n xs:=h
theorem Ints.alloc (h:Ints w A n xs)(o:Obj):Ints (w.alloc o) A n xs:=h.keep (by simp) fun p hp=>World.cell?_alloc_lt w o p hp
end
theorem a1h {a:World}(h:Below B a w)(n:Nat):Below B a (w.drewN n):=⟨h.os,h.tape,h.output,h.size,h.block⟩
theorem a1c {w2:World}(h:Below w.heap.size w w')(k:Below w'.heap.size w' w2):Below w.heap.size w w2:=h.trans (k.mono h.size)
theorem b9t (h:Below w.heap.size w w')(k:Nat):Below w.heap.size w (w'.drewN k):=a1h h k
theorem a3p {P:Program}{f:FuncId}{args:Array Value}{v:Value}
  (h:Calls P f args (w.drewN n) fun e w'=>e=.returned v∧w.drewN n=w'):Calls P f args (w.drewN n) fun e w'=>e=.returned v∧∃ m,w'=w.drewN m :=
 h.mono fun _ _ hh=>⟨hh.1,n,hh.2.symm⟩
theorem a8y (w:World)(k:Nat)(row:Option Nat):w.grownBy (w.drewN k) row:=⟨rfl,rfl,rfl,Nat.le_refl _,fun _ _ _=>rfl⟩
theorem a0y (w:World)(g i:Nat)(u:Value):w.grownBy (w.setCell ⟨g,i,none⟩ u) (some g) :=
 ⟨rfl,rfl,rfl,by simp[World.setCell],fun k _ hk=>Below.heap_setCell w ⟨g,i,none⟩ u k (fun e=>hk (by rw[e]))⟩
theorem a8b (h:Below w.heap.size w w')(row:Option Nat):w.grownBy w' row:=⟨h.os,h.tape,h.output,h.size,fun k hk _=>h.block k hk⟩
theorem a3n {a b c:World}{row:Option Nat}(h:a.grownBy b row)(k:b.grownBy c row):a.grownBy c row :=
 ⟨k.os.trans h.os,k.tape.trans h.tape,k.output.trans h.output,Nat.le_trans h.size k.size,fun i hi hne=>(k.block i (Nat.lt_of_lt_of_le hi h.size) hne).trans (h.block i hi hne)⟩
theorem a8a {w0:World}(h:Below B w0 w)(hB:B≤w.heap.size)(k:w.grownBy w' (some g))(hg:B≤g):Below B w0 w' :=
 h.grown k hB (fun i hi=>by injection hi with hi;omega)
def Own (w:World) (base:Nat) (e:TypeId) (g n c:Nat) (xs:List Int):Prop :=
 w.ownsRow base e 1 (.slice (some ⟨g,0,none⟩) n c) n (xs.map (Value.int .i64))∧(∀ x∈xs,Fits x)∧n≤9223372036854775807
section
variable {w w' : World} {base g n c : Nat} {e : TypeId} {xs : List Int}
theorem Own.len (h:Own w base e g n c xs):xs.length=n:=by simpa using h.1.1
theorem Own.base_ (h:Own w base e g n c xs):base≤g∧g<w.heap.size:=h.1.lt g rfl
theorem Own.cap (h:Own w base e g n c xs):n≤c:=by
 rcases h.1.2 with ⟨h', _⟩|⟨g', c', cur,h', _,_,hnc,_⟩
 ·simp at h'
 ·simp only[Value.slice.injEq,Option.some.injEq,Addr.mk.injEq,and_true,true_and] at h';obtain⟨rfl,rfl⟩:=h';exact hnc
theorem Own.cell (h:Own w base e g n c xs)(hx:xs[j]?=some x):w.cell? ⟨g,j,none⟩=some (.int .i64 x):=by
 have hj:j<n:=by rw[←h.len];exact(lL hx)
 rw[h.1.cellAt j (by omega),List.getElem?_map,hx];rfl
theorem Own.blk (h:Own w base e g n c xs):∃ cs,w.heap[g]?=some (.cells cs e (0,0)):=by
 rcases h.1.2 with ⟨h', _⟩|⟨g', c', cur,h', _,hh,_⟩
 ·simp at h'
 ·simp only[Value.slice.injEq,Option.some.injEq,Addr.mk.injEq,and_true,true_and] at h';obtain⟨rfl,rfl⟩:=h';exact⟨cur,hh⟩
theorem Own.frozen (h:Own w base e g n c xs)(j:Nat):w.frozen? ⟨g,j,none⟩=false:=h.1.frozenAt j
theorem Own.ints (h:Own w base e g n c xs):Ints w (some ⟨g,0,none⟩) n xs :=
 ⟨h.len,h.2.2,h.2.1,fun _=>⟨_,rfl,h.base_.2,fun _ _ hx=>by rw[Addr.add_lit,Nat.zero_add];exact h.cell hx⟩⟩
theorem Own.below (h:Own w base e g n c xs)(hb:Below w.heap.size w w'):Own w' base e g n c xs:=by
 refine⟨h.1.kept (row:=none) ⟨hb.os,hb.tape,hb.output,hb.size,fun k hk _=>hb.block k hk⟩ (.inr (by simp[Value.ownBlock])),h.2.1,h.2.2⟩
theorem Own.drewN (h:Own w base e g n c xs)(k:Nat):Own (w.drewN k) base e g n c xs:=h
theorem Own.store (h:Own w base e g n c xs)(j:Nat)(hu:Fits u):Own (w.setCell ⟨g,j,none⟩ (.int .i64 u)) base e g n c (xs.set j u):=by
 refine⟨?_,?_,h.2.2⟩
 ·have:=(h.1.stored j (.int .i64 u)).1;rwa [←List.map_set] at this
 ·intro x hx;rcases List.mem_or_eq_of_mem_set hx with hx|rfl
  ·exact h.2.1 x hx
  ·exact hu
end
def a1e (xs:List Int) (n:Nat):Bool:=xs.all (fun x=>decide (-9223372036854775808≤x)&&decide (x≤9223372036854775807))&&decide (xs.length=n)&&decide (n≤1000)
def e4f (k:IntKind) (w:World) (a:Option Addr) (len cap:Nat) (zs:List Int):Prop :=
 (a=none∧len=0∧cap=0∧zs=[]) ∨
 ∃ x,a=some x∧len≤cap∧cap≤maxLen∧zs.length=cap∧(∀ i,i<zs.length→w.cell? (x.add i)=some (.int k (zs.getD i 0)))∧∀ n∈zs,(Lit.int k n).wf=true
theorem b7s {a:Option Addr}{len cap:Nat}(h:e4f .i64 w a len cap zs):Ints w a len (zs.take len):=by
 rcases h with ⟨rfl,rfl,rfl,rfl⟩|⟨x,rfl,hl,hm,hz,hc,hw⟩
 ·exact Ints.nil_ _ _
 ·unfold maxLen at hm;refine⟨by simp;omega,by omega,fun y hy=>bounds_i64 (hw y (List.mem_of_mem_take hy)),fun hn=>⟨x,rfl,?_,fun j u hu=>?_⟩⟩
  ·have:=block_lt_of_cell (hc 0 (by omega));rwa [a0d] at this
  ·rw[List.getElem?_take] at hu
   split at hu
   ·obtain⟨hj,rfl⟩:=List.getElem?_eq_some_iff.1 hu;rw[hc j hj];simp[List.getElem?_eq_getElem hj]
   ·cases hu
theorem d1o (hn:n≤9223372036854775807)
  (h:w'.ownsRow w.heap.size e 1 (.slice (some ⟨w.heap.size,0,none⟩) n n) n (madeCells #[Value.int .i64 0] n).toList):
  Own w' w.heap.size e w.heap.size n n (List.replicate n 0):=by
 refine⟨?_,?_,hn⟩
 ·have e1:(madeCells #[Value.int .i64 0] n).toList=(List.replicate n (0:Int)).map (Value.int .i64):=(toList_madeCells_one _ _).trans (by simp);rwa [e1] at h
 ·intro x hx;rw[List.eq_of_mem_replicate hx];exact⟨by omega,by omega⟩
def OwnS (w:World) (base:Nat) (e:TypeId) (v:Value) (n:Nat) (xs:List Int):Prop :=
 w.ownsRow base e 1 v n (xs.map (Value.int .i64))∧(∀ x∈xs,Fits x)∧n≤9223372036854775807
section
variable {w w' : World} {base n : Nat} {e : TypeId} {v : Value} {xs : List Int}
theorem OwnS.nil_ (w:World)(base:Nat)(e:TypeId):OwnS w base e (.slice none 0 0) 0 []:=⟨World.ownsRow_nil w base e 1,by simp,by omega⟩
theorem OwnS.len (h:OwnS w base e v n xs):xs.length=n:=by simpa using h.1.1
theorem OwnS.grown (h:OwnS w base e v n xs)(hg:w.grownBy w' (some g))(hb:g<base):OwnS w' base e v n xs :=
 ⟨h.1.kept hg (by
  cases hv:v.ownBlock with
  | none=>exact .inl rfl
  | some k=>right;have:=(h.1.lt k hv).1;intro hk;injection hk with hk;omega),h.2.1,h.2.2⟩
theorem OwnS.below (h:OwnS w base e v n xs)(hb:Below w.heap.size w w'):OwnS w' base e v n xs :=
 ⟨h.1.kept (row:=none) (a8b hb none) (by cases v.ownBlock with|none=>exact .inl rfl|some k=>exact .inr (by simp)),h.2.1,h.2.2⟩
theorem OwnS.alloc (h:OwnS w base e v n xs)(o:Obj):OwnS (w.alloc o) base e v n xs:=⟨h.1.alloc o,h.2.1,h.2.2⟩
theorem OwnS.drew (h:OwnS w base e v n xs):OwnS w.drew base e v n xs:=h
theorem OwnS.drewN (h:OwnS w base e v n xs)(k:Nat):OwnS (w.drewN k) base e v n xs:=h
theorem OwnS.form (h:OwnS w base e v n xs):∃ A c,v=.slice A n c∧n≤c∧Ints w A n xs∧∀ ad,A=some ad→base≤ad.block:=by
 rcases h.1.2 with ⟨rfl,rfl⟩|⟨g,c,cur,rfl,hb,hh,hnc,_⟩
 ·have:xs=[]:=List.eq_nil_of_length_eq_zero h.len;subst this;exact⟨none,0,rfl,by omega,Ints.nil_ _ _,by simp⟩
 ·have hO:Own w base e g n c xs:=h;exact⟨_,c,rfl,hnc,hO.ints,fun ad he=>by injection he with he;subst he;exact hb⟩
theorem OwnS.grownNe (h:OwnS w base e v n xs){row:Option Nat}(hg:w.grownBy w' row)(hb:∀ k,v.ownBlock=some k→some k≠row):OwnS w' base e v n xs :=
 ⟨h.1.kept hg (by
  cases hv:v.ownBlock with
  | none=>exact .inl rfl
  | some k=>exact .inr (hb k hv)),h.2.1,h.2.2⟩
theorem OwnS.blk (h:OwnS w base e v n xs)(hk:v.ownBlock=some k):∃ cs,w.heap[k]?=some (.cells cs e (0,0)):=by
 rcases h.1.2 with ⟨rfl,rfl⟩|⟨g,c,cur,rfl,_,hh,_⟩
 ·simp[Value.ownBlock] at hk
 ·simp only[Value.ownBlock,Option.some.injEq] at hk;subst hk;exact⟨cur,hh⟩
theorem a4z {k':Nat}{cs cs' : Array Value}{t':TypeId}{f f' : Nat × Nat}(h:w.heap[k]?=some (.cells cs t f))(h' : w.heap[k']?=some (.cells cs' t' f'))(ht:t≠t'):k≠k':=by
 rintro rfl;rw[h] at h';injection h' with h'
 injection h' with _ h'
 exact ht h'
theorem e6n (h:Own w base e g n c xs){cs:Array Value}{f:Nat × Nat}(hk:w.heap[k]?=some (.cells cs t f))(ht:e≠t):g≠k:=by
 obtain⟨cs', hb⟩:=h.blk;exact a4z hb hk ht
theorem OwnS.apart (h:OwnS w base e v n xs){cs:Array Value}{f:Nat × Nat}(hk:w.heap[k]?=some (.cells cs t f))(ht:e≠t):∀ j,v.ownBlock=some j→some j≠some k:=by
 intro j hj he;obtain⟨cs', hb⟩:=h.blk hj;exact a4z hb hk ht (by injection he)
theorem OwnS.mono {base' : Nat}(h:OwnS w base e v n xs)(hb:base' ≤ base):OwnS w base' e v n xs:=by
 refine⟨⟨h.1.1,?_⟩,h.2⟩;rcases h.1.2 with hh|⟨g,cap,cur,h1,h2,h3⟩
 ·exact .inl hh
 ·exact .inr ⟨g,cap,cur,h1,Nat.le_trans hb h2,h3⟩
theorem OwnS.own (h:OwnS w base e v n xs)(hn:0<n):∃ g c,v=.slice (some ⟨g,0,none⟩) n c∧Own w base e g n c xs:=by
 rcases h.1.2 with ⟨rfl,rfl⟩|⟨g,c,cur,rfl,hb,hh,hnc,_⟩
 ·omega
 ·exact⟨g,c,rfl,h⟩
theorem OwnS.block (h:OwnS w base e v n xs)(k:Nat)(hk:v.ownBlock=some k):base≤k:=(h.1.lt k hk).1
end
theorem a2m {P:Program}{ops:Array Oper}{rest:List Oper}{o:Oper}{a:Act}{Q:Exit→Act→World→Prop}(hgd:o.guard=none)(s y:Operand)(t e:TypeId)
  (ho:o.op=.call { callee:=.builtin .append,args:=#[s,y],argTypes:=#[t,t] })(ht:P.underlying t=some (.slice e))
  (hinfo:(P.info? e).map (fun i=>(i.zero,i.size,i.bytes))=some (some (.int .i64 0),1,8))
  (base:Nat)(v:Value)(n:Nat)(xs:List Int)(hs:a.eval s=v)(hown:OwnS w base e v n xs)(hb:base≤w.heap.size)(x:Int)(hf:Fits x)(c:Nat)(hy:a.eval y=.slice (some ⟨w.heap.size,0,none⟩) 1 c)
  (hn:n≤17592186044000)
  (h:∀ v' w', OwnS w' base e v' (n+1) (xs++[x])→Below base w w' → w.grownBy w' v.ownBlock→wpList P ops Q rest (a.put o.dst v') w'):
  wpList P ops Q (o::rest) a (w.alloc (.cells #[.int .i64 x] e)):=by
 obtain⟨i,hi,hz0,hz1,hz2⟩:=info_parts hinfo;refine wpList_append_own _ hgd s y t ho base e i (.int .i64 0) 1 8 ht hi hz0 hz1 hz2 rfl (by decide) v n _ hs (hown.alloc _).1 ⟨w.heap.size,0,none⟩ 1 c [.int .i64 x] hy rfl ?_ ?_ (by unfold maxLen;omega) (by omega) (by simp;omega) ?_
 ·intro j u hj
  cases j with
  | zero=>simp at hj;subst hj;rw[Addr.add_lit,World.cell?_alloc_at _ _ _ _ rfl];rfl
  | succ j=>simp at hj
 ·intro u hu;simp at hu;subst hu;rfl
 ·intro v' w' ho' hg' _;have hO:OwnS w' base e v' (n+1) (xs++[x]):=⟨by simpa using ho', by intro z hz;simp at hz;rcases hz with hz|rfl;exact hown.2.1 z hz;exact hf,by omega⟩;have hgr:w.grownBy w' v.ownBlock:=a3n (World.grownBy_alloc w _ _) hg';exact h v' w' hO ((Below.refl _ _).grown hgr hb (fun k hk=>hown.block k hk)) hgr
theorem d1h (h:xs[k]?=some x)(g:ys[k]?=some y)(hne:x≠y):(xs==ys)=false:=by
 rw[beq_eq_false_iff_ne];rintro rfl;rw[h] at g;exact hne (by injection g)
theorem c0y (h:xs.length=n)(g:ys.length=n)(hk:n≤k)(he:xs.take k=ys.take k):(xs==ys)=true:=by
 rw[List.take_of_length_le (by omega),List.take_of_length_le (by omega)] at he;simp[he]
theorem c7e (h:xs[k]?=some x)(g:ys[k]?=some x)(he:xs.take k=ys.take k):xs.take (k+1)=ys.take (k+1):=by
 rw[List.take_add_one,List.take_add_one,h,g,he]
def c4p (w:World) (xs:List Int) (e:Ending) (w' : World):Prop :=
 (∃ A n c,e=.returned (.slice A n c)∧n≤c∧Ints w' A n xs)∧Below w.heap.size w w'
theorem c4p.none_ (w:World):c4p w [] (.returned (.slice none 0 0)) w:=⟨⟨_,_,_,rfl,by omega,Ints.nil_ _ _⟩,Below.refl _ _⟩
theorem c4p.own {b:Nat}(h:Own w' b e g n c xs)(hb:Below w.heap.size w w'):
  c4p w xs (.returned (.slice (some ⟨g,0,none⟩) n c)) w':=⟨⟨_,_,_,rfl,h.cap,h.ints⟩,hb⟩
def From (k:Nat) (ys zs:List Int):Prop:=ys.length=zs.length∧∀ j,k≤j→ys[j]?=zs[j]?
theorem From.zero (h:From 0 ys zs):ys=zs:=List.ext_getElem? fun j=>h.2 j (by omega)
theorem From.set_ (h:From (k+1) ys zs)(hu:zs[k]?=some u):From k (ys.set k u) zs:=by
 refine⟨by simpa using h.1,fun j hj=>?_⟩;have hk:k<ys.length:=by rw[h.1];exact(lL hu)
 rw[List.getElem?_set];by_cases e:k=j
 ·subst e;simp[hk,hu]
 ·rw[iN e];exact h.2 j (by omega)
def Upto (k:Nat) (ys zs:List Int):Prop:=ys.length=zs.length∧∀ j,j<k→ys[j]?=zs[j]?
theorem Upto.start (h:ys.length=zs.length):Upto 0 ys zs:=⟨h,fun _ h=>absurd h (by omega)⟩
theorem Upto.all (h:Upto k ys zs)(hk:zs.length≤k):ys=zs:=List.ext_getElem? fun j=>by
 by_cases hj:j<k
 ·exact h.2 j hj
 ·rw[List.getElem?_eq_none (by rw[h.1];omega),List.getElem?_eq_none (by omega)]
theorem Upto.set_ (h:Upto k ys zs)(hu:zs[k]?=some u):Upto (k+1) (ys.set k u) zs:=by
 refine⟨by simpa using h.1,fun j hj=>?_⟩;have hk:k<ys.length:=by rw[h.1];exact(lL hu)
 rw[List.getElem?_set];by_cases e:k=j
 ·subst e;simp[hk,hu]
 ·rw[iN e];exact h.2 j (by omega)
theorem a3e {k:IntKind}{a:Int}(h:a=b):Ending.returned (.int k a)=.returned (.int k b):=by rw[h]
theorem a0c {a b:Bool}(h:a=b):Ending.returned (.bool a)=.returned (.bool b):=by rw[h]
theorem c6o {k:IntKind}{a:Int}{p q:Bool}(h:a=b)(g:p=q):Ending.returned (.tuple #[.int k a,.bool p])=.returned (.tuple #[.int k b,.bool q]):=by rw[h,g]
def bl (s:ByteArray):List UInt8:=s.data.toList
def ofL (l:List UInt8):ByteArray:=⟨l.toArray⟩
theorem a6y (l:List UInt8):bl (ofL l)=l:=rfl
theorem b1t (s:ByteArray):ofL (bl s)=s:=by
 apply ByteArray.ext;simp[ofL,bl]
theorem a3w (s:ByteArray):(bl s).length=s.size:=Array.length_toList
theorem a6x (s t:ByteArray):bl (s++t)=bl s++bl t:=by
 unfold bl;rw[ByteArray.data_append,Array.toList_append]
theorem d5b {t:ByteArray}(h:bl s=bl t):s=t:=by rw[←b1t s,←b1t t,h]
theorem d2e (h:i<s.size):(bl s)[i]?=some s[i]:=by
 unfold bl;rw[Array.getElem?_toList,Array.getElem?_eq_getElem h];rfl
theorem b2y (s:ByteArray)(a b:Nat):s.extract a b=ofL (((bl s).take b).drop a):=by
 apply ByteArray.ext;rw[ByteArray.data_extract];apply Array.toList_inj.1;rw[Array.toList_extract,List.extract]
 show((bl s).drop a).take (b-a)=((bl s).take b).drop a
 rw[List.drop_take]
def a1n (c:UInt8):List UInt8→List (List UInt8)
 | []=>[[]]
 | b::l=>if b=c then []::a1n c l else match a1n c l with
  | []=>[[b]]
  | p::ps=>(b::p)::ps
theorem b3x (c:UInt8):∀ l,a1n c l≠[]
 | []=>by simp[a1n]
 | b::l=>by
  unfold a1n
  split
  ·simp
  ·split <;> simp
theorem b1o {c:UInt8}:∀ {p q:List UInt8},c∉p→a1n c (p++c::q)=p::a1n c q
 | [],q,_=>by rw[List.nil_append,a1n,iP rfl]
 | b::p,q,h=>by
  have hb:¬ b=c:=fun e=>h (by rw[e];exact List.mem_cons_self)
  rw[List.cons_append,a1n,iN hb,b1o (fun hp=>h (List.mem_cons_of_mem _ hp))]
theorem b4y {c:UInt8}:∀ {p:List UInt8},c∉p→a1n c p=[p]
 | [],_=>rfl
 | b::p,h=>by
  have hb:¬ b=c:=fun e=>h (by rw[e];exact List.mem_cons_self)
  rw[a1n,iN hb,b4y (fun hp=>h (List.mem_cons_of_mem _ hp))]
theorem a5p (c:UInt8):∀ l,(a1n c l).length≤l.length+1
 | []=>by simp[a1n]
 | b::l=>by
  have ih:=a5p c l;unfold a1n
  split
  ·simp only[List.length_cons];omega
  ·cases h:a1n c l with
   | nil=>simp
   | cons p ps=>rw[h] at ih;simp only[List.length_cons] at ih ⊢;omega
def NoC (c:UInt8) (s:ByteArray) (a i:Nat):Prop:=∀ j b,(bl s)[j]?=some b→a≤j→j<i→b≠c
theorem NoC.nil (c:UInt8)(s:ByteArray)(a:Nat):NoC c s a a:=fun j b _ h1 h2=>by omega
theorem NoC.step {c:UInt8}(h:NoC c s a i)(hi:i<s.size)(hb:s[i]≠c):NoC c s a (i+1):=fun j b hj h1 h2=>by
 by_cases e:j=i
 ·subst e;rw[d2e hi] at hj;injection hj with hj;exact hj ▸ hb
 ·exact h j b hj h1 (by omega)
theorem NoC.mem {c:UInt8}(h:NoC c s a i):c∉((bl s).take i).drop a:=fun hm=>by
 obtain⟨j,hj,e⟩:=List.getElem_of_mem hm;have h1:(((bl s).take i).drop a)[j]?=some c:=by rw[List.getElem?_eq_getElem hj,e]
 rw[List.getElem?_drop,List.getElem?_take] at h1
 split at h1
 ·exact h (a+j) c h1 (by omega) (by omega) rfl
 ·cases h1
theorem c4a {c:UInt8}(h:NoC c s a i)(ha:a≤i)(hi:i<s.size)(hb:s[i]=c):a1n c ((bl s).drop a)=bl (s.extract a i)::a1n c ((bl s).drop (i+1)):=by
 have e:(bl s).drop a=((bl s).take i).drop a++c::(bl s).drop (i+1):=by
  have h1:(bl s).drop i=c::(bl s).drop (i+1):=by
   have h2:=d2e hi;rw[hb] at h2;obtain⟨h3,h4⟩:=List.getElem?_eq_some_iff.1 h2;rw[List.drop_eq_getElem_cons h3,h4]
  rw[←h1]
  conv=>lhs;rw[←List.take_append_drop i (bl s)]
  rw[List.drop_append_of_le_length (by rw[List.length_take,a3w];omega)]
 rw[e,b1o h.mem,b2y,a6y]
theorem b4z {c:UInt8}(h:NoC c s a s.size):a1n c ((bl s).drop a)=[bl (s.extract a s.size)]:=by
 have e:((bl s).take s.size).drop a=(bl s).drop a:=by rw[List.take_of_length_le (by rw[a3w];exact Nat.le_refl _)]
 have h2:=h.mem;rw[e] at h2;rw[b4y h2,b2y,a6y,e]
def a0u (s:ByteArray):List ByteArray:=(a1n 32 (bl s)).map ofL
def b1 (n:Nat):ByteArray:=⟨#[UInt8.ofNat n]⟩
def digs:Nat→Nat→ByteArray
 | 0,_=>⟨#[]⟩
 | f+1,k=>if k=0 then⟨#[]⟩ else digs f (k / 10)++b1 (48+k % 10)
def numT (n:Int):ByteArray:=if n=0 then b1 48 else if n<0 then b1 45++digs 20 n.natAbs else digs 20 n.natAbs
def spT:ByteArray:=⟨#[32]⟩
def lfT:ByteArray:=⟨#[10]⟩
def a3j (o:ByteArray) (l:List Int):ByteArray:=l.foldl (fun o x=>o++spT++numT x) o
def b8r:ByteArray:=⟨#[32,40]⟩
def e5o:ByteArray:=⟨#[32,41]⟩
def a7c (l:List Int):ByteArray:=a3j b8r l++e5o
def opN:List ByteArray :=
 [⟨#[]⟩,⟨#[112,97,114,97,109]⟩,⟨#[102,105,108,108]⟩,⟨#[105,111,116,97]⟩,⟨#[110,101,103]⟩,⟨#[110,111,116]⟩,⟨#[97,100,100]⟩,⟨#[115,117,98]⟩,⟨#[109,117,108]⟩,⟨#[109,105,110]⟩,⟨#[109,97,120]⟩,⟨#[108,101,115,115]⟩,
 ⟨#[115,101,108,101,99,116]⟩,⟨#[116,117,114,110]⟩,⟨#[115,112,114,101,97,100]⟩,⟨#[115,108,105,99,101]⟩,⟨#[112,97,100]⟩,⟨#[106,111,105,110]⟩,⟨#[102,111,108,100]⟩,⟨#[100,111,116]⟩,⟨#[119,105,110,100,111,119]⟩]
def a5s (op:Int):ByteArray:=if op<1∨20<op then⟨#[]⟩ else opN.getD op.toNat ⟨#[]⟩
def a4d:ByteArray:=⟨#[45]⟩
theorem a8j:∀(f k:Nat),(digs f k).size≤f
 | 0,_=>Nat.le_refl 0
 | f+1,k=>by
  rw[digs];split
  ·exact Nat.zero_le _
  ·rw[ByteArray.size_append];have:=a8j f (k / 10);have:(b1 (48+k % 10)).size=1:=rfl;omega
theorem a3y (n:Int):(numT n).size≤21:=by
 unfold numT;split
 ·show 1≤21;omega
 ·split
  ·rw[ByteArray.size_append];have:=a8j 20 n.natAbs;have:(b1 45).size=1:=rfl;omega
  ·have:=a8j 20 n.natAbs;omega
theorem a6t:∀(l:List Int) (o:ByteArray),(a3j o l).size≤o.size+22*l.length
 | [],o=>by simp[a3j]
 | x::l,o=>by
  have h:=a6t l (o++spT++numT x);have e:a3j o (x::l)=a3j (o++spT++numT x) l:=rfl;rw[e];have h2:=a3y x;have h3:spT.size=1:=rfl;rw[ByteArray.size_append,ByteArray.size_append,h3] at h;simp only[List.length_cons];omega
theorem a4e (l:List Int):(a7c l).size≤4+22*l.length:=by
 have h:=a6t l b8r;have h1:b8r.size=2:=rfl;have h2:e5o.size=2:=rfl;rw[a7c,ByteArray.size_append];omega
theorem b4r (op:Int):(a5s op).size≤6:=by
 unfold a5s;split
 ·show 0≤6;omega
 ·have h:∀ k:Nat,(opN.getD k ⟨#[]⟩).size≤6:=by
   intro k;by_cases hk:k<21
   ·have:∀ j:Fin 21,(opN.getD j.val ⟨#[]⟩).size≤6:=by decide
    exact this ⟨k,hk⟩
   ·rw[gD,List.getElem?_eq_none (by show 21≤k;omega)];exact Nat.zero_le 6
  exact h _
theorem b1k (o:ByteArray)(h:l[k]?=some x):a3j o (l.take (k+1))=a3j o (l.take k)++spT++numT x:=by
 rw[List.take_add_one,h];simp[a3j,List.foldl_append]
theorem a4s (l:List Int)(k:Nat)(o:ByteArray)(h:k≤l.length):(a3j o (l.take k)).size≤o.size+22*k:=by
 have:=a6t (l.take k) o;rw[List.length_take,Nat.min_eq_left h] at this;exact this
def b4h:List Int→Int→Nat→Int
 | [],_,_ => -1
 | x::l,r,k=>if x=r then k else b4h l r (k+1)
def a4w (l:List Int) (r:Int):Int:=b4h l r 0
theorem c1a {r:Int}:∀ {l:List Int} {k:Nat},r∉l→b4h l r k = -1
 | [],_,_=>rfl
 | x::l,k,h=>by
  rw[b4h,iN (fun e=>h (by simp[e])),c1a (fun hm=>h (List.mem_cons_of_mem _ hm))]
theorem c0z (h:r∉l):a4w l r = -1:=c1a h
theorem d0q {r:Int}:∀ {l:List Int} {k j:Nat},l[j]?=some r→r∉l.take j→b4h l r k=((k+j:Nat):Int)
 | [],_,_,h,_=>by simp at h
 | x::l,k,0,h,_=>by simp at h;subst h;rw[b4h,iP rfl];rfl
 | x::l,k,j+1,h,hn=>by
  rw[List.take_succ_cons] at hn;rw[b4h,iN (fun e=>hn (by simp[e])),d0q (j:=j) (by simpa using h) (fun hm=>hn (List.mem_cons_of_mem _ hm))]
  congr 1;omega
theorem c2u (h:l[j]?=some r)(hn:r∉l.take j):a4w l r=(j:Int):=by
 have:=d0q (k:=0) h hn;rwa [Nat.zero_add] at this
theorem b6h (l:List Int)(r:Int): -1≤a4w l r∧a4w l r<l.length:=by
 have:∀(l:List Int) (k:Nat),-1≤b4h l r k∧b4h l r k<((k+l.length:Nat):Int):=by
  intro l
  induction l with
  | nil=>intro k;rw[b4h];exact⟨by omega,by omega⟩
  | cons x l ih =>
   intro k;rw[b4h];have:=ih (k+1);rw[List.length_cons]
   split <;> omega
 have:=this l 0;rw[Nat.zero_add] at this;exact this
def badR (x:Int):Prop:=x<33∨x=65533∨x=46∨x=45∨x=40∨x=41
def c7v (l:List Int) (i:Nat):Prop:=∀ x,l[i]?=some x→¬ badR x∧a4w l x=i
def b6w (l:List Int) (n:Int):Prop:=0≤n∧n≤3∧(l.length:Int)=n∧∀ i,c7v l i
open Classical in
noncomputable def a7v (l:List Int) (n:Int):Bool:=decide (b6w l n)
open Classical in
theorem b1m {n:Int}(h:b6w l n):a7v l n=true:=decide_eq_true h
open Classical in
theorem a4u {n:Int}(h:¬ b6w l n):a7v l n=false:=decide_eq_false h
def a2b (nm out:List Int) (r:Int):Option (List Int) :=
 if r=32 then some out else if r=46 then some (out++[-1]) else if a4w nm r<0 then none else if a4w nm r∈out then none else some (out++[a4w nm r])
def a2v (nm:List Int):List Int→List Int→Option (List Int)
 | out,[]=>some out
 | out,r::l=>(a2b nm out r).bind fun o=>a2v nm o l
def a4n (nm l:List Int) (rank:Int):List Int × Bool × Int :=
 if 16<l.length then([],false,14) else
  match a2v nm [] l with
  | none=>([],false,14)
  | some out=>if out=[] then([],false,0) else if (out.length:Int)=rank then(out,true,0) else([],false,14)
theorem a6s (h:16<l.length):a4n nm l rank=([],false,14):=by rw[a4n,iP h]
theorem a8o (h:l.length≤16)(g:a2v nm [] l=none):a4n nm l rank=([],false,14):=by rw[a4n,iN (by omega),g]
theorem a3x (h:l.length≤16)(g:a2v nm [] l=some []):a4n nm l rank=([],false,0):=by rw[a4n,iN (by omega),g];rfl
theorem a8p (h:l.length≤16)(g:a2v nm [] l=some out)(hne:out≠[])(hr:(out.length:Int)≠rank):a4n nm l rank=([],false,14):=by
 rw[a4n,iN (by omega),g]
 show(if out=[] then _ else _)=_
 rw[iN hne,iN hr]
theorem a9c (h:l.length≤16)(g:a2v nm [] l=some out)(hne:out≠[])(hr:(out.length:Int)=rank):a4n nm l rank=(out,true,0):=by
 rw[a4n,iN (by omega),g]
 show(if out=[] then _ else _)=_
 rw[iN hne,iP hr]
theorem b1a (h:l[j]?=some y):l.drop j=y::l.drop (j+1):=by
 obtain⟨hj,rfl⟩:=List.getElem?_eq_some_iff.1 h;exact List.drop_eq_getElem_cons hj
theorem b8l (h:l[k]?=some 32):a2v nm out (l.drop k)=a2v nm out (l.drop (k+1)):=by rw[b1a h,a2v,a2b,iP rfl];rfl
theorem b8n (h:l[k]?=some 46):a2v nm out (l.drop k)=a2v nm (out++[-1]) (l.drop (k+1)):=by rw[b1a h,a2v,a2b,iN (by decide),iP rfl];rfl
theorem c1r (h:l[k]?=some r)(h1:r≠32)(h2:r≠46)(h3:a4w nm r<0):a2v nm out (l.drop k)=none:=by rw[b1a h,a2v,a2b,iN h1,iN h2,iP h3];rfl
theorem b8p (h:l[k]?=some r)(h1:r≠32)(h2:r≠46)(h3:¬ a4w nm r<0)(h4:a4w nm r∈out):a2v nm out (l.drop k)=none:=by rw[b1a h,a2v,a2b,iN h1,iN h2,iN h3,iP h4];rfl
theorem c1q (h:l[k]?=some r)(h1:r≠32)(h2:r≠46)(h3:¬ a4w nm r<0)(h4:a4w nm r∉out):a2v nm out (l.drop k)=a2v nm (out++[a4w nm r]) (l.drop (k+1)):=by rw[b1a h,a2v,a2b,iN h1,iN h2,iN h3,iN h4];rfl
theorem c6b (h:l.length≤k):a2v nm out (l.drop k)=some out:=by rw[List.drop_eq_nil_of_le h];rfl
end Go.Proofs.YtdcmanhgekjhgaaGreatDoor
