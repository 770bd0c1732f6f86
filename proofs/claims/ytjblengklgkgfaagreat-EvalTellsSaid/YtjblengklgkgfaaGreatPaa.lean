import Derived.BigQuiet
import Derived.Deep.AppendLies
import Derived.Lib.Hide
import Derived.OpenShut
import Derived.PlainAid
import Derived.Test.YtjblengklgkgfaaGreatRows
set_option maxRecDepth 100000
set_option maxHeartbeats 12800000
namespace Go.Proofs.YtjblengklgkgfaaGreat
open Go.RowKit Go.Proofs.Tryz
variable {B g i k n:Nat} {a u x:Int} {b c w w':World} {e t:TypeId} {xs ys zs:List Int}
abbrev zN:List Value:=[.int .i64 0,.slice none 0 0,.slice none 0 0,.slice none 0 0,.int .i64 0,.int .i64 0,.string ⟨#[]⟩]
abbrev zA:Array Value:=#[.int .i64 0,.slice none 0 0,.slice none 0 0,.slice none 0 0,.int .i64 0,.int .i64 0,.string ⟨#[]⟩]
abbrev zG:List Value:=[.slice none 0 0,.string ⟨#[]⟩,.slice none 0 0,.slice none 0 0]
abbrev zH:Array Value:=#[.slice none 0 0,.string ⟨#[]⟩,.slice none 0 0,.slice none 0 0]
theorem Hd {p:Prop}(h:p):Hid p:=h
theorem iP {c:Prop}{h:Decidable c}(hc:c){α:Sort _}{t e:α}:ite c t e=t:=if_pos hc
theorem iN {c:Prop}{h:Decidable c}(hc:¬ c){α:Sort _}{t e:α}:ite c t e=e:=if_neg hc
theorem eZ (h:0≤a):∃ n:Nat,a=n:=Int.eq_ofNat_of_zero_le h
theorem gE {α:Type}{l:List α}(h:i<l.length):∃ x,l[i]?=some x:=⟨_,List.getElem?_eq_getElem h⟩
theorem lL {α:Type}{l:List α}{x:α}(h:l[i]?=some x):i<l.length:=(List.getElem?_eq_some_iff.1 h).1
theorem mG {α:Type}{l:List α}{x:α}(h:l[i]?=some x):x∈l:=List.mem_of_getElem? h
theorem gD {α:Type}{l:List α}{d:α}:l.getD i d=l[i]?.getD d:=List.getD_eq_getElem?_getD
theorem a0g (a:Addr)(n:Nat):(a.add n).block=a.block:=Go.ChangeShapes.block_add a n
theorem a9f (a:Addr)(i j:Nat):(a.add i).add j=a.add (i+j):=Addr.add_add a i j
def Fits (x:Int):Prop := -9223372036854775808≤x∧x≤9223372036854775807
def Ints (w:World) (A:Option Addr) (n:Nat) (xs:List Int):Prop :=
 xs.length=n∧n≤9223372036854775807∧(∀ x∈xs,Fits x) ∧
 (0<n→∃ ad,A=some ad∧ad.block<w.heap.size∧∀ j x,xs[j]?=some x→w.cell? (ad.add j)=some (.int .i64 x))
section
variable {w w' : World} {A : Option Addr} {n : Nat} {xs : List Int}
theorem Ints.len (h:Ints w A n xs):xs.length=n:=h.1
theorem Ints.le (h:Ints w A n xs):n≤9223372036854775807:=h.2.1
theorem Ints.fit (h:Ints w A n xs):∀ x∈xs,Fits x:=h.2.2.1
theorem Ints.nil_ (w:World)(A:Option Addr):Ints w A 0 []:=⟨rfl,by omega,by simp,fun h=>absurd h (by omega)⟩
theorem Ints.at_ (h:Ints w A n xs)(hk:k<n):
  ∃ ad x,A=some ad∧ad.block<w.heap.size∧xs[k]?=some x∧w.cell? (ad.add k)=some (.int .i64 x)∧Fits x:=by
 obtain⟨ad,e,hb,hc⟩:=h.2.2.2 (by omega);have hl:k<xs.length:=by have:=h.1;omega
 exact⟨ad,xs[k],e,hb,List.getElem?_eq_getElem hl,hc k _ (List.getElem?_eq_getElem hl),h.2.2.1 _ (List.getElem_mem hl)⟩
theorem Ints.get {ad:Addr}(h:Ints w (some ad) n xs)(hx:xs[k]?=some x):w.cell? (ad.add k)=some (.int .i64 x):=by
 have hk:k<n:=by rw[←h.1];exact(lL hx)
 obtain⟨ad', e,_,hc⟩:=h.2.2.2 (by omega);injection e with e
 subst e;exact hc k x hx
theorem Ints.keep (h:Ints w A n xs)(hs:w.heap.size≤w'.heap.size)(hk:∀ p:Addr,p.block<w.heap.size→w'.cell? p=w.cell? p):Ints w' A n xs :=
 ⟨h.1,h.2.1,h.2.2.1,fun hn=>by
  obtain⟨ad,e,hb,hc⟩:=h.2.2.2 hn
  exact⟨ad,e,by omega,fun j u hu=>(hk _ (by rw[a0g];exact hb)).trans (hc j u hu)⟩⟩
theorem Ints.grown (h:Ints w A n xs){row:Option Nat}(hg:w.grownBy w' row)(hne:∀ ad,A=some ad→0<n→some ad.block≠row):Ints w' A n xs :=
 ⟨h.1,h.2.1,h.2.2.1,fun hn=>by
  obtain⟨ad,e,hb,hc⟩:=h.2.2.2 hn
  exact⟨ad,e,by have:=hg.size;omega,fun j u hu=>hg.cell (hc j u hu) (by rw[a0g];exact hne ad e hn)⟩⟩
theorem Ints.below (h:Ints w A n xs)(hb:Below w.heap.size w w'):Ints w' A n xs:=h.keep hb.size fun _ hp=>hb.cell hp
theorem Ints.drew (h:Ints w A n xs):Ints w.drew A n xs:=h
theorem Ints.drewN (h:Ints w A n xs)(k:Nat):Ints (w.drewN k) A n xs:=h
theorem Ints.alloc (h:Ints w A n xs)(o:Obj):Ints (w.alloc o) A n xs:=h.keep (by simp) fun p hp=>World.cell?_alloc_lt w o p hp
end
theorem a0w {a:World}(h:Below B a w)(n:Nat):Below B a (w.drewN n):=⟨h.os,h.tape,h.output,h.size,h.block⟩
theorem a1m {w2:World}(h:Below w.heap.size w w')(k:Below w'.heap.size w' w2):Below w.heap.size w w2:=h.trans (k.mono h.size)
theorem b8j (h:Below w.heap.size w w')(k:Nat):Below w.heap.size w (w'.drewN k):=a0w h k
theorem a3b {P:Program}{f:FuncId}{args:Array Value}{v:Value}
  (h:Calls P f args (w.drewN n) fun e w'=>e=.returned v∧w.drewN n=w'):Calls P f args (w.drewN n) fun e w'=>e=.returned v∧∃ m,w'=w.drewN m :=
 h.mono fun _ _ hh=>⟨hh.1,n,hh.2.symm⟩
theorem a4e (w:World)(k:Nat)(row:Option Nat):w.grownBy (w.drewN k) row:=⟨rfl,rfl,rfl,Nat.le_refl _,fun _ _ _=>rfl⟩
theorem a0h (w:World)(g i:Nat)(u:Value):w.grownBy (w.setCell ⟨g,i,none⟩ u) (some g) :=
 ⟨rfl,rfl,rfl,by simp[World.setCell],fun k _ hk=>Below.heap_setCell w ⟨g,i,none⟩ u k (fun e=>hk (by rw[e]))⟩
theorem a3c (h:Below w.heap.size w w')(row:Option Nat):w.grownBy w' row:=⟨h.os,h.tape,h.output,h.size,fun k hk _=>h.block k hk⟩
theorem a1b {a:World}{row:Option Nat}(h:a.grownBy b row)(k:b.grownBy c row):a.grownBy c row :=
 ⟨k.os.trans h.os,k.tape.trans h.tape,k.output.trans h.output,Nat.le_trans h.size k.size,fun i hi hne=>(k.block i (Nat.lt_of_lt_of_le hi h.size) hne).trans (h.block i hi hne)⟩
theorem a4x {w0:World}(h:Below B w0 w)(hB:B≤w.heap.size)(k:w.grownBy w' (some g))(hg:B≤g):Below B w0 w' :=
 h.grown k hB (fun i hi=>by injection hi with hi;omega)
theorem c0x {a:World}{row:Option Nat}(h:a.grownBy b row)(k:Below a.heap.size b c):a.grownBy c row :=
 ⟨k.os.trans h.os,k.tape.trans h.tape,k.output.trans h.output,Nat.le_trans h.size k.size,fun i hi hne=>(k.block i hi).trans (h.block i hi hne)⟩
def Own (w:World) (base:Nat) (e:TypeId) (g n c:Nat) (xs:List Int):Prop :=
 w.ownsRow base e 1 (.slice (some ⟨g,0,none⟩) n c) n (xs.map (Value.int .i64))∧(∀ x∈xs,Fits x)∧n≤9223372036854775807
section
variable {w w' : World} {base g n c : Nat} {e : TypeId} {xs : List Int}
theorem Own.len (h:Own w base e g n c xs):xs.length=n:=by simpa using h.1.1
theorem Own.base_ (h:Own w base e g n c xs):base≤g∧g<w.heap.size:=h.1.lt g rfl
theorem Own.cap (h:Own w base e g n c xs):n≤c:=by
 rcases h.1.2 with ⟨h', _⟩|⟨g', c', cur,h', _,_,hnc,_⟩
 ·simp at h'
 ·simp only[Value.slice.injEq,Option.some.injEq,Addr.mk.injEq,and_true,true_and] at h';obtain⟨rfl,rfl⟩:=h';exact hnc
theorem Own.cell (h:Own w base e g n c xs){j:Nat}(hx:xs[j]?=some x):w.cell? ⟨g,j,none⟩=some (.int .i64 x):=by
 have hj:j<n:=by rw[←h.len];exact(lL hx)
 rw[h.1.cellAt j (by omega),List.getElem?_map,hx];rfl
theorem Own.blk (h:Own w base e g n c xs):∃ cs,w.heap[g]?=some (.cells cs e (0,0)):=by
 rcases h.1.2 with ⟨h', _⟩|⟨g', c', cur,h', _,hh,_⟩
 ·simp at h'
 ·simp only[Value.slice.injEq,Option.some.injEq,Addr.mk.injEq,and_true,true_and] at h';obtain⟨rfl,rfl⟩:=h';exact⟨cur,hh⟩
theorem Own.frozen (h:Own w base e g n c xs)(j:Nat):w.frozen? ⟨g,j,none⟩=false:=h.1.frozenAt j
theorem Own.ints (h:Own w base e g n c xs):Ints w (some ⟨g,0,none⟩) n xs :=
 ⟨h.len,h.2.2,h.2.1,fun _=>⟨_,rfl,h.base_.2,fun _ _ hx=>by rw[Addr.add_lit,Nat.zero_add];exact h.cell hx⟩⟩
theorem Own.below (h:Own w base e g n c xs)(hb:Below w.heap.size w w'):Own w' base e g n c xs:=by
 refine⟨h.1.kept (row:=none) ⟨hb.os,hb.tape,hb.output,hb.size,fun k hk _=>hb.block k hk⟩ (.inr (by simp[Value.ownBlock])),h.2.1,h.2.2⟩
theorem Own.drewN (h:Own w base e g n c xs)(k:Nat):Own (w.drewN k) base e g n c xs:=h
theorem Own.store (h:Own w base e g n c xs)(j:Nat)(hu:Fits u):Own (w.setCell ⟨g,j,none⟩ (.int .i64 u)) base e g n c (xs.set j u):=by
 refine⟨?_,?_,h.2.2⟩
 ·have:=(h.1.stored j (.int .i64 u)).1;rwa [←List.map_set] at this
 ·intro x hx;rcases List.mem_or_eq_of_mem_set hx with hx|rfl
  ·exact h.2.1 x hx
  ·exact hu
end
def a0y (xs:List Int) (n:Nat):Bool:=xs.all (fun x=>decide (-9223372036854775808≤x)&&decide (x≤9223372036854775807))&&decide (xs.length=n)&&decide (n≤1000)
theorem d6t (w:World)(t:TypeId)(g n:Nat)(cs:Array Value)(xs:List Int)(hg:g=w.heap.size)(hc:cs.toList=xs.map (Value.int .i64))(h:a0y xs n=true):
  Ints (w.alloc (.cells cs t)) (some ⟨g,0,none⟩) n xs:=by
 subst hg;simp only[a0y,Bool.and_eq_true,decide_eq_true_eq,List.all_eq_true] at h;refine⟨h.1.2,by omega,fun x hx=>h.1.1 x hx,fun _=>⟨_,rfl,by simp,fun j x hj=>?_⟩⟩;rw[Addr.add_lit,Nat.zero_add,World.cell?_alloc_at cs t _ j rfl,←Array.getElem?_toList,hc,List.getElem?_map,hj]
 rfl
def e1d (k:IntKind) (w:World) (a:Option Addr) (len cap:Nat) (zs:List Int):Prop :=
 (a=none∧len=0∧cap=0∧zs=[]) ∨
 ∃ x,a=some x∧len≤cap∧cap≤maxLen∧zs.length=cap∧(∀ i,i<zs.length→w.cell? (x.add i)=some (.int k (zs.getD i 0)))∧∀ n∈zs,(Lit.int k n).wf=true
theorem a5h {a:Option Addr}{len cap:Nat}(h:e1d .i64 w a len cap zs):Ints w a len (zs.take len):=by
 rcases h with ⟨rfl,rfl,rfl,rfl⟩|⟨x,rfl,hl,hm,hz,hc,hw⟩
 ·exact Ints.nil_ _ _
 ·unfold maxLen at hm;refine⟨by simp;omega,by omega,fun y hy=>bounds_i64 (hw y (List.mem_of_mem_take hy)),fun hn=>⟨x,rfl,?_,fun j u hu=>?_⟩⟩
  ·have:=block_lt_of_cell (hc 0 (by omega));rwa [a0g] at this
  ·rw[List.getElem?_take] at hu
   split at hu
   ·obtain⟨hj,rfl⟩:=List.getElem?_eq_some_iff.1 hu;rw[hc j hj];simp[List.getElem?_eq_getElem hj]
   ·cases hu
theorem b3v (hn:n≤9223372036854775807)
  (h:w'.ownsRow w.heap.size e 1 (.slice (some ⟨w.heap.size,0,none⟩) n n) n (madeCells #[Value.int .i64 0] n).toList):
  Own w' w.heap.size e w.heap.size n n (List.replicate n 0):=by
 refine⟨?_,?_,hn⟩
 ·have e1:(madeCells #[Value.int .i64 0] n).toList=(List.replicate n (0:Int)).map (Value.int .i64):=(toList_madeCells_one _ _).trans (by simp);rwa [e1] at h
 ·intro x hx;rw[List.eq_of_mem_replicate hx];exact⟨by omega,by omega⟩
def OwnS (w:World) (base:Nat) (e:TypeId) (v:Value) (n:Nat) (xs:List Int):Prop :=
 w.ownsRow base e 1 v n (xs.map (Value.int .i64))∧(∀ x∈xs,Fits x)∧n≤9223372036854775807
section
variable {w w' : World} {base n : Nat} {e : TypeId} {v : Value} {xs : List Int}
theorem OwnS.nil_ (w:World)(base:Nat)(e:TypeId):OwnS w base e (.slice none 0 0) 0 []:=⟨World.ownsRow_nil w base e 1,by simp,by omega⟩
theorem OwnS.len (h:OwnS w base e v n xs):xs.length=n:=by simpa using h.1.1
theorem OwnS.grown (h:OwnS w base e v n xs)(hg:w.grownBy w' (some g))(hb:g<base):OwnS w' base e v n xs :=
 ⟨h.1.kept hg (by
  cases hv:v.ownBlock with
  | none=>exact .inl rfl
  | some k=>right;have:=(h.1.lt k hv).1;intro hk;injection hk with hk;omega),h.2.1,h.2.2⟩
theorem OwnS.below (h:OwnS w base e v n xs)(hb:Below w.heap.size w w'):OwnS w' base e v n xs :=
 ⟨h.1.kept (row:=none) (a3c hb none) (by cases v.ownBlock with|none=>exact .inl rfl|some k=>exact .inr (by simp)),h.2.1,h.2.2⟩
theorem OwnS.alloc (h:OwnS w base e v n xs)(o:Obj):OwnS (w.alloc o) base e v n xs:=⟨h.1.alloc o,h.2.1,h.2.2⟩
theorem OwnS.drew (h:OwnS w base e v n xs):OwnS w.drew base e v n xs:=h
theorem OwnS.drewN (h:OwnS w base e v n xs)(k:Nat):OwnS (w.drewN k) base e v n xs:=h
theorem OwnS.form (h:OwnS w base e v n xs):∃ A c,v=.slice A n c∧n≤c∧Ints w A n xs∧∀ ad,A=some ad→base≤ad.block:=by
 rcases h.1.2 with ⟨rfl,rfl⟩|⟨g,c,cur,rfl,hb,hh,hnc,_⟩
 ·have:xs=[]:=List.eq_nil_of_length_eq_zero h.len;subst this;exact⟨none,0,rfl,by omega,Ints.nil_ _ _,by simp⟩
 ·have hO:Own w base e g n c xs:=h;exact⟨_,c,rfl,hnc,hO.ints,fun ad he=>by injection he with he;subst he;exact hb⟩
theorem OwnS.grownNe (h:OwnS w base e v n xs){row:Option Nat}(hg:w.grownBy w' row)(hb:∀ k,v.ownBlock=some k→some k≠row):OwnS w' base e v n xs :=
 ⟨h.1.kept hg (by
  cases hv:v.ownBlock with
  | none=>exact .inl rfl
  | some k=>exact .inr (hb k hv)),h.2.1,h.2.2⟩
theorem OwnS.blk (h:OwnS w base e v n xs)(hk:v.ownBlock=some k):∃ cs,w.heap[k]?=some (.cells cs e (0,0)):=by
 rcases h.1.2 with ⟨rfl,rfl⟩|⟨g,c,cur,rfl,_,hh,_⟩
 ·simp[Value.ownBlock] at hk
 ·simp only[Value.ownBlock,Option.some.injEq] at hk;subst hk;exact⟨cur,hh⟩
theorem a4d {k':Nat}{cs cs' : Array Value}{t':TypeId}{f f' : Nat × Nat}(h:w.heap[k]?=some (.cells cs t f))(h' : w.heap[k']?=some (.cells cs' t' f'))(ht:t≠t'):k≠k':=by
 rintro rfl;rw[h] at h';injection h' with h'
 injection h' with _ h'
 exact ht h'
theorem b6k {c:Nat}(h:Own w base e g n c xs){cs:Array Value}{f:Nat × Nat}(hk:w.heap[k]?=some (.cells cs t f))(ht:e≠t):g≠k:=by
 obtain⟨cs', hb⟩:=h.blk;exact a4d hb hk ht
theorem OwnS.apart (h:OwnS w base e v n xs){cs:Array Value}{f:Nat × Nat}(hk:w.heap[k]?=some (.cells cs t f))(ht:e≠t):∀ j,v.ownBlock=some j→some j≠some k:=by
 intro j hj he;obtain⟨cs', hb⟩:=h.blk hj;exact a4d hb hk ht (by injection he)
theorem OwnS.mono {base' : Nat}(h:OwnS w base e v n xs)(hb:base' ≤ base):OwnS w base' e v n xs:=by
 refine⟨⟨h.1.1,?_⟩,h.2⟩;rcases h.1.2 with hh|⟨g,cap,cur,h1,h2,h3⟩
 ·exact .inl hh
 ·exact .inr ⟨g,cap,cur,h1,Nat.le_trans hb h2,h3⟩
theorem OwnS.own (h:OwnS w base e v n xs)(hn:0<n):∃ g c,v=.slice (some ⟨g,0,none⟩) n c∧Own w base e g n c xs:=by
 rcases h.1.2 with ⟨rfl,rfl⟩|⟨g,c,cur,rfl,hb,hh,hnc,_⟩
 ·omega
 ·exact⟨g,c,rfl,h⟩
theorem OwnS.block (h:OwnS w base e v n xs)(k:Nat)(hk:v.ownBlock=some k):base≤k:=(h.1.lt k hk).1
end
theorem a3f {P:Program}{ops:Array Oper}{rest:List Oper}{o:Oper}{a:Act}{Q:Exit→Act→World→Prop}(hgd:o.guard=none)(s y:Operand)(t e:TypeId)
  (ho:o.op=.call { callee:=.builtin .append,args:=#[s,y],argTypes:=#[t,t] })(ht:P.underlying t=some (.slice e))
  (hinfo:(P.info? e).map (fun i=>(i.zero,i.size,i.bytes))=some (some (.int .i64 0),1,8))
  (base:Nat)(v:Value)(n:Nat)(xs:List Int)(hs:a.eval s=v)(hown:OwnS w base e v n xs)(hb:base≤w.heap.size)(x:Int)(hf:Fits x)(c:Nat)(hy:a.eval y=.slice (some ⟨w.heap.size,0,none⟩) 1 c)
  (hn:n≤17592186044000)
  (h:∀ v' w', OwnS w' base e v' (n+1) (xs++[x])→Below base w w' → w.grownBy w' v.ownBlock→wpList P ops Q rest (a.put o.dst v') w'):
  wpList P ops Q (o::rest) a (w.alloc (.cells #[.int .i64 x] e)):=by
 obtain⟨i,hi,hz0,hz1,hz2⟩:=info_parts hinfo;refine wpList_append_own _ hgd s y t ho base e i (.int .i64 0) 1 8 ht hi hz0 hz1 hz2 rfl (by decide) v n _ hs (hown.alloc _).1 ⟨w.heap.size,0,none⟩ 1 c [.int .i64 x] hy rfl ?_ ?_ (by unfold maxLen;omega) (by omega) (by simp;omega) ?_
 ·intro j u hj
  cases j with
  | zero=>simp at hj;subst hj;rw[Addr.add_lit,World.cell?_alloc_at _ _ _ _ rfl];rfl
  | succ j=>simp at hj
 ·intro u hu;simp at hu;subst hu;rfl
 ·intro v' w' ho' hg' _;have hO:OwnS w' base e v' (n+1) (xs++[x]):=⟨by simpa using ho', by intro z hz;simp at hz;rcases hz with hz|rfl;exact hown.2.1 z hz;exact hf,by omega⟩;have hgr:w.grownBy w' v.ownBlock:=a1b (World.grownBy_alloc w _ _) hg';exact h v' w' hO ((Below.refl _ _).grown hgr hb (fun k hk=>hown.block k hk)) hgr
theorem c3e {y:Int}(h:xs[k]?=some x)(g:ys[k]?=some y)(hne:x≠y):(xs==ys)=false:=by
 rw[beq_eq_false_iff_ne];rintro rfl;rw[h] at g;exact hne (by injection g)
theorem b5v (h:xs.length=n)(g:ys.length=n)(hk:n≤k)(he:xs.take k=ys.take k):(xs==ys)=true:=by
 rw[List.take_of_length_le (by omega),List.take_of_length_le (by omega)] at he;simp[he]
theorem b7o (h:xs[k]?=some x)(g:ys[k]?=some x)(he:xs.take k=ys.take k):xs.take (k+1)=ys.take (k+1):=by
 rw[List.take_add_one,List.take_add_one,h,g,he]
def b9y (w:World) (xs:List Int) (e:Ending) (w' : World):Prop :=
 (∃ A n c,e=.returned (.slice A n c)∧n≤c∧Ints w' A n xs)∧Below w.heap.size w w'
theorem b9y.none_ (w:World):b9y w [] (.returned (.slice none 0 0)) w:=⟨⟨_,_,_,rfl,by omega,Ints.nil_ _ _⟩,Below.refl _ _⟩
theorem b9y.own {b c:Nat}(h:Own w' b e g n c xs)(hb:Below w.heap.size w w'):
  b9y w xs (.returned (.slice (some ⟨g,0,none⟩) n c)) w':=⟨⟨_,_,_,rfl,h.cap,h.ints⟩,hb⟩
def From (k:Nat) (ys zs:List Int):Prop:=ys.length=zs.length∧∀ j,k≤j→ys[j]?=zs[j]?
theorem From.zero (h:From 0 ys zs):ys=zs:=List.ext_getElem? fun j=>h.2 j (by omega)
theorem From.set_ (h:From (k+1) ys zs)(hu:zs[k]?=some u):From k (ys.set k u) zs:=by
 refine⟨by simpa using h.1,fun j hj=>?_⟩;have hk:k<ys.length:=by rw[h.1];exact(lL hu)
 rw[List.getElem?_set];by_cases e:k=j
 ·subst e;simp[hk,hu]
 ·rw[iN e];exact h.2 j (by omega)
def Upto (k:Nat) (ys zs:List Int):Prop:=ys.length=zs.length∧∀ j,j<k→ys[j]?=zs[j]?
theorem Upto.start (h:ys.length=zs.length):Upto 0 ys zs:=⟨h,fun _ h=>absurd h (by omega)⟩
theorem Upto.all (h:Upto k ys zs)(hk:zs.length≤k):ys=zs:=List.ext_getElem? fun j=>by
 by_cases hj:j<k
 ·exact h.2 j hj
 ·rw[List.getElem?_eq_none (by rw[h.1];omega),List.getElem?_eq_none (by omega)]
theorem Upto.set_ (h:Upto k ys zs)(hu:zs[k]?=some u):Upto (k+1) (ys.set k u) zs:=by
 refine⟨by simpa using h.1,fun j hj=>?_⟩;have hk:k<ys.length:=by rw[h.1];exact(lL hu)
 rw[List.getElem?_set];by_cases e:k=j
 ·subst e;simp[hk,hu]
 ·rw[iN e];exact h.2 j (by omega)
theorem a2v {k:IntKind}{b:Int}(h:a=b):Ending.returned (.int k a)=.returned (.int k b):=by rw[h]
theorem a0b {a b:Bool}(h:a=b):Ending.returned (.bool a)=.returned (.bool b):=by rw[h]
theorem c4a {k:IntKind}{b:Int}{p q:Bool}(h:a=b)(g:p=q):Ending.returned (.tuple #[.int k a,.bool p])=.returned (.tuple #[.int k b,.bool q]):=by rw[h,g]
end Go.Proofs.YtjblengklgkgfaaGreat
namespace Go.Proofs.YtjblengklgkgfaaGreat.Sh
def pr (l:List Int):Int:=l.foldl (· * ·) 1
def d8l (x:Int):Bool:=decide (0≤x)&&decide (x≤32)
def right (s:List Int):Bool:=decide (s.length≤4)&&s.all d8l&&decide (pr s≤4096)
def size (s:List Int):Int:=if right s then pr s else 0
theorem e1h (l:List Int) (x:Int):pr (l++[x])=pr l*x:=by simp[pr]
theorem pr_take (l:List Int) {k:Nat} {x:Int} (h:l[k]?=some x):pr (l.take (k+1))=pr (l.take k)*x:=by
 rw[List.take_add_one,h];exact e1h _ _
theorem d8r (l:List Int) (h:∀ x∈l,0≤x∧x≤32):∀ a:Int,0≤a→0≤l.foldl (· * ·) a∧l.foldl (· * ·) a≤a*32 ^ l.length:=by
 induction l with
 | nil=>intro a ha;simp;exact ha
 | cons x l ih =>
  intro a ha;have hx:=h x (by simp);have hl:=ih (fun y hy=>h y (by simp[hy])) (a*x) (Int.mul_nonneg ha hx.1);refine⟨hl.1,Int.le_trans hl.2 ?_⟩;have e:a*(32:Int) ^ (x::l).length=a*32*32 ^ l.length:=by rw[List.length_cons,Int.pow_succ,Int.mul_comm (32 ^ l.length) 32,←Int.mul_assoc]
  rw[e];exact Int.mul_le_mul_of_nonneg_right (Int.mul_le_mul_of_nonneg_left hx.2 ha) (Int.pow_nonneg (by omega))
theorem e1k (l:List Int) (h:∀ x∈l,0≤x∧x≤32):0≤pr l∧pr l≤32 ^ l.length:=by
 have:=d8r l h 1 (by omega);simpa [pr] using this
theorem pr_small (l:List Int) (h:∀ x∈l,0≤x∧x≤32) (hl:l.length≤4):0≤pr l∧pr l≤1048576:=by
 have hb:=e1k l h;refine⟨hb.1,Int.le_trans hb.2 ?_⟩;have:l.length=0∨l.length=1∨l.length=2∨l.length=3∨l.length=4:=by omega
 rcases this with e|e|e|e|e <;> rw[e] <;> decide
theorem d4x {x:Int}:d8l x=true↔0≤x∧x≤32:=by simp[d8l]
theorem e0r {l:List Int}:l.all d8l=true↔∀ x∈l,0≤x∧x≤32:=by simp[List.all_eq_true,d4x]
theorem right_iff {s:List Int}:right s=true↔s.length≤4∧(∀ x∈s,0≤x∧x≤32)∧pr s≤4096:=by
 simp only[right,Bool.and_eq_true,decide_eq_true_eq,e0r,and_assoc]
theorem not_right_long {s:List Int} (h:¬ s.length≤4):right s=false:=by simp[right,h]
theorem not_right_dim {s:List Int} {k:Nat} {x:Int} (h:s[k]?=some x) (hx:¬(0≤x∧x≤32)):right s=false:=by
 cases e:right s with
 | false=>rfl
 | true=>exact absurd ((right_iff.1 e).2.1 x (mG h)) hx
theorem not_right_big {s:List Int} (h:¬ pr s≤4096):right s=false:=by simp[right,h]
theorem right_small {s:List Int} (h:s.length≤4) (hd:∀ x∈s,0≤x∧x≤32):right s=decide (pr s≤4096):=by
 by_cases hbig:pr s≤4096
 ·rw[right_iff.2 ⟨h,hd,hbig⟩];simp[hbig]
 ·rw[not_right_big hbig];simp[hbig]
theorem size_of {s:List Int} (h:right s=true):size s=pr s:=by simp[size,h]
theorem size_not {s:List Int} (h:right s=false):size s=0:=by simp[size,h]
theorem size_bd (s:List Int):0≤size s∧size s≤4096:=by
 unfold size
 split
 ·rename_i h;have h:=right_iff.1 h;exact⟨(e1k s h.2.1).1,h.2.2⟩
 ·omega
def pd:List Int→Int
 | []=>1
 | d::r=>d*pd r
theorem d6k (s:List Int):∀ a:Int,s.foldl (· * ·) a=a*pd s:=by
 induction s with
 | nil=>intro a;simp[pd]
 | cons d r ih=>intro a;rw[List.foldl_cons,ih,pd,Int.mul_assoc]
theorem pr_pd (s:List Int):pr s=pd s:=by rw[pr,d6k];simp
theorem pd_drop {s:List Int} {k:Nat} {d:Int} (h:s[k]?=some d):pd (s.drop k)=d*pd (s.drop (k+1)):=by
 obtain⟨hk,rfl⟩:=List.getElem?_eq_some_iff.1 h;rw[List.drop_eq_getElem_cons hk];rfl
theorem pd_nonneg {s:List Int} (h:∀ x∈s,0≤x∧x≤32):0≤pd s:=by
 have:=(e1k s h).1;rwa [pr_pd] at this
theorem pd_small {s:List Int} (h:∀ x∈s,0≤x∧x≤32) (hl:s.length≤4) (k:Nat):0≤pd (s.drop k)∧pd (s.drop k)≤1048576:=by
 have:=pr_small (s.drop k) (fun x hx=>h x (List.mem_of_mem_drop hx)) (by simp;omega);rwa [pr_pd] at this
def strides:List Int→List Int
 | []=>[]
 | _::r=>pd r::strides r
def place:List Int→Int→List Int
 | [],_=>[]
 | d::r,i=>((i / pd r) % d)::place r i
theorem strides_length (s:List Int):(strides s).length=s.length:=by
 induction s with
 | nil=>rfl
 | cons d r ih=>simp[strides,ih]
theorem place_length (s:List Int) (i:Int):(place s i).length=s.length:=by
 induction s with
 | nil=>rfl
 | cons d r ih=>simp[place,ih]
theorem strides_at {s:List Int} {k:Nat} {d:Int} (h:s[k]?=some d):(strides s)[k]?=some (pd (s.drop (k+1))):=by
 induction s generalizing k with
 | nil=>simp at h
 | cons e r ih =>
  cases k with
  | zero=>simp[strides]
  | succ k=>simpa [strides] using ih (by simpa using h)
theorem place_at {s:List Int} {i:Int} {k:Nat} {d:Int} (h:s[k]?=some d):(place s i)[k]?=some ((i / pd (s.drop (k+1))) % d):=by
 induction s generalizing k with
 | nil=>simp at h
 | cons e r ih =>
  cases k with
  | zero=>simp at h;subst h;simp[place]
  | succ k=>simpa [place] using ih (by simpa using h)
theorem left_step {s:List Int} {i:Int} {k:Nat} {d:Int} (h:s[k]?=some d) (hd:∀ x∈s,0≤x∧x≤32) :
  i / pd (s.drop (k+1)) / d=i / pd (s.drop k):=by
 rw[Int.ediv_ediv_of_nonneg (pd_nonneg fun x hx=>hd x (List.mem_of_mem_drop hx)),pd_drop h,Int.mul_comm]
def hor (s p:List Int):Int:=(s.zip p).foldl (fun a x=>a*x.1+x.2) 0
def within (s p:List Int):Bool:=(s.zip p).all fun x=>decide (0≤x.2)&&decide (x.2<x.1)
def index (s p:List Int):Int:=if right s&&decide (p.length=s.length)&&within s p then hor s p else -1
theorem a9z {s p:List Int} {k:Nat} {d x:Int} (h:s[k]?=some d) (g:p[k]?=some x) :
  (s.take (k+1)).zip (p.take (k+1))=(s.take k).zip (p.take k)++[(d,x)]:=by
 obtain⟨hk,rfl⟩:=List.getElem?_eq_some_iff.1 h;obtain⟨hp,rfl⟩:=List.getElem?_eq_some_iff.1 g;rw[List.take_add_one,List.take_add_one,h,g,List.zip_append (by simp;omega)]
 rfl
theorem hor_take {s p:List Int} {k:Nat} {d x:Int} (h:s[k]?=some d) (g:p[k]?=some x) :
  hor (s.take (k+1)) (p.take (k+1))=hor (s.take k) (p.take k)*d+x:=by
 rw[hor,a9z h g,List.foldl_append];rfl
theorem within_take {s p:List Int} {k:Nat} {d x:Int} (h:s[k]?=some d) (g:p[k]?=some x) :
  within (s.take (k+1)) (p.take (k+1))=(within (s.take k) (p.take k)&&(decide (0≤x)&&decide (x<d))):=by
 rw[within,a9z h g,List.all_append];simp[within]
theorem c6y {s p:List Int} (h:within s p=true) (k:Nat):within (s.take k) (p.take k)=true:=by
 rw[within] at *;have e:(s.take k).zip (p.take k)=(s.zip p).take k:=by simp[List.zip,List.take_zipWith]
 rw[e];rw[List.all_eq_true] at *;exact fun x hx=>h x (List.mem_of_mem_take hx)
theorem within_at {s p:List Int} (h:within s p=true) {k:Nat} {d x:Int} (hd:s[k]?=some d) (hx:p[k]?=some x):0≤x∧x<d:=by
 have:=c6y h (k+1);rw[within_take hd hx] at this;simp only[Bool.and_eq_true,decide_eq_true_eq] at this;exact this.2
theorem d3m:∀(l:List (Int × Int)) (a b:Int),0≤a→a+1≤b→(∀ x∈l,0≤x.2∧x.2<x.1) →
  0≤l.foldl (fun a x=>a*x.1+x.2) a∧l.foldl (fun a x=>a*x.1+x.2) a+1≤(l.map (·.1)).foldl (· * ·) b:=by
 intro l
 induction l with
 | nil=>intro a b ha hb _;exact⟨ha,hb⟩
 | cons x l ih =>
  intro a b ha hb h;obtain⟨h1,h2⟩:=h x (by simp);refine ih _ _ (Int.add_nonneg (Int.mul_nonneg ha (by omega)) h1) ?_ (fun y hy=>h y (by simp[hy]));have:(a+1)*x.1≤b*x.1:=Int.mul_le_mul_of_nonneg_right hb (by omega);rw[Int.add_mul] at this
  show a*x.1+x.2+1≤b*x.1
  omega
theorem c7b:∀(s p:List Int),s.length=p.length→(s.zip p).map (·.1)=s:=by
 intro s
 induction s with
 | nil=>intro p _;simp
 | cons d r ih =>
  intro p h
  cases p with
  | nil=>simp at h
  | cons x q=>simp;exact ih q (by simpa using h)
theorem hor_bd {s p:List Int} (h:within s p=true) (hl:s.length=p.length):0≤hor s p∧hor s p+1≤pr s:=by
 have:=d3m (s.zip p) 0 1 (by omega) (by omega) (by
  rw[within,List.all_eq_true] at h;intro x hx
  simpa using h x hx)
 rwa [c7b s p hl] at this
theorem hor_small {s p:List Int} (hr:right s=true) (hl:s.length=p.length) (k:Nat) (h:within (s.take k) (p.take k)=true) :
  0≤hor (s.take k) (p.take k)∧hor (s.take k) (p.take k)≤1048576:=by
 have hr:=right_iff.1 hr;have hb:=hor_bd h (by simp[hl]);have:=pr_small (s.take k) (fun x hx=>hr.2.1 x (List.mem_of_mem_take hx)) (by simp;omega);omega
theorem index_of {s p:List Int} (hr:right s=true) (hl:p.length=s.length) (h:within s p=true):index s p=hor s p:=by simp[index,hr,hl,h]
theorem index_right {s p:List Int} (hr:right s=false):index s p = -1:=by simp[index,hr]
theorem index_len {s p:List Int} (hl:¬ p.length=s.length):index s p = -1:=by simp[index,hl]
theorem index_out {s p:List Int} {k:Nat} {d x:Int} (hd:s[k]?=some d) (hx:p[k]?=some x) (h:¬(0≤x∧x<d)):index s p = -1:=by
 have:within s p=false:=by
  cases e:within s p with
  | false=>rfl
  | true=>exact absurd (within_at e hd hx) h
 simp[index,this]
def placeOf (s:List Int) (i:Int):List Int:=if 0≤i∧i<size s then place s i else []
theorem d2j {s:List Int} (h:∀ x∈s,0≤x∧x≤32) (hp:0<pd s):∀ x∈s,1≤x:=by
 induction s with
 | nil=>simp
 | cons d r ih =>
  have hd:=h d (by simp);have hr:=pd_nonneg (s:=r) fun x hx=>h x (by simp[hx])
  rw[pd] at hp;have hd0:d≠0:=by rintro rfl;simp at hp
  have hr0:pd r≠0:=by intro e;rw[e] at hp;simp at hp
  intro x hx;rcases List.mem_cons.1 hx with rfl|hx
  ·omega
  ·exact ih (fun x hx=>h x (by simp[hx])) (by omega) x hx
theorem size_pos {s:List Int} {i:Int} (h0:0≤i) (h:i<size s):right s=true∧∀ x∈s,1≤x∧x≤32:=by
 cases hr:right s with
 | false=>rw[size_not hr] at h;omega
 | true =>
  have hd:=(right_iff.1 hr).2.1;rw[size_of hr,pr_pd] at h;have hp:=d2j hd (by omega);exact⟨rfl,fun x hx=>⟨hp x hx,(hd x hx).2⟩⟩
end Go.Proofs.YtjblengklgkgfaaGreat.Sh
namespace Go.Proofs.YtjblengklgkgfaaGreat
open Go.RowKit Go.Proofs.Tryz
variable {A B:Option Addr} {c d m n:Nat} {w:World} {xs ys:List Int}
theorem Tryz.infoInt:(prog.info? 3).map (fun i=>(i.zero,i.size,i.bytes))=some (some (.int .i64 0),1,8):=by kernel_rfl
theorem b8g (h:Ints w A n xs):
  Calls prog 139 #[.slice A n c] w fun e w'=>e=.returned (.tuple #[.int .i64 (Sh.size xs),.bool (Sh.right xs)])∧w=w':=by
 have hn:=h.len;have hle:=h.le;by_cases h4:n≤4
 ·go_enter func139,ntmps139
  go_wp2
  go_loop [4,12] (fun p i=>∃ k:Nat,k≤n∧i=.int .i64 k∧p=.int .i64 (Sh.pr (xs.take k))∧∀ x∈xs.take k,0≤x∧x≤32) (fun _ i=>n-(intOf i).toNat)
  case atStart=>exact⟨0,Nat.zero_le _,rfl,rfl,by simp⟩
  case round =>
   obtain⟨k,hk,rfl,rfl,hd⟩:=hrel;have H2:=Hd hn;clear hn;by_cases hlt:k<n
   ·obtain⟨ad,x,rfl,hb,hx,hc,hf⟩:=h.at_ hlt;have H:=Hd hx;clear hx;have HD:=Hd hd;clear hd;by_cases hx0:0≤x∧x≤32
    ·obtain⟨hx1,hx2⟩:=hx0
     have hall:∀ y∈xs.take (k+1),0≤y∧y≤32:=by
      intro y hy;rw[List.take_add_one,H.out] at hy;simp at hy;rcases hy with hy|rfl
      ·exact HD y hy
      ·exact⟨hx1,hx2⟩
     have hm:=Sh.pr_small (xs.take (k+1)) hall (by have:=H2.out;simp;omega);rw[Sh.pr_take _ H.out] at hm;obtain⟨hm1,hm2⟩:=hm;have HA:=Hd hall;clear hall;go_wp2;go_round
     case rel=>exact⟨k+1,by omega,by go_num,by rw[Sh.pr_take _ H.out],HA⟩
     case measure=>simp[intOf];omega
    ·have hr:=Sh.not_right_dim H hx0;have HR:=Hd hr;clear hr;by_cases hx1:x<0
     ·go_wp2;go_ret2;exact⟨c4a (Sh.size_not HR).symm HR.symm,rfl⟩
     ·have hx2:32<x:=by omega
      go_wp2;go_ret2;exact⟨c4a (Sh.size_not HR).symm HR.symm,rfl⟩
   ·have hkn:k=n:=by omega
    have ht:xs.take k=xs:=List.take_of_length_le (by have:=H2.out;omega);rw[ht] at hd ⊢;have hb:=Sh.pr_small xs hd (by have:=H2.out;omega);have HD:=Hd hd;clear hd;have HT:=Hd ht;clear ht;have HK:=Hd hkn;clear hkn;by_cases hbig:Sh.pr xs≤4096
    ·have hr:Sh.right xs=true:=Sh.right_iff.2 ⟨by have:=H2.out;omega,HD,hbig⟩;have HR:=Hd hr;clear hr;go_wp2;go_ret2;exact⟨c4a (Sh.size_of HR).symm HR.symm,rfl⟩
    ·have hr:Sh.right xs=false:=Sh.not_right_big hbig;have HR:=Hd hr;clear hr;go_wp2;go_ret2;exact⟨c4a (Sh.size_not HR).symm HR.symm,rfl⟩
 ·have hr:Sh.right xs=false:=Sh.not_right_long (by omega);have HR:=Hd hr;clear hr;have H2:=Hd hn;clear hn
  go_enter func139,ntmps139
  go_wp2;go_ret2;exact⟨c4a (Sh.size_not HR).symm HR.symm,rfl⟩
theorem a1w (h:Ints w A n xs):
  Calls prog 88 #[.slice A n c] w fun e w'=>e=.returned (.bool (Sh.right xs))∧w=w':=by
 go_enter func88,ntmps88
 go_wp2_with (go_at_call 139;refine(b8g h).mono ?_;rintro e w' ⟨rfl,rfl⟩)
 go_ret;exact⟨rfl,rfl⟩
theorem a7b (h:Ints w A n xs):
  Calls prog 89 #[.slice A n c] w fun e w'=>e=.returned (.int .i64 (Sh.size xs))∧w=w':=by
 go_enter func89,ntmps89
 go_wp2_with (go_at_call 139;refine(b8g h).mono ?_;rintro e w' ⟨rfl,rfl⟩)
 go_ret;exact⟨rfl,rfl⟩
theorem c4r (h:Ints w A n xs)(g:Ints w B m ys):
  Calls prog 121 #[.slice A n c,.slice B m d] w fun e w'=>e=.returned (.int .i64 (Sh.index xs ys))∧w=w':=by
 have hn:=h.len;have hm:=g.len;have hle:=h.le;have hme:=g.le
 cases hr:Sh.right xs with
 | false =>
  have HX:=Hd (Sh.index_right (p:=ys) hr);have HR:=Hd hr;clear hr;have H1:=Hd hn;clear hn;have H2:=Hd hm;clear hm
  go_enter func121,ntmps121
  go_wp2_with (go_at_call 88;refine(a1w h).mono ?_;rw[HR.out];rintro e w' ⟨rfl,rfl⟩)
  go_ret
  exact⟨a2v HX.symm,rfl⟩
 | true =>
  have H1:=Hd hn;clear hn;have H2:=Hd hm;clear hm;by_cases hnm:m=n
  ·have HR:=Hd hr;clear hr;subst hnm
   go_enter func121,ntmps121
   go_wp2_with (go_at_call 88;refine(a1w h).mono ?_;rw[HR.out];rintro e w' ⟨rfl,rfl⟩)
   go_loop [5,20] (fun p i=>∃ k:Nat,k≤m∧i=.int .i64 k∧p=.int .i64 (Sh.hor (xs.take k) (ys.take k))∧Sh.within (xs.take k) (ys.take k)=true) (fun _ i=>m-(intOf i).toNat)
   case atStart=>exact⟨0,Nat.zero_le _,rfl,rfl,rfl⟩
   case round =>
    obtain⟨k,hk,rfl,rfl,hd⟩:=hrel;have HD:=Hd hd;clear hd;by_cases hlt:k<m
    ·obtain⟨ad,x,rfl,hb,hx,hc,hf⟩:=h.at_ hlt;obtain⟨bd,y,rfl,hb', hy,hc', hf'⟩:=g.at_ hlt;have H:=Hd hx;clear hx;have G:=Hd hy;clear hy;by_cases hy0:0≤y∧y<x
     ·obtain⟨hy1,hy2⟩:=hy0;have hw:=Hd (p:=Sh.within (xs.take (k+1)) (ys.take (k+1))=true) (by rw[Sh.within_take H.out G.out,HD.out];simp[hy1,hy2]);have hs:=Sh.hor_small HR (H1.trans H2.symm) (k+1) hw;rw[Sh.hor_take H.out G.out] at hs;obtain⟨hs1,hs2⟩:=hs;have hs':=Sh.hor_small HR (H1.trans H2.symm) k HD;have hx32:x≤32:=((Sh.right_iff.1 HR).2.1 x (mG H)).2;have hp0:0≤Sh.hor (xs.take k) (ys.take k)*x:=Int.mul_nonneg hs'.1 (by omega);have hp1:Sh.hor (xs.take k) (ys.take k)*x≤1048576:=by omega
      clear hs';go_wp2;go_round
      case rel=>exact⟨k+1,by omega,by go_num,by rw[Sh.hor_take H.out G.out],hw⟩
      case measure=>simp[intOf];omega
     ·have HX:=Hd (Sh.index_out H G hy0);by_cases hy1:y<0
      ·go_wp2;go_ret;exact⟨a2v HX.symm,rfl⟩
      ·have hy2:x≤y:=by omega
       go_wp2;go_ret;exact⟨a2v HX.symm,rfl⟩
    ·have ht:xs.take k=xs:=List.take_of_length_le (by have:=H1.out;omega);have ht' : ys.take k=ys:=List.take_of_length_le (by have:=H2.out;omega);have hd:=HD.out;rw[ht,ht'] at hd ⊢;have HX:=Hd (Sh.index_of HR (H2.trans H1.symm) hd);clear ht ht' hd;go_wp2;go_ret;exact⟨a2v HX.symm,rfl⟩
  ·have HX:=Hd (Sh.index_len (s:=xs) (p:=ys) (by have:=H1.out;have:=H2.out;omega));have hb:((m:Int) != (n:Int))=true:=by simp;omega
   have HR:=Hd hr;clear hr
   go_enter func121,ntmps121
   go_wp2_with (go_at_call 88;refine(a1w h).mono ?_;rw[HR.out];rintro e w' ⟨rfl,rfl⟩)
   go_ret;exact⟨a2v HX.symm,rfl⟩
theorem a9h (h:Ints w A n xs)(g:Ints w B m ys):
  Calls prog 58 #[.slice A n c,.slice B m d] w fun e w'=>e=.returned (.bool (xs==ys))∧w=w':=by
 have hn:=h.len;have hm:=g.len;have hle:=h.le;have hme:=g.le;by_cases hnm:n=m
 ·subst hnm;have H1:=Hd hn;clear hn;have H2:=Hd hm;clear hm
  go_enter func58,ntmps58
  go_wp2
  go_loop [14] (fun i=>∃ k:Nat,k≤n∧i=.int .i64 k∧xs.take k=ys.take k) (fun i=>n-(intOf i).toNat)
  case atStart=>exact⟨0,Nat.zero_le _,rfl,rfl⟩
  case round =>
   obtain⟨k,hk,rfl,hd⟩:=hrel;have HD:=Hd hd;clear hd;by_cases hlt:k<n
   ·obtain⟨ad,x,rfl,hb,hx,hc,hf⟩:=h.at_ hlt;obtain⟨bd,y,rfl,hb', hy,hc', hf'⟩:=g.at_ hlt;have H:=Hd hx;clear hx;have G:=Hd hy;clear hy;by_cases hxy:x=y
    ·subst hxy;go_wp2;go_round
     case rel=>exact⟨k+1,by omega,by go_num,b7o H G HD⟩
     case measure=>simp[intOf];omega
    ·have HX:=Hd (c3e H G hxy);have hb:(x != y)=true:=by simpa using hxy
     go_wp2;go_ret;exact⟨a0b HX.symm,rfl⟩
   ·have HX:=Hd (b5v H1 H2 (by omega) HD);go_wp2;go_ret;exact⟨a0b HX.symm,rfl⟩
 ·have HX:=Hd (p:=(xs==ys)=false) (by rw[beq_eq_false_iff_ne];rintro rfl;exact hnm (hn.symm.trans hm));have H1:=Hd hn;clear hn;have H2:=Hd hm;clear hm;have hb:((n:Int) != (m:Int))=true:=by simp;omega
  go_enter func58,ntmps58
  go_wp2;go_ret;exact⟨a0b HX.symm,rfl⟩
theorem b7m (h:Ints w A n xs):
  Calls prog 106 #[.slice A n c] w fun e w'=>b9y w (if Sh.right xs then Sh.strides xs else []) e w':=by
 have hn:=h.len;have hle:=h.le
 cases hr:Sh.right xs with
 | false =>
  have H1:=Hd hn;clear hn;have HR:=Hd hr;clear hr
  go_enter func106,ntmps106
  go_wp2_with (go_at_call 88;refine(a1w h).mono ?_;rw[HR.out];rintro e w' ⟨rfl,rfl⟩)
  go_ret
  exact b9y.none_ w
 | true =>
  obtain⟨hl4,hd,hbig⟩:=Sh.right_iff.1 hr;have hn4:n≤4:=by omega
  have H1:=Hd hn;clear hn;have HR:=Hd hr;clear hr;have HD:=Hd hd;clear hd;obtain⟨i0,hi,hz0,hz1,hz2⟩:=info_parts Tryz.infoInt
  go_enter func106,ntmps106
  go_wp2_with (first|(go_at_call 88;refine(a1w h).mono ?_;rw[HR.out];rintro e w' ⟨rfl,rfl⟩)|(at_make;refine wpList_make_full _ rfl _ _ _ rfl _ _ i0 (.int .i64 0) 1 underlying22 hi hz0 hz1 .i64 .i64 _ _ n rfl rfl rfl rfl ?c1 ?c2 (Nat.le_refl _) ?_))
  case c1=>rw[hz2];omega
  case c2=>unfold maxLen;omega
  intro w1 hown hgr;have hO:=b3v (by omega) hown;have hB:Below w.heap.size w w1:=(Below.refl _ _).grown hgr (Nat.le_refl _) (by simp);have hsz:=hgr.size;clear hown hgr;go_wp2
  go_loopw [4,5] (fun p a wr=>∃(m:Nat) (k:Int),k+1=m∧m≤n∧a=.int .i64 k∧p=.int .i64 (Sh.pd (xs.drop m))∧∃ ys,Own wr w.heap.size 3 w.heap.size n n ys∧From m ys (Sh.strides xs)∧Below w.heap.size w wr) (fun _ a _=>(intOf a+1).toNat)
  case atStart =>
   refine⟨n,_,by omega,by omega,rfl,?_,_,hO,⟨?_,?_⟩,hB⟩
   ·rw[List.drop_eq_nil_of_le (by have:=H1.out;omega)];rfl
   ·simp[Sh.strides_length,H1.out]
   ·intro j hj;rw[List.getElem?_eq_none (by simp;omega),List.getElem?_eq_none (by rw[Sh.strides_length,H1.out];omega)]
  case round =>
   clear hO hB hsz;obtain⟨m,k,hkm,hk2,rfl,rfl,ys,hO,hF,hB⟩:=hrel;by_cases hk0:0≤k
   ·obtain⟨m,rfl⟩:=eZ hk0;rename_i m0;obtain rfl:m0=m+1:=by omega
    have hmn:m<n:=by omega
    have h':=h.below hB;obtain⟨ad,x,rfl,hb,hx,hc,hf⟩:=h'.at_ hmn;have hc2:wr.cell? ⟨w.heap.size,m,none⟩=some (.int .i64 (ys.getD m 0)):=hO.cell (by have:=hO.len;simp[List.getElem?_eq_getElem (by omega:m<ys.length)]);have hfz:=hO.frozen m;have hp:=Sh.pd_small HD hl4 m;have hq:=Sh.pd_small HD hl4 (m+1);rw[Sh.pd_drop hx,Int.mul_comm] at hp;obtain⟨hp1,hp2⟩:=hp;obtain⟨hq1,hq2⟩:=hq;have hO2:=hO.store m (u:=Sh.pd (xs.drop (m+1))) ⟨by omega,by omega⟩;have hF2:=hF.set_ (Sh.strides_at hx);have hB2:=hB.setCell (p:=⟨w.heap.size,m,none⟩) (Nat.le_refl _) (.int .i64 (Sh.pd (xs.drop (m+1))));have hc3:(wr.setCell ⟨w.heap.size,m,none⟩ (.int .i64 (Sh.pd (xs.drop (m+1))))).cell? (ad.add m)=some (.int .i64 x):=(h.below hB2).get hx;have HX:=Hd hx;clear hx hkm hk0 hO hF hB h';go_wp2;go_roundw
    case rel=>exact⟨m,_,by omega,by omega,rfl,by rw[Sh.pd_drop HX.out,Int.mul_comm],_,hO2,hF2,hB2⟩
    case measure=>simp[intOf]
   ·obtain rfl:m=0:=by omega
    obtain rfl:k = -1:=by omega
    have HF:=Hd hF;clear hF;go_wp2;go_ret;rw[←HF.zero];exact b9y.own hO hB
end Go.Proofs.YtjblengklgkgfaaGreat
