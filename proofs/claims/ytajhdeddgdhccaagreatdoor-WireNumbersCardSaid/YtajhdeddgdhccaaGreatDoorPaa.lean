import Derived.BigQuiet
import Derived.Deep.AppendLies
import Derived.Lib.Hide
import Derived.OpenShut
import Derived.Shelf.Slices.Turned
import Derived.Shelf.Strings.BuilderRune
import Derived.Shelf.Utf8.RuneCount
import Derived.Test.YtajhdeddgdhccaaGreatDoorRows
set_option maxRecDepth 100000
set_option maxHeartbeats 12800000
namespace Go.Proofs.YtajhdeddgdhccaaGreatDoor
open Go.RowKit Go.Proofs.Tryz
variable {B c g i k n:Nat} {a b u x:Int} {e t:TypeId} {w w':World} {xs ys zs:List Int}
def b1y:Go.Shelf.Ren:=⟨fun|169=>33|n=>n,fun|0=>0|3=>3|9=>9|37=>59|70=>58|72=>61|127=>96|5=>5|n=>n,fun|n=>n⟩
theorem d1l:Go.Proofs.Lays.n169 prog b1y:={
 mixed:=by kernel_rfl
 f169:=func33.trans (congrArg some (by kernel_rfl))
 t0:=underlying0
 a0:=Tryz.isAgg0
 z0:=Tryz.sizeOf0
 v0:=Tryz.zeroValue0
 t3:=underlying3
 a3:=Tryz.isAgg3
 z3:=Tryz.sizeOf3
 v3:=Tryz.zeroValue3
 t9:=underlying9
 a9:=Tryz.isAgg9
 z9:=Tryz.sizeOf9
 v9:=Tryz.zeroValue9
 t37:=underlying59
 a37:=Tryz.isAgg59
 z37:=Tryz.sizeOf59
 v37:=Tryz.zeroValue59
 t70:=underlying58
 a70:=Tryz.isAgg58
 z70:=Tryz.sizeOf58
 v70:=Tryz.zeroValue58
 t72:=underlying61
 a72:=Tryz.isAgg61
 z72:=Tryz.sizeOf61
 v72:=Tryz.zeroValue61
 t127:=underlying96
 a127:=Tryz.isAgg96
 z127:=Tryz.sizeOf96
 v127:=Tryz.zeroValue96 }
theorem c7z:Builder.Extra prog b1y:={
 sizeBuilder:=by kernel_rfl
 liesBuilder:=by kernel_rfl
 t5:=underlying5
 a5:=Tryz.isAgg5
 z5:=Tryz.sizeOf5
 v5:=Tryz.zeroValue5
 infoByte:=by kernel_rfl
 cellsByte:=by kernel_rfl
 sizeByte:=by kernel_rfl
 neB5:=by decide }
def b1x:Go.Shelf.Ren:=⟨fun|168=>83|240=>51|242=>119|276=>80|278=>132|n=>n,fun|0=>0|3=>3|4=>4|5=>5|9=>9|20=>20|21=>21|37=>59|46=>135|51=>133|70=>58|72=>61|75=>63|164=>119|80=>73|n=>n,fun|n=>n⟩
theorem d1k:Go.Proofs.Lays.n168 prog b1x:={
 mixed:=by kernel_rfl
 f168:=func83.trans (congrArg some (by kernel_rfl))
 f240:=func51.trans (congrArg some (by kernel_rfl))
 f242:=func119.trans (congrArg some (by kernel_rfl))
 f276:=func80.trans (congrArg some (by kernel_rfl))
 f278:=func132.trans (congrArg some (by kernel_rfl))
 t0:=underlying0
 a0:=Tryz.isAgg0
 z0:=Tryz.sizeOf0
 v0:=Tryz.zeroValue0
 t3:=underlying3
 a3:=Tryz.isAgg3
 z3:=Tryz.sizeOf3
 v3:=Tryz.zeroValue3
 t4:=underlying4
 a4:=Tryz.isAgg4
 z4:=Tryz.sizeOf4
 v4:=Tryz.zeroValue4
 t5:=underlying5
 a5:=Tryz.isAgg5
 z5:=Tryz.sizeOf5
 v5:=Tryz.zeroValue5
 t9:=underlying9
 a9:=Tryz.isAgg9
 z9:=Tryz.sizeOf9
 v9:=Tryz.zeroValue9
 t20:=underlying20
 a20:=Tryz.isAgg20
 z20:=Tryz.sizeOf20
 v20:=Tryz.zeroValue20
 t21:=underlying21
 a21:=Tryz.isAgg21
 z21:=Tryz.sizeOf21
 v21:=Tryz.zeroValue21
 t37:=underlying59
 a37:=Tryz.isAgg59
 z37:=Tryz.sizeOf59
 v37:=Tryz.zeroValue59
 t46:=underlying135
 a46:=Tryz.isAgg135
 z46:=Tryz.sizeOf135
 v46:=Tryz.zeroValue135
 t51:=underlying133
 a51:=Tryz.isAgg133
 z51:=Tryz.sizeOf133
 v51:=Tryz.zeroValue133
 t70:=underlying58
 a70:=Tryz.isAgg58
 z70:=Tryz.sizeOf58
 v70:=Tryz.zeroValue58
 t72:=underlying61
 a72:=Tryz.isAgg61
 z72:=Tryz.sizeOf61
 v72:=Tryz.zeroValue61
 t75:=underlying63
 a75:=Tryz.isAgg63
 z75:=Tryz.sizeOf63
 v75:=Tryz.zeroValue63
 t164:=underlying119
 a164:=Tryz.isAgg119
 z164:=Tryz.sizeOf119
 v164:=Tryz.zeroValue119 }
theorem c7y:Builder.Extra prog b1x:={
 sizeBuilder:=by kernel_rfl
 liesBuilder:=by kernel_rfl
 t5:=underlying5
 a5:=Tryz.isAgg5
 z5:=Tryz.sizeOf5
 v5:=Tryz.zeroValue5
 infoByte:=by kernel_rfl
 cellsByte:=by kernel_rfl
 sizeByte:=by kernel_rfl
 neB5:=by decide }
def b9p:Go.Shelf.Ren:=⟨fun|195=>118|n=>n,fun|0=>0|3=>3|4=>4|9=>9|n=>n,fun|n=>n⟩
theorem d1o:Go.Proofs.Lays.n195 prog b9p:={
 mixed:=by kernel_rfl
 f195:=func118.trans (congrArg some (by kernel_rfl))
 t0:=underlying0
 a0:=Tryz.isAgg0
 z0:=Tryz.sizeOf0
 v0:=Tryz.zeroValue0
 t3:=underlying3
 a3:=Tryz.isAgg3
 z3:=Tryz.sizeOf3
 v3:=Tryz.zeroValue3
 t4:=underlying4
 a4:=Tryz.isAgg4
 z4:=Tryz.sizeOf4
 v4:=Tryz.zeroValue4
 t9:=underlying9
 a9:=Tryz.isAgg9
 z9:=Tryz.sizeOf9
 v9:=Tryz.zeroValue9 }
def b9m:Go.Shelf.Ren:=⟨fun|107=>81|108=>117|n=>n,fun|0=>0|3=>3|4=>4|28=>23|n=>n,fun|n=>n⟩
theorem c3m:Go.Proofs.Lays.n107 prog b9m:={
 mixed:=by kernel_rfl
 f107:=func81.trans (congrArg some (by kernel_rfl))
 f108:=func117.trans (congrArg some (by kernel_rfl))
 t0:=underlying0
 a0:=Tryz.isAgg0
 z0:=Tryz.sizeOf0
 v0:=Tryz.zeroValue0
 t3:=underlying3
 a3:=Tryz.isAgg3
 z3:=Tryz.sizeOf3
 v3:=Tryz.zeroValue3
 t4:=underlying4
 a4:=Tryz.isAgg4
 z4:=Tryz.sizeOf4
 v4:=Tryz.zeroValue4
 t28:=underlying23
 a28:=Tryz.isAgg23
 z28:=Tryz.sizeOf23
 v28:=Tryz.zeroValue23 }
def Bld (b:Nat) (l:List UInt8) (w:World):Prop:=Lib.IsBuilderF 61 5 b b (Lib.byteCells l) w
theorem b8p (w:World):Bld w.heap.size [] (w.alloc (.cells #[.pointer none,.slice none 0 0] 61)):=Lib.IsBuilderF.of (Lib.fresh_isBuilder 61 5 w)
theorem b3a (b:Nat)(l:List UInt8)(r:Int)(hr : -2147483648≤r∧r≤2147483647)(w:World)(h:Bld b l w)(hl:l.length+4≤140737488355328)(hb:b≤w.heap.size):
  Calls prog 83 #[.pointer (some ⟨b,0,none⟩),.int .i32 r] w fun e w'=>(∃ n:Nat,e=.returned (.tuple #[.int .i64 n,.nilIface]))∧Bld b (l++Lib.encodeRune r) w'∧Below b w w'∧Lib.OthersKept 5 (some b) w w':=by
 refine(Any.Builder_WriteRune_k d1k c7y b b (Lib.byteCells l) r hr.1 hr.2 w h (by rw[Lib.byteCells_length];exact hl) hb).mono ?_;rintro e w' ⟨rfl,h1,h2,h3⟩;refine⟨⟨_,rfl⟩,?_,h2,h3⟩;unfold Bld;rw[Lib.byteCells_append,Lib.byteCells_encodeRune];exact Or.inr h1
theorem a9s (b:Nat)(l:List UInt8)(w:World)(h:Bld b l w)(hb:b≤w.heap.size):
  Calls prog 33 #[.pointer (some ⟨b,0,none⟩)] w fun e w'=>e=.returned (.string ⟨l.toArray⟩)∧Below b w w':=by
 refine(Any.Builder_String_any_k d1l c7z b b l w h hb).mono ?_;rintro e w' ⟨rfl,_,h2,_⟩;exact⟨rfl,h2⟩
theorem b8b (s:ByteArray)(w:World)(hs:s.size≤17592186044000):
  Calls prog 118 #[.string s] w fun e w'=>(∃ n:Nat,n≤s.size∧e=.returned (.int .i64 n))∧Below w.heap.size w w':=by
 refine(Any.utf8_RuneCountInString d1o s w (by omega)).mono ?_;rintro e w' ⟨rfl,pos,rfl⟩;exact⟨⟨_,Lib.runeCount_le s,rfl⟩,(Below.refl _ _).alloc (Nat.le_refl _) _⟩
abbrev zN:List Value:=[.int .i64 0,.slice none 0 0,.slice none 0 0,.slice none 0 0,.int .i64 0,.int .i64 0,.string ⟨#[]⟩]
abbrev zA:Array Value:=#[.int .i64 0,.slice none 0 0,.slice none 0 0,.slice none 0 0,.int .i64 0,.int .i64 0,.string ⟨#[]⟩]
abbrev zG:List Value:=[.slice none 0 0,.string ⟨#[]⟩,.slice none 0 0,.slice none 0 0]
abbrev zH:Array Value:=#[.slice none 0 0,.string ⟨#[]⟩,.slice none 0 0,.slice none 0 0]
theorem Hd {p:Prop}(h:p):Hid p:=h
theorem iP {c:Prop}{h:Decidable c}(hc:c){α:Sort _}{t e:α}:ite c t e=t:=if_pos hc
theorem iN {c:Prop}{h:Decidable c}(hc:¬ c){α:Sort _}{t e:α}:ite c t e=e:=if_neg hc
theorem eZ (h:0≤a):∃ n:Nat,a=n:=Int.eq_ofNat_of_zero_le h
theorem gE {α:Type}{l:List α}(h:i<l.length):∃ x,l[i]?=some x:=⟨_,List.getElem?_eq_getElem h⟩
theorem lL {α:Type}{l:List α}{x:α}(h:l[i]?=some x):i<l.length:=(List.getElem?_eq_some_iff.1 h).1
theorem mG {α:Type}{l:List α}{x:α}(h:l[i]?=some x):x∈l:=List.mem_of_getElem? h
theorem gD {α:Type}{l:List α}{d:α}:l.getD i d=l[i]?.getD d:=List.getD_eq_getElem?_getD
theorem a0d (a:Addr)(n:Nat):(a.add n).block=a.block:=Go.ChangeShapes.block_add a n
theorem b5t (a:Addr)(i j:Nat):(a.add i).add j=a.add (i+j):=Addr.add_add a i j
def Fits (x:Int):Prop := -9223372036854775808≤x∧x≤9223372036854775807
def Ints (w:World) (A:Option Addr) (n:Nat) (xs:List Int):Prop :=
 xs.length=n∧n≤9223372036854775807∧(∀ x∈xs,Fits x) ∧
 (0<n→∃ ad,A=some ad∧ad.block<w.heap.size∧∀ j x,xs[j]?=some x→w.cell? (ad.add j)=some (.int .i64 x))
section
variable {w w' : World} {A : Option Addr} {n : Nat} {xs : List Int}
theorem Ints.len (h:Ints w A n xs):xs.length=n:=h.1
theorem Ints.le (h:Ints w A n xs):n≤9223372036854775807:=h.2.1
theorem Ints.fit (h:Ints w A n xs):∀ x∈xs,Fits x:=h.2.2.1
theorem Ints.nil_ (w:World)(A:Option Addr):Ints w A 0 []:=⟨rfl,by omega,by simp,fun h=>absurd h (by omega)⟩
theorem Ints.at_ (h:Ints w A n xs)(hk:k<n):
  ∃ ad x,A=some ad∧ad.block<w.heap.size∧xs[k]?=some x∧w.cell? (ad.add k)=some (.int .i64 x)∧Fits x:=by
 obtain⟨ad,e,hb,hc⟩:=h.2.2.2 (by omega);have hl:k<xs.length:=by have:=h.1;omega
 exact⟨ad,xs[k],e,hb,List.getElem?_eq_getElem hl,hc k _ (List.getElem?_eq_getElem hl),h.2.2.1 _ (List.getElem_mem hl)⟩
theorem Ints.get {ad:Addr}(h:Ints w (some ad) n xs)(hx:xs[k]?=some x):w.cell? (ad.add k)=some (.int .i64 x):=by
 have hk:k<n:=by rw[←h.1];exact(lL hx)
 obtain⟨ad', e,_,hc⟩:=h.2.2.2 (by omega);injection e with e
 subst e;exact hc k x hx
theorem Ints.keep (h:Ints w A n xs)(hs:w.heap.size≤w'.heap.size)(hk:∀ p:Addr,p.block<w.heap.size→w'.cell? p=w.cell? p):Ints w' A n xs :=
 ⟨h.1,h.2.1,h.2.2.1,fun hn=>by
  obtain⟨ad,e,hb,hc⟩:=h.2.2.2 hn
  exact⟨ad,e,by omega,fun j u hu=>(hk _ (by rw[a0d];exact hb)).trans (hc j u hu)⟩⟩
theorem Ints.grown (h:Ints w A n xs){row:Option Nat}(hg:w.grownBy w' row)(hne:∀ ad,A=some ad→0<n→some ad.block≠row):Ints w' A n xs :=
 ⟨h.1,h.2.1,h.2.2.1,fun hn=>by
  obtain⟨ad,e,hb,hc⟩:=h.2.2.2 hn
  exact⟨ad,e,by have:=hg.size;omega,fun j u hu=>hg.cell (hc j u hu) (by rw[a0d];exact hne ad e hn)⟩⟩
theorem Ints.below (h:Ints w A n xs)(hb:Below w.heap.size w w'):Ints w' A n xs:=h.keep hb.size fun _ hp=>hb.cell hp
theorem Ints.drew (h:Ints w A n xs):Ints w.drew A n xs:=h
theorem Ints.drewN (h:Ints w A n xs)(k:Nat):Ints (w.drewN k) A n xs:=h
theorem Ints.alloc (h:Ints w A n xs)(o:Obj):Ints (w.alloc o) A n xs:=h.keep (by simp) fun p hp=>World.cell?_alloc_lt w o p hp
end
theorem a1l {a:World}(h:Below B a w)(n:Nat):Below B a (w.drewN n):=⟨h.os,h.tape,h.output,h.size,h.block⟩
theorem a1t {w2:World}(h:Below w.heap.size w w')(k:Below w'.heap.size w' w2):Below w.heap.size w w2:=h.trans (k.mono h.size)
theorem b4u (h:Below w.heap.size w w')(k:Nat):Below w.heap.size w (w'.drewN k):=a1l h k
theorem a2u {P:Program}{f:FuncId}{args:Array Value}{v:Value}
  (h:Calls P f args (w.drewN n) fun e w'=>e=.returned v∧w.drewN n=w'):Calls P f args (w.drewN n) fun e w'=>e=.returned v∧∃ m,w'=w.drewN m :=
 h.mono fun _ _ hh=>⟨hh.1,n,hh.2.symm⟩
theorem a7a (w:World)(k:Nat)(row:Option Nat):w.grownBy (w.drewN k) row:=⟨rfl,rfl,rfl,Nat.le_refl _,fun _ _ _=>rfl⟩
theorem a0t (w:World)(g i:Nat)(u:Value):w.grownBy (w.setCell ⟨g,i,none⟩ u) (some g) :=
 ⟨rfl,rfl,rfl,by simp[World.setCell],fun k _ hk=>Below.heap_setCell w ⟨g,i,none⟩ u k (fun e=>hk (by rw[e]))⟩
theorem a6i (h:Below w.heap.size w w')(row:Option Nat):w.grownBy w' row:=⟨h.os,h.tape,h.output,h.size,fun k hk _=>h.block k hk⟩
theorem a2s {a b c:World}{row:Option Nat}(h:a.grownBy b row)(k:b.grownBy c row):a.grownBy c row :=
 ⟨k.os.trans h.os,k.tape.trans h.tape,k.output.trans h.output,Nat.le_trans h.size k.size,fun i hi hne=>(k.block i (Nat.lt_of_lt_of_le hi h.size) hne).trans (h.block i hi hne)⟩
theorem a8x {w0:World}(h:Below B w0 w)(hB:B≤w.heap.size)(k:w.grownBy w' (some g))(hg:B≤g):Below B w0 w' :=
 h.grown k hB (fun i hi=>by injection hi with hi;omega)
def Own (w:World) (base:Nat) (e:TypeId) (g n c:Nat) (xs:List Int):Prop :=
 w.ownsRow base e 1 (.slice (some ⟨g,0,none⟩) n c) n (xs.map (Value.int .i64))∧(∀ x∈xs,Fits x)∧n≤9223372036854775807
section
variable {w w' : World} {base g n c : Nat} {e : TypeId} {xs : List Int}
theorem Own.len (h:Own w base e g n c xs):xs.length=n:=by simpa using h.1.1
theorem Own.base_ (h:Own w base e g n c xs):base≤g∧g<w.heap.size:=h.1.lt g rfl
theorem Own.cap (h:Own w base e g n c xs):n≤c:=by
 rcases h.1.2 with ⟨h', _⟩|⟨g', c', cur,h', _,_,hnc,_⟩
 ·simp at h'
 ·simp only[Value.slice.injEq,Option.some.injEq,Addr.mk.injEq,and_true,true_and] at h';obtain⟨rfl,rfl⟩:=h';exact hnc
theorem Own.cell (h:Own w base e g n c xs){j:Nat}(hx:xs[j]?=some x):w.cell? ⟨g,j,none⟩=some (.int .i64 x):=by
 have hj:j<n:=by rw[←h.len];exact(lL hx)
 rw[h.1.cellAt j (by omega),List.getElem?_map,hx];rfl
theorem Own.blk (h:Own w base e g n c xs):∃ cs,w.heap[g]?=some (.cells cs e (0,0)):=by
 rcases h.1.2 with ⟨h', _⟩|⟨g', c', cur,h', _,hh,_⟩
 ·simp at h'
 ·simp only[Value.slice.injEq,Option.some.injEq,Addr.mk.injEq,and_true,true_and] at h';obtain⟨rfl,rfl⟩:=h';exact⟨cur,hh⟩
theorem Own.frozen (h:Own w base e g n c xs)(j:Nat):w.frozen? ⟨g,j,none⟩=false:=h.1.frozenAt j
theorem Own.ints (h:Own w base e g n c xs):Ints w (some ⟨g,0,none⟩) n xs :=
 ⟨h.len,h.2.2,h.2.1,fun _=>⟨_,rfl,h.base_.2,fun _ _ hx=>by rw[Addr.add_lit,Nat.zero_add];exact h.cell hx⟩⟩
theorem Own.below (h:Own w base e g n c xs)(hb:Below w.heap.size w w'):Own w' base e g n c xs:=by
 refine⟨h.1.kept (row:=none) ⟨hb.os,hb.tape,hb.output,hb.size,fun k hk _=>hb.block k hk⟩ (.inr (by simp[Value.ownBlock])),h.2.1,h.2.2⟩
theorem Own.drewN (h:Own w base e g n c xs)(k:Nat):Own (w.drewN k) base e g n c xs:=h
theorem Own.store (h:Own w base e g n c xs)(j:Nat)(hu:Fits u):Own (w.setCell ⟨g,j,none⟩ (.int .i64 u)) base e g n c (xs.set j u):=by
 refine⟨?_,?_,h.2.2⟩
 ·have:=(h.1.stored j (.int .i64 u)).1;rwa [←List.map_set] at this
 ·intro x hx;rcases List.mem_or_eq_of_mem_set hx with hx|rfl
  ·exact h.2.1 x hx
  ·exact hu
end
def a1d (xs:List Int) (n:Nat):Bool:=xs.all (fun x=>decide (-9223372036854775808≤x)&&decide (x≤9223372036854775807))&&decide (xs.length=n)&&decide (n≤1000)
def d3p (k:IntKind) (w:World) (a:Option Addr) (len cap:Nat) (zs:List Int):Prop :=
 (a=none∧len=0∧cap=0∧zs=[]) ∨
 ∃ x,a=some x∧len≤cap∧cap≤maxLen∧zs.length=cap∧(∀ i,i<zs.length→w.cell? (x.add i)=some (.int k (zs.getD i 0)))∧∀ n∈zs,(Lit.int k n).wf=true
theorem c1m {a:Option Addr}{len cap:Nat}(h:d3p .i64 w a len cap zs):Ints w a len (zs.take len):=by
 rcases h with ⟨rfl,rfl,rfl,rfl⟩|⟨x,rfl,hl,hm,hz,hc,hw⟩
 ·exact Ints.nil_ _ _
 ·unfold maxLen at hm;refine⟨by simp;omega,by omega,fun y hy=>bounds_i64 (hw y (List.mem_of_mem_take hy)),fun hn=>⟨x,rfl,?_,fun j u hu=>?_⟩⟩
  ·have:=block_lt_of_cell (hc 0 (by omega));rwa [a0d] at this
  ·rw[List.getElem?_take] at hu
   split at hu
   ·obtain⟨hj,rfl⟩:=List.getElem?_eq_some_iff.1 hu;rw[hc j hj];simp[List.getElem?_eq_getElem hj]
   ·cases hu
theorem c3s (hn:n≤9223372036854775807)
  (h:w'.ownsRow w.heap.size e 1 (.slice (some ⟨w.heap.size,0,none⟩) n n) n (madeCells #[Value.int .i64 0] n).toList):
  Own w' w.heap.size e w.heap.size n n (List.replicate n 0):=by
 refine⟨?_,?_,hn⟩
 ·have e1:(madeCells #[Value.int .i64 0] n).toList=(List.replicate n (0:Int)).map (Value.int .i64):=(toList_madeCells_one _ _).trans (by simp);rwa [e1] at h
 ·intro x hx;rw[List.eq_of_mem_replicate hx];exact⟨by omega,by omega⟩
def OwnS (w:World) (base:Nat) (e:TypeId) (v:Value) (n:Nat) (xs:List Int):Prop :=
 w.ownsRow base e 1 v n (xs.map (Value.int .i64))∧(∀ x∈xs,Fits x)∧n≤9223372036854775807
section
variable {w w' : World} {base n : Nat} {e : TypeId} {v : Value} {xs : List Int}
theorem OwnS.nil_ (w:World)(base:Nat)(e:TypeId):OwnS w base e (.slice none 0 0) 0 []:=⟨World.ownsRow_nil w base e 1,by simp,by omega⟩
theorem OwnS.len (h:OwnS w base e v n xs):xs.length=n:=by simpa using h.1.1
theorem OwnS.grown (h:OwnS w base e v n xs)(hg:w.grownBy w' (some g))(hb:g<base):OwnS w' base e v n xs :=
 ⟨h.1.kept hg (by
  cases hv:v.ownBlock with
  | none=>exact .inl rfl
  | some k=>right;have:=(h.1.lt k hv).1;intro hk;injection hk with hk;omega),h.2.1,h.2.2⟩
theorem OwnS.below (h:OwnS w base e v n xs)(hb:Below w.heap.size w w'):OwnS w' base e v n xs :=
 ⟨h.1.kept (row:=none) (a6i hb none) (by cases v.ownBlock with|none=>exact .inl rfl|some k=>exact .inr (by simp)),h.2.1,h.2.2⟩
theorem OwnS.alloc (h:OwnS w base e v n xs)(o:Obj):OwnS (w.alloc o) base e v n xs:=⟨h.1.alloc o,h.2.1,h.2.2⟩
theorem OwnS.drew (h:OwnS w base e v n xs):OwnS w.drew base e v n xs:=h
theorem OwnS.drewN (h:OwnS w base e v n xs)(k:Nat):OwnS (w.drewN k) base e v n xs:=h
theorem OwnS.form (h:OwnS w base e v n xs):∃ A c,v=.slice A n c∧n≤c∧Ints w A n xs∧∀ ad,A=some ad→base≤ad.block:=by
 rcases h.1.2 with ⟨rfl,rfl⟩|⟨g,c,cur,rfl,hb,hh,hnc,_⟩
 ·have:xs=[]:=List.eq_nil_of_length_eq_zero h.len;subst this;exact⟨none,0,rfl,by omega,Ints.nil_ _ _,by simp⟩
 ·have hO:Own w base e g n c xs:=h;exact⟨_,c,rfl,hnc,hO.ints,fun ad he=>by injection he with he;subst he;exact hb⟩
theorem OwnS.grownNe (h:OwnS w base e v n xs){row:Option Nat}(hg:w.grownBy w' row)(hb:∀ k,v.ownBlock=some k→some k≠row):OwnS w' base e v n xs :=
 ⟨h.1.kept hg (by
  cases hv:v.ownBlock with
  | none=>exact .inl rfl
  | some k=>exact .inr (hb k hv)),h.2.1,h.2.2⟩
theorem OwnS.blk (h:OwnS w base e v n xs)(hk:v.ownBlock=some k):∃ cs,w.heap[k]?=some (.cells cs e (0,0)):=by
 rcases h.1.2 with ⟨rfl,rfl⟩|⟨g,c,cur,rfl,_,hh,_⟩
 ·simp[Value.ownBlock] at hk
 ·simp only[Value.ownBlock,Option.some.injEq] at hk;subst hk;exact⟨cur,hh⟩
theorem a3t {k':Nat}{cs cs' : Array Value}{t':TypeId}{f f' : Nat × Nat}(h:w.heap[k]?=some (.cells cs t f))(h' : w.heap[k']?=some (.cells cs' t' f'))(ht:t≠t'):k≠k':=by
 rintro rfl;rw[h] at h';injection h' with h'
 injection h' with _ h'
 exact ht h'
theorem d5p (h:Own w base e g n c xs){cs:Array Value}{f:Nat × Nat}(hk:w.heap[k]?=some (.cells cs t f))(ht:e≠t):g≠k:=by
 obtain⟨cs', hb⟩:=h.blk;exact a3t hb hk ht
theorem OwnS.apart (h:OwnS w base e v n xs){cs:Array Value}{f:Nat × Nat}(hk:w.heap[k]?=some (.cells cs t f))(ht:e≠t):∀ j,v.ownBlock=some j→some j≠some k:=by
 intro j hj he;obtain⟨cs', hb⟩:=h.blk hj;exact a3t hb hk ht (by injection he)
theorem OwnS.mono {base' : Nat}(h:OwnS w base e v n xs)(hb:base' ≤ base):OwnS w base' e v n xs:=by
 refine⟨⟨h.1.1,?_⟩,h.2⟩;rcases h.1.2 with hh|⟨g,cap,cur,h1,h2,h3⟩
 ·exact .inl hh
 ·exact .inr ⟨g,cap,cur,h1,Nat.le_trans hb h2,h3⟩
theorem OwnS.own (h:OwnS w base e v n xs)(hn:0<n):∃ g c,v=.slice (some ⟨g,0,none⟩) n c∧Own w base e g n c xs:=by
 rcases h.1.2 with ⟨rfl,rfl⟩|⟨g,c,cur,rfl,hb,hh,hnc,_⟩
 ·omega
 ·exact⟨g,c,rfl,h⟩
theorem OwnS.block (h:OwnS w base e v n xs)(k:Nat)(hk:v.ownBlock=some k):base≤k:=(h.1.lt k hk).1
end
theorem a1x {P:Program}{ops:Array Oper}{rest:List Oper}{o:Oper}{a:Act}{Q:Exit→Act→World→Prop}(hgd:o.guard=none)(s y:Operand)(t e:TypeId)
  (ho:o.op=.call { callee:=.builtin .append,args:=#[s,y],argTypes:=#[t,t] })(ht:P.underlying t=some (.slice e))
  (hinfo:(P.info? e).map (fun i=>(i.zero,i.size,i.bytes))=some (some (.int .i64 0),1,8))
  (base:Nat)(v:Value)(n:Nat)(xs:List Int)(hs:a.eval s=v)(hown:OwnS w base e v n xs)(hb:base≤w.heap.size)(x:Int)(hf:Fits x)(c:Nat)(hy:a.eval y=.slice (some ⟨w.heap.size,0,none⟩) 1 c)
  (hn:n≤17592186044000)
  (h:∀ v' w', OwnS w' base e v' (n+1) (xs++[x])→Below base w w' → w.grownBy w' v.ownBlock→wpList P ops Q rest (a.put o.dst v') w'):
  wpList P ops Q (o::rest) a (w.alloc (.cells #[.int .i64 x] e)):=by
 obtain⟨i,hi,hz0,hz1,hz2⟩:=info_parts hinfo;refine wpList_append_own _ hgd s y t ho base e i (.int .i64 0) 1 8 ht hi hz0 hz1 hz2 rfl (by decide) v n _ hs (hown.alloc _).1 ⟨w.heap.size,0,none⟩ 1 c [.int .i64 x] hy rfl ?_ ?_ (by unfold maxLen;omega) (by omega) (by simp;omega) ?_
 ·intro j u hj
  cases j with
  | zero=>simp at hj;subst hj;rw[Addr.add_lit,World.cell?_alloc_at _ _ _ _ rfl];rfl
  | succ j=>simp at hj
 ·intro u hu;simp at hu;subst hu;rfl
 ·intro v' w' ho' hg' _;have hO:OwnS w' base e v' (n+1) (xs++[x]):=⟨by simpa using ho', by intro z hz;simp at hz;rcases hz with hz|rfl;exact hown.2.1 z hz;exact hf,by omega⟩;have hgr:w.grownBy w' v.ownBlock:=a2s (World.grownBy_alloc w _ _) hg';exact h v' w' hO ((Below.refl _ _).grown hgr hb (fun k hk=>hown.block k hk)) hgr
theorem c3o {y:Int}(h:xs[k]?=some x)(g:ys[k]?=some y)(hne:x≠y):(xs==ys)=false:=by
 rw[beq_eq_false_iff_ne];rintro rfl;rw[h] at g;exact hne (by injection g)
theorem b5x (h:xs.length=n)(g:ys.length=n)(hk:n≤k)(he:xs.take k=ys.take k):(xs==ys)=true:=by
 rw[List.take_of_length_le (by omega),List.take_of_length_le (by omega)] at he;simp[he]
theorem c0n (h:xs[k]?=some x)(g:ys[k]?=some x)(he:xs.take k=ys.take k):xs.take (k+1)=ys.take (k+1):=by
 rw[List.take_add_one,List.take_add_one,h,g,he]
def b8l (w:World) (xs:List Int) (e:Ending) (w' : World):Prop :=
 (∃ A n c,e=.returned (.slice A n c)∧n≤c∧Ints w' A n xs)∧Below w.heap.size w w'
theorem b8l.none_ (w:World):b8l w [] (.returned (.slice none 0 0)) w:=⟨⟨_,_,_,rfl,by omega,Ints.nil_ _ _⟩,Below.refl _ _⟩
theorem b8l.own {b:Nat}(h:Own w' b e g n c xs)(hb:Below w.heap.size w w'):
  b8l w xs (.returned (.slice (some ⟨g,0,none⟩) n c)) w':=⟨⟨_,_,_,rfl,h.cap,h.ints⟩,hb⟩
def From (k:Nat) (ys zs:List Int):Prop:=ys.length=zs.length∧∀ j,k≤j→ys[j]?=zs[j]?
theorem From.zero (h:From 0 ys zs):ys=zs:=List.ext_getElem? fun j=>h.2 j (by omega)
theorem From.set_ (h:From (k+1) ys zs)(hu:zs[k]?=some u):From k (ys.set k u) zs:=by
 refine⟨by simpa using h.1,fun j hj=>?_⟩;have hk:k<ys.length:=by rw[h.1];exact(lL hu)
 rw[List.getElem?_set];by_cases e:k=j
 ·subst e;simp[hk,hu]
 ·rw[iN e];exact h.2 j (by omega)
def Upto (k:Nat) (ys zs:List Int):Prop:=ys.length=zs.length∧∀ j,j<k→ys[j]?=zs[j]?
theorem Upto.start (h:ys.length=zs.length):Upto 0 ys zs:=⟨h,fun _ h=>absurd h (by omega)⟩
theorem Upto.all (h:Upto k ys zs)(hk:zs.length≤k):ys=zs:=List.ext_getElem? fun j=>by
 by_cases hj:j<k
 ·exact h.2 j hj
 ·rw[List.getElem?_eq_none (by rw[h.1];omega),List.getElem?_eq_none (by omega)]
theorem Upto.set_ (h:Upto k ys zs)(hu:zs[k]?=some u):Upto (k+1) (ys.set k u) zs:=by
 refine⟨by simpa using h.1,fun j hj=>?_⟩;have hk:k<ys.length:=by rw[h.1];exact(lL hu)
 rw[List.getElem?_set];by_cases e:k=j
 ·subst e;simp[hk,hu]
 ·rw[iN e];exact h.2 j (by omega)
theorem a3v {k:IntKind}(h:a=b):Ending.returned (.int k a)=.returned (.int k b):=by rw[h]
theorem a0c {a b:Bool}(h:a=b):Ending.returned (.bool a)=.returned (.bool b):=by rw[h]
theorem c0c {k:IntKind}{p q:Bool}(h:a=b)(g:p=q):Ending.returned (.tuple #[.int k a,.bool p])=.returned (.tuple #[.int k b,.bool q]):=by rw[h,g]
def b1 (n:Nat):ByteArray:=⟨#[UInt8.ofNat n]⟩
def digs:Nat→Nat→ByteArray
 | 0,_=>⟨#[]⟩
 | f+1,k=>if k=0 then⟨#[]⟩ else digs f (k / 10)++b1 (48+k % 10)
def numT (n:Int):ByteArray:=if n=0 then b1 48 else if n<0 then b1 45++digs 20 n.natAbs else digs 20 n.natAbs
def spT:ByteArray:=⟨#[32]⟩
def lfT:ByteArray:=⟨#[10]⟩
def a1w (o:ByteArray) (l:List Int):ByteArray:=l.foldl (fun o x=>o++spT++numT x) o
def b3x:ByteArray:=⟨#[32,40]⟩
def d4s:ByteArray:=⟨#[32,41]⟩
def a4z (l:List Int):ByteArray:=a1w b3x l++d4s
def opN:List ByteArray :=
 [⟨#[]⟩,⟨#[112,97,114,97,109]⟩,⟨#[102,105,108,108]⟩,⟨#[105,111,116,97]⟩,⟨#[110,101,103]⟩,⟨#[110,111,116]⟩,⟨#[97,100,100]⟩,⟨#[115,117,98]⟩,⟨#[109,117,108]⟩,⟨#[109,105,110]⟩,⟨#[109,97,120]⟩,⟨#[108,101,115,115]⟩,
 ⟨#[115,101,108,101,99,116]⟩,⟨#[116,117,114,110]⟩,⟨#[115,112,114,101,97,100]⟩,⟨#[115,108,105,99,101]⟩,⟨#[112,97,100]⟩,⟨#[106,111,105,110]⟩,⟨#[102,111,108,100]⟩,⟨#[100,111,116]⟩,⟨#[119,105,110,100,111,119]⟩]
def a5e (op:Int):ByteArray:=if op<1∨20<op then⟨#[]⟩ else opN.getD op.toNat ⟨#[]⟩
def c6k:ByteArray:=⟨#[45]⟩
theorem a7m:∀(f k:Nat),(digs f k).size≤f
 | 0,_=>Nat.le_refl 0
 | f+1,k=>by
  rw[digs];split
  ·exact Nat.zero_le _
  ·rw[ByteArray.size_append];have:=a7m f (k / 10);have:(b1 (48+k % 10)).size=1:=rfl;omega
theorem a3c (n:Int):(numT n).size≤21:=by
 unfold numT;split
 ·show 1≤21;omega
 ·split
  ·rw[ByteArray.size_append];have:=a7m 20 n.natAbs;have:(b1 45).size=1:=rfl;omega
  ·have:=a7m 20 n.natAbs;omega
theorem a4u:∀(l:List Int) (o:ByteArray),(a1w o l).size≤o.size+22*l.length
 | [],o=>by simp[a1w]
 | x::l,o=>by
  have h:=a4u l (o++spT++numT x);have e:a1w o (x::l)=a1w (o++spT++numT x) l:=rfl;rw[e];have h2:=a3c x;have h3:spT.size=1:=rfl;rw[ByteArray.size_append,ByteArray.size_append,h3] at h;simp only[List.length_cons];omega
theorem a3g (l:List Int):(a4z l).size≤4+22*l.length:=by
 have h:=a4u l b3x;have h1:b3x.size=2:=rfl;have h2:d4s.size=2:=rfl;rw[a4z,ByteArray.size_append];omega
theorem b1j (op:Int):(a5e op).size≤6:=by
 unfold a5e;split
 ·show 0≤6;omega
 ·have h:∀ k:Nat,(opN.getD k ⟨#[]⟩).size≤6:=by
   intro k;by_cases hk:k<21
   ·have:∀ j:Fin 21,(opN.getD j.val ⟨#[]⟩).size≤6:=by decide
    exact this ⟨k,hk⟩
   ·rw[gD,List.getElem?_eq_none (by show 21≤k;omega)];exact Nat.zero_le 6
  exact h _
theorem a8s {l:List Int}(o:ByteArray)(h:l[k]?=some x):a1w o (l.take (k+1))=a1w o (l.take k)++spT++numT x:=by
 rw[List.take_add_one,h];simp[a1w,List.foldl_append]
theorem a3n (l:List Int)(k:Nat)(o:ByteArray)(h:k≤l.length):(a1w o (l.take k)).size≤o.size+22*k:=by
 have:=a4u (l.take k) o;rw[List.length_take,Nat.min_eq_left h] at this;exact this
def cntN (s:ByteArray):Nat:=s.data.toList.count 10
theorem a4f (s t:ByteArray):cntN (s++t)=cntN s+cntN t:=by
 unfold cntN;rw[ByteArray.data_append,Array.toList_append,List.count_append]
theorem c6f (h:n<256)(g:n≠10):cntN (b1 n)=0:=by
 unfold cntN b1;simp only[List.count_cons,List.count_nil];rw[iN];intro e;have:=congrArg UInt8.toNat (eq_of_beq e);simp at this;omega
theorem b7d:∀(f k:Nat),cntN (digs f k)=0
 | 0,_=>rfl
 | f+1,k=>by
  rw[digs];split
  ·rfl
  ·rw[a4f,b7d f,c6f (by omega) (by omega)]
theorem c3r (n:Int):cntN (numT n)=0:=by
 unfold numT;split
 ·rfl
 ·split
  ·rw[a4f,b7d,c6f (by omega) (by omega)]
  ·exact b7d _ _
theorem b0g:∀(l:List Int) (o:ByteArray),cntN (a1w o l)=cntN o
 | [],o=>rfl
 | x::l,o=>by
  have e:a1w o (x::l)=a1w (o++spT++numT x) l:=rfl;rw[e,b0g l,a4f,a4f,c3r,show cntN spT=0 from rfl];rfl
theorem c7n (l:List Int):cntN (a4z l)=0:=by
 rw[a4z,a4f,b0g];rfl
theorem c8b (op:Int):cntN (a5e op)=0:=by
 unfold a5e;split
 ·rfl
 ·have h:∀ k:Nat,cntN (opN.getD k ⟨#[]⟩)=0:=by
   intro k;by_cases hk:k<21
   ·have:∀ j:Fin 21,cntN (opN.getD j.val ⟨#[]⟩)=0:=by decide
    exact this ⟨k,hk⟩
   ·rw[gD,List.getElem?_eq_none (by show 21≤k;omega)]
    rfl
  exact h _
end Go.Proofs.YtajhdeddgdhccaaGreatDoor
