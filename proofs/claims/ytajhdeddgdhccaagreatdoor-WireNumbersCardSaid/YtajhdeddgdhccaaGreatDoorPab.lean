import Derived.Lib.AppendIntMem
import Derived.Lib.SmallJoins
import Derived.Shelf.Strconv.Itoa4
import Derived.Test.YtajhdeddgdhccaaGreatDoorPaa
set_option maxRecDepth 100000
set_option maxHeartbeats 12800000
namespace Go.Proofs.YtajhdeddgdhccaaGreatDoor
open Go.RowKit Go.Proofs.Tryz
variable {j k pos:Nat} {l nm out:List Int} {n r rank x:Int} {w:World}
def b1v:Go.Shelf.Ren:=⟨fun|166=>25|240=>51|276=>80|n=>n,fun|0=>0|3=>3|4=>4|5=>5|9=>9|20=>20|37=>59|70=>58|72=>61|75=>63|80=>73|164=>119|n=>n,fun n=>n⟩
theorem d1i:Go.Proofs.Lays.n166 prog b1v:={
 mixed:=by kernel_rfl
 f166:=func25.trans (congrArg some (by kernel_rfl))
 f240:=func51.trans (congrArg some (by kernel_rfl))
 f276:=func80.trans (congrArg some (by kernel_rfl))
 t0:=underlying0
 a0:=Tryz.isAgg0
 z0:=Tryz.sizeOf0
 v0:=Tryz.zeroValue0
 t3:=underlying3
 a3:=Tryz.isAgg3
 z3:=Tryz.sizeOf3
 v3:=Tryz.zeroValue3
 t4:=underlying4
 a4:=Tryz.isAgg4
 z4:=Tryz.sizeOf4
 v4:=Tryz.zeroValue4
 t9:=underlying9
 a9:=Tryz.isAgg9
 z9:=Tryz.sizeOf9
 v9:=Tryz.zeroValue9
 t20:=underlying20
 a20:=Tryz.isAgg20
 z20:=Tryz.sizeOf20
 v20:=Tryz.zeroValue20
 t37:=underlying59
 a37:=Tryz.isAgg59
 z37:=Tryz.sizeOf59
 v37:=Tryz.zeroValue59
 t70:=underlying58
 a70:=Tryz.isAgg58
 z70:=Tryz.sizeOf58
 v70:=Tryz.zeroValue58
 t72:=underlying61
 a72:=Tryz.isAgg61
 z72:=Tryz.sizeOf61
 v72:=Tryz.zeroValue61
 t75:=underlying63
 a75:=Tryz.isAgg63
 z75:=Tryz.sizeOf63
 v75:=Tryz.zeroValue63
 t164:=underlying119
 a164:=Tryz.isAgg119
 z164:=Tryz.sizeOf119
 v164:=Tryz.zeroValue119 }
theorem c7w:Builder.Extra prog b1v:={
 sizeBuilder:=by kernel_rfl
 liesBuilder:=by kernel_rfl
 t5:=underlying5
 a5:=Tryz.isAgg5
 z5:=Tryz.sizeOf5
 v5:=Tryz.zeroValue5
 infoByte:=by kernel_rfl
 cellsByte:=by kernel_rfl
 sizeByte:=by kernel_rfl
 neB5:=by decide }
def b1w:Go.Shelf.Ren:=⟨fun|167=>52|240=>51|276=>80|n=>n,fun|0=>0|4=>4|5=>5|9=>9|20=>20|37=>59|70=>58|72=>61|75=>63|80=>73|164=>119|n=>n,fun n=>n⟩
theorem d1j:Go.Proofs.Lays.n167 prog b1w:={
 mixed:=by kernel_rfl
 f167:=func52.trans (congrArg some (by kernel_rfl))
 f240:=func51.trans (congrArg some (by kernel_rfl))
 f276:=func80.trans (congrArg some (by kernel_rfl))
 t0:=underlying0
 a0:=Tryz.isAgg0
 z0:=Tryz.sizeOf0
 v0:=Tryz.zeroValue0
 t4:=underlying4
 a4:=Tryz.isAgg4
 z4:=Tryz.sizeOf4
 v4:=Tryz.zeroValue4
 t5:=underlying5
 a5:=Tryz.isAgg5
 z5:=Tryz.sizeOf5
 v5:=Tryz.zeroValue5
 t9:=underlying9
 a9:=Tryz.isAgg9
 z9:=Tryz.sizeOf9
 v9:=Tryz.zeroValue9
 t20:=underlying20
 a20:=Tryz.isAgg20
 z20:=Tryz.sizeOf20
 v20:=Tryz.zeroValue20
 t37:=underlying59
 a37:=Tryz.isAgg59
 z37:=Tryz.sizeOf59
 v37:=Tryz.zeroValue59
 t70:=underlying58
 a70:=Tryz.isAgg58
 z70:=Tryz.sizeOf58
 v70:=Tryz.zeroValue58
 t72:=underlying61
 a72:=Tryz.isAgg61
 z72:=Tryz.sizeOf61
 v72:=Tryz.zeroValue61
 t75:=underlying63
 a75:=Tryz.isAgg63
 z75:=Tryz.sizeOf63
 v75:=Tryz.zeroValue63
 t164:=underlying119
 a164:=Tryz.isAgg119
 z164:=Tryz.sizeOf119
 v164:=Tryz.zeroValue119 }
theorem c7x:Builder.Extra prog b1w:={
 sizeBuilder:=by kernel_rfl
 liesBuilder:=by kernel_rfl
 t5:=underlying5
 a5:=Tryz.isAgg5
 z5:=Tryz.sizeOf5
 v5:=Tryz.zeroValue5
 infoByte:=by kernel_rfl
 cellsByte:=by kernel_rfl
 sizeByte:=by kernel_rfl
 neB5:=by decide }
def b9n:Go.Shelf.Ren:=⟨fun|170=>32|n=>n,fun|0=>0|3=>3|5=>5|37=>59|70=>58|72=>61|n=>n,fun n=>n⟩
theorem d1m:Go.Proofs.Lays.n170 prog b9n:={
 mixed:=by kernel_rfl
 f170:=func32.trans (congrArg some (by kernel_rfl))
 t0:=underlying0
 a0:=Tryz.isAgg0
 z0:=Tryz.sizeOf0
 v0:=Tryz.zeroValue0
 t3:=underlying3
 a3:=Tryz.isAgg3
 z3:=Tryz.sizeOf3
 v3:=Tryz.zeroValue3
 t37:=underlying59
 a37:=Tryz.isAgg59
 z37:=Tryz.sizeOf59
 v37:=Tryz.zeroValue59
 t70:=underlying58
 a70:=Tryz.isAgg58
 z70:=Tryz.sizeOf58
 v70:=Tryz.zeroValue58
 t72:=underlying61
 a72:=Tryz.isAgg61
 z72:=Tryz.sizeOf61
 v72:=Tryz.zeroValue61 }
def b9o:Go.Shelf.Ren:=⟨fun|129=>100|173=>23|246=>47|283=>73|284=>74|285=>75|286=>76|317=>99|318=>101|319=>102|320=>103|337=>121|338=>122|n=>n,fun|0=>0|2=>2|3=>3|4=>4|5=>5|9=>9|20=>20|37=>59|46=>135|51=>133|53=>112|171=>111|173=>115|212=>132|213=>134|232=>156|233=>157|n=>n,fun|17=>1|18=>2|19=>3|n=>n⟩
theorem d1n:Go.Proofs.LaysM.n173 prog b9o:={
 mixed:=by kernel_rfl
 f129:=func100.trans (congrArg some (by kernel_rfl))
 f173:=func23.trans (congrArg some (by kernel_rfl))
 f246:=func47.trans (congrArg some (by kernel_rfl))
 f283:=func73.trans (congrArg some (by kernel_rfl))
 f284:=func74.trans (congrArg some (by kernel_rfl))
 f285:=func75.trans (congrArg some (by kernel_rfl))
 f286:=func76.trans (congrArg some (by kernel_rfl))
 f317:=func99.trans (congrArg some (by kernel_rfl))
 f318:=func101.trans (congrArg some (by kernel_rfl))
 f319:=func102.trans (congrArg some (by kernel_rfl))
 f320:=func103.trans (congrArg some (by kernel_rfl))
 f337:=func121.trans (congrArg some (by kernel_rfl))
 f338:=func122.trans (congrArg some (by kernel_rfl))
 t0:=underlying0
 a0:=Tryz.isAgg0
 z0:=Tryz.sizeOf0
 v0:=Tryz.zeroValue0
 t2:=underlying2
 a2:=Tryz.isAgg2
 z2:=Tryz.sizeOf2
 v2:=Tryz.zeroValue2
 t3:=underlying3
 a3:=Tryz.isAgg3
 z3:=Tryz.sizeOf3
 v3:=Tryz.zeroValue3
 t4:=underlying4
 a4:=Tryz.isAgg4
 z4:=Tryz.sizeOf4
 v4:=Tryz.zeroValue4
 t5:=underlying5
 a5:=Tryz.isAgg5
 z5:=Tryz.sizeOf5
 v5:=Tryz.zeroValue5
 t9:=underlying9
 a9:=Tryz.isAgg9
 z9:=Tryz.sizeOf9
 v9:=Tryz.zeroValue9
 t20:=underlying20
 a20:=Tryz.isAgg20
 z20:=Tryz.sizeOf20
 v20:=Tryz.zeroValue20
 t37:=underlying59
 a37:=Tryz.isAgg59
 z37:=Tryz.sizeOf59
 v37:=Tryz.zeroValue59
 t46:=underlying135
 a46:=Tryz.isAgg135
 z46:=Tryz.sizeOf135
 v46:=Tryz.zeroValue135
 t51:=underlying133
 a51:=Tryz.isAgg133
 z51:=Tryz.sizeOf133
 v51:=Tryz.zeroValue133
 t53:=underlying112
 a53:=Tryz.isAgg112
 z53:=Tryz.sizeOf112
 v53:=Tryz.zeroValue112
 t171:=underlying111
 a171:=Tryz.isAgg111
 z171:=Tryz.sizeOf111
 v171:=Tryz.zeroValue111
 t173:=underlying115
 a173:=Tryz.isAgg115
 z173:=Tryz.sizeOf115
 v173:=Tryz.zeroValue115
 t212:=underlying132
 a212:=Tryz.isAgg132
 z212:=Tryz.sizeOf132
 v212:=Tryz.zeroValue132
 t213:=underlying134
 a213:=Tryz.isAgg134
 z213:=Tryz.sizeOf134
 t232:=underlying156
 a232:=Tryz.isAgg156
 z232:=Tryz.sizeOf156
 v232:=Tryz.zeroValue156
 t233:=underlying157
 a233:=Tryz.isAgg157
 z233:=Tryz.sizeOf157
 v233:=Tryz.zeroValue157
 g17:=by kernel_rfl
 g18:=by kernel_rfl
 g19:=by kernel_rfl
 i0:=by kernel_rfl
 i2:=by kernel_rfl
 i3:=by kernel_rfl
 i4:=by kernel_rfl
 i5:=by kernel_rfl
 i9:=by kernel_rfl
 i20:=by kernel_rfl
 i37:=by kernel_rfl
 i46:=by kernel_rfl
 i51:=by kernel_rfl
 i53:=by kernel_rfl
 i171:=by kernel_rfl
 i173:=by kernel_rfl
 i212:=by kernel_rfl
 i232:=by kernel_rfl
 i233:=by kernel_rfl
 m17:=by kernel_rfl
 m18:=by kernel_rfl
 m19:=by kernel_rfl }
def BldT (b:Nat) (T:ByteArray) (w:World):Prop:=Bld b T.data.toList w
theorem c4f (b:Nat)(T s:ByteArray)(w:World)(h:BldT b T w)(hl:T.size+s.size≤140737488355328)(hb:b≤w.heap.size):
  Calls prog 25 #[.pointer (some ⟨b,0,none⟩),.string s] w fun e w'=>(∃ n:Nat,e=.returned (.tuple #[.int .i64 n,.nilIface]))∧BldT b (T++s) w'∧Below b w w'∧Lib.OthersKept 5 (some b) w w':=by
 refine(Any.Builder_WriteString_k d1i c7w b b (Lib.byteCells T.data.toList) s w h (by rw[Lib.byteCells_length,Array.length_toList];exact hl) hb).mono ?_;rintro e w' ⟨rfl,h1,h2,h3⟩;refine⟨⟨_,rfl⟩,?_,h2,h3⟩;unfold BldT Bld;rw[ByteArray.data_append,Array.toList_append,Lib.byteCells_append];exact Or.inr h1
theorem c0u (b:Nat)(T:ByteArray)(c:Int)(u:ByteArray)(hu:u.data.toList=[c.toNat.toUInt8])(hc:0≤c∧c<256)(w:World)(h:BldT b T w)(hl:T.size+1≤140737488355328)(hb:b≤w.heap.size):
  Calls prog 52 #[.pointer (some ⟨b,0,none⟩),.int .u8 c] w fun e w'=>e=.returned .nilIface∧BldT b (T++u) w'∧Below b w w'∧Lib.OthersKept 5 (some b) w w':=by
 refine(Any.Builder_WriteByte_k d1j c7x b b (Lib.byteCells T.data.toList) c w h (by rw[Lib.byteCells_length,Array.length_toList];exact hl) hb).mono ?_;rintro e w' ⟨rfl,h1,h2,h3⟩;refine⟨rfl,?_,h2,h3⟩;unfold BldT Bld;rw[ByteArray.data_append,Array.toList_append,Lib.byteCells_append,hu]
 have e1:Lib.byteCells [c.toNat.toUInt8]=[Value.int .u8 c]:=by
  unfold Lib.byteCells;simp only[List.map_cons,List.map_nil]
  congr 2
  simp only[UInt8.toNat_ofNat', Nat.toUInt8];omega
 rw[e1];exact Or.inr h1
theorem c4e (b:Nat)(T:ByteArray)(w:World)(h:BldT b T w):
  Calls prog 32 #[.pointer (some ⟨b,0,none⟩)] w fun e w'=>e=.returned (.int .i64 T.size)∧w'=w:=by
 have:=Any.Builder_Len_f d1m b b (Lib.byteCells T.data.toList) w h;rw[Lib.byteCells_length,Array.length_toList] at this;exact this
theorem c0v (b:Nat)(T:ByteArray)(w:World)(h:BldT b T w)(hb:b≤w.heap.size):
  Calls prog 33 #[.pointer (some ⟨b,0,none⟩)] w fun e w'=>e=.returned (.string T)∧Below b w w':=by
 refine(a9s b T.data.toList w h hb).mono ?_;rintro e w' ⟨rfl,h2⟩;exact⟨rfl,h2⟩
theorem c4g (w:World):BldT w.heap.size ⟨#[]⟩ (w.alloc (.cells #[.pointer none,.slice none 0 0] 61)):=b8p w
theorem b7e:∀(f k:Nat),k≠0→k<10 ^ f→(digs f k).data.toList=Lib.decDigits k
 | 0,k,h0,h=>by simp at h;omega
 | f+1,k,h0,h=>by
  rw[digs,iN h0,ByteArray.data_append,Array.toList_append,Lib.decDigits];by_cases hk:k<10
  ·rw[dif_pos hk];have e:k / 10=0:=Nat.div_eq_of_lt hk;have e2:k % 10=k:=Nat.mod_eq_of_lt hk;rw[e,e2]
   cases f <;> simp[digs,b1]
  ·rw[dif_neg hk,b7e f (k / 10) (by omega) (by rw[Nat.pow_succ] at h;omega)]
   rfl
theorem c8j (hn:Fits n):(⟨(Lib.itoa n).toArray⟩:ByteArray)=numT n:=by
 have h1:=hn.1;have h2:=hn.2;apply ByteArray.ext;apply Array.toList_inj.1
 show Lib.itoa n=_
 unfold numT Lib.itoa;by_cases h0:n=0
 ·subst h0;rw[iN (by omega),iP rfl,Int.toNat_zero,Lib.decDigits,dif_pos (by omega)]
  rfl
 ·rw[iN h0];by_cases hneg:n<0
  ·rw[iP hneg,iP hneg,ByteArray.data_append,Array.toList_append,b7e 20 n.natAbs (by omega) (by omega)]
   rfl
  ·rw[iN hneg,iN hneg,b7e 20 n.natAbs (by omega) (by omega)]
   congr 1
   omega
def TabP (w:World):Prop:=Lib.TabIs prog w "internal/strconv.uint64pow10" .u64 Lib.pow10Tab
theorem TabP.below {w':World}(h:TabP w)(hb:Below w.heap.size w w'):TabP w':=Joins.tab_stays (g:=1) (by kernel_rfl) h hb (Nat.le_refl _)
theorem c4k (hn:Fits n)(hT:TabP w):
  Calls prog 23 #[.int .i64 n,.int .i64 10] w fun e w'=>e=.returned (.string (numT n))∧Below w.heap.size w w':=by
 refine(Any.strconv_FormatInt_10 d1n n hn.1 hn.2 w hT).mono ?_;rintro e w' ⟨rfl,k,os,rfl⟩;refine⟨by rw[c8j hn],?_⟩;exact Lib.below_grow _ w (Nat.le_refl _) k os
def b1b:List Int→Int→Nat→Int
 | [],_,_ => -1
 | x::l,r,k=>if x=r then k else b1b l r (k+1)
def a4b (l:List Int) (r:Int):Int:=b1b l r 0
theorem b5z {r:Int}:∀ {l:List Int} {k:Nat},r∉l→b1b l r k = -1
 | [],_,_=>rfl
 | x::l,k,h=>by
  rw[b1b,iN (fun e=>h (by simp[e])),b5z (fun hm=>h (List.mem_cons_of_mem _ hm))]
theorem b5y (h:r∉l):a4b l r = -1:=b5z h
theorem c2w {r:Int}:∀ {l:List Int} {k j:Nat},l[j]?=some r→r∉l.take j→b1b l r k=((k+j:Nat):Int)
 | [],_,_,h,_=>by simp at h
 | x::l,k,0,h,_=>by simp at h;subst h;rw[b1b,iP rfl];rfl
 | x::l,k,j+1,h,hn=>by
  rw[List.take_succ_cons] at hn;rw[b1b,iN (fun e=>hn (by simp[e])),c2w (j:=j) (by simpa using h) (fun hm=>hn (List.mem_cons_of_mem _ hm))]
  congr 1;omega
theorem b7g (h:l[j]?=some r)(hn:r∉l.take j):a4b l r=(j:Int):=by
 have:=c2w (k:=0) h hn;rwa [Nat.zero_add] at this
theorem b7h (l:List Int)(r:Int): -1≤a4b l r∧a4b l r<l.length:=by
 have:∀(l:List Int) (k:Nat),-1≤b1b l r k∧b1b l r k<((k+l.length:Nat):Int):=by
  intro l
  induction l with
  | nil=>intro k;rw[b1b];exact⟨by omega,by omega⟩
  | cons x l ih =>
   intro k;rw[b1b];have:=ih (k+1);rw[List.length_cons]
   split <;> omega
 have:=this l 0;rw[Nat.zero_add] at this;exact this
def badR (x:Int):Prop:=x<33∨x=65533∨x=46∨x=45∨x=40∨x=41
def c0t (l:List Int) (i:Nat):Prop:=∀ x,l[i]?=some x→¬ badR x∧a4b l x=i
def b5s (l:List Int) (n:Int):Prop:=0≤n∧n≤3∧(l.length:Int)=n∧∀ i,c0t l i
open Classical in
noncomputable def a6e (l:List Int) (n:Int):Bool:=decide (b5s l n)
open Classical in
theorem a6r (h:b5s l n):a6e l n=true:=decide_eq_true h
open Classical in
theorem a4k (h:¬ b5s l n):a6e l n=false:=decide_eq_false h
def a2z (nm out:List Int) (r:Int):Option (List Int) :=
 if r=32 then some out else if r=46 then some (out++[-1]) else if a4b nm r<0 then none else if a4b nm r∈out then none else some (out++[a4b nm r])
def a3a (nm:List Int):List Int→List Int→Option (List Int)
 | out,[]=>some out
 | out,r::l=>(a2z nm out r).bind fun o=>a3a nm o l
def a4p (nm l:List Int) (rank:Int):List Int × Bool × Int :=
 if 16<l.length then([],false,14) else
  match a3a nm [] l with
  | none=>([],false,14)
  | some out=>if out=[] then([],false,0) else if (out.length:Int)=rank then(out,true,0) else([],false,14)
theorem a6p (h:16<l.length):a4p nm l rank=([],false,14):=by rw[a4p,iP h]
theorem a7y (h:l.length≤16)(g:a3a nm [] l=none):a4p nm l rank=([],false,14):=by rw[a4p,iN (by omega),g]
theorem a3u (h:l.length≤16)(g:a3a nm [] l=some []):a4p nm l rank=([],false,0):=by rw[a4p,iN (by omega),g];rfl
theorem a8q (h:l.length≤16)(g:a3a nm [] l=some out)(hne:out≠[])(hr:(out.length:Int)≠rank):a4p nm l rank=([],false,14):=by
 rw[a4p,iN (by omega),g]
 show(if out=[] then _ else _)=_
 rw[iN hne,iN hr]
theorem a8p (h:l.length≤16)(g:a3a nm [] l=some out)(hne:out≠[])(hr:(out.length:Int)=rank):a4p nm l rank=(out,true,0):=by
 rw[a4p,iN (by omega),g]
 show(if out=[] then _ else _)=_
 rw[iN hne,iP hr]
theorem a8j {y:Int}(h:l[j]?=some y):l.drop j=y::l.drop (j+1):=by
 obtain⟨hj,rfl⟩:=List.getElem?_eq_some_iff.1 h;exact List.drop_eq_getElem_cons hj
theorem b3u (h:l[k]?=some 32):a3a nm out (l.drop k)=a3a nm out (l.drop (k+1)):=by rw[a8j h,a3a,a2z,iP rfl];rfl
theorem b3v (h:l[k]?=some 46):a3a nm out (l.drop k)=a3a nm (out++[-1]) (l.drop (k+1)):=by rw[a8j h,a3a,a2z,iN (by decide),iP rfl];rfl
theorem b6i (h:l[k]?=some r)(h1:r≠32)(h2:r≠46)(h3:a4b nm r<0):a3a nm out (l.drop k)=none:=by rw[a8j h,a3a,a2z,iN h1,iN h2,iP h3];rfl
theorem b3w (h:l[k]?=some r)(h1:r≠32)(h2:r≠46)(h3:¬ a4b nm r<0)(h4:a4b nm r∈out):a3a nm out (l.drop k)=none:=by rw[a8j h,a3a,a2z,iN h1,iN h2,iN h3,iP h4];rfl
theorem b6h (h:l[k]?=some r)(h1:r≠32)(h2:r≠46)(h3:¬ a4b nm r<0)(h4:a4b nm r∉out):a3a nm out (l.drop k)=a3a nm (out++[a4b nm r]) (l.drop (k+1)):=by rw[a8j h,a3a,a2z,iN h1,iN h2,iN h3,iN h4];rfl
theorem b9r (h:l.length≤k):a3a nm out (l.drop k)=some out:=by rw[List.drop_eq_nil_of_le h];rfl
def b6v (x:Int):Prop := -2147483648≤x∧x≤2147483647
def a3i (w:World) (A:Option Addr) (n:Nat) (xs:List Int):Prop :=
 xs.length=n∧n≤9223372036854775807∧(∀ x∈xs,b6v x) ∧
 (0<n→∃ ad,A=some ad∧ad.block<w.heap.size∧∀ j x,xs[j]?=some x→w.cell? (ad.add j)=some (.int .i32 x))
section
variable {w w' : World} {A : Option Addr} {n : Nat} {xs : List Int}
theorem a3i.len (h:a3i w A n xs):xs.length=n:=h.1
theorem a3i.le (h:a3i w A n xs):n≤9223372036854775807:=h.2.1
theorem a3i.fit (h:a3i w A n xs):∀ x∈xs,b6v x:=h.2.2.1
theorem a3i.nil_ (w:World)(A:Option Addr):a3i w A 0 []:=⟨rfl,by omega,by simp,fun h=>absurd h (by omega)⟩
theorem a3i.at_ (h:a3i w A n xs)(hk:k<n):
  ∃ ad x,A=some ad∧ad.block<w.heap.size∧xs[k]?=some x∧w.cell? (ad.add k)=some (.int .i32 x)∧b6v x:=by
 obtain⟨ad,e,hb,hc⟩:=h.2.2.2 (by omega);have hl:k<xs.length:=by have:=h.1;omega
 exact⟨ad,xs[k],e,hb,List.getElem?_eq_getElem hl,hc k _ (List.getElem?_eq_getElem hl),h.2.2.1 _ (List.getElem_mem hl)⟩
theorem a3i.get {ad:Addr}(h:a3i w (some ad) n xs)(hx:xs[k]?=some x):w.cell? (ad.add k)=some (.int .i32 x):=by
 have hk:k<n:=by rw[←h.1];exact(lL hx)
 obtain⟨ad', e,_,hc⟩:=h.2.2.2 (by omega);injection e with e
 subst e;exact hc k x hx
theorem a3i.keep (h:a3i w A n xs)(hs:w.heap.size≤w'.heap.size)(hk:∀ p:Addr,p.block<w.heap.size→w'.cell? p=w.cell? p):a3i w' A n xs :=
 ⟨h.1,h.2.1,h.2.2.1,fun hn=>by
  obtain⟨ad,e,hb,hc⟩:=h.2.2.2 hn
  exact⟨ad,e,by omega,fun j u hu=>(hk _ (by rw[a0d];exact hb)).trans (hc j u hu)⟩⟩
theorem a3i.grown (h:a3i w A n xs){row:Option Nat}(hg:w.grownBy w' row)(hne:∀ ad,A=some ad→0<n→some ad.block≠row):a3i w' A n xs :=
 ⟨h.1,h.2.1,h.2.2.1,fun hn=>by
  obtain⟨ad,e,hb,hc⟩:=h.2.2.2 hn
  exact⟨ad,e,by have:=hg.size;omega,fun j u hu=>hg.cell (hc j u hu) (by rw[a0d];exact hne ad e hn)⟩⟩
theorem a3i.below (h:a3i w A n xs)(hb:Below w.heap.size w w'):a3i w' A n xs:=h.keep hb.size fun _ hp=>hb.cell hp
theorem a3i.drew (h:a3i w A n xs):a3i w.drew A n xs:=h
theorem a3i.drewN (h:a3i w A n xs)(k:Nat):a3i (w.drewN k) A n xs:=h
theorem a3i.alloc (h:a3i w A n xs)(o:Obj):a3i (w.alloc o) A n xs:=h.keep (by simp) fun p hp=>World.cell?_alloc_lt w o p hp
end
def OwnR (w:World) (base:Nat) (e:TypeId) (g n c:Nat) (xs:List Int):Prop :=
 w.ownsRow base e 1 (.slice (some ⟨g,0,none⟩) n c) n (xs.map (Value.int .i32))∧(∀ x∈xs,b6v x)∧n≤9223372036854775807
section
variable {w w' : World} {base g n c : Nat} {e : TypeId} {xs : List Int}
theorem OwnR.len (h:OwnR w base e g n c xs):xs.length=n:=by simpa using h.1.1
theorem OwnR.base_ (h:OwnR w base e g n c xs):base≤g∧g<w.heap.size:=h.1.lt g rfl
theorem OwnR.cap (h:OwnR w base e g n c xs):n≤c:=by
 rcases h.1.2 with ⟨h', _⟩|⟨g', c', cur,h', _,_,hnc,_⟩
 ·simp at h'
 ·simp only[Value.slice.injEq,Option.some.injEq,Addr.mk.injEq,and_true,true_and] at h';obtain⟨rfl,rfl⟩:=h';exact hnc
theorem OwnR.cell (h:OwnR w base e g n c xs)(hx:xs[j]?=some x):w.cell? ⟨g,j,none⟩=some (.int .i32 x):=by
 have hj:j<n:=by rw[←h.len];exact(lL hx)
 rw[h.1.cellAt j (by omega),List.getElem?_map,hx];rfl
theorem OwnR.blk (h:OwnR w base e g n c xs):∃ cs,w.heap[g]?=some (.cells cs e (0,0)):=by
 rcases h.1.2 with ⟨h', _⟩|⟨g', c', cur,h', _,hh,_⟩
 ·simp at h'
 ·simp only[Value.slice.injEq,Option.some.injEq,Addr.mk.injEq,and_true,true_and] at h';obtain⟨rfl,rfl⟩:=h';exact⟨cur,hh⟩
theorem OwnR.frozen (h:OwnR w base e g n c xs)(j:Nat):w.frozen? ⟨g,j,none⟩=false:=h.1.frozenAt j
theorem OwnR.ints (h:OwnR w base e g n c xs):a3i w (some ⟨g,0,none⟩) n xs :=
 ⟨h.len,h.2.2,h.2.1,fun _=>⟨_,rfl,h.base_.2,fun _ _ hx=>by rw[Addr.add_lit,Nat.zero_add];exact h.cell hx⟩⟩
theorem OwnR.below (h:OwnR w base e g n c xs)(hb:Below w.heap.size w w'):OwnR w' base e g n c xs:=by
 refine⟨h.1.kept (row:=none) ⟨hb.os,hb.tape,hb.output,hb.size,fun k hk _=>hb.block k hk⟩ (.inr (by simp[Value.ownBlock])),h.2.1,h.2.2⟩
theorem OwnR.drewN (h:OwnR w base e g n c xs)(k:Nat):OwnR (w.drewN k) base e g n c xs:=h
theorem OwnR.store (h:OwnR w base e g n c xs)(j:Nat){u:Int}(hu:b6v u):OwnR (w.setCell ⟨g,j,none⟩ (.int .i32 u)) base e g n c (xs.set j u):=by
 refine⟨?_,?_,h.2.2⟩
 ·have:=(h.1.stored j (.int .i32 u)).1;rwa [←List.map_set] at this
 ·intro x hx;rcases List.mem_or_eq_of_mem_set hx with hx|rfl
  ·exact h.2.1 x hx
  ·exact hu
end
def a2c (w:World) (base:Nat) (e:TypeId) (v:Value) (n:Nat) (xs:List Int):Prop :=
 w.ownsRow base e 1 v n (xs.map (Value.int .i32))∧(∀ x∈xs,b6v x)∧n≤9223372036854775807
section
variable {w w' : World} {base n : Nat} {e : TypeId} {v : Value} {xs : List Int}
theorem a2c.nil_ (w:World)(base:Nat)(e:TypeId):a2c w base e (.slice none 0 0) 0 []:=⟨World.ownsRow_nil w base e 1,by simp,by omega⟩
theorem a2c.len (h:a2c w base e v n xs):xs.length=n:=by simpa using h.1.1
theorem a2c.grown (h:a2c w base e v n xs){g:Nat}(hg:w.grownBy w' (some g))(hb:g<base):a2c w' base e v n xs :=
 ⟨h.1.kept hg (by
  cases hv:v.ownBlock with
  | none=>exact .inl rfl
  | some k=>right;have:=(h.1.lt k hv).1;intro hk;injection hk with hk;omega),h.2.1,h.2.2⟩
theorem a2c.below (h:a2c w base e v n xs)(hb:Below w.heap.size w w'):a2c w' base e v n xs :=
 ⟨h.1.kept (row:=none) (a6i hb none) (by cases v.ownBlock with|none=>exact .inl rfl|some k=>exact .inr (by simp)),h.2.1,h.2.2⟩
theorem a2c.alloc (h:a2c w base e v n xs)(o:Obj):a2c (w.alloc o) base e v n xs:=⟨h.1.alloc o,h.2.1,h.2.2⟩
theorem a2c.drew (h:a2c w base e v n xs):a2c w.drew base e v n xs:=h
theorem a2c.drewN (h:a2c w base e v n xs)(k:Nat):a2c (w.drewN k) base e v n xs:=h
theorem a2c.form (h:a2c w base e v n xs):∃ A c,v=.slice A n c∧n≤c∧a3i w A n xs∧∀ ad,A=some ad→base≤ad.block:=by
 rcases h.1.2 with ⟨rfl,rfl⟩|⟨g,c,cur,rfl,hb,hh,hnc,_⟩
 ·have:xs=[]:=List.eq_nil_of_length_eq_zero h.len;subst this;exact⟨none,0,rfl,by omega,a3i.nil_ _ _,by simp⟩
 ·have hO:OwnR w base e g n c xs:=h;exact⟨_,c,rfl,hnc,hO.ints,fun ad he=>by injection he with he;subst he;exact hb⟩
theorem a2c.grownNe (h:a2c w base e v n xs){row:Option Nat}(hg:w.grownBy w' row)(hb:∀ k,v.ownBlock=some k→some k≠row):a2c w' base e v n xs :=
 ⟨h.1.kept hg (by
  cases hv:v.ownBlock with
  | none=>exact .inl rfl
  | some k=>exact .inr (hb k hv)),h.2.1,h.2.2⟩
theorem a2c.blk (h:a2c w base e v n xs)(hk:v.ownBlock=some k):∃ cs,w.heap[k]?=some (.cells cs e (0,0)):=by
 rcases h.1.2 with ⟨rfl,rfl⟩|⟨g,c,cur,rfl,_,hh,_⟩
 ·simp[Value.ownBlock] at hk
 ·simp only[Value.ownBlock,Option.some.injEq] at hk;subst hk;exact⟨cur,hh⟩
theorem a2c.apart (h:a2c w base e v n xs){cs:Array Value}{t:TypeId}{f:Nat × Nat}(hk:w.heap[k]?=some (.cells cs t f))(ht:e≠t):∀ j,v.ownBlock=some j→some j≠some k:=by
 intro j hj he;obtain⟨cs', hb⟩:=h.blk hj;exact a3t hb hk ht (by injection he)
theorem a2c.mono {base' : Nat}(h:a2c w base e v n xs)(hb:base' ≤ base):a2c w base' e v n xs:=by
 refine⟨⟨h.1.1,?_⟩,h.2⟩;rcases h.1.2 with hh|⟨g,cap,cur,h1,h2,h3⟩
 ·exact .inl hh
 ·exact .inr ⟨g,cap,cur,h1,Nat.le_trans hb h2,h3⟩
theorem a2c.own (h:a2c w base e v n xs)(hn:0<n):∃ g c,v=.slice (some ⟨g,0,none⟩) n c∧OwnR w base e g n c xs:=by
 rcases h.1.2 with ⟨rfl,rfl⟩|⟨g,c,cur,rfl,hb,hh,hnc,_⟩
 ·omega
 ·exact⟨g,c,rfl,h⟩
theorem a2c.block (h:a2c w base e v n xs)(k:Nat)(hk:v.ownBlock=some k):base≤k:=(h.1.lt k hk).1
end
theorem a6h {P:Program}{ops:Array Oper}{rest:List Oper}{o:Oper}{a:Act}{Q:Exit→Act→World→Prop}(hgd:o.guard=none)(s y:Operand)(t e:TypeId)
  (ho:o.op=.call { callee:=.builtin .append,args:=#[s,y],argTypes:=#[t,t] })(ht:P.underlying t=some (.slice e))
  (hinfo:(P.info? e).map (fun i=>(i.zero,i.size,i.bytes))=some (some (.int .i32 0),1,4))
  (base:Nat)(v:Value)(n:Nat)(xs:List Int)(hs:a.eval s=v)(hown:a2c w base e v n xs)(hb:base≤w.heap.size)(x:Int)(hf:b6v x)(c:Nat)(hy:a.eval y=.slice (some ⟨w.heap.size,0,none⟩) 1 c)
  (hn:n≤17592186044000)
  (h:∀ v' w', a2c w' base e v' (n+1) (xs++[x])→Below base w w' → w.grownBy w' v.ownBlock→wpList P ops Q rest (a.put o.dst v') w'):
  wpList P ops Q (o::rest) a (w.alloc (.cells #[.int .i32 x] e)):=by
 obtain⟨i,hi,hz0,hz1,hz2⟩:=info_parts hinfo;refine wpList_append_own _ hgd s y t ho base e i (.int .i32 0) 1 4 ht hi hz0 hz1 hz2 rfl (by decide) v n _ hs (hown.alloc _).1 ⟨w.heap.size,0,none⟩ 1 c [.int .i32 x] hy rfl ?_ ?_ (by unfold maxLen;omega) (by omega) (by simp;omega) ?_
 ·intro j u hj
  cases j with
  | zero=>simp at hj;subst hj;rw[Addr.add_lit,World.cell?_alloc_at _ _ _ _ rfl];rfl
  | succ j=>simp at hj
 ·intro u hu;simp at hu;subst hu;rfl
 ·intro v' w' ho' hg' _;have hO:a2c w' base e v' (n+1) (xs++[x]):=⟨by simpa using ho', by intro z hz;simp at hz;rcases hz with hz|rfl;exact hown.2.1 z hz;exact hf,by omega⟩;have hgr:w.grownBy w' v.ownBlock:=a2s (World.grownBy_alloc w _ _) hg';exact h v' w' hO ((Below.refl _ _).grown hgr hb (fun k hk=>hown.block k hk)) hgr
def a7o (w:World) (k:Nat) (s:ByteArray) (pos:Nat):World:={ w with heap:=w.heap.setIfInBounds k (.stringIter s pos) }
section
variable {P : Program} {w : World} {s : ByteArray} {k pos : Nat}
theorem b4l (h:w.heap[k]?=some (.stringIter s pos))(hp:pos<s.size)(ty:TypeId):
  (Instr.next (.pointer (some ⟨k,0,none⟩)) true ty).run P w=.ok (.tuple #[.bool true,.int .i64 pos,.int .i32 (Utf8.decode s pos).1]) (a7o w k s (pos+(Utf8.decode s pos).2)):=by
 simp only[Instr.next,getObj,setObj,Sem.run_bind,Sem.run,h,Result.andThen,hp,if_true];simp[goInt,a7o]
theorem b0q (h:w.heap[k]?=some (.stringIter s pos))(hp:¬ pos<s.size)(ty:TypeId):
  (Instr.next (.pointer (some ⟨k,0,none⟩)) true ty).run P w=.ok (.tuple #[.bool false]) w:=by
 simp[Instr.next,getObj,Sem.run,h,hp]
theorem b1s:w.grownBy (a7o w k s pos) (some k) :=
 ⟨rfl,rfl,rfl,by simp[a7o],fun j _ hj=>by
  have:k≠j:=fun e=>hj (by rw[e])
  simp[a7o,this]⟩
theorem b3l (hk:k<w.heap.size):(a7o w k s pos).heap[k]?=some (.stringIter s pos):=by
 simp[a7o,hk]
end
def a1q (s:ByteArray):Nat→Nat→List Int
 | 0,_=>[]
 | b+1,pos=>if pos<s.size then((Utf8.decode s pos).1:Int)::a1q s b (pos+(Utf8.decode s pos).2) else []
def a0b (s:ByteArray):List Int:=a1q s s.size 0
theorem a7l (s:ByteArray)(pos:Nat)(h:pos<s.size):1≤(Utf8.decode s pos).2:=by
 by_cases ha:(s[pos]'h).toNat<128
 ·rw[decode_ascii s pos h ha];exact Nat.le_refl _
 ·exact(decode_high s pos h (by omega)).2
theorem a6m (s:ByteArray):∀(b c pos:Nat),s.size≤pos+b→s.size≤pos+c→a1q s b pos=a1q s c pos
 | 0,c,pos,hb,_=>by
  cases c with
  | zero=>rfl
  | succ c=>rw[a1q,a1q,iN (by omega)]
 | b+1,c,pos,hb,hc=>by
  cases c with
  | zero=>rw[show a1q s (b+1) pos=if pos<s.size then((Utf8.decode s pos).1:Int)::a1q s b (pos+(Utf8.decode s pos).2) else [] from rfl,iN (by omega)];rfl
  | succ c =>
   rw[a1q,a1q];by_cases hp:pos<s.size
   ·have:=a7l s pos hp;rw[iP hp,iP hp,a6m s b c _ (by omega) (by omega)]
   ·rw[iN hp,iN hp]
theorem b2g (s:ByteArray)(h:pos<s.size):a1q s s.size pos=((Utf8.decode s pos).1:Int)::a1q s s.size (pos+(Utf8.decode s pos).2):=by
 have h1:a1q s s.size pos=a1q s (s.size+1) pos:=a6m s _ _ _ (by omega) (by omega);rw[h1,a1q,iP h]
theorem b4m (s:ByteArray)(h:¬ pos<s.size):a1q s s.size pos=[]:=by
 have h1:a1q s s.size pos=a1q s 0 pos:=a6m s _ _ _ (by omega) (by omega);rw[h1];rfl
theorem c0g (s:ByteArray)(pos:Nat):b6v ((Utf8.decode s pos).1:Int):=⟨by omega,by have:=decode_le s pos;omega⟩
theorem a9a (s:ByteArray):∀(b pos:Nat),(a1q s b pos).length≤b
 | 0,_=>Nat.le_refl _
 | b+1,pos=>by
  rw[a1q]
  split
  ·have:=a9a s b (pos+(Utf8.decode s pos).2);simp;omega
  ·simp
theorem a9b (s:ByteArray):(a0b s).length≤s.size:=a9a s _ _
end Go.Proofs.YtajhdeddgdhccaaGreatDoor
