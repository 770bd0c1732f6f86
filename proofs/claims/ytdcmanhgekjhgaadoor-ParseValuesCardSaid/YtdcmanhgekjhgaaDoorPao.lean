import Derived.Lib.AppendIntMem
import Derived.Lib.SmallJoins
import Derived.Shelf.Strconv.Itoa4
import Derived.Test.YtdcmanhgekjhgaaDoorPam
set_option maxRecDepth 100000
set_option maxHeartbeats 12800000
namespace Go.Proofs.YtdcmanhgekjhgaaDoor
open Go.RowKit Go.Proofs.Tryd
variable {n:Int} {w:World}
def a7x:Go.Shelf.Ren:=⟨fun|166=>22|240=>43|276=>59|n=>n,fun|0=>0|3=>3|4=>4|5=>5|9=>9|20=>20|37=>44|70=>55|72=>57|75=>59|80=>68|164=>106|n=>n,fun n=>n⟩
theorem c4o:Go.Proofs.Lays.n166 prog a7x:={
 mixed:=by kernel_rfl
 f166:=func22.trans (congrArg some (by kernel_rfl))
 f240:=func43.trans (congrArg some (by kernel_rfl))
 f276:=func59.trans (congrArg some (by kernel_rfl))
 t0:=underlying0
 a0:=Tryd.isAgg0
 z0:=Tryd.sizeOf0
 v0:=Tryd.zeroValue0
 t3:=underlying3
 a3:=Tryd.isAgg3
 z3:=Tryd.sizeOf3
 v3:=Tryd.zeroValue3
 t4:=underlying4
 a4:=Tryd.isAgg4
 z4:=Tryd.sizeOf4
 v4:=Tryd.zeroValue4
 t9:=underlying9
 a9:=Tryd.isAgg9
 z9:=Tryd.sizeOf9
 v9:=Tryd.zeroValue9
 t20:=underlying20
 a20:=Tryd.isAgg20
 z20:=Tryd.sizeOf20
 v20:=Tryd.zeroValue20
 t37:=underlying44
 a37:=Tryd.isAgg44
 z37:=Tryd.sizeOf44
 v37:=Tryd.zeroValue44
 t70:=underlying55
 a70:=Tryd.isAgg55
 z70:=Tryd.sizeOf55
 v70:=Tryd.zeroValue55
 t72:=underlying57
 a72:=Tryd.isAgg57
 z72:=Tryd.sizeOf57
 v72:=Tryd.zeroValue57
 t75:=underlying59
 a75:=Tryd.isAgg59
 z75:=Tryd.sizeOf59
 v75:=Tryd.zeroValue59
 t164:=underlying106
 a164:=Tryd.isAgg106
 z164:=Tryd.sizeOf106
 v164:=Tryd.zeroValue106 }
theorem c1h:Builder.Extra prog a7x:={
 sizeBuilder:=by kernel_rfl
 liesBuilder:=by kernel_rfl
 t5:=underlying5
 a5:=Tryd.isAgg5
 z5:=Tryd.sizeOf5
 v5:=Tryd.zeroValue5
 infoByte:=by kernel_rfl
 cellsByte:=by kernel_rfl
 sizeByte:=by kernel_rfl
 neB5:=by decide }
def a7y:Go.Shelf.Ren:=⟨fun|167=>44|240=>43|276=>59|n=>n,fun|0=>0|4=>4|5=>5|9=>9|20=>20|37=>44|70=>55|72=>57|75=>59|80=>68|164=>106|n=>n,fun n=>n⟩
theorem c4p:Go.Proofs.Lays.n167 prog a7y:={
 mixed:=by kernel_rfl
 f167:=func44.trans (congrArg some (by kernel_rfl))
 f240:=func43.trans (congrArg some (by kernel_rfl))
 f276:=func59.trans (congrArg some (by kernel_rfl))
 t0:=underlying0
 a0:=Tryd.isAgg0
 z0:=Tryd.sizeOf0
 v0:=Tryd.zeroValue0
 t4:=underlying4
 a4:=Tryd.isAgg4
 z4:=Tryd.sizeOf4
 v4:=Tryd.zeroValue4
 t5:=underlying5
 a5:=Tryd.isAgg5
 z5:=Tryd.sizeOf5
 v5:=Tryd.zeroValue5
 t9:=underlying9
 a9:=Tryd.isAgg9
 z9:=Tryd.sizeOf9
 v9:=Tryd.zeroValue9
 t20:=underlying20
 a20:=Tryd.isAgg20
 z20:=Tryd.sizeOf20
 v20:=Tryd.zeroValue20
 t37:=underlying44
 a37:=Tryd.isAgg44
 z37:=Tryd.sizeOf44
 v37:=Tryd.zeroValue44
 t70:=underlying55
 a70:=Tryd.isAgg55
 z70:=Tryd.sizeOf55
 v70:=Tryd.zeroValue55
 t72:=underlying57
 a72:=Tryd.isAgg57
 z72:=Tryd.sizeOf57
 v72:=Tryd.zeroValue57
 t75:=underlying59
 a75:=Tryd.isAgg59
 z75:=Tryd.sizeOf59
 v75:=Tryd.zeroValue59
 t164:=underlying106
 a164:=Tryd.isAgg106
 z164:=Tryd.sizeOf106
 v164:=Tryd.zeroValue106 }
theorem c1i:Builder.Extra prog a7y:={
 sizeBuilder:=by kernel_rfl
 liesBuilder:=by kernel_rfl
 t5:=underlying5
 a5:=Tryd.isAgg5
 z5:=Tryd.sizeOf5
 v5:=Tryd.zeroValue5
 infoByte:=by kernel_rfl
 cellsByte:=by kernel_rfl
 sizeByte:=by kernel_rfl
 neB5:=by decide }
def b3w:Go.Shelf.Ren:=⟨fun|170=>29|n=>n,fun|0=>0|3=>3|5=>5|37=>44|70=>55|72=>57|n=>n,fun n=>n⟩
theorem c4s:Go.Proofs.Lays.n170 prog b3w:={
 mixed:=by kernel_rfl
 f170:=func29.trans (congrArg some (by kernel_rfl))
 t0:=underlying0
 a0:=Tryd.isAgg0
 z0:=Tryd.sizeOf0
 v0:=Tryd.zeroValue0
 t3:=underlying3
 a3:=Tryd.isAgg3
 z3:=Tryd.sizeOf3
 v3:=Tryd.zeroValue3
 t37:=underlying44
 a37:=Tryd.isAgg44
 z37:=Tryd.sizeOf44
 v37:=Tryd.zeroValue44
 t70:=underlying55
 a70:=Tryd.isAgg55
 z70:=Tryd.sizeOf55
 v70:=Tryd.zeroValue55
 t72:=underlying57
 a72:=Tryd.isAgg57
 z72:=Tryd.sizeOf57
 v72:=Tryd.zeroValue57 }
def b3x:Go.Shelf.Ren:=⟨fun|129=>50|173=>12|246=>17|283=>31|284=>32|285=>33|286=>34|317=>49|318=>51|319=>52|320=>53|337=>63|338=>64|n=>n,fun|0=>0|2=>2|3=>3|4=>4|5=>5|9=>9|20=>20|37=>44|46=>99|51=>96|53=>71|171=>70|173=>74|212=>95|213=>97|232=>124|233=>125|n=>n,fun|17=>0|18=>2|19=>3|n=>n⟩
theorem c4t:Go.Proofs.LaysM.n173 prog b3x:={
 mixed:=by kernel_rfl
 f129:=func50.trans (congrArg some (by kernel_rfl))
 f173:=func12.trans (congrArg some (by kernel_rfl))
 f246:=func17.trans (congrArg some (by kernel_rfl))
 f283:=func31.trans (congrArg some (by kernel_rfl))
 f284:=func32.trans (congrArg some (by kernel_rfl))
 f285:=func33.trans (congrArg some (by kernel_rfl))
 f286:=func34.trans (congrArg some (by kernel_rfl))
 f317:=func49.trans (congrArg some (by kernel_rfl))
 f318:=func51.trans (congrArg some (by kernel_rfl))
 f319:=func52.trans (congrArg some (by kernel_rfl))
 f320:=func53.trans (congrArg some (by kernel_rfl))
 f337:=func63.trans (congrArg some (by kernel_rfl))
 f338:=func64.trans (congrArg some (by kernel_rfl))
 t0:=underlying0
 a0:=Tryd.isAgg0
 z0:=Tryd.sizeOf0
 v0:=Tryd.zeroValue0
 t2:=underlying2
 a2:=Tryd.isAgg2
 z2:=Tryd.sizeOf2
 v2:=Tryd.zeroValue2
 t3:=underlying3
 a3:=Tryd.isAgg3
 z3:=Tryd.sizeOf3
 v3:=Tryd.zeroValue3
 t4:=underlying4
 a4:=Tryd.isAgg4
 z4:=Tryd.sizeOf4
 v4:=Tryd.zeroValue4
 t5:=underlying5
 a5:=Tryd.isAgg5
 z5:=Tryd.sizeOf5
 v5:=Tryd.zeroValue5
 t9:=underlying9
 a9:=Tryd.isAgg9
 z9:=Tryd.sizeOf9
 v9:=Tryd.zeroValue9
 t20:=underlying20
 a20:=Tryd.isAgg20
 z20:=Tryd.sizeOf20
 v20:=Tryd.zeroValue20
 t37:=underlying44
 a37:=Tryd.isAgg44
 z37:=Tryd.sizeOf44
 v37:=Tryd.zeroValue44
 t46:=underlying99
 a46:=Tryd.isAgg99
 z46:=Tryd.sizeOf99
 v46:=Tryd.zeroValue99
 t51:=underlying96
 a51:=Tryd.isAgg96
 z51:=Tryd.sizeOf96
 v51:=Tryd.zeroValue96
 t53:=underlying71
 a53:=Tryd.isAgg71
 z53:=Tryd.sizeOf71
 v53:=Tryd.zeroValue71
 t171:=underlying70
 a171:=Tryd.isAgg70
 z171:=Tryd.sizeOf70
 v171:=Tryd.zeroValue70
 t173:=underlying74
 a173:=Tryd.isAgg74
 z173:=Tryd.sizeOf74
 v173:=Tryd.zeroValue74
 t212:=underlying95
 a212:=Tryd.isAgg95
 z212:=Tryd.sizeOf95
 v212:=Tryd.zeroValue95
 t213:=underlying97
 a213:=Tryd.isAgg97
 z213:=Tryd.sizeOf97
 t232:=underlying124
 a232:=Tryd.isAgg124
 z232:=Tryd.sizeOf124
 v232:=Tryd.zeroValue124
 t233:=underlying125
 a233:=Tryd.isAgg125
 z233:=Tryd.sizeOf125
 v233:=Tryd.zeroValue125
 g17:=by kernel_rfl
 g18:=by kernel_rfl
 g19:=by kernel_rfl
 i0:=by kernel_rfl
 i2:=by kernel_rfl
 i3:=by kernel_rfl
 i4:=by kernel_rfl
 i5:=by kernel_rfl
 i9:=by kernel_rfl
 i20:=by kernel_rfl
 i37:=by kernel_rfl
 i46:=by kernel_rfl
 i51:=by kernel_rfl
 i53:=by kernel_rfl
 i171:=by kernel_rfl
 i173:=by kernel_rfl
 i212:=by kernel_rfl
 i232:=by kernel_rfl
 i233:=by kernel_rfl
 m17:=by kernel_rfl
 m18:=by kernel_rfl
 m19:=by kernel_rfl }
def BldT (b:Nat) (T:ByteArray) (w:World):Prop:=Bld b T.data.toList w
theorem b7v (b:Nat)(T s:ByteArray)(w:World)(h:BldT b T w)(hl:T.size+s.size≤140737488355328)(hb:b≤w.heap.size):
  Calls prog 22 #[.pointer (some ⟨b,0,none⟩),.string s] w fun e w'=>(∃ n:Nat,e=.returned (.tuple #[.int .i64 n,.nilIface]))∧BldT b (T++s) w'∧Below b w w'∧Lib.OthersKept 5 (some b) w w':=by
 refine(Any.Builder_WriteString_k c4o c1h b b (Lib.byteCells T.data.toList) s w h (by rw[Lib.byteCells_length,Array.length_toList];exact hl) hb).mono ?_;rintro e w' ⟨rfl,h1,h2,h3⟩;refine⟨⟨_,rfl⟩,?_,h2,h3⟩;unfold BldT Bld;rw[ByteArray.data_append,Array.toList_append,Lib.byteCells_append];exact Or.inr h1
theorem b5c (b:Nat)(T:ByteArray)(c:Int)(u:ByteArray)(hu:u.data.toList=[c.toNat.toUInt8])(hc:0≤c∧c<256)(w:World)(h:BldT b T w)(hl:T.size+1≤140737488355328)(hb:b≤w.heap.size):
  Calls prog 44 #[.pointer (some ⟨b,0,none⟩),.int .u8 c] w fun e w'=>e=.returned .nilIface∧BldT b (T++u) w'∧Below b w w'∧Lib.OthersKept 5 (some b) w w':=by
 refine(Any.Builder_WriteByte_k c4p c1i b b (Lib.byteCells T.data.toList) c w h (by rw[Lib.byteCells_length,Array.length_toList];exact hl) hb).mono ?_;rintro e w' ⟨rfl,h1,h2,h3⟩;refine⟨rfl,?_,h2,h3⟩;unfold BldT Bld;rw[ByteArray.data_append,Array.toList_append,Lib.byteCells_append,hu]
 have e1:Lib.byteCells [c.toNat.toUInt8]=[Value.int .u8 c]:=by
  unfold Lib.byteCells;simp only[List.map_cons,List.map_nil]
  congr 2
  simp only[UInt8.toNat_ofNat', Nat.toUInt8];omega
 rw[e1];exact Or.inr h1
theorem b7u (b:Nat)(T:ByteArray)(w:World)(h:BldT b T w):
  Calls prog 29 #[.pointer (some ⟨b,0,none⟩)] w fun e w'=>e=.returned (.int .i64 T.size)∧w'=w:=by
 have:=Any.Builder_Len_f c4s b b (Lib.byteCells T.data.toList) w h;rw[Lib.byteCells_length,Array.length_toList] at this;exact this
theorem b5d (b:Nat)(T:ByteArray)(w:World)(h:BldT b T w)(hb:b≤w.heap.size):
  Calls prog 30 #[.pointer (some ⟨b,0,none⟩)] w fun e w'=>e=.returned (.string T)∧Below b w w':=by
 refine(a6d b T.data.toList w h hb).mono ?_;rintro e w' ⟨rfl,h2⟩;exact⟨rfl,h2⟩
theorem b7w (w:World):BldT w.heap.size ⟨#[]⟩ (w.alloc (.cells #[.pointer none,.slice none 0 0] 57)):=b3e w
theorem b2d:∀(f k:Nat),k≠0→k<10 ^ f→(digs f k).data.toList=Lib.decDigits k
 | 0,k,h0,h=>by simp at h;omega
 | f+1,k,h0,h=>by
  rw[digs,iN h0,ByteArray.data_append,Array.toList_append,Lib.decDigits];by_cases hk:k<10
  ·rw[dif_pos hk];have e:k / 10=0:=Nat.div_eq_of_lt hk;have e2:k % 10=k:=Nat.mod_eq_of_lt hk;rw[e,e2]
   cases f <;> simp[digs,b1]
  ·rw[dif_neg hk,b2d f (k / 10) (by omega) (by rw[Nat.pow_succ] at h;omega)]
   rfl
theorem c1t (hn:Fits n):(⟨(Lib.itoa n).toArray⟩:ByteArray)=numT n:=by
 have h1:=hn.1;have h2:=hn.2;apply ByteArray.ext;apply Array.toList_inj.1
 show Lib.itoa n=_
 unfold numT Lib.itoa;by_cases h0:n=0
 ·subst h0;rw[iN (by omega),iP rfl,Int.toNat_zero,Lib.decDigits,dif_pos (by omega)]
  rfl
 ·rw[iN h0];by_cases hneg:n<0
  ·rw[iP hneg,iP hneg,ByteArray.data_append,Array.toList_append,b2d 20 n.natAbs (by omega) (by omega)]
   rfl
  ·rw[iN hneg,iN hneg,b2d 20 n.natAbs (by omega) (by omega)]
   congr 1
   omega
def TabP (w:World):Prop:=Lib.TabIs prog w "internal/strconv.uint64pow10" .u64 Lib.pow10Tab
theorem TabP.below {w':World}(h:TabP w)(hb:Below w.heap.size w w'):TabP w':=Joins.tab_stays (g:=0) (by kernel_rfl) h hb (Nat.le_refl _)
theorem b8b (hn:Fits n)(hT:TabP w):
  Calls prog 12 #[.int .i64 n,.int .i64 10] w fun e w'=>e=.returned (.string (numT n))∧Below w.heap.size w w':=by
 refine(Any.strconv_FormatInt_10 c4t n hn.1 hn.2 w hT).mono ?_;rintro e w' ⟨rfl,k,os,rfl⟩;refine⟨by rw[c1t hn],?_⟩;exact Lib.below_grow _ w (Nat.le_refl _) k os
end Go.Proofs.YtdcmanhgekjhgaaDoor
