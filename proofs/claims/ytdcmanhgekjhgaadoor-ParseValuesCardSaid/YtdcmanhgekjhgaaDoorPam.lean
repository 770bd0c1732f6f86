import Derived.Lib.TrimUEq
import Derived.Shelf.Slices.Turned
import Derived.Shelf.Strings.BuilderRune
import Derived.Shelf.Utf8.RuneCount
import Derived.Test.YtdcmanhgekjhgaaDoorPal
set_option maxRecDepth 100000
set_option maxHeartbeats 12800000
namespace Go.Proofs.YtdcmanhgekjhgaaDoor
open Go.RowKit Go.Proofs.Tryd
variable {us:List Value} {w w0:World}
def c8a (w0:World) (pool:List a0e) (S:Option Addr) (sn sc:Nat) (D:Option Addr) (dn dc:Nat) (t:List Int × List Int):Prop :=
 (∃ p q:Nat,pool[p]?=some (a0e.own 3 (.slice S sn sc) sn t.1)∧pool[q]?=some (a0e.own 2 (.slice D dn dc) dn t.2))∨Ten w0 (.agg #[.slice S sn sc,.slice D dn dc]) t.1 t.2
def c6l (w0:World) (us:List Value) (L:TL) (pool:List a0e):Prop:=us.length=L.length*2∧∀(j:Nat) (t:List Int × List Int),L[j]?=some t→∃(S:Option Addr) (sn sc:Nat) (D:Option Addr) (dn dc:Nat),us[j*2]?=some (.slice S sn sc)∧us[j*2+1]?=some (.slice D dn dc)∧c8a w0 pool S sn sc D dn dc t
theorem c6l.snoc {L:TL}{pool:List a0e}{S D:Option Addr}{sn sc dn dc:Nat}{t:List Int × List Int}(h:c6l w0 us L pool)(ht:c8a w0 pool S sn sc D dn dc t):c6l w0 (us++[.slice S sn sc,.slice D dn dc]) (L++[t]) pool:=by
 obtain⟨hl,h⟩:=h;refine⟨by simp[hl];omega,fun j u hu=>?_⟩;rcases Nat.lt_or_ge j L.length with hj|hj
 ·rw[List.getElem?_append_left hj] at hu;obtain⟨S', sn', sc', D', dn', dc', h1,h2,h3⟩:=h j u hu;exact⟨S', sn', sc', D', dn', dc', by rw[List.getElem?_append_left (by omega)];exact h1,by rw[List.getElem?_append_left (by omega)];exact h2,h3⟩
 ·rw[List.getElem?_append_right hj] at hu
  have hj' : j=L.length:=by
   rcases Nat.eq_or_lt_of_le hj with e|e
   ·exact e.symm
   ·obtain⟨m,hm⟩:∃ m,j-L.length=m+1:=⟨j-L.length-1,by omega⟩;rw[hm] at hu;simp at hu
  subst hj';simp at hu;subst hu;exact⟨S,sn,sc,D,dn,dc,by rw[List.getElem?_append_right (by omega),hl];simp,by rw[List.getElem?_append_right (by omega),hl];simp,ht⟩
def a0e.mine:a0e→Prop
 | .own _ _ _ _=>True
 | .row _ _ _ _ _=>True
 | .box _ _ _=>True
 | _=>False
theorem a0e.lower {base base' : Nat}{c:a0e}(h:c.holds w base)(hm:c.mine)(hb:base' ≤ base):c.holds w base':=by
 cases c with
 | own e v n xs=>exact OwnS.mono h hb
 | row e k v n us =>
  refine⟨h.1,?_⟩;rcases h.2 with hh|⟨g,cap,cur,h1,h2,h3⟩
  ·exact .inl hh
  ·exact .inr ⟨g,cap,cur,h1,Nat.le_trans hb h2,h3⟩
 | box g t vs=>exact⟨Nat.le_trans hb h.1,h.2⟩
 | ints A n xs=>cases hm
 | vals A n k us=>cases hm
 | tape g=>cases hm
theorem Sep.join {wT w':World}{l m:List a0e}(h:Sep w0 w l)(hb:Below w.heap.size w w')(k:Sep wT w' m)(hsz:w.heap.size≤wT.heap.size)(hm:∀ c∈m,c.mine):Sep w0 w' (m++l):=by
 obtain⟨h1,h2,h3⟩:=Sep.pair.1 (h.below hb);obtain⟨k1,k2,k3⟩:=Sep.pair.1 k;have h0:=(Sep.pair.1 h).2.1;have hs:=h.size;refine Sep.pair.2 ⟨h1,fun c hc=>?_,List.pairwise_append.2 ⟨k3,h3,fun a ha b hb' q hq hq'=>?_⟩⟩
 ·rcases List.mem_append.1 hc with hc|hc
  ·exact a0e.lower (k2 c hc) (hm c hc) (by omega)
  ·exact h2 c hc
 ·have x1:=(a0e.block_ge (k2 a ha) hq).1;have x2:=(a0e.block_ge (h0 b hb') hq').2;omega
def LilO (w0:World) (us:List Value) (L:List (List Int)):Prop:=us.length=L.length∧∀(j:Nat) (s:List Int),L[j]?=some s→∃ B m c,us[j]?=some (.slice B m c)∧m≤c∧Ints w0 B m s
theorem LilO.snoc {L:List (List Int)}(h:LilO w0 us L){B:Option Addr}{m c:Nat}{s:List Int}(hI:Ints w0 B m s)(hm:m≤c):LilO w0 (us++[.slice B m c]) (L++[s]):=by
 obtain⟨hl,h⟩:=h;refine⟨by simp[hl],fun j u hu=>?_⟩;rcases Nat.lt_or_ge j L.length with hj|hj
 ·rw[List.getElem?_append_left hj] at hu;obtain⟨B', m', c', h1,h2,h3⟩:=h j u hu;exact⟨B', m', c', by rw[List.getElem?_append_left (by omega)];exact h1,h2,h3⟩
 ·rw[List.getElem?_append_right hj] at hu
  have hj' : j=L.length:=by
   rcases Nat.eq_or_lt_of_le hj with e|e
   ·exact e.symm
   ·obtain⟨m,hm⟩:∃ m,j-L.length=m+1:=⟨j-L.length-1,by omega⟩;rw[hm] at hu;simp at hu
  subst hj';simp at hu;subst hu;exact⟨B,m,c,by rw[List.getElem?_append_right (by omega),hl];simp,hm,hI⟩
theorem a3m (c:UInt8):∀ l:List UInt8,∀ p∈a0u c l,p.length≤l.length
 | [],p,h=>by rw[a0u,List.mem_singleton] at h;subst h;exact Nat.le_refl _
 | b::l,p,h=>by
  have ih:=a3m c l;unfold a0u at h
  split at h
  ·rcases List.mem_cons.1 h with e|e
   ·subst e;simp
   ·have:=ih p e;simp only[List.length_cons];omega
  ·cases hs:a0u c l with
   | nil=>exact absurd hs (a6v c l)
   | cons q qs =>
    rw[hs] at h ih;rcases List.mem_cons.1 h with e|e
    ·subst e;have:=ih q List.mem_cons_self;simp only[List.length_cons];omega
    ·have:=ih p (List.mem_cons_of_mem _ e);simp only[List.length_cons];omega
theorem a4z {s:ByteArray}(h:s.size≤90000):∀ x∈a0g s,x.size≤90000:=fun x hx=>by
 obtain⟨p,hp,rfl⟩:=List.mem_map.1 hx;have:=a3m 32 (bl s) p hp;rw[a1w] at this;have e:(ofL p).size=p.length:=by rw[←a1w,a4l]
 omega
theorem a4c (s:ByteArray):(a0g s).length≤s.size+1:=by
 unfold a0g;rw[List.length_map];have:=a2t 32 (bl s);rw[a1w] at this;exact this
theorem a7b.strs {w1:World}{L:List ByteArray}{v:Value}(h:a7b w L v w1)(hs:∀ x∈L,x.size≤90000)(hl:L.length≤90001):∃ A c K,v=.slice A L.length c∧L.length≤c∧Strs w1 K A L.length L∧Below w.heap.size w w1∧w.heap.size≤K:=by
 obtain⟨n,H⟩:=h;have hn:L.length=n:=by have:=(H.at_ 0 rfl).1;simpa using this
 subst hn
 cases L with
 | nil =>
  obtain⟨A,c,hv,hc⟩:∃ A c,v=.slice A 0 c∧0≤c:=by
   rcases(show w1.ownsRow w.heap.size 9 1 v 0 [] from H.at_ 0 rfl).2 with ⟨hv,_⟩|⟨g,cap,cur,hv,_⟩
   ·exact⟨none,0,hv,Nat.le_refl _⟩
   ·exact⟨_,cap,hv,Nat.zero_le _⟩
  exact⟨A,c,w.heap.size,hv,hc,b7p _ _ _,H.base,Nat.le_refl _⟩
 | cons x L =>
  obtain⟨g,c,hv,hc⟩:=H.rowForm 0 rfl (by simp);subst hv;refine⟨_,c,g,rfl,hc,⟨rfl,hl,hs,fun j y hy=>⟨⟨g,0,none⟩,rfl,?_,?_,rfl⟩⟩,H.base,(a0e.block_ge (H.at_ 0 rfl) (show(a0e.row 9 1 (.slice (some ⟨g,0,none⟩) _ c) _ _).block=some g from rfl)).1⟩
  ·have h8:=block_lt_of_cell (H.cellRow 0 rfl (j:=j) (u:=.string y) (by rw[List.getElem?_map,hy];rfl));exact h8
  ·have:=H.cellRow 0 rfl (j:=j) (u:=.string y) (by rw[List.getElem?_map,hy];rfl)
   cases j <;> simpa [Addr.add] using this
theorem a1z {fn:Func}{R:Ending→World→Prop}{a:Act}{l:List a0e}{p u:Tmp}{g:Nat}{v0 v1 v2 v3 v4 v5 v6:Value}(z:Value)(H:Sep w0 w l)(i:Nat)(hi:l[i]?=some (.box g 47 [v0,v1,v2,v3,v4,v5,v6]))
  (h:fn.results=#[.cell p 47,.tmp u])(hp:a.tmps.getD p undef=.pointer (some ⟨g,0,none⟩))(hz:a.tmps.getD u undef=z)(hd:a.defers=[])(hR:R (.returned (.tuple #[.agg #[v0,v1,v2,v3,v4,v5,v6],z])) w):bodyPost prog fn R .ret a w:=by
 refine bodyPost_ret_by ?_ hd hR;have hp' : a.tmps[p]?.getD undef=.pointer (some ⟨g,0,none⟩):=by simpa using hp
 have hz' : a.tmps[u]?.getD undef=z:=by simpa using hz
 rw[results_cell_tmp h];simp[hp', hz', asAddr,run_loadVar_row w g _ 47 _ _ _ (H.heap i hi) underlying47 rfl Tryd.sizeNode,Result.andThen]
theorem a7s (n:Nat)(h:n<256):(UInt8.ofNat n).toNat=n:=by simp;omega
theorem c6q (r:Nat)(hr:r<55296)(t:List UInt8):Lib.decodeL ((Utf8.encode (r:Int)).data.toList++t)=(r,(Utf8.encode (r:Int)).size):=by
 have hv:Utf8.valid (r:Int)=true:=by simp[Utf8.valid];omega
 rw[Lib.decodeL_N];unfold Utf8.encode;simp only[hv,if_true,Int.toNat_natCast];by_cases h1:r<128
 ·simp only[h1,if_true];simp only[List.cons_append,List.nil_append,List.getD_cons_zero,List.getD_cons_succ];rw[a7s r (by omega),Lib.decodeN,iP (by omega)]
  rfl
 ·by_cases h2:r<2048
  ·simp only[h1,h2,if_true,if_false];simp only[List.cons_append,List.nil_append,List.getD_cons_zero,List.getD_cons_succ,List.length_cons];rw[a7s (192+r / 64) (by omega),a7s (128+r % 64) (by omega),Lib.decodeN,iN (by omega),iP ⟨by omega,by omega,by omega⟩,iP (by omega)];exact Prod.ext (show(192+r / 64) % 32*64+(128+r % 64) % 64=r by omega) rfl
  ·simp only[h1,h2,show r<65536 from by omega,if_true,if_false];simp only[List.cons_append,List.nil_append,List.getD_cons_zero,List.getD_cons_succ,List.length_cons];rw[a7s (224+r / 4096) (by omega),a7s (128+r / 64 % 64) (by omega),a7s (128+r % 64) (by omega),Lib.decodeN,iN (by omega),iN (by omega),iP ⟨by omega,⟨by omega,by omega⟩,by omega,by omega⟩,iP ⟨by omega,by omega⟩];exact Prod.ext (show(224+r / 4096) % 16*4096+(128+r / 64 % 64) % 64*64+(128+r % 64) % 64=r by omega) rfl
theorem c6v (r:Int):1≤(Utf8.encode r).size:=by
 unfold Utf8.encode;simp only
 repeat' split
 all_goals simp[ByteArray.size]
theorem toL (s:ByteArray):s.data.toList.length=s.size:=Array.length_toList
theorem a7d (r:Int)(l:List Int):runesBytes (r::l)=Utf8.encode r++runesBytes l:=by
 have:∀(l:List Int) (a b:ByteArray),l.foldl (fun r n=>r++Utf8.encode n) (a++b)=a++l.foldl (fun r n=>r++Utf8.encode n) b:=by
  intro l
  induction l with
  | nil=>intro a b;rfl
  | cons x l ih=>intro a b;rw[List.foldl_cons,List.foldl_cons,ByteArray.append_assoc,ih]
 have h:=this l (Utf8.encode r) ByteArray.empty;rw[ByteArray.append_empty] at h;rw[runesBytes,List.foldl_cons,ByteArray.empty_append,h];rfl
def a8a:Go.Shelf.Ren:=⟨fun|169=>30|n=>n,fun|0=>0|3=>3|9=>9|37=>44|70=>55|72=>57|127=>45|5=>5|n=>n,fun|n=>n⟩
theorem c4r:Go.Proofs.Lays.n169 prog a8a:={
 mixed:=by kernel_rfl
 f169:=func30.trans (congrArg some (by kernel_rfl))
 t0:=underlying0
 a0:=Tryd.isAgg0
 z0:=Tryd.sizeOf0
 v0:=Tryd.zeroValue0
 t3:=underlying3
 a3:=Tryd.isAgg3
 z3:=Tryd.sizeOf3
 v3:=Tryd.zeroValue3
 t9:=underlying9
 a9:=Tryd.isAgg9
 z9:=Tryd.sizeOf9
 v9:=Tryd.zeroValue9
 t37:=underlying44
 a37:=Tryd.isAgg44
 z37:=Tryd.sizeOf44
 v37:=Tryd.zeroValue44
 t70:=underlying55
 a70:=Tryd.isAgg55
 z70:=Tryd.sizeOf55
 v70:=Tryd.zeroValue55
 t72:=underlying57
 a72:=Tryd.isAgg57
 z72:=Tryd.sizeOf57
 v72:=Tryd.zeroValue57
 t127:=underlying45
 a127:=Tryd.isAgg45
 z127:=Tryd.sizeOf45
 v127:=Tryd.zeroValue45 }
theorem c1k:Builder.Extra prog a8a:={
 sizeBuilder:=by kernel_rfl
 liesBuilder:=by kernel_rfl
 t5:=underlying5
 a5:=Tryd.isAgg5
 z5:=Tryd.sizeOf5
 v5:=Tryd.zeroValue5
 infoByte:=by kernel_rfl
 cellsByte:=by kernel_rfl
 sizeByte:=by kernel_rfl
 neB5:=by decide }
def a7z:Go.Shelf.Ren:=⟨fun|168=>62|240=>43|242=>80|276=>59|278=>90|n=>n,fun|0=>0|3=>3|4=>4|5=>5|9=>9|20=>20|21=>21|37=>44|46=>99|51=>96|70=>55|72=>57|75=>59|164=>106|80=>68|n=>n,fun|n=>n⟩
theorem c4q:Go.Proofs.Lays.n168 prog a7z:={
 mixed:=by kernel_rfl
 f168:=func62.trans (congrArg some (by kernel_rfl))
 f240:=func43.trans (congrArg some (by kernel_rfl))
 f242:=func80.trans (congrArg some (by kernel_rfl))
 f276:=func59.trans (congrArg some (by kernel_rfl))
 f278:=func90.trans (congrArg some (by kernel_rfl))
 t0:=underlying0
 a0:=Tryd.isAgg0
 z0:=Tryd.sizeOf0
 v0:=Tryd.zeroValue0
 t3:=underlying3
 a3:=Tryd.isAgg3
 z3:=Tryd.sizeOf3
 v3:=Tryd.zeroValue3
 t4:=underlying4
 a4:=Tryd.isAgg4
 z4:=Tryd.sizeOf4
 v4:=Tryd.zeroValue4
 t5:=underlying5
 a5:=Tryd.isAgg5
 z5:=Tryd.sizeOf5
 v5:=Tryd.zeroValue5
 t9:=underlying9
 a9:=Tryd.isAgg9
 z9:=Tryd.sizeOf9
 v9:=Tryd.zeroValue9
 t20:=underlying20
 a20:=Tryd.isAgg20
 z20:=Tryd.sizeOf20
 v20:=Tryd.zeroValue20
 t21:=underlying21
 a21:=Tryd.isAgg21
 z21:=Tryd.sizeOf21
 v21:=Tryd.zeroValue21
 t37:=underlying44
 a37:=Tryd.isAgg44
 z37:=Tryd.sizeOf44
 v37:=Tryd.zeroValue44
 t46:=underlying99
 a46:=Tryd.isAgg99
 z46:=Tryd.sizeOf99
 v46:=Tryd.zeroValue99
 t51:=underlying96
 a51:=Tryd.isAgg96
 z51:=Tryd.sizeOf96
 v51:=Tryd.zeroValue96
 t70:=underlying55
 a70:=Tryd.isAgg55
 z70:=Tryd.sizeOf55
 v70:=Tryd.zeroValue55
 t72:=underlying57
 a72:=Tryd.isAgg57
 z72:=Tryd.sizeOf57
 v72:=Tryd.zeroValue57
 t75:=underlying59
 a75:=Tryd.isAgg59
 z75:=Tryd.sizeOf59
 v75:=Tryd.zeroValue59
 t164:=underlying106
 a164:=Tryd.isAgg106
 z164:=Tryd.sizeOf106
 v164:=Tryd.zeroValue106 }
theorem c1j:Builder.Extra prog a7z:={
 sizeBuilder:=by kernel_rfl
 liesBuilder:=by kernel_rfl
 t5:=underlying5
 a5:=Tryd.isAgg5
 z5:=Tryd.sizeOf5
 v5:=Tryd.zeroValue5
 infoByte:=by kernel_rfl
 cellsByte:=by kernel_rfl
 sizeByte:=by kernel_rfl
 neB5:=by decide }
def b3y:Go.Shelf.Ren:=⟨fun|195=>79|n=>n,fun|0=>0|3=>3|4=>4|9=>9|n=>n,fun|n=>n⟩
theorem c4u:Go.Proofs.Lays.n195 prog b3y:={
 mixed:=by kernel_rfl
 f195:=func79.trans (congrArg some (by kernel_rfl))
 t0:=underlying0
 a0:=Tryd.isAgg0
 z0:=Tryd.sizeOf0
 v0:=Tryd.zeroValue0
 t3:=underlying3
 a3:=Tryd.isAgg3
 z3:=Tryd.sizeOf3
 v3:=Tryd.zeroValue3
 t4:=underlying4
 a4:=Tryd.isAgg4
 z4:=Tryd.sizeOf4
 v4:=Tryd.zeroValue4
 t9:=underlying9
 a9:=Tryd.isAgg9
 z9:=Tryd.sizeOf9
 v9:=Tryd.zeroValue9 }
def b3v:Go.Shelf.Ren:=⟨fun|107=>60|108=>78|n=>n,fun|0=>0|3=>3|4=>4|28=>31|n=>n,fun|n=>n⟩
theorem b7d:Go.Proofs.Lays.n107 prog b3v:={
 mixed:=by kernel_rfl
 f107:=func60.trans (congrArg some (by kernel_rfl))
 f108:=func78.trans (congrArg some (by kernel_rfl))
 t0:=underlying0
 a0:=Tryd.isAgg0
 z0:=Tryd.sizeOf0
 v0:=Tryd.zeroValue0
 t3:=underlying3
 a3:=Tryd.isAgg3
 z3:=Tryd.sizeOf3
 v3:=Tryd.zeroValue3
 t4:=underlying4
 a4:=Tryd.isAgg4
 z4:=Tryd.sizeOf4
 v4:=Tryd.zeroValue4
 t28:=underlying31
 a28:=Tryd.isAgg31
 z28:=Tryd.sizeOf31
 v28:=Tryd.zeroValue31 }
def Bld (b:Nat) (l:List UInt8) (w:World):Prop:=Lib.IsBuilderF 57 5 b b (Lib.byteCells l) w
theorem b3e (w:World):Bld w.heap.size [] (w.alloc (.cells #[.pointer none,.slice none 0 0] 57)):=Lib.IsBuilderF.of (Lib.fresh_isBuilder 57 5 w)
theorem a8y (b:Nat)(l:List UInt8)(r:Int)(hr : -2147483648≤r∧r≤2147483647)(w:World)(h:Bld b l w)(hl:l.length+4≤140737488355328)(hb:b≤w.heap.size):
  Calls prog 62 #[.pointer (some ⟨b,0,none⟩),.int .i32 r] w fun e w'=>(∃ n:Nat,e=.returned (.tuple #[.int .i64 n,.nilIface]))∧Bld b (l++Lib.encodeRune r) w'∧Below b w w'∧Lib.OthersKept 5 (some b) w w':=by
 refine(Any.Builder_WriteRune_k c4q c1j b b (Lib.byteCells l) r hr.1 hr.2 w h (by rw[Lib.byteCells_length];exact hl) hb).mono ?_;rintro e w' ⟨rfl,h1,h2,h3⟩;refine⟨⟨_,rfl⟩,?_,h2,h3⟩;unfold Bld;rw[Lib.byteCells_append,Lib.byteCells_encodeRune];exact Or.inr h1
theorem a6d (b:Nat)(l:List UInt8)(w:World)(h:Bld b l w)(hb:b≤w.heap.size):
  Calls prog 30 #[.pointer (some ⟨b,0,none⟩)] w fun e w'=>e=.returned (.string ⟨l.toArray⟩)∧Below b w w':=by
 refine(Any.Builder_String_any_k c4r c1k b b l w h hb).mono ?_;rintro e w' ⟨rfl,_,h2,_⟩;exact⟨rfl,h2⟩
theorem b2o (s:ByteArray)(w:World)(hs:s.size≤17592186044000):
  Calls prog 79 #[.string s] w fun e w'=>(∃ n:Nat,n≤s.size∧e=.returned (.int .i64 n))∧Below w.heap.size w w':=by
 refine(Any.utf8_RuneCountInString c4u s w (by omega)).mono ?_;rintro e w' ⟨rfl,pos,rfl⟩;exact⟨⟨_,Lib.runeCount_le s,rfl⟩,(Below.refl _ _).alloc (Nat.le_refl _) _⟩
end Go.Proofs.YtdcmanhgekjhgaaDoor
