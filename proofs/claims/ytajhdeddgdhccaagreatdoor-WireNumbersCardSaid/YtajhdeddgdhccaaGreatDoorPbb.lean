import Derived.Test.YtajhdeddgdhccaaGreatDoorPaz
import Derived.Test.YtajhdeddgdhccaaGreatDoorPba
set_option maxRecDepth 100000
set_option maxHeartbeats 12800000
namespace Go.Proofs.YtajhdeddgdhccaaGreatDoor
open Go.RowKit Go.Proofs.Tryz
variable {T a b:ByteArray} {w w' w0:World}
def a5h (T T0:ByteArray):Prop:=T=T0∨(65536<T.size∧T.size≤T0.size)
theorem a5h.refl (T:ByteArray):a5h T T:=.inl rfl
theorem a5h.trans {c:ByteArray}(h:a5h a b)(g:a5h b c):a5h a c:=by
 rcases h with rfl|⟨h1,h2⟩
 ·exact g
 ·rcases g with rfl|⟨g1,g2⟩
  ·exact .inr ⟨h1,h2⟩
  ·exact .inr ⟨h1,by omega⟩
theorem a5h.add (h:a5h a b)(s:ByteArray):a5h (a++s) (b++s):=by
 rcases h with rfl|⟨h1,h2⟩
 ·exact .refl _
 ·exact .inr ⟨by rw[ByteArray.size_append];omega,by rw[ByteArray.size_append,ByteArray.size_append];omega⟩
theorem a5h.le (h:a5h a b):a.size≤b.size:=by
 rcases h with rfl|⟨_,h2⟩
 ·exact Nat.le_refl _
 ·exact h2
theorem a5s:∀(l:List Int) (o:ByteArray),a1w o l=o++a1w ⟨#[]⟩ l
 | [],o=>(ByteArray.append_empty).symm
 | x::l,o=>by
  have e1:a1w o (x::l)=a1w (o++spT++numT x) l:=rfl;have e2:a1w ⟨#[]⟩ (x::l)=a1w (⟨#[]⟩++spT++numT x) l:=rfl;rw[e1,e2,a5s l,a5s l (⟨#[]⟩++spT++numT x)];have e3:(⟨#[]⟩:ByteArray)++spT=spT:=ByteArray.empty_append;rw[e3];simp only[ByteArray.append_assoc]
theorem a5h.nums (h:a5h a b)(l:List Int):a5h (a1w a l) (a1w b l):=by
 rw[a5s l a,a5s l b];exact h.add _
theorem d0y (T:ByteArray)(l:List Int):a1w (T++spT++⟨#[40]⟩) l++spT++⟨#[41]⟩=T++a4z l:=by
 rw[a4z,a5s l (T++spT++⟨#[40]⟩),a5s l b3x];have e1:spT++⟨#[40]⟩=b3x:=rfl;have e2:spT++⟨#[41]⟩=d4s:=rfl;rw[←e1,←e2];simp only[ByteArray.append_assoc]
def orT (s:ByteArray):ByteArray:=if s=⟨#[]⟩ then c6k else s
theorem c4j (r:Int):0<(Utf8.encode r).size:=by
 have h:1≤(Lib.encodeRune r).length:=by have:=(Lib.encodeRuneZ_length r).1;simpa [Lib.encodeRune] using this
 have e:(Utf8.encode r).size=(Lib.encodeRune r).length:=by rw[←c2v r,Array.length_toList];rfl
 omega
theorem c8y (nm:List Int)(x:Int):0<(a6t nm x).size:=by
 rw[a6t];split
 ·exact c4j _
 ·exact(by decide:0<(⟨#[46]⟩:ByteArray).size)
theorem b8x (nm:List Int):∀(l:List Int) (o:ByteArray),0<o.size→0<(l.foldl (fun o x=>o++a6t nm x) o).size
 | [],o,h=>h
 | x::l,o,h=>b8x nm l _ (by rw[ByteArray.size_append];omega)
theorem c9n {nm l:List Int}(h:l≠[]):a3p nm l≠⟨#[]⟩:=by
 cases l with
 | nil=>exact absurd rfl h
 | cons x l =>
  have:=b8x nm l (ByteArray.empty++a6t nm x) (by rw[ByteArray.size_append];have:=c8y nm x;omega);intro e;have e2:a3p nm (x::l)=l.foldl (fun o x=>o++a6t nm x) (ByteArray.empty++a6t nm x):=rfl;rw[←e2,e] at this;exact absurd this (by decide)
theorem d2c (nm:List Int)(t:ByteArray)(rank:Int):orT (a3p nm (a4p nm (a0b t) rank).1)=a7z nm t rank:=by
 unfold a7z orT;by_cases h:16<(a0b t).length
 ·rw[a6p h];rfl
 ·cases g:a3a nm [] (a0b t) with
  | none=>rw[a7y (by omega) g];rfl
  | some out =>
   by_cases he:out=[]
   ·subst he;rw[a3u (by omega) g];rfl
   ·by_cases hr:(out.length:Int)=rank
    ·rw[a8p (by omega) g he hr,iN (c9n he)];rfl
    ·rw[a8q (by omega) g he hr];rfl
def TabO (w:World):Prop:=w.var? prog "parquetry/wire.ops" = some (opN.map Value.string).toArray
theorem TabO.below (h:TabO w)(hb:Below w.heap.size w w'):TabO w':=Joins.var_stays (g:=0) (by kernel_rfl) h hb (Nat.le_refl _)
theorem TabO.cell (h:TabO w){k:Nat}{v:Value}(hk:(opN.map Value.string)[k]?=some v):w.cell? ⟨0,k,none⟩=some v:=by
 have:=World.var?_cell (P:=prog) (show prog.globalNamed "parquetry/wire.ops" = some 0 by kernel_rfl) h k;rw[this];simpa using hk
def Tabs (w:World):Prop:=TabP w∧TabO w
theorem Tabs.below (h:Tabs w)(hb:Below w.heap.size w w'):Tabs w':=⟨h.1.below hb,h.2.below hb⟩
def Wb (w0 w:World) (T:ByteArray):Prop:=BldT w0.heap.size T w∧Below w0.heap.size w0 w
def a5a (w0 w w' : World):Prop:=Lib.OthersKept 5 (some w0.heap.size) w w'
theorem Wb.le (h:Wb w0 w T):w0.heap.size≤w.heap.size:=h.2.size
theorem c6d {b:Nat}{l:List UInt8}(h:Bld b l w)(hb:Below w.heap.size w w'):Bld b l w':=by
 have key:∀ p,Lib.BuilderAtF 61 5 b b p (Lib.byteCells l) w→Lib.BuilderAtF 61 5 b b p (Lib.byteCells l) w':=by
  rintro p ⟨h0,v,hk,⟨h1,h2⟩,h3⟩;refine⟨h0,v,(hb.block b (a2o hk)).trans hk,⟨h1,?_⟩,h3⟩;rcases h2 with h2|⟨g,cap,cur,fz,e1,e2,e3,e4⟩
  ·exact .inl h2
  ·exact .inr ⟨g,cap,cur,fz,e1,e2,(hb.block g (a2o e3)).trans e3,e4⟩
 rcases h with h|h
 ·exact .inl (key _ h)
 ·exact .inr (key _ h)
theorem Wb.below (h:Wb w0 w T)(hb:Below w.heap.size w w'):Wb w0 w' T:=⟨c6d h.1 hb,a1t h.2 hb⟩
theorem a7c (hb:Below w.heap.size w w'):a5a w0 w w':=fun k _ hk _ _=>(hb.block k (a2o hk)).trans hk
theorem a5a.trans {a b c:World}(h:a5a w0 a b)(g:a5a w0 b c):a5a w0 a c:=Lib.OthersKept.trans h g
theorem a5a.refl (w0 w:World):a5a w0 w w:=Lib.OthersKept.refl _ _ _
theorem a5a.box {g:Nat}{c:Array Value}{t:TypeId}{fz:Nat × Nat}(h:a5a w0 w w')(hk:w.heap[g]?=some (.cells c t fz))(hg:g≠w0.heap.size)(ht:t≠5):w'.heap[g]?=some (.cells c t fz) :=
 h g _ hk (fun e=>hg (Option.some.inj e)) (fun c' fz' e=>by injection e with _ e2 _;exact ht e2)
theorem Wb.fresh (w:World):Wb w (w.alloc (.cells #[.pointer none,.slice none 0 0] 61)) ⟨#[]⟩:=⟨c4g w,(Below.refl _ _).alloc (Nat.le_refl _) _⟩
theorem b2v (s:ByteArray)(h:Wb w0 w T)(hl:T.size+s.size≤140737488355328):
  Calls prog 25 #[.pointer (some ⟨w0.heap.size,0,none⟩),.string s] w fun e w'=>(∃ n:Nat,e=.returned (.tuple #[.int .i64 n,.nilIface]))∧Wb w0 w' (T++s)∧a5a w0 w w':=by
 refine(c4f w0.heap.size T s w h.1 hl h.le).mono ?_;rintro e w' ⟨h1,h2,h3,h4⟩;exact⟨h1,⟨h2,h.2.trans h3⟩,h4⟩
theorem c0q (c:Int)(u:ByteArray)(hu:u.data.toList=[c.toNat.toUInt8])(hc:0≤c∧c<256)(h:Wb w0 w T)(hl:T.size+1≤140737488355328):
  Calls prog 52 #[.pointer (some ⟨w0.heap.size,0,none⟩),.int .u8 c] w fun e w'=>e=.returned .nilIface∧Wb w0 w' (T++u)∧a5a w0 w w':=by
 refine(c0u w0.heap.size T c u hu hc w h.1 hl h.le).mono ?_;rintro e w' ⟨h1,h2,h3,h4⟩;exact⟨h1,⟨h2,h.2.trans h3⟩,h4⟩
theorem c4a (h:Wb w0 w T):
  Calls prog 32 #[.pointer (some ⟨w0.heap.size,0,none⟩)] w fun e w'=>e=.returned (.int .i64 T.size)∧w'=w:=c4e _ _ _ h.1
theorem c2k (h:Wb w0 w T):
  Calls prog 33 #[.pointer (some ⟨w0.heap.size,0,none⟩)] w fun e w'=>e=.returned (.string T)∧Below w0.heap.size w0 w':=by
 refine(c0v _ _ _ h.1 h.le).mono ?_;rintro e w' ⟨h1,h2⟩;exact⟨h1,h.2.trans h2⟩
theorem a3z {n:Int}(hn:Fits n)(hT:Tabs w):
  Calls prog 10 #[.int .i64 n] w fun e w'=>e=.returned (.string (numT n))∧Below w.heap.size w w':=by
 have C:=c4k hn hT.1
 go_enter func10,ntmps10
 go_wp2_with fail
 refine C.mono ?_;rintro e1 w1 ⟨rfl,hb⟩;have HB:=Hd hb;clear C hb;go_wp2;go_ret;exact⟨rfl,HB⟩
theorem b4y (w:World){op:Int}(hop:Fits op)(hT:Tabs w):
  Calls prog 8 #[.int .i64 op] w fun e w'=>e=.returned (.string (a5e op))∧w'=w:=by
 have HT:=Hd hT;clear hT
 go_enter func8,ntmps8
 by_cases h1:op<1
 ·have d1:decide (op<1)=true:=decide_eq_true h1;have HQ:=Hd (show a5e op=⟨#[]⟩ by rw[a5e,iP (.inl h1)]);go_wp2;go_ret;exact⟨by rw[HQ.out];rfl,rfl⟩
 have d1:decide (op<1)=false:=decide_eq_false h1;by_cases h2:20<op
 ·have d2:decide (20<op)=true:=decide_eq_true h2;have HQ:=Hd (show a5e op=⟨#[]⟩ by rw[a5e,iP (.inr h2)]);go_wp2;go_ret;exact⟨by rw[HQ.out];rfl,rfl⟩
 have d2:decide (20<op)=false:=decide_eq_false h2;obtain⟨k,rfl⟩:=eZ (show 0≤op by omega);have hk1:1≤k:=by omega
 have hk2:k≤20:=by omega
 have d3:decide (k<1)=false:=decide_eq_false (by omega);have d4:decide (20<k)=false:=decide_eq_false (by omega);clear h1 h2;have c1:=HT.out.2.cell (c3n hk1 hk2);have d5:decide (21≤k)=false:=decide_eq_false (by omega);have hk3:k<21:=by omega
 go_wp2;go_ret;exact⟨rfl,rfl⟩
theorem c9w (w:World)(s:ByteArray):Calls prog 27 #[.string s] w fun e w'=>e=.returned (.string (orT s))∧w'=w:=by
 go_enter func27,ntmps27
 by_cases hne:s=⟨#[]⟩
 ·subst hne;go_wp2;go_ret;exact⟨rfl,rfl⟩
 ·have hem0:s.toList.isEmpty=false:=by
   cases he:s.toList.isEmpty with
   | false=>rfl
   | true =>
    exfalso;apply hne
    have:=List.isEmpty_iff.1 he;apply ByteArray.ext;rw[ByteArray.toList_eq] at this;exact Array.toList_inj.1 this
  have HQ:=Hd (show orT s=s by rw[orT,iN hne]);clear hne;go_wp2;go_ret;exact⟨by rw[HQ.out];rfl,rfl⟩
theorem a5w (s:ByteArray)(h:Wb w0 w T)(hl:T.size+s.size<140737488355328):
  Calls prog 26 #[.pointer (some ⟨w0.heap.size,0,none⟩),.string s] w fun e w'=>e=.returned (.tuple #[])∧Wb w0 w' (T++spT++s)∧a5a w0 w w':=by
 have H1:=Hd (c0q (w:=w) 32 spT rfl (by omega) h (by omega));have HS:=Hd (show(T++spT).size+s.size≤140737488355328 by rw[ByteArray.size_append];have:spT.size=1:=rfl;omega);clear h
 go_enter func26,ntmps26
 go_wp2_with fail
 refine H1.mono ?_;rintro e1 w1 ⟨rfl,h1,k1⟩;have HK:=Hd k1;have H2:=Hd (b2v s h1 HS);clear h1 k1
 go_wp2_with fail
 refine H2.mono ?_;rintro e2 w2 ⟨⟨m,rfl⟩,h2,k2⟩;have HW:=Hd h2;replace HK:=Hd (HK.trans k2);clear h2 k2;go_wp2
 go_end0
 exact⟨rfl,HW,HK⟩
theorem b8g (h:Wb w0 w T)(hl:T.size<140737488355328):
  Calls prog 29 #[.pointer (some ⟨w0.heap.size,0,none⟩)] w fun e w'=>e=.returned (.tuple #[])∧Wb w0 w' (T++lfT)∧a5a w0 w w':=by
 have H1:=Hd (c0q (w:=w) 10 lfT rfl (by omega) h (by omega));clear h
 go_enter func29,ntmps29
 go_wp2_with fail
 refine H1.mono ?_;rintro e1 w1 ⟨rfl,h1,k1⟩;have HK:=Hd k1;have HW:=Hd h1;clear h1 k1;go_wp2
 go_end0
 exact⟨rfl,HW,HK⟩
theorem b4z {A:Option Addr}{n c:Nat}{xs:List Int}(hI:Ints w0 A n xs)(hT:Tabs w0)(h:Wb w0 w T)(hl:T.size+22*n<140737488355328):
  Calls prog 28 #[.pointer (some ⟨w0.heap.size,0,none⟩),.slice A n c] w fun e w'=>e=.returned (.tuple #[])∧∃ T', a5h T' (a1w T xs)∧Wb w0 w' T'∧a5a w0 w w':=by
 have HI:=Hd hI;have HT:=Hd hT;have HL:=Hd hI.len;have hle:=hI.le;have HW:=Hd h;have HS:=Hd hl;clear hI hT h hl
 go_enter func28,ntmps28
 go_wp2_with fail
 go_loopw [8] (fun iv wr=>∃ k:Nat,k≤n∧iv=.int .i64 k∧Wb w0 wr (a1w T (xs.take k))∧a5a w0 w wr) (fun iv _=>n-(intOf iv).toNat)
 case atStart=>exact⟨0,Nat.zero_le _,rfl,HW,a5a.refl _ _⟩
 case round =>
  obtain⟨k,hk,rfl,hw,hkk⟩:=hrel;have hsz:=a3n xs k T (by have:=HL.out;omega);have HWR:=Hd hw;have HKR:=Hd hkk;clear hw hkk;by_cases hlt:k<n
  ·obtain⟨sa,x,rfl,_,hx,hcx,hfx⟩:=(HI.below HWR.out.2).at_ hlt;have HST:=Hd (a8s T hx);have HN:=Hd (a3n xs k T (by have:=HL.out;omega));obtain⟨T1,hT1⟩:∃ T1,a1w T (xs.take k)=T1:=⟨_,rfl⟩;rw[hT1] at hsz HST HWR;have HT1:=Hd hT1;have HX:=Hd hfx;have HL1:=Hd (c4a HWR);have hs9:=HS.out;clear hx hT1 hfx
   go_wp2_with fail
   refine HL1.mono ?_;rintro e1 w1 ⟨rfl,rfl⟩;by_cases hbig:65536<T1.size
   ·have db:decide ((65536:Int)<(T1.size:Int))=true:=decide_eq_true (by omega);have HBG:=Hd hbig;clear hbig hs9;go_wp2;refine bodyPost_ret (results_none rfl _ _ _) rfl ?_;refine⟨rfl,T1,?_,HWR,HKR⟩;rw[←HT1.out];refine .inr ⟨by rw[HT1.out];exact HBG,?_⟩
    conv=>rhs;rw[←List.take_append_drop k xs]
    rw[show a1w T (xs.take k++xs.drop k)=a1w (a1w T (xs.take k)) (xs.drop k) from List.foldl_append,a5s (xs.drop k),ByteArray.size_append];omega
   ·have db:decide ((65536:Int)<(T1.size:Int))=false:=decide_eq_false (by omega);have HC:=Hd (a3z (w:=w1) HX (HT.below HWR.out.2));have hnx:=a3c x;obtain⟨D,hD⟩:∃ D,numT x=D:=⟨_,rfl⟩;rw[hD] at HC hnx HST;clear hD
    go_wp2_with fail
    refine HC.mono ?_;rintro e2 w2 ⟨rfl,hb2⟩;have HW2:=Hd (HWR.below hb2);have HK2:=Hd (HKR.trans (a7c hb2));have HC3:=Hd (a5w D HW2 (by omega));clear hb2
    go_wp2_with fail
    refine HC3.mono ?_;rintro e3 w3 ⟨rfl,h3,k3⟩;have HW3:=Hd h3;have HK3:=Hd (HK2.trans k3);clear h3 k3 hs9;go_wp2;go_roundw
    case rel=>exact⟨k+1,by omega,by go_num,by rw[HST.out];exact HW3,HK3⟩
    case measure=>simp[intOf];omega
  ·have hkn:k=n:=by omega
   subst hkn;have HE:=Hd (show xs.take k=xs from List.take_of_length_le (by have:=HL.out;omega));clear hsz;go_wp2
   go_end0
   exact⟨rfl,a1w T xs,a5h.refl _,by have:=HWR.out;rwa [HE.out] at this,HKR⟩
def Cl (wr:World) (S:World→Prop) (w:World):Prop:=Below wr.heap.size wr w∧S w
section
variable {P : Program} {l : List Oper} {C : World → Prop} {Q : Act → Prop} {o : Oper} {rest : List Oper} {a a' : Act} {w : World} {v : Value}
theorem qR {id:Nat}{R:Exit→Act→World→Prop}(hC:C w.drew)(h:wpQuiet P l.toArray C (fun a'=>∀ w', C w' → R .normal a' w') l a)(hm:P.follows .mixedOrders=true:=by kernel_rfl)
  (hB:Region.lexB .any l.toArray=true:=by kernel_rfl):(Code.region id l.toArray true).wp P R a w:=wp_region_quiet hm hB hC h
theorem qV (h:wpQuiet P l.toArray C Q rest a')(hy:∀ w,C w→(execOp a.eval o).run P w=.ok (.value v) w:=by(intro wq sq;obtain⟨_,sq⟩:=sq;repeat (obtain⟨_,sq⟩:=sq));go_simp;try (first|with_reducible rfl|rw[iN (by omega)]))
  (hw:Region.wanted o (yielded l.toArray a.tmps)=true:=by rfl)(ha:a.put o.dst v=a':=by(try simp only[pA]);rfl):wpQuiet P l.toArray C Q (o::rest) a:=by
 unfold wpQuiet;rw[iP hw];refine⟨v,fun w hc=>?_,by rw[ha];exact h⟩;unfold Oper.quietAt;rw[hy w hc];exact⟨rfl,rfl⟩
theorem qC {f:FuncId}{args:Array Value}(hc:∀ w,C w→Calls P f args w fun e w'=>e=.returned v∧C w')(h:wpQuiet P l.toArray C Q rest a')
  (hy:∀ w,C w→(execOp a.eval o).run P w=.ok (.enter f args) w:=by(intro wq sq;obtain⟨_,sq⟩:=sq;repeat (obtain⟨_,sq⟩:=sq));go_simp;try with_reducible rfl)
  (hw:Region.wanted o (yielded l.toArray a.tmps)=true:=by rfl)(ha:a.put o.dst v=a':=by(try simp only[pA]);rfl):wpQuiet P l.toArray C Q (o::rest) a:=by
 unfold wpQuiet;rw[iP hw];refine⟨v,fun w hC=>?_,by rw[ha];exact h⟩;unfold Oper.quietAt;rw[hy w hC];exact⟨rfl,hc w hC⟩
end
end Go.Proofs.YtajhdeddgdhccaaGreatDoor
