import Derived.Test.YtdcmanhgekjhgaaDoorPao
import Derived.Test.YtdcmanhgekjhgaaDoorPap
set_option maxRecDepth 100000
set_option maxHeartbeats 12800000
namespace Go.Proofs.YtdcmanhgekjhgaaDoor
open Go.RowKit Go.Proofs.Tryd
variable {S nm:List Int} {T a b s:ByteArray} {n:Int} {w w' w0:World}
def a2o (T T0:ByteArray):Prop:=T=T0∨(65536<T.size∧T.size≤T0.size)
theorem a2o.refl (T:ByteArray):a2o T T:=.inl rfl
theorem a2o.trans {c:ByteArray}(h:a2o a b)(g:a2o b c):a2o a c:=by
 rcases h with rfl|⟨h1,h2⟩
 ·exact g
 ·rcases g with rfl|⟨g1,g2⟩
  ·exact .inr ⟨h1,h2⟩
  ·exact .inr ⟨h1,by omega⟩
theorem a2o.add (h:a2o a b)(s:ByteArray):a2o (a++s) (b++s):=by
 rcases h with rfl|⟨h1,h2⟩
 ·exact .refl _
 ·exact .inr ⟨by rw[ByteArray.size_append];omega,by rw[ByteArray.size_append,ByteArray.size_append];omega⟩
theorem a2o.le (h:a2o a b):a.size≤b.size:=by
 rcases h with rfl|⟨_,h2⟩
 ·exact Nat.le_refl _
 ·exact h2
theorem a3b:∀(l:List Int) (o:ByteArray),a1q o l=o++a1q ⟨#[]⟩ l
 | [],o=>(ByteArray.append_empty).symm
 | x::l,o=>by
  have e1:a1q o (x::l)=a1q (o++spT++numT x) l:=rfl;have e2:a1q ⟨#[]⟩ (x::l)=a1q (⟨#[]⟩++spT++numT x) l:=rfl;rw[e1,e2,a3b l,a3b l (⟨#[]⟩++spT++numT x)];have e3:(⟨#[]⟩:ByteArray)++spT=spT:=ByteArray.empty_append;rw[e3];simp only[ByteArray.append_assoc]
theorem a2o.nums (h:a2o a b)(l:List Int):a2o (a1q a l) (a1q b l):=by
 rw[a3b l a,a3b l b];exact h.add _
theorem c4k (T:ByteArray)(l:List Int):a1q (T++spT++⟨#[40]⟩) l++spT++⟨#[41]⟩=T++a4i l:=by
 rw[a4i,a3b l (T++spT++⟨#[40]⟩),a3b l c1v];have e1:spT++⟨#[40]⟩=c1v:=rfl;have e2:spT++⟨#[41]⟩=c7p:=rfl;rw[←e1,←e2];simp only[ByteArray.append_assoc]
def orT (s:ByteArray):ByteArray:=if s=⟨#[]⟩ then a2g else s
theorem b7y (r:Int):0<(Utf8.encode r).size:=by
 have h:1≤(Lib.encodeRune r).length:=by have:=(Lib.encodeRuneZ_length r).1;simpa [Lib.encodeRune] using this
 have e:(Utf8.encode r).size=(Lib.encodeRune r).length:=by rw[←b2f r,Array.length_toList];rfl
 omega
theorem c2n (nm:List Int)(x:Int):0<(a4k nm x).size:=by
 rw[a4k];split
 ·exact b7y _
 ·exact(by decide:0<(⟨#[46]⟩:ByteArray).size)
theorem b3l (nm:List Int):∀(l:List Int) (o:ByteArray),0<o.size→0<(l.foldl (fun o x=>o++a4k nm x) o).size
 | [],o,h=>h
 | x::l,o,h=>b3l nm l _ (by rw[ByteArray.size_append];omega)
theorem b4q {l:List Int}(h:l≠[]):a2e nm l≠⟨#[]⟩:=by
 cases l with
 | nil=>exact absurd rfl h
 | cons x l =>
  have:=b3l nm l (ByteArray.empty++a4k nm x) (by rw[ByteArray.size_append];have:=c2n nm x;omega);intro e;have e2:a2e nm (x::l)=l.foldl (fun o x=>o++a4k nm x) (ByteArray.empty++a4k nm x):=rfl;rw[←e2,e] at this;exact absurd this (by decide)
theorem c4z (nm:List Int)(t:ByteArray)(rank:Int):orT (a2e nm (a2b nm (a0a t) rank).1)=a2r nm t rank:=by
 unfold a2r orT;by_cases h:16<(a0a t).length
 ·rw[a3z h];rfl
 ·cases g:a1k nm [] (a0a t) with
  | none=>rw[a6m (by omega) g];rfl
  | some out =>
   by_cases he:out=[]
   ·subst he;rw[a2z (by omega) g];rfl
   ·by_cases hr:(out.length:Int)=rank
    ·rw[a6n (by omega) g he hr,iN (b4q he)];rfl
    ·rw[a5d (by omega) g he hr];rfl
def TabO (w:World):Prop:=w.var? prog "parquetry/wire.ops" = some (opN.map Value.string).toArray
theorem TabO.below (h:TabO w)(hb:Below w.heap.size w w'):TabO w':=Joins.var_stays (g:=1) (by kernel_rfl) h hb (Nat.le_refl _)
theorem TabO.cell (h:TabO w){k:Nat}{v:Value}(hk:(opN.map Value.string)[k]?=some v):w.cell? ⟨1,k,none⟩=some v:=by
 have:=World.var?_cell (P:=prog) (show prog.globalNamed "parquetry/wire.ops" = some 1 by kernel_rfl) h k;rw[this];simpa using hk
def Tabs (w:World):Prop:=TabP w∧TabO w
theorem Tabs.below (h:Tabs w)(hb:Below w.heap.size w w'):Tabs w':=⟨h.1.below hb,h.2.below hb⟩
def Wb (w0 w:World) (T:ByteArray):Prop:=BldT w0.heap.size T w∧Below w0.heap.size w0 w
def a2k (w0 w w' : World):Prop:=Lib.OthersKept 5 (some w0.heap.size) w w'
theorem Wb.le (h:Wb w0 w T):w0.heap.size≤w.heap.size:=h.2.size
theorem c0c {b:Nat}{l:List UInt8}(h:Bld b l w)(hb:Below w.heap.size w w'):Bld b l w':=by
 have key:∀ p,Lib.BuilderAtF 57 5 b b p (Lib.byteCells l) w→Lib.BuilderAtF 57 5 b b p (Lib.byteCells l) w':=by
  rintro p ⟨h0,v,hk,⟨h1,h2⟩,h3⟩;refine⟨h0,v,(hb.block b (a1c hk)).trans hk,⟨h1,?_⟩,h3⟩;rcases h2 with h2|⟨g,cap,cur,fz,e1,e2,e3,e4⟩
  ·exact .inl h2
  ·exact .inr ⟨g,cap,cur,fz,e1,e2,(hb.block g (a1c e3)).trans e3,e4⟩
 rcases h with h|h
 ·exact .inl (key _ h)
 ·exact .inr (key _ h)
theorem Wb.below (h:Wb w0 w T)(hb:Below w.heap.size w w'):Wb w0 w' T:=⟨c0c h.1 hb,a4o h.2 hb⟩
theorem a4g (hb:Below w.heap.size w w'):a2k w0 w w':=fun k _ hk _ _=>(hb.block k (a1c hk)).trans hk
theorem a2k.trans {a b c:World}(h:a2k w0 a b)(g:a2k w0 b c):a2k w0 a c:=Lib.OthersKept.trans h g
theorem a2k.refl (w0 w:World):a2k w0 w w:=Lib.OthersKept.refl _ _ _
theorem a2k.box {g:Nat}{c:Array Value}{t:TypeId}{fz:Nat × Nat}(h:a2k w0 w w')(hk:w.heap[g]?=some (.cells c t fz))(hg:g≠w0.heap.size)(ht:t≠5):w'.heap[g]?=some (.cells c t fz) :=
 h g _ hk (fun e=>hg (Option.some.inj e)) (fun c' fz' e=>by injection e with _ e2 _;exact ht e2)
theorem Wb.fresh (w:World):Wb w (w.alloc (.cells #[.pointer none,.slice none 0 0] 57)) ⟨#[]⟩:=⟨b7w w,(Below.refl _ _).alloc (Nat.le_refl _) _⟩
theorem a8v (s:ByteArray)(h:Wb w0 w T)(hl:T.size+s.size≤140737488355328):
  Calls prog 22 #[.pointer (some ⟨w0.heap.size,0,none⟩),.string s] w fun e w'=>(∃ n:Nat,e=.returned (.tuple #[.int .i64 n,.nilIface]))∧Wb w0 w' (T++s)∧a2k w0 w w':=by
 refine(b7v w0.heap.size T s w h.1 hl h.le).mono ?_;rintro e w' ⟨h1,h2,h3,h4⟩;exact⟨h1,⟨h2,h.2.trans h3⟩,h4⟩
theorem b4x (c:Int)(u:ByteArray)(hu:u.data.toList=[c.toNat.toUInt8])(hc:0≤c∧c<256)(h:Wb w0 w T)(hl:T.size+1≤140737488355328):
  Calls prog 44 #[.pointer (some ⟨w0.heap.size,0,none⟩),.int .u8 c] w fun e w'=>e=.returned .nilIface∧Wb w0 w' (T++u)∧a2k w0 w w':=by
 refine(b5c w0.heap.size T c u hu hc w h.1 hl h.le).mono ?_;rintro e w' ⟨h1,h2,h3,h4⟩;exact⟨h1,⟨h2,h.2.trans h3⟩,h4⟩
theorem b7r (h:Wb w0 w T):
  Calls prog 29 #[.pointer (some ⟨w0.heap.size,0,none⟩)] w fun e w'=>e=.returned (.int .i64 T.size)∧w'=w:=b7u _ _ _ h.1
theorem b6p (h:Wb w0 w T):
  Calls prog 30 #[.pointer (some ⟨w0.heap.size,0,none⟩)] w fun e w'=>e=.returned (.string T)∧Below w0.heap.size w0 w':=by
 refine(b5d _ _ _ h.1 h.le).mono ?_;rintro e w' ⟨h1,h2⟩;exact⟨h1,h.2.trans h2⟩
theorem a2f (hn:Fits n)(hT:Tabs w):
  Calls prog 8 #[.int .i64 n] w fun e w'=>e=.returned (.string (numT n))∧Below w.heap.size w w':=by
 have C:=b8b hn hT.1
 go_enter func8,ntmps8
 go_wp2_with fail
 refine C.mono ?_;rintro e1 w1 ⟨rfl,hb⟩;have HB:=Hd hb;clear C hb;go_wp2;go_ret;exact⟨rfl,HB⟩
theorem b4y (w:World){op:Int}(hop:Fits op)(hT:Tabs w):
  Calls prog 45 #[.int .i64 op] w fun e w'=>e=.returned (.string (a3f op))∧w'=w:=by
 have HT:=Hd hT;clear hT
 go_enter func45,ntmps45
 by_cases h1:op<1
 ·have d1:decide (op<1)=true:=decide_eq_true h1;have HQ:=Hd (show a3f op=⟨#[]⟩ by rw[a3f,iP (.inl h1)]);go_wp2;go_ret;exact⟨by rw[HQ.out];rfl,rfl⟩
 have d1:decide (op<1)=false:=decide_eq_false h1;by_cases h2:20<op
 ·have d2:decide (20<op)=true:=decide_eq_true h2;have HQ:=Hd (show a3f op=⟨#[]⟩ by rw[a3f,iP (.inr h2)]);go_wp2;go_ret;exact⟨by rw[HQ.out];rfl,rfl⟩
 have d2:decide (20<op)=false:=decide_eq_false h2;obtain⟨k,rfl⟩:=eZ (show 0≤op by omega);have hk1:1≤k:=by omega
 have hk2:k≤20:=by omega
 have d3:decide (k<1)=false:=decide_eq_false (by omega);have d4:decide (20<k)=false:=decide_eq_false (by omega);clear h1 h2;have c1:=HT.out.2.cell (b7e hk1 hk2);have d5:decide (21≤k)=false:=decide_eq_false (by omega);have hk3:k<21:=by omega
 go_wp2;go_ret;exact⟨rfl,rfl⟩
theorem c3h (w:World)(s:ByteArray):Calls prog 24 #[.string s] w fun e w'=>e=.returned (.string (orT s))∧w'=w:=by
 go_enter func24,ntmps24
 by_cases hne:s=⟨#[]⟩
 ·subst hne;go_wp2;go_ret;exact⟨rfl,rfl⟩
 ·have hem0:s.toList.isEmpty=false:=by
   cases he:s.toList.isEmpty with
   | false=>rfl
   | true =>
    exfalso;apply hne
    have:=List.isEmpty_iff.1 he;apply ByteArray.ext;rw[ByteArray.toList_eq] at this;exact Array.toList_inj.1 this
  have HQ:=Hd (show orT s=s by rw[orT,iN hne]);clear hne;go_wp2;go_ret;exact⟨by rw[HQ.out];rfl,rfl⟩
theorem a3d (s:ByteArray)(h:Wb w0 w T)(hl:T.size+s.size<140737488355328):
  Calls prog 23 #[.pointer (some ⟨w0.heap.size,0,none⟩),.string s] w fun e w'=>e=.returned (.tuple #[])∧Wb w0 w' (T++spT++s)∧a2k w0 w w':=by
 have H1:=Hd (b4x (w:=w) 32 spT rfl (by omega) h (by omega));have HS:=Hd (show(T++spT).size+s.size≤140737488355328 by rw[ByteArray.size_append];have:spT.size=1:=rfl;omega);clear h
 go_enter func23,ntmps23
 go_wp2_with fail
 refine H1.mono ?_;rintro e1 w1 ⟨rfl,h1,k1⟩;have HK:=Hd k1;have H2:=Hd (a8v s h1 HS);clear h1 k1
 go_wp2_with fail
 refine H2.mono ?_;rintro e2 w2 ⟨⟨m,rfl⟩,h2,k2⟩;have HW:=Hd h2;replace HK:=Hd (HK.trans k2);clear h2 k2;go_wp2
 go_end0
 exact⟨rfl,HW,HK⟩
theorem b2v (h:Wb w0 w T)(hl:T.size<140737488355328):
  Calls prog 26 #[.pointer (some ⟨w0.heap.size,0,none⟩)] w fun e w'=>e=.returned (.tuple #[])∧Wb w0 w' (T++lfT)∧a2k w0 w w':=by
 have H1:=Hd (b4x (w:=w) 10 lfT rfl (by omega) h (by omega));clear h
 go_enter func26,ntmps26
 go_wp2_with fail
 refine H1.mono ?_;rintro e1 w1 ⟨rfl,h1,k1⟩;have HK:=Hd k1;have HW:=Hd h1;clear h1 k1;go_wp2
 go_end0
 exact⟨rfl,HW,HK⟩
theorem b0v {A:Option Addr}{n c:Nat}{xs:List Int}(hI:Ints w0 A n xs)(hT:Tabs w0)(h:Wb w0 w T)(hl:T.size+22*n<140737488355328):
  Calls prog 25 #[.pointer (some ⟨w0.heap.size,0,none⟩),.slice A n c] w fun e w'=>e=.returned (.tuple #[])∧∃ T', a2o T' (a1q T xs)∧Wb w0 w' T'∧a2k w0 w w':=by
 have HI:=Hd hI;have HT:=Hd hT;have HL:=Hd hI.len;have hle:=hI.le;have HW:=Hd h;have HS:=Hd hl;clear hI hT h hl
 go_enter func25,ntmps25
 go_wp2_with fail
 go_loopw [8] (fun iv wr=>∃ k:Nat,k≤n∧iv=.int .i64 k∧Wb w0 wr (a1q T (xs.take k))∧a2k w0 w wr) (fun iv _=>n-(intOf iv).toNat)
 case atStart=>exact⟨0,Nat.zero_le _,rfl,HW,a2k.refl _ _⟩
 case round =>
  obtain⟨k,hk,rfl,hw,hkk⟩:=hrel;have hsz:=a5l xs k T (by have:=HL.out;omega);have HWR:=Hd hw;have HKR:=Hd hkk;clear hw hkk;by_cases hlt:k<n
  ·obtain⟨sa,x,rfl,_,hx,hcx,hfx⟩:=(HI.below HWR.out.2).at_ hlt;have HST:=Hd (b8y T hx);have HN:=Hd (a5l xs k T (by have:=HL.out;omega));obtain⟨T1,hT1⟩:∃ T1,a1q T (xs.take k)=T1:=⟨_,rfl⟩;rw[hT1] at hsz HST HWR;have HT1:=Hd hT1;have HX:=Hd hfx;have HL1:=Hd (b7r HWR);have hs9:=HS.out;clear hx hT1 hfx
   go_wp2_with fail
   refine HL1.mono ?_;rintro e1 w1 ⟨rfl,rfl⟩;by_cases hbig:65536<T1.size
   ·have db:decide ((65536:Int)<(T1.size:Int))=true:=decide_eq_true (by omega);have HBG:=Hd hbig;clear hbig hs9;go_wp2;refine bodyPost_ret (results_none rfl _ _ _) rfl ?_;refine⟨rfl,T1,?_,HWR,HKR⟩;rw[←HT1.out];refine .inr ⟨by rw[HT1.out];exact HBG,?_⟩
    conv=>rhs;rw[←List.take_append_drop k xs]
    rw[show a1q T (xs.take k++xs.drop k)=a1q (a1q T (xs.take k)) (xs.drop k) from List.foldl_append,a3b (xs.drop k),ByteArray.size_append];omega
   ·have db:decide ((65536:Int)<(T1.size:Int))=false:=decide_eq_false (by omega);have HC:=Hd (a2f (w:=w1) HX (HT.below HWR.out.2));have hnx:=a3a x;obtain⟨D,hD⟩:∃ D,numT x=D:=⟨_,rfl⟩;rw[hD] at HC hnx HST;clear hD
    go_wp2_with fail
    refine HC.mono ?_;rintro e2 w2 ⟨rfl,hb2⟩;have HW2:=Hd (HWR.below hb2);have HK2:=Hd (HKR.trans (a4g hb2));have HC3:=Hd (a3d D HW2 (by omega));clear hb2
    go_wp2_with fail
    refine HC3.mono ?_;rintro e3 w3 ⟨rfl,h3,k3⟩;have HW3:=Hd h3;have HK3:=Hd (HK2.trans k3);clear h3 k3 hs9;go_wp2;go_roundw
    case rel=>exact⟨k+1,by omega,by go_num,by rw[HST.out];exact HW3,HK3⟩
    case measure=>simp[intOf];omega
  ·have hkn:k=n:=by omega
   subst hkn;have HE:=Hd (show xs.take k=xs from List.take_of_length_le (by have:=HL.out;omega));clear hsz;go_wp2
   go_end0
   exact⟨rfl,a1q T xs,a2o.refl _,by have:=HWR.out;rwa [HE.out] at this,HKR⟩
structure a6z (nm:List Int):Prop where
 good:∀ r∈nm,¬ badR r∧VR r
 at_:∀(i:Nat) (r:Int),nm[i]?=some r→a2p nm r=(i:Int)
theorem c4b (h:a4v (a0a s) n=true):a6z (a0a s)∧((a0a s).length:Int)=n:=by
 have hR:b1g (a0a s) n:=by
  by_cases hR:b1g (a0a s) n
  ·exact hR
  ·rw[a4b hR] at h;cases h
 obtain⟨_,_,h3,h4⟩:=hR
 exact⟨⟨fun r hr=>by
  obtain⟨i,hi,rfl⟩:=List.getElem_of_mem hr
  exact⟨((h4 i) _ (List.getElem?_eq_getElem hi)).1,b2p s _ hr⟩,fun i r hr=>((h4 i) r hr).2⟩,h3⟩
def svW (nm:List Int) (x:Int):Int:=if 0≤x∧x<nm.length then nm.getD x.toNat 0 else 46
theorem c2o (nm:List Int)(x:Int):a4k nm x=Utf8.encode (svW nm x):=by
 unfold a4k svW
 split <;> rfl
theorem b4r (nm S:List Int):a2e nm S=runesBytes (S.map (svW nm)):=by
 have:∀(S:List Int) (o:ByteArray),S.foldl (fun o x=>o++a4k nm x) o=(S.map (svW nm)).foldl (fun r n=>r++Utf8.encode n) o:=by
  intro S
  induction S with
  | nil=>intro o;rfl
  | cons x S ih=>intro o;rw[List.foldl_cons,List.map_cons,List.foldl_cons,c2o,ih]
 exact this S _
theorem c2v (h:a6z nm)(x:Int):VR (svW nm x)∧33≤svW nm x∧svW nm x≠45∧svW nm x≠65533:=by
 unfold svW
 split
 ·rename_i hx
  have hm:nm.getD x.toNat 0∈nm:=by
   rw[gD,List.getElem?_eq_getElem (by omega)];exact List.getElem_mem _
  obtain⟨h1,h2⟩:=h.good _ hm;unfold badR at h1;exact⟨h2,by omega,by omega,by omega⟩
 ·exact⟨⟨by omega,.inl (by omega)⟩,by omega,by omega,by omega⟩
inductive b3b (nm:List Int):List Int→Prop
 | nil:b3b nm []
 | snoc {S:List Int} {m:Int}:b3b nm S→(m = -1∨(0≤m∧m<nm.length∧m∉S))→b3b nm (S++[m])
theorem b1c {o p:List Int}{r:Int}(ho:b3b nm o)(h:a1e nm o r=some p):b3b nm p:=by
 unfold a1e at h
 split at h
 ·injection h with h;subst h;exact ho
 ·split at h
  ·injection h with h;subst h;exact .snoc ho (.inl rfl)
  ·split at h
   ·cases h
   ·rename_i h1
    split at h
    ·cases h
    ·rename_i h2;injection h with h;subst h
     exact .snoc ho (.inr ⟨by omega,(b2g nm r).2,h2⟩)
theorem a9y {nm:List Int}:∀ {l o p:List Int},b3b nm o→a1k nm o l=some p→b3b nm p
 | [],o,p,ho,h=>by
  have:o=p:=by simpa [a1k] using h
  exact this ▸ ho
 | r::l,o,p,ho,h=>by
  rw[a1k] at h
  cases hs:a1e nm o r with
  | none=>rw[hs] at h;cases h
  | some q =>
   rw[hs] at h;exact a9y (b1c ho hs) h
theorem b4b (nm:List Int):∀(l o m:List Int),a1k nm o (l++m)=(a1k nm o l).bind fun q=>a1k nm q m
 | [],o,m=>rfl
 | r::l,o,m=>by
  rw[List.cons_append,a1k,a1k]
  cases a1e nm o r with
  | none=>rfl
  | some q=>exact b4b nm l q m
theorem c5r (h:a6z nm){m:Int}(hm:m = -1∨(0≤m∧m<nm.length∧m∉S)):a1e nm S (svW nm m)=some (S++[m]):=by
 rcases hm with rfl|⟨h0,h1,h2⟩
 ·rw[show svW nm (-1)=46 from by unfold svW;rw[iN (by omega)]]
  rfl
 ·obtain⟨k,rfl⟩:=eZ h0;have hk:k<nm.length:=by omega
  have e:svW nm k=nm[k]:=by
   unfold svW;rw[iP ⟨h0,h1⟩,Int.toNat_natCast,gD,List.getElem?_eq_getElem hk];rfl
  have hf:=h.at_ k nm[k] (List.getElem?_eq_getElem hk);have hg:=(h.good nm[k] (List.getElem_mem hk)).1;unfold badR at hg;rw[e,a1e,iN (by omega),iN (by omega),hf,iN (by omega),iN h2]
theorem c3o (h:a6z nm)(hs:b3b nm S):a1k nm [] (S.map (svW nm))=some S:=by
 induction hs with
 | nil=>rfl
 | snoc _ hm ih=>rw[List.map_append,b4b,ih,Option.bind_some];show(a1e _ _ _).bind _=_;rw[c5r h hm];rfl
def unD (t:ByteArray):ByteArray:=if t=a2g then⟨#[]⟩ else t
theorem a5e (h:a6z nm){t:ByteArray}{rank:Int}(he:(a2b nm (a0a t) rank).2.2=0):
  a2r nm (unD (a2r nm t rank)) rank=a2r nm t rank∧(a2b nm (a0a (unD (a2r nm t rank))) rank).2.2=0∧a2r nm t rank≠⟨#[]⟩∧∀ c:UInt8,c.toNat<33→Free c (a2r nm t rank):=by
 have hdash:a2r nm ⟨#[]⟩ rank=a2g∧(a2b nm (a0a ⟨#[]⟩) rank).2.2=0:=by
  have e:a2b nm (a0a ⟨#[]⟩) rank=([],false,0):=a2z (by decide) rfl;exact⟨by unfold a2r;rw[e];rfl,by rw[e]⟩
 have hfd:∀ c:UInt8,c.toNat<33→Free c a2g:=fun c hc=>by
  unfold Free;rw[show bl a2g=[45] from rfl,List.mem_singleton];intro e;subst e;revert hc;decide
 by_cases hl:16<(a0a t).length
 ·rw[a3z hl] at he;exact absurd he (by decide)
 cases g:a1k nm [] (a0a t) with
 | none=>rw[a6m (by omega) g] at he;exact absurd he (by decide)
 | some S =>
  by_cases hS:S=[]
  ·subst hS;have e:a2r nm t rank=a2g:=by unfold a2r;rw[a2z (by omega) g];rfl
   rw[e,show unD a2g=⟨#[]⟩ from iP rfl];exact⟨hdash.1,hdash.2,by decide,hfd⟩
  by_cases hr:(S.length:Int)=rank
  ·have e:a2r nm t rank=a2e nm S:=by unfold a2r;rw[a6n (by omega) g hS hr];rfl
   have hsp:=a9y .nil g;have hsl:S.length≤16:=by have:=a9x _ _ _ g;simp only[List.length_nil] at this;omega
   have hru:a0a (a2e nm S)=S.map (svW nm):=by
    rw[b4r];exact b4i _ (fun r hr=>by obtain⟨x,_,rfl⟩:=List.mem_map.1 hr;exact(c2v h x).1)
   have hnd:a2e nm S≠a2g:=fun e9=>by
    rw[e9] at hru;have h9:a0a a2g=[45]:=by kernel_rfl
    rw[h9] at hru
    cases S with
    | nil=>exact hS rfl
    | cons x S =>
     rw[List.map_cons] at hru;injection hru with h8 _
     exact(c2v h x).2.2.1 h8.symm
   rw[e,show unD (a2e nm S)=a2e nm S from iN hnd]
   have hR:a2b nm (a0a (a2e nm S)) rank=(S,true,0):=by
    rw[hru];exact a6n (by rw[List.length_map];exact hsl) (c3o h hsp) hS hr
   refine⟨by unfold a2r;rw[hR];rfl,by rw[hR],b4q hS,fun c hc=>?_⟩;rw[b4r];exact a7e hc (fun r hr=>by obtain⟨x,_,rfl⟩:=List.mem_map.1 hr;exact(c2v h x).2.1)
  ·rw[a5d (by omega) g hS hr] at he;exact absurd he (by decide)
theorem b8s (h:a6z (a0a s)){c:UInt8}(hc:c.toNat<33):Free c s:=by
 have e:runesBytes (a0a s)=s:=b5e (fun hm=>by have:=(h.good _ hm).1;unfold badR at this;omega);rw[←e];exact a7e hc (fun r hr=>by have:=(h.good r hr).1;unfold badR at this;omega)
theorem b8r (h:a6z (a0a s)):s≠a2g:=fun e=>by
 rw[e] at h;have h9:a0a a2g=[45]:=by kernel_rfl
 rw[h9] at h;have:=(h.good 45 (by simp)).1;unfold badR at this;omega
end Go.Proofs.YtdcmanhgekjhgaaDoor
