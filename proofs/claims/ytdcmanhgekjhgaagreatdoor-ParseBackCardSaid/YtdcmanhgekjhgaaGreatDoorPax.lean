import Derived.Lib.AppendIntMem
import Derived.Lib.MapLaws
import Derived.Lib.QuoteLoop
import Derived.Lib.SmallJoins
import Derived.Shelf.Strconv.Itoa4
import Derived.Test.YtdcmanhgekjhgaaGreatDoorPaw
set_option maxRecDepth 100000
set_option maxHeartbeats 12800000
namespace Go.Proofs.YtdcmanhgekjhgaaGreatDoor
open Go.RowKit Go.Proofs.Tryz
variable {B K base k n pos:Nat} {e:TypeId} {r:Int} {s:ByteArray} {v:Value} {w w':World} {xs:List Int}
def RIt (w:World) (K:Nat) (s:ByteArray) (pos k:Nat):Prop :=
 w.heap[K]?=some (.stringIter s pos)∧a1f s s.size pos=(a0a s).drop k∧k≤pos
theorem a6e (w:World)(s:ByteArray):RIt (w.iter s 0) w.heap.size s 0 0:=⟨World.iter_heap w s 0,rfl,Nat.le_refl _⟩
theorem b5y (h:RIt w K s pos k):K < w.heap.size:=by
 rcases Nat.lt_or_ge K w.heap.size with hl|hl
 ·exact hl
 ·have:=h.1;rw[Array.getElem?_eq_none hl] at this;cases this
theorem a1l (h:RIt w K s pos k):w.iterPos K=pos:=b4k h.1
theorem b0l (h:RIt w K s pos k)(hb:Below B w w')(hK:K < B):RIt w' K s pos k :=
 ⟨(hb.block K hK).trans h.1,h.2.1,h.2.2⟩
theorem c6p {row:Option Nat}(h:RIt w K s pos k)(hg:w.grownBy w' row)(hr:row≠some K):RIt w' K s pos k :=
 ⟨(hg.block K (b5y h) (fun e=>hr e.symm)).trans h.1,h.2.1,h.2.2⟩
theorem b6o {w0:World}(h:RIt w K s pos k)(hlt:pos<s.size)(hB:Below B w0 w)(hK:B≤K):
  ∃(w2:World) (r:Int) (d:Nat),(∀ ty,(Instr.next (.pointer (some ⟨K,0,none⟩)) true ty).run prog w=.ok (.tuple #[.bool true,.int .i64 pos,.int .i32 r]) w2) ∧
   RIt w2 K s (pos+d) (k+1)∧1≤d∧(a0a s)[k]?=some r∧c2i r∧Below B w0 w2∧w.grownBy w2 (some K):=by
 have hg:=a9s (w:=w) (s:=s) (k:=K) (pos:=pos+(Utf8.decode s pos).2);have hst:=b0n s hlt;rw[h.2.1] at hst
 have hk:(a0a s)[k]?=some ((Utf8.decode s pos).1:Int):=by
  have:=congrArg (fun l:List Int=>l[0]?) hst;simpa using this
 have hd:(a0a s).drop (k+1)=a1f s s.size (pos+(Utf8.decode s pos).2):=by
  have:=congrArg List.tail hst;simpa using this
 have hw:=a6c s pos hlt;have:=h.2.2;exact⟨_,_,(Utf8.decode s pos).2,fun ty=>b2p (P:=prog) h.1 hlt ty,⟨b2k (b5y h),hd.symm,by omega⟩,hw,hk,c6t s pos,a8a hB (by have:=b5y h;omega) hg hK,hg⟩
theorem c3u (h:RIt w K s pos k)(hlt:¬ pos<s.size):(a0a s).length≤k:=by
 have:=h.2.1;rw[b9k s hlt] at this;have:=congrArg List.length this;rw[List.length_drop,List.length_nil] at this;omega
theorem a7w (h:RIt w K s pos k)(hlt:¬ pos<s.size)(ty:TypeId):
  (Instr.next (.pointer (some ⟨K,0,none⟩)) true ty).run prog w=.ok (.tuple #[.bool false]) w:=b3t h.1 hlt ty
theorem d8e (h:RIt w K s pos k)(hlt:pos<s.size):k<s.size:=by have:=h.2.2;omega
theorem d0r {r:Int}:∀ {l:List Int} {k j:Nat},r∈l.take j→b4h l r k<((k+j:Nat):Int)
 | [],_,j,h=>by simp at h
 | x::l,k,0,h=>by simp at h
 | x::l,k,j+1,h=>by
  rw[b4h]
  split
  ·omega
  ·rename_i hx;rw[List.take_succ_cons] at h;rcases List.mem_cons.1 h with h|h
   ·exact absurd h.symm hx
   ·have:=d0r (k:=k+1) h;omega
theorem e0g {l:List Int}{j:Nat}(h:r∈l.take j):a4w l r<(j:Int):=by
 have:=d0r (k:=0) h;rwa [Nat.zero_add] at this
theorem a2u.apartIter (h:a2u w base e v n xs)(hk:w.heap[k]?=some (.stringIter s pos)):v.ownBlock≠some k:=by
 intro hj;obtain⟨cs,hb⟩:=h.blk hj;rw[hk] at hb
 cases hb
def a6n (n:Nat):Array Value:=(List.replicate n (Value.int .i32 0)).toArray
theorem c0t {t:TypeId}(ht:prog.underlying t=some (.slice e))(hinfo:(prog.info? e).map (fun i=>(i.zero,i.size,i.bytes))=some (some (.int .i32 0),1,4))
  (hn:n≤17592186044000)(w:World):
  (Instr.makeSlice t (.int .i64 0) (.int .i64 n)).run prog w=.ok (.slice (some ⟨w.heap.size,0,none⟩) 0 n) (w.alloc (.cells (a6n n) e)):=by
 obtain⟨i,hi,hz0,hz1,hz2⟩:=info_parts hinfo;have:=run_make (P:=prog) w t e i (.int .i32 0) ht hi hz0 .i64 .i64 0 n (by omega) (by omega) (by rw[hz2];omega) (by omega);rw[this,hz1];simp only[Int.toNat_natCast,Nat.mul_one]
 have hm:madeCells #[Value.int .i32 0] n=a6n n:=by
  apply Array.toList_inj.1;rw[toList_madeCells_one];simp[a6n]
 rw[←hm];rfl
theorem d3m (w:World)(hb:base≤w.heap.size)(e:TypeId)(n:Nat)(hn:n≤17592186044000):a2u (w.alloc (.cells (a6n n) e)) base e (.slice (some ⟨w.heap.size,0,none⟩) 0 n) 0 [] :=
 ⟨⟨rfl,.inr ⟨w.heap.size,n,a6n n,rfl,hb,heap_alloc_new _ _,Nat.zero_le _,by unfold maxLen;omega,by simp[a6n],by simp⟩⟩,by simp,by omega⟩
theorem b3z {x:Int}{m:Nat}(h:x=(m:Int)):x.toNat.toUInt8=UInt8.ofNat m:=by subst h;rfl
theorem c2t (r:Int):(Utf8.encode r).data.toList=Lib.encodeRune r:=by
 unfold Utf8.encode Lib.encodeRune;by_cases hv:Utf8.valid r=true
 ·rw[iP hv];have hv2:(0≤r∧r<55296)∨(57344≤r∧r≤1114111):=by simpa [Utf8.valid] using hv
  obtain⟨n,rfl⟩:=eZ (by omega:0≤r);rw[Int.toNat_natCast];by_cases c0:n<128
  ·rw[iP c0,Lib.encodeRuneZ_one (by omega) (by omega)];simp
  rw[iN c0];by_cases c1:n<2048
  ·rw[iP c1,Lib.encodeRuneZ_two (by omega) (by omega)];simp only[List.map_cons,List.map_nil];rw[b3z (m:=192+n / 64) (by omega),b3z (m:=128+n % 64) (by omega)]
  rw[iN c1];by_cases c2:n<65536
  ·rw[iP c2,Lib.encodeRuneZ_three (by omega)];simp only[List.map_cons,List.map_nil];rw[b3z (m:=224+n / 4096) (by omega),b3z (m:=128+n / 64 % 64) (by omega),b3z (m:=128+n % 64) (by omega)]
  rw[iN c2,Lib.encodeRuneZ_four (by omega) (by omega)];simp only[List.map_cons,List.map_nil];rw[b3z (m:=240+n / 262144) (by omega),b3z (m:=128+n / 4096 % 64) (by omega),b3z (m:=128+n / 64 % 64) (by omega),b3z (m:=128+n % 64) (by omega)]
 ·rw[iN hv]
  have hv2:r<0∨(55296≤r∧r≤57343)∨1114111<r:=by
   have:¬((0≤r∧r<55296)∨(57344≤r∧r≤1114111)):=by simpa [Utf8.valid] using hv
   omega
  rw[Lib.encodeRuneZ_bad hv2];rfl
theorem d5n (t:ByteArray)(r:Int):t.data.toList++Lib.encodeRune r=(t++Utf8.encode r).data.toList:=by
 rw[←c2t];simp[ByteArray.data_append]
theorem e4l (t:ByteArray):(⟨t.data.toList.toArray⟩:ByteArray)=t:=by cases t;simp
theorem c4y (h:OwnS w base e v n xs)(x:Int):
  Calls prog 130 #[v,.int .i64 x] w fun e w'=>e=.returned (.bool (xs.contains x))∧w=w':=by
 by_cases hn:0<n
 ·obtain⟨g,c,rfl,hO⟩:=h.own hn;have hl:=hO.len;refine(Any.slices_Contains_int d1g g 0 n c xs x w (by omega) hO.2.2 ?_).mono ?_
  ·intro j hj;rw[Nat.zero_add];refine hO.cell ?_;rw[gD,List.getElem?_eq_getElem hj];rfl
  ·rintro e w' ⟨rfl,rfl⟩;rw[List.take_of_length_le (by omega)];exact⟨rfl,rfl⟩
 ·obtain rfl:n=0:=by omega
  obtain⟨A,c,rfl,_,hI,_⟩:=h.form;have:xs=[]:=List.eq_nil_of_length_eq_zero h.len;subst this;refine(Any.slices_Contains_int_empty d1g A c x w).mono ?_;rintro e w' ⟨rfl,rfl⟩;exact⟨rfl,rfl⟩
def VR (r:Int):Prop:=0≤r∧(r<55296∨(57344≤r∧r≤1114111))
theorem e0b (r:Nat)(hr:VR r)(t:List UInt8):Lib.decodeL ((Utf8.encode (r:Int)).data.toList++t)=(r,(Utf8.encode (r:Int)).size):=by
 obtain⟨_,hr⟩:=hr;by_cases h0:r<55296
 ·exact d5g r h0 t
 have hv:Utf8.valid (r:Int)=true:=by simp[Utf8.valid];omega
 rw[Lib.decodeL_N];unfold Utf8.encode;simp only[hv,if_true,Int.toNat_natCast];have n1:¬ r<128:=by omega
 have n2:¬ r<2048:=by omega
 by_cases h3:r<65536
 ·simp only[n1,n2,h3,if_true,if_false];simp only[List.cons_append,List.nil_append,List.getD_cons_zero,List.getD_cons_succ,List.length_cons];rw[b5d (224+r / 4096) (by omega),b5d (128+r / 64 % 64) (by omega),b5d (128+r % 64) (by omega),Lib.decodeN,iN (by omega),iN (by omega),iP ⟨by omega,⟨by omega,by omega⟩,by omega,by omega⟩,iP ⟨by omega,by omega⟩];exact Prod.ext (show(224+r / 4096) % 16*4096+(128+r / 64 % 64) % 64*64+(128+r % 64) % 64=r by omega) rfl
 ·simp only[n1,n2,h3,if_false];simp only[List.cons_append,List.nil_append,List.getD_cons_zero,List.getD_cons_succ,List.length_cons]
  rw[b5d (240+r / 262144) (by omega),b5d (128+r / 4096 % 64) (by omega),b5d (128+r / 64 % 64) (by omega),b5d (128+r % 64) (by omega),Lib.decodeN,iN (by omega),iN (by omega),iN (by omega),
   iP ⟨by omega,⟨by omega,by omega⟩,⟨by omega,by omega⟩,by omega,by omega⟩,iP ⟨by omega,by omega⟩]
  exact Prod.ext (show(240+r / 262144) % 8*262144+(128+r / 4096 % 64) % 64*4096+(128+r / 64 % 64) % 64*64+(128+r % 64) % 64=r by omega) rfl
theorem e0c (r:Nat)(hr:VR r)(p q:ByteArray):Utf8.decode (p++(Utf8.encode (r:Int)++q)) p.size=(r,(Utf8.encode (r:Int)).size):=by
 rw[←Lib.decodeL_drop]
 have:(p++(Utf8.encode (r:Int)++q)).data.toList.drop p.size=(Utf8.encode (r:Int)).data.toList++q.data.toList:=by
  simp only[ByteArray.data_append,Array.toList_append];rw[←toL p,List.drop_left]
 rw[this,e0b r hr]
theorem d8i (l:List Int)(hl:∀ r∈l,VR r):∀(p:ByteArray) (b:Nat),(runesBytes l).size≤b→a1f (p++runesBytes l) b p.size=l:=by
 induction l with
 | nil =>
  intro p b _;rw[show runesBytes []=ByteArray.empty from rfl,ByteArray.append_empty]
  cases b with
  | zero=>rfl
  | succ b=>rw[a1f,iN (by omega)]
 | cons r l ih =>
  intro p b hb;have hv:=hl r (by simp);obtain⟨r,rfl⟩:=eZ hv.1;rw[b0y] at hb ⊢;rw[ByteArray.size_append] at hb;have hp:=d5p (r:Int)
  cases b with
  | zero=>omega
  | succ b =>
   rw[a1f,iP (by rw[ByteArray.size_append,ByteArray.size_append];omega),e0c r hv];have:=ih (fun x hx=>hl x (by simp[hx])) (p++Utf8.encode (r:Int)) b (by omega);rw[ByteArray.size_append,ByteArray.append_assoc] at this;rw[this]
theorem c6u (l:List Int)(hl:∀ r∈l,VR r):a0a (runesBytes l)=l:=by
 have:=d8i l hl ByteArray.empty (runesBytes l).size (Nat.le_refl _);rw[ByteArray.empty_append] at this;exact this
theorem b3u (s:ByteArray):∀(b pos:Nat),∀ r∈a1f s b pos,VR r
 | 0,_,r,h=>by cases h
 | b+1,pos,r,h=>by
  rw[a1f] at h
  split at h
  ·rcases List.mem_cons.1 h with e|e
   ·subst e;have:=Lib.decodeN_valid (s.data.toList.length-pos) (s.data.toList.getD pos 0).toNat (s.data.toList.getD (pos+1) 0).toNat (s.data.toList.getD (pos+2) 0).toNat (s.data.toList.getD (pos+3) 0).toNat (UInt8.toNat_lt _);rw[←Lib.decode_N] at this;exact⟨by omega,by omega⟩
   ·exact b3u s b _ r e
  ·cases h
theorem c3w (s:ByteArray):∀ r∈a0a s,VR r:=b3u s s.size 0
theorem e3r (r:Int):bl (Utf8.encode r)=Lib.encodeRune r:=c2t r
theorem d0l (s:ByteArray):∀(b pos:Nat),s.size≤pos+b→pos≤s.size→(65533:Int)∉a1f s b pos→bl (runesBytes (a1f s b pos))=(bl s).drop pos
 | 0,pos,hb,hp,_=>by
  rw[show a1f s 0 pos=[] from rfl,List.drop_of_length_le (by rw[a3w];omega)];rfl
 | b+1,pos,hb,hp,hn=>by
  rw[a1f] at hn ⊢;by_cases hlt:pos<s.size
  ·rw[iP hlt] at hn ⊢;have hw:=a6c s pos hlt
   have hne:(bl s).drop pos≠[]:=by
    intro e;have:=congrArg List.length e;rw[List.length_drop,a3w,List.length_nil] at this;omega
   have hd:Lib.decodeL ((bl s).drop pos)=Utf8.decode s pos:=Lib.decodeL_drop s pos;have h1:(((Utf8.decode s pos).1:Nat):Int)≠65533:=fun e=>hn (by rw[e];exact List.mem_cons_self)
   have he:=Lib.encode_decode ((bl s).drop pos) hne (fun h=>h1 (by rw[←hd,h.1];rfl));rw[hd] at he
   have hwl:pos+(Utf8.decode s pos).2≤s.size:=by
    have h9:=congrArg List.length he;rw[List.length_take,List.length_drop,a3w] at h9;rw[←hd];have:=Lib.decodeN_width_le ((bl s).drop pos).length (((bl s).drop pos).getD 0 0).toNat (((bl s).drop pos).getD 1 0).toNat (((bl s).drop pos).getD 2 0).toNat (((bl s).drop pos).getD 3 0).toNat (by rw[List.length_drop,a3w];omega);rw[←Lib.decodeL_N,List.length_drop,a3w] at this;omega
   rw[b0y,a6x,e3r,he,d0l s b (pos+(Utf8.decode s pos).2) (by omega) hwl (fun h=>hn (List.mem_cons_of_mem _ h))]
   conv=>rhs;rw[←List.take_append_drop (Utf8.decode s pos).2 ((bl s).drop pos)]
   rw[List.drop_drop]
  ·rw[iN hlt,List.drop_of_length_le (by rw[a3w];omega)];rfl
theorem c8a (h:(65533:Int)∉a0a s):runesBytes (a0a s)=s:=by
 apply d5b;have:=d0l s s.size 0 (by omega) (Nat.zero_le _) h;rw[List.drop_zero] at this;exact this
theorem e0e (h:33≤r){c:UInt8}(hc:c.toNat<33):Free c (Utf8.encode r):=by
 unfold Free;rw[e3r];unfold Lib.encodeRune;intro hm;rw[List.mem_map] at hm;obtain⟨x,hx,rfl⟩:=hm
 have key:∀ x∈Lib.encodeRuneZ r,33≤x∧x<256:=by
  intro x hx;refine⟨?_,(Lib.encodeRuneZ_byte r x hx).2⟩;by_cases h1:r≤127
  ·rw[Lib.encodeRuneZ_one (by omega) h1,List.mem_singleton] at hx;omega
  by_cases h2:r≤2047
  ·rw[Lib.encodeRuneZ_two (by omega) h2] at hx;simp only[List.mem_cons,List.not_mem_nil,or_false] at hx;omega
  by_cases h3:(2048≤r∧r<55296)∨(57343<r∧r≤65535)
  ·rw[Lib.encodeRuneZ_three h3] at hx;simp only[List.mem_cons,List.not_mem_nil,or_false] at hx;omega
  by_cases h4:65536≤r∧r≤1114111
  ·rw[Lib.encodeRuneZ_four h4.1 h4.2] at hx;simp only[List.mem_cons,List.not_mem_nil,or_false] at hx;omega
  ·rw[Lib.encodeRuneZ_bad (by omega)] at hx;simp only[List.mem_cons,List.not_mem_nil,or_false] at hx;omega
 have hk:=key x hx;have:x.toNat.toUInt8.toNat=x.toNat:=by simp[Nat.toUInt8];omega
 omega
theorem b4f {c:UInt8}(hc:c.toNat<33):∀ {l:List Int},(∀ r∈l,33≤r)→Free c (runesBytes l)
 | [],_=>by intro h;cases h
 | r::l,h=>by rw[b0y];exact e0q (e0e (h r (by simp)) hc) (b4f hc (fun x hx=>h x (by simp[hx])))
def b5k:Go.Shelf.Ren:=⟨fun|166=>66|240=>104|276=>129|n=>n,fun|0=>0|3=>3|4=>4|5=>5|9=>9|20=>20|37=>33|70=>110|72=>112|75=>114|80=>101|164=>162|n=>n,fun n=>n⟩
theorem e1m:Go.Proofs.Lays.n166 prog b5k:={
 mixed:=by kernel_rfl
 f166:=func66.trans (congrArg some (by kernel_rfl))
 f240:=func104.trans (congrArg some (by kernel_rfl))
 f276:=func129.trans (congrArg some (by kernel_rfl))
 t0:=underlying0
 a0:=Tryz.isAgg0
 z0:=Tryz.sizeOf0
 v0:=Tryz.zeroValue0
 t3:=underlying3
 a3:=Tryz.isAgg3
 z3:=Tryz.sizeOf3
 v3:=Tryz.zeroValue3
 t4:=underlying4
 a4:=Tryz.isAgg4
 z4:=Tryz.sizeOf4
 v4:=Tryz.zeroValue4
 t9:=underlying9
 a9:=Tryz.isAgg9
 z9:=Tryz.sizeOf9
 v9:=Tryz.zeroValue9
 t20:=underlying20
 a20:=Tryz.isAgg20
 z20:=Tryz.sizeOf20
 v20:=Tryz.zeroValue20
 t37:=underlying33
 a37:=Tryz.isAgg33
 z37:=Tryz.sizeOf33
 v37:=Tryz.zeroValue33
 t70:=underlying110
 a70:=Tryz.isAgg110
 z70:=Tryz.sizeOf110
 v70:=Tryz.zeroValue110
 t72:=underlying112
 a72:=Tryz.isAgg112
 z72:=Tryz.sizeOf112
 v72:=Tryz.zeroValue112
 t75:=underlying114
 a75:=Tryz.isAgg114
 z75:=Tryz.sizeOf114
 v75:=Tryz.zeroValue114
 t164:=underlying162
 a164:=Tryz.isAgg162
 z164:=Tryz.sizeOf162
 v164:=Tryz.zeroValue162 }
theorem d7b:Builder.Extra prog b5k:={
 sizeBuilder:=by kernel_rfl
 liesBuilder:=by kernel_rfl
 t5:=underlying5
 a5:=Tryz.isAgg5
 z5:=Tryz.sizeOf5
 v5:=Tryz.zeroValue5
 infoByte:=by kernel_rfl
 cellsByte:=by kernel_rfl
 sizeByte:=by kernel_rfl
 neB5:=by decide }
def b5l:Go.Shelf.Ren:=⟨fun|167=>105|240=>104|276=>129|n=>n,fun|0=>0|4=>4|5=>5|9=>9|20=>20|37=>33|70=>110|72=>112|75=>114|80=>101|164=>162|n=>n,fun n=>n⟩
theorem e1n:Go.Proofs.Lays.n167 prog b5l:={
 mixed:=by kernel_rfl
 f167:=func105.trans (congrArg some (by kernel_rfl))
 f240:=func104.trans (congrArg some (by kernel_rfl))
 f276:=func129.trans (congrArg some (by kernel_rfl))
 t0:=underlying0
 a0:=Tryz.isAgg0
 z0:=Tryz.sizeOf0
 v0:=Tryz.zeroValue0
 t4:=underlying4
 a4:=Tryz.isAgg4
 z4:=Tryz.sizeOf4
 v4:=Tryz.zeroValue4
 t5:=underlying5
 a5:=Tryz.isAgg5
 z5:=Tryz.sizeOf5
 v5:=Tryz.zeroValue5
 t9:=underlying9
 a9:=Tryz.isAgg9
 z9:=Tryz.sizeOf9
 v9:=Tryz.zeroValue9
 t20:=underlying20
 a20:=Tryz.isAgg20
 z20:=Tryz.sizeOf20
 v20:=Tryz.zeroValue20
 t37:=underlying33
 a37:=Tryz.isAgg33
 z37:=Tryz.sizeOf33
 v37:=Tryz.zeroValue33
 t70:=underlying110
 a70:=Tryz.isAgg110
 z70:=Tryz.sizeOf110
 v70:=Tryz.zeroValue110
 t72:=underlying112
 a72:=Tryz.isAgg112
 z72:=Tryz.sizeOf112
 v72:=Tryz.zeroValue112
 t75:=underlying114
 a75:=Tryz.isAgg114
 z75:=Tryz.sizeOf114
 v75:=Tryz.zeroValue114
 t164:=underlying162
 a164:=Tryz.isAgg162
 z164:=Tryz.sizeOf162
 v164:=Tryz.zeroValue162 }
theorem d7c:Builder.Extra prog b5l:={
 sizeBuilder:=by kernel_rfl
 liesBuilder:=by kernel_rfl
 t5:=underlying5
 a5:=Tryz.isAgg5
 z5:=Tryz.sizeOf5
 v5:=Tryz.zeroValue5
 infoByte:=by kernel_rfl
 cellsByte:=by kernel_rfl
 sizeByte:=by kernel_rfl
 neB5:=by decide }
def c5w:Go.Shelf.Ren:=⟨fun|170=>73|n=>n,fun|0=>0|3=>3|5=>5|37=>33|70=>110|72=>112|n=>n,fun n=>n⟩
theorem e1q:Go.Proofs.Lays.n170 prog c5w:={
 mixed:=by kernel_rfl
 f170:=func73.trans (congrArg some (by kernel_rfl))
 t0:=underlying0
 a0:=Tryz.isAgg0
 z0:=Tryz.sizeOf0
 v0:=Tryz.zeroValue0
 t3:=underlying3
 a3:=Tryz.isAgg3
 z3:=Tryz.sizeOf3
 v3:=Tryz.zeroValue3
 t37:=underlying33
 a37:=Tryz.isAgg33
 z37:=Tryz.sizeOf33
 v37:=Tryz.zeroValue33
 t70:=underlying110
 a70:=Tryz.isAgg110
 z70:=Tryz.sizeOf110
 v70:=Tryz.zeroValue110
 t72:=underlying112
 a72:=Tryz.isAgg112
 z72:=Tryz.sizeOf112
 v72:=Tryz.zeroValue112 }
def c5x:Go.Shelf.Ren:=⟨fun|129=>155|173=>95|246=>123|283=>134|284=>135|285=>136|286=>137|317=>154|318=>156|319=>157|320=>158|337=>169|338=>170|n=>n,fun|0=>0|2=>2|3=>3|4=>4|5=>5|9=>9|20=>20|37=>33|46=>185|51=>183|53=>168|171=>167|173=>171|212=>182|213=>184|232=>195|233=>196|n=>n,fun|17=>1|18=>2|19=>3|n=>n⟩
theorem e1r:Go.Proofs.LaysM.n173 prog c5x:={
 mixed:=by kernel_rfl
 f129:=func155.trans (congrArg some (by kernel_rfl))
 f173:=func95.trans (congrArg some (by kernel_rfl))
 f246:=func123.trans (congrArg some (by kernel_rfl))
 f283:=func134.trans (congrArg some (by kernel_rfl))
 f284:=func135.trans (congrArg some (by kernel_rfl))
 f285:=func136.trans (congrArg some (by kernel_rfl))
 f286:=func137.trans (congrArg some (by kernel_rfl))
 f317:=func154.trans (congrArg some (by kernel_rfl))
 f318:=func156.trans (congrArg some (by kernel_rfl))
 f319:=func157.trans (congrArg some (by kernel_rfl))
 f320:=func158.trans (congrArg some (by kernel_rfl))
 f337:=func169.trans (congrArg some (by kernel_rfl))
 f338:=func170.trans (congrArg some (by kernel_rfl))
 t0:=underlying0
 a0:=Tryz.isAgg0
 z0:=Tryz.sizeOf0
 v0:=Tryz.zeroValue0
 t2:=underlying2
 a2:=Tryz.isAgg2
 z2:=Tryz.sizeOf2
 v2:=Tryz.zeroValue2
 t3:=underlying3
 a3:=Tryz.isAgg3
 z3:=Tryz.sizeOf3
 v3:=Tryz.zeroValue3
 t4:=underlying4
 a4:=Tryz.isAgg4
 z4:=Tryz.sizeOf4
 v4:=Tryz.zeroValue4
 t5:=underlying5
 a5:=Tryz.isAgg5
 z5:=Tryz.sizeOf5
 v5:=Tryz.zeroValue5
 t9:=underlying9
 a9:=Tryz.isAgg9
 z9:=Tryz.sizeOf9
 v9:=Tryz.zeroValue9
 t20:=underlying20
 a20:=Tryz.isAgg20
 z20:=Tryz.sizeOf20
 v20:=Tryz.zeroValue20
 t37:=underlying33
 a37:=Tryz.isAgg33
 z37:=Tryz.sizeOf33
 v37:=Tryz.zeroValue33
 t46:=underlying185
 a46:=Tryz.isAgg185
 z46:=Tryz.sizeOf185
 v46:=Tryz.zeroValue185
 t51:=underlying183
 a51:=Tryz.isAgg183
 z51:=Tryz.sizeOf183
 v51:=Tryz.zeroValue183
 t53:=underlying168
 a53:=Tryz.isAgg168
 z53:=Tryz.sizeOf168
 v53:=Tryz.zeroValue168
 t171:=underlying167
 a171:=Tryz.isAgg167
 z171:=Tryz.sizeOf167
 v171:=Tryz.zeroValue167
 t173:=underlying171
 a173:=Tryz.isAgg171
 z173:=Tryz.sizeOf171
 v173:=Tryz.zeroValue171
 t212:=underlying182
 a212:=Tryz.isAgg182
 z212:=Tryz.sizeOf182
 v212:=Tryz.zeroValue182
 t213:=underlying184
 a213:=Tryz.isAgg184
 z213:=Tryz.sizeOf184
 t232:=underlying195
 a232:=Tryz.isAgg195
 z232:=Tryz.sizeOf195
 v232:=Tryz.zeroValue195
 t233:=underlying196
 a233:=Tryz.isAgg196
 z233:=Tryz.sizeOf196
 v233:=Tryz.zeroValue196
 g17:=by kernel_rfl
 g18:=by kernel_rfl
 g19:=by kernel_rfl
 i0:=by kernel_rfl
 i2:=by kernel_rfl
 i3:=by kernel_rfl
 i4:=by kernel_rfl
 i5:=by kernel_rfl
 i9:=by kernel_rfl
 i20:=by kernel_rfl
 i37:=by kernel_rfl
 i46:=by kernel_rfl
 i51:=by kernel_rfl
 i53:=by kernel_rfl
 i171:=by kernel_rfl
 i173:=by kernel_rfl
 i212:=by kernel_rfl
 i232:=by kernel_rfl
 i233:=by kernel_rfl
 m17:=by kernel_rfl
 m18:=by kernel_rfl
 m19:=by kernel_rfl }
def BldT (b:Nat) (T:ByteArray) (w:World):Prop:=Bld b T.data.toList w
theorem d2g (b:Nat)(T s:ByteArray)(w:World)(h:BldT b T w)(hl:T.size+s.size≤140737488355328)(hb:b≤w.heap.size):
  Calls prog 66 #[.pointer (some ⟨b,0,none⟩),.string s] w fun e w'=>(∃ n:Nat,e=.returned (.tuple #[.int .i64 n,.nilIface]))∧BldT b (T++s) w'∧Below b w w'∧Lib.OthersKept 5 (some b) w w':=by
 refine(Any.Builder_WriteString_k e1m d7b b b (Lib.byteCells T.data.toList) s w h (by rw[Lib.byteCells_length,Array.length_toList];exact hl) hb).mono ?_;rintro e w' ⟨rfl,h1,h2,h3⟩;refine⟨⟨_,rfl⟩,?_,h2,h3⟩;unfold BldT Bld;rw[ByteArray.data_append,Array.toList_append,Lib.byteCells_append];exact Or.inr h1
theorem c7y (b:Nat)(T:ByteArray)(c:Int)(u:ByteArray)(hu:u.data.toList=[c.toNat.toUInt8])(hc:0≤c∧c<256)(w:World)(h:BldT b T w)(hl:T.size+1≤140737488355328)(hb:b≤w.heap.size):
  Calls prog 105 #[.pointer (some ⟨b,0,none⟩),.int .u8 c] w fun e w'=>e=.returned .nilIface∧BldT b (T++u) w'∧Below b w w'∧Lib.OthersKept 5 (some b) w w':=by
 refine(Any.Builder_WriteByte_k e1n d7c b b (Lib.byteCells T.data.toList) c w h (by rw[Lib.byteCells_length,Array.length_toList];exact hl) hb).mono ?_;rintro e w' ⟨rfl,h1,h2,h3⟩;refine⟨rfl,?_,h2,h3⟩;unfold BldT Bld;rw[ByteArray.data_append,Array.toList_append,Lib.byteCells_append,hu]
 have e1:Lib.byteCells [c.toNat.toUInt8]=[Value.int .u8 c]:=by
  unfold Lib.byteCells;simp only[List.map_cons,List.map_nil]
  congr 2
  simp only[UInt8.toNat_ofNat', Nat.toUInt8];omega
 rw[e1];exact Or.inr h1
theorem d2f (b:Nat)(T:ByteArray)(w:World)(h:BldT b T w):
  Calls prog 73 #[.pointer (some ⟨b,0,none⟩)] w fun e w'=>e=.returned (.int .i64 T.size)∧w'=w:=by
 have:=Any.Builder_Len_f e1q b b (Lib.byteCells T.data.toList) w h;rw[Lib.byteCells_length,Array.length_toList] at this;exact this
theorem c7z (b:Nat)(T:ByteArray)(w:World)(h:BldT b T w)(hb:b≤w.heap.size):
  Calls prog 74 #[.pointer (some ⟨b,0,none⟩)] w fun e w'=>e=.returned (.string T)∧Below b w w':=by
 refine(b2v b T.data.toList w h hb).mono ?_;rintro e w' ⟨rfl,h2⟩;exact⟨rfl,h2⟩
theorem d2h (w:World):BldT w.heap.size ⟨#[]⟩ (w.alloc (.cells #[.pointer none,.slice none 0 0] 112)):=c4x w
theorem c2r:∀(f k:Nat),k≠0→k<10 ^ f→(digs f k).data.toList=Lib.decDigits k
 | 0,k,h0,h=>by simp at h;omega
 | f+1,k,h0,h=>by
  rw[digs,iN h0,ByteArray.data_append,Array.toList_append,Lib.decDigits];by_cases hk:k<10
  ·rw[dif_pos hk];have e:k / 10=0:=Nat.div_eq_of_lt hk;have e2:k % 10=k:=Nat.mod_eq_of_lt hk;rw[e,e2]
   cases f <;> simp[digs,b1]
  ·rw[dif_neg hk,c2r f (k / 10) (by omega) (by rw[Nat.pow_succ] at h;omega)]
   rfl
theorem d7p {n:Int}(hn:Fits n):(⟨(Lib.itoa n).toArray⟩:ByteArray)=numT n:=by
 have h1:=hn.1;have h2:=hn.2;apply ByteArray.ext;apply Array.toList_inj.1
 show Lib.itoa n=_
 unfold numT Lib.itoa;by_cases h0:n=0
 ·subst h0;rw[iN (by omega),iP rfl,Int.toNat_zero,Lib.decDigits,dif_pos (by omega)]
  rfl
 ·rw[iN h0];by_cases hneg:n<0
  ·rw[iP hneg,iP hneg,ByteArray.data_append,Array.toList_append,c2r 20 n.natAbs (by omega) (by omega)]
   rfl
  ·rw[iN hneg,iN hneg,c2r 20 n.natAbs (by omega) (by omega)]
   congr 1
   omega
def TabP (w:World):Prop:=Lib.TabIs prog w "internal/strconv.uint64pow10" .u64 Lib.pow10Tab
theorem TabP.below (h:TabP w)(hb:Below w.heap.size w w'):TabP w':=Joins.tab_stays (g:=1) (by kernel_rfl) h hb (Nat.le_refl _)
theorem d2l {n:Int}(hn:Fits n)(hT:TabP w):
  Calls prog 95 #[.int .i64 n,.int .i64 10] w fun e w'=>e=.returned (.string (numT n))∧Below w.heap.size w w':=by
 refine(Any.strconv_FormatInt_10 e1r n hn.1 hn.2 w hT).mono ?_;rintro e w' ⟨rfl,k,os,rfl⟩;refine⟨by rw[d7p hn],?_⟩;exact Lib.below_grow _ w (Nat.le_refl _) k os
end Go.Proofs.YtdcmanhgekjhgaaGreatDoor
