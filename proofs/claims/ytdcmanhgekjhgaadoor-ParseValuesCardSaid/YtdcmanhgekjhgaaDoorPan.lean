import Derived.Lib.MapLaws
import Derived.Lib.QuoteLoop
import Derived.Test.YtdcmanhgekjhgaaDoorPam
set_option maxRecDepth 100000
set_option maxHeartbeats 12800000
namespace Go.Proofs.YtdcmanhgekjhgaaDoor
open Go.RowKit Go.Proofs.Tryd
variable {B K base k n pos:Nat} {e:TypeId} {r:Int} {s:ByteArray} {v:Value} {w w':World} {xs:List Int}
def RIt (w:World) (K:Nat) (s:ByteArray) (pos k:Nat):Prop :=
 w.heap[K]?=some (.stringIter s pos)∧a0r s s.size pos=(a0a s).drop k∧k≤pos
theorem a2i (w:World)(s:ByteArray):RIt (w.iter s 0) w.heap.size s 0 0:=⟨World.iter_heap w s 0,rfl,Nat.le_refl _⟩
theorem a8e (h:RIt w K s pos k):K < w.heap.size:=by
 rcases Nat.lt_or_ge K w.heap.size with hl|hl
 ·exact hl
 ·have:=h.1;rw[Array.getElem?_eq_none hl] at this;cases this
theorem a0o (h:RIt w K s pos k):w.iterPos K=pos:=b8k h.1
theorem a4w (h:RIt w K s pos k)(hb:Below B w w')(hK:K < B):RIt w' K s pos k :=
 ⟨(hb.block K hK).trans h.1,h.2.1,h.2.2⟩
theorem b4g {row:Option Nat}(h:RIt w K s pos k)(hg:w.grownBy w' row)(hr:row≠some K):RIt w' K s pos k :=
 ⟨(hg.block K (a8e h) (fun e=>hr e.symm)).trans h.1,h.2.1,h.2.2⟩
theorem a8s {w0:World}(h:RIt w K s pos k)(hlt:pos<s.size)(hB:Below B w0 w)(hK:B≤K):
  ∃(w2:World) (r:Int) (d:Nat),(∀ ty,(Instr.next (.pointer (some ⟨K,0,none⟩)) true ty).run prog w=.ok (.tuple #[.bool true,.int .i64 pos,.int .i32 r]) w2) ∧
   RIt w2 K s (pos+d) (k+1)∧1≤d∧(a0a s)[k]?=some r∧b1z r∧Below B w0 w2∧w.grownBy w2 (some K):=by
 have hg:=a7w (w:=w) (s:=s) (k:=K) (pos:=pos+(Utf8.decode s pos).2);have hst:=a8f s hlt;rw[h.2.1] at hst
 have hk:(a0a s)[k]?=some ((Utf8.decode s pos).1:Int):=by
  have:=congrArg (fun l:List Int=>l[0]?) hst;simpa using this
 have hd:(a0a s).drop (k+1)=a0r s s.size (pos+(Utf8.decode s pos).2):=by
  have:=congrArg List.tail hst;simpa using this
 have hw:=a3i s pos hlt;have:=h.2.2;exact⟨_,_,(Utf8.decode s pos).2,fun ty=>b0o (P:=prog) h.1 hlt ty,⟨a9k (a8e h),hd.symm,by omega⟩,hw,hk,c2i s pos,a5k hB (by have:=a8e h;omega) hg hK,hg⟩
theorem b2m (h:RIt w K s pos k)(hlt:¬ pos<s.size):(a0a s).length≤k:=by
 have:=h.2.1;rw[b6h s hlt] at this;have:=congrArg List.length this;rw[List.length_drop,List.length_nil] at this;omega
theorem a3l (h:RIt w K s pos k)(hlt:¬ pos<s.size)(ty:TypeId):
  (Instr.next (.pointer (some ⟨K,0,none⟩)) true ty).run prog w=.ok (.tuple #[.bool false]) w:=b2n h.1 hlt ty
theorem c2g (h:RIt w K s pos k)(hlt:pos<s.size):k<s.size:=by have:=h.2.2;omega
theorem b6y {r:Int}:∀ {l:List Int} {k j:Nat},r∈l.take j→a7g l r k<((k+j:Nat):Int)
 | [],_,j,h=>by simp at h
 | x::l,k,0,h=>by simp at h
 | x::l,k,j+1,h=>by
  rw[a7g]
  split
  ·omega
  ·rename_i hx;rw[List.take_succ_cons] at h;rcases List.mem_cons.1 h with h|h
   ·exact absurd h.symm hx
   ·have:=b6y (k:=k+1) h;omega
theorem c3w {l:List Int}{j:Nat}(h:r∈l.take j):a2p l r<(j:Int):=by
 have:=b6y (k:=0) h;rwa [Nat.zero_add] at this
theorem a1d.apartIter (h:a1d w base e v n xs)(hk:w.heap[k]?=some (.stringIter s pos)):v.ownBlock≠some k:=by
 intro hj;obtain⟨cs,hb⟩:=h.blk hj;rw[hk] at hb
 cases hb
def a2s (n:Nat):Array Value:=(List.replicate n (Value.int .i32 0)).toArray
theorem b1d {t:TypeId}(ht:prog.underlying t=some (.slice e))(hinfo:(prog.info? e).map (fun i=>(i.zero,i.size,i.bytes))=some (some (.int .i32 0),1,4))
  (hn:n≤17592186044000)(w:World):
  (Instr.makeSlice t (.int .i64 0) (.int .i64 n)).run prog w=.ok (.slice (some ⟨w.heap.size,0,none⟩) 0 n) (w.alloc (.cells (a2s n) e)):=by
 obtain⟨i,hi,hz0,hz1,hz2⟩:=info_parts hinfo;have:=run_make (P:=prog) w t e i (.int .i32 0) ht hi hz0 .i64 .i64 0 n (by omega) (by omega) (by rw[hz2];omega) (by omega);rw[this,hz1];simp only[Int.toNat_natCast,Nat.mul_one]
 have hm:madeCells #[Value.int .i32 0] n=a2s n:=by
  apply Array.toList_inj.1;rw[toList_madeCells_one];simp[a2s]
 rw[←hm];rfl
theorem b8z (w:World)(hb:base≤w.heap.size)(e:TypeId)(n:Nat)(hn:n≤17592186044000):a1d (w.alloc (.cells (a2s n) e)) base e (.slice (some ⟨w.heap.size,0,none⟩) 0 n) 0 [] :=
 ⟨⟨rfl,.inr ⟨w.heap.size,n,a2s n,rfl,hb,heap_alloc_new _ _,Nat.zero_le _,by unfold maxLen;omega,by simp[a2s],by simp⟩⟩,by simp,by omega⟩
theorem a6w {x:Int}{m:Nat}(h:x=(m:Int)):x.toNat.toUInt8=UInt8.ofNat m:=by subst h;rfl
theorem b2f (r:Int):(Utf8.encode r).data.toList=Lib.encodeRune r:=by
 unfold Utf8.encode Lib.encodeRune;by_cases hv:Utf8.valid r=true
 ·rw[iP hv];have hv2:(0≤r∧r<55296)∨(57344≤r∧r≤1114111):=by simpa [Utf8.valid] using hv
  obtain⟨n,rfl⟩:=eZ (by omega:0≤r);rw[Int.toNat_natCast];by_cases c0:n<128
  ·rw[iP c0,Lib.encodeRuneZ_one (by omega) (by omega)];simp
  rw[iN c0];by_cases c1:n<2048
  ·rw[iP c1,Lib.encodeRuneZ_two (by omega) (by omega)];simp only[List.map_cons,List.map_nil];rw[a6w (m:=192+n / 64) (by omega),a6w (m:=128+n % 64) (by omega)]
  rw[iN c1];by_cases c2:n<65536
  ·rw[iP c2,Lib.encodeRuneZ_three (by omega)];simp only[List.map_cons,List.map_nil];rw[a6w (m:=224+n / 4096) (by omega),a6w (m:=128+n / 64 % 64) (by omega),a6w (m:=128+n % 64) (by omega)]
  rw[iN c2,Lib.encodeRuneZ_four (by omega) (by omega)];simp only[List.map_cons,List.map_nil];rw[a6w (m:=240+n / 262144) (by omega),a6w (m:=128+n / 4096 % 64) (by omega),a6w (m:=128+n / 64 % 64) (by omega),a6w (m:=128+n % 64) (by omega)]
 ·rw[iN hv]
  have hv2:r<0∨(55296≤r∧r≤57343)∨1114111<r:=by
   have:¬((0≤r∧r<55296)∨(57344≤r∧r≤1114111)):=by simpa [Utf8.valid] using hv
   omega
  rw[Lib.encodeRuneZ_bad hv2];rfl
theorem c0h (t:ByteArray)(r:Int):t.data.toList++Lib.encodeRune r=(t++Utf8.encode r).data.toList:=by
 rw[←b2f];simp[ByteArray.data_append]
theorem c6n (t:ByteArray):(⟨t.data.toList.toArray⟩:ByteArray)=t:=by cases t;simp
theorem b3f (h:OwnS w base e v n xs)(x:Int):
  Calls prog 60 #[v,.int .i64 x] w fun e w'=>e=.returned (.bool (xs.contains x))∧w=w':=by
 by_cases hn:0<n
 ·obtain⟨g,c,rfl,hO⟩:=h.own hn;have hl:=hO.len;refine(Any.slices_Contains_int b7d g 0 n c xs x w (by omega) hO.2.2 ?_).mono ?_
  ·intro j hj;rw[Nat.zero_add];refine hO.cell ?_;rw[gD,List.getElem?_eq_getElem hj];rfl
  ·rintro e w' ⟨rfl,rfl⟩;rw[List.take_of_length_le (by omega)];exact⟨rfl,rfl⟩
 ·obtain rfl:n=0:=by omega
  obtain⟨A,c,rfl,_,hI,_⟩:=h.form;have:xs=[]:=List.eq_nil_of_length_eq_zero h.len;subst this;refine(Any.slices_Contains_int_empty b7d A c x w).mono ?_;rintro e w' ⟨rfl,rfl⟩;exact⟨rfl,rfl⟩
def VR (r:Int):Prop:=0≤r∧(r<55296∨(57344≤r∧r≤1114111))
theorem c3s (r:Nat)(hr:VR r)(t:List UInt8):Lib.decodeL ((Utf8.encode (r:Int)).data.toList++t)=(r,(Utf8.encode (r:Int)).size):=by
 obtain⟨_,hr⟩:=hr;by_cases h0:r<55296
 ·exact c6q r h0 t
 have hv:Utf8.valid (r:Int)=true:=by simp[Utf8.valid];omega
 rw[Lib.decodeL_N];unfold Utf8.encode;simp only[hv,if_true,Int.toNat_natCast];have n1:¬ r<128:=by omega
 have n2:¬ r<2048:=by omega
 by_cases h3:r<65536
 ·simp only[n1,n2,h3,if_true,if_false];simp only[List.cons_append,List.nil_append,List.getD_cons_zero,List.getD_cons_succ,List.length_cons];rw[a7s (224+r / 4096) (by omega),a7s (128+r / 64 % 64) (by omega),a7s (128+r % 64) (by omega),Lib.decodeN,iN (by omega),iN (by omega),iP ⟨by omega,⟨by omega,by omega⟩,by omega,by omega⟩,iP ⟨by omega,by omega⟩];exact Prod.ext (show(224+r / 4096) % 16*4096+(128+r / 64 % 64) % 64*64+(128+r % 64) % 64=r by omega) rfl
 ·simp only[n1,n2,h3,if_false];simp only[List.cons_append,List.nil_append,List.getD_cons_zero,List.getD_cons_succ,List.length_cons]
  rw[a7s (240+r / 262144) (by omega),a7s (128+r / 4096 % 64) (by omega),a7s (128+r / 64 % 64) (by omega),a7s (128+r % 64) (by omega),Lib.decodeN,iN (by omega),iN (by omega),iN (by omega),
   iP ⟨by omega,⟨by omega,by omega⟩,⟨by omega,by omega⟩,by omega,by omega⟩,iP ⟨by omega,by omega⟩]
  exact Prod.ext (show(240+r / 262144) % 8*262144+(128+r / 4096 % 64) % 64*4096+(128+r / 64 % 64) % 64*64+(128+r % 64) % 64=r by omega) rfl
theorem c3t (r:Nat)(hr:VR r)(p q:ByteArray):Utf8.decode (p++(Utf8.encode (r:Int)++q)) p.size=(r,(Utf8.encode (r:Int)).size):=by
 rw[←Lib.decodeL_drop]
 have:(p++(Utf8.encode (r:Int)++q)).data.toList.drop p.size=(Utf8.encode (r:Int)).data.toList++q.data.toList:=by
  simp only[ByteArray.data_append,Array.toList_append];rw[←toL p,List.drop_left]
 rw[this,c3s r hr]
theorem c2j (l:List Int)(hl:∀ r∈l,VR r):∀(p:ByteArray) (b:Nat),(runesBytes l).size≤b→a0r (p++runesBytes l) b p.size=l:=by
 induction l with
 | nil =>
  intro p b _;rw[show runesBytes []=ByteArray.empty from rfl,ByteArray.append_empty]
  cases b with
  | zero=>rfl
  | succ b=>rw[a0r,iN (by omega)]
 | cons r l ih =>
  intro p b hb;have hv:=hl r (by simp);obtain⟨r,rfl⟩:=eZ hv.1;rw[a7d] at hb ⊢;rw[ByteArray.size_append] at hb;have hp:=c6v (r:Int)
  cases b with
  | zero=>omega
  | succ b =>
   rw[a0r,iP (by rw[ByteArray.size_append,ByteArray.size_append];omega),c3t r hv];have:=ih (fun x hx=>hl x (by simp[hx])) (p++Utf8.encode (r:Int)) b (by omega);rw[ByteArray.size_append,ByteArray.append_assoc] at this;rw[this]
theorem b4i (l:List Int)(hl:∀ r∈l,VR r):a0a (runesBytes l)=l:=by
 have:=c2j l hl ByteArray.empty (runesBytes l).size (Nat.le_refl _);rw[ByteArray.empty_append] at this;exact this
theorem a6t (s:ByteArray):∀(b pos:Nat),∀ r∈a0r s b pos,VR r
 | 0,_,r,h=>by cases h
 | b+1,pos,r,h=>by
  rw[a0r] at h
  split at h
  ·rcases List.mem_cons.1 h with e|e
   ·subst e;have:=Lib.decodeN_valid (s.data.toList.length-pos) (s.data.toList.getD pos 0).toNat (s.data.toList.getD (pos+1) 0).toNat (s.data.toList.getD (pos+2) 0).toNat (s.data.toList.getD (pos+3) 0).toNat (UInt8.toNat_lt _);rw[←Lib.decode_N] at this;exact⟨by omega,by omega⟩
   ·exact a6t s b _ r e
  ·cases h
theorem b2p (s:ByteArray):∀ r∈a0a s,VR r:=a6t s s.size 0
theorem c5z (r:Int):bl (Utf8.encode r)=Lib.encodeRune r:=b2f r
theorem b6s (s:ByteArray):∀(b pos:Nat),s.size≤pos+b→pos≤s.size→(65533:Int)∉a0r s b pos→bl (runesBytes (a0r s b pos))=(bl s).drop pos
 | 0,pos,hb,hp,_=>by
  rw[show a0r s 0 pos=[] from rfl,List.drop_of_length_le (by rw[a1w];omega)];rfl
 | b+1,pos,hb,hp,hn=>by
  rw[a0r] at hn ⊢;by_cases hlt:pos<s.size
  ·rw[iP hlt] at hn ⊢;have hw:=a3i s pos hlt
   have hne:(bl s).drop pos≠[]:=by
    intro e;have:=congrArg List.length e;rw[List.length_drop,a1w,List.length_nil] at this;omega
   have hd:Lib.decodeL ((bl s).drop pos)=Utf8.decode s pos:=Lib.decodeL_drop s pos;have h1:(((Utf8.decode s pos).1:Nat):Int)≠65533:=fun e=>hn (by rw[e];exact List.mem_cons_self)
   have he:=Lib.encode_decode ((bl s).drop pos) hne (fun h=>h1 (by rw[←hd,h.1];rfl));rw[hd] at he
   have hwl:pos+(Utf8.decode s pos).2≤s.size:=by
    have h9:=congrArg List.length he;rw[List.length_take,List.length_drop,a1w] at h9;rw[←hd];have:=Lib.decodeN_width_le ((bl s).drop pos).length (((bl s).drop pos).getD 0 0).toNat (((bl s).drop pos).getD 1 0).toNat (((bl s).drop pos).getD 2 0).toNat (((bl s).drop pos).getD 3 0).toNat (by rw[List.length_drop,a1w];omega);rw[←Lib.decodeL_N,List.length_drop,a1w] at this;omega
   rw[a7d,a1t,c5z,he,b6s s b (pos+(Utf8.decode s pos).2) (by omega) hwl (fun h=>hn (List.mem_cons_of_mem _ h))]
   conv=>rhs;rw[←List.take_append_drop (Utf8.decode s pos).2 ((bl s).drop pos)]
   rw[List.drop_drop]
  ·rw[iN hlt,List.drop_of_length_le (by rw[a1w];omega)];rfl
theorem b5e (h:(65533:Int)∉a0a s):runesBytes (a0a s)=s:=by
 apply c0b;have:=b6s s s.size 0 (by omega) (Nat.zero_le _) h;rw[List.drop_zero] at this;exact this
theorem c3v (h:33≤r){c:UInt8}(hc:c.toNat<33):Free c (Utf8.encode r):=by
 unfold Free;rw[c5z];unfold Lib.encodeRune;intro hm;rw[List.mem_map] at hm;obtain⟨x,hx,rfl⟩:=hm
 have key:∀ x∈Lib.encodeRuneZ r,33≤x∧x<256:=by
  intro x hx;refine⟨?_,(Lib.encodeRuneZ_byte r x hx).2⟩;by_cases h1:r≤127
  ·rw[Lib.encodeRuneZ_one (by omega) h1,List.mem_singleton] at hx;omega
  by_cases h2:r≤2047
  ·rw[Lib.encodeRuneZ_two (by omega) h2] at hx;simp only[List.mem_cons,List.not_mem_nil,or_false] at hx;omega
  by_cases h3:(2048≤r∧r<55296)∨(57343<r∧r≤65535)
  ·rw[Lib.encodeRuneZ_three h3] at hx;simp only[List.mem_cons,List.not_mem_nil,or_false] at hx;omega
  by_cases h4:65536≤r∧r≤1114111
  ·rw[Lib.encodeRuneZ_four h4.1 h4.2] at hx;simp only[List.mem_cons,List.not_mem_nil,or_false] at hx;omega
  ·rw[Lib.encodeRuneZ_bad (by omega)] at hx;simp only[List.mem_cons,List.not_mem_nil,or_false] at hx;omega
 have hk:=key x hx;have:x.toNat.toUInt8.toNat=x.toNat:=by simp[Nat.toUInt8];omega
 omega
theorem a7e {c:UInt8}(hc:c.toNat<33):∀ {l:List Int},(∀ r∈l,33≤r)→Free c (runesBytes l)
 | [],_=>by intro h;cases h
 | r::l,h=>by rw[a7d];exact c4a (c3v (h r (by simp)) hc) (a7e hc (fun x hx=>h x (by simp[hx])))
end Go.Proofs.YtdcmanhgekjhgaaDoor
