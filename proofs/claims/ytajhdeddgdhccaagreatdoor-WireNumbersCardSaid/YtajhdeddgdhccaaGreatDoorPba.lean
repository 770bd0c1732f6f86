import Derived.Test.YtajhdeddgdhccaaGreatDoorPac
set_option maxRecDepth 100000
set_option maxHeartbeats 12800000
namespace Go.Proofs.YtajhdeddgdhccaaGreatDoor
open Go.RowKit Go.Proofs.Tryz
variable {B K base k n pos:Nat} {e:TypeId} {l xs:List Int} {s:ByteArray} {v:Value} {w w':World} {x:Int}
def RIt (w:World) (K:Nat) (s:ByteArray) (pos k:Nat):Prop :=
 w.heap[K]?=some (.stringIter s pos)∧a1q s s.size pos=(a0b s).drop k∧k≤pos
theorem b0n (w:World)(s:ByteArray):RIt (w.iter s 0) w.heap.size s 0 0:=⟨World.iter_heap w s 0,rfl,Nat.le_refl _⟩
theorem c0d (h:RIt w K s pos k):K < w.heap.size:=by
 rcases Nat.lt_or_ge K w.heap.size with hl|hl
 ·exact hl
 ·have:=h.1;rw[Array.getElem?_eq_none hl] at this;cases this
theorem a5f (h:RIt w K s pos k):w.iterPos K=pos:=b1f h.1
theorem b0m (h:RIt w K s pos k)(hb:Below B w w')(hK:K < B):RIt w' K s pos k :=
 ⟨(hb.block K hK).trans h.1,h.2.1,h.2.2⟩
theorem c8t {row:Option Nat}(h:RIt w K s pos k)(hg:w.grownBy w' row)(hr:row≠some K):RIt w' K s pos k :=
 ⟨(hg.block K (c0d h) (fun e=>hr e.symm)).trans h.1,h.2.1,h.2.2⟩
theorem b2t {w0:World}(h:RIt w K s pos k)(hlt:pos<s.size)(hB:Below B w0 w)(hK:B≤K):
  ∃(w2:World) (r:Int) (d:Nat),(∀ ty,(Instr.next (.pointer (some ⟨K,0,none⟩)) true ty).run prog w=.ok (.tuple #[.bool true,.int .i64 pos,.int .i32 r]) w2) ∧
   RIt w2 K s (pos+d) (k+1)∧1≤d∧(a0b s)[k]?=some r∧b6v r∧Below B w0 w2∧w.grownBy w2 (some K):=by
 have hg:=b1s (w:=w) (s:=s) (k:=K) (pos:=pos+(Utf8.decode s pos).2);have hst:=b2g s hlt;rw[h.2.1] at hst
 have hk:(a0b s)[k]?=some ((Utf8.decode s pos).1:Int):=by
  have:=congrArg (fun l:List Int=>l[0]?) hst;simpa using this
 have hd:(a0b s).drop (k+1)=a1q s s.size (pos+(Utf8.decode s pos).2):=by
  have:=congrArg List.tail hst;simpa using this
 have hw:=a7l s pos hlt;have:=h.2.2;exact⟨_,_,(Utf8.decode s pos).2,fun ty=>b4l (P:=prog) h.1 hlt ty,⟨b3l (c0d h),hd.symm,by omega⟩,hw,hk,c0g s pos,a8x hB (by have:=c0d h;omega) hg hK,hg⟩
theorem b8a (h:RIt w K s pos k)(hlt:¬ pos<s.size):(a0b s).length≤k:=by
 have:=h.2.1;rw[b4m s hlt] at this;have:=congrArg List.length this;rw[List.length_drop,List.length_nil] at this;omega
theorem b2u (h:RIt w K s pos k)(hlt:¬ pos<s.size)(ty:TypeId):
  (Instr.next (.pointer (some ⟨K,0,none⟩)) true ty).run prog w=.ok (.tuple #[.bool false]) w:=b0q h.1 hlt ty
theorem c8s (h:RIt w K s pos k)(hlt:pos<s.size):k<s.size:=by have:=h.2.2;omega
theorem c2x {r:Int}:∀ {l:List Int} {k j:Nat},r∈l.take j→b1b l r k<((k+j:Nat):Int)
 | [],_,j,h=>by simp at h
 | x::l,k,0,h=>by simp at h
 | x::l,k,j+1,h=>by
  rw[b1b]
  split
  ·omega
  ·rename_i hx;rw[List.take_succ_cons] at h;rcases List.mem_cons.1 h with h|h
   ·exact absurd h.symm hx
   ·have:=c2x (k:=k+1) h;omega
theorem d0h {r:Int}{j:Nat}(h:r∈l.take j):a4b l r<(j:Int):=by
 have:=c2x (k:=0) h;rwa [Nat.zero_add] at this
theorem a2c.apartIter (h:a2c w base e v n xs)(hk:w.heap[k]?=some (.stringIter s pos)):v.ownBlock≠some k:=by
 intro hj;obtain⟨cs,hb⟩:=h.blk hj;rw[hk] at hb
 cases hb
def a5i (n:Nat):Array Value:=(List.replicate n (Value.int .i32 0)).toArray
theorem b5p {t:TypeId}(ht:prog.underlying t=some (.slice e))(hinfo:(prog.info? e).map (fun i=>(i.zero,i.size,i.bytes))=some (some (.int .i32 0),1,4))
  (hn:n≤17592186044000)(w:World):
  (Instr.makeSlice t (.int .i64 0) (.int .i64 n)).run prog w=.ok (.slice (some ⟨w.heap.size,0,none⟩) 0 n) (w.alloc (.cells (a5i n) e)):=by
 obtain⟨i,hi,hz0,hz1,hz2⟩:=info_parts hinfo;have:=run_make (P:=prog) w t e i (.int .i32 0) ht hi hz0 .i64 .i64 0 n (by omega) (by omega) (by rw[hz2];omega) (by omega);rw[this,hz1];simp only[Int.toNat_natCast,Nat.mul_one]
 have hm:madeCells #[Value.int .i32 0] n=a5i n:=by
  apply Array.toList_inj.1;rw[toList_madeCells_one];simp[a5i]
 rw[←hm];rfl
theorem c5c (w:World)(hb:base≤w.heap.size)(e:TypeId)(n:Nat)(hn:n≤17592186044000):a2c (w.alloc (.cells (a5i n) e)) base e (.slice (some ⟨w.heap.size,0,none⟩) 0 n) 0 [] :=
 ⟨⟨rfl,.inr ⟨w.heap.size,n,a5i n,rfl,hb,heap_alloc_new _ _,Nat.zero_le _,by unfold maxLen;omega,by simp[a5i],by simp⟩⟩,by simp,by omega⟩
theorem b0v {m:Nat}(h:x=(m:Int)):x.toNat.toUInt8=UInt8.ofNat m:=by subst h;rfl
theorem c2v (r:Int):(Utf8.encode r).data.toList=Lib.encodeRune r:=by
 unfold Utf8.encode Lib.encodeRune;by_cases hv:Utf8.valid r=true
 ·rw[iP hv];have hv2:(0≤r∧r<55296)∨(57344≤r∧r≤1114111):=by simpa [Utf8.valid] using hv
  obtain⟨n,rfl⟩:=eZ (by omega:0≤r);rw[Int.toNat_natCast];by_cases c0:n<128
  ·rw[iP c0,Lib.encodeRuneZ_one (by omega) (by omega)];simp
  rw[iN c0];by_cases c1:n<2048
  ·rw[iP c1,Lib.encodeRuneZ_two (by omega) (by omega)];simp only[List.map_cons,List.map_nil];rw[b0v (m:=192+n / 64) (by omega),b0v (m:=128+n % 64) (by omega)]
  rw[iN c1];by_cases c2:n<65536
  ·rw[iP c2,Lib.encodeRuneZ_three (by omega)];simp only[List.map_cons,List.map_nil];rw[b0v (m:=224+n / 4096) (by omega),b0v (m:=128+n / 64 % 64) (by omega),b0v (m:=128+n % 64) (by omega)]
  rw[iN c2,Lib.encodeRuneZ_four (by omega) (by omega)];simp only[List.map_cons,List.map_nil];rw[b0v (m:=240+n / 262144) (by omega),b0v (m:=128+n / 4096 % 64) (by omega),b0v (m:=128+n / 64 % 64) (by omega),b0v (m:=128+n % 64) (by omega)]
 ·rw[iN hv]
  have hv2:r<0∨(55296≤r∧r≤57343)∨1114111<r:=by
   have:¬((0≤r∧r<55296)∨(57344≤r∧r≤1114111)):=by simpa [Utf8.valid] using hv
   omega
  rw[Lib.encodeRuneZ_bad hv2];rfl
theorem c6r (t:ByteArray)(r:Int):t.data.toList++Lib.encodeRune r=(t++Utf8.encode r).data.toList:=by
 rw[←c2v];simp[ByteArray.data_append]
theorem d3t (t:ByteArray):(⟨t.data.toList.toArray⟩:ByteArray)=t:=by cases t;simp
theorem b8q (h:OwnS w base e v n xs)(x:Int):
  Calls prog 81 #[v,.int .i64 x] w fun e w'=>e=.returned (.bool (xs.contains x))∧w=w':=by
 by_cases hn:0<n
 ·obtain⟨g,c,rfl,hO⟩:=h.own hn;have hl:=hO.len;refine(Any.slices_Contains_int c3m g 0 n c xs x w (by omega) hO.2.2 ?_).mono ?_
  ·intro j hj;rw[Nat.zero_add];refine hO.cell ?_;rw[gD,List.getElem?_eq_getElem hj];rfl
  ·rintro e w' ⟨rfl,rfl⟩;rw[List.take_of_length_le (by omega)];exact⟨rfl,rfl⟩
 ·obtain rfl:n=0:=by omega
  obtain⟨A,c,rfl,_,hI,_⟩:=h.form;have:xs=[]:=List.eq_nil_of_length_eq_zero h.len;subst this;refine(Any.slices_Contains_int_empty c3m A c x w).mono ?_;rintro e w' ⟨rfl,rfl⟩;exact⟨rfl,rfl⟩
theorem Tryz.infoR9:(prog.info? 21).map (fun i=>(i.zero,i.size,i.bytes))=some (some (.int .i32 0),1,4):=by kernel_rfl
theorem c4x (w:World)(s:ByteArray)(hs:s.size≤17592186044000):
  Calls prog 82 #[.string s] w fun e w'=>(∃ v n,e=.returned v∧a2c w' w.heap.size 21 v n (a0b s))∧Below w.heap.size w w':=by
 have C0:=b8b s w hs;have HS:=Hd hs;clear hs
 go_enter func82,ntmps82
 go_wp2_with fail
 refine C0.mono ?_;rintro e1 w1 ⟨⟨N,hN,rfl⟩,hb1⟩;have hmk:=b5p (t:=88) (e:=21) underlying88 Tryz.infoR9 (n:=N) (by have:=HS.out;omega);have hz1:=hb1.size;have hOm:=c5c (base:=w.heap.size) w1 hz1 21 N (by have:=HS.out;omega);have hBm:=hb1.alloc hz1 (.cells (a5i N) 21);have hzm:(w1.alloc (.cells (a5i N) 21)).heap.size=w1.heap.size+1:=by simp
 have hR:=b0n (w1.alloc (.cells (a5i N) 21)) s;have hOi:=hOm.alloc (.stringIter s 0);have hBi:=hBm.alloc (by rw[hzm];omega) (.stringIter s 0);rw[hzm] at hR;have HR:=Hd hR;have HO:=Hd hOi;have HB:=Hd hBi;have hK:w.heap.size<w1.heap.size+1:=by omega
 have HK:=Hd hK;clear hR hOi hBi hOm hBm hzm hz1 C0 hb1 hK
 go_wp2_with fail
 go_loopw [3] (fun v wr=>∃(pos k:Nat),RIt wr (w1.heap.size+1) s pos k∧a2c wr w.heap.size 21 v k ((a0b s).take k)∧Below w.heap.size w wr) (fun _ wr=>s.size-wr.iterPos (w1.heap.size+1))
 case atStart=>exact⟨0,0,HR,HO,HB⟩
 case round =>
  obtain⟨pos,k,hI,hO,hB⟩:=hrel;have HI:=Hd hI;have HOW:=Hd hO;have HBW:=Hd hB;by_cases hlt:pos<s.size
  ·obtain⟨w2,r,d,hnx,hI2,hd,hx,hf,hB2,hg⟩:=b2t hI hlt hB (by have:=HK.out;omega);have hO2:=hO.grownNe hg (fun j hj=>by have:=hO.apartIter hI.1;intro e;injection e with e;subst e;exact this hj);have HI2:=Hd hI2;have HO2:=Hd hO2;have HB2:=Hd hB2;have HF:=Hd hf;have HX:=Hd hx;have hkb:=c8s hI hlt;have hs:=HS.out;clear hI hI2 hO hO2 hB hB2 hf hg hx
   go_wp2_with (at_builtin;refine a6h rfl _ _ 88 21 rfl underlying88 Tryz.infoR9 w.heap.size _ k _ rfl HO2.out ?c1 r ?c2 _ rfl ?c3 ?_)
   case c1=>exact HB2.size
   case c2=>exact HF
   case c3=>omega
   intro v' w3 hO3 hB3 hg3;have hI3:=c8t HI2 hg3 (HO2.apartIter HI2.out.1);have hB4:=HB2.trans hB3;have HI3:=Hd hI3;have HO3:=Hd hO3;have HB4:=Hd hB4;clear hI3 hB3 hg3 hO3 hB4 hnx;go_wp2;go_roundw
   case rel=>exact⟨pos+d,k+1,HI3,by rw[List.take_add_one,HX.out];exact HO3,HB4⟩
   case measure=>rw[a5f HI3.out,a5f HI.out];omega
  ·have hnx:=b2u hI hlt;have he:=b8a hI hlt;have HE:=Hd he;clear hI hO hB he;go_wp2;go_ret;exact⟨⟨_,k,rfl,by have:=HOW.out;rwa [List.take_of_length_le HE.out] at this⟩,HBW⟩
theorem b9l (r:Int)(hs:s.size≤17592186044000):
  Calls prog 78 #[.string s,.int .i32 r] w fun e w'=>e=.returned (.int .i64 (a4b (a0b s) r))∧Below w.heap.size w w':=by
 have HR:=Hd (b0n w s);have HB:=Hd (show Below w.heap.size w (w.iter s 0) from(Below.refl _ _).alloc (Nat.le_refl _) _);have HS:=Hd hs;clear hs
 go_enter func78,ntmps78
 go_wp2_with fail
 go_loopw [5] (fun v wr=>∃(pos k:Nat),v=.int .i64 k∧RIt wr w.heap.size s pos k∧r∉(a0b s).take k∧Below w.heap.size w wr) (fun _ wr=>s.size-wr.iterPos w.heap.size)
 case atStart=>exact⟨0,0,rfl,HR,by simp,HB⟩
 case round =>
  obtain⟨pos,k,rfl,hI,hno,hB⟩:=hrel;have HI:=Hd hI;have HN:=Hd hno;have HBW:=Hd hB;clear hno;by_cases hlt:pos<s.size
  ·obtain⟨w2,x,d,hnx,hI2,hd,hx,hf,hB2,hg⟩:=b2t hI hlt hB (Nat.le_refl _);have HI2:=Hd hI2;have HB2:=Hd hB2;have HX:=Hd hx;have hkb:=c8s hI hlt;have hs:=HS.out;clear hI hI2 hB hB2 hf hg hx;by_cases hxr:x=r
   ·subst hxr;have HV:=Hd (b7g HX HN);go_wp2;go_ret;exact⟨by rw[HV.out];rfl,HB2⟩
   ·have dxr:(x==r)=false:=by simpa using hxr
    have HXR:=Hd hxr;clear hxr;go_wp2;go_roundw
    case rel=>exact⟨pos+d,k+1,by go_num,HI2,by
     rw[List.take_add_one,HX.out];intro hm;rcases List.mem_append.1 hm with hm|hm
     ·exact HN hm
     ·exact HXR (List.mem_singleton.1 hm).symm,HB2⟩
    case measure=>rw[a5f HI2.out,a5f HI.out];omega
  ·have hnx:=b2u hI hlt;have HV:=Hd (show a4b (a0b s) r = -1 from b5y (by have h1:=HN.out;rwa [List.take_of_length_le (b8a hI hlt)] at h1));clear hI hB;go_wp2;go_ret;exact⟨by rw[HV.out];rfl,HBW⟩
open Classical in
noncomputable def c4p (x:Int):Bool:=decide (¬ badR x)
theorem b8z (h:¬ badR x):c4p x=true:=by unfold c4p;simpa using h
theorem a6z (h:badR x):c4p x=false:=by unfold c4p;simpa using h
theorem d1p (x:Int):
  Calls prog 77 #[.int .i32 x] w fun e w'=>e=.returned (.bool (c4p x))∧w=w':=by
 by_cases b1:x=46
 ·subst b1;have HG:=Hd (a6z (x:=46) (by unfold badR;omega))
  go_enter func77,ntmps77
  go_wp2;go_ret;exact⟨by rw[HG.out];rfl,by trivial⟩
 by_cases b2:x=45
 ·subst b2;have HG:=Hd (a6z (x:=45) (by unfold badR;omega))
  go_enter func77,ntmps77
  go_wp2;go_ret;exact⟨by rw[HG.out];rfl,by trivial⟩
 by_cases b3:x=40
 ·subst b3;have HG:=Hd (a6z (x:=40) (by unfold badR;omega))
  go_enter func77,ntmps77
  go_wp2;go_ret;exact⟨by rw[HG.out];rfl,by trivial⟩
 by_cases b4:x=41
 ·subst b4;have HG:=Hd (a6z (x:=41) (by unfold badR;omega))
  go_enter func77,ntmps77
  go_wp2;go_ret;exact⟨by rw[HG.out];rfl,by trivial⟩
 by_cases b5:x=65533
 ·subst b5;have HG:=Hd (a6z (x:=65533) (by unfold badR;omega))
  go_enter func77,ntmps77
  go_wp2;go_ret;exact⟨by rw[HG.out];rfl,by trivial⟩
 have d1:(x==46)=false:=by simpa using b1
 have d2:(x==45)=false:=by simpa using b2
 have d3:(x==40)=false:=by simpa using b3
 have d4:(x==41)=false:=by simpa using b4
 have d5:(x==65533)=false:=by simpa using b5
 have HG:=Hd (show decide ((33:Int)≤x)=c4p x by
  by_cases b0:x<33
  ·rw[a6z (by unfold badR;omega)];simp;omega
  ·rw[b8z (by unfold badR;omega)];simp;omega)
 clear b1 b2 b3 b4 b5
 go_enter func77,ntmps77
 go_wp2;go_ret;exact⟨by rw[←HG.out];rfl,by trivial⟩
theorem c4w (nn:Int)(hs:s.size≤17592186044000):
  Calls prog 49 #[.string s,.int .i64 nn] w fun e w'=>e=.returned (.bool (a6e (a0b s) nn))∧Below w.heap.size w w':=by
 have HR:=Hd (b0n w s);have HB:=Hd (show Below w.heap.size w (w.iter s 0) from(Below.refl _ _).alloc (Nat.le_refl _) _);have HS:=Hd hs;clear hs
 go_enter func49,ntmps49
 by_cases g0:nn<0
 ·have dg0:decide (nn<0)=true:=by simpa using g0
  have HX:=Hd (a4k (l:=a0b s) (n:=nn) (fun h=>by have:=h.1;omega));go_wp2;go_ret;exact⟨a0c HX.symm,Below.refl _ _⟩
 have dg0:decide (nn<0)=false:=by simpa using g0
 by_cases g1:3<nn
 ·have dg1:decide (3<nn)=true:=by simpa using g1
  have HX:=Hd (a4k (l:=a0b s) (n:=nn) (fun h=>by have:=h.2.1;omega));go_wp2;go_ret;exact⟨a0c HX.symm,Below.refl _ _⟩
 have dg1:decide (3<nn)=false:=by simpa using g1
 go_wp2_with fail
 go_loopw [5] (fun v wr=>∃(pos k:Nat),v=.int .i64 k∧(k:Int)≤nn∧k≤(a0b s).length∧RIt wr w.heap.size s pos k∧(∀ j,j<k→c0t (a0b s) j)∧Below w.heap.size w wr) (fun _ wr=>s.size-wr.iterPos w.heap.size)
 case atStart=>exact⟨0,0,rfl,by omega,by omega,HR,fun j hj=>by omega,HB⟩
 case round =>
  obtain⟨pos,k,rfl,hk3,hkl9,hI,hall,hB⟩:=hrel;have HI:=Hd hI;have HALL:=Hd hall;have HBW:=Hd hB;clear hall;by_cases hlt:pos<s.size
  ·obtain⟨w2,x,d,hnx,hI2,hd,hx,hf,hB2,hg⟩:=b2t hI hlt hB (Nat.le_refl _);have HI2:=Hd hI2;have HB2:=Hd hB2;have HX:=Hd hx;have hkb:=c8s hI hlt;have hs:=HS.out;have hkl:k<(a0b s).length:=(lL hx);have HBAD:=Hd (show ¬(¬ badR x∧a4b (a0b s) x=k)→a6e (a0b s) nn=false from fun hb=>a4k fun h=>hb (h.2.2.2 k x HX));clear hI hI2 hB hB2 hf hg hx;by_cases gk:(k:Int)=nn
   ·have dgk:((k:Int)==nn)=true:=by simpa using gk
    have HV:=Hd (a4k (l:=a0b s) (n:=nn) (fun h=>by have:=h.2.2.1;omega));go_wp2;go_ret;exact⟨a0c HV.symm,HB2⟩
   have dgk:((k:Int)==nn)=false:=by simpa using gk
   have CM:=fun w:World=>d1p (w:=w) x
   by_cases bx:badR x
   ·have HV:=Hd (HBAD (fun h=>h.1 bx));simp only[a6z bx] at CM;clear bx
    go_wp2_with fail
    refine(CM _).mono ?_;rintro e3 w3 ⟨rfl,rfl⟩;clear CM;go_wp2;go_ret;exact⟨a0c HV.symm,HB2⟩
   have HNB:=Hd bx;simp only[b8z bx] at CM;clear bx;have CF:=b9l (w:=w2) (s:=s) x HS;obtain⟨f,hf2⟩:∃ f,a4b (a0b s) x=f:=⟨_,rfl⟩;rw[hf2] at CF;have HF:=Hd hf2;have hfb:=b7h (a0b s) x;rw[hf2] at hfb;clear hf2
   go_wp2_with fail
   refine(CM _).mono ?_;rintro e3 w3 ⟨rfl,rfl⟩;clear CM
   go_wp2_with fail
   refine CF.mono ?_;rintro e4 w4 ⟨rfl,hb4⟩;have HI4:=Hd (b0m HI2 hb4 (c0d HI2));have HB4:=Hd (a1t HB2 hb4);clear CF hb4;by_cases gf:f<(k:Int)
   ·have dgf:decide (f<(k:Int))=true:=by simpa using gf
    have HV:=Hd (HBAD (fun h=>by have:=h.2;rw[HF.out] at this;omega));go_wp2;go_ret;exact⟨a0c HV.symm,HB4⟩
   have dgf:decide (f<(k:Int))=false:=by simpa using gf
   have HFK:=Hd (show a4b (a0b s) x=k by
    have hm:a4b (a0b s) x≤k:=by
     by_cases hin:x∈(a0b s).take k
     ·exact Int.le_of_lt (d0h hin)
     ·rw[b7g HX.out hin];exact Int.le_refl _
    rw[HF.out] at hm ⊢;omega)
   go_wp2;go_roundw
   case rel=>exact⟨pos+d,k+1,by go_num,by omega,by omega,HI4,fun j hj=>by
    rcases Nat.lt_or_ge j k with h|h
    ·exact HALL j h
    ·obtain rfl:j=k:=by omega
     intro y hy;rw[HX.out] at hy;injection hy with hy
     subst hy
     exact⟨HNB,HFK⟩,HB4⟩
   case measure=>rw[a5f HI4.out,a5f HI.out];omega
  ·have hnx:=b2u hI hlt;have hle:=b8a hI hlt
   have HV:=Hd (show((k:Int)==nn)=a6e (a0b s) nn by
    by_cases gk:(k:Int)=nn
    ·rw[a6r ⟨by omega,by omega,by omega,fun j x hj=>by
      rcases Nat.lt_or_ge j k with h|h
      ·exact HALL j h x hj
      ·have:=(lL hj);omega⟩]
     simpa using gk
    ·rw[a4k (fun h=>gk (by have:=h.2.2.1;omega))]
     simpa using gk)
   clear hI hB hle;go_wp2;go_ret;exact⟨a0c HV,HBW⟩
theorem b6j {nm:List Int}{rank:Int}(g:a3a nm [] l=none):a4p nm l rank=([],false,14):=by
 rcases Nat.lt_or_ge 16 l.length with h|h
 ·exact a6p h
 ·exact a7y h g
theorem b9q {t:ByteArray}(rank:Int)(hs:s.size≤17592186044000)(ht:t.size≤17592186044000):
  Calls prog 54 #[.string s,.string t,.int .i64 rank] w fun e w'=>(∃ v m,e=.returned (.tuple #[v,.bool (a4p (a0b s) (a0b t) rank).2.1,.int .i64 (a4p (a0b s) (a0b t) rank).2.2])∧OwnS w' w.heap.size 3 v m (a4p (a0b s) (a0b t) rank).1)∧Below w.heap.size w w':=by
 have HR:=Hd (b0n w t);have HB:=Hd (show Below w.heap.size w (w.iter t 0) from(Below.refl _ _).alloc (Nat.le_refl _) _);have HZ:=Hd (show w.heap.size+1≤(w.iter t 0).heap.size by simp[World.iter]);have HS:=Hd hs;have HT:=Hd ht;obtain⟨nm,hnm⟩:∃ l,a0b s=l:=⟨_,rfl⟩;have HNM:=Hd hnm;have HNB:=Hd (show nm.length≤17592186044000 by rw[←hnm];exact Nat.le_trans (a9b s) hs);rw[hnm];clear hs ht hnm
 go_enter func54,ntmps54
 go_wp2_with fail
 go_loopw [9,10] (fun sv cv wr=>∃(pos k m:Nat) (out:List Int),cv=.int .i64 k∧k≤16∧m≤k∧k≤(a0b t).length∧RIt wr w.heap.size t pos k∧OwnS wr (w.heap.size+1) 3 sv m out∧a3a nm [] (a0b t)=a3a nm out ((a0b t).drop k)∧w.heap.size+1≤wr.heap.size∧Below w.heap.size w wr) (fun _ _ wr=>t.size-wr.iterPos w.heap.size)
 case atStart=>exact⟨0,0,0,[],rfl,by omega,by omega,by omega,HR,OwnS.nil_ _ _ _,rfl,HZ,HB⟩
 case round =>
  obtain⟨pos,k,m,out,rfl,hk,hm,hkl9,hI,hO,hnl,hz,hB⟩:=hrel;have HI:=Hd hI;have HNL:=Hd hnl;have HBW:=Hd hB;have HZW:=Hd hz;clear hnl hz;by_cases hlt:pos<t.size
  ·obtain⟨w2,x,d,hnx,hI2,hd,hx,hf,hB2,hg⟩:=b2t hI hlt hB (Nat.le_refl _);have hO2:=hO.grown hg (by omega);have HI2:=Hd hI2;have HO2:=Hd hO2;have HB2:=Hd hB2;have HX:=Hd hx;have HZ2:=Hd (show w.heap.size+1≤w2.heap.size by have:=hg.size;have:=HZW.out;omega);have hkl:k<(a0b t).length:=(lL hx);clear hI hI2 hO hO2 hB hB2 hf hg hx;by_cases g0:16<k+1
   ·have dg0:decide (16<k+1)=true:=by simpa using g0
    have HV:=Hd (a6p (nm:=nm) (l:=a0b t) (rank:=rank) (by omega));go_wp2;go_ret3;rw[HV.out];exact⟨⟨_,0,rfl,OwnS.nil_ _ _ _⟩,HB2⟩
   have dg0:decide (16<k+1)=false:=by simpa using g0
   by_cases b0:x=32
   ·subst b0;have HQ:=Hd (HNL.trans (b3u (out:=out) HX));go_wp2;go_roundw
    case rel=>exact⟨pos+d,k+1,m,out,by go_num,by omega,by omega,by omega,HI2,HO2,HQ,HZ2,HB2⟩
    case measure=>rw[a5f HI2.out,a5f HI.out];omega
   have db0:(x==32)=false:=by simpa using b0
   have CF:=b9l (w:=w2) (s:=s) x HS;rw[HNM.out] at CF;have HB0:=Hd b0;clear b0
   go_wp2_with fail
   refine CF.mono ?_;rintro e4 w4 ⟨rfl,hb4⟩;have HI4:=Hd (b0m HI2 hb4 (c0d HI2));have HO4:=Hd (HO2.below hb4);have HZ4:=Hd (show w.heap.size+1≤w4.heap.size from Nat.le_trans HZ2 hb4.size);have HB4:=Hd (a1t HB2 hb4);have HOL:=Hd HO4.len;clear CF hb4;obtain⟨f,hf2⟩:∃ f,a4b nm x=f:=⟨_,rfl⟩;have HF:=Hd hf2;have hfb:=b7h nm x;rw[hf2] at hfb ⊢;clear hf2;have hnb:=HNB.out;by_cases b1:x=46
   ·subst b1;have HQ:=Hd (HNL.trans (b3v (out:=out) HX))
    go_wp2_with (at_builtin;refine a1x rfl _ _ 23 3 rfl underlying23 Tryz.infoInt9 (w.heap.size+1) _ m out rfl HO4.out HZ4.out (-1) ⟨by omega,by omega⟩ _ rfl ?c1 ?_)
    case c1=>omega
    intro v' w' h1 h2 h3;have HI5:=Hd (b0m HI4 h2 (by omega));have G1:=Hd h1;have G2:=Hd (HB4.trans (h2.mono (by omega)));have GZ:=Hd (show w.heap.size+1≤w'.heap.size from Nat.le_trans HZ4 h2.size);clear h1 h2 h3;go_wp2;go_roundw
    case rel=>exact⟨pos+d,k+1,m+1,out++[-1],by go_num,by omega,by omega,by omega,HI5,G1,HQ,GZ,G2⟩
    case measure=>rw[a5f HI5.out,a5f HI.out];omega
   have db1:(x==46)=false:=by simpa using b1
   have HB1:=Hd b1;clear b1;by_cases b2:f<0
   ·have db2:decide (f<0)=true:=by simpa using b2
    have HV:=Hd (b6j (rank:=rank) (HNL.trans (b6i HX HB0 HB1 (by rw[HF.out];exact b2))));go_wp2;go_ret3;rw[HV.out];exact⟨⟨_,0,rfl,OwnS.nil_ _ _ _⟩,HB4⟩
   have db2:decide (f<0)=false:=by simpa using b2
   have HB2':=Hd (show ¬ a4b nm x<0 by rw[HF.out];exact b2);have CC:=b8q HO4 f;by_cases b3:f∈out
   ·have HV:=Hd (b6j (rank:=rank) (HNL.trans (b3w HX HB0 HB1 HB2' (by rw[HF.out];exact b3))));rw[show out.contains f=true from by simpa using b3] at CC;clear b3
    go_wp2_with fail
    refine CC.mono ?_;rintro e5 w5 ⟨rfl,rfl⟩;clear CC;go_wp2;go_ret3;rw[HV.out];exact⟨⟨_,0,rfl,OwnS.nil_ _ _ _⟩,HB4⟩
   have HQ:=Hd (HNL.trans (b6h (out:=out) HX HB0 HB1 HB2' (by rw[HF.out];exact b3)));rw[show out.contains f=false from by simpa using b3] at CC;clear b3
   go_wp2_with fail
   refine CC.mono ?_;rintro e5 w5 ⟨rfl,rfl⟩;clear CC
   go_wp2_with (at_builtin;refine a1x rfl _ _ 23 3 rfl underlying23 Tryz.infoInt9 (w.heap.size+1) _ m out rfl HO4.out HZ4.out f ⟨by omega,by omega⟩ _ rfl ?c1 ?_)
   case c1=>omega
   intro v' w' h1 h2 h3;have HI5:=Hd (b0m HI4 h2 (by omega));have G1:=Hd h1;have G2:=Hd (HB4.trans (h2.mono (by omega)));have GZ:=Hd (show w.heap.size+1≤w'.heap.size from Nat.le_trans HZ4 h2.size);clear h1 h2 h3;go_wp2;go_roundw
   case rel=>exact⟨pos+d,k+1,m+1,out++[f],by go_num,by omega,by omega,by omega,HI5,G1,by rw[←HF.out];exact HQ,GZ,G2⟩
   case measure=>rw[a5f HI5.out,a5f HI.out];omega
  ·have hnx:=b2u hI hlt;have hle:=b8a hI hlt;have HN16:=Hd (show(a0b t).length≤16 by omega);have HE:=Hd (HNL.trans (b9r (out:=out) hle));have HOL:=Hd hO.len;have HOW:=Hd (hO.mono (by omega:w.heap.size≤w.heap.size+1));obtain⟨Ao,co,hv,hco,_,_⟩:=hO.form;subst hv;clear hI hO hB hle;by_cases m0:m=0
   ·have dm0:((m:Int)==0)=true:=by simpa using m0
    have HOU:out=[]:=List.eq_nil_of_length_eq_zero (by rw[HOL.out];exact m0);have HV:=Hd (a3u (rank:=rank) HN16 (by rw[HE.out,HOU]));clear HOU;clear m0;go_wp2;go_ret3;rw[HV.out];exact⟨⟨_,0,rfl,OwnS.nil_ _ _ _⟩,HBW⟩
   have dm0:((m:Int)==0)=false:=by simpa using m0
   have HNE:=Hd (show out≠[] from fun h=>m0 (by have:=HOL.out;rw[h] at this;simpa using this.symm));clear m0;by_cases r0:(m:Int)=rank
   ·subst r0;have dr0:((m:Int) != (m:Int))=false:=by simp
    have HV:=Hd (a8p (rank:=(m:Int)) HN16 HE HNE (by rw[HOL.out]));go_wp2;go_ret3;rw[HV.out];exact⟨⟨_,m,rfl,HOW⟩,HBW⟩
   ·have dr0:((m:Int) != rank)=true:=by simpa using r0
    have HV:=Hd (a8q (rank:=rank) HN16 HE HNE (by rw[HOL.out];exact r0));go_wp2;go_ret3;rw[HV.out];exact⟨⟨_,0,rfl,OwnS.nil_ _ _ _⟩,HBW⟩
theorem c8a {A:Option Addr}{c:Nat}{spec:List Int}(hs:s.size≤17592186044000)(hA:Ints w A n spec)(hn:n≤17592186044000):
  Calls prog 55 #[.string s,.slice A n c] w fun e w'=>e=.returned (.string (a3p (a0b s) spec))∧Below w.heap.size w w':=by
 have C1:=c4x w s hs;obtain⟨nm,hnm⟩:∃ l,a0b s=l:=⟨_,rfl⟩;rw[hnm] at C1 ⊢;clear hnm hs;have HA:=Hd hA;have HAL:=Hd hA.len;have HAN:=Hd hn;clear hA hn
 go_enter func55,ntmps55
 go_wp2_with fail
 refine C1.mono ?_;rintro e1 w1 ⟨⟨v,m,rfl,hO⟩,hb⟩;obtain⟨R,rc,rfl,hrc,hI,_⟩:=hO.form;have HB:=Hd hb;have H1:=Hd hI.len;have HI:=Hd hI;have HS:=Hd (HA.below hb);have hle:=hI.le;have HF:=Hd (b8p w1);have HBF:=Hd (show Below w1.heap.size w1 (w1.alloc (.cells #[.pointer none,.slice none 0 0] 61)) from(Below.refl _ _).alloc (Nat.le_refl _) _);clear C1 hO hb hI
 go_wp2_with fail
 go_loopw [13] (fun i wr=>∃ k:Nat,k≤n∧i=.int .i64 k∧Bld w1.heap.size (a3p nm (spec.take k)).data.toList wr∧Below w1.heap.size w1 wr) (fun i _=>n-(intOf i).toNat)
 case atStart=>exact⟨0,Nat.zero_le _,rfl,HF,HBF⟩
 case round =>
  obtain⟨k,hk,rfl,hbl,hB⟩:=hrel;have HBL:=Hd hbl;have HBW:=Hd hB;have HSW:=Hd (HS.below hB);have HIW:=Hd (HI.below hB);have HZ:=Hd hB.size;clear hbl hB;by_cases hlt:k<n
  ·obtain⟨sa,x,rfl,_,hx,hcx,hfx⟩:=HSW.at_ hlt;have HST:=Hd (b6s (nm:=nm) hx);have hsz:=a6u nm (spec.take k);rw[List.length_take] at hsz;have hn9:=HAN.out
   have HLB:=Hd (show(a3p nm (spec.take k)).data.toList.length+4≤140737488355328 by
    have:(a3p nm (spec.take k)).data.toList.length=(a3p nm (spec.take k)).size:=by simp
    omega)
   clear hx hsz;by_cases b0:x<0∨(m:Int)≤x
   ·have HQ:=Hd (show a3p nm (spec.take (k+1))=a3p nm (spec.take k)++Utf8.encode 46 by rw[HST.out,b8d (by have:=H1.out;omega)];rfl);have CW:=b3a w1.heap.size _ 46 (by omega) wr HBL HLB HZ;rw[c6r,←HQ.out] at CW;have HCW:=Hd CW;clear CW;by_cases b1:x<0
    ·have db1:decide ((0:Int)≤x)=false:=by simp;omega
     clear b0
     go_wp2_with fail
     refine HCW.mono ?_;rintro e3 w3 ⟨⟨n3,rfl⟩,hl3,hb3,_⟩;have G1:=Hd hl3;have G2:=Hd (HBW.trans hb3);clear hl3 hb3;go_wp2;go_roundw
     case rel=>exact⟨k+1,by omega,by go_num,G1,G2⟩
     case measure=>simp[intOf];omega
    ·have db1:decide ((0:Int)≤x)=true:=by simp;omega
     have db2:decide (x<(m:Int))=false:=by simp;omega
     obtain⟨xn,rfl⟩:=eZ (by omega:0≤x);have db3:decide (xn<m)=false:=by simp;omega
     clear b0
     go_wp2_with fail
     refine HCW.mono ?_;rintro e3 w3 ⟨⟨n3,rfl⟩,hl3,hb3,_⟩;have G1:=Hd hl3;have G2:=Hd (HBW.trans hb3);clear hl3 hb3;go_wp2;go_roundw
     case rel=>exact⟨k+1,by omega,by go_num,G1,G2⟩
     case measure=>simp[intOf];omega
   ·obtain⟨xn,rfl⟩:=eZ (by omega:0≤x);have hxm:xn<m:=by omega
    have db1:decide (xn<m)=true:=by simpa using hxm
    clear b0;obtain⟨ra,y,rfl,_,hy,hcy,hfy⟩:=HIW.at_ hxm;have HQ:=Hd (show a3p nm (spec.take (k+1))=a3p nm (spec.take k)++Utf8.encode y by rw[HST.out,c0l hy]);have CW:=b3a w1.heap.size _ y hfy wr HBL HLB HZ;rw[c6r,←HQ.out] at CW;have HCW:=Hd CW;clear CW hy
    go_wp2_with fail
    refine HCW.mono ?_;rintro e3 w3 ⟨⟨n3,rfl⟩,hl3,hb3,_⟩;have G1:=Hd hl3;have G2:=Hd (HBW.trans hb3);clear hl3 hb3;go_wp2;go_roundw
    case rel=>exact⟨k+1,by omega,by go_num,G1,G2⟩
    case measure=>simp[intOf];omega
  ·have hkn:k=n:=by omega
   subst hkn;have HE:=Hd (show spec.take k=spec from List.take_of_length_le (by have:=HAL.out;omega));have CS:=a9s w1.heap.size _ wr HBL HZ;rw[HE.out,d3t] at CS;have HCS:=Hd CS;clear CS
   go_wp2_with fail
   refine HCS.mono ?_;rintro e3 w3 ⟨rfl,hb3⟩;have G2:=Hd (HBW.trans hb3);clear hb3;go_wp2;go_ret;exact⟨rfl,a1t HB G2⟩
end Go.Proofs.YtajhdeddgdhccaaGreatDoor
