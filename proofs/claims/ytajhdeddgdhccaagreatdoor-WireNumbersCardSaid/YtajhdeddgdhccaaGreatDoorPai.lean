import Derived.Test.YtajhdeddgdhccaaGreatDoorPac
import Derived.Test.YtajhdeddgdhccaaGreatDoorPah
set_option maxRecDepth 100000
set_option maxHeartbeats 12800000
namespace Go.Proofs.YtajhdeddgdhccaaGreatDoor
open Go.RowKit Go.Proofs.Tryz
variable {A:Option Addr} {c:a0i} {d o s t xs:List Int} {e:TypeId} {j k n:Nat} {l:List a0i} {op x:Int} {w w0:World}
theorem Sep.tail_ (h:Sep w0 w (c::l)):Sep w0 w l :=
 ⟨h.1,fun i d hi=>h.2.1 (i+1) d hi,fun i j a b hij hi hj=>h.2.2 (i+1) (j+1) a b (by omega) hi hj⟩
theorem Sep.less1 {d:a0i}(h:Sep w0 w (c::d::l)):Sep w0 w (c::l) :=
 Sep.cons_ h.1 (h.2.1 0 c rfl) h.tail_.tail_.2.1 (fun i e hi=>h.2.2 0 (i+2) c e (by omega) rfl hi) h.tail_.tail_.2.2
theorem Sep.swap {d:a0i}(h:Sep w0 w (c::d::l)):Sep w0 w (d::c::l) :=
 Sep.cons_ h.1 (h.2.1 1 d rfl) h.less1.2.1 (fun i e hi=>by
  cases i with
  | zero=>simp at hi;subst hi;exact(h.2.2 0 1 _ d (by omega) rfl rfl).symm
  | succ i=>exact h.2.2 1 (i+2) d e (by omega) rfl (by simpa using hi)) h.less1.2.2
theorem Sep.pair:Sep w0 w l↔Below w0.heap.size w0 w∧(∀ c∈l,a0i.holds w w0.heap.size c)∧l.Pairwise b8j:=by
 constructor
 ·rintro⟨h1,h2,h3⟩;refine⟨h1,fun c hc=>?_,?_⟩
  ·obtain⟨i,hi⟩:=List.getElem?_of_mem hc;exact h2 i c hi
  ·rw[List.pairwise_iff_getElem];intro i j hi hj hij;exact h3 i j _ _ (by omega) (List.getElem?_eq_getElem hi) (List.getElem?_eq_getElem hj)
 ·rintro⟨h1,h2,h3⟩;refine⟨h1,fun i c hi=>h2 c (mG hi),fun i j a b hij hi hj=>?_⟩;rw[List.pairwise_iff_getElem] at h3;obtain⟨hil,rfl⟩:=List.getElem?_eq_some_iff.1 hi;obtain⟨hjl,rfl⟩:=List.getElem?_eq_some_iff.1 hj;rcases Nat.lt_or_ge i j with h|h
  ·exact h3 i j hil hjl h
  ·exact(h3 j i hjl hil (by omega)).symm
theorem Sep.perm {l':List a0i}(h:Sep w0 w l)(hp:l.Perm l'):Sep w0 w l':=by
 obtain⟨h1,h2,h3⟩:=Sep.pair.1 h;exact Sep.pair.2 ⟨h1,fun c hc=>h2 c (hp.mem_iff.2 hc),hp.pairwise h3 fun hab=>hab.symm⟩
theorem OwnS.take {base:Nat}{c:Nat}(h:OwnS w base e (.slice A n c) n xs)(hk:k≤n)(h0:0<k):OwnS w base e (.slice A k c) k (xs.take k):=by
 obtain⟨⟨hl,hh⟩,hf,hn⟩:=h;refine⟨⟨by rw[List.map_take,List.length_take,hl];omega,?_⟩,fun x hx=>hf x (List.mem_of_mem_take hx),by omega⟩;rcases hh with ⟨_,h'⟩|⟨g,cap,cur,hv,hb,hg,hnc,hcm,hcs,hct⟩
 ·omega
 ·right
  injection hv with h1 h2 h3
  refine⟨g,cap,cur,by rw[h1,h3],hb,hg,by omega,hcm,hcs,?_⟩;rw[List.map_take,←hct,List.take_take]
  congr 1;omega
theorem Sep.takeOwn {c:Nat}(h:Sep w0 w l)(i:Nat)(hi:l[i]?=some (.own e (.slice A n c) n xs))(hk:k≤n)(h0:0<k):
  Sep w0 w (l.set i (.own e (.slice A k c) k (xs.take k))) :=
 h.change i hi (World.grownBy.refl _ _) (OwnS.take (h.ownS i hi) hk h0) fun b hb=>.inl (by cases A <;> exact hb)
theorem Sep.rowForm {v:Value}{us:List Value}(h:Sep w0 w l)(i:Nat)(hi:l[i]?=some (.row e k v n us))(hn:0<n):∃ g c,v=.slice (some ⟨g,0,none⟩) n c∧n≤c:=by
 have hr:w.ownsRow w0.heap.size e k v n us:=h.at_ i hi;rcases hr.2 with ⟨_,h'⟩|⟨g,cap,cur,hv,_,_,hnc,_⟩
 ·omega
 ·exact⟨g,cap,hv,hnc⟩
theorem Sep.addRowNil (h:Sep w0 w l)(e:TypeId)(k:Nat):Sep w0 w (.row e k (.slice none 0 0) 0 []::l) :=
 Sep.cons_ h.1 (World.ownsRow_nil w w0.heap.size e k) h.2.1 (fun _ _ _ b hb=>by cases hb) h.2.2
theorem b8r:∀(f k:Nat),k<10 ^ f→digs (f+1) k=digs f k
 | 0,k,h=>by
  have:k=0:=by simpa using h
  subst this;rfl
 | f+1,k,h=>by
  by_cases hk:k=0
  ·subst hk;rw[digs,digs,iP rfl,iP rfl]
  ·have e:=b8r f (k / 10) (by rw[Nat.pow_succ] at h;omega);rw[digs,iN hk,e,digs,iN hk]
theorem b8s (h0:k≠0)(h:k<10000000000000000000):digs 20 k=digs 20 (k / 10)++b1 (48+k % 10):=by
 rw[b8r 19 (k / 10) (by omega),digs,iN h0]
theorem c6s {d:Nat}(h:d<10):Utf8.encode ((48+d:Nat):Int)=b1 (48+d):=by
 have:∀ j:Fin 10,Utf8.encode ((48+j.val:Nat):Int)=b1 (48+j.val):=by decide
 exact this ⟨d,h⟩
theorem c6c (n:Nat):(b1 n).size=1:=rfl
theorem a1p {n:Int}(hn:Fits n):
  Calls prog 11 #[.int .i64 n] w fun e w'=>e=.returned (.string (numT n))∧w'=w:=by
 go_enter func11,ntmps11
 by_cases h0:n=0
 ·subst h0;go_wp2;go_ret;exact⟨rfl,rfl⟩
 have e0:(n==0)=false:=by simpa using h0
 by_cases hp:0<n
 ·obtain⟨N,rfl⟩:=eZ (show 0≤n by omega);have hN:N≤9223372036854775807:=by have:=hn.2;omega
  go_wp2_with fail
  have HN0:=Hd h0;clear h0 e0;have e0:((N:Int)==0)=false:=by simpa using HN0.out
  have en:decide ((N:Int)<0)=false:=by simp
  go_loop [3,4,5] (fun sv kv _=>∃(M:Nat) (S:ByteArray),M≤N∧kv=.int .i64 M∧sv=.string S∧digs 20 N=digs 20 M++S) (fun _ kv _=>(intOf kv).toNat)
  case atStart=>exact⟨N,⟨#[]⟩,Nat.le_refl _,rfl,rfl,(ByteArray.append_empty).symm⟩
  case round =>
   obtain⟨M,S,hM,rfl,rfl,hE⟩:=hrel;have hsz:S.size≤20:=by have:=a7m 20 N;rw[hE,ByteArray.size_append] at this;omega
   have HE:=Hd hE;clear hE;by_cases hz:M=0
   ·subst hz;go_wp2;go_ret;have:=HE.out;rw[show digs 20 0=⟨#[]⟩ from rfl] at this;refine⟨?_,rfl⟩;rw[numT,iN HN0.out,iN (by omega),Int.natAbs_natCast,this]
    rfl
   ·have ez:((M:Int) != 0)=true:=by simpa using hz
    have HS:=Hd (b8s hz (by omega:M < 10000000000000000000));obtain⟨e,he⟩:∃ e:Int,e=((M % 10:Nat):Int):=⟨_,rfl⟩;obtain⟨q,hq⟩:∃ q,M / 10=q:=⟨_,rfl⟩;have he0:0≤e:=by omega
    have he9:e<10:=by omega
    have hqM:q<M:=by omega
    rw[hq] at HS;have HD:=Hd (show Utf8.encode (48+e)=b1 (48+M % 10) by rw[he];exact c6s (d:=M % 10) (by omega));have hsum:(Utf8.encode (48+e)).size+S.size≤9223372036854775807:=by rw[HD.out,c6c];omega
    have hmod:(M:Int) % 10=e:=by omega
    have hdiv:(M:Int) / 10=(q:Int):=by omega
    clear hq he;clear ez;have ez:((M:Int) != 0)=true:=by simpa using hz
    go_wp2;go_round
    case rel=>exact⟨q,_,by omega,rfl,rfl,by rw[HE.out,HS.out,HD.out,ByteArray.append_assoc]⟩
    case measure=>simp[intOf];omega
 ·obtain⟨N,rfl⟩:∃ N:Nat,n = -(N:Int):=⟨n.natAbs,by omega⟩;have hN:N≤9223372036854775808:=by have:=hn.1;omega
  have HN0:=Hd h0;have hNp:0<N:=by omega
  go_wp2_with fail
  clear h0 e0;have e0:(-(N:Int)==0)=false:=by simpa using HN0.out
  have en:decide (-(N:Int)<0)=true:=decide_eq_true (by omega);have en2:decide (0<(N:Int))=true:=decide_eq_true (by omega);have en3:decide (0<N)=true:=decide_eq_true (by omega)
  go_loop [3,4,5] (fun sv kv _=>∃(M:Nat) (S:ByteArray),M≤N∧kv=.int .i64 (-(M:Int))∧sv=.string S∧digs 20 N=digs 20 M++S) (fun _ kv _=>(-(intOf kv)).toNat)
  case atStart=>exact⟨N,⟨#[]⟩,Nat.le_refl _,rfl,rfl,(ByteArray.append_empty).symm⟩
  case round =>
   obtain⟨M,S,hM,rfl,rfl,hE⟩:=hrel;have hsz:S.size≤20:=by have:=a7m 20 N;rw[hE,ByteArray.size_append] at this;omega
   have HE:=Hd hE;clear hE;by_cases hz:M=0
   ·subst hz;have ez:(-((0:Nat):Int) != 0)=false:=by simp
    go_wp2;go_ret;have:=HE.out;rw[show digs 20 0=⟨#[]⟩ from rfl] at this;refine⟨?_,rfl⟩;rw[numT,iN (by omega),iP (by omega),Int.natAbs_neg,Int.natAbs_natCast,this]
    rfl
   ·have ez:(-(M:Int) != 0)=true:=by simpa using hz
    have HS:=Hd (b8s hz (by omega:M < 10000000000000000000));obtain⟨e,he⟩:∃ e:Int,e=((M % 10:Nat):Int):=⟨_,rfl⟩;obtain⟨q,hq⟩:∃ q,M / 10=q:=⟨_,rfl⟩;have he0:0≤e:=by omega
    have he9:e<10:=by omega
    have hqM:q<M:=by omega
    rw[hq] at HS;have HD:=Hd (show Utf8.encode (48+e)=b1 (48+M % 10) by rw[he];exact c6s (d:=M % 10) (by omega));have hsum:(Utf8.encode (48+e)).size+S.size≤9223372036854775807:=by rw[HD.out,c6c];omega
    have hmod:(-(M:Int)).tmod 10 = -e:=by rw[Int.neg_tmod,he];rfl
    have hdiv:(-(M:Int)).tdiv 10 = -(q:Int):=by rw[Int.neg_tdiv,←hq];rfl
    clear hq he;by_cases hez:0<e
    ·have dz:decide (0<e)=true:=decide_eq_true hez;go_wp2;go_round
     case rel=>exact⟨q,_,by omega,rfl,rfl,by rw[HE.out,HS.out,HD.out,ByteArray.append_assoc]⟩
     case measure=>simp[intOf];omega
    ·have dz:decide (0<e)=false:=decide_eq_false hez;have hsum2:(Utf8.encode (48 + -e)).size+S.size≤9223372036854775807:=by rw[show(48 + -e:Int)=48+e by omega];exact hsum
     have HD2:=Hd (show Utf8.encode (48 + -e)=b1 (48+M % 10) by rw[show(48 + -e:Int)=48+e by omega];exact HD);go_wp2;go_round
     case rel=>exact⟨q,_,by omega,rfl,rfl,by rw[HE.out,HS.out,HD2.out,ByteArray.append_assoc]⟩
     case measure=>simp[intOf];omega
theorem a7e {c:Nat}(hA:Ints w A n xs)(hn:n≤17592186044000):
  Calls prog 35 #[.slice A n c] w fun e w'=>e=.returned (.string (a4z xs))∧w'=w:=by
 have HA:=Hd hA;have HL:=Hd hA.len;have HN:=Hd hn;have hle:=hA.le;clear hA hn
 go_enter func35,ntmps35
 go_wp2_with fail
 go_loop [7,3] (fun iv sv=>∃ k:Nat,k≤n∧iv=.int .i64 k∧sv=.string (a1w b3x (xs.take k))) (fun iv _=>n-(intOf iv).toNat)
 case atStart=>exact⟨0,Nat.zero_le _,rfl,rfl⟩
 case round =>
  obtain⟨k,hk,rfl,rfl⟩:=hrel;have hsz:=a3n xs k b3x (by have:=HL.out;omega);rw[show b3x.size=2 from rfl] at hsz;by_cases hlt:k<n
  ·obtain⟨sa,x,rfl,_,hx,hcx,hfx⟩:=HA.at_ hlt;have HST:=Hd (a8s b3x hx);obtain⟨T0,hT0⟩:∃ T0,a1w b3x (xs.take k)=T0:=⟨_,rfl⟩;rw[hT0] at hsz HST ⊢;have hnx:=a3c x;have hn9:=HN.out;obtain⟨D,hD⟩:∃ D,numT x=D:=⟨_,rfl⟩;have CN:=a1p (w:=w) hfx;rw[hD] at CN hnx HST;clear hx hT0 hD;have hs1:T0.size+(⟨#[32]⟩:ByteArray).size≤9223372036854775807:=by have:(⟨#[32]⟩:ByteArray).size=1:=rfl;omega
   have hs2:(T0++⟨#[32]⟩).size+D.size≤9223372036854775807:=by rw[ByteArray.size_append];have:(⟨#[32]⟩:ByteArray).size=1:=rfl;omega
   go_wp2_with fail
   refine CN.mono ?_;rintro e1 w1 ⟨rfl,rfl⟩;clear CN;go_wp2;go_round
   case rel=>exact⟨k+1,by omega,by go_num,by rw[HST.out];rfl⟩
   case measure=>simp[intOf];omega
  ·have hkn:k=n:=by omega
   subst hkn;have HE:=Hd (show xs.take k=xs from List.take_of_length_le (by have:=HL.out;omega));rw[HE.out] at hsz ⊢;have hn9:=HN.out;have hs3:(a1w b3x xs).size+(⟨#[32,41]⟩:ByteArray).size≤9223372036854775807:=by have:(⟨#[32,41]⟩:ByteArray).size=2:=rfl;omega
   go_wp2;go_ret;exact⟨rfl,rfl⟩
theorem b5l (w:World):Calls prog 22 #[] w fun e w'=>e=.returned (.slice (some ⟨w.heap.size,0,none⟩) 21 21)∧Sep w w' [.box w.heap.size 9 (opN.map Value.string)]:=by
 have h1:=(Sep.nil w).allocBox w.heap.size 9 (opN.map Value.string) rfl
 go_enter func22,ntmps22
 have H:=Hd h1;clear h1;go_wp2;go_ret;exact⟨rfl,H⟩
theorem c3n (h1:1≤k)(h2:k≤20):(opN.map Value.string)[k]?=some (.string (a5e k)):=by
 rw[a5e,iN (by omega),Int.toNat_natCast,List.getElem?_map,gD];obtain⟨x,hx⟩:∃ x,opN[k]?=some x:=gE (by show k<21;omega);rw[hx];rfl
theorem b0k (w:World)(op:Int):Calls prog 9 #[.int .i64 op] w fun e w'=>e=.returned (.string (a5e op))∧Below w.heap.size w w':=by
 go_enter func9,ntmps9
 by_cases h1:op<1
 ·have d1:decide (op<1)=true:=decide_eq_true h1;have HQ:=Hd (show a5e op=⟨#[]⟩ by rw[a5e,iP (.inl h1)]);go_wp2;go_ret;exact⟨by rw[HQ.out];rfl,Below.refl _ _⟩
 have d1:decide (op<1)=false:=decide_eq_false h1;by_cases h2:20<op
 ·have d2:decide (20<op)=true:=decide_eq_true h2;have HQ:=Hd (show a5e op=⟨#[]⟩ by rw[a5e,iP (.inr h2)]);go_wp2;go_ret;exact⟨by rw[HQ.out];rfl,Below.refl _ _⟩
 have d2:decide (20<op)=false:=decide_eq_false h2;obtain⟨k,rfl⟩:=eZ (show 0≤op by omega);have hk1:1≤k:=by omega
 have hk2:k≤20:=by omega
 have d3:decide (k<1)=false:=decide_eq_false (by omega);have d4:decide (20<k)=false:=decide_eq_false (by omega);clear h1 h2
 go_wp2_with fail
 refine(b5l w).mono ?_;rintro e1 w1 ⟨rfl,hS⟩;have H:=Hd hS;have c1:=H.cell 0 k rfl (c3n hk1 hk2);have d5:decide (21≤k)=false:=decide_eq_false (by omega);clear hS;go_wp2;go_ret;exact⟨rfl,H.base⟩
theorem a7n (z:Int):Fits (wrap64 z):=by unfold wrap64 Fits;omega
def a3m (op a b:Int):Int :=
 if op=4 then wrap64 (-a) else if op=5 then(if a=0 then 1 else 0) else if op=6 then wrap64 (a+b) else if op=7 then wrap64 (a-b)
 else if op=8 then wrap64 (a*b) else if op=9 then(if b<a then b else a) else if op=10 then(if b > a then b else a) else if op=11 then(if a<b then 1 else 0) else 0
theorem b6r (op:Int){a b:Int}(ha:Fits a)(hb:Fits b):Fits (a3m op a b):=by
 have h0:Fits 0:=⟨by omega,by omega⟩;have h1:Fits 1:=⟨by omega,by omega⟩;unfold a3m
 repeat' split
 all_goals first|exact a7n _|assumption
def refused (e:Int):Int × List Int × List Int:=(e,[],[])
def oneR (op:Int) (s d:List Int):Int × List Int × List Int :=
 if op≠4∧op≠5 then refused 1 else if a0a s d then(0,s,d.map fun x=>a3m op x 0) else refused 13
def twoR (op:Int) (s d t k:List Int):Int × List Int × List Int :=
 if op<6∨11<op then refused 1 else if a0a s d&&(a0a t k&&t==s) then(0,s,List.zipWith (a3m op) d k) else refused 13
def b5j:List Int→List Int→List Int→List Int
 | z::c,x::a,y::b=>(if z=0 then y else x)::b5j c a b
 | _,_,_=>[]
def b1k (cs cd s d t k:List Int):Int × List Int × List Int :=
 if a0a cs cd&&(a0a s d&&s==cs&&(a0a t k&&t==cs)) then(0,s,b5j cd d k) else refused 13
def mix (t o:List Int) (j:Nat):List Int:=t.take j++o.drop j
theorem a3q (t o:List Int):mix t o 0=o:=by simp[mix]
theorem b7p (h:t.length=o.length):mix t o o.length=t:=by simp[mix,←h]
theorem b6f (h:t.length=o.length)(j:Nat):(mix t o j).length=o.length:=by simp[mix];omega
theorem c1v (h:t.length=o.length)(hx:t[j]?=some x):(mix t o j).set j x=mix t o (j+1):=by
 have hj:j<t.length:=(lL hx);have hl:(t.take j).length=j:=by simp;omega
 apply List.ext_getElem?;intro i;unfold mix;rw[List.getElem?_set];by_cases hi:j=i
 ·subst hi;rw[iP rfl,iP (by simp;omega),List.getElem?_append_left (by simp;omega),List.getElem?_take,iP (by omega),hx]
 ·rw[iN hi];by_cases hlt:i<j
  ·rw[List.getElem?_append_left (by omega),List.getElem?_append_left (by simp;omega),List.getElem?_take,List.getElem?_take,iP hlt,iP (by omega)]
  ·have hl2:(t.take (j+1)).length=j+1:=by simp;omega
   rw[List.getElem?_append_right (by omega),List.getElem?_append_right (by omega),hl,hl2,List.getElem?_drop,List.getElem?_drop]
   congr 1;omega
theorem c7v (h:t.length=o.length)(hj:j<o.length):(mix t o j)[j]?=o[j]? := by
 have hl:(t.take j).length=j:=by simp;omega
 unfold mix;rw[List.getElem?_append_right (by omega),hl,List.getElem?_drop]
 congr 1;omega
theorem a6k {c:Int}(h:t.length=n)(hj:j<n):(mix t (List.replicate n c) j)[j]?=some c:=by
 rw[c7v (by simpa using h) (by simpa using hj),List.getElem?_replicate,iP hj]
theorem a6j {c:Int}(h:t.length=n):mix t (List.replicate n c) n=t:=by
 have:=b7p (t:=t) (o:=List.replicate n c) (by simpa using h);rwa [List.length_replicate] at this
theorem a4j {c:Int}(h:t.length=n)(hx:t[j]?=some x):(mix t (List.replicate n c) j).set j x=mix t (List.replicate n c) (j+1):=c1v (by simpa using h) hx
theorem d5m {f:Int→Int}(h:d[j]?=some x):(d.map f)[j]?=some (f x):=by simp[h]
theorem d5y {k:List Int}{f:Int→Int→Int}{y:Int}(h:d[j]?=some x)(g:k[j]?=some y):(List.zipWith f d k)[j]?=some (f x y):=by
 rw[List.getElem?_zipWith,h,g]
theorem b2a:∀(c a b:List Int),a.length=c.length→b.length=c.length→(b5j c a b).length=c.length
 | [],_,_,_,_=>by simp[b5j]
 | z::c,[],_,h,_=>by simp at h
 | z::c,x::a,[],_,h=>by simp at h
 | z::c,x::a,y::b,h,g=>by simp[b5j,b2a c a b (by simpa using h) (by simpa using g)]
theorem c3u:∀ {c a b:List Int} {j:Nat} {z x y:Int},c[j]?=some z→a[j]?=some x→b[j]?=some y→(b5j c a b)[j]?=some (if z=0 then y else x)
 | [],_,_,_,_,_,_,h,_,_=>by simp at h
 | _::_,[],_,_,_,_,_,_,h,_=>by simp at h
 | _::_,_::_,[],_,_,_,_,_,_,h=>by simp at h
 | _::c,_::a,_::b,0,_,_,_,h,g,f=>by simp at h g f;subst h;subst g;subst f;simp[b5j]
 | _::c,_::a,_::b,j+1,_,_,_,h,g,f=>by simp at h g f;simp[b5j,c3u h g f]
theorem a1u (h:a0a s d=true):(d.length:Int)=Sh.size s:=by
 simp only[a0a,Bool.and_eq_true,decide_eq_true_eq] at h;exact h.2
theorem a2t (h:a0a s d=true):Sh.right s=true:=by
 simp only[a0a,Bool.and_eq_true,decide_eq_true_eq] at h;exact h.1
theorem a2l (h:a0a s d=true):s.length≤4∧d.length≤4096:=by
 have h2:=Sh.size_bd s;have h3:=a1u h;exact⟨(Sh.right_iff.1 (a2t h)).1,by omega⟩
theorem d4l (ho:op=4∨op=5)(h:a0a s d=true):oneR op s d=(0,s,d.map fun x=>a3m op x 0):=by
 rw[oneR,iN (by omega),iP h]
theorem d2e (ho:op≠4∧op≠5):oneR op s d=refused 1:=by rw[oneR,iP ho]
theorem c5b (ho:op=4∨op=5)(h:a0a s d=false):oneR op s d=refused 13:=by
 rw[oneR,iN (by omega),h];rfl
theorem d3g {k:List Int}(ho:op<6∨11<op):twoR op s d t k=refused 1:=by rw[twoR,iP ho]
theorem d5c {k:List Int}(ho:6≤op∧op≤11)(h:(a0a s d&&(a0a t k&&t==s))=true):twoR op s d t k=(0,s,List.zipWith (a3m op) d k):=by
 rw[twoR,iN (by omega),iP h]
theorem c5t {k:List Int}(ho:6≤op∧op≤11)(h:(a0a s d&&(a0a t k&&t==s))=false):twoR op s d t k=refused 13:=by
 rw[twoR,iN (by omega),h];rfl
end Go.Proofs.YtajhdeddgdhccaaGreatDoor
