import Derived.Test.YtdcmanhgekjhgaaDoorPac
import Derived.Test.YtdcmanhgekjhgaaDoorPaf
set_option maxRecDepth 100000
set_option maxHeartbeats 12800000
namespace Go.Proofs.YtdcmanhgekjhgaaDoor
open Go.RowKit Go.Proofs.Tryd
variable {A:Option Addr} {Q:Exit→Act→World→Prop} {a:Act} {base k n:Nat} {e:TypeId} {l:List a0e} {o:Oper} {ops:Array Oper} {p:Addr} {rest:List Oper} {s x:ByteArray} {v:Value} {w w0:World} {xs:List Int}
variable {P : Program}
theorem Sep.addNil (h:Sep w0 w l)(e:TypeId):Sep w0 w (.own e (.slice none 0 0) 0 []::l) :=
 Sep.cons_ h.1 (OwnS.nil_ _ _ _) h.2.1 (fun _ _ _ k hk=>by cases hk) h.2.2
theorem Sep.noughts (h:Sep w0 w l)(e:TypeId)(n:Nat)(hn:n≤17592186044000):Sep w0 (w.alloc (.cells (noughts n) e)) (.own e (.slice (some ⟨w.heap.size,0,none⟩) n n) n (List.replicate n 0)::l) :=
 h.addOwn ((Below.refl _ _).alloc (Nat.le_refl _) _) (b6a (heap_alloc_new _ _) (Nat.le_refl _) hn)
theorem c5d (w:World)(e:TypeId)(cs:Array Value)(xs:List Int)(hb:base≤w.heap.size)(hc:cs.toList=xs.map (Value.int .i64))(h:c7d xs n=true):
  OwnS (w.alloc (.cells cs e)) base e (.slice (some ⟨w.heap.size,0,none⟩) n n) n xs:=by
 simp only[c7d,Bool.and_eq_true,decide_eq_true_eq,List.all_eq_true] at h;have hs:cs.size=n*1:=by rw[←Array.length_toList,hc,List.length_map];omega
 refine⟨?_,fun x hx=>h.1.1 x hx,by omega⟩;have:=World.ownsRow_lit (e:=e) w cs n hb (by unfold maxLen;omega) hs;rwa [hc] at this
theorem Sep.lit (h:Sep w0 w l)(e:TypeId)(cs:Array Value)(xs:List Int)(n g:Nat)(hg:w.heap.size=g)(hc:cs.toList=xs.map (Value.int .i64))(hl:c7d xs n=true):
  Sep w0 (w.alloc (.cells cs e)) (.own e (.slice (some ⟨g,0,none⟩) n n) n xs::l):=by
 subst hg;exact h.addOwn ((Below.refl _ _).alloc (Nat.le_refl _) _) (c5d w e cs xs (Nat.le_refl _) hc hl)
theorem Sep.empty (h:Sep w0 w l)(e:TypeId):Sep w0 (w.alloc (.cells #[] e)) (.own e (.slice (some ⟨w.heap.size,0,none⟩) 0 0) 0 []::l) :=
 h.addOwn ((Below.refl _ _).alloc (Nat.le_refl _) _) (c1x w e (Nat.le_refl _))
theorem Sep.oldCell (h:Sep w0 w l)(hb:p.block<w0.heap.size)(hc:w0.cell? p=some v):w.cell? p=some v:=(h.base.cell hb).trans hc
theorem Sep.oC (h:Sep w0 w l)(hc:w0.cell? p=some v)(hb:p.block<w0.heap.size):w.cell? p=some v:=h.oldCell hb hc
theorem Sep.oldI (h:Sep w0 w l)(hI:Ints w0 A n xs):Ints w A n xs:=hI.below h.base
theorem a4e (hgd:o.guard=none)(s y:Operand)(t e:TypeId)
  (ho:o.op=.call { callee:=.builtin .append,args:=#[s,y],argTypes:=#[t,t] })(ht:P.underlying t=some (.slice e))
  (hinfo:(P.info? e).map (fun i=>(i.zero,i.size,i.bytes))=some (some (.int .i64 0),1,8))
  (H:Sep w0 w l)(i:Nat)(hi:l[i]?=some (.own e v n xs))(hs:a.eval s=v)(x:Int)(hf:Fits x)(c:Nat)(hy:a.eval y=.slice (some ⟨w.heap.size,0,none⟩) 1 c)
  (hn:n≤17592186043000)
  (h:∀ v' w', Sep w0 w' (l.set i (.own e v' (n+1) (xs++[x])))→wpList P ops Q rest (a.put o.dst v') w'):
  wpList P ops Q (o::rest) a (w.alloc (.cells #[.int .i64 x] e)):=by
 have H':=H.below ((Below.refl w.heap.size w).alloc (Nat.le_refl _) (.cells #[.int .i64 x] e));refine a3n hgd s y t e ho ht hinfo w0.heap.size v n xs hs (H'.ownS i hi) (by have:=H'.size;exact this) _ 1 c [x] hy (b8j w e #[.int .i64 x] [x] rfl (by simpa using hf) 1 rfl (by omega)) (by omega) fun v' w' h1 h2 h3=>h v' w' (H'.grow i hi h2 h1 h3)
theorem a3p (hgd:o.guard=none)(s y:Operand)(t e:TypeId)
  (ho:o.op=.call { callee:=.builtin .append,args:=#[s,y],argTypes:=#[t,t] })(ht:P.underlying t=some (.slice e))
  (hinfo:(P.info? e).map (fun i=>(i.zero,i.size,i.bytes))=some (some (.int .i64 0),1,8))
  (H:Sep w0 w l)(i:Nat)(hi:l[i]?=some (.own e v n xs))(hs:a.eval s=v)(A:Option Addr)(m c:Nat)(ys:List Int)(hy:a.eval y=.slice A m c)(hI:Ints w A m ys)
  (hn:n+m≤17592186044000)
  (h:∀ v' w', Sep w0 w' (l.set i (.own e v' (n+m) (xs++ys)))→wpList P ops Q rest (a.put o.dst v') w'):wpList P ops Q (o::rest) a w :=
 a3n hgd s y t e ho ht hinfo w0.heap.size v n xs hs (H.ownS i hi) H.size A m c ys hy hI hn fun v' w' h1 h2 h3=>h v' w' (H.grow i hi h2 h1 h3)
theorem Sep.tail_ {c:a0e}(h:Sep w0 w (c::l)):Sep w0 w l :=
 ⟨h.1,fun i d hi=>h.2.1 (i+1) d hi,fun i j a b hij hi hj=>h.2.2 (i+1) (j+1) a b (by omega) hi hj⟩
theorem Sep.pair:Sep w0 w l↔Below w0.heap.size w0 w∧(∀ c∈l,a0e.holds w w0.heap.size c)∧l.Pairwise b2y:=by
 constructor
 ·rintro⟨h1,h2,h3⟩;refine⟨h1,fun c hc=>?_,?_⟩
  ·obtain⟨i,hi⟩:=List.getElem?_of_mem hc;exact h2 i c hi
  ·rw[List.pairwise_iff_getElem];intro i j hi hj hij;exact h3 i j _ _ (by omega) (List.getElem?_eq_getElem hi) (List.getElem?_eq_getElem hj)
 ·rintro⟨h1,h2,h3⟩;refine⟨h1,fun i c hi=>h2 c (mG hi),fun i j a b hij hi hj=>?_⟩;rw[List.pairwise_iff_getElem] at h3;obtain⟨hil,rfl⟩:=List.getElem?_eq_some_iff.1 hi;obtain⟨hjl,rfl⟩:=List.getElem?_eq_some_iff.1 hj;rcases Nat.lt_or_ge i j with h|h
  ·exact h3 i j hil hjl h
  ·exact(h3 j i hjl hil (by omega)).symm
theorem Sep.perm {l':List a0e}(h:Sep w0 w l)(hp:l.Perm l'):Sep w0 w l':=by
 obtain⟨h1,h2,h3⟩:=Sep.pair.1 h;exact Sep.pair.2 ⟨h1,fun c hc=>h2 c (hp.mem_iff.2 hc),hp.pairwise h3 fun hab=>hab.symm⟩
theorem OwnS.take {c:Nat}(h:OwnS w base e (.slice A n c) n xs)(hk:k≤n)(h0:0<k):OwnS w base e (.slice A k c) k (xs.take k):=by
 obtain⟨⟨hl,hh⟩,hf,hn⟩:=h;refine⟨⟨by rw[List.map_take,List.length_take,hl];omega,?_⟩,fun x hx=>hf x (List.mem_of_mem_take hx),by omega⟩;rcases hh with ⟨_,h'⟩|⟨g,cap,cur,hv,hb,hg,hnc,hcm,hcs,hct⟩
 ·omega
 ·right
  injection hv with h1 h2 h3
  refine⟨g,cap,cur,by rw[h1,h3],hb,hg,by omega,hcm,hcs,?_⟩;rw[List.map_take,←hct,List.take_take]
  congr 1;omega
theorem Sep.rowForm {us:List Value}(h:Sep w0 w l)(i:Nat)(hi:l[i]?=some (.row e k v n us))(hn:0<n):∃ g c,v=.slice (some ⟨g,0,none⟩) n c∧n≤c:=by
 have hr:w.ownsRow w0.heap.size e k v n us:=h.at_ i hi;rcases hr.2 with ⟨_,h'⟩|⟨g,cap,cur,hv,_,_,hnc,_⟩
 ·omega
 ·exact⟨g,cap,hv,hnc⟩
theorem Sep.addRowNil (h:Sep w0 w l)(e:TypeId)(k:Nat):Sep w0 w (.row e k (.slice none 0 0) 0 []::l) :=
 Sep.cons_ h.1 (World.ownsRow_nil w w0.heap.size e k) h.2.1 (fun _ _ _ b hb=>by cases hb) h.2.2
theorem Sep.ofBelow (h:Below w0.heap.size w0 w):Sep w0 w []:=⟨h,fun i c hi=>by simp at hi,fun i j a b _ hi=>by simp at hi⟩
theorem a9a:∀(f k:Nat),k<10 ^ f→digs (f+1) k=digs f k
 | 0,k,h=>by
  have:k=0:=by simpa using h
  subst this;rfl
 | f+1,k,h=>by
  by_cases hk:k=0
  ·subst hk;rw[digs,digs,iP rfl,iP rfl]
  ·have e:=a9a f (k / 10) (by rw[Nat.pow_succ] at h;omega);rw[digs,iN hk,e,digs,iN hk]
theorem b3h (h0:k≠0)(h:k<10000000000000000000):digs 20 k=digs 20 (k / 10)++b1 (48+k % 10):=by
 rw[a9a 19 (k / 10) (by omega),digs,iN h0]
theorem c0i {d:Nat}(h:d<10):Utf8.encode ((48+d:Nat):Int)=b1 (48+d):=by
 have:∀ j:Fin 10,Utf8.encode ((48+j.val:Nat):Int)=b1 (48+j.val):=by decide
 exact this ⟨d,h⟩
theorem b9y (n:Nat):(b1 n).size=1:=rfl
theorem b0h {n:Int}(hn:Fits n):
  Calls prog 4 #[.int .i64 n] w fun e w'=>e=.returned (.string (numT n))∧w'=w:=by
 go_enter func4,ntmps4
 by_cases h0:n=0
 ·subst h0;go_wp2;go_ret;exact⟨rfl,rfl⟩
 have e0:(n==0)=false:=by simpa using h0
 by_cases hp:0<n
 ·obtain⟨N,rfl⟩:=eZ (show 0≤n by omega);have hN:N≤9223372036854775807:=by have:=hn.2;omega
  go_wp2_with fail
  have HN0:=Hd h0;clear h0 e0;have e0:((N:Int)==0)=false:=by simpa using HN0.out
  have en:decide ((N:Int)<0)=false:=by simp
  go_loop [3,4,5] (fun sv kv _=>∃(M:Nat) (S:ByteArray),M≤N∧kv=.int .i64 M∧sv=.string S∧digs 20 N=digs 20 M++S) (fun _ kv _=>(intOf kv).toNat)
  case atStart=>exact⟨N,⟨#[]⟩,Nat.le_refl _,rfl,rfl,(ByteArray.append_empty).symm⟩
  case round =>
   obtain⟨M,S,hM,rfl,rfl,hE⟩:=hrel;have hsz:S.size≤20:=by have:=a3v 20 N;rw[hE,ByteArray.size_append] at this;omega
   have HE:=Hd hE;clear hE;by_cases hz:M=0
   ·subst hz;go_wp2;go_ret;have:=HE.out;rw[show digs 20 0=⟨#[]⟩ from rfl] at this;refine⟨?_,rfl⟩;rw[numT,iN HN0.out,iN (by omega),Int.natAbs_natCast,this]
    rfl
   ·have ez:((M:Int) != 0)=true:=by simpa using hz
    have HS:=Hd (b3h hz (by omega:M < 10000000000000000000));obtain⟨e,he⟩:∃ e:Int,e=((M % 10:Nat):Int):=⟨_,rfl⟩;obtain⟨q,hq⟩:∃ q,M / 10=q:=⟨_,rfl⟩;have he0:0≤e:=by omega
    have he9:e<10:=by omega
    have hqM:q<M:=by omega
    rw[hq] at HS;have HD:=Hd (show Utf8.encode (48+e)=b1 (48+M % 10) by rw[he];exact c0i (d:=M % 10) (by omega));have hsum:(Utf8.encode (48+e)).size+S.size≤9223372036854775807:=by rw[HD.out,b9y];omega
    have hmod:(M:Int) % 10=e:=by omega
    have hdiv:(M:Int) / 10=(q:Int):=by omega
    clear hq he;clear ez;have ez:((M:Int) != 0)=true:=by simpa using hz
    go_wp2;go_round
    case rel=>exact⟨q,_,by omega,rfl,rfl,by rw[HE.out,HS.out,HD.out,ByteArray.append_assoc]⟩
    case measure=>simp[intOf];omega
 ·obtain⟨N,rfl⟩:∃ N:Nat,n = -(N:Int):=⟨n.natAbs,by omega⟩;have hN:N≤9223372036854775808:=by have:=hn.1;omega
  have HN0:=Hd h0;have hNp:0<N:=by omega
  go_wp2_with fail
  clear h0 e0;have e0:(-(N:Int)==0)=false:=by simpa using HN0.out
  have en:decide (-(N:Int)<0)=true:=decide_eq_true (by omega);have en2:decide (0<(N:Int))=true:=decide_eq_true (by omega);have en3:decide (0<N)=true:=decide_eq_true (by omega)
  go_loop [3,4,5] (fun sv kv _=>∃(M:Nat) (S:ByteArray),M≤N∧kv=.int .i64 (-(M:Int))∧sv=.string S∧digs 20 N=digs 20 M++S) (fun _ kv _=>(-(intOf kv)).toNat)
  case atStart=>exact⟨N,⟨#[]⟩,Nat.le_refl _,rfl,rfl,(ByteArray.append_empty).symm⟩
  case round =>
   obtain⟨M,S,hM,rfl,rfl,hE⟩:=hrel;have hsz:S.size≤20:=by have:=a3v 20 N;rw[hE,ByteArray.size_append] at this;omega
   have HE:=Hd hE;clear hE;by_cases hz:M=0
   ·subst hz;have ez:(-((0:Nat):Int) != 0)=false:=by simp
    go_wp2;go_ret;have:=HE.out;rw[show digs 20 0=⟨#[]⟩ from rfl] at this;refine⟨?_,rfl⟩;rw[numT,iN (by omega),iP (by omega),Int.natAbs_neg,Int.natAbs_natCast,this]
    rfl
   ·have ez:(-(M:Int) != 0)=true:=by simpa using hz
    have HS:=Hd (b3h hz (by omega:M < 10000000000000000000));obtain⟨e,he⟩:∃ e:Int,e=((M % 10:Nat):Int):=⟨_,rfl⟩;obtain⟨q,hq⟩:∃ q,M / 10=q:=⟨_,rfl⟩;have he0:0≤e:=by omega
    have he9:e<10:=by omega
    have hqM:q<M:=by omega
    rw[hq] at HS;have HD:=Hd (show Utf8.encode (48+e)=b1 (48+M % 10) by rw[he];exact c0i (d:=M % 10) (by omega));have hsum:(Utf8.encode (48+e)).size+S.size≤9223372036854775807:=by rw[HD.out,b9y];omega
    have hmod:(-(M:Int)).tmod 10 = -e:=by rw[Int.neg_tmod,he];rfl
    have hdiv:(-(M:Int)).tdiv 10 = -(q:Int):=by rw[Int.neg_tdiv,←hq];rfl
    clear hq he;by_cases hez:0<e
    ·have dz:decide (0<e)=true:=decide_eq_true hez;go_wp2;go_round
     case rel=>exact⟨q,_,by omega,rfl,rfl,by rw[HE.out,HS.out,HD.out,ByteArray.append_assoc]⟩
     case measure=>simp[intOf];omega
    ·have dz:decide (0<e)=false:=decide_eq_false hez;have hsum2:(Utf8.encode (48 + -e)).size+S.size≤9223372036854775807:=by rw[show(48 + -e:Int)=48+e by omega];exact hsum
     have HD2:=Hd (show Utf8.encode (48 + -e)=b1 (48+M % 10) by rw[show(48 + -e:Int)=48+e by omega];exact HD);go_wp2;go_round
     case rel=>exact⟨q,_,by omega,rfl,rfl,by rw[HE.out,HS.out,HD2.out,ByteArray.append_assoc]⟩
     case measure=>simp[intOf];omega
theorem b7e (h1:1≤k)(h2:k≤20):(opN.map Value.string)[k]?=some (.string (a3f k)):=by
 rw[a3f,iN (by omega),Int.toNat_natCast,List.getElem?_map,gD];obtain⟨x,hx⟩:∃ x,opN[k]?=some x:=gE (by show k<21;omega);rw[hx];rfl
theorem c7a:(prog.info? 9).map (fun i=>(i.zero,i.size,i.bytes))=some (some (.string ⟨#[]⟩),1,16):=by kernel_rfl
theorem b2j:∃ i,prog.info? 9=some i∧i.zero=some (.string ⟨#[]⟩)∧i.size=1∧i.bytes=16:=by
 have h:=c7a
 cases e:prog.info? 9 with
 | none=>rw[e] at h;cases h
 | some i =>
  rw[e] at h;simp only[Option.map_some,Option.some.injEq,Prod.mk.injEq] at h;exact⟨i,rfl,h.1,h.2.1,h.2.2⟩
def a7b (w:World) (L:List ByteArray) (v:Value) (w' : World):Prop:=∃ n,Sep w w' [.row 9 1 v n (L.map Value.string)]
def a0s (s:ByteArray):List ByteArray × Bool:=((a0u 10 (bl s)).dropLast.map ofL,decide ((a0u 10 (bl s)).getLast? = some []))
def opI (s:ByteArray):List ByteArray→Nat→Int
 | [],_=>0
 | x::l,k=>if 0<k∧x=s then(k:Int) else opI s l (k+1)
def opF (s:ByteArray):Int:=opI s opN 0
theorem b7j (h:opN[k]?=some x):opI s (opN.drop k) k=if 0<k∧x=s then(k:Int) else opI s (opN.drop (k+1)) (k+1):=by
 obtain⟨h3,h4⟩:=List.getElem?_eq_some_iff.1 h;rw[List.drop_eq_getElem_cons h3,h4,opI]
theorem eqS:(x.toList==s.toList)=decide (x=s):=by
 rw[ByteArray.toList_eq,ByteArray.toList_eq];by_cases h:x=s
 ·subst h;simp
 ·rw[decide_eq_false h];apply beq_eq_false_iff_ne.2;intro e;exact h (c0b e)
end Go.Proofs.YtdcmanhgekjhgaaDoor
