import Derived.Test.YtdcmanhgekjhgaaGreatDoorPab
import Derived.Test.YtdcmanhgekjhgaaGreatDoorPae
set_option maxRecDepth 100000
set_option maxHeartbeats 12800000
namespace Go.Proofs.YtdcmanhgekjhgaaGreatDoor
open Go.RowKit Go.Proofs.Tryz
variable {c n op x:Int} {d k o s t:List Int} {j:Nat} {w:World}
theorem b7c:∀(f k:Nat),k<10 ^ f→digs (f+1) k=digs f k
 | 0,k,h=>by
  have:k=0:=by simpa using h
  subst this;rfl
 | f+1,k,h=>by
  by_cases hk:k=0
  ·subst hk;rw[digs,digs,iP rfl,iP rfl]
  ·have e:=b7c f (k / 10) (by rw[Nat.pow_succ] at h;omega);rw[digs,iN hk,e,digs,iN hk]
theorem c4z {k:Nat}(h0:k≠0)(h:k<10000000000000000000):digs 20 k=digs 20 (k / 10)++b1 (48+k % 10):=by
 rw[b7c 19 (k / 10) (by omega),digs,iN h0]
theorem d5o {d:Nat}(h:d<10):Utf8.encode ((48+d:Nat):Int)=b1 (48+d):=by
 have:∀ j:Fin 10,Utf8.encode ((48+j.val:Nat):Int)=b1 (48+j.val):=by decide
 exact this ⟨d,h⟩
theorem d4y (n:Nat):(b1 n).size=1:=rfl
theorem a2d (hn:Fits n):
  Calls prog 18 #[.int .i64 n] w fun e w'=>e=.returned (.string (numT n))∧w'=w:=by
 go_enter func18,ntmps18
 by_cases h0:n=0
 ·subst h0;go_wp2;go_ret;exact⟨rfl,rfl⟩
 have e0:(n==0)=false:=by simpa using h0
 by_cases hp:0<n
 ·obtain⟨N,rfl⟩:=eZ (show 0≤n by omega);have hN:N≤9223372036854775807:=by have:=hn.2;omega
  go_wp2_with fail
  have HN0:=Hd h0;clear h0 e0;have e0:((N:Int)==0)=false:=by simpa using HN0.out
  have en:decide ((N:Int)<0)=false:=by simp
  go_loop [3,4,5] (fun sv kv _=>∃(M:Nat) (S:ByteArray),M≤N∧kv=.int .i64 M∧sv=.string S∧digs 20 N=digs 20 M++S) (fun _ kv _=>(intOf kv).toNat)
  case atStart=>exact⟨N,⟨#[]⟩,Nat.le_refl _,rfl,rfl,(ByteArray.append_empty).symm⟩
  case round =>
   obtain⟨M,S,hM,rfl,rfl,hE⟩:=hrel;have hsz:S.size≤20:=by have:=a8j 20 N;rw[hE,ByteArray.size_append] at this;omega
   have HE:=Hd hE;clear hE;by_cases hz:M=0
   ·subst hz;go_wp2;go_ret;have:=HE.out;rw[show digs 20 0=⟨#[]⟩ from rfl] at this;refine⟨?_,rfl⟩;rw[numT,iN HN0.out,iN (by omega),Int.natAbs_natCast,this]
    rfl
   ·have ez:((M:Int) != 0)=true:=by simpa using hz
    have HS:=Hd (c4z hz (by omega:M < 10000000000000000000));obtain⟨e,he⟩:∃ e:Int,e=((M % 10:Nat):Int):=⟨_,rfl⟩;obtain⟨q,hq⟩:∃ q,M / 10=q:=⟨_,rfl⟩;have he0:0≤e:=by omega
    have he9:e<10:=by omega
    have hqM:q<M:=by omega
    rw[hq] at HS;have HD:=Hd (show Utf8.encode (48+e)=b1 (48+M % 10) by rw[he];exact d5o (d:=M % 10) (by omega));have hsum:(Utf8.encode (48+e)).size+S.size≤9223372036854775807:=by rw[HD.out,d4y];omega
    have hmod:(M:Int) % 10=e:=by omega
    have hdiv:(M:Int) / 10=(q:Int):=by omega
    clear hq he;clear ez;have ez:((M:Int) != 0)=true:=by simpa using hz
    go_wp2;go_round
    case rel=>exact⟨q,_,by omega,rfl,rfl,by rw[HE.out,HS.out,HD.out,ByteArray.append_assoc]⟩
    case measure=>simp[intOf];omega
 ·obtain⟨N,rfl⟩:∃ N:Nat,n = -(N:Int):=⟨n.natAbs,by omega⟩;have hN:N≤9223372036854775808:=by have:=hn.1;omega
  have HN0:=Hd h0;have hNp:0<N:=by omega
  go_wp2_with fail
  clear h0 e0;have e0:(-(N:Int)==0)=false:=by simpa using HN0.out
  have en:decide (-(N:Int)<0)=true:=decide_eq_true (by omega);have en2:decide (0<(N:Int))=true:=decide_eq_true (by omega);have en3:decide (0<N)=true:=decide_eq_true (by omega)
  go_loop [3,4,5] (fun sv kv _=>∃(M:Nat) (S:ByteArray),M≤N∧kv=.int .i64 (-(M:Int))∧sv=.string S∧digs 20 N=digs 20 M++S) (fun _ kv _=>(-(intOf kv)).toNat)
  case atStart=>exact⟨N,⟨#[]⟩,Nat.le_refl _,rfl,rfl,(ByteArray.append_empty).symm⟩
  case round =>
   obtain⟨M,S,hM,rfl,rfl,hE⟩:=hrel;have hsz:S.size≤20:=by have:=a8j 20 N;rw[hE,ByteArray.size_append] at this;omega
   have HE:=Hd hE;clear hE;by_cases hz:M=0
   ·subst hz;have ez:(-((0:Nat):Int) != 0)=false:=by simp
    go_wp2;go_ret;have:=HE.out;rw[show digs 20 0=⟨#[]⟩ from rfl] at this;refine⟨?_,rfl⟩;rw[numT,iN (by omega),iP (by omega),Int.natAbs_neg,Int.natAbs_natCast,this]
    rfl
   ·have ez:(-(M:Int) != 0)=true:=by simpa using hz
    have HS:=Hd (c4z hz (by omega:M < 10000000000000000000));obtain⟨e,he⟩:∃ e:Int,e=((M % 10:Nat):Int):=⟨_,rfl⟩;obtain⟨q,hq⟩:∃ q,M / 10=q:=⟨_,rfl⟩;have he0:0≤e:=by omega
    have he9:e<10:=by omega
    have hqM:q<M:=by omega
    rw[hq] at HS;have HD:=Hd (show Utf8.encode (48+e)=b1 (48+M % 10) by rw[he];exact d5o (d:=M % 10) (by omega));have hsum:(Utf8.encode (48+e)).size+S.size≤9223372036854775807:=by rw[HD.out,d4y];omega
    have hmod:(-(M:Int)).tmod 10 = -e:=by rw[Int.neg_tmod,he];rfl
    have hdiv:(-(M:Int)).tdiv 10 = -(q:Int):=by rw[Int.neg_tdiv,←hq];rfl
    clear hq he;by_cases hez:0<e
    ·have dz:decide (0<e)=true:=decide_eq_true hez;go_wp2;go_round
     case rel=>exact⟨q,_,by omega,rfl,rfl,by rw[HE.out,HS.out,HD.out,ByteArray.append_assoc]⟩
     case measure=>simp[intOf];omega
    ·have dz:decide (0<e)=false:=decide_eq_false hez;have hsum2:(Utf8.encode (48 + -e)).size+S.size≤9223372036854775807:=by rw[show(48 + -e:Int)=48+e by omega];exact hsum
     have HD2:=Hd (show Utf8.encode (48 + -e)=b1 (48+M % 10) by rw[show(48 + -e:Int)=48+e by omega];exact HD);go_wp2;go_round
     case rel=>exact⟨q,_,by omega,rfl,rfl,by rw[HE.out,HS.out,HD2.out,ByteArray.append_assoc]⟩
     case measure=>simp[intOf];omega
theorem a9e {A:Option Addr}{n c:Nat}{xs:List Int}(hA:Ints w A n xs)(hn:n≤17592186044000):
  Calls prog 20 #[.slice A n c] w fun e w'=>e=.returned (.string (a7c xs))∧w'=w:=by
 have HA:=Hd hA;have HL:=Hd hA.len;have HN:=Hd hn;have hle:=hA.le;clear hA hn
 go_enter func20,ntmps20
 go_wp2_with fail
 go_loop [7,3] (fun iv sv=>∃ k:Nat,k≤n∧iv=.int .i64 k∧sv=.string (a3j b8r (xs.take k))) (fun iv _=>n-(intOf iv).toNat)
 case atStart=>exact⟨0,Nat.zero_le _,rfl,rfl⟩
 case round =>
  obtain⟨k,hk,rfl,rfl⟩:=hrel;have hsz:=a4s xs k b8r (by have:=HL.out;omega);rw[show b8r.size=2 from rfl] at hsz;by_cases hlt:k<n
  ·obtain⟨sa,x,rfl,_,hx,hcx,hfx⟩:=HA.at_ hlt;have HST:=Hd (b1k b8r hx);obtain⟨T0,hT0⟩:∃ T0,a3j b8r (xs.take k)=T0:=⟨_,rfl⟩;rw[hT0] at hsz HST ⊢;have hnx:=a3y x;have hn9:=HN.out;obtain⟨D,hD⟩:∃ D,numT x=D:=⟨_,rfl⟩;have CN:=a2d (w:=w) hfx;rw[hD] at CN hnx HST;clear hx hT0 hD;have hs1:T0.size+(⟨#[32]⟩:ByteArray).size≤9223372036854775807:=by have:(⟨#[32]⟩:ByteArray).size=1:=rfl;omega
   have hs2:(T0++⟨#[32]⟩).size+D.size≤9223372036854775807:=by rw[ByteArray.size_append];have:(⟨#[32]⟩:ByteArray).size=1:=rfl;omega
   go_wp2_with fail
   refine CN.mono ?_;rintro e1 w1 ⟨rfl,rfl⟩;clear CN;go_wp2;go_round
   case rel=>exact⟨k+1,by omega,by go_num,by rw[HST.out];rfl⟩
   case measure=>simp[intOf];omega
  ·have hkn:k=n:=by omega
   subst hkn;have HE:=Hd (show xs.take k=xs from List.take_of_length_le (by have:=HL.out;omega));rw[HE.out] at hsz ⊢;have hn9:=HN.out;have hs3:(a3j b8r xs).size+(⟨#[32,41]⟩:ByteArray).size≤9223372036854775807:=by have:(⟨#[32,41]⟩:ByteArray).size=2:=rfl;omega
   go_wp2;go_ret;exact⟨rfl,rfl⟩
theorem b1x (w:World):Calls prog 42 #[] w fun e w'=>e=.returned (.slice (some ⟨w.heap.size,0,none⟩) 21 21)∧Sep w w' [.box w.heap.size 9 (opN.map Value.string)]:=by
 have h1:=(Sep.nil w).allocBox w.heap.size 9 (opN.map Value.string) rfl
 go_enter func42,ntmps42
 have H:=Hd h1;clear h1;go_wp2;go_ret;exact⟨rfl,H⟩
theorem c3f {k:Nat}(h1:1≤k)(h2:k≤20):(opN.map Value.string)[k]?=some (.string (a5s k)):=by
 rw[a5s,iN (by omega),Int.toNat_natCast,List.getElem?_map,gD];obtain⟨x,hx⟩:∃ x,opN[k]?=some x:=gE (by show k<21;omega);rw[hx];rfl
theorem c3q (w:World)(op:Int):Calls prog 19 #[.int .i64 op] w fun e w'=>e=.returned (.string (a5s op))∧Below w.heap.size w w':=by
 go_enter func19,ntmps19
 by_cases h1:op<1
 ·have d1:decide (op<1)=true:=decide_eq_true h1;have HQ:=Hd (show a5s op=⟨#[]⟩ by rw[a5s,iP (.inl h1)]);go_wp2;go_ret;exact⟨by rw[HQ.out];rfl,Below.refl _ _⟩
 have d1:decide (op<1)=false:=decide_eq_false h1;by_cases h2:20<op
 ·have d2:decide (20<op)=true:=decide_eq_true h2;have HQ:=Hd (show a5s op=⟨#[]⟩ by rw[a5s,iP (.inr h2)]);go_wp2;go_ret;exact⟨by rw[HQ.out];rfl,Below.refl _ _⟩
 have d2:decide (20<op)=false:=decide_eq_false h2;obtain⟨k,rfl⟩:=eZ (show 0≤op by omega);have hk1:1≤k:=by omega
 have hk2:k≤20:=by omega
 have d3:decide (k<1)=false:=decide_eq_false (by omega);have d4:decide (20<k)=false:=decide_eq_false (by omega);clear h1 h2
 go_wp2_with fail
 refine(b1x w).mono ?_;rintro e1 w1 ⟨rfl,hS⟩;have H:=Hd hS;have c1:=H.cell 0 k rfl (c3f hk1 hk2);have d5:decide (21≤k)=false:=decide_eq_false (by omega);clear hS;go_wp2;go_ret;exact⟨rfl,H.base⟩
theorem e4y:(prog.info? 9).map (fun i=>(i.zero,i.size,i.bytes))=some (some (.string ⟨#[]⟩),1,16):=by kernel_rfl
theorem b3d:∃ i,prog.info? 9=some i∧i.zero=some (.string ⟨#[]⟩)∧i.size=1∧i.bytes=16:=by
 have h:=e4y
 cases e:prog.info? 9 with
 | none=>rw[e] at h;cases h
 | some i =>
  rw[e] at h;simp only[Option.map_some,Option.some.injEq,Prod.mk.injEq] at h;exact⟨i,rfl,h.1,h.2.1,h.2.2⟩
theorem a5z {w0:World}{ops:Array Oper}{rest:List Oper}{o:Oper}{a:Act}{Q:Exit→Act→World→Prop}(hgd:o.guard=none)(s y:Operand)(t:TypeId)
  (ho:o.op=.call { callee:=.builtin .append,args:=#[s,y],argTypes:=#[t,t] })(ht:prog.underlying t=some (.slice 9))
  {l:List a0e}(H:Sep w0 w l)(i:Nat){v:Value}{n:Nat}{us:List Value}(hi:l[i]?=some (.row 9 1 v n us))(hs:a.eval s=v){x:ByteArray}(c:Nat)(hy:a.eval y=.slice (some ⟨w.heap.size,0,none⟩) 1 c)
  (hn:n≤100000)
  (h:∀ v' w', Sep w0 w' (l.set i (.row 9 1 v' (n+1) (us++[.string x])))→wpList prog ops Q rest (a.put o.dst v') w'):
  wpList prog ops Q (o::rest) a (w.alloc (.cells #[.string x] 9)):=by
 obtain⟨ti,h1,h2,h3,h4⟩:=b3d;have H':=H.below ((Below.refl w.heap.size w).alloc (Nat.le_refl _) (.cells #[.string x] 9));have hsz:=H'.size;refine wpList_append_own_at _ hgd s y t ho w0.heap.size 9 ti _ 1 16 ht h1 h2 h3 h4 (by rfl) (by omega) v n us hs (H'.at_ i hi) ⟨w.heap.size,0,none⟩ 1 c [.string x] hy rfl ?_ (by simp[Value.oneCell']) (by unfold maxLen;omega) (by omega) hsz ?_
 ·intro j u hj;have hb:=heap_alloc_new w (.cells #[.string x] 9)
  match j,hj with
  | 0,hj=>simp at hj;subst hj;exact cell_of_row _ _ 0 _ _ _ hb
  | j+1,hj=>simp at hj
 ·intro v' w' h5 h6 _ h8
  exact h v' w' (H'.change i hi h6 h5 fun b hb=>by
   have hb:v'.ownBlock=some b:=hb;rcases h8 with e|e
   ·exact .inl (e.symm.trans hb)
   ·rw[e] at hb;injection hb with hb;subst hb;exact .inr (Nat.le_refl _))
def a9q (w:World) (L:List ByteArray) (v:Value) (w' : World):Prop:=∃ n,Sep w w' [.row 9 1 v n (L.map Value.string)]
theorem a6b (w:World)(s:ByteArray)(hs:s.size≤90000):
  Calls prog 31 #[.string s] w fun e w'=>∃ v,e=.returned v∧a9q w (a0u s) v w':=by
 go_enter func31,ntmps31
 have H:=Hd ((Sep.nil w).addRowNil 9 1)
 go_wp2_with fail
 go_loopw [5,4,3] (fun iv av sv wr=>∃(i a:Nat) (us:List Value) (x:Value),x=sv∧iv=.int .i64 i∧av=.int .i64 a∧a≤i∧i≤s.size∧us.length≤i∧NoC 32 s a i∧us++((a1n 32 ((bl s).drop a)).map ofL).map Value.string=(a0u s).map Value.string∧Sep w wr [.row 9 1 x us.length us]) (fun iv _ _ _=>s.size-(intOf iv).toNat)
 case atStart=>exact⟨0,0,[],_,rfl,rfl,rfl,by omega,by omega,by simp,NoC.nil _ _ _,rfl,H⟩
 case round =>
  clear H;obtain⟨i,a,us,x,rfl,rfl,rfl,ha,hi,hul,hN,hE,hS⟩:=hrel;have H:=Hd hS;have HN:=Hd hN;have HE:=Hd hE;clear hS hN hE;by_cases hlt:i<s.size
  ·by_cases hb:(s[i].toNat:Int)=32
   ·have db:((s[i].toNat:Int)==32)=true:=by simpa using hb
    have hb2:s[i]=32:=UInt8.toNat.inj (by rw[show s[i].toNat=32 by omega];rfl)
    have HE2:=Hd (show(us++[Value.string (s.extract a i)])++((a1n 32 ((bl s).drop (i+1))).map ofL).map Value.string=(a0u s).map Value.string by
     rw[←HE.out,c4a HN.out ha hlt hb2,List.map_cons,b1t,List.append_assoc];rfl)
    clear hb hb2
    go_wp2_with (at_builtin;refine a5z rfl (.tmp 16) (.tmp 21) 32 rfl underlying32 H.out 0 rfl rfl _ rfl ?c1 ?_)
    case c1=>omega
    intro v2 w2 h2;have H2:=Hd h2;clear h2;go_wp2;go_roundw
    case rel=>exact⟨i+1,i+1,us++[Value.string (s.extract a i)],v2,rfl,by go_num,by go_num,by omega,by omega,by rw[List.length_append];show us.length+1≤i+1;omega,NoC.nil _ _ _,HE2,by have:=H2.out;rw[List.length_append];exact this⟩
    case measure=>simp[intOf];omega
   ·have db:((s[i].toNat:Int)==32)=false:=by simpa using hb
    have hb2:s[i]≠32:=fun e=>hb (by rw[e];rfl)
    have HN2:=Hd (HN.step hlt hb2);clear hb hb2;go_wp2;go_roundw
    case rel=>exact⟨i+1,a,us,x,rfl,by go_num,rfl,by omega,by omega,by omega,HN2,HE,H⟩
    case measure=>simp[intOf];omega
  ·obtain rfl:s.size=i:=by omega
   have HE2:=Hd (show us++[Value.string (s.extract a s.size)]=(a0u s).map Value.string by
    rw[←HE.out,b4z HN.out,List.map_cons,b1t];rfl)
   go_wp2_with (at_builtin;refine a5z rfl (.tmp 25) (.tmp 29) 32 rfl underlying32 H.out 0 rfl rfl _ rfl ?c1 ?_)
   case c1=>omega
   intro v2 w2 h2;have H2:=Hd h2;clear h2;go_wp2;go_ret;exact⟨_,rfl,us.length+1,by rw[←HE2.out];exact H2⟩
def a0z (s:ByteArray):List ByteArray × Bool:=((a1n 10 (bl s)).dropLast.map ofL,decide ((a1n 10 (bl s)).getLast? = some []))
theorem d6r {s:ByteArray}{U:List (List UInt8)}{a:Nat}(h:U++a1n 10 ((bl s).drop a)=a1n 10 (bl s))(ha:a≤s.size)(hN:NoC 10 s a s.size):a0z s=(U.map ofL,decide (a=s.size)):=by
 rw[b4z hN] at h;unfold a0z;rw[←h,List.dropLast_concat,List.getLast?_concat]
 congr 1
 rw[decide_eq_decide]
 constructor
 ·intro e;have e2:bl (s.extract a s.size)=[]:=by injection e
  have e3:=congrArg List.length e2;rw[b2y,a6y,List.length_drop,List.length_take,a3w] at e3;simp at e3;omega
 ·intro e;subst e;rw[b2y,a6y,List.drop_eq_nil_of_le (by rw[List.length_take];omega)]
theorem c0l (w:World)(s:ByteArray)(hs:s.size≤90000):
  Calls prog 52 #[.string s] w fun e w'=>∃ v,e=.returned (.tuple #[v,.bool (a0z s).2])∧a9q w (a0z s).1 v w':=by
 go_enter func52,ntmps52
 have H:=Hd ((Sep.nil w).addRowNil 9 1)
 go_wp2_with fail
 go_loopw [6,5,4] (fun iv av sv wr=>∃(i a:Nat) (U:List (List UInt8)) (x:Value),x=sv∧iv=.int .i64 i∧av=.int .i64 a∧a≤i∧i≤s.size∧U.length≤i∧NoC 10 s a i∧U++a1n 10 ((bl s).drop a)=a1n 10 (bl s)∧Sep w wr [.row 9 1 x U.length ((U.map ofL).map Value.string)]) (fun iv _ _ _=>s.size-(intOf iv).toNat)
 case atStart=>exact⟨0,0,[],_,rfl,rfl,rfl,by omega,by omega,by simp,NoC.nil _ _ _,rfl,H⟩
 case round =>
  clear H;obtain⟨i,a,U,x,rfl,rfl,rfl,ha,hi,hul,hN,hE,hS⟩:=hrel;have H:=Hd hS;have HN:=Hd hN;have HE:=Hd hE;clear hS hN hE;by_cases hlt:i<s.size
  ·by_cases hb:(s[i].toNat:Int)=10
   ·have db:((s[i].toNat:Int)==10)=true:=by simpa using hb
    have hb2:s[i]=10:=UInt8.toNat.inj (by rw[show s[i].toNat=10 by omega];rfl)
    have HE2:=Hd (show(U++[bl (s.extract a i)])++a1n 10 ((bl s).drop (i+1))=a1n 10 (bl s) by
     rw[←HE.out,c4a HN.out ha hlt hb2,List.append_assoc];rfl)
    clear hb hb2
    go_wp2_with (at_builtin;refine a5z rfl (.tmp 17) (.tmp 22) 32 rfl underlying32 H.out 0 rfl rfl _ rfl ?c1 ?_)
    case c1=>omega
    intro v2 w2 h2;have H2:=Hd h2;clear h2;go_wp2;go_roundw
    case rel=>exact⟨i+1,i+1,U++[bl (s.extract a i)],v2,rfl,by go_num,by go_num,by omega,by omega,by rw[List.length_append];show U.length+1≤i+1;omega,NoC.nil _ _ _,HE2,by have:=H2.out;rw[List.length_append,List.map_append,List.map_append,List.map_singleton,List.map_singleton,b1t,List.map_map];exact this⟩
    case measure=>simp[intOf];omega
   ·have db:((s[i].toNat:Int)==10)=false:=by simpa using hb
    have hb2:s[i]≠10:=fun e=>hb (by rw[e];rfl)
    have HN2:=Hd (HN.step hlt hb2);clear hb hb2;go_wp2;go_roundw
    case rel=>exact⟨i+1,a,U,x,rfl,by go_num,rfl,by omega,by omega,by omega,HN2,HE,H⟩
    case measure=>simp[intOf];omega
  ·obtain rfl:s.size=i:=by omega
   have HX:=Hd (d6r HE ha HN);by_cases hq:a=s.size
   ·have dq:((a:Int)==(s.size:Int))=true:=by simp[hq]
    have HY:=Hd (show a0z s=(U.map ofL,true) by rw[HX.out,decide_eq_true hq]);clear hq;go_wp2;go_ret2;rw[HY.out];exact⟨_,rfl,_,H⟩
   ·have dq:((a:Int)==(s.size:Int))=false:=by simp;omega
    have HY:=Hd (show a0z s=(U.map ofL,false) by rw[HX.out,decide_eq_false hq]);clear hq;go_wp2;go_ret2;rw[HY.out];exact⟨_,rfl,_,H⟩
def opI (s:ByteArray):List ByteArray→Nat→Int
 | [],_=>0
 | x::l,k=>if 0<k∧x=s then(k:Int) else opI s l (k+1)
def opF (s:ByteArray):Int:=opI s opN 0
theorem c3j {s x:ByteArray}{k:Nat}(h:opN[k]?=some x):opI s (opN.drop k) k=if 0<k∧x=s then(k:Int) else opI s (opN.drop (k+1)) (k+1):=by
 obtain⟨h3,h4⟩:=List.getElem?_eq_some_iff.1 h;rw[List.drop_eq_getElem_cons h3,h4,opI]
theorem eqS {x s:ByteArray}:(x.toList==s.toList)=decide (x=s):=by
 rw[ByteArray.toList_eq,ByteArray.toList_eq];by_cases h:x=s
 ·subst h;simp
 ·rw[decide_eq_false h];apply beq_eq_false_iff_ne.2;intro e;exact h (d5b e)
theorem c9j (w:World)(s:ByteArray):
  Calls prog 92 #[.string s] w fun e w'=>e=.returned (.int .i64 (opF s))∧Below w.heap.size w w':=by
 go_enter func92,ntmps92
 go_wp2_with fail
 refine(b1x w).mono ?_;rintro e1 w1 ⟨rfl,hS⟩;have H:=Hd hS;clear hS
 go_wp2_with fail
 go_loop [7] (fun iv=>∃ i:Nat,iv=.int .i64 i∧i≤21∧opI s (opN.drop i) i=opF s) (fun iv=>21-(intOf iv).toNat)
 case atStart=>exact⟨0,rfl,by omega,rfl⟩
 case round =>
  obtain⟨i,rfl,hi,hE⟩:=hrel;have HE:=Hd hE;clear hE;by_cases hlt:i<21
  ·have d0:decide ((i:Int)<21)=true:=by simp;omega
   obtain⟨x,hx⟩:∃ x,opN[i]?=some x:=gE (by show i<21;exact hlt);have HST:=Hd (c3j (s:=s) hx);have c0:=H.cell 0 i rfl (show(opN.map Value.string)[i]?=some (.string x) by rw[List.getElem?_map,hx];rfl);clear hx;by_cases h0:0<i
   ·have d1:decide (0<(i:Int))=true:=by simp;omega
    have d1n:decide (0<i)=true:=decide_eq_true h0;by_cases hq:x=s
    ·have dq:(x.toList==s.toList)=true:=by rw[eqS,decide_eq_true hq]
     have HY:=Hd (show opF s=(i:Int) by rw[←HE.out,HST.out,iP ⟨h0,hq⟩]);clear hq;go_wp2;go_ret;exact⟨by rw[HY.out];rfl,H.base⟩
    ·have dq:(x.toList==s.toList)=false:=by rw[eqS,decide_eq_false hq]
     have HY:=Hd (show opI s (opN.drop (i+1)) (i+1)=opF s by rw[←HE.out,HST.out,iN (fun h=>hq h.2)]);clear hq;go_wp2;go_round
     case rel=>exact⟨i+1,by go_num,by omega,HY⟩
     case measure=>simp[intOf];omega
   ·have d1:decide (0<(i:Int))=false:=by simp;omega
    have d1n:decide (0<i)=false:=decide_eq_false h0;have HY:=Hd (show opI s (opN.drop (i+1)) (i+1)=opF s by rw[←HE.out,HST.out,iN (fun h=>h0 h.1)]);go_wp2;go_round
    case rel=>exact⟨i+1,by go_num,by omega,HY⟩
    case measure=>simp[intOf];omega
  ·have d0:decide ((i:Int)<21)=false:=by simp;omega
   obtain rfl:i=21:=by omega
   have HY:=Hd (show opF s=0 by rw[←HE.out];rfl);go_wp2;go_ret;exact⟨by rw[HY.out];rfl,H.base⟩
def dval (l:List UInt8):Nat:=l.foldl (fun a b=>a*10+(b.toNat-48)) 0
theorem c5b (l:List UInt8)(b:UInt8):dval (l++[b])=dval l*10+(b.toNat-48):=by
 unfold dval;rw[List.foldl_append];rfl
theorem e4r (l:List UInt8):∀ q:List UInt8,dval l≤dval (l++q):=by
 intro q
 have h:∀(q:List UInt8) (a:Nat),a≤q.foldl (fun a b=>a*10+(b.toNat-48)) a:=by
  intro q
  induction q with
  | nil=>intro a;exact Nat.le_refl _
  | cons b q ih=>intro a;rw[List.foldl_cons];have:=ih (a*10+(b.toNat-48));omega
 unfold dval;rw[List.foldl_append];exact h q _
def AllD (l:List UInt8):Prop:=∀ b∈l,48≤b.toNat∧b.toNat≤57
theorem d0m:∀(f k:Nat),k<10 ^ f→AllD (bl (digs f k))∧dval (bl (digs f k))=k
 | 0,k,h=>by
  have:k=0:=by simpa using h
  subst this
  exact⟨fun b hb=>by simp[digs,bl] at hb,rfl⟩
 | f+1,k,h=>by
  by_cases hk:k=0
  ·subst hk;rw[digs,iP rfl];exact⟨fun b hb=>by simp[bl] at hb,rfl⟩
  ·obtain⟨h1,h2⟩:=d0m f (k / 10) (by rw[Nat.pow_succ] at h;omega);have e:bl (b1 (48+k % 10))=[UInt8.ofNat (48+k % 10)]:=rfl;have e2:(UInt8.ofNat (48+k % 10)).toNat=48+k % 10:=by simp;omega
   rw[digs,iN hk,a6x,e];refine⟨fun b hb=>?_,?_⟩
   ·rcases List.mem_append.1 hb with hm|hm
    ·exact h1 b hm
    ·rw[List.mem_singleton.1 hm,e2];omega
   ·rw[c5b,h2,e2];omega
def b0e:List UInt8→List UInt8
 | []=>[]
 | b::l=>if b=45 then l else b::l
def e6u (s:ByteArray):Int:=if (bl s).head? = some 45 then -(dval (b0e (bl s)):Int) else(dval (b0e (bl s)):Int)
theorem b1g {l:List UInt8}(h:AllD l):b0e l=l:=by
 cases l with
 | nil=>rfl
 | cons b l =>
  have:=(h b List.mem_cons_self).1;rw[b0e,iN];intro e;rw[e] at this;revert this;decide
theorem e0s {l:List UInt8}(h:AllD l):l.head? ≠ some 45:=by
 cases l with
 | nil=>simp
 | cons b l =>
  have:=(h b List.mem_cons_self).1;intro e;have e2:b=45:=by simpa using e
  rw[e2] at this;revert this;decide
theorem b8j (h:Fits n):n.natAbs<10 ^ 20:=by
 have h1:=h.1;have h2:=h.2;have:(10:Nat) ^ 20=100000000000000000000:=by decide
 rw[this];omega
theorem b0f (h:Fits n):∃ D:List UInt8,AllD D∧dval D=n.natAbs∧D≠[]∧bl (numT n)=(if n<0 then [45] else [])++D:=by
 by_cases h0:n=0
 ·subst h0;exact⟨[48],fun b hb=>by rw[List.mem_singleton.1 hb];decide,rfl,by simp,rfl⟩
 obtain⟨h1,h2⟩:=d0m 20 n.natAbs (b8j h);have hne:bl (digs 20 n.natAbs)≠[]:=fun e=>by rw[e] at h2;have:n.natAbs=0:=h2.symm;omega
 by_cases hn:n<0
 ·exact⟨_,h1,h2,hne,by rw[numT,iN h0,iP hn,a6x,iP hn];rfl⟩
 ·exact⟨_,h1,h2,hne,by rw[numT,iN h0,iN hn,iN hn];rfl⟩
theorem c6i (h:Fits n):e6u (numT n)=n:=by
 obtain⟨D,h1,h2,h3,h4⟩:=b0f h;unfold e6u;by_cases hn:n<0
 ·rw[h4,iP hn]
  show(if (45::D).head? = some 45 then -(dval (b0e (45::D)):Int) else(dval (b0e (45::D)):Int))=n
  rw[iP (show(45::D).head? = some 45 from rfl),b0e,iP rfl,h2];omega
 ·rw[h4,iN hn,List.nil_append,iN (e0s h1),b1g h1,h2];omega
theorem e2i {m:Int}(h:Fits n)(g:Fits m)(e:numT n=numT m):n=m:=by rw[←c6i h,←c6i g,e]
theorem c3h (n:Int)(h:Fits n):1≤(numT n).size∧(numT n).size≤20:=by
 obtain⟨D,h1,h2,h3,h4⟩:=b0f h;have h5:=a3w (numT n);have hd:1≤D.length:=List.length_pos_iff.2 h3
 constructor
 ·rw[←h5,h4,List.length_append];omega
 ·by_cases h0:n=0
  ·subst h0;show 1≤20;omega
  have hk:n.natAbs<10 ^ 19:=by
   have h1:=h.1;have h2:=h.2;have:(10:Nat) ^ 19=10000000000000000000:=by decide
   rw[this];omega
  have e:=b7c 19 n.natAbs hk;have s1:=a8j 19 n.natAbs;unfold numT;rw[iN h0]
  split
  ·rw[ByteArray.size_append,e];show 1+_≤20;omega
  ·rw[e];omega
open Classical in
noncomputable def a0t (s:ByteArray):Int × Bool:=if h:∃ n,Fits n∧numT n=s then(Classical.choose h,true) else(0,false)
theorem a3s (h:Fits n):a0t (numT n)=(n,true):=by
 have hx:∃ m,Fits m∧numT m=numT n:=⟨n,h,rfl⟩;unfold a0t;rw[dif_pos hx];have:=Classical.choose_spec hx;rw[e2i this.1 h this.2]
theorem a6g {s:ByteArray}(h:¬ ∃ n,Fits n∧numT n=s):a0t s=(0,false):=by unfold a0t;rw[dif_neg h]
theorem a5c (s:ByteArray):Fits (a0t s).1:=by
 by_cases h:∃ n,Fits n∧numT n=s
 ·obtain⟨n,hn,rfl⟩:=h;rw[a3s hn];exact hn
 ·rw[a6g h];exact⟨by show -9223372036854775808≤(0:Int);omega,by show(0:Int)≤_;omega⟩
def pval (s:ByteArray) (i:Nat):Nat:=dval (b0e ((bl s).take i))
theorem c4h {s:ByteArray}(hn:Fits n)(h:numT n=s){i:Nat}(hi:i<s.size):
  (i=0∧s[i].toNat=45∧pval s (i+1)=0)∨(¬(i=0∧s[i].toNat=45)∧48≤s[i].toNat∧s[i].toNat≤57∧pval s (i+1)=pval s i*10+(s[i].toNat-48)∧pval s (i+1)≤n.natAbs):=by
 obtain⟨D,h1,h2,h3,h4⟩:=b0f hn;rw[h] at h4;have hb:=d2e hi;have hD:∀ j,D[j]?=some s[i]→48≤s[i].toNat∧s[i].toNat≤57:=fun j hj=>h1 _ (mG hj)
 have hT:∀ j,AllD (D.take j):=fun j b hb=>h1 b (List.mem_of_mem_take hb)
 have hle:∀ j,dval (D.take j)≤n.natAbs:=fun j=>by
  have:=e4r (D.take j) (D.drop j);rw[List.take_append_drop,h2] at this;exact this
 have hs:∀ j,D[j]?=some s[i]→dval (D.take (j+1))=dval (D.take j)*10+(s[i].toNat-48):=fun j hj=>by rw[List.take_add_one,hj];exact c5b _ _
 by_cases hneg:n<0
 ·rw[iP hneg] at h4;have h4:bl s=45::D:=h4
  cases i with
  | zero =>
   left
   rw[h4] at hb;have hb2:(45:UInt8)=s[0]:=by simpa using hb
   refine⟨rfl,by rw[←hb2];rfl,?_⟩
   unfold pval;rw[h4];rfl
  | succ j =>
   right
   rw[h4,List.getElem?_cons_succ] at hb;have hd:=hD j hb;have e1:pval s (j+1+1)=dval (D.take (j+1)):=by unfold pval;rw[h4,List.take_succ_cons,b0e,iP rfl]
   have e2:pval s (j+1)=dval (D.take j):=by unfold pval;rw[h4,List.take_succ_cons,b0e,iP rfl]
   exact⟨by omega,hd.1,hd.2,by rw[e1,e2];exact hs j hb,by rw[e1];exact hle _⟩
 ·rw[iN hneg,List.nil_append] at h4
  right
  rw[h4] at hb;have hd:=hD i hb;have e1:pval s (i+1)=dval (D.take (i+1)):=by unfold pval;rw[h4,b1g (hT _)]
  have e2:pval s i=dval (D.take i):=by unfold pval;rw[h4,b1g (hT _)]
  exact⟨by omega,hd.1,hd.2,by rw[e1,e2];exact hs i hb,by rw[e1];exact hle _⟩
theorem c9y {s:ByteArray}(hn:Fits n)(h:numT n=s):pval s s.size=n.natAbs∧∀ g:0<s.size,(s[0].toNat=45↔n<0):=by
 obtain⟨D,h1,h2,h3,h4⟩:=b0f hn;rw[h] at h4;have e:(bl s).take s.size=bl s:=List.take_of_length_le (by rw[a3w];exact Nat.le_refl _);by_cases hneg:n<0
 ·rw[iP hneg] at h4;have h4:bl s=45::D:=h4;refine⟨by unfold pval;rw[e,h4,b0e,iP rfl,h2],fun g=>⟨fun _=>hneg,fun _=>?_⟩⟩;have hb:=d2e g;rw[h4] at hb;have hb2:(45:UInt8)=s[0]:=by simpa using hb
  rw[←hb2];rfl
 ·rw[iN hneg,List.nil_append] at h4;refine⟨by unfold pval;rw[e,h4,b1g h1,h2],fun g=>⟨fun e45=>?_,fun hh=>absurd hh hneg⟩⟩;have hb:=d2e g;rw[h4] at hb;have:=(h1 _ (mG hb)).1;omega
theorem a2h (z:Int):Fits (wrap64 z):=by unfold wrap64 Fits;omega
def a4q (op a b:Int):Int :=
 if op=4 then wrap64 (-a) else if op=5 then(if a=0 then 1 else 0) else if op=6 then wrap64 (a+b) else if op=7 then wrap64 (a-b)
 else if op=8 then wrap64 (a*b) else if op=9 then(if b<a then b else a) else if op=10 then(if b > a then b else a) else if op=11 then(if a<b then 1 else 0) else 0
theorem c2f (op:Int){a b:Int}(ha:Fits a)(hb:Fits b):Fits (a4q op a b):=by
 have h0:Fits 0:=⟨by omega,by omega⟩;have h1:Fits 1:=⟨by omega,by omega⟩;unfold a4q
 repeat' split
 all_goals first|exact a2h _|assumption
def refused (e:Int):Int × List Int × List Int:=(e,[],[])
def oneR (op:Int) (s d:List Int):Int × List Int × List Int :=
 if op≠4∧op≠5 then refused 1 else if a0b s d then(0,s,d.map fun x=>a4q op x 0) else refused 13
def twoR (op:Int) (s d t k:List Int):Int × List Int × List Int :=
 if op<6∨11<op then refused 1 else if a0b s d&&(a0b t k&&t==s) then(0,s,List.zipWith (a4q op) d k) else refused 13
def c0i:List Int→List Int→List Int→List Int
 | z::c,x::a,y::b=>(if z=0 then y else x)::c0i c a b
 | _,_,_=>[]
def b4u (cs cd s d t k:List Int):Int × List Int × List Int :=
 if a0b cs cd&&(a0b s d&&s==cs&&(a0b t k&&t==cs)) then(0,s,c0i cd d k) else refused 13
def mix (t o:List Int) (j:Nat):List Int:=t.take j++o.drop j
theorem a4v (t o:List Int):mix t o 0=o:=by simp[mix]
theorem c3e (h:t.length=o.length):mix t o o.length=t:=by simp[mix,←h]
theorem c1l (h:t.length=o.length)(j:Nat):(mix t o j).length=o.length:=by simp[mix];omega
theorem c8z (h:t.length=o.length)(hx:t[j]?=some x):(mix t o j).set j x=mix t o (j+1):=by
 have hj:j<t.length:=(lL hx);have hl:(t.take j).length=j:=by simp;omega
 apply List.ext_getElem?;intro i;unfold mix;rw[List.getElem?_set];by_cases hi:j=i
 ·subst hi;rw[iP rfl,iP (by simp;omega),List.getElem?_append_left (by simp;omega),List.getElem?_take,iP (by omega),hx]
 ·rw[iN hi];by_cases hlt:i<j
  ·rw[List.getElem?_append_left (by omega),List.getElem?_append_left (by simp;omega),List.getElem?_take,List.getElem?_take,iP hlt,iP (by omega)]
  ·have hl2:(t.take (j+1)).length=j+1:=by simp;omega
   rw[List.getElem?_append_right (by omega),List.getElem?_append_right (by omega),hl,hl2,List.getElem?_drop,List.getElem?_drop]
   congr 1;omega
theorem d7a (h:t.length=o.length)(hj:j<o.length):(mix t o j)[j]?=o[j]? := by
 have hl:(t.take j).length=j:=by simp;omega
 unfold mix;rw[List.getElem?_append_right (by omega),hl,List.getElem?_drop]
 congr 1;omega
theorem a8e {n:Nat}(h:t.length=n)(hj:j<n):(mix t (List.replicate n c) j)[j]?=some c:=by
 rw[d7a (by simpa using h) (by simpa using hj),List.getElem?_replicate,iP hj]
theorem a8d {n:Nat}(h:t.length=n):mix t (List.replicate n c) n=t:=by
 have:=c3e (t:=t) (o:=List.replicate n c) (by simpa using h);rwa [List.length_replicate] at this
theorem a5n {n:Nat}(h:t.length=n)(hx:t[j]?=some x):(mix t (List.replicate n c) j).set j x=mix t (List.replicate n c) (j+1):=c8z (by simpa using h) hx
theorem e6k {f:Int→Int}(h:d[j]?=some x):(d.map f)[j]?=some (f x):=by simp[h]
theorem e7c {f:Int→Int→Int}{y:Int}(h:d[j]?=some x)(g:k[j]?=some y):(List.zipWith f d k)[j]?=some (f x y):=by
 rw[List.getElem?_zipWith,h,g]
theorem b5q:∀(c a b:List Int),a.length=c.length→b.length=c.length→(c0i c a b).length=c.length
 | [],_,_,_,_=>by simp[c0i]
 | z::c,[],_,h,_=>by simp at h
 | z::c,x::a,[],_,h=>by simp at h
 | z::c,x::a,y::b,h,g=>by simp[c0i,b5q c a b (by simpa using h) (by simpa using g)]
theorem d1r:∀ {c a b:List Int} {j:Nat} {z x y:Int},c[j]?=some z→a[j]?=some x→b[j]?=some y→(c0i c a b)[j]?=some (if z=0 then y else x)
 | [],_,_,_,_,_,_,h,_,_=>by simp at h
 | _::_,[],_,_,_,_,_,_,h,_=>by simp at h
 | _::_,_::_,[],_,_,_,_,_,_,h=>by simp at h
 | _::c,_::a,_::b,0,_,_,_,h,g,f=>by simp at h g f;subst h;subst g;subst f;simp[c0i]
 | _::c,_::a,_::b,j+1,_,_,_,h,g,f=>by simp at h g f;simp[c0i,d1r h g f]
theorem a2i (h:a0b s d=true):(d.length:Int)=Sh.size s:=by
 simp only[a0b,Bool.and_eq_true,decide_eq_true_eq] at h;exact h.2
theorem a3o (h:a0b s d=true):Sh.right s=true:=by
 simp only[a0b,Bool.and_eq_true,decide_eq_true_eq] at h;exact h.1
theorem a3c (h:a0b s d=true):s.length≤4∧d.length≤4096:=by
 have h2:=Sh.size_bd s;have h3:=a2i h;exact⟨(Sh.right_iff.1 (a3o h)).1,by omega⟩
theorem e5d (ho:op=4∨op=5)(h:a0b s d=true):oneR op s d=(0,s,d.map fun x=>a4q op x 0):=by
 rw[oneR,iN (by omega),iP h]
theorem e2k (ho:op≠4∧op≠5):oneR op s d=refused 1:=by rw[oneR,iP ho]
theorem d3l (ho:op=4∨op=5)(h:a0b s d=false):oneR op s d=refused 13:=by
 rw[oneR,iN (by omega),h];rfl
theorem e3n (ho:op<6∨11<op):twoR op s d t k=refused 1:=by rw[twoR,iP ho]
theorem e5w (ho:6≤op∧op≤11)(h:(a0b s d&&(a0b t k&&t==s))=true):twoR op s d t k=(0,s,List.zipWith (a4q op) d k):=by
 rw[twoR,iN (by omega),iP h]
theorem d4o (ho:6≤op∧op≤11)(h:(a0b s d&&(a0b t k&&t==s))=false):twoR op s d t k=refused 13:=by
 rw[twoR,iN (by omega),h];rfl
end Go.Proofs.YtdcmanhgekjhgaaGreatDoor
