import Derived.Test.YtajhdeddgdhccaaGreatDoorPar
set_option maxRecDepth 100000
set_option maxHeartbeats 12800000
namespace Go.Proofs.YtajhdeddgdhccaaGreatDoor
open Go.RowKit Go.Proofs.Tryz
variable {A:Option Addr} {a axes d s:List Int} {c k n:Nat} {how x:Int} {w:World}
def a4c (how:Int):Bool:=decide (1≤how)&&decide (how≤4)
def a7k (how:Int):Int:=if how=2 then 1 else if how=3 then 9223372036854775807 else if how=4 then -9223372036854775808 else 0
def putF (how a b:Int):Int:=if how=1 then wrap64 (a+b) else if how=2 then wrap64 (a*b) else if how=3 then(if b<a then b else a) else if how=4 then(if b > a then b else a) else 0
theorem a8o (how:Int):Fits (a7k how):=by unfold a7k;unfold Fits;split;omega;split;omega;split <;> omega
theorem b0j (how:Int){a b:Int}(ha:Fits a)(hb:Fits b):Fits (putF how a b):=by
 have h0:Fits 0:=⟨by omega,by omega⟩;unfold putF
 repeat' split
 all_goals first|exact a7n _|assumption
def a3h (axes:List Int):Nat→List Int→List Int
 | _,[]=>[]
 | k,x::xs=>if (k:Int)∈axes then a3h axes (k+1) xs else x::a3h axes (k+1) xs
def rest (axes xs:List Int):List Int:=a3h axes 0 xs
theorem b0l (axes:List Int):∀(xs ys:List Int) (k:Nat),a3h axes k (xs++ys)=a3h axes k xs++a3h axes (k+xs.length) ys
 | [],ys,k=>by simp[a3h]
 | x::xs,ys,k=>by
  rw[List.cons_append,a3h,a3h,b0l axes xs ys (k+1),List.length_cons,show k+1+xs.length=k+(xs.length+1) by omega]
  split <;> rfl
theorem b4f {xs:List Int}(h:xs[k]?=some x):rest axes (xs.take (k+1))=rest axes (xs.take k)++(if (k:Int)∈axes then [] else [x]):=by
 have hk:(xs.take k).length=k:=by have:=(lL h);simp;omega
 rw[rest,List.take_add_one,h,b0l,hk,rest]
 congr 1
 simp[a3h]
theorem a3o (axes:List Int):∀(xs:List Int) (k:Nat),(a3h axes k xs).length≤xs.length
 | [],k=>by simp[a3h]
 | x::xs,k=>by
  rw[a3h];have:=a3o axes xs (k+1)
  split <;> simp <;> omega
theorem b4e (axes:List Int):∀(xs ys:List Int) (k:Nat),xs.length=ys.length→(a3h axes k xs).length=(a3h axes k ys).length
 | [],[],k,_=>rfl
 | [],_::_,_,h=>by simp at h
 | _::_,[],_,h=>by simp at h
 | x::xs,y::ys,k,h=>by
  rw[a3h,a3h];have:=b4e axes xs ys (k+1) (by simpa using h)
  split <;> simp[this]
theorem b4g (axes:List Int):∀(s p:List Int) (k:Nat),s.length=p.length→Sh.within s p=true→Sh.within (a3h axes k s) (a3h axes k p)=true
 | [],[],k,_,_=>by simp[a3h,Sh.within]
 | [],_::_,_,h,_=>by simp at h
 | _::_,[],_,h,_=>by simp at h
 | x::s,y::p,k,hl,hw=>by
  rw[Sh.within_iff] at hw;have ih:=b4g axes s p (k+1) (by simpa using hl) (by rw[Sh.within_iff];exact fun z hz=>hw z (by simp[hz]));rw[a3h,a3h]
  split
  ·exact ih
  ·rw[Sh.within_iff] at ih ⊢;intro z hz;rw[List.zip_cons_cons,List.mem_cons] at hz;rcases hz with rfl|hz
   ·exact hw (x,y) (by simp)
   ·exact ih z hz
def b6x (a:List Int) (r k:Nat):Prop:=∀ x,a[k]?=some x→0≤x∧x<r∧∀ z,0<k→a[k-1]?=some z→z<x
def a6x (a:List Int) (r:Nat):Prop:=∀ k,b6x a r k
def b3f (s axes:List Int) (i:Nat):Nat:=(Sh.index (rest axes s) (rest axes (Sh.placeOf s i))).toNat
def b1c (how:Int) (s axes o:List Int) (i:Nat) (x:Int):List Int:=o.set (b3f s axes i) (putF how (o.getD (b3f s axes i) 0) x)
def a4h (how:Int) (s d axes:List Int) (k:Nat):List Int:=(List.range k).foldl (fun o i=>b1c how s axes o i (d.getD i 0)) (List.replicate (Sh.size (rest axes s)).toNat (a7k how))
theorem a9i (how:Int)(s d axes:List Int):a4h how s d axes 0=List.replicate (Sh.size (rest axes s)).toNat (a7k how):=rfl
theorem c0z (h:d[k]?=some x):a4h how s d axes (k+1)=b1c how s axes (a4h how s d axes k) k x:=by
 rw[a4h,a4h,List.range_succ,List.foldl_append];simp[List.getD_eq_getElem?_getD,h]
theorem b7i (how:Int)(s d axes:List Int)(k:Nat):(a4h how s d axes k).length=(Sh.size (rest axes s)).toNat:=by
 induction k with
 | zero=>rw[a9i,List.length_replicate]
 | succ k ih =>
  rw[a4h,List.range_succ,List.foldl_append];simp only[List.foldl_cons,List.foldl_nil,b1c,List.length_set];exact ih
def d4e (how:Int) (s d axes:List Int):List Int:=a4h how s d axes d.length
open Classical in
noncomputable def a6y (how:Int) (s d axes:List Int):Int × List Int × List Int :=
 if a4c how then(if a0a s d then(if a6x axes s.length then(if Sh.right (rest axes s) then(0,rest axes s,d4e how s d axes) else refused 13) else refused 1) else refused 13) else refused 1
theorem b8w (h:a4c how=false):a6y how s d axes=refused 1:=by rw[a6y,h];rfl
theorem c0y (h:a4c how=true)(g:a0a s d=false):a6y how s d axes=refused 13:=by rw[a6y,iP h,g];rfl
theorem b8v (h:a4c how=true)(g:a0a s d=true)(f:¬ a6x axes s.length):a6y how s d axes=refused 1:=by rw[a6y,iP h,iP g,iN f]
theorem b1r (h:a4c how=true)(g:a0a s d=true)(f:a6x axes s.length)(e:Sh.right (rest axes s)=false):a6y how s d axes=refused 13:=by rw[a6y,iP h,iP g,iP f,e];rfl
theorem c2z (h:a4c how=true)(g:a0a s d=true)(f:a6x axes s.length)(e:Sh.right (rest axes s)=true):a6y how s d axes=(0,rest axes s,d4e how s d axes):=by rw[a6y,iP h,iP g,iP f,iP e]
theorem c1b (hr:Sh.right (rest axes s)=true){i:Nat}(hi:(i:Int)<Sh.size s):(rest axes (Sh.placeOf s i)).length=(rest axes s).length∧Sh.within (rest axes s) (rest axes (Sh.placeOf s i))=true∧(b3f s axes i:Int)=Sh.index (rest axes s) (rest axes (Sh.placeOf s i))∧b3f s axes i<(Sh.size (rest axes s)).toNat:=by
 obtain⟨_,hl,hw,_⟩:=a1g hi;have h1:(rest axes (Sh.placeOf s i)).length=(rest axes s).length:=b4e axes _ _ 0 hl;have h2:=b4g axes s (Sh.placeOf s i) 0 hl.symm hw;have h3:=b2o hr h1 h2;exact⟨h1,h2,by rw[b3f];omega,by rw[b3f];omega⟩
theorem b3i {l:List Int}(h:∀ x∈l,Fits x)(k:Nat):Fits (l.getD k 0):=by
 rw[gD]
 cases e:l[k]? with
 | none=>exact⟨by simp,by simp⟩
 | some y=>exact h y (mG e)
theorem c1a (how:Int)(s d axes:List Int)(k:Nat):a4h how s d axes (k+1)=b1c how s axes (a4h how s d axes k) k (d.getD k 0):=by
 rw[a4h,a4h,List.range_succ,List.foldl_append];rfl
theorem b3g {how:Int}{s d axes:List Int}(hd:∀ x∈d,Fits x):∀ k,∀ x∈a4h how s d axes k,Fits x
 | 0,x,hx=>by
  rw[a9i] at hx;rw[List.eq_of_mem_replicate hx]
  exact a8o how
 | k+1,x,hx=>by
  rw[c1a,b1c] at hx;have ih:=b3g (how:=how) (s:=s) (axes:=axes) hd k;rcases List.mem_or_eq_of_mem_set hx with hx|rfl
  ·exact ih x hx
  ·exact b0j how (b3i ih _) (b3i hd _)
def d3o (e:Ending) (p:Prop):Prop:=∃ b,e=.returned (.bool b)∧(b=true↔p)
theorem c6b {p:Prop}(h:p):d3o (.returned (.bool true)) p:=⟨true,rfl,by simp;exact h⟩
theorem b7b {p:Prop}(h:¬ p):d3o (.returned (.bool false)) p:=⟨false,rfl,by simp;exact h⟩
theorem a7f (how:Int)(w:World):
  Calls prog 93 #[.int .i64 how] w fun e w'=>e=.returned (.bool (a4c how))∧w=w':=by
 by_cases h1:1≤how
 ·have d1:decide (1≤how)=true:=by simpa using h1
  go_enter func93,ntmps93
  go_wp2;go_ret;exact⟨a0c (by simp[a4c,h1]),rfl⟩
 ·have d1:decide (1≤how)=false:=by simpa using h1
  have HX:=Hd (show a4c how=false by simp only[a4c,d1,Bool.false_and])
  go_enter func93,ntmps93
  go_wp2;go_ret;exact⟨a0c HX.symm,rfl⟩
theorem b2c (how:Int)(w:World):
  Calls prog 96 #[.int .i64 how] w fun e w'=>e=.returned (.int .i64 (a7k how))∧w=w':=by
 by_cases h2:how=2
 ·subst h2
  go_enter func96,ntmps96
  go_wp2;go_ret;exact⟨by simp[a7k],rfl⟩
 by_cases h3:how=3
 ·subst h3;clear h2
  go_enter func96,ntmps96
  go_wp2;go_ret;exact⟨by simp[a7k],rfl⟩
 by_cases h4:how=4
 ·subst h4;clear h2 h3
  go_enter func96,ntmps96
  go_wp2;go_ret;exact⟨by simp[a7k],rfl⟩
 have b2:(how==2)=false:=by simpa using h2
 have b3:(how==3)=false:=by simpa using h3
 have b4:(how==4)=false:=by simpa using h4
 go_enter func96,ntmps96
 go_wp2;go_ret;exact⟨by simp[a7k,h2,h3,h4],rfl⟩
theorem a9o (how a b:Int)(w:World):
  Calls prog 97 #[.int .i64 how,.int .i64 a,.int .i64 b] w fun e w'=>e=.returned (.int .i64 (putF how a b))∧w=w':=by
 by_cases h1:how=1
 ·subst h1
  go_enter func97,ntmps97
  go_wp2;go_ret;exact⟨by simp[putF],rfl⟩
 by_cases h2:how=2
 ·subst h2;clear h1
  go_enter func97,ntmps97
  go_wp2;go_ret;exact⟨by simp[putF],rfl⟩
 by_cases h3:how=3
 ·subst h3;clear h1 h2;by_cases hc:b<a
  ·go_enter func97,ntmps97
   go_wp2;go_ret;exact⟨by simp[putF,hc] <;> omega,rfl⟩
  ·go_enter func97,ntmps97
   go_wp2;go_ret;exact⟨by simp[putF];omega,rfl⟩
 by_cases h4:how=4
 ·subst h4;clear h1 h2 h3;by_cases hc:b > a
  ·go_enter func97,ntmps97
   go_wp2;go_ret;exact⟨by simp[putF,hc] <;> omega,rfl⟩
  ·go_enter func97,ntmps97
   go_wp2;go_ret;exact⟨by simp[putF];omega,rfl⟩
 have b1:(how==1)=false:=by simpa using h1
 have b2:(how==2)=false:=by simpa using h2
 have b3:(how==3)=false:=by simpa using h3
 have b4:(how==4)=false:=by simpa using h4
 go_enter func97,ntmps97
 go_wp2;go_ret;exact⟨by simp[putF,h1,h2,h3,h4],rfl⟩
theorem b4b (x:Int)(h:Ints w A n a):
  Calls prog 95 #[.slice A n c,.int .i64 x] w fun e w'=>e=.returned (.bool (decide (x∈a)))∧w=w':=by
 have hle:=h.le;have H1:=Hd h.len
 go_enter func95,ntmps95
 go_wp2
 go_loop [8] (fun i=>∃ k:Nat,k≤n∧i=.int .i64 k∧x∉a.take k) (fun i=>n-(intOf i).toNat)
 case atStart=>exact⟨0,Nat.zero_le _,rfl,by simp⟩
 case round =>
  obtain⟨k,hk,rfl,hnm⟩:=hrel;have HN:=Hd hnm;clear hnm;by_cases hlt:k<n
  ·obtain⟨ad,y,rfl,hb,hy,hc,hf⟩:=h.at_ hlt;have HY:=Hd hy;clear hy;by_cases hxy:y=x
   ·subst hxy;have HX:=Hd (show decide (y∈a)=true from decide_eq_true (mG HY));go_wp2;go_ret;exact⟨a0c HX.symm,rfl⟩
   ·have d:(y==x)=false:=by simpa using hxy
    have HXY:=Hd hxy;clear hxy;go_wp2;go_round
    case rel=>exact⟨k+1,by omega,by go_num,by
     rw[List.take_add_one,HY.out];intro hm;rcases List.mem_append.1 hm with hm|hm
     ·exact HN hm
     ·exact HXY (List.mem_singleton.1 hm).symm⟩
    case measure=>simp[intOf];omega
  ·have HX:=Hd (show decide (x∈a)=false from decide_eq_false (by have h1:=HN.out;rwa [List.take_of_length_le (by have:=H1.out;omega)] at h1));go_wp2;go_ret;exact⟨a0c HX.symm,rfl⟩
theorem b5n (r:Nat)(h:Ints w A n a)(_hr:r≤4):
  Calls prog 94 #[.slice A n c,.int .i64 r] w fun e w'=>d3o e (a6x a r)∧∃ q,w'=w.drewN q:=by
 have hle:=h.le;have H1:=Hd h.len
 go_enter func94,ntmps94
 go_wp2
 go_loopw [8] (fun i wr=>∃ k:Nat,k≤n∧i=.int .i64 k∧(∀ j,j<k→b6x a r j)∧∃ q,wr=w.drewN q) (fun i _=>n-(intOf i).toNat)
 case atStart=>exact⟨0,Nat.zero_le _,rfl,fun j hj=>by omega,0,rfl⟩
 case round =>
  obtain⟨k,hk,rfl,hall,q,rfl⟩:=hrel;have HALL:=Hd hall;clear hall;by_cases hlt:k<n
  ·obtain⟨ad,x,hA,hb,hx,hc,hf⟩:=h.at_ hlt;have HE:=Hd hx;clear hx
   obtain⟨jp,u,hju,hau⟩:∃(jp:Nat) (u:Int),(k=0∨(k=jp+1∧a[jp]?=some u))∧(k=0∨(w.cell? (ad.add jp)=some (.int .i64 u))):=by
    rcases Nat.eq_zero_or_pos k with hj0|hj0
    ·exact⟨0,0,.inl hj0,.inl hj0⟩
    ·obtain⟨ad2,u,hA2,_,hu,hcu,_⟩:=h.at_ (k:=k-1) (by omega);rw[hA] at hA2;injection hA2 with hA2;subst hA2
     exact⟨k-1,u,.inr ⟨by omega,hu⟩,.inr hcu⟩
   subst hA;have HJ:=Hd hju;clear hju;have HBAD:=Hd (show ¬(0≤x∧x<r∧∀ z,0<k→a[k-1]?=some z→z<x)→¬ a6x a r from fun hbad hR=>hbad (hR k x HE));by_cases g1:x<0
   ·have d1:decide (x<0)=true:=by simpa using g1
    have HN:=Hd (HBAD (by omega));clear HBAD hau
    go_wp2_with fail
    go_quiet (fail)
    go_wp2;go_ret;exact⟨b7b HN,_,World.drewN_drewN _ _ _⟩
   have d1:decide (x<0)=false:=by simpa using g1
   by_cases g2:(r:Int)≤x
   ·have d2:decide ((r:Int)≤x)=true:=by simpa using g2
    have HN:=Hd (HBAD (by omega));clear HBAD hau
    go_wp2_with fail
    go_quiet (fail)
    go_wp2;go_ret;exact⟨b7b HN,_,World.drewN_drewN _ _ _⟩
   have d2:decide ((r:Int)≤x)=false:=by simpa using g2
   have HNEXT:=Hd (show(∀ z,0<k→a[k-1]?=some z→z<x)→∀ j,j<k+1→b6x a r j from fun hz j hj=>by
    rcases Nat.lt_or_ge j k with h' | h'
    ·exact HALL j h'
    ·obtain rfl:j=k:=by omega
     intro y hy;rw[HE.out] at hy;injection hy with hy;subst hy
     exact⟨by omega,by omega,hz⟩)
   by_cases hk0:k=0
   ·have d3:decide (0<k)=false:=by simp[hk0]
    have HG:=Hd (HNEXT fun z hz=>by omega);clear HBAD HNEXT hau hk0
    go_wp2_with fail
    go_quiet (fail)
    go_wp2;go_roundw
    case rel=>exact⟨k+1,by omega,by go_num,HG,_,rfl⟩
    case measure=>simp[intOf];omega
   ·have d3:decide (0<k)=true:=by simp;omega
    have hcu:w.cell? (ad.add jp)=some (.int .i64 u):=by rcases hau with h|h;exact absurd h hk0;exact h
    have hjp:k=jp+1∧a[jp]?=some u:=by rcases HJ with h|h;exact absurd h hk0;exact h
    have hw:IntKind.i64.wrap ((k:Int)-1)=(jp:Int):=by rw[show(k:Int)-1=(jp:Int) by omega];exact IntWalk.i64_in _ ⟨by omega,by omega⟩
    have hjl:jp<n:=by omega
    have HJP:=Hd hjp;clear hau hjp hk0;by_cases g3:x≤u
    ·have d4:decide (x≤u)=true:=by simpa using g3
     have HN:=Hd (HBAD (fun hh=>absurd (hh.2.2 u (by have:=HJP.out.1;omega) (by rw[show k-1=jp by have:=HJP.out.1;omega];exact HJP.out.2)) (by omega)));clear HBAD HNEXT
     go_wp2_with fail
     go_quiet (fail)
     go_wp2;go_ret;exact⟨b7b HN,_,World.drewN_drewN _ _ _⟩
    ·have d4:decide (x≤u)=false:=by simpa using g3
     have HG:=Hd (HNEXT fun z hz hz2=>by rw[show k-1=jp by have:=HJP.out.1;omega,HJP.out.2] at hz2;injection hz2 with hz2;omega);clear HBAD HNEXT
     go_wp2_with fail
     go_quiet (fail)
     go_wp2;go_roundw
     case rel=>exact⟨k+1,by omega,by go_num,HG,_,rfl⟩
     case measure=>simp[intOf];omega
  ·have HR:=Hd (show a6x a r from fun j x hx=>HALL.out j (by have:=(lL hx);have:=H1.out;omega) x hx);go_wp2;go_ret;exact⟨c6b HR,_,rfl⟩
theorem b9z {v:Value}{Aa:Option Addr}{na ca:Nat}(how:Int)(h:Ten w v s d)(hA:Ints w Aa na a):
  Calls prog 70 #[.int .i64 how,v,.slice Aa na ca] w fun e w'=>(∃ u,e=.returned (.tuple #[u,.int .i64 (a6y how s d a).1])∧OTen w' w.heap.size u (a6y how s d a).2.1 (a6y how s d a).2.2)∧Below w.heap.size w w':=by
 cases hh:a4c how with
 | false =>
  obtain⟨A,n,c,B,m,e,rfl,hnc,hme,hI,hJ⟩:=h;have h1:=((Sep.nil w).allocBox w.heap.size 84 [.slice A n c,.slice B m e] rfl).allocBox (w.heap.size+1) 84 [.slice none 0 0,.slice none 0 0] (by simp);have HX:=Hd (b8w (s:=s) (d:=d) (axes:=a) hh);have C1:=a7f how ((w.alloc (.cells #[.slice A n c,.slice B m e] 84)).alloc (.cells #[.slice none 0 0,.slice none 0 0] 84));rw[hh] at C1
  go_enter func70,ntmps70
  go_upto_region 1 with fail
  generalize (w.alloc (.cells #[.slice A n c,.slice B m e] 84)).alloc (.cells #[.slice none 0 0,.slice none 0 0] 84)=W at *;have H:=Hd h1;clear h1 hh
  go_wp2_with fail
  refine C1.mono ?_;rintro e1 w1 ⟨rfl,rfl⟩;obtain⟨r0,r1,fr0,fr1⟩:=H.b2 0;clear C1;go_wp2;rw[HX.out]
  exact sN2 H 0 1 results70
 | true =>
  have HH:=Hd hh;clear hh;obtain⟨A,n,c,B,m,e,rfl,hnc,hme,hI,hJ⟩:=h;have h1:=(((((Sep.nil w).old hA).old hJ).old hI).allocBox w.heap.size 84 [.slice A n c,.slice B m e] rfl).allocBox (w.heap.size+1) 84 [.slice none 0 0,.slice none 0 0] (by simp);have hsl:=hI.len;have hnle:=hI.le;have hmle:=hJ.le;have HFD:=Hd hJ.fit;have HDL:=Hd hJ.len;have hla:=hA.len;have hlea:=hA.le
  go_enter func70,ntmps70
  go_upto_region 1 with fail
  generalize (w.alloc (.cells #[.slice A n c,.slice B m e] 84)).alloc (.cells #[.slice none 0 0,.slice none 0 0] 84)=W at *;have H:=Hd h1;clear h1 hI hJ hA;have HSL:=Hd hsl;clear hsl;have HLa:=Hd hla;clear hla;have hT:=a3d (H.oldInts 2 rfl) hnc (H.oldInts 3 rfl) hme;have C1:=a1o hT;have HT:=Hd hT;clear hT;obtain⟨t0,t1⟩:=H.z2 1 rfl;have CH:=a7f how W;rw[HH.out] at CH
  go_wp2_with fail
  refine CH.mono ?_;rintro e0 w0 ⟨rfl,rfl⟩;clear CH
  go_wp2_with fail
  cases hr:a0a s d with
  | false =>
   rw[hr] at C1;refine C1.mono ?_;rintro e2 w2 ⟨rfl,hb2⟩;replace H:=Hd (H.below hb2);have HX:=Hd (c0y (axes:=a) HH hr);obtain⟨r0,r1,fr0,fr1⟩:=H.b2 0;clear hb2 hr C1 t0 t1;go_wp2;rw[HX.out]
   exact sN2 H 0 13 results70
  | true =>
   rw[hr] at C1;refine C1.mono ?_;rintro e2 w2 ⟨rfl,hb2⟩;replace H:=Hd (H.below hb2);have HRT:=Hd hr;clear hb2 hr C1 t0 t1 HT;have hn4:n≤4:=by have:=(a2l HRT).1;have:=HSL.out;omega
   obtain⟨t0,t1⟩:=H.z2 1 rfl;have C2:=b5n (c:=ca) n (H.oldInts 4 rfl) hn4
   go_wp2_with fail
   refine C2.mono ?_;rintro e3 w3 ⟨⟨b3,rfl,hb⟩,q,rfl⟩;have HB:=Hd hb;replace H:=Hd (H.drewN q);clear hb C2 t0 t1;generalize w2.drewN q=w3 at *
   cases b3
   case false =>
    have HX:=Hd (b8v HH HRT (fun hc=>by have:=HB.out.2 (by rwa [HSL.out] at hc);cases this));obtain⟨r0,r1,fr0,fr1⟩:=H.b2 0;go_wp2;rw[HX.out];exact sN2 H 0 1 results70
   case true =>
    have HRI:=Hd (show a6x a s.length by rw[HSL.out];exact HB.out.1 rfl);clear HB;replace H:=Hd (H.addNil 3);obtain⟨t0,t1⟩:=H.z2 2 rfl
    go_wp2_with fail
    clear t0 t1
    go_loopw [34,8] (fun kv vs wr=>∃(j:Nat) (vx:Value),vx=vs∧kv=.int .i64 j∧j≤n∧Sep w wr [.own 3 vx (rest a (s.take j)).length (rest a (s.take j)),.box (w.heap.size+1) 84 [.slice none 0 0,.slice none 0 0],.box w.heap.size 84 [.slice A n c,.slice B m e],.ints A n s,.ints B m d,.ints Aa na a]) (fun kv _ _=>n-(intOf kv).toNat)
    case atStart=>exact⟨0,_,rfl,rfl,by omega,H⟩
    case round =>
     clear H;obtain⟨j,vx,rfl,rfl,hj,hS⟩:=hrel;have H:=Hd hS;clear hS;by_cases hlt:j<n
     ·obtain⟨sa,y,hsA,_,hy,hcy,hfy⟩:=(H.oldInts 3 rfl).at_ (k:=j) hlt;subst hsA;have HT:=Hd (b4f (axes:=a) hy);have HFY:=Hd hfy;have hrl:=a3o a (s.take j) 0;rw[List.length_take] at hrl;clear hy hfy;obtain⟨t0,t1⟩:=H.z2 2 rfl;have C3:=b4b (c:=ca) (j:Int) (H.oldInts 5 rfl)
      go_wp2_with fail
      by_cases hm:(j:Int)∈a
      ·rw[decide_eq_true hm] at C3;refine C3.mono ?_;rintro e4 w4 ⟨rfl,rfl⟩;have HQ:=Hd (HT.trans (by rw[iP hm,List.append_nil]));clear hm C3 hcy t0 t1;go_wp2;go_roundw
       case rel=>exact⟨j+1,_,rfl,by go_num,by omega,by rw[HQ.out];exact H⟩
       case measure=>simp[intOf];omega
      ·rw[decide_eq_false hm] at C3;refine C3.mono ?_;rintro e4 w4 ⟨rfl,rfl⟩;have HQ:=Hd (HT.trans (by rw[iN hm]));clear hm C3
       go_wp2_with (at_builtin;refine a0u rfl (.tmp 41) (.tmp 47) 23 3 rfl underlying23 Tryz.infoInt H.out 0 rfl rfl y HFY.out _ rfl ?c1 ?_)
       case c1=>exact Nat.le_trans hrl (by omega)
       intro v' w' h';have H8:=Hd h';clear h' hcy t0 t1;go_wp2;go_roundw
       case rel=>exact⟨j+1,_,rfl,by go_num,by omega,by rw[HQ.out,List.length_append,List.length_singleton];exact H8⟩
       case measure=>simp[intOf];omega
     ·have hjn:n=j:=by omega
      subst hjn;have hS:=H.out;rw[List.take_of_length_le (by have:=HSL.out;omega)] at hS;obtain⟨Z,hZ⟩:∃ Z,rest a s=Z:=⟨_,rfl⟩;obtain⟨nz,hnz⟩:∃ nz,Z.length=nz:=⟨_,rfl⟩;rw[hZ,hnz] at hS;have HZ:=Hd hZ;have HNZ:=Hd hnz;have hnz4:nz≤n:=by rw[←hnz,←hZ];have:=a3o a s 0;have h2:=HSL.out;unfold rest;omega
      obtain⟨Az,cz,hv,hcz,_,_⟩:=(hS.ownS 0 rfl).form;subst hv;replace H:=Hd hS;clear hS hZ hnz;have C2:=a0n (c:=cz) ((H.ownInts 0 rfl).2.2)
      go_wp2_with fail
      cases ho:Sh.right Z with
      | false =>
       rw[ho] at C2;refine C2.mono ?_;rintro e5 w5 ⟨rfl,rfl⟩;have HX:=Hd (b1r HH HRT HRI (by rw[HZ.out];exact ho));obtain⟨r0,r1,fr0,fr1⟩:=H.b2 1;clear ho C2;go_wp2;rw[HX.out]
       exact sN2 H 1 13 results70
      | true =>
       rw[ho] at C2;refine C2.mono ?_;rintro e5 w5 ⟨rfl,rfl⟩;have HRO:=Hd ho;have HRZ:=Hd (show Sh.right (rest a s)=true by rw[HZ.out];exact ho);clear ho C2;have CN:=b2c how wr
       go_wp2_with fail
       refine CN.mono ?_;rintro e6 w6 ⟨rfl,rfl⟩;clear CN
       go_wp2_with fail
       refine(a1i (a7k how) ((H.ownInts 0 rfl).2.2) (by omega) (a8o how)).mono ?_;rintro e4 w4 ⟨⟨u,rfl,hu⟩,hb4⟩;obtain⟨S1,ns,sc,D1,N,dc,rfl,hs1,hd1,hsc,hdc,hNle,h5⟩:=H.addTen hb4 hu;rw[List.length_replicate] at hd1;rw[hd1] at h5;have HN:=Hd hd1;have HQ:=Hd (c2z HH HRT HRI HRZ);have h6:=h5.allocBox w4.heap.size 84 [.slice S1 ns sc,.slice D1 N dc] rfl;clear hu hb4 h5 hd1 hs1
       go_upto_region 17 with fail
       generalize w4.alloc (.cells #[.slice S1 ns sc,.slice D1 N dc] 84)=w5 at *;generalize w4.heap.size=gt at *;replace H:=Hd h6;clear h6;obtain⟨t0,t1⟩:=H.z2 5 rfl
       go_wp2_with fail
       clear t0 t1
       go_loopw [61] (fun kv wr=>∃ i:Nat,kv=.int .i64 i∧i≤m∧Sep w wr [.box gt 84 [.slice S1 ns sc,.slice D1 N dc],.own 3 (.slice S1 ns sc) ns Z,.own 2 (.slice D1 N dc) N (a4h how s d a i),.own 3 (.slice Az nz cz) nz Z,.box (w.heap.size+1) 84 [.slice none 0 0,.slice none 0 0],.box w.heap.size 84 [.slice A n c,.slice B m e],.ints A n s,.ints B m d,.ints Aa na a]) (fun kv _=>m-(intOf kv).toNat)
       case atStart=>exact⟨0,rfl,by omega,by rw[a9i,HZ.out,HN.out];exact H⟩
       case round =>
        clear H;obtain⟨i,rfl,hile,hS⟩:=hrel;have H:=Hd hS;clear hS;by_cases hli:i<m
        ·have hiz:(i:Int)<Sh.size s:=by have:=a1u HRT;have:=HDL.out;omega
         obtain⟨t0,t1⟩:=H.z2 5 rfl
         go_wp2_with fail
         refine(a2q i (H.oldInts 6 rfl) ⟨by omega,by omega⟩).mono ?_;rintro e7 w7 ⟨⟨v,n7,rfl,hO⟩,hb7⟩;obtain⟨A7,c7,rfl,hc7,_,_⟩:=hO.form;obtain⟨_,hpl,_,_⟩:=a1g hiz;have hp7:n=n7:=by have:=hO.len;have:=HSL.out;omega
         replace H:=Hd ((H.addOwn hb7 hO).addNil 3);obtain⟨P,hP⟩:∃ P,Sh.placeOf s i=P:=⟨_,rfl⟩;rw[hP] at H hpl;have HP:=Hd hP;have HPL:=Hd (show P.length=n by have:=HSL.out;omega);subst hp7;clear hb7 hO hP hpl hc7 t0 t1
         go_wp2_with fail
         go_loopw [69,12] (fun kv vs wr=>∃(k:Nat) (vx:Value),vx=vs∧kv=.int .i64 k∧k≤n∧Sep w wr [.own 3 vx (rest a (P.take k)).length (rest a (P.take k)),.own 3 (.slice A7 n c7) n P,.box gt 84 [.slice S1 ns sc,.slice D1 N dc],.own 3 (.slice S1 ns sc) ns Z,.own 2 (.slice D1 N dc) N (a4h how s d a i),.own 3 (.slice Az nz cz) nz Z,.box (w.heap.size+1) 84 [.slice none 0 0,.slice none 0 0],.box w.heap.size 84 [.slice A n c,.slice B m e],.ints A n s,.ints B m d,.ints Aa na a]) (fun kv _ _=>n-(intOf kv).toNat)
         case atStart=>exact⟨0,_,rfl,rfl,by omega,H⟩
         case round =>
          clear H;obtain⟨k,vx,rfl,rfl,hk,hS⟩:=hrel;have H:=Hd hS;clear hS;by_cases hlk:k<n
          ·obtain⟨pa,y,hpA,_,hy,hcy,hfy⟩:=((H.ownInts 1 rfl).2.2).at_ (k:=k) hlk;subst hpA;have HT:=Hd (b4f (axes:=a) hy);have HFY:=Hd hfy;have hrl:=a3o a (P.take k) 0;rw[List.length_take] at hrl;clear hy hfy;have C3:=b4b (c:=ca) (k:Int) (H.oldInts 10 rfl)
           go_wp2_with fail
           by_cases hm:(k:Int)∈a
           ·rw[decide_eq_true hm] at C3;refine C3.mono ?_;rintro e8 w8 ⟨rfl,rfl⟩;have HQ2:=Hd (HT.trans (by rw[iP hm,List.append_nil]));clear hm C3 hcy;go_wp2;go_roundw
            case rel=>exact⟨k+1,_,rfl,by go_num,by omega,by rw[HQ2.out];exact H⟩
            case measure=>simp[intOf];omega
           ·rw[decide_eq_false hm] at C3;refine C3.mono ?_;rintro e8 w8 ⟨rfl,rfl⟩;have HQ2:=Hd (HT.trans (by rw[iN hm]));clear hm C3
            go_wp2_with (at_builtin;refine a0u rfl (.tmp 78) (.tmp 80) 23 3 rfl underlying23 Tryz.infoInt H.out 0 rfl rfl y HFY.out _ rfl ?c1 ?_)
            case c1=>exact Nat.le_trans hrl (by omega)
            intro v' w' h';have H8:=Hd h';clear h' hcy;go_wp2;go_roundw
            case rel=>exact⟨k+1,_,rfl,by go_num,by omega,by rw[HQ2.out,List.length_append,List.length_singleton];exact H8⟩
            case measure=>simp[intOf];omega
          ·have hkn:n=k:=by omega
           subst hkn;have hS:=H.out;rw[List.take_of_length_le (by have:=HPL.out;omega)] at hS;have hfw:=c1b HRZ hiz;rw[HP.out,HZ.out] at hfw;obtain⟨hw1,hw2,hw3,hw4⟩:=hfw;obtain⟨Q,hQ⟩:∃ Q,rest a P=Q:=⟨_,rfl⟩;have hql:Q.length=nz:=by rw[←hQ,hw1];exact HNZ
           rw[hQ,hql] at hS;rw[hQ] at hw1 hw2 hw3;obtain⟨Aq,cq,hv,_,_,_⟩:=(hS.ownS 0 rfl).form;subst hv;replace H:=Hd hS;clear hS hQ hql;obtain⟨K,hK⟩:∃ K,b3f s a i=K:=⟨_,rfl⟩;rw[hK] at hw3 hw4;have hKN:K < N:=by have:=HN.out;omega
           have HK:=Hd hK;have CI:=a6c (c:=cz) (d:=cq) ((H.ownInts 5 rfl).2.2) ((H.ownInts 0 rfl).2.2);rw[←hw3] at CI;clear hK hw1 hw2 hw3 hw4
           go_wp2_with fail
           refine CI.mono ?_;rintro e8 w8 ⟨rfl,q8,rfl⟩;replace H:=Hd (H.drewN q8);clear CI;generalize wr.drewN q8=w8 at *;obtain⟨gb,cb,hv,hO⟩:=(H.ownS 4 rfl).own (by omega);injection hv with hv1 _ hv3
           subst hv1;subst hv3;obtain⟨bd,X,hBA,_,hX,hcX,hfX⟩:=(H.oldInts 9 rfl).at_ (k:=i) hli;subst hBA;obtain⟨z,hz⟩:=a0e (l:=a4h how s d a i) (k:=K) (by rw[b7i,HZ.out];have:=HN.out;omega);have hfz:Fits z:=b3g HFD i z (mG hz);have HST:=Hd (show(a4h how s d a i).set K (putF how z X)=a4h how s d a (i+1) by rw[c0z hX,b1c,HK.out,gD,hz];rfl);have hcz:=hO.cell hz;have hff:=hO.frozen K;have h9:=H.store 4 K (x:=putF how z X) (b0j how hfz hfX) rfl;rw[HST.out] at h9;have HS9:=Hd h9.drew;obtain⟨o0,o1⟩:=H.z2 2 rfl;obtain⟨t0,t1⟩:=H.z2 7 rfl;have CP:=fun w=>a9o how z X w
           clear h9 hO hz hfz hX hfX
           go_upto_region 28 with fail
           have hcz1:w8.drew.cell? ⟨gb,K,none⟩=some (.int .i64 z):=hcz;have hcX1:w8.drew.cell? (bd.add i)=some (.int .i64 X):=hcX;have hff1:w8.drew.frozen? ⟨gb,K,none⟩=false:=hff;refine wp_region_still_tail 16 (by kernel_rfl) (by kernel_rfl) ?_;simp only[List.take_succ_cons,List.take_zero,List.drop_succ_cons,List.drop_zero]
           repeat still_step
           still_call ((CP _).mono fun _ _ ⟨h,g⟩=>⟨h,g.symm⟩)
           repeat still_step
           refine wpStill_nil ?_;change wpList _ _ _ _ _ w8.drew;clear o0 o1 t0 t1;go_wp2;go_roundw
           case rel=>exact⟨i+1,by go_num,by omega,HS9.sub [2,3,4,5,6,7,8,9,10] rfl (by decide)⟩
           case measure=>simp[intOf];omega
        ·have him:m=i:=by omega
         subst him;have HQ3:=Hd (show a6y how s d a=(0,Z,a4h how s d a m) by rw[HQ.out,HZ.out,d4e,HDL.out]);obtain⟨o0,o1⟩:=H.z2 0 rfl;obtain⟨r0,r1,fr0,fr1⟩:=H.b2 4;go_wp2;rw[HQ3.out];exact sY2 ((H.setBox 4 0 (.slice S1 ns sc) rfl).setBox 4 1 (.slice D1 N dc) rfl) 4 1 2 (.int .i64 0) results70
end Go.Proofs.YtajhdeddgdhccaaGreatDoor
