import Derived.StillTailTactics
import Derived.Test.YtnnmplkgenhofaaGreatPad
import Derived.Test.YtnnmplkgenhofaaGreatPao
import Derived.Test.YtnnmplkgenhofaaGreatPar
set_option maxRecDepth 100000
set_option maxHeartbeats 12800000
namespace Go.Proofs.YtnnmplkgenhofaaGreat
open Go.RowKit
def howOk (how:Int):Bool:=decide (1≤how) && decide (how≤4)
def noneF (how:Int):Int:=if how=2 then 1 else if how=3 then 9223372036854775807 else if how=4 then -9223372036854775808 else 0
def putF (how a b:Int):Int:=if how=1 then wrap64 (a+b) else if how=2 then wrap64 (a*b) else if how=3 then(if b<a then b else a) else if how=4 then(if b > a then b else a) else 0
theorem noneF_fits (how:Int):Fits (noneF how):=by unfold noneF;unfold Fits;split;omega;split;omega;split <;> omega
theorem putF_fits (how:Int) {a b:Int} (ha:Fits a) (hb:Fits b):Fits (putF how a b):=by
 have h0:Fits 0:=⟨by omega,by omega⟩;unfold putF
 repeat' split
 all_goals first|exact fits_wrap _|assumption
def restAt (axes:List Int):Nat→List Int→List Int
 | _,[]=>[]
 | k,x::xs=>if (k:Int)∈axes then restAt axes (k+1) xs else x::restAt axes (k+1) xs
def rest (axes xs:List Int):List Int:=restAt axes 0 xs
theorem restAt_append (axes:List Int):∀(xs ys:List Int) (k:Nat),restAt axes k (xs++ys)=restAt axes k xs++restAt axes (k+xs.length) ys
 | [],ys,k=>by simp[restAt]
 | x::xs,ys,k=>by
  rw[List.cons_append,restAt,restAt,restAt_append axes xs ys (k+1),List.length_cons,show k+1+xs.length=k+(xs.length+1) by omega]
  split <;> rfl
theorem rest_take {axes xs:List Int} {k:Nat} {x:Int} (h:xs[k]? = some x):rest axes (xs.take (k+1))=rest axes (xs.take k)++(if (k:Int)∈axes then [] else [x]):=by
 have hk:(xs.take k).length=k:=by have:=(List.getElem?_eq_some_iff.1 h).1;simp;omega
 rw[rest,List.take_add_one,h,restAt_append,hk,rest]
 congr 1
 simp[restAt]
theorem rest_length_le (axes:List Int):∀(xs:List Int) (k:Nat),(restAt axes k xs).length≤xs.length
 | [],k=>by simp[restAt]
 | x::xs,k=>by
  rw[restAt];have:=rest_length_le axes xs (k+1)
  split <;> simp <;> omega
theorem rest_len_eq (axes:List Int):∀(xs ys:List Int) (k:Nat),xs.length=ys.length→(restAt axes k xs).length=(restAt axes k ys).length
 | [],[],k,_=>rfl
 | [],_::_,_,h=>by simp at h
 | _::_,[],_,h=>by simp at h
 | x::xs,y::ys,k,h=>by
  rw[restAt,restAt];have:=rest_len_eq axes xs ys (k+1) (by simpa using h)
  split <;> simp[this]
theorem rest_within (axes:List Int):∀(s p:List Int) (k:Nat),s.length=p.length→Sh.within s p=true→Sh.within (restAt axes k s) (restAt axes k p)=true
 | [],[],k,_,_=>by simp[restAt,Sh.within]
 | [],_::_,_,h,_=>by simp at h
 | _::_,[],_,h,_=>by simp at h
 | x::s,y::p,k,hl,hw=>by
  rw[Sh.within_iff] at hw;have ih:=rest_within axes s p (k+1) (by simpa using hl) (by rw[Sh.within_iff];exact fun z hz=>hw z (by simp[hz]));rw[restAt,restAt]
  split
  ·exact ih
  ·rw[Sh.within_iff] at ih ⊢;intro z hz;rw[List.zip_cons_cons,List.mem_cons] at hz;rcases hz with rfl|hz
   ·exact hw (x,y) (by simp)
   ·exact ih z hz
def RisesAt (a:List Int) (r k:Nat):Prop:=∀ x,a[k]? = some x→0≤x∧x<r∧∀ z,0<k→a[k-1]? = some z→z<x
def Rises (a:List Int) (r:Nat):Prop:=∀ k,RisesAt a r k
def foldIx (s axes:List Int) (i:Nat):Nat:=(Sh.index (rest axes s) (rest axes (Sh.placeOf s i))).toNat
def foldOne (how:Int) (s axes o:List Int) (i:Nat) (x:Int):List Int:=o.set (foldIx s axes i) (putF how (o.getD (foldIx s axes i) 0) x)
def foldUp (how:Int) (s d axes:List Int) (k:Nat):List Int:=(List.range k).foldl (fun o i=>foldOne how s axes o i (d.getD i 0)) (List.replicate (Sh.size (rest axes s)).toNat (noneF how))
theorem foldUp_zero (how:Int) (s d axes:List Int):foldUp how s d axes 0=List.replicate (Sh.size (rest axes s)).toNat (noneF how):=rfl
theorem foldUp_step {how:Int} {s d axes:List Int} {k:Nat} {x:Int} (h:d[k]? = some x):foldUp how s d axes (k+1)=foldOne how s axes (foldUp how s d axes k) k x:=by
 rw[foldUp,foldUp,List.range_succ,List.foldl_append];simp[List.getD_eq_getElem?_getD,h]
theorem foldUp_length (how:Int) (s d axes:List Int) (k:Nat):(foldUp how s d axes k).length=(Sh.size (rest axes s)).toNat:=by
 induction k with
 | zero=>rw[foldUp_zero,List.length_replicate]
 | succ k ih =>
  rw[foldUp,List.range_succ,List.foldl_append];simp only[List.foldl_cons,List.foldl_nil,foldOne,List.length_set];exact ih
def foldD (how:Int) (s d axes:List Int):List Int:=foldUp how s d axes d.length
open Classical in
noncomputable def foldR (how:Int) (s d axes:List Int):Int × List Int × List Int :=
 if howOk how then(if tenRight s d then(if Rises axes s.length then(if Sh.right (rest axes s) then(0,rest axes s,foldD how s d axes) else refused 13) else refused 1) else refused 13) else refused 1
theorem foldR_how {how:Int} {s d axes:List Int} (h:howOk how=false):foldR how s d axes=refused 1:=by rw[foldR,h];rfl
theorem foldR_shape {how:Int} {s d axes:List Int} (h:howOk how=true) (g:tenRight s d=false):foldR how s d axes=refused 13:=by rw[foldR,if_pos h,g];rfl
theorem foldR_arg {how:Int} {s d axes:List Int} (h:howOk how=true) (g:tenRight s d=true) (f:¬ Rises axes s.length):foldR how s d axes=refused 1:=by rw[foldR,if_pos h,if_pos g,if_neg f]
theorem foldR_shape2 {how:Int} {s d axes:List Int} (h:howOk how=true) (g:tenRight s d=true) (f:Rises axes s.length) (e:Sh.right (rest axes s)=false):foldR how s d axes=refused 13:=by rw[foldR,if_pos h,if_pos g,if_pos f,e];rfl
theorem foldR_ok {how:Int} {s d axes:List Int} (h:howOk how=true) (g:tenRight s d=true) (f:Rises axes s.length) (e:Sh.right (rest axes s)=true):foldR how s d axes=(0,rest axes s,foldD how s d axes):=by rw[foldR,if_pos h,if_pos g,if_pos f,if_pos e]
theorem fold_within {s axes:List Int} (hr:Sh.right (rest axes s)=true) {i:Nat} (hi:(i:Int)<Sh.size s):(rest axes (Sh.placeOf s i)).length=(rest axes s).length∧Sh.within (rest axes s) (rest axes (Sh.placeOf s i))=true∧(foldIx s axes i:Int)=Sh.index (rest axes s) (rest axes (Sh.placeOf s i))∧foldIx s axes i<(Sh.size (rest axes s)).toNat:=by
 obtain⟨_,hl,hw,_⟩:=placeOf_of hi;have h1:(rest axes (Sh.placeOf s i)).length=(rest axes s).length:=rest_len_eq axes _ _ 0 hl;have h2:=rest_within axes s (Sh.placeOf s i) 0 hl.symm hw;have h3:=index_lt hr h1 h2;exact⟨h1,h2,by rw[foldIx];omega,by rw[foldIx];omega⟩
theorem getD_fits {l:List Int} (h:∀ x∈l,Fits x) (k:Nat):Fits (l.getD k 0):=by
 rw[List.getD_eq_getElem?_getD]
 cases e:l[k]? with
 | none=>exact⟨by simp,by simp⟩
 | some y=>exact h y (List.mem_of_getElem? e)
theorem foldUp_succ (how:Int) (s d axes:List Int) (k:Nat):foldUp how s d axes (k+1)=foldOne how s axes (foldUp how s d axes k) k (d.getD k 0):=by
 rw[foldUp,foldUp,List.range_succ,List.foldl_append];rfl
theorem foldUp_fits {how:Int} {s d axes:List Int} (hd:∀ x∈d,Fits x):∀ k,∀ x∈foldUp how s d axes k,Fits x
 | 0,x,hx=>by
  rw[foldUp_zero] at hx;rw[List.eq_of_mem_replicate hx]
  exact noneF_fits how
 | k+1,x,hx=>by
  rw[foldUp_succ,foldOne] at hx;have ih:=foldUp_fits (how:=how) (s:=s) (axes:=axes) hd k;rcases List.mem_or_eq_of_mem_set hx with hx|rfl
  ·exact ih x hx
  ·exact putF_fits how (getD_fits ih _) (getD_fits hd _)
def Asks6 (e:Ending) (p:Prop):Prop:=∃ b,e=.returned (.bool b)∧(b=true↔p)
theorem asks6_yes {p:Prop} (h:p):Asks6 (.returned (.bool true)) p:=⟨true,rfl,by simp;exact h⟩
theorem asks6_no {p:Prop} (h:¬ p):Asks6 (.returned (.bool false)) p:=⟨false,rfl,by simp;exact h⟩
theorem ref6How_any (how:Int) (w:World) :
  Calls Tryz.prog 100 #[.int .i64 how] w fun e w' => e=.returned (.bool (howOk how))∧w=w' := by
 by_cases h1:1≤how
 ·have d1:decide (1≤how)=true:=by simpa using h1
  go_enter Tryz.func100,Tryz.ntmps100
  go_wp2;go_ret;exact⟨ret_bool (by simp[howOk,h1]),rfl⟩
 ·have d1:decide (1≤how)=false:=by simpa using h1
  have HX:=Hd (show howOk how=false by simp only[howOk,d1,Bool.false_and])
  go_enter Tryz.func100,Tryz.ntmps100
  go_wp2;go_ret;exact⟨ret_bool HX.out.symm,rfl⟩
theorem ref6None_any (how:Int) (w:World) :
  Calls Tryz.prog 103 #[.int .i64 how] w fun e w' => e=.returned (.int .i64 (noneF how))∧w=w' := by
 by_cases h2:how=2
 ·subst h2
  go_enter Tryz.func103,Tryz.ntmps103
  go_wp2;go_ret;exact⟨by simp[noneF],rfl⟩
 by_cases h3:how=3
 ·subst h3;clear h2
  go_enter Tryz.func103,Tryz.ntmps103
  go_wp2;go_ret;exact⟨by simp[noneF],rfl⟩
 by_cases h4:how=4
 ·subst h4;clear h2 h3
  go_enter Tryz.func103,Tryz.ntmps103
  go_wp2;go_ret;exact⟨by simp[noneF],rfl⟩
 have b2:(how==2)=false:=by simpa using h2
 have b3:(how==3)=false:=by simpa using h3
 have b4:(how==4)=false:=by simpa using h4
 go_enter Tryz.func103,Tryz.ntmps103
 go_wp2;go_ret;exact⟨by simp[noneF,h2,h3,h4],rfl⟩
theorem ref6Put_any (how a b:Int) (w:World) :
  Calls Tryz.prog 104 #[.int .i64 how,.int .i64 a,.int .i64 b] w fun e w' => e=.returned (.int .i64 (putF how a b))∧w=w' := by
 by_cases h1:how=1
 ·subst h1
  go_enter Tryz.func104,Tryz.ntmps104
  go_wp2;go_ret;exact⟨by simp[putF],rfl⟩
 by_cases h2:how=2
 ·subst h2;clear h1
  go_enter Tryz.func104,Tryz.ntmps104
  go_wp2;go_ret;exact⟨by simp[putF],rfl⟩
 by_cases h3:how=3
 ·subst h3;clear h1 h2;by_cases hc:b<a
  ·go_enter Tryz.func104,Tryz.ntmps104
   go_wp2;go_ret;exact⟨by simp[putF,hc],rfl⟩
  ·go_enter Tryz.func104,Tryz.ntmps104
   go_wp2;go_ret;exact⟨by simp[putF];omega,rfl⟩
 by_cases h4:how=4
 ·subst h4;clear h1 h2 h3;by_cases hc:b > a
  ·go_enter Tryz.func104,Tryz.ntmps104
   go_wp2;go_ret;exact⟨by simp[putF,hc],rfl⟩
  ·go_enter Tryz.func104,Tryz.ntmps104
   go_wp2;go_ret;exact⟨by simp[putF];omega,rfl⟩
 have b1:(how==1)=false:=by simpa using h1
 have b2:(how==2)=false:=by simpa using h2
 have b3:(how==3)=false:=by simpa using h3
 have b4:(how==4)=false:=by simpa using h4
 go_enter Tryz.func104,Tryz.ntmps104
 go_wp2;go_ret;exact⟨by simp[putF,h1,h2,h3,h4],rfl⟩
theorem ref6Has_any {w:World} {A:Option Addr} {n c:Nat} {a:List Int} (x:Int) (h:Ints w A n a) :
  Calls Tryz.prog 102 #[.slice A n c,.int .i64 x] w fun e w' => e=.returned (.bool (decide (x∈a)))∧w=w' := by
 have hle:=h.le;have H1:=Hd h.len
 go_enter Tryz.func102,Tryz.ntmps102
 go_wp2
 go_loop [8] (fun i=>∃ k:Nat,k≤n∧i=.int .i64 k∧x∉a.take k) (fun i=>n-(intOf i).toNat)
 case atStart=>exact⟨0,Nat.zero_le _,rfl,by simp⟩
 case round =>
  obtain⟨k,hk,rfl,hnm⟩:=hrel;have HN:=Hd hnm;clear hnm;by_cases hlt:k<n
  ·obtain⟨ad,y,rfl,hb,hy,hc,hf⟩:=h.at_ hlt;have HY:=Hd hy;clear hy;by_cases hxy:y=x
   ·subst hxy;have HX:=Hd (show decide (y∈a)=true from decide_eq_true (List.mem_of_getElem? HY.out));go_wp2;go_ret;exact⟨ret_bool HX.out.symm,rfl⟩
   ·have d:(y==x)=false:=by simpa using hxy
    have HXY:=Hd hxy;clear hxy;go_wp2;go_round
    case rel=>exact⟨k+1,by omega,by go_num,by
     rw[List.take_add_one,HY.out];intro hm;rcases List.mem_append.1 hm with hm|hm
     ·exact HN.out hm
     ·exact HXY.out (List.mem_singleton.1 hm).symm⟩
    case measure=>simp[intOf];omega
  ·have HX:=Hd (show decide (x∈a)=false from decide_eq_false (by have h1:=HN.out;rwa [List.take_of_length_le (by have:=H1.out;omega)] at h1));go_wp2;go_ret;exact⟨ret_bool HX.out.symm,rfl⟩
theorem ref6Rising_any {w:World} {A:Option Addr} {n c:Nat} {a:List Int} (r:Nat) (h:Ints w A n a) (_hr:r≤4) :
  Calls Tryz.prog 101 #[.slice A n c,.int .i64 r] w fun e w' => Asks6 e (Rises a r)∧∃ q,w' = w.drewN q:=by
 have hle:=h.le;have H1:=Hd h.len
 go_enter Tryz.func101,Tryz.ntmps101
 go_wp2
 go_loopw [8] (fun i wr=>∃ k:Nat,k≤n∧i=.int .i64 k∧(∀ j,j<k→RisesAt a r j)∧∃ q,wr=w.drewN q) (fun i _=>n-(intOf i).toNat)
 case atStart=>exact⟨0,Nat.zero_le _,rfl,fun j hj=>by omega,0,rfl⟩
 case round =>
  obtain⟨k,hk,rfl,hall,q,rfl⟩:=hrel;have HALL:=Hd hall;clear hall;by_cases hlt:k<n
  ·obtain⟨ad,x,hA,hb,hx,hc,hf⟩:=h.at_ hlt;have HE:=Hd hx;clear hx
   obtain⟨jp,u,hju,hau⟩:∃(jp:Nat) (u:Int),(k=0∨(k=jp+1∧a[jp]? = some u))∧(k=0∨(w.cell? (ad.add jp)=some (.int .i64 u))):=by
    rcases Nat.eq_zero_or_pos k with hj0|hj0
    ·exact⟨0,0,.inl hj0,.inl hj0⟩
    ·obtain⟨ad2,u,hA2,_,hu,hcu,_⟩:=h.at_ (k:=k-1) (by omega);rw[hA] at hA2;injection hA2 with hA2;subst hA2
     exact⟨k-1,u,.inr ⟨by omega,hu⟩,.inr hcu⟩
   subst hA;have HJ:=Hd hju;clear hju;have HBAD:=Hd (show ¬ (0≤x∧x<r∧∀ z,0<k→a[k-1]? = some z→z<x)→¬ Rises a r from fun hbad hR=>hbad (hR k x HE.out));by_cases g1:x<0
   ·have d1:decide (x<0)=true:=by simpa using g1
    have HN:=Hd (HBAD.out (by omega));clear HBAD hau
    go_wp2_with fail
    go_quiet (fail)
    go_wp2;go_ret;exact⟨asks6_no HN.out,_,World.drewN_drewN _ _ _⟩
   have d1:decide (x<0)=false:=by simpa using g1
   by_cases g2:(r:Int)≤x
   ·have d2:decide ((r:Int)≤x)=true:=by simpa using g2
    have HN:=Hd (HBAD.out (by omega));clear HBAD hau
    go_wp2_with fail
    go_quiet (fail)
    go_wp2;go_ret;exact⟨asks6_no HN.out,_,World.drewN_drewN _ _ _⟩
   have d2:decide ((r:Int)≤x)=false:=by simpa using g2
   have HNEXT:=Hd (show(∀ z,0<k→a[k-1]? = some z→z<x)→∀ j,j<k+1→RisesAt a r j from fun hz j hj=>by
    rcases Nat.lt_or_ge j k with h' | h'
    ·exact HALL.out j h'
    ·obtain rfl:j=k:=by omega
     intro y hy;rw[HE.out] at hy;injection hy with hy;subst hy
     exact⟨by omega,by omega,hz⟩)
   by_cases hk0:k=0
   ·have d3:decide (0<k)=false:=by simp[hk0]
    have HG:=Hd (HNEXT.out fun z hz=>by omega);clear HBAD HNEXT hau hk0
    go_wp2_with fail
    go_quiet (fail)
    go_wp2;go_roundw
    case rel=>exact⟨k+1,by omega,by go_num,HG.out,_,rfl⟩
    case measure=>simp[intOf];omega
   ·have d3:decide (0<k)=true:=by simp;omega
    have hcu:w.cell? (ad.add jp)=some (.int .i64 u):=by rcases hau with h|h;exact absurd h hk0;exact h
    have hjp:k=jp+1∧a[jp]? = some u:=by rcases HJ.out with h|h;exact absurd h hk0;exact h
    have hw:IntKind.i64.wrap ((k:Int)-1)=(jp:Int):=by rw[show(k:Int)-1=(jp:Int) by omega];exact IntWalk.i64_in _ ⟨by omega,by omega⟩
    have hjl:jp<n:=by omega
    have HJP:=Hd hjp;clear hau hjp hk0;by_cases g3:x≤u
    ·have d4:decide (x≤u)=true:=by simpa using g3
     have HN:=Hd (HBAD.out (fun hh=>absurd (hh.2.2 u (by have:=HJP.out.1;omega) (by rw[show k-1=jp by have:=HJP.out.1;omega];exact HJP.out.2)) (by omega)));clear HBAD HNEXT
     go_wp2_with fail
     go_quiet (fail)
     go_wp2;go_ret;exact⟨asks6_no HN.out,_,World.drewN_drewN _ _ _⟩
    ·have d4:decide (x≤u)=false:=by simpa using g3
     have HG:=Hd (HNEXT.out fun z hz hz2=>by rw[show k-1=jp by have:=HJP.out.1;omega,HJP.out.2] at hz2;injection hz2 with hz2;omega);clear HBAD HNEXT
     go_wp2_with fail
     go_quiet (fail)
     go_wp2;go_roundw
     case rel=>exact⟨k+1,by omega,by go_num,HG.out,_,rfl⟩
     case measure=>simp[intOf];omega
  ·have HR:=Hd (show Rises a r from fun j x hx=>HALL.out j (by have:=(List.getElem?_eq_some_iff.1 hx).1;have:=H1.out;omega) x hx);go_wp2;go_ret;exact⟨asks6_yes HR.out,_,rfl⟩
theorem ref6Fold_any {w:World} {v:Value} {Aa:Option Addr} {na ca:Nat} {s d a:List Int} (how:Int) (h:Ten w v s d) (hA:Ints w Aa na a) :
  Calls Tryz.prog 76 #[.int .i64 how,v,.slice Aa na ca] w fun e w' => (∃ u,e=.returned (.tuple #[u,.int .i64 (foldR how s d a).1])∧OTen w' w.heap.size u (foldR how s d a).2.1 (foldR how s d a).2.2)∧Below w.heap.size w w' := by
 cases hh:howOk how with
 | false =>
  obtain⟨A,n,c,B,m,e,rfl,hnc,hme,hI,hJ⟩:=h;have h1:=((Sep.nil w).allocBox w.heap.size 71 [.slice A n c,.slice B m e] rfl).allocBox (w.heap.size+1) 71 [.slice none 0 0,.slice none 0 0] (by simp);have HX:=Hd (foldR_how (s:=s) (d:=d) (axes:=a) hh);have C1:=ref6How_any how ((w.alloc (.cells #[.slice A n c,.slice B m e] 71)).alloc (.cells #[.slice none 0 0,.slice none 0 0] 71));rw[hh] at C1
  go_enter Tryz.func76,Tryz.ntmps76
  go_upto_region 1 with fail
  generalize (w.alloc (.cells #[.slice A n c,.slice B m e] 71)).alloc (.cells #[.slice none 0 0,.slice none 0 0] 71)=W at *;have H:=Hd h1;clear h1 hh
  go_wp2_with fail
  refine C1.mono ?_;rintro e1 w1 ⟨rfl,rfl⟩;obtain ⟨r0,r1⟩:=H.out.z2 0 rfl;obtain ⟨fr0,fr1⟩:=H.out.f2 0 rfl;clear C1;go_wp2;rw[HX.out]
  exact sep_ret2 ((H.out.setBox 0 0 (.slice none 0 0) rfl).setBox 0 1 (.slice none 0 0) rfl) 0 rfl (z:=.int .i64 1) Tryz.results76 rfl rfl rfl ⟨⟨_,rfl,_,_,0,0,rfl,OwnS.nil_ _ _ _,OwnS.nil_ _ _ _⟩,((H.out.setBox 0 0 (.slice none 0 0) rfl).setBox 0 1 (.slice none 0 0) rfl).base⟩
 | true =>
  have HH:=Hd hh;clear hh;obtain⟨A,n,c,B,m,e,rfl,hnc,hme,hI,hJ⟩:=h;have h1:=(((((Sep.nil w).old hA).old hJ).old hI).allocBox w.heap.size 71 [.slice A n c,.slice B m e] rfl).allocBox (w.heap.size+1) 71 [.slice none 0 0,.slice none 0 0] (by simp);have hsl:=hI.len;have hnle:=hI.le;have hmle:=hJ.le;have HFD:=Hd hJ.fit;have HDL:=Hd hJ.len;have hla:=hA.len;have hlea:=hA.le
  go_enter Tryz.func76,Tryz.ntmps76
  go_upto_region 1 with fail
  generalize (w.alloc (.cells #[.slice A n c,.slice B m e] 71)).alloc (.cells #[.slice none 0 0,.slice none 0 0] 71)=W at *;have H:=Hd h1;clear h1 hI hJ hA;have HSL:=Hd hsl;clear hsl;have HLa:=Hd hla;clear hla;have hT:=ten_mk (H.out.oldInts 2 rfl) hnc (H.out.oldInts 3 rfl) hme;have C1:=refTensor_any hT;have HT:=Hd hT;clear hT;obtain ⟨t0,t1⟩:=H.out.z2 1 rfl;have CH:=ref6How_any how W;rw[HH.out] at CH
  go_wp2_with fail
  refine CH.mono ?_;rintro e0 w0 ⟨rfl,rfl⟩;clear CH
  go_wp2_with fail
  cases hr:tenRight s d with
  | false =>
   rw[hr] at C1;refine C1.mono ?_;rintro e2 w2 ⟨rfl,hb2⟩;replace H:=Hd (H.out.below hb2);have HX:=Hd (foldR_shape (axes:=a) HH.out hr);obtain ⟨r0,r1⟩:=H.out.z2 0 rfl;obtain ⟨fr0,fr1⟩:=H.out.f2 0 rfl;clear hb2 hr C1 t0 t1;go_wp2;rw[HX.out]
   exact sep_ret2 ((H.out.setBox 0 0 (.slice none 0 0) rfl).setBox 0 1 (.slice none 0 0) rfl) 0 rfl (z:=.int .i64 13) Tryz.results76 rfl rfl rfl ⟨⟨_,rfl,_,_,0,0,rfl,OwnS.nil_ _ _ _,OwnS.nil_ _ _ _⟩,((H.out.setBox 0 0 (.slice none 0 0) rfl).setBox 0 1 (.slice none 0 0) rfl).base⟩
  | true =>
   rw[hr] at C1;refine C1.mono ?_;rintro e2 w2 ⟨rfl,hb2⟩;replace H:=Hd (H.out.below hb2);have HRT:=Hd hr;clear hb2 hr C1 t0 t1 HT;have hn4:n≤4:=by have:=(right_len HRT.out).1;have:=HSL.out;omega
   obtain ⟨t0,t1⟩:=H.out.z2 1 rfl;have C2:=ref6Rising_any (c:=ca) n (H.out.oldInts 4 rfl) hn4
   go_wp2_with fail
   refine C2.mono ?_;rintro e3 w3 ⟨⟨b3,rfl,hb⟩,q,rfl⟩;have HB:=Hd hb;replace H:=Hd (H.out.drewN q);clear hb C2 t0 t1;generalize w2.drewN q=w3 at *
   cases b3
   case false =>
    have HX:=Hd (foldR_arg HH.out HRT.out (fun hc=>by have:=HB.out.2 (by rwa [HSL.out] at hc);cases this));obtain ⟨r0,r1⟩:=H.out.z2 0 rfl;obtain ⟨fr0,fr1⟩:=H.out.f2 0 rfl;go_wp2;rw[HX.out];exact sep_ret2 ((H.out.setBox 0 0 (.slice none 0 0) rfl).setBox 0 1 (.slice none 0 0) rfl) 0 rfl (z:=.int .i64 1) Tryz.results76 rfl rfl rfl ⟨⟨_,rfl,_,_,0,0,rfl,OwnS.nil_ _ _ _,OwnS.nil_ _ _ _⟩,((H.out.setBox 0 0 (.slice none 0 0) rfl).setBox 0 1 (.slice none 0 0) rfl).base⟩
   case true =>
    have HRI:=Hd (show Rises a s.length by rw[HSL.out];exact HB.out.1 rfl);clear HB;replace H:=Hd (H.out.addNil 3);obtain ⟨t0,t1⟩:=H.out.z2 2 rfl
    go_wp2_with fail
    clear t0 t1
    go_loopw [34,8] (fun kv vs wr=>∃(j:Nat) (vx:Value),vx=vs∧kv=.int .i64 j∧j≤n∧Sep w wr [.own 3 vx (rest a (s.take j)).length (rest a (s.take j)),.box (w.heap.size+1) 71 [.slice none 0 0,.slice none 0 0],.box w.heap.size 71 [.slice A n c,.slice B m e],.ints A n s,.ints B m d,.ints Aa na a]) (fun kv _ _=>n-(intOf kv).toNat)
    case atStart=>exact⟨0,_,rfl,rfl,by omega,H.out⟩
    case round =>
     clear H;obtain⟨j,vx,rfl,rfl,hj,hS⟩:=hrel;have H:=Hd hS;clear hS;by_cases hlt:j<n
     ·obtain⟨sa,y,hsA,_,hy,hcy,hfy⟩:=(H.out.oldInts 3 rfl).at_ (k:=j) hlt;subst hsA;have HT:=Hd (rest_take (axes:=a) hy);have HFY:=Hd hfy;have hrl:=rest_length_le a (s.take j) 0;rw[List.length_take] at hrl;clear hy hfy;obtain ⟨t0,t1⟩:=H.out.z2 2 rfl;have C3:=ref6Has_any (c:=ca) (j:Int) (H.out.oldInts 5 rfl)
      go_wp2_with fail
      by_cases hm:(j:Int)∈a
      ·rw[decide_eq_true hm] at C3;refine C3.mono ?_;rintro e4 w4 ⟨rfl,rfl⟩;have HQ:=Hd (HT.out.trans (by rw[if_pos hm,List.append_nil]));clear hm C3 hcy t0 t1;go_wp2;go_roundw
       case rel=>exact⟨j+1,_,rfl,by go_num,by omega,by rw[HQ.out];exact H.out⟩
       case measure=>simp[intOf];omega
      ·rw[decide_eq_false hm] at C3;refine C3.mono ?_;rintro e4 w4 ⟨rfl,rfl⟩;have HQ:=Hd (HT.out.trans (by rw[if_neg hm]));clear hm C3
       go_wp2_with (at_builtin;refine wpList_append_sep rfl (.tmp 41) (.tmp 47) 22 3 rfl Tryz.underlying22 Tryz.infoInt H.out 0 rfl rfl y HFY.out _ rfl ?c1 ?_)
       case c1=>exact Nat.le_trans hrl (by omega)
       intro v' w' h';have H8:=Hd h';clear h' hcy t0 t1;go_wp2;go_roundw
       case rel=>exact⟨j+1,_,rfl,by go_num,by omega,by rw[HQ.out,List.length_append,List.length_singleton];exact H8.out⟩
       case measure=>simp[intOf];omega
     ·have hjn:n=j:=by omega
      subst hjn;have hS:=H.out;rw[List.take_of_length_le (by have:=HSL.out;omega)] at hS;obtain⟨Z,hZ⟩:∃ Z,rest a s=Z:=⟨_,rfl⟩;obtain⟨nz,hnz⟩:∃ nz,Z.length=nz:=⟨_,rfl⟩;rw[hZ,hnz] at hS;have HZ:=Hd hZ;have HNZ:=Hd hnz;have hnz4:nz≤n:=by rw[← hnz,← hZ];have:=rest_length_le a s 0;have h2:=HSL.out;unfold rest;omega
      obtain⟨Az,cz,hv,hcz,_,_⟩:=(hS.ownS 0 rfl).form;subst hv;replace H:=Hd hS;clear hS hZ hnz;have C2:=refRight_any (c:=cz) ((H.out.ownInts 0 rfl).2.2)
      go_wp2_with fail
      cases ho:Sh.right Z with
      | false =>
       rw[ho] at C2;refine C2.mono ?_;rintro e5 w5 ⟨rfl,rfl⟩;have HX:=Hd (foldR_shape2 HH.out HRT.out HRI.out (by rw[HZ.out];exact ho));obtain ⟨r0,r1⟩:=H.out.z2 1 rfl;obtain ⟨fr0,fr1⟩:=H.out.f2 1 rfl;clear ho C2;go_wp2;rw[HX.out]
       exact sep_ret2 ((H.out.setBox 1 0 (.slice none 0 0) rfl).setBox 1 1 (.slice none 0 0) rfl) 1 rfl (z:=.int .i64 13) Tryz.results76 rfl rfl rfl ⟨⟨_,rfl,_,_,0,0,rfl,OwnS.nil_ _ _ _,OwnS.nil_ _ _ _⟩,((H.out.setBox 1 0 (.slice none 0 0) rfl).setBox 1 1 (.slice none 0 0) rfl).base⟩
      | true =>
       rw[ho] at C2;refine C2.mono ?_;rintro e5 w5 ⟨rfl,rfl⟩;have HRO:=Hd ho;have HRZ:=Hd (show Sh.right (rest a s)=true by rw[HZ.out];exact ho);clear ho C2;have CN:=ref6None_any how wr
       go_wp2_with fail
       refine CN.mono ?_;rintro e6 w6 ⟨rfl,rfl⟩;clear CN
       go_wp2_with fail
       refine(refFill_any (noneF how) ((H.out.ownInts 0 rfl).2.2) (by omega) (noneF_fits how)).mono ?_;rintro e4 w4 ⟨⟨u,rfl,hu⟩,hb4⟩;obtain⟨S1,ns,sc,D1,N,dc,rfl,hs1,hd1,hsc,hdc,hNle,h5⟩:=H.out.addTen hb4 hu;rw[List.length_replicate] at hd1;rw[hd1] at h5;have HN:=Hd hd1;have HQ:=Hd (foldR_ok HH.out HRT.out HRI.out HRZ.out);have h6:=h5.allocBox w4.heap.size 71 [.slice S1 ns sc,.slice D1 N dc] rfl;clear hu hb4 h5 hd1 hs1
       go_upto_region 17 with fail
       generalize w4.alloc (.cells #[.slice S1 ns sc,.slice D1 N dc] 71)=w5 at *;generalize w4.heap.size=gt at *;replace H:=Hd h6;clear h6;obtain ⟨t0,t1⟩:=H.out.z2 5 rfl
       go_wp2_with fail
       clear t0 t1
       go_loopw [61] (fun kv wr=>∃ i:Nat,kv=.int .i64 i∧i≤m∧Sep w wr [.box gt 71 [.slice S1 ns sc,.slice D1 N dc],.own 3 (.slice S1 ns sc) ns Z,.own 2 (.slice D1 N dc) N (foldUp how s d a i),.own 3 (.slice Az nz cz) nz Z,.box (w.heap.size+1) 71 [.slice none 0 0,.slice none 0 0],.box w.heap.size 71 [.slice A n c,.slice B m e],.ints A n s,.ints B m d,.ints Aa na a]) (fun kv _=>m-(intOf kv).toNat)
       case atStart=>exact⟨0,rfl,by omega,by rw[foldUp_zero,HZ.out,HN.out];exact H.out⟩
       case round =>
        clear H;obtain⟨i,rfl,hile,hS⟩:=hrel;have H:=Hd hS;clear hS;by_cases hli:i<m
        ·have hiz:(i:Int)<Sh.size s:=by have:=len_right HRT.out;have:=HDL.out;omega
         obtain ⟨t0,t1⟩:=H.out.z2 5 rfl
         go_wp2_with fail
         refine(refPlace_own i (H.out.oldInts 6 rfl) ⟨by omega,by omega⟩).mono ?_;rintro e7 w7 ⟨⟨v,n7,rfl,hO⟩,hb7⟩;obtain⟨A7,c7,rfl,hc7,_,_⟩:=hO.form;obtain⟨_,hpl,_,_⟩:=placeOf_of hiz;have hp7:n=n7:=by have:=hO.len;have:=HSL.out;omega
         replace H:=Hd ((H.out.addOwn hb7 hO).addNil 3);obtain⟨P,hP⟩:∃ P,Sh.placeOf s i=P:=⟨_,rfl⟩;rw[hP] at H hpl;have HP:=Hd hP;have HPL:=Hd (show P.length=n by have:=HSL.out;omega);subst hp7;clear hb7 hO hP hpl hc7 t0 t1
         go_wp2_with fail
         go_loopw [69,12] (fun kv vs wr=>∃(k:Nat) (vx:Value),vx=vs∧kv=.int .i64 k∧k≤n∧Sep w wr [.own 3 vx (rest a (P.take k)).length (rest a (P.take k)),.own 3 (.slice A7 n c7) n P,.box gt 71 [.slice S1 ns sc,.slice D1 N dc],.own 3 (.slice S1 ns sc) ns Z,.own 2 (.slice D1 N dc) N (foldUp how s d a i),.own 3 (.slice Az nz cz) nz Z,.box (w.heap.size+1) 71 [.slice none 0 0,.slice none 0 0],.box w.heap.size 71 [.slice A n c,.slice B m e],.ints A n s,.ints B m d,.ints Aa na a]) (fun kv _ _=>n-(intOf kv).toNat)
         case atStart=>exact⟨0,_,rfl,rfl,by omega,H.out⟩
         case round =>
          clear H;obtain⟨k,vx,rfl,rfl,hk,hS⟩:=hrel;have H:=Hd hS;clear hS;by_cases hlk:k<n
          ·obtain⟨pa,y,hpA,_,hy,hcy,hfy⟩:=((H.out.ownInts 1 rfl).2.2).at_ (k:=k) hlk;subst hpA;have HT:=Hd (rest_take (axes:=a) hy);have HFY:=Hd hfy;have hrl:=rest_length_le a (P.take k) 0;rw[List.length_take] at hrl;clear hy hfy;have C3:=ref6Has_any (c:=ca) (k:Int) (H.out.oldInts 10 rfl)
           go_wp2_with fail
           by_cases hm:(k:Int)∈a
           ·rw[decide_eq_true hm] at C3;refine C3.mono ?_;rintro e8 w8 ⟨rfl,rfl⟩;have HQ2:=Hd (HT.out.trans (by rw[if_pos hm,List.append_nil]));clear hm C3 hcy;go_wp2;go_roundw
            case rel=>exact⟨k+1,_,rfl,by go_num,by omega,by rw[HQ2.out];exact H.out⟩
            case measure=>simp[intOf];omega
           ·rw[decide_eq_false hm] at C3;refine C3.mono ?_;rintro e8 w8 ⟨rfl,rfl⟩;have HQ2:=Hd (HT.out.trans (by rw[if_neg hm]));clear hm C3
            go_wp2_with (at_builtin;refine wpList_append_sep rfl (.tmp 78) (.tmp 80) 22 3 rfl Tryz.underlying22 Tryz.infoInt H.out 0 rfl rfl y HFY.out _ rfl ?c1 ?_)
            case c1=>exact Nat.le_trans hrl (by omega)
            intro v' w' h';have H8:=Hd h';clear h' hcy;go_wp2;go_roundw
            case rel=>exact⟨k+1,_,rfl,by go_num,by omega,by rw[HQ2.out,List.length_append,List.length_singleton];exact H8.out⟩
            case measure=>simp[intOf];omega
          ·have hkn:n=k:=by omega
           subst hkn;have hS:=H.out;rw[List.take_of_length_le (by have:=HPL.out;omega)] at hS;have hfw:=fold_within HRZ.out hiz;rw[HP.out,HZ.out] at hfw;obtain⟨hw1,hw2,hw3,hw4⟩:=hfw;obtain⟨Q,hQ⟩:∃ Q,rest a P=Q:=⟨_,rfl⟩;have hql:Q.length=nz:=by rw[← hQ,hw1];exact HNZ.out
           rw[hQ,hql] at hS;rw[hQ] at hw1 hw2 hw3;obtain⟨Aq,cq,hv,_,_,_⟩:=(hS.ownS 0 rfl).form;subst hv;replace H:=Hd hS;clear hS hQ hql;obtain⟨K,hK⟩:∃ K,foldIx s a i=K:=⟨_,rfl⟩;rw[hK] at hw3 hw4;have hKN:K < N:=by have:=HN.out;omega
           have HK:=Hd hK;have CI:=refIndex_any (c:=cz) (d:=cq) ((H.out.ownInts 5 rfl).2.2) ((H.out.ownInts 0 rfl).2.2);rw[← hw3] at CI;clear hK hw1 hw2 hw3 hw4
           go_wp2_with fail
           refine CI.mono ?_;rintro e8 w8 ⟨rfl,q8,rfl⟩;replace H:=Hd (H.out.drewN q8);clear CI;generalize wr.drewN q8=w8 at *;obtain⟨gb,cb,hv,hO⟩:=(H.out.ownS 4 rfl).own (by omega);injection hv with hv1 _ hv3
           subst hv1;subst hv3;obtain⟨bd,X,hBA,_,hX,hcX,hfX⟩:=(H.out.oldInts 9 rfl).at_ (k:=i) hli;subst hBA;obtain⟨z,hz⟩:=getElem_of (l:=foldUp how s d a i) (k:=K) (by rw[foldUp_length,HZ.out];have:=HN.out;omega);have hfz:Fits z:=foldUp_fits HFD.out i z (List.mem_of_getElem? hz);have HST:=Hd (show(foldUp how s d a i).set K (putF how z X)=foldUp how s d a (i+1) by rw[foldUp_step hX,foldOne,HK.out,List.getD_eq_getElem?_getD,hz];rfl);have hcz:=hO.cell hz;have hff:=hO.frozen K;have h9:=H.out.store 4 K (x:=putF how z X) (putF_fits how hfz hfX) rfl;rw[HST.out] at h9;have HS9:=Hd h9.drew;obtain ⟨o0,o1⟩:=H.out.z2 2 rfl;obtain ⟨t0,t1⟩:=H.out.z2 7 rfl;have CP:=fun w=>ref6Put_any how z X w
           clear h9 hO hz hfz hX hfX
           go_upto_region 28 with fail
           have hcz1:w8.drew.cell? ⟨gb,K,none⟩=some (.int .i64 z):=hcz;have hcX1:w8.drew.cell? (bd.add i)=some (.int .i64 X):=hcX;have hff1:w8.drew.frozen? ⟨gb,K,none⟩=false:=hff;refine wp_region_still_tail 16 (by kernel_rfl) (by kernel_rfl) ?_;simp only[List.take_succ_cons,List.take_zero,List.drop_succ_cons,List.drop_zero]
           repeat still_step
           still_call ((CP _).mono fun _ _ ⟨h,g⟩=>⟨h,g.symm⟩)
           repeat still_step
           refine wpStill_nil ?_;change wpList _ _ _ _ _ w8.drew;clear o0 o1 t0 t1;go_wp2;go_roundw
           case rel=>exact⟨i+1,by go_num,by omega,HS9.out.sub [2,3,4,5,6,7,8,9,10] rfl (by decide)⟩
           case measure=>simp[intOf];omega
        ·have him:m=i:=by omega
         subst him;have HQ3:=Hd (show foldR how s d a=(0,Z,foldUp how s d a m) by rw[HQ.out,HZ.out,foldD,HDL.out]);obtain ⟨o0,o1⟩:=H.out.z2 0 rfl;obtain ⟨r0,r1⟩:=H.out.z2 4 rfl;obtain ⟨fr0,fr1⟩:=H.out.f2 4 rfl;go_wp2;rw[HQ3.out];exact sep_ret2 ((H.out.setBox 4 0 (.slice S1 ns sc) rfl).setBox 4 1 (.slice D1 N dc) rfl) 4 rfl (z:=.int .i64 0) Tryz.results76 rfl rfl rfl ⟨⟨_,rfl,_,_,ns,N,rfl,((H.out.setBox 4 0 (.slice S1 ns sc) rfl).setBox 4 1 (.slice D1 N dc) rfl).ownS 1 rfl,((H.out.setBox 4 0 (.slice S1 ns sc) rfl).setBox 4 1 (.slice D1 N dc) rfl).ownS 2 rfl⟩,((H.out.setBox 4 0 (.slice S1 ns sc) rfl).setBox 4 1 (.slice D1 N dc) rfl).base⟩
end Go.Proofs.YtnnmplkgenhofaaGreat
