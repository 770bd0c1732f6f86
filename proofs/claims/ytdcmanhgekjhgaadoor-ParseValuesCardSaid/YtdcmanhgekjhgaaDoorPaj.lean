import Derived.StillTailTactics
import Derived.Test.YtdcmanhgekjhgaaDoorPai
set_option maxRecDepth 100000
set_option maxHeartbeats 12800000
namespace Go.Proofs.YtdcmanhgekjhgaaDoor
open Go.RowKit Go.Proofs.Tryd
variable {A:Option Addr} {a axes b d f hi lo o s t xs z:List Int} {apart ax how n wide x y:Int} {c k:Nat}
def gen (n:Nat) (f:Nat→Int):List Int:=(List.range n).map f
def num (s d p:List Int):Int:=d.getD (Sh.index s p).toNat 0
def a5g:List Int→List Int→List Int→Bool
 | [],[],[]=>true
 | n::s,f::fs,z::zs=>decide (0≤f)&&decide (0≤z)&&decide (f≤n)&&decide (z≤n-f)&&a5g s fs zs
 | _,_,_=>false
theorem b6u:∀ {s f z:List Int},a5g s f z=true→∀ {k:Nat} {a b c:Int},s[k]?=some a→f[k]?=some b→z[k]?=some c→0≤b∧0≤c∧b≤a∧c≤a-b
 | [],[],[],_,k,a,b,c,ha,_,_=>by simp at ha
 | n::s,x::f,y::z,h,k,a,b,c,ha,hb,hc=>by
  simp only[a5g,Bool.and_eq_true,decide_eq_true_eq] at h
  cases k with
  | zero=>simp at ha hb hc;subst ha;subst hb;subst hc;omega
  | succ k=>exact b6u h.2 (by simpa using ha) (by simpa using hb) (by simpa using hc)
 | [],_::_,_,h,_,_,_,_,_,_,_=>by simp[a5g] at h
 | [],[],_::_,h,_,_,_,_,_,_,_=>by simp[a5g] at h
 | _::_,[],_,h,_,_,_,_,_,_,_=>by simp[a5g] at h
 | _::_,_::_,[],h,_,_,_,_,_,_,_=>by simp[a5g] at h
theorem b3g:∀ {s f z:List Int},f.length=s.length→z.length=s.length→(∀(k:Nat) (a b c:Int),s[k]?=some a→f[k]?=some b→z[k]?=some c→0≤b∧0≤c∧b≤a∧c≤a-b)→a5g s f z=true
 | [],[],[],_,_,_=>rfl
 | n::s,x::f,y::z,h1,h2,h=>by
  have h0:=h 0 n x y rfl rfl rfl;simp only[a5g,Bool.and_eq_true,decide_eq_true_eq]
  exact⟨⟨⟨⟨h0.1,h0.2.1⟩,h0.2.2.1⟩,h0.2.2.2⟩,b3g (by simpa using h1) (by simpa using h2) fun k a b c ha hb hc=>h (k+1) a b c (by simpa using ha) (by simpa using hb) (by simpa using hc)⟩
 | [],_::_,_,h,_,_=>by simp at h
 | [],[],_::_,_,h,_=>by simp at h
 | _::_,[],_,h,_,_=>by simp at h
 | _::_,_::_,[],_,h,_=>by simp at h
def addP (p f:List Int):List Int:=List.zipWith (· + ·) p f
def cutD (s d f z:List Int):List Int:=gen (Sh.size z).toNat fun i=>num s d (addP (Sh.placeOf z i) f)
def cutR (s d f z:List Int):Int × List Int × List Int:=if a0d s d then(if a5g s f z then(0,z,cutD s d f z) else refused 1) else refused 13
theorem c3r (h:a0d s d=true)(g:a5g s f z=false):cutR s d f z=refused 1:=by simp[cutR,h,g]
theorem c6p (h:a0d s d=true)(g:a5g s f z=true):cutR s d f z=(0,z,cutD s d f z):=by simp[cutR,h,g]
theorem a2d {α : Type}{l:List α}(h:k<l.length):∃ x,l[k]?=some x:=gE h
def SpAt (s o a:List Int) (i:Nat):Prop:=∀ x y,a[i]?=some x→s[i]?=some y→0≤x∧x<o.length∧(∀ z,0<i→a[i-1]?=some z→z<x)∧o[x.toNat]?=some y
def SpOk (s o a:List Int):Prop:=a.length=s.length∧∀ i,SpAt s o a i
def spP (p a:List Int):List Int:=a.map fun x=>p.getD x.toNat 0
def spD (s d o a:List Int):List Int:=gen (Sh.size o).toNat fun i=>num s d (spP (Sh.placeOf o i) a)
open Classical in
noncomputable def spR (s d o a:List Int):Int × List Int × List Int:=if a0d s d&&Sh.right o then(if SpOk s o a then(0,o,spD s d o a) else refused 1) else refused 13
theorem c2t (h:(a0d s d&&Sh.right o)=false):spR s d o a=refused 13:=by rw[spR,h];rfl
theorem c7v (h:(a0d s d&&Sh.right o)=true)(g:¬ SpOk s o a):spR s d o a=refused 1:=by rw[spR,iP h,iN g]
theorem c8w (h:(a0d s d&&Sh.right o)=true)(g:SpOk s o a):spR s d o a=(0,o,spD s d o a):=by rw[spR,iP h,iP g]
def TuAt (s a:List Int) (i:Nat):Prop:=∀ x,a[i]?=some x→0≤x∧x<s.length∧x∉a.take i
def TuOk (s a:List Int):Prop:=a.length=s.length∧∀ i,TuAt s a i
def a7q (s a:List Int):List Int:=a.map fun x=>s.getD x.toNat 0
theorem a4y (s a:List Int):(a7q s a).length=a.length:=by simp[a7q]
theorem c5t (h:a[k]?=some x)(g:s[x.toNat]?=some y):(a7q s a)[k]?=some y:=by simp[a7q,h,List.getD_eq_getElem?_getD,g]
def c8t (f a p:List Int) (k:Nat):List Int:=(List.range k).foldl (fun f i=>f.set (a.getD i 0).toNat (p.getD i 0)) f
def c9g (n:Nat) (a p:List Int):List Int:=c8t (List.replicate n 0) a p a.length
def c8y (s d a:List Int):List Int:=gen (Sh.size (a7q s a)).toNat fun i=>num s d (c9g s.length a (Sh.placeOf (a7q s a) i))
open Classical in
noncomputable def b9q (s d a:List Int):Int × List Int × List Int:=if a0d s d then(if TuOk s a then(0,a7q s a,c8y s d a) else refused 1) else refused 13
theorem c3d (h:a0d s d=true)(g:¬ TuOk s a):b9q s d a=refused 1:=by rw[b9q,iP h,iN g]
theorem c5s (h:a0d s d=true)(g:TuOk s a):b9q s d a=(0,a7q s a,c8y s d a):=by rw[b9q,iP h,iP g]
def c9a (lo hi:List Int) (i:Nat):Prop:=∀ x y,lo[i]?=some x→hi[i]?=some y→0≤x∧0≤y∧x≤32∧y≤32
def b0y (s lo hi:List Int):Prop:=lo.length=s.length∧hi.length=s.length∧∀ i,c9a lo hi i
def padS (s lo hi:List Int):List Int:=List.zipWith (· + ·) (List.zipWith (· + ·) lo s) hi
theorem b6c (h:lo.length=s.length)(g:hi.length=s.length):(padS s lo hi).length=s.length:=by simp[padS];omega
theorem c7k {z:Int}(h:lo[k]?=some x)(g:s[k]?=some y)(f:hi[k]?=some z):(padS s lo hi)[k]?=some (x+y+z):=by simp[padS,List.getElem?_zipWith,h,g,f]
def scat (o d:List Int) (ix:Nat→Nat) (k:Nat):List Int:=(List.range k).foldl (fun o i=>o.set (ix i) (d.getD i 0)) o
def padD (s d lo hi:List Int) (n:Int):List Int:=scat (List.replicate (Sh.size (padS s lo hi)).toNat n) d (fun i=>(Sh.index (padS s lo hi) (addP (Sh.placeOf s i) lo)).toNat) d.length
open Classical in
noncomputable def padR (s d lo hi:List Int) (n:Int):Int × List Int × List Int:=if a0d s d then(if b0y s lo hi then(if Sh.right (padS s lo hi) then(0,padS s lo hi,padD s d lo hi n) else refused 13) else refused 1) else refused 13
theorem c5g (h:a0d s d=true)(g:¬ b0y s lo hi):padR s d lo hi n=refused 1:=by rw[padR,iP h,iN g]
theorem b6b (h:a0d s d=true)(g:b0y s lo hi)(k:Sh.right (padS s lo hi)=false):padR s d lo hi n=refused 13:=by rw[padR,iP h,iP g,k];rfl
theorem c7j (h:a0d s d=true)(g:b0y s lo hi)(k:Sh.right (padS s lo hi)=true):padR s d lo hi n=(0,padS s lo hi,padD s d lo hi n):=by rw[padR,iP h,iP g,iP k]
abbrev TL:=List (List Int × List Int)
def tot (ax:Nat) (l:TL):Int:=l.foldl (fun a t=>a+t.1.getD ax 0) 0
def b5h (s:List Int) (ax:Nat) (t:List Int):Prop:=t.length=s.length∧∀(k:Nat) (x y:Int),k≠ax→t[k]?=some x→s[k]?=some y→x=y
def a6c (l:TL):Prop:=∀ t∈l,a0d t.1 t.2=true
def axOk (ax:Int) (l:TL):Prop:=∃ t,l[0]?=some t∧0≤ax∧ax<t.1.length
def c6y (l:TL):List Int:=match l with | []=>[]|t::_=>t.1
def b5r (ax:Nat) (l:TL):List Int:=(c6y l).set ax (tot ax l)
def c9b (p:List Int) (ax:Nat) (h:Int):List Int:=p.set ax (p.getD ax 0+h)
def c8i (s:List Int) (ax:Nat) (t:List Int) (h:Int) (k:Nat):Nat:=(Sh.index s (c9b (Sh.placeOf t k) ax h)).toNat
def c6d (ax:Nat) (l:TL) (i:Nat):List Int:=(List.range i).foldl (fun o i=>scat o (l.getD i ([],[])).2 (c8i (b5r ax l) ax (l.getD i ([],[])).1 (tot ax (l.take i))) (l.getD i ([],[])).2.length) (List.replicate (Sh.size (b5r ax l)).toNat 0)
def b9s (ax:Nat) (l:TL):Prop:=(∀ t∈l,b5h (c6y l) ax t.1)∧Sh.right (b5r ax l)=true
open Classical in
noncomputable def b3s (ax:Int) (l:TL):Int × List Int × List Int:=if a6c l then(if axOk ax l then(if b9s ax.toNat l then(0,b5r ax.toNat l,c6d ax.toNat l l.length) else refused 13) else refused 1) else refused 13
theorem c1b {l:TL}(h:a6c l)(g:¬ axOk ax l):b3s ax l=refused 1:=by rw[b3s,iP h,iN g]
theorem a9l {l:TL}(h:a6c l)(g:axOk ax l)(k:¬ b9s ax.toNat l):b3s ax l=refused 13:=by rw[b3s,iP h,iP g,iN k]
theorem c4h {l:TL}(h:a6c l)(g:axOk ax l)(k:b9s ax.toNat l):b3s ax l=(0,b5r ax.toNat l,c6d ax.toNat l l.length):=by rw[b3s,iP h,iP g,iP k]
def ins (l:List Int) (k:Nat) (x:Int):List Int:=l.take k++[x]++l.drop k
def skip (k n:Nat):List Int:=gen n fun j=>if j<k then(j:Int) else(j:Int)+1
def a3w (how:Int):Bool:=decide (1≤how)&&decide (how≤4)
def c8m (how:Int):Int:=if how=2 then 1 else if how=3 then 9223372036854775807 else if how=4 then -9223372036854775808 else 0
def putF (how a b:Int):Int:=if how=1 then wrap64 (a+b) else if how=2 then wrap64 (a*b) else if how=3 then(if b<a then b else a) else if how=4 then(if b > a then b else a) else 0
def a4a (axes:List Int):Nat→List Int→List Int
 | _,[]=>[]
 | k,x::xs=>if (k:Int)∈axes then a4a axes (k+1) xs else x::a4a axes (k+1) xs
def rest (axes xs:List Int):List Int:=a4a axes 0 xs
theorem a6q (axes:List Int):∀(xs ys:List Int) (k:Nat),a4a axes k (xs++ys)=a4a axes k xs++a4a axes (k+xs.length) ys
 | [],ys,k=>by simp[a4a]
 | x::xs,ys,k=>by
  rw[List.cons_append,a4a,a4a,a6q axes xs ys (k+1),List.length_cons,show k+1+xs.length=k+(xs.length+1) by omega]
  split <;> rfl
theorem c2e (h:xs[k]?=some x):rest axes (xs.take (k+1))=rest axes (xs.take k)++(if (k:Int)∈axes then [] else [x]):=by
 have hk:(xs.take k).length=k:=by have:=(lL h);simp;omega
 rw[rest,List.take_add_one,h,a6q,hk,rest]
 congr 1
 simp[a4a]
theorem a5n (axes:List Int):∀(xs:List Int) (k:Nat),(a4a axes k xs).length≤xs.length
 | [],k=>by simp[a4a]
 | x::xs,k=>by
  rw[a4a];have:=a5n axes xs (k+1)
  split <;> simp <;> omega
def b9u (a:List Int) (r k:Nat):Prop:=∀ x,a[k]?=some x→0≤x∧x<r∧∀ z,0<k→a[k-1]?=some z→z<x
def a5r (a:List Int) (r:Nat):Prop:=∀ k,b9u a r k
def c6a (s axes:List Int) (i:Nat):Nat:=(Sh.index (rest axes s) (rest axes (Sh.placeOf s i))).toNat
def c6x (how:Int) (s axes o:List Int) (i:Nat) (x:Int):List Int:=o.set (c6a s axes i) (putF how (o.getD (c6a s axes i) 0) x)
def c8h (how:Int) (s d axes:List Int) (k:Nat):List Int:=(List.range k).foldl (fun o i=>c6x how s axes o i (d.getD i 0)) (List.replicate (Sh.size (rest axes s)).toNat (c8m how))
def c8g (how:Int) (s d axes:List Int):List Int:=c8h how s d axes d.length
open Classical in
noncomputable def b0z (how:Int) (s d axes:List Int):Int × List Int × List Int :=
 if a3w how then(if a0d s d then(if a5r axes s.length then(if Sh.right (rest axes s) then(0,rest axes s,c8g how s d axes) else refused 13) else refused 1) else refused 13) else refused 1
theorem c0k (h:a3w how=false):b0z how s d axes=refused 1:=by rw[b0z,h];rfl
theorem c0j (h:a3w how=true)(g:a0d s d=true)(f:¬ a5r axes s.length):b0z how s d axes=refused 1:=by rw[b0z,iP h,iP g,iN f]
theorem b3k (h:a3w how=true)(g:a0d s d=true)(f:a5r axes s.length)(e:Sh.right (rest axes s)=false):b0z how s d axes=refused 13:=by rw[b0z,iP h,iP g,iP f,e];rfl
theorem c3y (h:a3w how=true)(g:a0d s d=true)(f:a5r axes s.length)(e:Sh.right (rest axes s)=true):b0z how s d axes=(0,rest axes s,c8g how s d axes):=by rw[b0z,iP h,iP g,iP f,iP e]
def dotS (a b:List Int) (n:Nat):List Int:=a.take (a.length-1)++b.drop (n+1)
def a4m (a b:List Int) (n:Nat):Bool:=Sh.right a&&Sh.right b&&decide (a.take n=b.take n)&&decide (a.getD (a.length-1) 0=b.getD n 0)
def dsOk (a b:List Int) (n:Int):Bool:=decide (0≤n)&&decide (n<a.length)&&decide (n<b.length)
def dsR (a b:List Int) (n:Int):Int × List Int :=
 if dsOk a b n then(if a4m a b n.toNat then(if Sh.right (dotS a b n.toNat) then(0,dotS a b n.toNat) else(13,[])) else(13,[])) else(1,[])
theorem a8o:dsOk a b n=true↔0≤n∧n<a.length∧n<b.length:=by simp[dsOk,and_assoc]
theorem b2e (h:¬(0≤n∧n<a.length∧n<b.length)):dsR a b n=(1,[]):=by
 rw[dsR,iN (by rw[a8o];exact h)]
theorem a4q {n:Nat}(h:n<a.length∧n<b.length)(g:a4m a b n=false):dsR a b n=(13,[]):=by
 rw[dsR,iP (a8o.2 ⟨by omega,by omega,by omega⟩),Int.toNat_natCast,g];rfl
theorem b1h {n:Nat}(h:n<a.length∧n<b.length)(g:a4m a b n=true)(f:Sh.right (dotS a b n)=false):dsR a b n=(13,[]):=by
 rw[dsR,iP (a8o.2 ⟨by omega,by omega,by omega⟩),Int.toNat_natCast,iP g,f];rfl
theorem c0g {n:Nat}(h:n<a.length∧n<b.length)(g:a4m a b n=true)(f:Sh.right (dotS a b n)=true):dsR a b n=(0,dotS a b n):=by
 rw[dsR,iP (a8o.2 ⟨by omega,by omega,by omega⟩),Int.toNat_natCast,iP g,iP f]
structure c6j (a b:List Int) (n:Nat):Prop where
 la:n<a.length
 lb:n<b.length
 ra:Sh.right a=true
 rb:Sh.right b=true
 pre:a.take n=b.take n
 mid:a.getD (a.length-1) 0=b.getD n 0
 rs:Sh.right (dotS a b n)=true
theorem a7f {n:Nat}:a4m a b n=true↔Sh.right a=true∧Sh.right b=true∧a.take n=b.take n∧a.getD (a.length-1) 0=b.getD n 0:=by
 simp[a4m,and_assoc]
theorem c3u (h:(dsR a b n).1=0):∃ k:Nat,n=k∧c6j a b k∧dsR a b n=(0,dotS a b k):=by
 by_cases h0:0≤n∧n<a.length∧n<b.length
 ·obtain⟨k,rfl⟩:=eZ h0.1;have hk:k<a.length∧k<b.length:=⟨by omega,by omega⟩
  cases g:a4m a b k with
  | false=>rw[a4q hk g] at h;cases h
  | true =>
   cases f:Sh.right (dotS a b k) with
   | false=>rw[b1h hk g f] at h;cases h
   | true =>
    obtain⟨h1,h2,h3,h4⟩:=a7f.1 g;exact⟨k,rfl,⟨hk.1,hk.2,h1,h2,h3,h4,f⟩,c0g hk g f⟩
 ·rw[b2e h0] at h;cases h
theorem c8e {n:Nat}(h:c6j a b n):dsR a b n=(0,dotS a b n):=c0g ⟨h.la,h.lb⟩ (a7f.2 ⟨h.ra,h.rb,h.pre,h.mid⟩) h.rs
def dotB (t:List Int) (n:Nat):Nat:=(Sh.pd (t.drop (n+1))).toNat
def dotA (s:List Int) (n:Nat):Nat:=(Sh.pd ((s.drop n).take (s.length-1-n))).toNat
def dotM (t:List Int) (n:Nat):Nat:=(t.getD n 0).toNat
def dotT (d k:List Int) (A B M i j:Nat):Int:=wrap64 (d.getD (i / B*M+j) 0*k.getD ((i / (A*B)*M+j)*B+i % B) 0)
def c5y (d k:List Int) (A B M i:Nat):Nat→Int
 | 0=>0
 | J+1=>wrap64 (c5y d k A B M i J+dotT d k A B M i J)
def dotV (s d t k:List Int) (n i J:Nat):Int:=c5y d k (dotA s n) (dotB t n) (dotM t n) i J
def dotD (s d t k:List Int) (n:Nat):List Int:=gen (Sh.size (dotS s t n)).toNat fun i=>dotV s d t k n i (dotM t n)
def dotR (s d t k:List Int) (n:Int):Int × List Int × List Int :=
 if a0d s d&&a0d t k then(if (dsR s t n).1=0 then(0,(dsR s t n).2,dotD s d t k n.toNat) else refused (dsR s t n).1) else refused 13
theorem b7x {k:List Int}(h:(a0d s d&&a0d t k)=true)(g:(dsR s t n).1≠0):dotR s d t k n=refused (dsR s t n).1:=by rw[dotR,iP h,iN g]
theorem c6s {k:List Int}{n:Nat}(h:(a0d s d&&a0d t k)=true)(g:c6j s t n):dotR s d t k n=(0,dotS s t n,dotD s d t k n):=by
 rw[dotR,iP h,c8e g,iP rfl,Int.toNat_natCast]
theorem b0m {w1:World}{n:Nat}(q:Int)(hq:q=(k:Int))(hI:Ints w1 A n xs)(hk:k≤n)(hn:0<n)(hnc:n≤c):∃ A2:Option Addr,(∀ w,(Instr.slice 31 (.slice A n c) (some (.int .i64 q)) none none).run prog w=.ok (.slice A2 (n-k) (c-k)) w)∧Ints w1 A2 (n-k) (xs.drop k):=by
 subst hq;have hu:prog.underlying 31=some (.slice 3):=by kernel_rfl
 have hd:=hI.drop (k:=k) hk hnc;obtain⟨a,rfl,_⟩:=hI.2.2.2 hn;by_cases hc:c=k
 ·refine⟨some a,fun w=>?_,by rwa [iP hc] at hd⟩;subst hc
  go_simp
 ·refine⟨some (a.add k),fun w=>?_,by rwa [iN hc] at hd⟩
  go_simp
def dropA (A:Option Addr) (c k:Nat):Option Addr:=if c=k then A else A.map (·.add k)
theorem Ints.dropA {w:World}{n:Nat}(h:Ints w A n xs)(hk:k≤n)(hc:n≤c):Ints w (dropA A c k) (n-k) (xs.drop k):=h.drop hk hc
def winN (n wide apart:Int):Int:=if n<0∨wide<1∨apart<1∨n<wide then 0 else(n-wide) / apart+1
theorem b2w (h:n<0∨wide<1∨apart<1∨n<wide):winN n wide apart=0:=by rw[winN,iP h]
theorem b7s (h:¬(n<0∨wide<1∨apart<1∨n<wide)):winN n wide apart=(n-wide) / apart+1:=by rw[winN,iN h]
theorem c7y:0≤winN n wide apart∧(0≤n→winN n wide apart≤n):=by
 by_cases h:n<0∨wide<1∨apart<1∨n<wide
 ·rw[b2w h];omega
 ·rw[b7s h];have h1:=Int.ediv_nonneg (a:=n-wide) (b:=apart) (by omega) (by omega);have h2:=Int.ediv_le_self (a:=n-wide) apart (by omega);omega
def b0x (wide apart:Int):Bool:=decide (1≤wide)&&decide (wide≤32)&&decide (1≤apart)&&decide (apart≤32)
theorem b5a:b0x wide apart=true↔1≤wide∧wide≤32∧1≤apart∧apart≤32:=by simp[b0x,and_assoc]
def b0w (s:List Int) (ax:Int):Bool:=decide (0≤ax)&&decide (ax<s.length)
theorem b4z:b0w s ax=true↔0≤ax∧ax<s.length:=by simp[b0w]
def winS (s:List Int) (ax:Nat) (wide apart:Int):List Int:=s.set ax (winN (s.getD ax 0) wide apart)
def winB (s:List Int) (ax:Nat):Nat:=(Sh.pd (s.drop (ax+1))).toNat
def c9h (n N B apart i j:Nat):Nat:=(i / (N*B)*n+(i / B % N*apart+j))*B+i % B
def winV (how:Int) (d:List Int) (n N B apart i:Nat):Nat→Int
 | 0=>c8m how
 | J+1=>putF how (winV how d n N B apart i J) (d.getD (c9h n N B apart i J) 0)
def winI (how:Int) (s d:List Int) (ax:Nat) (wide apart:Int) (i J:Nat):Int:=winV how d (s.getD ax 0).toNat (winN (s.getD ax 0) wide apart).toNat (winB s ax) apart.toNat i J
def winD (how:Int) (s d:List Int) (ax:Nat) (wide apart:Int):List Int:=gen (Sh.size (winS s ax wide apart)).toNat fun i=>winI how s d ax wide apart i wide.toNat
def winR (how:Int) (s d:List Int) (ax wide apart:Int):Int × List Int × List Int :=
 if a3w how&&b0x wide apart then(if a0d s d then(if b0w s ax then(0,winS s ax.toNat wide apart,winD how s d ax.toNat wide apart) else refused 1) else refused 13) else refused 1
theorem c5x (h:(a3w how&&b0x wide apart)=false):winR how s d ax wide apart=refused 1:=by rw[winR,h];rfl
theorem c5w (h:(a3w how&&b0x wide apart)=true)(g:a0d s d=true)(f:b0w s ax=false):winR how s d ax wide apart=refused 1:=by rw[winR,iP h,iP g,f];rfl
theorem c7z {ax:Nat}(h:(a3w how&&b0x wide apart)=true)(g:a0d s d=true)(f:ax<s.length):winR how s d ax wide apart=(0,winS s ax wide apart,winD how s d ax wide apart):=by
 rw[winR,iP h,iP g,iP (b4z.2 ⟨by omega,by omega⟩),Int.toNat_natCast]
end Go.Proofs.YtdcmanhgekjhgaaDoor
