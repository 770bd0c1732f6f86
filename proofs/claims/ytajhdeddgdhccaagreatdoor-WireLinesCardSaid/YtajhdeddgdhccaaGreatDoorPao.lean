import Derived.Test.YtajhdeddgdhccaaGreatDoorPai
set_option maxRecDepth 100000
set_option maxHeartbeats 12800000
namespace Go.Proofs.YtajhdeddgdhccaaGreatDoor
open Go.RowKit Go.Proofs.Tryz
variable {a d f hi l lo o p s z:List Int} {ax i k:Nat} {n x y:Int} {t:List Int × List Int}
def gen (n:Nat) (f:Nat→Int):List Int:=(List.range n).map f
theorem a4s (n:Nat)(f:Nat→Int):(gen n f).length=n:=by simp[gen]
theorem a9y {n:Nat}{f:Nat→Int}{j:Nat}(h:j<n):(gen n f)[j]?=some (f j):=by simp[gen,List.getElem?_range h]
def num (s d p:List Int):Int:=d.getD (Sh.index s p).toNat 0
theorem b2o (hr:Sh.right s=true)(hl:p.length=s.length)(h:Sh.within s p=true):0≤Sh.index s p∧Sh.index s p<Sh.size s:=by
 rw[Sh.index_of hr hl h,Sh.size_of hr];have:=Sh.hor_bd h hl.symm;omega
theorem d5s (hr:a0a s d=true)(hl:p.length=s.length)(h:Sh.within s p=true):∃ k:Nat,Sh.index s p=k∧k<d.length∧d[k]?=some (num s d p):=by
 obtain⟨h0,h1⟩:=b2o (a2t hr) hl h;have h2:=a1u hr;refine⟨(Sh.index s p).toNat,by omega,by omega,?_⟩;rw[num,gD,List.getElem?_eq_getElem (by omega)];rfl
theorem b2q (hf:∀ x∈d,Fits x):Fits (num s d p):=by
 unfold num;rw[gD]
 cases h:d[(Sh.index s p).toNat]? with
 | none=>exact⟨by simp,by simp⟩
 | some x=>exact hf x (mG h)
theorem a8g (_hl:p.length=s.length)(h:∀(k:Nat) (x y:Int),s[k]?=some y→p[k]?=some x→0≤x∧x<y):Sh.within s p=true:=by
 rw[Sh.within_iff];intro z hz;obtain⟨k,hk⟩:=List.getElem?_of_mem hz;rw[List.getElem?_zip_eq_some] at hk;exact h k z.2 z.1 hk.1 hk.2
theorem a1g (h:(i:Int)<Sh.size s):Sh.placeOf s i=Sh.place s i∧(Sh.placeOf s i).length=s.length∧Sh.within s (Sh.placeOf s i)=true∧Sh.right s=true:=by
 obtain⟨hr,hd⟩:=Sh.size_pos (by omega:(0:Int)≤i) h;have e:=Sh.placeOf_place (by omega:(0:Int)≤i) h;rw[e];exact⟨rfl,Sh.place_length _ _,Sh.within_place hd _,hr⟩
def a3j:List Int→List Int→List Int→Bool
 | [],[],[]=>true
 | n::s,f::fs,z::zs=>decide (0≤f)&&decide (0≤z)&&decide (f≤n)&&decide (z≤n-f)&&a3j s fs zs
 | _,_,_=>false
theorem a9u:∀ {s f z:List Int},a3j s f z=true→f.length=s.length∧z.length=s.length
 | [],[],[],_=>⟨rfl,rfl⟩
 | _::s,_::f,_::z,h=>by
  simp only[a3j,Bool.and_eq_true] at h;obtain⟨h1,h2⟩:=a9u h.2
  simp[h1,h2]
 | [],_::_,_,h=>by simp[a3j] at h
 | [],[],_::_,h=>by simp[a3j] at h
 | _::_,[],_,h=>by simp[a3j] at h
 | _::_,_::_,[],h=>by simp[a3j] at h
theorem a9t:∀ {s f z:List Int},a3j s f z=true→∀ {k:Nat} {a b c:Int},s[k]?=some a→f[k]?=some b→z[k]?=some c→0≤b∧0≤c∧b≤a∧c≤a-b
 | [],[],[],_,k,a,b,c,ha,_,_=>by simp at ha
 | n::s,x::f,y::z,h,k,a,b,c,ha,hb,hc=>by
  simp only[a3j,Bool.and_eq_true,decide_eq_true_eq] at h
  cases k with
  | zero=>simp at ha hb hc;subst ha;subst hb;subst hc;omega
  | succ k=>exact a9t h.2 (by simpa using ha) (by simpa using hb) (by simpa using hc)
 | [],_::_,_,h,_,_,_,_,_,_,_=>by simp[a3j] at h
 | [],[],_::_,h,_,_,_,_,_,_,_=>by simp[a3j] at h
 | _::_,[],_,h,_,_,_,_,_,_,_=>by simp[a3j] at h
 | _::_,_::_,[],h,_,_,_,_,_,_,_=>by simp[a3j] at h
theorem b3c:∀ {s f z:List Int},f.length=s.length→z.length=s.length→(∀(k:Nat) (a b c:Int),s[k]?=some a→f[k]?=some b→z[k]?=some c→0≤b∧0≤c∧b≤a∧c≤a-b)→a3j s f z=true
 | [],[],[],_,_,_=>rfl
 | n::s,x::f,y::z,h1,h2,h=>by
  have h0:=h 0 n x y rfl rfl rfl;simp only[a3j,Bool.and_eq_true,decide_eq_true_eq]
  exact⟨⟨⟨⟨h0.1,h0.2.1⟩,h0.2.2.1⟩,h0.2.2.2⟩,b3c (by simpa using h1) (by simpa using h2) fun k a b c ha hb hc=>h (k+1) a b c (by simpa using ha) (by simpa using hb) (by simpa using hc)⟩
 | [],_::_,_,h,_,_=>by simp at h
 | [],[],_::_,_,h,_=>by simp at h
 | _::_,[],_,h,_,_=>by simp at h
 | _::_,_::_,[],_,h,_=>by simp at h
def addP (p f:List Int):List Int:=List.zipWith (· + ·) p f
def cutD (s d f z:List Int):List Int:=gen (Sh.size z).toNat fun i=>num s d (addP (Sh.placeOf z i) f)
def cutR (s d f z:List Int):Int × List Int × List Int:=if a0a s d then(if a3j s f z then(0,z,cutD s d f z) else refused 1) else refused 13
theorem c4h (h:a0a s d=false):cutR s d f z=refused 13:=by simp[cutR,h]
theorem b7c (h:a0a s d=true)(g:a3j s f z=false):cutR s d f z=refused 1:=by simp[cutR,h,g]
theorem c6j (h:a0a s d=true)(g:a3j s f z=true):cutR s d f z=(0,z,cutD s d f z):=by simp[cutR,h,g]
theorem a5m (h:f.length=p.length):(addP p f).length=p.length:=by simp[addP,h]
theorem b6z (h:p[k]?=some x)(g:f[k]?=some y):(addP p f)[k]?=some (x+y):=by simp[addP,List.getElem?_zipWith,h,g]
theorem a0e {α : Type}{l:List α}(h:k<l.length):∃ x,l[k]?=some x:=gE h
theorem c4i (h:a3j s f z=true)(hi:(i:Int)<Sh.size z):(addP (Sh.placeOf z i) f).length=s.length∧Sh.within s (addP (Sh.placeOf z i) f)=true:=by
 obtain⟨hf,hz⟩:=a9u h;obtain⟨_,hl,hw,_⟩:=a1g hi;have hlen:(addP (Sh.placeOf z i) f).length=s.length:=by rw[a5m (by omega)];omega
 refine⟨hlen,a8g hlen fun k x y hy hx=>?_⟩;have hks:k<s.length:=(lL hy);obtain⟨b,hb⟩:=a0e (l:=f) (k:=k) (by omega);obtain⟨c,hc⟩:=a0e (l:=z) (k:=k) (by omega);obtain⟨p,hp⟩:=a0e (l:=Sh.placeOf z i) (k:=k) (by omega);rw[b6z hp hb] at hx;injection hx with hx;subst hx
 have h1:=a9t h hy hb hc;have h2:=Sh.within_at hw hc hp;omega
def SpAt (s o a:List Int) (i:Nat):Prop:=∀ x y,a[i]?=some x→s[i]?=some y→0≤x∧x<o.length∧(∀ z,0<i→a[i-1]?=some z→z<x)∧o[x.toNat]?=some y
def SpOk (s o a:List Int):Prop:=a.length=s.length∧∀ i,SpAt s o a i
def spP (p a:List Int):List Int:=a.map fun x=>p.getD x.toNat 0
def spD (s d o a:List Int):List Int:=gen (Sh.size o).toNat fun i=>num s d (spP (Sh.placeOf o i) a)
open Classical in
noncomputable def spR (s d o a:List Int):Int × List Int × List Int:=if a0a s d&&Sh.right o then(if SpOk s o a then(0,o,spD s d o a) else refused 1) else refused 13
theorem b4s (h:(a0a s d&&Sh.right o)=false):spR s d o a=refused 13:=by rw[spR,h];rfl
theorem c2e (h:(a0a s d&&Sh.right o)=true)(g:¬ SpOk s o a):spR s d o a=refused 1:=by rw[spR,iP h,iN g]
theorem d3k (h:(a0a s d&&Sh.right o)=true)(g:SpOk s o a):spR s d o a=(0,o,spD s d o a):=by rw[spR,iP h,iP g]
theorem b6q (p a:List Int):(spP p a).length=a.length:=by simp[spP]
theorem d3j (h:a[k]?=some x)(g:p[x.toNat]?=some y):(spP p a)[k]?=some y:=by simp[spP,h,List.getD_eq_getElem?_getD,g]
theorem d2w (h:a[k]?=some x)(g:p[x.toNat]?=some y):(spP p a).take k++[y]=(spP p a).take (k+1):=by
 rw[List.take_add_one,d3j h g];rfl
theorem d5v (h:SpOk s o a)(hx:a[k]?=some x):0≤x∧x.toNat<o.length:=by
 have hk:k<s.length:=by rw[←h.1];exact(lL hx)
 obtain⟨y,hy⟩:=a0e hk;have:=h.2 k x y hx hy;omega
theorem c9h (h:SpOk s o a)(hi:(i:Int)<Sh.size o):(spP (Sh.placeOf o i) a).length=s.length∧Sh.within s (spP (Sh.placeOf o i) a)=true:=by
 obtain⟨_,hl,hw,_⟩:=a1g hi;have hlen:(spP (Sh.placeOf o i) a).length=s.length:=by rw[b6q,h.1]
 refine⟨hlen,a8g hlen fun k x y hy hx=>?_⟩;have hks:k<s.length:=(lL hy);obtain⟨z,hz⟩:=a0e (l:=a) (k:=k) (by rw[h.1];exact hks);have hz2:=d5v h hz;obtain⟨p,hp⟩:=a0e (l:=Sh.placeOf o i) (k:=z.toNat) (by omega);rw[d3j hz hp] at hx;injection hx with hx;subst hx
 exact Sh.within_at hw (h.2 k z y hz hy).2.2.2 hp
def TuAt (s a:List Int) (i:Nat):Prop:=∀ x,a[i]?=some x→0≤x∧x<s.length∧x∉a.take i
def TuOk (s a:List Int):Prop:=a.length=s.length∧∀ i,TuAt s a i
def marks (n:Nat) (l:List Int):List Int:=gen n fun q=>if (q:Int)∈l then 1 else 0
theorem c7q (n:Nat):marks n []=List.replicate n 0:=by
 apply List.ext_getElem?;intro i;rcases Nat.lt_or_ge i n with h|h
 ·rw[marks,a9y h,List.getElem?_replicate,iP h];simp
 ·rw[List.getElem?_eq_none (by rw[marks,a4s];exact h),List.getElem?_eq_none (by simpa using h)]
theorem a7v (n:Nat)(l:List Int):(marks n l).length=n:=a4s _ _
theorem c3l {n:Nat}(h0:0≤x)(h1:x<n):(marks n l)[x.toNat]?=some (if x∈l then 1 else 0):=by
 rw[marks,a9y (by omega),Int.toNat_of_nonneg h0]
theorem c7r {n:Nat}(h0:0≤x)(h1:x<n):(marks n l).set x.toNat 1=marks n (l++[x]):=by
 apply List.ext_getElem?;intro i;rw[List.getElem?_set];by_cases hi:x.toNat=i
 ·subst hi;rw[iP rfl,iP (by rw[a7v];omega),c3l h0 h1];simp
 ·rw[iN hi];rcases Nat.lt_or_ge i n with h|h
  ·rw[marks,marks,a9y h,a9y h];have:(i:Int)≠x:=by omega
   simp[this]
  ·rw[List.getElem?_eq_none (by rw[a7v];exact h),List.getElem?_eq_none (by rw[a7v];exact h)]
def a2x (s a:List Int):List Int:=a.map fun x=>s.getD x.toNat 0
theorem a3e (s a:List Int):(a2x s a).length=a.length:=by simp[a2x]
theorem b8f (h:a[k]?=some x)(g:s[x.toNat]?=some y):(a2x s a)[k]?=some y:=by simp[a2x,h,List.getD_eq_getElem?_getD,g]
theorem c5r (h:a[k]?=some x)(g:s[x.toNat]?=some y):(a2x s a).take k++[y]=(a2x s a).take (k+1):=by
 rw[List.take_add_one,b8f h g];rfl
def a8c (f a p:List Int) (k:Nat):List Int:=(List.range k).foldl (fun f i=>f.set (a.getD i 0).toNat (p.getD i 0)) f
theorem b4o (h:a[k]?=some x)(g:p[k]?=some y):(a8c f a p k).set x.toNat y=a8c f a p (k+1):=by
 rw[a8c,a8c,List.range_succ,List.foldl_append];simp[List.getD_eq_getElem?_getD,h,g]
theorem a7g (f a p:List Int)(k:Nat):(a8c f a p k).length=f.length:=by
 induction k with
 | zero=>rfl
 | succ k ih=>rw[a8c,List.range_succ,List.foldl_append];simp only[List.foldl_cons,List.foldl_nil,List.length_set];exact ih
theorem b4v (h:TuOk s a)(hx:a[k]?=some x):0≤x∧x.toNat<s.length:=by
 have:=h.2 k x hx;omega
theorem c9q (h:TuOk s a){m:Nat}(hk:a[k]?=some x)(hm:a[m]?=some x):k=m:=by
 have key:∀ {i j:Nat},i<j→a[i]?=some x→a[j]?=some x→False:=fun {i j} hij hi hj =>
  (h.2 j x hj).2.2 (mG (i:=i) (by rw[List.getElem?_take,iP hij];exact hi))
 rcases Nat.lt_trichotomy k m with h1|h1|h1
 ·exact(key h1 hk hm).elim
 ·exact h1
 ·exact(key h1 hm hk).elim
theorem c0i {s a p f:List Int}(h:TuOk s a)(hp:p.length=a.length)(hf:f.length=s.length):∀ {k i:Nat} {x y:Int},i<k→k≤a.length→a[i]?=some x→p[i]?=some y→(a8c f a p k)[x.toNat]?=some y
 | 0,_,_,_,h', _,_,_=>absurd h' (by omega)
 | k+1,i,x,y,hi,hk,hx,hy=>by
  obtain⟨u,hu⟩:=a0e (l:=a) (k:=k) (by omega);obtain⟨v,hv⟩:=a0e (l:=p) (k:=k) (by omega);rw[←b4o hu hv,List.getElem?_set];by_cases hik:i=k
  ·subst hik;rw[hu] at hx;injection hx with hx;subst hx
   rw[hv] at hy;injection hy with hy;subst hy
   rw[iP rfl,iP (by rw[a7g,hf];exact(b4v h hu).2)]
  ·have hne:u.toNat≠x.toNat:=fun e=>by
    have h1:=b4v h hu;have h2:=b4v h hx;obtain rfl:u=x:=by omega
    exact hik (c9q h hx hu)
   rw[iN hne];exact c0i h hp hf (by omega) (by omega) hx hy
theorem pigeon:∀(n:Nat) (l:List Nat),l.Nodup→(∀ x∈l,x<n)→l.length≤n
 | 0,[],_,_=>by simp
 | 0,x::l,_,h=>absurd (h x (by simp)) (by omega)
 | n+1,l,hd,h=>by
  by_cases hm:n∈l
  ·have h1:=pigeon n (l.erase n) (hd.erase n) (fun x hx=>by
    have h2:=(hd.mem_erase_iff).1 hx;have h3:=h x h2.2;have:=h2.1
    omega)
   rw[List.length_erase_of_mem hm] at h1;omega
  ·have h1:=pigeon n l hd (fun x hx=>by
    have h3:=h x hx;have:x≠n:=fun e=>hm (e ▸ hx)
    omega)
   omega
theorem c9r (h:TuOk s a){q:Nat}(hq:q<s.length):∃ i:Nat,a[i]?=some (q:Int):=by
 by_cases hm:(q:Int)∈a
 ·obtain⟨i,hi⟩:=List.getElem?_of_mem hm;exact⟨i,hi⟩
 ·exfalso
  have hnd:(q::a.map Int.toNat).Nodup:=by
   rw[List.nodup_cons]
   constructor
   ·intro hx;rw[List.mem_map] at hx;obtain⟨x,hx,hxq⟩:=hx;obtain⟨i,hi⟩:=List.getElem?_of_mem hx;have:=b4v h hi;obtain rfl:x=q:=by omega
    exact hm hx
   ·show List.Pairwise (· ≠ ·) _
    rw[List.pairwise_iff_getElem];intro i j hi hj hij;simp only[List.length_map] at hi hj;simp only[List.getElem_map];intro e;have hx:a[i]?=some a[i]:=List.getElem?_eq_getElem hi;have hy:a[j]?=some a[j]:=List.getElem?_eq_getElem hj;have h1:=b4v h hx;have h2:=b4v h hy;have hxy:a[i]=a[j]:=by omega
    rw[←hxy] at hy;have:=c9q h hx hy;omega
  have:=pigeon s.length _ hnd (fun x hx=>by
   rcases List.mem_cons.1 hx with rfl|hx
   ·exact hq
   ·rw[List.mem_map] at hx;obtain⟨y,hy,rfl⟩:=hx;obtain⟨i,hi⟩:=List.getElem?_of_mem hy
    exact(b4v h hi).2)
  have hl:=h.1;simp at this;omega
def b5q (n:Nat) (a p:List Int):List Int:=a8c (List.replicate n 0) a p a.length
def c9s (s d a:List Int):List Int:=gen (Sh.size (a2x s a)).toNat fun i=>num s d (b5q s.length a (Sh.placeOf (a2x s a) i))
open Classical in
noncomputable def b0u (s d a:List Int):Int × List Int × List Int:=if a0a s d then(if TuOk s a then(0,a2x s a,c9s s d a) else refused 1) else refused 13
theorem c2i (h:a0a s d=false):b0u s d a=refused 13:=by rw[b0u,h];rfl
theorem b4w (h:a0a s d=true)(g:¬ TuOk s a):b0u s d a=refused 1:=by rw[b0u,iP h,iN g]
theorem c3z (h:a0a s d=true)(g:TuOk s a):b0u s d a=(0,a2x s a,c9s s d a):=by rw[b0u,iP h,iP g]
theorem c2j (h:TuOk s a)(hi:(i:Int)<Sh.size (a2x s a)):(b5q s.length a (Sh.placeOf (a2x s a) i)).length=s.length∧Sh.within s (b5q s.length a (Sh.placeOf (a2x s a) i))=true:=by
 obtain⟨_,hl,hw,_⟩:=a1g hi;rw[a3e] at hl;have hlen:(b5q s.length a (Sh.placeOf (a2x s a) i)).length=s.length:=by rw[b5q,a7g,List.length_replicate]
 refine⟨hlen,a8g hlen fun q x y hy hx=>?_⟩;have hqs:q<s.length:=(lL hy);obtain⟨k,hk⟩:=c9r h hqs;have hka:k<a.length:=(lL hk);obtain⟨p,hp⟩:=a0e (l:=Sh.placeOf (a2x s a) i) (k:=k) (by omega);have e:=c0i (f:=List.replicate s.length 0) h hl (by simp) hka (Nat.le_refl _) hk hp;rw[Int.toNat_natCast] at e;rw[b5q,e] at hx;injection hx with hx;subst hx
 exact Sh.within_at hw (b8f hk (by rwa [Int.toNat_natCast])) hp
def d5h (lo hi:List Int) (i:Nat):Prop:=∀ x y,lo[i]?=some x→hi[i]?=some y→0≤x∧0≤y∧x≤32∧y≤32
def b2j (s lo hi:List Int):Prop:=lo.length=s.length∧hi.length=s.length∧∀ i,d5h lo hi i
def padS (s lo hi:List Int):List Int:=List.zipWith (· + ·) (List.zipWith (· + ·) lo s) hi
theorem a7d (h:lo.length=s.length)(g:hi.length=s.length):(padS s lo hi).length=s.length:=by simp[padS];omega
theorem c1x {z:Int}(h:lo[k]?=some x)(g:s[k]?=some y)(f:hi[k]?=some z):(padS s lo hi)[k]?=some (x+y+z):=by simp[padS,List.getElem?_zipWith,h,g,f]
theorem c8l {z:Int}(h:lo[k]?=some x)(g:s[k]?=some y)(f:hi[k]?=some z):(padS s lo hi).take k++[x+y+z]=(padS s lo hi).take (k+1):=by
 rw[List.take_add_one,c1x h g f];rfl
def scat (o d:List Int) (ix:Nat→Nat) (k:Nat):List Int:=(List.range k).foldl (fun o i=>o.set (ix i) (d.getD i 0)) o
theorem c0h {ix:Nat→Nat}(h:d[k]?=some x):(scat o d ix k).set (ix k) x=scat o d ix (k+1):=by
 rw[scat,scat,List.range_succ,List.foldl_append];simp[List.getD_eq_getElem?_getD,h]
theorem a9p (o d:List Int)(ix:Nat→Nat)(k:Nat):(scat o d ix k).length=o.length:=by
 induction k with
 | zero=>rfl
 | succ k ih=>rw[scat,List.range_succ,List.foldl_append];simp only[List.foldl_cons,List.foldl_nil,List.length_set];exact ih
def padD (s d lo hi:List Int) (n:Int):List Int:=scat (List.replicate (Sh.size (padS s lo hi)).toNat n) d (fun i=>(Sh.index (padS s lo hi) (addP (Sh.placeOf s i) lo)).toNat) d.length
open Classical in
noncomputable def padR (s d lo hi:List Int) (n:Int):Int × List Int × List Int:=if a0a s d then(if b2j s lo hi then(if Sh.right (padS s lo hi) then(0,padS s lo hi,padD s d lo hi n) else refused 13) else refused 1) else refused 13
theorem c5d (h:a0a s d=false):padR s d lo hi n=refused 13:=by rw[padR,h];rfl
theorem b7s (h:a0a s d=true)(g:¬ b2j s lo hi):padR s d lo hi n=refused 1:=by rw[padR,iP h,iN g]
theorem b3y (h:a0a s d=true)(g:b2j s lo hi)(k:Sh.right (padS s lo hi)=false):padR s d lo hi n=refused 13:=by rw[padR,iP h,iP g,k];rfl
theorem c8k (h:a0a s d=true)(g:b2j s lo hi)(k:Sh.right (padS s lo hi)=true):padR s d lo hi n=(0,padS s lo hi,padD s d lo hi n):=by rw[padR,iP h,iP g,iP k]
theorem c5e (g:b2j s lo hi)(hi' : (i:Int)<Sh.size s):(addP (Sh.placeOf s i) lo).length=(padS s lo hi).length∧Sh.within (padS s lo hi) (addP (Sh.placeOf s i) lo)=true:=by
 obtain⟨_,hl,hw,_⟩:=a1g hi';have hlen:(addP (Sh.placeOf s i) lo).length=(padS s lo hi).length:=by rw[a5m (by rw[hl,g.1]),hl,a7d g.1 g.2.1]
 refine⟨hlen,a8g hlen fun k x y hy hx=>?_⟩;have hks:k<s.length:=by rw[←a7d g.1 g.2.1];exact(lL hy)
 obtain⟨b,hb⟩:=a0e (l:=lo) (k:=k) (by rw[g.1];exact hks);obtain⟨c,hc⟩:=a0e (l:=hi) (k:=k) (by rw[g.2.1];exact hks);obtain⟨e,he⟩:=a0e hks;obtain⟨p,hp⟩:=a0e (l:=Sh.placeOf s i) (k:=k) (by omega);rw[c1x hb he hc] at hy;injection hy with hy;subst hy
 rw[b6z hp hb] at hx;injection hx with hx;subst hx
 have h1:=g.2.2 k b c hb hc;have h2:=Sh.within_at hw he hp;omega
abbrev TL:=List (List Int × List Int)
def tot (ax:Nat) (l:TL):Int:=l.foldl (fun a t=>a+t.1.getD ax 0) 0
theorem b8e {l:TL}(h:l[i]?=some t)(g:t.1[ax]?=some x):tot ax (l.take (i+1))=tot ax (l.take i)+x:=by
 rw[tot,tot,List.take_add_one,h,List.foldl_append];simp[List.getD_eq_getElem?_getD,g]
theorem b7j {ax:Nat}:∀ {l:TL} (_:∀ t∈l,0≤t.1.getD ax 0) (a:Int),a≤l.foldl (fun a t=>a+t.1.getD ax 0) a
 | [],_,a=>by simp
 | t::l,h,a=>by
  have h1:=h t (by simp);have h2:=b7j (l:=l) (fun t ht=>h t (by simp[ht])) (a+t.1.getD ax 0);rw[List.foldl_cons];omega
theorem d3e {l:TL}(h:∀ t∈l,0≤t.1.getD ax 0)(i:Nat):0≤tot ax (l.take i)∧tot ax (l.take i)≤tot ax l:=by
 refine⟨?_,?_⟩
 ·exact b7j (fun t ht=>h t (List.mem_of_mem_take ht)) 0
 ·have e:tot ax l=(l.drop i).foldl (fun a t=>a+t.1.getD ax 0) (tot ax (l.take i)):=by
   rw[tot,tot,←List.foldl_append,List.take_append_drop]
  rw[e];exact b7j (fun t ht=>h t (List.mem_of_mem_drop ht)) _
def b5c (s:List Int) (ax:Nat) (t:List Int):Prop:=t.length=s.length∧∀(k:Nat) (x y:Int),k≠ax→t[k]?=some x→s[k]?=some y→x=y
def a4w (l:TL):Prop:=∀ t∈l,a0a t.1 t.2=true
def axOk (ax:Int) (l:TL):Prop:=∃ t,l[0]?=some t∧0≤ax∧ax<t.1.length
def a7j (l:TL):List Int:=match l with | []=>[]|t::_=>t.1
def a4d (ax:Nat) (l:TL):List Int:=(a7j l).set ax (tot ax l)
def b6y (p:List Int) (ax:Nat) (h:Int):List Int:=p.set ax (p.getD ax 0+h)
def b3m (s:List Int) (ax:Nat) (t:List Int) (h:Int) (k:Nat):Nat:=(Sh.index s (b6y (Sh.placeOf t k) ax h)).toNat
def a6a (ax:Nat) (l:TL) (i:Nat):List Int:=(List.range i).foldl (fun o i=>scat o (l.getD i ([],[])).2 (b3m (a4d ax l) ax (l.getD i ([],[])).1 (tot ax (l.take i))) (l.getD i ([],[])).2.length) (List.replicate (Sh.size (a4d ax l)).toNat 0)
theorem b3n (ax:Nat)(l:TL):a6a ax l 0=List.replicate (Sh.size (a4d ax l)).toNat 0:=rfl
theorem c1o {l:TL}(h:l[i]?=some t):a6a ax l (i+1)=scat (a6a ax l i) t.2 (b3m (a4d ax l) ax t.1 (tot ax (l.take i))) t.2.length:=by
 rw[a6a,a6a,List.range_succ,List.foldl_append];simp[List.getD_eq_getElem?_getD,h]
theorem b7n (ax:Nat)(l:TL)(i:Nat):(a6a ax l i).length=(Sh.size (a4d ax l)).toNat:=by
 induction i with
 | zero=>rw[b3n,List.length_replicate]
 | succ i ih=>rw[a6a,List.range_succ,List.foldl_append];simp only[List.foldl_cons,List.foldl_nil];rw[a9p];exact ih
def b5r (ax:Nat) (l:TL):Prop:=(∀ t∈l,b5c (a7j l) ax t.1)∧Sh.right (a4d ax l)=true
open Classical in
noncomputable def a7p (ax:Int) (l:TL):Int × List Int × List Int:=if a4w l then(if axOk ax l then(if b5r ax.toNat l then(0,a4d ax.toNat l,a6a ax.toNat l l.length) else refused 13) else refused 1) else refused 13
theorem c1n {ax:Int}{l:TL}(h:¬ a4w l):a7p ax l=refused 13:=by rw[a7p,iN h]
theorem b0b {ax:Int}{l:TL}(h:a4w l)(g:¬ axOk ax l):a7p ax l=refused 1:=by rw[a7p,iP h,iN g]
theorem a4t {ax:Int}{l:TL}(h:a4w l)(g:axOk ax l)(k:¬ b5r ax.toNat l):a7p ax l=refused 13:=by rw[a7p,iP h,iP g,iN k]
theorem c3a {ax:Int}{l:TL}(h:a4w l)(g:axOk ax l)(k:b5r ax.toNat l):a7p ax l=(0,a4d ax.toNat l,a6a ax.toNat l l.length):=by rw[a7p,iP h,iP g,iP k]
theorem a8t (h:a0a s d=true)(k:Nat):0≤s.getD k 0∧s.getD k 0≤32:=by
 rw[gD]
 cases e:s[k]? with
 | none=>simp
 | some x=>exact(Sh.right_iff.1 (a2t h)).2.1 x (mG e)
theorem b2z {l:TL}(h:a4w l)(ax i:Nat):0≤tot ax (l.take i)∧tot ax (l.take i)≤tot ax l:=d3e (fun t ht=>(a8t (h t ht) ax).1) i
theorem b1t (ax:Nat)(l:TL):(a4d ax l).length=(a7j l).length:=by simp[a4d]
theorem c7k {l:TL}(h:a4w l)(hx:ax<(a7j l).length)(hi:32<tot ax (l.take i)):¬ b5r ax l:=fun hk=>by
 have h1:=b2z h ax i
 have h2:=(Sh.right_iff.1 hk.2).2.1 (tot ax l) (by
  rw[a4d];exact List.mem_set hx _)
 omega
theorem b8n (p:List Int)(ax:Nat)(h:Int):(b6y p ax h).length=p.length:=by simp[b6y]
theorem c1p {l:TL}(h:a4w l)(hk:b5r ax l)(hx:ax<(a7j l).length)(ht:l[i]?=some t)(hkz:(k:Int)<Sh.size t.1):
  (b6y (Sh.placeOf t.1 k) ax (tot ax (l.take i))).length=(a4d ax l).length∧Sh.within (a4d ax l) (b6y (Sh.placeOf t.1 k) ax (tot ax (l.take i)))=true:=by
 obtain⟨_,hl,hw,_⟩:=a1g hkz;have hf:=hk.1 t (mG ht);have hlen:(b6y (Sh.placeOf t.1 k) ax (tot ax (l.take i))).length=(a4d ax l).length:=by rw[b8n,b1t,hl,hf.1]
 refine⟨hlen,a8g hlen fun q x y hy hx'=>?_⟩;have hql:q<t.1.length:=by rw[hf.1,←b1t ax l];exact(lL hy)
 obtain⟨z,hz⟩:=a0e hql;obtain⟨p,hp⟩:=a0e (l:=Sh.placeOf t.1 k) (k:=q) (by omega);have hwp:=Sh.within_at hw hz hp;rw[b6y,List.getElem?_set] at hx';rw[a4d,List.getElem?_set] at hy;by_cases hq:ax=q
 ·subst hq;rw[iP rfl,iP (by omega)] at hx';rw[iP rfl,iP hx] at hy;injection hx' with hx';injection hy with hy
  subst hx';subst hy;rw[gD,hp];have h1:=b2z h ax (i+1);have h2:=b2z h ax i;rw[b8e ht hz] at h1;simp only[Option.getD_some];omega
 ·rw[iN hq,hp] at hx';rw[iN hq] at hy;injection hx' with hx';subst hx'
  have:=hf.2 q z y (Ne.symm hq) hz hy;omega
end Go.Proofs.YtajhdeddgdhccaaGreatDoor
