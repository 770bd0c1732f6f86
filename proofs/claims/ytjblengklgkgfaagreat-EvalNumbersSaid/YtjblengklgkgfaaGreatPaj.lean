import Derived.StillTailTactics
import Derived.Test.YtjblengklgkgfaaGreatPai
set_option maxRecDepth 100000
set_option maxHeartbeats 12800000
namespace Go.Proofs.YtjblengklgkgfaaGreat
open Go.RowKit Go.Proofs.Tryz
variable {a d f hi l lo o p s z:List Int} {ax i k n:Nat} {t:List Int × List Int} {v:Value} {w:World} {x y:Int}
def gen (n:Nat) (f:Nat→Int):List Int:=(List.range n).map f
theorem a2y (n:Nat)(f:Nat→Int):(gen n f).length=n:=by simp[gen]
theorem a7l {f:Nat→Int}{j:Nat}(h:j<n):(gen n f)[j]?=some (f j):=by simp[gen,List.getElem?_range h]
def num (s d p:List Int):Int:=d.getD (Sh.index s p).toNat 0
theorem a7c (hr:Sh.right s=true)(hl:p.length=s.length)(h:Sh.within s p=true):0≤Sh.index s p∧Sh.index s p<Sh.size s:=by
 rw[Sh.index_of hr hl h,Sh.size_of hr];have:=Sh.hor_bd h hl.symm;omega
theorem c9z (hr:a0a s d=true)(hl:p.length=s.length)(h:Sh.within s p=true):∃ k:Nat,Sh.index s p=k∧k<d.length∧d[k]?=some (num s d p):=by
 obtain⟨h0,h1⟩:=a7c (a1p hr) hl h;have h2:=a0z hr;refine⟨(Sh.index s p).toNat,by omega,by omega,?_⟩;rw[num,gD,List.getElem?_eq_getElem (by omega)];rfl
theorem b6u (hf:∀ x∈d,Fits x):Fits (num s d p):=by
 unfold num;rw[gD]
 cases h:d[(Sh.index s p).toNat]? with
 | none=>exact⟨by simp,by simp⟩
 | some x=>exact hf x (mG h)
theorem b0o (_hl:p.length=s.length)(h:∀(k:Nat) (x y:Int),s[k]?=some y→p[k]?=some x→0≤x∧x<y):Sh.within s p=true:=by
 rw[Sh.within_iff];intro z hz;obtain⟨k,hk⟩:=List.getElem?_of_mem hz;rw[List.getElem?_zip_eq_some] at hk;exact h k z.2 z.1 hk.1 hk.2
theorem a1o (h:(i:Int)<Sh.size s):Sh.placeOf s i=Sh.place s i∧(Sh.placeOf s i).length=s.length∧Sh.within s (Sh.placeOf s i)=true∧Sh.right s=true:=by
 obtain⟨hr,hd⟩:=Sh.size_pos (by omega:(0:Int)≤i) h;have e:=Sh.placeOf_place (by omega:(0:Int)≤i) h;rw[e];exact⟨rfl,Sh.place_length _ _,Sh.within_place hd _,hr⟩
def a3w:List Int→List Int→List Int→Bool
 | [],[],[]=>true
 | n::s,f::fs,z::zs=>decide (0≤f)&&decide (0≤z)&&decide (f≤n)&&decide (z≤n-f)&&a3w s fs zs
 | _,_,_=>false
theorem a8o:∀ {s f z:List Int},a3w s f z=true→f.length=s.length∧z.length=s.length
 | [],[],[],_=>⟨rfl,rfl⟩
 | _::s,_::f,_::z,h=>by
  simp only[a3w,Bool.and_eq_true] at h;obtain⟨h1,h2⟩:=a8o h.2
  simp[h1,h2]
 | [],_::_,_,h=>by simp[a3w] at h
 | [],[],_::_,h=>by simp[a3w] at h
 | _::_,[],_,h=>by simp[a3w] at h
 | _::_,_::_,[],h=>by simp[a3w] at h
theorem b1n:∀ {s f z:List Int},a3w s f z=true→∀ {k:Nat} {a b c:Int},s[k]?=some a→f[k]?=some b→z[k]?=some c→0≤b∧0≤c∧b≤a∧c≤a-b
 | [],[],[],_,k,a,b,c,ha,_,_=>by simp at ha
 | n::s,x::f,y::z,h,k,a,b,c,ha,hb,hc=>by
  simp only[a3w,Bool.and_eq_true,decide_eq_true_eq] at h
  cases k with
  | zero=>simp at ha hb hc;subst ha;subst hb;subst hc;omega
  | succ k=>exact b1n h.2 (by simpa using ha) (by simpa using hb) (by simpa using hc)
 | [],_::_,_,h,_,_,_,_,_,_,_=>by simp[a3w] at h
 | [],[],_::_,h,_,_,_,_,_,_,_=>by simp[a3w] at h
 | _::_,[],_,h,_,_,_,_,_,_,_=>by simp[a3w] at h
 | _::_,_::_,[],h,_,_,_,_,_,_,_=>by simp[a3w] at h
theorem b4e:∀ {s f z:List Int},f.length=s.length→z.length=s.length→(∀(k:Nat) (a b c:Int),s[k]?=some a→f[k]?=some b→z[k]?=some c→0≤b∧0≤c∧b≤a∧c≤a-b)→a3w s f z=true
 | [],[],[],_,_,_=>rfl
 | n::s,x::f,y::z,h1,h2,h=>by
  have h0:=h 0 n x y rfl rfl rfl;simp only[a3w,Bool.and_eq_true,decide_eq_true_eq]
  exact⟨⟨⟨⟨h0.1,h0.2.1⟩,h0.2.2.1⟩,h0.2.2.2⟩,b4e (by simpa using h1) (by simpa using h2) fun k a b c ha hb hc=>h (k+1) a b c (by simpa using ha) (by simpa using hb) (by simpa using hc)⟩
 | [],_::_,_,h,_,_=>by simp at h
 | [],[],_::_,_,h,_=>by simp at h
 | _::_,[],_,h,_,_=>by simp at h
 | _::_,_::_,[],_,h,_=>by simp at h
def addP (p f:List Int):List Int:=List.zipWith (· + ·) p f
def cutD (s d f z:List Int):List Int:=gen (Sh.size z).toNat fun i=>num s d (addP (Sh.placeOf z i) f)
def cutR (s d f z:List Int):Int × List Int × List Int:=if a0a s d then(if a3w s f z then(0,z,cutD s d f z) else refused 1) else refused 13
theorem c1v (h:a0a s d=false):cutR s d f z=refused 13:=by simp[cutR,h]
theorem b6x (h:a0a s d=true)(g:a3w s f z=false):cutR s d f z=refused 1:=by simp[cutR,h,g]
theorem c7i (h:a0a s d=true)(g:a3w s f z=true):cutR s d f z=(0,z,cutD s d f z):=by simp[cutR,h,g]
theorem a5g (h:f.length=p.length):(addP p f).length=p.length:=by simp[addP,h]
theorem b2p (h:p[k]?=some x)(g:f[k]?=some y):(addP p f)[k]?=some (x+y):=by simp[addP,List.getElem?_zipWith,h,g]
theorem a0f {α : Type}{l:List α}(h:k<l.length):∃ x,l[k]?=some x:=gE h
theorem b5w (h:a3w s f z=true)(hi:(i:Int)<Sh.size z):(addP (Sh.placeOf z i) f).length=s.length∧Sh.within s (addP (Sh.placeOf z i) f)=true:=by
 obtain⟨hf,hz⟩:=a8o h;obtain⟨_,hl,hw,_⟩:=a1o hi;have hlen:(addP (Sh.placeOf z i) f).length=s.length:=by rw[a5g (by omega)];omega
 refine⟨hlen,b0o hlen fun k x y hy hx=>?_⟩;have hks:k<s.length:=(lL hy);obtain⟨b,hb⟩:=a0f (l:=f) (k:=k) (by omega);obtain⟨c,hc⟩:=a0f (l:=z) (k:=k) (by omega);obtain⟨p,hp⟩:=a0f (l:=Sh.placeOf z i) (k:=k) (by omega);rw[b2p hp hb] at hx;injection hx with hx;subst hx
 have h1:=b1n h hy hb hc;have h2:=Sh.within_at hw hc hp;omega
def SpAt (s o a:List Int) (i:Nat):Prop:=∀ x y,a[i]?=some x→s[i]?=some y→0≤x∧x<o.length∧(∀ z,0<i→a[i-1]?=some z→z<x)∧o[x.toNat]?=some y
def SpOk (s o a:List Int):Prop:=a.length=s.length∧∀ i,SpAt s o a i
def spP (p a:List Int):List Int:=a.map fun x=>p.getD x.toNat 0
def spD (s d o a:List Int):List Int:=gen (Sh.size o).toNat fun i=>num s d (spP (Sh.placeOf o i) a)
open Classical in
noncomputable def spR (s d o a:List Int):Int × List Int × List Int:=if a0a s d&&Sh.right o then(if SpOk s o a then(0,o,spD s d o a) else refused 1) else refused 13
theorem b0v (h:(a0a s d&&Sh.right o)=false):spR s d o a=refused 13:=by rw[spR,h];rfl
theorem b7n (h:(a0a s d&&Sh.right o)=true)(g:¬ SpOk s o a):spR s d o a=refused 1:=by rw[spR,iP h,iN g]
theorem d5q (h:(a0a s d&&Sh.right o)=true)(g:SpOk s o a):spR s d o a=(0,o,spD s d o a):=by rw[spR,iP h,iP g]
theorem b5j (p a:List Int):(spP p a).length=a.length:=by simp[spP]
theorem d5b (h:a[k]?=some x)(g:p[x.toNat]?=some y):(spP p a)[k]?=some y:=by simp[spP,h,List.getD_eq_getElem?_getD,g]
theorem d9h (h:a[k]?=some x)(g:p[x.toNat]?=some y):(spP p a).take k++[y]=(spP p a).take (k+1):=by
 rw[List.take_add_one,d5b h g];rfl
theorem d2s (h:SpOk s o a)(hx:a[k]?=some x):0≤x∧x.toNat<o.length:=by
 have hk:k<s.length:=by rw[←h.1];exact(lL hx)
 obtain⟨y,hy⟩:=a0f hk;have:=h.2 k x y hx hy;omega
theorem b8d (h:SpOk s o a)(hi:(i:Int)<Sh.size o):(spP (Sh.placeOf o i) a).length=s.length∧Sh.within s (spP (Sh.placeOf o i) a)=true:=by
 obtain⟨_,hl,hw,_⟩:=a1o hi;have hlen:(spP (Sh.placeOf o i) a).length=s.length:=by rw[b5j,h.1]
 refine⟨hlen,b0o hlen fun k x y hy hx=>?_⟩;have hks:k<s.length:=(lL hy);obtain⟨z,hz⟩:=a0f (l:=a) (k:=k) (by rw[h.1];exact hks);have hz2:=d2s h hz;obtain⟨p,hp⟩:=a0f (l:=Sh.placeOf o i) (k:=z.toNat) (by omega);rw[d5b hz hp] at hx;injection hx with hx;subst hx
 exact Sh.within_at hw (h.2 k z y hz hy).2.2.2 hp
def TuAt (s a:List Int) (i:Nat):Prop:=∀ x,a[i]?=some x→0≤x∧x<s.length∧x∉a.take i
def TuOk (s a:List Int):Prop:=a.length=s.length∧∀ i,TuAt s a i
def marks (n:Nat) (l:List Int):List Int:=gen n fun q=>if (q:Int)∈l then 1 else 0
theorem d4o (n:Nat):marks n []=List.replicate n 0:=by
 apply List.ext_getElem?;intro i;rcases Nat.lt_or_ge i n with h|h
 ·rw[marks,a7l h,List.getElem?_replicate,iP h];simp
 ·rw[List.getElem?_eq_none (by rw[marks,a2y];exact h),List.getElem?_eq_none (by simpa using h)]
theorem b0z (n:Nat)(l:List Int):(marks n l).length=n:=a2y _ _
theorem c9t (h0:0≤x)(h1:x<n):(marks n l)[x.toNat]?=some (if x∈l then 1 else 0):=by
 rw[marks,a7l (by omega),Int.toNat_of_nonneg h0]
theorem d4f (h0:0≤x)(h1:x<n):(marks n l).set x.toNat 1=marks n (l++[x]):=by
 apply List.ext_getElem?;intro i;rw[List.getElem?_set];by_cases hi:x.toNat=i
 ·subst hi;rw[iP rfl,iP (by rw[b0z];omega),c9t h0 h1];simp
 ·rw[iN hi];rcases Nat.lt_or_ge i n with h|h
  ·rw[marks,marks,a7l h,a7l h];have:(i:Int)≠x:=by omega
   simp[this]
  ·rw[List.getElem?_eq_none (by rw[b0z];exact h),List.getElem?_eq_none (by rw[b0z];exact h)]
def a2s (s a:List Int):List Int:=a.map fun x=>s.getD x.toNat 0
theorem a2x (s a:List Int):(a2s s a).length=a.length:=by simp[a2s]
theorem b1z (h:a[k]?=some x)(g:s[x.toNat]?=some y):(a2s s a)[k]?=some y:=by simp[a2s,h,List.getD_eq_getElem?_getD,g]
theorem d0p (h:a[k]?=some x)(g:s[x.toNat]?=some y):(a2s s a).take k++[y]=(a2s s a).take (k+1):=by
 rw[List.take_add_one,b1z h g];rfl
def a4r (f a p:List Int) (k:Nat):List Int:=(List.range k).foldl (fun f i=>f.set (a.getD i 0).toNat (p.getD i 0)) f
theorem b8f (f a p:List Int):a4r f a p 0=f:=rfl
theorem a4y (h:a[k]?=some x)(g:p[k]?=some y):(a4r f a p k).set x.toNat y=a4r f a p (k+1):=by
 rw[a4r,a4r,List.range_succ,List.foldl_append];simp[List.getD_eq_getElem?_getD,h,g]
theorem a5q (f a p:List Int)(k:Nat):(a4r f a p k).length=f.length:=by
 induction k with
 | zero=>rfl
 | succ k ih=>rw[a4r,List.range_succ,List.foldl_append];simp only[List.foldl_cons,List.foldl_nil,List.length_set];exact ih
theorem b4r (h:TuOk s a)(hx:a[k]?=some x):0≤x∧x.toNat<s.length:=by
 have:=h.2 k x hx;omega
theorem c9q (h:TuOk s a){m:Nat}(hk:a[k]?=some x)(hm:a[m]?=some x):k=m:=by
 have key:∀ {i j:Nat},i<j→a[i]?=some x→a[j]?=some x→False:=fun {i j} hij hi hj =>
  (h.2 j x hj).2.2 (mG (i:=i) (by rw[List.getElem?_take,iP hij];exact hi))
 rcases Nat.lt_trichotomy k m with h1|h1|h1
 ·exact(key h1 hk hm).elim
 ·exact h1
 ·exact(key h1 hm hk).elim
theorem c5y {s a p f:List Int}(h:TuOk s a)(hp:p.length=a.length)(hf:f.length=s.length):∀ {k i:Nat} {x y:Int},i<k→k≤a.length→a[i]?=some x→p[i]?=some y→(a4r f a p k)[x.toNat]?=some y
 | 0,_,_,_,h', _,_,_=>absurd h' (by omega)
 | k+1,i,x,y,hi,hk,hx,hy=>by
  obtain⟨u,hu⟩:=a0f (l:=a) (k:=k) (by omega);obtain⟨v,hv⟩:=a0f (l:=p) (k:=k) (by omega);rw[←a4y hu hv,List.getElem?_set];by_cases hik:i=k
  ·subst hik;rw[hu] at hx;injection hx with hx;subst hx
   rw[hv] at hy;injection hy with hy;subst hy
   rw[iP rfl,iP (by rw[a5q,hf];exact(b4r h hu).2)]
  ·have hne:u.toNat≠x.toNat:=fun e=>by
    have h1:=b4r h hu;have h2:=b4r h hx;obtain rfl:u=x:=by omega
    exact hik (c9q h hx hu)
   rw[iN hne];exact c5y h hp hf (by omega) (by omega) hx hy
theorem pigeon:∀(n:Nat) (l:List Nat),l.Nodup→(∀ x∈l,x<n)→l.length≤n
 | 0,[],_,_=>by simp
 | 0,x::l,_,h=>absurd (h x (by simp)) (by omega)
 | n+1,l,hd,h=>by
  by_cases hm:n∈l
  ·have h1:=pigeon n (l.erase n) (hd.erase n) (fun x hx=>by
    have h2:=(hd.mem_erase_iff).1 hx;have h3:=h x h2.2;have:=h2.1
    omega)
   rw[List.length_erase_of_mem hm] at h1;omega
  ·have h1:=pigeon n l hd (fun x hx=>by
    have h3:=h x hx;have:x≠n:=fun e=>hm (e ▸ hx)
    omega)
   omega
theorem d5u (h:TuOk s a){q:Nat}(hq:q<s.length):∃ i:Nat,a[i]?=some (q:Int):=by
 by_cases hm:(q:Int)∈a
 ·obtain⟨i,hi⟩:=List.getElem?_of_mem hm;exact⟨i,hi⟩
 ·exfalso
  have hnd:(q::a.map Int.toNat).Nodup:=by
   rw[List.nodup_cons]
   constructor
   ·intro hx;rw[List.mem_map] at hx;obtain⟨x,hx,hxq⟩:=hx;obtain⟨i,hi⟩:=List.getElem?_of_mem hx;have:=b4r h hi;obtain rfl:x=q:=by omega
    exact hm hx
   ·show List.Pairwise (· ≠ ·) _
    rw[List.pairwise_iff_getElem];intro i j hi hj hij;simp only[List.length_map] at hi hj;simp only[List.getElem_map];intro e;have hx:a[i]?=some a[i]:=List.getElem?_eq_getElem hi;have hy:a[j]?=some a[j]:=List.getElem?_eq_getElem hj;have h1:=b4r h hx;have h2:=b4r h hy;have hxy:a[i]=a[j]:=by omega
    rw[←hxy] at hy;have:=c9q h hx hy;omega
  have:=pigeon s.length _ hnd (fun x hx=>by
   rcases List.mem_cons.1 hx with rfl|hx
   ·exact hq
   ·rw[List.mem_map] at hx;obtain⟨y,hy,rfl⟩:=hx;obtain⟨i,hi⟩:=List.getElem?_of_mem hy
    exact(b4r h hi).2)
  have hl:=h.1;simp at this;omega
def b6p (n:Nat) (a p:List Int):List Int:=a4r (List.replicate n 0) a p a.length
def c7d (s d a:List Int):List Int:=gen (Sh.size (a2s s a)).toNat fun i=>num s d (b6p s.length a (Sh.placeOf (a2s s a) i))
open Classical in
noncomputable def a6y (s d a:List Int):Int × List Int × List Int:=if a0a s d then(if TuOk s a then(0,a2s s a,c7d s d a) else refused 1) else refused 13
theorem b8k (h:a0a s d=false):a6y s d a=refused 13:=by rw[a6y,h];rfl
theorem b4p (h:a0a s d=true)(g:¬ TuOk s a):a6y s d a=refused 1:=by rw[a6y,iP h,iN g]
theorem c3p (h:a0a s d=true)(g:TuOk s a):a6y s d a=(0,a2s s a,c7d s d a):=by rw[a6y,iP h,iP g]
theorem b2z (h:TuOk s a)(hi:(i:Int)<Sh.size (a2s s a)):(b6p s.length a (Sh.placeOf (a2s s a) i)).length=s.length∧Sh.within s (b6p s.length a (Sh.placeOf (a2s s a) i))=true:=by
 obtain⟨_,hl,hw,_⟩:=a1o hi;rw[a2x] at hl;have hlen:(b6p s.length a (Sh.placeOf (a2s s a) i)).length=s.length:=by rw[b6p,a5q,List.length_replicate]
 refine⟨hlen,b0o hlen fun q x y hy hx=>?_⟩;have hqs:q<s.length:=(lL hy);obtain⟨k,hk⟩:=d5u h hqs;have hka:k<a.length:=(lL hk);obtain⟨p,hp⟩:=a0f (l:=Sh.placeOf (a2s s a) i) (k:=k) (by omega);have e:=c5y (f:=List.replicate s.length 0) h hl (by simp) hka (Nat.le_refl _) hk hp;rw[Int.toNat_natCast] at e;rw[b6p,e] at hx;injection hx with hx;subst hx
 exact Sh.within_at hw (b1z hk (by rwa [Int.toNat_natCast])) hp
def e1t (lo hi:List Int) (i:Nat):Prop:=∀ x y,lo[i]?=some x→hi[i]?=some y→0≤x∧0≤y∧x≤32∧y≤32
def b3c (s lo hi:List Int):Prop:=lo.length=s.length∧hi.length=s.length∧∀ i,e1t lo hi i
def padS (s lo hi:List Int):List Int:=List.zipWith (· + ·) (List.zipWith (· + ·) lo s) hi
theorem a7o (h:lo.length=s.length)(g:hi.length=s.length):(padS s lo hi).length=s.length:=by simp[padS];omega
theorem c2t {z:Int}(h:lo[k]?=some x)(g:s[k]?=some y)(f:hi[k]?=some z):(padS s lo hi)[k]?=some (x+y+z):=by simp[padS,List.getElem?_zipWith,h,g,f]
theorem d4a {z:Int}(h:lo[k]?=some x)(g:s[k]?=some y)(f:hi[k]?=some z):(padS s lo hi).take k++[x+y+z]=(padS s lo hi).take (k+1):=by
 rw[List.take_add_one,c2t h g f];rfl
def scat (o d:List Int) (ix:Nat→Nat) (k:Nat):List Int:=(List.range k).foldl (fun o i=>o.set (ix i) (d.getD i 0)) o
theorem b9g {ix:Nat→Nat}(h:d[k]?=some x):(scat o d ix k).set (ix k) x=scat o d ix (k+1):=by
 rw[scat,scat,List.range_succ,List.foldl_append];simp[List.getD_eq_getElem?_getD,h]
theorem a7w (o d:List Int)(ix:Nat→Nat)(k:Nat):(scat o d ix k).length=o.length:=by
 induction k with
 | zero=>rfl
 | succ k ih=>rw[scat,List.range_succ,List.foldl_append];simp only[List.foldl_cons,List.foldl_nil,List.length_set];exact ih
def padD (s d lo hi:List Int) (n:Int):List Int:=scat (List.replicate (Sh.size (padS s lo hi)).toNat n) d (fun i=>(Sh.index (padS s lo hi) (addP (Sh.placeOf s i) lo)).toNat) d.length
open Classical in
noncomputable def padR (s d lo hi:List Int) (n:Int):Int × List Int × List Int:=if a0a s d then(if b3c s lo hi then(if Sh.right (padS s lo hi) then(0,padS s lo hi,padD s d lo hi n) else refused 13) else refused 1) else refused 13
theorem c0y {n:Int}(h:a0a s d=false):padR s d lo hi n=refused 13:=by rw[padR,h];rfl
theorem b3w {n:Int}(h:a0a s d=true)(g:¬ b3c s lo hi):padR s d lo hi n=refused 1:=by rw[padR,iP h,iN g]
theorem b2s {n:Int}(h:a0a s d=true)(g:b3c s lo hi)(k:Sh.right (padS s lo hi)=false):padR s d lo hi n=refused 13:=by rw[padR,iP h,iP g,k];rfl
theorem c8d {n:Int}(h:a0a s d=true)(g:b3c s lo hi)(k:Sh.right (padS s lo hi)=true):padR s d lo hi n=(0,padS s lo hi,padD s d lo hi n):=by rw[padR,iP h,iP g,iP k]
theorem b5k (g:b3c s lo hi)(hi' : (i:Int)<Sh.size s):(addP (Sh.placeOf s i) lo).length=(padS s lo hi).length∧Sh.within (padS s lo hi) (addP (Sh.placeOf s i) lo)=true:=by
 obtain⟨_,hl,hw,_⟩:=a1o hi';have hlen:(addP (Sh.placeOf s i) lo).length=(padS s lo hi).length:=by rw[a5g (by rw[hl,g.1]),hl,a7o g.1 g.2.1]
 refine⟨hlen,b0o hlen fun k x y hy hx=>?_⟩;have hks:k<s.length:=by rw[←a7o g.1 g.2.1];exact(lL hy)
 obtain⟨b,hb⟩:=a0f (l:=lo) (k:=k) (by rw[g.1];exact hks);obtain⟨c,hc⟩:=a0f (l:=hi) (k:=k) (by rw[g.2.1];exact hks);obtain⟨e,he⟩:=a0f hks;obtain⟨p,hp⟩:=a0f (l:=Sh.placeOf s i) (k:=k) (by omega);rw[c2t hb he hc] at hy;injection hy with hy;subst hy
 rw[b2p hp hb] at hx;injection hx with hx;subst hx
 have h1:=g.2.2 k b c hb hc;have h2:=Sh.within_at hw he hp;omega
abbrev TL:=List (List Int × List Int)
def tot (ax:Nat) (l:TL):Int:=l.foldl (fun a t=>a+t.1.getD ax 0) 0
theorem b1q {l:TL}(h:l[i]?=some t)(g:t.1[ax]?=some x):tot ax (l.take (i+1))=tot ax (l.take i)+x:=by
 rw[tot,tot,List.take_add_one,h,List.foldl_append];simp[List.getD_eq_getElem?_getD,g]
theorem c2u {ax:Nat}:∀ {l:TL} (_:∀ t∈l,0≤t.1.getD ax 0) (a:Int),a≤l.foldl (fun a t=>a+t.1.getD ax 0) a
 | [],_,a=>by simp
 | t::l,h,a=>by
  have h1:=h t (by simp);have h2:=c2u (l:=l) (fun t ht=>h t (by simp[ht])) (a+t.1.getD ax 0);rw[List.foldl_cons];omega
theorem d6o {l:TL}(h:∀ t∈l,0≤t.1.getD ax 0)(i:Nat):0≤tot ax (l.take i)∧tot ax (l.take i)≤tot ax l:=by
 refine⟨?_,?_⟩
 ·exact c2u (fun t ht=>h t (List.mem_of_mem_take ht)) 0
 ·have e:tot ax l=(l.drop i).foldl (fun a t=>a+t.1.getD ax 0) (tot ax (l.take i)):=by
   rw[tot,tot,←List.foldl_append,List.take_append_drop]
  rw[e];exact c2u (fun t ht=>h t (List.mem_of_mem_drop ht)) _
def b3a (s:List Int) (ax:Nat) (t:List Int):Prop:=t.length=s.length∧∀(k:Nat) (x y:Int),k≠ax→t[k]?=some x→s[k]?=some y→x=y
def a1k (l:TL):Prop:=∀ t∈l,a0a t.1 t.2=true
def axOk (ax:Int) (l:TL):Prop:=∃ t,l[0]?=some t∧0≤ax∧ax<t.1.length
def a5d (l:TL):List Int:=match l with | []=>[]|t::_=>t.1
def a2o (ax:Nat) (l:TL):List Int:=(a5d l).set ax (tot ax l)
def b2e (p:List Int) (ax:Nat) (h:Int):List Int:=p.set ax (p.getD ax 0+h)
def b9t (s:List Int) (ax:Nat) (t:List Int) (h:Int) (k:Nat):Nat:=(Sh.index s (b2e (Sh.placeOf t k) ax h)).toNat
def a5u (ax:Nat) (l:TL) (i:Nat):List Int:=(List.range i).foldl (fun o i=>scat o (l.getD i ([],[])).2 (b9t (a2o ax l) ax (l.getD i ([],[])).1 (tot ax (l.take i))) (l.getD i ([],[])).2.length) (List.replicate (Sh.size (a2o ax l)).toNat 0)
theorem b2w (ax:Nat)(l:TL):a5u ax l 0=List.replicate (Sh.size (a2o ax l)).toNat 0:=rfl
theorem b8z {l:TL}(h:l[i]?=some t):a5u ax l (i+1)=scat (a5u ax l i) t.2 (b9t (a2o ax l) ax t.1 (tot ax (l.take i))) t.2.length:=by
 rw[a5u,a5u,List.range_succ,List.foldl_append];simp[List.getD_eq_getElem?_getD,h]
theorem b3z (ax:Nat)(l:TL)(i:Nat):(a5u ax l i).length=(Sh.size (a2o ax l)).toNat:=by
 induction i with
 | zero=>rw[b2w,List.length_replicate]
 | succ i ih=>rw[a5u,List.range_succ,List.foldl_append];simp only[List.foldl_cons,List.foldl_nil];rw[a7w];exact ih
def b0u (ax:Nat) (l:TL):Prop:=(∀ t∈l,b3a (a5d l) ax t.1)∧Sh.right (a2o ax l)=true
open Classical in
noncomputable def a6r (ax:Int) (l:TL):Int × List Int × List Int:=if a1k l then(if axOk ax l then(if b0u ax.toNat l then(0,a2o ax.toNat l,a5u ax.toNat l l.length) else refused 13) else refused 1) else refused 13
theorem b7e {ax:Int}{l:TL}(h:¬ a1k l):a6r ax l=refused 13:=by rw[a6r,iN h]
theorem a5t {ax:Int}{l:TL}(h:a1k l)(g:¬ axOk ax l):a6r ax l=refused 1:=by rw[a6r,iP h,iN g]
theorem a3s {ax:Int}{l:TL}(h:a1k l)(g:axOk ax l)(k:¬ b0u ax.toNat l):a6r ax l=refused 13:=by rw[a6r,iP h,iP g,iN k]
theorem b4m {ax:Int}{l:TL}(h:a1k l)(g:axOk ax l)(k:b0u ax.toNat l):a6r ax l=(0,a2o ax.toNat l,a5u ax.toNat l l.length):=by rw[a6r,iP h,iP g,iP k]
theorem a6i (h:a0a s d=true)(k:Nat):0≤s.getD k 0∧s.getD k 0≤32:=by
 rw[gD]
 cases e:s[k]? with
 | none=>simp
 | some x=>exact(Sh.right_iff.1 (a1p h)).2.1 x (mG e)
theorem b2v {l:TL}(h:a1k l)(ax i:Nat):0≤tot ax (l.take i)∧tot ax (l.take i)≤tot ax l:=d6o (fun t ht=>(a6i (h t ht) ax).1) i
theorem a8a (ax:Nat)(l:TL):(a2o ax l).length=(a5d l).length:=by simp[a2o]
theorem d2t {l:TL}(h:a1k l)(hx:ax<(a5d l).length)(hi:32<tot ax (l.take i)):¬ b0u ax l:=fun hk=>by
 have h1:=b2v h ax i
 have h2:=(Sh.right_iff.1 hk.2).2.1 (tot ax l) (by
  rw[a2o];exact List.mem_set hx _)
 omega
theorem b0m (p:List Int)(ax:Nat)(h:Int):(b2e p ax h).length=p.length:=by simp[b2e]
theorem b3b {l:TL}(h:a1k l)(hk:b0u ax l)(hx:ax<(a5d l).length)(ht:l[i]?=some t)(hkz:(k:Int)<Sh.size t.1):
  (b2e (Sh.placeOf t.1 k) ax (tot ax (l.take i))).length=(a2o ax l).length∧Sh.within (a2o ax l) (b2e (Sh.placeOf t.1 k) ax (tot ax (l.take i)))=true:=by
 obtain⟨_,hl,hw,_⟩:=a1o hkz;have hf:=hk.1 t (mG ht);have hlen:(b2e (Sh.placeOf t.1 k) ax (tot ax (l.take i))).length=(a2o ax l).length:=by rw[b0m,a8a,hl,hf.1]
 refine⟨hlen,b0o hlen fun q x y hy hx'=>?_⟩;have hql:q<t.1.length:=by rw[hf.1,←a8a ax l];exact(lL hy)
 obtain⟨z,hz⟩:=a0f hql;obtain⟨p,hp⟩:=a0f (l:=Sh.placeOf t.1 k) (k:=q) (by omega);have hwp:=Sh.within_at hw hz hp;rw[b2e,List.getElem?_set] at hx';rw[a2o,List.getElem?_set] at hy;by_cases hq:ax=q
 ·subst hq;rw[iP rfl,iP (by omega)] at hx';rw[iP rfl,iP hx] at hy;injection hx' with hx';injection hy with hy
  subst hx';subst hy;rw[gD,hp];have h1:=b2v h ax (i+1);have h2:=b2v h ax i;rw[b1q ht hz] at h1;simp only[Option.getD_some];omega
 ·rw[iN hq,hp] at hx';rw[iN hq] at hy;injection hx' with hx';subst hx'
  have:=hf.2 q z y (Ne.symm hq) hz hy;omega
theorem a3e {A:Option Addr}{c:Nat}(h:Ten w v s d)(g:Ints w A n p)(hr:a0a s d=true)(hl:p.length=s.length)(hw:Sh.within s p=true):
  Calls prog 128 #[v,.slice A n c] w fun e w'=>e=.returned (.int .i64 (num s d p))∧Below w.heap.size w w':=by
 obtain⟨As,ns,cs,Bd,nd,cd,rfl,hsc,hdc,hS,hD⟩:=h;have h1:=((((Sep.nil w).old g).old hD).old hS).allocBox w.heap.size 33 [.slice As ns cs,.slice Bd nd cd] rfl
 go_enter func128,ntmps128
 go_upto_region 1 with fail
 generalize w.alloc (.cells #[.slice As ns cs,.slice Bd nd cd] 33)=W at *;obtain⟨b0,b1⟩:=h1.z2 0 rfl;have IS:=h1.oldInts 1 rfl;have ID:=h1.oldInts 2 rfl;have IP:=h1.oldInts 3 rfl;obtain⟨k,hk,hkd,hx⟩:=c9z hr hl hw;rw[hD.len] at hkd;obtain⟨ad,x,rfl,hb,hx', hc,hf⟩:=ID.at_ hkd;rw[hx] at hx';injection hx' with hx'
 have HX:=Hd hx';have C1:∀ q,Calls prog 129 #[.slice As ns cs,.slice A n c] (W.drewN q) fun e w'=>e=.returned (.int .i64 k)∧∃ k,w'=(W.drewN q).drewN k:=fun q=>by rw[←hk];exact a8i (IS.drewN q) (IP.drewN q)
 have H:=Hd h1;have HC:=Hd C1;clear h1 IS ID IP hk hx hx' hD hS g hl hw hr C1
 go_quiet ((go_at_call 129;exact(HC _).mono fun _ _ ⟨e,k,h⟩=>⟨e,_,h.trans (World.drewN_drewN _ _ _)⟩))
 go_wp2;go_ret;exact⟨a2v HX.symm,a0w H.base _⟩
theorem c2f {Af Az:Option Addr}{nf cf nz cz:Nat}(h:Ten w v s d)(hF:Ints w Af nf f)(hZ:Ints w Az nz z):
  Calls prog 80 #[v,.slice Af nf cf,.slice Az nz cz] w fun e w'=>(∃ u,e=.returned (.tuple #[u,.int .i64 (cutR s d f z).1])∧OTen w' w.heap.size u (cutR s d f z).2.1 (cutR s d f z).2.2)∧Below w.heap.size w w':=by
 obtain⟨A,n,c,B,m,e,rfl,hnc,hme,hI,hJ⟩:=h;have h1:=(((((((Sep.nil w).old hZ).old hF).old hJ).old hI).allocBox w.heap.size 33 [.slice A n c,.slice B m e] rfl).allocBox (w.heap.size+1) 33 [.slice none 0 0,.slice none 0 0] (by simp));have hsl:=hI.len;have hfl:=hF.len;have hzl:=hZ.len;have hnle:=hI.le;have hmle:=hJ.le;have hfle:=hF.le;have hzle:=hZ.le;have HFD:=Hd hJ.fit
 go_enter func80,ntmps80
 go_upto_region 1 with fail
 generalize (w.alloc (.cells #[.slice A n c,.slice B m e] 33)).alloc (.cells #[.slice none 0 0,.slice none 0 0] 33)=W at *;have H:=Hd h1;clear h1 hI hJ hF hZ;have hT:=a1s (H.oldInts 2 rfl) hnc (H.oldInts 3 rfl) hme;have C1:=a2a hT;have HT:=Hd hT;clear hT;obtain⟨t0,t1⟩:=H.z2 1 rfl;have HSL:=Hd hsl;have HFL:=Hd hfl;have HZL:=Hd hzl;clear hsl hfl hzl
 go_wp2_with fail
 cases hr:a0a s d with
 | false =>
  rw[hr] at C1;refine C1.mono ?_;rintro e2 w2 ⟨rfl,hb2⟩;replace H:=Hd (H.below hb2);have HX:=Hd (c1v (f:=f) (z:=z) hr);obtain⟨r0,r1,fr0,fr1⟩:=H.b2 0;clear hb2 hr C1 t0 t1;go_wp2;rw[HX.out]
  exact sN2 H 0 13 results80
 | true =>
  rw[hr] at C1;refine C1.mono ?_;rintro e2 w2 ⟨rfl,hb2⟩;replace H:=Hd (H.below hb2);have HRT:=Hd hr;clear hb2 hr C1 t0 t1 HT;obtain⟨t0,t1⟩:=H.z2 1 rfl;by_cases hlen:nf=n∧nz=n;rotate_left
  ·have HX:=Hd (b6x (f:=f) (z:=z) HRT (by cases hc:a3w s f z with|false=>rfl|true=>exact absurd (a8o hc) (by have:=HSL.out;have:=HFL.out;have:=HZL.out;omega)));have hg:((nf:Int) != (n:Int))=true∨(((nf:Int) != (n:Int))=false∧((nz:Int) != (n:Int))=true):=by simp;omega
   clear hlen;obtain⟨r0,r1,fr0,fr1⟩:=H.b2 0;rcases hg with hg|⟨hg,hg2⟩
   all_goals (
    go_wp2;rw[HX.out]
    exact sN2 H 0 1 results80)
  obtain⟨rfl,rfl⟩:=hlen
  go_wp2_with fail
  go_loopw [34] (fun kv wr=>∃ j:Nat,kv=.int .i64 j∧j≤nz∧(∀(k:Nat) (a b c:Int),k<j→s[k]?=some a→f[k]?=some b→z[k]?=some c→0≤b∧0≤c∧b≤a∧c≤a-b)∧∃ q,wr=w2.drewN q) (fun kv _=>nz-(intOf kv).toNat)
  case atStart=>exact⟨0,rfl,by omega,fun k a b c hk=>by omega,0,rfl⟩
  case round =>
   obtain⟨j,rfl,hj,hall,q,rfl⟩:=hrel;have HA:=Hd hall;clear hall;by_cases hlt:j<nz
   ·obtain⟨sa,a,hsA,_,ha,hca,hfa⟩:=(H.oldInts 2 rfl).at_ (k:=j) hlt;obtain⟨fa,b,hfA,_,hb,hcb,hfb⟩:=(H.oldInts 4 rfl).at_ (k:=j) hlt;obtain⟨za,cc,hzA,_,hcc,hcz,hfz⟩:=(H.oldInts 5 rfl).at_ (k:=j) hlt;subst hsA;subst hfA;subst hzA;have HE:=Hd (⟨ha,hb,hcc⟩:_∧_∧_);clear ha hb hcc;have HBAD:=Hd (fun (hbad:¬(0≤b∧0≤cc∧b≤a∧cc≤a-b))=>b6x (f:=f) (z:=z) HRT (by cases hc:a3w s f z with|false=>rfl|true=>exact absurd (b1n hc HE.out.1 HE.out.2.1 HE.out.2.2) hbad));obtain⟨r0,r1,fr0,fr1⟩:=H.b2 0;obtain⟨hfa1,hfa2⟩:=hfa;obtain⟨hfb1,hfb2⟩:=hfb;obtain⟨hfz1,hfz2⟩:=hfz;by_cases g1:b<0
    ·have d1:decide (b<0)=true:=by simpa using g1
     have HX:=Hd (HBAD (by omega))
     go_wp2_with fail
     go_quiet (fail)
     go_wp2;rw[HX.out];exact sN2 (H.drewN _) 0 1 results80
    have d1:decide (b<0)=false:=by simpa using g1
    by_cases g2:cc<0
    ·have d2:decide (cc<0)=true:=by simpa using g2
     have HX:=Hd (HBAD (by omega))
     go_wp2_with fail
     go_quiet (fail)
     go_wp2;rw[HX.out];exact sN2 (H.drewN _) 0 1 results80
    have d2:decide (cc<0)=false:=by simpa using g2
    by_cases g3:a<b
    ·have d3:decide (a<b)=true:=by simpa using g3
     have HX:=Hd (HBAD (by omega))
     go_wp2_with fail
     go_quiet (fail)
     go_wp2;rw[HX.out];exact sN2 (H.drewN _) 0 1 results80
    have d3:decide (a<b)=false:=by simpa using g3
    have hw:IntKind.i64.wrap (a-b)=a-b:=IntWalk.i64_in _ ⟨by omega,by omega⟩;by_cases g4:a-b<cc
    ·have d4:decide (a-b<cc)=true:=by simpa using g4
     have HX:=Hd (HBAD (by omega))
     go_wp2_with fail
     go_quiet (fail)
     go_wp2;rw[HX.out];exact sN2 (H.drewN _) 0 1 results80
    have d4:decide (a-b<cc)=false:=by simpa using g4
    have HN:=Hd (fun (k:Nat) (a b c:Int) (hk:k<j+1) (h1:s[k]?=some a) (h2:f[k]?=some b) (h3:z[k]?=some c)=>show 0≤b∧0≤c∧b≤a∧c≤a-b by
     rcases Nat.lt_or_ge k j with h' | h'
     ·exact HA k a b c h' h1 h2 h3
     ·obtain rfl:k=j:=by omega
      rw[HE.out.1] at h1;rw[HE.out.2.1] at h2;rw[HE.out.2.2] at h3;injection h1 with h1;injection h2 with h2;injection h3 with h3;omega)
    clear HBAD HE r0 r1 fr0 fr1
    go_wp2_with fail
    go_quiet (fail)
    go_wp2;go_roundw
    case rel=>exact⟨j+1,by go_num,by omega,HN,_,rfl⟩
    case measure=>simp[intOf];omega
   ·obtain rfl:j=nz:=by omega
    have hok:a3w s f z=true:=b4e (by have:=HSL.out;have:=HFL.out;omega) (by have:=HSL.out;have:=HZL.out;omega) fun k a b c h1 h2 h3=>HA.out k a b c (by have:=(lL h1);have:=HSL.out;omega) h1 h2 h3
    have HOK:=Hd hok;have hn4:j≤4:=by have:=(a1f HRT).1;have:=HSL.out;omega
    clear hok HA;replace H:=Hd (H.drewN q)
    go_wp2_with fail
    generalize w2.drewN q=w3 at *;refine(a2d 0 (H.oldInts 5 rfl) (by omega) ⟨by omega,by omega⟩).mono ?_;rintro e4 w4 ⟨⟨u,rfl,hu⟩,hb4⟩;obtain⟨S1,ns,sc,D1,N,dc,rfl,hs1,hd1,hsc,hdc,hNle,h5⟩:=H.addTen hb4 hu;rw[List.length_replicate] at hd1;rw[hd1] at h5;obtain⟨tgt,htg⟩:∃ t,cutD s d f z=t:=⟨_,rfl⟩;have HTL:=Hd (show tgt.length=N by rw[←htg,cutD,a2y,hd1]);have HAT:=Hd (show ∀ i:Nat,i<N→tgt[i]?=some (num s d (addP (Sh.placeOf z i) f)) from fun i hi=>by rw[←htg,cutD];exact a7l (by omega));have HSZ:=Hd (show ∀ i:Nat,i<N→(i:Int)<Sh.size z from fun i hi=>by have:=Sh.size_bd z;omega);have HQ:=Hd ((c7i HRT HOK).trans (by rw[htg]));have h6:=h5.allocBox w4.heap.size 33 [.slice S1 ns sc,.slice D1 N dc] rfl;clear hu hb4 h5 htg hd1 hs1
    go_upto_region 12 with fail
    generalize w4.alloc (.cells #[.slice S1 ns sc,.slice D1 N dc] 33)=w5 at *;generalize w4.heap.size=gt at *;replace H:=Hd h6;clear h6;obtain⟨o0,o1⟩:=H.z2 0 rfl
    go_wp2_with fail
    clear o0 o1
    go_loopw [85] (fun kv wr=>∃ i:Nat,kv=.int .i64 i∧i≤N∧Sep w wr [.box gt 33 [.slice S1 ns sc,.slice D1 N dc],.own 3 (.slice S1 ns sc) ns z,.own 2 (.slice D1 N dc) N (mix tgt (List.replicate N 0) i),.box (w.heap.size+1) 33 [.slice none 0 0,.slice none 0 0],.box w.heap.size 33 [.slice A j c,.slice B m e],.ints A j s,.ints B m d,.ints Af j f,.ints Az j z]) (fun kv _=>N - (intOf kv).toNat)
    case atStart=>exact⟨0,rfl,by omega,by rw[a2p];exact H⟩
    case round =>
     clear H;obtain⟨i,rfl,hi,hS⟩:=hrel;have H:=Hd hS;clear hS;by_cases hli:i<N
     ·have hiz:=HSZ.out i hli
      go_wp2_with fail
      refine(a3y i (H.oldInts 8 rfl) ⟨by omega,by omega⟩).mono ?_;rintro e6 w6 ⟨⟨v,n6,rfl,hO⟩,hb6⟩;obtain⟨A6,c6,rfl,hc6,_,_⟩:=hO.form;obtain⟨_,hpl,hpw,_⟩:=a1o hiz;have hp6:n6=j:=by have:=hO.len;have:=HZL.out;omega
      replace H:=Hd (H.addOwn hb6 hO);have HPF:=Hd hO.2.1;obtain⟨P,hP⟩:∃ P,Sh.placeOf z i=P:=⟨_,rfl⟩;rw[hP] at H HPF hpl hpw;have HP:=Hd hP;have HPL:=Hd (show P.length=j by have:=HZL.out;omega);have HPW:=Hd hpw;clear hb6 hO hP hpl hpw hc6;subst hp6
      go_wp2_with fail
      go_loopw [93] (fun kv wr=>∃ k:Nat,kv=.int .i64 k∧k≤n6∧Sep w wr [.own 3 (.slice A6 n6 c6) n6 (mix (addP P f) P k),.box gt 33 [.slice S1 ns sc,.slice D1 N dc],.own 3 (.slice S1 ns sc) ns z,.own 2 (.slice D1 N dc) N (mix tgt (List.replicate N 0) i),.box (w.heap.size+1) 33 [.slice none 0 0,.slice none 0 0],.box w.heap.size 33 [.slice A n6 c,.slice B m e],.ints A n6 s,.ints B m d,.ints Af n6 f,.ints Az n6 z]) (fun kv _=>n6-(intOf kv).toNat)
      case atStart=>exact⟨0,rfl,by omega,by rw[a2p];exact H⟩
      case round =>
       clear H;obtain⟨k,rfl,hk,hS⟩:=hrel;by_cases hlk:k<n6
       ·obtain⟨gp,cp,hv,hOp⟩:=(hS.ownS 0 rfl).own (by omega);injection hv with hv1 _ hv3
        subst hv1;subst hv3;obtain⟨x,hx⟩:=a0f (l:=P) (k:=k) (by have:=HPL.out;omega);obtain⟨fa,y,hfA,_,hy,hcy,hfy⟩:=(hS.oldInts 8 rfl).at_ (k:=k) hlk;subst hfA;have hal:(addP P f).length=P.length:=a5g (by have:=HPL.out;have:=HFL.out;omega);have hcx:=hOp.cell (j:=k) (x:=x) (by rw[c1j hal (by have:=HPL.out;omega)];exact hx);have hfr:=hOp.frozen k;obtain⟨zc,hzc⟩:=a0f (l:=z) (k:=k) (by have:=HZL.out;omega);obtain⟨sa,hsa⟩:=a0f (l:=s) (k:=k) (by have:=HSL.out;omega);have hb1:=Sh.within_at HPW hzc hx;have hb2:=b1n HOK hsa hy hzc;have hb3:=(Sh.right_iff.1 (a1p HRT)).2.1 sa (mG hsa);have hS2:=hS.store 0 k (x:=x+y) ⟨by omega,by omega⟩ rfl;have hw:IntKind.i64.wrap (x+y)=x+y:=IntWalk.i64_in _ ⟨by omega,by omega⟩;have HS2:=Hd (show Sep w (wr.setCell ⟨gp,k,none⟩ (.int .i64 (x+y))) (.own 3 (.slice (some ⟨gp,0,none⟩) n6 c6) n6 (mix (addP P f) P (k+1))::_) by rw[←b3h hal (b2p hx hy)];exact hS2);clear hS hS2 hOp hx hy hzc hsa hal hfy hb1 hb2 hb3
        go_upto_region 19 with fail
        go_still_tail 12,(by kernel_rfl)
        change wpList _ _ _ _ _ wr.drew;have hcx1:wr.drew.cell? ⟨gp,k,none⟩=some (.int .i64 x):=hcx;have hfr1:wr.drew.frozen? ⟨gp,k,none⟩=false:=hfr;go_wp2;go_roundw
        case rel=>exact⟨k+1,by go_num,by omega,HS2.drew⟩
        case measure=>simp[intOf];omega
       ·have hkn:n6=k:=by omega
        subst hkn;rw[show mix (addP P f) P n6=addP P f by have:=b1t (t:=addP P f) (o:=P) (a5g (by have:=HPL.out;have:=HFL.out;omega));rwa [HPL.out] at this] at hS;obtain⟨gb,cb,hv,hO⟩:=(hS.ownS 3 rfl).own (by omega);injection hv with hv1 _ hv3
        subst hv1;subst hv3;have H:=Hd hS;obtain⟨o0,o1⟩:=H.z2 1 rfl;obtain⟨t0,t1⟩:=H.z2 5 rfl;have hwi:=b5w HOK hiz;rw[HP.out] at hwi;obtain⟨X,hX⟩:∃ X,num s d (addP P f)=X:=⟨_,rfl⟩;have hfX:Fits X:=by rw[←hX];exact b6u HFD
        have C1:=a3e (w:=wr.drew) (c:=c6) (a1s (H.oldInts 6 rfl) hnc (H.oldInts 7 rfl) hme) (H.ownInts 0 rfl).2.2 HRT hwi.1 hwi.2;rw[hX] at C1;have HTX:=Hd (show tgt[i]?=some X by rw[HAT.out i hli,HP.out,hX]);clear hS hO hwi hX hlk o0;have HM:=Hd (a4o (c:=0) HTL hli);have HFX:=Hd hfX;clear hfX
        go_upto_region 21 with fail
        go_region_held3 (fun w'=>w'.cell? ⟨gt,1,none⟩=some (.slice (some ⟨gb,0,none⟩) N dc)∧w'.cell? ⟨w.heap.size,0,none⟩=some (.slice A n6 c)∧w'.cell? ⟨w.heap.size,1,none⟩=some (.slice B m e)) (go_keep)
         (first|(go_at_call 128;refine C1.mono ?_;rintro e7 w7 ⟨rfl,hb7⟩;have H7:=Hd (H.drew.below hb7);have m0:=H7.c 1 1;obtain⟨m1,m2⟩:=H7.z2 5 rfl;have hcs:=(H7.own 3 rfl).cell HM;have hfs:=(H7.own 3 rfl).frozen i;have HS7:=Hd (H7.store 3 i HFX rfl);have k0:(w7.setCell ⟨gb,i,none⟩ (.int .i64 X)).cell? ⟨gt,1,none⟩=some (.slice (some ⟨gb,0,none⟩) N dc):=HS7.c 1 1;have k1:(w7.setCell ⟨gb,i,none⟩ (.int .i64 X)).cell? ⟨w.heap.size,0,none⟩=some (.slice A n6 c):=HS7.c 5 0;have k2:(w7.setCell ⟨gb,i,none⟩ (.int .i64 X)).cell? ⟨w.heap.size,1,none⟩=some (.slice B m e):=HS7.c 5 1))
        clear o1 t0 t1 m0 m1 m2 k0 k1 k2 hcs hfs;go_wp2;go_roundw
        case rel=>exact⟨i+1,by go_num,by omega,by rw[←a3i HTL.out HTX.out];exact HS7.sub [1,2,3,4,5,6,7,8,9] rfl (by decide)⟩
        case measure=>simp[intOf];omega
     ·have hin:N=i:=by omega
      subst hin;rw[a4n HTL.out] at H;obtain⟨o0,o1⟩:=H.z2 0 rfl;obtain⟨r0,r1,fr0,fr1⟩:=H.b2 3;go_wp2;rw[HQ.out];exact sY2 ((H.setBox 3 0 (.slice S1 ns sc) rfl).setBox 3 1 (.slice D1 N dc) rfl) 3 1 2 (.int .i64 0) results80
end Go.Proofs.YtjblengklgkgfaaGreat
