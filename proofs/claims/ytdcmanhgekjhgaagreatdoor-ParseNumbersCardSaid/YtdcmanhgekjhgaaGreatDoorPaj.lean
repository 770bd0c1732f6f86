import Derived.Test.YtdcmanhgekjhgaaGreatDoorPaf
set_option maxRecDepth 100000
set_option maxHeartbeats 12800000
namespace Go.Proofs.YtdcmanhgekjhgaaGreatDoor
open Go.RowKit Go.Proofs.Tryz
variable {a d f hi l lo o p s z:List Int} {ax i k:Nat} {n x y:Int} {t:List Int × List Int}
def gen (n:Nat) (f:Nat→Int):List Int:=(List.range n).map f
theorem a5u (n:Nat)(f:Nat→Int):(gen n f).length=n:=by simp[gen]
theorem b3a {n:Nat}{f:Nat→Int}{j:Nat}(h:j<n):(gen n f)[j]?=some (f j):=by simp[gen,List.getElem?_range h]
def num (s d p:List Int):Int:=d.getD (Sh.index s p).toNat 0
theorem b6j (hr:Sh.right s=true)(hl:p.length=s.length)(h:Sh.within s p=true):0≤Sh.index s p∧Sh.index s p<Sh.size s:=by
 rw[Sh.index_of hr hl h,Sh.size_of hr];have:=Sh.hor_bd h hl.symm;omega
theorem e6q (hr:a0b s d=true)(hl:p.length=s.length)(h:Sh.within s p=true):∃ k:Nat,Sh.index s p=k∧k<d.length∧d[k]?=some (num s d p):=by
 obtain⟨h0,h1⟩:=b6j (a3o hr) hl h;have h2:=a2i hr;refine⟨(Sh.index s p).toNat,by omega,by omega,?_⟩;rw[num,gD,List.getElem?_eq_getElem (by omega)];rfl
theorem b6l (hf:∀ x∈d,Fits x):Fits (num s d p):=by
 unfold num;rw[gD]
 cases h:d[(Sh.index s p).toNat]? with
 | none=>exact⟨by simp,by simp⟩
 | some x=>exact hf x (mG h)
theorem b0v (_hl:p.length=s.length)(h:∀(k:Nat) (x y:Int),s[k]?=some y→p[k]?=some x→0≤x∧x<y):Sh.within s p=true:=by
 rw[Sh.within_iff];intro z hz;obtain⟨k,hk⟩:=List.getElem?_of_mem hz;rw[List.getElem?_zip_eq_some] at hk;exact h k z.2 z.1 hk.1 hk.2
theorem a1q (h:(i:Int)<Sh.size s):Sh.placeOf s i=Sh.place s i∧(Sh.placeOf s i).length=s.length∧Sh.within s (Sh.placeOf s i)=true∧Sh.right s=true:=by
 obtain⟨hr,hd⟩:=Sh.size_pos (by omega:(0:Int)≤i) h;have e:=Sh.placeOf_place (by omega:(0:Int)≤i) h;rw[e];exact⟨rfl,Sh.place_length _ _,Sh.within_place hd _,hr⟩
def a4m:List Int→List Int→List Int→Bool
 | [],[],[]=>true
 | n::s,f::fs,z::zs=>decide (0≤f)&&decide (0≤z)&&decide (f≤n)&&decide (z≤n-f)&&a4m s fs zs
 | _,_,_=>false
theorem b2x:∀ {s f z:List Int},a4m s f z=true→f.length=s.length∧z.length=s.length
 | [],[],[],_=>⟨rfl,rfl⟩
 | _::s,_::f,_::z,h=>by
  simp only[a4m,Bool.and_eq_true] at h;obtain⟨h1,h2⟩:=b2x h.2
  simp[h1,h2]
 | [],_::_,_,h=>by simp[a4m] at h
 | [],[],_::_,h=>by simp[a4m] at h
 | _::_,[],_,h=>by simp[a4m] at h
 | _::_,_::_,[],h=>by simp[a4m] at h
theorem b2w:∀ {s f z:List Int},a4m s f z=true→∀ {k:Nat} {a b c:Int},s[k]?=some a→f[k]?=some b→z[k]?=some c→0≤b∧0≤c∧b≤a∧c≤a-b
 | [],[],[],_,k,a,b,c,ha,_,_=>by simp at ha
 | n::s,x::f,y::z,h,k,a,b,c,ha,hb,hc=>by
  simp only[a4m,Bool.and_eq_true,decide_eq_true_eq] at h
  cases k with
  | zero=>simp at ha hb hc;subst ha;subst hb;subst hc;omega
  | succ k=>exact b2w h.2 (by simpa using ha) (by simpa using hb) (by simpa using hc)
 | [],_::_,_,h,_,_,_,_,_,_,_=>by simp[a4m] at h
 | [],[],_::_,h,_,_,_,_,_,_,_=>by simp[a4m] at h
 | _::_,[],_,h,_,_,_,_,_,_,_=>by simp[a4m] at h
 | _::_,_::_,[],h,_,_,_,_,_,_,_=>by simp[a4m] at h
theorem b6z:∀ {s f z:List Int},f.length=s.length→z.length=s.length→(∀(k:Nat) (a b c:Int),s[k]?=some a→f[k]?=some b→z[k]?=some c→0≤b∧0≤c∧b≤a∧c≤a-b)→a4m s f z=true
 | [],[],[],_,_,_=>rfl
 | n::s,x::f,y::z,h1,h2,h=>by
  have h0:=h 0 n x y rfl rfl rfl;simp only[a4m,Bool.and_eq_true,decide_eq_true_eq]
  exact⟨⟨⟨⟨h0.1,h0.2.1⟩,h0.2.2.1⟩,h0.2.2.2⟩,b6z (by simpa using h1) (by simpa using h2) fun k a b c ha hb hc=>h (k+1) a b c (by simpa using ha) (by simpa using hb) (by simpa using hc)⟩
 | [],_::_,_,h,_,_=>by simp at h
 | [],[],_::_,_,h,_=>by simp at h
 | _::_,[],_,h,_,_=>by simp at h
 | _::_,_::_,[],_,h,_=>by simp at h
def addP (p f:List Int):List Int:=List.zipWith (· + ·) p f
def cutD (s d f z:List Int):List Int:=gen (Sh.size z).toNat fun i=>num s d (addP (Sh.placeOf z i) f)
def cutR (s d f z:List Int):Int × List Int × List Int:=if a0b s d then(if a4m s f z then(0,z,cutD s d f z) else refused 1) else refused 13
theorem d2i (h:a0b s d=false):cutR s d f z=refused 13:=by simp[cutR,h]
theorem c2q (h:a0b s d=true)(g:a4m s f z=false):cutR s d f z=refused 1:=by simp[cutR,h,g]
theorem d5f (h:a0b s d=true)(g:a4m s f z=true):cutR s d f z=(0,z,cutD s d f z):=by simp[cutR,h,g]
theorem a6w (h:f.length=p.length):(addP p f).length=p.length:=by simp[addP,h]
theorem c2l (h:p[k]?=some x)(g:f[k]?=some y):(addP p f)[k]?=some (x+y):=by simp[addP,List.getElem?_zipWith,h,g]
theorem a0h {α : Type}{l:List α}(h:k<l.length):∃ x,l[k]?=some x:=gE h
theorem d2j (h:a4m s f z=true)(hi:(i:Int)<Sh.size z):(addP (Sh.placeOf z i) f).length=s.length∧Sh.within s (addP (Sh.placeOf z i) f)=true:=by
 obtain⟨hf,hz⟩:=b2x h;obtain⟨_,hl,hw,_⟩:=a1q hi;have hlen:(addP (Sh.placeOf z i) f).length=s.length:=by rw[a6w (by omega)];omega
 refine⟨hlen,b0v hlen fun k x y hy hx=>?_⟩;have hks:k<s.length:=(lL hy);obtain⟨b,hb⟩:=a0h (l:=f) (k:=k) (by omega);obtain⟨c,hc⟩:=a0h (l:=z) (k:=k) (by omega);obtain⟨p,hp⟩:=a0h (l:=Sh.placeOf z i) (k:=k) (by omega);rw[c2l hp hb] at hx;injection hx with hx;subst hx
 have h1:=b2w h hy hb hc;have h2:=Sh.within_at hw hc hp;omega
def SpAt (s o a:List Int) (i:Nat):Prop:=∀ x y,a[i]?=some x→s[i]?=some y→0≤x∧x<o.length∧(∀ z,0<i→a[i-1]?=some z→z<x)∧o[x.toNat]?=some y
def SpOk (s o a:List Int):Prop:=a.length=s.length∧∀ i,SpAt s o a i
def spP (p a:List Int):List Int:=a.map fun x=>p.getD x.toNat 0
def spD (s d o a:List Int):List Int:=gen (Sh.size o).toNat fun i=>num s d (spP (Sh.placeOf o i) a)
open Classical in
noncomputable def spR (s d o a:List Int):Int × List Int × List Int:=if a0b s d&&Sh.right o then(if SpOk s o a then(0,o,spD s d o a) else refused 1) else refused 13
theorem b9r (h:(a0b s d&&Sh.right o)=false):spR s d o a=refused 13:=by rw[spR,h];rfl
theorem c9r (h:(a0b s d&&Sh.right o)=true)(g:¬ SpOk s o a):spR s d o a=refused 1:=by rw[spR,iP h,iN g]
theorem e4a (h:(a0b s d&&Sh.right o)=true)(g:SpOk s o a):spR s d o a=(0,o,spD s d o a):=by rw[spR,iP h,iP g]
theorem c2e (p a:List Int):(spP p a).length=a.length:=by simp[spP]
theorem e3z (h:a[k]?=some x)(g:p[x.toNat]?=some y):(spP p a)[k]?=some y:=by simp[spP,h,List.getD_eq_getElem?_getD,g]
theorem e3d (h:a[k]?=some x)(g:p[x.toNat]?=some y):(spP p a).take k++[y]=(spP p a).take (k+1):=by
 rw[List.take_add_one,e3z h g];rfl
theorem e6w (h:SpOk s o a)(hx:a[k]?=some x):0≤x∧x.toNat<o.length:=by
 have hk:k<s.length:=by rw[←h.1];exact(lL hx)
 obtain⟨y,hy⟩:=a0h hk;have:=h.2 k x y hx hy;omega
theorem d8w (h:SpOk s o a)(hi:(i:Int)<Sh.size o):(spP (Sh.placeOf o i) a).length=s.length∧Sh.within s (spP (Sh.placeOf o i) a)=true:=by
 obtain⟨_,hl,hw,_⟩:=a1q hi;have hlen:(spP (Sh.placeOf o i) a).length=s.length:=by rw[c2e,h.1]
 refine⟨hlen,b0v hlen fun k x y hy hx=>?_⟩;have hks:k<s.length:=(lL hy);obtain⟨z,hz⟩:=a0h (l:=a) (k:=k) (by rw[h.1];exact hks);have hz2:=e6w h hz;obtain⟨p,hp⟩:=a0h (l:=Sh.placeOf o i) (k:=z.toNat) (by omega);rw[e3z hz hp] at hx;injection hx with hx;subst hx
 exact Sh.within_at hw (h.2 k z y hz hy).2.2.2 hp
def TuAt (s a:List Int) (i:Nat):Prop:=∀ x,a[i]?=some x→0≤x∧x<s.length∧x∉a.take i
def TuOk (s a:List Int):Prop:=a.length=s.length∧∀ i,TuAt s a i
def marks (n:Nat) (l:List Int):List Int:=gen n fun q=>if (q:Int)∈l then 1 else 0
theorem d6x (n:Nat):marks n []=List.replicate n 0:=by
 apply List.ext_getElem?;intro i;rcases Nat.lt_or_ge i n with h|h
 ·rw[marks,b3a h,List.getElem?_replicate,iP h];simp
 ·rw[List.getElem?_eq_none (by rw[marks,a5u];exact h),List.getElem?_eq_none (by simpa using h)]
theorem b0b (n:Nat)(l:List Int):(marks n l).length=n:=a5u _ _
theorem d1f {n:Nat}(h0:0≤x)(h1:x<n):(marks n l)[x.toNat]?=some (if x∈l then 1 else 0):=by
 rw[marks,b3a (by omega),Int.toNat_of_nonneg h0]
theorem d6y {n:Nat}(h0:0≤x)(h1:x<n):(marks n l).set x.toNat 1=marks n (l++[x]):=by
 apply List.ext_getElem?;intro i;rw[List.getElem?_set];by_cases hi:x.toNat=i
 ·subst hi;rw[iP rfl,iP (by rw[b0b];omega),d1f h0 h1];simp
 ·rw[iN hi];rcases Nat.lt_or_ge i n with h|h
  ·rw[marks,marks,b3a h,b3a h];have:(i:Int)≠x:=by omega
   simp[this]
  ·rw[List.getElem?_eq_none (by rw[b0b];exact h),List.getElem?_eq_none (by rw[b0b];exact h)]
def a3u (s a:List Int):List Int:=a.map fun x=>s.getD x.toNat 0
theorem a4a (s a:List Int):(a3u s a).length=a.length:=by simp[a3u]
theorem c4g (h:a[k]?=some x)(g:s[x.toNat]?=some y):(a3u s a)[k]?=some y:=by simp[a3u,h,List.getD_eq_getElem?_getD,g]
theorem d4l (h:a[k]?=some x)(g:s[x.toNat]?=some y):(a3u s a).take k++[y]=(a3u s a).take (k+1):=by
 rw[List.take_add_one,c4g h g];rfl
def b0o (f a p:List Int) (k:Nat):List Int:=(List.range k).foldl (fun f i=>f.set (a.getD i 0).toNat (p.getD i 0)) f
theorem b9m (h:a[k]?=some x)(g:p[k]?=some y):(b0o f a p k).set x.toNat y=b0o f a p (k+1):=by
 rw[b0o,b0o,List.range_succ,List.foldl_append];simp[List.getD_eq_getElem?_getD,h,g]
theorem a9h (f a p:List Int)(k:Nat):(b0o f a p k).length=f.length:=by
 induction k with
 | zero=>rfl
 | succ k ih=>rw[b0o,List.range_succ,List.foldl_append];simp only[List.foldl_cons,List.foldl_nil,List.length_set];exact ih
theorem b9u (h:TuOk s a)(hx:a[k]?=some x):0≤x∧x.toNat<s.length:=by
 have:=h.2 k x hx;omega
theorem d9i (h:TuOk s a){m:Nat}(hk:a[k]?=some x)(hm:a[m]?=some x):k=m:=by
 have key:∀ {i j:Nat},i<j→a[i]?=some x→a[j]?=some x→False:=fun {i j} hij hi hj =>
  (h.2 j x hj).2.2 (mG (i:=i) (by rw[List.getElem?_take,iP hij];exact hi))
 rcases Nat.lt_trichotomy k m with h1|h1|h1
 ·exact(key h1 hk hm).elim
 ·exact h1
 ·exact(key h1 hm hk).elim
theorem c6w {s a p f:List Int}(h:TuOk s a)(hp:p.length=a.length)(hf:f.length=s.length):∀ {k i:Nat} {x y:Int},i<k→k≤a.length→a[i]?=some x→p[i]?=some y→(b0o f a p k)[x.toNat]?=some y
 | 0,_,_,_,h', _,_,_=>absurd h' (by omega)
 | k+1,i,x,y,hi,hk,hx,hy=>by
  obtain⟨u,hu⟩:=a0h (l:=a) (k:=k) (by omega);obtain⟨v,hv⟩:=a0h (l:=p) (k:=k) (by omega);rw[←b9m hu hv,List.getElem?_set];by_cases hik:i=k
  ·subst hik;rw[hu] at hx;injection hx with hx;subst hx
   rw[hv] at hy;injection hy with hy;subst hy
   rw[iP rfl,iP (by rw[a9h,hf];exact(b9u h hu).2)]
  ·have hne:u.toNat≠x.toNat:=fun e=>by
    have h1:=b9u h hu;have h2:=b9u h hx;obtain rfl:u=x:=by omega
    exact hik (d9i h hx hu)
   rw[iN hne];exact c6w h hp hf (by omega) (by omega) hx hy
theorem pigeon:∀(n:Nat) (l:List Nat),l.Nodup→(∀ x∈l,x<n)→l.length≤n
 | 0,[],_,_=>by simp
 | 0,x::l,_,h=>absurd (h x (by simp)) (by omega)
 | n+1,l,hd,h=>by
  by_cases hm:n∈l
  ·have h1:=pigeon n (l.erase n) (hd.erase n) (fun x hx=>by
    have h2:=(hd.mem_erase_iff).1 hx;have h3:=h x h2.2;have:=h2.1
    omega)
   rw[List.length_erase_of_mem hm] at h1;omega
  ·have h1:=pigeon n l hd (fun x hx=>by
    have h3:=h x hx;have:x≠n:=fun e=>hm (e ▸ hx)
    omega)
   omega
theorem d9j (h:TuOk s a){q:Nat}(hq:q<s.length):∃ i:Nat,a[i]?=some (q:Int):=by
 by_cases hm:(q:Int)∈a
 ·obtain⟨i,hi⟩:=List.getElem?_of_mem hm;exact⟨i,hi⟩
 ·exfalso
  have hnd:(q::a.map Int.toNat).Nodup:=by
   rw[List.nodup_cons]
   constructor
   ·intro hx;rw[List.mem_map] at hx;obtain⟨x,hx,hxq⟩:=hx;obtain⟨i,hi⟩:=List.getElem?_of_mem hx;have:=b9u h hi;obtain rfl:x=q:=by omega
    exact hm hx
   ·show List.Pairwise (· ≠ ·) _
    rw[List.pairwise_iff_getElem];intro i j hi hj hij;simp only[List.length_map] at hi hj;simp only[List.getElem_map];intro e;have hx:a[i]?=some a[i]:=List.getElem?_eq_getElem hi;have hy:a[j]?=some a[j]:=List.getElem?_eq_getElem hj;have h1:=b9u h hx;have h2:=b9u h hy;have hxy:a[i]=a[j]:=by omega
    rw[←hxy] at hy;have:=d9i h hx hy;omega
  have:=pigeon s.length _ hnd (fun x hx=>by
   rcases List.mem_cons.1 hx with rfl|hx
   ·exact hq
   ·rw[List.mem_map] at hx;obtain⟨y,hy,rfl⟩:=hx;obtain⟨i,hi⟩:=List.getElem?_of_mem hy
    exact(b9u h hi).2)
  have hl:=h.1;simp at this;omega
def c0u (n:Nat) (a p:List Int):List Int:=b0o (List.replicate n 0) a p a.length
def d9k (s d a:List Int):List Int:=gen (Sh.size (a3u s a)).toNat fun i=>num s d (c0u s.length a (Sh.placeOf (a3u s a) i))
open Classical in
noncomputable def b3y (s d a:List Int):Int × List Int × List Int:=if a0b s d then(if TuOk s a then(0,a3u s a,d9k s d a) else refused 1) else refused 13
theorem c9v (h:a0b s d=false):b3y s d a=refused 13:=by rw[b3y,h];rfl
theorem b9v (h:a0b s d=true)(g:¬ TuOk s a):b3y s d a=refused 1:=by rw[b3y,iP h,iN g]
theorem d1y (h:a0b s d=true)(g:TuOk s a):b3y s d a=(0,a3u s a,d9k s d a):=by rw[b3y,iP h,iP g]
theorem c9w (h:TuOk s a)(hi:(i:Int)<Sh.size (a3u s a)):(c0u s.length a (Sh.placeOf (a3u s a) i)).length=s.length∧Sh.within s (c0u s.length a (Sh.placeOf (a3u s a) i))=true:=by
 obtain⟨_,hl,hw,_⟩:=a1q hi;rw[a4a] at hl;have hlen:(c0u s.length a (Sh.placeOf (a3u s a) i)).length=s.length:=by rw[c0u,a9h,List.length_replicate]
 refine⟨hlen,b0v hlen fun q x y hy hx=>?_⟩;have hqs:q<s.length:=(lL hy);obtain⟨k,hk⟩:=d9j h hqs;have hka:k<a.length:=(lL hk);obtain⟨p,hp⟩:=a0h (l:=Sh.placeOf (a3u s a) i) (k:=k) (by omega);have e:=c6w (f:=List.replicate s.length 0) h hl (by simp) hka (Nat.le_refl _) hk hp;rw[Int.toNat_natCast] at e;rw[c0u,e] at hx;injection hx with hx;subst hx
 exact Sh.within_at hw (c4g hk (by rwa [Int.toNat_natCast])) hp
def e6c (lo hi:List Int) (i:Nat):Prop:=∀ x y,lo[i]?=some x→hi[i]?=some y→0≤x∧0≤y∧x≤32∧y≤32
def b6c (s lo hi:List Int):Prop:=lo.length=s.length∧hi.length=s.length∧∀ i,e6c lo hi i
def padS (s lo hi:List Int):List Int:=List.zipWith (· + ·) (List.zipWith (· + ·) lo s) hi
theorem a9d (h:lo.length=s.length)(g:hi.length=s.length):(padS s lo hi).length=s.length:=by simp[padS];omega
theorem c9d {z:Int}(h:lo[k]?=some x)(g:s[k]?=some y)(f:hi[k]?=some z):(padS s lo hi)[k]?=some (x+y+z):=by simp[padS,List.getElem?_zipWith,h,g,f]
theorem d7x {z:Int}(h:lo[k]?=some x)(g:s[k]?=some y)(f:hi[k]?=some z):(padS s lo hi).take k++[x+y+z]=(padS s lo hi).take (k+1):=by
 rw[List.take_add_one,c9d h g f];rfl
def scat (o d:List Int) (ix:Nat→Nat) (k:Nat):List Int:=(List.range k).foldl (fun o i=>o.set (ix i) (d.getD i 0)) o
theorem c6v {ix:Nat→Nat}(h:d[k]?=some x):(scat o d ix k).set (ix k) x=scat o d ix (k+1):=by
 rw[scat,scat,List.range_succ,List.foldl_append];simp[List.getD_eq_getElem?_getD,h]
theorem b2q (o d:List Int)(ix:Nat→Nat)(k:Nat):(scat o d ix k).length=o.length:=by
 induction k with
 | zero=>rfl
 | succ k ih=>rw[scat,List.range_succ,List.foldl_append];simp only[List.foldl_cons,List.foldl_nil,List.length_set];exact ih
def padD (s d lo hi:List Int) (n:Int):List Int:=scat (List.replicate (Sh.size (padS s lo hi)).toNat n) d (fun i=>(Sh.index (padS s lo hi) (addP (Sh.placeOf s i) lo)).toNat) d.length
open Classical in
noncomputable def padR (s d lo hi:List Int) (n:Int):Int × List Int × List Int:=if a0b s d then(if b6c s lo hi then(if Sh.right (padS s lo hi) then(0,padS s lo hi,padD s d lo hi n) else refused 13) else refused 1) else refused 13
theorem d3n (h:a0b s d=false):padR s d lo hi n=refused 13:=by rw[padR,h];rfl
theorem c3l (h:a0b s d=true)(g:¬ b6c s lo hi):padR s d lo hi n=refused 1:=by rw[padR,iP h,iN g]
theorem b8v (h:a0b s d=true)(g:b6c s lo hi)(k:Sh.right (padS s lo hi)=false):padR s d lo hi n=refused 13:=by rw[padR,iP h,iP g,k];rfl
theorem d7w (h:a0b s d=true)(g:b6c s lo hi)(k:Sh.right (padS s lo hi)=true):padR s d lo hi n=(0,padS s lo hi,padD s d lo hi n):=by rw[padR,iP h,iP g,iP k]
theorem d3o (g:b6c s lo hi)(hi' : (i:Int)<Sh.size s):(addP (Sh.placeOf s i) lo).length=(padS s lo hi).length∧Sh.within (padS s lo hi) (addP (Sh.placeOf s i) lo)=true:=by
 obtain⟨_,hl,hw,_⟩:=a1q hi';have hlen:(addP (Sh.placeOf s i) lo).length=(padS s lo hi).length:=by rw[a6w (by rw[hl,g.1]),hl,a9d g.1 g.2.1]
 refine⟨hlen,b0v hlen fun k x y hy hx=>?_⟩;have hks:k<s.length:=by rw[←a9d g.1 g.2.1];exact(lL hy)
 obtain⟨b,hb⟩:=a0h (l:=lo) (k:=k) (by rw[g.1];exact hks);obtain⟨c,hc⟩:=a0h (l:=hi) (k:=k) (by rw[g.2.1];exact hks);obtain⟨e,he⟩:=a0h hks;obtain⟨p,hp⟩:=a0h (l:=Sh.placeOf s i) (k:=k) (by omega);rw[c9d hb he hc] at hy;injection hy with hy;subst hy
 rw[c2l hp hb] at hx;injection hx with hx;subst hx
 have h1:=g.2.2 k b c hb hc;have h2:=Sh.within_at hw he hp;omega
abbrev TL:=List (List Int × List Int)
def tot (ax:Nat) (l:TL):Int:=l.foldl (fun a t=>a+t.1.getD ax 0) 0
theorem c4f {l:TL}(h:l[i]?=some t)(g:t.1[ax]?=some x):tot ax (l.take (i+1))=tot ax (l.take i)+x:=by
 rw[tot,tot,List.take_add_one,h,List.foldl_append];simp[List.getD_eq_getElem?_getD,g]
theorem c2w {ax:Nat}:∀ {l:TL} (_:∀ t∈l,0≤t.1.getD ax 0) (a:Int),a≤l.foldl (fun a t=>a+t.1.getD ax 0) a
 | [],_,a=>by simp
 | t::l,h,a=>by
  have h1:=h t (by simp);have h2:=c2w (l:=l) (fun t ht=>h t (by simp[ht])) (a+t.1.getD ax 0);rw[List.foldl_cons];omega
theorem e3l {l:TL}(h:∀ t∈l,0≤t.1.getD ax 0)(i:Nat):0≤tot ax (l.take i)∧tot ax (l.take i)≤tot ax l:=by
 refine⟨?_,?_⟩
 ·exact c2w (fun t ht=>h t (List.mem_of_mem_take ht)) 0
 ·have e:tot ax l=(l.drop i).foldl (fun a t=>a+t.1.getD ax 0) (tot ax (l.take i)):=by
   rw[tot,tot,←List.foldl_append,List.take_append_drop]
  rw[e];exact c2w (fun t ht=>h t (List.mem_of_mem_drop ht)) _
def c0c (s:List Int) (ax:Nat) (t:List Int):Prop:=t.length=s.length∧∀(k:Nat) (x y:Int),k≠ax→t[k]?=some x→s[k]?=some y→x=y
def a6a (l:TL):Prop:=∀ t∈l,a0b t.1 t.2=true
def axOk (ax:Int) (l:TL):Prop:=∃ t,l[0]?=some t∧0≤ax∧ax<t.1.length
def a9m (l:TL):List Int:=match l with | []=>[]|t::_=>t.1
def a5h (ax:Nat) (l:TL):List Int:=(a9m l).set ax (tot ax l)
def c2k (p:List Int) (ax:Nat) (h:Int):List Int:=p.set ax (p.getD ax 0+h)
def b7t (s:List Int) (ax:Nat) (t:List Int) (h:Int) (k:Nat):Nat:=(Sh.index s (c2k (Sh.placeOf t k) ax h)).toNat
def a7p (ax:Nat) (l:TL) (i:Nat):List Int:=(List.range i).foldl (fun o i=>scat o (l.getD i ([],[])).2 (b7t (a5h ax l) ax (l.getD i ([],[])).1 (tot ax (l.take i))) (l.getD i ([],[])).2.length) (List.replicate (Sh.size (a5h ax l)).toNat 0)
theorem b7u (ax:Nat)(l:TL):a7p ax l 0=List.replicate (Sh.size (a5h ax l)).toNat 0:=rfl
theorem c8s {l:TL}(h:l[i]?=some t):a7p ax l (i+1)=scat (a7p ax l i) t.2 (b7t (a5h ax l) ax t.1 (tot ax (l.take i))) t.2.length:=by
 rw[a7p,a7p,List.range_succ,List.foldl_append];simp[List.getD_eq_getElem?_getD,h]
theorem c3a (ax:Nat)(l:TL)(i:Nat):(a7p ax l i).length=(Sh.size (a5h ax l)).toNat:=by
 induction i with
 | zero=>rw[b7u,List.length_replicate]
 | succ i ih=>rw[a7p,List.range_succ,List.foldl_append];simp only[List.foldl_cons,List.foldl_nil];rw[b2q];exact ih
def c0v (ax:Nat) (l:TL):Prop:=(∀ t∈l,c0c (a9m l) ax t.1)∧Sh.right (a5h ax l)=true
open Classical in
noncomputable def a9t (ax:Int) (l:TL):Int × List Int × List Int:=if a6a l then(if axOk ax l then(if c0v ax.toNat l then(0,a5h ax.toNat l,a7p ax.toNat l l.length) else refused 13) else refused 1) else refused 13
theorem c8r {ax:Int}{l:TL}(h:¬ a6a l):a9t ax l=refused 13:=by rw[a9t,iN h]
theorem b3e {ax:Int}{l:TL}(h:a6a l)(g:¬ axOk ax l):a9t ax l=refused 1:=by rw[a9t,iP h,iN g]
theorem a5v {ax:Int}{l:TL}(h:a6a l)(g:axOk ax l)(k:¬ c0v ax.toNat l):a9t ax l=refused 13:=by rw[a9t,iP h,iP g,iN k]
theorem d0u {ax:Int}{l:TL}(h:a6a l)(g:axOk ax l)(k:c0v ax.toNat l):a9t ax l=(0,a5h ax.toNat l,a7p ax.toNat l l.length):=by rw[a9t,iP h,iP g,iP k]
theorem b1n (h:a0b s d=true)(k:Nat):0≤s.getD k 0∧s.getD k 0≤32:=by
 rw[gD]
 cases e:s[k]? with
 | none=>simp
 | some x=>exact(Sh.right_iff.1 (a3o h)).2.1 x (mG e)
theorem b6x {l:TL}(h:a6a l)(ax i:Nat):0≤tot ax (l.take i)∧tot ax (l.take i)≤tot ax l:=e3l (fun t ht=>(b1n (h t ht) ax).1) i
theorem b5j (ax:Nat)(l:TL):(a5h ax l).length=(a9m l).length:=by simp[a5h]
theorem d6o {l:TL}(h:a6a l)(hx:ax<(a9m l).length)(hi:32<tot ax (l.take i)):¬ c0v ax l:=fun hk=>by
 have h1:=b6x h ax i
 have h2:=(Sh.right_iff.1 hk.2).2.1 (tot ax l) (by
  rw[a5h];exact List.mem_set hx _)
 omega
theorem c4u (p:List Int)(ax:Nat)(h:Int):(c2k p ax h).length=p.length:=by simp[c2k]
theorem c8t {l:TL}(h:a6a l)(hk:c0v ax l)(hx:ax<(a9m l).length)(ht:l[i]?=some t)(hkz:(k:Int)<Sh.size t.1):
  (c2k (Sh.placeOf t.1 k) ax (tot ax (l.take i))).length=(a5h ax l).length∧Sh.within (a5h ax l) (c2k (Sh.placeOf t.1 k) ax (tot ax (l.take i)))=true:=by
 obtain⟨_,hl,hw,_⟩:=a1q hkz;have hf:=hk.1 t (mG ht);have hlen:(c2k (Sh.placeOf t.1 k) ax (tot ax (l.take i))).length=(a5h ax l).length:=by rw[c4u,b5j,hl,hf.1]
 refine⟨hlen,b0v hlen fun q x y hy hx'=>?_⟩;have hql:q<t.1.length:=by rw[hf.1,←b5j ax l];exact(lL hy)
 obtain⟨z,hz⟩:=a0h hql;obtain⟨p,hp⟩:=a0h (l:=Sh.placeOf t.1 k) (k:=q) (by omega);have hwp:=Sh.within_at hw hz hp;rw[c2k,List.getElem?_set] at hx';rw[a5h,List.getElem?_set] at hy;by_cases hq:ax=q
 ·subst hq;rw[iP rfl,iP (by omega)] at hx';rw[iP rfl,iP hx] at hy;injection hx' with hx';injection hy with hy
  subst hx';subst hy;rw[gD,hp];have h1:=b6x h ax (i+1);have h2:=b6x h ax i;rw[c4f ht hz] at h1;simp only[Option.getD_some];omega
 ·rw[iN hq,hp] at hx';rw[iN hq] at hy;injection hx' with hx';subst hx'
  have:=hf.2 q z y (Ne.symm hq) hz hy;omega
end Go.Proofs.YtdcmanhgekjhgaaGreatDoor
