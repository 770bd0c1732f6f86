import Derived.Test.YtnnmplkgenhofaaGreatPaa
import Derived.Test.YtnnmplkgenhofaaGreatPab
import Derived.Test.YtnnmplkgenhofaaGreatPac
import Derived.Test.YtnnmplkgenhofaaGreatPad
import Derived.Test.YtnnmplkgenhofaaGreatPae
set_option maxRecDepth 100000
set_option maxHeartbeats 12800000
namespace Go.Proofs.YtnnmplkgenhofaaGreat
open Go.RowKit
def MakesO (w:World) (t:TypeId) (xs:List Int) (e:Ending) (w' : World):Prop:=(∃ v n,e=.returned v∧OwnS w' w.heap.size t v n xs)∧Below w.heap.size w w'
theorem MakesO.none_ (w:World) (t:TypeId):MakesO w t [] (.returned (.slice none 0 0)) w:=⟨⟨_,_,rfl,OwnS.nil_ _ _ _⟩,Below.refl _ _⟩
theorem MakesO.own {w w' : World} {g n c:Nat} {t:TypeId} {xs:List Int} (h:Own w' w.heap.size t g n c xs) (hb:Below w.heap.size w w'):MakesO w t xs (.returned (.slice (some ⟨g,0,none⟩) n c)) w' := ⟨⟨_,_,rfl,h⟩,hb⟩
theorem sep_ret2 {fn:Func} {R:Ending→World→Prop} {a:Act} {w0 w:World} {l:List Chunk} {p u:Tmp} {g:Nat} {x y z:Value} (H:Sep w0 w l) (i:Nat) (hi:l[i]? = some (.box g 71 [x,y]))
  (h:fn.results=#[.cell p 71,.tmp u]) (hp:a.tmps.getD p undef=.pointer (some ⟨g,0,none⟩)) (hz:a.tmps.getD u undef=z) (hd:a.defers=[]) (hR:R (.returned (.tuple #[.agg #[x,y],z])) w):bodyPost Tryz.prog fn R .ret a w :=
 ret_ten2 g x y z h hp hz (H.heap i hi) hd hR
theorem Sep.addTen {w0 w w' : World} {l:List Chunk} {u:Value} {s d:List Int} (h:Sep w0 w l) (hb:Below w.heap.size w w') (hu:OTen w' w.heap.size u s d) :
  ∃ S ns sc D nd dc,u=.agg #[.slice S ns sc,.slice D nd dc]∧s.length=ns∧d.length=nd∧ns≤sc∧nd≤dc∧nd≤9223372036854775807∧Sep w0 w' (.own 3 (.slice S ns sc) ns s::.own 2 (.slice D nd dc) nd d::l):=by
 obtain⟨vs,vd,ns,nd,rfl,h1,h2⟩:=hu;obtain⟨S,sc,rfl,hs,_,_⟩:=h1.form;obtain⟨D,dc,rfl,hd,_,_⟩:=h2.form;exact⟨S,ns,sc,D,nd,dc,rfl,h1.len,h2.len,hs,hd,h2.2.2,h.addOwn2 hb h1 h2 (Ne.symm ty_ne.1)⟩
theorem refPlace_own {w:World} {A:Option Addr} {n c:Nat} {xs:List Int} (i:Int) (h:Ints w A n xs) (hif:Fits i) :
  Calls Tryz.prog 93 #[.slice A n c,.int .i64 i] w fun e w' => MakesO w 3 (Sh.placeOf xs i) e w' := by
 have hn:=h.len;have hle:=h.le;have hsb:=Sh.size_bd xs;obtain⟨hsb1,hsb2⟩:=hsb;obtain⟨hi1,hi2⟩:=hif;by_cases hok:0≤i∧i<Sh.size xs
 ·obtain⟨hr,hd⟩:=Sh.size_pos hok.1 hok.2;have HP:=Hd (p:=Sh.placeOf xs i=Sh.place xs i) (by rw[Sh.placeOf,if_pos hok]);obtain⟨hi0,his⟩:=hok;have hl4:=(Sh.right_iff.1 hr).1;have hn4:n≤4:=by omega
  have HD:Hid (∀ x∈xs,0≤x∧x≤32):=Hd fun x hx=>⟨by have:=hd x hx;omega,(hd x hx).2⟩
  have H1:=Hd hn;clear hn;have HR:=Hd hr;clear hr;have HE:=Hd hd;clear hd;obtain⟨i0,hi,hz0,hz1,hz2⟩:=info_parts Tryz.infoInt;rw[HP.out]
  go_enter Tryz.func93,Tryz.ntmps93
  go_wp2_with (first|(go_at_call 14;refine(refSize_any h).mono ?_;rintro e w' ⟨rfl,rfl⟩)|(at_make;refine wpList_make_full _ rfl _ _ _ rfl _ _ i0 (.int .i64 0) 1 Tryz.underlying22 hi hz0 hz1 .i64 .i64 _ _ n rfl rfl rfl rfl ?c1 ?c2 (Nat.le_refl _) ?_))
  case c1=>rw[hz2];omega
  case c2=>unfold maxLen;omega
  intro w1 hown hgr;have hO:=own_make (by omega) hown;have hB:Below w.heap.size w w1:=(Below.refl _ _).grown hgr (Nat.le_refl _) (by simp);have hsz:=hgr.size;clear hown hgr;go_wp2
  go_loopw [1,6] (fun p a wr=>∃(m:Nat) (k:Int),k+1=m∧m≤n∧a=.int .i64 k∧p=.int .i64 (i / Sh.pd (xs.drop m))∧∃ ys,Own wr w.heap.size 3 w.heap.size n n ys∧From m ys (Sh.place xs i)∧Below w.heap.size w wr) (fun _ a _=>(intOf a+1).toNat)
  case atStart =>
   refine⟨n,_,by omega,by omega,rfl,?_,_,hO,⟨?_,?_⟩,hB⟩
   ·rw[List.drop_eq_nil_of_le (by have:=H1.out;omega)];simp[Sh.pd]
   ·simp[Sh.place_length,H1.out]
   ·intro j hj;rw[List.getElem?_eq_none (by simp;omega),List.getElem?_eq_none (by rw[Sh.place_length,H1.out];omega)]
  case round =>
   clear hO hB hsz;obtain⟨m,k,hkm,hk2,rfl,rfl,ys,hO,hF,hB⟩:=hrel;by_cases hk0:0≤k
   ·obtain⟨m,rfl⟩:=Int.eq_ofNat_of_zero_le hk0;rename_i m0;obtain rfl:m0=m+1:=by omega
    have hmn:m<n:=by omega
    have h' := h.below hB;obtain⟨ad,x,rfl,hb,hx,hc,hf⟩:=h'.at_ hmn;obtain⟨hx1,hx2⟩:=HE.out x (List.mem_of_getElem? hx);have hc2:wr.cell? ⟨w.heap.size,m,none⟩=some (.int .i64 (ys.getD m 0)):=hO.cell (by have:=hO.len;simp[List.getElem?_eq_getElem (by omega:m<ys.length)]);have hfz:=hO.frozen m;have hq:=Sh.pd_small HD.out hl4 (m+1);have hd0:0≤i / Sh.pd (xs.drop (m+1)):=Int.ediv_nonneg hi0 hq.1;have hd1:i / Sh.pd (xs.drop (m+1))≤9223372036854775807:=Int.le_trans (Int.ediv_le_self _ hi0) hi2;have hm0:0≤i / Sh.pd (xs.drop (m+1)) % x:=Int.emod_nonneg _ (by omega);have hm1:i / Sh.pd (xs.drop (m+1)) % x<x:=Int.emod_lt_of_pos _ (by omega);have HS:=Hd (Sh.left_step (i:=i) hx HD.out);have hO2:=hO.store m (u:=i / Sh.pd (xs.drop (m+1)) % x) ⟨by omega,by omega⟩;have hF2:=hF.set_ (Sh.place_at (i:=i) hx);have hB2:=hB.setCell (p:=⟨w.heap.size,m,none⟩) (Nat.le_refl _) (.int .i64 (i / Sh.pd (xs.drop (m+1)) % x));have hc3:(wr.setCell ⟨w.heap.size,m,none⟩ (.int .i64 (i / Sh.pd (xs.drop (m+1)) % x))).cell? (ad.add m)=some (.int .i64 x):=(h.below hB2).get hx;have HX:=Hd hx;clear hx hkm hk0 hO hF hB h' hq;go_wp2;go_roundw
    case rel=>exact⟨m,_,by omega,by omega,rfl,by rw[HS.out],_,hO2,hF2,hB2⟩
    case measure=>simp[intOf]
   ·obtain rfl:m=0:=by omega
    obtain rfl:k = -1:=by omega
    have HF:=Hd hF;clear hF;go_wp2;go_ret;rw[← HF.out.zero];exact MakesO.own hO hB
 ·have HP:=Hd (p:=Sh.placeOf xs i=[]) (by rw[Sh.placeOf,if_neg hok]);rw[HP.out];have H1:=Hd hn;clear hn;by_cases hi0:i<0
  ·go_enter Tryz.func93,Tryz.ntmps93
   go_wp2_with (go_at_call 14;refine(refSize_any h).mono ?_;rintro e w' ⟨rfl,rfl⟩)
   go_ret;exact MakesO.none_ w _
  ·have hi3:Sh.size xs≤i:=by omega
   clear hok
   go_enter Tryz.func93,Tryz.ntmps93
   go_wp2_with (go_at_call 14;refine(refSize_any h).mono ?_;rintro e w' ⟨rfl,rfl⟩)
   go_ret;exact MakesO.none_ w _
def gen (n:Nat) (f:Nat→Int):List Int:=(List.range n).map f
theorem gen_length (n:Nat) (f:Nat→Int):(gen n f).length=n:=by simp[gen]
theorem gen_at {n:Nat} {f:Nat→Int} {j:Nat} (h:j<n):(gen n f)[j]? = some (f j):=by simp[gen,List.getElem?_range h]
def num (s d p:List Int):Int:=d.getD (Sh.index s p).toNat 0
theorem index_lt {s p:List Int} (hr:Sh.right s=true) (hl:p.length=s.length) (h:Sh.within s p=true):0≤Sh.index s p∧Sh.index s p<Sh.size s:=by
 rw[Sh.index_of hr hl h,Sh.size_of hr];have:=Sh.hor_bd h hl.symm;omega
theorem num_at {s d p:List Int} (hr:tenRight s d=true) (hl:p.length=s.length) (h:Sh.within s p=true):∃ k:Nat,Sh.index s p=k∧k<d.length∧d[k]? = some (num s d p):=by
 obtain⟨h0,h1⟩:=index_lt (right_of hr) hl h;have h2:=len_right hr;refine⟨(Sh.index s p).toNat,by omega,by omega,?_⟩;rw[num,List.getD_eq_getElem?_getD,List.getElem?_eq_getElem (by omega)];rfl
theorem num_fits {s d p:List Int} (hf:∀ x∈d,Fits x):Fits (num s d p):=by
 unfold num;rw[List.getD_eq_getElem?_getD]
 cases h:d[(Sh.index s p).toNat]? with
 | none=>exact⟨by simp,by simp⟩
 | some x=>exact hf x (List.mem_of_getElem? h)
theorem within_of {s p:List Int} (_hl:p.length=s.length) (h:∀(k:Nat) (x y:Int),s[k]? = some y→p[k]? = some x→0≤x∧x<y):Sh.within s p=true:=by
 rw[Sh.within_iff];intro z hz;obtain⟨k,hk⟩:=List.getElem?_of_mem hz;rw[List.getElem?_zip_eq_some] at hk;exact h k z.2 z.1 hk.1 hk.2
theorem placeOf_of {s:List Int} {i:Nat} (h:(i:Int)<Sh.size s):Sh.placeOf s i=Sh.place s i∧(Sh.placeOf s i).length=s.length∧Sh.within s (Sh.placeOf s i)=true∧Sh.right s=true:=by
 obtain⟨hr,hd⟩:=Sh.size_pos (by omega:(0:Int)≤i) h;have e:=Sh.placeOf_place (by omega:(0:Int)≤i) h;rw[e];exact⟨rfl,Sh.place_length _ _,Sh.within_place hd _,hr⟩
def cutOk:List Int→List Int→List Int→Bool
 | [],[],[]=>true
 | n::s,f::fs,z::zs=>decide (0≤f) && decide (0≤z) && decide (f≤n) && decide (z≤n-f) && cutOk s fs zs
 | _,_,_=>false
theorem cutOk_len:∀ {s f z:List Int},cutOk s f z=true→f.length=s.length∧z.length=s.length
 | [],[],[],_=>⟨rfl,rfl⟩
 | _::s,_::f,_::z,h=>by
  simp only[cutOk,Bool.and_eq_true] at h;obtain⟨h1,h2⟩:=cutOk_len h.2
  simp[h1,h2]
 | [],_::_,_,h=>by simp[cutOk] at h
 | [],[],_::_,h=>by simp[cutOk] at h
 | _::_,[],_,h=>by simp[cutOk] at h
 | _::_,_::_,[],h=>by simp[cutOk] at h
theorem cutOk_at:∀ {s f z:List Int},cutOk s f z=true→∀ {k:Nat} {a b c:Int},s[k]? = some a→f[k]? = some b→z[k]? = some c→0≤b∧0≤c∧b≤a∧c≤a-b
 | [],[],[],_,k,a,b,c,ha,_,_=>by simp at ha
 | n::s,x::f,y::z,h,k,a,b,c,ha,hb,hc=>by
  simp only[cutOk,Bool.and_eq_true,decide_eq_true_eq] at h
  cases k with
  | zero=>simp at ha hb hc;subst ha;subst hb;subst hc;omega
  | succ k=>exact cutOk_at h.2 (by simpa using ha) (by simpa using hb) (by simpa using hc)
 | [],_::_,_,h,_,_,_,_,_,_,_=>by simp[cutOk] at h
 | [],[],_::_,h,_,_,_,_,_,_,_=>by simp[cutOk] at h
 | _::_,[],_,h,_,_,_,_,_,_,_=>by simp[cutOk] at h
 | _::_,_::_,[],h,_,_,_,_,_,_,_=>by simp[cutOk] at h
theorem cutOk_all:∀ {s f z:List Int},f.length=s.length→z.length=s.length→(∀(k:Nat) (a b c:Int),s[k]? = some a→f[k]? = some b→z[k]? = some c→0≤b∧0≤c∧b≤a∧c≤a-b)→cutOk s f z=true
 | [],[],[],_,_,_=>rfl
 | n::s,x::f,y::z,h1,h2,h=>by
  have h0:=h 0 n x y rfl rfl rfl;simp only[cutOk,Bool.and_eq_true,decide_eq_true_eq]
  exact⟨⟨⟨⟨h0.1,h0.2.1⟩,h0.2.2.1⟩,h0.2.2.2⟩,cutOk_all (by simpa using h1) (by simpa using h2) fun k a b c ha hb hc=>h (k+1) a b c (by simpa using ha) (by simpa using hb) (by simpa using hc)⟩
 | [],_::_,_,h,_,_=>by simp at h
 | [],[],_::_,_,h,_=>by simp at h
 | _::_,[],_,h,_,_=>by simp at h
 | _::_,_::_,[],_,h,_=>by simp at h
def addP (p f:List Int):List Int:=List.zipWith (· + ·) p f
def cutD (s d f z:List Int):List Int:=gen (Sh.size z).toNat fun i=>num s d (addP (Sh.placeOf z i) f)
def cutR (s d f z:List Int):Int × List Int × List Int:=if tenRight s d then(if cutOk s f z then(0,z,cutD s d f z) else refused 1) else refused 13
theorem cutR_shape {s d f z:List Int} (h:tenRight s d=false):cutR s d f z=refused 13:=by simp[cutR,h]
theorem cutR_arg {s d f z:List Int} (h:tenRight s d=true) (g:cutOk s f z=false):cutR s d f z=refused 1:=by simp[cutR,h,g]
theorem cutR_ok {s d f z:List Int} (h:tenRight s d=true) (g:cutOk s f z=true):cutR s d f z=(0,z,cutD s d f z):=by simp[cutR,h,g]
theorem addP_length {p f:List Int} (h:f.length=p.length):(addP p f).length=p.length:=by simp[addP,h]
theorem addP_at {p f:List Int} {k:Nat} {x y:Int} (h:p[k]? = some x) (g:f[k]? = some y):(addP p f)[k]? = some (x+y):=by simp[addP,List.getElem?_zipWith,h,g]
theorem getElem_of {α : Type} {l:List α} {k:Nat} (h:k<l.length):∃ x,l[k]? = some x:=⟨_,List.getElem?_eq_getElem h⟩
theorem cut_within {s f z:List Int} (h:cutOk s f z=true) {i:Nat} (hi:(i:Int)<Sh.size z):(addP (Sh.placeOf z i) f).length=s.length∧Sh.within s (addP (Sh.placeOf z i) f)=true:=by
 obtain⟨hf,hz⟩:=cutOk_len h;obtain⟨_,hl,hw,_⟩:=placeOf_of hi;have hlen:(addP (Sh.placeOf z i) f).length=s.length:=by rw[addP_length (by omega)];omega
 refine⟨hlen,within_of hlen fun k x y hy hx=>?_⟩;have hks:k<s.length:=(List.getElem?_eq_some_iff.1 hy).1;obtain⟨b,hb⟩:=getElem_of (l:=f) (k:=k) (by omega);obtain⟨c,hc⟩:=getElem_of (l:=z) (k:=k) (by omega);obtain⟨p,hp⟩:=getElem_of (l:=Sh.placeOf z i) (k:=k) (by omega);rw[addP_at hp hb] at hx;injection hx with hx;subst hx
 have h1:=cutOk_at h hy hb hc;have h2:=Sh.within_at hw hc hp;omega
def SpAt (s o a:List Int) (i:Nat):Prop:=∀ x y,a[i]? = some x→s[i]? = some y→0≤x∧x<o.length∧(∀ z,0<i→a[i-1]? = some z→z<x)∧o[x.toNat]? = some y
def SpOk (s o a:List Int):Prop:=a.length=s.length∧∀ i,SpAt s o a i
def spP (p a:List Int):List Int:=a.map fun x=>p.getD x.toNat 0
def spD (s d o a:List Int):List Int:=gen (Sh.size o).toNat fun i=>num s d (spP (Sh.placeOf o i) a)
open Classical in
noncomputable def spR (s d o a:List Int):Int × List Int × List Int:=if tenRight s d && Sh.right o then(if SpOk s o a then(0,o,spD s d o a) else refused 1) else refused 13
theorem spR_shape {s d o a:List Int} (h:(tenRight s d && Sh.right o)=false):spR s d o a=refused 13:=by rw[spR,h];rfl
theorem spR_arg {s d o a:List Int} (h:(tenRight s d && Sh.right o)=true) (g:¬ SpOk s o a):spR s d o a=refused 1:=by rw[spR,if_pos h,if_neg g]
theorem spR_ok {s d o a:List Int} (h:(tenRight s d && Sh.right o)=true) (g:SpOk s o a):spR s d o a=(0,o,spD s d o a):=by rw[spR,if_pos h,if_pos g]
theorem spP_length (p a:List Int):(spP p a).length=a.length:=by simp[spP]
theorem spP_at {p a:List Int} {k:Nat} {x y:Int} (h:a[k]? = some x) (g:p[x.toNat]? = some y):(spP p a)[k]? = some y:=by simp[spP,h,List.getD_eq_getElem?_getD,g]
theorem spP_take {p a:List Int} {k:Nat} {x y:Int} (h:a[k]? = some x) (g:p[x.toNat]? = some y):(spP p a).take k++[y]=(spP p a).take (k+1):=by
 rw[List.take_add_one,spP_at h g];rfl
theorem sp_in {s o a:List Int} (h:SpOk s o a) {k:Nat} {x:Int} (hx:a[k]? = some x):0≤x∧x.toNat<o.length:=by
 have hk:k<s.length:=by rw[← h.1];exact(List.getElem?_eq_some_iff.1 hx).1
 obtain⟨y,hy⟩:=getElem_of hk;have:=h.2 k x y hx hy;omega
theorem sp_within {s o a:List Int} (h:SpOk s o a) {i:Nat} (hi:(i:Int)<Sh.size o):(spP (Sh.placeOf o i) a).length=s.length∧Sh.within s (spP (Sh.placeOf o i) a)=true:=by
 obtain⟨_,hl,hw,_⟩:=placeOf_of hi;have hlen:(spP (Sh.placeOf o i) a).length=s.length:=by rw[spP_length,h.1]
 refine⟨hlen,within_of hlen fun k x y hy hx=>?_⟩;have hks:k<s.length:=(List.getElem?_eq_some_iff.1 hy).1;obtain⟨z,hz⟩:=getElem_of (l:=a) (k:=k) (by rw[h.1];exact hks);have hz2:=sp_in h hz;obtain⟨p,hp⟩:=getElem_of (l:=Sh.placeOf o i) (k:=z.toNat) (by omega);rw[spP_at hz hp] at hx;injection hx with hx;subst hx
 exact Sh.within_at hw (h.2 k z y hz hy).2.2.2 hp
def TuAt (s a:List Int) (i:Nat):Prop:=∀ x,a[i]? = some x→0≤x∧x<s.length∧x∉a.take i
def TuOk (s a:List Int):Prop:=a.length=s.length∧∀ i,TuAt s a i
def marks (n:Nat) (l:List Int):List Int:=gen n fun q=>if (q:Int)∈l then 1 else 0
theorem marks_nil (n:Nat):marks n []=List.replicate n 0:=by
 apply List.ext_getElem?;intro i;rcases Nat.lt_or_ge i n with h|h
 ·rw[marks,gen_at h,List.getElem?_replicate,if_pos h];simp
 ·rw[List.getElem?_eq_none (by rw[marks,gen_length];exact h),List.getElem?_eq_none (by simpa using h)]
theorem marks_length (n:Nat) (l:List Int):(marks n l).length=n:=gen_length _ _
theorem marks_at {n:Nat} {l:List Int} {x:Int} (h0:0≤x) (h1:x<n):(marks n l)[x.toNat]? = some (if x∈l then 1 else 0):=by
 rw[marks,gen_at (by omega),Int.toNat_of_nonneg h0]
theorem marks_set {n:Nat} {l:List Int} {x:Int} (h0:0≤x) (h1:x<n):(marks n l).set x.toNat 1=marks n (l++[x]):=by
 apply List.ext_getElem?;intro i;rw[List.getElem?_set];by_cases hi:x.toNat=i
 ·subst hi;rw[if_pos rfl,if_pos (by rw[marks_length];omega),marks_at h0 h1];simp
 ·rw[if_neg hi];rcases Nat.lt_or_ge i n with h|h
  ·rw[marks,marks,gen_at h,gen_at h];have:(i:Int)≠x:=by omega
   simp[this]
  ·rw[List.getElem?_eq_none (by rw[marks_length];exact h),List.getElem?_eq_none (by rw[marks_length];exact h)]
def turnS (s a:List Int):List Int:=a.map fun x=>s.getD x.toNat 0
theorem turnS_length (s a:List Int):(turnS s a).length=a.length:=by simp[turnS]
theorem turnS_at {s a:List Int} {k:Nat} {x y:Int} (h:a[k]? = some x) (g:s[x.toNat]? = some y):(turnS s a)[k]? = some y:=by simp[turnS,h,List.getD_eq_getElem?_getD,g]
theorem turnS_take {s a:List Int} {k:Nat} {x y:Int} (h:a[k]? = some x) (g:s[x.toNat]? = some y):(turnS s a).take k++[y]=(turnS s a).take (k+1):=by
 rw[List.take_add_one,turnS_at h g];rfl
def setAll (f a p:List Int) (k:Nat):List Int:=(List.range k).foldl (fun f i=>f.set (a.getD i 0).toNat (p.getD i 0)) f
theorem setAll_step {f a p:List Int} {k:Nat} {x y:Int} (h:a[k]? = some x) (g:p[k]? = some y):(setAll f a p k).set x.toNat y=setAll f a p (k+1):=by
 rw[setAll,setAll,List.range_succ,List.foldl_append];simp[List.getD_eq_getElem?_getD,h,g]
theorem setAll_length (f a p:List Int) (k:Nat):(setAll f a p k).length=f.length:=by
 induction k with
 | zero=>rfl
 | succ k ih=>rw[setAll,List.range_succ,List.foldl_append];simp only[List.foldl_cons,List.foldl_nil,List.length_set];exact ih
theorem tu_in {s a:List Int} (h:TuOk s a) {k:Nat} {x:Int} (hx:a[k]? = some x):0≤x∧x.toNat<s.length:=by
 have:=h.2 k x hx;omega
theorem tu_inj {s a:List Int} (h:TuOk s a) {k m:Nat} {x:Int} (hk:a[k]? = some x) (hm:a[m]? = some x):k=m:=by
 have key:∀ {i j:Nat},i<j→a[i]? = some x→a[j]? = some x→False:=fun {i j} hij hi hj =>
  (h.2 j x hj).2.2 (List.mem_of_getElem? (i:=i) (by rw[List.getElem?_take,if_pos hij];exact hi))
 rcases Nat.lt_trichotomy k m with h1|h1|h1
 ·exact(key h1 hk hm).elim
 ·exact h1
 ·exact(key h1 hm hk).elim
theorem setAll_at {s a p f:List Int} (h:TuOk s a) (hp:p.length=a.length) (hf:f.length=s.length):∀ {k i:Nat} {x y:Int},i<k→k≤a.length→a[i]? = some x→p[i]? = some y→(setAll f a p k)[x.toNat]? = some y
 | 0,_,_,_,h', _,_,_=>absurd h' (by omega)
 | k+1,i,x,y,hi,hk,hx,hy=>by
  obtain⟨u,hu⟩:=getElem_of (l:=a) (k:=k) (by omega);obtain⟨v,hv⟩:=getElem_of (l:=p) (k:=k) (by omega);rw[← setAll_step hu hv,List.getElem?_set];by_cases hik:i=k
  ·subst hik;rw[hu] at hx;injection hx with hx;subst hx
   rw[hv] at hy;injection hy with hy;subst hy
   rw[if_pos rfl,if_pos (by rw[setAll_length,hf];exact(tu_in h hu).2)]
  ·have hne:u.toNat≠x.toNat:=fun e=>by
    have h1:=tu_in h hu;have h2:=tu_in h hx;obtain rfl:u=x:=by omega
    exact hik (tu_inj h hx hu)
   rw[if_neg hne];exact setAll_at h hp hf (by omega) (by omega) hx hy
theorem pigeon:∀(n:Nat) (l:List Nat),l.Nodup→(∀ x∈l,x<n)→l.length≤n
 | 0,[],_,_=>by simp
 | 0,x::l,_,h=>absurd (h x (by simp)) (by omega)
 | n+1,l,hd,h=>by
  by_cases hm:n∈l
  ·have h1:=pigeon n (l.erase n) (hd.erase n) (fun x hx=>by
    have h2:=(hd.mem_erase_iff).1 hx;have h3:=h x h2.2;have:=h2.1
    omega)
   rw[List.length_erase_of_mem hm] at h1;omega
  ·have h1:=pigeon n l hd (fun x hx=>by
    have h3:=h x hx;have:x≠n:=fun e=>hm (e ▸ hx)
    omega)
   omega
theorem tu_onto {s a:List Int} (h:TuOk s a) {q:Nat} (hq:q<s.length):∃ i:Nat,a[i]? = some (q:Int):=by
 by_cases hm:(q:Int)∈a
 ·obtain⟨i,hi⟩:=List.getElem?_of_mem hm;exact⟨i,hi⟩
 ·exfalso
  have hnd:(q::a.map Int.toNat).Nodup:=by
   rw[List.nodup_cons]
   constructor
   ·intro hx;rw[List.mem_map] at hx;obtain⟨x,hx,hxq⟩:=hx;obtain⟨i,hi⟩:=List.getElem?_of_mem hx;have:=tu_in h hi;obtain rfl:x=q:=by omega
    exact hm hx
   ·show List.Pairwise (· ≠ ·) _
    rw[List.pairwise_iff_getElem];intro i j hi hj hij;simp only[List.length_map] at hi hj;simp only[List.getElem_map];intro e;have hx:a[i]? = some a[i]:=List.getElem?_eq_getElem hi;have hy:a[j]? = some a[j]:=List.getElem?_eq_getElem hj;have h1:=tu_in h hx;have h2:=tu_in h hy;have hxy:a[i]=a[j]:=by omega
    rw[← hxy] at hy;have:=tu_inj h hx hy;omega
  have:=pigeon s.length _ hnd (fun x hx=>by
   rcases List.mem_cons.1 hx with rfl|hx
   ·exact hq
   ·rw[List.mem_map] at hx;obtain⟨y,hy,rfl⟩:=hx;obtain⟨i,hi⟩:=List.getElem?_of_mem hy
    exact(tu_in h hi).2)
  have hl:=h.1;simp at this;omega
def turnP (n:Nat) (a p:List Int):List Int:=setAll (List.replicate n 0) a p a.length
def turnD (s d a:List Int):List Int:=gen (Sh.size (turnS s a)).toNat fun i=>num s d (turnP s.length a (Sh.placeOf (turnS s a) i))
open Classical in
noncomputable def turnR (s d a:List Int):Int × List Int × List Int:=if tenRight s d then(if TuOk s a then(0,turnS s a,turnD s d a) else refused 1) else refused 13
theorem turnR_shape {s d a:List Int} (h:tenRight s d=false):turnR s d a=refused 13:=by rw[turnR,h];rfl
theorem turnR_arg {s d a:List Int} (h:tenRight s d=true) (g:¬ TuOk s a):turnR s d a=refused 1:=by rw[turnR,if_pos h,if_neg g]
theorem turnR_ok {s d a:List Int} (h:tenRight s d=true) (g:TuOk s a):turnR s d a=(0,turnS s a,turnD s d a):=by rw[turnR,if_pos h,if_pos g]
theorem turn_within {s a:List Int} (h:TuOk s a) {i:Nat} (hi:(i:Int)<Sh.size (turnS s a)):(turnP s.length a (Sh.placeOf (turnS s a) i)).length=s.length∧Sh.within s (turnP s.length a (Sh.placeOf (turnS s a) i))=true:=by
 obtain⟨_,hl,hw,_⟩:=placeOf_of hi;rw[turnS_length] at hl;have hlen:(turnP s.length a (Sh.placeOf (turnS s a) i)).length=s.length:=by rw[turnP,setAll_length,List.length_replicate]
 refine⟨hlen,within_of hlen fun q x y hy hx=>?_⟩;have hqs:q<s.length:=(List.getElem?_eq_some_iff.1 hy).1;obtain⟨k,hk⟩:=tu_onto h hqs;have hka:k<a.length:=(List.getElem?_eq_some_iff.1 hk).1;obtain⟨p,hp⟩:=getElem_of (l:=Sh.placeOf (turnS s a) i) (k:=k) (by omega);have e:=setAll_at (f:=List.replicate s.length 0) h hl (by simp) hka (Nat.le_refl _) hk hp;rw[Int.toNat_natCast] at e;rw[turnP,e] at hx;injection hx with hx;subst hx
 exact Sh.within_at hw (turnS_at hk (by rwa [Int.toNat_natCast])) hp
def PadAt (lo hi:List Int) (i:Nat):Prop:=∀ x y,lo[i]? = some x→hi[i]? = some y→0≤x∧0≤y∧x≤32∧y≤32
def PadOk (s lo hi:List Int):Prop:=lo.length=s.length∧hi.length=s.length∧∀ i,PadAt lo hi i
def padS (s lo hi:List Int):List Int:=List.zipWith (· + ·) (List.zipWith (· + ·) lo s) hi
theorem padS_length {s lo hi:List Int} (h:lo.length=s.length) (g:hi.length=s.length):(padS s lo hi).length=s.length:=by simp[padS];omega
theorem padS_at {s lo hi:List Int} {k:Nat} {x y z:Int} (h:lo[k]? = some x) (g:s[k]? = some y) (f:hi[k]? = some z):(padS s lo hi)[k]? = some (x+y+z):=by simp[padS,List.getElem?_zipWith,h,g,f]
theorem padS_take {s lo hi:List Int} {k:Nat} {x y z:Int} (h:lo[k]? = some x) (g:s[k]? = some y) (f:hi[k]? = some z):(padS s lo hi).take k++[x+y+z]=(padS s lo hi).take (k+1):=by
 rw[List.take_add_one,padS_at h g f];rfl
def scat (o d:List Int) (ix:Nat→Nat) (k:Nat):List Int:=(List.range k).foldl (fun o i=>o.set (ix i) (d.getD i 0)) o
theorem scat_step {o d:List Int} {ix:Nat→Nat} {k:Nat} {x:Int} (h:d[k]? = some x):(scat o d ix k).set (ix k) x=scat o d ix (k+1):=by
 rw[scat,scat,List.range_succ,List.foldl_append];simp[List.getD_eq_getElem?_getD,h]
theorem scat_length (o d:List Int) (ix:Nat→Nat) (k:Nat):(scat o d ix k).length=o.length:=by
 induction k with
 | zero=>rfl
 | succ k ih=>rw[scat,List.range_succ,List.foldl_append];simp only[List.foldl_cons,List.foldl_nil,List.length_set];exact ih
def padD (s d lo hi:List Int) (n:Int):List Int:=scat (List.replicate (Sh.size (padS s lo hi)).toNat n) d (fun i=>(Sh.index (padS s lo hi) (addP (Sh.placeOf s i) lo)).toNat) d.length
open Classical in
noncomputable def padR (s d lo hi:List Int) (n:Int):Int × List Int × List Int:=if tenRight s d then(if PadOk s lo hi then(if Sh.right (padS s lo hi) then(0,padS s lo hi,padD s d lo hi n) else refused 13) else refused 1) else refused 13
theorem padR_shape {s d lo hi:List Int} {n:Int} (h:tenRight s d=false):padR s d lo hi n=refused 13:=by rw[padR,h];rfl
theorem padR_arg {s d lo hi:List Int} {n:Int} (h:tenRight s d=true) (g:¬ PadOk s lo hi):padR s d lo hi n=refused 1:=by rw[padR,if_pos h,if_neg g]
theorem padR_shape2 {s d lo hi:List Int} {n:Int} (h:tenRight s d=true) (g:PadOk s lo hi) (k:Sh.right (padS s lo hi)=false):padR s d lo hi n=refused 13:=by rw[padR,if_pos h,if_pos g,k];rfl
theorem padR_ok {s d lo hi:List Int} {n:Int} (h:tenRight s d=true) (g:PadOk s lo hi) (k:Sh.right (padS s lo hi)=true):padR s d lo hi n=(0,padS s lo hi,padD s d lo hi n):=by rw[padR,if_pos h,if_pos g,if_pos k]
theorem pad_within {s lo hi:List Int} (g:PadOk s lo hi) {i:Nat} (hi' : (i:Int)<Sh.size s):(addP (Sh.placeOf s i) lo).length=(padS s lo hi).length∧Sh.within (padS s lo hi) (addP (Sh.placeOf s i) lo)=true:=by
 obtain⟨_,hl,hw,_⟩:=placeOf_of hi';have hlen:(addP (Sh.placeOf s i) lo).length=(padS s lo hi).length:=by rw[addP_length (by rw[hl,g.1]),hl,padS_length g.1 g.2.1]
 refine⟨hlen,within_of hlen fun k x y hy hx=>?_⟩;have hks:k<s.length:=by rw[← padS_length g.1 g.2.1];exact(List.getElem?_eq_some_iff.1 hy).1
 obtain⟨b,hb⟩:=getElem_of (l:=lo) (k:=k) (by rw[g.1];exact hks);obtain⟨c,hc⟩:=getElem_of (l:=hi) (k:=k) (by rw[g.2.1];exact hks);obtain⟨e,he⟩:=getElem_of hks;obtain⟨p,hp⟩:=getElem_of (l:=Sh.placeOf s i) (k:=k) (by omega);rw[padS_at hb he hc] at hy;injection hy with hy;subst hy
 rw[addP_at hp hb] at hx;injection hx with hx;subst hx
 have h1:=g.2.2 k b c hb hc;have h2:=Sh.within_at hw he hp;omega
abbrev TL:=List (List Int × List Int)
def tot (ax:Nat) (l:TL):Int:=l.foldl (fun a t=>a+t.1.getD ax 0) 0
theorem tot_take {ax:Nat} {l:TL} {i:Nat} {t:List Int × List Int} {x:Int} (h:l[i]? = some t) (g:t.1[ax]? = some x):tot ax (l.take (i+1))=tot ax (l.take i)+x:=by
 rw[tot,tot,List.take_add_one,h,List.foldl_append];simp[List.getD_eq_getElem?_getD,g]
theorem foldl_ge {ax:Nat}:∀ {l:TL} (_:∀ t∈l,0≤t.1.getD ax 0) (a:Int),a≤l.foldl (fun a t=>a+t.1.getD ax 0) a
 | [],_,a=>by simp
 | t::l,h,a=>by
  have h1:=h t (by simp);have h2:=foldl_ge (l:=l) (fun t ht=>h t (by simp[ht])) (a+t.1.getD ax 0);rw[List.foldl_cons];omega
theorem tot_mono {ax:Nat} {l:TL} (h:∀ t∈l,0≤t.1.getD ax 0) (i:Nat):0≤tot ax (l.take i)∧tot ax (l.take i)≤tot ax l:=by
 refine⟨?_,?_⟩
 ·exact foldl_ge (fun t ht=>h t (List.mem_of_mem_take ht)) 0
 ·have e:tot ax l=(l.drop i).foldl (fun a t=>a+t.1.getD ax 0) (tot ax (l.take i)):=by
   rw[tot,tot,← List.foldl_append,List.take_append_drop]
  rw[e];exact foldl_ge (fun t ht=>h t (List.mem_of_mem_drop ht)) _
def fitAx (s:List Int) (ax:Nat) (t:List Int):Prop:=t.length=s.length∧∀(k:Nat) (x y:Int),k≠ax→t[k]? = some x→s[k]? = some y→x=y
def allRight (l:TL):Prop:=∀ t∈l,tenRight t.1 t.2=true
def axOk (ax:Int) (l:TL):Prop:=∃ t,l[0]? = some t∧0≤ax∧ax<t.1.length
def head1 (l:TL):List Int:=match l with | []=>[]|t::_=>t.1
def joinS (ax:Nat) (l:TL):List Int:=(head1 l).set ax (tot ax l)
def addAx (p:List Int) (ax:Nat) (h:Int):List Int:=p.set ax (p.getD ax 0+h)
def joinIx (s:List Int) (ax:Nat) (t:List Int) (h:Int) (k:Nat):Nat:=(Sh.index s (addAx (Sh.placeOf t k) ax h)).toNat
def joinUp (ax:Nat) (l:TL) (i:Nat):List Int:=(List.range i).foldl (fun o i=>scat o (l.getD i ([],[])).2 (joinIx (joinS ax l) ax (l.getD i ([],[])).1 (tot ax (l.take i))) (l.getD i ([],[])).2.length) (List.replicate (Sh.size (joinS ax l)).toNat 0)
theorem joinUp_zero (ax:Nat) (l:TL):joinUp ax l 0=List.replicate (Sh.size (joinS ax l)).toNat 0:=rfl
theorem joinUp_step {ax:Nat} {l:TL} {i:Nat} {t:List Int × List Int} (h:l[i]? = some t):joinUp ax l (i+1)=scat (joinUp ax l i) t.2 (joinIx (joinS ax l) ax t.1 (tot ax (l.take i))) t.2.length:=by
 rw[joinUp,joinUp,List.range_succ,List.foldl_append];simp[List.getD_eq_getElem?_getD,h]
theorem joinUp_length (ax:Nat) (l:TL) (i:Nat):(joinUp ax l i).length=(Sh.size (joinS ax l)).toNat:=by
 induction i with
 | zero=>rw[joinUp_zero,List.length_replicate]
 | succ i ih=>rw[joinUp,List.range_succ,List.foldl_append];simp only[List.foldl_cons,List.foldl_nil];rw[scat_length];exact ih
def JoinOk (ax:Nat) (l:TL):Prop:=(∀ t∈l,fitAx (head1 l) ax t.1)∧Sh.right (joinS ax l)=true
open Classical in
noncomputable def joinR (ax:Int) (l:TL):Int × List Int × List Int:=if allRight l then(if axOk ax l then(if JoinOk ax.toNat l then(0,joinS ax.toNat l,joinUp ax.toNat l l.length) else refused 13) else refused 1) else refused 13
theorem joinR_right {ax:Int} {l:TL} (h:¬ allRight l):joinR ax l=refused 13:=by rw[joinR,if_neg h]
theorem joinR_arg {ax:Int} {l:TL} (h:allRight l) (g:¬ axOk ax l):joinR ax l=refused 1:=by rw[joinR,if_pos h,if_neg g]
theorem joinR_shape {ax:Int} {l:TL} (h:allRight l) (g:axOk ax l) (k:¬ JoinOk ax.toNat l):joinR ax l=refused 13:=by rw[joinR,if_pos h,if_pos g,if_neg k]
theorem joinR_ok {ax:Int} {l:TL} (h:allRight l) (g:axOk ax l) (k:JoinOk ax.toNat l):joinR ax l=(0,joinS ax.toNat l,joinUp ax.toNat l l.length):=by rw[joinR,if_pos h,if_pos g,if_pos k]
theorem right_getD {s d:List Int} (h:tenRight s d=true) (k:Nat):0≤s.getD k 0∧s.getD k 0≤32:=by
 rw[List.getD_eq_getElem?_getD]
 cases e:s[k]? with
 | none=>simp
 | some x=>exact(Sh.right_iff.1 (right_of h)).2.1 x (List.mem_of_getElem? e)
theorem all_tot {l:TL} (h:allRight l) (ax i:Nat):0≤tot ax (l.take i)∧tot ax (l.take i)≤tot ax l:=tot_mono (fun t ht=>(right_getD (h t ht) ax).1) i
theorem joinS_length (ax:Nat) (l:TL):(joinS ax l).length=(head1 l).length:=by simp[joinS]
theorem join_long {ax:Nat} {l:TL} (h:allRight l) (hx:ax<(head1 l).length) {i:Nat} (hi:32<tot ax (l.take i)):¬ JoinOk ax l:=fun hk=>by
 have h1:=all_tot h ax i
 have h2:=(Sh.right_iff.1 hk.2).2.1 (tot ax l) (by
  rw[joinS];exact List.mem_set hx _)
 omega
theorem addAx_length (p:List Int) (ax:Nat) (h:Int):(addAx p ax h).length=p.length:=by simp[addAx]
theorem join_within {ax:Nat} {l:TL} (h:allRight l) (hk:JoinOk ax l) (hx:ax<(head1 l).length) {i:Nat} {t:List Int × List Int} (ht:l[i]? = some t) {k:Nat} (hkz:(k:Int)<Sh.size t.1) :
  (addAx (Sh.placeOf t.1 k) ax (tot ax (l.take i))).length=(joinS ax l).length∧Sh.within (joinS ax l) (addAx (Sh.placeOf t.1 k) ax (tot ax (l.take i)))=true:=by
 obtain⟨_,hl,hw,_⟩:=placeOf_of hkz;have hf:=hk.1 t (List.mem_of_getElem? ht);have hlen:(addAx (Sh.placeOf t.1 k) ax (tot ax (l.take i))).length=(joinS ax l).length:=by rw[addAx_length,joinS_length,hl,hf.1]
 refine⟨hlen,within_of hlen fun q x y hy hx' => ?_⟩;have hql:q<t.1.length:=by rw[hf.1,← joinS_length ax l];exact(List.getElem?_eq_some_iff.1 hy).1
 obtain⟨z,hz⟩:=getElem_of hql;obtain⟨p,hp⟩:=getElem_of (l:=Sh.placeOf t.1 k) (k:=q) (by omega);have hwp:=Sh.within_at hw hz hp;rw[addAx,List.getElem?_set] at hx';rw[joinS,List.getElem?_set] at hy;by_cases hq:ax=q
 ·subst hq;rw[if_pos rfl,if_pos (by omega)] at hx';rw[if_pos rfl,if_pos hx] at hy;injection hx' with hx';injection hy with hy
  subst hx';subst hy;rw[List.getD_eq_getElem?_getD,hp];have h1:=all_tot h ax (i+1);have h2:=all_tot h ax i;rw[tot_take ht hz] at h1;simp only[Option.getD_some];omega
 ·rw[if_neg hq,hp] at hx';rw[if_neg hq] at hy;injection hx' with hx';subst hx'
  have:=hf.2 q z y (Ne.symm hq) hz hy;omega
end Go.Proofs.YtnnmplkgenhofaaGreat
