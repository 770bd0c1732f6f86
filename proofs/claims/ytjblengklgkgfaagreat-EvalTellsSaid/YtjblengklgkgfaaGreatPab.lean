import Derived.Deep.DeepCutAuto
import Derived.Laws.CopyOwn
import Derived.Test.YtjblengklgkgfaaGreatPaa
set_option maxRecDepth 100000
set_option maxHeartbeats 12800000
namespace Go.Proofs.YtjblengklgkgfaaGreat
open Go.RowKit Go.Proofs.Tryz
variable {A B:Option Addr} {K:Act→World→Prop} {Q:Exit→Act→World→Prop} {a:Act} {base c d g k m n:Nat} {e:TypeId} {o:Oper} {ops:Array Oper} {rest:List Oper} {v:Value} {w w':World} {xs ys:List Int}
theorem a1c (h:Ints w A n xs):
  Calls prog 46 #[.slice A n c] w fun e w'=>e=.returned (.bool (Sh.right xs))∧w=w':=by
 have hn:=h.len;have hle:=h.le
 go_enter func46,ntmps46
 go_wp2
 go_loop [3,4] (fun p i=>∃ k:Nat,k≤n∧k≤4∧i=.int .i64 k∧p=.int .i64 (Sh.pr (xs.take k))∧∀ x∈xs.take k,0≤x∧x≤32) (fun _ i=>n-(intOf i).toNat)
 case atStart=>exact⟨0,Nat.zero_le _,Nat.zero_le _,rfl,rfl,by simp⟩
 case round =>
  obtain⟨k,hk,hk4,rfl,rfl,hd⟩:=hrel;have H2:=Hd hn;clear hn;by_cases hlt:k<n
  ·obtain⟨ad,x,rfl,hb,hx,hc,hf⟩:=h.at_ hlt;have H:=Hd hx;clear hx;have HD:=Hd hd;clear hd;by_cases hx0:0≤x∧x≤32
   ·obtain⟨hx1,hx2⟩:=hx0;by_cases hk3:k<4
    ·have hall:∀ y∈xs.take (k+1),0≤y∧y≤32:=by
      intro y hy;rw[List.take_add_one,H.out] at hy;simp at hy;rcases hy with hy|rfl
      ·exact HD y hy
      ·exact⟨hx1,hx2⟩
     have hm:=Sh.pr_small (xs.take (k+1)) hall (by have:=H2.out;simp;omega);rw[Sh.pr_take _ H.out] at hm;obtain⟨hm1,hm2⟩:=hm;have HA:=Hd hall;clear hall;go_wp2;go_round
     case rel=>exact⟨k+1,by omega,by omega,by go_num,by rw[Sh.pr_take _ H.out],HA⟩
     case measure=>simp[intOf];omega
    ·have HR:=Hd (Sh.not_right_long (s:=xs) (by have:=H2.out;omega));go_wp2;go_ret;exact⟨a0b HR.symm,rfl⟩
   ·have HR:=Hd (Sh.not_right_dim H hx0);by_cases hx1:x<0
    ·go_wp2;go_ret;exact⟨a0b HR.symm,rfl⟩
    ·have hx2:32<x:=by omega
     go_wp2;go_ret;exact⟨a0b HR.symm,rfl⟩
  ·have hkn:k=n:=by omega
   have ht:xs.take k=xs:=List.take_of_length_le (by have:=H2.out;omega);rw[ht] at hd ⊢;have hb:=Sh.pr_small xs hd (by have:=H2.out;omega);have HR:=Hd (Sh.right_small (by have:=H2.out;omega) hd);have HD:=Hd hd;clear hd;have HT:=Hd ht;clear ht;have HK:=Hd hkn;clear hkn;go_wp2;go_ret;exact⟨a0b HR.symm,rfl⟩
theorem a2z (h:Ints w A n xs):
  Calls prog 24 #[.slice A n c] w fun e w'=>e=.returned (.int .i64 (Sh.size xs))∧w=w':=by
 have hn:=h.len;have hle:=h.le
 cases hr:Sh.right xs with
 | false =>
  have H2:=Hd hn;clear hn;have HR:=Hd hr;clear hr
  go_enter func24,ntmps24
  go_wp2_with (go_at_call 46;refine(a1c h).mono ?_;rw[HR.out];rintro e w' ⟨rfl,rfl⟩)
  go_ret
  exact⟨a2v (Sh.size_not HR).symm,rfl⟩
 | true =>
  obtain⟨hl4,hd,hbig⟩:=Sh.right_iff.1 hr;have H2:=Hd hn;clear hn;have HR:=Hd hr;clear hr;have HD:=Hd hd;clear hd
  go_enter func24,ntmps24
  go_wp2_with (go_at_call 46;refine(a1c h).mono ?_;rw[HR.out];rintro e w' ⟨rfl,rfl⟩)
  go_loop [3,4] (fun p i=>∃ k:Nat,k≤n∧i=.int .i64 k∧p=.int .i64 (Sh.pr (xs.take k))) (fun _ i=>n-(intOf i).toNat)
  case atStart=>exact⟨0,Nat.zero_le _,rfl,rfl⟩
  case round =>
   obtain⟨k,hk,rfl,rfl⟩:=hrel;by_cases hlt:k<n
   ·obtain⟨ad,x,rfl,hb,hx,hc,hf⟩:=h.at_ hlt;have hm:=Sh.pr_small (xs.take (k+1)) (fun y hy=>HD.out y (List.mem_of_mem_take hy)) (by have:=H2.out;simp;omega);rw[Sh.pr_take _ hx] at hm;obtain⟨hm1,hm2⟩:=hm;have H:=Hd hx;clear hx;go_wp2;go_round
    case rel=>exact⟨k+1,by omega,by go_num,by rw[Sh.pr_take _ H.out]⟩
    case measure=>simp[intOf];omega
   ·have ht:xs.take k=xs:=List.take_of_length_le (by have:=H2.out;omega);rw[ht];have HT:=Hd ht;clear ht;go_wp2;go_ret;exact⟨a2v (Sh.size_of HR).symm,rfl⟩
theorem a8i (h:Ints w A n xs)(g:Ints w B m ys):
  Calls prog 129 #[.slice A n c,.slice B m d] w fun e w'=>e=.returned (.int .i64 (Sh.index xs ys))∧∃ k,w'=w.drewN k:=by
 have hn:=h.len;have hm:=g.len;have hle:=h.le;have hme:=g.le
 cases hr:Sh.right xs with
 | false =>
  have HX:=Hd (Sh.index_right (p:=ys) hr);have HR:=Hd hr;clear hr;have H1:=Hd hn;clear hn;have H2:=Hd hm;clear hm
  go_enter func129,ntmps129
  go_wp2_with (go_at_call 46;refine(a1c h).mono ?_;rw[HR.out];rintro e w' ⟨rfl,rfl⟩)
  go_ret
  exact⟨a2v HX.symm,0,rfl⟩
 | true =>
  have H1:=Hd hn;clear hn;have H2:=Hd hm;clear hm;by_cases hnm:m=n
  ·have HR:=Hd hr;clear hr;subst hnm
   go_enter func129,ntmps129
   go_wp2_with (go_at_call 46;refine(a1c h).mono ?_;rw[HR.out];rintro e w' ⟨rfl,rfl⟩)
   go_loopw [5,6] (fun p i wr=>∃ k:Nat,k≤m∧i=.int .i64 k∧p=.int .i64 (Sh.hor (xs.take k) (ys.take k))∧Sh.within (xs.take k) (ys.take k)=true∧∃ q,wr=w.drewN q) (fun _ i _=>m-(intOf i).toNat)
   case atStart=>exact⟨0,Nat.zero_le _,rfl,rfl,rfl,0,rfl⟩
   case round =>
    obtain⟨k,hk,rfl,rfl,hd,q,rfl⟩:=hrel;have HD:=Hd hd;clear hd;by_cases hlt:k<m
    ·obtain⟨ad,x,rfl,hb,hx,hc,hf⟩:=h.at_ hlt;obtain⟨bd,y,rfl,hb', hy,hc', hf'⟩:=g.at_ hlt;have H:=Hd hx;clear hx;have G:=Hd hy;clear hy;by_cases hy0:0≤y∧y<x
     ·obtain⟨hy1,hy2⟩:=hy0;have hw:=Hd (p:=Sh.within (xs.take (k+1)) (ys.take (k+1))=true) (by rw[Sh.within_take H.out G.out,HD.out];simp[hy1,hy2]);have hs:=Sh.hor_small HR (H1.trans H2.symm) (k+1) hw;rw[Sh.hor_take H.out G.out] at hs;obtain⟨hs1,hs2⟩:=hs;have hs':=Sh.hor_small HR (H1.trans H2.symm) k HD;have hp0:0≤Sh.hor (xs.take k) (ys.take k)*x:=Int.mul_nonneg hs'.1 (by omega);have hp1:Sh.hor (xs.take k) (ys.take k)*x≤1048576:=by omega
      clear hs';have hd1:decide (y<0)=false:=by simp;omega
      have hd2:decide (x≤y)=false:=by simp;omega
      go_wp2
      go_quiet (fail)
      go_wp2
      go_quiet (fail)
      go_wp2;go_roundw
      case rel=>exact⟨k+1,by omega,by go_num,by rw[Sh.hor_take H.out G.out],hw,_,rfl⟩
      case measure=>simp[intOf];omega
     ·have HX:=Hd (Sh.index_out H G hy0);by_cases hy1:y<0
      ·have hd1:decide (y<0)=true:=by simpa using hy1
       go_wp2
       go_quiet (fail)
       go_wp2;go_ret;exact⟨a2v HX.symm,_,World.drewN_drewN _ _ _⟩
      ·have hy2:x≤y:=by omega
       have hd1:decide (y<0)=false:=by simpa using hy1
       have hd2:decide (x≤y)=true:=by simpa using hy2
       go_wp2
       go_quiet (fail)
       go_wp2;go_ret;exact⟨a2v HX.symm,_,World.drewN_drewN _ _ _⟩
    ·have ht:xs.take k=xs:=List.take_of_length_le (by have:=H1.out;omega);have ht' : ys.take k=ys:=List.take_of_length_le (by have:=H2.out;omega);have hd:=HD.out;rw[ht,ht'] at hd ⊢;have HX:=Hd (Sh.index_of HR (H2.trans H1.symm) hd);clear ht ht' hd;go_wp2;go_ret;exact⟨a2v HX.symm,_,rfl⟩
  ·have HX:=Hd (Sh.index_len (s:=xs) (p:=ys) (by have:=H1.out;have:=H2.out;omega));have hb:((m:Int) != (n:Int))=true:=by simp;omega
   have HR:=Hd hr;clear hr
   go_enter func129,ntmps129
   go_wp2_with (go_at_call 46;refine(a1c h).mono ?_;rw[HR.out];rintro e w' ⟨rfl,rfl⟩)
   go_ret;exact⟨a2v HX.symm,0,rfl⟩
theorem a5b (h:Ints w A n xs)(g:Ints w B m ys):
  Calls prog 39 #[.slice A n c,.slice B m d] w fun e w'=>e=.returned (.bool (xs==ys))∧∃ k,w'=w.drewN k:=by
 have hn:=h.len;have hm:=g.len;have hle:=h.le;have hme:=g.le;by_cases hnm:n=m
 ·subst hnm;have H1:=Hd hn;clear hn;have H2:=Hd hm;clear hm
  go_enter func39,ntmps39
  go_wp2
  go_loopw [5] (fun i wr=>∃ k:Nat,k≤n∧i=.int .i64 k∧xs.take k=ys.take k∧∃ q,wr=w.drewN q) (fun i _=>n-(intOf i).toNat)
  case atStart=>exact⟨0,Nat.zero_le _,rfl,rfl,0,rfl⟩
  case round =>
   obtain⟨k,hk,rfl,hd,q,rfl⟩:=hrel;have HD:=Hd hd;clear hd;by_cases hlt:k<n
   ·obtain⟨ad,x,rfl,hb,hx,hc,hf⟩:=h.at_ hlt;obtain⟨bd,y,rfl,hb', hy,hc', hf'⟩:=g.at_ hlt;have H:=Hd hx;clear hx;have G:=Hd hy;clear hy;by_cases hxy:x=y
    ·subst hxy;go_wp2
     go_quiet (fail)
     go_wp2;go_roundw
     case rel=>exact⟨k+1,by omega,by go_num,b7o H G HD,_,rfl⟩
     case measure=>simp[intOf];omega
    ·have HX:=Hd (c3e H G hxy);have hb:(x != y)=true:=by simpa using hxy
     go_wp2
     go_quiet (fail)
     go_wp2;go_ret;exact⟨a0b HX.symm,_,World.drewN_drewN _ _ _⟩
   ·have HX:=Hd (b5v H1 H2 (by omega) HD);go_wp2;go_ret;exact⟨a0b HX.symm,_,rfl⟩
 ·have HX:=Hd (p:=(xs==ys)=false) (by rw[beq_eq_false_iff_ne];rintro rfl;exact hnm (hn.symm.trans hm));have H1:=Hd hn;clear hn;have H2:=Hd hm;clear hm;have hb:((n:Int) != (m:Int))=true:=by simp;omega
  go_enter func39,ntmps39
  go_wp2;go_ret;exact⟨a0b HX.symm,0,rfl⟩
theorem c4z (i:Int)(h:Ints w A n xs)(hif:Fits i):
  Calls prog 125 #[.slice A n c,.int .i64 i] w fun e w'=>b9y w (Sh.placeOf xs i) e w':=by
 have hn:=h.len;have hle:=h.le;have hsb:=Sh.size_bd xs;obtain⟨hsb1,hsb2⟩:=hsb;obtain⟨hi1,hi2⟩:=hif;by_cases hok:0≤i∧i<Sh.size xs
 ·obtain⟨hr,hd⟩:=Sh.size_pos hok.1 hok.2;have HP:=Hd (p:=Sh.placeOf xs i=Sh.place xs i) (by rw[Sh.placeOf,iP hok]);obtain⟨hi0,his⟩:=hok;have hl4:=(Sh.right_iff.1 hr).1;have hn4:n≤4:=by omega
  have HD:Hid (∀ x∈xs,0≤x∧x≤32):=Hd fun x hx=>⟨by have:=hd x hx;omega,(hd x hx).2⟩
  have H1:=Hd hn;clear hn;have HR:=Hd hr;clear hr;have HE:=Hd hd;clear hd;obtain⟨i0,hi,hz0,hz1,hz2⟩:=info_parts Tryz.infoInt;rw[HP.out]
  go_enter func125,ntmps125
  go_wp2_with (first|(go_at_call 24;refine(a2z h).mono ?_;rintro e w' ⟨rfl,rfl⟩)|(at_make;refine wpList_make_full _ rfl _ _ _ rfl _ _ i0 (.int .i64 0) 1 underlying22 hi hz0 hz1 .i64 .i64 _ _ n rfl rfl rfl rfl ?c1 ?c2 (Nat.le_refl _) ?_))
  case c1=>rw[hz2];omega
  case c2=>unfold maxLen;omega
  intro w1 hown hgr;have hO:=b3v (by omega) hown;have hB:Below w.heap.size w w1:=(Below.refl _ _).grown hgr (Nat.le_refl _) (by simp);have hsz:=hgr.size;clear hown hgr;go_wp2
  go_loopw [1,6] (fun p a wr=>∃(m:Nat) (k:Int),k+1=m∧m≤n∧a=.int .i64 k∧p=.int .i64 (i / Sh.pd (xs.drop m))∧∃ ys,Own wr w.heap.size 3 w.heap.size n n ys∧From m ys (Sh.place xs i)∧Below w.heap.size w wr) (fun _ a _=>(intOf a+1).toNat)
  case atStart =>
   refine⟨n,_,by omega,by omega,rfl,?_,_,hO,⟨?_,?_⟩,hB⟩
   ·rw[List.drop_eq_nil_of_le (by have:=H1.out;omega)];simp[Sh.pd]
   ·simp[Sh.place_length,H1.out]
   ·intro j hj;rw[List.getElem?_eq_none (by simp;omega),List.getElem?_eq_none (by rw[Sh.place_length,H1.out];omega)]
  case round =>
   clear hO hB hsz;obtain⟨m,k,hkm,hk2,rfl,rfl,ys,hO,hF,hB⟩:=hrel;by_cases hk0:0≤k
   ·obtain⟨m,rfl⟩:=eZ hk0;rename_i m0;obtain rfl:m0=m+1:=by omega
    have hmn:m<n:=by omega
    have h':=h.below hB;obtain⟨ad,x,rfl,hb,hx,hc,hf⟩:=h'.at_ hmn;obtain⟨hx1,hx2⟩:=HE.out x (mG hx);have hc2:wr.cell? ⟨w.heap.size,m,none⟩=some (.int .i64 (ys.getD m 0)):=hO.cell (by have:=hO.len;simp[List.getElem?_eq_getElem (by omega:m<ys.length)]);have hfz:=hO.frozen m;have hq:=Sh.pd_small HD hl4 (m+1);have hd0:0≤i / Sh.pd (xs.drop (m+1)):=Int.ediv_nonneg hi0 hq.1;have hd1:i / Sh.pd (xs.drop (m+1))≤9223372036854775807:=Int.le_trans (Int.ediv_le_self _ hi0) hi2;have hm0:0≤i / Sh.pd (xs.drop (m+1)) % x:=Int.emod_nonneg _ (by omega);have hm1:i / Sh.pd (xs.drop (m+1)) % x<x:=Int.emod_lt_of_pos _ (by omega);have HS:=Hd (Sh.left_step (i:=i) hx HD);have hO2:=hO.store m (u:=i / Sh.pd (xs.drop (m+1)) % x) ⟨by omega,by omega⟩;have hF2:=hF.set_ (Sh.place_at (i:=i) hx);have hB2:=hB.setCell (p:=⟨w.heap.size,m,none⟩) (Nat.le_refl _) (.int .i64 (i / Sh.pd (xs.drop (m+1)) % x));have hc3:(wr.setCell ⟨w.heap.size,m,none⟩ (.int .i64 (i / Sh.pd (xs.drop (m+1)) % x))).cell? (ad.add m)=some (.int .i64 x):=(h.below hB2).get hx;have HX:=Hd hx;clear hx hkm hk0 hO hF hB h' hq;go_wp2;go_roundw
    case rel=>exact⟨m,_,by omega,by omega,rfl,by rw[HS.out],_,hO2,hF2,hB2⟩
    case measure=>simp[intOf]
   ·obtain rfl:m=0:=by omega
    obtain rfl:k = -1:=by omega
    have HF:=Hd hF;clear hF;go_wp2;go_ret;rw[←HF.zero];exact b9y.own hO hB
 ·have HP:=Hd (p:=Sh.placeOf xs i=[]) (by rw[Sh.placeOf,iN hok]);rw[HP.out];have H1:=Hd hn;clear hn;by_cases hi0:i<0
  ·go_enter func125,ntmps125
   go_wp2_with (go_at_call 24;refine(a2z h).mono ?_;rintro e w' ⟨rfl,rfl⟩)
   go_ret;exact b9y.none_ w
  ·have hi3:Sh.size xs≤i:=by omega
   clear hok
   go_enter func125,ntmps125
   go_wp2_with (go_at_call 24;refine(a2z h).mono ?_;rintro e w' ⟨rfl,rfl⟩)
   go_ret;exact b9y.none_ w
theorem d7w {a:Int}(_ha:a<0)(h:a.tmod 1073741825<0):a.tmod 1073741825+1073741824+1=a % 1073741825:=by
 have e:=Int.tmod_eq_emod (a:=a) (b:=1073741825);by_cases hd:0≤a∨(1073741825:Int) ∣ a
 ·rw[iP hd] at e;omega
 ·rw[iN hd] at e;simp at e;omega
theorem c8l {a:Int}(_ha:a<0)(h:¬ a.tmod 1073741825<0):a.tmod 1073741825=a % 1073741825:=by
 have e:=Int.tmod_eq_emod (a:=a) (b:=1073741825);by_cases hd:0≤a∨(1073741825:Int) ∣ a
 ·rw[iP hd] at e;omega
 ·rw[iN hd] at e;simp at e;omega
theorem c1p (a:Int)(w:World)(hf:Fits a):
  Calls prog 40 #[.int .i64 a,.int .i64 0,.int .i64 1073741824] w fun e w'=>e=.returned (.int .i64 (a % 1073741825))∧w=w':=by
 obtain⟨h1,h2⟩:=hf;by_cases h0:0≤a
 ·by_cases hb:a≤1073741824
  ·go_enter func40,ntmps40
   go_wp2;go_ret;exact⟨a2v (by omega),rfl⟩
  ·go_enter func40,ntmps40
   go_wp2;go_ret;exact⟨a2v (by omega),rfl⟩
 ·have hlt:a<0:=by omega
  have hm1 : -1073741825<a.tmod 1073741825:=by
   have e:=Int.tmod_eq_emod (a:=a) (b:=1073741825);by_cases hd:0≤a∨(1073741825:Int) ∣ a
   ·rw[iP hd] at e;omega
   ·rw[iN hd] at e;simp at e;omega
  have hm2:a.tmod 1073741825≤0:=by
   have e:=Int.tmod_eq_emod (a:=a) (b:=1073741825);by_cases hd:0≤a∨(1073741825:Int) ∣ a
   ·rw[iP hd] at e;omega
   ·rw[iN hd] at e;simp at e;omega
  by_cases ht:a.tmod 1073741825<0
  ·have HX:=Hd (d7w hlt ht)
   go_enter func40,ntmps40
   go_wp2;go_ret;exact⟨a2v (by rw[←HX.out]),rfl⟩
  ·have HX:=Hd (c8l hlt ht)
   go_enter func40,ntmps40
   go_wp2;go_ret;exact⟨a2v (by rw[←HX.out]),rfl⟩
def Tape (w:World) (g:Nat):Prop :=
 ∃(A:Option Addr) (n c at_:Nat) (xs:List Int),w.heap[g]?=some (.cells #[.slice A n c,.int .i64 at_] 52 (0,0))∧at_≤n∧Ints w A n xs∧∀ ad,A=some ad→0<n→ad.block<g
theorem Tape.lt (h:Tape w g):g<w.heap.size:=by
 obtain⟨A,n,c,at_,xs,hg,_⟩:=h;rcases Nat.lt_or_ge g w.heap.size with hlt|hge
 ·exact hlt
 ·rw[Array.getElem?_eq_none hge] at hg;cases hg
theorem Tape.below (h:Tape w g)(hb:Below w.heap.size w w'):Tape w' g:=by
 have hl:=h.lt;obtain⟨A,n,c,at_,xs,hg,ha,hI,hne⟩:=h;exact⟨A,n,c,at_,xs,(hb.block g hl).trans hg,ha,hI.below hb,hne⟩
theorem Tape.over (h:Tape w g)(hb:Below (g+1) w w'):Tape w' g:=by
 obtain⟨A,n,c,at_,xs,hg,ha,hI,hne⟩:=h;refine⟨A,n,c,at_,xs,(hb.block g (by omega)).trans hg,ha,⟨hI.1,hI.2.1,hI.2.2.1,fun hn=>?_⟩,hne⟩;obtain⟨ad,e,hl,hc⟩:=hI.2.2.2 hn;have:=hne ad e hn;exact⟨ad,e,by have:=hb.size;omega,fun j u hu=>(hb.cell (by rw[a0g];omega)).trans (hc j u hu)⟩
theorem Tape.drewN (h:Tape w g)(k:Nat):Tape (w.drewN k) g:=h
def Read (w:World) (g:Nat) (w' : World):Prop:=Tape w' g∧w.grownBy w' (some g)
theorem c2g (m:Int)(h:Tape w g)(hm:Fits m):
  Calls prog 21 #[.pointer (some ⟨g,0,none⟩),.int .i64 m] w fun e w'=>(∃ r:Int,e=.returned (.int .i64 r)∧0≤r∧(r=0∨r<m))∧Read w g w':=by
 have hT:=h;obtain⟨A,n,c,at_,xs,hg,ha,hI,hne⟩:=h;obtain⟨hm1,hm2⟩:=hm;have hle:=hI.le;have hc0:w.cell? ⟨g,0,none⟩=some (.slice A n c):=by rw[cell_of_row w g 0 _ _ _ hg];rfl
 have hc1:w.cell? ⟨g,1,none⟩=some (.int .i64 at_):=by rw[cell_of_row w g 1 _ _ _ hg];rfl
 have hQ:=Hd hT;clear hT;have hfz:w.frozen? ⟨g,1,none⟩=false:=frozen_of_row w g 1 _ _ hg;have HG:=Hd hg;clear hg;by_cases h1:at_=n
 ·subst h1;have hd1:decide (at_≤at_)=true:=by simp
  have hd2:decide ((at_:Int)≤(at_:Int))=true:=by simp
  go_enter func21,ntmps21
  go_wp2
  go_quiet (fail)
  go_wp2;go_ret;exact⟨⟨0,rfl,by omega,.inl rfl⟩,hQ.drewN _,a4e _ _ _⟩
 ·have h2:at_<n:=by omega
  obtain⟨ad,x,rfl,hb,hx,hcx,hf⟩:=hI.at_ h2;have hne' : ad.block≠g:=by have:=hne ad rfl (by omega);omega
  have hd1:decide (n≤at_)=false:=by simp;omega
  have hd2:decide ((n:Int)≤(at_:Int))=false:=by simp;omega
  by_cases hm0:m<1
  ·have hd3:decide (m<1)=true:=by simp;omega
   go_enter func21,ntmps21
   go_wp2
   go_quiet (fail)
   go_wp2;go_ret;exact⟨⟨0,rfl,by omega,.inl rfl⟩,hQ.drewN _,a4e _ _ _⟩
  ·have hd3:decide (m<1)=false:=by simp;omega
   go_enter func21,ntmps21
   go_wp2
   go_quiet (fail)
   go_wp2;have hG2:w.grownBy ((w.drewN nq).setCell ⟨g,1,none⟩ (.int .i64 (at_+1))) (some g):=a1b (a4e w nq _) (a0h _ g 1 _);have hI2:=hI.grown hG2 (fun ad' e _=>by injection e with e;subst e;intro h';injection h' with h';exact hne' h');have hg2:((w.drewN nq).setCell ⟨g,1,none⟩ (.int .i64 (at_+1))).heap[g]?=some (.cells #[.slice (some ad) n c,.int .i64 ((at_+1:Nat):Int)] 52 (0,0)):=heap_setCell_same (w.drewN nq) g 1 _ _ (.int .i64 (at_+1)) HG;have hT2:=Hd (p:=Tape ((w.drewN nq).setCell ⟨g,1,none⟩ (.int .i64 (at_+1))) g) ⟨some ad,n,c,at_+1,xs,hg2,by omega,hI2,hne⟩;have hcx:=hI2.get hx;clear hQ hI;generalize hw2:(w.drewN nq).setCell ⟨g,1,none⟩ (.int .i64 (at_+1))=w2 at *;clear hw2;have hc0:w2.cell? ⟨g,0,none⟩=some (.slice (some ad) n c):=by rw[cell_of_row w2 g 0 _ _ _ hg2];rfl
   have hc1:w2.cell? ⟨g,1,none⟩=some (.int .i64 ((at_:Int)+1)):=by rw[cell_of_row w2 g 1 _ _ _ hg2];rfl
   have HX:=Hd hx;have HH:=Hd hg2;have HGG:=Hd hG2;clear hx hg2 hd1 hd2 hd3 hG2 HG hfz;have hr0:0≤x % 1073741825:=Int.emod_nonneg _ (by omega);have hr1:x % 1073741825<1073741825:=Int.emod_lt_of_pos _ (by omega);have hs0:0≤x % 1073741825 % m:=Int.emod_nonneg _ (by omega);have hs1:x % 1073741825 % m<m:=Int.emod_lt_of_pos _ (by omega)
   go_quiet ((go_at_call 40;exact a3b (c1p _ _ hf)))
   go_wp2;go_ret;exact⟨⟨_,rfl,by omega,.inr (by omega)⟩,hT2.drewN _,a1b HGG (a4e _ _ _)⟩
def b4c:List Int:=[1,2,3,4,5,0,7,2]
theorem e0l (r:Nat)(h:r<8):∃ x:Int,b4c[r]?=some x∧0≤x∧x≤7:=by
 have:r=0∨r=1∨r=2∨r=3∨r=4∨r=5∨r=6∨r=7:=by omega
 rcases this with rfl|rfl|rfl|rfl|rfl|rfl|rfl|rfl <;> exact⟨_,rfl,by decide,by decide⟩
theorem d7j (h:Ints w A n xs):
  Tape (w.alloc (.cells #[.slice A n c,.int .i64 0] 52)) w.heap.size:=by
 refine⟨A,n,c,0,xs,heap_alloc_new w _,by omega,h.alloc _,fun ad he hn=>?_⟩;obtain⟨ad', he', hb,_⟩:=h.2.2.2 hn;rw[he] at he';injection he' with he'
 subst he';exact hb
theorem Ints.read (h:Ints w A n xs)(hr:w.grownBy w' (some g))(hA:∀ ad,A=some ad→ad.block≠g):Ints w' A n xs :=
 h.grown hr fun ad e _ he=>hA ad e (by injection he)
def a8s:List Int:=[9223372036854775807,-9223372036854775808,4611686018427387904,-1099511627776,8589934592,3037000500]
theorem c6x (r:Nat)(h:r<6):∃ x:Int,a8s[r]?=some x∧Fits x:=by
 have:r=0∨r=1∨r=2∨r=3∨r=4∨r=5:=by omega
 rcases this with rfl|rfl|rfl|rfl|rfl|rfl <;> exact⟨_,rfl,by constructor <;> decide⟩
theorem d2d (h:Tape w g):
  Calls prog 42 #[.pointer (some ⟨g,0,none⟩)] w fun e w'=>(∃ r:Int,e=.returned (.int .i64 r)∧Fits r)∧Read w g w':=by
 go_enter func42,ntmps42
 go_wp2_with fail
 refine(c2g 9 h ⟨by omega,by omega⟩).mono ?_;rintro e w1 ⟨⟨r,rfl,hr0,hr1⟩,hT,hG⟩;have HG:=Hd hG;clear hG h;by_cases h0:r=0
 ·subst h0
  go_wp2_with fail
  have hlit:Ints (w1.alloc (.cells #[.int .i64 9223372036854775807,.int .i64 (-9223372036854775808),.int .i64 4611686018427387904,.int .i64 (-1099511627776),.int .i64 8589934592,.int .i64 3037000500] 2)) (some ⟨w1.heap.size,0,none⟩) 6 a8s:=d6t _ _ _ _ _ _ rfl rfl (by decide);refine(c2g 6 (hT.below ((Below.refl _ _).alloc (Nat.le_refl _) _)) ⟨by omega,by omega⟩).mono ?_;rintro e w2 ⟨⟨r,rfl,hr0,hr1⟩,hT2,hG2⟩;obtain⟨rn,rfl⟩:=eZ hr0;obtain⟨x,hxr,hf⟩:=c6x rn (by omega);have hgr:=hT.lt;have hlit2:=hlit.grown hG2 (fun ad e _=>by injection e with e;subst e;intro h';injection h' with h';simp at h';omega);have hc:=hlit2.get hxr;rw[Addr.add_lit,Nat.zero_add] at hc;have hrn:rn<6:=by omega
  have HR:=Hd hxr;have HGb:=Hd (a1b HG (a1b (World.grownBy_alloc w1 _ _) hG2));clear hlit hlit2 hG2 hxr hr0 hr1 HG;go_wp2;go_ret;exact⟨⟨x,rfl,hf⟩,hT2,HGb⟩
 ·have hb0:(r==0)=false:=by simpa using h0
  by_cases h1:r=1
  ·subst h1;go_wp2;go_ret;exact⟨⟨0,rfl,by omega,by omega⟩,hT,HG⟩
  ·have hb1:(r==1)=false:=by simpa using h1
   go_wp2_with fail
   refine(c2g 19 hT ⟨by omega,by omega⟩).mono ?_;rintro e w2 ⟨⟨q,rfl,hq0,hq1⟩,hT2,hG2⟩;have HGb:=Hd (a1b HG hG2);have hq2:q<19:=by omega
   clear hG2 hq1;go_wp2;go_ret;exact⟨⟨_,rfl,by omega,by omega⟩,hT2,HGb⟩
section
variable {w w' : World} {A : Option Addr} {n : Nat} {xs : List Int}
theorem Ints.nil_addr (h:Ints w none n xs):n=0∧xs=[]:=by
 have h0:n=0:=by
  rcases Nat.eq_zero_or_pos n with h0|h0
  ·exact h0
  ·obtain⟨_,e,_⟩:=h.2.2.2 h0;cases e
 exact⟨h0,List.eq_nil_of_length_eq_zero (by rw[h.1,h0])⟩
theorem Ints.take (h:Ints w A n xs)(hk:k≤n):Ints w A k (xs.take k):=by
 refine⟨by rw[List.length_take,h.1];omega,by have:=h.le;omega,fun x hx=>h.fit x (List.mem_of_mem_take hx),fun h0=>?_⟩;obtain⟨ad,e,hb,hc⟩:=h.2.2.2 (by omega);refine⟨ad,e,hb,fun j x hj=>hc j x ?_⟩;rw[List.getElem?_take] at hj
 split at hj
 ·exact hj
 ·cases hj
theorem Ints.drop (h:Ints w A n xs)(hk:k≤n)(hc:n≤c):Ints w (if c=k then A else A.map (·.add k)) (n-k) (xs.drop k):=by
 refine⟨by rw[List.length_drop,h.1],by have:=h.le;omega,fun x hx=>h.fit x (List.mem_of_mem_drop hx),fun h0=>?_⟩;obtain⟨ad,rfl,hb,hcell⟩:=h.2.2.2 (by omega);rw[iN (by omega)];refine⟨ad.add k,rfl,by rw[a0g];exact hb,fun j x hj=>?_⟩;rw[a9f];exact hcell _ _ (by rw[←hj,List.getElem?_drop])
end
variable {P : Program}
theorem b9x {t ty:TypeId}(ht:P.underlying t=some (.slice e))
  (hinfo:(P.info? e).map (fun i=>(i.zero,i.size,i.bytes))=some (some (.int .i64 0),1,8))
  (hown:OwnS w base e v n xs)(hb:base≤w.heap.size)
  (hy:Ints w A m ys)(hn:n+m≤17592186044000):
  ∃ v' w', (Builtin.append_ #[t,t] ty #[v,.slice A m c]).run P w=.ok v' w'∧OwnS w' base e v' (n+m) (xs++ys)∧w.grownBy w' v.ownBlock∧(v'.ownBlock=v.ownBlock∨v'.ownBlock=some w.heap.size):=by
 obtain⟨i,hi,hz0,hz1,hz2⟩:=info_parts hinfo
 have fits:∀ z∈xs++ys,Fits z:=fun z hz=>by
  rcases List.mem_append.1 hz with hz|hz
  ·exact hown.2.1 z hz
  ·exact hy.fit z hz
 cases A with
 | none =>
  obtain⟨rfl,rfl⟩:=hy.nil_addr;refine⟨v,w,?_,by simpa using hown,World.grownBy.refl _ _,.inl rfl⟩;rcases hown.1.2 with ⟨rfl,rfl⟩|⟨g,cap,cur,rfl,_,_,hnc,_⟩
  ·simp[Builtin.append_,run_underlying ht,sizeOf,typeInfo,hi,Builtin.lenOf,Builtin.firstCells]
  ·simp[Builtin.append_,run_underlying ht,sizeOf,typeInfo,hi,Builtin.lenOf,Builtin.firstCells,hnc,storeCells]
 | some ad =>
  have hcells:∀ j u,(ys.map (Value.int .i64))[j]?=some u→w.cell? (ad.add j)=some u:=by
   intro j u hu;rw[List.getElem?_map,Option.map_eq_some_iff] at hu;obtain⟨x,hx,rfl⟩:=hu;exact hy.get hx
  obtain⟨v', w', hr,h2,h3,_,h5⟩:=run_append_own_at (P:=P) w base t ty e i (.int .i64 0) 1 8 ht hi hz0 hz1 hz2 rfl (by decide) v n _ hown.1 ad m c (ys.map (Value.int .i64)) (by simp[hy.len]) hcells (fun u hu=>by
   rw[List.mem_map] at hu;obtain⟨x,_,rfl⟩:=hu;rfl) (by unfold maxLen;omega) (by omega) hb
  exact⟨v', w', hr,⟨by rw[List.map_append];exact h2,fits,by omega⟩,h3,h5⟩
theorem b2n (s y:Operand)(t e:TypeId)
  (ho:o.op=.call { callee:=.builtin .append,args:=#[s,y],argTypes:=#[t,t] })(ht:P.underlying t=some (.slice e))
  (hinfo:(P.info? e).map (fun i=>(i.zero,i.size,i.bytes))=some (some (.int .i64 0),1,8))
  (base:Nat)(v:Value)(n:Nat)(xs:List Int)(hs:a.eval s=v)(hown:OwnS w base e v n xs)(hb:base≤w.heap.size)
  (A:Option Addr)(m c:Nat)(ys:List Int)(hx:a.eval y=.slice A m c)(hy:Ints w A m ys)(hn:n+m≤17592186044000)
  (h:∀ v' w', OwnS w' base e v' (n+m) (xs++ys)→w.grownBy w' v.ownBlock→(v'.ownBlock=v.ownBlock∨v'.ownBlock=some w.heap.size)→K (a.put o.dst v') w'):o.wp P a w K Q:=by
 obtain⟨v', w', hr,h2,h3,h4⟩:=b9x (P:=P) (ty:=o.type) (c:=c) ht hinfo hown hb hy hn;unfold Oper.wp execOp;simp only[ho,resolve,invoke,builtin,Sem.run_bind,Sem.run_pure,Result.andThen_ok,List.map_toArray,List.map_cons,List.map_nil,hs,hx,hr];exact h v' w' h2 h3 h4
theorem a6b (hgd:o.guard=none)(s y:Operand)(t e:TypeId)
  (ho:o.op=.call { callee:=.builtin .append,args:=#[s,y],argTypes:=#[t,t] })(ht:P.underlying t=some (.slice e))
  (hinfo:(P.info? e).map (fun i=>(i.zero,i.size,i.bytes))=some (some (.int .i64 0),1,8))
  (base:Nat)(v:Value)(n:Nat)(xs:List Int)(hs:a.eval s=v)(hown:OwnS w base e v n xs)(hb:base≤w.heap.size)
  (A:Option Addr)(m c:Nat)(ys:List Int)(hx:a.eval y=.slice A m c)(hy:Ints w A m ys)(hn:n+m≤17592186044000)
  (h:∀ v' w', OwnS w' base e v' (n+m) (xs++ys)→w.grownBy w' v.ownBlock→(v'.ownBlock=v.ownBlock∨v'.ownBlock=some w.heap.size)→wpList P ops Q rest (a.put o.dst v') w'):wpList P ops Q (o::rest) a w :=
 wpList_plain hgd fun _ hK=>b2n s y t e ho ht hinfo base v n xs hs hown hb A m c ys hx hy hn fun v' w' h2 h3 h4=>hK _ _ (h v' w' h2 h3 h4)
theorem b0c {E:Prop}(hgd:o.guard=none)(s y:Operand)(t e:TypeId)
  (ho:o.op=.call { callee:=.builtin .append,args:=#[s,y],argTypes:=#[t,t] })(ht:P.underlying t=some (.slice e))
  (hinfo:(P.info? e).map (fun i=>(i.zero,i.size,i.bytes))=some (some (.int .i64 0),1,8))
  (base:Nat)(v:Value)(n:Nat)(xs:List Int)(hs:a.eval s=v)(hown:OwnS w base e v n xs)(hb:base≤w.heap.size)
  (A:Option Addr)(m c:Nat)(ys:List Int)(hx:a.eval y=.slice A m c)(hy:Ints w A m ys)(hn:n+m≤17592186044000)
  (h:∀ v' w', OwnS w' base e v' (n+m) (xs++ys)→w.grownBy w' v.ownBlock→(v'.ownBlock=v.ownBlock∨v'.ownBlock=some w.heap.size)→K (a.put o.dst v') w'):
  if Region.wanted o (yielded ops a.tmps)=true then Oper.wp P o a w K Q else E:=by
 have hw:Region.wanted o (yielded ops a.tmps)=true:=by simp[Region.wanted,hgd]
 rw[iP hw];exact b2n s y t e ho ht hinfo base v n xs hs hown hb A m c ys hx hy hn h
theorem c4g (w:World)(e:TypeId)(hb:base≤w.heap.size):OwnS (w.alloc (.cells #[] e)) base e (.slice (some ⟨w.heap.size,0,none⟩) 0 0) 0 [] :=
 ⟨World.ownsRow_lit w #[] 0 hb (Nat.zero_le _) rfl,by simp,by omega⟩
def b9k (w:World) (base:Nat) (e:TypeId) (v:Value):Prop :=
 v=.slice none 0 0∨∃ g,v=.slice (some ⟨g,0,none⟩) 0 0∧base≤g∧w.heap[g]?=some (.cells #[] e (0,0))
theorem b9k.nil_ (w:World)(base:Nat)(e:TypeId):b9k w base e (.slice none 0 0):=.inl rfl
theorem b9k.below (h:b9k w base e v)(hb:Below w.heap.size w w'):b9k w' base e v:=by
 rcases h with rfl|⟨g,rfl,hg,hh⟩
 ·exact .inl rfl
 ·have:g<w.heap.size:=by
   rcases Nat.lt_or_ge g w.heap.size with hl|hl
   ·exact hl
   ·rw[Array.getElem?_eq_none hl] at hh;cases hh
  exact .inr ⟨g,rfl,hg,(hb.block g this).trans hh⟩
theorem b9k.own (h:b9k w base e v):OwnS w base e v 0 []:=by
 rcases h with rfl|⟨g,rfl,hg,hh⟩
 ·exact OwnS.nil_ _ _ _
 ·exact⟨⟨rfl,.inr ⟨g,0,#[],rfl,hg,hh,Nat.le_refl _,Nat.zero_le _,rfl,rfl⟩⟩,by simp,by omega⟩
def e0u (w:World) (g n:Nat):Prop :=
 g<w.heap.size∧∀ k,k<n→∃(A:Option Addr) (m c:Nat) (xs:List Int),w.cell? ⟨g,k,none⟩=some (.slice A m c)∧m≤c∧Ints w A m xs
theorem e0u.below (h:e0u w g n)(hb:Below w.heap.size w w'):e0u w' g n :=
 ⟨Nat.lt_of_lt_of_le h.1 hb.size,fun k hk=>by
  obtain⟨A,m,c,xs,hc,hm,hI⟩:=h.2 k hk
  exact⟨A,m,c,xs,(hb.cell (p:=⟨g,k,none⟩) h.1).trans hc,hm,hI.below hb⟩⟩
theorem c1n (w:World)(t:TypeId)(cs:Array Value)(xs:List Int)(hc:cs.toList=xs.map (Value.int .i64))(hf:∀ x∈xs,Fits x)(n:Nat)(hl:xs.length=n)(hn:n≤1000):
  Ints (w.alloc (.cells cs t)) (some ⟨w.heap.size,0,none⟩) n xs:=by
 refine⟨hl,by omega,hf,fun _=>⟨_,rfl,by simp,fun j x hj=>?_⟩⟩;rw[Addr.add_lit,Nat.zero_add,World.cell?_alloc_at cs t _ j rfl,←Array.getElem?_toList,hc,List.getElem?_map,hj]
 rfl
theorem a3m (hgd:o.guard=none)(d s:Operand)(dT sT:TypeId)
  (ho:o.op=.call { callee:=.builtin .copy,args:=#[d,s],argTypes:=#[dT,sT] })(elem:TypeId)(hu:P.underlying dT=some (.slice elem))(hsz:(P.info? elem).map (·.size)=some 1)
  {zs:List Int}(hO:Own w base e g n c zs)(hd:a.eval d=.slice (some ⟨g,0,none⟩) n c)
  (hs:a.eval s=.slice A n k)(hI:Ints w A n xs)
  (h:∀ w', Own w' base e g n c xs→w.grownBy w' (some g)→wpList P ops Q rest (a.put o.dst (.int .i64 n)) w'):wpList P ops Q (o::rest) a w:=by
 by_cases h0:n=0
 ·subst h0;refine wpList_copy_nothing hgd d s dT sT ho elem hu hsz _ _ 0 c 0 k hd hs rfl ?_;have hx:xs=zs:=by rw[List.eq_nil_of_length_eq_zero hI.len,List.eq_nil_of_length_eq_zero hO.len]
  exact h w (hx ▸ hO) (World.grownBy.refl _ _)
 ·have hO':=hO;rcases hO'.1 with ⟨hl,hh⟩
  rcases hh with ⟨h', _⟩|⟨g', c', cur,h', hb,hg,hnc,hcm,hcs,hct⟩
  ·simp at h'
  ·simp only[Value.slice.injEq,Option.some.injEq,Addr.mk.injEq,and_true,true_and] at h';obtain⟨rfl,rfl⟩:=h';obtain⟨ad,rfl,_,hcell⟩:=hI.2.2.2 (by omega);have hxl:=hI.len;have hcl:(xs.map (Value.int .i64)).length=Nat.min n n:=by rw[List.length_map,hxl];exact(Nat.min_self n).symm
   refine wpList_copy_own hgd d s dT sT ho elem hu hsz g 0 n c ad n k hd hs cur e hg (xs.map (Value.int .i64)) hcl
    (fun j v hv=>by
     rw[List.getElem?_map,Option.map_eq_some_iff] at hv;obtain⟨x,hx,rfl⟩:=hv
     exact hcell j x hx) (by rw[List.length_map];omega) (fun v hv=>by
     rw[List.mem_map] at hv;obtain⟨x,_,rfl⟩:=hv
     rfl) ?_
   have e1:goInt ((xs.map (Value.int .i64)).length:Nat)=Value.int .i64 n:=by rw[List.length_map,hxl];rfl
   rw[e1];refine h _ ⟨⟨by simp[hxl],.inr ⟨g,c,_,rfl,hb,setRow_heap w g cur _ e _ hg,hnc,hcm,?_,?_⟩⟩,hI.fit,hO.2.2⟩ ⟨rfl,rfl,rfl,by simp[World.setRow],fun j _ hj=>setRow_other w g j _ (fun hh=>hj (by rw[hh]))⟩
   ·simp;omega
   ·simp;rw[List.take_append_of_le_length (by simp;omega),List.take_of_length_le (by simp;omega)]
end Go.Proofs.YtjblengklgkgfaaGreat
namespace Go.Proofs.YtjblengklgkgfaaGreat.Sh
def lin:List Int→List Int→Int
 | _::r,x::q=>x*pd r+lin r q
 | _,_=>0
def sm (ps ws:List Int):Int:=(ps.zip ws).foldl (fun a x=>a+x.1*x.2) 0
theorem sm_take {ps ws:List Int} {k:Nat} {x y:Int} (h:ps[k]?=some x) (g:ws[k]?=some y) :
  sm (ps.take (k+1)) (ws.take (k+1))=sm (ps.take k) (ws.take k)+x*y:=by
 rw[sm,a9z h g,List.foldl_append];rfl
theorem d8q (s p:List Int):∀ a:Int,p.length=s.length→(p.zip (strides s)).foldl (fun a x=>a+x.1*x.2) a=a+lin s p:=by
 induction s generalizing p with
 | nil=>intro a h;cases p <;> simp[strides,lin]
 | cons d r ih =>
  intro a h
  cases p with
  | nil=>simp at h
  | cons x q =>
   rw[strides,List.zip_cons_cons,List.foldl_cons,ih q _ (by simpa using h),lin]
   show a+x*pd r+lin r q=_
   omega
theorem sm_lin {s p:List Int} (h:p.length=s.length):sm p (strides s)=lin s p:=by rw[sm,d8q s p 0 h];simp
theorem c2d (s p:List Int):∀ a:Int,p.length=s.length→(s.zip p).foldl (fun a x=>a*x.1+x.2) a=a*pd s+lin s p:=by
 induction s generalizing p with
 | nil=>intro a h;cases p <;> simp[pd,lin]
 | cons d r ih =>
  intro a h
  cases p with
  | nil=>simp at h
  | cons x q =>
   rw[List.zip_cons_cons,List.foldl_cons,ih q _ (by simpa using h),lin,pd]
   show(a*d+x)*pd r+lin r q=_
   rw[Int.add_mul,Int.mul_assoc];omega
theorem hor_lin {s p:List Int} (h:p.length=s.length):hor s p=lin s p:=by rw[hor,c2d s p 0 h];simp
theorem digits (i P d:Int) (hP:0≤P):i / P % d*P+i % P=i % (d*P):=by
 have e:i / (d*P)=i / P / d:=by rw[Int.mul_comm,Int.ediv_ediv_of_nonneg hP]
 rw[Int.emod_def i (d*P),e,Int.emod_def (i / P) d,Int.emod_def i P,Int.sub_mul];have h1:d*(i / P / d)*P=d*P*(i / P / d):=by rw[Int.mul_assoc,Int.mul_assoc,Int.mul_comm (i / P / d) P]
 have h2:i / P*P=P*(i / P):=Int.mul_comm _ _;omega
theorem lin_place (s:List Int) (hd:∀ x∈s,0≤x∧x≤32) (i:Int):lin s (place s i)=i % pd s:=by
 induction s with
 | nil=>simp[lin,pd,Int.emod_one]
 | cons d r ih =>
  have hr:∀ x∈r,0≤x∧x≤32:=fun x hx=>hd x (by simp[hx])
  rw[place,lin,ih hr,pd,digits _ _ _ (pd_nonneg hr)]
theorem within_iff {s p:List Int}:within s p=true↔∀ x∈s.zip p,0≤x.2∧x.2<x.1:=by
 rw[within,List.all_eq_true]
 constructor <;> intro h x hx <;> simpa using h x hx
theorem within_place {s:List Int} (h:∀ x∈s,1≤x∧x≤32) (i:Int):within s (place s i)=true:=by
 rw[within_iff]
 induction s with
 | nil=>simp[place]
 | cons d r ih =>
  intro x hx;rw[place,List.zip_cons_cons,List.mem_cons] at hx;rcases hx with rfl|hx
  ·have:=h d (by simp);exact⟨Int.emod_nonneg _ (by omega),Int.emod_lt_of_pos _ (by omega)⟩
  ·exact ih (fun x hx=>h x (by simp[hx])) x hx
theorem placeOf_place {s:List Int} {i:Int} (h0:0≤i) (h:i<size s):placeOf s i=place s i:=by rw[placeOf,iP ⟨h0,h⟩]
theorem lin_set {s p:List Int} {a:Nat} {x w:Int} (hx:p[a]?=some x) (hw:(strides s)[a]?=some w) (hl:p.length=s.length) (y:Int) :
  lin s (p.set a y)=lin s p+(y-x)*w:=by
 induction s generalizing p a with
 | nil=>simp[strides] at hw
 | cons d r ih =>
  cases p with
  | nil=>simp at hx
  | cons z q =>
   cases a with
   | zero =>
    simp[strides] at hx hw;subst hx;subst hw
    rw[List.set_cons_zero,lin,lin,Int.sub_mul];omega
   | succ a =>
    rw[List.set_cons_succ,lin,lin,ih (by simpa using hx) (by simpa [strides] using hw) (by simpa using hl)];omega
theorem pd_append (a b:List Int):pd (a++b)=pd a*pd b:=by
 induction a with
 | nil=>simp[pd]
 | cons x a ih=>rw[List.cons_append,pd,pd,ih,Int.mul_assoc]
def iota (s:List Int) (a:Nat):List Int:=(List.range (size s).toNat).map fun (i:Nat)=>(place s (i:Int)).getD a 0
theorem iota_length (s:List Int) (a:Nat):(iota s a).length=(size s).toNat:=by simp[iota]
theorem iota_at {s:List Int} {a i:Nat} (h:(i:Int)<size s):(iota s a)[i]?=some ((place s (i:Int)).getD a 0):=by
 rw[iota,List.getElem?_map,List.getElem?_range (by omega)];rfl
end Go.Proofs.YtjblengklgkgfaaGreat.Sh
