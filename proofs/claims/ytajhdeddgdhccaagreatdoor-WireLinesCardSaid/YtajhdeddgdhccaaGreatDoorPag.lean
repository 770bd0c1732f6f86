import Derived.Test.YtajhdeddgdhccaaGreatDoorPae
set_option maxRecDepth 100000
set_option maxHeartbeats 12800000
namespace Go.Proofs.YtajhdeddgdhccaaGreatDoor
open Go.RowKit Go.Proofs.Tryz
variable {A B:Option Addr} {c d m n:Nat} {w:World} {xs ys:List Int}
theorem a0n (h:Ints w A n xs):
  Calls prog 43 #[.slice A n c] w fun e w'=>e=.returned (.bool (Sh.right xs))∧w=w':=by
 have hn:=h.len;have hle:=h.le
 go_enter func43,ntmps43
 go_wp2
 go_loop [3,4] (fun p i=>∃ k:Nat,k≤n∧k≤4∧i=.int .i64 k∧p=.int .i64 (Sh.pr (xs.take k))∧∀ x∈xs.take k,0≤x∧x≤32) (fun _ i=>n-(intOf i).toNat)
 case atStart=>exact⟨0,Nat.zero_le _,Nat.zero_le _,rfl,rfl,by simp⟩
 case round =>
  obtain⟨k,hk,hk4,rfl,rfl,hd⟩:=hrel;have H2:=Hd hn;clear hn;by_cases hlt:k<n
  ·obtain⟨ad,x,rfl,hb,hx,hc,hf⟩:=h.at_ hlt;have H:=Hd hx;clear hx;have HD:=Hd hd;clear hd;by_cases hx0:0≤x∧x≤32
   ·obtain⟨hx1,hx2⟩:=hx0;by_cases hk3:k<4
    ·have hall:∀ y∈xs.take (k+1),0≤y∧y≤32:=by
      intro y hy;rw[List.take_add_one,H.out] at hy;simp at hy;rcases hy with hy|rfl
      ·exact HD y hy
      ·exact⟨hx1,hx2⟩
     have hm:=Sh.pr_small (xs.take (k+1)) hall (by have:=H2.out;simp;omega);rw[Sh.pr_take _ H.out] at hm;obtain⟨hm1,hm2⟩:=hm;have HA:=Hd hall;clear hall;go_wp2;go_round
     case rel=>exact⟨k+1,by omega,by omega,by go_num,by rw[Sh.pr_take _ H.out],HA⟩
     case measure=>simp[intOf];omega
    ·have HR:=Hd (Sh.not_right_long (s:=xs) (by have:=H2.out;omega));go_wp2;go_ret;exact⟨a0c HR.symm,rfl⟩
   ·have HR:=Hd (Sh.not_right_dim H hx0);by_cases hx1:x<0
    ·go_wp2;go_ret;exact⟨a0c HR.symm,rfl⟩
    ·have hx2:32<x:=by omega
     go_wp2;go_ret;exact⟨a0c HR.symm,rfl⟩
  ·have hkn:k=n:=by omega
   have ht:xs.take k=xs:=List.take_of_length_le (by have:=H2.out;omega);rw[ht] at hd ⊢;have hb:=Sh.pr_small xs hd (by have:=H2.out;omega);have HR:=Hd (Sh.right_small (by have:=H2.out;omega) hd);have HD:=Hd hd;clear hd;have HT:=Hd ht;clear ht;have HK:=Hd hkn;clear hkn;go_wp2;go_ret;exact⟨a0c HR.symm,rfl⟩
theorem a1s (h:Ints w A n xs):
  Calls prog 19 #[.slice A n c] w fun e w'=>e=.returned (.int .i64 (Sh.size xs))∧w=w':=by
 have hn:=h.len;have hle:=h.le
 cases hr:Sh.right xs with
 | false =>
  have H2:=Hd hn;clear hn;have HR:=Hd hr;clear hr
  go_enter func19,ntmps19
  go_wp2_with (go_at_call 43;refine(a0n h).mono ?_;rw[HR.out];rintro e w' ⟨rfl,rfl⟩)
  go_ret
  exact⟨a3v (Sh.size_not HR).symm,rfl⟩
 | true =>
  obtain⟨hl4,hd,hbig⟩:=Sh.right_iff.1 hr;have H2:=Hd hn;clear hn;have HR:=Hd hr;clear hr;have HD:=Hd hd;clear hd
  go_enter func19,ntmps19
  go_wp2_with (go_at_call 43;refine(a0n h).mono ?_;rw[HR.out];rintro e w' ⟨rfl,rfl⟩)
  go_loop [3,4] (fun p i=>∃ k:Nat,k≤n∧i=.int .i64 k∧p=.int .i64 (Sh.pr (xs.take k))) (fun _ i=>n-(intOf i).toNat)
  case atStart=>exact⟨0,Nat.zero_le _,rfl,rfl⟩
  case round =>
   obtain⟨k,hk,rfl,rfl⟩:=hrel;by_cases hlt:k<n
   ·obtain⟨ad,x,rfl,hb,hx,hc,hf⟩:=h.at_ hlt;have hm:=Sh.pr_small (xs.take (k+1)) (fun y hy=>HD.out y (List.mem_of_mem_take hy)) (by have:=H2.out;simp;omega);rw[Sh.pr_take _ hx] at hm;obtain⟨hm1,hm2⟩:=hm;have H:=Hd hx;clear hx;go_wp2;go_round
    case rel=>exact⟨k+1,by omega,by go_num,by rw[Sh.pr_take _ H.out]⟩
    case measure=>simp[intOf];omega
   ·have ht:xs.take k=xs:=List.take_of_length_le (by have:=H2.out;omega);rw[ht];have HT:=Hd ht;clear ht;go_wp2;go_ret;exact⟨a3v (Sh.size_of HR).symm,rfl⟩
theorem a6c (h:Ints w A n xs)(g:Ints w B m ys):
  Calls prog 91 #[.slice A n c,.slice B m d] w fun e w'=>e=.returned (.int .i64 (Sh.index xs ys))∧∃ k,w'=w.drewN k:=by
 have hn:=h.len;have hm:=g.len;have hle:=h.le;have hme:=g.le
 cases hr:Sh.right xs with
 | false =>
  have HX:=Hd (Sh.index_right (p:=ys) hr);have HR:=Hd hr;clear hr;have H1:=Hd hn;clear hn;have H2:=Hd hm;clear hm
  go_enter func91,ntmps91
  go_wp2_with (go_at_call 43;refine(a0n h).mono ?_;rw[HR.out];rintro e w' ⟨rfl,rfl⟩)
  go_ret
  exact⟨a3v HX.symm,0,rfl⟩
 | true =>
  have H1:=Hd hn;clear hn;have H2:=Hd hm;clear hm;by_cases hnm:m=n
  ·have HR:=Hd hr;clear hr;subst hnm
   go_enter func91,ntmps91
   go_wp2_with (go_at_call 43;refine(a0n h).mono ?_;rw[HR.out];rintro e w' ⟨rfl,rfl⟩)
   go_loopw [5,6] (fun p i wr=>∃ k:Nat,k≤m∧i=.int .i64 k∧p=.int .i64 (Sh.hor (xs.take k) (ys.take k))∧Sh.within (xs.take k) (ys.take k)=true∧∃ q,wr=w.drewN q) (fun _ i _=>m-(intOf i).toNat)
   case atStart=>exact⟨0,Nat.zero_le _,rfl,rfl,rfl,0,rfl⟩
   case round =>
    obtain⟨k,hk,rfl,rfl,hd,q,rfl⟩:=hrel;have HD:=Hd hd;clear hd;by_cases hlt:k<m
    ·obtain⟨ad,x,rfl,hb,hx,hc,hf⟩:=h.at_ hlt;obtain⟨bd,y,rfl,hb', hy,hc', hf'⟩:=g.at_ hlt;have H:=Hd hx;clear hx;have G:=Hd hy;clear hy;by_cases hy0:0≤y∧y<x
     ·obtain⟨hy1,hy2⟩:=hy0;have hw:=Hd (p:=Sh.within (xs.take (k+1)) (ys.take (k+1))=true) (by rw[Sh.within_take H.out G.out,HD.out];simp[hy1,hy2]);have hs:=Sh.hor_small HR (H1.trans H2.symm) (k+1) hw;rw[Sh.hor_take H.out G.out] at hs;obtain⟨hs1,hs2⟩:=hs;have hs':=Sh.hor_small HR (H1.trans H2.symm) k HD;have hp0:0≤Sh.hor (xs.take k) (ys.take k)*x:=Int.mul_nonneg hs'.1 (by omega);have hp1:Sh.hor (xs.take k) (ys.take k)*x≤1048576:=by omega
      clear hs';have hd1:decide (y<0)=false:=by simp;omega
      have hd2:decide (x≤y)=false:=by simp;omega
      go_wp2
      go_quiet (fail)
      go_wp2
      go_quiet (fail)
      go_wp2;go_roundw
      case rel=>exact⟨k+1,by omega,by go_num,by rw[Sh.hor_take H.out G.out],hw,_,rfl⟩
      case measure=>simp[intOf];omega
     ·have HX:=Hd (Sh.index_out H G hy0);by_cases hy1:y<0
      ·have hd1:decide (y<0)=true:=by simpa using hy1
       go_wp2
       go_quiet (fail)
       go_wp2;go_ret;exact⟨a3v HX.symm,_,World.drewN_drewN _ _ _⟩
      ·have hy2:x≤y:=by omega
       have hd1:decide (y<0)=false:=by simpa using hy1
       have hd2:decide (x≤y)=true:=by simpa using hy2
       go_wp2
       go_quiet (fail)
       go_wp2;go_ret;exact⟨a3v HX.symm,_,World.drewN_drewN _ _ _⟩
    ·have ht:xs.take k=xs:=List.take_of_length_le (by have:=H1.out;omega);have ht' : ys.take k=ys:=List.take_of_length_le (by have:=H2.out;omega);have hd:=HD.out;rw[ht,ht'] at hd ⊢;have HX:=Hd (Sh.index_of HR (H2.trans H1.symm) hd);clear ht ht' hd;go_wp2;go_ret;exact⟨a3v HX.symm,_,rfl⟩
  ·have HX:=Hd (Sh.index_len (s:=xs) (p:=ys) (by have:=H1.out;have:=H2.out;omega));have hb:((m:Int) != (n:Int))=true:=by simp;omega
   have HR:=Hd hr;clear hr
   go_enter func91,ntmps91
   go_wp2_with (go_at_call 43;refine(a0n h).mono ?_;rw[HR.out];rintro e w' ⟨rfl,rfl⟩)
   go_ret;exact⟨a3v HX.symm,0,rfl⟩
theorem a5t (h:Ints w A n xs)(g:Ints w B m ys):
  Calls prog 58 #[.slice A n c,.slice B m d] w fun e w'=>e=.returned (.bool (xs==ys))∧∃ k,w'=w.drewN k:=by
 have hn:=h.len;have hm:=g.len;have hle:=h.le;have hme:=g.le;by_cases hnm:n=m
 ·subst hnm;have H1:=Hd hn;clear hn;have H2:=Hd hm;clear hm
  go_enter func58,ntmps58
  go_wp2
  go_loopw [5] (fun i wr=>∃ k:Nat,k≤n∧i=.int .i64 k∧xs.take k=ys.take k∧∃ q,wr=w.drewN q) (fun i _=>n-(intOf i).toNat)
  case atStart=>exact⟨0,Nat.zero_le _,rfl,rfl,0,rfl⟩
  case round =>
   obtain⟨k,hk,rfl,hd,q,rfl⟩:=hrel;have HD:=Hd hd;clear hd;by_cases hlt:k<n
   ·obtain⟨ad,x,rfl,hb,hx,hc,hf⟩:=h.at_ hlt;obtain⟨bd,y,rfl,hb', hy,hc', hf'⟩:=g.at_ hlt;have H:=Hd hx;clear hx;have G:=Hd hy;clear hy;by_cases hxy:x=y
    ·subst hxy;go_wp2
     go_quiet (fail)
     go_wp2;go_roundw
     case rel=>exact⟨k+1,by omega,by go_num,c0n H G HD,_,rfl⟩
     case measure=>simp[intOf];omega
    ·have HX:=Hd (c3o H G hxy);have hb:(x != y)=true:=by simpa using hxy
     go_wp2
     go_quiet (fail)
     go_wp2;go_ret;exact⟨a0c HX.symm,_,World.drewN_drewN _ _ _⟩
   ·have HX:=Hd (b5x H1 H2 (by omega) HD);go_wp2;go_ret;exact⟨a0c HX.symm,_,rfl⟩
 ·have HX:=Hd (p:=(xs==ys)=false) (by rw[beq_eq_false_iff_ne];rintro rfl;exact hnm (hn.symm.trans hm));have H1:=Hd hn;clear hn;have H2:=Hd hm;clear hm;have hb:((n:Int) != (m:Int))=true:=by simp;omega
  go_enter func58,ntmps58
  go_wp2;go_ret;exact⟨a0c HX.symm,0,rfl⟩
theorem c0a (i:Int)(h:Ints w A n xs)(hif:Fits i):
  Calls prog 86 #[.slice A n c,.int .i64 i] w fun e w'=>b8l w (Sh.placeOf xs i) e w':=by
 have hn:=h.len;have hle:=h.le;have hsb:=Sh.size_bd xs;obtain⟨hsb1,hsb2⟩:=hsb;obtain⟨hi1,hi2⟩:=hif;by_cases hok:0≤i∧i<Sh.size xs
 ·obtain⟨hr,hd⟩:=Sh.size_pos hok.1 hok.2;have HP:=Hd (p:=Sh.placeOf xs i=Sh.place xs i) (by rw[Sh.placeOf,iP hok]);obtain⟨hi0,his⟩:=hok;have hl4:=(Sh.right_iff.1 hr).1;have hn4:n≤4:=by omega
  have HD:Hid (∀ x∈xs,0≤x∧x≤32):=Hd fun x hx=>⟨by have:=hd x hx;omega,(hd x hx).2⟩
  have H1:=Hd hn;clear hn;have HR:=Hd hr;clear hr;have HE:=Hd hd;clear hd;obtain⟨i0,hi,hz0,hz1,hz2⟩:=info_parts Tryz.infoInt;rw[HP.out]
  go_enter func86,ntmps86
  go_wp2_with (first|(go_at_call 19;refine(a1s h).mono ?_;rintro e w' ⟨rfl,rfl⟩)|(at_make;refine wpList_make_full _ rfl _ _ _ rfl _ _ i0 (.int .i64 0) 1 underlying23 hi hz0 hz1 .i64 .i64 _ _ n rfl rfl rfl rfl ?c1 ?c2 (Nat.le_refl _) ?_))
  case c1=>rw[hz2];omega
  case c2=>unfold maxLen;omega
  intro w1 hown hgr;have hO:=c3s (by omega) hown;have hB:Below w.heap.size w w1:=(Below.refl _ _).grown hgr (Nat.le_refl _) (by simp);have hsz:=hgr.size;clear hown hgr;go_wp2
  go_loopw [1,6] (fun p a wr=>∃(m:Nat) (k:Int),k+1=m∧m≤n∧a=.int .i64 k∧p=.int .i64 (i / Sh.pd (xs.drop m))∧∃ ys,Own wr w.heap.size 3 w.heap.size n n ys∧From m ys (Sh.place xs i)∧Below w.heap.size w wr) (fun _ a _=>(intOf a+1).toNat)
  case atStart =>
   refine⟨n,_,by omega,by omega,rfl,?_,_,hO,⟨?_,?_⟩,hB⟩
   ·rw[List.drop_eq_nil_of_le (by have:=H1.out;omega)];simp[Sh.pd]
   ·simp[Sh.place_length,H1.out]
   ·intro j hj;rw[List.getElem?_eq_none (by simp;omega),List.getElem?_eq_none (by rw[Sh.place_length,H1.out];omega)]
  case round =>
   clear hO hB hsz;obtain⟨m,k,hkm,hk2,rfl,rfl,ys,hO,hF,hB⟩:=hrel;by_cases hk0:0≤k
   ·obtain⟨m,rfl⟩:=eZ hk0;rename_i m0;obtain rfl:m0=m+1:=by omega
    have hmn:m<n:=by omega
    have h':=h.below hB;obtain⟨ad,x,rfl,hb,hx,hc,hf⟩:=h'.at_ hmn;obtain⟨hx1,hx2⟩:=HE.out x (mG hx);have hc2:wr.cell? ⟨w.heap.size,m,none⟩=some (.int .i64 (ys.getD m 0)):=hO.cell (by have:=hO.len;simp[List.getElem?_eq_getElem (by omega:m<ys.length)]);have hfz:=hO.frozen m;have hq:=Sh.pd_small HD hl4 (m+1);have hd0:0≤i / Sh.pd (xs.drop (m+1)):=Int.ediv_nonneg hi0 hq.1;have hd1:i / Sh.pd (xs.drop (m+1))≤9223372036854775807:=Int.le_trans (Int.ediv_le_self _ hi0) hi2;have hm0:0≤i / Sh.pd (xs.drop (m+1)) % x:=Int.emod_nonneg _ (by omega);have hm1:i / Sh.pd (xs.drop (m+1)) % x<x:=Int.emod_lt_of_pos _ (by omega);have HS:=Hd (Sh.left_step (i:=i) hx HD);have hO2:=hO.store m (u:=i / Sh.pd (xs.drop (m+1)) % x) ⟨by omega,by omega⟩;have hF2:=hF.set_ (Sh.place_at (i:=i) hx);have hB2:=hB.setCell (p:=⟨w.heap.size,m,none⟩) (Nat.le_refl _) (.int .i64 (i / Sh.pd (xs.drop (m+1)) % x));have hc3:(wr.setCell ⟨w.heap.size,m,none⟩ (.int .i64 (i / Sh.pd (xs.drop (m+1)) % x))).cell? (ad.add m)=some (.int .i64 x):=(h.below hB2).get hx;have HX:=Hd hx;clear hx hkm hk0 hO hF hB h' hq;go_wp2;go_roundw
    case rel=>exact⟨m,_,by omega,by omega,rfl,by rw[HS.out],_,hO2,hF2,hB2⟩
    case measure=>simp[intOf]
   ·obtain rfl:m=0:=by omega
    obtain rfl:k = -1:=by omega
    have HF:=Hd hF;clear hF;go_wp2;go_ret;rw[←HF.zero];exact b8l.own hO hB
 ·have HP:=Hd (p:=Sh.placeOf xs i=[]) (by rw[Sh.placeOf,iN hok]);rw[HP.out];have H1:=Hd hn;clear hn;by_cases hi0:i<0
  ·go_enter func86,ntmps86
   go_wp2_with (go_at_call 19;refine(a1s h).mono ?_;rintro e w' ⟨rfl,rfl⟩)
   go_ret;exact b8l.none_ w
  ·have hi3:Sh.size xs≤i:=by omega
   clear hok
   go_enter func86,ntmps86
   go_wp2_with (go_at_call 19;refine(a1s h).mono ?_;rintro e w' ⟨rfl,rfl⟩)
   go_ret;exact b8l.none_ w
def a8r:List Int:=[9223372036854775807,-9223372036854775808,4611686018427387904,-1099511627776,8589934592,3037000500]
theorem c7o (r:Nat)(h:r<6):∃ x:Int,a8r[r]?=some x∧Fits x:=by
 have:r=0∨r=1∨r=2∨r=3∨r=4∨r=5:=by omega
 rcases this with rfl|rfl|rfl|rfl|rfl|rfl <;> exact⟨_,rfl,by constructor <;> decide⟩
end Go.Proofs.YtajhdeddgdhccaaGreatDoor
namespace Go.Proofs.YtajhdeddgdhccaaGreatDoor.Sh
def lin:List Int→List Int→Int
 | _::r,x::q=>x*pd r+lin r q
 | _,_=>0
theorem b7k (s p:List Int):∀ a:Int,p.length=s.length→(s.zip p).foldl (fun a x=>a*x.1+x.2) a=a*pd s+lin s p:=by
 induction s generalizing p with
 | nil=>intro a h;cases p <;> simp[pd,lin]
 | cons d r ih =>
  intro a h
  cases p with
  | nil=>simp at h
  | cons x q =>
   rw[List.zip_cons_cons,List.foldl_cons,ih q _ (by simpa using h),lin,pd]
   show(a*d+x)*pd r+lin r q=_
   rw[Int.add_mul,Int.mul_assoc];omega
theorem hor_lin {s p:List Int} (h:p.length=s.length):hor s p=lin s p:=by rw[hor,b7k s p 0 h];simp
theorem digits (i P d:Int) (hP:0≤P):i / P % d*P+i % P=i % (d*P):=by
 have e:i / (d*P)=i / P / d:=by rw[Int.mul_comm,Int.ediv_ediv_of_nonneg hP]
 rw[Int.emod_def i (d*P),e,Int.emod_def (i / P) d,Int.emod_def i P,Int.sub_mul];have h1:d*(i / P / d)*P=d*P*(i / P / d):=by rw[Int.mul_assoc,Int.mul_assoc,Int.mul_comm (i / P / d) P]
 have h2:i / P*P=P*(i / P):=Int.mul_comm _ _;omega
theorem lin_place (s:List Int) (hd:∀ x∈s,0≤x∧x≤32) (i:Int):lin s (place s i)=i % pd s:=by
 induction s with
 | nil=>simp[lin,pd,Int.emod_one]
 | cons d r ih =>
  have hr:∀ x∈r,0≤x∧x≤32:=fun x hx=>hd x (by simp[hx])
  rw[place,lin,ih hr,pd,digits _ _ _ (pd_nonneg hr)]
theorem within_iff {s p:List Int}:within s p=true↔∀ x∈s.zip p,0≤x.2∧x.2<x.1:=by
 rw[within,List.all_eq_true]
 constructor <;> intro h x hx <;> simpa using h x hx
theorem within_place {s:List Int} (h:∀ x∈s,1≤x∧x≤32) (i:Int):within s (place s i)=true:=by
 rw[within_iff]
 induction s with
 | nil=>simp[place]
 | cons d r ih =>
  intro x hx;rw[place,List.zip_cons_cons,List.mem_cons] at hx;rcases hx with rfl|hx
  ·have:=h d (by simp);exact⟨Int.emod_nonneg _ (by omega),Int.emod_lt_of_pos _ (by omega)⟩
  ·exact ih (fun x hx=>h x (by simp[hx])) x hx
theorem placeOf_place {s:List Int} {i:Int} (h0:0≤i) (h:i<size s):placeOf s i=place s i:=by rw[placeOf,iP ⟨h0,h⟩]
theorem pd_append (a b:List Int):pd (a++b)=pd a*pd b:=by
 induction a with
 | nil=>simp[pd]
 | cons x a ih=>rw[List.cons_append,pd,pd,ih,Int.mul_assoc]
def iota (s:List Int) (a:Nat):List Int:=(List.range (size s).toNat).map fun (i:Nat)=>(place s (i:Int)).getD a 0
theorem iota_length (s:List Int) (a:Nat):(iota s a).length=(size s).toNat:=by simp[iota]
theorem iota_at {s:List Int} {a i:Nat} (h:(i:Int)<size s):(iota s a)[i]?=some ((place s (i:Int)).getD a 0):=by
 rw[iota,List.getElem?_map,List.getElem?_range (by omega)];rfl
end Go.Proofs.YtajhdeddgdhccaaGreatDoor.Sh
