import Derived.Test.YtdcmanhgekjhgaaDoorPax
set_option maxRecDepth 100000
set_option maxHeartbeats 12800000
namespace Go.Proofs.YtdcmanhgekjhgaaDoor
open Go.RowKit Go.Proofs.Tryd
variable {A B:Option Addr} {L:List (List Int)} {a o s:List Int} {c d m n:Nat} {w:World} {y:Int}
theorem c0q (h:a[0]?=some y):a.getD 0 0=y:=by rw[gD,h];rfl
theorem c0r {k:Nat}(h:a[k]?=some y):a.getD k 0=y:=by rw[gD,h];rfl
theorem b9x (a:Addr):a.add 0=a:=by cases a;rfl
theorem Lils.head (h:Lils w A n (s::L)):∃ a B m c,A=some a∧a.block<w.heap.size∧w.cell? a=some (.slice B m c)∧m≤c∧Ints w B m s:=by
 obtain⟨a,B,m,c,h1,h2,h3,h4,h5⟩:=h.2.2 0 s rfl;exact⟨a,B,m,c,h1,h2,by rwa [b9x] at h3,h4,h5⟩
theorem b7t (a:Addr)(j:Nat):(a.add 1).add j=a.add (j+1):=by rw[a7c,Nat.add_comm]
theorem b1x {w1:World}(hL:Lils w1 A n (s::L))(hc:n≤c):∃ A2:Option Addr,(∀ w,(Instr.slice 52 (.slice A n c) (some (.int .i64 1)) none none).run prog w=.ok (.slice A2 (n-1) (c-1)) w)∧Lils w1 A2 (n-1) L:=by
 have hu:prog.underlying 52=some (.slice 31):=by kernel_rfl
 obtain⟨a,B,m,cs,rfl,_⟩:=hL.head;have hn:L.length+1=n:=hL.1;have hn9:=hL.2.1;by_cases hc1:c=1
 ·subst hc1;have h1:n=1:=by omega
  subst h1;obtain rfl:L=[]:=List.eq_nil_of_length_eq_zero (by omega);refine⟨some a,fun w=>?_,rfl,by omega,fun j x hx=>by simp at hx⟩
  go_simp
 ·refine⟨some (a.add 1),fun w=>?_,by omega,by omega,fun j x hx=>?_⟩
  ·have h1:1≤n:=by omega
   have h2:1≤c:=by omega
   go_simp
   intro h;omega
  ·obtain⟨a', B,m,cs,h1,h2,h3,h4,h5⟩:=hL.2.2 (j+1) x hx;injection h1 with h1;subst h1
   exact⟨a.add 1,B,m,cs,rfl,by rw[a0l];exact h2,by rw[b7t];exact h3,h4,h5⟩
theorem b3n (hS:Ints w A n s)(hA:Ints w B m a):
  Calls prog 68 #[.slice A n c,.slice B m d] w (a1m w (a3h s a)):=by
 have C1:=a3c (c:=c) hS;have HSL:=Hd hS.len;have HAL:=Hd hA.len;have hnle:=hS.le;have hmle:=hA.le
 cases hr:Sh.right s with
 | false =>
  rw[hr] at C1;have HX:=Hd (show a3h s a=(13,[]) by rw[a3h,hr];rfl);clear hr hS hA
  go_enter func68,ntmps68
  go_wp2_with fail
  refine C1.mono ?_;rintro e1 w1 ⟨rfl,rfl⟩;clear C1;go_wp2;go_ret2
  exact a0b HX (Below.refl _ _)
 | true =>
  rw[hr] at C1;have HP:=Hd (show a3h s a=if a.length=1∧0≤a.getD 0 0∧a.getD 0 0<s.length then(0,s) else(1,[]) by rw[a3h,hr,iP rfl]);have hn4:n≤4:=by have:=(Sh.right_iff.1 hr).1;have:=HSL.out;omega
  clear hr;by_cases hm:m=1
  ·subst hm;obtain⟨pa,x,hpA,hpb,hx,hcx,hfx⟩:=hA.at_ (k:=0) (by omega);subst hpA;rw[b9x] at hcx;have HX0:=Hd (c0q hx);have C2:=a5a x (A:=A) (n:=n) (c:=c) w;clear hx hfx
   cases hax:axF x n with
   | false =>
    rw[hax] at C2;have HX:=Hd (show a3h s a=(1,[]) by rw[HP.out,iN];rintro⟨_,h1,h2⟩;rw[HX0.out] at h1 h2;rw[HSL.out] at h2;rw[a5s.2 ⟨h1,h2⟩] at hax;cases hax);clear hax hS hA
    go_enter func68,ntmps68
    go_wp2_with fail
    refine C1.mono ?_;rintro e1 w1 ⟨rfl,rfl⟩;clear C1
    go_wp2_with fail
    refine C2.mono ?_;rintro e1 w1 ⟨rfl,rfl⟩;clear C2;go_wp2;go_ret2
    exact a0b HX (Below.refl _ _)
   | true =>
    rw[hax] at C2;have HX:=Hd (show a3h s a=(0,s) by rw[HP.out,iP];have:=a5s.1 hax;rw[HX0.out,HSL.out];exact⟨HAL,this.1,this.2⟩);have C3:=a2c (c:=c) hS (by omega);clear hax hS hA
    go_enter func68,ntmps68
    go_wp2_with fail
    refine C1.mono ?_;rintro e1 w1 ⟨rfl,rfl⟩;clear C1
    go_wp2_with fail
    refine C2.mono ?_;rintro e1 w1 ⟨rfl,rfl⟩;clear C2
    go_wp2_with fail
    refine C3.mono ?_;rintro e2 w2 ⟨⟨v,rfl,hO⟩,hb⟩;have HO:=Hd hO;clear C3 hO;go_wp2;go_ret2;exact a1h HX HO hb
  ·have dm:((m:Int) != 1)=true:=by simp;omega
   have HX:=Hd (show a3h s a=(1,[]) by rw[HP.out,iN];rintro⟨h1,_⟩;have:=HAL.out;omega);clear hm hS hA
   go_enter func68,ntmps68
   go_wp2_with fail
   refine C1.mono ?_;rintro e1 w1 ⟨rfl,rfl⟩;clear C1;go_wp2;go_ret2;exact a0b HX (Below.refl _ _)
theorem c0o {C:Option Addr}{na ca:Nat}{t:List Int}(hS:Ints w A n s)(hT:Ints w B m t)(hA:Ints w C na a)(kn:n≤c)(km:m≤d):
  Calls prog 75 #[.slice A n c,.slice B m d,.slice C na ca] w (a1m w (a8m s t a)):=by
 have HAL:=Hd hA.len;have hmle:=hA.le;by_cases hm:na=1
 ·subst hm;obtain⟨pa,x,hpA,hpb,hx,hcx,hfx⟩:=hA.at_ (k:=0) (by omega);subst hpA;rw[b9x] at hcx;have HX:=Hd (show a8m s t a=dsR s t x by rw[a8m,iP HAL.out,c0q hx]);have C2:=b5g (ca:=c) (cb:=d) x hS hT kn km;clear hx hfx hA hS hT
  go_enter func75,ntmps75
  go_wp2_with fail
  refine C2.mono ?_;rintro e2 w2 ⟨⟨v,k,rfl,hO⟩,hb⟩;have HO:=Hd hO;clear C2 hO;go_wp2;go_ret2;rw[HX.out];exact⟨⟨_,k,rfl,HO⟩,hb⟩
 ·have dm:((na:Int) != 1)=true:=by simp;omega
  have HX:=Hd (show a8m s t a=(1,[]) by rw[a8m,iN];have:=HAL.out;omega);clear hm hA hS hT
  go_enter func75,ntmps75
  go_wp2;go_ret2;exact a0b HX (Below.refl _ _)
theorem b5p (hS:Ints w A n s)(hA:Ints w B m a)(hmd:m≤d)(hr:Sh.right s=true):
  Calls prog 69 #[.slice A n c,.slice B m d] w (a1m w (a1s s a)):=by
 have HSL:=Hd hS.len;have HAL:=Hd hA.len;have hnle:=hS.le;have hmle:=hA.le;have hn4:n≤4:=by have:=(Sh.right_iff.1 hr).1;have:=HSL.out;omega
 by_cases hm:m=n
 ·subst hm;have hmk:=a2m underlying31 Tryd.infoInt (n:=m) (by omega);have h1:=(((Sep.nil w).old hS).old hA).noughts 3 m (by omega);have HRI:=Hd (Sh.right_iff.1 hr).2.1;clear hr
  go_enter func69,ntmps69
  go_upto_region 4 with fail
  generalize w.alloc (.cells (noughts m) 3)=W at *;generalize hgg:w.heap.size=g at *;have HGG:=Hd hgg;have H:=Hd h1;clear h1 hmk hgg
  go_wp2_with fail
  go_loopw [19] (fun iv wr=>∃ k:Nat,iv=.int .i64 k∧k≤m∧(∀ j,j<k→TuAt s a j)∧Sep w wr [.own 3 (.slice (some ⟨g,0,none⟩) m m) m (mix (a7q s a) (List.replicate m 0) k),.ints B m a,.ints A m s]) (fun iv _=>m-(intOf iv).toNat)
  case atStart=>exact⟨0,rfl,by omega,fun j hj=>by omega,by rw[b7c];exact H⟩
  case round =>
   clear H;obtain⟨k,rfl,hk,hall,hSp⟩:=hrel;have H:=Hd hSp;have HALL:=Hd hall;clear hSp hall;by_cases hlt:k<m
   ·obtain⟨pa,x,hpA,hpb,hx,hcx,hfx⟩:=(H.oldInts 1 rfl).at_ (k:=k) hlt;subst hpA;have HX:=Hd hx;have C2:=a5a x (A:=A) (n:=m) (c:=c) wr;clear hx hfx
    cases hax:axF x m with
    | false =>
     rw[hax] at C2
     have HQ:=Hd (show a1s s a=(1,[]) by
      rw[a1s,iN];intro hT;have:=hT.2 k x HX
      rw[a5s.2 ⟨this.1,by have:=HSL.out;omega⟩] at hax;cases hax)
     clear hax
     go_wp2_with fail
     refine C2.mono ?_;rintro e1 w1 ⟨rfl,rfl⟩;clear C2;go_wp2;go_ret2
     exact a0b HQ H.base
    | true =>
     rw[hax] at C2;have hax2:=a5s.1 hax;obtain⟨x,rfl⟩:=eZ hax2.1;have hxm:x<m:=by omega
     have C3:=a6g (c:=d) (x:Int) ((H.oldInts 1 rfl).take (k:=k) (by omega));clear hax hax2
     go_wp2_with fail
     refine C2.mono ?_;rintro e1 w1 ⟨rfl,rfl⟩;clear C2;by_cases hmem:(x:Int)∈a.take k
     ·rw[decide_eq_true hmem] at C3
      have HQ:=Hd (show a1s s a=(1,[]) by
       rw[a1s,iN];intro hT
       exact(hT.2 k x HX).2.2 hmem)
      clear hmem
      go_wp2_with fail
      refine C3.mono ?_;rintro e1 w1 ⟨rfl,rfl⟩;clear C3;go_wp2;go_ret2;exact a0b HQ H.base
     ·rw[decide_eq_false hmem] at C3;obtain⟨ps,y,hpS,hsb,hy,hcy,hfy⟩:=(H.oldInts 2 rfl).at_ (k:=x) hxm;subst hpS;have hO:=H.own 0 rfl;have hfr:=hO.frozen k;have hcz:=hO.cell (j:=k) (x:=0) (c1g (by rw[a4y];exact HAL) hlt)
      have HT:=Hd (show TuAt s a k from fun z hz=>by
       rw[HX.out] at hz;injection hz with hz;subst hz
       exact⟨by omega,by have:=HSL.out;omega,hmem⟩)
      have hst:=H.store 0 k (x:=y) hfy rfl;rw[b7b (by rw[a4y];exact HAL.out) (c5t HX.out (by rw[Int.toNat_natCast];exact hy))] at hst;have HST:=Hd hst;clear hmem hO hst hy hfy
      go_wp2_with fail
      refine C3.mono ?_;rintro e1 w1 ⟨rfl,rfl⟩;clear C3;go_wp2;go_roundw
      case rel=>exact⟨k+1,by go_num,by omega,fun j hj=>by
       rcases Nat.lt_or_ge j k with h' | h'
       ·exact HALL j h'
       ·obtain rfl:j=k:=by omega
        exact HT,HST⟩
      case measure=>simp[intOf];omega
   ·obtain rfl:k=m:=by omega
    have HQ:=Hd (show a1s s a=(0,a7q s a) by
     rw[a1s,iP];refine⟨by have:=HSL.out;have:=HAL.out;omega,fun j x hx=>?_⟩
     exact HALL j (by have:=(lL hx);have:=HAL.out;omega) x hx)
    have HE:=Hd (show mix (a7q s a) (List.replicate k 0) k=a7q s a from c1f (by rw[a4y];exact HAL));go_wp2;go_ret2;exact a1h HQ (by have:=H.ownS 0 rfl;rw[HE.out] at this;exact this) H.base
 ·have dm:((m:Int) != (n:Int))=true:=by simp;omega
  have HX:=Hd (show a1s s a=(1,[]) by rw[a1s,iN];rintro⟨h1,_⟩;have:=HAL.out;have:=HSL.out;omega);clear hm hA hS hr
  go_enter func69,ntmps69
  go_wp2;go_ret2;exact a0b HX (Below.refl _ _)
theorem c2u:SpOk s o a↔a.length=s.length∧a5r a o.length∧∀(k:Nat) (x y:Int),a[k]?=some x→s[k]?=some y→o[x.toNat]?=some y:=by
 constructor
 ·intro h;refine⟨h.1,fun k x hx=>?_,fun k x y hx hy=>(h.2 k x y hx hy).2.2.2⟩;obtain⟨y,hy⟩:=a2d (l:=s) (k:=k) (by rw[←h.1];exact(lL hx));have:=h.2 k x y hx hy;exact⟨this.1,this.2.1,this.2.2.1⟩
 ·rintro⟨hl,h,g⟩;refine⟨hl,fun k x y hx hy=>?_⟩;have:=h k x hx;exact⟨this.1,this.2.1,this.2.2,g k x y hx hy⟩
theorem b5o {O:Option Addr}{no co:Nat}(hS:Ints w A n s)(hO:Ints w O no o)(hA:Ints w B m a):
  Calls prog 70 #[.slice A n c,.slice O no co,.slice B m d] w (a1m w (a1l s o a)):=by
 have C1:=a3c (c:=co) hO;have HSL:=Hd hS.len;have HOL:=Hd hO.len;have HAL:=Hd hA.len;have hnle:=hS.le;have hole:=hO.le;have hmle:=hA.le
 cases hr:Sh.right o with
 | false =>
  rw[hr] at C1;have HX:=Hd (show a1l s o a=(13,[]) by rw[a1l,hr];rfl);clear hr hS hA hO
  go_enter func70,ntmps70
  go_wp2_with fail
  refine C1.mono ?_;rintro e1 w1 ⟨rfl,rfl⟩;clear C1;go_wp2;go_ret2
  exact a0b HX (Below.refl _ _)
 | true =>
  rw[hr] at C1;have HPY:=Hd (show SpOk s o a→a1l s o a=(0,o) from fun h=>by rw[a1l,hr,iP rfl,iP h]);have HPN:=Hd (show ¬ SpOk s o a→a1l s o a=(1,[]) from fun h=>by rw[a1l,hr,iP rfl,iN h]);have hn4:no≤4:=by have:=(Sh.right_iff.1 hr).1;have:=HOL.out;omega
  clear hr;by_cases hm:m=n
  ·subst hm;have C2:=a9e (c:=d) (S:=O) (d:=co) hA hn4;by_cases hri:a5r a no
   ·rw[b0j hri] at C2;have HRI:=Hd hri;clear hri;have h1:=(((Sep.nil w).old hS).old hA).old hO
    go_enter func70,ntmps70
    go_wp2_with fail
    refine C1.mono ?_;rintro e1 w1 ⟨rfl,rfl⟩;clear C1
    go_wp2_with fail
    refine C2.mono ?_;rintro e1 w1 ⟨rfl,rfl⟩;clear C2
    go_wp2_with fail
    go_loopw [26] (fun iv wr=>∃ k:Nat,iv=.int .i64 k∧k≤m∧(∀(j:Nat) (x y:Int),j<k→a[j]?=some x→s[j]?=some y→o[x.toNat]?=some y)∧Sep w wr [.ints O no o,.ints B m a,.ints A m s]) (fun iv _=>m-(intOf iv).toNat)
    case atStart=>exact⟨0,rfl,by omega,fun j x y hj=>by omega,h1⟩
    case round =>
     clear h1;obtain⟨k,rfl,hk,hall,hSp⟩:=hrel;have H:=Hd hSp;have HALL:=Hd hall;clear hSp hall;by_cases hlt:k<m
     ·obtain⟨pa,x,hpA,hpb,hx,hcx,hfx⟩:=(H.oldInts 1 rfl).at_ (k:=k) hlt;subst hpA;obtain⟨ps,y,hpS,hpb2,hy,hcy,hfy⟩:=(H.oldInts 2 rfl).at_ (k:=k) hlt;subst hpS;have hxr:=HRI.out k x hx;obtain⟨x,rfl⟩:=eZ hxr.1;have hxo:x<no:=by omega
      obtain⟨po,z,hpO,hpb3,hz,hcz,hfz⟩:=(H.oldInts 0 rfl).at_ (k:=x) hxo;subst hpO;have HX:=Hd hx;have HY:=Hd hy;have HZ:=Hd hz;clear hx hy hz hfx hfy hfz hxr;by_cases hzy:z=y
      ·subst hzy
       go_wp2_with fail
       go_quiet (fail)
       go_wp2;go_roundw
       case rel=>exact⟨k+1,by go_num,by omega,fun j u v hj hu hv=>by
        rcases Nat.lt_or_ge j k with h' | h'
        ·exact HALL j u v h' hu hv
        ·obtain rfl:j=k:=by omega
         rw[HX.out] at hu;injection hu with hu;subst hu
         rw[HY.out] at hv;injection hv with hv;subst hv
         rw[Int.toNat_natCast];exact HZ,H.drewN _⟩
       case measure=>simp[intOf];omega
      ·have dz:(z != y)=true:=by simpa using hzy
       have HQ:=Hd (show a1l s o a=(1,[]) by
        refine HPN fun hT=>?_
        have h9:=(hT.2 k x y HX HY).2.2.2;rw[Int.toNat_natCast,HZ.out] at h9
        injection h9 with h9;exact hzy h9)
       clear hzy
       go_wp2_with fail
       go_quiet (fail)
       go_wp2;go_ret2;exact a0b HQ (H.drewN _).base
     ·obtain rfl:k=m:=by omega
      have HQ:=Hd (show a1l s o a=(0,o) by
       refine HPY (c2u.2 ?_);refine⟨by have:=HSL.out;have:=HAL.out;omega,by rw[HOL.out];exact HRI,fun j x y hx hy=>?_⟩
       exact HALL j x y (by have:=(lL hx);have:=HAL.out;omega) hx hy)
      have C3:=a2c (c:=co) (H.oldInts 0 rfl) (by omega)
      go_wp2_with fail
      refine C3.mono ?_;rintro e2 w2 ⟨⟨v,rfl,hO⟩,hb⟩;have H2:=Hd (H.addOwn hb hO);clear C3 hO hb;go_wp2;go_ret2;exact a1h HQ (H2.ownS 0 rfl) H2.base
   ·rw[a8r hri] at C2;have HX:=Hd (show a1l s o a=(1,[]) by refine HPN fun h=>?_;exact hri (by have:=(c2u.1 h).2.1;rwa [HOL.out] at this));clear hri hS hA hO
    go_enter func70,ntmps70
    go_wp2_with fail
    refine C1.mono ?_;rintro e1 w1 ⟨rfl,rfl⟩;clear C1
    go_wp2_with fail
    refine C2.mono ?_;rintro e1 w1 ⟨rfl,rfl⟩;clear C2;go_wp2;go_ret2;exact a0b HX (Below.refl _ _)
  ·have dm:((m:Int) != (n:Int))=true:=by simp;omega
   have HX:=Hd (show a1l s o a=(1,[]) by refine HPN ?_;rintro⟨h1,_⟩;have:=HAL.out;have:=HSL.out;omega);clear hm hA hS hO
   go_enter func70,ntmps70
   go_wp2_with fail
   refine C1.mono ?_;rintro e1 w1 ⟨rfl,rfl⟩;clear C1;go_wp2;go_ret2;exact a0b HX (Below.refl _ _)
end Go.Proofs.YtdcmanhgekjhgaaDoor
