import Derived.PlainAid
import Derived.Test.YtdcmanhgekjhgaaDoorRows
import Derived.Test.YtdcmanhgekjhgaaDoorPaa
set_option maxRecDepth 100000
set_option maxHeartbeats 12800000
namespace Go.Proofs.YtdcmanhgekjhgaaDoor.Sh
def pr (l:List Int):Int:=l.foldl (· * ·) 1
def c4f (x:Int):Bool:=decide (0≤x)&&decide (x≤32)
def right (s:List Int):Bool:=decide (s.length≤4)&&s.all c4f&&decide (pr s≤4096)
def size (s:List Int):Int:=if right s then pr s else 0
theorem c7m (l:List Int) (x:Int):pr (l++[x])=pr l*x:=by simp[pr]
theorem pr_take (l:List Int) {k:Nat} {x:Int} (h:l[k]?=some x):pr (l.take (k+1))=pr (l.take k)*x:=by
 rw[List.take_add_one,h];exact c7m _ _
theorem c3z (l:List Int) (h:∀ x∈l,0≤x∧x≤32):∀ a:Int,0≤a→0≤l.foldl (· * ·) a∧l.foldl (· * ·) a≤a*32 ^ l.length:=by
 induction l with
 | nil=>intro a ha;simp;exact ha
 | cons x l ih =>
  intro a ha;have hx:=h x (by simp);have hl:=ih (fun y hy=>h y (by simp[hy])) (a*x) (Int.mul_nonneg ha hx.1);refine⟨hl.1,Int.le_trans hl.2 ?_⟩;have e:a*(32:Int) ^ (x::l).length=a*32*32 ^ l.length:=by rw[List.length_cons,Int.pow_succ,Int.mul_comm (32 ^ l.length) 32,←Int.mul_assoc]
  rw[e];exact Int.mul_le_mul_of_nonneg_right (Int.mul_le_mul_of_nonneg_left hx.2 ha) (Int.pow_nonneg (by omega))
theorem c8r (l:List Int) (h:∀ x∈l,0≤x∧x≤32):0≤pr l∧pr l≤32 ^ l.length:=by
 have:=c3z l h 1 (by omega);simpa [pr] using this
theorem pr_small (l:List Int) (h:∀ x∈l,0≤x∧x≤32) (hl:l.length≤4):0≤pr l∧pr l≤1048576:=by
 have hb:=c8r l h;refine⟨hb.1,Int.le_trans hb.2 ?_⟩;have:l.length=0∨l.length=1∨l.length=2∨l.length=3∨l.length=4:=by omega
 rcases this with e|e|e|e|e <;> rw[e] <;> decide
theorem c0z {x:Int}:c4f x=true↔0≤x∧x≤32:=by simp[c4f]
theorem c6m {l:List Int}:l.all c4f=true↔∀ x∈l,0≤x∧x≤32:=by simp[List.all_eq_true,c0z]
theorem right_iff {s:List Int}:right s=true↔s.length≤4∧(∀ x∈s,0≤x∧x≤32)∧pr s≤4096:=by
 simp only[right,Bool.and_eq_true,decide_eq_true_eq,c6m,and_assoc]
theorem not_right_long {s:List Int} (h:¬ s.length≤4):right s=false:=by simp[right,h]
theorem not_right_dim {s:List Int} {k:Nat} {x:Int} (h:s[k]?=some x) (hx:¬(0≤x∧x≤32)):right s=false:=by
 cases e:right s with
 | false=>rfl
 | true=>exact absurd ((right_iff.1 e).2.1 x (mG h)) hx
theorem not_right_big {s:List Int} (h:¬ pr s≤4096):right s=false:=by simp[right,h]
theorem size_of {s:List Int} (h:right s=true):size s=pr s:=by simp[size,h]
theorem size_not {s:List Int} (h:right s=false):size s=0:=by simp[size,h]
theorem size_bd (s:List Int):0≤size s∧size s≤4096:=by
 unfold size
 split
 ·rename_i h;have h:=right_iff.1 h;exact⟨(c8r s h.2.1).1,h.2.2⟩
 ·omega
def pd:List Int→Int
 | []=>1
 | d::r=>d*pd r
def place:List Int→Int→List Int
 | [],_=>[]
 | d::r,i=>((i / pd r) % d)::place r i
def hor (s p:List Int):Int:=(s.zip p).foldl (fun a x=>a*x.1+x.2) 0
def within (s p:List Int):Bool:=(s.zip p).all fun x=>decide (0≤x.2)&&decide (x.2<x.1)
def index (s p:List Int):Int:=if right s&&decide (p.length=s.length)&&within s p then hor s p else -1
def placeOf (s:List Int) (i:Int):List Int:=if 0≤i∧i<size s then place s i else []
end Go.Proofs.YtdcmanhgekjhgaaDoor.Sh
namespace Go.Proofs.YtdcmanhgekjhgaaDoor
open Go.RowKit Go.Proofs.Tryd
variable {A:Option Addr} {c n:Nat} {w:World} {xs:List Int}
theorem Tryd.infoInt:(prog.info? 3).map (fun i=>(i.zero,i.size,i.bytes))=some (some (.int .i64 0),1,8):=by kernel_rfl
theorem b6f (h:Ints w A n xs):
  Calls prog 82 #[.slice A n c] w fun e w'=>e=.returned (.tuple #[.int .i64 (Sh.size xs),.bool (Sh.right xs)])∧w=w':=by
 have hn:=h.len;have hle:=h.le;by_cases h4:n≤4
 ·go_enter func82,ntmps82
  go_wp2
  go_loop [4,12] (fun p i=>∃ k:Nat,k≤n∧i=.int .i64 k∧p=.int .i64 (Sh.pr (xs.take k))∧∀ x∈xs.take k,0≤x∧x≤32) (fun _ i=>n-(intOf i).toNat)
  case atStart=>exact⟨0,Nat.zero_le _,rfl,rfl,by simp⟩
  case round =>
   obtain⟨k,hk,rfl,rfl,hd⟩:=hrel;have H2:=Hd hn;clear hn;by_cases hlt:k<n
   ·obtain⟨ad,x,rfl,hb,hx,hc,hf⟩:=h.at_ hlt;have H:=Hd hx;clear hx;have HD:=Hd hd;clear hd;by_cases hx0:0≤x∧x≤32
    ·obtain⟨hx1,hx2⟩:=hx0
     have hall:∀ y∈xs.take (k+1),0≤y∧y≤32:=by
      intro y hy;rw[List.take_add_one,H.out] at hy;simp at hy;rcases hy with hy|rfl
      ·exact HD y hy
      ·exact⟨hx1,hx2⟩
     have hm:=Sh.pr_small (xs.take (k+1)) hall (by have:=H2.out;simp;omega);rw[Sh.pr_take _ H.out] at hm;obtain⟨hm1,hm2⟩:=hm;have HA:=Hd hall;clear hall;go_wp2;go_round
     case rel=>exact⟨k+1,by omega,by go_num,by rw[Sh.pr_take _ H.out],HA⟩
     case measure=>simp[intOf];omega
    ·have hr:=Sh.not_right_dim H hx0;have HR:=Hd hr;clear hr;by_cases hx1:x<0
     ·go_wp2;go_ret2;exact⟨b4f (Sh.size_not HR).symm HR.symm,rfl⟩
     ·have hx2:32<x:=by omega
      go_wp2;go_ret2;exact⟨b4f (Sh.size_not HR).symm HR.symm,rfl⟩
   ·have hkn:k=n:=by omega
    have ht:xs.take k=xs:=List.take_of_length_le (by have:=H2.out;omega);rw[ht] at hd ⊢;have hb:=Sh.pr_small xs hd (by have:=H2.out;omega);have HD:=Hd hd;clear hd;have HT:=Hd ht;clear ht;have HK:=Hd hkn;clear hkn;by_cases hbig:Sh.pr xs≤4096
    ·have hr:Sh.right xs=true:=Sh.right_iff.2 ⟨by have:=H2.out;omega,HD,hbig⟩;have HR:=Hd hr;clear hr;go_wp2;go_ret2;exact⟨b4f (Sh.size_of HR).symm HR.symm,rfl⟩
    ·have hr:Sh.right xs=false:=Sh.not_right_big hbig;have HR:=Hd hr;clear hr;go_wp2;go_ret2;exact⟨b4f (Sh.size_not HR).symm HR.symm,rfl⟩
 ·have hr:Sh.right xs=false:=Sh.not_right_long (by omega);have HR:=Hd hr;clear hr;have H2:=Hd hn;clear hn
  go_enter func82,ntmps82
  go_wp2;go_ret2;exact⟨b4f (Sh.size_not HR).symm HR.symm,rfl⟩
theorem a3c (h:Ints w A n xs):
  Calls prog 66 #[.slice A n c] w fun e w'=>e=.returned (.bool (Sh.right xs))∧w=w':=by
 go_enter func66,ntmps66
 go_wp2_with (go_at_call 82;refine(b6f h).mono ?_;rintro e w' ⟨rfl,rfl⟩)
 go_ret;exact⟨rfl,rfl⟩
theorem a6u {B:Option Addr}{m d:Nat}{ys:List Int}(h:Ints w A n xs)(g:Ints w B m ys):
  Calls prog 86 #[.slice A n c,.slice B m d] w fun e w'=>e=.returned (.bool (xs==ys))∧w=w':=by
 have hn:=h.len;have hm:=g.len;have hle:=h.le;have hme:=g.le;by_cases hnm:n=m
 ·subst hnm;have H1:=Hd hn;clear hn;have H2:=Hd hm;clear hm
  go_enter func86,ntmps86
  go_wp2
  go_loop [14] (fun i=>∃ k:Nat,k≤n∧i=.int .i64 k∧xs.take k=ys.take k) (fun i=>n-(intOf i).toNat)
  case atStart=>exact⟨0,Nat.zero_le _,rfl,rfl⟩
  case round =>
   obtain⟨k,hk,rfl,hd⟩:=hrel;have HD:=Hd hd;clear hd;by_cases hlt:k<n
   ·obtain⟨ad,x,rfl,hb,hx,hc,hf⟩:=h.at_ hlt;obtain⟨bd,y,rfl,hb', hy,hc', hf'⟩:=g.at_ hlt;have H:=Hd hx;clear hx;have G:=Hd hy;clear hy;by_cases hxy:x=y
    ·subst hxy;go_wp2;go_round
     case rel=>exact⟨k+1,by omega,by go_num,c2y H G HD⟩
     case measure=>simp[intOf];omega
    ·have HX:=Hd (c4x H G hxy);have hb:(x != y)=true:=by simpa using hxy
     go_wp2;go_ret;exact⟨a0i HX.symm,rfl⟩
   ·have HX:=Hd (b7z H1 H2 (by omega) HD);go_wp2;go_ret;exact⟨a0i HX.symm,rfl⟩
 ·have HX:=Hd (p:=(xs==ys)=false) (by rw[beq_eq_false_iff_ne];rintro rfl;exact hnm (hn.symm.trans hm));have H1:=Hd hn;clear hn;have H2:=Hd hm;clear hm;have hb:((n:Int) != (m:Int))=true:=by simp;omega
  go_enter func86,ntmps86
  go_wp2;go_ret;exact⟨a0i HX.symm,rfl⟩
end Go.Proofs.YtdcmanhgekjhgaaDoor
namespace Go.Proofs.YtdcmanhgekjhgaaDoor
open Go.RowKit Go.Proofs.Tryd
variable {g:Nat} {w:World}
def Tape (w:World) (g:Nat):Prop :=
 ∃(A:Option Addr) (n c at_:Nat) (xs:List Int),w.heap[g]?=some (.cells #[.slice A n c,.int .i64 at_] 99999 (0,0))∧at_≤n∧Ints w A n xs∧∀ ad,A=some ad→0<n→ad.block<g
theorem Tape.lt (h:Tape w g):g<w.heap.size:=by
 obtain⟨A,n,c,at_,xs,hg,_⟩:=h;rcases Nat.lt_or_ge g w.heap.size with hlt|hge
 ·exact hlt
 ·rw[Array.getElem?_eq_none hge] at hg;cases hg
theorem Tape.below {w':World}(h:Tape w g)(hb:Below w.heap.size w w'):Tape w' g:=by
 have hl:=h.lt;obtain⟨A,n,c,at_,xs,hg,ha,hI,hne⟩:=h;exact⟨A,n,c,at_,xs,(hb.block g hl).trans hg,ha,hI.below hb,hne⟩
theorem Tape.drewN (h:Tape w g)(k:Nat):Tape (w.drewN k) g:=h
end Go.Proofs.YtdcmanhgekjhgaaDoor
