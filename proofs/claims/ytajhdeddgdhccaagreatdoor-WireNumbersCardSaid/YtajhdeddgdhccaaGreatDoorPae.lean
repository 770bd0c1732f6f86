import Derived.PlainAid
import Derived.Test.YtajhdeddgdhccaaGreatDoorPaa
set_option maxRecDepth 100000
set_option maxHeartbeats 12800000
namespace Go.Proofs.YtajhdeddgdhccaaGreatDoor.Sh
def pr (l:List Int):Int:=l.foldl (· * ·) 1
def d0s (x:Int):Bool:=decide (0≤x)&&decide (x≤32)
def right (s:List Int):Bool:=decide (s.length≤4)&&s.all d0s&&decide (pr s≤4096)
def size (s:List Int):Int:=if right s then pr s else 0
theorem d4p (l:List Int) (x:Int):pr (l++[x])=pr l*x:=by simp[pr]
theorem pr_take (l:List Int) {k:Nat} {x:Int} (h:l[k]?=some x):pr (l.take (k+1))=pr (l.take k)*x:=by
 rw[List.take_add_one,h];exact d4p _ _
theorem d0q (l:List Int) (h:∀ x∈l,0≤x∧x≤32):∀ a:Int,0≤a→0≤l.foldl (· * ·) a∧l.foldl (· * ·) a≤a*32 ^ l.length:=by
 induction l with
 | nil=>intro a ha;simp;exact ha
 | cons x l ih =>
  intro a ha;have hx:=h x (by simp);have hl:=ih (fun y hy=>h y (by simp[hy])) (a*x) (Int.mul_nonneg ha hx.1);refine⟨hl.1,Int.le_trans hl.2 ?_⟩;have e:a*(32:Int) ^ (x::l).length=a*32*32 ^ l.length:=by rw[List.length_cons,Int.pow_succ,Int.mul_comm (32 ^ l.length) 32,←Int.mul_assoc]
  rw[e];exact Int.mul_le_mul_of_nonneg_right (Int.mul_le_mul_of_nonneg_left hx.2 ha) (Int.pow_nonneg (by omega))
theorem d4o (l:List Int) (h:∀ x∈l,0≤x∧x≤32):0≤pr l∧pr l≤32 ^ l.length:=by
 have:=d0q l h 1 (by omega);simpa [pr] using this
theorem pr_small (l:List Int) (h:∀ x∈l,0≤x∧x≤32) (hl:l.length≤4):0≤pr l∧pr l≤1048576:=by
 have hb:=d4o l h;refine⟨hb.1,Int.le_trans hb.2 ?_⟩;have:l.length=0∨l.length=1∨l.length=2∨l.length=3∨l.length=4:=by omega
 rcases this with e|e|e|e|e <;> rw[e] <;> decide
theorem c7j {x:Int}:d0s x=true↔0≤x∧x≤32:=by simp[d0s]
theorem d3r {l:List Int}:l.all d0s=true↔∀ x∈l,0≤x∧x≤32:=by simp[List.all_eq_true,c7j]
theorem right_iff {s:List Int}:right s=true↔s.length≤4∧(∀ x∈s,0≤x∧x≤32)∧pr s≤4096:=by
 simp only[right,Bool.and_eq_true,decide_eq_true_eq,d3r,and_assoc]
theorem not_right_long {s:List Int} (h:¬ s.length≤4):right s=false:=by simp[right,h]
theorem not_right_dim {s:List Int} {k:Nat} {x:Int} (h:s[k]?=some x) (hx:¬(0≤x∧x≤32)):right s=false:=by
 cases e:right s with
 | false=>rfl
 | true=>exact absurd ((right_iff.1 e).2.1 x (mG h)) hx
theorem not_right_big {s:List Int} (h:¬ pr s≤4096):right s=false:=by simp[right,h]
theorem right_small {s:List Int} (h:s.length≤4) (hd:∀ x∈s,0≤x∧x≤32):right s=decide (pr s≤4096):=by
 by_cases hbig:pr s≤4096
 ·rw[right_iff.2 ⟨h,hd,hbig⟩];simp[hbig]
 ·rw[not_right_big hbig];simp[hbig]
theorem size_of {s:List Int} (h:right s=true):size s=pr s:=by simp[size,h]
theorem size_not {s:List Int} (h:right s=false):size s=0:=by simp[size,h]
theorem size_bd (s:List Int):0≤size s∧size s≤4096:=by
 unfold size
 split
 ·rename_i h;have h:=right_iff.1 h;exact⟨(d4o s h.2.1).1,h.2.2⟩
 ·omega
def pd:List Int→Int
 | []=>1
 | d::r=>d*pd r
theorem d0r (s:List Int):∀ a:Int,s.foldl (· * ·) a=a*pd s:=by
 induction s with
 | nil=>intro a;simp[pd]
 | cons d r ih=>intro a;rw[List.foldl_cons,ih,pd,Int.mul_assoc]
theorem pr_pd (s:List Int):pr s=pd s:=by rw[pr,d0r];simp
theorem d4m {s:List Int} {k:Nat} {d:Int} (h:s[k]?=some d):pd (s.drop k)=d*pd (s.drop (k+1)):=by
 obtain⟨hk,rfl⟩:=List.getElem?_eq_some_iff.1 h;rw[List.drop_eq_getElem_cons hk];rfl
theorem pd_nonneg {s:List Int} (h:∀ x∈s,0≤x∧x≤32):0≤pd s:=by
 have:=(d4o s h).1;rwa [pr_pd] at this
theorem pd_small {s:List Int} (h:∀ x∈s,0≤x∧x≤32) (hl:s.length≤4) (k:Nat):0≤pd (s.drop k)∧pd (s.drop k)≤1048576:=by
 have:=pr_small (s.drop k) (fun x hx=>h x (List.mem_of_mem_drop hx)) (by simp;omega);rwa [pr_pd] at this
def place:List Int→Int→List Int
 | [],_=>[]
 | d::r,i=>((i / pd r) % d)::place r i
theorem place_length (s:List Int) (i:Int):(place s i).length=s.length:=by
 induction s with
 | nil=>rfl
 | cons d r ih=>simp[place,ih]
theorem place_at {s:List Int} {i:Int} {k:Nat} {d:Int} (h:s[k]?=some d):(place s i)[k]?=some ((i / pd (s.drop (k+1))) % d):=by
 induction s generalizing k with
 | nil=>simp at h
 | cons e r ih =>
  cases k with
  | zero=>simp at h;subst h;simp[place]
  | succ k=>simpa [place] using ih (by simpa using h)
theorem left_step {s:List Int} {i:Int} {k:Nat} {d:Int} (h:s[k]?=some d) (hd:∀ x∈s,0≤x∧x≤32) :
  i / pd (s.drop (k+1)) / d=i / pd (s.drop k):=by
 rw[Int.ediv_ediv_of_nonneg (pd_nonneg fun x hx=>hd x (List.mem_of_mem_drop hx)),d4m h,Int.mul_comm]
def hor (s p:List Int):Int:=(s.zip p).foldl (fun a x=>a*x.1+x.2) 0
def within (s p:List Int):Bool:=(s.zip p).all fun x=>decide (0≤x.2)&&decide (x.2<x.1)
def index (s p:List Int):Int:=if right s&&decide (p.length=s.length)&&within s p then hor s p else -1
theorem b0z {s p:List Int} {k:Nat} {d x:Int} (h:s[k]?=some d) (g:p[k]?=some x) :
  (s.take (k+1)).zip (p.take (k+1))=(s.take k).zip (p.take k)++[(d,x)]:=by
 obtain⟨hk,rfl⟩:=List.getElem?_eq_some_iff.1 h;obtain⟨hp,rfl⟩:=List.getElem?_eq_some_iff.1 g;rw[List.take_add_one,List.take_add_one,h,g,List.zip_append (by simp;omega)]
 rfl
theorem hor_take {s p:List Int} {k:Nat} {d x:Int} (h:s[k]?=some d) (g:p[k]?=some x) :
  hor (s.take (k+1)) (p.take (k+1))=hor (s.take k) (p.take k)*d+x:=by
 rw[hor,b0z h g,List.foldl_append];rfl
theorem within_take {s p:List Int} {k:Nat} {d x:Int} (h:s[k]?=some d) (g:p[k]?=some x) :
  within (s.take (k+1)) (p.take (k+1))=(within (s.take k) (p.take k)&&(decide (0≤x)&&decide (x<d))):=by
 rw[within,b0z h g,List.all_append];simp[within]
theorem c2m {s p:List Int} (h:within s p=true) (k:Nat):within (s.take k) (p.take k)=true:=by
 rw[within] at *;have e:(s.take k).zip (p.take k)=(s.zip p).take k:=by simp[List.zip,List.take_zipWith]
 rw[e];rw[List.all_eq_true] at *;exact fun x hx=>h x (List.mem_of_mem_take hx)
theorem within_at {s p:List Int} (h:within s p=true) {k:Nat} {d x:Int} (hd:s[k]?=some d) (hx:p[k]?=some x):0≤x∧x<d:=by
 have:=c2m h (k+1);rw[within_take hd hx] at this;simp only[Bool.and_eq_true,decide_eq_true_eq] at this;exact this.2
theorem c6y:∀(l:List (Int × Int)) (a b:Int),0≤a→a+1≤b→(∀ x∈l,0≤x.2∧x.2<x.1) →
  0≤l.foldl (fun a x=>a*x.1+x.2) a∧l.foldl (fun a x=>a*x.1+x.2) a+1≤(l.map (·.1)).foldl (· * ·) b:=by
 intro l
 induction l with
 | nil=>intro a b ha hb _;exact⟨ha,hb⟩
 | cons x l ih =>
  intro a b ha hb h;obtain⟨h1,h2⟩:=h x (by simp);refine ih _ _ (Int.add_nonneg (Int.mul_nonneg ha (by omega)) h1) ?_ (fun y hy=>h y (by simp[hy]));have:(a+1)*x.1≤b*x.1:=Int.mul_le_mul_of_nonneg_right hb (by omega);rw[Int.add_mul] at this
  show a*x.1+x.2+1≤b*x.1
  omega
theorem c1u:∀(s p:List Int),s.length=p.length→(s.zip p).map (·.1)=s:=by
 intro s
 induction s with
 | nil=>intro p _;simp
 | cons d r ih =>
  intro p h
  cases p with
  | nil=>simp at h
  | cons x q=>simp;exact ih q (by simpa using h)
theorem hor_bd {s p:List Int} (h:within s p=true) (hl:s.length=p.length):0≤hor s p∧hor s p+1≤pr s:=by
 have:=c6y (s.zip p) 0 1 (by omega) (by omega) (by
  rw[within,List.all_eq_true] at h;intro x hx
  simpa using h x hx)
 rwa [c1u s p hl] at this
theorem hor_small {s p:List Int} (hr:right s=true) (hl:s.length=p.length) (k:Nat) (h:within (s.take k) (p.take k)=true) :
  0≤hor (s.take k) (p.take k)∧hor (s.take k) (p.take k)≤1048576:=by
 have hr:=right_iff.1 hr;have hb:=hor_bd h (by simp[hl]);have:=pr_small (s.take k) (fun x hx=>hr.2.1 x (List.mem_of_mem_take hx)) (by simp;omega);omega
theorem index_of {s p:List Int} (hr:right s=true) (hl:p.length=s.length) (h:within s p=true):index s p=hor s p:=by simp[index,hr,hl,h]
theorem index_right {s p:List Int} (hr:right s=false):index s p = -1:=by simp[index,hr]
theorem index_len {s p:List Int} (hl:¬ p.length=s.length):index s p = -1:=by simp[index,hl]
theorem index_out {s p:List Int} {k:Nat} {d x:Int} (hd:s[k]?=some d) (hx:p[k]?=some x) (h:¬(0≤x∧x<d)):index s p = -1:=by
 have:within s p=false:=by
  cases e:within s p with
  | false=>rfl
  | true=>exact absurd (within_at e hd hx) h
 simp[index,this]
def placeOf (s:List Int) (i:Int):List Int:=if 0≤i∧i<size s then place s i else []
theorem c8o {s:List Int} (h:∀ x∈s,0≤x∧x≤32) (hp:0<pd s):∀ x∈s,1≤x:=by
 induction s with
 | nil=>simp
 | cons d r ih =>
  have hd:=h d (by simp);have hr:=pd_nonneg (s:=r) fun x hx=>h x (by simp[hx])
  rw[pd] at hp;have hd0:d≠0:=by rintro rfl;simp at hp
  have hr0:pd r≠0:=by intro e;rw[e] at hp;simp at hp
  intro x hx;rcases List.mem_cons.1 hx with rfl|hx
  ·omega
  ·exact ih (fun x hx=>h x (by simp[hx])) (by omega) x hx
theorem size_pos {s:List Int} {i:Int} (h0:0≤i) (h:i<size s):right s=true∧∀ x∈s,1≤x∧x≤32:=by
 cases hr:right s with
 | false=>rw[size_not hr] at h;omega
 | true =>
  have hd:=(right_iff.1 hr).2.1;rw[size_of hr,pr_pd] at h;have hp:=c8o hd (by omega);exact⟨rfl,fun x hx=>⟨hp x hx,(hd x hx).2⟩⟩
end Go.Proofs.YtajhdeddgdhccaaGreatDoor.Sh
namespace Go.Proofs.YtajhdeddgdhccaaGreatDoor
open Go.RowKit Go.Proofs.Tryz
variable {A:Option Addr} {c n:Nat} {w:World} {xs:List Int}
theorem Tryz.infoInt:(prog.info? 3).map (fun i=>(i.zero,i.size,i.bytes))=some (some (.int .i64 0),1,8):=by kernel_rfl
theorem c1z (h:Ints w A n xs):
  Calls prog 124 #[.slice A n c] w fun e w'=>e=.returned (.tuple #[.int .i64 (Sh.size xs),.bool (Sh.right xs)])∧w=w':=by
 have hn:=h.len;have hle:=h.le;by_cases h4:n≤4
 ·go_enter func124,ntmps124
  go_wp2
  go_loop [4,12] (fun p i=>∃ k:Nat,k≤n∧i=.int .i64 k∧p=.int .i64 (Sh.pr (xs.take k))∧∀ x∈xs.take k,0≤x∧x≤32) (fun _ i=>n-(intOf i).toNat)
  case atStart=>exact⟨0,Nat.zero_le _,rfl,rfl,by simp⟩
  case round =>
   obtain⟨k,hk,rfl,rfl,hd⟩:=hrel;have H2:=Hd hn;clear hn;by_cases hlt:k<n
   ·obtain⟨ad,x,rfl,hb,hx,hc,hf⟩:=h.at_ hlt;have H:=Hd hx;clear hx;have HD:=Hd hd;clear hd;by_cases hx0:0≤x∧x≤32
    ·obtain⟨hx1,hx2⟩:=hx0
     have hall:∀ y∈xs.take (k+1),0≤y∧y≤32:=by
      intro y hy;rw[List.take_add_one,H.out] at hy;simp at hy;rcases hy with hy|rfl
      ·exact HD y hy
      ·exact⟨hx1,hx2⟩
     have hm:=Sh.pr_small (xs.take (k+1)) hall (by have:=H2.out;simp;omega);rw[Sh.pr_take _ H.out] at hm;obtain⟨hm1,hm2⟩:=hm;have HA:=Hd hall;clear hall;go_wp2;go_round
     case rel=>exact⟨k+1,by omega,by go_num,by rw[Sh.pr_take _ H.out],HA⟩
     case measure=>simp[intOf];omega
    ·have hr:=Sh.not_right_dim H hx0;have HR:=Hd hr;clear hr;by_cases hx1:x<0
     ·go_wp2;go_ret2;exact⟨c0c (Sh.size_not HR).symm HR.symm,rfl⟩
     ·have hx2:32<x:=by omega
      go_wp2;go_ret2;exact⟨c0c (Sh.size_not HR).symm HR.symm,rfl⟩
   ·have hkn:k=n:=by omega
    have ht:xs.take k=xs:=List.take_of_length_le (by have:=H2.out;omega);rw[ht] at hd ⊢;have hb:=Sh.pr_small xs hd (by have:=H2.out;omega);have HD:=Hd hd;clear hd;have HT:=Hd ht;clear ht;have HK:=Hd hkn;clear hkn;by_cases hbig:Sh.pr xs≤4096
    ·have hr:Sh.right xs=true:=Sh.right_iff.2 ⟨by have:=H2.out;omega,HD,hbig⟩;have HR:=Hd hr;clear hr;go_wp2;go_ret2;exact⟨c0c (Sh.size_of HR).symm HR.symm,rfl⟩
    ·have hr:Sh.right xs=false:=Sh.not_right_big hbig;have HR:=Hd hr;clear hr;go_wp2;go_ret2;exact⟨c0c (Sh.size_not HR).symm HR.symm,rfl⟩
 ·have hr:Sh.right xs=false:=Sh.not_right_long (by omega);have HR:=Hd hr;clear hr;have H2:=Hd hn;clear hn
  go_enter func124,ntmps124
  go_wp2;go_ret2;exact⟨c0c (Sh.size_not HR).symm HR.symm,rfl⟩
theorem a5u (h:Ints w A n xs):
  Calls prog 105 #[.slice A n c] w fun e w'=>e=.returned (.bool (Sh.right xs))∧w=w':=by
 go_enter func105,ntmps105
 go_wp2_with (go_at_call 124;refine(c1z h).mono ?_;rintro e w' ⟨rfl,rfl⟩)
 go_ret;exact⟨rfl,rfl⟩
theorem b0r {B:Option Addr}{m d:Nat}{ys:List Int}(h:Ints w A n xs)(g:Ints w B m ys):
  Calls prog 128 #[.slice A n c,.slice B m d] w fun e w'=>e=.returned (.bool (xs==ys))∧w=w':=by
 have hn:=h.len;have hm:=g.len;have hle:=h.le;have hme:=g.le;by_cases hnm:n=m
 ·subst hnm;have H1:=Hd hn;clear hn;have H2:=Hd hm;clear hm
  go_enter func128,ntmps128
  go_wp2
  go_loop [14] (fun i=>∃ k:Nat,k≤n∧i=.int .i64 k∧xs.take k=ys.take k) (fun i=>n-(intOf i).toNat)
  case atStart=>exact⟨0,Nat.zero_le _,rfl,rfl⟩
  case round =>
   obtain⟨k,hk,rfl,hd⟩:=hrel;have HD:=Hd hd;clear hd;by_cases hlt:k<n
   ·obtain⟨ad,x,rfl,hb,hx,hc,hf⟩:=h.at_ hlt;obtain⟨bd,y,rfl,hb', hy,hc', hf'⟩:=g.at_ hlt;have H:=Hd hx;clear hx;have G:=Hd hy;clear hy;by_cases hxy:x=y
    ·subst hxy;go_wp2;go_round
     case rel=>exact⟨k+1,by omega,by go_num,c0n H G HD⟩
     case measure=>simp[intOf];omega
    ·have HX:=Hd (c3o H G hxy);have hb:(x != y)=true:=by simpa using hxy
     go_wp2;go_ret;exact⟨a0c HX.symm,rfl⟩
   ·have HX:=Hd (b5x H1 H2 (by omega) HD);go_wp2;go_ret;exact⟨a0c HX.symm,rfl⟩
 ·have HX:=Hd (p:=(xs==ys)=false) (by rw[beq_eq_false_iff_ne];rintro rfl;exact hnm (hn.symm.trans hm));have H1:=Hd hn;clear hn;have H2:=Hd hm;clear hm;have hb:((n:Int) != (m:Int))=true:=by simp;omega
  go_enter func128,ntmps128
  go_wp2;go_ret;exact⟨a0c HX.symm,rfl⟩
end Go.Proofs.YtajhdeddgdhccaaGreatDoor
namespace Go.Proofs.YtajhdeddgdhccaaGreatDoor
open Go.RowKit Go.Proofs.Tryz
variable {a:Int} {g:Nat} {w:World}
theorem d3d (_ha:a<0)(h:a.tmod 1073741825<0):a.tmod 1073741825+1073741824+1=a % 1073741825:=by
 have e:=Int.tmod_eq_emod (a:=a) (b:=1073741825);by_cases hd:0≤a∨(1073741825:Int) ∣ a
 ·rw[iP hd] at e;omega
 ·rw[iN hd] at e;simp at e;omega
theorem c2h (_ha:a<0)(h:¬ a.tmod 1073741825<0):a.tmod 1073741825=a % 1073741825:=by
 have e:=Int.tmod_eq_emod (a:=a) (b:=1073741825);by_cases hd:0≤a∨(1073741825:Int) ∣ a
 ·rw[iP hd] at e;omega
 ·rw[iN hd] at e;simp at e;omega
theorem c5w (a:Int)(w:World)(hf:Fits a):
  Calls prog 37 #[.int .i64 a,.int .i64 0,.int .i64 1073741824] w fun e w'=>e=.returned (.int .i64 (a % 1073741825))∧w=w':=by
 obtain⟨h1,h2⟩:=hf;by_cases h0:0≤a
 ·by_cases hb:a≤1073741824
  ·go_enter func37,ntmps37
   go_wp2;go_ret;exact⟨a3v (by omega),rfl⟩
  ·go_enter func37,ntmps37
   go_wp2;go_ret;exact⟨a3v (by omega),rfl⟩
 ·have hlt:a<0:=by omega
  have hm1 : -1073741825<a.tmod 1073741825:=by
   have e:=Int.tmod_eq_emod (a:=a) (b:=1073741825);by_cases hd:0≤a∨(1073741825:Int) ∣ a
   ·rw[iP hd] at e;omega
   ·rw[iN hd] at e;simp at e;omega
  have hm2:a.tmod 1073741825≤0:=by
   have e:=Int.tmod_eq_emod (a:=a) (b:=1073741825);by_cases hd:0≤a∨(1073741825:Int) ∣ a
   ·rw[iP hd] at e;omega
   ·rw[iN hd] at e;simp at e;omega
  by_cases ht:a.tmod 1073741825<0
  ·have HX:=Hd (d3d hlt ht)
   go_enter func37,ntmps37
   go_wp2;go_ret;exact⟨a3v (by rw[←HX.out]),rfl⟩
  ·have HX:=Hd (c2h hlt ht)
   go_enter func37,ntmps37
   go_wp2;go_ret;exact⟨a3v (by rw[←HX.out]),rfl⟩
def Tape (w:World) (g:Nat):Prop :=
 ∃(A:Option Addr) (n c at_:Nat) (xs:List Int),w.heap[g]?=some (.cells #[.slice A n c,.int .i64 at_] 41 (0,0))∧at_≤n∧Ints w A n xs∧∀ ad,A=some ad→0<n→ad.block<g
theorem Tape.lt (h:Tape w g):g<w.heap.size:=by
 obtain⟨A,n,c,at_,xs,hg,_⟩:=h;rcases Nat.lt_or_ge g w.heap.size with hlt|hge
 ·exact hlt
 ·rw[Array.getElem?_eq_none hge] at hg;cases hg
theorem Tape.below {w':World}(h:Tape w g)(hb:Below w.heap.size w w'):Tape w' g:=by
 have hl:=h.lt;obtain⟨A,n,c,at_,xs,hg,ha,hI,hne⟩:=h;exact⟨A,n,c,at_,xs,(hb.block g hl).trans hg,ha,hI.below hb,hne⟩
theorem Tape.drewN (h:Tape w g)(k:Nat):Tape (w.drewN k) g:=h
def b0s:List Int:=[1,2,3,4,5,0,7,2]
theorem d3w (r:Nat)(h:r<8):∃ x:Int,b0s[r]?=some x∧0≤x∧x≤7:=by
 have:r=0∨r=1∨r=2∨r=3∨r=4∨r=5∨r=6∨r=7:=by omega
 rcases this with rfl|rfl|rfl|rfl|rfl|rfl|rfl|rfl <;> exact⟨_,rfl,by decide,by decide⟩
end Go.Proofs.YtajhdeddgdhccaaGreatDoor
