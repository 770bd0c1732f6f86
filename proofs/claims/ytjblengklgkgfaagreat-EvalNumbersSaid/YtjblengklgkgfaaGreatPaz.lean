import Derived.Test.YtjblengklgkgfaaGreatPao
import Derived.Test.YtjblengklgkgfaaGreatPay
set_option maxRecDepth 100000
set_option maxHeartbeats 12800000
namespace Go.Proofs.YtjblengklgkgfaaGreat
open Go.RowKit Go.Proofs.Tryz
variable {A Aa:Option Addr} {a acc ax l xs:List Int} {c ca j n na:Nat} {w:World} {y:Int}
def wo:Nat→List Int→List Int→List Int × List Int
 | _,[],ax=>([],ax)
 | k,x::l,ax=>if ax[0]?=some (k:Int) then wo (k+1) l (ax.drop 1) else(x::(wo (k+1) l ax).1,(wo (k+1) l ax).2)
def WoAt (l a:List Int) (j:Nat) (acc ax:List Int):Prop:=wo 0 l a=(acc++(wo j (l.drop j) ax).1,(wo j (l.drop j) ax).2)
theorem WoAt.start (l a:List Int):WoAt l a 0 [] a:=by simp[WoAt]
theorem d5p (h:l[j]?=some y):l.drop j=y::l.drop (j+1):=by
 obtain⟨hj,rfl⟩:=List.getElem?_eq_some_iff.1 h;exact List.drop_eq_getElem_cons hj
theorem WoAt.hit (h:WoAt l a j acc ax)(hy:l[j]?=some y)(hx:ax[0]?=some (j:Int)):WoAt l a (j+1) acc (ax.drop 1):=by
 unfold WoAt at *;rw[h,d5p hy,wo,iP hx]
theorem WoAt.miss (h:WoAt l a j acc ax)(hy:l[j]?=some y)(hx:ax[0]? ≠ some (j:Int)):WoAt l a (j+1) (acc++[y]) ax:=by
 unfold WoAt at *;rw[h,d5p hy,wo,iN hx];simp
theorem WoAt.fin (h:WoAt l a j acc ax)(hj:l.length≤j):wo 0 l a=(acc,ax):=by
 unfold WoAt at h;rw[h,List.drop_eq_nil_of_le hj];simp[wo]
def Up:Int→Int→List Int→Prop
 | _,_,[]=>True
 | k,n,x::l=>k≤x∧x<n∧Up (x+1) n l
theorem Up.mem:∀ {l:List Int} {k n:Int},Up k n l→∀ x∈l,k≤x∧x<n
 | [],_,_,_,x,hx=>by cases hx
 | y::l,k,n,h,x,hx=>by
  obtain⟨h1,h2,h3⟩:=h;rcases List.mem_cons.1 hx with rfl|hx
  ·exact⟨h1,h2⟩
  ·have:=Up.mem h3 x hx;omega
theorem e2k:∀ {l:List Int} {k n:Int},(∀ x,l[0]?=some x→k≤x)→(∀(j:Nat) x,l[j]?=some x→x<n∧∀ z,0<j→l[j-1]?=some z→z<x)→Up k n l
 | [],_,_,_,_=>trivial
 | y::l,k,n,h0,h=>by
  refine⟨h0 y rfl,(h 0 y rfl).1,e2k (fun x hx=>?_) fun j x hx=>?_⟩
  ·have:=(h 1 x (by simpa using hx)).2 y (by omega) rfl;omega
  ·refine⟨(h (j+1) x (by simpa using hx)).1,fun z hj hz=>(h (j+1) x (by simpa using hx)).2 z (by omega) ?_⟩;obtain⟨j,rfl⟩:∃ i,j=i+1:=⟨j-1,by omega⟩;simpa using hz
theorem Up.adj:∀ {l:List Int} {k n:Int},Up k n l→∀(j:Nat) x z,l[j+1]?=some x→l[j]?=some z→z<x
 | [],_,_,_,j,x,z,hx,_=>by simp at hx
 | y::l,k,n,h,j,x,z,hx,hz=>by
  obtain⟨_,_,h3⟩:=h
  cases j with
  | zero =>
   simp at hz;subst hz
   have:=(h3.mem x (mG (by simpa using hx))).1;omega
  | succ j=>exact Up.adj h3 j x z (by simpa using hx) (by simpa using hz)
theorem d0b {r:Nat}:a7v a r↔Up 0 r a:=by
 constructor
 ·intro h;exact e2k (fun x hx=>(h 0 x hx).1) fun j x hx=>⟨(h j x hx).2.1,(h j x hx).2.2⟩
 ·intro h k x hx;have hm:=h.mem x (mG hx);refine⟨hm.1,hm.2,fun z hk hz=>?_⟩;obtain⟨k,rfl⟩:∃ i,k=i+1:=⟨k-1,by omega⟩;exact h.adj k x z hx (by simpa using hz)
theorem b6c {a b:List Int}:∀(l:List Int) (k:Nat),(∀ j:Nat,k≤j→((j:Int)∈a↔(j:Int)∈b))→a3p a k l=a3p b k l
 | [],k,_=>rfl
 | x::l,k,h=>by
  rw[a3p,a3p,b6c l (k+1) fun j hj=>h j (by omega)];by_cases hm:(k:Int)∈a
  ·rw[iP hm,iP ((h k (by omega)).1 hm)]
  ·rw[iN hm,iN (fun hb=>hm ((h k (by omega)).2 hb))]
theorem d9c:∀(l:List Int) (k:Nat) (ax:List Int),((wo k l ax).2=[]↔Up k ((k+l.length:Nat):Int) ax)∧(Up k ((k+l.length:Nat):Int) ax→(wo k l ax).1=a3p ax k l)
 | [],k,ax=>by
  constructor
  ·cases ax with
   | nil=>simp[wo,Up]
   | cons y ax=>simp only[wo,Up,List.length_nil,Nat.add_zero];constructor <;> intro h;cases h;omega
  ·intro h;rfl
 | x::l,k,ax=>by
  have el:((k+(x::l).length:Nat):Int)=((k+1+l.length:Nat):Int):=by rw[List.length_cons];congr 1;omega
  rw[el];by_cases hx:ax[0]?=some (k:Int)
  ·match ax,hx with
   | y::ax,hx =>
    simp at hx;subst hx;obtain⟨i1,i2⟩:=d9c l (k+1) ax;have e:wo k (x::l) ((k:Int)::ax)=wo (k+1) l ax:=by rw[wo];exact iP rfl
    have eu:Up k ((k+1+l.length:Nat):Int) ((k:Int)::ax)↔Up ((k+1:Nat):Int) ((k+1+l.length:Nat):Int) ax:=by
     simp only[Up]
     constructor
     ·rintro⟨_,_,h⟩;simpa using h
     ·intro h;exact⟨by omega,by omega,by simpa using h⟩
    rw[e,eu];refine⟨i1,fun h=>(i2 h).trans ?_⟩;rw[a3p,iP (by simp)];refine b6c l (k+1) fun j hj=>?_
    rw[List.mem_cons]
    constructor
    ·exact .inr
    ·rintro(h|h)
     ·omega
     ·exact h
  ·obtain⟨i1,i2⟩:=d9c l (k+1) ax;have e:wo k (x::l) ax=(x::(wo (k+1) l ax).1,(wo (k+1) l ax).2):=by rw[wo,iN hx]
   have eu:Up k ((k+1+l.length:Nat):Int) ax↔Up ((k+1:Nat):Int) ((k+1+l.length:Nat):Int) ax:=by
    cases ax with
    | nil=>simp[Up]
    | cons y ax =>
     simp at hx;simp only[Up]
     constructor
     ·rintro⟨h1,h2,h3⟩;exact⟨by omega,h2,h3⟩
     ·rintro⟨h1,h2,h3⟩;exact⟨by omega,h2,h3⟩
   rw[e,eu];refine⟨i1,fun h=>?_⟩;have hn:¬(k:Int)∈ax:=fun hm=>by have:=(h.mem _ hm).1;omega
   rw[a3p,iN hn]
   show x::_=_
   rw[i2 h]
def woL (l a:List Int):List Int:=(wo 0 l a).1
def woOk (l a:List Int):Bool:=decide ((wo 0 l a).2=[])
theorem d9s (h:a7v a l.length):woOk l a=true∧woL l a=rest a l:=by
 have hu:Up ((0:Nat):Int) ((0+l.length:Nat):Int) a:=by have:=d0b.1 h;simpa using this
 obtain⟨h1,h2⟩:=d9c l 0 a;exact⟨decide_eq_true (h1.2 hu),h2 hu⟩
theorem e2p (h:¬ a7v a l.length):woOk l a=false:=by
 obtain⟨h1,_⟩:=d9c l 0 a;exact decide_eq_false fun hc=>h (d0b.2 (by have:=h1.1 hc;simpa using this))
theorem d3l {w1:World}{a:Addr}(hI:Ints w1 (some a) n xs)(h1:1≤n)(hnc:n≤c):∃ A2:Option Addr,(∀ w,(Instr.slice 22 (.slice (some a) n c) (some (.int .i64 1)) none none).run prog w=.ok (.slice A2 (n-1) (c-1)) w)∧Ints w1 A2 (n-1) (xs.drop 1):=by
 have hu:prog.underlying 22=some (.slice 3):=by kernel_rfl
 have hd:=hI.drop (k:=1) h1 hnc;by_cases hc:c=1
 ·refine⟨some a,fun w=>?_,by rwa [iP hc] at hd⟩
  go_simp
  intro h;omega
 ·refine⟨some (a.add 1),fun w=>?_,by rwa [iN hc] at hd⟩
  go_simp
  intro h;omega
theorem a6g (how:Int)(w:World):
  Calls prog 117 #[.int .i64 how] w fun e w'=>e=.returned (.bool (a4q how))∧w=w':=by
 by_cases h1:1≤how
 ·have d1:decide (1≤how)=true:=by simpa using h1
  go_enter func117,ntmps117
  go_wp2;go_ret;exact⟨a0b (by simp[a4q,h1]),rfl⟩
 ·have d1:decide (1≤how)=false:=by simpa using h1
  have HX:=Hd (show a4q how=false by simp only[a4q,d1,Bool.false_and])
  go_enter func117,ntmps117
  go_wp2;go_ret;exact⟨a0b HX.symm,rfl⟩
theorem c1c (how:Int)(w:World):
  Calls prog 119 #[.int .i64 how] w fun e w'=>e=.returned (.int .i64 (a4u how))∧w=w':=by
 by_cases h2:how=2
 ·subst h2
  go_enter func119,ntmps119
  go_wp2;go_ret;exact⟨by simp[a4u],rfl⟩
 by_cases h3:how=3
 ·subst h3;clear h2
  go_enter func119,ntmps119
  go_wp2;go_ret;exact⟨by simp[a4u],rfl⟩
 by_cases h4:how=4
 ·subst h4;clear h2 h3
  go_enter func119,ntmps119
  go_wp2;go_ret;exact⟨by simp[a4u],rfl⟩
 have b2:(how==2)=false:=by simpa using h2
 have b3:(how==3)=false:=by simpa using h3
 have b4:(how==4)=false:=by simpa using h4
 have HX:=Hd (show a4u how=0 by simp[a4u,h2,h3,h4]);clear h2 h3 h4
 go_enter func119,ntmps119
 go_wp2;go_ret;exact⟨by rw[HX.out];rfl,rfl⟩
theorem c1y (how a b:Int)(w:World):
  Calls prog 122 #[.int .i64 how,.int .i64 a,.int .i64 b] w fun e w'=>e=.returned (.int .i64 (putF how a b))∧w=w':=by
 by_cases h1:how=1
 ·subst h1;have CP:=a8u 6 a b w;rw[show a2b 6 a b=putF 1 a b by simp[a2b,putF]] at CP
  go_enter func122,ntmps122
  go_wp2_with fail
  refine CP.mono ?_;rintro e1 w1 ⟨rfl,rfl⟩;clear CP;go_wp2;go_ret;exact⟨rfl,rfl⟩
 by_cases h2:how=2
 ·subst h2;clear h1;have CP:=a8u 8 a b w;rw[show a2b 8 a b=putF 2 a b by simp[a2b,putF]] at CP
  go_enter func122,ntmps122
  go_wp2_with fail
  refine CP.mono ?_;rintro e1 w1 ⟨rfl,rfl⟩;clear CP;go_wp2;go_ret;exact⟨rfl,rfl⟩
 by_cases h3:how=3
 ·subst h3;clear h1 h2;have CP:=a8u 9 a b w;rw[show a2b 9 a b=putF 3 a b by simp[a2b,putF]] at CP
  go_enter func122,ntmps122
  go_wp2_with fail
  refine CP.mono ?_;rintro e1 w1 ⟨rfl,rfl⟩;clear CP;go_wp2;go_ret;exact⟨rfl,rfl⟩
 by_cases h4:how=4
 ·subst h4;clear h1 h2 h3;have CP:=a8u 10 a b w;rw[show a2b 10 a b=putF 4 a b by simp[a2b,putF]] at CP
  go_enter func122,ntmps122
  go_wp2_with fail
  refine CP.mono ?_;rintro e1 w1 ⟨rfl,rfl⟩;clear CP;go_wp2;go_ret;exact⟨rfl,rfl⟩
 have b1:(how==1)=false:=by simpa using h1
 have b2:(how==2)=false:=by simpa using h2
 have b3:(how==3)=false:=by simpa using h3
 have b4:(how==4)=false:=by simpa using h4
 have HX:=Hd (show putF how a b=0 by simp[putF,h1,h2,h3,h4]);clear h1 h2 h3 h4
 go_enter func122,ntmps122
 go_wp2;go_ret;exact⟨by rw[HX.out];rfl,rfl⟩
theorem b4d (h:Ints w A n l)(hA:Ints w Aa na a)(hac:na≤ca)(hn4:n≤17592186043000):
  Calls prog 118 #[.slice A n c,.slice Aa na ca] w fun e w'=>(∃ v,e=.returned (.tuple #[v,.bool (woOk l a)])∧OwnS w' w.heap.size 3 v (woL l a).length (woL l a))∧Below w.heap.size w w':=by
 have hln:=h.len;have hle:=h.le;have hale:=hA.le;have hm:=b0a underlying22 Tryz.infoInt (n:=n) (by omega);have h1:=((Sep.nil w).old h).room 3 n (by omega);have HSL:=Hd hln;have HA0:=Hd hA;clear hln hA h
 go_enter func118,ntmps118
 go_upto_region 2 with fail
 generalize w.alloc (.cells (noughts n) 3)=w1 at *;have H:=Hd h1;clear h1 hm
 go_wp2_with fail
 go_loopw [14,6,1] (fun kv vs xs wr=>∃(j:Nat) (vx:Value) (acc ax:List Int) (Ax:Option Addr) (nx cx:Nat),vx=vs∧.slice Ax nx cx=xs∧kv=.int .i64 j∧j≤n∧nx≤cx∧acc.length≤j∧Ints w Ax nx ax∧WoAt l a j acc ax∧Sep w wr [.own 3 vx acc.length acc,.ints A n l]) (fun kv _ _ _=>n-(intOf kv).toNat)
 case atStart=>exact⟨0,_,[],a,Aa,na,ca,rfl,rfl,rfl,by omega,hac,Nat.le_refl _,HA0,WoAt.start l a,H⟩
 case round =>
  clear H;obtain⟨j,vx,acc,ax,Ax,nx,cx,rfl,rfl,rfl,hj,hxc,hal,hI,hwo,hS⟩:=hrel;have H:=Hd hS;have HW:=Hd hwo;have HXL:=Hd hI.len;have HI:=Hd hI;clear hS hwo hI;by_cases hlt:j<n
  ·obtain⟨sa,y,hsA,_,hy,hcy,hfy⟩:=(H.oldInts 1 rfl).at_ (k:=j) hlt;subst hsA;have HY:=Hd hy;have HFY:=Hd hfy;clear hy hfy;by_cases hx0:nx=0
   ·subst hx0;have HW2:=Hd (HW.miss HY (by rw[List.eq_nil_of_length_eq_zero HXL.out];simp))
    go_wp2_with (at_builtin;refine a0x rfl (.tmp 31) (.tmp 33) 22 3 rfl underlying22 Tryz.infoInt H.out 0 rfl rfl y HFY.out _ rfl ?c1 ?_)
    case c1=>omega
    intro v' w' h';have H8:=Hd h';clear h';go_wp2;go_roundw
    case rel=>exact⟨j+1,_,acc++[y],ax,_,_,_,rfl,rfl,by go_num,by omega,hxc,by rw[List.length_append,List.length_singleton];omega,HI,HW2,by rw[List.length_append,List.length_singleton];exact H8⟩
    case measure=>simp[intOf];omega
   ·obtain⟨xa,z,hxA,_,hz,hcz,hfz⟩:=(H.oldI HI).at_ (k:=0) (by omega);subst hxA;rw[show xa.add 0=xa by cases xa;rfl] at hcz;have d1:decide (0<nx)=true:=by simp;omega
    have HZ:=Hd hz;clear hz hfz;by_cases hzj:z=j
    ·subst hzj;obtain⟨A2,hsl,hI2⟩:=d3l HI (by omega) hxc;have HI2:=Hd hI2;have HW2:=Hd (HW.hit HY HZ);clear hI2;go_wp2;go_roundw
     case rel=>exact⟨j+1,_,acc,ax.drop 1,_,_,_,rfl,rfl,by go_num,by omega,by omega,by omega,HI2,HW2,H⟩
     case measure=>simp[intOf];omega
    ·have d2:(z==(j:Int))=false:=by simpa using hzj
     have HZJ:=Hd hzj;clear hzj;have HW2:=Hd (HW.miss HY (by rw[HZ.out];intro hc;injection hc with hc;exact HZJ hc))
     go_wp2_with (at_builtin;refine a0x rfl (.tmp 31) (.tmp 33) 22 3 rfl underlying22 Tryz.infoInt H.out 0 rfl rfl y HFY.out _ rfl ?c1 ?_)
     case c1=>omega
     intro v' w' h';have H8:=Hd h';clear h';go_wp2;go_roundw
     case rel=>exact⟨j+1,_,acc++[y],ax,_,_,_,rfl,rfl,by go_num,by omega,hxc,by rw[List.length_append,List.length_singleton];omega,HI,HW2,by rw[List.length_append,List.length_singleton];exact H8⟩
     case measure=>simp[intOf];omega
  ·have HF:=Hd (HW.fin (by have:=HSL.out;omega));by_cases hx0:nx=0
   ·subst hx0;have HB:=Hd (show woOk l a=true by rw[woOk,HF.out];exact decide_eq_true (List.eq_nil_of_length_eq_zero HXL));have HL:=Hd (show woL l a=acc by rw[woL,HF.out]);go_wp2;go_ret2;rw[HB.out,HL.out];exact⟨⟨_,rfl,H.ownS 0 rfl⟩,H.base⟩
   ·have d1:((nx:Int)==0)=false:=by simp;omega
    have HB:=Hd (show woOk l a=false by rw[woOk,HF.out];exact decide_eq_false (fun hc=>hx0 (by have hc:ax=[]:=hc;have:=HXL.out;rw[hc] at this;simpa using this.symm)));clear hx0;have HL:=Hd (show woL l a=acc by rw[woL,HF.out]);go_wp2;go_ret2;rw[HB.out,HL.out];exact⟨⟨_,rfl,H.ownS 0 rfl⟩,H.base⟩
theorem d7b {v:Value}{s d:List Int}(how:Int)(h:Ten w v s d)(hA:Ints w Aa na a)(hac:na≤ca:=by omega):
  Calls prog 70 #[.int .i64 how,v,.slice Aa na ca] w fun e w'=>(∃ u,e=.returned (.tuple #[u,.int .i64 (a5m how s d a).1])∧OTen w' w.heap.size u (a5m how s d a).2.1 (a5m how s d a).2.2)∧Below w.heap.size w w':=by
 cases hh:a4q how with
 | false =>
  obtain⟨A,n,c,B,m,e,rfl,hnc,hme,hI,hJ⟩:=h;have h1:=((Sep.nil w).allocBox w.heap.size 33 [.slice A n c,.slice B m e] rfl).allocBox (w.heap.size+1) 33 [.slice none 0 0,.slice none 0 0] (by simp);have HX:=Hd (b7f (s:=s) (d:=d) (axes:=a) hh);have C1:=a6g how ((w.alloc (.cells #[.slice A n c,.slice B m e] 33)).alloc (.cells #[.slice none 0 0,.slice none 0 0] 33));rw[hh] at C1
  go_enter func70,ntmps70
  go_upto_region 1 with fail
  generalize (w.alloc (.cells #[.slice A n c,.slice B m e] 33)).alloc (.cells #[.slice none 0 0,.slice none 0 0] 33)=W at *;have H:=Hd h1;clear h1 hh
  go_wp2_with fail
  refine C1.mono ?_;rintro e1 w1 ⟨rfl,rfl⟩;obtain⟨r0,r1,fr0,fr1⟩:=H.b2 0;clear C1;go_wp2;rw[HX.out]
  exact sN2 H 0 1 results70
 | true =>
  have HH:=Hd hh;clear hh;obtain⟨A,n,c,B,m,e,rfl,hnc,hme,hI,hJ⟩:=h;have h1:=(((((Sep.nil w).old hA).old hJ).old hI).allocBox w.heap.size 33 [.slice A n c,.slice B m e] rfl).allocBox (w.heap.size+1) 33 [.slice none 0 0,.slice none 0 0] (by simp);have hsl:=hI.len;have hnle:=hI.le;have hmle:=hJ.le;have HFD:=Hd hJ.fit;have HDL:=Hd hJ.len;have hla:=hA.len;have hlea:=hA.le
  go_enter func70,ntmps70
  go_upto_region 1 with fail
  generalize (w.alloc (.cells #[.slice A n c,.slice B m e] 33)).alloc (.cells #[.slice none 0 0,.slice none 0 0] 33)=W at *;have H:=Hd h1;clear h1 hI hJ hA;have HSL:=Hd hsl;clear hsl;have HLa:=Hd hla;clear hla;have hT:=a1s (H.oldInts 2 rfl) hnc (H.oldInts 3 rfl) hme;have C1:=a2q hT;have HT:=Hd hT;clear hT;obtain⟨t0,t1⟩:=H.z2 1 rfl;have CH:=a6g how W;rw[HH.out] at CH
  go_wp2_with fail
  refine CH.mono ?_;rintro e0 w0 ⟨rfl,rfl⟩;clear CH
  go_wp2_with fail
  cases hr:a0a s d with
  | false =>
   rw[hr] at C1;refine C1.mono ?_;rintro e2 w2 ⟨rfl,hb2⟩;replace H:=Hd (H.below hb2);have HX:=Hd (b7i (axes:=a) HH hr);obtain⟨r0,r1,fr0,fr1⟩:=H.b2 0;clear hb2 hr C1 t0 t1;go_wp2;rw[HX.out]
   exact sN2 H 0 13 results70
  | true =>
   rw[hr] at C1;refine C1.mono ?_;rintro e2 w2 ⟨rfl,hb2⟩;replace H:=Hd (H.below hb2);have HRT:=Hd hr;clear hb2 hr C1 t0 t1 HT;have hn4:n≤4:=by have:=(a1f HRT).1;have:=HSL.out;omega
   obtain⟨t0,t1⟩:=H.z2 1 rfl;have C2:=b4d (c:=c) (H.oldInts 2 rfl) (H.oldInts 4 rfl) hac (by omega)
   go_wp2_with fail
   refine C2.mono ?_;rintro e3 w3 ⟨⟨vz,rfl,hO⟩,hb3⟩;clear C2 t0 t1;by_cases hri:a7v a s.length
   ·obtain⟨q1,q2⟩:=d9s hri;rw[q2] at hO;rw[q1];have HRI:=Hd hri;clear hri q1 q2;obtain⟨Z,hZ⟩:∃ Z,rest a s=Z:=⟨_,rfl⟩;obtain⟨nz,hnz⟩:∃ nz,Z.length=nz:=⟨_,rfl⟩;rw[hZ,hnz] at hO;have HZ:=Hd hZ;have HNZ:=Hd hnz;have hnz4:nz≤n:=by rw[←hnz,←hZ];have:=a4g a s 0;have h2:=HSL.out;unfold rest;omega
    obtain⟨Az,cz,rfl,hcz,_,_⟩:=hO.form;replace H:=Hd (H.addOwn hb3 hO);clear hO hb3 hZ hnz;have CN:=fun w=>c1c how w
    go_wp2_with fail
    refine(CN _).mono ?_;rintro e6 w6 ⟨rfl,rfl⟩;clear CN
    cases ho:Sh.right Z with
    | false =>
     go_wp2_with fail
     refine(e1i (a4u how) (H.ownInts 0 rfl).2.2 (a6d how) ho).mono ?_;rintro e4 w4 ⟨⟨u,rfl,hu⟩,hb4⟩;have HX:=Hd (b0i HH HRT HRI (by rw[HZ.out];exact ho));obtain⟨S1,ns,sc,D1,N,dc,rfl,hs1,hd1,hsc,hdc,hNle,h5⟩:=H.addTen hb4 hu;have h6:=h5.allocBox w4.heap.size 33 [.slice S1 ns sc,.slice D1 N dc] rfl;clear hu hb4 h5 hd1 hs1 ho
     go_upto_region 9 with fail
     generalize w4.alloc (.cells #[.slice S1 ns sc,.slice D1 N dc] 33)=w5 at *;replace H:=Hd h6;clear h6;obtain⟨r0,r1,fr0,fr1⟩:=H.b2 4;go_wp2;rw[HX.out]
     exact sN2 H 4 13 results70
    | true =>
     have HRO:=Hd ho;have HRZ:=Hd (show Sh.right (rest a s)=true by rw[HZ.out];exact ho)
     go_wp2_with fail
     refine(c2i (a4u how) (H.ownInts 0 rfl).2.2 (a6d how) ho).mono ?_;rintro e4 w4 ⟨⟨u,rfl,hu⟩,hb4⟩;obtain⟨S1,ns,sc,D1,N,dc,rfl,hs1,hd1,hsc,hdc,hNle,h5⟩:=H.addTen hb4 hu;rw[List.length_replicate] at hd1;rw[hd1] at h5;have HN:=Hd hd1;have HQ:=Hd (c3r HH HRT HRI HRZ);have h6:=h5.allocBox w4.heap.size 33 [.slice S1 ns sc,.slice D1 N dc] rfl;clear hu hb4 h5 hd1 hs1 ho
     go_upto_region 11 with fail
     generalize w4.alloc (.cells #[.slice S1 ns sc,.slice D1 N dc] 33)=w5 at *;generalize w4.heap.size=gt at *;replace H:=Hd h6;clear h6;obtain⟨t0,t1⟩:=H.z2 5 rfl
     go_wp2_with fail
     clear t0 t1
     go_loopw [49] (fun kv wr=>∃ i:Nat,kv=.int .i64 i∧i≤m∧Sep w wr [.box gt 33 [.slice S1 ns sc,.slice D1 N dc],.own 3 (.slice S1 ns sc) ns Z,.own 2 (.slice D1 N dc) N (a4k how s d a i),.own 3 (.slice Az nz cz) nz Z,.box (w.heap.size+1) 33 [.slice none 0 0,.slice none 0 0],.box w.heap.size 33 [.slice A n c,.slice B m e],.ints A n s,.ints B m d,.ints Aa na a]) (fun kv _=>m-(intOf kv).toNat)
     case atStart=>exact⟨0,rfl,by omega,by rw[a9q,HZ.out,HN.out];exact H⟩
     case round =>
      clear H;obtain⟨i,rfl,hile,hS⟩:=hrel;have H:=Hd hS;clear hS;by_cases hli:i<m
      ·have hiz:(i:Int)<Sh.size s:=by have:=a0z HRT;have:=HDL.out;omega
       obtain⟨bd,X,hBA,_,hX,hcX,hfX⟩:=(H.oldInts 7 rfl).at_ (k:=i) hli;subst hBA;have HXX:=Hd hX;have HFX:=Hd hfX;clear hX hfX;obtain⟨t0,t1⟩:=H.z2 5 rfl
       go_wp2_with fail
       refine(c4t i (H.oldInts 6 rfl) ⟨by omega,by omega⟩).mono ?_;rintro e7 w7 ⟨⟨v,n7,rfl,hO⟩,hb7⟩;obtain⟨A7,c7,rfl,hc7,_,_⟩:=hO.form;obtain⟨_,hpl,_,_⟩:=a1o hiz;have hp7:n=n7:=by have:=hO.len;have:=HSL.out;omega
       replace H:=Hd (H.addOwn hb7 hO);obtain⟨P,hP⟩:∃ P,Sh.placeOf s i=P:=⟨_,rfl⟩;rw[hP] at H hpl;have HP:=Hd hP;have HPL:=Hd (show P.length=s.length from hpl);subst hp7;clear hb7 hO hP hpl hc7 t0 t1 hcX;have C3:=b4d (c:=c7) ((H.ownInts 0 rfl).2.2) (H.oldInts 9 rfl) hac (by omega)
       go_wp2_with fail
       refine C3.mono ?_;rintro e8 w8 ⟨⟨vq,rfl,hO⟩,hb8⟩;clear C3;obtain⟨q1,q2⟩:=d9s (l:=P) (a:=a) (by rw[HPL.out];exact HRI);rw[q2] at hO;rw[q1];have hfw:=b8m HRZ hiz;rw[HP.out,HZ.out] at hfw;obtain⟨hw1,hw2,hw3,hw4⟩:=hfw;obtain⟨Q,hQ⟩:∃ Q,rest a P=Q:=⟨_,rfl⟩;have hql:Q.length=nz:=by rw[←hQ,hw1];exact HNZ
       rw[hQ,hql] at hO;rw[hQ] at hw1 hw2 hw3;obtain⟨Aq,cq,rfl,_,_,_⟩:=hO.form;replace H:=Hd (H.addOwn hb8 hO);clear hO hb8 hQ hql q1 q2;obtain⟨K,hK⟩:∃ K,b6g s a i=K:=⟨_,rfl⟩;rw[hK] at hw3 hw4;have hKN:K < N:=by have:=HN.out;omega
       have HK:=Hd hK;have CI:=c4r (c:=cz) (d:=cq) ((H.ownInts 5 rfl).2.2) ((H.ownInts 0 rfl).2.2);rw[←hw3] at CI;clear hK hw1 hw2 hw3 hw4
       go_wp2_with fail
       refine CI.mono ?_;rintro e8 w9 ⟨rfl,rfl⟩;clear CI;obtain⟨gb,cb,hv,hO⟩:=(H.ownS 4 rfl).own (by omega);injection hv with hv1 _ hv3
       subst hv1;subst hv3;obtain⟨z,hz⟩:=a0f (l:=a4k how s d a i) (k:=K) (by rw[a9l,HZ.out];have:=HN.out;omega);have hfz:Fits z:=b3q HFD i z (mG hz);have HST:=Hd (show(a4k how s d a i).set K (putF how z X)=a4k how s d a (i+1) by rw[b7k HXX.out,b3d,HK.out,gD,hz];rfl);have hcz1:=hO.cell hz;have hff:=hO.frozen K;have h9:=H.store 4 K (x:=putF how z X) (a9c how hfz HFX) rfl;rw[HST.out] at h9;have HS9:=Hd h9.drew;obtain⟨o0,o1⟩:=H.z2 2 rfl;have CP:=fun w=>c1y how z X w
       clear h9 hO hz hfz
       go_upto_region 16 with fail
       have hcz2:w8.drew.cell? ⟨gb,K,none⟩=some (.int .i64 z):=hcz1;have hff1:w8.drew.frozen? ⟨gb,K,none⟩=false:=hff;refine wp_region_still_tail 12 (by kernel_rfl) (by kernel_rfl) ?_;simp only[List.take_succ_cons,List.take_zero,List.drop_succ_cons,List.drop_zero]
       repeat still_step
       still_call ((CP _).mono fun _ _ ⟨h,g⟩=>⟨h,g.symm⟩)
       repeat still_step
       refine wpStill_nil ?_;change wpList _ _ _ _ _ w8.drew;clear o0 o1;go_wp2;go_roundw
       case rel=>exact⟨i+1,by go_num,by omega,HS9.sub [2,3,4,5,6,7,8,9,10] rfl (by decide)⟩
       case measure=>simp[intOf];omega
      ·have him:m=i:=by omega
       subst him;have HQ3:=Hd (show a5m how s d a=(0,Z,a4k how s d a m) by rw[HQ.out,HZ.out,d1n,HDL.out]);obtain⟨o0,o1⟩:=H.z2 0 rfl;obtain⟨r0,r1,fr0,fr1⟩:=H.b2 4;go_wp2;rw[HQ3.out];exact sY2 ((H.setBox 4 0 (.slice S1 ns sc) rfl).setBox 4 1 (.slice D1 N dc) rfl) 4 1 2 (.int .i64 0) results70
   ·have HX:=Hd (b9s HH HRT hri);rw[e2p hri];replace H:=Hd (H.addOwn hb3 hO);clear hri hO hb3;obtain⟨r0,r1,fr0,fr1⟩:=H.b2 1;go_wp2;rw[HX.out];exact sN2 H 1 1 results70
theorem Ints.cut (h:Ints w A n xs){lo hi:Nat}(h1:lo≤hi)(h2:hi≤n)(hc:n≤c):Ints w (Go.Proofs.YtjblengklgkgfaaGreat.dropA A c lo) (hi-lo) ((xs.drop lo).take (hi-lo)) :=
 (h.dropA (by omega) hc).take (by omega)
end Go.Proofs.YtjblengklgkgfaaGreat
