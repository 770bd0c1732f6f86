import Derived.Test.YtnnmplkgenhofaaGreatPad
import Derived.Test.YtnnmplkgenhofaaGreatPae
set_option maxRecDepth 100000
set_option maxHeartbeats 12800000
namespace Go.Proofs.YtnnmplkgenhofaaGreat
open Go.RowKit
theorem ref4Step_any (op a b:Int) (w:World) :
  Calls Tryz.prog 95 #[.int .i64 op,.int .i64 a,.int .i64 b] w fun e w' => e=.returned (.int .i64 (stepF op a b))∧w=w' := by
 by_cases h4:op=4
 ·subst h4
  ·go_enter Tryz.func95,Tryz.ntmps95
   go_wp2;go_ret;exact⟨by simp[stepF],rfl⟩
 by_cases h5:op=5
 ·subst h5;clear h4;by_cases hc:a=0
  ·go_enter Tryz.func95,Tryz.ntmps95
   go_wp2;go_ret;exact⟨by simp[stepF,hc],rfl⟩
  ·go_enter Tryz.func95,Tryz.ntmps95
   go_wp2;go_ret;exact⟨by simp[stepF,hc],rfl⟩
 by_cases h6:op=6
 ·subst h6;clear h4 h5
  ·go_enter Tryz.func95,Tryz.ntmps95
   go_wp2;go_ret;exact⟨by simp[stepF],rfl⟩
 by_cases h7:op=7
 ·subst h7;clear h4 h5 h6
  ·go_enter Tryz.func95,Tryz.ntmps95
   go_wp2;go_ret;exact⟨by simp[stepF],rfl⟩
 by_cases h8:op=8
 ·subst h8;clear h4 h5 h6 h7
  ·go_enter Tryz.func95,Tryz.ntmps95
   go_wp2;go_ret;exact⟨by simp[stepF],rfl⟩
 by_cases h9:op=9
 ·subst h9;clear h4 h5 h6 h7 h8;by_cases hc:b<a
  ·go_enter Tryz.func95,Tryz.ntmps95
   go_wp2;go_ret;exact⟨by simp[stepF,hc],rfl⟩
  ·go_enter Tryz.func95,Tryz.ntmps95
   go_wp2;go_ret;exact⟨by simp[stepF];omega,rfl⟩
 by_cases h10:op=10
 ·subst h10;clear h4 h5 h6 h7 h8 h9;by_cases hc:b > a
  ·go_enter Tryz.func95,Tryz.ntmps95
   go_wp2;go_ret;exact⟨by simp[stepF,hc],rfl⟩
  ·go_enter Tryz.func95,Tryz.ntmps95
   go_wp2;go_ret;exact⟨by simp[stepF];omega,rfl⟩
 by_cases h11:op=11
 ·subst h11;clear h4 h5 h6 h7 h8 h9 h10;by_cases hc:a<b
  ·go_enter Tryz.func95,Tryz.ntmps95
   go_wp2;go_ret;exact⟨by simp[stepF,hc],rfl⟩
  ·go_enter Tryz.func95,Tryz.ntmps95
   go_wp2;go_ret;exact⟨by simp[stepF,hc],rfl⟩
 have HX:=Hd (show stepF op a b=0 by simp[stepF,h4,h5,h6,h7,h8,h9,h10,h11])
 go_enter Tryz.func95,Tryz.ntmps95
 go_wp2;go_ret;exact⟨by rw[HX.out];rfl,rfl⟩
theorem cell_keep {w w' : World} {p:Addr} {v:Value} (hb:Below w.heap.size w w') (h:w.cell? p=some v):w'.cell? p=some v:=(hb.cell (World.block_lt_of_cell? w p h)).trans h
def Tens (w:World) (A:Option Addr) (n:Nat) (l:List (List Int × List Int)):Prop :=
 l.length=n∧n≤1000000∧∀ j x,l[j]? = some x→∃ a S sn sc D dn dc,A=some a∧a.block<w.heap.size∧w.cell? (a.add (j*2))=some (.slice S sn sc)∧w.cell? ⟨(a.add (j*2)).block,(a.add (j*2)).off+1,none⟩=some (.slice D dn dc)∧Ten w (.agg #[.slice S sn sc,.slice D dn dc]) x.1 x.2
theorem Tens.below {w w' : World} {A:Option Addr} {n:Nat} {l:List (List Int × List Int)} (h:Tens w A n l) (hb:Below w.heap.size w w'):Tens w' A n l :=
 ⟨h.1,h.2.1,fun j x hx=>by
  obtain⟨a,S,sn,sc,D,dn,dc,e,hbl,h0,h1,ht⟩:=h.2.2 j x hx
  exact⟨a,S,sn,sc,D,dn,dc,e,by have:=hb.size;omega,(hb.cell (by rw[block_of_add];exact hbl)).trans h0,(hb.cell (by simp only[block_of_add];exact hbl)).trans h1,ht.below hb⟩⟩
def allR (x0:List Int × List Int) (l:List (List Int × List Int)):Int:=if l.all (fun y=>tenRight y.1 y.2 && y.1==x0.1) then 0 else 13
theorem allR_bad {x0 y:List Int × List Int} {l:List (List Int × List Int)} {j:Nat} (h:l[j]? = some y) (hb:(tenRight y.1 y.2 && y.1==x0.1)=false):allR x0 l=13:=by
 rw[allR,if_neg];rw[List.all_eq_true];intro ha;have:=ha y (List.mem_of_getElem? h);rw[hb] at this;cases this
theorem allR_good {x0:List Int × List Int} {l:List (List Int × List Int)} (h:∀ k y,k<l.length→l[k]? = some y→(tenRight y.1 y.2 && y.1==x0.1)=true):allR x0 l=0:=by
 rw[allR,if_pos];rw[List.all_eq_true];intro y hy;obtain⟨k,hk,e⟩:=List.getElem_of_mem hy;exact h k y hk (by rw[List.getElem?_eq_getElem hk,e])
theorem ref4All_any {w:World} {A:Option Addr} {n c:Nat} {x0:List Int × List Int} {l:List (List Int × List Int)} (h:Tens w A n (x0::l)) :
  Calls Tryz.prog 94 #[.slice A n c] w fun e w' => e=.returned (.int .i64 (allR x0 (x0::l)))∧Below w.heap.size w w' := by
 have hl:=h.1;have hn:=h.2.1;have hb:=Below.refl w.heap.size w
 go_enter Tryz.func94,Tryz.ntmps94
 go_wp2_with fail
 go_loopw [3] (fun kv wr=>∃ j:Nat,kv=.int .i64 j∧j≤n∧(∀ k y,k<j→(x0::l)[k]? = some y→(tenRight y.1 y.2 && y.1==x0.1)=true)∧Below w.heap.size w wr) (fun kv _=>n-(intOf kv).toNat)
 case atStart=>exact⟨0,rfl,by omega,by omega,hb⟩
 case round =>
  clear hb;obtain⟨j,rfl,hj,hA,hB⟩:=hrel;have HA:=Hd hA;have HB:=Hd hB;have HT:=Hd (h.below hB);clear hA hB;by_cases hlt:j<n
  ·obtain⟨y,hy⟩:∃ y,(x0::l)[j]? = some y:=⟨_,List.getElem?_eq_getElem (by omega)⟩;obtain⟨a,S,sn,sc,D,dn,dc,rfl,hbl,h0,h1,ht⟩:=HT.out.2.2 j y hy;obtain⟨a', S0,sn0,sc0,D0,dn0,dc0,ea,_,g0,g1,gt⟩:=HT.out.2.2 0 x0 rfl;injection ea with ea
   subst ea;have hn0:0<n:=by omega
   have ez:a.add (0*2)=a:=by cases a;rfl
   rw[ez] at g0;clear ez;obtain⟨w1,rfl⟩:∃ w1:World,w1=wr:=⟨_,rfl⟩;have HY:=Hd hy;have HT1:=Hd ht;have HT2:=Hd gt;have C1:=refTensor_any (w:=w1.drew) ht;clear hy ht gt
   go_upto_region 4 with fail
   cases hr:tenRight y.1 y.2 with
   | false =>
    have HR:=Hd (show(tenRight y.1 y.2 && y.1==x0.1)=false by rw[hr];rfl);rw[hr] at C1;clear hr;refine wp_region_held_drew (S:=(fun w' => w'.cell? (a.add (j*2))=some (.slice S sn sc)∧w'.cell? ⟨(a.add (j*2)).block,(a.add (j*2)).off+1,none⟩=some (.slice D dn dc)∧w'.cell? a=some (.slice S0 sn0 sc0))) (by kernel_rfl) ?_ (fun hq_=>?_)
    ·exact⟨h0,h1,g0⟩
    refine zW 0 hq_ ?_
    try simp only[pA]
    refine zW 1 hq_ ?_
    try simp only[pA]
    refine zW 2 hq_ ?_
    try simp only[pA]
    refine zW 3 hq_ ?_
    try simp only[pA]
    refine e1 4 fun K hK=>?_
    first|(refine effU ?_ ?_;(focus rfl))|(go_simp;(go_at_call 96;refine C1.mono ?_;rintro e w2 ⟨rfl,hb2⟩;have a0:=cell_keep (w:=w1.drew) hb2 h0;have a1:=cell_keep (w:=w1.drew) hb2 h1;have a2:=cell_keep (w:=w1.drew) hb2 g0;have HB2:=Hd (then_drew HB.out 1 |>.trans (hb2.mono HB.out.size)));go_wp2_with fail)
    refine zK hK ?_ ⟨a0,a1,a2⟩;clear hK K hq_;intro hq_
    try simp only[pA]
    refine zW 5 hq_ ?_
    try simp only[pA]
    refine zW 6 hq_ ?_
    try simp only[pA]
    first|refine tU 7 hq_ ?_|refine zW 7 hq_ ?_
    try simp only[pA]
    first|refine tU 8 hq_ ?_|refine zW 8 hq_ ?_
    try simp only[pA]
    first|refine tU 9 hq_ ?_|refine zW 9 hq_ ?_
    try simp only[pA]
    first|refine tU 10 hq_ ?_|refine zW 10 hq_ ?_
    try simp only[pA]
    first|refine tU 11 hq_ ?_|refine zW 11 hq_ ?_
    try simp only[pA]
    first|refine tU 12 hq_ ?_|refine zW 12 hq_ ?_
    try simp only[pA]
    first|refine tU 13 hq_ ?_|refine zW 13 hq_ ?_
    try simp only[pA]
    first|refine tU 14 hq_ ?_|refine zW 14 hq_ ?_
    try simp only[pA]
    first|refine tU 15 hq_ ?_|refine zW 15 hq_ ?_
    try simp only[pA]
    refine e1 16 fun K hK=>?_
    first|(refine effU ?_ ?_;(focus rfl))|(go_simp;skip;go_wp2_with fail)
    refine zK hK ?_;clear hK K hq_;intro hq_
    try simp only[pA]
    first|refine tU 17 hq_ ?_|refine zW 17 hq_ ?_
    try simp only[pA]
    refine zW 18 hq_ ?_
    try simp only[pA]
    refine wpAnyH_done (by kernel_rfl) ?_ _;go_wp2;go_ret
    exact⟨by rw[allR_bad HY.out HR.out];rfl,HB2.out⟩
   | true =>
    rw[hr] at C1;obtain⟨i1,_⟩:=ten_ints HT1.out;obtain⟨i2,_⟩:=ten_ints HT2.out;have I1:=Hd i1;have I2:=Hd i2;clear i1 i2
    cases hq:(y.1==x0.1) with
    | false =>
     have HR:=Hd (show(tenRight y.1 y.2 && y.1==x0.1)=false by rw[hr,hq];rfl);clear hr;refine wp_region_held_drew (S:=(fun w' => w'.cell? (a.add (j*2))=some (.slice S sn sc)∧w'.cell? ⟨(a.add (j*2)).block,(a.add (j*2)).off+1,none⟩=some (.slice D dn dc)∧w'.cell? a=some (.slice S0 sn0 sc0))) (by kernel_rfl) ?_ (fun hq_=>?_)
     ·exact⟨h0,h1,g0⟩
     refine zW 0 hq_ ?_
     try simp only[pA]
     refine zW 1 hq_ ?_
     try simp only[pA]
     refine zW 2 hq_ ?_
     try simp only[pA]
     refine zW 3 hq_ ?_
     try simp only[pA]
     refine e1 4 fun K hK=>?_
     first|(refine effU ?_ ?_;(focus rfl))|(go_simp;(go_at_call 96;refine C1.mono ?_;rintro e w2 ⟨rfl,hb2⟩;have a0:=cell_keep (w:=w1.drew) hb2 h0;have a1:=cell_keep (w:=w1.drew) hb2 h1;have a2:=cell_keep (w:=w1.drew) hb2 g0;have HB2:=Hd (then_drew HB.out 1 |>.trans (hb2.mono HB.out.size));have J1:=Hd (I1.out.below (w:=w1.drew) hb2);have J2:=Hd (I2.out.below (w:=w1.drew) hb2));go_wp2_with fail)
     refine zK hK ?_ ⟨a0,a1,a2⟩;clear hK K hq_;intro hq_
     try simp only[pA]
     refine zW 5 hq_ ?_
     try simp only[pA]
     refine zW 6 hq_ ?_
     try simp only[pA]
     first|refine tU 7 hq_ ?_|refine zW 7 hq_ ?_
     try simp only[pA]
     first|refine tU 8 hq_ ?_|refine zW 8 hq_ ?_
     try simp only[pA]
     first|refine tU 9 hq_ ?_|refine zW 9 hq_ ?_
     try simp only[pA]
     first|refine tU 10 hq_ ?_|refine zW 10 hq_ ?_
     try simp only[pA]
     first|refine tU 11 hq_ ?_|refine zW 11 hq_ ?_
     try simp only[pA]
     first|refine tU 12 hq_ ?_|refine zW 12 hq_ ?_
     try simp only[pA]
     first|refine tU 13 hq_ ?_|refine zW 13 hq_ ?_
     try simp only[pA]
     first|refine tU 14 hq_ ?_|refine zW 14 hq_ ?_
     try simp only[pA]
     first|refine tU 15 hq_ ?_|refine zW 15 hq_ ?_
     try simp only[pA]
     refine e1 16 fun K hK=>?_
     first|(refine effU ?_ ?_;(focus rfl))|(go_simp;(go_at_call 44;refine(refInts_any J1.out J2.out).mono ?_;rw[hq];rintro e w3 ⟨rfl,q3,rfl⟩;have b0:(w2.drewN q3).cell? (a.add (j*2))=some (.slice S sn sc):=a0;have b1:(w2.drewN q3).cell? ⟨(a.add (j*2)).block,(a.add (j*2)).off+1,none⟩=some (.slice D dn dc):=a1;have b2:(w2.drewN q3).cell? a=some (.slice S0 sn0 sc0):=a2);go_wp2_with fail)
     refine zK hK ?_ ⟨b0,b1,b2⟩;clear hK K hq_;intro hq_
     try simp only[pA]
     first|refine tU 17 hq_ ?_|refine zW 17 hq_ ?_
     try simp only[pA]
     refine zW 18 hq_ ?_
     try simp only[pA]
     refine wpAnyH_done (by kernel_rfl) ?_ _;go_wp2;go_ret
     exact⟨by rw[allR_bad HY.out HR.out];rfl,below_drewN HB2.out _⟩
    | true =>
     have HR:=Hd (show(tenRight y.1 y.2 && y.1==x0.1)=true by rw[hr,hq];rfl);clear hr;refine wp_region_held_drew (S:=(fun w' => w'.cell? (a.add (j*2))=some (.slice S sn sc)∧w'.cell? ⟨(a.add (j*2)).block,(a.add (j*2)).off+1,none⟩=some (.slice D dn dc)∧w'.cell? a=some (.slice S0 sn0 sc0))) (by kernel_rfl) ?_ (fun hq_=>?_)
     ·exact⟨h0,h1,g0⟩
     refine zW 0 hq_ ?_
     try simp only[pA]
     refine zW 1 hq_ ?_
     try simp only[pA]
     refine zW 2 hq_ ?_
     try simp only[pA]
     refine zW 3 hq_ ?_
     try simp only[pA]
     refine e1 4 fun K hK=>?_
     first|(refine effU ?_ ?_;(focus rfl))|(go_simp;(go_at_call 96;refine C1.mono ?_;rintro e w2 ⟨rfl,hb2⟩;have a0:=cell_keep (w:=w1.drew) hb2 h0;have a1:=cell_keep (w:=w1.drew) hb2 h1;have a2:=cell_keep (w:=w1.drew) hb2 g0;have HB2:=Hd (then_drew HB.out 1 |>.trans (hb2.mono HB.out.size));have J1:=Hd (I1.out.below (w:=w1.drew) hb2);have J2:=Hd (I2.out.below (w:=w1.drew) hb2));go_wp2_with fail)
     refine zK hK ?_ ⟨a0,a1,a2⟩;clear hK K hq_;intro hq_
     try simp only[pA]
     refine zW 5 hq_ ?_
     try simp only[pA]
     refine zW 6 hq_ ?_
     try simp only[pA]
     first|refine tU 7 hq_ ?_|refine zW 7 hq_ ?_
     try simp only[pA]
     first|refine tU 8 hq_ ?_|refine zW 8 hq_ ?_
     try simp only[pA]
     first|refine tU 9 hq_ ?_|refine zW 9 hq_ ?_
     try simp only[pA]
     first|refine tU 10 hq_ ?_|refine zW 10 hq_ ?_
     try simp only[pA]
     first|refine tU 11 hq_ ?_|refine zW 11 hq_ ?_
     try simp only[pA]
     first|refine tU 12 hq_ ?_|refine zW 12 hq_ ?_
     try simp only[pA]
     first|refine tU 13 hq_ ?_|refine zW 13 hq_ ?_
     try simp only[pA]
     first|refine tU 14 hq_ ?_|refine zW 14 hq_ ?_
     try simp only[pA]
     first|refine tU 15 hq_ ?_|refine zW 15 hq_ ?_
     try simp only[pA]
     refine e1 16 fun K hK=>?_
     first|(refine effU ?_ ?_;(focus rfl))|(go_simp;(go_at_call 44;refine(refInts_any J1.out J2.out).mono ?_;rw[hq];rintro e w3 ⟨rfl,q3,rfl⟩;have b0:(w2.drewN q3).cell? (a.add (j*2))=some (.slice S sn sc):=a0;have b1:(w2.drewN q3).cell? ⟨(a.add (j*2)).block,(a.add (j*2)).off+1,none⟩=some (.slice D dn dc):=a1;have b2:(w2.drewN q3).cell? a=some (.slice S0 sn0 sc0):=a2);go_wp2_with fail)
     refine zK hK ?_ ⟨b0,b1,b2⟩;clear hK K hq_;intro hq_
     try simp only[pA]
     first|refine tU 17 hq_ ?_|refine zW 17 hq_ ?_
     try simp only[pA]
     refine zW 18 hq_ ?_
     try simp only[pA]
     refine wpAnyH_done (by kernel_rfl) ?_ _;go_wp2;go_roundw
     case rel=>exact⟨j+1,by go_num,by omega,fun k z hk hz=>by
      rcases Nat.lt_or_ge k j with h' | h'
      ·exact HA.out k z h' hz
      ·obtain rfl:k=j:=by omega
       rw[HY.out] at hz;injection hz with hz;subst hz;exact HR.out,below_drewN HB2.out _⟩
     case measure=>simp[intOf];omega
  ·obtain rfl:j=n:=by omega
   have HX:=Hd (allR_good (x0:=x0) (l:=x0::l) (fun k y hk hy=>HA.out k y (by omega) hy));clear hl;go_wp2;go_ret;exact⟨by rw[HX.out];rfl,HB.out⟩
theorem tens_one {w:World} {g:Nat} {S D:Option Addr} {sn sc dn dc:Nat} {s d:List Int} (hg:w.heap[g]? = some (.cells #[.slice S sn sc,.slice D dn dc] 71 (0,0))) (h:Ten w (.agg #[.slice S sn sc,.slice D dn dc]) s d) :
  Tens w (some ⟨g,0,none⟩) 1 [(s,d)] :=
 ⟨rfl,by omega,fun j x hx=>by
  cases j with
  | zero=>simp at hx;subst hx;exact⟨_,S,sn,sc,D,dn,dc,rfl,block_lt_of_cell (cell0_of hg),cell0_of hg,cell1_of hg,h⟩
  | succ j=>simp at hx⟩
def Laying (W wr:World) (g:Nat) (S D:Option Addr) (sn sc N dc:Nat) (s ds:List Int):Prop :=
 W.heap.size≤g∧wr.heap[g]? = some (.cells #[.slice S sn sc,.slice D N dc] 71 (0,0))∧OwnS wr W.heap.size 3 (.slice S sn sc) sn s∧OwnS wr W.heap.size 2 (.slice D N dc) N ds∧Below W.heap.size W wr
theorem laying_new {W w1:World} {S D:Option Addr} {sn sc N dc:Nat} {s ds:List Int} (hb:Below W.heap.size W w1) (hs:OwnS w1 W.heap.size 3 (.slice S sn sc) sn s) (hd:OwnS w1 W.heap.size 2 (.slice D N dc) N ds) :
  Laying W (w1.alloc (.cells #[.slice S sn sc,.slice D N dc] 71)) w1.heap.size S D sn sc N dc s ds :=
 ⟨hb.size,heap_alloc_new w1 _,hs.alloc _,hd.alloc _,hb.alloc hb.size _⟩
theorem Laying.store {W wr:World} {g gb:Nat} {S:Option Addr} {sn sc N dc:Nat} {s ds:List Int} (h:Laying W wr g S (some ⟨gb,0,none⟩) sn sc N dc s ds) (j:Nat) {x:Int} (hx:Fits x) :
  Laying W (wr.setCell ⟨gb,j,none⟩ (.int .i64 x)) g S (some ⟨gb,0,none⟩) sn sc N dc s (ds.set j x):=by
 obtain⟨hg,hgx,hS,hD,hB⟩:=h;have hO:Own wr W.heap.size 2 gb N dc ds:=hD;obtain⟨cs,hb⟩:=hO.blk;have hgw:=grown_setCell wr gb j (.int .i64 x);exact⟨hg,(hgw.block _ (block_lt_of_cell (cell0_of hgx)) (fun h' => ne_of_types hgx hb ty_ne.2.2.1.symm (by injection h'))).trans hgx,hS.grownNe hgw (hS.apart hb ty_ne.1),hO.store j hx,hB.setCell (p:=⟨gb,j,none⟩) hO.base_.1 _⟩
theorem Laying.drew {W wr:World} {g:Nat} {S D:Option Addr} {sn sc N dc:Nat} {s ds:List Int} (h:Laying W wr g S D sn sc N dc s ds) (q:Nat):Laying W (wr.drewN q) g S D sn sc N dc s ds :=
 ⟨h.1,h.2.1,h.2.2.1,h.2.2.2.1,below_drewN h.2.2.2.2 q⟩
theorem Laying.below {W wr w' : World} {g:Nat} {S D:Option Addr} {sn sc N dc:Nat} {s ds:List Int} (h:Laying W wr g S D sn sc N dc s ds) (hb:Below wr.heap.size wr w'):Laying W w' g S D sn sc N dc s ds :=
 ⟨h.1,(hb.block _ (block_lt_of_cell (cell0_of h.2.1))).trans h.2.1,h.2.2.1.below hb,h.2.2.2.1.below hb,h.2.2.2.2.trans (hb.mono h.2.2.2.2.size)⟩
theorem keep_set {wr:World} {p q:Addr} {v u:Value} (h:wr.cell? p=some v) (hne:p.block≠q.block):(wr.setCell q u).drew.cell? p=some v :=
 (World.cell?_setCell_other wr q p u (fun e=>hne (by rw[e]))).trans h
theorem Laying.ne {W wr:World} {g gb:Nat} {S:Option Addr} {sn sc N dc:Nat} {s ds:List Int} (h:Laying W wr g S (some ⟨gb,0,none⟩) sn sc N dc s ds):g≠gb∧W.heap.size≤gb:=by
 obtain⟨_,hgx,_,hD,_⟩:=h;have hO:Own wr W.heap.size 2 gb N dc ds:=hD;obtain⟨cs,hb⟩:=hO.blk;exact⟨ne_of_types hgx hb ty_ne.2.2.1.symm,hO.base_.1⟩
theorem ref4One_any {w:World} {v:Value} {s d:List Int} (op:Int) (h:Ten w v s d) :
  Calls Tryz.prog 68 #[.int .i64 op,v] w fun e w' => (∃ u,e=.returned (.tuple #[u,.int .i64 (oneR op s d).1])∧OTen w' w.heap.size u (oneR op s d).2.1 (oneR op s d).2.2)∧Below w.heap.size w w' := by
 obtain⟨A,n,c,B,m,e,rfl,hnc,hme,hI,hJ⟩:=h;have hz:=((Below.refl w.heap.size w).alloc (Nat.le_refl _) (.cells #[.slice A n c,.slice B m e] 71)).alloc (by simp) (.cells #[.slice none 0 0,.slice none 0 0] 71);have ha:=heap_alloc2_old w (.cells #[.slice A n c,.slice B m e] 71) (.cells #[.slice none 0 0,.slice none 0 0] 71);have hr:=heap_alloc2_new w (.cells #[.slice A n c,.slice B m e] 71) (.cells #[.slice none 0 0,.slice none 0 0] 71);have hzs:((w.alloc (.cells #[.slice A n c,.slice B m e] 71)).alloc (.cells #[.slice none 0 0,.slice none 0 0] 71)).heap.size=w.heap.size+1+1:=by simp
 go_enter Tryz.func68,Tryz.ntmps68
 go_upto_region 1 with fail
 generalize (w.alloc (.cells #[.slice A n c,.slice B m e] 71)).alloc (.cells #[.slice none 0 0,.slice none 0 0] 71)=W at *;have HT:=Hd (ten_mk (hI.below hz) hnc (hJ.below hz) hme);have HZ:=Hd hz;have HZS:=Hd hzs;have HA:=Hd ha;have HR:=Hd hr;clear hI hJ hz hzs ha hr;have a0:=cell0_of HA.out;have a1:=cell1_of HA.out;have d0:=cell0_of HR.out;have d1:=cell1_of HR.out;have f0:=frozen_of_row _ _ 0 _ _ HR.out;have f1:=frozen_of_row _ _ 1 _ _ HR.out;by_cases hop:op≠4∧op≠5
 ·have HX:=Hd (oneR_arg (s:=s) (d:=d) hop);have hg4:(op != 4)=true:=by simp[hop.1]
  have hg5:(op != 5)=true:=by simp[hop.2]
  clear a0 a1 hop;go_wp2;rw[HX.out];refine ret_ten2 (w.heap.size+1) _ _ (.int .i64 1) Tryz.results68 rfl rfl (block_set2 HR.out _ _) rfl ?_;exact⟨⟨_,rfl,_,_,0,0,rfl,OwnS.nil_ _ _ _,OwnS.nil_ _ _ _⟩,(HZ.out.setCell (by show w.heap.size≤w.heap.size+1;omega) _).setCell (by show w.heap.size≤w.heap.size+1;omega) _⟩
 ·have hop' : op=4∨op=5:=by omega
  clear hop;obtain⟨tgt,htg⟩:∃ t,t=d.map fun x=>stepF op x 0:=⟨_,rfl⟩
  have HQ1:=Hd (fun hr:tenRight s d=false=>oneR_shape hop' hr);have HQ2:=Hd (fun hr:tenRight s d=true=>(oneR_ok hop' hr).trans (show _=((0,s,tgt):Int × List Int × List Int) by rw[htg]));have HAT:=Hd (show ∀ j x,d[j]? = some x→tgt[j]? = some (stepF op x 0) from fun j x hx=>by rw[htg];exact map_at hx);have HTL:=Hd (show tgt.length=d.length by rw[htg];simp);clear htg;have hgs:((op != 4)=false)∨((op != 4)=true∧(op != 5)=false):=by rcases hop' with rfl|rfl <;> simp
  clear hop';rcases hgs with hg4|⟨hg4,hg5⟩
  all_goals (
   have hx:=(Below.refl W.heap.size W).alloc (Nat.le_refl _) (.cells #[.slice A n c,.slice B m e] 71);have C1:=ref4All_any (c:=1) (tens_one (heap_alloc_new W (.cells #[.slice A n c,.slice B m e] 71)) (HT.out.below hx));have HX:=Hd hx;clear hx
   go_wp2_with fail
   cases hr:tenRight s d with
   | false =>
    rw[allR_bad (j:=0) rfl (by rw[hr];rfl)] at C1;refine C1.mono ?_;rintro e2 w2 ⟨rfl,hb2⟩;have HB:=Hd (then_ HX.out hb2);have HQ:=Hd (HQ1.out hr);have hr2:=(HB.out.block (w.heap.size+1) (by have:=HZS.out;omega)).trans HR.out;have d0:=cell0_of hr2;have d1:=cell1_of hr2;have f0:=frozen_of_row _ _ 0 _ _ hr2;have f1:=frozen_of_row _ _ 1 _ _ hr2;have HR2:=Hd hr2;clear hb2 hr hr2 C1;go_wp2;rw[HQ.out];refine ret_ten2 (w.heap.size+1) _ _ (.int .i64 13) Tryz.results68 rfl rfl (block_set2 HR2.out _ _) rfl ?_
    exact⟨⟨_,rfl,_,_,0,0,rfl,OwnS.nil_ _ _ _,OwnS.nil_ _ _ _⟩,((then_ HZ.out HB.out).setCell (by show w.heap.size≤w.heap.size+1;omega) _).setCell (by show w.heap.size≤w.heap.size+1;omega) _⟩
   | true =>
    rw[allR_good (fun k y hk hy=>by obtain rfl:k=0:=(by simp at hk;omega);simp at hy;subst hy;rw[hr];simp)] at C1;refine C1.mono ?_;rintro e2 w2 ⟨rfl,hb2⟩;have HB:=Hd (then_ HX.out hb2);have HRT:=Hd hr;have a0:=box_keep HB.out a0;have a1:=box_keep HB.out a1;have HT2:=Hd (HT.out.below HB.out);obtain⟨i1,i2⟩:=ten_ints HT2.out;have I1:=Hd i1;have I2:=Hd i2;clear hb2 hr C1 i1 i2
    go_wp2_with fail
    refine(refFill_any 0 I1.out (by have:=(right_len HRT.out).1;have:=I1.out.len;omega) ⟨by omega,by omega⟩).mono ?_;rintro e3 w3 ⟨⟨u,rfl,hu⟩,hb3⟩;obtain⟨vs,vd,ns,N,rfl,hvs,hvd⟩:=hu;have hNs:(Sh.size s).toNat=N:=by have:=hvd.len;rwa [List.length_replicate] at this
    have hN:tgt.length=N:=by have:=len_right HRT.out;have:=HTL.out;omega
    rw[hNs] at hvd;clear hNs;have hNle:N≤9223372036854775807:=hvd.2.2;obtain⟨A1,k1,rfl,_,_,_⟩:=hvs.form;obtain⟨D1,k2,rfl,_,_,_⟩:=hvd.form;have hL:=laying_new (then_ HB.out hb3) (hvs.mono HB.out.size) (hvd.mono HB.out.size);have HN:=Hd hN;clear hb3 hvs hvd hN a0 a1
    go_upto_region 7 with fail
    generalize w3.alloc (.cells #[.slice A1 ns k1,.slice D1 N k2] 71)=w4 at *;generalize w3.heap.size=gt at *;have t1:=cell1_of hL.2.1;have HL:=Hd hL;clear hL
    go_wp2_with fail
    clear t1
    go_loopw [29] (fun kv wr=>∃ j:Nat,kv=.int .i64 j∧j≤N∧Laying W wr gt A1 D1 ns k1 N k2 s (mix tgt (List.replicate N 0) j)) (fun kv _=>N - (intOf kv).toNat)
    case atStart=>exact⟨0,rfl,by omega,by rw[mix_zero];exact HL.out⟩
    case round =>
     obtain⟨j,rfl,hj,hL⟩:=hrel;have hLr:=hL;have HLr:=Hd hL;have t0:=cell0_of hL.2.1;have t1:=cell1_of hL.2.1;have hb:=hL.2.2.2.2;have hz:=(hb.block (w.heap.size+1) (by have:=HZS.out;omega)).trans HR.out;have HB4:=Hd hb;have HT4:=Hd (HT.out.below hb);have a1:=cell1_of ((hb.block w.heap.size (by have:=HZS.out;omega)).trans HA.out);have hgt:=hL.1;by_cases hlt:j<N
     ·obtain⟨gb,cb,hv,hO⟩:=hL.2.2.2.1.own (by omega);injection hv with hv1 _ hv3
      subst hv1;subst hv3;obtain⟨_,i2⟩:=ten_ints HT4.out;have hjm:j<m:=by have:=i2.len;have:=HN.out;have:=HTL.out;omega
      obtain⟨bd,x,rfl,hbl,hx,hcx,hfx⟩:=i2.at_ (k:=j) hjm;have HS:=Hd ((HLr.out.drew 1).store j (stepF_fits op hfx (show Fits 0 from⟨by omega,by omega⟩)));have HX:=Hd hx;have HF:=Hd hfx;have hcs:=hO.cell (mix_rep HN.out hlt);have hfs:=hO.frozen j;obtain⟨hn1,hn2⟩:=hLr.ne;have hbW:=(ten_ints HT.out).2.lt bd rfl (by omega);have k0:=keep_set (q:=⟨gb,j,none⟩) (u:=.int .i64 (stepF op x 0)) t1 hn1;have k1:=keep_set (q:=⟨gb,j,none⟩) (u:=.int .i64 (stepF op x 0)) a1 (by show w.heap.size≠gb;have:=HZS.out;omega);have k2' := keep_set (q:=⟨gb,j,none⟩) (u:=.int .i64 (stepF op x 0)) hcx (by rw[block_of_add];show bd.block≠gb;omega);clear hL hb hz i2 hO hx hfx t0
      go_wp2_with fail
      go_region_held3 (fun w' => w'.cell? ⟨gt,1,none⟩=some (.slice (some ⟨gb,0,none⟩) N k2)∧w'.cell? ⟨w.heap.size,1,none⟩=some (.slice (some bd) m e)∧w'.cell? (bd.add j)=some (.int .i64 x)) (go_keep)
       (first|(go_at_call 95;refine(ref4Step_any _ _ _ _).mono ?_;rintro e5 w5 ⟨rfl,rfl⟩))
      clear k0 k1 k2' a1 t1 hcx hcs hfs;go_wp2;go_roundw
      case rel=>exact⟨j+1,by go_num,by omega,by rw[← mix_step HN.out (HAT.out j x HX.out)];exact HS.out⟩
      case measure=>simp[intOf];omega
     ·obtain rfl:j=N:=by omega
      rw[mix_end HN.out] at HLr;have d0:=cell0_of hz;have d1:=cell1_of hz;have f0:=frozen_of_row _ _ 0 _ _ hz;have f1:=frozen_of_row _ _ 1 _ _ hz;have HZr:=Hd hz;have HQ:=Hd (HQ2.out HRT.out);clear hL hb hz a1;go_wp2;rw[HQ.out];refine ret_ten2 (w.heap.size+1) _ _ (.int .i64 0) Tryz.results68 rfl rfl (block_set2 HZr.out _ _) rfl ?_;have hgr:=grown_trans (grown_setCell wr (w.heap.size+1) 0 (.slice A1 ns k1)) (grown_setCell _ (w.heap.size+1) 1 (.slice D1 j k2));exact⟨⟨_,rfl,_,_,ns,j,rfl,(HLr.out.2.2.1.grown hgr (by have:=HZS.out;omega)).mono (by have:=HZS.out;omega),(HLr.out.2.2.2.1.grown hgr (by have:=HZS.out;omega)).mono (by have:=HZS.out;omega)⟩,((then_ HZ.out HB4.out).setCell (by show w.heap.size≤w.heap.size+1;omega) _).setCell (by show w.heap.size≤w.heap.size+1;omega) _⟩
   )
structure NodeV where
 op:Int
 ins:List Int
 shape:List Int
 a:List Int
 n:Int
 how:Int
 note:ByteArray
structure GraphV where
 sizes:List Int
 names:ByteArray
 nodes:List NodeV
 outs:List Int
structure NodeL (w:World) (nd:NodeV) (A:Option Addr) (na ca:Nat) (B:Option Addr) (nb cb:Nat) (C:Option Addr) (nc cc:Nat):Prop where
 ia:na≤ca
 ib:nb≤cb
 ic:nc≤cc
 inA:Ints w A na nd.ins
 inB:Ints w B nb nd.shape
 inC:Ints w C nc nd.a
 op:Fits nd.op
 n:Fits nd.n
 how:Fits nd.how
 note:nd.note.size≤17592186044000
def nodeCells (nd:NodeV) (A:Option Addr) (na ca:Nat) (B:Option Addr) (nb cb:Nat) (C:Option Addr) (nc cc:Nat):List Value :=
 [.int .i64 nd.op,.slice A na ca,.slice B nb cb,.slice C nc cc,.int .i64 nd.n,.int .i64 nd.how,.string nd.note]
def NodeIs (w:World) (v:Value) (nd:NodeV):Prop :=
 ∃ A na ca B nb cb C nc cc,v=.agg #[.int .i64 nd.op,.slice A na ca,.slice B nb cb,.slice C nc cc,.int .i64 nd.n,.int .i64 nd.how,.string nd.note]∧NodeL w nd A na ca B nb cb C nc cc
theorem NodeL.below {w w' : World} {nd:NodeV} {A:Option Addr} {na ca:Nat} {B:Option Addr} {nb cb:Nat} {C:Option Addr} {nc cc:Nat} (h:NodeL w nd A na ca B nb cb C nc cc) (hb:Below w.heap.size w w'):NodeL w' nd A na ca B nb cb C nc cc :=
 ⟨h.ia,h.ib,h.ic,h.inA.below hb,h.inB.below hb,h.inC.below hb,h.op,h.n,h.how,h.note⟩
theorem NodeIs.below {w w' : World} {v:Value} {nd:NodeV} (h:NodeIs w v nd) (hb:Below w.heap.size w w'):NodeIs w' v nd:=by
 obtain⟨A,na,ca,B,nb,cb,C,nc,cc,e,hl⟩:=h;exact⟨A,na,ca,B,nb,cb,C,nc,cc,e,hl.below hb⟩
def Lils (w:World) (A:Option Addr) (n:Nat) (L:List (List Int)):Prop :=
 L.length=n∧n≤900∧∀ j x,L[j]? = some x→∃ a B m c,A=some a∧a.block<w.heap.size∧w.cell? (a.add j)=some (.slice B m c)∧m≤c∧Ints w B m x
theorem Lils.below {w w' : World} {A:Option Addr} {n:Nat} {L:List (List Int)} (h:Lils w A n L) (hb:Below w.heap.size w w'):Lils w' A n L :=
 ⟨h.1,h.2.1,fun j x hx=>by
  obtain⟨a,B,m,c,e,hl,h0,hc,hI⟩:=h.2.2 j x hx
  exact⟨a,B,m,c,e,by have:=hb.size;omega,(hb.cell (by rw[block_of_add];exact hl)).trans h0,hc,hI.below hb⟩⟩
def Nods (w:World) (A:Option Addr) (n:Nat) (L:List NodeV):Prop :=
 L.length=n∧n≤900∧∀ j nd,L[j]? = some nd→∃ a S na ca B nb cb C nc cc,A=some a∧a.block<w.heap.size∧w.cell? (a.add (j*7))=some (.int .i64 nd.op) ∧
  w.cell? ⟨(a.add (j*7)).block,(a.add (j*7)).off+1,none⟩=some (.slice S na ca)∧w.cell? ⟨(a.add (j*7)).block,(a.add (j*7)).off+2,none⟩=some (.slice B nb cb)∧w.cell? ⟨(a.add (j*7)).block,(a.add (j*7)).off+3,none⟩=some (.slice C nc cc) ∧
  w.cell? ⟨(a.add (j*7)).block,(a.add (j*7)).off+4,none⟩=some (.int .i64 nd.n)∧w.cell? ⟨(a.add (j*7)).block,(a.add (j*7)).off+5,none⟩=some (.int .i64 nd.how)∧w.cell? ⟨(a.add (j*7)).block,(a.add (j*7)).off+6,none⟩=some (.string nd.note)∧NodeL w nd S na ca B nb cb C nc cc
theorem Nods.below {w w' : World} {A:Option Addr} {n:Nat} {L:List NodeV} (h:Nods w A n L) (hb:Below w.heap.size w w'):Nods w' A n L :=
 ⟨h.1,h.2.1,fun j x hx=>by
  obtain⟨a,S,na,ca,B,nb,cb,C,nc,cc,e,hl,h0,h1,h2,h3,h4,h5,h6,hN⟩:=h.2.2 j x hx;have hl' : ∀ k:Nat,(⟨(a.add (j*7)).block,(a.add (j*7)).off+k,none⟩:Addr).block<w.heap.size:=fun k=>by simp only[block_of_add];exact hl
  exact⟨a,S,na,ca,B,nb,cb,C,nc,cc,e,by have:=hb.size;omega,(hb.cell (by rw[block_of_add];exact hl)).trans h0,(hb.cell (hl' 1)).trans h1,(hb.cell (hl' 2)).trans h2,(hb.cell (hl' 3)).trans h3,(hb.cell (hl' 4)).trans h4,(hb.cell (hl' 5)).trans h5,(hb.cell (hl' 6)).trans h6,hN.below hb⟩⟩
structure GraphL (w:World) (G:GraphV) (A:Option Addr) (na ca:Nat) (B:Option Addr) (nb cb:Nat) (C:Option Addr) (nc cc:Nat):Prop where
 ia:na≤ca
 ib:nb≤cb
 ic:nc≤cc
 inA:Ints w A na G.sizes
 inB:Nods w B nb G.nodes
 inC:Ints w C nc G.outs
 names:G.names.size≤17592186044000
def GraphIs (w:World) (v:Value) (G:GraphV):Prop :=
 ∃ A na ca B nb cb C nc cc,v=.agg #[.slice A na ca,.string G.names,.slice B nb cb,.slice C nc cc]∧GraphL w G A na ca B nb cb C nc cc
theorem GraphL.below {w w' : World} {G:GraphV} {A:Option Addr} {na ca:Nat} {B:Option Addr} {nb cb:Nat} {C:Option Addr} {nc cc:Nat} (h:GraphL w G A na ca B nb cb C nc cc) (hb:Below w.heap.size w w'):GraphL w' G A na ca B nb cb C nc cc :=
 ⟨h.ia,h.ib,h.ic,h.inA.below hb,h.inB.below hb,h.inC.below hb,h.names⟩
theorem GraphIs.below {w w' : World} {v:Value} {G:GraphV} (h:GraphIs w v G) (hb:Below w.heap.size w w'):GraphIs w' v G:=by
 obtain⟨A,na,ca,B,nb,cb,C,nc,cc,e,hl⟩:=h;exact⟨A,na,ca,B,nb,cb,C,nc,cc,e,hl.below hb⟩
theorem results_tmp5 {fn:Func} {t u v x y:Tmp} (h:fn.results=#[.tmp t,.tmp u,.tmp v,.tmp x,.tmp y]) (tmps:Array Value) (P:Program) (w:World) :
  (results fn tmps).run P w=.ok (.tuple #[tmps.getD t undef,tmps.getD u undef,tmps.getD v undef,tmps.getD x undef,tmps.getD y undef]) w:=by
 simp[results,h]
def takesF (op:Int):Int × Bool × Bool × Bool × Bool :=
 if op=1 then(0,true,false,false,false) else if op=2 then(0,true,false,true,false) else if op=3 then(0,true,true,false,false)
 else if op=4∨op=5 then(1,false,false,false,false) else if 6≤op∧op≤11 then(2,false,false,false,false) else if op=12 then(3,false,false,false,false)
 else if op=13∨op=15 then(1,false,true,false,false) else if op=14 then(1,true,true,false,false) else if op=16 then(1,false,true,true,false)
 else if op=17 then(-1,false,true,false,false) else if op=18∨op=20 then(1,false,true,false,true) else if op=19 then(2,false,true,false,false) else(-2,false,false,false,false)
def formK (t:Int × Bool × Bool × Bool × Bool) (nd:NodeV) (k:Int):Bool :=
 if t.1 = -2∨(0≤t.1∧k≠t.1)∨(t.1 = -1∧k<2) then false
 else(t.2.1 || decide (nd.shape.length=0)) && (t.2.2.1 || decide (nd.a.length=0)) && (t.2.2.2.1 || decide (nd.n=0)) && (t.2.2.2.2 || decide (nd.how=0))
def formF (nd:NodeV) (k:Int):Bool:=formK (takesF nd.op) nd k
theorem triN (b:Bool) (n:Nat):b=true∨(b=false∧n=0∧((n:Int)==0)=true)∨(b=false∧¬ n=0∧((n:Int)==0)=false):=by
 cases b
 ·by_cases h:n=0
  ·exact .inr (.inl ⟨rfl,h,by simpa using h⟩)
  ·exact .inr (.inr ⟨rfl,h,by simpa using h⟩)
 ·exact .inl rfl
theorem triI (b:Bool) (n:Int):b=true∨(b=false∧n=0∧(n==0)=true)∨(b=false∧¬ n=0∧(n==0)=false):=by
 cases b
 ·by_cases h:n=0
  ·exact .inr (.inl ⟨rfl,h,by simpa using h⟩)
  ·exact .inr (.inr ⟨rfl,h,by simpa using h⟩)
 ·exact .inl rfl
theorem blk_add {a:Addr} {n k:Nat} (h:a.block<n):(a.add k).block<n:=by rw[block_of_add];exact h
theorem old7 {w0 w:World} {l:List Chunk} (H:Sep w0 w l) {la:Addr} {j:Nat} {v0 v1 v2 v3 v4 v5 v6:Value} (hb:la.block<w0.heap.size) (k0:w0.cell? (la.add (j*7))=some v0) (k1:w0.cell? ⟨(la.add (j*7)).block,(la.add (j*7)).off+1,none⟩=some v1) (k2:w0.cell? ⟨(la.add (j*7)).block,(la.add (j*7)).off+2,none⟩=some v2) (k3:w0.cell? ⟨(la.add (j*7)).block,(la.add (j*7)).off+3,none⟩=some v3) (k4:w0.cell? ⟨(la.add (j*7)).block,(la.add (j*7)).off+4,none⟩=some v4) (k5:w0.cell? ⟨(la.add (j*7)).block,(la.add (j*7)).off+5,none⟩=some v5) (k6:w0.cell? ⟨(la.add (j*7)).block,(la.add (j*7)).off+6,none⟩=some v6) :
  w.cell? (la.add (j*7))=some v0∧w.cell? ⟨(la.add (j*7)).block,(la.add (j*7)).off+1,none⟩=some v1∧w.cell? ⟨(la.add (j*7)).block,(la.add (j*7)).off+2,none⟩=some v2∧w.cell? ⟨(la.add (j*7)).block,(la.add (j*7)).off+3,none⟩=some v3∧w.cell? ⟨(la.add (j*7)).block,(la.add (j*7)).off+4,none⟩=some v4∧w.cell? ⟨(la.add (j*7)).block,(la.add (j*7)).off+5,none⟩=some v5∧w.cell? ⟨(la.add (j*7)).block,(la.add (j*7)).off+6,none⟩=some v6 :=
 ⟨H.oldCell (blk_add hb) k0,H.oldCell (blk_add hb) k1,H.oldCell (blk_add hb) k2,H.oldCell (blk_add hb) k3,H.oldCell (blk_add hb) k4,H.oldCell (blk_add hb) k5,H.oldCell (blk_add hb) k6⟩
end Go.Proofs.YtnnmplkgenhofaaGreat
