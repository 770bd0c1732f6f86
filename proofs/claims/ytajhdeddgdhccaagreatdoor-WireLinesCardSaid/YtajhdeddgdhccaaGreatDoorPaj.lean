import Derived.Test.YtajhdeddgdhccaaGreatDoorPai
set_option maxRecDepth 100000
set_option maxHeartbeats 12800000
namespace Go.Proofs.YtajhdeddgdhccaaGreatDoor
open Go.RowKit Go.Proofs.Tryz
variable {A D S:Option Addr} {N dc g gb n sc sn:Nat} {W w w' wr:World} {d ds s:List Int} {p:Addr} {v:Value} {x0:List Int × List Int}
theorem b2b (op a b:Int)(w:World):
  Calls prog 88 #[.int .i64 op,.int .i64 a,.int .i64 b] w fun e w'=>e=.returned (.int .i64 (a3m op a b))∧w=w':=by
 by_cases h4:op=4
 ·subst h4
  ·go_enter func88,ntmps88
   go_wp2;go_ret;exact⟨by simp[a3m],rfl⟩
 by_cases h5:op=5
 ·subst h5;clear h4;by_cases hc:a=0
  ·go_enter func88,ntmps88
   go_wp2;go_ret;exact⟨by simp[a3m,hc],rfl⟩
  ·go_enter func88,ntmps88
   go_wp2;go_ret;exact⟨by simp[a3m,hc],rfl⟩
 by_cases h6:op=6
 ·subst h6;clear h4 h5
  ·go_enter func88,ntmps88
   go_wp2;go_ret;exact⟨by simp[a3m],rfl⟩
 by_cases h7:op=7
 ·subst h7;clear h4 h5 h6
  ·go_enter func88,ntmps88
   go_wp2;go_ret;exact⟨by simp[a3m],rfl⟩
 by_cases h8:op=8
 ·subst h8;clear h4 h5 h6 h7
  ·go_enter func88,ntmps88
   go_wp2;go_ret;exact⟨by simp[a3m],rfl⟩
 by_cases h9:op=9
 ·subst h9;clear h4 h5 h6 h7 h8;by_cases hc:b<a
  ·go_enter func88,ntmps88
   go_wp2;go_ret;exact⟨by simp[a3m,hc] <;> omega,rfl⟩
  ·go_enter func88,ntmps88
   go_wp2;go_ret;exact⟨by simp[a3m];omega,rfl⟩
 by_cases h10:op=10
 ·subst h10;clear h4 h5 h6 h7 h8 h9;by_cases hc:b > a
  ·go_enter func88,ntmps88
   go_wp2;go_ret;exact⟨by simp[a3m,hc] <;> omega,rfl⟩
  ·go_enter func88,ntmps88
   go_wp2;go_ret;exact⟨by simp[a3m];omega,rfl⟩
 by_cases h11:op=11
 ·subst h11;clear h4 h5 h6 h7 h8 h9 h10;by_cases hc:a<b
  ·go_enter func88,ntmps88
   go_wp2;go_ret;exact⟨by simp[a3m,hc],rfl⟩
  ·go_enter func88,ntmps88
   go_wp2;go_ret;exact⟨by simp[a3m,hc],rfl⟩
 have HX:=Hd (show a3m op a b=0 by simp[a3m,h4,h5,h6,h7,h8,h9,h10,h11])
 go_enter func88,ntmps88
 go_wp2;go_ret;exact⟨by rw[HX.out];rfl,rfl⟩
theorem a4e (hb:Below w.heap.size w w')(h:w.cell? p=some v):w'.cell? p=some v:=(hb.cell (World.block_lt_of_cell? w p h)).trans h
def Tens (w:World) (A:Option Addr) (n:Nat) (l:List (List Int × List Int)):Prop :=
 l.length=n∧n≤1000000∧∀ j x,l[j]?=some x→∃ a S sn sc D dn dc,A=some a∧a.block<w.heap.size∧w.cell? (a.add (j*2))=some (.slice S sn sc)∧w.cell? ⟨(a.add (j*2)).block,(a.add (j*2)).off+1,none⟩=some (.slice D dn dc)∧Ten w (.agg #[.slice S sn sc,.slice D dn dc]) x.1 x.2
theorem Tens.below {l:List (List Int × List Int)}(h:Tens w A n l)(hb:Below w.heap.size w w'):Tens w' A n l :=
 ⟨h.1,h.2.1,fun j x hx=>by
  obtain⟨a,S,sn,sc,D,dn,dc,e,hbl,h0,h1,ht⟩:=h.2.2 j x hx
  exact⟨a,S,sn,sc,D,dn,dc,e,by have:=hb.size;omega,(hb.cell (by rw[a0d];exact hbl)).trans h0,(hb.cell (by simp only[a0d];exact hbl)).trans h1,ht.below hb⟩⟩
def allR (x0:List Int × List Int) (l:List (List Int × List Int)):Int:=if l.all (fun y=>a0a y.1 y.2&&y.1==x0.1) then 0 else 13
theorem b7a {y:List Int × List Int}{l:List (List Int × List Int)}{j:Nat}(h:l[j]?=some y)(hb:(a0a y.1 y.2&&y.1==x0.1)=false):allR x0 l=13:=by
 rw[allR,iN];rw[List.all_eq_true];intro ha;have:=ha y (mG h);rw[hb] at this;cases this
theorem b8o {l:List (List Int × List Int)}(h:∀ k y,k<l.length→l[k]?=some y→(a0a y.1 y.2&&y.1==x0.1)=true):allR x0 l=0:=by
 rw[allR,iP];rw[List.all_eq_true];intro y hy;obtain⟨k,hk,e⟩:=List.getElem_of_mem hy;exact h k y hk (by rw[List.getElem?_eq_getElem hk,e])
theorem a9n {c:Nat}{l:List (List Int × List Int)}(h:Tens w A n (x0::l)):
  Calls prog 87 #[.slice A n c] w fun e w'=>e=.returned (.int .i64 (allR x0 (x0::l)))∧Below w.heap.size w w':=by
 have hl:=h.1;have hn:=h.2.1;have hb:=Below.refl w.heap.size w
 go_enter func87,ntmps87
 go_wp2_with fail
 go_loopw [3] (fun kv wr=>∃ j:Nat,kv=.int .i64 j∧j≤n∧(∀ k y,k<j→(x0::l)[k]?=some y→(a0a y.1 y.2&&y.1==x0.1)=true)∧Below w.heap.size w wr) (fun kv _=>n-(intOf kv).toNat)
 case atStart=>exact⟨0,rfl,by omega,by omega,hb⟩
 case round =>
  clear hb;obtain⟨j,rfl,hj,hA,hB⟩:=hrel;have HA:=Hd hA;have HB:=Hd hB;have HT:=Hd (h.below hB);clear hA hB;by_cases hlt:j<n
  ·obtain⟨y,hy⟩:∃ y,(x0::l)[j]?=some y:=gE (by omega);obtain⟨a,S,sn,sc,D,dn,dc,rfl,hbl,h0,h1,ht⟩:=HT.out.2.2 j y hy;obtain⟨a', S0,sn0,sc0,D0,dn0,dc0,ea,_,g0,g1,gt⟩:=HT.out.2.2 0 x0 rfl;injection ea with ea
   subst ea;have hn0:0<n:=by omega
   have ez:a.add (0*2)=a:=by cases a;rfl
   rw[ez] at g0;clear ez;obtain⟨w1,rfl⟩:∃ w1:World,w1=wr:=⟨_,rfl⟩;have HY:=Hd hy;have HT1:=Hd ht;have HT2:=Hd gt;have C1:=a1o (w:=w1.drew) ht;clear hy ht gt
   go_upto_region 4 with fail
   cases hr:a0a y.1 y.2 with
   | false =>
    have HR:=Hd (show(a0a y.1 y.2&&y.1==x0.1)=false by rw[hr];rfl);rw[hr] at C1;clear hr;refine wp_region_held_drew (S:=(fun w'=>w'.cell? (a.add (j*2))=some (.slice S sn sc)∧w'.cell? ⟨(a.add (j*2)).block,(a.add (j*2)).off+1,none⟩=some (.slice D dn dc)∧w'.cell? a=some (.slice S0 sn0 sc0))) (by kernel_rfl) ?_ (fun hq_=>?_)
    ·exact⟨h0,h1,g0⟩
    refine zV 0 hq_ ?_;refine zV 1 hq_ ?_;refine zV 2 hq_ ?_;refine zV 3 hq_ ?_;refine e1 4 fun K hK=>?_
    first|(refine effU ?_ ?_;(focus rfl))|(go_simp;(go_at_call 89;refine C1.mono ?_;rintro e w2 ⟨rfl,hb2⟩;have a0:=a4e (w:=w1.drew) hb2 h0;have a1:=a4e (w:=w1.drew) hb2 h1;have a2:=a4e (w:=w1.drew) hb2 g0;have HB2:=Hd (b4u HB 1 |>.trans (hb2.mono HB.size)));go_wp2_with fail)
    refine zX hK (fun hq_=>?_) ⟨a0,a1,a2⟩;refine zV 5 hq_ ?_;refine zV 6 hq_ ?_;refine zT 7 hq_ ?_;refine zT 8 hq_ ?_;refine zT 9 hq_ ?_;refine zT 10 hq_ ?_;refine zT 11 hq_ ?_;refine zT 12 hq_ ?_;refine zT 13 hq_ ?_;refine zT 14 hq_ ?_;refine zT 15 hq_ ?_;refine e1 16 fun K hK=>?_
    first|(refine effU ?_ ?_;(focus rfl))|(go_simp;skip;go_wp2_with fail)
    refine zX hK fun hq_=>?_;refine zT 17 hq_ ?_;refine zV 18 hq_ ?_;refine dN ?_;go_wp2;go_ret
    exact⟨by rw[b7a HY.out HR.out];rfl,HB2⟩
   | true =>
    rw[hr] at C1;obtain⟨i1,_⟩:=a0w HT1;obtain⟨i2,_⟩:=a0w HT2;have I1:=Hd i1;have I2:=Hd i2;clear i1 i2
    cases hq:(y.1==x0.1) with
    | false =>
     have HR:=Hd (show(a0a y.1 y.2&&y.1==x0.1)=false by rw[hr,hq];rfl);clear hr;refine wp_region_held_drew (S:=(fun w'=>w'.cell? (a.add (j*2))=some (.slice S sn sc)∧w'.cell? ⟨(a.add (j*2)).block,(a.add (j*2)).off+1,none⟩=some (.slice D dn dc)∧w'.cell? a=some (.slice S0 sn0 sc0))) (by kernel_rfl) ?_ (fun hq_=>?_)
     ·exact⟨h0,h1,g0⟩
     refine zV 0 hq_ ?_;refine zV 1 hq_ ?_;refine zV 2 hq_ ?_;refine zV 3 hq_ ?_;refine e1 4 fun K hK=>?_
     first|(refine effU ?_ ?_;(focus rfl))|(go_simp;(go_at_call 89;refine C1.mono ?_;rintro e w2 ⟨rfl,hb2⟩;have a0:=a4e (w:=w1.drew) hb2 h0;have a1:=a4e (w:=w1.drew) hb2 h1;have a2:=a4e (w:=w1.drew) hb2 g0;have HB2:=Hd (b4u HB 1 |>.trans (hb2.mono HB.size));have J1:=Hd (I1.below (w:=w1.drew) hb2);have J2:=Hd (I2.below (w:=w1.drew) hb2));go_wp2_with fail)
     refine zX hK (fun hq_=>?_) ⟨a0,a1,a2⟩;refine zV 5 hq_ ?_;refine zV 6 hq_ ?_;refine zT 7 hq_ ?_;refine zT 8 hq_ ?_;refine zT 9 hq_ ?_;refine zT 10 hq_ ?_;refine zT 11 hq_ ?_;refine zT 12 hq_ ?_;refine zT 13 hq_ ?_;refine zT 14 hq_ ?_;refine zT 15 hq_ ?_;refine e1 16 fun K hK=>?_
     first|(refine effU ?_ ?_;(focus rfl))|(go_simp;(go_at_call 58;refine(a5t J1 J2).mono ?_;rw[hq];rintro e w3 ⟨rfl,q3,rfl⟩;have b0:(w2.drewN q3).cell? (a.add (j*2))=some (.slice S sn sc):=a0;have b1:(w2.drewN q3).cell? ⟨(a.add (j*2)).block,(a.add (j*2)).off+1,none⟩=some (.slice D dn dc):=a1;have b2:(w2.drewN q3).cell? a=some (.slice S0 sn0 sc0):=a2);go_wp2_with fail)
     refine zX hK (fun hq_=>?_) ⟨b0,b1,b2⟩;refine zT 17 hq_ ?_;refine zV 18 hq_ ?_;refine dN ?_;go_wp2;go_ret
     exact⟨by rw[b7a HY.out HR.out];rfl,a1l HB2 _⟩
    | true =>
     have HR:=Hd (show(a0a y.1 y.2&&y.1==x0.1)=true by rw[hr,hq];rfl);clear hr;refine wp_region_held_drew (S:=(fun w'=>w'.cell? (a.add (j*2))=some (.slice S sn sc)∧w'.cell? ⟨(a.add (j*2)).block,(a.add (j*2)).off+1,none⟩=some (.slice D dn dc)∧w'.cell? a=some (.slice S0 sn0 sc0))) (by kernel_rfl) ?_ (fun hq_=>?_)
     ·exact⟨h0,h1,g0⟩
     refine zV 0 hq_ ?_;refine zV 1 hq_ ?_;refine zV 2 hq_ ?_;refine zV 3 hq_ ?_;refine e1 4 fun K hK=>?_
     first|(refine effU ?_ ?_;(focus rfl))|(go_simp;(go_at_call 89;refine C1.mono ?_;rintro e w2 ⟨rfl,hb2⟩;have a0:=a4e (w:=w1.drew) hb2 h0;have a1:=a4e (w:=w1.drew) hb2 h1;have a2:=a4e (w:=w1.drew) hb2 g0;have HB2:=Hd (b4u HB 1 |>.trans (hb2.mono HB.size));have J1:=Hd (I1.below (w:=w1.drew) hb2);have J2:=Hd (I2.below (w:=w1.drew) hb2));go_wp2_with fail)
     refine zX hK (fun hq_=>?_) ⟨a0,a1,a2⟩;refine zV 5 hq_ ?_;refine zV 6 hq_ ?_;refine zT 7 hq_ ?_;refine zT 8 hq_ ?_;refine zT 9 hq_ ?_;refine zT 10 hq_ ?_;refine zT 11 hq_ ?_;refine zT 12 hq_ ?_;refine zT 13 hq_ ?_;refine zT 14 hq_ ?_;refine zT 15 hq_ ?_;refine e1 16 fun K hK=>?_
     first|(refine effU ?_ ?_;(focus rfl))|(go_simp;(go_at_call 58;refine(a5t J1 J2).mono ?_;rw[hq];rintro e w3 ⟨rfl,q3,rfl⟩;have b0:(w2.drewN q3).cell? (a.add (j*2))=some (.slice S sn sc):=a0;have b1:(w2.drewN q3).cell? ⟨(a.add (j*2)).block,(a.add (j*2)).off+1,none⟩=some (.slice D dn dc):=a1;have b2:(w2.drewN q3).cell? a=some (.slice S0 sn0 sc0):=a2);go_wp2_with fail)
     refine zX hK (fun hq_=>?_) ⟨b0,b1,b2⟩;refine zT 17 hq_ ?_;refine zV 18 hq_ ?_;refine dN ?_;go_wp2;go_roundw
     case rel=>exact⟨j+1,by go_num,by omega,fun k z hk hz=>by
      rcases Nat.lt_or_ge k j with h' | h'
      ·exact HA k z h' hz
      ·obtain rfl:k=j:=by omega
       rw[HY.out] at hz;injection hz with hz;subst hz;exact HR,a1l HB2 _⟩
     case measure=>simp[intOf];omega
  ·obtain rfl:j=n:=by omega
   have HX:=Hd (b8o (x0:=x0) (l:=x0::l) (fun k y hk hy=>HA.out k y (by omega) hy));clear hl;go_wp2;go_ret;exact⟨by rw[HX.out];rfl,HB⟩
theorem d2z {dn:Nat}(hg:w.heap[g]?=some (.cells #[.slice S sn sc,.slice D dn dc] 84 (0,0)))(h:Ten w (.agg #[.slice S sn sc,.slice D dn dc]) s d):
  Tens w (some ⟨g,0,none⟩) 1 [(s,d)] :=
 ⟨rfl,by omega,fun j x hx=>by
  cases j with
  | zero=>simp at hx;subst hx;exact⟨_,S,sn,sc,D,dn,dc,rfl,block_lt_of_cell (a1n hg),a1n hg,a1b hg,h⟩
  | succ j=>simp at hx⟩
def a5g (W wr:World) (g:Nat) (S D:Option Addr) (sn sc N dc:Nat) (s ds:List Int):Prop :=
 W.heap.size≤g∧wr.heap[g]?=some (.cells #[.slice S sn sc,.slice D N dc] 84 (0,0))∧OwnS wr W.heap.size 3 (.slice S sn sc) sn s∧OwnS wr W.heap.size 2 (.slice D N dc) N ds∧Below W.heap.size W wr
theorem b1h {w1:World}(hb:Below W.heap.size W w1)(hs:OwnS w1 W.heap.size 3 (.slice S sn sc) sn s)(hd:OwnS w1 W.heap.size 2 (.slice D N dc) N ds):
  a5g W (w1.alloc (.cells #[.slice S sn sc,.slice D N dc] 84)) w1.heap.size S D sn sc N dc s ds :=
 ⟨hb.size,heap_alloc_new w1 _,hs.alloc _,hd.alloc _,hb.alloc hb.size _⟩
theorem a5g.store (h:a5g W wr g S (some ⟨gb,0,none⟩) sn sc N dc s ds)(j:Nat){x:Int}(hx:Fits x):
  a5g W (wr.setCell ⟨gb,j,none⟩ (.int .i64 x)) g S (some ⟨gb,0,none⟩) sn sc N dc s (ds.set j x):=by
 obtain⟨hg,hgx,hS,hD,hB⟩:=h;have hO:Own wr W.heap.size 2 gb N dc ds:=hD;obtain⟨cs,hb⟩:=hO.blk;have hgw:=a0t wr gb j (.int .i64 x);exact⟨hg,(hgw.block _ (block_lt_of_cell (a1n hgx)) (fun h'=>a3t hgx hb c0p.2.2.1.symm (by injection h'))).trans hgx,hS.grownNe hgw (hS.apart hb c0p.1),hO.store j hx,hB.setCell (p:=⟨gb,j,none⟩) hO.base_.1 _⟩
theorem a5g.drew (h:a5g W wr g S D sn sc N dc s ds)(q:Nat):a5g W (wr.drewN q) g S D sn sc N dc s ds :=
 ⟨h.1,h.2.1,h.2.2.1,h.2.2.2.1,a1l h.2.2.2.2 q⟩
theorem a5g.below (h:a5g W wr g S D sn sc N dc s ds)(hb:Below wr.heap.size wr w'):a5g W w' g S D sn sc N dc s ds :=
 ⟨h.1,(hb.block _ (block_lt_of_cell (a1n h.2.1))).trans h.2.1,h.2.2.1.below hb,h.2.2.2.1.below hb,h.2.2.2.2.trans (hb.mono h.2.2.2.2.size)⟩
theorem a2b {q:Addr}{u:Value}(h:wr.cell? p=some v)(hne:p.block≠q.block):(wr.setCell q u).drew.cell? p=some v :=
 (World.cell?_setCell_other wr q p u (fun e=>hne (by rw[e]))).trans h
theorem a5g.ne (h:a5g W wr g S (some ⟨gb,0,none⟩) sn sc N dc s ds):g≠gb∧W.heap.size≤gb:=by
 obtain⟨_,hgx,_,hD,_⟩:=h;have hO:Own wr W.heap.size 2 gb N dc ds:=hD;obtain⟨cs,hb⟩:=hO.blk;exact⟨a3t hgx hb c0p.2.2.1.symm,hO.base_.1⟩
theorem b4a (op:Int)(h:Ten w v s d):
  Calls prog 62 #[.int .i64 op,v] w fun e w'=>(∃ u,e=.returned (.tuple #[u,.int .i64 (oneR op s d).1])∧OTen w' w.heap.size u (oneR op s d).2.1 (oneR op s d).2.2)∧Below w.heap.size w w':=by
 obtain⟨A,n,c,B,m,e,rfl,hnc,hme,hI,hJ⟩:=h;have hz:=((Below.refl w.heap.size w).alloc (Nat.le_refl _) (.cells #[.slice A n c,.slice B m e] 84)).alloc (by simp) (.cells #[.slice none 0 0,.slice none 0 0] 84);have ha:=heap_alloc2_old w (.cells #[.slice A n c,.slice B m e] 84) (.cells #[.slice none 0 0,.slice none 0 0] 84);have hr:=heap_alloc2_new w (.cells #[.slice A n c,.slice B m e] 84) (.cells #[.slice none 0 0,.slice none 0 0] 84);have hzs:((w.alloc (.cells #[.slice A n c,.slice B m e] 84)).alloc (.cells #[.slice none 0 0,.slice none 0 0] 84)).heap.size=w.heap.size+1+1:=by simp
 go_enter func62,ntmps62
 go_upto_region 1 with fail
 generalize (w.alloc (.cells #[.slice A n c,.slice B m e] 84)).alloc (.cells #[.slice none 0 0,.slice none 0 0] 84)=W at *;have HT:=Hd (a3d (hI.below hz) hnc (hJ.below hz) hme);have HZ:=Hd hz;have HZS:=Hd hzs;have HA:=Hd ha;have HR:=Hd hr;clear hI hJ hz hzs ha hr;have a0:=a1n HA;have a1:=a1b HA;have d0:=a1n HR;have d1:=a1b HR;have f0:=frozen_of_row _ _ 0 _ _ HR;have f1:=frozen_of_row _ _ 1 _ _ HR;by_cases hop:op≠4∧op≠5
 ·have HX:=Hd (d2e (s:=s) (d:=d) hop);have hg4:(op != 4)=true:=by simp[hop.1]
  have hg5:(op != 5)=true:=by simp[hop.2]
  clear a0 a1 hop;go_wp2;rw[HX.out];refine a5j (w.heap.size+1) _ _ (.int .i64 1) results62 rfl rfl (a2v HR _ _) rfl ?_;exact⟨⟨_,rfl,_,_,0,0,rfl,OwnS.nil_ _ _ _,OwnS.nil_ _ _ _⟩,(HZ.setCell (by show w.heap.size≤w.heap.size+1;omega) _).setCell (by show w.heap.size≤w.heap.size+1;omega) _⟩
 ·have hop' : op=4∨op=5:=by omega
  clear hop;obtain⟨tgt,htg⟩:∃ t,t=d.map fun x=>a3m op x 0:=⟨_,rfl⟩
  have HQ1:=Hd (fun hr:a0a s d=false=>c5b hop' hr);have HQ2:=Hd (fun hr:a0a s d=true=>(d4l hop' hr).trans (show _=((0,s,tgt):Int × List Int × List Int) by rw[htg]));have HAT:=Hd (show ∀ j x,d[j]?=some x→tgt[j]?=some (a3m op x 0) from fun j x hx=>by rw[htg];exact d5m hx);have HTL:=Hd (show tgt.length=d.length by rw[htg];simp);clear htg;have hgs:((op != 4)=false)∨((op != 4)=true∧(op != 5)=false):=by rcases hop' with rfl|rfl <;> simp
  clear hop';rcases hgs with hg4|⟨hg4,hg5⟩
  all_goals (
   have hx:=(Below.refl W.heap.size W).alloc (Nat.le_refl _) (.cells #[.slice A n c,.slice B m e] 84);have C1:=a9n (c:=1) (d2z (heap_alloc_new W (.cells #[.slice A n c,.slice B m e] 84)) (HT.below hx));have HX:=Hd hx;clear hx
   go_wp2_with fail
   cases hr:a0a s d with
   | false =>
    rw[b7a (j:=0) rfl (by rw[hr];rfl)] at C1;refine C1.mono ?_;rintro e2 w2 ⟨rfl,hb2⟩;have HB:=Hd (a1t HX hb2);have HQ:=Hd (HQ1 hr);have hr2:=(HB.block (w.heap.size+1) (by have:=HZS.out;omega)).trans HR;have d0:=a1n hr2;have d1:=a1b hr2;have f0:=frozen_of_row _ _ 0 _ _ hr2;have f1:=frozen_of_row _ _ 1 _ _ hr2;have HR2:=Hd hr2;clear hb2 hr hr2 C1;go_wp2;rw[HQ.out];refine a5j (w.heap.size+1) _ _ (.int .i64 13) results62 rfl rfl (a2v HR2 _ _) rfl ?_
    exact⟨⟨_,rfl,_,_,0,0,rfl,OwnS.nil_ _ _ _,OwnS.nil_ _ _ _⟩,((a1t HZ HB).setCell (by show w.heap.size≤w.heap.size+1;omega) _).setCell (by show w.heap.size≤w.heap.size+1;omega) _⟩
   | true =>
    rw[b8o (fun k y hk hy=>by obtain rfl:k=0:=(by simp at hk;omega);simp at hy;subst hy;rw[hr];simp)] at C1;refine C1.mono ?_;rintro e2 w2 ⟨rfl,hb2⟩;have HB:=Hd (a1t HX hb2);have HRT:=Hd hr;have a0:=a8h HB a0;have a1:=a8h HB a1;have HT2:=Hd (HT.below HB);obtain⟨i1,i2⟩:=a0w HT2;have I1:=Hd i1;have I2:=Hd i2;clear hb2 hr C1 i1 i2
    go_wp2_with fail
    refine(a1i 0 I1 (by have:=(a2l HRT).1;have:=I1.len;omega) ⟨by omega,by omega⟩).mono ?_;rintro e3 w3 ⟨⟨u,rfl,hu⟩,hb3⟩;obtain⟨vs,vd,ns,N,rfl,hvs,hvd⟩:=hu;have hNs:(Sh.size s).toNat=N:=by have:=hvd.len;rwa [List.length_replicate] at this
    have hN:tgt.length=N:=by have:=a1u HRT;have:=HTL.out;omega
    rw[hNs] at hvd;clear hNs;have hNle:N≤9223372036854775807:=hvd.2.2;obtain⟨A1,k1,rfl,_,_,_⟩:=hvs.form;obtain⟨D1,k2,rfl,_,_,_⟩:=hvd.form;have hL:=b1h (a1t HB hb3) (hvs.mono HB.size) (hvd.mono HB.size);have HN:=Hd hN;clear hb3 hvs hvd hN a0 a1
    go_upto_region 7 with fail
    generalize w3.alloc (.cells #[.slice A1 ns k1,.slice D1 N k2] 84)=w4 at *;generalize w3.heap.size=gt at *;have t1:=a1b hL.2.1;have HL:=Hd hL;clear hL
    go_wp2_with fail
    clear t1
    go_loopw [29] (fun kv wr=>∃ j:Nat,kv=.int .i64 j∧j≤N∧a5g W wr gt A1 D1 ns k1 N k2 s (mix tgt (List.replicate N 0) j)) (fun kv _=>N - (intOf kv).toNat)
    case atStart=>exact⟨0,rfl,by omega,by rw[a3q];exact HL⟩
    case round =>
     obtain⟨j,rfl,hj,hL⟩:=hrel;have hLr:=hL;have HLr:=Hd hL;have t0:=a1n hL.2.1;have t1:=a1b hL.2.1;have hb:=hL.2.2.2.2;have hz:=(hb.block (w.heap.size+1) (by have:=HZS.out;omega)).trans HR;have HB4:=Hd hb;have HT4:=Hd (HT.below hb);have a1:=a1b ((hb.block w.heap.size (by have:=HZS.out;omega)).trans HA);have hgt:=hL.1;by_cases hlt:j<N
     ·obtain⟨gb,cb,hv,hO⟩:=hL.2.2.2.1.own (by omega);injection hv with hv1 _ hv3
      subst hv1;subst hv3;obtain⟨_,i2⟩:=a0w HT4;have hjm:j<m:=by have:=i2.len;have:=HN.out;have:=HTL.out;omega
      obtain⟨bd,x,rfl,hbl,hx,hcx,hfx⟩:=i2.at_ (k:=j) hjm;have HS:=Hd ((HLr.drew 1).store j (b6r op hfx (show Fits 0 from⟨by omega,by omega⟩)));have HX:=Hd hx;have HF:=Hd hfx;have hcs:=hO.cell (a6k HN hlt);have hfs:=hO.frozen j;obtain⟨hn1,hn2⟩:=hLr.ne;have hbW:=(a0w HT).2.lt bd rfl (by omega);have k0:=a2b (q:=⟨gb,j,none⟩) (u:=.int .i64 (a3m op x 0)) t1 hn1;have k1:=a2b (q:=⟨gb,j,none⟩) (u:=.int .i64 (a3m op x 0)) a1 (by show w.heap.size≠gb;have:=HZS.out;omega);have k2':=a2b (q:=⟨gb,j,none⟩) (u:=.int .i64 (a3m op x 0)) hcx (by rw[a0d];show bd.block≠gb;omega);clear hL hb hz i2 hO hx hfx t0
      go_wp2_with fail
      go_region_held3 (fun w'=>w'.cell? ⟨gt,1,none⟩=some (.slice (some ⟨gb,0,none⟩) N k2)∧w'.cell? ⟨w.heap.size,1,none⟩=some (.slice (some bd) m e)∧w'.cell? (bd.add j)=some (.int .i64 x)) (go_keep)
       (first|(go_at_call 88;refine(b2b _ _ _ _).mono ?_;rintro e5 w5 ⟨rfl,rfl⟩))
      clear k0 k1 k2' a1 t1 hcx hcs hfs;go_wp2;go_roundw
      case rel=>exact⟨j+1,by go_num,by omega,by rw[←a4j HN.out (HAT.out j x HX.out)];exact HS⟩
      case measure=>simp[intOf];omega
     ·obtain rfl:j=N:=by omega
      rw[a6j HN.out] at HLr;have d0:=a1n hz;have d1:=a1b hz;have f0:=frozen_of_row _ _ 0 _ _ hz;have f1:=frozen_of_row _ _ 1 _ _ hz;have HZr:=Hd hz;have HQ:=Hd (HQ2 HRT);clear hL hb hz a1;go_wp2;rw[HQ.out];refine a5j (w.heap.size+1) _ _ (.int .i64 0) results62 rfl rfl (a2v HZr _ _) rfl ?_;have hgr:=a2s (a0t wr (w.heap.size+1) 0 (.slice A1 ns k1)) (a0t _ (w.heap.size+1) 1 (.slice D1 j k2));exact⟨⟨_,rfl,_,_,ns,j,rfl,(HLr.out.2.2.1.grown hgr (by have:=HZS.out;omega)).mono (by have:=HZS.out;omega),(HLr.out.2.2.2.1.grown hgr (by have:=HZS.out;omega)).mono (by have:=HZS.out;omega)⟩,((a1t HZ HB4).setCell (by show w.heap.size≤w.heap.size+1;omega) _).setCell (by show w.heap.size≤w.heap.size+1;omega) _⟩
   )
end Go.Proofs.YtajhdeddgdhccaaGreatDoor
