import Derived.Test.YtjblengklgkgfaaGreatPaw
import Derived.Test.YtjblengklgkgfaaGreatPbm
set_option maxRecDepth 100000
set_option maxHeartbeats 12800000
namespace Go.Proofs.YtjblengklgkgfaaGreat
open Go.RowKit Go.Proofs.Tryz
variable {At:Option Addr} {c ct k n nt:Nat} {nd:a0s} {v:Value} {w:World}
def tRow (n:Nat):Array Value:=madeCells #[.slice none 0 0,.slice none 0 0] (n*2)
theorem b0n (n:Nat):(tRow n).size=n*2:=size_madeCells _ _
theorem a9j {l:Nat}(hlc:l≤c)(hc:c≤1000)(w:World):
  (Instr.makeSlice 28 (.int .i64 l) (.int .i64 c)).run prog w=.ok (.slice (some ⟨w.heap.size,0,none⟩) l c) (w.alloc (.cells (tRow c) 33)):=by
 obtain⟨i,hi,hz,hs,hb⟩:=a5z;have:=b6o underlying28 hi hz hs (by omega) hlc hc w;rw[this];rfl
theorem c0k (hc:c≤1000)(w:World):
  (Instr.makeSlice 28 (.int .i64 0) (.int .i64 c)).run prog w=.ok (.slice (some ⟨w.heap.size,0,none⟩) 0 c) (w.alloc (.cells (tRow c) 33)):=a9j (l:=0) (Nat.zero_le _) hc w
theorem c4k {us:List Value}{a b:Value}(hk:k+2≤us.length):((us.set k a).set (k+1) b).take (k+2)=us.take k++[a,b]:=by
 apply List.ext_getElem?;intro i;rw[List.getElem?_take];rcases Nat.lt_or_ge i k with h|h
 ·rw[iP (by omega),List.getElem?_set_ne (by omega),List.getElem?_set_ne (by omega),List.getElem?_append_left (by rw[List.length_take];omega),List.getElem?_take,iP h]
 ·rw[List.getElem?_append_right (by rw[List.length_take];omega),List.length_take,Nat.min_eq_left (by omega)];by_cases h1:i=k
  ·subst h1;rw[iP (by omega),List.getElem?_set_ne (by omega),List.getElem?_set_self (by omega),Nat.sub_self];rfl
  ·by_cases h2:i=k+1
   ·subst h2;rw[iP (by omega),List.getElem?_set_self (by rw[List.length_set];omega),show k+1-k=1 by omega];rfl
   ·rw[iN (by omega),List.getElem?_eq_none (by simp;omega)]
theorem Tens.tail {a:Addr}{x:List Int × List Int}{l:TL}(h:Tens w (some a) n (x::l)){A2:Option Addr}(hA:1<n→A2=some (a.add 2)):Tens w A2 (n-1) l:=by
 obtain⟨h1,h2,h3⟩:=h;rw[List.length_cons] at h1;refine⟨by omega,by omega,fun j t ht=>?_⟩;obtain⟨b,S,sn,sc,D,dn,dc,hb,hbl,c0,c1,hT⟩:=h3 (j+1) t (by simpa using ht);injection hb with hb;subst hb
 have hn:1<n:=by have:=(lL ht);omega
 have e:(a.add 2).add (j*2)=a.add ((j+1)*2):=by rw[a9f];congr 1;omega
 exact⟨a.add 2,S,sn,sc,D,dn,dc,hA hn,by rw[a0g];exact hbl,by rw[e];exact c0,by rw[e];exact c1,hT⟩
theorem c3w {t:List Int × List Int}(_:Ten w v t.1 t.2)(h:a0a t.1 t.2=true):t.1.length≤17592186044000∧t.2.length≤17592186044000:=by
 have:=a1f h;omega
theorem sel6 {op:Int}(h:6≤op∧op≤11):(op==6)=true∨((op==6)=false∧(op==7)=true)∨((op==6)=false∧(op==7)=false∧(op==8)=true)∨((op==6)=false∧(op==7)=false∧(op==8)=false∧(op==9)=true)∨((op==6)=false∧(op==7)=false∧(op==8)=false∧(op==9)=false∧(op==10)=true)∨((op==6)=false∧(op==7)=false∧(op==8)=false∧(op==9)=false∧(op==10)=false∧(op==11)=true):=by
 obtain⟨h1,h2⟩:=h;have hop:op=6∨op=7∨op=8∨op=9∨op=10∨op=11:=by omega
 rcases hop with rfl|rfl|rfl|rfl|rfl|rfl <;> decide
theorem b9h {C:Option Addr}{nc cc:Nat}{a:List Int}(h:Ints w C nc a)(hk:nc=2*k)(hc:nc≤cc):
  Calls prog 66 #[.slice C nc cc] w fun e w'=>e=.returned (.tuple #[.slice C k cc,.slice (dropA C cc k) (nc-k) (cc-k)])∧∃ j,w'=w.drewN j:=by
 have hle:=h.le;have hsl1:=a6t (k:=k) h (by omega) hc;have hsl2:=a8y (k:=k) h (by omega) hc;have hq:(nc:Int) / 2=(k:Int):=by omega
 have HK:=Hd hk;clear h hk
 go_enter func66,ntmps66
 go_upto_region 2 with fail
 go_quiet (fail)
 go_wp2;go_ret2;exact⟨by trivial,_,rfl⟩
theorem d8y {A:Option Addr}{s:List Int}{a:Int}(h:Ints w A n s)(hr:Sh.right s=true)(h0:0≤a)(ha:a<s.length):
  Calls prog 60 #[.slice A n c,.int .i64 a] w fun e w'=>(∃ v,e=.returned (.tuple #[v,.int .i64 0])∧OTen w' w.heap.size v s (Sh.iota s a.toNat))∧Below w.heap.size w w':=by
 obtain⟨k,rfl⟩:=eZ h0;have hk:k<s.length:=by omega
 have hle:=h.le;have hln:=h.len;have:=d2g (c:=c) (k:Int) h ⟨by omega,by omega⟩;obtain⟨h1,h2,h3⟩:=d5v hr hk;rw[h1,h2,h3] at this;exact this
theorem b4g {L:TL}(h:a4a w v nd)(hT:Tens w At nt L)(hct:nt≤ct)(hf:a4h nd L.length=true)(h1:nd.op≠1)(hr:∀ t∈L,a0a t.1 t.2=true)(hz:(a0r nd L).1=0):
  Calls prog 37 #[v,.slice At nt ct] w (b1m w (a0r nd L)):=by
 obtain⟨f1,f2,_⟩:=c0v hf;obtain⟨o1,o2⟩:=c8n f1;obtain⟨op,ins,shape,a,nv,how,note⟩:=nd;simp only at f1 f2 o1 o2 h1;have HN:=h;obtain⟨A,na,ca,B,nb,cb,C,nc,cc,rfl,hL⟩:=h;replace HN:=Hd HN;obtain⟨hia,hib,hic,hA,hB,hC,hfo,hfx,hfh,hnote⟩:=hL;simp only at hA hB hC hfo hfx hfh;have g1:=((((Sep.nil w).old hC).old hB).allocBox w.heap.size 38 [.int .i64 op,.slice A na ca,.slice B nb cb,.slice C nc cc,.int .i64 nv,.int .i64 how,.string note] rfl).allocBox (w.heap.size+1) 33 [.slice none 0 0,.slice none 0 0] (by simp);have HBL:=Hd hB.len;have HCL:=Hd hC.len;have hnbl:=hB.le;have hncl:=hC.le;have HFX:=Hd hfx;have HT:=Hd hT;have HC:=Hd hC;have HR:=Hd hr;have HTK:=Hd f2;have HTL:=Hd hT.1;obtain⟨r,hwr⟩:∃ r,a0r (⟨op,ins,shape,a,nv,how,note⟩:a0s) L=r:=⟨_,rfl⟩;rw[hwr] at hz ⊢;have HW:=Hd hwr;have HZ:=Hd hz;clear hA hB hC hT hr hf f1 f2 hfo hfx hfh hnote hwr hz
 go_enter func37,ntmps37
 go_upto_region 1 with fail
 generalize (w.alloc (.cells #[.int .i64 op,.slice A na ca,.slice B nb cb,.slice C nc cc,.int .i64 nv,.int .i64 how,.string note] 38)).alloc (.cells #[.slice none 0 0,.slice none 0 0] 33)=W at *;have H:=Hd g1;clear g1;have hcase:op=2∨op=3∨op=4∨op=5∨(6≤op∧op≤11)∨op=12∨op=13∨op=14∨op=15∨op=16∨op=17∨op=18∨op=19∨op=20:=by omega
 clear o1 o2 h1;rcases hcase with rfl|rfl|rfl|rfl|⟨e1,e2⟩|rfl|rfl|rfl|rfl|rfl|rfl|rfl|rfl|rfl
 ·have hl:(L.length:Int)=0:=HTK.out (by decide);obtain rfl:=List.eq_nil_of_length_eq_zero (show L.length=0 by omega);have hw0:(if Sh.right shape=true then((0:Int),shape,List.replicate (Sh.size shape).toNat nv) else refused 13)=r:=by rw[←HW.out];unfold a0r;rw[iP rfl]
  cases hr:Sh.right shape with
  | false =>
   rw[hr] at hw0;obtain rfl:=hw0
   cases (show(13:Int)=0 from HZ)
  | true =>
   rw[hr] at hw0;obtain rfl:=hw0;clear HZ;obtain⟨n0,n1,n2,n3,n4,n5,n6⟩:=H.cells7 1 rfl
   go_wp2_with fail
   refine(c2i (c:=cb) nv (H.oldInts 2 rfl) HFX hr).mono ?_;rintro e7 w7 ⟨⟨u7,rfl,hu7⟩,hb7⟩;obtain⟨S7,ns7,sc7,D7,nd7,dc7,rfl,H7,r0,r1,fr0,fr1,H8⟩:=H.aB 0 hb7 hu7;clear hu7 hb7 n0 n1 n2 n3 n4 n5 n6;go_wp2;exact sY2 H8 2 0 1 (.int .i64 0) results37
 ·have hl:(L.length:Int)=0:=HTK.out (by decide);obtain rfl:=List.eq_nil_of_length_eq_zero (show L.length=0 by omega);have hw0:(if Sh.right shape=true then(if a.length=1∧0≤a.getD 0 0∧a.getD 0 0<shape.length then((0:Int),shape,Sh.iota shape (a.getD 0 0).toNat) else refused 1) else refused 13)=r:=by have h9:=HW.out;unfold a0r at h9;simp only[] at h9;rw[iN (by decide),iP (by decide)] at h9;exact h9
  cases hr:Sh.right shape with
  | false =>
   rw[hr] at hw0;obtain rfl:=hw0
   cases (show(13:Int)=0 from HZ)
  | true =>
   rw[hr,iP rfl] at hw0;by_cases hc:a.length=1∧0≤a.getD 0 0∧a.getD 0 0<shape.length
   ·rw[iP hc] at hw0;have hnc:=Hd (show nc=1 by have h8:a.length=nc:=HCL.out;omega);have hn3:1≤nc:=by have:=hnc.out;omega
    obtain⟨pa,y0,hpC,hpb,hy0,hcy0,hfy0⟩:=HC.at_ (k:=0) (by omega);subst hpC;rw[show pa.add 0=pa by cases pa;rfl] at hcy0;have HY0:=Hd (show a.getD 0 0=y0 by rw[gD,hy0];rfl);clear hy0 hfy0;rw[HY0.out] at hc hw0;obtain⟨_,hlo,hhi⟩:=hc;obtain rfl:=hw0;clear HZ;have hj0:(0:Int)<nc:=by omega
    have hl0:0<nc:=by omega
    obtain⟨n0,n1,n2,n3,n4,n5,n6⟩:=H.cells7 1 rfl
    go_upto_region 5 with fail
    have q0:=H.c 1 2;have q1:=H.c 1 3;have q2:=H.oldCell hpb hcy0
    go_region_held3 (fun w'=>w'.cell? ⟨w.heap.size,2,none⟩=some (.slice B nb cb)∧w'.cell? ⟨w.heap.size,3,none⟩=some (.slice (some pa) nc cc)∧w'.cell? pa=some (.int .i64 y0)) (go_keep)
     (first|(go_at_call 60;refine(d8y (H.drew.oldInts 2 rfl) hr hlo hhi).mono ?_;rintro e7 w7 ⟨⟨u7,rfl,hu7⟩,hb7⟩;obtain⟨S7,ns7,sc7,D7,nd7,dc7,rfl,H7,r0,r1,fr0,fr1,H8⟩:=H.drew.aB 0 hb7 hu7;have m0:=H7.c 3 2;have m1:=H7.c 3 3;have m2:=H7.oldCell hpb hcy0;have k0:=H8.c 3 2;have k1:=H8.c 3 3;have k2:=H8.oldCell hpb hcy0;clear hu7 hb7))
    go_wp2;exact sY2 H8 2 0 1 (.int .i64 _) results37
   ·rw[iN hc] at hw0;obtain rfl:=hw0
    cases (show(1:Int)=0 from HZ)
 ·have hl:(L.length:Int)=1:=HTK.out (by decide);obtain⟨x,rfl⟩:=len1 (show L.length=1 by omega);obtain rfl:oneR 4 x.1 x.2=r:=by rw[←HW.out];unfold a0r;simp only[];(repeat rw[iN (by decide)]);(try rw[iP (by decide)]);rfl
  clear HZ;obtain⟨at0,S0,sn0,sc0,D0,dn0,dc0,hAt,hbt,c00,c01,ht0⟩:=HT.zero_;subst hAt;have hn0:0<nt:=by have:=HTL.out;simp at this;omega
  obtain⟨n0,n1,n2,n3,n4,n5,n6⟩:=H.cells7 1 rfl
  go_upto_region 8 with fail
  have q0:=H.c 1 0;have q1:=H.oC c00 hbt;have q2:=H.oC c01 hbt
  go_region_held3 (fun w'=>w'.cell? ⟨w.heap.size,0,none⟩=some (.int .i64 4)∧w'.cell? at0=some (.slice S0 sn0 sc0)∧w'.cell? ⟨at0.block,at0.off+1,none⟩=some (.slice D0 dn0 dc0)) (go_keep)
   (first|(go_at_call 61;refine(c9i 4 (ht0.below H.drew.base)).mono ?_;rintro e7 w7 ⟨⟨u7,rfl,hu7⟩,hb7⟩;obtain⟨S7,ns7,sc7,D7,nd7,dc7,rfl,H7,r0,r1,fr0,fr1,H8⟩:=H.drew.aB 0 hb7 hu7;have m0:=H7.c 3 0;have m1:=H7.oC c00 hbt;have m2:=H7.oC c01 hbt;have k0:=H8.c 3 0;have k1:=H8.oC c00 hbt;have k2:=H8.oC c01 hbt;clear hu7 hb7))
  go_wp2;exact sY2 H8 2 0 1 (.int .i64 _) results37
 ·have hl:(L.length:Int)=1:=HTK.out (by decide);obtain⟨x,rfl⟩:=len1 (show L.length=1 by omega);obtain rfl:oneR 5 x.1 x.2=r:=by rw[←HW.out];unfold a0r;simp only[];(repeat rw[iN (by decide)]);(try rw[iP (by decide)]);rfl
  clear HZ;obtain⟨at0,S0,sn0,sc0,D0,dn0,dc0,hAt,hbt,c00,c01,ht0⟩:=HT.zero_;subst hAt;have hn0:0<nt:=by have:=HTL.out;simp at this;omega
  obtain⟨n0,n1,n2,n3,n4,n5,n6⟩:=H.cells7 1 rfl
  go_upto_region 8 with fail
  have q0:=H.c 1 0;have q1:=H.oC c00 hbt;have q2:=H.oC c01 hbt
  go_region_held3 (fun w'=>w'.cell? ⟨w.heap.size,0,none⟩=some (.int .i64 5)∧w'.cell? at0=some (.slice S0 sn0 sc0)∧w'.cell? ⟨at0.block,at0.off+1,none⟩=some (.slice D0 dn0 dc0)) (go_keep)
   (first|(go_at_call 61;refine(c9i 5 (ht0.below H.drew.base)).mono ?_;rintro e7 w7 ⟨⟨u7,rfl,hu7⟩,hb7⟩;obtain⟨S7,ns7,sc7,D7,nd7,dc7,rfl,H7,r0,r1,fr0,fr1,H8⟩:=H.drew.aB 0 hb7 hu7;have m0:=H7.c 3 0;have m1:=H7.oC c00 hbt;have m2:=H7.oC c01 hbt;have k0:=H8.c 3 0;have k1:=H8.oC c00 hbt;have k2:=H8.oC c01 hbt;clear hu7 hb7))
  go_wp2;exact sY2 H8 2 0 1 (.int .i64 _) results37
 ·have hl:(L.length:Int)=2:=(fun (h9:(a0m op).1=2)=>(by rw[←h9];exact HTK (by rw[h9];decide):(L.length:Int)=2)) (by rw[a0m,iN (by omega),iN (by omega),iN (by omega),iN (by omega),iP ⟨e1,e2⟩]);obtain⟨x,y,rfl⟩:=len2 (show L.length=2 by omega);obtain rfl:twoR op x.1 x.2 y.1 y.2=r:=by rw[←HW.out];unfold a0r;simp only[];(repeat rw[iN (by omega)]);rfl
  clear HZ;obtain⟨at0,S0,sn0,sc0,D0,dn0,dc0,hAt,hbt,c00,c01,ht0⟩:=HT.zero_;subst hAt;obtain⟨S1,sn1,sc1,D1,dn1,dc1,c10,c11,ht1⟩:=HT.at1 rfl;obtain⟨hn0,hn1⟩:0<nt∧1<nt:=by have:=HTL.out;simp at this;omega
  have hi1:(1:Int)<nt:=by omega
  rcases sel6 ⟨e1,e2⟩ with f6|⟨f6,f7⟩|⟨f6,f7,f8⟩|⟨f6,f7,f8,f9⟩|⟨f6,f7,f8,f9,f10⟩|⟨f6,f7,f8,f9,f10,f11⟩
  all_goals
   have b2:(op==2)=false:=by simp;omega
   have b3:(op==3)=false:=by simp;omega
   have b4:(op==4)=false:=by simp;omega
   have b5:(op==5)=false:=by simp;omega
   obtain⟨n0,n1,n2,n3,n4,n5,n6⟩:=H.cells7 1 rfl
   go_upto_region 15 with fail
   have q0:=H.c 1 0;have q1:=H.oC c00 hbt;have q2:=H.oC c01 hbt;have q3:=H.oC c10 hbt;have q4:=H.oC c11 hbt
   go_region_held3 (fun w'=>w'.cell? ⟨w.heap.size,0,none⟩=some (.int .i64 op)∧w'.cell? at0=some (.slice S0 sn0 sc0)∧w'.cell? ⟨at0.block,at0.off+1,none⟩=some (.slice D0 dn0 dc0)∧w'.cell? ⟨at0.block,at0.off+2,none⟩=some (.slice S1 sn1 sc1)∧w'.cell? ⟨at0.block,at0.off+2+1,none⟩=some (.slice D1 dn1 dc1)) (go_keep)
    (first|(go_at_call 62;refine(d6g op (ht0.below H.drew.base) (ht1.below H.drew.base)).mono ?_;rintro e7 w7 ⟨⟨u7,rfl,hu7⟩,hb7⟩;obtain⟨S7,ns7,sc7,D7,nd7,dc7,rfl,H7,r0,r1,fr0,fr1,H8⟩:=H.drew.aB 0 hb7 hu7;have m0:=H7.c 3 0;have m1:=H7.oC c00 hbt;have m2:=H7.oC c01 hbt;have m3:=H7.oC c10 hbt;have m4:=H7.oC c11 hbt;have k0:=H8.c 3 0;have k1:=H8.oC c00 hbt;have k2:=H8.oC c01 hbt;have k3:=H8.oC c10 hbt;have k4:=H8.oC c11 hbt;clear hu7 hb7))
   go_wp2;exact sY2 H8 2 0 1 (.int .i64 _) results37
 ·have hl:(L.length:Int)=3:=HTK.out (by decide);obtain⟨x,y,z,rfl⟩:=len3 (show L.length=3 by omega);obtain rfl:a7j x.1 x.2 y.1 y.2 z.1 z.2=r:=by rw[←HW.out];unfold a0r;simp only[];(repeat rw[iN (by decide)]);(try rw[iP (by decide)]);rfl
  clear HZ;obtain⟨at0,S0,sn0,sc0,D0,dn0,dc0,hAt,hbt,c00,c01,ht0⟩:=HT.zero_;subst hAt;obtain⟨S1,sn1,sc1,D1,dn1,dc1,c10,c11,ht1⟩:=HT.at1 rfl;obtain⟨S2,sn2,sc2,D2,dn2,dc2,c20,c21,ht2⟩:=HT.at2 rfl;obtain⟨hn0,hn1,hn2⟩:0<nt∧1<nt∧2<nt:=by have:=HTL.out;simp at this;omega
  have hi1:(1:Int)<nt:=by omega
  have hi2:(2:Int)<nt:=by omega
  obtain⟨n0,n1,n2,n3,n4,n5,n6⟩:=H.cells7 1 rfl
  go_upto_region 17 with fail
  have q0:=H.oC c00 hbt;have q1:=H.oC c01 hbt;have q2:=H.oC c10 hbt;have q3:=H.oC c11 hbt;have q4:=H.oC c20 hbt;have q5:=H.oC c21 hbt
  go_region_held3 (fun w'=>w'.cell? at0=some (.slice S0 sn0 sc0)∧w'.cell? ⟨at0.block,at0.off+1,none⟩=some (.slice D0 dn0 dc0)∧w'.cell? ⟨at0.block,at0.off+2,none⟩=some (.slice S1 sn1 sc1)∧w'.cell? ⟨at0.block,at0.off+2+1,none⟩=some (.slice D1 dn1 dc1)∧w'.cell? ⟨at0.block,at0.off+4,none⟩=some (.slice S2 sn2 sc2)∧w'.cell? ⟨at0.block,at0.off+4+1,none⟩=some (.slice D2 dn2 dc2)) (go_keep)
   (first|(go_at_call 63;refine(d3o (ht0.below H.drew.base) (ht1.below H.drew.base) (ht2.below H.drew.base)).mono ?_;rintro e7 w7 ⟨⟨u7,rfl,hu7⟩,hb7⟩;obtain⟨S7,ns7,sc7,D7,nd7,dc7,rfl,H7,r0,r1,fr0,fr1,H8⟩:=H.drew.aB 0 hb7 hu7;have m0:=H7.oC c00 hbt;have m1:=H7.oC c01 hbt;have m2:=H7.oC c10 hbt;have m3:=H7.oC c11 hbt;have m4:=H7.oC c20 hbt;have m5:=H7.oC c21 hbt;have k0:=H8.oC c00 hbt;have k1:=H8.oC c01 hbt;have k2:=H8.oC c10 hbt;have k3:=H8.oC c11 hbt;have k4:=H8.oC c20 hbt;have k5:=H8.oC c21 hbt;clear hu7 hb7))
  go_wp2;exact sY2 H8 2 0 1 (.int .i64 _) results37
 ·have hl:(L.length:Int)=1:=HTK.out (by decide);obtain⟨x,rfl⟩:=len1 (show L.length=1 by omega);obtain rfl:a6y x.1 x.2 a=r:=by rw[←HW.out];unfold a0r;simp only[];(repeat rw[iN (by decide)]);(try rw[iP (by decide)]);rfl
  clear HZ;obtain⟨at0,S0,sn0,sc0,D0,dn0,dc0,hAt,hbt,c00,c01,ht0⟩:=HT.zero_;subst hAt;have hn0:0<nt:=by have:=HTL.out;simp at this;omega
  obtain⟨n0,n1,n2,n3,n4,n5,n6⟩:=H.cells7 1 rfl
  go_upto_region 19 with fail
  have q0:=H.c 1 3;have q1:=H.oC c00 hbt;have q2:=H.oC c01 hbt
  go_region_held3 (fun w'=>w'.cell? ⟨w.heap.size,3,none⟩=some (.slice C nc cc)∧w'.cell? at0=some (.slice S0 sn0 sc0)∧w'.cell? ⟨at0.block,at0.off+1,none⟩=some (.slice D0 dn0 dc0)) (go_keep)
   (first|(go_at_call 64;refine(d0h (ht0.below H.drew.base) (H.drew.oldInts 3 rfl)).mono ?_;rintro e7 w7 ⟨⟨u7,rfl,hu7⟩,hb7⟩;obtain⟨S7,ns7,sc7,D7,nd7,dc7,rfl,H7,r0,r1,fr0,fr1,H8⟩:=H.drew.aB 0 hb7 hu7;have m0:=H7.c 3 3;have m1:=H7.oC c00 hbt;have m2:=H7.oC c01 hbt;have k0:=H8.c 3 3;have k1:=H8.oC c00 hbt;have k2:=H8.oC c01 hbt;clear hu7 hb7))
  go_wp2;exact sY2 H8 2 0 1 (.int .i64 _) results37
 ·have hl:(L.length:Int)=1:=HTK.out (by decide);obtain⟨x,rfl⟩:=len1 (show L.length=1 by omega);obtain rfl:spR x.1 x.2 shape a=r:=by rw[←HW.out];unfold a0r;simp only[];(repeat rw[iN (by decide)]);(try rw[iP (by decide)]);rfl
  clear HZ;obtain⟨at0,S0,sn0,sc0,D0,dn0,dc0,hAt,hbt,c00,c01,ht0⟩:=HT.zero_;subst hAt;have hn0:0<nt:=by have:=HTL.out;simp at this;omega
  obtain⟨n0,n1,n2,n3,n4,n5,n6⟩:=H.cells7 1 rfl
  go_upto_region 21 with fail
  have q0:=H.c 1 2;have q1:=H.c 1 3;have q2:=H.oC c00 hbt;have q3:=H.oC c01 hbt
  go_region_held3 (fun w'=>w'.cell? ⟨w.heap.size,2,none⟩=some (.slice B nb cb)∧w'.cell? ⟨w.heap.size,3,none⟩=some (.slice C nc cc)∧w'.cell? at0=some (.slice S0 sn0 sc0)∧w'.cell? ⟨at0.block,at0.off+1,none⟩=some (.slice D0 dn0 dc0)) (go_keep)
   (first|(go_at_call 65;refine(c6d (ht0.below H.drew.base) (H.drew.oldInts 2 rfl) (H.drew.oldInts 3 rfl)).mono ?_;rintro e7 w7 ⟨⟨u7,rfl,hu7⟩,hb7⟩;obtain⟨S7,ns7,sc7,D7,nd7,dc7,rfl,H7,r0,r1,fr0,fr1,H8⟩:=H.drew.aB 0 hb7 hu7;have m0:=H7.c 3 2;have m1:=H7.c 3 3;have m2:=H7.oC c00 hbt;have m3:=H7.oC c01 hbt;have k0:=H8.c 3 2;have k1:=H8.c 3 3;have k2:=H8.oC c00 hbt;have k3:=H8.oC c01 hbt;clear hu7 hb7))
  go_wp2;exact sY2 H8 2 0 1 (.int .i64 _) results37
 ·have hl:(L.length:Int)=1:=HTK.out (by decide);obtain⟨x,rfl⟩:=len1 (show L.length=1 by omega);have hw0:(if a.length=2*x.1.length then cutR x.1 x.2 (a.take x.1.length) (a.drop x.1.length) else refused 1)=r:=by rw[←HW.out];unfold a0r;simp only[];(repeat rw[iN (by decide)]);(try rw[iP (by decide)]);rfl
  by_cases hc:a.length=2*x.1.length
  ·obtain⟨at0,S0,sn0,sc0,D0,dn0,dc0,hAt,hbt,c00,c01,ht0⟩:=HT.zero_;subst hAt;have hn0:0<nt:=by have:=HTL.out;simp at this;omega
   obtain⟨hsn,hsc⟩:=c2m ht0;have HSN:=Hd hsn;rw[iP hc] at hw0;obtain rfl:=hw0;clear HZ;have hnc:=Hd (show nc=2*sn0 by have h8:a.length=nc:=HCL.out;have:=HSN.out;omega);have hk:sn0≤nc:=by have:=hnc.out;omega
   obtain⟨A8,hA8⟩:∃ A8,dropA C cc sn0=A8:=⟨_,rfl⟩;have CH:=b9h (C:=C) (cc:=cc) (H.oldInts 3 rfl) hnc hic;have hI8:=HC.dropA hk hic;rw[hA8] at CH hI8;have HI8:Hid (Ints w A8 (nc-sn0) (a.drop x.1.length)):=Hd (by rw[HSN.out];exact hI8);have HI7:Hid (Ints w C sn0 (a.take x.1.length)):=Hd (by rw[HSN.out];exact HC.take hk);clear hI8 hA8 hc hsn;obtain⟨n0,n1,n2,n3,n4,n5,n6⟩:=H.cells7 1 rfl
   go_wp2_with fail
   refine CH.mono ?_;rintro e3 w3 ⟨rfl,k3,hw3⟩;replace H:=Hd (show Sep w w3 _ by rw[hw3];exact H.drewN k3);clear CH hw3 n0 n1 n2 n3 n4 n5 n6;obtain⟨n0,n1,n2,n3,n4,n5,n6⟩:=H.cells7 1 rfl;have q0:=H.oldCell hbt c00;have q1:=H.oC c01 hbt
   go_wp2_with fail
   refine(c8c (ht0.below H.base) (HI7.below H.base) (HI8.below H.base)).mono ?_;rintro e7 w7 ⟨⟨u7,rfl,hu7⟩,hb7⟩;obtain⟨S7,ns7,sc7,D7,nd7,dc7,rfl,H7,r0,r1,fr0,fr1,H8⟩:=H.aB 0 hb7 hu7;clear hu7 hb7 n0 n1 n2 n3 n4 n5 n6 q0 q1;go_wp2;exact sY2 H8 2 0 1 (.int .i64 _) results37
  ·rw[iN hc] at hw0;obtain rfl:=hw0
   cases (show(1:Int)=0 from HZ)
 ·have hl:(L.length:Int)=1:=HTK.out (by decide);obtain⟨x,rfl⟩:=len1 (show L.length=1 by omega);have hw0:(if a.length=2*x.1.length then padR x.1 x.2 (a.take x.1.length) (a.drop x.1.length) nv else refused 1)=r:=by rw[←HW.out];unfold a0r;simp only[];(repeat rw[iN (by decide)]);(try rw[iP (by decide)]);rfl
  by_cases hc:a.length=2*x.1.length
  ·obtain⟨at0,S0,sn0,sc0,D0,dn0,dc0,hAt,hbt,c00,c01,ht0⟩:=HT.zero_;subst hAt;have hn0:0<nt:=by have:=HTL.out;simp at this;omega
   obtain⟨hsn,hsc⟩:=c2m ht0;have HSN:=Hd hsn;rw[iP hc] at hw0;obtain rfl:=hw0;clear HZ;have hnc:=Hd (show nc=2*sn0 by have h8:a.length=nc:=HCL.out;have:=HSN.out;omega);have hk:sn0≤nc:=by have:=hnc.out;omega
   obtain⟨A8,hA8⟩:∃ A8,dropA C cc sn0=A8:=⟨_,rfl⟩;have CH:=b9h (C:=C) (cc:=cc) (H.oldInts 3 rfl) hnc hic;have hI8:=HC.dropA hk hic;rw[hA8] at CH hI8;have HI8:Hid (Ints w A8 (nc-sn0) (a.drop x.1.length)):=Hd (by rw[HSN.out];exact hI8);have HI7:Hid (Ints w C sn0 (a.take x.1.length)):=Hd (by rw[HSN.out];exact HC.take hk);clear hI8 hA8 hc hsn;obtain⟨n0,n1,n2,n3,n4,n5,n6⟩:=H.cells7 1 rfl
   go_wp2_with fail
   refine CH.mono ?_;rintro e3 w3 ⟨rfl,k3,hw3⟩;replace H:=Hd (show Sep w w3 _ by rw[hw3];exact H.drewN k3);clear CH hw3 n0 n1 n2 n3 n4 n5 n6;obtain⟨n0,n1,n2,n3,n4,n5,n6⟩:=H.cells7 1 rfl
   go_upto_region 27 with fail
   have q0:=H.c 1 4;have q1:=H.oC c00 hbt;have q2:=H.oC c01 hbt
   go_region_held3 (fun w'=>w'.cell? ⟨w.heap.size,4,none⟩=some (.int .i64 nv)∧w'.cell? at0=some (.slice S0 sn0 sc0)∧w'.cell? ⟨at0.block,at0.off+1,none⟩=some (.slice D0 dn0 dc0)) (go_keep)
    (first|(go_at_call 68;refine(d3p _ (ht0.below H.drew.base) (HI7.below H.drew.base) (HI8.below H.drew.base) HFX).mono ?_;rintro e7 w7 ⟨⟨u7,rfl,hu7⟩,hb7⟩;obtain⟨S7,ns7,sc7,D7,nd7,dc7,rfl,H7,r0,r1,fr0,fr1,H8⟩:=H.drew.aB 0 hb7 hu7;have m0:=H7.c 3 4;have m1:=H7.oC c00 hbt;have m2:=H7.oC c01 hbt;have k0:=H8.c 3 4;have k1:=H8.oC c00 hbt;have k2:=H8.oC c01 hbt;clear hu7 hb7))
   go_wp2;exact sY2 H8 2 0 1 (.int .i64 _) results37
  ·rw[iN hc] at hw0;obtain rfl:=hw0
   cases (show(1:Int)=0 from HZ)
 ·have hw0:(if a.length=1 then a6r (a.getD 0 0) L else refused 1)=r:=by rw[←HW.out];unfold a0r;simp only[];(repeat rw[iN (by decide)]);(try rw[iP (by decide)]);rfl
  by_cases hc:a.length=1
  ·rw[iP hc] at hw0;have hnc:=Hd (show nc=1 by have h8:a.length=nc:=HCL.out;omega);have hn3:1≤nc:=by have:=hnc.out;omega
   obtain⟨pa,y0,hpC,hpb,hy0,hcy0,hfy0⟩:=HC.at_ (k:=0) (by omega);subst hpC;rw[show pa.add 0=pa by cases pa;rfl] at hcy0;have HY0:=Hd (show a.getD 0 0=y0 by rw[gD,hy0];rfl);clear hy0 hfy0;rw[HY0.out] at hw0;obtain rfl:=hw0;clear HZ hc;have hj0:(0:Int)<nc:=by omega
   have hl0:0<nc:=by omega
   obtain⟨n0,n1,n2,n3,n4,n5,n6⟩:=H.cells7 1 rfl;have q0:=H.oldCell hpb hcy0
   go_wp2_with fail
   refine(d1k y0 (HT.below H.base) hct).mono ?_;rintro e7 w7 ⟨⟨u7,rfl,hu7⟩,hb7⟩;obtain⟨S7,ns7,sc7,D7,nd7,dc7,rfl,H7,r0,r1,fr0,fr1,H8⟩:=H.aB 0 hb7 hu7;clear hu7 hb7 n0 n1 n2 n3 n4 n5 n6;go_wp2;exact sY2 H8 2 0 1 (.int .i64 _) results37
  ·rw[iN hc] at hw0;obtain rfl:=hw0
   cases (show(1:Int)=0 from HZ)
 ·have hl:(L.length:Int)=1:=HTK.out (by decide);obtain⟨x,rfl⟩:=len1 (show L.length=1 by omega);obtain rfl:a5m how x.1 x.2 a=r:=by rw[←HW.out];unfold a0r;simp only[];(repeat rw[iN (by decide)]);(try rw[iP (by decide)]);rfl
  clear HZ;obtain⟨at0,S0,sn0,sc0,D0,dn0,dc0,hAt,hbt,c00,c01,ht0⟩:=HT.zero_;subst hAt;have hn0:0<nt:=by have:=HTL.out;simp at this;omega
  obtain⟨n0,n1,n2,n3,n4,n5,n6⟩:=H.cells7 1 rfl
  go_upto_region 31 with fail
  have q0:=H.c 1 3;have q1:=H.c 1 5;have q2:=H.oC c00 hbt;have q3:=H.oC c01 hbt
  go_region_held3 (fun w'=>w'.cell? ⟨w.heap.size,3,none⟩=some (.slice C nc cc)∧w'.cell? ⟨w.heap.size,5,none⟩=some (.int .i64 how)∧w'.cell? at0=some (.slice S0 sn0 sc0)∧w'.cell? ⟨at0.block,at0.off+1,none⟩=some (.slice D0 dn0 dc0)) (go_keep)
   (first|(go_at_call 70;refine(d7b how (ht0.below H.drew.base) (H.drew.oldInts 3 rfl)).mono ?_;rintro e7 w7 ⟨⟨u7,rfl,hu7⟩,hb7⟩;obtain⟨S7,ns7,sc7,D7,nd7,dc7,rfl,H7,r0,r1,fr0,fr1,H8⟩:=H.drew.aB 0 hb7 hu7;have m0:=H7.c 3 3;have m1:=H7.c 3 5;have m2:=H7.oC c00 hbt;have m3:=H7.oC c01 hbt;have k0:=H8.c 3 3;have k1:=H8.c 3 5;have k2:=H8.oC c00 hbt;have k3:=H8.oC c01 hbt;clear hu7 hb7))
  go_wp2;exact sY2 H8 2 0 1 (.int .i64 _) results37
 ·have hl:(L.length:Int)=2:=HTK.out (by decide);obtain⟨x,y,rfl⟩:=len2 (show L.length=2 by omega);have hw0:(if a.length=1 then dotR x.1 x.2 y.1 y.2 (a.getD 0 0) else refused 1)=r:=by rw[←HW.out];unfold a0r;simp only[];(repeat rw[iN (by decide)]);(try rw[iP (by decide)]);rfl
  by_cases hc:a.length=1
  ·obtain⟨at0,S0,sn0,sc0,D0,dn0,dc0,hAt,hbt,c00,c01,ht0⟩:=HT.zero_;subst hAt;obtain⟨S1,sn1,sc1,D1,dn1,dc1,c10,c11,ht1⟩:=HT.at1 rfl;obtain⟨hn0,hn1⟩:0<nt∧1<nt:=by have:=HTL.out;simp at this;omega
   have hi1:(1:Int)<nt:=by omega
   rw[iP hc] at hw0;have hnc:=Hd (show nc=1 by have h8:a.length=nc:=HCL.out;omega);have hn3:1≤nc:=by have:=hnc.out;omega
   obtain⟨pa,y0,hpC,hpb,hy0,hcy0,hfy0⟩:=HC.at_ (k:=0) (by omega);subst hpC;rw[show pa.add 0=pa by cases pa;rfl] at hcy0;have HY0:=Hd (show a.getD 0 0=y0 by rw[gD,hy0];rfl);clear hy0 hfy0;rw[HY0.out] at hw0;obtain rfl:=hw0;clear HZ hc;have hj0:(0:Int)<nc:=by omega
   have hl0:0<nc:=by omega
   obtain⟨n0,n1,n2,n3,n4,n5,n6⟩:=H.cells7 1 rfl
   go_upto_region 33 with fail
   have q0:=H.c 1 3;have q1:=H.oC c00 hbt;have q2:=H.oC c01 hbt;have q3:=H.oC c10 hbt;have q4:=H.oC c11 hbt;have q5:=H.oC hcy0 hpb
   go_region_held3 (fun w'=>w'.cell? ⟨w.heap.size,3,none⟩=some (.slice (some pa) nc cc)∧w'.cell? at0=some (.slice S0 sn0 sc0)∧w'.cell? ⟨at0.block,at0.off+1,none⟩=some (.slice D0 dn0 dc0)∧w'.cell? ⟨at0.block,at0.off+2,none⟩=some (.slice S1 sn1 sc1)∧w'.cell? ⟨at0.block,at0.off+2+1,none⟩=some (.slice D1 dn1 dc1)∧w'.cell? pa=some (.int .i64 y0)) (go_keep)
    (first|(go_at_call 71;refine(d9f y0 (ht0.below H.drew.base) (ht1.below H.drew.base)).mono ?_;rintro e7 w7 ⟨⟨u7,rfl,hu7⟩,hb7⟩;obtain⟨S7,ns7,sc7,D7,nd7,dc7,rfl,H7,r0,r1,fr0,fr1,H8⟩:=H.drew.aB 0 hb7 hu7;have m0:=H7.c 3 3;have m1:=H7.oC c00 hbt;have m2:=H7.oC c01 hbt;have m3:=H7.oC c10 hbt;have m4:=H7.oC c11 hbt;have m5:=H7.oC hcy0 hpb;have k0:=H8.c 3 3;have k1:=H8.oC c00 hbt;have k2:=H8.oC c01 hbt;have k3:=H8.oC c10 hbt;have k4:=H8.oC c11 hbt;have k5:=H8.oC hcy0 hpb;clear hu7 hb7))
   go_wp2;exact sY2 H8 2 0 1 (.int .i64 _) results37
  ·rw[iN hc] at hw0;obtain rfl:=hw0
   cases (show(1:Int)=0 from HZ)
 ·have hl:(L.length:Int)=1:=HTK.out (by decide);obtain⟨x,rfl⟩:=len1 (show L.length=1 by omega);have hw0:(if a.length=3 then winR how x.1 x.2 (a.getD 0 0) (a.getD 1 0) (a.getD 2 0) else refused 1)=r:=by rw[←HW.out];unfold a0r;simp only[];(repeat rw[iN (by decide)]);(try rw[iP (by decide)]);rfl
  by_cases hc:a.length=3
  ·obtain⟨at0,S0,sn0,sc0,D0,dn0,dc0,hAt,hbt,c00,c01,ht0⟩:=HT.zero_;subst hAt;have hn0:0<nt:=by have:=HTL.out;simp at this;omega
   rw[iP hc] at hw0;have hnc:=Hd (show nc=3 by have h8:a.length=nc:=HCL.out;omega);have hn3:3≤nc:=by have:=hnc.out;omega
   obtain⟨pa,y0,hpC,hpb,hy0,hcy0,hfy0⟩:=HC.at_ (k:=0) (by omega);subst hpC;rw[show pa.add 0=pa by cases pa;rfl] at hcy0;have HY0:=Hd (show a.getD 0 0=y0 by rw[gD,hy0];rfl);obtain⟨pa1,y1,hpC,_,hy1,hcy1,hfy1⟩:=HC.at_ (k:=1) (by omega);injection hpC with hpC
   subst hpC;simp[Addr.add] at hcy1;have HY1:=Hd (show a.getD 1 0=y1 by rw[gD,hy1];rfl);obtain⟨pa2,y2,hpC,_,hy2,hcy2,hfy2⟩:=HC.at_ (k:=2) (by omega);injection hpC with hpC
   subst hpC;simp[Addr.add] at hcy2;have HY2:=Hd (show a.getD 2 0=y2 by rw[gD,hy2];rfl);clear hy0 hfy0 hy1 hfy1 hy2 hfy2;rw[HY0.out,HY1.out,HY2.out] at hw0;obtain rfl:=hw0;clear HZ hc;have hj0:(0:Int)<nc:=by omega
   have hj1:(1:Int)<nc:=by omega
   have hj2:(2:Int)<nc:=by omega
   have hl0:0<nc:=by omega
   have hl1:1<nc:=by omega
   have hl2:2<nc:=by omega
   obtain⟨n0,n1,n2,n3,n4,n5,n6⟩:=H.cells7 1 rfl
   go_upto_region 35 with fail
   have q0:=H.c 1 3;have q1:=H.c 1 5;have q2:=H.oC c00 hbt;have q3:=H.oC c01 hbt;have q4:=H.oC hcy0 hpb;have q5:=H.oC hcy1 hpb;have q6:=H.oC hcy2 hpb
   go_region_held3 (fun w'=>w'.cell? ⟨w.heap.size,3,none⟩=some (.slice (some pa) nc cc)∧w'.cell? ⟨w.heap.size,5,none⟩=some (.int .i64 how)∧w'.cell? at0=some (.slice S0 sn0 sc0)∧w'.cell? ⟨at0.block,at0.off+1,none⟩=some (.slice D0 dn0 dc0)∧w'.cell? pa=some (.int .i64 y0)∧w'.cell? ⟨pa.block,pa.off+1,none⟩=some (.int .i64 y1)∧w'.cell? ⟨pa.block,pa.off+2,none⟩=some (.int .i64 y2)) (go_keep)
    (first|(go_at_call 72;refine(d7e how y0 y1 y2 (ht0.below H.drew.base)).mono ?_;rintro e7 w7 ⟨⟨u7,rfl,hu7⟩,hb7⟩;obtain⟨S7,ns7,sc7,D7,nd7,dc7,rfl,H7,r0,r1,fr0,fr1,H8⟩:=H.drew.aB 0 hb7 hu7;have m0:=H7.c 3 3;have m1:=H7.c 3 5;have m2:=H7.oC c00 hbt;have m3:=H7.oC c01 hbt;have m4:=H7.oC hcy0 hpb;have m5:=H7.oC hcy1 hpb;have m6:=H7.oC hcy2 hpb;have k0:=H8.c 3 3;have k1:=H8.c 3 5;have k2:=H8.oC c00 hbt;have k3:=H8.oC c01 hbt;have k4:=H8.oC hcy0 hpb;have k5:=H8.oC hcy1 hpb;have k6:=H8.oC hcy2 hpb;clear hu7 hb7))
   go_wp2;exact sY2 H8 2 0 1 (.int .i64 _) results37
  ·rw[iN hc] at hw0;obtain rfl:=hw0
   cases (show(1:Int)=0 from HZ)
theorem c7c (h:a4a w v nd)(ho:nd.op=1):
  Calls prog 37 #[v,.slice At nt ct] w (b1m w (refused 22)):=by
 obtain⟨op,ins,shape,a,nv,how,note⟩:=nd;obtain⟨A,na,ca,B,nb,cb,C,nc,cc,rfl,hL⟩:=h;obtain rfl:op=1:=ho;have g1:=((Sep.nil w).allocBox w.heap.size 38 [.int .i64 1,.slice A na ca,.slice B nb cb,.slice C nc cc,.int .i64 nv,.int .i64 how,.string note] rfl).allocBox (w.heap.size+1) 33 [.slice none 0 0,.slice none 0 0] (by simp);clear hL
 go_enter func37,ntmps37
 go_upto_region 1 with fail
 generalize (w.alloc (.cells #[.int .i64 1,.slice A na ca,.slice B nb cb,.slice C nc cc,.int .i64 nv,.int .i64 how,.string note] 38)).alloc (.cells #[.slice none 0 0,.slice none 0 0] 33)=W at *;have H:=Hd g1;clear g1;have n0:=H.c 1 0;obtain⟨r0,r1,fr0,fr1⟩:=H.b2 0;have h5:=(H.setBox 0 0 (.slice none 0 0) rfl).setBox 0 1 (.slice none 0 0) rfl;go_wp2;exact a6n h5 0 rfl (z:=.int .i64 22) results37 rfl rfl rfl ⟨⟨_,rfl,_,_,0,0,rfl,OwnS.nil_ _ _ _,OwnS.nil_ _ _ _⟩,h5.base⟩
end Go.Proofs.YtjblengklgkgfaaGreat
