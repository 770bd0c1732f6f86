import Derived.Test.YtjblengklgkgfaaGreatPac
set_option maxRecDepth 100000
set_option maxHeartbeats 12800000
namespace Go.Proofs.YtjblengklgkgfaaGreat
open Go.RowKit Go.Proofs.Tryz
variable {A:Option Addr} {a op x:Int} {c j n:Nat} {d k o s t:List Int} {v:Value} {w:World}
theorem a1n {a:Addr}(o:Obj)(h:w.cell? a=some v):(w.alloc o).cell? a=some v:=(World.cell?_alloc_lt w o a (World.block_lt_of_cell? w a h)).trans h
theorem Ints.lt {xs:List Int}(h:Ints w A n xs):∀ ad,A=some ad→0<n→ad.block<w.heap.size:=fun ad he hn=>by
 obtain⟨a', e', hb,_⟩:=h.2.2.2 hn;rw[e'] at he;injection he with he
 rw[←he];exact hb
theorem b4u (h:Ten w v s d)(hs:s.length≤17592186044000)(hd:d.length≤17592186044000):
  Calls prog 36 #[v] w fun e w'=>(∃ u ga gb n m,e=.returned u∧u=.agg #[.slice (some ⟨ga,0,none⟩) n n,.slice (some ⟨gb,0,none⟩) m m]∧Own w' w.heap.size 3 ga n n s∧Own w' w.heap.size 2 gb m m d)∧Below w.heap.size w w':=by
 obtain⟨As,n,cs,Bd,m,cd,rfl,hsc,hdc,hS,hD⟩:=h;have hDl:=hD.lt;rw[hS.len] at hs;rw[hD.len] at hd;have hm1:=a0t underlying22 Tryz.infoInt (n:=n) (by omega);have hm2:=a0t underlying31 Tryz.infoI64 (n:=m) (by omega);have hZ:=((Below.refl w.heap.size w).alloc (Nat.le_refl _) (.cells #[.slice As n cs,.slice Bd m cd] 33)).alloc (by simp) (.cells #[.slice none 0 0,.slice none 0 0] 33);have g0:=heap_alloc2_old w (.cells #[.slice As n cs,.slice Bd m cd] 33) (.cells #[.slice none 0 0,.slice none 0 0] 33);have g1:=heap_alloc2_new w (.cells #[.slice As n cs,.slice Bd m cd] 33) (.cells #[.slice none 0 0,.slice none 0 0] 33);have hzs:((w.alloc (.cells #[.slice As n cs,.slice Bd m cd] 33)).alloc (.cells #[.slice none 0 0,.slice none 0 0] 33)).heap.size=w.heap.size+1+1:=by simp
 go_enter func36,ntmps36
 go_upto_region 1 with fail
 generalize (w.alloc (.cells #[.slice As n cs,.slice Bd m cd] 33)).alloc (.cells #[.slice none 0 0,.slice none 0 0] 33)=W at *;have a0:=a0q g0;have a1:=a0j g0;have hS:=hS.below hZ;have hD:=hD.below hZ;have HZS:=Hd hzs;have HDL:=Hd hDl;clear hDl;have HG0:=Hd g0;have HG1:=Hd g1;have HZ:=Hd hZ;clear hZ hzs g0 g1
 go_cut [3] (fun v wx=>∃(g ga gb:Nat),v=.pointer (some ⟨g,0,none⟩)∧W.heap.size≤g∧wx.heap[g]?=some (.cells #[.slice (some ⟨ga,0,none⟩) n n,.slice (some ⟨gb,0,none⟩) m m] 33 (0,0))∧Own wx W.heap.size 3 ga n n (List.replicate n 0)∧Own wx W.heap.size 2 gb m m (List.replicate m 0)∧Below W.heap.size W wx)
 case first =>
  have hl:w.heap.size<W.heap.size:=block_lt_of_cell a0;have q0:=fun o=>a1n o a0
  have q1:=fun o=>a1n o a1
  have q2:=fun o o'=>a1n o' (a1n o a0)
  have q3:=fun o o'=>a1n o' (a1n o a1)
  go_region_held3 (fun w'=>w'.cell? ⟨w.heap.size,0,none⟩=some (.slice As n cs)∧w'.cell? ⟨w.heap.size,1,none⟩=some (.slice Bd m cd)) (go_keep) (fail)
  all_goals go_wp2_with fail
  all_goals go_meet
  all_goals exact⟨_,_,_,rfl,by omega,(by first|exact a6m _ _ _ _|exact a6l _ _ _ _|exact a6p _ _ _ _),a7g (by first|exact a6m _ _ _ _|exact a6l _ _ _ _|exact a6p _ _ _ _) (by omega) (by omega),a7g (by first|exact a6m _ _ _ _|exact a6l _ _ _ _|exact a6p _ _ _ _) (by omega) (by omega),e0c _ _ _ _⟩
 case rest =>
  obtain⟨g,ga,gb,rfl,hgW,hg,hA,hB,hb⟩:=hcut;have t0:=a0q hg;have t1:=a0j hg;have a0:=a1t hb a0;have a1:=a1t hb a1;have hS:=hS.below hb;have hD:=hD.below hb;have hl:w.heap.size<W.heap.size:=by have:=HZS.out;omega
  have hz1:=(hb.block (w.heap.size+1) (by have:=HZS.out;omega)).trans HG1;have hl2:w.heap.size+1<W.heap.size:=by have:=HZS.out;omega
  have hgA:=hA.base_;have hgB:=hB.base_;have hgn:=Ne.symm (b6k hA hg (by decide));have hgm:=Ne.symm (b6k hB hg (by decide));have hab:ga≠gb:=by obtain⟨_,hc⟩:=hB.blk;exact b6k hA hc (by decide)
  have hgl:g<wc.heap.size:=block_lt_of_cell t0;have hbs:=hb.size;have HA:=Hd hA;have HB:=Hd hB;have HBb:=Hd hb;have HGx:=Hd hg;have HZ1:=Hd hz1;have HA0:=Hd a0;clear hg hA hB hb hz1;obtain⟨hgA0,hgA1⟩:=hgA;obtain⟨hgB0,hgB1⟩:=hgB
  go_wp2_with (first|((with_reducible refine a3m rfl (.tmp 14) (.tmp 16) 22 22 rfl 3 underlying22 Tryz.sizeInt HA.out rfl rfl hS ?_);intro w3 hO3 hg3;have hgx:=(hg3.block g hgl (by simpa using hgn)).trans HGx.out;have t0:=a0q hgx;have t1:=a0j hgx;have a1' : w3.cell? ⟨w.heap.size,1,none⟩=some (.slice Bd m cd):=hg3.cell a1 (by simp;omega);have hz2:=(hg3.block (w.heap.size+1) (by omega) (by simp;omega)).trans HZ1.out;have hD3:=hD.grown hg3 (fun ad he hn h'=>by have:=HDL.out ad he hn;injection h' with h';omega);have hB3:=Hd (p:=Own w3 W.heap.size 2 gb m m (List.replicate m 0)) (OwnS.grownNe HB.out hg3 (fun k hk h'=>hab (by simp[Value.ownBlock] at hk;injection h' with h';omega)));have HZ2:=Hd hz2;have HG3:=Hd hg3;have HO3:=Hd hO3;have HGY:=Hd hgx;clear hz2 hgx hg3 hO3)|((with_reducible refine a3m rfl (.tmp 19) (.tmp 21) 31 31 rfl 2 underlying31 Tryz.sizeInt64 hB3.out rfl rfl hD3 ?_);intro w4 hO4 hg4;have hgx:=(hg4.block g (by have:=HG3.out.size;omega) (by simpa using hgm)).trans HGY.out;have t0:=a0q hgx;have t1:=a0j hgx;have hz2:=(hg4.block (w.heap.size+1) (by have:=HG3.out.size;omega) (by simp;omega)).trans HZ2.out;have f0:=frozen_of_row _ _ 0 _ _ hz2;have f1:=frozen_of_row _ _ 1 _ _ hz2;have hd0:=a0q hz2;have hd1:=a0j hz2;have HZ4:=Hd hz2;have HG4:=Hd hg4;have HO4:=Hd hO4;clear hz2 hgx hg4 hO4))
  refine b9r (w.heap.size+1) _ _ results36 rfl (a1g HZ4 _ _) rfl ?_;have hgr:=a1b (a0h w4 (w.heap.size+1) 0 (.slice (some ⟨ga,0,none⟩) n n)) (a0h _ (w.heap.size+1) 1 (.slice (some ⟨gb,0,none⟩) m m));have hb1:=HZ.trans (HBb.mono (by omega));have hb3:=a4x (B:=w.heap.size) hb1 (by omega) HG3 (by omega);have hb4:=a4x (B:=w.heap.size) hb3 (by have:=HG3.size;omega) HG4 (by omega)
  have hA' : OwnS w4 (w.heap.size+1+1) 3 (.slice (some ⟨ga,0,none⟩) n n) n s:=by
   rw[←HZS.out];exact OwnS.grownNe HO3 HG4 (fun k hk h'=>hab (by simp[Value.ownBlock] at hk;injection h' with h';omega))
  have hB' : OwnS w4 (w.heap.size+1+1) 2 (.slice (some ⟨gb,0,none⟩) m m) m d:=by rw[←HZS.out];exact HO4
  exact⟨⟨_,ga,gb,n,m,rfl,rfl,(hA'.grown hgr (by omega)).mono (by omega),(hB'.grown hgr (by omega)).mono (by omega)⟩,(hb4.setCell (by show w.heap.size≤w.heap.size+1;omega) _).setCell (by show w.heap.size≤w.heap.size+1;omega) _⟩
theorem c4w (h:Ten w v s d)(hs:s.length≤17592186044000)(hd:d.length≤17592186044000):
  Calls prog 36 #[v] w fun e w'=>(∃ u,e=.returned u∧OTen w' w.heap.size u s d)∧Below w.heap.size w w' :=
 (b4u h hs hd).mono fun _ _ ⟨⟨u,_,_,n,m,he,hu,hA,hB⟩,hb⟩=>⟨⟨u,he,_,_,n,m,hu,hA,hB⟩,hb⟩
def b7w (s:List Int):Int:=if Sh.right s then 0 else 13
def d5t (s:List Int):List Int:=if Sh.right s then s else []
def d5g (s:List Int) (x:Int):List Int:=if Sh.right s then List.replicate (Sh.size s).toNat x else []
theorem b0s (h:Sh.right s=true):b7w s=0:=by simp[b7w,h]
theorem a9m (h:Sh.right s=false):b7w s=13:=by simp[b7w,h]
theorem b5s (h:Sh.right s=true):d5t s=s:=by simp[d5t,h]
theorem b2o (h:Sh.right s=false):d5t s=[]:=by simp[d5t,h]
theorem b5q (h:Sh.right s=true):d5g s x=List.replicate (Sh.size s).toNat x:=by simp[d5g,h]
theorem b3r (h:Sh.right s=false):d5g s x=[]:=by simp[d5g,h]
theorem b4l (x:Int)(h:Ints w A n s)(hx:Fits x):
  Calls prog 59 #[.slice A n c,.int .i64 x] w fun e w'=>(∃ v,e=.returned (.tuple #[v,.int .i64 (b7w s)])∧OTen w' w.heap.size v (d5t s) (d5g s x))∧Below w.heap.size w w':=by
 have hZ:=(Below.refl w.heap.size w).alloc (Nat.le_refl _) (.cells #[.slice none 0 0,.slice none 0 0] 33);have hzb:=heap_alloc_new w (.cells #[.slice none 0 0,.slice none 0 0] 33);have hzs:(w.alloc (.cells #[.slice none 0 0,.slice none 0 0] 33)).heap.size=w.heap.size+1:=by simp
 go_enter func59,ntmps59
 go_upto_region 1 with fail
 generalize w.alloc (.cells #[.slice none 0 0,.slice none 0 0] 33)=wz at *;have hI:=h.below hZ
 cases hr:Sh.right s with
 | false =>
  have HR:=Hd hr;have d0:=a0q hzb;have d1:=a0j hzb;have f0:=frozen_of_row _ _ 0 _ _ hzb;have f1:=frozen_of_row _ _ 1 _ _ hzb;have HZB:=Hd hzb;have HB:=Hd hZ;clear hr hzb hzs hZ
  go_wp2_with fail
  refine(a1w hI).mono ?_;rw[HR.out];rintro e w' ⟨rfl,rfl⟩;go_wp2;refine a2m w.heap.size _ _ _ results59 rfl rfl (a1g HZB _ _) rfl ?_;rw[a9m HR.out,b2o HR.out,b3r HR.out]
  exact⟨⟨_,rfl,_,_,0,0,rfl,OwnS.nil_ _ _ _,OwnS.nil_ _ _ _⟩,(HB.setCell (Nat.le_refl _) _).setCell (Nat.le_refl _) _⟩
 | true =>
  have HR:=Hd hr;have hn4:n≤4:=by have:=(Sh.right_iff.1 hr).1;have:=h.len;omega
  have HZS:=Hd hzs;have HZB:=Hd hzb;have HB:=Hd hZ;clear hr hzb hzs hZ
  go_wp2_with fail
  refine(a1w hI).mono ?_;rw[HR.out];rintro e w' ⟨rfl,rfl⟩
  go_wp2_with fail
  refine(c1f hI (by omega)).mono ?_;rintro e w1 ⟨⟨v,rfl,vs,vd,ns,N,rfl,hOs,hOd⟩,hb1⟩;have hNN:=hOd.len;rw[List.length_replicate] at hNN;subst hNN;obtain⟨hsz0,hsz1⟩:=Sh.size_bd s;generalize hNs:(Sh.size s).toNat=N at *;have HNS:=Hd hNs;have hN4:N≤4096:=by omega
  clear hNs hsz0 hsz1;obtain⟨A1,k1,rfl,hk1,_,_⟩:=hOs.form;obtain⟨B,k2,rfl,hk2,_,_⟩:=hOd.form;have hB1:=HB.trans (hb1.mono (by have:=HZS.out;omega));have hz1:=(hb1.block w.heap.size (by have:=HZS.out;omega)).trans HZB;have hs1:w.heap.size<w1.heap.size:=by have:=hb1.size;have:=HZS.out;omega
  rw[HZS.out] at hOs hOd;have hgx:=heap_alloc_new w1 (.cells #[.slice A1 ns k1,.slice B N k2] 33);have hb2:=(Below.refl w1.heap.size w1).alloc (Nat.le_refl _) (.cells #[.slice A1 ns k1,.slice B N k2] 33);have hz2:=(hb2.block _ hs1).trans hz1;have hOs2:=hOs.below hb2;have hOd2:=hOd.below hb2;have hB2:=hB1.trans (hb2.mono (by omega));have HU:=Hd (Upto.start (ys:=List.replicate N 0) (zs:=List.replicate N x) (by simp));clear hz1 hB1 hb1 hb2 hOs hOd
  go_upto_region 4 with fail
  generalize w1.alloc (.cells #[.slice A1 ns k1,.slice B N k2] 33)=w2 at *;have c1:=a0j hgx;have HX:=Hd hgx;have HZ:=Hd hz2;have HS:=Hd hOs2;have HD:=Hd hOd2;have HB2:=Hd hB2;clear hgx hz2 hOs2 hOd2 hB2
  go_wp2_with fail
  go_loopw [17] (fun kv wr=>∃(j:Nat) (d:List Int),kv=.int .i64 j∧j≤N∧wr.heap[w1.heap.size]?=some (.cells #[.slice A1 ns k1,.slice B N k2] 33 (0,0))∧wr.heap[w.heap.size]?=some (.cells #[.slice none 0 0,.slice none 0 0] 33 (0,0))∧OwnS wr (w.heap.size+1) 3 (.slice A1 ns k1) ns s∧OwnS wr (w.heap.size+1) 2 (.slice B N k2) N d∧Upto j d (List.replicate N x)∧Below w.heap.size w wr) (fun kv _=>N - (intOf kv).toNat)
  case atStart=>exact⟨0,_,rfl,by omega,HX,HZ,HS,HD,HU,HB2⟩
  case round =>
   clear HX HZ HS HD HU HB2 c1;obtain⟨j,d,rfl,hj,hgx,hz2,hOs,hOd,hU,hB⟩:=hrel;have hcx:=a0j hgx;have hcy:=a0q hgx;have hxl:w1.heap.size<wr.heap.size:=block_lt_of_cell hcx;by_cases hlt:j<N
   ·obtain⟨gb,cb,hv,hO⟩:=hOd.own (by omega);injection hv with hv1 _ hv3
    subst hv1;subst hv3;obtain⟨hgb,hgb1⟩:=hO.base_;have hdl:=hO.len;obtain⟨dj,hdj⟩:∃ x,d[j]?=some x:=gE (by omega:j<d.length);have hcs:=hO.cell hdj;have hfs:=hO.frozen j;obtain⟨csb,hbk⟩:=hO.blk;have hgr:=a0h wr gb j (.int .i64 x);have hne:=b6k hO hgx (by decide);have hx4:=Hd ((hgr.block _ hxl (by simp;omega)).trans hgx);have hz4:=Hd ((hgr.block w.heap.size (by omega) (by simp;omega)).trans hz2);have hS4:=Hd (OwnS.grownNe hOs hgr (OwnS.apart hOs hbk b2d.1));have hO4:=Hd (hO.store j hx);have hB4:=Hd (hB.setCell (p:=⟨gb,j,none⟩) (by show w.heap.size≤gb;omega) (.int .i64 x));have hU4:=Hd (hU.set_ (u:=x) (by rw[List.getElem?_replicate,iP hlt]));clear hgx hz2 hOs hOd hU hB hdl hdj hbk hgr hO;go_wp2;go_roundw
    case rel=>exact⟨j+1,_,by go_num,by omega,hx4,hz4,hS4,hO4,hU4,hB4⟩
    case measure=>simp[intOf];omega
   ·have hd0:=a0q hz2;have hd1:=a0j hz2;have hf2:=frozen_of_row _ _ 0 _ _ hz2;have hf3:=frozen_of_row _ _ 1 _ _ hz2;have HZ2:=Hd hz2;have HB:=Hd hB;obtain rfl:d=List.replicate N x:=hU.all (by simp;omega);have HOs:=Hd hOs;have HOd:=Hd hOd;clear hz2 hgx hB hU hOs hOd;go_wp2;refine a2m w.heap.size _ _ _ results59 rfl rfl (a1g HZ2 _ _) rfl ?_;have hb:=(HB.setCell (p:=⟨w.heap.size,0,none⟩) (Nat.le_refl _) (.slice A1 ns k1)).setCell (p:=⟨w.heap.size,1,none⟩) (Nat.le_refl _) (.slice B N k2);have hgr:=a1b (a0h wr w.heap.size 0 (.slice A1 ns k1)) (a0h _ w.heap.size 1 (.slice B N k2));rw[b0s HR.out,b5s HR.out,b5q HR.out,HNS.out];exact⟨⟨_,rfl,_,_,ns,N,rfl,(HOs.grown hgr (by omega)).mono (by omega),(HOd.grown hgr (by omega)).mono (by omega)⟩,hb⟩
theorem Sh.pd_pos:∀ {s:List Int},(∀ x∈s,1≤x)→1≤Sh.pd s
 | [],_=>by simp[Sh.pd]
 | x::s,h=>by
  have h1:=Sh.pd_pos (s:=s) fun y hy=>h y (List.mem_cons_of_mem _ hy)
  have h2:=h x (List.mem_cons_self ..);have:=Int.mul_le_mul h2 h1 (by omega) (by omega);simpa [Sh.pd] using this
theorem a0u {B:Option Addr}{m e:Nat}(h:Ten w (.agg #[.slice A n c,.slice B m e]) s d):Ints w A n s∧Ints w B m d:=by
 obtain⟨A', n', c', B', m', e', h1,_,_,h2,h3⟩:=h;simp only[Value.agg.injEq,Array.mk.injEq,List.cons.injEq,Value.slice.injEq,and_true] at h1;obtain⟨⟨rfl,rfl,rfl⟩,rfl,rfl,rfl⟩:=h1;exact⟨h2,h3⟩
def c8j (s:List Int) (a:Int):List Int:=if a7u s a=0 then s else []
def c6u (s:List Int) (a:Int):List Int:=if a7u s a=0 then Sh.iota s a.toNat else []
theorem d0s (h:Sh.right s=false):a7u s a=13∧c8j s a=[]∧c6u s a=[]:=by simp[a7u,c8j,c6u,h]
theorem d7q (h:Sh.right s=true)(ha:¬(0≤a∧a<s.length)):a7u s a=1∧c8j s a=[]∧c6u s a=[]:=by
 have:a7u s a=1:=by rw[a7u,iP h,iN ha]
 simp[c8j,c6u,this]
theorem d5v {a:Nat}(h:Sh.right s=true)(ha:a<s.length):a7u s a=0∧c8j s a=s∧c6u s a=Sh.iota s a:=by
 have:a7u s a=0:=by rw[a7u,iP h,iP ⟨by omega,by omega⟩]
 simp[c8j,c6u,this]
theorem d2g (a:Int)(h:Ints w A n s)(hf:Fits a):
  Calls prog 60 #[.slice A n c,.int .i64 a] w fun e w'=>(∃ v,e=.returned (.tuple #[v,.int .i64 (a7u s a)])∧OTen w' w.heap.size v (c8j s a) (c6u s a))∧Below w.heap.size w w':=by
 obtain⟨hf1,hf2⟩:=hf;have hle:=h.le;have hZ:=(Below.refl w.heap.size w).alloc (Nat.le_refl _) (.cells #[.slice none 0 0,.slice none 0 0] 33);have hzb:=heap_alloc_new w (.cells #[.slice none 0 0,.slice none 0 0] 33);have hzs:(w.alloc (.cells #[.slice none 0 0,.slice none 0 0] 33)).heap.size=w.heap.size+1:=by simp
 go_enter func60,ntmps60
 go_upto_region 1 with fail
 generalize w.alloc (.cells #[.slice none 0 0,.slice none 0 0] 33)=wz at *;have hI:=h.below hZ
 cases hr:Sh.right s with
 | false =>
  have HR:=Hd hr;have HE:=Hd (d0s (a:=a) hr);have d0:=a0q hzb;have d1:=a0j hzb;have f0:=frozen_of_row _ _ 0 _ _ hzb;have f1:=frozen_of_row _ _ 1 _ _ hzb;have HZB:=Hd hzb;have HB:=Hd hZ;clear hr hzb hzs hZ
  go_wp2_with fail
  refine(a1w hI).mono ?_;rw[HR.out];rintro e w' ⟨rfl,rfl⟩;go_wp2;refine a2m w.heap.size _ _ _ results60 rfl rfl (a1g HZB _ _) rfl ?_;rw[HE.out.1,HE.out.2.1,HE.out.2.2]
  exact⟨⟨_,rfl,_,_,0,0,rfl,OwnS.nil_ _ _ _,OwnS.nil_ _ _ _⟩,(HB.setCell (Nat.le_refl _) _).setCell (Nat.le_refl _) _⟩
 | true =>
  by_cases hin:0≤a∧a<s.length
  ·obtain⟨hin0,hin1⟩:=hin;obtain⟨k,rfl⟩:=eZ hin0;rw[h.len] at hin1;have hkn:k<n:=by omega
   have HE:=Hd (d5v (a:=k) hr (by rw[h.len];exact hkn));have hn4:n≤4:=by have:=(Sh.right_iff.1 hr).1;have:=h.len;omega
   have HR:=Hd hr;have HZS:=Hd hzs;have HZB:=Hd hzb;have HB:=Hd hZ;have hk0:decide ((k:Int)<0)=false:=by simp
   have hk1:decide ((n:Int)≤(k:Int))=false:=by simp;omega
   have hk2:decide (n≤k)=false:=by simp;omega
   clear hr hzb hzs hZ hin0 hin1
   go_wp2_with fail
   refine(a1w hI).mono ?_;rw[HR.out];rintro e w' ⟨rfl,rfl⟩
   go_wp2_with fail
   refine(c1f hI (by omega)).mono ?_;rintro e w1 ⟨⟨v,rfl,vs,vd,ns,N,rfl,hOs,hOd⟩,hb1⟩;have hNN:=hOd.len;rw[List.length_replicate] at hNN;subst hNN;obtain⟨hsz0,hsz1⟩:=Sh.size_bd s;have hcast:((Sh.size s).toNat:Int)=Sh.size s:=by omega
   generalize hNs:(Sh.size s).toNat=N at *;have HNS:=Hd hNs;have HC:=Hd hcast;have hN4:N≤4096:=by omega
   clear hNs hcast hsz0 hsz1;obtain⟨A1,k1,rfl,hk1', _,_⟩:=hOs.form;obtain⟨B,k2,rfl,hk2', _,_⟩:=hOd.form;have hB1:=HB.trans (hb1.mono (by have:=HZS.out;omega));have hz1:=(hb1.block w.heap.size (by have:=HZS.out;omega)).trans HZB;have hs1:w.heap.size<w1.heap.size:=by have:=hb1.size;have:=HZS.out;omega
   rw[HZS.out] at hOs hOd;have hgx:=heap_alloc_new w1 (.cells #[.slice A1 ns k1,.slice B N k2] 33);have hb2:=(Below.refl w1.heap.size w1).alloc (Nat.le_refl _) (.cells #[.slice A1 ns k1,.slice B N k2] 33);have hz2:=(hb2.block _ hs1).trans hz1;have hOs2:=hOs.below hb2;have hOd2:=hOd.below hb2;have hI2:=(hI.below hb1).below hb2;have hB2:=hB1.trans (hb2.mono (by omega));have HU:=Hd (Upto.start (ys:=List.replicate N 0) (zs:=Sh.iota s k) (by rw[List.length_replicate,Sh.iota_length,HNS.out]));clear hz1 hB1 hb1 hb2 hOs hOd hI
   go_upto_region 6 with fail
   generalize w1.alloc (.cells #[.slice A1 ns k1,.slice B N k2] 33)=w2 at *;have HX:=Hd hgx;have HZ:=Hd hz2;have HS:=Hd hOs2;have HD:=Hd hOd2;have HB2:=Hd hB2;have hw2:w1.heap.size<w2.heap.size:=block_lt_of_cell (a0q hgx);clear hgx hz2 hOs2 hOd2 hB2;obtain⟨ad,x,rfl,hbx,hx,hcx,hfx⟩:=hI2.at_ hkn;have HXX:=Hd hx;clear hx
   go_cut [7,8] (fun u v wx=>u=.int .i64 (Sh.pd (s.drop (k+1)))∧v=.int .i64 x∧Below w2.heap.size w2 wx)
   case first =>
    go_region_with (go_at_call 106;refine(b7m (c:=c) (hI2.drew)).mono ?_;rw[iP HR.out];rintro e w3 ⟨⟨P,m,q,rfl,hq,hJ⟩,hb3⟩;(obtain rfl:m=n:=by rw[←hJ.len,Sh.strides_length,h.len]);obtain⟨pa,xx,rfl,_,hxx,hcp,hff⟩:=hJ.at_ (k:=k) hkn;have hcx3:=(hb3.cell (p:=ad.add k) (by rw[a0g];exact hbx)).trans hcx;have HXS:=Hd hxx;clear hxx)
    all_goals go_wp2_with fail
    all_goals go_meet
    all_goals
     obtain rfl:xx=Sh.pd (s.drop (k+1)):=by
      have h1:=Sh.strides_at HXX;have h2:=HXS.out;rw[h1] at h2;injection h2 with h2
      exact h2.symm
     exact⟨rfl,rfl,by first|exact hb3|exact(Below.refl _ _).drew.trans hb3⟩
   case rest =>
    obtain⟨rfl,rfl,hb3⟩:=hcut;have hgx:=(hb3.block _ hw2).trans HX;have hz2:=(hb3.block w.heap.size (by omega)).trans HZ;have hOs2:=HS.below hb3;have hOd2:=HD.below hb3;have hB2:=a1m HB2 hb3;have c1:=a0j hgx;have HX:=Hd hgx;have HZ:=Hd hz2;have HS:=Hd hOs2;have HD:=Hd hOd2;have HB2:=Hd hB2;have hpd:=Sh.pd_small (Sh.right_iff.1 HR).2.1 (by rw[h.len];exact hn4) (k+1);obtain⟨hpd1,hpd2⟩:=hpd;have hx32:=(Sh.right_iff.1 HR).2.1 x (mG HXX);obtain⟨hx1,hx2⟩:=hx32;clear hgx hz2 hOs2 hOd2 hB2 hb3
    go_wp2_with fail
    go_loopw [37] (fun kv wr=>∃(j:Nat) (d:List Int),kv=.int .i64 j∧j≤N∧wr.heap[w1.heap.size]?=some (.cells #[.slice A1 ns k1,.slice B N k2] 33 (0,0))∧wr.heap[w.heap.size]?=some (.cells #[.slice none 0 0,.slice none 0 0] 33 (0,0))∧OwnS wr (w.heap.size+1) 3 (.slice A1 ns k1) ns s∧OwnS wr (w.heap.size+1) 2 (.slice B N k2) N d∧Upto j d (Sh.iota s k)∧Below w.heap.size w wr) (fun kv _=>N - (intOf kv).toNat)
    case atStart=>exact⟨0,_,rfl,by omega,HX,HZ,HS,HD,HU,HB2⟩
    case round =>
     clear HX HZ HS HD HU HB2 c1;obtain⟨j,d,rfl,hj,hgx,hz2,hOs,hOd,hU,hB⟩:=hrel;have hcx:=a0j hgx;have hcy:=a0q hgx;have hxl:w1.heap.size<wr.heap.size:=block_lt_of_cell hcx;by_cases hlt:j<N
     ·obtain⟨gb,cb,hv,hO⟩:=hOd.own (by omega);injection hv with hv1 _ hv3
      subst hv1;subst hv3;obtain⟨hgb,hgb1⟩:=hO.base_;have hdl:=hO.len;have hji:(j:Int)<Sh.size s:=by rw[←HC.out];omega
      have hall:=(Sh.size_pos (s:=s) (i:=j) (by omega) hji).2;have hx3:1≤x:=(hall x (mG HXX)).1;have hpd3:1≤Sh.pd (s.drop (k+1)):=Sh.pd_pos fun y hy=>(hall y (List.mem_of_mem_drop hy)).1
      have hia:=Sh.iota_at (a:=k) hji;have hgd:(Sh.place s j).getD k 0=j / Sh.pd (s.drop (k+1)) % x:=by rw[gD,Sh.place_at HXX.out];rfl
      rw[hgd] at hia;generalize Sh.pd (s.drop (k+1))=st at *;have hq1:0≤(j:Int) / st:=Int.ediv_nonneg (by omega) (by omega);have hq2:(j:Int) / st≤j:=Int.ediv_le_self _ (by omega);have hr1:0≤(j:Int) / st % x:=Int.emod_nonneg _ (by omega);have hr2:(j:Int) / st % x<x:=Int.emod_lt_of_pos _ (by omega);obtain⟨dj,hdj⟩:∃ x,d[j]?=some x:=gE (by omega:j<d.length);have hcs:=hO.cell hdj;have hfs:=hO.frozen j;obtain⟨csb,hbk⟩:=hO.blk;have hgr:=a0h wr gb j (.int .i64 (j / st % x));have hne:=b6k hO hgx (by decide);have hx4:=Hd ((hgr.block _ hxl (by simp;omega)).trans hgx);have hz4:=Hd ((hgr.block w.heap.size (by omega) (by simp;omega)).trans hz2);have hS4:=Hd (OwnS.grownNe hOs hgr (OwnS.apart hOs hbk b2d.1));have hO4:=Hd (hO.store j (u:=j / st % x) ⟨by omega,by omega⟩);have hB4:=Hd (hB.setCell (p:=⟨gb,j,none⟩) (by show w.heap.size≤gb;omega) (.int .i64 (j / st % x)));have hU4:=Hd (hU.set_ hia);clear hgx hz2 hOs hOd hU hB hdl hdj hbk hgr hO hia hall hji hgd;go_wp2
      go_region
      all_goals go_wp2
      all_goals go_roundw
      case rel=>exact⟨j+1,_,by go_num,by omega,hx4,hz4,hS4,hO4,hU4,hB4.drew⟩
      case measure=>simp[intOf];omega
     ·have hd0:=a0q hz2;have hd1:=a0j hz2;have hf2:=frozen_of_row _ _ 0 _ _ hz2;have hf3:=frozen_of_row _ _ 1 _ _ hz2;have HZ2:=Hd hz2;have HB:=Hd hB;obtain rfl:d=Sh.iota s k:=hU.all (by rw[Sh.iota_length,HNS.out];omega);have HOs:=Hd hOs;have HOd:=Hd hOd;clear hz2 hgx hB hU hOs hOd;go_wp2;refine a2m w.heap.size _ _ _ results60 rfl rfl (a1g HZ2 _ _) rfl ?_;have hb:=(HB.setCell (p:=⟨w.heap.size,0,none⟩) (Nat.le_refl _) (.slice A1 ns k1)).setCell (p:=⟨w.heap.size,1,none⟩) (Nat.le_refl _) (.slice B N k2);have hgr:=a1b (a0h wr w.heap.size 0 (.slice A1 ns k1)) (a0h _ w.heap.size 1 (.slice B N k2));rw[HE.out.1,HE.out.2.1,HE.out.2.2];exact⟨⟨_,rfl,_,_,ns,N,rfl,(HOs.grown hgr (by omega)).mono (by omega),(HOd.grown hgr (by omega)).mono (by omega)⟩,hb⟩
  ·have HE:=Hd (d7q hr hin);have HR:=Hd hr;have d0:=a0q hzb;have d1:=a0j hzb;have f0:=frozen_of_row _ _ 0 _ _ hzb;have f1:=frozen_of_row _ _ 1 _ _ hzb;have HZB:=Hd hzb;have HB:=Hd hZ;rw[h.len] at hin;clear hr hzb hzs hZ;by_cases ha0:a<0
   ·clear hin
    go_wp2_with fail
    refine(a1w hI).mono ?_;rw[HR.out];rintro e w' ⟨rfl,rfl⟩;go_wp2;refine a2m w.heap.size _ _ _ results60 rfl rfl (a1g HZB _ _) rfl ?_;rw[HE.out.1,HE.out.2.1,HE.out.2.2];exact⟨⟨_,rfl,_,_,0,0,rfl,OwnS.nil_ _ _ _,OwnS.nil_ _ _ _⟩,(HB.setCell (Nat.le_refl _) _).setCell (Nat.le_refl _) _⟩
   ·have ha1:(n:Int)≤a:=by omega
    clear hin
    go_wp2_with fail
    refine(a1w hI).mono ?_;rw[HR.out];rintro e w' ⟨rfl,rfl⟩;go_wp2;refine a2m w.heap.size _ _ _ results60 rfl rfl (a1g HZB _ _) rfl ?_;rw[HE.out.1,HE.out.2.1,HE.out.2.2];exact⟨⟨_,rfl,_,_,0,0,rfl,OwnS.nil_ _ _ _,OwnS.nil_ _ _ _⟩,(HB.setCell (Nat.le_refl _) _).setCell (Nat.le_refl _) _⟩
theorem a5n (z:Int):Fits (wrap64 z):=by unfold wrap64 Fits;omega
def a2b (op a b:Int):Int :=
 if op=4 then wrap64 (-a) else if op=5 then(if a=0 then 1 else 0) else if op=6 then wrap64 (a+b) else if op=7 then wrap64 (a-b)
 else if op=8 then wrap64 (a*b) else if op=9 then(if b<a then b else a) else if op=10 then(if b > a then b else a) else if op=11 then(if a<b then 1 else 0) else 0
theorem b1w (op:Int){b:Int}(ha:Fits a)(hb:Fits b):Fits (a2b op a b):=by
 have h0:Fits 0:=⟨by omega,by omega⟩;have h1:Fits 1:=⟨by omega,by omega⟩;unfold a2b
 repeat' split
 all_goals first|exact a5n _|assumption
def refused (e:Int):Int × List Int × List Int:=(e,[],[])
def oneR (op:Int) (s d:List Int):Int × List Int × List Int :=
 if op≠4∧op≠5 then refused 1 else if a0a s d then(0,s,d.map fun x=>a2b op x 0) else refused 13
def twoR (op:Int) (s d t k:List Int):Int × List Int × List Int :=
 if op<6∨11<op then refused 1 else if a0a s d&&(a0a t k&&t==s) then(0,s,List.zipWith (a2b op) d k) else refused 13
def b7q:List Int→List Int→List Int→List Int
 | z::c,x::a,y::b=>(if z=0 then y else x)::b7q c a b
 | _,_,_=>[]
def a7j (cs cd s d t k:List Int):Int × List Int × List Int :=
 if a0a cs cd&&(a0a s d&&s==cs&&(a0a t k&&t==cs)) then(0,s,b7q cd d k) else refused 13
def mix (t o:List Int) (j:Nat):List Int:=t.take j++o.drop j
theorem a2p (t o:List Int):mix t o 0=o:=by simp[mix]
theorem b1t (h:t.length=o.length):mix t o o.length=t:=by simp[mix,←h]
theorem b1p (h:t.length=o.length)(j:Nat):(mix t o j).length=o.length:=by simp[mix];omega
theorem b3h (h:t.length=o.length)(hx:t[j]?=some x):(mix t o j).set j x=mix t o (j+1):=by
 have hj:j<t.length:=(lL hx);have hl:(t.take j).length=j:=by simp;omega
 apply List.ext_getElem?;intro i;unfold mix;rw[List.getElem?_set];by_cases hi:j=i
 ·subst hi;rw[iP rfl,iP (by simp;omega),List.getElem?_append_left (by simp;omega),List.getElem?_take,iP (by omega),hx]
 ·rw[iN hi];by_cases hlt:i<j
  ·rw[List.getElem?_append_left (by omega),List.getElem?_append_left (by simp;omega),List.getElem?_take,List.getElem?_take,iP hlt,iP (by omega)]
  ·have hl2:(t.take (j+1)).length=j+1:=by simp;omega
   rw[List.getElem?_append_right (by omega),List.getElem?_append_right (by omega),hl,hl2,List.getElem?_drop,List.getElem?_drop]
   congr 1;omega
theorem c1j (h:t.length=o.length)(hj:j<o.length):(mix t o j)[j]?=o[j]? := by
 have hl:(t.take j).length=j:=by simp;omega
 unfold mix;rw[List.getElem?_append_right (by omega),hl,List.getElem?_drop]
 congr 1;omega
theorem a4o {c:Int}(h:t.length=n)(hj:j<n):(mix t (List.replicate n c) j)[j]?=some c:=by
 rw[c1j (by simpa using h) (by simpa using hj),List.getElem?_replicate,iP hj]
theorem a4n {c:Int}(h:t.length=n):mix t (List.replicate n c) n=t:=by
 have:=b1t (t:=t) (o:=List.replicate n c) (by simpa using h);rwa [List.length_replicate] at this
theorem a3i {c:Int}(h:t.length=n)(hx:t[j]?=some x):(mix t (List.replicate n c) j).set j x=mix t (List.replicate n c) (j+1):=b3h (by simpa using h) hx
theorem d9q {f:Int→Int}(h:d[j]?=some x):(d.map f)[j]?=some (f x):=by simp[h]
theorem d9t {f:Int→Int→Int}{y:Int}(h:d[j]?=some x)(g:k[j]?=some y):(List.zipWith f d k)[j]?=some (f x y):=by
 rw[List.getElem?_zipWith,h,g]
theorem a8h:∀(c a b:List Int),a.length=c.length→b.length=c.length→(b7q c a b).length=c.length
 | [],_,_,_,_=>by simp[b7q]
 | z::c,[],_,h,_=>by simp at h
 | z::c,x::a,[],_,h=>by simp at h
 | z::c,x::a,y::b,h,g=>by simp[b7q,a8h c a b (by simpa using h) (by simpa using g)]
theorem c2e:∀ {c a b:List Int} {j:Nat} {z x y:Int},c[j]?=some z→a[j]?=some x→b[j]?=some y→(b7q c a b)[j]?=some (if z=0 then y else x)
 | [],_,_,_,_,_,_,h,_,_=>by simp at h
 | _::_,[],_,_,_,_,_,_,h,_=>by simp at h
 | _::_,_::_,[],_,_,_,_,_,_,h=>by simp at h
 | _::c,_::a,_::b,0,_,_,_,h,g,f=>by simp at h g f;subst h;subst g;subst f;simp[b7q]
 | _::c,_::a,_::b,j+1,_,_,_,h,g,f=>by simp at h g f;simp[b7q,c2e h g f]
theorem a0z (h:a0a s d=true):(d.length:Int)=Sh.size s:=by
 simp only[a0a,Bool.and_eq_true,decide_eq_true_eq] at h;exact h.2
theorem a1p (h:a0a s d=true):Sh.right s=true:=by
 simp only[a0a,Bool.and_eq_true,decide_eq_true_eq] at h;exact h.1
theorem a1f (h:a0a s d=true):s.length≤4∧d.length≤4096:=by
 have h2:=Sh.size_bd s;have h3:=a0z h;exact⟨(Sh.right_iff.1 (a1p h)).1,by omega⟩
theorem c3x (h:a0a s d=true)(g:a0a s k=true):k.length=d.length:=by
 have h1:=a0z h;have h2:=a0z g;omega
theorem b5g (h:a0a s d=true)(hl:k.length=d.length):a0a s k=true:=by
 simp only[a0a,Bool.and_eq_true,decide_eq_true_eq] at h ⊢;exact⟨h.1,by rw[hl];exact h.2⟩
theorem c8i (ho:op=4∨op=5)(h:a0a s d=true):oneR op s d=(0,s,d.map fun x=>a2b op x 0):=by
 rw[oneR,iN (by omega),iP h]
theorem c8y (ho:op≠4∧op≠5):oneR op s d=refused 1:=by rw[oneR,iP ho]
theorem c2b (ho:op=4∨op=5)(h:a0a s d=false):oneR op s d=refused 13:=by
 rw[oneR,iN (by omega),h];rfl
theorem c9j (ho:op<6∨11<op):twoR op s d t k=refused 1:=by rw[twoR,iP ho]
theorem d3k (ho:6≤op∧op≤11)(h:(a0a s d&&(a0a t k&&t==s))=true):twoR op s d t k=(0,s,List.zipWith (a2b op) d k):=by
 rw[twoR,iN (by omega),iP h]
theorem c1u (ho:6≤op∧op≤11)(h:(a0a s d&&(a0a t k&&t==s))=false):twoR op s d t k=refused 13:=by
 rw[twoR,iN (by omega),h];rfl
end Go.Proofs.YtjblengklgkgfaaGreat
