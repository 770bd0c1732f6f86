import Derived.Test.YtajhdeddgdhccaaGreatDoorPah
set_option maxRecDepth 100000
set_option maxHeartbeats 12800000
namespace Go.Proofs.YtajhdeddgdhccaaGreatDoor
open Go.RowKit Go.Proofs.Tryz
variable {R:Ending→World→Prop} {a:Act} {c g n:Nat} {d s xs:List Int} {l:List a0i} {t:TypeId} {u v0 v1 x y:Value} {w w' w0:World}
def b1p (w:World) (t:TypeId) (xs:List Int) (e:Ending) (w' : World):Prop:=(∃ v n,e=.returned v∧OwnS w' w.heap.size t v n xs)∧Below w.heap.size w w'
theorem b1p.none_ (w:World)(t:TypeId):b1p w t [] (.returned (.slice none 0 0)) w:=⟨⟨_,_,rfl,OwnS.nil_ _ _ _⟩,Below.refl _ _⟩
theorem b1p.own (h:Own w' w.heap.size t g n c xs)(hb:Below w.heap.size w w'):b1p w t xs (.returned (.slice (some ⟨g,0,none⟩) n c)) w':=⟨⟨_,_,rfl,h⟩,hb⟩
theorem c3w {fn:Func}{p u:Tmp}{z:Value}(H:Sep w0 w l)(i:Nat)(hi:l[i]?=some (.box g 84 [x,y]))
  (h:fn.results=#[.cell p 84,.tmp u])(hp:a.tmps.getD p undef=.pointer (some ⟨g,0,none⟩))(hz:a.tmps.getD u undef=z)(hd:a.defers=[])(hR:R (.returned (.tuple #[.agg #[x,y],z])) w):bodyPost prog fn R .ret a w :=
 a5j g x y z h hp hz (H.heap i hi) hd hR
theorem sY2 {fn:Func}{p u:Tmp}{n0 n1:Nat}{e0 e1:TypeId}{x0 x1:List Int}(H:Sep w0 w l)(i k0 k1:Nat)(z:Value)(h:fn.results=#[.cell p 84,.tmp u])(hi:l[i]?=some (.box g 84 [v0,v1]):=by rfl)
  (hp:a.tmps.getD p undef=.pointer (some ⟨g,0,none⟩):=by rfl)(hz:a.tmps.getD u undef=z:=by rfl)(hd:a.defers=[]:=by rfl)(h0:l[k0]?=some (.own e0 v0 n0 x0):=by rfl)(h1:l[k1]?=some (.own e1 v1 n1 x1):=by rfl)
  (hR:OwnS w w0.heap.size e0 v0 n0 x0→OwnS w w0.heap.size e1 v1 n1 x1→Below w0.heap.size w0 w→R (.returned (.tuple #[.agg #[v0,v1],z])) w:=by exact fun a b c=>⟨⟨_,rfl,_,_,_,_,rfl,a,b⟩,c⟩):
  bodyPost prog fn R .ret a w:=c3w H i hi h hp hz hd (hR (H.ownS k0 h0) (H.ownS k1 h1) H.base)
theorem sN2 {fn:Func}{p u:Tmp}(H:Sep w0 w l)(i:Nat)(k:Int)(h:fn.results=#[.cell p 84,.tmp u])(hi:l[i]?=some (.box g 84 [x,y]):=by rfl)
  (hp:a.tmps.getD p undef=.pointer (some ⟨g,0,none⟩):=by rfl)(hz:a.tmps.getD u undef=.int .i64 k:=by rfl)(hd:a.defers=[]:=by rfl)
  (hR:∀ W,Below w0.heap.size w0 W→R (.returned (.tuple #[.agg #[.slice none 0 0,.slice none 0 0],.int .i64 k])) W:=by exact fun W hb=>⟨⟨_,rfl,_,_,0,0,rfl,OwnS.nil_ _ _ _,OwnS.nil_ _ _ _⟩,hb⟩):
  bodyPost prog fn R .ret a ((w.setCell ⟨g,0,none⟩ (.slice none 0 0)).setCell ⟨g,1,none⟩ (.slice none 0 0)):=by
 have h2:=(H.setBox i 0 (.slice none 0 0) hi).setBox i 1 (.slice none 0 0) (by rw[List.getElem?_set_self (lL hi)]);rw[List.set_set] at h2;exact c3w h2 i (List.getElem?_set_self (lL hi)) h hp hz hd (hR _ h2.base)
theorem Sep.addTen (h:Sep w0 w l)(hb:Below w.heap.size w w')(hu:OTen w' w.heap.size u s d):
  ∃ S ns sc D nd dc,u=.agg #[.slice S ns sc,.slice D nd dc]∧s.length=ns∧d.length=nd∧ns≤sc∧nd≤dc∧nd≤9223372036854775807∧Sep w0 w' (.own 3 (.slice S ns sc) ns s::.own 2 (.slice D nd dc) nd d::l):=by
 obtain⟨vs,vd,ns,nd,rfl,h1,h2⟩:=hu;obtain⟨S,sc,rfl,hs,_,_⟩:=h1.form;obtain⟨D,dc,rfl,hd,_,_⟩:=h2.form;exact⟨S,ns,sc,D,nd,dc,rfl,h1.len,h2.len,hs,hd,h2.2.2,h.addOwn2 hb h1 h2 (Ne.symm c0p.1)⟩
theorem Sep.aB {vs:List Value}(i:Nat)(h:Sep w0 w l)(hb:Below w.heap.size w w')(hu:OTen w' w.heap.size u s d)(hi:l[i]?=some (.box g t (v0::v1::vs)):=by rfl):
  ∃ S ns sc D nd dc,u=.agg #[.slice S ns sc,.slice D nd dc]∧Hid (Sep w0 w' (.own 3 (.slice S ns sc) ns s::.own 2 (.slice D nd dc) nd d::l))∧w'.cell? ⟨g,0,none⟩=some v0∧w'.cell? ⟨g,1,none⟩=some v1∧w'.frozen? ⟨g,0,none⟩=false∧w'.frozen? ⟨g,1,none⟩=false∧Hid (Sep w0 ((w'.setCell ⟨g,0,none⟩ (.slice S ns sc)).setCell ⟨g,1,none⟩ (.slice D nd dc)) (((.own 3 (.slice S ns sc) ns s::.own 2 (.slice D nd dc) nd d::l).set (i+2) (.box g t ((v0::v1::vs).set 0 (.slice S ns sc)))).set (i+2) (.box g t (((v0::v1::vs).set 0 (.slice S ns sc)).set 1 (.slice D nd dc))))):=by
 obtain⟨S,ns,sc,D,nd,dc,rfl,_,_,_,_,_,h7⟩:=h.addTen hb hu
 have hj:(a0i.own 3 (.slice S ns sc) ns s::a0i.own 2 (.slice D nd dc) nd d::l)[i+2]?=some (.box g t (v0::v1::vs)):=hi
 obtain⟨r0,r1,f0,f1⟩:=h7.b2 (i+2) hj
 exact⟨S,ns,sc,D,nd,dc,rfl,Hd h7,r0,r1,f0,f1,Hd ((h7.setBox (i+2) 0 (.slice S ns sc) hj).setBox (i+2) 1 (.slice D nd dc) (List.getElem?_set_self (lL hj)))⟩
theorem a2q {A:Option Addr}(i:Int)(h:Ints w A n xs)(hif:Fits i):
  Calls prog 86 #[.slice A n c,.int .i64 i] w fun e w'=>b1p w 3 (Sh.placeOf xs i) e w':=by
 have hn:=h.len;have hle:=h.le;have hsb:=Sh.size_bd xs;obtain⟨hsb1,hsb2⟩:=hsb;obtain⟨hi1,hi2⟩:=hif;by_cases hok:0≤i∧i<Sh.size xs
 ·obtain⟨hr,hd⟩:=Sh.size_pos hok.1 hok.2;have HP:=Hd (p:=Sh.placeOf xs i=Sh.place xs i) (by rw[Sh.placeOf,iP hok]);obtain⟨hi0,his⟩:=hok;have hl4:=(Sh.right_iff.1 hr).1;have hn4:n≤4:=by omega
  have HD:Hid (∀ x∈xs,0≤x∧x≤32):=Hd fun x hx=>⟨by have:=hd x hx;omega,(hd x hx).2⟩
  have H1:=Hd hn;clear hn;have HR:=Hd hr;clear hr;have HE:=Hd hd;clear hd;obtain⟨i0,hi,hz0,hz1,hz2⟩:=info_parts Tryz.infoInt;rw[HP.out]
  go_enter func86,ntmps86
  go_wp2_with (first|(go_at_call 19;refine(a1s h).mono ?_;rintro e w' ⟨rfl,rfl⟩)|(at_make;refine wpList_make_full _ rfl _ _ _ rfl _ _ i0 (.int .i64 0) 1 underlying23 hi hz0 hz1 .i64 .i64 _ _ n rfl rfl rfl rfl ?c1 ?c2 (Nat.le_refl _) ?_))
  case c1=>rw[hz2];omega
  case c2=>unfold maxLen;omega
  intro w1 hown hgr;have hO:=c3s (by omega) hown;have hB:Below w.heap.size w w1:=(Below.refl _ _).grown hgr (Nat.le_refl _) (by simp);have hsz:=hgr.size;clear hown hgr;go_wp2
  go_loopw [1,6] (fun p a wr=>∃(m:Nat) (k:Int),k+1=m∧m≤n∧a=.int .i64 k∧p=.int .i64 (i / Sh.pd (xs.drop m))∧∃ ys,Own wr w.heap.size 3 w.heap.size n n ys∧From m ys (Sh.place xs i)∧Below w.heap.size w wr) (fun _ a _=>(intOf a+1).toNat)
  case atStart =>
   refine⟨n,_,by omega,by omega,rfl,?_,_,hO,⟨?_,?_⟩,hB⟩
   ·rw[List.drop_eq_nil_of_le (by have:=H1.out;omega)];simp[Sh.pd]
   ·simp[Sh.place_length,H1.out]
   ·intro j hj;rw[List.getElem?_eq_none (by simp;omega),List.getElem?_eq_none (by rw[Sh.place_length,H1.out];omega)]
  case round =>
   clear hO hB hsz;obtain⟨m,k,hkm,hk2,rfl,rfl,ys,hO,hF,hB⟩:=hrel;by_cases hk0:0≤k
   ·obtain⟨m,rfl⟩:=eZ hk0;rename_i m0;obtain rfl:m0=m+1:=by omega
    have hmn:m<n:=by omega
    have h':=h.below hB;obtain⟨ad,x,rfl,hb,hx,hc,hf⟩:=h'.at_ hmn;obtain⟨hx1,hx2⟩:=HE.out x (mG hx);have hc2:wr.cell? ⟨w.heap.size,m,none⟩=some (.int .i64 (ys.getD m 0)):=hO.cell (by have:=hO.len;simp[List.getElem?_eq_getElem (by omega:m<ys.length)]);have hfz:=hO.frozen m;have hq:=Sh.pd_small HD hl4 (m+1);have hd0:0≤i / Sh.pd (xs.drop (m+1)):=Int.ediv_nonneg hi0 hq.1;have hd1:i / Sh.pd (xs.drop (m+1))≤9223372036854775807:=Int.le_trans (Int.ediv_le_self _ hi0) hi2;have hm0:0≤i / Sh.pd (xs.drop (m+1)) % x:=Int.emod_nonneg _ (by omega);have hm1:i / Sh.pd (xs.drop (m+1)) % x<x:=Int.emod_lt_of_pos _ (by omega);have HS:=Hd (Sh.left_step (i:=i) hx HD);have hO2:=hO.store m (u:=i / Sh.pd (xs.drop (m+1)) % x) ⟨by omega,by omega⟩;have hF2:=hF.set_ (Sh.place_at (i:=i) hx);have hB2:=hB.setCell (p:=⟨w.heap.size,m,none⟩) (Nat.le_refl _) (.int .i64 (i / Sh.pd (xs.drop (m+1)) % x));have hc3:(wr.setCell ⟨w.heap.size,m,none⟩ (.int .i64 (i / Sh.pd (xs.drop (m+1)) % x))).cell? (ad.add m)=some (.int .i64 x):=(h.below hB2).get hx;have HX:=Hd hx;clear hx hkm hk0 hO hF hB h' hq;go_wp2;go_roundw
    case rel=>exact⟨m,_,by omega,by omega,rfl,by rw[HS.out],_,hO2,hF2,hB2⟩
    case measure=>simp[intOf]
   ·obtain rfl:m=0:=by omega
    obtain rfl:k = -1:=by omega
    have HF:=Hd hF;clear hF;go_wp2;go_ret;rw[←HF.zero];exact b1p.own hO hB
 ·have HP:=Hd (p:=Sh.placeOf xs i=[]) (by rw[Sh.placeOf,iN hok]);rw[HP.out];have H1:=Hd hn;clear hn;by_cases hi0:i<0
  ·go_enter func86,ntmps86
   go_wp2_with (go_at_call 19;refine(a1s h).mono ?_;rintro e w' ⟨rfl,rfl⟩)
   go_ret;exact b1p.none_ w _
  ·have hi3:Sh.size xs≤i:=by omega
   clear hok
   go_enter func86,ntmps86
   go_wp2_with (go_at_call 19;refine(a1s h).mono ?_;rintro e w' ⟨rfl,rfl⟩)
   go_ret;exact b1p.none_ w _
end Go.Proofs.YtajhdeddgdhccaaGreatDoor
