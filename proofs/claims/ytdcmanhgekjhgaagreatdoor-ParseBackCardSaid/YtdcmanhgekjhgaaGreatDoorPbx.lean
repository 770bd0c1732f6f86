import Derived.Test.YtdcmanhgekjhgaaGreatDoorPbv
set_option maxRecDepth 100000
set_option maxHeartbeats 12800000
namespace Go.Proofs.YtdcmanhgekjhgaaGreatDoor
open Go.ChangeShapes Go.WideShapes Go.ChangeAt Go.RowKit Go.Joins Go.Deep Go.Proofs.Tryz
variable {e t:TypeId}
section
variable {H : Type} {enc : TypeId × Value → H} {P : Program} {W : World} {r : Reach} {b0 : Nat}
theorem e2m {a:Option Addr}{len cap fuel:Nat}{x:DataW H × List MemPlace}(ht:P.underlying t=some (.slice e))(he:P.underlying e=some (.int .i64))(hc:P.cellsOf e=1)(hby:P.bytesOf e=8)
  (hf:DataW.trod enc P W 0 (fun _=>true) true fuel t [.slice a len cap]=some x)(hsz:∀ n∈x.1.weights P t,n≤reachBytes):
  ∃ zs,e4f .i64 W a len cap zs∧len≤17592186043904∧len≤cap:=by
 rcases open_ints ht he hc hf with ⟨hcs,_⟩|⟨y,l,c,zs,hcs,_,hl,hm,hz,hx,hcell,hwz⟩
 ·simp at hcs;obtain⟨rfl,rfl,rfl⟩:=hcs;exact⟨[],.inl ⟨rfl,rfl,rfl,rfl⟩,by omega,by omega⟩
 ·simp at hcs;obtain⟨rfl,rfl,rfl⟩:=hcs;have hzl:zs.length=cap:=by simpa using hz
  have hb:=hsz ((List.length (lits (H:=H) .i64 (zs.take len))+List.length (lits (H:=H) .i64 (zs.drop len)))*P.bytesOf e) (by rw[hx];simp[DataW.weights,ht]);rw[hby] at hb;simp only[lits,List.length_map,List.length_take,List.length_drop,reachBytes] at hb;exact⟨zs,.inr ⟨_,rfl,hl,hm,hzl,hcell,hwz⟩,by omega,hl⟩
theorem b1u {v:Value}{d:DataW H}{p:List MemPlace}(ht:P.underlying t=some (.slice e))(he:P.underlying e=some (.int .i64))(hc:P.cellsOf e=1)(hby:P.bytesOf e=8)
  (hv:Value.okWide P W r b0 t v)(h:DataW.Trod enc P W 0 (fun _=>true) true t v d p)(hsz:∀ n∈d.weights P t,n≤reachBytes):
  ∃ a len cap zs,v=.slice a len cap∧e4f .i64 W a len cap zs∧len≤17592186043904∧len≤cap:=by
 obtain⟨a,len,cap,rfl⟩:=okWide_slice ht hv;obtain⟨fuel,hf⟩:=h;obtain⟨zs,h1,h2⟩:=e2m (x:=(d,p)) ht he hc hby (by simpa [Value.cells] using hf) hsz;exact⟨a,len,cap,zs,rfl,h1,h2⟩
end
end Go.Proofs.YtdcmanhgekjhgaaGreatDoor
namespace Go.Proofs.YtdcmanhgekjhgaaGreatDoor
open Go.ChangeShapes Go.WideShapes Go.ChangeAt Go.RowKit Go.Joins Go.Deep Go.Proofs.Tryz
variable {c v:Value} {cs:List Value} {e t:TypeId} {fuel:Nat}
theorem d6u {α : Type}(P:Nat → α → Prop):∀(n:Nat),(∀ j,j<n→∃ x,P j x)→∃ L:List α,L.length=n∧∀ j x,L[j]?=some x→P j x
 | 0,_=>⟨[],rfl,fun j x h=>by simp at h⟩
 | n+1,h=>by
  obtain⟨L,hl,hL⟩:=d6u P n (fun j hj=>h j (by omega));obtain⟨x,hx⟩:=h n (by omega);refine⟨L++[x],by simp[hl],fun j y hy=>?_⟩;rcases Nat.lt_or_ge j L.length with hj|hj
  ·rw[List.getElem?_append_left hj] at hy;exact hL j y hy
  ·rw[List.getElem?_append_right hj] at hy
   obtain rfl:j=L.length:=by
    rcases Nat.eq_or_lt_of_le hj with e|e
    ·exact e.symm
    ·obtain⟨m,hm⟩:∃ m,j-L.length=m+1:=⟨j-L.length-1,by omega⟩;rw[hm] at hy;simp at hy
   simp at hy;subst hy;rw[hl];exact hx
theorem c9a {i:Nat}(h:cs[i]?=some c):(cs.drop i).take 1=[c]:=by
 obtain⟨hi,rfl⟩:=List.getElem?_eq_some_iff.1 h;rw[List.drop_eq_getElem_cons hi];rfl
section
variable {H : Type} {enc : TypeId × Value → H} {P : Program} {W : World} {r : Reach} {b0 : Nat}
theorem b0t {e:TypeId}{d:DataW H}:∀ {l:List (DataW H)},d∈l→∀ n∈d.weights P e,n∈DataW.weightsAll P e l
 | d0::l,hd,n,hn=>by
  simp only[DataW.weightsAll,List.mem_append];rcases List.mem_cons.1 hd with rfl|hd
  ·exact .inl hn
  ·exact .inr (b0t hd n hn)
theorem c9b {fs:Array Field}{x:DataW H × List MemPlace}(hs:P.underlying t=some (.struct fs))(hone:oneCellFields P fs=true)(hC:P.cellsOf t=fs.size)
  (h:DataW.trod enc P W 0 (fun _=>true) true fuel t cs=some x)(hsz:∀ k∈x.1.weights P t,k≤reachBytes):
  cs.length=fs.size∧∀(i:Nat) (f:Field) (c:Value),fs[i]?=some f→cs[i]?=some c→∃ n y,DataW.trod enc P W 0 (fun _=>true) true n f.type [c]=some y∧∀ k∈y.1.weights P f.type,k≤reachBytes:=by
 obtain⟨xs,n,_,rfl,hl,hlen,hf⟩:=DataW.trod_struct hs h;refine⟨hl.trans hC,fun i f c hi hc=>?_⟩;obtain⟨o,k1⟩:=hone_of hone i f hi;have h1:=hf i f hi;rw[o,k1,c9a hc] at h1;have hix:i<xs.length:=by rw[hlen];exact(Array.getElem?_eq_some_iff.1 hi).1
 rw[List.getElem?_eq_getElem hix] at h1;refine⟨n,xs[i],h1,fun k hk=>hsz k ?_⟩;simp only[DataW.weights,hs];exact DataW.weights_mem_each (j:=i) (t:=f.type) (d:=(xs[i]).1) (by rw[List.getElem?_map,Array.getElem?_toList,hi];rfl) (by rw[List.getElem?_map,List.getElem?_eq_getElem hix];rfl) k hk
theorem d7r {k:Nat}{d:DataW H}{p:List MemPlace}(ht:P.underlying t=some (.slice e))(hk:P.cellsOf e=k)
  (hv:Value.okWide P W r b0 t v)(h:DataW.Trod enc P W 0 (fun _=>true) true t v d p)(hsz:∀ n∈d.weights P t,n≤reachBytes):
  ∃ a len cap,v=.slice a len cap∧len≤cap∧len*P.bytesOf e≤reachBytes∧∀ j,j<len→∃ ad cs n y,a=some ad∧cs.length=k∧(∀ i,i<k→W.cell? ((ad.add (j*k)).add i)=cs[i]?) ∧
   DataW.trod enc P W 0 (fun _=>true) true n e cs=some y∧∀ m∈y.1.weights P e,m≤reachBytes:=by
 obtain⟨a,len,cap,rfl⟩:=okWide_slice ht hv;obtain⟨fuel,hf⟩:=h;rcases open_slice (x:=(d,p)) ht (by simpa [Value.cells] using hf) with ⟨hcs,hx⟩|⟨ad,l,c,m,n,D,Pl,hcs,_,hl,hm,hmm,hx,hel⟩
 ·simp at hcs;obtain⟨rfl,rfl,rfl⟩:=hcs;exact⟨none,0,0,rfl,Nat.le_refl _,by simp,fun j hj=>absurd hj (by omega)⟩
 ·simp at hcs;obtain⟨rfl,rfl,rfl⟩:=hcs;simp only[Prod.mk.injEq] at hx;have hle:len≤m:=by rw[hmm];split <;> omega
  have hd:=hx.1;subst hd;simp only[DataW.weights,ht] at hsz;have h0:=hsz _ (List.mem_cons_self ..);simp only[List.length_map,List.length_range] at h0;refine⟨_,len,cap,rfl,hl,Nat.le_trans (Nat.mul_le_mul_right _ (by omega)) h0,fun j hj=>?_⟩;obtain⟨cs', hcs', htr⟩:=hel j (by omega);rw[hk] at hcs';obtain⟨_,hlen,hcell⟩:=World.cells?_some hcs';refine⟨ad,cs', n,_,rfl,hlen,hcell,htr,fun q hq=>hsz q (List.mem_cons_of_mem _ (List.mem_append_left _ (b0t (d:=D j) ?_ q hq)))⟩;exact List.mem_map.2 ⟨j,List.mem_range.2 hj,rfl⟩
theorem c0h {y:DataW H × List MemPlace}(h0:P.underlying t=some .string)(h:DataW.trod enc P W 0 (fun _=>true) true fuel t [c]=some y)(hsz:∀ n∈y.1.weights P t,n≤reachBytes):∃ s:ByteArray,c=.string s∧s.size≤140737488351232:=by
 obtain⟨s,e,rfl,_⟩:=DataW.trod_string h0 h;simp only[List.cons.injEq,and_true] at e;refine⟨s,e,?_⟩;have:=hsz s.data.toList.length (by simp[DataW.weights]);simpa [reachBytes] using this
theorem a6o {y:DataW H × List MemPlace}(h0:P.underlying t=some (.int .i64))(h:DataW.trod enc P W 0 (fun _=>true) true fuel t [c]=some y):∃ x:Int,c=.int .i64 x∧Fits x:=by
 obtain⟨n,e,_,hw⟩:=DataW.trod_int h0 h;simp only[List.cons.injEq,and_true] at e;exact⟨n,e,bounds_i64 hw⟩
theorem b1v {f0 f1 f2 f3 f4:Field}{d:DataW H}{p:List MemPlace}(ht:P.underlying t=some (.slice e))(hs:P.underlying e=some (.struct #[f0,f1,f2,f3,f4]))(hone:oneCellFields P #[f0,f1,f2,f3,f4]=true)(hC:P.cellsOf e=5)(hB:P.bytesOf e=48)
  (h0:P.underlying f0.type=some (.int .i64))(h1:P.underlying f1.type=some (.int .i64))(h2:P.underlying f2.type=some (.int .i64))(h3:P.underlying f3.type=some (.int .i64))(h4:P.underlying f4.type=some .string)
  (hv:Value.okWide P W r b0 t v)(h:DataW.Trod enc P W 0 (fun _=>true) true t v d p)(hsz:∀ n∈d.weights P t,n≤reachBytes):
  ∃ a len cap L,v=.slice a len cap∧len≤cap∧c7w W a len L:=by
 obtain⟨a,len,cap,rfl,hl,hb,hel⟩:=d7r ht hC hv h hsz;rw[hB] at hb;have hb2:len≤17592186044000:=by unfold reachBytes at hb;omega
 have each:∀ j,j<len→∃ x:c0b,d0d x∧∃ ad,a=some ad∧ad.block<W.heap.size∧W.cell? (ad.add (j*5))=some (.int .i64 x.what) ∧
   W.cell? ⟨(ad.add (j*5)).block,(ad.add (j*5)).off+1,none⟩=some (.int .i64 x.node)∧W.cell? ⟨(ad.add (j*5)).block,(ad.add (j*5)).off+2,none⟩=some (.int .i64 x.at_) ∧
   W.cell? ⟨(ad.add (j*5)).block,(ad.add (j*5)).off+3,none⟩=some (.int .i64 x.n)∧W.cell? ⟨(ad.add (j*5)).block,(ad.add (j*5)).off+4,none⟩=some (.string x.text):=by
  intro j hj;obtain⟨ad,cs,n,y,ha,hlen,hcell,htr,hw⟩:=hel j hj;obtain⟨_,hf⟩:=c9b hs hone (by rw[hC];rfl) htr hw;have k0:cs[0]?=some cs[0]:=List.getElem?_eq_getElem (by omega);have k1:cs[1]?=some cs[1]:=List.getElem?_eq_getElem (by omega);have k2:cs[2]?=some cs[2]:=List.getElem?_eq_getElem (by omega);have k3:cs[3]?=some cs[3]:=List.getElem?_eq_getElem (by omega);have k4:cs[4]?=some cs[4]:=List.getElem?_eq_getElem (by omega);obtain⟨_,_,t0,_⟩:=hf 0 f0 _ rfl k0;obtain⟨_,_,t1,_⟩:=hf 1 f1 _ rfl k1;obtain⟨_,_,t2,_⟩:=hf 2 f2 _ rfl k2;obtain⟨_,_,t3,_⟩:=hf 3 f3 _ rfl k3;obtain⟨_,_,t4,w4⟩:=hf 4 f4 _ rfl k4;obtain⟨x0,e0,b0'⟩:=a6o h0 t0;obtain⟨x1,e1,b1'⟩:=a6o h1 t1;obtain⟨x2,e2,b2'⟩:=a6o h2 t2;obtain⟨x3,e3,b3'⟩:=a6o h3 t3;obtain⟨x4,e4,b4'⟩:=c0h h4 t4 w4;have m0:=(hcell 0 (by omega)).trans k0;have m1:=(hcell 1 (by omega)).trans k1;have m2:=(hcell 2 (by omega)).trans k2;have m3:=(hcell 3 (by omega)).trans k3;have m4:=(hcell 4 (by omega)).trans k4;rw[e0] at m0;rw[e1] at m1;rw[e2] at m2;rw[e3] at m3;rw[e4] at m4;have hz:(ad.add (j*5)).add 0=ad.add (j*5):=by cases (ad.add (j*5));rfl
  have ho:∀ q:Nat,(ad.add (j*5)).add (q+1)=⟨(ad.add (j*5)).block,(ad.add (j*5)).off+(q+1),none⟩:=fun q=>by simp[Addr.add]
  rw[hz] at m0;rw[ho 0] at m1;rw[ho 1] at m2;rw[ho 2] at m3;rw[ho 3] at m4;exact⟨⟨x0,x1,x2,x3,x4⟩,⟨b0', b1', b2', b3', b4'⟩,ad,ha,by have:=block_lt_of_cell m0;rwa [a0d] at this,m0,m1,m2,m3,m4⟩
 obtain⟨L,hL,hLe⟩:=d6u _ len each;exact⟨a,len,cap,L,rfl,hl,hL,hb2,fun j x hx=>hLe j x hx⟩
end
end Go.Proofs.YtdcmanhgekjhgaaGreatDoor
