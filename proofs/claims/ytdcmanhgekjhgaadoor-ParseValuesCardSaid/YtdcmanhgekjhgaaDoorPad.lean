import Derived.Deep.DeepCutAuto
import Derived.Deep.RegionHeld3
import Derived.Laws.CopyOwn
import Derived.Test.YtdcmanhgekjhgaaDoorPaa
set_option maxRecDepth 100000
set_option maxHeartbeats 12800000
namespace Go.Proofs.YtdcmanhgekjhgaaDoor
def nth {α : Type}:List α → Nat→Option α
 | [],_=>none
 | x::_,0=>some x
 | _::l,n+1=>nth l n
theorem b7g {α : Type}:∀(l:List α) (i:Nat),nth l i=l[i]?
 | [],i=>by simp[nth]
 | x::l,0=>by simp[nth]
 | x::l,i+1=>by simp[nth,b7g l i]
theorem a5x {α : Type} {ops:Array α} {i:Nat} {o : α} (h:nth ops.toList i=some o):ops[i]?=some o:=by
 rw[b7g] at h;rw[←Array.getElem?_toList];exact h
section
variable {P : Program} {md : Region.Mode} {ops : Array Oper} {Q : Exit → Act → World → Prop} {S : World → Prop} {i : Nat} {oi : Oper} {fuel : Nat} {listed : Array Bool} {a : Act} {w : World}
theorem c9f (hi:ops[i]?=some oi) (hs:Region.noSelect ops=true) (hf:Region.free md ops listed i=true) (hr:(Region.ready md ops listed).contains i=true)
  (hQ:∀ c a w,Q (.panic c) (a.put oi.dst undef) w→Q (.panic c) a w) (hw:Region.wanted oi (yielded ops a.tmps)=false) (hS:S w)
  (h:wpAnyH P md ops Q S fuel (listed.setIfInBounds i true) (a.put oi.dst undef) w):wpAnyH P md ops Q S (fuel+1) listed a w :=
 wpAnyH_take hi hs hf hr hQ (.inr ⟨hw,rfl⟩) hS h
theorem c7x (v:Value) (hi:ops[i]?=some oi) (hs:Region.noSelect ops=true) (hf:Region.free md ops listed i=true) (hr:(Region.ready md ops listed).contains i=true)
  (hQ:∀ c a w,Q (.panic c) (a.put oi.dst v) w→Q (.panic c) a w) (hw:Region.wanted oi (yielded ops a.tmps)=true) (hy:∀ w,S w→(execOp a.eval oi).run P w=.ok (.value v) w) (hS:S w)
  (h:wpAnyH P md ops Q S fuel (listed.setIfInBounds i true) (a.put oi.dst v) w):wpAnyH P md ops Q S (fuel+1) listed a w :=
 wpAnyH_take hi hs hf hr hQ (.inl ⟨hw,hy⟩) hS h
theorem tU (i:Nat) (hS:S w) (h:wpAnyH P md ops Q S fuel (listed.setIfInBounds i true) (a.put oi.dst undef) w)
  (hi:nth ops.toList i=some oi:=by rfl) (hs:Region.noSelect ops=true:=by kernel_rfl) (hf:Region.free md ops listed i=true:=by kernel_rfl) (hr:(Region.ready md ops listed).contains i=true:=by kernel_rfl)
  (hQ:∀ c a w,Q (.panic c) (a.put oi.dst undef) w→Q (.panic c) a w:=by exact fun _ _ _ h=>h) (hw:Region.wanted oi (yielded ops a.tmps)=false:=by rfl):wpAnyH P md ops Q S (fuel+1) listed a w :=
 c9f (a5x hi) hs hf hr hQ hw hS h
theorem tW (i:Nat) (hS:S w) (v:Value) (hy:∀ w,S w→(execOp a.eval oi).run P w=.ok (.value v) w) (h:wpAnyH P md ops Q S fuel (listed.setIfInBounds i true) (a.put oi.dst v) w)
  (hi:nth ops.toList i=some oi:=by rfl) (hs:Region.noSelect ops=true:=by kernel_rfl) (hf:Region.free md ops listed i=true:=by kernel_rfl) (hr:(Region.ready md ops listed).contains i=true:=by kernel_rfl)
  (hQ:∀ c a w,Q (.panic c) (a.put oi.dst v) w→Q (.panic c) a w:=by exact fun _ _ _ h=>h) (hw:Region.wanted oi (yielded ops a.tmps)=true:=by rfl):wpAnyH P md ops Q S (fuel+1) listed a w :=
 c7x v (a5x hi) hs hf hr hQ hw hy hS h
theorem e1 (i:Nat) {o:Oper} (h:∀ K' : Act→World→Prop,Shut (∀ a w,S w→(S w→wpAnyH P md ops Q S fuel (listed.setIfInBounds i true) a w)→K' a w)→if Region.wanted o (yielded ops a.tmps)=true then Oper.wp P o a w K' Q else K' (a.put o.dst undef) w)
  (ho:nth ops.toList i=some o:=by rfl) (hr:Region.ready md ops listed=[i]:=by kernel_rfl):wpAnyH P md ops Q S (fuel+1) listed a w :=
 wpAnyH_ready hr (by simp) (AllReadyH.cons (a5x ho) h AllReadyH.nil)
theorem aC {i:Nat} {o:Oper} {rs:List Nat} (h:∀ K' : Act→World→Prop,Shut (∀ a w,S w→(S w→wpAnyH P md ops Q S fuel (listed.setIfInBounds i true) a w)→K' a w)→if Region.wanted o (yielded ops a.tmps)=true then Oper.wp P o a w K' Q else K' (a.put o.dst undef) w)
  (hs:AllReadyH P md ops Q S fuel listed a w rs) (ho:nth ops.toList i=some o:=by rfl):AllReadyH P md ops Q S fuel listed a w (i::rs):=AllReadyH.cons (a5x ho) h hs
theorem rD (rs:List Nat) (h:AllReadyH P md ops Q S fuel listed a w rs) (hr:Region.ready md ops listed=rs:=by kernel_rfl) (hne:rs≠[]:=by simp):wpAnyH P md ops Q S (fuel+1) listed a w:=wpAnyH_ready hr hne h
theorem pS2 {α : Type} (l:List α) (i:Nat) (x : α):l.toArray.setIfInBounds i x=(l.set i x).toArray:=List.setIfInBounds_toArray l i x
theorem pS3 {α : Type} (x y : α) (l:List α):(x::l).set 0 y=y::l:=rfl
theorem pS4 {α : Type} (x y : α) (l:List α) (i:Nat):(x::l).set (i+1) y=x::l.set i y:=rfl
theorem zW (i:Nat) (hS:S w) {v:Value} (h:wpAnyH P md ops Q S fuel (listed.setIfInBounds i true) (a.put oi.dst v) w)
  (hi:nth ops.toList i=some oi:=by rfl) (hy:∀ w,S w→(execOp a.eval oi).run P w=.ok (.value v) w:=by(intro wq sq;repeat (obtain⟨_,sq⟩:=sq));go_simp;try with_reducible rfl)
  (hs:Region.noSelect ops=true:=by kernel_rfl) (hf:Region.free md ops listed i=true:=by kernel_rfl) (hr:(Region.ready md ops listed).contains i=true:=by kernel_rfl)
  (hQ:∀ c a w,Q (.panic c) (a.put oi.dst v) w→Q (.panic c) a w:=by exact fun _ _ _ h=>h) (hw:Region.wanted oi (yielded ops a.tmps)=true:=by rfl):wpAnyH P md ops Q S (fuel+1) listed a w :=
 c7x v (a5x hi) hs hf hr hQ hw hy hS h
theorem zK {R K:Act→World→Prop} (hK:Shut (∀ a w,S w→(S w→R a w)→K a w)) (h:S w→R a w) (hS:S w:=by first|with_reducible assumption|exact True.intro|assumption):K a w:=hK.out a w hS h
theorem pA:(∀(t:Array Value) (d:List Deferred) (i:Tmp) (v:Value),(⟨t,d⟩:Act).put (some i) v=⟨t.setIfInBounds i v,d⟩)∧(∀(a:Act) (v:Value),a.put none v=a)∧(∀(l:List Value) (i:Nat) (x:Value),l.toArray.setIfInBounds i x=(l.set i x).toArray)∧(∀(l:List Bool) (i:Nat) (x:Bool),l.toArray.setIfInBounds i x=(l.set i x).toArray)∧(∀(x y:Value) (l:List Value),(x::l).set 0 y=y::l)∧(∀(x y:Bool) (l:List Bool),(x::l).set 0 y=y::l)∧(∀(x y:Value) (l:List Value) (i:Nat),(x::l).set (i+1) y=x::l.set i y)∧(∀(x y:Bool) (l:List Bool) (i:Nat),(x::l).set (i+1) y=x::l.set i y) :=
 ⟨fun _ _ _ _=>rfl,fun _ _=>rfl,fun l i x=>List.setIfInBounds_toArray l i x,fun l i x=>List.setIfInBounds_toArray l i x,fun _ _ _=>rfl,fun _ _ _=>rfl,fun _ _ _ _=>rfl,fun _ _ _ _=>rfl⟩
theorem zV (i:Nat) (hS:S w) {v:Value} {a' : Act} {ls:Array Bool} (h:wpAnyH P md ops Q S fuel ls a' w)
  (hi:nth ops.toList i=some oi:=by rfl) (hy:∀ w,S w→(execOp a.eval oi).run P w=.ok (.value v) w:=by(intro wq sq;repeat (obtain⟨_,sq⟩:=sq));go_simp;try with_reducible rfl)
  (hs:Region.noSelect ops=true:=by kernel_rfl) (hf:Region.free md ops listed i=true:=by kernel_rfl) (hr:(Region.ready md ops listed).contains i=true:=by kernel_rfl)
  (hQ:∀ c a w,Q (.panic c) (a.put oi.dst v) w→Q (.panic c) a w:=by exact fun _ _ _ h=>h) (hw:Region.wanted oi (yielded ops a.tmps)=true:=by rfl)
  (ha:a.put oi.dst v=a':=by(try simp only[pA]);rfl) (hl:listed.setIfInBounds i true=ls:=by(try simp only[pA]);rfl):wpAnyH P md ops Q S (fuel+1) listed a w :=
 c7x v (a5x hi) hs hf hr hQ hw hy hS (ha ▸ hl ▸ h)
theorem zT (i:Nat) (hS:S w) {v:Value} {a' : Act} {ls:Array Bool} (h:wpAnyH P md ops Q S fuel ls a' w)
  (hi:nth ops.toList i=some oi:=by rfl)
  (hy:YieldsIf P ops S oi v a:=by first|exact .inr ⟨by rfl,by rfl⟩|exact .inl ⟨by rfl,by(intro wq sq;repeat (obtain⟨_,sq⟩:=sq));go_simp;try with_reducible rfl⟩)
  (hs:Region.noSelect ops=true:=by kernel_rfl) (hf:Region.free md ops listed i=true:=by kernel_rfl) (hr:(Region.ready md ops listed).contains i=true:=by kernel_rfl)
  (hQ:∀ c a w,Q (.panic c) (a.put oi.dst v) w→Q (.panic c) a w:=by exact fun _ _ _ h=>h)
  (ha:a.put oi.dst v=a':=by(try simp only[pA]);rfl) (hl:listed.setIfInBounds i true=ls:=by(try simp only[pA]);rfl):wpAnyH P md ops Q S (fuel+1) listed a w :=
 wpAnyH_take (a5x hi) hs hf hr hQ hy hS (ha ▸ hl ▸ h)
theorem zX {K:Act→World→Prop} (hK:Shut (∀ a w,S w→(S w→wpAnyH P md ops Q S fuel (listed.setIfInBounds i true) a w)→K a w)) {a' : Act} {ls:Array Bool} (h:S w→wpAnyH P md ops Q S fuel ls a' w)
  (hS:S w:=by first|with_reducible assumption|exact True.intro|assumption) (ha:a=a':=by(try simp only[pA]);rfl) (hl:listed.setIfInBounds i true=ls:=by(try simp only[pA]);rfl):K a w:=hK.out a w hS (ha ▸ hl ▸ h)
theorem rB2 (i j:Nat) {o p:Oper} (h:∀ K' : Act→World→Prop,Shut (∀ a w,S w→(S w→wpAnyH P md ops Q S fuel (listed.setIfInBounds i true) a w)→K' a w)→if Region.wanted o (yielded ops a.tmps)=true then Oper.wp P o a w K' Q else K' (a.put o.dst undef) w)
  (h2:∀ K' : Act→World→Prop,Shut (∀ a w,S w→(S w→wpAnyH P md ops Q S fuel (listed.setIfInBounds j true) a w)→K' a w)→if Region.wanted p (yielded ops a.tmps)=true then Oper.wp P p a w K' Q else K' (a.put p.dst undef) w)
  (ho:nth ops.toList i=some o:=by rfl) (hp:nth ops.toList j=some p:=by rfl) (hr:Region.ready md ops listed=[i,j]:=by kernel_rfl):wpAnyH P md ops Q S (fuel+1) listed a w :=
 rD [i,j] (aC h (aC h2 AllReadyH.nil hp) ho) hr (by simp)
theorem dN {fuel:Nat} (h:Q .normal a w) (hr:Region.ready md ops listed=[]:=by kernel_rfl):wpAnyH P md ops Q S fuel listed a w:=wpAnyH_done hr h fuel
theorem effU {p q:Prop} {o:Oper} (hw:Region.wanted o (yielded ops a.tmps)=false) (h:q):if Region.wanted o (yielded ops a.tmps)=true then p else q:=by
 rw[iN (by rw[hw];decide)];exact h
end
end Go.Proofs.YtdcmanhgekjhgaaDoor
namespace Go.Proofs.YtdcmanhgekjhgaaDoor
open Go.RowKit Go.Proofs.Tryd
variable {A:Option Addr} {Q:Exit→Act→World→Prop} {a:Act} {base c g k n:Nat} {e:TypeId} {o:Oper} {ops:Array Oper} {rest:List Oper} {v:Value} {w w':World} {xs:List Int}
section
variable {w w' : World} {A : Option Addr} {n : Nat} {xs : List Int}
theorem Ints.nil_addr (h:Ints w none n xs):n=0∧xs=[]:=by
 have h0:n=0:=by
  rcases Nat.eq_zero_or_pos n with h0|h0
  ·exact h0
  ·obtain⟨_,e,_⟩:=h.2.2.2 h0;cases e
 exact⟨h0,List.eq_nil_of_length_eq_zero (by rw[h.1,h0])⟩
theorem Ints.take (h:Ints w A n xs)(hk:k≤n):Ints w A k (xs.take k):=by
 refine⟨by rw[List.length_take,h.1];omega,by have:=h.le;omega,fun x hx=>h.fit x (List.mem_of_mem_take hx),fun h0=>?_⟩;obtain⟨ad,e,hb,hc⟩:=h.2.2.2 (by omega);refine⟨ad,e,hb,fun j x hj=>hc j x ?_⟩;rw[List.getElem?_take] at hj
 split at hj
 ·exact hj
 ·cases hj
theorem Ints.drop (h:Ints w A n xs)(hk:k≤n)(hc:n≤c):Ints w (if c=k then A else A.map (·.add k)) (n-k) (xs.drop k):=by
 refine⟨by rw[List.length_drop,h.1],by have:=h.le;omega,fun x hx=>h.fit x (List.mem_of_mem_drop hx),fun h0=>?_⟩;obtain⟨ad,rfl,hb,hcell⟩:=h.2.2.2 (by omega);rw[iN (by omega)];refine⟨ad.add k,rfl,by rw[a0l];exact hb,fun j x hj=>?_⟩;rw[a7c];exact hcell _ _ (by rw[←hj,List.getElem?_drop])
end
variable {P : Program}
theorem b0l {t ty:TypeId}(ht:P.underlying t=some (.slice e))
  (hinfo:(P.info? e).map (fun i=>(i.zero,i.size,i.bytes))=some (some (.int .i64 0),1,8))
  (hown:OwnS w base e v n xs)(hb:base≤w.heap.size)
  {m:Nat}{ys:List Int}(hy:Ints w A m ys)(hn:n+m≤17592186044000):
  ∃ v' w', (Builtin.append_ #[t,t] ty #[v,.slice A m c]).run P w=.ok v' w'∧OwnS w' base e v' (n+m) (xs++ys)∧w.grownBy w' v.ownBlock∧(v'.ownBlock=v.ownBlock∨v'.ownBlock=some w.heap.size):=by
 obtain⟨i,hi,hz0,hz1,hz2⟩:=info_parts hinfo
 have fits:∀ z∈xs++ys,Fits z:=fun z hz=>by
  rcases List.mem_append.1 hz with hz|hz
  ·exact hown.2.1 z hz
  ·exact hy.fit z hz
 cases A with
 | none =>
  obtain⟨rfl,rfl⟩:=hy.nil_addr;refine⟨v,w,?_,by simpa using hown,World.grownBy.refl _ _,.inl rfl⟩;rcases hown.1.2 with ⟨rfl,rfl⟩|⟨g,cap,cur,rfl,_,_,hnc,_⟩
  ·simp[Builtin.append_,run_underlying ht,sizeOf,typeInfo,hi,Builtin.lenOf,Builtin.firstCells]
  ·simp[Builtin.append_,run_underlying ht,sizeOf,typeInfo,hi,Builtin.lenOf,Builtin.firstCells,hnc,storeCells]
 | some ad =>
  have hcells:∀ j u,(ys.map (Value.int .i64))[j]?=some u→w.cell? (ad.add j)=some u:=by
   intro j u hu;rw[List.getElem?_map,Option.map_eq_some_iff] at hu;obtain⟨x,hx,rfl⟩:=hu;exact hy.get hx
  obtain⟨v', w', hr,h2,h3,_,h5⟩:=run_append_own_at (P:=P) w base t ty e i (.int .i64 0) 1 8 ht hi hz0 hz1 hz2 rfl (by decide) v n _ hown.1 ad m c (ys.map (Value.int .i64)) (by simp[hy.len]) hcells (fun u hu=>by
   rw[List.mem_map] at hu;obtain⟨x,_,rfl⟩:=hu;rfl) (by unfold maxLen;omega) (by omega) hb
  exact⟨v', w', hr,⟨by rw[List.map_append];exact h2,fits,by omega⟩,h3,h5⟩
theorem b1f {K:Act→World→Prop}(s y:Operand)(t e:TypeId)
  (ho:o.op=.call { callee:=.builtin .append,args:=#[s,y],argTypes:=#[t,t] })(ht:P.underlying t=some (.slice e))
  (hinfo:(P.info? e).map (fun i=>(i.zero,i.size,i.bytes))=some (some (.int .i64 0),1,8))
  (base:Nat)(v:Value)(n:Nat)(xs:List Int)(hs:a.eval s=v)(hown:OwnS w base e v n xs)(hb:base≤w.heap.size)
  (A:Option Addr)(m c:Nat)(ys:List Int)(hx:a.eval y=.slice A m c)(hy:Ints w A m ys)(hn:n+m≤17592186044000)
  (h:∀ v' w', OwnS w' base e v' (n+m) (xs++ys)→w.grownBy w' v.ownBlock→(v'.ownBlock=v.ownBlock∨v'.ownBlock=some w.heap.size)→K (a.put o.dst v') w'):o.wp P a w K Q:=by
 obtain⟨v', w', hr,h2,h3,h4⟩:=b0l (P:=P) (ty:=o.type) (c:=c) ht hinfo hown hb hy hn;unfold Oper.wp execOp;simp only[ho,resolve,invoke,builtin,Sem.run_bind,Sem.run_pure,Result.andThen_ok,List.map_toArray,List.map_cons,List.map_nil,hs,hx,hr];exact h v' w' h2 h3 h4
theorem a3n (hgd:o.guard=none)(s y:Operand)(t e:TypeId)
  (ho:o.op=.call { callee:=.builtin .append,args:=#[s,y],argTypes:=#[t,t] })(ht:P.underlying t=some (.slice e))
  (hinfo:(P.info? e).map (fun i=>(i.zero,i.size,i.bytes))=some (some (.int .i64 0),1,8))
  (base:Nat)(v:Value)(n:Nat)(xs:List Int)(hs:a.eval s=v)(hown:OwnS w base e v n xs)(hb:base≤w.heap.size)
  (A:Option Addr)(m c:Nat)(ys:List Int)(hx:a.eval y=.slice A m c)(hy:Ints w A m ys)(hn:n+m≤17592186044000)
  (h:∀ v' w', OwnS w' base e v' (n+m) (xs++ys)→w.grownBy w' v.ownBlock→(v'.ownBlock=v.ownBlock∨v'.ownBlock=some w.heap.size)→wpList P ops Q rest (a.put o.dst v') w'):wpList P ops Q (o::rest) a w :=
 wpList_plain hgd fun _ hK=>b1f s y t e ho ht hinfo base v n xs hs hown hb A m c ys hx hy hn fun v' w' h2 h3 h4=>hK _ _ (h v' w' h2 h3 h4)
theorem c1x (w:World)(e:TypeId)(hb:base≤w.heap.size):OwnS (w.alloc (.cells #[] e)) base e (.slice (some ⟨w.heap.size,0,none⟩) 0 0) 0 [] :=
 ⟨World.ownsRow_lit w #[] 0 hb (Nat.zero_le _) rfl,by simp,by omega⟩
def a8x (w:World) (base:Nat) (e:TypeId) (v:Value):Prop :=
 v=.slice none 0 0∨∃ g,v=.slice (some ⟨g,0,none⟩) 0 0∧base≤g∧w.heap[g]?=some (.cells #[] e (0,0))
theorem a8x.nil_ (w:World)(base:Nat)(e:TypeId):a8x w base e (.slice none 0 0):=.inl rfl
theorem a8x.below (h:a8x w base e v)(hb:Below w.heap.size w w'):a8x w' base e v:=by
 rcases h with rfl|⟨g,rfl,hg,hh⟩
 ·exact .inl rfl
 ·have:g<w.heap.size:=by
   rcases Nat.lt_or_ge g w.heap.size with hl|hl
   ·exact hl
   ·rw[Array.getElem?_eq_none hl] at hh;cases hh
  exact .inr ⟨g,rfl,hg,(hb.block g this).trans hh⟩
theorem a8x.own (h:a8x w base e v):OwnS w base e v 0 []:=by
 rcases h with rfl|⟨g,rfl,hg,hh⟩
 ·exact OwnS.nil_ _ _ _
 ·exact⟨⟨rfl,.inr ⟨g,0,#[],rfl,hg,hh,Nat.le_refl _,Nat.zero_le _,rfl,rfl⟩⟩,by simp,by omega⟩
def c6k (w:World) (g n:Nat):Prop :=
 g<w.heap.size∧∀ k,k<n→∃(A:Option Addr) (m c:Nat) (xs:List Int),w.cell? ⟨g,k,none⟩=some (.slice A m c)∧m≤c∧Ints w A m xs
theorem c6k.below (h:c6k w g n)(hb:Below w.heap.size w w'):c6k w' g n :=
 ⟨Nat.lt_of_lt_of_le h.1 hb.size,fun k hk=>by
  obtain⟨A,m,c,xs,hc,hm,hI⟩:=h.2 k hk
  exact⟨A,m,c,xs,(hb.cell (p:=⟨g,k,none⟩) h.1).trans hc,hm,hI.below hb⟩⟩
theorem b8j (w:World)(t:TypeId)(cs:Array Value)(xs:List Int)(hc:cs.toList=xs.map (Value.int .i64))(hf:∀ x∈xs,Fits x)(n:Nat)(hl:xs.length=n)(hn:n≤1000):
  Ints (w.alloc (.cells cs t)) (some ⟨w.heap.size,0,none⟩) n xs:=by
 refine⟨hl,by omega,hf,fun _=>⟨_,rfl,by simp,fun j x hj=>?_⟩⟩;rw[Addr.add_lit,Nat.zero_add,World.cell?_alloc_at cs t _ j rfl,←Array.getElem?_toList,hc,List.getElem?_map,hj]
 rfl
theorem a8n (hgd:o.guard=none)(d s:Operand)(dT sT:TypeId)
  (ho:o.op=.call { callee:=.builtin .copy,args:=#[d,s],argTypes:=#[dT,sT] })(elem:TypeId)(hu:P.underlying dT=some (.slice elem))(hsz:(P.info? elem).map (·.size)=some 1)
  {zs:List Int}(hO:Own w base e g n c zs)(hd:a.eval d=.slice (some ⟨g,0,none⟩) n c)
  (hs:a.eval s=.slice A n k)(hI:Ints w A n xs)
  (h:∀ w', Own w' base e g n c xs→w.grownBy w' (some g)→wpList P ops Q rest (a.put o.dst (.int .i64 n)) w'):wpList P ops Q (o::rest) a w:=by
 by_cases h0:n=0
 ·subst h0;refine wpList_copy_nothing hgd d s dT sT ho elem hu hsz _ _ 0 c 0 k hd hs rfl ?_;have hx:xs=zs:=by rw[List.eq_nil_of_length_eq_zero hI.len,List.eq_nil_of_length_eq_zero hO.len]
  exact h w (hx ▸ hO) (World.grownBy.refl _ _)
 ·have hO':=hO;rcases hO'.1 with ⟨hl,hh⟩
  rcases hh with ⟨h', _⟩|⟨g', c', cur,h', hb,hg,hnc,hcm,hcs,hct⟩
  ·simp at h'
  ·simp only[Value.slice.injEq,Option.some.injEq,Addr.mk.injEq,and_true,true_and] at h';obtain⟨rfl,rfl⟩:=h';obtain⟨ad,rfl,_,hcell⟩:=hI.2.2.2 (by omega);have hxl:=hI.len;have hcl:(xs.map (Value.int .i64)).length=Nat.min n n:=by rw[List.length_map,hxl];exact(Nat.min_self n).symm
   refine wpList_copy_own hgd d s dT sT ho elem hu hsz g 0 n c ad n k hd hs cur e hg (xs.map (Value.int .i64)) hcl
    (fun j v hv=>by
     rw[List.getElem?_map,Option.map_eq_some_iff] at hv;obtain⟨x,hx,rfl⟩:=hv
     exact hcell j x hx) (by rw[List.length_map];omega) (fun v hv=>by
     rw[List.mem_map] at hv;obtain⟨x,_,rfl⟩:=hv
     rfl) ?_
   have e1:goInt ((xs.map (Value.int .i64)).length:Nat)=Value.int .i64 n:=by rw[List.length_map,hxl];rfl
   rw[e1];refine h _ ⟨⟨by simp[hxl],.inr ⟨g,c,_,rfl,hb,setRow_heap w g cur _ e _ hg,hnc,hcm,?_,?_⟩⟩,hI.fit,hO.2.2⟩ ⟨rfl,rfl,rfl,by simp[World.setRow],fun j _ hj=>setRow_other w g j _ (fun hh=>hj (by rw[hh]))⟩
   ·simp;omega
   ·simp;rw[List.take_append_of_le_length (by simp;omega),List.take_of_length_le (by simp;omega)]
end Go.Proofs.YtdcmanhgekjhgaaDoor
