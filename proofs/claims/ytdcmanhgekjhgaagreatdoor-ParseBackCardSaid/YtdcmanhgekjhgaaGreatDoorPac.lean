import Derived.Deep.DeepCutAuto
import Derived.Deep.RegionHeld3
import Derived.Laws.CopyOwn
import Derived.PlainAid
import Derived.Test.YtdcmanhgekjhgaaGreatDoorRows
import Derived.Test.YtdcmanhgekjhgaaGreatDoorPaa
set_option maxRecDepth 100000
set_option maxHeartbeats 12800000
namespace Go.Proofs.YtdcmanhgekjhgaaGreatDoor
def nth {α : Type}:List α → Nat→Option α
 | [],_=>none
 | x::_,0=>some x
 | _::l,n+1=>nth l n
theorem d1l {α : Type}:∀(l:List α) (i:Nat),nth l i=l[i]?
 | [],i=>by simp[nth]
 | x::l,0=>by simp[nth]
 | x::l,i+1=>by simp[nth,d1l l i]
theorem b2m {α : Type} {ops:Array α} {i:Nat} {o : α} (h:nth ops.toList i=some o):ops[i]?=some o:=by
 rw[d1l] at h;rw[←Array.getElem?_toList];exact h
section
variable {P : Program} {md : Region.Mode} {ops : Array Oper} {Q : Exit → Act → World → Prop} {S : World → Prop} {i : Nat} {oi : Oper} {fuel : Nat} {listed : Array Bool} {a : Act} {w : World}
theorem e7k (hi:ops[i]?=some oi) (hs:Region.noSelect ops=true) (hf:Region.free md ops listed i=true) (hr:(Region.ready md ops listed).contains i=true)
  (hQ:∀ c a w,Q (.panic c) (a.put oi.dst undef) w→Q (.panic c) a w) (hw:Region.wanted oi (yielded ops a.tmps)=false) (hS:S w)
  (h:wpAnyH P md ops Q S fuel (listed.setIfInBounds i true) (a.put oi.dst undef) w):wpAnyH P md ops Q S (fuel+1) listed a w :=
 wpAnyH_take hi hs hf hr hQ (.inr ⟨hw,rfl⟩) hS h
theorem e5v (v:Value) (hi:ops[i]?=some oi) (hs:Region.noSelect ops=true) (hf:Region.free md ops listed i=true) (hr:(Region.ready md ops listed).contains i=true)
  (hQ:∀ c a w,Q (.panic c) (a.put oi.dst v) w→Q (.panic c) a w) (hw:Region.wanted oi (yielded ops a.tmps)=true) (hy:∀ w,S w→(execOp a.eval oi).run P w=.ok (.value v) w) (hS:S w)
  (h:wpAnyH P md ops Q S fuel (listed.setIfInBounds i true) (a.put oi.dst v) w):wpAnyH P md ops Q S (fuel+1) listed a w :=
 wpAnyH_take hi hs hf hr hQ (.inl ⟨hw,hy⟩) hS h
theorem tU (i:Nat) (hS:S w) (h:wpAnyH P md ops Q S fuel (listed.setIfInBounds i true) (a.put oi.dst undef) w)
  (hi:nth ops.toList i=some oi:=by rfl) (hs:Region.noSelect ops=true:=by kernel_rfl) (hf:Region.free md ops listed i=true:=by kernel_rfl) (hr:(Region.ready md ops listed).contains i=true:=by kernel_rfl)
  (hQ:∀ c a w,Q (.panic c) (a.put oi.dst undef) w→Q (.panic c) a w:=by exact fun _ _ _ h=>h) (hw:Region.wanted oi (yielded ops a.tmps)=false:=by rfl):wpAnyH P md ops Q S (fuel+1) listed a w :=
 e7k (b2m hi) hs hf hr hQ hw hS h
theorem tW (i:Nat) (hS:S w) (v:Value) (hy:∀ w,S w→(execOp a.eval oi).run P w=.ok (.value v) w) (h:wpAnyH P md ops Q S fuel (listed.setIfInBounds i true) (a.put oi.dst v) w)
  (hi:nth ops.toList i=some oi:=by rfl) (hs:Region.noSelect ops=true:=by kernel_rfl) (hf:Region.free md ops listed i=true:=by kernel_rfl) (hr:(Region.ready md ops listed).contains i=true:=by kernel_rfl)
  (hQ:∀ c a w,Q (.panic c) (a.put oi.dst v) w→Q (.panic c) a w:=by exact fun _ _ _ h=>h) (hw:Region.wanted oi (yielded ops a.tmps)=true:=by rfl):wpAnyH P md ops Q S (fuel+1) listed a w :=
 e5v v (b2m hi) hs hf hr hQ hw hy hS h
theorem e1 (i:Nat) {o:Oper} (h:∀ K' : Act→World→Prop,Shut (∀ a w,S w→(S w→wpAnyH P md ops Q S fuel (listed.setIfInBounds i true) a w)→K' a w)→if Region.wanted o (yielded ops a.tmps)=true then Oper.wp P o a w K' Q else K' (a.put o.dst undef) w)
  (ho:nth ops.toList i=some o:=by rfl) (hr:Region.ready md ops listed=[i]:=by kernel_rfl):wpAnyH P md ops Q S (fuel+1) listed a w :=
 wpAnyH_ready hr (by simp) (AllReadyH.cons (b2m ho) h AllReadyH.nil)
theorem aC {i:Nat} {o:Oper} {rs:List Nat} (h:∀ K' : Act→World→Prop,Shut (∀ a w,S w→(S w→wpAnyH P md ops Q S fuel (listed.setIfInBounds i true) a w)→K' a w)→if Region.wanted o (yielded ops a.tmps)=true then Oper.wp P o a w K' Q else K' (a.put o.dst undef) w)
  (hs:AllReadyH P md ops Q S fuel listed a w rs) (ho:nth ops.toList i=some o:=by rfl):AllReadyH P md ops Q S fuel listed a w (i::rs):=AllReadyH.cons (b2m ho) h hs
theorem rD (rs:List Nat) (h:AllReadyH P md ops Q S fuel listed a w rs) (hr:Region.ready md ops listed=rs:=by kernel_rfl) (hne:rs≠[]:=by simp):wpAnyH P md ops Q S (fuel+1) listed a w:=wpAnyH_ready hr hne h
theorem pS2 {α : Type} (l:List α) (i:Nat) (x : α):l.toArray.setIfInBounds i x=(l.set i x).toArray:=List.setIfInBounds_toArray l i x
theorem pS3 {α : Type} (x y : α) (l:List α):(x::l).set 0 y=y::l:=rfl
theorem pS4 {α : Type} (x y : α) (l:List α) (i:Nat):(x::l).set (i+1) y=x::l.set i y:=rfl
theorem zW (i:Nat) (hS:S w) {v:Value} (h:wpAnyH P md ops Q S fuel (listed.setIfInBounds i true) (a.put oi.dst v) w)
  (hi:nth ops.toList i=some oi:=by rfl) (hy:∀ w,S w→(execOp a.eval oi).run P w=.ok (.value v) w:=by(intro wq sq;repeat (obtain⟨_,sq⟩:=sq));go_simp;try with_reducible rfl)
  (hs:Region.noSelect ops=true:=by kernel_rfl) (hf:Region.free md ops listed i=true:=by kernel_rfl) (hr:(Region.ready md ops listed).contains i=true:=by kernel_rfl)
  (hQ:∀ c a w,Q (.panic c) (a.put oi.dst v) w→Q (.panic c) a w:=by exact fun _ _ _ h=>h) (hw:Region.wanted oi (yielded ops a.tmps)=true:=by rfl):wpAnyH P md ops Q S (fuel+1) listed a w :=
 e5v v (b2m hi) hs hf hr hQ hw hy hS h
theorem zK {R K:Act→World→Prop} (hK:Shut (∀ a w,S w→(S w→R a w)→K a w)) (h:S w→R a w) (hS:S w:=by first|with_reducible assumption|exact True.intro|assumption):K a w:=hK.out a w hS h
theorem pA:(∀(t:Array Value) (d:List Deferred) (i:Tmp) (v:Value),(⟨t,d⟩:Act).put (some i) v=⟨t.setIfInBounds i v,d⟩)∧(∀(a:Act) (v:Value),a.put none v=a)∧(∀(l:List Value) (i:Nat) (x:Value),l.toArray.setIfInBounds i x=(l.set i x).toArray)∧(∀(l:List Bool) (i:Nat) (x:Bool),l.toArray.setIfInBounds i x=(l.set i x).toArray)∧(∀(x y:Value) (l:List Value),(x::l).set 0 y=y::l)∧(∀(x y:Bool) (l:List Bool),(x::l).set 0 y=y::l)∧(∀(x y:Value) (l:List Value) (i:Nat),(x::l).set (i+1) y=x::l.set i y)∧(∀(x y:Bool) (l:List Bool) (i:Nat),(x::l).set (i+1) y=x::l.set i y) :=
 ⟨fun _ _ _ _=>rfl,fun _ _=>rfl,fun l i x=>List.setIfInBounds_toArray l i x,fun l i x=>List.setIfInBounds_toArray l i x,fun _ _ _=>rfl,fun _ _ _=>rfl,fun _ _ _ _=>rfl,fun _ _ _ _=>rfl⟩
theorem zV (i:Nat) (hS:S w) {v:Value} {a' : Act} {ls:Array Bool} (h:wpAnyH P md ops Q S fuel ls a' w)
  (hi:nth ops.toList i=some oi:=by rfl) (hy:∀ w,S w→(execOp a.eval oi).run P w=.ok (.value v) w:=by(intro wq sq;repeat (obtain⟨_,sq⟩:=sq));go_simp;try with_reducible rfl)
  (hs:Region.noSelect ops=true:=by kernel_rfl) (hf:Region.free md ops listed i=true:=by kernel_rfl) (hr:(Region.ready md ops listed).contains i=true:=by kernel_rfl)
  (hQ:∀ c a w,Q (.panic c) (a.put oi.dst v) w→Q (.panic c) a w:=by exact fun _ _ _ h=>h) (hw:Region.wanted oi (yielded ops a.tmps)=true:=by rfl)
  (ha:a.put oi.dst v=a':=by(try simp only[pA]);rfl) (hl:listed.setIfInBounds i true=ls:=by(try simp only[pA]);rfl):wpAnyH P md ops Q S (fuel+1) listed a w :=
 e5v v (b2m hi) hs hf hr hQ hw hy hS (ha ▸ hl ▸ h)
theorem zT (i:Nat) (hS:S w) {v:Value} {a' : Act} {ls:Array Bool} (h:wpAnyH P md ops Q S fuel ls a' w)
  (hi:nth ops.toList i=some oi:=by rfl)
  (hy:YieldsIf P ops S oi v a:=by first|exact .inr ⟨by rfl,by rfl⟩|exact .inl ⟨by rfl,by(intro wq sq;repeat (obtain⟨_,sq⟩:=sq));go_simp;try with_reducible rfl⟩)
  (hs:Region.noSelect ops=true:=by kernel_rfl) (hf:Region.free md ops listed i=true:=by kernel_rfl) (hr:(Region.ready md ops listed).contains i=true:=by kernel_rfl)
  (hQ:∀ c a w,Q (.panic c) (a.put oi.dst v) w→Q (.panic c) a w:=by exact fun _ _ _ h=>h)
  (ha:a.put oi.dst v=a':=by(try simp only[pA]);rfl) (hl:listed.setIfInBounds i true=ls:=by(try simp only[pA]);rfl):wpAnyH P md ops Q S (fuel+1) listed a w :=
 wpAnyH_take (b2m hi) hs hf hr hQ hy hS (ha ▸ hl ▸ h)
theorem zX {K:Act→World→Prop} (hK:Shut (∀ a w,S w→(S w→wpAnyH P md ops Q S fuel (listed.setIfInBounds i true) a w)→K a w)) {a' : Act} {ls:Array Bool} (h:S w→wpAnyH P md ops Q S fuel ls a' w)
  (hS:S w:=by first|with_reducible assumption|exact True.intro|assumption) (ha:a=a':=by(try simp only[pA]);rfl) (hl:listed.setIfInBounds i true=ls:=by(try simp only[pA]);rfl):K a w:=hK.out a w hS (ha ▸ hl ▸ h)
theorem rB2 (i j:Nat) {o p:Oper} (h:∀ K' : Act→World→Prop,Shut (∀ a w,S w→(S w→wpAnyH P md ops Q S fuel (listed.setIfInBounds i true) a w)→K' a w)→if Region.wanted o (yielded ops a.tmps)=true then Oper.wp P o a w K' Q else K' (a.put o.dst undef) w)
  (h2:∀ K' : Act→World→Prop,Shut (∀ a w,S w→(S w→wpAnyH P md ops Q S fuel (listed.setIfInBounds j true) a w)→K' a w)→if Region.wanted p (yielded ops a.tmps)=true then Oper.wp P p a w K' Q else K' (a.put p.dst undef) w)
  (ho:nth ops.toList i=some o:=by rfl) (hp:nth ops.toList j=some p:=by rfl) (hr:Region.ready md ops listed=[i,j]:=by kernel_rfl):wpAnyH P md ops Q S (fuel+1) listed a w :=
 rD [i,j] (aC h (aC h2 AllReadyH.nil hp) ho) hr (by simp)
theorem dN {fuel:Nat} (h:Q .normal a w) (hr:Region.ready md ops listed=[]:=by kernel_rfl):wpAnyH P md ops Q S fuel listed a w:=wpAnyH_done hr h fuel
theorem effU {p q:Prop} {o:Oper} (hw:Region.wanted o (yielded ops a.tmps)=false) (h:q):if Region.wanted o (yielded ops a.tmps)=true then p else q:=by
 rw[iN (by rw[hw];decide)];exact h
end
end Go.Proofs.YtdcmanhgekjhgaaGreatDoor
namespace Go.Proofs.YtdcmanhgekjhgaaGreatDoor
open Go.RowKit Go.Proofs.Tryz
variable {A:Option Addr} {K:Act→World→Prop} {Q:Exit→Act→World→Prop} {a:Act} {base c g k n:Nat} {e:TypeId} {o:Oper} {ops:Array Oper} {rest:List Oper} {v:Value} {w w':World} {xs:List Int}
section
variable {w w' : World} {A : Option Addr} {n : Nat} {xs : List Int}
theorem Ints.nil_addr (h:Ints w none n xs):n=0∧xs=[]:=by
 have h0:n=0:=by
  rcases Nat.eq_zero_or_pos n with h0|h0
  ·exact h0
  ·obtain⟨_,e,_⟩:=h.2.2.2 h0;cases e
 exact⟨h0,List.eq_nil_of_length_eq_zero (by rw[h.1,h0])⟩
theorem Ints.take (h:Ints w A n xs)(hk:k≤n):Ints w A k (xs.take k):=by
 refine⟨by rw[List.length_take,h.1];omega,by have:=h.le;omega,fun x hx=>h.fit x (List.mem_of_mem_take hx),fun h0=>?_⟩;obtain⟨ad,e,hb,hc⟩:=h.2.2.2 (by omega);refine⟨ad,e,hb,fun j x hj=>hc j x ?_⟩;rw[List.getElem?_take] at hj
 split at hj
 ·exact hj
 ·cases hj
theorem Ints.drop (h:Ints w A n xs)(hk:k≤n)(hc:n≤c):Ints w (if c=k then A else A.map (·.add k)) (n-k) (xs.drop k):=by
 refine⟨by rw[List.length_drop,h.1],by have:=h.le;omega,fun x hx=>h.fit x (List.mem_of_mem_drop hx),fun h0=>?_⟩;obtain⟨ad,rfl,hb,hcell⟩:=h.2.2.2 (by omega);rw[iN (by omega)];refine⟨ad.add k,rfl,by rw[a0d];exact hb,fun j x hj=>?_⟩;rw[b0w];exact hcell _ _ (by rw[←hj,List.getElem?_drop])
end
variable {P : Program}
theorem b9h {t ty:TypeId}(ht:P.underlying t=some (.slice e))
  (hinfo:(P.info? e).map (fun i=>(i.zero,i.size,i.bytes))=some (some (.int .i64 0),1,8))
  (hown:OwnS w base e v n xs)(hb:base≤w.heap.size)
  {m:Nat}{ys:List Int}(hy:Ints w A m ys)(hn:n+m≤17592186044000):
  ∃ v' w', (Builtin.append_ #[t,t] ty #[v,.slice A m c]).run P w=.ok v' w'∧OwnS w' base e v' (n+m) (xs++ys)∧w.grownBy w' v.ownBlock∧(v'.ownBlock=v.ownBlock∨v'.ownBlock=some w.heap.size):=by
 obtain⟨i,hi,hz0,hz1,hz2⟩:=info_parts hinfo
 have fits:∀ z∈xs++ys,Fits z:=fun z hz=>by
  rcases List.mem_append.1 hz with hz|hz
  ·exact hown.2.1 z hz
  ·exact hy.fit z hz
 cases A with
 | none =>
  obtain⟨rfl,rfl⟩:=hy.nil_addr;refine⟨v,w,?_,by simpa using hown,World.grownBy.refl _ _,.inl rfl⟩;rcases hown.1.2 with ⟨rfl,rfl⟩|⟨g,cap,cur,rfl,_,_,hnc,_⟩
  ·simp[Builtin.append_,run_underlying ht,sizeOf,typeInfo,hi,Builtin.lenOf,Builtin.firstCells]
  ·simp[Builtin.append_,run_underlying ht,sizeOf,typeInfo,hi,Builtin.lenOf,Builtin.firstCells,hnc,storeCells]
 | some ad =>
  have hcells:∀ j u,(ys.map (Value.int .i64))[j]?=some u→w.cell? (ad.add j)=some u:=by
   intro j u hu;rw[List.getElem?_map,Option.map_eq_some_iff] at hu;obtain⟨x,hx,rfl⟩:=hu;exact hy.get hx
  obtain⟨v', w', hr,h2,h3,_,h5⟩:=run_append_own_at (P:=P) w base t ty e i (.int .i64 0) 1 8 ht hi hz0 hz1 hz2 rfl (by decide) v n _ hown.1 ad m c (ys.map (Value.int .i64)) (by simp[hy.len]) hcells (fun u hu=>by
   rw[List.mem_map] at hu;obtain⟨x,_,rfl⟩:=hu;rfl) (by unfold maxLen;omega) (by omega) hb
  exact⟨v', w', hr,⟨by rw[List.map_append];exact h2,fits,by omega⟩,h3,h5⟩
theorem b2d (s y:Operand)(t e:TypeId)
  (ho:o.op=.call { callee:=.builtin .append,args:=#[s,y],argTypes:=#[t,t] })(ht:P.underlying t=some (.slice e))
  (hinfo:(P.info? e).map (fun i=>(i.zero,i.size,i.bytes))=some (some (.int .i64 0),1,8))
  (base:Nat)(v:Value)(n:Nat)(xs:List Int)(hs:a.eval s=v)(hown:OwnS w base e v n xs)(hb:base≤w.heap.size)
  (A:Option Addr)(m c:Nat)(ys:List Int)(hx:a.eval y=.slice A m c)(hy:Ints w A m ys)(hn:n+m≤17592186044000)
  (h:∀ v' w', OwnS w' base e v' (n+m) (xs++ys)→w.grownBy w' v.ownBlock→(v'.ownBlock=v.ownBlock∨v'.ownBlock=some w.heap.size)→K (a.put o.dst v') w'):o.wp P a w K Q:=by
 obtain⟨v', w', hr,h2,h3,h4⟩:=b9h (P:=P) (ty:=o.type) (c:=c) ht hinfo hown hb hy hn;unfold Oper.wp execOp;simp only[ho,resolve,invoke,builtin,Sem.run_bind,Sem.run_pure,Result.andThen_ok,List.map_toArray,List.map_cons,List.map_nil,hs,hx,hr];exact h v' w' h2 h3 h4
theorem a5q (hgd:o.guard=none)(s y:Operand)(t e:TypeId)
  (ho:o.op=.call { callee:=.builtin .append,args:=#[s,y],argTypes:=#[t,t] })(ht:P.underlying t=some (.slice e))
  (hinfo:(P.info? e).map (fun i=>(i.zero,i.size,i.bytes))=some (some (.int .i64 0),1,8))
  (base:Nat)(v:Value)(n:Nat)(xs:List Int)(hs:a.eval s=v)(hown:OwnS w base e v n xs)(hb:base≤w.heap.size)
  (A:Option Addr)(m c:Nat)(ys:List Int)(hx:a.eval y=.slice A m c)(hy:Ints w A m ys)(hn:n+m≤17592186044000)
  (h:∀ v' w', OwnS w' base e v' (n+m) (xs++ys)→w.grownBy w' v.ownBlock→(v'.ownBlock=v.ownBlock∨v'.ownBlock=some w.heap.size)→wpList P ops Q rest (a.put o.dst v') w'):wpList P ops Q (o::rest) a w :=
 wpList_plain hgd fun _ hK=>b2d s y t e ho ht hinfo base v n xs hs hown hb A m c ys hx hy hn fun v' w' h2 h3 h4=>hK _ _ (h v' w' h2 h3 h4)
theorem a9k {E:Prop}(hgd:o.guard=none)(s y:Operand)(t e:TypeId)
  (ho:o.op=.call { callee:=.builtin .append,args:=#[s,y],argTypes:=#[t,t] })(ht:P.underlying t=some (.slice e))
  (hinfo:(P.info? e).map (fun i=>(i.zero,i.size,i.bytes))=some (some (.int .i64 0),1,8))
  (base:Nat)(v:Value)(n:Nat)(xs:List Int)(hs:a.eval s=v)(hown:OwnS w base e v n xs)(hb:base≤w.heap.size)
  (A:Option Addr)(m c:Nat)(ys:List Int)(hx:a.eval y=.slice A m c)(hy:Ints w A m ys)(hn:n+m≤17592186044000)
  (h:∀ v' w', OwnS w' base e v' (n+m) (xs++ys)→w.grownBy w' v.ownBlock→(v'.ownBlock=v.ownBlock∨v'.ownBlock=some w.heap.size)→K (a.put o.dst v') w'):
  if Region.wanted o (yielded ops a.tmps)=true then Oper.wp P o a w K Q else E:=by
 have hw:Region.wanted o (yielded ops a.tmps)=true:=by simp[Region.wanted,hgd]
 rw[iP hw];exact b2d s y t e ho ht hinfo base v n xs hs hown hb A m c ys hx hy hn h
theorem c6f (w:World)(e:TypeId)(hb:base≤w.heap.size):OwnS (w.alloc (.cells #[] e)) base e (.slice (some ⟨w.heap.size,0,none⟩) 0 0) 0 [] :=
 ⟨World.ownsRow_lit w #[] 0 hb (Nat.zero_le _) rfl,by simp,by omega⟩
def b6t (w:World) (base:Nat) (e:TypeId) (v:Value):Prop :=
 v=.slice none 0 0∨∃ g,v=.slice (some ⟨g,0,none⟩) 0 0∧base≤g∧w.heap[g]?=some (.cells #[] e (0,0))
theorem b6t.nil_ (w:World)(base:Nat)(e:TypeId):b6t w base e (.slice none 0 0):=.inl rfl
theorem b6t.below (h:b6t w base e v)(hb:Below w.heap.size w w'):b6t w' base e v:=by
 rcases h with rfl|⟨g,rfl,hg,hh⟩
 ·exact .inl rfl
 ·have:g<w.heap.size:=by
   rcases Nat.lt_or_ge g w.heap.size with hl|hl
   ·exact hl
   ·rw[Array.getElem?_eq_none hl] at hh;cases hh
  exact .inr ⟨g,rfl,hg,(hb.block g this).trans hh⟩
theorem b6t.own (h:b6t w base e v):OwnS w base e v 0 []:=by
 rcases h with rfl|⟨g,rfl,hg,hh⟩
 ·exact OwnS.nil_ _ _ _
 ·exact⟨⟨rfl,.inr ⟨g,0,#[],rfl,hg,hh,Nat.le_refl _,Nat.zero_le _,rfl,rfl⟩⟩,by simp,by omega⟩
def e4g (w:World) (g n:Nat):Prop :=
 g<w.heap.size∧∀ k,k<n→∃(A:Option Addr) (m c:Nat) (xs:List Int),w.cell? ⟨g,k,none⟩=some (.slice A m c)∧m≤c∧Ints w A m xs
theorem e4g.below (h:e4g w g n)(hb:Below w.heap.size w w'):e4g w' g n :=
 ⟨Nat.lt_of_lt_of_le h.1 hb.size,fun k hk=>by
  obtain⟨A,m,c,xs,hc,hm,hI⟩:=h.2 k hk
  exact⟨A,m,c,xs,(hb.cell (p:=⟨g,k,none⟩) h.1).trans hc,hm,hI.below hb⟩⟩
theorem c1d (w:World)(t:TypeId)(cs:Array Value)(xs:List Int)(hc:cs.toList=xs.map (Value.int .i64))(hf:∀ x∈xs,Fits x)(n:Nat)(hl:xs.length=n)(hn:n≤1000):
  Ints (w.alloc (.cells cs t)) (some ⟨w.heap.size,0,none⟩) n xs:=by
 refine⟨hl,by omega,hf,fun _=>⟨_,rfl,by simp,fun j x hj=>?_⟩⟩;rw[Addr.add_lit,Nat.zero_add,World.cell?_alloc_at cs t _ j rfl,←Array.getElem?_toList,hc,List.getElem?_map,hj]
 rfl
theorem b6f (hgd:o.guard=none)(d s:Operand)(dT sT:TypeId)
  (ho:o.op=.call { callee:=.builtin .copy,args:=#[d,s],argTypes:=#[dT,sT] })(elem:TypeId)(hu:P.underlying dT=some (.slice elem))(hsz:(P.info? elem).map (·.size)=some 1)
  {zs:List Int}(hO:Own w base e g n c zs)(hd:a.eval d=.slice (some ⟨g,0,none⟩) n c)
  (hs:a.eval s=.slice A n k)(hI:Ints w A n xs)
  (h:∀ w', Own w' base e g n c xs→w.grownBy w' (some g)→wpList P ops Q rest (a.put o.dst (.int .i64 n)) w'):wpList P ops Q (o::rest) a w:=by
 by_cases h0:n=0
 ·subst h0;refine wpList_copy_nothing hgd d s dT sT ho elem hu hsz _ _ 0 c 0 k hd hs rfl ?_;have hx:xs=zs:=by rw[List.eq_nil_of_length_eq_zero hI.len,List.eq_nil_of_length_eq_zero hO.len]
  exact h w (hx ▸ hO) (World.grownBy.refl _ _)
 ·have hO':=hO;rcases hO'.1 with ⟨hl,hh⟩
  rcases hh with ⟨h', _⟩|⟨g', c', cur,h', hb,hg,hnc,hcm,hcs,hct⟩
  ·simp at h'
  ·simp only[Value.slice.injEq,Option.some.injEq,Addr.mk.injEq,and_true,true_and] at h';obtain⟨rfl,rfl⟩:=h';obtain⟨ad,rfl,_,hcell⟩:=hI.2.2.2 (by omega);have hxl:=hI.len;have hcl:(xs.map (Value.int .i64)).length=Nat.min n n:=by rw[List.length_map,hxl];exact(Nat.min_self n).symm
   refine wpList_copy_own hgd d s dT sT ho elem hu hsz g 0 n c ad n k hd hs cur e hg (xs.map (Value.int .i64)) hcl
    (fun j v hv=>by
     rw[List.getElem?_map,Option.map_eq_some_iff] at hv;obtain⟨x,hx,rfl⟩:=hv
     exact hcell j x hx) (by rw[List.length_map];omega) (fun v hv=>by
     rw[List.mem_map] at hv;obtain⟨x,_,rfl⟩:=hv
     rfl) ?_
   have e1:goInt ((xs.map (Value.int .i64)).length:Nat)=Value.int .i64 n:=by rw[List.length_map,hxl];rfl
   rw[e1];refine h _ ⟨⟨by simp[hxl],.inr ⟨g,c,_,rfl,hb,setRow_heap w g cur _ e _ hg,hnc,hcm,?_,?_⟩⟩,hI.fit,hO.2.2⟩ ⟨rfl,rfl,rfl,by simp[World.setRow],fun j _ hj=>setRow_other w g j _ (fun hh=>hj (by rw[hh]))⟩
   ·simp;omega
   ·simp;rw[List.take_append_of_le_length (by simp;omega),List.take_of_length_le (by simp;omega)]
end Go.Proofs.YtdcmanhgekjhgaaGreatDoor
namespace Go.Proofs.YtdcmanhgekjhgaaGreatDoor.Sh
def pr (l:List Int):Int:=l.foldl (· * ·) 1
def e0v (x:Int):Bool:=decide (0≤x)&&decide (x≤32)
def right (s:List Int):Bool:=decide (s.length≤4)&&s.all e0v&&decide (pr s≤4096)
def size (s:List Int):Int:=if right s then pr s else 0
theorem e5k (l:List Int) (x:Int):pr (l++[x])=pr l*x:=by simp[pr]
theorem pr_take (l:List Int) {k:Nat} {x:Int} (h:l[k]?=some x):pr (l.take (k+1))=pr (l.take k)*x:=by
 rw[List.take_add_one,h];exact e5k _ _
theorem e0o (l:List Int) (h:∀ x∈l,0≤x∧x≤32):∀ a:Int,0≤a→0≤l.foldl (· * ·) a∧l.foldl (· * ·) a≤a*32 ^ l.length:=by
 induction l with
 | nil=>intro a ha;simp;exact ha
 | cons x l ih =>
  intro a ha;have hx:=h x (by simp);have hl:=ih (fun y hy=>h y (by simp[hy])) (a*x) (Int.mul_nonneg ha hx.1);refine⟨hl.1,Int.le_trans hl.2 ?_⟩;have e:a*(32:Int) ^ (x::l).length=a*32*32 ^ l.length:=by rw[List.length_cons,Int.pow_succ,Int.mul_comm (32 ^ l.length) 32,←Int.mul_assoc]
  rw[e];exact Int.mul_le_mul_of_nonneg_right (Int.mul_le_mul_of_nonneg_left hx.2 ha) (Int.pow_nonneg (by omega))
theorem e5j (l:List Int) (h:∀ x∈l,0≤x∧x≤32):0≤pr l∧pr l≤32 ^ l.length:=by
 have:=e0o l h 1 (by omega);simpa [pr] using this
theorem pr_small (l:List Int) (h:∀ x∈l,0≤x∧x≤32) (hl:l.length≤4):0≤pr l∧pr l≤1048576:=by
 have hb:=e5j l h;refine⟨hb.1,Int.le_trans hb.2 ?_⟩;have:l.length=0∨l.length=1∨l.length=2∨l.length=3∨l.length=4:=by omega
 rcases this with e|e|e|e|e <;> rw[e] <;> decide
theorem d6n {x:Int}:e0v x=true↔0≤x∧x≤32:=by simp[e0v]
theorem e4i {l:List Int}:l.all e0v=true↔∀ x∈l,0≤x∧x≤32:=by simp[List.all_eq_true,d6n]
theorem right_iff {s:List Int}:right s=true↔s.length≤4∧(∀ x∈s,0≤x∧x≤32)∧pr s≤4096:=by
 simp only[right,Bool.and_eq_true,decide_eq_true_eq,e4i,and_assoc]
theorem not_right_long {s:List Int} (h:¬ s.length≤4):right s=false:=by simp[right,h]
theorem not_right_dim {s:List Int} {k:Nat} {x:Int} (h:s[k]?=some x) (hx:¬(0≤x∧x≤32)):right s=false:=by
 cases e:right s with
 | false=>rfl
 | true=>exact absurd ((right_iff.1 e).2.1 x (mG h)) hx
theorem not_right_big {s:List Int} (h:¬ pr s≤4096):right s=false:=by simp[right,h]
theorem right_small {s:List Int} (h:s.length≤4) (hd:∀ x∈s,0≤x∧x≤32):right s=decide (pr s≤4096):=by
 by_cases hbig:pr s≤4096
 ·rw[right_iff.2 ⟨h,hd,hbig⟩];simp[hbig]
 ·rw[not_right_big hbig];simp[hbig]
theorem size_of {s:List Int} (h:right s=true):size s=pr s:=by simp[size,h]
theorem size_not {s:List Int} (h:right s=false):size s=0:=by simp[size,h]
theorem size_bd (s:List Int):0≤size s∧size s≤4096:=by
 unfold size
 split
 ·rename_i h;have h:=right_iff.1 h;exact⟨(e5j s h.2.1).1,h.2.2⟩
 ·omega
def pd:List Int→Int
 | []=>1
 | d::r=>d*pd r
theorem e0p (s:List Int):∀ a:Int,s.foldl (· * ·) a=a*pd s:=by
 induction s with
 | nil=>intro a;simp[pd]
 | cons d r ih=>intro a;rw[List.foldl_cons,ih,pd,Int.mul_assoc]
theorem pr_pd (s:List Int):pr s=pd s:=by rw[pr,e0p];simp
theorem e5h {s:List Int} {k:Nat} {d:Int} (h:s[k]?=some d):pd (s.drop k)=d*pd (s.drop (k+1)):=by
 obtain⟨hk,rfl⟩:=List.getElem?_eq_some_iff.1 h;rw[List.drop_eq_getElem_cons hk];rfl
theorem pd_nonneg {s:List Int} (h:∀ x∈s,0≤x∧x≤32):0≤pd s:=by
 have:=(e5j s h).1;rwa [pr_pd] at this
theorem pd_small {s:List Int} (h:∀ x∈s,0≤x∧x≤32) (hl:s.length≤4) (k:Nat):0≤pd (s.drop k)∧pd (s.drop k)≤1048576:=by
 have:=pr_small (s.drop k) (fun x hx=>h x (List.mem_of_mem_drop hx)) (by simp;omega);rwa [pr_pd] at this
def place:List Int→Int→List Int
 | [],_=>[]
 | d::r,i=>((i / pd r) % d)::place r i
theorem place_length (s:List Int) (i:Int):(place s i).length=s.length:=by
 induction s with
 | nil=>rfl
 | cons d r ih=>simp[place,ih]
theorem place_at {s:List Int} {i:Int} {k:Nat} {d:Int} (h:s[k]?=some d):(place s i)[k]?=some ((i / pd (s.drop (k+1))) % d):=by
 induction s generalizing k with
 | nil=>simp at h
 | cons e r ih =>
  cases k with
  | zero=>simp at h;subst h;simp[place]
  | succ k=>simpa [place] using ih (by simpa using h)
theorem left_step {s:List Int} {i:Int} {k:Nat} {d:Int} (h:s[k]?=some d) (hd:∀ x∈s,0≤x∧x≤32) :
  i / pd (s.drop (k+1)) / d=i / pd (s.drop k):=by
 rw[Int.ediv_ediv_of_nonneg (pd_nonneg fun x hx=>hd x (List.mem_of_mem_drop hx)),e5h h,Int.mul_comm]
def hor (s p:List Int):Int:=(s.zip p).foldl (fun a x=>a*x.1+x.2) 0
def within (s p:List Int):Bool:=(s.zip p).all fun x=>decide (0≤x.2)&&decide (x.2<x.1)
def index (s p:List Int):Int:=if right s&&decide (p.length=s.length)&&within s p then hor s p else -1
theorem b4d {s p:List Int} {k:Nat} {d x:Int} (h:s[k]?=some d) (g:p[k]?=some x) :
  (s.take (k+1)).zip (p.take (k+1))=(s.take k).zip (p.take k)++[(d,x)]:=by
 obtain⟨hk,rfl⟩:=List.getElem?_eq_some_iff.1 h;obtain⟨hp,rfl⟩:=List.getElem?_eq_some_iff.1 g;rw[List.take_add_one,List.take_add_one,h,g,List.zip_append (by simp;omega)]
 rfl
theorem hor_take {s p:List Int} {k:Nat} {d x:Int} (h:s[k]?=some d) (g:p[k]?=some x) :
  hor (s.take (k+1)) (p.take (k+1))=hor (s.take k) (p.take k)*d+x:=by
 rw[hor,b4d h g,List.foldl_append];rfl
theorem within_take {s p:List Int} {k:Nat} {d x:Int} (h:s[k]?=some d) (g:p[k]?=some x) :
  within (s.take (k+1)) (p.take (k+1))=(within (s.take k) (p.take k)&&(decide (0≤x)&&decide (x<d))):=by
 rw[within,b4d h g,List.all_append];simp[within]
theorem d0b {s p:List Int} (h:within s p=true) (k:Nat):within (s.take k) (p.take k)=true:=by
 rw[within] at *;have e:(s.take k).zip (p.take k)=(s.zip p).take k:=by simp[List.zip,List.take_zipWith]
 rw[e];rw[List.all_eq_true] at *;exact fun x hx=>h x (List.mem_of_mem_take hx)
theorem within_at {s p:List Int} (h:within s p=true) {k:Nat} {d x:Int} (hd:s[k]?=some d) (hx:p[k]?=some x):0≤x∧x<d:=by
 have:=d0b h (k+1);rw[within_take hd hx] at this;simp only[Bool.and_eq_true,decide_eq_true_eq] at this;exact this.2
theorem d5w:∀(l:List (Int × Int)) (a b:Int),0≤a→a+1≤b→(∀ x∈l,0≤x.2∧x.2<x.1) →
  0≤l.foldl (fun a x=>a*x.1+x.2) a∧l.foldl (fun a x=>a*x.1+x.2) a+1≤(l.map (·.1)).foldl (· * ·) b:=by
 intro l
 induction l with
 | nil=>intro a b ha hb _;exact⟨ha,hb⟩
 | cons x l ih =>
  intro a b ha hb h;obtain⟨h1,h2⟩:=h x (by simp);refine ih _ _ (Int.add_nonneg (Int.mul_nonneg ha (by omega)) h1) ?_ (fun y hy=>h y (by simp[hy]));have:(a+1)*x.1≤b*x.1:=Int.mul_le_mul_of_nonneg_right hb (by omega);rw[Int.add_mul] at this
  show a*x.1+x.2+1≤b*x.1
  omega
theorem c8x:∀(s p:List Int),s.length=p.length→(s.zip p).map (·.1)=s:=by
 intro s
 induction s with
 | nil=>intro p _;simp
 | cons d r ih =>
  intro p h
  cases p with
  | nil=>simp at h
  | cons x q=>simp;exact ih q (by simpa using h)
theorem hor_bd {s p:List Int} (h:within s p=true) (hl:s.length=p.length):0≤hor s p∧hor s p+1≤pr s:=by
 have:=d5w (s.zip p) 0 1 (by omega) (by omega) (by
  rw[within,List.all_eq_true] at h;intro x hx
  simpa using h x hx)
 rwa [c8x s p hl] at this
theorem hor_small {s p:List Int} (hr:right s=true) (hl:s.length=p.length) (k:Nat) (h:within (s.take k) (p.take k)=true) :
  0≤hor (s.take k) (p.take k)∧hor (s.take k) (p.take k)≤1048576:=by
 have hr:=right_iff.1 hr;have hb:=hor_bd h (by simp[hl]);have:=pr_small (s.take k) (fun x hx=>hr.2.1 x (List.mem_of_mem_take hx)) (by simp;omega);omega
theorem index_of {s p:List Int} (hr:right s=true) (hl:p.length=s.length) (h:within s p=true):index s p=hor s p:=by simp[index,hr,hl,h]
theorem index_right {s p:List Int} (hr:right s=false):index s p = -1:=by simp[index,hr]
theorem index_len {s p:List Int} (hl:¬ p.length=s.length):index s p = -1:=by simp[index,hl]
theorem index_out {s p:List Int} {k:Nat} {d x:Int} (hd:s[k]?=some d) (hx:p[k]?=some x) (h:¬(0≤x∧x<d)):index s p = -1:=by
 have:within s p=false:=by
  cases e:within s p with
  | false=>rfl
  | true=>exact absurd (within_at e hd hx) h
 simp[index,this]
def placeOf (s:List Int) (i:Int):List Int:=if 0≤i∧i<size s then place s i else []
theorem d8a {s:List Int} (h:∀ x∈s,0≤x∧x≤32) (hp:0<pd s):∀ x∈s,1≤x:=by
 induction s with
 | nil=>simp
 | cons d r ih =>
  have hd:=h d (by simp);have hr:=pd_nonneg (s:=r) fun x hx=>h x (by simp[hx])
  rw[pd] at hp;have hd0:d≠0:=by rintro rfl;simp at hp
  have hr0:pd r≠0:=by intro e;rw[e] at hp;simp at hp
  intro x hx;rcases List.mem_cons.1 hx with rfl|hx
  ·omega
  ·exact ih (fun x hx=>h x (by simp[hx])) (by omega) x hx
theorem size_pos {s:List Int} {i:Int} (h0:0≤i) (h:i<size s):right s=true∧∀ x∈s,1≤x∧x≤32:=by
 cases hr:right s with
 | false=>rw[size_not hr] at h;omega
 | true =>
  have hd:=(right_iff.1 hr).2.1;rw[size_of hr,pr_pd] at h;have hp:=d8a hd (by omega);exact⟨rfl,fun x hx=>⟨hp x hx,(hd x hx).2⟩⟩
end Go.Proofs.YtdcmanhgekjhgaaGreatDoor.Sh
namespace Go.Proofs.YtdcmanhgekjhgaaGreatDoor
open Go.RowKit Go.Proofs.Tryz
variable {A:Option Addr} {c n:Nat} {w:World} {xs:List Int}
theorem Tryz.infoInt:(prog.info? 3).map (fun i=>(i.zero,i.size,i.bytes))=some (some (.int .i64 0),1,8):=by kernel_rfl
theorem c9i (h:Ints w A n xs):
  Calls prog 160 #[.slice A n c] w fun e w'=>e=.returned (.tuple #[.int .i64 (Sh.size xs),.bool (Sh.right xs)])∧w=w':=by
 have hn:=h.len;have hle:=h.le;by_cases h4:n≤4
 ·go_enter func160,ntmps160
  go_wp2
  go_loop [4,12] (fun p i=>∃ k:Nat,k≤n∧i=.int .i64 k∧p=.int .i64 (Sh.pr (xs.take k))∧∀ x∈xs.take k,0≤x∧x≤32) (fun _ i=>n-(intOf i).toNat)
  case atStart=>exact⟨0,Nat.zero_le _,rfl,rfl,by simp⟩
  case round =>
   obtain⟨k,hk,rfl,rfl,hd⟩:=hrel;have H2:=Hd hn;clear hn;by_cases hlt:k<n
   ·obtain⟨ad,x,rfl,hb,hx,hc,hf⟩:=h.at_ hlt;have H:=Hd hx;clear hx;have HD:=Hd hd;clear hd;by_cases hx0:0≤x∧x≤32
    ·obtain⟨hx1,hx2⟩:=hx0
     have hall:∀ y∈xs.take (k+1),0≤y∧y≤32:=by
      intro y hy;rw[List.take_add_one,H.out] at hy;simp at hy;rcases hy with hy|rfl
      ·exact HD y hy
      ·exact⟨hx1,hx2⟩
     have hm:=Sh.pr_small (xs.take (k+1)) hall (by have:=H2.out;simp;omega);rw[Sh.pr_take _ H.out] at hm;obtain⟨hm1,hm2⟩:=hm;have HA:=Hd hall;clear hall;go_wp2;go_round
     case rel=>exact⟨k+1,by omega,by go_num,by rw[Sh.pr_take _ H.out],HA⟩
     case measure=>simp[intOf];omega
    ·have hr:=Sh.not_right_dim H hx0;have HR:=Hd hr;clear hr;by_cases hx1:x<0
     ·go_wp2;go_ret2;exact⟨c6o (Sh.size_not HR).symm HR.symm,rfl⟩
     ·have hx2:32<x:=by omega
      go_wp2;go_ret2;exact⟨c6o (Sh.size_not HR).symm HR.symm,rfl⟩
   ·have hkn:k=n:=by omega
    have ht:xs.take k=xs:=List.take_of_length_le (by have:=H2.out;omega);rw[ht] at hd ⊢;have hb:=Sh.pr_small xs hd (by have:=H2.out;omega);have HD:=Hd hd;clear hd;have HT:=Hd ht;clear ht;have HK:=Hd hkn;clear hkn;by_cases hbig:Sh.pr xs≤4096
    ·have hr:Sh.right xs=true:=Sh.right_iff.2 ⟨by have:=H2.out;omega,HD,hbig⟩;have HR:=Hd hr;clear hr;go_wp2;go_ret2;exact⟨c6o (Sh.size_of HR).symm HR.symm,rfl⟩
    ·have hr:Sh.right xs=false:=Sh.not_right_big hbig;have HR:=Hd hr;clear hr;go_wp2;go_ret2;exact⟨c6o (Sh.size_not HR).symm HR.symm,rfl⟩
 ·have hr:Sh.right xs=false:=Sh.not_right_long (by omega);have HR:=Hd hr;clear hr;have H2:=Hd hn;clear hn
  go_enter func160,ntmps160
  go_wp2;go_ret2;exact⟨c6o (Sh.size_not HR).symm HR.symm,rfl⟩
theorem a7h (h:Ints w A n xs):
  Calls prog 139 #[.slice A n c] w fun e w'=>e=.returned (.bool (Sh.right xs))∧w=w':=by
 go_enter func139,ntmps139
 go_wp2_with (go_at_call 160;refine(c9i h).mono ?_;rintro e w' ⟨rfl,rfl⟩)
 go_ret;exact⟨rfl,rfl⟩
theorem b3v {B:Option Addr}{m d:Nat}{ys:List Int}(h:Ints w A n xs)(g:Ints w B m ys):
  Calls prog 164 #[.slice A n c,.slice B m d] w fun e w'=>e=.returned (.bool (xs==ys))∧w=w':=by
 have hn:=h.len;have hm:=g.len;have hle:=h.le;have hme:=g.le;by_cases hnm:n=m
 ·subst hnm;have H1:=Hd hn;clear hn;have H2:=Hd hm;clear hm
  go_enter func164,ntmps164
  go_wp2
  go_loop [14] (fun i=>∃ k:Nat,k≤n∧i=.int .i64 k∧xs.take k=ys.take k) (fun i=>n-(intOf i).toNat)
  case atStart=>exact⟨0,Nat.zero_le _,rfl,rfl⟩
  case round =>
   obtain⟨k,hk,rfl,hd⟩:=hrel;have HD:=Hd hd;clear hd;by_cases hlt:k<n
   ·obtain⟨ad,x,rfl,hb,hx,hc,hf⟩:=h.at_ hlt;obtain⟨bd,y,rfl,hb', hy,hc', hf'⟩:=g.at_ hlt;have H:=Hd hx;clear hx;have G:=Hd hy;clear hy;by_cases hxy:x=y
    ·subst hxy;go_wp2;go_round
     case rel=>exact⟨k+1,by omega,by go_num,c7e H G HD⟩
     case measure=>simp[intOf];omega
    ·have HX:=Hd (d1h H G hxy);have hb:(x != y)=true:=by simpa using hxy
     go_wp2;go_ret;exact⟨a0c HX.symm,rfl⟩
   ·have HX:=Hd (c0y H1 H2 (by omega) HD);go_wp2;go_ret;exact⟨a0c HX.symm,rfl⟩
 ·have HX:=Hd (p:=(xs==ys)=false) (by rw[beq_eq_false_iff_ne];rintro rfl;exact hnm (hn.symm.trans hm));have H1:=Hd hn;clear hn;have H2:=Hd hm;clear hm;have hb:((n:Int) != (m:Int))=true:=by simp;omega
  go_enter func164,ntmps164
  go_wp2;go_ret;exact⟨a0c HX.symm,rfl⟩
end Go.Proofs.YtdcmanhgekjhgaaGreatDoor
namespace Go.Proofs.YtdcmanhgekjhgaaGreatDoor
open Go.RowKit Go.Proofs.Tryz
variable {a:Int} {g:Nat} {w:World}
theorem e3k (_ha:a<0)(h:a.tmod 1073741825<0):a.tmod 1073741825+1073741824+1=a % 1073741825:=by
 have e:=Int.tmod_eq_emod (a:=a) (b:=1073741825);by_cases hd:0≤a∨(1073741825:Int) ∣ a
 ·rw[iP hd] at e;omega
 ·rw[iN hd] at e;simp at e;omega
theorem c9u (_ha:a<0)(h:¬ a.tmod 1073741825<0):a.tmod 1073741825=a % 1073741825:=by
 have e:=Int.tmod_eq_emod (a:=a) (b:=1073741825);by_cases hd:0≤a∨(1073741825:Int) ∣ a
 ·rw[iP hd] at e;omega
 ·rw[iN hd] at e;simp at e;omega
theorem d4q (a:Int)(w:World)(hf:Fits a):
  Calls prog 13 #[.int .i64 a,.int .i64 0,.int .i64 1073741824] w fun e w'=>e=.returned (.int .i64 (a % 1073741825))∧w=w':=by
 obtain⟨h1,h2⟩:=hf;by_cases h0:0≤a
 ·by_cases hb:a≤1073741824
  ·go_enter func13,ntmps13
   go_wp2;go_ret;exact⟨a3e (by omega),rfl⟩
  ·go_enter func13,ntmps13
   go_wp2;go_ret;exact⟨a3e (by omega),rfl⟩
 ·have hlt:a<0:=by omega
  have hm1 : -1073741825<a.tmod 1073741825:=by
   have e:=Int.tmod_eq_emod (a:=a) (b:=1073741825);by_cases hd:0≤a∨(1073741825:Int) ∣ a
   ·rw[iP hd] at e;omega
   ·rw[iN hd] at e;simp at e;omega
  have hm2:a.tmod 1073741825≤0:=by
   have e:=Int.tmod_eq_emod (a:=a) (b:=1073741825);by_cases hd:0≤a∨(1073741825:Int) ∣ a
   ·rw[iP hd] at e;omega
   ·rw[iN hd] at e;simp at e;omega
  by_cases ht:a.tmod 1073741825<0
  ·have HX:=Hd (e3k hlt ht)
   go_enter func13,ntmps13
   go_wp2;go_ret;exact⟨a3e (by rw[←HX.out]),rfl⟩
  ·have HX:=Hd (c9u hlt ht)
   go_enter func13,ntmps13
   go_wp2;go_ret;exact⟨a3e (by rw[←HX.out]),rfl⟩
def Tape (w:World) (g:Nat):Prop :=
 ∃(A:Option Addr) (n c at_:Nat) (xs:List Int),w.heap[g]?=some (.cells #[.slice A n c,.int .i64 at_] 55 (0,0))∧at_≤n∧Ints w A n xs∧∀ ad,A=some ad→0<n→ad.block<g
theorem Tape.lt (h:Tape w g):g<w.heap.size:=by
 obtain⟨A,n,c,at_,xs,hg,_⟩:=h;rcases Nat.lt_or_ge g w.heap.size with hlt|hge
 ·exact hlt
 ·rw[Array.getElem?_eq_none hge] at hg;cases hg
theorem Tape.below {w':World}(h:Tape w g)(hb:Below w.heap.size w w'):Tape w' g:=by
 have hl:=h.lt;obtain⟨A,n,c,at_,xs,hg,ha,hI,hne⟩:=h;exact⟨A,n,c,at_,xs,(hb.block g hl).trans hg,ha,hI.below hb,hne⟩
theorem Tape.drewN (h:Tape w g)(k:Nat):Tape (w.drewN k) g:=h
def b3w:List Int:=[1,2,3,4,5,0,7,2]
theorem e4p (r:Nat)(h:r<8):∃ x:Int,b3w[r]?=some x∧0≤x∧x≤7:=by
 have:r=0∨r=1∨r=2∨r=3∨r=4∨r=5∨r=6∨r=7:=by omega
 rcases this with rfl|rfl|rfl|rfl|rfl|rfl|rfl|rfl <;> exact⟨_,rfl,by decide,by decide⟩
end Go.Proofs.YtdcmanhgekjhgaaGreatDoor
