import Derived.Deep.DeepCutAuto
import Derived.Deep.RegionLaw
import Derived.Laws.CopyOwn
import Derived.Maps.AppendAt
import Derived.Test.YtnnmplkgenhofaaGreatPaa
set_option maxRecDepth 100000
set_option maxHeartbeats 12800000
namespace Go.Proofs.YtnnmplkgenhofaaGreat
open Go.RowKit
section
variable {w w' : World} {A : Option Addr} {n : Nat} {xs : List Int}
theorem Ints.nil_addr (h:Ints w none n xs):n=0∧xs=[]:=by
 have h0:n=0:=by
  rcases Nat.eq_zero_or_pos n with h0|h0
  ·exact h0
  ·obtain⟨_,e,_⟩:=h.2.2.2 h0;cases e
 exact⟨h0,List.eq_nil_of_length_eq_zero (by rw[h.1,h0])⟩
theorem Ints.take (h:Ints w A n xs) {k:Nat} (hk:k≤n):Ints w A k (xs.take k):=by
 refine⟨by rw[List.length_take,h.1];omega,by have:=h.le;omega,fun x hx=>h.fit x (List.mem_of_mem_take hx),fun h0=>?_⟩;obtain⟨ad,e,hb,hc⟩:=h.2.2.2 (by omega);refine⟨ad,e,hb,fun j x hj=>hc j x ?_⟩;rw[List.getElem?_take] at hj
 split at hj
 ·exact hj
 ·cases hj
theorem Ints.drop (h:Ints w A n xs) {k c:Nat} (hk:k≤n) (hc:n≤c):Ints w (if c=k then A else A.map (·.add k)) (n-k) (xs.drop k):=by
 refine⟨by rw[List.length_drop,h.1],by have:=h.le;omega,fun x hx=>h.fit x (List.mem_of_mem_drop hx),fun h0=>?_⟩;obtain⟨ad,rfl,hb,hcell⟩:=h.2.2.2 (by omega);rw[if_neg (by omega)];refine⟨ad.add k,rfl,by rw[block_of_add];exact hb,fun j x hj=>?_⟩;rw[add_of_add];exact hcell _ _ (by rw[← hj,List.getElem?_drop])
end
variable {P : Program}
theorem run_append_ints {w:World} {t ty e:TypeId} (ht:P.underlying t=some (.slice e))
  (hinfo:(P.info? e).map (fun i=>(i.zero,i.size,i.bytes))=some (some (.int .i64 0),1,8))
  {base:Nat} {v:Value} {n:Nat} {xs:List Int} (hown:OwnS w base e v n xs) (hb:base≤w.heap.size)
  {A:Option Addr} {m c:Nat} {ys:List Int} (hy:Ints w A m ys) (hn:n+m≤17592186044000) :
  ∃ v' w', (Builtin.append_ #[t,t] ty #[v,.slice A m c]).run P w=.ok v' w' ∧ OwnS w' base e v' (n+m) (xs++ys)∧w.grownBy w' v.ownBlock∧(v'.ownBlock=v.ownBlock∨v'.ownBlock=some w.heap.size):=by
 obtain⟨i,hi,hz0,hz1,hz2⟩:=info_parts hinfo
 have fits:∀ z∈xs++ys,Fits z:=fun z hz=>by
  rcases List.mem_append.1 hz with hz|hz
  ·exact hown.2.1 z hz
  ·exact hy.fit z hz
 cases A with
 | none =>
  obtain⟨rfl,rfl⟩:=hy.nil_addr;refine⟨v,w,?_,by simpa using hown,World.grownBy.refl _ _,.inl rfl⟩;rcases hown.1.2 with ⟨rfl,rfl⟩|⟨g,cap,cur,rfl,_,_,hnc,_⟩
  ·simp[Builtin.append_,run_underlying ht,sizeOf,typeInfo,hi,Builtin.lenOf,Builtin.firstCells]
  ·simp[Builtin.append_,run_underlying ht,sizeOf,typeInfo,hi,Builtin.lenOf,Builtin.firstCells,hnc,storeCells]
 | some ad =>
  have hcells:∀ j u,(ys.map (Value.int .i64))[j]? = some u→w.cell? (ad.add j)=some u:=by
   intro j u hu;rw[List.getElem?_map,Option.map_eq_some_iff] at hu;obtain⟨x,hx,rfl⟩:=hu;exact hy.get hx
  obtain⟨v', w', hr,h2,h3,_,h5⟩:=run_append_own_at (P:=P) w base t ty e i (.int .i64 0) 1 8 ht hi hz0 hz1 hz2 rfl (by decide) v n _ hown.1 ad m c (ys.map (Value.int .i64)) (by simp[hy.len]) hcells (fun u hu=>by
   rw[List.mem_map] at hu;obtain⟨x,_,rfl⟩:=hu;rfl) (by unfold maxLen;omega) (by omega) hb
  exact⟨v', w', hr,⟨by rw[List.map_append];exact h2,fits,by omega⟩,h3,h5⟩
theorem wp_append_ints {w:World} {o:Oper} {a:Act} {K:Act→World→Prop} {Q:Exit→Act→World→Prop} (s y:Operand) (t e:TypeId)
  (ho:o.op=.call { callee:=.builtin .append,args:=#[s,y],argTypes:=#[t,t] }) (ht:P.underlying t=some (.slice e))
  (hinfo:(P.info? e).map (fun i=>(i.zero,i.size,i.bytes))=some (some (.int .i64 0),1,8))
  (base:Nat) (v:Value) (n:Nat) (xs:List Int) (hs:a.eval s=v) (hown:OwnS w base e v n xs) (hb:base≤w.heap.size)
  (A:Option Addr) (m c:Nat) (ys:List Int) (hx:a.eval y=.slice A m c) (hy:Ints w A m ys) (hn:n+m≤17592186044000)
  (h:∀ v' w', OwnS w' base e v' (n+m) (xs++ys)→w.grownBy w' v.ownBlock→(v'.ownBlock=v.ownBlock∨v'.ownBlock=some w.heap.size)→K (a.put o.dst v') w'):o.wp P a w K Q:=by
 obtain⟨v', w', hr,h2,h3,h4⟩:=run_append_ints (P:=P) (ty:=o.type) (c:=c) ht hinfo hown hb hy hn;unfold Oper.wp execOp;simp only[ho,resolve,invoke,builtin,Sem.run_bind,Sem.run_pure,Result.andThen_ok,List.map_toArray,List.map_cons,List.map_nil,hs,hx,hr];exact h v' w' h2 h3 h4
theorem wpList_append_ints {w:World} {ops:Array Oper} {rest:List Oper} {o:Oper} {a:Act} {Q:Exit→Act→World→Prop} (hgd:o.guard=none) (s y:Operand) (t e:TypeId)
  (ho:o.op=.call { callee:=.builtin .append,args:=#[s,y],argTypes:=#[t,t] }) (ht:P.underlying t=some (.slice e))
  (hinfo:(P.info? e).map (fun i=>(i.zero,i.size,i.bytes))=some (some (.int .i64 0),1,8))
  (base:Nat) (v:Value) (n:Nat) (xs:List Int) (hs:a.eval s=v) (hown:OwnS w base e v n xs) (hb:base≤w.heap.size)
  (A:Option Addr) (m c:Nat) (ys:List Int) (hx:a.eval y=.slice A m c) (hy:Ints w A m ys) (hn:n+m≤17592186044000)
  (h:∀ v' w', OwnS w' base e v' (n+m) (xs++ys)→w.grownBy w' v.ownBlock→(v'.ownBlock=v.ownBlock∨v'.ownBlock=some w.heap.size)→wpList P ops Q rest (a.put o.dst v') w'):wpList P ops Q (o::rest) a w :=
 wpList_plain hgd fun _ hK=>wp_append_ints s y t e ho ht hinfo base v n xs hs hown hb A m c ys hx hy hn fun v' w' h2 h3 h4=>hK _ _ (h v' w' h2 h3 h4)
theorem step_append_ints {w:World} {ops:Array Oper} {o:Oper} {a:Act} {K:Act→World→Prop} {Q:Exit→Act→World→Prop} {E:Prop} (hgd:o.guard=none) (s y:Operand) (t e:TypeId)
  (ho:o.op=.call { callee:=.builtin .append,args:=#[s,y],argTypes:=#[t,t] }) (ht:P.underlying t=some (.slice e))
  (hinfo:(P.info? e).map (fun i=>(i.zero,i.size,i.bytes))=some (some (.int .i64 0),1,8))
  (base:Nat) (v:Value) (n:Nat) (xs:List Int) (hs:a.eval s=v) (hown:OwnS w base e v n xs) (hb:base≤w.heap.size)
  (A:Option Addr) (m c:Nat) (ys:List Int) (hx:a.eval y=.slice A m c) (hy:Ints w A m ys) (hn:n+m≤17592186044000)
  (h:∀ v' w', OwnS w' base e v' (n+m) (xs++ys)→w.grownBy w' v.ownBlock→(v'.ownBlock=v.ownBlock∨v'.ownBlock=some w.heap.size)→K (a.put o.dst v') w') :
  if Region.wanted o (yielded ops a.tmps)=true then Oper.wp P o a w K Q else E:=by
 have hw:Region.wanted o (yielded ops a.tmps)=true:=by simp[Region.wanted,hgd]
 rw[if_pos hw];exact wp_append_ints s y t e ho ht hinfo base v n xs hs hown hb A m c ys hx hy hn h
theorem own_empty (w:World) {base:Nat} (e:TypeId) (hb:base≤w.heap.size):OwnS (w.alloc (.cells #[] e)) base e (.slice (some ⟨w.heap.size,0,none⟩) 0 0) 0 [] :=
 ⟨World.ownsRow_lit w #[] 0 hb (Nat.zero_le _) rfl,by simp,by omega⟩
def Hollow (w:World) (base:Nat) (e:TypeId) (v:Value):Prop :=
 v=.slice none 0 0∨∃ g,v=.slice (some ⟨g,0,none⟩) 0 0∧base≤g∧w.heap[g]? = some (.cells #[] e (0,0))
theorem Hollow.nil_ (w:World) (base:Nat) (e:TypeId):Hollow w base e (.slice none 0 0):=.inl rfl
theorem Hollow.below {w w' : World} {base:Nat} {e:TypeId} {v:Value} (h:Hollow w base e v) (hb:Below w.heap.size w w'):Hollow w' base e v:=by
 rcases h with rfl|⟨g,rfl,hg,hh⟩
 ·exact .inl rfl
 ·have:g<w.heap.size:=by
   rcases Nat.lt_or_ge g w.heap.size with hl|hl
   ·exact hl
   ·rw[Array.getElem?_eq_none hl] at hh;cases hh
  exact .inr ⟨g,rfl,hg,(hb.block g this).trans hh⟩
theorem Hollow.own {w:World} {base:Nat} {e:TypeId} {v:Value} (h:Hollow w base e v):OwnS w base e v 0 []:=by
 rcases h with rfl|⟨g,rfl,hg,hh⟩
 ·exact OwnS.nil_ _ _ _
 ·exact⟨⟨rfl,.inr ⟨g,0,#[],rfl,hg,hh,Nat.le_refl _,Nat.zero_le _,rfl,rfl⟩⟩,by simp,by omega⟩
def Lists (w:World) (g n:Nat):Prop :=
 g<w.heap.size∧∀ k,k<n→∃(A:Option Addr) (m c:Nat) (xs:List Int),w.cell? ⟨g,k,none⟩=some (.slice A m c)∧m≤c∧Ints w A m xs
theorem Lists.below {w w' : World} {g n:Nat} (h:Lists w g n) (hb:Below w.heap.size w w'):Lists w' g n :=
 ⟨Nat.lt_of_lt_of_le h.1 hb.size,fun k hk=>by
  obtain⟨A,m,c,xs,hc,hm,hI⟩:=h.2 k hk
  exact⟨A,m,c,xs,(hb.cell (p:=⟨g,k,none⟩) h.1).trans hc,hm,hI.below hb⟩⟩
theorem ints_fresh (w:World) (t:TypeId) (cs:Array Value) (xs:List Int) (hc:cs.toList=xs.map (Value.int .i64)) (hf:∀ x∈xs,Fits x) (n:Nat) (hl:xs.length=n) (hn:n≤1000) :
  Ints (w.alloc (.cells cs t)) (some ⟨w.heap.size,0,none⟩) n xs:=by
 refine⟨hl,by omega,hf,fun _=>⟨_,rfl,by simp,fun j x hj=>?_⟩⟩;rw[Addr.add_lit,Nat.zero_add,World.cell?_alloc_at cs t _ j rfl,← Array.getElem?_toList,hc,List.getElem?_map,hj]
 rfl
theorem wpList_copy_ints {w:World} {ops:Array Oper} {rest:List Oper} {o:Oper} {a:Act} {Q:Exit→Act→World→Prop} (hgd:o.guard=none) (d s:Operand) (dT sT:TypeId)
  (ho:o.op=.call { callee:=.builtin .copy,args:=#[d,s],argTypes:=#[dT,sT] }) (elem:TypeId) (hu:P.underlying dT=some (.slice elem)) (hsz:(P.info? elem).map (·.size)=some 1)
  {base:Nat} {e:TypeId} {g n c:Nat} {zs:List Int} (hO:Own w base e g n c zs) (hd:a.eval d=.slice (some ⟨g,0,none⟩) n c)
  {A:Option Addr} {k:Nat} {xs:List Int} (hs:a.eval s=.slice A n k) (hI:Ints w A n xs)
  (h:∀ w', Own w' base e g n c xs→w.grownBy w' (some g)→wpList P ops Q rest (a.put o.dst (.int .i64 n)) w'):wpList P ops Q (o::rest) a w:=by
 by_cases h0:n=0
 ·subst h0;refine wpList_copy_nothing hgd d s dT sT ho elem hu hsz _ _ 0 c 0 k hd hs rfl ?_;have hx:xs=zs:=by rw[List.eq_nil_of_length_eq_zero hI.len,List.eq_nil_of_length_eq_zero hO.len]
  exact h w (hx ▸ hO) (World.grownBy.refl _ _)
 ·have hO' := hO;rcases hO'.1 with ⟨hl,hh⟩
  rcases hh with ⟨h', _⟩|⟨g', c', cur,h', hb,hg,hnc,hcm,hcs,hct⟩
  ·simp at h'
  ·simp only[Value.slice.injEq,Option.some.injEq,Addr.mk.injEq,and_true,true_and] at h';obtain⟨rfl,rfl⟩:=h';obtain⟨ad,rfl,_,hcell⟩:=hI.2.2.2 (by omega);have hxl:=hI.len;have hcl:(xs.map (Value.int .i64)).length=Nat.min n n:=by rw[List.length_map,hxl];exact(Nat.min_self n).symm
   refine wpList_copy_own hgd d s dT sT ho elem hu hsz g 0 n c ad n k hd hs cur e hg (xs.map (Value.int .i64)) hcl
    (fun j v hv=>by
     rw[List.getElem?_map,Option.map_eq_some_iff] at hv;obtain⟨x,hx,rfl⟩:=hv
     exact hcell j x hx) (by rw[List.length_map];omega) (fun v hv=>by
     rw[List.mem_map] at hv;obtain⟨x,_,rfl⟩:=hv
     rfl) ?_
   have e1:goInt ((xs.map (Value.int .i64)).length:Nat)=Value.int .i64 n:=by rw[List.length_map,hxl];rfl
   rw[e1];refine h _ ⟨⟨by simp[hxl],.inr ⟨g,c,_,rfl,hb,setRow_heap w g cur _ e _ hg,hnc,hcm,?_,?_⟩⟩,hI.fit,hO.2.2⟩ ⟨rfl,rfl,rfl,by simp[World.setRow],fun j _ hj=>setRow_other w g j _ (fun hh=>hj (by rw[hh]))⟩
   ·simp;omega
   ·simp;rw[List.take_append_of_le_length (by simp;omega),List.take_of_length_le (by simp;omega)]
inductive Chunk
 | own (e:TypeId) (v:Value) (n:Nat) (xs:List Int)
 | row (e:TypeId) (k:Nat) (v:Value) (n:Nat) (us:List Value)
 | box (g:Nat) (t:TypeId) (vs:List Value)
 | ints (A:Option Addr) (n:Nat) (xs:List Int)
 | vals (A:Option Addr) (n k:Nat) (us:List Value)
 | tape (g:Nat)
def Chunk.block:Chunk→Option Nat
 | .own _ v _ _=>v.ownBlock
 | .row _ _ v _ _=>v.ownBlock
 | .box g _ _=>some g
 | .ints _ _ _=>none
 | .vals _ _ _ _=>none
 | .tape g=>some g
def ValsK (w:World) (A:Option Addr) (n k:Nat) (us:List Value):Prop :=
 us.length=n*k∧(0<n→∃ ad,A=some ad∧ad.block<w.heap.size∧∀ j u,us[j]? = some u→w.cell? (ad.add j)=some u)
theorem ValsK.grown {w w' : World} {row:Option Nat} {A:Option Addr} {n k:Nat} {us:List Value} (h:ValsK w A n k us) (hg:w.grownBy w' row) (hne:∀ ad,A=some ad→0<n→some ad.block≠row):ValsK w' A n k us :=
 ⟨h.1,fun hn=>by
  obtain⟨ad,e,hl,hc⟩:=h.2 hn
  exact⟨ad,e,Nat.lt_of_lt_of_le hl hg.size,fun j u hu=>hg.cell (hc j u hu) (by rw[block_of_add];exact hne ad e hn)⟩⟩
def Chunk.holds (w:World) (base:Nat):Chunk→Prop
 | .own e v n xs=>OwnS w base e v n xs
 | .row e k v n us=>w.ownsRow base e k v n us
 | .box g t vs=>base≤g∧w.heap[g]? = some (.cells vs.toArray t (0,0))
 | .ints A n xs=>Ints w A n xs∧∀ ad,A=some ad→0<n→ad.block<base
 | .vals A n k us=>ValsK w A n k us∧∀ ad,A=some ad→0<n→ad.block<base
 | .tape g=>Tape w g∧g=base
theorem lt_of_heap {w:World} {g:Nat} {o:Obj} (h:w.heap[g]? = some o):g<w.heap.size:=by
 rcases Nat.lt_or_ge g w.heap.size with h' | h'
 ·exact h'
 ·rw[Array.getElem?_eq_none h'] at h;cases h
theorem Chunk.block_ge {w:World} {base:Nat} {c:Chunk} (h:c.holds w base) {k:Nat} (hk:c.block=some k):base≤k∧k<w.heap.size:=by
 cases c with
 | own e v n xs=>exact h.1.lt k hk
 | row e m v n us=>exact World.ownsRow.lt h k hk
 | box g t vs=>injection hk with hk;subst hk;exact⟨h.1,lt_of_heap h.2⟩
 | ints A n xs=>cases hk
 | vals A n k us=>cases hk
 | tape g=>injection hk with hk;subst hk;exact⟨by have:=h.2;omega,h.1.lt⟩
theorem Chunk.kept {w w' : World} {base:Nat} {c:Chunk} {row:Option Nat} (h:c.holds w base) (hg:w.grownBy w' row) (hb:∀ r,row=some r→base≤r) (hne:∀ k,c.block=some k→row≠some k):c.holds w' base:=by
 cases c with
 | own e v n xs=>exact OwnS.grownNe h hg fun k hk he=>hne k hk he.symm
 | row e m v n us =>
  refine World.ownsRow.kept h hg ?_
  cases hv:v.ownBlock with
  | none=>exact .inl rfl
  | some k=>exact .inr fun he=>hne k hv he.symm
 | box g t vs=>exact⟨h.1,(hg.block g (lt_of_heap h.2) (fun he=>hne g rfl he.symm)).trans h.2⟩
 | ints A n xs=>exact⟨h.1.grown hg fun ad he hn e=>by have:=h.2 ad he hn;have:=hb _ e.symm;omega,h.2⟩
 | vals A n k us=>exact⟨h.1.grown hg fun ad he hn e=>by have:=h.2 ad he hn;have:=hb _ e.symm;omega,h.2⟩
 | tape g =>
  obtain⟨ht,hgb⟩:=h;have hl:=ht.lt;obtain⟨A,n,c,at_,xs,h1,ha,hI,hn⟩:=ht;exact⟨⟨A,n,c,at_,xs,(hg.block g hl (fun he=>hne g rfl he.symm)).trans h1,ha,hI.grown hg (fun ad he hp e=>by have:=hn ad he hp;have:=hb _ e.symm;omega),hn⟩,hgb⟩
def Apart (a b:Chunk):Prop:=∀ k,a.block=some k→b.block≠some k
theorem Apart.symm {a b:Chunk} (h:Apart a b):Apart b a:=fun k hb ha=>h k ha hb
def Sep (w0 w:World) (l:List Chunk):Prop :=
 Below w0.heap.size w0 w∧(∀(i:Nat) (c:Chunk),l[i]? = some c→c.holds w w0.heap.size)∧(∀(i j:Nat) (a b:Chunk),i≠j→l[i]? = some a→l[j]? = some b→Apart a b)
section
variable {w0 w w' : World} {l : List Chunk}
theorem Sep.base (h:Sep w0 w l):Below w0.heap.size w0 w:=h.1
theorem Sep.at_ (h:Sep w0 w l) (i:Nat) {c:Chunk} (hi:l[i]? = some c):c.holds w w0.heap.size:=h.2.1 i c hi
theorem Sep.size (h:Sep w0 w l):w0.heap.size≤w.heap.size:=h.1.size
theorem Sep.nil (w:World):Sep w w []:=⟨Below.refl _ _,(fun i c hi=>by simp at hi),(fun i j a b _ hi=>by simp at hi)⟩
theorem Sep.cons_ {c:Chunk} (hB:Below w0.heap.size w0 w) (hc:c.holds w w0.heap.size) (hl:∀(i:Nat) (d:Chunk),l[i]? = some d→d.holds w w0.heap.size) (ha:∀(i:Nat) (d:Chunk),l[i]? = some d→Apart c d) (hp:∀(i j:Nat) (a b:Chunk),i≠j→l[i]? = some a→l[j]? = some b→Apart a b) :
  Sep w0 w (c::l) :=
 ⟨hB,(fun i d hi=>by
  cases i with
  | zero=>simp at hi;subst hi;exact hc
  | succ i=>exact hl i d (by simpa using hi)),(fun i j a b hij hi hj=>by
  cases i with
  | zero =>
   simp at hi;subst hi
   cases j with
   | zero=>exact absurd rfl hij
   | succ j=>exact ha j b (by simpa using hj)
  | succ i =>
   cases j with
   | zero=>simp at hj;subst hj;exact(ha i a (by simpa using hi)).symm
   | succ j=>exact hp i j a b (by omega) (by simpa using hi) (by simpa using hj))⟩
theorem Sep.old {A:Option Addr} {n:Nat} {xs:List Int} (h:Sep w w l) (hI:Ints w A n xs):Sep w w (.ints A n xs::l) :=
 Sep.cons_ h.1 ⟨hI,fun ad he hn=>by
  obtain⟨ad', e', hb,_⟩:=hI.2.2.2 hn
  rw[e'] at he;injection he with he;subst he;exact hb⟩ h.2.1 (fun i d hi k hk=>by cases hk) h.2.2
theorem Sep.below (h:Sep w0 w l) (hb:Below w.heap.size w w'):Sep w0 w' l :=
 ⟨then_ h.1 hb,(fun i c hi=>Chunk.kept (row:=none) (h.2.1 i c hi) (grown_of_below hb none) (by simp) (by simp)),h.2.2⟩
theorem Sep.drewN (h:Sep w0 w l) (k:Nat):Sep w0 (w.drewN k) l:=h.below (below_drewN (Below.refl _ _) k)
theorem Sep.drew (h:Sep w0 w l):Sep w0 w.drew l:=h.drewN 1
theorem Sep.push {c:Chunk} (h:Sep w0 w l) (hb:Below w.heap.size w w') (hc:c.holds w' w0.heap.size) (hn:∀ k,c.block=some k→w.heap.size≤k):Sep w0 w' (c::l):=by
 have h' := h.below hb;exact Sep.cons_ h'.1 hc h'.2.1 (fun i d hi k hk hd=>by have:=hn k hk;have:=(Chunk.block_ge (h.2.1 i d hi) hd).2;omega) h.2.2
theorem Sep.addOwn {e:TypeId} {v:Value} {n:Nat} {xs:List Int} (h:Sep w0 w l) (hb:Below w.heap.size w w') (ho:OwnS w' w.heap.size e v n xs):Sep w0 w' (.own e v n xs::l) :=
 h.push hb (ho.mono h.size) fun k hk=>(ho.1.lt k hk).1
theorem Sep.addOwn2 {e e' : TypeId} {v v' : Value} {n n' : Nat} {xs xs' : List Int} (h:Sep w0 w l) (hb:Below w.heap.size w w') (ho:OwnS w' w.heap.size e v n xs) (ho' : OwnS w' w.heap.size e' v' n' xs') (hne:e' ≠ e):Sep w0 w' (.own e v n xs::.own e' v' n' xs' :: l):=by
 have h1:=h.addOwn hb ho';refine Sep.cons_ h1.1 (ho.mono h.size) h1.2.1 (fun i d hi k hk hd=>?_) h1.2.2
 cases i with
 | zero =>
  simp at hi;subst hi;obtain⟨cs,hx⟩:=ho.blk hk
  exact ho'.apart hx hne k hd rfl
 | succ i =>
  have:=(ho.1.lt k hk).1;have:=(Chunk.block_ge (h.2.1 i d (by simpa using hi)) hd).2;omega
theorem Sep.allocBox (h:Sep w0 w l) (g:Nat) (t:TypeId) (vs:List Value) (hg:w.heap.size=g):Sep w0 (w.alloc (.cells vs.toArray t)) (.box g t vs::l):=by
 subst hg;exact h.push ((Below.refl _ _).alloc (Nat.le_refl _) _) ⟨h.size,heap_alloc_new w _⟩ fun k hk=>by injection hk with hk;omega
theorem Sep.sub {l' : List Chunk} (h:Sep w0 w l) (f:List Nat) (hf:f.map (fun i:Nat=>l[i]?)=l'.map some) (hd:f.Nodup):Sep w0 w l' := by
 have key:∀(i:Nat) (c:Chunk),l'[i]? = some c→∃ k:Nat,f[i]? = some k∧l[k]? = some c:=by
  intro i c hi;have:(f.map (fun i:Nat=>l[i]?))[i]? = some (some c):=by rw[hf,List.getElem?_map,hi];rfl
  rw[List.getElem?_map,Option.map_eq_some_iff] at this;exact this
 refine⟨h.1,fun i c hi=>?_,fun i j a b hij hi hj=>?_⟩
 ·obtain⟨k,_,hk⟩:=key i c hi;exact h.2.1 k c hk
 ·obtain⟨k,hfk,hk⟩:=key i a hi;obtain⟨m,hfm,hm⟩:=key j b hj;refine h.2.2 k m a b (fun e=>?_) hk hm;subst e;exact hij ((List.getElem?_inj (List.getElem?_eq_some_iff.1 hfk).1 hd).1 (hfk.trans hfm.symm))
theorem Sep.change {c d:Chunk} (h:Sep w0 w l) (i:Nat) (hi:l[i]? = some c) (hg:w.grownBy w' c.block) (hd:d.holds w' w0.heap.size) (hb:∀ k,d.block=some k→c.block=some k∨w.heap.size≤k):Sep w0 w' (l.set i d):=by
 have hc:=h.2.1 i c hi;have hil:i<l.length:=(List.getElem?_eq_some_iff.1 hi).1
 have other:∀(j:Nat) (a:Chunk),j≠i→l[j]? = some a→Apart d a:=fun j a hj ha k hk hak=>by
  rcases hb k hk with e|e
  ·exact h.2.2 i j c a (Ne.symm hj) hi ha k e hak
  ·have:=(Chunk.block_ge (h.2.1 j a ha) hak).2;omega
 refine⟨h.1.grown hg h.size fun k hk=>(Chunk.block_ge hc hk).1,fun j a hj=>?_,fun j m a b hjm hj hm=>?_⟩
 ·rw[List.getElem?_set] at hj;by_cases e:i=j
  ·subst e;rw[if_pos rfl,if_pos hil] at hj;injection hj with hj;subst hj;exact hd
  ·rw[if_neg e] at hj;exact Chunk.kept (h.2.1 j a hj) hg (fun r hr=>(Chunk.block_ge hc hr).1) fun k hk hr=>h.2.2 i j c a e hi hj k hr hk
 ·rw[List.getElem?_set] at hj hm;by_cases e:i=j
  ·subst e;rw[if_pos rfl,if_pos hil] at hj;injection hj with hj;subst hj
   rw[if_neg hjm] at hm;exact other m b (Ne.symm hjm) hm
  ·rw[if_neg e] at hj;by_cases e' : i=m
   ·subst e';rw[if_pos rfl,if_pos hil] at hm;injection hm with hm;subst hm
    exact(other j a (Ne.symm e) hj).symm
   ·rw[if_neg e'] at hm;exact h.2.2 j m a b hjm hj hm
theorem Sep.store {e:TypeId} {g n c:Nat} {xs:List Int} (h:Sep w0 w l) (i j:Nat) {x:Int} (hx:Fits x) (hi:l[i]? = some (.own e (.slice (some ⟨g,0,none⟩) n c) n xs)) :
  Sep w0 (w.setCell ⟨g,j,none⟩ (.int .i64 x)) (l.set i (.own e (.slice (some ⟨g,0,none⟩) n c) n (xs.set j x))):=by
 have ho:Own w w0.heap.size e g n c xs:=h.2.1 i _ hi;exact h.change i hi (grown_setCell w g j _) (ho.store j hx) fun k hk=>.inl hk
theorem Sep.setBox {g:Nat} {t:TypeId} {vs:List Value} (h:Sep w0 w l) (i j:Nat) (v:Value) (hi:l[i]? = some (.box g t vs)) :
  Sep w0 (w.setCell ⟨g,j,none⟩ v) (l.set i (.box g t (vs.set j v))):=by
 obtain⟨hg,hh⟩:=h.2.1 i _ hi;refine h.change i hi (grown_setCell w g j _) ⟨hg,?_⟩ fun k hk=>.inl hk
 have:=heap_setCell_same w g j vs.toArray t v hh;simpa using this
theorem Sep.grow {e e' : TypeId} {v v' : Value} {n n' : Nat} {xs xs' : List Int} (h:Sep w0 w l) (i:Nat) (hi:l[i]? = some (.own e v n xs)) (hg:w.grownBy w' v.ownBlock) (ho:OwnS w' w0.heap.size e' v' n' xs') (hv:v'.ownBlock=v.ownBlock∨v'.ownBlock=some w.heap.size) :
  Sep w0 w' (l.set i (.own e' v' n' xs')) :=
 h.change i hi hg ho fun k hk=>by
  have hk:v'.ownBlock=some k:=hk;rcases hv with e|e
  ·exact .inl (e.symm.trans hk)
  ·rw[e] at hk;injection hk with hk;exact .inr (by omega)
theorem set_eq {α : Type} {l:List α} {i:Nat} {x : α} (h:l[i]? = some x):l.set i x=l:=by
 apply List.ext_getElem?;intro j;rw[List.getElem?_set];by_cases hj:i=j
 ·subst hj;rw[if_pos rfl,h,if_pos (List.getElem?_eq_some_iff.1 h).1]
 ·rw[if_neg hj]
theorem Sep.tape (h:Sep w0 w l) (i:Nat) {g:Nat} (hi:l[i]? = some (.tape g)):Tape w g:=(h.2.1 i _ hi).1
theorem Sep.pushNew {c:Chunk} (h:Sep w0 w l) (h' : Sep w0 w' l) (hc:c.holds w' w0.heap.size) (hn:∀ k,c.block=some k→w.heap.size≤k):Sep w0 w' (c::l) :=
 Sep.cons_ h'.1 hc h'.2.1 (fun i d hi k hk hd=>by have:=hn k hk;have:=(Chunk.block_ge (h.2.1 i d hi) hd).2;omega) h.2.2
theorem Sep.cell (h:Sep w0 w l) (i j:Nat) {g:Nat} {t:TypeId} {vs:List Value} {v:Value} (hi:l[i]? = some (.box g t vs)) (hj:vs[j]? = some v):w.cell? ⟨g,j,none⟩=some v :=
 cell_of_row _ _ j _ _ _ (h.2.1 i _ hi).2 |>.trans (by simpa using hj)
theorem Sep.cells4 (h:Sep w0 w l) (i:Nat) {g:Nat} {t:TypeId} {v0 v1 v2 v3:Value} (hi:l[i]? = some (.box g t [v0,v1,v2,v3])):w.cell? ⟨g,0,none⟩=some v0∧w.cell? ⟨g,1,none⟩=some v1∧w.cell? ⟨g,2,none⟩=some v2∧w.cell? ⟨g,3,none⟩=some v3 :=
 ⟨h.cell i 0 hi rfl,h.cell i 1 hi rfl,h.cell i 2 hi rfl,h.cell i 3 hi rfl⟩
theorem Sep.cells7 (h:Sep w0 w l) (i:Nat) {g:Nat} {t:TypeId} {v0 v1 v2 v3 v4 v5 v6:Value} (hi:l[i]? = some (.box g t [v0,v1,v2,v3,v4,v5,v6])):w.cell? ⟨g,0,none⟩=some v0∧w.cell? ⟨g,1,none⟩=some v1∧w.cell? ⟨g,2,none⟩=some v2∧w.cell? ⟨g,3,none⟩=some v3∧w.cell? ⟨g,4,none⟩=some v4∧w.cell? ⟨g,5,none⟩=some v5∧w.cell? ⟨g,6,none⟩=some v6 :=
 ⟨h.cell i 0 hi rfl,h.cell i 1 hi rfl,h.cell i 2 hi rfl,h.cell i 3 hi rfl,h.cell i 4 hi rfl,h.cell i 5 hi rfl,h.cell i 6 hi rfl⟩
theorem Sep.frozenBox (h:Sep w0 w l) (i j:Nat) {g:Nat} {t:TypeId} {vs:List Value} (hi:l[i]? = some (.box g t vs)):w.frozen? ⟨g,j,none⟩=false :=
 frozen_of_row _ _ j _ _ (h.2.1 i _ hi).2
theorem Sep.z2 (h:Sep w0 w l) (i:Nat) {g:Nat} {t:TypeId} {v0 v1:Value} {vs:List Value} (hi:l[i]? = some (.box g t (v0::v1::vs))):w.cell? ⟨g,0,none⟩=some v0∧w.cell? ⟨g,1,none⟩=some v1:=⟨h.cell i 0 hi rfl,h.cell i 1 hi rfl⟩
theorem Sep.z3 (h:Sep w0 w l) (i:Nat) {g:Nat} {t:TypeId} {v0 v1 v2:Value} {vs:List Value} (hi:l[i]? = some (.box g t (v0::v1::v2::vs))):w.cell? ⟨g,0,none⟩=some v0∧w.cell? ⟨g,1,none⟩=some v1∧w.cell? ⟨g,2,none⟩=some v2:=⟨h.cell i 0 hi rfl,h.cell i 1 hi rfl,h.cell i 2 hi rfl⟩
theorem Sep.z4 (h:Sep w0 w l) (i:Nat) {g:Nat} {t:TypeId} {v0 v1 v2 v3:Value} {vs:List Value} (hi:l[i]? = some (.box g t (v0::v1::v2::v3::vs))):w.cell? ⟨g,0,none⟩=some v0∧w.cell? ⟨g,1,none⟩=some v1∧w.cell? ⟨g,2,none⟩=some v2∧w.cell? ⟨g,3,none⟩=some v3:=⟨h.cell i 0 hi rfl,h.cell i 1 hi rfl,h.cell i 2 hi rfl,h.cell i 3 hi rfl⟩
theorem Sep.z5 (h:Sep w0 w l) (i:Nat) {g:Nat} {t:TypeId} {v0 v1 v2 v3 v4:Value} {vs:List Value} (hi:l[i]? = some (.box g t (v0::v1::v2::v3::v4::vs))):w.cell? ⟨g,0,none⟩=some v0∧w.cell? ⟨g,1,none⟩=some v1∧w.cell? ⟨g,2,none⟩=some v2∧w.cell? ⟨g,3,none⟩=some v3∧w.cell? ⟨g,4,none⟩=some v4:=⟨h.cell i 0 hi rfl,h.cell i 1 hi rfl,h.cell i 2 hi rfl,h.cell i 3 hi rfl,h.cell i 4 hi rfl⟩
theorem Sep.f2 (h:Sep w0 w l) (i:Nat) {g:Nat} {t:TypeId} {vs:List Value} (hi:l[i]? = some (.box g t vs)):w.frozen? ⟨g,0,none⟩=false∧w.frozen? ⟨g,1,none⟩=false:=⟨h.frozenBox i 0 hi,h.frozenBox i 1 hi⟩
theorem Sep.f4 (h:Sep w0 w l) (i:Nat) {g:Nat} {t:TypeId} {vs:List Value} (hi:l[i]? = some (.box g t vs)):w.frozen? ⟨g,0,none⟩=false∧w.frozen? ⟨g,1,none⟩=false∧w.frozen? ⟨g,2,none⟩=false∧w.frozen? ⟨g,3,none⟩=false:=⟨h.frozenBox i 0 hi,h.frozenBox i 1 hi,h.frozenBox i 2 hi,h.frozenBox i 3 hi⟩
theorem Sep.f7 (h:Sep w0 w l) (i:Nat) {g:Nat} {t:TypeId} {vs:List Value} (hi:l[i]? = some (.box g t vs)):w.frozen? ⟨g,0,none⟩=false∧w.frozen? ⟨g,1,none⟩=false∧w.frozen? ⟨g,2,none⟩=false∧w.frozen? ⟨g,3,none⟩=false∧w.frozen? ⟨g,4,none⟩=false∧w.frozen? ⟨g,5,none⟩=false∧w.frozen? ⟨g,6,none⟩=false:=⟨h.frozenBox i 0 hi,h.frozenBox i 1 hi,h.frozenBox i 2 hi,h.frozenBox i 3 hi,h.frozenBox i 4 hi,h.frozenBox i 5 hi,h.frozenBox i 6 hi⟩
abbrev oN:Chunk:=.own 3 (.slice none 0 0) 0 []
theorem Sep.heap (h:Sep w0 w l) (i:Nat) {g:Nat} {t:TypeId} {vs:List Value} (hi:l[i]? = some (.box g t vs)):w.heap[g]? = some (.cells vs.toArray t (0,0)):=(h.2.1 i _ hi).2
theorem Sep.ownS (h:Sep w0 w l) (i:Nat) {e:TypeId} {v:Value} {n:Nat} {xs:List Int} (hi:l[i]? = some (.own e v n xs)):OwnS w w0.heap.size e v n xs:=h.2.1 i _ hi
theorem Sep.own (h:Sep w0 w l) (i:Nat) {e:TypeId} {g n c:Nat} {xs:List Int} (hi:l[i]? = some (.own e (.slice (some ⟨g,0,none⟩) n c) n xs)):Own w w0.heap.size e g n c xs:=h.2.1 i _ hi
theorem Sep.oldInts (h:Sep w0 w l) (i:Nat) {A:Option Addr} {n:Nat} {xs:List Int} (hi:l[i]? = some (.ints A n xs)):Ints w A n xs:=(h.2.1 i _ hi).1
theorem Sep.ownInts (h:Sep w0 w l) (i:Nat) {e:TypeId} {A:Option Addr} {n m c:Nat} {xs:List Int} (hi:l[i]? = some (.own e (.slice A m c) n xs)):m=n∧m≤c∧Ints w A n xs:=by
 obtain⟨A', c', hv,hc,hI,_⟩:=OwnS.form (h.2.1 i _ hi);injection hv with h1 h2 h3
 subst h1;subst h2;subst h3;exact⟨rfl,hc,hI⟩
theorem Sep.blockLt (h:Sep w0 w l) (i:Nat) {g:Nat} {t:TypeId} {vs:List Value} (hi:l[i]? = some (.box g t vs)):w0.heap.size≤g∧g<w.heap.size:=⟨(h.2.1 i _ hi).1,lt_of_heap (h.2.1 i _ hi).2⟩
theorem Sep.ne (h:Sep w0 w l) (i j:Nat) {a b:Chunk} {k m:Nat} (hi:l[i]? = some a) (hj:l[j]? = some b) (ha:a.block=some k) (hb:b.block=some m) (hij:i≠j):k≠m:=fun e=>by
 subst e;exact h.2.2 i j a b hij hi hj k ha hb
end
end Go.Proofs.YtnnmplkgenhofaaGreat
