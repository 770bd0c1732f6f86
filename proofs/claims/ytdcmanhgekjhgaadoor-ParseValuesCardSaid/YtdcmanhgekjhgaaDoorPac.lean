import Derived.Laws.Cover4
import Derived.Test.YtdcmanhgekjhgaaDoorRows
import Derived.Test.YtdcmanhgekjhgaaDoorPab
set_option maxRecDepth 100000
set_option maxHeartbeats 12800000
namespace Go.Proofs.YtdcmanhgekjhgaaDoor
open Go.RowKit Go.Proofs.Tryd
variable {k pos:Nat} {nm:List Int} {w:World} {x:Int}
def b1z (x:Int):Prop := -2147483648≤x∧x≤2147483647
def a1n (w:World) (A:Option Addr) (n:Nat) (xs:List Int):Prop :=
 xs.length=n∧n≤9223372036854775807∧(∀ x∈xs,b1z x) ∧
 (0<n→∃ ad,A=some ad∧ad.block<w.heap.size∧∀ j x,xs[j]?=some x→w.cell? (ad.add j)=some (.int .i32 x))
section
variable {w w' : World} {A : Option Addr} {n : Nat} {xs : List Int}
theorem a1n.len (h:a1n w A n xs):xs.length=n:=h.1
theorem a1n.le (h:a1n w A n xs):n≤9223372036854775807:=h.2.1
theorem a1n.fit (h:a1n w A n xs):∀ x∈xs,b1z x:=h.2.2.1
theorem a1n.nil_ (w:World)(A:Option Addr):a1n w A 0 []:=⟨rfl,by omega,by simp,fun h=>absurd h (by omega)⟩
theorem a1n.at_ (h:a1n w A n xs)(hk:k<n):
  ∃ ad x,A=some ad∧ad.block<w.heap.size∧xs[k]?=some x∧w.cell? (ad.add k)=some (.int .i32 x)∧b1z x:=by
 obtain⟨ad,e,hb,hc⟩:=h.2.2.2 (by omega);have hl:k<xs.length:=by have:=h.1;omega
 exact⟨ad,xs[k],e,hb,List.getElem?_eq_getElem hl,hc k _ (List.getElem?_eq_getElem hl),h.2.2.1 _ (List.getElem_mem hl)⟩
theorem a1n.get {ad:Addr}(h:a1n w (some ad) n xs)(hx:xs[k]?=some x):w.cell? (ad.add k)=some (.int .i32 x):=by
 have hk:k<n:=by rw[←h.1];exact(lL hx)
 obtain⟨ad', e,_,hc⟩:=h.2.2.2 (by omega);injection e with e
 subst e;exact hc k x hx
theorem a1n.keep (h:a1n w A n xs)(hs:w.heap.size≤w'.heap.size)(hk:∀ p:Addr,p.block<w.heap.size→w'.cell? p=w.cell? p):a1n w' A n xs :=
 ⟨h.1,h.2.1,h.2.2.1,fun hn=>by
  obtain⟨ad,e,hb,hc⟩:=h.2.2.2 hn
  exact⟨ad,e,by omega,fun j u hu=>(hk _ (by rw[a0l];exact hb)).trans (hc j u hu)⟩⟩
theorem a1n.grown (h:a1n w A n xs){row:Option Nat}(hg:w.grownBy w' row)(hne:∀ ad,A=some ad→0<n→some ad.block≠row):a1n w' A n xs :=
 ⟨h.1,h.2.1,h.2.2.1,fun hn=>by
  obtain⟨ad,e,hb,hc⟩:=h.2.2.2 hn
  exact⟨ad,e,by have:=hg.size;omega,fun j u hu=>hg.cell (hc j u hu) (by rw[a0l];exact hne ad e hn)⟩⟩
theorem a1n.below (h:a1n w A n xs)(hb:Below w.heap.size w w'):a1n w' A n xs:=h.keep hb.size fun _ hp=>hb.cell hp
theorem a1n.drew (h:a1n w A n xs):a1n w.drew A n xs:=h
theorem a1n.drewN (h:a1n w A n xs)(k:Nat):a1n (w.drewN k) A n xs:=h
theorem a1n.alloc (h:a1n w A n xs)(o:Obj):a1n (w.alloc o) A n xs:=h.keep (by simp) fun p hp=>World.cell?_alloc_lt w o p hp
end
def OwnR (w:World) (base:Nat) (e:TypeId) (g n c:Nat) (xs:List Int):Prop :=
 w.ownsRow base e 1 (.slice (some ⟨g,0,none⟩) n c) n (xs.map (Value.int .i32))∧(∀ x∈xs,b1z x)∧n≤9223372036854775807
section
variable {w w' : World} {base g n c : Nat} {e : TypeId} {xs : List Int}
theorem OwnR.len (h:OwnR w base e g n c xs):xs.length=n:=by simpa using h.1.1
theorem OwnR.base_ (h:OwnR w base e g n c xs):base≤g∧g<w.heap.size:=h.1.lt g rfl
theorem OwnR.cap (h:OwnR w base e g n c xs):n≤c:=by
 rcases h.1.2 with ⟨h', _⟩|⟨g', c', cur,h', _,_,hnc,_⟩
 ·simp at h'
 ·simp only[Value.slice.injEq,Option.some.injEq,Addr.mk.injEq,and_true,true_and] at h';obtain⟨rfl,rfl⟩:=h';exact hnc
theorem OwnR.cell (h:OwnR w base e g n c xs){j:Nat}(hx:xs[j]?=some x):w.cell? ⟨g,j,none⟩=some (.int .i32 x):=by
 have hj:j<n:=by rw[←h.len];exact(lL hx)
 rw[h.1.cellAt j (by omega),List.getElem?_map,hx];rfl
theorem OwnR.blk (h:OwnR w base e g n c xs):∃ cs,w.heap[g]?=some (.cells cs e (0,0)):=by
 rcases h.1.2 with ⟨h', _⟩|⟨g', c', cur,h', _,hh,_⟩
 ·simp at h'
 ·simp only[Value.slice.injEq,Option.some.injEq,Addr.mk.injEq,and_true,true_and] at h';obtain⟨rfl,rfl⟩:=h';exact⟨cur,hh⟩
theorem OwnR.frozen (h:OwnR w base e g n c xs)(j:Nat):w.frozen? ⟨g,j,none⟩=false:=h.1.frozenAt j
theorem OwnR.ints (h:OwnR w base e g n c xs):a1n w (some ⟨g,0,none⟩) n xs :=
 ⟨h.len,h.2.2,h.2.1,fun _=>⟨_,rfl,h.base_.2,fun _ _ hx=>by rw[Addr.add_lit,Nat.zero_add];exact h.cell hx⟩⟩
theorem OwnR.below (h:OwnR w base e g n c xs)(hb:Below w.heap.size w w'):OwnR w' base e g n c xs:=by
 refine⟨h.1.kept (row:=none) ⟨hb.os,hb.tape,hb.output,hb.size,fun k hk _=>hb.block k hk⟩ (.inr (by simp[Value.ownBlock])),h.2.1,h.2.2⟩
theorem OwnR.drewN (h:OwnR w base e g n c xs)(k:Nat):OwnR (w.drewN k) base e g n c xs:=h
theorem OwnR.store (h:OwnR w base e g n c xs)(j:Nat){u:Int}(hu:b1z u):OwnR (w.setCell ⟨g,j,none⟩ (.int .i32 u)) base e g n c (xs.set j u):=by
 refine⟨?_,?_,h.2.2⟩
 ·have:=(h.1.stored j (.int .i32 u)).1;rwa [←List.map_set] at this
 ·intro x hx;rcases List.mem_or_eq_of_mem_set hx with hx|rfl
  ·exact h.2.1 x hx
  ·exact hu
end
def a1d (w:World) (base:Nat) (e:TypeId) (v:Value) (n:Nat) (xs:List Int):Prop :=
 w.ownsRow base e 1 v n (xs.map (Value.int .i32))∧(∀ x∈xs,b1z x)∧n≤9223372036854775807
section
variable {w w' : World} {base n : Nat} {e : TypeId} {v : Value} {xs : List Int}
theorem a1d.nil_ (w:World)(base:Nat)(e:TypeId):a1d w base e (.slice none 0 0) 0 []:=⟨World.ownsRow_nil w base e 1,by simp,by omega⟩
theorem a1d.len (h:a1d w base e v n xs):xs.length=n:=by simpa using h.1.1
theorem a1d.grown (h:a1d w base e v n xs){g:Nat}(hg:w.grownBy w' (some g))(hb:g<base):a1d w' base e v n xs :=
 ⟨h.1.kept hg (by
  cases hv:v.ownBlock with
  | none=>exact .inl rfl
  | some k=>right;have:=(h.1.lt k hv).1;intro hk;injection hk with hk;omega),h.2.1,h.2.2⟩
theorem a1d.below (h:a1d w base e v n xs)(hb:Below w.heap.size w w'):a1d w' base e v n xs :=
 ⟨h.1.kept (row:=none) (a3r hb none) (by cases v.ownBlock with|none=>exact .inl rfl|some k=>exact .inr (by simp)),h.2.1,h.2.2⟩
theorem a1d.alloc (h:a1d w base e v n xs)(o:Obj):a1d (w.alloc o) base e v n xs:=⟨h.1.alloc o,h.2.1,h.2.2⟩
theorem a1d.drew (h:a1d w base e v n xs):a1d w.drew base e v n xs:=h
theorem a1d.drewN (h:a1d w base e v n xs)(k:Nat):a1d (w.drewN k) base e v n xs:=h
theorem a1d.form (h:a1d w base e v n xs):∃ A c,v=.slice A n c∧n≤c∧a1n w A n xs∧∀ ad,A=some ad→base≤ad.block:=by
 rcases h.1.2 with ⟨rfl,rfl⟩|⟨g,c,cur,rfl,hb,hh,hnc,_⟩
 ·have:xs=[]:=List.eq_nil_of_length_eq_zero h.len;subst this;exact⟨none,0,rfl,by omega,a1n.nil_ _ _,by simp⟩
 ·have hO:OwnR w base e g n c xs:=h;exact⟨_,c,rfl,hnc,hO.ints,fun ad he=>by injection he with he;subst he;exact hb⟩
theorem a1d.grownNe (h:a1d w base e v n xs){row:Option Nat}(hg:w.grownBy w' row)(hb:∀ k,v.ownBlock=some k→some k≠row):a1d w' base e v n xs :=
 ⟨h.1.kept hg (by
  cases hv:v.ownBlock with
  | none=>exact .inl rfl
  | some k=>exact .inr (hb k hv)),h.2.1,h.2.2⟩
theorem a1d.blk (h:a1d w base e v n xs)(hk:v.ownBlock=some k):∃ cs,w.heap[k]?=some (.cells cs e (0,0)):=by
 rcases h.1.2 with ⟨rfl,rfl⟩|⟨g,c,cur,rfl,_,hh,_⟩
 ·simp[Value.ownBlock] at hk
 ·simp only[Value.ownBlock,Option.some.injEq] at hk;subst hk;exact⟨cur,hh⟩
theorem a1d.apart (h:a1d w base e v n xs){cs:Array Value}{t:TypeId}{f:Nat × Nat}(hk:w.heap[k]?=some (.cells cs t f))(ht:e≠t):∀ j,v.ownBlock=some j→some j≠some k:=by
 intro j hj he;obtain⟨cs', hb⟩:=h.blk hj;exact a5w hb hk ht (by injection he)
theorem a1d.mono {base' : Nat}(h:a1d w base e v n xs)(hb:base' ≤ base):a1d w base' e v n xs:=by
 refine⟨⟨h.1.1,?_⟩,h.2⟩;rcases h.1.2 with hh|⟨g,cap,cur,h1,h2,h3⟩
 ·exact .inl hh
 ·exact .inr ⟨g,cap,cur,h1,Nat.le_trans hb h2,h3⟩
theorem a1d.own (h:a1d w base e v n xs)(hn:0<n):∃ g c,v=.slice (some ⟨g,0,none⟩) n c∧OwnR w base e g n c xs:=by
 rcases h.1.2 with ⟨rfl,rfl⟩|⟨g,c,cur,rfl,hb,hh,hnc,_⟩
 ·omega
 ·exact⟨g,c,rfl,h⟩
theorem a1d.block (h:a1d w base e v n xs)(k:Nat)(hk:v.ownBlock=some k):base≤k:=(h.1.lt k hk).1
end
theorem a6y {P:Program}{ops:Array Oper}{rest:List Oper}{o:Oper}{a:Act}{Q:Exit→Act→World→Prop}(hgd:o.guard=none)(s y:Operand)(t e:TypeId)
  (ho:o.op=.call { callee:=.builtin .append,args:=#[s,y],argTypes:=#[t,t] })(ht:P.underlying t=some (.slice e))
  (hinfo:(P.info? e).map (fun i=>(i.zero,i.size,i.bytes))=some (some (.int .i32 0),1,4))
  (base:Nat)(v:Value)(n:Nat)(xs:List Int)(hs:a.eval s=v)(hown:a1d w base e v n xs)(hb:base≤w.heap.size)(x:Int)(hf:b1z x)(c:Nat)(hy:a.eval y=.slice (some ⟨w.heap.size,0,none⟩) 1 c)
  (hn:n≤17592186044000)
  (h:∀ v' w', a1d w' base e v' (n+1) (xs++[x])→Below base w w' → w.grownBy w' v.ownBlock→wpList P ops Q rest (a.put o.dst v') w'):
  wpList P ops Q (o::rest) a (w.alloc (.cells #[.int .i32 x] e)):=by
 obtain⟨i,hi,hz0,hz1,hz2⟩:=info_parts hinfo;refine wpList_append_own _ hgd s y t ho base e i (.int .i32 0) 1 4 ht hi hz0 hz1 hz2 rfl (by decide) v n _ hs (hown.alloc _).1 ⟨w.heap.size,0,none⟩ 1 c [.int .i32 x] hy rfl ?_ ?_ (by unfold maxLen;omega) (by omega) (by simp;omega) ?_
 ·intro j u hj
  cases j with
  | zero=>simp at hj;subst hj;rw[Addr.add_lit,World.cell?_alloc_at _ _ _ _ rfl];rfl
  | succ j=>simp at hj
 ·intro u hu;simp at hu;subst hu;rfl
 ·intro v' w' ho' hg' _;have hO:a1d w' base e v' (n+1) (xs++[x]):=⟨by simpa using ho', by intro z hz;simp at hz;rcases hz with hz|rfl;exact hown.2.1 z hz;exact hf,by omega⟩;have hgr:w.grownBy w' v.ownBlock:=a9i (World.grownBy_alloc w _ _) hg';exact h v' w' hO ((Below.refl _ _).grown hgr hb (fun k hk=>hown.block k hk)) hgr
def a5v (w:World) (k:Nat) (s:ByteArray) (pos:Nat):World:={ w with heap:=w.heap.setIfInBounds k (.stringIter s pos) }
section
variable {P : Program} {w : World} {s : ByteArray} {k pos : Nat}
theorem b0o (h:w.heap[k]?=some (.stringIter s pos))(hp:pos<s.size)(ty:TypeId):
  (Instr.next (.pointer (some ⟨k,0,none⟩)) true ty).run P w=.ok (.tuple #[.bool true,.int .i64 pos,.int .i32 (Utf8.decode s pos).1]) (a5v w k s (pos+(Utf8.decode s pos).2)):=by
 simp only[Instr.next,getObj,setObj,Sem.run_bind,Sem.run,h,Result.andThen,hp,if_true];simp[goInt,a5v]
theorem b2n (h:w.heap[k]?=some (.stringIter s pos))(hp:¬ pos<s.size)(ty:TypeId):
  (Instr.next (.pointer (some ⟨k,0,none⟩)) true ty).run P w=.ok (.tuple #[.bool false]) w:=by
 simp[Instr.next,getObj,Sem.run,h,hp]
theorem a7w:w.grownBy (a5v w k s pos) (some k) :=
 ⟨rfl,rfl,rfl,by simp[a5v],fun j _ hj=>by
  have:k≠j:=fun e=>hj (by rw[e])
  simp[a5v,this]⟩
theorem a9k (hk:k<w.heap.size):(a5v w k s pos).heap[k]?=some (.stringIter s pos):=by
 simp[a5v,hk]
end
def a0r (s:ByteArray):Nat→Nat→List Int
 | 0,_=>[]
 | b+1,pos=>if pos<s.size then((Utf8.decode s pos).1:Int)::a0r s b (pos+(Utf8.decode s pos).2) else []
def a0a (s:ByteArray):List Int:=a0r s s.size 0
theorem a3i (s:ByteArray)(pos:Nat)(h:pos<s.size):1≤(Utf8.decode s pos).2:=by
 by_cases ha:(s[pos]'h).toNat<128
 ·rw[decode_ascii s pos h ha];exact Nat.le_refl _
 ·exact(decode_high s pos h (by omega)).2
theorem a3t (s:ByteArray):∀(b c pos:Nat),s.size≤pos+b→s.size≤pos+c→a0r s b pos=a0r s c pos
 | 0,c,pos,hb,_=>by
  cases c with
  | zero=>rfl
  | succ c=>rw[a0r,a0r,iN (by omega)]
 | b+1,c,pos,hb,hc=>by
  cases c with
  | zero=>rw[show a0r s (b+1) pos=if pos<s.size then((Utf8.decode s pos).1:Int)::a0r s b (pos+(Utf8.decode s pos).2) else [] from rfl,iN (by omega)];rfl
  | succ c =>
   rw[a0r,a0r];by_cases hp:pos<s.size
   ·have:=a3i s pos hp;rw[iP hp,iP hp,a3t s b c _ (by omega) (by omega)]
   ·rw[iN hp,iN hp]
theorem a8f (s:ByteArray)(h:pos<s.size):a0r s s.size pos=((Utf8.decode s pos).1:Int)::a0r s s.size (pos+(Utf8.decode s pos).2):=by
 have h1:a0r s s.size pos=a0r s (s.size+1) pos:=a3t s _ _ _ (by omega) (by omega);rw[h1,a0r,iP h]
theorem b6h (s:ByteArray)(h:¬ pos<s.size):a0r s s.size pos=[]:=by
 have h1:a0r s s.size pos=a0r s 0 pos:=a3t s _ _ _ (by omega) (by omega);rw[h1];rfl
theorem c2i (s:ByteArray)(pos:Nat):b1z ((Utf8.decode s pos).1:Int):=⟨by omega,by have:=decode_le s pos;omega⟩
theorem a5p (s:ByteArray):∀(b pos:Nat),(a0r s b pos).length≤b
 | 0,_=>Nat.le_refl _
 | b+1,pos=>by
  rw[a0r]
  split
  ·have:=a5p s b (pos+(Utf8.decode s pos).2);simp;omega
  ·simp
theorem b1e (s:ByteArray):(a0a s).length≤s.size:=a5p s _ _
theorem b8k {s:ByteArray}(h:w.heap[k]?=some (.stringIter s pos)):w.iterPos k=pos:=by simp[World.iterPos,h]
theorem Tryd.infoInt9:(prog.info? 3).map (fun i=>(i.zero,i.size,i.bytes))=some (some (.int .i64 0),1,8):=by kernel_rfl
def a4k (nm:List Int) (x:Int):ByteArray:=if 0≤x∧x<nm.length then Utf8.encode (nm.getD x.toNat 0) else⟨#[46]⟩
def a2e (nm spec:List Int):ByteArray:=spec.foldl (fun o x=>o++a4k nm x) ByteArray.empty
theorem c5l (h:¬(0≤x∧x<nm.length)):a4k nm x=⟨#[46]⟩:=by rw[a4k,iN h]
theorem c2p {x:Nat}{y:Int}(h:nm[x]?=some y):a4k nm (x:Int)=Utf8.encode y:=by
 rw[a4k,iP ⟨by omega,by have:=(lL h);omega⟩,Int.toNat_natCast,gD,h];rfl
theorem b9p {l:List Int}(h:l[k]?=some x):a2e nm (l.take (k+1))=a2e nm (l.take k)++a4k nm x:=by
 rw[a2e,a2e,List.take_add_one,h,List.foldl_append];rfl
theorem b9k (nm:List Int)(x:Int):(a4k nm x).size≤4:=by
 rw[a4k]
 split
 ·exact encode_size_le _
 ·exact(by decide:(⟨#[46]⟩:ByteArray).size≤4)
theorem b1j (nm:List Int):∀(l:List Int) (o:ByteArray),(l.foldl (fun o x=>o++a4k nm x) o).size≤o.size+4*l.length
 | [],o=>by simp
 | x::l,o=>by
  rw[List.foldl_cons];have h1:=b1j nm l (o++a4k nm x);have h2:=b9k nm x;rw[ByteArray.size_append] at h1;rw[List.length_cons];omega
theorem a7o (nm l:List Int):(a2e nm l).size≤4*l.length:=by
 have:=b1j nm l ByteArray.empty;rw[ByteArray.size_empty] at this;rw[a2e];omega
end Go.Proofs.YtdcmanhgekjhgaaDoor
