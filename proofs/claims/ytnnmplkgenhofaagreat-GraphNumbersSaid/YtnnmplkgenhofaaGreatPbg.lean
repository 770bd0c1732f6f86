import Derived.Laws.RangeAny
import Derived.Test.YtnnmplkgenhofaaGreatRows
import Derived.Test.YtnnmplkgenhofaaGreatPaa
set_option maxRecDepth 100000
set_option maxHeartbeats 12800000
namespace Go.Proofs.YtnnmplkgenhofaaGreat
open Go.RowKit
def FitsR (x:Int):Prop := -2147483648≤x∧x≤2147483647
def IntsR (w:World) (A:Option Addr) (n:Nat) (xs:List Int):Prop :=
 xs.length=n∧n≤9223372036854775807∧(∀ x∈xs,FitsR x) ∧
 (0<n→∃ ad,A=some ad∧ad.block<w.heap.size∧∀ j x,xs[j]? = some x→w.cell? (ad.add j)=some (.int .i32 x))
section
variable {w w' : World} {A : Option Addr} {n : Nat} {xs : List Int}
theorem IntsR.len (h:IntsR w A n xs):xs.length=n:=h.1
theorem IntsR.le (h:IntsR w A n xs):n≤9223372036854775807:=h.2.1
theorem IntsR.fit (h:IntsR w A n xs):∀ x∈xs,FitsR x:=h.2.2.1
theorem IntsR.nil_ (w:World) (A:Option Addr):IntsR w A 0 []:=⟨rfl,by omega,by simp,fun h=>absurd h (by omega)⟩
theorem IntsR.at_ (h:IntsR w A n xs) {k:Nat} (hk:k<n) :
  ∃ ad x,A=some ad∧ad.block<w.heap.size∧xs[k]? = some x∧w.cell? (ad.add k)=some (.int .i32 x)∧FitsR x:=by
 obtain⟨ad,e,hb,hc⟩:=h.2.2.2 (by omega);have hl:k<xs.length:=by have:=h.1;omega
 exact⟨ad,xs[k],e,hb,List.getElem?_eq_getElem hl,hc k _ (List.getElem?_eq_getElem hl),h.2.2.1 _ (List.getElem_mem hl)⟩
theorem IntsR.get {ad:Addr} (h:IntsR w (some ad) n xs) {k:Nat} {x:Int} (hx:xs[k]? = some x):w.cell? (ad.add k)=some (.int .i32 x):=by
 have hk:k<n:=by rw[← h.1];exact(List.getElem?_eq_some_iff.1 hx).1
 obtain⟨ad', e,_,hc⟩:=h.2.2.2 (by omega);injection e with e
 subst e;exact hc k x hx
theorem IntsR.keep (h:IntsR w A n xs) (hs:w.heap.size≤w'.heap.size) (hk:∀ p:Addr,p.block<w.heap.size→w'.cell? p=w.cell? p):IntsR w' A n xs :=
 ⟨h.1,h.2.1,h.2.2.1,fun hn=>by
  obtain⟨ad,e,hb,hc⟩:=h.2.2.2 hn
  exact⟨ad,e,by omega,fun j u hu=>(hk _ (by rw[block_of_add];exact hb)).trans (hc j u hu)⟩⟩
theorem IntsR.grown (h:IntsR w A n xs) {row:Option Nat} (hg:w.grownBy w' row) (hne:∀ ad,A=some ad→0<n→some ad.block≠row):IntsR w' A n xs :=
 ⟨h.1,h.2.1,h.2.2.1,fun hn=>by
  obtain⟨ad,e,hb,hc⟩:=h.2.2.2 hn
  exact⟨ad,e,by have:=hg.size;omega,fun j u hu=>hg.cell (hc j u hu) (by rw[block_of_add];exact hne ad e hn)⟩⟩
theorem IntsR.below (h:IntsR w A n xs) (hb:Below w.heap.size w w'):IntsR w' A n xs:=h.keep hb.size fun _ hp=>hb.cell hp
theorem IntsR.drew (h:IntsR w A n xs):IntsR w.drew A n xs:=h
theorem IntsR.drewN (h:IntsR w A n xs) (k:Nat):IntsR (w.drewN k) A n xs:=h
theorem IntsR.alloc (h:IntsR w A n xs) (o:Obj):IntsR (w.alloc o) A n xs:=h.keep (by simp) fun p hp=>World.cell?_alloc_lt w o p hp
end
def OwnR (w:World) (base:Nat) (e:TypeId) (g n c:Nat) (xs:List Int):Prop :=
 w.ownsRow base e 1 (.slice (some ⟨g,0,none⟩) n c) n (xs.map (Value.int .i32))∧(∀ x∈xs,FitsR x)∧n≤9223372036854775807
section
variable {w w' : World} {base g n c : Nat} {e : TypeId} {xs : List Int}
theorem OwnR.len (h:OwnR w base e g n c xs):xs.length=n:=by simpa using h.1.1
theorem OwnR.base_ (h:OwnR w base e g n c xs):base≤g∧g<w.heap.size:=h.1.lt g rfl
theorem OwnR.cap (h:OwnR w base e g n c xs):n≤c:=by
 rcases h.1.2 with ⟨h', _⟩|⟨g', c', cur,h', _,_,hnc,_⟩
 ·simp at h'
 ·simp only[Value.slice.injEq,Option.some.injEq,Addr.mk.injEq,and_true,true_and] at h';obtain⟨rfl,rfl⟩:=h';exact hnc
theorem OwnR.cell (h:OwnR w base e g n c xs) {j:Nat} {x:Int} (hx:xs[j]? = some x):w.cell? ⟨g,j,none⟩=some (.int .i32 x):=by
 have hj:j<n:=by rw[← h.len];exact(List.getElem?_eq_some_iff.1 hx).1
 rw[h.1.cellAt j (by omega),List.getElem?_map,hx];rfl
theorem OwnR.blk (h:OwnR w base e g n c xs):∃ cs,w.heap[g]? = some (.cells cs e (0,0)):=by
 rcases h.1.2 with ⟨h', _⟩|⟨g', c', cur,h', _,hh,_⟩
 ·simp at h'
 ·simp only[Value.slice.injEq,Option.some.injEq,Addr.mk.injEq,and_true,true_and] at h';obtain⟨rfl,rfl⟩:=h';exact⟨cur,hh⟩
theorem OwnR.frozen (h:OwnR w base e g n c xs) (j:Nat):w.frozen? ⟨g,j,none⟩=false:=h.1.frozenAt j
theorem OwnR.ints (h:OwnR w base e g n c xs):IntsR w (some ⟨g,0,none⟩) n xs :=
 ⟨h.len,h.2.2,h.2.1,fun _=>⟨_,rfl,h.base_.2,fun _ _ hx=>by rw[Addr.add_lit,Nat.zero_add];exact h.cell hx⟩⟩
theorem OwnR.below (h:OwnR w base e g n c xs) (hb:Below w.heap.size w w'):OwnR w' base e g n c xs:=by
 refine⟨h.1.kept (row:=none) ⟨hb.os,hb.tape,hb.output,hb.size,fun k hk _=>hb.block k hk⟩ (.inr (by simp[Value.ownBlock])),h.2.1,h.2.2⟩
theorem OwnR.drewN (h:OwnR w base e g n c xs) (k:Nat):OwnR (w.drewN k) base e g n c xs:=h
theorem OwnR.store (h:OwnR w base e g n c xs) (j:Nat) {u:Int} (hu:FitsR u):OwnR (w.setCell ⟨g,j,none⟩ (.int .i32 u)) base e g n c (xs.set j u):=by
 refine⟨?_,?_,h.2.2⟩
 ·have:=(h.1.stored j (.int .i32 u)).1;rwa [← List.map_set] at this
 ·intro x hx;rcases List.mem_or_eq_of_mem_set hx with hx|rfl
  ·exact h.2.1 x hx
  ·exact hu
end
def OwnRS (w:World) (base:Nat) (e:TypeId) (v:Value) (n:Nat) (xs:List Int):Prop :=
 w.ownsRow base e 1 v n (xs.map (Value.int .i32))∧(∀ x∈xs,FitsR x)∧n≤9223372036854775807
section
variable {w w' : World} {base n : Nat} {e : TypeId} {v : Value} {xs : List Int}
theorem OwnRS.nil_ (w:World) (base:Nat) (e:TypeId):OwnRS w base e (.slice none 0 0) 0 []:=⟨World.ownsRow_nil w base e 1,by simp,by omega⟩
theorem OwnRS.len (h:OwnRS w base e v n xs):xs.length=n:=by simpa using h.1.1
theorem OwnRS.grown (h:OwnRS w base e v n xs) {g:Nat} (hg:w.grownBy w' (some g)) (hb:g<base):OwnRS w' base e v n xs :=
 ⟨h.1.kept hg (by
  cases hv:v.ownBlock with
  | none=>exact .inl rfl
  | some k=>right;have:=(h.1.lt k hv).1;intro hk;injection hk with hk;omega),h.2.1,h.2.2⟩
theorem OwnRS.below (h:OwnRS w base e v n xs) (hb:Below w.heap.size w w'):OwnRS w' base e v n xs :=
 ⟨h.1.kept (row:=none) (grown_of_below hb none) (by cases v.ownBlock with|none=>exact .inl rfl|some k=>exact .inr (by simp)),h.2.1,h.2.2⟩
theorem OwnRS.alloc (h:OwnRS w base e v n xs) (o:Obj):OwnRS (w.alloc o) base e v n xs:=⟨h.1.alloc o,h.2.1,h.2.2⟩
theorem OwnRS.drew (h:OwnRS w base e v n xs):OwnRS w.drew base e v n xs:=h
theorem OwnRS.drewN (h:OwnRS w base e v n xs) (k:Nat):OwnRS (w.drewN k) base e v n xs:=h
theorem OwnRS.form (h:OwnRS w base e v n xs):∃ A c,v=.slice A n c∧n≤c∧IntsR w A n xs∧∀ ad,A=some ad→base≤ad.block:=by
 rcases h.1.2 with ⟨rfl,rfl⟩|⟨g,c,cur,rfl,hb,hh,hnc,_⟩
 ·have:xs=[]:=List.eq_nil_of_length_eq_zero h.len;subst this;exact⟨none,0,rfl,by omega,IntsR.nil_ _ _,by simp⟩
 ·have hO:OwnR w base e g n c xs:=h;exact⟨_,c,rfl,hnc,hO.ints,fun ad he=>by injection he with he;subst he;exact hb⟩
theorem OwnRS.grownNe (h:OwnRS w base e v n xs) {row:Option Nat} (hg:w.grownBy w' row) (hb:∀ k,v.ownBlock=some k→some k≠row):OwnRS w' base e v n xs :=
 ⟨h.1.kept hg (by
  cases hv:v.ownBlock with
  | none=>exact .inl rfl
  | some k=>exact .inr (hb k hv)),h.2.1,h.2.2⟩
theorem OwnRS.blk (h:OwnRS w base e v n xs) {k:Nat} (hk:v.ownBlock=some k):∃ cs,w.heap[k]? = some (.cells cs e (0,0)):=by
 rcases h.1.2 with ⟨rfl,rfl⟩|⟨g,c,cur,rfl,_,hh,_⟩
 ·simp[Value.ownBlock] at hk
 ·simp only[Value.ownBlock,Option.some.injEq] at hk;subst hk;exact⟨cur,hh⟩
theorem OwnRS.apart (h:OwnRS w base e v n xs) {k:Nat} {cs:Array Value} {t:TypeId} {f:Nat × Nat} (hk:w.heap[k]? = some (.cells cs t f)) (ht:e≠t):∀ j,v.ownBlock=some j→some j≠some k:=by
 intro j hj he;obtain⟨cs', hb⟩:=h.blk hj;exact ne_of_types hb hk ht (by injection he)
theorem OwnRS.mono {base' : Nat} (h:OwnRS w base e v n xs) (hb:base' ≤ base):OwnRS w base' e v n xs:=by
 refine⟨⟨h.1.1,?_⟩,h.2⟩;rcases h.1.2 with hh|⟨g,cap,cur,h1,h2,h3⟩
 ·exact .inl hh
 ·exact .inr ⟨g,cap,cur,h1,Nat.le_trans hb h2,h3⟩
theorem OwnRS.own (h:OwnRS w base e v n xs) (hn:0<n):∃ g c,v=.slice (some ⟨g,0,none⟩) n c∧OwnR w base e g n c xs:=by
 rcases h.1.2 with ⟨rfl,rfl⟩|⟨g,c,cur,rfl,hb,hh,hnc,_⟩
 ·omega
 ·exact⟨g,c,rfl,h⟩
theorem OwnRS.block (h:OwnRS w base e v n xs) (k:Nat) (hk:v.ownBlock=some k):base≤k:=(h.1.lt k hk).1
end
theorem wpList_append_rune {P:Program} {w:World} {ops:Array Oper} {rest:List Oper} {o:Oper} {a:Act} {Q:Exit→Act→World→Prop} (hgd:o.guard=none) (s y:Operand) (t e:TypeId)
  (ho:o.op=.call { callee:=.builtin .append,args:=#[s,y],argTypes:=#[t,t] }) (ht:P.underlying t=some (.slice e))
  (hinfo:(P.info? e).map (fun i=>(i.zero,i.size,i.bytes))=some (some (.int .i32 0),1,4))
  (base:Nat) (v:Value) (n:Nat) (xs:List Int) (hs:a.eval s=v) (hown:OwnRS w base e v n xs) (hb:base≤w.heap.size) (x:Int) (hf:FitsR x) (c:Nat) (hy:a.eval y=.slice (some ⟨w.heap.size,0,none⟩) 1 c)
  (hn:n≤17592186044000)
  (h:∀ v' w', OwnRS w' base e v' (n+1) (xs++[x])→Below base w w' → w.grownBy w' v.ownBlock→wpList P ops Q rest (a.put o.dst v') w') :
  wpList P ops Q (o::rest) a (w.alloc (.cells #[.int .i32 x] e)):=by
 obtain⟨i,hi,hz0,hz1,hz2⟩:=info_parts hinfo;refine wpList_append_own _ hgd s y t ho base e i (.int .i32 0) 1 4 ht hi hz0 hz1 hz2 rfl (by decide) v n _ hs (hown.alloc _).1 ⟨w.heap.size,0,none⟩ 1 c [.int .i32 x] hy rfl ?_ ?_ (by unfold maxLen;omega) (by omega) (by simp;omega) ?_
 ·intro j u hj
  cases j with
  | zero=>simp at hj;subst hj;rw[Addr.add_lit,World.cell?_alloc_at _ _ _ _ rfl];rfl
  | succ j=>simp at hj
 ·intro u hu;simp at hu;subst hu;rfl
 ·intro v' w' ho' hg' _;have hO:OwnRS w' base e v' (n+1) (xs++[x]):=⟨by simpa using ho', by intro z hz;simp at hz;rcases hz with hz|rfl;exact hown.2.1 z hz;exact hf,by omega⟩;have hgr:w.grownBy w' v.ownBlock:=grown_trans (World.grownBy_alloc w _ _) hg';exact h v' w' hO ((Below.refl _ _).grown hgr hb (fun k hk=>hown.block k hk)) hgr
def iterAt_ (w:World) (k:Nat) (s:ByteArray) (pos:Nat):World:={ w with heap:=w.heap.setIfInBounds k (.stringIter s pos) }
section
variable {P : Program} {w : World} {s : ByteArray} {k pos : Nat}
theorem run_next_at (h:w.heap[k]? = some (.stringIter s pos)) (hp:pos<s.size) (ty:TypeId) :
  (Instr.next (.pointer (some ⟨k,0,none⟩)) true ty).run P w=.ok (.tuple #[.bool true,.int .i64 pos,.int .i32 (Utf8.decode s pos).1]) (iterAt_ w k s (pos+(Utf8.decode s pos).2)):=by
 simp only[Instr.next,getObj,setObj,Sem.run_bind,Sem.run,h,Result.andThen,hp,if_true];simp[goInt,iterAt_]
theorem run_next_over (h:w.heap[k]? = some (.stringIter s pos)) (hp:¬ pos<s.size) (ty:TypeId) :
  (Instr.next (.pointer (some ⟨k,0,none⟩)) true ty).run P w=.ok (.tuple #[.bool false]) w:=by
 simp[Instr.next,getObj,Sem.run,h,hp]
theorem iterAt_grown:w.grownBy (iterAt_ w k s pos) (some k) :=
 ⟨rfl,rfl,rfl,by simp[iterAt_],fun j _ hj=>by
  have:k≠j:=fun e=>hj (by rw[e])
  simp[iterAt_,this]⟩
theorem iterAt_heap (hk:k<w.heap.size):(iterAt_ w k s pos).heap[k]? = some (.stringIter s pos):=by
 simp[iterAt_,hk]
end
def runesAt (s:ByteArray):Nat→Nat→List Int
 | 0,_=>[]
 | b+1,pos=>if pos<s.size then((Utf8.decode s pos).1:Int)::runesAt s b (pos+(Utf8.decode s pos).2) else []
def runesOf (s:ByteArray):List Int:=runesAt s s.size 0
theorem decode_width (s:ByteArray) (pos:Nat) (h:pos<s.size):1≤(Utf8.decode s pos).2:=by
 by_cases ha:(s[pos]'h).toNat<128
 ·rw[decode_ascii s pos h ha];exact Nat.le_refl _
 ·exact(decode_high s pos h (by omega)).2
theorem runesAt_enough (s:ByteArray):∀(b c pos:Nat),s.size≤pos+b→s.size≤pos+c→runesAt s b pos=runesAt s c pos
 | 0,c,pos,hb,_=>by
  cases c with
  | zero=>rfl
  | succ c=>rw[runesAt,runesAt,if_neg (by omega)]
 | b+1,c,pos,hb,hc=>by
  cases c with
  | zero=>rw[show runesAt s (b+1) pos=if pos<s.size then((Utf8.decode s pos).1:Int)::runesAt s b (pos+(Utf8.decode s pos).2) else [] from rfl,if_neg (by omega)];rfl
  | succ c =>
   rw[runesAt,runesAt];by_cases hp:pos<s.size
   ·have:=decode_width s pos hp;rw[if_pos hp,if_pos hp,runesAt_enough s b c _ (by omega) (by omega)]
   ·rw[if_neg hp,if_neg hp]
theorem runesAt_step (s:ByteArray) {pos:Nat} (h:pos<s.size):runesAt s s.size pos=((Utf8.decode s pos).1:Int)::runesAt s s.size (pos+(Utf8.decode s pos).2):=by
 have h1:runesAt s s.size pos=runesAt s (s.size+1) pos:=runesAt_enough s _ _ _ (by omega) (by omega);rw[h1,runesAt,if_pos h]
theorem runesAt_end (s:ByteArray) {pos:Nat} (h:¬ pos<s.size):runesAt s s.size pos=[]:=by
 have h1:runesAt s s.size pos=runesAt s 0 pos:=runesAt_enough s _ _ _ (by omega) (by omega);rw[h1];rfl
theorem rune_fits (s:ByteArray) (pos:Nat):FitsR ((Utf8.decode s pos).1:Int):=⟨by omega,by have:=decode_le s pos;omega⟩
theorem runesAt_length (s:ByteArray):∀(b pos:Nat),(runesAt s b pos).length≤b
 | 0,_=>Nat.le_refl _
 | b+1,pos=>by
  rw[runesAt]
  split
  ·have:=runesAt_length s b (pos+(Utf8.decode s pos).2);simp;omega
  ·simp
theorem runesOf_length (s:ByteArray):(runesOf s).length≤s.size:=runesAt_length s _ _
theorem Tryz.infoI32:(Tryz.prog.info? 21).map (fun i=>(i.zero,i.size,i.bytes))=some (some (.int .i32 0),1,4):=by kernel_rfl
theorem iterPos_at {w:World} {k pos:Nat} {s:ByteArray} (h:w.heap[k]? = some (.stringIter s pos)):w.iterPos k=pos:=by simp[World.iterPos,h]
theorem refRunes_any (w:World) (s:ByteArray) (hs:s.size≤17592186044000) :
  Calls Tryz.prog 38 #[.string s] w fun e w' => (∃ v n,e=.returned v∧OwnRS w' w.heap.size 21 v n (runesOf s))∧Below w.heap.size w w' := by
 have hi:=World.iter_heap w s 0;have hb:Below w.heap.size w (w.iter s 0):=(Below.refl _ _).alloc (Nat.le_refl _) _;have hz:(w.iter s 0).heap.size=w.heap.size+1:=by simp[World.iter]
 have HS:=Hd hs;clear hs
 go_enter Tryz.func38,Tryz.ntmps38
 go_wp2_with fail
 generalize w.iter s 0=w1 at *
 go_loopw [3] (fun v wr=>∃(pos n:Nat) (xs:List Int),wr.heap[w.heap.size]? = some (.stringIter s pos)∧OwnRS wr (w.heap.size+1) 21 v n xs∧xs++runesAt s s.size pos=runesOf s∧n≤pos∧Below w.heap.size w wr) (fun _ w' => s.size-w'.iterPos w.heap.size)
 case atStart=>exact⟨0,0,[],hi,OwnRS.nil_ _ _ _,rfl,by omega,hb⟩
 case round =>
  clear hi hb hz;obtain⟨pos,n,xs,hi,hO,hx,hn,hB⟩:=hrel;have hs:=HS.out;have HB:=Hd hB;have HI:=Hd hi
  have hkl:w.heap.size<wr.heap.size:=by
   rcases Nat.lt_or_ge w.heap.size wr.heap.size with hl|hl
   ·exact hl
   ·rw[Array.getElem?_eq_none hl] at hi;cases hi
  by_cases hlt:pos<s.size
  ·have hnx:=fun ty=>run_next_at (P:=Tryz.prog) hi hlt ty
   have hg:=iterAt_grown (w:=wr) (s:=s) (k:=w.heap.size) (pos:=pos+(Utf8.decode s pos).2);have hi2:=iterAt_heap (w:=wr) (s:=s) (pos:=pos+(Utf8.decode s pos).2) hkl;have hO2:=hO.grown hg (by omega);have hB2:=below_of_grown hB (by omega) hg (Nat.le_refl _);have hw:=decode_width s pos hlt;have hf:=rune_fits s pos;have hst:=runesAt_step s hlt;generalize iterAt_ wr w.heap.size s (pos+(Utf8.decode s pos).2)=w2 at *;have HI2:=Hd hi2;have HO2:=Hd hO2;have HB2:=Hd hB2;have HST:=Hd hst;have HX:=Hd hx;have HF:=Hd hf;have hz2:w.heap.size<w2.heap.size:=by have:=hg.size;omega
   clear hi hg hi2 hO hO2 hB2 hst hx hB hs hf;generalize hdr:(Utf8.decode s pos).1=dr at *;generalize hdw:(Utf8.decode s pos).2=dw at *;clear hdr hdw
   go_wp2_with (at_builtin;refine wpList_append_rune rfl _ _ 75 21 rfl Tryz.underlying75 Tryz.infoI32 (w.heap.size+1) _ n xs rfl HO2.out ?c1 (dr:Int) ?c2 _ rfl ?c3 ?_)
   case c1=>omega
   case c2=>exact HF.out
   case c3=>have:=HS.out;omega
   intro v' w3 hO3 hB3 hg3;have hi3:=(hB3.block w.heap.size (by omega)).trans HI2.out;have hB4:=HB2.out.trans (hB3.mono (by omega));have HI3:=Hd hi3;clear hi3 hB3 hg3 hnx;go_wp2;go_roundw
   case rel=>exact⟨pos+dw,n+1,xs++[(dr:Int)],HI3.out,hO3,by rw[← HX.out,HST.out];simp,by omega,hB4⟩
   case measure=>rw[iterPos_at HI3.out,iterPos_at HI.out];omega
  ·have hnx:=fun ty=>run_next_over (P:=Tryz.prog) hi hlt ty
   have hxs:xs=runesOf s:=by rw[← hx,runesAt_end s hlt,List.append_nil]
   have HXS:=Hd hxs;have HO:=Hd hO;clear hi hxs hx hO hB hs;go_wp2;go_ret;exact⟨⟨_,n,rfl,by rw[← HXS.out];exact HO.out.mono (by omega)⟩,HB.out⟩
end Go.Proofs.YtnnmplkgenhofaaGreat
