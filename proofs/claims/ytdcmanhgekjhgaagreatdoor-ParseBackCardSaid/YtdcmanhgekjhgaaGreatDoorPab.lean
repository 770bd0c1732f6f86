import Derived.Laws.Cover4
import Derived.Test.YtdcmanhgekjhgaaGreatDoorRows
import Derived.Test.YtdcmanhgekjhgaaGreatDoorPaa
set_option maxRecDepth 100000
set_option maxHeartbeats 12800000
namespace Go.Proofs.YtdcmanhgekjhgaaGreatDoor
open Go.RowKit Go.Proofs.Tryz
variable {k pos:Nat} {nm:List Int} {s:ByteArray} {w:World} {x:Int}
def c2i (x:Int):Prop := -2147483648≤x∧x≤2147483647
def a4l (w:World) (A:Option Addr) (n:Nat) (xs:List Int):Prop :=
 xs.length=n∧n≤9223372036854775807∧(∀ x∈xs,c2i x) ∧
 (0<n→∃ ad,A=some ad∧ad.block<w.heap.size∧∀ j x,xs[j]?=some x→w.cell? (ad.add j)=some (.int .i32 x))
section
variable {w w' : World} {A : Option Addr} {n : Nat} {xs : List Int}
theorem a4l.len (h:a4l w A n xs):xs.length=n:=h.1
theorem a4l.le (h:a4l w A n xs):n≤9223372036854775807:=h.2.1
theorem a4l.fit (h:a4l w A n xs):∀ x∈xs,c2i x:=h.2.2.1
theorem a4l.nil_ (w:World)(A:Option Addr):a4l w A 0 []:=⟨rfl,by omega,by simp,fun h=>absurd h (by omega)⟩
theorem a4l.at_ (h:a4l w A n xs)(hk:k<n):
  ∃ ad x,A=some ad∧ad.block<w.heap.size∧xs[k]?=some x∧w.cell? (ad.add k)=some (.int .i32 x)∧c2i x:=by
 obtain⟨ad,e,hb,hc⟩:=h.2.2.2 (by omega);have hl:k<xs.length:=by have:=h.1;omega
 exact⟨ad,xs[k],e,hb,List.getElem?_eq_getElem hl,hc k _ (List.getElem?_eq_getElem hl),h.2.2.1 _ (List.getElem_mem hl)⟩
theorem a4l.get {ad:Addr}(h:a4l w (some ad) n xs)(hx:xs[k]?=some x):w.cell? (ad.add k)=some (.int .i32 x):=by
 have hk:k<n:=by rw[←h.1];exact(lL hx)
 obtain⟨ad', e,_,hc⟩:=h.2.2.2 (by omega);injection e with e
 subst e;exact hc k x hx
theorem a4l.keep (h:a4l w A n xs)(hs:w.heap.size≤w'.heap.size)(hk:∀ p:Addr,p.block<w.heap.size→w'.cell? p=w.cell? p):a4l w' A n xs :=
 ⟨h.1,h.2.1,h.2.2.1,fun hn=>by
  obtain⟨ad,e,hb,hc⟩:=h.2.2.2 hn
  exact⟨ad,e,by omega,fun j u hu=>(hk _ (by rw[a0d];exact hb)).trans (hc j u hu)⟩⟩
theorem a4l.grown (h:a4l w A n xs){row:Option Nat}(hg:w.grownBy w' row)(hne:∀ ad,A=some ad→0<n→some ad.block≠row):a4l w' A n xs :=
 ⟨h.1,h.2.1,h.2.2.1,fun hn=>by
  obtain⟨ad,e,hb,hc⟩:=h.2.2.2 hn
  exact⟨ad,e,by have:=hg.size;omega,fun j u hu=>hg.cell (hc j u hu) (by rw[a0d];exact hne ad e hn)⟩⟩
theorem a4l.below (h:a4l w A n xs)(hb:Below w.heap.size w w'):a4l w' A n xs:=h.keep hb.size fun _ hp=>hb.cell hp
theorem a4l.drew (h:a4l w A n xs):a4l w.drew A n xs:=h
theorem a4l.drewN (h:a4l w A n xs)(k:Nat):a4l (w.drewN k) A n xs:=h
theorem a4l.alloc (h:a4l w A n xs)(o:Obj):a4l (w.alloc o) A n xs:=h.keep (by simp) fun p hp=>World.cell?_alloc_lt w o p hp
end
def OwnR (w:World) (base:Nat) (e:TypeId) (g n c:Nat) (xs:List Int):Prop :=
 w.ownsRow base e 1 (.slice (some ⟨g,0,none⟩) n c) n (xs.map (Value.int .i32))∧(∀ x∈xs,c2i x)∧n≤9223372036854775807
section
variable {w w' : World} {base g n c : Nat} {e : TypeId} {xs : List Int}
theorem OwnR.len (h:OwnR w base e g n c xs):xs.length=n:=by simpa using h.1.1
theorem OwnR.base_ (h:OwnR w base e g n c xs):base≤g∧g<w.heap.size:=h.1.lt g rfl
theorem OwnR.cap (h:OwnR w base e g n c xs):n≤c:=by
 rcases h.1.2 with ⟨h', _⟩|⟨g', c', cur,h', _,_,hnc,_⟩
 ·simp at h'
 ·simp only[Value.slice.injEq,Option.some.injEq,Addr.mk.injEq,and_true,true_and] at h';obtain⟨rfl,rfl⟩:=h';exact hnc
theorem OwnR.cell (h:OwnR w base e g n c xs){j:Nat}(hx:xs[j]?=some x):w.cell? ⟨g,j,none⟩=some (.int .i32 x):=by
 have hj:j<n:=by rw[←h.len];exact(lL hx)
 rw[h.1.cellAt j (by omega),List.getElem?_map,hx];rfl
theorem OwnR.blk (h:OwnR w base e g n c xs):∃ cs,w.heap[g]?=some (.cells cs e (0,0)):=by
 rcases h.1.2 with ⟨h', _⟩|⟨g', c', cur,h', _,hh,_⟩
 ·simp at h'
 ·simp only[Value.slice.injEq,Option.some.injEq,Addr.mk.injEq,and_true,true_and] at h';obtain⟨rfl,rfl⟩:=h';exact⟨cur,hh⟩
theorem OwnR.frozen (h:OwnR w base e g n c xs)(j:Nat):w.frozen? ⟨g,j,none⟩=false:=h.1.frozenAt j
theorem OwnR.ints (h:OwnR w base e g n c xs):a4l w (some ⟨g,0,none⟩) n xs :=
 ⟨h.len,h.2.2,h.2.1,fun _=>⟨_,rfl,h.base_.2,fun _ _ hx=>by rw[Addr.add_lit,Nat.zero_add];exact h.cell hx⟩⟩
theorem OwnR.below (h:OwnR w base e g n c xs)(hb:Below w.heap.size w w'):OwnR w' base e g n c xs:=by
 refine⟨h.1.kept (row:=none) ⟨hb.os,hb.tape,hb.output,hb.size,fun k hk _=>hb.block k hk⟩ (.inr (by simp[Value.ownBlock])),h.2.1,h.2.2⟩
theorem OwnR.drewN (h:OwnR w base e g n c xs)(k:Nat):OwnR (w.drewN k) base e g n c xs:=h
theorem OwnR.store (h:OwnR w base e g n c xs)(j:Nat){u:Int}(hu:c2i u):OwnR (w.setCell ⟨g,j,none⟩ (.int .i32 u)) base e g n c (xs.set j u):=by
 refine⟨?_,?_,h.2.2⟩
 ·have:=(h.1.stored j (.int .i32 u)).1;rwa [←List.map_set] at this
 ·intro x hx;rcases List.mem_or_eq_of_mem_set hx with hx|rfl
  ·exact h.2.1 x hx
  ·exact hu
end
def a2u (w:World) (base:Nat) (e:TypeId) (v:Value) (n:Nat) (xs:List Int):Prop :=
 w.ownsRow base e 1 v n (xs.map (Value.int .i32))∧(∀ x∈xs,c2i x)∧n≤9223372036854775807
section
variable {w w' : World} {base n : Nat} {e : TypeId} {v : Value} {xs : List Int}
theorem a2u.nil_ (w:World)(base:Nat)(e:TypeId):a2u w base e (.slice none 0 0) 0 []:=⟨World.ownsRow_nil w base e 1,by simp,by omega⟩
theorem a2u.len (h:a2u w base e v n xs):xs.length=n:=by simpa using h.1.1
theorem a2u.grown (h:a2u w base e v n xs){g:Nat}(hg:w.grownBy w' (some g))(hb:g<base):a2u w' base e v n xs :=
 ⟨h.1.kept hg (by
  cases hv:v.ownBlock with
  | none=>exact .inl rfl
  | some k=>right;have:=(h.1.lt k hv).1;intro hk;injection hk with hk;omega),h.2.1,h.2.2⟩
theorem a2u.below (h:a2u w base e v n xs)(hb:Below w.heap.size w w'):a2u w' base e v n xs :=
 ⟨h.1.kept (row:=none) (a8b hb none) (by cases v.ownBlock with|none=>exact .inl rfl|some k=>exact .inr (by simp)),h.2.1,h.2.2⟩
theorem a2u.alloc (h:a2u w base e v n xs)(o:Obj):a2u (w.alloc o) base e v n xs:=⟨h.1.alloc o,h.2.1,h.2.2⟩
theorem a2u.drew (h:a2u w base e v n xs):a2u w.drew base e v n xs:=h
theorem a2u.drewN (h:a2u w base e v n xs)(k:Nat):a2u (w.drewN k) base e v n xs:=h
theorem a2u.form (h:a2u w base e v n xs):∃ A c,v=.slice A n c∧n≤c∧a4l w A n xs∧∀ ad,A=some ad→base≤ad.block:=by
 rcases h.1.2 with ⟨rfl,rfl⟩|⟨g,c,cur,rfl,hb,hh,hnc,_⟩
 ·have:xs=[]:=List.eq_nil_of_length_eq_zero h.len;subst this;exact⟨none,0,rfl,by omega,a4l.nil_ _ _,by simp⟩
 ·have hO:OwnR w base e g n c xs:=h;exact⟨_,c,rfl,hnc,hO.ints,fun ad he=>by injection he with he;subst he;exact hb⟩
theorem a2u.grownNe (h:a2u w base e v n xs){row:Option Nat}(hg:w.grownBy w' row)(hb:∀ k,v.ownBlock=some k→some k≠row):a2u w' base e v n xs :=
 ⟨h.1.kept hg (by
  cases hv:v.ownBlock with
  | none=>exact .inl rfl
  | some k=>exact .inr (hb k hv)),h.2.1,h.2.2⟩
theorem a2u.blk (h:a2u w base e v n xs)(hk:v.ownBlock=some k):∃ cs,w.heap[k]?=some (.cells cs e (0,0)):=by
 rcases h.1.2 with ⟨rfl,rfl⟩|⟨g,c,cur,rfl,_,hh,_⟩
 ·simp[Value.ownBlock] at hk
 ·simp only[Value.ownBlock,Option.some.injEq] at hk;subst hk;exact⟨cur,hh⟩
theorem a2u.apart (h:a2u w base e v n xs){cs:Array Value}{t:TypeId}{f:Nat × Nat}(hk:w.heap[k]?=some (.cells cs t f))(ht:e≠t):∀ j,v.ownBlock=some j→some j≠some k:=by
 intro j hj he;obtain⟨cs', hb⟩:=h.blk hj;exact a4z hb hk ht (by injection he)
theorem a2u.mono {base' : Nat}(h:a2u w base e v n xs)(hb:base' ≤ base):a2u w base' e v n xs:=by
 refine⟨⟨h.1.1,?_⟩,h.2⟩;rcases h.1.2 with hh|⟨g,cap,cur,h1,h2,h3⟩
 ·exact .inl hh
 ·exact .inr ⟨g,cap,cur,h1,Nat.le_trans hb h2,h3⟩
theorem a2u.own (h:a2u w base e v n xs)(hn:0<n):∃ g c,v=.slice (some ⟨g,0,none⟩) n c∧OwnR w base e g n c xs:=by
 rcases h.1.2 with ⟨rfl,rfl⟩|⟨g,c,cur,rfl,hb,hh,hnc,_⟩
 ·omega
 ·exact⟨g,c,rfl,h⟩
theorem a2u.block (h:a2u w base e v n xs)(k:Nat)(hk:v.ownBlock=some k):base≤k:=(h.1.lt k hk).1
end
theorem a7y {P:Program}{ops:Array Oper}{rest:List Oper}{o:Oper}{a:Act}{Q:Exit→Act→World→Prop}(hgd:o.guard=none)(s y:Operand)(t e:TypeId)
  (ho:o.op=.call { callee:=.builtin .append,args:=#[s,y],argTypes:=#[t,t] })(ht:P.underlying t=some (.slice e))
  (hinfo:(P.info? e).map (fun i=>(i.zero,i.size,i.bytes))=some (some (.int .i32 0),1,4))
  (base:Nat)(v:Value)(n:Nat)(xs:List Int)(hs:a.eval s=v)(hown:a2u w base e v n xs)(hb:base≤w.heap.size)(x:Int)(hf:c2i x)(c:Nat)(hy:a.eval y=.slice (some ⟨w.heap.size,0,none⟩) 1 c)
  (hn:n≤17592186044000)
  (h:∀ v' w', a2u w' base e v' (n+1) (xs++[x])→Below base w w' → w.grownBy w' v.ownBlock→wpList P ops Q rest (a.put o.dst v') w'):
  wpList P ops Q (o::rest) a (w.alloc (.cells #[.int .i32 x] e)):=by
 obtain⟨i,hi,hz0,hz1,hz2⟩:=info_parts hinfo;refine wpList_append_own _ hgd s y t ho base e i (.int .i32 0) 1 4 ht hi hz0 hz1 hz2 rfl (by decide) v n _ hs (hown.alloc _).1 ⟨w.heap.size,0,none⟩ 1 c [.int .i32 x] hy rfl ?_ ?_ (by unfold maxLen;omega) (by omega) (by simp;omega) ?_
 ·intro j u hj
  cases j with
  | zero=>simp at hj;subst hj;rw[Addr.add_lit,World.cell?_alloc_at _ _ _ _ rfl];rfl
  | succ j=>simp at hj
 ·intro u hu;simp at hu;subst hu;rfl
 ·intro v' w' ho' hg' _;have hO:a2u w' base e v' (n+1) (xs++[x]):=⟨by simpa using ho', by intro z hz;simp at hz;rcases hz with hz|rfl;exact hown.2.1 z hz;exact hf,by omega⟩;have hgr:w.grownBy w' v.ownBlock:=a3n (World.grownBy_alloc w _ _) hg';exact h v' w' hO ((Below.refl _ _).grown hgr hb (fun k hk=>hown.block k hk)) hgr
def a9r (w:World) (k:Nat) (s:ByteArray) (pos:Nat):World:={ w with heap:=w.heap.setIfInBounds k (.stringIter s pos) }
section
variable {P : Program} {w : World} {s : ByteArray} {k pos : Nat}
theorem b2p (h:w.heap[k]?=some (.stringIter s pos))(hp:pos<s.size)(ty:TypeId):
  (Instr.next (.pointer (some ⟨k,0,none⟩)) true ty).run P w=.ok (.tuple #[.bool true,.int .i64 pos,.int .i32 (Utf8.decode s pos).1]) (a9r w k s (pos+(Utf8.decode s pos).2)):=by
 simp only[Instr.next,getObj,setObj,Sem.run_bind,Sem.run,h,Result.andThen,hp,if_true];simp[goInt,a9r]
theorem b3t (h:w.heap[k]?=some (.stringIter s pos))(hp:¬ pos<s.size)(ty:TypeId):
  (Instr.next (.pointer (some ⟨k,0,none⟩)) true ty).run P w=.ok (.tuple #[.bool false]) w:=by
 simp[Instr.next,getObj,Sem.run,h,hp]
theorem a9s:w.grownBy (a9r w k s pos) (some k) :=
 ⟨rfl,rfl,rfl,by simp[a9r],fun j _ hj=>by
  have:k≠j:=fun e=>hj (by rw[e])
  simp[a9r,this]⟩
theorem b2k (hk:k<w.heap.size):(a9r w k s pos).heap[k]?=some (.stringIter s pos):=by
 simp[a9r,hk]
end
def a1f (s:ByteArray):Nat→Nat→List Int
 | 0,_=>[]
 | b+1,pos=>if pos<s.size then((Utf8.decode s pos).1:Int)::a1f s b (pos+(Utf8.decode s pos).2) else []
def a0a (s:ByteArray):List Int:=a1f s s.size 0
theorem a6c (s:ByteArray)(pos:Nat)(h:pos<s.size):1≤(Utf8.decode s pos).2:=by
 by_cases ha:(s[pos]'h).toNat<128
 ·rw[decode_ascii s pos h ha];exact Nat.le_refl _
 ·exact(decode_high s pos h (by omega)).2
theorem a8i (s:ByteArray):∀(b c pos:Nat),s.size≤pos+b→s.size≤pos+c→a1f s b pos=a1f s c pos
 | 0,c,pos,hb,_=>by
  cases c with
  | zero=>rfl
  | succ c=>rw[a1f,a1f,iN (by omega)]
 | b+1,c,pos,hb,hc=>by
  cases c with
  | zero=>rw[show a1f s (b+1) pos=if pos<s.size then((Utf8.decode s pos).1:Int)::a1f s b (pos+(Utf8.decode s pos).2) else [] from rfl,iN (by omega)];rfl
  | succ c =>
   rw[a1f,a1f];by_cases hp:pos<s.size
   ·have:=a6c s pos hp;rw[iP hp,iP hp,a8i s b c _ (by omega) (by omega)]
   ·rw[iN hp,iN hp]
theorem b0n (s:ByteArray)(h:pos<s.size):a1f s s.size pos=((Utf8.decode s pos).1:Int)::a1f s s.size (pos+(Utf8.decode s pos).2):=by
 have h1:a1f s s.size pos=a1f s (s.size+1) pos:=a8i s _ _ _ (by omega) (by omega);rw[h1,a1f,iP h]
theorem b9k (s:ByteArray)(h:¬ pos<s.size):a1f s s.size pos=[]:=by
 have h1:a1f s s.size pos=a1f s 0 pos:=a8i s _ _ _ (by omega) (by omega);rw[h1];rfl
theorem c6t (s:ByteArray)(pos:Nat):c2i ((Utf8.decode s pos).1:Int):=⟨by omega,by have:=decode_le s pos;omega⟩
theorem b1z (s:ByteArray):∀(b pos:Nat),(a1f s b pos).length≤b
 | 0,_=>Nat.le_refl _
 | b+1,pos=>by
  rw[a1f]
  split
  ·have:=b1z s b (pos+(Utf8.decode s pos).2);simp;omega
  ·simp
theorem b2a (s:ByteArray):(a0a s).length≤s.size:=b1z s _ _
theorem Tryz.infoI32:(prog.info? 21).map (fun i=>(i.zero,i.size,i.bytes))=some (some (.int .i32 0),1,4):=by kernel_rfl
theorem b4k (h:w.heap[k]?=some (.stringIter s pos)):w.iterPos k=pos:=by simp[World.iterPos,h]
theorem a7u (w:World)(s:ByteArray)(hs:s.size≤17592186044000):
  Calls prog 51 #[.string s] w fun e w'=>(∃ v n,e=.returned v∧a2u w' w.heap.size 21 v n (a0a s))∧Below w.heap.size w w':=by
 have hi:=World.iter_heap w s 0;have hb:Below w.heap.size w (w.iter s 0):=(Below.refl _ _).alloc (Nat.le_refl _) _;have hz:(w.iter s 0).heap.size=w.heap.size+1:=by simp[World.iter]
 have HS:=Hd hs;clear hs
 go_enter func51,ntmps51
 go_wp2_with fail
 generalize w.iter s 0=w1 at *
 go_loopw [3] (fun v wr=>∃(pos n:Nat) (xs:List Int),wr.heap[w.heap.size]?=some (.stringIter s pos)∧a2u wr (w.heap.size+1) 21 v n xs∧xs++a1f s s.size pos=a0a s∧n≤pos∧Below w.heap.size w wr) (fun _ w'=>s.size-w'.iterPos w.heap.size)
 case atStart=>exact⟨0,0,[],hi,a2u.nil_ _ _ _,rfl,by omega,hb⟩
 case round =>
  clear hi hb hz;obtain⟨pos,n,xs,hi,hO,hx,hn,hB⟩:=hrel;have hs:=HS.out;have HB:=Hd hB;have HI:=Hd hi
  have hkl:w.heap.size<wr.heap.size:=by
   rcases Nat.lt_or_ge w.heap.size wr.heap.size with hl|hl
   ·exact hl
   ·rw[Array.getElem?_eq_none hl] at hi;cases hi
  by_cases hlt:pos<s.size
  ·have hnx:=fun ty=>b2p (P:=prog) hi hlt ty
   have hg:=a9s (w:=wr) (s:=s) (k:=w.heap.size) (pos:=pos+(Utf8.decode s pos).2);have hi2:=b2k (w:=wr) (s:=s) (pos:=pos+(Utf8.decode s pos).2) hkl;have hO2:=hO.grown hg (by omega);have hB2:=a8a hB (by omega) hg (Nat.le_refl _);have hw:=a6c s pos hlt;have hf:=c6t s pos;have hst:=b0n s hlt;generalize a9r wr w.heap.size s (pos+(Utf8.decode s pos).2)=w2 at *;have HI2:=Hd hi2;have HO2:=Hd hO2;have HB2:=Hd hB2;have HST:=Hd hst;have HX:=Hd hx;have HF:=Hd hf;have hz2:w.heap.size<w2.heap.size:=by have:=hg.size;omega
   clear hi hg hi2 hO hO2 hB2 hst hx hB hs hf;generalize hdr:(Utf8.decode s pos).1=dr at *;generalize hdw:(Utf8.decode s pos).2=dw at *;clear hdr hdw
   go_wp2_with (at_builtin;refine a7y rfl _ _ 93 21 rfl underlying93 Tryz.infoI32 (w.heap.size+1) _ n xs rfl HO2.out ?c1 (dr:Int) ?c2 _ rfl ?c3 ?_)
   case c1=>omega
   case c2=>exact HF
   case c3=>have:=HS.out;omega
   intro v' w3 hO3 hB3 hg3;have hi3:=(hB3.block w.heap.size (by omega)).trans HI2;have hB4:=HB2.trans (hB3.mono (by omega));have HI3:=Hd hi3;clear hi3 hB3 hg3 hnx;go_wp2;go_roundw
   case rel=>exact⟨pos+dw,n+1,xs++[(dr:Int)],HI3,hO3,by rw[←HX.out,HST.out];simp,by omega,hB4⟩
   case measure=>rw[b4k HI3.out,b4k HI.out];omega
  ·have hnx:=fun ty=>b3t (P:=prog) hi hlt ty
   have hxs:xs=a0a s:=by rw[←hx,b9k s hlt,List.append_nil]
   have HXS:=Hd hxs;have HO:=Hd hO;clear hi hxs hx hO hB hs;go_wp2;go_ret;exact⟨⟨_,n,rfl,by rw[←HXS.out];exact HO.mono (by omega)⟩,HB⟩
theorem Tryz.infoInt9:(prog.info? 3).map (fun i=>(i.zero,i.size,i.bytes))=some (some (.int .i64 0),1,8):=by kernel_rfl
def a7k (nm:List Int) (x:Int):ByteArray:=if 0≤x∧x<nm.length then Utf8.encode (nm.getD x.toNat 0) else⟨#[46]⟩
def a3q (nm spec:List Int):ByteArray:=spec.foldl (fun o x=>o++a7k nm x) ByteArray.empty
theorem b5v (r:Int)(hs:s.size≤17592186044000):
  Calls prog 76 #[.string s,.int .i32 r] w fun e w'=>e=.returned (.int .i64 (a4w (a0a s) r))∧Below w.heap.size w w':=by
 have C1:=a7u w s hs;obtain⟨l,hl⟩:∃ l,a0a s=l:=⟨_,rfl⟩;rw[hl] at C1 ⊢;clear hl hs
 go_enter func76,ntmps76
 go_wp2_with fail
 refine C1.mono ?_;rintro e1 w1 ⟨⟨v,n,rfl,hO⟩,hb⟩;obtain⟨A,c,rfl,hc,hI,_⟩:=hO.form;have HB:=Hd hb;have H1:=Hd hI.len;have hle:=hI.le;clear C1 hO hb
 go_wp2_with fail
 go_loop [10] (fun i=>∃ k:Nat,k≤n∧i=.int .i64 k∧r∉l.take k) (fun i=>n-(intOf i).toNat)
 case atStart=>exact⟨0,Nat.zero_le _,rfl,by simp⟩
 case round =>
  obtain⟨k,hk,rfl,hnm⟩:=hrel;have HN:=Hd hnm;clear hnm;by_cases hlt:k<n
  ·obtain⟨ad,y,rfl,hbl,hy,hcy,hf⟩:=hI.at_ hlt;have HY:=Hd hy;clear hy;by_cases hxy:y=r
   ·subst hxy;have HX:=Hd (c2u HY HN);go_wp2;go_ret;exact⟨by rw[HX.out];rfl,HB⟩
   ·have d:(y==r)=false:=by simpa using hxy
    have HXY:=Hd hxy;clear hxy;go_wp2;go_round
    case rel=>exact⟨k+1,by omega,by go_num,by
     rw[List.take_add_one,HY.out];intro hm;rcases List.mem_append.1 hm with hm|hm
     ·exact HN hm
     ·exact HXY (List.mem_singleton.1 hm).symm⟩
    case measure=>simp[intOf];omega
  ·have HX:=Hd (show a4w l r = -1 from c0z (by have h1:=HN.out;rwa [List.take_of_length_le (by have:=H1.out;omega)] at h1));go_wp2;go_ret;exact⟨by rw[HX.out];rfl,HB⟩
theorem c3t (nn:Int)(hs:s.size≤17592186044000):
  Calls prog 75 #[.string s,.int .i64 nn] w fun e w'=>e=.returned (.bool (a7v (a0a s) nn))∧Below w.heap.size w w':=by
 have C1:=a7u w s hs;have HS:=Hd hs;obtain⟨l,hl⟩:∃ l,a0a s=l:=⟨_,rfl⟩;rw[hl] at C1 ⊢;have HL:=Hd hl;clear hl hs
 go_enter func75,ntmps75
 go_wp2_with fail
 refine C1.mono ?_;rintro e1 w1 ⟨⟨v,n,rfl,hO⟩,hb⟩;obtain⟨A,c,rfl,hc,hI,_⟩:=hO.form;have HB:=Hd hb;have H1:=Hd hI.len;have hle:=hI.le;have HI:=Hd hI;clear C1 hO hb hI;by_cases g0:nn<0
 ·have dg0:decide (nn<0)=true:=by simpa using g0
  have HX:=Hd (a4u (l:=l) (n:=nn) (fun h=>by have:=h.1;omega));go_wp2;go_ret;exact⟨a0c HX.symm,HB⟩
 have dg0:decide (nn<0)=false:=by simpa using g0
 by_cases g1:3<nn
 ·have dg1:decide (3<nn)=true:=by simpa using g1
  have HX:=Hd (a4u (l:=l) (n:=nn) (fun h=>by have:=h.2.1;omega));go_wp2;go_ret;exact⟨a0c HX.symm,HB⟩
 have dg1:decide (3<nn)=false:=by simpa using g1
 by_cases g2:¬(n:Int)=nn
 ·have dg2:((n:Int) != nn)=true:=by simpa using g2
  have HX:=Hd (a4u (l:=l) (n:=nn) (fun h=>g2 (by have:=h.2.2.1;rw[H1.out] at this;exact this)));go_wp2;go_ret;exact⟨a0c HX.symm,HB⟩
 have dg2:((n:Int) != nn)=false:=by simpa using g2
 obtain rfl:(n:Int)=nn:=by simpa using g2
 clear g2
 go_wp2_with fail
 go_loopw [24] (fun i wr=>∃ k:Nat,k≤n∧i=.int .i64 k∧(∀ j,j<k→c7v l j)∧Below w1.heap.size w1 wr) (fun i _=>n-(intOf i).toNat)
 case atStart=>exact⟨0,Nat.zero_le _,rfl,fun j hj=>by omega,Below.refl _ _⟩
 case round =>
  obtain⟨k,hk,rfl,hall,hB⟩:=hrel;have HALL:=Hd hall;have HBW:=Hd hB;clear hall;have HIW:=Hd (HI.below hB);clear hB;by_cases hlt:k<n
  ·obtain⟨ad,x,rfl,hbl,hx,hcx,hf⟩:=HIW.at_ hlt;have HX:=Hd hx;have HBAD:=Hd (show ¬(¬ badR x∧a4w l x=k)→a7v l n=false from fun hb=>a4u fun h=>hb (h.2.2.2 k x HX));clear hx;by_cases b0:x<33
   ·have db0:decide (x<33)=true:=by simpa using b0
    have HR:=Hd (HBAD (fun h=>h.1 (by unfold badR;omega)));go_wp2;go_ret;exact⟨a0c HR.symm,a1c HB HBW⟩
   have db0:decide (x<33)=false:=by simpa using b0
   by_cases b1:x=65533
   ·have db1:(x==65533)=true:=by simpa using b1
    have HR:=Hd (HBAD (fun h=>h.1 (by unfold badR;omega)));clear b1;go_wp2;go_ret;exact⟨a0c HR.symm,a1c HB HBW⟩
   have db1:(x==65533)=false:=by simpa using b1
   by_cases b2:x=46
   ·have db2:(x==46)=true:=by simpa using b2
    have HR:=Hd (HBAD (fun h=>h.1 (by unfold badR;omega)));clear b2;go_wp2;go_ret;exact⟨a0c HR.symm,a1c HB HBW⟩
   have db2:(x==46)=false:=by simpa using b2
   by_cases b3:x=45
   ·have db3:(x==45)=true:=by simpa using b3
    have HR:=Hd (HBAD (fun h=>h.1 (by unfold badR;omega)));clear b3;go_wp2;go_ret;exact⟨a0c HR.symm,a1c HB HBW⟩
   have db3:(x==45)=false:=by simpa using b3
   by_cases b4:x=40
   ·have db4:(x==40)=true:=by simpa using b4
    have HR:=Hd (HBAD (fun h=>h.1 (by unfold badR;omega)));clear b4;go_wp2;go_ret;exact⟨a0c HR.symm,a1c HB HBW⟩
   have db4:(x==40)=false:=by simpa using b4
   by_cases b5:x=41
   ·have db5:(x==41)=true:=by simpa using b5
    have HR:=Hd (HBAD (fun h=>h.1 (by unfold badR;omega)));clear b5;go_wp2;go_ret;exact⟨a0c HR.symm,a1c HB HBW⟩
   have db5:(x==41)=false:=by simpa using b5
   have HNB:=Hd (show ¬ badR x by unfold badR;omega);clear b1 b2 b3 b4 b5;have CF:=b5v (w:=wr) (s:=s) x HS;rw[HL.out] at CF
   go_wp2_with fail
   refine CF.mono ?_;rintro e3 w3 ⟨rfl,hb3⟩;have HB3:=Hd hb3;clear CF hb3;obtain⟨f,hf2⟩:∃ f,a4w l x=f:=⟨_,rfl⟩;have HF:=Hd hf2;rw[hf2];clear hf2;by_cases hfk:f=(k:Int)
   ·have dfk:(f != (k:Int))=false:=by simp[hfk]
    have HFK:=Hd hfk;clear hfk;go_wp2;go_roundw
    case rel=>exact⟨k+1,by omega,by go_num,fun j hj=>by
     rcases Nat.lt_or_ge j k with h' | h'
     ·exact HALL j h'
     ·obtain rfl:j=k:=by omega
      intro y hy;rw[HX.out] at hy;injection hy with hy;subst hy
      exact⟨HNB,HF.trans HFK⟩,a1c HBW HB3⟩
    case measure=>simp[intOf];omega
   ·have dfk:(f != (k:Int))=true:=by simpa using hfk
    have HR:=Hd (HBAD (fun h=>hfk (HF.symm.trans h.2)));clear hfk;go_wp2;go_ret;exact⟨a0c HR.symm,a1c (a1c HB HBW) HB3⟩
  ·have HR:=Hd (b1m (l:=l) (n:=(n:Int)) ⟨by omega,by omega,by rw[H1.out],fun i x hx=>HALL.out i (by have:=(lL hx);have:=H1.out;omega) x hx⟩);go_wp2;go_ret;exact⟨a0c HR.symm,a1c HB HBW⟩
theorem b5w {t:ByteArray}(rank:Int)(hs:s.size≤17592186044000)(ht:t.size≤17592186044000):
  Calls prog 41 #[.string s,.string t,.int .i64 rank] w fun e w'=>(∃ v m,e=.returned (.tuple #[v,.bool (a4n (a0a s) (a0a t) rank).2.1,.int .i64 (a4n (a0a s) (a0a t) rank).2.2])∧OwnS w' w.heap.size 3 v m (a4n (a0a s) (a0a t) rank).1)∧Below w.heap.size w w':=by
 have C1:=a7u w t ht;have HS:=Hd hs;obtain⟨nm,hnm⟩:∃ l,a0a s=l:=⟨_,rfl⟩;obtain⟨l,hl⟩:∃ l,a0a t=l:=⟨_,rfl⟩;rw[hl] at C1 ⊢;rw[hnm];have HNM:=Hd hnm;clear hnm hl hs ht
 go_enter func41,ntmps41
 go_wp2_with fail
 refine C1.mono ?_;rintro e1 w1 ⟨⟨v,n,rfl,hO⟩,hb⟩;obtain⟨A,c,rfl,hc,hI,_⟩:=hO.form;have HB:=Hd hb;have H1:=Hd hI.len;have HI:=Hd hI;clear C1 hO hb hI;by_cases g0:16<n
 ·have dg0:decide (16<n)=true:=by simpa using g0
  have HX:=Hd (a6s (nm:=nm) (l:=l) (rank:=rank) (by rw[H1.out];exact g0));go_wp2;go_ret3;rw[HX.out];exact⟨⟨_,0,rfl,OwnS.nil_ _ _ _⟩,HB⟩
 have dg0:decide (16<n)=false:=by simpa using g0
 have hn16:n≤16:=by omega
 have HN16:=Hd (show l.length≤16 by rw[H1.out];exact hn16);clear g0
 go_wp2_with fail
 go_loopw [22,10] (fun i vs wr=>∃(k m:Nat) (out:List Int),k≤n∧i=.int .i64 k∧m≤k∧OwnS wr w1.heap.size 3 vs m out∧a2v nm [] l=a2v nm out (l.drop k)∧Below w1.heap.size w1 wr) (fun i _ _=>n-(intOf i).toNat)
 case atStart=>exact⟨0,0,[],Nat.zero_le _,rfl,Nat.le_refl _,OwnS.nil_ _ _ _,rfl,Below.refl _ _⟩
 case round =>
  obtain⟨k,m,out,hk,rfl,hm,hO,hnl,hB⟩:=hrel;have HNL:=Hd hnl;have HBW:=Hd hB;have HIW:=Hd (HI.below hB);have HOW:=Hd hO;have HOL:=Hd hO.len;clear hnl hB;obtain⟨Ao,co,hv,hco,_,_⟩:=hO.form;subst hv;clear hO;by_cases hlt:k<n
  ·obtain⟨ad,x,rfl,hbl,hx,hcx,hf⟩:=HIW.at_ hlt;have HX:=Hd hx;clear hx;by_cases b0:x=32
   ·subst b0;have HQ:=Hd (HNL.trans (b8l (out:=out) HX));go_wp2;go_roundw
    case rel=>exact⟨k+1,m,out,by omega,by go_num,by omega,HOW,HQ,HBW⟩
    case measure=>simp[intOf];omega
   have db0:(x==32)=false:=by simpa using b0
   by_cases b1:x=46
   ·subst b1;have HQ:=Hd (HNL.trans (b8n (out:=out) HX));clear b0
    go_wp2_with (at_builtin;refine a2m rfl (.tmp 47) (.tmp 49) 25 3 rfl underlying25 Tryz.infoInt9 w1.heap.size _ m out rfl HOW.out (by have:=HBW.out.size;exact this) (-1) ⟨by omega,by omega⟩ _ rfl ?c1 ?_)
    case c1=>omega
    intro v' w' h1 h2 h3;have G1:=Hd h1;have G2:=Hd h2;clear h1 h2 h3;go_wp2;go_roundw
    case rel=>exact⟨k+1,m+1,out++[-1],by omega,by go_num,by omega,G1,HQ,HBW.trans G2⟩
    case measure=>simp[intOf];omega
   have db1:(x != 46)=true:=by simpa using b1
   have CF:=b5v (w:=wr) (s:=s) x HS;rw[HNM.out] at CF
   go_wp2_with fail
   refine CF.mono ?_;rintro e3 w3 ⟨rfl,hb3⟩;have HB3:=Hd hb3;have HO3:=Hd (HOW.below hb3);have HBX:=Hd (a1c HBW hb3);clear CF hb3;obtain⟨f,hf2⟩:∃ f,a4w nm x=f:=⟨_,rfl⟩;have HF:=Hd hf2;have hfb:=b6h nm x;have hnmb:nm.length≤17592186044000:=by rw[←HNM.out];exact Nat.le_trans (b2a s) HS
   rw[hf2] at hfb ⊢;clear hf2;have HB0:=Hd b0;have HB1:=Hd b1;clear b0 b1;by_cases b2:f<0
   ·have db2:decide (f<0)=true:=by simpa using b2
    have HR:=Hd (a8o (rank:=rank) HN16 (HNL.trans (c1r HX HB0 HB1 (by rw[HF.out];exact b2))));go_wp2;go_ret3;rw[HR.out];exact⟨⟨_,0,rfl,OwnS.nil_ _ _ _⟩,a1c HB HBX⟩
   have db2:decide (f<0)=false:=by simpa using b2
   have HB2:=Hd (show ¬ a4w nm x<0 by rw[HF.out];exact b2);obtain⟨w4,rfl⟩:∃ w4:World,w4=w3:=⟨_,rfl⟩;have HI4:=Hd (show Ints w4 Ao m out from by obtain⟨A9,c9,hv9,_,h9,_⟩:=HO3.form;injection hv9 with q1 q2 q3;subst q1;exact h9);have hd3:decide (k<n)=true:=by simpa using hlt
   go_wp2_with fail
   go_loopw [37] (fun i wr=>∃ j:Nat,j≤m∧i=.int .i64 j∧f∉out.take j∧w4=wr) (fun i _=>m-(intOf i).toNat)
   case atStart=>exact⟨0,Nat.zero_le _,rfl,by simp,rfl⟩
   case round =>
    obtain⟨j,hj,rfl,hni,rfl⟩:=hrel;have HNI:=Hd hni;clear hni;by_cases hlj:j<m
    ·obtain⟨oa,y,rfl,_,hy,hcy,_⟩:=HI4.at_ hlj;have HY:=Hd hy;clear hy;by_cases hyf:y=f
     ·have dyf:(y==f)=true:=by simp[hyf]
      have HR:=Hd (a8o (rank:=rank) HN16 (HNL.trans (b8p HX HB0 HB1 (by have:=HB2.out;omega) (by rw[HF.out,←hyf];exact mG HY))));clear hyf;go_wp2;go_ret3;rw[HR.out];exact⟨⟨_,0,rfl,OwnS.nil_ _ _ _⟩,a1c HB HBX⟩
     ·have dyf:(y==f)=false:=by simpa using hyf
      have HYF:=Hd hyf;clear hyf;go_wp2;go_roundw
      case rel=>exact⟨j+1,by omega,by go_num,by
       rw[List.take_add_one,HY.out];intro hm2;rcases List.mem_append.1 hm2 with hm2|hm2
       ·exact HNI hm2
       ·exact HYF (List.mem_singleton.1 hm2).symm,by trivial⟩
      case measure=>simp[intOf];omega
    ·have HNO:=Hd (show a4w nm x∉out by rw[HF.out];have h1:=HNI.out;rwa [List.take_of_length_le (by have:=HOL.out;omega)] at h1);have HQ:=Hd (HNL.trans (c1q HX HB0 HB1 (by have:=HB2.out;omega) HNO))
     go_wp2_with (at_builtin;refine a2m rfl (.tmp 47) (.tmp 49) 25 3 rfl underlying25 Tryz.infoInt9 w1.heap.size _ m out rfl HO3.out (by have:=HBX.out.size;exact this) (f) ⟨by omega,by omega⟩ _ rfl ?c1 ?_)
     case c1=>omega
     intro v' w' h1 h2 h3;have G1:=Hd h1;have G2:=Hd h2;clear h1 h2 h3;go_wp2;go_roundw
     case rel=>exact⟨k+1,m+1,out++[f],by omega,by go_num,by omega,G1,by rw[←HF.out];exact HQ,HBX.trans G2⟩
     case measure=>simp[intOf];omega
  ·have HE:=Hd (HNL.trans (c6b (nm:=nm) (out:=out) (by have:=H1.out;omega)));by_cases m0:m=0
   ·have dm0:((m:Int)==0)=true:=by simp[m0]
    have HR:=Hd (a3x (rank:=rank) HN16 (HE.trans (by rw[List.eq_nil_of_length_eq_zero (HOL.trans m0)])));clear m0;go_wp2;go_ret3;rw[HR.out];exact⟨⟨_,0,rfl,OwnS.nil_ _ _ _⟩,a1c HB HBW⟩
   have dm0:((m:Int)==0)=false:=by simpa using m0
   have HNE:=Hd (show out≠[] from fun h=>m0 (by have:=HOL.out;rw[h] at this;simpa using this.symm));clear m0;by_cases r0:(m:Int)=rank
   ·subst r0;have dr0:((m:Int) != (m:Int))=false:=by simp
    have HR:=Hd (a9c (rank:=(m:Int)) HN16 HE HNE (by rw[HOL.out]));go_wp2;go_ret3;rw[HR.out];exact⟨⟨_,m,rfl,HOW.mono HB.size⟩,a1c HB HBW⟩
   ·have dr0:((m:Int) != rank)=true:=by simpa using r0
    have HR:=Hd (a8p (rank:=rank) HN16 HE HNE (by rw[HOL.out];exact r0));go_wp2;go_ret3;rw[HR.out];exact⟨⟨_,0,rfl,OwnS.nil_ _ _ _⟩,a1c HB HBW⟩
theorem c3z (h:¬(0≤x∧x<nm.length)):a7k nm x=⟨#[46]⟩:=by rw[a7k,iN h]
theorem c6z {x:Nat}{y:Int}(h:nm[x]?=some y):a7k nm (x:Int)=Utf8.encode y:=by
 rw[a7k,iP ⟨by omega,by have:=(lL h);omega⟩,Int.toNat_natCast,gD,h];rfl
theorem c2g {l:List Int}(h:l[k]?=some x):a3q nm (l.take (k+1))=a3q nm (l.take k)++a7k nm x:=by
 rw[a3q,a3q,List.take_add_one,h,List.foldl_append];rfl
theorem d4c (nm:List Int)(x:Int):(a7k nm x).size≤4:=by
 rw[a7k]
 split
 ·exact encode_size_le _
 ·exact(by decide:(⟨#[46]⟩:ByteArray).size≤4)
theorem c1b (nm:List Int):∀(l:List Int) (o:ByteArray),(l.foldl (fun o x=>o++a7k nm x) o).size≤o.size+4*l.length
 | [],o=>by simp
 | x::l,o=>by
  rw[List.foldl_cons];have h1:=c1b nm l (o++a7k nm x);have h2:=d4c nm x;rw[ByteArray.size_append] at h1;rw[List.length_cons];omega
theorem a8t (nm l:List Int):(a3q nm l).size≤4*l.length:=by
 have:=c1b nm l ByteArray.empty;rw[ByteArray.size_empty] at this;rw[a3q];omega
theorem b5x {A:Option Addr}{n c:Nat}{spec:List Int}(hs:s.size≤17592186044000)(hA:Ints w A n spec)(hn:n≤17592186044000):
  Calls prog 27 #[.string s,.slice A n c] w fun e w'=>e=.returned (.string (a3q (a0a s) spec))∧Below w.heap.size w w':=by
 have C1:=a7u w s hs;obtain⟨nm,hnm⟩:∃ l,a0a s=l:=⟨_,rfl⟩;rw[hnm] at C1 ⊢;clear hnm hs;have HA:=Hd hA;have HAL:=Hd hA.len;have HAN:=Hd hn;clear hA hn
 go_enter func27,ntmps27
 go_wp2_with fail
 refine C1.mono ?_;rintro e1 w1 ⟨⟨v,m,rfl,hO⟩,hb⟩;obtain⟨R,rc,rfl,hrc,hI,_⟩:=hO.form;have HB:=Hd hb;have H1:=Hd hI.len;have HI:=Hd hI;have HS:=Hd (HA.below hb);have hle:=hI.le;clear C1 hO hb hI
 go_wp2_with fail
 go_loop [12,6] (fun i sv=>∃ k:Nat,k≤n∧i=.int .i64 k∧sv=.string (a3q nm (spec.take k))) (fun i _=>n-(intOf i).toNat)
 case atStart=>exact⟨0,Nat.zero_le _,rfl,rfl⟩
 case round =>
  obtain⟨k,hk,rfl,rfl⟩:=hrel;by_cases hlt:k<n
  ·obtain⟨sa,x,rfl,_,hx,hcx,hfx⟩:=HS.at_ hlt;have HST:=Hd (c2g (nm:=nm) hx);have hsz:=a8t nm (spec.take k);rw[List.length_take] at hsz;obtain⟨T0,hT0⟩:∃ T0,a3q nm (spec.take k)=T0:=⟨_,rfl⟩;rw[hT0] at hsz ⊢;have HT0:=Hd hT0;have hn9:=HAN.out;clear hx hT0;by_cases b0:x<0
   ·have db0:decide (x<0)=true:=by simpa using b0
    have HQ:=Hd (show a3q nm (spec.take (k+1))=T0++⟨#[46]⟩ by rw[HST.out,HT0.out,c3z (by omega)]);have hsum:T0.size+(⟨#[46]⟩:ByteArray).size≤9223372036854775807:=by have:(⟨#[46]⟩:ByteArray).size=1:=rfl;omega
    go_wp2;go_round
    case rel=>exact⟨k+1,by omega,by go_num,by rw[HQ.out]⟩
    case measure=>simp[intOf];omega
   have db0:decide (x<0)=false:=by simpa using b0
   by_cases b1:(m:Int)≤x
   ·have db1:decide ((m:Int)≤x)=true:=by simpa using b1
    have HQ:=Hd (show a3q nm (spec.take (k+1))=T0++⟨#[46]⟩ by rw[HST.out,HT0.out,c3z (by have:=H1.out;omega)]);have hsum:T0.size+(⟨#[46]⟩:ByteArray).size≤9223372036854775807:=by have:(⟨#[46]⟩:ByteArray).size=1:=rfl;omega
    go_wp2;go_round
    case rel=>exact⟨k+1,by omega,by go_num,by rw[HQ.out]⟩
    case measure=>simp[intOf];omega
   have db1:decide ((m:Int)≤x)=false:=by simpa using b1
   obtain⟨xn,rfl⟩:=eZ (by omega:0≤x);have hxm:xn<m:=by omega
   have db2:decide (m≤xn)=false:=by simp;omega
   clear b0 b1;obtain⟨ra,y,rfl,_,hy,hcy,_⟩:=HI.at_ hxm;have HQ:=Hd (show a3q nm (spec.take (k+1))=T0++Utf8.encode y by rw[HST.out,HT0.out,c6z hy]);have hsum:T0.size+(Utf8.encode y).size≤9223372036854775807:=by have:=encode_size_le y;omega
   clear hy;go_wp2;go_round
   case rel=>exact⟨k+1,by omega,by go_num,by rw[HQ.out]⟩
   case measure=>simp[intOf];omega
  ·have hkn:k=n:=by omega
   subst hkn;have HE:=Hd (show spec.take k=spec from List.take_of_length_le (by have:=HAL.out;omega));go_wp2;go_ret;exact⟨by rw[HE.out];rfl,HB⟩
end Go.Proofs.YtdcmanhgekjhgaaGreatDoor
