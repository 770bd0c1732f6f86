import Derived.Test.YtjblengklgkgfaaGreatPaf
set_option maxRecDepth 100000
set_option maxHeartbeats 12800000
namespace Go.Proofs.YtjblengklgkgfaaGreat
open Go.RowKit Go.Proofs.Tryz
variable {L:List (List Int)} {Q:Exit→Act→World→Prop} {S:Option Addr} {a:Act} {g j k n pos sc sn:Nat} {l nm out s:List Int} {o:Oper} {ops:Array Oper} {pool:List a0c} {r rank x:Int} {rest:List Oper} {us:List Value} {v:Value} {w w0:World}
theorem e0q:(prog.info? 22).map (fun i=>(i.zero,i.size,i.bytes))=some (some (.slice none 0 0),1,24):=by kernel_rfl
theorem b4i:∃ i,prog.info? 22=some i∧i.zero=some (.slice none 0 0)∧i.size=1∧i.bytes=24:=by
 have h:=e0q
 cases e:prog.info? 22 with
 | none=>rw[e] at h;cases h
 | some i =>
  rw[e] at h;simp only[Option.map_some,Option.some.injEq,Prod.mk.injEq] at h;exact⟨i,rfl,h.1,h.2.1,h.2.2⟩
theorem a2t (hgd:o.guard=none)(s y:Operand)(t:TypeId)
  (ho:o.op=.call { callee:=.builtin .append,args:=#[s,y],argTypes:=#[t,t] })(ht:prog.underlying t=some (.slice 22))
  {l:List a0c}(H:Sep w0 w l)(i:Nat)(hi:l[i]?=some (.row 22 1 v n us))(hs:a.eval s=v)(c:Nat)(hy:a.eval y=.slice (some ⟨w.heap.size,0,none⟩) 1 c)
  (hn:n≤1000)
  (h:∀ v' w', Sep w0 w' (l.set i (.row 22 1 v' (n+1) (us++[.slice S sn sc])))→wpList prog ops Q rest (a.put o.dst v') w'):
  wpList prog ops Q (o::rest) a (w.alloc (.cells #[.slice S sn sc] 22)):=by
 obtain⟨ti,h1,h2,h3,h4⟩:=b4i;have H':=H.below ((Below.refl w.heap.size w).alloc (Nat.le_refl _) (.cells #[.slice S sn sc] 22));have hsz:=H'.size;refine wpList_append_own_at _ hgd s y t ho w0.heap.size 22 ti _ 1 24 ht h1 h2 h3 h4 (by rfl) (by omega) v n us hs (H'.at_ i hi) ⟨w.heap.size,0,none⟩ 1 c [.slice S sn sc] hy rfl ?_ (by simp[Value.oneCell']) (by unfold maxLen;omega) (by omega) hsz ?_
 ·intro j u hj;have hb:=heap_alloc_new w (.cells #[.slice S sn sc] 22)
  match j,hj with
  | 0,hj=>simp at hj;subst hj;exact cell_of_row _ _ 0 _ _ _ hb
  | j+1,hj=>simp at hj
 ·intro v' w' h5 h6 _ h8
  exact h v' w' (H'.change i hi h6 h5 fun b hb=>by
   have hb:v'.ownBlock=some b:=hb;rcases h8 with e|e
   ·exact .inl (e.symm.trans hb)
   ·rw[e] at hb;injection hb with hb;subst hb;exact .inr (Nat.le_refl _))
def a9o (us:List Value) (L:List (List Int)) (pool:List a0c):Prop:=us.length=L.length∧∀(j:Nat) (s:List Int),L[j]?=some s→∃(S:Option Addr) (sn sc p:Nat),us[j]?=some (.slice S sn sc)∧pool[p]?=some (a0c.own 3 (.slice S sn sc) sn s)
theorem b1e:a9o [] [] pool:=⟨rfl,fun j t h=>by simp at h⟩
theorem a9o.shift {c:a0c}(h:a9o us L pool):a9o us L (c::pool) :=
 ⟨h.1,fun j s hs=>by
  obtain⟨S,sn,sc,p,h1,h2⟩:=h.2 j s hs
  exact⟨S,sn,sc,p+1,h1,h2⟩⟩
theorem a9o.snoc {p:Nat}(h:a9o us L pool)(hp:pool[p]?=some (a0c.own 3 (.slice S sn sc) sn s)):a9o (us++[.slice S sn sc]) (L++[s]) pool:=by
 obtain⟨hl,h⟩:=h;refine⟨by simp[hl],fun j u hu=>?_⟩;rcases Nat.lt_or_ge j L.length with hj|hj
 ·rw[List.getElem?_append_left hj] at hu;obtain⟨S', sn', sc', p', h1,h2⟩:=h j u hu;exact⟨S', sn', sc', p', by rw[List.getElem?_append_left (by omega)];exact h1,h2⟩
 ·rw[List.getElem?_append_right hj] at hu
  have hj' : j=L.length:=by
   rcases Nat.eq_or_lt_of_le hj with e|e
   ·exact e.symm
   ·obtain⟨m,hm⟩:∃ m,j-L.length=m+1:=⟨j-L.length-1,by omega⟩;rw[hm] at hu;simp at hu
  subst hj';simp at hu;subst hu;exact⟨S,sn,sc,p,by rw[List.getElem?_append_right (by omega),hl];simp,hp⟩
theorem a9o.more (h:a9o us L pool):a9o (us++[.slice S sn sc]) (L++[s]) (a0c.own 3 (.slice S sn sc) sn s::pool) :=
 h.shift.snoc (p:=0) rfl
theorem a3j (g j:Nat):(⟨g,0,none⟩:Addr).add j=⟨g,j,none⟩:=by
 by_cases h:j=0
 ·subst h;rfl
 ·simp[Addr.add,h]
theorem a8q {l:List a0c}(i:Nat)(h:Sep w0 w l)(hi:l[i]?=some (.row 22 1 v n us))(hP:a9o us L pool)(hn:L.length=n)(hn2:n≤900)(f:Nat)(hf:∀ i,l[i+f]?=pool[i]?):
  ∃ A c,v=.slice A n c∧n≤c∧Lils w A n L:=by
 have hr:w.ownsRow w0.heap.size 22 1 v n us:=h.at_ i hi;rcases Nat.eq_zero_or_pos n with e|e
 ·subst e;have hT:∀ A,Lils w A 0 L:=fun A=>⟨hn,by omega,fun j t ht=>by rw[List.eq_nil_of_length_eq_zero hn] at ht;simp at ht⟩
  rcases hr.2 with ⟨hv,_⟩|⟨g,cap,cur,hv,_⟩
  ·exact⟨none,0,hv,Nat.le_refl _,hT _⟩
  ·exact⟨_,cap,hv,Nat.zero_le _,hT _⟩
 ·obtain⟨g,c,rfl,hc⟩:=h.rowForm i hi e;refine⟨_,c,rfl,hc,hn,hn2,fun j s hs=>?_⟩;have hj:j<L.length:=(lL hs);obtain⟨S,sn,sc,p,h1,h2⟩:=hP.2 j s hs;have hlt:=(World.ownsRow.lt hr g rfl).2;have hp:=h.ownInts (p+f) ((hf p).trans h2);refine⟨⟨g,0,none⟩,S,sn,sc,rfl,hlt,?_,hp.2.1,hp.2.2⟩;rw[a3j,hr.cellAt j (by omega),h1]
theorem b7r {l:List a0c}{c:Nat}(h:Sep w0 w l)(i:Nat)(hi:l[i]?=some (.row 22 1 (.slice (some ⟨g,0,none⟩) n c) n us)){u:Value}(hu:us[j]?=some u)(hj:j<n):w.cell? ((⟨g,0,none⟩:Addr).add j)=some u:=by
 have hr:w.ownsRow w0.heap.size 22 1 (.slice (some ⟨g,0,none⟩) n c) n us:=h.at_ i hi;rw[a3j,hr.cellAt j (by omega),hu]
def b6a:List Int→Int→Nat→Int
 | [],_,_ => -1
 | x::l,r,k=>if x=r then k else b6a l r (k+1)
def a5l (l:List Int) (r:Int):Int:=b6a l r 0
theorem c1e {r:Int}:∀ {l:List Int} {k:Nat},r∉l→b6a l r k = -1
 | [],_,_=>rfl
 | x::l,k,h=>by
  rw[b6a,iN (fun e=>h (by simp[e])),c1e (fun hm=>h (List.mem_cons_of_mem _ hm))]
theorem c1x (h:r∉l):a5l l r = -1:=c1e h
theorem c8w {r:Int}:∀ {l:List Int} {k j:Nat},l[j]?=some r→r∉l.take j→b6a l r k=((k+j:Nat):Int)
 | [],_,_,h,_=>by simp at h
 | x::l,k,0,h,_=>by simp at h;subst h;rw[b6a,iP rfl];rfl
 | x::l,k,j+1,h,hn=>by
  rw[List.take_succ_cons] at hn;rw[b6a,iN (fun e=>hn (by simp[e])),c8w (j:=j) (by simpa using h) (fun hm=>hn (List.mem_cons_of_mem _ hm))]
  congr 1;omega
theorem c3u (h:l[j]?=some r)(hn:r∉l.take j):a5l l r=(j:Int):=by
 have:=c8w (k:=0) h hn;rwa [Nat.zero_add] at this
theorem c3v (l:List Int)(r:Int): -1≤a5l l r∧a5l l r<l.length:=by
 have:∀(l:List Int) (k:Nat),-1≤b6a l r k∧b6a l r k<((k+l.length:Nat):Int):=by
  intro l
  induction l with
  | nil=>intro k;rw[b6a];exact⟨by omega,by omega⟩
  | cons x l ih =>
   intro k;rw[b6a];have:=ih (k+1);rw[List.length_cons]
   split <;> omega
 have:=this l 0;rw[Nat.zero_add] at this;exact this
def badR (x:Int):Prop:=x<33∨x=65533∨x=46∨x=45∨x=40∨x=41
def c7m (l:List Int) (i:Nat):Prop:=∀ x,l[i]?=some x→¬ badR x∧a5l l x=i
def c4x (l:List Int) (n:Int):Prop:=0≤n∧n≤3∧(l.length:Int)=n∧∀ i,c7m l i
open Classical in
noncomputable def a9a (l:List Int) (n:Int):Bool:=decide (c4x l n)
open Classical in
theorem b1y {n:Int}(h:c4x l n):a9a l n=true:=decide_eq_true h
open Classical in
theorem a5o {n:Int}(h:¬ c4x l n):a9a l n=false:=decide_eq_false h
def a5y (nm out:List Int) (r:Int):Option (List Int) :=
 if r=32 then some out else if r=46 then some (out++[-1]) else if a5l nm r<0 then none else if a5l nm r∈out then none else some (out++[a5l nm r])
def a5e (nm:List Int):List Int→List Int→Option (List Int)
 | out,[]=>some out
 | out,r::l=>(a5y nm out r).bind fun o=>a5e nm o l
def b0e (nm l:List Int) (rank:Int):List Int × Bool × Int :=
 if 16<l.length then([],false,14) else
  match a5e nm [] l with
  | none=>([],false,14)
  | some out=>if out=[] then([],false,0) else if (out.length:Int)=rank then(out,true,0) else([],false,14)
theorem b5c (h:16<l.length):b0e nm l rank=([],false,14):=by rw[b0e,iP h]
theorem b7t (h:l.length≤16)(g:a5e nm [] l=none):b0e nm l rank=([],false,14):=by rw[b0e,iN (by omega),g]
theorem b0b (h:l.length≤16)(g:a5e nm [] l=some []):b0e nm l rank=([],false,0):=by rw[b0e,iN (by omega),g];rfl
theorem c1r (h:l.length≤16)(g:a5e nm [] l=some out)(hne:out≠[])(hr:(out.length:Int)≠rank):b0e nm l rank=([],false,14):=by
 rw[b0e,iN (by omega),g]
 show(if out=[] then _ else _)=_
 rw[iN hne,iN hr]
theorem c2x (h:l.length≤16)(g:a5e nm [] l=some out)(hne:out≠[])(hr:(out.length:Int)=rank):b0e nm l rank=(out,true,0):=by
 rw[b0e,iN (by omega),g]
 show(if out=[] then _ else _)=_
 rw[iN hne,iP hr]
theorem b2a {y:Int}(h:l[j]?=some y):l.drop j=y::l.drop (j+1):=by
 obtain⟨hj,rfl⟩:=List.getElem?_eq_some_iff.1 h;exact List.drop_eq_getElem_cons hj
theorem b8w (h:l[k]?=some 32):a5e nm out (l.drop k)=a5e nm out (l.drop (k+1)):=by rw[b2a h,a5e,a5y,iP rfl];rfl
theorem b9z (h:l[k]?=some 46):a5e nm out (l.drop k)=a5e nm (out++[-1]) (l.drop (k+1)):=by rw[b2a h,a5e,a5y,iN (by decide),iP rfl];rfl
theorem c1a (h:l[k]?=some r)(h1:r≠32)(h2:r≠46)(h3:a5l nm r<0):a5e nm out (l.drop k)=none:=by rw[b2a h,a5e,a5y,iN h1,iN h2,iP h3];rfl
theorem b9f (h:l[k]?=some r)(h1:r≠32)(h2:r≠46)(h3:¬ a5l nm r<0)(h4:a5l nm r∈out):a5e nm out (l.drop k)=none:=by rw[b2a h,a5e,a5y,iN h1,iN h2,iN h3,iP h4];rfl
theorem c1k (h:l[k]?=some r)(h1:r≠32)(h2:r≠46)(h3:¬ a5l nm r<0)(h4:a5l nm r∉out):a5e nm out (l.drop k)=a5e nm (out++[a5l nm r]) (l.drop (k+1)):=by rw[b2a h,a5e,a5y,iN h1,iN h2,iN h3,iN h4];rfl
theorem c5l (h:l.length≤k):a5e nm out (l.drop k)=some out:=by rw[List.drop_eq_nil_of_le h];rfl
def c3s (x:Int):Prop := -2147483648≤x∧x≤2147483647
def a4t (w:World) (A:Option Addr) (n:Nat) (xs:List Int):Prop :=
 xs.length=n∧n≤9223372036854775807∧(∀ x∈xs,c3s x) ∧
 (0<n→∃ ad,A=some ad∧ad.block<w.heap.size∧∀ j x,xs[j]?=some x→w.cell? (ad.add j)=some (.int .i32 x))
section
variable {w w' : World} {A : Option Addr} {n : Nat} {xs : List Int}
theorem a4t.len (h:a4t w A n xs):xs.length=n:=h.1
theorem a4t.le (h:a4t w A n xs):n≤9223372036854775807:=h.2.1
theorem a4t.fit (h:a4t w A n xs):∀ x∈xs,c3s x:=h.2.2.1
theorem a4t.nil_ (w:World)(A:Option Addr):a4t w A 0 []:=⟨rfl,by omega,by simp,fun h=>absurd h (by omega)⟩
theorem a4t.at_ (h:a4t w A n xs)(hk:k<n):
  ∃ ad x,A=some ad∧ad.block<w.heap.size∧xs[k]?=some x∧w.cell? (ad.add k)=some (.int .i32 x)∧c3s x:=by
 obtain⟨ad,e,hb,hc⟩:=h.2.2.2 (by omega);have hl:k<xs.length:=by have:=h.1;omega
 exact⟨ad,xs[k],e,hb,List.getElem?_eq_getElem hl,hc k _ (List.getElem?_eq_getElem hl),h.2.2.1 _ (List.getElem_mem hl)⟩
theorem a4t.get {ad:Addr}(h:a4t w (some ad) n xs)(hx:xs[k]?=some x):w.cell? (ad.add k)=some (.int .i32 x):=by
 have hk:k<n:=by rw[←h.1];exact(lL hx)
 obtain⟨ad', e,_,hc⟩:=h.2.2.2 (by omega);injection e with e
 subst e;exact hc k x hx
theorem a4t.keep (h:a4t w A n xs)(hs:w.heap.size≤w'.heap.size)(hk:∀ p:Addr,p.block<w.heap.size→w'.cell? p=w.cell? p):a4t w' A n xs :=
 ⟨h.1,h.2.1,h.2.2.1,fun hn=>by
  obtain⟨ad,e,hb,hc⟩:=h.2.2.2 hn
  exact⟨ad,e,by omega,fun j u hu=>(hk _ (by rw[a0g];exact hb)).trans (hc j u hu)⟩⟩
theorem a4t.grown (h:a4t w A n xs){row:Option Nat}(hg:w.grownBy w' row)(hne:∀ ad,A=some ad→0<n→some ad.block≠row):a4t w' A n xs :=
 ⟨h.1,h.2.1,h.2.2.1,fun hn=>by
  obtain⟨ad,e,hb,hc⟩:=h.2.2.2 hn
  exact⟨ad,e,by have:=hg.size;omega,fun j u hu=>hg.cell (hc j u hu) (by rw[a0g];exact hne ad e hn)⟩⟩
theorem a4t.below (h:a4t w A n xs)(hb:Below w.heap.size w w'):a4t w' A n xs:=h.keep hb.size fun _ hp=>hb.cell hp
theorem a4t.drew (h:a4t w A n xs):a4t w.drew A n xs:=h
theorem a4t.drewN (h:a4t w A n xs)(k:Nat):a4t (w.drewN k) A n xs:=h
theorem a4t.alloc (h:a4t w A n xs)(o:Obj):a4t (w.alloc o) A n xs:=h.keep (by simp) fun p hp=>World.cell?_alloc_lt w o p hp
end
def OwnR (w:World) (base:Nat) (e:TypeId) (g n c:Nat) (xs:List Int):Prop :=
 w.ownsRow base e 1 (.slice (some ⟨g,0,none⟩) n c) n (xs.map (Value.int .i32))∧(∀ x∈xs,c3s x)∧n≤9223372036854775807
section
variable {w w' : World} {base g n c : Nat} {e : TypeId} {xs : List Int}
theorem OwnR.len (h:OwnR w base e g n c xs):xs.length=n:=by simpa using h.1.1
theorem OwnR.base_ (h:OwnR w base e g n c xs):base≤g∧g<w.heap.size:=h.1.lt g rfl
theorem OwnR.cap (h:OwnR w base e g n c xs):n≤c:=by
 rcases h.1.2 with ⟨h', _⟩|⟨g', c', cur,h', _,_,hnc,_⟩
 ·simp at h'
 ·simp only[Value.slice.injEq,Option.some.injEq,Addr.mk.injEq,and_true,true_and] at h';obtain⟨rfl,rfl⟩:=h';exact hnc
theorem OwnR.cell (h:OwnR w base e g n c xs)(hx:xs[j]?=some x):w.cell? ⟨g,j,none⟩=some (.int .i32 x):=by
 have hj:j<n:=by rw[←h.len];exact(lL hx)
 rw[h.1.cellAt j (by omega),List.getElem?_map,hx];rfl
theorem OwnR.blk (h:OwnR w base e g n c xs):∃ cs,w.heap[g]?=some (.cells cs e (0,0)):=by
 rcases h.1.2 with ⟨h', _⟩|⟨g', c', cur,h', _,hh,_⟩
 ·simp at h'
 ·simp only[Value.slice.injEq,Option.some.injEq,Addr.mk.injEq,and_true,true_and] at h';obtain⟨rfl,rfl⟩:=h';exact⟨cur,hh⟩
theorem OwnR.frozen (h:OwnR w base e g n c xs)(j:Nat):w.frozen? ⟨g,j,none⟩=false:=h.1.frozenAt j
theorem OwnR.ints (h:OwnR w base e g n c xs):a4t w (some ⟨g,0,none⟩) n xs :=
 ⟨h.len,h.2.2,h.2.1,fun _=>⟨_,rfl,h.base_.2,fun _ _ hx=>by rw[Addr.add_lit,Nat.zero_add];exact h.cell hx⟩⟩
theorem OwnR.below (h:OwnR w base e g n c xs)(hb:Below w.heap.size w w'):OwnR w' base e g n c xs:=by
 refine⟨h.1.kept (row:=none) ⟨hb.os,hb.tape,hb.output,hb.size,fun k hk _=>hb.block k hk⟩ (.inr (by simp[Value.ownBlock])),h.2.1,h.2.2⟩
theorem OwnR.drewN (h:OwnR w base e g n c xs)(k:Nat):OwnR (w.drewN k) base e g n c xs:=h
theorem OwnR.store (h:OwnR w base e g n c xs)(j:Nat){u:Int}(hu:c3s u):OwnR (w.setCell ⟨g,j,none⟩ (.int .i32 u)) base e g n c (xs.set j u):=by
 refine⟨?_,?_,h.2.2⟩
 ·have:=(h.1.stored j (.int .i32 u)).1;rwa [←List.map_set] at this
 ·intro x hx;rcases List.mem_or_eq_of_mem_set hx with hx|rfl
  ·exact h.2.1 x hx
  ·exact hu
end
def a3v (w:World) (base:Nat) (e:TypeId) (v:Value) (n:Nat) (xs:List Int):Prop :=
 w.ownsRow base e 1 v n (xs.map (Value.int .i32))∧(∀ x∈xs,c3s x)∧n≤9223372036854775807
section
variable {w w' : World} {base n : Nat} {e : TypeId} {v : Value} {xs : List Int}
theorem a3v.nil_ (w:World)(base:Nat)(e:TypeId):a3v w base e (.slice none 0 0) 0 []:=⟨World.ownsRow_nil w base e 1,by simp,by omega⟩
theorem a3v.len (h:a3v w base e v n xs):xs.length=n:=by simpa using h.1.1
theorem a3v.grown (h:a3v w base e v n xs)(hg:w.grownBy w' (some g))(hb:g<base):a3v w' base e v n xs :=
 ⟨h.1.kept hg (by
  cases hv:v.ownBlock with
  | none=>exact .inl rfl
  | some k=>right;have:=(h.1.lt k hv).1;intro hk;injection hk with hk;omega),h.2.1,h.2.2⟩
theorem a3v.below (h:a3v w base e v n xs)(hb:Below w.heap.size w w'):a3v w' base e v n xs :=
 ⟨h.1.kept (row:=none) (a3c hb none) (by cases v.ownBlock with|none=>exact .inl rfl|some k=>exact .inr (by simp)),h.2.1,h.2.2⟩
theorem a3v.alloc (h:a3v w base e v n xs)(o:Obj):a3v (w.alloc o) base e v n xs:=⟨h.1.alloc o,h.2.1,h.2.2⟩
theorem a3v.drew (h:a3v w base e v n xs):a3v w.drew base e v n xs:=h
theorem a3v.drewN (h:a3v w base e v n xs)(k:Nat):a3v (w.drewN k) base e v n xs:=h
theorem a3v.form (h:a3v w base e v n xs):∃ A c,v=.slice A n c∧n≤c∧a4t w A n xs∧∀ ad,A=some ad→base≤ad.block:=by
 rcases h.1.2 with ⟨rfl,rfl⟩|⟨g,c,cur,rfl,hb,hh,hnc,_⟩
 ·have:xs=[]:=List.eq_nil_of_length_eq_zero h.len;subst this;exact⟨none,0,rfl,by omega,a4t.nil_ _ _,by simp⟩
 ·have hO:OwnR w base e g n c xs:=h;exact⟨_,c,rfl,hnc,hO.ints,fun ad he=>by injection he with he;subst he;exact hb⟩
theorem a3v.grownNe (h:a3v w base e v n xs){row:Option Nat}(hg:w.grownBy w' row)(hb:∀ k,v.ownBlock=some k→some k≠row):a3v w' base e v n xs :=
 ⟨h.1.kept hg (by
  cases hv:v.ownBlock with
  | none=>exact .inl rfl
  | some k=>exact .inr (hb k hv)),h.2.1,h.2.2⟩
theorem a3v.blk (h:a3v w base e v n xs)(hk:v.ownBlock=some k):∃ cs,w.heap[k]?=some (.cells cs e (0,0)):=by
 rcases h.1.2 with ⟨rfl,rfl⟩|⟨g,c,cur,rfl,_,hh,_⟩
 ·simp[Value.ownBlock] at hk
 ·simp only[Value.ownBlock,Option.some.injEq] at hk;subst hk;exact⟨cur,hh⟩
theorem a3v.apart (h:a3v w base e v n xs){cs:Array Value}{t:TypeId}{f:Nat × Nat}(hk:w.heap[k]?=some (.cells cs t f))(ht:e≠t):∀ j,v.ownBlock=some j→some j≠some k:=by
 intro j hj he;obtain⟨cs', hb⟩:=h.blk hj;exact a4d hb hk ht (by injection he)
theorem a3v.mono {base' : Nat}(h:a3v w base e v n xs)(hb:base' ≤ base):a3v w base' e v n xs:=by
 refine⟨⟨h.1.1,?_⟩,h.2⟩;rcases h.1.2 with hh|⟨g,cap,cur,h1,h2,h3⟩
 ·exact .inl hh
 ·exact .inr ⟨g,cap,cur,h1,Nat.le_trans hb h2,h3⟩
theorem a3v.own (h:a3v w base e v n xs)(hn:0<n):∃ g c,v=.slice (some ⟨g,0,none⟩) n c∧OwnR w base e g n c xs:=by
 rcases h.1.2 with ⟨rfl,rfl⟩|⟨g,c,cur,rfl,hb,hh,hnc,_⟩
 ·omega
 ·exact⟨g,c,rfl,h⟩
theorem a3v.block (h:a3v w base e v n xs)(k:Nat)(hk:v.ownBlock=some k):base≤k:=(h.1.lt k hk).1
end
theorem b4s {P:Program}(hgd:o.guard=none)(s y:Operand)(t e:TypeId)
  (ho:o.op=.call { callee:=.builtin .append,args:=#[s,y],argTypes:=#[t,t] })(ht:P.underlying t=some (.slice e))
  (hinfo:(P.info? e).map (fun i=>(i.zero,i.size,i.bytes))=some (some (.int .i32 0),1,4))
  (base:Nat)(v:Value)(n:Nat)(xs:List Int)(hs:a.eval s=v)(hown:a3v w base e v n xs)(hb:base≤w.heap.size)(x:Int)(hf:c3s x)(c:Nat)(hy:a.eval y=.slice (some ⟨w.heap.size,0,none⟩) 1 c)
  (hn:n≤17592186044000)
  (h:∀ v' w', a3v w' base e v' (n+1) (xs++[x])→Below base w w' → w.grownBy w' v.ownBlock→wpList P ops Q rest (a.put o.dst v') w'):
  wpList P ops Q (o::rest) a (w.alloc (.cells #[.int .i32 x] e)):=by
 obtain⟨i,hi,hz0,hz1,hz2⟩:=info_parts hinfo;refine wpList_append_own _ hgd s y t ho base e i (.int .i32 0) 1 4 ht hi hz0 hz1 hz2 rfl (by decide) v n _ hs (hown.alloc _).1 ⟨w.heap.size,0,none⟩ 1 c [.int .i32 x] hy rfl ?_ ?_ (by unfold maxLen;omega) (by omega) (by simp;omega) ?_
 ·intro j u hj
  cases j with
  | zero=>simp at hj;subst hj;rw[Addr.add_lit,World.cell?_alloc_at _ _ _ _ rfl];rfl
  | succ j=>simp at hj
 ·intro u hu;simp at hu;subst hu;rfl
 ·intro v' w' ho' hg' _;have hO:a3v w' base e v' (n+1) (xs++[x]):=⟨by simpa using ho', by intro z hz;simp at hz;rcases hz with hz|rfl;exact hown.2.1 z hz;exact hf,by omega⟩;have hgr:w.grownBy w' v.ownBlock:=a1b (World.grownBy_alloc w _ _) hg';exact h v' w' hO ((Below.refl _ _).grown hgr hb (fun k hk=>hown.block k hk)) hgr
def b0t (w:World) (k:Nat) (s:ByteArray) (pos:Nat):World:={ w with heap:=w.heap.setIfInBounds k (.stringIter s pos) }
section
variable {P : Program} {w : World} {s : ByteArray} {k pos : Nat}
theorem b9c (h:w.heap[k]?=some (.stringIter s pos))(hp:pos<s.size)(ty:TypeId):
  (Instr.next (.pointer (some ⟨k,0,none⟩)) true ty).run P w=.ok (.tuple #[.bool true,.int .i64 pos,.int .i32 (Utf8.decode s pos).1]) (b0t w k s (pos+(Utf8.decode s pos).2)):=by
 simp only[Instr.next,getObj,setObj,Sem.run_bind,Sem.run,h,Result.andThen,hp,if_true];simp[goInt,b0t]
theorem b3x (h:w.heap[k]?=some (.stringIter s pos))(hp:¬ pos<s.size)(ty:TypeId):
  (Instr.next (.pointer (some ⟨k,0,none⟩)) true ty).run P w=.ok (.tuple #[.bool false]) w:=by
 simp[Instr.next,getObj,Sem.run,h,hp]
theorem b6h:w.grownBy (b0t w k s pos) (some k) :=
 ⟨rfl,rfl,rfl,by simp[b0t],fun j _ hj=>by
  have:k≠j:=fun e=>hj (by rw[e])
  simp[b0t,this]⟩
theorem b9q (hk:k<w.heap.size):(b0t w k s pos).heap[k]?=some (.stringIter s pos):=by
 simp[b0t,hk]
end
def a2u (s:ByteArray):Nat→Nat→List Int
 | 0,_=>[]
 | b+1,pos=>if pos<s.size then((Utf8.decode s pos).1:Int)::a2u s b (pos+(Utf8.decode s pos).2) else []
def a0k (s:ByteArray):List Int:=a2u s s.size 0
theorem b0k (s:ByteArray)(pos:Nat)(h:pos<s.size):1≤(Utf8.decode s pos).2:=by
 by_cases ha:(s[pos]'h).toNat<128
 ·rw[decode_ascii s pos h ha];exact Nat.le_refl _
 ·exact(decode_high s pos h (by omega)).2
theorem a8j (s:ByteArray):∀(b c pos:Nat),s.size≤pos+b→s.size≤pos+c→a2u s b pos=a2u s c pos
 | 0,c,pos,hb,_=>by
  cases c with
  | zero=>rfl
  | succ c=>rw[a2u,a2u,iN (by omega)]
 | b+1,c,pos,hb,hc=>by
  cases c with
  | zero=>rw[show a2u s (b+1) pos=if pos<s.size then((Utf8.decode s pos).1:Int)::a2u s b (pos+(Utf8.decode s pos).2) else [] from rfl,iN (by omega)];rfl
  | succ c =>
   rw[a2u,a2u];by_cases hp:pos<s.size
   ·have:=b0k s pos hp;rw[iP hp,iP hp,a8j s b c _ (by omega) (by omega)]
   ·rw[iN hp,iN hp]
theorem b6f (s:ByteArray)(h:pos<s.size):a2u s s.size pos=((Utf8.decode s pos).1:Int)::a2u s s.size (pos+(Utf8.decode s pos).2):=by
 have h1:a2u s s.size pos=a2u s (s.size+1) pos:=a8j s _ _ _ (by omega) (by omega);rw[h1,a2u,iP h]
theorem b9b (s:ByteArray)(h:¬ pos<s.size):a2u s s.size pos=[]:=by
 have h1:a2u s s.size pos=a2u s 0 pos:=a8j s _ _ _ (by omega) (by omega);rw[h1];rfl
theorem c4m (s:ByteArray)(pos:Nat):c3s ((Utf8.decode s pos).1:Int):=⟨by omega,by have:=decode_le s pos;omega⟩
theorem b2l (s:ByteArray):∀(b pos:Nat),(a2u s b pos).length≤b
 | 0,_=>Nat.le_refl _
 | b+1,pos=>by
  rw[a2u]
  split
  ·have:=b2l s b (pos+(Utf8.decode s pos).2);simp;omega
  ·simp
theorem b2j (s:ByteArray):(a0k s).length≤s.size:=b2l s _ _
theorem Tryz.infoI32:(prog.info? 21).map (fun i=>(i.zero,i.size,i.bytes))=some (some (.int .i32 0),1,4):=by kernel_rfl
theorem b5y {s:ByteArray}(h:w.heap[k]?=some (.stringIter s pos)):w.iterPos k=pos:=by simp[World.iterPos,h]
theorem a8b (w:World)(s:ByteArray)(hs:s.size≤17592186044000):
  Calls prog 48 #[.string s] w fun e w'=>(∃ v n,e=.returned v∧a3v w' w.heap.size 21 v n (a0k s))∧Below w.heap.size w w':=by
 have hi:=World.iter_heap w s 0;have hb:Below w.heap.size w (w.iter s 0):=(Below.refl _ _).alloc (Nat.le_refl _) _;have hz:(w.iter s 0).heap.size=w.heap.size+1:=by simp[World.iter]
 have HS:=Hd hs;clear hs
 go_enter func48,ntmps48
 go_wp2_with fail
 generalize w.iter s 0=w1 at *
 go_loopw [3] (fun v wr=>∃(pos n:Nat) (xs:List Int),wr.heap[w.heap.size]?=some (.stringIter s pos)∧a3v wr (w.heap.size+1) 21 v n xs∧xs++a2u s s.size pos=a0k s∧n≤pos∧Below w.heap.size w wr) (fun _ w'=>s.size-w'.iterPos w.heap.size)
 case atStart=>exact⟨0,0,[],hi,a3v.nil_ _ _ _,rfl,by omega,hb⟩
 case round =>
  clear hi hb hz;obtain⟨pos,n,xs,hi,hO,hx,hn,hB⟩:=hrel;have hs:=HS.out;have HB:=Hd hB;have HI:=Hd hi
  have hkl:w.heap.size<wr.heap.size:=by
   rcases Nat.lt_or_ge w.heap.size wr.heap.size with hl|hl
   ·exact hl
   ·rw[Array.getElem?_eq_none hl] at hi;cases hi
  by_cases hlt:pos<s.size
  ·have hnx:=fun ty=>b9c (P:=prog) hi hlt ty
   have hg:=b6h (w:=wr) (s:=s) (k:=w.heap.size) (pos:=pos+(Utf8.decode s pos).2);have hi2:=b9q (w:=wr) (s:=s) (pos:=pos+(Utf8.decode s pos).2) hkl;have hO2:=hO.grown hg (by omega);have hB2:=a4x hB (by omega) hg (Nat.le_refl _);have hw:=b0k s pos hlt;have hf:=c4m s pos;have hst:=b6f s hlt;generalize b0t wr w.heap.size s (pos+(Utf8.decode s pos).2)=w2 at *;have HI2:=Hd hi2;have HO2:=Hd hO2;have HB2:=Hd hB2;have HST:=Hd hst;have HX:=Hd hx;have HF:=Hd hf;have hz2:w.heap.size<w2.heap.size:=by have:=hg.size;omega
   clear hi hg hi2 hO hO2 hB2 hst hx hB hs hf;generalize hdr:(Utf8.decode s pos).1=dr at *;generalize hdw:(Utf8.decode s pos).2=dw at *;clear hdr hdw
   go_wp2_with (at_builtin;refine b4s rfl _ _ 81 21 rfl underlying81 Tryz.infoI32 (w.heap.size+1) _ n xs rfl HO2.out ?c1 (dr:Int) ?c2 _ rfl ?c3 ?_)
   case c1=>omega
   case c2=>exact HF
   case c3=>have:=HS.out;omega
   intro v' w3 hO3 hB3 hg3;have hi3:=(hB3.block w.heap.size (by omega)).trans HI2;have hB4:=HB2.trans (hB3.mono (by omega));have HI3:=Hd hi3;clear hi3 hB3 hg3 hnx;go_wp2;go_roundw
   case rel=>exact⟨pos+dw,n+1,xs++[(dr:Int)],HI3,hO3,by rw[←HX.out,HST.out];simp,by omega,hB4⟩
   case measure=>rw[b5y HI3.out,b5y HI.out];omega
  ·have hnx:=fun ty=>b3x (P:=prog) hi hlt ty
   have hxs:xs=a0k s:=by rw[←hx,b9b s hlt,List.append_nil]
   have HXS:=Hd hxs;have HO:=Hd hO;clear hi hxs hx hO hB hs;go_wp2;go_ret;exact⟨⟨_,n,rfl,by rw[←HXS.out];exact HO.mono (by omega)⟩,HB⟩
end Go.Proofs.YtjblengklgkgfaaGreat
