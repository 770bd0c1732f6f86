import Derived.Test.YtdcmanhgekjhgaaDoorPaa
set_option maxRecDepth 100000
set_option maxHeartbeats 12800000
namespace Go.Proofs.YtdcmanhgekjhgaaDoor
open Go.RowKit Go.Proofs.Tryd
variable {j k:Nat} {l nm out:List Int} {n r rank:Int}
def b1 (n:Nat):ByteArray:=⟨#[UInt8.ofNat n]⟩
def digs:Nat→Nat→ByteArray
 | 0,_=>⟨#[]⟩
 | f+1,k=>if k=0 then⟨#[]⟩ else digs f (k / 10)++b1 (48+k % 10)
def numT (n:Int):ByteArray:=if n=0 then b1 48 else if n<0 then b1 45++digs 20 n.natAbs else digs 20 n.natAbs
def spT:ByteArray:=⟨#[32]⟩
def lfT:ByteArray:=⟨#[10]⟩
def a1q (o:ByteArray) (l:List Int):ByteArray:=l.foldl (fun o x=>o++spT++numT x) o
def c1v:ByteArray:=⟨#[32,40]⟩
def c7p:ByteArray:=⟨#[32,41]⟩
def a4i (l:List Int):ByteArray:=a1q c1v l++c7p
def opN:List ByteArray :=
 [⟨#[]⟩,⟨#[112,97,114,97,109]⟩,⟨#[102,105,108,108]⟩,⟨#[105,111,116,97]⟩,⟨#[110,101,103]⟩,⟨#[110,111,116]⟩,⟨#[97,100,100]⟩,⟨#[115,117,98]⟩,⟨#[109,117,108]⟩,⟨#[109,105,110]⟩,⟨#[109,97,120]⟩,⟨#[108,101,115,115]⟩,
 ⟨#[115,101,108,101,99,116]⟩,⟨#[116,117,114,110]⟩,⟨#[115,112,114,101,97,100]⟩,⟨#[115,108,105,99,101]⟩,⟨#[112,97,100]⟩,⟨#[106,111,105,110]⟩,⟨#[102,111,108,100]⟩,⟨#[100,111,116]⟩,⟨#[119,105,110,100,111,119]⟩]
def a3f (op:Int):ByteArray:=if op<1∨20<op then⟨#[]⟩ else opN.getD op.toNat ⟨#[]⟩
def a2g:ByteArray:=⟨#[45]⟩
theorem a3v:∀(f k:Nat),(digs f k).size≤f
 | 0,_=>Nat.le_refl 0
 | f+1,k=>by
  rw[digs];split
  ·exact Nat.zero_le _
  ·rw[ByteArray.size_append];have:=a3v f (k / 10);have:(b1 (48+k % 10)).size=1:=rfl;omega
theorem a3a (n:Int):(numT n).size≤21:=by
 unfold numT;split
 ·show 1≤21;omega
 ·split
  ·rw[ByteArray.size_append];have:=a3v 20 n.natAbs;have:(b1 45).size=1:=rfl;omega
  ·have:=a3v 20 n.natAbs;omega
theorem a2v:∀(l:List Int) (o:ByteArray),(a1q o l).size≤o.size+22*l.length
 | [],o=>by simp[a1q]
 | x::l,o=>by
  have h:=a2v l (o++spT++numT x);have e:a1q o (x::l)=a1q (o++spT++numT x) l:=rfl;rw[e];have h2:=a3a x;have h3:spT.size=1:=rfl;rw[ByteArray.size_append,ByteArray.size_append,h3] at h;simp only[List.length_cons];omega
theorem a2u (l:List Int):(a4i l).size≤4+22*l.length:=by
 have h:=a2v l c1v;have h1:c1v.size=2:=rfl;have h2:c7p.size=2:=rfl;rw[a4i,ByteArray.size_append];omega
theorem b1p (op:Int):(a3f op).size≤6:=by
 unfold a3f;split
 ·show 0≤6;omega
 ·have h:∀ k:Nat,(opN.getD k ⟨#[]⟩).size≤6:=by
   intro k;by_cases hk:k<21
   ·have:∀ j:Fin 21,(opN.getD j.val ⟨#[]⟩).size≤6:=by decide
    exact this ⟨k,hk⟩
   ·rw[gD,List.getElem?_eq_none (by show 21≤k;omega)];exact Nat.zero_le 6
  exact h _
theorem b8y {x:Int}(o:ByteArray)(h:l[k]?=some x):a1q o (l.take (k+1))=a1q o (l.take k)++spT++numT x:=by
 rw[List.take_add_one,h];simp[a1q,List.foldl_append]
theorem a5l (l:List Int)(k:Nat)(o:ByteArray)(h:k≤l.length):(a1q o (l.take k)).size≤o.size+22*k:=by
 have:=a2v (l.take k) o;rw[List.length_take,Nat.min_eq_left h] at this;exact this
def a7g:List Int→Int→Nat→Int
 | [],_,_ => -1
 | x::l,r,k=>if x=r then k else a7g l r (k+1)
def a2p (l:List Int) (r:Int):Int:=a7g l r 0
theorem b1i {r:Int}:∀ {l:List Int} {k:Nat},r∉l→a7g l r k = -1
 | [],_,_=>rfl
 | x::l,k,h=>by
  rw[a7g,iN (fun e=>h (by simp[e])),b1i (fun hm=>h (List.mem_cons_of_mem _ hm))]
theorem b8a (h:r∉l):a2p l r = -1:=b1i h
theorem b6x {r:Int}:∀ {l:List Int} {k j:Nat},l[j]?=some r→r∉l.take j→a7g l r k=((k+j:Nat):Int)
 | [],_,_,h,_=>by simp at h
 | x::l,k,0,h,_=>by simp at h;subst h;rw[a7g,iP rfl];rfl
 | x::l,k,j+1,h,hn=>by
  rw[List.take_succ_cons] at hn;rw[a7g,iN (fun e=>hn (by simp[e])),b6x (j:=j) (by simpa using h) (fun hm=>hn (List.mem_cons_of_mem _ hm))]
  congr 1;omega
theorem b6w (h:l[j]?=some r)(hn:r∉l.take j):a2p l r=(j:Int):=by
 have:=b6x (k:=0) h hn;rwa [Nat.zero_add] at this
theorem b2g (l:List Int)(r:Int): -1≤a2p l r∧a2p l r<l.length:=by
 have:∀(l:List Int) (k:Nat),-1≤a7g l r k∧a7g l r k<((k+l.length:Nat):Int):=by
  intro l
  induction l with
  | nil=>intro k;rw[a7g];exact⟨by omega,by omega⟩
  | cons x l ih =>
   intro k;rw[a7g];have:=ih (k+1);rw[List.length_cons]
   split <;> omega
 have:=this l 0;rw[Nat.zero_add] at this;exact this
def badR (x:Int):Prop:=x<33∨x=65533∨x=46∨x=45∨x=40∨x=41
def b9t (l:List Int) (i:Nat):Prop:=∀ x,l[i]?=some x→¬ badR x∧a2p l x=i
def b1g (l:List Int) (n:Int):Prop:=0≤n∧n≤3∧(l.length:Int)=n∧∀ i,b9t l i
open Classical in
noncomputable def a4v (l:List Int) (n:Int):Bool:=decide (b1g l n)
open Classical in
theorem b1w (h:b1g l n):a4v l n=true:=decide_eq_true h
open Classical in
theorem a4b (h:¬ b1g l n):a4v l n=false:=decide_eq_false h
def a1e (nm out:List Int) (r:Int):Option (List Int) :=
 if r=32 then some out else if r=46 then some (out++[-1]) else if a2p nm r<0 then none else if a2p nm r∈out then none else some (out++[a2p nm r])
def a1k (nm:List Int):List Int→List Int→Option (List Int)
 | out,[]=>some out
 | out,r::l=>(a1e nm out r).bind fun o=>a1k nm o l
def a2b (nm l:List Int) (rank:Int):List Int × Bool × Int :=
 if 16<l.length then([],false,14) else
  match a1k nm [] l with
  | none=>([],false,14)
  | some out=>if out=[] then([],false,0) else if (out.length:Int)=rank then(out,true,0) else([],false,14)
theorem a3z (h:16<l.length):a2b nm l rank=([],false,14):=by rw[a2b,iP h]
theorem a6m (h:l.length≤16)(g:a1k nm [] l=none):a2b nm l rank=([],false,14):=by rw[a2b,iN (by omega),g]
theorem a2z (h:l.length≤16)(g:a1k nm [] l=some []):a2b nm l rank=([],false,0):=by rw[a2b,iN (by omega),g];rfl
theorem a5d (h:l.length≤16)(g:a1k nm [] l=some out)(hne:out≠[])(hr:(out.length:Int)≠rank):a2b nm l rank=([],false,14):=by
 rw[a2b,iN (by omega),g]
 show(if out=[] then _ else _)=_
 rw[iN hne,iN hr]
theorem a6n (h:l.length≤16)(g:a1k nm [] l=some out)(hne:out≠[])(hr:(out.length:Int)=rank):a2b nm l rank=(out,true,0):=by
 rw[a2b,iN (by omega),g]
 show(if out=[] then _ else _)=_
 rw[iN hne,iP hr]
theorem a6e {y:Int}(h:l[j]?=some y):l.drop j=y::l.drop (j+1):=by
 obtain⟨hj,rfl⟩:=List.getElem?_eq_some_iff.1 h;exact List.drop_eq_getElem_cons hj
theorem b5x (h:l[k]?=some 32):a1k nm out (l.drop k)=a1k nm out (l.drop (k+1)):=by rw[a6e h,a1k,a1e,iP rfl];rfl
theorem b5y (h:l[k]?=some 46):a1k nm out (l.drop k)=a1k nm (out++[-1]) (l.drop (k+1)):=by rw[a6e h,a1k,a1e,iN (by decide),iP rfl];rfl
theorem b8w (h:l[k]?=some r)(h1:r≠32)(h2:r≠46)(h3:a2p nm r<0):a1k nm out (l.drop k)=none:=by rw[a6e h,a1k,a1e,iN h1,iN h2,iP h3];rfl
theorem b5z (h:l[k]?=some r)(h1:r≠32)(h2:r≠46)(h3:¬ a2p nm r<0)(h4:a2p nm r∈out):a1k nm out (l.drop k)=none:=by rw[a6e h,a1k,a1e,iN h1,iN h2,iN h3,iP h4];rfl
theorem b8v (h:l[k]?=some r)(h1:r≠32)(h2:r≠46)(h3:¬ a2p nm r<0)(h4:a2p nm r∉out):a1k nm out (l.drop k)=a1k nm (out++[a2p nm r]) (l.drop (k+1)):=by rw[a6e h,a1k,a1e,iN h1,iN h2,iN h3,iN h4];rfl
theorem c1s (h:l.length≤k):a1k nm out (l.drop k)=some out:=by rw[List.drop_eq_nil_of_le h];rfl
end Go.Proofs.YtdcmanhgekjhgaaDoor
