import Derived.Test.YtdcmanhgekjhgaaGreatDoorPar
set_option maxRecDepth 100000
set_option maxHeartbeats 12800000
namespace Go.Proofs.YtdcmanhgekjhgaaGreatDoor
open Go.RowKit Go.Proofs.Tryz
variable {A:Option Addr} {G:a1d} {K c g i n:Nat} {l:List a0e} {nm:List Int} {w w0:World}
noncomputable def a4o (nm:List Int) (note:ByteArray) (rank:Int):ByteArray :=
 if (a4n nm (a0a note) rank).2.1=true then a3q nm (a4n nm (a0a note) rank).1 else a4d
noncomputable def a9z (nm:List Int) (o:ByteArray) (nd:a0l) (s:List Int):ByteArray :=
 o++a5s nd.op++a7c nd.ins++a7c nd.shape++a7c nd.a++spT++numT nd.n++spT++numT nd.how++spT++a4o nm nd.note s.length++lfT
noncomputable def a4i (nm:List Int):ByteArray→List a0l→List (List Int)→ByteArray
 | o,nd::N,s::L=>a4i nm (a9z nm o nd s) N L
 | o,_,_=>o
def c8y:ByteArray:=⟨#[109,101,115,104,32,45]⟩
def c5t:ByteArray:=⟨#[109,101,115,104,32]⟩
def a8c (G:a1d):ByteArray:=a3j (if G.names=⟨#[]⟩ then c8y else c5t++G.names) G.sizes++lfT
def a9p:ByteArray:=⟨#[111,117,116,115]⟩
noncomputable def a3f (G:a1d) (L:List (List Int)):ByteArray:=a3j (a4i (a0a G.names) (a8c G) G.nodes L++a9p) G.outs++lfT
noncomputable def a4f (G:a1d):ByteArray × Int :=
 if (a0f G).1≠0 then(⟨#[]⟩,(a0f G).1)
 else if 65536<(a3f G (a0f G).2).size then(⟨#[]⟩,3) else(a3f G (a0f G).2,0)
theorem c6d {o p:List Int}{r:Int}(h:a2b nm o r=some p):p.length≤o.length+1:=by
 unfold a2b at h
 split at h
 ·injection h with h;subst h;omega
 ·split at h
  ·injection h with h;subst h;simp
  ·split at h
   ·cases h
   ·split at h
    ·cases h
    ·injection h with h;subst h;simp
theorem b8m {nm:List Int}:∀(l o p:List Int),a2v nm o l=some p→p.length≤o.length+l.length
 | [],o,p,h=>by
  have:o=p:=by simpa [a2v] using h
  subst this;omega
 | r::l,o,p,h=>by
  rw[a2v] at h
  cases hs:a2b nm o r with
  | none=>rw[hs] at h;cases h
  | some q =>
   rw[hs] at h;have h1:=b8m l q p h;have h2:=c6d hs;simp only[List.length_cons];omega
theorem b3j (nm l:List Int)(rank:Int):(a4n nm l rank).1.length≤16:=by
 by_cases h:16<l.length
 ·rw[a6s h];simp
 ·cases g:a2v nm [] l with
  | none=>rw[a8o (by omega) g];simp
  | some out =>
   have:=b8m _ _ _ g;simp only[List.length_nil] at this;by_cases he:out=[]
   ·subst he;rw[a3x (by omega) g];simp
   ·by_cases hr:(out.length:Int)=rank
    ·rw[a9c (by omega) g he hr];show out.length≤16;omega
    ·rw[a8p (by omega) g he hr];simp
theorem b4s (nm:List Int)(t:ByteArray)(r:Int):(a4o nm t r).size≤64:=by
 unfold a4o;split
 ·have h:=a8t nm (a4n nm (a0a t) r).1;have:=b3j nm (a0a t) r;omega
 ·show 1≤64;omega
theorem d3a (nm:List Int)(o:ByteArray)(nd:a0l)(s:List Int):(a9z nm o nd s).size≤o.size+128+22*(nd.ins.length+nd.shape.length+nd.a.length):=by
 have h1:=b4r nd.op;have h2:=a4e nd.ins;have h3:=a4e nd.shape;have h4:=a4e nd.a;have h5:=a3y nd.n;have h6:=a3y nd.how;have h7:=b4s nm nd.note s.length;have h8:spT.size=1:=rfl;have h9:lfT.size=1:=rfl;simp only[a9z,ByteArray.size_append,h8,h9];omega
theorem b8b (nm:List Int)(q:Nat):∀(N:List a0l) (L:List (List Int)) (o:ByteArray),(∀ nd∈N,Few q nd)→(a4i nm o N L).size≤o.size+N.length*(128+66*q)
 | [],L,o,_=>by cases L <;> simp[a4i]
 | nd::N,[],o,_=>by simp[a4i]
 | nd::N,s::L,o,h=>by
  rw[a4i];have h1:=b8b nm q N L (a9z nm o nd s) (fun x hx=>h x (List.mem_cons_of_mem _ hx));have h2:=d3a nm o nd s;obtain⟨a,b,c⟩:=h nd List.mem_cons_self;have h3:(N.length+1)*(128+66*q)=N.length*(128+66*q)+(128+66*q):=Nat.succ_mul _ _;rw[List.length_cons,h3];omega
theorem c1k (G:a1d):(a8c G).size≤G.names.size+7+22*G.sizes.length:=by
 have h:=a6t G.sizes (if G.names=⟨#[]⟩ then c8y else c5t++G.names);have h9:lfT.size=1:=rfl
 have:(if G.names=⟨#[]⟩ then c8y else c5t++G.names).size≤G.names.size+6:=by
  split
  ·show 6≤_;omega
  ·rw[ByteArray.size_append];show 5+_≤_;omega
 rw[a8c,ByteArray.size_append];omega
theorem b8a (nm:List Int)(nd:a0l)(s:List Int):∀(N:List a0l) (L:List (List Int)) (o:ByteArray),N.length=L.length→a4i nm o (N++[nd]) (L++[s])=a9z nm (a4i nm o N L) nd s
 | [],[],o,_=>rfl
 | _::N,_::L,o,hl=>by
  show a4i nm (a9z nm o _ _) (N++[nd]) (L++[s])=_
  rw[b8a nm nd s N L _ (by simpa using hl)];rfl
 | [],_::_,o,hl=>by simp at hl
 | _::_,[],o,hl=>by simp at hl
theorem b8c {o:ByteArray}{N:List a0l}{L:List (List Int)}{k:Nat}{nd:a0l}{s:List Int}(h1:N[k]?=some nd)(h2:L[k]?=some s):
  a4i nm o (N.take (k+1)) (L.take (k+1))=a9z nm (a4i nm o (N.take k) (L.take k)) nd s:=by
 have e1:=(lL h1);have e2:=(lL h2);rw[List.take_add_one,List.take_add_one,h1,h2];exact b8a nm nd s _ _ o (by rw[List.length_take,List.length_take];omega)
theorem b0a {q:Nat}(h:FewG q G)(hq:q≤80000)(nm:List Int)(L:List (List Int))(k:Nat)(o:ByteArray):(a4i nm o (G.nodes.take k) L).size≤o.size+422410240000:=by
 have h2:=b8b nm q (G.nodes.take k) L o (fun nd hn=>by
  obtain⟨i,hi,e⟩:=List.getElem_of_mem (List.mem_of_mem_take hn)
  exact h.each i nd (by rw[List.getElem?_eq_getElem hi,e]))
 have h3:(G.nodes.take k).length≤80000:=by have:=h.nodes;rw[List.length_take];omega
 have h4:(G.nodes.take k).length*(128+66*q)≤80000*(128+66*80000):=Nat.mul_le_mul h3 (by omega);omega
theorem b0p (h:(a0f G).1=0):a0m (a0a G.names) [] G.nodes=(0,(a0f G).2)∧(a0f G).2.length=G.nodes.length:=by
 have e:a0m (a0a G.names) [] G.nodes=(0,(a0f G).2):=by
  unfold a0f at h ⊢
  split
  ·rename_i h1;rw[iP h1] at h
   split
   ·rename_i h2;rw[iP h2] at h
    split
    ·rename_i h3;rw[iP h3] at h
     split
     ·exact Prod.ext h3 rfl
     ·rename_i h4;rw[iN h4] at h;cases h
    ·rename_i h3;rw[iN h3] at h;exact absurd h h3
   ·rename_i h2;rw[iN h2] at h;cases h
  ·rename_i h1;rw[iN h1] at h;cases h
 exact⟨e,by simpa using b6a _ _ _ _ e⟩
theorem b0s (h:(a0f G).1≠0):a4f G=(⟨#[]⟩,(a0f G).1):=by rw[a4f,iP h]
theorem a6u (h:(a0f G).1=0)(g:65536<(a3f G (a0f G).2).size):a4f G=(⟨#[]⟩,3):=by rw[a4f,iN (by simpa using h),iP g]
theorem a9i (h:(a0f G).1=0)(g:¬ 65536<(a3f G (a0f G).2).size):a4f G=(a3f G (a0f G).2,0):=by rw[a4f,iN (by simpa using h),iN g]
def opT1:ByteArray:=⟨#[40]⟩
def shT1:ByteArray:=⟨#[41]⟩
noncomputable def a2x:List ByteArray→Bool→List Int × List ByteArray × Bool
 | [],b=>([],[],b)
 | x::L,true=>([],x::L,true)
 | x::L,false=>((a0t x).1::(a2x L (!(a0t x).2)).1,(a2x L (!(a0t x).2)).2)
noncomputable def a2j:List ByteArray→List Int × List ByteArray × Bool
 | []=>([0],[],true)
 | x::M=>if x=shT1 then([],M,false) else if (a0t x).2=true then((a0t x).1::(a2j M).1,(a2j M).2) else([(a0t x).1],M,true)
noncomputable def a1w (L:List ByteArray) (b:Bool):List Int × List ByteArray × Bool :=
 if L.headD ⟨#[]⟩≠opT1∨(b||L.isEmpty)=true then([],L.drop 1,true) else a2j (L.drop 1)
noncomputable def a1x (s:ByteArray):a0l × Bool :=
 let W:=a0u s
 let f1:=a1w (W.drop 1) W.isEmpty
 let f2:=a1w f1.2.1 f1.2.2
 let f3:=a1w f2.2.1 f2.2.2
 let v1:=a0t (f3.2.1.headD ⟨#[]⟩)
 let q1:=(f3.2.2||f3.2.1.isEmpty) || !v1.2
 let L5:=f3.2.1.drop 1
 let v2:=a0t (L5.headD ⟨#[]⟩)
 let q2:=(q1||L5.isEmpty) || !v2.2
 let L6:=L5.drop 1
 let note:=L6.headD ⟨#[]⟩
 let q3:=(q2||L6.isEmpty)||decide (note=⟨#[]⟩)
 (⟨opF (W.headD ⟨#[]⟩),f1.1,f2.1,f3.1,v1.1,v2.1,if note=a4d then⟨#[]⟩ else note⟩,decide (0<opF (W.headD ⟨#[]⟩)) && !q3&&(L6.drop 1).isEmpty)
def a9b:ByteArray:=⟨#[109,101,115,104]⟩
noncomputable def a4y (s:ByteArray):ByteArray × List Int × Bool :=
 let W:=a0u s
 let W1:=W.drop 1
 let nm:=W1.headD ⟨#[]⟩
 let R:=a2x (W1.drop 1) (W.isEmpty||W1.isEmpty)
 let ok:=decide (W.headD ⟨#[]⟩=a9b) && !decide (nm=⟨#[]⟩)
 (if nm=a4d then⟨#[]⟩ else nm,R.1,(ok&&(!decide (nm=a4d)||decide (R.1.length=0))) && !R.2.2)
noncomputable def a1s:List ByteArray→List a0l × Bool
 | []=>([],true)
 | s::L=>if (a1x s).2=true then((a1x s).1::(a1s L).1,(a1s L).2) else([],false)
noncomputable def a5x (s:ByteArray):List Int × Bool :=
 let W:=a0u s
 let R:=a2x (W.drop 1) W.isEmpty
 (R.1,decide (W.headD ⟨#[]⟩=a9p) && !R.2.2)
def gZ:a1d:=⟨[],⟨#[]⟩,[],[]⟩
noncomputable def a2r (s:ByteArray):a1d × Int :=
 if 65536<s.size then(gZ,3)
 else if (a0z s).2=false∨(a0z s).1.length<2 then(gZ,12)
 else if (a4y ((a0z s).1.headD ⟨#[]⟩)).2.2=false∨(a1s ((a0z s).1.drop 1).dropLast).2=false∨(a5x ((a0z s).1.getLastD ⟨#[]⟩)).2=false then(gZ,12)
 else if (a0f ⟨(a4y ((a0z s).1.headD ⟨#[]⟩)).2.1,(a4y ((a0z s).1.headD ⟨#[]⟩)).1,(a1s ((a0z s).1.drop 1).dropLast).1,(a5x ((a0z s).1.getLastD ⟨#[]⟩)).1⟩).1≠0 then
  (gZ,(a0f ⟨(a4y ((a0z s).1.headD ⟨#[]⟩)).2.1,(a4y ((a0z s).1.headD ⟨#[]⟩)).1,(a1s ((a0z s).1.drop 1).dropLast).1,(a5x ((a0z s).1.getLastD ⟨#[]⟩)).1⟩).1)
 else if (a4f ⟨(a4y ((a0z s).1.headD ⟨#[]⟩)).2.1,(a4y ((a0z s).1.headD ⟨#[]⟩)).1,(a1s ((a0z s).1.drop 1).dropLast).1,(a5x ((a0z s).1.getLastD ⟨#[]⟩)).1⟩).1≠s then(gZ,12)
 else(⟨(a4y ((a0z s).1.headD ⟨#[]⟩)).2.1,(a4y ((a0z s).1.headD ⟨#[]⟩)).1,(a1s ((a0z s).1.drop 1).dropLast).1,(a5x ((a0z s).1.getLastD ⟨#[]⟩)).1⟩,0)
theorem addZ (a:Addr):a.add 0=a:=by cases a;rfl
theorem e6d (a:Addr)(j:Nat):(a.add 1).add j=a.add (j+1):=by rw[b0w,Nat.add_comm]
def Strs (w:World) (K:Nat) (A:Option Addr) (n:Nat) (L:List ByteArray):Prop :=
 L.length=n∧n≤90001∧(∀ x∈L,x.size≤90000)∧∀ j x,L[j]?=some x→∃ a,A=some a∧a.block<w.heap.size∧w.cell? (a.add j)=some (.string x)∧a.block=K
theorem Strs.below {w':World}{L:List ByteArray}(h:Strs w K A n L)(hb:Below w.heap.size w w'):Strs w' K A n L :=
 ⟨h.1,h.2.1,h.2.2.1,fun j x hx=>by
  obtain⟨a,e,hl,h0,hk⟩:=h.2.2.2 j x hx
  exact⟨a,e,by have:=hb.size;omega,(hb.cell (by rw[a0d];exact hl)).trans h0,hk⟩⟩
theorem c4b (w:World)(K:Nat)(A:Option Addr):Strs w K A 0 []:=⟨rfl,by omega,by simp,fun j x h=>by simp at h⟩
theorem d3v {w1:World}{s:ByteArray}{L:List ByteArray}(hL:Strs w1 K A n (s::L))(hc:n≤c):∃ A2:Option Addr,(∀ w,(Instr.slice 32 (.slice A n c) (some (.int .i64 1)) none none).run prog w=.ok (.slice A2 (n-1) (c-1)) w)∧Strs w1 K A2 (n-1) L:=by
 have hu:prog.underlying 32=some (.slice 9):=by kernel_rfl
 obtain⟨a,rfl,_⟩:=hL.2.2.2 0 s rfl;have hn:L.length+1=n:=hL.1;have hn9:=hL.2.1;by_cases hc1:c=1
 ·subst hc1;have h1:n=1:=by omega
  subst h1;obtain rfl:L=[]:=List.eq_nil_of_length_eq_zero (by omega);refine⟨some a,fun w=>?_,c4b _ _ _⟩
  go_simp
 ·refine⟨some (a.add 1),fun w=>?_,by omega,by omega,fun x hx=>hL.2.2.1 x (List.mem_cons_of_mem _ hx),fun j x hx=>?_⟩
  ·have h1:1≤n:=by omega
   have h2:1≤c:=by omega
   go_simp
   intro h;omega
  ·obtain⟨a', h1,h2,h3,h4⟩:=hL.2.2.2 (j+1) x hx;injection h1 with h1;subst h1
   exact⟨a.add 1,rfl,by rw[a0d];exact h2,by rw[e6d];exact h3,by rw[a0d];exact h4⟩
def RdTo (w0:World) (K:Nat) (l:List a0e) (i g:Nat) (L:List ByteArray) (b:Bool) (w' : World):Prop :=
 ∃ A n c,Sep w0 w' (l.set i (.box g 100 [.slice A n c,.bool b]))∧Strs w0 K A n L∧n≤c
theorem a5f {b:Bool}{L:List ByteArray}(H:Sep w0 w l)(hi:l[i]?=some (.box g 100 [.slice A n c,.bool b]))(hS:Strs w0 K A n L)(hc:n≤c):
  Calls prog 53 #[.pointer (some ⟨g,0,none⟩)] w fun e w'=>e=.returned (.string (L.headD ⟨#[]⟩))∧RdTo w0 K l i g (L.drop 1) (b||L.isEmpty) w':=by
 go_enter func53,ntmps53
 have c0:=H.cell i 0 hi rfl;have c1:=H.cell i 1 hi rfl;have f0:=H.frozenBox i 0 hi;have f1:=H.frozenBox i 1 hi
 cases L with
 | nil =>
  obtain rfl:n=0:=hS.1.symm;have h2:=H.setBox i 1 (.bool true) hi;have HH:=Hd h2;have HS:=Hd hS;clear H hS h2 hi;go_wp2;go_ret
  exact⟨rfl,A,0,c,by have:=HH.out;simpa using this,HS,by omega⟩
 | cons x L =>
  obtain⟨a,rfl,ha,hx,_⟩:=hS.2.2.2 0 x rfl;obtain⟨A2,hr,hS2⟩:=d3v hS hc;have hn:n=L.length+1:=hS.1.symm;have HX:=H.oldCell (p:=a) ha (by rwa [addZ] at hx);have hn0:0<n:=by omega
  have dn:((n:Int)==0)=false:=by simp;omega
  have h2:=H.setBox i 0 (.slice A2 (n-1) (c-1)) hi;have HH:=Hd h2;have HS:=Hd hS2;have HR:=Hd hr;clear H hS h2 hi hS2 hx hn;have hr:=HR.out;go_wp2;go_ret;exact⟨rfl,A2,n-1,c-1,by have:=HH.out;simpa using this,HS,by omega⟩
theorem c1c {L:List ByteArray}(h:Strs w K A n L):(L.headD ⟨#[]⟩).size≤90000:=by
 cases L with
 | nil=>exact Nat.zero_le _
 | cons x L=>exact h.2.2.1 x List.mem_cons_self
theorem RdTo.set {L:List ByteArray}{b:Bool}(h:RdTo w0 K l i g L b w)(hi:i<l.length):
  ∃ A n c,Sep w0 w (l.set i (.box g 100 [.slice A n c,.bool b]))∧(l.set i (.box g 100 [.slice A n c,.bool b]))[i]?=some (.box g 100 [.slice A n c,.bool b])∧Strs w0 K A n L∧n≤c:=by
 obtain⟨A,n,c,h1,h2,h3⟩:=h;exact⟨A,n,c,h1,List.getElem?_set_self hi,h2,h3⟩
theorem RdTo.twice {L:List ByteArray}{b:Bool}{c:a0e}(h:RdTo w0 K (l.set i c) i g L b w):RdTo w0 K l i g L b w:=by
 obtain⟨A,n,c,h1,h2,h3⟩:=h;rw[List.set_set] at h1;exact⟨A,n,c,h1,h2,h3⟩
theorem b0j {b:Bool}{L:List ByteArray}(H:Sep w0 w l)(hi:l[i]?=some (.box g 100 [.slice A n c,.bool b]))(hS:Strs w0 K A n L)(hc:n≤c):
  Calls prog 91 #[.pointer (some ⟨g,0,none⟩)] w fun e w'=>e=.returned (.int .i64 (a0t (L.headD ⟨#[]⟩)).1)∧RdTo w0 K l i g (L.drop 1) ((b||L.isEmpty) || !(a0t (L.headD ⟨#[]⟩)).2) w':=by
 have C1:=a5f H hi hS hc;have hil:=(lL hi);have C2:=fun w:World=>a8h w (L.headD ⟨#[]⟩) (c1c hS)
 obtain⟨x,hx⟩:∃ x,L.headD ⟨#[]⟩=x:=⟨_,rfl⟩;rw[hx] at C1 C2 ⊢;obtain⟨⟨m,ok⟩,hv⟩:∃ r,a0t x=r:=⟨_,rfl⟩;rw[hv] at C2 ⊢;have HC2:=Hd C2;clear H hS C2 hx hv hi
 go_enter func91,ntmps91
 go_wp2_with fail
 refine C1.mono ?_;rintro e1 w1 ⟨rfl,hR⟩;obtain⟨A1,n1,c1,h1,hi1,hS1,hc1⟩:=hR.set hil;obtain⟨q,hq⟩:∃ q,(b||L.isEmpty)=q:=⟨_,rfl⟩;rw[hq] at h1 hi1;have HQ:=Hd hq;have H1:=Hd h1;have HI:=Hd hi1;have HS1:=Hd hS1;clear C1 hR h1 hi1 hS1 hq hil
 go_wp2_with fail
 refine(HC2 w1).mono ?_;rintro e2 w2 ⟨rfl,rfl⟩;have k1:=H1.cell i 1 HI rfl;have f1:=H1.frozenBox i 1 HI
 cases q with
 | true =>
  have h2:=H1.setBox i 1 (.bool true) HI;have HH:=Hd h2;clear h2;go_wp2;go_ret;rw[HQ.out]
  exact⟨rfl,A1,n1,c1,by have:=HH.out;simpa using this,HS1,hc1⟩
 | false =>
  cases ok with
  | true =>
   have h2:=H1.setBox i 1 (.bool false) HI;have HH:=Hd h2;clear h2;go_wp2;go_ret;rw[HQ.out]
   exact⟨rfl,A1,n1,c1,by have:=HH.out;simpa using this,HS1,hc1⟩
  | false =>
   have h2:=H1.setBox i 1 (.bool true) HI;have HH:=Hd h2;clear h2;go_wp2;go_ret;rw[HQ.out];exact⟨rfl,A1,n1,c1,by have:=HH.out;simpa using this,HS1,hc1⟩
theorem b9n {α : Type}{l:List α}{x : α}(h:l[i]?=some x):l.set i x=l:=by
 apply List.ext_getElem?;intro j;rw[List.getElem?_set]
 split
 ·rename_i e;subst e;rw[iP (lL h),h]
 ·rfl
def lenV:Value→Nat
 | .slice _ n _=>n
 | _=>0
theorem c1x {b:Bool}{L:List ByteArray}(H:Sep w0 w l)(hi:l[i]?=some (.box g 100 [.slice A n c,.bool b]))(hS:Strs w0 K A n L)(hc:n≤c):
  Calls prog 54 #[.pointer (some ⟨g,0,none⟩)] w fun e w'=>∃ v m,e=.returned v∧RdTo w0 K (.own 3 v m (a2x L b).1::l) (i+1) g (a2x L b).2.1 (a2x L b).2.2 w':=by
 have hil:=(lL hi);have HN:=Hd hS.2.1;have HL:=Hd hS.1
 go_enter func54,ntmps54
 have h1:Sep w0 w ((oN::l).set (i+1) (.box g 100 [.slice A n c,.bool b])):=by
  have:=H.addNil 3;rwa [List.set_cons_succ,b9n hi]
 have HI:=Hd h1;have HS:=Hd hS;clear H hS h1 hi
 go_wp2_with fail
 go_loopw [3] (fun sv wr=>∃(x:Value) (out:List Int) (M:List ByteArray) (q:Bool),x=sv∧out.length+M.length=n∧(out++(a2x M q).1,(a2x M q).2)=a2x L b∧RdTo w0 K (.own 3 x out.length out::l) (i+1) g M q wr) (fun sv _=>n-lenV sv)
 case atStart=>exact⟨_,[],L,b,rfl,by simpa using HL.out,rfl,A,n,c,HI,HS,hc⟩
 case round =>
  clear HI HS;obtain⟨x,out,M,q,rfl,hlen,hE,hR⟩:=hrel;obtain⟨A1,n1,c1,h1,hi1,hS1,hc1⟩:=hR.set (by rw[List.length_cons];omega);have k0:=h1.cell (i+1) 0 hi1 rfl;have k1:=h1.cell (i+1) 1 hi1 rfl;have hn1:=hS1.1;have hn9:=HN.out;obtain⟨Ax,cx,hx,_,_,_⟩:=(h1.ownS 0 rfl).form;subst hx;have H1:=Hd h1;have HI:=Hd hi1;have HS1:=Hd hS1;have HE:=Hd hE;clear hR h1 hi1 hS1 hE
  cases M with
  | nil =>
   obtain rfl:n1=0:=hn1.symm;have HY:=Hd (show a2x L b=(out,[],q) by rw[←HE.out];simp[a2x]);go_wp2;go_ret;rw[HY.out]
   exact⟨_,_,rfl,A1,0,c1,H1,HS1,hc1⟩
  | cons y M =>
   have hp:0<n1:=by rw[←hn1];simp
   have dp:decide (0<(n1:Int))=true:=by simp;omega
   have dpn:decide (0<n1)=true:=decide_eq_true hp
   cases q with
   | true =>
    have HY:=Hd (show a2x L b=(out,y::M,true) by rw[←HE.out];simp[a2x]);go_wp2;go_ret;rw[HY.out]
    exact⟨_,_,rfl,A1,n1,c1,H1,HS1,hc1⟩
   | false =>
    have C1:=b0j H1 HI HS1 hc1;have HC1:=Hd C1;have HE2:=Hd (show((out++[(a0t y).1])++(a2x M (!(a0t y).2)).1,(a2x M (!(a0t y).2)).2)=a2x L b by rw[←HE.out];simp[a2x]);clear C1 hn1
    go_wp2_with fail
    refine HC1.mono ?_;rintro e1 w1 ⟨rfl,hR⟩;obtain⟨A2,n2,c2,h2,hS2,hc2⟩:=hR.twice;have H2:=Hd h2;have HS2:=Hd hS2;clear hR h2 hS2 HC1;have hol:out.length≤90001:=by simp at hlen;omega
    go_wp2_with (at_builtin;refine a0o rfl (.tmp 17) (.tmp 20) 25 3 rfl underlying25 Tryz.infoInt H2.out 0 rfl rfl _ (a5c y) _ rfl ?c1 ?_)
    case c1=>omega
    intro v3 w3 h3;obtain⟨A3,c3,hv3,_,_,_⟩:=(h3.ownS 0 rfl).form;subst hv3;have H3:=Hd h3;clear h3;go_wp2;go_roundw
    case rel=>exact⟨_,out++[(a0t y).1],M,!(a0t y).2,rfl,by simp at hlen ⊢;omega,HE2,by rw[List.length_append];exact⟨A2,n2,c2,by have:=H3.out;exact this,HS2,hc2⟩⟩
    case measure=>simp[lenV] at hlen ⊢;omega
theorem eqL {x:ByteArray}{l:List UInt8}:x.toList=l↔x=ofL l:=by
 rw[ByteArray.toList_eq];exact⟨fun h=>d5b h,fun h=>by rw[h];rfl⟩
theorem b1p:a0t ⟨#[]⟩=(0,false):=a6g (fun ⟨n,hn,e⟩=>by
 have h:=c3h n hn;rw[e] at h;have:(⟨#[]⟩:ByteArray).size=0:=rfl
 omega)
theorem b4v {b:Bool}{L:List ByteArray}(H:Sep w0 w l)(hi:l[i]?=some (.box g 100 [.slice A n c,.bool b]))(hS:Strs w0 K A n L)(hc:n≤c):
  Calls prog 93 #[.pointer (some ⟨g,0,none⟩)] w fun e w'=>∃ v m,e=.returned v∧RdTo w0 K (.own 3 v m (a1w L b).1::l) (i+1) g (a1w L b).2.1 (a1w L b).2.2 w':=by
 have hil:=(lL hi);have HN:=Hd hS.2.1;have HL:=Hd hS.1
 go_enter func93,ntmps93
 have h1:Sep w0 w ((oN::l).set (i+1) (.box g 100 [.slice A n c,.bool b])):=by
  have:=H.addNil 3;rwa [List.set_cons_succ,b9n hi]
 have hi1:((oN::l).set (i+1) (.box g 100 [.slice A n c,.bool b]))[i+1]?=some (.box g 100 [.slice A n c,.bool b]):=List.getElem?_set_self (by rw[List.length_cons];omega);have C1:=a5f h1 hi1 hS hc;obtain⟨x,hx⟩:∃ x,L.headD ⟨#[]⟩=x:=⟨_,rfl⟩;obtain⟨q,hq⟩:∃ q,(b||L.isEmpty)=q:=⟨_,rfl⟩;rw[hx,hq] at C1;have HF:=Hd (show a1w L b=if x≠opT1∨q=true then([],L.drop 1,true) else a2j (L.drop 1) by rw[a1w,hx,hq]);clear H hS hi h1 hi1 hx hq
 go_wp2_with fail
 refine C1.mono ?_;rintro e1 w1 ⟨rfl,hR⟩;obtain⟨A1,n1,c1,h1,hi1,hS1,hc1⟩:=hR.twice.set (by rw[List.length_cons];omega);have k0:=h1.cell (i+1) 0 hi1 rfl;have k1:=h1.cell (i+1) 1 hi1 rfl;have f1:=h1.frozenBox (i+1) 1 hi1;have H1:=Hd h1;have HI:=Hd hi1;have HS1:=Hd hS1;clear C1 hR h1 hi1 hS1
 cases q with
 | true =>
  by_cases hx:x=opT1
  ·have ex:x.toList=[40]:=eqL.2 hx;clear hx;have HF2:=Hd (show a1w L b=([],L.drop 1,true) by rw[HF.out,iP (.inr rfl)]);have h2:=H1.setBox (i+1) 1 (.bool true) HI;rw[List.set_set] at h2;replace h2:Sep w0 _ ((oN::l).set (i+1) (.box g 100 [.slice A1 n1 c1,.bool true])):=h2;have H2:=Hd h2;clear h2
   go_wp2_with fail
   go_loopw [3] (fun sv wr=>sv=.slice none 0 0∧Sep w0 wr ((oN::l).set (i+1) (.box g 100 [.slice A1 n1 c1,.bool true]))) (fun _ _=>0)
   case atStart=>exact⟨rfl,H2⟩
   case round =>
    obtain⟨rfl,hS⟩:=hrel;have k1:=hS.cell (i+1) 1 (List.getElem?_set_self (by rw[List.length_cons];omega)) rfl;have H3:=Hd hS;clear hS;go_wp2;go_ret;rw[HF2.out];exact⟨_,_,rfl,A1,n1,c1,H3,HS1,hc1⟩
  ·have ex:¬ x.toList=[40]:=fun e=>hx (eqL.1 e)
   clear hx;have HF2:=Hd (show a1w L b=([],L.drop 1,true) by rw[HF.out,iP (.inr rfl)]);have h2:=H1.setBox (i+1) 1 (.bool true) HI;rw[List.set_set] at h2;replace h2:Sep w0 _ ((oN::l).set (i+1) (.box g 100 [.slice A1 n1 c1,.bool true])):=h2;have H2:=Hd h2;clear h2
   go_wp2_with fail
   go_loopw [3] (fun sv wr=>sv=.slice none 0 0∧Sep w0 wr ((oN::l).set (i+1) (.box g 100 [.slice A1 n1 c1,.bool true]))) (fun _ _=>0)
   case atStart=>exact⟨rfl,H2⟩
   case round =>
    obtain⟨rfl,hS⟩:=hrel;have k1:=hS.cell (i+1) 1 (List.getElem?_set_self (by rw[List.length_cons];omega)) rfl;have H3:=Hd hS;clear hS;go_wp2;go_ret;rw[HF2.out]
    exact⟨_,_,rfl,A1,n1,c1,H3,HS1,hc1⟩
 | false =>
  by_cases hx:x=opT1
  ·have ex:x.toList=[40]:=eqL.2 hx;have HF2:=Hd (show a1w L b=a2j (L.drop 1) by rw[HF.out,iN (by simp[hx])]);clear hx;have h2:=H1.setBox (i+1) 1 (.bool false) HI;rw[List.set_set] at h2;replace h2:Sep w0 _ ((oN::l).set (i+1) (.box g 100 [.slice A1 n1 c1,.bool false])):=h2;have H2:=Hd h2;clear h2;have HL1:=Hd HS1.out.1;have HN1:=Hd HS1.out.2.1
   go_wp2_with fail
   go_loopw [3] (fun sv wr=>∃(y:Value) (out:List Int) (M:List ByteArray) (q:Bool),y=sv∧out.length≤n1+1∧(q=false→out.length+M.length=n1)∧(if q=true then(out,M,true) else(out++(a2j M).1,(a2j M).2))=a2j (L.drop 1)∧RdTo w0 K (.own 3 y out.length out::l) (i+1) g M q wr) (fun sv _=>n1+1-lenV sv)
   case atStart=>exact⟨_,[],L.drop 1,false,rfl,by show 0≤_;omega,fun _=>by simpa using HL1.out,by simp,A1,n1,c1,H2,HS1,hc1⟩
   case round =>
    clear H2 H1 HI;obtain⟨y,out,M,q,rfl,hol,hlen,hE,hR⟩:=hrel;obtain⟨A2,n2,c2,h1,hi1,hS2,hc2⟩:=hR.set (by rw[List.length_cons];omega);have k1:=h1.cell (i+1) 1 hi1 rfl;have hn9:=HN1.out;obtain⟨Ax,cx,hy,_,_,_⟩:=(h1.ownS 0 rfl).form;subst hy;have H1:=Hd h1;have HI:=Hd hi1;have HS2:=Hd hS2;have HE:=Hd hE;clear hR h1 hi1 hS2 hE
    cases q with
    | true =>
     have HY:=Hd (show a2j (L.drop 1)=(out,M,true) by rw[←HE.out,iP rfl]);go_wp2;go_ret;rw[HF2.out,HY.out]
     first|exact⟨_,_,rfl,A2,n2,c2,H1,HS2,hc2⟩|exact⟨_,rfl,_,A2,n2,c2,H1,HS2,hc2⟩
    | false =>
     have hlen:=hlen rfl;have C1:=a5f H1 HI HS2 hc2;have HC1:=Hd C1;have HSM:=Hd (c1c HS2);have HE1:=Hd (show(out++(a2j M).1,(a2j M).2)=a2j (L.drop 1) by rw[←HE.out,iN (by simp)]);obtain⟨s,hs⟩:∃ s,M.headD ⟨#[]⟩=s:=⟨_,rfl⟩;rw[hs] at HC1 HSM;have HHS:=Hd hs;obtain⟨q2,hq2⟩:∃ q2,(false||M.isEmpty)=q2:=⟨_,rfl⟩;rw[hq2] at HC1;have HQ2:=Hd hq2;clear C1 hs hq2
     go_wp2_with fail
     refine HC1.mono ?_;rintro e1 w2 ⟨rfl,hR⟩;obtain⟨A3,n3,c3,h3,hi3,hS3,hc3⟩:=hR.twice.set (by rw[List.length_cons];omega);have H3:=Hd h3;have HI3:=Hd hi3;have HS3:=Hd hS3;clear hR h3 hi3 hS3 HC1 k1;have k1:=H3.cell (i+1) 1 HI3 rfl;have C2:=a8h w2 s HSM;by_cases hsh:s=shT1
     ·have es0:s.toList=[41]:=eqL.2 hsh;have es:(s.toList==[41])=true:=by rw[es0];rfl
      clear es0
      cases M with
      | nil=>exfalso;have h8:(⟨#[]⟩:ByteArray)=s:=HHS.out;rw[hsh] at h8;revert h8;decide
      | cons z M =>
       obtain rfl:q2=false:=HQ2.symm;have hz:z=s:=HHS.out;have HY:=Hd (show a2j (L.drop 1)=(out,M,false) by rw[←HE1.out,a2j,iP (hz.trans hsh)];simp);clear C2 hsh hz;go_wp2;go_ret;rw[HF2.out,HY.out];have h9:RdTo w0 K (.own 3 (.slice Ax out.length cx) out.length out::l) (i+1) g M false w2:=⟨A3,n3,c3,H3,HS3,hc3⟩
       first|exact⟨_,_,rfl,h9⟩|exact⟨_,rfl,_,h9⟩
     ·have es:(s.toList==[41])=false:=by simpa using (fun e=>hsh (eqL.1 e):¬ s.toList=[41])
      have HSH:=Hd hsh;clear hsh;obtain⟨⟨m,ok⟩,hv⟩:∃ r,a0t s=r:=⟨_,rfl⟩;rw[hv] at C2;have HV:=Hd hv;have hfm:Fits m:=by have:=a5c s;rw[hv] at this;exact this
      have HC2:=Hd C2;clear C2 hv
      go_wp2_with fail
      refine HC2.mono ?_;rintro e2 w4 ⟨rfl,rfl⟩;have f1:=H3.frozenBox (i+1) 1 HI3
      cases M with
      | nil =>
       obtain rfl:q2=true:=HQ2.symm;obtain rfl:(⟨#[]⟩:ByteArray)=s:=HHS.out;have HM0:=Hd (show m=0 by have h8:=HV.out;rw[b1p] at h8;injection h8 with h8 _;exact h8.symm);have h5:=H3.setBox (i+1) 1 (.bool true) HI3;rw[List.set_set] at h5;replace h5:Sep w0 _ ((a0e.own 3 (.slice Ax out.length cx) out.length out::l).set (i+1) (.box g 100 [.slice A3 n3 c3,.bool true])):=h5;have H5:=Hd h5;clear h5
       go_upto_region 8 with fail
       generalize World.setCell w4 ⟨g,1,none⟩ (.bool true)=w5 at *
       go_wp2_with (at_builtin;refine a0o rfl (.tmp 44) (.tmp 46) 25 3 rfl underlying25 Tryz.infoInt H5.out 0 rfl rfl m hfm _ rfl ?c1 ?_)
       case c1=>omega
       intro v6 w6 h6;obtain⟨A6,c6,hv6,_,_,_⟩:=(h6.ownS 0 rfl).form;subst hv6;have H6:=Hd h6;clear h6;go_wp2;go_roundw
       case rel=>exact⟨_,out++[m],[],true,rfl,by rw[List.length_append];show out.length+1≤_;omega,(fun h=>by cases h),by rw[iP rfl,←HE1.out,HM0.out];rfl,by rw[List.length_append];exact⟨A3,n3,c3,H6,HS3,hc3⟩⟩
       case measure=>simp[lenV] at hlen ⊢;omega
      | cons z M =>
       obtain rfl:q2=false:=HQ2.symm;obtain rfl:z=s:=HHS.out
       cases ok with
       | true =>
        have h5:=H3.setBox (i+1) 1 (.bool false) HI3;rw[List.set_set] at h5;replace h5:Sep w0 _ ((a0e.own 3 (.slice Ax out.length cx) out.length out::l).set (i+1) (.box g 100 [.slice A3 n3 c3,.bool false])):=h5;have H5:=Hd h5;clear h5
        go_upto_region 8 with fail
        generalize World.setCell w4 ⟨g,1,none⟩ (.bool false)=w5 at *
        go_wp2_with (at_builtin;refine a0o rfl (.tmp 44) (.tmp 46) 25 3 rfl underlying25 Tryz.infoInt H5.out 0 rfl rfl m hfm _ rfl ?c1 ?_)
        case c1=>omega
        intro v6 w6 h6;obtain⟨A6,c6,hv6,_,_,_⟩:=(h6.ownS 0 rfl).form;subst hv6;have H6:=Hd h6;clear h6;go_wp2;go_roundw
        case rel=>exact⟨_,out++[m],M,false,rfl,by rw[List.length_append];show out.length+1≤_;omega,fun _=>by rw[List.length_append];simp at hlen ⊢;omega,by rw[iN (by simp),←HE1.out,a2j,iN HSH.out,HV.out,iP rfl];simp,by rw[List.length_append];exact⟨A3,n3,c3,H6,HS3,hc3⟩⟩
        case measure=>simp[lenV] at hlen ⊢;omega
       | false =>
        have h5:=H3.setBox (i+1) 1 (.bool true) HI3;rw[List.set_set] at h5;replace h5:Sep w0 _ ((a0e.own 3 (.slice Ax out.length cx) out.length out::l).set (i+1) (.box g 100 [.slice A3 n3 c3,.bool true])):=h5;have H5:=Hd h5;clear h5
        go_upto_region 8 with fail
        generalize World.setCell w4 ⟨g,1,none⟩ (.bool true)=w5 at *
        go_wp2_with (at_builtin;refine a0o rfl (.tmp 44) (.tmp 46) 25 3 rfl underlying25 Tryz.infoInt H5.out 0 rfl rfl m hfm _ rfl ?c1 ?_)
        case c1=>omega
        intro v6 w6 h6;obtain⟨A6,c6,hv6,_,_,_⟩:=(h6.ownS 0 rfl).form;subst hv6;have H6:=Hd h6;clear h6;go_wp2;go_roundw
        case rel=>exact⟨_,out++[m],M,true,rfl,by rw[List.length_append];show out.length+1≤_;omega,(fun h=>by cases h),by rw[iP rfl,←HE1.out,a2j,iN HSH.out,HV.out,iN (by simp)],by rw[List.length_append];exact⟨A3,n3,c3,H6,HS3,hc3⟩⟩
        case measure=>simp[lenV] at hlen ⊢;omega
  ·have ex:¬ x.toList=[40]:=fun e=>hx (eqL.1 e)
   have hx2:x≠opT1:=hx;clear hx;have HF2:=Hd (show a1w L b=([],L.drop 1,true) by rw[HF.out,iP (.inl hx2)]);have h2:=H1.setBox (i+1) 1 (.bool true) HI;rw[List.set_set] at h2;replace h2:Sep w0 _ ((oN::l).set (i+1) (.box g 100 [.slice A1 n1 c1,.bool true])):=h2;have H2:=Hd h2;clear h2
   go_wp2_with fail
   go_loopw [3] (fun sv wr=>sv=.slice none 0 0∧Sep w0 wr ((oN::l).set (i+1) (.box g 100 [.slice A1 n1 c1,.bool true]))) (fun _ _=>0)
   case atStart=>exact⟨rfl,H2⟩
   case round =>
    obtain⟨rfl,hS⟩:=hrel;have k1:=hS.cell (i+1) 1 (List.getElem?_set_self (by rw[List.length_cons];omega)) rfl;have H3:=Hd hS;clear hS;go_wp2;go_ret;rw[HF2.out];exact⟨_,_,rfl,A1,n1,c1,H3,HS1,hc1⟩
end Go.Proofs.YtdcmanhgekjhgaaGreatDoor
