import Derived.Shelf.Strconv.Clone
import Derived.Test.YtdcmanhgekjhgaaDoorPar
set_option maxRecDepth 100000
set_option maxHeartbeats 12800000
namespace Go.Proofs.YtdcmanhgekjhgaaDoor
open Go.RowKit Go.Proofs.Tryd
variable {g i:Nat} {l:List a0e} {s x:ByteArray} {w w' w0:World}
theorem a0e.keptM {base:Nat}{c:a0e}{row:Option Nat}(h:c.holds w base)(hm:c.mine)(hg:w.grownBy w' row)(hne:∀ k,c.block=some k→row≠some k):c.holds w' base:=by
 cases c with
 | own e v n xs=>exact OwnS.grownNe h hg fun k hk he=>hne k hk he.symm
 | row e m v n us =>
  refine World.ownsRow.kept h hg ?_
  cases hv:v.ownBlock with
  | none=>exact .inl rfl
  | some k=>exact .inr fun he=>hne k hv he.symm
 | box g t vs=>exact⟨h.1,(hg.block g (a1c h.2) (fun he=>hne g rfl he.symm)).trans h.2⟩
 | ints A n xs=>cases hm
 | vals A n k us=>cases hm
 | tape g=>cases hm
theorem a0v (w:World)(p:Addr)(v:Value):(w.setCell p v).heap.size=w.heap.size:=by simp[World.setCell]
theorem Sep.both (h:Sep w0 w l)(v:Value)(hp:g<w0.heap.size)(hm:∀ c∈l,c.mine):Sep (w0.setCell ⟨g,i,none⟩ v) (w.setCell ⟨g,i,none⟩ v) l:=by
 obtain⟨h1,h2,h3⟩:=Sep.pair.1 h;refine Sep.pair.2 ⟨⟨h1.os,h1.tape,h1.output,by rw[a0v,a0v];exact h1.size,fun k hk=>?_⟩,fun c hc=>?_,h3⟩
 ·rw[a0v] at hk;by_cases e:k=g
  ·subst e;have:=h1.block k hk;simp only[World.setCell,Array.getElem?_modify,if_pos];rw[this]
  ·rw[Below.heap_setCell _ _ _ _ e,Below.heap_setCell _ _ _ _ e];exact h1.block k hk
 ·rw[a0v]
  exact a0e.keptM (h2 c hc) (hm c hc) (a2q w g i v) (fun k hk he=>by
   have:=(a0e.block_ge (h2 c hc) hk).1;injection he with he
   omega)
theorem Strs.apart {K:Nat}{A:Option Addr}{n:Nat}{L:List ByteArray}(h:Strs w K A n L)(v:Value)(hK:K≠g):Strs (w.setCell ⟨g,i,none⟩ v) K A n L :=
 ⟨h.1,h.2.1,h.2.2.1,fun j x hx=>by
  obtain⟨a,e,hl,h0,hk⟩:=h.2.2.2 j x hx;refine⟨a,e,by rw[a0v];exact hl,?_,hk⟩;rw[World.cell?_setCell_other _ _ _ _ (fun e9=>hK (by rw[←hk,←a0l a j];rw[←e9]))]
  exact h0⟩
theorem c8v:(prog.info? 34).map (·.size)=some 4:=by kernel_rfl
theorem a0p {fn:Func}{R:Ending→World→Prop}{a:Act}{p u:Tmp}{v0 v1 v2 v3:Value}(z:Value)(H:Sep w0 w l)(i:Nat)(hi:l[i]?=some (.box g 34 [v0,v1,v2,v3]))
  (h:fn.results=#[.cell p 34,.tmp u])(hp:a.tmps.getD p undef=.pointer (some ⟨g,0,none⟩))(hz:a.tmps.getD u undef=z)(hd:a.defers=[])(hR:R (.returned (.tuple #[.agg #[v0,v1,v2,v3],z])) w):bodyPost prog fn R .ret a w:=by
 refine bodyPost_ret_by ?_ hd hR;have hp' : a.tmps[p]?.getD undef=.pointer (some ⟨g,0,none⟩):=by simpa using hp
 have hz' : a.tmps[u]?.getD undef=z:=by simpa using hz
 rw[results_cell_tmp h];simp[hp', hz', asAddr,run_loadVar_row w g _ 34 _ _ _ (H.heap i hi) underlying34 rfl c8v,Result.andThen]
theorem b0i:∀(L:List ByteArray) (b:Bool),(a1y L b).1.length≤L.length
 | [],b=>Nat.le_refl _
 | x::L,true=>Nat.zero_le _
 | x::L,false=>by rw[a1y];simp only[List.length_cons];have:=b0i L (!(a0k x).2);omega
theorem b1m:∀ M:List ByteArray,(a1v M).1.length≤M.length+1∧(a1v M).2.1.length≤M.length
 | []=>⟨Nat.le_refl _,Nat.le_refl _⟩
 | x::M=>by
  have ih:=b1m M;rw[a1v]
  split
  ·exact⟨Nat.zero_le _,by simp⟩
  ·split
   ·simp only[List.length_cons];omega
   ·simp only[List.length_cons,List.length_nil];omega
theorem a9r (L:List ByteArray)(b:Bool):(a1a L b).1.length≤L.length+1∧(a1a L b).2.1.length≤L.length:=by
 unfold a1a
 split
 ·exact⟨Nat.zero_le _,by show(L.drop 1).length≤_;rw[List.length_drop];omega⟩
 ·have:=b1m (L.drop 1);rw[List.length_drop] at this;omega
theorem c6f (s:ByteArray):0≤opF s∧opF s≤20:=by
 have:∀(l:List ByteArray) (k:Nat),0≤opI s l k∧(opI s l k=0∨opI s l k<((k+l.length:Nat):Int)):=by
  intro l
  induction l with
  | nil=>intro k;exact⟨Int.le_refl _,.inl rfl⟩
  | cons x l ih =>
   intro k;rw[opI]
   split
   ·exact⟨by omega,.inr (by rw[List.length_cons];omega)⟩
   ·have:=ih (k+1);rw[List.length_cons];omega
 have h:=this opN 0;have hl:opN.length=21:=rfl;rw[hl] at h;unfold opF;omega
theorem b5q {L:List ByteArray}(h:∀ x∈L,x.size≤90000):(L.headD ⟨#[]⟩).size≤90000:=by
 cases L with
 | nil=>exact Nat.zero_le _
 | cons x L=>exact h x List.mem_cons_self
theorem b1n:∀ M:List ByteArray,∀ x∈(a1v M).2.1,x∈M
 | [],x,h=>by cases h
 | y::M,x,h=>by
  rw[a1v] at h
  split at h
  ·exact List.mem_cons_of_mem _ h
  ·split at h
   ·exact List.mem_cons_of_mem _ (b1n M x h)
   ·exact List.mem_cons_of_mem _ h
theorem a3x (L:List ByteArray)(b:Bool):∀ x∈(a1a L b).2.1,x∈L:=fun x h=>by
 unfold a1a at h
 split at h
 ·exact List.mem_of_mem_drop h
 ·exact List.mem_of_mem_drop (b1n _ x h)
theorem c1o (h:s.size≤65536):Few 80000 (a1b s).1∧Fits (a1b s).1.op∧Fits (a1b s).1.n∧Fits (a1b s).1.how∧(a1b s).1.note.size≤90000:=by
 have hw:=a4c s;have hws:=a4z (s:=s) (by omega);unfold a1b;obtain⟨W,hW⟩:∃ W,a0g s=W:=⟨_,rfl⟩;rw[hW] at hw hws ⊢;obtain⟨b1,hb1⟩:∃ b,W.isEmpty=b:=⟨_,rfl⟩;simp only[hb1];have l1:=a9r (W.drop 1) b1;have s1:=a3x (W.drop 1) b1;have d1:(W.drop 1).length≤W.length:=by rw[List.length_drop];omega
 obtain⟨F1,hF1⟩:∃ F,a1a (W.drop 1) b1=F:=⟨_,rfl⟩;simp only[hF1] at l1 s1 ⊢;have l2:=a9r F1.2.1 F1.2.2;have s2:=a3x F1.2.1 F1.2.2;obtain⟨F2,hF2⟩:∃ F,a1a F1.2.1 F1.2.2=F:=⟨_,rfl⟩;simp only[hF2] at l2 s2 ⊢;have l3:=a9r F2.2.1 F2.2.2;have s3:=a3x F2.2.1 F2.2.2;obtain⟨F3,hF3⟩:∃ F,a1a F2.2.1 F2.2.2=F:=⟨_,rfl⟩;simp only[hF3] at l3 s3 ⊢;have ho:=c6f (W.headD ⟨#[]⟩)
 have hn:(((F3.2.1.drop 1).drop 1).headD ⟨#[]⟩).size≤90000:=b5q fun x hx =>
  hws x (List.mem_of_mem_drop (s1 x (s2 x (s3 x (List.mem_of_mem_drop (List.mem_of_mem_drop hx))))))
 refine⟨⟨by show F1.1.length≤_;omega,by show F2.1.length≤_;omega,by show F3.1.length≤_;omega⟩,⟨by show -9223372036854775808≤_;omega,by show _≤(9223372036854775807:Int);omega⟩,a5y _,a5y _,?_⟩
 show(if _=a2g then(⟨#[]⟩:ByteArray) else _).size≤_
 split
 ·exact Nat.zero_le _
 ·exact hn
theorem kC {p:Addr}{v:Value}(hb:Below w.heap.size w w')(h:w.cell? p=some v):w'.cell? p=some v:=(hb.cell (block_lt_of_cell h)).trans h
theorem isZ (w:World):a2w w (.agg zH) gZ:=⟨_,_,_,_,_,_,_,_,_,rfl,⟨Nat.le_refl _,Nat.le_refl _,Nat.le_refl _,Ints.nil_ _ none,⟨rfl,by omega,fun j nd h=>by simp[gZ] at h⟩,Ints.nil_ _ none,by show 0≤_;omega⟩⟩
theorem c8f:FewG 80000 gZ:=⟨by show 0≤_;omega,by show 0≤_;omega,by show 0≤_;omega,fun j nd h=>by simp[gZ] at h⟩
theorem Sep.set4 {t:TypeId}{a b c d:Value}(h:Sep w0 w l)(i:Nat)(hi:l[i]?=some (.box g t [a,b,c,d]))(a' b' c' d' : Value):
  Sep w0 ((((w.setCell ⟨g,0,none⟩ a').setCell ⟨g,1,none⟩ b').setCell ⟨g,2,none⟩ c').setCell ⟨g,3,none⟩ d') (l.set i (.box g t [a', b', c', d'])):=by
 have hil:=(lL hi);have h1:=h.setBox i 0 a' hi;have h2:=h1.setBox i 1 b' (List.getElem?_set_self hil);rw[List.set_set] at h2;have h3:=h2.setBox i 2 c' (List.getElem?_set_self hil);rw[List.set_set] at h3;have h4:=h3.setBox i 3 d' (List.getElem?_set_self hil);rw[List.set_set] at h4;exact h4
theorem Sep.both4 (h:Sep w0 w l)(hp:g<w0.heap.size)(hm:∀ c∈l,c.mine)(a b c d:Value):
  Sep ((((w0.setCell ⟨g,0,none⟩ a).setCell ⟨g,1,none⟩ b).setCell ⟨g,2,none⟩ c).setCell ⟨g,3,none⟩ d) ((((w.setCell ⟨g,0,none⟩ a).setCell ⟨g,1,none⟩ b).setCell ⟨g,2,none⟩ c).setCell ⟨g,3,none⟩ d) l :=
 (((h.both a hp hm).both b (by rw[a0v];exact hp) hm).both c (by rw[a0v,a0v];exact hp) hm).both d (by rw[a0v,a0v,a0v];exact hp) hm
theorem eqD {l:List UInt8}:(x.toList==l)=decide (x=ofL l):=by
 by_cases h:x=ofL l
 ·rw[decide_eq_true h,eqL.2 h];simp
 ·rw[decide_eq_false h];simpa using (fun e=>h (eqL.1 e):¬ x.toList=l)
theorem b9a (h:65536<s.size):a2n s=(gZ,3):=by unfold a2n;rw[iP h]
theorem c8p (a b c r s g:a0e)(P:List a0e):(a::b::c::r::s::g::P).Perm (r::s::g::a::b::c::P):=List.Perm.append_right P (List.perm_append_comm (l₁:=[a,b,c]) (l₂:=[r,s,g]))
theorem c7b {l:List ByteArray}{j:Nat}(h:l.length=j+1)(hx:l[j]?=some x):l.getLastD ⟨#[]⟩=x:=by
 rw[List.getLastD_eq_getLast?,List.getLast?_eq_getElem?,h,Nat.add_sub_cancel,hx];rfl
theorem a4u (H:Sep w w' l)(e:Int):b2z w gZ e (.returned (.tuple #[.agg zH,.int .i64 e])) w':=⟨_,rfl,isZ _,c8f,H.base⟩
def b3z:Go.Shelf.Ren:=⟨fun|316=>13|n=>n,fun|0=>0|3=>3|4=>4|5=>5|9=>9|37=>44|127=>45|n=>n,fun n=>n⟩
theorem c4v:Go.Proofs.LaysM.n316 prog b3z:={
 mixed:=by kernel_rfl
 f316:=func13.trans (congrArg some (by kernel_rfl))
 t0:=underlying0
 a0:=Tryd.isAgg0
 z0:=Tryd.sizeOf0
 v0:=Tryd.zeroValue0
 t3:=underlying3
 a3:=Tryd.isAgg3
 z3:=Tryd.sizeOf3
 v3:=Tryd.zeroValue3
 t4:=underlying4
 a4:=Tryd.isAgg4
 z4:=Tryd.sizeOf4
 v4:=Tryd.zeroValue4
 t9:=underlying9
 a9:=Tryd.isAgg9
 z9:=Tryd.sizeOf9
 v9:=Tryd.zeroValue9
 t37:=underlying44
 a37:=Tryd.isAgg44
 z37:=Tryd.sizeOf44
 v37:=Tryd.zeroValue44
 t127:=underlying45
 a127:=Tryd.isAgg45
 z127:=Tryd.sizeOf45
 v127:=Tryd.zeroValue45
 t5:=underlying5
 a5:=Tryd.isAgg5
 z5:=Tryd.sizeOf5
 v5:=Tryd.zeroValue5
 i0:=by kernel_rfl
 i3:=by kernel_rfl
 i4:=by kernel_rfl
 i5:=by kernel_rfl
 i9:=by kernel_rfl
 i37:=by kernel_rfl
 i127:=by kernel_rfl }
theorem c0e (w:World)(s:ByteArray)(hs:s.size≤281474976710656):Calls prog 13 #[.string s] w fun e w'=>e=.returned (.string s)∧Below w.heap.size w w':=Any.stringslite_Clone c4v s w hs
theorem b9f (w:World)(s:ByteArray)(hs:s.size≤281474976710656):Calls prog 10 #[.string s] w fun e w'=>e=.returned (.string s)∧Below w.heap.size w w':=by
 have C:=c0e w s hs
 go_enter func10,ntmps10
 go_wp2_with fail
 refine C.mono ?_;rintro e1 w1 ⟨rfl,hb⟩;have HB:=Hd hb;clear C hb;go_wp2;go_ret;exact⟨rfl,HB⟩
end Go.Proofs.YtdcmanhgekjhgaaDoor
