import Derived.Test.YtdcmanhgekjhgaaDoorPaq
set_option maxRecDepth 100000
set_option maxHeartbeats 12800000
namespace Go.Proofs.YtdcmanhgekjhgaaDoor
open Go.RowKit Go.Proofs.Tryd
variable {G:a0w} {L:List (List Int)} {l:List Int} {nd:a0j} {nt:ByteArray}
structure FitN (nd:a0j):Prop where
 op:Fits nd.op
 n:Fits nd.n
 how:Fits nd.how
 ins:∀ x∈nd.ins,Fits x
 shape:∀ x∈nd.shape,Fits x
 a:∀ x∈nd.a,Fits x
structure FitG (G:a0w):Prop where
 sizes:∀ x∈G.sizes,Fits x
 outs:∀ x∈G.outs,Fits x
 each:∀ nd∈G.nodes,FitN nd
theorem a7m:∀ {l:List Int},(∀ x∈l,Fits x)→a1y (l.map numT) false=(l,[],false)
 | [],_=>rfl
 | x::l,h=>by
  rw[List.map_cons,a1y,a1g (h x List.mem_cons_self),show(!(x,true).2)=false from rfl,a7m (fun y hy=>h y (List.mem_cons_of_mem _ hy))]
theorem a9t (M:List ByteArray):∀ {l:List Int},(∀ x∈l,Fits x)→a1v (l.map numT++cB::M)=(l,M,false)
 | [],_=>by rw[List.map_nil,List.nil_append,a1v,iP (show cB=shT1 from rfl)]
 | x::l,h=>by
  rw[List.map_cons,List.cons_append,a1v,iN (show ¬ numT x=shT1 from c1u (h x List.mem_cons_self)),a1g (h x List.mem_cons_self),iP rfl,a9t M (fun y hy=>h y (List.mem_cons_of_mem _ hy))]
theorem a7i (M:List ByteArray)(h:∀ x∈l,Fits x):a1a (a5i l++M) false=(l,M,false):=by
 have e:a5i l++M=oB::(l.map numT++cB::M):=by rw[a5i];simp
 rw[e,a1a,iN (by rintro(h1|h1);exact h1 rfl;exact absurd h1 (by simp))];exact a9t M h
theorem c5b {op:Int}(h1:1≤op)(h2:op≤20):opF (a3f op)=op:=by
 obtain⟨k,rfl,hk1,hk2,e⟩:=c1m h1 h2;rw[e];have key:∀ j:Fin 21,1≤j.val→opF (opN.getD j.val ⟨#[]⟩)=(j.val:Int):=by decide +kernel
 exact key ⟨k,by omega⟩ hk1
def b8u (nd:a0j) (nt:ByteArray):List ByteArray:=a5i nd.ins++(a5i nd.shape++(a5i nd.a++[numT nd.n,numT nd.how,nt]))
def b8l (nd:a0j) (nt:ByteArray):ByteArray:=ofL (bl (a3f nd.op)++tw (b8u nd nt))
theorem b1r (h:FitN nd){c:UInt8}(hc:c.toNat<33)(ht:Free c nt):∀ w∈b8u nd nt,Free c w:=by
 intro w hw;unfold b8u at hw;simp only[List.mem_append,List.mem_cons,List.not_mem_nil,or_false] at hw;rcases hw with h1|h1|h1|h1|h1|h1
 ·exact a7k h.ins (by omega) w h1
 ·exact a7k h.shape (by omega) w h1
 ·exact a7k h.a (by omega) w h1
 ·subst h1;exact a2h h.n (by omega)
 ·subst h1;exact a2h h.how (by omega)
 ·subst h1;exact ht
theorem b8t (h:FitN nd)(h1:1≤nd.op)(h2:nd.op≤20)(ht:Free 32 nt)(hn:nt≠⟨#[]⟩):
  a1b (b8l nd nt)=(⟨nd.op,nd.ins,nd.shape,nd.a,nd.n,nd.how,unD nt⟩,true):=by
 have hW:a0g (b8l nd nt)=a3f nd.op::b8u nd nt:=a6x rfl (b1o _ (by decide)) (b1r h (by decide) ht);have l1:=a7i (a5i nd.shape++(a5i nd.a++[numT nd.n,numT nd.how,nt])) h.ins;have l2:=a7i (a5i nd.a++[numT nd.n,numT nd.how,nt]) h.shape;have l3:=a7i [numT nd.n,numT nd.how,nt] h.a;have d1:decide (nt=⟨#[]⟩)=false:=decide_eq_false hn;have d2:decide (0<nd.op)=true:=decide_eq_true (by omega);unfold a1b;simp only[hW,List.drop_succ_cons,List.drop_zero,List.headD_cons,List.isEmpty_cons,c5b h1 h2];rw[show b8u nd nt=a5i nd.ins++(a5i nd.shape++(a5i nd.a++[numT nd.n,numT nd.how,nt])) from rfl];simp only[l1,l2,l3,List.drop_succ_cons,List.drop_zero,List.headD_cons,List.isEmpty_cons,a1g h.n,a1g h.how,d1,d2,List.isEmpty_nil,Bool.not_true,Bool.or_false,Bool.not_false,Bool.and_true]
 rfl
noncomputable def b7m (nm:List Int) (nd:a0j) (s:List Int):a0j:={ nd with note:=unD (a2r nm nd.note s.length) }
theorem b4k (nm:List Int)(nd:a0j)(s:List Int)(L:List (List Int)):a1f (b7m nm nd s) L=a1f nd L:=rfl
theorem b9i (h:(a1f nd L).1=0):1≤nd.op∧nd.op≤20:=by
 have hf:a3q nd L.length=true:=by
  cases hf:a3q nd L.length with
  | true=>rfl
  | false=>rw[b0q hf] at h;exact absurd h (by decide)
 refine Decidable.byContradiction fun hn=>?_
 have ht:a0f nd.op=(-2,false,false,false,false):=by
  unfold a0f
  repeat rw[iN (by omega)]
 rw[a3q,ht,b2h,iP (.inl rfl)] at hf
 cases hf
noncomputable def a3k (nm:List Int):List a0j→List (List Int)→List a0j
 | nd::N,s::L=>b7m nm nd s::a3k nm N L
 | _,_=>[]
noncomputable def a3j (nm:List Int):List a0j→List (List Int)→List ByteArray
 | nd::N,s::L=>b8l nd (a2r nm nd.note s.length)::a3j nm N L
 | _,_=>[]
def a2l (nm:List Int):List (List Int)→List a0j→List (List Int)→Prop
 | _,[],[]=>True
 | acc,nd::N,s::L=>b3r acc nd.ins=true∧a1f nd (a3e acc nd.ins)=(0,s)∧b5w nm nd s.length=0∧a2l nm (acc++[s]) N L
 | _,_,_=>False
theorem b0r {nm:List Int}:∀ {N:List a0j} {acc R:List (List Int)},a0m nm acc N=(0,R)→∃ L,R=acc++L∧a2l nm acc N L
 | [],acc,R,h=>by
  have:acc=R:=by rw[a0m] at h;injection h
  exact⟨[],by rw[this,List.append_nil],trivial⟩
 | nd::N,acc,R,h=>by
  rw[a0m] at h
  split at h
  ·rename_i h1
   split at h
   ·rename_i h2
    split at h
    ·rename_i h3;obtain⟨L,e,hL⟩:=b0r h;refine⟨(a1f nd (a3e acc nd.ins)).2::L,by rw[e,List.append_assoc];rfl,h1,Prod.ext h2 rfl,h3,hL⟩
    ·rename_i h3;injection h with h _;exact absurd h h3
   ·rename_i h2;injection h with h _;exact absurd h h2
  ·injection h with h _;exact absurd h (by decide)
theorem b0c {nm:List Int}:∀ {N:List a0j} {acc L:List (List Int)},a2l nm acc N L→a0m nm acc N=(0,acc++L)
 | [],acc,[],_=>by rw[a0m,List.append_nil]
 | nd::N,acc,s::L,h=>by
  obtain⟨h1,h2,h3,h4⟩:=h
  rw[a0m,iP h1,h2,iP rfl,iP h3,b0c h4,List.append_assoc];rfl
 | [],_,_::_,h=>h.elim
 | _::_,_,[],h=>h.elim
theorem b7i {nm:List Int}(hg:a6z nm):∀ {N:List a0j} {acc L:List (List Int)},a2l nm acc N L→a2l nm acc (a3k nm N L) L
 | [],acc,[],_=>trivial
 | nd::N,acc,s::L,h=>by
  obtain⟨h1,h2,h3,h4⟩:=h
  exact⟨h1,by rw[←h2];exact b4k nm nd s _,(a5e hg h3).2.1,b7i hg h4⟩
 | [],_,_::_,h=>h.elim
 | _::_,_,[],h=>h.elim
theorem c6e {nm:List Int}:∀ {N:List a0j} {acc L:List (List Int)},a2l nm acc N L→N.length=L.length∧(a3k nm N L).length=N.length∧(a3j nm N L).length=N.length
 | [],acc,[],_=>⟨rfl,rfl,rfl⟩
 | nd::N,acc,s::L,h=>by
  obtain⟨a,b,c⟩:=c6e h.2.2.2
  exact⟨by simp[a],by simp[a3k,b],by simp[a3j,c]⟩
 | [],_,_::_,h=>h.elim
 | _::_,_,[],h=>h.elim
theorem a9q {nm:List Int}(hg:a6z nm):∀ {N:List a0j} {acc L:List (List Int)} (o:ByteArray),a2l nm acc N L→a1x nm o (a3k nm N L) L=a1x nm o N L
 | [],acc,[],o,_=>rfl
 | nd::N,acc,s::L,o,h=>by
  have e:a5h nm o (b7m nm nd s) s=a5h nm o nd s:=by
   unfold a5h;rw[show(b7m nm nd s).note=unD (a2r nm nd.note s.length) from rfl,(a5e hg h.2.2.1).1]
   rfl
  rw[a3k,a1x,a1x,e,a9q hg _ h.2.2.2]
 | [],_,_::_,_,h=>h.elim
 | _::_,_,[],_,h=>h.elim
theorem c3p (nm:List Int)(o:ByteArray)(nd:a0j)(s:List Int):bl (a5h nm o nd s)=bl o++(bl (b8l nd (a2r nm nd.note s.length))++[10]):=by
 unfold a5h b8l b8u;rw[a4l];simp only[a1t,c6o,b4v,a7r,show tw []=[] from rfl,show bl spT=[32] from rfl,show bl lfT=[10] from rfl,List.append_assoc,List.cons_append,List.nil_append,List.append_nil]
theorem b3d {nm:List Int}:∀ {N:List a0j} {acc L:List (List Int)} (o:ByteArray),a2l nm acc N L→bl (a1x nm o N L)=bl o++tl (a3j nm N L)
 | [],acc,[],o,_=>by show bl o=bl o++[];rw[List.append_nil]
 | nd::N,acc,s::L,o,h=>by
  rw[a1x,b3d _ h.2.2.2,c3p,a3j,b2s]
  simp only[List.append_assoc,List.cons_append,List.nil_append]
 | [],_,_::_,_,h=>h.elim
 | _::_,_,[],_,h=>h.elim
theorem b1k {nm:List Int}(hg:a6z nm):∀ {N:List a0j} {acc L:List (List Int)},(∀ nd∈N,FitN nd)→a2l nm acc N L→∀ w∈a3j nm N L,Free 10 w
 | [],acc,[],_,_,w,hw=>by cases hw
 | nd::N,acc,s::L,hf,h,w,hw=>by
  rw[a3j] at hw;rcases List.mem_cons.1 hw with e|e
  ·subst e;unfold Free b8l;rw[a4l,List.mem_append];rintro(h1|h1)
   ·exact b1o nd.op (by decide) h1
   ·exact b6m (by decide) (b1r (hf nd List.mem_cons_self) (by decide) ((a5e hg h.2.2.1).2.2.2 10 (by decide))) h1
  ·exact b1k hg (fun x hx=>hf x (List.mem_cons_of_mem _ hx)) h.2.2.2 w e
 | [],_,_::_,_,h,_,_=>h.elim
 | _::_,_,[],_,h,_,_=>h.elim
theorem a8b {nm:List Int}(hg:a6z nm):∀ {N:List a0j} {acc L:List (List Int)},(∀ nd∈N,FitN nd)→a2l nm acc N L→a0z (a3j nm N L)=(a3k nm N L,true)
 | [],acc,[],_,_=>rfl
 | nd::N,acc,s::L,hf,h=>by
  have hop:=b9i (nd:=nd) (L:=a3e acc nd.ins) (by rw[h.2.1]);obtain⟨p1,p2,p3,p4⟩:=a5e hg h.2.2.1;have e:=b8t (hf nd List.mem_cons_self) hop.1 hop.2 (p4 32 (by decide)) p3;rw[a3j,a0z,e,iP rfl,a8b hg (fun x hx=>hf x (List.mem_cons_of_mem _ hx)) h.2.2.2,a3k]
  rfl
 | [],_,_::_,_,h=>h.elim
 | _::_,_,[],_,h=>h.elim
noncomputable def a8c (G:a0w):a0w:={ G with nodes:=a3k (a0a G.names) G.nodes (a0c G).2 }
structure b3a (G:a0w) (L:List (List Int)):Prop where
 mesh:a6j G=true
 small:G.nodes.length≤48∧G.outs.length≤48
 go:a0m (a0a G.names) [] G.nodes=(0,L)
 outs:(G.outs.all fun k=>decide (0≤k)&&decide (k<G.nodes.length))=true
theorem a9g (h:(a0c G).1=0):b3a G (a0c G).2∧a0c G=(0,(a0c G).2):=by
 have e:a0c G=(0,(a0c G).2):=Prod.ext h rfl;refine⟨?_,e⟩
 revert h e
 unfold a0c
 split
 ·rename_i h1
  split
  ·rename_i h2
   split
   ·rename_i h3
    split
    ·rename_i h4;intro _ _;exact⟨h1,h2,Prod.ext h3 rfl,h4⟩
    ·intro h;exact absurd h (by decide)
   ·rename_i h3;intro h;exact absurd h h3
  ·intro h;exact absurd h (by decide)
 ·intro h;exact absurd h (by decide)
theorem c2m (h:b3a G L):a0c G=(0,L):=by
 unfold a0c;rw[iP h.mesh,iP h.small,h.go,iP rfl,iP h.outs]
theorem a6k (h:a6j G=true):a6z (a0a G.names)∧(a0a G.names).length=G.sizes.length:=by
 unfold a6j at h;rw[Bool.and_eq_true] at h;obtain⟨a,b⟩:=c4b h.2;exact⟨a,by omega⟩
theorem a9h (h:b3a G L):a2l (a0a G.names) [] G.nodes L:=by
 obtain⟨L', e,hL⟩:=b0r h.go;rw[List.nil_append] at e;exact e ▸ hL
theorem b3p (h:b3a G L):b3a { G with nodes:=a3k (a0a G.names) G.nodes L } L:=by
 have hok:=a9h h;have hl:=(c6e hok).2.1;have hp:=b7i (a6k h.mesh).1 hok;refine⟨h.mesh,⟨by show(a3k _ _ _).length≤48;rw[hl];exact h.small.1,h.small.2⟩,?_,?_⟩
 ·have:=b0c hp;rw[List.nil_append] at this;exact this
 ·show(G.outs.all fun k=>decide (0≤k)&&decide (k<(a3k (a0a G.names) G.nodes L).length))=true
  rw[hl];exact h.outs
theorem a8d (h:(a0c G).1=0):a0c (a8c G)=a0c G:=by
 obtain⟨hr,e⟩:=a9g h;rw[e];exact c2m (b3p hr)
theorem b9d (h:(a0c G).1=0):a3g (a8c G)=a3g G:=by
 obtain⟨hr,e⟩:=a9g h
 have hg:a1u (a8c G) (a0c G).2=a1u G (a0c G).2:=by
  unfold a1u;rw[show(a8c G).nodes=a3k (a0a G.names) G.nodes (a0c G).2 from rfl,show(a8c G).names=G.names from rfl,a9q (a6k hr.mesh).1 _ (a9h hr)]
  rfl
 unfold a3g;rw[a8d h,hg]
def b1q (G:a0w):ByteArray:=if G.names=⟨#[]⟩ then a2g else G.names
def b2k (G:a0w):ByteArray:=ofL (bl a4n++tw (b1q G::G.sizes.map numT))
def b2l (G:a0w):ByteArray:=ofL (bl a5j++tw (G.outs.map numT))
theorem c3q (G:a0w):bl (a8l G)=bl (b2k G)++[10]:=by
 unfold a8l b2k b1q;rw[a1t,b2c,a4l,a7r]
 split
 ·show(([109,101,115,104,32,45]:List UInt8)++tw _)++[10]=([109,101,115,104]++32::([45]++tw _))++[10]
  rfl
 ·rw[a1t,show bl b8o=[109,101,115,104,32] from rfl,show bl a4n=[109,101,115,104] from rfl,show bl lfT=[10] from rfl];simp only[List.append_assoc,List.cons_append,List.nil_append]
theorem c0a (h:a2l (a0a G.names) [] G.nodes L):bl (a1u G L)=tl (b2k G::(a3j (a0a G.names) G.nodes L++[b2l G])):=by
 unfold a1u;rw[a1t,b2c,a1t,b3d _ h,c3q,b2s,c3b,b2s,show tl []=[] from rfl,show bl lfT=[10] from rfl];unfold b2l;rw[a4l];simp only[List.append_assoc,List.cons_append,List.nil_append]
theorem a9v (h:a6z (a0a G.names)){c:UInt8}(hc:c.toNat<33):Free c (b1q G):=by
 unfold b1q;split
 ·unfold Free;rw[show bl a2g=[45] from rfl,List.mem_singleton];intro e;subst e;revert hc;decide
 ·exact b8s h hc
theorem a6o (h:∀ x∈l,Fits x){c:UInt8}(hc:c.toNat<45):∀ w∈l.map numT,Free c w:=by
 intro w hw;obtain⟨x,hx,rfl⟩:=List.mem_map.1 hw;exact a2h (h x hx) hc
theorem a8q {c:UInt8}(hc:c.toNat<97):Free c a4n∧Free c a5j:=by
 constructor
 ·unfold Free;rw[show bl a4n=[109,101,115,104] from rfl];intro e;simp only[List.mem_cons,List.not_mem_nil,or_false] at e;rcases e with e|e|e|e <;> (subst e;revert hc;decide)
 ·unfold Free;rw[show bl a5j=[111,117,116,115] from rfl];intro e;simp only[List.mem_cons,List.not_mem_nil,or_false] at e;rcases e with e|e|e|e <;> (subst e;revert hc;decide)
theorem c0u (hm:a6j G=true)(hf:∀ x∈G.sizes,Fits x):a2a (b2k G)=(G.names,G.sizes,true):=by
 obtain⟨hg,hlen⟩:=a6k hm
 have hW:a0g (b2k G)=a4n::b1q G::G.sizes.map numT:=a6x rfl (a8q (by decide)).1 (fun w hw=>by
  rcases List.mem_cons.1 hw with e|e
  ·subst e;exact a9v hg (by decide)
  ·exact a6o hf (by decide) w e)
 have hr:=a7m hf;unfold a2a;simp only[hW,List.drop_succ_cons,List.drop_zero,List.headD_cons,List.isEmpty_cons,Bool.or_self,hr];unfold b1q;by_cases hn:G.names=⟨#[]⟩
 ·have hz:G.sizes=[]:=by
   rw[hn] at hlen;have:(a0a ⟨#[]⟩).length=0:=rfl;exact List.eq_nil_of_length_eq_zero (by omega)
  rw[iP hn,iP rfl,hz,hn]
  rfl
 ·have hd:=b8r hg;rw[iN hn,iN hd,decide_eq_false hn,decide_eq_false hd]
  rfl
theorem c2w (hf:∀ x∈G.outs,Fits x):a3u (b2l G)=(G.outs,true):=by
 have hW:a0g (b2l G)=a5j::G.outs.map numT:=a6x rfl (a8q (by decide)).2 (a6o hf (by decide));unfold a3u;simp only[hW,List.drop_succ_cons,List.drop_zero,List.headD_cons,List.isEmpty_cons,a7m hf]
 rfl
theorem b9b (hf:FitG G){T:ByteArray}(h:a3g G=(T,0)):a2n T=(a8c G,0):=by
 have h0:(a0c G).1=0:=by
  refine Decidable.byContradiction fun hn=>?_
  rw[b4s hn] at h;injection h with _ h;exact hn h
 have hs:¬ 65536<(a1u G (a0c G).2).size:=fun hb=>by
  rw[a7p h0 hb] at h;injection h with _ h;exact absurd h (by decide)
 have hT:a1u G (a0c G).2=T:=by
  rw[a8u h0 hs] at h;injection h with h _
 obtain⟨hr,he⟩:=a9g h0;have hok:=a9h hr;have hg:=(a6k hr.mesh).1;have hbl:=c0a hok;rw[hT] at hbl hs
 have hfree:∀ w∈b2k G::(a3j (a0a G.names) G.nodes (a0c G).2++[b2l G]),Free 10 w:=by
  intro w hw;rcases List.mem_cons.1 hw with e|e
  ·subst e;unfold Free b2k;rw[a4l,List.mem_append];rintro(h1|h1)
   ·exact(a8q (by decide)).1 h1
   ·refine b6m (by decide) (fun x hx=>?_) h1;rcases List.mem_cons.1 hx with e|e
    ·subst e;exact a9v hg (by decide)
    ·exact a6o hf.sizes (by decide) x e
  ·rcases List.mem_append.1 e with e|e
   ·exact b1k hg hf.each hok w e
   ·rw[List.mem_singleton] at e;subst e;unfold Free b2l;rw[a4l,List.mem_append];rintro(h1|h1)
    ·exact(a8q (by decide)).2 h1
    ·exact b6m (by decide) (a6o hf.outs (by decide)) h1
 have hlf:=c1c hbl hfree;have e1:(a0s T).1.headD ⟨#[]⟩=b2k G:=by rw[hlf];rfl
 have e2:((a0s T).1.drop 1).dropLast=a3j (a0a G.names) G.nodes (a0c G).2:=by
  rw[hlf]
  show(a3j (a0a G.names) G.nodes (a0c G).2++[b2l G]).dropLast=_
  rw[List.dropLast_concat]
 have e3:(a0s T).1.getLastD ⟨#[]⟩=b2l G:=by
  rw[hlf]
  show(b2k G::(a3j (a0a G.names) G.nodes (a0c G).2++[b2l G])).getLastD ⟨#[]⟩=_
  rw[←List.cons_append,List.getLastD_concat]
 have e4:¬((a0s T).2=false∨(a0s T).1.length<2):=by
  rw[hlf];rintro(h1|h1)
  ·cases h1
  ·simp only[List.length_cons,List.length_append,List.length_nil] at h1;omega
 have hG:(⟨G.sizes,G.names,a3k (a0a G.names) G.nodes (a0c G).2,G.outs⟩:a0w)=a8c G:=rfl;unfold a2n;rw[iN hs,iN e4,e1,e2,e3,c0u hr.mesh hf.sizes,a8b hg hf.each hok,c2w hf.outs,iN (by rintro(h1|h1|h1) <;> cases h1),hG,a8d h0,iN (by rw[h0];exact fun hn=>hn rfl),b9d h0,h,iN (fun hn=>hn rfl)]
def b2z (w:World) (G:a0w) (e:Int) (x:Ending) (w' : World):Prop :=
 ∃ v,x=.returned (.tuple #[v,.int .i64 e])∧a2w w' v G∧FewG 80000 G∧Below w.heap.size w w'
def b3c (w:World) (L:List ByteArray) (x:Ending) (w' : World):Prop :=
 ∃ A n c K,x=.returned (.slice A n c)∧n≤c∧Strs w' K A n L∧Below w.heap.size w w'
theorem a7b.words {w w1:World}{L:List ByteArray}{v:Value}(h:a7b w L v w1)(hs:∀ x∈L,x.size≤90000)(hl:L.length≤90001):b3c w L (.returned v) w1:=by
 obtain⟨A,c,K,rfl,hc,hS,hb,_⟩:=h.strs hs hl;exact⟨A,_,c,K,rfl,hc,hS,hb⟩
end Go.Proofs.YtdcmanhgekjhgaaDoor
