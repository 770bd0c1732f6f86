import Derived.Test.YtdcmanhgekjhgaaGreatDoorPay
set_option maxRecDepth 100000
set_option maxHeartbeats 12800000
namespace Go.Proofs.YtdcmanhgekjhgaaGreatDoor
open Go.RowKit Go.Proofs.Tryz
variable {G:a1d} {L:List (List Int)} {S l nm:List Int} {g i:Nat} {nd:a0l} {nt s:ByteArray} {w w0:World}
structure b4e (nm:List Int):Prop where
 good:∀ r∈nm,¬ badR r∧VR r
 at_:∀(i:Nat) (r:Int),nm[i]?=some r→a4w nm r=(i:Int)
theorem e0r {n:Int}(h:a7v (a0a s) n=true):b4e (a0a s)∧((a0a s).length:Int)=n:=by
 have hR:b6w (a0a s) n:=by
  by_cases hR:b6w (a0a s) n
  ·exact hR
  ·rw[a4u hR] at h;cases h
 obtain⟨_,_,h3,h4⟩:=hR
 exact⟨⟨fun r hr=>by
  obtain⟨i,hi,rfl⟩:=List.getElem_of_mem hr
  exact⟨((h4 i) _ (List.getElem?_eq_getElem hi)).1,c3w s _ hr⟩,fun i r hr=>((h4 i) r hr).2⟩,h3⟩
def svW (nm:List Int) (x:Int):Int:=if 0≤x∧x<nm.length then nm.getD x.toNat 0 else 46
theorem d8o (nm:List Int)(x:Int):a7k nm x=Utf8.encode (svW nm x):=by
 unfold a7k svW
 split <;> rfl
theorem c7h (nm S:List Int):a3q nm S=runesBytes (S.map (svW nm)):=by
 have:∀(S:List Int) (o:ByteArray),S.foldl (fun o x=>o++a7k nm x) o=(S.map (svW nm)).foldl (fun r n=>r++Utf8.encode n) o:=by
  intro S
  induction S with
  | nil=>intro o;rfl
  | cons x S ih=>intro o;rw[List.foldl_cons,List.map_cons,List.foldl_cons,d8o,ih]
 exact this S _
theorem d8y (h:b4e nm)(x:Int):VR (svW nm x)∧33≤svW nm x∧svW nm x≠45∧svW nm x≠65533:=by
 unfold svW
 split
 ·rename_i hx
  have hm:nm.getD x.toNat 0∈nm:=by
   rw[gD,List.getElem?_eq_getElem (by omega)];exact List.getElem_mem _
  obtain⟨h1,h2⟩:=h.good _ hm;unfold badR at h1;exact⟨h2,by omega,by omega,by omega⟩
 ·exact⟨⟨by omega,.inl (by omega)⟩,by omega,by omega,by omega⟩
inductive c4s (nm:List Int):List Int→Prop
 | nil:c4s nm []
 | snoc {S:List Int} {m:Int}:c4s nm S→(m = -1∨(0≤m∧m<nm.length∧m∉S))→c4s nm (S++[m])
theorem c0e {o p:List Int}{r:Int}(ho:c4s nm o)(h:a2b nm o r=some p):c4s nm p:=by
 unfold a2b at h
 split at h
 ·injection h with h;subst h;exact ho
 ·split at h
  ·injection h with h;subst h;exact .snoc ho (.inl rfl)
  ·split at h
   ·cases h
   ·rename_i h1
    split at h
    ·cases h
    ·rename_i h2;injection h with h;subst h
     exact .snoc ho (.inr ⟨by omega,(b6h nm r).2,h2⟩)
theorem b8o {nm:List Int}:∀ {l o p:List Int},c4s nm o→a2v nm o l=some p→c4s nm p
 | [],o,p,ho,h=>by
  have:o=p:=by simpa [a2v] using h
  exact this ▸ ho
 | r::l,o,p,ho,h=>by
  rw[a2v] at h
  cases hs:a2b nm o r with
  | none=>rw[hs] at h;cases h
  | some q =>
   rw[hs] at h;exact b8o (c0e ho hs) h
theorem c6c (nm:List Int):∀(l o m:List Int),a2v nm o (l++m)=(a2v nm o l).bind fun q=>a2v nm q m
 | [],o,m=>rfl
 | r::l,o,m=>by
  rw[List.cons_append,a2v,a2v]
  cases a2b nm o r with
  | none=>rfl
  | some q=>exact c6c nm l q m
theorem e3f (h:b4e nm){m:Int}(hm:m = -1∨(0≤m∧m<nm.length∧m∉S)):a2b nm S (svW nm m)=some (S++[m]):=by
 rcases hm with rfl|⟨h0,h1,h2⟩
 ·rw[show svW nm (-1)=46 from by unfold svW;rw[iN (by omega)]]
  rfl
 ·obtain⟨k,rfl⟩:=eZ h0;have hk:k<nm.length:=by omega
  have e:svW nm k=nm[k]:=by
   unfold svW;rw[iP ⟨h0,h1⟩,Int.toNat_natCast,gD,List.getElem?_eq_getElem hk];rfl
  have hf:=h.at_ k nm[k] (List.getElem?_eq_getElem hk);have hg:=(h.good nm[k] (List.getElem_mem hk)).1;unfold badR at hg;rw[e,a2b,iN (by omega),iN (by omega),hf,iN (by omega),iN h2]
theorem d9x (h:b4e nm)(hs:c4s nm S):a2v nm [] (S.map (svW nm))=some S:=by
 induction hs with
 | nil=>rfl
 | snoc _ hm ih=>rw[List.map_append,c6c,ih,Option.bind_some];show(a2b _ _ _).bind _=_;rw[e3f h hm];rfl
def unD (t:ByteArray):ByteArray:=if t=a4d then⟨#[]⟩ else t
theorem b1i (h:b4e nm){t:ByteArray}{rank:Int}(he:(a4n nm (a0a t) rank).2.2=0):
  a4o nm (unD (a4o nm t rank)) rank=a4o nm t rank∧(a4n nm (a0a (unD (a4o nm t rank))) rank).2.2=0∧a4o nm t rank≠⟨#[]⟩∧∀ c:UInt8,c.toNat<33→Free c (a4o nm t rank):=by
 have hdash:a4o nm ⟨#[]⟩ rank=a4d∧(a4n nm (a0a ⟨#[]⟩) rank).2.2=0:=by
  have e:a4n nm (a0a ⟨#[]⟩) rank=([],false,0):=a3x (by decide) rfl;exact⟨by unfold a4o;rw[e];rfl,by rw[e]⟩
 have hfd:∀ c:UInt8,c.toNat<33→Free c a4d:=fun c hc=>by
  unfold Free;rw[show bl a4d=[45] from rfl,List.mem_singleton];intro e;subst e;revert hc;decide
 by_cases hl:16<(a0a t).length
 ·rw[a6s hl] at he;exact absurd he (by decide)
 cases g:a2v nm [] (a0a t) with
 | none=>rw[a8o (by omega) g] at he;exact absurd he (by decide)
 | some S =>
  by_cases hS:S=[]
  ·subst hS;have e:a4o nm t rank=a4d:=by unfold a4o;rw[a3x (by omega) g];rfl
   rw[e,show unD a4d=⟨#[]⟩ from iP rfl];exact⟨hdash.1,hdash.2,by decide,hfd⟩
  by_cases hr:(S.length:Int)=rank
  ·have e:a4o nm t rank=a3q nm S:=by unfold a4o;rw[a9c (by omega) g hS hr];rfl
   have hsp:=b8o .nil g;have hsl:S.length≤16:=by have:=b8m _ _ _ g;simp only[List.length_nil] at this;omega
   have hru:a0a (a3q nm S)=S.map (svW nm):=by
    rw[c7h];exact c6u _ (fun r hr=>by obtain⟨x,_,rfl⟩:=List.mem_map.1 hr;exact(d8y h x).1)
   have hnd:a3q nm S≠a4d:=fun e9=>by
    rw[e9] at hru;have h9:a0a a4d=[45]:=by kernel_rfl
    rw[h9] at hru
    cases S with
    | nil=>exact hS rfl
    | cons x S =>
     rw[List.map_cons] at hru;injection hru with h8 _
     exact(d8y h x).2.2.1 h8.symm
   rw[e,show unD (a3q nm S)=a3q nm S from iN hnd]
   have hR:a4n nm (a0a (a3q nm S)) rank=(S,true,0):=by
    rw[hru];exact a9c (by rw[List.length_map];exact hsl) (d9x h hsp) hS hr
   refine⟨by unfold a4o;rw[hR];rfl,by rw[hR],c7g hS,fun c hc=>?_⟩;rw[c7h];exact b4f hc (fun r hr=>by obtain⟨x,_,rfl⟩:=List.mem_map.1 hr;exact(d8y h x).2.1)
  ·rw[a8p (by omega) g hS hr] at he;exact absurd he (by decide)
theorem d3f (h:b4e (a0a s)){c:UInt8}(hc:c.toNat<33):Free c s:=by
 have e:runesBytes (a0a s)=s:=c8a (fun hm=>by have:=(h.good _ hm).1;unfold badR at this;omega);rw[←e];exact b4f hc (fun r hr=>by have:=(h.good r hr).1;unfold badR at this;omega)
theorem d3e (h:b4e (a0a s)):s≠a4d:=fun e=>by
 rw[e] at h;have h9:a0a a4d=[45]:=by kernel_rfl
 rw[h9] at h;have:=(h.good 45 (by simp)).1;unfold badR at this;omega
structure FitN (nd:a0l):Prop where
 op:Fits nd.op
 n:Fits nd.n
 how:Fits nd.how
 ins:∀ x∈nd.ins,Fits x
 shape:∀ x∈nd.shape,Fits x
 a:∀ x∈nd.a,Fits x
structure FitG (G:a1d):Prop where
 sizes:∀ x∈G.sizes,Fits x
 outs:∀ x∈G.outs,Fits x
 each:∀ nd∈G.nodes,FitN nd
theorem b4w:∀ {l:List Int},(∀ x∈l,Fits x)→a2x (l.map numT) false=(l,[],false)
 | [],_=>rfl
 | x::l,h=>by
  rw[List.map_cons,a2x,a3s (h x List.mem_cons_self),show(!(x,true).2)=false from rfl,b4w (fun y hy=>h y (List.mem_cons_of_mem _ hy))]
theorem b8g (M:List ByteArray):∀ {l:List Int},(∀ x∈l,Fits x)→a2j (l.map numT++cB::M)=(l,M,false)
 | [],_=>by rw[List.map_nil,List.nil_append,a2j,iP (show cB=shT1 from rfl)]
 | x::l,h=>by
  rw[List.map_cons,List.cons_append,a2j,iN (show ¬ numT x=shT1 from d7q (h x List.mem_cons_self)),a3s (h x List.mem_cons_self),iP rfl,b8g M (fun y hy=>h y (List.mem_cons_of_mem _ hy))]
theorem b4o (M:List ByteArray)(h:∀ x∈l,Fits x):a1w (b1r l++M) false=(l,M,false):=by
 have e:b1r l++M=oB::(l.map numT++cB::M):=by rw[b1r];simp
 rw[e,a1w,iN (by rintro(h1|h1);exact h1 rfl;exact absurd h1 (by simp))];exact b8g M h
theorem e2l {op:Int}(h1:1≤op)(h2:op≤20):opF (a5s op)=op:=by
 obtain⟨k,rfl,hk1,hk2,e⟩:=d7g h1 h2;rw[e];have key:∀ j:Fin 21,1≤j.val→opF (opN.getD j.val ⟨#[]⟩)=(j.val:Int):=by decide +kernel
 exact key ⟨k,by omega⟩ hk1
def d3h (nd:a0l) (nt:ByteArray):List ByteArray:=b1r nd.ins++(b1r nd.shape++(b1r nd.a++[numT nd.n,numT nd.how,nt]))
def d2z (nd:a0l) (nt:ByteArray):ByteArray:=ofL (bl (a5s nd.op)++tw (d3h nd nt))
theorem c1o (h:FitN nd){c:UInt8}(hc:c.toNat<33)(ht:Free c nt):∀ w∈d3h nd nt,Free c w:=by
 intro w hw;unfold d3h at hw;simp only[List.mem_append,List.mem_cons,List.not_mem_nil,or_false] at hw;rcases hw with h1|h1|h1|h1|h1|h1
 ·exact b4q h.ins (by omega) w h1
 ·exact b4q h.shape (by omega) w h1
 ·exact b4q h.a (by omega) w h1
 ·subst h1;exact b0g h.n (by omega)
 ·subst h1;exact b0g h.how (by omega)
 ·subst h1;exact ht
theorem d3g (h:FitN nd)(h1:1≤nd.op)(h2:nd.op≤20)(ht:Free 32 nt)(hn:nt≠⟨#[]⟩):
  a1x (d2z nd nt)=(⟨nd.op,nd.ins,nd.shape,nd.a,nd.n,nd.how,unD nt⟩,true):=by
 have hW:a0u (d2z nd nt)=a5s nd.op::d3h nd nt:=b9z rfl (c1m _ (by decide)) (c1o h (by decide) ht);have l1:=b4o (b1r nd.shape++(b1r nd.a++[numT nd.n,numT nd.how,nt])) h.ins;have l2:=b4o (b1r nd.a++[numT nd.n,numT nd.how,nt]) h.shape;have l3:=b4o [numT nd.n,numT nd.how,nt] h.a;have d1:decide (nt=⟨#[]⟩)=false:=decide_eq_false hn;have d2:decide (0<nd.op)=true:=decide_eq_true (by omega);unfold a1x;simp only[hW,List.drop_succ_cons,List.drop_zero,List.headD_cons,List.isEmpty_cons,e2l h1 h2];rw[show d3h nd nt=b1r nd.ins++(b1r nd.shape++(b1r nd.a++[numT nd.n,numT nd.how,nt])) from rfl];simp only[l1,l2,l3,List.drop_succ_cons,List.drop_zero,List.headD_cons,List.isEmpty_cons,a3s h.n,a3s h.how,d1,d2,List.isEmpty_nil,Bool.not_true,Bool.or_false,Bool.not_false,Bool.and_true]
 rfl
noncomputable def b8w (nm:List Int) (nd:a0l) (s:List Int):a0l:={ nd with note:=unD (a4o nm nd.note s.length) }
theorem c6y (nm:List Int)(nd:a0l)(s:List Int)(L:List (List Int)):a1i (b8w nm nd s) L=a1i nd L:=rfl
theorem d4b (h:(a1i nd L).1=0):1≤nd.op∧nd.op≤20:=by
 have hf:a5l nd L.length=true:=by
  cases hf:a5l nd L.length with
  | true=>rfl
  | false=>rw[b2r hf] at h;exact absurd h (by decide)
 refine Decidable.byContradiction fun hn=>?_
 have ht:a0j nd.op=(-2,false,false,false,false):=by
  unfold a0j
  repeat rw[iN (by omega)]
 rw[a5l,ht,b2i,iP (.inl rfl)] at hf
 cases hf
noncomputable def a4j (nm:List Int):List a0l→List (List Int)→List a0l
 | nd::N,s::L=>b8w nm nd s::a4j nm N L
 | _,_=>[]
noncomputable def a7r (nm:List Int):List a0l→List (List Int)→List ByteArray
 | nd::N,s::L=>d2z nd (a4o nm nd.note s.length)::a7r nm N L
 | _,_=>[]
def a6j (nm:List Int):List (List Int)→List a0l→List (List Int)→Prop
 | _,[],[]=>True
 | acc,nd::N,s::L=>b7q acc nd.ins=true∧a1i nd (a2k acc nd.ins)=(0,s)∧b3i nm nd s.length=0∧a6j nm (acc++[s]) N L
 | _,_,_=>False
theorem b9q {nm:List Int}:∀ {N:List a0l} {acc R:List (List Int)},a0m nm acc N=(0,R)→∃ L,R=acc++L∧a6j nm acc N L
 | [],acc,R,h=>by
  have:acc=R:=by rw[a0m] at h;injection h
  exact⟨[],by rw[this,List.append_nil],trivial⟩
 | nd::N,acc,R,h=>by
  rw[a0m] at h
  split at h
  ·rename_i h1
   split at h
   ·rename_i h2
    split at h
    ·rename_i h3;obtain⟨L,e,hL⟩:=b9q h;refine⟨(a1i nd (a2k acc nd.ins)).2::L,by rw[e,List.append_assoc];rfl,h1,Prod.ext h2 rfl,h3,hL⟩
    ·rename_i h3;injection h with h _;exact absurd h h3
   ·rename_i h2;injection h with h _;exact absurd h h2
  ·injection h with h _;exact absurd h (by decide)
theorem b8q {nm:List Int}:∀ {N:List a0l} {acc L:List (List Int)},a6j nm acc N L→a0m nm acc N=(0,acc++L)
 | [],acc,[],_=>by rw[a0m,List.append_nil]
 | nd::N,acc,s::L,h=>by
  obtain⟨h1,h2,h3,h4⟩:=h
  rw[a0m,iP h1,h2,iP rfl,iP h3,b8q h4,List.append_assoc];rfl
 | [],_,_::_,h=>h.elim
 | _::_,_,[],h=>h.elim
theorem d1m {nm:List Int}(hg:b4e nm):∀ {N:List a0l} {acc L:List (List Int)},a6j nm acc N L→a6j nm acc (a4j nm N L) L
 | [],acc,[],_=>trivial
 | nd::N,acc,s::L,h=>by
  obtain⟨h1,h2,h3,h4⟩:=h
  exact⟨h1,by rw[←h2];exact c6y nm nd s _,(b1i hg h3).2.1,d1m hg h4⟩
 | [],_,_::_,h=>h.elim
 | _::_,_,[],h=>h.elim
theorem e3v {nm:List Int}:∀ {N:List a0l} {acc L:List (List Int)},a6j nm acc N L→N.length=L.length∧(a4j nm N L).length=N.length∧(a7r nm N L).length=N.length
 | [],acc,[],_=>⟨rfl,rfl,rfl⟩
 | nd::N,acc,s::L,h=>by
  obtain⟨a,b,c⟩:=e3v h.2.2.2
  exact⟨by simp[a],by simp[a4j,b],by simp[a7r,c]⟩
 | [],_,_::_,h=>h.elim
 | _::_,_,[],h=>h.elim
theorem b8d {nm:List Int}(hg:b4e nm):∀ {N:List a0l} {acc L:List (List Int)} (o:ByteArray),a6j nm acc N L→a4i nm o (a4j nm N L) L=a4i nm o N L
 | [],acc,[],o,_=>rfl
 | nd::N,acc,s::L,o,h=>by
  have e:a9z nm o (b8w nm nd s) s=a9z nm o nd s:=by
   unfold a9z;rw[show(b8w nm nd s).note=unD (a4o nm nd.note s.length) from rfl,(b1i hg h.2.2.1).1]
   rfl
  rw[a4j,a4i,a4i,e,b8d hg _ h.2.2.2]
 | [],_,_::_,_,h=>h.elim
 | _::_,_,[],_,h=>h.elim
theorem d9y (nm:List Int)(o:ByteArray)(nd:a0l)(s:List Int):bl (a9z nm o nd s)=bl o++(bl (d2z nd (a4o nm nd.note s.length))++[10]):=by
 unfold a9z d2z d3h;rw[a6y];simp only[a6x,e4m,c7l,b5c,show tw []=[] from rfl,show bl spT=[32] from rfl,show bl lfT=[10] from rfl,List.append_assoc,List.cons_append,List.nil_append,List.append_nil]
theorem c4w {nm:List Int}:∀ {N:List a0l} {acc L:List (List Int)} (o:ByteArray),a6j nm acc N L→bl (a4i nm o N L)=bl o++tl (a7r nm N L)
 | [],acc,[],o,_=>by show bl o=bl o++[];rw[List.append_nil]
 | nd::N,acc,s::L,o,h=>by
  rw[a4i,c4w _ h.2.2.2,d9y,a7r,c4e]
  simp only[List.append_assoc,List.cons_append,List.nil_append]
 | [],_,_::_,_,h=>h.elim
 | _::_,_,[],_,h=>h.elim
theorem c1g {nm:List Int}(hg:b4e nm):∀ {N:List a0l} {acc L:List (List Int)},(∀ nd∈N,FitN nd)→a6j nm acc N L→∀ w∈a7r nm N L,Free 10 w
 | [],acc,[],_,_,w,hw=>by cases hw
 | nd::N,acc,s::L,hf,h,w,hw=>by
  rw[a7r] at hw;rcases List.mem_cons.1 hw with e|e
  ·subst e;unfold Free d2z;rw[a6y,List.mem_append];rintro(h1|h1)
   ·exact c1m nd.op (by decide) h1
   ·exact c9x (by decide) (c1o (hf nd List.mem_cons_self) (by decide) ((b1i hg h.2.2.1).2.2.2 10 (by decide))) h1
  ·exact c1g hg (fun x hx=>hf x (List.mem_cons_of_mem _ hx)) h.2.2.2 w e
 | [],_,_::_,_,h,_,_=>h.elim
 | _::_,_,[],_,h,_,_=>h.elim
theorem b5o {nm:List Int}(hg:b4e nm):∀ {N:List a0l} {acc L:List (List Int)},(∀ nd∈N,FitN nd)→a6j nm acc N L→a1s (a7r nm N L)=(a4j nm N L,true)
 | [],acc,[],_,_=>rfl
 | nd::N,acc,s::L,hf,h=>by
  have hop:=d4b (nd:=nd) (L:=a2k acc nd.ins) (by rw[h.2.1]);obtain⟨p1,p2,p3,p4⟩:=b1i hg h.2.2.1;have e:=d3g (hf nd List.mem_cons_self) hop.1 hop.2 (p4 32 (by decide)) p3;rw[a7r,a1s,e,iP rfl,b5o hg (fun x hx=>hf x (List.mem_cons_of_mem _ hx)) h.2.2.2,a4j]
  rfl
 | [],_,_::_,_,h=>h.elim
 | _::_,_,[],_,h=>h.elim
noncomputable def b1w (G:a1d):a1d:={ G with nodes:=a4j (a0a G.names) G.nodes (a0f G).2 }
structure c4q (G:a1d) (L:List (List Int)):Prop where
 mesh:a7n G=true
 small:G.nodes.length≤48∧G.outs.length≤48
 go:a0m (a0a G.names) [] G.nodes=(0,L)
 outs:(G.outs.all fun k=>decide (0≤k)&&decide (k<G.nodes.length))=true
theorem b7m (h:(a0f G).1=0):c4q G (a0f G).2∧a0f G=(0,(a0f G).2):=by
 have e:a0f G=(0,(a0f G).2):=Prod.ext h rfl;refine⟨?_,e⟩
 revert h e
 unfold a0f
 split
 ·rename_i h1
  split
  ·rename_i h2
   split
   ·rename_i h3
    split
    ·rename_i h4;intro _ _;exact⟨h1,h2,Prod.ext h3 rfl,h4⟩
    ·intro h;exact absurd h (by decide)
   ·rename_i h3;intro h;exact absurd h h3
  ·intro h;exact absurd h (by decide)
 ·intro h;exact absurd h (by decide)
theorem d8l (h:c4q G L):a0f G=(0,L):=by
 unfold a0f;rw[iP h.mesh,iP h.small,h.go,iP rfl,iP h.outs]
theorem b3g (h:a7n G=true):b4e (a0a G.names)∧(a0a G.names).length=G.sizes.length:=by
 unfold a7n at h;rw[Bool.and_eq_true] at h;obtain⟨a,b⟩:=e0r h.2;exact⟨a,by omega⟩
theorem b7n (h:c4q G L):a6j (a0a G.names) [] G.nodes L:=by
 obtain⟨L', e,hL⟩:=b9q h.go;rw[List.nil_append] at e;exact e ▸ hL
theorem c5i (h:c4q G L):c4q { G with nodes:=a4j (a0a G.names) G.nodes L } L:=by
 have hok:=b7n h;have hl:=(e3v hok).2.1;have hp:=d1m (b3g h.mesh).1 hok;refine⟨h.mesh,⟨by show(a4j _ _ _).length≤48;rw[hl];exact h.small.1,h.small.2⟩,?_,?_⟩
 ·have:=b8q hp;rw[List.nil_append] at this;exact this
 ·show(G.outs.all fun k=>decide (0≤k)&&decide (k<(a4j (a0a G.names) G.nodes L).length))=true
  rw[hl];exact h.outs
theorem b5r (h:(a0f G).1=0):a0f (b1w G)=a0f G:=by
 obtain⟨hr,e⟩:=b7m h;rw[e];exact d8l (c5i hr)
theorem d3q (h:(a0f G).1=0):a4f (b1w G)=a4f G:=by
 obtain⟨hr,e⟩:=b7m h
 have hg:a3f (b1w G) (a0f G).2=a3f G (a0f G).2:=by
  unfold a3f;rw[show(b1w G).nodes=a4j (a0a G.names) G.nodes (a0f G).2 from rfl,show(b1w G).names=G.names from rfl,b8d (b3g hr.mesh).1 _ (b7n hr)]
  rfl
 unfold a4f;rw[b5r h,hg]
def c1n (G:a1d):ByteArray:=if G.names=⟨#[]⟩ then a4d else G.names
def c3b (G:a1d):ByteArray:=ofL (bl a9b++tw (c1n G::G.sizes.map numT))
def c3k (G:a1d):ByteArray:=ofL (bl a9p++tw (G.outs.map numT))
theorem d9z (G:a1d):bl (a8c G)=bl (c3b G)++[10]:=by
 unfold a8c c3b c1n;rw[a6x,c2p,a6y,b5c]
 split
 ·show(([109,101,115,104,32,45]:List UInt8)++tw _)++[10]=([109,101,115,104]++32::([45]++tw _))++[10]
  rfl
 ·rw[a6x,show bl c5t=[109,101,115,104,32] from rfl,show bl a9b=[109,101,115,104] from rfl,show bl lfT=[10] from rfl];simp only[List.append_assoc,List.cons_append,List.nil_append]
theorem d5a (h:a6j (a0a G.names) [] G.nodes L):bl (a3f G L)=tl (c3b G::(a7r (a0a G.names) G.nodes L++[c3k G])):=by
 unfold a3f;rw[a6x,c2p,a6x,c4w _ h,d9z,c4e,d9g,c4e,show tl []=[] from rfl,show bl lfT=[10] from rfl];unfold c3k;rw[a6y];simp only[List.append_assoc,List.cons_append,List.nil_append]
theorem b8i (h:b4e (a0a G.names)){c:UInt8}(hc:c.toNat<33):Free c (c1n G):=by
 unfold c1n;split
 ·unfold Free;rw[show bl a4d=[45] from rfl,List.mem_singleton];intro e;subst e;revert hc;decide
 ·exact d3f h hc
theorem b3k (h:∀ x∈l,Fits x){c:UInt8}(hc:c.toNat<45):∀ w∈l.map numT,Free c w:=by
 intro w hw;obtain⟨x,hx,rfl⟩:=List.mem_map.1 hw;exact b0g (h x hx) hc
theorem b6k {c:UInt8}(hc:c.toNat<97):Free c a9b∧Free c a9p:=by
 constructor
 ·unfold Free;rw[show bl a9b=[109,101,115,104] from rfl];intro e;simp only[List.mem_cons,List.not_mem_nil,or_false] at e;rcases e with e|e|e|e <;> (subst e;revert hc;decide)
 ·unfold Free;rw[show bl a9p=[111,117,116,115] from rfl];intro e;simp only[List.mem_cons,List.not_mem_nil,or_false] at e;rcases e with e|e|e|e <;> (subst e;revert hc;decide)
theorem d6i (hm:a7n G=true)(hf:∀ x∈G.sizes,Fits x):a4y (c3b G)=(G.names,G.sizes,true):=by
 obtain⟨hg,hlen⟩:=b3g hm
 have hW:a0u (c3b G)=a9b::c1n G::G.sizes.map numT:=b9z rfl (b6k (by decide)).1 (fun w hw=>by
  rcases List.mem_cons.1 hw with e|e
  ·subst e;exact b8i hg (by decide)
  ·exact b3k hf (by decide) w e)
 have hr:=b4w hf;unfold a4y;simp only[hW,List.drop_succ_cons,List.drop_zero,List.headD_cons,List.isEmpty_cons,Bool.or_self,hr];unfold c1n;by_cases hn:G.names=⟨#[]⟩
 ·have hz:G.sizes=[]:=by
   rw[hn] at hlen;have:(a0a ⟨#[]⟩).length=0:=rfl;exact List.eq_nil_of_length_eq_zero (by omega)
  rw[iP hn,iP rfl,hz,hn]
  rfl
 ·have hd:=d3e hg;rw[iN hn,iN hd,decide_eq_false hn,decide_eq_false hd]
  rfl
theorem d8z (hf:∀ x∈G.outs,Fits x):a5x (c3k G)=(G.outs,true):=by
 have hW:a0u (c3k G)=a9p::G.outs.map numT:=b9z rfl (b6k (by decide)).2 (b3k hf (by decide));unfold a5x;simp only[hW,List.drop_succ_cons,List.drop_zero,List.headD_cons,List.isEmpty_cons,b4w hf]
 rfl
theorem c1v (hf:FitG G){T:ByteArray}(h:a4f G=(T,0)):a2r T=(b1w G,0):=by
 have h0:(a0f G).1=0:=by
  refine Decidable.byContradiction fun hn=>?_
  rw[b0s hn] at h;injection h with _ h;exact hn h
 have hs:¬ 65536<(a3f G (a0f G).2).size:=fun hb=>by
  rw[a6u h0 hb] at h;injection h with _ h;exact absurd h (by decide)
 have hT:a3f G (a0f G).2=T:=by
  rw[a9i h0 hs] at h;injection h with h _
 obtain⟨hr,he⟩:=b7m h0;have hok:=b7n hr;have hg:=(b3g hr.mesh).1;have hbl:=d5a hok;rw[hT] at hbl hs
 have hfree:∀ w∈c3b G::(a7r (a0a G.names) G.nodes (a0f G).2++[c3k G]),Free 10 w:=by
  intro w hw;rcases List.mem_cons.1 hw with e|e
  ·subst e;unfold Free c3b;rw[a6y,List.mem_append];rintro(h1|h1)
   ·exact(b6k (by decide)).1 h1
   ·refine c9x (by decide) (fun x hx=>?_) h1;rcases List.mem_cons.1 hx with e|e
    ·subst e;exact b8i hg (by decide)
    ·exact b3k hf.sizes (by decide) x e
  ·rcases List.mem_append.1 e with e|e
   ·exact c1g hg hf.each hok w e
   ·rw[List.mem_singleton] at e;subst e;unfold Free c3k;rw[a6y,List.mem_append];rintro(h1|h1)
    ·exact(b6k (by decide)).2 h1
    ·exact c9x (by decide) (b3k hf.outs (by decide)) h1
 have hlf:=d6s hbl hfree;have e1:(a0z T).1.headD ⟨#[]⟩=c3b G:=by rw[hlf];rfl
 have e2:((a0z T).1.drop 1).dropLast=a7r (a0a G.names) G.nodes (a0f G).2:=by
  rw[hlf]
  show(a7r (a0a G.names) G.nodes (a0f G).2++[c3k G]).dropLast=_
  rw[List.dropLast_concat]
 have e3:(a0z T).1.getLastD ⟨#[]⟩=c3k G:=by
  rw[hlf]
  show(c3b G::(a7r (a0a G.names) G.nodes (a0f G).2++[c3k G])).getLastD ⟨#[]⟩=_
  rw[←List.cons_append,List.getLastD_concat]
 have e4:¬((a0z T).2=false∨(a0z T).1.length<2):=by
  rw[hlf];rintro(h1|h1)
  ·cases h1
  ·simp only[List.length_cons,List.length_append,List.length_nil] at h1;omega
 have hG:(⟨G.sizes,G.names,a4j (a0a G.names) G.nodes (a0f G).2,G.outs⟩:a1d)=b1w G:=rfl;unfold a2r;rw[iN hs,iN e4,e1,e2,e3,d6i hr.mesh hf.sizes,b5o hg hf.each hok,d8z hf.outs,iN (by rintro(h1|h1|h1) <;> cases h1),hG,b5r h0,iN (by rw[h0];exact fun hn=>hn rfl),d3q h0,h,iN (fun hn=>hn rfl)]
def b6u (w:World) (G:a1d) (e:Int) (x:Ending) (w' : World):Prop :=
 ∃ v,x=.returned (.tuple #[v,.int .i64 e])∧a1m w' v G∧FewG 80000 G∧Below w.heap.size w w'
def c4t (w:World) (L:List ByteArray) (x:Ending) (w' : World):Prop :=
 ∃ A n c K,x=.returned (.slice A n c)∧n≤c∧Strs w' K A n L∧Below w.heap.size w w'
theorem a9q.words {w1:World}{L:List ByteArray}{v:Value}(h:a9q w L v w1)(hs:∀ x∈L,x.size≤90000)(hl:L.length≤90001):c4t w L (.returned v) w1:=by
 obtain⟨A,c,K,rfl,hc,hS,hb,_⟩:=h.strs hs hl;exact⟨A,_,c,K,rfl,hc,hS,hb⟩
theorem a0e.keptM {w':World}{base:Nat}{c:a0e}{row:Option Nat}(h:c.holds w base)(hm:c.mine)(hg:w.grownBy w' row)(hne:∀ k,c.block=some k→row≠some k):c.holds w' base:=by
 cases c with
 | own e v n xs=>exact OwnS.grownNe h hg fun k hk he=>hne k hk he.symm
 | row e m v n us =>
  refine World.ownsRow.kept h hg ?_
  cases hv:v.ownBlock with
  | none=>exact .inl rfl
  | some k=>exact .inr fun he=>hne k hv he.symm
 | box g t vs=>exact⟨h.1,(hg.block g (a2y h.2) (fun he=>hne g rfl he.symm)).trans h.2⟩
 | ints A n xs=>cases hm
 | vals A n k us=>cases hm
 | tape g=>cases hm
theorem a2e (w:World)(p:Addr)(v:Value):(w.setCell p v).heap.size=w.heap.size:=by simp[World.setCell]
theorem Sep.both {l:List a0e}(h:Sep w0 w l)(v:Value)(hp:g<w0.heap.size)(hm:∀ c∈l,c.mine):Sep (w0.setCell ⟨g,i,none⟩ v) (w.setCell ⟨g,i,none⟩ v) l:=by
 obtain⟨h1,h2,h3⟩:=Sep.pair.1 h;refine Sep.pair.2 ⟨⟨h1.os,h1.tape,h1.output,by rw[a2e,a2e];exact h1.size,fun k hk=>?_⟩,fun c hc=>?_,h3⟩
 ·rw[a2e] at hk;by_cases e:k=g
  ·subst e;have:=h1.block k hk;simp only[World.setCell,Array.getElem?_modify,if_pos];rw[this]
  ·rw[Below.heap_setCell _ _ _ _ e,Below.heap_setCell _ _ _ _ e];exact h1.block k hk
 ·rw[a2e]
  exact a0e.keptM (h2 c hc) (hm c hc) (a0y w g i v) (fun k hk he=>by
   have:=(a0e.block_ge (h2 c hc) hk).1;injection he with he
   omega)
theorem Strs.apart {K:Nat}{A:Option Addr}{n:Nat}{L:List ByteArray}(h:Strs w K A n L)(v:Value)(hK:K≠g):Strs (w.setCell ⟨g,i,none⟩ v) K A n L :=
 ⟨h.1,h.2.1,h.2.2.1,fun j x hx=>by
  obtain⟨a,e,hl,h0,hk⟩:=h.2.2.2 j x hx;refine⟨a,e,by rw[a2e];exact hl,?_,hk⟩;rw[World.cell?_setCell_other _ _ _ _ (fun e9=>hK (by rw[←hk,←a0d a j];rw[←e9]))]
  exact h0⟩
theorem e6v:(prog.info? 28).map (·.size)=some 4:=by kernel_rfl
theorem a0p {fn:Func}{R:Ending→World→Prop}{a:Act}{l:List a0e}{p u:Tmp}{v0 v1 v2 v3:Value}(z:Value)(H:Sep w0 w l)(i:Nat)(hi:l[i]?=some (.box g 28 [v0,v1,v2,v3]))
  (h:fn.results=#[.cell p 28,.tmp u])(hp:a.tmps.getD p undef=.pointer (some ⟨g,0,none⟩))(hz:a.tmps.getD u undef=z)(hd:a.defers=[])(hR:R (.returned (.tuple #[.agg #[v0,v1,v2,v3],z])) w):bodyPost prog fn R .ret a w:=by
 refine bodyPost_ret_by ?_ hd hR;have hp' : a.tmps[p]?.getD undef=.pointer (some ⟨g,0,none⟩):=by simpa using hp
 have hz' : a.tmps[u]?.getD undef=z:=by simpa using hz
 rw[results_cell_tmp h];simp[hp', hz', asAddr,run_loadVar_row w g _ 28 _ _ _ (H.heap i hi) underlying28 rfl e6v,Result.andThen]
theorem b0k:∀(L:List ByteArray) (b:Bool),(a2x L b).1.length≤L.length
 | [],b=>Nat.le_refl _
 | x::L,true=>Nat.zero_le _
 | x::L,false=>by rw[a2x];simp only[List.length_cons];have:=b0k L (!(a0t x).2);omega
theorem c1i:∀ M:List ByteArray,(a2j M).1.length≤M.length+1∧(a2j M).2.1.length≤M.length
 | []=>⟨Nat.le_refl _,Nat.le_refl _⟩
 | x::M=>by
  have ih:=c1i M;rw[a2j]
  split
  ·exact⟨Nat.zero_le _,by simp⟩
  ·split
   ·simp only[List.length_cons];omega
   ·simp only[List.length_cons,List.length_nil];omega
theorem b8e (L:List ByteArray)(b:Bool):(a1w L b).1.length≤L.length+1∧(a1w L b).2.1.length≤L.length:=by
 unfold a1w
 split
 ·exact⟨Nat.zero_le _,by show(L.drop 1).length≤_;rw[List.length_drop];omega⟩
 ·have:=c1i (L.drop 1);rw[List.length_drop] at this;omega
theorem e3w (s:ByteArray):0≤opF s∧opF s≤20:=by
 have:∀(l:List ByteArray) (k:Nat),0≤opI s l k∧(opI s l k=0∨opI s l k<((k+l.length:Nat):Int)):=by
  intro l
  induction l with
  | nil=>intro k;exact⟨Int.le_refl _,.inl rfl⟩
  | cons x l ih =>
   intro k;rw[opI]
   split
   ·exact⟨by omega,.inr (by rw[List.length_cons];omega)⟩
   ·have:=ih (k+1);rw[List.length_cons];omega
 have h:=this opN 0;have hl:opN.length=21:=rfl;rw[hl] at h;unfold opF;omega
theorem b7o {L:List ByteArray}(h:∀ x∈L,x.size≤90000):(L.headD ⟨#[]⟩).size≤90000:=by
 cases L with
 | nil=>exact Nat.zero_le _
 | cons x L=>exact h x List.mem_cons_self
theorem c1j:∀ M:List ByteArray,∀ x∈(a2j M).2.1,x∈M
 | [],x,h=>by cases h
 | y::M,x,h=>by
  rw[a2j] at h
  split at h
  ·exact List.mem_cons_of_mem _ h
  ·split at h
   ·exact List.mem_cons_of_mem _ (c1j M x h)
   ·exact List.mem_cons_of_mem _ h
theorem a8l (L:List ByteArray)(b:Bool):∀ x∈(a1w L b).2.1,x∈L:=fun x h=>by
 unfold a1w at h
 split at h
 ·exact List.mem_of_mem_drop h
 ·exact List.mem_of_mem_drop (c1j _ x h)
theorem b8k (h:s.size≤65536):Few 80000 (a1x s).1∧Fits (a1x s).1.op∧Fits (a1x s).1.n∧Fits (a1x s).1.how∧(a1x s).1.note.size≤90000:=by
 have hw:=a4g s;have hws:=a4c (s:=s) (by omega);unfold a1x;obtain⟨W,hW⟩:∃ W,a0u s=W:=⟨_,rfl⟩;rw[hW] at hw hws ⊢;obtain⟨b1,hb1⟩:∃ b,W.isEmpty=b:=⟨_,rfl⟩;simp only[hb1];have l1:=b8e (W.drop 1) b1;have s1:=a8l (W.drop 1) b1;have d1:(W.drop 1).length≤W.length:=by rw[List.length_drop];omega
 obtain⟨F1,hF1⟩:∃ F,a1w (W.drop 1) b1=F:=⟨_,rfl⟩;simp only[hF1] at l1 s1 ⊢;have l2:=b8e F1.2.1 F1.2.2;have s2:=a8l F1.2.1 F1.2.2;obtain⟨F2,hF2⟩:∃ F,a1w F1.2.1 F1.2.2=F:=⟨_,rfl⟩;simp only[hF2] at l2 s2 ⊢;have l3:=b8e F2.2.1 F2.2.2;have s3:=a8l F2.2.1 F2.2.2;obtain⟨F3,hF3⟩:∃ F,a1w F2.2.1 F2.2.2=F:=⟨_,rfl⟩;simp only[hF3] at l3 s3 ⊢;have ho:=e3w (W.headD ⟨#[]⟩)
 have hn:(((F3.2.1.drop 1).drop 1).headD ⟨#[]⟩).size≤90000:=b7o fun x hx =>
  hws x (List.mem_of_mem_drop (s1 x (s2 x (s3 x (List.mem_of_mem_drop (List.mem_of_mem_drop hx))))))
 refine⟨⟨by show F1.1.length≤_;omega,by show F2.1.length≤_;omega,by show F3.1.length≤_;omega⟩,⟨by show -9223372036854775808≤_;omega,by show _≤(9223372036854775807:Int);omega⟩,a5c _,a5c _,?_⟩
 show(if _=a4d then(⟨#[]⟩:ByteArray) else _).size≤_
 split
 ·exact Nat.zero_le _
 ·exact hn
theorem c1p:∀ L:List ByteArray,(∀ x∈L,x.size≤65536)→∀ nd∈(a1s L).1,Few 80000 nd
 | [],_,nd,h=>by cases h
 | s::L,hs,nd,h=>by
  rw[a1s] at h
  split at h
  ·rcases List.mem_cons.1 h with e|e
   ·subst e;exact(b8k (hs s List.mem_cons_self)).1
   ·exact c1p L (fun x hx=>hs x (List.mem_cons_of_mem _ hx)) nd e
  ·cases h
def Cl (wr:World) (S:World→Prop) (w:World):Prop:=Below wr.heap.size wr w∧S w
section
variable {P : Program} {l : List Oper} {C : World → Prop} {Q : Act → Prop} {o : Oper} {rest : List Oper} {a a' : Act} {w : World} {v : Value}
theorem qR {id:Nat}{R:Exit→Act→World→Prop}(hC:C w.drew)(h:wpQuiet P l.toArray C (fun a'=>∀ w', C w' → R .normal a' w') l a)(hm:P.follows .mixedOrders=true:=by kernel_rfl)
  (hB:Region.lexB .any l.toArray=true:=by kernel_rfl):(Code.region id l.toArray true).wp P R a w:=wp_region_quiet hm hB hC h
theorem qV (h:wpQuiet P l.toArray C Q rest a')(hy:∀ w,C w→(execOp a.eval o).run P w=.ok (.value v) w:=by(intro wq sq;obtain⟨_,sq⟩:=sq;repeat (obtain⟨_,sq⟩:=sq));go_simp;try (first|with_reducible rfl|rw[iN (by omega)]))
  (hw:Region.wanted o (yielded l.toArray a.tmps)=true:=by rfl)(ha:a.put o.dst v=a':=by(try simp only[pA]);rfl):wpQuiet P l.toArray C Q (o::rest) a:=by
 unfold wpQuiet;rw[iP hw];refine⟨v,fun w hc=>?_,by rw[ha];exact h⟩;unfold Oper.quietAt;rw[hy w hc];exact⟨rfl,rfl⟩
theorem qC {f:FuncId}{args:Array Value}(hc:∀ w,C w→Calls P f args w fun e w'=>e=.returned v∧C w')(h:wpQuiet P l.toArray C Q rest a')
  (hy:∀ w,C w→(execOp a.eval o).run P w=.ok (.enter f args) w:=by(intro wq sq;obtain⟨_,sq⟩:=sq;repeat (obtain⟨_,sq⟩:=sq));go_simp;try with_reducible rfl)
  (hw:Region.wanted o (yielded l.toArray a.tmps)=true:=by rfl)(ha:a.put o.dst v=a':=by(try simp only[pA]);rfl):wpQuiet P l.toArray C Q (o::rest) a:=by
 unfold wpQuiet;rw[iP hw];refine⟨v,fun w hC=>?_,by rw[ha];exact h⟩;unfold Oper.quietAt;rw[hy w hC];exact⟨rfl,hc w hC⟩
theorem qU (h:wpQuiet P l.toArray C Q rest a')(hw:Region.wanted o (yielded l.toArray a.tmps)=false:=by rfl)(ha:a.put o.dst undef=a':=by(try simp only[pA]);rfl):wpQuiet P l.toArray C Q (o::rest) a:=by
 unfold wpQuiet;rw[iN (by rw[hw];simp),ha];exact h
end
end Go.Proofs.YtdcmanhgekjhgaaGreatDoor
