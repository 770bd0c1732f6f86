import Derived.Lib.SmallJoins
import Derived.ProofKit
import Derived.SizedLaws
import Derived.Test.YtnnmplkgenhofaaPaa
import Derived.Test.YtnnmplkgenhofaaPbv
namespace Go.Proofs.Ytnnmplkgenhofaa
open Go.ChangeShapes Go.WideShapes Go.ChangeAt Go.RowKit Go.Joins Go.Deep
section
variable {H : Type} {enc : TypeId × Value → H} {P : Program} {W : World} {r : Reach} {b0 : Nat}
theorem open_row {t e:TypeId} {a:Option Addr} {len cap fuel:Nat} {x:DataW H × List MemPlace} (ht:P.underlying t=some (.slice e)) (he:P.underlying e=some (.int .i64)) (hc:P.cellsOf e=1) (hby:P.bytesOf e=8)
  (hf:DataW.trod enc P W 0 (fun _=>true) true fuel t [.slice a len cap]=some x) (hsz:∀ n∈x.1.weights P t,n≤reachBytes) :
  ∃ zs,IsRow .i64 W a len cap zs∧len≤17592186043904∧len≤cap:=by
 rcases open_ints ht he hc hf with ⟨hcs,_⟩ | ⟨y,l,c,zs,hcs,_,hl,hm,hz,hx,hcell,hwz⟩
 ·simp at hcs;obtain ⟨rfl,rfl,rfl⟩:=hcs;exact ⟨[],.inl ⟨rfl,rfl,rfl,rfl⟩,by omega,by omega⟩
 ·simp at hcs;obtain ⟨rfl,rfl,rfl⟩:=hcs;have hzl:zs.length=cap:=by simpa using hz
  have hb:=hsz ((List.length (lits (H:=H) .i64 (zs.take len))+List.length (lits (H:=H) .i64 (zs.drop len)))*P.bytesOf e) (by rw [hx];simp [DataW.weights,ht]);rw [hby] at hb;simp only [lits,List.length_map,List.length_take,List.length_drop,reachBytes] at hb;exact ⟨zs,.inr ⟨_,rfl,hl,hm,hzl,hcell,hwz⟩,by omega,hl⟩
theorem open_slice_arg {t e:TypeId} {v:Value} {d:DataW H} {p:List MemPlace} (ht:P.underlying t=some (.slice e)) (he:P.underlying e=some (.int .i64)) (hc:P.cellsOf e=1) (hby:P.bytesOf e=8)
  (hv:Value.okWide P W r b0 t v) (h:DataW.Trod enc P W 0 (fun _=>true) true t v d p) (hsz:∀ n∈d.weights P t,n≤reachBytes) :
  ∃ a len cap zs,v=.slice a len cap∧IsRow .i64 W a len cap zs∧len≤17592186043904∧len≤cap:=by
 obtain ⟨a,len,cap,rfl⟩:=okWide_slice ht hv;obtain ⟨fuel,hf⟩:=h;obtain ⟨zs,h1,h2⟩:=open_row (x:=(d,p)) ht he hc hby (by simpa [Value.cells] using hf) hsz;exact ⟨a,len,cap,zs,rfl,h1,h2⟩
end
end Go.Proofs.Ytnnmplkgenhofaa
namespace Go.Proofs.Ytnnmplkgenhofaa
open Go.RowKit
def Dots (k:Nat) (l:List Int):Prop:=(∀ x∈l,x=32∨x=46)∧l.count 46=k∧l.length≤2*k
theorem dots_nil:Dots 0 []:=⟨by simp,rfl,by simp⟩
theorem dots_more {k:Nat} {l p:List Int} (h:Dots k l) (hp:p=[46]∨p=[32,46]∨p=[46,32]):Dots (k+1) (l++p):=by
 obtain ⟨h1,h2,h3⟩:=h;refine ⟨fun x hx => ?_,?_,?_⟩
 ·rcases List.mem_append.1 hx with hx | hx
  ·exact h1 x hx
  ·rcases hp with rfl | rfl | rfl
   ·simp at hx;omega
   ·simp at hx;omega
   ·simp at hx;omega
 ·rw [List.count_append,h2];rcases hp with rfl | rfl | rfl <;> rfl
 ·rw [List.length_append];rcases hp with rfl | rfl | rfl
  ·show l.length+1≤_;omega
  ·show l.length+2≤_;omega
  ·show l.length+2≤_;omega
theorem noteL_dots (nm:List Int):∀ (l out:List Int),(∀ x∈l,x=32∨x=46)→noteL nm out l=some (out++List.replicate (l.count 46) (-1))
 | [],out,_=>by simp [noteL]
 | x::l,out,h=>by
  have ih:=noteL_dots nm l;rcases h x (by simp) with rfl | rfl
  ·rw [noteL,noteStep,if_pos rfl,Option.bind_some,ih out (fun y hy=>h y (by simp [hy]))];rw [List.count_cons];simp
  ·rw [noteL,noteStep,if_neg (by decide),if_pos rfl,Option.bind_some,ih _ (fun y hy=>h y (by simp [hy]))];rw [List.count_cons,List.append_assoc];simp [List.replicate_succ]
theorem dots_runes {k:Nat} {l:List Int} (h:Dots k l):runesOf (runesBytes l)=l:=runes_bytes l fun r hr=>by
 rcases h.1 r hr with e | e <;> omega
theorem noteE_dots {nm l:List Int} {nd:NodeV} {r:Nat} (h:Dots r l) (hr:r≤4) (hn:nd.note=runesBytes l):noteE nm nd r=0:=by
 rw [noteE,hn,dots_runes h];have hg:=noteL_dots nm l [] h.1;rw [List.nil_append,h.2.1] at hg;have hl:l.length≤16:=by have:=h.2.2;omega
 rcases Nat.eq_zero_or_pos r with e | e
 ·subst e;rw [noteR_blank hl hg]
 ·rw [noteR_ok hl hg (fun q=>by have:=congrArg List.length q;simp at this;omega) (by simp)]
theorem noteE_over {nm l:List Int} {nd:NodeV} {r:Nat} (h:Dots r l) (hr:r≤4) (hn:nd.note=runesBytes (l++[46,46,46,46,46])):noteE nm nd r=14:=by
 have hall:∀ x∈l++[46,46,46,46,46],x=32∨x=46:=fun x hx=>by
  rcases List.mem_append.1 hx with hx | hx
  ·exact h.1 x hx
  ·simp at hx;exact .inr hx
 have hrun:runesOf (runesBytes (l++[46,46,46,46,46]))=l++[46,46,46,46,46]:=runes_bytes _ fun x hx=>by
  rcases hall x hx with e | e <;> omega
 rw [noteE,hn,hrun];have hg:=noteL_dots nm _ [] hall;rw [List.nil_append,List.count_append,h.2.1,show List.count 46 ([46,46,46,46,46]:List Int)=5 from rfl] at hg;rw [noteR_rank (out:=List.replicate (r+5) (-1)) (by rw [List.length_append];have:=h.2.2;show _+5≤16;omega) hg (fun q=>by have:=congrArg List.length q;simp at this) (by rw [List.length_replicate];omega)]
theorem shapesGo_pre (nm:List Int):∀ (N:List NodeV) (acc L:List (List Int)),shapesGo nm acc N=(0,L)→∀ (i:Nat) (x:List Int),acc[i]? = some x→L[i]? = some x
 | [],acc,L,h,i,x,hx=>by
  have:acc=L:=by rw [shapesGo] at h;injection h
  subst this;exact hx
 | nd::N,acc,L,h,i,x,hx=>by
  unfold shapesGo at h
  split at h
  ·split at h
   ·split at h
    ·exact shapesGo_pre nm N _ L h i x (by rw [List.getElem?_append_left (List.getElem?_eq_some_iff.1 hx).1];exact hx)
    ·rename_i h3;injection h with h;exact absurd h h3
   ·rename_i h2;injection h with h;exact absurd h h2
  ·injection h with h;cases h
def Renoted (L:List (List Int)) (k:Nat) (N N' : List NodeV):Prop :=
 N'.length=N.length∧∀ (j:Nat) (nd:NodeV) (s:List Int),N[j]? = some nd→L[k+j]? = some s→∃ l,Dots s.length l∧N'[j]? = some (noted nd (runesBytes l))
theorem shapesGo_renoted (nm:List Int):∀ (N N' : List NodeV) (acc L:List (List Int)),shapesGo nm acc N=(0,L)→Renoted L acc.length N N' → shapesGo nm acc N' = (0,L)
 | [],N', acc,L,h,g=>by
  rw [List.eq_nil_of_length_eq_zero (show N'.length=0 from g.1)];exact h
 | nd::N,N', acc,L,h,g=>by
  unfold shapesGo at h
  split at h
  ·rename_i h1
   split at h
   ·rename_i h2
    split at h
    ·rename_i h3;obtain ⟨⟨e,z⟩,hz⟩:∃ r,shapeR nd (insOf acc nd.ins)=r:=⟨_,rfl⟩;rw [hz] at h h2 h3;have h2:e=0:=h2;subst h2;have hzr:Sh.right z=true:=by have:=shape_right (nd:=nd) (L:=insOf acc nd.ins);rw [hz] at this;exact this rfl
     have hz4:=(Sh.right_iff.1 hzr).1;have hLz:L[acc.length+0]? = some z:=shapesGo_pre nm N _ L h _ z (by rw [Nat.add_zero,List.getElem?_append_right (Nat.le_refl _),Nat.sub_self];rfl);obtain ⟨l,hl,hN⟩:=g.2 0 nd z rfl hLz
     cases N' with
     | nil=>simp at hN
     | cons nd' N1 =>
      injection hN with hN
      subst hN
      have hrest:Renoted L (acc++[z]).length N N1:=⟨by have:=g.1;simp at this;exact this,fun j x s hx hs=>by
       have:=g.2 (j+1) x s hx (by rw [List.length_append,List.length_singleton] at hs;rw [show acc.length+(j+1)=acc.length+1+j by omega];exact hs)
       exact this⟩
      have ih:=shapesGo_renoted nm N N1 (acc++[z]) L h hrest;unfold shapesGo;rw [if_pos (show insOk acc (noted nd (runesBytes l)).ins=true from h1),show shapeR (noted nd (runesBytes l)) (insOf acc (noted nd (runesBytes l)).ins)=(0,z) from hz];rw [if_pos rfl,if_pos (noteE_dots hl hz4 rfl)];exact ih
    ·rename_i h3;injection h with h;exact absurd h h3
   ·rename_i h2;injection h with h;exact absurd h h2
  ·injection h with h;cases h
theorem shapes_renoted {xs:List Int} {N' : List NodeV} (h:Renoted (kBody xs).shapes 0 (kGraph xs).nodes N'):shapesR ⟨(kGraph xs).sizes,(kGraph xs).names,N', (kGraph xs).outs⟩=(0,(kBody xs).shapes):=by
 obtain ⟨nm,hK⟩:=graph_fine xs;have hl:=(shapesR_graph xs).2;have h1:=hK.len;have h2:=hK.outs;have h3:N'.length=(kGraph xs).nodes.length:=h.1;have hg:=shapesGo_renoted nm _ N' [] _ hK.go h;rw [shapesR_end (G:=⟨(kGraph xs).sizes,(kGraph xs).names,N', (kGraph xs).outs⟩) (l:=(kBody xs).shapes) ((mesh_same rfl rfl).trans hK.mesh) ⟨by show N'.length≤48;omega,by show (kGraph xs).outs.length≤48;omega⟩ (by show shapesGo (runesOf (kGraph xs).names) [] N' = _;rw [hK.runes];exact hg)];rw [if_pos (outs_good fun i x hi=>by have:=hK.outIn x (List.mem_of_getElem? hi);show 0≤x∧x<(N'.length:Int);omega)]
theorem shapes_over {xs:List Int} {nd:NodeV} {N1:List NodeV} {l:List Int} {s:List Int} (h:Renoted (kBody xs).shapes 0 (kGraph xs).nodes (nd::N1)) {nd0:NodeV} (h0:(kGraph xs).nodes[0]? = some nd0) (hs:(kBody xs).shapes[0]? = some s) (hd:Dots s.length l) (hn:nd=noted nd0 (runesBytes l)) :
  shapesR ⟨(kGraph xs).sizes,(kGraph xs).names,noted nd (runesBytes (l++[46,46,46,46,46]))::N1,(kGraph xs).outs⟩=(14,[]):=by
 obtain ⟨nm,hK⟩:=graph_fine xs;have h1:=hK.len;have h2:=hK.outs;have h3:(nd::N1).length=(kGraph xs).nodes.length:=h.1;rw [List.length_cons] at h3;refine shapesR_go (G:=⟨(kGraph xs).sizes,(kGraph xs).names,noted nd (runesBytes (l++[46,46,46,46,46]))::N1,(kGraph xs).outs⟩) ((mesh_same rfl rfl).trans hK.mesh) ⟨by show List.length (_::_)≤48;rw [List.length_cons];omega,by show (kGraph xs).outs.length≤48;omega⟩ (l:=[]) ?_ (by decide)
 show shapesGo (runesOf (kGraph xs).names) [] (noted nd (runesBytes (l++[46,46,46,46,46]))::N1)=_
 rw [hK.runes];subst hn;have hgo:=hK.go
 cases hN:(kGraph xs).nodes with
 | nil=>rw [hN] at h0;simp at h0
 | cons x N =>
  rw [hN] at h0 hgo;injection h0 with h0
  subst h0;unfold shapesGo at hgo
  split at hgo
  ·rename_i q1
   split at hgo
   ·rename_i q2
    split at hgo
    ·obtain ⟨⟨e,z⟩,hz⟩:∃ r,shapeR x (insOf [] x.ins)=r:=⟨_,rfl⟩;rw [hz] at hgo q2;have q2:e=0:=q2;subst q2;have hzr:Sh.right z=true:=by have:=shape_right (nd:=x) (L:=insOf [] x.ins);rw [hz] at this;exact this rfl
     have hz4:=(Sh.right_iff.1 hzr).1;have hLz:(kBody xs).shapes[0]? = some z:=shapesGo_pre nm N _ _ hgo 0 z rfl;rw [hLz] at hs;injection hs with hs
     subst hs;rw [shapesGo,if_pos (show insOk [] (noted (noted x (runesBytes l)) (runesBytes (l++[46,46,46,46,46]))).ins=true from q1),show shapeR (noted (noted x (runesBytes l)) (runesBytes (l++[46,46,46,46,46]))) (insOf [] (noted (noted x (runesBytes l)) (runesBytes (l++[46,46,46,46,46]))).ins)=(0,z) from hz,if_pos rfl];have hE:noteE nm (noted (noted x (runesBytes l)) (runesBytes (l++[46,46,46,46,46]))) z.length=14:=noteE_over hd hz4 rfl;rw [hE,if_neg (by decide)]
    ·rename_i q3;injection hgo with hgo;exact absurd hgo q3
   ·rename_i q2;injection hgo with hgo;exact absurd hgo q2
  ·injection hgo with hgo;cases hgo
end Go.Proofs.Ytnnmplkgenhofaa
