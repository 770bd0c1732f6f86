import Derived.Test.YtnnmplkgenhofaaGreatPaz
import Derived.Test.YtnnmplkgenhofaaGreatPbk
set_option maxRecDepth 100000
set_option maxHeartbeats 12800000
namespace Go.Proofs.YtnnmplkgenhofaaGreat
open Go.RowKit
noncomputable def opP (nd:NodeV) (L:List (List Int)):Int × List Int :=
 if nd.op=1∨nd.op=2 then ownP nd.shape
 else if nd.op=3 then countP nd.shape nd.a
 else if nd.op=13 then turnedP (L.getD 0 []) nd.a
 else if nd.op=14 then spreadP (L.getD 0 []) nd.shape nd.a
 else if nd.op=15 then slicedP (L.getD 0 []) nd.a
 else if nd.op=16 then paddedP (L.getD 0 []) nd.a
 else if nd.op=17 then joinedP L nd.a
 else if nd.op=18 then foldedP nd.how (L.getD 0 []) nd.a
 else if nd.op=19 then multP (L.getD 0 []) (L.getD 1 []) nd.a
 else if nd.op=20 then windowedP nd.how (L.getD 0 []) nd.a
 else commonP L
theorem form_op {nd:NodeV} {k:Int} (h:formF nd k=true):1≤nd.op∧nd.op≤20:=by
 rcases Int.lt_or_le nd.op 1 with g|g
 ·have:takesF nd.op=(-2,false,false,false,false):=by rw[takesF];repeat rw[if_neg (by omega)]
  rw[formF,this] at h;simp[formK] at h
 ·rcases Int.lt_or_le 20 nd.op with g2|g2
  ·have:takesF nd.op=(-2,false,false,false,false):=by rw[takesF];repeat rw[if_neg (by omega)]
   rw[formF,this] at h;simp[formK] at h
  ·exact⟨g,g2⟩
theorem form_k {nd:NodeV} {k:Int} {t:Int × Bool × Bool × Bool × Bool} (h:formF nd k=true) (ht:takesF nd.op=t):¬ (t.1 = -2∨(0≤t.1∧k≠t.1)∨(t.1 = -1∧k<2)):=by
 intro hc;rw[formF,ht,formK,if_pos hc] at h;cases h
theorem len_0 {L:List (List Int)} (h:((L.length:Nat):Int)=0):L=[]:=List.eq_nil_of_length_eq_zero (by omega)
theorem len_1:∀ {L:List (List Int)},((L.length:Nat):Int)=1→∃ s,L=[s]
 | [s],_=>⟨s,rfl⟩
 | [],h=>by simp at h
 | _::_::_,h=>by simp at h;omega
theorem len_2:∀ {L:List (List Int)},((L.length:Nat):Int)=2→∃ s t,L=[s,t]
 | [s,t],_=>⟨s,t,rfl⟩
 | [],h=>by simp at h
 | [_],h=>by simp at h
 | _::_::_::_,h=>by simp at h;omega
theorem len_3:∀ {L:List (List Int)},((L.length:Nat):Int)=3→∃ s t u,L=[s,t,u]
 | [s,t,u],_=>⟨s,t,u,rfl⟩
 | [],h=>by simp at h
 | [_],h=>by simp at h
 | [_,_],h=>by simp at h
 | _::_::_::_::_,h=>by simp at h;omega
theorem len_j:∀ {L:List (List Int)},2≤((L.length:Nat):Int)→∃ s t L2,L=s::t::L2
 | s::t::L2,_=>⟨s,t,L2,rfl⟩
 | [],h=>by simp at h
 | [_],h=>by simp at h
theorem tot_zeros (ax:Nat):∀(L:List (List Int)) (a:Int),(L.map zeros).foldl (fun a t=>a+t.1.getD ax 0) a=L.foldl (fun a s=>a+s.getD ax 0) a
 | [],a=>rfl
 | s::L,a=>by rw[List.map_cons,List.foldl_cons,List.foldl_cons,tot_zeros ax L];rfl
theorem lot0 {r:Int × List Int × List Int} {s d:List Int} (h:r=(0,s,d)):(if r.1=0 then((0:Int),r.2.1) else(r.1,[]))=(0,s):=by rw[h];rfl
theorem lot1 {r:Int × List Int × List Int} (h:r=refused 1):(if r.1=0 then((0:Int),r.2.1) else(r.1,[]))=(1,[]):=by rw[h];rfl
theorem lot13 {r:Int × List Int × List Int} (h:r=refused 13):(if r.1=0 then((0:Int),r.2.1) else(r.1,[]))=(13,[]):=by rw[h];rfl
theorem sop_src {nd:NodeV} (hop:nd.op=2):(if (workR nd []).1=0 then((0:Int),(workR nd []).2.1) else((workR nd []).1,[]))=ownP nd.shape:=by
 have hw:workR nd []=if Sh.right nd.shape then(0,nd.shape,List.replicate (Sh.size nd.shape).toNat nd.n) else refused 13:=by rw[workR,if_pos hop]
 cases hr:Sh.right nd.shape with
 | true=>rw[hr] at hw;rw[lot0 hw,ownP,hr];rfl
 | false=>rw[hr] at hw;rw[lot13 hw,ownP,hr];rfl
theorem sop_iota {nd:NodeV} (hop:nd.op=3):(if (workR nd []).1=0 then((0:Int),(workR nd []).2.1) else((workR nd []).1,[]))=countP nd.shape nd.a:=by
 have hw:workR nd []=if Sh.right nd.shape then(if nd.a.length=1∧0≤nd.a.getD 0 0∧nd.a.getD 0 0<nd.shape.length then(0,nd.shape,Sh.iota nd.shape (nd.a.getD 0 0).toNat) else refused 1) else refused 13:=by rw[workR,if_neg (by omega),if_pos hop]
 cases hr:Sh.right nd.shape with
 | true =>
  rw[hr,if_pos rfl] at hw;rw[countP,hr,if_pos rfl];by_cases g:nd.a.length=1∧0≤nd.a.getD 0 0∧nd.a.getD 0 0<nd.shape.length
  ·rw[if_pos g] at hw;rw[lot0 hw,if_pos g]
  ·rw[if_neg g] at hw;rw[lot1 hw,if_neg g]
 | false=>rw[hr] at hw;rw[lot13 hw,countP,hr];rfl
section
variable {nd : NodeV} {s t u : List Int} (hs : Sh.right s = true)
include hs
theorem sop_one (hop:nd.op=4∨nd.op=5):(if (workR nd [zeros s]).1=0 then((0:Int),(workR nd [zeros s]).2.1) else((workR nd [zeros s]).1,[]))=commonP [s]:=by
 have hw:workR nd [zeros s]=oneR nd.op (zeros s).1 (zeros s).2:=by
  rw[workR,if_neg (by omega),if_neg (by omega),if_pos hop];rfl
 rw[oneR,if_neg (by omega),if_pos (zeros_right hs)] at hw;rw[lot0 hw,commonP,if_pos (by simp)];rfl
theorem sop_turn (hop:nd.op=13):(if (workR nd [zeros s]).1=0 then((0:Int),(workR nd [zeros s]).2.1) else((workR nd [zeros s]).1,[]))=turnedP s nd.a:=by
 have hw:workR nd [zeros s]=turnR (zeros s).1 (zeros s).2 nd.a:=by
  rw[workR];repeat rw[if_neg (by omega)]
  rw[if_pos hop];rfl
 by_cases g:TuOk s nd.a
 ·rw[turnR_ok (zeros_right hs) g] at hw;rw[lot0 hw,turnedP,if_pos g];rfl
 ·rw[turnR_arg (zeros_right hs) g] at hw;rw[lot1 hw,turnedP,if_neg g]
theorem sop_spread (hop:nd.op=14):(if (workR nd [zeros s]).1=0 then((0:Int),(workR nd [zeros s]).2.1) else((workR nd [zeros s]).1,[]))=spreadP s nd.shape nd.a:=by
 have hw:workR nd [zeros s]=spR (zeros s).1 (zeros s).2 nd.shape nd.a:=by
  rw[workR];repeat rw[if_neg (by omega)]
  rw[if_pos hop];rfl
 cases hr:Sh.right nd.shape with
 | false=>rw[spR_shape (by rw[hr,Bool.and_false])] at hw;rw[lot13 hw,spreadP,hr];rfl
 | true =>
  have hb:(tenRight (zeros s).1 (zeros s).2 && Sh.right nd.shape)=true:=by rw[hr,zeros_right hs];rfl
  by_cases g:SpOk s nd.shape nd.a
  ·rw[spR_ok hb g] at hw;rw[lot0 hw,spreadP,hr,if_pos rfl,if_pos g]
  ·rw[spR_arg hb g] at hw;rw[lot1 hw,spreadP,hr,if_pos rfl,if_neg g]
theorem sop_slice (hop:nd.op=15):(if (workR nd [zeros s]).1=0 then((0:Int),(workR nd [zeros s]).2.1) else((workR nd [zeros s]).1,[]))=slicedP s nd.a:=by
 have hw:workR nd [zeros s]=if nd.a.length=2*s.length then cutR (zeros s).1 (zeros s).2 (nd.a.take s.length) (nd.a.drop s.length) else refused 1:=by
  rw[workR];repeat rw[if_neg (by omega)]
  rw[if_pos hop];rfl
 by_cases g:nd.a.length=2*s.length
 ·rw[if_pos g] at hw
  cases hc:cutOk s (nd.a.take s.length) (nd.a.drop s.length) with
  | true=>rw[cutR_ok (zeros_right hs) hc] at hw;rw[lot0 hw,slicedP,if_pos ⟨g,hc⟩]
  | false=>rw[cutR_arg (zeros_right hs) hc] at hw;rw[lot1 hw,slicedP,if_neg (by rw[hc];simp)]
 ·rw[if_neg g] at hw;rw[lot1 hw,slicedP,if_neg (fun h=>g h.1)]
theorem sop_pad (hop:nd.op=16):(if (workR nd [zeros s]).1=0 then((0:Int),(workR nd [zeros s]).2.1) else((workR nd [zeros s]).1,[]))=paddedP s nd.a:=by
 have hw:workR nd [zeros s]=if nd.a.length=2*s.length then padR (zeros s).1 (zeros s).2 (nd.a.take s.length) (nd.a.drop s.length) nd.n else refused 1:=by
  rw[workR];repeat rw[if_neg (by omega)]
  rw[if_pos hop];rfl
 by_cases g:nd.a.length=2*s.length
 ·rw[if_pos g] at hw;by_cases hc:PadOk s (nd.a.take s.length) (nd.a.drop s.length)
  ·have hp:paddedP s nd.a=ownP (padS s (nd.a.take s.length) (nd.a.drop s.length)):=by rw[paddedP,if_pos ⟨g,hc⟩]
   rw[hp,ownP]
   cases hr:Sh.right (padS s (nd.a.take s.length) (nd.a.drop s.length)) with
   | true=>rw[padR_ok (zeros_right hs) hc hr] at hw;rw[lot0 hw];rfl
   | false=>rw[padR_shape2 (zeros_right hs) hc hr] at hw;rw[lot13 hw];rfl
  ·rw[padR_arg (zeros_right hs) hc] at hw;rw[lot1 hw,paddedP,if_neg (fun h=>hc h.2)]
 ·rw[if_neg g] at hw;rw[lot1 hw,paddedP,if_neg (fun h=>g h.1)]
theorem sop_fold (hop:nd.op=18):(if (workR nd [zeros s]).1=0 then((0:Int),(workR nd [zeros s]).2.1) else((workR nd [zeros s]).1,[]))=foldedP nd.how s nd.a:=by
 have hw:workR nd [zeros s]=foldR nd.how (zeros s).1 (zeros s).2 nd.a:=by
  rw[workR];repeat rw[if_neg (by omega)]
  rw[if_pos hop];rfl
 cases hh:howOk nd.how with
 | false=>rw[foldR_how hh] at hw;rw[lot1 hw,foldedP,if_neg (by rw[hh];simp)]
 | true =>
  by_cases g:Rises nd.a s.length
  ·have hp:foldedP nd.how s nd.a=ownP (rest nd.a s):=by rw[foldedP,if_pos ⟨hh,g⟩]
   rw[hp,ownP]
   cases hr:Sh.right (rest nd.a s) with
   | true=>rw[foldR_ok hh (zeros_right hs) g hr] at hw;rw[lot0 hw];rfl
   | false=>rw[foldR_shape2 hh (zeros_right hs) g hr] at hw;rw[lot13 hw];rfl
  ·rw[foldR_arg hh (zeros_right hs) g] at hw;rw[lot1 hw,foldedP,if_neg (fun h=>g h.2)]
theorem sop_window (hop:nd.op=20):(if (workR nd [zeros s]).1=0 then((0:Int),(workR nd [zeros s]).2.1) else((workR nd [zeros s]).1,[]))=windowedP nd.how s nd.a:=by
 have hw:workR nd [zeros s]=if nd.a.length=3 then winR nd.how (zeros s).1 (zeros s).2 (nd.a.getD 0 0) (nd.a.getD 1 0) (nd.a.getD 2 0) else refused 1:=by
  rw[workR];repeat rw[if_neg (by omega)]
  rw[if_pos hop];rfl
 by_cases g:nd.a.length=3
 ·rw[if_pos g] at hw
  cases hh:(howOk nd.how && winOk (nd.a.getD 1 0) (nd.a.getD 2 0)) with
  | false =>
   rw[winR_how hh] at hw;rw[lot1 hw,windowedP,if_neg]
   rintro⟨_,h1,_,h2⟩;rw[h1,h2] at hh;cases hh
  | true =>
   have h12:howOk nd.how=true∧winOk (nd.a.getD 1 0) (nd.a.getD 2 0)=true:=by simpa using hh
   cases hx:winAx s (nd.a.getD 0 0) with
   | false=>rw[winR_arg hh (zeros_right hs) hx] at hw;rw[lot1 hw,windowedP,if_neg (by rw[hx];simp)]
   | true =>
    have h0:=winAx_iff.1 hx;have hp:windowedP nd.how s nd.a=(0,winS s (nd.a.getD 0 0).toNat (nd.a.getD 1 0) (nd.a.getD 2 0)):=by rw[windowedP,if_pos ⟨g,h12.1,hx,h12.2⟩]
    rw[hp];obtain⟨k,hk⟩:=Int.eq_ofNat_of_zero_le h0.1;rw[hk] at hw ⊢;rw[winR_ok hh (zeros_right hs) (by rw[hk] at h0;exact_mod_cast h0.2)] at hw;rw[lot0 hw];rfl
 ·rw[if_neg g] at hw;rw[lot1 hw,windowedP,if_neg (fun h=>g h.1)]
theorem sop_two (ht:Sh.right t=true) (hop:6≤nd.op∧nd.op≤11):(if (workR nd [zeros s,zeros t]).1=0 then((0:Int),(workR nd [zeros s,zeros t]).2.1) else((workR nd [zeros s,zeros t]).1,[]))=commonP [s,t]:=by
 have hw:workR nd [zeros s,zeros t]=twoR nd.op (zeros s).1 (zeros s).2 (zeros t).1 (zeros t).2:=by
  rw[workR];repeat rw[if_neg (by omega)]
  rfl
 rw[twoR,if_neg (by omega),zeros_right hs,zeros_right ht,Bool.true_and,Bool.true_and] at hw;by_cases g:t=s
 ·subst g;rw[if_pos (by simp)] at hw;rw[lot0 hw,commonP,if_pos (by simp)];rfl
 ·rw[if_neg (by simpa [zeros] using g)] at hw;rw[lot13 hw,commonP,if_neg (by simpa using g)]
theorem sop_dot (ht:Sh.right t=true) (hop:nd.op=19):(if (workR nd [zeros s,zeros t]).1=0 then((0:Int),(workR nd [zeros s,zeros t]).2.1) else((workR nd [zeros s,zeros t]).1,[]))=multP s t nd.a:=by
 have hw:workR nd [zeros s,zeros t]=if nd.a.length=1 then dotR (zeros s).1 (zeros s).2 (zeros t).1 (zeros t).2 (nd.a.getD 0 0) else refused 1:=by
  rw[workR];repeat rw[if_neg (by omega)]
  rw[if_pos hop];rfl
 by_cases g:nd.a.length=1
 ·rw[if_pos g] at hw;have hb:(tenRight (zeros s).1 (zeros s).2 && tenRight (zeros t).1 (zeros t).2)=true:=by rw[zeros_right hs,zeros_right ht];rfl
  have hp:multP s t nd.a=dsR s t (nd.a.getD 0 0):=by rw[multP,if_pos g]
  rw[hp];by_cases hz:(dsR s t (nd.a.getD 0 0)).1=0
  ·obtain⟨k,hk,hD,he⟩:=dsR_zero hz;rw[hk] at hw he ⊢;rw[dotR_ok hb hD] at hw;rw[lot0 hw,he];rfl
  ·rw[dotR_shape hb hz] at hw;have hz2:¬ (refused (dsR s t (nd.a.getD 0 0)).1).1=0:=hz;have hw2:workR nd [zeros s,zeros t]=refused (dsR s t (nd.a.getD 0 0)).1:=hw;rw[hw2,if_neg hz2]
   show((dsR s t (nd.a.getD 0 0)).1,[])=dsR s t (nd.a.getD 0 0)
   generalize nd.a.getD 0 0=n at *;unfold dsR at hz ⊢
   repeat' split
   all_goals first|rfl|(exfalso;simp_all)
 ·rw[if_neg g] at hw;rw[lot1 hw,multP,if_neg g]
theorem sop_three (ht:Sh.right t=true) (hu:Sh.right u=true) (hop:nd.op=12):(if (workR nd [zeros s,zeros t,zeros u]).1=0 then((0:Int),(workR nd [zeros s,zeros t,zeros u]).2.1) else((workR nd [zeros s,zeros t,zeros u]).1,[]))=commonP [s,t,u]:=by
 have hw:workR nd [zeros s,zeros t,zeros u]=pickR (zeros s).1 (zeros s).2 (zeros t).1 (zeros t).2 (zeros u).1 (zeros u).2:=by
  rw[workR];repeat rw[if_neg (by omega)]
  rw[if_pos hop];rfl
 rw[pickR,zeros_right hs,zeros_right ht,zeros_right hu,Bool.true_and,Bool.true_and,Bool.true_and] at hw;by_cases g:t=s
 ·subst g;by_cases g2:u=t
  ·subst g2;rw[if_pos (by simp)] at hw;rw[lot0 hw,commonP,if_pos (by simp)];rfl
  ·rw[if_neg (by simpa [zeros] using g2)] at hw;rw[lot13 hw,commonP,if_neg (by simpa using g2)]
 ·rw[if_neg (by simp[zeros,g])] at hw;rw[lot13 hw,commonP,if_neg (by simp[g])]
end
theorem sop_join {nd:NodeV} {L:List (List Int)} {s:List Int} {L2:List (List Int)} (hL:L=s::L2) (ha:L.all Sh.right=true) (hop:nd.op=17):(if (workR nd (L.map zeros)).1=0 then((0:Int),(workR nd (L.map zeros)).2.1) else((workR nd (L.map zeros)).1,[]))=joinedP L nd.a:=by
 have hw:workR nd (L.map zeros)=if nd.a.length=1 then joinR (nd.a.getD 0 0) (L.map zeros) else refused 1:=by
  rw[workR];repeat rw[if_neg (by omega)]
  rw[if_pos hop]
 have hR:allRight (L.map zeros):=fun t ht=>by
  obtain⟨x,hx,rfl⟩:=List.mem_map.1 ht;exact zeros_right (List.all_eq_true.1 ha x hx)
 have hh:head1 (L.map zeros)=s:=by rw[hL];rfl
 have hg:L.getD 0 []=s:=by rw[hL];rfl
 have hx:axOk (nd.a.getD 0 0) (L.map zeros)↔0≤nd.a.getD 0 0∧nd.a.getD 0 0<s.length:=by
  rw[axOk,hL]
  constructor
  ·rintro⟨t,ht,h1,h2⟩;simp at ht;subst ht;exact⟨h1,h2⟩
  ·rintro⟨h1,h2⟩;exact⟨zeros s,rfl,h1,h2⟩
 have hF:(∀ t∈L.map zeros,fitAx s (nd.a.getD 0 0).toNat t.1)↔FitAll (nd.a.getD 0 0).toNat L:=by
  rw[FitAll,hg]
  constructor
  ·intro h x hx;exact h (zeros x) (List.mem_map_of_mem hx)
  ·intro h t ht;obtain⟨x,hx,rfl⟩:=List.mem_map.1 ht;exact h x hx
 have hS:joinS (nd.a.getD 0 0).toNat (L.map zeros)=s.set (nd.a.getD 0 0).toNat (totL (nd.a.getD 0 0).toNat L):=by
  rw[joinS,hh,tot,tot_zeros];rfl
 by_cases g:nd.a.length=1
 ·rw[if_pos g] at hw;by_cases k:axOk (nd.a.getD 0 0) (L.map zeros)
  ·have hk:=hx.1 k;by_cases f:FitAll (nd.a.getD 0 0).toNat L
   ·have hp:joinedP L nd.a=ownP (s.set (nd.a.getD 0 0).toNat (totL (nd.a.getD 0 0).toNat L)):=by rw[joinedP,hg,if_pos ⟨g,hk⟩,if_pos f]
    rw[hp,ownP]
    cases hr:Sh.right (s.set (nd.a.getD 0 0).toNat (totL (nd.a.getD 0 0).toNat L)) with
    | true =>
     rw[joinR_ok hR k ⟨by rw[hh];exact hF.2 f,by rw[hS];exact hr⟩,hS] at hw
     rw[lot0 hw];rfl
    | false =>
     rw[joinR_shape hR k (fun h=>by have:=h.2;rw[hS,hr] at this;cases this)] at hw;rw[lot13 hw];rfl
   ·have hp:joinedP L nd.a=(13,[]):=by rw[joinedP,hg,if_pos ⟨g,hk⟩,if_neg f]
    rw[joinR_shape hR k (fun h=>f (hF.1 (by have:=h.1;rwa [hh] at this)))] at hw;rw[hp];exact lot13 hw
  ·have hp:joinedP L nd.a=(1,[]):=by rw[joinedP,hg,if_neg (fun h=>k (hx.2 h.2))]
   rw[joinR_arg hR k] at hw;rw[hp];exact lot1 hw
 ·have hp:joinedP L nd.a=(1,[]):=by rw[joinedP,if_neg (fun h=>g h.1)]
  rw[if_neg g] at hw;rw[hp];exact lot1 hw
theorem shapeR_op {nd:NodeV} {L:List (List Int)} (h:formF nd L.length=true) (ha:L.all Sh.right=true):shapeR nd L=opP nd L:=by
 have hop:=form_op h;by_cases h1:nd.op=1
 ·have hp:opP nd L=ownP nd.shape:=by rw[opP,if_pos (.inl h1)]
  rw[shapeR_param h ha h1,hp,ownP]
 rw[shapeR_work h ha h1];have hall:=List.all_eq_true.1 ha;by_cases h2:nd.op=2
 ·have hk:=form_k h (t:=(0,true,false,true,false)) (by rw[takesF];(repeat rw[if_neg (by omega)]);rw[if_pos h2]);simp only at hk;obtain rfl:=len_0 (L:=L) (by omega);have hp:opP nd []=ownP nd.shape:=by rw[opP];(repeat rw[if_neg (by omega)]);rw[if_pos (.inr h2)]
  rw[hp];exact sop_src  h2
 by_cases h3:nd.op=3
 ·have hk:=form_k h (t:=(0,true,true,false,false)) (by rw[takesF];(repeat rw[if_neg (by omega)]);rw[if_pos h3]);simp only at hk;obtain rfl:=len_0 (L:=L) (by omega);have hp:opP nd []=countP nd.shape nd.a:=by rw[opP];(repeat rw[if_neg (by omega)]);rw[if_pos h3]
  rw[hp];exact sop_iota  h3
 by_cases h4:nd.op=4∨nd.op=5
 ·have hk:=form_k h (t:=(1,false,false,false,false)) (by rw[takesF];(repeat rw[if_neg (by omega)]);rw[if_pos h4]);simp only at hk;obtain⟨s,rfl⟩:=len_1 (L:=L) (by omega);have hp:opP nd [s]=commonP [s]:=by rw[opP];(repeat rw[if_neg (by omega)])
  rw[hp];exact sop_one (hall s (by simp)) h4
 by_cases h6:6≤nd.op∧nd.op≤11
 ·have hk:=form_k h (t:=(2,false,false,false,false)) (by rw[takesF];(repeat rw[if_neg (by omega)]);rw[if_pos h6]);simp only at hk;obtain⟨s,t,rfl⟩:=len_2 (L:=L) (by omega);have hp:opP nd [s,t]=commonP [s,t]:=by rw[opP];(repeat rw[if_neg (by omega)])
  rw[hp];exact sop_two (hall s (by simp)) (hall t (by simp)) h6
 by_cases h12:nd.op=12
 ·have hk:=form_k h (t:=(3,false,false,false,false)) (by rw[takesF];(repeat rw[if_neg (by omega)]);rw[if_pos h12]);simp only at hk;obtain⟨s,t,u,rfl⟩:=len_3 (L:=L) (by omega);have hp:opP nd [s,t,u]=commonP [s,t,u]:=by rw[opP];(repeat rw[if_neg (by omega)])
  rw[hp];exact sop_three (hall s (by simp)) (hall t (by simp)) (hall u (by simp)) h12
 by_cases h13:nd.op=13
 ·have hk:=form_k h (t:=(1,false,true,false,false)) (by rw[takesF];(repeat rw[if_neg (by omega)]);rw[if_pos (.inl h13)]);simp only at hk;obtain⟨s,rfl⟩:=len_1 (L:=L) (by omega);have hp:opP nd [s]=turnedP s nd.a:=by rw[opP];(repeat rw[if_neg (by omega)]);rw[if_pos h13];rfl
  rw[hp];exact sop_turn (hall s (by simp)) h13
 by_cases h15:nd.op=15
 ·have hk:=form_k h (t:=(1,false,true,false,false)) (by rw[takesF];(repeat rw[if_neg (by omega)]);rw[if_pos (.inr h15)]);simp only at hk;obtain⟨s,rfl⟩:=len_1 (L:=L) (by omega);have hp:opP nd [s]=slicedP s nd.a:=by rw[opP];(repeat rw[if_neg (by omega)]);rw[if_pos h15];rfl
  rw[hp];exact sop_slice (hall s (by simp)) h15
 by_cases h14:nd.op=14
 ·have hk:=form_k h (t:=(1,true,true,false,false)) (by rw[takesF];(repeat rw[if_neg (by omega)]);rw[if_pos h14]);simp only at hk;obtain⟨s,rfl⟩:=len_1 (L:=L) (by omega);have hp:opP nd [s]=spreadP s nd.shape nd.a:=by rw[opP];(repeat rw[if_neg (by omega)]);rw[if_pos h14];rfl
  rw[hp];exact sop_spread (hall s (by simp)) h14
 by_cases h16:nd.op=16
 ·have hk:=form_k h (t:=(1,false,true,true,false)) (by rw[takesF];(repeat rw[if_neg (by omega)]);rw[if_pos h16]);simp only at hk;obtain⟨s,rfl⟩:=len_1 (L:=L) (by omega);have hp:opP nd [s]=paddedP s nd.a:=by rw[opP];(repeat rw[if_neg (by omega)]);rw[if_pos h16];rfl
  rw[hp];exact sop_pad (hall s (by simp)) h16
 by_cases h17:nd.op=17
 ·have hk:=form_k h (t:=(-1,false,true,false,false)) (by rw[takesF];(repeat rw[if_neg (by omega)]);rw[if_pos h17]);have hk2:¬ ((L.length:Int)<2):=fun hc=>hk (.inr (.inr ⟨rfl,hc⟩))
  obtain⟨s,t,L2,hL⟩:=len_j (L:=L) (by omega);have hp:opP nd L=joinedP L nd.a:=by rw[opP];(repeat rw[if_neg (by omega)]);rw[if_pos h17]
  rw[hp];exact sop_join hL ha h17
 by_cases h18:nd.op=18
 ·have hk:=form_k h (t:=(1,false,true,false,true)) (by rw[takesF];(repeat rw[if_neg (by omega)]);rw[if_pos (.inl h18)]);simp only at hk;obtain⟨s,rfl⟩:=len_1 (L:=L) (by omega);have hp:opP nd [s]=foldedP nd.how s nd.a:=by rw[opP];(repeat rw[if_neg (by omega)]);rw[if_pos h18];rfl
  rw[hp];exact sop_fold (hall s (by simp)) h18
 by_cases h20:nd.op=20
 ·have hk:=form_k h (t:=(1,false,true,false,true)) (by rw[takesF];(repeat rw[if_neg (by omega)]);rw[if_pos (.inr h20)]);simp only at hk;obtain⟨s,rfl⟩:=len_1 (L:=L) (by omega);have hp:opP nd [s]=windowedP nd.how s nd.a:=by rw[opP];(repeat rw[if_neg (by omega)]);rw[if_pos h20];rfl
  rw[hp];exact sop_window (hall s (by simp)) h20
 have h19:nd.op=19:=by omega
 have hk:=form_k h (t:=(2,false,true,false,false)) (by rw[takesF];(repeat rw[if_neg (by omega)]);rw[if_pos h19]);simp only at hk;obtain⟨s,t,rfl⟩:=len_2 (L:=L) (by omega);have hp:opP nd [s,t]=multP s t nd.a:=by rw[opP];(repeat rw[if_neg (by omega)]);rw[if_pos h19];rfl
 rw[hp];exact sop_dot (hall s (by simp)) (hall t (by simp)) h19
end Go.Proofs.YtnnmplkgenhofaaGreat
