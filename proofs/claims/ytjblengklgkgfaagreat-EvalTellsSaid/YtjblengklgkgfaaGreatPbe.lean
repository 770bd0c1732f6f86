import Derived.Test.YtjblengklgkgfaaGreatPar
import Derived.Test.YtjblengklgkgfaaGreatPax
set_option maxRecDepth 100000
set_option maxHeartbeats 12800000
namespace Go.Proofs.YtjblengklgkgfaaGreat
open Go.RowKit Go.Proofs.Tryz
variable {L:List (List Int)} {k:Int} {nd:a0s} {s:List Int}
noncomputable def opP (nd:a0s) (L:List (List Int)):Int × List Int :=
 if nd.op=1∨nd.op=2 then ownP nd.shape
 else if nd.op=3 then a8d nd.shape nd.a
 else if nd.op=13 then a5c (L.getD 0 []) nd.a
 else if nd.op=14 then a4i (L.getD 0 []) nd.shape nd.a
 else if nd.op=15 then a5f (L.getD 0 []) nd.a
 else if nd.op=16 then a4s (L.getD 0 []) nd.a
 else if nd.op=17 then a3h L nd.a
 else if nd.op=18 then a5a nd.how (L.getD 0 []) nd.a
 else if nd.op=19 then b6q (L.getD 0 []) (L.getD 1 []) nd.a
 else if nd.op=20 then a2j nd.how (L.getD 0 []) nd.a
 else a3r L
theorem c7h (h:a4h nd k=true):1≤nd.op∧nd.op≤20:=by
 rcases Int.lt_or_le nd.op 1 with g|g
 ·have:a0m nd.op=(-2,false,false,false,false):=by rw[a0m];repeat rw[iN (by omega)]
  rw[a4h,this] at h;simp[b4z] at h
 ·rcases Int.lt_or_le 20 nd.op with g2|g2
  ·have:a0m nd.op=(-2,false,false,false,false):=by rw[a0m];repeat rw[iN (by omega)]
   rw[a4h,this] at h;simp[b4z] at h
  ·exact⟨g,g2⟩
theorem a7r {t:Int × Bool × Bool × Bool × Bool}(h:a4h nd k=true)(ht:a0m nd.op=t):¬(t.1 = -2∨(0≤t.1∧k≠t.1)∨(t.1 = -1∧k<2)):=by
 intro hc;rw[a4h,ht,b4z,iP hc] at h;cases h
theorem e1s (h:((L.length:Nat):Int)=0):L=[]:=List.eq_nil_of_length_eq_zero (by omega)
theorem c7f:∀ {L:List (List Int)},((L.length:Nat):Int)=1→∃ s,L=[s]
 | [s],_=>⟨s,rfl⟩
 | [],h=>by simp at h
 | _::_::_,h=>by simp at h;omega
theorem e1o:∀ {L:List (List Int)},((L.length:Nat):Int)=2→∃ s t,L=[s,t]
 | [s,t],_=>⟨s,t,rfl⟩
 | [],h=>by simp at h
 | [_],h=>by simp at h
 | _::_::_::_,h=>by simp at h;omega
theorem e2r:∀ {L:List (List Int)},((L.length:Nat):Int)=3→∃ s t u,L=[s,t,u]
 | [s,t,u],_=>⟨s,t,u,rfl⟩
 | [],h=>by simp at h
 | [_],h=>by simp at h
 | [_,_],h=>by simp at h
 | _::_::_::_::_,h=>by simp at h;omega
theorem e2m:∀ {L:List (List Int)},2≤((L.length:Nat):Int)→∃ s t L2,L=s::t::L2
 | s::t::L2,_=>⟨s,t,L2,rfl⟩
 | [],h=>by simp at h
 | [_],h=>by simp at h
theorem c6e (ax:Nat):∀(L:List (List Int)) (a:Int),(L.map zeros).foldl (fun a t=>a+t.1.getD ax 0) a=L.foldl (fun a s=>a+s.getD ax 0) a
 | [],a=>rfl
 | s::L,a=>by rw[List.map_cons,List.foldl_cons,List.foldl_cons,c6e ax L];rfl
theorem lot0 {r:Int × List Int × List Int}{d:List Int}(h:r=(0,s,d)):(if r.1=0 then((0:Int),r.2.1) else(r.1,[]))=(0,s):=by rw[h];rfl
theorem lot1 {r:Int × List Int × List Int}(h:r=refused 1):(if r.1=0 then((0:Int),r.2.1) else(r.1,[]))=(1,[]):=by rw[h];rfl
theorem c0g {r:Int × List Int × List Int}(h:r=refused 13):(if r.1=0 then((0:Int),r.2.1) else(r.1,[]))=(13,[]):=by rw[h];rfl
theorem e1m (hop:nd.op=2):(if (a0r nd []).1=0 then((0:Int),(a0r nd []).2.1) else((a0r nd []).1,[]))=ownP nd.shape:=by
 have hw:a0r nd []=if Sh.right nd.shape then(0,nd.shape,List.replicate (Sh.size nd.shape).toNat nd.n) else refused 13:=by rw[a0r,iP hop]
 cases hr:Sh.right nd.shape with
 | true=>rw[hr] at hw;rw[lot0 hw,ownP,hr];rfl
 | false=>rw[hr] at hw;rw[c0g hw,ownP,hr];rfl
theorem d8o (hop:nd.op=3):(if (a0r nd []).1=0 then((0:Int),(a0r nd []).2.1) else((a0r nd []).1,[]))=a8d nd.shape nd.a:=by
 have hw:a0r nd []=if Sh.right nd.shape then(if nd.a.length=1∧0≤nd.a.getD 0 0∧nd.a.getD 0 0<nd.shape.length then(0,nd.shape,Sh.iota nd.shape (nd.a.getD 0 0).toNat) else refused 1) else refused 13:=by rw[a0r,iN (by omega),iP hop]
 cases hr:Sh.right nd.shape with
 | true =>
  rw[hr,iP rfl] at hw;rw[a8d,hr,iP rfl];by_cases g:nd.a.length=1∧0≤nd.a.getD 0 0∧nd.a.getD 0 0<nd.shape.length
  ·rw[iP g] at hw;rw[lot0 hw,iP g]
  ·rw[iN g] at hw;rw[lot1 hw,iN g]
 | false=>rw[hr] at hw;rw[c0g hw,a8d,hr];rfl
section
variable {nd : a0s} {s t u : List Int} (hs : Sh.right s = true)
include hs
theorem e1g (hop:nd.op=4∨nd.op=5):(if (a0r nd [zeros s]).1=0 then((0:Int),(a0r nd [zeros s]).2.1) else((a0r nd [zeros s]).1,[]))=a3r [s]:=by
 have hw:a0r nd [zeros s]=oneR nd.op (zeros s).1 (zeros s).2:=by
  rw[a0r,iN (by omega),iN (by omega),iP hop];rfl
 rw[oneR,iN (by omega),iP (a1h hs)] at hw;rw[lot0 hw,a3r,iP (by simp)];rfl
theorem d8k (hop:nd.op=13):(if (a0r nd [zeros s]).1=0 then((0:Int),(a0r nd [zeros s]).2.1) else((a0r nd [zeros s]).1,[]))=a5c s nd.a:=by
 have hw:a0r nd [zeros s]=a6y (zeros s).1 (zeros s).2 nd.a:=by
  rw[a0r];repeat rw[iN (by omega)]
  rw[iP hop];rfl
 by_cases g:TuOk s nd.a
 ·rw[c3p (a1h hs) g] at hw;rw[lot0 hw,a5c,iP g];rfl
 ·rw[b4p (a1h hs) g] at hw;rw[lot1 hw,a5c,iN g]
theorem d0m (hop:nd.op=14):(if (a0r nd [zeros s]).1=0 then((0:Int),(a0r nd [zeros s]).2.1) else((a0r nd [zeros s]).1,[]))=a4i s nd.shape nd.a:=by
 have hw:a0r nd [zeros s]=spR (zeros s).1 (zeros s).2 nd.shape nd.a:=by
  rw[a0r];repeat rw[iN (by omega)]
  rw[iP hop];rfl
 cases hr:Sh.right nd.shape with
 | false=>rw[b0v (by rw[hr,Bool.and_false])] at hw;rw[c0g hw,a4i,hr];rfl
 | true =>
  have hb:(a0a (zeros s).1 (zeros s).2&&Sh.right nd.shape)=true:=by rw[hr,a1h hs];rfl
  by_cases g:SpOk s nd.shape nd.a
  ·rw[d5q hb g] at hw;rw[lot0 hw,a4i,hr,iP rfl,iP g]
  ·rw[b7n hb g] at hw;rw[lot1 hw,a4i,hr,iP rfl,iN g]
theorem d2f (hop:nd.op=15):(if (a0r nd [zeros s]).1=0 then((0:Int),(a0r nd [zeros s]).2.1) else((a0r nd [zeros s]).1,[]))=a5f s nd.a:=by
 have hw:a0r nd [zeros s]=if nd.a.length=2*s.length then cutR (zeros s).1 (zeros s).2 (nd.a.take s.length) (nd.a.drop s.length) else refused 1:=by
  rw[a0r];repeat rw[iN (by omega)]
  rw[iP hop];rfl
 by_cases g:nd.a.length=2*s.length
 ·rw[iP g] at hw
  cases hc:a3w s (nd.a.take s.length) (nd.a.drop s.length) with
  | true=>rw[c7i (a1h hs) hc] at hw;rw[lot0 hw,a5f,iP ⟨g,hc⟩]
  | false=>rw[b6x (a1h hs) hc] at hw;rw[lot1 hw,a5f,iN (by rw[hc];simp)]
 ·rw[iN g] at hw;rw[lot1 hw,a5f,iN (fun h=>g h.1)]
theorem e0z (hop:nd.op=16):(if (a0r nd [zeros s]).1=0 then((0:Int),(a0r nd [zeros s]).2.1) else((a0r nd [zeros s]).1,[]))=a4s s nd.a:=by
 have hw:a0r nd [zeros s]=if nd.a.length=2*s.length then padR (zeros s).1 (zeros s).2 (nd.a.take s.length) (nd.a.drop s.length) nd.n else refused 1:=by
  rw[a0r];repeat rw[iN (by omega)]
  rw[iP hop];rfl
 by_cases g:nd.a.length=2*s.length
 ·rw[iP g] at hw;by_cases hc:b3c s (nd.a.take s.length) (nd.a.drop s.length)
  ·have hp:a4s s nd.a=ownP (padS s (nd.a.take s.length) (nd.a.drop s.length)):=by rw[a4s,iP ⟨g,hc⟩]
   rw[hp,ownP]
   cases hr:Sh.right (padS s (nd.a.take s.length) (nd.a.drop s.length)) with
   | true=>rw[c8d (a1h hs) hc hr] at hw;rw[lot0 hw];rfl
   | false=>rw[b2s (a1h hs) hc hr] at hw;rw[c0g hw];rfl
  ·rw[b3w (a1h hs) hc] at hw;rw[lot1 hw,a4s,iN (fun h=>hc h.2)]
 ·rw[iN g] at hw;rw[lot1 hw,a4s,iN (fun h=>g h.1)]
theorem d8u (hop:nd.op=18):(if (a0r nd [zeros s]).1=0 then((0:Int),(a0r nd [zeros s]).2.1) else((a0r nd [zeros s]).1,[]))=a5a nd.how s nd.a:=by
 have hw:a0r nd [zeros s]=a5m nd.how (zeros s).1 (zeros s).2 nd.a:=by
  rw[a0r];repeat rw[iN (by omega)]
  rw[iP hop];rfl
 cases hh:a4q nd.how with
 | false=>rw[b7f hh] at hw;rw[lot1 hw,a5a,iN (by rw[hh];simp)]
 | true =>
  by_cases g:a7v nd.a s.length
  ·have hp:a5a nd.how s nd.a=ownP (rest nd.a s):=by rw[a5a,iP ⟨hh,g⟩]
   rw[hp,ownP]
   cases hr:Sh.right (rest nd.a s) with
   | true=>rw[c3r hh (a1h hs) g hr] at hw;rw[lot0 hw];rfl
   | false=>rw[b0i hh (a1h hs) g hr] at hw;rw[c0g hw];rfl
  ·rw[b9s hh (a1h hs) g] at hw;rw[lot1 hw,a5a,iN (fun h=>g h.2)]
theorem d0u (hop:nd.op=20):(if (a0r nd [zeros s]).1=0 then((0:Int),(a0r nd [zeros s]).2.1) else((a0r nd [zeros s]).1,[]))=a2j nd.how s nd.a:=by
 have hw:a0r nd [zeros s]=if nd.a.length=3 then winR nd.how (zeros s).1 (zeros s).2 (nd.a.getD 0 0) (nd.a.getD 1 0) (nd.a.getD 2 0) else refused 1:=by
  rw[a0r];repeat rw[iN (by omega)]
  rw[iP hop];rfl
 by_cases g:nd.a.length=3
 ·rw[iP g] at hw
  cases hh:(a4q nd.how&&b2h (nd.a.getD 1 0) (nd.a.getD 2 0)) with
  | false =>
   rw[c3d hh] at hw;rw[lot1 hw,a2j,iN]
   rintro⟨_,h1,_,h2⟩;rw[h1,h2] at hh;cases hh
  | true =>
   have h12:a4q nd.how=true∧b2h (nd.a.getD 1 0) (nd.a.getD 2 0)=true:=by simpa using hh
   cases hx:b3o s (nd.a.getD 0 0) with
   | false=>rw[b4b hh (a1h hs) hx] at hw;rw[lot1 hw,a2j,iN (by rw[hx];simp)]
   | true =>
    have h0:=a6s.1 hx;have hp:a2j nd.how s nd.a=(0,winS s (nd.a.getD 0 0).toNat (nd.a.getD 1 0) (nd.a.getD 2 0)):=by rw[a2j,iP ⟨g,h12.1,hx,h12.2⟩]
    rw[hp];obtain⟨k,hk⟩:=eZ h0.1;rw[hk] at hw ⊢;rw[c6m hh (a1h hs) (by rw[hk] at h0;exact_mod_cast h0.2)] at hw;rw[lot0 hw];rfl
 ·rw[iN g] at hw;rw[lot1 hw,a2j,iN (fun h=>g h.1)]
theorem e0s (ht:Sh.right t=true)(hop:6≤nd.op∧nd.op≤11):(if (a0r nd [zeros s,zeros t]).1=0 then((0:Int),(a0r nd [zeros s,zeros t]).2.1) else((a0r nd [zeros s,zeros t]).1,[]))=a3r [s,t]:=by
 have hw:a0r nd [zeros s,zeros t]=twoR nd.op (zeros s).1 (zeros s).2 (zeros t).1 (zeros t).2:=by
  rw[a0r];repeat rw[iN (by omega)]
  rfl
 rw[twoR,iN (by omega),a1h hs,a1h ht,Bool.true_and,Bool.true_and] at hw;by_cases g:t=s
 ·subst g;rw[iP (by simp)] at hw;rw[lot0 hw,a3r,iP (by simp)];rfl
 ·rw[iN (by simpa [zeros] using g)] at hw;rw[c0g hw,a3r,iN (by simpa using g)]
theorem e0j (ht:Sh.right t=true)(hop:nd.op=19):(if (a0r nd [zeros s,zeros t]).1=0 then((0:Int),(a0r nd [zeros s,zeros t]).2.1) else((a0r nd [zeros s,zeros t]).1,[]))=b6q s t nd.a:=by
 have hw:a0r nd [zeros s,zeros t]=if nd.a.length=1 then dotR (zeros s).1 (zeros s).2 (zeros t).1 (zeros t).2 (nd.a.getD 0 0) else refused 1:=by
  rw[a0r];repeat rw[iN (by omega)]
  rw[iP hop];rfl
 by_cases g:nd.a.length=1
 ·rw[iP g] at hw;have hb:(a0a (zeros s).1 (zeros s).2&&a0a (zeros t).1 (zeros t).2)=true:=by rw[a1h hs,a1h ht];rfl
  have hp:b6q s t nd.a=dsR s t (nd.a.getD 0 0):=by rw[b6q,iP g]
  rw[hp];by_cases hz:(dsR s t (nd.a.getD 0 0)).1=0
  ·obtain⟨k,hk,hD,he⟩:=b4v hz;rw[hk] at hw he ⊢;rw[c8e hb hD] at hw;rw[lot0 hw,he];rfl
  ·rw[b5b hb hz] at hw;have hz2:¬(refused (dsR s t (nd.a.getD 0 0)).1).1=0:=hz;have hw2:a0r nd [zeros s,zeros t]=refused (dsR s t (nd.a.getD 0 0)).1:=hw;rw[hw2,iN hz2]
   show((dsR s t (nd.a.getD 0 0)).1,[])=dsR s t (nd.a.getD 0 0)
   generalize nd.a.getD 0 0=n at *;unfold dsR at hz ⊢
   repeat' split
   all_goals first|rfl|(exfalso;simp_all)
 ·rw[iN g] at hw;rw[lot1 hw,b6q,iN g]
theorem d3s (ht:Sh.right t=true)(hu:Sh.right u=true)(hop:nd.op=12):(if (a0r nd [zeros s,zeros t,zeros u]).1=0 then((0:Int),(a0r nd [zeros s,zeros t,zeros u]).2.1) else((a0r nd [zeros s,zeros t,zeros u]).1,[]))=a3r [s,t,u]:=by
 have hw:a0r nd [zeros s,zeros t,zeros u]=a7j (zeros s).1 (zeros s).2 (zeros t).1 (zeros t).2 (zeros u).1 (zeros u).2:=by
  rw[a0r];repeat rw[iN (by omega)]
  rw[iP hop];rfl
 rw[a7j,a1h hs,a1h ht,a1h hu,Bool.true_and,Bool.true_and,Bool.true_and] at hw;by_cases g:t=s
 ·subst g;by_cases g2:u=t
  ·subst g2;rw[iP (by simp)] at hw;rw[lot0 hw,a3r,iP (by simp)];rfl
  ·rw[iN (by simpa [zeros] using g2)] at hw;rw[c0g hw,a3r,iN (by simpa using g2)]
 ·rw[iN (by simp[zeros,g])] at hw;rw[c0g hw,a3r,iN (by simp[g])]
end
theorem d6d {L2:List (List Int)}(hL:L=s::L2)(ha:L.all Sh.right=true)(hop:nd.op=17):(if (a0r nd (L.map zeros)).1=0 then((0:Int),(a0r nd (L.map zeros)).2.1) else((a0r nd (L.map zeros)).1,[]))=a3h L nd.a:=by
 have hw:a0r nd (L.map zeros)=if nd.a.length=1 then a6r (nd.a.getD 0 0) (L.map zeros) else refused 1:=by
  rw[a0r];repeat rw[iN (by omega)]
  rw[iP hop]
 have hR:a1k (L.map zeros):=fun t ht=>by
  obtain⟨x,hx,rfl⟩:=List.mem_map.1 ht;exact a1h (List.all_eq_true.1 ha x hx)
 have hh:a5d (L.map zeros)=s:=by rw[hL];rfl
 have hg:L.getD 0 []=s:=by rw[hL];rfl
 have hx:axOk (nd.a.getD 0 0) (L.map zeros)↔0≤nd.a.getD 0 0∧nd.a.getD 0 0<s.length:=by
  rw[axOk,hL]
  constructor
  ·rintro⟨t,ht,h1,h2⟩;simp at ht;subst ht;exact⟨h1,h2⟩
  ·rintro⟨h1,h2⟩;exact⟨zeros s,rfl,h1,h2⟩
 have hF:(∀ t∈L.map zeros,b3a s (nd.a.getD 0 0).toNat t.1)↔b8t (nd.a.getD 0 0).toNat L:=by
  rw[b8t,hg]
  constructor
  ·intro h x hx;exact h (zeros x) (List.mem_map_of_mem hx)
  ·intro h t ht;obtain⟨x,hx,rfl⟩:=List.mem_map.1 ht;exact h x hx
 have hS:a2o (nd.a.getD 0 0).toNat (L.map zeros)=s.set (nd.a.getD 0 0).toNat (totL (nd.a.getD 0 0).toNat L):=by
  rw[a2o,hh,tot,c6e];rfl
 by_cases g:nd.a.length=1
 ·rw[iP g] at hw;by_cases k:axOk (nd.a.getD 0 0) (L.map zeros)
  ·have hk:=hx.1 k;by_cases f:b8t (nd.a.getD 0 0).toNat L
   ·have hp:a3h L nd.a=ownP (s.set (nd.a.getD 0 0).toNat (totL (nd.a.getD 0 0).toNat L)):=by rw[a3h,hg,iP ⟨g,hk⟩,iP f]
    rw[hp,ownP]
    cases hr:Sh.right (s.set (nd.a.getD 0 0).toNat (totL (nd.a.getD 0 0).toNat L)) with
    | true =>
     rw[b4m hR k ⟨by rw[hh];exact hF.2 f,by rw[hS];exact hr⟩,hS] at hw
     rw[lot0 hw];rfl
    | false =>
     rw[a3s hR k (fun h=>by have:=h.2;rw[hS,hr] at this;cases this)] at hw;rw[c0g hw];rfl
   ·have hp:a3h L nd.a=(13,[]):=by rw[a3h,hg,iP ⟨g,hk⟩,iN f]
    rw[a3s hR k (fun h=>f (hF.1 (by have:=h.1;rwa [hh] at this)))] at hw;rw[hp];exact c0g hw
  ·have hp:a3h L nd.a=(1,[]):=by rw[a3h,hg,iN (fun h=>k (hx.2 h.2))]
   rw[a5t hR k] at hw;rw[hp];exact lot1 hw
 ·have hp:a3h L nd.a=(1,[]):=by rw[a3h,iN (fun h=>g h.1)]
  rw[iN g] at hw;rw[hp];exact lot1 hw
theorem b1b (h:a4h nd L.length=true)(ha:L.all Sh.right=true):a1j nd L=opP nd L:=by
 have hop:=c7h h;by_cases h1:nd.op=1
 ·have hp:opP nd L=ownP nd.shape:=by rw[opP,iP (.inl h1)]
  rw[b1c h ha h1,hp,ownP]
 rw[b3m h ha h1];have hall:=List.all_eq_true.1 ha;by_cases h2:nd.op=2
 ·have hk:=a7r h (t:=(0,true,false,true,false)) (by rw[a0m];(repeat rw[iN (by omega)]);rw[iP h2]);simp only at hk;obtain rfl:=e1s (L:=L) (by omega);have hp:opP nd []=ownP nd.shape:=by rw[opP];(repeat rw[iN (by omega)]);rw[iP (.inr h2)]
  rw[hp];exact e1m  h2
 by_cases h3:nd.op=3
 ·have hk:=a7r h (t:=(0,true,true,false,false)) (by rw[a0m];(repeat rw[iN (by omega)]);rw[iP h3]);simp only at hk;obtain rfl:=e1s (L:=L) (by omega);have hp:opP nd []=a8d nd.shape nd.a:=by rw[opP];(repeat rw[iN (by omega)]);rw[iP h3]
  rw[hp];exact d8o  h3
 by_cases h4:nd.op=4∨nd.op=5
 ·have hk:=a7r h (t:=(1,false,false,false,false)) (by rw[a0m];(repeat rw[iN (by omega)]);rw[iP h4]);simp only at hk;obtain⟨s,rfl⟩:=c7f (L:=L) (by omega);have hp:opP nd [s]=a3r [s]:=by rw[opP];(repeat rw[iN (by omega)])
  rw[hp];exact e1g (hall s (by simp)) h4
 by_cases h6:6≤nd.op∧nd.op≤11
 ·have hk:=a7r h (t:=(2,false,false,false,false)) (by rw[a0m];(repeat rw[iN (by omega)]);rw[iP h6]);simp only at hk;obtain⟨s,t,rfl⟩:=e1o (L:=L) (by omega);have hp:opP nd [s,t]=a3r [s,t]:=by rw[opP];(repeat rw[iN (by omega)])
  rw[hp];exact e0s (hall s (by simp)) (hall t (by simp)) h6
 by_cases h12:nd.op=12
 ·have hk:=a7r h (t:=(3,false,false,false,false)) (by rw[a0m];(repeat rw[iN (by omega)]);rw[iP h12]);simp only at hk;obtain⟨s,t,u,rfl⟩:=e2r (L:=L) (by omega);have hp:opP nd [s,t,u]=a3r [s,t,u]:=by rw[opP];(repeat rw[iN (by omega)])
  rw[hp];exact d3s (hall s (by simp)) (hall t (by simp)) (hall u (by simp)) h12
 by_cases h13:nd.op=13
 ·have hk:=a7r h (t:=(1,false,true,false,false)) (by rw[a0m];(repeat rw[iN (by omega)]);rw[iP (.inl h13)]);simp only at hk;obtain⟨s,rfl⟩:=c7f (L:=L) (by omega);have hp:opP nd [s]=a5c s nd.a:=by rw[opP];(repeat rw[iN (by omega)]);rw[iP h13];rfl
  rw[hp];exact d8k (hall s (by simp)) h13
 by_cases h15:nd.op=15
 ·have hk:=a7r h (t:=(1,false,true,false,false)) (by rw[a0m];(repeat rw[iN (by omega)]);rw[iP (.inr h15)]);simp only at hk;obtain⟨s,rfl⟩:=c7f (L:=L) (by omega);have hp:opP nd [s]=a5f s nd.a:=by rw[opP];(repeat rw[iN (by omega)]);rw[iP h15];rfl
  rw[hp];exact d2f (hall s (by simp)) h15
 by_cases h14:nd.op=14
 ·have hk:=a7r h (t:=(1,true,true,false,false)) (by rw[a0m];(repeat rw[iN (by omega)]);rw[iP h14]);simp only at hk;obtain⟨s,rfl⟩:=c7f (L:=L) (by omega);have hp:opP nd [s]=a4i s nd.shape nd.a:=by rw[opP];(repeat rw[iN (by omega)]);rw[iP h14];rfl
  rw[hp];exact d0m (hall s (by simp)) h14
 by_cases h16:nd.op=16
 ·have hk:=a7r h (t:=(1,false,true,true,false)) (by rw[a0m];(repeat rw[iN (by omega)]);rw[iP h16]);simp only at hk;obtain⟨s,rfl⟩:=c7f (L:=L) (by omega);have hp:opP nd [s]=a4s s nd.a:=by rw[opP];(repeat rw[iN (by omega)]);rw[iP h16];rfl
  rw[hp];exact e0z (hall s (by simp)) h16
 by_cases h17:nd.op=17
 ·have hk:=a7r h (t:=(-1,false,true,false,false)) (by rw[a0m];(repeat rw[iN (by omega)]);rw[iP h17]);have hk2:¬((L.length:Int)<2):=fun hc=>hk (.inr (.inr ⟨rfl,hc⟩))
  obtain⟨s,t,L2,hL⟩:=e2m (L:=L) (by omega);have hp:opP nd L=a3h L nd.a:=by rw[opP];(repeat rw[iN (by omega)]);rw[iP h17]
  rw[hp];exact d6d hL ha h17
 by_cases h18:nd.op=18
 ·have hk:=a7r h (t:=(1,false,true,false,true)) (by rw[a0m];(repeat rw[iN (by omega)]);rw[iP (.inl h18)]);simp only at hk;obtain⟨s,rfl⟩:=c7f (L:=L) (by omega);have hp:opP nd [s]=a5a nd.how s nd.a:=by rw[opP];(repeat rw[iN (by omega)]);rw[iP h18];rfl
  rw[hp];exact d8u (hall s (by simp)) h18
 by_cases h20:nd.op=20
 ·have hk:=a7r h (t:=(1,false,true,false,true)) (by rw[a0m];(repeat rw[iN (by omega)]);rw[iP (.inr h20)]);simp only at hk;obtain⟨s,rfl⟩:=c7f (L:=L) (by omega);have hp:opP nd [s]=a2j nd.how s nd.a:=by rw[opP];(repeat rw[iN (by omega)]);rw[iP h20];rfl
  rw[hp];exact d0u (hall s (by simp)) h20
 have h19:nd.op=19:=by omega
 have hk:=a7r h (t:=(2,false,true,false,false)) (by rw[a0m];(repeat rw[iN (by omega)]);rw[iP h19]);simp only at hk;obtain⟨s,t,rfl⟩:=e1o (L:=L) (by omega);have hp:opP nd [s,t]=b6q s t nd.a:=by rw[opP];(repeat rw[iN (by omega)]);rw[iP h19];rfl
 rw[hp];exact e0j (hall s (by simp)) (hall t (by simp)) h19
end Go.Proofs.YtjblengklgkgfaaGreat
