import Derived.Test.YtdcmanhgekjhgaaGreatDoorPbf
set_option maxRecDepth 100000
set_option maxHeartbeats 12800000
namespace Go.Proofs.YtdcmanhgekjhgaaGreatDoor
open Go.RowKit Go.Proofs.Tryz
variable {L:List (List Int)} {k:Int} {nd:a0l} {s:List Int}
noncomputable def opP (nd:a0l) (L:List (List Int)):Int × List Int :=
 if nd.op=1∨nd.op=2 then ownP nd.shape
 else if nd.op=3 then a7o nd.shape nd.a
 else if nd.op=13 then a5b (L.getD 0 []) nd.a
 else if nd.op=14 then a3t (L.getD 0 []) nd.shape nd.a
 else if nd.op=15 then a5a (L.getD 0 []) nd.a
 else if nd.op=16 then a4p (L.getD 0 []) nd.a
 else if nd.op=17 then a2p L nd.a
 else if nd.op=18 then a4x nd.how (L.getD 0 []) nd.a
 else if nd.op=19 then b6e (L.getD 0 []) (L.getD 1 []) nd.a
 else if nd.op=20 then a1r nd.how (L.getD 0 []) nd.a
 else a3m L
theorem c8i (h:a5l nd k=true):1≤nd.op∧nd.op≤20:=by
 rcases Int.lt_or_le nd.op 1 with g|g
 ·have:a0j nd.op=(-2,false,false,false,false):=by rw[a0j];repeat rw[iN (by omega)]
  rw[a5l,this] at h;simp[b2i] at h
 ·rcases Int.lt_or_le 20 nd.op with g2|g2
  ·have:a0j nd.op=(-2,false,false,false,false):=by rw[a0j];repeat rw[iN (by omega)]
   rw[a5l,this] at h;simp[b2i] at h
  ·exact⟨g,g2⟩
theorem a6z {t:Int × Bool × Bool × Bool × Bool}(h:a5l nd k=true)(ht:a0j nd.op=t):¬(t.1 = -2∨(0≤t.1∧k≠t.1)∨(t.1 = -1∧k<2)):=by
 intro hc;rw[a5l,ht,b2i,iP hc] at h;cases h
theorem e6i (h:((L.length:Nat):Int)=0):L=[]:=List.eq_nil_of_length_eq_zero (by omega)
theorem c8v:∀ {L:List (List Int)},((L.length:Nat):Int)=1→∃ s,L=[s]
 | [s],_=>⟨s,rfl⟩
 | [],h=>by simp at h
 | _::_::_,h=>by simp at h;omega
theorem e5a:∀ {L:List (List Int)},((L.length:Nat):Int)=2→∃ s t,L=[s,t]
 | [s,t],_=>⟨s,t,rfl⟩
 | [],h=>by simp at h
 | [_],h=>by simp at h
 | _::_::_::_,h=>by simp at h;omega
theorem e7f:∀ {L:List (List Int)},((L.length:Nat):Int)=3→∃ s t u,L=[s,t,u]
 | [s,t,u],_=>⟨s,t,u,rfl⟩
 | [],h=>by simp at h
 | [_],h=>by simp at h
 | [_,_],h=>by simp at h
 | _::_::_::_::_,h=>by simp at h;omega
theorem e7g:∀ {L:List (List Int)},2≤((L.length:Nat):Int)→∃ s t L2,L=s::t::L2
 | s::t::L2,_=>⟨s,t,L2,rfl⟩
 | [],h=>by simp at h
 | [_],h=>by simp at h
theorem c7k (ax:Nat):∀(L:List (List Int)) (a:Int),(L.map zeros).foldl (fun a t=>a+t.1.getD ax 0) a=L.foldl (fun a s=>a+s.getD ax 0) a
 | [],a=>rfl
 | s::L,a=>by rw[List.map_cons,List.foldl_cons,List.foldl_cons,c7k ax L];rfl
theorem lot0 {r:Int × List Int × List Int}{d:List Int}(h:r=(0,s,d)):(if r.1=0 then((0:Int),r.2.1) else(r.1,[]))=(0,s):=by rw[h];rfl
theorem lot1 {r:Int × List Int × List Int}(h:r=refused 1):(if r.1=0 then((0:Int),r.2.1) else(r.1,[]))=(1,[]):=by rw[h];rfl
theorem c0d {r:Int × List Int × List Int}(h:r=refused 13):(if r.1=0 then((0:Int),r.2.1) else(r.1,[]))=(13,[]):=by rw[h];rfl
theorem e5t (hop:nd.op=2):(if (a0w nd []).1=0 then((0:Int),(a0w nd []).2.1) else((a0w nd []).1,[]))=ownP nd.shape:=by
 have hw:a0w nd []=if Sh.right nd.shape then(0,nd.shape,List.replicate (Sh.size nd.shape).toNat nd.n) else refused 13:=by rw[a0w,iP hop]
 cases hr:Sh.right nd.shape with
 | true=>rw[hr] at hw;rw[lot0 hw,ownP,hr];rfl
 | false=>rw[hr] at hw;rw[c0d hw,ownP,hr];rfl
theorem e3a (hop:nd.op=3):(if (a0w nd []).1=0 then((0:Int),(a0w nd []).2.1) else((a0w nd []).1,[]))=a7o nd.shape nd.a:=by
 have hw:a0w nd []=if Sh.right nd.shape then(if nd.a.length=1∧0≤nd.a.getD 0 0∧nd.a.getD 0 0<nd.shape.length then(0,nd.shape,Sh.iota nd.shape (nd.a.getD 0 0).toNat) else refused 1) else refused 13:=by rw[a0w,iN (by omega),iP hop]
 cases hr:Sh.right nd.shape with
 | true =>
  rw[hr,iP rfl] at hw;rw[a7o,hr,iP rfl];by_cases g:nd.a.length=1∧0≤nd.a.getD 0 0∧nd.a.getD 0 0<nd.shape.length
  ·rw[iP g] at hw;rw[lot0 hw,iP g]
  ·rw[iN g] at hw;rw[lot1 hw,iN g]
 | false=>rw[hr] at hw;rw[c0d hw,a7o,hr];rfl
section
variable {nd : a0l} {s t u : List Int} (hs : Sh.right s = true)
include hs
theorem e5r (hop:nd.op=4∨nd.op=5):(if (a0w nd [zeros s]).1=0 then((0:Int),(a0w nd [zeros s]).2.1) else((a0w nd [zeros s]).1,[]))=a3m [s]:=by
 have hw:a0w nd [zeros s]=oneR nd.op (zeros s).1 (zeros s).2:=by
  rw[a0w,iN (by omega),iN (by omega),iP hop];rfl
 rw[oneR,iN (by omega),iP (a0v hs)] at hw;rw[lot0 hw,a3m,iP (by simp)];rfl
theorem e3c (hop:nd.op=13):(if (a0w nd [zeros s]).1=0 then((0:Int),(a0w nd [zeros s]).2.1) else((a0w nd [zeros s]).1,[]))=a5b s nd.a:=by
 have hw:a0w nd [zeros s]=b3y (zeros s).1 (zeros s).2 nd.a:=by
  rw[a0w];repeat rw[iN (by omega)]
  rw[iP hop];rfl
 by_cases g:TuOk s nd.a
 ·rw[d1y (a0v hs) g] at hw;rw[lot0 hw,a5b,iP g];rfl
 ·rw[b9v (a0v hs) g] at hw;rw[lot1 hw,a5b,iN g]
theorem d4d (hop:nd.op=14):(if (a0w nd [zeros s]).1=0 then((0:Int),(a0w nd [zeros s]).2.1) else((a0w nd [zeros s]).1,[]))=a3t s nd.shape nd.a:=by
 have hw:a0w nd [zeros s]=spR (zeros s).1 (zeros s).2 nd.shape nd.a:=by
  rw[a0w];repeat rw[iN (by omega)]
  rw[iP hop];rfl
 cases hr:Sh.right nd.shape with
 | false=>rw[b9r (by rw[hr,Bool.and_false])] at hw;rw[c0d hw,a3t,hr];rfl
 | true =>
  have hb:(a0b (zeros s).1 (zeros s).2&&Sh.right nd.shape)=true:=by rw[hr,a0v hs];rfl
  by_cases g:SpOk s nd.shape nd.a
  ·rw[e4a hb g] at hw;rw[lot0 hw,a3t,hr,iP rfl,iP g]
  ·rw[c9r hb g] at hw;rw[lot1 hw,a3t,hr,iP rfl,iN g]
theorem d8t (hop:nd.op=15):(if (a0w nd [zeros s]).1=0 then((0:Int),(a0w nd [zeros s]).2.1) else((a0w nd [zeros s]).1,[]))=a5a s nd.a:=by
 have hw:a0w nd [zeros s]=if nd.a.length=2*s.length then cutR (zeros s).1 (zeros s).2 (nd.a.take s.length) (nd.a.drop s.length) else refused 1:=by
  rw[a0w];repeat rw[iN (by omega)]
  rw[iP hop];rfl
 by_cases g:nd.a.length=2*s.length
 ·rw[iP g] at hw
  cases hc:a4m s (nd.a.take s.length) (nd.a.drop s.length) with
  | true=>rw[d5f (a0v hs) hc] at hw;rw[lot0 hw,a5a,iP ⟨g,hc⟩]
  | false=>rw[c2q (a0v hs) hc] at hw;rw[lot1 hw,a5a,iN (by rw[hc];simp)]
 ·rw[iN g] at hw;rw[lot1 hw,a5a,iN (fun h=>g h.1)]
theorem e5s (hop:nd.op=16):(if (a0w nd [zeros s]).1=0 then((0:Int),(a0w nd [zeros s]).2.1) else((a0w nd [zeros s]).1,[]))=a4p s nd.a:=by
 have hw:a0w nd [zeros s]=if nd.a.length=2*s.length then padR (zeros s).1 (zeros s).2 (nd.a.take s.length) (nd.a.drop s.length) nd.n else refused 1:=by
  rw[a0w];repeat rw[iN (by omega)]
  rw[iP hop];rfl
 by_cases g:nd.a.length=2*s.length
 ·rw[iP g] at hw;by_cases hc:b6c s (nd.a.take s.length) (nd.a.drop s.length)
  ·have hp:a4p s nd.a=ownP (padS s (nd.a.take s.length) (nd.a.drop s.length)):=by rw[a4p,iP ⟨g,hc⟩]
   rw[hp,ownP]
   cases hr:Sh.right (padS s (nd.a.take s.length) (nd.a.drop s.length)) with
   | true=>rw[d7w (a0v hs) hc hr] at hw;rw[lot0 hw];rfl
   | false=>rw[b8v (a0v hs) hc hr] at hw;rw[c0d hw];rfl
  ·rw[c3l (a0v hs) hc] at hw;rw[lot1 hw,a4p,iN (fun h=>hc h.2)]
 ·rw[iN g] at hw;rw[lot1 hw,a4p,iN (fun h=>g h.1)]
theorem e2z (hop:nd.op=18):(if (a0w nd [zeros s]).1=0 then((0:Int),(a0w nd [zeros s]).2.1) else((a0w nd [zeros s]).1,[]))=a4x nd.how s nd.a:=by
 have hw:a0w nd [zeros s]=a8w nd.how (zeros s).1 (zeros s).2 nd.a:=by
  rw[a0w];repeat rw[iN (by omega)]
  rw[iP hop];rfl
 cases hh:a5g nd.how with
 | false=>rw[c5d hh] at hw;rw[lot1 hw,a4x,iN (by rw[hh];simp)]
 | true =>
  by_cases g:a8v nd.a s.length
  ·have hp:a4x nd.how s nd.a=ownP (rest nd.a s):=by rw[a4x,iP ⟨hh,g⟩]
   rw[hp,ownP]
   cases hr:Sh.right (rest nd.a s) with
   | true=>rw[d0s hh (a0v hs) g hr] at hw;rw[lot0 hw];rfl
   | false=>rw[b5i hh (a0v hs) g hr] at hw;rw[c0d hw];rfl
  ·rw[c5c hh (a0v hs) g] at hw;rw[lot1 hw,a4x,iN (fun h=>g h.2)]
theorem d4e (hop:nd.op=20):(if (a0w nd [zeros s]).1=0 then((0:Int),(a0w nd [zeros s]).2.1) else((a0w nd [zeros s]).1,[]))=a1r nd.how s nd.a:=by
 have hw:a0w nd [zeros s]=if nd.a.length=3 then winR nd.how (zeros s).1 (zeros s).2 (nd.a.getD 0 0) (nd.a.getD 1 0) (nd.a.getD 2 0) else refused 1:=by
  rw[a0w];repeat rw[iN (by omega)]
  rw[iP hop];rfl
 by_cases g:nd.a.length=3
 ·rw[iP g] at hw
  cases hh:(a5g nd.how&&b4a (nd.a.getD 1 0) (nd.a.getD 2 0)) with
  | false =>
   rw[d2a hh] at hw;rw[lot1 hw,a1r,iN]
   rintro⟨_,h1,_,h2⟩;rw[h1,h2] at hh;cases hh
  | true =>
   have h12:a5g nd.how=true∧b4a (nd.a.getD 1 0) (nd.a.getD 2 0)=true:=by simpa using hh
   cases hx:b5e s (nd.a.getD 0 0) with
   | false=>rw[c4l hh (a0v hs) hx] at hw;rw[lot1 hw,a1r,iN (by rw[hx];simp)]
   | true =>
    have h0:=b0u.1 hx;have hp:a1r nd.how s nd.a=(0,winS s (nd.a.getD 0 0).toNat (nd.a.getD 1 0) (nd.a.getD 2 0)):=by rw[a1r,iP ⟨g,h12.1,hx,h12.2⟩]
    rw[hp];obtain⟨k,hk⟩:=eZ h0.1;rw[hk] at hw ⊢;rw[d9s hh (a0v hs) (by rw[hk] at h0;exact_mod_cast h0.2)] at hw;rw[lot0 hw];rfl
 ·rw[iN g] at hw;rw[lot1 hw,a1r,iN (fun h=>g h.1)]
theorem e5u (ht:Sh.right t=true)(hop:6≤nd.op∧nd.op≤11):(if (a0w nd [zeros s,zeros t]).1=0 then((0:Int),(a0w nd [zeros s,zeros t]).2.1) else((a0w nd [zeros s,zeros t]).1,[]))=a3m [s,t]:=by
 have hw:a0w nd [zeros s,zeros t]=twoR nd.op (zeros s).1 (zeros s).2 (zeros t).1 (zeros t).2:=by
  rw[a0w];repeat rw[iN (by omega)]
  rfl
 rw[twoR,iN (by omega),a0v hs,a0v ht,Bool.true_and,Bool.true_and] at hw;by_cases g:t=s
 ·subst g;rw[iP (by simp)] at hw;rw[lot0 hw,a3m,iP (by simp)];rfl
 ·rw[iN (by simpa [zeros] using g)] at hw;rw[c0d hw,a3m,iN (by simpa using g)]
theorem e5q (ht:Sh.right t=true)(hop:nd.op=19):(if (a0w nd [zeros s,zeros t]).1=0 then((0:Int),(a0w nd [zeros s,zeros t]).2.1) else((a0w nd [zeros s,zeros t]).1,[]))=b6e s t nd.a:=by
 have hw:a0w nd [zeros s,zeros t]=if nd.a.length=1 then dotR (zeros s).1 (zeros s).2 (zeros t).1 (zeros t).2 (nd.a.getD 0 0) else refused 1:=by
  rw[a0w];repeat rw[iN (by omega)]
  rw[iP hop];rfl
 by_cases g:nd.a.length=1
 ·rw[iP g] at hw;have hb:(a0b (zeros s).1 (zeros s).2&&a0b (zeros t).1 (zeros t).2)=true:=by rw[a0v hs,a0v ht];rfl
  have hp:b6e s t nd.a=dsR s t (nd.a.getD 0 0):=by rw[b6e,iP g]
  rw[hp];by_cases hz:(dsR s t (nd.a.getD 0 0)).1=0
  ·obtain⟨k,hk,hD,he⟩:=c2s hz;rw[hk] at hw he ⊢;rw[d5h hb hD] at hw;rw[lot0 hw,he];rfl
  ·rw[c0x hb hz] at hw;have hz2:¬(refused (dsR s t (nd.a.getD 0 0)).1).1=0:=hz;have hw2:a0w nd [zeros s,zeros t]=refused (dsR s t (nd.a.getD 0 0)).1:=hw;rw[hw2,iN hz2]
   show((dsR s t (nd.a.getD 0 0)).1,[])=dsR s t (nd.a.getD 0 0)
   generalize nd.a.getD 0 0=n at *;unfold dsR at hz ⊢
   repeat' split
   all_goals first|rfl|(exfalso;simp_all)
 ·rw[iN g] at hw;rw[lot1 hw,b6e,iN g]
theorem d8u (ht:Sh.right t=true)(hu:Sh.right u=true)(hop:nd.op=12):(if (a0w nd [zeros s,zeros t,zeros u]).1=0 then((0:Int),(a0w nd [zeros s,zeros t,zeros u]).2.1) else((a0w nd [zeros s,zeros t,zeros u]).1,[]))=a3m [s,t,u]:=by
 have hw:a0w nd [zeros s,zeros t,zeros u]=b4u (zeros s).1 (zeros s).2 (zeros t).1 (zeros t).2 (zeros u).1 (zeros u).2:=by
  rw[a0w];repeat rw[iN (by omega)]
  rw[iP hop];rfl
 rw[b4u,a0v hs,a0v ht,a0v hu,Bool.true_and,Bool.true_and,Bool.true_and] at hw;by_cases g:t=s
 ·subst g;by_cases g2:u=t
  ·subst g2;rw[iP (by simp)] at hw;rw[lot0 hw,a3m,iP (by simp)];rfl
  ·rw[iN (by simpa [zeros] using g2)] at hw;rw[c0d hw,a3m,iN (by simpa using g2)]
 ·rw[iN (by simp[zeros,g])] at hw;rw[c0d hw,a3m,iN (by simp[g])]
end
theorem e3b {L2:List (List Int)}(hL:L=s::L2)(ha:L.all Sh.right=true)(hop:nd.op=17):(if (a0w nd (L.map zeros)).1=0 then((0:Int),(a0w nd (L.map zeros)).2.1) else((a0w nd (L.map zeros)).1,[]))=a2p L nd.a:=by
 have hw:a0w nd (L.map zeros)=if nd.a.length=1 then a9t (nd.a.getD 0 0) (L.map zeros) else refused 1:=by
  rw[a0w];repeat rw[iN (by omega)]
  rw[iP hop]
 have hR:a6a (L.map zeros):=fun t ht=>by
  obtain⟨x,hx,rfl⟩:=List.mem_map.1 ht;exact a0v (List.all_eq_true.1 ha x hx)
 have hh:a9m (L.map zeros)=s:=by rw[hL];rfl
 have hg:L.getD 0 []=s:=by rw[hL];rfl
 have hx:axOk (nd.a.getD 0 0) (L.map zeros)↔0≤nd.a.getD 0 0∧nd.a.getD 0 0<s.length:=by
  rw[axOk,hL]
  constructor
  ·rintro⟨t,ht,h1,h2⟩;simp at ht;subst ht;exact⟨h1,h2⟩
  ·rintro⟨h1,h2⟩;exact⟨zeros s,rfl,h1,h2⟩
 have hF:(∀ t∈L.map zeros,c0c s (nd.a.getD 0 0).toNat t.1)↔b6s (nd.a.getD 0 0).toNat L:=by
  rw[b6s,hg]
  constructor
  ·intro h x hx;exact h (zeros x) (List.mem_map_of_mem hx)
  ·intro h t ht;obtain⟨x,hx,rfl⟩:=List.mem_map.1 ht;exact h x hx
 have hS:a5h (nd.a.getD 0 0).toNat (L.map zeros)=s.set (nd.a.getD 0 0).toNat (totL (nd.a.getD 0 0).toNat L):=by
  rw[a5h,hh,tot,c7k];rfl
 by_cases g:nd.a.length=1
 ·rw[iP g] at hw;by_cases k:axOk (nd.a.getD 0 0) (L.map zeros)
  ·have hk:=hx.1 k;by_cases f:b6s (nd.a.getD 0 0).toNat L
   ·have hp:a2p L nd.a=ownP (s.set (nd.a.getD 0 0).toNat (totL (nd.a.getD 0 0).toNat L)):=by rw[a2p,hg,iP ⟨g,hk⟩,iP f]
    rw[hp,ownP]
    cases hr:Sh.right (s.set (nd.a.getD 0 0).toNat (totL (nd.a.getD 0 0).toNat L)) with
    | true =>
     rw[d0u hR k ⟨by rw[hh];exact hF.2 f,by rw[hS];exact hr⟩,hS] at hw
     rw[lot0 hw];rfl
    | false =>
     rw[a5v hR k (fun h=>by have:=h.2;rw[hS,hr] at this;cases this)] at hw;rw[c0d hw];rfl
   ·have hp:a2p L nd.a=(13,[]):=by rw[a2p,hg,iP ⟨g,hk⟩,iN f]
    rw[a5v hR k (fun h=>f (hF.1 (by have:=h.1;rwa [hh] at this)))] at hw;rw[hp];exact c0d hw
  ·have hp:a2p L nd.a=(1,[]):=by rw[a2p,hg,iN (fun h=>k (hx.2 h.2))]
   rw[b3e hR k] at hw;rw[hp];exact lot1 hw
 ·have hp:a2p L nd.a=(1,[]):=by rw[a2p,iN (fun h=>g h.1)]
  rw[iN g] at hw;rw[hp];exact lot1 hw
theorem d8k (h:a5l nd L.length=true)(ha:L.all Sh.right=true):a1i nd L=opP nd L:=by
 have hop:=c8i h;by_cases h1:nd.op=1
 ·have hp:opP nd L=ownP nd.shape:=by rw[opP,iP (.inl h1)]
  rw[b5z h ha h1,hp,ownP]
 rw[b9p h ha h1];have hall:=List.all_eq_true.1 ha;by_cases h2:nd.op=2
 ·have hk:=a6z h (t:=(0,true,false,true,false)) (by rw[a0j];(repeat rw[iN (by omega)]);rw[iP h2]);simp only at hk;obtain rfl:=e6i (L:=L) (by omega);have hp:opP nd []=ownP nd.shape:=by rw[opP];(repeat rw[iN (by omega)]);rw[iP (.inr h2)]
  rw[hp];exact e5t  h2
 by_cases h3:nd.op=3
 ·have hk:=a6z h (t:=(0,true,true,false,false)) (by rw[a0j];(repeat rw[iN (by omega)]);rw[iP h3]);simp only at hk;obtain rfl:=e6i (L:=L) (by omega);have hp:opP nd []=a7o nd.shape nd.a:=by rw[opP];(repeat rw[iN (by omega)]);rw[iP h3]
  rw[hp];exact e3a  h3
 by_cases h4:nd.op=4∨nd.op=5
 ·have hk:=a6z h (t:=(1,false,false,false,false)) (by rw[a0j];(repeat rw[iN (by omega)]);rw[iP h4]);simp only at hk;obtain⟨s,rfl⟩:=c8v (L:=L) (by omega);have hp:opP nd [s]=a3m [s]:=by rw[opP];(repeat rw[iN (by omega)])
  rw[hp];exact e5r (hall s (by simp)) h4
 by_cases h6:6≤nd.op∧nd.op≤11
 ·have hk:=a6z h (t:=(2,false,false,false,false)) (by rw[a0j];(repeat rw[iN (by omega)]);rw[iP h6]);simp only at hk;obtain⟨s,t,rfl⟩:=e5a (L:=L) (by omega);have hp:opP nd [s,t]=a3m [s,t]:=by rw[opP];(repeat rw[iN (by omega)])
  rw[hp];exact e5u (hall s (by simp)) (hall t (by simp)) h6
 by_cases h12:nd.op=12
 ·have hk:=a6z h (t:=(3,false,false,false,false)) (by rw[a0j];(repeat rw[iN (by omega)]);rw[iP h12]);simp only at hk;obtain⟨s,t,u,rfl⟩:=e7f (L:=L) (by omega);have hp:opP nd [s,t,u]=a3m [s,t,u]:=by rw[opP];(repeat rw[iN (by omega)])
  rw[hp];exact d8u (hall s (by simp)) (hall t (by simp)) (hall u (by simp)) h12
 by_cases h13:nd.op=13
 ·have hk:=a6z h (t:=(1,false,true,false,false)) (by rw[a0j];(repeat rw[iN (by omega)]);rw[iP (.inl h13)]);simp only at hk;obtain⟨s,rfl⟩:=c8v (L:=L) (by omega);have hp:opP nd [s]=a5b s nd.a:=by rw[opP];(repeat rw[iN (by omega)]);rw[iP h13];rfl
  rw[hp];exact e3c (hall s (by simp)) h13
 by_cases h15:nd.op=15
 ·have hk:=a6z h (t:=(1,false,true,false,false)) (by rw[a0j];(repeat rw[iN (by omega)]);rw[iP (.inr h15)]);simp only at hk;obtain⟨s,rfl⟩:=c8v (L:=L) (by omega);have hp:opP nd [s]=a5a s nd.a:=by rw[opP];(repeat rw[iN (by omega)]);rw[iP h15];rfl
  rw[hp];exact d8t (hall s (by simp)) h15
 by_cases h14:nd.op=14
 ·have hk:=a6z h (t:=(1,true,true,false,false)) (by rw[a0j];(repeat rw[iN (by omega)]);rw[iP h14]);simp only at hk;obtain⟨s,rfl⟩:=c8v (L:=L) (by omega);have hp:opP nd [s]=a3t s nd.shape nd.a:=by rw[opP];(repeat rw[iN (by omega)]);rw[iP h14];rfl
  rw[hp];exact d4d (hall s (by simp)) h14
 by_cases h16:nd.op=16
 ·have hk:=a6z h (t:=(1,false,true,true,false)) (by rw[a0j];(repeat rw[iN (by omega)]);rw[iP h16]);simp only at hk;obtain⟨s,rfl⟩:=c8v (L:=L) (by omega);have hp:opP nd [s]=a4p s nd.a:=by rw[opP];(repeat rw[iN (by omega)]);rw[iP h16];rfl
  rw[hp];exact e5s (hall s (by simp)) h16
 by_cases h17:nd.op=17
 ·have hk:=a6z h (t:=(-1,false,true,false,false)) (by rw[a0j];(repeat rw[iN (by omega)]);rw[iP h17]);have hk2:¬((L.length:Int)<2):=fun hc=>hk (.inr (.inr ⟨rfl,hc⟩))
  obtain⟨s,t,L2,hL⟩:=e7g (L:=L) (by omega);have hp:opP nd L=a2p L nd.a:=by rw[opP];(repeat rw[iN (by omega)]);rw[iP h17]
  rw[hp];exact e3b hL ha h17
 by_cases h18:nd.op=18
 ·have hk:=a6z h (t:=(1,false,true,false,true)) (by rw[a0j];(repeat rw[iN (by omega)]);rw[iP (.inl h18)]);simp only at hk;obtain⟨s,rfl⟩:=c8v (L:=L) (by omega);have hp:opP nd [s]=a4x nd.how s nd.a:=by rw[opP];(repeat rw[iN (by omega)]);rw[iP h18];rfl
  rw[hp];exact e2z (hall s (by simp)) h18
 by_cases h20:nd.op=20
 ·have hk:=a6z h (t:=(1,false,true,false,true)) (by rw[a0j];(repeat rw[iN (by omega)]);rw[iP (.inr h20)]);simp only at hk;obtain⟨s,rfl⟩:=c8v (L:=L) (by omega);have hp:opP nd [s]=a1r nd.how s nd.a:=by rw[opP];(repeat rw[iN (by omega)]);rw[iP h20];rfl
  rw[hp];exact d4e (hall s (by simp)) h20
 have h19:nd.op=19:=by omega
 have hk:=a6z h (t:=(2,false,true,false,false)) (by rw[a0j];(repeat rw[iN (by omega)]);rw[iP h19]);simp only at hk;obtain⟨s,t,rfl⟩:=e5a (L:=L) (by omega);have hp:opP nd [s,t]=b6e s t nd.a:=by rw[opP];(repeat rw[iN (by omega)]);rw[iP h19];rfl
 rw[hp];exact e5q (hall s (by simp)) (hall t (by simp)) h19
end Go.Proofs.YtdcmanhgekjhgaaGreatDoor
