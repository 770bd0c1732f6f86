import Derived.Test.YtdcmanhgekjhgaaDoorPax
set_option maxRecDepth 100000
set_option maxHeartbeats 12800000
namespace Go.Proofs.YtdcmanhgekjhgaaDoor
open Go.RowKit Go.Proofs.Tryd
variable {L:List (List Int)} {k:Int} {nd:a0j} {s:List Int}
noncomputable def opP (nd:a0j) (L:List (List Int)):Int × List Int :=
 if nd.op=1∨nd.op=2 then ownP nd.shape
 else if nd.op=3 then a3h nd.shape nd.a
 else if nd.op=13 then a1s (L.getD 0 []) nd.a
 else if nd.op=14 then a1l (L.getD 0 []) nd.shape nd.a
 else if nd.op=15 then a1r (L.getD 0 []) nd.a
 else if nd.op=16 then a1o (L.getD 0 []) nd.a
 else if nd.op=17 then a0y L nd.a
 else if nd.op=18 then a1p nd.how (L.getD 0 []) nd.a
 else if nd.op=19 then a8m (L.getD 0 []) (L.getD 1 []) nd.a
 else if nd.op=20 then a0t nd.how (L.getD 0 []) nd.a
 else a1i L
theorem b5i (h:a3q nd k=true):1≤nd.op∧nd.op≤20:=by
 rcases Int.lt_or_le nd.op 1 with g|g
 ·have:a0f nd.op=(-2,false,false,false,false):=by rw[a0f];repeat rw[iN (by omega)]
  rw[a3q,this] at h;simp[b2h] at h
 ·rcases Int.lt_or_le 20 nd.op with g2|g2
  ·have:a0f nd.op=(-2,false,false,false,false):=by rw[a0f];repeat rw[iN (by omega)]
   rw[a3q,this] at h;simp[b2h] at h
  ·exact⟨g,g2⟩
theorem a2y {t:Int × Bool × Bool × Bool × Bool}(h:a3q nd k=true)(ht:a0f nd.op=t):¬(t.1 = -2∨(0≤t.1∧k≠t.1)∨(t.1 = -1∧k<2)):=by
 intro hc;rw[a3q,ht,b2h,iP hc] at h;cases h
theorem c8j (h:((L.length:Nat):Int)=0):L=[]:=List.eq_nil_of_length_eq_zero (by omega)
theorem b5t:∀ {L:List (List Int)},((L.length:Nat):Int)=1→∃ s,L=[s]
 | [s],_=>⟨s,rfl⟩
 | [],h=>by simp at h
 | _::_::_,h=>by simp at h;omega
theorem c7c:∀ {L:List (List Int)},((L.length:Nat):Int)=2→∃ s t,L=[s,t]
 | [s,t],_=>⟨s,t,rfl⟩
 | [],h=>by simp at h
 | [_],h=>by simp at h
 | _::_::_::_,h=>by simp at h;omega
theorem c9c:∀ {L:List (List Int)},((L.length:Nat):Int)=3→∃ s t u,L=[s,t,u]
 | [s,t,u],_=>⟨s,t,u,rfl⟩
 | [],h=>by simp at h
 | [_],h=>by simp at h
 | [_,_],h=>by simp at h
 | _::_::_::_::_,h=>by simp at h;omega
theorem c9d:∀ {L:List (List Int)},2≤((L.length:Nat):Int)→∃ s t L2,L=s::t::L2
 | s::t::L2,_=>⟨s,t,L2,rfl⟩
 | [],h=>by simp at h
 | [_],h=>by simp at h
theorem b4u (ax:Nat):∀(L:List (List Int)) (a:Int),(L.map zeros).foldl (fun a t=>a+t.1.getD ax 0) a=L.foldl (fun a s=>a+s.getD ax 0) a
 | [],a=>rfl
 | s::L,a=>by rw[List.map_cons,List.foldl_cons,List.foldl_cons,b4u ax L];rfl
theorem lot0 {r:Int × List Int × List Int}{d:List Int}(h:r=(0,s,d)):(if r.1=0 then((0:Int),r.2.1) else(r.1,[]))=(0,s):=by rw[h];rfl
theorem lot1 {r:Int × List Int × List Int}(h:r=refused 1):(if r.1=0 then((0:Int),r.2.1) else(r.1,[]))=(1,[]):=by rw[h];rfl
theorem b1b {r:Int × List Int × List Int}(h:r=refused 13):(if r.1=0 then((0:Int),r.2.1) else(r.1,[]))=(13,[]):=by rw[h];rfl
theorem c7t (hop:nd.op=2):(if (a0n nd []).1=0 then((0:Int),(a0n nd []).2.1) else((a0n nd []).1,[]))=ownP nd.shape:=by
 have hw:a0n nd []=if Sh.right nd.shape then(0,nd.shape,List.replicate (Sh.size nd.shape).toNat nd.n) else refused 13:=by rw[a0n,iP hop]
 cases hr:Sh.right nd.shape with
 | true=>rw[hr] at hw;rw[lot0 hw,ownP,hr];rfl
 | false=>rw[hr] at hw;rw[b1b hw,ownP,hr];rfl
theorem c5n (hop:nd.op=3):(if (a0n nd []).1=0 then((0:Int),(a0n nd []).2.1) else((a0n nd []).1,[]))=a3h nd.shape nd.a:=by
 have hw:a0n nd []=if Sh.right nd.shape then(if nd.a.length=1∧0≤nd.a.getD 0 0∧nd.a.getD 0 0<nd.shape.length then(0,nd.shape,Sh.iota nd.shape (nd.a.getD 0 0).toNat) else refused 1) else refused 13:=by rw[a0n,iN (by omega),iP hop]
 cases hr:Sh.right nd.shape with
 | true =>
  rw[hr,iP rfl] at hw;rw[a3h,hr,iP rfl];by_cases g:nd.a.length=1∧0≤nd.a.getD 0 0∧nd.a.getD 0 0<nd.shape.length
  ·rw[iP g] at hw;rw[lot0 hw,iP g]
  ·rw[iN g] at hw;rw[lot1 hw,iN g]
 | false=>rw[hr] at hw;rw[b1b hw,a3h,hr];rfl
section
variable {nd : a0j} {s t u : List Int} (hs : Sh.right s = true)
include hs
theorem c7r (hop:nd.op=4∨nd.op=5):(if (a0n nd [zeros s]).1=0 then((0:Int),(a0n nd [zeros s]).2.1) else((a0n nd [zeros s]).1,[]))=a1i [s]:=by
 have hw:a0n nd [zeros s]=oneR nd.op (zeros s).1 (zeros s).2:=by
  rw[a0n,iN (by omega),iN (by omega),iP hop];rfl
 rw[oneR,iN (by omega),iP (a0h hs)] at hw;rw[lot0 hw,a1i,iP (by simp)];rfl
theorem c5p (hop:nd.op=13):(if (a0n nd [zeros s]).1=0 then((0:Int),(a0n nd [zeros s]).2.1) else((a0n nd [zeros s]).1,[]))=a1s s nd.a:=by
 have hw:a0n nd [zeros s]=b9q (zeros s).1 (zeros s).2 nd.a:=by
  rw[a0n];repeat rw[iN (by omega)]
  rw[iP hop];rfl
 by_cases g:TuOk s nd.a
 ·rw[c5s (a0h hs) g] at hw;rw[lot0 hw,a1s,iP g];rfl
 ·rw[c3d (a0h hs) g] at hw;rw[lot1 hw,a1s,iN g]
theorem b9l (hop:nd.op=14):(if (a0n nd [zeros s]).1=0 then((0:Int),(a0n nd [zeros s]).2.1) else((a0n nd [zeros s]).1,[]))=a1l s nd.shape nd.a:=by
 have hw:a0n nd [zeros s]=spR (zeros s).1 (zeros s).2 nd.shape nd.a:=by
  rw[a0n];repeat rw[iN (by omega)]
  rw[iP hop];rfl
 cases hr:Sh.right nd.shape with
 | false=>rw[c2t (by rw[hr,Bool.and_false])] at hw;rw[b1b hw,a1l,hr];rfl
 | true =>
  have hb:(a0d (zeros s).1 (zeros s).2&&Sh.right nd.shape)=true:=by rw[hr,a0h hs];rfl
  by_cases g:SpOk s nd.shape nd.a
  ·rw[c8w hb g] at hw;rw[lot0 hw,a1l,hr,iP rfl,iP g]
  ·rw[c7v hb g] at hw;rw[lot1 hw,a1l,hr,iP rfl,iN g]
theorem c2r (hop:nd.op=15):(if (a0n nd [zeros s]).1=0 then((0:Int),(a0n nd [zeros s]).2.1) else((a0n nd [zeros s]).1,[]))=a1r s nd.a:=by
 have hw:a0n nd [zeros s]=if nd.a.length=2*s.length then cutR (zeros s).1 (zeros s).2 (nd.a.take s.length) (nd.a.drop s.length) else refused 1:=by
  rw[a0n];repeat rw[iN (by omega)]
  rw[iP hop];rfl
 by_cases g:nd.a.length=2*s.length
 ·rw[iP g] at hw
  cases hc:a5g s (nd.a.take s.length) (nd.a.drop s.length) with
  | true=>rw[c6p (a0h hs) hc] at hw;rw[lot0 hw,a1r,iP ⟨g,hc⟩]
  | false=>rw[c3r (a0h hs) hc] at hw;rw[lot1 hw,a1r,iN (by rw[hc];simp)]
 ·rw[iN g] at hw;rw[lot1 hw,a1r,iN (fun h=>g h.1)]
theorem c7s (hop:nd.op=16):(if (a0n nd [zeros s]).1=0 then((0:Int),(a0n nd [zeros s]).2.1) else((a0n nd [zeros s]).1,[]))=a1o s nd.a:=by
 have hw:a0n nd [zeros s]=if nd.a.length=2*s.length then padR (zeros s).1 (zeros s).2 (nd.a.take s.length) (nd.a.drop s.length) nd.n else refused 1:=by
  rw[a0n];repeat rw[iN (by omega)]
  rw[iP hop];rfl
 by_cases g:nd.a.length=2*s.length
 ·rw[iP g] at hw;by_cases hc:b0y s (nd.a.take s.length) (nd.a.drop s.length)
  ·have hp:a1o s nd.a=ownP (padS s (nd.a.take s.length) (nd.a.drop s.length)):=by rw[a1o,iP ⟨g,hc⟩]
   rw[hp,ownP]
   cases hr:Sh.right (padS s (nd.a.take s.length) (nd.a.drop s.length)) with
   | true=>rw[c7j (a0h hs) hc hr] at hw;rw[lot0 hw];rfl
   | false=>rw[b6b (a0h hs) hc hr] at hw;rw[b1b hw];rfl
  ·rw[c5g (a0h hs) hc] at hw;rw[lot1 hw,a1o,iN (fun h=>hc h.2)]
 ·rw[iN g] at hw;rw[lot1 hw,a1o,iN (fun h=>g h.1)]
theorem c5m (hop:nd.op=18):(if (a0n nd [zeros s]).1=0 then((0:Int),(a0n nd [zeros s]).2.1) else((a0n nd [zeros s]).1,[]))=a1p nd.how s nd.a:=by
 have hw:a0n nd [zeros s]=b0z nd.how (zeros s).1 (zeros s).2 nd.a:=by
  rw[a0n];repeat rw[iN (by omega)]
  rw[iP hop];rfl
 cases hh:a3w nd.how with
 | false=>rw[c0k hh] at hw;rw[lot1 hw,a1p,iN (by rw[hh];simp)]
 | true =>
  by_cases g:a5r nd.a s.length
  ·have hp:a1p nd.how s nd.a=ownP (rest nd.a s):=by rw[a1p,iP ⟨hh,g⟩]
   rw[hp,ownP]
   cases hr:Sh.right (rest nd.a s) with
   | true=>rw[c3y hh (a0h hs) g hr] at hw;rw[lot0 hw];rfl
   | false=>rw[b3k hh (a0h hs) g hr] at hw;rw[b1b hw];rfl
  ·rw[c0j hh (a0h hs) g] at hw;rw[lot1 hw,a1p,iN (fun h=>g h.2)]
theorem b9m (hop:nd.op=20):(if (a0n nd [zeros s]).1=0 then((0:Int),(a0n nd [zeros s]).2.1) else((a0n nd [zeros s]).1,[]))=a0t nd.how s nd.a:=by
 have hw:a0n nd [zeros s]=if nd.a.length=3 then winR nd.how (zeros s).1 (zeros s).2 (nd.a.getD 0 0) (nd.a.getD 1 0) (nd.a.getD 2 0) else refused 1:=by
  rw[a0n];repeat rw[iN (by omega)]
  rw[iP hop];rfl
 by_cases g:nd.a.length=3
 ·rw[iP g] at hw
  cases hh:(a3w nd.how&&b0x (nd.a.getD 1 0) (nd.a.getD 2 0)) with
  | false =>
   rw[c5x hh] at hw;rw[lot1 hw,a0t,iN]
   rintro⟨_,h1,_,h2⟩;rw[h1,h2] at hh;cases hh
  | true =>
   have h12:a3w nd.how=true∧b0x (nd.a.getD 1 0) (nd.a.getD 2 0)=true:=by simpa using hh
   cases hx:b0w s (nd.a.getD 0 0) with
   | false=>rw[c5w hh (a0h hs) hx] at hw;rw[lot1 hw,a0t,iN (by rw[hx];simp)]
   | true =>
    have h0:=b4z.1 hx;have hp:a0t nd.how s nd.a=(0,winS s (nd.a.getD 0 0).toNat (nd.a.getD 1 0) (nd.a.getD 2 0)):=by rw[a0t,iP ⟨g,h12.1,hx,h12.2⟩]
    rw[hp];obtain⟨k,hk⟩:=eZ h0.1;rw[hk] at hw ⊢;rw[c7z hh (a0h hs) (by rw[hk] at h0;exact_mod_cast h0.2)] at hw;rw[lot0 hw];rfl
 ·rw[iN g] at hw;rw[lot1 hw,a0t,iN (fun h=>g h.1)]
theorem c7u (ht:Sh.right t=true)(hop:6≤nd.op∧nd.op≤11):(if (a0n nd [zeros s,zeros t]).1=0 then((0:Int),(a0n nd [zeros s,zeros t]).2.1) else((a0n nd [zeros s,zeros t]).1,[]))=a1i [s,t]:=by
 have hw:a0n nd [zeros s,zeros t]=twoR nd.op (zeros s).1 (zeros s).2 (zeros t).1 (zeros t).2:=by
  rw[a0n];repeat rw[iN (by omega)]
  rfl
 rw[twoR,iN (by omega),a0h hs,a0h ht,Bool.true_and,Bool.true_and] at hw;by_cases g:t=s
 ·subst g;rw[iP (by simp)] at hw;rw[lot0 hw,a1i,iP (by simp)];rfl
 ·rw[iN (by simpa [zeros] using g)] at hw;rw[b1b hw,a1i,iN (by simpa using g)]
theorem c7q (ht:Sh.right t=true)(hop:nd.op=19):(if (a0n nd [zeros s,zeros t]).1=0 then((0:Int),(a0n nd [zeros s,zeros t]).2.1) else((a0n nd [zeros s,zeros t]).1,[]))=a8m s t nd.a:=by
 have hw:a0n nd [zeros s,zeros t]=if nd.a.length=1 then dotR (zeros s).1 (zeros s).2 (zeros t).1 (zeros t).2 (nd.a.getD 0 0) else refused 1:=by
  rw[a0n];repeat rw[iN (by omega)]
  rw[iP hop];rfl
 by_cases g:nd.a.length=1
 ·rw[iP g] at hw;have hb:(a0d (zeros s).1 (zeros s).2&&a0d (zeros t).1 (zeros t).2)=true:=by rw[a0h hs,a0h ht];rfl
  have hp:a8m s t nd.a=dsR s t (nd.a.getD 0 0):=by rw[a8m,iP g]
  rw[hp];by_cases hz:(dsR s t (nd.a.getD 0 0)).1=0
  ·obtain⟨k,hk,hD,he⟩:=c3u hz;rw[hk] at hw he ⊢;rw[c6s hb hD] at hw;rw[lot0 hw,he];rfl
  ·rw[b7x hb hz] at hw;have hz2:¬(refused (dsR s t (nd.a.getD 0 0)).1).1=0:=hz;have hw2:a0n nd [zeros s,zeros t]=refused (dsR s t (nd.a.getD 0 0)).1:=hw;rw[hw2,iN hz2]
   show((dsR s t (nd.a.getD 0 0)).1,[])=dsR s t (nd.a.getD 0 0)
   generalize nd.a.getD 0 0=n at *;unfold dsR at hz ⊢
   repeat' split
   all_goals first|rfl|(exfalso;simp_all)
 ·rw[iN g] at hw;rw[lot1 hw,a8m,iN g]
theorem c2s (ht:Sh.right t=true)(hu:Sh.right u=true)(hop:nd.op=12):(if (a0n nd [zeros s,zeros t,zeros u]).1=0 then((0:Int),(a0n nd [zeros s,zeros t,zeros u]).2.1) else((a0n nd [zeros s,zeros t,zeros u]).1,[]))=a1i [s,t,u]:=by
 have hw:a0n nd [zeros s,zeros t,zeros u]=c7l (zeros s).1 (zeros s).2 (zeros t).1 (zeros t).2 (zeros u).1 (zeros u).2:=by
  rw[a0n];repeat rw[iN (by omega)]
  rw[iP hop];rfl
 rw[c7l,a0h hs,a0h ht,a0h hu,Bool.true_and,Bool.true_and,Bool.true_and] at hw;by_cases g:t=s
 ·subst g;by_cases g2:u=t
  ·subst g2;rw[iP (by simp)] at hw;rw[lot0 hw,a1i,iP (by simp)];rfl
  ·rw[iN (by simpa [zeros] using g2)] at hw;rw[b1b hw,a1i,iN (by simpa using g2)]
 ·rw[iN (by simp[zeros,g])] at hw;rw[b1b hw,a1i,iN (by simp[g])]
end
theorem c5o {L2:List (List Int)}(hL:L=s::L2)(ha:L.all Sh.right=true)(hop:nd.op=17):(if (a0n nd (L.map zeros)).1=0 then((0:Int),(a0n nd (L.map zeros)).2.1) else((a0n nd (L.map zeros)).1,[]))=a0y L nd.a:=by
 have hw:a0n nd (L.map zeros)=if nd.a.length=1 then b3s (nd.a.getD 0 0) (L.map zeros) else refused 1:=by
  rw[a0n];repeat rw[iN (by omega)]
  rw[iP hop]
 have hR:a6c (L.map zeros):=fun t ht=>by
  obtain⟨x,hx,rfl⟩:=List.mem_map.1 ht;exact a0h (List.all_eq_true.1 ha x hx)
 have hh:c6y (L.map zeros)=s:=by rw[hL];rfl
 have hg:L.getD 0 []=s:=by rw[hL];rfl
 have hx:axOk (nd.a.getD 0 0) (L.map zeros)↔0≤nd.a.getD 0 0∧nd.a.getD 0 0<s.length:=by
  rw[axOk,hL]
  constructor
  ·rintro⟨t,ht,h1,h2⟩;simp at ht;subst ht;exact⟨h1,h2⟩
  ·rintro⟨h1,h2⟩;exact⟨zeros s,rfl,h1,h2⟩
 have hF:(∀ t∈L.map zeros,b5h s (nd.a.getD 0 0).toNat t.1)↔a8w (nd.a.getD 0 0).toNat L:=by
  rw[a8w,hg]
  constructor
  ·intro h x hx;exact h (zeros x) (List.mem_map_of_mem hx)
  ·intro h t ht;obtain⟨x,hx,rfl⟩:=List.mem_map.1 ht;exact h x hx
 have hS:b5r (nd.a.getD 0 0).toNat (L.map zeros)=s.set (nd.a.getD 0 0).toNat (totL (nd.a.getD 0 0).toNat L):=by
  rw[b5r,hh,tot,b4u];rfl
 by_cases g:nd.a.length=1
 ·rw[iP g] at hw;by_cases k:axOk (nd.a.getD 0 0) (L.map zeros)
  ·have hk:=hx.1 k;by_cases f:a8w (nd.a.getD 0 0).toNat L
   ·have hp:a0y L nd.a=ownP (s.set (nd.a.getD 0 0).toNat (totL (nd.a.getD 0 0).toNat L)):=by rw[a0y,hg,iP ⟨g,hk⟩,iP f]
    rw[hp,ownP]
    cases hr:Sh.right (s.set (nd.a.getD 0 0).toNat (totL (nd.a.getD 0 0).toNat L)) with
    | true =>
     rw[c4h hR k ⟨by rw[hh];exact hF.2 f,by rw[hS];exact hr⟩,hS] at hw
     rw[lot0 hw];rfl
    | false =>
     rw[a9l hR k (fun h=>by have:=h.2;rw[hS,hr] at this;cases this)] at hw;rw[b1b hw];rfl
   ·have hp:a0y L nd.a=(13,[]):=by rw[a0y,hg,iP ⟨g,hk⟩,iN f]
    rw[a9l hR k (fun h=>f (hF.1 (by have:=h.1;rwa [hh] at this)))] at hw;rw[hp];exact b1b hw
  ·have hp:a0y L nd.a=(1,[]):=by rw[a0y,hg,iN (fun h=>k (hx.2 h.2))]
   rw[c1b hR k] at hw;rw[hp];exact lot1 hw
 ·have hp:a0y L nd.a=(1,[]):=by rw[a0y,iN (fun h=>g h.1)]
  rw[iN g] at hw;rw[hp];exact lot1 hw
theorem c2l (h:a3q nd L.length=true)(ha:L.all Sh.right=true):a1f nd L=opP nd L:=by
 have hop:=b5i h;by_cases h1:nd.op=1
 ·have hp:opP nd L=ownP nd.shape:=by rw[opP,iP (.inl h1)]
  rw[b4j h ha h1,hp,ownP]
 rw[b6j h ha h1];have hall:=List.all_eq_true.1 ha;by_cases h2:nd.op=2
 ·have hk:=a2y h (t:=(0,true,false,true,false)) (by rw[a0f];(repeat rw[iN (by omega)]);rw[iP h2]);simp only at hk;obtain rfl:=c8j (L:=L) (by omega);have hp:opP nd []=ownP nd.shape:=by rw[opP];(repeat rw[iN (by omega)]);rw[iP (.inr h2)]
  rw[hp];exact c7t  h2
 by_cases h3:nd.op=3
 ·have hk:=a2y h (t:=(0,true,true,false,false)) (by rw[a0f];(repeat rw[iN (by omega)]);rw[iP h3]);simp only at hk;obtain rfl:=c8j (L:=L) (by omega);have hp:opP nd []=a3h nd.shape nd.a:=by rw[opP];(repeat rw[iN (by omega)]);rw[iP h3]
  rw[hp];exact c5n  h3
 by_cases h4:nd.op=4∨nd.op=5
 ·have hk:=a2y h (t:=(1,false,false,false,false)) (by rw[a0f];(repeat rw[iN (by omega)]);rw[iP h4]);simp only at hk;obtain⟨s,rfl⟩:=b5t (L:=L) (by omega);have hp:opP nd [s]=a1i [s]:=by rw[opP];(repeat rw[iN (by omega)])
  rw[hp];exact c7r (hall s (by simp)) h4
 by_cases h6:6≤nd.op∧nd.op≤11
 ·have hk:=a2y h (t:=(2,false,false,false,false)) (by rw[a0f];(repeat rw[iN (by omega)]);rw[iP h6]);simp only at hk;obtain⟨s,t,rfl⟩:=c7c (L:=L) (by omega);have hp:opP nd [s,t]=a1i [s,t]:=by rw[opP];(repeat rw[iN (by omega)])
  rw[hp];exact c7u (hall s (by simp)) (hall t (by simp)) h6
 by_cases h12:nd.op=12
 ·have hk:=a2y h (t:=(3,false,false,false,false)) (by rw[a0f];(repeat rw[iN (by omega)]);rw[iP h12]);simp only at hk;obtain⟨s,t,u,rfl⟩:=c9c (L:=L) (by omega);have hp:opP nd [s,t,u]=a1i [s,t,u]:=by rw[opP];(repeat rw[iN (by omega)])
  rw[hp];exact c2s (hall s (by simp)) (hall t (by simp)) (hall u (by simp)) h12
 by_cases h13:nd.op=13
 ·have hk:=a2y h (t:=(1,false,true,false,false)) (by rw[a0f];(repeat rw[iN (by omega)]);rw[iP (.inl h13)]);simp only at hk;obtain⟨s,rfl⟩:=b5t (L:=L) (by omega);have hp:opP nd [s]=a1s s nd.a:=by rw[opP];(repeat rw[iN (by omega)]);rw[iP h13];rfl
  rw[hp];exact c5p (hall s (by simp)) h13
 by_cases h15:nd.op=15
 ·have hk:=a2y h (t:=(1,false,true,false,false)) (by rw[a0f];(repeat rw[iN (by omega)]);rw[iP (.inr h15)]);simp only at hk;obtain⟨s,rfl⟩:=b5t (L:=L) (by omega);have hp:opP nd [s]=a1r s nd.a:=by rw[opP];(repeat rw[iN (by omega)]);rw[iP h15];rfl
  rw[hp];exact c2r (hall s (by simp)) h15
 by_cases h14:nd.op=14
 ·have hk:=a2y h (t:=(1,true,true,false,false)) (by rw[a0f];(repeat rw[iN (by omega)]);rw[iP h14]);simp only at hk;obtain⟨s,rfl⟩:=b5t (L:=L) (by omega);have hp:opP nd [s]=a1l s nd.shape nd.a:=by rw[opP];(repeat rw[iN (by omega)]);rw[iP h14];rfl
  rw[hp];exact b9l (hall s (by simp)) h14
 by_cases h16:nd.op=16
 ·have hk:=a2y h (t:=(1,false,true,true,false)) (by rw[a0f];(repeat rw[iN (by omega)]);rw[iP h16]);simp only at hk;obtain⟨s,rfl⟩:=b5t (L:=L) (by omega);have hp:opP nd [s]=a1o s nd.a:=by rw[opP];(repeat rw[iN (by omega)]);rw[iP h16];rfl
  rw[hp];exact c7s (hall s (by simp)) h16
 by_cases h17:nd.op=17
 ·have hk:=a2y h (t:=(-1,false,true,false,false)) (by rw[a0f];(repeat rw[iN (by omega)]);rw[iP h17]);have hk2:¬((L.length:Int)<2):=fun hc=>hk (.inr (.inr ⟨rfl,hc⟩))
  obtain⟨s,t,L2,hL⟩:=c9d (L:=L) (by omega);have hp:opP nd L=a0y L nd.a:=by rw[opP];(repeat rw[iN (by omega)]);rw[iP h17]
  rw[hp];exact c5o hL ha h17
 by_cases h18:nd.op=18
 ·have hk:=a2y h (t:=(1,false,true,false,true)) (by rw[a0f];(repeat rw[iN (by omega)]);rw[iP (.inl h18)]);simp only at hk;obtain⟨s,rfl⟩:=b5t (L:=L) (by omega);have hp:opP nd [s]=a1p nd.how s nd.a:=by rw[opP];(repeat rw[iN (by omega)]);rw[iP h18];rfl
  rw[hp];exact c5m (hall s (by simp)) h18
 by_cases h20:nd.op=20
 ·have hk:=a2y h (t:=(1,false,true,false,true)) (by rw[a0f];(repeat rw[iN (by omega)]);rw[iP (.inr h20)]);simp only at hk;obtain⟨s,rfl⟩:=b5t (L:=L) (by omega);have hp:opP nd [s]=a0t nd.how s nd.a:=by rw[opP];(repeat rw[iN (by omega)]);rw[iP h20];rfl
  rw[hp];exact b9m (hall s (by simp)) h20
 have h19:nd.op=19:=by omega
 have hk:=a2y h (t:=(2,false,true,false,false)) (by rw[a0f];(repeat rw[iN (by omega)]);rw[iP h19]);simp only at hk;obtain⟨s,t,rfl⟩:=c7c (L:=L) (by omega);have hp:opP nd [s,t]=a8m s t nd.a:=by rw[opP];(repeat rw[iN (by omega)]);rw[iP h19];rfl
 rw[hp];exact c7q (hall s (by simp)) (hall t (by simp)) h19
end Go.Proofs.YtdcmanhgekjhgaaDoor
