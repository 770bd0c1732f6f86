import Derived.Test.YtajhdeddgdhccaaGreatDoorPbc
set_option maxRecDepth 100000
set_option maxHeartbeats 12800000
namespace Go.Proofs.YtajhdeddgdhccaaGreatDoor
open Go.RowKit Go.Proofs.Tryz
variable {L:List (List Int)} {k:Int} {nd:a0p} {s:List Int}
noncomputable def opP (nd:a0p) (L:List (List Int)):Int × List Int :=
 if nd.op=1∨nd.op=2 then ownP nd.shape
 else if nd.op=3 then a5z nd.shape nd.a
 else if nd.op=13 then a3y (L.getD 0 []) nd.a
 else if nd.op=14 then a2w (L.getD 0 []) nd.shape nd.a
 else if nd.op=15 then a3x (L.getD 0 []) nd.a
 else if nd.op=16 then a3l (L.getD 0 []) nd.a
 else if nd.op=17 then a1z L nd.a
 else if nd.op=18 then a3s nd.how (L.getD 0 []) nd.a
 else if nd.op=19 then b2k (L.getD 0 []) (L.getD 1 []) nd.a
 else if nd.op=20 then a1h nd.how (L.getD 0 []) nd.a
 else a2r L
theorem c1c (h:a4n nd k=true):1≤nd.op∧nd.op≤20:=by
 rcases Int.lt_or_le nd.op 1 with g|g
 ·have:a0h nd.op=(-2,false,false,false,false):=by rw[a0h];repeat rw[iN (by omega)]
  rw[a4n,this] at h;simp[a9w] at h
 ·rcases Int.lt_or_le 20 nd.op with g2|g2
  ·have:a0h nd.op=(-2,false,false,false,false):=by rw[a0h];repeat rw[iN (by omega)]
   rw[a4n,this] at h;simp[a9w] at h
  ·exact⟨g,g2⟩
theorem a5n {t:Int × Bool × Bool × Bool × Bool}(h:a4n nd k=true)(ht:a0h nd.op=t):¬(t.1 = -2∨(0≤t.1∧k≠t.1)∨(t.1 = -1∧k<2)):=by
 intro hc;rw[a4n,ht,a9w,iP hc] at h;cases h
theorem d5k (h:((L.length:Nat):Int)=0):L=[]:=List.eq_nil_of_length_eq_zero (by omega)
theorem c1s:∀ {L:List (List Int)},((L.length:Nat):Int)=1→∃ s,L=[s]
 | [s],_=>⟨s,rfl⟩
 | [],h=>by simp at h
 | _::_::_,h=>by simp at h;omega
theorem d4i:∀ {L:List (List Int)},((L.length:Nat):Int)=2→∃ s t,L=[s,t]
 | [s,t],_=>⟨s,t,rfl⟩
 | [],h=>by simp at h
 | [_],h=>by simp at h
 | _::_::_::_,h=>by simp at h;omega
theorem d6b:∀ {L:List (List Int)},((L.length:Nat):Int)=3→∃ s t u,L=[s,t,u]
 | [s,t,u],_=>⟨s,t,u,rfl⟩
 | [],h=>by simp at h
 | [_],h=>by simp at h
 | [_,_],h=>by simp at h
 | _::_::_::_::_,h=>by simp at h;omega
theorem d6c:∀ {L:List (List Int)},2≤((L.length:Nat):Int)→∃ s t L2,L=s::t::L2
 | s::t::L2,_=>⟨s,t,L2,rfl⟩
 | [],h=>by simp at h
 | [_],h=>by simp at h
theorem c0o (ax:Nat):∀(L:List (List Int)) (a:Int),(L.map zeros).foldl (fun a t=>a+t.1.getD ax 0) a=L.foldl (fun a s=>a+s.getD ax 0) a
 | [],a=>rfl
 | s::L,a=>by rw[List.map_cons,List.foldl_cons,List.foldl_cons,c0o ax L];rfl
theorem lot0 {r:Int × List Int × List Int}{d:List Int}(h:r=(0,s,d)):(if r.1=0 then((0:Int),r.2.1) else(r.1,[]))=(0,s):=by rw[h];rfl
theorem lot1 {r:Int × List Int × List Int}(h:r=refused 1):(if r.1=0 then((0:Int),r.2.1) else(r.1,[]))=(1,[]):=by rw[h];rfl
theorem b5e {r:Int × List Int × List Int}(h:r=refused 13):(if r.1=0 then((0:Int),r.2.1) else(r.1,[]))=(13,[]):=by rw[h];rfl
theorem d4x (hop:nd.op=2):(if (a0q nd []).1=0 then((0:Int),(a0q nd []).2.1) else((a0q nd []).1,[]))=ownP nd.shape:=by
 have hw:a0q nd []=if Sh.right nd.shape then(0,nd.shape,List.replicate (Sh.size nd.shape).toNat nd.n) else refused 13:=by rw[a0q,iP hop]
 cases hr:Sh.right nd.shape with
 | true=>rw[hr] at hw;rw[lot0 hw,ownP,hr];rfl
 | false=>rw[hr] at hw;rw[b5e hw,ownP,hr];rfl
theorem d2t (hop:nd.op=3):(if (a0q nd []).1=0 then((0:Int),(a0q nd []).2.1) else((a0q nd []).1,[]))=a5z nd.shape nd.a:=by
 have hw:a0q nd []=if Sh.right nd.shape then(if nd.a.length=1∧0≤nd.a.getD 0 0∧nd.a.getD 0 0<nd.shape.length then(0,nd.shape,Sh.iota nd.shape (nd.a.getD 0 0).toNat) else refused 1) else refused 13:=by rw[a0q,iN (by omega),iP hop]
 cases hr:Sh.right nd.shape with
 | true =>
  rw[hr,iP rfl] at hw;rw[a5z,hr,iP rfl];by_cases g:nd.a.length=1∧0≤nd.a.getD 0 0∧nd.a.getD 0 0<nd.shape.length
  ·rw[iP g] at hw;rw[lot0 hw,iP g]
  ·rw[iN g] at hw;rw[lot1 hw,iN g]
 | false=>rw[hr] at hw;rw[b5e hw,a5z,hr];rfl
section
variable {nd : a0p} {s t u : List Int} (hs : Sh.right s = true)
include hs
theorem d4v (hop:nd.op=4∨nd.op=5):(if (a0q nd [zeros s]).1=0 then((0:Int),(a0q nd [zeros s]).2.1) else((a0q nd [zeros s]).1,[]))=a2r [s]:=by
 have hw:a0q nd [zeros s]=oneR nd.op (zeros s).1 (zeros s).2:=by
  rw[a0q,iN (by omega),iN (by omega),iP hop];rfl
 rw[oneR,iN (by omega),iP (a0r hs)] at hw;rw[lot0 hw,a2r,iP (by simp)];rfl
theorem d2v (hop:nd.op=13):(if (a0q nd [zeros s]).1=0 then((0:Int),(a0q nd [zeros s]).2.1) else((a0q nd [zeros s]).1,[]))=a3y s nd.a:=by
 have hw:a0q nd [zeros s]=b0u (zeros s).1 (zeros s).2 nd.a:=by
  rw[a0q];repeat rw[iN (by omega)]
  rw[iP hop];rfl
 by_cases g:TuOk s nd.a
 ·rw[c3z (a0r hs) g] at hw;rw[lot0 hw,a3y,iP g];rfl
 ·rw[b4w (a0r hs) g] at hw;rw[lot1 hw,a3y,iN g]
theorem c5l (hop:nd.op=14):(if (a0q nd [zeros s]).1=0 then((0:Int),(a0q nd [zeros s]).2.1) else((a0q nd [zeros s]).1,[]))=a2w s nd.shape nd.a:=by
 have hw:a0q nd [zeros s]=spR (zeros s).1 (zeros s).2 nd.shape nd.a:=by
  rw[a0q];repeat rw[iN (by omega)]
  rw[iP hop];rfl
 cases hr:Sh.right nd.shape with
 | false=>rw[b4s (by rw[hr,Bool.and_false])] at hw;rw[b5e hw,a2w,hr];rfl
 | true =>
  have hb:(a0a (zeros s).1 (zeros s).2&&Sh.right nd.shape)=true:=by rw[hr,a0r hs];rfl
  by_cases g:SpOk s nd.shape nd.a
  ·rw[d3k hb g] at hw;rw[lot0 hw,a2w,hr,iP rfl,iP g]
  ·rw[c2e hb g] at hw;rw[lot1 hw,a2w,hr,iP rfl,iN g]
theorem c9e (hop:nd.op=15):(if (a0q nd [zeros s]).1=0 then((0:Int),(a0q nd [zeros s]).2.1) else((a0q nd [zeros s]).1,[]))=a3x s nd.a:=by
 have hw:a0q nd [zeros s]=if nd.a.length=2*s.length then cutR (zeros s).1 (zeros s).2 (nd.a.take s.length) (nd.a.drop s.length) else refused 1:=by
  rw[a0q];repeat rw[iN (by omega)]
  rw[iP hop];rfl
 by_cases g:nd.a.length=2*s.length
 ·rw[iP g] at hw
  cases hc:a3j s (nd.a.take s.length) (nd.a.drop s.length) with
  | true=>rw[c6j (a0r hs) hc] at hw;rw[lot0 hw,a3x,iP ⟨g,hc⟩]
  | false=>rw[b7c (a0r hs) hc] at hw;rw[lot1 hw,a3x,iN (by rw[hc];simp)]
 ·rw[iN g] at hw;rw[lot1 hw,a3x,iN (fun h=>g h.1)]
theorem d4w (hop:nd.op=16):(if (a0q nd [zeros s]).1=0 then((0:Int),(a0q nd [zeros s]).2.1) else((a0q nd [zeros s]).1,[]))=a3l s nd.a:=by
 have hw:a0q nd [zeros s]=if nd.a.length=2*s.length then padR (zeros s).1 (zeros s).2 (nd.a.take s.length) (nd.a.drop s.length) nd.n else refused 1:=by
  rw[a0q];repeat rw[iN (by omega)]
  rw[iP hop];rfl
 by_cases g:nd.a.length=2*s.length
 ·rw[iP g] at hw;by_cases hc:b2j s (nd.a.take s.length) (nd.a.drop s.length)
  ·have hp:a3l s nd.a=ownP (padS s (nd.a.take s.length) (nd.a.drop s.length)):=by rw[a3l,iP ⟨g,hc⟩]
   rw[hp,ownP]
   cases hr:Sh.right (padS s (nd.a.take s.length) (nd.a.drop s.length)) with
   | true=>rw[c8k (a0r hs) hc hr] at hw;rw[lot0 hw];rfl
   | false=>rw[b3y (a0r hs) hc hr] at hw;rw[b5e hw];rfl
  ·rw[b7s (a0r hs) hc] at hw;rw[lot1 hw,a3l,iN (fun h=>hc h.2)]
 ·rw[iN g] at hw;rw[lot1 hw,a3l,iN (fun h=>g h.1)]
theorem d2s (hop:nd.op=18):(if (a0q nd [zeros s]).1=0 then((0:Int),(a0q nd [zeros s]).2.1) else((a0q nd [zeros s]).1,[]))=a3s nd.how s nd.a:=by
 have hw:a0q nd [zeros s]=a6y nd.how (zeros s).1 (zeros s).2 nd.a:=by
  rw[a0q];repeat rw[iN (by omega)]
  rw[iP hop];rfl
 cases hh:a4c nd.how with
 | false=>rw[b8w hh] at hw;rw[lot1 hw,a3s,iN (by rw[hh];simp)]
 | true =>
  by_cases g:a6x nd.a s.length
  ·have hp:a3s nd.how s nd.a=ownP (rest nd.a s):=by rw[a3s,iP ⟨hh,g⟩]
   rw[hp,ownP]
   cases hr:Sh.right (rest nd.a s) with
   | true=>rw[c2z hh (a0r hs) g hr] at hw;rw[lot0 hw];rfl
   | false=>rw[b1r hh (a0r hs) g hr] at hw;rw[b5e hw];rfl
  ·rw[b8v hh (a0r hs) g] at hw;rw[lot1 hw,a3s,iN (fun h=>g h.2)]
theorem c5m (hop:nd.op=20):(if (a0q nd [zeros s]).1=0 then((0:Int),(a0q nd [zeros s]).2.1) else((a0q nd [zeros s]).1,[]))=a1h nd.how s nd.a:=by
 have hw:a0q nd [zeros s]=if nd.a.length=3 then winR nd.how (zeros s).1 (zeros s).2 (nd.a.getD 0 0) (nd.a.getD 1 0) (nd.a.getD 2 0) else refused 1:=by
  rw[a0q];repeat rw[iN (by omega)]
  rw[iP hop];rfl
 by_cases g:nd.a.length=3
 ·rw[iP g] at hw
  cases hh:(a4c nd.how&&b0w (nd.a.getD 1 0) (nd.a.getD 2 0)) with
  | false =>
   rw[c4b hh] at hw;rw[lot1 hw,a1h,iN]
   rintro⟨_,h1,_,h2⟩;rw[h1,h2] at hh;cases hh
  | true =>
   have h12:a4c nd.how=true∧b0w (nd.a.getD 1 0) (nd.a.getD 2 0)=true:=by simpa using hh
   cases hx:b1n s (nd.a.getD 0 0) with
   | false=>rw[b8i hh (a0r hs) hx] at hw;rw[lot1 hw,a1h,iN (by rw[hx];simp)]
   | true =>
    have h0:=a8f.1 hx;have hp:a1h nd.how s nd.a=(0,winS s (nd.a.getD 0 0).toNat (nd.a.getD 1 0) (nd.a.getD 2 0)):=by rw[a1h,iP ⟨g,h12.1,hx,h12.2⟩]
    rw[hp];obtain⟨k,hk⟩:=eZ h0.1;rw[hk] at hw ⊢;rw[c9z hh (a0r hs) (by rw[hk] at h0;exact_mod_cast h0.2)] at hw;rw[lot0 hw];rfl
 ·rw[iN g] at hw;rw[lot1 hw,a1h,iN (fun h=>g h.1)]
theorem d4y (ht:Sh.right t=true)(hop:6≤nd.op∧nd.op≤11):(if (a0q nd [zeros s,zeros t]).1=0 then((0:Int),(a0q nd [zeros s,zeros t]).2.1) else((a0q nd [zeros s,zeros t]).1,[]))=a2r [s,t]:=by
 have hw:a0q nd [zeros s,zeros t]=twoR nd.op (zeros s).1 (zeros s).2 (zeros t).1 (zeros t).2:=by
  rw[a0q];repeat rw[iN (by omega)]
  rfl
 rw[twoR,iN (by omega),a0r hs,a0r ht,Bool.true_and,Bool.true_and] at hw;by_cases g:t=s
 ·subst g;rw[iP (by simp)] at hw;rw[lot0 hw,a2r,iP (by simp)];rfl
 ·rw[iN (by simpa [zeros] using g)] at hw;rw[b5e hw,a2r,iN (by simpa using g)]
theorem d4u (ht:Sh.right t=true)(hop:nd.op=19):(if (a0q nd [zeros s,zeros t]).1=0 then((0:Int),(a0q nd [zeros s,zeros t]).2.1) else((a0q nd [zeros s,zeros t]).1,[]))=b2k s t nd.a:=by
 have hw:a0q nd [zeros s,zeros t]=if nd.a.length=1 then dotR (zeros s).1 (zeros s).2 (zeros t).1 (zeros t).2 (nd.a.getD 0 0) else refused 1:=by
  rw[a0q];repeat rw[iN (by omega)]
  rw[iP hop];rfl
 by_cases g:nd.a.length=1
 ·rw[iP g] at hw;have hb:(a0a (zeros s).1 (zeros s).2&&a0a (zeros t).1 (zeros t).2)=true:=by rw[a0r hs,a0r ht];rfl
  have hp:b2k s t nd.a=dsR s t (nd.a.getD 0 0):=by rw[b2k,iP g]
  rw[hp];by_cases hz:(dsR s t (nd.a.getD 0 0)).1=0
  ·obtain⟨k,hk,hD,he⟩:=b7f hz;rw[hk] at hw he ⊢;rw[c6l hb hD] at hw;rw[lot0 hw,he];rfl
  ·rw[b5w hb hz] at hw;have hz2:¬(refused (dsR s t (nd.a.getD 0 0)).1).1=0:=hz;have hw2:a0q nd [zeros s,zeros t]=refused (dsR s t (nd.a.getD 0 0)).1:=hw;rw[hw2,iN hz2]
   show((dsR s t (nd.a.getD 0 0)).1,[])=dsR s t (nd.a.getD 0 0)
   generalize nd.a.getD 0 0=n at *;unfold dsR at hz ⊢
   repeat' split
   all_goals first|rfl|(exfalso;simp_all)
 ·rw[iN g] at hw;rw[lot1 hw,b2k,iN g]
theorem c9f (ht:Sh.right t=true)(hu:Sh.right u=true)(hop:nd.op=12):(if (a0q nd [zeros s,zeros t,zeros u]).1=0 then((0:Int),(a0q nd [zeros s,zeros t,zeros u]).2.1) else((a0q nd [zeros s,zeros t,zeros u]).1,[]))=a2r [s,t,u]:=by
 have hw:a0q nd [zeros s,zeros t,zeros u]=b1k (zeros s).1 (zeros s).2 (zeros t).1 (zeros t).2 (zeros u).1 (zeros u).2:=by
  rw[a0q];repeat rw[iN (by omega)]
  rw[iP hop];rfl
 rw[b1k,a0r hs,a0r ht,a0r hu,Bool.true_and,Bool.true_and,Bool.true_and] at hw;by_cases g:t=s
 ·subst g;by_cases g2:u=t
  ·subst g2;rw[iP (by simp)] at hw;rw[lot0 hw,a2r,iP (by simp)];rfl
  ·rw[iN (by simpa [zeros] using g2)] at hw;rw[b5e hw,a2r,iN (by simpa using g2)]
 ·rw[iN (by simp[zeros,g])] at hw;rw[b5e hw,a2r,iN (by simp[g])]
end
theorem d2u {L2:List (List Int)}(hL:L=s::L2)(ha:L.all Sh.right=true)(hop:nd.op=17):(if (a0q nd (L.map zeros)).1=0 then((0:Int),(a0q nd (L.map zeros)).2.1) else((a0q nd (L.map zeros)).1,[]))=a1z L nd.a:=by
 have hw:a0q nd (L.map zeros)=if nd.a.length=1 then a7p (nd.a.getD 0 0) (L.map zeros) else refused 1:=by
  rw[a0q];repeat rw[iN (by omega)]
  rw[iP hop]
 have hR:a4w (L.map zeros):=fun t ht=>by
  obtain⟨x,hx,rfl⟩:=List.mem_map.1 ht;exact a0r (List.all_eq_true.1 ha x hx)
 have hh:a7j (L.map zeros)=s:=by rw[hL];rfl
 have hg:L.getD 0 []=s:=by rw[hL];rfl
 have hx:axOk (nd.a.getD 0 0) (L.map zeros)↔0≤nd.a.getD 0 0∧nd.a.getD 0 0<s.length:=by
  rw[axOk,hL]
  constructor
  ·rintro⟨t,ht,h1,h2⟩;simp at ht;subst ht;exact⟨h1,h2⟩
  ·rintro⟨h1,h2⟩;exact⟨zeros s,rfl,h1,h2⟩
 have hF:(∀ t∈L.map zeros,b5c s (nd.a.getD 0 0).toNat t.1)↔b2x (nd.a.getD 0 0).toNat L:=by
  rw[b2x,hg]
  constructor
  ·intro h x hx;exact h (zeros x) (List.mem_map_of_mem hx)
  ·intro h t ht;obtain⟨x,hx,rfl⟩:=List.mem_map.1 ht;exact h x hx
 have hS:a4d (nd.a.getD 0 0).toNat (L.map zeros)=s.set (nd.a.getD 0 0).toNat (totL (nd.a.getD 0 0).toNat L):=by
  rw[a4d,hh,tot,c0o];rfl
 by_cases g:nd.a.length=1
 ·rw[iP g] at hw;by_cases k:axOk (nd.a.getD 0 0) (L.map zeros)
  ·have hk:=hx.1 k;by_cases f:b2x (nd.a.getD 0 0).toNat L
   ·have hp:a1z L nd.a=ownP (s.set (nd.a.getD 0 0).toNat (totL (nd.a.getD 0 0).toNat L)):=by rw[a1z,hg,iP ⟨g,hk⟩,iP f]
    rw[hp,ownP]
    cases hr:Sh.right (s.set (nd.a.getD 0 0).toNat (totL (nd.a.getD 0 0).toNat L)) with
    | true =>
     rw[c3a hR k ⟨by rw[hh];exact hF.2 f,by rw[hS];exact hr⟩,hS] at hw
     rw[lot0 hw];rfl
    | false =>
     rw[a4t hR k (fun h=>by have:=h.2;rw[hS,hr] at this;cases this)] at hw;rw[b5e hw];rfl
   ·have hp:a1z L nd.a=(13,[]):=by rw[a1z,hg,iP ⟨g,hk⟩,iN f]
    rw[a4t hR k (fun h=>f (hF.1 (by have:=h.1;rwa [hh] at this)))] at hw;rw[hp];exact b5e hw
  ·have hp:a1z L nd.a=(1,[]):=by rw[a1z,hg,iN (fun h=>k (hx.2 h.2))]
   rw[b0b hR k] at hw;rw[hp];exact lot1 hw
 ·have hp:a1z L nd.a=(1,[]):=by rw[a1z,iN (fun h=>g h.1)]
  rw[iN g] at hw;rw[hp];exact lot1 hw
theorem c8x (h:a4n nd L.length=true)(ha:L.all Sh.right=true):a1a nd L=opP nd L:=by
 have hop:=c1c h;by_cases h1:nd.op=1
 ·have hp:opP nd L=ownP nd.shape:=by rw[opP,iP (.inl h1)]
  rw[b2h h ha h1,hp,ownP]
 rw[b4r h ha h1];have hall:=List.all_eq_true.1 ha;by_cases h2:nd.op=2
 ·have hk:=a5n h (t:=(0,true,false,true,false)) (by rw[a0h];(repeat rw[iN (by omega)]);rw[iP h2]);simp only at hk;obtain rfl:=d5k (L:=L) (by omega);have hp:opP nd []=ownP nd.shape:=by rw[opP];(repeat rw[iN (by omega)]);rw[iP (.inr h2)]
  rw[hp];exact d4x  h2
 by_cases h3:nd.op=3
 ·have hk:=a5n h (t:=(0,true,true,false,false)) (by rw[a0h];(repeat rw[iN (by omega)]);rw[iP h3]);simp only at hk;obtain rfl:=d5k (L:=L) (by omega);have hp:opP nd []=a5z nd.shape nd.a:=by rw[opP];(repeat rw[iN (by omega)]);rw[iP h3]
  rw[hp];exact d2t  h3
 by_cases h4:nd.op=4∨nd.op=5
 ·have hk:=a5n h (t:=(1,false,false,false,false)) (by rw[a0h];(repeat rw[iN (by omega)]);rw[iP h4]);simp only at hk;obtain⟨s,rfl⟩:=c1s (L:=L) (by omega);have hp:opP nd [s]=a2r [s]:=by rw[opP];(repeat rw[iN (by omega)])
  rw[hp];exact d4v (hall s (by simp)) h4
 by_cases h6:6≤nd.op∧nd.op≤11
 ·have hk:=a5n h (t:=(2,false,false,false,false)) (by rw[a0h];(repeat rw[iN (by omega)]);rw[iP h6]);simp only at hk;obtain⟨s,t,rfl⟩:=d4i (L:=L) (by omega);have hp:opP nd [s,t]=a2r [s,t]:=by rw[opP];(repeat rw[iN (by omega)])
  rw[hp];exact d4y (hall s (by simp)) (hall t (by simp)) h6
 by_cases h12:nd.op=12
 ·have hk:=a5n h (t:=(3,false,false,false,false)) (by rw[a0h];(repeat rw[iN (by omega)]);rw[iP h12]);simp only at hk;obtain⟨s,t,u,rfl⟩:=d6b (L:=L) (by omega);have hp:opP nd [s,t,u]=a2r [s,t,u]:=by rw[opP];(repeat rw[iN (by omega)])
  rw[hp];exact c9f (hall s (by simp)) (hall t (by simp)) (hall u (by simp)) h12
 by_cases h13:nd.op=13
 ·have hk:=a5n h (t:=(1,false,true,false,false)) (by rw[a0h];(repeat rw[iN (by omega)]);rw[iP (.inl h13)]);simp only at hk;obtain⟨s,rfl⟩:=c1s (L:=L) (by omega);have hp:opP nd [s]=a3y s nd.a:=by rw[opP];(repeat rw[iN (by omega)]);rw[iP h13];rfl
  rw[hp];exact d2v (hall s (by simp)) h13
 by_cases h15:nd.op=15
 ·have hk:=a5n h (t:=(1,false,true,false,false)) (by rw[a0h];(repeat rw[iN (by omega)]);rw[iP (.inr h15)]);simp only at hk;obtain⟨s,rfl⟩:=c1s (L:=L) (by omega);have hp:opP nd [s]=a3x s nd.a:=by rw[opP];(repeat rw[iN (by omega)]);rw[iP h15];rfl
  rw[hp];exact c9e (hall s (by simp)) h15
 by_cases h14:nd.op=14
 ·have hk:=a5n h (t:=(1,true,true,false,false)) (by rw[a0h];(repeat rw[iN (by omega)]);rw[iP h14]);simp only at hk;obtain⟨s,rfl⟩:=c1s (L:=L) (by omega);have hp:opP nd [s]=a2w s nd.shape nd.a:=by rw[opP];(repeat rw[iN (by omega)]);rw[iP h14];rfl
  rw[hp];exact c5l (hall s (by simp)) h14
 by_cases h16:nd.op=16
 ·have hk:=a5n h (t:=(1,false,true,true,false)) (by rw[a0h];(repeat rw[iN (by omega)]);rw[iP h16]);simp only at hk;obtain⟨s,rfl⟩:=c1s (L:=L) (by omega);have hp:opP nd [s]=a3l s nd.a:=by rw[opP];(repeat rw[iN (by omega)]);rw[iP h16];rfl
  rw[hp];exact d4w (hall s (by simp)) h16
 by_cases h17:nd.op=17
 ·have hk:=a5n h (t:=(-1,false,true,false,false)) (by rw[a0h];(repeat rw[iN (by omega)]);rw[iP h17]);have hk2:¬((L.length:Int)<2):=fun hc=>hk (.inr (.inr ⟨rfl,hc⟩))
  obtain⟨s,t,L2,hL⟩:=d6c (L:=L) (by omega);have hp:opP nd L=a1z L nd.a:=by rw[opP];(repeat rw[iN (by omega)]);rw[iP h17]
  rw[hp];exact d2u hL ha h17
 by_cases h18:nd.op=18
 ·have hk:=a5n h (t:=(1,false,true,false,true)) (by rw[a0h];(repeat rw[iN (by omega)]);rw[iP (.inl h18)]);simp only at hk;obtain⟨s,rfl⟩:=c1s (L:=L) (by omega);have hp:opP nd [s]=a3s nd.how s nd.a:=by rw[opP];(repeat rw[iN (by omega)]);rw[iP h18];rfl
  rw[hp];exact d2s (hall s (by simp)) h18
 by_cases h20:nd.op=20
 ·have hk:=a5n h (t:=(1,false,true,false,true)) (by rw[a0h];(repeat rw[iN (by omega)]);rw[iP (.inr h20)]);simp only at hk;obtain⟨s,rfl⟩:=c1s (L:=L) (by omega);have hp:opP nd [s]=a1h nd.how s nd.a:=by rw[opP];(repeat rw[iN (by omega)]);rw[iP h20];rfl
  rw[hp];exact c5m (hall s (by simp)) h20
 have h19:nd.op=19:=by omega
 have hk:=a5n h (t:=(2,false,true,false,false)) (by rw[a0h];(repeat rw[iN (by omega)]);rw[iP h19]);simp only at hk;obtain⟨s,t,rfl⟩:=d4i (L:=L) (by omega);have hp:opP nd [s,t]=b2k s t nd.a:=by rw[opP];(repeat rw[iN (by omega)]);rw[iP h19];rfl
 rw[hp];exact d4u (hall s (by simp)) (hall t (by simp)) h19
end Go.Proofs.YtajhdeddgdhccaaGreatDoor
