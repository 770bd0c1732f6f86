import Derived.Test.YtdcmanhgekjhgaaGreatDoorPbs
set_option maxRecDepth 100000
set_option maxHeartbeats 12800000
namespace Go.Proofs.YtdcmanhgekjhgaaGreatDoor
open Go.RowKit Go.Proofs.Tryz
variable {L:List (List Int)} {xs:List Int}
def Slim (nd:a0l):Prop:=nd.shape.length≤8∧nd.a.length≤8
theorem c5l (xs:List Int):∀(j a:Nat),(a9u xs j a).1.length=j
 | 0,_=>rfl
 | j+1,a=>by rw[a9u];simp only[List.length_cons,c5l xs j]
theorem d2x (xs:List Int)(a:Nat):(a2q xs a).1.length≤3:=by
 have h:=a4b xs a (show(0:Int)<4 by omega);rw[a2q,c5l];omega
theorem d1w (xs:List Int)(a:Nat):Slim (kSrc xs a).1:=by
 have h:=d2x xs (ta xs a 4);rw[kSrc]
 split
 ·exact⟨by show(a2q xs (ta xs a 4)).1.length≤8;omega,by show 0≤8;omega⟩
 ·split
  ·exact⟨by show((3::(a2q xs (ta xs a 4)).1).take 3).length≤8;rw[List.length_take];omega,by show 1≤8;omega⟩
  ·exact⟨by show(a2q xs (ta xs a 4)).1.length≤8;omega,by show 0≤8;omega⟩
theorem c5p (xs:List Int):∀(m j a:Nat) (p:List Int),(b1q xs m j a p).1.length=p.length+m
 | 0,_,_,_=>rfl
 | m+1,j,a,p=>by
  rw[b1q,c5p xs m];simp only[List.length_append,List.length_take,List.length_drop,List.length_singleton];omega
theorem d6p (k:Nat):∀(m j:Nat),(kAx k m j).length≤m
 | 0,_=>Nat.le_refl _
 | m+1,j=>by
  rw[kAx];have:=d6p k m (j+1)
  split
  ·omega
  ·rw[List.length_cons];omega
theorem c5k (xs:List Int):∀(s:List Int) (a:Nat),(a5m xs s a).1.1.length=s.length∧(a5m xs s a).1.2.length=s.length
 | [],_=>⟨rfl,rfl⟩
 | x::s,a=>by
  have h:=c5k xs s (ta xs (ta xs a (x+1)) (x-tv xs a (x+1)+1));rw[a5m];simp only[List.length_cons];omega
theorem c5o (xs:List Int):∀(m a:Nat),(a5r xs m a).1.1.length=m∧(a5r xs m a).1.2.length=m
 | 0,_=>⟨rfl,rfl⟩
 | m+1,a=>by
  have h:=c5o xs m (ta xs (ta xs a 3) 3);rw[a5r];simp only[List.length_cons];omega
theorem c1e (xs:List Int):∀(m j a:Nat),(a3a xs m j a).1.length≤m
 | 0,_,_=>Nat.le_refl _
 | m+1,j,a=>by
  have h:=c1e xs m (j+1) (ta xs a 2);rw[a3a]
  split
  ·simp only[List.length_cons];omega
  ·omega
theorem c5m (xs:List Int)(L:List (List Int))(s:List Int)(q:Nat):∀(m k a:Nat),Slim (kDot xs L s q m k a).1
 | 0,_,_=>⟨by show 0≤8;omega,by show 0≤8;omega⟩
 | m+1,k,a=>by
  rw[kDot]
  split
  ·exact⟨by show 0≤8;omega,by show 1≤8;omega⟩
  ·split
   ·exact⟨by show 0≤8;omega,by show 1≤8;omega⟩
   ·exact c5m xs L s q m (k+1) (ta xs a 3)
theorem e5p {K:Int}{b q:Nat}{s:List Int}(hs:s.length≤4):Slim (kOp K xs b q s L).1:=by
 have z:∀ n,n≤8→n≤8:=fun _ h=>h
 unfold kOp
 split
 ·exact⟨z 0 (by omega),z 0 (by omega)⟩
 split
 ·exact⟨z 0 (by omega),z 0 (by omega)⟩
 split
 ·exact⟨z 0 (by omega),z 0 (by omega)⟩
 split
 ·exact⟨z 0 (by omega),z 0 (by omega)⟩
 split
 ·exact⟨z 0 (by omega),by show(b1q xs s.length 0 b []).1.length≤8;rw[c5p];simp;omega⟩
 split
 ·rw[kOp5]
  split
  ·exact⟨z 0 (by omega),z 0 (by omega)⟩
  ·refine⟨?_,?_⟩
   ·show(s.take (tv xs b (s.length+1)).toNat++[1+tv xs (ta xs b (s.length+1)) 4]++s.drop (tv xs b (s.length+1)).toNat).length≤8
    simp only[List.length_append,List.length_take,List.length_drop,List.length_singleton];omega
   ·show(kAx (tv xs b (s.length+1)).toNat (s.length+1) 0).length≤8
    have:=d6p (tv xs b (s.length+1)).toNat (s.length+1) 0;omega
 split
 ·have h:=c5k xs s b;exact⟨z 0 (by omega),by show((a5m xs s b).1.1++(a5m xs s b).1.2).length≤8;rw[List.length_append];omega⟩
 split
 ·have h:=c5o xs s.length b;exact⟨z 0 (by omega),by show((a5r xs s.length b).1.1++(a5r xs s.length b).1.2).length≤8;rw[List.length_append];omega⟩
 split
 ·rw[kOp8]
  split
  ·exact⟨z 0 (by omega),z 0 (by omega)⟩
  ·exact⟨z 0 (by omega),z 1 (by omega)⟩
 split
 ·have h:=c1e xs s.length 0 b;exact⟨z 0 (by omega),by show(a3a xs s.length 0 b).1.length≤8;omega⟩
 split
 ·exact c5m _ _ _ _ _ _ _
 ·rw[c5n]
  split
  ·exact⟨z 0 (by omega),z 0 (by omega)⟩
  ·exact⟨z 0 (by omega),z 3 (by omega)⟩
theorem d8r {a:Nat}(hL:∀ s∈L,s.length≤4):Slim (a7a xs a L).1:=by
 rw[a7a]
 split
 ·exact d1w _ _
 split
 ·exact d1w _ _
 ·refine e5p ?_;rw[gD]
  cases e:L[(tv xs (ta xs a 5) L.length).toNat]? with
  | none=>simp
  | some s=>exact hL s (mG e)
structure d4t (S:KS):Prop where
 nodes:∀ nd∈S.nodes,Slim nd
 shapes:∀ s∈S.shapes,s.length≤4
theorem d8s {nm:List Int}{sz:Nat}{S:KS}(g:d4t S):d4t (c5q xs sz nm S):=by
 obtain⟨N,L,a⟩:=S;obtain⟨g1,g2⟩:=g;have hn:=d8r (xs:=xs) (a:=a) g2;obtain⟨⟨nd,b⟩,hr⟩:∃ r,a7a xs a L=r:=⟨_,rfl⟩;obtain⟨⟨e,z⟩,hs⟩:∃ r,a1i nd (a2k L nd.ins)=r:=⟨_,rfl⟩;have hn' : Slim nd:=by rw[show nd=(a7a xs a L).1 by rw[hr]];exact hn
 by_cases hok:e=0∧Sh.size z≤400
 ·rw[b7y hr hs hok];obtain⟨he,_⟩:=hok;subst he;have hzr:Sh.right z=true:=by have:=b2s (nd:=nd) (L:=a2k L nd.ins);rw[hs] at this;exact this rfl
  have hz4:=(Sh.right_iff.1 hzr).1
  have hsh:∀ s∈L++[z],s.length≤4:=fun s h=>by
   rcases List.mem_append.1 h with h|h
   ·exact g2 s h
   ·rw[List.mem_singleton.1 h];exact hz4
  simp only[kPut]
  split
  ·refine⟨fun x h=>?_,hsh⟩;rcases List.mem_append.1 h with h|h
   ·exact g1 x h
   ·rw[List.mem_singleton.1 h];exact hn'
  ·refine⟨fun x h=>?_,hsh⟩;rcases List.mem_append.1 h with h|h
   ·exact g1 x h
   ·rw[List.mem_singleton.1 h];exact hn'
 ·rw[b1d hr hs hok];exact⟨g1,g2⟩
theorem d8q {xs nm:List Int}{sz:Nat}:∀(k:Nat) (S:KS),d4t S→d4t (kGo xs sz nm k S)
 | 0,_,g=>g
 | k+1,_,g=>d8q k _ (d8s g)
theorem b7f (xs:List Int):FewG 10 (a5d xs):=by
 obtain⟨nm,h⟩:=d2s xs;have hs:d4t (a9n xs):=d8q _ _ ⟨by simp,by simp⟩;refine⟨by have:=h.len;omega,by have:=(b7w xs 0).1;show(a6k xs 0).1.length≤10;omega,by have:=h.outs;omega,fun j nd hj=>?_⟩;have hm:=mG hj;have h1:=h.few nd hm;have h2:=hs.nodes nd hm;exact⟨by omega,by have:=h2.1;omega,by have:=h2.2;omega⟩
end Go.Proofs.YtdcmanhgekjhgaaGreatDoor
