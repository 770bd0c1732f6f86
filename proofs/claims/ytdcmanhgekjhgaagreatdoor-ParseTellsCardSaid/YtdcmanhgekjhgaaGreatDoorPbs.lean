import Derived.Test.YtdcmanhgekjhgaaGreatDoorPbr
set_option maxRecDepth 100000
set_option maxHeartbeats 12800000
namespace Go.Proofs.YtdcmanhgekjhgaaGreatDoor
open Go.RowKit Go.Proofs.Tryz
variable {S nm xs:List Int} {k:Nat} {nd:a0l} {w:World}
inductive d4u:List Int→Prop
 | nil:d4u []
 | snoc {S:List Int} {m:Int}:d4u S → -1≤m→m≤2→(m = -1∨m∉S)→d4u (S++[m])
theorem d4u.bd (h:d4u S):∀ x∈S,-1≤x∧x≤2:=by
 induction h with
 | nil=>simp
 | snoc _ h1 h2 _ ih=>intro x hx;simp at hx;rcases hx with hx|rfl;exact ih x hx;exact⟨h1,h2⟩
theorem b5p (nm:List Int):∀(l o m:List Int),a2v nm o (l++m)=(a2v nm o l).bind fun q=>a2v nm q m
 | [],o,m=>rfl
 | r::l,o,m=>by
  rw[List.cons_append,a2v,a2v]
  cases a2b nm o r with
  | none=>rfl
  | some q=>exact b5p nm l q m
structure NmOk (nm:List Int):Prop where
 rn:b6w nm nm.length
 bd:∀ r∈nm,r<55296
def svN (nm:List Int) (x:Int):Int:=if 0≤x∧x<nm.length then nm.getD x.toNat 0 else 46
theorem e4b {x:Int}(h:¬(0≤x∧x<nm.length)):svN nm x=46:=by rw[svN,iN h]
theorem d8x {j:Nat}{y:Int}(h:nm[j]?=some y):svN nm (j:Int)=y:=by
 have hj:=(lL h);rw[svN,iP ⟨by omega,by omega⟩,Int.toNat_natCast,gD,h];rfl
theorem e2y (nm:List Int)(x:Int):a7k nm x=Utf8.encode (svN nm x):=by
 by_cases h:0≤x∧x<nm.length
 ·rw[a7k,svN,iP h,iP h]
 ·rw[a7k,svN,iN h,iN h];kernel_rfl
theorem e3j (nm S:List Int):a3q nm S=runesBytes (S.map (svN nm)):=by
 have:∀(S:List Int) (o:ByteArray),S.foldl (fun o x=>o++a7k nm x) o=(S.map (svN nm)).foldl (fun r n=>r++Utf8.encode n) o:=by
  intro S
  induction S with
  | nil=>intro o;rfl
  | cons x S ih=>intro o;rw[List.foldl_cons,List.map_cons,List.foldl_cons,e2y,ih]
 exact this S _
theorem e6y (h:NmOk nm)(x:Int):0≤svN nm x∧svN nm x<55296:=by
 by_cases hx:0≤x∧x<nm.length
 ·obtain⟨j,rfl⟩:=eZ hx.1;obtain⟨y,hy⟩:∃ y,nm[j]?=some y:=gE (by omega);rw[d8x hy];have h1:=(h.rn.2.2.2 j y hy).1;have h2:=h.bd y (mG hy);unfold badR at h1;omega
 ·rw[e4b hx];omega
inductive c0a (k:Nat):List Int→Prop
 | nil:c0a k []
 | snoc {S:List Int} {m:Int}:c0a k S → -1≤m→m<k→(m = -1∨m∉S)→c0a k (S++[m])
theorem e3e {m:Int}(h:NmOk nm)(h1 : -1≤m)(h2:m<nm.length)(h3:m = -1∨m∉S):a2b nm S (svN nm m)=some (S++[m]):=by
 by_cases hm:m = -1
 ·subst hm;rw[e4b (by omega),a2b,iN (by decide),iP rfl]
 ·obtain⟨j,rfl⟩:=eZ (show 0≤m by omega);obtain⟨y,hy⟩:∃ y,nm[j]?=some y:=gE (by omega);rw[d8x hy];obtain⟨q1,q2⟩:=h.rn.2.2.2 j y hy;unfold badR at q1;rw[a2b,iN (by omega),iN (by omega),q2,iN (by omega),iN (h3.resolve_left hm)]
theorem d1k (h:NmOk nm)(hS:c0a nm.length S):a2v nm [] (S.map (svN nm))=some S:=by
 induction hS with
 | nil=>rfl
 | snoc _ h1 h2 h3 ih=>rw[List.map_append,b5p,ih,Option.bind_some];show(a2b _ _ _).bind _=_;rw[e3e h h1 h2 h3];rfl
theorem d3k (h:NmOk nm)(hS:c0a nm.length S)(hk:S.length=k)(h4:k≤4)(hn:nd.note=a3q nm S):b3i nm nd k=0:=by
 rw[b3i,hn,e3j,b9l _ (by intro r hr;obtain⟨x,_,rfl⟩:=List.mem_map.1 hr;exact e6y h x)];have hl:(S.map (svN nm)).length≤16:=by rw[List.length_map];omega
 by_cases he:S=[]
 ·rw[a3x hl (by rw[d1k h hS,he])]
 ·rw[a9c hl (d1k h hS) he (by omega)]
theorem d3j (hn:nd.note=⟨#[]⟩):b3i nm nd k=0:=by
 rw[b3i,hn,show a0a ⟨#[]⟩=[] from rfl,a3x (by simp) rfl]
theorem a8k {xs:List Int}{ns:Nat}:∀(m a:Nat) (used:List Bool) (acc:List Int),c0a ns acc→used.length=ns→(∀ j:Nat,j<ns→used.getD j true=false→(j:Int)∉acc)→c0a ns (acc++(a3b xs ns m a used).1)
 | 0,a,used,acc,h,_,_=>by rw[a3b,List.append_nil];exact h
 | m+1,a,used,acc,h,hl,hu=>by
  have hm:c0a ns (acc++[-1]):=h.snoc (by omega) (by omega) (.inl rfl)
  have hmu:∀ j:Nat,j<ns→used.getD j true=false→(j:Int)∉acc++[-1]:=fun j hj h1 h2=>by
   rcases List.mem_append.1 h2 with h2|h2
   ·exact hu j hj h1 h2
   ·rw[List.mem_singleton] at h2;omega
  unfold a3b
  split
  ·rename_i h0
   split
   ·have b0:=a0q xs (ta xs a 2) ns;have b1:=a4b xs (ta xs a 2) (show(0:Int)<ns by omega);obtain⟨q,hq⟩:=eZ b0;rw[hq] at b1 ⊢;rw[Int.toNat_natCast]
    split
    ·rename_i hf;rw[show acc++(q:Int)::_=(acc++[(q:Int)])++_ from by rw[List.append_assoc];rfl];refine a8k m _ _ _ (h.snoc (by omega) (by omega) (.inr (hu q (by omega) hf))) (by rw[List.length_set,hl]) fun j hj h1 h2=>?_
     have hne:j≠q:=fun e=>by
      subst e;rw[gD,List.getElem?_set_self (by omega)] at h1
      cases h1
     rw[gD,List.getElem?_set_ne (fun e=>hne e.symm),←gD] at h1;rcases List.mem_append.1 h2 with h2|h2
     ·exact hu j hj h1 h2
     ·simp at h2;omega
    ·rw[show acc++(-1:Int)::_=(acc++[-1])++_ from by rw[List.append_assoc];rfl];exact a8k m _ _ _ hm hl hmu
   ·rw[show acc++(-1:Int)::_=(acc++[-1])++_ from by rw[List.append_assoc];rfl];exact a8k m _ _ _ hm hl hmu
  ·rw[show acc++(-1:Int)::_=(acc++[-1])++_ from by rw[List.append_assoc];rfl];exact a8k m _ _ _ hm hl hmu
theorem e0y (ns m a:Nat):c0a ns (a3b xs ns m a (List.replicate ns false)).1:=by
 have:=a8k (xs:=xs) (ns:=ns) m a (List.replicate ns false) [] c0a.nil (by simp) (by simp);simpa using this
theorem d6z (xs:List Int)(a:Nat):∃ sz nm,a6k xs a=(sz,runesBytes nm)∧nm.length=sz.length∧sz.length≤3∧sz.all b2b=true∧Sh.pr sz≤8∧NmOk nm:=by
 have n0:NmOk []:=⟨⟨by decide,by decide,rfl,fun i x h=>by simp at h⟩,by simp⟩
 have n1:NmOk [120]:=⟨⟨by decide,by decide,rfl,fun i x h=>by
  match i,h with
  | 0,h=>simp at h;subst h;exact⟨by unfold badR;omega,rfl⟩
  | i+1,h=>simp at h⟩,by simp⟩
 have n2:NmOk [121,233]:=⟨⟨by decide,by decide,rfl,fun i x h=>by
  match i,h with
  | 0,h=>simp at h;subst h;exact⟨by unfold badR;omega,rfl⟩
  | 1,h=>simp at h;subst h;exact⟨by unfold badR;omega,rfl⟩
  | i+2,h=>simp at h⟩,by simp⟩
 have n3:NmOk [97,98,19990]:=⟨⟨by decide,by decide,rfl,fun i x h=>by
  match i,h with
  | 0,h=>simp at h;subst h;exact⟨by unfold badR;omega,rfl⟩
  | 1,h=>simp at h;subst h;exact⟨by unfold badR;omega,rfl⟩
  | 2,h=>simp at h;subst h;exact⟨by unfold badR;omega,rfl⟩
  | i+3,h=>simp at h⟩,by simp⟩
 have t0:(⟨#[]⟩:ByteArray)=runesBytes []:=by kernel_rfl
 have t1:(⟨#[120]⟩:ByteArray)=runesBytes [120]:=by kernel_rfl
 have t2:(⟨#[121,195,169]⟩:ByteArray)=runesBytes [121,233]:=by kernel_rfl
 have t3:(⟨#[97,98,228,184,150]⟩:ByteArray)=runesBytes [97,98,19990]:=by kernel_rfl
 have h1:=a0q xs a 10;have h2:=a4b xs a (show(0:Int)<10 by omega);obtain⟨q,hq⟩:=eZ h1;rw[hq] at h2;rw[a6k,hq,Int.toNat_natCast];have hc:q=0∨q=1∨q=2∨q=3∨q=4∨q=5∨q=6∨q=7∨q=8∨q=9:=by omega
 rcases hc with rfl|rfl|rfl|rfl|rfl|rfl|rfl|rfl|rfl|rfl
 ·exact⟨[2],[120],by rw[←t1];rfl,rfl,by decide,by decide,by decide,n1⟩
 ·exact⟨[3],[120],by rw[←t1];rfl,rfl,by decide,by decide,by decide,n1⟩
 ·exact⟨[2,2],[121,233],by rw[←t2];rfl,rfl,by decide,by decide,by decide,n2⟩
 ·exact⟨[4],[120],by rw[←t1];rfl,rfl,by decide,by decide,by decide,n1⟩
 ·exact⟨[2,3],[121,233],by rw[←t2];rfl,rfl,by decide,by decide,by decide,n2⟩
 ·exact⟨[],[],by rw[←t0];rfl,rfl,by decide,by decide,by decide,n0⟩
 ·exact⟨[2,2,2],[97,98,19990],by rw[←t3];rfl,rfl,by decide,by decide,by decide,n3⟩
 ·exact⟨[5],[120],by rw[←t1];rfl,rfl,by decide,by decide,by decide,n1⟩
 ·exact⟨[1,3],[121,233],by rw[←t2];rfl,rfl,by decide,by decide,by decide,n2⟩
 ·exact⟨[8],[120],by rw[←t1];rfl,rfl,by decide,by decide,by decide,n1⟩
theorem a7j (nm:List Int):∀(N M:List a0l) (acc L:List (List Int)),a0m nm acc N=(0,L)→a0m nm acc (N++M)=a0m nm L M
 | [],M,acc,L,h=>by
  have:acc=L:=by rw[a0m] at h;injection h
  subst this;rfl
 | nd::N,M,acc,L,h=>by
  rw[List.cons_append];unfold a0m at h
  conv=>lhs;unfold a0m
  split at h
  ·rename_i h1;rw[iP h1]
   split at h
   ·rename_i h2;rw[iP h2]
    split at h
    ·rename_i h3;rw[iP h3];exact a7j nm N M _ L h
    ·rename_i h3;injection h with h;exact absurd h h3
   ·rename_i h2;injection h with h;exact absurd h h2
  ·injection h with h;cases h
theorem b6b {L:List (List Int)}{z:List Int}(h1:b7q L nd.ins=true)(h2:a1i nd (a2k L nd.ins)=(0,z))(h3:b3i nm nd z.length=0):a0m nm L [nd]=(0,L++[z]):=by
 rw[a0m,iP h1,h2,iP rfl,iP h3,a0m]
theorem c6x (nd:a0l)(t:ByteArray)(L:List (List Int)):a1i (noted nd t) L=a1i nd L:=rfl
structure d9t (n:Nat) (nm:List Int) (S:KS):Prop where
 go:a0m nm [] S.nodes=(0,S.shapes)
 at_:S.at_≤n
 few:∀ nd∈S.nodes,nd.ins.length≤3
theorem d6g {n:Nat}{S:KS}(hx:xs.length=n)(h:NmOk nm)(g:d9t n nm S):d9t n nm (c5q xs nm.length nm S)∧(c5q xs nm.length nm S).nodes.length≤S.nodes.length+1:=by
 obtain⟨N,L,a⟩:=S;obtain⟨g1,g2,g3⟩:=g;have g1:a0m nm [] N=(0,L):=g1;have hm:=c5s (L:=L) hx g2;obtain⟨⟨nd,b⟩,hr⟩:∃ r,a7a xs a L=r:=⟨_,rfl⟩;have hr' : a7a xs a L=(nd,b):=hr;have hm' : b2e L.length n (nd,b):=by rw[←hr'];exact hm
 clear hm;obtain⟨⟨e,z⟩,hs⟩:∃ r,a1i nd (a2k L nd.ins)=r:=⟨_,rfl⟩;have hin:b7q L nd.ins=true:=b4j fun i x hi=>hm'.ins x (mG hi)
 by_cases hok:e=0∧Sh.size z≤400
 ·rw[b7y hr' hs hok];obtain⟨he,hz⟩:=hok;subst he;have hzr:Sh.right z=true:=by have:=b2s (nd:=nd) (L:=a2k L nd.ins);rw[hs] at this;exact this rfl
  have hz4:=(Sh.right_iff.1 hzr).1;simp only[kPut]
  split
  ·refine⟨⟨?_,?_,?_⟩,by simp⟩
   ·rw[a7j nm N _ [] L g1];exact b6b hin (by rw[c6x];exact hs) (d3k h (e0y nm.length z.length (ta xs b 3)) (a8z hx _ _ _ (a1p _ hx hm'.at_)).2 hz4 rfl)
   ·exact(a8z hx _ _ _ (a1p _ hx hm'.at_)).1
   ·intro x hx';rcases List.mem_append.1 hx' with hx' | hx'
    ·exact g3 x hx'
    ·rw[List.mem_singleton.1 hx'];exact hm'.few
  ·refine⟨⟨?_,?_,?_⟩,by simp⟩
   ·rw[a7j nm N _ [] L g1];exact b6b hin hs (d3j hm'.note)
   ·exact a1p _ hx hm'.at_
   ·intro x hx';rcases List.mem_append.1 hx' with hx' | hx'
    ·exact g3 x hx'
    ·rw[List.mem_singleton.1 hx'];exact hm'.few
 ·rw[b1d hr' hs hok];exact⟨⟨g1,hm'.at_,g3⟩,by simp⟩
theorem d6f {xs nm:List Int}{n:Nat}(hx:xs.length=n)(h:NmOk nm):∀(k:Nat) (S:KS),d9t n nm S→d9t n nm (kGo xs nm.length nm k S)∧(kGo xs nm.length nm k S).nodes.length≤S.nodes.length+k
 | 0,S,g=>⟨g,by simp[kGo]⟩
 | k+1,S,g=>by
  obtain⟨q1,q2⟩:=d6g hx h g;obtain⟨q3,q4⟩:=d6f hx h k _ q1;exact⟨q3,by rw[kGo];omega⟩
theorem d0x {xs:List Int}{m:Nat}:∀(k a:Nat),(b4l xs m k a).length≤k∧∀ x∈b4l xs m k a,0≤x∧x<(m:Int)
 | 0,a=>⟨by simp[b4l],by simp[b4l]⟩
 | k+1,a=>by
  obtain⟨q1,q2⟩:=d0x (xs:=xs) (m:=m) k (ta xs (ta xs a m) 2);rw[b4l]
  split
  ·exact⟨by simp,by simp⟩
  ·refine⟨by rw[List.length_cons];omega,fun x hx=>?_⟩;rcases List.mem_cons.1 hx with rfl|hx
   ·have h1:=a0q xs a m;have h2:=a4b xs a (show(0:Int)<(m:Int) by omega)
    split <;> omega
   ·exact q2 x hx
structure e5y (xs:List Int) (nm:List Int):Prop where
 names:(a5d xs).names=runesBytes nm
 ok:NmOk nm
 mesh:a7n (a5d xs)=true
 runes:a0a (a5d xs).names=nm
 go:a0m nm [] (a5d xs).nodes=(0,(a9n xs).shapes)
 few:∀ nd∈(a5d xs).nodes,nd.ins.length≤3
 len:(a5d xs).nodes.length≤9
 outs:(a5d xs).outs.length≤3
 outIn:∀ x∈(a5d xs).outs,0≤x∧x<((a9n xs).shapes.length:Int)
theorem d2s (xs:List Int):∃ nm,e5y xs nm:=by
 obtain⟨sz,nm,hM,hl,h3,hall,hpr,hnm⟩:=d6z xs 0
 have hrun:a0a (runesBytes nm)=nm:=b9l nm fun r hr=>by
  obtain⟨i,hi,e⟩:=List.getElem_of_mem hr;have h1:=(hnm.rn.2.2.2 i r (by rw[List.getElem?_eq_getElem hi,e])).1;have h2:=hnm.bd r hr;unfold badR at h1;omega
 have e1:a9n xs=kGo xs nm.length nm (1+tv xs (ta xs 0 10) 9).toNat ⟨[],[],ta xs (ta xs 0 10) 9⟩:=by
  rw[a9n,hM];simp only[];rw[hrun,hl]
 have hg:=d6f (xs:=xs) rfl hnm (1+tv xs (ta xs 0 10) 9).toNat ⟨[],[],ta xs (ta xs 0 10) 9⟩ ⟨rfl,a1p _ rfl (a1p _ rfl (Nat.zero_le _)),by simp⟩;rw[←e1] at hg;obtain⟨hg1,hg2⟩:=hg;have b0:=a0q xs (ta xs 0 10) 9;have b1:=a4b xs (ta xs 0 10) (show(0:Int)<9 by omega);have b2:=a0q xs (a9n xs).at_ 3;have b3:=a4b xs (a9n xs).at_ (show(0:Int)<3 by omega);obtain⟨o1,o2⟩:=d0x (xs:=xs) (m:=(a9n xs).shapes.length) (1+tv xs (a9n xs).at_ 3).toNat (ta xs (a9n xs).at_ 3);have hkn:(a5d xs).names=runesBytes nm:=by rw[a5d,hM]
 have hks:(a5d xs).sizes=sz:=by rw[a5d,hM]
 refine⟨nm,hkn,hnm,?_,by rw[hkn,hrun],hg1.go,hg1.few,?_,?_,o2⟩
 ·rw[c3d (by rw[hks];exact h3) (fun i x hi=>by
   rw[hks] at hi;have:=List.all_eq_true.1 hall x (mG hi)
   simpa [b2b] using this),hks,hkn,hrun,←hl,b1m hnm.rn]
  simpa using hpr
 ·have:(a5d xs).nodes.length=(a9n xs).nodes.length:=rfl;have h0:([]:List a0l).length=0:=rfl;simp only[List.length_nil] at hg2;omega
 ·have:(a5d xs).outs.length≤(1+tv xs (a9n xs).at_ 3).toNat:=o1;omega
theorem rn0:b6w [] 0:=⟨by decide,by decide,rfl,fun i x h=>by simp at h⟩
def e3t:a1d:=⟨[],⟨#[]⟩,[],[]⟩
theorem e7i (N:List a0l)(O:List Int):a7n ⟨[],⟨#[]⟩,N,O⟩=true:=by
 rw[c3d (by show 0≤3;omega) (fun i x h=>by simp at h)]
 show(decide (Sh.pr []≤8)&&a7v (a0a ⟨#[]⟩) 0)=true
 rw[show a0a ⟨#[]⟩=[] from rfl,b1m rn0];decide
theorem c9q:a0f e3t=(0,[]):=by
 rw[b2t (G:=e3t) (e7i _ _) ⟨by show 0≤48;omega,by show 0≤48;omega⟩ (l:=[]) rfl];rfl
theorem b7d:∀(f k:Nat),k≠0→k<10 ^ f→∃ b,(bl (digs f k)).head? = some b∧49≤b.toNat∧b.toNat≤57
 | 0,k,h0,h=>by simp at h;omega
 | f+1,k,h0,h=>by
  rw[digs,iN h0,a6x];by_cases hk:k / 10=0
  ·have hk9:k<10:=by omega
   have e:digs f (k / 10)=⟨#[]⟩:=by rw[hk];cases f <;> rfl
   rw[e];have hm:k % 10=k:=Nat.mod_eq_of_lt hk9;refine⟨UInt8.ofNat (48+k % 10),rfl,?_,?_⟩
   ·rw[UInt8.toNat_ofNat'];omega
   ·rw[UInt8.toNat_ofNat'];omega
  ·obtain⟨b,e1,e2⟩:=b7d f (k / 10) hk (by rw[Nat.pow_succ] at h;omega);refine⟨b,?_,e2⟩
   cases hd:bl (digs f (k / 10)) with
   | nil=>rw[hd] at e1;cases e1
   | cons x l=>rw[hd] at e1;exact e1
theorem d7o {n:Int}(h:Fits n):(n=0∧bl (numT n)=[48])∨(n<0∧∃ l b,bl (numT n)=45::l∧l.head? = some b∧49≤b.toNat∧b.toNat≤57)∨(0<n∧∃ b,(bl (numT n)).head? = some b∧49≤b.toNat∧b.toNat≤57):=by
 by_cases h0:n=0
 ·exact .inl ⟨h0,by subst h0;rfl⟩
 ·by_cases hn:n<0
  ·obtain⟨b,e⟩:=b7d 20 n.natAbs (by omega) (b8j h);refine .inr (.inl ⟨hn,bl (digs 20 n.natAbs),b,?_,e⟩);rw[numT,iN h0,iP hn,a6x];rfl
  ·obtain⟨b,e⟩:=b7d 20 n.natAbs (by omega) (b8j h);refine .inr (.inr ⟨by omega,b,?_⟩);rw[numT,iN h0,iN hn];exact e
theorem c7o {t:ByteArray}(ht:1≤t.size):a0t (⟨#[48]⟩++t)=(0,false):=a6g fun ⟨m,hm,e⟩=>by
 have e2:bl (numT m)=48::bl t:=by rw[e,a6x];rfl
 rcases d7o hm with ⟨_,h1⟩|⟨_,l,b,h1,_⟩|⟨_,b,h1,h2,_⟩
 ·rw[h1] at e2;injection e2 with _ e3
  have:=congrArg List.length e3;rw[a3w,List.length_nil] at this;omega
 ·rw[h1] at e2;injection e2 with e3 _;exact absurd e3 (by decide)
 ·rw[e2] at h1;injection h1 with h1;subst h1
  exact absurd h2 (by decide)
def c7i:ByteArray:=⟨#[109,101,115,104,32,45,10,111,117,116,115,10]⟩
theorem d3p:a2r c7i=(gZ,0):=by
 have hs:a0f gZ=(0,[]):=c9q
 have ht:a4f gZ=(c7i,0):=by
  have e:a3f gZ []=c7i:=by kernel_rfl
  rw[a9i (by rw[hs]) (by rw[hs];show ¬ 65536<(a3f gZ []).size;rw[e];decide),hs];exact congrArg (·, (0:Int)) e
 have h:=c1v (G:=gZ) ⟨fun x hx=>by simp[gZ] at hx,fun x hx=>by simp[gZ] at hx,fun x hx=>by simp[gZ] at hx⟩ ht;rw[h];have:b1w gZ=gZ:=rfl;rw[this]
theorem c9g:a2r ⟨#[]⟩=(gZ,12):=by
 unfold a2r;rw[iN (by decide),iP (.inr (by decide))]
theorem e3p:a0t ⟨#[45,55]⟩=(-7,true):=by
 rw[show(⟨#[45,55]⟩:ByteArray)=numT (-7) by kernel_rfl];exact a3s (n := -7) ⟨by omega,by omega⟩
theorem e3o:a0t ⟨#[48,49]⟩=(0,false):=c7o (t:=⟨#[49]⟩) (by decide)
theorem a7q (hT:Tabs w):Calls prog 11 #[] w fun e w'=>e=.returned (.bool true)∧Below w.heap.size w w':=by
 have HT:=Hd hT;have C1:=Hd (b1l (w:=w) c7i (by decide) hT);have C2:=Hd (fun (w' : World) (hb:Below w.heap.size w w')=>b1l (w:=w') ⟨#[]⟩ (by decide) (HT.below hb));have C3:=Hd (fun (w' : World) (hb:Below w.heap.size w w')=>a7e (w:=w') ⟨#[45,55]⟩ (by decide) (HT.below hb));have C4:=Hd (fun (w' : World) (hb:Below w.heap.size w w')=>a7e (w:=w') ⟨#[48,49]⟩ (by decide) (HT.below hb));have C5:=Hd (fun w' : World=>b4t w' ⟨#[97,32,32,98]⟩ (by decide));have C6:=Hd (fun w' : World=>b4t w' ⟨#[]⟩ (by decide));rw[d3p] at C1;rw[c9g] at C2;rw[e3p] at C3;rw[e3o] at C4;simp only[c7i] at C1;clear hT
 go_enter func11,ntmps11
 go_wp2_with fail
 refine C1.mono ?_;rintro e1 w1 ⟨v1,rfl,hG1,_,hb1⟩;obtain⟨A1,na1,ca1,B1,nb1,cb1,D1,nc1,cc1,rfl,hL1⟩:=hG1;obtain rfl:nb1=0:=hL1.inB.1.symm;have h2:=((Sep.nil w).below hb1).allocBox w1.heap.size 28 [.slice A1 na1 ca1,.string gZ.names,.slice B1 0 cb1,.slice D1 nc1 cc1] rfl;clear hL1 hb1 C1
 go_upto_region 2 with fail
 generalize w1.alloc (.cells #[.slice A1 na1 ca1,.string gZ.names,.slice B1 0 cb1,.slice D1 nc1 cc1] 28)=w2 at *;have H:=Hd h2;clear h2
 go_wp2_with fail
 refine(C2 w2 H.base).mono ?_;rintro e2 w3 ⟨v2,rfl,hG2,_,hb2⟩;obtain⟨A2,na2,ca2,B2,nb2,cb2,D2,nc2,cc2,rfl,hL2⟩:=hG2;have h4:=(H.below hb2).allocBox w3.heap.size 28 [.slice A2 na2 ca2,.string gZ.names,.slice B2 nb2 cb2,.slice D2 nc2 cc2] rfl;clear hL2 hb2 C2
 go_upto_region 3 with fail
 generalize w3.alloc (.cells #[.slice A2 na2 ca2,.string gZ.names,.slice B2 nb2 cb2,.slice D2 nc2 cc2] 28)=w4 at *;replace H:=Hd h4;clear h4
 go_wp2_with fail
 refine(C3 w4 H.base).mono ?_;rintro e3 w5 ⟨rfl,hb3⟩;replace H:=Hd (H.below hb3);clear hb3 C3
 go_wp2_with fail
 refine(C4 w5 H.base).mono ?_;rintro e4 w6 ⟨rfl,hb4⟩;replace H:=Hd (H.below hb4);clear hb4 C4;have g2:=H.c 1 2
 go_wp2_with fail
 refine(C5 w6).mono ?_;rintro e5 w7 ⟨A5,n5,c5,K5,rfl,hc5,hS5,hb5⟩;have hn5:n5=3:=hS5.1.symm;replace H:=Hd (H.below hb5);clear hS5 hb5 C5 g2;subst hn5
 go_wp2_with fail
 refine(C6 w7).mono ?_;rintro e6 w8 ⟨A6,n6,c6,K6,rfl,hc6,hS6,hb6⟩;have hn6:n6=1:=hS6.1.symm;replace H:=Hd (H.below hb6);clear hS6 hb6 C6;subst hn6;go_wp2;go_ret;exact⟨rfl,H.base⟩
theorem c1w (nm:List Int):∀(N:List a0l) (L:List (List Int)),N.length=L.length→(a4j nm N L).length=N.length
 | [],[],_=>rfl
 | nd::N,s::L,h=>by rw[a4j];simp only[List.length_cons] at h ⊢;rw[c1w nm N L (by omega)]
 | [],_::_,h=>by simp at h
 | _::_,[],h=>by simp at h
theorem c6g {nm:List Int}:∀ {N:List a0l} {L:List (List Int)} {k:Nat} {nd:a0l} {s:List Int},N[k]?=some nd→L[k]?=some s→(a4j nm N L)[k]?=some (b8w nm nd s)
 | nd::N,s::L,0,_,_,h1,h2=>by simp at h1 h2;subst h1 h2;rfl
 | nd::N,s::L,k+1,_,_,h1,h2=>by
  rw[a4j];have:=c6g (nm:=nm) (N:=N) (L:=L) (k:=k) (by simpa using h1) (by simpa using h2)
  simpa using this
 | [],_,_,_,_,h1,_=>by simp at h1
 | _::_,[],_,_,_,_,h2=>by simp at h2
theorem c0f (nm:List Int)(t:ByteArray)(r:Int):(unD (a4o nm t r)).size≤64:=by
 unfold unD;split
 ·exact Nat.zero_le _
 ·exact b4s nm t r
theorem c0n {v:Value}{G:a1d}{q:Nat}(h:a1m w v G)(hF:FewG q G)(h0:(a0f G).1=0)(hq:q≤80000:=by omega):
  Calls prog 16 #[v] w fun e w'=>(∃ u,e=.returned u∧a1m w' u (b1w G))∧Below w.heap.size w w':=by
 have HG:=h;obtain⟨A,na,ca,B,nb,cb,C,nc,cc,rfl,hL⟩:=h;replace HG:=Hd HG;have HL:=Hd hL;have HF:=Hd hF;have hnb:nb≤80000:=by have:=hF.nodes;have:=hL.inB.1;omega
 have h1:=((Sep.nil w).allocBox w.heap.size 28 [.slice A na ca,.string G.names,.slice B nb cb,.slice C nc cc] rfl).allocBox (w.heap.size+1) 28 zG (by simp);clear hL hF
 go_enter func16,ntmps16
 go_upto_region 1 with fail
 generalize (w.alloc (.cells #[.slice A na ca,.string G.names,.slice B nb cb,.slice C nc cc] 28)).alloc (.cells zH 28)=W at *;obtain⟨gG,hgG⟩:∃ g,w.heap.size=g:=⟨_,rfl⟩;rw[hgG] at h1 ⊢;have H:=Hd h1;clear h1 hgG;obtain⟨g0,g1,g2,g3⟩:=H.cells4 1 rfl;obtain⟨L,hLs⟩:∃ L,(a0f G).2=L:=⟨_,rfl⟩;have he:a0f G=(0,L):=Prod.ext h0 hLs;have hll:L.length=G.nodes.length:=by have:=(b0p h0).2;rw[hLs] at this;exact this
 have HLS:=Hd hLs;have C2:=a7f (w:=W) (v:=.agg #[.slice A na ca,.string G.names,.slice B nb cb,.slice C nc cc]) (G:=G) (HG.below H.base) (fun j nd hj=>Nat.le_trans (HF.small j nd hj) hq);rw[he] at C2;have HC2:=Hd C2;have HLL:=Hd (show L.length=nb by rw[hll];exact HL.inB.1);clear C2 he hLs h0 hll
 go_wp2_with fail
 refine HC2.mono ?_;rintro e2 w2 ⟨⟨A2,m2,c2,rfl,hc2,hL2⟩,hb2⟩;replace H:=Hd (H.below hb2);have hm2:nb=m2:=by rw[←HLL.out];exact hL2.1
 subst hm2;have HL2:=Hd hL2;clear hb2 hL2 HC2 g0 g1 g2 g3;obtain⟨g0,g1,g2,g3⟩:=H.cells4 1 rfl;have h3:=(Sep.nil w2).allocBox w2.heap.size 28 [.slice A na ca,.string G.names,.slice B nb cb,.slice C nc cc] rfl;have HRG:=Hd (show gG+1<w2.heap.size from(H.blockLt 0 rfl).2);have H0:=Hd H;clear H
 go_upto_region 3 with fail
 generalize w2.alloc (.cells #[.slice A na ca,.string G.names,.slice B nb cb,.slice C nc cc] 28)=w3 at *;obtain⟨gW,hgW⟩:∃ g,w2.heap.size=g:=⟨_,rfl⟩;rw[hgW] at h3 HRG ⊢;have HGW:=Hd hgW;have H:=Hd h3;clear h3 hgW g0 g1 g2 g3;have k2:=H.c 0 2;have fk2:=H.frozenBox 0 2 rfl;have h4:=H.setBox 0 2 (.slice none 0 0) rfl
 go_upto_region 4 with fail
 generalize w3.setCell ⟨gW,2,none⟩ (.slice none 0 0)=w4 at *;replace H:=Hd ((show Sep w2 w4 [.box gW 28 [.slice A na ca,.string G.names,.slice none 0 0,.slice C nc cc]] from h4).addRowNil 49 7);clear h4 k2 fk2;have g2:=(H0.below H.base).c 1 2
 go_wp2_with fail
 go_loopw [18] (fun iv wr=>∃(k:Nat) (us:List Value) (vN:Value),iv=.int .i64 k∧k≤nb∧NodK w us ((a4j (a0a G.names) G.nodes L).take k)∧Sep w2 wr [.row 49 7 vN k us,.box gW 28 [.slice A na ca,.string G.names,vN,.slice C nc cc]]) (fun iv _=>nb-(intOf iv).toNat)
 case atStart=>exact⟨0,[],_,rfl,by omega,d1i _,H⟩
 case round =>
  clear H g2;obtain⟨k,us,vN,rfl,hk,hK,hS⟩:=hrel;have H:=Hd hS;have HK:=Hd hK;clear hS hK;by_cases hlt:k<nb
  ·obtain⟨nd,hnd⟩:∃ nd,G.nodes[k]?=some nd:=gE (by have:=HL.inB.1;omega);obtain⟨s,hs⟩:∃ s,L[k]?=some s:=gE (by have:=HLL.out;omega);obtain⟨la,S,ns,cs,D,nD,cD,E,ne,ce,hla,hlb,d0,d1,d2,d3,d4,d5,d6,hNL⟩:=HL.inB.2.2 k nd hnd;subst hla;have HBW:=Hd (a1c H0.base H.base);have c0:=kC HBW d0;have c1:=kC HBW d1;have c2:=kC HBW d2;have c3:=kC HBW d3;have c4:=kC HBW d4;have c5:=kC HBW d5;have c6:=kC HBW d6;have HPL:=Hd (c6g (nm:=a0a G.names) hnd hs);have HNL:=Hd hNL;have HS:=Hd hs;clear d0 d1 d2 d3 d4 d5 d6 hNL hnd hs hlb;have h5:=H.allocBox wr.heap.size 49 [.int .i64 nd.op,.slice S ns cs,.slice D nD cD,.slice E ne ce,.int .i64 nd.n,.int .i64 nd.how,.string nd.note] rfl
   go_upto_region 7 with fail
   generalize wr.alloc (.cells #[.int .i64 nd.op,.slice S ns cs,.slice D nD cD,.slice E ne ce,.int .i64 nd.n,.int .i64 nd.how,.string nd.note] 49)=w5 at *;obtain⟨gn,hgn⟩:∃ g,wr.heap.size=g:=⟨_,rfl⟩;rw[hgn] at h5 ⊢;replace H:=Hd h5;clear h5 hgn c0 c1 c2 c3 c4 c5 c6 HBW;have d9:decide ((k:Int)<(nb:Int))=true:=decide_eq_true (by omega)
   go_upto_region 8 with fail
   have HD:=Hd H.drew;have HO:=Hd (H0.below HD.base);obtain⟨gg0,gg1,gg2,gg3⟩:=HO.cells4 1 rfl;obtain⟨a2,B9,m9,c9,hA2,hab2,ck0,hmc9,hI9⟩:=HL2.out.2.2 k s HS;subst hA2;have HS9:=Hd (show s.length=m9 from hI9.len);have HCK:=Hd ck0;have ck:=kC HD.base ck0;clear ck0;obtain⟨n0,n1,n2,n3,n4,n5,n6⟩:=HD.cells7 0 rfl;have CN:=b3n (HG.below HO.base) (u:=.agg #[.int .i64 nd.op,.slice S ns cs,.slice D nD cD,.slice E ne ce,.int .i64 nd.n,.int .i64 nd.how,.string nd.note]) (nd:=nd) ⟨_,_,_,_,_,_,_,_,_,rfl,HNL.below HO.base⟩ (m9:Int);obtain⟨T9,hT9⟩:∃ T,a4o (a0a G.names) nd.note (m9:Int)=T:=⟨_,rfl⟩;rw[hT9] at CN;have HT9:=Hd hT9;have HCN:=Hd CN;clear CN hT9 hab2 hmc9 hI9;refine wp_region_held_drew (S:=(fun w'=>w'.cell? ⟨gG,0,none⟩=some (.slice A na ca)∧w'.cell? ⟨gG,1,none⟩=some (.string G.names)∧w'.cell? ⟨gG,2,none⟩=some (.slice (some la) nb cb)∧w'.cell? ⟨gG,3,none⟩=some (.slice C nc cc)∧w'.cell? (a2.add k)=some (.slice B9 m9 c9))) (by kernel_rfl) ?_ (fun hq_=>?_)
   ·exact⟨gg0,gg1,gg2,gg3,ck⟩
   refine zV 0 hq_ ?_;refine zV 2 hq_ ?_;refine zV 3 hq_ ?_;refine zV 4 hq_ ?_;refine zV 5 hq_ ?_;refine zV 6 hq_ ?_;refine e1 1 fun K hK=>?_
   (skip)
   go_simp;(try go_wp2_with fail);refine zX hK (fun hq_=>?_) ⟨gg0,gg1,gg2,gg3,ck⟩;refine e1 7 fun K hK=>?_
   first|(refine effU ?_ ?_;(focus rfl))|(go_simp;(go_at_call 21;refine HCN.mono ?_;rintro e7 w7 ⟨rfl,hb7⟩;have H7:=Hd (HD.below hb7);have y0:=kC hb7 gg0;have y1:=kC hb7 gg1;have y2:=kC hb7 gg2;have y3:=kC hb7 gg3;have yk:=kC hb7 ck;clear hb7);go_wp2_with fail)
   refine zX hK (fun hq_=>?_) ⟨y0,y1,y2,y3,yk⟩;refine zV 8 hq_ ?_;refine e1 9 fun K hK=>?_;(have fx:=H7.frozenBox 0 6 rfl;have cx:=H7.c 0 6;have HX:=Hd (H7.setBox 0 6 (.string T9) rfl);have HO9:=Hd (H0.below HX.base);have yk9:=kC HX.base HCK);go_simp;(try go_wp2_with fail);refine zX hK (fun hq_=>?_) ⟨HO9.c 1 0,HO9.c 1 1,HO9.c 1 2,HO9.c 1 3,yk9⟩;refine dN ?_;replace H:=Hd (show Sep w2 _ [.box gn 49 [.int .i64 nd.op,.slice S ns cs,.slice D nD cD,.slice E ne ce,.int .i64 nd.n,.int .i64 nd.how,.string T9],.row 49 7 vN k us,.box gW 28 [.slice A na ca,.string G.names,vN,.slice C nc cc]] from HX);clear HX gg0 gg1 gg2 gg3 ck n0 n1 n2 n3 n4 n5 n6 HD HO H7 fx cx y0 y1 y2 y3 yk HCN;generalize w7.setCell ⟨gn,6,none⟩ (.string T9)=w8 at *;obtain⟨nt2,hnt2⟩:∃ x,(if T9=a4d then⟨#[]⟩ else T9)=x:=⟨_,rfl⟩;have HU:=Hd (show unD (a4o (a0a G.names) nd.note s.length)=nt2 by rw[HS9.out,HT9.out];exact hnt2);have k6:=H.c 0 6;have f6:=H.frozenBox 0 6 rfl
   go_upto_if 38 with fail
   go_cut [] (fun wx=>Sep w2 wx [.box gn 49 [.int .i64 nd.op,.slice S ns cs,.slice D nD cD,.slice E ne ce,.int .i64 nd.n,.int .i64 nd.how,.string nt2],.row 49 7 vN k us,.box gW 28 [.slice A na ca,.string G.names,vN,.slice C nc cc]])
   case first =>
    by_cases he:T9=a4d
    ·obtain rfl:nt2=⟨#[]⟩:=by rw[←hnt2,iP he]
     have e0:(T9.toList==[45])=true:=by rw[eqL.2 (show T9=ofL [45] from he)];rfl
     clear hnt2 he;have h7:=H.setBox 0 6 (.string ⟨#[]⟩) rfl;have HH:=Hd h7;clear h7;rw[e0]
     go_wp2_with fail
     go_meet;exact HH
    ·obtain rfl:nt2=T9:=by rw[←hnt2,iN he]
     have e0:(nt2.toList==[45])=false:=by simpa using (fun e=>he (eqL.1 e):¬ nt2.toList=[45])
     clear hnt2 he;rw[e0]
     go_wp2_with fail
     go_meet;exact H
   case rest =>
    have hS:=hcut;replace H:=Hd hS;clear hS hcut k6 f6 hnt2;have k2:=H.c 2 2;obtain⟨x0,x1,x2,x3,x4,x5,x6⟩:=H.cells7 0 rfl
    go_wp2_with (at_builtin;refine a2o rfl (.tmp 41) (.tmp 43) 26 rfl underlying26 H.out 1 rfl rfl _ rfl rfl rfl rfl rfl rfl rfl rfl ?c1 ?_)
    case c1=>omega
    intro vN2 w9 h9;obtain⟨gN,cN,hv,hcN⟩:=h9.rowForm 1 rfl (by omega);subst hv;have H9:=Hd h9;clear h9 k2 x0 x1 x2 x3 x4 x5 x6;have fg:=H9.frozenBox 2 2 rfl;have cg:=H9.c 2 2;have H10:=Hd (show Sep w2 _ [.row 49 7 (.slice (some ⟨gN,0,none⟩) (k+1) cN) (k+1) (us++[.int .i64 nd.op,.slice S ns cs,.slice D nD cD,.slice E ne ce,.int .i64 nd.n,.int .i64 nd.how,.string nt2]),.box gW 28 [.slice A na ca,.string G.names,.slice (some ⟨gN,0,none⟩) (k+1) cN,.slice C nc cc]] from(H9.setBox 2 2 (.slice (some ⟨gN,0,none⟩) (k+1) cN) rfl).tail_);have HN1:=Hd (show NodK w [.int .i64 nd.op,.slice S ns cs,.slice D nD cD,.slice E ne ce,.int .i64 nd.n,.int .i64 nd.how,.string nt2] [b8w (a0a G.names) nd s] by rw[←HU.out];exact c3g (nd:=b8w (a0a G.names) nd s) ⟨HNL.ia,HNL.ib,HNL.ic,HNL.inA,HNL.inB,HNL.inC,HNL.op,HNL.n,HNL.how,Nat.le_trans (c0f _ _ _) (by omega)⟩);go_wp2;go_roundw
    case rel=>exact⟨k+1,us++[.int .i64 nd.op,.slice S ns cs,.slice D nD cD,.slice E ne ce,.int .i64 nd.n,.int .i64 nd.how,.string nt2],_,by go_num,by omega,by rw[List.take_add_one,HPL.out];exact HK.append HN1,H10.out⟩
    case measure=>simp[intOf];omega
  ·have hkn:nb=k:=by omega
   subst hkn;have HPLL:=Hd (show(a4j (a0a G.names) G.nodes L).length=nb by rw[c1w _ _ _ (by rw[HLL.out];exact HL.inB.1)];exact HL.inB.1);have HK2:=Hd (show NodK w us (a4j (a0a G.names) G.nodes L) by have h:=HK.out;rwa [List.take_of_length_le (by rw[HPLL.out];omega)] at h);obtain⟨An,cn,hv,hcn,_⟩:=b3q 0 H rfl (HK2.below (a1c H0.base H.base)) HPLL (by omega);subst hv;replace H0:=Hd (H0.below H.base);obtain⟨r0,r1,r2,r3⟩:=H0.z4 0 rfl;obtain⟨fr0,fr1,fr2,fr3⟩:=H0.f4 0 rfl;obtain⟨g0,g1,g2,g3⟩:=H.cells4 1 rfl
   go_wp2_with fail
   refine a7g (H0.set4 0 rfl _ _ _ _) 0 rfl results16 rfl rfl ?_;have h14:=Sep.both4 H (g:=gG+1) (by rw[HGW.out];exact HRG) (by intro c hc;simp only[List.mem_cons,List.not_mem_nil,or_false] at hc;rcases hc with rfl|rfl <;> exact True.intro) (.slice A na ca) (.string G.names) (.slice An nb cn) (.slice C nc cc)
   have hb:=(H0.set4 0 rfl (.slice A na ca) (.string G.names) (.slice An nb cn) (.slice C nc cc)).base;obtain⟨An2,cn2,hv,hcn2,hNi⟩:=b3q 0 h14 rfl (HK2.below hb) HPLL (by omega);injection hv with e1 e2 e3
   subst e1 e3;refine⟨⟨_,rfl,?_⟩,hb⟩;have hL:=HL.below hb
   show a1m _ _ (⟨G.sizes,G.names,a4j (a0a G.names) G.nodes (a0f G).2,G.outs⟩:a1d)
   rw[HLS.out];exact⟨_,_,_,_,_,_,_,_,_,rfl,⟨hL.ia,hcn2,hL.ic,hL.inA,hNi,hL.inC,hL.names⟩⟩
end Go.Proofs.YtdcmanhgekjhgaaGreatDoor
