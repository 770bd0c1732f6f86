import Derived.Lib.TrimUEq
import Derived.Test.YtjblengklgkgfaaGreatPbu
set_option maxRecDepth 100000
set_option maxHeartbeats 12800000
namespace Go.Proofs.YtjblengklgkgfaaGreat
open Go.RowKit Go.Proofs.Tryz
variable {N:List a0s} {P:TL} {S nm xs:List Int} {j k n:Nat} {nd:a0s} {x:Int}
theorem d1o (n:Nat)(h:n<256):(UInt8.ofNat n).toNat=n:=by simp;omega
theorem e0f (r:Nat)(hr:r<55296)(t:List UInt8):Lib.decodeL ((Utf8.encode (r:Int)).data.toList++t)=(r,(Utf8.encode (r:Int)).size):=by
 have hv:Utf8.valid (r:Int)=true:=by simp[Utf8.valid];omega
 rw[Lib.decodeL_N];unfold Utf8.encode;simp only[hv,if_true,Int.toNat_natCast];by_cases h1:r<128
 ·simp only[h1,if_true];simp only[List.cons_append,List.nil_append,List.getD_cons_zero,List.getD_cons_succ];rw[d1o r (by omega),Lib.decodeN,iP (by omega)]
  rfl
 ·by_cases h2:r<2048
  ·simp only[h1,h2,if_true,if_false];simp only[List.cons_append,List.nil_append,List.getD_cons_zero,List.getD_cons_succ,List.length_cons];rw[d1o (192+r / 64) (by omega),d1o (128+r % 64) (by omega),Lib.decodeN,iN (by omega),iP ⟨by omega,by omega,by omega⟩,iP (by omega)];exact Prod.ext (show(192+r / 64) % 32*64+(128+r % 64) % 64=r by omega) rfl
  ·simp only[h1,h2,show r<65536 from by omega,if_true,if_false];simp only[List.cons_append,List.nil_append,List.getD_cons_zero,List.getD_cons_succ,List.length_cons];rw[d1o (224+r / 4096) (by omega),d1o (128+r / 64 % 64) (by omega),d1o (128+r % 64) (by omega),Lib.decodeN,iN (by omega),iN (by omega),iP ⟨by omega,⟨by omega,by omega⟩,by omega,by omega⟩,iP ⟨by omega,by omega⟩];exact Prod.ext (show(224+r / 4096) % 16*4096+(128+r / 64 % 64) % 64*64+(128+r % 64) % 64=r by omega) rfl
theorem e0o (r:Int):1≤(Utf8.encode r).size:=by
 unfold Utf8.encode;simp only
 repeat' split
 all_goals simp[ByteArray.size]
theorem toL (s:ByteArray):s.data.toList.length=s.size:=Array.length_toList
theorem e0k (r:Nat)(hr:r<55296)(p q:ByteArray):Utf8.decode (p++(Utf8.encode (r:Int)++q)) p.size=(r,(Utf8.encode (r:Int)).size):=by
 rw[←Lib.decodeL_drop]
 have:(p++(Utf8.encode (r:Int)++q)).data.toList.drop p.size=(Utf8.encode (r:Int)).data.toList++q.data.toList:=by
  simp only[ByteArray.data_append,Array.toList_append];rw[←toL p,List.drop_left]
 rw[this,e0f r hr]
theorem d1d (r:Int)(l:List Int):runesBytes (r::l)=Utf8.encode r++runesBytes l:=by
 have:∀(l:List Int) (a b:ByteArray),l.foldl (fun r n=>r++Utf8.encode n) (a++b)=a++l.foldl (fun r n=>r++Utf8.encode n) b:=by
  intro l
  induction l with
  | nil=>intro a b;rfl
  | cons x l ih=>intro a b;rw[List.foldl_cons,List.foldl_cons,ByteArray.append_assoc,ih]
 have h:=this l (Utf8.encode r) ByteArray.empty;rw[ByteArray.append_empty] at h;rw[runesBytes,List.foldl_cons,ByteArray.empty_append,h];rfl
theorem d6e (l:List Int)(hl:∀ r∈l,0≤r∧r<55296):∀(p:ByteArray) (b:Nat),(runesBytes l).size≤b→a2u (p++runesBytes l) b p.size=l:=by
 induction l with
 | nil =>
  intro p b _;have h0:runesBytes []=ByteArray.empty:=rfl;rw[h0,ByteArray.append_empty]
  cases b with
  | zero=>rfl
  | succ b=>rw[a2u,iN (by omega)]
 | cons r l ih =>
  intro p b hb;obtain⟨h0,h1⟩:=hl r (by simp);obtain⟨r,rfl⟩:=eZ h0;rw[d1d] at hb ⊢;rw[ByteArray.size_append] at hb;have hp:=e0o (r:Int)
  cases b with
  | zero=>omega
  | succ b =>
   rw[a2u,iP (by rw[ByteArray.size_append,ByteArray.size_append];omega),e0k r (by omega)];have:=ih (fun x hx=>hl x (by simp[hx])) (p++Utf8.encode (r:Int)) b (by omega);rw[ByteArray.size_append,ByteArray.append_assoc] at this;rw[this]
theorem b9i (l:List Int)(hl:∀ r∈l,0≤r∧r<55296):a0k (runesBytes l)=l:=by
 have:=d6e l hl ByteArray.empty (runesBytes l).size (Nat.le_refl _);rw[ByteArray.empty_append] at this;exact this
inductive d5d:List Int→Prop
 | nil:d5d []
 | snoc {S:List Int} {m:Int}:d5d S → -1≤m→m≤2→(m = -1∨m∉S)→d5d (S++[m])
theorem d5d.bd (h:d5d S):∀ x∈S,-1≤x∧x≤2:=by
 induction h with
 | nil=>simp
 | snoc _ h1 h2 _ ih=>intro x hx;simp at hx;rcases hx with hx|rfl;exact ih x hx;exact⟨h1,h2⟩
theorem b6d (nm:List Int):∀(l o m:List Int),a5e nm o (l++m)=(a5e nm o l).bind fun q=>a5e nm q m
 | [],o,m=>rfl
 | r::l,o,m=>by
  rw[List.cons_append,a5e,a5e]
  cases a5y nm o r with
  | none=>rfl
  | some q=>exact b6d nm l q m
structure NmOk (nm:List Int):Prop where
 rn:c4x nm nm.length
 bd:∀ r∈nm,r<55296
def svN (nm:List Int) (x:Int):Int:=if 0≤x∧x<nm.length then nm.getD x.toNat 0 else 46
theorem d9z (h:¬(0≤x∧x<nm.length)):svN nm x=46:=by rw[svN,iN h]
theorem d4j {y:Int}(h:nm[j]?=some y):svN nm (j:Int)=y:=by
 have hj:=(lL h);rw[svN,iP ⟨by omega,by omega⟩,Int.toNat_natCast,gD,h];rfl
theorem d8i (nm:List Int)(x:Int):b4a nm x=Utf8.encode (svN nm x):=by
 by_cases h:0≤x∧x<nm.length
 ·rw[b4a,svN,iP h,iP h]
 ·rw[b4a,svN,iN h,iN h];kernel_rfl
theorem d6v (nm S:List Int):b2f nm S=runesBytes (S.map (svN nm)):=by
 have:∀(S:List Int) (o:ByteArray),S.foldl (fun o x=>o++b4a nm x) o=(S.map (svN nm)).foldl (fun r n=>r++Utf8.encode n) o:=by
  intro S
  induction S with
  | nil=>intro o;rfl
  | cons x S ih=>intro o;rw[List.foldl_cons,List.map_cons,List.foldl_cons,d8i,ih]
 exact this S _
theorem e2i (h:NmOk nm)(x:Int):0≤svN nm x∧svN nm x<55296:=by
 by_cases hx:0≤x∧x<nm.length
 ·obtain⟨j,rfl⟩:=eZ hx.1;obtain⟨y,hy⟩:∃ y,nm[j]?=some y:=gE (by omega);rw[d4j hy];have h1:=(h.rn.2.2.2 j y hy).1;have h2:=h.bd y (mG hy);unfold badR at h1;omega
 ·rw[d9z hx];omega
inductive c0b (k:Nat):List Int→Prop
 | nil:c0b k []
 | snoc {S:List Int} {m:Int}:c0b k S → -1≤m→m<k→(m = -1∨m∉S)→c0b k (S++[m])
theorem d7n {m:Int}(h:NmOk nm)(h1 : -1≤m)(h2:m<nm.length)(h3:m = -1∨m∉S):a5y nm S (svN nm m)=some (S++[m]):=by
 by_cases hm:m = -1
 ·subst hm;rw[d9z (by omega),a5y,iN (by decide),iP rfl]
 ·obtain⟨j,rfl⟩:=eZ (show 0≤m by omega);obtain⟨y,hy⟩:∃ y,nm[j]?=some y:=gE (by omega);rw[d4j hy];obtain⟨q1,q2⟩:=h.rn.2.2.2 j y hy;unfold badR at q1;rw[a5y,iN (by omega),iN (by omega),q2,iN (by omega),iN (h3.resolve_left hm)]
theorem c8z (h:NmOk nm)(hS:c0b nm.length S):a5e nm [] (S.map (svN nm))=some S:=by
 induction hS with
 | nil=>rfl
 | snoc _ h1 h2 h3 ih=>rw[List.map_append,b6d,ih,Option.bind_some];show(a5y _ _ _).bind _=_;rw[d7n h h1 h2 h3];rfl
theorem d1b (h:NmOk nm)(hS:c0b nm.length S)(hk:S.length=k)(h4:k≤4)(hn:nd.note=b2f nm S):b5r nm nd k=0:=by
 rw[b5r,hn,d6v,b9i _ (by intro r hr;obtain⟨x,_,rfl⟩:=List.mem_map.1 hr;exact e2i h x)];have hl:(S.map (svN nm)).length≤16:=by rw[List.length_map];omega
 by_cases he:S=[]
 ·rw[b0b hl (by rw[c8z h hS,he])]
 ·rw[c2x hl (c8z h hS) he (by omega)]
theorem a9e (hn:nd.note=⟨#[]⟩):b5r nm nd k=0:=by
 rw[b5r,hn,show a0k ⟨#[]⟩=[] from rfl,b0b (by simp) rfl]
theorem a8m {xs:List Int}{ns:Nat}:∀(m a:Nat) (used:List Bool) (acc:List Int),c0b ns acc→used.length=ns→(∀ j:Nat,j<ns→used.getD j true=false→(j:Int)∉acc)→c0b ns (acc++(a3q xs ns m a used).1)
 | 0,a,used,acc,h,_,_=>by rw[a3q,List.append_nil];exact h
 | m+1,a,used,acc,h,hl,hu=>by
  have hm:c0b ns (acc++[-1]):=h.snoc (by omega) (by omega) (.inl rfl)
  have hmu:∀ j:Nat,j<ns→used.getD j true=false→(j:Int)∉acc++[-1]:=fun j hj h1 h2=>by
   rcases List.mem_append.1 h2 with h2|h2
   ·exact hu j hj h1 h2
   ·rw[List.mem_singleton] at h2;omega
  unfold a3q
  split
  ·rename_i h0
   split
   ·have b0:=a1a xs (ta xs a 2) ns;have b1:=a4l xs (ta xs a 2) (show(0:Int)<ns by omega);obtain⟨q,hq⟩:=eZ b0;rw[hq] at b1 ⊢;rw[Int.toNat_natCast]
    split
    ·rename_i hf;rw[show acc++(q:Int)::_=(acc++[(q:Int)])++_ from by rw[List.append_assoc];rfl];refine a8m m _ _ _ (h.snoc (by omega) (by omega) (.inr (hu q (by omega) hf))) (by rw[List.length_set,hl]) fun j hj h1 h2=>?_
     have hne:j≠q:=fun e=>by
      subst e;rw[gD,List.getElem?_set_self (by omega)] at h1
      cases h1
     rw[gD,List.getElem?_set_ne (fun e=>hne e.symm),←gD] at h1;rcases List.mem_append.1 h2 with h2|h2
     ·exact hu j hj h1 h2
     ·simp at h2;omega
    ·rw[show acc++(-1:Int)::_=(acc++[-1])++_ from by rw[List.append_assoc];rfl];exact a8m m _ _ _ hm hl hmu
   ·rw[show acc++(-1:Int)::_=(acc++[-1])++_ from by rw[List.append_assoc];rfl];exact a8m m _ _ _ hm hl hmu
  ·rw[show acc++(-1:Int)::_=(acc++[-1])++_ from by rw[List.append_assoc];rfl];exact a8m m _ _ _ hm hl hmu
theorem d6m (ns m a:Nat):c0b ns (a3q xs ns m a (List.replicate ns false)).1:=by
 have:=a8m (xs:=xs) (ns:=ns) m a (List.replicate ns false) [] c0b.nil (by simp) (by simp);simpa using this
theorem d2u (xs:List Int)(a:Nat):∃ sz nm,a6x xs a=(sz,runesBytes nm)∧nm.length=sz.length∧sz.length≤3∧sz.all b2k=true∧Sh.pr sz≤8∧NmOk nm:=by
 have n0:NmOk []:=⟨⟨by decide,by decide,rfl,fun i x h=>by simp at h⟩,by simp⟩
 have n1:NmOk [120]:=⟨⟨by decide,by decide,rfl,fun i x h=>by
  match i,h with
  | 0,h=>simp at h;subst h;exact⟨by unfold badR;omega,rfl⟩
  | i+1,h=>simp at h⟩,by simp⟩
 have n2:NmOk [121,233]:=⟨⟨by decide,by decide,rfl,fun i x h=>by
  match i,h with
  | 0,h=>simp at h;subst h;exact⟨by unfold badR;omega,rfl⟩
  | 1,h=>simp at h;subst h;exact⟨by unfold badR;omega,rfl⟩
  | i+2,h=>simp at h⟩,by simp⟩
 have n3:NmOk [97,98,19990]:=⟨⟨by decide,by decide,rfl,fun i x h=>by
  match i,h with
  | 0,h=>simp at h;subst h;exact⟨by unfold badR;omega,rfl⟩
  | 1,h=>simp at h;subst h;exact⟨by unfold badR;omega,rfl⟩
  | 2,h=>simp at h;subst h;exact⟨by unfold badR;omega,rfl⟩
  | i+3,h=>simp at h⟩,by simp⟩
 have t0:(⟨#[]⟩:ByteArray)=runesBytes []:=by kernel_rfl
 have t1:(⟨#[120]⟩:ByteArray)=runesBytes [120]:=by kernel_rfl
 have t2:(⟨#[121,195,169]⟩:ByteArray)=runesBytes [121,233]:=by kernel_rfl
 have t3:(⟨#[97,98,228,184,150]⟩:ByteArray)=runesBytes [97,98,19990]:=by kernel_rfl
 have h1:=a1a xs a 10;have h2:=a4l xs a (show(0:Int)<10 by omega);obtain⟨q,hq⟩:=eZ h1;rw[hq] at h2;rw[a6x,hq,Int.toNat_natCast];have hc:q=0∨q=1∨q=2∨q=3∨q=4∨q=5∨q=6∨q=7∨q=8∨q=9:=by omega
 rcases hc with rfl|rfl|rfl|rfl|rfl|rfl|rfl|rfl|rfl|rfl
 ·exact⟨[2],[120],by rw[←t1];rfl,rfl,by decide,by decide,by decide,n1⟩
 ·exact⟨[3],[120],by rw[←t1];rfl,rfl,by decide,by decide,by decide,n1⟩
 ·exact⟨[2,2],[121,233],by rw[←t2];rfl,rfl,by decide,by decide,by decide,n2⟩
 ·exact⟨[4],[120],by rw[←t1];rfl,rfl,by decide,by decide,by decide,n1⟩
 ·exact⟨[2,3],[121,233],by rw[←t2];rfl,rfl,by decide,by decide,by decide,n2⟩
 ·exact⟨[],[],by rw[←t0];rfl,rfl,by decide,by decide,by decide,n0⟩
 ·exact⟨[2,2,2],[97,98,19990],by rw[←t3];rfl,rfl,by decide,by decide,by decide,n3⟩
 ·exact⟨[5],[120],by rw[←t1];rfl,rfl,by decide,by decide,by decide,n1⟩
 ·exact⟨[1,3],[121,233],by rw[←t2];rfl,rfl,by decide,by decide,by decide,n2⟩
 ·exact⟨[8],[120],by rw[←t1];rfl,rfl,by decide,by decide,by decide,n1⟩
theorem a3x (nm:List Int):∀(N M:List a0s) (acc L:List (List Int)),a0i nm acc N=(0,L)→a0i nm acc (N++M)=a0i nm L M
 | [],M,acc,L,h=>by
  have:acc=L:=by rw[a0i] at h;injection h
  subst this;rfl
 | nd::N,M,acc,L,h=>by
  rw[List.cons_append];unfold a0i at h
  conv=>lhs;unfold a0i
  split at h
  ·rename_i h1;rw[iP h1]
   split at h
   ·rename_i h2;rw[iP h2]
    split at h
    ·rename_i h3;rw[iP h3];exact a3x nm N M _ L h
    ·rename_i h3;injection h with h;exact absurd h h3
   ·rename_i h2;injection h with h;exact absurd h h2
  ·injection h with h;cases h
theorem a5k {L:List (List Int)}{z:List Int}(h1:b6r L nd.ins=true)(h2:a1j nd (a2w L nd.ins)=(0,z))(h3:b5r nm nd z.length=0):a0i nm L [nd]=(0,L++[z]):=by
 rw[a0i,iP h1,h2,iP rfl,iP h3,a0i]
theorem b6j (nm:List Int):∀(N:List a0s) (acc L:List (List Int)),a0i nm acc N=(0,L)→L.length=acc.length+N.length
 | [],acc,L,h=>by
  have:acc=L:=by rw[a0i] at h;injection h
  subst this;rfl
 | nd::N,acc,L,h=>by
  unfold a0i at h
  split at h
  ·split at h
   ·split at h
    ·have:=b6j nm N _ L h;rw[this,List.length_append,List.length_singleton,List.length_cons];omega
    ·rename_i h3;injection h with h;exact absurd h h3
   ·rename_i h2;injection h with h;exact absurd h h2
  ·injection h with h;cases h
theorem c4l (nd:a0s)(t:ByteArray)(L:List (List Int)):a1j (noted nd t) L=a1j nd L:=rfl
structure d6z (n:Nat) (nm:List Int) (S:KS):Prop where
 go:a0i nm [] S.nodes=(0,S.shapes)
 at_:S.at_≤n
 few:∀ nd∈S.nodes,nd.ins.length≤3
theorem d4t {S:KS}(hx:xs.length=n)(h:NmOk nm)(g:d6z n nm S):d6z n nm (c5b xs nm.length nm S)∧(c5b xs nm.length nm S).nodes.length≤S.nodes.length+1:=by
 obtain⟨N,L,a⟩:=S;obtain⟨g1,g2,g3⟩:=g;have g1:a0i nm [] N=(0,L):=g1;have hm:=c5z (L:=L) hx g2;obtain⟨⟨nd,b⟩,hr⟩:∃ r,a7m xs a L=r:=⟨_,rfl⟩;have hr' : a7m xs a L=(nd,b):=hr;have hm' : b3p L.length n (nd,b):=by rw[←hr'];exact hm
 clear hm;obtain⟨⟨e,z⟩,hs⟩:∃ r,a1j nd (a2w L nd.ins)=r:=⟨_,rfl⟩;have hin:b6r L nd.ins=true:=a8z fun i x hi=>hm'.ins x (mG hi)
 by_cases hok:e=0∧Sh.size z≤400
 ·rw[b8r hr' hs hok];obtain⟨he,hz⟩:=hok;subst he;have hzr:Sh.right z=true:=by have:=a9n (nd:=nd) (L:=a2w L nd.ins);rw[hs] at this;exact this rfl
  have hz4:=(Sh.right_iff.1 hzr).1;simp only[kPut]
  split
  ·refine⟨⟨?_,?_,?_⟩,by simp⟩
   ·rw[a3x nm N _ [] L g1];exact a5k hin (by rw[c4l];exact hs) (d1b h (d6m nm.length z.length (ta xs b 3)) (a9r hx _ _ _ (a2e _ hx hm'.at_)).2 hz4 rfl)
   ·exact(a9r hx _ _ _ (a2e _ hx hm'.at_)).1
   ·intro x hx';rcases List.mem_append.1 hx' with hx' | hx'
    ·exact g3 x hx'
    ·rw[List.mem_singleton.1 hx'];exact hm'.few
  ·refine⟨⟨?_,?_,?_⟩,by simp⟩
   ·rw[a3x nm N _ [] L g1];exact a5k hin hs (a9e hm'.note)
   ·exact a2e _ hx hm'.at_
   ·intro x hx';rcases List.mem_append.1 hx' with hx' | hx'
    ·exact g3 x hx'
    ·rw[List.mem_singleton.1 hx'];exact hm'.few
 ·rw[b1r hr' hs hok];exact⟨⟨g1,hm'.at_,g3⟩,by simp⟩
theorem d5i {xs nm:List Int}{n:Nat}(hx:xs.length=n)(h:NmOk nm):∀(k:Nat) (S:KS),d6z n nm S→d6z n nm (kGo xs nm.length nm k S)∧(kGo xs nm.length nm k S).nodes.length≤S.nodes.length+k
 | 0,S,g=>⟨g,by simp[kGo]⟩
 | k+1,S,g=>by
  obtain⟨q1,q2⟩:=d4t hx h g;obtain⟨q3,q4⟩:=d5i hx h k _ q1;exact⟨q3,by rw[kGo];omega⟩
theorem c9w {xs:List Int}{m:Nat}:∀(k a:Nat),(b5x xs m k a).length≤k∧∀ x∈b5x xs m k a,0≤x∧x<(m:Int)
 | 0,a=>⟨by simp[b5x],by simp[b5x]⟩
 | k+1,a=>by
  obtain⟨q1,q2⟩:=c9w (xs:=xs) (m:=m) k (ta xs (ta xs a m) 2);rw[b5x]
  split
  ·exact⟨by simp,by simp⟩
  ·refine⟨by rw[List.length_cons];omega,fun x hx=>?_⟩;rcases List.mem_cons.1 hx with rfl|hx
   ·have h1:=a1a xs a m;have h2:=a4l xs a (show(0:Int)<(m:Int) by omega)
    split <;> omega
   ·exact q2 x hx
structure e2e (xs:List Int) (nm:List Int):Prop where
 names:(a0o xs).names=runesBytes nm
 ok:NmOk nm
 mesh:a8n (a0o xs)=true
 runes:a0k (a0o xs).names=nm
 go:a0i nm [] (a0o xs).nodes=(0,(a7q xs).shapes)
 few:∀ nd∈(a0o xs).nodes,nd.ins.length≤3
 len:(a0o xs).nodes.length≤9
 outs:(a0o xs).outs.length≤3
 outIn:∀ x∈(a0o xs).outs,0≤x∧x<((a7q xs).shapes.length:Int)
theorem a5j (xs:List Int):∃ nm,e2e xs nm:=by
 obtain⟨sz,nm,hM,hl,h3,hall,hpr,hnm⟩:=d2u xs 0
 have hrun:a0k (runesBytes nm)=nm:=b9i nm fun r hr=>by
  obtain⟨i,hi,e⟩:=List.getElem_of_mem hr;have h1:=(hnm.rn.2.2.2 i r (by rw[List.getElem?_eq_getElem hi,e])).1;have h2:=hnm.bd r hr;unfold badR at h1;omega
 have e1:a7q xs=kGo xs nm.length nm (1+tv xs (ta xs 0 10) 9).toNat ⟨[],[],ta xs (ta xs 0 10) 9⟩:=by
  rw[a7q,hM];simp only[];rw[hrun,hl]
 have hg:=d5i (xs:=xs) rfl hnm (1+tv xs (ta xs 0 10) 9).toNat ⟨[],[],ta xs (ta xs 0 10) 9⟩ ⟨rfl,a2e _ rfl (a2e _ rfl (Nat.zero_le _)),by simp⟩;rw[←e1] at hg;obtain⟨hg1,hg2⟩:=hg;have b0:=a1a xs (ta xs 0 10) 9;have b1:=a4l xs (ta xs 0 10) (show(0:Int)<9 by omega);have b2:=a1a xs (a7q xs).at_ 3;have b3:=a4l xs (a7q xs).at_ (show(0:Int)<3 by omega);obtain⟨o1,o2⟩:=c9w (xs:=xs) (m:=(a7q xs).shapes.length) (1+tv xs (a7q xs).at_ 3).toNat (ta xs (a7q xs).at_ 3);have hkn:(a0o xs).names=runesBytes nm:=by rw[a0o,hM]
 have hks:(a0o xs).sizes=sz:=by rw[a0o,hM]
 refine⟨nm,hkn,hnm,?_,by rw[hkn,hrun],hg1.go,hg1.few,?_,?_,o2⟩
 ·rw[c2l (by rw[hks];exact h3) (fun i x hi=>by
   rw[hks] at hi;have:=List.all_eq_true.1 hall x (mG hi)
   simpa [b2k] using this),hks,hkn,hrun,←hl,b1y hnm.rn]
  simpa using hpr
 ·have:(a0o xs).nodes.length=(a7q xs).nodes.length:=rfl;have h0:([]:List a0s).length=0:=rfl;simp only[List.length_nil] at hg2;omega
 ·have:(a0o xs).outs.length≤(1+tv xs (a7q xs).at_ 3).toNat:=o1;omega
theorem a7e (xs:List Int):a2f (a0o xs)=(0,(a7q xs).shapes)∧(a7q xs).shapes.length=(a0o xs).nodes.length:=by
 obtain⟨nm,h⟩:=a5j xs;have hl:=b6j nm _ _ _ h.go;refine⟨?_,by simpa using hl⟩;rw[a6j h.mesh ⟨by have:=h.len;omega,by have:=h.outs;omega⟩ (by rw[h.runes];exact h.go)];rw[iP (b1i fun i x hi=>by have:=h.outIn x (mG hi);simp at hl;omega)]
theorem b9d (hF:FitP (a0o xs).nodes P):a6w (a0o xs) P=(0,a2i P 0 [] (a0o xs).nodes):=a7i (by rw[(a7e xs).1]) hF
theorem c7a:(a2f { a0o xs with outs:=parF 0 (a0o xs).nodes }).1=0:=by
 obtain⟨nm,h⟩:=a5j xs;have hm:a8n { a0o xs with outs:=parF 0 (a0o xs).nodes }=true:=h.mesh
 have hl:(parF 0 (a0o xs).nodes).length≤(a0o xs).nodes.length:=by
  rw[b6z,numP];exact List.length_filter_le _ _
 have h9:=h.len;rw[a6j hm ⟨by show(a0o xs).nodes.length≤48;omega,by show(parF 0 (a0o xs).nodes).length≤48;omega⟩ (l:=(a7q xs).shapes) (by show a0i (a0k (a0o xs).names) [] (a0o xs).nodes=_;rw[h.runes];exact h.go)]
 rw[iP (b1i fun i x hi=>by
  have:=b0p (a0o xs).nodes 0 x (mG hi)
  show 0≤x∧x<((a0o xs).nodes.length:Nat)
  omega)]
theorem c5m (hF:FitP (a0o xs).nodes P):a7p { a0o xs with outs:=parF 0 (a0o xs).nodes } P=(0,P):=by
 have he:a6w { a0o xs with outs:=parF 0 (a0o xs).nodes } P=(0,a2i P 0 [] (a0o xs).nodes):=a7i c7a hF;rw[a7p,he,iP rfl,c6t hF]
theorem b2q (hF:FitP (a0o xs).nodes P):a7p (a0o xs) P=(0,insT (a2i P 0 [] (a0o xs).nodes) (a0o xs).outs):=by
 rw[a7p,b9d hF,iP rfl]
def a8r:a0s:=⟨2,[],[3],[],1,0,⟨#[]⟩⟩
def nNeg (k:Nat):a0s:=⟨4,[(k:Int)],[],[],0,0,⟨#[]⟩⟩
def c2n (G:a3n):a3n:={ G with nodes:=G.nodes++[a8r,nNeg G.nodes.length] }
theorem c6q:(a2f (c2n (a0o xs))).1=0:=by
 obtain⟨nm,h⟩:=a5j xs;have hlen:=(a7e xs).2;have hm:a8n (c2n (a0o xs))=true:=h.mesh;have h9:=h.len;have h3:=h.outs
 have s1:a1j a8r []=(0,[3]):=by
  rw[b1b (by decide) rfl,opP,iP (.inr rfl),ownP,iP (by decide)];rfl
 have s2:a1j (nNeg (a0o xs).nodes.length) [[3]]=(0,[3]):=by
  have ho:(nNeg (a0o xs).nodes.length).op=4:=rfl
  have hf:a4h (nNeg (a0o xs).nodes.length) ([[3]]:List (List Int)).length=true:=by
   show a4h (nNeg _) 1=true
   rw[a4h,ho];rfl
  have hn:∀ k:Int,k≠4→¬(nNeg (a0o xs).nodes.length).op=k:=fun k hk=>by rw[ho];exact fun e=>hk e.symm
  rw[b1b hf (by decide),opP,iN (by rw[ho];decide)]
  repeat rw[iN (hn _ (by decide))]
  rw[a3r,iP (by simp)];rfl
 have hg:a0i nm [] (c2n (a0o xs)).nodes=(0,((a7q xs).shapes++[[3]])++[[3]]):=by
  show a0i nm [] ((a0o xs).nodes++([a8r]++[nNeg (a0o xs).nodes.length]))=_
  rw[a3x nm _ _ [] _ h.go,a3x nm _ _ _ _ (a5k (z:=[3]) (by rfl) (by exact s1) (a9e rfl))];refine a5k ?_ ?_ (a9e rfl)
  ·refine a8z fun i x hi=>?_
   have:x=(((a0o xs).nodes.length:Nat):Int):=by
    cases i with
    | zero=>simp[nNeg] at hi;exact hi.symm
    | succ i=>simp[nNeg] at hi
   rw[List.length_append,hlen,List.length_singleton];omega
  ·have:a2w ((a7q xs).shapes++[[3]]) (nNeg (a0o xs).nodes.length).ins=[[3]]:=by
    simp only[a2w,nNeg,List.map_cons,List.map_nil,Int.toNat_natCast];rw[gD,List.getElem?_append_right (by omega),hlen,Nat.sub_self];rfl
   rw[this];exact s2
 rw[a6j hm ⟨by show((a0o xs).nodes++_).length≤48;simp;omega,by show(a0o xs).outs.length≤48;omega⟩ (by show a0i (a0k (a0o xs).names) [] _=_;rw[h.runes];exact hg)]
 rw[iP (b1i fun i x hi=>by
  have:=h.outIn x (mG hi)
  show 0≤x∧x<(((a0o xs).nodes++[a8r,nNeg (a0o xs).nodes.length]).length:Nat)
  rw[List.length_append];simp only[List.length_cons,List.length_nil];omega)]
theorem c0c {M:List a0s}{k:Int}(h0:0≤k)(h:k<N.length):a4z (N++M) k=a4z N k:=by
 rw[a4z,a4z,List.map_append,gD,gD,List.getElem?_append_left (by simp;omega)]
theorem d7p (hF:FitP N P):FitP (N++[a8r,nNeg n]) P:=by
 have he:parF 0 (N++[a8r,nNeg n])=parF 0 N:=by
  rw[b9n];have:parF (0+N.length) [a8r,nNeg n]=[]:=rfl;rw[this,List.append_nil]
 refine⟨by rw[he];exact hF.1,fun j k t hj ht hlt=>?_⟩;rw[he] at hj;have:=b0p N 0 k (mG hj);rw[c0c (by omega) (by omega)];exact hF.2 j k t hj ht hlt
theorem c7q {acc R:TL}{l:List Int}(h:∀ x∈l,0≤x∧x<acc.length):insT (acc++R) l=insT acc l:=by
 rw[insT,insT];apply List.map_congr_left;intro k hk;have:=h k hk;rw[gD,gD,List.getElem?_append_left (by omega)]
theorem d1e (hF:FitP (a0o xs).nodes P):a7p (c2n (a0o xs)) P=a7p (a0o xs) P:=by
 obtain⟨nm,h⟩:=a5j xs;have hv:=b4o h.go hF;have he:a6w (c2n (a0o xs)) P=(0,a2i P 0 [] (c2n (a0o xs)).nodes):=a7i c6q (d7p hF);rw[b2q hF,a7p,he,iP rfl];have hn:a2i P 0 [] (c2n (a0o xs)).nodes=a2i P (0+numP (a0o xs).nodes) (a2i P 0 [] (a0o xs).nodes) [a8r,nNeg (a0o xs).nodes.length]:=b2u P _ _ _ _;obtain⟨R,hR,_⟩:=a9p P [a8r,nNeg (a0o xs).nodes.length] (0+numP (a0o xs).nodes) (a2i P 0 [] (a0o xs).nodes)
 show(0,insT _ (a0o xs).outs)=_
 rw[hn,hR,c7q fun x hx=>?_];have h1:=h.outIn x hx;have h2:=(a7e xs).2;rw[hv.2.2];omega
theorem b9e (h:(parF 0 (a0o xs).nodes)[j]?=some x):0≤x∧x<((a0o xs).nodes.length:Nat)∧∃ nd,(a0o xs).nodes[x.toNat]?=some nd∧Sh.right nd.shape=true∧a4z (a0o xs).nodes x=nd.shape:=by
 obtain⟨nm,hg⟩:=a5j xs;have h1:=b0p _ 0 x (mG h);obtain⟨nd,h2,h3⟩:=c8f _ 0 x (mG h);rw[Nat.sub_zero] at h2;refine⟨by omega,by omega,nd,h2,c5r _ _ _ hg.go nd (mG h2) h3,?_⟩;rw[a4z,gD,List.getElem?_map,h2];rfl
theorem c2a (xs:List Int):(parF 0 (a0o xs).nodes).length≤9:=by
 obtain⟨nm,hg⟩:=a5j xs;have h1:(parF 0 (a0o xs).nodes).length≤(a0o xs).nodes.length:=by rw[b6z,numP];exact List.length_filter_le _ _
 have:=hg.len;omega
theorem rnE0:c4x [] 0:=⟨by decide,by decide,rfl,fun i x h=>by simp at h⟩
theorem e2j (N:List a0s)(O:List Int):a8n ⟨[],⟨#[]⟩,N,O⟩=true:=by
 rw[c2l (by show 0≤3;omega) (fun i x h=>by simp at h)]
 show(decide (Sh.pr []≤8)&&a9a (a0k ⟨#[]⟩) 0)=true
 rw[show a0k ⟨#[]⟩=[] from rfl,b1y rnE0];decide
def kP:a0s:=⟨1,[],[2],[],0,0,⟨#[]⟩⟩
def kN:a0s:=⟨4,[0],[],[],0,0,⟨#[]⟩⟩
def gvK:a3n:=⟨[],⟨#[]⟩,[kP,kN],[1,1]⟩
theorem c9r:a1j kP []=(0,[2]):=by
 rw[b1b (by decide) rfl,opP,iP (.inl rfl),ownP,iP (by decide)];rfl
theorem d6r:a1j kN [[2]]=(0,[2]):=by
 have ho:kN.op=4:=rfl;rw[b1b (by decide) (by decide),opP,iN (by rw[ho];decide)]
 repeat rw[iN (by rw[ho];decide)]
 rw[a3r,iP (by simp)];rfl
theorem d0d:a2f gvK=(0,[[2],[2]]):=by
 have hg:a0i (a0k gvK.names) [] gvK.nodes=(0,[[2],[2]]):=by
  show a0i [] [] ([kP]++[kN])=_
  rw[a3x [] [kP] [kN] [] [[2]] (a5k (L:=[]) (z:=[2]) rfl c9r (a9e rfl))]
  exact a5k (L:=[[2]]) (z:=[2]) (a8z fun i x hi=>by
   match i,hi with
   | 0,hi=>simp[kN] at hi;subst hi;simp
   | i+1,hi=>simp[kN] at hi) d6r (a9e rfl)
 rw[a6j (G:=gvK) (e2j _ _) ⟨by show 2≤48;omega,by show 2≤48;omega⟩ hg];rfl
theorem e2d:(a0r kN [([2],[3,-4])]).2=([2],[-3,4]):=by
 have hw:a0r kN [([2],[3,-4])]=oneR 4 [2] [3,-4]:=by
  rw[a0r,iN (by decide),iN (by decide),iP (by decide)];rfl
 rw[hw,c8i (.inl rfl) (by decide)]
 show(([2]:List Int),[a2b 4 3 0,a2b 4 (-4) 0])=_
 rw[show a2b 4 3 0 = -3 from by kernel_rfl,show a2b 4 (-4) 0=4 from by kernel_rfl]
theorem e2b:a7p gvK [([2],[3,-4])]=(0,[([2],[-3,4]),([2],[-3,4])]):=by
 have hF:FitP gvK.nodes [([2],[3,-4])]:=⟨rfl,fun j k t hj ht hlt=>by
  match j,hj,ht with
  | 0,hj,ht =>
   have hj2:(0:Int)=k:=by simpa [gvK,kP,kN,parF] using hj
   subst hj2;simp at ht;subst ht
   exact⟨by decide,rfl⟩
  | j+1,hj,ht=>simp at ht⟩
 have he:a6w gvK [([2],[3,-4])]=(0,[([2],[3,-4]),([2],[-3,4])]):=by
  rw[a7i (by rw[d0d]) hF]
  show(0,a2i _ 0 [] [kP,kN])=_
  rw[a2i,iP (show kP.op=1 from rfl),a2i,iN (show ¬ kN.op=1 by decide),a2i]
  show(0,[([2],[3,-4])]++[(a0r kN [([2],[3,-4])]).2])=_
  rw[e2d];rfl
 rw[a7p,he,iP rfl];rfl
theorem e0p:a7p gvK []=(13,[]):=by
 have he:a6w gvK []=(13,[]):=a9d (by rw[d0d]) (fun h=>by have:=h.1;cases this);rw[a7p,he,iN (by decide)]
theorem e1z:b4h kP []=refused 22:=by
 have hs:a1j kP (([]:TL).map (·.1))=(0,[2]):=c9r;rw[b4h,iP (show a1k [] from fun t ht=>by simp at ht),hs,iP rfl,iP (show kP.op=1 from rfl)]
theorem d1z {w:World}{g:Nat}{cs:Array Value}{t:TypeId}{f:Nat × Nat}(hb:w.heap[g]?=some (.cells cs t f))(hK:NodK w cs.toList N)(hn:N.length=n)(h9:n≤900):Nods w (some ⟨g,0,none⟩) n N:=by
 refine⟨hn,h9,fun j nd hj=>?_⟩;obtain⟨A,na,ca,B,nb,cb,C,nc,cc,h1,h2⟩:=hK.2 j nd hj
 have hc0:∀ k:Nat,k<7→w.cell? ⟨g,j*7+k,none⟩=(a7t nd A na ca B nb cb C nc cc)[k]? := fun k hk=>by
  rw[←h1 k hk,show w.cell? ⟨g,j*7+k,none⟩=cs[j*7+k]? from by simp[World.cell?,hb],Array.getElem?_toList]
 have hlt:g<w.heap.size:=(Array.getElem?_eq_some_iff.1 hb).1;refine⟨⟨g,0,none⟩,A,na,ca,B,nb,cb,C,nc,cc,rfl,hlt,?_,?_,?_,?_,?_,?_,?_,h2⟩
 ·rw[a3j];exact hc0 0 (by omega)
 ·rw[a3j];exact hc0 1 (by omega)
 ·rw[a3j];exact hc0 2 (by omega)
 ·rw[a3j];exact hc0 3 (by omega)
 ·rw[a3j];exact hc0 4 (by omega)
 ·rw[a3j];exact hc0 5 (by omega)
 ·rw[a3j];exact hc0 6 (by omega)
theorem b2c {n:Int}(h : -1000≤n)(g:n≤1000):Fits n:=⟨by omega,by omega⟩
theorem a7z (w:World):Calls prog 13 #[] w fun e w'=>e=.returned (.bool true)∧Below w.heap.size w w':=by
 go_enter func13,ntmps13
 have h1:=(((((Sep.nil w).lit 3 #[.int .i64 2] [2] 1 (w.heap.size) rfl rfl rfl).lit 3 #[.int .i64 0] [0] 1 (w.heap.size+1) (by simp) rfl rfl).allocBox (w.heap.size+1+1) 38 [.int .i64 1,.slice none 0 0,.slice (some ⟨w.heap.size,0,none⟩) 1 1,.slice none 0 0,.int .i64 0,.int .i64 0,.string ⟨#[]⟩,.int .i64 4,.slice (some ⟨w.heap.size+1,0,none⟩) 1 1,.slice none 0 0,.slice none 0 0,.int .i64 0,.int .i64 0,.string ⟨#[]⟩] (by simp)).lit 3 #[.int .i64 1,.int .i64 1] [1,1] 2 (w.heap.size+1+1+1) (by simp) rfl rfl).allocBox (w.heap.size+1+1+1+1) 25 [.slice none 0 0,.string ⟨#[]⟩,.slice (some ⟨w.heap.size+1+1,0,none⟩) 2 2,.slice (some ⟨w.heap.size+1+1+1,0,none⟩) 2 2] (by simp)
 go_upto_region 2 with fail
 generalize ((((w.alloc (.cells #[.int .i64 2] 3)).alloc (.cells #[.int .i64 0] 3)).alloc (.cells #[.int .i64 1,.slice none 0 0,.slice (some ⟨w.heap.size,0,none⟩) 1 1,.slice none 0 0,.int .i64 0,.int .i64 0,.string ⟨#[]⟩,.int .i64 4,.slice (some ⟨w.heap.size+1,0,none⟩) 1 1,.slice none 0 0,.slice none 0 0,.int .i64 0,.int .i64 0,.string ⟨#[]⟩] 38)).alloc (.cells #[.int .i64 1,.int .i64 1] 3)).alloc (.cells #[.slice none 0 0,.string ⟨#[]⟩,.slice (some ⟨w.heap.size+1+1,0,none⟩) 2 2,.slice (some ⟨w.heap.size+1+1+1,0,none⟩) 2 2] 25)=w1 at *;have H:=Hd h1;clear h1;have h2:=(((H).lit 3 #[.int .i64 2] [2] 1 (w1.heap.size) rfl rfl rfl).lit 2 #[.int .i64 3,.int .i64 (-4)] [3,-4] 2 (w1.heap.size+1) (by simp) rfl rfl).allocBox (w1.heap.size+1+1) 33 [.slice (some ⟨w1.heap.size,0,none⟩) 1 1,.slice (some ⟨w1.heap.size+1,0,none⟩) 2 2] (by simp)
 go_upto_region 3 with fail
 generalize ((w1.alloc (.cells #[.int .i64 2] 3)).alloc (.cells #[.int .i64 3,.int .i64 (-4)] 2)).alloc (.cells #[.slice (some ⟨w1.heap.size,0,none⟩) 1 1,.slice (some ⟨w1.heap.size+1,0,none⟩) 2 2] 33)=w2 at *;replace H:=Hd h2;clear h2;have hN:=d1z (n:=2) (N:=gvK.nodes) (H.heap 5 rfl) ((b1x (nd:=kP) ⟨Nat.le_refl _,Nat.le_refl _,Nat.le_refl _,Ints.nil_ _ none,(H.ownInts 7 rfl).2.2,Ints.nil_ _ none,b2c (by decide) (by decide),a4p,a4p,by show 0≤_;omega⟩).append (b1x (nd:=kN) ⟨Nat.le_refl _,Nat.le_refl _,Nat.le_refl _,(H.ownInts 6 rfl).2.2,Ints.nil_ _ none,Ints.nil_ _ none,b2c (by decide) (by decide),a4p,a4p,by show 0≤_;omega⟩)) rfl (by omega);have HGK:Hid (a2c w2 (.agg #[.slice none 0 0,.string ⟨#[]⟩,.slice (some ⟨w.heap.size+1+1,0,none⟩) 2 2,.slice (some ⟨w.heap.size+1+1+1,0,none⟩) 2 2]) gvK):=Hd ⟨_,_,_,_,_,_,_,_,_,rfl,⟨Nat.le_refl _,Nat.le_refl _,Nat.le_refl _,Ints.nil_ _ none,hN,(H.ownInts 4 rfl).2.2,by show 0≤_;omega⟩⟩;have HNK:Hid (Nods w2 (some ⟨w.heap.size+1+1,0,none⟩) 2 gvK.nodes):=Hd hN
 have hsK:a7y 800 gvK:=fun j nd hj=>by
  have:=mG hj;simp[gvK] at this;rcases this with rfl|rfl <;> simp[kP,kN]
 have HS:=Hd hsK;clear hN hsK;obtain⟨g0,g1,g2,g3⟩:=H.cells4 3 rfl;obtain⟨t0,t1⟩:=H.z2 0 rfl;have h3:=H.allocBox w2.heap.size 33 [.slice (some ⟨w1.heap.size,0,none⟩) 1 1,.slice (some ⟨w1.heap.size+1,0,none⟩) 2 2] rfl;have CT:∀ c:Nat,1≤c→Calls prog 16 #[.agg #[.slice none 0 0,.string ⟨#[]⟩,.slice (some ⟨w.heap.size+1+1,0,none⟩) 2 2,.slice (some ⟨w.heap.size+1+1+1,0,none⟩) 2 2],.slice (some ⟨w2.heap.size,0,none⟩) 1 c] (w2.alloc (.cells #[.slice (some ⟨w1.heap.size,0,none⟩) 1 1,.slice (some ⟨w1.heap.size+1,0,none⟩) 2 2] 33)) (a9i (w2.alloc (.cells #[.slice (some ⟨w1.heap.size,0,none⟩) 1 1,.slice (some ⟨w1.heap.size+1,0,none⟩) 2 2] 33)) (a7p gvK [([2],[3,-4])])):=fun c hc=>a7n (ct:=c) (HGK.below ((Below.refl _ _).alloc (Nat.le_refl _) _)) HS (c9m (h3.heap 0 rfl) (a1s (h3.ownInts 3 rfl).2.2 (Nat.le_refl _) (h3.ownInts 2 rfl).2.2 (Nat.le_refl _)))
 rw[e2b] at CT;have HCT:=Hd CT;have H3:=Hd h3;clear h3 CT
 go_wp2_with fail
 refine(HCT _ (by omega)).mono ?_;rintro e1 w3 ⟨⟨A1,n1,c1,rfl,hc1,hT1⟩,hb1⟩;obtain rfl:n1=2:=by have:=hT1.1;simpa using this.symm
 replace H:=Hd (H3.below hb1);have HB:=Hd (a1m ((Below.refl w2.heap.size w2).alloc (Nat.le_refl _) (.cells #[.slice (some ⟨w1.heap.size,0,none⟩) 1 1,.slice (some ⟨w1.heap.size+1,0,none⟩) 2 2] 33)) hb1);have HT1:=Hd hT1;clear HCT H3 hb1 hT1 g0 g1 g2 g3 t0 t1;have C2:=a7n (ct:=0) (HGK.below HB) HS (b7b w3);rw[e0p] at C2;obtain⟨g0,g1,g2,g3⟩:=H.cells4 4 rfl
 go_wp2_with fail
 refine C2.mono ?_;rintro e2 w4 ⟨⟨A2,n2,c2,rfl,_,_⟩,hb2⟩;replace H:=Hd (H.below hb2);replace HB:=Hd (a1m HB hb2);replace HT1:=Hd (HT1.below hb2);clear C2 hb2 g0 g1 g2 g3;obtain⟨la,S,ns,cs,D,nD,cD,E,ne,ce,hla,hlb,k0,k1,k2,k3,k4,k5,k6,hNL⟩:=(HNK.below HB).2.2 0 kP rfl;injection hla with hla
 subst hla;have C3:=c6c (ct:=0) (a3k.wide (show a3k w4 (.agg #[.int .i64 kP.op,.slice S ns cs,.slice D nD cD,.slice E ne ce,.int .i64 kP.n,.int .i64 kP.how,.string kP.note]) kP from⟨S,ns,cs,D,nD,cD,E,ne,ce,rfl,hNL⟩)) (b7b w4);rw[e1z] at C3;have HC3:=Hd C3;clear C3 hNL;have g2:=H.c 4 2;have n0:w4.cell? ⟨w.heap.size+1+1,0,none⟩=some (.int .i64 kP.op):=k0;have n1:w4.cell? ⟨w.heap.size+1+1,1,none⟩=some (.slice S ns cs):=k1;have n2:w4.cell? ⟨w.heap.size+1+1,2,none⟩=some (.slice D nD cD):=k2;have n3:w4.cell? ⟨w.heap.size+1+1,3,none⟩=some (.slice E ne ce):=k3;have n4:w4.cell? ⟨w.heap.size+1+1,4,none⟩=some (.int .i64 kP.n):=k4;have n5:w4.cell? ⟨w.heap.size+1+1,5,none⟩=some (.int .i64 kP.how):=k5;have n6:w4.cell? ⟨w.heap.size+1+1,6,none⟩=some (.string kP.note):=k6;clear k0 k1 k2 k3 k4 k5 k6
 go_wp2_with fail
 refine HC3.mono ?_;rintro e3 w5 ⟨⟨u,rfl,hu⟩,hb3⟩;obtain⟨S8,s8,sc8,D8,d8,dc8,rfl,_,_,_,_⟩:=hu;have h6:=(H.below hb3).allocBox w5.heap.size 33 [.slice S8 s8 sc8,.slice D8 d8 dc8] rfl;have hbx:=hb3.alloc hb3.size (.cells #[.slice S8 s8 sc8,.slice D8 d8 dc8] 33);have HT2:=Hd (HT1.below hbx);clear HC3 hb3 hbx g2 n0 n1 n2 n3 n4 n5 n6
 go_upto_region 6 with fail
 generalize w5.alloc (.cells #[.slice S8 s8 sc8,.slice D8 d8 dc8] 33)=w6 at *;replace H:=Hd h6;clear h6;obtain⟨a1,S1,sn1,sc1,D1,dn1,dc1,rfl,hab,x0,x1,hT⟩:=HT2.out.2.2 1 ([2],[-3,4]) rfl;have y1:w6.cell? ⟨a1.block,a1.off+2+1,none⟩=some (.slice D1 dn1 dc1):=x1;obtain⟨_,_,hI,hdc⟩:=a9v hT;obtain rfl:dn1=2:=by have:=hI.len;simpa using this.symm
 obtain⟨d1,z,rfl,_,hz,hz0,_⟩:=hI.at_ (k:=0) (by omega);obtain rfl:z = -3:=by simpa using hz.symm
 have z0:w6.cell? d1=some (.int .i64 (-3)):=by
  have h0:d1.add 0=d1:=by cases d1;rfl
  rw[h0] at hz0;exact hz0
 clear hT hI hz hz0 x0 x1;go_wp2;go_ret;exact⟨by trivial,H.base⟩
end Go.Proofs.YtjblengklgkgfaaGreat
