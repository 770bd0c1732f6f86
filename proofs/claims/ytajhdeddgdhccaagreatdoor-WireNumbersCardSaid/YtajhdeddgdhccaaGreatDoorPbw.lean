import Derived.Lib.TrimUEq
import Derived.Test.YtajhdeddgdhccaaGreatDoorPbv
set_option maxRecDepth 100000
set_option maxHeartbeats 12800000
namespace Go.Proofs.YtajhdeddgdhccaaGreatDoor
open Go.RowKit Go.Proofs.Tryz
variable {G:a2g} {L:List (List Int)} {S nm xs:List Int} {k:Nat} {nd:a0p}
theorem c5u (n:Nat)(h:n<256):(UInt8.ofNat n).toNat=n:=by simp;omega
theorem d3u (r:Nat)(hr:r<55296)(t:List UInt8):Lib.decodeL ((Utf8.encode (r:Int)).data.toList++t)=(r,(Utf8.encode (r:Int)).size):=by
 have hv:Utf8.valid (r:Int)=true:=by simp[Utf8.valid];omega
 rw[Lib.decodeL_N];unfold Utf8.encode;simp only[hv,if_true,Int.toNat_natCast];by_cases h1:r<128
 ·simp only[h1,if_true];simp only[List.cons_append,List.nil_append,List.getD_cons_zero,List.getD_cons_succ];rw[c5u r (by omega),Lib.decodeN,iP (by omega)]
  rfl
 ·by_cases h2:r<2048
  ·simp only[h1,h2,if_true,if_false];simp only[List.cons_append,List.nil_append,List.getD_cons_zero,List.getD_cons_succ,List.length_cons];rw[c5u (192+r / 64) (by omega),c5u (128+r % 64) (by omega),Lib.decodeN,iN (by omega),iP ⟨by omega,by omega,by omega⟩,iP (by omega)];exact Prod.ext (show(192+r / 64) % 32*64+(128+r % 64) % 64=r by omega) rfl
  ·simp only[h1,h2,show r<65536 from by omega,if_true,if_false];simp only[List.cons_append,List.nil_append,List.getD_cons_zero,List.getD_cons_succ,List.length_cons];rw[c5u (224+r / 4096) (by omega),c5u (128+r / 64 % 64) (by omega),c5u (128+r % 64) (by omega),Lib.decodeN,iN (by omega),iN (by omega),iP ⟨by omega,⟨by omega,by omega⟩,by omega,by omega⟩,iP ⟨by omega,by omega⟩];exact Prod.ext (show(224+r / 4096) % 16*4096+(128+r / 64 % 64) % 64*64+(128+r % 64) % 64=r by omega) rfl
theorem d3z (r:Int):1≤(Utf8.encode r).size:=by
 unfold Utf8.encode;simp only
 repeat' split
 all_goals simp[ByteArray.size]
theorem toL (s:ByteArray):s.data.toList.length=s.size:=Array.length_toList
theorem d3v (r:Nat)(hr:r<55296)(p q:ByteArray):Utf8.decode (p++(Utf8.encode (r:Int)++q)) p.size=(r,(Utf8.encode (r:Int)).size):=by
 rw[←Lib.decodeL_drop]
 have:(p++(Utf8.encode (r:Int)++q)).data.toList.drop p.size=(Utf8.encode (r:Int)).data.toList++q.data.toList:=by
  simp only[ByteArray.data_append,Array.toList_append];rw[←toL p,List.drop_left]
 rw[this,d3u r hr]
theorem b5u (r:Int)(l:List Int):runesBytes (r::l)=Utf8.encode r++runesBytes l:=by
 have:∀(l:List Int) (a b:ByteArray),l.foldl (fun r n=>r++Utf8.encode n) (a++b)=a++l.foldl (fun r n=>r++Utf8.encode n) b:=by
  intro l
  induction l with
  | nil=>intro a b;rfl
  | cons x l ih=>intro a b;rw[List.foldl_cons,List.foldl_cons,ByteArray.append_assoc,ih]
 have h:=this l (Utf8.encode r) ByteArray.empty;rw[ByteArray.append_empty] at h;rw[runesBytes,List.foldl_cons,ByteArray.empty_append,h];rfl
theorem d2o (l:List Int)(hl:∀ r∈l,0≤r∧r<55296):∀(p:ByteArray) (b:Nat),(runesBytes l).size≤b→a1q (p++runesBytes l) b p.size=l:=by
 induction l with
 | nil =>
  intro p b _;have h0:runesBytes []=ByteArray.empty:=rfl;rw[h0,ByteArray.append_empty]
  cases b with
  | zero=>rfl
  | succ b=>rw[a1q,iN (by omega)]
 | cons r l ih =>
  intro p b hb;obtain⟨h0,h1⟩:=hl r (by simp);obtain⟨r,rfl⟩:=eZ h0;rw[b5u] at hb ⊢;rw[ByteArray.size_append] at hb;have hp:=d3z (r:Int)
  cases b with
  | zero=>omega
  | succ b =>
   rw[a1q,iP (by rw[ByteArray.size_append,ByteArray.size_append];omega),d3v r (by omega)];have:=ih (fun x hx=>hl x (by simp[hx])) (p++Utf8.encode (r:Int)) b (by omega);rw[ByteArray.size_append,ByteArray.append_assoc] at this;rw[this]
theorem b4n (l:List Int)(hl:∀ r∈l,0≤r∧r<55296):a0b (runesBytes l)=l:=by
 have:=d2o l hl ByteArray.empty (runesBytes l).size (Nat.le_refl _);rw[ByteArray.empty_append] at this;exact this
inductive c5z:List Int→Prop
 | nil:c5z []
 | snoc {S:List Int} {m:Int}:c5z S → -1≤m→m≤2→(m = -1∨m∉S)→c5z (S++[m])
theorem c5z.bd (h:c5z S):∀ x∈S,-1≤x∧x≤2:=by
 induction h with
 | nil=>simp
 | snoc _ h1 h2 _ ih=>intro x hx;simp at hx;rcases hx with hx|rfl;exact ih x hx;exact⟨h1,h2⟩
theorem b1z (nm:List Int):∀(l o m:List Int),a3a nm o (l++m)=(a3a nm o l).bind fun q=>a3a nm q m
 | [],o,m=>rfl
 | r::l,o,m=>by
  rw[List.cons_append,a3a,a3a]
  cases a2z nm o r with
  | none=>rfl
  | some q=>exact b1z nm l q m
structure NmOk (nm:List Int):Prop where
 rn:b5s nm nm.length
 bd:∀ r∈nm,r<55296
def svN (nm:List Int) (x:Int):Int:=if 0≤x∧x<nm.length then nm.getD x.toNat 0 else 46
theorem c9i {x:Int}(h:¬(0≤x∧x<nm.length)):svN nm x=46:=by rw[svN,iN h]
theorem c2f {j:Nat}{y:Int}(h:nm[j]?=some y):svN nm (j:Int)=y:=by
 have hj:=(lL h);rw[svN,iP ⟨by omega,by omega⟩,Int.toNat_natCast,gD,h];rfl
theorem d2q (nm:List Int)(x:Int):a6t nm x=Utf8.encode (svN nm x):=by
 by_cases h:0≤x∧x<nm.length
 ·rw[a6t,svN,iP h,iP h]
 ·rw[a6t,svN,iN h,iN h];kernel_rfl
theorem c3y (nm S:List Int):a3p nm S=runesBytes (S.map (svN nm)):=by
 have:∀(S:List Int) (o:ByteArray),S.foldl (fun o x=>o++a6t nm x) o=(S.map (svN nm)).foldl (fun r n=>r++Utf8.encode n) o:=by
  intro S
  induction S with
  | nil=>intro o;rfl
  | cons x S ih=>intro o;rw[List.foldl_cons,List.map_cons,List.foldl_cons,d2q,ih]
 exact this S _
theorem d3l (h:NmOk nm)(x:Int):0≤svN nm x∧svN nm x<55296:=by
 by_cases hx:0≤x∧x<nm.length
 ·obtain⟨j,rfl⟩:=eZ hx.1;obtain⟨y,hy⟩:∃ y,nm[j]?=some y:=gE (by omega);rw[c2f hy];have h1:=(h.rn.2.2.2 j y hy).1;have h2:=h.bd y (mG hy);unfold badR at h1;omega
 ·rw[c9i hx];omega
inductive b5b (k:Nat):List Int→Prop
 | nil:b5b k []
 | snoc {S:List Int} {m:Int}:b5b k S → -1≤m→m<k→(m = -1∨m∉S)→b5b k (S++[m])
theorem d2x {m:Int}(h:NmOk nm)(h1 : -1≤m)(h2:m<nm.length)(h3:m = -1∨m∉S):a2z nm S (svN nm m)=some (S++[m]):=by
 by_cases hm:m = -1
 ·subst hm;rw[c9i (by omega),a2z,iN (by decide),iP rfl]
 ·obtain⟨j,rfl⟩:=eZ (show 0≤m by omega);obtain⟨y,hy⟩:∃ y,nm[j]?=some y:=gE (by omega);rw[c2f hy];obtain⟨q1,q2⟩:=h.rn.2.2.2 j y hy;unfold badR at q1;rw[a2z,iN (by omega),iN (by omega),q2,iN (by omega),iN (h3.resolve_left hm)]
theorem c3p (h:NmOk nm)(hS:b5b nm.length S):a3a nm [] (S.map (svN nm))=some S:=by
 induction hS with
 | nil=>rfl
 | snoc _ h1 h2 h3 ih=>rw[List.map_append,b1z,ih,Option.bind_some];show(a2z _ _ _).bind _=_;rw[d2x h h1 h2 h3];rfl
theorem c5a (h:NmOk nm)(hS:b5b nm.length S)(hk:S.length=k)(h4:k≤4)(hn:nd.note=a3p nm S):a9l nm nd k=0:=by
 rw[a9l,hn,c3y,b4n _ (by intro r hr;obtain⟨x,_,rfl⟩:=List.mem_map.1 hr;exact d3l h x)];have hl:(S.map (svN nm)).length≤16:=by rw[List.length_map];omega
 by_cases he:S=[]
 ·rw[a3u hl (by rw[c3p h hS,he])]
 ·rw[a8p hl (c3p h hS) he (by omega)]
theorem b6g (hn:nd.note=⟨#[]⟩):a9l nm nd k=0:=by
 rw[a9l,hn,show a0b ⟨#[]⟩=[] from rfl,a3u (by simp) rfl]
theorem a6n {xs:List Int}{ns:Nat}:∀(m a:Nat) (used:List Bool) (acc:List Int),b5b ns acc→used.length=ns→(∀ j:Nat,j<ns→used.getD j true=false→(j:Int)∉acc)→b5b ns (acc++(a2k xs ns m a used).1)
 | 0,a,used,acc,h,_,_=>by rw[a2k,List.append_nil];exact h
 | m+1,a,used,acc,h,hl,hu=>by
  have hm:b5b ns (acc++[-1]):=h.snoc (by omega) (by omega) (.inl rfl)
  have hmu:∀ j:Nat,j<ns→used.getD j true=false→(j:Int)∉acc++[-1]:=fun j hj h1 h2=>by
   rcases List.mem_append.1 h2 with h2|h2
   ·exact hu j hj h1 h2
   ·rw[List.mem_singleton] at h2;omega
  unfold a2k
  split
  ·rename_i h0
   split
   ·have b0:=a0m xs (ta xs a 2) ns;have b1:=a3f xs (ta xs a 2) (show(0:Int)<ns by omega);obtain⟨q,hq⟩:=eZ b0;rw[hq] at b1 ⊢;rw[Int.toNat_natCast]
    split
    ·rename_i hf;rw[show acc++(q:Int)::_=(acc++[(q:Int)])++_ from by rw[List.append_assoc];rfl];refine a6n m _ _ _ (h.snoc (by omega) (by omega) (.inr (hu q (by omega) hf))) (by rw[List.length_set,hl]) fun j hj h1 h2=>?_
     have hne:j≠q:=fun e=>by
      subst e;rw[gD,List.getElem?_set_self (by omega)] at h1
      cases h1
     rw[gD,List.getElem?_set_ne (fun e=>hne e.symm),←gD] at h1;rcases List.mem_append.1 h2 with h2|h2
     ·exact hu j hj h1 h2
     ·simp at h2;omega
    ·rw[show acc++(-1:Int)::_=(acc++[-1])++_ from by rw[List.append_assoc];rfl];exact a6n m _ _ _ hm hl hmu
   ·rw[show acc++(-1:Int)::_=(acc++[-1])++_ from by rw[List.append_assoc];rfl];exact a6n m _ _ _ hm hl hmu
  ·rw[show acc++(-1:Int)::_=(acc++[-1])++_ from by rw[List.append_assoc];rfl];exact a6n m _ _ _ hm hl hmu
theorem d0v (ns m a:Nat):b5b ns (a2k xs ns m a (List.replicate ns false)).1:=by
 have:=a6n (xs:=xs) (ns:=ns) m a (List.replicate ns false) [] b5b.nil (by simp) (by simp);simpa using this
theorem c7t (xs:List Int)(a:Nat):∃ sz nm,a5c xs a=(sz,runesBytes nm)∧nm.length=sz.length∧sz.length≤3∧sz.all a9c=true∧Sh.pr sz≤8∧NmOk nm:=by
 have n0:NmOk []:=⟨⟨by decide,by decide,rfl,fun i x h=>by simp at h⟩,by simp⟩
 have n1:NmOk [120]:=⟨⟨by decide,by decide,rfl,fun i x h=>by
  match i,h with
  | 0,h=>simp at h;subst h;exact⟨by unfold badR;omega,rfl⟩
  | i+1,h=>simp at h⟩,by simp⟩
 have n2:NmOk [121,233]:=⟨⟨by decide,by decide,rfl,fun i x h=>by
  match i,h with
  | 0,h=>simp at h;subst h;exact⟨by unfold badR;omega,rfl⟩
  | 1,h=>simp at h;subst h;exact⟨by unfold badR;omega,rfl⟩
  | i+2,h=>simp at h⟩,by simp⟩
 have n3:NmOk [97,98,19990]:=⟨⟨by decide,by decide,rfl,fun i x h=>by
  match i,h with
  | 0,h=>simp at h;subst h;exact⟨by unfold badR;omega,rfl⟩
  | 1,h=>simp at h;subst h;exact⟨by unfold badR;omega,rfl⟩
  | 2,h=>simp at h;subst h;exact⟨by unfold badR;omega,rfl⟩
  | i+3,h=>simp at h⟩,by simp⟩
 have t0:(⟨#[]⟩:ByteArray)=runesBytes []:=by kernel_rfl
 have t1:(⟨#[120]⟩:ByteArray)=runesBytes [120]:=by kernel_rfl
 have t2:(⟨#[121,195,169]⟩:ByteArray)=runesBytes [121,233]:=by kernel_rfl
 have t3:(⟨#[97,98,228,184,150]⟩:ByteArray)=runesBytes [97,98,19990]:=by kernel_rfl
 have h1:=a0m xs a 10;have h2:=a3f xs a (show(0:Int)<10 by omega);obtain⟨q,hq⟩:=eZ h1;rw[hq] at h2;rw[a5c,hq,Int.toNat_natCast];have hc:q=0∨q=1∨q=2∨q=3∨q=4∨q=5∨q=6∨q=7∨q=8∨q=9:=by omega
 rcases hc with rfl|rfl|rfl|rfl|rfl|rfl|rfl|rfl|rfl|rfl
 ·exact⟨[2],[120],by rw[←t1];rfl,rfl,by decide,by decide,by decide,n1⟩
 ·exact⟨[3],[120],by rw[←t1];rfl,rfl,by decide,by decide,by decide,n1⟩
 ·exact⟨[2,2],[121,233],by rw[←t2];rfl,rfl,by decide,by decide,by decide,n2⟩
 ·exact⟨[4],[120],by rw[←t1];rfl,rfl,by decide,by decide,by decide,n1⟩
 ·exact⟨[2,3],[121,233],by rw[←t2];rfl,rfl,by decide,by decide,by decide,n2⟩
 ·exact⟨[],[],by rw[←t0];rfl,rfl,by decide,by decide,by decide,n0⟩
 ·exact⟨[2,2,2],[97,98,19990],by rw[←t3];rfl,rfl,by decide,by decide,by decide,n3⟩
 ·exact⟨[5],[120],by rw[←t1];rfl,rfl,by decide,by decide,by decide,n1⟩
 ·exact⟨[1,3],[121,233],by rw[←t2];rfl,rfl,by decide,by decide,by decide,n2⟩
 ·exact⟨[8],[120],by rw[←t1];rfl,rfl,by decide,by decide,by decide,n1⟩
theorem a4l (nm:List Int):∀(N M:List a0p) (acc L:List (List Int)),a0k nm acc N=(0,L)→a0k nm acc (N++M)=a0k nm L M
 | [],M,acc,L,h=>by
  have:acc=L:=by rw[a0k] at h;injection h
  subst this;rfl
 | nd::N,M,acc,L,h=>by
  rw[List.cons_append];unfold a0k at h
  conv=>lhs;unfold a0k
  split at h
  ·rename_i h1;rw[iP h1]
   split at h
   ·rename_i h2;rw[iP h2]
    split at h
    ·rename_i h3;rw[iP h3];exact a4l nm N M _ L h
    ·rename_i h3;injection h with h;exact absurd h h3
   ·rename_i h2;injection h with h;exact absurd h h2
  ·injection h with h;cases h
theorem a6f {z:List Int}(h1:b5d L nd.ins=true)(h2:a1a nd (a2d L nd.ins)=(0,z))(h3:a9l nm nd z.length=0):a0k nm L [nd]=(0,L++[z]):=by
 rw[a0k,iP h1,h2,iP rfl,iP h3,a0k]
theorem c0j (nd:a0p)(t:ByteArray)(L:List (List Int)):a1a (noted nd t) L=a1a nd L:=rfl
structure d0a (n:Nat) (nm:List Int) (S:KS):Prop where
 go:a0k nm [] S.nodes=(0,S.shapes)
 at_:S.at_≤n
 few:∀ nd∈S.nodes,nd.ins.length≤3
theorem c7h {n:Nat}{S:KS}(hx:xs.length=n)(h:NmOk nm)(g:d0a n nm S):d0a n nm (b9g xs nm.length nm S)∧(b9g xs nm.length nm S).nodes.length≤S.nodes.length+1:=by
 obtain⟨N,L,a⟩:=S;obtain⟨g1,g2,g3⟩:=g;have g1:a0k nm [] N=(0,L):=g1;have hm:=b9i (L:=L) hx g2;obtain⟨⟨nd,b⟩,hr⟩:∃ r,a5o xs a L=r:=⟨_,rfl⟩;have hr' : a5o xs a L=(nd,b):=hr;have hm' : a9f L.length n (nd,b):=by rw[←hr'];exact hm
 clear hm;obtain⟨⟨e,z⟩,hs⟩:∃ r,a1a nd (a2d L nd.ins)=r:=⟨_,rfl⟩;have hin:b5d L nd.ins=true:=b1e fun i x hi=>hm'.ins x (mG hi)
 by_cases hok:e=0∧Sh.size z≤400
 ·rw[b3r hr' hs hok];obtain⟨he,hz⟩:=hok;subst he;have hzr:Sh.right z=true:=by have:=a9q (nd:=nd) (L:=a2d L nd.ins);rw[hs] at this;exact this rfl
  have hz4:=(Sh.right_iff.1 hzr).1;simp only[kPut]
  split
  ·refine⟨⟨?_,?_,?_⟩,by simp⟩
   ·rw[a4l nm N _ [] L g1];exact a6f hin (by rw[c0j];exact hs) (c5a h (d0v nm.length z.length (ta xs b 3)) (a7b hx _ _ _ (a1f _ hx hm'.at_)).2 hz4 rfl)
   ·exact(a7b hx _ _ _ (a1f _ hx hm'.at_)).1
   ·intro x hx';rcases List.mem_append.1 hx' with hx' | hx'
    ·exact g3 x hx'
    ·rw[List.mem_singleton.1 hx'];exact hm'.few
  ·refine⟨⟨?_,?_,?_⟩,by simp⟩
   ·rw[a4l nm N _ [] L g1];exact a6f hin hs (b6g hm'.note)
   ·exact a1f _ hx hm'.at_
   ·intro x hx';rcases List.mem_append.1 hx' with hx' | hx'
    ·exact g3 x hx'
    ·rw[List.mem_singleton.1 hx'];exact hm'.few
 ·rw[a8m hr' hs hok];exact⟨⟨g1,hm'.at_,g3⟩,by simp⟩
theorem c7g {xs nm:List Int}{n:Nat}(hx:xs.length=n)(h:NmOk nm):∀(k:Nat) (S:KS),d0a n nm S→d0a n nm (kGo xs nm.length nm k S)∧(kGo xs nm.length nm k S).nodes.length≤S.nodes.length+k
 | 0,S,g=>⟨g,by simp[kGo]⟩
 | k+1,S,g=>by
  obtain⟨q1,q2⟩:=c7h hx h g;obtain⟨q3,q4⟩:=c7g hx h k _ q1;exact⟨q3,by rw[kGo];omega⟩
theorem c3d {xs:List Int}{m:Nat}:∀(k a:Nat),(b1g xs m k a).length≤k∧∀ x∈b1g xs m k a,0≤x∧x<(m:Int)
 | 0,a=>⟨by simp[b1g],by simp[b1g]⟩
 | k+1,a=>by
  obtain⟨q1,q2⟩:=c3d (xs:=xs) (m:=m) k (ta xs (ta xs a m) 2);rw[b1g]
  split
  ·exact⟨by simp,by simp⟩
  ·refine⟨by rw[List.length_cons];omega,fun x hx=>?_⟩;rcases List.mem_cons.1 hx with rfl|hx
   ·have h1:=a0m xs a m;have h2:=a3f xs a (show(0:Int)<(m:Int) by omega)
    split <;> omega
   ·exact q2 x hx
structure d5e (xs:List Int) (nm:List Int):Prop where
 names:(a0x xs).names=runesBytes nm
 ok:NmOk nm
 mesh:a5q (a0x xs)=true
 runes:a0b (a0x xs).names=nm
 go:a0k nm [] (a0x xs).nodes=(0,(a3k xs).shapes)
 few:∀ nd∈(a0x xs).nodes,nd.ins.length≤3
 len:(a0x xs).nodes.length≤9
 outs:(a0x xs).outs.length≤3
 outIn:∀ x∈(a0x xs).outs,0≤x∧x<((a3k xs).shapes.length:Int)
theorem a8k (xs:List Int):∃ nm,d5e xs nm:=by
 obtain⟨sz,nm,hM,hl,h3,hall,hpr,hnm⟩:=c7t xs 0
 have hrun:a0b (runesBytes nm)=nm:=b4n nm fun r hr=>by
  obtain⟨i,hi,e⟩:=List.getElem_of_mem hr;have h1:=(hnm.rn.2.2.2 i r (by rw[List.getElem?_eq_getElem hi,e])).1;have h2:=hnm.bd r hr;unfold badR at h1;omega
 have e1:a3k xs=kGo xs nm.length nm (1+tv xs (ta xs 0 10) 9).toNat ⟨[],[],ta xs (ta xs 0 10) 9⟩:=by
  rw[a3k,hM];simp only[];rw[hrun,hl]
 have hg:=c7g (xs:=xs) rfl hnm (1+tv xs (ta xs 0 10) 9).toNat ⟨[],[],ta xs (ta xs 0 10) 9⟩ ⟨rfl,a1f _ rfl (a1f _ rfl (Nat.zero_le _)),by simp⟩;rw[←e1] at hg;obtain⟨hg1,hg2⟩:=hg;have b0:=a0m xs (ta xs 0 10) 9;have b1:=a3f xs (ta xs 0 10) (show(0:Int)<9 by omega);have b2:=a0m xs (a3k xs).at_ 3;have b3:=a3f xs (a3k xs).at_ (show(0:Int)<3 by omega);obtain⟨o1,o2⟩:=c3d (xs:=xs) (m:=(a3k xs).shapes.length) (1+tv xs (a3k xs).at_ 3).toNat (ta xs (a3k xs).at_ 3);have hkn:(a0x xs).names=runesBytes nm:=by rw[a0x,hM]
 have hks:(a0x xs).sizes=sz:=by rw[a0x,hM]
 refine⟨nm,hkn,hnm,?_,by rw[hkn,hrun],hg1.go,hg1.few,?_,?_,o2⟩
 ·rw[b2p (by rw[hks];exact h3) (fun i x hi=>by
   rw[hks] at hi;have:=List.all_eq_true.1 hall x (mG hi)
   simpa [a9c] using this),hks,hkn,hrun,←hl,a6r hnm.rn]
  simpa using hpr
 ·have:(a0x xs).nodes.length=(a3k xs).nodes.length:=rfl;have h0:([]:List a0p).length=0:=rfl;simp only[List.length_nil] at hg2;omega
 ·have:(a0x xs).outs.length≤(1+tv xs (a3k xs).at_ 3).toNat:=o1;omega
theorem b0t (xs:List Int):a0z (a0x xs)=(0,(a3k xs).shapes)∧(a3k xs).shapes.length=(a0x xs).nodes.length:=by
 obtain⟨nm,h⟩:=a8k xs;have hl:=a8d nm _ _ _ h.go;refine⟨?_,by simpa using hl⟩;rw[a3w h.mesh ⟨by have:=h.len;omega,by have:=h.outs;omega⟩ (by rw[h.runes];exact h.go)];rw[iP (b0h fun i x hi=>by have:=h.outIn x (mG hi);simp at hl;omega)]
def Slim (nd:a0p):Prop:=nd.shape.length≤8∧nd.a.length≤8
theorem b9b (xs:List Int):∀(j a:Nat),(a7q xs j a).1.length=j
 | 0,_=>rfl
 | j+1,a=>by rw[a7q];simp only[List.length_cons,b9b xs j]
theorem c4r (xs:List Int)(a:Nat):(a2a xs a).1.length≤3:=by
 have h:=a3f xs a (show(0:Int)<4 by omega);rw[a2a,b9b];omega
theorem c3x (xs:List Int)(a:Nat):Slim (kSrc xs a).1:=by
 have h:=c4r xs (ta xs a 4);rw[kSrc]
 split
 ·exact⟨by show(a2a xs (ta xs a 4)).1.length≤8;omega,by show 0≤8;omega⟩
 ·split
  ·exact⟨by show((3::(a2a xs (ta xs a 4)).1).take 3).length≤8;rw[List.length_take];omega,by show 1≤8;omega⟩
  ·exact⟨by show(a2a xs (ta xs a 4)).1.length≤8;omega,by show 0≤8;omega⟩
theorem b9f (xs:List Int):∀(m j a:Nat) (p:List Int),(a8v xs m j a p).1.length=p.length+m
 | 0,_,_,_=>rfl
 | m+1,j,a,p=>by
  rw[a8v,b9f xs m];simp only[List.length_append,List.length_take,List.length_drop,List.length_singleton];omega
theorem c7l (k:Nat):∀(m j:Nat),(kAx k m j).length≤m
 | 0,_=>Nat.le_refl _
 | m+1,j=>by
  rw[kAx];have:=c7l k m (j+1)
  split
  ·omega
  ·rw[List.length_cons];omega
theorem b9a (xs:List Int):∀(s:List Int) (a:Nat),(a4i xs s a).1.1.length=s.length∧(a4i xs s a).1.2.length=s.length
 | [],_=>⟨rfl,rfl⟩
 | x::s,a=>by
  have h:=b9a xs s (ta xs (ta xs a (x+1)) (x-tv xs a (x+1)+1));rw[a4i];simp only[List.length_cons];omega
theorem b9e (xs:List Int):∀(m a:Nat),(a4o xs m a).1.1.length=m∧(a4o xs m a).1.2.length=m
 | 0,_=>⟨rfl,rfl⟩
 | m+1,a=>by
  have h:=b9e xs m (ta xs (ta xs a 3) 3);rw[a4o];simp only[List.length_cons];omega
theorem b6d (xs:List Int):∀(m j a:Nat),(a2j xs m j a).1.length≤m
 | 0,_,_=>Nat.le_refl _
 | m+1,j,a=>by
  have h:=b6d xs m (j+1) (ta xs a 2);rw[a2j]
  split
  ·simp only[List.length_cons];omega
  ·omega
theorem b9c (xs:List Int)(L:List (List Int))(s:List Int)(q:Nat):∀(m k a:Nat),Slim (kDot xs L s q m k a).1
 | 0,_,_=>⟨by show 0≤8;omega,by show 0≤8;omega⟩
 | m+1,k,a=>by
  rw[kDot]
  split
  ·exact⟨by show 0≤8;omega,by show 1≤8;omega⟩
  ·split
   ·exact⟨by show 0≤8;omega,by show 1≤8;omega⟩
   ·exact b9c xs L s q m (k+1) (ta xs a 3)
theorem d4t {K:Int}{b q:Nat}{s:List Int}(hs:s.length≤4):Slim (kOp K xs b q s L).1:=by
 have z:∀ n,n≤8→n≤8:=fun _ h=>h
 unfold kOp
 split
 ·exact⟨z 0 (by omega),z 0 (by omega)⟩
 split
 ·exact⟨z 0 (by omega),z 0 (by omega)⟩
 split
 ·exact⟨z 0 (by omega),z 0 (by omega)⟩
 split
 ·exact⟨z 0 (by omega),z 0 (by omega)⟩
 split
 ·exact⟨z 0 (by omega),by show(a8v xs s.length 0 b []).1.length≤8;rw[b9f];simp;omega⟩
 split
 ·rw[kOp5]
  split
  ·exact⟨z 0 (by omega),z 0 (by omega)⟩
  ·refine⟨?_,?_⟩
   ·show(s.take (tv xs b (s.length+1)).toNat++[1+tv xs (ta xs b (s.length+1)) 4]++s.drop (tv xs b (s.length+1)).toNat).length≤8
    simp only[List.length_append,List.length_take,List.length_drop,List.length_singleton];omega
   ·show(kAx (tv xs b (s.length+1)).toNat (s.length+1) 0).length≤8
    have:=c7l (tv xs b (s.length+1)).toNat (s.length+1) 0;omega
 split
 ·have h:=b9a xs s b;exact⟨z 0 (by omega),by show((a4i xs s b).1.1++(a4i xs s b).1.2).length≤8;rw[List.length_append];omega⟩
 split
 ·have h:=b9e xs s.length b;exact⟨z 0 (by omega),by show((a4o xs s.length b).1.1++(a4o xs s.length b).1.2).length≤8;rw[List.length_append];omega⟩
 split
 ·rw[kOp8]
  split
  ·exact⟨z 0 (by omega),z 0 (by omega)⟩
  ·exact⟨z 0 (by omega),z 1 (by omega)⟩
 split
 ·have h:=b6d xs s.length 0 b;exact⟨z 0 (by omega),by show(a2j xs s.length 0 b).1.length≤8;omega⟩
 split
 ·exact b9c _ _ _ _ _ _ _
 ·rw[b9d]
  split
  ·exact⟨z 0 (by omega),z 0 (by omega)⟩
  ·exact⟨z 0 (by omega),z 3 (by omega)⟩
theorem c9c {a:Nat}(hL:∀ s∈L,s.length≤4):Slim (a5o xs a L).1:=by
 rw[a5o]
 split
 ·exact c3x _ _
 split
 ·exact c3x _ _
 ·refine d4t ?_;rw[gD]
  cases e:L[(tv xs (ta xs a 5) L.length).toNat]? with
  | none=>simp
  | some s=>exact hL s (mG e)
structure c5x (S:KS):Prop where
 nodes:∀ nd∈S.nodes,Slim nd
 shapes:∀ s∈S.shapes,s.length≤4
theorem c9d {sz:Nat}{S:KS}(g:c5x S):c5x (b9g xs sz nm S):=by
 obtain⟨N,L,a⟩:=S;obtain⟨g1,g2⟩:=g;have hn:=c9c (xs:=xs) (a:=a) g2;obtain⟨⟨nd,b⟩,hr⟩:∃ r,a5o xs a L=r:=⟨_,rfl⟩;obtain⟨⟨e,z⟩,hs⟩:∃ r,a1a nd (a2d L nd.ins)=r:=⟨_,rfl⟩;have hn' : Slim nd:=by rw[show nd=(a5o xs a L).1 by rw[hr]];exact hn
 by_cases hok:e=0∧Sh.size z≤400
 ·rw[b3r hr hs hok];obtain⟨he,_⟩:=hok;subst he;have hzr:Sh.right z=true:=by have:=a9q (nd:=nd) (L:=a2d L nd.ins);rw[hs] at this;exact this rfl
  have hz4:=(Sh.right_iff.1 hzr).1
  have hsh:∀ s∈L++[z],s.length≤4:=fun s h=>by
   rcases List.mem_append.1 h with h|h
   ·exact g2 s h
   ·rw[List.mem_singleton.1 h];exact hz4
  simp only[kPut]
  split
  ·refine⟨fun x h=>?_,hsh⟩;rcases List.mem_append.1 h with h|h
   ·exact g1 x h
   ·rw[List.mem_singleton.1 h];exact hn'
  ·refine⟨fun x h=>?_,hsh⟩;rcases List.mem_append.1 h with h|h
   ·exact g1 x h
   ·rw[List.mem_singleton.1 h];exact hn'
 ·rw[a8m hr hs hok];exact⟨g1,g2⟩
theorem c9b {xs nm:List Int}{sz:Nat}:∀(k:Nat) (S:KS),c5x S→c5x (kGo xs sz nm k S)
 | 0,_,g=>g
 | k+1,_,g=>c9b k _ (c9d g)
theorem a9v (xs:List Int):FewG 10 (a0x xs):=by
 obtain⟨nm,h⟩:=a8k xs;have hs:c5x (a3k xs):=c9b _ _ ⟨by simp,by simp⟩;refine⟨by have:=h.len;omega,by have:=(b3p xs 0).1;show(a5c xs 0).1.length≤10;omega,by have:=h.outs;omega,fun j nd hj=>?_⟩;have hm:=mG hj;have h1:=h.few nd hm;have h2:=hs.nodes nd hm;exact⟨by omega,by have:=h2.1;omega,by have:=h2.2;omega⟩
theorem d3y {r:Int}(h1:11≤r)(h2:r<55296):cntN (Utf8.encode r)=0:=by
 obtain⟨c,rfl⟩:=eZ (show 0≤r by omega);have hv:Utf8.valid (c:Int)=true:=by simp[Utf8.valid];omega
 have q:∀ n:Nat,11≤n→n<256→(UInt8.ofNat n==10)=false:=by
  intro n g1 g2;rw[beq_eq_false_iff_ne];intro e;have:=congrArg UInt8.toNat e;simp at this;omega
 unfold Utf8.encode cntN;simp only[hv,if_true,Int.toNat_natCast]
 split
 ·simp only[List.count_cons,List.count_nil];rw[q c (by omega) (by omega)];rfl
 ·split
  ·simp only[List.count_cons,List.count_nil];rw[q _ (by omega) (by omega),q _ (by omega) (by omega)];rfl
  ·split
   ·simp only[List.count_cons,List.count_nil];rw[q _ (by omega) (by omega),q _ (by omega) (by omega),q _ (by omega) (by omega)];rfl
   ·omega
theorem b3b:∀(l:List Int),(∀ r∈l,11≤r∧r<55296)→cntN (runesBytes l)=0
 | [],_=>rfl
 | r::l,h=>by
  rw[b5u,a4f,b3b l (fun x hx=>h x (List.mem_cons_of_mem _ hx)),d3y (h r List.mem_cons_self).1 (h r List.mem_cons_self).2]
theorem d4z (h:NmOk nm)(x:Int):11≤svN nm x∧svN nm x<55296:=by
 refine⟨?_,(d3l h x).2⟩;by_cases hx:0≤x∧x<nm.length
 ·obtain⟨j,rfl⟩:=eZ hx.1;obtain⟨y,hy⟩:∃ y,nm[j]?=some y:=gE (by omega);rw[c2f hy];have h1:=(h.rn.2.2.2 j y hy).1;unfold badR at h1;omega
 ·rw[c9i hx];omega
theorem c8c (h:NmOk nm):cntN (runesBytes nm)=0:=b3b nm fun r hr=>by
 obtain⟨i,hi,e⟩:=List.getElem_of_mem hr;have h1:=(h.rn.2.2.2 i r (by rw[List.getElem?_eq_getElem hi,e])).1;have h2:=h.bd r hr;unfold badR at h1;omega
theorem c9m (h:NmOk nm)(S:List Int):cntN (a3p nm S)=0:=by
 rw[c3y]
 exact b3b _ fun r hr=>by
  obtain⟨x,_,rfl⟩:=List.mem_map.1 hr;exact d4z h x
theorem c8h (h:NmOk nm)(t:ByteArray)(r:Int):cntN (a7z nm t r)=0:=by
 unfold a7z;split
 ·exact c9m h _
 ·rfl
theorem c7m (h:NmOk nm)(o:ByteArray)(nd:a0p)(s:List Int):cntN (a8w nm o nd s)=cntN o+1:=by
 simp only[a8w,a4f,c8b,c7n,c3r,c8h h,show cntN spT=0 from rfl,show cntN lfT=1 from rfl]
theorem b6e {nm:List Int}(h:NmOk nm):∀(N:List a0p) (L:List (List Int)) (o:ByteArray),N.length=L.length→cntN (a3b nm o N L)=cntN o+N.length
 | [],[],o,_=>by simp[a3b]
 | nd::N,s::L,o,hl=>by
  rw[a3b,b6e h N L _ (by simpa using hl),c7m h];simp only[List.length_cons];omega
 | [],_::_,o,hl=>by simp at hl
 | _::_,[],o,hl=>by simp at hl
theorem c7s (h:NmOk nm)(hn:G.names=runesBytes nm):cntN (a5d G)=1:=by
 rw[a5d,a4f,b0g]
 have:cntN (if G.names=⟨#[]⟩ then b9j else b9k++G.names)=0:=by
  split
  ·rfl
  ·rw[a4f,hn,c8c h];rfl
 rw[this];rfl
theorem b6b (h:NmOk nm)(hn:G.names=runesBytes nm)(hr:a0b G.names=nm)(hl:G.nodes.length=L.length):cntN (a2i G L)=G.nodes.length+2:=by
 rw[a2i,a4f,b0g,a4f,hr,b6e h _ _ _ hl,c7s h hn,show cntN b5i=0 from rfl,show cntN lfT=1 from rfl];omega
theorem rn0:b5s [] 0:=⟨by decide,by decide,rfl,fun i x h=>by simp at h⟩
theorem rn1:b5s [120] 1:=⟨by decide,by decide,rfl,fun i x h=>by
 match i,h with
 | 0,h=>simp at h;subst h;exact⟨by unfold badR;omega,rfl⟩
 | i+1,h=>simp at h⟩
theorem c7u {G':a2g}(h:G.sizes=G'.sizes)(g:G.names=G'.names):a5q G=a5q G':=by unfold a5q;rw[h,g]
def a9z:a2g:=⟨[],⟨#[]⟩,[],[]⟩
theorem d5n (N:List a0p)(O:List Int):a5q ⟨[],⟨#[]⟩,N,O⟩=true:=by
 rw[b2p (by show 0≤3;omega) (fun i x h=>by simp at h)]
 show(decide (Sh.pr []≤8)&&a6e (a0b ⟨#[]⟩) 0)=true
 rw[show a0b ⟨#[]⟩=[] from rfl,a6r rn0];decide
theorem a9r:a0z a9z=(0,[]):=by
 rw[a3w (G:=a9z) (d5n _ _) ⟨by show 0≤48;omega,by show 0≤48;omega⟩ (l:=[]) rfl];rfl
end Go.Proofs.YtajhdeddgdhccaaGreatDoor
