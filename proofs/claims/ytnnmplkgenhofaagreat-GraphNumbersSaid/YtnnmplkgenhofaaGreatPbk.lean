import Derived.Laws.Cover4
import Derived.Lib.TrimUEq
import Derived.Test.YtnnmplkgenhofaaGreatPav
import Derived.Test.YtnnmplkgenhofaaGreatPbg
import Derived.Test.YtnnmplkgenhofaaGreatPbh
import Derived.Test.YtnnmplkgenhofaaGreatPbj
set_option maxRecDepth 100000
set_option maxHeartbeats 12800000
namespace Go.Proofs.YtnnmplkgenhofaaGreat
open Go.RowKit
theorem u8_of (n:Nat) (h:n<256):(UInt8.ofNat n).toNat=n:=by simp;omega
theorem dec_enc (r:Nat) (hr:r<55296) (t:List UInt8):Lib.decodeL ((Utf8.encode (r:Int)).data.toList++t)=(r,(Utf8.encode (r:Int)).size):=by
 have hv:Utf8.valid (r:Int)=true:=by simp[Utf8.valid];omega
 rw[Lib.decodeL_N];unfold Utf8.encode;simp only[hv,if_true,Int.toNat_natCast];by_cases h1:r<128
 ·simp only[h1,if_true];simp only[List.cons_append,List.nil_append,List.getD_cons_zero,List.getD_cons_succ];rw[u8_of r (by omega),Lib.decodeN,if_pos (by omega)]
  rfl
 ·by_cases h2:r<2048
  ·simp only[h1,h2,if_true,if_false];simp only[List.cons_append,List.nil_append,List.getD_cons_zero,List.getD_cons_succ,List.length_cons];rw[u8_of (192+r / 64) (by omega),u8_of (128+r % 64) (by omega),Lib.decodeN,if_neg (by omega),if_pos ⟨by omega,by omega,by omega⟩,if_pos (by omega)];exact Prod.ext (show(192+r / 64) % 32*64+(128+r % 64) % 64=r by omega) rfl
  ·simp only[h1,h2,show r<65536 from by omega,if_true,if_false];simp only[List.cons_append,List.nil_append,List.getD_cons_zero,List.getD_cons_succ,List.length_cons];rw[u8_of (224+r / 4096) (by omega),u8_of (128+r / 64 % 64) (by omega),u8_of (128+r % 64) (by omega),Lib.decodeN,if_neg (by omega),if_neg (by omega),if_pos ⟨by omega,⟨by omega,by omega⟩,by omega,by omega⟩,if_pos ⟨by omega,by omega⟩];exact Prod.ext (show(224+r / 4096) % 16*4096+(128+r / 64 % 64) % 64*64+(128+r % 64) % 64=r by omega) rfl
theorem enc_pos (r:Int):1≤(Utf8.encode r).size:=by
 unfold Utf8.encode;simp only
 repeat' split
 all_goals simp[ByteArray.size]
theorem toL (s:ByteArray):s.data.toList.length=s.size:=Array.length_toList
theorem dec_mid (r:Nat) (hr:r<55296) (p q:ByteArray):Utf8.decode (p++(Utf8.encode (r:Int)++q)) p.size=(r,(Utf8.encode (r:Int)).size):=by
 rw[← Lib.decodeL_drop]
 have:(p++(Utf8.encode (r:Int)++q)).data.toList.drop p.size=(Utf8.encode (r:Int)).data.toList++q.data.toList:=by
  simp only[ByteArray.data_append,Array.toList_append];rw[← toL p,List.drop_left]
 rw[this,dec_enc r hr]
theorem bytes_cons (r:Int) (l:List Int):runesBytes (r::l)=Utf8.encode r++runesBytes l:=by
 have:∀(l:List Int) (a b:ByteArray),l.foldl (fun r n=>r++Utf8.encode n) (a++b)=a++l.foldl (fun r n=>r++Utf8.encode n) b:=by
  intro l
  induction l with
  | nil=>intro a b;rfl
  | cons x l ih=>intro a b;rw[List.foldl_cons,List.foldl_cons,ByteArray.append_assoc,ih]
 have h:=this l (Utf8.encode r) ByteArray.empty;rw[ByteArray.append_empty] at h;rw[runesBytes,List.foldl_cons,ByteArray.empty_append,h];rfl
theorem runes_at (l:List Int) (hl:∀ r∈l,0≤r∧r<55296):∀(p:ByteArray) (b:Nat),(runesBytes l).size≤b→runesAt (p++runesBytes l) b p.size=l:=by
 induction l with
 | nil =>
  intro p b _;have h0:runesBytes []=ByteArray.empty:=rfl;rw[h0,ByteArray.append_empty]
  cases b with
  | zero=>rfl
  | succ b=>rw[runesAt,if_neg (by omega)]
 | cons r l ih =>
  intro p b hb;obtain⟨h0,h1⟩:=hl r (by simp);obtain⟨r,rfl⟩:=Int.eq_ofNat_of_zero_le h0;rw[bytes_cons] at hb ⊢;rw[ByteArray.size_append] at hb;have hp:=enc_pos (r:Int)
  cases b with
  | zero=>omega
  | succ b =>
   rw[runesAt,if_pos (by rw[ByteArray.size_append,ByteArray.size_append];omega),dec_mid r (by omega)];have:=ih (fun x hx=>hl x (by simp[hx])) (p++Utf8.encode (r:Int)) b (by omega);rw[ByteArray.size_append,ByteArray.append_assoc] at this;rw[this]
theorem runes_bytes (l:List Int) (hl:∀ r∈l,0≤r∧r<55296):runesOf (runesBytes l)=l:=by
 have:=runes_at l hl ByteArray.empty (runesBytes l).size (Nat.le_refl _);rw[ByteArray.empty_append] at this;exact this
inductive Spec9:List Int→Prop
 | nil:Spec9 []
 | snoc {S:List Int} {m:Int}:Spec9 S → -1≤m→m≤2→(m = -1∨m∉S)→Spec9 (S++[m])
theorem Spec9.bd {S:List Int} (h:Spec9 S):∀ x∈S,-1≤x∧x≤2:=by
 induction h with
 | nil=>simp
 | snoc _ h1 h2 _ ih=>intro x hx;simp at hx;rcases hx with hx|rfl;exact ih x hx;exact⟨h1,h2⟩
theorem noteL_append (nm:List Int):∀(l o m:List Int),noteL nm o (l++m)=(noteL nm o l).bind fun q=>noteL nm q m
 | [],o,m=>rfl
 | r::l,o,m=>by
  rw[List.cons_append,noteL,noteL]
  cases noteStep nm o r with
  | none=>rfl
  | some q=>exact noteL_append nm l q m
structure NmOk (nm:List Int):Prop where
 rn:RightN nm nm.length
 bd:∀ r∈nm,r<55296
def svN (nm:List Int) (x:Int):Int:=if 0≤x∧x<nm.length then nm.getD x.toNat 0 else 46
theorem svN_no {nm:List Int} {x:Int} (h:¬ (0≤x∧x<nm.length)):svN nm x=46:=by rw[svN,if_neg h]
theorem svN_yes {nm:List Int} {j:Nat} {y:Int} (h:nm[j]? = some y):svN nm (j:Int)=y:=by
 have hj:=(List.getElem?_eq_some_iff.1 h).1;rw[svN,if_pos ⟨by omega,by omega⟩,Int.toNat_natCast,List.getD_eq_getElem?_getD,h];rfl
theorem signT_sv (nm:List Int) (x:Int):signT nm x=Utf8.encode (svN nm x):=by
 by_cases h:0≤x∧x<nm.length
 ·rw[signT,svN,if_pos h,if_pos h]
 ·rw[signT,svN,if_neg h,if_neg h];kernel_rfl
theorem textF_sv (nm S:List Int):textF nm S=runesBytes (S.map (svN nm)):=by
 have:∀(S:List Int) (o:ByteArray),S.foldl (fun o x=>o++signT nm x) o=(S.map (svN nm)).foldl (fun r n=>r++Utf8.encode n) o:=by
  intro S
  induction S with
  | nil=>intro o;rfl
  | cons x S ih=>intro o;rw[List.foldl_cons,List.map_cons,List.foldl_cons,signT_sv,ih]
 exact this S _
theorem svN_bd {nm:List Int} (h:NmOk nm) (x:Int):0≤svN nm x∧svN nm x<55296:=by
 by_cases hx:0≤x∧x<nm.length
 ·obtain⟨j,rfl⟩:=Int.eq_ofNat_of_zero_le hx.1;obtain⟨y,hy⟩:∃ y,nm[j]? = some y:=⟨_,List.getElem?_eq_getElem (by omega)⟩;rw[svN_yes hy];have h1:=(h.rn.2.2.2 j y hy).1;have h2:=h.bd y (List.mem_of_getElem? hy);unfold badR at h1;omega
 ·rw[svN_no hx];omega
inductive SpecN (k:Nat):List Int→Prop
 | nil:SpecN k []
 | snoc {S:List Int} {m:Int}:SpecN k S → -1≤m→m<k→(m = -1∨m∉S)→SpecN k (S++[m])
theorem step_svN {nm S:List Int} {m:Int} (h:NmOk nm) (h1 : -1≤m) (h2:m<nm.length) (h3:m = -1∨m∉S):noteStep nm S (svN nm m)=some (S++[m]):=by
 by_cases hm:m = -1
 ·subst hm;rw[svN_no (by omega),noteStep,if_neg (by decide),if_pos rfl]
 ·obtain⟨j,rfl⟩:=Int.eq_ofNat_of_zero_le (show 0≤m by omega);obtain⟨y,hy⟩:∃ y,nm[j]? = some y:=⟨_,List.getElem?_eq_getElem (by omega)⟩;rw[svN_yes hy];obtain⟨q1,q2⟩:=h.rn.2.2.2 j y hy;unfold badR at q1;rw[noteStep,if_neg (by omega),if_neg (by omega),q2,if_neg (by omega),if_neg (h3.resolve_left hm)]
theorem note_svN {nm S:List Int} (h:NmOk nm) (hS:SpecN nm.length S):noteL nm [] (S.map (svN nm))=some S:=by
 induction hS with
 | nil=>rfl
 | snoc _ h1 h2 h3 ih=>rw[List.map_append,noteL_append,ih,Option.bind_some];show(noteStep _ _ _).bind _=_;rw[step_svN h h1 h2 h3];rfl
theorem noteE_text {nm S:List Int} {nd:NodeV} {k:Nat} (h:NmOk nm) (hS:SpecN nm.length S) (hk:S.length=k) (h4:k≤4) (hn:nd.note=textF nm S):noteE nm nd k=0:=by
 rw[noteE,hn,textF_sv,runes_bytes _ (by intro r hr;obtain⟨x,_,rfl⟩:=List.mem_map.1 hr;exact svN_bd h x)];have hl:(S.map (svN nm)).length≤16:=by rw[List.length_map];omega
 by_cases he:S=[]
 ·rw[noteR_blank hl (by rw[note_svN h hS,he])]
 ·rw[noteR_ok hl (note_svN h hS) he (by omega)]
theorem noteE_none {nm:List Int} {nd:NodeV} {k:Nat} (hn:nd.note=⟨#[]⟩):noteE nm nd k=0:=by
 rw[noteE,hn,show runesOf ⟨#[]⟩=[] from rfl,noteR_blank (by simp) rfl]
theorem kSpec_spec {xs:List Int} {ns:Nat}:∀(m a:Nat) (used:List Bool) (acc:List Int),SpecN ns acc→used.length=ns→(∀ j:Nat,j<ns→used.getD j true=false→(j:Int)∉acc)→SpecN ns (acc++(kSpec xs ns m a used).1)
 | 0,a,used,acc,h,_,_=>by rw[kSpec,List.append_nil];exact h
 | m+1,a,used,acc,h,hl,hu=>by
  have hm:SpecN ns (acc++[-1]):=h.snoc (by omega) (by omega) (.inl rfl)
  have hmu:∀ j:Nat,j<ns→used.getD j true=false→(j:Int)∉acc++[-1]:=fun j hj h1 h2=>by
   rcases List.mem_append.1 h2 with h2|h2
   ·exact hu j hj h1 h2
   ·rw[List.mem_singleton] at h2;omega
  unfold kSpec
  split
  ·rename_i h0
   split
   ·have b0:=tv_nonneg xs (ta xs a 2) ns;have b1:=tv_lt xs (ta xs a 2) (show(0:Int)<ns by omega);obtain⟨q,hq⟩:=Int.eq_ofNat_of_zero_le b0;rw[hq] at b1 ⊢;rw[Int.toNat_natCast]
    split
    ·rename_i hf;rw[show acc++(q:Int)::_=(acc++[(q:Int)])++_ from by rw[List.append_assoc];rfl];refine kSpec_spec m _ _ _ (h.snoc (by omega) (by omega) (.inr (hu q (by omega) hf))) (by rw[List.length_set,hl]) fun j hj h1 h2=>?_
     have hne:j≠q:=fun e=>by
      subst e;rw[List.getD_eq_getElem?_getD,List.getElem?_set_self (by omega)] at h1
      cases h1
     rw[List.getD_eq_getElem?_getD,List.getElem?_set_ne (fun e=>hne e.symm),← List.getD_eq_getElem?_getD] at h1;rcases List.mem_append.1 h2 with h2|h2
     ·exact hu j hj h1 h2
     ·simp at h2;omega
    ·rw[show acc++(-1:Int)::_=(acc++[-1])++_ from by rw[List.append_assoc];rfl];exact kSpec_spec m _ _ _ hm hl hmu
   ·rw[show acc++(-1:Int)::_=(acc++[-1])++_ from by rw[List.append_assoc];rfl];exact kSpec_spec m _ _ _ hm hl hmu
  ·rw[show acc++(-1:Int)::_=(acc++[-1])++_ from by rw[List.append_assoc];rfl];exact kSpec_spec m _ _ _ hm hl hmu
theorem kSpec_ok {xs:List Int} (ns m a:Nat):SpecN ns (kSpec xs ns m a (List.replicate ns false)).1:=by
 have:=kSpec_spec (xs:=xs) (ns:=ns) m a (List.replicate ns false) [] SpecN.nil (by simp) (by simp);simpa using this
theorem mesh_fine (xs:List Int) (a:Nat):∃ sz nm,kMesh xs a=(sz,runesBytes nm)∧nm.length=sz.length∧sz.length≤3∧sz.all sizeOk=true∧Sh.pr sz≤8∧NmOk nm:=by
 have n0:NmOk []:=⟨⟨by decide,by decide,rfl,fun i x h=>by simp at h⟩,by simp⟩
 have n1:NmOk [120]:=⟨⟨by decide,by decide,rfl,fun i x h=>by
  match i,h with
  | 0,h=>simp at h;subst h;exact⟨by unfold badR;omega,rfl⟩
  | i+1,h=>simp at h⟩,by simp⟩
 have n2:NmOk [121,233]:=⟨⟨by decide,by decide,rfl,fun i x h=>by
  match i,h with
  | 0,h=>simp at h;subst h;exact⟨by unfold badR;omega,rfl⟩
  | 1,h=>simp at h;subst h;exact⟨by unfold badR;omega,rfl⟩
  | i+2,h=>simp at h⟩,by simp⟩
 have n3:NmOk [97,98,19990]:=⟨⟨by decide,by decide,rfl,fun i x h=>by
  match i,h with
  | 0,h=>simp at h;subst h;exact⟨by unfold badR;omega,rfl⟩
  | 1,h=>simp at h;subst h;exact⟨by unfold badR;omega,rfl⟩
  | 2,h=>simp at h;subst h;exact⟨by unfold badR;omega,rfl⟩
  | i+3,h=>simp at h⟩,by simp⟩
 have t0:(⟨#[]⟩:ByteArray)=runesBytes []:=by kernel_rfl
 have t1:(⟨#[120]⟩:ByteArray)=runesBytes [120]:=by kernel_rfl
 have t2:(⟨#[121,195,169]⟩:ByteArray)=runesBytes [121,233]:=by kernel_rfl
 have t3:(⟨#[97,98,228,184,150]⟩:ByteArray)=runesBytes [97,98,19990]:=by kernel_rfl
 have h1:=tv_nonneg xs a 10;have h2:=tv_lt xs a (show(0:Int)<10 by omega);obtain⟨q,hq⟩:=Int.eq_ofNat_of_zero_le h1;rw[hq] at h2;rw[kMesh,hq,Int.toNat_natCast];have hc:q=0∨q=1∨q=2∨q=3∨q=4∨q=5∨q=6∨q=7∨q=8∨q=9:=by omega
 rcases hc with rfl|rfl|rfl|rfl|rfl|rfl|rfl|rfl|rfl|rfl
 ·exact⟨[2],[120],by rw[← t1];rfl,rfl,by decide,by decide,by decide,n1⟩
 ·exact⟨[3],[120],by rw[← t1];rfl,rfl,by decide,by decide,by decide,n1⟩
 ·exact⟨[2,2],[121,233],by rw[← t2];rfl,rfl,by decide,by decide,by decide,n2⟩
 ·exact⟨[4],[120],by rw[← t1];rfl,rfl,by decide,by decide,by decide,n1⟩
 ·exact⟨[2,3],[121,233],by rw[← t2];rfl,rfl,by decide,by decide,by decide,n2⟩
 ·exact⟨[],[],by rw[← t0];rfl,rfl,by decide,by decide,by decide,n0⟩
 ·exact⟨[2,2,2],[97,98,19990],by rw[← t3];rfl,rfl,by decide,by decide,by decide,n3⟩
 ·exact⟨[5],[120],by rw[← t1];rfl,rfl,by decide,by decide,by decide,n1⟩
 ·exact⟨[1,3],[121,233],by rw[← t2];rfl,rfl,by decide,by decide,by decide,n2⟩
 ·exact⟨[8],[120],by rw[← t1];rfl,rfl,by decide,by decide,by decide,n1⟩
theorem shapesGo_append (nm:List Int):∀(N M:List NodeV) (acc L:List (List Int)),shapesGo nm acc N=(0,L)→shapesGo nm acc (N++M)=shapesGo nm L M
 | [],M,acc,L,h=>by
  have:acc=L:=by rw[shapesGo] at h;injection h
  subst this;rfl
 | nd::N,M,acc,L,h=>by
  rw[List.cons_append];unfold shapesGo at h
  conv=>lhs;unfold shapesGo
  split at h
  ·rename_i h1;rw[if_pos h1]
   split at h
   ·rename_i h2;rw[if_pos h2]
    split at h
    ·rename_i h3;rw[if_pos h3];exact shapesGo_append nm N M _ L h
    ·rename_i h3;injection h with h;exact absurd h h3
   ·rename_i h2;injection h with h;exact absurd h h2
  ·injection h with h;cases h
theorem shapesGo_one {nm:List Int} {L:List (List Int)} {nd:NodeV} {z:List Int} (h1:insOk L nd.ins=true) (h2:shapeR nd (insOf L nd.ins)=(0,z)) (h3:noteE nm nd z.length=0):shapesGo nm L [nd]=(0,L++[z]):=by
 rw[shapesGo,if_pos h1,h2,if_pos rfl,if_pos h3,shapesGo]
theorem shapeR_noted (nd:NodeV) (t:ByteArray) (L:List (List Int)):shapeR (noted nd t) L=shapeR nd L:=rfl
structure GoodK (n:Nat) (nm:List Int) (S:KS):Prop where
 go:shapesGo nm [] S.nodes=(0,S.shapes)
 at_:S.at_≤n
 few:∀ nd∈S.nodes,nd.ins.length≤3
theorem good_step {xs nm:List Int} {n:Nat} {S:KS} (hx:xs.length=n) (h:NmOk nm) (g:GoodK n nm S):GoodK n nm (kStep xs nm.length nm S)∧(kStep xs nm.length nm S).nodes.length≤S.nodes.length+1:=by
 obtain⟨N,L,a⟩:=S;obtain⟨g1,g2,g3⟩:=g;have g1:shapesGo nm [] N=(0,L):=g1;have hm:=made_node (L:=L) hx g2;obtain⟨⟨nd,b⟩,hr⟩:∃ r,kNode xs a L=r:=⟨_,rfl⟩;have hr' : kNode xs a L=(nd,b):=hr;have hm' : MadeK L.length n (nd,b):=by rw[← hr'];exact hm
 clear hm;obtain⟨⟨e,z⟩,hs⟩:∃ r,shapeR nd (insOf L nd.ins)=r:=⟨_,rfl⟩;have hin:insOk L nd.ins=true:=insOk_good fun i x hi=>hm'.ins x (List.mem_of_getElem? hi)
 by_cases hok:e=0∧Sh.size z≤400
 ·rw[kStep_put hr' hs hok];obtain⟨he,hz⟩:=hok;subst he;have hzr:Sh.right z=true:=by have:=shape_right (nd:=nd) (L:=insOf L nd.ins);rw[hs] at this;exact this rfl
  have hz4:=(Sh.right_iff.1 hzr).1;simp only[kPut]
  split
  ·refine⟨⟨?_,?_,?_⟩,by simp⟩
   ·rw[shapesGo_append nm N _ [] L g1];exact shapesGo_one hin (by rw[shapeR_noted];exact hs) (noteE_text h (kSpec_ok nm.length z.length (ta xs b 3)) (kSpec_le hx _ _ _ (ta_le _ hx hm'.at_)).2 hz4 rfl)
   ·exact(kSpec_le hx _ _ _ (ta_le _ hx hm'.at_)).1
   ·intro x hx';rcases List.mem_append.1 hx' with hx' | hx'
    ·exact g3 x hx'
    ·rw[List.mem_singleton.1 hx'];exact hm'.few
  ·refine⟨⟨?_,?_,?_⟩,by simp⟩
   ·rw[shapesGo_append nm N _ [] L g1];exact shapesGo_one hin hs (noteE_none hm'.note)
   ·exact ta_le _ hx hm'.at_
   ·intro x hx';rcases List.mem_append.1 hx' with hx' | hx'
    ·exact g3 x hx'
    ·rw[List.mem_singleton.1 hx'];exact hm'.few
 ·rw[kStep_skip hr' hs hok];exact⟨⟨g1,hm'.at_,g3⟩,by simp⟩
theorem good_go {xs nm:List Int} {n:Nat} (hx:xs.length=n) (h:NmOk nm):∀(k:Nat) (S:KS),GoodK n nm S→GoodK n nm (kGo xs nm.length nm k S)∧(kGo xs nm.length nm k S).nodes.length≤S.nodes.length+k
 | 0,S,g=>⟨g,by simp[kGo]⟩
 | k+1,S,g=>by
  obtain⟨q1,q2⟩:=good_step hx h g;obtain⟨q3,q4⟩:=good_go hx h k _ q1;exact⟨q3,by rw[kGo];omega⟩
theorem kOuts_in {xs:List Int} {m:Nat}:∀(k a:Nat),(kOuts xs m k a).length≤k∧∀ x∈kOuts xs m k a,0≤x∧x<(m:Int)
 | 0,a=>⟨by simp[kOuts],by simp[kOuts]⟩
 | k+1,a=>by
  obtain⟨q1,q2⟩:=kOuts_in (xs:=xs) (m:=m) k (ta xs (ta xs a m) 2);rw[kOuts]
  split
  ·exact⟨by simp,by simp⟩
  ·refine⟨by rw[List.length_cons];omega,fun x hx=>?_⟩;rcases List.mem_cons.1 hx with rfl|hx
   ·have h1:=tv_nonneg xs a m;have h2:=tv_lt xs a (show(0:Int)<(m:Int) by omega)
    split <;> omega
   ·exact q2 x hx
structure GraphK (xs:List Int) (nm:List Int):Prop where
 names:(kGraph xs).names=runesBytes nm
 ok:NmOk nm
 mesh:meshF (kGraph xs)=true
 runes:runesOf (kGraph xs).names=nm
 go:shapesGo nm [] (kGraph xs).nodes=(0,(kBody xs).shapes)
 few:∀ nd∈(kGraph xs).nodes,nd.ins.length≤3
 len:(kGraph xs).nodes.length≤9
 outs:(kGraph xs).outs.length≤3
 outIn:∀ x∈(kGraph xs).outs,0≤x∧x<((kBody xs).shapes.length:Int)
theorem graph_fine (xs:List Int):∃ nm,GraphK xs nm:=by
 obtain⟨sz,nm,hM,hl,h3,hall,hpr,hnm⟩:=mesh_fine xs 0
 have hrun:runesOf (runesBytes nm)=nm:=runes_bytes nm fun r hr=>by
  obtain⟨i,hi,e⟩:=List.getElem_of_mem hr;have h1:=(hnm.rn.2.2.2 i r (by rw[List.getElem?_eq_getElem hi,e])).1;have h2:=hnm.bd r hr;unfold badR at h1;omega
 have e1:kBody xs=kGo xs nm.length nm (1+tv xs (ta xs 0 10) 9).toNat ⟨[],[],ta xs (ta xs 0 10) 9⟩:=by
  rw[kBody,hM];simp only[];rw[hrun,hl]
 have hg:=good_go (xs:=xs) rfl hnm (1+tv xs (ta xs 0 10) 9).toNat ⟨[],[],ta xs (ta xs 0 10) 9⟩ ⟨rfl,ta_le _ rfl (ta_le _ rfl (Nat.zero_le _)),by simp⟩;rw[← e1] at hg;obtain⟨hg1,hg2⟩:=hg;have b0:=tv_nonneg xs (ta xs 0 10) 9;have b1:=tv_lt xs (ta xs 0 10) (show(0:Int)<9 by omega);have b2:=tv_nonneg xs (kBody xs).at_ 3;have b3:=tv_lt xs (kBody xs).at_ (show(0:Int)<3 by omega);obtain⟨o1,o2⟩:=kOuts_in (xs:=xs) (m:=(kBody xs).shapes.length) (1+tv xs (kBody xs).at_ 3).toNat (ta xs (kBody xs).at_ 3);have hkn:(kGraph xs).names=runesBytes nm:=by rw[kGraph,hM]
 have hks:(kGraph xs).sizes=sz:=by rw[kGraph,hM]
 refine⟨nm,hkn,hnm,?_,by rw[hkn,hrun],hg1.go,hg1.few,?_,?_,o2⟩
 ·rw[mesh_end (by rw[hks];exact h3) (fun i x hi=>by
   rw[hks] at hi;have:=List.all_eq_true.1 hall x (List.mem_of_getElem? hi)
   simpa [sizeOk] using this),hks,hkn,hrun,← hl,rightB_yes hnm.rn]
  simpa using hpr
 ·have:(kGraph xs).nodes.length=(kBody xs).nodes.length:=rfl;have h0:([]:List NodeV).length=0:=rfl;simp only[List.length_nil] at hg2;omega
 ·have:(kGraph xs).outs.length≤(1+tv xs (kBody xs).at_ 3).toNat:=o1;omega
def Few (q:Nat) (nd:NodeV):Prop:=nd.ins.length≤q∧nd.shape.length≤q∧nd.a.length≤q
structure FewG (q:Nat) (G:GraphV):Prop where
 nodes:G.nodes.length≤q
 sizes:G.sizes.length≤q
 outs:G.outs.length≤q
 each:∀(j:Nat) (nd:NodeV),G.nodes[j]? = some nd→Few q nd
theorem FewG.small {q:Nat} {G:GraphV} (h:FewG q G):SmallG q G:=fun j nd hj=>(h.each j nd hj).1
def Slim (nd:NodeV):Prop:=nd.shape.length≤8∧nd.a.length≤8
theorem kDims_len (xs:List Int):∀(j a:Nat),(kDims xs j a).1.length=j
 | 0,_=>rfl
 | j+1,a=>by rw[kDims];simp only[List.length_cons,kDims_len xs j]
theorem kShape_len (xs:List Int) (a:Nat):(kShape xs a).1.length≤3:=by
 have h:=tv_lt xs a (show(0:Int)<4 by omega);rw[kShape,kDims_len];omega
theorem slim_src (xs:List Int) (a:Nat):Slim (kSrc xs a).1:=by
 have h:=kShape_len xs (ta xs a 4);rw[kSrc]
 split
 ·exact⟨by show(kShape xs (ta xs a 4)).1.length≤8;omega,by show 0≤8;omega⟩
 ·split
  ·exact⟨by show((3::(kShape xs (ta xs a 4)).1).take 3).length≤8;rw[List.length_take];omega,by show 1≤8;omega⟩
  ·exact⟨by show(kShape xs (ta xs a 4)).1.length≤8;omega,by show 0≤8;omega⟩
theorem kPerm_len (xs:List Int):∀(m j a:Nat) (p:List Int),(kPerm xs m j a p).1.length=p.length+m
 | 0,_,_,_=>rfl
 | m+1,j,a,p=>by
  rw[kPerm,kPerm_len xs m];simp only[List.length_append,List.length_take,List.length_drop,List.length_singleton];omega
theorem kAx_len (k:Nat):∀(m j:Nat),(kAx k m j).length≤m
 | 0,_=>Nat.le_refl _
 | m+1,j=>by
  rw[kAx];have:=kAx_len k m (j+1)
  split
  ·omega
  ·rw[List.length_cons];omega
theorem kCuts_len (xs:List Int):∀(s:List Int) (a:Nat),(kCuts xs s a).1.1.length=s.length∧(kCuts xs s a).1.2.length=s.length
 | [],_=>⟨rfl,rfl⟩
 | x::s,a=>by
  have h:=kCuts_len xs s (ta xs (ta xs a (x+1)) (x-tv xs a (x+1)+1));rw[kCuts];simp only[List.length_cons];omega
theorem kPads_len (xs:List Int):∀(m a:Nat),(kPads xs m a).1.1.length=m∧(kPads xs m a).1.2.length=m
 | 0,_=>⟨rfl,rfl⟩
 | m+1,a=>by
  have h:=kPads_len xs m (ta xs (ta xs a 3) 3);rw[kPads];simp only[List.length_cons];omega
theorem kFolds_len (xs:List Int):∀(m j a:Nat),(kFolds xs m j a).1.length≤m
 | 0,_,_=>Nat.le_refl _
 | m+1,j,a=>by
  have h:=kFolds_len xs m (j+1) (ta xs a 2);rw[kFolds]
  split
  ·simp only[List.length_cons];omega
  ·omega
theorem kDot_slim (xs:List Int) (L:List (List Int)) (s:List Int) (q:Nat):∀(m k a:Nat),Slim (kDot xs L s q m k a).1
 | 0,_,_=>⟨by show 0≤8;omega,by show 0≤8;omega⟩
 | m+1,k,a=>by
  rw[kDot]
  split
  ·exact⟨by show 0≤8;omega,by show 1≤8;omega⟩
  ·split
   ·exact⟨by show 0≤8;omega,by show 1≤8;omega⟩
   ·exact kDot_slim xs L s q m (k+1) (ta xs a 3)
theorem slim_op {K:Int} {xs:List Int} {b q:Nat} {s:List Int} {L:List (List Int)} (hs:s.length≤4):Slim (kOp K xs b q s L).1:=by
 have z:∀ n,n≤8→n≤8:=fun _ h=>h
 unfold kOp
 split
 ·exact⟨z 0 (by omega),z 0 (by omega)⟩
 split
 ·exact⟨z 0 (by omega),z 0 (by omega)⟩
 split
 ·exact⟨z 0 (by omega),z 0 (by omega)⟩
 split
 ·exact⟨z 0 (by omega),z 0 (by omega)⟩
 split
 ·exact⟨z 0 (by omega),by show(kPerm xs s.length 0 b []).1.length≤8;rw[kPerm_len];simp;omega⟩
 split
 ·rw[kOp5]
  split
  ·exact⟨z 0 (by omega),z 0 (by omega)⟩
  ·refine⟨?_,?_⟩
   ·show(s.take (tv xs b (s.length+1)).toNat++[1+tv xs (ta xs b (s.length+1)) 4]++s.drop (tv xs b (s.length+1)).toNat).length≤8
    simp only[List.length_append,List.length_take,List.length_drop,List.length_singleton];omega
   ·show(kAx (tv xs b (s.length+1)).toNat (s.length+1) 0).length≤8
    have:=kAx_len (tv xs b (s.length+1)).toNat (s.length+1) 0;omega
 split
 ·have h:=kCuts_len xs s b;exact⟨z 0 (by omega),by show((kCuts xs s b).1.1++(kCuts xs s b).1.2).length≤8;rw[List.length_append];omega⟩
 split
 ·have h:=kPads_len xs s.length b;exact⟨z 0 (by omega),by show((kPads xs s.length b).1.1++(kPads xs s.length b).1.2).length≤8;rw[List.length_append];omega⟩
 split
 ·rw[kOp8]
  split
  ·exact⟨z 0 (by omega),z 0 (by omega)⟩
  ·exact⟨z 0 (by omega),z 1 (by omega)⟩
 split
 ·have h:=kFolds_len xs s.length 0 b;exact⟨z 0 (by omega),by show(kFolds xs s.length 0 b).1.length≤8;omega⟩
 split
 ·exact kDot_slim _ _ _ _ _ _ _
 ·rw[kOp11]
  split
  ·exact⟨z 0 (by omega),z 0 (by omega)⟩
  ·exact⟨z 0 (by omega),z 3 (by omega)⟩
theorem slim_node {xs:List Int} {a:Nat} {L:List (List Int)} (hL:∀ s∈L,s.length≤4):Slim (kNode xs a L).1:=by
 rw[kNode]
 split
 ·exact slim_src _ _
 split
 ·exact slim_src _ _
 ·refine slim_op ?_;rw[List.getD_eq_getElem?_getD]
  cases e:L[(tv xs (ta xs a 5) L.length).toNat]? with
  | none=>simp
  | some s=>exact hL s (List.mem_of_getElem? e)
structure SlimK (S:KS):Prop where
 nodes:∀ nd∈S.nodes,Slim nd
 shapes:∀ s∈S.shapes,s.length≤4
theorem slim_step {xs nm:List Int} {sz:Nat} {S:KS} (g:SlimK S):SlimK (kStep xs sz nm S):=by
 obtain⟨N,L,a⟩:=S;obtain⟨g1,g2⟩:=g;have hn:=slim_node (xs:=xs) (a:=a) g2;obtain⟨⟨nd,b⟩,hr⟩:∃ r,kNode xs a L=r:=⟨_,rfl⟩;obtain⟨⟨e,z⟩,hs⟩:∃ r,shapeR nd (insOf L nd.ins)=r:=⟨_,rfl⟩;have hn' : Slim nd:=by rw[show nd=(kNode xs a L).1 by rw[hr]];exact hn
 by_cases hok:e=0∧Sh.size z≤400
 ·rw[kStep_put hr hs hok];obtain⟨he,_⟩:=hok;subst he;have hzr:Sh.right z=true:=by have:=shape_right (nd:=nd) (L:=insOf L nd.ins);rw[hs] at this;exact this rfl
  have hz4:=(Sh.right_iff.1 hzr).1
  have hsh:∀ s∈L++[z],s.length≤4:=fun s h=>by
   rcases List.mem_append.1 h with h|h
   ·exact g2 s h
   ·rw[List.mem_singleton.1 h];exact hz4
  simp only[kPut]
  split
  ·refine⟨fun x h=>?_,hsh⟩;rcases List.mem_append.1 h with h|h
   ·exact g1 x h
   ·rw[List.mem_singleton.1 h];exact hn'
  ·refine⟨fun x h=>?_,hsh⟩;rcases List.mem_append.1 h with h|h
   ·exact g1 x h
   ·rw[List.mem_singleton.1 h];exact hn'
 ·rw[kStep_skip hr hs hok];exact⟨g1,g2⟩
theorem slim_go {xs nm:List Int} {sz:Nat}:∀(k:Nat) (S:KS),SlimK S→SlimK (kGo xs sz nm k S)
 | 0,_,g=>g
 | k+1,_,g=>slim_go k _ (slim_step g)
theorem few_graph (xs:List Int):FewG 10 (kGraph xs):=by
 obtain⟨nm,h⟩:=graph_fine xs;have hs:SlimK (kBody xs):=slim_go _ _ ⟨by simp,by simp⟩;refine⟨by have:=h.len;omega,by have:=(kMesh_small xs 0).1;show(kMesh xs 0).1.length≤10;omega,by have:=h.outs;omega,fun j nd hj=>?_⟩;have hm:=List.mem_of_getElem? hj;have h1:=h.few nd hm;have h2:=hs.nodes nd hm;exact⟨by omega,by have:=h2.1;omega,by have:=h2.2;omega⟩
def ownP (s:List Int):Int × List Int:=if Sh.right s=true then(0,s) else(13,[])
def countP (s a:List Int):Int × List Int:=if Sh.right s=true then(if a.length=1∧0≤a.getD 0 0∧a.getD 0 0<s.length then(0,s) else(1,[])) else(13,[])
open Classical in
noncomputable def turnedP (s a:List Int):Int × List Int:=if TuOk s a then(0,turnS s a) else(1,[])
open Classical in
noncomputable def spreadP (s o a:List Int):Int × List Int:=if Sh.right o=true then(if SpOk s o a then(0,o) else(1,[])) else(13,[])
def slicedP (s a:List Int):Int × List Int:=if a.length=2*s.length∧cutOk s (a.take s.length) (a.drop s.length)=true then(0,a.drop s.length) else(1,[])
open Classical in
noncomputable def paddedP (s a:List Int):Int × List Int:=if a.length=2*s.length∧PadOk s (a.take s.length) (a.drop s.length) then ownP (padS s (a.take s.length) (a.drop s.length)) else(1,[])
def totL (ax:Nat) (L:List (List Int)):Int:=L.foldl (fun a s=>a+s.getD ax 0) 0
def FitAll (ax:Nat) (L:List (List Int)):Prop:=∀ s∈L,fitAx (L.getD 0 []) ax s
open Classical in
noncomputable def joinedP (L:List (List Int)) (a:List Int):Int × List Int :=
 if a.length=1∧0≤a.getD 0 0∧a.getD 0 0<(L.getD 0 []).length then(if FitAll (a.getD 0 0).toNat L then ownP ((L.getD 0 []).set (a.getD 0 0).toNat (totL (a.getD 0 0).toNat L)) else(13,[])) else(1,[])
open Classical in
noncomputable def foldedP (how:Int) (s a:List Int):Int × List Int:=if howOk how=true∧Rises a s.length then ownP (rest a s) else(1,[])
def multP (s t a:List Int):Int × List Int:=if a.length=1 then dsR s t (a.getD 0 0) else(1,[])
def windowedP (how:Int) (s a:List Int):Int × List Int:=if a.length=3∧howOk how=true∧winAx s (a.getD 0 0)=true∧winOk (a.getD 1 0) (a.getD 2 0)=true then(0,winS s (a.getD 0 0).toNat (a.getD 1 0) (a.getD 2 0)) else(1,[])
open Classical in
noncomputable def commonP (L:List (List Int)):Int × List Int:=if ∀ s∈L,s=L.getD 0 [] then(0,L.getD 0 []) else(13,[])
end Go.Proofs.YtnnmplkgenhofaaGreat
