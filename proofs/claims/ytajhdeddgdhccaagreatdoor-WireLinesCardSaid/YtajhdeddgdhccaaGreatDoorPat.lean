import Derived.Test.YtajhdeddgdhccaaGreatDoorPar
set_option maxRecDepth 100000
set_option maxHeartbeats 12800000
namespace Go.Proofs.YtajhdeddgdhccaaGreatDoor
open Go.RowKit Go.Proofs.Tryz
variable {a b d k s t:List Int} {i j n:Nat}
def dotS (a b:List Int) (n:Nat):List Int:=a.take (a.length-1)++b.drop (n+1)
def a4y (a b:List Int) (n:Nat):Bool:=Sh.right a&&Sh.right b&&decide (a.take n=b.take n)&&decide (a.getD (a.length-1) 0=b.getD n 0)
def dsOk (a b:List Int) (n:Int):Bool:=decide (0≤n)&&decide (n<a.length)&&decide (n<b.length)
def dsR (a b:List Int) (n:Int):Int × List Int :=
 if dsOk a b n then(if a4y a b n.toNat then(if Sh.right (dotS a b n.toNat) then(0,dotS a b n.toNat) else(13,[])) else(13,[])) else(1,[])
theorem b2m {n:Int}:dsOk a b n=true↔0≤n∧n<a.length∧n<b.length:=by simp[dsOk,and_assoc]
theorem a9h {n:Int}(h:¬(0≤n∧n<a.length∧n<b.length)):dsR a b n=(1,[]):=by
 rw[dsR,iN (by rw[b2m];exact h)]
theorem a4g (h:n<a.length∧n<b.length)(g:a4y a b n=false):dsR a b n=(13,[]):=by
 rw[dsR,iP (b2m.2 ⟨by omega,by omega,by omega⟩),Int.toNat_natCast,g];rfl
theorem b1a (h:n<a.length∧n<b.length)(g:a4y a b n=true)(f:Sh.right (dotS a b n)=false):dsR a b n=(13,[]):=by
 rw[dsR,iP (b2m.2 ⟨by omega,by omega,by omega⟩),Int.toNat_natCast,iP g,f];rfl
theorem c2u (h:n<a.length∧n<b.length)(g:a4y a b n=true)(f:Sh.right (dotS a b n)=true):dsR a b n=(0,dotS a b n):=by
 rw[dsR,iP (b2m.2 ⟨by omega,by omega,by omega⟩),Int.toNat_natCast,iP g,iP f]
structure b8k (a b:List Int) (n:Nat):Prop where
 la:n<a.length
 lb:n<b.length
 ra:Sh.right a=true
 rb:Sh.right b=true
 pre:a.take n=b.take n
 mid:a.getD (a.length-1) 0=b.getD n 0
 rs:Sh.right (dotS a b n)=true
theorem a8i:a4y a b n=true↔Sh.right a=true∧Sh.right b=true∧a.take n=b.take n∧a.getD (a.length-1) 0=b.getD n 0:=by
 simp[a4y,and_assoc]
theorem b7f {n:Int}(h:(dsR a b n).1=0):∃ k:Nat,n=k∧b8k a b k∧dsR a b n=(0,dotS a b k):=by
 by_cases h0:0≤n∧n<a.length∧n<b.length
 ·obtain⟨k,rfl⟩:=eZ h0.1;have hk:k<a.length∧k<b.length:=⟨by omega,by omega⟩
  cases g:a4y a b k with
  | false=>rw[a4g hk g] at h;cases h
  | true =>
   cases f:Sh.right (dotS a b k) with
   | false=>rw[b1a hk g f] at h;cases h
   | true =>
    obtain⟨h1,h2,h3,h4⟩:=a8i.1 g;exact⟨k,rfl,⟨hk.1,hk.2,h1,h2,h3,h4,f⟩,c2u hk g f⟩
 ·rw[a9h h0] at h;cases h
theorem d5j (h:b8k a b n):dsR a b n=(0,dotS a b n):=c2u ⟨h.la,h.lb⟩ (a8i.2 ⟨h.ra,h.rb,h.pre,h.mid⟩) h.rs
def dotB (t:List Int) (n:Nat):Nat:=(Sh.pd (t.drop (n+1))).toNat
def dotA (s:List Int) (n:Nat):Nat:=(Sh.pd ((s.drop n).take (s.length-1-n))).toNat
def dotM (t:List Int) (n:Nat):Nat:=(t.getD n 0).toNat
def dotT (d k:List Int) (A B M i j:Nat):Int:=wrap64 (d.getD (i / B*M+j) 0*k.getD ((i / (A*B)*M+j)*B+i % B) 0)
def d3h (d k:List Int) (A B M i:Nat):Nat→Int
 | 0=>0
 | J+1=>wrap64 (d3h d k A B M i J+dotT d k A B M i J)
def dotV (s d t k:List Int) (n i J:Nat):Int:=d3h d k (dotA s n) (dotB t n) (dotM t n) i J
def dotD (s d t k:List Int) (n:Nat):List Int:=gen (Sh.size (dotS s t n)).toNat fun i=>dotV s d t k n i (dotM t n)
def dotR (s d t k:List Int) (n:Int):Int × List Int × List Int :=
 if a0a s d&&a0a t k then(if (dsR s t n).1=0 then(0,(dsR s t n).2,dotD s d t k n.toNat) else refused (dsR s t n).1) else refused 13
theorem b5v {n:Int}(h:(a0a s d&&a0a t k)=false):dotR s d t k n=refused 13:=by rw[dotR,h];rfl
theorem b5w {n:Int}(h:(a0a s d&&a0a t k)=true)(g:(dsR s t n).1≠0):dotR s d t k n=refused (dsR s t n).1:=by rw[dotR,iP h,iN g]
theorem c6l (h:(a0a s d&&a0a t k)=true)(g:b8k s t n):dotR s d t k n=(0,dotS s t n,dotD s d t k n):=by
 rw[dotR,iP h,d5j g,iP rfl,Int.toNat_natCast]
theorem c0w (s d t k:List Int)(n:Nat):(dotD s d t k n).length=(Sh.size (dotS s t n)).toNat:=a4s _ _
theorem a6b (a b:List Int)(ha:∀ x∈a,0≤x)(hb:0≤Sh.pd b)(i:Int):Sh.place (a++b) i=Sh.place a (i / Sh.pd b)++Sh.place b i:=by
 induction a with
 | nil=>rfl
 | cons x a ih =>
  rw[List.cons_append,Sh.place,Sh.place,List.cons_append,ih (fun y hy=>ha y (by simp[hy])),Sh.pd_append,Int.mul_comm (Sh.pd a),←Int.ediv_ediv_of_nonneg hb]
theorem a8n:∀(a b p q:List Int),p.length=a.length→Sh.lin (a++b) (p++q)=Sh.lin a p*Sh.pd b+Sh.lin b q
 | [],b,[],q,_=>by simp[Sh.lin]
 | [],b,_::_,q,h=>by simp at h
 | x::a,b,[],q,h=>by simp at h
 | x::a,b,y::p,q,h=>by
  rw[List.cons_append,List.cons_append,Sh.lin,Sh.lin,a8n a b p q (by simpa using h),Sh.pd_append,Int.add_mul,Int.mul_assoc];omega
theorem a5k {p q:List Int}(hl:p.length=a.length)(h:Sh.within a p=true)(g:Sh.within b q=true):Sh.within (a++b) (p++q)=true:=by
 rw[Sh.within_iff] at *;rw[List.zip_append hl.symm];intro x hx;rcases List.mem_append.1 hx with hx|hx
 ·exact h x hx
 ·exact g x hx
theorem b8t (h:b8k s t n):∃(hd u v:List Int) (m:Int),hd.length=n∧s=hd++u++[m]∧t=hd++m::v∧dotS s t n=hd++u++v∧u.length=s.length-1-n∧dotA s n=(Sh.pd u).toNat∧dotB t n=(Sh.pd v).toNat∧dotM t n=m.toNat:=by
 have hla:=h.la;have hlb:=h.lb
 have e1:s.take (s.length-1)++[s.getD (s.length-1) 0]=s:=by
  have:=List.take_append_drop (s.length-1) s;rw[List.drop_eq_getElem_cons (by omega),show s.length-1+1=s.length by omega,List.drop_length] at this;rw[gD,List.getElem?_eq_getElem (by omega)];exact this
 have e2:t.take n++t.getD n 0::t.drop (n+1)=t:=by
  have:=List.take_append_drop n t;rw[List.drop_eq_getElem_cons (by omega)] at this;rw[gD,List.getElem?_eq_getElem (by omega)];exact this
 have e3:s.take n++(s.drop n).take (s.length-1-n)=s.take (s.length-1):=by
  have:=List.take_append_drop n (s.take (s.length-1));rw[List.take_take,List.drop_take,show min n (s.length-1)=n by omega] at this;exact this
 refine⟨s.take n,(s.drop n).take (s.length-1-n),t.drop (n+1),t.getD n 0,by simp;omega,?_,?_,?_,by simp;omega,rfl,rfl,rfl⟩
 ·rw[e3,←h.mid];exact e1.symm
 ·rw[h.pre];exact e2.symm
 ·rw[e3];rfl
theorem d5u (m:Int):Sh.pd [m]=m:=by simp[Sh.pd]
theorem c6o (h:b8k s t n)(hi:(i:Int)<Sh.size (dotS s t n))(hj:j<dotM t n):
  ((Sh.placeOf (dotS s t n) i).take (s.length-1)++[(j:Int)]).length=s.length∧Sh.within s ((Sh.placeOf (dotS s t n) i).take (s.length-1)++[(j:Int)])=true ∧
  Sh.index s ((Sh.placeOf (dotS s t n) i).take (s.length-1)++[(j:Int)])=((i / dotB t n*dotM t n+j:Nat):Int):=by
 obtain⟨hd,u,v,m,hn,es,et,eS,hul,eA,eB,eM⟩:=b8t h;have hp:∀ x∈hd++u++v,1≤x∧x≤32:=by rw[←eS];exact(Sh.size_pos (by omega) hi).2
 have hw:=Sh.within_place hp i;have hpv:0<Sh.pd v:=c3t fun x hx=>(hp x (by simp[hx])).1
 have hm:0≤m:=by
  have:=(Sh.right_iff.1 h.ra).2.1 m (by rw[es];simp);exact this.1
 have hsl:(hd++u).length=s.length-1:=by rw[es];simp
 have e1:Sh.placeOf (dotS s t n) i=Sh.place (hd++u) (i / Sh.pd v)++Sh.place v i:=by
  rw[(a1g hi).1,eS];exact a6b _ _ (fun x hx=>by have:=hp x (List.mem_append.2 (.inl hx));omega) (by omega) _
 have e2:(Sh.placeOf (dotS s t n) i).take (s.length-1)=Sh.place (hd++u) (i / Sh.pd v):=by
  rw[e1,←hsl,List.take_append_of_le_length (by rw[Sh.place_length];omega),List.take_of_length_le (by rw[Sh.place_length];omega)]
 have hl:(Sh.place (hd++u) (i / Sh.pd v)++[(j:Int)]).length=s.length:=by
  rw[List.length_append,Sh.place_length,hsl,List.length_singleton];have:=h.la;omega
 have hwi:Sh.within s (Sh.place (hd++u) (i / Sh.pd v)++[(j:Int)])=true:=by
  rw[es];refine a5k (Sh.place_length _ _) (Sh.within_place (fun x hx=>hp x (List.mem_append.2 (.inl hx))) _) ?_;rw[Sh.within_iff];intro x hx;simp at hx;subst hx;exact⟨by simp,by rw[eM] at hj;simp;omega⟩
 rw[e2];refine⟨hl,hwi,?_⟩;rw[Sh.index_of h.ra hl hwi,Sh.hor_lin hl,es,a8n _ _ _ _ (Sh.place_length _ _),d5u,Sh.lin_place _ (fun x hx=>by have:=hp x (List.mem_append.2 (.inl hx));omega)]
 have hlt:(i:Int) / Sh.pd v<Sh.pd (hd++u):=by
  have:=hi;rw[Sh.size_of h.rs,Sh.pr_pd,eS,Sh.pd_append] at this;exact Int.ediv_lt_of_lt_mul hpv this
 rw[Int.emod_eq_of_lt (Int.ediv_nonneg (by omega) (by omega)) hlt];simp only[Sh.lin,Sh.pd,Int.mul_one,Int.add_zero];rw[eB,eM];obtain⟨V,hV⟩:=eZ (show 0≤Sh.pd v by omega);obtain⟨M,hM⟩:=eZ hm;rw[hV,hM]
 push_cast
 simp
theorem c6n (h:b8k s t n)(hi:(i:Int)<Sh.size (dotS s t n))(hj:j<dotM t n):
  ((Sh.placeOf (dotS s t n) i).take n++[(j:Int)]++(Sh.placeOf (dotS s t n) i).drop (s.length-1)).length=t.length∧Sh.within t ((Sh.placeOf (dotS s t n) i).take n++[(j:Int)]++(Sh.placeOf (dotS s t n) i).drop (s.length-1))=true ∧
  Sh.index t ((Sh.placeOf (dotS s t n) i).take n++[(j:Int)]++(Sh.placeOf (dotS s t n) i).drop (s.length-1))=(((i / (dotA s n*dotB t n)*dotM t n+j)*dotB t n+i % dotB t n:Nat):Int):=by
 obtain⟨hd,u,v,m,hn,es,et,eS,hul,eA,eB,eM⟩:=b8t h;have hp:∀ x∈hd++u++v,1≤x∧x≤32:=by rw[←eS];exact(Sh.size_pos (by omega) hi).2
 have hpv:0<Sh.pd v:=c3t fun x hx=>(hp x (by simp[hx])).1
 have hpu:0<Sh.pd u:=c3t fun x hx=>(hp x (by simp[hx])).1
 have hm:0≤m:=((Sh.right_iff.1 h.ra).2.1 m (by rw[es];simp)).1;have hsl:(hd++u).length=s.length-1:=by rw[es];simp
 have e1:Sh.placeOf (dotS s t n) i=Sh.place hd (i / (Sh.pd u*Sh.pd v))++(Sh.place u (i / Sh.pd v)++Sh.place v i):=by
  rw[(a1g hi).1,eS,List.append_assoc,a6b hd (u++v) (fun x hx=>by have:=hp x (by simp[hx]);omega) (by rw[Sh.pd_append];exact Int.mul_nonneg (by omega) (by omega)),
   a6b u v (fun x hx=>by have:=hp x (by simp[hx]);omega) (by omega),Sh.pd_append]
 have e2:(Sh.placeOf (dotS s t n) i).take n=Sh.place hd (i / (Sh.pd u*Sh.pd v)):=by
  rw[e1,List.take_append_of_le_length (by rw[Sh.place_length];omega),List.take_of_length_le (by rw[Sh.place_length];omega)]
 have e3:(Sh.placeOf (dotS s t n) i).drop (s.length-1)=Sh.place v i:=by
  rw[e1,←List.append_assoc,←hsl,List.drop_append_of_le_length (by simp[Sh.place_length]),List.drop_of_length_le (by simp[Sh.place_length])];rfl
 have hl:(Sh.place hd (i / (Sh.pd u*Sh.pd v))++[(j:Int)]++Sh.place v i).length=t.length:=by
  rw[et];simp[Sh.place_length]
 have hwi:Sh.within t (Sh.place hd (i / (Sh.pd u*Sh.pd v))++[(j:Int)]++Sh.place v i)=true:=by
  rw[et,List.append_assoc];refine a5k (Sh.place_length _ _) (Sh.within_place (fun x hx=>hp x (by simp[hx])) _) ?_;refine a5k (a:=[m]) (p:=[(j:Int)]) rfl ?_ (Sh.within_place (fun x hx=>hp x (by simp[hx])) _);rw[Sh.within_iff];intro x hx;simp at hx;subst hx;exact⟨by simp,by rw[eM] at hj;simp;omega⟩
 rw[e2,e3];refine⟨hl,hwi,?_⟩
 have el:Sh.lin t (Sh.place hd (i / (Sh.pd u*Sh.pd v))++[(j:Int)]++Sh.place v i)=Sh.lin hd (Sh.place hd (i / (Sh.pd u*Sh.pd v)))*(m*Sh.pd v)+(j*Sh.pd v+Sh.lin v (Sh.place v i)):=by
  rw[et,List.append_assoc,a8n _ _ _ _ (Sh.place_length _ _)];rfl
 rw[Sh.index_of h.rb hl hwi,Sh.hor_lin hl,el,Sh.lin_place _ (fun x hx=>by have:=hp x (by simp[hx]);omega),Sh.lin_place _ (fun x hx=>by have:=hp x (by simp[hx]);omega)]
 have hlt:(i:Int) / (Sh.pd u*Sh.pd v)<Sh.pd hd:=by
  have:=hi;rw[Sh.size_of h.rs,Sh.pr_pd,eS,List.append_assoc,Sh.pd_append,Sh.pd_append] at this;exact Int.ediv_lt_of_lt_mul (Int.mul_pos hpu hpv) this
 rw[Int.emod_eq_of_lt (Int.ediv_nonneg (by omega) (Int.le_of_lt (Int.mul_pos hpu hpv))) hlt];rw[eA,eB,eM];obtain⟨V,hV⟩:=eZ (show 0≤Sh.pd v by omega);obtain⟨U,hU⟩:=eZ (show 0≤Sh.pd u by omega);obtain⟨M,hM⟩:=eZ hm;rw[hV,hU,hM];simp only[Int.toNat_natCast]
 push_cast
 rw[Int.add_mul,Int.mul_assoc];omega
theorem d0f (h:b8k s t n)(hi:(i:Int)<Sh.size (dotS s t n))(hj:j<dotM t n):
  wrap64 (num s d ((Sh.placeOf (dotS s t n) i).take (s.length-1)++[(j:Int)])*num t k ((Sh.placeOf (dotS s t n) i).take n++[(j:Int)]++(Sh.placeOf (dotS s t n) i).drop (s.length-1)))=dotT d k (dotA s n) (dotB t n) (dotM t n) i j:=by
 obtain⟨_,_,h1⟩:=c6o h hi hj;obtain⟨_,_,h2⟩:=c6n h hi hj;rw[num,num,h1,h2,dotT];simp only[Int.toNat_natCast]
theorem c6m (h:b8k s t n)(hi:(i:Int)<Sh.size (dotS s t n))(hj:j<dotM t n):
  wrap64 (dotV s d t k n i j+wrap64 (num s d ((Sh.placeOf (dotS s t n) i).take (s.length-1)++[(j:Int)])*num t k ((Sh.placeOf (dotS s t n) i).take n++[(j:Int)]++(Sh.placeOf (dotS s t n) i).drop (s.length-1))))=dotV s d t k n i (j+1):=by
 rw[d0f h hi hj];rfl
end Go.Proofs.YtajhdeddgdhccaaGreatDoor
