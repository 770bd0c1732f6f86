import Derived.Test.YtajhdeddgdhccaaGreatDoorPas
import Derived.Test.YtajhdeddgdhccaaGreatDoorPat
set_option maxRecDepth 100000
set_option maxHeartbeats 12800000
namespace Go.Proofs.YtajhdeddgdhccaaGreatDoor
open Go.RowKit Go.Proofs.Tryz
variable {apart ax how n r wide:Int} {d s:List Int} {i j:Nat}
def winN (n wide apart:Int):Int:=if n<0∨wide<1∨apart<1∨n<wide then 0 else(n-wide) / apart+1
theorem a7h (h:n<0∨wide<1∨apart<1∨n<wide):winN n wide apart=0:=by rw[winN,iP h]
theorem b2w (h:¬(n<0∨wide<1∨apart<1∨n<wide)):winN n wide apart=(n-wide) / apart+1:=by rw[winN,iN h]
theorem b8h:0≤winN n wide apart∧(0≤n→winN n wide apart≤n):=by
 by_cases h:n<0∨wide<1∨apart<1∨n<wide
 ·rw[a7h h];omega
 ·rw[b2w h];have h1:=Int.ediv_nonneg (a:=n-wide) (b:=apart) (by omega) (by omega);have h2:=Int.ediv_le_self (a:=n-wide) apart (by omega);omega
theorem d5x {j:Int}(hr:0≤r)(h:r<winN n wide apart)(hj:0≤j)(hjw:j<wide)(ha:1≤apart):0≤r*apart+j∧r*apart+j<n:=by
 by_cases hc:n<0∨wide<1∨apart<1∨n<wide
 ·rw[a7h hc] at h;omega
 ·rw[b2w hc] at h;have h1:r*apart≤(n-wide) / apart*apart:=Int.mul_le_mul_of_nonneg_right (by omega) (by omega);have h2:=Int.ediv_mul_le (n-wide) (show apart≠0 by omega);have h3:0≤r*apart:=Int.mul_nonneg hr (by omega);omega
def b0w (wide apart:Int):Bool:=decide (1≤wide)&&decide (wide≤32)&&decide (1≤apart)&&decide (apart≤32)
theorem b0x:b0w wide apart=true↔1≤wide∧wide≤32∧1≤apart∧apart≤32:=by simp[b0w,and_assoc]
def b1n (s:List Int) (ax:Int):Bool:=decide (0≤ax)&&decide (ax<s.length)
theorem a8f:b1n s ax=true↔0≤ax∧ax<s.length:=by simp[b1n]
def winS (s:List Int) (ax:Nat) (wide apart:Int):List Int:=s.set ax (winN (s.getD ax 0) wide apart)
def winB (s:List Int) (ax:Nat):Nat:=(Sh.pd (s.drop (ax+1))).toNat
def d5d (n N B apart i j:Nat):Nat:=(i / (N*B)*n+(i / B % N*apart+j))*B+i % B
def winV (how:Int) (d:List Int) (n N B apart i:Nat):Nat→Int
 | 0=>a7k how
 | J+1=>putF how (winV how d n N B apart i J) (d.getD (d5d n N B apart i J) 0)
def winI (how:Int) (s d:List Int) (ax:Nat) (wide apart:Int) (i J:Nat):Int:=winV how d (s.getD ax 0).toNat (winN (s.getD ax 0) wide apart).toNat (winB s ax) apart.toNat i J
def winD (how:Int) (s d:List Int) (ax:Nat) (wide apart:Int):List Int:=gen (Sh.size (winS s ax wide apart)).toNat fun i=>winI how s d ax wide apart i wide.toNat
def winR (how:Int) (s d:List Int) (ax wide apart:Int):Int × List Int × List Int :=
 if a4c how&&b0w wide apart then(if a0a s d then(if b1n s ax then(0,winS s ax.toNat wide apart,winD how s d ax.toNat wide apart) else refused 1) else refused 13) else refused 1
theorem c4b (h:(a4c how&&b0w wide apart)=false):winR how s d ax wide apart=refused 1:=by rw[winR,h];rfl
theorem c5v (h:(a4c how&&b0w wide apart)=true)(g:a0a s d=false):winR how s d ax wide apart=refused 13:=by rw[winR,iP h,g];rfl
theorem b8i (h:(a4c how&&b0w wide apart)=true)(g:a0a s d=true)(f:b1n s ax=false):winR how s d ax wide apart=refused 1:=by rw[winR,iP h,iP g,f];rfl
theorem c9z {ax:Nat}(h:(a4c how&&b0w wide apart)=true)(g:a0a s d=true)(f:ax<s.length):winR how s d ax wide apart=(0,winS s ax wide apart,winD how s d ax wide apart):=by
 rw[winR,iP h,iP g,iP (a8f.2 ⟨by omega,by omega⟩),Int.toNat_natCast]
theorem c0r {how:Int}{d:List Int}(hd:∀ x∈d,Fits x)(n N B apart i:Nat):∀ J,Fits (winV how d n N B apart i J)
 | 0=>a8o how
 | J+1=>b0j how (c0r hd n N B apart i J) (b3i hd _)
theorem c2l (how:Int)(s d:List Int)(ax:Nat)(wide apart:Int):(winD how s d ax wide apart).length=(Sh.size (winS s ax wide apart)).toNat:=a4s _ _
theorem b5a (s:List Int)(ax:Nat)(wide apart:Int):(winS s ax wide apart).length=s.length:=by simp[winS]
theorem b6u {ax:Nat}(h:Sh.right s=true)(hx:ax<s.length):Sh.right (winS s ax wide apart)=true:=by
 obtain⟨x,hx'⟩:=a0e hx;have hb:=(Sh.right_iff.1 h).2.1 x (mG hx');have e:s.getD ax 0=x:=by rw[gD,hx'];rfl
 rw[winS,e];exact c5h h hx' b8h.1 (b8h.2 hb.1)
theorem c0s {ax:Nat}(h:Sh.right s=true)(hx:ax<s.length)(hi:(i:Int)<Sh.size (winS s ax wide apart))(hj:(j:Int)<wide)(ha:1≤apart):
  ∃ r:Int,(Sh.placeOf (winS s ax wide apart) i)[ax]?=some r∧0≤r∧r<winN (s.getD ax 0) wide apart ∧
  ((Sh.placeOf (winS s ax wide apart) i).set ax (r*apart+j)).length=s.length∧Sh.within s ((Sh.placeOf (winS s ax wide apart) i).set ax (r*apart+j))=true ∧
  Sh.index s ((Sh.placeOf (winS s ax wide apart) i).set ax (r*apart+j))=(d5d (s.getD ax 0).toNat (winN (s.getD ax 0) wide apart).toNat (winB s ax) apart.toNat i j:Int):=by
 obtain⟨n,hn⟩:=a0e hx;have eN:s.getD ax 0=n:=by rw[gD,hn];rfl
 have hnb:=(Sh.right_iff.1 h).2.1 n (mG hn);obtain⟨hp0,hpl,hpw,hpr⟩:=a1g hi;rw[eN];obtain⟨N,hN⟩:∃ N,winN n wide apart=N:=⟨_,rfl⟩
 have es:s=s.take ax++n::s.drop (ax+1):=by
  have:=List.take_append_drop ax s;rw[List.drop_eq_getElem_cons hx] at this;have e2:s[ax]=n:=by rw[List.getElem?_eq_getElem hx] at hn;injection hn
  rw[e2] at this;exact this.symm
 have eS:winS s ax wide apart=s.take ax++N::s.drop (ax+1):=by
  rw[winS,eN,hN]
  conv=>lhs;rw[es]
  rw[List.set_append_right _ _ (by simp;omega)];simp[show min ax s.length=ax by omega]
 have hl:(s.take ax).length=ax:=by simp;omega
 have hB:winB s ax=(Sh.pd (s.drop (ax+1))).toNat:=rfl;obtain⟨hd,hhd⟩:∃ l,s.take ax=l:=⟨_,rfl⟩;obtain⟨v,hv⟩:∃ l,s.drop (ax+1)=l:=⟨_,rfl⟩;rw[hhd,hv] at es eS;rw[hhd] at hl;rw[hv] at hB;have hpos:∀ x∈hd++N::v,1≤x∧x≤32:=by rw[←eS];exact(Sh.size_pos (by omega) hi).2
 have hpu:∀ x∈hd,1≤x∧x≤32:=fun x hx=>hpos x (List.mem_append.2 (.inl hx))
 have hpw' : ∀ x∈v,1≤x∧x≤32:=fun x hx=>hpos x (List.mem_append.2 (.inr (List.mem_cons_of_mem _ hx)))
 have hpv:0<Sh.pd v:=c3t fun x hx=>(hpw' x hx).1
 have hN1:1≤N:=(hpos N (by simp)).1;obtain⟨V,hV⟩:=eZ (show 0≤Sh.pd v by omega);obtain⟨Nn,hNn⟩:=eZ (show 0≤N by omega);obtain⟨nn,hnn⟩:=eZ hnb.1;obtain⟨aa,haa⟩:=eZ (show 0≤apart by omega)
 have eP:Sh.placeOf (winS s ax wide apart) i=Sh.place hd (i / (N*Sh.pd v))++(((i:Int) / Sh.pd v) % N)::Sh.place v i:=by
  rw[hp0,eS,a6b _ _ (fun x hx=>by have:=hpu x hx;omega) (by rw[Sh.pd];exact Int.mul_nonneg (by omega) (by omega))]
  rfl
 have hlp:(Sh.place hd (i / (N*Sh.pd v))).length=ax:=by rw[Sh.place_length,hl]
 obtain⟨r,hr⟩:∃ r,((i:Int) / Sh.pd v) % N=r:=⟨_,rfl⟩;have hr0:0≤r:=by rw[←hr];exact Int.emod_nonneg _ (by omega)
 have hr1:r<N:=by rw[←hr];exact Int.emod_lt_of_pos _ (by omega)
 rw[hr] at eP
 have hat:(Sh.placeOf (winS s ax wide apart) i)[ax]?=some r:=by
  rw[eP,List.getElem?_append_right (by omega),hlp,Nat.sub_self];rfl
 have hin:=d5x hr0 (by rw[hN];exact hr1) (show(0:Int)≤j by omega) hj ha;obtain⟨z,hz⟩:∃ z,r*apart+(j:Int)=z:=⟨_,rfl⟩
 have eq:(Sh.placeOf (winS s ax wide apart) i).set ax (r*apart+j)=Sh.place hd (i / (N*Sh.pd v))++(z::Sh.place v i):=by
  rw[eP,List.set_append_right _ _ (by omega),hlp,Nat.sub_self,hz];rfl
 have hw:Sh.within s ((Sh.placeOf (winS s ax wide apart) i).set ax (r*apart+j))=true:=by
  rw[eq,es];refine a5k (by rw[Sh.place_length]) (Sh.within_place hpu _) ?_;rw[Sh.within_iff,List.zip_cons_cons];intro x hx;rcases List.mem_cons.1 hx with rfl|hx
  ·rw[hz] at hin;exact hin
  ·exact(Sh.within_iff.1 (Sh.within_place hpw' _)) x hx
 have hlen:((Sh.placeOf (winS s ax wide apart) i).set ax (r*apart+j)).length=s.length:=by rw[List.length_set,hpl,b5a]
 refine⟨r,hat,hr0,by rw[hN];exact hr1,hlen,hw,?_⟩;rw[Sh.index_of h hlen hw,Sh.hor_lin hlen,eq,hB,es,a8n _ _ _ _ (Sh.place_length _ _)]
 show _*(n*Sh.pd v)+(z*Sh.pd v+Sh.lin v (Sh.place v i))=_
 have hlt:(i:Int) / (N*Sh.pd v)<Sh.pd hd:=by
  have:=hi;rw[Sh.size_of hpr,Sh.pr_pd,eS,Sh.pd_append,Sh.pd] at this;exact Int.ediv_lt_of_lt_mul (Int.mul_pos (by omega) hpv) this
 rw[Sh.lin_place _ (fun x hx=>by have:=hpu x hx;omega),Sh.lin_place _ (fun x hx=>by have:=hpw' x hx;omega),
  Int.emod_eq_of_lt (Int.ediv_nonneg (by omega) (Int.le_of_lt (Int.mul_pos (by omega) hpv))) hlt,hN,←hz,←hr,d5d,hV,hNn,hnn,haa]
 simp only[Int.toNat_natCast]
 push_cast
 simp only[Int.add_mul,Int.mul_assoc];omega
theorem c9y {ax:Nat}(h:Sh.right s=true)(hx:ax<s.length)(hi:(i:Int)<Sh.size (winS s ax wide apart))(hj:(j:Int)<wide)(ha:1≤apart)(hr:(Sh.placeOf (winS s ax wide apart) i)[ax]?=some r):
  putF how (winI how s d ax wide apart i j) (num s d ((Sh.placeOf (winS s ax wide apart) i).set ax (r*apart+j)))=winI how s d ax wide apart i (j+1):=by
 obtain⟨r', hr', _,_,_,_,hix⟩:=c0s h hx hi hj ha;rw[hr] at hr';injection hr' with hr';subst hr'
 rw[num,hix,Int.toNat_natCast];rfl
end Go.Proofs.YtajhdeddgdhccaaGreatDoor
