import Derived.MakeChecks
import Derived.Test.YtajhdeddgdhccaaGreatDoorPbn
import Derived.Test.YtajhdeddgdhccaaGreatDoorPbw
set_option maxRecDepth 100000
set_option maxHeartbeats 12800000
namespace Go.Proofs.YtajhdeddgdhccaaGreatDoor
open Go.RowKit Go.Proofs.Tryz
variable {n:Nat} {t:TypeId} {w:World}
def ndF7:a0p:=⟨2,[],[],[],-7,0,⟨#[]⟩⟩
def b5f (G:a2g):a2g:=⟨G.sizes,G.names,G.nodes++[ndF7],G.outs⟩
theorem d2p:a1a ndF7 []=(0,[]):=by
 rw[a1a,iP (show a4n ndF7 (([]:List (List Int)).length:Nat)=true from rfl),iP (show([]:List (List Int)).all Sh.right=true from rfl),iN (show ¬ ndF7.op=1 from by decide)]
 have hw:a0q ndF7 (([]:List (List Int)).map zeros)=(0,[],List.replicate (Sh.size []).toNat (-7)):=by
  rw[a0q,iP (by rfl),iP (by decide)];rfl
 rw[hw,iP rfl]
theorem c0k (xs:List Int):a0z (b5f (a0x xs))=(0,(a3k xs).shapes++[[]]):=by
 obtain⟨nm,h⟩:=a8k xs;have hl:=(b0t xs).2;have h1:=h.len;have h2:=h.outs;have hm:a5q (b5f (a0x xs))=true:=(c7u rfl rfl).trans h.mesh
 have hg:a0k nm [] ((a0x xs).nodes++[ndF7])=(0,(a3k xs).shapes++[[]]):=by
  rw[a4l nm _ _ [] _ h.go];exact a6f (nd:=ndF7) rfl d2p (b6g rfl)
 rw[a3w (l:=(a3k xs).shapes++[[]]) hm ⟨by show List.length (_++_)≤48;rw[List.length_append,List.length_singleton];omega,by show(a0x xs).outs.length≤48;omega⟩ (by show a0k (a0b (a0x xs).names) [] _=_;rw[h.runes];exact hg)]
 rw[iP (b0h fun i x hi=>by
  show 0≤x∧x<(((a0x xs).nodes++[ndF7]).length:Nat)
  rw[List.length_append,List.length_singleton]
  have:=h.outIn x (mG hi);omega)]
theorem b8u (xs:List Int):FewG 20 (b5f (a0x xs)):=by
 have h:=a9v xs;have h1:=h.nodes;have h2:=h.outs;have h3:=h.sizes;refine⟨by show List.length (_++_)≤20;rw[List.length_append,List.length_singleton];omega,by show(a0x xs).sizes.length≤20;omega,by show(a0x xs).outs.length≤20;omega,fun j nd hj=>?_⟩;rcases List.mem_append.1 (mG hj) with hm|hm
 ·obtain⟨i,hi,e⟩:=List.getElem_of_mem hm;have:=h.each i nd (by rw[List.getElem?_eq_getElem hi,e]);exact⟨by have:=this.1;omega,by have:=this.2.1;omega,by have:=this.2.2;omega⟩
 ·rw[List.mem_singleton.1 hm];exact⟨by show 0≤20;omega,by show 0≤20;omega,by show 0≤20;omega⟩
def c3h:ByteArray:=⟨#[102,105,108,108,32,40,32,41,32,40,32,41,32,40,32,41,32,45,55,32,48,32,45,10]⟩
theorem c8i (nm:List Int)(r:Int):a7z nm ⟨#[]⟩ r=c6k:=by
 rw[a7z,show a0b ⟨#[]⟩=[] from rfl,a3u (by decide) rfl];rfl
theorem d4j (nm:List Int)(o:ByteArray):a8w nm o ndF7 []=o++c3h:=by
 have e:c3h=a5e 2++(a4z []++(a4z []++(a4z []++(spT++(numT (-7)++(spT++(numT 0++(spT++(c6k++lfT))))))))):=by kernel_rfl
 rw[e];simp only[a8w,ndF7,c8i,ByteArray.append_assoc]
theorem b0f:∀(l:List Int) (o:ByteArray),a1w o l=o++a1w ⟨#[]⟩ l
 | [],o=>(ByteArray.append_empty).symm
 | x::l,o=>by
  have e1:a1w o (x::l)=a1w (o++spT++numT x) l:=rfl;have e2:a1w ⟨#[]⟩ (x::l)=a1w ((⟨#[]⟩:ByteArray)++spT++numT x) l:=rfl;rw[e1,e2,b0f l,b0f l ((⟨#[]⟩:ByteArray)++spT++numT x),show(⟨#[]⟩:ByteArray)++spT=spT from ByteArray.empty_append];simp only[ByteArray.append_assoc]
theorem c4v (xs:List Int):(a0x xs).names.size≤5:=by
 have h:∀ k:Nat,(c4u.getD k ([],⟨#[]⟩)).2.size≤5:=by
  intro k;by_cases hk:k<10
  ·have:∀ j:Fin 10,(c4u.getD j.val ([],⟨#[]⟩)).2.size≤5:=by decide
   exact this ⟨k,hk⟩
  ·rw[gD,List.getElem?_eq_none (by show 10≤k;omega)];exact Nat.zero_le 5
 exact h _
structure TwoT (n:Nat) (T U:ByteArray):Prop where
 cT:cntN T=n+2
 cU:cntN U=n+3
 size:U.size=T.size+24
 small:T.size≤60000
 last:∃ X:ByteArray,T=X++lfT
theorem c1t (xs:List Int):∃ T U,a5y (a0x xs)=(T,0)∧a5y (b5f (a0x xs))=(U,0)∧TwoT (a0x xs).nodes.length T U:=by
 obtain⟨nm,h⟩:=a8k xs;obtain⟨h1,h2⟩:=b0t xs;have h3:=c0k xs;have hn:=c4v xs;have hT:=b3j (a9v xs) (a3k xs).shapes;have hU:=b3j (b8u xs) ((a3k xs).shapes++[[]]);have hn2:(b5f (a0x xs)).names.size≤5:=hn
 have hsz:(a2i (b5f (a0x xs)) ((a3k xs).shapes++[[]])).size=(a2i (a0x xs) (a3k xs).shapes).size+24:=by
  have e:a2i (b5f (a0x xs)) ((a3k xs).shapes++[[]])=a1w (a3b (a0b (a0x xs).names) (a5d (a0x xs)) (a0x xs).nodes (a3k xs).shapes++c3h++b5i) (a0x xs).outs++lfT:=by
   show a1w (a3b (a0b (a0x xs).names) (a5d (a0x xs)) ((a0x xs).nodes++[ndF7]) ((a3k xs).shapes++[[]])++b5i) (a0x xs).outs++lfT=_
   rw[a9j _ _ _ _ _ _ h2.symm,d4j]
  rw[e,a2i,b0f,b0f _ (a3b _ _ _ _++b5i)];simp only[ByteArray.size_append];have:c3h.size=24:=rfl;omega
 refine⟨_,_,?_,?_,⟨b6b h.ok h.names h.runes h2.symm,?_,hsz,by omega,⟨_,rfl⟩⟩⟩
 ·rw[a8u (by rw[h1]) (by rw[h1];show ¬ 65536<(a2i (a0x xs) (a3k xs).shapes).size;omega),h1]
 ·rw[a8u (by rw[h3]) (by rw[h3];show ¬ 65536<(a2i (b5f (a0x xs)) ((a3k xs).shapes++[[]])).size;omega),h3]
 ·have:=b6b (G:=b5f (a0x xs)) h.ok h.names h.runes (L:=(a3k xs).shapes++[[]]) (by show List.length (_++_)=_;rw[List.length_append,List.length_append,h2];rfl);rw[this];show List.length (_++_)+2=_;rw[List.length_append];rfl
theorem c4y {g:Nat}{cs:Array Value}{f:Nat × Nat}{N:List a0p}(hb:w.heap[g]?=some (.cells cs t f))(hK:NodK w cs.toList N)(hn:N.length=n)(h9:n≤900):Nods w (some ⟨g,0,none⟩) n N:=by
 refine⟨hn,h9,fun j nd hj=>?_⟩;obtain⟨A,na,ca,B,nb,cb,C,nc,cc,h1,h2⟩:=hK.2 j nd hj
 have hc0:∀ k:Nat,k<7→w.cell? ⟨g,j*7+k,none⟩=(a5r nd A na ca B nb cb C nc cc)[k]? := fun k hk=>by
  rw[←h1 k hk,show w.cell? ⟨g,j*7+k,none⟩=cs[j*7+k]? from by simp[World.cell?,hb],Array.getElem?_toList]
 have hlt:g<w.heap.size:=(Array.getElem?_eq_some_iff.1 hb).1;refine⟨⟨g,0,none⟩,A,na,ca,B,nb,cb,C,nc,cc,rfl,hlt,?_,?_,?_,?_,?_,?_,?_,h2⟩
 ·rw[a2h];exact hc0 0 (by omega)
 ·rw[a2h];exact hc0 1 (by omega)
 ·rw[a2h];exact hc0 2 (by omega)
 ·rw[a2h];exact hc0 3 (by omega)
 ·rw[a2h];exact hc0 4 (by omega)
 ·rw[a2h];exact hc0 5 (by omega)
 ·rw[a2h];exact hc0 6 (by omega)
theorem c2y {n:Int}(h : -1000≤n)(g:n≤1000):Fits n:=⟨by omega,by omega⟩
def b1d:a2g:=⟨[2],⟨#[120]⟩,[⟨2,[],[3],[],-5,0,⟨#[32,120]⟩⟩],[0]⟩
def c1l:a2g:=⟨[],⟨#[]⟩,[],[0]⟩
def c9t:ByteArray:=⟨#[109,101,115,104,32,45,10,111,117,116,115,10]⟩
def d5b:ByteArray:=⟨#[109,101,115,104,32,120,32,50,10,102,105,108,108,32,40,32,41,32,40,32,51,32,41,32,40,32,41,32,45,53,32,48,32,120,10,111,117,116,115,32,48,10]⟩
theorem b1m:a0z b1d=(0,[[3]]):=by
 have hm:a5q b1d=true:=by
  rw[b2p (by show 1≤3;omega) (fun i x h=>by
   match i,h with
   | 0,h=>simp[b1d] at h;subst h;omega
   | i+1,h=>simp[b1d] at h)]
  show(decide (Sh.pr [2]≤8)&&a6e (a0b ⟨#[120]⟩) 1)=true
  rw[show a0b ⟨#[120]⟩=[120] from by kernel_rfl,a6r rn1];decide
 have hw:a1a ⟨2,[],[3],[],-5,0,⟨#[32,120]⟩⟩ []=(0,[3]):=by
  rw[a1a,iP (show a4n ⟨2,[],[3],[],-5,0,⟨#[32,120]⟩⟩ (([]:List (List Int)).length:Nat)=true from rfl),iP (show([]:List (List Int)).all Sh.right=true from rfl),iN (by decide)]
  have hw:a0q ⟨2,[],[3],[],-5,0,⟨#[32,120]⟩⟩ (([]:List (List Int)).map zeros)=(0,[3],List.replicate (Sh.size [3]).toNat (-5)):=by
   rw[a0q,iP (by rfl),iP (by decide)]
  rw[hw,iP rfl]
 have hn:a9l [120] ⟨2,[],[3],[],-5,0,⟨#[32,120]⟩⟩ ([3]:List Int).length=0:=by
  rw[a9l,show a0b (⟨2,[],[3],[],-5,0,⟨#[32,120]⟩⟩:a0p).note=[32,120] from by kernel_rfl];rw[a8p (out:=[0]) (by decide) (by decide) (by decide) (by decide)]
 have hg:a0k (a0b b1d.names) [] b1d.nodes=(0,[[3]]):=by
  show a0k (a0b ⟨#[120]⟩) [] [⟨2,[],[3],[],-5,0,⟨#[32,120]⟩⟩]=_
  rw[show a0b ⟨#[120]⟩=[120] from by kernel_rfl];exact a6f (L:=[]) rfl hw hn
 rw[a3w hm ⟨by show 1≤48;omega,by show 1≤48;omega⟩ hg,iP (by decide)]
theorem b6p:a0z c1l=(23,[]):=by
 rw[a3w (G:=c1l) (d5n _ _) ⟨by show 0≤48;omega,by show 1≤48;omega⟩ (l:=[]) rfl,iN (by decide)]
theorem c9o:a5y a9z=(c9t,0):=by
 have e:a2i a9z []=c9t:=by kernel_rfl
 rw[a8u (by rw[a9r]) (by rw[a9r];show ¬ 65536<(a2i a9z []).size;rw[e];decide),a9r];exact congrArg (·, (0:Int)) e
theorem d3b:a5y b1d=(d5b,0):=by
 have e:a2i b1d [[3]]=d5b:=by kernel_rfl
 rw[a8u (by rw[b1m]) (by rw[b1m];show ¬ 65536<(a2i b1d [[3]]).size;rw[e];decide),b1m];exact congrArg (·, (0:Int)) e
theorem d3c:a5y c1l=(⟨#[]⟩,23):=by
 rw[b4t (by rw[b6p];decide),b6p]
theorem d0g:FewG 10 a9z:=⟨by decide,by decide,by decide,fun j nd h=>by simp[a9z] at h⟩
theorem d4b:FewG 10 c1l:=⟨by decide,by decide,by decide,fun j nd h=>by simp[c1l] at h⟩
theorem d4a:FewG 10 b1d:=⟨by decide,by decide,by decide,fun j nd h=>by
 have:=mG h;simp[b1d] at this;subst this
 exact⟨by decide,by decide,by decide⟩⟩
theorem b1u (hT:Tabs w):Calls prog 12 #[] w fun e w'=>e=.returned (.bool true)∧Below w.heap.size w w':=by
 have hG0:a3r w (.agg zH) a9z:=⟨_,_,_,_,_,_,_,_,_,rfl,⟨Nat.le_refl _,Nat.le_refl _,Nat.le_refl _,Ints.nil_ _ none,⟨rfl,by omega,fun j nd h=>by simp[a9z] at h⟩,Ints.nil_ _ none,by show 0≤_;omega⟩⟩;have C1:=a6v hG0 d0g hT;have HT:=Hd hT;clear hT;rw[c9o] at C1;simp only[c9t] at C1;have HC1:=Hd C1;clear C1 hG0
 go_enter func12,ntmps12
 go_wp2_with fail
 refine HC1.mono ?_;rintro e1 w1 ⟨rfl,hb⟩;have h2:=(((((Sep.nil w).below hb).lit 3 #[.int .i64 2] [2] 1 (w1.heap.size) rfl rfl rfl).lit 3 #[.int .i64 3] [3] 1 (w1.heap.size+1) (by simp) rfl rfl).allocBox (w1.heap.size+1+1) 37 [.int .i64 2,.slice none 0 0,.slice (some ⟨w1.heap.size+1,0,none⟩) 1 1,.slice none 0 0,.int .i64 (-5),.int .i64 0,.string ⟨#[32,120]⟩] (by simp)).lit 3 #[.int .i64 0] [0] 1 (w1.heap.size+1+1+1) (by simp) rfl rfl;clear hb HC1
 go_wp2_with fail
 generalize ((((w1.alloc (.cells #[.int .i64 2] 3)).alloc (.cells #[.int .i64 3] 3)).alloc (.cells #[.int .i64 2,.slice none 0 0,.slice (some ⟨w1.heap.size+1,0,none⟩) 1 1,.slice none 0 0,.int .i64 (-5),.int .i64 0,.string ⟨#[32,120]⟩] 37)).alloc (.cells #[.int .i64 0] 3))=w2 at *;have H:=Hd h2;have hN:=c4y (n:=1) (N:=b1d.nodes) (h2.heap 1 rfl) (b7q (nd:=⟨2,[],[3],[],-5,0,⟨#[32,120]⟩⟩) ⟨Nat.le_refl _,Nat.le_refl _,Nat.le_refl _,Ints.nil_ _ none,(h2.ownInts 2 rfl).2.2,Ints.nil_ _ none,c2y (by decide) (by decide),⟨by show -9223372036854775808≤(-5:Int);omega,by show(-5:Int)≤_;omega⟩,a5x,by show 2≤_;omega⟩) rfl (by omega);have hG:a3r w2 (.agg #[.slice (some ⟨w1.heap.size,0,none⟩) 1 1,.string ⟨#[120]⟩,.slice (some ⟨w1.heap.size+1+1,0,none⟩) 1 1,.slice (some ⟨w1.heap.size+1+1+1,0,none⟩) 1 1]) b1d:=⟨_,_,_,_,_,_,_,_,_,rfl,⟨Nat.le_refl _,Nat.le_refl _,Nat.le_refl _,(h2.ownInts 3 rfl).2.2,hN,(h2.ownInts 0 rfl).2.2,by show 1≤_;omega⟩⟩;have C1:=a6v hG d4a (HT.below H.base);rw[d3b] at C1;simp only[d5b] at C1;clear h2 hN hG;refine C1.mono ?_;rintro e2 w3 ⟨rfl,hb⟩;have h4:=((H.below hb).sub [] (l':=[]) rfl (by decide)).lit 3 #[.int .i64 0] [0] 1 (w3.heap.size) rfl rfl rfl;clear C1 hb H
 go_wp2_with fail
 generalize w3.alloc (.cells #[.int .i64 0] 3)=w4 at *;have H:=Hd h4;have hG:a3r w4 (.agg #[.slice none 0 0,.string ⟨#[]⟩,.slice none 0 0,.slice (some ⟨w3.heap.size,0,none⟩) 1 1]) c1l:=⟨_,_,_,_,_,_,_,_,_,rfl,⟨Nat.le_refl _,Nat.le_refl _,Nat.le_refl _,Ints.nil_ _ none,⟨rfl,by omega,fun j nd h=>by simp[c1l] at h⟩,(h4.ownInts 0 rfl).2.2,by show 0≤_;omega⟩⟩;have C1:=a6v hG d4b (HT.below H.base);rw[d3c] at C1;clear h4 hG;refine C1.mono ?_;rintro e3 w5 ⟨rfl,hb⟩;replace H:=Hd (H.below hb);clear C1 hb;have C2:=fun (w' : World) (hb:Below w.heap.size w w')=>b4y w' (op:=99) ⟨by omega,by omega⟩ (HT.below hb)
 have C3:=fun (w' : World) (hb:Below w.heap.size w w')=>a3z (w:=w') (n := -9223372036854775808) ⟨by omega,by omega⟩ (HT.below hb)
 rw[show a5e 99=⟨#[]⟩ from rfl] at C2;rw[show numT (-9223372036854775808)=⟨#[45,57,50,50,51,51,55,50,48,51,54,56,53,52,55,55,53,56,48,56]⟩ by kernel_rfl] at C3;have HC2:=Hd C2;have HC3:=Hd C3;clear C2 C3
 go_wp2_with fail
 refine(HC2 _ H.base).mono ?_;rintro e4 w6 ⟨rfl,rfl⟩
 go_wp2_with fail
 refine(HC3 _ H.base).mono ?_;rintro e5 w7 ⟨rfl,hb⟩;replace H:=Hd (H.below hb);clear hb;go_wp2;go_ret;exact⟨rfl,H.base⟩
def d3m (l:List ByteArray):DataW Unit:=.agg (l.map fun s=>.lit (.string s.data.toList))
theorem c1r {P:Program}{W:World}{name:String}{d:DataW Unit}:∀ {L:List (String × DataW Unit)} {ps:List MemPlace} {i:Nat},DataW.LaidVars P W L ps→L[i]?=some (name,d) →
  ∃ g t cs fuel p,P.globalNamed name=some g∧(P.globals[g]?).map (·.type)=some t∧W.var? P name=some cs∧DataW.trod (fun _=>()) P W 0 (fun _=>true) false fuel t cs.toList=some (d,p)
 | [],_,_,_,hi=>by simp at hi
 | _::_,_,0,h,hi=>by
  obtain⟨g,t,cs,fuel,p,q,h1,h2,h3,h4,_,_⟩:=h;simp only[List.getElem?_cons_zero,Option.some.injEq] at hi;obtain⟨rfl,rfl⟩:=hi
  exact⟨g,t,cs,fuel,p,h1,h2,h3,h4⟩
 | _::_,_,i+1,h,hi=>by
  obtain⟨_,_,_,_,_,_,_,_,_,_,h5,_⟩:=h;exact c1r h5 (by simpa using hi)
theorem c6e {a b:ByteArray}(h:a.data.toList=b.data.toList):a=b:=ByteArray.ext (Array.toList_inj.1 h)
theorem c2g {P:Program}{fuel:Nat}{e:TypeId}{cs:List Value}{l:List ByteArray}{p:List MemPlace}(hl:l.length=n)
  (ht:P.underlying t=some (.array n e))(he:P.underlying e=some .string)(hce:P.cellsOf e=1)(hct:P.cellsOf t=n)
  (h:DataW.trod (fun _=>()) P w 0 (fun _=>true) false fuel t cs=some (d3m l,p)):cs=l.map Value.string:=by
 obtain⟨xs,m,_,hx,hlen,hn,hel⟩:=DataW.trod_array ht h;rw[hce] at hel
 have hx1:l.map (fun s=>(DataW.lit (.string s.data.toList):DataW Unit))=xs.map (·.1):=by
  have:=congrArg Prod.fst hx;injection this
 refine List.ext_getElem (by rw[List.length_map,hlen,hct,hl]) fun i h1 h2=>?_
 have hi:i<n:=by rw[List.length_map,hl] at h2;exact h2
 have hi2:i<xs.length:=by omega
 have h0:=hel i hi;rw[List.getElem?_eq_getElem hi2] at h0;obtain⟨s,e1,e2,_⟩:=DataW.trod_string he h0
 have e3:cs[i]=.string s:=by
  have:=congrArg (fun r:List Value=>r[0]?) e1;simp only[Nat.mul_one,List.getElem?_take,List.getElem?_drop] at this;rw[iP (by omega),Nat.add_zero,List.getElem?_eq_getElem h1] at this;exact Option.some.inj this
 have e4:(DataW.lit (.string (l[i]'(by rw[hl];exact hi)).data.toList):DataW Unit)=xs[i].1:=by
  have:=congrArg (fun r:List (DataW Unit)=>r[i]?) hx1;simp only[List.getElem?_map] at this;rw[List.getElem?_eq_getElem hi2,List.getElem?_eq_getElem (by rw[hl];exact hi)] at this;exact Option.some.inj this
 rw[e2] at e4;injection e4 with e5
 injection e5 with e6
 rw[e3,List.getElem_map,c6e e6]
theorem c9j {W:World}{L:List (String × DataW Unit)}(h:laidMetH prog L W)(hp:(L.all fun x=>x.2.handleName?.isNone)=true)(i j:Nat)
  (hi:L[i]?=some ("internal/strconv.uint64pow10", Lib.tabData .u64 Lib.pow10Tab))(hj:L[j]?=some ("parquetry/wire.ops", d3m opN)):Tabs W:=by
 rw[MakeChecks.laidMetH_plain _ _ _ hp] at h;obtain⟨ps,hv,_,_⟩:=h;refine⟨?_,?_⟩
 ·obtain⟨g,t,cs,fuel,p,h1,h2,h3,h4⟩:=c1r hv hi;obtain rfl:=Option.some.inj ((show prog.globalNamed "internal/strconv.uint64pow10" = some 1 by kernel_rfl).symm.trans h1);obtain rfl:=Option.some.inj ((show(prog.globals[1]?).map (·.type)=some 132 by kernel_rfl).symm.trans h2);have e:=Lib.cells_of_tab underlying132 underlying112 (by kernel_rfl) (by kernel_rfl) h4;unfold TabP Lib.TabIs;rw[h3,←e]
 ·obtain⟨g,t,cs,fuel,p,h1,h2,h3,h4⟩:=c1r hv hj;obtain rfl:=Option.some.inj ((show prog.globalNamed "parquetry/wire.ops" = some 0 by kernel_rfl).symm.trans h1);obtain rfl:=Option.some.inj ((show(prog.globals[0]?).map (·.type)=some 52 by kernel_rfl).symm.trans h2);have e:=c2g (l:=opN) rfl underlying52 underlying9 (by kernel_rfl) (by kernel_rfl) h4;unfold TabO;rw[h3,←e]
end Go.Proofs.YtajhdeddgdhccaaGreatDoor
