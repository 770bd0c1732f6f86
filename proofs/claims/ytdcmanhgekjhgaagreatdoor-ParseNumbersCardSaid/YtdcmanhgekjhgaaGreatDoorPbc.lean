import Derived.Test.YtdcmanhgekjhgaaGreatDoorPbb
set_option maxRecDepth 100000
set_option maxHeartbeats 12800000
namespace Go.Proofs.YtdcmanhgekjhgaaGreatDoor
open Go.RowKit Go.Proofs.Tryz
variable {K a i j k m n pos:Nat} {e:TypeId} {s:ByteArray} {us:List Value} {v:Value} {w w0:World}
theorem e3s {b:UInt8}(h:(bl s)[j]?=some b):s.get! j=b:=by
 cases s with
 | mk d =>
  have h2:d[j]?=some b:=by rw[←Array.getElem?_toList];exact h
  show d[j]! = b
  rw[getElem!_def,h2]
theorem d6e (h:j<s.size):s.get! j=s[j]:=e3s (d2e h)
theorem b7b (s:ByteArray)(i:Nat):
  ((s.get! i).toNat<128∧Utf8.decode s i=((s.get! i).toNat,1))∨(128≤(s.get! i).toNat∧128≤(Utf8.decode s i).1∧1≤(Utf8.decode s i).2∧∀ k,k<(Utf8.decode s i).2→128≤(s.get! (i+k)).toNat):=by
 have e0:i+0=i:=rfl;by_cases h0:(s.get! i).toNat<128
 ·left
  refine⟨h0,?_⟩;unfold Utf8.decode;simp only[e0,if_pos h0]
 ·right
  refine⟨by omega,?_⟩
  have key:∀ d:Nat,1≤d→d≤4→(2≤d→(s.get! (i+1)).toNat / 64=2)→(3≤d→(s.get! (i+2)).toNat / 64=2)→(4≤d→(s.get! (i+3)).toNat / 64=2)→∀ k,k<d→128≤(s.get! (i+k)).toNat:=by
   intro d h1 h4 g1 g2 g3 k hk
   match k,hk with
   | 0,_=>rw[e0];omega
   | 1,hk=>have:=g1 (by omega);omega
   | 2,hk=>have:=g2 (by omega);omega
   | 3,hk=>have:=g3 (by omega);omega
   | k+4,hk=>omega
  unfold Utf8.decode;simp only[e0,if_neg h0]
  split
  ·rename_i h;simp only[Bool.and_eq_true,beq_iff_eq,decide_eq_true_eq] at h
   split
   ·rename_i hc;exact⟨by simpa using hc,by show 1≤2;omega,key 2 (by omega) (by omega) (fun _=>h.2.2) (fun h=>by omega) (fun h=>by omega)⟩
   ·exact⟨by show 128≤65533;omega,by show 1≤1;omega,key 1 (by omega) (by omega) (fun h=>by omega) (fun h=>by omega) (fun h=>by omega)⟩
  ·split
   ·rename_i h;simp only[Bool.and_eq_true,beq_iff_eq,decide_eq_true_eq] at h
    split
    ·rename_i hc;simp only[ge_iff_le,Bool.and_eq_true,decide_eq_true_eq] at hc;exact⟨Nat.le_trans (by omega) hc.1,by show 1≤3;omega,key 3 (by omega) (by omega) (fun _=>h.1.2.2) (fun _=>h.2.2) (fun h=>by omega)⟩
    ·exact⟨by show 128≤65533;omega,by show 1≤1;omega,key 1 (by omega) (by omega) (fun h=>by omega) (fun h=>by omega) (fun h=>by omega)⟩
   ·split
    ·rename_i h;simp only[Bool.and_eq_true,beq_iff_eq,decide_eq_true_eq] at h
     split
     ·rename_i hc;simp only[ge_iff_le,Bool.and_eq_true,decide_eq_true_eq] at hc;exact⟨Nat.le_trans (by omega) hc.1,by show 1≤4;omega,key 4 (by omega) (by omega) (fun _=>h.1.1.2.2) (fun _=>h.1.2.2) (fun _=>h.2.2)⟩
     ·exact⟨by show 128≤65533;omega,by show 1≤1;omega,key 1 (by omega) (by omega) (fun h=>by omega) (fun h=>by omega) (fun h=>by omega)⟩
    ·exact⟨by show 128≤65533;omega,by show 1≤1;omega,key 1 (by omega) (by omega) (fun h=>by omega) (fun h=>by omega) (fun h=>by omega)⟩
theorem e6f {c:UInt8}(hc:c.toNat<128)(hi:i<s.size)(h:(Utf8.decode s i).1=c.toNat):s[i]=c∧(Utf8.decode s i).2=1:=by
 rcases b7b s i with ⟨h1,h2⟩|⟨h1,h2,h3,h4⟩
 ·rw[h2] at h ⊢;rw[d6e hi] at h;exact⟨UInt8.toNat.inj h,rfl⟩
 ·omega
theorem e4o {c:UInt8}(hc:c.toNat<128)(hi:i<s.size)(h:(Utf8.decode s i).1≠c.toNat)(hN:NoC c s a i):NoC c s a (i+(Utf8.decode s i).2):=by
 intro j b hj h1 h2;by_cases hji:j<i
 ·exact hN j b hj h1 hji
 ·have hb:=e3s hj;rcases b7b s i with ⟨g1,g2⟩|⟨g1,g2,g3,g4⟩
  ·rw[g2] at h h2;have:j=i:=by simp only at h2;omega
   subst this;intro e;subst e;exact h (by rw[hb])
  ·have:=g4 (j-i) (by omega);rw[show i+(j-i)=j by omega,hb] at this;intro e;subst e;omega
theorem c8b (hi:i<s.size)(h:s[i].toNat<128):Utf8.decode s i=(s[i].toNat,1):=by
 rcases b7b s i with ⟨h1,h2⟩|⟨h1,_⟩
 ·rw[d6e hi] at h2;exact h2
 ·rw[d6e hi] at h1;omega
theorem NoC.le {c:UInt8}(h:NoC c s a i)(hj:j≤i):NoC c s a j:=fun k b hk h1 h2=>h k b hk h1 (by omega)
theorem b6p {B:Nat}(h:RIt w K s pos k)(hlt:pos<s.size)(hB:Below B w0 w)(hK:B≤K):
  ∃(w2:World) (r d:Nat),(∀ ty,(Instr.next (.pointer (some ⟨K,0,none⟩)) true ty).run prog w=.ok (.tuple #[.bool true,.int .i64 pos,.int .i32 r]) w2) ∧
   RIt w2 K s (pos+d) (k+1)∧1≤d∧r=(Utf8.decode s pos).1∧d=(Utf8.decode s pos).2∧r≤2147483647∧Below B w0 w2∧w.grownBy w2 (some K):=by
 have hg:=a9s (w:=w) (s:=s) (k:=K) (pos:=pos+(Utf8.decode s pos).2);have hst:=b0n s hlt;rw[h.2.1] at hst
 have hd:(a0a s).drop (k+1)=a1f s s.size (pos+(Utf8.decode s pos).2):=by
  have:=congrArg List.tail hst;simpa using this
 have hw:=a6c s pos hlt;have:=h.2.2;exact⟨_,_,(Utf8.decode s pos).2,fun ty=>b2p (P:=prog) h.1 hlt ty,⟨b2k (b5y h),hd.symm,by omega⟩,hw,rfl,rfl,by have:=decode_le s pos;omega,a8a hB (by have:=b5y h;omega) hg hK,hg⟩
theorem b9g {base:Nat}(h:w.ownsRow base e m v n us)(hK:w.heap[K]?=some (.stringIter s pos)):v.ownBlock≠some K:=by
 rcases h.2 with ⟨rfl,_⟩|⟨g,cap,cur,rfl,_,hg,_⟩
 ·exact fun h=>by cases h
 ·intro e;injection e with e
  subst e;rw[hK] at hg
  cases hg
theorem e5l (hB:Below w0.heap.size w0 w)(h:w.ownsRow w0.heap.size e m v n us):Sep w0 w [.row e m v n us] :=
 Sep.cons_ hB h (fun i d hi=>by simp at hi) (fun i d hi=>by simp at hi) (fun i j a b _ hi=>by simp at hi)
theorem c9p {w2:World}(h:Sep w0 w [.row e m v n us])(hI:RIt w K s pos k)(hB:Below w0.heap.size w0 w2)(hg:w.grownBy w2 (some K)):Sep w0 w2 [.row e m v n us]:=by
 refine e5l hB ?_;have hr:w.ownsRow w0.heap.size e m v n us:=h.at_ 0 rfl;refine World.ownsRow.kept hr hg ?_
 cases hv:v.ownBlock with
 | none=>exact .inl rfl
 | some b=>exact .inr fun he=>b9g hr hI.1 (by rw[hv];injection he with he;rw[he])
theorem a7z {ops:Array Oper}{rest:List Oper}{o:Oper}{a:Act}{Q:Exit→Act→World→Prop}(hgd:o.guard=none)(s y:Operand)(t:TypeId)
  (ho:o.op=.call { callee:=.builtin .append,args:=#[s,y],argTypes:=#[t,t] })(ht:prog.underlying t=some (.slice 9))
  (H:Sep w0 w [.row 9 1 v n us]){T:ByteArray}(hI:RIt w K T pos k)(hs:a.eval s=v){x:ByteArray}(c:Nat)(hy:a.eval y=.slice (some ⟨w.heap.size,0,none⟩) 1 c)
  (hn:n≤100000)
  (h:∀ v' w', Sep w0 w' [.row 9 1 v' (n+1) (us++[.string x])]→RIt w' K T pos k→wpList prog ops Q rest (a.put o.dst v') w'):
  wpList prog ops Q (o::rest) a (w.alloc (.cells #[.string x] 9)):=by
 obtain⟨ti,h1,h2,h3,h4⟩:=b3d;have hBl:=(Below.refl w.heap.size w).alloc (Nat.le_refl _) (.cells #[.string x] 9);have H':=H.below hBl;have hI':=b0l hI hBl (b5y hI);have hsz:=H'.size;have hr:(w.alloc (.cells #[.string x] 9)).ownsRow w0.heap.size 9 1 v n us:=H'.at_ 0 rfl;refine wpList_append_own_at _ hgd s y t ho w0.heap.size 9 ti _ 1 16 ht h1 h2 h3 h4 (by rfl) (by omega) v n us hs hr ⟨w.heap.size,0,none⟩ 1 c [.string x] hy rfl ?_ (by simp[Value.oneCell']) (by unfold maxLen;omega) (by omega) hsz ?_
 ·intro j u hj;have hb:=heap_alloc_new w (.cells #[.string x] 9)
  match j,hj with
  | 0,hj=>simp at hj;subst hj;exact cell_of_row _ _ 0 _ _ _ hb
  | j+1,hj=>simp at hj
 ·intro v' w' h5 h6 _ h8
  refine h v' w' (H'.change 0 rfl h6 h5 fun b hb=>by
   have hb:v'.ownBlock=some b:=hb;rcases h8 with e|e
   ·exact .inl (e.symm.trans hb)
   ·rw[e] at hb;injection hb with hb;subst hb;exact .inr (Nat.le_refl _)) (c6p hI' h6 (b9g hr hI'.1))
theorem c1t (w:World)(s:ByteArray)(c:UInt8)(z:Int)(hz:z=(c.toNat:Int))(hc:c.toNat<128)(hs:s.size≤90000):
  Calls prog 57 #[.string s,.int .i32 z] w fun e w'=>∃ v,e=.returned v∧a9q w ((a1n c (bl s)).map ofL) v w':=by
 have HR:=Hd (a6e w s);have HZ:=Hd hz;have HC:=Hd hc;have H:=Hd ((Sep.nil w).below ((Below.refl w.heap.size w).alloc (Nat.le_refl _) (.stringIter s 0)) |>.addRowNil 9 1);clear hz hc
 go_enter func57,ntmps57
 go_wp2_with fail
 go_loopw [6,5] (fun av sv wr=>∃(pos k a:Nat) (us:List Value) (x:Value),x=sv∧av=.int .i64 a∧a≤pos∧a≤s.size∧us.length≤a∧NoC c s a pos∧us++((a1n c ((bl s).drop a)).map ofL).map Value.string=((a1n c (bl s)).map ofL).map Value.string∧RIt wr w.heap.size s pos k∧Sep w wr [.row 9 1 x us.length us]) (fun _ _ wr=>s.size-wr.iterPos w.heap.size)
 case atStart=>exact⟨0,0,0,[],_,rfl,rfl,by omega,by omega,by simp,NoC.nil _ _ _,rfl,HR,H⟩
 case round =>
  clear H;obtain⟨pos,k,a,us,x,rfl,rfl,ha,has,hul,hN,hE,hI,hS⟩:=hrel;have H:=Hd hS;have HN:=Hd hN;have HE:=Hd hE;have HI:=Hd hI;clear hE;by_cases hlt:pos<s.size
  ·obtain⟨w2,r,d,hnx,hI2,hd,hr,hdd,hr9,hB2,hg⟩:=b6p hI hlt hS.base (Nat.le_refl _);have H2:=Hd (c9p hS hI hB2 hg);have HI2:=Hd hI2;clear hI hI2 hS hB2 hg H hN;by_cases hb:r=c.toNat
   ·have db:((r:Int)==z)=true:=by rw[HZ.out,hb];simp
    obtain⟨hb2,hd1⟩:=e6f HC hlt (by rw[←hr];exact hb)
    have HE2:=Hd (show(us++[Value.string (s.extract a pos)])++((a1n c ((bl s).drop (pos+1))).map ofL).map Value.string=((a1n c (bl s)).map ofL).map Value.string by
     rw[←HE.out,c4a HN.out ha hlt hb2,List.map_cons,List.map_cons,b1t,List.append_assoc];rfl)
    obtain rfl:d=1:=by rw[hdd];exact hd1
    clear hb hb2 hd1 hr hdd hd;have hpi:pos≤s.size:=by omega
    go_wp2_with (at_builtin;refine a7z rfl (.tmp 18) (.tmp 23) 32 rfl underlying32 H2.out HI2.out rfl _ rfl ?c1 ?_)
    case c1=>omega
    intro v2 w3 h2 hI3;have H3:=Hd h2;have HI3:=Hd hI3;clear h2 hI3 hnx;go_wp2;go_roundw
    case rel=>exact⟨pos+1,k+1,pos+1,us++[Value.string (s.extract a pos)],v2,rfl,by go_num,by omega,by omega,by rw[List.length_append];show us.length+1≤pos+1;omega,NoC.nil _ _ _,HE2,HI3,by have:=H3.out;rw[List.length_append];exact this⟩
    case measure=>rw[a1l HI3.out,a1l HI.out];omega
   ·have db:((r:Int)==z)=false:=by rw[HZ.out];simp;omega
    have HN2:=Hd (show NoC c s a (pos+d) by rw[hdd];exact e4o HC hlt (by rw[←hr];exact hb) HN);clear hb hr hdd;go_wp2;go_roundw
    case rel=>exact⟨pos+d,k+1,a,us,x,rfl,rfl,by omega,by omega,by omega,HN2,HE,HI2,H2⟩
    case measure=>rw[a1l HI2.out,a1l HI.out];omega
  ·have hnx:=a7w hI hlt
   have HE2:=Hd (show us++[Value.string (s.extract a s.size)]=((a1n c (bl s)).map ofL).map Value.string by
    rw[←HE.out,b4z (HN.le (by omega)),List.map_cons,List.map_cons,b1t];rfl)
   clear hI hS hN
   go_wp2_with (at_builtin;refine a7z rfl (.tmp 27) (.tmp 31) 32 rfl underlying32 H.out HI.out rfl _ rfl ?c1 ?_)
   case c1=>omega
   intro v2 w2 h2 _;have H2:=Hd h2;clear h2 hnx;go_wp2;go_ret;exact⟨_,rfl,us.length+1,by rw[←HE2.out];exact H2⟩
theorem b8u (w:World)(s:ByteArray)(hs:s.size≤90000):
  Calls prog 30 #[.string s] w fun e w'=>∃ v,e=.returned v∧a9q w (a0u s) v w':=by
 have C1:=c1t w s 32 32 rfl (by decide) hs;obtain⟨L,hL⟩:∃ L,a0u s=L:=⟨_,rfl⟩
 have hsm:∀ x∈L,x.size≤90000:=by
  rw[←hL];intro x hx;obtain⟨p,hp,rfl⟩:=List.mem_map.1 hx;have:=a6f 32 (bl s) p hp;rw[a3w] at this;have e:(ofL p).size=p.length:=by rw[←a3w,a6y]
  omega
 have hlen:L.length≤s.size+1:=by rw[←hL];unfold a0u;rw[List.length_map];have:=a5p 32 (bl s);rw[a3w] at this;exact this
 have hne:0<L.length:=by rw[←hL];unfold a0u;rw[List.length_map];exact List.length_pos_iff.2 (b3x _ _)
 rw[show((a1n 32 (bl s)).map ofL)=L from hL] at C1;rw[hL];have HSM:=Hd hsm;clear hsm hL
 go_enter func30,ntmps30
 go_wp2_with fail
 refine C1.mono ?_;rintro e1 w1 ⟨v,rfl,n,hS⟩;have hn:L.length=n:=by have:=(hS.at_ 0 rfl).1;simpa using this
 subst hn;obtain⟨g,cp,hv,hcp⟩:=hS.rowForm 0 rfl hne;subst hv;have H:=Hd hS;clear hS C1;obtain⟨N,hN⟩:∃ N,L.length=N:=⟨_,rfl⟩;rw[hN] at H hlen hne hcp ⊢;have HNL:=Hd hN;clear hN
 go_wp2_with fail
 go_loopw [10] (fun iv wr=>∃ i:Nat,iv=.int .i64 i∧i≤N∧Sep w wr [.row 9 1 (.slice (some ⟨g,0,none⟩) N cp) N (L.map Value.string)]) (fun iv _=>N - (intOf iv).toNat)
 case atStart=>exact⟨0,rfl,by omega,H⟩
 case round =>
  clear H;obtain⟨i,rfl,hi,hS⟩:=hrel;by_cases hlt:i<N
  ·have d0:decide ((i:Int)<(N:Int))=true:=decide_eq_true (by omega);obtain⟨x,hx⟩:∃ x,L[i]?=some x:=gE (by rw[HNL.out];exact hlt);have c0:=hS.cellRow 0 rfl (j:=i) (u:=.string x) (by rw[List.getElem?_map,hx];rfl);have HX:=Hd hx;have hxs:=HSM.out x (mG hx);have H:=Hd hS;clear hS hx
   go_wp2_with fail
   refine(d3z _ x (by omega)).mono ?_;rintro e2 w2 ⟨rfl,hb⟩;replace H:=Hd (H.below hb);clear hb c0;have c0:=H.cellRow 0 rfl (j:=i) (u:=.string x) (by rw[List.getElem?_map,HX.out];rfl);have f0:=H.frozenRow 0 rfl (j:=i);have h2:=H.setRow 0 rfl i (.string x);have hset:(L.map Value.string).set i (.string x)=L.map Value.string:=b9n (by rw[List.getElem?_map,HX.out];rfl);rw[hset] at h2;have H2:=Hd (show Sep w _ [.row 9 1 (.slice (some ⟨g,0,none⟩) N cp) N (L.map Value.string)] from h2);clear h2 hset;go_wp2;go_roundw
   case rel=>exact⟨i+1,by go_num,by omega,H2⟩
   case measure=>simp[intOf];omega
  ·have d0:decide ((i:Int)<(N:Int))=false:=decide_eq_false (by omega);have H:=Hd hS;clear hS;go_wp2;go_ret;exact⟨_,rfl,N,H⟩
theorem e2p {n:Int}(hs:s.size≤90000)(hT:Tabs w)(hn:Fits n)(hE:numT n=s)(hneg:n<0):
  Calls prog 32 #[.string s] w fun e w'=>e=.returned (.tuple #[.int .i64 (a0t s).1,.bool (a0t s).2])∧Below w.heap.size w w':=by
 have HR:=Hd (a6e w s);have HB:=Hd (show Below w.heap.size w (w.iter s 0) from(Below.refl _ _).alloc (Nat.le_refl _) _);have HX:=Hd (show a0t s=(n,true) by rw[←hE];exact a3s hn);obtain⟨he1,he2⟩:=c9y hn hE;have HV:=Hd (fun (i:Nat) (hi:i<s.size)=>c4h hn hE hi);have HN:=Hd hn;have HT:=Hd hT;have HE1:=Hd he1;have HE2:=Hd he2;have HE:=Hd hE;have HNG:=Hd hneg;have hab:n.natAbs≤9223372036854775808:=by have:=hn.1;have:=hn.2;omega
 skip
 clear he1 he2 hE hn hT
 go_enter func32,ntmps32
 go_wp2_with fail
 go_loopw [5,4] (fun sv nv wr=>∃(pos k:Nat),pos≤s.size∧sv=.int .i64 (if pos=0 then 1 else -1)∧nv=.int .i64 (-(pval s pos:Int))∧pval s pos≤n.natAbs∧RIt wr w.heap.size s pos k∧Below w.heap.size w wr) (fun _ _ wr=>s.size-wr.iterPos w.heap.size)
 case atStart=>exact⟨0,0,by omega,rfl,rfl,by show 0≤_;omega,HR,HB⟩
 case round =>
  obtain⟨pos,k,hi,rfl,rfl,hp,hI,hB⟩:=hrel;have HI:=Hd hI;have HBW:=Hd hB;by_cases hlt:pos<s.size
  ·obtain⟨w2,r,d,hnx,hI2,hd,hr,hdd,hr9,hB2,hg⟩:=b6p hI hlt hB (Nat.le_refl _);have HI2:=Hd hI2;have HB2:=Hd hB2;clear hI hI2 hB hB2 hg;rcases HV pos hlt with ⟨h0,h1,h2⟩|⟨h0,h1,h2,h3,h4⟩
   ·subst h0;have hdc:=c8b hlt (by rw[h1];omega);rw[h1] at hdc;obtain rfl:r=45:=by rw[hr,hdc]
    obtain rfl:d=1:=by rw[hdd,hdc]
    have HP1:=Hd h2;have HP0:=Hd (show pval s 0=0 from rfl);clear h1 h2 hr hdd hdc hd hr9;go_wp2;go_roundw
    case rel=>exact⟨1,k+1,by omega,rfl,by rw[HP1.out,HP0.out],by rw[HP1.out];omega,HI2,HB2⟩
    case measure=>rw[a1l HI2.out,a1l HI.out];omega
   ·have hpos:pos≠0:=fun e=>by subst e;exact h0 ⟨rfl,(HE2 hlt).2 HNG⟩
    have hdc:=c8b hlt (by omega);obtain⟨c,hc⟩:∃ c,s[pos].toNat=c:=⟨_,rfl⟩;rw[hc] at h0 h1 h2 h3 hdc;obtain rfl:r=c:=by rw[hr,hdc]
    obtain rfl:d=1:=by rw[hdd,hdc]
    obtain⟨p0,hp0⟩:∃ p,pval s pos=p:=⟨_,rfl⟩;rw[hp0] at h3 hp ⊢;have HP1:=Hd h3;have hq:p0*10+(r-48)≤n.natAbs:=by omega
    have k2:48≤(r:Int):=by omega
    have k3:(r:Int)≤57:=by omega
    have k4:decide ((r:Int)<48)=false:=decide_eq_false (by omega);have k5:decide (57<(r:Int))=false:=decide_eq_false (by omega);rw[iN hpos];have d0:((pos:Int)==0)=false:=by simpa using hpos
    have HPO:=Hd hpos;clear h0 h1 h2 h3 h4 hp0 hr hdd hdc hd hr9 hc hpos;go_wp2;go_roundw
    case rel=>exact⟨pos+1,k+1,by omega,by rw[iN (by omega)],by rw[HP1.out];exact congrArg (Value.int .i64) (by omega),by rw[HP1.out];exact hq,HI2,HB2⟩
    case measure=>rw[a1l HI2.out,a1l HI.out];omega
  ·have hnx:=a7w hI hlt;obtain rfl:s.size=pos:=by omega
   clear hI hB hp;rw[HE1.out];rw[show(-(n.natAbs:Int))=n by omega];generalize (if s.size=0 then(1:Int) else -1)=gz;have CN:=a5y (w:=wr) HN (HT.below HBW);rw[HE.out] at CN
   go_wp2_with fail
   refine CN.mono ?_;rintro e1 w1 ⟨rfl,hb⟩;have HB1:=Hd (a1c HBW hb);clear CN hb hnx;go_wp2;go_ret2;rw[HX.out];exact⟨rfl,HB1⟩
theorem e2q {n:Int}(hs:s.size≤90000)(hT:Tabs w)(hn:Fits n)(hE:numT n=s)(hneg:¬ n<0):
  Calls prog 32 #[.string s] w fun e w'=>e=.returned (.tuple #[.int .i64 (a0t s).1,.bool (a0t s).2])∧Below w.heap.size w w':=by
 have HR:=Hd (a6e w s);have HB:=Hd (show Below w.heap.size w (w.iter s 0) from(Below.refl _ _).alloc (Nat.le_refl _) _);have HX:=Hd (show a0t s=(n,true) by rw[←hE];exact a3s hn);obtain⟨he1,he2⟩:=c9y hn hE;have HV:=Hd (fun (i:Nat) (hi:i<s.size)=>c4h hn hE hi);have HN:=Hd hn;have HT:=Hd hT;have HE1:=Hd he1;have HE2:=Hd he2;have HE:=Hd hE;have HNG:=Hd hneg;have hab:n.natAbs≤9223372036854775808:=by have:=hn.1;have:=hn.2;omega
 have hab2:n.natAbs≤9223372036854775807:=by have:=hn.2;omega
 clear he1 he2 hE hn hT
 go_enter func32,ntmps32
 go_wp2_with fail
 go_loopw [5,4] (fun sv nv wr=>∃(pos k:Nat),pos≤s.size∧sv=.int .i64 1∧nv=.int .i64 (pval s pos:Int)∧pval s pos≤n.natAbs∧RIt wr w.heap.size s pos k∧Below w.heap.size w wr) (fun _ _ wr=>s.size-wr.iterPos w.heap.size)
 case atStart=>exact⟨0,0,by omega,rfl,rfl,by show 0≤_;omega,HR,HB⟩
 case round =>
  obtain⟨pos,k,hi,rfl,rfl,hp,hI,hB⟩:=hrel;have HI:=Hd hI;have HBW:=Hd hB;by_cases hlt:pos<s.size
  ·obtain⟨w2,r,d,hnx,hI2,hd,hr,hdd,hr9,hB2,hg⟩:=b6p hI hlt hB (Nat.le_refl _);have HI2:=Hd hI2;have HB2:=Hd hB2;clear hI hI2 hB hB2 hg;rcases HV pos hlt with ⟨h0,h1,h2⟩|⟨h0,h1,h2,h3,h4⟩
   ·exfalso;subst h0;have h8:=(HE2 hlt).1 h1;have h9:=HNG.out;omega
   ·skip
    have hdc:=c8b hlt (by omega);obtain⟨c,hc⟩:∃ c,s[pos].toNat=c:=⟨_,rfl⟩;rw[hc] at h0 h1 h2 h3 hdc;obtain rfl:r=c:=by rw[hr,hdc]
    obtain rfl:d=1:=by rw[hdd,hdc]
    obtain⟨p0,hp0⟩:∃ p,pval s pos=p:=⟨_,rfl⟩;rw[hp0] at h3 hp ⊢;have HP1:=Hd h3;have hq:p0*10+(r-48)≤n.natAbs:=by omega
    have k2:48≤(r:Int):=by omega
    have k3:(r:Int)≤57:=by omega
    have k4:decide ((r:Int)<48)=false:=decide_eq_false (by omega);have k5:decide (57<(r:Int))=false:=decide_eq_false (by omega);clear h2 h3 h4 hp0 hr hdd hdc hd hr9;by_cases hpos:pos=0
    ·subst hpos;have k6:((r:Int)==45)=false:=by simp;omega
     clear h0 h1 hc;go_wp2;go_roundw
     case rel=>exact⟨1,k+1,by omega,rfl,by rw[HP1.out];exact congrArg (Value.int .i64) (by omega),by rw[HP1.out];exact hq,HI2,HB2⟩
     case measure=>rw[a1l HI2.out,a1l HI.out];omega
    ·have d0:((pos:Int)==0)=false:=by simpa using hpos
     clear h0 h1 hc hpos;go_wp2;go_roundw
     case rel=>exact⟨pos+1,k+1,by omega,rfl,by rw[HP1.out];exact congrArg (Value.int .i64) (by omega),by rw[HP1.out];exact hq,HI2,HB2⟩
     case measure=>rw[a1l HI2.out,a1l HI.out];omega
  ·have hnx:=a7w hI hlt;obtain rfl:s.size=pos:=by omega
   clear hI hB hp;rw[HE1.out];rw[show((n.natAbs:Nat):Int)=n by omega];have CN:=a5y (w:=wr) HN (HT.below HBW);rw[HE.out] at CN
   go_wp2_with fail
   refine CN.mono ?_;rintro e1 w1 ⟨rfl,hb⟩;have HB1:=Hd (a1c HBW hb);clear CN hb hnx;go_wp2;go_ret2;rw[HX.out];exact⟨rfl,HB1⟩
theorem e5f (hs:s.size≤90000)(hT:Tabs w)(hv:¬ ∃ n,Fits n∧numT n=s):
  Calls prog 32 #[.string s] w fun e w'=>e=.returned (.tuple #[.int .i64 (a0t s).1,.bool (a0t s).2])∧Below w.heap.size w w':=by
 have HR:=Hd (a6e w s);have HB:=Hd (show Below w.heap.size w (w.iter s 0) from(Below.refl _ _).alloc (Nat.le_refl _) _);have HX:=Hd (a6g hv);have HV:=Hd hv;have HT:=Hd hT;clear hv hT
 go_enter func32,ntmps32
 go_wp2_with fail
 go_loopw [5,4] (fun sv nv wr=>∃(pos k:Nat) (m g:Int),(g=1∨g = -1)∧sv=.int .i64 g∧nv=.int .i64 m∧Fits m∧RIt wr w.heap.size s pos k∧Below w.heap.size w wr) (fun _ _ wr=>s.size-wr.iterPos w.heap.size)
 case atStart=>exact⟨0,0,0,1,.inl rfl,rfl,rfl,⟨by omega,by omega⟩,HR,HB⟩
 case round =>
  obtain⟨pos,k,m,g,hg1,rfl,rfl,hm,hI,hB⟩:=hrel;have HI:=Hd hI;have HBW:=Hd hB;have HM:=Hd hm;have HG1:=Hd hg1;clear hm hg1;by_cases hlt:pos<s.size
  ·obtain⟨w2,r,d,hnx,hI2,hd,hr,hdd,hr9,hB2,hg⟩:=b6p hI hlt hB (Nat.le_refl _);have HI2:=Hd hI2;have HB2:=Hd hB2;clear hI hI2 hB hB2 hg hr hdd;have go:∀ q:Bool,((pos:Int)==0)=q→(q=true→((r:Int)==45)=false)→True:=fun _ _ _=>trivial
   by_cases h45:pos=0∧r=45
   ·obtain⟨rfl,rfl⟩:=h45;go_wp2;go_roundw
    case rel=>exact⟨0+d,k+1,m,-1,.inr rfl,rfl,rfl,HM,HI2,HB2⟩
    case measure=>rw[a1l HI2.out,a1l HI.out];omega
   ·obtain⟨q,hq⟩:∃ q,((pos:Int)==0)=q:=⟨_,rfl⟩;obtain⟨b,hb⟩:∃ b,((r:Int)==45)=b:=⟨_,rfl⟩
    have hqb:q=true→b=false:=fun e=>by
     rw[e] at hq;rw[←hb];have h1:pos=0:=by have:=beq_iff_eq.1 hq;omega
     have h2:r≠45:=fun e=>h45 ⟨h1,e⟩
     simp;omega
    have HQB:=Hd hqb;clear h45 hqb go
    cases q with
    | true =>
     obtain rfl:b=false:=HQB.out rfl;by_cases hlo:(r:Int)<48
     ·have k4:decide ((r:Int)<48)=true:=decide_eq_true hlo;clear hlo;go_wp2;go_ret2;rw[HX.out];exact⟨rfl,HB2⟩
     have k4:decide ((r:Int)<48)=false:=decide_eq_false hlo;by_cases hhi:57<(r:Int)
     ·have k5:decide (57<(r:Int))=true:=decide_eq_true hhi;clear hhi hlo;go_wp2;go_ret2;rw[HX.out];exact⟨rfl,HB2⟩
     have k5:decide (57<(r:Int))=false:=decide_eq_false hhi;have k2:48≤(r:Int):=by omega
     have k3:(r:Int)≤57:=by omega
     clear hlo hhi;rcases HG1 with rfl|rfl
     ·go_wp2;go_roundw
      case rel=>exact⟨pos+d,k+1,_,1,.inl rfl,rfl,rfl,a2h _,HI2,HB2⟩
      case measure=>rw[a1l HI2.out,a1l HI.out];omega
     ·go_wp2;go_roundw
      case rel=>exact⟨pos+d,k+1,_,-1,.inr rfl,rfl,rfl,a2h _,HI2,HB2⟩
      case measure=>rw[a1l HI2.out,a1l HI.out];omega
    | false =>
     clear hb;by_cases hlo:(r:Int)<48
     ·have k4:decide ((r:Int)<48)=true:=decide_eq_true hlo;clear hlo;go_wp2;go_ret2;rw[HX.out];exact⟨rfl,HB2⟩
     have k4:decide ((r:Int)<48)=false:=decide_eq_false hlo;by_cases hhi:57<(r:Int)
     ·have k5:decide (57<(r:Int))=true:=decide_eq_true hhi;clear hhi hlo;go_wp2;go_ret2;rw[HX.out];exact⟨rfl,HB2⟩
     have k5:decide (57<(r:Int))=false:=decide_eq_false hhi;have k2:48≤(r:Int):=by omega
     have k3:(r:Int)≤57:=by omega
     clear hlo hhi;rcases HG1 with rfl|rfl
     ·go_wp2;go_roundw
      case rel=>exact⟨pos+d,k+1,_,1,.inl rfl,rfl,rfl,a2h _,HI2,HB2⟩
      case measure=>rw[a1l HI2.out,a1l HI.out];omega
     ·go_wp2;go_roundw
      case rel=>exact⟨pos+d,k+1,_,-1,.inr rfl,rfl,rfl,a2h _,HI2,HB2⟩
      case measure=>rw[a1l HI2.out,a1l HI.out];omega
  ·have hnx:=a7w hI hlt;clear hI hB;have k2:((numT m).toList==s.toList)=false:=by rw[eqS,decide_eq_false];exact fun e=>HV.out ⟨m,HM,e⟩
   have CN:=a5y (w:=wr) HM (HT.below HBW)
   go_wp2_with fail
   refine CN.mono ?_;rintro e1 w1 ⟨rfl,hb⟩;have HB1:=Hd (a1c HBW hb);clear CN hb hnx;go_wp2;go_ret2;rw[HX.out];exact⟨rfl,HB1⟩
theorem a7e (s:ByteArray)(hs:s.size≤90000)(hT:Tabs w):
  Calls prog 32 #[.string s] w fun e w'=>e=.returned (.tuple #[.int .i64 (a0t s).1,.bool (a0t s).2])∧Below w.heap.size w w':=by
 by_cases hv:∃ n,Fits n∧numT n=s
 ·obtain⟨n,hn,hE⟩:=hv;by_cases hneg:n<0
  ·exact e2p hs hT hn hE hneg
  ·exact e2q hs hT hn hE hneg
 ·exact e5f hs hT hv
theorem a9g {t:TypeId}(ht:prog.underlying t=some (.slice e))(hinfo:(prog.info? e).map (fun i=>(i.zero,i.size,i.bytes))=some (some (.int .i64 0),1,8))
  (hn:n≤17592186044000)(w:World):
  (Instr.makeSlice t (.int .i64 0) (.int .i64 n)).run prog w=.ok (.slice (some ⟨w.heap.size,0,none⟩) 0 n) (w.alloc (.cells (noughts n) e)):=by
 obtain⟨i,hi,hz0,hz1,hz2⟩:=info_parts hinfo;have:=run_make (P:=prog) w t e i (.int .i64 0) ht hi hz0 .i64 .i64 0 n (by omega) (by omega) (by rw[hz2];omega) (by omega);rw[this,hz1];simp only[Int.toNat_natCast,Nat.mul_one];rw[←a8m];rfl
theorem Sep.room {l:List a0e}(h:Sep w0 w l)(e:TypeId)(n:Nat)(hn:n≤17592186044000):Sep w0 (w.alloc (.cells (Go.Proofs.YtdcmanhgekjhgaaGreatDoor.noughts n) e)) (.own e (.slice (some ⟨w.heap.size,0,none⟩) 0 n) 0 []::l) :=
 h.addOwn ((Below.refl _ _).alloc (Nat.le_refl _) _) ⟨⟨rfl,.inr ⟨w.heap.size,n,Go.Proofs.YtdcmanhgekjhgaaGreatDoor.noughts n,rfl,Nat.le_refl _,heap_alloc_new _ _,Nat.zero_le _,by unfold maxLen;omega,by simp[Go.Proofs.YtdcmanhgekjhgaaGreatDoor.noughts],by simp⟩⟩,by simp,by omega⟩
end Go.Proofs.YtdcmanhgekjhgaaGreatDoor
