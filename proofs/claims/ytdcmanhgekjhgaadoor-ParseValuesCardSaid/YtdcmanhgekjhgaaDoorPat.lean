import Derived.Test.YtdcmanhgekjhgaaDoorPas
set_option maxRecDepth 100000
set_option maxHeartbeats 12800000
namespace Go.Proofs.YtdcmanhgekjhgaaDoor
open Go.RowKit Go.Proofs.Tryd
variable {K a i j k m n pos:Nat} {e:TypeId} {s:ByteArray} {us:List Value} {v:Value} {w w0:World}
theorem c6b {b:UInt8}(h:(bl s)[j]?=some b):s.get! j=b:=by
 cases s with
 | mk d =>
  have h2:d[j]?=some b:=by rw[←Array.getElem?_toList];exact h
  show d[j]! = b
  rw[getElem!_def,h2]
theorem c0s (h:j<s.size):s.get! j=s[j]:=c6b (b9z h)
theorem a8z (s:ByteArray)(i:Nat):
  ((s.get! i).toNat<128∧Utf8.decode s i=((s.get! i).toNat,1))∨(128≤(s.get! i).toNat∧128≤(Utf8.decode s i).1∧1≤(Utf8.decode s i).2∧∀ k,k<(Utf8.decode s i).2→128≤(s.get! (i+k)).toNat):=by
 have e0:i+0=i:=rfl;by_cases h0:(s.get! i).toNat<128
 ·left
  refine⟨h0,?_⟩;unfold Utf8.decode;simp only[e0,if_pos h0]
 ·right
  refine⟨by omega,?_⟩
  have key:∀ d:Nat,1≤d→d≤4→(2≤d→(s.get! (i+1)).toNat / 64=2)→(3≤d→(s.get! (i+2)).toNat / 64=2)→(4≤d→(s.get! (i+3)).toNat / 64=2)→∀ k,k<d→128≤(s.get! (i+k)).toNat:=by
   intro d h1 h4 g1 g2 g3 k hk
   match k,hk with
   | 0,_=>rw[e0];omega
   | 1,hk=>have:=g1 (by omega);omega
   | 2,hk=>have:=g2 (by omega);omega
   | 3,hk=>have:=g3 (by omega);omega
   | k+4,hk=>omega
  unfold Utf8.decode;simp only[e0,if_neg h0]
  split
  ·rename_i h;simp only[Bool.and_eq_true,beq_iff_eq,decide_eq_true_eq] at h
   split
   ·rename_i hc;exact⟨by simpa using hc,by show 1≤2;omega,key 2 (by omega) (by omega) (fun _=>h.2.2) (fun h=>by omega) (fun h=>by omega)⟩
   ·exact⟨by show 128≤65533;omega,by show 1≤1;omega,key 1 (by omega) (by omega) (fun h=>by omega) (fun h=>by omega) (fun h=>by omega)⟩
  ·split
   ·rename_i h;simp only[Bool.and_eq_true,beq_iff_eq,decide_eq_true_eq] at h
    split
    ·rename_i hc;simp only[ge_iff_le,Bool.and_eq_true,decide_eq_true_eq] at hc;exact⟨Nat.le_trans (by omega) hc.1,by show 1≤3;omega,key 3 (by omega) (by omega) (fun _=>h.1.2.2) (fun _=>h.2.2) (fun h=>by omega)⟩
    ·exact⟨by show 128≤65533;omega,by show 1≤1;omega,key 1 (by omega) (by omega) (fun h=>by omega) (fun h=>by omega) (fun h=>by omega)⟩
   ·split
    ·rename_i h;simp only[Bool.and_eq_true,beq_iff_eq,decide_eq_true_eq] at h
     split
     ·rename_i hc;simp only[ge_iff_le,Bool.and_eq_true,decide_eq_true_eq] at hc;exact⟨Nat.le_trans (by omega) hc.1,by show 1≤4;omega,key 4 (by omega) (by omega) (fun _=>h.1.1.2.2) (fun _=>h.1.2.2) (fun _=>h.2.2)⟩
     ·exact⟨by show 128≤65533;omega,by show 1≤1;omega,key 1 (by omega) (by omega) (fun h=>by omega) (fun h=>by omega) (fun h=>by omega)⟩
    ·exact⟨by show 128≤65533;omega,by show 1≤1;omega,key 1 (by omega) (by omega) (fun h=>by omega) (fun h=>by omega) (fun h=>by omega)⟩
theorem c8d {c:UInt8}(hc:c.toNat<128)(hi:i<s.size)(h:(Utf8.decode s i).1=c.toNat):s[i]=c∧(Utf8.decode s i).2=1:=by
 rcases a8z s i with ⟨h1,h2⟩|⟨h1,h2,h3,h4⟩
 ·rw[h2] at h ⊢;rw[c0s hi] at h;exact⟨UInt8.toNat.inj h,rfl⟩
 ·omega
theorem c6r {c:UInt8}(hc:c.toNat<128)(hi:i<s.size)(h:(Utf8.decode s i).1≠c.toNat)(hN:NoC c s a i):NoC c s a (i+(Utf8.decode s i).2):=by
 intro j b hj h1 h2;by_cases hji:j<i
 ·exact hN j b hj h1 hji
 ·have hb:=c6b hj;rcases a8z s i with ⟨g1,g2⟩|⟨g1,g2,g3,g4⟩
  ·rw[g2] at h h2;have:j=i:=by simp only at h2;omega
   subst this;intro e;subst e;exact h (by rw[hb])
  ·have:=g4 (j-i) (by omega);rw[show i+(j-i)=j by omega,hb] at this;intro e;subst e;omega
theorem b5f (hi:i<s.size)(h:s[i].toNat<128):Utf8.decode s i=(s[i].toNat,1):=by
 rcases a8z s i with ⟨h1,h2⟩|⟨h1,_⟩
 ·rw[c0s hi] at h2;exact h2
 ·rw[c0s hi] at h1;omega
theorem NoC.le {c:UInt8}(h:NoC c s a i)(hj:j≤i):NoC c s a j:=fun k b hk h1 h2=>h k b hk h1 (by omega)
theorem a8t {B:Nat}(h:RIt w K s pos k)(hlt:pos<s.size)(hB:Below B w0 w)(hK:B≤K):
  ∃(w2:World) (r d:Nat),(∀ ty,(Instr.next (.pointer (some ⟨K,0,none⟩)) true ty).run prog w=.ok (.tuple #[.bool true,.int .i64 pos,.int .i32 r]) w2) ∧
   RIt w2 K s (pos+d) (k+1)∧1≤d∧r=(Utf8.decode s pos).1∧d=(Utf8.decode s pos).2∧r≤2147483647∧Below B w0 w2∧w.grownBy w2 (some K):=by
 have hg:=a7w (w:=w) (s:=s) (k:=K) (pos:=pos+(Utf8.decode s pos).2);have hst:=a8f s hlt;rw[h.2.1] at hst
 have hd:(a0a s).drop (k+1)=a0r s s.size (pos+(Utf8.decode s pos).2):=by
  have:=congrArg List.tail hst;simpa using this
 have hw:=a3i s pos hlt;have:=h.2.2;exact⟨_,_,(Utf8.decode s pos).2,fun ty=>b0o (P:=prog) h.1 hlt ty,⟨a9k (a8e h),hd.symm,by omega⟩,hw,rfl,rfl,by have:=decode_le s pos;omega,a5k hB (by have:=a8e h;omega) hg hK,hg⟩
theorem b0k {base:Nat}(h:w.ownsRow base e m v n us)(hK:w.heap[K]?=some (.stringIter s pos)):v.ownBlock≠some K:=by
 rcases h.2 with ⟨rfl,_⟩|⟨g,cap,cur,rfl,_,hg,_⟩
 ·exact fun h=>by cases h
 ·intro e;injection e with e
  subst e;rw[hK] at hg
  cases hg
theorem c7n (hB:Below w0.heap.size w0 w)(h:w.ownsRow w0.heap.size e m v n us):Sep w0 w [.row e m v n us] :=
 Sep.cons_ hB h (fun i d hi=>by simp at hi) (fun i d hi=>by simp at hi) (fun i j a b _ hi=>by simp at hi)
theorem b6i {w2:World}(h:Sep w0 w [.row e m v n us])(hI:RIt w K s pos k)(hB:Below w0.heap.size w0 w2)(hg:w.grownBy w2 (some K)):Sep w0 w2 [.row e m v n us]:=by
 refine c7n hB ?_;have hr:w.ownsRow w0.heap.size e m v n us:=h.at_ 0 rfl;refine World.ownsRow.kept hr hg ?_
 cases hv:v.ownBlock with
 | none=>exact .inl rfl
 | some b=>exact .inr fun he=>b0k hr hI.1 (by rw[hv];injection he with he;rw[he])
theorem a3o {ops:Array Oper}{rest:List Oper}{o:Oper}{a:Act}{Q:Exit→Act→World→Prop}(hgd:o.guard=none)(s y:Operand)(t:TypeId)
  (ho:o.op=.call { callee:=.builtin .append,args:=#[s,y],argTypes:=#[t,t] })(ht:prog.underlying t=some (.slice 9))
  (H:Sep w0 w [.row 9 1 v n us]){T:ByteArray}(hI:RIt w K T pos k)(hs:a.eval s=v){x:ByteArray}(c:Nat)(hy:a.eval y=.slice (some ⟨w.heap.size,0,none⟩) 1 c)
  (hn:n≤100000)
  (h:∀ v' w', Sep w0 w' [.row 9 1 v' (n+1) (us++[.string x])]→RIt w' K T pos k→wpList prog ops Q rest (a.put o.dst v') w'):
  wpList prog ops Q (o::rest) a (w.alloc (.cells #[.string x] 9)):=by
 obtain⟨ti,h1,h2,h3,h4⟩:=b2j;have hBl:=(Below.refl w.heap.size w).alloc (Nat.le_refl _) (.cells #[.string x] 9);have H':=H.below hBl;have hI':=a4w hI hBl (a8e hI);have hsz:=H'.size;have hr:(w.alloc (.cells #[.string x] 9)).ownsRow w0.heap.size 9 1 v n us:=H'.at_ 0 rfl;refine wpList_append_own_at _ hgd s y t ho w0.heap.size 9 ti _ 1 16 ht h1 h2 h3 h4 (by rfl) (by omega) v n us hs hr ⟨w.heap.size,0,none⟩ 1 c [.string x] hy rfl ?_ (by simp[Value.oneCell']) (by unfold maxLen;omega) (by omega) hsz ?_
 ·intro j u hj;have hb:=heap_alloc_new w (.cells #[.string x] 9)
  match j,hj with
  | 0,hj=>simp at hj;subst hj;exact cell_of_row _ _ 0 _ _ _ hb
  | j+1,hj=>simp at hj
 ·intro v' w' h5 h6 _ h8
  refine h v' w' (H'.change 0 rfl h6 h5 fun b hb=>by
   have hb:v'.ownBlock=some b:=hb;rcases h8 with e|e
   ·exact .inl (e.symm.trans hb)
   ·rw[e] at hb;injection hb with hb;subst hb;exact .inr (Nat.le_refl _)) (b4g hI' h6 (b0k hr hI'.1))
theorem b1u (w:World)(s:ByteArray)(c:UInt8)(z:Int)(hz:z=(c.toNat:Int))(hc:c.toNat<128)(hs:s.size≤90000):
  Calls prog 9 #[.string s,.int .i32 z] w fun e w'=>∃ v,e=.returned v∧a7b w ((a0u c (bl s)).map ofL) v w':=by
 have HR:=Hd (a2i w s);have HZ:=Hd hz;have HC:=Hd hc;have H:=Hd ((Sep.nil w).below ((Below.refl w.heap.size w).alloc (Nat.le_refl _) (.stringIter s 0)) |>.addRowNil 9 1);clear hz hc
 go_enter func9,ntmps9
 go_wp2_with fail
 go_loopw [6,5] (fun av sv wr=>∃(pos k a:Nat) (us:List Value) (x:Value),x=sv∧av=.int .i64 a∧a≤pos∧a≤s.size∧us.length≤a∧NoC c s a pos∧us++((a0u c ((bl s).drop a)).map ofL).map Value.string=((a0u c (bl s)).map ofL).map Value.string∧RIt wr w.heap.size s pos k∧Sep w wr [.row 9 1 x us.length us]) (fun _ _ wr=>s.size-wr.iterPos w.heap.size)
 case atStart=>exact⟨0,0,0,[],_,rfl,rfl,by omega,by omega,by simp,NoC.nil _ _ _,rfl,HR,H⟩
 case round =>
  clear H;obtain⟨pos,k,a,us,x,rfl,rfl,ha,has,hul,hN,hE,hI,hS⟩:=hrel;have H:=Hd hS;have HN:=Hd hN;have HE:=Hd hE;have HI:=Hd hI;clear hE;by_cases hlt:pos<s.size
  ·obtain⟨w2,r,d,hnx,hI2,hd,hr,hdd,hr9,hB2,hg⟩:=a8t hI hlt hS.base (Nat.le_refl _);have H2:=Hd (b6i hS hI hB2 hg);have HI2:=Hd hI2;clear hI hI2 hS hB2 hg H hN;by_cases hb:r=c.toNat
   ·have db:((r:Int)==z)=true:=by rw[HZ.out,hb];simp
    obtain⟨hb2,hd1⟩:=c8d HC hlt (by rw[←hr];exact hb)
    have HE2:=Hd (show(us++[Value.string (s.extract a pos)])++((a0u c ((bl s).drop (pos+1))).map ofL).map Value.string=((a0u c (bl s)).map ofL).map Value.string by
     rw[←HE.out,c5q HN.out ha hlt hb2,List.map_cons,List.map_cons,b0b,List.append_assoc];rfl)
    obtain rfl:d=1:=by rw[hdd];exact hd1
    clear hb hb2 hd1 hr hdd hd;have hpi:pos≤s.size:=by omega
    go_wp2_with (at_builtin;refine a3o rfl (.tmp 18) (.tmp 23) 25 rfl underlying25 H2.out HI2.out rfl _ rfl ?c1 ?_)
    case c1=>omega
    intro v2 w3 h2 hI3;have H3:=Hd h2;have HI3:=Hd hI3;clear h2 hI3 hnx;go_wp2;go_roundw
    case rel=>exact⟨pos+1,k+1,pos+1,us++[Value.string (s.extract a pos)],v2,rfl,by go_num,by omega,by omega,by rw[List.length_append];show us.length+1≤pos+1;omega,NoC.nil _ _ _,HE2,HI3,by have:=H3.out;rw[List.length_append];exact this⟩
    case measure=>rw[a0o HI3.out,a0o HI.out];omega
   ·have db:((r:Int)==z)=false:=by rw[HZ.out];simp;omega
    have HN2:=Hd (show NoC c s a (pos+d) by rw[hdd];exact c6r HC hlt (by rw[←hr];exact hb) HN);clear hb hr hdd;go_wp2;go_roundw
    case rel=>exact⟨pos+d,k+1,a,us,x,rfl,rfl,by omega,by omega,by omega,HN2,HE,HI2,H2⟩
    case measure=>rw[a0o HI2.out,a0o HI.out];omega
  ·have hnx:=a3l hI hlt
   have HE2:=Hd (show us++[Value.string (s.extract a s.size)]=((a0u c (bl s)).map ofL).map Value.string by
    rw[←HE.out,b9n (HN.le (by omega)),List.map_cons,List.map_cons,b0b];rfl)
   clear hI hS hN
   go_wp2_with (at_builtin;refine a3o rfl (.tmp 27) (.tmp 31) 25 rfl underlying25 H.out HI.out rfl _ rfl ?c1 ?_)
   case c1=>omega
   intro v2 w2 h2 _;have H2:=Hd h2;clear h2 hnx;go_wp2;go_ret;exact⟨_,rfl,us.length+1,by rw[←HE2.out];exact H2⟩
theorem b0f (w:World)(s:ByteArray)(hs:s.size≤90000):
  Calls prog 6 #[.string s] w fun e w'=>∃ v,e=.returned v∧a7b w (a0g s) v w':=by
 have C1:=b1u w s 32 32 rfl (by decide) hs;obtain⟨L,hL⟩:∃ L,a0g s=L:=⟨_,rfl⟩
 have hsm:∀ x∈L,x.size≤90000:=by
  rw[←hL];intro x hx;obtain⟨p,hp,rfl⟩:=List.mem_map.1 hx;have:=a3m 32 (bl s) p hp;rw[a1w] at this;have e:(ofL p).size=p.length:=by rw[←a1w,a4l]
  omega
 have hlen:L.length≤s.size+1:=by rw[←hL];unfold a0g;rw[List.length_map];have:=a2t 32 (bl s);rw[a1w] at this;exact this
 have hne:0<L.length:=by rw[←hL];unfold a0g;rw[List.length_map];exact List.length_pos_iff.2 (a6v _ _)
 rw[show((a0u 32 (bl s)).map ofL)=L from hL] at C1;rw[hL];have HSM:=Hd hsm;clear hsm hL
 go_enter func6,ntmps6
 go_wp2_with fail
 refine C1.mono ?_;rintro e1 w1 ⟨v,rfl,n,hS⟩;have hn:L.length=n:=by have:=(hS.at_ 0 rfl).1;simpa using this
 subst hn;obtain⟨g,cp,hv,hcp⟩:=hS.rowForm 0 rfl hne;subst hv;have H:=Hd hS;clear hS C1;obtain⟨N,hN⟩:∃ N,L.length=N:=⟨_,rfl⟩;rw[hN] at H hlen hne hcp ⊢;have HNL:=Hd hN;clear hN
 go_wp2_with fail
 go_loopw [10] (fun iv wr=>∃ i:Nat,iv=.int .i64 i∧i≤N∧Sep w wr [.row 9 1 (.slice (some ⟨g,0,none⟩) N cp) N (L.map Value.string)]) (fun iv _=>N - (intOf iv).toNat)
 case atStart=>exact⟨0,rfl,by omega,H⟩
 case round =>
  clear H;obtain⟨i,rfl,hi,hS⟩:=hrel;by_cases hlt:i<N
  ·have d0:decide ((i:Int)<(N:Int))=true:=decide_eq_true (by omega);obtain⟨x,hx⟩:∃ x,L[i]?=some x:=gE (by rw[HNL.out];exact hlt);have c0:=hS.cellRow 0 rfl (j:=i) (u:=.string x) (by rw[List.getElem?_map,hx];rfl);have HX:=Hd hx;have hxs:=HSM.out x (mG hx);have H:=Hd hS;clear hS hx
   go_wp2_with fail
   refine(b9f _ x (by omega)).mono ?_;rintro e2 w2 ⟨rfl,hb⟩;replace H:=Hd (H.below hb);clear hb c0;have c0:=H.cellRow 0 rfl (j:=i) (u:=.string x) (by rw[List.getElem?_map,HX.out];rfl);have f0:=H.frozenRow 0 rfl (j:=i);have h2:=H.setRow 0 rfl i (.string x);have hset:(L.map Value.string).set i (.string x)=L.map Value.string:=c2k (by rw[List.getElem?_map,HX.out];rfl);rw[hset] at h2;have H2:=Hd (show Sep w _ [.row 9 1 (.slice (some ⟨g,0,none⟩) N cp) N (L.map Value.string)] from h2);clear h2 hset;go_wp2;go_roundw
   case rel=>exact⟨i+1,by go_num,by omega,H2⟩
   case measure=>simp[intOf];omega
  ·have d0:decide ((i:Int)<(N:Int))=false:=decide_eq_false (by omega);have H:=Hd hS;clear hS;go_wp2;go_ret;exact⟨_,rfl,N,H⟩
end Go.Proofs.YtdcmanhgekjhgaaDoor
