import Derived.Test.YtjblengklgkgfaaGreatPaq
set_option maxRecDepth 100000
set_option maxHeartbeats 12800000
namespace Go.Proofs.YtjblengklgkgfaaGreat
open Go.RowKit Go.Proofs.Tryz
variable {D S:Option Addr} {L:List (List Int)} {a d f o s z:List Int} {dc dn n sc sn:Nat} {l pool:List a0c} {nd:a0s} {t:List Int × List Int} {us:List Value} {v:Value} {w w0:World}
theorem e1a:(prog.info? 33).map (fun i=>(i.zero,i.size,i.bytes))=some (some (.agg #[.slice none 0 0,.slice none 0 0]),2,48):=by kernel_rfl
theorem a5z:∃ i,prog.info? 33=some i∧i.zero=some (.agg #[.slice none 0 0,.slice none 0 0])∧i.size=2∧i.bytes=48:=by
 have h:=e1a
 cases e:prog.info? 33 with
 | none=>rw[e] at h;cases h
 | some i =>
  rw[e] at h;simp only[Option.map_some,Option.some.injEq,Prod.mk.injEq] at h;exact⟨i,rfl,h.1,h.2.1,h.2.2⟩
theorem a2l {ops:Array Oper}{rest:List Oper}{o:Oper}{a:Act}{Q:Exit→Act→World→Prop}(hgd:o.guard=none)(s y:Operand)(t:TypeId)
  (ho:o.op=.call { callee:=.builtin .append,args:=#[s,y],argTypes:=#[t,t] })(ht:prog.underlying t=some (.slice 33))
  (H:Sep w0 w l)(i:Nat)(hi:l[i]?=some (.row 33 2 v n us))(hs:a.eval s=v)(c:Nat)(hy:a.eval y=.slice (some ⟨w.heap.size,0,none⟩) 1 c)
  (hn:n≤1000)
  (h:∀ v' w', Sep w0 w' (l.set i (.row 33 2 v' (n+1) (us++[.slice S sn sc,.slice D dn dc])))→wpList prog ops Q rest (a.put o.dst v') w'):
  wpList prog ops Q (o::rest) a (w.alloc (.cells #[.slice S sn sc,.slice D dn dc] 33)):=by
 obtain⟨ti,h1,h2,h3,h4⟩:=a5z;have H':=H.below ((Below.refl w.heap.size w).alloc (Nat.le_refl _) (.cells #[.slice S sn sc,.slice D dn dc] 33));have hsz:=H'.size;refine wpList_append_own_at _ hgd s y t ho w0.heap.size 33 ti _ 2 48 ht h1 h2 h3 h4 (by rfl) (by omega) v n us hs (H'.at_ i hi) ⟨w.heap.size,0,none⟩ 1 c [.slice S sn sc,.slice D dn dc] hy rfl ?_ (by simp[Value.oneCell']) (by unfold maxLen;omega) (by omega) hsz ?_
 ·intro j u hj;have hb:=heap_alloc_new w (.cells #[.slice S sn sc,.slice D dn dc] 33)
  match j,hj with
  | 0,hj=>simp at hj;subst hj;exact cell_of_row _ _ 0 _ _ _ hb
  | 1,hj=>simp at hj;subst hj;exact cell_of_row _ _ 1 _ _ _ hb
  | j+2,hj=>simp at hj
 ·intro v' w' h5 h6 _ h8
  exact h v' w' (H'.change i hi h6 h5 fun b hb=>by
   have hb:v'.ownBlock=some b:=hb;rcases h8 with e|e
   ·exact .inl (e.symm.trans hb)
   ·rw[e] at hb;injection hb with hb;subst hb;exact .inr (Nat.le_refl _))
def Pool (us:List Value) (L:TL) (pool:List a0c):Prop:=us.length=L.length*2∧∀(j:Nat) (t:List Int × List Int),L[j]?=some t→∃(S:Option Addr) (sn sc:Nat) (D:Option Addr) (dn dc p q:Nat),us[j*2]?=some (.slice S sn sc)∧us[j*2+1]?=some (.slice D dn dc)∧pool[p]?=some (a0c.own 3 (.slice S sn sc) sn t.1)∧pool[q]?=some (a0c.own 2 (.slice D dn dc) dn t.2)
theorem b7g (g j:Nat):(⟨g,0,none⟩:Addr).add j=⟨g,j,none⟩:=by
 by_cases h:j=0
 ·subst h;rfl
 ·simp[Addr.add,h]
theorem c9d:Pool [] [] []:=⟨rfl,fun j t h=>by simp at h⟩
theorem Pool.more {L:TL}(h:Pool us L pool):
  Pool (us++[.slice S sn sc,.slice D dn dc]) (L++[t]) (a0c.own 3 (.slice S sn sc) sn t.1::a0c.own 2 (.slice D dn dc) dn t.2::pool):=by
 obtain⟨hl,h⟩:=h;refine⟨by simp[hl];omega,fun j u hu=>?_⟩;rcases Nat.lt_or_ge j L.length with hj|hj
 ·rw[List.getElem?_append_left hj] at hu;obtain⟨S', sn', sc', D', dn', dc', p,q,h1,h2,h3,h4⟩:=h j u hu;exact⟨S', sn', sc', D', dn', dc', p+2,q+2,by rw[List.getElem?_append_left (by omega)];exact h1,by rw[List.getElem?_append_left (by omega)];exact h2,h3,h4⟩
 ·rw[List.getElem?_append_right hj] at hu
  have hj' : j=L.length:=by
   rcases Nat.eq_or_lt_of_le hj with e|e
   ·exact e.symm
   ·obtain⟨m,hm⟩:∃ m,j-L.length=m+1:=⟨j-L.length-1,by omega⟩;rw[hm] at hu;simp at hu
  subst hj';simp at hu;subst hu;exact⟨S,sn,sc,D,dn,dc,0,1,by rw[List.getElem?_append_right (by omega),hl];simp,by rw[List.getElem?_append_right (by omega),hl];simp,rfl,rfl⟩
theorem d5c {g c:Nat}{L:TL}(h:Sep w0 w (.row 33 2 (.slice (some ⟨g,0,none⟩) n c) n us::l))(hP:Pool us L pool)(hn:L.length=n)(hn2:n≤1000)(f:Nat)(hf:∀ i,l[i+f]?=pool[i]?):
  Tens w (some ⟨g,0,none⟩) n L:=by
 have hrow:w.ownsRow w0.heap.size 33 2 (.slice (some ⟨g,0,none⟩) n c) n us:=h.at_ 0 rfl;obtain⟨hl,hP⟩:=hP;refine⟨hn,by omega,fun j t ht=>?_⟩;have hj:j<L.length:=(lL ht);obtain⟨S,sn,sc,D,dn,dc,p,q,h1,h2,h3,h4⟩:=hP j t ht;have hlt:=(World.ownsRow.lt hrow g rfl).2;have hp:=h.ownInts (p+f+1) ((hf p).trans h3);have hq:=h.ownInts (q+f+1) ((hf q).trans h4);refine⟨⟨g,0,none⟩,S,sn,sc,D,dn,dc,rfl,hlt,?_,?_,a1s hp.2.2 hp.2.1 hq.2.2 hq.2.1⟩
 ·rw[b7g];rw[hrow.cellAt (j*2) (by omega),h1]
 ·rw[b7g];rw[hrow.cellAt (j*2+1) (by omega),h2]
def zeros (s:List Int):List Int × List Int:=(s,List.replicate (Sh.size s).toNat 0)
theorem a1h (h:Sh.right s=true):a0a (zeros s).1 (zeros s).2=true:=by
 have:=Sh.size_bd s;simp only[zeros,a0a,h,Bool.true_and,List.length_replicate,decide_eq_true_eq];omega
noncomputable def a1j (nd:a0s) (L:List (List Int)):Int × List Int :=
 if a4h nd L.length=true then
  (if L.all Sh.right=true then
   (if nd.op=1 then(if Sh.right nd.shape=true then(0,nd.shape) else(13,[]))
   else if (a0r nd (L.map zeros)).1=0 then(0,(a0r nd (L.map zeros)).2.1) else((a0r nd (L.map zeros)).1,[]))
  else(13,[]))
 else(1,[])
theorem a9y (h:a4h nd L.length=false):a1j nd L=(1,[]):=by rw[a1j,h];rfl
theorem c0u (h:a4h nd L.length=true){j:Nat}(hs:L[j]?=some s)(hr:Sh.right s=false):a1j nd L=(13,[]):=by
 have:L.all Sh.right=false:=by
  rw[List.all_eq_false];exact⟨s,mG hs,by rw[hr];simp⟩
 rw[a1j,iP h,this];rfl
theorem b1c (h:a4h nd L.length=true)(ha:L.all Sh.right=true)(ho:nd.op=1):a1j nd L=if Sh.right nd.shape=true then(0,nd.shape) else(13,[]):=by
 rw[a1j,iP h,iP ha,iP ho]
theorem b3m (h:a4h nd L.length=true)(ha:L.all Sh.right=true)(ho:¬ nd.op=1):a1j nd L=if (a0r nd (L.map zeros)).1=0 then(0,(a0r nd (L.map zeros)).2.1) else((a0r nd (L.map zeros)).1,[]):=by
 rw[a1j,iP h,iP ha,iN ho]
theorem c8s (h:∀(i:Nat) (s:List Int),L[i]?=some s→i<L.length→Sh.right s=true):L.all Sh.right=true:=by
 rw[List.all_eq_true];intro s hs;obtain⟨i,hi,e⟩:=List.getElem_of_mem hs;exact h i s (by rw[List.getElem?_eq_getElem hi,e]) hi
theorem d1l {L:TL}(h:Sep w0 w (.row 33 2 v n us::l))(hP:Pool us L pool)(hn:L.length=n)(hn2:n≤1000)(f:Nat)(hf:∀ i,l[i+f]?=pool[i]?):
  ∃ A c,v=.slice A n c∧Tens w A n L:=by
 rcases Nat.eq_zero_or_pos n with e|e
 ·subst e;have hr:w.ownsRow w0.heap.size 33 2 v 0 us:=h.at_ 0 rfl;have hT:∀ A,Tens w A 0 L:=fun A=>⟨hn,by omega,fun j t ht=>by rw[List.eq_nil_of_length_eq_zero hn] at ht;simp at ht⟩
  rcases hr.2 with ⟨hv,_⟩|⟨g,cap,cur,hv,_⟩
  ·exact⟨none,0,hv,hT _⟩
  ·exact⟨_,cap,hv,hT _⟩
 ·obtain⟨g,c,rfl,_⟩:=h.rowForm 0 rfl e;exact⟨_,c,rfl,d5c h hP hn hn2 f hf⟩
theorem a6k {Al:Option Addr}{nl cl:Nat}(h:a4a w v nd)(hLi:Lils w Al nl L):
  Calls prog 23 #[v,.slice Al nl cl] w fun e w'=>(∃ v m,e=.returned (.tuple #[v,.int .i64 (a1j nd L).1])∧OwnS w' w.heap.size 3 v m (a1j nd L).2)∧Below w.heap.size w w':=by
 have HN:=h;obtain⟨A,na,ca,B,nb,cb,C,nc,cc,rfl,hL⟩:=h;replace HN:=Hd HN;have hll:=hLi.1;have hln:=hLi.2.1;have hBI:=hL.inB;have hib:=hL.ib;have h1:=((Sep.nil w).old hBI).allocBox w.heap.size 38 [.int .i64 nd.op,.slice A na ca,.slice B nb cb,.slice C nc cc,.int .i64 nd.n,.int .i64 nd.how,.string nd.note] rfl;have hbl:=hBI.le;have HBL:=Hd hBI.len;have HLL:=Hd hll;have HLI:=Hd hLi;clear hBI hL hLi hll
 go_enter func23,ntmps23
 go_upto_region 1 with fail
 generalize w.alloc (.cells #[.int .i64 nd.op,.slice A na ca,.slice B nb cb,.slice C nc cc,.int .i64 nd.n,.int .i64 nd.how,.string nd.note] 38)=W at *;have H:=Hd h1;clear h1;obtain⟨n0,n1,n2,n3,n4,n5,n6⟩:=H.cells7 0 rfl;have C1:=c2y (nl:Int) (HN.below H.base)
 cases hf:a4h nd nl with
 | false =>
  rw[hf] at C1;have HX:=Hd (a9y (nd:=nd) (L:=L) (by rw[HLL.out];exact hf))
  go_wp2_with fail
  refine C1.mono ?_;rintro e2 w2 ⟨rfl,hb⟩;replace H:=Hd (H.below hb);clear C1 hf hb n0 n1 n2 n3 n4 n5 n6;go_wp2;go_ret2;rw[HX.out]
  exact⟨⟨_,0,rfl,OwnS.nil_ _ _ _⟩,H.base⟩
 | true =>
  rw[hf] at C1;have HF:=Hd (show a4h nd L.length=true by rw[HLL.out];exact hf)
  go_wp2_with fail
  refine C1.mono ?_;rintro e2 w2 ⟨rfl,hb⟩;replace H:=Hd (H.below hb);clear C1 hf hb n0 n1 n2 n3 n4 n5 n6;have h2:=H.addRowNil 33 2;replace H:=Hd h2;clear h2
  go_wp2_with fail
  go_loopw [17,6] (fun iv lv wr=>∃(j:Nat) (us:List Value) (pool:List a0c) (lx:Value),lx=lv∧iv=.int .i64 j∧j≤nl∧(∀(i:Nat) (s:List Int),L[i]?=some s→i<j→Sh.right s=true)∧Pool us ((L.take j).map zeros) pool∧Sep w wr (.row 33 2 lx j us::.box w.heap.size 38 [.int .i64 nd.op,.slice A na ca,.slice B nb cb,.slice C nc cc,.int .i64 nd.n,.int .i64 nd.how,.string nd.note]::.ints B nb nd.shape::pool)) (fun iv _ _=>nl-(intOf iv).toNat)
  case atStart=>exact⟨0,[],[],_,rfl,rfl,by omega,by omega,c9d,H⟩
  case round =>
   clear H;obtain⟨j,us,pool,lx,rfl,rfl,hj,hAll,hP,hS⟩:=hrel;have H:=Hd hS;have HP:=Hd hP;have HA:=Hd hAll;clear hS hP hAll;by_cases hlt:j<nl
   ·obtain⟨s,hs⟩:∃ s,L[j]?=some s:=gE (by have:=HLL.out;omega);obtain⟨la,Bs,ms,cs,hla,hlb,hcl,hmc,hI⟩:=HLI.out.2.2 j s hs;subst hla;have hcj:=H.oC hcl (a1i hlb);have hIs:=H.oldI hI;have HI:=Hd hI;have HSJ:=Hd hs;clear hI hcl hs;have CR:=a1c (c:=cs) hIs;clear hIs
    cases hr:Sh.right s with
    | false =>
     rw[hr] at CR;have HX:=Hd (c0u HF HSJ hr)
     go_wp2_with fail
     refine CR.mono ?_;rintro e3 w3 ⟨rfl,rfl⟩;clear CR hr;go_wp2;go_ret2;rw[HX.out]
     exact⟨⟨_,0,rfl,OwnS.nil_ _ _ _⟩,H.base⟩
    | true =>
     rw[hr] at CR;have HR:=Hd hr
     go_wp2_with fail
     refine CR.mono ?_;rintro e3 w3 ⟨rfl,rfl⟩;clear CR hr;obtain⟨w9,rfl⟩:∃ w9:World,w9=wr:=⟨_,rfl⟩
     go_wp2_with fail
     refine(a2d 0 (H.oldI HI) (by have:=(Sh.right_iff.1 HR).1;have:=HI.len;omega) ⟨by omega,by omega⟩).mono ?_;rintro e4 w4 ⟨⟨u,rfl,hu⟩,hb4⟩;obtain⟨S8,n8,k8,D8,m8,j8,rfl,hs1,hd1,hsc,hdc,hNle,h5⟩:=H.addTen hb4 hu;have H5:=Hd h5;clear hu hb4 h5 hs1 hd1 hcj
     go_wp2_with (at_builtin;refine a2l rfl (.tmp 26) (.tmp 32) 28 rfl underlying28 H5.out 2 rfl rfl _ rfl ?c1 ?_)
     case c1=>omega
     intro v9 w9 h9;have h10:=Sep.perm h9 (l':=[.row 33 2 v9 (j+1) (us++[.slice S8 n8 k8,.slice D8 m8 j8]),.box w.heap.size 38 [.int .i64 nd.op,.slice A na ca,.slice B nb cb,.slice C nc cc,.int .i64 nd.n,.int .i64 nd.how,.string nd.note],.ints B nb nd.shape]++([a0c.own 3 (.slice S8 n8 k8) n8 s,a0c.own 2 (.slice D8 m8 j8) m8 (List.replicate (Sh.size s).toNat 0)]++pool)) (by rw[←List.append_assoc];exact(List.perm_append_comm (l₁:=[a0c.own 3 (.slice S8 n8 k8) n8 s,a0c.own 2 (.slice D8 m8 j8) m8 (List.replicate (Sh.size s).toNat 0)]) (l₂:=[_,_,_])).append_right pool);have H10:=Hd h10;clear h9 h10 H5;go_wp2;go_roundw
     case rel=>exact⟨j+1,us++[Value.slice S8 n8 k8,Value.slice D8 m8 j8],a0c.own 3 (.slice S8 n8 k8) n8 s::a0c.own 2 (.slice D8 m8 j8) m8 (List.replicate (Sh.size s).toNat 0)::pool,_,rfl,by go_num,by omega,(fun i s2 hi hi2=>by
      rcases Nat.lt_or_ge i j with hij|hij
      ·exact HA i s2 hi hij
      ·obtain rfl:i=j:=by omega
       obtain rfl:s2=s:=by have:=HSJ.out;rw[hi] at this;injection this
       exact HR),by rw[List.take_add_one,HSJ.out,List.map_append];exact HP.more (t:=zeros s),H10⟩
     case measure=>simp[intOf];omega
   ·obtain rfl:j=nl:=by omega
    have HALL:=Hd (show L.all Sh.right=true from c8s fun i s hi hi2=>HA.out i s hi (by have:=HLL.out;omega));have HPF:=Hd (show Pool us (L.map zeros) pool by have h7:=HP.out;rwa [List.take_of_length_le (by have:=HLL.out;omega)] at h7);obtain⟨n0,n1,n2,n3,n4,n5,n6⟩:=H.cells7 1 rfl;by_cases ho:nd.op=1
    ·have HX:=Hd (b1c HF HALL ho);have dop:(nd.op==1)=true:=by simpa using ho
     have CR:=a1c (c:=cb) (H.oldInts 2 rfl)
     cases hr:Sh.right nd.shape with
     | false =>
      rw[hr] at CR HX;clear ho hr
      go_wp2_with fail
      refine CR.mono ?_;rintro e3 w3 ⟨rfl,rfl⟩;clear CR n0 n1 n2 n3 n4 n5 n6;go_wp2;go_ret2;rw[HX.out]
      exact⟨⟨_,0,rfl,OwnS.nil_ _ _ _⟩,H.base⟩
     | true =>
      have hbn:nb≤17592186044000:=by have:=(Sh.right_iff.1 hr).1;have:=HBL.out;omega
      rw[hr] at CR HX;clear ho hr
      go_wp2_with fail
      refine CR.mono ?_;rintro e3 w3 ⟨rfl,rfl⟩;clear CR;have HE:=Hd (H.empty 3);have m2:=HE.c 2 2
      go_wp2_with (at_builtin;refine a0l rfl (.tmp 42) (.tmp 44) 22 3 rfl underlying22 Tryz.infoInt HE.out 0 rfl rfl B nb cb nd.shape rfl (HE.out.oldInts 3 rfl) ?c1 ?_)
      case c1=>omega
      intro v9 w9 h9;have H9:=Hd h9;clear h9 HE m2 n0 n1 n2 n3 n4 n5 n6;go_wp2;go_ret2;rw[HX.out];exact⟨⟨_,_,rfl,H9.ownS 0 rfl⟩,H9.base⟩
    ·have HX:=Hd (b3m HF HALL ho);have dop:(nd.op==1)=false:=by simpa using ho
     obtain⟨At,ct,rfl,hTens⟩:=d1l H HPF (by rw[List.length_map];exact HLL) (by omega) 2 (fun i=>rfl)
     have CW:=a9w (ct:=ct) (HN.below H.base) hTens (by rw[List.length_map];exact HF) ho (fun t ht=>by
      obtain⟨s,hs,rfl⟩:=List.mem_map.1 ht
      exact a1h (List.all_eq_true.1 HALL s hs))
     clear ho hTens;obtain⟨⟨E,S,D⟩,hR⟩:∃ r,a0r nd (L.map zeros)=r:=⟨_,rfl⟩;rw[hR] at CW HX;clear hR
     go_wp2_with fail
     refine CW.mono ?_;rintro e4 w4 ⟨⟨u,rfl,hu⟩,hb4⟩;clear CW n0 n1 n2 n3 n4 n5 n6;obtain⟨S1,ns,sc,D1,N,dc,rfl,hs1,hd1,hsc,hdc,hNle,h5⟩:=H.addTen hb4 hu;have h6:=h5.allocBox w4.heap.size 33 [.slice S1 ns sc,.slice D1 N dc] rfl;clear hu hb4 h5 hd1 hs1
     go_upto_region 16 with fail
     generalize w4.alloc (.cells #[.slice S1 ns sc,.slice D1 N dc] 33)=w5 at *;generalize w4.heap.size=gt at *;replace H:=Hd h6;clear h6;by_cases hE:E=0
     ·have dE:(E != 0)=false:=by simpa using hE
      have HX2:=Hd (HX.trans (iP hE));clear hE HX;have b0:=H.c 0 0;go_wp2;go_ret2;rw[HX2.out];exact⟨⟨_,_,rfl,H.ownS 1 rfl⟩,H.base⟩
     ·have dE:(E != 0)=true:=by simpa using hE
      have HX2:=Hd (HX.trans (iN hE));clear hE HX;go_wp2;go_ret2;rw[HX2.out];exact⟨⟨_,0,rfl,OwnS.nil_ _ _ _⟩,H.base⟩
namespace Sh
theorem sm_nil_l (ws:List Int):sm [] ws=0:=by simp[sm]
theorem c3j (ps:List Int):sm ps []=0:=by simp[sm]
theorem d0y (l:List (Int × Int)):∀ a:Int,l.foldl (fun a x=>a+x.1*x.2) a=a+l.foldl (fun a x=>a+x.1*x.2) 0:=by
 induction l with
 | nil=>intro a;simp
 | cons x l ih =>
  intro a;rw[List.foldl_cons,List.foldl_cons,ih,ih (0+x.1*x.2)];omega
theorem b3g (x y:Int)(ps ws:List Int):sm (x::ps) (y::ws)=x*y+sm ps ws:=by
 rw[sm,List.zip_cons_cons,List.foldl_cons,d0y,sm]
 show 0+x*y+_=_
 omega
theorem sm_setR:∀ {ps ws:List Int} {j:Nat} {x w:Int} (y:Int),ps[j]?=some x→ws[j]?=some w→sm ps (ws.set j y)=sm ps ws+x*(y-w)
 | [],_,_,_,_,_,h,_=>by simp at h
 | _::_,[],_,_,_,_,_,h=>by simp at h
 | a::ps,b::ws,0,x,w,y,h,g=>by
  simp at h g;subst h;subst g
  rw[List.set_cons_zero,b3g,b3g,Int.mul_sub];omega
 | a::ps,b::ws,j+1,x,w,y,h,g=>by
  rw[List.set_cons_succ,b3g,b3g,sm_setR y (by simpa using h) (by simpa using g)];omega
theorem sm_zeroR:∀(ps:List Int) (n:Nat),sm ps (List.replicate n 0)=0
 | [],n=>sm_nil_l _
 | p::ps,0=>c3j _
 | p::ps,n+1=>by rw[List.replicate_succ,b3g,sm_zeroR ps n];simp
theorem sm_zeroL:∀(n:Nat) (ws:List Int),sm (List.replicate n 0) ws=0
 | 0,ws=>sm_nil_l _
 | n+1,[]=>c3j _
 | n+1,w::ws=>by rw[List.replicate_succ,b3g,sm_zeroL n ws];simp
theorem sm_bd:∀ {ps ws:List Int},(∀ x∈ps,0≤x∧x≤64)→(∀ x∈ws,0≤x∧x≤1048576)→0≤sm ps ws∧sm ps ws≤67108864*ps.length
 | [],ws,_,_=>by rw[sm_nil_l];simp
 | _::_,[],_,_=>by rw[c3j];simp;omega
 | p::ps,w::ws,h,g=>by
  rw[b3g];have h1:=sm_bd (ps:=ps) (ws:=ws) (fun x hx=>h x (by simp[hx])) (fun x hx=>g x (by simp[hx]));have hp:=h p (by simp);have hw:=g w (by simp);have h2:0≤p*w:=Int.mul_nonneg hp.1 hw.1;have h3:p*w≤64*w:=Int.mul_le_mul_of_nonneg_right hp.2 hw.1;rw[List.length_cons];omega
theorem strides_bd (hr:right s=true):∀ x∈strides s,0≤x∧x≤1048576:=by
 intro x hx;obtain⟨k,hk⟩:=List.getElem?_of_mem hx;have hl:k<s.length:=by have:=(lL hk);rwa [strides_length] at this
 rw[strides_at (List.getElem?_eq_getElem hl)] at hk;injection hk with hk;subst hk
 have h:=right_iff.1 hr;exact pd_small h.2.1 h.1 _
end Sh
theorem d8f {p:List Int}(hr:Sh.right s=true)(hl:p.length=s.length)(hw:Sh.within s p=true):Sh.index s p=Sh.sm p (Sh.strides s):=by
 rw[Sh.index_of hr hl hw,Sh.hor_lin hl,Sh.sm_lin hl]
theorem b7x {f g:Nat→Int}(h:∀ i,i<n→f i=g i):gen n f=gen n g:=by
 unfold gen;exact List.map_congr_left fun i hi=>h i (List.mem_range.1 hi)
theorem b5u {o d:List Int}{ix iy:Nat→Nat}:∀ {n:Nat},(∀ i,i<n→ix i=iy i)→scat o d ix n=scat o d iy n
 | 0,_=>rfl
 | n+1,h=>by
  have h1:=b5u (o:=o) (d:=d) (n:=n) fun i hi=>h i (by omega)
  unfold scat at h1 ⊢;rw[List.range_succ,List.foldl_append,List.foldl_append,h1];simp[h n (by omega)]
def b0r (s f st:List Int) (i:Nat):Int:=Sh.sm (addP (Sh.placeOf s i) f) st
def b8v (s f st:List Int):List Int:=gen (Sh.size s).toNat (b0r s f st)
def c0j (d z f st:List Int):List Int:=gen (Sh.size z).toNat fun i=>d.getD (b0r z f st i).toNat 0
def c7n (z f st:List Int) (n:Nat):Prop:=∀ i:Nat,(i:Int)<Sh.size z→0≤b0r z f st i∧b0r z f st i<n
def Near (f:List Int):Prop:=∀ x∈f,0≤x∧x≤32
def d2w (st:List Int):Prop:=∀ x∈st,0≤x∧x≤1048576
theorem b8e:∀ {s f z:List Int},a3w s f z=true→(∀ x∈s,0≤x∧x≤32)→0≤Sh.pd z∧Sh.pd z≤Sh.pd s∧(∀ x∈z,0≤x∧x≤32)∧(∀ x∈f,0≤x∧x≤32)
 | [],[],[],_,_=>by simp[Sh.pd]
 | n::s,x::f,y::z,h,hd=>by
  simp only[a3w,Bool.and_eq_true,decide_eq_true_eq] at h;obtain⟨h1,h2,h3,h4⟩:=b8e h.2 fun x hx=>hd x (by simp[hx])
  have hn:=hd n (by simp);refine⟨?_,?_,?_,?_⟩
  ·rw[Sh.pd];exact Int.mul_nonneg (by omega) h1
  ·rw[Sh.pd,Sh.pd];exact Int.mul_le_mul (by omega) h2 h1 (by omega)
  ·intro u hu;rcases List.mem_cons.1 hu with rfl|hu
   ·omega
   ·exact h3 u hu
  ·intro u hu;rcases List.mem_cons.1 hu with rfl|hu
   ·omega
   ·exact h4 u hu
 | [],_::_,_,h,_=>by simp[a3w] at h
 | [],[],_::_,h,_=>by simp[a3w] at h
 | _::_,[],_,h,_=>by simp[a3w] at h
 | _::_,_::_,[],h,_=>by simp[a3w] at h
theorem c2r (hr:Sh.right s=true)(h:a3w s f z=true):Sh.right z=true∧Near f:=by
 have hs:=Sh.right_iff.1 hr;obtain⟨h1,h2,h3,h4⟩:=b8e h hs.2.1;refine⟨Sh.right_iff.2 ⟨by rw[(a8o h).2];exact hs.1,h3,?_⟩,h4⟩;have:=hs.2.2;rw[Sh.pr_pd] at this ⊢;omega
theorem d7x (h:a0a s d=true)(g:a3w s f z=true):c7n z f (Sh.strides s) d.length∧cutD s d f z=c0j d z f (Sh.strides s):=by
 have hr:=a1p h
 have key:∀ i:Nat,(i:Int)<Sh.size z→Sh.index s (addP (Sh.placeOf z i) f)=b0r z f (Sh.strides s) i:=fun i hi=>by
  obtain⟨hl,hw⟩:=b5w g hi;exact d8f hr hl hw
 refine⟨fun i hi=>?_,b7x fun i hi=>?_⟩
 ·obtain⟨hl,hw⟩:=b5w g hi;have:=a7c hr hl hw;rw[key i hi] at this;have:=a0z h;omega
 ·rw[num,key i (by omega)]
theorem b2x {f a p:List Int}{m:Nat}:∀ {k:Nat},k≤a.length→k≤p.length→(∀ j x,j<k→a[j]?=some x→x.toNat≠m)→(a4r f a p k)[m]?=f[m]?
 | 0,_,_,_=>rfl
 | k+1,h1,h2,h=>by
  obtain⟨x,hx⟩:=a0f (l:=a) (k:=k) (by omega);obtain⟨y,hy⟩:=a0f (l:=p) (k:=k) (by omega);rw[←a4y hx hy,List.getElem?_set,iN (h k x (by omega) hx)];exact b2x (by omega) (by omega) fun j x hj=>h j x (by omega)
theorem d6a {s a p:List Int}(h:TuOk s a)(hp:p.length=a.length):∀ {k:Nat},k≤a.length→Sh.lin s (a4r (List.replicate s.length 0) a p k)=Sh.sm (p.take k) ((a2s (Sh.strides s) a).take k)
 | 0,_=>by
  rw[b8f,List.take_zero,Sh.sm_nil_l,←Sh.sm_lin (by simp),Sh.sm_zeroL]
 | k+1,hk=>by
  obtain⟨x,hx⟩:=a0f (l:=a) (k:=k) (by omega);obtain⟨y,hy⟩:=a0f (l:=p) (k:=k) (by omega);have hxi:=b4r h hx;obtain⟨w,hw⟩:=a0f (l:=Sh.strides s) (k:=x.toNat) (by rw[Sh.strides_length];exact hxi.2)
  have h0:(a4r (List.replicate s.length 0) a p k)[x.toNat]?=some 0:=by
   rw[b2x (by omega) (by omega),List.getElem?_replicate,iP hxi.2];intro j z hj hz e;have:=b4r h hz;obtain rfl:z=x:=by omega
   have:=c9q h hz hx;omega
  rw[←a4y hx hy,Sh.lin_set h0 hw (by rw[a5q,List.length_replicate]),d6a h hp (by omega),Sh.sm_take hy (b1z hx hw)];simp
theorem d3a (h:a0a s d=true)(g:TuOk s a):c7n (a2s s a) (List.replicate a.length 0) (a2s (Sh.strides s) a) d.length∧c7d s d a=c0j d (a2s s a) (List.replicate a.length 0) (a2s (Sh.strides s) a):=by
 have hr:=a1p h
 have key:∀ i:Nat,(i:Int)<Sh.size (a2s s a)→Sh.index s (b6p s.length a (Sh.placeOf (a2s s a) i))=b0r (a2s s a) (List.replicate a.length 0) (a2s (Sh.strides s) a) i:=fun i hi=>by
  obtain⟨hl,hw⟩:=b2z g hi;obtain⟨_,hpl,_,_⟩:=a1o hi;rw[a2x] at hpl;rw[Sh.index_of hr hl hw,Sh.hor_lin hl,b6p,d6a g hpl (Nat.le_refl _),b0r,c4q hpl,←hpl,List.take_of_length_le (Nat.le_refl _),List.take_of_length_le (by rw[a2x];omega)]
 refine⟨fun i hi=>?_,b7x fun i hi=>?_⟩
 ·obtain⟨hl,hw⟩:=b2z g hi;have:=a7c hr hl hw;rw[key i hi] at this;have:=a0z h;omega
 ·rw[num,key i (by omega)]
theorem d0k (hr:Sh.right s=true):d2w (a2s (Sh.strides s) a):=by
 intro x hx;obtain⟨k,hk⟩:=List.getElem?_of_mem hx;simp only[a2s,List.getElem?_map,Option.map_eq_some_iff] at hk;obtain⟨y,_,rfl⟩:=hk;rw[gD]
 cases e:(Sh.strides s)[y.toNat]? with
 | none=>simp
 | some z=>exact Sh.strides_bd hr z (mG e)
theorem c6g (n:Nat):Near (List.replicate n 0):=by
 intro x hx;have:=List.eq_of_mem_replicate hx;omega
theorem e1q {s o a:List Int}(h:SpOk s o a):∀ {k j:Nat} {x y:Int},j<k→a[j]?=some x→a[k]?=some y→x<y
 | 0,_,_,_,hj,_,_=>absurd hj (by omega)
 | k+1,j,x,y,hj,hx,hy=>by
  have hk:k+1<a.length:=(lL hy);obtain⟨z,hz⟩:=a0f (l:=a) (k:=k) (by omega);obtain⟨u,hu⟩:=a0f (l:=s) (k:=k+1) (by rw[←h.1];exact hk);have h1:=(h.2 (k+1) y u hy hu).2.2.1 z (by omega) hz;rcases Nat.lt_or_ge j k with h' | h'
  ·have:=e1q h h' hx hz;omega
  ·obtain rfl:j=k:=by omega
   rw[hx] at hz;injection hz with hz;omega
theorem e1r {s o a p w:List Int}(h:SpOk s o a)(hp:p.length=o.length)(hw:w.length=a.length):∀ {k:Nat},k≤a.length→Sh.sm p (a4r (List.replicate o.length 0) a w k)=Sh.sm ((spP p a).take k) (w.take k)
 | 0,_=>by rw[b8f,Sh.sm_zeroR,List.take_zero,Sh.sm_nil_l]
 | k+1,hk=>by
  obtain⟨x,hx⟩:=a0f (l:=a) (k:=k) (by omega);obtain⟨y,hy⟩:=a0f (l:=w) (k:=k) (by omega);have hxi:=d2s h hx;obtain⟨u,hu⟩:=a0f (l:=p) (k:=x.toNat) (by omega)
  have h0:(a4r (List.replicate o.length 0) a w k)[x.toNat]?=some 0:=by
   rw[b2x (by omega) (by omega),List.getElem?_replicate,iP hxi.2];intro j z hj hz e;have:=d2s h hz;have:=e1q h hj hz hx;omega
  rw[←a4y hx hy,Sh.sm_setR y hu h0,e1r h hp hw (by omega),Sh.sm_take (d5b hx hu) hy];simp
def spSt (s o a:List Int):List Int:=a4r (List.replicate o.length 0) a (Sh.strides s) a.length
theorem e1j (h:a0a s d=true)(g:SpOk s o a):c7n o (List.replicate o.length 0) (spSt s o a) d.length∧spD s d o a=c0j d o (List.replicate o.length 0) (spSt s o a):=by
 have hr:=a1p h
 have key:∀ i:Nat,(i:Int)<Sh.size o→Sh.index s (spP (Sh.placeOf o i) a)=b0r o (List.replicate o.length 0) (spSt s o a) i:=fun i hi=>by
  obtain⟨hl,hw⟩:=b8d g hi;obtain⟨_,hpl,_,_⟩:=a1o hi;rw[d8f hr hl hw,b0r,c4q hpl,spSt,e1r g hpl (by rw[Sh.strides_length,g.1]) (Nat.le_refl _),List.take_of_length_le (by rw[b5j];exact Nat.le_refl _),List.take_of_length_le (by rw[Sh.strides_length,g.1];exact Nat.le_refl _)]
 refine⟨fun i hi=>?_,b7x fun i hi=>?_⟩
 ·obtain⟨hl,hw⟩:=b8d g hi;have:=a7c hr hl hw;rw[key i hi] at this;have:=a0z h;omega
 ·rw[num,key i (by omega)]
theorem c1w {f a p:List Int}{P:Int→Prop}(h0:∀ x∈f,P x)(hp:∀ x∈p,P x):∀ {k:Nat},k≤a.length→k≤p.length→∀ x∈a4r f a p k,P x
 | 0,_,_=>h0
 | k+1,h1,h2=>by
  obtain⟨x,hx⟩:=a0f (l:=a) (k:=k) (by omega);obtain⟨y,hy⟩:=a0f (l:=p) (k:=k) (by omega);rw[←a4y hx hy];intro z hz;rcases List.mem_or_eq_of_mem_set hz with hz|rfl
  ·exact c1w h0 hp (by omega) (by omega) z hz
  ·exact hp z (mG hy)
theorem d6h (hr:Sh.right s=true)(g:SpOk s o a):d2w (spSt s o a):=by
 refine c1w (fun x hx=>?_) (Sh.strides_bd hr) (Nat.le_refl _) (by rw[Sh.strides_length,g.1];exact Nat.le_refl _);have:=List.eq_of_mem_replicate hx;omega
def layD (o d s f z:List Int) (k:Nat):List Int:=scat o d (fun i=>(b0r s f (Sh.strides z) i).toNat) k
theorem d4k {k:Nat}{x:Int}(h:d[k]?=some x):(layD o d s f z k).set (b0r s f (Sh.strides z) k).toNat x=layD o d s f z (k+1):=b9g h
theorem c7w (o d s f z:List Int)(k:Nat):(layD o d s f z k).length=o.length:=a7w ..
theorem d9l {lo hi:List Int}(h:a0a s d=true)(g:b3c s lo hi)(k:Sh.right (padS s lo hi)=true)(n:Int):
  c7n s lo (Sh.strides (padS s lo hi)) (Sh.size (padS s lo hi)).toNat∧padD s d lo hi n=layD (List.replicate (Sh.size (padS s lo hi)).toNat n) d s lo (padS s lo hi) d.length∧Near lo:=by
 have key:∀ i:Nat,(i:Int)<Sh.size s→Sh.index (padS s lo hi) (addP (Sh.placeOf s i) lo)=b0r s lo (Sh.strides (padS s lo hi)) i:=fun i hi=>by
  obtain⟨hl,hw⟩:=b5k g hi;exact d8f k hl hw
 refine⟨fun i hi=>?_,b5u fun i hi=>?_,fun x hx=>?_⟩
 ·obtain⟨hl,hw⟩:=b5k g hi;have:=a7c k hl hw;rw[key i hi] at this;omega
 ·show(Sh.index _ _).toNat=_
  rw[key i (by have:=a0z h;omega)]
 ·obtain⟨i,hi'⟩:=List.getElem?_of_mem hx;obtain⟨y,hy⟩:=a0f (l:=hi) (k:=i) (by have:=(lL hi');have:=g.1;have:=g.2.1;omega);have:=g.2.2 i x y hi' hy;omega
def atAx (n ax:Nat) (h:Int):List Int:=(List.replicate n 0).set ax h
theorem d3e {ax:Nat}{l:TL}(h:a1k l)(hk:b0u ax l)(hx:ax<(a5d l).length){i:Nat}(ht:l[i]?=some t):
  c7n t.1 (atAx (a2o ax l).length ax (tot ax (l.take i))) (Sh.strides (a2o ax l)) (Sh.size (a2o ax l)).toNat∧a5u ax l (i+1)=layD (a5u ax l i) t.2 t.1 (atAx (a2o ax l).length ax (tot ax (l.take i))) (a2o ax l) t.2.length∧Near (atAx (a2o ax l).length ax (tot ax (l.take i)))∧(a2o ax l).length=t.1.length:=by
 have hfl:=(hk.1 t (mG ht)).1;have hlen:(a2o ax l).length=t.1.length:=by rw[a8a,hfl]
 have key:∀ k:Nat,(k:Int)<Sh.size t.1→Sh.index (a2o ax l) (b2e (Sh.placeOf t.1 k) ax (tot ax (l.take i)))=b0r t.1 (atAx (a2o ax l).length ax (tot ax (l.take i))) (Sh.strides (a2o ax l)) k:=fun k hkz=>by
  obtain⟨hl,hw⟩:=b3b h hk hx ht hkz;obtain⟨_,hpl,_,_⟩:=a1o hkz;rw[d8f hk.2 hl hw,b0r,atAx,d5y (by omega)]
 have hb:=b2v h ax i;have hb2:tot ax l≤32:=(Sh.right_iff.1 hk.2).2.1 _ (by rw[a2o];exact List.mem_set hx _) |>.2;refine⟨fun k hkz=>?_,?_,fun x hx'=>?_,hlen⟩
 ·obtain⟨hl,hw⟩:=b3b h hk hx ht hkz;have:=a7c hk.2 hl hw;rw[key k hkz] at this;omega
 ·rw[b8z ht];refine b5u fun k hkl=>?_
  show(Sh.index _ _).toNat=_
  rw[key k (by have:=a0z (h t (mG ht));omega)]
 ·rcases List.mem_or_eq_of_mem_set hx' with hz|rfl
  ·have:=List.eq_of_mem_replicate hz;omega
  ·omega
end Go.Proofs.YtjblengklgkgfaaGreat
namespace Go.Proofs.YtjblengklgkgfaaGreat
open Go.RowKit Go.Proofs.Tryz
def Fine (r:Int × List Int × List Int):Prop:=r.1=0→Sh.right r.2.1=true
theorem a1y {e:Int} (h:e≠0):Fine (refused e):=fun h'=>absurd h' h
theorem d9n (op:Int) (s d:List Int):Fine (oneR op s d):=by
 rw[oneR];split
 ·exact a1y (by decide)
 ·split
  ·rename_i h;exact fun _=>a1p h
  ·exact a1y (by decide)
theorem d6f (op:Int) (s d t k:List Int):Fine (twoR op s d t k):=by
 rw[twoR];split
 ·exact a1y (by decide)
 ·split
  ·rename_i h;rw[Bool.and_eq_true] at h;exact fun _=>a1p h.1
  ·exact a1y (by decide)
theorem d3v (cs cd s d t k:List Int):Fine (a7j cs cd s d t k):=by
 rw[a7j];split
 ·rename_i h;simp only[Bool.and_eq_true] at h;exact fun _=>a1p h.2.1.1
 ·exact a1y (by decide)
theorem d5s (s d a:List Int):Fine (a6y s d a):=by
 rw[a6y];split
 ·rename_i h;split
  ·rename_i g;exact fun _=>(b5h g (a1p h)).1
  ·exact a1y (by decide)
 ·exact a1y (by decide)
theorem e0i (s d o a:List Int):Fine (spR s d o a):=by
 rw[spR];split
 ·rename_i h;rw[Bool.and_eq_true] at h;split
  ·exact fun _=>h.2
  ·exact a1y (by decide)
 ·exact a1y (by decide)
theorem d9o (s d f z:List Int):Fine (cutR s d f z):=by
 rw[cutR];split
 ·rename_i h;split
  ·rename_i g;exact fun _=>(c2r (a1p h) g).1
  ·exact a1y (by decide)
 ·exact a1y (by decide)
theorem d8g (s d f z:List Int) (n:Int):Fine (padR s d f z n):=by
 rw[padR];split
 ·split
  ·split
   ·rename_i h;exact fun _=>h
   ·exact a1y (by decide)
  ·exact a1y (by decide)
 ·exact a1y (by decide)
theorem d2p (ax:Int) (l:TL):Fine (a6r ax l):=by
 rw[a6r];split
 ·split
  ·split
   ·rename_i h;exact fun _=>h.2
   ·exact a1y (by decide)
  ·exact a1y (by decide)
 ·exact a1y (by decide)
theorem d3j (how:Int) (s d a:List Int):Fine (a5m how s d a):=by
 rw[a5m];split
 ·split
  ·split
   ·split
    ·rename_i h;exact fun _=>h
    ·exact a1y (by decide)
   ·exact a1y (by decide)
  ·exact a1y (by decide)
 ·exact a1y (by decide)
theorem d7f (s d t k:List Int) (n:Int):Fine (dotR s d t k n):=by
 rw[dotR];split
 ·split
  ·rename_i h;obtain⟨m,rfl,hok,hds⟩:=b4v h;intro _
   show Sh.right (dsR s t m).2=true
   rw[hds];exact hok.rs
  ·rename_i h;exact a1y h
 ·exact a1y (by decide)
theorem d8s (how:Int) (s d:List Int) (ax wide apart:Int):Fine (winR how s d ax wide apart):=by
 rw[winR];split
 ·split
  ·rename_i h;split
   ·rename_i g;rw[a6s] at g;exact fun _=>b1o (a1p h) (by omega)
   ·exact a1y (by decide)
  ·exact a1y (by decide)
 ·exact a1y (by decide)
theorem d4c (nd:a0s) (L:TL):Fine (a0r nd L):=by
 unfold a0r;by_cases h:nd.op=2
 ·rw[iP h];by_cases g:Sh.right nd.shape=true
  ·rw[iP g];exact fun _=>g
  ·rw[iN g];exact a1y (by decide)
 rw[iN h];clear h;by_cases h:nd.op=3
 ·rw[iP h];by_cases g:Sh.right nd.shape=true
  ·rw[iP g];by_cases k:nd.a.length=1∧0≤nd.a.getD 0 0∧nd.a.getD 0 0<nd.shape.length
   ·rw[iP k];exact fun _=>g
   ·rw[iN k];exact a1y (by decide)
  ·rw[iN g];exact a1y (by decide)
 rw[iN h];clear h;by_cases h:nd.op=4∨nd.op=5
 ·rw[iP h];exact d9n _ _ _
 rw[iN h];clear h;by_cases h:nd.op=12
 ·rw[iP h];exact d3v _ _ _ _ _ _
 rw[iN h];clear h;by_cases h:nd.op=13
 ·rw[iP h];exact d5s _ _ _
 rw[iN h];clear h;by_cases h:nd.op=14
 ·rw[iP h];exact e0i _ _ _ _
 rw[iN h];clear h;by_cases h:nd.op=15
 ·rw[iP h];by_cases g:nd.a.length=2*(L.getD 0 ([],[])).1.length
  ·rw[iP g];exact d9o _ _ _ _
  ·rw[iN g];exact a1y (by decide)
 rw[iN h];clear h;by_cases h:nd.op=16
 ·rw[iP h];by_cases g:nd.a.length=2*(L.getD 0 ([],[])).1.length
  ·rw[iP g];exact d8g _ _ _ _ _
  ·rw[iN g];exact a1y (by decide)
 rw[iN h];clear h;by_cases h:nd.op=17
 ·rw[iP h];by_cases g:nd.a.length=1
  ·rw[iP g];exact d2p _ _
  ·rw[iN g];exact a1y (by decide)
 rw[iN h];clear h;by_cases h:nd.op=18
 ·rw[iP h];exact d3j _ _ _ _
 rw[iN h];clear h;by_cases h:nd.op=19
 ·rw[iP h];by_cases g:nd.a.length=1
  ·rw[iP g];exact d7f _ _ _ _ _
  ·rw[iN g];exact a1y (by decide)
 rw[iN h];clear h;by_cases h:nd.op=20
 ·rw[iP h];by_cases g:nd.a.length=3
  ·rw[iP g];exact d8s _ _ _ _ _ _
  ·rw[iN g];exact a1y (by decide)
 rw[iN h];clear h;exact d6f _ _ _ _ _
theorem a9n {nd:a0s} {L:List (List Int)} (h:(a1j nd L).1=0):Sh.right (a1j nd L).2=true:=by
 unfold a1j at h ⊢
 split
 ·rename_i h1;rw[iP h1] at h
  split
  ·rename_i h2;rw[iP h2] at h
   split
   ·rename_i h3;rw[iP h3] at h
    split
    ·rename_i h4;exact h4
    ·rename_i h4;rw[iN h4] at h;cases h
   ·rename_i h3;rw[iN h3] at h
    split
    ·rename_i h4;exact d4c _ _ h4
    ·rename_i h4;rw[iN h4] at h;exact absurd h h4
  ·rename_i h2;rw[iN h2] at h;cases h
 ·rename_i h1;rw[iN h1] at h;cases h
end Go.Proofs.YtjblengklgkgfaaGreat
