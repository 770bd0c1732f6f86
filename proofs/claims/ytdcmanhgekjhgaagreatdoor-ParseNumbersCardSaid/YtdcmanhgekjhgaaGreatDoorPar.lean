import Derived.Test.YtdcmanhgekjhgaaGreatDoorPaq
set_option maxRecDepth 100000
set_option maxHeartbeats 12800000
namespace Go.Proofs.YtdcmanhgekjhgaaGreatDoor
open Go.RowKit Go.Proofs.Tryz
variable {D S:Option Addr} {G:a1d} {L acc:List (List Int)} {dc dn j n sc sn:Nat} {l s:List Int} {nd:a0l} {pool:List a0e} {us:List Value} {v:Value} {w w0:World} {x:Int}
theorem e4z:(prog.info? 89).map (fun i=>(i.zero,i.size,i.bytes))=some (some (.agg #[.slice none 0 0,.slice none 0 0]),2,48):=by kernel_rfl
theorem c2z:∃ i,prog.info? 89=some i∧i.zero=some (.agg #[.slice none 0 0,.slice none 0 0])∧i.size=2∧i.bytes=48:=by
 have h:=e4z
 cases e:prog.info? 89 with
 | none=>rw[e] at h;cases h
 | some i =>
  rw[e] at h;simp only[Option.map_some,Option.some.injEq,Prod.mk.injEq] at h;exact⟨i,rfl,h.1,h.2.1,h.2.2⟩
theorem b5f {ops:Array Oper}{rest:List Oper}{o:Oper}{a:Act}{Q:Exit→Act→World→Prop}(hgd:o.guard=none)(s y:Operand)(t:TypeId)
  (ho:o.op=.call { callee:=.builtin .append,args:=#[s,y],argTypes:=#[t,t] })(ht:prog.underlying t=some (.slice 89))
  {l:List a0e}(H:Sep w0 w l)(i:Nat)(hi:l[i]?=some (.row 89 2 v n us))(hs:a.eval s=v)(c:Nat)(hy:a.eval y=.slice (some ⟨w.heap.size,0,none⟩) 1 c)
  (hn:n≤100000)
  (h:∀ v' w', Sep w0 w' (l.set i (.row 89 2 v' (n+1) (us++[.slice S sn sc,.slice D dn dc])))→wpList prog ops Q rest (a.put o.dst v') w'):
  wpList prog ops Q (o::rest) a (w.alloc (.cells #[.slice S sn sc,.slice D dn dc] 89)):=by
 obtain⟨ti,h1,h2,h3,h4⟩:=c2z;have H':=H.below ((Below.refl w.heap.size w).alloc (Nat.le_refl _) (.cells #[.slice S sn sc,.slice D dn dc] 89));have hsz:=H'.size;refine wpList_append_own_at _ hgd s y t ho w0.heap.size 89 ti _ 2 48 ht h1 h2 h3 h4 (by rfl) (by omega) v n us hs (H'.at_ i hi) ⟨w.heap.size,0,none⟩ 1 c [.slice S sn sc,.slice D dn dc] hy rfl ?_ (by simp[Value.oneCell']) (by unfold maxLen;omega) (by omega) hsz ?_
 ·intro j u hj;have hb:=heap_alloc_new w (.cells #[.slice S sn sc,.slice D dn dc] 89)
  match j,hj with
  | 0,hj=>simp at hj;subst hj;exact cell_of_row _ _ 0 _ _ _ hb
  | 1,hj=>simp at hj;subst hj;exact cell_of_row _ _ 1 _ _ _ hb
  | j+2,hj=>simp at hj
 ·intro v' w' h5 h6 _ h8
  exact h v' w' (H'.change i hi h6 h5 fun b hb=>by
   have hb:v'.ownBlock=some b:=hb;rcases h8 with e|e
   ·exact .inl (e.symm.trans hb)
   ·rw[e] at hb;injection hb with hb;subst hb;exact .inr (Nat.le_refl _))
def Pool (us:List Value) (L:TL) (pool:List a0e):Prop:=us.length=L.length*2∧∀(j:Nat) (t:List Int × List Int),L[j]?=some t→∃(S:Option Addr) (sn sc:Nat) (D:Option Addr) (dn dc p q:Nat),us[j*2]?=some (.slice S sn sc)∧us[j*2+1]?=some (.slice D dn dc)∧pool[p]?=some (a0e.own 3 (.slice S sn sc) sn t.1)∧pool[q]?=some (a0e.own 2 (.slice D dn dc) dn t.2)
theorem e6e (g j:Nat):(⟨g,0,none⟩:Addr).add j=⟨g,j,none⟩:=by
 by_cases h:j=0
 ·subst h;rfl
 ·simp[Addr.add,h]
theorem e2t:Pool [] [] []:=⟨rfl,fun j t h=>by simp at h⟩
theorem Pool.more {L:TL}{t:List Int × List Int}(h:Pool us L pool):
  Pool (us++[.slice S sn sc,.slice D dn dc]) (L++[t]) (a0e.own 3 (.slice S sn sc) sn t.1::a0e.own 2 (.slice D dn dc) dn t.2::pool):=by
 obtain⟨hl,h⟩:=h;refine⟨by simp[hl];omega,fun j u hu=>?_⟩;rcases Nat.lt_or_ge j L.length with hj|hj
 ·rw[List.getElem?_append_left hj] at hu;obtain⟨S', sn', sc', D', dn', dc', p,q,h1,h2,h3,h4⟩:=h j u hu;exact⟨S', sn', sc', D', dn', dc', p+2,q+2,by rw[List.getElem?_append_left (by omega)];exact h1,by rw[List.getElem?_append_left (by omega)];exact h2,h3,h4⟩
 ·rw[List.getElem?_append_right hj] at hu
  have hj' : j=L.length:=by
   rcases Nat.eq_or_lt_of_le hj with e|e
   ·exact e.symm
   ·obtain⟨m,hm⟩:∃ m,j-L.length=m+1:=⟨j-L.length-1,by omega⟩;rw[hm] at hu;simp at hu
  subst hj';simp at hu;subst hu;exact⟨S,sn,sc,D,dn,dc,0,1,by rw[List.getElem?_append_right (by omega),hl];simp,by rw[List.getElem?_append_right (by omega),hl];simp,rfl,rfl⟩
theorem d7z {l:List a0e}{g c:Nat}{L:TL}(h:Sep w0 w (.row 89 2 (.slice (some ⟨g,0,none⟩) n c) n us::l))(hP:Pool us L pool)(hn:L.length=n)(hn2:n≤100000)(f:Nat)(hf:∀ i,l[i+f]?=pool[i]?):
  Tens w (some ⟨g,0,none⟩) n L:=by
 have hrow:w.ownsRow w0.heap.size 89 2 (.slice (some ⟨g,0,none⟩) n c) n us:=h.at_ 0 rfl;obtain⟨hl,hP⟩:=hP;refine⟨hn,by omega,fun j t ht=>?_⟩;have hj:j<L.length:=(lL ht);obtain⟨S,sn,sc,D,dn,dc,p,q,h1,h2,h3,h4⟩:=hP j t ht;have hlt:=(World.ownsRow.lt hrow g rfl).2;have hp:=h.ownInts (p+f+1) ((hf p).trans h3);have hq:=h.ownInts (q+f+1) ((hf q).trans h4);refine⟨⟨g,0,none⟩,S,sn,sc,D,dn,dc,rfl,hlt,?_,?_,a3z hp.2.2 hp.2.1 hq.2.2 hq.2.1⟩
 ·rw[e6e];rw[hrow.cellAt (j*2) (by omega),h1]
 ·rw[e6e];rw[hrow.cellAt (j*2+1) (by omega),h2]
def zeros (s:List Int):List Int × List Int:=(s,List.replicate (Sh.size s).toNat 0)
theorem a0v (h:Sh.right s=true):a0b (zeros s).1 (zeros s).2=true:=by
 have:=Sh.size_bd s;simp only[zeros,a0b,h,Bool.true_and,List.length_replicate,decide_eq_true_eq];omega
noncomputable def a1i (nd:a0l) (L:List (List Int)):Int × List Int :=
 if a5l nd L.length=true then
  (if L.all Sh.right=true then
   (if nd.op=1 then(if Sh.right nd.shape=true then(0,nd.shape) else(13,[]))
   else if (a0w nd (L.map zeros)).1=0 then(0,(a0w nd (L.map zeros)).2.1) else((a0w nd (L.map zeros)).1,[]))
  else(13,[]))
 else(1,[])
theorem b2r (h:a5l nd L.length=false):a1i nd L=(1,[]):=by rw[a1i,h];rfl
theorem c2d (h:a5l nd L.length=true)(hs:L[j]?=some s)(hr:Sh.right s=false):a1i nd L=(13,[]):=by
 have:L.all Sh.right=false:=by
  rw[List.all_eq_false];exact⟨s,mG hs,by rw[hr];simp⟩
 rw[a1i,iP h,this];rfl
theorem b5z (h:a5l nd L.length=true)(ha:L.all Sh.right=true)(ho:nd.op=1):a1i nd L=if Sh.right nd.shape=true then(0,nd.shape) else(13,[]):=by
 rw[a1i,iP h,iP ha,iP ho]
theorem b9p (h:a5l nd L.length=true)(ha:L.all Sh.right=true)(ho:¬ nd.op=1):a1i nd L=if (a0w nd (L.map zeros)).1=0 then(0,(a0w nd (L.map zeros)).2.1) else((a0w nd (L.map zeros)).1,[]):=by
 rw[a1i,iP h,iP ha,iN ho]
theorem d0e (h:∀(i:Nat) (s:List Int),L[i]?=some s→i<L.length→Sh.right s=true):L.all Sh.right=true:=by
 rw[List.all_eq_true];intro s hs;obtain⟨i,hi,e⟩:=List.getElem_of_mem hs;exact h i s (by rw[List.getElem?_eq_getElem hi,e]) hi
theorem d3r {l:List a0e}{L:TL}(h:Sep w0 w (.row 89 2 v n us::l))(hP:Pool us L pool)(hn:L.length=n)(hn2:n≤100000)(f:Nat)(hf:∀ i,l[i+f]?=pool[i]?):
  ∃ A c,v=.slice A n c∧Tens w A n L:=by
 rcases Nat.eq_zero_or_pos n with e|e
 ·subst e;have hr:w.ownsRow w0.heap.size 89 2 v 0 us:=h.at_ 0 rfl;have hT:∀ A,Tens w A 0 L:=fun A=>⟨hn,by omega,fun j t ht=>by rw[List.eq_nil_of_length_eq_zero hn] at ht;simp at ht⟩
  rcases hr.2 with ⟨hv,_⟩|⟨g,cap,cur,hv,_⟩
  ·exact⟨none,0,hv,hT _⟩
  ·exact⟨_,cap,hv,hT _⟩
 ·obtain⟨g,c,rfl,_⟩:=h.rowForm 0 rfl e;exact⟨_,c,rfl,d7z h hP hn hn2 f hf⟩
theorem a8g {Al:Option Addr}{nl cl:Nat}(h:a6i w v nd)(hLi:Lils w Al nl L):
  Calls prog 25 #[v,.slice Al nl cl] w fun e w'=>(∃ v m,e=.returned (.tuple #[v,.int .i64 (a1i nd L).1])∧OwnS w' w.heap.size 3 v m (a1i nd L).2)∧Below w.heap.size w w':=by
 have HN:=h;obtain⟨A,na,ca,B,nb,cb,C,nc,cc,rfl,hL⟩:=h;replace HN:=Hd HN;have hll:=hLi.1;have hln:=hLi.2.1;have hBI:=hL.inB;have hib:=hL.ib;have h1:=((Sep.nil w).old hBI).allocBox w.heap.size 49 [.int .i64 nd.op,.slice A na ca,.slice B nb cb,.slice C nc cc,.int .i64 nd.n,.int .i64 nd.how,.string nd.note] rfl;have hbl:=hBI.le;have HBL:=Hd hBI.len;have HLL:=Hd hll;have HLI:=Hd hLi;clear hBI hL hLi hll
 go_enter func25,ntmps25
 go_upto_region 1 with fail
 generalize w.alloc (.cells #[.int .i64 nd.op,.slice A na ca,.slice B nb cb,.slice C nc cc,.int .i64 nd.n,.int .i64 nd.how,.string nd.note] 49)=W at *;have H:=Hd h1;clear h1;obtain⟨n0,n1,n2,n3,n4,n5,n6⟩:=H.cells7 0 rfl;have C1:=c3m (nl:Int) (HN.below H.base)
 cases hf:a5l nd nl with
 | false =>
  rw[hf] at C1;have HX:=Hd (b2r (nd:=nd) (L:=L) (by rw[HLL.out];exact hf))
  go_wp2_with fail
  refine C1.mono ?_;rintro e2 w2 ⟨rfl,hb⟩;replace H:=Hd (H.below hb);clear C1 hf hb n0 n1 n2 n3 n4 n5 n6;go_wp2;go_ret2;rw[HX.out]
  exact⟨⟨_,0,rfl,OwnS.nil_ _ _ _⟩,H.base⟩
 | true =>
  rw[hf] at C1;have HF:=Hd (show a5l nd L.length=true by rw[HLL.out];exact hf)
  go_wp2_with fail
  refine C1.mono ?_;rintro e2 w2 ⟨rfl,hb⟩;replace H:=Hd (H.below hb);clear C1 hf hb n0 n1 n2 n3 n4 n5 n6;have h2:=H.addRowNil 89 2;replace H:=Hd h2;clear h2
  go_wp2_with fail
  go_loopw [17,6] (fun iv lv wr=>∃(j:Nat) (us:List Value) (pool:List a0e) (lx:Value),lx=lv∧iv=.int .i64 j∧j≤nl∧(∀(i:Nat) (s:List Int),L[i]?=some s→i<j→Sh.right s=true)∧Pool us ((L.take j).map zeros) pool∧Sep w wr (.row 89 2 lx j us::.box w.heap.size 49 [.int .i64 nd.op,.slice A na ca,.slice B nb cb,.slice C nc cc,.int .i64 nd.n,.int .i64 nd.how,.string nd.note]::.ints B nb nd.shape::pool)) (fun iv _ _=>nl-(intOf iv).toNat)
  case atStart=>exact⟨0,[],[],_,rfl,rfl,by omega,by omega,e2t,H⟩
  case round =>
   clear H;obtain⟨j,us,pool,lx,rfl,rfl,hj,hAll,hP,hS⟩:=hrel;have H:=Hd hS;have HP:=Hd hP;have HA:=Hd hAll;clear hS hP hAll;by_cases hlt:j<nl
   ·obtain⟨s,hs⟩:∃ s,L[j]?=some s:=gE (by have:=HLL.out;omega);obtain⟨la,Bs,ms,cs,hla,hlb,hcl,hmc,hI⟩:=HLI.out.2.2 j s hs;subst hla;have hcj:=H.oC hcl (a1y hlb);have hIs:=H.oldI hI;have HI:=Hd hI;have HSJ:=Hd hs;clear hI hcl hs;have CR:=a0r (c:=cs) hIs;clear hIs
    cases hr:Sh.right s with
    | false =>
     rw[hr] at CR;have HX:=Hd (c2d HF HSJ hr)
     go_wp2_with fail
     refine CR.mono ?_;rintro e3 w3 ⟨rfl,rfl⟩;clear CR hr;go_wp2;go_ret2;rw[HX.out]
     exact⟨⟨_,0,rfl,OwnS.nil_ _ _ _⟩,H.base⟩
    | true =>
     rw[hr] at CR;have HR:=Hd hr
     go_wp2_with fail
     refine CR.mono ?_;rintro e3 w3 ⟨rfl,rfl⟩;clear CR hr;obtain⟨w9,rfl⟩:∃ w9:World,w9=wr:=⟨_,rfl⟩
     go_wp2_with fail
     refine(a1t 0 (H.oldI HI) (by have:=(Sh.right_iff.1 HR).1;have:=HI.len;omega) ⟨by omega,by omega⟩).mono ?_;rintro e4 w4 ⟨⟨u,rfl,hu⟩,hb4⟩;obtain⟨S8,n8,k8,D8,m8,j8,rfl,hs1,hd1,hsc,hdc,hNle,h5⟩:=H.addTen hb4 hu;have H5:=Hd h5;clear hu hb4 h5 hs1 hd1 hcj
     go_wp2_with (at_builtin;refine b5f rfl (.tmp 26) (.tmp 32) 85 rfl underlying85 H5.out 2 rfl rfl _ rfl ?c1 ?_)
     case c1=>omega
     intro v9 w9 h9;have h10:=Sep.perm h9 (l':=[.row 89 2 v9 (j+1) (us++[.slice S8 n8 k8,.slice D8 m8 j8]),.box w.heap.size 49 [.int .i64 nd.op,.slice A na ca,.slice B nb cb,.slice C nc cc,.int .i64 nd.n,.int .i64 nd.how,.string nd.note],.ints B nb nd.shape]++([a0e.own 3 (.slice S8 n8 k8) n8 s,a0e.own 2 (.slice D8 m8 j8) m8 (List.replicate (Sh.size s).toNat 0)]++pool)) (by rw[←List.append_assoc];exact(List.perm_append_comm (l₁:=[a0e.own 3 (.slice S8 n8 k8) n8 s,a0e.own 2 (.slice D8 m8 j8) m8 (List.replicate (Sh.size s).toNat 0)]) (l₂:=[_,_,_])).append_right pool);have H10:=Hd h10;clear h9 h10 H5;go_wp2;go_roundw
     case rel=>exact⟨j+1,us++[Value.slice S8 n8 k8,Value.slice D8 m8 j8],a0e.own 3 (.slice S8 n8 k8) n8 s::a0e.own 2 (.slice D8 m8 j8) m8 (List.replicate (Sh.size s).toNat 0)::pool,_,rfl,by go_num,by omega,(fun i s2 hi hi2=>by
      rcases Nat.lt_or_ge i j with hij|hij
      ·exact HA i s2 hi hij
      ·obtain rfl:i=j:=by omega
       obtain rfl:s2=s:=by have:=HSJ.out;rw[hi] at this;injection this
       exact HR),by rw[List.take_add_one,HSJ.out,List.map_append];exact HP.more (t:=zeros s),H10⟩
     case measure=>simp[intOf];omega
   ·obtain rfl:j=nl:=by omega
    have HALL:=Hd (show L.all Sh.right=true from d0e fun i s hi hi2=>HA.out i s hi (by have:=HLL.out;omega));have HPF:=Hd (show Pool us (L.map zeros) pool by have h7:=HP.out;rwa [List.take_of_length_le (by have:=HLL.out;omega)] at h7);obtain⟨n0,n1,n2,n3,n4,n5,n6⟩:=H.cells7 1 rfl;by_cases ho:nd.op=1
    ·have HX:=Hd (b5z HF HALL ho);have dop:(nd.op==1)=true:=by simpa using ho
     have CR:=a0r (c:=cb) (H.oldInts 2 rfl)
     cases hr:Sh.right nd.shape with
     | false =>
      rw[hr] at CR HX;clear ho hr
      go_wp2_with fail
      refine CR.mono ?_;rintro e3 w3 ⟨rfl,rfl⟩;clear CR n0 n1 n2 n3 n4 n5 n6;go_wp2;go_ret2;rw[HX.out]
      exact⟨⟨_,0,rfl,OwnS.nil_ _ _ _⟩,H.base⟩
     | true =>
      have hbn:nb≤17592186044000:=by have:=(Sh.right_iff.1 hr).1;have:=HBL.out;omega
      rw[hr] at CR HX;clear ho hr
      go_wp2_with fail
      refine CR.mono ?_;rintro e3 w3 ⟨rfl,rfl⟩;clear CR;have HE:=Hd (H.empty 3);have m2:=HE.c 2 2
      go_wp2_with (at_builtin;refine a0g rfl (.tmp 42) (.tmp 44) 25 3 rfl underlying25 Tryz.infoInt HE.out 0 rfl rfl B nb cb nd.shape rfl (HE.out.oldInts 3 rfl) ?c1 ?_)
      case c1=>omega
      intro v9 w9 h9;have H9:=Hd h9;clear h9 HE m2 n0 n1 n2 n3 n4 n5 n6;go_wp2;go_ret2;rw[HX.out];exact⟨⟨_,_,rfl,H9.ownS 0 rfl⟩,H9.base⟩
    ·have HX:=Hd (b9p HF HALL ho);have dop:(nd.op==1)=false:=by simpa using ho
     obtain⟨At,ct,rfl,hTens⟩:=d3r H HPF (by rw[List.length_map];exact HLL) (by omega) 2 (fun i=>rfl)
     have CW:=c3p (ct:=ct) (HN.below H.base) hTens (by rw[List.length_map];exact HF) ho (fun t ht=>by
      obtain⟨s,hs,rfl⟩:=List.mem_map.1 ht
      exact a0v (List.all_eq_true.1 HALL s hs))
     clear ho hTens;obtain⟨⟨E,S,D⟩,hR⟩:∃ r,a0w nd (L.map zeros)=r:=⟨_,rfl⟩;rw[hR] at CW HX;clear hR
     go_wp2_with fail
     refine CW.mono ?_;rintro e4 w4 ⟨⟨u,rfl,hu⟩,hb4⟩;clear CW n0 n1 n2 n3 n4 n5 n6;obtain⟨S1,ns,sc,D1,N,dc,rfl,hs1,hd1,hsc,hdc,hNle,h5⟩:=H.addTen hb4 hu;have h6:=h5.allocBox w4.heap.size 89 [.slice S1 ns sc,.slice D1 N dc] rfl;clear hu hb4 h5 hd1 hs1
     go_upto_region 16 with fail
     generalize w4.alloc (.cells #[.slice S1 ns sc,.slice D1 N dc] 89)=w5 at *;generalize w4.heap.size=gt at *;replace H:=Hd h6;clear h6;by_cases hE:E=0
     ·have dE:(E != 0)=false:=by simpa using hE
      have HX2:=Hd (HX.trans (iP hE));clear hE HX;have b0:=H.c 0 0;go_wp2;go_ret2;rw[HX2.out];exact⟨⟨_,_,rfl,H.ownS 1 rfl⟩,H.base⟩
     ·have dE:(E != 0)=true:=by simpa using hE
      have HX2:=Hd (HX.trans (iN hE));clear hE HX;go_wp2;go_ret2;rw[HX2.out];exact⟨⟨_,0,rfl,OwnS.nil_ _ _ _⟩,H.base⟩
def b7q (acc:List (List Int)) (l:List Int):Bool:=l.all fun k=>decide (0≤k)&&decide (k<acc.length)
def a2k (acc:List (List Int)) (l:List Int):List (List Int):=l.map fun k=>acc.getD k.toNat []
noncomputable def b3i (nm:List Int) (nd:a0l) (r:Nat):Int:=(a4n nm (a0a nd.note) (r:Int)).2.2
noncomputable def a0m (nm:List Int) (acc:List (List Int)):List a0l→Int × List (List Int)
 | []=>(0,acc)
 | nd::l=>if b7q acc nd.ins=true then
   (if (a1i nd (a2k acc nd.ins)).1=0 then
    (if b3i nm nd (a1i nd (a2k acc nd.ins)).2.length=0 then a0m nm (acc++[(a1i nd (a2k acc nd.ins)).2]) l
    else(b3i nm nd (a1i nd (a2k acc nd.ins)).2.length,[]))
   else((a1i nd (a2k acc nd.ins)).1,[]))
  else(23,[])
noncomputable def a0f (G:a1d):Int × List (List Int) :=
 if a7n G=true then
  (if G.nodes.length≤48∧G.outs.length≤48 then
   (if (a0m (a0a G.names) [] G.nodes).1=0 then
    (if (G.outs.all fun k=>decide (0≤k)&&decide (k<G.nodes.length))=true then(0,(a0m (a0a G.names) [] G.nodes).2) else(23,[]))
   else((a0m (a0a G.names) [] G.nodes).1,[]))
  else(3,[]))
 else(15,[])
def c4r (q:Nat) (G:a1d):Prop:=∀(j:Nat) (nd:a0l),G.nodes[j]?=some nd→nd.ins.length≤q
theorem b7r (h:l[j]?=some x)(hx:¬(0≤x∧x<acc.length)):b7q acc l=false:=by
 rw[b7q,List.all_eq_false];exact⟨x,mG h,by simpa using fun h0=>by have:=hx;omega⟩
theorem b4j (h:∀(i:Nat) (x:Int),l[i]?=some x→0≤x∧x<acc.length):b7q acc l=true:=by
 rw[b7q,List.all_eq_true];intro x hx;obtain⟨i,hi,e⟩:=List.getElem_of_mem hx;have:=h i x (by rw[List.getElem?_eq_getElem hi,e]);simpa using this
theorem b6m (h:l[j]?=some x)(hx:¬(0≤x∧x<n)):(l.all fun k=>decide (0≤k)&&decide (k<n))=false:=by
 rw[List.all_eq_false];exact⟨x,mG h,by simpa using fun h0=>by have:=hx;omega⟩
theorem c6e (h:∀(i:Nat) (x:Int),l[i]?=some x→0≤x∧x<n):(l.all fun k=>decide (0≤k)&&decide (k<n))=true:=by
 rw[List.all_eq_true];intro x hx;obtain⟨i,hi,e⟩:=List.getElem_of_mem hx;have:=h i x (by rw[List.getElem?_eq_getElem hi,e]);simpa using this
theorem b0q (h:a7n G=false):a0f G=(15,[]):=by rw[a0f,h];rfl
theorem a7x (h:a7n G=true)(hl:¬(G.nodes.length≤48∧G.outs.length≤48)):a0f G=(3,[]):=by rw[a0f,iP h,iN hl]
theorem a8s (h:a7n G=true)(hl:G.nodes.length≤48∧G.outs.length≤48){e:Int}{l:List (List Int)}(hg:a0m (a0a G.names) [] G.nodes=(e,l))(he:¬ e=0):a0f G=(e,[]):=by
 rw[a0f,iP h,iP hl,hg,iN he]
theorem b2t (h:a7n G=true)(hl:G.nodes.length≤48∧G.outs.length≤48){l:List (List Int)}(hg:a0m (a0a G.names) [] G.nodes=(0,l)):a0f G=if (G.outs.all fun k=>decide (0≤k)&&decide (k<G.nodes.length))=true then(0,l) else(23,[]):=by
 rw[a0f,iP h,iP hl,hg,iP rfl]
theorem a3h (w:World):Lils w none 0 []:=⟨rfl,by omega,fun j t ht=>by simp at ht⟩
theorem a7f (h:a1m w v G)(hs:c4r 80000 G):
  Calls prog 17 #[v] w fun e w'=>(∃ A m c,e=.returned (.tuple #[.slice A m c,.int .i64 (a0f G).1])∧m≤c∧Lils w' A m (a0f G).2)∧Below w.heap.size w w':=by
 have HG:=h;obtain⟨A,na,ca,B,nb,cb,C,nc,cc,rfl,hL⟩:=h;replace HG:=Hd HG;obtain⟨hia,hib,hic,hA,hB,hC,hnm⟩:=hL;have h1:=(((Sep.nil w).old hC).old hA).allocBox w.heap.size 28 [.slice A na ca,.string G.names,.slice B nb cb,.slice C nc cc] rfl;have hal:=hA.le;have hcl:=hC.le;have HAL:=Hd hA.len;have HCL:=Hd hC.len;have HBL:=Hd hB.1;have hbl:=hB.2.1;have HB:=Hd hB;clear hA hC hB
 go_enter func17,ntmps17
 go_upto_region 1 with fail
 generalize w.alloc (.cells #[.slice A na ca,.string G.names,.slice B nb cb,.slice C nc cc] 28)=W at *;have H:=Hd h1;clear h1;have hsm:=hs;have HSM:=Hd hsm;clear hsm hs;obtain⟨g0,g1,g2,g3⟩:=H.cells4 0 rfl;have CM:=c3n (HG.below H.base)
 cases hm:a7n G with
 | false =>
  rw[hm] at CM;have HX:=Hd (b0q hm)
  go_wp2_with fail
  refine CM.mono ?_;rintro e2 w2 ⟨rfl,hb⟩;replace H:=Hd (H.below hb);clear CM hm hb g0 g1 g2 g3;go_wp2;go_ret2;rw[HX.out]
  exact⟨⟨none,0,0,rfl,Nat.le_refl _,a3h _⟩,H.base⟩
 | true =>
  rw[hm] at CM;have HM:=Hd hm
  go_wp2_with fail
  refine CM.mono ?_;rintro e2 w2 ⟨rfl,hb⟩;replace H:=Hd (H.below hb);clear CM hm hb g0 g1 g2 g3;obtain⟨g0,g1,g2,g3⟩:=H.cells4 0 rfl;by_cases l1:48<nb
  ·have e1:decide (48<nb)=true:=by simpa using l1
   have HX:=Hd (a7x HM (by have:=HBL.out;have:=HCL.out;omega));go_wp2;go_ret2;rw[HX.out];exact⟨⟨none,0,0,rfl,Nat.le_refl _,a3h _⟩,H.base⟩
  have e1:decide (48<nb)=false:=by simpa using l1
  by_cases l2:48<nc
  ·have e2:decide (48<nc)=true:=by simpa using l2
   have HX:=Hd (a7x HM (by have:=HBL.out;have:=HCL.out;omega));go_wp2;go_ret2;rw[HX.out];exact⟨⟨none,0,0,rfl,Nat.le_refl _,a3h _⟩,H.base⟩
  have e2:decide (48<nc)=false:=by simpa using l2
  have hl48:=Hd (show G.nodes.length≤48∧G.outs.length≤48 by have:=HBL.out;have:=HCL.out;omega);have hnb48:nb≤48:=by omega
  have hnc48:nc≤48:=by omega
  obtain⟨nm,hnmr⟩:∃ nm,a0a G.names=nm:=⟨_,rfl⟩;have HNM:=Hd hnmr;clear hnmr;replace H:=Hd (H.addRowNil 25 1)
  go_wp2_with fail
  clear e1 e2 l1 l2 g0 g1 g2 g3
  go_loopw [33,4] (fun iv ov wr=>∃(j:Nat) (us:List Value) (pool:List a0e) (lx:Value) (acc:List (List Int)),lx=ov∧iv=.int .i64 j∧j≤nb∧acc.length=j∧a8u us acc pool∧a0m nm acc (G.nodes.drop j)=a0m nm [] G.nodes∧Sep w wr (.row 25 1 lx j us::.box w.heap.size 28 [.slice A na ca,.string G.names,.slice B nb cb,.slice C nc cc]::.ints A na G.sizes::.ints C nc G.outs::pool)) (fun iv _ _=>nb-(intOf iv).toNat)
  case atStart=>exact⟨0,[],[],_,[],rfl,rfl,by omega,rfl,b0i,rfl,H⟩
  case round =>
   clear H;obtain⟨j,us,pool,lx,acc,rfl,rfl,hj,hacc,hP,hgo,hS⟩:=hrel;have H:=Hd hS;have HP:=Hd hP;have HGO:=Hd hgo;have HACC:=Hd hacc;clear hS hP hgo hacc;obtain⟨g0,g1,g2,g3⟩:=H.cells4 1 rfl;by_cases hlt:j<nb
   ·obtain⟨nd,hnd⟩:∃ nd,G.nodes[j]?=some nd:=gE (by have:=HBL.out;omega);obtain⟨la,S,ns,cs,D,nD,cD,E,ne,ce,hla,hlb,k0,k1,k2,k3,k4,k5,k6,hNL⟩:=HB.out.2.2 j nd hnd;subst hla;obtain⟨c0,c1,c2,c3,c4,c5,c6⟩:=old7 H hlb k0 k1 k2 k3 k4 k5 k6;have HGD:=Hd (show a0m nm acc (nd::G.nodes.drop (j+1))=a0m nm [] G.nodes by rw[←d5l hnd];exact HGO);have hns:ns≤80000:=by have h5:=HSM.out j nd hnd;have h6:=hNL.inA.len;omega
    have HNL:=Hd hNL;have HSL:=Hd hNL.inA.len;have hnsl:=hNL.inA.le;clear k0 k1 k2 k3 k4 k5 k6 hNL hnd;have h3:=H.allocBox wr.heap.size 49 [.int .i64 nd.op,.slice S ns cs,.slice D nD cD,.slice E ne ce,.int .i64 nd.n,.int .i64 nd.how,.string nd.note] rfl
    go_upto_region 9 with fail
    generalize wr.alloc (.cells #[.int .i64 nd.op,.slice S ns cs,.slice D nD cD,.slice E ne ce,.int .i64 nd.n,.int .i64 nd.how,.string nd.note] 49)=w3 at *;generalize wr.heap.size=gn at *;have h4:=h3.addRowNil 25 1;replace H:=Hd h4;clear h3 h4 c0 c1 c2 c3 c4 c5 c6 g0 g1 g2 g3;obtain⟨n0,n1,n2,n3,n4,n5,n6⟩:=H.cells7 1 rfl
    go_wp2_with fail
    clear n0 n1 n2 n3 n4 n5 n6
    go_loopw [41,7] (fun iv ov wr=>∃(q:Nat) (us2:List Value) (lx2:Value),lx2=ov∧iv=.int .i64 q∧q≤ns∧(∀(i:Nat) (x:Int),nd.ins[i]?=some x→i<q→0≤x∧x<j)∧a8u us2 (a2k acc (nd.ins.take q)) pool∧Sep w wr (.row 25 1 lx2 q us2::.box gn 49 [.int .i64 nd.op,.slice S ns cs,.slice D nD cD,.slice E ne ce,.int .i64 nd.n,.int .i64 nd.how,.string nd.note]::.row 25 1 lx j us::.box w.heap.size 28 [.slice A na ca,.string G.names,.slice (some la) nb cb,.slice C nc cc]::.ints A na G.sizes::.ints C nc G.outs::pool)) (fun iv _ _=>ns-(intOf iv).toNat)
    case atStart=>exact⟨0,[],_,rfl,rfl,by omega,by omega,b0i,H⟩
    case round =>
     clear H;obtain⟨q,us2,lx2,rfl,rfl,hq,hAll,hP2,hS⟩:=hrel;have H:=Hd hS;have HP2:=Hd hP2;have HA:=Hd hAll;clear hS hP2 hAll;by_cases hlq:q<ns
     ·obtain⟨sa,x,hsA,_,hx,hcx,_⟩:=(H.oldI HNL.inA).at_ (k:=q) hlq;subst hsA;by_cases h1:x<0
      ·have d1:decide (x<0)=true:=by simpa using h1
       have HX:=Hd (a8s HM hl48 (by rw[HNM.out,←HGD.out,a0m,b7r hx (by have:=HACC.out;omega)];rfl) (by decide:¬(23:Int)=0));clear hx;go_wp2;go_ret2;rw[HX.out];exact⟨⟨none,0,0,rfl,Nat.le_refl _,a3h _⟩,H.base⟩
      obtain⟨xx,rfl⟩:=eZ (by omega:0≤x);have d1:decide ((xx:Int)<0)=false:=by simp
      by_cases h2:j≤xx
      ·have d2:decide (j≤xx)=true:=by simpa using h2
       have HX:=Hd (a8s HM hl48 (by rw[HNM.out,←HGD.out,a0m,b7r hx (by have:=HACC.out;omega)];rfl) (by decide:¬(23:Int)=0));clear hx;go_wp2;go_ret2;rw[HX.out];exact⟨⟨none,0,0,rfl,Nat.le_refl _,a3h _⟩,H.base⟩
      have d2:decide (j≤xx)=false:=by simpa using h2
      obtain⟨s,hs⟩:∃ s,acc[xx]?=some s:=gE (by have:=HACC.out;omega);obtain⟨S5,n5,c5,p5,hu5,hp5⟩:=HP.out.2 xx s hs;obtain⟨go,co,hv,hco⟩:=H.rowForm 2 rfl (by omega);subst hv;have hcu:=c6h H 2 rfl hu5 (by omega:xx<j);rw[a4h] at hcu;have hb5:xx<j:=by omega
      have hb6:(xx:Int)<j:=by omega
      have HQ2:=Hd (show a8u (us2++[.slice S5 n5 c5]) (a2k acc (nd.ins.take (q+1))) pool by
       have he:a2k acc (nd.ins.take (q+1))=a2k acc (nd.ins.take q)++[s]:=by
        rw[List.take_add_one,hx,a2k,a2k,List.map_append];simp[List.getD_eq_getElem?_getD,hs]
       rw[he];exact HP2.snoc hp5)
      have HXX:=Hd hx;clear hx hs hu5 hp5
      go_wp2_with (at_builtin;refine a2n rfl (.tmp 52) (.tmp 57) 44 rfl underlying44 H.out 0 rfl rfl _ rfl ?c1 ?_)
      case c1=>omega
      intro v9 w9 h9;have H9:=Hd h9;clear h9 hcu hcx;go_wp2;go_roundw
      case rel=>exact⟨q+1,us2++[Value.slice S5 n5 c5],_,rfl,by go_num,by omega,fun i y hi hi2=>by
       rcases Nat.lt_or_ge i q with hij|hij
       ·exact HA i y hi hij
       ·obtain rfl:i=q:=by omega
        have h9:=HXX.out
        rw[hi] at h9;injection h9 with h9;omega,HQ2,H9⟩
      case measure=>simp[intOf];omega
     ·obtain rfl:q=ns:=by omega
      have HIN:=Hd (show b7q acc nd.ins=true from b4j fun i x hi=>by rw[HACC.out];exact HA i x hi (by have:=HSL.out;have:=(lL hi);omega));have hP3:=HP2.out;rw[List.take_of_length_le (by have:=HSL.out;omega)] at hP3;obtain⟨Al,cl,hv,hcl,hLi⟩:=a8q 0 H rfl hP3 (by rw[a2k,List.length_map];exact HSL) (by omega) 6 (fun i=>rfl);subst hv;clear hP3;have CS:=a8g (cl:=cl) (a4r.wide (show a4r _ (.agg #[.int .i64 nd.op,.slice S q cs,.slice D nD cD,.slice E ne ce,.int .i64 nd.n,.int .i64 nd.how,.string nd.note]) nd from⟨S,q,cs,D,nD,cD,E,ne,ce,rfl,HNL.below H.base⟩)) hLi;obtain⟨⟨e5,s5⟩,hR⟩:∃ r,a1i nd (a2k acc nd.ins)=r:=⟨_,rfl⟩;rw[hR] at CS;have HR:=Hd hR;clear hLi hR;obtain⟨n0,n1,n2,n3,n4,n5,n6⟩:=H.cells7 1 rfl
      go_wp2_with fail
      refine CS.mono ?_;rintro e4 w4 ⟨⟨v5,m5,rfl,hO⟩,hb4⟩;clear CS n0 n1 n2 n3 n4 n5 n6;replace hO:OwnS w4 _ 3 v5 m5 s5:=hO;obtain⟨A5,c5,rfl,hmc5,_,_⟩:=hO.form;have HML:=Hd hO.len;replace H:=Hd (H.addOwn hb4 hO);clear hO hb4;by_cases he:e5=0
      ·subst he;obtain⟨n0,n1,n2,n3,n4,n5,n6⟩:=H.cells7 2 rfl;obtain⟨g0,g1,g2,g3⟩:=H.cells4 4 rfl;have CN:=b5w (w:=w4) (m5:Int) hnm HNL.note;rw[HNM.out] at CN;obtain⟨e6,hE⟩:∃ e6,b3i nm nd m5=e6:=⟨_,rfl⟩;have HE6:=Hd hE;unfold b3i at hE;rw[hE] at CN;clear hE
       go_wp2_with fail
       refine CN.mono ?_;rintro e8 w8 ⟨⟨v8,m8,rfl,_⟩,hb8⟩;replace H:=Hd (H.below hb8);clear CN hb8 n0 n1 n2 n3 n4 n5 n6 g0 g1 g2 g3;by_cases he6:e6=0
       ·subst he6;have HG2:=Hd (show a0m nm (acc++[s5]) (G.nodes.drop (j+1))=a0m nm [] G.nodes by have h7:=HGD.out;rw[a0m,iP HIN.out,HR.out,iP rfl,HML.out,HE6.out,iP rfl] at h7;exact h7)
        go_wp2_with (at_builtin;refine a2n rfl (.tmp 83) (.tmp 85) 44 rfl underlying44 H.out 3 rfl rfl _ rfl ?c1 ?_)
        case c1=>omega
        intro v9 w9 h9;have h10:=Sep.tail_ (Sep.tail_ (Sep.perm h9 (l':=[_,_,.row 25 1 v9 (j+1) (us++[.slice A5 m5 c5]),.box w.heap.size 28 [.slice A na ca,.string G.names,.slice (some la) nb cb,.slice C nc cc],.ints A na G.sizes,.ints C nc G.outs]++([a0e.own 3 (.slice A5 m5 c5) m5 s5]++pool)) (by rw[←List.append_assoc];exact(List.perm_append_comm (l₁:=[a0e.own 3 (.slice A5 m5 c5) m5 s5]) (l₂:=[_,_,_,_,_,_])).append_right pool)));have H10:=Hd h10;clear h9 h10;go_wp2;go_roundw
        case rel=>exact⟨j+1,us++[Value.slice A5 m5 c5],a0e.own 3 (.slice A5 m5 c5) m5 s5::pool,_,acc++[s5],rfl,by go_num,by omega,by rw[List.length_append,List.length_singleton,HACC.out],HP.more,HG2,H10⟩
        case measure=>simp[intOf];omega
       ·have dE:(e6 != 0)=true:=by simpa using he6
        have HX:=Hd (a8s HM hl48 (by rw[HNM.out,←HGD.out,a0m,iP HIN.out,HR.out,iP rfl,HML.out,HE6.out,iN he6]) he6);clear he6;go_wp2;go_ret2;rw[HX.out];exact⟨⟨none,0,0,rfl,Nat.le_refl _,a3h _⟩,H.base⟩
      ·have dE:(e5 != 0)=true:=by simpa using he
       have HX:=Hd (a8s HM hl48 (by rw[HNM.out,←HGD.out,a0m,iP HIN.out,HR.out,iN he]) he);clear he;go_wp2;go_ret2;rw[HX.out];exact⟨⟨none,0,0,rfl,Nat.le_refl _,a3h _⟩,H.base⟩
   ·obtain rfl:j=nb:=by omega
    have HEND:=Hd (show a0m nm [] G.nodes=(0,acc) by rw[←HGO.out,List.drop_eq_nil_of_le (by have:=HBL.out;omega),a0m]);have HXE:=Hd (b2t HM hl48 (by rw[HNM.out];exact HEND))
    go_wp2_with fail
    clear g0 g1 g2 g3
    go_loopw [91] (fun iv wr=>∃ q:Nat,iv=.int .i64 q∧q≤nc∧(∀(i:Nat) (x:Int),G.outs[i]?=some x→i<q→0≤x∧x<j)∧Sep w wr (.row 25 1 lx j us::.box w.heap.size 28 [.slice A na ca,.string G.names,.slice B j cb,.slice C nc cc]::.ints A na G.sizes::.ints C nc G.outs::pool)) (fun iv _=>nc-(intOf iv).toNat)
    case atStart=>exact⟨0,rfl,by omega,by omega,H⟩
    case round =>
     clear H;obtain⟨q,rfl,hq,hAll,hS⟩:=hrel;have H:=Hd hS;have HA:=Hd hAll;clear hS hAll;obtain⟨g0,g1,g2,g3⟩:=H.cells4 1 rfl;by_cases hlq:q<nc
     ·obtain⟨sa,x,hsA,_,hx,hcx,_⟩:=(H.oldInts 3 rfl).at_ (k:=q) hlq;subst hsA;by_cases h1:x<0
      ·have d1:decide (x<0)=true:=by simpa using h1
       have HX:=Hd (HXE.trans (by rw[b6m hx (by have:=HBL.out;omega)];rfl:_=((23:Int),([]:List (List Int)))));clear hx;go_wp2;go_ret2;rw[HX.out];exact⟨⟨none,0,0,rfl,Nat.le_refl _,a3h _⟩,H.base⟩
      obtain⟨xx,rfl⟩:=eZ (by omega:0≤x);have d1:decide ((xx:Int)<0)=false:=by simp
      by_cases h2:j≤xx
      ·have d2:decide (j≤xx)=true:=by simpa using h2
       have HX:=Hd (HXE.trans (by rw[b6m hx (by have:=HBL.out;omega)];rfl:_=((23:Int),([]:List (List Int)))));clear hx;go_wp2;go_ret2;rw[HX.out];exact⟨⟨none,0,0,rfl,Nat.le_refl _,a3h _⟩,H.base⟩
      have d2:decide (j≤xx)=false:=by simpa using h2
      have HXX:=Hd hx;clear hx;go_wp2;go_roundw
      case rel=>exact⟨q+1,by go_num,by omega,fun i y hi hi2=>by
       rcases Nat.lt_or_ge i q with hij|hij
       ·exact HA i y hi hij
       ·obtain rfl:i=q:=by omega
        have h9:=HXX.out
        rw[hi] at h9;injection h9 with h9;omega,H⟩
      case measure=>simp[intOf];omega
     ·obtain rfl:q=nc:=by omega
      have HX:=Hd (HXE.trans (iP (c6e fun i x hi=>by rw[HBL.out];exact HA i x hi (by have:=HCL.out;have:=(lL hi);omega))));obtain⟨Al,cl,hv,hcl2,hLi⟩:=a8q 0 H rfl HP HACC (by omega) 4 (fun i=>rfl);subst hv;have HLI:=Hd hLi;clear hLi;go_wp2;go_ret2;rw[HX.out];exact⟨⟨Al,_,cl,rfl,hcl2,HLI⟩,H.base⟩
theorem c0j (h:a1m w v G)(hs:c4r 80000 G):
  Calls prog 56 #[v] w fun e w'=>e=.returned (.int .i64 (a0f G).1)∧Below w.heap.size w w':=by
 have HG:=h;obtain⟨A,na,ca,B,nb,cb,C,nc,cc,rfl,hL⟩:=h;replace HG:=Hd HG;obtain⟨hia,hib,hic,hA,hB,hC,hnm⟩:=hL;have h1:=(((Sep.nil w).old hC).old hA).allocBox w.heap.size 28 [.slice A na ca,.string G.names,.slice B nb cb,.slice C nc cc] rfl;have hal:=hA.le;have hcl:=hC.le;have HAL:=Hd hA.len;have HCL:=Hd hC.len;have HBL:=Hd hB.1;have hbl:=hB.2.1;have HB:=Hd hB;clear hA hC hB
 go_enter func56,ntmps56
 go_upto_region 1 with fail
 generalize w.alloc (.cells #[.slice A na ca,.string G.names,.slice B nb cb,.slice C nc cc] 28)=W at *;have H:=Hd h1;clear h1;obtain⟨g0,g1,g2,g3⟩:=H.cells4 0 rfl
 go_wp2_with fail
 refine(a7f (HG.below H.base) hs).mono ?_;rintro e2 w2 ⟨⟨A5,m5,c5,rfl,_,_⟩,hb⟩;replace H:=Hd (H.below hb);clear hb g0 g1 g2 g3;go_wp2;go_ret;exact⟨rfl,H.base⟩
def Few (q:Nat) (nd:a0l):Prop:=nd.ins.length≤q∧nd.shape.length≤q∧nd.a.length≤q
structure FewG (q:Nat) (G:a1d):Prop where
 nodes:G.nodes.length≤q
 sizes:G.sizes.length≤q
 outs:G.outs.length≤q
 each:∀(j:Nat) (nd:a0l),G.nodes[j]?=some nd→Few q nd
theorem FewG.small {q:Nat}(h:FewG q G):c4r q G:=fun j nd hj=>(h.each j nd hj).1
theorem b6a (nm:List Int):∀(N:List a0l) (acc L:List (List Int)),a0m nm acc N=(0,L)→L.length=acc.length+N.length
 | [],acc,L,h=>by
  have:acc=L:=by rw[a0m] at h;injection h
  subst this;rfl
 | nd::N,acc,L,h=>by
  unfold a0m at h
  split at h
  ·split at h
   ·split at h
    ·have:=b6a nm N _ L h;rw[this,List.length_append,List.length_singleton,List.length_cons];omega
    ·rename_i h3;injection h with h;exact absurd h h3
   ·rename_i h2;injection h with h;exact absurd h h2
  ·injection h with h;cases h
end Go.Proofs.YtdcmanhgekjhgaaGreatDoor
