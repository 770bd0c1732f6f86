import Derived.Test.YtajhdeddgdhccaaGreatDoorPax
set_option maxRecDepth 100000
set_option maxHeartbeats 12800000
namespace Go.Proofs.YtajhdeddgdhccaaGreatDoor
open Go.RowKit Go.Proofs.Tryz
variable {D S:Option Addr} {L:List (List Int)} {dc dn n sc sn:Nat} {l pool:List a0i} {nd:a0p} {s:List Int} {us:List Value} {v:Value} {w w0:World}
theorem d4g:(prog.info? 84).map (fun i=>(i.zero,i.size,i.bytes))=some (some (.agg #[.slice none 0 0,.slice none 0 0]),2,48):=by kernel_rfl
theorem b7m:∃ i,prog.info? 84=some i∧i.zero=some (.agg #[.slice none 0 0,.slice none 0 0])∧i.size=2∧i.bytes=48:=by
 have h:=d4g
 cases e:prog.info? 84 with
 | none=>rw[e] at h;cases h
 | some i =>
  rw[e] at h;simp only[Option.map_some,Option.some.injEq,Prod.mk.injEq] at h;exact⟨i,rfl,h.1,h.2.1,h.2.2⟩
theorem b1o {ops:Array Oper}{rest:List Oper}{o:Oper}{a:Act}{Q:Exit→Act→World→Prop}(hgd:o.guard=none)(s y:Operand)(t:TypeId)
  (ho:o.op=.call { callee:=.builtin .append,args:=#[s,y],argTypes:=#[t,t] })(ht:prog.underlying t=some (.slice 84))
  (H:Sep w0 w l)(i:Nat)(hi:l[i]?=some (.row 84 2 v n us))(hs:a.eval s=v)(c:Nat)(hy:a.eval y=.slice (some ⟨w.heap.size,0,none⟩) 1 c)
  (hn:n≤1000)
  (h:∀ v' w', Sep w0 w' (l.set i (.row 84 2 v' (n+1) (us++[.slice S sn sc,.slice D dn dc])))→wpList prog ops Q rest (a.put o.dst v') w'):
  wpList prog ops Q (o::rest) a (w.alloc (.cells #[.slice S sn sc,.slice D dn dc] 84)):=by
 obtain⟨ti,h1,h2,h3,h4⟩:=b7m;have H':=H.below ((Below.refl w.heap.size w).alloc (Nat.le_refl _) (.cells #[.slice S sn sc,.slice D dn dc] 84));have hsz:=H'.size;refine wpList_append_own_at _ hgd s y t ho w0.heap.size 84 ti _ 2 48 ht h1 h2 h3 h4 (by rfl) (by omega) v n us hs (H'.at_ i hi) ⟨w.heap.size,0,none⟩ 1 c [.slice S sn sc,.slice D dn dc] hy rfl ?_ (by simp[Value.oneCell']) (by unfold maxLen;omega) (by omega) hsz ?_
 ·intro j u hj;have hb:=heap_alloc_new w (.cells #[.slice S sn sc,.slice D dn dc] 84)
  match j,hj with
  | 0,hj=>simp at hj;subst hj;exact cell_of_row _ _ 0 _ _ _ hb
  | 1,hj=>simp at hj;subst hj;exact cell_of_row _ _ 1 _ _ _ hb
  | j+2,hj=>simp at hj
 ·intro v' w' h5 h6 _ h8
  exact h v' w' (H'.change i hi h6 h5 fun b hb=>by
   have hb:v'.ownBlock=some b:=hb;rcases h8 with e|e
   ·exact .inl (e.symm.trans hb)
   ·rw[e] at hb;injection hb with hb;subst hb;exact .inr (Nat.le_refl _))
def Pool (us:List Value) (L:TL) (pool:List a0i):Prop:=us.length=L.length*2∧∀(j:Nat) (t:List Int × List Int),L[j]?=some t→∃(S:Option Addr) (sn sc:Nat) (D:Option Addr) (dn dc p q:Nat),us[j*2]?=some (.slice S sn sc)∧us[j*2+1]?=some (.slice D dn dc)∧pool[p]?=some (a0i.own 3 (.slice S sn sc) sn t.1)∧pool[q]?=some (a0i.own 2 (.slice D dn dc) dn t.2)
theorem d5i (g j:Nat):(⟨g,0,none⟩:Addr).add j=⟨g,j,none⟩:=by
 by_cases h:j=0
 ·subst h;rfl
 ·simp[Addr.add,h]
theorem d2k:Pool [] [] []:=⟨rfl,fun j t h=>by simp at h⟩
theorem Pool.more {L:TL}{t:List Int × List Int}(h:Pool us L pool):
  Pool (us++[.slice S sn sc,.slice D dn dc]) (L++[t]) (a0i.own 3 (.slice S sn sc) sn t.1::a0i.own 2 (.slice D dn dc) dn t.2::pool):=by
 obtain⟨hl,h⟩:=h;refine⟨by simp[hl];omega,fun j u hu=>?_⟩;rcases Nat.lt_or_ge j L.length with hj|hj
 ·rw[List.getElem?_append_left hj] at hu;obtain⟨S', sn', sc', D', dn', dc', p,q,h1,h2,h3,h4⟩:=h j u hu;exact⟨S', sn', sc', D', dn', dc', p+2,q+2,by rw[List.getElem?_append_left (by omega)];exact h1,by rw[List.getElem?_append_left (by omega)];exact h2,h3,h4⟩
 ·rw[List.getElem?_append_right hj] at hu
  have hj' : j=L.length:=by
   rcases Nat.eq_or_lt_of_le hj with e|e
   ·exact e.symm
   ·obtain⟨m,hm⟩:∃ m,j-L.length=m+1:=⟨j-L.length-1,by omega⟩;rw[hm] at hu;simp at hu
  subst hj';simp at hu;subst hu;exact⟨S,sn,sc,D,dn,dc,0,1,by rw[List.getElem?_append_right (by omega),hl];simp,by rw[List.getElem?_append_right (by omega),hl];simp,rfl,rfl⟩
theorem c8n {g c:Nat}{L:TL}(h:Sep w0 w (.row 84 2 (.slice (some ⟨g,0,none⟩) n c) n us::l))(hP:Pool us L pool)(hn:L.length=n)(hn2:n≤1000)(f:Nat)(hf:∀ i,l[i+f]?=pool[i]?):
  Tens w (some ⟨g,0,none⟩) n L:=by
 have hrow:w.ownsRow w0.heap.size 84 2 (.slice (some ⟨g,0,none⟩) n c) n us:=h.at_ 0 rfl;obtain⟨hl,hP⟩:=hP;refine⟨hn,by omega,fun j t ht=>?_⟩;have hj:j<L.length:=(lL ht);obtain⟨S,sn,sc,D,dn,dc,p,q,h1,h2,h3,h4⟩:=hP j t ht;have hlt:=(World.ownsRow.lt hrow g rfl).2;have hp:=h.ownInts (p+f+1) ((hf p).trans h3);have hq:=h.ownInts (q+f+1) ((hf q).trans h4);refine⟨⟨g,0,none⟩,S,sn,sc,D,dn,dc,rfl,hlt,?_,?_,a3d hp.2.2 hp.2.1 hq.2.2 hq.2.1⟩
 ·rw[d5i];rw[hrow.cellAt (j*2) (by omega),h1]
 ·rw[d5i];rw[hrow.cellAt (j*2+1) (by omega),h2]
def zeros (s:List Int):List Int × List Int:=(s,List.replicate (Sh.size s).toNat 0)
theorem a0r (h:Sh.right s=true):a0a (zeros s).1 (zeros s).2=true:=by
 have:=Sh.size_bd s;simp only[zeros,a0a,h,Bool.true_and,List.length_replicate,decide_eq_true_eq];omega
noncomputable def a1a (nd:a0p) (L:List (List Int)):Int × List Int :=
 if a4n nd L.length=true then
  (if L.all Sh.right=true then
   (if nd.op=1 then(if Sh.right nd.shape=true then(0,nd.shape) else(13,[]))
   else if (a0q nd (L.map zeros)).1=0 then(0,(a0q nd (L.map zeros)).2.1) else((a0q nd (L.map zeros)).1,[]))
  else(13,[]))
 else(1,[])
theorem b4q (h:a4n nd L.length=false):a1a nd L=(1,[]):=by rw[a1a,h];rfl
theorem b6o (h:a4n nd L.length=true){j:Nat}(hs:L[j]?=some s)(hr:Sh.right s=false):a1a nd L=(13,[]):=by
 have:L.all Sh.right=false:=by
  rw[List.all_eq_false];exact⟨s,mG hs,by rw[hr];simp⟩
 rw[a1a,iP h,this];rfl
theorem b2h (h:a4n nd L.length=true)(ha:L.all Sh.right=true)(ho:nd.op=1):a1a nd L=if Sh.right nd.shape=true then(0,nd.shape) else(13,[]):=by
 rw[a1a,iP h,iP ha,iP ho]
theorem b4r (h:a4n nd L.length=true)(ha:L.all Sh.right=true)(ho:¬ nd.op=1):a1a nd L=if (a0q nd (L.map zeros)).1=0 then(0,(a0q nd (L.map zeros)).2.1) else((a0q nd (L.map zeros)).1,[]):=by
 rw[a1a,iP h,iP ha,iN ho]
theorem c2o (h:∀(i:Nat) (s:List Int),L[i]?=some s→i<L.length→Sh.right s=true):L.all Sh.right=true:=by
 rw[List.all_eq_true];intro s hs;obtain⟨i,hi,e⟩:=List.getElem_of_mem hs;exact h i s (by rw[List.getElem?_eq_getElem hi,e]) hi
theorem c5f {L:TL}(h:Sep w0 w (.row 84 2 v n us::l))(hP:Pool us L pool)(hn:L.length=n)(hn2:n≤1000)(f:Nat)(hf:∀ i,l[i+f]?=pool[i]?):
  ∃ A c,v=.slice A n c∧Tens w A n L:=by
 rcases Nat.eq_zero_or_pos n with e|e
 ·subst e;have hr:w.ownsRow w0.heap.size 84 2 v 0 us:=h.at_ 0 rfl;have hT:∀ A,Tens w A 0 L:=fun A=>⟨hn,by omega,fun j t ht=>by rw[List.eq_nil_of_length_eq_zero hn] at ht;simp at ht⟩
  rcases hr.2 with ⟨hv,_⟩|⟨g,cap,cur,hv,_⟩
  ·exact⟨none,0,hv,hT _⟩
  ·exact⟨_,cap,hv,hT _⟩
 ·obtain⟨g,c,rfl,_⟩:=h.rowForm 0 rfl e;exact⟨_,c,rfl,c8n h hP hn hn2 f hf⟩
theorem a6l {Al:Option Addr}{nl cl:Nat}(h:a5b w v nd)(hLi:Lils w Al nl L):
  Calls prog 18 #[v,.slice Al nl cl] w fun e w'=>(∃ v m,e=.returned (.tuple #[v,.int .i64 (a1a nd L).1])∧OwnS w' w.heap.size 3 v m (a1a nd L).2)∧Below w.heap.size w w':=by
 have HN:=h;obtain⟨A,na,ca,B,nb,cb,C,nc,cc,rfl,hL⟩:=h;replace HN:=Hd HN;have hll:=hLi.1;have hln:=hLi.2.1;have hBI:=hL.inB;have hib:=hL.ib;have h1:=((Sep.nil w).old hBI).allocBox w.heap.size 37 [.int .i64 nd.op,.slice A na ca,.slice B nb cb,.slice C nc cc,.int .i64 nd.n,.int .i64 nd.how,.string nd.note] rfl;have hbl:=hBI.le;have HBL:=Hd hBI.len;have HLL:=Hd hll;have HLI:=Hd hLi;clear hBI hL hLi hll
 go_enter func18,ntmps18
 go_upto_region 1 with fail
 generalize w.alloc (.cells #[.int .i64 nd.op,.slice A na ca,.slice B nb cb,.slice C nc cc,.int .i64 nd.n,.int .i64 nd.how,.string nd.note] 37)=W at *;have H:=Hd h1;clear h1;obtain⟨n0,n1,n2,n3,n4,n5,n6⟩:=H.cells7 0 rfl;have C1:=b7t (nl:Int) (HN.below H.base)
 cases hf:a4n nd nl with
 | false =>
  rw[hf] at C1;have HX:=Hd (b4q (nd:=nd) (L:=L) (by rw[HLL.out];exact hf))
  go_wp2_with fail
  refine C1.mono ?_;rintro e2 w2 ⟨rfl,hb⟩;replace H:=Hd (H.below hb);clear C1 hf hb n0 n1 n2 n3 n4 n5 n6;go_wp2;go_ret2;rw[HX.out]
  exact⟨⟨_,0,rfl,OwnS.nil_ _ _ _⟩,H.base⟩
 | true =>
  rw[hf] at C1;have HF:=Hd (show a4n nd L.length=true by rw[HLL.out];exact hf)
  go_wp2_with fail
  refine C1.mono ?_;rintro e2 w2 ⟨rfl,hb⟩;replace H:=Hd (H.below hb);clear C1 hf hb n0 n1 n2 n3 n4 n5 n6;have h2:=H.addRowNil 84 2;replace H:=Hd h2;clear h2
  go_wp2_with fail
  go_loopw [17,6] (fun iv lv wr=>∃(j:Nat) (us:List Value) (pool:List a0i) (lx:Value),lx=lv∧iv=.int .i64 j∧j≤nl∧(∀(i:Nat) (s:List Int),L[i]?=some s→i<j→Sh.right s=true)∧Pool us ((L.take j).map zeros) pool∧Sep w wr (.row 84 2 lx j us::.box w.heap.size 37 [.int .i64 nd.op,.slice A na ca,.slice B nb cb,.slice C nc cc,.int .i64 nd.n,.int .i64 nd.how,.string nd.note]::.ints B nb nd.shape::pool)) (fun iv _ _=>nl-(intOf iv).toNat)
  case atStart=>exact⟨0,[],[],_,rfl,rfl,by omega,by omega,d2k,H⟩
  case round =>
   clear H;obtain⟨j,us,pool,lx,rfl,rfl,hj,hAll,hP,hS⟩:=hrel;have H:=Hd hS;have HP:=Hd hP;have HA:=Hd hAll;clear hS hP hAll;by_cases hlt:j<nl
   ·obtain⟨s,hs⟩:∃ s,L[j]?=some s:=gE (by have:=HLL.out;omega);obtain⟨la,Bs,ms,cs,hla,hlb,hcl,hmc,hI⟩:=HLI.out.2.2 j s hs;subst hla;have hcj:=H.oC hcl (a4q hlb);have hIs:=H.oldI hI;have HI:=Hd hI;have HSJ:=Hd hs;clear hI hcl hs;have CR:=a0n (c:=cs) hIs;clear hIs
    cases hr:Sh.right s with
    | false =>
     rw[hr] at CR;have HX:=Hd (b6o HF HSJ hr)
     go_wp2_with fail
     refine CR.mono ?_;rintro e3 w3 ⟨rfl,rfl⟩;clear CR hr;go_wp2;go_ret2;rw[HX.out]
     exact⟨⟨_,0,rfl,OwnS.nil_ _ _ _⟩,H.base⟩
    | true =>
     rw[hr] at CR;have HR:=Hd hr
     go_wp2_with fail
     refine CR.mono ?_;rintro e3 w3 ⟨rfl,rfl⟩;clear CR hr;obtain⟨w9,rfl⟩:∃ w9:World,w9=wr:=⟨_,rfl⟩
     go_wp2_with fail
     refine(a1i 0 (H.oldI HI) (by have:=(Sh.right_iff.1 HR).1;have:=HI.len;omega) ⟨by omega,by omega⟩).mono ?_;rintro e4 w4 ⟨⟨u,rfl,hu⟩,hb4⟩;obtain⟨S8,n8,k8,D8,m8,j8,rfl,hs1,hd1,hsc,hdc,hNle,h5⟩:=H.addTen hb4 hu;have H5:=Hd h5;clear hu hb4 h5 hs1 hd1 hcj
     go_wp2_with (at_builtin;refine b1o rfl (.tmp 26) (.tmp 32) 82 rfl underlying82 H5.out 2 rfl rfl _ rfl ?c1 ?_)
     case c1=>omega
     intro v9 w9 h9;have h10:=Sep.perm h9 (l':=[.row 84 2 v9 (j+1) (us++[.slice S8 n8 k8,.slice D8 m8 j8]),.box w.heap.size 37 [.int .i64 nd.op,.slice A na ca,.slice B nb cb,.slice C nc cc,.int .i64 nd.n,.int .i64 nd.how,.string nd.note],.ints B nb nd.shape]++([a0i.own 3 (.slice S8 n8 k8) n8 s,a0i.own 2 (.slice D8 m8 j8) m8 (List.replicate (Sh.size s).toNat 0)]++pool)) (by rw[←List.append_assoc];exact(List.perm_append_comm (l₁:=[a0i.own 3 (.slice S8 n8 k8) n8 s,a0i.own 2 (.slice D8 m8 j8) m8 (List.replicate (Sh.size s).toNat 0)]) (l₂:=[_,_,_])).append_right pool);have H10:=Hd h10;clear h9 h10 H5;go_wp2;go_roundw
     case rel=>exact⟨j+1,us++[Value.slice S8 n8 k8,Value.slice D8 m8 j8],a0i.own 3 (.slice S8 n8 k8) n8 s::a0i.own 2 (.slice D8 m8 j8) m8 (List.replicate (Sh.size s).toNat 0)::pool,_,rfl,by go_num,by omega,(fun i s2 hi hi2=>by
      rcases Nat.lt_or_ge i j with hij|hij
      ·exact HA i s2 hi hij
      ·obtain rfl:i=j:=by omega
       obtain rfl:s2=s:=by have:=HSJ.out;rw[hi] at this;injection this
       exact HR),by rw[List.take_add_one,HSJ.out,List.map_append];exact HP.more (t:=zeros s),H10⟩
     case measure=>simp[intOf];omega
   ·obtain rfl:j=nl:=by omega
    have HALL:=Hd (show L.all Sh.right=true from c2o fun i s hi hi2=>HA.out i s hi (by have:=HLL.out;omega));have HPF:=Hd (show Pool us (L.map zeros) pool by have h7:=HP.out;rwa [List.take_of_length_le (by have:=HLL.out;omega)] at h7);obtain⟨n0,n1,n2,n3,n4,n5,n6⟩:=H.cells7 1 rfl;by_cases ho:nd.op=1
    ·have HX:=Hd (b2h HF HALL ho);have dop:(nd.op==1)=true:=by simpa using ho
     have CR:=a0n (c:=cb) (H.oldInts 2 rfl)
     cases hr:Sh.right nd.shape with
     | false =>
      rw[hr] at CR HX;clear ho hr
      go_wp2_with fail
      refine CR.mono ?_;rintro e3 w3 ⟨rfl,rfl⟩;clear CR n0 n1 n2 n3 n4 n5 n6;go_wp2;go_ret2;rw[HX.out]
      exact⟨⟨_,0,rfl,OwnS.nil_ _ _ _⟩,H.base⟩
     | true =>
      have hbn:nb≤17592186044000:=by have:=(Sh.right_iff.1 hr).1;have:=HBL.out;omega
      rw[hr] at CR HX;clear ho hr
      go_wp2_with fail
      refine CR.mono ?_;rintro e3 w3 ⟨rfl,rfl⟩;clear CR;have HE:=Hd (H.empty 3);have m2:=HE.c 2 2
      go_wp2_with (at_builtin;refine a0f rfl (.tmp 42) (.tmp 44) 23 3 rfl underlying23 Tryz.infoInt HE.out 0 rfl rfl B nb cb nd.shape rfl (HE.out.oldInts 3 rfl) ?c1 ?_)
      case c1=>omega
      intro v9 w9 h9;have H9:=Hd h9;clear h9 HE m2 n0 n1 n2 n3 n4 n5 n6;go_wp2;go_ret2;rw[HX.out];exact⟨⟨_,_,rfl,H9.ownS 0 rfl⟩,H9.base⟩
    ·have HX:=Hd (b4r HF HALL ho);have dop:(nd.op==1)=false:=by simpa using ho
     obtain⟨At,ct,rfl,hTens⟩:=c5f H HPF (by rw[List.length_map];exact HLL) (by omega) 2 (fun i=>rfl)
     have CW:=b7v (ct:=ct) (HN.below H.base) hTens (by rw[List.length_map];exact HF) ho (fun t ht=>by
      obtain⟨s,hs,rfl⟩:=List.mem_map.1 ht
      exact a0r (List.all_eq_true.1 HALL s hs))
     clear ho hTens;obtain⟨⟨E,S,D⟩,hR⟩:∃ r,a0q nd (L.map zeros)=r:=⟨_,rfl⟩;rw[hR] at CW HX;clear hR
     go_wp2_with fail
     refine CW.mono ?_;rintro e4 w4 ⟨⟨u,rfl,hu⟩,hb4⟩;clear CW n0 n1 n2 n3 n4 n5 n6;obtain⟨S1,ns,sc,D1,N,dc,rfl,hs1,hd1,hsc,hdc,hNle,h5⟩:=H.addTen hb4 hu;have h6:=h5.allocBox w4.heap.size 84 [.slice S1 ns sc,.slice D1 N dc] rfl;clear hu hb4 h5 hd1 hs1
     go_upto_region 16 with fail
     generalize w4.alloc (.cells #[.slice S1 ns sc,.slice D1 N dc] 84)=w5 at *;generalize w4.heap.size=gt at *;replace H:=Hd h6;clear h6;by_cases hE:E=0
     ·have dE:(E != 0)=false:=by simpa using hE
      have HX2:=Hd (HX.trans (iP hE));clear hE HX;have b0:=H.c 0 0;go_wp2;go_ret2;rw[HX2.out];exact⟨⟨_,_,rfl,H.ownS 1 rfl⟩,H.base⟩
     ·have dE:(E != 0)=true:=by simpa using hE
      have HX2:=Hd (HX.trans (iN hE));clear hE HX;go_wp2;go_ret2;rw[HX2.out];exact⟨⟨_,0,rfl,OwnS.nil_ _ _ _⟩,H.base⟩
end Go.Proofs.YtajhdeddgdhccaaGreatDoor
