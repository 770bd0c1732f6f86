import Derived.Maps.AppendAt
import Derived.Test.YtnnmplkgenhofaaGreatPad
import Derived.Test.YtnnmplkgenhofaaGreatPaf
import Derived.Test.YtnnmplkgenhofaaGreatPak
import Derived.Test.YtnnmplkgenhofaaGreatPan
import Derived.Test.YtnnmplkgenhofaaGreatPay
set_option maxRecDepth 100000
set_option maxHeartbeats 12800000
namespace Go.Proofs.YtnnmplkgenhofaaGreat
open Go.RowKit
theorem infoTen:(Tryz.prog.info? 71).map (fun i=>(i.zero,i.size,i.bytes))=some (some (.agg #[.slice none 0 0,.slice none 0 0]),2,48):=by kernel_rfl
theorem infoTen_parts:∃ i,Tryz.prog.info? 71=some i∧i.zero=some (.agg #[.slice none 0 0,.slice none 0 0])∧i.size=2∧i.bytes=48:=by
 have h:=infoTen
 cases e:Tryz.prog.info? 71 with
 | none=>rw[e] at h;cases h
 | some i =>
  rw[e] at h;simp only[Option.map_some,Option.some.injEq,Prod.mk.injEq] at h;exact⟨i,rfl,h.1,h.2.1,h.2.2⟩
theorem wpList_append_ten {w0 w:World} {ops:Array Oper} {rest:List Oper} {o:Oper} {a:Act} {Q:Exit→Act→World→Prop} (hgd:o.guard=none) (s y:Operand) (t:TypeId)
  (ho:o.op=.call { callee:=.builtin .append,args:=#[s,y],argTypes:=#[t,t] }) (ht:Tryz.prog.underlying t=some (.slice 71))
  {l:List Chunk} (H:Sep w0 w l) (i:Nat) {v:Value} {n:Nat} {us:List Value} (hi:l[i]? = some (.row 71 2 v n us)) (hs:a.eval s=v) {S D:Option Addr} {sn sc dn dc:Nat} (c:Nat) (hy:a.eval y=.slice (some ⟨w.heap.size,0,none⟩) 1 c)
  (hn:n≤1000)
  (h:∀ v' w', Sep w0 w' (l.set i (.row 71 2 v' (n+1) (us++[.slice S sn sc,.slice D dn dc])))→wpList Tryz.prog ops Q rest (a.put o.dst v') w') :
  wpList Tryz.prog ops Q (o::rest) a (w.alloc (.cells #[.slice S sn sc,.slice D dn dc] 71)):=by
 obtain⟨ti,h1,h2,h3,h4⟩:=infoTen_parts;have H' := H.below ((Below.refl w.heap.size w).alloc (Nat.le_refl _) (.cells #[.slice S sn sc,.slice D dn dc] 71));have hsz:=H'.size;refine wpList_append_own_at _ hgd s y t ho w0.heap.size 71 ti _ 2 48 ht h1 h2 h3 h4 (by rfl) (by omega) v n us hs (H'.at_ i hi) ⟨w.heap.size,0,none⟩ 1 c [.slice S sn sc,.slice D dn dc] hy rfl ?_ (by simp[Value.oneCell']) (by unfold maxLen;omega) (by omega) hsz ?_
 ·intro j u hj;have hb:=heap_alloc_new w (.cells #[.slice S sn sc,.slice D dn dc] 71)
  match j,hj with
  | 0,hj=>simp at hj;subst hj;exact cell_of_row _ _ 0 _ _ _ hb
  | 1,hj=>simp at hj;subst hj;exact cell_of_row _ _ 1 _ _ _ hb
  | j+2,hj=>simp at hj
 ·intro v' w' h5 h6 _ h8
  exact h v' w' (H'.change i hi h6 h5 fun b hb=>by
   have hb:v'.ownBlock=some b:=hb;rcases h8 with e|e
   ·exact .inl (e.symm.trans hb)
   ·rw[e] at hb;injection hb with hb;subst hb;exact .inr (Nat.le_refl _))
def Pool (us:List Value) (L:TL) (pool:List Chunk):Prop:=us.length=L.length*2∧∀(j:Nat) (t:List Int × List Int),L[j]? = some t→∃(S:Option Addr) (sn sc:Nat) (D:Option Addr) (dn dc p q:Nat),us[j*2]? = some (.slice S sn sc)∧us[j*2+1]? = some (.slice D dn dc)∧pool[p]? = some (Chunk.own 3 (.slice S sn sc) sn t.1)∧pool[q]? = some (Chunk.own 2 (.slice D dn dc) dn t.2)
theorem addr0 (g j:Nat):(⟨g,0,none⟩:Addr).add j=⟨g,j,none⟩:=by
 by_cases h:j=0
 ·subst h;rfl
 ·simp[Addr.add,h]
theorem pool_nil:Pool [] [] []:=⟨rfl,fun j t h=>by simp at h⟩
theorem Pool.more {us:List Value} {L:TL} {pool:List Chunk} {S D:Option Addr} {sn sc dn dc:Nat} {t:List Int × List Int} (h:Pool us L pool) :
  Pool (us++[.slice S sn sc,.slice D dn dc]) (L++[t]) (Chunk.own 3 (.slice S sn sc) sn t.1::Chunk.own 2 (.slice D dn dc) dn t.2::pool):=by
 obtain⟨hl,h⟩:=h;refine⟨by simp[hl];omega,fun j u hu=>?_⟩;rcases Nat.lt_or_ge j L.length with hj|hj
 ·rw[List.getElem?_append_left hj] at hu;obtain⟨S', sn', sc', D', dn', dc', p,q,h1,h2,h3,h4⟩:=h j u hu;exact⟨S', sn', sc', D', dn', dc', p+2,q+2,by rw[List.getElem?_append_left (by omega)];exact h1,by rw[List.getElem?_append_left (by omega)];exact h2,h3,h4⟩
 ·rw[List.getElem?_append_right hj] at hu
  have hj' : j=L.length:=by
   rcases Nat.eq_or_lt_of_le hj with e|e
   ·exact e.symm
   ·obtain⟨m,hm⟩:∃ m,j-L.length=m+1:=⟨j-L.length-1,by omega⟩;rw[hm] at hu;simp at hu
  subst hj';simp at hu;subst hu;exact⟨S,sn,sc,D,dn,dc,0,1,by rw[List.getElem?_append_right (by omega),hl];simp,by rw[List.getElem?_append_right (by omega),hl];simp,rfl,rfl⟩
theorem pool_tens {w0 w:World} {l:List Chunk} {g n c:Nat} {us:List Value} {L:TL} {pool:List Chunk} (h:Sep w0 w (.row 71 2 (.slice (some ⟨g,0,none⟩) n c) n us::l)) (hP:Pool us L pool) (hn:L.length=n) (hn2:n≤1000) (f:Nat) (hf:∀ i,l[i+f]? = pool[i]?) :
  Tens w (some ⟨g,0,none⟩) n L:=by
 have hrow:w.ownsRow w0.heap.size 71 2 (.slice (some ⟨g,0,none⟩) n c) n us:=h.at_ 0 rfl;obtain⟨hl,hP⟩:=hP;refine⟨hn,by omega,fun j t ht=>?_⟩;have hj:j<L.length:=(List.getElem?_eq_some_iff.1 ht).1;obtain⟨S,sn,sc,D,dn,dc,p,q,h1,h2,h3,h4⟩:=hP j t ht;have hlt:=(World.ownsRow.lt hrow g rfl).2;have hp:=h.ownInts (p+f+1) ((hf p).trans h3);have hq:=h.ownInts (q+f+1) ((hf q).trans h4);refine⟨⟨g,0,none⟩,S,sn,sc,D,dn,dc,rfl,hlt,?_,?_,ten_mk hp.2.2 hp.2.1 hq.2.2 hq.2.1⟩
 ·rw[addr0];rw[hrow.cellAt (j*2) (by omega),h1]
 ·rw[addr0];rw[hrow.cellAt (j*2+1) (by omega),h2]
def zeros (s:List Int):List Int × List Int:=(s,List.replicate (Sh.size s).toNat 0)
theorem zeros_right {s:List Int} (h:Sh.right s=true):tenRight (zeros s).1 (zeros s).2=true:=by
 have:=Sh.size_bd s;simp only[zeros,tenRight,h,Bool.true_and,List.length_replicate,decide_eq_true_eq];omega
noncomputable def shapeR (nd:NodeV) (L:List (List Int)):Int × List Int :=
 if formF nd L.length=true then
  (if L.all Sh.right=true then
   (if nd.op=1 then(if Sh.right nd.shape=true then(0,nd.shape) else(13,[]))
   else if (workR nd (L.map zeros)).1=0 then(0,(workR nd (L.map zeros)).2.1) else((workR nd (L.map zeros)).1,[]))
  else(13,[]))
 else(1,[])
theorem shapeR_form {nd:NodeV} {L:List (List Int)} (h:formF nd L.length=false):shapeR nd L=(1,[]):=by rw[shapeR,h];rfl
theorem shapeR_bad {nd:NodeV} {L:List (List Int)} (h:formF nd L.length=true) {j:Nat} {s:List Int} (hs:L[j]? = some s) (hr:Sh.right s=false):shapeR nd L=(13,[]):=by
 have:L.all Sh.right=false:=by
  rw[List.all_eq_false];exact⟨s,List.mem_of_getElem? hs,by rw[hr];simp⟩
 rw[shapeR,if_pos h,this];rfl
theorem shapeR_param {nd:NodeV} {L:List (List Int)} (h:formF nd L.length=true) (ha:L.all Sh.right=true) (ho:nd.op=1):shapeR nd L=if Sh.right nd.shape=true then(0,nd.shape) else(13,[]):=by
 rw[shapeR,if_pos h,if_pos ha,if_pos ho]
theorem shapeR_work {nd:NodeV} {L:List (List Int)} (h:formF nd L.length=true) (ha:L.all Sh.right=true) (ho:¬ nd.op=1):shapeR nd L=if (workR nd (L.map zeros)).1=0 then(0,(workR nd (L.map zeros)).2.1) else((workR nd (L.map zeros)).1,[]):=by
 rw[shapeR,if_pos h,if_pos ha,if_neg ho]
theorem all_take {L:List (List Int)} (h:∀(i:Nat) (s:List Int),L[i]? = some s→i<L.length→Sh.right s=true):L.all Sh.right=true:=by
 rw[List.all_eq_true];intro s hs;obtain⟨i,hi,e⟩:=List.getElem_of_mem hs;exact h i s (by rw[List.getElem?_eq_getElem hi,e]) hi
theorem pool_tensG {w0 w:World} {l:List Chunk} {v:Value} {n:Nat} {us:List Value} {L:TL} {pool:List Chunk} (h:Sep w0 w (.row 71 2 v n us::l)) (hP:Pool us L pool) (hn:L.length=n) (hn2:n≤1000) (f:Nat) (hf:∀ i,l[i+f]? = pool[i]?) :
  ∃ A c,v=.slice A n c∧Tens w A n L:=by
 rcases Nat.eq_zero_or_pos n with e|e
 ·subst e;have hr:w.ownsRow w0.heap.size 71 2 v 0 us:=h.at_ 0 rfl;have hT:∀ A,Tens w A 0 L:=fun A=>⟨hn,by omega,fun j t ht=>by rw[List.eq_nil_of_length_eq_zero hn] at ht;simp at ht⟩
  rcases hr.2 with ⟨hv,_⟩|⟨g,cap,cur,hv,_⟩
  ·exact⟨none,0,hv,hT _⟩
  ·exact⟨_,cap,hv,hT _⟩
 ·obtain⟨g,c,rfl,_⟩:=h.rowForm 0 rfl e;exact⟨_,c,rfl,pool_tens h hP hn hn2 f hf⟩
theorem ref10Shape_any {w:World} {v:Value} {nd:NodeV} {Al:Option Addr} {nl cl:Nat} {L:List (List Int)} (h:NodeIs w v nd) (hLi:Lils w Al nl L) :
  Calls Tryz.prog 13 #[v,.slice Al nl cl] w fun e w' => (∃ v m,e=.returned (.tuple #[v,.int .i64 (shapeR nd L).1])∧OwnS w' w.heap.size 3 v m (shapeR nd L).2)∧Below w.heap.size w w' := by
 have HN:=h;obtain⟨A,na,ca,B,nb,cb,C,nc,cc,rfl,hL⟩:=h;replace HN:=Hd HN;have hll:=hLi.1;have hln:=hLi.2.1;have hBI:=hL.inB;have hib:=hL.ib;have h1:=((Sep.nil w).old hBI).allocBox w.heap.size 34 [.int .i64 nd.op,.slice A na ca,.slice B nb cb,.slice C nc cc,.int .i64 nd.n,.int .i64 nd.how,.string nd.note] rfl;have hbl:=hBI.le;have HBL:=Hd hBI.len;have HLL:=Hd hll;have HLI:=Hd hLi;clear hBI hL hLi hll
 go_enter Tryz.func13,Tryz.ntmps13
 go_upto_region 1 with fail
 generalize w.alloc (.cells #[.int .i64 nd.op,.slice A na ca,.slice B nb cb,.slice C nc cc,.int .i64 nd.n,.int .i64 nd.how,.string nd.note] 34)=W at *;have H:=Hd h1;clear h1;obtain⟨n0,n1,n2,n3,n4,n5,n6⟩:=H.out.cells7 0 rfl;have C1:=ref10Form_any (nl:Int) (HN.out.below H.out.base)
 cases hf:formF nd nl with
 | false =>
  rw[hf] at C1;have HX:=Hd (shapeR_form (nd:=nd) (L:=L) (by rw[HLL.out];exact hf))
  go_wp2_with fail
  refine C1.mono ?_;rintro e2 w2 ⟨rfl,hb⟩;replace H:=Hd (H.out.below hb);clear C1 hf hb n0 n1 n2 n3 n4 n5 n6;go_wp2;go_ret2;rw[HX.out]
  exact⟨⟨_,0,rfl,OwnS.nil_ _ _ _⟩,H.out.base⟩
 | true =>
  rw[hf] at C1;have HF:=Hd (show formF nd L.length=true by rw[HLL.out];exact hf)
  go_wp2_with fail
  refine C1.mono ?_;rintro e2 w2 ⟨rfl,hb⟩;replace H:=Hd (H.out.below hb);clear C1 hf hb n0 n1 n2 n3 n4 n5 n6;have h2:=H.out.addRowNil 71 2;replace H:=Hd h2;clear h2
  go_wp2_with fail
  go_loopw [17,6] (fun iv lv wr=>∃(j:Nat) (us:List Value) (pool:List Chunk) (lx:Value),lx=lv∧iv=.int .i64 j∧j≤nl∧(∀(i:Nat) (s:List Int),L[i]? = some s→i<j→Sh.right s=true)∧Pool us ((L.take j).map zeros) pool∧Sep w wr (.row 71 2 lx j us::.box w.heap.size 34 [.int .i64 nd.op,.slice A na ca,.slice B nb cb,.slice C nc cc,.int .i64 nd.n,.int .i64 nd.how,.string nd.note]::.ints B nb nd.shape::pool)) (fun iv _ _=>nl-(intOf iv).toNat)
  case atStart=>exact⟨0,[],[],_,rfl,rfl,by omega,by omega,pool_nil,H.out⟩
  case round =>
   clear H;obtain⟨j,us,pool,lx,rfl,rfl,hj,hAll,hP,hS⟩:=hrel;have H:=Hd hS;have HP:=Hd hP;have HA:=Hd hAll;clear hS hP hAll;by_cases hlt:j<nl
   ·obtain⟨s,hs⟩:∃ s,L[j]? = some s:=⟨_,List.getElem?_eq_getElem (by have:=HLL.out;omega)⟩;obtain⟨la,Bs,ms,cs,hla,hlb,hcl,hmc,hI⟩:=HLI.out.2.2 j s hs;subst hla;have hcj:=H.out.oldCell (p:=la.add j) (blk_add hlb) hcl;have hIs:=H.out.oldI hI;have HI:=Hd hI;have HSJ:=Hd hs;clear hI hcl hs;have CR:=refRight_any (c:=cs) hIs;clear hIs
    cases hr:Sh.right s with
    | false =>
     rw[hr] at CR;have HX:=Hd (shapeR_bad HF.out HSJ.out hr)
     go_wp2_with fail
     refine CR.mono ?_;rintro e3 w3 ⟨rfl,rfl⟩;clear CR hr;go_wp2;go_ret2;rw[HX.out]
     exact⟨⟨_,0,rfl,OwnS.nil_ _ _ _⟩,H.out.base⟩
    | true =>
     rw[hr] at CR;have HR:=Hd hr
     go_wp2_with fail
     refine CR.mono ?_;rintro e3 w3 ⟨rfl,rfl⟩;clear CR hr;obtain⟨w9,rfl⟩:∃ w9:World,w9=wr:=⟨_,rfl⟩
     go_wp2_with fail
     refine(refFill_any 0 (H.out.oldI HI.out) (by have:=(Sh.right_iff.1 HR.out).1;have:=HI.out.len;omega) ⟨by omega,by omega⟩).mono ?_;rintro e4 w4 ⟨⟨u,rfl,hu⟩,hb4⟩;obtain⟨S8,n8,k8,D8,m8,j8,rfl,hs1,hd1,hsc,hdc,hNle,h5⟩:=H.out.addTen hb4 hu;have H5:=Hd h5;clear hu hb4 h5 hs1 hd1 hcj
     go_wp2_with (at_builtin;refine wpList_append_ten rfl (.tmp 26) (.tmp 32) 67 rfl Tryz.underlying67 H5.out 2 rfl rfl _ rfl ?c1 ?_)
     case c1=>omega
     intro v9 w9 h9;have h10:=Sep.perm h9 (l' := [.row 71 2 v9 (j+1) (us++[.slice S8 n8 k8,.slice D8 m8 j8]),.box w.heap.size 34 [.int .i64 nd.op,.slice A na ca,.slice B nb cb,.slice C nc cc,.int .i64 nd.n,.int .i64 nd.how,.string nd.note],.ints B nb nd.shape]++([Chunk.own 3 (.slice S8 n8 k8) n8 s,Chunk.own 2 (.slice D8 m8 j8) m8 (List.replicate (Sh.size s).toNat 0)]++pool)) (by rw[← List.append_assoc];exact(List.perm_append_comm (l₁ := [Chunk.own 3 (.slice S8 n8 k8) n8 s,Chunk.own 2 (.slice D8 m8 j8) m8 (List.replicate (Sh.size s).toNat 0)]) (l₂ := [_,_,_])).append_right pool);have H10:=Hd h10;clear h9 h10 H5;go_wp2;go_roundw
     case rel=>exact⟨j+1,us++[Value.slice S8 n8 k8,Value.slice D8 m8 j8],Chunk.own 3 (.slice S8 n8 k8) n8 s::Chunk.own 2 (.slice D8 m8 j8) m8 (List.replicate (Sh.size s).toNat 0)::pool,_,rfl,by go_num,by omega,(fun i s2 hi hi2=>by
      rcases Nat.lt_or_ge i j with hij|hij
      ·exact HA.out i s2 hi hij
      ·obtain rfl:i=j:=by omega
       obtain rfl:s2=s:=by have:=HSJ.out;rw[hi] at this;injection this
       exact HR.out),by rw[List.take_add_one,HSJ.out,List.map_append];exact HP.out.more (t:=zeros s),H10.out⟩
     case measure=>simp[intOf];omega
   ·obtain rfl:j=nl:=by omega
    have HALL:=Hd (show L.all Sh.right=true from all_take fun i s hi hi2=>HA.out i s hi (by have:=HLL.out;omega));have HPF:=Hd (show Pool us (L.map zeros) pool by have h7:=HP.out;rwa [List.take_of_length_le (by have:=HLL.out;omega)] at h7);obtain⟨n0,n1,n2,n3,n4,n5,n6⟩:=H.out.cells7 1 rfl;by_cases ho:nd.op=1
    ·have HX:=Hd (shapeR_param HF.out HALL.out ho);have dop:(nd.op==1)=true:=by simpa using ho
     have CR:=refRight_any (c:=cb) (H.out.oldInts 2 rfl)
     cases hr:Sh.right nd.shape with
     | false =>
      rw[hr] at CR HX;clear ho hr
      go_wp2_with fail
      refine CR.mono ?_;rintro e3 w3 ⟨rfl,rfl⟩;clear CR n0 n1 n2 n3 n4 n5 n6;go_wp2;go_ret2;rw[HX.out]
      exact⟨⟨_,0,rfl,OwnS.nil_ _ _ _⟩,H.out.base⟩
     | true =>
      have hbn:nb≤17592186044000:=by have:=(Sh.right_iff.1 hr).1;have:=HBL.out;omega
      rw[hr] at CR HX;clear ho hr
      go_wp2_with fail
      refine CR.mono ?_;rintro e3 w3 ⟨rfl,rfl⟩;clear CR;have HE:=Hd (H.out.empty 3);have m2:=HE.out.cell 2 2 rfl rfl
      go_wp2_with (at_builtin;refine wpList_appends_sep rfl (.tmp 42) (.tmp 44) 22 3 rfl Tryz.underlying22 Tryz.infoInt HE.out 0 rfl rfl B nb cb nd.shape rfl (HE.out.oldInts 3 rfl) ?c1 ?_)
      case c1=>omega
      intro v9 w9 h9;have H9:=Hd h9;clear h9 HE m2 n0 n1 n2 n3 n4 n5 n6;go_wp2;go_ret2;rw[HX.out];exact⟨⟨_,_,rfl,H9.out.ownS 0 rfl⟩,H9.out.base⟩
    ·have HX:=Hd (shapeR_work HF.out HALL.out ho);have dop:(nd.op==1)=false:=by simpa using ho
     obtain⟨At,ct,rfl,hTens⟩:=pool_tensG H.out HPF.out (by rw[List.length_map];exact HLL.out) (by omega) 2 (fun i=>rfl)
     have CW:=ref10Work_any (ct:=ct) (HN.out.below H.out.base) hTens (by rw[List.length_map];exact HF.out) ho (fun t ht=>by
      obtain⟨s,hs,rfl⟩:=List.mem_map.1 ht
      exact zeros_right (List.all_eq_true.1 HALL.out s hs))
     clear ho hTens;obtain⟨⟨E,S,D⟩,hR⟩:∃ r,workR nd (L.map zeros)=r:=⟨_,rfl⟩;rw[hR] at CW HX;clear hR
     go_wp2_with fail
     refine CW.mono ?_;rintro e4 w4 ⟨⟨u,rfl,hu⟩,hb4⟩;clear CW n0 n1 n2 n3 n4 n5 n6;obtain⟨S1,ns,sc,D1,N,dc,rfl,hs1,hd1,hsc,hdc,hNle,h5⟩:=H.out.addTen hb4 hu;have h6:=h5.allocBox w4.heap.size 71 [.slice S1 ns sc,.slice D1 N dc] rfl;clear hu hb4 h5 hd1 hs1
     go_upto_region 16 with fail
     generalize w4.alloc (.cells #[.slice S1 ns sc,.slice D1 N dc] 71)=w5 at *;generalize w4.heap.size=gt at *;replace H:=Hd h6;clear h6;by_cases hE:E=0
     ·have dE:(E != 0)=false:=by simpa using hE
      have HX2:=Hd (HX.out.trans (if_pos hE));clear hE HX;have b0:=H.out.cell 0 0 rfl rfl;go_wp2;go_ret2;rw[HX2.out];exact⟨⟨_,_,rfl,H.out.ownS 1 rfl⟩,H.out.base⟩
     ·have dE:(E != 0)=true:=by simpa using hE
      have HX2:=Hd (HX.out.trans (if_neg hE));clear hE HX;go_wp2;go_ret2;rw[HX2.out];exact⟨⟨_,0,rfl,OwnS.nil_ _ _ _⟩,H.out.base⟩
def kOp3 (xs:List Int) (b q:Nat) (s:List Int) (L:List (List Int)):NodeV × Nat :=
 (ndV 12 [(q:Int),(kSame 0 L s).getD (tv xs b (kSame 0 L s).length).toNat 0,(kSame 0 L s).getD (tv xs (ta xs b (kSame 0 L s).length) (kSame 0 L s).length).toNat 0] [] [] 0 0,ta xs (ta xs b (kSame 0 L s).length) (kSame 0 L s).length)
def kAx (k:Nat):Nat→Nat→List Int
 | 0,_=>[]
 | m+1,j=>if j=k then kAx k m (j+1) else(j:Int)::kAx k m (j+1)
def kOp5 (xs:List Int) (b q:Nat) (s:List Int):NodeV × Nat :=
 if 2<s.length then(ndV 4 [(q:Int)] [] [] 0 0,b)
 else(ndV 14 [(q:Int)] (s.take (tv xs b (s.length+1)).toNat++[1+tv xs (ta xs b (s.length+1)) 4]++s.drop (tv xs b (s.length+1)).toNat) (kAx (tv xs b (s.length+1)).toNat (s.length+1) 0) 0 0,ta xs (ta xs b (s.length+1)) 4)
theorem node_op3 {w0 w:World} {l:List Chunk} {i g:Nat} {A:Option Addr} {n c a:Nat} {xs:List Int} {Al:Option Addr} {nl cl:Nat} {L:List (List Int)} (q b:Nat) {s:List Int} (h5:¬ tv xs a 5=0) (hq:tv xs (ta xs a 5) nl=q) (hs:L[q]? = some s) (hb:ta xs (ta xs (ta xs a 5) nl) 12=b) (hk:tv xs (ta xs (ta xs a 5) nl) 12=3) (H:Sep w0 w l) (hi:l[i]? = some (TB g A n c a)) (hI:Ints w0 A n xs) (ha:a≤n) (hL:LilsK w0 l i g A n c Al nl L) :
  Calls Tryz.prog 12 #[.pointer (some ⟨g,0,none⟩),.slice Al nl cl] w (NodePost w0 l i g A n c (kOp3 xs b q s L)):=by
 obtain⟨KS,hKS⟩:∃ q0,kOp3 xs b q s L=q0:=⟨_,rfl⟩;rw[hKS];have HKS:=Hd hKS;clear hKS;have HXL:=Hd hI.len;have HI:=Hd hI;have hnle:=hI.le;have hll:=hL.1;have hln:=hL.2.1;have HLL:=Hd hll;have HLK:=Hd hL;have HK:Hid (KT l i (TB g A n c a) l):=Hd ⟨hi,fun _=>rfl⟩;clear hll;have h1:=(((H.allocBox w.heap.size 34 [.int .i64 0,.slice none 0 0,.slice none 0 0,.slice none 0 0,.int .i64 0,.int .i64 0,.string ⟨#[]⟩] rfl).addNil 3).addNil 3).addNil 3
 go_enter Tryz.func12,Tryz.ntmps12
 go_upto_region 1 with fail
 generalize w.alloc (.cells #[.int .i64 0,.slice none 0 0,.slice none 0 0,.slice none 0 0,.int .i64 0,.int .i64 0,.string ⟨#[]⟩] 34)=W at *;generalize w.heap.size=gr at *;clear H hi hI hL;have H:Hid (Sep w0 W ([oN,oN,oN,.box gr 34 [.int .i64 0,.slice none 0 0,.slice none 0 0,.slice none 0 0,.int .i64 0,.int .i64 0,.string ⟨#[]⟩]]++l)):=Hd h1;clear h1;have hnl:0<nl:=by have h8:L.length=nl:=HLL.out;have:=(List.getElem?_eq_some_iff.1 hs).1;omega
 have dn:((nl:Int)==0)=false:=by simp;omega
 have HQ0:=Hd hq;have HB0:=Hd hb;have HK0:=Hd hk;have HS0:=Hd hs;have h5n:=Hd h5;clear hq hb hk hs h5
 go_wp2_with fail
 refine(next_s (5) H.out HK.out HI.out ha ⟨by omega,by omega⟩).mono ?_;rintro e1 w1 ⟨rfl,l1,hK,hS⟩;have b0:=tv_nonneg xs a (5);have b1:=tv_lt xs a (show(0:Int)<5 by omega);obtain⟨r1,hr⟩:∃ q,tv xs a (5)=q:=⟨_,rfl⟩;rw[hr] at b0 b1 ⊢;obtain⟨r1,rfl⟩:=Int.eq_ofNat_of_zero_le b0;have HR1:=Hd hr;have br1:(r1:Int)<5:=b1;clear b1;obtain⟨a1,ha1⟩:∃ q,ta xs a (5)=q:=⟨_,rfl⟩;have ba1:=ta_le (5) HXL.out ha;rw[ha1] at ba1 hK;have HA1:=Hd ha1;replace HK:=Hd hK;replace H:Hid (Sep w0 w1 ([oN,oN,oN,.box gr 34 [.int .i64 0,.slice none 0 0,.slice none 0 0,.slice none 0 0,.int .i64 0,.int .i64 0,.string ⟨#[]⟩]]++l1)):=Hd hS;clear hr ha1 hK hS b0;have d5:((r1:Int)==0)=false:=by have h8:=HR1.out;have h9:=h5n.out;rw[h8] at h9;simpa using h9
 go_wp2_with fail
 refine(next_s ((nl:Int)) H.out HK.out HI.out ba1 ⟨by omega,by omega⟩).mono ?_;rintro e2 w2 ⟨rfl,l2,hK,hS⟩;have b0:=tv_nonneg xs a1 ((nl:Int));have b1:=tv_lt xs a1 (show(0:Int)<(nl:Int) by omega);obtain⟨r2,hr⟩:∃ q,tv xs a1 ((nl:Int))=q:=⟨_,rfl⟩;rw[hr] at b0 b1 ⊢;obtain⟨r2,rfl⟩:=Int.eq_ofNat_of_zero_le b0;have HR2:=Hd hr;have br2:(r2:Int)<(nl:Int):=b1;clear b1;obtain⟨a2,ha2⟩:∃ q,ta xs a1 ((nl:Int))=q:=⟨_,rfl⟩;have ba2:=ta_le ((nl:Int)) HXL.out ba1;rw[ha2] at ba2 hK;have HA2:=Hd ha2;replace HK:=Hd hK;replace H:Hid (Sep w0 w2 ([oN,oN,oN,.box gr 34 [.int .i64 0,.slice none 0 0,.slice none 0 0,.slice none 0 0,.int .i64 0,.int .i64 0,.string ⟨#[]⟩]]++l2)):=Hd hS;clear hr ha2 hK hS b0;obtain rfl:r2=q:=by have h8:=HR2.out;have h9:=HQ0.out;rw[HA1.out,h8] at h9;omega
 obtain⟨la,Bs,ms,cap,hAl,hmc,hst⟩:=HLK.out.2.2 r2 s HS0.out;subst hAl;have HST:=Hd hst;obtain⟨hlb,hcl,hIs⟩:=hst w2 a2 l2 HK.out H.out.rest_;have HSL:=Hd hIs.len;have hmsl:=hIs.le;have hr2:r2<nl:=by omega
 clear hst hIs hlb
 go_wp2_with fail
 clear hcl;refine(next_s (12) H.out HK.out HI.out ba2 ⟨by omega,by omega⟩).mono ?_;rintro e3 w3 ⟨rfl,l3,hK,hS⟩;have b0:=tv_nonneg xs a2 (12);have b1:=tv_lt xs a2 (show(0:Int)<12 by omega);obtain⟨r3,hr⟩:∃ q,tv xs a2 (12)=q:=⟨_,rfl⟩;rw[hr] at b0 b1 ⊢;obtain⟨r3,rfl⟩:=Int.eq_ofNat_of_zero_le b0;have HR3:=Hd hr;have br3:(r3:Int)<12:=b1;clear b1;obtain⟨a3,ha3⟩:∃ q,ta xs a2 (12)=q:=⟨_,rfl⟩;have ba3:=ta_le (12) HXL.out ba2;rw[ha3] at ba3 hK;have HA3:=Hd ha3;replace HK:=Hd hK;replace H:Hid (Sep w0 w3 ([oN,oN,oN,.box gr 34 [.int .i64 0,.slice none 0 0,.slice none 0 0,.slice none 0 0,.int .i64 0,.int .i64 0,.string ⟨#[]⟩]]++l3)):=Hd hS;clear hr ha3 hK hS b0;obtain rfl:r3=3:=by have h8:=HR3.out;have h9:=HK0.out;rw[HA1.out,HA2.out,h8] at h9;omega
 obtain rfl:a3=b:=by have h8:=HA3.out;have h9:=HB0.out;rw[HA1.out,HA2.out,h8] at h9;exact h9
 clear HR1 HR2 HR3 HQ0 HB0 HK0 h5n d5 dn
 go_wp2_with fail
 refine(same_k (c:=cap) (HLK.out.lils HK.out H.out.rest_) (HST.out _ _ _ HK.out H.out.rest_).2.2).mono ?_;rintro e9 w9 ⟨⟨v9,m9,rfl,hO⟩,hb9⟩;have HPOS:=Hd (kSame_pos (k:=0) HS0.out);have HML:=Hd hO.len;have hm9:0<m9:=by have h8:=HML.out;have h9:=HPOS.out;omega
 obtain⟨gl,cl9,hv,_⟩:=hO.own hm9;subst hv;have hm900:m9≤900:=by have h8:=HML.out;have h9:=kSame_len s L 0;have h10:L.length=nl:=HLL.out;omega
 obtain⟨LS,hLS⟩:∃ q,kSame 0 L s=q:=⟨_,rfl⟩;rw[hLS] at hO;have HLS:=Hd hLS;have h9:=H.out.addOwn hb9 hO;replace H:Hid (Sep w0 w9 ([.own 3 (.slice (some ⟨gl,0,none⟩) m9 cl9) m9 LS,oN,oN,oN,.box gr 34 [.int .i64 0,.slice none 0 0,.slice none 0 0,.slice none 0 0,.int .i64 0,.int .i64 0,.string ⟨#[]⟩]]++l3)):=Hd h9;have HMS:Hid (LS.length=m9):=Hd (by rw[← hLS];exact HML.out);clear hO hb9 h9 hLS HML HPOS;have b0:=tv_nonneg xs a3 ((m9:Int));have b1:=tv_lt xs a3 (show(0:Int)<(m9:Int) by omega);obtain⟨r4,hr⟩:∃ z,tv xs a3 ((m9:Int))=z:=⟨_,rfl⟩;rw[hr] at b0 b1;obtain⟨r4,rfl⟩:=Int.eq_ofNat_of_zero_le b0;have HR4:=Hd hr;have br4:(r4:Int)<(m9:Int):=b1;obtain⟨a4,ha4⟩:∃ z,ta xs a3 ((m9:Int))=z:=⟨_,rfl⟩;have HA4:=Hd ha4;clear hr ha4 b0 b1;have ba4:a4≤n:=by rw[← HA4.out];exact ta_le _ HXL.out ba3
 have b0:=tv_nonneg xs a4 ((m9:Int));have b1:=tv_lt xs a4 (show(0:Int)<(m9:Int) by omega);obtain⟨r5,hr⟩:∃ z,tv xs a4 ((m9:Int))=z:=⟨_,rfl⟩;rw[hr] at b0 b1;obtain⟨r5,rfl⟩:=Int.eq_ofNat_of_zero_le b0;have HR5:=Hd hr;have br5:(r5:Int)<(m9:Int):=b1;obtain⟨a5,ha5⟩:∃ z,ta xs a4 ((m9:Int))=z:=⟨_,rfl⟩;have HA5:=Hd ha5;clear hr ha5 b0 b1;have ba5:a5≤n:=by rw[← HA5.out];exact ta_le _ HXL.out ba4
 obtain⟨y4,hy⟩:∃ y,LS[r4]? = some y:=⟨_,List.getElem?_eq_getElem (by have h8:=HMS.out;omega)⟩;have HY4:=Hd hy;obtain⟨fy4,fz4⟩:=(H.out.own 0 rfl).2.1 y4 (List.mem_of_getElem? hy);have hn4:r4<m9:=by omega
 clear hy;obtain⟨y5,hy⟩:∃ y,LS[r5]? = some y:=⟨_,List.getElem?_eq_getElem (by have h8:=HMS.out;omega)⟩;have HY5:=Hd hy;obtain⟨fy5,fz5⟩:=(H.out.own 0 rfl).2.1 y5 (List.mem_of_getElem? hy);have hn5:r5<m9:=by omega
 clear hy
 go_upto_region 23 with fail
 have H0:=Hd H.out.drew;have c4:=(H0.out.own 0 rfl).cell HY4.out;have c5:=(H0.out.own 0 rfl).cell HY5.out;refine wp_region_held_drew (S:=(fun w' => w'.cell? ⟨gl,r4,none⟩=some (.int .i64 y4)∧w'.cell? ⟨gl,r5,none⟩=some (.int .i64 y5))) (by kernel_rfl) ?_ (fun hq_=>?_)
 ·exact⟨c4,c5⟩
 refine zW 0 hq_ ?_
 try simp only[pA]
 refine zW 1 hq_ ?_
 try simp only[pA]
 refine zW 2 hq_ ?_
 try simp only[pA]
 refine zW 3 hq_ ?_
 try simp only[pA]
 refine zW 4 hq_ ?_
 try simp only[pA]
 refine zW 8 hq_ ?_
 try simp only[pA]
 refine zW 9 hq_ ?_
 try simp only[pA]
 refine zW 10 hq_ ?_
 try simp only[pA]
 refine zW 11 hq_ ?_
 try simp only[pA]
 refine e1 5 fun K hK=>?_
 first|(refine effU ?_ ?_;(focus rfl))|(go_simp;(go_at_call 11;refine(next_s ((m9:Int)) H0.out HK.out HI.out ba3 ⟨by omega,by omega⟩).mono ?_;rintro e4 w4 ⟨rfl,l4,hK,hS⟩;rw[HR4.out];rw[HA4.out] at hK;have HK4:=Hd hK;have H4:Hid (Sep w0 w4 ([.own 3 (.slice (some ⟨gl,0,none⟩) m9 cl9) m9 LS,oN,oN,oN,.box gr 34 [.int .i64 0,.slice none 0 0,.slice none 0 0,.slice none 0 0,.int .i64 0,.int .i64 0,.string ⟨#[]⟩]]++l4)):=Hd hS;have d4:=(H4.out.own 0 rfl).cell HY4.out;have d5:=(H4.out.own 0 rfl).cell HY5.out;clear hK hS);go_wp2_with fail)
 refine zK hK ?_ ⟨d4,d5⟩;clear hK K hq_;intro hq_
 try simp only[pA]
 refine zW 6 hq_ ?_
 try simp only[pA]
 refine zW 7 hq_ ?_
 try simp only[pA]
 refine e1 12 fun K hK=>?_
 first|(refine effU ?_ ?_;(focus rfl))|(go_simp;(go_at_call 11;refine(next_s ((m9:Int)) H4.out HK4.out HI.out ba4 ⟨by omega,by omega⟩).mono ?_;rintro e5 w5 ⟨rfl,l5,hK,hS⟩;rw[HR5.out];rw[HA5.out] at hK;have HK5:=Hd hK;have H5:Hid (Sep w0 w5 ([.own 3 (.slice (some ⟨gl,0,none⟩) m9 cl9) m9 LS,oN,oN,oN,.box gr 34 [.int .i64 0,.slice none 0 0,.slice none 0 0,.slice none 0 0,.int .i64 0,.int .i64 0,.string ⟨#[]⟩]]++l5)):=Hd hS;have e4:=(H5.out.own 0 rfl).cell HY4.out;have e5:=(H5.out.own 0 rfl).cell HY5.out;clear hK hS);go_wp2_with fail)
 refine zK hK ?_ ⟨e4,e5⟩;clear hK K hq_;intro hq_
 try simp only[pA]
 refine zW 13 hq_ ?_
 try simp only[pA]
 refine zW 14 hq_ ?_
 try simp only[pA]
 refine e1 15 fun K hK=>?_
 go_simp
 try go_wp2_with fail
 refine zK hK ?_ ⟨alloc_keep _ e4,alloc_keep _ e5⟩;clear hK K hq_;intro hq_
 try simp only[pA]
 refine zW 16 hq_ ?_
 try simp only[pA]
 refine e1 17 fun K hK=>?_
 (have H6:Hid (Sep w0 (w5.alloc (.cells #[.int .i64 (r2:Int),.int .i64 y4,.int .i64 y5] 3)) ([.own 3 (.slice (some ⟨w5.heap.size,0,none⟩) 3 3) 3 [(r2:Int),y4,y5],.own 3 (.slice (some ⟨gl,0,none⟩) m9 cl9) m9 LS,oN,oN,oN,.box gr 34 [.int .i64 0,.slice none 0 0,.slice none 0 0,.slice none 0 0,.int .i64 0,.int .i64 0,.string ⟨#[]⟩]]++l5)):=Hd (H5.out.lit 3 #[.int .i64 (r2:Int),.int .i64 y4,.int .i64 y5] [(r2:Int),y4,y5] 3 _ rfl rfl (by simp[litOk];omega));obtain ⟨rc0,rc1,rc2,rc3,rc4,rc5,rc6⟩:=H6.out.cells7 5 rfl;obtain ⟨fr0,fr1,fr2,fr3,fr4,fr5,fr6⟩:=H6.out.f7 5 rfl;have HF:Hid (Sep w0 ((((((((w5.alloc (.cells #[.int .i64 (r2:Int),.int .i64 y4,.int .i64 y5] 3)).setCell ⟨gr,0,none⟩ (.int .i64 12)).setCell ⟨gr,1,none⟩ (.slice (some ⟨w5.heap.size,0,none⟩) 3 3)).setCell ⟨gr,2,none⟩ (.slice none 0 0)).setCell ⟨gr,3,none⟩ (.slice none 0 0)).setCell ⟨gr,4,none⟩ (.int .i64 0)).setCell ⟨gr,5,none⟩ (.int .i64 0)).setCell ⟨gr,6,none⟩ (.string ⟨#[]⟩)) ([.own 3 (.slice (some ⟨w5.heap.size,0,none⟩) 3 3) 3 [(r2:Int),y4,y5],.own 3 (.slice (some ⟨gl,0,none⟩) m9 cl9) m9 LS,oN,oN,oN,.box gr 34 [.int .i64 12,.slice (some ⟨w5.heap.size,0,none⟩) 3 3,.slice none 0 0,.slice none 0 0,.int .i64 0,.int .i64 0,.string ⟨#[]⟩]]++l5)):=Hd (((((((H6.out.setBox 5 0 (.int .i64 12) rfl).setBox 5 1 (.slice (some ⟨w5.heap.size,0,none⟩) 3 3) rfl).setBox 5 2 (.slice none 0 0) rfl).setBox 5 3 (.slice none 0 0) rfl).setBox 5 4 (.int .i64 0) rfl).setBox 5 5 (.int .i64 0) rfl).setBox 5 6 (.string ⟨#[]⟩) rfl);have f4:=(HF.out.own 1 rfl).cell HY4.out;have f5:=(HF.out.own 1 rfl).cell HY5.out;go_simp;try go_wp2_with fail)
 refine zK hK ?_ ⟨f4,f5⟩;clear hK K hq_;intro hq_
 try simp only[pA]
 refine wpAnyH_done (by kernel_rfl) ?_ _;have HX:=Hd (show KS=(ndV 12 [(r2:Int),y4,y5] [] [] 0 0,a5) by rw[← HKS.out,kOp3,HLS.out,HMS.out,HR4.out,HA4.out,HR5.out,HA5.out,Int.toNat_natCast,Int.toNat_natCast,List.getD_eq_getElem?_getD,List.getD_eq_getElem?_getD,HY4.out,HY5.out];rfl);go_wp2;refine ret_node (v0:=.int .i64 12) (v1:=.slice (some ⟨w5.heap.size,0,none⟩) 3 3) (v2:=.slice none 0 0) (v3:=.slice none 0 0) (v4:=.int .i64 0) (v5:=.int .i64 0) (v6:=.string ⟨#[]⟩) HF.out 5 rfl Tryz.results12 rfl rfl ?_;rw[HX.out];exact⟨_,_,_,_,_,_,rfl,_,HK5.out,Sep.pick (P:=[.own 3 (.slice (some ⟨w5.heap.size,0,none⟩) 3 3) 3 [(r2:Int),y4,y5],.own 3 (.slice (some ⟨gl,0,none⟩) m9 cl9) m9 LS,oN,oN,oN,.box gr 34 [.int .i64 12,.slice (some ⟨w5.heap.size,0,none⟩) 3 3,.slice none 0 0,.slice none 0 0,.int .i64 0,.int .i64 0,.string ⟨#[]⟩]]) HF.out [0,2,3] rfl (by decide)⟩
end Go.Proofs.YtnnmplkgenhofaaGreat
