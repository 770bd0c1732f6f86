import Derived.Great.BuildSlice
import Derived.Test.YtjblengklgkgfaaGreatPbw
import Derived.Test.YtjblengklgkgfaaGreatPby
set_option maxRecDepth 100000
set_option maxHeartbeats 12800000
namespace Go.Proofs.YtjblengklgkgfaaGreat
open Go.RowKit Go.Proofs.Tryz
variable {K:Act→World→Prop} {L M:TL} {Q:Exit→Act→World→Prop} {a:Act} {ad:Addr} {c c0 g k m n:Nat} {l:List a0c} {o:Oper} {ops:Array Oper} {t:TypeId} {us vs:List Value} {v:Value} {w w' w0:World}
def TenK (w:World) (us:List Value) (L:TL):Prop:=us.length=L.length*2∧∀(j:Nat) (t:List Int × List Int),L[j]?=some t→∃(S:Option Addr) (sn sc:Nat) (D:Option Addr) (dn dc:Nat),us[j*2]?=some (.slice S sn sc)∧us[j*2+1]?=some (.slice D dn dc)∧Ten w (.agg #[.slice S sn sc,.slice D dn dc]) t.1 t.2
theorem TenK.below (h:TenK w us L)(hb:Below w.heap.size w w'):TenK w' us L :=
 ⟨h.1,fun j t ht=>by
  obtain⟨S,sn,sc,D,dn,dc,h1,h2,h3⟩:=h.2 j t ht
  exact⟨S,sn,sc,D,dn,dc,h1,h2,h3.below hb⟩⟩
theorem a5w {S D:Option Addr}{sn sc dn dc:Nat}{s d:List Int}(h:Ten w (.agg #[.slice S sn sc,.slice D dn dc]) s d):TenK w [.slice S sn sc,.slice D dn dc] [(s,d)]:=by
 refine⟨rfl,fun j t ht=>?_⟩
 have hj:j=0:=by
  rcases Nat.eq_zero_or_pos j with e|e
  ·exact e
  ·rw[List.getElem?_eq_none (by simp;omega)] at ht;cases ht
 subst hj;injection ht with ht;subst ht
 exact⟨S,sn,sc,D,dn,dc,rfl,rfl,h⟩
theorem TenK.append (h:TenK w us L)(g:TenK w vs M):TenK w (us++vs) (L++M):=by
 refine⟨by rw[List.length_append,List.length_append,h.1,g.1,Nat.add_mul],fun j t ht=>?_⟩;have hl:=h.1;rcases Nat.lt_or_ge j L.length with hj|hj
 ·rw[List.getElem?_append_left hj] at ht;obtain⟨S,sn,sc,D,dn,dc,h1,h2,h3⟩:=h.2 j t ht;exact⟨S,sn,sc,D,dn,dc,by rw[List.getElem?_append_left (by omega)];exact h1,by rw[List.getElem?_append_left (by omega)];exact h2,h3⟩
 ·rw[List.getElem?_append_right hj] at ht;obtain⟨S,sn,sc,D,dn,dc,h1,h2,h3⟩:=g.2 _ t ht;exact⟨S,sn,sc,D,dn,dc,by rw[List.getElem?_append_right (by omega),show j*2-us.length=(j-L.length)*2 by omega];exact h1,by rw[List.getElem?_append_right (by omega),show j*2+1-us.length=(j-L.length)*2+1 by omega];exact h2,h3⟩
theorem TenK.tail {x:List Int × List Int}(h:TenK w us (x::L)):TenK w (us.drop 2) L:=by
 have hl:=h.1;rw[List.length_cons] at hl;refine⟨by rw[List.length_drop];omega,fun j t ht=>?_⟩;obtain⟨S,sn,sc,D,dn,dc,h1,h2,h3⟩:=h.2 (j+1) t (by simpa using ht);exact⟨S,sn,sc,D,dn,dc,by rw[List.getElem?_drop,show 2+j*2=(j+1)*2 by omega];exact h1,by rw[List.getElem?_drop,show 2+(j*2+1)=(j+1)*2+1 by omega];exact h2,h3⟩
theorem b4q {pool:List a0c}(h:Sep w0 w l)(hP:Pool us L pool)(f:Nat)(hf:∀ i,pool[i]?=none∨l[i+f]?=pool[i]?):TenK w us L:=by
 refine⟨hP.1,fun j t ht=>?_⟩;obtain⟨S,sn,sc,D,dn,dc,p,q,h1,h2,h3,h4⟩:=hP.2 j t ht
 have hp:=h.ownInts (p+f) (by
  rcases hf p with e|e
  ·rw[e] at h3;cases h3
  ·exact e.trans h3)
 have hq:=h.ownInts (q+f) (by
  rcases hf q with e|e
  ·rw[e] at h4;cases h4
  ·exact e.trans h4)
 exact⟨S,sn,sc,D,dn,dc,h1,h2,a1s hp.2.2 hp.2.1 hq.2.2 hq.2.1⟩
theorem TenK.one (h:TenK w us L):∀ u∈us,u.oneCell'=true:=fun u hu=>by
 obtain⟨k,hk,rfl⟩:=List.getElem_of_mem hu;have hl:=h.1;obtain⟨t,ht⟩:∃ t,L[k / 2]?=some t:=gE (by omega);obtain⟨S,sn,sc,D,dn,dc,h1,h2,_⟩:=h.2 _ t ht;rcases(show k=k / 2*2∨k=k / 2*2+1 by omega) with e|e
 ·rw[←e,List.getElem?_eq_getElem hk] at h1;injection h1 with h1;rw[h1];rfl
 ·rw[←e,List.getElem?_eq_getElem hk] at h2;injection h2 with h2;rw[h2];rfl
theorem b5t (hK:TenK w us L)(hn:L.length=n)(hn2:n≤1000)(hg:g<w.heap.size)(hc:∀(j:Nat) (u:Value),us[j]?=some u→w.cell? ⟨g,j,none⟩=some u):Tens w (some ⟨g,0,none⟩) n L:=by
 refine⟨hn,by omega,fun j t ht=>?_⟩;obtain⟨S,sn,sc,D,dn,dc,h1,h2,h3⟩:=hK.2 j t ht;exact⟨⟨g,0,none⟩,S,sn,sc,D,dn,dc,rfl,hg,by rw[b7g];exact hc _ _ h1,by rw[b7g];exact hc _ _ h2,h3⟩
theorem b7d (i:Nat)(h:Sep w0 w l)(hi:l[i]?=some (.row 33 2 v n us))(hK:TenK w us L)(hn:L.length=n)(hn2:n≤1000):
  ∃ A c,v=.slice A n c∧n≤c∧Tens w A n L:=by
 have hr:w.ownsRow w0.heap.size 33 2 v n us:=h.at_ i hi;rcases Nat.eq_zero_or_pos n with e|e
 ·subst e;have hT:∀ A,Tens w A 0 L:=fun A=>⟨hn,by omega,fun j t ht=>by rw[List.eq_nil_of_length_eq_zero hn] at ht;simp at ht⟩
  rcases hr.2 with ⟨hv,_⟩|⟨g,cap,cur,hv,_⟩
  ·exact⟨none,0,hv,Nat.le_refl _,hT _⟩
  ·exact⟨_,cap,hv,by omega,hT _⟩
 ·obtain⟨g,c,rfl,hnc⟩:=h.rowForm i hi e;refine⟨_,c,rfl,by omega,b5t hK hn hn2 (World.ownsRow.lt hr g rfl).2 fun j u hu=>?_⟩;rw[hr.cellAt j (by have:=hr.1;have:=(lL hu);omega),hu]
theorem c8k {base:Nat}{ty:TypeId}{v' : Value}(ht:prog.underlying t=some (.slice 33))(hr:w.ownsRow base 33 2 (.slice (some ⟨g,0,none⟩) n c0) n us)
  (hl:vs.length=m*2)(hvs:∀ j u,vs[j]?=some u→w.cell? (ad.add j)=some u)(h1:∀ u∈vs,u.oneCell'=true)(hn:n+m≤3000)
  (hrun:(Builtin.append_ #[t,t] ty #[.slice (some ⟨g,0,none⟩) n c0,.slice (some ad) m c]).run prog w=.ok v' w')(h5:w'.ownsRow base 33 2 v' (n+m) (us++vs)):
  ∀(j:Nat) (u:Value),us[j]?=some u→w'.cell? ⟨g,j,none⟩=some u:=fun j u hj=>by
 obtain⟨ti,g1,g2,g3,g4⟩:=a5z;have hlu:=hr.1;have hjl:=(lL hj)
 have hcell:∀(k:Nat) (x:Value),us[k]?=some x→w.cell? ⟨g,k,none⟩=some x:=fun k x hk=>by
  rw[hr.cellAt k (by have:=(lL hk);omega),hk]
 have hlt:=(World.ownsRow.lt hr g rfl).2;by_cases hroom:n+m≤c0
 ·have hb:∃ cur:Array Value,w.heap[g]?=some (.cells cur 33 (0,0))∧cur.size=c0*2:=by
   rcases hr.2 with ⟨h', _⟩|⟨g', cap', cur,h', _,hg,_,_,hs,_⟩
   ·simp at h'
   ·simp only[Value.slice.injEq,Option.some.injEq,Addr.mk.injEq,and_true,true_and] at h';obtain⟨rfl,rfl⟩:=h';exact⟨cur,hg,hs⟩
  obtain⟨cur,hb,hcs⟩:=hb
  have hrun2:=run_append_room_cells (P:=prog) w t ty 33 ti ht g1 g 0 n c0 ad m c vs (by rw[g3];exact hl) hvs h1 hroom
   (fun k hk=>by rw[g3,show w.cell? ⟨g,0+n*2+k,none⟩=cur[0+n*2+k]? from by simp[World.cell?,hb],Array.getElem?_eq_getElem (by omega)];rfl)
   (fun k _=>hr.frozenAt _)
  rw[hrun] at hrun2;injection hrun2 with e1 _
  subst e1;rw[h5.cellAt j (by rw[Nat.add_mul];omega),List.getElem?_append_left hjl,hj]
 ·obtain⟨v2,w2,hrun2,_,hg⟩:=run_append_arg_grows (P:=prog) w t ty 33 ti _ 2 48 ht g1 g2 g3 g4 (by rfl) (by omega) ⟨g,0,none⟩ n c0 us hlu (fun k x hk=>by rw[b7g];exact hcell k x hk) ad m c vs hl hvs (by omega) (by unfold maxLen;omega) (by omega);rw[hrun] at hrun2;injection hrun2 with _ e2
  subst e2;rw[hg.cell_far ⟨g,j,none⟩ hlt (by simp)];exact hcell j u hj
theorem c0o (s y:Operand)(t:TypeId)
  (ho:o.op=.call { callee:=.builtin .append,args:=#[s,y],argTypes:=#[t,t] })(ht:prog.underlying t=some (.slice 33))
  (H:Sep w0 w l)(i:Nat)(hi:l[i]?=some (.row 33 2 v n us))(hs:a.eval s=v)(hy:a.eval y=.slice (some ad) m c)(hvs:∀ j u,vs[j]?=some u→w.cell? (ad.add j)=some u)(hK:TenK w vs M)(hM:M.length=m)
  (hn:n≤1000)(hm:m≤1000)
  (h:∀ v' w', Sep w0 w' (l.set i (.row 33 2 v' (n+m) (us++vs)))→(∀ g c0,v=.slice (some ⟨g,0,none⟩) n c0→∀(j:Nat) (u:Value),us[j]?=some u→w'.cell? ⟨g,j,none⟩=some u)→K (a.put o.dst v') w'):o.wp prog a w K Q:=by
 obtain⟨ti,g1,g2,g3,g4⟩:=a5z;have hr:w.ownsRow w0.heap.size 33 2 v n us:=H.at_ i hi;have hl:vs.length=m*2:=by rw[hK.1,hM]
 obtain⟨v', w', hrun,h5,h6,_,h8⟩:=run_append_own_at (P:=prog) w w0.heap.size t o.type 33 ti _ 2 48 ht g1 g2 g3 g4 (by rfl) (by omega) v n us hr ad m c vs hl hvs hK.one (by unfold maxLen;omega) (by omega) H.size;unfold Oper.wp execOp;simp only[ho,resolve,invoke,builtin,Sem.run_bind,Sem.run_pure,Result.andThen_ok,List.map_toArray,List.map_cons,List.map_nil,hs,hy,hrun];refine h v' w' (H.change i hi h6 h5 fun b hb=>?_) fun g c0 hv=>?_
 ·have hb:v'.ownBlock=some b:=hb;rcases h8 with e|e
  ·exact .inl (e.symm.trans hb)
  ·rw[e] at hb;injection hb with hb;subst hb;exact .inr (Nat.le_refl _)
 ·subst hv;exact c8k ht hr hl hvs hK.one (by omega) hrun h5
theorem a6z {E:Prop}(hgd:Region.wanted o (yielded ops a.tmps)=true)(s y:Operand)(t:TypeId)
  (ho:o.op=.call { callee:=.builtin .append,args:=#[s,y],argTypes:=#[t,t] })(ht:prog.underlying t=some (.slice 33))
  (H:Sep w0 w l)(i:Nat)(hi:l[i]?=some (.row 33 2 v n us))(hs:a.eval s=v)(hy:a.eval y=.slice (some ad) m c)(hvs:∀ j u,vs[j]?=some u→w.cell? (ad.add j)=some u)(hK:TenK w vs M)(hM:M.length=m)
  (hn:n≤1000)(hm:m≤1000)
  (h:∀ v' w', Sep w0 w' (l.set i (.row 33 2 v' (n+m) (us++vs)))→(∀ g c0,v=.slice (some ⟨g,0,none⟩) n c0→∀(j:Nat) (u:Value),us[j]?=some u→w'.cell? ⟨g,j,none⟩=some u)→K (a.put o.dst v') w'):
  if Region.wanted o (yielded ops a.tmps)=true then Oper.wp prog o a w K Q else E:=by
 rw[iP hgd];exact c0o s y t ho ht H i hi hs hy hvs hK hM hn hm h
theorem c0s (k:Nat)(x:Int)(hx:x=k)(hk:k<120):
  Calls prog 8 #[.int .i64 x] w fun e w'=>(∃ v n ys,e=.returned v∧OwnS w' w.heap.size 3 v n ys)∧Below w.heap.size w w':=by
 subst hx
 go_enter func8,ntmps8
 go_wp2_with fail
 go_loopw [3,4] (fun sv iv wr=>∃(i:Nat) (ys:List Int),iv=.int .i64 i∧i≤200∧OwnS wr w.heap.size 3 sv i ys∧Below w.heap.size w wr) (fun _ iv _=>200-(intOf iv).toNat)
 case atStart=>exact⟨0,[],rfl,by omega,OwnS.nil_ _ _ _,Below.refl _ _⟩
 case round =>
  obtain⟨i,ys,rfl,hi,hO,hB⟩:=hrel;have HO:=Hd hO;have HB:=Hd hB;have hz:=hB.size;obtain⟨Ao,co,hv,hco,_,_⟩:=hO.form;subst hv;have hm1:i*i≤40000:=Nat.le_trans (Nat.mul_le_mul hi hi) (by omega);have hm2:i*k≤24000:=Nat.le_trans (Nat.mul_le_mul hi (show k≤120 by omega)) (by omega);clear hO hB;by_cases hlt:i<200
  ·have d0:decide (i<200)=true:=by simpa using hlt
   go_wp2_with (at_builtin;refine a3f rfl (.tmp 9) (.tmp 22) 22 3 rfl underlying22 Tryz.infoInt w.heap.size _ i ys rfl HO.out hz _ ?cf _ rfl ?c1 ?_)
   case cf=>exact⟨by omega,by omega⟩
   case c1=>omega
   intro v' w' h1 h2 h3;have G1:=Hd h1;have G2:=Hd h2;clear h1 h2 h3;go_wp2;go_roundw
   case rel=>exact⟨i+1,_,by go_num,by omega,G1,HB.trans G2⟩
   case measure=>simp[intOf];omega
  ·have d0:decide (i<200)=false:=by simpa using hlt
   go_wp2;go_ret;exact⟨⟨_,_,_,rfl,HO⟩,HB⟩
theorem c2q {ys:List Int}{A0:Option Addr}{n0:Nat}{xs:List Int}(h:a2c w v (a0o ys))(hI:Ints w A0 n0 xs):
  Calls prog 9 #[v,.slice A0 n0 c0] w fun e w'=>(∃ v m us pool P,e=.returned v∧m≤700∧P.length=m∧Pool us P pool∧FitP (a0o ys).nodes P∧∀(w0:World) (l:List a0c),Sep w0 w l→Sep w0 w' (.row 33 2 v m us::(pool++l)))∧Below w.heap.size w w' :=
 b8q h hI (fun j x hx=>by
  obtain⟨_,_,nd,h1,h2,_⟩:=b9e hx
  exact⟨nd,h1,h2⟩) (by have:=c2a ys;omega)
theorem d0o {a:Addr}(h1:1≤n)(hnc:n≤c):∃ ad:Addr,(∀ w,(Instr.slice 28 (.slice (some a) n c) (some (.int .i64 1)) none none).run prog w=.ok (.slice (some ad) (n-1) (c-1)) w)∧(1<n→ad=a.add 2):=by
 have hu:prog.underlying 28=some (.slice 33):=by kernel_rfl
 by_cases hc:c=1
 ·refine⟨a,fun w=>?_,fun h=>by omega⟩
  go_simp
  intro h;omega
 ·refine⟨a.add 2,fun w=>?_,fun h=>rfl⟩
  go_simp
  intro h;omega
theorem d3z (hk:k≤3):∀(g:Nat) (w:World),(Instr.slice 28 (.slice (some ⟨g,0,none⟩) 3 3) none (some (.int .i64 (k:Int))) none).run prog w=.ok (.slice (some ⟨g,0,none⟩) k 3) w:=by
 have hu:prog.underlying 28=some (.slice 33):=by kernel_rfl
 intro g w
 go_simp
 intro h;omega
theorem c5h (h:Sep w0 w l)(i:Nat)(hi:l[i]?=some (.box g t vs)):∀(j:Nat) (u:Value),vs[j]?=some u→w.cell? ((⟨g,0,none⟩:Addr).add j)=some u:=fun j u hj=>by
 rw[b7g];exact h.cell i j hi hj
theorem e2q (c:Array Value)(hc:c.size=1*2)(p0 p1:Value):Instr.fill (fun i=>some (i*2,2)) c [(0,Value.agg #[p0,p1])]=some #[p0,p1]:=by
 have:=Great.fill_whole (s:=2) (by omega) [Value.agg #[p0,p1]] c (by simp[Value.cells]) (by simp[hc]);simpa [Value.cells] using this
theorem b8s {E:Prop}(M:Nat)(hM:w.heap.size=M)(hgd:Region.wanted o (yielded ops a.tmps)=true)(x:Operand)
  (ho:o.op=.buildSlice 28 1 #[(0,x)]){p0 p1:Value}(hx:a.eval x=.agg #[p0,p1])
  (h:K (a.put o.dst (.slice (some ⟨M,0,none⟩) 1 1)) (w.alloc (.cells #[p0,p1] 33))):
  if Region.wanted o (yielded ops a.tmps)=true then Oper.wp prog o a w K Q else E:=by
 rw[iP hgd];obtain⟨i,hi,hz,hs,hb⟩:=a5z;subst hM;refine wp_buildSlice 28 33 1 _ ho _ i _ underlying28 hi hz (by rw[hs];decide) (by rw[hs];decide) ?_ h;rw[hs];simp only[List.map_toArray,List.map_cons,List.map_nil,hx];exact e2q _ (by simp) _ _
theorem b8u (h:Sep w0 w l)(i:Nat)(hi:l[i]?=some (.box g t vs))(hK:TenK w vs L)(hL:L.length=3)(hk:k≤3):Tens w (some ⟨g,0,none⟩) k (L.take k):=by
 have h3:=b5t hK hL (by omega) (h.blockLt i hi).2 (fun j u hj=>h.cell i j hi hj)
 exact⟨by rw[List.length_take];omega,by omega,fun j t ht=>by
  rw[List.getElem?_take] at ht
  split at ht
  ·exact h3.2.2 j t ht
  ·cases ht⟩
theorem c0e (w:World):Calls prog 3 #[] w fun e w'=>e=.returned (.bool true)∧Below w.heap.size w w':=by
 go_enter func3,ntmps3
 go_wp2_with fail
 go_loopw [1] (fun iv wr=>∃ k:Nat,iv=.int .i64 k∧k≤100∧Below w.heap.size w wr) (fun iv _=>100-(intOf iv).toNat)
 case atStart=>exact⟨0,rfl,by omega,Below.refl _ _⟩
 case round =>
  obtain⟨k,rfl,hk,hB⟩:=hrel;have HB:=Hd hB;clear hB;by_cases hlt:k<100
  ·have d0:decide ((k:Int)<100)=true:=by simp;omega
   have d0n:decide (k<100)=true:=by simpa using hlt
   obtain⟨wb,rfl⟩:∃ wb:World,wb=wr:=⟨_,rfl⟩;have CT:=c0s (w:=wb) k (k:Int) rfl (by omega)
   go_wp2_with fail
   refine CT.mono ?_;rintro e1 w1 ⟨⟨v,n,ys,rfl,hO⟩,hb1⟩;obtain⟨At,ct,rfl,_,hI,_⟩:=hO.form;have CG:=c3l (c:=ct) hI;have hSM:=a9u ys;obtain⟨G,hGd⟩:∃ G,a0o ys=G:=⟨_,rfl⟩;rw[hGd] at CG hSM;have HSM:=Hd hSM;have HGD:=Hd hGd;have HB1:=Hd (a1m HB hb1);clear CT hO hI hGd hSM hb1
   go_wp2_with fail
   refine CG.mono ?_;rintro e2 w2 ⟨⟨v,rfl,hG⟩,hb2⟩;have HG:=Hd hG;obtain⟨A,na,ca,B,nb,cb,C,nc,cc,rfl,_⟩:=hG;have HB2:=Hd (a1m HB1 hb2);clear CG hb2;have h1:=(Sep.nil w2).allocBox w2.heap.size 25 [.slice A na ca,.string G.names,.slice B nb cb,.slice C nc cc] rfl
   go_upto_region 5 with fail
   generalize w2.alloc (.cells #[.slice A na ca,.string G.names,.slice B nb cb,.slice C nc cc] 25)=w3 at *;have H:=Hd h1;clear h1;have hw7:IntKind.i64.wrap ((k:Int)+7)=(k:Int)+7:=IntWalk.i64_in _ ⟨by omega,by omega⟩;have D0:=Hd H.drew;obtain⟨c0,c1,c2,c3⟩:=D0.cells4 0 rfl;refine wp_region_held_drew (S:=(fun w'=>w'.cell? ⟨w2.heap.size,0,none⟩=some (.slice A na ca)∧w'.cell? ⟨w2.heap.size,1,none⟩=some (.string G.names)∧w'.cell? ⟨w2.heap.size,2,none⟩=some (.slice B nb cb)∧w'.cell? ⟨w2.heap.size,3,none⟩=some (.slice C nc cc))) (by kernel_rfl) ?_ (fun hq_=>?_)
   ·exact⟨c0,c1,c2,c3⟩
   refine zV 0 hq_ ?_;refine zV 1 hq_ ?_;refine zV 2 hq_ ?_;refine e1 3 fun K hK=>?_
   first|(refine effU ?_ ?_;(focus rfl))|(go_simp;(go_at_call 8;refine(c0s (k+7) ((k:Int)+7) (by omega) (by omega)).mono ?_;rintro e3 x3 ⟨⟨v3,n3,zs,rfl,hO3⟩,hb3⟩;obtain⟨At3,ct3,rfl,_,hI3,_⟩:=hO3.form;have HI3:=Hd hI3;have D1:=Hd (D0.below hb3);clear hO3 hI3 hb3;obtain⟨a0,a1,a2,a3⟩:=D1.z4 0 rfl);go_wp2_with fail)
   refine zX hK (fun hq_=>?_) ⟨a0,a1,a2,a3⟩;refine e1 4 fun K hK=>?_
   first|(refine effU ?_ ?_;(focus rfl))|(go_simp;(go_at_call 9;refine(c2q (ys:=ys) (c0:=ct3) (by rw[HGD.out];exact HG.below D1.base) HI3).mono ?_;rintro e4 x4 ⟨⟨v4,m,us,pool,P,rfl,hm7,hPl,hPool,_,hS4⟩,hb4⟩;have HPL:=Hd hPl;have HPO:=Hd hPool;have D2:=Hd (Sep.perm (hS4 w2 _ D1) (l':=.row 33 2 v4 m us::.box w2.heap.size 25 [.slice A na ca,.string G.names,.slice B nb cb,.slice C nc cc]::pool) (List.Perm.cons _ List.perm_append_comm));clear hPl hPool hS4 hb4;obtain⟨b0,b1,b2,b3⟩:=D2.z4 1 rfl);go_wp2_with fail)
   refine zX hK (fun hq_=>?_) ⟨b0,b1,b2,b3⟩;refine zV 5 hq_ ?_;refine dN ?_;clear c0 c1 c2 c3 a0 a1 a2 a3 b0 b1 b2 b3 H D0 D1 HI3
   go_upto_region 6 with fail
   have HK0:Hid (TenK x4 us P):=Hd (b4q D2 HPO 2 (fun i=>.inr rfl));obtain⟨A4,c4,hv4,hc4,hT4⟩:=b7d 0 D2 rfl HK0 HPL (by omega);subst hv4;have HT4:=Hd hT4;clear hT4;have K0:=Hd D2.drew;have E0:=Hd (a0w (Below.refl x4.heap.size x4) 1);obtain⟨c0,c1,c2,c3⟩:=K0.cells4 1 rfl;by_cases hm0:m=0
   ·subst hm0;refine wp_region_held_drew (S:=(fun w'=>w'.cell? ⟨w2.heap.size,0,none⟩=some (.slice A na ca)∧w'.cell? ⟨w2.heap.size,1,none⟩=some (.string G.names)∧w'.cell? ⟨w2.heap.size,2,none⟩=some (.slice B nb cb)∧w'.cell? ⟨w2.heap.size,3,none⟩=some (.slice C nc cc))) (by kernel_rfl) ?_ (fun hq_=>?_)
    ·exact⟨c0,c1,c2,c3⟩
    refine zV 0 hq_ ?_;refine zV 1 hq_ ?_;refine e1 2 fun K hK=>?_
    first|(refine effU ?_ ?_;(focus rfl))|(go_simp;(go_at_call 10;refine(a4b (ct:=c4) (HG.below K0.base) HSM (HT4.below E0)).mono ?_;rintro e9 y1 ⟨rfl,hb9⟩;have K1:=Hd (K0.below hb9);have E1:=Hd (a1m E0 hb9);clear hb9;obtain⟨p0,p1,p2,p3⟩:=K1.z4 1 rfl);go_wp2_with fail)
    refine zX hK (fun hq_=>?_) ⟨p0,p1,p2,p3⟩;refine zV 3 hq_ ?_;refine zV 4 hq_ ?_;refine zT 5 hq_ ?_;refine zT 6 hq_ ?_;refine zT 7 hq_ ?_;refine e1 8 fun K hK=>?_;(refine b8s y1.heap.size rfl rfl (.tmp 28) rfl rfl ?_;have K2:=Hd (K1.allocBox y1.heap.size 33 [.slice none 0 0,.slice none 0 0] rfl);obtain⟨q0,q1,q2,q3⟩:=K2.z4 2 rfl);refine zX hK (fun hq_=>?_) ⟨q0,q1,q2,q3⟩;refine e1 9 fun K hK=>?_;(refine a6z rfl (.tmp 27) (.tmp 29) 28 rfl underlying28 K2.out 1 rfl rfl rfl (c5h K2.out 0 rfl) (a5w (a7d _)) rfl (by omega) (by omega) ?_;intro v5 y2 h5 _;have K3:=Hd h5;clear h5;obtain⟨A5,c5,hv5,hc5,hT5⟩:=b7d 1 K3.out rfl ((b4q K3.out HPO.out 3 (fun i=>.inr rfl)).append (a5w (a7d _))) (by rw[List.length_append,HPL.out];rfl) (by omega);subst hv5;have HT5:=Hd hT5;clear hT5;obtain⟨r0,r1,r2,r3⟩:=K3.z4 2 rfl);refine zX hK (fun hq_=>?_) ⟨r0,r1,r2,r3⟩;refine e1 10 fun K hK=>?_
    first|(refine effU ?_ ?_;(focus rfl))|(go_simp;(go_at_call 10;refine(a4b (ct:=c5) (HG.below K3.base) HSM HT5).mono ?_;rintro e9 y3 ⟨rfl,hb9⟩;have K4:=Hd (K3.below hb9);skip;clear hb9;obtain⟨t0,t1,t2,t3⟩:=K4.z4 2 rfl);go_wp2_with fail)
    refine zX hK (fun hq_=>?_) ⟨t0,t1,t2,t3⟩;refine zT 11 hq_ ?_;refine zV 12 hq_ ?_;refine zV 13 hq_ ?_;refine zT 14 hq_ ?_;refine zT 15 hq_ ?_;refine zT 16 hq_ ?_;refine zT 17 hq_ ?_;refine zT 18 hq_ ?_;refine zT 19 hq_ ?_;refine zT 20 hq_ ?_;refine e1 21 fun K hK=>?_
    first|(refine effU ?_ ?_;(focus rfl))|(go_simp;skip;go_wp2_with fail)
    refine zX hK fun hq_=>?_;refine zT 22 hq_ ?_;refine zT 23 hq_ ?_;refine zV 24 hq_ ?_;refine zV 25 hq_ ?_;refine zT 26 hq_ ?_;refine zT 27 hq_ ?_;refine zT 28 hq_ ?_;refine zT 29 hq_ ?_;refine zT 30 hq_ ?_;refine zT 34 hq_ ?_;refine zT 35 hq_ ?_;refine e1 31 fun K hK=>?_
    first|(refine effU ?_ ?_;(focus rfl))|(go_simp;skip;go_wp2_with fail)
    refine zX hK fun hq_=>?_;refine zT 32 hq_ ?_;refine e1 33 fun K hK=>?_
    first|(refine effU ?_ ?_;(focus rfl))|(go_simp;skip;go_wp2_with fail)
    refine zX hK fun hq_=>?_;refine e1 36 fun K hK=>?_
    first|(refine effU ?_ ?_;(focus rfl))|(go_simp;skip;go_wp2_with fail)
    refine zX hK fun hq_=>?_;refine e1 37 fun K hK=>?_
    first|(refine effU ?_ ?_;(focus rfl))|(go_simp;skip;go_wp2_with fail)
    refine zX hK fun hq_=>?_;refine zT 38 hq_ ?_;refine zT 39 hq_ ?_;refine zV 40 hq_ ?_;refine dN ?_;go_wp2;go_roundw
    case rel=>exact⟨k+1,by go_num,by omega,a1m HB2 K4.base⟩
    case measure=>simp[intOf];omega
   ·have hm1:1≤m:=by omega
    have dm:decide (0<m)=true:=by simp;omega
    obtain⟨gp,cp,hv,hcp⟩:=D2.rowForm 0 rfl (by omega);injection hv with hv1 _ hv3
    subst hv1;subst hv3;have HT4:=HT4;obtain⟨ad,hsl,had⟩:=d0o (a:=⟨gp,0,none⟩) (n:=m) (c:=c4) hm1 hc4;have HAD:=Hd had;clear had;obtain⟨t0,P0,hP0⟩:∃ t0 P0,P=t0::P0:=by cases hP:P with|nil=>(have:=HPL.out;rw[hP] at this;simp at this;omega)|cons a b=>exact⟨a,b,rfl⟩
    subst hP0;have HU:=Hd HK0.out.1;refine wp_region_held_drew (S:=(fun w'=>w'.cell? ⟨w2.heap.size,0,none⟩=some (.slice A na ca)∧w'.cell? ⟨w2.heap.size,1,none⟩=some (.string G.names)∧w'.cell? ⟨w2.heap.size,2,none⟩=some (.slice B nb cb)∧w'.cell? ⟨w2.heap.size,3,none⟩=some (.slice C nc cc))) (by kernel_rfl) ?_ (fun hq_=>?_)
    ·exact⟨c0,c1,c2,c3⟩
    refine zV 0 hq_ ?_;refine zV 1 hq_ ?_;refine e1 2 fun K hK=>?_
    first|(refine effU ?_ ?_;(focus rfl))|(go_simp;(go_at_call 10;refine(a4b (ct:=c4) (HG.below K0.base) HSM (HT4.below E0)).mono ?_;rintro e9 y1 ⟨rfl,hb9⟩;have K1:=Hd (K0.below hb9);have E1:=Hd (a1m E0 hb9);clear hb9;obtain⟨p0,p1,p2,p3⟩:=K1.z4 1 rfl);go_wp2_with fail)
    refine zX hK (fun hq_=>?_) ⟨p0,p1,p2,p3⟩;refine zV 3 hq_ ?_;refine zV 4 hq_ ?_;refine zT 5 hq_ ?_;refine zT 6 hq_ ?_;refine zT 7 hq_ ?_;refine e1 8 fun K hK=>?_;(refine b8s y1.heap.size rfl rfl (.tmp 28) rfl rfl ?_;have K2:=Hd (K1.allocBox y1.heap.size 33 [.slice none 0 0,.slice none 0 0] rfl);obtain⟨q0,q1,q2,q3⟩:=K2.z4 2 rfl);refine zX hK (fun hq_=>?_) ⟨q0,q1,q2,q3⟩;refine e1 9 fun K hK=>?_;(refine a6z rfl (.tmp 27) (.tmp 29) 28 rfl underlying28 K2.out 1 rfl rfl rfl (c5h K2.out 0 rfl) (a5w (a7d _)) rfl (by omega) (by omega) ?_;intro v5 y2 h5 hk5;have K3:=Hd h5;have HC3:=Hd (hk5 gp c4 rfl);clear h5 hk5;have HQ3:Hid (TenK y2 us (t0::P0)):=Hd (b4q K3.out HPO.out 3 (fun i=>.inr rfl));have HGP:Hid (gp<y2.heap.size):=Hd (by obtain⟨u0,hu0⟩:∃ u,us[0]?=some u:=gE (by have:=HU.out;rw[List.length_cons] at this;omega);exact block_lt_of_cell (HC3.out 0 u0 hu0));have HT6:Hid (Tens y2 (some ⟨gp,0,none⟩) m (t0::P0)):=Hd (b5t HQ3.out HPL.out (by omega) HGP.out HC3.out);obtain⟨A5,c5,hv5,hc5,hT5⟩:=b7d 1 K3.out rfl (HQ3.append (a5w (a7d _))) (by rw[List.length_append,HPL.out];rfl) (by omega);subst hv5;have HT5:=Hd hT5;clear hT5;obtain⟨r0,r1,r2,r3⟩:=K3.z4 2 rfl);refine zX hK (fun hq_=>?_) ⟨r0,r1,r2,r3⟩;refine e1 10 fun K hK=>?_
    first|(refine effU ?_ ?_;(focus rfl))|(go_simp;(go_at_call 10;refine(a4b (ct:=c5) (HG.below K3.base) HSM HT5).mono ?_;rintro e9 y3 ⟨rfl,hb9⟩;have K4:=Hd (K3.below hb9);have HC4:Hid (∀(j:Nat) (u:Value),us[j]?=some u→y3.cell? ⟨gp,j,none⟩=some u):=Hd (fun j u hu=>(hb9.cell HGP.out).trans (HC3 j u hu));have HG4:Hid (gp<y3.heap.size):=Hd (Nat.lt_of_lt_of_le HGP hb9.size);have HT7:=Hd (Tens.tail (HT6.below hb9) (A2:=some ad) (fun h=>by rw[HAD.out h]));have HQ4:=Hd (HQ3.below hb9);clear hb9;obtain⟨t0,t1,t2,t3⟩:=K4.z4 2 rfl);go_wp2_with fail)
    refine zX hK (fun hq_=>?_) ⟨t0,t1,t2,t3⟩;refine zT 11 hq_ ?_;refine zV 12 hq_ ?_;refine zV 13 hq_ ?_;refine zT 14 hq_ ?_;refine zT 15 hq_ ?_;refine zT 16 hq_ ?_;refine zT 17 hq_ ?_;refine zT 18 hq_ ?_;refine zT 19 hq_ ?_;refine zT 20 hq_ ?_;refine e1 21 fun K hK=>?_
    first|(refine effU ?_ ?_;(focus rfl))|(go_simp;(go_at_call 10;refine(a4b (ct:=c4-1) (HG.below K4.base) HSM HT7).mono ?_;rintro e9 y4 ⟨rfl,hb9⟩;have K5:=Hd (K4.below hb9);have HC5:Hid (∀(j:Nat) (u:Value),us[j]?=some u→y4.cell? ⟨gp,j,none⟩=some u):=Hd (fun j u hu=>(hb9.cell HG4.out).trans (HC4 j u hu));have HG5:Hid (gp<y4.heap.size):=Hd (Nat.lt_of_lt_of_le HG4 hb9.size);have HQ5:=Hd (HQ4.below hb9);clear hb9;obtain⟨u0,u1,u2,u3⟩:=K5.z4 2 rfl);go_wp2_with fail)
    refine zX hK (fun hq_=>?_) ⟨u0,u1,u2,u3⟩;refine zT 22 hq_ ?_;refine zT 23 hq_ ?_;refine zV 24 hq_ ?_;refine zV 25 hq_ ?_;refine zT 26 hq_ ?_;refine zT 27 hq_ ?_;refine zT 28 hq_ ?_;refine zT 29 hq_ ?_;refine zT 30 hq_ ?_;refine zT 34 hq_ ?_;refine zT 35 hq_ ?_;refine e1 31 fun K hK=>?_;(have K6:=Hd (K5.lit 3 #[.int .i64 9] [9] 1 y4.heap.size rfl rfl rfl);obtain⟨x0,x1,x2,x3⟩:=K6.z4 3 rfl);go_simp;(try go_wp2_with fail);refine zX hK (fun hq_=>?_) ⟨x0,x1,x2,x3⟩;refine zT 32 hq_ ?_;refine e1 33 fun K hK=>?_;(refine b8s (y4.heap.size+1) (by simp) rfl (.tmp 53) rfl rfl ?_;have h7:=K6.madeRow 33 2 1 1 #[.slice (some ⟨y4.heap.size,0,none⟩) 1 1,.slice none 0 0] rfl (Nat.le_refl _) (by omega);rw[show(y4.alloc (.cells #[.int .i64 9] 3)).heap.size=y4.heap.size+1 by simp] at h7;have K7:=Hd h7;clear h7;obtain⟨z0,z1,z2,z3⟩:=K7.z4 4 rfl);refine zX hK (fun hq_=>?_) ⟨z0,z1,z2,z3⟩;refine e1 36 fun K hK=>?_;(have HB7:Hid (Below y4.heap.size y4 _):=Hd (((Below.refl y4.heap.size y4).alloc (Nat.le_refl _) (.cells #[.int .i64 9] 3)).alloc (by simp) (.cells #[.slice (some ⟨y4.heap.size,0,none⟩) 1 1,.slice none 0 0] 33));refine a6z (m:=m-1) (c:=c4-1) rfl (.tmp 54) (.tmp 56) 28 rfl underlying28 K7.out 0 rfl rfl rfl (vs:=us.drop 2) (M:=P0) (fun j u hj=>by rw[List.getElem?_drop] at hj;have hl:=(lL hj);have hu:=HU.out;have hp:=HPL.out;rw[List.length_cons] at hu hp;rw[HAD.out (by omega),a9f,b7g];exact(HB7.cell HG5.out).trans (HC5.out (2+j) u hj)) (TenK.tail (HQ5.below HB7.out)) (by have:=HPL.out;rw[List.length_cons] at this;omega) (by omega) (by omega) ?_;intro v8 y5 h8 _;have K8:=Hd h8;clear h8;obtain⟨A8,c8,hv8,hc8,hT8⟩:=b7d 0 K8.out rfl ((a5w (s:=[9]) (d:=[]) (a1s (K8.ownInts 1 rfl).2.2 (Nat.le_refl _) (Ints.nil_ _ none) (Nat.le_refl _))).append (TenK.tail (b4q K8.out HPO.out 5 (fun i=>.inr rfl)))) (by have:=HPL.out;rw[List.length_cons] at this;rw[List.length_append];show 1+P0.length=_;omega) (by omega);obtain⟨mm,hmm⟩:∃ mm,1+(m-1)=mm:=⟨_,rfl⟩;have hmm7:mm≤701:=(by omega);rw[hmm] at hv8 hc8 hT8;subst hv8;have HT8:=Hd hT8;clear hT8 hmm;obtain⟨o0,o1,o2,o3⟩:=K8.z4 4 rfl);refine zX hK (fun hq_=>?_) ⟨o0,o1,o2,o3⟩;refine e1 37 fun K hK=>?_
    first|(refine effU ?_ ?_;(focus rfl))|(go_simp;(go_at_call 10;refine(a4b (ct:=c8) (HG.below K8.base) HSM HT8).mono ?_;rintro e9 y6 ⟨rfl,hb9⟩;have K9:=Hd (K8.below hb9);skip;clear hb9;obtain⟨l0,l1,l2,l3⟩:=K9.z4 4 rfl);go_wp2_with fail)
    refine zX hK (fun hq_=>?_) ⟨l0,l1,l2,l3⟩;refine zT 38 hq_ ?_;refine zT 39 hq_ ?_;refine zV 40 hq_ ?_;refine dN ?_;go_wp2;go_roundw
    case rel=>exact⟨k+1,by go_num,by omega,a1m HB2 K9.base⟩
    case measure=>simp[intOf];omega
  ·have d0:decide ((k:Int)<100)=false:=by simp;omega
   have d0n:decide (k<100)=false:=by simpa using hlt
   obtain⟨wb,rfl⟩:∃ wb:World,wb=wr:=⟨_,rfl⟩;have h1:=(Sep.nil wb).lit 3 #[.int .i64 2,.int .i64 2] [2,2] 2 wb.heap.size rfl rfl rfl;have HF:=Hd h1;clear h1
   go_wp2_with fail
   refine(a2d 3 (HF.ownInts 0 rfl).2.2 (by omega) (b2c (n:=3) (by decide) (by decide))).mono ?_;rintro e4 w4 ⟨⟨u,rfl,hu⟩,hb4⟩;obtain⟨S1,ns,sc,D1,N,dc,rfl,hs1,hd1,hsc,hdc,hNle,h5⟩:=HF.addTen hb4 hu;have h6:=h5.allocBox w4.heap.size 33 [.slice S1 ns sc,.slice D1 N dc] rfl;clear hu hb4 h5 hd1 hs1
   go_upto_region 9 with fail
   generalize w4.alloc (.cells #[.slice S1 ns sc,.slice D1 N dc] 33)=wm at *;generalize w4.heap.size=gt at *;have H:=Hd h6;clear h6;obtain⟨DD,hDD⟩:∃ D,List.replicate (Sh.size [2,2]).toNat (3:Int)=D:=⟨_,rfl⟩;rw[hDD] at H;clear hDD;have HTT:Hid (Ten wm (.agg #[.slice S1 ns sc,.slice D1 N dc]) [2,2] DD):=Hd (a1s (H.ownInts 1 rfl).2.2 hsc (H.ownInts 2 rfl).2.2 hdc);have HQ0:=Hd (H.c 0 0);have HQ1:=Hd (H.c 0 1);have HGT:=Hd (H.blockLt 0 rfl).2;have HBM:=Hd (a1m HB H.base);clear H HF
   go_wp2_with fail
   go_loopw [5] (fun iv wr=>∃ o:Nat,iv=.int .i64 ((o:Int)-1)∧o≤24∧Below wm.heap.size wm wr) (fun iv _=>24-(intOf iv+1).toNat)
   case atStart=>exact⟨0,rfl,by omega,Below.refl _ _⟩
   case round =>
    obtain⟨o,rfl,ho,hB⟩:=hrel;have HBO:=Hd hB;clear hB;by_cases hlo:o<24
    ·have d1:decide ((o:Int)-1<23)=true:=by simp;omega
     go_wp2_with fail
     go_loopw [6] (fun hv wr=>∃ h:Nat,hv=.int .i64 h∧h≤4∧Below wm.heap.size wm wr) (fun hv _=>4-(intOf hv).toNat)
     case atStart=>exact⟨0,rfl,by omega,HBO⟩
     case round =>
      clear HBO;obtain⟨h,rfl,hh,hB⟩:=hrel;have HBO:=Hd hB;clear hB;obtain⟨wb,rfl⟩:∃ wb:World,wb=wr:=⟨_,rfl⟩;by_cases hlh:h<4
      ·have d2:decide ((h:Int)<4)=true:=by simp;omega
       have d2n:decide (h<4)=true:=by simpa using hlh
       have h1:=((((((Sep.nil wb).lit 3 #[.int .i64 0] [0] 1 (wb.heap.size) rfl rfl rfl).lit 3 #[.int .i64 1,.int .i64 0] [1,0] 2 (wb.heap.size+1) (by simp) rfl rfl).lit 3 #[.int .i64 0,.int .i64 0,.int .i64 2,.int .i64 2] [0,0,2,2] 4 (wb.heap.size+1+1) (by simp) rfl rfl).lit 3 #[.int .i64 0,.int .i64 1,.int .i64 1] [0,1,1] 3 (wb.heap.size+1+1+1) (by simp) rfl rfl).lit 3 #[.int .i64 1,.int .i64 1,.int .i64 1,.int .i64 1] [1,1,1,1] 4 (wb.heap.size+1+1+1+1) (by simp) rfl rfl).allocBox (wb.heap.size+1+1+1+1+1) 22 [.slice none 0 0,.slice (some ⟨wb.heap.size,0,none⟩) 1 1,.slice (some ⟨wb.heap.size+1,0,none⟩) 2 2,.slice (some ⟨wb.heap.size+1+1,0,none⟩) 4 4,.slice (some ⟨wb.heap.size+1+1+1,0,none⟩) 3 3,.slice (some ⟨wb.heap.size+1+1+1+1,0,none⟩) 4 4] (by simp)
       go_wp2_with fail
       generalize (((((wb.alloc (.cells #[.int .i64 0] 3)).alloc (.cells #[.int .i64 1,.int .i64 0] 3)).alloc (.cells #[.int .i64 0,.int .i64 0,.int .i64 2,.int .i64 2] 3)).alloc (.cells #[.int .i64 0,.int .i64 1,.int .i64 1] 3)).alloc (.cells #[.int .i64 1,.int .i64 1,.int .i64 1,.int .i64 1] 3)).alloc (.cells #[.slice none 0 0,.slice (some ⟨wb.heap.size,0,none⟩) 1 1,.slice (some ⟨wb.heap.size+1,0,none⟩) 2 2,.slice (some ⟨wb.heap.size+1+1,0,none⟩) 4 4,.slice (some ⟨wb.heap.size+1+1+1,0,none⟩) 3 3,.slice (some ⟨wb.heap.size+1+1+1+1,0,none⟩) 4 4] 22)=wn at *;have H:=Hd h1;clear h1
       have hrow:∀ a:Nat,a<6→∃ A n c xs,wn.cell? ⟨wb.heap.size+1+1+1+1+1,a,none⟩=some (.slice A n c)∧n≤c∧Ints wn A n xs:=fun a ha=>by
        rcases(show a=0∨a=1∨a=2∨a=3∨a=4∨a=5 by omega) with rfl|rfl|rfl|rfl|rfl|rfl
        ·exact⟨_,_,_,_,H.c 0 0,Nat.le_refl _,Ints.nil_ _ none⟩
        ·exact⟨_,_,_,_,H.c 0 1,Nat.le_refl _,(H.ownInts 5 rfl).2.2⟩
        ·exact⟨_,_,_,_,H.c 0 2,Nat.le_refl _,(H.ownInts 4 rfl).2.2⟩
        ·exact⟨_,_,_,_,H.c 0 3,Nat.le_refl _,(H.ownInts 3 rfl).2.2⟩
        ·exact⟨_,_,_,_,H.c 0 4,Nat.le_refl _,(H.ownInts 2 rfl).2.2⟩
        ·exact⟨_,_,_,_,H.c 0 5,Nat.le_refl _,(H.ownInts 1 rfl).2.2⟩
       have HROW:=Hd hrow;have HBN:=Hd (a1m HBO H.base);have hgx:=(H.blockLt 0 rfl).2;clear hrow H;obtain⟨gx,hgx2⟩:∃ gx,wb.heap.size+1+1+1+1+1=gx:=⟨_,rfl⟩;rw[hgx2] at hgx HROW ⊢;have HGX:=Hd hgx;clear hgx hgx2
       go_loopw [79] (fun av wr=>∃ a:Nat,av=.int .i64 a∧a≤6∧Below wn.heap.size wn wr) (fun av _=>6-(intOf av).toNat)
       case atStart=>exact⟨0,rfl,by omega,Below.refl _ _⟩
       case round =>
        obtain⟨a,rfl,ha,hB⟩:=hrel;have HBR:=Hd hB;clear hB;obtain⟨wq,rfl⟩:∃ wq:World,wq=wr:=⟨_,rfl⟩;by_cases hla:a<6
        ·have da:decide ((a:Int)<6)=true:=by simp;omega
         obtain⟨SA,sn,sca,ss,hcell,hsca,hIs⟩:=HROW.out a hla;have cq:=(HBR.cell (p:=⟨gx,a,none⟩) HGX).trans hcell;have HIS:=Hd (hIs.below HBR);clear hcell hIs
         go_upto_region 18 with fail
         clear cq;have HBQ:=Hd (a1m HBN HBR);have HTQ:=Hd (HTT.below HBQ);have HG9:Hid (gt<wq.heap.size):=Hd (Nat.lt_of_lt_of_le HGT HBQ.size);have HR0:=Hd ((HBQ.cell (p:=⟨gt,0,none⟩) HGT).trans HQ0);have HR1:=Hd ((HBQ.cell (p:=⟨gt,1,none⟩) HGT).trans HQ1);have hrun:=d3z (k:=h) (by omega);have hh3:h≤3:=by omega
         have c0:=HR0.out;have c1:=HR1.out;have h3:=(Sep.nil wq).allocBox wq.heap.size 33 [.slice S1 ns sc,.slice D1 N dc,.slice S1 ns sc,.slice D1 N dc,.slice S1 ns sc,.slice D1 N dc] rfl;have K1:=Hd h3;clear h3
         go_wp2_with fail
         refine(a9s (ct:=3) (a3k.wide (show a3k _ (.agg #[.int .i64 ((o:Int)-1),.slice none 0 0,.slice none 0 0,.slice SA sn sca,.int .i64 0,.int .i64 h,.string ⟨#[]⟩]) ⟨(o:Int)-1,[],[],ss,0,h,⟨#[]⟩⟩ from⟨_,_,_,_,_,_,_,_,_,rfl,⟨Nat.le_refl _,Nat.le_refl _,hsca,Ints.nil_ _ none,Ints.nil_ _ none,HIS.below K1.base,⟨by show _≤(o:Int)-1;omega,by show(o:Int)-1≤_;omega⟩,a4p,⟨by show _≤(h:Int);omega,by show(h:Int)≤_;omega⟩,by show 0≤_;omega⟩⟩)) (b8u K1 0 rfl (L:=[([2,2],DD),([2,2],DD),([2,2],DD)]) ((a5w (K1.oldTen HTQ)).append ((a5w (K1.oldTen HTQ)).append (a5w (K1.oldTen HTQ)))) rfl hh3)).mono ?_;rintro e1 y1 ⟨rfl,hb9⟩;have K2:=Hd (K1.below hb9);clear hb9 c0 c1 K1;have c0:=K2.oC HR0.out HG9.out;have c1:=K2.oC HR1.out HG9.out;have K3:=Hd (K2.lit 3 #[.int .i64 3] [3] 1 y1.heap.size rfl rfl rfl);have d0:=K3.oC HR0.out HG9.out;have d1:=K3.oC HR1.out HG9.out;have h4:=(K2.lit 3 #[.int .i64 3] [3] 1 y1.heap.size rfl rfl rfl).allocBox (y1.heap.size+1) 33 [.slice S1 ns sc,.slice D1 N dc,.slice (some ⟨y1.heap.size,0,none⟩) 1 1,.slice none 0 0,.slice S1 ns sc,.slice D1 N dc] (by simp);have K4:=Hd h4;clear h4
         go_wp2_with fail
         refine(a9s (ct:=3) (a3k.wide (show a3k _ (.agg #[.int .i64 ((o:Int)-1),.slice none 0 0,.slice none 0 0,.slice SA sn sca,.int .i64 0,.int .i64 0,.string ⟨#[]⟩]) ⟨(o:Int)-1,[],[],ss,0,0,⟨#[]⟩⟩ from⟨_,_,_,_,_,_,_,_,_,rfl,⟨Nat.le_refl _,Nat.le_refl _,hsca,Ints.nil_ _ none,Ints.nil_ _ none,HIS.below K4.base,⟨by show _≤(o:Int)-1;omega,by show(o:Int)-1≤_;omega⟩,a4p,a4p,by show 0≤_;omega⟩⟩)) (b8u K4 0 rfl (L:=[([2,2],DD),([3],[]),([2,2],DD)]) ((a5w (K4.oldTen HTQ)).append ((a5w (s:=[3]) (d:=[]) (a1s (K4.ownInts 1 rfl).2.2 (Nat.le_refl _) (Ints.nil_ _ none) (Nat.le_refl _))).append (a5w (K4.oldTen HTQ)))) rfl hh3)).mono ?_;rintro e2 y2 ⟨rfl,hb9⟩;have K5:=Hd (K4.below hb9);clear hb9 c0 c1 d0 d1 K4 K3;have h6:=K5.lit 3 #[.int .i64 2,.int .i64 2] [2,2] 2 y2.heap.size rfl rfl rfl;have K6:=Hd h6;clear h6
         go_wp2_with fail
         refine(a9s (ct:=0) (a3k.wide (show a3k _ (.agg #[.int .i64 ((o:Int)-1),.slice none 0 0,.slice (some ⟨y2.heap.size,0,none⟩) 2 2,.slice SA sn sca,.int .i64 0,.int .i64 0,.string ⟨#[]⟩]) ⟨(o:Int)-1,[],[2,2],ss,0,0,⟨#[]⟩⟩ from⟨_,_,_,_,_,_,_,_,_,rfl,⟨Nat.le_refl _,Nat.le_refl _,hsca,Ints.nil_ _ none,(K6.ownInts 0 rfl).2.2,HIS.below K6.base,⟨by show _≤(o:Int)-1;omega,by show(o:Int)-1≤_;omega⟩,a4p,a4p,by show 0≤_;omega⟩⟩)) (b7b _)).mono ?_;rintro e3 y3 ⟨rfl,hb9⟩;have K7:=Hd (K6.below hb9);clear hb9;go_wp2;go_roundw
         case rel=>exact⟨a+1,by go_num,by omega,a1m HBR K7.base⟩
         case measure=>simp[intOf];omega
        ·have da:decide ((a:Int)<6)=false:=by simp;omega
         go_wp2;go_roundw
         case rel=>exact⟨h+1,by go_num,by omega,a1m HBN HBR⟩
         case measure=>simp[intOf];omega
      ·have d2:decide ((h:Int)<4)=false:=by simp;omega
       have d2n:decide (h<4)=false:=by simpa using hlh
       go_wp2;go_roundw
       case rel=>exact⟨o+1,by go_num,by omega,HBO⟩
       case measure=>simp[intOf];omega
    ·have d1:decide ((o:Int)-1<23)=false:=by simp;omega
     obtain⟨wq,rfl⟩:∃ wq:World,wq=wr:=⟨_,rfl⟩
     go_wp2_with fail
     refine(a7z wq).mono ?_;rintro e1 w1 ⟨rfl,hb1⟩;go_wp2;go_ret;exact⟨by trivial,a1m HBM (a1m HBO hb1)⟩
end Go.Proofs.YtjblengklgkgfaaGreat
