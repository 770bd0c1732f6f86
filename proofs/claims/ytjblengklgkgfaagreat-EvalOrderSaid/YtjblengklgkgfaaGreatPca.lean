import Derived.Test.YtjblengklgkgfaaGreatPbv
set_option maxRecDepth 100000
set_option maxHeartbeats 12800000
namespace Go.Proofs.YtjblengklgkgfaaGreat
open Go.RowKit Go.Proofs.Tryz
variable {A:Option Addr} {K:Act→World→Prop} {Q:Exit→Act→World→Prop} {a:Act} {c m n:Nat} {l:List a0c} {o:Oper} {us vs:List Value} {v:Value} {w w0:World}
theorem Sep.emptyRowAt (h:Sep w0 w l)(g:Nat)(hg:w.heap.size=g):Sep w0 (w.alloc (.cells #[] 38)) (.row 38 7 (.slice (some ⟨g,0,none⟩) 0 0) 0 []::l):=by
 subst hg;exact h.emptyRow
theorem a1u {g:Nat}{cs:Array Value}{t:TypeId}{f:Nat × Nat}(hb:w.heap[g]?=some (.cells cs t f))(hl:cs.size=m*7)(h1:∀ u∈cs.toList,u.oneCell'=true)(hm:m≤900):NodC w (some ⟨g,0,none⟩) m cs.toList:=by
 refine⟨by simpa using hl,h1,fun ad e j u hu=>?_,(fun e=>by cases e),hm⟩;injection e with e
 subst e;rw[a3j,show w.cell? ⟨g,j,none⟩=cs[j]? from by simp[World.cell?,hb],←Array.getElem?_toList];exact hu
theorem c0q (s y:Operand)(t:TypeId)
  (ho:o.op=.call { callee:=.builtin .append,args:=#[s,y],argTypes:=#[t,t] })(ht:prog.underlying t=some (.slice 38))
  (H:Sep w0 w l)(i:Nat)(hi:l[i]?=some (.row 38 7 v n us))(hs:a.eval s=v)(hy:a.eval y=.slice A m c)(hM:NodC w A m vs)
  (hn:n≤1000)
  (h:∀ v' w', Sep w0 w' (l.set i (.row 38 7 v' (n+m) (us++vs)))→K (a.put o.dst v') w'):o.wp prog a w K Q:=by
 obtain⟨ti,g1,g2,g3,g4⟩:=a6o;have hr:w.ownsRow w0.heap.size 38 7 v n us:=H.at_ i hi;have hfew:=hM.few
 cases A with
 | some ad =>
  obtain⟨v', w', hrun,h5,h6,_,h8⟩:=run_append_own_at (P:=prog) w w0.heap.size t o.type 38 ti _ 7 112 ht g1 g2 g3 g4 (by rfl) (by omega) v n us hr ad m c vs hM.len (hM.at_ ad rfl) hM.one (by unfold maxLen;omega) (by omega) H.size;unfold Oper.wp execOp;simp only[ho,resolve,invoke,builtin,Sem.run_bind,Sem.run_pure,Result.andThen_ok,List.map_toArray,List.map_cons,List.map_nil,hs,hy,hrun]
  exact h v' w' (H.change i hi h6 h5 fun b hb=>by
   have hb:v'.ownBlock=some b:=hb;rcases h8 with e|e
   ·exact .inl (e.symm.trans hb)
   ·rw[e] at hb;injection hb with hb;subst hb;exact .inr (Nat.le_refl _))
 | none =>
  have hm:m=0:=hM.none_ rfl;subst hm;have hvs:vs=[]:=List.eq_nil_of_length_eq_zero (by have:=hM.len;omega)
  have hrun:(Builtin.append_ #[t,t] o.type #[v,.slice none 0 c]).run prog w=.ok v w:=by
   rcases hr.2 with ⟨rfl,rfl⟩|⟨g,cap,cur,rfl,_,_,hnc,_⟩
   ·simp[Builtin.append_,run_underlying ht,sizeOf,typeInfo,g1,Builtin.lenOf,Builtin.firstCells]
   ·simp[Builtin.append_,run_underlying ht,sizeOf,typeInfo,g1,Builtin.lenOf,Builtin.firstCells,hnc,storeCells]
  unfold Oper.wp execOp;simp only[ho,resolve,invoke,builtin,Sem.run_bind,Sem.run_pure,Result.andThen_ok,List.map_toArray,List.map_cons,List.map_nil,hs,hy,hrun]
  have hset:l.set i (.row 38 7 v (n+0) (us++vs))=l:=by
   rw[hvs,List.append_nil,Nat.add_zero];exact b9l hi
  exact h v w (by rw[hset];exact H)
theorem a0e {ops:Array Oper}{E:Prop}(hgd:o.guard=none)(s y:Operand)(t:TypeId)
  (ho:o.op=.call { callee:=.builtin .append,args:=#[s,y],argTypes:=#[t,t] })(ht:prog.underlying t=some (.slice 38))
  (H:Sep w0 w l)(i:Nat)(hi:l[i]?=some (.row 38 7 v n us))(hs:a.eval s=v)(hy:a.eval y=.slice A m c)(hM:NodC w A m vs)
  (hn:n≤1000)
  (h:∀ v' w', Sep w0 w' (l.set i (.row 38 7 v' (n+m) (us++vs)))→K (a.put o.dst v') w'):
  if Region.wanted o (yielded ops a.tmps)=true then Oper.wp prog o a w K Q else E:=by
 have hw:Region.wanted o (yielded ops a.tmps)=true:=by simp[Region.wanted,hgd]
 rw[iP hw];exact c0q s y t ho ht H i hi hs hy hM hn h
end Go.Proofs.YtjblengklgkgfaaGreat
