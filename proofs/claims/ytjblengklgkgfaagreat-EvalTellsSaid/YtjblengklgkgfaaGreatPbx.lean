import Derived.Lib.SmallJoins
import Derived.Test.YtjblengklgkgfaaGreatPaa
set_option maxRecDepth 100000
set_option maxHeartbeats 12800000
namespace Go.Proofs.YtjblengklgkgfaaGreat
open Go.ChangeShapes Go.WideShapes Go.ChangeAt Go.RowKit Go.Joins Go.Deep Go.Proofs.Tryz
variable {e t:TypeId}
section
variable {H : Type} {enc : TypeId × Value → H} {P : Program} {W : World} {r : Reach} {b0 : Nat}
theorem c9c {a:Option Addr}{len cap fuel:Nat}{x:DataW H × List MemPlace}(ht:P.underlying t=some (.slice e))(he:P.underlying e=some (.int .i64))(hc:P.cellsOf e=1)(hby:P.bytesOf e=8)
  (hf:DataW.trod enc P W 0 (fun _=>true) true fuel t [.slice a len cap]=some x)(hsz:∀ n∈x.1.weights P t,n≤reachBytes):
  ∃ zs,e1d .i64 W a len cap zs∧len≤17592186043904∧len≤cap:=by
 rcases open_ints ht he hc hf with ⟨hcs,_⟩|⟨y,l,c,zs,hcs,_,hl,hm,hz,hx,hcell,hwz⟩
 ·simp at hcs;obtain⟨rfl,rfl,rfl⟩:=hcs;exact⟨[],.inl ⟨rfl,rfl,rfl,rfl⟩,by omega,by omega⟩
 ·simp at hcs;obtain⟨rfl,rfl,rfl⟩:=hcs;have hzl:zs.length=cap:=by simpa using hz
  have hb:=hsz ((List.length (lits (H:=H) .i64 (zs.take len))+List.length (lits (H:=H) .i64 (zs.drop len)))*P.bytesOf e) (by rw[hx];simp[DataW.weights,ht]);rw[hby] at hb;simp only[lits,List.length_map,List.length_take,List.length_drop,reachBytes] at hb;exact⟨zs,.inr ⟨_,rfl,hl,hm,hzl,hcell,hwz⟩,by omega,hl⟩
theorem a4f {v:Value}{d:DataW H}{p:List MemPlace}(ht:P.underlying t=some (.slice e))(he:P.underlying e=some (.int .i64))(hc:P.cellsOf e=1)(hby:P.bytesOf e=8)
  (hv:Value.okWide P W r b0 t v)(h:DataW.Trod enc P W 0 (fun _=>true) true t v d p)(hsz:∀ n∈d.weights P t,n≤reachBytes):
  ∃ a len cap zs,v=.slice a len cap∧e1d .i64 W a len cap zs∧len≤17592186043904∧len≤cap:=by
 obtain⟨a,len,cap,rfl⟩:=okWide_slice ht hv;obtain⟨fuel,hf⟩:=h;obtain⟨zs,h1,h2⟩:=c9c (x:=(d,p)) ht he hc hby (by simpa [Value.cells] using hf) hsz;exact⟨a,len,cap,zs,rfl,h1,h2⟩
end
end Go.Proofs.YtjblengklgkgfaaGreat
