import Derived.Test.YtdcmanhgekjhgaaGreatDoorPbf
set_option maxRecDepth 100000
set_option maxHeartbeats 12800000
namespace Go.Proofs.YtdcmanhgekjhgaaGreatDoor
open Go.RowKit Go.Proofs.Tryz
variable {w:World}
theorem Tryz.sizeAsked:(prog.info? 188).map (·.size)=some 6:=by kernel_rfl
theorem a1o {fn:Func}{R:Ending→World→Prop}{a:Act}{p u:Tmp}(g:Nat)(x0 x1 x2 x3 x4 x5 z:Value)(h:fn.results=#[.cell p 188,.tmp u])(hp:a.tmps.getD p undef=.pointer (some ⟨g,0,none⟩))
  (hz:a.tmps.getD u undef=z)(hg:w.heap[g]?=some (.cells #[x0,x1,x2,x3,x4,x5] 188 (0,0)))(hd:a.defers=[])(hR:R (.returned (.tuple #[.agg #[x0,x1,x2,x3,x4,x5],z])) w):bodyPost prog fn R .ret a w:=by
 refine bodyPost_ret_by ?_ hd hR;have hp' : a.tmps[p]?.getD undef=.pointer (some ⟨g,0,none⟩):=by simpa using hp
 have hz' : a.tmps[u]?.getD undef=z:=by simpa using hz
 rw[results_cell_tmp h];simp[hp', hz', asAddr,run_loadVar_row w g _ 188 _ _ _ hg underlying188 rfl Tryz.sizeAsked,Result.andThen]
def a2f (op:Int):Int × Bool × Bool × Bool × Bool × Bool × Bool :=
 if op=1 then(0,false,true,false,false,false,true) else if op=2 then(0,false,true,false,true,false,true) else if op=3 then(0,false,true,true,false,false,true)
 else if op=4∨op=5 then(1,false,false,false,false,false,true) else if 6≤op∧op≤11 then(2,false,false,false,false,false,true) else if op=12 then(3,false,false,false,false,false,true)
 else if op=13∨op=15 then(1,false,false,true,false,false,true) else if op=14 then(1,false,true,true,false,false,true) else if op=16 then(1,false,false,true,true,false,true)
 else if op=17 then(2,true,false,true,false,false,true) else if op=18∨op=20 then(1,false,false,true,false,true,true) else if op=19 then(2,false,false,true,false,false,true) else(0,false,false,false,false,false,false)
def e4d (w:World) (r:Int × Bool × Bool × Bool × Bool × Bool × Bool) (e:Ending) (w' : World):Prop :=
 e=.returned (.tuple #[.agg #[.int .i64 r.1,.bool r.2.1,.bool r.2.2.1,.bool r.2.2.2.1,.bool r.2.2.2.2.1,.bool r.2.2.2.2.2.1],.bool r.2.2.2.2.2.2])∧Below w.heap.size w w'
theorem d5y (op:Int)(w:World):
  Calls prog 159 #[.int .i64 op] w (e4d w (a2f op)):=by
 by_cases h1:op=1
 ·subst h1
  go_enter func159,ntmps159
  go_wp2;have H:=(Sep.nil w).allocBox w.heap.size 188 [.int .i64 0,.bool false,.bool true,.bool false,.bool false,.bool false] rfl;exact a1o w.heap.size _ _ _ _ _ _ _ results159 rfl rfl (H.heap 0 rfl) rfl ⟨by simp[a2f],H.base⟩
 by_cases h2:op=2
 ·subst h2;clear h1
  go_enter func159,ntmps159
  go_wp2;have H:=(Sep.nil w).allocBox w.heap.size 188 [.int .i64 0,.bool false,.bool true,.bool false,.bool true,.bool false] rfl;exact a1o w.heap.size _ _ _ _ _ _ _ results159 rfl rfl (H.heap 0 rfl) rfl ⟨by simp[a2f],H.base⟩
 by_cases h3:op=3
 ·subst h3;clear h1 h2
  go_enter func159,ntmps159
  go_wp2;have H:=(Sep.nil w).allocBox w.heap.size 188 [.int .i64 0,.bool false,.bool true,.bool true,.bool false,.bool false] rfl;exact a1o w.heap.size _ _ _ _ _ _ _ results159 rfl rfl (H.heap 0 rfl) rfl ⟨by simp[a2f],H.base⟩
 by_cases h4:op=4
 ·subst h4;clear h1 h2 h3
  go_enter func159,ntmps159
  go_wp2;have H:=(Sep.nil w).allocBox w.heap.size 188 [.int .i64 1,.bool false,.bool false,.bool false,.bool false,.bool false] rfl;exact a1o w.heap.size _ _ _ _ _ _ _ results159 rfl rfl (H.heap 0 rfl) rfl ⟨by simp[a2f],H.base⟩
 by_cases h5:op=5
 ·subst h5;clear h1 h2 h3 h4
  go_enter func159,ntmps159
  go_wp2;have H:=(Sep.nil w).allocBox w.heap.size 188 [.int .i64 1,.bool false,.bool false,.bool false,.bool false,.bool false] rfl;exact a1o w.heap.size _ _ _ _ _ _ _ results159 rfl rfl (H.heap 0 rfl) rfl ⟨by simp[a2f],H.base⟩
 by_cases h6:op=6
 ·subst h6;clear h1 h2 h3 h4 h5
  go_enter func159,ntmps159
  go_wp2;have H:=(Sep.nil w).allocBox w.heap.size 188 [.int .i64 2,.bool false,.bool false,.bool false,.bool false,.bool false] rfl;exact a1o w.heap.size _ _ _ _ _ _ _ results159 rfl rfl (H.heap 0 rfl) rfl ⟨by simp[a2f],H.base⟩
 by_cases h7:op=7
 ·subst h7;clear h1 h2 h3 h4 h5 h6
  go_enter func159,ntmps159
  go_wp2;have H:=(Sep.nil w).allocBox w.heap.size 188 [.int .i64 2,.bool false,.bool false,.bool false,.bool false,.bool false] rfl;exact a1o w.heap.size _ _ _ _ _ _ _ results159 rfl rfl (H.heap 0 rfl) rfl ⟨by simp[a2f],H.base⟩
 by_cases h8:op=8
 ·subst h8;clear h1 h2 h3 h4 h5 h6 h7
  go_enter func159,ntmps159
  go_wp2;have H:=(Sep.nil w).allocBox w.heap.size 188 [.int .i64 2,.bool false,.bool false,.bool false,.bool false,.bool false] rfl;exact a1o w.heap.size _ _ _ _ _ _ _ results159 rfl rfl (H.heap 0 rfl) rfl ⟨by simp[a2f],H.base⟩
 by_cases h9:op=9
 ·subst h9;clear h1 h2 h3 h4 h5 h6 h7 h8
  go_enter func159,ntmps159
  go_wp2;have H:=(Sep.nil w).allocBox w.heap.size 188 [.int .i64 2,.bool false,.bool false,.bool false,.bool false,.bool false] rfl;exact a1o w.heap.size _ _ _ _ _ _ _ results159 rfl rfl (H.heap 0 rfl) rfl ⟨by simp[a2f],H.base⟩
 by_cases h10:op=10
 ·subst h10;clear h1 h2 h3 h4 h5 h6 h7 h8 h9
  go_enter func159,ntmps159
  go_wp2;have H:=(Sep.nil w).allocBox w.heap.size 188 [.int .i64 2,.bool false,.bool false,.bool false,.bool false,.bool false] rfl;exact a1o w.heap.size _ _ _ _ _ _ _ results159 rfl rfl (H.heap 0 rfl) rfl ⟨by simp[a2f],H.base⟩
 by_cases h11:op=11
 ·subst h11;clear h1 h2 h3 h4 h5 h6 h7 h8 h9 h10
  go_enter func159,ntmps159
  go_wp2;have H:=(Sep.nil w).allocBox w.heap.size 188 [.int .i64 2,.bool false,.bool false,.bool false,.bool false,.bool false] rfl;exact a1o w.heap.size _ _ _ _ _ _ _ results159 rfl rfl (H.heap 0 rfl) rfl ⟨by simp[a2f],H.base⟩
 by_cases h12:op=12
 ·subst h12;clear h1 h2 h3 h4 h5 h6 h7 h8 h9 h10 h11
  go_enter func159,ntmps159
  go_wp2;have H:=(Sep.nil w).allocBox w.heap.size 188 [.int .i64 3,.bool false,.bool false,.bool false,.bool false,.bool false] rfl;exact a1o w.heap.size _ _ _ _ _ _ _ results159 rfl rfl (H.heap 0 rfl) rfl ⟨by simp[a2f],H.base⟩
 by_cases h13:op=13
 ·subst h13;clear h1 h2 h3 h4 h5 h6 h7 h8 h9 h10 h11 h12
  go_enter func159,ntmps159
  go_wp2;have H:=(Sep.nil w).allocBox w.heap.size 188 [.int .i64 1,.bool false,.bool false,.bool true,.bool false,.bool false] rfl;exact a1o w.heap.size _ _ _ _ _ _ _ results159 rfl rfl (H.heap 0 rfl) rfl ⟨by simp[a2f],H.base⟩
 by_cases h14:op=14
 ·subst h14;clear h1 h2 h3 h4 h5 h6 h7 h8 h9 h10 h11 h12 h13
  go_enter func159,ntmps159
  go_wp2;have H:=(Sep.nil w).allocBox w.heap.size 188 [.int .i64 1,.bool false,.bool true,.bool true,.bool false,.bool false] rfl;exact a1o w.heap.size _ _ _ _ _ _ _ results159 rfl rfl (H.heap 0 rfl) rfl ⟨by simp[a2f],H.base⟩
 by_cases h15:op=15
 ·subst h15;clear h1 h2 h3 h4 h5 h6 h7 h8 h9 h10 h11 h12 h13 h14
  go_enter func159,ntmps159
  go_wp2;have H:=(Sep.nil w).allocBox w.heap.size 188 [.int .i64 1,.bool false,.bool false,.bool true,.bool false,.bool false] rfl;exact a1o w.heap.size _ _ _ _ _ _ _ results159 rfl rfl (H.heap 0 rfl) rfl ⟨by simp[a2f],H.base⟩
 by_cases h16:op=16
 ·subst h16;clear h1 h2 h3 h4 h5 h6 h7 h8 h9 h10 h11 h12 h13 h14 h15
  go_enter func159,ntmps159
  go_wp2;have H:=(Sep.nil w).allocBox w.heap.size 188 [.int .i64 1,.bool false,.bool false,.bool true,.bool true,.bool false] rfl;exact a1o w.heap.size _ _ _ _ _ _ _ results159 rfl rfl (H.heap 0 rfl) rfl ⟨by simp[a2f],H.base⟩
 by_cases h17:op=17
 ·subst h17;clear h1 h2 h3 h4 h5 h6 h7 h8 h9 h10 h11 h12 h13 h14 h15 h16
  go_enter func159,ntmps159
  go_wp2;have H:=(Sep.nil w).allocBox w.heap.size 188 [.int .i64 2,.bool true,.bool false,.bool true,.bool false,.bool false] rfl;exact a1o w.heap.size _ _ _ _ _ _ _ results159 rfl rfl (H.heap 0 rfl) rfl ⟨by simp[a2f],H.base⟩
 by_cases h18:op=18
 ·subst h18;clear h1 h2 h3 h4 h5 h6 h7 h8 h9 h10 h11 h12 h13 h14 h15 h16 h17
  go_enter func159,ntmps159
  go_wp2;have H:=(Sep.nil w).allocBox w.heap.size 188 [.int .i64 1,.bool false,.bool false,.bool true,.bool false,.bool true] rfl;exact a1o w.heap.size _ _ _ _ _ _ _ results159 rfl rfl (H.heap 0 rfl) rfl ⟨by simp[a2f],H.base⟩
 by_cases h19:op=19
 ·subst h19;clear h1 h2 h3 h4 h5 h6 h7 h8 h9 h10 h11 h12 h13 h14 h15 h16 h17 h18
  go_enter func159,ntmps159
  go_wp2;have H:=(Sep.nil w).allocBox w.heap.size 188 [.int .i64 2,.bool false,.bool false,.bool true,.bool false,.bool false] rfl;exact a1o w.heap.size _ _ _ _ _ _ _ results159 rfl rfl (H.heap 0 rfl) rfl ⟨by simp[a2f],H.base⟩
 by_cases h20:op=20
 ·subst h20;clear h1 h2 h3 h4 h5 h6 h7 h8 h9 h10 h11 h12 h13 h14 h15 h16 h17 h18 h19
  go_enter func159,ntmps159
  go_wp2;have H:=(Sep.nil w).allocBox w.heap.size 188 [.int .i64 1,.bool false,.bool false,.bool true,.bool false,.bool true] rfl;exact a1o w.heap.size _ _ _ _ _ _ _ results159 rfl rfl (H.heap 0 rfl) rfl ⟨by simp[a2f],H.base⟩
 have HX:=Hd (show a2f op=(0,false,false,false,false,false,false) by rw[a2f];repeat rw[iN (by omega)]);have b1:(op==1)=false:=by simpa using h1
 have b2:(op==2)=false:=by simpa using h2
 have b3:(op==3)=false:=by simpa using h3
 have b4:(op==4)=false:=by simpa using h4
 have b5:(op==5)=false:=by simpa using h5
 have b6:(op==6)=false:=by simpa using h6
 have b7:(op==7)=false:=by simpa using h7
 have b8:(op==8)=false:=by simpa using h8
 have b9:(op==9)=false:=by simpa using h9
 have b10:(op==10)=false:=by simpa using h10
 have b11:(op==11)=false:=by simpa using h11
 have b12:(op==12)=false:=by simpa using h12
 have b13:(op==13)=false:=by simpa using h13
 have b14:(op==14)=false:=by simpa using h14
 have b15:(op==15)=false:=by simpa using h15
 have b16:(op==16)=false:=by simpa using h16
 have b17:(op==17)=false:=by simpa using h17
 have b18:(op==18)=false:=by simpa using h18
 have b19:(op==19)=false:=by simpa using h19
 have b20:(op==20)=false:=by simpa using h20
 clear h1 h2 h3 h4 h5 h6 h7 h8 h9 h10 h11 h12 h13 h14 h15 h16 h17 h18 h19 h20
 go_enter func159,ntmps159
 go_wp2;have H:=(Sep.nil w).allocBox w.heap.size 188 [.int .i64 0,.bool false,.bool false,.bool false,.bool false,.bool false] rfl;exact a1o w.heap.size _ _ _ _ _ _ _ results159 rfl rfl (H.heap 0 rfl) rfl ⟨by rw[HX.out];rfl,H.base⟩
def fitK (r:Int × Bool × Bool × Bool × Bool × Bool × Bool) (nd:a0l) (k:Int):Bool :=
 if r.2.2.2.2.2.2=false∨k<r.1∨(r.1<k∧r.2.1=false) then false
 else(r.2.2.1||decide (nd.shape.length=0))&&(r.2.2.2.1||decide (nd.a.length=0))&&(r.2.2.2.2.1||decide (nd.n=0))&&(r.2.2.2.2.2.1||decide (nd.how=0))
theorem e0n (nd:a0l)(k:Int):fitK (a2f nd.op) nd k=a5l nd k:=by
 have key:∀(m:Int) (s a v h:Bool),0≤m→fitK (m,false,s,a,v,h,true) nd k=b2i (m,s,a,v,h) nd k:=by
  intro m s a v h hm;rw[fitK,b2i];by_cases g:k=m
  ·rw[iN (by simp;omega),iN (by simp only;omega)]
  ·rw[iP (by simp;omega),iP (by simp only;omega)]
 rw[a5l];by_cases g0:nd.op=1
 ·have h1:a2f nd.op=(0,false,true,false,false,false,true):=by rw[a2f];rw[iP g0]
  have h2:a0j nd.op=(0,true,false,false,false):=by rw[a0j];rw[iP g0]
  rw[h1,h2];exact key _ _ _ _ _ (by omega)
 by_cases g1:nd.op=2
 ·have h1:a2f nd.op=(0,false,true,false,true,false,true):=by rw[a2f];rw[iN g0];rw[iP g1]
  have h2:a0j nd.op=(0,true,false,true,false):=by rw[a0j];rw[iN g0];rw[iP g1]
  rw[h1,h2];exact key _ _ _ _ _ (by omega)
 by_cases g2:nd.op=3
 ·have h1:a2f nd.op=(0,false,true,true,false,false,true):=by rw[a2f];rw[iN g0];rw[iN g1];rw[iP g2]
  have h2:a0j nd.op=(0,true,true,false,false):=by rw[a0j];rw[iN g0];rw[iN g1];rw[iP g2]
  rw[h1,h2];exact key _ _ _ _ _ (by omega)
 by_cases g3:nd.op=4∨nd.op=5
 ·have h1:a2f nd.op=(1,false,false,false,false,false,true):=by rw[a2f];rw[iN g0];rw[iN g1];rw[iN g2];rw[iP g3]
  have h2:a0j nd.op=(1,false,false,false,false):=by rw[a0j];rw[iN g0];rw[iN g1];rw[iN g2];rw[iP g3]
  rw[h1,h2];exact key _ _ _ _ _ (by omega)
 by_cases g4:6≤nd.op∧nd.op≤11
 ·have h1:a2f nd.op=(2,false,false,false,false,false,true):=by rw[a2f];rw[iN g0];rw[iN g1];rw[iN g2];rw[iN g3];rw[iP g4]
  have h2:a0j nd.op=(2,false,false,false,false):=by rw[a0j];rw[iN g0];rw[iN g1];rw[iN g2];rw[iN g3];rw[iP g4]
  rw[h1,h2];exact key _ _ _ _ _ (by omega)
 by_cases g5:nd.op=12
 ·have h1:a2f nd.op=(3,false,false,false,false,false,true):=by rw[a2f];rw[iN g0];rw[iN g1];rw[iN g2];rw[iN g3];rw[iN g4];rw[iP g5]
  have h2:a0j nd.op=(3,false,false,false,false):=by rw[a0j];rw[iN g0];rw[iN g1];rw[iN g2];rw[iN g3];rw[iN g4];rw[iP g5]
  rw[h1,h2];exact key _ _ _ _ _ (by omega)
 by_cases g6:nd.op=13∨nd.op=15
 ·have h1:a2f nd.op=(1,false,false,true,false,false,true):=by rw[a2f];rw[iN g0];rw[iN g1];rw[iN g2];rw[iN g3];rw[iN g4];rw[iN g5];rw[iP g6]
  have h2:a0j nd.op=(1,false,true,false,false):=by rw[a0j];rw[iN g0];rw[iN g1];rw[iN g2];rw[iN g3];rw[iN g4];rw[iN g5];rw[iP g6]
  rw[h1,h2];exact key _ _ _ _ _ (by omega)
 by_cases g7:nd.op=14
 ·have h1:a2f nd.op=(1,false,true,true,false,false,true):=by rw[a2f];rw[iN g0];rw[iN g1];rw[iN g2];rw[iN g3];rw[iN g4];rw[iN g5];rw[iN g6];rw[iP g7]
  have h2:a0j nd.op=(1,true,true,false,false):=by rw[a0j];rw[iN g0];rw[iN g1];rw[iN g2];rw[iN g3];rw[iN g4];rw[iN g5];rw[iN g6];rw[iP g7]
  rw[h1,h2];exact key _ _ _ _ _ (by omega)
 by_cases g8:nd.op=16
 ·have h1:a2f nd.op=(1,false,false,true,true,false,true):=by rw[a2f];rw[iN g0];rw[iN g1];rw[iN g2];rw[iN g3];rw[iN g4];rw[iN g5];rw[iN g6];rw[iN g7];rw[iP g8]
  have h2:a0j nd.op=(1,false,true,true,false):=by rw[a0j];rw[iN g0];rw[iN g1];rw[iN g2];rw[iN g3];rw[iN g4];rw[iN g5];rw[iN g6];rw[iN g7];rw[iP g8]
  rw[h1,h2];exact key _ _ _ _ _ (by omega)
 by_cases g9:nd.op=17
 ·have h1:a2f nd.op=(2,true,false,true,false,false,true):=by rw[a2f];rw[iN g0];rw[iN g1];rw[iN g2];rw[iN g3];rw[iN g4];rw[iN g5];rw[iN g6];rw[iN g7];rw[iN g8];rw[iP g9]
  have h2:a0j nd.op=(-1,false,true,false,false):=by rw[a0j];rw[iN g0];rw[iN g1];rw[iN g2];rw[iN g3];rw[iN g4];rw[iN g5];rw[iN g6];rw[iN g7];rw[iN g8];rw[iP g9]
  rw[h1,h2,fitK,b2i];by_cases g:k<2
  ·rw[iP (by simp;omega),iP (.inr (.inr ⟨rfl,g⟩))]
  ·rw[iN (by simp;omega),iN (by simp only;omega)]
 by_cases g10:nd.op=18∨nd.op=20
 ·have h1:a2f nd.op=(1,false,false,true,false,true,true):=by rw[a2f];rw[iN g0];rw[iN g1];rw[iN g2];rw[iN g3];rw[iN g4];rw[iN g5];rw[iN g6];rw[iN g7];rw[iN g8];rw[iN g9];rw[iP g10]
  have h2:a0j nd.op=(1,false,true,false,true):=by rw[a0j];rw[iN g0];rw[iN g1];rw[iN g2];rw[iN g3];rw[iN g4];rw[iN g5];rw[iN g6];rw[iN g7];rw[iN g8];rw[iN g9];rw[iP g10]
  rw[h1,h2];exact key _ _ _ _ _ (by omega)
 by_cases g11:nd.op=19
 ·have h1:a2f nd.op=(2,false,false,true,false,false,true):=by rw[a2f];rw[iN g0];rw[iN g1];rw[iN g2];rw[iN g3];rw[iN g4];rw[iN g5];rw[iN g6];rw[iN g7];rw[iN g8];rw[iN g9];rw[iN g10];rw[iP g11]
  have h2:a0j nd.op=(2,false,true,false,false):=by rw[a0j];rw[iN g0];rw[iN g1];rw[iN g2];rw[iN g3];rw[iN g4];rw[iN g5];rw[iN g6];rw[iN g7];rw[iN g8];rw[iN g9];rw[iN g10];rw[iP g11]
  rw[h1,h2];exact key _ _ _ _ _ (by omega)
 have h1:a2f nd.op=(0,false,false,false,false,false,false):=by rw[a2f];rw[iN g0];rw[iN g1];rw[iN g2];rw[iN g3];rw[iN g4];rw[iN g5];rw[iN g6];rw[iN g7];rw[iN g8];rw[iN g9];rw[iN g10];rw[iN g11]
 have h2:a0j nd.op=(-2,false,false,false,false):=by rw[a0j];rw[iN g0];rw[iN g1];rw[iN g2];rw[iN g3];rw[iN g4];rw[iN g5];rw[iN g6];rw[iN g7];rw[iN g8];rw[iN g9];rw[iN g10];rw[iN g11]
 rw[h1,h2,fitK,b2i];simp
theorem d5z {v:Value}{nd:a0l}(k:Int)(h:a6i w v nd):
  Calls prog 138 #[v,.int .i64 k] w fun e w'=>e=.returned (.bool (a5l nd k))∧Below w.heap.size w w':=by
 obtain⟨A,na,ca,B,nb,cb,C,nc,cc,rfl,hL⟩:=h;have h1:=(Sep.nil w).allocBox w.heap.size 49 [.int .i64 nd.op,.slice A na ca,.slice B nb cb,.slice C nc cc,.int .i64 nd.n,.int .i64 nd.how,.string nd.note] rfl;have HBL:=Hd (show nd.shape.length=nb from hL.inB.len);have HCL:=Hd (show nd.a.length=nc from hL.inC.len);have C1:=fun w=>d5y nd.op w
 have HFF:=Hd (e0n nd k);obtain⟨m,more,s,a,v,h,ok,ht⟩:∃ m more s a v h ok,a2f nd.op=(m,more,s,a,v,h,ok):=⟨_,_,_,_,_,_,_,rfl⟩;simp only[ht] at C1;have HF:=Hd (show fitK (m,more,s,a,v,h,ok) nd k=a5l nd k by rw[←ht];exact HFF);clear ht hL HFF
 go_enter func138,ntmps138
 go_upto_region 1 with fail
 generalize w.alloc (.cells #[.int .i64 nd.op,.slice A na ca,.slice B nb cb,.slice C nc cc,.int .i64 nd.n,.int .i64 nd.how,.string nd.note] 49)=W at *;have H:=Hd h1;clear h1;have n0:=H.c 0 0
 go_wp2_with fail
 refine(C1 _).mono ?_;rintro e1 w1 ⟨rfl,hb⟩;simp only;clear C1 n0;have h2:=(H.below hb).allocBox w1.heap.size 188 [.int .i64 m,.bool more,.bool s,.bool a,.bool v,.bool h] rfl;clear hb
 go_upto_region 2 with fail
 generalize w1.alloc (.cells #[.int .i64 m,.bool more,.bool s,.bool a,.bool v,.bool h] 188)=W2 at *;generalize w1.heap.size=ga at *;replace H:=Hd h2;clear h2;obtain⟨t0,t1,t2,t3,t4⟩:=H.z5 0 rfl;have t5:=H.c 0 5;have n2:=H.c 1 2;have n3:=H.c 1 3;have n4:=H.c 1 4;have n5:=H.c 1 5;have RF:(ok=false∨k<m∨(m<k∧more=false))→fitK (m,more,s,a,v,h,ok) nd k=false:=fun hc=>by rw[fitK,iP hc]
 have RT:¬(ok=false∨k<m∨(m<k∧more=false))→fitK (m,more,s,a,v,h,ok) nd k=((s||decide (nb=0))&&(a||decide (nc=0))&&(v||decide (nd.n=0))&&(h||decide (nd.how=0))):=fun hc=>by rw[fitK,iN hc,HBL.out,HCL.out]
 cases ok with
 | false =>
  have HX:=Hd (RF (.inl rfl));clear RF RT;go_wp2;go_ret
  exact⟨a0c (HX.symm.trans HF),H.base⟩
 | true =>
  by_cases g1:k<m
  ·have d1:decide (k<m)=true:=by simpa using g1
   have HX:=Hd (RF (.inr (.inl g1)));clear RF RT;go_wp2;go_ret;exact⟨a0c (HX.symm.trans HF),H.base⟩
  ·have d1:decide (k<m)=false:=by simpa using g1
   by_cases g2:m<k
   ·have d2:decide (m<k)=true:=by simpa using g2
    cases more with
    | false =>
     have HX:=Hd (RF (.inr (.inr ⟨g2,rfl⟩)));clear RF RT;go_wp2;go_ret
     exact⟨a0c (HX.symm.trans HF),H.base⟩
    | true =>
     have HT:=Hd (RT (by simp;omega));clear RF RT
     go_upto_region 4 with fail
     clear t0 t1;rcases triN s nb with rfl|⟨rfl,e0,t0⟩|⟨rfl,e0,t0⟩
     rotate_left 2
     ·have HX:=Hd (HT.trans (show _=false by simp[e0]));clear e0;go_wp2;go_ret;exact⟨a0c (HX.symm.trans HF),H.base⟩
     all_goals (
      rcases triN a nc with rfl|⟨rfl,e1,t1⟩|⟨rfl,e1,t1⟩
      rotate_left 2
      ·have HX:=Hd (HT.trans (show _=false by simp[e1]));clear e1;go_wp2;go_ret;exact⟨a0c (HX.symm.trans HF),H.base⟩
      all_goals (
       rcases triI v nd.n with rfl|⟨rfl,e2,t2⟩|⟨rfl,e2,t2⟩
       rotate_left 2
       ·have HX:=Hd (HT.trans (show _=false by simp[e2]));clear e2;go_wp2;go_ret;exact⟨a0c (HX.symm.trans HF),H.base⟩
       all_goals (
        rcases triI h nd.how with rfl|⟨rfl,e3,t3⟩|⟨rfl,e3,t3⟩
        rotate_left 2
        ·have HX:=Hd (HT.trans (show _=false by simp[e3]));clear e3;go_wp2;go_ret;exact⟨a0c (HX.symm.trans HF),H.base⟩
        all_goals (
         have HX:=Hd (HT.trans (show _=true by simp[*]));go_wp2;go_ret
         exact⟨a0c (HX.symm.trans HF),H.base⟩))))
   ·have d2:decide (m<k)=false:=by simpa using g2
    have HT:=Hd (RT (by simp;omega));clear RF RT
    go_upto_region 4 with fail
    clear t0 t1;rcases triN s nb with rfl|⟨rfl,e0,t0⟩|⟨rfl,e0,t0⟩
    rotate_left 2
    ·have HX:=Hd (HT.trans (show _=false by simp[e0]));clear e0;go_wp2;go_ret;exact⟨a0c (HX.symm.trans HF),H.base⟩
    all_goals (
     rcases triN a nc with rfl|⟨rfl,e1,t1⟩|⟨rfl,e1,t1⟩
     rotate_left 2
     ·have HX:=Hd (HT.trans (show _=false by simp[e1]));clear e1;go_wp2;go_ret;exact⟨a0c (HX.symm.trans HF),H.base⟩
     all_goals (
      rcases triI v nd.n with rfl|⟨rfl,e2,t2⟩|⟨rfl,e2,t2⟩
      rotate_left 2
      ·have HX:=Hd (HT.trans (show _=false by simp[e2]));clear e2;go_wp2;go_ret;exact⟨a0c (HX.symm.trans HF),H.base⟩
      all_goals (
       rcases triI h nd.how with rfl|⟨rfl,e3,t3⟩|⟨rfl,e3,t3⟩
       rotate_left 2
       ·have HX:=Hd (HT.trans (show _=false by simp[e3]));clear e3;go_wp2;go_ret;exact⟨a0c (HX.symm.trans HF),H.base⟩
       all_goals (
        have HX:=Hd (HT.trans (show _=true by simp[*]));go_wp2;go_ret
        exact⟨a0c (HX.symm.trans HF),H.base⟩))))
end Go.Proofs.YtdcmanhgekjhgaaGreatDoor
