import Derived.Test.YtdcmanhgekjhgaaGreatDoorPbv
set_option maxRecDepth 100000
set_option maxHeartbeats 12800000
namespace Go.Proofs.YtdcmanhgekjhgaaGreatDoor
open Go.RowKit Go.Proofs.Tryz
theorem c7t (a:Int) (n:Nat) (w:World) (hf:Fits a) (hn:n≤1000000) :
  Calls prog 13 #[.int .i64 a,.int .i64 0,.int .i64 n] w fun e w'=>(∃ m:Nat,e=.returned (.int .i64 m)∧m≤n)∧w=w':=by
 obtain⟨h1,h2⟩:=hf;have hnz:((n:Int)+1)≠0:=by omega
 by_cases h0:0≤a
 ·obtain⟨b,rfl⟩:=eZ h0;by_cases hb:b≤n
  ·go_enter func13,ntmps13
   go_wp2;go_ret;exact⟨⟨b,rfl,hb⟩,rfl⟩
  ·have hw1:=Int.emod_nonneg (b:Int) hnz;have hw2:=Int.emod_lt_of_pos (b:Int) (show(0:Int)<(n:Int)+1 by omega);have hz:decide ((b:Int) % ((n:Int)+1)<0)=false:=decide_eq_false (by omega)
   go_enter func13,ntmps13
   go_wp2;go_ret;exact⟨⟨((b:Int) % ((n:Int)+1)).toNat,by rw[Int.toNat_of_nonneg hw1];go_num,by omega⟩,rfl⟩
 ·have hlt:a<0:=by omega
  have hq:=Int.emod_nonneg (-a) hnz;have hq2:=Int.emod_lt_of_pos (-a) (show(0:Int)<(n:Int)+1 by omega)
  have hm:a.tmod ((n:Int)+1) = -((-a) % ((n:Int)+1)):=by
   have e:a = -(-a):=by omega
   rw[e,Int.neg_tmod,Int.tmod_eq_emod_of_nonneg (by omega:0 ≤ -a),Int.neg_neg]
  have hm1 : -((n:Int)+1)<a.tmod ((n:Int)+1):=by omega
  have hm2:a.tmod ((n:Int)+1)≤0:=by omega
  clear hq hq2 hm;by_cases ht:a.tmod ((n:Int)+1)<0
  ·go_enter func13,ntmps13
   go_wp2;go_ret;exact⟨⟨(a.tmod ((n:Int)+1)+n+1).toNat,by rw[Int.toNat_of_nonneg (by omega)];go_num,by omega⟩,rfl⟩
  ·go_enter func13,ntmps13
   go_wp2;go_ret
   exact⟨⟨0,by simp[show a.tmod ((n:Int)+1)=0 by omega],by omega⟩,rfl⟩
theorem b9s (G:a1d):(a4f G).1.size≤65536:=by
 by_cases h0:(a0f G).1=0
 ·by_cases hb:65536<(a3f G (a0f G).2).size
  ·rw[a6u h0 hb];show(0:Nat)≤65536;omega
  ·rw[a9i h0 hb];show(a3f G (a0f G).2).size≤65536;omega
 ·rw[b0s h0];show(0:Nat)≤65536;omega
theorem c7f {w:World} {A0 Au:Option Addr} {n0 c0 nu cu:Nat} {xs:List Int} {U:List c0b} {p q:Int} {s1 s2:ByteArray} (hI:Ints w A0 n0 xs) (hU:c7w w Au nu U) (hp:Fits p) (_hq:Fits q) (hT:Tabs w) :
  Calls prog 4 #[.slice A0 n0 c0,.slice Au nu cu,.int .i64 p,.int .i64 q,.string s1,.string s2] w fun e w'=>e=.returned (.bool true)∧Below w.heap.size w w':=by
 have HT:=Hd hT;have HU:=Hd hU;have C1:=c8q (c:=c0) hI;have HF0:=Hd (b7f xs);clear hI hU hT
 go_enter func4,ntmps4
 go_wp2_with fail
 refine C1.mono ?_;rintro e1 w1 ⟨⟨v,rfl,hG⟩,hb1⟩;have HG0:=Hd hG;have HB1:=Hd hb1;clear C1 hG hb1;have C2:=d4s (c:=cu) HG0 HF0 (HU.below HB1)
 go_wp2_with fail
 refine C2.mono ?_;rintro e2 w2 ⟨⟨v2,rfl,G2,hG2,hF2⟩,hb2⟩;have HB2:=Hd (a1c HB1 hb2);have C3:=a6p hG2 hF2;have hts:=b9s G2;obtain⟨⟨T,e⟩,hTe⟩:∃ r,a4f G2=r:=⟨_,rfl⟩;rw[hTe] at C3 hts;replace hts:T.size≤65536:=hts;clear C2 hb2 hF2 hG2 HG0 HF0 HB1 hTe HU
 go_wp2_with fail
 refine C3.mono ?_;rintro e3 w3 ⟨rfl,hb3⟩;have HB:=Hd (a1c HB2 hb3);clear C3 hb3 HB2;have HTW:=Hd (HT.below HB)
 go_upto_if 27 with fail
 go_cut [4] (fun v wx=>∃ s:ByteArray,v=.string s∧s.size≤6∧w3=wx)
 case first =>
  by_cases h6:6<s1.size
  ·go_wp2_with fail
   go_meet;exact⟨s1.extract 0 6,rfl,by rw[ByteArray.size_extract];omega,rfl⟩
  ·have d6:decide (6<s1.size)=false:=by simpa using h6
   go_wp2_with fail
   go_meet;exact⟨s1,rfl,by omega,rfl⟩
 case rest =>
  obtain⟨s,rfl,hs6,rfl⟩:=hcut
  go_upto_if 32 with fail
  go_cut [5] (fun v wx=>∃ s:ByteArray,v=.string s∧s.size≤100∧w3=wx)
  case first =>
   by_cases h6:100<s2.size
   ·go_wp2_with fail
    go_meet;exact⟨s2.extract 0 100,rfl,by rw[ByteArray.size_extract];omega,rfl⟩
   ·have d6:decide (100<s2.size)=false:=by simpa using h6
    go_wp2_with fail
    go_meet;exact⟨s2,rfl,by omega,rfl⟩
  case rest =>
   obtain⟨r,rfl,hr,rfl⟩:=hcut;have C4:=c7t p T.size w3 hp (by omega)
   go_wp2_with fail
   refine C4.mono ?_;rintro e4 w4 ⟨⟨k,rfl,hk⟩,rfl⟩;clear C4
   go_upto_region 7 with fail
   go_cut [16] (fun v wx=>∃ m:Nat,v=.int .i64 m∧m≤T.size∧w3=wx)
   case first =>
    have e3:=and3 q;have q1:=Int.emod_nonneg q (b:=4) (by omega);have q2:=Int.emod_lt_of_pos q (b:=4) (by omega);obtain⟨z,hz⟩:=eZ q1;rw[hz] at q2 e3
    go_wp2_with fail
    go_meet;exact⟨min (k+z) T.size,congrArg (Value.int .i64) (by omega),by omega,rfl⟩
   case rest =>
    obtain⟨m,rfl,hm,rfl⟩:=hcut;clear hp _hq;have es1:(T.extract 0 k).size=k:=by rw[ByteArray.size_extract];omega
    have es2:(T.extract m T.size).size=T.size-m:=by rw[ByteArray.size_extract];omega
    have u1:(T.extract 0 k).size+s.size≤9223372036854775807:=by omega
    have u2:(T.extract 0 k++s).size+(T.extract m T.size).size≤9223372036854775807:=by rw[ByteArray.size_append];omega
    have u3:(T.extract 0 k).size+(T.extract m T.size).size≤9223372036854775807:=by omega
    have z1:(⟨#[109,101,115,104,32,45,10]⟩:ByteArray).size=7:=rfl;have z2:(⟨#[109,101,115,104,32,120,32,50,10]⟩:ByteArray).size=9:=rfl;have z3:(⟨#[10,111,117,116,115,10]⟩:ByteArray).size=6:=rfl;have u4:(⟨#[109,101,115,104,32,45,10]⟩:ByteArray).size+r.size≤9223372036854775807:=by omega
    have u5:(⟨#[109,101,115,104,32,120,32,50,10]⟩:ByteArray).size+r.size≤9223372036854775807:=by omega
    have u6:((⟨#[109,101,115,104,32,120,32,50,10]⟩:ByteArray)++r).size+(⟨#[10,111,117,116,115,10]⟩:ByteArray).size≤9223372036854775807:=by rw[ByteArray.size_append];omega
    have L0:=Hd (fun (w' : World) (hb:Below w3.heap.size w3 w')=>a3d (w:=w') T (by omega) (HTW.below hb));have L1:=Hd (fun (w' : World) (hb:Below w3.heap.size w3 w')=>a3d (w:=w') (T.extract 0 k++s++T.extract m T.size) (by simp only[ByteArray.size_append];omega) (HTW.below hb));have L2:=Hd (fun (w' : World) (hb:Below w3.heap.size w3 w')=>a3d (w:=w') (T.extract 0 k++T.extract m T.size) (by simp only[ByteArray.size_append];omega) (HTW.below hb));have L3:=Hd (fun (w' : World) (hb:Below w3.heap.size w3 w')=>a3d (w:=w') r (by omega) (HTW.below hb));have L4:=Hd (fun (w' : World) (hb:Below w3.heap.size w3 w')=>a3d (w:=w') ((⟨#[109,101,115,104,32,45,10]⟩:ByteArray)++r) (by simp only[ByteArray.size_append,z1];omega) (HTW.below hb));have L5:=Hd (fun (w' : World) (hb:Below w3.heap.size w3 w')=>a3d (w:=w') ((⟨#[109,101,115,104,32,120,32,50,10]⟩:ByteArray)++r++(⟨#[10,111,117,116,115,10]⟩:ByteArray)) (by simp only[ByteArray.size_append,z2,z3];omega) (HTW.below hb));have L6:=Hd (fun (w' : World) (hb:Below w3.heap.size w3 w')=>a9y (w:=w') r (by omega) (HTW.below hb));have L7:=Hd (fun (w' : World) (hb:Below w3.heap.size w3 w')=>a9y (w:=w') s (by omega) (HTW.below hb));clear z1 z2 z3
    go_upto_region 8 with fail
    refine qR (C:=Cl w3 (fun _=>True)) (⟨a1h (Below.refl _ _) 1,trivial⟩) ?_;refine qV ?_;refine qC ((fun w hw=>(L0 w hw.1).mono fun e w' h=>⟨h.1,a1c hw.1 h.2,trivial⟩)) ?_;refine qV ?_
    first|refine qV ?_|refine qU ?_
    first|refine qV ?_|refine qU ?_
    first|refine qV ?_|refine qU ?_
    first|refine qV ?_|refine qU ?_
    first|refine qV ?_|refine qU ?_
    first|refine qV ?_|refine qU ?_
    first|refine qV ?_|refine qU ?_
    first|refine qV ?_|refine qU ?_
    first|refine qV ?_|refine qU ?_
    refine qC ((fun w hw=>(L1 w hw.1).mono fun e w' h=>⟨h.1,a1c hw.1 h.2,trivial⟩)) ?_;refine qV ?_;refine qV ?_
    first|refine qV ?_|refine qU ?_
    first|refine qV ?_|refine qU ?_
    first|refine qV ?_|refine qU ?_
    first|refine qV ?_|refine qU ?_
    first|refine qV ?_|refine qU ?_
    first|refine qV ?_|refine qU ?_
    first|refine qV ?_|refine qU ?_
    refine qC ((fun w hw=>(L2 w hw.1).mono fun e w' h=>⟨h.1,a1c hw.1 h.2,trivial⟩)) ?_;refine qV ?_;refine qV ?_
    first|refine qV ?_|refine qU ?_
    refine qC ((fun w hw=>(L3 w hw.1).mono fun e w' h=>⟨h.1,a1c hw.1 h.2,trivial⟩)) ?_;refine qV ?_;refine qV ?_
    first|refine qV ?_|refine qU ?_
    first|refine qV ?_|refine qU ?_
    refine qC ((fun w hw=>(L4 w hw.1).mono fun e w' h=>⟨h.1,a1c hw.1 h.2,trivial⟩)) ?_;refine qV ?_;refine qV ?_
    first|refine qV ?_|refine qU ?_
    first|refine qV ?_|refine qU ?_
    first|refine qV ?_|refine qU ?_
    refine qC ((fun w hw=>(L5 w hw.1).mono fun e w' h=>⟨h.1,a1c hw.1 h.2,trivial⟩)) ?_;refine qV ?_;refine qV ?_
    first|refine qV ?_|refine qU ?_
    refine qC ((fun w hw=>(L6 w hw.1).mono fun e w' h=>⟨h.1,a1c hw.1 h.2,trivial⟩)) ?_;refine qV ?_;refine qV ?_
    first|refine qV ?_|refine qU ?_
    refine qC ((fun w hw=>(L7 w hw.1).mono fun e w' h=>⟨h.1,a1c hw.1 h.2,trivial⟩)) ?_;refine qV ?_;refine qV ?_;refine qC ((fun w hw=>(a7q (HTW.below hw.1)).mono fun e w' h=>⟨h.1,a1c hw.1 h.2,trivial⟩)) ?_;refine qV ?_;refine qV ?_;refine wpQuiet_nil ?_;intro w9 hw9;have HW9:=Hd (a1c HB hw9.1);clear hw9;go_wp2;go_ret;exact⟨by trivial,HW9⟩
end Go.Proofs.YtdcmanhgekjhgaaGreatDoor
