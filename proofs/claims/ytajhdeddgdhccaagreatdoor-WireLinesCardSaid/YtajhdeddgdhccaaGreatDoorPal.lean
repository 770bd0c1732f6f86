import Derived.Test.YtajhdeddgdhccaaGreatDoorPak
set_option maxRecDepth 100000
set_option maxHeartbeats 12800000
namespace Go.Proofs.YtajhdeddgdhccaaGreatDoor
open Go.RowKit Go.Proofs.Tryz
variable {nd:a0p} {v:Value} {w:World}
theorem b5k (op:Int)(w:World):
  Calls prog 59 #[.int .i64 op] w fun e w'=>e=.returned (.tuple #[.int .i64 (a0h op).1,.bool (a0h op).2.1,.bool (a0h op).2.2.1,.bool (a0h op).2.2.2.1,.bool (a0h op).2.2.2.2])∧w=w':=by
 by_cases h1:op=1
 ·subst h1
  go_enter func59,ntmps59
  go_wp2
  (try simp only[Exit.inBlock,Exit.then])
  refine bodyPost_ret (a0o rfl _ _ _) rfl ?_;exact⟨by simp[a0h],rfl⟩
 by_cases h2:op=2
 ·subst h2;clear h1
  go_enter func59,ntmps59
  go_wp2
  (try simp only[Exit.inBlock,Exit.then])
  refine bodyPost_ret (a0o rfl _ _ _) rfl ?_;exact⟨by simp[a0h],rfl⟩
 by_cases h3:op=3
 ·subst h3;clear h1 h2
  go_enter func59,ntmps59
  go_wp2
  (try simp only[Exit.inBlock,Exit.then])
  refine bodyPost_ret (a0o rfl _ _ _) rfl ?_;exact⟨by simp[a0h],rfl⟩
 by_cases h4:op=4
 ·subst h4;clear h1 h2 h3
  go_enter func59,ntmps59
  go_wp2
  (try simp only[Exit.inBlock,Exit.then])
  refine bodyPost_ret (a0o rfl _ _ _) rfl ?_;exact⟨by simp[a0h],rfl⟩
 by_cases h5:op=5
 ·subst h5;clear h1 h2 h3 h4
  go_enter func59,ntmps59
  go_wp2
  (try simp only[Exit.inBlock,Exit.then])
  refine bodyPost_ret (a0o rfl _ _ _) rfl ?_;exact⟨by simp[a0h],rfl⟩
 by_cases h6:op=6
 ·subst h6;clear h1 h2 h3 h4 h5
  go_enter func59,ntmps59
  go_wp2
  (try simp only[Exit.inBlock,Exit.then])
  refine bodyPost_ret (a0o rfl _ _ _) rfl ?_;exact⟨by simp[a0h],rfl⟩
 by_cases h7:op=7
 ·subst h7;clear h1 h2 h3 h4 h5 h6
  go_enter func59,ntmps59
  go_wp2
  (try simp only[Exit.inBlock,Exit.then])
  refine bodyPost_ret (a0o rfl _ _ _) rfl ?_;exact⟨by simp[a0h],rfl⟩
 by_cases h8:op=8
 ·subst h8;clear h1 h2 h3 h4 h5 h6 h7
  go_enter func59,ntmps59
  go_wp2
  (try simp only[Exit.inBlock,Exit.then])
  refine bodyPost_ret (a0o rfl _ _ _) rfl ?_;exact⟨by simp[a0h],rfl⟩
 by_cases h9:op=9
 ·subst h9;clear h1 h2 h3 h4 h5 h6 h7 h8
  go_enter func59,ntmps59
  go_wp2
  (try simp only[Exit.inBlock,Exit.then])
  refine bodyPost_ret (a0o rfl _ _ _) rfl ?_;exact⟨by simp[a0h],rfl⟩
 by_cases h10:op=10
 ·subst h10;clear h1 h2 h3 h4 h5 h6 h7 h8 h9
  go_enter func59,ntmps59
  go_wp2
  (try simp only[Exit.inBlock,Exit.then])
  refine bodyPost_ret (a0o rfl _ _ _) rfl ?_;exact⟨by simp[a0h],rfl⟩
 by_cases h11:op=11
 ·subst h11;clear h1 h2 h3 h4 h5 h6 h7 h8 h9 h10
  go_enter func59,ntmps59
  go_wp2
  (try simp only[Exit.inBlock,Exit.then])
  refine bodyPost_ret (a0o rfl _ _ _) rfl ?_;exact⟨by simp[a0h],rfl⟩
 by_cases h12:op=12
 ·subst h12;clear h1 h2 h3 h4 h5 h6 h7 h8 h9 h10 h11
  go_enter func59,ntmps59
  go_wp2
  (try simp only[Exit.inBlock,Exit.then])
  refine bodyPost_ret (a0o rfl _ _ _) rfl ?_;exact⟨by simp[a0h],rfl⟩
 by_cases h13:op=13
 ·subst h13;clear h1 h2 h3 h4 h5 h6 h7 h8 h9 h10 h11 h12
  go_enter func59,ntmps59
  go_wp2
  (try simp only[Exit.inBlock,Exit.then])
  refine bodyPost_ret (a0o rfl _ _ _) rfl ?_;exact⟨by simp[a0h],rfl⟩
 by_cases h14:op=14
 ·subst h14;clear h1 h2 h3 h4 h5 h6 h7 h8 h9 h10 h11 h12 h13
  go_enter func59,ntmps59
  go_wp2
  (try simp only[Exit.inBlock,Exit.then])
  refine bodyPost_ret (a0o rfl _ _ _) rfl ?_;exact⟨by simp[a0h],rfl⟩
 by_cases h15:op=15
 ·subst h15;clear h1 h2 h3 h4 h5 h6 h7 h8 h9 h10 h11 h12 h13 h14
  go_enter func59,ntmps59
  go_wp2
  (try simp only[Exit.inBlock,Exit.then])
  refine bodyPost_ret (a0o rfl _ _ _) rfl ?_;exact⟨by simp[a0h],rfl⟩
 by_cases h16:op=16
 ·subst h16;clear h1 h2 h3 h4 h5 h6 h7 h8 h9 h10 h11 h12 h13 h14 h15
  go_enter func59,ntmps59
  go_wp2
  (try simp only[Exit.inBlock,Exit.then])
  refine bodyPost_ret (a0o rfl _ _ _) rfl ?_;exact⟨by simp[a0h],rfl⟩
 by_cases h17:op=17
 ·subst h17;clear h1 h2 h3 h4 h5 h6 h7 h8 h9 h10 h11 h12 h13 h14 h15 h16
  go_enter func59,ntmps59
  go_wp2
  (try simp only[Exit.inBlock,Exit.then])
  refine bodyPost_ret (a0o rfl _ _ _) rfl ?_;exact⟨by simp[a0h],rfl⟩
 by_cases h18:op=18
 ·subst h18;clear h1 h2 h3 h4 h5 h6 h7 h8 h9 h10 h11 h12 h13 h14 h15 h16 h17
  go_enter func59,ntmps59
  go_wp2
  (try simp only[Exit.inBlock,Exit.then])
  refine bodyPost_ret (a0o rfl _ _ _) rfl ?_;exact⟨by simp[a0h],rfl⟩
 by_cases h19:op=19
 ·subst h19;clear h1 h2 h3 h4 h5 h6 h7 h8 h9 h10 h11 h12 h13 h14 h15 h16 h17 h18
  go_enter func59,ntmps59
  go_wp2
  (try simp only[Exit.inBlock,Exit.then])
  refine bodyPost_ret (a0o rfl _ _ _) rfl ?_;exact⟨by simp[a0h],rfl⟩
 by_cases h20:op=20
 ·subst h20;clear h1 h2 h3 h4 h5 h6 h7 h8 h9 h10 h11 h12 h13 h14 h15 h16 h17 h18 h19
  go_enter func59,ntmps59
  go_wp2
  (try simp only[Exit.inBlock,Exit.then])
  refine bodyPost_ret (a0o rfl _ _ _) rfl ?_;exact⟨by simp[a0h],rfl⟩
 have HX:=Hd (show a0h op=(-2,false,false,false,false) by rw[a0h];repeat rw[iN (by omega)]);have b1:(op==1)=false:=by simpa using h1
 have b2:(op==2)=false:=by simpa using h2
 have b3:(op==3)=false:=by simpa using h3
 have b4:(op==4)=false:=by simpa using h4
 have b5:(op==5)=false:=by simpa using h5
 have b12:(op==12)=false:=by simpa using h12
 have b13:(op==13)=false:=by simpa using h13
 have b14:(op==14)=false:=by simpa using h14
 have b15:(op==15)=false:=by simpa using h15
 have b16:(op==16)=false:=by simpa using h16
 have b17:(op==17)=false:=by simpa using h17
 have b18:(op==18)=false:=by simpa using h18
 have b19:(op==19)=false:=by simpa using h19
 have b20:(op==20)=false:=by simpa using h20
 by_cases g:6≤op
 ·have d1:decide (6≤op)=true:=by simpa using g
  have d2:decide (op≤11)=false:=by simp;omega
  clear g h1 h2 h3 h4 h5 h6 h7 h8 h9 h10 h11 h12 h13 h14 h15 h16 h17 h18 h19 h20
  go_enter func59,ntmps59
  go_wp2
  (try simp only[Exit.inBlock,Exit.then])
  refine bodyPost_ret (a0o rfl _ _ _) rfl ?_;exact⟨by rw[HX.out];rfl,rfl⟩
 ·have d1:decide (6≤op)=false:=by simpa using g
  clear g h1 h2 h3 h4 h5 h6 h7 h8 h9 h10 h11 h12 h13 h14 h15 h16 h17 h18 h19 h20
  go_enter func59,ntmps59
  go_wp2
  (try simp only[Exit.inBlock,Exit.then])
  refine bodyPost_ret (a0o rfl _ _ _) rfl ?_;exact⟨by rw[HX.out];rfl,rfl⟩
theorem b7t (k:Int)(h:a5b w v nd):
  Calls prog 42 #[v,.int .i64 k] w fun e w'=>e=.returned (.bool (a4n nd k))∧Below w.heap.size w w':=by
 obtain⟨A,na,ca,B,nb,cb,C,nc,cc,rfl,hL⟩:=h;have hb:=(Below.refl w.heap.size w).alloc (Nat.le_refl _) (.cells #[.int .i64 nd.op,.slice A na ca,.slice B nb cb,.slice C nc cc,.int .i64 nd.n,.int .i64 nd.how,.string nd.note] 37);have h1:=(Sep.nil w).allocBox w.heap.size 37 [.int .i64 nd.op,.slice A na ca,.slice B nb cb,.slice C nc cc,.int .i64 nd.n,.int .i64 nd.how,.string nd.note] rfl;have HBL:=Hd (show nd.shape.length=nb from hL.inB.len);have HCL:=Hd (show nd.a.length=nc from hL.inC.len);have C1:=fun w=>b5k nd.op w
 obtain⟨tk,s,a,v,h,ht⟩:∃ tk s a v h,a0h nd.op=(tk,s,a,v,h):=⟨_,_,_,_,_,rfl⟩;simp only[ht] at C1;have HF:=Hd (show a4n nd k=a9w (tk,s,a,v,h) nd k by rw[a4n,ht]);clear ht hL
 go_enter func42,ntmps42
 go_upto_region 1 with fail
 generalize w.alloc (.cells #[.int .i64 nd.op,.slice A na ca,.slice B nb cb,.slice C nc cc,.int .i64 nd.n,.int .i64 nd.how,.string nd.note] 37)=W at *;have H:=Hd h1;clear h1 hb;obtain⟨n0,n1,n2,n3,n4,n5,n6⟩:=H.cells7 0 rfl
 go_wp2_with fail
 refine(C1 _).mono ?_;rintro e1 w1 ⟨rfl,rfl⟩;clear C1;have RF:(tk = -2∨(0≤tk∧k≠tk)∨(tk = -1∧k<2))→a9w (tk,s,a,v,h) nd k=false:=fun hc=>by rw[a9w,iP hc]
 have RT:¬(tk = -2∨(0≤tk∧k≠tk)∨(tk = -1∧k<2))→a9w (tk,s,a,v,h) nd k=((s||decide (nb=0))&&(a||decide (nc=0))&&(v||decide (nd.n=0))&&(h||decide (nd.how=0))):=fun hc=>by rw[a9w,iN hc,HBL.out,HCL.out]
 by_cases h0:tk = -2
 ·have d0:(tk == -2)=true:=by simpa using h0
  subst h0;have HX:=Hd (RF (by omega));clear RF RT;go_wp2;go_ret;exact⟨a0c (HF.trans HX).symm,H.base⟩
 ·have d0:(tk == -2)=false:=by simpa using h0
  by_cases h1:0≤tk
  ·have d1:decide (0≤tk)=true:=by simpa using h1
   have d3:(tk == -1)=false:=by simp;omega
   by_cases h2:k=tk
   ·have d2:(k != tk)=false:=by simpa using h2
    have HT:=Hd (RT (by omega));clear RF RT;rcases triN s nb with rfl|⟨rfl,e0,t0⟩|⟨rfl,e0,t0⟩
    rotate_left 2
    ·have HX:=Hd (HT.trans (show _=false by simp[e0]));clear e0;go_wp2;go_ret;exact⟨a0c (HF.trans HX).symm,H.base⟩
    all_goals (
     rcases triN a nc with rfl|⟨rfl,e1,t1⟩|⟨rfl,e1,t1⟩
     rotate_left 2
     ·have HX:=Hd (HT.trans (show _=false by simp[e1]));clear e1;go_wp2;go_ret;exact⟨a0c (HF.trans HX).symm,H.base⟩
     all_goals (
      rcases triI v nd.n with rfl|⟨rfl,e2,t2⟩|⟨rfl,e2,t2⟩
      rotate_left 2
      ·have HX:=Hd (HT.trans (show _=false by simp[e2]));clear e2;go_wp2;go_ret;exact⟨a0c (HF.trans HX).symm,H.base⟩
      all_goals (
       rcases triI h nd.how with rfl|⟨rfl,e3,t3⟩|⟨rfl,e3,t3⟩
       rotate_left 2
       ·have HX:=Hd (HT.trans (show _=false by simp[e3]));clear e3;go_wp2;go_ret;exact⟨a0c (HF.trans HX).symm,H.base⟩
       all_goals (
        have HX:=Hd (HT.trans (show _=true by simp[*]));go_wp2;go_ret
        exact⟨a0c (HF.trans HX).symm,H.base⟩))))
   ·have d2:(k != tk)=true:=by simpa using h2
    have HX:=Hd (RF (by omega));clear RF RT;go_wp2;go_ret;exact⟨a0c (HF.trans HX).symm,H.base⟩
  ·have d1:decide (0≤tk)=false:=by simpa using h1
   by_cases h3:tk = -1
   ·have d3:(tk == -1)=true:=by simpa using h3
    by_cases h4:k<2
    ·have d4:decide (k<2)=true:=by simpa using h4
     have HX:=Hd (RF (by omega));clear RF RT;go_wp2;go_ret;exact⟨a0c (HF.trans HX).symm,H.base⟩
    ·have d4:decide (k<2)=false:=by simpa using h4
     have HT:=Hd (RT (by omega));clear RF RT;rcases triN s nb with rfl|⟨rfl,e0,t0⟩|⟨rfl,e0,t0⟩
     rotate_left 2
     ·have HX:=Hd (HT.trans (show _=false by simp[e0]));clear e0;go_wp2;go_ret;exact⟨a0c (HF.trans HX).symm,H.base⟩
     all_goals (
      rcases triN a nc with rfl|⟨rfl,e1,t1⟩|⟨rfl,e1,t1⟩
      rotate_left 2
      ·have HX:=Hd (HT.trans (show _=false by simp[e1]));clear e1;go_wp2;go_ret;exact⟨a0c (HF.trans HX).symm,H.base⟩
      all_goals (
       rcases triI v nd.n with rfl|⟨rfl,e2,t2⟩|⟨rfl,e2,t2⟩
       rotate_left 2
       ·have HX:=Hd (HT.trans (show _=false by simp[e2]));clear e2;go_wp2;go_ret;exact⟨a0c (HF.trans HX).symm,H.base⟩
       all_goals (
        rcases triI h nd.how with rfl|⟨rfl,e3,t3⟩|⟨rfl,e3,t3⟩
        rotate_left 2
        ·have HX:=Hd (HT.trans (show _=false by simp[e3]));clear e3;go_wp2;go_ret;exact⟨a0c (HF.trans HX).symm,H.base⟩
        all_goals (
         have HX:=Hd (HT.trans (show _=true by simp[*]));go_wp2;go_ret
         exact⟨a0c (HF.trans HX).symm,H.base⟩))))
   ·have d3:(tk == -1)=false:=by simpa using h3
    have HT:=Hd (RT (by omega));clear RF RT;rcases triN s nb with rfl|⟨rfl,e0,t0⟩|⟨rfl,e0,t0⟩
    rotate_left 2
    ·have HX:=Hd (HT.trans (show _=false by simp[e0]));clear e0;go_wp2;go_ret;exact⟨a0c (HF.trans HX).symm,H.base⟩
    all_goals (
     rcases triN a nc with rfl|⟨rfl,e1,t1⟩|⟨rfl,e1,t1⟩
     rotate_left 2
     ·have HX:=Hd (HT.trans (show _=false by simp[e1]));clear e1;go_wp2;go_ret;exact⟨a0c (HF.trans HX).symm,H.base⟩
     all_goals (
      rcases triI v nd.n with rfl|⟨rfl,e2,t2⟩|⟨rfl,e2,t2⟩
      rotate_left 2
      ·have HX:=Hd (HT.trans (show _=false by simp[e2]));clear e2;go_wp2;go_ret;exact⟨a0c (HF.trans HX).symm,H.base⟩
      all_goals (
       rcases triI h nd.how with rfl|⟨rfl,e3,t3⟩|⟨rfl,e3,t3⟩
       rotate_left 2
       ·have HX:=Hd (HT.trans (show _=false by simp[e3]));clear e3;go_wp2;go_ret;exact⟨a0c (HF.trans HX).symm,H.base⟩
       all_goals (
        have HX:=Hd (HT.trans (show _=true by simp[*]));go_wp2;go_ret
        exact⟨a0c (HF.trans HX).symm,H.base⟩))))
theorem a0v (k:Int)(h:a5b w v nd):
  Calls prog 60 #[v,.int .i64 k] w fun e w'=>e=.returned (.bool (decide ((nd.a.length:Int)=k)))∧Below w.heap.size w w':=by
 obtain⟨A,na,ca,B,nb,cb,C,nc,cc,rfl,hL⟩:=h;have h1:=(Sep.nil w).allocBox w.heap.size 37 [.int .i64 nd.op,.slice A na ca,.slice B nb cb,.slice C nc cc,.int .i64 nd.n,.int .i64 nd.how,.string nd.note] rfl;have HCL:=Hd (show nd.a.length=nc from hL.inC.len);clear hL
 go_enter func60,ntmps60
 go_upto_region 1 with fail
 generalize w.alloc (.cells #[.int .i64 nd.op,.slice A na ca,.slice B nb cb,.slice C nc cc,.int .i64 nd.n,.int .i64 nd.how,.string nd.note] 37)=W at *;have H:=Hd h1;clear h1;obtain⟨n0,n1,n2,n3,n4,n5,n6⟩:=H.cells7 0 rfl;go_wp2;go_ret;exact⟨a0c (by rw[HCL.out];rfl),H.base⟩
end Go.Proofs.YtajhdeddgdhccaaGreatDoor
