import Derived.Test.YtdcmanhgekjhgaaDoorPat
set_option maxRecDepth 100000
set_option maxHeartbeats 12800000
namespace Go.Proofs.YtdcmanhgekjhgaaDoor
open Go.RowKit Go.Proofs.Tryd
variable {n:Int} {s:ByteArray} {w:World}
theorem c5e (hs:s.size≤90000)(hT:Tabs w)(hn:Fits n)(hE:numT n=s)(hneg:n<0):
  Calls prog 5 #[.string s] w fun e w'=>e=.returned (.tuple #[.int .i64 (a0k s).1,.bool (a0k s).2])∧Below w.heap.size w w':=by
 have HR:=Hd (a2i w s);have HB:=Hd (show Below w.heap.size w (w.iter s 0) from(Below.refl _ _).alloc (Nat.le_refl _) _);have HX:=Hd (show a0k s=(n,true) by rw[←hE];exact a1g hn);obtain⟨he1,he2⟩:=c3e hn hE;have HV:=Hd (fun (i:Nat) (hi:i<s.size)=>b7q hn hE hi);have HN:=Hd hn;have HT:=Hd hT;have HE1:=Hd he1;have HE2:=Hd he2;have HE:=Hd hE;have HNG:=Hd hneg;have hab:n.natAbs≤9223372036854775808:=by have:=hn.1;have:=hn.2;omega
 skip
 clear he1 he2 hE hn hT
 go_enter func5,ntmps5
 go_wp2_with fail
 go_loopw [5,4] (fun sv nv wr=>∃(pos k:Nat),pos≤s.size∧sv=.int .i64 (if pos=0 then 1 else -1)∧nv=.int .i64 (-(pval s pos:Int))∧pval s pos≤n.natAbs∧RIt wr w.heap.size s pos k∧Below w.heap.size w wr) (fun _ _ wr=>s.size-wr.iterPos w.heap.size)
 case atStart=>exact⟨0,0,by omega,rfl,rfl,by show 0≤_;omega,HR,HB⟩
 case round =>
  obtain⟨pos,k,hi,rfl,rfl,hp,hI,hB⟩:=hrel;have HI:=Hd hI;have HBW:=Hd hB;by_cases hlt:pos<s.size
  ·obtain⟨w2,r,d,hnx,hI2,hd,hr,hdd,hr9,hB2,hg⟩:=a8t hI hlt hB (Nat.le_refl _);have HI2:=Hd hI2;have HB2:=Hd hB2;clear hI hI2 hB hB2 hg;rcases HV pos hlt with ⟨h0,h1,h2⟩|⟨h0,h1,h2,h3,h4⟩
   ·subst h0;have hdc:=b5f hlt (by rw[h1];omega);rw[h1] at hdc;obtain rfl:r=45:=by rw[hr,hdc]
    obtain rfl:d=1:=by rw[hdd,hdc]
    have HP1:=Hd h2;have HP0:=Hd (show pval s 0=0 from rfl);clear h1 h2 hr hdd hdc hd hr9;go_wp2;go_roundw
    case rel=>exact⟨1,k+1,by omega,rfl,by rw[HP1.out,HP0.out],by rw[HP1.out];omega,HI2,HB2⟩
    case measure=>rw[a0o HI2.out,a0o HI.out];omega
   ·have hpos:pos≠0:=fun e=>by subst e;exact h0 ⟨rfl,(HE2 hlt).2 HNG⟩
    have hdc:=b5f hlt (by omega);obtain⟨c,hc⟩:∃ c,s[pos].toNat=c:=⟨_,rfl⟩;rw[hc] at h0 h1 h2 h3 hdc;obtain rfl:r=c:=by rw[hr,hdc]
    obtain rfl:d=1:=by rw[hdd,hdc]
    obtain⟨p0,hp0⟩:∃ p,pval s pos=p:=⟨_,rfl⟩;rw[hp0] at h3 hp ⊢;have HP1:=Hd h3;have hq:p0*10+(r-48)≤n.natAbs:=by omega
    have k2:48≤(r:Int):=by omega
    have k3:(r:Int)≤57:=by omega
    have k4:decide ((r:Int)<48)=false:=decide_eq_false (by omega);have k5:decide (57<(r:Int))=false:=decide_eq_false (by omega);rw[iN hpos];have d0:((pos:Int)==0)=false:=by simpa using hpos
    have HPO:=Hd hpos;clear h0 h1 h2 h3 h4 hp0 hr hdd hdc hd hr9 hc hpos;go_wp2;go_roundw
    case rel=>exact⟨pos+1,k+1,by omega,by rw[iN (by omega)],by rw[HP1.out];exact congrArg (Value.int .i64) (by omega),by rw[HP1.out];exact hq,HI2,HB2⟩
    case measure=>rw[a0o HI2.out,a0o HI.out];omega
  ·have hnx:=a3l hI hlt;obtain rfl:s.size=pos:=by omega
   clear hI hB hp;rw[HE1.out];rw[show(-(n.natAbs:Int))=n by omega];generalize (if s.size=0 then(1:Int) else -1)=gz;have CN:=a2f (w:=wr) HN (HT.below HBW);rw[HE.out] at CN
   go_wp2_with fail
   refine CN.mono ?_;rintro e1 w1 ⟨rfl,hb⟩;have HB1:=Hd (a4o HBW hb);clear CN hb hnx;go_wp2;go_ret2;rw[HX.out];exact⟨rfl,HB1⟩
theorem c5f (hs:s.size≤90000)(hT:Tabs w)(hn:Fits n)(hE:numT n=s)(hneg:¬ n<0):
  Calls prog 5 #[.string s] w fun e w'=>e=.returned (.tuple #[.int .i64 (a0k s).1,.bool (a0k s).2])∧Below w.heap.size w w':=by
 have HR:=Hd (a2i w s);have HB:=Hd (show Below w.heap.size w (w.iter s 0) from(Below.refl _ _).alloc (Nat.le_refl _) _);have HX:=Hd (show a0k s=(n,true) by rw[←hE];exact a1g hn);obtain⟨he1,he2⟩:=c3e hn hE;have HV:=Hd (fun (i:Nat) (hi:i<s.size)=>b7q hn hE hi);have HN:=Hd hn;have HT:=Hd hT;have HE1:=Hd he1;have HE2:=Hd he2;have HE:=Hd hE;have HNG:=Hd hneg;have hab:n.natAbs≤9223372036854775808:=by have:=hn.1;have:=hn.2;omega
 have hab2:n.natAbs≤9223372036854775807:=by have:=hn.2;omega
 clear he1 he2 hE hn hT
 go_enter func5,ntmps5
 go_wp2_with fail
 go_loopw [5,4] (fun sv nv wr=>∃(pos k:Nat),pos≤s.size∧sv=.int .i64 1∧nv=.int .i64 (pval s pos:Int)∧pval s pos≤n.natAbs∧RIt wr w.heap.size s pos k∧Below w.heap.size w wr) (fun _ _ wr=>s.size-wr.iterPos w.heap.size)
 case atStart=>exact⟨0,0,by omega,rfl,rfl,by show 0≤_;omega,HR,HB⟩
 case round =>
  obtain⟨pos,k,hi,rfl,rfl,hp,hI,hB⟩:=hrel;have HI:=Hd hI;have HBW:=Hd hB;by_cases hlt:pos<s.size
  ·obtain⟨w2,r,d,hnx,hI2,hd,hr,hdd,hr9,hB2,hg⟩:=a8t hI hlt hB (Nat.le_refl _);have HI2:=Hd hI2;have HB2:=Hd hB2;clear hI hI2 hB hB2 hg;rcases HV pos hlt with ⟨h0,h1,h2⟩|⟨h0,h1,h2,h3,h4⟩
   ·exfalso;subst h0;have h8:=(HE2 hlt).1 h1;have h9:=HNG.out;omega
   ·skip
    have hdc:=b5f hlt (by omega);obtain⟨c,hc⟩:∃ c,s[pos].toNat=c:=⟨_,rfl⟩;rw[hc] at h0 h1 h2 h3 hdc;obtain rfl:r=c:=by rw[hr,hdc]
    obtain rfl:d=1:=by rw[hdd,hdc]
    obtain⟨p0,hp0⟩:∃ p,pval s pos=p:=⟨_,rfl⟩;rw[hp0] at h3 hp ⊢;have HP1:=Hd h3;have hq:p0*10+(r-48)≤n.natAbs:=by omega
    have k2:48≤(r:Int):=by omega
    have k3:(r:Int)≤57:=by omega
    have k4:decide ((r:Int)<48)=false:=decide_eq_false (by omega);have k5:decide (57<(r:Int))=false:=decide_eq_false (by omega);clear h2 h3 h4 hp0 hr hdd hdc hd hr9;by_cases hpos:pos=0
    ·subst hpos;have k6:((r:Int)==45)=false:=by simp;omega
     clear h0 h1 hc;go_wp2;go_roundw
     case rel=>exact⟨1,k+1,by omega,rfl,by rw[HP1.out];exact congrArg (Value.int .i64) (by omega),by rw[HP1.out];exact hq,HI2,HB2⟩
     case measure=>rw[a0o HI2.out,a0o HI.out];omega
    ·have d0:((pos:Int)==0)=false:=by simpa using hpos
     clear h0 h1 hc hpos;go_wp2;go_roundw
     case rel=>exact⟨pos+1,k+1,by omega,rfl,by rw[HP1.out];exact congrArg (Value.int .i64) (by omega),by rw[HP1.out];exact hq,HI2,HB2⟩
     case measure=>rw[a0o HI2.out,a0o HI.out];omega
  ·have hnx:=a3l hI hlt;obtain rfl:s.size=pos:=by omega
   clear hI hB hp;rw[HE1.out];rw[show((n.natAbs:Nat):Int)=n by omega];have CN:=a2f (w:=wr) HN (HT.below HBW);rw[HE.out] at CN
   go_wp2_with fail
   refine CN.mono ?_;rintro e1 w1 ⟨rfl,hb⟩;have HB1:=Hd (a4o HBW hb);clear CN hb hnx;go_wp2;go_ret2;rw[HX.out];exact⟨rfl,HB1⟩
theorem c7h (hs:s.size≤90000)(hT:Tabs w)(hv:¬ ∃ n,Fits n∧numT n=s):
  Calls prog 5 #[.string s] w fun e w'=>e=.returned (.tuple #[.int .i64 (a0k s).1,.bool (a0k s).2])∧Below w.heap.size w w':=by
 have HR:=Hd (a2i w s);have HB:=Hd (show Below w.heap.size w (w.iter s 0) from(Below.refl _ _).alloc (Nat.le_refl _) _);have HX:=Hd (a2j hv);have HV:=Hd hv;have HT:=Hd hT;clear hv hT
 go_enter func5,ntmps5
 go_wp2_with fail
 go_loopw [5,4] (fun sv nv wr=>∃(pos k:Nat) (m g:Int),(g=1∨g = -1)∧sv=.int .i64 g∧nv=.int .i64 m∧Fits m∧RIt wr w.heap.size s pos k∧Below w.heap.size w wr) (fun _ _ wr=>s.size-wr.iterPos w.heap.size)
 case atStart=>exact⟨0,0,0,1,.inl rfl,rfl,rfl,⟨by omega,by omega⟩,HR,HB⟩
 case round =>
  obtain⟨pos,k,m,g,hg1,rfl,rfl,hm,hI,hB⟩:=hrel;have HI:=Hd hI;have HBW:=Hd hB;have HM:=Hd hm;have HG1:=Hd hg1;clear hm hg1;by_cases hlt:pos<s.size
  ·obtain⟨w2,r,d,hnx,hI2,hd,hr,hdd,hr9,hB2,hg⟩:=a8t hI hlt hB (Nat.le_refl _);have HI2:=Hd hI2;have HB2:=Hd hB2;clear hI hI2 hB hB2 hg hr hdd;have go:∀ q:Bool,((pos:Int)==0)=q→(q=true→((r:Int)==45)=false)→True:=fun _ _ _=>trivial
   by_cases h45:pos=0∧r=45
   ·obtain⟨rfl,rfl⟩:=h45;go_wp2;go_roundw
    case rel=>exact⟨0+d,k+1,m,-1,.inr rfl,rfl,rfl,HM,HI2,HB2⟩
    case measure=>rw[a0o HI2.out,a0o HI.out];omega
   ·obtain⟨q,hq⟩:∃ q,((pos:Int)==0)=q:=⟨_,rfl⟩;obtain⟨b,hb⟩:∃ b,((r:Int)==45)=b:=⟨_,rfl⟩
    have hqb:q=true→b=false:=fun e=>by
     rw[e] at hq;rw[←hb];have h1:pos=0:=by have:=beq_iff_eq.1 hq;omega
     have h2:r≠45:=fun e=>h45 ⟨h1,e⟩
     simp;omega
    have HQB:=Hd hqb;clear h45 hqb go
    cases q with
    | true =>
     obtain rfl:b=false:=HQB.out rfl;by_cases hlo:(r:Int)<48
     ·have k4:decide ((r:Int)<48)=true:=decide_eq_true hlo;clear hlo;go_wp2;go_ret2;rw[HX.out];exact⟨rfl,HB2⟩
     have k4:decide ((r:Int)<48)=false:=decide_eq_false hlo;by_cases hhi:57<(r:Int)
     ·have k5:decide (57<(r:Int))=true:=decide_eq_true hhi;clear hhi hlo;go_wp2;go_ret2;rw[HX.out];exact⟨rfl,HB2⟩
     have k5:decide (57<(r:Int))=false:=decide_eq_false hhi;have k2:48≤(r:Int):=by omega
     have k3:(r:Int)≤57:=by omega
     clear hlo hhi;rcases HG1 with rfl|rfl
     ·go_wp2;go_roundw
      case rel=>exact⟨pos+d,k+1,_,1,.inl rfl,rfl,rfl,a6f _,HI2,HB2⟩
      case measure=>rw[a0o HI2.out,a0o HI.out];omega
     ·go_wp2;go_roundw
      case rel=>exact⟨pos+d,k+1,_,-1,.inr rfl,rfl,rfl,a6f _,HI2,HB2⟩
      case measure=>rw[a0o HI2.out,a0o HI.out];omega
    | false =>
     clear hb;by_cases hlo:(r:Int)<48
     ·have k4:decide ((r:Int)<48)=true:=decide_eq_true hlo;clear hlo;go_wp2;go_ret2;rw[HX.out];exact⟨rfl,HB2⟩
     have k4:decide ((r:Int)<48)=false:=decide_eq_false hlo;by_cases hhi:57<(r:Int)
     ·have k5:decide (57<(r:Int))=true:=decide_eq_true hhi;clear hhi hlo;go_wp2;go_ret2;rw[HX.out];exact⟨rfl,HB2⟩
     have k5:decide (57<(r:Int))=false:=decide_eq_false hhi;have k2:48≤(r:Int):=by omega
     have k3:(r:Int)≤57:=by omega
     clear hlo hhi;rcases HG1 with rfl|rfl
     ·go_wp2;go_roundw
      case rel=>exact⟨pos+d,k+1,_,1,.inl rfl,rfl,rfl,a6f _,HI2,HB2⟩
      case measure=>rw[a0o HI2.out,a0o HI.out];omega
     ·go_wp2;go_roundw
      case rel=>exact⟨pos+d,k+1,_,-1,.inr rfl,rfl,rfl,a6f _,HI2,HB2⟩
      case measure=>rw[a0o HI2.out,a0o HI.out];omega
  ·have hnx:=a3l hI hlt;clear hI hB;have k2:((numT m).toList==s.toList)=false:=by rw[eqS,decide_eq_false];exact fun e=>HV.out ⟨m,HM,e⟩
   have CN:=a2f (w:=wr) HM (HT.below HBW)
   go_wp2_with fail
   refine CN.mono ?_;rintro e1 w1 ⟨rfl,hb⟩;have HB1:=Hd (a4o HBW hb);clear CN hb hnx;go_wp2;go_ret2;rw[HX.out];exact⟨rfl,HB1⟩
theorem a1j (s:ByteArray)(hs:s.size≤90000)(hT:Tabs w):
  Calls prog 5 #[.string s] w fun e w'=>e=.returned (.tuple #[.int .i64 (a0k s).1,.bool (a0k s).2])∧Below w.heap.size w w':=by
 by_cases hv:∃ n,Fits n∧numT n=s
 ·obtain⟨n,hn,hE⟩:=hv;by_cases hneg:n<0
  ·exact c5e hs hT hn hE hneg
  ·exact c5f hs hT hn hE hneg
 ·exact c7h hs hT hv
theorem a4j {t e:TypeId}(ht:prog.underlying t=some (.slice e))(hinfo:(prog.info? e).map (fun i=>(i.zero,i.size,i.bytes))=some (some (.int .i64 0),1,8))
  {n:Nat}(hn:n≤17592186044000)(w:World):
  (Instr.makeSlice t (.int .i64 0) (.int .i64 n)).run prog w=.ok (.slice (some ⟨w.heap.size,0,none⟩) 0 n) (w.alloc (.cells (noughts n) e)):=by
 obtain⟨i,hi,hz0,hz1,hz2⟩:=info_parts hinfo;have:=run_make (P:=prog) w t e i (.int .i64 0) ht hi hz0 .i64 .i64 0 n (by omega) (by omega) (by rw[hz2];omega) (by omega);rw[this,hz1];simp only[Int.toNat_natCast,Nat.mul_one];rw[←a3y];rfl
theorem Sep.room {w0:World}{l:List a0e}(h:Sep w0 w l)(e:TypeId)(n:Nat)(hn:n≤17592186044000):Sep w0 (w.alloc (.cells (Go.Proofs.YtdcmanhgekjhgaaDoor.noughts n) e)) (.own e (.slice (some ⟨w.heap.size,0,none⟩) 0 n) 0 []::l) :=
 h.addOwn ((Below.refl _ _).alloc (Nat.le_refl _) _) ⟨⟨rfl,.inr ⟨w.heap.size,n,Go.Proofs.YtdcmanhgekjhgaaDoor.noughts n,rfl,Nat.le_refl _,heap_alloc_new _ _,Nat.zero_le _,by unfold maxLen;omega,by simp[Go.Proofs.YtdcmanhgekjhgaaDoor.noughts],by simp⟩⟩,by simp,by omega⟩
end Go.Proofs.YtdcmanhgekjhgaaDoor
