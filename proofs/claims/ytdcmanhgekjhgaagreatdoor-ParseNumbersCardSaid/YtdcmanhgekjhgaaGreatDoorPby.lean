import Derived.Test.YtdcmanhgekjhgaaGreatDoorPbw
set_option maxRecDepth 100000
set_option maxHeartbeats 12800000
namespace Go.Proofs.YtdcmanhgekjhgaaGreatDoor
open Go.RowKit Go.Proofs.Tryz
variable {T:ByteArray} {b i n:Nat} {w:World}
theorem d4g (k:Nat)(hk:k<80):
  Calls prog 8 #[.int .i64 k] w fun e w'=>(∃ v n ys,e=.returned v∧OwnS w' w.heap.size 3 v n ys)∧Below w.heap.size w w':=by
 go_enter func8,ntmps8
 go_wp2_with fail
 go_loopw [3,4] (fun sv iv wr=>∃(i:Nat) (ys:List Int),iv=.int .i64 i∧i≤200∧OwnS wr w.heap.size 3 sv i ys∧Below w.heap.size w wr) (fun _ iv _=>200-(intOf iv).toNat)
 case atStart=>exact⟨0,[],rfl,by omega,OwnS.nil_ _ _ _,Below.refl _ _⟩
 case round =>
  obtain⟨i,ys,rfl,hi,hO,hB⟩:=hrel;have HO:=Hd hO;have HB:=Hd hB;have hz:=hB.size;obtain⟨Ao,co,hv,hco,_,_⟩:=hO.form;subst hv;have hm1:i*i≤40000:=Nat.le_trans (Nat.mul_le_mul hi hi) (by omega);have hm2:i*k≤16000:=Nat.le_trans (Nat.mul_le_mul hi (show k≤80 by omega)) (by omega);clear hO hB;by_cases hlt:i<200
  ·have d0:decide (i<200)=true:=by simpa using hlt
   go_wp2_with (at_builtin;refine a2m rfl (.tmp 9) (.tmp 22) 25 3 rfl underlying25 Tryz.infoInt w.heap.size _ i ys rfl HO.out hz _ ?cf _ rfl ?c1 ?_)
   case cf=>exact⟨by omega,by omega⟩
   case c1=>omega
   intro v' w' h1 h2 h3;have G1:=Hd h1;have G2:=Hd h2;clear h1 h2 h3;go_wp2;go_roundw
   case rel=>exact⟨i+1,_,by go_num,by omega,G1,HB.trans G2⟩
   case measure=>simp[intOf];omega
  ·have d0:decide (i<200)=false:=by simpa using hlt
   go_wp2;go_ret;exact⟨⟨_,_,_,rfl,HO⟩,HB⟩
def c4d:List ByteArray:=[⟨#[]⟩,⟨#[48]⟩,⟨#[45,48]⟩,⟨#[45]⟩,⟨#[48,48]⟩,⟨#[57,50,50,51,51,55,50,48,51,54,56,53,52,55,55,53,56,48,55]⟩,⟨#[57,50,50,51,51,55,50,48,51,54,56,53,52,55,55,53,56,48,56]⟩,⟨#[45,57,50,50,51,51,55,50,48,51,54,56,53,52,55,55,53,56,48,56]⟩,⟨#[45,57,50,50,51,51,55,50,48,51,54,56,53,52,55,55,53,56,48,57]⟩,⟨#[57,57,57,57,57,57,57,57,57,57,57,57,57,57,57,57,57,57,57,57]⟩,⟨#[49,56,52,52,54,55,52,52,48,55,51,55,48,57,53,53,49,54,49,54]⟩,⟨#[49,120]⟩,⟨#[43,49]⟩,⟨#[32,49]⟩,⟨#[45,45,49]⟩,⟨#[97,32,98]⟩,⟨#[32,97]⟩,⟨#[97,32]⟩,⟨#[32,32]⟩]
def c4c:List ByteArray:=[⟨#[109,101,115,104,32,45,32,50,10,111,117,116,115,10]⟩,⟨#[109,101,115,104,32,120,32,50,10,111,117,116,115,10]⟩,⟨#[109,101,115,104,32,32,10,111,117,116,115,10]⟩,⟨#[109,101,115,104,10,111,117,116,115,10]⟩,⟨#[109,101,115,104,32,45,10,111,117,116,115]⟩,⟨#[109,101,115,104,32,45,10]⟩,⟨#[111,117,116,115,10,109,101,115,104,32,45,10]⟩,⟨#[109,101,115,104,32,45,10,111,117,116,115,32,48,10]⟩,⟨#[109,101,115,104,32,120,32,50,10,102,105,108,108,32,40,32,41,32,40,32,41,32,40,32,41,32,48,32,48,32,10,111,117,116,115,10]⟩,⟨#[109,101,115,104,32,120,32,50,10,102,105,108,108,32,40,32,41,32,40,32,50,32,41,32,40,32,41,32,48,32,48,32,46,10,111,117,116,115,32,48,10]⟩,⟨#[109,101,115,104,32,120,32,50,10,102,105,108,108,32,40,32,41,32,40,32,50,32,41,32,40,32,41,32,48,32,48,32,122,10,111,117,116,115,32,48,10]⟩]
def d1x (d:ByteArray):List ByteArray:=[⟨#[]⟩,⟨#[32]⟩,⟨#[10]⟩,⟨#[40]⟩,⟨#[48]⟩,⟨#[45]⟩,⟨#[120]⟩,d]
theorem b2l {L:List ByteArray}{q:Nat}(hb:∀ y∈L,y.size≤q)(h:i<L.length):∃ x:ByteArray,(L.map Value.string)[i]?=some (.string x)∧x.size≤q:=by
 obtain⟨x,hx⟩:∃ x,L[i]?=some x:=gE h;exact⟨x,by rw[List.getElem?_map,hx];rfl,hb x (mG hx)⟩
theorem d4j (h:i<19):∃ x:ByteArray,(c4d.map Value.string)[i]?=some (.string x)∧x.size≤90000:=b2l (by intro y hy;exact Nat.le_trans ((by decide:∀ y∈c4d,y.size≤100) y hy) (by omega)) h
theorem d4i (h:i<11):∃ x:ByteArray,(c4c.map Value.string)[i]?=some (.string x)∧x.size≤90000:=b2l (by intro y hy;exact Nat.le_trans ((by decide:∀ y∈c4c,y.size≤100) y hy) (by omega)) h
theorem d9f {d:ByteArray}(hd:d.size≤2)(h:i<8):∃ x:ByteArray,((d1x d).map Value.string)[i]?=some (.string x)∧x.size≤2:=b2l (by
 intro y hy;simp only[d1x,List.mem_cons,List.not_mem_nil,or_false] at hy;rcases hy with rfl|rfl|rfl|rfl|rfl|rfl|rfl|rfl
 all_goals first|exact hd|decide) h
theorem d2u:(prog.info? 5).map (fun i=>(i.zero,i.size,i.bytes))=some (some (.int .u8 0),1,1):=by kernel_rfl
theorem b6d:∃ i,prog.info? 5=some i∧i.zero=some (.int .u8 0)∧i.size=1∧i.bytes=1:=by
 have h:=d2u
 cases e:prog.info? 5 with
 | none=>rw[e] at h;cases h
 | some i =>
  rw[e] at h;simp only[Option.map_some,Option.some.injEq,Prod.mk.injEq] at h;exact⟨i,rfl,h.1,h.2.1,h.2.2⟩
def bRow (n:Nat):Array Value:=madeCells #[.int .u8 0] n
theorem e4k {j:Nat}(h:j<n):(bRow n)[j]?=some (.int .u8 0):=by
 rw[bRow,madeCells,Array.getElem?_map,Array.getElem?_range,iP h]
 show some (#[Value.int .u8 0][j % 1]!)=_
 rw[Nat.mod_one];rfl
def bigT (n:Nat):ByteArray:=⟨(List.replicate n (0:UInt8)).toArray⟩
theorem d4z (n:Nat):(bigT n).size=n:=by show(List.replicate n (0:UInt8)).toArray.size=n;simp
theorem c0s (hn:n≤100000)(w:World):
  (Instr.makeSlice 33 (.int .i64 n) (.int .i64 n)).run prog w=.ok (.slice (some ⟨w.heap.size,0,none⟩) n n) (w.alloc (.cells (bRow n) 5)):=by
 obtain⟨i,hi,hz,hs,hb⟩:=b6d;have:=run_make (P:=prog) w 33 5 i _ underlying33 hi hz .i64 .i64 n n (by omega) (by omega) (by rw[hb];omega) (by omega);rw[this,hs,Nat.mul_one];simp only[Int.toNat_natCast];rfl
theorem c0r (n:Nat)(w:World):
  (convert 33 9 (.slice (some ⟨w.heap.size,0,none⟩) n n)).run prog (w.alloc (.cells (bRow n) 5))=.ok (.string (bigT n)) (w.alloc (.cells (bRow n) 5)):=by
 have h:=run_convert_bytes_back (P:=prog) (w.alloc (.cells (bRow n) 5)) 33 9 5 ⟨w.heap.size,0,none⟩ n (List.replicate n 0) underlying33 underlying5 underlying9 (fun j hj=>by
  rw[List.length_replicate] at hj
  rw[Addr.add_lit,Nat.zero_add,World.cell?_alloc_mark,e4k hj,List.getElem_replicate];rfl)
 rw[List.length_replicate] at h;exact h
theorem d2b (h:i<T.size)(hT:T.size≤65536):IntKind.i64.wrap ((i:Int)+1)=((i+1:Nat):Int):=by
 rw[show(i:Int)+1=((i+1:Nat):Int) by omega];exact IntWalk.i64_in _ ⟨by omega,by omega⟩
theorem d3w {a:Nat}(h1:a≤b)(h2:b≤T.size)(w:World):(Instr.slice 9 (.string T) (some (.int .i64 a)) (some (.int .i64 b)) none).run prog w=.ok (.string (T.extract a b)) w:=by
 have hu:prog.underlying 9=some .string:=underlying9
 go_simp
theorem d8g (h2:b≤T.size)(w:World):(Instr.slice 9 (.string T) (some (.int .i64 b)) none none).run prog w=.ok (.string (T.extract b T.size)) w:=by
 have hu:prog.underlying 9=some .string:=underlying9
 go_simp
theorem d3x (h:i<T.size)(hT:T.size≤65536)(w:World):(Instr.slice 9 (.string T) (some (.int .i64 i)) (some (.int .i64 (IntKind.i64.wrap ((i:Int)+1)))) none).run prog w=.ok (.string (T.extract i (i+1))) w:=by
 rw[d2b h hT];exact d3w (by omega) h w
theorem c6r (h:i<T.size)(hT:T.size≤65536)(w:World):(Instr.slice 9 (.string T) (some (.int .i64 (IntKind.i64.wrap ((i:Int)+1)))) none none).run prog w=.ok (.string (T.extract (i+1) T.size)) w:=by
 rw[d2b h hT];exact d8g h w
attribute [irreducible] bRow bigT
theorem c0g (hT:Tabs w):Calls prog 3 #[] w fun e w'=>e=.returned (.bool true)∧Below w.heap.size w w':=by
 have HT:=Hd hT;clear hT
 go_enter func3,ntmps3
 go_wp2_with fail
 go_loopw [1] (fun kv wr=>∃ k:Nat,kv=.int .i64 k∧k≤4∧Below w.heap.size w wr) (fun kv _=>4-(intOf kv).toNat)
 case atStart=>exact⟨0,rfl,by omega,Below.refl _ _⟩
 case round =>
  obtain⟨k,rfl,hk,hB⟩:=hrel;have HB:=Hd hB;clear hB;obtain⟨wb,rfl⟩:∃ wb:World,wb=wr:=⟨_,rfl⟩;by_cases hlt:k<4
  ·have d0:decide ((k:Int)<4)=true:=by simp;omega
   have d0n:decide (k<4)=true:=by simpa using hlt
   have CT:=d4g (w:=wb) k (by omega)
   go_wp2_with fail
   refine CT.mono ?_;rintro e1 w1 ⟨⟨v,n,ys,rfl,hO⟩,hb1⟩;obtain⟨At,ct,rfl,_,hI,_⟩:=hO.form;have CG:=c8q (c:=ct) hI;have HF:=Hd (b7f ys);have HB1:=Hd (a1c HB hb1);clear CT hO hI hb1
   go_wp2_with fail
   refine CG.mono ?_;rintro e2 w2 ⟨⟨v,rfl,hG⟩,hb2⟩;have HB2:=Hd (a1c HB1 hb2);have C3:=a6p hG HF;have hts:=b9s (a5d ys);obtain⟨⟨T,e⟩,hTe⟩:∃ r,a4f (a5d ys)=r:=⟨_,rfl⟩;rw[hTe] at C3 hts;replace hts:T.size≤65536:=hts;clear CG hb2 hG hTe HF HB1 HB
   go_wp2_with fail
   refine C3.mono ?_;rintro e3 w3 ⟨rfl,hb3⟩;have HB3:=Hd (a1c HB2 hb3);clear C3 hb3 HB2
   go_wp2_with fail
   go_loopw [4] (fun iv wr=>∃ i:Nat,iv=.int .i64 i∧i≤T.size∧i≤400∧Below w.heap.size w wr) (fun iv _=>400-(intOf iv).toNat)
   case atStart=>exact⟨0,rfl,by omega,by omega,HB3⟩
   case round =>
    clear HB3;obtain⟨i,rfl,hiT,hi4,hB⟩:=hrel;have HB:=Hd hB;clear hB;obtain⟨wc,rfl⟩:∃ wc:World,wc=wr:=⟨_,rfl⟩;have dl:decide ((i:Int)≤(T.size:Int))=true:=by simp;omega
    have dln:decide (i≤T.size)=true:=by simpa using hiT
    by_cases hl4:i<400
    ·have d4:decide ((i:Int)<400)=true:=by simp;omega
     have d4n:decide (i<400)=true:=by simpa using hl4
     have L0:=a3d (w:=wc) (T.extract 0 i) (by rw[ByteArray.size_extract];omega) (HT.below HB)
     go_wp2_with fail
     refine L0.mono ?_;rintro e4 w4 ⟨rfl,hb4⟩;have HB4:=Hd (a1c HB hb4);clear L0 hb4 HB;by_cases he:i=T.size
     ·have de:((i:Int)==(T.size:Int))=true:=by rw[he];simp
      have den:(i==T.size)=true:=by simpa using he
      go_wp2_with fail
      go_roundw
      case rel=>exact⟨k+1,by go_num,by omega,HB4⟩
      case measure=>simp[intOf];omega
     ·have de:((i:Int)==(T.size:Int))=false:=by simp;omega
      have den:(i==T.size)=false:=by simpa using he
      have es1:(T.extract i (i+1)).size=1:=by rw[ByteArray.size_extract];omega
      have u0:(T.extract i (i+1)).size+(T.extract i (i+1)).size≤9223372036854775807:=by omega
      obtain⟨D,hD⟩:∃ D,T.extract i (i+1)++T.extract i (i+1)=D:=⟨_,rfl⟩;have hD2:D.size≤2:=by rw[←hD,ByteArray.size_append];omega
      have hsa:=d3x (show i<T.size by omega) hts
      go_upto_region 11 with fail
      refine wp_region_held_drew (S:=(fun _=>True)) (by kernel_rfl) ?_ (fun hq_=>?_)
      ·trivial
      refine zV 0 hq_ ?_;refine zV 1 hq_ ?_;refine zV 2 hq_ ?_;refine zV 3 hq_ ?_;refine zV 4 hq_ ?_;refine zV 5 hq_ ?_;refine zV 6 hq_ ?_;refine zV 7 hq_ ?_;refine zV 8 hq_ ?_;refine zV 9 hq_ ?_;refine zV 10 hq_ ?_;refine zV 13 hq_ ?_;refine e1 11 fun K hK=>?_
      (skip)
      go_simp;(try go_wp2_with fail);refine zX hK fun hq_=>?_;refine zV 12 hq_ ?_;refine dN ?_;have h5:=(((Sep.nil w).below HB4).allocBox w4.heap.size 9 [.string ⟨#[]⟩,.string ⟨#[32]⟩,.string ⟨#[10]⟩,.string ⟨#[40]⟩,.string ⟨#[48]⟩,.string ⟨#[45]⟩,.string ⟨#[120]⟩,.string D] rfl).drew;generalize (w4.alloc (.cells #[.string ⟨#[]⟩,.string ⟨#[32]⟩,.string ⟨#[10]⟩,.string ⟨#[40]⟩,.string ⟨#[48]⟩,.string ⟨#[45]⟩,.string ⟨#[120]⟩,.string D] 9)).drew=w5 at *;obtain⟨g8,hg8⟩:∃ g,w4.heap.size=g:=⟨_,rfl⟩;rw[hg8] at h5 ⊢;have H:=Hd (show Sep w w5 [.box g8 9 ((d1x D).map Value.string)] from h5);have HDS:=Hd hD2;clear h5 hg8 HB4 hsa u0 es1 hD hD2
      go_wp2_with fail
      go_loopw [54] (fun jv wr=>∃ j:Nat,jv=.int .i64 j∧j≤8∧Sep w wr [.box g8 9 ((d1x D).map Value.string)]) (fun jv _=>8-(intOf jv).toNat)
      case atStart=>exact⟨0,rfl,by omega,H⟩
      case round =>
       clear H;obtain⟨j,rfl,hj,hS⟩:=hrel;have H:=Hd hS;clear hS;obtain⟨wd,rfl⟩:∃ wd:World,wd=wr:=⟨_,rfl⟩;by_cases hl8:j<8
       ·obtain⟨x,hx,hxs⟩:=d9f HDS hl8;have c0:=H.cell 0 j rfl hx;have d8:decide ((j:Int)<8)=true:=by simp;omega
        have d8n:decide (j<8)=true:=by simpa using hl8
        have es1:(T.extract 0 i).size=i:=by rw[ByteArray.size_extract];omega
        have es2:(T.extract (i+1) T.size).size=T.size-(i+1):=by rw[ByteArray.size_extract];omega
        have u1:(T.extract 0 i).size+x.size≤9223372036854775807:=by omega
        have u2:(T.extract 0 i++x).size+(T.extract (i+1) T.size).size≤9223372036854775807:=by rw[ByteArray.size_append];omega
        have LS:=Hd (fun (w' : World) (hb:Below w.heap.size w w')=>a3d (w:=w') (T.extract 0 i++x++T.extract (i+1) T.size) (by simp only[ByteArray.size_append];omega) (HT.below hb));have hsf:=c6r (show i<T.size by omega) hts;clear hx
        go_upto_region 14 with fail
        refine qR (C:=Cl wd (fun _=>True)) (⟨a1h (Below.refl _ _) 1,trivial⟩) ?_;refine qV ?_;refine qV ?_;refine qV ?_;refine qV ?_;refine qV ?_;refine qV ?_;refine qV ?_;refine qV ?_;refine qV ?_;refine qV ?_;refine qC ((fun w' hw=>(LS w' (a1c H.base hw.1)).mono fun e w'' h=>⟨h.1,a1c hw.1 h.2,trivial⟩)) ?_;refine qV ?_;refine wpQuiet_nil ?_;intro w9 hw9;replace H:=Hd (H.below hw9.1);clear hw9;go_wp2;go_roundw
        case rel=>exact⟨j+1,by go_num,by omega,H⟩
        case measure=>simp[intOf];omega
       ·have d8:decide ((j:Int)<8)=false:=by simp;omega
        have d8n:decide (j<8)=false:=by simpa using hl8
        go_wp2_with fail
        go_roundw
        case rel=>exact⟨i+1,by go_num,by omega,by omega,H.base⟩
        case measure=>simp[intOf];omega
    ·have d4:decide ((i:Int)<400)=false:=by simp;omega
     have d4n:decide (i<400)=false:=by simpa using hl4
     go_wp2_with fail
     go_roundw
     case rel=>exact⟨k+1,by go_num,by omega,HB⟩
     case measure=>simp[intOf];omega
  ·have d0:decide ((k:Int)<4)=false:=by simp;omega
   have d0n:decide (k<4)=false:=by simpa using hlt
   have h3:=((Sep.nil w).below HB).allocBox wb.heap.size 9 (c4d.map Value.string) rfl
   go_wp2_with fail
   obtain⟨gl,hgl⟩:∃ gl,wb.heap.size=gl:=⟨_,rfl⟩;rw[hgl] at h3 ⊢;have H:=Hd h3;clear h3 hgl HB
   go_loopw [73] (fun jv wr=>∃ j:Nat,jv=.int .i64 j∧j≤19∧Sep w wr [.box gl 9 (c4d.map Value.string)]) (fun jv _=>19-(intOf jv).toNat)
   case atStart=>exact⟨0,rfl,by omega,H⟩
   case round =>
    clear H;obtain⟨j,rfl,hj,hS⟩:=hrel;have H:=Hd hS;clear hS;obtain⟨wc,rfl⟩:∃ wc:World,wc=wr:=⟨_,rfl⟩;by_cases hl8:j<19
    ·obtain⟨x,hx,hxs⟩:=d4j hl8;have c0:=H.cell 0 j rfl hx;have d8:decide ((j:Int)<19)=true:=by simp;omega
     have d8n:decide (j<19)=true:=by simpa using hl8
     clear hx
     go_wp2_with fail
     refine(a9y x hxs (HT.below H.base)).mono ?_;rintro e3 w9 ⟨rfl,hb⟩;replace H:=Hd (H.below hb);clear hb;go_wp2;go_roundw
     case rel=>exact⟨j+1,by go_num,by omega,H⟩
     case measure=>simp[intOf];omega
    ·have d8:decide ((j:Int)<19)=false:=by simp;omega
     have d8n:decide (j<19)=false:=by simpa using hl8
     have h3:=((Sep.nil w).below H.base).allocBox wc.heap.size 9 (c4c.map Value.string) rfl
     go_wp2_with fail
     obtain⟨gm,hgm⟩:∃ gl,wc.heap.size=gl:=⟨_,rfl⟩;rw[hgm] at h3 ⊢;replace H:=Hd h3;clear h3 hgm
     go_loopw [83] (fun jv wr=>∃ j:Nat,jv=.int .i64 j∧j≤11∧Sep w wr [.box gm 9 (c4c.map Value.string)]) (fun jv _=>11-(intOf jv).toNat)
     case atStart=>exact⟨0,rfl,by omega,H⟩
     case round =>
      clear H;obtain⟨i,rfl,hi,hS⟩:=hrel;have H:=Hd hS;clear hS;obtain⟨wd,rfl⟩:∃ wd:World,wd=wr:=⟨_,rfl⟩;by_cases hl9:i<11
      ·obtain⟨x,hx,hxs⟩:=d4i hl9;have c0:=H.cell 0 i rfl hx;have d9:decide ((i:Int)<11)=true:=by simp;omega
       have d9n:decide (i<11)=true:=by simpa using hl9
       clear hx
       go_wp2_with fail
       refine(a3d x (by omega) (HT.below H.base)).mono ?_;rintro e3 w9 ⟨rfl,hb⟩;replace H:=Hd (H.below hb);clear hb;go_wp2;go_roundw
       case rel=>exact⟨i+1,by go_num,by omega,H⟩
       case measure=>simp[intOf];omega
      ·have d9:decide ((i:Int)<11)=false:=by simp;omega
       have d9n:decide (i<11)=false:=by simpa using hl9
       have hmk:∀ w,(Instr.makeSlice 33 (.int .i64 65537) (.int .i64 65537)).run prog w=.ok (.slice (some ⟨w.heap.size,0,none⟩) 65537 65537) (w.alloc (.cells (bRow 65537) 5)):=fun w=>c0s (n:=65537) (by omega) w
       have hcv:=c0r 65537 wd;have hbig:=d4z 65537;have HB6:=Hd (show Below w.heap.size w (wd.alloc (.cells (bRow 65537) 5)) from H.base.alloc H.base.size _);have LB:=a3d (w:=wd.alloc (.cells (bRow 65537) 5)) (bigT 65537) (by rw[hbig];omega) (HT.below HB6)
       go_wp2_with fail
       refine LB.mono ?_;rintro e9 w9 ⟨rfl,hb⟩;have HB9:=Hd (a1c HB6 hb);clear hb LB hmk hcv hbig HB6 H
       go_wp2_with fail
       refine(a7q (HT.below HB9)).mono ?_;rintro e10 w10 ⟨rfl,hb⟩;have HB10:=Hd (a1c HB9 hb);clear hb;go_wp2;go_ret;exact⟨rfl,HB10⟩
end Go.Proofs.YtdcmanhgekjhgaaGreatDoor
