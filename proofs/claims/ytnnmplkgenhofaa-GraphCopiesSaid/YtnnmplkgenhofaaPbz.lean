import Derived.Test.YtnnmplkgenhofaaPbw
namespace Go.Proofs.Ytnnmplkgenhofaa
open Go.RowKit
structure InW (us:List Value) (pool:List Chunk) (j:Nat) (A:Option Addr) (na ca:Nat) (B:Option Addr) (nb cb:Nat) (C:Option Addr) (nc cc p q r:Nat):Prop where
 u1:us[j*7+1]? = some (.slice A na ca)
 u2:us[j*7+2]? = some (.slice B nb cb)
 u3:us[j*7+3]? = some (.slice C nc cc)
 u4:∃ x,us[j*7+4]? = some (.int .i64 x)
 pA:∃ xs,pool[p]? = some (Chunk.own 3 (.slice A na ca) na xs)
 pB:∃ xs,pool[q]? = some (Chunk.own 3 (.slice B nb cb) nb xs)
 pC:∃ xs,pool[r]? = some (Chunk.own 3 (.slice C nc cc) nc xs)
def PoolW (us:List Value) (n:Nat) (pool:List Chunk):Prop:=us.length=n*7∧∀ j,j<n→∃ A na ca B nb cb C nc cc p q r,InW us pool j A na ca B nb cb C nc cc p q r
theorem poolW_of {us:List Value} {N:List NodeV} {pool:List Chunk} (h:PoolN us N pool):PoolW us N.length pool :=
 ⟨h.1,fun j hj=>by
  obtain ⟨A,na,ca,B,nb,cb,C,nc,cc,p,q,r,g⟩:=h.2 j _ (List.getElem?_eq_getElem hj)
  exact ⟨A,na,ca,B,nb,cb,C,nc,cc,p,q,r,g.u1,g.u2,g.u3,⟨_,g.u4⟩,⟨_,g.pA⟩,⟨_,g.pB⟩,⟨_,g.pC⟩⟩⟩
theorem PoolW.setN {us:List Value} {n:Nat} {pool:List Chunk} (h:PoolW us n pool) (k:Nat) (y:Int):PoolW (us.set (k*7+4) (.int .i64 y)) n pool :=
 ⟨by simp [h.1],fun j hj=>by
  obtain ⟨A,na,ca,B,nb,cb,C,nc,cc,p,q,r,g⟩:=h.2 j hj;refine ⟨A,na,ca,B,nb,cb,C,nc,cc,p,q,r,?_,?_,?_,?_,g.pA,g.pB,g.pC⟩
  ·rw [List.getElem?_set_ne (by omega)];exact g.u1
  ·rw [List.getElem?_set_ne (by omega)];exact g.u2
  ·rw [List.getElem?_set_ne (by omega)];exact g.u3
  ·by_cases e:j=k
   ·subst e;exact ⟨y,by rw [List.getElem?_set_self (by have:=h.1;omega)]⟩
   ·rw [List.getElem?_set_ne (by omega)];exact g.u4⟩
theorem pool_set {pool:List Chunk} {e:TypeId} {v u:Value} {n m:Nat} {xs ys:List Int} {p q:Nat} (hp:pool[p]? = some (Chunk.own e v n xs)) (h:∃ zs,pool[q]? = some (Chunk.own e u m zs)):∃ zs,(pool.set p (Chunk.own e v n ys))[q]? = some (Chunk.own e u m zs):=by
 by_cases eq:p=q
 ·subst eq;obtain ⟨zs,hz⟩:=h;rw [hp] at hz;injection hz with hz
  injection hz with _ h1 h2 _
  subst h1 h2;exact ⟨ys,by rw [List.getElem?_set_self (List.getElem?_eq_some_iff.1 hp).1]⟩
 ·rw [List.getElem?_set_ne eq];exact h
theorem PoolW.setP {us:List Value} {n:Nat} {pool:List Chunk} (h:PoolW us n pool) {p:Nat} {v:Value} {m:Nat} {xs:List Int} (hp:pool[p]? = some (Chunk.own 3 v m xs)) (ys:List Int):PoolW us n (pool.set p (Chunk.own 3 v m ys)) :=
 ⟨h.1,fun j hj=>by
  obtain ⟨A,na,ca,B,nb,cb,C,nc,cc,p', q,r,g⟩:=h.2 j hj
  exact ⟨A,na,ca,B,nb,cb,C,nc,cc,p', q,r,g.u1,g.u2,g.u3,g.u4,pool_set hp g.pA,pool_set hp g.pB,pool_set hp g.pC⟩⟩
set_option maxRecDepth 100000 in
set_option maxHeartbeats 6400000 in
theorem copies10_walk {w:World} {A0:Option Addr} {n0 c0:Nat} {xs:List Int} (hI:Ints w A0 n0 xs) :
  Calls Try.prog 4 #[.slice A0 n0 c0] w fun e w' => e=.returned (.bool true)∧Below w.heap.size w w' := by
 have C1:=graph_k (c:=c0) hI;have HJ:=Hd hI;obtain ⟨G,hGd⟩:∃ G,kGraph xs=G:=⟨_,rfl⟩;rw [hGd] at C1;have HGD:=Hd hGd;clear hGd hI
 go_enter Try.func4,Try.ntmps4
 go_wp2_with fail
 refine C1.mono ?_;rintro e1 w1 ⟨⟨v1,rfl,hG1⟩,hb1⟩;have C2:=graph_k (c:=c0) (HJ.out.below hb1);rw [HGD.out] at C2;have HB1:=Hd hb1;clear C1
 go_wp2_with fail
 refine C2.mono ?_;rintro e2 w2 ⟨⟨v2,rfl,hG2⟩,hb2⟩;have HG1:=Hd (hG1.below hb2);have HG2:=Hd hG2;have HB2:=Hd hb2;obtain ⟨X1,x1,y1,X2,x2,y2,X3,x3,y3,rfl,_⟩:=hG1;obtain ⟨Z1,z1,t1,Z2,z2,t2,Z3,z3,t3,rfl,_⟩:=hG2;clear C2 hb1 hb2;have h1:=((Sep.nil w2).allocBox w2.heap.size 25 [.slice X1 x1 y1,.string G.names,.slice X2 x2 y2,.slice X3 x3 y3] rfl).allocBox (w2.heap.size+1) 25 [.slice Z1 z1 t1,.string G.names,.slice Z2 z2 t2,.slice Z3 z3 t3] (by simp)
 go_upto_region 2 with fail
 generalize (w2.alloc (.cells #[.slice X1 x1 y1,.string G.names,.slice X2 x2 y2,.slice X3 x3 y3] 25)).alloc (.cells #[.slice Z1 z1 t1,.string G.names,.slice Z2 z2 t2,.slice Z3 z3 t3] 25)=w3 at *;have H:=Hd h1;clear h1;have HP0:Hid (w3.cell? ⟨w2.heap.size,0,none⟩=some (.slice X1 x1 y1)):=Hd (H.out.cell 1 0 rfl rfl);have HP1:Hid (w3.cell? ⟨w2.heap.size,1,none⟩=some (.string G.names)):=Hd (H.out.cell 1 1 rfl rfl);have HP2:Hid (w3.cell? ⟨w2.heap.size,2,none⟩=some (.slice X2 x2 y2)):=Hd (H.out.cell 1 2 rfl rfl);have HP3:Hid (w3.cell? ⟨w2.heap.size,3,none⟩=some (.slice X3 x3 y3)):=Hd (H.out.cell 1 3 rfl rfl);have HQ0:Hid (w3.cell? ⟨w2.heap.size+1,0,none⟩=some (.slice Z1 z1 t1)):=Hd (H.out.cell 0 0 rfl rfl);have HQ1:Hid (w3.cell? ⟨w2.heap.size+1,1,none⟩=some (.string G.names)):=Hd (H.out.cell 0 1 rfl rfl);have HQ2:Hid (w3.cell? ⟨w2.heap.size+1,2,none⟩=some (.slice Z2 z2 t2)):=Hd (H.out.cell 0 2 rfl rfl);have HQ3:Hid (w3.cell? ⟨w2.heap.size+1,3,none⟩=some (.slice Z3 z3 t3)):=Hd (H.out.cell 0 3 rfl rfl);have HLP:=Hd (H.out.blockLt 1 rfl).2;have HLQ:=Hd (H.out.blockLt 0 rfl).2;have HB3:=Hd H.out.base;have HG13:=Hd (HG1.out.below HB3.out);have HG23:=Hd (HG2.out.below HB3.out);clear H;have g0:=HP0.out;have g1:=HP1.out;have g2:=HP2.out;have g3:=HP3.out
 go_wp2_with fail
 refine (gCopy_any (q:=10) HG13.out (HGD.out ▸ few_graph xs)).mono ?_;intro e4 w4 hc;obtain ⟨u,he,hgU,hbU⟩:=copy_graph HG13.out hc;obtain ⟨A,na,ca,B,nb,cb,C,nc,cc,us,pool,he2,hP,hl,hS⟩:=hc;subst he2;injection he with he
 subst he;clear g0 g1 g2 g3;have hPW:PoolW us nb pool:=by rw [← hl];exact poolW_of hP
 have h5:=hS.allocBox w4.heap.size 25 [.slice A na ca,.string G.names,.slice B nb cb,.slice C nc cc] rfl;have hgU5:=hgU.below ((Below.refl _ _).alloc (Nat.le_refl _) (.cells #[.slice A na ca,.string G.names,.slice B nb cb,.slice C nc cc] 25));have HPW:=Hd hPW;have HNB9:=Hd (show nb≤900 from by obtain ⟨_,_,_,_,_,_,_,_,_,_,hL9⟩:=HG13.out;have h8:=hL9.inB.1;have h9:=hL9.inB.2.1;omega);clear hPW hP hl hS hgU hbU
 go_upto_region 3 with fail
 generalize w4.alloc (.cells #[.slice A na ca,.string G.names,.slice B nb cb,.slice C nc cc] 25)=w5 at *;generalize w4.heap.size=gx at *;have H:=Hd h5;have HGU:=Hd hgU5;clear h5 hgU5;obtain ⟨k0,k1,k2,k3⟩:=H.out.cells4 0 rfl;have g0:=H.out.oldCell HLQ.out HQ0.out;have g1:=H.out.oldCell HLQ.out HQ1.out;have g2:=H.out.oldCell HLQ.out HQ2.out;have g3:=H.out.oldCell HLQ.out HQ3.out;have CC:=gSame_any HGU.out (HG23.out.below H.out.base);rw [sameG_yes rfl] at CC
 go_wp2_with fail
 refine CC.mono ?_;rintro e6 w6 ⟨rfl,hb6⟩;replace H:=Hd (H.out.below hb6);clear CC hb6 HGU k0 k1 k2 k3 g0 g1 g2 g3;obtain ⟨k0,k1,k2,k3⟩:=H.out.cells4 0 rfl
 go_wp2_with fail
 clear k0 k1 k2 k3;have hle_na:=(H.out.ownInts 1 rfl).2.2.le
 go_loopw [25] (fun iv wr=>∃ (i:Nat) (xs1:List Int),iv=.int .i64 i∧i≤na∧Sep w3 wr (.box gx 25 [.slice A na ca,.string G.names,.slice B nb cb,.slice C nc cc]::.own 3 (.slice A na ca) na xs1::.row 32 7 (.slice B nb cb) nb us::.own 3 (.slice C nc cc) nc G.outs::pool)) (fun iv _=>na-(intOf iv).toNat)
 case atStart=>exact ⟨0,G.sizes,rfl,Nat.zero_le _,H.out⟩
 case round =>
  clear H;obtain ⟨i,xs1,rfl,hin,hS⟩:=hrel;have H:=Hd hS;clear hS;by_cases hlt:i<na
  ·obtain ⟨gS,cS,hv,hO⟩:=(H.out.ownS 1 rfl).own (by omega);injection hv with hv1 _ hv3
   subst hv1;subst hv3;obtain ⟨x,hx⟩:∃ x,xs1[i]? = some x:=⟨_,List.getElem?_eq_getElem (by have:=hO.len;omega)⟩;have cx:=hO.cell hx;have fx:=hO.frozen i;have HS:=Hd (H.out.store 1 i (fits_wrap (x+1)) rfl);obtain ⟨k0,k1,k2,k3⟩:=H.out.cells4 0 rfl;clear hO hx;go_wp2;go_roundw
   case rel=>exact ⟨i+1,xs1.set i (wrap64 (x+1)),by go_num,by omega,HS.out⟩
   case measure=>simp [intOf];omega
  ·obtain ⟨wz,hwz⟩:∃ wz:World,wz=wr:=⟨_,rfl⟩;obtain ⟨k0,k1,k2,k3⟩:=H.out.cells4 0 rfl
   go_wp2_with fail
   clear k0 k1 k2 k3 hwz;have hle_nc:=(H.out.ownInts 3 rfl).2.2.le
   go_loopw [39] (fun iv wr=>∃ (i:Nat) (xs3:List Int),iv=.int .i64 i∧i≤nc∧Sep w3 wr (.box gx 25 [.slice A na ca,.string G.names,.slice B nb cb,.slice C nc cc]::.own 3 (.slice A na ca) na xs1::.row 32 7 (.slice B nb cb) nb us::.own 3 (.slice C nc cc) nc xs3::pool)) (fun iv _=>nc-(intOf iv).toNat)
   case atStart=>exact ⟨0,G.outs,rfl,Nat.zero_le _,H.out⟩
   case round =>
    clear H;obtain ⟨i,xs3,rfl,hin,hS⟩:=hrel;have H:=Hd hS;clear hS;by_cases hlt:i<nc
    ·obtain ⟨gS,cS,hv,hO⟩:=(H.out.ownS 3 rfl).own (by omega);injection hv with hv1 _ hv3
     subst hv1;subst hv3;obtain ⟨x,hx⟩:∃ x,xs3[i]? = some x:=⟨_,List.getElem?_eq_getElem (by have:=hO.len;omega)⟩;have cx:=hO.cell hx;have fx:=hO.frozen i;have HS:=Hd (H.out.store 3 i (fits_wrap (x+1)) rfl);obtain ⟨k0,k1,k2,k3⟩:=H.out.cells4 0 rfl;clear hO hx;go_wp2;go_roundw
     case rel=>exact ⟨i+1,xs3.set i (wrap64 (x+1)),by go_num,by omega,HS.out⟩
     case measure=>simp [intOf];omega
    ·obtain ⟨wz,hwz⟩:∃ wz:World,wz=wr:=⟨_,rfl⟩;obtain ⟨k0,k1,k2,k3⟩:=H.out.cells4 0 rfl
     go_wp2_with fail
     clear k0 k1 k2 k3 hwz;have hle_nb:=HNB9.out
     go_loopw [53] (fun iv wr=>∃ (i:Nat) (us2:List Value) (pool2:List Chunk),iv=.int .i64 i∧i≤nb∧PoolW us2 nb pool2∧Sep w3 wr (.box gx 25 [.slice A na ca,.string G.names,.slice B nb cb,.slice C nc cc]::.own 3 (.slice A na ca) na xs1::.row 32 7 (.slice B nb cb) nb us2::.own 3 (.slice C nc cc) nc xs3::pool2)) (fun iv _=>nb-(intOf iv).toNat)
     case atStart=>exact ⟨0,us,pool,rfl,Nat.zero_le _,HPW.out,H.out⟩
     case round =>
      clear H;obtain ⟨i,us2,pool2,rfl,hin,hPW,hS⟩:=hrel;have H:=Hd hS;have HPW2:=Hd hPW;clear hS hPW;by_cases hltN:i<nb
      ·obtain ⟨gB,cB,hv,hcB⟩:=H.out.rowForm 2 rfl (by omega);injection hv with hv1 _ hv3
       subst hv1;subst hv3;obtain ⟨D1,d1,f1,D2,d2,f2,D3,d3,f3,p1,p2,p3,hW⟩:=HPW2.out.2 i hltN;obtain ⟨x4,hx4⟩:=hW.u4;have n4:=H.out.cellRow 2 rfl hx4;have f4:=H.out.frozenRow 2 rfl (i*7+4);obtain ⟨k0,k1,k2,k3⟩:=H.out.cells4 0 rfl;have h6:=H.out.setRow 2 rfl (i*7+4) (.int .i64 (wrap64 (x4+1)));have HPW3:=Hd (HPW2.out.setN i (wrap64 (x4+1)));clear hW hx4
       go_upto_region 19 with fail
       generalize wr.setCell ⟨gB,i*7+4,none⟩ (.int .i64 (wrap64 (x4+1)))=wa at *;obtain ⟨us3,hus3⟩:∃ us3,us2.set (i*7+4) (.int .i64 (wrap64 (x4+1)))=us3:=⟨_,rfl⟩;rw [hus3] at HPW3;replace H:=Hd (show Sep w3 wa (.box gx 25 [.slice A na ca,.string G.names,.slice (some ⟨gB,0,none⟩) nb cb,.slice C nc cc]::.own 3 (.slice A na ca) na xs1::.row 32 7 (.slice (some ⟨gB,0,none⟩) nb cb) nb us3::.own 3 (.slice C nc cc) nc xs3::pool2) from by rw [← hus3];exact h6);clear h6 hus3 n4 f4 k0 k1 k2 k3;obtain ⟨D1,d1,f1,D2,d2,f2,D3,d3,f3,p1,p2,p3,hW⟩:=HPW3.out.2 i hltN;have HW:=Hd hW.u1;obtain ⟨zs,hzs⟩:=hW.pA;have n9:=H.out.cellRow 2 rfl HW.out;have hle9:=(H.out.ownInts (p1+4) hzs).2.2.le;obtain ⟨k0,k1,k2,k3⟩:=H.out.cells4 0 rfl
       go_wp2_with fail
       clear hW n9 k0 k1 k2 k3
       go_loopw [72] (fun kv wr=>∃ (k:Nat) (pool2:List Chunk) (zs:List Int),kv=.int .i64 k∧k≤d1∧PoolW us3 nb pool2∧pool2[p1]? = some (Chunk.own 3 (.slice D1 d1 f1) d1 zs)∧Sep w3 wr (.box gx 25 [.slice A na ca,.string G.names,.slice (some ⟨gB,0,none⟩) nb cb,.slice C nc cc]::.own 3 (.slice A na ca) na xs1::.row 32 7 (.slice (some ⟨gB,0,none⟩) nb cb) nb us3::.own 3 (.slice C nc cc) nc xs3::pool2)) (fun kv _=>d1-(intOf kv).toNat)
       case atStart=>exact ⟨0,pool2,zs,rfl,Nat.zero_le _,HPW3.out,hzs,H.out⟩
       case round =>
        clear H HPW3 hzs;obtain ⟨k,pool2,zs,rfl,hkn,hPW,hzs,hS⟩:=hrel;have H:=Hd hS;have HPW3:=Hd hPW;have HZS:=Hd hzs;clear hS hPW hzs;by_cases hlk:k<d1
        ·obtain ⟨gS,cS,hv,hO⟩:=(H.out.ownS (p1+4) HZS.out).own (by omega);injection hv with hv1 _ hv3
         subst hv1;subst hv3;obtain ⟨x,hx⟩:∃ x,zs[k]? = some x:=⟨_,List.getElem?_eq_getElem (by have:=hO.len;omega)⟩;have cx:=hO.cell hx;have fx:=hO.frozen k;have HS:=Hd (H.out.store (p1+4) k (fits_wrap (x+1)) HZS.out);have HPW4:=Hd (HPW3.out.setP HZS.out (zs.set k (wrap64 (x+1))));have HZ4:=Hd (show (pool2.set p1 (Chunk.own 3 (.slice (some ⟨gS,0,none⟩) d1 f1) d1 (zs.set k (wrap64 (x+1)))))[p1]? = _ from List.getElem?_set_self (List.getElem?_eq_some_iff.1 HZS.out).1);have n9:=H.out.cellRow 2 rfl HW.out;obtain ⟨k0,k1,k2,k3⟩:=H.out.cells4 0 rfl;clear hO hx;go_wp2;go_roundw
         case rel=>exact ⟨k+1,_,_,by go_num,by omega,HPW4.out,HZ4.out,HS.out⟩
         case measure=>simp [intOf];omega
        ·clear HW HZS
         skip
         obtain ⟨D1,d1,f1,D2,d2,f2,D3,d3,f3,p1,p2,p3,hW⟩:=HPW3.out.2 i hltN;have HW:=Hd hW.u2;obtain ⟨zs,hzs⟩:=hW.pB;have n9:=H.out.cellRow 2 rfl HW.out;have hle9:=(H.out.ownInts (p2+4) hzs).2.2.le;obtain ⟨k0,k1,k2,k3⟩:=H.out.cells4 0 rfl
         go_wp2_with fail
         clear hW n9 k0 k1 k2 k3
         go_loopw [94] (fun kv wr=>∃ (k:Nat) (pool2:List Chunk) (zs:List Int),kv=.int .i64 k∧k≤d2∧PoolW us3 nb pool2∧pool2[p2]? = some (Chunk.own 3 (.slice D2 d2 f2) d2 zs)∧Sep w3 wr (.box gx 25 [.slice A na ca,.string G.names,.slice (some ⟨gB,0,none⟩) nb cb,.slice C nc cc]::.own 3 (.slice A na ca) na xs1::.row 32 7 (.slice (some ⟨gB,0,none⟩) nb cb) nb us3::.own 3 (.slice C nc cc) nc xs3::pool2)) (fun kv _=>d2-(intOf kv).toNat)
         case atStart=>exact ⟨0,pool2,zs,rfl,Nat.zero_le _,HPW3.out,hzs,H.out⟩
         case round =>
          clear H HPW3 hzs;obtain ⟨k,pool2,zs,rfl,hkn,hPW,hzs,hS⟩:=hrel;have H:=Hd hS;have HPW3:=Hd hPW;have HZS:=Hd hzs;clear hS hPW hzs;by_cases hlk:k<d2
          ·obtain ⟨gS,cS,hv,hO⟩:=(H.out.ownS (p2+4) HZS.out).own (by omega);injection hv with hv1 _ hv3
           subst hv1;subst hv3;obtain ⟨x,hx⟩:∃ x,zs[k]? = some x:=⟨_,List.getElem?_eq_getElem (by have:=hO.len;omega)⟩;have cx:=hO.cell hx;have fx:=hO.frozen k;have HS:=Hd (H.out.store (p2+4) k (fits_wrap (x+1)) HZS.out);have HPW4:=Hd (HPW3.out.setP HZS.out (zs.set k (wrap64 (x+1))));have HZ4:=Hd (show (pool2.set p2 (Chunk.own 3 (.slice (some ⟨gS,0,none⟩) d2 f2) d2 (zs.set k (wrap64 (x+1)))))[p2]? = _ from List.getElem?_set_self (List.getElem?_eq_some_iff.1 HZS.out).1);have n9:=H.out.cellRow 2 rfl HW.out;obtain ⟨k0,k1,k2,k3⟩:=H.out.cells4 0 rfl;clear hO hx;go_wp2;go_roundw
           case rel=>exact ⟨k+1,_,_,by go_num,by omega,HPW4.out,HZ4.out,HS.out⟩
           case measure=>simp [intOf];omega
          ·clear HW HZS;obtain ⟨D1,d1,f1,D2,d2,f2,D3,d3,f3,p1,p2,p3,hW⟩:=HPW3.out.2 i hltN;have HW:=Hd hW.u3;obtain ⟨zs,hzs⟩:=hW.pC;have n9:=H.out.cellRow 2 rfl HW.out;have hle9:=(H.out.ownInts (p3+4) hzs).2.2.le;obtain ⟨k0,k1,k2,k3⟩:=H.out.cells4 0 rfl
           go_wp2_with fail
           clear hW n9 k0 k1 k2 k3
           go_loopw [116] (fun kv wr=>∃ (k:Nat) (pool2:List Chunk) (zs:List Int),kv=.int .i64 k∧k≤d3∧PoolW us3 nb pool2∧pool2[p3]? = some (Chunk.own 3 (.slice D3 d3 f3) d3 zs)∧Sep w3 wr (.box gx 25 [.slice A na ca,.string G.names,.slice (some ⟨gB,0,none⟩) nb cb,.slice C nc cc]::.own 3 (.slice A na ca) na xs1::.row 32 7 (.slice (some ⟨gB,0,none⟩) nb cb) nb us3::.own 3 (.slice C nc cc) nc xs3::pool2)) (fun kv _=>d3-(intOf kv).toNat)
           case atStart=>exact ⟨0,pool2,zs,rfl,Nat.zero_le _,HPW3.out,hzs,H.out⟩
           case round =>
            clear H HPW3 hzs;obtain ⟨k,pool2,zs,rfl,hkn,hPW,hzs,hS⟩:=hrel;have H:=Hd hS;have HPW3:=Hd hPW;have HZS:=Hd hzs;clear hS hPW hzs;by_cases hlk:k<d3
            ·obtain ⟨gS,cS,hv,hO⟩:=(H.out.ownS (p3+4) HZS.out).own (by omega);injection hv with hv1 _ hv3
             subst hv1;subst hv3;obtain ⟨x,hx⟩:∃ x,zs[k]? = some x:=⟨_,List.getElem?_eq_getElem (by have:=hO.len;omega)⟩;have cx:=hO.cell hx;have fx:=hO.frozen k;have HS:=Hd (H.out.store (p3+4) k (fits_wrap (x+1)) HZS.out);have HPW4:=Hd (HPW3.out.setP HZS.out (zs.set k (wrap64 (x+1))));have HZ4:=Hd (show (pool2.set p3 (Chunk.own 3 (.slice (some ⟨gS,0,none⟩) d3 f3) d3 (zs.set k (wrap64 (x+1)))))[p3]? = _ from List.getElem?_set_self (List.getElem?_eq_some_iff.1 HZS.out).1);have n9:=H.out.cellRow 2 rfl HW.out;obtain ⟨k0,k1,k2,k3⟩:=H.out.cells4 0 rfl;clear hO hx;go_wp2;go_roundw
             case rel=>exact ⟨k+1,_,_,by go_num,by omega,HPW4.out,HZ4.out,HS.out⟩
             case measure=>simp [intOf];omega
            ·clear HW HZS;go_wp2;go_roundw
             case rel=>exact ⟨i+1,us3,pool2,by go_num,by omega,HPW3.out,H.out⟩
             case measure=>simp [intOf];omega
      ·have k0:=H.out.cell 0 0 rfl rfl;have k1:=H.out.cell 0 1 rfl rfl;have k2:=H.out.cell 0 2 rfl rfl;have k3:=H.out.cell 0 3 rfl rfl;have g0:=H.out.oldCell HLP.out HP0.out;have g1:=H.out.oldCell HLP.out HP1.out;have g2:=H.out.oldCell HLP.out HP2.out;have g3:=H.out.oldCell HLP.out HP3.out;have j0:=H.out.oldCell HLQ.out HQ0.out;have j1:=H.out.oldCell HLQ.out HQ1.out;have j2:=H.out.oldCell HLQ.out HQ2.out;have j3:=H.out.oldCell HLQ.out HQ3.out;have CC:=gSame_any (HG13.out.below H.out.base) (HG23.out.below H.out.base);rw [sameG_yes rfl] at CC
       go_wp2_with fail
       refine CC.mono ?_;rintro e7 w7 ⟨rfl,hb7⟩;replace H:=Hd (H.out.below hb7);clear CC hb7 g0 g1 g2 g3 j0 j1 j2 j3 k0 k1 k2 k3;have g0:=H.out.oldCell HLP.out HP0.out;have g1:=H.out.oldCell HLP.out HP1.out;have g2:=H.out.oldCell HLP.out HP2.out;have g3:=H.out.oldCell HLP.out HP3.out;have j0:=H.out.oldCell HLQ.out HQ0.out;have j1:=H.out.oldCell HLQ.out HQ1.out;have j2:=H.out.oldCell HLQ.out HQ2.out;have j3:=H.out.oldCell HLQ.out HQ3.out;have CC:=ref10Same_eq (HG13.out.below H.out.base) (HG23.out.below H.out.base)
       go_wp2_with fail
       refine CC.mono ?_;rintro e8 w8 ⟨rfl,hb8⟩;replace H:=Hd (H.out.below hb8);clear CC hb8 g0 g1 g2 g3 j0 j1 j2 j3
       go_wp2_with fail
       refine (l10known_any w8).mono ?_;rintro e9 w9 ⟨rfl,hb9⟩;replace H:=Hd (H.out.below hb9);clear hb9;go_wp2;go_ret;exact ⟨by trivial,then_ HB1.out (then_ HB2.out (then_ HB3.out H.out.base))⟩
end Go.Proofs.Ytnnmplkgenhofaa
