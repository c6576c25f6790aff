/- A locale that is new, of a record that may be. (and more) -/
import Derived.Test.YteggfkbnnmpcjaaGreatDoorR43
set_option linter.all false
set_option maxRecDepth 100000
set_option maxHeartbeats 8000000
namespace Go.Proofs.YteggfkbnnmpcjaaGreatDoor
section
open Go.RowKit
namespace Lo
open Um Cm Gm
theorem new_ok (r:Lm.Rec) (X:Pt.Pat) (w:World) (hO:Lm.Ok r X)
  (hP:∀ u,Calls Tryz.prog 55 #[.string (Lm.bs r.pat)] u fun e w'=>∃ v,e = .returned (.tuple #[v,.int .i64 0]) /\ Pg.PV w' u.heap.size v X /\ Q u w') :
  Calls Tryz.prog 26 #[recV r] w fun e w'=>∃ g a b c d cl,e = .returned (.tuple #[.pointer (some ⟨g,0,none⟩),Value.nilIface]) /\ LB w' g r X a b c d cl /\ SLst w' cl (Lm.clus r X) /\ Q w w':=by
 have HO:=Hd hO;have HP:=Hd hP;have HSY:=Hd (fun u=>symbolsOf_any r u hO.sysl);have hl:∀ A ∈ Lm.affs X,A.length <= 1000000 /\ (Lm.atx r A).length <= 1000000:=fun A hA=>⟨by have:=(hO.aff A hA).1;omega,by have:=hO.len A hA;omega⟩;have HL:=Hd hl;obtain ⟨z,hz⟩:∃ z,z = w.alloc (.cells #[.string (Lm.bs r.nam),.string (Lm.bs r.pat),.string (Lm.bs r.sys),.string (Lm.bs r.dec),.string (Lm.bs r.grp),.string (Lm.bs r.min),.string (Lm.bs r.per),.string (Lm.bs r.cur)] 70):=⟨_,rfl⟩;have HQZ:=Hd (show Q w z by rw [hz];exact (Q.refl w).alloc _);have HBR:=Hd (show Bk z w.heap.size 70 [.string (Lm.bs r.nam),.string (Lm.bs r.pat),.string (Lm.bs r.sys),.string (Lm.bs r.dec),.string (Lm.bs r.grp),.string (Lm.bs r.min),.string (Lm.bs r.per),.string (Lm.bs r.cur)] by rw [hz];exact Bk.new _ _ _);clear hP hl hO;go_enter Tryz.func26,Tryz.ntmps26
 go_wp2_with fail
 rw [<- hz];clear hz;obtain ⟨bR,hbR⟩:∃ b,b = w.heap.size:=⟨_,rfl⟩;rw [<- hbR] at HBR |-;clear hbR;refine (HP.out _).mono ?_;rintro e w1 ⟨v,rfl,hpv,hq1⟩;obtain ⟨a,b,c,d,rfl,ha,hb,hc,hd⟩:=hpv;obtain ⟨n0,hn0⟩:∃ n,n = X.pre.length:=⟨_,rfl⟩;obtain ⟨n1,hn1⟩:∃ n,n = X.suf.length:=⟨_,rfl⟩;obtain ⟨n2,hn2⟩:∃ n,n = X.npre.length:=⟨_,rfl⟩;obtain ⟨n3,hn3⟩:∃ n,n = X.nsuf.length:=⟨_,rfl⟩;obtain ⟨a1,a2,rfl,_,_⟩:=ha.1.form0 hn0.symm;obtain ⟨b1,b2,rfl,_,_⟩:=hb.1.form0 hn1.symm;obtain ⟨c1,c2,rfl,_,_⟩:=hc.1.form0 hn2.symm;obtain ⟨d1,d2,rfl,_,_⟩:=hd.1.form0 hn3.symm;have HA:=Hd ha.1;have HBp:=Hd hb.1;have HCp:=Hd hc.1;have HDp:=Hd hd.1;have HBR1:=Hd (HBR.out.q hq1);have HQ1:=Hd (HQZ.out.trans hq1);clear ha hb hc hd hq1 hn0 hn1 hn2 hn3;obtain ⟨y,hy⟩:∃ y,y = w1.alloc (.cells #[.slice a1 n0 a2,.slice b1 n1 b2,.slice c1 n2 c2,.slice d1 n3 d2,.int .i64 X.pr,.int .i64 X.se,.int .i64 X.mi,.int .i64 X.mf,.int .i64 X.xf] 104):=⟨_,rfl⟩;have HQY:=Hd (show Q w1 y by rw [hy];exact (Q.refl w1).alloc _);have HBP:=Hd (show Bk y w1.heap.size 104 [.slice a1 n0 a2,.slice b1 n1 b2,.slice c1 n2 c2,.slice d1 n3 d2,.int .i64 X.pr,.int .i64 X.se,.int .i64 X.mi,.int .i64 X.mf,.int .i64 X.xf] by rw [hy];exact Bk.new _ _ _);have HBR2:=Hd (HBR1.out.q HQY.out);have cR:=HBR1.out.cell 1 rfl;go_upto_region 2 with fail
 rw [<- hy];clear hy cR;obtain ⟨bP,hbP⟩:∃ b,b = w1.heap.size:=⟨_,rfl⟩;rw [<- hbP] at HBP |-;clear hbP;refine wp_region_held_drew (S:=fun u=>Q y u) (by kernel_rfl) (by exact (Q.refl y).drew) (fun hHeld=>?_);have hS:Q y y.drew:=hHeld;clear hHeld;have hq:Q y y.drew:=(Q.refl _).drew;clear hq;generalize y.drew = yR1x0 at *;refine tk 0 (by simp only [gA,gB,gC];rfl) (by first | kernel_rfl | rfl) (fun uz hSw=>by (try dsimp only at hSw);have kb:=HBR2.out.q hSw;have k0:=kb.cell 0 rfl;have k1:=kb.cell 1 rfl;have k2:=kb.cell 2 rfl;have k3:=kb.cell 3 rfl;have k4:=kb.cell 4 rfl;have k5:=kb.cell 5 rfl;have k6:=kb.cell 6 rfl;have k7:=kb.cell 7 rfl;have kp:=HBP.out.q hSw;have m0:=kp.cell 0 rfl;have m1:=kp.cell 1 rfl;have m2:=kp.cell 2 rfl;have m3:=kp.cell 3 rfl;have m4:=kp.cell 4 rfl;have m5:=kp.cell 5 rfl;have m6:=kp.cell 6 rfl;have m7:=kp.cell 7 rfl;have m8:=kp.cell 8 rfl;clear kb kp;go_simp;try with_reducible rfl) pq hS ?_;try simp only [Act.put,sA,sB,sC]
 refine tk 1 (by simp only [gA,gB,gC];rfl) (by first | kernel_rfl | rfl) (fun uz hSw=>by (try dsimp only at hSw);have kb:=HBR2.out.q hSw;have k0:=kb.cell 0 rfl;have k1:=kb.cell 1 rfl;have k2:=kb.cell 2 rfl;have k3:=kb.cell 3 rfl;have k4:=kb.cell 4 rfl;have k5:=kb.cell 5 rfl;have k6:=kb.cell 6 rfl;have k7:=kb.cell 7 rfl;have kp:=HBP.out.q hSw;have m0:=kp.cell 0 rfl;have m1:=kp.cell 1 rfl;have m2:=kp.cell 2 rfl;have m3:=kp.cell 3 rfl;have m4:=kp.cell 4 rfl;have m5:=kp.cell 5 rfl;have m6:=kp.cell 6 rfl;have m7:=kp.cell 7 rfl;have m8:=kp.cell 8 rfl;clear kb kp;go_simp;try with_reducible rfl) pq hS ?_;try simp only [Act.put,sA,sB,sC]
 refine tk 2 (by simp only [gA,gB,gC];rfl) (by first | kernel_rfl | rfl) (fun uz hSw=>by (try dsimp only at hSw);have kb:=HBR2.out.q hSw;have k0:=kb.cell 0 rfl;have k1:=kb.cell 1 rfl;have k2:=kb.cell 2 rfl;have k3:=kb.cell 3 rfl;have k4:=kb.cell 4 rfl;have k5:=kb.cell 5 rfl;have k6:=kb.cell 6 rfl;have k7:=kb.cell 7 rfl;have kp:=HBP.out.q hSw;have m0:=kp.cell 0 rfl;have m1:=kp.cell 1 rfl;have m2:=kp.cell 2 rfl;have m3:=kp.cell 3 rfl;have m4:=kp.cell 4 rfl;have m5:=kp.cell 5 rfl;have m6:=kp.cell 6 rfl;have m7:=kp.cell 7 rfl;have m8:=kp.cell 8 rfl;clear kb kp;go_simp;try with_reducible rfl) pq hS ?_;try simp only [Act.put,sA,sB,sC]
 refine wpAnyH_ready (rs:=[3]) (by kernel_rfl) (by simp) ?_;refine ar rfl fun K hK=>?_;go_simp
 refine (HSY.out _).mono ?_;rintro e yR1x4 ⟨rfl,hq⟩;try (go_wp2_with fail)
 have hS2:=Q.trans hS hq;refine hK.out _ _ (by exact hS2) (fun hHeld=>?_);clear hK K hHeld hS hq;have hS:=hS2;clear hS2;try simp only [Act.put,sA,sB,sC]
 refine tk 4 (by simp only [gA,gB,gC];rfl) (by first | kernel_rfl | rfl) (fun uz _=>by go_simp;try with_reducible rfl) pq hS ?_;try simp only [Act.put,sA,sB,sC]
 refine wpAnyH_ready (rs:=[5]) (by kernel_rfl) (by simp) ?_;refine ar rfl fun K hK=>?_;go_simp
 have hq:=(Q.refl yR1x4).alloc (.cells #[.string (Lm.bs r.nam),.string (Lm.bs r.pat),.string (Lm.bs r.sys),.string (Lm.bs r.dec),.string (Lm.bs r.grp),.string (Lm.bs r.min),.string (Lm.bs r.per),.string (Lm.bs r.cur),.slice a1 n0 a2,.slice b1 n1 b2,.slice c1 n2 c2,.slice d1 n3 d2,.int .i64 X.pr,.int .i64 X.se,.int .i64 X.mi,.int .i64 X.mf,.int .i64 X.xf,.string (Lm.dgt r 0),.string (Lm.dgt r 1),.string (Lm.dgt r 2),.string (Lm.dgt r 3),.string (Lm.dgt r 4),.string (Lm.dgt r 5),.string (Lm.dgt r 6),.string (Lm.dgt r 7),.string (Lm.dgt r 8),.string (Lm.dgt r 9),.string (Lm.bs r.dec),.string (Lm.bs r.grp),.string (Lm.bs r.min),.slice none 0 0] 110);have HBL:=Hd (Bk.new yR1x4 110 [.string (Lm.bs r.nam),.string (Lm.bs r.pat),.string (Lm.bs r.sys),.string (Lm.bs r.dec),.string (Lm.bs r.grp),.string (Lm.bs r.min),.string (Lm.bs r.per),.string (Lm.bs r.cur),.slice a1 n0 a2,.slice b1 n1 b2,.slice c1 n2 c2,.slice d1 n3 d2,.int .i64 X.pr,.int .i64 X.se,.int .i64 X.mi,.int .i64 X.mf,.int .i64 X.xf,.string (Lm.dgt r 0),.string (Lm.dgt r 1),.string (Lm.dgt r 2),.string (Lm.dgt r 3),.string (Lm.dgt r 4),.string (Lm.dgt r 5),.string (Lm.dgt r 6),.string (Lm.dgt r 7),.string (Lm.dgt r 8),.string (Lm.dgt r 9),.string (Lm.bs r.dec),.string (Lm.bs r.grp),.string (Lm.bs r.min),.slice none 0 0]);have HW_bL:=Hd (Q.le hS);have hS2:=Q.trans hS hq;refine hK.out _ _ (by exact hS2) (fun hHeld=>?_);clear hK K hHeld hS hq;have hS:=hS2;clear hS2;generalize yR1x4.alloc (.cells #[.string (Lm.bs r.nam),.string (Lm.bs r.pat),.string (Lm.bs r.sys),.string (Lm.bs r.dec),.string (Lm.bs r.grp),.string (Lm.bs r.min),.string (Lm.bs r.per),.string (Lm.bs r.cur),.slice a1 n0 a2,.slice b1 n1 b2,.slice c1 n2 c2,.slice d1 n3 d2,.int .i64 X.pr,.int .i64 X.se,.int .i64 X.mi,.int .i64 X.mf,.int .i64 X.xf,.string (Lm.dgt r 0),.string (Lm.dgt r 1),.string (Lm.dgt r 2),.string (Lm.dgt r 3),.string (Lm.dgt r 4),.string (Lm.dgt r 5),.string (Lm.dgt r 6),.string (Lm.dgt r 7),.string (Lm.dgt r 8),.string (Lm.dgt r 9),.string (Lm.bs r.dec),.string (Lm.bs r.grp),.string (Lm.bs r.min),.slice none 0 0] 110) = yR1x6 at *;generalize yR1x4.heap.size = bL at *;try simp only [Act.put,sA,sB,sC]
 refine tk 6 (by simp only [gA,gB,gC];rfl) (by first | kernel_rfl | rfl) (fun uz _=>by go_simp;try with_reducible rfl) pq hS ?_;try simp only [Act.put,sA,sB,sC]
 refine wpAnyH_done (by kernel_rfl) ?_ _;have HQS:=Hd (HQY.out.trans hS);have HL1:=Hd (Nat.le_trans HQY.out.le HW_bL.out);have hLB:LB yR1x6 bL r X (.slice a1 n0 a2) (.slice b1 n1 b2) (.slice c1 n2 c2) (.slice d1 n3 d2) (.slice none 0 0):=⟨HBL.out,HA.out.q HQS.out,HBp.out.q HQS.out,HCp.out.q HQS.out,HDp.out.q HQS.out⟩;have HLB:=Hd hLB;have HKN:=Hd (looks_any bL r X (.slice a1 n0 a2) (.slice b1 n1 b2) (.slice c1 n2 c2) (.slice d1 n3 d2) (.slice none 0 0) yR1x6 hLB);clear hS hLB HBR2 HBP HBL;go_wp2_with fail
 refine HKN.out.mono ?_;rintro e w5 ⟨G,rb,lp,ep,rfl,hG,hE,hq5⟩;have HG:=Hd hG;have HE:=Hd hE;have HQ5:=Hd (HQS.out.trans hq5);have HLB5:=Hd (HLB.out.q hq5);clear hG hE hq5 HKN;go_wp2_with fail
 go_loopw [25] (fun i wr=>∃ k:Nat,i = .int .i64 k /\ k <= 15 /\ Q w5 wr) (fun i _=>15 - (intOf i).toNat)
 case atStart=>exact ⟨0,rfl,by omega,Q.refl _⟩
 case round =>
  obtain ⟨k,rfl,hk,hq⟩:=hrel;by_cases hlt:k < 15
  ·have hkc:k = 0 \/ k = 1 \/ k = 2 \/ k = 3 \/ k = 4 \/ k = 5 \/ k = 6 \/ k = 7 \/ k = 8 \/ k = 9 \/ k = 10 \/ k = 11 \/ k = 12 \/ k = 13 \/ k = 14:=by omega
   rcases hkc with rfl | rfl | rfl | rfl | rfl | rfl | rfl | rfl | rfl | rfl | rfl | rfl | rfl | rfl | rfl
   ·have hg:=HG.out.q hq
    have c0:=hg.cell 0 rfl;have c1:=hg.cell 1 rfl;have c2:=hg.cell 2 rfl;have hlk:=Hd (lk1 HO.out (HE.out.q (hq.trans ((Q.refl wr).alloc (.cells #[.string ⟨#[110,97,109,101]⟩,.int .i64 2,.func (.func 92) #[] #[.pointer (some ⟨rb,0,none⟩)]] 114)))));clear hg;go_wp2_with fail
    refine hlk.out.mono ?_;rintro e w6 ⟨rfl,hq6⟩;go_wp2_with fail
    exact ⟨⟨1,rfl,by omega,(hq.alloc _).trans hq6⟩,by simp [intOf]⟩
   ·have hg:=HG.out.q hq
    have c0:=hg.cell 3 rfl;have c1:=hg.cell 4 rfl;have c2:=hg.cell 5 rfl;have hlk:=Hd (lk2 HO.out (HE.out.q (hq.trans ((Q.refl wr).alloc (.cells #[.string ⟨#[112,97,116,116,101,114,110]⟩,.int .i64 0,.func (.func 94) #[] #[.pointer (some ⟨ep,0,none⟩)]] 114)))));clear hg;go_wp2_with fail
    refine hlk.out.mono ?_;rintro e w6 ⟨rfl,hq6⟩;go_wp2_with fail
    exact ⟨⟨2,rfl,by omega,(hq.alloc _).trans hq6⟩,by simp [intOf]⟩
   ·have hg:=HG.out.q hq
    have c0:=hg.cell 6 rfl;have c1:=hg.cell 7 rfl;have c2:=hg.cell 8 rfl;have hlk:=Hd (lk3 HO.out (HE.out.q (hq.trans ((Q.refl wr).alloc (.cells #[.string ⟨#[112,97,116,116,101,114,110]⟩,.int .i64 5,.func (.func 95) #[] #[.pointer (some ⟨lp,0,none⟩)]] 114)))));clear hg;go_wp2_with fail
    refine hlk.out.mono ?_;rintro e w6 ⟨rfl,hq6⟩;go_wp2_with fail
    exact ⟨⟨3,rfl,by omega,(hq.alloc _).trans hq6⟩,by simp [intOf]⟩
   ·have hg:=HG.out.q hq
    have c0:=hg.cell 9 rfl;have c1:=hg.cell 10 rfl;have c2:=hg.cell 11 rfl;have hlk:=Hd (lk4 HO.out (HE.out.q (hq.trans ((Q.refl wr).alloc (.cells #[.string ⟨#[115,121,115,116,101,109]⟩,.int .i64 7,.func (.func 97) #[] #[.pointer (some ⟨rb,0,none⟩)]] 114)))));clear hg;go_wp2_with fail
    refine hlk.out.mono ?_;rintro e w6 ⟨rfl,hq6⟩;go_wp2_with fail
    exact ⟨⟨4,rfl,by omega,(hq.alloc _).trans hq6⟩,by simp [intOf]⟩
   ·have hg:=HG.out.q hq
    have c0:=hg.cell 12 rfl;have c1:=hg.cell 13 rfl;have c2:=hg.cell 14 rfl;have hlk:=Hd (lk5 HO.out (HE.out.q (hq.trans ((Q.refl wr).alloc (.cells #[.string ⟨#[100,101,99,105,109,97,108]⟩,.int .i64 2,.func (.func 99) #[] #[.pointer (some ⟨rb,0,none⟩)]] 114)))));clear hg;go_wp2_with fail
    refine hlk.out.mono ?_;rintro e w6 ⟨rfl,hq6⟩;go_wp2_with fail
    exact ⟨⟨5,rfl,by omega,(hq.alloc _).trans hq6⟩,by simp [intOf]⟩
   ·have hg:=HG.out.q hq
    have c0:=hg.cell 15 rfl;have c1:=hg.cell 16 rfl;have c2:=hg.cell 17 rfl;have hlk:=Hd (lk6 HO.out (HE.out.q (hq.trans ((Q.refl wr).alloc (.cells #[.string ⟨#[103,114,111,117,112]⟩,.int .i64 2,.func (.func 101) #[] #[.pointer (some ⟨lp,0,none⟩)]] 114)))));clear hg;go_wp2_with fail
    refine hlk.out.mono ?_;rintro e w6 ⟨rfl,hq6⟩;go_wp2_with fail
    exact ⟨⟨6,rfl,by omega,(hq.alloc _).trans hq6⟩,by simp [intOf]⟩
   ·have hg:=HG.out.q hq
    have c0:=hg.cell 18 rfl;have c1:=hg.cell 19 rfl;have c2:=hg.cell 20 rfl;have hlk:=Hd (lk7 HO.out (HE.out.q (hq.trans ((Q.refl wr).alloc (.cells #[.string ⟨#[109,105,110,117,115]⟩,.int .i64 2,.func (.func 103) #[] #[.pointer (some ⟨rb,0,none⟩)]] 114)))));clear hg;go_wp2_with fail
    refine hlk.out.mono ?_;rintro e w6 ⟨rfl,hq6⟩;go_wp2_with fail
    exact ⟨⟨7,rfl,by omega,(hq.alloc _).trans hq6⟩,by simp [intOf]⟩
   ·have hg:=HG.out.q hq
    have c0:=hg.cell 21 rfl;have c1:=hg.cell 22 rfl;have c2:=hg.cell 23 rfl;have hlk:=Hd (lk8 HO.out (HE.out.q (hq.trans ((Q.refl wr).alloc (.cells #[.string ⟨#[112,101,114,99,101,110,116]⟩,.int .i64 2,.func (.func 104) #[] #[.pointer (some ⟨lp,0,none⟩),.pointer (some ⟨rb,0,none⟩)]] 114)))));clear hg;go_wp2_with fail
    refine hlk.out.mono ?_;rintro e w6 ⟨rfl,hq6⟩;go_wp2_with fail
    exact ⟨⟨8,rfl,by omega,(hq.alloc _).trans hq6⟩,by simp [intOf]⟩
   ·have hg:=HG.out.q hq
    have c0:=hg.cell 24 rfl;have c1:=hg.cell 25 rfl;have c2:=hg.cell 26 rfl;have hlk:=Hd (lk9 HO.out (HE.out.q (hq.trans ((Q.refl wr).alloc (.cells #[.string ⟨#[99,117,114,114,101,110,99,121]⟩,.int .i64 2,.func (.func 106) #[] #[.pointer (some ⟨lp,0,none⟩),.pointer (some ⟨rb,0,none⟩)]] 114)))));clear hg;go_wp2_with fail
    refine hlk.out.mono ?_;rintro e w6 ⟨rfl,hq6⟩;go_wp2_with fail
    exact ⟨⟨9,rfl,by omega,(hq.alloc _).trans hq6⟩,by simp [intOf]⟩
   ·have hg:=HG.out.q hq
    have c0:=hg.cell 27 rfl;have c1:=hg.cell 28 rfl;have c2:=hg.cell 29 rfl;have hlk:=Hd (lk10 HO.out (HE.out.q (hq.trans ((Q.refl wr).alloc (.cells #[.string ⟨#[97,102,102,105,120]⟩,.int .i64 2,.func (.func 107) #[] #[.pointer (some ⟨lp,0,none⟩)]] 114)))));clear hg;go_wp2_with fail
    refine hlk.out.mono ?_;rintro e w6 ⟨rfl,hq6⟩;go_wp2_with fail
    exact ⟨⟨10,rfl,by omega,(hq.alloc _).trans hq6⟩,by simp [intOf]⟩
   ·have hg:=HG.out.q hq
    have c0:=hg.cell 30 rfl;have c1:=hg.cell 31 rfl;have c2:=hg.cell 32 rfl;have hlk:=Hd (lk11 HO.out (HE.out.q (hq.trans ((Q.refl wr).alloc (.cells #[.string ⟨#[97,102,102,105,120]⟩,.int .i64 3,.func (.func 111) #[] #[.pointer (some ⟨lp,0,none⟩)]] 114)))));clear hg;go_wp2_with fail
    refine hlk.out.mono ?_;rintro e w6 ⟨rfl,hq6⟩;go_wp2_with fail
    exact ⟨⟨11,rfl,by omega,(hq.alloc _).trans hq6⟩,by simp [intOf]⟩
   ·have hg:=HG.out.q hq
    have c0:=hg.cell 33 rfl;have c1:=hg.cell 34 rfl;have c2:=hg.cell 35 rfl;have hlk:=Hd (lk12 HO.out (HE.out.q (hq.trans ((Q.refl wr).alloc (.cells #[.string ⟨#[100,101,99,105,109,97,108]⟩,.int .i64 6,.func (.func 113) #[] #[.pointer (some ⟨lp,0,none⟩)]] 114)))));clear hg;go_wp2_with fail
    refine hlk.out.mono ?_;rintro e w6 ⟨rfl,hq6⟩;go_wp2_with fail
    exact ⟨⟨12,rfl,by omega,(hq.alloc _).trans hq6⟩,by simp [intOf]⟩
   ·have hg:=HG.out.q hq
    have c0:=hg.cell 36 rfl;have c1:=hg.cell 37 rfl;have c2:=hg.cell 38 rfl;have hlk:=Hd (lk13 HO.out (HE.out.q (hq.trans ((Q.refl wr).alloc (.cells #[.string ⟨#[103,114,111,117,112]⟩,.int .i64 6,.func (.func 115) #[] #[.pointer (some ⟨lp,0,none⟩)]] 114)))));clear hg;go_wp2_with fail
    refine hlk.out.mono ?_;rintro e w6 ⟨rfl,hq6⟩;go_wp2_with fail
    exact ⟨⟨13,rfl,by omega,(hq.alloc _).trans hq6⟩,by simp [intOf]⟩
   ·have hg:=HG.out.q hq
    have c0:=hg.cell 39 rfl;have c1:=hg.cell 40 rfl;have c2:=hg.cell 41 rfl;have hlk:=Hd (lk14 HO.out (HE.out.q (hq.trans ((Q.refl wr).alloc (.cells #[.string ⟨#[109,105,110,117,115]⟩,.int .i64 6,.func (.func 116) #[] #[.pointer (some ⟨lp,0,none⟩)]] 114)))));clear hg;go_wp2_with fail
    refine hlk.out.mono ?_;rintro e w6 ⟨rfl,hq6⟩;go_wp2_with fail
    exact ⟨⟨14,rfl,by omega,(hq.alloc _).trans hq6⟩,by simp [intOf]⟩
   ·have hg:=HG.out.q hq
    have c0:=hg.cell 42 rfl;have c1:=hg.cell 43 rfl;have c2:=hg.cell 44 rfl;have hlk:=Hd (lk15 HO.out (HE.out.q (hq.trans ((Q.refl wr).alloc (.cells #[.string ⟨#[97,102,102,105,120]⟩,.int .i64 6,.func (.func 117) #[] #[.pointer (some ⟨lp,0,none⟩)]] 114)))));clear hg;go_wp2_with fail
    refine hlk.out.mono ?_;rintro e w6 ⟨rfl,hq6⟩;go_wp2_with fail
    exact ⟨⟨15,rfl,by omega,(hq.alloc _).trans hq6⟩,by simp [intOf]⟩
  ·obtain rfl:k = 15:=by omega
   have HSP:=Hd (split_any bL r X (.slice a1 n0 a2) (.slice b1 n1 b2) (.slice c1 n2 c2) (.slice d1 n3 d2) (.slice none 0 0) wr (HLB5.out.q hq) HL.out);go_wp2_with fail
   refine HSP.out.mono ?_;rintro e w7 ⟨cl,rfl,hcl,hq7⟩;have HBF:=Hd ((HLB5.out.q (hq.trans hq7)).1);have c30:=HBF.out.cell 30 rfl;have f30:=HBF.out.free 30;have HLT:=Hd ((HLB5.out.q hq).1.lt);have HQ7:=Hd (HQ5.out.trans (hq.trans hq7));obtain ⟨ca,cc,rfl⟩:=hcl.shape;have HCL:=Hd hcl;generalize (Lm.clus r X).length = cn at *;clear hcl;go_wp2_with fail
   go_ret2
   have hQF:=Q.setCell HQ7.out (ad:=⟨bL,30,none⟩) HL1.out (.slice ca cn cc);refine ⟨bL,_,_,_,_,.slice ca cn cc,rfl,⟨HBF.out.set 30 (.slice ca cn cc),HA.out.q hQF,HBp.out.q hQF,HCp.out.q hQF,HDp.out.q hQF⟩,(HCL.out.same (fun g hg=>?_)).lst,HQ1.out.trans hQF⟩;have hg2:=HCL.out.lt g hg;have hlt2:=HLT.out;exact (Gap.setCell w7 bL 30 (.slice ca cn cc) bL (bL + 1) (Nat.le_refl _) (Nat.lt_succ_self _)).block g hg2.2 (by omega)
end Lo
end
end Go.Proofs.YteggfkbnnmpcjaaGreatDoor
