/- How many bytes a text has at most, as the document's own answer reckons it. (and more) -/
import Derived.Test.YtghfdapfnoeanaaGreatDoorR00
import Derived.Test.YtghfdapfnoeanaaGreatDoorR02
import Derived.Test.YtghfdapfnoeanaaGreatDoorR01
import Derived.Test.YtghfdapfnoeanaaGreatDoorR06
import Derived.Test.YtghfdapfnoeanaaGreatDoorR08
import Derived.Test.YtghfdapfnoeanaaGreatDoorR37
import Derived.Test.YtghfdapfnoeanaaGreatDoorR39
import Derived.Test.YtghfdapfnoeanaaGreatDoorR38
import Derived.Test.YtghfdapfnoeanaaGreatDoorR12
import Derived.Test.YtghfdapfnoeanaaGreatDoorR04
import Derived.Test.YtghfdapfnoeanaaGreatDoorR36
import Derived.Test.YtghfdapfnoeanaaGreatDoorR25
import Derived.Test.YtghfdapfnoeanaaGreatDoorR22
import Derived.Test.YtghfdapfnoeanaaGreatDoorR28
import Derived.Test.YtghfdapfnoeanaaGreatDoorR30
import Derived.Test.YtghfdapfnoeanaaGreatDoorR40
import Derived.Test.YtghfdapfnoeanaaGreatDoorR43
import Derived.Test.YtghfdapfnoeanaaGreatDoorRows
import Derived.WalkLawsBesides
import Derived.Laws.Rows
import Derived.Laws.Tables
import Derived.Deep.RegionHeld
import Derived.Deep.Cut
import Derived.Deep.DeepCutAuto
import Derived.Deep.QuietTactic
import Derived.BigQuiet
set_option linter.unusedVariables false
set_option linter.unusedSimpArgs false
namespace Go.Proofs.YtghfdapfnoeanaaGreatDoor
open Go.RowKit
namespace Vr
open Um Im Vm Lo Ro
set_option maxRecDepth 100000 in
set_option maxHeartbeats 6400000 in
theorem bound_any (r:Lm.Rec) (X:Pt.Pat) (a b c d:Value) (W R:Nat) (w:World) (hO:It.LOk r X) (hL:Ro.LL w X a b c d) (hW:W ≤ 1000) (hR:R ≤ 1000) :
  Calls Tryz.prog 29 #[lV r X a b c d,.int .i64 W,.int .i64 R] w fun e w'=>e = .returned (.int .i64 (bnd r X W R:Nat)) ∧ Q w w':=by
 obtain ⟨m0,m1,D,M1,M2,M3,hm0,hm1,hD,hM3,hM1,hM2,hb,b0,b1,bD,bM1,bM2,bd,bg,h2⟩:=Vw.bnd_parts hO W R hW hR
 have HF:=Lib.hid (fun u (q:Q w u)=>affixes_any r X a b c d false u hO (hL.q q))
 have HT:=Lib.hid (fun u (q:Q w u)=>affixes_any r X a b c d true u hO (hL.q q))
 rw [← hm0] at HF
 rw [← hm1] at HT
 have HD:=Lib.hid (fun u (k:Nat) (h:k < 10)=>It.rdigit_ok (r:=r) hO.ok.sys (k:Int) (by omega) (by omega) u)
 have HX:=Lib.hid (show ∀ k,dgx r (k + 1) = max (dgx r k) (Lm.dgt r k).size from fun _=>rfl)
 have HX0:=Lib.hid (show dgx r 0 = 0 from rfl)
 have HXE:=Lib.hid hD.symm
 have hpr:0 ≤ X.pr:=hO.ok.pr
 have hpr2:=hO.pr
 have hc:∀ P:Prop,P = P:=fun _=>rfl
 obtain ⟨x2,hx2⟩:∃ q:Bool,q = decide (0 < X.pr ∧ 0 < W):=⟨_,rfl⟩
 obtain ⟨a1,a2,rfl⟩:=hL.1.shape
 obtain ⟨b1',b2,rfl⟩:=hL.2.1.shape
 obtain ⟨c1,c2,rfl⟩:=hL.2.2.1.shape
 obtain ⟨d1,d2,rfl⟩:=hL.2.2.2.shape
 rw [hb]
 clear hL hO hm0 hm1 hb hD hc
 unfold lV at HF HT ⊢
 generalize X.pre.length = n1 at *
 generalize X.suf.length = n2 at *
 generalize X.npre.length = n3 at *
 generalize X.nsuf.length = n4 at *
 generalize X.pr = p0 at *
 generalize X.se = p1 at *
 generalize X.mi = p2 at *
 generalize X.mf = p3 at *
 generalize X.xf = p4 at *
 generalize Lm.bs r.nam = s0 at *
 generalize Lm.bs r.pat = s1 at *
 generalize Lm.bs r.sys = s2 at *
 generalize Lm.bs r.dec = s3 at *
 generalize Lm.bs r.grp = s4 at *
 generalize Lm.bs r.min = s5 at *
 generalize Lm.bs r.per = s6 at *
 generalize Lm.bs r.cur = s7 at *
 obtain ⟨WR,hWR⟩:∃ k,k = W + R:=⟨_,rfl⟩
 obtain ⟨W1,hW1⟩:∃ k,k = W - 1:=⟨_,rfl⟩
 rw [← hWR] at hM1
 rw [← hW1] at hM2
 obtain ⟨K1,hK1⟩:∃ k,k = M3 + M1:=⟨_,rfl⟩
 obtain ⟨K2,hK2⟩:∃ k,k = K1 + s3.size:=⟨_,rfl⟩
 have hm1':(WR:Int) * (D:Int) = (M1:Int):=by rw [hM1];push_cast;rfl
 have v0:IntKind.i64.wrap ((W:Int) + (R:Int)) = (WR:Int):=by rw [wrapI (by omega) (by omega)];omega
 have v1:IntKind.i64.wrap ((WR:Int) * (D:Int)) = (M1:Int):=by rw [hm1',wrapI (by omega) (by omega)]
 have v2:IntKind.i64.wrap ((M3:Int) + (M1:Int)) = (K1:Int):=by rw [wrapI (by omega) (by omega)];omega
 have v3:IntKind.i64.wrap ((K1:Int) + (s3.size:Int)) = (K2:Int):=by rw [wrapI (by omega) (by omega)];omega
 have hsum:M3 + M1 + s3.size + M2 = K2 + M2:=by omega
 have hK2b:K2 ≤ 1000000:=by omega
 rw [hsum]
 have HV0:=Lib.hid v0
 have HV1:=Lib.hid v1
 have HV2:=Lib.hid v2
 have HV3:=Lib.hid v3
 have HMX:=Lib.hid hM3
 have HM2:=Lib.hid hM2
 have H2:=Lib.hid h2
 have HW1:=Lib.hid hW1
 clear hM1 hM3 hM2 hWR hW1 hK1 hK2 hm1' v0 v1 v2 v3 hsum h2
 obtain ⟨z,hz⟩:∃ z,z = w.alloc (.cells #[.string s0,.string s1,.string s2,.string s3,.string s4,.string s5,.string s6,.string s7,.slice a1 n1 a2,.slice b1' n2 b2,.slice c1 n3 c2,.slice d1 n4 d2,.int .i64 p0,.int .i64 p1,.int .i64 p2,.int .i64 p3,.int .i64 p4] 34):=⟨_,rfl⟩
 have HQZ:=Lib.hid (show Q w z by rw [hz];exact (Q.refl w).alloc _)
 have HLZ:=Lib.hid (show Bk z w.heap.size 34 [.string s0,.string s1,.string s2,.string s3,.string s4,.string s5,.string s6,.string s7,.slice a1 n1 a2,.slice b1' n2 b2,.slice c1 n3 c2,.slice d1 n4 d2,.int .i64 p0,.int .i64 p1,.int .i64 p2,.int .i64 p3,.int .i64 p4] by rw [hz];exact Bk.new _ _ _)
 obtain ⟨bL,hbL⟩:∃ b,b = w.heap.size:=⟨_,rfl⟩
 rw [← hbL] at HLZ
 go_enter Tryz.func29,Tryz.ntmps29
 go_upto_region 1 with fail
 rw [← hz,← hbL]
 clear hz hbL
 go_wp2_with fail
 go_loopw [7,8] (fun x i wr=>∃ k:Nat,i = .int .i64 k ∧ k ≤ 10 ∧ x = .int .i64 (dgx r k:Nat) ∧ Q z wr) (fun _ i _=>10 - (intOf i).toNat)
 case atStart=>exact ⟨0,rfl,by omega,by rw [HX0.out];rfl,Q.refl _⟩
 case round =>
  obtain ⟨k,rfl,hk,rfl,hq⟩:=hrel
  by_cases hlt:k < 10
  ·have hd:=HD.out wr k hlt
   rw [Int.toNat_natCast] at hd
   have hx:=HX.out k
   obtain ⟨N2,hN2⟩:∃ m,m = dgx r (k + 1):=⟨_,rfl⟩
   generalize dgx r k = M at *
   generalize Lm.dgt r k = T at *
   rw [← hN2] at hx
   have HN2:=Lib.hid hN2.symm
   have HDD:=Lib.hid hd
   have x2':=(HLZ.out.q hq).cell 2 rfl
   clear hd hN2
   have HMX2:=Lib.hid (show max (M:Int) (T.size:Int) = (N2:Int) by omega)
   clear hx
   go_wp2_with fail
   refine HDD.out.mono ?_
   rintro e w1 ⟨rfl,hq1⟩
   go_wp2_with fail
   exact ⟨⟨k + 1,by go_num,by omega,by rw [HN2.out,← HMX2.out],hq.trans hq1⟩,by simp [intOf];omega⟩
  ·obtain rfl:k = 10:=by omega
   rw [HXE.out]
   have HLR:=Lib.hid (HLZ.out.q hq)
   have HQR:=Lib.hid (HQZ.out.trans hq)
   clear hq HLZ
   have w0:=HV0.out
   have w1:=HV1.out
   have w2:=HV2.out
   have w3:=HV3.out
   go_upto_region 6 with fail
   go_cut [9] (fun v wx=>v = .int .i64 (K2:Nat) ∧ Q wr wx)
   case first =>
    by_cases hmm:m0 < m1
    ·have hm3:M3 = m1:=by have:=HMX.out;omega
     subst hm3
     have hmi:(m0:Int) < (M3:Int):=by omega
     have hmx:max (m0:Int) (M3:Int) = (M3:Int):=by omega
     refine wp_region_held_drew (S:=fun u=>Q wr u) (by kernel_rfl) (by exact (Q.refl wr).drew) (fun hHeld=>?_)
     have hS:Q wr wr.drew:=hHeld
     clear hHeld
     have hq:Q wr wr.drew:=(Q.refl _).drew
     clear hq
     generalize wr.drew = yR1x0 at *
     change wpAnyH _ _ _ _ _ _ #[ff,ff,ff,ff,ff,ff,ff,ff,ff,ff,ff,ff,ff,ff,ff,ff,ff] _ _
     refine wpAnyH_take (i:=0) (v:=?vR1x1) (by (try simp only [gA,gB,gC]);rfl) (by kernel_rfl) (by kernel_rfl) (by kernel_rfl) (by exact fun _ _ _ h=>h) (Or.inl ⟨by first | kernel_rfl | rfl,?hyR1x1⟩) (by exact hS) ?rsR1x1
     case hyR1x1=>(intro uz hSw;(try dsimp only at hSw);refine ld_row (x:=.tmp 3) ?_ ?_ (HLR.out.q hSw) Tryz.underlying34 (by exact infoL) <;> rfl)
     try simp only [Act.put,sA,sB,sC]
     change wpAnyH _ _ _ _ _ _ #[tt,ff,ff,ff,ff,ff,ff,ff,ff,ff,ff,ff,ff,ff,ff,ff,ff] _ _
     refine wpAnyH_take (i:=2) (v:=?vR1x2) (by (try simp only [gA,gB,gC]);rfl) (by kernel_rfl) (by kernel_rfl) (by kernel_rfl) (by exact fun _ _ _ h=>h) (Or.inl ⟨by first | kernel_rfl | rfl,?hyR1x2⟩) (by exact hS) ?rsR1x2
     case hyR1x2=>(intro uz hSw;(try dsimp only at hSw);refine ld_row (x:=.tmp 3) ?_ ?_ (HLR.out.q hSw) Tryz.underlying34 (by exact infoL) <;> rfl)
     try simp only [Act.put,sA,sB,sC]
     change wpAnyH _ _ _ _ _ _ #[tt,ff,tt,ff,ff,ff,ff,ff,ff,ff,ff,ff,ff,ff,ff,ff,ff] _ _
     refine wpAnyH_take (i:=5) (v:=?vR1x3) (by (try simp only [gA,gB,gC]);rfl) (by kernel_rfl) (by kernel_rfl) (by kernel_rfl) (by exact fun _ _ _ h=>h) (Or.inl ⟨by first | kernel_rfl | rfl,?hyR1x3⟩) (by exact hS) ?rsR1x3
     case hyR1x3=>(intro uz hSw;(try dsimp only at hSw);go_simp;try with_reducible rfl)
     try simp only [Act.put,sA,sB,sC]
     change wpAnyH _ _ _ _ _ _ #[tt,ff,tt,ff,ff,tt,ff,ff,ff,ff,ff,ff,ff,ff,ff,ff,ff] _ _
     refine wpAnyH_take (i:=6) (v:=?vR1x4) (by (try simp only [gA,gB,gC]);rfl) (by kernel_rfl) (by kernel_rfl) (by kernel_rfl) (by exact fun _ _ _ h=>h) (Or.inl ⟨by first | kernel_rfl | rfl,?hyR1x4⟩) (by exact hS) ?rsR1x4
     case hyR1x4=>(intro uz hSw;(try dsimp only at hSw);go_simp;try with_reducible rfl)
     try simp only [Act.put,sA,sB,sC]
     change wpAnyH _ _ _ _ _ _ #[tt,ff,tt,ff,ff,tt,tt,ff,ff,ff,ff,ff,ff,ff,ff,ff,ff] _ _
     refine wpAnyH_take (i:=7) (v:=?vR1x5) (by (try simp only [gA,gB,gC]);rfl) (by kernel_rfl) (by kernel_rfl) (by kernel_rfl) (by exact fun _ _ _ h=>h) (Or.inl ⟨by first | kernel_rfl | rfl,?hyR1x5⟩) (by exact hS) ?rsR1x5
     case hyR1x5=>(intro uz hSw;(try dsimp only at hSw);go_simp;try with_reducible rfl)
     try simp only [Act.put,sA,sB,sC]
     change wpAnyH _ _ _ _ _ _ #[tt,ff,tt,ff,ff,tt,tt,tt,ff,ff,ff,ff,ff,ff,ff,ff,ff] _ _
     refine wpAnyH_take (i:=8) (v:=?vR1x6) (by (try simp only [gA,gB,gC]);rfl) (by kernel_rfl) (by kernel_rfl) (by kernel_rfl) (by exact fun _ _ _ h=>h) (Or.inl ⟨by first | kernel_rfl | rfl,?hyR1x6⟩) (by exact hS) ?rsR1x6
     case hyR1x6=>(intro uz hSw;(try dsimp only at hSw);go_simp;try with_reducible rfl)
     try simp only [Act.put,sA,sB,sC]
     change wpAnyH _ _ _ _ _ _ #[tt,ff,tt,ff,ff,tt,tt,tt,tt,ff,ff,ff,ff,ff,ff,ff,ff] _ _
     refine wpAnyH_take (i:=9) (v:=?vR1x7) (by (try simp only [gA,gB,gC]);rfl) (by kernel_rfl) (by kernel_rfl) (by kernel_rfl) (by exact fun _ _ _ h=>h) (Or.inl ⟨by first | kernel_rfl | rfl,?hyR1x7⟩) (by exact hS) ?rsR1x7
     case hyR1x7=>(intro uz hSw;(try dsimp only at hSw);go_simp;try with_reducible rfl)
     try simp only [Act.put,sA,sB,sC]
     change wpAnyH _ _ _ _ _ _ #[tt,ff,tt,ff,ff,tt,tt,tt,tt,tt,ff,ff,ff,ff,ff,ff,ff] _ _
     refine wpAnyH_take (i:=11) (v:=?vR1x8) (by (try simp only [gA,gB,gC]);rfl) (by kernel_rfl) (by kernel_rfl) (by kernel_rfl) (by exact fun _ _ _ h=>h) (Or.inl ⟨by first | kernel_rfl | rfl,?hyR1x8⟩) (by exact hS) ?rsR1x8
     case hyR1x8=>(intro uz hSw;(try dsimp only at hSw);go_simp;try with_reducible rfl)
     try simp only [Act.put,sA,sB,sC]
     change wpAnyH _ _ _ _ _ _ #[tt,ff,tt,ff,ff,tt,tt,tt,tt,tt,ff,tt,ff,ff,ff,ff,ff] _ _
     refine wpAnyH_take (i:=12) (v:=?vR1x9) (by (try simp only [gA,gB,gC]);rfl) (by kernel_rfl) (by kernel_rfl) (by kernel_rfl) (by exact fun _ _ _ h=>h) (Or.inl ⟨by first | kernel_rfl | rfl,?hyR1x9⟩) (by exact hS) ?rsR1x9
     case hyR1x9=>(intro uz hSw;(try dsimp only at hSw);go_simp;try with_reducible rfl)
     try simp only [Act.put,sA,sB,sC]
     change wpAnyH _ _ _ _ _ _ #[tt,ff,tt,ff,ff,tt,tt,tt,tt,tt,ff,tt,tt,ff,ff,ff,ff] _ _
     refine wpAnyH_take (i:=13) (v:=?vR1x10) (by (try simp only [gA,gB,gC]);rfl) (by kernel_rfl) (by kernel_rfl) (by kernel_rfl) (by exact fun _ _ _ h=>h) (Or.inl ⟨by first | kernel_rfl | rfl,?hyR1x10⟩) (by exact hS) ?rsR1x10
     case hyR1x10=>(intro uz hSw;(try dsimp only at hSw);have q:=(HLR.out.q hSw).cell 3 rfl;go_simp;try with_reducible rfl)
     try simp only [Act.put,sA,sB,sC]
     change wpAnyH _ _ _ _ _ _ #[tt,ff,tt,ff,ff,tt,tt,tt,tt,tt,ff,tt,tt,tt,ff,ff,ff] _ _
     refine wpAnyH_take (i:=14) (v:=?vR1x11) (by (try simp only [gA,gB,gC]);rfl) (by kernel_rfl) (by kernel_rfl) (by kernel_rfl) (by exact fun _ _ _ h=>h) (Or.inl ⟨by first | kernel_rfl | rfl,?hyR1x11⟩) (by exact hS) ?rsR1x11
     case hyR1x11=>(intro uz hSw;(try dsimp only at hSw);go_simp;try with_reducible rfl)
     try simp only [Act.put,sA,sB,sC]
     change wpAnyH _ _ _ _ _ _ #[tt,ff,tt,ff,ff,tt,tt,tt,tt,tt,ff,tt,tt,tt,tt,ff,ff] _ _
     refine wpAnyH_ready (rs:=[1]) (by kernel_rfl) (by simp) ?_
     refine (AllReadyH.cons (by (try simp only [gA,gB,gC]);rfl) (fun K hK=>?_) AllReadyH.nil)
     go_simp
     refine (HF.out _ (HQR.out.trans hS)).mono ?_
     rintro e yR1x12 ⟨rfl,hq⟩
     try (go_wp2_with fail)
     have hS2:=Q.trans hS hq
     refine hK.out _ _ (by exact hS2) (fun hHeld=>?_)
     clear hK K hHeld hS hq
     have hS:=hS2
     clear hS2
     try simp only [Act.put,sA,sB,sC]
     change wpAnyH _ _ _ _ _ _ #[tt,tt,tt,ff,ff,tt,tt,tt,tt,tt,ff,tt,tt,tt,tt,ff,ff] _ _
     refine wpAnyH_ready (rs:=[3]) (by kernel_rfl) (by simp) ?_
     refine (AllReadyH.cons (by (try simp only [gA,gB,gC]);rfl) (fun K hK=>?_) AllReadyH.nil)
     go_simp
     refine (HT.out _ (HQR.out.trans hS)).mono ?_
     rintro e yR1x13 ⟨rfl,hq⟩
     try (go_wp2_with fail)
     have hS2:=Q.trans hS hq
     refine hK.out _ _ (by exact hS2) (fun hHeld=>?_)
     clear hK K hHeld hS hq
     have hS:=hS2
     clear hS2
     try simp only [Act.put,sA,sB,sC]
     change wpAnyH _ _ _ _ _ _ #[tt,tt,tt,tt,ff,tt,tt,tt,tt,tt,ff,tt,tt,tt,tt,ff,ff] _ _
     refine wpAnyH_take (i:=4) (v:=?vR1x14) (by (try simp only [gA,gB,gC]);rfl) (by kernel_rfl) (by kernel_rfl) (by kernel_rfl) (by exact fun _ _ _ h=>h) (Or.inl ⟨by first | kernel_rfl | rfl,?hyR1x14⟩) (by exact hS) ?rsR1x14
     case hyR1x14=>(intro uz hSw;(try dsimp only at hSw);go_simp;try with_reducible rfl)
     try simp only [Act.put,sA,sB,sC]
     change wpAnyH _ _ _ _ _ _ #[tt,tt,tt,tt,tt,tt,tt,tt,tt,tt,ff,tt,tt,tt,tt,ff,ff] _ _
     refine wpAnyH_take (i:=10) (v:=?vR1x15) (by (try simp only [gA,gB,gC]);rfl) (by kernel_rfl) (by kernel_rfl) (by kernel_rfl) (by exact fun _ _ _ h=>h) (Or.inl ⟨by first | kernel_rfl | rfl,?hyR1x15⟩) (by exact hS) ?rsR1x15
     case hyR1x15=>(intro uz hSw;(try dsimp only at hSw);go_simp;try with_reducible rfl)
     try simp only [Act.put,sA,sB,sC]
     change wpAnyH _ _ _ _ _ _ #[tt,tt,tt,tt,tt,tt,tt,tt,tt,tt,tt,tt,tt,tt,tt,ff,ff] _ _
     refine wpAnyH_take (i:=15) (v:=?vR1x16) (by (try simp only [gA,gB,gC]);rfl) (by kernel_rfl) (by kernel_rfl) (by kernel_rfl) (by exact fun _ _ _ h=>h) (Or.inl ⟨by first | kernel_rfl | rfl,?hyR1x16⟩) (by exact hS) ?rsR1x16
     case hyR1x16=>(intro uz hSw;(try dsimp only at hSw);go_simp;try with_reducible rfl)
     try simp only [Act.put,sA,sB,sC]
     change wpAnyH _ _ _ _ _ _ #[tt,tt,tt,tt,tt,tt,tt,tt,tt,tt,tt,tt,tt,tt,tt,tt,ff] _ _
     refine wpAnyH_take (i:=16) (v:=?vR1x17) (by (try simp only [gA,gB,gC]);rfl) (by kernel_rfl) (by kernel_rfl) (by kernel_rfl) (by exact fun _ _ _ h=>h) (Or.inl ⟨by first | kernel_rfl | rfl,?hyR1x17⟩) (by exact hS) ?rsR1x17
     case hyR1x17=>(intro uz hSw;(try dsimp only at hSw);go_simp;try with_reducible rfl)
     try simp only [Act.put,sA,sB,sC]
     change wpAnyH _ _ _ _ _ _ #[tt,tt,tt,tt,tt,tt,tt,tt,tt,tt,tt,tt,tt,tt,tt,tt,tt] _ _
     refine wpAnyH_done (by kernel_rfl) ?_ _
     have HQ7:=Lib.hid hS
     clear hS
     go_wp2_with fail
     go_meet
     exact ⟨rfl,HQ7.out⟩
    ·have hm3:M3 = m0:=by have:=HMX.out;omega
     subst hm3
     have hmi:(m1:Int) ≤ (M3:Int):=by omega
     have hmi2:¬ (M3:Int) < (m1:Int):=by omega
     have hmx:max (M3:Int) (m1:Int) = (M3:Int):=by omega
     refine wp_region_held_drew (S:=fun u=>Q wr u) (by kernel_rfl) (by exact (Q.refl wr).drew) (fun hHeld=>?_)
     have hS:Q wr wr.drew:=hHeld
     clear hHeld
     have hq:Q wr wr.drew:=(Q.refl _).drew
     clear hq
     generalize wr.drew = yR2x0 at *
     change wpAnyH _ _ _ _ _ _ #[ff,ff,ff,ff,ff,ff,ff,ff,ff,ff,ff,ff,ff,ff,ff,ff,ff] _ _
     refine wpAnyH_take (i:=0) (v:=?vR2x1) (by (try simp only [gA,gB,gC]);rfl) (by kernel_rfl) (by kernel_rfl) (by kernel_rfl) (by exact fun _ _ _ h=>h) (Or.inl ⟨by first | kernel_rfl | rfl,?hyR2x1⟩) (by exact hS) ?rsR2x1
     case hyR2x1=>(intro uz hSw;(try dsimp only at hSw);refine ld_row (x:=.tmp 3) ?_ ?_ (HLR.out.q hSw) Tryz.underlying34 (by exact infoL) <;> rfl)
     try simp only [Act.put,sA,sB,sC]
     change wpAnyH _ _ _ _ _ _ #[tt,ff,ff,ff,ff,ff,ff,ff,ff,ff,ff,ff,ff,ff,ff,ff,ff] _ _
     refine wpAnyH_take (i:=2) (v:=?vR2x2) (by (try simp only [gA,gB,gC]);rfl) (by kernel_rfl) (by kernel_rfl) (by kernel_rfl) (by exact fun _ _ _ h=>h) (Or.inl ⟨by first | kernel_rfl | rfl,?hyR2x2⟩) (by exact hS) ?rsR2x2
     case hyR2x2=>(intro uz hSw;(try dsimp only at hSw);refine ld_row (x:=.tmp 3) ?_ ?_ (HLR.out.q hSw) Tryz.underlying34 (by exact infoL) <;> rfl)
     try simp only [Act.put,sA,sB,sC]
     change wpAnyH _ _ _ _ _ _ #[tt,ff,tt,ff,ff,ff,ff,ff,ff,ff,ff,ff,ff,ff,ff,ff,ff] _ _
     refine wpAnyH_take (i:=5) (v:=?vR2x3) (by (try simp only [gA,gB,gC]);rfl) (by kernel_rfl) (by kernel_rfl) (by kernel_rfl) (by exact fun _ _ _ h=>h) (Or.inl ⟨by first | kernel_rfl | rfl,?hyR2x3⟩) (by exact hS) ?rsR2x3
     case hyR2x3=>(intro uz hSw;(try dsimp only at hSw);go_simp;try with_reducible rfl)
     try simp only [Act.put,sA,sB,sC]
     change wpAnyH _ _ _ _ _ _ #[tt,ff,tt,ff,ff,tt,ff,ff,ff,ff,ff,ff,ff,ff,ff,ff,ff] _ _
     refine wpAnyH_take (i:=6) (v:=?vR2x4) (by (try simp only [gA,gB,gC]);rfl) (by kernel_rfl) (by kernel_rfl) (by kernel_rfl) (by exact fun _ _ _ h=>h) (Or.inl ⟨by first | kernel_rfl | rfl,?hyR2x4⟩) (by exact hS) ?rsR2x4
     case hyR2x4=>(intro uz hSw;(try dsimp only at hSw);go_simp;try with_reducible rfl)
     try simp only [Act.put,sA,sB,sC]
     change wpAnyH _ _ _ _ _ _ #[tt,ff,tt,ff,ff,tt,tt,ff,ff,ff,ff,ff,ff,ff,ff,ff,ff] _ _
     refine wpAnyH_take (i:=7) (v:=?vR2x5) (by (try simp only [gA,gB,gC]);rfl) (by kernel_rfl) (by kernel_rfl) (by kernel_rfl) (by exact fun _ _ _ h=>h) (Or.inl ⟨by first | kernel_rfl | rfl,?hyR2x5⟩) (by exact hS) ?rsR2x5
     case hyR2x5=>(intro uz hSw;(try dsimp only at hSw);go_simp;try with_reducible rfl)
     try simp only [Act.put,sA,sB,sC]
     change wpAnyH _ _ _ _ _ _ #[tt,ff,tt,ff,ff,tt,tt,tt,ff,ff,ff,ff,ff,ff,ff,ff,ff] _ _
     refine wpAnyH_take (i:=8) (v:=?vR2x6) (by (try simp only [gA,gB,gC]);rfl) (by kernel_rfl) (by kernel_rfl) (by kernel_rfl) (by exact fun _ _ _ h=>h) (Or.inl ⟨by first | kernel_rfl | rfl,?hyR2x6⟩) (by exact hS) ?rsR2x6
     case hyR2x6=>(intro uz hSw;(try dsimp only at hSw);go_simp;try with_reducible rfl)
     try simp only [Act.put,sA,sB,sC]
     change wpAnyH _ _ _ _ _ _ #[tt,ff,tt,ff,ff,tt,tt,tt,tt,ff,ff,ff,ff,ff,ff,ff,ff] _ _
     refine wpAnyH_take (i:=9) (v:=?vR2x7) (by (try simp only [gA,gB,gC]);rfl) (by kernel_rfl) (by kernel_rfl) (by kernel_rfl) (by exact fun _ _ _ h=>h) (Or.inl ⟨by first | kernel_rfl | rfl,?hyR2x7⟩) (by exact hS) ?rsR2x7
     case hyR2x7=>(intro uz hSw;(try dsimp only at hSw);go_simp;try with_reducible rfl)
     try simp only [Act.put,sA,sB,sC]
     change wpAnyH _ _ _ _ _ _ #[tt,ff,tt,ff,ff,tt,tt,tt,tt,tt,ff,ff,ff,ff,ff,ff,ff] _ _
     refine wpAnyH_take (i:=11) (v:=?vR2x8) (by (try simp only [gA,gB,gC]);rfl) (by kernel_rfl) (by kernel_rfl) (by kernel_rfl) (by exact fun _ _ _ h=>h) (Or.inl ⟨by first | kernel_rfl | rfl,?hyR2x8⟩) (by exact hS) ?rsR2x8
     case hyR2x8=>(intro uz hSw;(try dsimp only at hSw);go_simp;try with_reducible rfl)
     try simp only [Act.put,sA,sB,sC]
     change wpAnyH _ _ _ _ _ _ #[tt,ff,tt,ff,ff,tt,tt,tt,tt,tt,ff,tt,ff,ff,ff,ff,ff] _ _
     refine wpAnyH_take (i:=12) (v:=?vR2x9) (by (try simp only [gA,gB,gC]);rfl) (by kernel_rfl) (by kernel_rfl) (by kernel_rfl) (by exact fun _ _ _ h=>h) (Or.inl ⟨by first | kernel_rfl | rfl,?hyR2x9⟩) (by exact hS) ?rsR2x9
     case hyR2x9=>(intro uz hSw;(try dsimp only at hSw);go_simp;try with_reducible rfl)
     try simp only [Act.put,sA,sB,sC]
     change wpAnyH _ _ _ _ _ _ #[tt,ff,tt,ff,ff,tt,tt,tt,tt,tt,ff,tt,tt,ff,ff,ff,ff] _ _
     refine wpAnyH_take (i:=13) (v:=?vR2x10) (by (try simp only [gA,gB,gC]);rfl) (by kernel_rfl) (by kernel_rfl) (by kernel_rfl) (by exact fun _ _ _ h=>h) (Or.inl ⟨by first | kernel_rfl | rfl,?hyR2x10⟩) (by exact hS) ?rsR2x10
     case hyR2x10=>(intro uz hSw;(try dsimp only at hSw);have q:=(HLR.out.q hSw).cell 3 rfl;go_simp;try with_reducible rfl)
     try simp only [Act.put,sA,sB,sC]
     change wpAnyH _ _ _ _ _ _ #[tt,ff,tt,ff,ff,tt,tt,tt,tt,tt,ff,tt,tt,tt,ff,ff,ff] _ _
     refine wpAnyH_take (i:=14) (v:=?vR2x11) (by (try simp only [gA,gB,gC]);rfl) (by kernel_rfl) (by kernel_rfl) (by kernel_rfl) (by exact fun _ _ _ h=>h) (Or.inl ⟨by first | kernel_rfl | rfl,?hyR2x11⟩) (by exact hS) ?rsR2x11
     case hyR2x11=>(intro uz hSw;(try dsimp only at hSw);go_simp;try with_reducible rfl)
     try simp only [Act.put,sA,sB,sC]
     change wpAnyH _ _ _ _ _ _ #[tt,ff,tt,ff,ff,tt,tt,tt,tt,tt,ff,tt,tt,tt,tt,ff,ff] _ _
     refine wpAnyH_ready (rs:=[1]) (by kernel_rfl) (by simp) ?_
     refine (AllReadyH.cons (by (try simp only [gA,gB,gC]);rfl) (fun K hK=>?_) AllReadyH.nil)
     go_simp
     refine (HF.out _ (HQR.out.trans hS)).mono ?_
     rintro e yR2x12 ⟨rfl,hq⟩
     try (go_wp2_with fail)
     have hS2:=Q.trans hS hq
     refine hK.out _ _ (by exact hS2) (fun hHeld=>?_)
     clear hK K hHeld hS hq
     have hS:=hS2
     clear hS2
     try simp only [Act.put,sA,sB,sC]
     change wpAnyH _ _ _ _ _ _ #[tt,tt,tt,ff,ff,tt,tt,tt,tt,tt,ff,tt,tt,tt,tt,ff,ff] _ _
     refine wpAnyH_ready (rs:=[3]) (by kernel_rfl) (by simp) ?_
     refine (AllReadyH.cons (by (try simp only [gA,gB,gC]);rfl) (fun K hK=>?_) AllReadyH.nil)
     go_simp
     refine (HT.out _ (HQR.out.trans hS)).mono ?_
     rintro e yR2x13 ⟨rfl,hq⟩
     try (go_wp2_with fail)
     have hS2:=Q.trans hS hq
     refine hK.out _ _ (by exact hS2) (fun hHeld=>?_)
     clear hK K hHeld hS hq
     have hS:=hS2
     clear hS2
     try simp only [Act.put,sA,sB,sC]
     change wpAnyH _ _ _ _ _ _ #[tt,tt,tt,tt,ff,tt,tt,tt,tt,tt,ff,tt,tt,tt,tt,ff,ff] _ _
     refine wpAnyH_take (i:=4) (v:=?vR2x14) (by (try simp only [gA,gB,gC]);rfl) (by kernel_rfl) (by kernel_rfl) (by kernel_rfl) (by exact fun _ _ _ h=>h) (Or.inl ⟨by first | kernel_rfl | rfl,?hyR2x14⟩) (by exact hS) ?rsR2x14
     case hyR2x14=>(intro uz hSw;(try dsimp only at hSw);go_simp;try with_reducible rfl)
     try simp only [Act.put,sA,sB,sC]
     change wpAnyH _ _ _ _ _ _ #[tt,tt,tt,tt,tt,tt,tt,tt,tt,tt,ff,tt,tt,tt,tt,ff,ff] _ _
     refine wpAnyH_take (i:=10) (v:=?vR2x15) (by (try simp only [gA,gB,gC]);rfl) (by kernel_rfl) (by kernel_rfl) (by kernel_rfl) (by exact fun _ _ _ h=>h) (Or.inl ⟨by first | kernel_rfl | rfl,?hyR2x15⟩) (by exact hS) ?rsR2x15
     case hyR2x15=>(intro uz hSw;(try dsimp only at hSw);go_simp;try with_reducible rfl)
     try simp only [Act.put,sA,sB,sC]
     change wpAnyH _ _ _ _ _ _ #[tt,tt,tt,tt,tt,tt,tt,tt,tt,tt,tt,tt,tt,tt,tt,ff,ff] _ _
     refine wpAnyH_take (i:=15) (v:=?vR2x16) (by (try simp only [gA,gB,gC]);rfl) (by kernel_rfl) (by kernel_rfl) (by kernel_rfl) (by exact fun _ _ _ h=>h) (Or.inl ⟨by first | kernel_rfl | rfl,?hyR2x16⟩) (by exact hS) ?rsR2x16
     case hyR2x16=>(intro uz hSw;(try dsimp only at hSw);go_simp;try with_reducible rfl)
     try simp only [Act.put,sA,sB,sC]
     change wpAnyH _ _ _ _ _ _ #[tt,tt,tt,tt,tt,tt,tt,tt,tt,tt,tt,tt,tt,tt,tt,tt,ff] _ _
     refine wpAnyH_take (i:=16) (v:=?vR2x17) (by (try simp only [gA,gB,gC]);rfl) (by kernel_rfl) (by kernel_rfl) (by kernel_rfl) (by exact fun _ _ _ h=>h) (Or.inl ⟨by first | kernel_rfl | rfl,?hyR2x17⟩) (by exact hS) ?rsR2x17
     case hyR2x17=>(intro uz hSw;(try dsimp only at hSw);go_simp;try with_reducible rfl)
     try simp only [Act.put,sA,sB,sC]
     change wpAnyH _ _ _ _ _ _ #[tt,tt,tt,tt,tt,tt,tt,tt,tt,tt,tt,tt,tt,tt,tt,tt,tt] _ _
     refine wpAnyH_done (by kernel_rfl) ?_ _
     have HQ7:=Lib.hid hS
     clear hS
     go_wp2_with fail
     go_meet
     exact ⟨rfl,HQ7.out⟩
   case rest =>
    obtain ⟨rfl,hqc⟩:=hcut
    have HQC:=Lib.hid (HQR.out.trans hqc)
    have y4:=(HLR.out.q hqc).cell 4 rfl
    have y16:=(HLR.out.q hqc).cell 12 rfl
    clear hqc w0 w1 w2 w3
    by_cases hp:0 < p0
    ·by_cases hw:0 < W
     ·have hw2:(0:Int) < (W:Int):=by omega
      have e1:(W:Int) - 1 = (W1:Int):=by have:=HW1.out;omega
      have e2:(W1:Int) * (s4.size:Int) = (M2:Int):=by rw [HM2.out];push_cast;rfl
      have e3:(M2:Int) ≤ 16000:=by omega
      have e4:(W1:Int) ≤ 1000:=by omega
      go_wp2_with fail
      go_ret
      exact ⟨by go_num,HQC.out⟩
     ·have hw2:¬ (0:Int) < (W:Int):=by omega
      have hM:M2 = 0:=H2.out (by omega)
      subst hM
      go_wp2_with fail
      go_ret
      exact ⟨by go_num,HQC.out⟩
    ·have hM:M2 = 0:=H2.out (by omega)
     subst hM
     go_wp2_with fail
     go_ret
     exact ⟨by go_num,HQC.out⟩
end Vr
end Go.Proofs.YtghfdapfnoeanaaGreatDoor
