/- What stands around a number; the document's example. (and more) -/
import Derived.Test.YtghfdapfnoeanaaGreatDoorR00
import Derived.Test.YtghfdapfnoeanaaGreatDoorR02
import Derived.Test.YtghfdapfnoeanaaGreatDoorR01
import Derived.Test.YtghfdapfnoeanaaGreatDoorR25
import Derived.Test.YtghfdapfnoeanaaGreatDoorR26
import Derived.Test.YtghfdapfnoeanaaGreatDoorR35
import Derived.Test.YtghfdapfnoeanaaGreatDoorR06
import Derived.Test.YtghfdapfnoeanaaGreatDoorR22
import Derived.Test.YtghfdapfnoeanaaGreatDoorR28
import Derived.Test.YtghfdapfnoeanaaGreatDoorR29
import Derived.Test.YtghfdapfnoeanaaGreatDoorR13
import Derived.Test.YtghfdapfnoeanaaGreatDoorRows
import Derived.Test.YtghfdapfnoeanaaGreatDoorR08
import Derived.Test.YtghfdapfnoeanaaGreatDoorR03
import Derived.Test.YtghfdapfnoeanaaGreatDoorR04
import Derived.Test.YtghfdapfnoeanaaGreatDoorR33
import Derived.Test.YtghfdapfnoeanaaGreatDoorR30
import Derived.Test.YtghfdapfnoeanaaGreatDoorR32
import Derived.Test.YtghfdapfnoeanaaGreatDoorR23
import Derived.Deep.QuietTactic
import Derived.BigQuiet
set_option linter.unusedVariables false
set_option linter.unusedSimpArgs false
namespace Go.Proofs.YtghfdapfnoeanaaGreatDoor
open Go.RowKit
namespace Lo
open Um Cm Gm
theorem parts_any (g:Nat) (r:Lm.Rec) (X:Pt.Pat) (a b c d cl v:Value) (A:List Pc.E) (w:World) (hB:LB w g r X a b c d cl) (hv:Pc.LstP w v A) (hA:A.length ≤ 1000) (hz:(Lm.atx r A).length ≤ 100000) (hm:∀ x ∈ A,x.1 = 3 → x.2 = []) :
  Calls Tryz.prog 112 #[.pointer (some ⟨g,0,none⟩),v] w fun e w'=>∃ u,e = .returned u ∧ Pb.LstP w' u (parP r A) ∧ Q w w':=by
 rcases mPl_bd A 0 with h | ⟨h1,h2⟩
 ·exact parts_none g r X a b c d cl v A w hB hv hA hz hm h
 ·exact parts_some g r X a b c d cl v A w hB hv hA hz hm (mPl A 0).toNat (by omega) (by omega)
theorem parts_ok (g:Nat) (r:Lm.Rec) (X:Pt.Pat) (a b c d cl v:Value) (A:List Pc.E) (w:World) (hO:Lm.Ok r X) (hB:LB w g r X a b c d cl) (hv:Pc.LstP w v A) (hm:A ∈ Lm.affs X) :
  Calls Tryz.prog 112 #[.pointer (some ⟨g,0,none⟩),v] w fun e w'=>∃ u,e = .returned u ∧ Pb.LstP w' u (parP r A) ∧ Q w w' :=
 parts_any g r X a b c d cl v A w hB hv (by have:=(hO.aff A hm).1;omega) (by have:=hO.len A hm;omega) (fun x hx h3=>((hO.aff A hm).2 x hx).2.2.2 (by omega))
set_option maxRecDepth 100000 in
set_option maxHeartbeats 2000000 in
theorem around_true (g:Nat) (r:Lm.Rec) (X:Pt.Pat) (a b c d cl:Value) (w:World) (hO:Lm.Ok r X) (hB:LB w g r X a b c d cl) :
  Calls Tryz.prog 57 #[.pointer (some ⟨g,0,none⟩),.bool true] w fun e w'=>∃ u v,e = .returned (.tuple #[u,v]) ∧ Pb.LstP w' u (parP r X.npre) ∧ Pb.LstP w' v (parP r X.nsuf) ∧ Q w w':=by
 have HP1:=Lib.hid (fun u (hq:Q w u)=>parts_ok g r X a b c d cl c X.npre u hO (hB.q hq) ((hB.2.2.2.1).q hq) (by simp [Lm.affs]))
 have HP2:=Lib.hid (fun u (hq:Q w u)=>parts_ok g r X a b c d cl d X.nsuf u hO (hB.q hq) ((hB.2.2.2.2).q hq) (by simp [Lm.affs]))
 have HB:=Lib.hid hB.1
 obtain ⟨y1,y2,hy⟩:=(hB.2.2.2.1).shape
 obtain ⟨z1,z2,hz⟩:=(hB.2.2.2.2).shape
 subst hy hz
 generalize X.npre.length = n1 at *
 generalize X.nsuf.length = n2 at *
 generalize parP r X.npre = R1 at *
 generalize parP r X.nsuf = R2 at *
 clear hB hO
 go_enter Tryz.func57,Tryz.ntmps57
 go_upto_region 2 with fail
 refine wp_region_held_drew (S:=fun u=>Q w u) (by kernel_rfl) (by exact (Q.refl w).drew) (fun hHeld=>?_)
 have hS:Q w w.drew:=hHeld
 clear hHeld
 have hq:Q w w.drew:=(Q.refl _).drew
 clear hq
 generalize w.drew = yR1x0 at *
 refine wpAnyH_take (i:=0) (v:=?vR1x1) rfl (by kernel_rfl) (by kernel_rfl) (by kernel_rfl) (by exact fun _ _ _ h=>h) (Or.inl ⟨by rfl,?hyR1x1⟩) (by exact hS) ?rsR1x1
 case hyR1x1=>(intro uz hSw;(try dsimp only at hSw);go_simp;try with_reducible rfl)
 try simp only [Act.put,sA,sB,sC]
 refine wpAnyH_take (i:=1) (v:=?vR1x2) rfl (by kernel_rfl) (by kernel_rfl) (by kernel_rfl) (by exact fun _ _ _ h=>h) (Or.inl ⟨by rfl,?hyR1x2⟩) (by exact hS) ?rsR1x2
 case hyR1x2=>(intro uz hSw;(try dsimp only at hSw);go_simp;try with_reducible rfl)
 try simp only [Act.put,sA,sB,sC]
 refine wpAnyH_take (i:=2) (v:=?vR1x3) rfl (by kernel_rfl) (by kernel_rfl) (by kernel_rfl) (by exact fun _ _ _ h=>h) (Or.inl ⟨by rfl,?hyR1x3⟩) (by exact hS) ?rsR1x3
 case hyR1x3=>(intro uz hSw;(try dsimp only at hSw);go_simp;try with_reducible rfl)
 try simp only [Act.put,sA,sB,sC]
 refine wpAnyH_take (i:=3) (v:=?vR1x4) rfl (by kernel_rfl) (by kernel_rfl) (by kernel_rfl) (by exact fun _ _ _ h=>h) (Or.inl ⟨by rfl,?hyR1x4⟩) (by exact hS) ?rsR1x4
 case hyR1x4=>(intro uz hSw;(try dsimp only at hSw);go_simp;try with_reducible rfl)
 try simp only [Act.put,sA,sB,sC]
 refine wpAnyH_take (i:=4) (v:=?vR1x5) rfl (by kernel_rfl) (by kernel_rfl) (by kernel_rfl) (by exact fun _ _ _ h=>h) (Or.inl ⟨by rfl,?hyR1x5⟩) (by exact hS) ?rsR1x5
 case hyR1x5=>(intro uz hSw;(try dsimp only at hSw);go_simp;try with_reducible rfl)
 try simp only [Act.put,sA,sB,sC]
 refine wpAnyH_take (i:=5) (v:=?vR1x6) rfl (by kernel_rfl) (by kernel_rfl) (by kernel_rfl) (by exact fun _ _ _ h=>h) (Or.inl ⟨by rfl,?hyR1x6⟩) (by exact hS) ?rsR1x6
 case hyR1x6=>(intro uz hSw;(try dsimp only at hSw);have kb:=HB.out.q hSw;have k1:=kb.cell 10 rfl;have k2:=kb.cell 11 rfl;clear kb;go_simp;try with_reducible rfl)
 try simp only [Act.put,sA,sB,sC]
 refine wpAnyH_take (i:=7) (v:=?vR1x7) rfl (by kernel_rfl) (by kernel_rfl) (by kernel_rfl) (by exact fun _ _ _ h=>h) (Or.inl ⟨by rfl,?hyR1x7⟩) (by exact hS) ?rsR1x7
 case hyR1x7=>(intro uz hSw;(try dsimp only at hSw);go_simp;try with_reducible rfl)
 try simp only [Act.put,sA,sB,sC]
 refine wpAnyH_take (i:=8) (v:=?vR1x8) rfl (by kernel_rfl) (by kernel_rfl) (by kernel_rfl) (by exact fun _ _ _ h=>h) (Or.inl ⟨by rfl,?hyR1x8⟩) (by exact hS) ?rsR1x8
 case hyR1x8=>(intro uz hSw;(try dsimp only at hSw);go_simp;try with_reducible rfl)
 try simp only [Act.put,sA,sB,sC]
 refine wpAnyH_take (i:=9) (v:=?vR1x9) rfl (by kernel_rfl) (by kernel_rfl) (by kernel_rfl) (by exact fun _ _ _ h=>h) (Or.inl ⟨by rfl,?hyR1x9⟩) (by exact hS) ?rsR1x9
 case hyR1x9=>(intro uz hSw;(try dsimp only at hSw);go_simp;try with_reducible rfl)
 try simp only [Act.put,sA,sB,sC]
 refine wpAnyH_take (i:=10) (v:=?vR1x10) rfl (by kernel_rfl) (by kernel_rfl) (by kernel_rfl) (by exact fun _ _ _ h=>h) (Or.inl ⟨by rfl,?hyR1x10⟩) (by exact hS) ?rsR1x10
 case hyR1x10=>(intro uz hSw;(try dsimp only at hSw);go_simp;try with_reducible rfl)
 try simp only [Act.put,sA,sB,sC]
 refine wpAnyH_take (i:=11) (v:=?vR1x11) rfl (by kernel_rfl) (by kernel_rfl) (by kernel_rfl) (by exact fun _ _ _ h=>h) (Or.inl ⟨by rfl,?hyR1x11⟩) (by exact hS) ?rsR1x11
 case hyR1x11=>(intro uz hSw;(try dsimp only at hSw);go_simp;try with_reducible rfl)
 try simp only [Act.put,sA,sB,sC]
 refine wpAnyH_take (i:=12) (v:=?vR1x12) rfl (by kernel_rfl) (by kernel_rfl) (by kernel_rfl) (by exact fun _ _ _ h=>h) (Or.inl ⟨by rfl,?hyR1x12⟩) (by exact hS) ?rsR1x12
 case hyR1x12=>(intro uz hSw;(try dsimp only at hSw);have kb:=HB.out.q hSw;have k1:=kb.cell 10 rfl;have k2:=kb.cell 11 rfl;clear kb;go_simp;try with_reducible rfl)
 try simp only [Act.put,sA,sB,sC]
 refine wpAnyH_ready (rs:=[6]) (by kernel_rfl) (by simp) ?_
 refine (AllReadyH.cons rfl (fun K hK=>?_) AllReadyH.nil)
 go_simp
 refine (HP1.out _ hS).mono ?_
 rintro e yR1x13 ⟨u1,rfl,hu1,hq⟩
 have HU1:=Lib.hid hu1
 obtain ⟨ua,uc,rfl⟩:=hu1.shape
 clear hu1
 generalize R1.length = m1 at *
 try (go_wp2_with fail)
 have hS2:=Q.trans hS hq
 refine hK.out _ _ (by exact hS2) (fun hHeld=>?_)
 clear hK K hHeld hS hq
 have hS:=hS2
 clear hS2
 try simp only [Act.put,sA,sB,sC]
 refine wpAnyH_ready (rs:=[13]) (by kernel_rfl) (by simp) ?_
 refine (AllReadyH.cons rfl (fun K hK=>?_) AllReadyH.nil)
 go_simp
 refine (HP2.out _ hS).mono ?_
 rintro e yR1x14 ⟨u2,rfl,hu2,hq⟩
 have HU2:=Lib.hid hu2
 obtain ⟨va,vc,rfl⟩:=hu2.shape
 clear hu2
 generalize R2.length = m2 at *
 try (go_wp2_with fail)
 have HU1:=Lib.hid (Pb.LstP.q HU1.out hq)
 have hS2:=Q.trans hS hq
 refine hK.out _ _ (by exact hS2) (fun hHeld=>?_)
 clear hK K hHeld hS hq
 have hS:=hS2
 clear hS2
 try simp only [Act.put,sA,sB,sC]
 refine wpAnyH_take (i:=14) (v:=?vR1x15) rfl (by kernel_rfl) (by kernel_rfl) (by kernel_rfl) (by exact fun _ _ _ h=>h) (Or.inl ⟨by rfl,?hyR1x15⟩) (by exact hS) ?rsR1x15
 case hyR1x15=>(intro uz hSw;(try dsimp only at hSw);go_simp;try with_reducible rfl)
 try simp only [Act.put,sA,sB,sC]
 refine wpAnyH_take (i:=15) (v:=?vR1x16) rfl (by kernel_rfl) (by kernel_rfl) (by kernel_rfl) (by exact fun _ _ _ h=>h) (Or.inl ⟨by rfl,?hyR1x16⟩) (by exact hS) ?rsR1x16
 case hyR1x16=>(intro uz hSw;(try dsimp only at hSw);go_simp;try with_reducible rfl)
 try simp only [Act.put,sA,sB,sC]
 refine wpAnyH_done (by kernel_rfl) ?_ _
 have HQ:=Lib.hid hS
 clear hS
 go_wp2_with fail
 trace_state
 first
  | (rename_i dx1 d1 hx1 dx2 d2 hx2;have hy1:(some 5:Option Tmp) = some d1:=hx1;have hy2:(some 4:Option Tmp) = some d2:=hx2;obtain rfl:=Option.some.inj hy1;obtain rfl:=Option.some.inj hy2;clear hx1 hx2 hy1 hy2)
  | (rename_i dx1 d1 hx1;have hy1:(some 5:Option Tmp) = some d1:=hx1;obtain rfl:=Option.some.inj hy1;clear hx1 hy1)
  | skip
 go_ret2
 exact ⟨_,_,rfl,HU1.out,HU2.out,HQ.out⟩
set_option maxRecDepth 100000 in
set_option maxHeartbeats 2000000 in
theorem around_false (g:Nat) (r:Lm.Rec) (X:Pt.Pat) (a b c d cl:Value) (w:World) (hO:Lm.Ok r X) (hB:LB w g r X a b c d cl) :
  Calls Tryz.prog 57 #[.pointer (some ⟨g,0,none⟩),.bool false] w fun e w'=>∃ u v,e = .returned (.tuple #[u,v]) ∧ Pb.LstP w' u (parP r X.pre) ∧ Pb.LstP w' v (parP r X.suf) ∧ Q w w':=by
 have HP1:=Lib.hid (fun u (hq:Q w u)=>parts_ok g r X a b c d cl a X.pre u hO (hB.q hq) ((hB.2.1).q hq) (by simp [Lm.affs]))
 have HP2:=Lib.hid (fun u (hq:Q w u)=>parts_ok g r X a b c d cl b X.suf u hO (hB.q hq) ((hB.2.2.1).q hq) (by simp [Lm.affs]))
 have HB:=Lib.hid hB.1
 obtain ⟨y1,y2,hy⟩:=(hB.2.1).shape
 obtain ⟨z1,z2,hz⟩:=(hB.2.2.1).shape
 subst hy hz
 generalize X.pre.length = n1 at *
 generalize X.suf.length = n2 at *
 generalize parP r X.pre = R1 at *
 generalize parP r X.suf = R2 at *
 clear hB hO
 go_enter Tryz.func57,Tryz.ntmps57
 go_upto_region 3 with fail
 refine wp_region_held_drew (S:=fun u=>Q w u) (by kernel_rfl) (by exact (Q.refl w).drew) (fun hHeld=>?_)
 have hS:Q w w.drew:=hHeld
 clear hHeld
 have hq:Q w w.drew:=(Q.refl _).drew
 clear hq
 generalize w.drew = yR2x0 at *
 refine wpAnyH_take (i:=0) (v:=?vR2x1) rfl (by kernel_rfl) (by kernel_rfl) (by kernel_rfl) (by exact fun _ _ _ h=>h) (Or.inl ⟨by rfl,?hyR2x1⟩) (by exact hS) ?rsR2x1
 case hyR2x1=>(intro uz hSw;(try dsimp only at hSw);go_simp;try with_reducible rfl)
 try simp only [Act.put,sA,sB,sC]
 refine wpAnyH_take (i:=1) (v:=?vR2x2) rfl (by kernel_rfl) (by kernel_rfl) (by kernel_rfl) (by exact fun _ _ _ h=>h) (Or.inl ⟨by rfl,?hyR2x2⟩) (by exact hS) ?rsR2x2
 case hyR2x2=>(intro uz hSw;(try dsimp only at hSw);go_simp;try with_reducible rfl)
 try simp only [Act.put,sA,sB,sC]
 refine wpAnyH_take (i:=2) (v:=?vR2x3) rfl (by kernel_rfl) (by kernel_rfl) (by kernel_rfl) (by exact fun _ _ _ h=>h) (Or.inl ⟨by rfl,?hyR2x3⟩) (by exact hS) ?rsR2x3
 case hyR2x3=>(intro uz hSw;(try dsimp only at hSw);go_simp;try with_reducible rfl)
 try simp only [Act.put,sA,sB,sC]
 refine wpAnyH_take (i:=3) (v:=?vR2x4) rfl (by kernel_rfl) (by kernel_rfl) (by kernel_rfl) (by exact fun _ _ _ h=>h) (Or.inl ⟨by rfl,?hyR2x4⟩) (by exact hS) ?rsR2x4
 case hyR2x4=>(intro uz hSw;(try dsimp only at hSw);go_simp;try with_reducible rfl)
 try simp only [Act.put,sA,sB,sC]
 refine wpAnyH_take (i:=4) (v:=?vR2x5) rfl (by kernel_rfl) (by kernel_rfl) (by kernel_rfl) (by exact fun _ _ _ h=>h) (Or.inl ⟨by rfl,?hyR2x5⟩) (by exact hS) ?rsR2x5
 case hyR2x5=>(intro uz hSw;(try dsimp only at hSw);go_simp;try with_reducible rfl)
 try simp only [Act.put,sA,sB,sC]
 refine wpAnyH_take (i:=5) (v:=?vR2x6) rfl (by kernel_rfl) (by kernel_rfl) (by kernel_rfl) (by exact fun _ _ _ h=>h) (Or.inl ⟨by rfl,?hyR2x6⟩) (by exact hS) ?rsR2x6
 case hyR2x6=>(intro uz hSw;(try dsimp only at hSw);have kb:=HB.out.q hSw;have k1:=kb.cell 8 rfl;have k2:=kb.cell 9 rfl;clear kb;go_simp;try with_reducible rfl)
 try simp only [Act.put,sA,sB,sC]
 refine wpAnyH_take (i:=7) (v:=?vR2x7) rfl (by kernel_rfl) (by kernel_rfl) (by kernel_rfl) (by exact fun _ _ _ h=>h) (Or.inl ⟨by rfl,?hyR2x7⟩) (by exact hS) ?rsR2x7
 case hyR2x7=>(intro uz hSw;(try dsimp only at hSw);go_simp;try with_reducible rfl)
 try simp only [Act.put,sA,sB,sC]
 refine wpAnyH_take (i:=8) (v:=?vR2x8) rfl (by kernel_rfl) (by kernel_rfl) (by kernel_rfl) (by exact fun _ _ _ h=>h) (Or.inl ⟨by rfl,?hyR2x8⟩) (by exact hS) ?rsR2x8
 case hyR2x8=>(intro uz hSw;(try dsimp only at hSw);go_simp;try with_reducible rfl)
 try simp only [Act.put,sA,sB,sC]
 refine wpAnyH_take (i:=9) (v:=?vR2x9) rfl (by kernel_rfl) (by kernel_rfl) (by kernel_rfl) (by exact fun _ _ _ h=>h) (Or.inl ⟨by rfl,?hyR2x9⟩) (by exact hS) ?rsR2x9
 case hyR2x9=>(intro uz hSw;(try dsimp only at hSw);go_simp;try with_reducible rfl)
 try simp only [Act.put,sA,sB,sC]
 refine wpAnyH_take (i:=10) (v:=?vR2x10) rfl (by kernel_rfl) (by kernel_rfl) (by kernel_rfl) (by exact fun _ _ _ h=>h) (Or.inl ⟨by rfl,?hyR2x10⟩) (by exact hS) ?rsR2x10
 case hyR2x10=>(intro uz hSw;(try dsimp only at hSw);go_simp;try with_reducible rfl)
 try simp only [Act.put,sA,sB,sC]
 refine wpAnyH_take (i:=11) (v:=?vR2x11) rfl (by kernel_rfl) (by kernel_rfl) (by kernel_rfl) (by exact fun _ _ _ h=>h) (Or.inl ⟨by rfl,?hyR2x11⟩) (by exact hS) ?rsR2x11
 case hyR2x11=>(intro uz hSw;(try dsimp only at hSw);go_simp;try with_reducible rfl)
 try simp only [Act.put,sA,sB,sC]
 refine wpAnyH_take (i:=12) (v:=?vR2x12) rfl (by kernel_rfl) (by kernel_rfl) (by kernel_rfl) (by exact fun _ _ _ h=>h) (Or.inl ⟨by rfl,?hyR2x12⟩) (by exact hS) ?rsR2x12
 case hyR2x12=>(intro uz hSw;(try dsimp only at hSw);have kb:=HB.out.q hSw;have k1:=kb.cell 8 rfl;have k2:=kb.cell 9 rfl;clear kb;go_simp;try with_reducible rfl)
 try simp only [Act.put,sA,sB,sC]
 refine wpAnyH_ready (rs:=[6]) (by kernel_rfl) (by simp) ?_
 refine (AllReadyH.cons rfl (fun K hK=>?_) AllReadyH.nil)
 go_simp
 refine (HP1.out _ hS).mono ?_
 rintro e yR2x13 ⟨u1,rfl,hu1,hq⟩
 have HU1:=Lib.hid hu1
 obtain ⟨ua,uc,rfl⟩:=hu1.shape
 clear hu1
 generalize R1.length = m1 at *
 try (go_wp2_with fail)
 have hS2:=Q.trans hS hq
 refine hK.out _ _ (by exact hS2) (fun hHeld=>?_)
 clear hK K hHeld hS hq
 have hS:=hS2
 clear hS2
 try simp only [Act.put,sA,sB,sC]
 refine wpAnyH_ready (rs:=[13]) (by kernel_rfl) (by simp) ?_
 refine (AllReadyH.cons rfl (fun K hK=>?_) AllReadyH.nil)
 go_simp
 refine (HP2.out _ hS).mono ?_
 rintro e yR2x14 ⟨u2,rfl,hu2,hq⟩
 have HU2:=Lib.hid hu2
 obtain ⟨va,vc,rfl⟩:=hu2.shape
 clear hu2
 generalize R2.length = m2 at *
 try (go_wp2_with fail)
 have HU1:=Lib.hid (Pb.LstP.q HU1.out hq)
 have hS2:=Q.trans hS hq
 refine hK.out _ _ (by exact hS2) (fun hHeld=>?_)
 clear hK K hHeld hS hq
 have hS:=hS2
 clear hS2
 try simp only [Act.put,sA,sB,sC]
 refine wpAnyH_take (i:=14) (v:=?vR2x15) rfl (by kernel_rfl) (by kernel_rfl) (by kernel_rfl) (by exact fun _ _ _ h=>h) (Or.inl ⟨by rfl,?hyR2x15⟩) (by exact hS) ?rsR2x15
 case hyR2x15=>(intro uz hSw;(try dsimp only at hSw);go_simp;try with_reducible rfl)
 try simp only [Act.put,sA,sB,sC]
 refine wpAnyH_take (i:=15) (v:=?vR2x16) rfl (by kernel_rfl) (by kernel_rfl) (by kernel_rfl) (by exact fun _ _ _ h=>h) (Or.inl ⟨by rfl,?hyR2x16⟩) (by exact hS) ?rsR2x16
 case hyR2x16=>(intro uz hSw;(try dsimp only at hSw);go_simp;try with_reducible rfl)
 try simp only [Act.put,sA,sB,sC]
 refine wpAnyH_done (by kernel_rfl) ?_ _
 have HQ:=Lib.hid hS
 clear hS
 go_wp2_with fail
 trace_state
 first
  | (rename_i dx1 d1 hx1 dx2 d2 hx2;have hy1:(some 5:Option Tmp) = some d1:=hx1;have hy2:(some 4:Option Tmp) = some d2:=hx2;obtain rfl:=Option.some.inj hy1;obtain rfl:=Option.some.inj hy2;clear hx1 hx2 hy1 hy2)
  | (rename_i dx1 d1 hx1;have hy1:(some 5:Option Tmp) = some d1:=hx1;obtain rfl:=Option.some.inj hy1;clear hx1 hy1)
  | skip
 go_ret2
 exact ⟨_,_,rfl,HU1.out,HU2.out,HQ.out⟩
end Lo
end Go.Proofs.YtghfdapfnoeanaaGreatDoor
namespace Go.Proofs.YtghfdapfnoeanaaGreatDoor
open Go.RowKit
namespace Ft
open Um Cm Gm
def Par (p:Nat):Prop:=∀ u,Calls Tryz.prog 42 #[.string (Lm.bs (Fm.ptB.getD p []))] u fun e w'=>∃ v,e = .returned (.tuple #[v,.int .i64 0]) ∧ Pg.PV w' u.heap.size v (Fm.P p) ∧ Q u w'
theorem par_of {p:Nat} (hp:p < 14) (h:∀ u,Calls Tryz.prog 42 #[.string ⟨(joinL (Fm.ptC.getD p [])).toArray⟩] u fun e w'=>∃ v,e = .returned (.tuple #[v,.int .i64 0]) ∧ Pg.PV w' u.heap.size v (Pt.parseC (Fm.ptC.getD p [])).1 ∧ Q u w'):Par p:=by
 obtain ⟨h1,h2,_⟩:=Fm.ptC_B p hp
 rw [h1,h2] at h
 exact h
set_option maxRecDepth 100000 in
theorem par0:Par 0:=par_of (by omega) (Pg.parse1 (cs:=Fm.ptC.getD 0 []) (by decide +kernel) (by decide +kernel) (P:=[(1,164)]) (N:=[(4,35),(4,44),(4,35),(4,35),(4,48),(4,46),(4,48),(4,48)]) (S:=[]) (c:=false) (by decide +kernel) ⟨(by unfold Pt.okT;decide +kernel),(by unfold Pt.okT;decide +kernel),(by decide +kernel)⟩ (by decide +kernel) (by decide +kernel) (by decide +kernel))
set_option maxRecDepth 100000 in
theorem par1:Par 1:=par_of (by omega) (Pg.parse1 (cs:=Fm.ptC.getD 1 []) (by decide +kernel) (by decide +kernel) (P:=[]) (N:=[(4,48),(4,46),(4,48),(4,48)]) (S:=[(0,160),(1,164)]) (c:=false) (by decide +kernel) ⟨(by unfold Pt.okT;decide +kernel),(by unfold Pt.okT;decide +kernel),(by decide +kernel)⟩ (by decide +kernel) (by decide +kernel) (by decide +kernel))
set_option maxRecDepth 100000 in
theorem par2:Par 2:=par_of (by omega) (Pg.parse1 (cs:=Fm.ptC.getD 2 []) (by decide +kernel) (by decide +kernel) (P:=[]) (N:=[(4,35),(4,44),(4,35),(4,35),(4,44),(4,35),(4,35),(4,48),(4,46),(4,48),(4,48)]) (S:=[(1,164)]) (c:=false) (by decide +kernel) ⟨(by unfold Pt.okT;decide +kernel),(by unfold Pt.okT;decide +kernel),(by decide +kernel)⟩ (by decide +kernel) (by decide +kernel) (by decide +kernel))
set_option maxRecDepth 100000 in
theorem par3:Par 3:=par_of (by omega) (Pg.parse1 (cs:=Fm.ptC.getD 3 []) (by decide +kernel) (by decide +kernel) (P:=[]) (N:=[(4,35),(4,44),(4,35),(4,35),(4,48),(4,46),(4,48),(4,48)]) (S:=[(0,160),(1,164)]) (c:=false) (by decide +kernel) ⟨(by unfold Pt.okT;decide +kernel),(by unfold Pt.okT;decide +kernel),(by decide +kernel)⟩ (by decide +kernel) (by decide +kernel) (by decide +kernel))
set_option maxRecDepth 100000 in
theorem par4:Par 4:=par_of (by omega) (Pg.parse1 (cs:=Fm.ptC.getD 4 []) (by decide +kernel) (by decide +kernel) (P:=[(1,164),(0,160)]) (N:=[(4,35),(4,44),(4,35),(4,35),(4,48),(4,46),(4,48),(4,48)]) (S:=[]) (c:=false) (by decide +kernel) ⟨(by unfold Pt.okT;decide +kernel),(by unfold Pt.okT;decide +kernel),(by decide +kernel)⟩ (by decide +kernel) (by decide +kernel) (by decide +kernel))
set_option maxRecDepth 100000 in
theorem par5:Par 5:=par_of (by omega) (Pg.parse2 (cs:=Fm.ptC.getD 5 []) (by decide +kernel) (by decide +kernel) (P:=[(1,164),(0,160)]) (N:=[(4,35),(4,44),(4,35),(4,35),(4,48),(4,46),(4,48),(4,48)]) (S:=[]) (P':=[(1,164),(3,45)]) (N':=[(4,35),(4,44),(4,35),(4,35),(4,48),(4,46),(4,48),(4,48)]) (S':=[]) (c:=false) (by decide +kernel) ⟨(by unfold Pt.okT;decide +kernel),(by unfold Pt.okT;decide +kernel),(by decide +kernel)⟩ (by decide +kernel) (by decide +kernel) (by decide +kernel) ⟨(by unfold Pt.okT;decide +kernel),(by unfold Pt.okT;decide +kernel),(by decide +kernel)⟩ (by decide +kernel) (by decide +kernel) (by decide +kernel))
set_option maxRecDepth 100000 in
theorem par6:Par 6:=par_of (by omega) (Pg.parse1 (cs:=Fm.ptC.getD 6 []) (by decide +kernel) (by decide +kernel) (P:=[(1,164)]) (N:=[(4,35),(4,44),(4,35),(4,35),(4,44),(4,35),(4,35),(4,48),(4,46),(4,48),(4,48)]) (S:=[]) (c:=false) (by decide +kernel) ⟨(by unfold Pt.okT;decide +kernel),(by unfold Pt.okT;decide +kernel),(by decide +kernel)⟩ (by decide +kernel) (by decide +kernel) (by decide +kernel))
set_option maxRecDepth 100000 in
theorem par7:Par 7:=par_of (by omega) (Pg.parse1 (cs:=Fm.ptC.getD 7 []) (by decide +kernel) (by decide +kernel) (P:=[]) (N:=[(4,35),(4,44),(4,35),(4,35),(4,48),(4,46),(4,48),(4,48)]) (S:=[]) (c:=false) (by decide +kernel) ⟨(by unfold Pt.okT;decide +kernel),(by unfold Pt.okT;decide +kernel),(by decide +kernel)⟩ (by decide +kernel) (by decide +kernel) (by decide +kernel))
set_option maxRecDepth 100000 in
theorem par8:Par 8:=par_of (by omega) (Pg.parse1 (cs:=Fm.ptC.getD 8 []) (by decide +kernel) (by decide +kernel) (P:=[(1,164)]) (N:=[(4,35),(4,44),(4,35),(4,35),(4,48)]) (S:=[]) (c:=false) (by decide +kernel) ⟨(by unfold Pt.okT;decide +kernel),(by unfold Pt.okT;decide +kernel),(by decide +kernel)⟩ (by decide +kernel) (by decide +kernel) (by decide +kernel))
set_option maxRecDepth 100000 in
theorem par9:Par 9:=par_of (by omega) (Pg.parse1 (cs:=Fm.ptC.getD 9 []) (by decide +kernel) (by decide +kernel) (P:=[]) (N:=[(4,35),(4,44),(4,35),(4,35),(4,48),(4,46),(4,48),(4,48)]) (S:=[(1,164)]) (c:=false) (by decide +kernel) ⟨(by unfold Pt.okT;decide +kernel),(by unfold Pt.okT;decide +kernel),(by decide +kernel)⟩ (by decide +kernel) (by decide +kernel) (by decide +kernel))
set_option maxRecDepth 100000 in
theorem par10:Par 10:=par_of (by omega) (Pg.parse2 (cs:=Fm.ptC.getD 10 []) (by decide +kernel) (by decide +kernel) (P:=[(1,164)]) (N:=[(4,35),(4,44),(4,35),(4,35),(4,48),(4,46),(4,48),(4,48)]) (S:=[]) (P':=[(1,164),(3,45)]) (N':=[(4,35),(4,44),(4,35),(4,35),(4,48),(4,46),(4,48),(4,48)]) (S':=[]) (c:=false) (by decide +kernel) ⟨(by unfold Pt.okT;decide +kernel),(by unfold Pt.okT;decide +kernel),(by decide +kernel)⟩ (by decide +kernel) (by decide +kernel) (by decide +kernel) ⟨(by unfold Pt.okT;decide +kernel),(by unfold Pt.okT;decide +kernel),(by decide +kernel)⟩ (by decide +kernel) (by decide +kernel) (by decide +kernel))
set_option maxRecDepth 100000 in
theorem par11:Par 11:=par_of (by omega) (Pg.parse2 (cs:=Fm.ptC.getD 11 []) (by decide +kernel) (by decide +kernel) (P:=[(1,164),(0,160)]) (N:=[(4,35),(4,44),(4,35),(4,35),(4,48),(4,46),(4,48),(4,48)]) (S:=[]) (P':=[(1,164),(0,160),(3,45)]) (N':=[(4,35),(4,44),(4,35),(4,35),(4,48),(4,46),(4,48),(4,48)]) (S':=[]) (c:=false) (by decide +kernel) ⟨(by unfold Pt.okT;decide +kernel),(by unfold Pt.okT;decide +kernel),(by decide +kernel)⟩ (by decide +kernel) (by decide +kernel) (by decide +kernel) ⟨(by unfold Pt.okT;decide +kernel),(by unfold Pt.okT;decide +kernel),(by decide +kernel)⟩ (by decide +kernel) (by decide +kernel) (by decide +kernel))
set_option maxRecDepth 100000 in
theorem par12:Par 12:=par_of (by omega) (Pg.parse1 (cs:=Fm.ptC.getD 12 []) (by decide +kernel) (by decide +kernel) (P:=[]) (N:=[(4,35),(4,44),(4,35),(4,35),(4,48),(4,46),(4,35),(4,35)]) (S:=[(2,37)]) (c:=false) (by decide +kernel) ⟨(by unfold Pt.okT;decide +kernel),(by unfold Pt.okT;decide +kernel),(by decide +kernel)⟩ (by decide +kernel) (by decide +kernel) (by decide +kernel))
set_option maxRecDepth 100000 in
theorem par13:Par 13:=par_of (by omega) (Pg.parse1 (cs:=Fm.ptC.getD 13 []) (by decide +kernel) (by decide +kernel) (P:=[(1,164),(0,160)]) (N:=[(4,35),(4,44),(4,35),(4,35),(4,44),(4,35),(4,35),(4,48),(4,46),(4,48),(4,48)]) (S:=[]) (c:=false) (by decide +kernel) ⟨(by unfold Pt.okT;decide +kernel),(by unfold Pt.okT;decide +kernel),(by decide +kernel)⟩ (by decide +kernel) (by decide +kernel) (by decide +kernel))
theorem par_all:∀ p,p < 14 → Par p:=fun p hp=>match p,hp with
 | 0,_=>par0
 | 1,_=>par1
 | 2,_=>par2
 | 3,_=>par3
 | 4,_=>par4
 | 5,_=>par5
 | 6,_=>par6
 | 7,_=>par7
 | 8,_=>par8
 | 9,_=>par9
 | 10,_=>par10
 | 11,_=>par11
 | 12,_=>par12
 | 13,_=>par13
 | n + 14,h=>absurd h (by omega)
theorem new_forty (i:Nat) (hi:i < 40) (w:World) :
  Calls Tryz.prog 27 #[Lo.recV (Fm.T i)] w fun e w'=>∃ g a b c d cl,e = .returned (.tuple #[.pointer (some ⟨g,0,none⟩),Value.nilIface]) ∧ Lo.LB w' g (Fm.T i) (Fm.P (Fm.nP i)) a b c d cl ∧ SLst w' cl (Lm.clus (Fm.T i) (Fm.P (Fm.nP i))) ∧ Q w w' :=
 Lo.new_ok _ _ w (Fm.f_ok i hi) (by rw [Fm.pat_of i hi];exact par_all _ (Fm.nP_lt i hi))
end Ft
end Go.Proofs.YtghfdapfnoeanaaGreatDoor
namespace Go.Proofs.YtghfdapfnoeanaaGreatDoor
open Go.RowKit
namespace Lo
open Um Cm Gm
def Par (p:Nat):Prop:=∀ u,Calls Tryz.prog 42 #[.string (Lm.bs (Lm.patB.getD p []))] u fun e w'=>∃ v,e = .returned (.tuple #[v,.int .i64 0]) ∧ Pg.PV w' u.heap.size v (Lm.pX p) ∧ Q u w'
theorem par_of {p:Nat} (hp:p < 10) (h:∀ u,Calls Tryz.prog 42 #[.string ⟨(joinL (Lm.patC.getD p [])).toArray⟩] u fun e w'=>∃ v,e = .returned (.tuple #[v,.int .i64 0]) ∧ Pg.PV w' u.heap.size v (Pt.parseC (Lm.patC.getD p [])).1 ∧ Q u w'):Par p:=by
 obtain ⟨h1,h2,_⟩:=Lm.f_pat p hp
 rw [h1,h2] at h
 exact h
set_option maxRecDepth 100000 in
theorem par0:Par 0:=par_of (by omega) (Pg.parse1 (cs:=Lm.patC.getD 0 []) (by decide +kernel) (by decide +kernel) (P:=[]) (N:=[(4,35),(4,44),(4,35),(4,35),(4,48),(4,46),(4,48),(4,48)]) (S:=[]) (c:=false) (by decide +kernel) ⟨(by unfold Pt.okT;decide +kernel),(by unfold Pt.okT;decide +kernel),(by decide +kernel)⟩ (by decide +kernel) (by decide +kernel) (by decide +kernel))
set_option maxRecDepth 100000 in
theorem par1:Par 1:=par_of (by omega) (Pg.parse1 (cs:=Lm.patC.getD 1 []) (by decide +kernel) (by decide +kernel) (P:=[]) (N:=[(4,48),(4,46),(4,35),(4,35)]) (S:=[]) (c:=false) (by decide +kernel) ⟨(by unfold Pt.okT;decide +kernel),(by unfold Pt.okT;decide +kernel),(by decide +kernel)⟩ (by decide +kernel) (by decide +kernel) (by decide +kernel))
set_option maxRecDepth 100000 in
theorem par2:Par 2:=par_of (by omega) (Pg.parse1 (cs:=Lm.patC.getD 2 []) (by decide +kernel) (by decide +kernel) (P:=[]) (N:=[(4,35),(4,44),(4,35),(4,35),(4,44),(4,35),(4,35),(4,48),(4,46),(4,35),(4,35),(4,35)]) (S:=[]) (c:=false) (by decide +kernel) ⟨(by unfold Pt.okT;decide +kernel),(by unfold Pt.okT;decide +kernel),(by decide +kernel)⟩ (by decide +kernel) (by decide +kernel) (by decide +kernel))
set_option maxRecDepth 100000 in
theorem par3:Par 3:=par_of (by omega) (Pg.parse1 (cs:=Lm.patC.getD 3 []) (by decide +kernel) (by decide +kernel) (P:=[(1,164)]) (N:=[(4,35),(4,44),(4,35),(4,35),(4,48),(4,46),(4,48),(4,48)]) (S:=[]) (c:=false) (by decide +kernel) ⟨(by unfold Pt.okT;decide +kernel),(by unfold Pt.okT;decide +kernel),(by decide +kernel)⟩ (by decide +kernel) (by decide +kernel) (by decide +kernel))
set_option maxRecDepth 100000 in
theorem par4:Par 4:=par_of (by omega) (Pg.parse1 (cs:=Lm.patC.getD 4 []) (by decide +kernel) (by decide +kernel) (P:=[]) (N:=[(4,35),(4,44),(4,35),(4,35),(4,48),(4,46),(4,48),(4,48)]) (S:=[(0,120),(1,164)]) (c:=false) (by decide +kernel) ⟨(by unfold Pt.okT;decide +kernel),(by unfold Pt.okT;decide +kernel),(by decide +kernel)⟩ (by decide +kernel) (by decide +kernel) (by decide +kernel))
set_option maxRecDepth 100000 in
theorem par5:Par 5:=par_of (by omega) (Pg.parse2 (cs:=Lm.patC.getD 5 []) (by decide +kernel) (by decide +kernel) (P:=[(1,164),(0,120)]) (N:=[(4,35),(4,44),(4,35),(4,35),(4,48),(4,46),(4,48),(4,48)]) (S:=[]) (P':=[(0,40),(1,164),(0,120),(3,45)]) (N':=[(4,35)]) (S':=[(0,41)]) (c:=false) (by decide +kernel) ⟨(by unfold Pt.okT;decide +kernel),(by unfold Pt.okT;decide +kernel),(by decide +kernel)⟩ (by decide +kernel) (by decide +kernel) (by decide +kernel) ⟨(by unfold Pt.okT;decide +kernel),(by unfold Pt.okT;decide +kernel),(by decide +kernel)⟩ (by decide +kernel) (by decide +kernel) (by decide +kernel))
set_option maxRecDepth 100000 in
theorem par6:Par 6:=par_of (by omega) (Pg.parse1 (cs:=Lm.patC.getD 6 []) (by decide +kernel) (by decide +kernel) (P:=[]) (N:=[(4,35),(4,44),(4,35),(4,35),(4,48)]) (S:=[(2,37)]) (c:=false) (by decide +kernel) ⟨(by unfold Pt.okT;decide +kernel),(by unfold Pt.okT;decide +kernel),(by decide +kernel)⟩ (by decide +kernel) (by decide +kernel) (by decide +kernel))
set_option maxRecDepth 100000 in
theorem par7:Par 7:=par_of (by omega) (Pg.parse2 (cs:=Lm.patC.getD 7 []) (by decide +kernel) (by decide +kernel) (P:=[]) (N:=[(4,48),(4,46),(4,48)]) (S:=[]) (P':=[]) (N':=[(4,48),(4,46),(4,48)]) (S':=[(3,45)]) (c:=false) (by decide +kernel) ⟨(by unfold Pt.okT;decide +kernel),(by unfold Pt.okT;decide +kernel),(by decide +kernel)⟩ (by decide +kernel) (by decide +kernel) (by decide +kernel) ⟨(by unfold Pt.okT;decide +kernel),(by unfold Pt.okT;decide +kernel),(by decide +kernel)⟩ (by decide +kernel) (by decide +kernel) (by decide +kernel))
set_option maxRecDepth 100000 in
theorem par8:Par 8:=par_of (by omega) (Pg.parse2 (cs:=Lm.patC.getD 8 []) (by decide +kernel) (by decide +kernel) (P:=[]) (N:=[(4,35),(4,44),(4,35),(4,35),(4,35),(4,48),(4,46),(4,48),(4,48)]) (S:=[(0,121)]) (P':=[(0,121)]) (N':=[(4,35),(4,44),(4,35),(4,35),(4,48),(4,46),(4,48),(4,48)]) (S':=[(3,45),(0,121)]) (c:=false) (by decide +kernel) ⟨(by unfold Pt.okT;decide +kernel),(by unfold Pt.okT;decide +kernel),(by decide +kernel)⟩ (by decide +kernel) (by decide +kernel) (by decide +kernel) ⟨(by unfold Pt.okT;decide +kernel),(by unfold Pt.okT;decide +kernel),(by decide +kernel)⟩ (by decide +kernel) (by decide +kernel) (by decide +kernel))
set_option maxRecDepth 100000 in
theorem par9:Par 9:=par_of (by omega) (Pg.parse2 (cs:=Lm.patC.getD 9 []) (by decide +kernel) (by decide +kernel) (P:=[]) (N:=[(4,35),(4,44),(4,35),(4,35),(4,44),(4,35),(4,48),(4,46),(4,35)]) (S:=[]) (P':=[(0,35)]) (N':=[(4,35)]) (S':=[(3,45),(0,35)]) (c:=true) (by decide +kernel) ⟨(by unfold Pt.okT;decide +kernel),(by unfold Pt.okT;decide +kernel),(by decide +kernel)⟩ (by decide +kernel) (by decide +kernel) (by decide +kernel) ⟨(by unfold Pt.okT;decide +kernel),(by unfold Pt.okT;decide +kernel),(by decide +kernel)⟩ (by decide +kernel) (by decide +kernel) (by decide +kernel))
theorem par_all:∀ p,p < 10 → Par p:=fun p hp=>match p,hp with
 | 0,_=>par0
 | 1,_=>par1
 | 2,_=>par2
 | 3,_=>par3
 | 4,_=>par4
 | 5,_=>par5
 | 6,_=>par6
 | 7,_=>par7
 | 8,_=>par8
 | 9,_=>par9
end Lo
end Go.Proofs.YtghfdapfnoeanaaGreatDoor
namespace Go.Proofs.YtghfdapfnoeanaaGreatDoor
open Go.RowKit
namespace Ro
open Um Cm Gm Lo
theorem arr6 {cs:Array Value} (h:cs.size = 6):∃ a b c d e f,cs = #[a,b,c,d,e,f]:=by
 obtain ⟨l⟩:=cs
 match l,h with
 | [a,b,c,d,e,f],_=>exact ⟨a,b,c,d,e,f,rfl⟩
theorem ok_of {r:Lm.Rec} {X:Pt.Pat} (h:IsMk r X):Lm.Ok r X:=by
 obtain ⟨s,p,d,m,u,c,q,h1,h2,h3,h4,h5,h6,h7,rfl,rfl⟩:=h
 exact Lm.mk_ok h1 h2 h3 h4 h5 h6 h7
theorem new_mk {r:Lm.Rec} {X:Pt.Pat} (h:IsMk r X) (w:World) :
  Calls Tryz.prog 27 #[recV r] w fun e w'=>∃ g a b c d cl,e = .returned (.tuple #[.pointer (some ⟨g,0,none⟩),Value.nilIface]) ∧ LB w' g r X a b c d cl ∧ SLst w' cl (Lm.clus r X) ∧ Q w w':=by
 refine new_ok r X w (ok_of h) ?_
 obtain ⟨s,p,d,m,u,c,q,h1,h2,h3,h4,h5,h6,h7,rfl,rfl⟩:=h
 exact par_all p h2
theorem rnew_mk {r:Lm.Rec} {X:Pt.Pat} (h:IsMk r X) (w:World) :
  Calls Tryz.prog 52 #[recV r] w fun e w'=>∃ a b c d,e = .returned (lV r X a b c d) ∧ LL w' X a b c d ∧ Q w w':=by
 refine new_any r X w ?_ ?_
 ·obtain ⟨s,p,d,m,u,c,q,h1,h2,h3,h4,h5,h6,h7,rfl,rfl⟩:=h
  exact par_pat p h2
 ·obtain ⟨s,p,d,m,u,c,q,h1,h2,h3,h4,h5,h6,h7,rfl,rfl⟩:=h
  have:=pat_le p h2
  show (Lm.patB.getD p []).length ≤ 1000
  omega
theorem one_of {l:List UInt8} (h:Lm.symB l = true):(pcs (Lm.bs l)).length = 1 ∧ (Lm.bs l).size ≤ 16:=by
 refine ⟨?_,by rw [Lm.bs_size];exact sym_len h⟩
 unfold Lm.symB at h
 rw [Bool.and_eq_true] at h
 have h2:=h.2
 rw [oneB_eq] at h2
 rw [pcs_length,Lm.bs_list]
 exact of_decide_eq_true h2
theorem infoLR:(Tryz.prog.info? 64).map (·.size) = some 8:=by kernel_rfl
end Ro
end Go.Proofs.YtghfdapfnoeanaaGreatDoor
namespace Go.Proofs.YtghfdapfnoeanaaGreatDoor
open Go.RowKit
namespace Ro
open Um Cm Gm Lo
theorem mPl_in (A:List Pc.E):∀ k:Nat,0 ≤ mPl A k ↔ ((3,[]):Pc.E) ∈ A:=by
 induction A with
 | nil=>intro k;exact ⟨fun h=>absurd h (by decide:¬ (0:Int) ≤ -1),fun h=>absurd h List.not_mem_nil⟩
 | cons p r ih =>
  intro k
  unfold mPl
  by_cases h:p = (3,[])
  ·rw [if_pos h]
   exact ⟨fun _=>by rw [h];exact List.mem_cons_self,fun _=>by omega⟩
  ·rw [if_neg h,ih]
   exact ⟨fun k=>List.mem_cons_of_mem _ k,fun k=>(List.mem_cons.1 k).resolve_left (fun e=>h e.symm)⟩
def sgs (l:List Pb.E):Nat:=l.countP fun e=>e.1
theorem parP_fact (r:Lm.Rec) (A:List Pc.E) (h1:Lm.cnt 3 A ≤ 1) (h3:∀ x ∈ A,x.1 = 3 → x.2 = []):(∀ e ∈ parP r A,e.1 = e.2.isEmpty) ∧ sgs (parP r A) = Lm.cnt 3 A ∧ (parP r A).length ≤ 3:=by
 refine ⟨fun e he=>?_,?_,?_⟩
 ·unfold parP at he
  split at he
  ·obtain ⟨hm,hk⟩:=List.mem_filter.1 he
   simp only [List.mem_cons,List.not_mem_nil,or_false] at hm
   subst hm
   unfold keepP at hk
   simpa using hk
  ·obtain ⟨hm,hk⟩:=List.mem_filter.1 he
   simp only [List.mem_cons,List.not_mem_nil,or_false] at hm
   rcases hm with rfl | rfl | rfl
   ·unfold keepP at hk
    simpa using hk
   ·rfl
   ·unfold keepP at hk
    simpa using hk
 ·unfold parP
  split
  ·rename_i hneg
   have h0:Lm.cnt 3 A = 0:=by
    unfold Lm.cnt
    rw [List.countP_eq_zero]
    intro x hx e
    have e1:x.1 = 3:=by simpa using e
    have:((3,[]):Pc.E) ∈ A:=by
     have e2:=h3 x hx e1
     have:x = (3,[]):=Prod.ext e1 e2
     exact this ▸ hx
    have:=(mPl_in A 0).2 this
    omega
   rw [h0]
   unfold sgs
   rw [List.countP_eq_zero]
   intro x hx
   obtain ⟨hm,_⟩:=List.mem_filter.1 hx
   simp only [List.mem_cons,List.not_mem_nil,or_false] at hm
   subst hm
   simp
  ·rename_i hneg
   have hm:=(mPl_in A 0).1 (by omega)
   have h0:Lm.cnt 3 A = 1:=by
    have:0 < Lm.cnt 3 A:=by
     unfold Lm.cnt
     rw [List.countP_pos_iff]
     exact ⟨_,hm,by rfl⟩
    omega
   rw [h0]
   unfold sgs
   rw [List.countP_filter]
   simp [List.countP_cons,keepP]
 ·unfold parP
  split
  ·exact Nat.le_trans (List.length_filter_le _ _) (by simp)
  ·exact Nat.le_trans (List.length_filter_le _ _) (by simp)
theorem sgs_app (a b:List Pb.E):sgs (a ++ b) = sgs a + sgs b:=by unfold sgs;exact List.countP_append ..
def ahd (neg:Bool) (X:Pt.Pat):List Pc.E:=if neg = true then X.npre else X.pre
def bhd (neg:Bool) (X:Pt.Pat):List Pc.E:=if neg = true then X.nsuf else X.suf
theorem around_fact {r:Lm.Rec} {X:Pt.Pat} (hO:Lm.Ok r X) (neg:Bool):(∀ e ∈ parP r (ahd neg X) ++ parP r (bhd neg X),e.1 = e.2.isEmpty) ∧ sgs (parP r (ahd neg X) ++ parP r (bhd neg X)) = (if neg = true then 1 else 0) ∧ (parP r (ahd neg X)).length ≤ 3 ∧ (parP r (bhd neg X)).length ≤ 3:=by
 have hm1:ahd neg X ∈ Lm.affs X:=by cases neg <;> simp [ahd,Lm.affs]
 have hm2:bhd neg X ∈ Lm.affs X:=by cases neg <;> simp [bhd,Lm.affs]
 have f1:=parP_fact r (ahd neg X) (cnt_le r X _ hO hm1) (fun x hx h=>((hO.aff _ hm1).2 x hx).2.2.2 (by omega))
 have f2:=parP_fact r (bhd neg X) (cnt_le r X _ hO hm2) (fun x hx h=>((hO.aff _ hm2).2 x hx).2.2.2 (by omega))
 refine ⟨fun e he=>?_,?_,f1.2.2,f2.2.2⟩
 ·rcases List.mem_append.1 he with h | h
  ·exact f1.1 e h
  ·exact f2.1 e h
 ·rw [sgs_app,f1.2.1,f2.2.1]
  have:=hO.sg
  cases neg <;> simp [ahd,bhd] <;> omega
theorem around_any (neg:Bool) (g:Nat) (r:Lm.Rec) (X:Pt.Pat) (a b c d cl:Value) (w:World) (hO:Lm.Ok r X) (hB:LB w g r X a b c d cl) :
  Calls Tryz.prog 57 #[.pointer (some ⟨g,0,none⟩),.bool neg] w fun e w'=>∃ u v,e = .returned (.tuple #[u,v]) ∧ Pb.LstP w' u (parP r (ahd neg X)) ∧ Pb.LstP w' v (parP r (bhd neg X)) ∧ Q w w':=by
 cases neg with
 | true=>exact around_true g r X a b c d cl w hO hB
 | false=>exact around_false g r X a b c d cl w hO hB
theorem raround_any (neg:Bool) (r:Lm.Rec) (X:Pt.Pat) (a b c d:Value) (w:World) (hO:Lm.Ok r X) (hL:LL w X a b c d) :
  Calls Tryz.prog 33 #[lV r X a b c d,.bool neg] w fun e w'=>∃ u v,e = .returned (.tuple #[u,v]) ∧ Pb.LstP w' u (parP r (ahd neg X)) ∧ Pb.LstP w' v (parP r (bhd neg X)) ∧ Q w w':=by
 cases neg with
 | true=>exact raround_true r X a b c d w hO hL
 | false=>exact raround_false r X a b c d w hO hL
end Ro
end Go.Proofs.YtghfdapfnoeanaaGreatDoor
