/- Whether the minus has its place in the negative half, behind the number. (and more) -/
import Derived.Test.YtghfdapfnoeanaaGreatDoorR00
import Derived.Test.YtghfdapfnoeanaaGreatDoorR02
import Derived.Test.YtghfdapfnoeanaaGreatDoorR01
import Derived.Test.YtghfdapfnoeanaaGreatDoorR25
import Derived.Test.YtghfdapfnoeanaaGreatDoorR27
import Derived.Test.YtghfdapfnoeanaaGreatDoorR06
import Derived.Test.YtghfdapfnoeanaaGreatDoorR12
import Derived.Test.YtghfdapfnoeanaaGreatDoorRows
import Derived.Deep.QuietTactic
import Derived.BigQuiet
set_option linter.unusedVariables false
set_option linter.unusedSimpArgs false
namespace Go.Proofs.YtghfdapfnoeanaaGreatDoor
open Go.RowKit
namespace Lo
open Um Cm Gm
set_option maxRecDepth 100000 in
set_option maxHeartbeats 4000000 in
theorem signed_behind (g:Nat) (r:Lm.Rec) (X:Pt.Pat) (a b c d cl:Value) (w:World) (hB:LB w g r X a b c d cl) (hl:∀ A ∈ Lm.affs X,A.length ≤ 1000000) (h1:Lm.cnt 3 X.pre = 0) (h2:Lm.cnt 3 X.suf = 0) (h3:Lm.cnt 3 X.npre = 0) (h4:Lm.cnt 3 X.nsuf = 1) :
  Calls Tryz.prog 77 #[.pointer (some ⟨g,0,none⟩)] w fun e w'=>e = .returned (.bool true) ∧ Q w w':=by
 have HS0:=Lib.hid (fun u (hq:Q w u)=>signs1_any a X.pre 0 u ((hB.2.1).q hq) (hl _ (by simp [Lm.affs])) (by rw [h1];rfl))
 have HS1:=Lib.hid (fun u (hq:Q w u)=>signs1_any b X.suf 0 u ((hB.2.2.1).q hq) (hl _ (by simp [Lm.affs])) (by rw [h2];rfl))
 have HS2:=Lib.hid (fun u (hq:Q w u)=>signs1_any c X.npre 0 u ((hB.2.2.2.1).q hq) (hl _ (by simp [Lm.affs])) (by rw [h3];rfl))
 have HS3:=Lib.hid (fun u (hq:Q w u)=>signs1_any d X.nsuf 1 u ((hB.2.2.2.2).q hq) (hl _ (by simp [Lm.affs])) (by rw [h4];rfl))
 have c8:=hB.1.cell 8 rfl
 have c9:=hB.1.cell 9 rfl
 have c10:=hB.1.cell 10 rfl
 have c11:=hB.1.cell 11 rfl
 have c12:=hB.1.cell 12 rfl
 have c13:=hB.1.cell 13 rfl
 have c14:=hB.1.cell 14 rfl
 have c15:=hB.1.cell 15 rfl
 have c16:=hB.1.cell 16 rfl
 obtain ⟨a1,a2,rfl⟩:=hB.2.1.shape
 obtain ⟨b1,b2,rfl⟩:=hB.2.2.1.shape
 obtain ⟨d1,d2,rfl⟩:=hB.2.2.2.1.shape
 obtain ⟨e1,e2,rfl⟩:=hB.2.2.2.2.shape
 generalize X.pre.length = n1 at *
 generalize X.suf.length = n2 at *
 generalize X.npre.length = n3 at *
 generalize X.nsuf.length = n4 at *
 generalize X.pr = p1 at *
 generalize X.se = p2 at *
 generalize X.mi = p3 at *
 generalize X.mf = p4 at *
 generalize X.xf = p5 at *
 obtain ⟨z,hz⟩:∃ z,z = w.alloc (.cells #[.slice a1 n1 a2,.slice b1 n2 b2,.slice d1 n3 d2,.slice e1 n4 e2,.int .i64 p1,.int .i64 p2,.int .i64 p3,.int .i64 p4,.int .i64 p5] 89):=⟨_,rfl⟩
 have HQZ:=Lib.hid (show Q w z by rw [hz];exact (Q.refl w).alloc _)
 have HBZ:=Lib.hid (show Bk z w.heap.size 89 [.slice a1 n1 a2,.slice b1 n2 b2,.slice d1 n3 d2,.slice e1 n4 e2,.int .i64 p1,.int .i64 p2,.int .i64 p3,.int .i64 p4,.int .i64 p5] by rw [hz];exact Bk.new _ _ _)
 clear hB hl h1 h2 h3 h4
 go_enter Tryz.func77,Tryz.ntmps77
 go_upto_region 3 with fail
 rw [← hz]
 clear hz c8 c9 c10 c11 c12 c13 c14 c15 c16
 generalize w.heap.size = bz at *
 have hw0:IntKind.i64.wrap 0 = 0:=rfl
 have hw1:IntKind.i64.wrap 1 = 1:=rfl
 refine wp_region_held_drew (S:=fun u=>Q z u) (by kernel_rfl) (by exact (Q.refl z).drew) (fun hHeld=>?_)
 have hS:Q z z.drew:=hHeld
 clear hHeld
 have hq:Q z z.drew:=(Q.refl _).drew
 clear hq
 generalize z.drew = yR2x0 at *
 refine wpAnyH_take (i:=0) (v:=?vR2x1) rfl (by kernel_rfl) (by kernel_rfl) (by kernel_rfl) (by exact fun _ _ _ h=>h) (Or.inl ⟨by rfl,?hyR2x1⟩) (by exact hS) ?rsR2x1
 case hyR2x1=>(intro uz hSw;(try dsimp only at hSw);go_simp;try with_reducible rfl)
 try simp only [Act.put,sA,sB,sC]
 refine wpAnyH_take (i:=1) (v:=?vR2x2) rfl (by kernel_rfl) (by kernel_rfl) (by kernel_rfl) (by exact fun _ _ _ h=>h) (Or.inl ⟨by rfl,?hyR2x2⟩) (by exact hS) ?rsR2x2
 case hyR2x2=>(intro uz hSw;(try dsimp only at hSw);go_simp;try with_reducible rfl)
 try simp only [Act.put,sA,sB,sC]
 refine wpAnyH_take (i:=2) (v:=?vR2x3) rfl (by kernel_rfl) (by kernel_rfl) (by kernel_rfl) (by exact fun _ _ _ h=>h) (Or.inl ⟨by rfl,?hyR2x3⟩) (by exact hS) ?rsR2x3
 case hyR2x3=>(intro uz hSw;(try dsimp only at hSw);have kb:=HBZ.out.q hSw;have k0:=kb.cell 0 rfl;have k1:=kb.cell 1 rfl;have k2:=kb.cell 2 rfl;have k3:=kb.cell 3 rfl;clear kb;go_simp;try with_reducible rfl)
 try simp only [Act.put,sA,sB,sC]
 refine wpAnyH_take (i:=4) (v:=?vR2x4) rfl (by kernel_rfl) (by kernel_rfl) (by kernel_rfl) (by exact fun _ _ _ h=>h) (Or.inl ⟨by rfl,?hyR2x4⟩) (by exact hS) ?rsR2x4
 case hyR2x4=>(intro uz hSw;(try dsimp only at hSw);go_simp;try with_reducible rfl)
 try simp only [Act.put,sA,sB,sC]
 refine wpAnyH_take (i:=5) (v:=?vR2x5) rfl (by kernel_rfl) (by kernel_rfl) (by kernel_rfl) (by exact fun _ _ _ h=>h) (Or.inl ⟨by rfl,?hyR2x5⟩) (by exact hS) ?rsR2x5
 case hyR2x5=>(intro uz hSw;(try dsimp only at hSw);go_simp;try with_reducible rfl)
 try simp only [Act.put,sA,sB,sC]
 refine wpAnyH_take (i:=6) (v:=?vR2x6) rfl (by kernel_rfl) (by kernel_rfl) (by kernel_rfl) (by exact fun _ _ _ h=>h) (Or.inl ⟨by rfl,?hyR2x6⟩) (by exact hS) ?rsR2x6
 case hyR2x6=>(intro uz hSw;(try dsimp only at hSw);have kb:=HBZ.out.q hSw;have k0:=kb.cell 0 rfl;have k1:=kb.cell 1 rfl;have k2:=kb.cell 2 rfl;have k3:=kb.cell 3 rfl;clear kb;go_simp;try with_reducible rfl)
 try simp only [Act.put,sA,sB,sC]
 refine wpAnyH_ready (rs:=[3]) (by kernel_rfl) (by simp) ?_
 refine (AllReadyH.cons rfl (fun K hK=>?_) AllReadyH.nil)
 go_simp
 refine (HS0.out _ (HQZ.out.trans hS)).mono ?_
 rintro e yR2x7 ⟨rfl,hq⟩
 try (go_wp2_with fail)
 have hS2:=Q.trans hS hq
 refine hK.out _ _ (by exact hS2) (fun hHeld=>?_)
 clear hK K hHeld hS hq
 have hS:=hS2
 clear hS2
 try simp only [Act.put,sA,sB,sC]
 refine wpAnyH_ready (rs:=[7]) (by kernel_rfl) (by simp) ?_
 refine (AllReadyH.cons rfl (fun K hK=>?_) AllReadyH.nil)
 go_simp
 refine (HS1.out _ (HQZ.out.trans hS)).mono ?_
 rintro e yR2x8 ⟨rfl,hq⟩
 try (go_wp2_with fail)
 have hS2:=Q.trans hS hq
 refine hK.out _ _ (by exact hS2) (fun hHeld=>?_)
 clear hK K hHeld hS hq
 have hS:=hS2
 clear hS2
 try simp only [Act.put,sA,sB,sC]
 refine wpAnyH_take (i:=8) (v:=?vR2x9) rfl (by kernel_rfl) (by kernel_rfl) (by kernel_rfl) (by exact fun _ _ _ h=>h) (Or.inl ⟨by rfl,?hyR2x9⟩) (by exact hS) ?rsR2x9
 case hyR2x9=>(intro uz hSw;(try dsimp only at hSw);go_simp;try with_reducible rfl)
 try simp only [Act.put,sA,sB,sC]
 refine wpAnyH_take (i:=9) (v:=?vR2x10) rfl (by kernel_rfl) (by kernel_rfl) (by kernel_rfl) (by exact fun _ _ _ h=>h) (Or.inl ⟨by rfl,?hyR2x10⟩) (by exact hS) ?rsR2x10
 case hyR2x10=>(intro uz hSw;(try dsimp only at hSw);go_simp;try with_reducible rfl)
 try simp only [Act.put,sA,sB,sC]
 refine wpAnyH_take (i:=10) (v:=?vR2x11) rfl (by kernel_rfl) (by kernel_rfl) (by kernel_rfl) (by exact fun _ _ _ h=>h) (Or.inl ⟨by rfl,?hyR2x11⟩) (by exact hS) ?rsR2x11
 case hyR2x11=>(intro uz hSw;(try dsimp only at hSw);go_simp;try with_reducible rfl)
 try simp only [Act.put,sA,sB,sC]
 refine wpAnyH_take (i:=11) (v:=?vR2x12) rfl (by kernel_rfl) (by kernel_rfl) (by kernel_rfl) (by exact fun _ _ _ h=>h) (Or.inl ⟨by rfl,?hyR2x12⟩) (by exact hS) ?rsR2x12
 case hyR2x12=>(intro uz hSw;(try dsimp only at hSw);go_simp;try with_reducible rfl)
 try simp only [Act.put,sA,sB,sC]
 refine wpAnyH_take (i:=12) (v:=?vR2x13) rfl (by kernel_rfl) (by kernel_rfl) (by kernel_rfl) (by exact fun _ _ _ h=>h) (Or.inl ⟨by rfl,?hyR2x13⟩) (by exact hS) ?rsR2x13
 case hyR2x13=>(intro uz hSw;(try dsimp only at hSw);go_simp;try with_reducible rfl)
 try simp only [Act.put,sA,sB,sC]
 refine wpAnyH_take (i:=13) (v:=?vR2x14) rfl (by kernel_rfl) (by kernel_rfl) (by kernel_rfl) (by exact fun _ _ _ h=>h) (Or.inl ⟨by rfl,?hyR2x14⟩) (by exact hS) ?rsR2x14
 case hyR2x14=>(intro uz hSw;(try dsimp only at hSw);have kb:=HBZ.out.q hSw;have k0:=kb.cell 0 rfl;have k1:=kb.cell 1 rfl;have k2:=kb.cell 2 rfl;have k3:=kb.cell 3 rfl;clear kb;go_simp;try with_reducible rfl)
 try simp only [Act.put,sA,sB,sC]
 refine wpAnyH_take (i:=15) (v:=?vR2x15) rfl (by kernel_rfl) (by kernel_rfl) (by kernel_rfl) (by exact fun _ _ _ h=>h) (Or.inl ⟨by rfl,?hyR2x15⟩) (by exact hS) ?rsR2x15
 case hyR2x15=>(intro uz hSw;(try dsimp only at hSw);go_simp;try with_reducible rfl)
 try simp only [Act.put,sA,sB,sC]
 refine wpAnyH_take (i:=16) (v:=?vR2x16) rfl (by kernel_rfl) (by kernel_rfl) (by kernel_rfl) (by exact fun _ _ _ h=>h) (Or.inl ⟨by rfl,?hyR2x16⟩) (by exact hS) ?rsR2x16
 case hyR2x16=>(intro uz hSw;(try dsimp only at hSw);go_simp;try with_reducible rfl)
 try simp only [Act.put,sA,sB,sC]
 refine wpAnyH_take (i:=17) (v:=?vR2x17) rfl (by kernel_rfl) (by kernel_rfl) (by kernel_rfl) (by exact fun _ _ _ h=>h) (Or.inl ⟨by rfl,?hyR2x17⟩) (by exact hS) ?rsR2x17
 case hyR2x17=>(intro uz hSw;(try dsimp only at hSw);have kb:=HBZ.out.q hSw;have k0:=kb.cell 0 rfl;have k1:=kb.cell 1 rfl;have k2:=kb.cell 2 rfl;have k3:=kb.cell 3 rfl;clear kb;go_simp;try with_reducible rfl)
 try simp only [Act.put,sA,sB,sC]
 refine wpAnyH_ready (rs:=[14]) (by kernel_rfl) (by simp) ?_
 refine (AllReadyH.cons rfl (fun K hK=>?_) AllReadyH.nil)
 go_simp
 refine (HS2.out _ (HQZ.out.trans hS)).mono ?_
 rintro e yR2x18 ⟨rfl,hq⟩
 try (go_wp2_with fail)
 have hS2:=Q.trans hS hq
 refine hK.out _ _ (by exact hS2) (fun hHeld=>?_)
 clear hK K hHeld hS hq
 have hS:=hS2
 clear hS2
 try simp only [Act.put,sA,sB,sC]
 refine wpAnyH_ready (rs:=[18]) (by kernel_rfl) (by simp) ?_
 refine (AllReadyH.cons rfl (fun K hK=>?_) AllReadyH.nil)
 go_simp
 refine (HS3.out _ (HQZ.out.trans hS)).mono ?_
 rintro e yR2x19 ⟨rfl,hq⟩
 try (go_wp2_with fail)
 have hS2:=Q.trans hS hq
 refine hK.out _ _ (by exact hS2) (fun hHeld=>?_)
 clear hK K hHeld hS hq
 have hS:=hS2
 clear hS2
 try simp only [Act.put,sA,sB,sC]
 refine wpAnyH_take (i:=19) (v:=?vR2x20) rfl (by kernel_rfl) (by kernel_rfl) (by kernel_rfl) (by exact fun _ _ _ h=>h) (Or.inl ⟨by rfl,?hyR2x20⟩) (by exact hS) ?rsR2x20
 case hyR2x20=>(intro uz hSw;(try dsimp only at hSw);go_simp;try with_reducible rfl)
 try simp only [Act.put,sA,sB,sC]
 refine wpAnyH_take (i:=20) (v:=?vR2x21) rfl (by kernel_rfl) (by kernel_rfl) (by kernel_rfl) (by exact fun _ _ _ h=>h) (Or.inl ⟨by rfl,?hyR2x21⟩) (by exact hS) ?rsR2x21
 case hyR2x21=>(intro uz hSw;(try dsimp only at hSw);go_simp;try with_reducible rfl)
 try simp only [Act.put,sA,sB,sC]
 refine wpAnyH_take (i:=21) (v:=?vR2x22) rfl (by kernel_rfl) (by kernel_rfl) (by kernel_rfl) (by exact fun _ _ _ h=>h) (Or.inl ⟨by rfl,?hyR2x22⟩) (by exact hS) ?rsR2x22
 case hyR2x22=>(intro uz hSw;(try dsimp only at hSw);go_simp;try with_reducible rfl)
 try simp only [Act.put,sA,sB,sC]
 refine wpAnyH_take (i:=22) (v:=?vR2x23) rfl (by kernel_rfl) (by kernel_rfl) (by kernel_rfl) (by exact fun _ _ _ h=>h) (Or.inl ⟨by rfl,?hyR2x23⟩) (by exact hS) ?rsR2x23
 case hyR2x23=>(intro uz hSw;(try dsimp only at hSw);go_simp;try with_reducible rfl)
 try simp only [Act.put,sA,sB,sC]
 refine wpAnyH_done (by kernel_rfl) ?_ _
 have HQ:=Lib.hid (HQZ.out.trans hS)
 clear hS
 go_wp2_with fail
 rename_i dx1 d1 hx1 dx2 d2 hx2
 have hy1:(some 2:Option Tmp) = some d1:=hx1
 have hy2:(some 30:Option Tmp) = some d2:=hx2
 obtain rfl:=Option.some.inj hy1
 obtain rfl:=Option.some.inj hy2
 clear hx1 hx2 hy1 hy2
 go_ret
 exact ⟨rfl,HQ.out⟩
end Lo
end Go.Proofs.YtghfdapfnoeanaaGreatDoor
