/- Whether the minus has its place in the negative half, once. (and more) -/
import Derived.Test.YtghfdapfnoeanaaGreatDoorR00
import Derived.Test.YtghfdapfnoeanaaGreatDoorR02
import Derived.Test.YtghfdapfnoeanaaGreatDoorR01
import Derived.Test.YtghfdapfnoeanaaGreatDoorR25
import Derived.Test.YtghfdapfnoeanaaGreatDoorR06
import Derived.Test.YtghfdapfnoeanaaGreatDoorR12
import Derived.Test.YtghfdapfnoeanaaGreatDoorRows
import Derived.Deep.QuietTactic
import Derived.BigQuiet
set_option linter.unusedVariables false
set_option linter.unusedSimpArgs false
namespace Go.Proofs.YtghfdapfnoeanaaGreatDoor
open Go.RowKit
namespace Lo
open Um Cm Gm
/-! ### the minus' place -/
theorem signs1_any (v:Value) (A:List Pc.E) (n:Int) (w:World) (hv:Pc.LstP w v A) (hA:A.length ≤ 1000000) (hn:((Lm.cnt 3 A:Nat):Int) = n) :
  Calls Tryz.prog 130 #[v] w fun e w'=>e = .returned (.int .i64 n) ∧ Q w w':=by
 have hc:=Pg.countP_any v A 3 w hv hA
 rw [show ((A.countP fun p=>p.1 == 3:Nat):Int) = n from hn] at hc
 have HC:=Lib.hid hc
 obtain ⟨a,cp,rfl⟩:=hv.shape
 generalize A.length = m at *
 clear hv hA hc hn
 go_enter Tryz.func130,Tryz.ntmps130
 go_wp2_with fail
 refine HC.out.mono ?_
 rintro e w' ⟨rfl,hq'⟩
 go_wp2_with fail
 go_ret
 exact ⟨rfl,hq'⟩
set_option maxRecDepth 100000 in
set_option maxHeartbeats 4000000 in
theorem signed_ahead (g:Nat) (r:Lm.Rec) (X:Pt.Pat) (a b c d cl:Value) (w:World) (hB:LB w g r X a b c d cl) (hl:∀ A ∈ Lm.affs X,A.length ≤ 1000000) (h1:Lm.cnt 3 X.pre = 0) (h2:Lm.cnt 3 X.suf = 0) (h3:Lm.cnt 3 X.npre = 1) (h4:Lm.cnt 3 X.nsuf = 0) :
  Calls Tryz.prog 77 #[.pointer (some ⟨g,0,none⟩)] w fun e w'=>e = .returned (.bool true) ∧ Q w w':=by
 have HS0:=Lib.hid (fun u (hq:Q w u)=>signs1_any a X.pre 0 u ((hB.2.1).q hq) (hl _ (by simp [Lm.affs])) (by rw [h1];rfl))
 have HS1:=Lib.hid (fun u (hq:Q w u)=>signs1_any b X.suf 0 u ((hB.2.2.1).q hq) (hl _ (by simp [Lm.affs])) (by rw [h2];rfl))
 have HS2:=Lib.hid (fun u (hq:Q w u)=>signs1_any c X.npre 1 u ((hB.2.2.2.1).q hq) (hl _ (by simp [Lm.affs])) (by rw [h3];rfl))
 have HS3:=Lib.hid (fun u (hq:Q w u)=>signs1_any d X.nsuf 0 u ((hB.2.2.2.2).q hq) (hl _ (by simp [Lm.affs])) (by rw [h4];rfl))
 have c8:=hB.1.cell 8 rfl
 have c9:=hB.1.cell 9 rfl
 have c10:=hB.1.cell 10 rfl
 have c11:=hB.1.cell 11 rfl
 have c12:=hB.1.cell 12 rfl
 have c13:=hB.1.cell 13 rfl
 have c14:=hB.1.cell 14 rfl
 have c15:=hB.1.cell 15 rfl
 have c16:=hB.1.cell 16 rfl
 obtain ⟨a1,a2,rfl⟩:=hB.2.1.shape
 obtain ⟨b1,b2,rfl⟩:=hB.2.2.1.shape
 obtain ⟨d1,d2,rfl⟩:=hB.2.2.2.1.shape
 obtain ⟨e1,e2,rfl⟩:=hB.2.2.2.2.shape
 generalize X.pre.length = n1 at *
 generalize X.suf.length = n2 at *
 generalize X.npre.length = n3 at *
 generalize X.nsuf.length = n4 at *
 generalize X.pr = p1 at *
 generalize X.se = p2 at *
 generalize X.mi = p3 at *
 generalize X.mf = p4 at *
 generalize X.xf = p5 at *
 obtain ⟨z,hz⟩:∃ z,z = w.alloc (.cells #[.slice a1 n1 a2,.slice b1 n2 b2,.slice d1 n3 d2,.slice e1 n4 e2,.int .i64 p1,.int .i64 p2,.int .i64 p3,.int .i64 p4,.int .i64 p5] 89):=⟨_,rfl⟩
 have HQZ:=Lib.hid (show Q w z by rw [hz];exact (Q.refl w).alloc _)
 have HBZ:=Lib.hid (show Bk z w.heap.size 89 [.slice a1 n1 a2,.slice b1 n2 b2,.slice d1 n3 d2,.slice e1 n4 e2,.int .i64 p1,.int .i64 p2,.int .i64 p3,.int .i64 p4,.int .i64 p5] by rw [hz];exact Bk.new _ _ _)
 clear hB hl h1 h2 h3 h4
 go_enter Tryz.func77,Tryz.ntmps77
 go_upto_region 3 with fail
 rw [← hz]
 clear hz c8 c9 c10 c11 c12 c13 c14 c15 c16
 generalize w.heap.size = bz at *
 have hw0:IntKind.i64.wrap 0 = 0:=rfl
 have hw1:IntKind.i64.wrap 1 = 1:=rfl
 refine wp_region_held_drew (S:=fun u=>Q z u) (by kernel_rfl) (by exact (Q.refl z).drew) (fun hHeld=>?_)
 have hS:Q z z.drew:=hHeld
 clear hHeld
 have hq:Q z z.drew:=(Q.refl _).drew
 clear hq
 generalize z.drew = yR1x0 at *
 refine wpAnyH_take (i:=0) (v:=?vR1x1) rfl (by kernel_rfl) (by kernel_rfl) (by kernel_rfl) (by exact fun _ _ _ h=>h) (Or.inl ⟨by rfl,?hyR1x1⟩) (by exact hS) ?rsR1x1
 case hyR1x1=>(intro uz hSw;(try dsimp only at hSw);go_simp;try with_reducible rfl)
 try simp only [Act.put,sA,sB,sC]
 refine wpAnyH_take (i:=1) (v:=?vR1x2) rfl (by kernel_rfl) (by kernel_rfl) (by kernel_rfl) (by exact fun _ _ _ h=>h) (Or.inl ⟨by rfl,?hyR1x2⟩) (by exact hS) ?rsR1x2
 case hyR1x2=>(intro uz hSw;(try dsimp only at hSw);go_simp;try with_reducible rfl)
 try simp only [Act.put,sA,sB,sC]
 refine wpAnyH_take (i:=2) (v:=?vR1x3) rfl (by kernel_rfl) (by kernel_rfl) (by kernel_rfl) (by exact fun _ _ _ h=>h) (Or.inl ⟨by rfl,?hyR1x3⟩) (by exact hS) ?rsR1x3
 case hyR1x3=>(intro uz hSw;(try dsimp only at hSw);have kb:=HBZ.out.q hSw;have k0:=kb.cell 0 rfl;have k1:=kb.cell 1 rfl;have k2:=kb.cell 2 rfl;have k3:=kb.cell 3 rfl;clear kb;go_simp;try with_reducible rfl)
 try simp only [Act.put,sA,sB,sC]
 refine wpAnyH_take (i:=4) (v:=?vR1x4) rfl (by kernel_rfl) (by kernel_rfl) (by kernel_rfl) (by exact fun _ _ _ h=>h) (Or.inl ⟨by rfl,?hyR1x4⟩) (by exact hS) ?rsR1x4
 case hyR1x4=>(intro uz hSw;(try dsimp only at hSw);go_simp;try with_reducible rfl)
 try simp only [Act.put,sA,sB,sC]
 refine wpAnyH_take (i:=5) (v:=?vR1x5) rfl (by kernel_rfl) (by kernel_rfl) (by kernel_rfl) (by exact fun _ _ _ h=>h) (Or.inl ⟨by rfl,?hyR1x5⟩) (by exact hS) ?rsR1x5
 case hyR1x5=>(intro uz hSw;(try dsimp only at hSw);go_simp;try with_reducible rfl)
 try simp only [Act.put,sA,sB,sC]
 refine wpAnyH_take (i:=6) (v:=?vR1x6) rfl (by kernel_rfl) (by kernel_rfl) (by kernel_rfl) (by exact fun _ _ _ h=>h) (Or.inl ⟨by rfl,?hyR1x6⟩) (by exact hS) ?rsR1x6
 case hyR1x6=>(intro uz hSw;(try dsimp only at hSw);have kb:=HBZ.out.q hSw;have k0:=kb.cell 0 rfl;have k1:=kb.cell 1 rfl;have k2:=kb.cell 2 rfl;have k3:=kb.cell 3 rfl;clear kb;go_simp;try with_reducible rfl)
 try simp only [Act.put,sA,sB,sC]
 refine wpAnyH_ready (rs:=[3]) (by kernel_rfl) (by simp) ?_
 refine (AllReadyH.cons rfl (fun K hK=>?_) AllReadyH.nil)
 go_simp
 refine (HS0.out _ (HQZ.out.trans hS)).mono ?_
 rintro e yR1x7 ⟨rfl,hq⟩
 try (go_wp2_with fail)
 have hS2:=Q.trans hS hq
 refine hK.out _ _ (by exact hS2) (fun hHeld=>?_)
 clear hK K hHeld hS hq
 have hS:=hS2
 clear hS2
 try simp only [Act.put,sA,sB,sC]
 refine wpAnyH_ready (rs:=[7]) (by kernel_rfl) (by simp) ?_
 refine (AllReadyH.cons rfl (fun K hK=>?_) AllReadyH.nil)
 go_simp
 refine (HS1.out _ (HQZ.out.trans hS)).mono ?_
 rintro e yR1x8 ⟨rfl,hq⟩
 try (go_wp2_with fail)
 have hS2:=Q.trans hS hq
 refine hK.out _ _ (by exact hS2) (fun hHeld=>?_)
 clear hK K hHeld hS hq
 have hS:=hS2
 clear hS2
 try simp only [Act.put,sA,sB,sC]
 refine wpAnyH_take (i:=8) (v:=?vR1x9) rfl (by kernel_rfl) (by kernel_rfl) (by kernel_rfl) (by exact fun _ _ _ h=>h) (Or.inl ⟨by rfl,?hyR1x9⟩) (by exact hS) ?rsR1x9
 case hyR1x9=>(intro uz hSw;(try dsimp only at hSw);go_simp;try with_reducible rfl)
 try simp only [Act.put,sA,sB,sC]
 refine wpAnyH_take (i:=9) (v:=?vR1x10) rfl (by kernel_rfl) (by kernel_rfl) (by kernel_rfl) (by exact fun _ _ _ h=>h) (Or.inl ⟨by rfl,?hyR1x10⟩) (by exact hS) ?rsR1x10
 case hyR1x10=>(intro uz hSw;(try dsimp only at hSw);go_simp;try with_reducible rfl)
 try simp only [Act.put,sA,sB,sC]
 refine wpAnyH_take (i:=10) (v:=?vR1x11) rfl (by kernel_rfl) (by kernel_rfl) (by kernel_rfl) (by exact fun _ _ _ h=>h) (Or.inl ⟨by rfl,?hyR1x11⟩) (by exact hS) ?rsR1x11
 case hyR1x11=>(intro uz hSw;(try dsimp only at hSw);go_simp;try with_reducible rfl)
 try simp only [Act.put,sA,sB,sC]
 refine wpAnyH_take (i:=11) (v:=?vR1x12) rfl (by kernel_rfl) (by kernel_rfl) (by kernel_rfl) (by exact fun _ _ _ h=>h) (Or.inl ⟨by rfl,?hyR1x12⟩) (by exact hS) ?rsR1x12
 case hyR1x12=>(intro uz hSw;(try dsimp only at hSw);go_simp;try with_reducible rfl)
 try simp only [Act.put,sA,sB,sC]
 refine wpAnyH_take (i:=12) (v:=?vR1x13) rfl (by kernel_rfl) (by kernel_rfl) (by kernel_rfl) (by exact fun _ _ _ h=>h) (Or.inl ⟨by rfl,?hyR1x13⟩) (by exact hS) ?rsR1x13
 case hyR1x13=>(intro uz hSw;(try dsimp only at hSw);go_simp;try with_reducible rfl)
 try simp only [Act.put,sA,sB,sC]
 refine wpAnyH_take (i:=13) (v:=?vR1x14) rfl (by kernel_rfl) (by kernel_rfl) (by kernel_rfl) (by exact fun _ _ _ h=>h) (Or.inl ⟨by rfl,?hyR1x14⟩) (by exact hS) ?rsR1x14
 case hyR1x14=>(intro uz hSw;(try dsimp only at hSw);have kb:=HBZ.out.q hSw;have k0:=kb.cell 0 rfl;have k1:=kb.cell 1 rfl;have k2:=kb.cell 2 rfl;have k3:=kb.cell 3 rfl;clear kb;go_simp;try with_reducible rfl)
 try simp only [Act.put,sA,sB,sC]
 refine wpAnyH_take (i:=15) (v:=?vR1x15) rfl (by kernel_rfl) (by kernel_rfl) (by kernel_rfl) (by exact fun _ _ _ h=>h) (Or.inl ⟨by rfl,?hyR1x15⟩) (by exact hS) ?rsR1x15
 case hyR1x15=>(intro uz hSw;(try dsimp only at hSw);go_simp;try with_reducible rfl)
 try simp only [Act.put,sA,sB,sC]
 refine wpAnyH_take (i:=16) (v:=?vR1x16) rfl (by kernel_rfl) (by kernel_rfl) (by kernel_rfl) (by exact fun _ _ _ h=>h) (Or.inl ⟨by rfl,?hyR1x16⟩) (by exact hS) ?rsR1x16
 case hyR1x16=>(intro uz hSw;(try dsimp only at hSw);go_simp;try with_reducible rfl)
 try simp only [Act.put,sA,sB,sC]
 refine wpAnyH_take (i:=17) (v:=?vR1x17) rfl (by kernel_rfl) (by kernel_rfl) (by kernel_rfl) (by exact fun _ _ _ h=>h) (Or.inl ⟨by rfl,?hyR1x17⟩) (by exact hS) ?rsR1x17
 case hyR1x17=>(intro uz hSw;(try dsimp only at hSw);have kb:=HBZ.out.q hSw;have k0:=kb.cell 0 rfl;have k1:=kb.cell 1 rfl;have k2:=kb.cell 2 rfl;have k3:=kb.cell 3 rfl;clear kb;go_simp;try with_reducible rfl)
 try simp only [Act.put,sA,sB,sC]
 refine wpAnyH_ready (rs:=[14]) (by kernel_rfl) (by simp) ?_
 refine (AllReadyH.cons rfl (fun K hK=>?_) AllReadyH.nil)
 go_simp
 refine (HS2.out _ (HQZ.out.trans hS)).mono ?_
 rintro e yR1x18 ⟨rfl,hq⟩
 try (go_wp2_with fail)
 have hS2:=Q.trans hS hq
 refine hK.out _ _ (by exact hS2) (fun hHeld=>?_)
 clear hK K hHeld hS hq
 have hS:=hS2
 clear hS2
 try simp only [Act.put,sA,sB,sC]
 refine wpAnyH_ready (rs:=[18]) (by kernel_rfl) (by simp) ?_
 refine (AllReadyH.cons rfl (fun K hK=>?_) AllReadyH.nil)
 go_simp
 refine (HS3.out _ (HQZ.out.trans hS)).mono ?_
 rintro e yR1x19 ⟨rfl,hq⟩
 try (go_wp2_with fail)
 have hS2:=Q.trans hS hq
 refine hK.out _ _ (by exact hS2) (fun hHeld=>?_)
 clear hK K hHeld hS hq
 have hS:=hS2
 clear hS2
 try simp only [Act.put,sA,sB,sC]
 refine wpAnyH_take (i:=19) (v:=?vR1x20) rfl (by kernel_rfl) (by kernel_rfl) (by kernel_rfl) (by exact fun _ _ _ h=>h) (Or.inl ⟨by rfl,?hyR1x20⟩) (by exact hS) ?rsR1x20
 case hyR1x20=>(intro uz hSw;(try dsimp only at hSw);go_simp;try with_reducible rfl)
 try simp only [Act.put,sA,sB,sC]
 refine wpAnyH_take (i:=20) (v:=?vR1x21) rfl (by kernel_rfl) (by kernel_rfl) (by kernel_rfl) (by exact fun _ _ _ h=>h) (Or.inl ⟨by rfl,?hyR1x21⟩) (by exact hS) ?rsR1x21
 case hyR1x21=>(intro uz hSw;(try dsimp only at hSw);go_simp;try with_reducible rfl)
 try simp only [Act.put,sA,sB,sC]
 refine wpAnyH_take (i:=21) (v:=?vR1x22) rfl (by kernel_rfl) (by kernel_rfl) (by kernel_rfl) (by exact fun _ _ _ h=>h) (Or.inl ⟨by rfl,?hyR1x22⟩) (by exact hS) ?rsR1x22
 case hyR1x22=>(intro uz hSw;(try dsimp only at hSw);go_simp;try with_reducible rfl)
 try simp only [Act.put,sA,sB,sC]
 refine wpAnyH_take (i:=22) (v:=?vR1x23) rfl (by kernel_rfl) (by kernel_rfl) (by kernel_rfl) (by exact fun _ _ _ h=>h) (Or.inl ⟨by rfl,?hyR1x23⟩) (by exact hS) ?rsR1x23
 case hyR1x23=>(intro uz hSw;(try dsimp only at hSw);go_simp;try with_reducible rfl)
 try simp only [Act.put,sA,sB,sC]
 refine wpAnyH_done (by kernel_rfl) ?_ _
 have HQ:=Lib.hid (HQZ.out.trans hS)
 clear hS
 go_wp2_with fail
 rename_i dx1 d1 hx1 dx2 d2 hx2
 have hy1:(some 2:Option Tmp) = some d1:=hx1
 have hy2:(some 30:Option Tmp) = some d2:=hx2
 obtain rfl:=Option.some.inj hy1
 obtain rfl:=Option.some.inj hy2
 clear hx1 hx2 hy1 hy2
 go_ret
 exact ⟨rfl,HQ.out⟩
end Lo
end Go.Proofs.YtghfdapfnoeanaaGreatDoor
