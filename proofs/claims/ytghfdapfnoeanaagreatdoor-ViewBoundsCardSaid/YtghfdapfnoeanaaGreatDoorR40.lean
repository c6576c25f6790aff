/- The program's items of the separator and the digits behind it; of a draft. (and more) -/
import Derived.Test.YtghfdapfnoeanaaGreatDoorR00
import Derived.Test.YtghfdapfnoeanaaGreatDoorR02
import Derived.Test.YtghfdapfnoeanaaGreatDoorR01
import Derived.Test.YtghfdapfnoeanaaGreatDoorR37
import Derived.Test.YtghfdapfnoeanaaGreatDoorR39
import Derived.Test.YtghfdapfnoeanaaGreatDoorR06
import Derived.Test.YtghfdapfnoeanaaGreatDoorR08
import Derived.Test.YtghfdapfnoeanaaGreatDoorR04
import Derived.Test.YtghfdapfnoeanaaGreatDoorR36
import Derived.Test.YtghfdapfnoeanaaGreatDoorR25
import Derived.Test.YtghfdapfnoeanaaGreatDoorR28
import Derived.Test.YtghfdapfnoeanaaGreatDoorRows
import Derived.Test.YtghfdapfnoeanaaGreatDoorR03
import Derived.Test.YtghfdapfnoeanaaGreatDoorR12
import Derived.Deep.RegionHeld
import Derived.Deep.QuietTactic
import Derived.BigQuiet
import Derived.WalkLawsBesides
set_option linter.unusedVariables false
set_option linter.unusedSimpArgs false
namespace Go.Proofs.YtghfdapfnoeanaaGreatDoor
open Go.RowKit
namespace It
open Um Im Lo
set_option maxRecDepth 100000 in
set_option maxHeartbeats 3200000 in
theorem rest_any (g0:Nat) (r:Lm.Rec) (X:Pt.Pat) (a b c d cl:Value) (g s:Bool) (e1 e2:Option Addr) (m1 m2 f1 f2:Nat) (I F:List Int) (w:World) (hB:LB w g0 r X a b c d cl) (hi:Lst w (.slice e1 m1 f1) I) (hf:Lst w (.slice e2 m2 f2) F) (k1:I.length = m1) (k2:F.length = m2) (l1:m1 ≤ 1000) (l2:m2 ≤ 1000) (hF:Dm.okD F) :
  Calls Tryz.prog 111 #[.pointer (some ⟨g0,0,none⟩),.agg #[.bool g,.slice e1 m1 f1,.bool s,.slice e2 m2 f2]] w fun e w'=>∃ x,e = .returned x ∧ OwnI 121 w' w.heap.size x (resI r ⟨g,I,s,F⟩) ∧ Q w w':=by
 have HV:=Lib.hid (fun u (q:Q w u) k (h:k < m2)=>(hf.q q).cellOf k2 h)
 have hr:=fun u (q:Q w u)=>Ro.record_any g0 r X a b c d cl u (hB.q q)
 unfold recV at hr
 have HR:=Lib.hid hr
 have HDG:=Lib.hid (fun x (h0:0 ≤ x) (h9:x ≤ 9) u (q:Q w u)=>digit_ok g0 r X a b c d cl x u (hB.q q) h0 h9)
 have HDX:=Lib.hid (digit_at hF)
 have HWS:=Lib.hid (fun k=>show reI r m1 F (k + 1) = reI r m1 F k ++ [dgE r (F.getD k 0) ((m1:Int) + ((k:Int) + 1))] by rw [reI_succ];simp)
 have HWL:=Lib.hid (reI_len r m1 F)
 have HWZ:=Lib.hid (reI_zero r m1 F)
 have HDE:=Lib.hid (show ∀ x i,dgE r x i = (2,Lm.dgt r x.toNat,i) from fun _ _=>rfl)
 have HF:=Lib.hid (fun u=>fldD u (Lm.bs r.nam) (Lm.bs r.pat) (Lm.bs r.sys) (Lm.bs r.dec) (Lm.bs r.grp) (Lm.bs r.min) (Lm.bs r.per) (Lm.bs r.cur))
 have hic:=hi.form0 k1
 obtain ⟨_,_,hv,hnc,hcm⟩:=hic
 cases hv
 have hfc:=hf.form0 k2
 obtain ⟨_,_,hv,hnf,hfm⟩:=hfc
 cases hv
 have hRS:resI r ⟨g,I,s,F⟩ = if s = true then reI r m1 F m2 else []:=by unfold resI;dsimp only;rw [k1,k2]
 rw [hRS]
 unfold maxLen at hcm hfm
 clear hr hB hi hf k1 k2 hF hRS
 generalize reI r m1 F = RI at *
 generalize Lm.bs r.nam = s0 at *
 generalize Lm.bs r.pat = s1 at *
 generalize Lm.bs r.sys = s2 at *
 generalize Lm.bs r.dec = s3 at *
 generalize Lm.bs r.grp = s4 at *
 generalize Lm.bs r.min = s5 at *
 generalize Lm.bs r.per = s6 at *
 generalize Lm.bs r.cur = s7 at *
 obtain ⟨z,hz⟩:∃ z,z = w.alloc (.cells #[.bool g,.slice e1 m1 f1,.bool s,.slice e2 m2 f2] 70):=⟨_,rfl⟩
 have HQZ:=Lib.hid (show Q w z by rw [hz];exact (Q.refl w).alloc _)
 have HDZ:=Lib.hid (show Bk z w.heap.size 70 [.bool g,.slice e1 m1 f1,.bool s,.slice e2 m2 f2] by rw [hz];exact Bk.new _ _ _)
 cases s
 ·rw [if_neg (by simp)]
  go_enter Tryz.func111,Tryz.ntmps111
  go_upto_region 1 with fail
  rw [← hz]
  clear hz
  obtain ⟨bd,hbd⟩:∃ b,b = w.heap.size:=⟨_,rfl⟩
  rw [← hbd] at HDZ ⊢
  clear hbd
  have y2:=HDZ.out.cell 2 rfl
  go_wp2_with fail
  go_ret
  exact ⟨_,rfl,OwnI.nil _ _ _,HQZ.out⟩
 ·rw [if_pos rfl]
  go_enter Tryz.func111,Tryz.ntmps111
  go_upto_region 1 with fail
  rw [← hz]
  clear hz
  obtain ⟨bd,hbd⟩:∃ b,b = w.heap.size:=⟨_,rfl⟩
  rw [← hbd] at HDZ ⊢
  clear hbd
  have hf0:=HF.out
  have y2:=HDZ.out.cell 2 rfl
  go_upto_region 3 with fail
  clear y2
  refine wp_region_held_drew (S:=fun u=>Q z u) (by kernel_rfl) (by exact (Q.refl z).drew) (fun hHeld=>?_)
  have hS:Q z z.drew:=hHeld
  clear hHeld
  have hq:Q z z.drew:=(Q.refl _).drew
  clear hq
  generalize z.drew = yR2x0 at *
  change wpAnyH _ _ _ _ _ _ #[ff,ff,ff,ff,ff,ff,ff,ff,ff] _ _
  refine wpAnyH_take (i:=0) (v:=?vR2x1) (by (try simp only [gA,gB,gC]);rfl) (by kernel_rfl) (by kernel_rfl) (by kernel_rfl) (by exact fun _ _ _ h=>h) (Or.inl ⟨by first | kernel_rfl | rfl,?hyR2x1⟩) (by exact hS) ?rsR2x1
  case hyR2x1=>(intro uz hSw;(try dsimp only at hSw);go_simp;try with_reducible rfl)
  try simp only [Act.put,sA,sB,sC]
  change wpAnyH _ _ _ _ _ _ #[tt,ff,ff,ff,ff,ff,ff,ff,ff] _ _
  refine wpAnyH_take (i:=3) (v:=?vR2x2) (by (try simp only [gA,gB,gC]);rfl) (by kernel_rfl) (by kernel_rfl) (by kernel_rfl) (by exact fun _ _ _ h=>h) (Or.inl ⟨by first | kernel_rfl | rfl,?hyR2x2⟩) (by exact hS) ?rsR2x2
  case hyR2x2=>(intro uz hSw;(try dsimp only at hSw);go_simp;try with_reducible rfl)
  try simp only [Act.put,sA,sB,sC]
  change wpAnyH _ _ _ _ _ _ #[tt,ff,ff,tt,ff,ff,ff,ff,ff] _ _
  refine wpAnyH_take (i:=4) (v:=?vR2x3) (by (try simp only [gA,gB,gC]);rfl) (by kernel_rfl) (by kernel_rfl) (by kernel_rfl) (by exact fun _ _ _ h=>h) (Or.inl ⟨by first | kernel_rfl | rfl,?hyR2x3⟩) (by exact hS) ?rsR2x3
  case hyR2x3=>(intro uz hSw;(try dsimp only at hSw);have q:=(HDZ.out.q hSw).cell 1 rfl;go_simp;try with_reducible rfl)
  try simp only [Act.put,sA,sB,sC]
  change wpAnyH _ _ _ _ _ _ #[tt,ff,ff,tt,tt,ff,ff,ff,ff] _ _
  refine wpAnyH_take (i:=5) (v:=?vR2x4) (by (try simp only [gA,gB,gC]);rfl) (by kernel_rfl) (by kernel_rfl) (by kernel_rfl) (by exact fun _ _ _ h=>h) (Or.inl ⟨by first | kernel_rfl | rfl,?hyR2x4⟩) (by exact hS) ?rsR2x4
  case hyR2x4=>(intro uz hSw;(try dsimp only at hSw);go_simp;try with_reducible rfl)
  try simp only [Act.put,sA,sB,sC]
  change wpAnyH _ _ _ _ _ _ #[tt,ff,ff,tt,tt,tt,ff,ff,ff] _ _
  refine wpAnyH_ready (rs:=[1]) (by kernel_rfl) (by simp) ?_
  refine (AllReadyH.cons (by (try simp only [gA,gB,gC]);rfl) (fun K hK=>?_) AllReadyH.nil)
  go_simp
  refine (HR.out _ (HQZ.out.trans hS)).mono ?_
  rintro e yR2x5 ⟨rfl,hq⟩
  try (go_wp2_with fail)
  have hS2:=Q.trans hS hq
  refine hK.out _ _ (by exact hS2) (fun hHeld=>?_)
  clear hK K hHeld hS hq
  have hS:=hS2
  clear hS2
  try simp only [Act.put,sA,sB,sC]
  change wpAnyH _ _ _ _ _ _ #[tt,tt,ff,tt,tt,tt,ff,ff,ff] _ _
  refine wpAnyH_take (i:=2) (v:=?vR2x6) (by (try simp only [gA,gB,gC]);rfl) (by kernel_rfl) (by kernel_rfl) (by kernel_rfl) (by exact fun _ _ _ h=>h) (Or.inl ⟨by first | kernel_rfl | rfl,?hyR2x6⟩) (by exact hS) ?rsR2x6
  case hyR2x6=>(intro uz hSw;(try dsimp only at hSw);go_simp;try with_reducible rfl)
  try simp only [Act.put,sA,sB,sC]
  change wpAnyH _ _ _ _ _ _ #[tt,tt,tt,tt,tt,tt,ff,ff,ff] _ _
  refine wpAnyH_take (i:=6) (v:=?vR2x7) (by (try simp only [gA,gB,gC]);rfl) (by kernel_rfl) (by kernel_rfl) (by kernel_rfl) (by exact fun _ _ _ h=>h) (Or.inl ⟨by first | kernel_rfl | rfl,?hyR2x7⟩) (by exact hS) ?rsR2x7
  case hyR2x7=>(intro uz hSw;(try dsimp only at hSw);go_simp;try with_reducible rfl)
  try simp only [Act.put,sA,sB,sC]
  change wpAnyH _ _ _ _ _ _ #[tt,tt,tt,tt,tt,tt,tt,ff,ff] _ _
  refine wpAnyH_ready (rs:=[7]) (by kernel_rfl) (by simp) ?_
  refine (AllReadyH.cons (by (try simp only [gA,gB,gC]);rfl) (fun K hK=>?_) AllReadyH.nil)
  go_simp
  have hq:=(Q.refl yR2x5).alloc (.cells #[.int .i64 4,.string s3,.int .i64 (m1:Int)] 121)
  have HOX:=Lib.hid (OwnI.made1 (T:=121) yR2x5 4 s3 (m1:Int))
  have HBX:=Lib.hid (Bk.new yR2x5 121 [.int .i64 4,.string s3,.int .i64 (m1:Int)])
  have HW_bX:=Lib.hid (Q.le hS)
  have HOX:=Lib.hid (HOX.out.mono HW_bX.out)
  have hS2:=Q.trans hS hq
  refine hK.out _ _ (by exact hS2) (fun hHeld=>?_)
  clear hK K hHeld hS hq
  have hS:=hS2
  clear hS2
  generalize yR2x5.alloc (.cells #[.int .i64 4,.string s3,.int .i64 (m1:Int)] 121) = yR2x8 at *
  generalize yR2x5.heap.size = bX at *
  try simp only [Act.put,sA,sB,sC]
  change wpAnyH _ _ _ _ _ _ #[tt,tt,tt,tt,tt,tt,tt,tt,ff] _ _
  refine wpAnyH_take (i:=8) (v:=?vR2x9) (by (try simp only [gA,gB,gC]);rfl) (by kernel_rfl) (by kernel_rfl) (by kernel_rfl) (by exact fun _ _ _ h=>h) (Or.inl ⟨by first | kernel_rfl | rfl,?hyR2x9⟩) (by exact hS) ?rsR2x9
  case hyR2x9=>(intro uz hSw;(try dsimp only at hSw);go_simp;try with_reducible rfl)
  try simp only [Act.put,sA,sB,sC]
  change wpAnyH _ _ _ _ _ _ #[tt,tt,tt,tt,tt,tt,tt,tt,tt] _ _
  refine wpAnyH_done (by kernel_rfl) ?_ _
  have HQ1:=Lib.hid hS
  have HO1:=Lib.hid HOX.out
  clear hS hf0
  have y3:=(HDZ.out.q HQ1.out).cell 3 rfl
  go_wp2_with fail
  clear y3
  go_loopw [5,21] (fun x i wr=>∃ k:Nat,i = .int .i64 k ∧ k ≤ m2 ∧ OwnI 121 wr z.heap.size x (RI k) ∧ Q z wr) (fun _ i _=>m2 - (intOf i).toNat)
  case atStart=>exact ⟨0,rfl,by omega,by rw [HWZ.out];exact HO1.out,HQ1.out⟩
  case round =>
   obtain ⟨k,rfl,hk,ho,hqr⟩:=hrel
   by_cases hlt:k < m2
   ·have hwl:=HWL.out k
    obtain ⟨oa,oc,rfl,_,_⟩:=ho.lst.form0 hwl
    have HOL:=Lib.hid hwl
    have HQR:=Lib.hid (HQZ.out.trans hqr)
    have HCX:=Lib.hid (show ∃ gg off,Value.slice e2 m2 f2 = .slice (some ⟨gg,off,none⟩) m2 f2 ∧ ∀ u,Q z u → u.cell? ⟨gg,off + k,none⟩ = some (.int .i64 (F.getD k 0)) from by
     obtain ⟨gg,off,cap,hvv,hg,_,_,c1'⟩:=HV.out wr HQR.out k hlt
     cases hvv
     refine ⟨gg,off,rfl,fun u hu=>?_⟩
     obtain ⟨_,_,_,h1,_,_,_,h2⟩:=HV.out u (HQZ.out.trans hu) k hlt
     cases h1
     exact h2)
    obtain ⟨gg,off,hvv,hcx⟩:=HCX.out
    cases hvv
    clear HCX
    have HCX:=Lib.hid hcx
    have HWK:=Lib.hid (HWS.out k)
    have hdx:=HDX.out k
    clear hcx hwl
    generalize F.getD k 0 = x at *
    rw [HDE.out] at HWK
    have HDX2:=Lib.hid (fun u q=>HDG.out x hdx.1 hdx.2 u q)
    generalize Lm.dgt r x.toNat = D at *
    have OWN:=Lib.hid ho
    have hw1:IntKind.i64.wrap ((m1:Int) + ((k:Int) + 1)) = (m1:Int) + ((k + 1:Nat):Int):=by rw [IntKind.wrap_i64];omega
    have hw2:IntKind.i64.wrap ((m1:Int) + ((k:Int) + 1)) = (m1:Int) + ((k:Int) + 1):=by rw [IntKind.wrap_i64];omega
    clear ho
    go_upto_region 7 with fail
    refine wp_region_held_drew (S:=fun u=>Q z u) (by kernel_rfl) (by exact hqr.drew) (fun hHeld=>?_)
    have hS:Q z wr.drew:=hHeld
    clear hHeld
    have hq:Q wr wr.drew:=(Q.refl _).drew
    have OWN:=Lib.hid (OWN.out.q hq)
    clear hq
    generalize wr.drew = yR3x0 at *
    change wpAnyH _ _ _ _ _ _ #[ff,ff,ff,ff,ff,ff,ff,ff,ff,ff,ff,ff,ff,ff,ff,ff,ff,ff] _ _
    refine wpAnyH_take (i:=0) (v:=?vR3x1) (by (try simp only [gA,gB,gC]);rfl) (by kernel_rfl) (by kernel_rfl) (by kernel_rfl) (by exact fun _ _ _ h=>h) (Or.inl ⟨by first | kernel_rfl | rfl,?hyR3x1⟩) (by exact hS) ?rsR3x1
    case hyR3x1=>(intro uz hSw;(try dsimp only at hSw);go_simp;try with_reducible rfl)
    try simp only [Act.put,sA,sB,sC]
    change wpAnyH _ _ _ _ _ _ #[tt,ff,ff,ff,ff,ff,ff,ff,ff,ff,ff,ff,ff,ff,ff,ff,ff,ff] _ _
    refine wpAnyH_take (i:=1) (v:=?vR3x2) (by (try simp only [gA,gB,gC]);rfl) (by kernel_rfl) (by kernel_rfl) (by kernel_rfl) (by exact fun _ _ _ h=>h) (Or.inl ⟨by first | kernel_rfl | rfl,?hyR3x2⟩) (by exact hS) ?rsR3x2
    case hyR3x2=>(intro uz hSw;(try dsimp only at hSw);go_simp;try with_reducible rfl)
    try simp only [Act.put,sA,sB,sC]
    change wpAnyH _ _ _ _ _ _ #[tt,tt,ff,ff,ff,ff,ff,ff,ff,ff,ff,ff,ff,ff,ff,ff,ff,ff] _ _
    refine wpAnyH_take (i:=2) (v:=?vR3x3) (by (try simp only [gA,gB,gC]);rfl) (by kernel_rfl) (by kernel_rfl) (by kernel_rfl) (by exact fun _ _ _ h=>h) (Or.inl ⟨by first | kernel_rfl | rfl,?hyR3x3⟩) (by exact hS) ?rsR3x3
    case hyR3x3=>(intro uz hSw;(try dsimp only at hSw);go_simp;try with_reducible rfl)
    try simp only [Act.put,sA,sB,sC]
    change wpAnyH _ _ _ _ _ _ #[tt,tt,tt,ff,ff,ff,ff,ff,ff,ff,ff,ff,ff,ff,ff,ff,ff,ff] _ _
    refine wpAnyH_take (i:=3) (v:=?vR3x4) (by (try simp only [gA,gB,gC]);rfl) (by kernel_rfl) (by kernel_rfl) (by kernel_rfl) (by exact fun _ _ _ h=>h) (Or.inl ⟨by first | kernel_rfl | rfl,?hyR3x4⟩) (by exact hS) ?rsR3x4
    case hyR3x4=>(intro uz hSw;(try dsimp only at hSw);have q:=(HDZ.out.q hSw).cell 3 rfl;go_simp;try with_reducible rfl)
    try simp only [Act.put,sA,sB,sC]
    change wpAnyH _ _ _ _ _ _ #[tt,tt,tt,tt,ff,ff,ff,ff,ff,ff,ff,ff,ff,ff,ff,ff,ff,ff] _ _
    refine wpAnyH_take (i:=4) (v:=?vR3x5) (by (try simp only [gA,gB,gC]);rfl) (by kernel_rfl) (by kernel_rfl) (by kernel_rfl) (by exact fun _ _ _ h=>h) (Or.inl ⟨by first | kernel_rfl | rfl,?hyR3x5⟩) (by exact hS) ?rsR3x5
    case hyR3x5=>(intro uz hSw;(try dsimp only at hSw);go_simp;try with_reducible rfl)
    try simp only [Act.put,sA,sB,sC]
    change wpAnyH _ _ _ _ _ _ #[tt,tt,tt,tt,tt,ff,ff,ff,ff,ff,ff,ff,ff,ff,ff,ff,ff,ff] _ _
    refine wpAnyH_take (i:=5) (v:=?vR3x6) (by (try simp only [gA,gB,gC]);rfl) (by kernel_rfl) (by kernel_rfl) (by kernel_rfl) (by exact fun _ _ _ h=>h) (Or.inl ⟨by first | kernel_rfl | rfl,?hyR3x6⟩) (by exact hS) ?rsR3x6
    case hyR3x6=>(intro uz hSw;(try dsimp only at hSw);go_simp;try with_reducible rfl)
    try simp only [Act.put,sA,sB,sC]
    change wpAnyH _ _ _ _ _ _ #[tt,tt,tt,tt,tt,tt,ff,ff,ff,ff,ff,ff,ff,ff,ff,ff,ff,ff] _ _
    refine wpAnyH_take (i:=6) (v:=?vR3x7) (by (try simp only [gA,gB,gC]);rfl) (by kernel_rfl) (by kernel_rfl) (by kernel_rfl) (by exact fun _ _ _ h=>h) (Or.inl ⟨by first | kernel_rfl | rfl,?hyR3x7⟩) (by exact hS) ?rsR3x7
    case hyR3x7=>(intro uz hSw;(try dsimp only at hSw);have q:=HCX.out _ hSw;go_simp;try with_reducible rfl)
    try simp only [Act.put,sA,sB,sC]
    change wpAnyH _ _ _ _ _ _ #[tt,tt,tt,tt,tt,tt,tt,ff,ff,ff,ff,ff,ff,ff,ff,ff,ff,ff] _ _
    refine wpAnyH_take (i:=8) (v:=?vR3x8) (by (try simp only [gA,gB,gC]);rfl) (by kernel_rfl) (by kernel_rfl) (by kernel_rfl) (by exact fun _ _ _ h=>h) (Or.inl ⟨by first | kernel_rfl | rfl,?hyR3x8⟩) (by exact hS) ?rsR3x8
    case hyR3x8=>(intro uz hSw;(try dsimp only at hSw);go_simp;try with_reducible rfl)
    try simp only [Act.put,sA,sB,sC]
    change wpAnyH _ _ _ _ _ _ #[tt,tt,tt,tt,tt,tt,tt,ff,tt,ff,ff,ff,ff,ff,ff,ff,ff,ff] _ _
    refine wpAnyH_take (i:=9) (v:=?vR3x9) (by (try simp only [gA,gB,gC]);rfl) (by kernel_rfl) (by kernel_rfl) (by kernel_rfl) (by exact fun _ _ _ h=>h) (Or.inl ⟨by first | kernel_rfl | rfl,?hyR3x9⟩) (by exact hS) ?rsR3x9
    case hyR3x9=>(intro uz hSw;(try dsimp only at hSw);have q:=(HDZ.out.q hSw).cell 1 rfl;go_simp;try with_reducible rfl)
    try simp only [Act.put,sA,sB,sC]
    change wpAnyH _ _ _ _ _ _ #[tt,tt,tt,tt,tt,tt,tt,ff,tt,tt,ff,ff,ff,ff,ff,ff,ff,ff] _ _
    refine wpAnyH_take (i:=10) (v:=?vR3x10) (by (try simp only [gA,gB,gC]);rfl) (by kernel_rfl) (by kernel_rfl) (by kernel_rfl) (by exact fun _ _ _ h=>h) (Or.inl ⟨by first | kernel_rfl | rfl,?hyR3x10⟩) (by exact hS) ?rsR3x10
    case hyR3x10=>(intro uz hSw;(try dsimp only at hSw);go_simp;try with_reducible rfl)
    try simp only [Act.put,sA,sB,sC]
    change wpAnyH _ _ _ _ _ _ #[tt,tt,tt,tt,tt,tt,tt,ff,tt,tt,tt,ff,ff,ff,ff,ff,ff,ff] _ _
    refine wpAnyH_take (i:=11) (v:=?vR3x11) (by (try simp only [gA,gB,gC]);rfl) (by kernel_rfl) (by kernel_rfl) (by kernel_rfl) (by exact fun _ _ _ h=>h) (Or.inl ⟨by first | kernel_rfl | rfl,?hyR3x11⟩) (by exact hS) ?rsR3x11
    case hyR3x11=>(intro uz hSw;(try dsimp only at hSw);go_simp;try with_reducible rfl)
    try simp only [Act.put,sA,sB,sC]
    change wpAnyH _ _ _ _ _ _ #[tt,tt,tt,tt,tt,tt,tt,ff,tt,tt,tt,tt,ff,ff,ff,ff,ff,ff] _ _
    refine wpAnyH_take (i:=12) (v:=?vR3x12) (by (try simp only [gA,gB,gC]);rfl) (by kernel_rfl) (by kernel_rfl) (by kernel_rfl) (by exact fun _ _ _ h=>h) (Or.inl ⟨by first | kernel_rfl | rfl,?hyR3x12⟩) (by exact hS) ?rsR3x12
    case hyR3x12=>(intro uz hSw;(try dsimp only at hSw);go_simp;try with_reducible rfl)
    try simp only [Act.put,sA,sB,sC]
    change wpAnyH _ _ _ _ _ _ #[tt,tt,tt,tt,tt,tt,tt,ff,tt,tt,tt,tt,tt,ff,ff,ff,ff,ff] _ _
    refine wpAnyH_take (i:=13) (v:=?vR3x13) (by (try simp only [gA,gB,gC]);rfl) (by kernel_rfl) (by kernel_rfl) (by kernel_rfl) (by exact fun _ _ _ h=>h) (Or.inl ⟨by first | kernel_rfl | rfl,?hyR3x13⟩) (by exact hS) ?rsR3x13
    case hyR3x13=>(intro uz hSw;(try dsimp only at hSw);go_simp;try with_reducible rfl)
    try simp only [Act.put,sA,sB,sC]
    change wpAnyH _ _ _ _ _ _ #[tt,tt,tt,tt,tt,tt,tt,ff,tt,tt,tt,tt,tt,tt,ff,ff,ff,ff] _ _
    refine wpAnyH_ready (rs:=[7]) (by kernel_rfl) (by simp) ?_
    refine (AllReadyH.cons (by (try simp only [gA,gB,gC]);rfl) (fun K hK=>?_) AllReadyH.nil)
    go_simp
    refine (HDX2.out _ (HQZ.out.trans hS)).mono ?_
    rintro e yR3x14 ⟨rfl,hq⟩
    try (go_wp2_with fail)
    have OWN:=Lib.hid (OWN.out.q hq)
    have hS2:=Q.trans hS hq
    refine hK.out _ _ (by exact hS2) (fun hHeld=>?_)
    clear hK K hHeld hS hq
    have hS:=hS2
    clear hS2
    try simp only [Act.put,sA,sB,sC]
    change wpAnyH _ _ _ _ _ _ #[tt,tt,tt,tt,tt,tt,tt,tt,tt,tt,tt,tt,tt,tt,ff,ff,ff,ff] _ _
    refine wpAnyH_take (i:=14) (v:=?vR3x15) (by (try simp only [gA,gB,gC]);rfl) (by kernel_rfl) (by kernel_rfl) (by kernel_rfl) (by exact fun _ _ _ h=>h) (Or.inl ⟨by first | kernel_rfl | rfl,?hyR3x15⟩) (by exact hS) ?rsR3x15
    case hyR3x15=>(intro uz hSw;(try dsimp only at hSw);go_simp;try with_reducible rfl)
    try simp only [Act.put,sA,sB,sC]
    change wpAnyH _ _ _ _ _ _ #[tt,tt,tt,tt,tt,tt,tt,tt,tt,tt,tt,tt,tt,tt,tt,ff,ff,ff] _ _
    refine wpAnyH_ready (rs:=[15]) (by kernel_rfl) (by simp) ?_
    refine (AllReadyH.cons (by (try simp only [gA,gB,gC]);rfl) (fun K hK=>?_) AllReadyH.nil)
    go_simp
    have hq:=(Q.refl yR3x14).alloc (.cells #[.int .i64 2,.string D,.int .i64 ((m1:Int) + ((k:Int) + 1))] 121)
    have HBX:=Lib.hid (Bk.new yR3x14 121 [.int .i64 2,.string D,.int .i64 ((m1:Int) + ((k:Int) + 1))])
    have HW_bX:=Lib.hid (Q.le hS)
    have OWN:=Lib.hid (OWN.out.q hq)
    have hS2:=Q.trans hS hq
    refine hK.out _ _ (by exact hS2) (fun hHeld=>?_)
    clear hK K hHeld hS hq
    have hS:=hS2
    clear hS2
    generalize yR3x14.alloc (.cells #[.int .i64 2,.string D,.int .i64 ((m1:Int) + ((k:Int) + 1))] 121) = yR3x16 at *
    generalize yR3x14.heap.size = bX at *
    try simp only [Act.put,sA,sB,sC]
    change wpAnyH _ _ _ _ _ _ #[tt,tt,tt,tt,tt,tt,tt,tt,tt,tt,tt,tt,tt,tt,tt,tt,ff,ff] _ _
    refine wpAnyH_ready (rs:=[16]) (by kernel_rfl) (by simp) ?_
    refine (AllReadyH.cons (by (try simp only [gA,gB,gC]);rfl) (fun K hK=>?_) AllReadyH.nil)
    refine Im.pushR elP OWN.out (by rfl) _ _ (by rfl) 2 D ((m1:Int) + ((k:Int) + 1)) (by rfl) (by rfl) (HBX.out.cell 0 rfl) (HBX.out.cell 1 rfl) (HBX.out.cell 2 rfl) (by rw [HOL.out];omega) (Q.le hS) ?_
    intro v' yR3x17 ho hg hat
    have hS2:=Q.grown hS hg (fun j h=>(OWN.out.lt j h).1)
    have HO6:=Lib.hid ho
    clear ho hg hat
    refine hK.out _ _ (by exact hS2) (fun hHeld=>?_)
    clear hK K hHeld hS
    have hS:=hS2
    clear hS2
    try simp only [Act.put,sA,sB,sC]
    change wpAnyH _ _ _ _ _ _ #[tt,tt,tt,tt,tt,tt,tt,tt,tt,tt,tt,tt,tt,tt,tt,tt,tt,ff] _ _
    refine wpAnyH_take (i:=17) (v:=?vR3x18) (by (try simp only [gA,gB,gC]);rfl) (by kernel_rfl) (by kernel_rfl) (by kernel_rfl) (by exact fun _ _ _ h=>h) (Or.inl ⟨by first | kernel_rfl | rfl,?hyR3x18⟩) (by exact hS) ?rsR3x18
    case hyR3x18=>(intro uz hSw;(try dsimp only at hSw);go_simp;try with_reducible rfl)
    try simp only [Act.put,sA,sB,sC]
    change wpAnyH _ _ _ _ _ _ #[tt,tt,tt,tt,tt,tt,tt,tt,tt,tt,tt,tt,tt,tt,tt,tt,tt,tt] _ _
    refine wpAnyH_done (by kernel_rfl) ?_ _
    have HQ6:=Lib.hid hS
    clear hS
    have HO7:=Lib.hid (show OwnI 121 yR3x17 z.heap.size v' (RI (k + 1)) by rw [HWK.out];exact HO6.out)
    go_wp2_with fail
    exact ⟨⟨k + 1,by go_num,by omega,HO7.out,HQ6.out⟩,by simp [intOf];omega⟩
   ·obtain rfl:k = m2:=by omega
    have HO:=Lib.hid (ho.mono HQZ.out.le)
    have HQ:=Lib.hid (HQZ.out.trans hqr)
    clear ho hqr
    go_wp2_with fail
    go_ret
    exact ⟨_,rfl,HO.out,HQ.out⟩
set_option maxRecDepth 100000 in
set_option maxHeartbeats 3200000 in
theorem items_any (g0:Nat) (r:Lm.Rec) (X:Pt.Pat) (a b c d cl:Value) (g s:Bool) (e1 e2:Option Addr) (m1 m2 f1 f2:Nat) (I F:List Int) (w:World) (hO:Lm.Ok r X) (hB:LB w g0 r X a b c d cl) (hi:Lst w (.slice e1 m1 f1) I) (hf:Lst w (.slice e2 m2 f2) F) (k1:I.length = m1) (k2:F.length = m2) (l1:m1 ≤ 1000) (l2:m2 ≤ 1000) (hI:Dm.okD I) (hF:Dm.okD F) :
  Calls Tryz.prog 56 #[.pointer (some ⟨g0,0,none⟩),.agg #[.bool g,.slice e1 m1 f1,.bool s,.slice e2 m2 f2]] w fun e w'=>∃ x,e = .returned x ∧ OwnI 121 w' w.heap.size x (itm r X.pr X.se ⟨g,I,s,F⟩ (parP r (Ro.ahd g X)) (parP r (Ro.bhd g X))) ∧ Q w w':=by
 have hic:=hi.form0 k1
 obtain ⟨_,_,hv,hnc,hcm⟩:=hic
 cases hv
 have hfc:=hf.form0 k2
 obtain ⟨_,_,hv,hnf,hfm⟩:=hfc
 cases hv
 have hpf:=Ro.around_fact hO g
 have HAR:=Lib.hid (fun u (q:Q w u)=>Ro.around_any g g0 r X a b c d cl u hO (hB.q q))
 have HAF:=Lib.hid (fun v l u (q:Q w u) (hv:Pb.LstP u v l) (hl:l.length ≤ 100000)=>affixes_any g0 r X a b c d cl v l u (hB.q q) hv hl)
 have HWH:=Lib.hid (fun u (q:Q w u)=>whole_any g0 r X a b c d cl g s e1 e2 m1 m2 f1 f2 I F u (hB.q q) (hi.q q) k1 l1 hI hfm hnf)
 have HRE:=Lib.hid (fun u (q:Q w u)=>rest_any g0 r X a b c d cl g s e1 e2 m1 m2 f1 f2 I F u (hB.q q) (hi.q q) (hf.q q) k1 k2 l1 l2 hF)
 have HP1:=Lib.hid hpf.2.2.1
 have HP2:=Lib.hid hpf.2.2.2
 have hw1:=whI_len r X.pr X.se I I.length
 have hw3:=resI_len r ⟨g,I,s,F⟩
 dsimp only at hw3
 rw [k2] at hw3
 rw [k1] at hw1
 have HIT:=Lib.hid (show itm r X.pr X.se ⟨g,I,s,F⟩ (parP r (Ro.ahd g X)) (parP r (Ro.bhd g X)) = affI r (parP r (Ro.ahd g X)) ++ whI r X.pr X.se I I.length ++ resI r ⟨g,I,s,F⟩ ++ affI r (parP r (Ro.bhd g X)) from rfl)
 rw [HIT.out]
 rw [k1] at HWH ⊢
 clear HIT hpf hB hi hf hO hI hF k1 k2
 unfold maxLen at hcm hfm
 generalize parP r (Ro.ahd g X) = P1 at *
 generalize parP r (Ro.bhd g X) = P2 at *
 have hq1:=affI_len r P1
 have hq2:=affI_len r P2
 generalize whI r X.pr X.se I m1 = A2 at *
 generalize resI r ⟨g,I,s,F⟩ = A3 at *
 obtain ⟨A1,hA1⟩:∃ y,y = affI r P1:=⟨_,rfl⟩
 obtain ⟨A4,hA4⟩:∃ y,y = affI r P2:=⟨_,rfl⟩
 rw [← hA1] at hq1
 rw [← hA4] at hq2
 rw [← hA1,← hA4]
 have HA1:=Lib.hid hA1.symm
 have HA4:=Lib.hid hA4.symm
 obtain ⟨n1,hn1⟩:∃ n,n = A1.length:=⟨_,rfl⟩
 obtain ⟨n2,hn2⟩:∃ n,n = A2.length:=⟨_,rfl⟩
 obtain ⟨n3,hn3⟩:∃ n,n = A3.length:=⟨_,rfl⟩
 obtain ⟨n4,hn4⟩:∃ n,n = A4.length:=⟨_,rfl⟩
 have hp1:=HP1.out
 have hp2:=HP2.out
 have HL1:=Lib.hid hn1.symm
 have HL2:=Lib.hid hn2.symm
 have HL3:=Lib.hid hn3.symm
 have HL4:=Lib.hid hn4.symm
 have hb1:n1 ≤ 3:=by omega
 have hb2:n2 ≤ 2000:=by omega
 have hb3:n3 ≤ 1001:=by omega
 have hb4:n4 ≤ 3:=by omega
 clear hA1 hA4 hn1 hn2 hn3 hn4 hq1 hq2 hw1 hw3 hp1 hp2
 obtain ⟨z,hz⟩:∃ z,z = w.alloc (.cells #[.bool g,.slice e1 m1 f1,.bool s,.slice e2 m2 f2] 70):=⟨_,rfl⟩
 have HQZ:=Lib.hid (show Q w z by rw [hz];exact (Q.refl w).alloc _)
 have HDZ:=Lib.hid (show Bk z w.heap.size 70 [.bool g,.slice e1 m1 f1,.bool s,.slice e2 m2 f2] by rw [hz];exact Bk.new _ _ _)
 go_enter Tryz.func56,Tryz.ntmps56
 go_upto_region 1 with fail
 rw [← hz]
 clear hz
 obtain ⟨bd,hbd⟩:∃ b,b = w.heap.size:=⟨_,rfl⟩
 rw [← hbd] at HDZ ⊢
 clear hbd
 have y0:=HDZ.out.cell 0 rfl
 go_wp2_with fail
 refine (HAR.out _ HQZ.out).mono ?_
 rintro e w1 ⟨q1,q2,rfl,hu1,hu2,hq1⟩
 have HX1:=Lib.hid (show ∀ u,Q w1 u → Calls Tryz.prog 109 #[.pointer (some ⟨g0,0,none⟩),q1] u fun e w'=>∃ x,e = .returned x ∧ OwnI 121 w' u.heap.size x A1 ∧ Q u w' from fun u q=>by
  have h:=HAF.out q1 P1 u (HQZ.out.trans (hq1.trans q)) (hu1.q q) (by have:=HP1.out;omega)
  rwa [HA1.out] at h)
 have HX2:=Lib.hid (show ∀ u,Q w1 u → Calls Tryz.prog 109 #[.pointer (some ⟨g0,0,none⟩),q2] u fun e w'=>∃ x,e = .returned x ∧ OwnI 121 w' u.heap.size x A4 ∧ Q u w' from fun u q=>by
  have h:=HAF.out q2 P2 u (HQZ.out.trans (hq1.trans q)) (hu2.q q) (by have:=HP2.out;omega)
  rwa [HA4.out] at h)
 obtain ⟨qa,qc,rfl,_,_⟩:=hu1.shape2
 obtain ⟨qb,qd,rfl,_,_⟩:=hu2.shape2
 have HQ1:=Lib.hid (HQZ.out.trans hq1)
 have HD1:=Lib.hid (HDZ.out.q hq1)
 clear hu1 hu2 hq1 y0
 go_upto_region 2 with fail
 refine wp_region_held_drew (S:=fun u=>Q w1 u) (by kernel_rfl) (by exact (Q.refl w1).drew) (fun hHeld=>?_)
 have hS:Q w1 w1.drew:=hHeld
 clear hHeld
 have hq:Q w1 w1.drew:=(Q.refl _).drew
 clear hq
 generalize w1.drew = yR4x0 at *
 change wpAnyH _ _ _ _ _ _ #[ff,ff,ff,ff,ff,ff,ff,ff,ff,ff,ff,ff,ff,ff,ff] _ _
 refine wpAnyH_take (i:=0) (v:=?vR4x1) (by (try simp only [gA,gB,gC]);rfl) (by kernel_rfl) (by kernel_rfl) (by kernel_rfl) (by exact fun _ _ _ h=>h) (Or.inl ⟨by first | kernel_rfl | rfl,?hyR4x1⟩) (by exact hS) ?rsR4x1
 case hyR4x1=>(intro uz hSw;(try dsimp only at hSw);go_simp;try with_reducible rfl)
 try simp only [Act.put,sA,sB,sC]
 change wpAnyH _ _ _ _ _ _ #[tt,ff,ff,ff,ff,ff,ff,ff,ff,ff,ff,ff,ff,ff,ff] _ _
 refine wpAnyH_take (i:=1) (v:=?vR4x2) (by (try simp only [gA,gB,gC]);rfl) (by kernel_rfl) (by kernel_rfl) (by kernel_rfl) (by exact fun _ _ _ h=>h) (Or.inl ⟨by first | kernel_rfl | rfl,?hyR4x2⟩) (by exact hS) ?rsR4x2
 case hyR4x2=>(intro uz hSw;(try dsimp only at hSw);go_simp;try with_reducible rfl)
 try simp only [Act.put,sA,sB,sC]
 change wpAnyH _ _ _ _ _ _ #[tt,tt,ff,ff,ff,ff,ff,ff,ff,ff,ff,ff,ff,ff,ff] _ _
 refine wpAnyH_take (i:=3) (v:=?vR4x3) (by (try simp only [gA,gB,gC]);rfl) (by kernel_rfl) (by kernel_rfl) (by kernel_rfl) (by exact fun _ _ _ h=>h) (Or.inl ⟨by first | kernel_rfl | rfl,?hyR4x3⟩) (by exact hS) ?rsR4x3
 case hyR4x3=>(intro uz hSw;(try dsimp only at hSw);go_simp;try with_reducible rfl)
 try simp only [Act.put,sA,sB,sC]
 change wpAnyH _ _ _ _ _ _ #[tt,tt,ff,tt,ff,ff,ff,ff,ff,ff,ff,ff,ff,ff,ff] _ _
 refine wpAnyH_take (i:=4) (v:=?vR4x4) (by (try simp only [gA,gB,gC]);rfl) (by kernel_rfl) (by kernel_rfl) (by kernel_rfl) (by exact fun _ _ _ h=>h) (Or.inl ⟨by first | kernel_rfl | rfl,?hyR4x4⟩) (by exact hS) ?rsR4x4
 case hyR4x4=>(intro uz hSw;(try dsimp only at hSw);have kb:=HD1.out.q hSw;have k0:=kb.cell 0 rfl;have k1:=kb.cell 1 rfl;have k2:=kb.cell 2 rfl;have k3:=kb.cell 3 rfl;clear kb;go_simp;try with_reducible rfl)
 try simp only [Act.put,sA,sB,sC]
 change wpAnyH _ _ _ _ _ _ #[tt,tt,ff,tt,tt,ff,ff,ff,ff,ff,ff,ff,ff,ff,ff] _ _
 refine wpAnyH_take (i:=6) (v:=?vR4x5) (by (try simp only [gA,gB,gC]);rfl) (by kernel_rfl) (by kernel_rfl) (by kernel_rfl) (by exact fun _ _ _ h=>h) (Or.inl ⟨by first | kernel_rfl | rfl,?hyR4x5⟩) (by exact hS) ?rsR4x5
 case hyR4x5=>(intro uz hSw;(try dsimp only at hSw);go_simp;try with_reducible rfl)
 try simp only [Act.put,sA,sB,sC]
 change wpAnyH _ _ _ _ _ _ #[tt,tt,ff,tt,tt,ff,tt,ff,ff,ff,ff,ff,ff,ff,ff] _ _
 refine wpAnyH_take (i:=7) (v:=?vR4x6) (by (try simp only [gA,gB,gC]);rfl) (by kernel_rfl) (by kernel_rfl) (by kernel_rfl) (by exact fun _ _ _ h=>h) (Or.inl ⟨by first | kernel_rfl | rfl,?hyR4x6⟩) (by exact hS) ?rsR4x6
 case hyR4x6=>(intro uz hSw;(try dsimp only at hSw);have kb:=HD1.out.q hSw;have k0:=kb.cell 0 rfl;have k1:=kb.cell 1 rfl;have k2:=kb.cell 2 rfl;have k3:=kb.cell 3 rfl;clear kb;go_simp;try with_reducible rfl)
 try simp only [Act.put,sA,sB,sC]
 change wpAnyH _ _ _ _ _ _ #[tt,tt,ff,tt,tt,ff,tt,tt,ff,ff,ff,ff,ff,ff,ff] _ _
 refine wpAnyH_take (i:=9) (v:=?vR4x7) (by (try simp only [gA,gB,gC]);rfl) (by kernel_rfl) (by kernel_rfl) (by kernel_rfl) (by exact fun _ _ _ h=>h) (Or.inl ⟨by first | kernel_rfl | rfl,?hyR4x7⟩) (by exact hS) ?rsR4x7
 case hyR4x7=>(intro uz hSw;(try dsimp only at hSw);go_simp;try with_reducible rfl)
 try simp only [Act.put,sA,sB,sC]
 change wpAnyH _ _ _ _ _ _ #[tt,tt,ff,tt,tt,ff,tt,tt,ff,tt,ff,ff,ff,ff,ff] _ _
 refine wpAnyH_take (i:=10) (v:=?vR4x8) (by (try simp only [gA,gB,gC]);rfl) (by kernel_rfl) (by kernel_rfl) (by kernel_rfl) (by exact fun _ _ _ h=>h) (Or.inl ⟨by first | kernel_rfl | rfl,?hyR4x8⟩) (by exact hS) ?rsR4x8
 case hyR4x8=>(intro uz hSw;(try dsimp only at hSw);go_simp;try with_reducible rfl)
 try simp only [Act.put,sA,sB,sC]
 change wpAnyH _ _ _ _ _ _ #[tt,tt,ff,tt,tt,ff,tt,tt,ff,tt,tt,ff,ff,ff,ff] _ _
 refine wpAnyH_ready (rs:=[2]) (by kernel_rfl) (by simp) ?_
 refine (AllReadyH.cons (by (try simp only [gA,gB,gC]);rfl) (fun K hK=>?_) AllReadyH.nil)
 go_simp
 refine (HX1.out _ hS).mono ?_
 rintro e yR4x9 ⟨x1,rfl,ho1,hq⟩
 obtain ⟨xa1,xc1,rfl,_,_⟩:=ho1.lst.form0 HL1.out
 have HO1:=Lib.hid ho1.lst
 clear ho1
 try (go_wp2_with fail)
 have hS2:=Q.trans hS hq
 refine hK.out _ _ (by exact hS2) (fun hHeld=>?_)
 clear hK K hHeld hS hq
 have hS:=hS2
 clear hS2
 try simp only [Act.put,sA,sB,sC]
 change wpAnyH _ _ _ _ _ _ #[tt,tt,tt,tt,tt,ff,tt,tt,ff,tt,tt,ff,ff,ff,ff] _ _
 refine wpAnyH_ready (rs:=[5]) (by kernel_rfl) (by simp) ?_
 refine (AllReadyH.cons (by (try simp only [gA,gB,gC]);rfl) (fun K hK=>?_) AllReadyH.nil)
 go_simp
 refine (HWH.out _ (HQ1.out.trans hS)).mono ?_
 rintro e yR4x10 ⟨x2,rfl,ho2,hq⟩
 obtain ⟨xa2,xc2,rfl,_,_⟩:=ho2.lst.form0 HL2.out
 have HO2:=Lib.hid ho2.lst
 clear ho2
 try (go_wp2_with fail)
 have HO1:=Lib.hid (HO1.out.q hq)
 have hS2:=Q.trans hS hq
 refine hK.out _ _ (by exact hS2) (fun hHeld=>?_)
 clear hK K hHeld hS hq
 have hS:=hS2
 clear hS2
 try simp only [Act.put,sA,sB,sC]
 change wpAnyH _ _ _ _ _ _ #[tt,tt,tt,tt,tt,tt,tt,tt,ff,tt,tt,ff,ff,ff,ff] _ _
 refine wpAnyH_ready (rs:=[8]) (by kernel_rfl) (by simp) ?_
 refine (AllReadyH.cons (by (try simp only [gA,gB,gC]);rfl) (fun K hK=>?_) AllReadyH.nil)
 go_simp
 refine (HRE.out _ (HQ1.out.trans hS)).mono ?_
 rintro e yR4x11 ⟨x3,rfl,ho3,hq⟩
 obtain ⟨xa3,xc3,rfl,_,_⟩:=ho3.lst.form0 HL3.out
 have HO3:=Lib.hid ho3.lst
 clear ho3
 try (go_wp2_with fail)
 have HO1:=Lib.hid (HO1.out.q hq)
 have HO2:=Lib.hid (HO2.out.q hq)
 have hS2:=Q.trans hS hq
 refine hK.out _ _ (by exact hS2) (fun hHeld=>?_)
 clear hK K hHeld hS hq
 have hS:=hS2
 clear hS2
 try simp only [Act.put,sA,sB,sC]
 change wpAnyH _ _ _ _ _ _ #[tt,tt,tt,tt,tt,tt,tt,tt,tt,tt,tt,ff,ff,ff,ff] _ _
 refine wpAnyH_ready (rs:=[11]) (by kernel_rfl) (by simp) ?_
 refine (AllReadyH.cons (by (try simp only [gA,gB,gC]);rfl) (fun K hK=>?_) AllReadyH.nil)
 go_simp
 refine (HX2.out _ hS).mono ?_
 rintro e yR4x12 ⟨x4,rfl,ho4,hq⟩
 obtain ⟨xa4,xc4,rfl,_,_⟩:=ho4.lst.form0 HL4.out
 have HO4:=Lib.hid ho4.lst
 clear ho4
 try (go_wp2_with fail)
 have HO1:=Lib.hid (HO1.out.q hq)
 have HO2:=Lib.hid (HO2.out.q hq)
 have HO3:=Lib.hid (HO3.out.q hq)
 have hS2:=Q.trans hS hq
 refine hK.out _ _ (by exact hS2) (fun hHeld=>?_)
 clear hK K hHeld hS hq
 have hS:=hS2
 clear hS2
 try simp only [Act.put,sA,sB,sC]
 change wpAnyH _ _ _ _ _ _ #[tt,tt,tt,tt,tt,tt,tt,tt,tt,tt,tt,tt,ff,ff,ff] _ _
 refine wpAnyH_ready (rs:=[12]) (by kernel_rfl) (by simp) ?_
 refine (AllReadyH.cons (by (try simp only [gA,gB,gC]);rfl) (fun K hK=>?_) AllReadyH.nil)
 go_simp
 have hq:=(Q.refl yR4x12).alloc (.cells #[.slice xa1 n1 xc1,.slice xa2 n2 xc2,.slice xa3 n3 xc3,.slice xa4 n4 xc4] 113)
 have HBQ:=Lib.hid (Bk.new yR4x12 113 [.slice xa1 n1 xc1,.slice xa2 n2 xc2,.slice xa3 n3 xc3,.slice xa4 n4 xc4])
 have HW_bQ:=Lib.hid (Q.le hS)
 have HO1:=Lib.hid (HO1.out.q hq)
 have HO2:=Lib.hid (HO2.out.q hq)
 have HO3:=Lib.hid (HO3.out.q hq)
 have HO4:=Lib.hid (HO4.out.q hq)
 have hS2:=Q.trans hS hq
 refine hK.out _ _ (by exact hS2) (fun hHeld=>?_)
 clear hK K hHeld hS hq
 have hS:=hS2
 clear hS2
 generalize yR4x12.alloc (.cells #[.slice xa1 n1 xc1,.slice xa2 n2 xc2,.slice xa3 n3 xc3,.slice xa4 n4 xc4] 113) = yR4x13 at *
 generalize yR4x12.heap.size = bQ at *
 try simp only [Act.put,sA,sB,sC]
 change wpAnyH _ _ _ _ _ _ #[tt,tt,tt,tt,tt,tt,tt,tt,tt,tt,tt,tt,tt,ff,ff] _ _
 refine wpAnyH_ready (rs:=[13]) (by kernel_rfl) (by simp) ?_
 refine (AllReadyH.cons (by (try simp only [gA,gB,gC]);rfl) (fun K hK=>?_) AllReadyH.nil)
 go_simp
 refine (concat4 _ bQ _ _ _ _ _ _ _ _ HBQ.out HO1.out HO2.out HO3.out HO4.out (by rw [HL1.out];omega) (by rw [HL2.out];omega) (by rw [HL3.out];omega) (by rw [HL4.out];omega)).mono ?_
 rintro e yR4x14 ⟨x5,rfl,ho5,hq⟩
 have HO5:=Lib.hid (ho5.mono (Nat.le_trans HQ1.out.le (Q.le hS)))
 clear ho5
 try (go_wp2_with fail)
 have HO1:=Lib.hid (HO1.out.q hq)
 have HO2:=Lib.hid (HO2.out.q hq)
 have HO3:=Lib.hid (HO3.out.q hq)
 have HO4:=Lib.hid (HO4.out.q hq)
 have HBQ:=Lib.hid (Bk.q HBQ.out hq)
 have hS2:=Q.trans hS hq
 refine hK.out _ _ (by exact hS2) (fun hHeld=>?_)
 clear hK K hHeld hS hq
 have hS:=hS2
 clear hS2
 try simp only [Act.put,sA,sB,sC]
 change wpAnyH _ _ _ _ _ _ #[tt,tt,tt,tt,tt,tt,tt,tt,tt,tt,tt,tt,tt,tt,ff] _ _
 refine wpAnyH_take (i:=14) (v:=?vR4x15) (by (try simp only [gA,gB,gC]);rfl) (by kernel_rfl) (by kernel_rfl) (by kernel_rfl) (by exact fun _ _ _ h=>h) (Or.inl ⟨by first | kernel_rfl | rfl,?hyR4x15⟩) (by exact hS) ?rsR4x15
 case hyR4x15=>(intro uz hSw;(try dsimp only at hSw);go_simp;try with_reducible rfl)
 try simp only [Act.put,sA,sB,sC]
 change wpAnyH _ _ _ _ _ _ #[tt,tt,tt,tt,tt,tt,tt,tt,tt,tt,tt,tt,tt,tt,tt] _ _
 refine wpAnyH_done (by kernel_rfl) ?_ _
 have HQ6:=Lib.hid (HQ1.out.trans hS)
 clear hS
 go_wp2_with fail
 go_ret
 exact ⟨_,rfl,HO5.out,HQ6.out⟩
end It
end Go.Proofs.YtghfdapfnoeanaaGreatDoor
namespace Go.Proofs.YtghfdapfnoeanaaGreatDoor
namespace Vm
open Um Im
def ns (f:Nat → Nat) (n:Nat):List Int:=(List.range n).map fun i=>((f i:Nat):Int)
theorem ns_len (f:Nat → Nat) (n:Nat):(ns f n).length = n:=by unfold ns;simp
theorem ns_zero (f:Nat → Nat):ns f 0 = []:=rfl
theorem ns_succ (f:Nat → Nat) (n:Nat):ns f (n + 1) = ns f n ++ [((f n:Nat):Int)]:=by
 unfold ns
 rw [List.range_succ,List.map_append]
 rfl
theorem ns_at (f:Nat → Nat) {n i:Nat} (h:i < n):(ns f n).getD i 0 = ((f i:Nat):Int):=by
 unfold ns
 rw [List.getD_eq_getElem?_getD,List.getElem?_map,List.getElem?_range h]
 rfl
theorem ns_pair {f:Nat → Nat} (n:Nat) (h:∀ i j,i < j → j < n → f i ≤ f j):(ns f n).Pairwise (· ≤ ·):=by
 unfold ns
 rw [List.pairwise_map]
 refine List.Pairwise.imp_of_mem (R:=(· < ·)) (fun {a b} ha hb hab=>?_) List.pairwise_lt_range
 have:=h a b hab (List.mem_range.1 hb)
 omega
theorem cnt_thr {p:Nat → Bool} {i:Nat} (h1:∀ j,j < i → p j = true):∀ n,(∀ j,i ≤ j → j < n → p j = false) → i ≤ n → (List.range n).countP p = i
 | 0,_,h=>by simp;omega
 | n + 1,h2,h=>by
  by_cases he:i = n + 1
  ·have:(List.range (n + 1)).countP p = (List.range (n + 1)).length:=List.countP_eq_length.2 (fun a ha=>h1 a (by rw [he];exact List.mem_range.1 ha))
   rw [this,List.length_range,he]
  ·rw [List.range_succ,List.countP_append,cnt_thr h1 n (fun j h3 h4=>h2 j h3 (by omega)) (by omega)]
   simp [h2 n (by omega) (by omega)]
theorem at_byte (l:List E) {o:Nat}:∀ n,n ≤ l.length → o < off l n → ∃ i,i < n ∧ off l i ≤ o ∧ o < off l (i + 1)
 | 0,_,h=>by rw [off_zero] at h;omega
 | n + 1,hn,h=>by
  by_cases h1:o < off l n
  ·obtain ⟨i,hi,h2,h3⟩:=at_byte l n (by omega) h1
   exact ⟨i,by omega,h2,h3⟩
  ·exact ⟨n,by omega,by omega,h⟩
def en (l:List E) (n:Nat):List Int:=ns (fun i=>off l (i + 1)) n
theorem en_len (l:List E) (n:Nat):(en l n).length = n:=ns_len _ _
theorem en_pair (l:List E):(en l l.length).Pairwise (· ≤ ·):=ns_pair _ fun i j hij hj=>off_le l (by omega) (by omega)
theorem tag_find (l:List E) {o:Int} (h0:0 ≤ o) (h1:o < ((txI l).length:Int)) :
  (en l l.length).countP (fun x=>decide (x < o + 1)) < l.length ∧ (l.getD ((en l l.length).countP fun x=>decide (x < o + 1)) e0).1 = tag l o l.length:=by
 obtain ⟨i,hi,h2,h3⟩:=at_byte l (o:=o.toNat) l.length (Nat.le_refl _) (by rw [off_all];omega)
 have hc:(en l l.length).countP (fun x=>decide (x < o + 1)) = i:=by
  unfold en ns
  rw [List.countP_map]
  refine cnt_thr (fun j hj=>?_) _ (fun j hj hl=>?_) (by omega)
  ·have:=off_le l (show j + 1 ≤ i by omega) (by omega)
   simp
   omega
  ·have:=off_le l (show i + 1 ≤ j + 1 by omega) (by omega)
   simp
   omega
 rw [hc]
 exact ⟨hi,(tag_at i hi (by omega) (by omega) _ (by omega) (Nat.le_refl _)).symm⟩
theorem Rw.atom {l:List E} {f:Nat → E} {N:Nat} (h:Rw l f N) {i:Nat} (hi:i < l.length):(0 ≤ (l.getD i e0).2.2) ↔ atB (l.getD i e0) = true:=by
 cases hq:atB (l.getD i e0)
 ·rw [h.no _ (mem_at l i hi) hq];simp
 ·have h1:=(row_at h.fl h.at' h.no i hi hq).2
  rw [h1,h.at']
  simp
theorem Rw.stop {l:List E} {f:Nat → E} {N:Nat} (h:Rw l f N) (a0:Nat) {i:Nat} (hi:i < l.length) (hq:atB (l.getD i e0) = true):stp l a0 ((l.take i).countP atB + 1) = off l (i + 1):=by
 rw [stp_succ,h.ix_at hi hq]
theorem near_lt {s:Nat → Int} {o:Int}:∀ n,0 < n → near s o n < n
 | n + 1,_=>by
  rw [near_succ]
  split
  ·omega
  ·by_cases h:0 < n
   ·have:=near_lt (s:=s) (o:=o) n h;omega
   ·rw [show n = 0 from by omega,near_zero];omega
theorem near_ok {s:Nat → Int} {o:Int}:∀ n,near s o n = 0 ∨ s (near s o n) ≤ o
 | 0=>.inl rfl
 | n + 1=>by
  rw [near_succ]
  split
  ·next h=>exact .inr h
  ·exact near_ok n
theorem near_up {s:Nat → Int} {o:Int}:∀ n j,near s o n < j → j < n → o < s j
 | 0,j,_,h=>by omega
 | n + 1,j,h,hj=>by
  rw [near_succ] at h
  split at h
  ·omega
  ·by_cases he:j = n
   ·subst he;omega
   ·exact near_up n j h (by omega)
theorem near_left {s:Nat → Int} {o:Int} {N k:Nat} (hk:k ≤ N) (h:s k ≤ o):k ≤ near s o (N + 1):=by
 by_cases hh:near s o (N + 1) < k
 ·have:=near_up (N + 1) k hh (by omega);omega
 ·omega
theorem near_right {s:Nat → Int} {o:Int} {N k:Nat} (hs:∀ i j,i < j → j ≤ N → s i < s j) (h1:1 ≤ k) (hk:k ≤ N) (h:o < s k):near s o (N + 1) ≤ k - 1:=by
 by_cases hh:k ≤ near s o (N + 1)
 ·have hl:=near_lt (s:=s) (o:=o) (N + 1) (by omega)
  rcases near_ok (s:=s) (o:=o) (N + 1) with h2 | h2
  ·omega
  ·by_cases he:near s o (N + 1) = k
   ·rw [he] at h2;omega
   ·have:=hs k _ (show k < near s o (N + 1) by omega) (by omega);omega
 ·omega
def wd (r:Lm.Rec) (p:Pb.E):Nat:=p.2.length + if p.1 = true then r.min.length else 0
def wds (r:Lm.Rec) (l:List Pb.E):Nat:=(l.map (wd r)).sum
theorem wds_take (r:Lm.Rec) (l:List Pb.E) (k:Nat) (hk:k < l.length):wds r (l.take (k + 1)) = wds r (l.take k) + wd r (l.getD k (false,[])):=by
 unfold wds
 rw [List.take_add_one,List.getElem?_eq_getElem hk,List.map_append,List.sum_append,List.getD_eq_getElem?_getD,List.getElem?_eq_getElem hk]
 simp
theorem aff_size (r:Lm.Rec) (p:Pb.E) (h:p.1 = p.2.isEmpty):(affE r p).2.1.size = wd r p:=by
 obtain ⟨b,t⟩:=p
 dsimp only at h
 unfold affE wd
 cases b
 ·simp [Lm.bs_size]
 ·have:t = []:=by simpa using h.symm
  subst this
  simp [Lm.bs_size]
theorem wds_eq (r:Lm.Rec):∀ l:List Pb.E,(∀ e ∈ l,e.1 = e.2.isEmpty) → wds r l = (txI (affI r l)).length
 | [],_=>rfl
 | p :: l,h=>by
  have ih:=wds_eq r l (fun e he=>h e (List.mem_cons_of_mem _ he))
  have h1:=aff_size r p (h p List.mem_cons_self)
  unfold wds txI affI at *
  rw [List.map_cons,List.sum_cons,List.map_cons,List.flatMap_cons,List.length_append,size_list,h1,ih]
def sm (l:List Pb.E):Nat:=(l.map (·.2.length)).sum
theorem sm_take (l:List Pb.E) (k:Nat) (hk:k < l.length):sm (l.take (k + 1)) = sm (l.take k) + (l.getD k (false,[])).2.length:=by
 unfold sm
 rw [List.take_add_one,List.getElem?_eq_getElem hk,List.map_append,List.sum_append,List.getD_eq_getElem?_getD,List.getElem?_eq_getElem hk]
 simp
theorem wds_sm (r:Lm.Rec):∀ l:List Pb.E,wds r l = sm l + Ro.sgs l * r.min.length
 | []=>by simp [wds,sm,Ro.sgs]
 | p :: l=>by
  have ih:=wds_sm r l
  unfold wds sm Ro.sgs at *
  rw [List.map_cons,List.sum_cons,List.map_cons,List.sum_cons,List.countP_cons,ih]
  unfold wd
  obtain ⟨b,t⟩:=p
  cases b
  ·simp;omega
  ·simp [Nat.add_mul];omega
theorem afx_wds {r:Lm.Rec} {X:Pt.Pat} (hO:Lm.Ok r X) (g:Bool):afx r (Lo.parP r (Ro.ahd g X)) (Lo.parP r (Ro.bhd g X)) = wds r (Lo.parP r (Ro.ahd g X)) + wds r (Lo.parP r (Ro.bhd g X)):=by
 have h:=(Ro.around_fact hO g).1
 unfold afx
 rw [wds_eq r _ (fun e he=>h e (List.mem_append_left _ he)),wds_eq r _ (fun e he=>h e (List.mem_append_right _ he))]
theorem afx_sm {r:Lm.Rec} {X:Pt.Pat} (hO:Lm.Ok r X) (g:Bool):afx r (Lo.parP r (Ro.ahd g X)) (Lo.parP r (Ro.bhd g X)) = (if g = true then r.min.length else 0) + sm (Lo.parP r (Ro.ahd g X)) + sm (Lo.parP r (Ro.bhd g X)):=by
 have h:=(Ro.around_fact hO g).2.1
 rw [Ro.sgs_app] at h
 rw [afx_wds hO,wds_sm,wds_sm]
 have h2:Ro.sgs (Lo.parP r (Ro.ahd g X)) * r.min.length + Ro.sgs (Lo.parP r (Ro.bhd g X)) * r.min.length = if g = true then r.min.length else 0:=by
  rw [← Nat.add_mul,h]
  cases g <;> simp
 omega
theorem stp_none (r:Lm.Rec) {X:Pt.Pat} (hO:Lm.Ok r X) (g:Bool) (p s:Int) (d:Tm.T) (B:List Pb.E):stp (itm r p s d (Lo.parP r (Ro.ahd g X)) B) (Lo.parP r (Ro.ahd g X)).length 0 = wds r (Lo.parP r (Ro.ahd g X)):=by
 rw [stp_zero,wds_eq r _ (fun e he=>(Ro.around_fact hO g).1 e (List.mem_append_left _ he))]
 unfold off
 rw [itm_take]
theorem LstI_take {w:World} {a:Option Addr} {n c:Nat} {l:List E} (h:LstI w (.slice a n c) l) (k:Nat) (hk:k ≤ l.length):LstI w (.slice a k c) (l.take k):=by
 rcases h with ⟨rfl,a,c,hv,hc,hn⟩ | ⟨g,o,cap,hv,hg,h1,h2,hcell⟩
 ·cases hv
  have:k = 0:=by simpa using hk
  subst this
  exact .nil _ _ _ hc hn
 ·cases hv
  have hl:(l.take k).length = k:=by simp;omega
  refine .inr ⟨g,o,c,by rw [hl],hg,by omega,h2,fun i hi=>?_⟩
  rw [hl] at hi
  have e:(l.take k).getD i e0 = l.getD i e0:=by
   simp only [List.getD_eq_getElem?_getD]
   rw [List.getElem?_take,if_pos hi]
  rw [e]
  exact hcell i (by omega)
theorem dgx_le (r:Lm.Rec) (m:Nat) (h:∀ k,k < 10 → (Lm.dgt r k).size ≤ m):∀ n,n ≤ 10 → dgx r n ≤ m
 | 0,_=>Nat.zero_le _
 | n + 1,hn=>by
  unfold dgx
  exact Nat.max_le.2 ⟨dgx_le r m h n (by omega),h n (by omega)⟩
end Vm
end Go.Proofs.YtghfdapfnoeanaaGreatDoor
namespace Go.Proofs.YtghfdapfnoeanaaGreatDoor
open Go.RowKit
namespace Vw
open Um Im Vm
def VB (w:World) (B b:Nat) (l:List E) (s:Nat → Nat) (N:Nat):Prop:=B ≤ b ∧ ∃ a1 c1 a2 c2 a3 c3,Bk w b 77 [.string ⟨(txI l).toArray⟩,.slice a1 l.length c1,.slice a2 l.length c2,.slice a3 (N + 1) c3] ∧ Own w B (.slice a1 l.length c1) (l.map (·.1)) ∧ Own w B (.slice a2 l.length c2) (en l l.length) ∧ Own w B (.slice a3 (N + 1) c3) (ns s (N + 1))
theorem VB.q {w w':World} {B b:Nat} {l:List E} {s:Nat → Nat} {N:Nat} (h:VB w B b l s N) (hq:Q w w'):VB w' B b l s N:=by
 obtain ⟨hB,a1,c1,a2,c2,a3,c3,h0,h1,h2,h3⟩:=h
 exact ⟨hB,a1,c1,a2,c2,a3,c3,h0.q hq,h1.q hq,h2.q hq,h3.q hq⟩
theorem VB_row {w:World} {B b b0:Nat} {l:List E} {s:Nat → Nat} {N:Nat} (h:VB w B b l s N) (hb:b0 < B) (cs:Array Value):VB (w.setRow b0 cs) B b l s N:=by
 obtain ⟨hB,a1,c1,a2,c2,a3,c3,h0,h1,h2,h3⟩:=h
 have hh:∀ g,B ≤ g → (w.setRow b0 cs).heap[g]? = w.heap[g]?:=fun g hg=>setRow_other w b0 g cs (by omega)
 exact ⟨hB,a1,c1,a2,c2,a3,c3,Rw.Bk_other h0 (by omega) cs,h1.same (fun g hg=>hh g (h1.lt g hg).1),h2.same (fun g hg=>hh g (h2.lt g hg).1),h3.same (fun g hg=>hh g (h3.lt g hg).1)⟩
theorem text_any (B b:Nat) (l:List E) (s:Nat → Nat) (N:Nat) (w:World) (h:VB w B b l s N) :
  Calls Tryz.prog 15 #[.pointer (some ⟨b,0,none⟩)] w fun e w'=>e = .returned (.string ⟨(txI l).toArray⟩) ∧ w = w':=by
 obtain ⟨_,a1,c1,a2,c2,a3,c3,hb,_,_,h3⟩:=h
 have x0:=hb.cell 0 rfl
 generalize (⟨(txI l).toArray⟩:ByteArray) = S at *
 clear hb h3
 go_enter Tryz.func15,Tryz.ntmps15
 go_wp2_with fail
 go_ret
 exact ⟨rfl,rfl⟩
theorem len_any (B b:Nat) (l:List E) (s:Nat → Nat) (N:Nat) (w:World) (h:VB w B b l s N) (hN:N ≤ 1000000) :
  Calls Tryz.prog 14 #[.pointer (some ⟨b,0,none⟩)] w fun e w'=>e = .returned (.int .i64 N) ∧ w = w':=by
 obtain ⟨_,a1,c1,a2,c2,a3,c3,hb,_,_,h3⟩:=h
 have x3:=hb.cell 3 rfl
 clear hb h3
 go_enter Tryz.func14,Tryz.ntmps14
 go_wp2_with fail
 go_ret
 refine ⟨?_,rfl⟩
 go_num
set_option maxHeartbeats 800000 in
theorem stop_in (B b:Nat) (l:List E) (s:Nat → Nat) (N k:Nat) (w:World) (h:VB w B b l s N) (hN:N ≤ 1000000) (hk:k ≤ N) :
  Calls Tryz.prog 11 #[.pointer (some ⟨b,0,none⟩),.int .i64 k] w fun e w'=>e = .returned (.tuple #[.int .i64 ((s k:Nat):Int),.bool true]) ∧ w = w':=by
 have HL:=Lib.hid (len_any B b l s N w h hN)
 obtain ⟨_,a1,c1,a2,c2,a3,c3,hb,_,_,h3⟩:=h
 have x3:=hb.cell 3 rfl
 obtain ⟨g,off,cap,hv,hg,_,_,y1⟩:=h3.lst.cellOf (ns_len s (N + 1)) (k:=k) (by omega)
 cases hv
 rw [ns_at s (by omega)] at y1
 generalize s k = z at *
 have hlt:(k:Int) < (N:Int) + 1:=by omega
 have hng:¬ (N:Int) < (k:Int):=by omega
 clear hb h3
 go_enter Tryz.func11,Tryz.ntmps11
 go_wp2_with fail
 refine HL.out.mono ?_
 rintro e w1 ⟨rfl,rfl⟩
 go_wp2_with fail
 go_ret2
 exact ⟨rfl,rfl⟩
set_option maxHeartbeats 800000 in
theorem stop_out (B b:Nat) (l:List E) (s:Nat → Nat) (N:Nat) (k:Int) (w:World) (h:VB w B b l s N) (hN:N ≤ 1000000) (hk:k < 0 ∨ (N:Int) < k) :
  Calls Tryz.prog 11 #[.pointer (some ⟨b,0,none⟩),.int .i64 k] w fun e w'=>e = .returned (.tuple #[.int .i64 0,.bool false]) ∧ w = w':=by
 have HL:=Lib.hid (len_any B b l s N w h hN)
 clear h
 by_cases h0:k < 0
 ·clear hk
  go_enter Tryz.func11,Tryz.ntmps11
  go_wp2_with fail
  go_ret2
  exact ⟨rfl,rfl⟩
 ·have hgt:(N:Int) < k:=by omega
  clear hk
  go_enter Tryz.func11,Tryz.ntmps11
  go_wp2_with fail
  refine HL.out.mono ?_
  rintro e w1 ⟨rfl,rfl⟩
  go_wp2_with fail
  go_ret2
  exact ⟨rfl,rfl⟩
theorem own_none (w:World):Own (w.alloc (.cells #[] 3)) w.heap.size (.slice (some ⟨w.heap.size,0,none⟩) 0 0) [] :=
 ⟨rfl,.inr ⟨w.heap.size,0,#[],rfl,Nat.le_refl _,heap_alloc_new _ _,Nat.le_refl _,by unfold maxLen;omega,rfl,rfl⟩⟩
set_option maxRecDepth 100000 in
set_option maxHeartbeats 1000000 in
theorem clone_any (v:Value) (zs:List Int) (w:World) (hv:Lst w v zs) (hl:zs.length ≤ 10000000) :
  Calls Tryz.prog 34 #[v] w fun e w'=>∃ u,e = .returned u ∧ Own w' w.heap.size u zs ∧ Q w w':=by
 obtain ⟨n,hn⟩:∃ n,n = zs.length:=⟨_,rfl⟩
 have HV:=Lib.hid hv
 obtain ⟨a,cp,rfl,hc1,hc2⟩:=hv.form0 hn.symm
 have q24:∀ (w:World) (a:Option Addr) (n c n' c':Nat),(binOp .eql 24 (.slice a n c) (.slice none n' c')).run Tryz.prog w = .ok (.bool a.isNone) w:=fun w a n c n' c'=>Lib.run_eql_slice_nil w _ _ a n c n' c' Tryz.underlying24
 cases a with
 | none =>
  have hl0:zs = []:=by
   rcases hv with ⟨h,_⟩ | ⟨g,off,cap,h,_⟩
   ·exact h
   ·cases h
  subst hl0
  go_enter Tryz.func34,Tryz.ntmps34
  go_wp2_with fail
  go_ret
  exact ⟨_,rfl,Own.nil _ _,Q.refl _⟩
 | some ad =>
  have ho:=own_none w
  have hqa:=(Q.refl w).alloc (.cells #[] 3)
  have HVA:=Lib.hid (HV.out.q hqa)
  clear hv hn
  go_enter Tryz.func34,Tryz.ntmps34
  go_wp2_with (at_builtin;refine push_list ho HVA.out rfl _ _ rfl (by rfl) (by rfl) (by simp;omega) hqa.le ?_)
  intro v' w4 ho4 hg4 hat4
  have hq4:=hqa.grown hg4 (fun j h=>(ho.lt j h).1)
  have HO:=Lib.hid (show Own w4 w.heap.size v' zs from ho4)
  clear ho4
  go_wp2_with fail
  go_ret
  exact ⟨_,rfl,HO.out,hq4⟩
set_option maxHeartbeats 800000 in
theorem stops_any (B b:Nat) (l:List E) (s:Nat → Nat) (N:Nat) (w:World) (h:VB w B b l s N) (hN:N ≤ 1000000) :
  Calls Tryz.prog 13 #[.pointer (some ⟨b,0,none⟩)] w fun e w'=>∃ u,e = .returned u ∧ Own w' w.heap.size u (ns s (N + 1)) ∧ Q w w':=by
 obtain ⟨_,a1,c1,a2,c2,a3,c3,hb,_,_,h3⟩:=h
 have x3:=hb.cell 3 rfl
 have HC:=Lib.hid (clone_any _ _ w h3.lst (by rw [ns_len];omega))
 clear hb h3
 go_enter Tryz.func13,Tryz.ntmps13
 go_wp2_with fail
 refine HC.out.mono ?_
 rintro e w1 ⟨u,rfl,ho,hq⟩
 have HO:=Lib.hid ho
 clear ho
 go_wp2_with fail
 go_ret
 exact ⟨_,rfl,HO.out,hq⟩
theorem find_any (u:Value) (l:List E) (x:Int) (w:World) (hu:Lst w u (en l l.length)) (hl:l.length ≤ 1000000) (h0:0 < l.length) :
  Calls Tryz.prog 39 #[u,.int .i64 x] w fun e w'=>∃ t,e = .returned (.tuple #[.int .i64 ((en l l.length).countP (fun y=>decide (y < x)):Nat),.bool t]) ∧ Q w w':=by
 have he:=en_len l l.length
 rcases hu with ⟨h1,_⟩ | ⟨g,off,cap,rfl,hg,_,_,hc⟩
 ·rw [h1] at he;simp at he;omega
 ·have ht:(en l l.length).take (en l l.length).length = en l l.length:=List.take_length
  have:=search_any g off (en l l.length).length cap (en l l.length) x w (Nat.le_refl _) (by omega) hc (by rw [ht];exact en_pair l)
  rw [ht] at this
  refine this.mono ?_
  rintro e w1 ⟨rfl,q,rfl⟩
  exact ⟨_,rfl,(Q.refl w).drewN q⟩
set_option maxHeartbeats 1600000 in
theorem tag_any (B b:Nat) (l:List E) (s:Nat → Nat) (N:Nat) (x:Int) (w:World) (h:VB w B b l s N) (hl:l.length ≤ 1000000) (hz:(txI l).length ≤ 1000000) :
  Calls Tryz.prog 21 #[.pointer (some ⟨b,0,none⟩),.int .i64 x] w fun e w'=>e = .returned (.int .i64 (tag l x l.length)) ∧ Q w w':=by
 obtain ⟨_,a1,c1,a2,c2,a3,c3,hb,h1,h2,h3⟩:=h
 by_cases hx0:x < 0
 ·have HT:=Lib.hid (tag_none (l:=l) (o:=x) (.inl hx0) l.length (Nat.le_refl _))
  rw [HT.out]
  clear hb h1 h2 h3 hl hz
  go_enter Tryz.func21,Tryz.ntmps21
  go_wp2_with fail
  go_ret
  exact ⟨rfl,Q.refl _⟩
 ·by_cases hx1:((txI l).length:Int) ≤ x
  ·have HT:=Lib.hid (tag_none (l:=l) (o:=x) (.inr hx1) l.length (Nat.le_refl _))
   rw [HT.out]
   have x0:=hb.cell 0 rfl
   have hss:(⟨(txI l).toArray⟩:ByteArray).size = (txI l).length:=by simp [ByteArray.size]
   generalize (⟨(txI l).toArray⟩:ByteArray) = S at *
   rw [← hss] at hx1
   clear hb h1 h2 h3 hl hz hss
   go_enter Tryz.func21,Tryz.ntmps21
   go_wp2_with fail
   go_ret
   exact ⟨rfl,Q.refl _⟩
  ·have hf:=tag_find l (o:=x) (by omega) (by omega)
   have hn0:0 < l.length:=by
    by_cases h:l.length = 0
    ·rw [List.eq_nil_of_length_eq_zero h] at hx1;simp [txI] at hx1;omega
    ·omega
   have HS:=Lib.hid (find_any _ l (x + 1) w h2.lst hl hn0)
   have hx2:¬ ((⟨(txI l).toArray⟩:ByteArray).size:Int) ≤ x:=by simp [ByteArray.size];omega
   have hx3:x < ((⟨(txI l).toArray⟩:ByteArray).size:Int):=by omega
   have hx4:x ≤ 1000000:=by omega
   have x0:=hb.cell 0 rfl
   have x1:=hb.cell 1 rfl
   have x2:=hb.cell 2 rfl
   obtain ⟨i,hi⟩:∃ i,i = (en l l.length).countP fun y=>decide (y < x + 1):=⟨_,rfl⟩
   rw [← hi] at hf HS
   have HC:=Lib.hid (show ∀ u,Q w u → ∃ g off cap,(.slice a1 l.length c1:Value) = .slice (some ⟨g,off,none⟩) l.length cap ∧ u.cell? ⟨g,off + i,none⟩ = some (.int .i64 (tag l x l.length)) from fun u q=>by
    obtain ⟨g,off,cap,hv,hg,_,_,y1⟩:=(h1.lst.q q).cellOf (zs:=l.map (·.1)) (n:=l.length) (by simp) hf.1
    refine ⟨g,off,cap,hv,?_⟩
    rw [y1,← hf.2,List.getD_eq_getElem?_getD,List.getElem?_map,List.getD_eq_getElem?_getD,List.getElem?_eq_getElem hf.1]
    rfl)
   have hil:=hf.1
   have HB:=Lib.hid hb
   generalize tag l x l.length = T at *
   generalize (⟨(txI l).toArray⟩:ByteArray) = S at *
   generalize l.length = n at *
   clear hb h1 h2 h3 hf hi hx1
   go_enter Tryz.func21,Tryz.ntmps21
   go_wp2_with fail
   refine HS.out.mono ?_
   rintro e w1 ⟨t,rfl,hq⟩
   have z1:=(HB.out.q hq).cell 1 rfl
   obtain ⟨g,off,cap,hv,y1⟩:=HC.out w1 hq
   cases hv
   have HQ:=Lib.hid hq
   have hi2:¬ (n:Int) ≤ (i:Int):=by omega
   have hi3:(i:Int) < (n:Int):=by omega
   clear x0 x1 x2 hq
   go_wp2_with fail
   go_ret
   exact ⟨rfl,HQ.out⟩
end Vw
end Go.Proofs.YtghfdapfnoeanaaGreatDoor
namespace Go.Proofs.YtghfdapfnoeanaaGreatDoor
open Go.RowKit
namespace Vw
open Um Im Vm Lo
theorem wds_le (r:Lm.Rec) (l:List Pb.E) (k:Nat):wds r (l.take k) ≤ wds r l:=by
 have h:wds r l = wds r (l.take k) + wds r (l.drop k):=by
  unfold wds
  rw [← List.sum_append,← List.map_append,List.take_append_drop]
 omega
set_option maxRecDepth 100000 in
set_option maxHeartbeats 3200000 in
theorem width_any (g:Nat) (r:Lm.Rec) (X:Pt.Pat) (a b c d cl v:Value) (l:List Pb.E) (w:World) (hB:LB w g r X a b c d cl) (hv:Pb.LstP w v l) (hl:l.length ≤ 100000) (hz:wds r l ≤ 1000000) :
  Calls Tryz.prog 60 #[.pointer (some ⟨g,0,none⟩),v] w fun e w'=>e = .returned (.int .i64 (wds r l:Nat)) ∧ Q w w':=by
 obtain ⟨n,hn⟩:∃ n,n = l.length:=⟨_,rfl⟩
 obtain ⟨va,vc,rfl,hnc,hcm⟩:=hv.form0 hn.symm
 have HV:=Lib.hid (fun u (q:Q w u) k (h:k < n)=>(hv.q q).cellOf hn.symm h)
 have hr:=fun u (q:Q w u)=>Ro.record_any g r X a b c d cl u (hB.q q)
 unfold recV at hr
 have HR:=Lib.hid hr
 clear hr
 have HT:=Lib.hid (fun k (h:k < n)=>wds_take r l k (by omega))
 have HTL:=Lib.hid (fun k=>Nat.le_trans (wds_le r l k) hz)
 have HE:=Lib.hid (show wds r (l.take n) = wds r l by rw [hn,List.take_length])
 have H0:=Lib.hid (show wds r (l.take 0) = 0 from rfl)
 have HF:=Lib.hid (fun u=>It.fldM u (Lm.bs r.nam) (Lm.bs r.pat) (Lm.bs r.sys) (Lm.bs r.dec) (Lm.bs r.grp) (Lm.bs r.min) (Lm.bs r.per) (Lm.bs r.cur))
 have HWD:=Lib.hid (show ∀ p:Pb.E,wd r p = p.2.length + if p.1 = true then (Lm.bs r.min).size else 0 from fun p=>by rw [Lm.bs_size];rfl)
 unfold maxLen at hcm
 rw [← hn] at hl
 clear hB hv hn hz
 generalize Lm.bs r.nam = s0 at *
 generalize Lm.bs r.pat = s1 at *
 generalize Lm.bs r.sys = s2 at *
 generalize Lm.bs r.dec = s3 at *
 generalize Lm.bs r.grp = s4 at *
 generalize Lm.bs r.min = s5 at *
 generalize Lm.bs r.per = s6 at *
 generalize Lm.bs r.cur = s7 at *
 rw [← HE.out]
 go_enter Tryz.func60,Tryz.ntmps60
 go_wp2_with fail
 go_loopw [5,10] (fun x i wr=>∃ k:Nat,i = .int .i64 k ∧ k ≤ n ∧ x = .int .i64 (wds r (l.take k):Nat) ∧ Q w wr) (fun _ i _=>n - (intOf i).toNat)
 case atStart=>exact ⟨0,rfl,by omega,by rw [H0.out];rfl,Q.refl _⟩
 case round =>
  obtain ⟨k,rfl,hk,rfl,hq⟩:=hrel
  by_cases hlt:k < n
  ·obtain ⟨gg,off,cap,hvv,hg,_,_,c1,c2⟩:=HV.out wr hq k hlt
   cases hvv
   have htk:=HT.out k hlt
   rw [HWD.out] at htk
   have hb1:=HTL.out (k + 1)
   have hb0:=HTL.out k
   generalize l.getD k (false,[]) = e0' at *
   obtain ⟨eb,et⟩:=e0'
   dsimp only at c1 c2 htk
   obtain ⟨M2,hM2⟩:∃ m,m = wds r (l.take (k + 1)):=⟨_,rfl⟩
   obtain ⟨M,hM⟩:∃ m,m = wds r (l.take k):=⟨_,rfl⟩
   rw [← hM2,← hM] at htk
   rw [← hM2] at hb1
   rw [← hM] at hb0 ⊢
   have HM2:=Lib.hid hM2.symm
   clear hM hM2
   have htz:(⟨et.toArray⟩:ByteArray).size = et.length:=by simp [ByteArray.size]
   unfold Pb.txt at c2
   rw [← htz] at htk
   generalize (⟨et.toArray⟩:ByteArray) = T at *
   obtain ⟨z,hz⟩:∃ y,y = wr.alloc (.cells #[.bool eb,.string T] 161):=⟨_,rfl⟩
   have HQZ:=Lib.hid (show Q w z by rw [hz];exact hq.alloc _)
   have HBX:=Lib.hid (show Bk z wr.heap.size 161 [.bool eb,.string T] by rw [hz];exact Bk.new _ _ _)
   have x0:=HBX.out.cell 0 rfl
   have x1:=HBX.out.cell 1 rfl
   generalize hbX:wr.heap.size = bX at *
   clear hq htz
   cases eb
   ·rw [if_neg (by decide)] at htk
    have hsum:(M:Int) + (T.size:Int) = (M2:Int):=by omega
    have hle:(M2:Int) ≤ 1000000:=by omega
    clear htk
    go_upto_region 5 with fail
    rw [← hz]
    clear hz hbX c1 c2
    go_wp2_with fail
    exact ⟨⟨k + 1,by go_num,by omega,by rw [HM2.out],HQZ.out⟩,by simp [intOf];omega⟩
   ·rw [if_pos rfl] at htk
    have HRZ:=Lib.hid (HR.out z HQZ.out)
    obtain ⟨M1,hM1⟩:∃ m,m = M + T.size:=⟨_,rfl⟩
    have hs1:(M:Int) + (T.size:Int) = (M1:Int):=by omega
    have hs2:(M1:Int) + (s5.size:Int) = (M2:Int):=by omega
    have hle1:(M1:Int) ≤ 1000000:=by omega
    have hle2:(M2:Int) ≤ 1000000:=by omega
    clear htk hM1
    go_upto_region 5 with fail
    rw [← hz]
    clear hz hbX c1 c2
    go_wp2_with fail
    refine HRZ.out.mono ?_
    rintro e w2 ⟨rfl,hq2⟩
    have HQ2:=Lib.hid (HQZ.out.trans hq2)
    have hf:=HF.out w2
    clear hq2 x0 x1
    go_wp2_with fail
    exact ⟨⟨k + 1,by go_num,by omega,by rw [HM2.out],HQ2.out⟩,by simp [intOf];omega⟩
  ·obtain rfl:k = n:=by omega
   go_wp2_with fail
   go_ret
   exact ⟨rfl,hq⟩
theorem wds_bd {r:Lm.Rec} {X:Pt.Pat} (h:It.LOk r X) (g:Bool):wds r (parP r (Ro.ahd g X)) ≤ 192 ∧ wds r (parP r (Ro.bhd g X)) ≤ 192:=by
 have hf:=Ro.around_fact h.ok g
 have hm1:Ro.ahd g X ∈ Lm.affs X:=by cases g <;> simp [Ro.ahd,Lm.affs]
 have hm2:Ro.bhd g X ∈ Lm.affs X:=by cases g <;> simp [Ro.bhd,Lm.affs]
 rw [wds_eq r _ (fun e he=>hf.1 e (List.mem_append_left _ he)),wds_eq r _ (fun e he=>hf.1 e (List.mem_append_right _ he))]
 have h1:=tx_len (affI r (parP r (Ro.ahd g X))) (fun e he=>by
  obtain ⟨p,hp,rfl⟩:=List.mem_map.1 he
  exact aff_okT h hm1 hp)
 have h2:=tx_len (affI r (parP r (Ro.bhd g X))) (fun e he=>by
  obtain ⟨p,hp,rfl⟩:=List.mem_map.1 he
  exact aff_okT h hm2 hp)
 rw [affI_len] at h1 h2
 have:=hf.2.2.1
 have:=hf.2.2.2
 exact ⟨by omega,by omega⟩
set_option maxHeartbeats 1600000 in
theorem wide_any (q:Bool) (g:Nat) (r:Lm.Rec) (X:Pt.Pat) (a b c d cl:Value) (w:World) (hO:It.LOk r X) (hB:LB w g r X a b c d cl) :
  Calls Tryz.prog 49 #[.pointer (some ⟨g,0,none⟩),.bool q] w fun e w'=>e = .returned (.int .i64 (afx r (parP r (Ro.ahd q X)) (parP r (Ro.bhd q X)):Nat)) ∧ Q w w':=by
 have HA:=Lib.hid (Ro.around_any q g r X a b c d cl w hO.ok hB)
 obtain ⟨hb1,hb2⟩:=wds_bd hO q
 have hl1:=(Ro.around_fact hO.ok q).2.2.1
 have hl2:=(Ro.around_fact hO.ok q).2.2.2
 have HW:=Lib.hid (fun v l u (qq:Q w u) (hv:Pb.LstP u v l) (h1:l.length ≤ 3) (h2:wds r l ≤ 192)=>width_any g r X a b c d cl v l u (hB.q qq) hv (by omega) (by omega))
 have hE:=afx_wds hO.ok q
 clear hB hO
 generalize parP r (Ro.ahd q X) = A at *
 generalize parP r (Ro.bhd q X) = B at *
 rw [hE]
 have HW1:=Lib.hid (fun v u (qq:Q w u) (hv:Pb.LstP u v A)=>HW.out v A u qq hv hl1 hb1)
 have HW2:=Lib.hid (fun v u (qq:Q w u) (hv:Pb.LstP u v B)=>HW.out v B u qq hv hl2 hb2)
 generalize wds r A = m at *
 generalize wds r B = k at *
 clear hl1 hl2 HW hE
 go_enter Tryz.func49,Tryz.ntmps49
 go_wp2_with fail
 refine HA.out.mono ?_
 rintro e w1 ⟨u,v,rfl,hu,hv,hq⟩
 have hx1:=HW1.out u w1 hq hu
 have hx2:=fun y (q2:Q w1 y)=>HW2.out v y (hq.trans q2) (hv.q q2)
 obtain ⟨_,_,rfl,_,_⟩:=hu.shape2
 obtain ⟨_,_,rfl,_,_⟩:=hv.shape2
 have HX1:=Lib.hid hx1
 have HX2:=Lib.hid hx2
 clear hx1 hx2 hu hv
 go_wp2_with fail
 refine HX1.out.mono ?_
 rintro e w2 ⟨rfl,hq2⟩
 go_wp2_with fail
 refine (HX2.out _ hq2).mono ?_
 rintro e w3 ⟨rfl,hq3⟩
 go_wp2_with fail
 go_ret
 exact ⟨by go_num,(hq.trans hq2).trans hq3⟩
set_option maxHeartbeats 1600000 in
theorem longest_any (g:Nat) (r:Lm.Rec) (X:Pt.Pat) (a b c d cl:Value) (w:World) (hB:LB w g r X a b c d cl) :
  Calls Tryz.prog 50 #[.pointer (some ⟨g,0,none⟩)] w fun e w'=>e = .returned (.int .i64 (dgx r 10:Nat)) ∧ Q w w':=by
 have HD:=Lib.hid (fun u (q:Q w u) k (h:k < 10)=>digit_in g r X a b c d cl k u (hB.q q) h)
 have HX:=Lib.hid (show ∀ k,dgx r (k + 1) = max (dgx r k) (Lm.dgt r k).size from fun _=>rfl)
 have H0:=Lib.hid (show dgx r 0 = 0 from rfl)
 clear hB
 go_enter Tryz.func50,Tryz.ntmps50
 go_wp2_with fail
 go_loopw [3,5] (fun x i wr=>∃ k:Nat,i = .int .i64 k ∧ k ≤ 10 ∧ x = .int .i64 (dgx r k:Nat) ∧ Q w wr) (fun _ i _=>10 - (intOf i).toNat)
 case atStart=>exact ⟨0,rfl,by omega,by rw [H0.out];rfl,Q.refl _⟩
 case round =>
  obtain ⟨k,rfl,hk,rfl,hq⟩:=hrel
  by_cases hlt:k < 10
  ·have hd:=HD.out wr hq k hlt
   have hx:=HX.out k
   obtain ⟨M2,hM2⟩:∃ m,m = dgx r (k + 1):=⟨_,rfl⟩
   generalize dgx r k = M at *
   generalize Lm.dgt r k = T at *
   rw [← hM2] at hx
   have HM2:=Lib.hid hM2.symm
   have HDD:=Lib.hid hd
   clear hd hM2
   have HMX:=Lib.hid (show max (M:Int) (T.size:Int) = (M2:Int) by omega)
   clear hx
   go_wp2_with fail
   refine HDD.out.mono ?_
   rintro e w1 ⟨rfl,hq1⟩
   go_wp2_with fail
   exact ⟨⟨k + 1,by go_num,by omega,by rw [HM2.out,← HMX.out],hq.trans hq1⟩,by simp [intOf];omega⟩
  ·obtain rfl:k = 10:=by omega
   go_wp2_with fail
   go_ret
   exact ⟨rfl,hq⟩
theorem bnd_parts {r:Lm.Rec} {X:Pt.Pat} (h:It.LOk r X) (W R:Nat) (hW:W ≤ 1000) (hR:R ≤ 1000) :
  ∃ m0 m1 D M1 M2 M3:Nat,m0 = afx r (parP r (Ro.ahd false X)) (parP r (Ro.bhd false X)) ∧ m1 = afx r (parP r (Ro.ahd true X)) (parP r (Ro.bhd true X)) ∧ D = dgx r 10 ∧ M3 = max m0 m1 ∧ M1 = (W + R) * D ∧ M2 = (W - 1) * (Lm.bs r.grp).size ∧
   bnd r X W R = M3 + M1 + (Lm.bs r.dec).size + M2 ∧ m0 ≤ 384 ∧ m1 ≤ 384 ∧ D ≤ 64 ∧ M1 ≤ 128000 ∧ M2 ≤ 16000 ∧ (Lm.bs r.dec).size ≤ 16 ∧ (Lm.bs r.grp).size ≤ 16 ∧ (¬ (0 < X.pr ∧ 0 < W) → M2 = 0):=by
 have hd:dgx r 10 ≤ 64:=dgx_le r 64 (fun k hk=>by
  have h1:=dgt_okT h (k:Int) (by omega) (by omega)
  rw [Int.toNat_natCast] at h1
  exact h1.2) 10 (Nat.le_refl _)
 have hdec:(Lm.bs r.dec).size ≤ 16:=by rw [Lm.bs_size];exact (sym_pln h.ok.dec).2
 have hgrp:(Lm.bs r.grp).size ≤ 16:=by
  rw [Lm.bs_size]
  by_cases hp:0 < X.pr
  ·exact (sym_pln (h.ok.grp1 hp)).2
  ·rw [h.ok.grp0 hp];simp
 have h0:=wds_bd h false
 have h1:=wds_bd h true
 have e0:=afx_wds h.ok false
 have e1:=afx_wds h.ok true
 have hm1:(W + R) * dgx r 10 ≤ 2000 * 64:=Nat.mul_le_mul (by omega) hd
 have hm2:(W - 1) * (Lm.bs r.grp).size ≤ 1000 * 16:=Nat.mul_le_mul (by omega) hgrp
 have h2:¬ (0 < X.pr ∧ 0 < W) → (W - 1) * (Lm.bs r.grp).size = 0:=fun hn=>by
  by_cases hw:0 < W
  ·rw [h.ok.grp0 (fun hp=>hn ⟨hp,hw⟩)]
   rfl
  ·rw [show W - 1 = 0 from by omega,Nat.zero_mul]
 have hb:bnd r X W R = max (afx r (parP r (Ro.ahd false X)) (parP r (Ro.bhd false X))) (afx r (parP r (Ro.ahd true X)) (parP r (Ro.bhd true X))) + (W + R) * dgx r 10 + (Lm.bs r.dec).size + (W - 1) * (Lm.bs r.grp).size:=by
  unfold bnd
  rw [Lm.bs_size]
  by_cases hc:0 < X.pr ∧ 0 < W
  ·rw [if_pos hc,Lm.bs_size]
  ·rw [if_neg hc,h2 hc]
 exact ⟨_,_,_,_,_,_,rfl,rfl,rfl,rfl,rfl,rfl,hb,by omega,by omega,hd,by omega,by omega,hdec,hgrp,h2⟩
set_option maxRecDepth 100000 in
set_option maxHeartbeats 3200000 in
theorem bound_any (g:Nat) (r:Lm.Rec) (X:Pt.Pat) (a b c d cl:Value) (W R:Nat) (w:World) (hO:It.LOk r X) (hB:LB w g r X a b c d cl) (hW:W ≤ 1000) (hR:R ≤ 1000) :
  Calls Tryz.prog 28 #[.pointer (some ⟨g,0,none⟩),.int .i64 W,.int .i64 R] w fun e w'=>e = .returned (.int .i64 (bnd r X W R:Nat)) ∧ Q w w':=by
 obtain ⟨m0,m1,D,M1,M2,M3,hm0,hm1,hD,hM3,hM1,hM2,hb,b0,b1,bD,bM1,bM2,bd,bg,h2⟩:=bnd_parts hO W R hW hR
 have hr:=Ro.record_any g r X a b c d cl w hB
 unfold recV at hr
 have HR:=Lib.hid hr
 have HF:=Lib.hid (fun u (q:Q w u)=>wide_any false g r X a b c d cl u hO (hB.q q))
 have HT:=Lib.hid (fun u (q:Q w u)=>wide_any true g r X a b c d cl u hO (hB.q q))
 have HL:=Lib.hid (fun u (q:Q w u)=>longest_any g r X a b c d cl u (hB.q q))
 rw [← hm0] at HF
 rw [← hm1] at HT
 rw [← hD] at HL
 rw [hb]
 clear hr hB hO hm0 hm1 hD hb h2
 generalize Lm.bs r.nam = s0 at *
 generalize Lm.bs r.pat = s1 at *
 generalize Lm.bs r.sys = s2 at *
 generalize Lm.bs r.dec = s3 at *
 generalize Lm.bs r.grp = s4 at *
 generalize Lm.bs r.min = s5 at *
 generalize Lm.bs r.per = s6 at *
 generalize Lm.bs r.cur = s7 at *
 have hmul1:((W:Int) + (R:Int)) * (D:Int) = (M1:Int):=by rw [hM1];push_cast;rfl
 have hmax:max (m0:Int) (m1:Int) = (M3:Int):=by omega
 have b3:M3 ≤ 384:=by omega
 have HMX:=Lib.hid hmax
 have hmul2:((W - 1:Nat):Int) * (s4.size:Int) = (M2:Int):=by rw [hM2];push_cast;rfl
 have hmm:max ((W:Int) - 1) 0 = ((W - 1:Nat):Int):=by omega
 have HS:=Lib.hid (show (M3:Int) + (M1:Int) + (s3.size:Int) + (M2:Int) = ((M3 + M1 + s3.size + M2:Nat):Int) by push_cast;rfl)
 have HM3:=Lib.hid hM3
 clear hM1 hM2 hM3 hmax
 go_enter Tryz.func28,Tryz.ntmps28
 go_wp2_with fail
 refine HR.out.mono ?_
 rintro e w1 ⟨rfl,hq1⟩
 obtain ⟨z,hz⟩:∃ y,y = w1.alloc (.cells #[.string s0,.string s1,.string s2,.string s3,.string s4,.string s5,.string s6,.string s7] 64):=⟨_,rfl⟩
 have HQZ:=Lib.hid (show Q w z by rw [hz];exact hq1.alloc _)
 have HBX:=Lib.hid (show Bk z w1.heap.size 64 [.string s0,.string s1,.string s2,.string s3,.string s4,.string s5,.string s6,.string s7] by rw [hz];exact Bk.new _ _ _)
 obtain ⟨bX,hbX⟩:∃ b,b = w1.heap.size:=⟨_,rfl⟩
 rw [← hbX] at HBX
 clear hq1
 go_upto_region 2 with fail
 rw [← hz,← hbX]
 clear hz hbX
 go_wp2_with fail
 refine (HF.out _ HQZ.out).mono ?_
 rintro e w2 ⟨rfl,hq2⟩
 have HQ2:=Lib.hid (HQZ.out.trans hq2)
 have HB2:=Lib.hid (HBX.out.q hq2)
 clear hq2
 go_wp2_with fail
 refine (HT.out _ HQ2.out).mono ?_
 rintro e w3 ⟨rfl,hq3⟩
 have HQ3:=Lib.hid (HQ2.out.trans hq3)
 have HB3:=Lib.hid (HB2.out.q hq3)
 clear hq3
 have hmax:=HMX.out
 go_wp2_with fail
 refine (HL.out _ HQ3.out).mono ?_
 rintro e w4 ⟨rfl,hq4⟩
 have HQ4:=Lib.hid (HQ3.out.trans hq4)
 have HB4:=Lib.hid (HB3.out.q hq4)
 clear hq4
 have x3:=HB4.out.cell 3 rfl
 have x4:=HB4.out.cell 4 rfl
 go_wp2_with fail
 go_ret
 exact ⟨by go_num,HQ4.out⟩
end Vw
end Go.Proofs.YtghfdapfnoeanaaGreatDoor
