/- What package draft's Atoms, Len, Dec and Text come to, by a walk through each. (and more) -/
import Derived.Test.YtdjhkbholijnmaaGreatDoorR13
set_option linter.all false
set_option maxRecDepth 100000
set_option maxHeartbeats 8000000
namespace Go.Proofs.YtdjhkbholijnmaaGreatDoor
section
open Go.RowKit
namespace Tm
theorem Qeq {u v:World} (h:u = v):Q u v:=by subst h;exact Q.refl u
theorem wrapN (x:Int) (m:Nat) (h:x = (m:Int)) (hm:m < 9223372036854775808):IntKind.i64.wrap x = (m:Int):=by
 subst h;rw [IntKind.wrap_i64];omega
end Tm
namespace Tp
open Tm
theorem ret_dec {fn:Func} {p:Tmp} (h:fn.results = #[.cell p 44]) {R:Ending -> World -> Prop} {a:Act} {w:World} {g:Nat} {l:List Value}
  (hl:l.length = 3) (hp:a.tmps.getD p undef = .pointer (some ⟨g,0,none⟩)) (hg:Bk w g 44 l) (hd:a.defers = []) (hR:R (.returned (.agg l.toArray)) w):bodyPost Tryz.prog fn R .ret a w :=
 bodyPost_ret (results_cell_row h a.tmps w g 44 l.toArray (0,0) _ hp hg Tryz.underlying44 rfl (by rw [Ep.infoD];simp [hl])) hd hR
theorem dec_own (g s:Bool) (a1 a2:Option Addr) (n1 n2 c1 c2:Nat) (I F:List Int) (w:World) (hi:Lst w (.slice a1 n1 c1) I) (hf:Lst w (.slice a2 n2 c2) F) (k1:I.length = n1) (k2:F.length = n2) (l1:n1 <= 100000) (l2:n2 <= 100000) (hI:Dm.okD I) (hF:Dm.okD F) :
  Calls Tryz.prog 33 #[.agg #[.bool g,.slice a1 n1 c1,.bool s,.slice a2 n2 c2]] w fun e w'=>∃ a c,e = .returned (.agg #[.bool (Dm.cg g (Dm.num (I ++ F))),.slice a (Dm.dg (Dm.st (Dm.num (I ++ F)) n2).1).length c,.int .i64 ((Dm.st (Dm.num (I ++ F)) n2).2:Nat)]) /\ Own w' w.heap.size (.slice a (Dm.dg (Dm.st (Dm.num (I ++ F)) n2).1).length c) (Dm.dg (Dm.st (Dm.num (I ++ F)) n2).1) /\ Q w w':=by
 obtain ⟨x,hx⟩:∃ x,x = zeb F:=⟨_,rfl⟩;have hxl:x <= n2:=by rw [hx,<- k2];exact zeb_le F
 obtain ⟨M,hM⟩:∃ M,M = Dm.num (I ++ F):=⟨_,rfl⟩;have hcut:=dec_cut I F hI hF x hx M hM;obtain ⟨m,hm⟩:∃ m,m = n2 - x:=⟨_,rfl⟩;rw [k2,<- hm] at hcut;have HZB:=Hd (fun u (q:Q w u)=>(by
  have h:=zeb_any _ F u (hf.q q) (by omega);rw [<- hx] at h;exact h.mono fun _ _ h=>⟨h.1,Qeq h.2⟩:Calls Tryz.prog 67 #[.slice a2 n2 c2] u fun e w'=>e = .returned (.int .i64 x) /\ Q u w'))
 have HCU:=Hd (fun u (q:Q w u)=>(by
  have h:=cut_any _ F 0 m u (hf.q q) (by omega) (by omega);rw [Nat.sub_zero,List.drop_zero] at h;exact h.mono fun _ _ ⟨a,h1,h2,h3⟩=>⟨a,h1,by rw [<- h3];exact h2,Qeq h3⟩:Calls Tryz.prog 66 #[.slice a2 n2 c2,.int .i64 0,.int .i64 m] u fun e w'=>∃ a,e = .returned (.slice a m m) /\ Lst w' (.slice a m m) (F.take m) /\ Q u w'))
 obtain ⟨R,hR⟩:∃ R,R = F.take m:=⟨_,rfl⟩;have hRl:R.length = m:=by rw [hR,List.length_take];omega
 rw [<- hR] at HCU hcut;have HCT:=Hd (fun u ra (q:Q w u) (hl:Lst u (.slice ra m m) R)=>by
  have h:=Ts.concat2 (u.alloc (.cells #[.slice a1 n1 c1,.slice ra m m] 24)) u.heap.size _ _ I R (Bk.new u 24 [.slice a1 n1 c1,.slice ra m m]) (hi.q (q.alloc _)) (hl.q ((Q.refl u).alloc _)) (by omega) (by omega);rw [k1,hRl] at h;exact h)
 have HTR:=Hd (fun u v (h:Lst u v (I ++ R))=>Dw.trim_any v (I ++ R) u h (by rw [List.length_append];omega));obtain ⟨Z,hZ⟩:∃ Z,Z = Dm.trimL (I ++ R):=⟨_,rfl⟩;obtain ⟨r,hr⟩:∃ r,r = Z.length:=⟨_,rfl⟩;rw [<- hZ] at hcut HTR;rw [<- hM];have hrb:r <= n1 + m:=by
  have h1:=Dm.trim_len (I ++ R);rw [<- hZ,<- hr,List.length_append,k1,hRl] at h1;omega
 have hw1:IntKind.i64.wrap ((n2:Int) - (x:Int)) = (m:Int):=wrapN _ _ (by omega) (by omega);have HCC:=Hd hcut;have HR:=Hd hr;clear hi hf k1 k2 hI hF hx hM hm hR hRl hZ hr hcut hxl;obtain ⟨y,hy⟩:∃ y,y = w.alloc (.cells #[.bool g,.slice a1 n1 c1,.bool s,.slice a2 n2 c2] 39):=⟨_,rfl⟩;have hqy:Q w y:=by rw [hy];exact (Q.refl w).alloc _
 have hby:Bk y w.heap.size 39 [.bool g,.slice a1 n1 c1,.bool s,.slice a2 n2 c2]:=by rw [hy];exact Bk.new _ _ _
 have hsy:y.heap.size = w.heap.size + 1:=by rw [hy];simp
 obtain ⟨z,hz⟩:∃ z,z = y.alloc (.cells #[.bool false,.slice none 0 0,.int .i64 0] 44):=⟨_,rfl⟩;have hqz:Q y z:=by rw [hz];exact (Q.refl y).alloc _
 have HQ:=Hd (hqy.trans hqz);have HB:=Hd (hby.q hqz);have HD:=Hd (show Bk z (w.heap.size + 1) 44 [.bool false,.slice none 0 0,.int .i64 0] by rw [hz,<- hsy];exact Bk.new _ _ _);have HWD:=Hd (Nat.le_succ w.heap.size);have hz2:z = (w.alloc (.cells #[.bool g,.slice a1 n1 c1,.bool s,.slice a2 n2 c2] 39)).alloc (.cells #[.bool false,.slice none 0 0,.int .i64 0] 44):=by rw [hz,hy]
 clear hqy hby hsy hqz hz hy;go_enter Tryz.func33,Tryz.ntmps33
 go_upto_region 1 with fail
 rw [<- hz2];clear hz2;refine wp_region_held_drew (S:=fun u=>Q z u) (by kernel_rfl) (by exact (Q.refl z).drew) (fun hHeld=>?_);have hS:Q z z.drew:=hHeld;clear hHeld;have hq:Q z z.drew:=(Q.refl _).drew;clear hq;generalize z.drew = yR3x0 at *;change wpAnyH _ _ _ _ _ _ #[ff,ff,ff,ff,ff,ff,ff,ff,ff,ff,ff] _ _;refine tk 0 (by simp only [gA,gB,gC];rfl) (by first | kernel_rfl | rfl) (fun uz _=>by go_simp;try with_reducible rfl) pq hS ?_;try simp only [Act.put,sA,sB,sC]
 refine tk 1 (by simp only [gA,gB,gC];rfl) (by first | kernel_rfl | rfl) (fun uz hSw=>by (try dsimp only at hSw);have hxx:=HB.out.q hSw;have d0:=hxx.cell 3 rfl;clear hxx;go_simp;try with_reducible rfl) pq hS ?_;try simp only [Act.put,sA,sB,sC]
 refine tk 2 (by simp only [gA,gB,gC];rfl) (by first | kernel_rfl | rfl) (fun uz _=>by go_simp;try with_reducible rfl) pq hS ?_;try simp only [Act.put,sA,sB,sC]
 refine tk 3 (by simp only [gA,gB,gC];rfl) (by first | kernel_rfl | rfl) (fun uz hSw=>by (try dsimp only at hSw);have hxx:=HB.out.q hSw;have d0:=hxx.cell 3 rfl;clear hxx;go_simp;try with_reducible rfl) pq hS ?_;try simp only [Act.put,sA,sB,sC]
 refine tk 4 (by simp only [gA,gB,gC];rfl) (by first | kernel_rfl | rfl) (fun uz _=>by go_simp;try with_reducible rfl) pq hS ?_;try simp only [Act.put,sA,sB,sC]
 refine tk 5 (by simp only [gA,gB,gC];rfl) (by first | kernel_rfl | rfl) (fun uz _=>by go_simp;try with_reducible rfl) pq hS ?_;try simp only [Act.put,sA,sB,sC]
 refine tk 6 (by simp only [gA,gB,gC];rfl) (by first | kernel_rfl | rfl) (fun uz hSw=>by (try dsimp only at hSw);have hxx:=HB.out.q hSw;have d0:=hxx.cell 3 rfl;clear hxx;go_simp;try with_reducible rfl) pq hS ?_;try simp only [Act.put,sA,sB,sC]
 refine wpAnyH_ready (rs:=[7]) (by kernel_rfl) (by simp) ?_;refine ar (by (try simp only [gA,gB,gC]);rfl) fun K hK=>?_;go_simp
 refine (HZB.out _ (HQ.out.trans hS)).mono ?_;rintro e yR3x8 ⟨rfl,hq⟩;try (go_wp2_with fail)
 have hS2:=Q.trans hS hq;refine hK.out _ _ (by exact hS2) (fun hHeld=>?_);clear hK K hHeld hS hq;have hS:=hS2;clear hS2;try simp only [Act.put,sA,sB,sC]
 refine tk 8 (by simp only [gA,gB,gC];rfl) (by first | kernel_rfl | rfl) (fun uz _=>by go_simp;try with_reducible rfl) pq hS ?_;try simp only [Act.put,sA,sB,sC]
 refine wpAnyH_ready (rs:=[9]) (by kernel_rfl) (by simp) ?_;refine ar (by (try simp only [gA,gB,gC]);rfl) fun K hK=>?_;go_simp
 refine (HCU.out _ (HQ.out.trans hS)).mono ?_;rintro e yR3x10 ⟨cu,rfl,hcu,hq⟩;have HCL:=Hd hcu;clear hcu;try (go_wp2_with fail)
 have hS2:=Q.trans hS hq;refine hK.out _ _ (by exact hS2) (fun hHeld=>?_);clear hK K hHeld hS hq;have hS:=hS2;clear hS2;try simp only [Act.put,sA,sB,sC]
 refine tk 10 (by simp only [gA,gB,gC];rfl) (by first | kernel_rfl | rfl) (fun uz _=>by go_simp;try with_reducible rfl) pq hS ?_;try simp only [Act.put,sA,sB,sC]
 refine wpAnyH_done (by kernel_rfl) ?_ _;have d1:=(HB.out.q hS).cell 1 rfl;go_wp2_with fail
 refine (HCT.out _ _ (HQ.out.trans hS) HCL.out).mono ?_;rintro e u2 ⟨va,vc,rfl,hv,hq2⟩;have HV:=Hd hv.lst;have HS2:=Hd ((hS.alloc _).trans hq2);clear hv hq2 d1;go_wp2_with fail
 refine (HTR.out _ _ HV.out).mono ?_;rintro e u3 ⟨v3,rfl,hv3,hq3⟩;obtain ⟨ta,tc,rfl,_,_⟩:=hv3.lst.form0 HR.out.symm;have HS3:=Hd (HS2.out.trans hq3);have HV3:=Hd hv3;have HB3:=Hd (HB.out.q HS3.out);have HD3:=Hd (HD.out.q HS3.out);clear hv3 hq3;have x0:=HB3.out.cell 0 rfl;have b0:=HD3.out.cell 0 rfl;have f0:=HD3.out.free 0;have b1:=HD3.out.cell 1 rfl;have f1:=HD3.out.free 1;have b2:=HD3.out.cell 2 rfl;have f2:=HD3.out.free 2;by_cases hr0:r = 0
 ·subst hr0
  have hZ0:=List.eq_nil_of_length_eq_zero HR.out.symm;obtain rfl:=HCC.out.2.2.2 hZ0;go_wp2_with fail
  refine ret_dec rfl rfl rfl (((HD3.out.set 0 _).set 1 _).set 2 _) rfl ⟨none,0,?_,?_,Q.setCell (Q.setCell (Q.setCell (HQ.out.trans HS3.out) HWD.out _) HWD.out _) HWD.out _⟩
  ·rw [Dm.st_zero,Dm.dg_zero,Dm.cg_zero];rfl
  ·rw [Dm.st_zero,Dm.dg_zero];exact Own.nil _ _
 ·have e0:((r:Int) == 0) = false:=by rw [beq_eq_false_iff_ne];omega
  have hM0:M ≠ 0:=fun h=>hr0 (by rw [HR.out,HCC.out.2.2.1 h];rfl);have hs2:=HCC.out.2.1 hM0;have hl1:=HCC.out.1;have HM0:=Hd hM0;have HS:=Hd hs2;have HL:=Hd hl1;clear hM0 hs2 hl1;go_wp2_with fail
  have hfin:=Own_past (Own_past (Own_past HV3.out HD3.out (by decide) 0 (.bool g)) (HD3.out.set 0 _) (by decide) 1 (.slice ta r tc)) ((HD3.out.set 0 _).set 1 _) (by decide) 2 (.int .i64 m);refine ret_dec rfl rfl rfl (((HD3.out.set 0 _).set 1 _).set 2 _) rfl ⟨ta,tc,?_,?_,Q.setCell (Q.setCell (Q.setCell (HQ.out.trans HS3.out) HWD.out _) HWD.out _) HWD.out _⟩
  ·rw [Dm.cg_pos HM0.out,HS.out,<- HL.out,<- HR.out];rfl
  ·rw [<- HL.out,<- HR.out];exact hfin.mono (by have:=HQ.out.le;have:=HS2.out.le;omega)
theorem dec_any (g s:Bool) (a1 a2:Option Addr) (n1 n2 c1 c2:Nat) (I F:List Int) (w:World) (hi:Lst w (.slice a1 n1 c1) I) (hf:Lst w (.slice a2 n2 c2) F) (k1:I.length = n1) (k2:F.length = n2) (l1:n1 <= 100000) (l2:n2 <= 100000) (hI:Dm.okD I) (hF:Dm.okD F) :
  Calls Tryz.prog 33 #[.agg #[.bool g,.slice a1 n1 c1,.bool s,.slice a2 n2 c2]] w fun e w'=>∃ a c,e = .returned (.agg #[.bool (Dm.cg g (Dm.num (I ++ F))),.slice a (Dm.dg (Dm.st (Dm.num (I ++ F)) n2).1).length c,.int .i64 ((Dm.st (Dm.num (I ++ F)) n2).2:Nat)]) /\ Lst w' (.slice a (Dm.dg (Dm.st (Dm.num (I ++ F)) n2).1).length c) (Dm.dg (Dm.st (Dm.num (I ++ F)) n2).1) /\ Q w w':=by
 refine (dec_own g s a1 a2 n1 n2 c1 c2 I F w hi hf k1 k2 l1 l2 hI hF).mono ?_;rintro e w' ⟨a,c,rfl,ho,hq⟩;exact ⟨a,c,rfl,ho.lst,hq⟩
end Tp
end
end Go.Proofs.YtdjhkbholijnmaaGreatDoor
