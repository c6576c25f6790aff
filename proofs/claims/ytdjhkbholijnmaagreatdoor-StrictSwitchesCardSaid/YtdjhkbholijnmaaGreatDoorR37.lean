/- What stands around a number; the document's example. (and more) -/
import Derived.Test.YtdjhkbholijnmaaGreatDoorR36
import Derived.Laws.Rows
set_option linter.all false
set_option maxRecDepth 100000
set_option maxHeartbeats 8000000
namespace Go.Proofs.YtdjhkbholijnmaaGreatDoor
section
open Go.RowKit
namespace Lo
open Um Cm Gm
theorem parts_any (g:Nat) (r:Lm.Rec) (X:Pt.Pat) (a b c d cl v:Value) (A:List Pc.E) (w:World) (hB:LB w g r X a b c d cl) (hv:Pc.LstP w v A) (hA:A.length <= 1000) (hz:(Lm.atx r A).length <= 100000) (hm:∀ x ∈ A,x.1 = 3 -> x.2 = []) :
  Calls Tryz.prog 76 #[.pointer (some ⟨g,0,none⟩),v] w fun e w'=>∃ u,e = .returned u /\ Pb.LstP w' u (parP r A) /\ Q w w':=by
 rcases mPl_bd A 0 with h | ⟨h1,h2⟩
 ·exact parts_none g r X a b c d cl v A w hB hv hA hz hm h
 ·exact parts_some g r X a b c d cl v A w hB hv hA hz hm (mPl A 0).toNat (by omega) (by omega)
theorem parts_ok (g:Nat) (r:Lm.Rec) (X:Pt.Pat) (a b c d cl v:Value) (A:List Pc.E) (w:World) (hO:Lm.Ok r X) (hB:LB w g r X a b c d cl) (hv:Pc.LstP w v A) (hm:A ∈ Lm.affs X) :
  Calls Tryz.prog 76 #[.pointer (some ⟨g,0,none⟩),v] w fun e w'=>∃ u,e = .returned u /\ Pb.LstP w' u (parP r A) /\ Q w w' :=
 parts_any g r X a b c d cl v A w hB hv (by have:=(hO.aff A hm).1;omega) (by have:=hO.len A hm;omega) (fun x hx h3=>((hO.aff A hm).2 x hx).2.2.2 (by omega))
theorem around_true (g:Nat) (r:Lm.Rec) (X:Pt.Pat) (a b c d cl:Value) (w:World) (hO:Lm.Ok r X) (hB:LB w g r X a b c d cl) :
  Calls Tryz.prog 46 #[.pointer (some ⟨g,0,none⟩),.bool true] w fun e w'=>∃ u v,e = .returned (.tuple #[u,v]) /\ Pb.LstP w' u (parP r X.npre) /\ Pb.LstP w' v (parP r X.nsuf) /\ Q w w':=by
 have HP1:=Hd (fun u (hq:Q w u)=>parts_ok g r X a b c d cl c X.npre u hO (hB.q hq) ((hB.2.2.2.1).q hq) (by simp [Lm.affs]));have HP2:=Hd (fun u (hq:Q w u)=>parts_ok g r X a b c d cl d X.nsuf u hO (hB.q hq) ((hB.2.2.2.2).q hq) (by simp [Lm.affs]));have HB:=Hd hB.1;obtain ⟨y1,y2,hy⟩:=(hB.2.2.2.1).shape;obtain ⟨z1,z2,hz⟩:=(hB.2.2.2.2).shape;subst hy hz;generalize X.npre.length = n1 at *;generalize X.nsuf.length = n2 at *;generalize parP r X.npre = R1 at *;generalize parP r X.nsuf = R2 at *;clear hB hO;go_enter Tryz.func46,Tryz.ntmps46
 go_upto_region 2 with fail
 refine wp_region_held_drew (S:=fun u=>Q w u) (by kernel_rfl) (by exact (Q.refl w).drew) (fun hHeld=>?_);have hS:Q w w.drew:=hHeld;clear hHeld;have hq:Q w w.drew:=(Q.refl _).drew;clear hq;generalize w.drew = yR1x0 at *;refine tk 0 (by simp only [gA,gB,gC];rfl) (by first | kernel_rfl | rfl) (fun uz _=>by go_simp;try with_reducible rfl) pq hS ?_;try simp only [Act.put,sA,sB,sC]
 refine tk 1 (by simp only [gA,gB,gC];rfl) (by first | kernel_rfl | rfl) (fun uz _=>by go_simp;try with_reducible rfl) pq hS ?_;try simp only [Act.put,sA,sB,sC]
 refine tk 2 (by simp only [gA,gB,gC];rfl) (by first | kernel_rfl | rfl) (fun uz _=>by go_simp;try with_reducible rfl) pq hS ?_;try simp only [Act.put,sA,sB,sC]
 refine tk 3 (by simp only [gA,gB,gC];rfl) (by first | kernel_rfl | rfl) (fun uz _=>by go_simp;try with_reducible rfl) pq hS ?_;try simp only [Act.put,sA,sB,sC]
 refine tk 4 (by simp only [gA,gB,gC];rfl) (by first | kernel_rfl | rfl) (fun uz _=>by go_simp;try with_reducible rfl) pq hS ?_;try simp only [Act.put,sA,sB,sC]
 refine tk 5 (by simp only [gA,gB,gC];rfl) (by first | kernel_rfl | rfl) (fun uz hSw=>by (try dsimp only at hSw);have kb:=HB.out.q hSw;have k1:=kb.cell 10 rfl;have k2:=kb.cell 11 rfl;clear kb;go_simp;try with_reducible rfl) pq hS ?_;try simp only [Act.put,sA,sB,sC]
 refine tk 7 (by simp only [gA,gB,gC];rfl) (by first | kernel_rfl | rfl) (fun uz _=>by go_simp;try with_reducible rfl) pq hS ?_;try simp only [Act.put,sA,sB,sC]
 refine tk 8 (by simp only [gA,gB,gC];rfl) (by first | kernel_rfl | rfl) (fun uz _=>by go_simp;try with_reducible rfl) pq hS ?_;try simp only [Act.put,sA,sB,sC]
 refine tk 9 (by simp only [gA,gB,gC];rfl) (by first | kernel_rfl | rfl) (fun uz _=>by go_simp;try with_reducible rfl) pq hS ?_;try simp only [Act.put,sA,sB,sC]
 refine tk 10 (by simp only [gA,gB,gC];rfl) (by first | kernel_rfl | rfl) (fun uz _=>by go_simp;try with_reducible rfl) pq hS ?_;try simp only [Act.put,sA,sB,sC]
 refine tk 11 (by simp only [gA,gB,gC];rfl) (by first | kernel_rfl | rfl) (fun uz _=>by go_simp;try with_reducible rfl) pq hS ?_;try simp only [Act.put,sA,sB,sC]
 refine tk 12 (by simp only [gA,gB,gC];rfl) (by first | kernel_rfl | rfl) (fun uz hSw=>by (try dsimp only at hSw);have kb:=HB.out.q hSw;have k1:=kb.cell 10 rfl;have k2:=kb.cell 11 rfl;clear kb;go_simp;try with_reducible rfl) pq hS ?_;try simp only [Act.put,sA,sB,sC]
 refine wpAnyH_ready (rs:=[6]) (by kernel_rfl) (by simp) ?_;refine ar rfl fun K hK=>?_;go_simp
 refine (HP1.out _ hS).mono ?_;rintro e yR1x13 ⟨u1,rfl,hu1,hq⟩;have HU1:=Hd hu1;obtain ⟨ua,uc,rfl⟩:=hu1.shape;clear hu1;generalize R1.length = m1 at *;try (go_wp2_with fail)
 have hS2:=Q.trans hS hq;refine hK.out _ _ (by exact hS2) (fun hHeld=>?_);clear hK K hHeld hS hq;have hS:=hS2;clear hS2;try simp only [Act.put,sA,sB,sC]
 refine wpAnyH_ready (rs:=[13]) (by kernel_rfl) (by simp) ?_;refine ar rfl fun K hK=>?_;go_simp
 refine (HP2.out _ hS).mono ?_;rintro e yR1x14 ⟨u2,rfl,hu2,hq⟩;have HU2:=Hd hu2;obtain ⟨va,vc,rfl⟩:=hu2.shape;clear hu2;generalize R2.length = m2 at *;try (go_wp2_with fail)
 have HU1:=Hd (Pb.LstP.q HU1.out hq);have hS2:=Q.trans hS hq;refine hK.out _ _ (by exact hS2) (fun hHeld=>?_);clear hK K hHeld hS hq;have hS:=hS2;clear hS2;try simp only [Act.put,sA,sB,sC]
 refine tk 14 (by simp only [gA,gB,gC];rfl) (by first | kernel_rfl | rfl) (fun uz _=>by go_simp;try with_reducible rfl) pq hS ?_;try simp only [Act.put,sA,sB,sC]
 refine tk 15 (by simp only [gA,gB,gC];rfl) (by first | kernel_rfl | rfl) (fun uz _=>by go_simp;try with_reducible rfl) pq hS ?_;try simp only [Act.put,sA,sB,sC]
 refine wpAnyH_done (by kernel_rfl) ?_ _;have HQ:=Hd hS;clear hS;go_wp2_with fail
 trace_state
 first
  | (rename_i dx1 d1 hx1 dx2 d2 hx2;have hy1:(some 5:Option Tmp) = some d1:=hx1;have hy2:(some 4:Option Tmp) = some d2:=hx2;obtain rfl:=Option.some.inj hy1;obtain rfl:=Option.some.inj hy2;clear hx1 hx2 hy1 hy2)
  | (rename_i dx1 d1 hx1;have hy1:(some 5:Option Tmp) = some d1:=hx1;obtain rfl:=Option.some.inj hy1;clear hx1 hy1)
  | skip
 go_ret2
 exact ⟨_,_,rfl,HU1.out,HU2.out,HQ.out⟩
theorem around_false (g:Nat) (r:Lm.Rec) (X:Pt.Pat) (a b c d cl:Value) (w:World) (hO:Lm.Ok r X) (hB:LB w g r X a b c d cl) :
  Calls Tryz.prog 46 #[.pointer (some ⟨g,0,none⟩),.bool false] w fun e w'=>∃ u v,e = .returned (.tuple #[u,v]) /\ Pb.LstP w' u (parP r X.pre) /\ Pb.LstP w' v (parP r X.suf) /\ Q w w':=by
 have HP1:=Hd (fun u (hq:Q w u)=>parts_ok g r X a b c d cl a X.pre u hO (hB.q hq) ((hB.2.1).q hq) (by simp [Lm.affs]));have HP2:=Hd (fun u (hq:Q w u)=>parts_ok g r X a b c d cl b X.suf u hO (hB.q hq) ((hB.2.2.1).q hq) (by simp [Lm.affs]));have HB:=Hd hB.1;obtain ⟨y1,y2,hy⟩:=(hB.2.1).shape;obtain ⟨z1,z2,hz⟩:=(hB.2.2.1).shape;subst hy hz;generalize X.pre.length = n1 at *;generalize X.suf.length = n2 at *;generalize parP r X.pre = R1 at *;generalize parP r X.suf = R2 at *;clear hB hO;go_enter Tryz.func46,Tryz.ntmps46
 go_upto_region 3 with fail
 refine wp_region_held_drew (S:=fun u=>Q w u) (by kernel_rfl) (by exact (Q.refl w).drew) (fun hHeld=>?_);have hS:Q w w.drew:=hHeld;clear hHeld;have hq:Q w w.drew:=(Q.refl _).drew;clear hq;generalize w.drew = yR2x0 at *;refine tk 0 (by simp only [gA,gB,gC];rfl) (by first | kernel_rfl | rfl) (fun uz _=>by go_simp;try with_reducible rfl) pq hS ?_;try simp only [Act.put,sA,sB,sC]
 refine tk 1 (by simp only [gA,gB,gC];rfl) (by first | kernel_rfl | rfl) (fun uz _=>by go_simp;try with_reducible rfl) pq hS ?_;try simp only [Act.put,sA,sB,sC]
 refine tk 2 (by simp only [gA,gB,gC];rfl) (by first | kernel_rfl | rfl) (fun uz _=>by go_simp;try with_reducible rfl) pq hS ?_;try simp only [Act.put,sA,sB,sC]
 refine tk 3 (by simp only [gA,gB,gC];rfl) (by first | kernel_rfl | rfl) (fun uz _=>by go_simp;try with_reducible rfl) pq hS ?_;try simp only [Act.put,sA,sB,sC]
 refine tk 4 (by simp only [gA,gB,gC];rfl) (by first | kernel_rfl | rfl) (fun uz _=>by go_simp;try with_reducible rfl) pq hS ?_;try simp only [Act.put,sA,sB,sC]
 refine tk 5 (by simp only [gA,gB,gC];rfl) (by first | kernel_rfl | rfl) (fun uz hSw=>by (try dsimp only at hSw);have kb:=HB.out.q hSw;have k1:=kb.cell 8 rfl;have k2:=kb.cell 9 rfl;clear kb;go_simp;try with_reducible rfl) pq hS ?_;try simp only [Act.put,sA,sB,sC]
 refine tk 7 (by simp only [gA,gB,gC];rfl) (by first | kernel_rfl | rfl) (fun uz _=>by go_simp;try with_reducible rfl) pq hS ?_;try simp only [Act.put,sA,sB,sC]
 refine tk 8 (by simp only [gA,gB,gC];rfl) (by first | kernel_rfl | rfl) (fun uz _=>by go_simp;try with_reducible rfl) pq hS ?_;try simp only [Act.put,sA,sB,sC]
 refine tk 9 (by simp only [gA,gB,gC];rfl) (by first | kernel_rfl | rfl) (fun uz _=>by go_simp;try with_reducible rfl) pq hS ?_;try simp only [Act.put,sA,sB,sC]
 refine tk 10 (by simp only [gA,gB,gC];rfl) (by first | kernel_rfl | rfl) (fun uz _=>by go_simp;try with_reducible rfl) pq hS ?_;try simp only [Act.put,sA,sB,sC]
 refine tk 11 (by simp only [gA,gB,gC];rfl) (by first | kernel_rfl | rfl) (fun uz _=>by go_simp;try with_reducible rfl) pq hS ?_;try simp only [Act.put,sA,sB,sC]
 refine tk 12 (by simp only [gA,gB,gC];rfl) (by first | kernel_rfl | rfl) (fun uz hSw=>by (try dsimp only at hSw);have kb:=HB.out.q hSw;have k1:=kb.cell 8 rfl;have k2:=kb.cell 9 rfl;clear kb;go_simp;try with_reducible rfl) pq hS ?_;try simp only [Act.put,sA,sB,sC]
 refine wpAnyH_ready (rs:=[6]) (by kernel_rfl) (by simp) ?_;refine ar rfl fun K hK=>?_;go_simp
 refine (HP1.out _ hS).mono ?_;rintro e yR2x13 ⟨u1,rfl,hu1,hq⟩;have HU1:=Hd hu1;obtain ⟨ua,uc,rfl⟩:=hu1.shape;clear hu1;generalize R1.length = m1 at *;try (go_wp2_with fail)
 have hS2:=Q.trans hS hq;refine hK.out _ _ (by exact hS2) (fun hHeld=>?_);clear hK K hHeld hS hq;have hS:=hS2;clear hS2;try simp only [Act.put,sA,sB,sC]
 refine wpAnyH_ready (rs:=[13]) (by kernel_rfl) (by simp) ?_;refine ar rfl fun K hK=>?_;go_simp
 refine (HP2.out _ hS).mono ?_;rintro e yR2x14 ⟨u2,rfl,hu2,hq⟩;have HU2:=Hd hu2;obtain ⟨va,vc,rfl⟩:=hu2.shape;clear hu2;generalize R2.length = m2 at *;try (go_wp2_with fail)
 have HU1:=Hd (Pb.LstP.q HU1.out hq);have hS2:=Q.trans hS hq;refine hK.out _ _ (by exact hS2) (fun hHeld=>?_);clear hK K hHeld hS hq;have hS:=hS2;clear hS2;try simp only [Act.put,sA,sB,sC]
 refine tk 14 (by simp only [gA,gB,gC];rfl) (by first | kernel_rfl | rfl) (fun uz _=>by go_simp;try with_reducible rfl) pq hS ?_;try simp only [Act.put,sA,sB,sC]
 refine tk 15 (by simp only [gA,gB,gC];rfl) (by first | kernel_rfl | rfl) (fun uz _=>by go_simp;try with_reducible rfl) pq hS ?_;try simp only [Act.put,sA,sB,sC]
 refine wpAnyH_done (by kernel_rfl) ?_ _;have HQ:=Hd hS;clear hS;go_wp2_with fail
 trace_state
 first
  | (rename_i dx1 d1 hx1 dx2 d2 hx2;have hy1:(some 5:Option Tmp) = some d1:=hx1;have hy2:(some 4:Option Tmp) = some d2:=hx2;obtain rfl:=Option.some.inj hy1;obtain rfl:=Option.some.inj hy2;clear hx1 hx2 hy1 hy2)
  | (rename_i dx1 d1 hx1;have hy1:(some 5:Option Tmp) = some d1:=hx1;obtain rfl:=Option.some.inj hy1;clear hx1 hy1)
  | skip
 go_ret2
 exact ⟨_,_,rfl,HU1.out,HU2.out,HQ.out⟩
end Lo
end
section
open Go.RowKit
namespace Ft
open Um Cm Gm
def Par (p:Nat):Prop:=∀ u,Calls Tryz.prog 54 #[.string (Lm.bs (Fm.ptB.getD p []))] u fun e w'=>∃ v,e = .returned (.tuple #[v,.int .i64 0]) /\ Pg.PV w' u.heap.size v (Fm.P p) /\ Q u w'
theorem par_of {p:Nat} (hp:p < 14) (h:∀ u,Calls Tryz.prog 54 #[.string ⟨(joinL (Fm.ptC.getD p [])).toArray⟩] u fun e w'=>∃ v,e = .returned (.tuple #[v,.int .i64 0]) /\ Pg.PV w' u.heap.size v (Pt.parseC (Fm.ptC.getD p [])).1 /\ Q u w'):Par p:=by
 obtain ⟨h1,h2,_⟩:=Fm.ptC_B p hp;rw [h1,h2] at h;exact h
theorem par0:Par 0:=par_of (by omega) (Pg.parse1 (cs:=Fm.ptC.getD 0 []) (by decide +kernel) (by decide +kernel) (P:=[(1,164)]) (N:=[(4,35),(4,44),(4,35),(4,35),(4,48),(4,46),(4,48),(4,48)]) (S:=[]) (c:=false) (by decide +kernel) ⟨(by unfold Pt.okT;decide +kernel),(by unfold Pt.okT;decide +kernel),(by decide +kernel)⟩ (by decide +kernel) (by decide +kernel) (by decide +kernel))
theorem par1:Par 1:=par_of (by omega) (Pg.parse1 (cs:=Fm.ptC.getD 1 []) (by decide +kernel) (by decide +kernel) (P:=[]) (N:=[(4,48),(4,46),(4,48),(4,48)]) (S:=[(0,160),(1,164)]) (c:=false) (by decide +kernel) ⟨(by unfold Pt.okT;decide +kernel),(by unfold Pt.okT;decide +kernel),(by decide +kernel)⟩ (by decide +kernel) (by decide +kernel) (by decide +kernel))
theorem par2:Par 2:=par_of (by omega) (Pg.parse1 (cs:=Fm.ptC.getD 2 []) (by decide +kernel) (by decide +kernel) (P:=[]) (N:=[(4,35),(4,44),(4,35),(4,35),(4,44),(4,35),(4,35),(4,48),(4,46),(4,48),(4,48)]) (S:=[(1,164)]) (c:=false) (by decide +kernel) ⟨(by unfold Pt.okT;decide +kernel),(by unfold Pt.okT;decide +kernel),(by decide +kernel)⟩ (by decide +kernel) (by decide +kernel) (by decide +kernel))
theorem par3:Par 3:=par_of (by omega) (Pg.parse1 (cs:=Fm.ptC.getD 3 []) (by decide +kernel) (by decide +kernel) (P:=[]) (N:=[(4,35),(4,44),(4,35),(4,35),(4,48),(4,46),(4,48),(4,48)]) (S:=[(0,160),(1,164)]) (c:=false) (by decide +kernel) ⟨(by unfold Pt.okT;decide +kernel),(by unfold Pt.okT;decide +kernel),(by decide +kernel)⟩ (by decide +kernel) (by decide +kernel) (by decide +kernel))
theorem par4:Par 4:=par_of (by omega) (Pg.parse1 (cs:=Fm.ptC.getD 4 []) (by decide +kernel) (by decide +kernel) (P:=[(1,164),(0,160)]) (N:=[(4,35),(4,44),(4,35),(4,35),(4,48),(4,46),(4,48),(4,48)]) (S:=[]) (c:=false) (by decide +kernel) ⟨(by unfold Pt.okT;decide +kernel),(by unfold Pt.okT;decide +kernel),(by decide +kernel)⟩ (by decide +kernel) (by decide +kernel) (by decide +kernel))
theorem par5:Par 5:=par_of (by omega) (Pg.parse2 (cs:=Fm.ptC.getD 5 []) (by decide +kernel) (by decide +kernel) (P:=[(1,164),(0,160)]) (N:=[(4,35),(4,44),(4,35),(4,35),(4,48),(4,46),(4,48),(4,48)]) (S:=[]) (P':=[(1,164),(3,45)]) (N':=[(4,35),(4,44),(4,35),(4,35),(4,48),(4,46),(4,48),(4,48)]) (S':=[]) (c:=false) (by decide +kernel) ⟨(by unfold Pt.okT;decide +kernel),(by unfold Pt.okT;decide +kernel),(by decide +kernel)⟩ (by decide +kernel) (by decide +kernel) (by decide +kernel) ⟨(by unfold Pt.okT;decide +kernel),(by unfold Pt.okT;decide +kernel),(by decide +kernel)⟩ (by decide +kernel) (by decide +kernel) (by decide +kernel))
theorem par6:Par 6:=par_of (by omega) (Pg.parse1 (cs:=Fm.ptC.getD 6 []) (by decide +kernel) (by decide +kernel) (P:=[(1,164)]) (N:=[(4,35),(4,44),(4,35),(4,35),(4,44),(4,35),(4,35),(4,48),(4,46),(4,48),(4,48)]) (S:=[]) (c:=false) (by decide +kernel) ⟨(by unfold Pt.okT;decide +kernel),(by unfold Pt.okT;decide +kernel),(by decide +kernel)⟩ (by decide +kernel) (by decide +kernel) (by decide +kernel))
theorem par7:Par 7:=par_of (by omega) (Pg.parse1 (cs:=Fm.ptC.getD 7 []) (by decide +kernel) (by decide +kernel) (P:=[]) (N:=[(4,35),(4,44),(4,35),(4,35),(4,48),(4,46),(4,48),(4,48)]) (S:=[]) (c:=false) (by decide +kernel) ⟨(by unfold Pt.okT;decide +kernel),(by unfold Pt.okT;decide +kernel),(by decide +kernel)⟩ (by decide +kernel) (by decide +kernel) (by decide +kernel))
theorem par8:Par 8:=par_of (by omega) (Pg.parse1 (cs:=Fm.ptC.getD 8 []) (by decide +kernel) (by decide +kernel) (P:=[(1,164)]) (N:=[(4,35),(4,44),(4,35),(4,35),(4,48)]) (S:=[]) (c:=false) (by decide +kernel) ⟨(by unfold Pt.okT;decide +kernel),(by unfold Pt.okT;decide +kernel),(by decide +kernel)⟩ (by decide +kernel) (by decide +kernel) (by decide +kernel))
theorem par9:Par 9:=par_of (by omega) (Pg.parse1 (cs:=Fm.ptC.getD 9 []) (by decide +kernel) (by decide +kernel) (P:=[]) (N:=[(4,35),(4,44),(4,35),(4,35),(4,48),(4,46),(4,48),(4,48)]) (S:=[(1,164)]) (c:=false) (by decide +kernel) ⟨(by unfold Pt.okT;decide +kernel),(by unfold Pt.okT;decide +kernel),(by decide +kernel)⟩ (by decide +kernel) (by decide +kernel) (by decide +kernel))
theorem par10:Par 10:=par_of (by omega) (Pg.parse2 (cs:=Fm.ptC.getD 10 []) (by decide +kernel) (by decide +kernel) (P:=[(1,164)]) (N:=[(4,35),(4,44),(4,35),(4,35),(4,48),(4,46),(4,48),(4,48)]) (S:=[]) (P':=[(1,164),(3,45)]) (N':=[(4,35),(4,44),(4,35),(4,35),(4,48),(4,46),(4,48),(4,48)]) (S':=[]) (c:=false) (by decide +kernel) ⟨(by unfold Pt.okT;decide +kernel),(by unfold Pt.okT;decide +kernel),(by decide +kernel)⟩ (by decide +kernel) (by decide +kernel) (by decide +kernel) ⟨(by unfold Pt.okT;decide +kernel),(by unfold Pt.okT;decide +kernel),(by decide +kernel)⟩ (by decide +kernel) (by decide +kernel) (by decide +kernel))
theorem par11:Par 11:=par_of (by omega) (Pg.parse2 (cs:=Fm.ptC.getD 11 []) (by decide +kernel) (by decide +kernel) (P:=[(1,164),(0,160)]) (N:=[(4,35),(4,44),(4,35),(4,35),(4,48),(4,46),(4,48),(4,48)]) (S:=[]) (P':=[(1,164),(0,160),(3,45)]) (N':=[(4,35),(4,44),(4,35),(4,35),(4,48),(4,46),(4,48),(4,48)]) (S':=[]) (c:=false) (by decide +kernel) ⟨(by unfold Pt.okT;decide +kernel),(by unfold Pt.okT;decide +kernel),(by decide +kernel)⟩ (by decide +kernel) (by decide +kernel) (by decide +kernel) ⟨(by unfold Pt.okT;decide +kernel),(by unfold Pt.okT;decide +kernel),(by decide +kernel)⟩ (by decide +kernel) (by decide +kernel) (by decide +kernel))
theorem par12:Par 12:=par_of (by omega) (Pg.parse1 (cs:=Fm.ptC.getD 12 []) (by decide +kernel) (by decide +kernel) (P:=[]) (N:=[(4,35),(4,44),(4,35),(4,35),(4,48),(4,46),(4,35),(4,35)]) (S:=[(2,37)]) (c:=false) (by decide +kernel) ⟨(by unfold Pt.okT;decide +kernel),(by unfold Pt.okT;decide +kernel),(by decide +kernel)⟩ (by decide +kernel) (by decide +kernel) (by decide +kernel))
theorem par13:Par 13:=par_of (by omega) (Pg.parse1 (cs:=Fm.ptC.getD 13 []) (by decide +kernel) (by decide +kernel) (P:=[(1,164),(0,160)]) (N:=[(4,35),(4,44),(4,35),(4,35),(4,44),(4,35),(4,35),(4,48),(4,46),(4,48),(4,48)]) (S:=[]) (c:=false) (by decide +kernel) ⟨(by unfold Pt.okT;decide +kernel),(by unfold Pt.okT;decide +kernel),(by decide +kernel)⟩ (by decide +kernel) (by decide +kernel) (by decide +kernel))
theorem par_all:∀ p,p < 14 -> Par p:=fun p hp=>match p,hp with
 | 0,_=>par0
 | 1,_=>par1
 | 2,_=>par2
 | 3,_=>par3
 | 4,_=>par4
 | 5,_=>par5
 | 6,_=>par6
 | 7,_=>par7
 | 8,_=>par8
 | 9,_=>par9
 | 10,_=>par10
 | 11,_=>par11
 | 12,_=>par12
 | 13,_=>par13
 | n + 14,h=>absurd h (by omega)
theorem new_forty (i:Nat) (hi:i < 40) (w:World) :
  Calls Tryz.prog 29 #[Lo.recV (Fm.T i)] w fun e w'=>∃ g a b c d cl,e = .returned (.tuple #[.pointer (some ⟨g,0,none⟩),Value.nilIface]) /\ Lo.LB w' g (Fm.T i) (Fm.P (Fm.nP i)) a b c d cl /\ SLst w' cl (Lm.clus (Fm.T i) (Fm.P (Fm.nP i))) /\ Q w w' :=
 Lo.new_ok _ _ w (Fm.f_ok i hi) (by rw [Fm.pat_of i hi];exact par_all _ (Fm.nP_lt i hi))
end Ft
end
section
open Go.RowKit
namespace Lo
open Um Cm Gm
def Par (p:Nat):Prop:=∀ u,Calls Tryz.prog 54 #[.string (Lm.bs (Lm.patB.getD p []))] u fun e w'=>∃ v,e = .returned (.tuple #[v,.int .i64 0]) /\ Pg.PV w' u.heap.size v (Lm.pX p) /\ Q u w'
theorem par_of {p:Nat} (hp:p < 10) (h:∀ u,Calls Tryz.prog 54 #[.string ⟨(joinL (Lm.patC.getD p [])).toArray⟩] u fun e w'=>∃ v,e = .returned (.tuple #[v,.int .i64 0]) /\ Pg.PV w' u.heap.size v (Pt.parseC (Lm.patC.getD p [])).1 /\ Q u w'):Par p:=by
 obtain ⟨h1,h2,_⟩:=Lm.f_pat p hp;rw [h1,h2] at h;exact h
theorem par0:Par 0:=par_of (by omega) (Pg.parse1 (cs:=Lm.patC.getD 0 []) (by decide +kernel) (by decide +kernel) (P:=[]) (N:=[(4,35),(4,44),(4,35),(4,35),(4,48),(4,46),(4,48),(4,48)]) (S:=[]) (c:=false) (by decide +kernel) ⟨(by unfold Pt.okT;decide +kernel),(by unfold Pt.okT;decide +kernel),(by decide +kernel)⟩ (by decide +kernel) (by decide +kernel) (by decide +kernel))
theorem par1:Par 1:=par_of (by omega) (Pg.parse1 (cs:=Lm.patC.getD 1 []) (by decide +kernel) (by decide +kernel) (P:=[]) (N:=[(4,48),(4,46),(4,35),(4,35)]) (S:=[]) (c:=false) (by decide +kernel) ⟨(by unfold Pt.okT;decide +kernel),(by unfold Pt.okT;decide +kernel),(by decide +kernel)⟩ (by decide +kernel) (by decide +kernel) (by decide +kernel))
theorem par2:Par 2:=par_of (by omega) (Pg.parse1 (cs:=Lm.patC.getD 2 []) (by decide +kernel) (by decide +kernel) (P:=[]) (N:=[(4,35),(4,44),(4,35),(4,35),(4,44),(4,35),(4,35),(4,48),(4,46),(4,35),(4,35),(4,35)]) (S:=[]) (c:=false) (by decide +kernel) ⟨(by unfold Pt.okT;decide +kernel),(by unfold Pt.okT;decide +kernel),(by decide +kernel)⟩ (by decide +kernel) (by decide +kernel) (by decide +kernel))
theorem par3:Par 3:=par_of (by omega) (Pg.parse1 (cs:=Lm.patC.getD 3 []) (by decide +kernel) (by decide +kernel) (P:=[(1,164)]) (N:=[(4,35),(4,44),(4,35),(4,35),(4,48),(4,46),(4,48),(4,48)]) (S:=[]) (c:=false) (by decide +kernel) ⟨(by unfold Pt.okT;decide +kernel),(by unfold Pt.okT;decide +kernel),(by decide +kernel)⟩ (by decide +kernel) (by decide +kernel) (by decide +kernel))
theorem par4:Par 4:=par_of (by omega) (Pg.parse1 (cs:=Lm.patC.getD 4 []) (by decide +kernel) (by decide +kernel) (P:=[]) (N:=[(4,35),(4,44),(4,35),(4,35),(4,48),(4,46),(4,48),(4,48)]) (S:=[(0,120),(1,164)]) (c:=false) (by decide +kernel) ⟨(by unfold Pt.okT;decide +kernel),(by unfold Pt.okT;decide +kernel),(by decide +kernel)⟩ (by decide +kernel) (by decide +kernel) (by decide +kernel))
theorem par5:Par 5:=par_of (by omega) (Pg.parse2 (cs:=Lm.patC.getD 5 []) (by decide +kernel) (by decide +kernel) (P:=[(1,164),(0,120)]) (N:=[(4,35),(4,44),(4,35),(4,35),(4,48),(4,46),(4,48),(4,48)]) (S:=[]) (P':=[(0,40),(1,164),(0,120),(3,45)]) (N':=[(4,35)]) (S':=[(0,41)]) (c:=false) (by decide +kernel) ⟨(by unfold Pt.okT;decide +kernel),(by unfold Pt.okT;decide +kernel),(by decide +kernel)⟩ (by decide +kernel) (by decide +kernel) (by decide +kernel) ⟨(by unfold Pt.okT;decide +kernel),(by unfold Pt.okT;decide +kernel),(by decide +kernel)⟩ (by decide +kernel) (by decide +kernel) (by decide +kernel))
theorem par6:Par 6:=par_of (by omega) (Pg.parse1 (cs:=Lm.patC.getD 6 []) (by decide +kernel) (by decide +kernel) (P:=[]) (N:=[(4,35),(4,44),(4,35),(4,35),(4,48)]) (S:=[(2,37)]) (c:=false) (by decide +kernel) ⟨(by unfold Pt.okT;decide +kernel),(by unfold Pt.okT;decide +kernel),(by decide +kernel)⟩ (by decide +kernel) (by decide +kernel) (by decide +kernel))
theorem par7:Par 7:=par_of (by omega) (Pg.parse2 (cs:=Lm.patC.getD 7 []) (by decide +kernel) (by decide +kernel) (P:=[]) (N:=[(4,48),(4,46),(4,48)]) (S:=[]) (P':=[]) (N':=[(4,48),(4,46),(4,48)]) (S':=[(3,45)]) (c:=false) (by decide +kernel) ⟨(by unfold Pt.okT;decide +kernel),(by unfold Pt.okT;decide +kernel),(by decide +kernel)⟩ (by decide +kernel) (by decide +kernel) (by decide +kernel) ⟨(by unfold Pt.okT;decide +kernel),(by unfold Pt.okT;decide +kernel),(by decide +kernel)⟩ (by decide +kernel) (by decide +kernel) (by decide +kernel))
theorem par8:Par 8:=par_of (by omega) (Pg.parse2 (cs:=Lm.patC.getD 8 []) (by decide +kernel) (by decide +kernel) (P:=[]) (N:=[(4,35),(4,44),(4,35),(4,35),(4,35),(4,48),(4,46),(4,48),(4,48)]) (S:=[(0,121)]) (P':=[(0,121)]) (N':=[(4,35),(4,44),(4,35),(4,35),(4,48),(4,46),(4,48),(4,48)]) (S':=[(3,45),(0,121)]) (c:=false) (by decide +kernel) ⟨(by unfold Pt.okT;decide +kernel),(by unfold Pt.okT;decide +kernel),(by decide +kernel)⟩ (by decide +kernel) (by decide +kernel) (by decide +kernel) ⟨(by unfold Pt.okT;decide +kernel),(by unfold Pt.okT;decide +kernel),(by decide +kernel)⟩ (by decide +kernel) (by decide +kernel) (by decide +kernel))
theorem par9:Par 9:=par_of (by omega) (Pg.parse2 (cs:=Lm.patC.getD 9 []) (by decide +kernel) (by decide +kernel) (P:=[]) (N:=[(4,35),(4,44),(4,35),(4,35),(4,44),(4,35),(4,48),(4,46),(4,35)]) (S:=[]) (P':=[(0,35)]) (N':=[(4,35)]) (S':=[(3,45),(0,35)]) (c:=true) (by decide +kernel) ⟨(by unfold Pt.okT;decide +kernel),(by unfold Pt.okT;decide +kernel),(by decide +kernel)⟩ (by decide +kernel) (by decide +kernel) (by decide +kernel) ⟨(by unfold Pt.okT;decide +kernel),(by unfold Pt.okT;decide +kernel),(by decide +kernel)⟩ (by decide +kernel) (by decide +kernel) (by decide +kernel))
theorem par_all:∀ p,p < 10 -> Par p:=fun p hp=>match p,hp with
 | 0,_=>par0
 | 1,_=>par1
 | 2,_=>par2
 | 3,_=>par3
 | 4,_=>par4
 | 5,_=>par5
 | 6,_=>par6
 | 7,_=>par7
 | 8,_=>par8
 | 9,_=>par9
end Lo
end
section
open Go.RowKit
namespace Ro
open Um Cm Gm Lo
theorem arr6 {cs:Array Value} (h:cs.size = 6):∃ a b c d e f,cs = #[a,b,c,d,e,f]:=by
 obtain ⟨l⟩:=cs;match l,h with
 | [a,b,c,d,e,f],_=>exact ⟨a,b,c,d,e,f,rfl⟩
theorem ok_of {r:Lm.Rec} {X:Pt.Pat} (h:IsMk r X):Lm.Ok r X:=by
 obtain ⟨s,p,d,m,u,c,q,h1,h2,h3,h4,h5,h6,h7,rfl,rfl⟩:=h;exact Lm.mk_ok h1 h2 h3 h4 h5 h6 h7
theorem new_mk {r:Lm.Rec} {X:Pt.Pat} (h:IsMk r X) (w:World) :
  Calls Tryz.prog 29 #[recV r] w fun e w'=>∃ g a b c d cl,e = .returned (.tuple #[.pointer (some ⟨g,0,none⟩),Value.nilIface]) /\ LB w' g r X a b c d cl /\ SLst w' cl (Lm.clus r X) /\ Q w w':=by
 refine new_ok r X w (ok_of h) ?_;obtain ⟨s,p,d,m,u,c,q,h1,h2,h3,h4,h5,h6,h7,rfl,rfl⟩:=h;exact par_all p h2
theorem rnew_mk {r:Lm.Rec} {X:Pt.Pat} (h:IsMk r X) (w:World) :
  Calls Tryz.prog 51 #[recV r] w fun e w'=>∃ a b c d,e = .returned (lV r X a b c d) /\ LL w' X a b c d /\ Q w w':=by
 refine new_any r X w ?_ ?_
 ·obtain ⟨s,p,d,m,u,c,q,h1,h2,h3,h4,h5,h6,h7,rfl,rfl⟩:=h
  exact par_pat p h2
 ·obtain ⟨s,p,d,m,u,c,q,h1,h2,h3,h4,h5,h6,h7,rfl,rfl⟩:=h
  have:=pat_le p h2;show (Lm.patB.getD p []).length <= 1000;omega
theorem one_of {l:List UInt8} (h:Lm.symB l = true):(pcs (Lm.bs l)).length = 1 /\ (Lm.bs l).size <= 16:=by
 refine ⟨?_,by rw [Lm.bs_size];exact sym_len h⟩;unfold Lm.symB at h;rw [Bool.and_eq_true] at h;have h2:=h.2;rw [oneB_eq] at h2;rw [pcs_length,Lm.bs_list];exact of_decide_eq_true h2
theorem infoLR:(Tryz.prog.info? 84).map (·.size) = some 8:=by kernel_rfl
end Ro
end
section
open Go.RowKit
namespace Ro
open Um Cm Gm Lo
theorem mPl_in (A:List Pc.E):∀ k:Nat,0 <= mPl A k ↔ ((3,[]):Pc.E) ∈ A:=by
 induction A with
 | nil=>intro k;exact ⟨fun h=>absurd h (by decide:¬ (0:Int) <= -1),fun h=>absurd h List.not_mem_nil⟩
 | cons p r ih =>
  intro k;unfold mPl;by_cases h:p = (3,[])
  ·rw [if_pos h]
   exact ⟨fun _=>by rw [h];exact List.mem_cons_self,fun _=>by omega⟩
  ·rw [if_neg h,ih]
   exact ⟨fun k=>List.mem_cons_of_mem _ k,fun k=>(List.mem_cons.1 k).resolve_left (fun e=>h e.symm)⟩
def sgs (l:List Pb.E):Nat:=l.countP fun e=>e.1
theorem parP_fact (r:Lm.Rec) (A:List Pc.E) (h1:Lm.cnt 3 A <= 1) (h3:∀ x ∈ A,x.1 = 3 -> x.2 = []):(∀ e ∈ parP r A,e.1 = e.2.isEmpty) /\ sgs (parP r A) = Lm.cnt 3 A /\ (parP r A).length <= 3:=by
 refine ⟨fun e he=>?_,?_,?_⟩
 ·unfold parP at he
  split at he
  ·obtain ⟨hm,hk⟩:=List.mem_filter.1 he
   simp only [List.mem_cons,List.not_mem_nil,or_false] at hm;subst hm;unfold keepP at hk;simpa using hk
  ·obtain ⟨hm,hk⟩:=List.mem_filter.1 he
   simp only [List.mem_cons,List.not_mem_nil,or_false] at hm;rcases hm with rfl | rfl | rfl
   ·unfold keepP at hk
    simpa using hk
   ·rfl
   ·unfold keepP at hk
    simpa using hk
 ·unfold parP
  split
  ·rename_i hneg
   have h0:Lm.cnt 3 A = 0:=by
    unfold Lm.cnt;rw [List.countP_eq_zero];intro x hx e;have e1:x.1 = 3:=by simpa using e
    have:((3,[]):Pc.E) ∈ A:=by
     have e2:=h3 x hx e1;have:x = (3,[]):=Prod.ext e1 e2;exact this ▸ hx
    have:=(mPl_in A 0).2 this;omega
   rw [h0];unfold sgs;rw [List.countP_eq_zero];intro x hx;obtain ⟨hm,_⟩:=List.mem_filter.1 hx;simp only [List.mem_cons,List.not_mem_nil,or_false] at hm;subst hm;simp
  ·rename_i hneg
   have hm:=(mPl_in A 0).1 (by omega);have h0:Lm.cnt 3 A = 1:=by
    have:0 < Lm.cnt 3 A:=by
     unfold Lm.cnt;rw [List.countP_pos_iff];exact ⟨_,hm,by rfl⟩
    omega
   rw [h0];unfold sgs;rw [List.countP_filter];simp [List.countP_cons,keepP]
 ·unfold parP
  split
  ·exact Nat.le_trans (List.length_filter_le _ _) (by simp)
  ·exact Nat.le_trans (List.length_filter_le _ _) (by simp)
theorem sgs_app (a b:List Pb.E):sgs (a ++ b) = sgs a + sgs b:=by unfold sgs;exact List.countP_append ..
def ahd (neg:Bool) (X:Pt.Pat):List Pc.E:=if neg = true then X.npre else X.pre
def bhd (neg:Bool) (X:Pt.Pat):List Pc.E:=if neg = true then X.nsuf else X.suf
theorem around_fact {r:Lm.Rec} {X:Pt.Pat} (hO:Lm.Ok r X) (neg:Bool):(∀ e ∈ parP r (ahd neg X) ++ parP r (bhd neg X),e.1 = e.2.isEmpty) /\ sgs (parP r (ahd neg X) ++ parP r (bhd neg X)) = (if neg = true then 1 else 0) /\ (parP r (ahd neg X)).length <= 3 /\ (parP r (bhd neg X)).length <= 3:=by
 have hm1:ahd neg X ∈ Lm.affs X:=by cases neg <;> simp [ahd,Lm.affs]
 have hm2:bhd neg X ∈ Lm.affs X:=by cases neg <;> simp [bhd,Lm.affs]
 have f1:=parP_fact r (ahd neg X) (cnt_le r X _ hO hm1) (fun x hx h=>((hO.aff _ hm1).2 x hx).2.2.2 (by omega));have f2:=parP_fact r (bhd neg X) (cnt_le r X _ hO hm2) (fun x hx h=>((hO.aff _ hm2).2 x hx).2.2.2 (by omega));refine ⟨fun e he=>?_,?_,f1.2.2,f2.2.2⟩
 ·rcases List.mem_append.1 he with h | h
  ·exact f1.1 e h
  ·exact f2.1 e h
 ·rw [sgs_app,f1.2.1,f2.2.1]
  have:=hO.sg;cases neg <;> simp [ahd,bhd] <;> omega
theorem around_any (neg:Bool) (g:Nat) (r:Lm.Rec) (X:Pt.Pat) (a b c d cl:Value) (w:World) (hO:Lm.Ok r X) (hB:LB w g r X a b c d cl) :
  Calls Tryz.prog 46 #[.pointer (some ⟨g,0,none⟩),.bool neg] w fun e w'=>∃ u v,e = .returned (.tuple #[u,v]) /\ Pb.LstP w' u (parP r (ahd neg X)) /\ Pb.LstP w' v (parP r (bhd neg X)) /\ Q w w':=by
 cases neg with
 | true=>exact around_true g r X a b c d cl w hO hB
 | false=>exact around_false g r X a b c d cl w hO hB
theorem raround_any (neg:Bool) (r:Lm.Rec) (X:Pt.Pat) (a b c d:Value) (w:World) (hO:Lm.Ok r X) (hL:LL w X a b c d) :
  Calls Tryz.prog 39 #[lV r X a b c d,.bool neg] w fun e w'=>∃ u v,e = .returned (.tuple #[u,v]) /\ Pb.LstP w' u (parP r (ahd neg X)) /\ Pb.LstP w' v (parP r (bhd neg X)) /\ Q w w':=by
 cases neg with
 | true=>exact raround_true r X a b c d w hO hL
 | false=>exact raround_false r X a b c d w hO hL
end Ro
end
section
open Go.RowKit
namespace It
open Um Lo Ro
structure LOk (r:Lm.Rec) (X:Pt.Pat):Prop where
 ok:Lm.Ok r X
 pr:X.pr <= 1000
 se:0 <= X.se /\ X.se <= 1000
 tx:∀ A ∈ Lm.affs X,∀ x ∈ A,okL x.2 = true
def fewB (X:Pt.Pat):Bool:=decide (X.pr <= 1000) && (decide (0 <= X.se /\ X.se <= 1000) && (Lm.affs X).all fun A=>A.all fun x=>okL x.2)
theorem few_of {r:Lm.Rec} {X:Pt.Pat} (h:Lm.Ok r X) (hb:fewB X = true):LOk r X:=by
 unfold fewB at hb;simp only [Bool.and_eq_true,decide_eq_true_eq,List.all_eq_true] at hb;exact ⟨h,hb.1,hb.2.1,fun A hA x hx=>hb.2.2 A hA x hx⟩
theorem few_mk:∀ p,p < 10 -> fewB (Lm.pX p) = true:=by decide +kernel
theorem few_forty:∀ p,p < 14 -> fewB (Fm.P p) = true:=by decide +kernel
theorem lok_mk {r:Lm.Rec} {X:Pt.Pat} (h:IsMk r X):LOk r X:=by
 obtain ⟨s,p,d,m,u,c,q,hs,hp,hd,hm,hu,hc,hq,rfl,rfl⟩:=h;exact few_of (ok_of ⟨s,p,d,m,u,c,q,hs,hp,hd,hm,hu,hc,hq,rfl,rfl⟩) (few_mk p hp)
theorem lok_forty {i:Nat} (h:i < 40):LOk (Fm.T i) (Fm.P (Fm.nP i)):=few_of (Fm.f_ok i h) (few_forty _ (Fm.nP_lt i h))
theorem pat_len:∀ i,i < 40 -> (Fm.T i).pat.length <= 1000:=by decide +kernel
theorem pat_forty {i:Nat} (h:i < 40):(Pt.parseC (allL (Fm.T i).pat)).1 = Fm.P (Fm.nP i):=by
 obtain ⟨h1,h2,h3⟩:=Fm.ptC_B (Fm.nP i) (Fm.nP_lt i h);rw [Fm.pat_of i h,<- h1,allL_join _ (fun c hc=>by simpa using List.all_eq_true.1 h3 c hc),h2]
theorem results_tmp_cell {fn:Func} {p u:Tmp} {ty:TypeId} (h:fn.results = #[.tmp u,.cell p ty]) (tmps:Array Value) (P:Program) (w:World) :
  (results fn tmps).run P w =
   ((asAddr (tmps.getD p undef)).run P w).andThen fun a w₁=>((loadVar ty a).run P w₁).andThen fun v w₂=>.ok (.tuple #[tmps.getD u undef,v]) w₂:=by
 simp only [results,h];simp [Sem.run_bind,Result.andThen]
theorem ret_2 {fn:Func} {p q:Tmp} {T:TypeId} (h:fn.results = #[.tmp q,.cell p T]) {R:Ending -> World -> Prop} {a:Act} {w:World} {g:Nat} {l:List Value} {x:Value} {fs:_}
  (hu:Tryz.prog.underlying T = some (.struct fs)) (hi:(Tryz.prog.info? T).map (·.size) = some l.length)
  (hp:a.tmps.getD p undef = .pointer (some ⟨g,0,none⟩)) (hx:a.tmps.getD q undef = x) (hg:Bk w g T l) (hd:a.defers = []) (hR:R (.returned (.tuple #[x,.agg l.toArray])) w):bodyPost Tryz.prog fn R .ret a w:=by
 refine bodyPost_ret (v:=.tuple #[x,.agg l.toArray]) ?_ hd hR;rw [results_tmp_cell h,hp,hx];simp [asAddr,Result.andThen,run_loadVar_row w g T T l.toArray (0,0) _ hg hu rfl (by rw [hi];simp)]
def RL (w:World) (v:Value) (r:Lm.Rec) (X:Pt.Pat):Prop:=∃ a b c d,v = lV r X a b c d /\ Ro.LL w X a b c d
theorem row_same (u:World) (b:Nat) (cs:Array Value):Same b u (u.setRow b cs):=⟨Nat.le_of_eq (by simp [World.setRow,World.putObj]),fun g hg _=>setRow_other u b g cs hg⟩
theorem LL_row {u:World} {b0:Nat} {X:Pt.Pat} {a b c d:Value} (hz:Bk u b0 34 zL) (h:Ro.LL u X a b c d) (cs:Array Value):Ro.LL (u.setRow b0 cs) X a b c d :=
 ⟨LstP_aside h.1 hz zL_sep (row_same _ _ _),LstP_aside h.2.1 hz zL_sep (row_same _ _ _),LstP_aside h.2.2.1 hz zL_sep (row_same _ _ _),LstP_aside h.2.2.2 hz zL_sep (row_same _ _ _)⟩
theorem locale_any (g0 g1 g2 g3 g4 g5 n:Int) (w:World) (h0:-9223372036854775808 <= g0 /\ g0 <= 9223372036854775807) (h1:-9223372036854775808 <= g1 /\ g1 <= 9223372036854775807) (h2:-9223372036854775808 <= g2 /\ g2 <= 9223372036854775807) (h3:-9223372036854775808 <= g3 /\ g3 <= 9223372036854775807) (h4:-9223372036854775808 <= g4 /\ g4 <= 9223372036854775807) (h5:-9223372036854775808 <= g5 /\ g5 <= 9223372036854775807) (hn:-9223372036854775808 <= n /\ n <= 9223372036854775807) :
  Calls Tryz.prog 28 #[.agg #[.int .i64 g0,.int .i64 g1,.int .i64 g2,.int .i64 g3,.int .i64 g4,.int .i64 g5],.int .i64 n] w fun e w'=>∃ v r X,e = .returned v /\ LOk r X /\ (∀ u,Calls Tryz.prog 29 #[recV r] u fun e w'=>∃ g a b c d cl,e = .returned (.tuple #[.pointer (some ⟨g,0,none⟩),Value.nilIface]) /\ LB w' g r X a b c d cl /\ Q u w') /\ RL w' v r X /\ Q w w':=by
 have HGO:=Hd (fun u=>good_any g0 g1 g2 g3 g4 g5 u h0 h1 h2 h3 h4 h5);have HA:=Hd (fun u=>Ur.around_any n 1048576 u hn.1 hn.2 (by omega) (by omega));have hab:=around_bd n 1048576 (by omega);generalize around n 1048576 = m at *;obtain ⟨y,hy⟩:∃ z,z = w.alloc (.cells #[.int .i64 g0,.int .i64 g1,.int .i64 g2,.int .i64 g3,.int .i64 g4,.int .i64 g5] 23):=⟨_,rfl⟩;have hqy:Q w y:=by rw [hy];exact (Q.refl w).alloc _
 have hgy:Bk y w.heap.size 23 [.int .i64 g0,.int .i64 g1,.int .i64 g2,.int .i64 g3,.int .i64 g4,.int .i64 g5]:=by rw [hy];exact Bk.new _ _ _
 obtain ⟨z,hz⟩:∃ z,z = y.alloc (.cells #[.string ⟨#[]⟩,.string ⟨#[]⟩,.string ⟨#[]⟩,.string ⟨#[]⟩,.string ⟨#[]⟩,.string ⟨#[]⟩,.string ⟨#[]⟩,.string ⟨#[]⟩,.slice none 0 0,.slice none 0 0,.slice none 0 0,.slice none 0 0,.int .i64 0,.int .i64 0,.int .i64 0,.int .i64 0,.int .i64 0] 34):=⟨_,rfl⟩;have hqz:Q y z:=by rw [hz];exact (Q.refl y).alloc _
 have HQZ:=Hd (hqy.trans hqz);have HGZ:=Hd (hgy.q hqz);have hsy:y.heap.size = w.heap.size + 1:=by rw [hy];simp
 have hlz:Bk z y.heap.size 34 zL:=by rw [hz];exact Bk.new _ _ _
 rw [hsy] at hlz;have HLZ:=Hd hlz;have hz2:z = (w.alloc (.cells #[.int .i64 g0,.int .i64 g1,.int .i64 g2,.int .i64 g3,.int .i64 g4,.int .i64 g5] 23)).alloc (.cells #[.string ⟨#[]⟩,.string ⟨#[]⟩,.string ⟨#[]⟩,.string ⟨#[]⟩,.string ⟨#[]⟩,.string ⟨#[]⟩,.string ⟨#[]⟩,.string ⟨#[]⟩,.slice none 0 0,.slice none 0 0,.slice none 0 0,.slice none 0 0,.int .i64 0,.int .i64 0,.int .i64 0,.int .i64 0,.int .i64 0] 34):=by rw [hz,hy]
 clear hqy hgy hqz hsy hlz hz hy h0 h1 h2 h3 h4 h5;by_cases h3:n.tmod 3 = 0
 ·have h3b:(n.tmod 3 == 0) = true:=by simpa using h3
  go_enter Tryz.func28,Tryz.ntmps28
  go_upto_region 1 with fail
  rw [<- hz2];clear hz2;have cg0:=HGZ.out.cell 0 rfl;have cg1:=HGZ.out.cell 1 rfl;have cg2:=HGZ.out.cell 2 rfl;have cg3:=HGZ.out.cell 3 rfl;have cg4:=HGZ.out.cell 4 rfl;have cg5:=HGZ.out.cell 5 rfl;go_wp2_with fail
  clear cg0 cg1 cg2 cg3 cg4 cg5;refine (HGO.out _).mono ?_;rintro e w1 ⟨r,rfl,⟨X,hI⟩,hq1⟩;have HI:=Hd hI;have HQ1:=Hd (HQZ.out.trans hq1);have HL1:=Hd (HLZ.out.q hq1);clear hq1 hI;go_wp2_with fail
  refine (rnew_mk HI.out _).mono ?_;rintro e w2 ⟨a,b,c,d,rfl,hl2,hq2⟩;have HLL:=Hd hl2;have HQ2:=Hd (HQ1.out.trans hq2);have HL2:=Hd (HL1.out.q hq2);obtain ⟨a1,a2,rfl⟩:=hl2.1.shape;obtain ⟨b1,b2,rfl⟩:=hl2.2.1.shape;obtain ⟨c1,c2,rfl⟩:=hl2.2.2.1.shape;obtain ⟨d1,d2,rfl⟩:=hl2.2.2.2.shape;clear hl2 hq2;go_wp2_with (refine wpList_store_row (by rfl) 34 _ _ (by rfl) (w.heap.size + 1) (lC r X (.slice a1 X.pre.length a2) (.slice b1 X.suf.length b2) (.slice c1 X.npre.length c2) (.slice d1 X.nsuf.length d2)).toArray (by rfl) (by rfl) 34 _ HL2.out (by exact infoL) rfl (Rw.all1 (by rfl)) ?_)
  exact ret_bk (l:=lC r X (.slice a1 X.pre.length a2) (.slice b1 X.suf.length b2) (.slice c1 X.npre.length c2) (.slice d1 X.nsuf.length d2)) rfl Tryz.underlying34 (by exact infoL) rfl (Rw.Bk_row HL2.out _) rfl ⟨_,r,X,rfl,lok_mk HI.out,fun u=>(new_mk HI.out u).mono fun e w' ⟨g,a,b,c,d,cl,h1,h2,_,h4⟩=>⟨g,a,b,c,d,cl,h1,h2,h4⟩,⟨_,_,_,_,rfl,LL_row HL2.out HLL.out _⟩,Rw.Q_row HQ2.out (Nat.le_succ _) _⟩
 ·have h3b:(n.tmod 3 == 0) = false:=by rw [beq_eq_false_iff_ne];exact h3
  have HON:=Hd (fun q u (a:-9223372036854775808 <= q) (b:q <= 9223372036854775807)=>Fr.one_any q u a b);have HOB:=Hd (fun q=>around_bd q 40 (by omega));go_enter Tryz.func28,Tryz.ntmps28
  go_upto_region 1 with fail
  rw [<- hz2];clear hz2;go_wp2_with fail
  refine (HA.out _).mono ?_;rintro e wa ⟨rfl,rfl⟩;go_wp2_with fail
  refine (HON.out _ _ (by omega) (by omega)).mono ?_;rintro e w1 ⟨rfl,hq1⟩;obtain ⟨k,hk⟩:∃ k,k = (around (m / 3) 40).toNat:=⟨_,rfl⟩;rw [<- hk];have hk40:k < 40:=by have:=HOB.out (m / 3);omega
  clear hk;have HKL:=Hd (lok_forty hk40);have HKN:=Hd (fun u=>Ft.new_forty k hk40 u);have HKR:=Hd (fun u=>Ro.new_any (Fm.T k) (Fm.P (Fm.nP k)) u (pat_forty hk40) (pat_len k hk40));have HQ1:=Hd (HQZ.out.trans hq1);have HL1:=Hd (HLZ.out.q hq1);clear hq1 hk40;generalize Fm.T k = r at *;generalize Fm.P (Fm.nP k) = X at *;go_wp2_with fail
  refine (HKR.out _).mono ?_;rintro e w2 ⟨a,b,c,d,rfl,hl2,hq2⟩;have HLL:=Hd hl2;have HQ2:=Hd (HQ1.out.trans hq2);have HL2:=Hd (HL1.out.q hq2);obtain ⟨a1,a2,rfl⟩:=hl2.1.shape;obtain ⟨b1,b2,rfl⟩:=hl2.2.1.shape;obtain ⟨c1,c2,rfl⟩:=hl2.2.2.1.shape;obtain ⟨d1,d2,rfl⟩:=hl2.2.2.2.shape;clear hl2 hq2;go_wp2_with (refine wpList_store_row (by rfl) 34 _ _ (by rfl) (w.heap.size + 1) (lC r X (.slice a1 X.pre.length a2) (.slice b1 X.suf.length b2) (.slice c1 X.npre.length c2) (.slice d1 X.nsuf.length d2)).toArray (by rfl) (by rfl) 34 _ HL2.out (by exact infoL) rfl (Rw.all1 (by rfl)) ?_)
  exact ret_bk (l:=lC r X (.slice a1 X.pre.length a2) (.slice b1 X.suf.length b2) (.slice c1 X.npre.length c2) (.slice d1 X.nsuf.length d2)) rfl Tryz.underlying34 (by exact infoL) rfl (Rw.Bk_row HL2.out _) rfl ⟨_,r,X,rfl,HKL.out,fun u=>(HKN.out u).mono fun e w' ⟨g,a,b,c,d,cl,h1,h2,_,h4⟩=>⟨g,a,b,c,d,cl,h1,h2,h4⟩,⟨_,_,_,_,rfl,LL_row HL2.out HLL.out _⟩,Rw.Q_row HQ2.out (Nat.le_succ _) _⟩
end It
end
end Go.Proofs.YtdjhkbholijnmaaGreatDoor
