/- Whether the minus has its place in the negative half, once. (and more) -/
import Derived.Test.YteggfkbnnmpcjaaGreatDoorR35
set_option linter.all false
set_option maxRecDepth 100000
set_option maxHeartbeats 8000000
namespace Go.Proofs.YteggfkbnnmpcjaaGreatDoor
section
open Go.RowKit
namespace Lo
open Um Cm Gm
/-! ### the minus' place -/
theorem signs1_any (v:Value) (A:List Pc.E) (n:Int) (w:World) (hv:Pc.LstP w v A) (hA:A.length <= 1000000) (hn:((Lm.cnt 3 A:Nat):Int) = n) :
  Calls Tryz.prog 147 #[v] w fun e w'=>e = .returned (.int .i64 n) /\ Q w w':=by
 have hc:=Pg.countP_any v A 3 w hv hA;rw [show ((A.countP fun p=>p.1 == 3:Nat):Int) = n from hn] at hc;have HC:=Hd hc;obtain ⟨a,cp,rfl⟩:=hv.shape;generalize A.length = m at *;clear hv hA hc hn;go_enter Tryz.func147,Tryz.ntmps147
 go_wp2_with fail
 refine HC.out.mono ?_;rintro e w' ⟨rfl,hq'⟩;go_wp2_with fail
 go_ret
 exact ⟨rfl,hq'⟩
theorem signed_ahead (g:Nat) (r:Lm.Rec) (X:Pt.Pat) (a b c d cl:Value) (w:World) (hB:LB w g r X a b c d cl) (hl:∀ A ∈ Lm.affs X,A.length <= 1000000) (h1:Lm.cnt 3 X.pre = 0) (h2:Lm.cnt 3 X.suf = 0) (h3:Lm.cnt 3 X.npre = 1) (h4:Lm.cnt 3 X.nsuf = 0) :
  Calls Tryz.prog 96 #[.pointer (some ⟨g,0,none⟩)] w fun e w'=>e = .returned (.bool true) /\ Q w w':=by
 have HS0:=Hd (fun u (hq:Q w u)=>signs1_any a X.pre 0 u ((hB.2.1).q hq) (hl _ (by simp [Lm.affs])) (by rw [h1];rfl));have HS1:=Hd (fun u (hq:Q w u)=>signs1_any b X.suf 0 u ((hB.2.2.1).q hq) (hl _ (by simp [Lm.affs])) (by rw [h2];rfl));have HS2:=Hd (fun u (hq:Q w u)=>signs1_any c X.npre 1 u ((hB.2.2.2.1).q hq) (hl _ (by simp [Lm.affs])) (by rw [h3];rfl));have HS3:=Hd (fun u (hq:Q w u)=>signs1_any d X.nsuf 0 u ((hB.2.2.2.2).q hq) (hl _ (by simp [Lm.affs])) (by rw [h4];rfl));have c8:=hB.1.cell 8 rfl;have c9:=hB.1.cell 9 rfl;have c10:=hB.1.cell 10 rfl;have c11:=hB.1.cell 11 rfl;have c12:=hB.1.cell 12 rfl;have c13:=hB.1.cell 13 rfl;have c14:=hB.1.cell 14 rfl;have c15:=hB.1.cell 15 rfl;have c16:=hB.1.cell 16 rfl;obtain ⟨a1,a2,rfl⟩:=hB.2.1.shape;obtain ⟨b1,b2,rfl⟩:=hB.2.2.1.shape;obtain ⟨d1,d2,rfl⟩:=hB.2.2.2.1.shape;obtain ⟨e1,e2,rfl⟩:=hB.2.2.2.2.shape;generalize X.pre.length = n1 at *;generalize X.suf.length = n2 at *;generalize X.npre.length = n3 at *;generalize X.nsuf.length = n4 at *;generalize X.pr = p1 at *;generalize X.se = p2 at *;generalize X.mi = p3 at *;generalize X.mf = p4 at *;generalize X.xf = p5 at *;obtain ⟨z,hz⟩:∃ z,z = w.alloc (.cells #[.slice a1 n1 a2,.slice b1 n2 b2,.slice d1 n3 d2,.slice e1 n4 e2,.int .i64 p1,.int .i64 p2,.int .i64 p3,.int .i64 p4,.int .i64 p5] 104):=⟨_,rfl⟩;have HQZ:=Hd (show Q w z by rw [hz];exact (Q.refl w).alloc _);have HBZ:=Hd (show Bk z w.heap.size 104 [.slice a1 n1 a2,.slice b1 n2 b2,.slice d1 n3 d2,.slice e1 n4 e2,.int .i64 p1,.int .i64 p2,.int .i64 p3,.int .i64 p4,.int .i64 p5] by rw [hz];exact Bk.new _ _ _);clear hB hl h1 h2 h3 h4;go_enter Tryz.func96,Tryz.ntmps96
 go_upto_region 3 with fail
 rw [<- hz];clear hz c8 c9 c10 c11 c12 c13 c14 c15 c16;generalize w.heap.size = bz at *;have hw0:IntKind.i64.wrap 0 = 0:=rfl;have hw1:IntKind.i64.wrap 1 = 1:=rfl;refine wp_region_held_drew (S:=fun u=>Q z u) (by kernel_rfl) (by exact (Q.refl z).drew) (fun hHeld=>?_);have hS:Q z z.drew:=hHeld;clear hHeld;have hq:Q z z.drew:=(Q.refl _).drew;clear hq;generalize z.drew = yR1x0 at *;refine tk 0 (by simp only [gA,gB,gC];rfl) (by first | kernel_rfl | rfl) (fun uz _=>by go_simp;try with_reducible rfl) pq hS ?_;try simp only [Act.put,sA,sB,sC]
 refine tk 1 (by simp only [gA,gB,gC];rfl) (by first | kernel_rfl | rfl) (fun uz _=>by go_simp;try with_reducible rfl) pq hS ?_;try simp only [Act.put,sA,sB,sC]
 refine tk 2 (by simp only [gA,gB,gC];rfl) (by first | kernel_rfl | rfl) (fun uz hSw=>by (try dsimp only at hSw);have kb:=HBZ.out.q hSw;have k0:=kb.cell 0 rfl;have k1:=kb.cell 1 rfl;have k2:=kb.cell 2 rfl;have k3:=kb.cell 3 rfl;clear kb;go_simp;try with_reducible rfl) pq hS ?_;try simp only [Act.put,sA,sB,sC]
 refine tk 4 (by simp only [gA,gB,gC];rfl) (by first | kernel_rfl | rfl) (fun uz _=>by go_simp;try with_reducible rfl) pq hS ?_;try simp only [Act.put,sA,sB,sC]
 refine tk 5 (by simp only [gA,gB,gC];rfl) (by first | kernel_rfl | rfl) (fun uz _=>by go_simp;try with_reducible rfl) pq hS ?_;try simp only [Act.put,sA,sB,sC]
 refine tk 6 (by simp only [gA,gB,gC];rfl) (by first | kernel_rfl | rfl) (fun uz hSw=>by (try dsimp only at hSw);have kb:=HBZ.out.q hSw;have k0:=kb.cell 0 rfl;have k1:=kb.cell 1 rfl;have k2:=kb.cell 2 rfl;have k3:=kb.cell 3 rfl;clear kb;go_simp;try with_reducible rfl) pq hS ?_;try simp only [Act.put,sA,sB,sC]
 refine wpAnyH_ready (rs:=[3]) (by kernel_rfl) (by simp) ?_;refine ar rfl fun K hK=>?_;go_simp
 refine (HS0.out _ (HQZ.out.trans hS)).mono ?_;rintro e yR1x7 ⟨rfl,hq⟩;try (go_wp2_with fail)
 have hS2:=Q.trans hS hq;refine hK.out _ _ (by exact hS2) (fun hHeld=>?_);clear hK K hHeld hS hq;have hS:=hS2;clear hS2;try simp only [Act.put,sA,sB,sC]
 refine wpAnyH_ready (rs:=[7]) (by kernel_rfl) (by simp) ?_;refine ar rfl fun K hK=>?_;go_simp
 refine (HS1.out _ (HQZ.out.trans hS)).mono ?_;rintro e yR1x8 ⟨rfl,hq⟩;try (go_wp2_with fail)
 have hS2:=Q.trans hS hq;refine hK.out _ _ (by exact hS2) (fun hHeld=>?_);clear hK K hHeld hS hq;have hS:=hS2;clear hS2;try simp only [Act.put,sA,sB,sC]
 refine tk 8 (by simp only [gA,gB,gC];rfl) (by first | kernel_rfl | rfl) (fun uz _=>by go_simp;try with_reducible rfl) pq hS ?_;try simp only [Act.put,sA,sB,sC]
 refine tk 9 (by simp only [gA,gB,gC];rfl) (by first | kernel_rfl | rfl) (fun uz _=>by go_simp;try with_reducible rfl) pq hS ?_;try simp only [Act.put,sA,sB,sC]
 refine tk 10 (by simp only [gA,gB,gC];rfl) (by first | kernel_rfl | rfl) (fun uz _=>by go_simp;try with_reducible rfl) pq hS ?_;try simp only [Act.put,sA,sB,sC]
 refine tk 11 (by simp only [gA,gB,gC];rfl) (by first | kernel_rfl | rfl) (fun uz _=>by go_simp;try with_reducible rfl) pq hS ?_;try simp only [Act.put,sA,sB,sC]
 refine tk 12 (by simp only [gA,gB,gC];rfl) (by first | kernel_rfl | rfl) (fun uz _=>by go_simp;try with_reducible rfl) pq hS ?_;try simp only [Act.put,sA,sB,sC]
 refine tk 13 (by simp only [gA,gB,gC];rfl) (by first | kernel_rfl | rfl) (fun uz hSw=>by (try dsimp only at hSw);have kb:=HBZ.out.q hSw;have k0:=kb.cell 0 rfl;have k1:=kb.cell 1 rfl;have k2:=kb.cell 2 rfl;have k3:=kb.cell 3 rfl;clear kb;go_simp;try with_reducible rfl) pq hS ?_;try simp only [Act.put,sA,sB,sC]
 refine tk 15 (by simp only [gA,gB,gC];rfl) (by first | kernel_rfl | rfl) (fun uz _=>by go_simp;try with_reducible rfl) pq hS ?_;try simp only [Act.put,sA,sB,sC]
 refine tk 16 (by simp only [gA,gB,gC];rfl) (by first | kernel_rfl | rfl) (fun uz _=>by go_simp;try with_reducible rfl) pq hS ?_;try simp only [Act.put,sA,sB,sC]
 refine tk 17 (by simp only [gA,gB,gC];rfl) (by first | kernel_rfl | rfl) (fun uz hSw=>by (try dsimp only at hSw);have kb:=HBZ.out.q hSw;have k0:=kb.cell 0 rfl;have k1:=kb.cell 1 rfl;have k2:=kb.cell 2 rfl;have k3:=kb.cell 3 rfl;clear kb;go_simp;try with_reducible rfl) pq hS ?_;try simp only [Act.put,sA,sB,sC]
 refine wpAnyH_ready (rs:=[14]) (by kernel_rfl) (by simp) ?_;refine ar rfl fun K hK=>?_;go_simp
 refine (HS2.out _ (HQZ.out.trans hS)).mono ?_;rintro e yR1x18 ⟨rfl,hq⟩;try (go_wp2_with fail)
 have hS2:=Q.trans hS hq;refine hK.out _ _ (by exact hS2) (fun hHeld=>?_);clear hK K hHeld hS hq;have hS:=hS2;clear hS2;try simp only [Act.put,sA,sB,sC]
 refine wpAnyH_ready (rs:=[18]) (by kernel_rfl) (by simp) ?_;refine ar rfl fun K hK=>?_;go_simp
 refine (HS3.out _ (HQZ.out.trans hS)).mono ?_;rintro e yR1x19 ⟨rfl,hq⟩;try (go_wp2_with fail)
 have hS2:=Q.trans hS hq;refine hK.out _ _ (by exact hS2) (fun hHeld=>?_);clear hK K hHeld hS hq;have hS:=hS2;clear hS2;try simp only [Act.put,sA,sB,sC]
 refine tk 19 (by simp only [gA,gB,gC];rfl) (by first | kernel_rfl | rfl) (fun uz _=>by go_simp;try with_reducible rfl) pq hS ?_;try simp only [Act.put,sA,sB,sC]
 refine tk 20 (by simp only [gA,gB,gC];rfl) (by first | kernel_rfl | rfl) (fun uz _=>by go_simp;try with_reducible rfl) pq hS ?_;try simp only [Act.put,sA,sB,sC]
 refine tk 21 (by simp only [gA,gB,gC];rfl) (by first | kernel_rfl | rfl) (fun uz _=>by go_simp;try with_reducible rfl) pq hS ?_;try simp only [Act.put,sA,sB,sC]
 refine tk 22 (by simp only [gA,gB,gC];rfl) (by first | kernel_rfl | rfl) (fun uz _=>by go_simp;try with_reducible rfl) pq hS ?_;try simp only [Act.put,sA,sB,sC]
 refine wpAnyH_done (by kernel_rfl) ?_ _;have HQ:=Hd (HQZ.out.trans hS);clear hS;go_wp2_with fail
 first
  | (rename_i dx1 d1 hx1 dx2 d2 hx2;have hy1:(some 2:Option Tmp) = some d1:=hx1;have hy2:(some 30:Option Tmp) = some d2:=hx2;obtain rfl:=Option.some.inj hy1;obtain rfl:=Option.some.inj hy2;clear hx1 hx2 hy1 hy2)
  | (rename_i dx1 d1 hx1;have hy1:(some 2:Option Tmp) = some d1:=hx1;obtain rfl:=Option.some.inj hy1;clear hx1 hy1)
  | (rename_i dx1 d1 hx1;have hy1:(some 30:Option Tmp) = some d1:=hx1;obtain rfl:=Option.some.inj hy1;clear hx1 hy1)
  | skip
 go_ret
 exact ⟨rfl,HQ.out⟩
end Lo
end
end Go.Proofs.YteggfkbnnmpcjaaGreatDoor
