/- A clip is shown as the document says; two are told to be the same as it says. (and more) -/
import Derived.Test.YteggfkbnnmpcjaaGreatDoorR25
import Derived.Test.YteggfkbnnmpcjaaGreatDoorR52
set_option linter.all false
set_option maxRecDepth 100000
set_option maxHeartbeats 8000000
namespace Go.Proofs.YteggfkbnnmpcjaaGreatDoor
section
open Go.RowKit
namespace Ps
open Um Cm Gm Im Lo Sx Tm
theorem infoRC:(Tryz.prog.info? 55).map (·.size) = some 2:=by kernel_rfl
theorem law_texts (e1 e2:Option Addr) (m1 m2 f1 f2:Nat) (L M:List Int) (a b:Bool) (w:World) (hl:Lst w (.slice e1 m1 f1) L) (hm:Lst w (.slice e2 m2 f2) M) (q1:L.length = m1) (q2:M.length = m2) (bl:∀ n ∈ L,-9223372036854775808 <= n /\ n <= 9223372036854775807) (bm:∀ n ∈ M,-9223372036854775808 <= n /\ n <= 9223372036854775807) :
  Calls Tryz.prog 5 #[.slice e1 m1 f1,.slice e2 m2 f2,.bool a,.bool b] w fun e w'=>e = .returned (.bool true) /\ Q w w':=by
 have hlc:=hl.form0 q1;obtain ⟨_,_,hv,hnc,hcm⟩:=hlc;cases hv;have hmc:=hm.form0 q2;obtain ⟨_,_,hv,hnf,hfm⟩:=hmc;cases hv;unfold maxLen at hcm hfm;have HP1:=Hd (fun u (q:Q w u)=>Tr.points_any _ L 9 u (hl.q q) (by omega) (by omega) bl);have HP2:=Hd (fun u (q:Q w u)=>Tr.points_any _ M 9 u (hm.q q) (by omega) (by omega) bm);have hr:∀ (K:List Int),∀ x ∈ Tm.ptL K 9,0 <= x /\ x <= 10:=fun K x hx=>by
  unfold Tm.ptL at hx;obtain ⟨y,_,rfl⟩:=List.mem_map.1 hx;have:=around_bd y 11 (by omega);omega
 have hk:∀ (K:List Int),(Tm.ptL K 9).length <= 9:=fun K=>by rw [Tm.ptL_len];omega
 have HR1:=Hd (hr L);have HR2:=Hd (hr M);have HL1:=Hd (hk L);have HL2:=Hd (hk M);clear hr hk hl hm q1 q2 bl bm hnc hcm hnf hfm;generalize Tm.ptL L 9 = XS at *;generalize Tm.ptL M 9 = YS at *;have HQ:=Hd (Q.refl w);go_enter Tryz.func5,Tryz.ntmps5
 go_wp2_with fail
 refine (HP1.out _ HQ.out).mono ?_;rintro e u1 ⟨v1,rfl,hov1,hq⟩;have HX:=Hd hov1.lst;obtain ⟨xa,xc,rfl⟩:=hov1.shape;generalize hpp:XS.length = p at *;have HXN:=Hd hpp;clear hov1 hpp HP1;replace HQ:=Hd (Q.trans HQ.out hq);clear hq;obtain ⟨u2,hwu2⟩:∃ z,z = u1.alloc (.cells #[.bool a,.slice xa p xc] 55):=⟨_,rfl⟩;have hq:Q u1 u2:=by rw [hwu2];exact (Q.refl _).alloc _
 have HXB:=Hd (show Bk u2 u1.heap.size 55 [.bool a,.slice xa p xc] by rw [hwu2];exact Bk.new _ _ _);obtain ⟨bX,hbbX⟩:∃ k,k = u1.heap.size:=⟨_,rfl⟩;rw [<- hbbX] at HXB;replace HQ:=Hd (Q.trans HQ.out hq);replace HX:=Hd (Lst.q HX.out hq);clear hq;go_upto_region 2 with fail
 rw [<- hwu2,<- hbbX];clear hwu2 hbbX;go_wp2_with fail
 refine (HP2.out _ HQ.out).mono ?_;rintro e u3 ⟨v2,rfl,hov2,hq⟩;have HY:=Hd hov2.lst;obtain ⟨ya,yc,rfl⟩:=hov2.shape;generalize hpp:YS.length = p2 at *;have HYN:=Hd hpp;clear hov2 hpp HP2;replace HQ:=Hd (Q.trans HQ.out hq);replace HX:=Hd (Lst.q HX.out hq);replace HXB:=Hd (Bk.q HXB.out hq);clear hq;obtain ⟨u4,hwu4⟩:∃ z,z = u3.alloc (.cells #[.bool b,.slice ya p2 yc] 55):=⟨_,rfl⟩;have hq:Q u3 u4:=by rw [hwu4];exact (Q.refl _).alloc _
 have HYB:=Hd (show Bk u4 u3.heap.size 55 [.bool b,.slice ya p2 yc] by rw [hwu4];exact Bk.new _ _ _);obtain ⟨bY,hbbY⟩:∃ k,k = u3.heap.size:=⟨_,rfl⟩;rw [<- hbbY] at HYB;replace HQ:=Hd (Q.trans HQ.out hq);replace HX:=Hd (Lst.q HX.out hq);replace HXB:=Hd (Bk.q HXB.out hq);replace HY:=Hd (Lst.q HY.out hq);clear hq;go_upto_region 3 with fail
 rw [<- hwu4,<- hbbY];clear hwu4 hbbY;have HT1:=Hd (fun x (q:Q u4 x)=>Ps.text_any a (.slice xa p xc) XS x (HX.out.q q) HR1.out (by have:=HL1.out;have:=HXN.out;omega));have HT2:=Hd (fun x (q:Q u4 x)=>Ps.rtext_any a (.slice xa p xc) XS x (HX.out.q q) HR1.out (by have:=HL1.out;have:=HXN.out;omega));have HS1:=Hd (fun x (q:Q u4 x)=>Ps.same_any a b (.slice xa p xc) (.slice ya p2 yc) XS YS x (HX.out.q q) (HY.out.q q) (by have:=HL1.out;have:=HXN.out;omega) (by have:=HL2.out;have:=HYN.out;omega));have HS2:=Hd (fun x (q:Q u4 x)=>Ps.rsame_any a b (.slice xa p xc) (.slice ya p2 yc) XS YS x (HX.out.q q) (HY.out.q q) (by have:=HL1.out;have:=HXN.out;omega) (by have:=HL2.out;have:=HYN.out;omega));have HS3:=Hd (fun x (q:Q u4 x)=>(show Calls Tryz.prog 22 #[.agg #[.bool a,.slice xa p xc],.agg #[.bool a,.slice xa p xc]] x fun e w'=>e = .returned (.bool true) /\ Q x w' from by
  have h:=Ps.same_any a a (.slice xa p xc) (.slice xa p xc) XS XS x (HX.out.q q) (HX.out.q q) (by have:=HL1.out;have:=HXN.out;omega) (by have:=HL1.out;have:=HXN.out;omega);rw [show (a == a && decide (XS = XS)) = true by simp] at h;exact h))
 generalize txt a XS = tx0 at *;generalize (a == b && decide (XS = YS)) = sm0 at *;have htt:(tx0.toList == tx0.toList) = true:=by simp
 have hss:(sm0 == sm0) = true:=by simp
 refine wp_region_held_drew (S:=fun u=>Q u4 u) (by kernel_rfl) (by exact (Q.refl u4).drew) (fun hHeld=>?_);have hS:Q u4 u4.drew:=hHeld;clear hHeld;have hq:Q u4 u4.drew:=(Q.refl _).drew;clear hq;generalize u4.drew = yR1x0 at *;change wpAnyH _ _ _ _ _ _ #[ff,ff,ff,ff,ff,ff,ff,ff,ff,ff,ff,ff,ff,ff,ff,ff,ff,ff,ff,ff,ff,ff,ff] _ _;refine tk 0 (by simp only [gA,gB,gC];rfl) (by first | kernel_rfl | rfl) (fun uz hSw=>by (try dsimp only at hSw);refine ld_row (x:=.tmp 9) ?_ ?_ (Bk.q HXB.out hSw) Tryz.underlying55 (by exact infoRC) <;> rfl) pq hS ?_
 try simp only [Act.put,sA,sB,sC]
 refine tk 2 (by simp only [gA,gB,gC];rfl) (by first | kernel_rfl | rfl) (fun uz hSw=>by (try dsimp only at hSw);refine ld_row (x:=.tmp 9) ?_ ?_ (Bk.q HXB.out hSw) Tryz.underlying55 (by exact infoRC) <;> rfl) pq hS ?_
 try simp only [Act.put,sA,sB,sC]
 refine wpAnyH_ready (rs:=[1]) (by kernel_rfl) (by simp) ?_;refine ar (by (try simp only [gA,gB,gC]);rfl) fun K hK=>?_;go_simp
 refine (HT1.out _ hS).mono ?_;rintro e yR1x3 ⟨rfl,hq⟩;try (go_wp2_with fail)
 have hS2:=Q.trans hS hq;refine hK.out _ _ (by exact hS2) (fun hHeld=>?_);clear hK K hHeld hS hq;have hS:=hS2;clear hS2;try simp only [Act.put,sA,sB,sC]
 refine wpAnyH_ready (rs:=[3]) (by kernel_rfl) (by simp) ?_;refine ar (by (try simp only [gA,gB,gC]);rfl) fun K hK=>?_;go_simp
 refine (HT2.out _ hS).mono ?_;rintro e yR1x4 ⟨rfl,hq⟩;try (go_wp2_with fail)
 have hS2:=Q.trans hS hq;refine hK.out _ _ (by exact hS2) (fun hHeld=>?_);clear hK K hHeld hS hq;have hS:=hS2;clear hS2;try simp only [Act.put,sA,sB,sC]
 refine tk 4 (by simp only [gA,gB,gC];rfl) (by first | kernel_rfl | rfl) (fun uz _=>by go_simp;try with_reducible rfl) pq hS ?_;try simp only [Act.put,sA,sB,sC]
 refine tk 5 (by simp only [gA,gB,gC];rfl) (by first | kernel_rfl | rfl) (fun uz _=>by go_simp;try with_reducible rfl) pq hS ?_;try simp only [Act.put,sA,sB,sC]
 refine tk 6 (by simp only [gA,gB,gC];rfl) (by first | kernel_rfl | rfl) (fun uz hSw=>by (try dsimp only at hSw);refine ld_row (x:=.tmp 9) ?_ ?_ (Bk.q HXB.out hSw) Tryz.underlying55 (by exact infoRC) <;> rfl) pq hS ?_
 try simp only [Act.put,sA,sB,sC]
 refine tk 7 (by simp only [gA,gB,gC];rfl) (by first | kernel_rfl | rfl) (fun uz hSw=>by (try dsimp only at hSw);refine ld_row (x:=.tmp 10) ?_ ?_ (Bk.q HYB.out hSw) Tryz.underlying55 (by exact infoRC) <;> rfl) pq hS ?_
 try simp only [Act.put,sA,sB,sC]
 refine tk 9 (by simp only [gA,gB,gC];rfl) (by first | kernel_rfl | rfl) (fun uz hSw=>by (try dsimp only at hSw);refine ld_row (x:=.tmp 9) ?_ ?_ (Bk.q HXB.out hSw) Tryz.underlying55 (by exact infoRC) <;> rfl) pq hS ?_
 try simp only [Act.put,sA,sB,sC]
 refine tk 10 (by simp only [gA,gB,gC];rfl) (by first | kernel_rfl | rfl) (fun uz hSw=>by (try dsimp only at hSw);refine ld_row (x:=.tmp 10) ?_ ?_ (Bk.q HYB.out hSw) Tryz.underlying55 (by exact infoRC) <;> rfl) pq hS ?_
 try simp only [Act.put,sA,sB,sC]
 refine wpAnyH_ready (rs:=[8]) (by kernel_rfl) (by simp) ?_;refine ar (by (try simp only [gA,gB,gC]);rfl) fun K hK=>?_;go_simp
 refine (HS1.out _ hS).mono ?_;rintro e yR1x11 ⟨rfl,hq⟩;try (go_wp2_with fail)
 have hS2:=Q.trans hS hq;refine hK.out _ _ (by exact hS2) (fun hHeld=>?_);clear hK K hHeld hS hq;have hS:=hS2;clear hS2;try simp only [Act.put,sA,sB,sC]
 refine wpAnyH_ready (rs:=[11]) (by kernel_rfl) (by simp) ?_;refine ar (by (try simp only [gA,gB,gC]);rfl) fun K hK=>?_;go_simp
 refine (HS2.out _ hS).mono ?_;rintro e yR1x12 ⟨rfl,hq⟩;try (go_wp2_with fail)
 have hS2:=Q.trans hS hq;refine hK.out _ _ (by exact hS2) (fun hHeld=>?_);clear hK K hHeld hS hq;have hS:=hS2;clear hS2;try simp only [Act.put,sA,sB,sC]
 refine tk 12 (by simp only [gA,gB,gC];rfl) (by first | kernel_rfl | rfl) (fun uz _=>by go_simp;try with_reducible rfl) pq hS ?_;try simp only [Act.put,sA,sB,sC]
 refine tk 13 (by simp only [gA,gB,gC];rfl) (by first | kernel_rfl | rfl) (fun uz _=>by go_simp;try with_reducible rfl) pq hS ?_;try simp only [Act.put,sA,sB,sC]
 refine tk 14 (by simp only [gA,gB,gC];rfl) (by first | kernel_rfl | rfl) (fun uz _=>by go_simp;try with_reducible rfl) pq hS ?_;try simp only [Act.put,sA,sB,sC]
 refine tk 15 (by simp only [gA,gB,gC];rfl) (by first | kernel_rfl | rfl) (fun uz hSw=>by (try dsimp only at hSw);refine ld_row (x:=.tmp 9) ?_ ?_ (Bk.q HXB.out hSw) Tryz.underlying55 (by exact infoRC) <;> rfl) pq hS ?_
 try simp only [Act.put,sA,sB,sC]
 refine tk 16 (by simp only [gA,gB,gC];rfl) (by first | kernel_rfl | rfl) (fun uz hSw=>by (try dsimp only at hSw);refine ld_row (x:=.tmp 9) ?_ ?_ (Bk.q HXB.out hSw) Tryz.underlying55 (by exact infoRC) <;> rfl) pq hS ?_
 try simp only [Act.put,sA,sB,sC]
 refine wpAnyH_ready (rs:=[17]) (by kernel_rfl) (by simp) ?_;refine ar (by (try simp only [gA,gB,gC]);rfl) fun K hK=>?_;go_simp
 refine (HS3.out _ hS).mono ?_;rintro e yR1x18 ⟨rfl,hq⟩;try (go_wp2_with fail)
 have hS2:=Q.trans hS hq;refine hK.out _ _ (by exact hS2) (fun hHeld=>?_);clear hK K hHeld hS hq;have hS:=hS2;clear hS2;try simp only [Act.put,sA,sB,sC]
 refine tk 18 (by simp only [gA,gB,gC];rfl) (by first | kernel_rfl | rfl) (fun uz _=>by go_simp;try with_reducible rfl) pq hS ?_;try simp only [Act.put,sA,sB,sC]
 refine tk 19 (by simp only [gA,gB,gC];rfl) (by first | kernel_rfl | rfl) (fun uz _=>by go_simp;try with_reducible rfl) pq hS ?_;try simp only [Act.put,sA,sB,sC]
 refine wpAnyH_ready (rs:=[20]) (by kernel_rfl) (by simp) ?_;refine ar (by (try simp only [gA,gB,gC]);rfl) fun K hK=>?_;go_simp
 refine (Ps.lives_any _).mono ?_;rintro e yR1x21 ⟨rfl,hq⟩;try (go_wp2_with fail)
 have hS2:=Q.trans hS hq;refine hK.out _ _ (by exact hS2) (fun hHeld=>?_);clear hK K hHeld hS hq;have hS:=hS2;clear hS2;try simp only [Act.put,sA,sB,sC]
 refine tk 21 (by simp only [gA,gB,gC];rfl) (by first | kernel_rfl | rfl) (fun uz _=>by go_simp;try with_reducible rfl) pq hS ?_;try simp only [Act.put,sA,sB,sC]
 refine tk 22 (by simp only [gA,gB,gC];rfl) (by first | kernel_rfl | rfl) (fun uz _=>by go_simp;try with_reducible rfl) pq hS ?_;try simp only [Act.put,sA,sB,sC]
 refine wpAnyH_done (by kernel_rfl) ?_ _;have HQF:=Hd (HQ.out.trans hS);clear hS;go_wp2_with fail
 go_ret
 exact ⟨rfl,HQF.out⟩
end Ps
end
end Go.Proofs.YteggfkbnnmpcjaaGreatDoor
