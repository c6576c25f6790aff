/- The program's items of the separator and the digits behind it; of a draft. (and more) -/
import Derived.Test.YtdjhkbholijnmaaGreatDoorR40
set_option linter.all false
set_option maxRecDepth 100000
set_option maxHeartbeats 8000000
namespace Go.Proofs.YtdjhkbholijnmaaGreatDoor
section
open Go.RowKit
namespace It
open Um Im Lo
theorem rest_any (g0:Nat) (r:Lm.Rec) (X:Pt.Pat) (a b c d cl:Value) (g s:Bool) (e1 e2:Option Addr) (m1 m2 f1 f2:Nat) (I F:List Int) (w:World) (hB:LB w g0 r X a b c d cl) (hi:Lst w (.slice e1 m1 f1) I) (hf:Lst w (.slice e2 m2 f2) F) (k1:I.length = m1) (k2:F.length = m2) (l1:m1 <= 10000) (l2:m2 <= 10000) (hF:Dm.okD F) :
  Calls Tryz.prog 50 #[.pointer (some ⟨g0,0,none⟩),.agg #[.bool g,.slice e1 m1 f1,.bool s,.slice e2 m2 f2]] w fun e w'=>∃ x,e = .returned x /\ OwnI 75 w' w.heap.size x (resI r ⟨g,I,s,F⟩) /\ Q w w':=by
 have HV:=Hd (fun u (q:Q w u) k (h:k < m2)=>(hf.q q).cellOf k2 h);have hr:=fun u (q:Q w u)=>Ro.record_any g0 r X a b c d cl u (hB.q q);unfold recV at hr;have HR:=Hd hr;have HDG:=Hd (fun x (h0:0 <= x) (h9:x <= 9) u (q:Q w u)=>digit_ok g0 r X a b c d cl x u (hB.q q) h0 h9);have HDX:=Hd (digit_at hF);have HWS:=Hd (fun k=>show reI r m1 F (k + 1) = reI r m1 F k ++ [dgE r (F.getD k 0) ((m1:Int) + ((k:Int) + 1))] by rw [reI_succ];simp);have HWL:=Hd (reI_len r m1 F);have HWZ:=Hd (reI_zero r m1 F);have HDE:=Hd (show ∀ x i,dgE r x i = (2,Lm.dgt r x.toNat,i) from fun _ _=>rfl);have HF:=Hd (fun u=>fldD u (Lm.bs r.nam) (Lm.bs r.pat) (Lm.bs r.sys) (Lm.bs r.dec) (Lm.bs r.grp) (Lm.bs r.min) (Lm.bs r.per) (Lm.bs r.cur));have hic:=hi.form0 k1;obtain ⟨_,_,hv,hnc,hcm⟩:=hic;cases hv;have hfc:=hf.form0 k2;obtain ⟨_,_,hv,hnf,hfm⟩:=hfc;cases hv;have hRS:resI r ⟨g,I,s,F⟩ = if s = true then reI r m1 F m2 else []:=by unfold resI;dsimp only;rw [k1,k2]
 rw [hRS];unfold maxLen at hcm hfm;clear hr hB hi hf k1 k2 hF hRS;generalize reI r m1 F = RI at *;generalize Lm.bs r.nam = s0 at *;generalize Lm.bs r.pat = s1 at *;generalize Lm.bs r.sys = s2 at *;generalize Lm.bs r.dec = s3 at *;generalize Lm.bs r.grp = s4 at *;generalize Lm.bs r.min = s5 at *;generalize Lm.bs r.per = s6 at *;generalize Lm.bs r.cur = s7 at *;obtain ⟨z,hz⟩:∃ z,z = w.alloc (.cells #[.bool g,.slice e1 m1 f1,.bool s,.slice e2 m2 f2] 39):=⟨_,rfl⟩;have HQZ:=Hd (show Q w z by rw [hz];exact (Q.refl w).alloc _);have HDZ:=Hd (show Bk z w.heap.size 39 [.bool g,.slice e1 m1 f1,.bool s,.slice e2 m2 f2] by rw [hz];exact Bk.new _ _ _);cases s
 ·rw [if_neg (by simp)]
  go_enter Tryz.func50,Tryz.ntmps50
  go_upto_region 1 with fail
  rw [<- hz];clear hz;obtain ⟨bd,hbd⟩:∃ b,b = w.heap.size:=⟨_,rfl⟩;rw [<- hbd] at HDZ |-;clear hbd;have y2:=HDZ.out.cell 2 rfl;go_wp2_with fail
  go_ret
  exact ⟨_,rfl,OwnI.nil _ _ _,HQZ.out⟩
 ·rw [if_pos rfl]
  go_enter Tryz.func50,Tryz.ntmps50
  go_upto_region 1 with fail
  rw [<- hz];clear hz;obtain ⟨bd,hbd⟩:∃ b,b = w.heap.size:=⟨_,rfl⟩;rw [<- hbd] at HDZ |-;clear hbd;have hf0:=HF.out;have y2:=HDZ.out.cell 2 rfl;go_upto_region 3 with fail
  clear y2;refine wp_region_held_drew (S:=fun u=>Q z u) (by kernel_rfl) (by exact (Q.refl z).drew) (fun hHeld=>?_);have hS:Q z z.drew:=hHeld;clear hHeld;have hq:Q z z.drew:=(Q.refl _).drew;clear hq;generalize z.drew = yR2x0 at *;change wpAnyH _ _ _ _ _ _ #[ff,ff,ff,ff,ff,ff,ff,ff,ff] _ _;refine tk 0 (by simp only [gA,gB,gC];rfl) (by first | kernel_rfl | rfl) (fun uz _=>by go_simp;try with_reducible rfl) pq hS ?_;try simp only [Act.put,sA,sB,sC]
  refine tk 3 (by simp only [gA,gB,gC];rfl) (by first | kernel_rfl | rfl) (fun uz _=>by go_simp;try with_reducible rfl) pq hS ?_;try simp only [Act.put,sA,sB,sC]
  refine tk 4 (by simp only [gA,gB,gC];rfl) (by first | kernel_rfl | rfl) (fun uz hSw=>by (try dsimp only at hSw);have q:=(HDZ.out.q hSw).cell 1 rfl;go_simp;try with_reducible rfl) pq hS ?_;try simp only [Act.put,sA,sB,sC]
  refine tk 5 (by simp only [gA,gB,gC];rfl) (by first | kernel_rfl | rfl) (fun uz _=>by go_simp;try with_reducible rfl) pq hS ?_;try simp only [Act.put,sA,sB,sC]
  refine wpAnyH_ready (rs:=[1]) (by kernel_rfl) (by simp) ?_;refine ar (by (try simp only [gA,gB,gC]);rfl) fun K hK=>?_;go_simp
  refine (HR.out _ (HQZ.out.trans hS)).mono ?_;rintro e yR2x5 ⟨rfl,hq⟩;try (go_wp2_with fail)
  have hS2:=Q.trans hS hq;refine hK.out _ _ (by exact hS2) (fun hHeld=>?_);clear hK K hHeld hS hq;have hS:=hS2;clear hS2;try simp only [Act.put,sA,sB,sC]
  refine tk 2 (by simp only [gA,gB,gC];rfl) (by first | kernel_rfl | rfl) (fun uz _=>by go_simp;try with_reducible rfl) pq hS ?_;try simp only [Act.put,sA,sB,sC]
  refine tk 6 (by simp only [gA,gB,gC];rfl) (by first | kernel_rfl | rfl) (fun uz _=>by go_simp;try with_reducible rfl) pq hS ?_;try simp only [Act.put,sA,sB,sC]
  refine wpAnyH_ready (rs:=[7]) (by kernel_rfl) (by simp) ?_;refine ar (by (try simp only [gA,gB,gC]);rfl) fun K hK=>?_;go_simp
  have hq:=(Q.refl yR2x5).alloc (.cells #[.int .i64 4,.string s3,.int .i64 (m1:Int)] 75);have HOX:=Hd (OwnI.made1 (T:=75) yR2x5 4 s3 (m1:Int));have HBX:=Hd (Bk.new yR2x5 75 [.int .i64 4,.string s3,.int .i64 (m1:Int)]);have HW_bX:=Hd (Q.le hS);have HOX:=Hd (HOX.out.mono HW_bX.out);have hS2:=Q.trans hS hq;refine hK.out _ _ (by exact hS2) (fun hHeld=>?_);clear hK K hHeld hS hq;have hS:=hS2;clear hS2;generalize yR2x5.alloc (.cells #[.int .i64 4,.string s3,.int .i64 (m1:Int)] 75) = yR2x8 at *;generalize yR2x5.heap.size = bX at *;try simp only [Act.put,sA,sB,sC]
  refine tk 8 (by simp only [gA,gB,gC];rfl) (by first | kernel_rfl | rfl) (fun uz _=>by go_simp;try with_reducible rfl) pq hS ?_;try simp only [Act.put,sA,sB,sC]
  refine wpAnyH_done (by kernel_rfl) ?_ _;have HQ1:=Hd hS;have HO1:=Hd HOX.out;clear hS hf0;have y3:=(HDZ.out.q HQ1.out).cell 3 rfl;go_wp2_with fail
  clear y3;go_loopw [5,21] (fun x i wr=>∃ k:Nat,i = .int .i64 k /\ k <= m2 /\ OwnI 75 wr z.heap.size x (RI k) /\ Q z wr) (fun _ i _=>m2 - (intOf i).toNat)
  case atStart=>exact ⟨0,rfl,by omega,by rw [HWZ.out];exact HO1.out,HQ1.out⟩
  case round =>
   obtain ⟨k,rfl,hk,ho,hqr⟩:=hrel;by_cases hlt:k < m2
   ·have hwl:=HWL.out k
    obtain ⟨oa,oc,rfl,_,_⟩:=ho.lst.form0 hwl;have HOL:=Hd hwl;have HQR:=Hd (HQZ.out.trans hqr);have HCX:=Hd (show ∃ gg off,Value.slice e2 m2 f2 = .slice (some ⟨gg,off,none⟩) m2 f2 /\ ∀ u,Q z u -> u.cell? ⟨gg,off + k,none⟩ = some (.int .i64 (F.getD k 0)) from by
     obtain ⟨gg,off,cap,hvv,hg,_,_,c1'⟩:=HV.out wr HQR.out k hlt;cases hvv;refine ⟨gg,off,rfl,fun u hu=>?_⟩;obtain ⟨_,_,_,h1,_,_,_,h2⟩:=HV.out u (HQZ.out.trans hu) k hlt;cases h1;exact h2)
    obtain ⟨gg,off,hvv,hcx⟩:=HCX.out;cases hvv;clear HCX;have HCX:=Hd hcx;have HWK:=Hd (HWS.out k);have hdx:=HDX.out k;clear hcx hwl;generalize F.getD k 0 = x at *;rw [HDE.out] at HWK;have HDX2:=Hd (fun u q=>HDG.out x hdx.1 hdx.2 u q);generalize Lm.dgt r x.toNat = D at *;have OWN:=Hd ho;have hw1:IntKind.i64.wrap ((m1:Int) + ((k:Int) + 1)) = (m1:Int) + ((k + 1:Nat):Int):=by rw [IntKind.wrap_i64];omega
    have hw2:IntKind.i64.wrap ((m1:Int) + ((k:Int) + 1)) = (m1:Int) + ((k:Int) + 1):=by rw [IntKind.wrap_i64];omega
    clear ho;go_upto_region 7 with fail
    refine wp_region_held_drew (S:=fun u=>Q z u) (by kernel_rfl) (by exact hqr.drew) (fun hHeld=>?_);have hS:Q z wr.drew:=hHeld;clear hHeld;have hq:Q wr wr.drew:=(Q.refl _).drew;have OWN:=Hd (OWN.out.q hq);clear hq;generalize wr.drew = yR3x0 at *;change wpAnyH _ _ _ _ _ _ #[ff,ff,ff,ff,ff,ff,ff,ff,ff,ff,ff,ff,ff,ff,ff,ff,ff,ff] _ _;refine tk 0 (by simp only [gA,gB,gC];rfl) (by first | kernel_rfl | rfl) (fun uz _=>by go_simp;try with_reducible rfl) pq hS ?_;try simp only [Act.put,sA,sB,sC]
    refine tk 1 (by simp only [gA,gB,gC];rfl) (by first | kernel_rfl | rfl) (fun uz _=>by go_simp;try with_reducible rfl) pq hS ?_;try simp only [Act.put,sA,sB,sC]
    refine tk 2 (by simp only [gA,gB,gC];rfl) (by first | kernel_rfl | rfl) (fun uz _=>by go_simp;try with_reducible rfl) pq hS ?_;try simp only [Act.put,sA,sB,sC]
    refine tk 3 (by simp only [gA,gB,gC];rfl) (by first | kernel_rfl | rfl) (fun uz hSw=>by (try dsimp only at hSw);have q:=(HDZ.out.q hSw).cell 3 rfl;go_simp;try with_reducible rfl) pq hS ?_;try simp only [Act.put,sA,sB,sC]
    refine tk 4 (by simp only [gA,gB,gC];rfl) (by first | kernel_rfl | rfl) (fun uz _=>by go_simp;try with_reducible rfl) pq hS ?_;try simp only [Act.put,sA,sB,sC]
    refine tk 5 (by simp only [gA,gB,gC];rfl) (by first | kernel_rfl | rfl) (fun uz _=>by go_simp;try with_reducible rfl) pq hS ?_;try simp only [Act.put,sA,sB,sC]
    refine tk 6 (by simp only [gA,gB,gC];rfl) (by first | kernel_rfl | rfl) (fun uz hSw=>by (try dsimp only at hSw);have q:=HCX.out _ hSw;go_simp;try with_reducible rfl) pq hS ?_;try simp only [Act.put,sA,sB,sC]
    refine tk 8 (by simp only [gA,gB,gC];rfl) (by first | kernel_rfl | rfl) (fun uz _=>by go_simp;try with_reducible rfl) pq hS ?_;try simp only [Act.put,sA,sB,sC]
    refine tk 9 (by simp only [gA,gB,gC];rfl) (by first | kernel_rfl | rfl) (fun uz hSw=>by (try dsimp only at hSw);have q:=(HDZ.out.q hSw).cell 1 rfl;go_simp;try with_reducible rfl) pq hS ?_;try simp only [Act.put,sA,sB,sC]
    refine tk 10 (by simp only [gA,gB,gC];rfl) (by first | kernel_rfl | rfl) (fun uz _=>by go_simp;try with_reducible rfl) pq hS ?_;try simp only [Act.put,sA,sB,sC]
    refine tk 11 (by simp only [gA,gB,gC];rfl) (by first | kernel_rfl | rfl) (fun uz _=>by go_simp;try with_reducible rfl) pq hS ?_;try simp only [Act.put,sA,sB,sC]
    refine tk 12 (by simp only [gA,gB,gC];rfl) (by first | kernel_rfl | rfl) (fun uz _=>by go_simp;try with_reducible rfl) pq hS ?_;try simp only [Act.put,sA,sB,sC]
    refine tk 13 (by simp only [gA,gB,gC];rfl) (by first | kernel_rfl | rfl) (fun uz _=>by go_simp;try with_reducible rfl) pq hS ?_;try simp only [Act.put,sA,sB,sC]
    refine wpAnyH_ready (rs:=[7]) (by kernel_rfl) (by simp) ?_;refine ar (by (try simp only [gA,gB,gC]);rfl) fun K hK=>?_;go_simp
    refine (HDX2.out _ (HQZ.out.trans hS)).mono ?_;rintro e yR3x14 ⟨rfl,hq⟩;try (go_wp2_with fail)
    have OWN:=Hd (OWN.out.q hq);have hS2:=Q.trans hS hq;refine hK.out _ _ (by exact hS2) (fun hHeld=>?_);clear hK K hHeld hS hq;have hS:=hS2;clear hS2;try simp only [Act.put,sA,sB,sC]
    refine tk 14 (by simp only [gA,gB,gC];rfl) (by first | kernel_rfl | rfl) (fun uz _=>by go_simp;try with_reducible rfl) pq hS ?_;try simp only [Act.put,sA,sB,sC]
    refine wpAnyH_ready (rs:=[15]) (by kernel_rfl) (by simp) ?_;refine ar (by (try simp only [gA,gB,gC]);rfl) fun K hK=>?_;go_simp
    have hq:=(Q.refl yR3x14).alloc (.cells #[.int .i64 2,.string D,.int .i64 ((m1:Int) + ((k:Int) + 1))] 75);have HBX:=Hd (Bk.new yR3x14 75 [.int .i64 2,.string D,.int .i64 ((m1:Int) + ((k:Int) + 1))]);have HW_bX:=Hd (Q.le hS);have OWN:=Hd (OWN.out.q hq);have hS2:=Q.trans hS hq;refine hK.out _ _ (by exact hS2) (fun hHeld=>?_);clear hK K hHeld hS hq;have hS:=hS2;clear hS2;generalize yR3x14.alloc (.cells #[.int .i64 2,.string D,.int .i64 ((m1:Int) + ((k:Int) + 1))] 75) = yR3x16 at *;generalize yR3x14.heap.size = bX at *;try simp only [Act.put,sA,sB,sC]
    refine wpAnyH_ready (rs:=[16]) (by kernel_rfl) (by simp) ?_;refine ar (by (try simp only [gA,gB,gC]);rfl) fun K hK=>?_;refine Im.pushR elP OWN.out (by rfl) _ _ (by rfl) 2 D ((m1:Int) + ((k:Int) + 1)) (by rfl) (by rfl) (HBX.out.cell 0 rfl) (HBX.out.cell 1 rfl) (HBX.out.cell 2 rfl) (by rw [HOL.out];omega) (Q.le hS) ?_;intro v' yR3x17 ho hg hat;have hS2:=Q.grown hS hg (fun j h=>(OWN.out.lt j h).1);have HO6:=Hd ho;clear ho hg hat;refine hK.out _ _ (by exact hS2) (fun hHeld=>?_);clear hK K hHeld hS;have hS:=hS2;clear hS2;try simp only [Act.put,sA,sB,sC]
    refine tk 17 (by simp only [gA,gB,gC];rfl) (by first | kernel_rfl | rfl) (fun uz _=>by go_simp;try with_reducible rfl) pq hS ?_;try simp only [Act.put,sA,sB,sC]
    refine wpAnyH_done (by kernel_rfl) ?_ _;have HQ6:=Hd hS;clear hS;have HO7:=Hd (show OwnI 75 yR3x17 z.heap.size v' (RI (k + 1)) by rw [HWK.out];exact HO6.out);go_wp2_with fail
    exact ⟨⟨k + 1,by go_num,by omega,HO7.out,HQ6.out⟩,by simp [intOf];omega⟩
   ·obtain rfl:k = m2:=by omega
    have HO:=Hd (ho.mono HQZ.out.le);have HQ:=Hd (HQZ.out.trans hqr);clear ho hqr;go_wp2_with fail
    go_ret
    exact ⟨_,rfl,HO.out,HQ.out⟩
theorem items_big (g0:Nat) (r:Lm.Rec) (X:Pt.Pat) (a b c d cl:Value) (g s:Bool) (e1 e2:Option Addr) (m1 m2 f1 f2:Nat) (I F:List Int) (w:World) (hO:Lm.Ok r X) (hB:LB w g0 r X a b c d cl) (hi:Lst w (.slice e1 m1 f1) I) (hf:Lst w (.slice e2 m2 f2) F) (k1:I.length = m1) (k2:F.length = m2) (l1:m1 <= 10000) (l2:m2 <= 10000) (hI:Dm.okD I) (hF:Dm.okD F) :
  Calls Tryz.prog 25 #[.pointer (some ⟨g0,0,none⟩),.agg #[.bool g,.slice e1 m1 f1,.bool s,.slice e2 m2 f2]] w fun e w'=>∃ x,e = .returned x /\ OwnI 75 w' w.heap.size x (itm r X.pr X.se ⟨g,I,s,F⟩ (parP r (Ro.ahd g X)) (parP r (Ro.bhd g X))) /\ Q w w':=by
 have hic:=hi.form0 k1;obtain ⟨_,_,hv,hnc,hcm⟩:=hic;cases hv;have hfc:=hf.form0 k2;obtain ⟨_,_,hv,hnf,hfm⟩:=hfc;cases hv;have hpf:=Ro.around_fact hO g;have HAR:=Hd (fun u (q:Q w u)=>Ro.around_any g g0 r X a b c d cl u hO (hB.q q));have HAF:=Hd (fun v l u (q:Q w u) (hv:Pb.LstP u v l) (hl:l.length <= 100000)=>affixes_any g0 r X a b c d cl v l u (hB.q q) hv hl);have HWH:=Hd (fun u (q:Q w u)=>whole_any g0 r X a b c d cl g s e1 e2 m1 m2 f1 f2 I F u (hB.q q) (hi.q q) k1 l1 hI hfm hnf);have HRE:=Hd (fun u (q:Q w u)=>rest_any g0 r X a b c d cl g s e1 e2 m1 m2 f1 f2 I F u (hB.q q) (hi.q q) (hf.q q) k1 k2 l1 l2 hF);have HP1:=Hd hpf.2.2.1;have HP2:=Hd hpf.2.2.2;have hw1:=whI_len r X.pr X.se I I.length;have hw3:=resI_len r ⟨g,I,s,F⟩;dsimp only at hw3;rw [k2] at hw3;rw [k1] at hw1;have HIT:=Hd (show itm r X.pr X.se ⟨g,I,s,F⟩ (parP r (Ro.ahd g X)) (parP r (Ro.bhd g X)) = affI r (parP r (Ro.ahd g X)) ++ whI r X.pr X.se I I.length ++ resI r ⟨g,I,s,F⟩ ++ affI r (parP r (Ro.bhd g X)) from rfl);rw [HIT.out];rw [k1] at HWH |-;clear HIT hpf hB hi hf hO hI hF k1 k2;unfold maxLen at hcm hfm;generalize parP r (Ro.ahd g X) = P1 at *;generalize parP r (Ro.bhd g X) = P2 at *;have hq1:=affI_len r P1;have hq2:=affI_len r P2;generalize whI r X.pr X.se I m1 = A2 at *;generalize resI r ⟨g,I,s,F⟩ = A3 at *;obtain ⟨A1,hA1⟩:∃ y,y = affI r P1:=⟨_,rfl⟩;obtain ⟨A4,hA4⟩:∃ y,y = affI r P2:=⟨_,rfl⟩;rw [<- hA1] at hq1;rw [<- hA4] at hq2;rw [<- hA1,<- hA4];have HA1:=Hd hA1.symm;have HA4:=Hd hA4.symm;obtain ⟨n1,hn1⟩:∃ n,n = A1.length:=⟨_,rfl⟩;obtain ⟨n2,hn2⟩:∃ n,n = A2.length:=⟨_,rfl⟩;obtain ⟨n3,hn3⟩:∃ n,n = A3.length:=⟨_,rfl⟩;obtain ⟨n4,hn4⟩:∃ n,n = A4.length:=⟨_,rfl⟩;have hp1:=HP1.out;have hp2:=HP2.out;have HL1:=Hd hn1.symm;have HL2:=Hd hn2.symm;have HL3:=Hd hn3.symm;have HL4:=Hd hn4.symm;have hb1:n1 <= 3:=by omega
 have hb2:n2 <= 20000:=by omega
 have hb3:n3 <= 10001:=by omega
 have hb4:n4 <= 3:=by omega
 clear hA1 hA4 hn1 hn2 hn3 hn4 hq1 hq2 hw1 hw3 hp1 hp2;obtain ⟨z,hz⟩:∃ z,z = w.alloc (.cells #[.bool g,.slice e1 m1 f1,.bool s,.slice e2 m2 f2] 39):=⟨_,rfl⟩;have HQZ:=Hd (show Q w z by rw [hz];exact (Q.refl w).alloc _);have HDZ:=Hd (show Bk z w.heap.size 39 [.bool g,.slice e1 m1 f1,.bool s,.slice e2 m2 f2] by rw [hz];exact Bk.new _ _ _);go_enter Tryz.func25,Tryz.ntmps25
 go_upto_region 1 with fail
 rw [<- hz];clear hz;obtain ⟨bd,hbd⟩:∃ b,b = w.heap.size:=⟨_,rfl⟩;rw [<- hbd] at HDZ |-;clear hbd;have y0:=HDZ.out.cell 0 rfl;go_wp2_with fail
 refine (HAR.out _ HQZ.out).mono ?_;rintro e w1 ⟨q1,q2,rfl,hu1,hu2,hq1⟩;have HX1:=Hd (show ∀ u,Q w1 u -> Calls Tryz.prog 48 #[.pointer (some ⟨g0,0,none⟩),q1] u fun e w'=>∃ x,e = .returned x /\ OwnI 75 w' u.heap.size x A1 /\ Q u w' from fun u q=>by
  have h:=HAF.out q1 P1 u (HQZ.out.trans (hq1.trans q)) (hu1.q q) (by have:=HP1.out;omega);rwa [HA1.out] at h)
 have HX2:=Hd (show ∀ u,Q w1 u -> Calls Tryz.prog 48 #[.pointer (some ⟨g0,0,none⟩),q2] u fun e w'=>∃ x,e = .returned x /\ OwnI 75 w' u.heap.size x A4 /\ Q u w' from fun u q=>by
  have h:=HAF.out q2 P2 u (HQZ.out.trans (hq1.trans q)) (hu2.q q) (by have:=HP2.out;omega);rwa [HA4.out] at h)
 obtain ⟨qa,qc,rfl,_,_⟩:=hu1.shape2;obtain ⟨qb,qd,rfl,_,_⟩:=hu2.shape2;have HQ1:=Hd (HQZ.out.trans hq1);have HD1:=Hd (HDZ.out.q hq1);clear hu1 hu2 hq1 y0;go_upto_region 2 with fail
 refine wp_region_held_drew (S:=fun u=>Q w1 u) (by kernel_rfl) (by exact (Q.refl w1).drew) (fun hHeld=>?_);have hS:Q w1 w1.drew:=hHeld;clear hHeld;have hq:Q w1 w1.drew:=(Q.refl _).drew;clear hq;generalize w1.drew = yR4x0 at *;change wpAnyH _ _ _ _ _ _ #[ff,ff,ff,ff,ff,ff,ff,ff,ff,ff,ff,ff,ff,ff,ff] _ _;refine tk 0 (by simp only [gA,gB,gC];rfl) (by first | kernel_rfl | rfl) (fun uz _=>by go_simp;try with_reducible rfl) pq hS ?_;try simp only [Act.put,sA,sB,sC]
 refine tk 1 (by simp only [gA,gB,gC];rfl) (by first | kernel_rfl | rfl) (fun uz _=>by go_simp;try with_reducible rfl) pq hS ?_;try simp only [Act.put,sA,sB,sC]
 refine tk 3 (by simp only [gA,gB,gC];rfl) (by first | kernel_rfl | rfl) (fun uz _=>by go_simp;try with_reducible rfl) pq hS ?_;try simp only [Act.put,sA,sB,sC]
 refine tk 4 (by simp only [gA,gB,gC];rfl) (by first | kernel_rfl | rfl) (fun uz hSw=>by (try dsimp only at hSw);have kb:=HD1.out.q hSw;have k0:=kb.cell 0 rfl;have k1:=kb.cell 1 rfl;have k2:=kb.cell 2 rfl;have k3:=kb.cell 3 rfl;clear kb;go_simp;try with_reducible rfl) pq hS ?_;try simp only [Act.put,sA,sB,sC]
 refine tk 6 (by simp only [gA,gB,gC];rfl) (by first | kernel_rfl | rfl) (fun uz _=>by go_simp;try with_reducible rfl) pq hS ?_;try simp only [Act.put,sA,sB,sC]
 refine tk 7 (by simp only [gA,gB,gC];rfl) (by first | kernel_rfl | rfl) (fun uz hSw=>by (try dsimp only at hSw);have kb:=HD1.out.q hSw;have k0:=kb.cell 0 rfl;have k1:=kb.cell 1 rfl;have k2:=kb.cell 2 rfl;have k3:=kb.cell 3 rfl;clear kb;go_simp;try with_reducible rfl) pq hS ?_;try simp only [Act.put,sA,sB,sC]
 refine tk 9 (by simp only [gA,gB,gC];rfl) (by first | kernel_rfl | rfl) (fun uz _=>by go_simp;try with_reducible rfl) pq hS ?_;try simp only [Act.put,sA,sB,sC]
 refine tk 10 (by simp only [gA,gB,gC];rfl) (by first | kernel_rfl | rfl) (fun uz _=>by go_simp;try with_reducible rfl) pq hS ?_;try simp only [Act.put,sA,sB,sC]
 refine wpAnyH_ready (rs:=[2]) (by kernel_rfl) (by simp) ?_;refine ar (by (try simp only [gA,gB,gC]);rfl) fun K hK=>?_;go_simp
 refine (HX1.out _ hS).mono ?_;rintro e yR4x9 ⟨x1,rfl,ho1,hq⟩;obtain ⟨xa1,xc1,rfl,_,_⟩:=ho1.lst.form0 HL1.out;have HO1:=Hd ho1.lst;clear ho1;try (go_wp2_with fail)
 have hS2:=Q.trans hS hq;refine hK.out _ _ (by exact hS2) (fun hHeld=>?_);clear hK K hHeld hS hq;have hS:=hS2;clear hS2;try simp only [Act.put,sA,sB,sC]
 refine wpAnyH_ready (rs:=[5]) (by kernel_rfl) (by simp) ?_;refine ar (by (try simp only [gA,gB,gC]);rfl) fun K hK=>?_;go_simp
 refine (HWH.out _ (HQ1.out.trans hS)).mono ?_;rintro e yR4x10 ⟨x2,rfl,ho2,hq⟩;obtain ⟨xa2,xc2,rfl,_,_⟩:=ho2.lst.form0 HL2.out;have HO2:=Hd ho2.lst;clear ho2;try (go_wp2_with fail)
 have HO1:=Hd (HO1.out.q hq);have hS2:=Q.trans hS hq;refine hK.out _ _ (by exact hS2) (fun hHeld=>?_);clear hK K hHeld hS hq;have hS:=hS2;clear hS2;try simp only [Act.put,sA,sB,sC]
 refine wpAnyH_ready (rs:=[8]) (by kernel_rfl) (by simp) ?_;refine ar (by (try simp only [gA,gB,gC]);rfl) fun K hK=>?_;go_simp
 refine (HRE.out _ (HQ1.out.trans hS)).mono ?_;rintro e yR4x11 ⟨x3,rfl,ho3,hq⟩;obtain ⟨xa3,xc3,rfl,_,_⟩:=ho3.lst.form0 HL3.out;have HO3:=Hd ho3.lst;clear ho3;try (go_wp2_with fail)
 have HO1:=Hd (HO1.out.q hq);have HO2:=Hd (HO2.out.q hq);have hS2:=Q.trans hS hq;refine hK.out _ _ (by exact hS2) (fun hHeld=>?_);clear hK K hHeld hS hq;have hS:=hS2;clear hS2;try simp only [Act.put,sA,sB,sC]
 refine wpAnyH_ready (rs:=[11]) (by kernel_rfl) (by simp) ?_;refine ar (by (try simp only [gA,gB,gC]);rfl) fun K hK=>?_;go_simp
 refine (HX2.out _ hS).mono ?_;rintro e yR4x12 ⟨x4,rfl,ho4,hq⟩;obtain ⟨xa4,xc4,rfl,_,_⟩:=ho4.lst.form0 HL4.out;have HO4:=Hd ho4.lst;clear ho4;try (go_wp2_with fail)
 have HO1:=Hd (HO1.out.q hq);have HO2:=Hd (HO2.out.q hq);have HO3:=Hd (HO3.out.q hq);have hS2:=Q.trans hS hq;refine hK.out _ _ (by exact hS2) (fun hHeld=>?_);clear hK K hHeld hS hq;have hS:=hS2;clear hS2;try simp only [Act.put,sA,sB,sC]
 refine wpAnyH_ready (rs:=[12]) (by kernel_rfl) (by simp) ?_;refine ar (by (try simp only [gA,gB,gC]);rfl) fun K hK=>?_;go_simp
 have hq:=(Q.refl yR4x12).alloc (.cells #[.slice xa1 n1 xc1,.slice xa2 n2 xc2,.slice xa3 n3 xc3,.slice xa4 n4 xc4] 67);have HBQ:=Hd (Bk.new yR4x12 67 [.slice xa1 n1 xc1,.slice xa2 n2 xc2,.slice xa3 n3 xc3,.slice xa4 n4 xc4]);have HW_bQ:=Hd (Q.le hS);have HO1:=Hd (HO1.out.q hq);have HO2:=Hd (HO2.out.q hq);have HO3:=Hd (HO3.out.q hq);have HO4:=Hd (HO4.out.q hq);have hS2:=Q.trans hS hq;refine hK.out _ _ (by exact hS2) (fun hHeld=>?_);clear hK K hHeld hS hq;have hS:=hS2;clear hS2;generalize yR4x12.alloc (.cells #[.slice xa1 n1 xc1,.slice xa2 n2 xc2,.slice xa3 n3 xc3,.slice xa4 n4 xc4] 67) = yR4x13 at *;generalize yR4x12.heap.size = bQ at *;try simp only [Act.put,sA,sB,sC]
 refine wpAnyH_ready (rs:=[13]) (by kernel_rfl) (by simp) ?_;refine ar (by (try simp only [gA,gB,gC]);rfl) fun K hK=>?_;go_simp
 refine (concat4 _ bQ _ _ _ _ _ _ _ _ HBQ.out HO1.out HO2.out HO3.out HO4.out (by rw [HL1.out];omega) (by rw [HL2.out];omega) (by rw [HL3.out];omega) (by rw [HL4.out];omega)).mono ?_;rintro e yR4x14 ⟨x5,rfl,ho5,hq⟩;have HO5:=Hd (ho5.mono (Nat.le_trans HQ1.out.le (Q.le hS)));clear ho5;try (go_wp2_with fail)
 have HO1:=Hd (HO1.out.q hq);have HO2:=Hd (HO2.out.q hq);have HO3:=Hd (HO3.out.q hq);have HO4:=Hd (HO4.out.q hq);have HBQ:=Hd (Bk.q HBQ.out hq);have hS2:=Q.trans hS hq;refine hK.out _ _ (by exact hS2) (fun hHeld=>?_);clear hK K hHeld hS hq;have hS:=hS2;clear hS2;try simp only [Act.put,sA,sB,sC]
 refine tk 14 (by simp only [gA,gB,gC];rfl) (by first | kernel_rfl | rfl) (fun uz _=>by go_simp;try with_reducible rfl) pq hS ?_;try simp only [Act.put,sA,sB,sC]
 refine wpAnyH_done (by kernel_rfl) ?_ _;have HQ6:=Hd (HQ1.out.trans hS);clear hS;go_wp2_with fail
 go_ret
 exact ⟨_,rfl,HO5.out,HQ6.out⟩
theorem items_any (g0:Nat) (r:Lm.Rec) (X:Pt.Pat) (a b c d cl:Value) (g s:Bool) (e1 e2:Option Addr) (m1 m2 f1 f2:Nat) (I F:List Int) (w:World) (hO:Lm.Ok r X) (hB:LB w g0 r X a b c d cl) (hi:Lst w (.slice e1 m1 f1) I) (hf:Lst w (.slice e2 m2 f2) F) (k1:I.length = m1) (k2:F.length = m2) (l1:m1 <= 1000) (l2:m2 <= 1000) (hI:Dm.okD I) (hF:Dm.okD F) :
  Calls Tryz.prog 25 #[.pointer (some ⟨g0,0,none⟩),.agg #[.bool g,.slice e1 m1 f1,.bool s,.slice e2 m2 f2]] w fun e w'=>∃ x,e = .returned x /\ OwnI 75 w' w.heap.size x (itm r X.pr X.se ⟨g,I,s,F⟩ (parP r (Ro.ahd g X)) (parP r (Ro.bhd g X))) /\ Q w w' :=
 items_big g0 r X a b c d cl g s e1 e2 m1 m2 f1 f2 I F w hO hB hi hf k1 k2 (by omega) (by omega) hI hF
end It
end
section
open Go.RowKit
namespace Sp
open Um Cm Gm Im Lo Sx
theorem Bk_own {w w':World} {b:Nat} {ty:TypeId} {l:List Value} {v:Value} (hb:Bk w b ty l) (hg:w.grownBy w' v.ownBlock) (hv:v.ownBlock ≠ some b):Bk w' b ty l :=
 (hg.block b hb.lt (fun e=>hv e.symm)).trans hb
theorem Own_put {w:World} {B b:Nat} {v:Value} {zs:List Int} (h:Own w B v zs) (hb:b < B) (o:Nat) (u:Value):Own (w.setCell ⟨b,o,none⟩ u) B v zs :=
 h.same fun g hg=>Below.heap_setCell w ⟨b,o,none⟩ u g (by have:=(h.lt g hg).1;show g ≠ b;omega)
theorem grouping1_any (l p s:Int) (b0 b1 b2:Nat) (w:World) (h0:Bk w b0 3 [.int .i64 l]) (h1:Bk w b1 3 [.int .i64 p]) (h2:Bk w b2 3 [.int .i64 s]) (n1:b0 ≠ b1) (n2:b0 ≠ b2) (l0:-9223372036854775807 <= l) (l1:l <= 9223372036854775807) :
  Calls Tryz.prog 170 #[.pointer (some ⟨b0,0,none⟩),.pointer (some ⟨b1,0,none⟩),.pointer (some ⟨b2,0,none⟩)] w fun e w'=>e = .returned (.bool (endB (l - 1) p s)) /\ w' = w.setCell ⟨b0,0,none⟩ (.int .i64 (l - 1)):=by
 have c0:=h0.cell 0 rfl;have f0:=h0.free 0;have h3:=h0.set 0 (.int .i64 (l - 1));have h4:=h1.past (g:=b0) (i:=0) n1 (.int .i64 (l - 1));have h5:=h2.past (g:=b0) (i:=0) n2 (.int .i64 (l - 1));have c3:=h3.cell 0 rfl;have c4:=h4.cell 0 rfl;have c5:=h5.cell 0 rfl;have HE:=Hd (fun u=>It.ends_any (l - 1) p s u (by omega) (by omega));clear h0 h1 h2 h3 h4 h5;go_enter Tryz.func170,Tryz.ntmps170
 go_wp2_with fail
 refine (HE.out _).mono ?_;rintro e w1 ⟨rfl,rfl⟩;go_wp2_with fail
 go_ret
 exact ⟨rfl,rfl⟩
theorem grouping_any (g:Nat) (r:Lm.Rec) (X:Pt.Pat) (a b c d cl:Value) (n:Int) (w:World) (hB:LB w g r X a b c d cl) :
  Calls Tryz.prog 122 #[.pointer (some ⟨g,0,none⟩),.int .i64 n] w fun e w'=>∃ b1 b2,e = .returned (.func (.func 170) #[] #[.pointer (some ⟨w.heap.size,0,none⟩),.pointer (some ⟨b1,0,none⟩),.pointer (some ⟨b2,0,none⟩)]) /\
   (w.heap.size < b1 /\ b1 < b2) /\ Bk w' w.heap.size 3 [.int .i64 n] /\ Bk w' b1 3 [.int .i64 X.pr] /\ Bk w' b2 3 [.int .i64 X.se] /\ Q w w':=by
 have HS:=Hd (fun u (q:Q w u)=>sizes_any g r X a b c d cl u (hB.q q));clear hB;obtain ⟨y,hy⟩:∃ y,y = w.alloc (.cells #[.int .i64 n] 3):=⟨_,rfl⟩;have HQY:=Hd (show Q w y by rw [hy];exact (Q.refl w).alloc _);have HBY:=Hd (show Bk y w.heap.size 3 [.int .i64 n] by rw [hy];exact Bk.new _ _ _);obtain ⟨b0,hb0⟩:∃ b,b = w.heap.size:=⟨_,rfl⟩;have HB0:=Hd hb0;rw [<- hb0] at HBY;go_enter Tryz.func122,Tryz.ntmps122
 go_upto_region 1 with fail
 rw [<- hy,<- hb0];clear hy hb0;go_wp2_with fail
 refine (HS.out _ HQY.out).mono ?_;rintro e w1 ⟨rfl,hq1⟩;obtain ⟨z,hz⟩:∃ z,z = w1.alloc (.cells #[.int .i64 X.pr] 3):=⟨_,rfl⟩;have hqz:Q w1 z:=by rw [hz];exact (Q.refl w1).alloc _
 have hbz:Bk z w1.heap.size 3 [.int .i64 X.pr]:=by rw [hz];exact Bk.new _ _ _
 have hsz:z.heap.size = w1.heap.size + 1:=by rw [hz];simp
 obtain ⟨z2,hz2⟩:∃ z2,z2 = z.alloc (.cells #[.int .i64 X.se] 3):=⟨_,rfl⟩;have hqz2:Q z z2:=by rw [hz2];exact (Q.refl z).alloc _
 have hbz2:Bk z2 z.heap.size 3 [.int .i64 X.se]:=by rw [hz2];exact Bk.new _ _ _
 rw [hsz] at hbz2;have HR:=Hd (show (w.heap.size < w1.heap.size /\ w1.heap.size < w1.heap.size + 1) /\ Bk z2 b0 3 [.int .i64 n] /\ Bk z2 w1.heap.size 3 [.int .i64 X.pr] /\ Bk z2 (w1.heap.size + 1) 3 [.int .i64 X.se] /\ Q w z2 from
  ⟨⟨by have:=(HBY.out.q hq1).lt;have:=HB0.out;omega,by omega⟩,HBY.out.q (hq1.trans (hqz.trans hqz2)),hbz.q hqz2,hbz2,HQY.out.trans (hq1.trans (hqz.trans hqz2))⟩)
 have HZ:=Hd (show z2 = (w1.alloc (.cells #[.int .i64 X.pr] 3)).alloc (.cells #[.int .i64 X.se] 3) by rw [hz2,hz]);clear hqz hbz hsz hqz2 hbz2 hz2 hz hq1;go_wp2_with fail
 go_ret
 rw [<- HZ.out,HB0.out];have hr:=HR.out;rw [HB0.out] at hr;exact ⟨_,_,rfl,hr⟩
theorem whole_any (v:Value) (S:List Int) (w:World) (hv:Lst w v S) (hl:S.length <= 1073741824) :
  Calls Tryz.prog 123 #[v] w fun e w'=>e = .returned (.int .i64 (whl S:Nat)) /\ w = w':=by
 obtain ⟨n,hn⟩:∃ n,n = S.length:=⟨_,rfl⟩;obtain ⟨a,c,rfl,hnc,hcm⟩:=hv.form0 hn.symm;have HV:=Hd (fun k (hk:k < n)=>hv.cellOf (n:=n) (k:=k) hn.symm hk);have hnl:n <= 1073741824:=by omega
 have HST:=Hd (show ∀ k,k < n -> whl (S.drop k) = if S.getD k 0 = 10 then 0 else if S.getD k 0 = 11 then whl (S.drop (k + 1)) else whl (S.drop (k + 1)) + 1 from fun k hk=>by
  rw [List.drop_eq_getElem_cons (by omega),whl_cons,List.getD_eq_getElem?_getD,List.getElem?_eq_getElem (show k < S.length by omega)];rfl)
 have HEN:=Hd (show whl (S.drop n) = 0 by rw [hn,List.drop_length];rfl);have H0:=Hd (show whl (S.drop 0) = whl S from rfl);unfold maxLen at hcm;clear hv hn hl;generalize whl S = R at *;go_enter Tryz.func123,Tryz.ntmps123
 go_wp2_with fail
 go_loopw [3,8] (fun p i wr=>∃ k j:Nat,p = .int .i64 j /\ i = .int .i64 k /\ k <= n /\ j <= k /\ j + whl (S.drop k) = R /\ wr = w) (fun _ i _=>n - (intOf i).toNat)
 case atStart=>exact ⟨0,0,rfl,rfl,by omega,by omega,by rw [H0.out];omega,rfl⟩
 case round =>
  obtain ⟨k,j,rfl,rfl,hk,hj,hR,rfl⟩:=hrel;have HR:=Hd hR;clear hR;by_cases hlt:k < n
  ·obtain ⟨gl,off,cap,hvv,hgl,_,_,cl⟩:=HV.out k hlt
   cases hvv;have hst:=HST.out k hlt;have hr:=HR.out;rw [hst] at hr;obtain ⟨x,hx⟩:∃ x,x = S.getD k 0:=⟨_,rfl⟩;rw [<- hx] at cl hr;clear hst hx;by_cases h10:x = 10
   ·subst h10
    rw [if_pos rfl] at hr;obtain rfl:j = R:=by omega
    clear hr;go_wp2_with fail
    go_ret
    exact ⟨rfl,rfl⟩
   ·have e10:(x == 10) = false:=beq_eq_false_iff_ne.2 h10
    rw [if_neg h10] at hr;clear h10;by_cases h11:x = 11
    ·subst h11
     rw [if_pos rfl] at hr;have HR2:=Hd hr;clear hr;go_wp2_with fail
     exact ⟨⟨k + 1,j,rfl,by go_num,by omega,by omega,HR2.out,trivial⟩,by simp [intOf];omega⟩
    ·have e11:(x == 11) = false:=beq_eq_false_iff_ne.2 h11
     rw [if_neg h11] at hr;have HR2:=Hd (show j + 1 + whl (S.drop (k + 1)) = R by omega);clear hr h11;go_wp2_with fail
     exact ⟨⟨k + 1,j + 1,by go_num,by go_num,by omega,by omega,HR2.out,trivial⟩,by simp [intOf];omega⟩
  ·obtain rfl:k = n:=by omega
   have hr:=HR.out;rw [HEN.out] at hr;obtain rfl:j = R:=by omega
   clear hr;go_wp2_with fail
   go_ret
   exact ⟨rfl,rfl⟩
theorem signs_any (g:Nat) (r:Lm.Rec) (X:Pt.Pat) (a b c d cl:Value) (s:ByteArray) (w:World) (hB:LB w g r X a b c d cl) (hs:s.size <= 1073741824) :
  Calls Tryz.prog 64 #[.pointer (some ⟨g,0,none⟩),.string s] w fun e w'=>∃ v,e = .returned v /\ Own w' w.heap.size v (sg r s) /\ Q w w':=by
 have HSG:=Hd (fun u (q:Q w u) x=>sign_any g r X a b c d cl x u (hB.q q));have HSP:=Hd (csplit_any s w hs);obtain ⟨n,hn⟩:∃ n,n = (pcs s).length:=⟨_,rfl⟩;have hnl:n <= 1073741824:=by have:=sg_len r s;unfold sg at this;rw [List.length_map] at this;omega
 have HN:=Hd hn.symm;have HTK:=Hd (show ∀ k,k < n -> (sg r s).take (k + 1) = (sg r s).take k ++ [Lm.sgn r ((pcs s).getD k ⟨#[]⟩)] from fun k hk=>by
  unfold sg;rw [<- List.map_take,<- List.map_take,List.take_add_one,List.getElem?_eq_getElem (by omega),List.getD_eq_getElem?_getD,List.getElem?_eq_getElem (show k < (pcs s).length by omega),List.map_append];rfl)
 have HTL:=Hd (show ∀ k,k <= n -> ((sg r s).take k).length = k from fun k hk=>by rw [List.length_take];unfold sg;rw [List.length_map];omega);have HTE:=Hd (show (sg r s).take n = sg r s from List.take_of_length_le (by unfold sg;rw [List.length_map];omega));have HT0:=Hd (show (sg r s).take 0 = [] from rfl);clear hB hs hn;generalize pcs s = P at *;generalize sg r s = S at *;go_enter Tryz.func64,Tryz.ntmps64
 go_wp2_with fail
 refine HSP.out.mono ?_;rintro e w1 ⟨v,rfl,hso,hq1⟩;have hsl:=hso.lst;obtain ⟨sa,sc,rfl,hnc,hcm⟩:=hsl.form0 HN.out;unfold maxLen at hcm;have HSL:=Hd hsl;have HQ1:=Hd hq1;clear hso hsl hq1;go_wp2_with fail
 go_loopw [5,11] (fun o i wr=>∃ k:Nat,i = .int .i64 k /\ k <= n /\ Own wr w1.heap.size o (S.take k) /\ Q w1 wr) (fun _ i _=>n - (intOf i).toNat)
 case atStart=>exact ⟨0,rfl,by omega,by rw [HT0.out];exact Own.nil _ _,Q.refl _⟩
 case round =>
  obtain ⟨k,rfl,hk,ho,hq⟩:=hrel;by_cases hlt:k < n
  ·obtain ⟨gl,off,cap,hvv,hgl,_,_,cl⟩:=(HSL.out.q hq).cellOf (x:=P.getD k ⟨#[]⟩) (k:=k) HN.out (by rw [List.getD_eq_getElem?_getD,List.getElem?_eq_getElem (show k < P.length by have:=HN.out;omega)];rfl)
   cases hvv;have HTS:=Hd (HTK.out k hlt);have HLK:=Hd (HTL.out k hk);have HC:=Hd (HSG.out wr (HQ1.out.trans hq) (P.getD k ⟨#[]⟩));have HQ:=Hd hq;obtain ⟨oa,oc,rfl,_,_⟩:=ho.lst.form0 HLK.out;have HO:=Hd ho;generalize P.getD k ⟨#[]⟩ = x at *;generalize Lm.sgn r x = y at *;clear ho hq;go_wp2_with fail
   refine HC.out.mono ?_;rintro e w2 ⟨rfl,hq2⟩;have HQ2:=Hd (HQ.out.trans hq2);have HO2:=Hd (HO.out.q hq2);have hle:w1.heap.size <= w2.heap.size:=HQ2.out.le;clear hq2;go_wp2_with (at_builtin;refine push_int HO2.out rfl _ _ rfl y (by rfl) (by rfl) (by have:=HLK.out;omega) hle ?_)
   intro v' w3 ho3 hg3 hat3;have HQ3:=Hd (HQ2.out.grown hg3 (fun j h=>(HO2.out.lt j h).1));have HO3:=Hd (show Own w3 w1.heap.size v' (S.take (k + 1)) by rw [HTS.out];exact ho3);clear ho3 hg3 hat3 cl;go_wp2_with fail
   exact ⟨⟨k + 1,by go_num,by omega,HO3.out,HQ3.out⟩,by simp [intOf];omega⟩
  ·obtain rfl:k = n:=by omega
   obtain ⟨oa,oc,rfl,_,_⟩:=ho.lst.form0 (HTL.out k hk);rw [HTE.out] at ho;have HO:=Hd (ho.mono HQ1.out.le);have HQ:=Hd (HQ1.out.trans hq);clear ho hq;go_wp2_with fail
   go_ret
   exact ⟨_,rfl,HO.out,HQ.out⟩
theorem ungrouped_any (g:Nat) (r:Lm.Rec) (X:Pt.Pat) (a b c d cl:Value) (v:Value) (S:List Int) (w:World) (hB:LB w g r X a b c d cl) (hv:Lst w v S) (hl:S.length <= 1073741824) :
  Calls Tryz.prog 63 #[.pointer (some ⟨g,0,none⟩),v] w fun e w'=>∃ u,e = .returned (.tuple #[u,.bool (ung X.pr X.se (whl S) false S).isSome]) /\ Own w' w.heap.size u ((ung X.pr X.se (whl S) false S).getD []) /\ Q w w':=by
 obtain ⟨n,hn⟩:∃ n,n = S.length:=⟨_,rfl⟩;obtain ⟨sa,sc,rfl,hnc,hcm⟩:=hv.form0 hn.symm;have HV:=Hd (fun u (q:Q w u) k (hk:k < n)=>(hv.q q).cellOf (n:=n) (k:=k) hn.symm hk);have HWH:=Hd (whole_any (.slice sa n sc) S w hv hl);have HGR:=Hd (grouping_any g r X a b c d cl (whl S:Nat) w hB);have hnl:n <= 1073741824:=by omega
 have hwl:whl S <= n:=by rw [hn];exact whl_le S
 have HDR:=Hd (show ∀ k,k < n -> S.drop k = S.getD k 0 :: S.drop (k + 1) from fun k hk=>by
  rw [List.drop_eq_getElem_cons (by omega),List.getD_eq_getElem?_getD,List.getElem?_eq_getElem (show k < S.length by omega)];rfl)
 have HDN:=Hd (show S.drop n = [] by rw [hn,List.drop_length]);have HD0:=Hd (show S.drop 0 = S from rfl);unfold maxLen at hcm;clear hB hv hn hl;obtain ⟨R,hR⟩:∃ R,R = ung X.pr X.se (whl S) false S:=⟨_,rfl⟩;rw [<- hR];have HR:=Hd hR;generalize whl S = W at *;generalize X.pr = pp at *;generalize X.se = ss at *;clear hR;go_enter Tryz.func63,Tryz.ntmps63
 go_wp2_with fail
 refine HWH.out.mono ?_;rintro e _ ⟨rfl,rfl⟩;go_wp2_with fail
 refine HGR.out.mono ?_;rintro e w1 ⟨b1,b2,rfl,⟨hlt1,hlt2⟩,hb0,hb1,hb2,hq1⟩;obtain ⟨b0,hbe⟩:∃ b,b = w.heap.size:=⟨_,rfl⟩;rw [<- hbe] at hlt1;rw [<- hbe] at hb0 |-;have HBE:=Hd hbe;have HB0:=Hd hb0;have HB1:=Hd hb1;have HB2:=Hd hb2;have HQ1:=Hd hq1;clear hb0 hb1 hb2 hq1 hbe;go_wp2_with fail
 go_loopw [6,8,17] (fun o du i wr=>∃ (k:Nat) (left:Int) (due:Bool) (A:List Int),du = .bool due /\ i = .int .i64 k /\ k <= n /\ A.length <= k /\ Own wr (b2 + 1) o A /\ Bk wr b0 3 [.int .i64 left] /\ Bk wr b1 3 [.int .i64 pp] /\ Bk wr b2 3 [.int .i64 ss] /\ Q w wr /\
  (-(k:Int) <= left /\ left <= n) /\ R = (ung pp ss left due (S.drop k)).map (A ++ ·)) (fun _ _ i _=>n - (intOf i).toNat)
 case atStart=>exact ⟨0,W,false,[],rfl,rfl,by omega,by simp,Own.nil _ _,HB0.out,HB1.out,HB2.out,HQ1.out,by omega,by rw [HR.out,HD0.out];cases ung pp ss (W:Int) false S <;> rfl⟩
 case round =>
  obtain ⟨k,left,due,A,rfl,rfl,hk,hA,ho,hb0,hb1,hb2,hq,hlf,hRR⟩:=hrel;obtain ⟨am,ham⟩:∃ m,m = A.length:=⟨_,rfl⟩;obtain ⟨oa,oc,rfl,_,_⟩:=ho.lst.form0 ham.symm;have HAM:=Hd ham;rw [<- ham] at hA;clear ham;have HO:=Hd ho;have HQ:=Hd hq;have HX0:=Hd hb0;have HX1:=Hd hb1;have HX2:=Hd hb2;by_cases hlt:k < n
  ·obtain ⟨gl,off,cap,hvv,hgl,_,_,cl⟩:=HV.out wr hq k hlt
   cases hvv;rw [HDR.out k hlt] at hRR;generalize S.getD k 0 = x at *;clear ho hb0 hb1 hb2 hq;by_cases hx:x = 11
   ·subst hx
    cases due
    ·rw [ung_bad (by decide)] at hRR
     have HN:=Hd (show R = none from hRR);clear hRR;go_wp2_with fail
     go_ret2
     rw [HN.out];exact ⟨_,rfl,Own.nil _ _,HQ.out⟩
    ·rw [ung_grp rfl] at hRR
     have HN:=Hd hRR;clear hRR;go_wp2_with fail
     exact ⟨⟨k + 1,left,false,A,rfl,by go_num,by omega,by have:=HAM.out;omega,HO.out,HX0.out,HX1.out,HX2.out,HQ.out,by omega,HN.out⟩,by simp [intOf];omega⟩
   ·have e11:(x == 11) = false:=beq_eq_false_iff_ne.2 hx
    cases due
    ·rw [ung_at hx] at hRR
     have HN:=Hd hRR;have hle:b2 + 1 <= wr.heap.size:=HX2.out.lt;have HLF:=Hd hlf;clear hRR hx hlf;go_wp2_with (at_builtin;refine push_int HO.out rfl _ _ rfl x (by rfl) (by rfl) (by have:=HAM.out;omega) hle ?_)
     intro v' w3 ho3 hg3 hat3;have h0:=Bk_own HX0.out hg3 (fun h=>by have:=(HO.out.lt b0 h).1;omega);have h1:=Bk_own HX1.out hg3 (fun h=>by have:=(HO.out.lt b1 h).1;omega);have h2:=Bk_own HX2.out hg3 (fun h=>by have:=(HO.out.lt b2 h).1;omega);have HC:=Hd (grouping1_any left pp ss b0 b1 b2 w3 h0 h1 h2 (by omega) (by omega) (by have:=HLF.out;omega) (by have:=HLF.out;omega));have HQ3:=Hd (HQ.out.grown hg3 (fun j h=>by have:=(HO.out.lt j h).1;have:=HBE.out;omega));have HO3:=Hd ho3;have H0:=Hd h0;have H1:=Hd h1;have H2:=Hd h2;clear ho3 hg3 hat3 h0 h1 h2 HO HQ HX0 HX1 HX2;go_wp2_with fail
     refine HC.out.mono ?_;rintro e w4 ⟨rfl,rfl⟩;have HB0:=Hd (H0.out.set 0 (.int .i64 (left - 1)));have HB1:=Hd (H1.out.past (g:=b0) (i:=0) (by omega) (.int .i64 (left - 1)));have HB2:=Hd (H2.out.past (g:=b0) (i:=0) (by omega) (.int .i64 (left - 1)));have HO4:=Hd (Own_put HO3.out (b:=b0) (by omega) 0 (.int .i64 (left - 1)));have HQ4:=Hd (Q.setCell HQ3.out (ad:=⟨b0,0,none⟩) (by have:=HBE.out;show w.heap.size <= b0;omega) (.int .i64 (left - 1)));generalize w3.setCell ⟨b0,0,none⟩ (.int .i64 (left - 1)) = w5 at *;clear H0 H1 H2 HO3 HQ3 HC;go_wp2_with fail
     refine ⟨⟨k + 1,left - 1,_,A ++ [x],rfl,by go_num,by omega,by rw [List.length_append,List.length_singleton];have:=HAM.out;omega,HO4.out,HB0.out,HB1.out,HB2.out,HQ4.out,by have:=HLF.out;omega,?_⟩,by simp [intOf];omega⟩;rw [HN.out,Option.map_map];congr 1
     funext l
     simp
    ·rw [ung_bad (by rw [e11];decide)] at hRR
     have HN:=Hd (show R = none from hRR);clear hRR hx;go_wp2_with fail
     go_ret2
     rw [HN.out];exact ⟨_,rfl,Own.nil _ _,HQ.out⟩
  ·obtain rfl:k = n:=by omega
   rw [HDN.out,ung_nil] at hRR;have HN:=Hd (show R = some A by rw [hRR];simp);clear hRR ho hb0 hb1 hb2 hq;go_wp2_with fail
   go_ret2
   rw [HN.out];exact ⟨_,rfl,HO.out.mono (by have:=HBE.out;omega),HQ.out⟩
end Sp
end
section
open Go.RowKit
namespace Rs
open Um Cm Gm Im Lo Ro Sx Tm
theorem infoD:(Tryz.prog.info? 26).map (·.size) = some 4:=by kernel_rfl
theorem Own_row {w:World} {B b0:Nat} {v:Value} {zs:List Int} (h:Own w B v zs) (hb:b0 < B) (cs:Array Value):Own (w.setRow b0 cs) B v zs:=h.same fun g hg=>setRow_other w b0 g cs (by have:=(h.lt g hg).1;omega)
theorem LD_row {w:World} {B b0:Nat} {v:Value} {d:T} (h:LD w B v d) (hb:b0 < B) (cs:Array Value):LD (w.setRow b0 cs) B v d:=by
 obtain ⟨a1,c1,a2,c2,h0,h1,h2⟩:=h;exact ⟨a1,c1,a2,c2,h0,Own_row h1 hb cs,Own_row h2 hb cs⟩
theorem load_rowG {P:Program} {ops:Array Oper} {rest:List Oper} {o:Oper} {a:Act} {w:World} {R:Exit -> Act -> World -> Prop} (hw:Region.wanted o (yielded ops a.tmps) = true) (ty:TypeId) (x:Operand) (ho:o.op = .load ty x)
  (g:Nat) (hx:a.eval x = .pointer (some ⟨g,0,none⟩)) (t:TypeId) (cs:Array Value) (fr:Nat × Nat) (d:TypeDesc) (hg:w.heap[g]? = some (.cells cs t fr))
  (hu:P.underlying ty = some d) (hd:(match d with | .struct _ | .array _ _=>true | _=>false) = true) (hi:(P.info? ty).map (·.size) = some cs.size)
  (h:wpList P ops R rest (a.put o.dst (.agg cs)) w):wpList P ops R (o :: rest) a w :=
 wpList_step fun K hK=>by
  rw [if_pos hw];exact wp_load_row ty x ho g hx t cs fr d hg hu hd hi (hK _ _ h)
theorem itd_small {r:Lm.Rec} {X:Pt.Pat} (h:It.LOk r X) {d:T} (hm:may d = true) (l1:d.i.length <= 5000) (l2:d.f.length <= 5000):(itd r X d).length <= 15007 /\ (txI (itd r X d)).length <= 1000000:=by
 have h1:=tx_size h hm;have h2:=itm_len r X.pr X.se d (parP r (Ro.ahd d.g X)) (parP r (Ro.bhd d.g X));have h3:=(Ro.around_fact h.ok d.g).2.2.1;have h4:=(Ro.around_fact h.ok d.g).2.2.2;have e:(tx r X d).size = (txI (itd r X d)).length:=by unfold tx;simp [ByteArray.size]
 rw [e] at h1;unfold itd at h1 |-;have h5:64 * (2 * d.i.length + d.f.length + 7) <= 64 * 15007:=Nat.mul_le_mul_left _ (by omega);exact ⟨by omega,by omega⟩
theorem text_any (r:Lm.Rec) (X:Pt.Pat) (a b c d:Value) (g s:Bool) (e1 e2:Option Addr) (m1 m2 f1 f2:Nat) (I F:List Int) (w:World) (hok:It.LOk r X) (hL:Ro.LL w X a b c d) (hi:Lst w (.slice e1 m1 f1) I) (hf:Lst w (.slice e2 m2 f2) F) (k1:I.length = m1) (k2:F.length = m2) (l1:m1 <= 5000) (l2:m2 <= 5000) (hm:may ⟨g,I,s,F⟩ = true) :
  Calls Tryz.prog 11 #[lV r X a b c d,.agg #[.bool g,.slice e1 m1 f1,.bool s,.slice e2 m2 f2]] w fun e w'=>e = .returned (.string (tx r X ⟨g,I,s,F⟩)) /\ Q w w':=by
 have HRI:=Hd (fun u (q:Q w u)=>It.ritems_big r X a b c d g s e1 e2 m1 m2 f1 f2 I F u hok.ok (hL.q q) (hi.q q) (hf.q q) k1 k2 (by omega) (by omega) hm hok.pr hok.se.2);have hsm:=itd_small hok hm (by dsimp only;omega) (by dsimp only;omega);have HTX:=Hd (show tx r X ⟨g,I,s,F⟩ = ⟨(txI (itd r X ⟨g,I,s,F⟩)).toArray⟩ from rfl);have hE:itm r X.pr X.se ⟨g,I,s,F⟩ (parP r (Ro.ahd g X)) (parP r (Ro.bhd g X)) = itd r X ⟨g,I,s,F⟩:=rfl;rw [hE] at HRI;rw [HTX.out];have hic:=hi.form0 k1;obtain ⟨_,_,hv,hnc,hcm⟩:=hic;cases hv;have hfc:=hf.form0 k2;obtain ⟨_,_,hv,hnf,hfm⟩:=hfc;cases hv;unfold maxLen at hcm hfm;obtain ⟨a1,a2,rfl⟩:=hL.1.shape;obtain ⟨b1,b2,rfl⟩:=hL.2.1.shape;obtain ⟨c1,c2,rfl⟩:=hL.2.2.1.shape;obtain ⟨d1,d2,rfl⟩:=hL.2.2.2.shape;clear hL hi hf k1 k2 l1 l2 hE HTX hm;generalize itd r X ⟨g,I,s,F⟩ = L at *;have HSM:=Hd hsm;clear hok hsm;unfold lV at *;generalize X.pre.length = n1 at *;generalize X.suf.length = n2 at *;generalize X.npre.length = n3 at *;generalize X.nsuf.length = n4 at *;generalize X.pr = p0 at *;generalize X.se = p1 at *;generalize X.mi = p2 at *;generalize X.mf = p3 at *;generalize X.xf = p4 at *;generalize Lm.bs r.nam = s0 at *;generalize Lm.bs r.pat = s1 at *;generalize Lm.bs r.sys = s2 at *;generalize Lm.bs r.dec = s3 at *;generalize Lm.bs r.grp = s4 at *;generalize Lm.bs r.min = s5 at *;generalize Lm.bs r.per = s6 at *;generalize Lm.bs r.cur = s7 at *;obtain ⟨y,hy⟩:∃ y,y = w.alloc (.cells #[.string s0,.string s1,.string s2,.string s3,.string s4,.string s5,.string s6,.string s7,.slice a1 n1 a2,.slice b1 n2 b2,.slice c1 n3 c2,.slice d1 n4 d2,.int .i64 p0,.int .i64 p1,.int .i64 p2,.int .i64 p3,.int .i64 p4] 34):=⟨_,rfl⟩;have hqy:Q w y:=by rw [hy];exact (Q.refl w).alloc _
 have hby:Bk y w.heap.size 34 [.string s0,.string s1,.string s2,.string s3,.string s4,.string s5,.string s6,.string s7,.slice a1 n1 a2,.slice b1 n2 b2,.slice c1 n3 c2,.slice d1 n4 d2,.int .i64 p0,.int .i64 p1,.int .i64 p2,.int .i64 p3,.int .i64 p4]:=by rw [hy];exact Bk.new _ _ _
 have hsy:y.heap.size = w.heap.size + 1:=by rw [hy];simp
 obtain ⟨z,hz⟩:∃ z,z = y.alloc (.cells #[.bool g,.slice e1 m1 f1,.bool s,.slice e2 m2 f2] 26):=⟨_,rfl⟩;have hqz:Q y z:=by rw [hz];exact (Q.refl y).alloc _
 have hdz:Bk z y.heap.size 26 [.bool g,.slice e1 m1 f1,.bool s,.slice e2 m2 f2]:=by rw [hz];exact Bk.new _ _ _
 rw [hsy] at hdz;have HQZ:=Hd (hqy.trans hqz);have HBZ:=Hd (hby.q hqz);have HDZ:=Hd hdz;have hz2:z = (w.alloc (.cells #[.string s0,.string s1,.string s2,.string s3,.string s4,.string s5,.string s6,.string s7,.slice a1 n1 a2,.slice b1 n2 b2,.slice c1 n3 c2,.slice d1 n4 d2,.int .i64 p0,.int .i64 p1,.int .i64 p2,.int .i64 p3,.int .i64 p4] 34)).alloc (.cells #[.bool g,.slice e1 m1 f1,.bool s,.slice e2 m2 f2] 26):=by rw [hz,hy]
 clear hqy hby hqz hdz hsy hz hy;go_enter Tryz.func11,Tryz.ntmps11
 go_upto_region 1 with fail
 rw [<- hz2];clear hz2;obtain ⟨bz,hbz⟩:∃ b,b = w.heap.size:=⟨_,rfl⟩;obtain ⟨bd,hbd⟩:∃ b,b = w.heap.size + 1:=⟨_,rfl⟩;rw [<- hbz] at HBZ;rw [<- hbd] at HDZ;rw [<- hbd,<- hbz];clear hbz hbd;go_wp2_with (first | (refine wpList_load_row (by rfl) 34 _ (by rfl) bz (by rfl) 34 #[.string s0,.string s1,.string s2,.string s3,.string s4,.string s5,.string s6,.string s7,.slice a1 n1 a2,.slice b1 n2 b2,.slice c1 n3 c2,.slice d1 n4 d2,.int .i64 p0,.int .i64 p1,.int .i64 p2,.int .i64 p3,.int .i64 p4] (0,0) _ HBZ.out Tryz.underlying34 rfl (by exact infoL) ?_) | (refine wpList_load_row (by rfl) 26 _ (by rfl) bd (by rfl) 26 #[.bool g,.slice e1 m1 f1,.bool s,.slice e2 m2 f2] (0,0) _ HDZ.out Tryz.underlying26 rfl (by exact infoD) ?_))
 refine (HRI.out _ HQZ.out).mono ?_;rintro e w1 ⟨v,rfl,hov,hq1⟩;have HQ1:=Hd (HQZ.out.trans hq1);have HV:=Hd hov.lst;obtain ⟨va,vc,rfl⟩:=hov.shape;clear hov hq1;go_wp2_with fail
 refine (It.rtext_any _ L w1 HV.out (by have:=HSM.out.1;omega) HSM.out.2).mono ?_;rintro e w2 ⟨rfl,hq2⟩;have HQ2:=Hd (HQ1.out.trans hq2);clear hq2;go_wp2_with fail
 go_ret
 exact ⟨rfl,HQ2.out⟩
theorem parse_any (r:Lm.Rec) (X:Pt.Pat) (a b c d:Value) (t:ByteArray) (w:World) (hok:It.LOk r X) (hL:Ro.LL w X a b c d) (ht:t.size <= 5000) :
  Calls Tryz.prog 21 #[lV r X a b c d,.string t] w fun e w'=>∃ x,e = .returned (.tuple #[x,.int .i64 (cdS (isS r X t))]) /\ LD w' (w.heap.size + 2) x (rd r X t) /\ Q w w':=by
 have HSP:=Hd (fun u=>Gr.split_any t u (by omega));have HSG:=Hd (fun u (q:Q w u) x=>rsign_any r X a b c d x u hok.ok (hL.q q));have HTX:=Hd (fun u (q:Q w u) (D:T) (e1 e2:Option Addr) (f1 f2:Nat) (hi:Lst u (.slice e1 D.i.length f1) D.i) (hf:Lst u (.slice e2 D.f.length f2) D.f) (l1:D.i.length <= 5000) (l2:D.f.length <= 5000) (hm:may D = true)=>text_any r X a b c d D.g D.s e1 e2 _ _ f1 f2 D.i D.f u hok (hL.q q) hi hf rfl rfl l1 l2 hm);have hsl:=sg_len r t;have hcand:=show cand r t = ofR (ngv (sg r t)) (atm (sg r t)) from rfl;have hiS:=show isS r X t = (decide (ofC (atm (sg r t)) = 0) && decide (tx r X (cand r t) = t)) from rfl;have hrd:=show rd r X t = if isS r X t = true then cand r t else T0 from rfl
 have hcm:=fun h=>cand_may (r:=r) (s:=t) h;have hcc:=ofC_cases (sg r t);have hal:=atm_len (sg r t);have hll:ofC (atm (sg r t)) = 0 -> (cand r t).i.length <= 5000 /\ (cand r t).f.length <= 5000:=fun h=>by
  have e:cand r t = ofD (ngv (sg r t)) (atm (sg r t)):=(of_fit h).1;have h1:=ats_len (cand r t);rw [e] at h1 |-;rw [ats_of] at h1;omega
 obtain ⟨n,hn⟩:∃ n,n = (pcs t).length:=⟨_,rfl⟩;have hse:(sg r t).length = n:=by unfold sg;rw [List.length_map,hn]
 have HAT:=Hd (fun k (hk:k < n)=>atm_take (sg r t) k (by rw [hse];exact hk));have HNT:=Hd (fun k (hk:k < n)=>ngv_take (sg r t) k (by rw [hse];exact hk));have HSE:=Hd (show ∀ k,k < n -> (sg r t).getD k 0 = Lm.sgn r ((pcs t).getD k ⟨#[]⟩) from fun k hk=>by
  unfold sg;rw [List.getD_eq_getElem?_getD,List.getElem?_map,List.getElem?_eq_getElem (by omega),List.getD_eq_getElem?_getD,List.getElem?_eq_getElem (show k < (pcs t).length by omega)];rfl)
 have HLE:=Hd (show ∀ k,(atm ((sg r t).take k)).length <= n from fun k=>by have:=atm_len ((sg r t).take k);rw [List.length_take] at this;omega);have HEN:=Hd (show (sg r t).take n = sg r t from List.take_of_length_le (by omega));have hnb:n <= 5000:=by omega
 have HN:=Hd hn.symm;obtain ⟨a1,a2,rfl⟩:=hL.1.shape;obtain ⟨b1,b2,rfl⟩:=hL.2.1.shape;obtain ⟨c1,c2,rfl⟩:=hL.2.2.1.shape;obtain ⟨d1,d2,rfl⟩:=hL.2.2.2.shape;have HCN:=Hd hcand;have HIS:=Hd hiS;have HRD:=Hd hrd;have HCM:=Hd hcm;have HCC:=Hd hcc;have HLL:=Hd hll;have HAL:=Hd (show (atm (sg r t)).length <= 5000 by omega);clear hcand hiS hrd hcm hcc hll hal hsl hse hn hL hok ht;generalize isS r X t = IS at *;generalize rd r X t = RD at *;generalize cand r t = CA at *;generalize pcs t = P at *;generalize sg r t = S at *;generalize tx r X = TX at *;generalize Lm.sgn r = SG at *;unfold lV at *;generalize X.pre.length = n1 at *;generalize X.suf.length = n2 at *;generalize X.npre.length = n3 at *;generalize X.nsuf.length = n4 at *;generalize X.pr = p0 at *;generalize X.se = p1 at *;generalize X.mi = p2 at *;generalize X.mf = p3 at *;generalize X.xf = p4 at *;generalize Lm.bs r.nam = s0 at *;generalize Lm.bs r.pat = s1 at *;generalize Lm.bs r.sys = s2 at *;generalize Lm.bs r.dec = s3 at *;generalize Lm.bs r.grp = s4 at *;generalize Lm.bs r.min = s5 at *;generalize Lm.bs r.per = s6 at *;generalize Lm.bs r.cur = s7 at *;obtain ⟨y,hy⟩:∃ y,y = w.alloc (.cells #[.string s0,.string s1,.string s2,.string s3,.string s4,.string s5,.string s6,.string s7,.slice a1 n1 a2,.slice b1 n2 b2,.slice c1 n3 c2,.slice d1 n4 d2,.int .i64 p0,.int .i64 p1,.int .i64 p2,.int .i64 p3,.int .i64 p4] 34):=⟨_,rfl⟩;have hqy:Q w y:=by rw [hy];exact (Q.refl w).alloc _
 have hby:Bk y w.heap.size 34 [.string s0,.string s1,.string s2,.string s3,.string s4,.string s5,.string s6,.string s7,.slice a1 n1 a2,.slice b1 n2 b2,.slice c1 n3 c2,.slice d1 n4 d2,.int .i64 p0,.int .i64 p1,.int .i64 p2,.int .i64 p3,.int .i64 p4]:=by rw [hy];exact Bk.new _ _ _
 have hsy:y.heap.size = w.heap.size + 1:=by rw [hy];simp
 obtain ⟨z,hz⟩:∃ z,z = y.alloc (.cells #[.bool false,.slice none 0 0,.bool false,.slice none 0 0] 26):=⟨_,rfl⟩;have hqz:Q y z:=by rw [hz];exact (Q.refl y).alloc _
 have hdz:Bk z y.heap.size 26 [.bool false,.slice none 0 0,.bool false,.slice none 0 0]:=by rw [hz];exact Bk.new _ _ _
 have hsz:z.heap.size = w.heap.size + 2:=by rw [hz];simp;omega
 rw [hsy] at hdz;have HQZ:=Hd (hqy.trans hqz);have HBZ:=Hd (hby.q hqz);have HDZ:=Hd hdz;have HZS:=Hd hsz;have hz2:z = (w.alloc (.cells #[.string s0,.string s1,.string s2,.string s3,.string s4,.string s5,.string s6,.string s7,.slice a1 n1 a2,.slice b1 n2 b2,.slice c1 n3 c2,.slice d1 n4 d2,.int .i64 p0,.int .i64 p1,.int .i64 p2,.int .i64 p3,.int .i64 p4] 34)).alloc (.cells #[.bool false,.slice none 0 0,.bool false,.slice none 0 0] 26):=by rw [hz,hy]
 clear hqy hby hqz hdz hsy hsz hz hy;go_enter Tryz.func21,Tryz.ntmps21
 go_upto_region 1 with fail
 rw [<- hz2];clear hz2;obtain ⟨bz,hbz⟩:∃ b,b = w.heap.size:=⟨_,rfl⟩;obtain ⟨bd,hbd⟩:∃ b,b = w.heap.size + 1:=⟨_,rfl⟩;have HWD:=Hd (show w.heap.size <= bd by omega);have HDL:=Hd (show bd < w.heap.size + 2 by omega);rw [<- hbz] at HBZ;rw [<- hbd] at HDZ;rw [<- hbd,<- hbz];clear hbz hbd;go_wp2_with fail
 refine (HSP.out _).mono ?_;rintro e w1 ⟨v,rfl,hov,hq1⟩;obtain ⟨va,vc,rfl,hnc,hcm⟩:=hov.lst.form0 HN.out;unfold maxLen at hcm;have HV:=Hd hov.lst;have HQ1:=Hd (HQZ.out.trans hq1);have HB1:=Hd (HBZ.out.q hq1);have HD1:=Hd (HDZ.out.q hq1);have HLS:=Hd (show w.heap.size + 2 <= w1.heap.size by have:=HZS.out;have:=hq1.le;omega);clear hov hq1 HQZ HBZ HDZ HZS HSP;go_wp2_with fail
 go_loopw [7,8,9] (fun o ng i wr=>∃ k:Nat,i = .int .i64 k /\ k <= n /\ ng = .bool (ngv (S.take k)) /\ Own wr w1.heap.size o (atm (S.take k)) /\ Q w1 wr) (fun _ _ i _=>n - (intOf i).toNat)
 case atStart=>exact ⟨0,rfl,by omega,rfl,Own.nil _ _,Q.refl _⟩
 case round =>
  obtain ⟨k,rfl,hk,rfl,ho,hq⟩:=hrel;obtain ⟨m,hm⟩:∃ m,m = (atm (S.take k)).length:=⟨_,rfl⟩;obtain ⟨oa,oc,rfl,_,_⟩:=ho.lst.form0 hm.symm;have HMM:=Hd (show (atm (S.take k)).length = m /\ m <= n from ⟨hm.symm,by rw [hm];exact HLE.out k⟩);obtain ⟨ng,hng⟩:∃ b,b = ngv (S.take k):=⟨_,rfl⟩;rw [<- hng];have HNGE:=Hd hng;clear hm hng;by_cases hlt:k < n
  ·have hce:=(HV.out.q hq).cellOf (x:=P.getD k ⟨#[]⟩) (k:=k) HN.out (by rw [List.getD_eq_getElem?_getD,List.getElem?_eq_getElem (show k < P.length by have:=HN.out;omega)];rfl)
   have HXU:=Hd (fun u (q:Q w1 u)=>(HV.out.q q).cellOf (x:=P.getD k ⟨#[]⟩) (k:=k) HN.out (by rw [List.getD_eq_getElem?_getD,List.getElem?_eq_getElem (show k < P.length by have:=HN.out;omega)];rfl));obtain ⟨gl,off,cap,hvv,hgl,_,_,cl⟩:=hce;cases hvv;replace HXU:=Hd (show ∀ u,Q w1 u -> u.cell? ⟨gl,off + k,none⟩ = some (.string (P.getD k ⟨#[]⟩)) from fun u q=>by
    obtain ⟨_,_,_,hvv,_,_,_,cl⟩:=HXU.out u q;cases hvv;exact cl)
   have HAK:=Hd (HAT.out k hlt);have HNK:=Hd (HNT.out k hlt);rw [HSE.out k hlt] at HAK HNK;have HSX:=Hd (fun u (q:Q w u)=>HSG.out u q (P.getD k ⟨#[]⟩));have HLW:=Hd (fun u (q:Q w1 u)=>HB1.out.q q);have HOU:=Hd (fun u (q:Q wr u)=>ho.q q);have HLK:=Hd (HLE.out k);have HQ:=Hd hq;have HQ1R:=HQ1;generalize P.getD k ⟨#[]⟩ = x at *;generalize SG x = y at *;clear cl hq ho;go_upto_region 7 with fail
   refine wp_region_held_drew (S:=fun u=>Q wr u) (by kernel_rfl) (by exact (Q.refl wr).drew) (fun hHeld=>?_);have hS:Q wr wr.drew:=hHeld;clear hHeld;have hq:Q wr wr.drew:=(Q.refl _).drew;clear hq;generalize wr.drew = yR1x0 at *;change wpAnyH _ _ _ _ _ _ #[ff,ff,ff,ff,ff,ff,ff] _ _;refine tk 0 (by simp only [gA,gB,gC];rfl) (by first | kernel_rfl | rfl) (fun uz hSw=>by (try dsimp only at hSw);refine ld_row (x:=.tmp 2) ?_ ?_ (HLW.out _ (HQ.out.trans hSw)) Tryz.underlying34 (by exact infoL) <;> rfl) pq hS ?_
   try simp only [Act.put,sA,sB,sC]
   refine tk 1 (by simp only [gA,gB,gC];rfl) (by first | kernel_rfl | rfl) (fun uz _=>by go_simp;try with_reducible rfl) pq hS ?_;try simp only [Act.put,sA,sB,sC]
   refine tk 2 (by simp only [gA,gB,gC];rfl) (by first | kernel_rfl | rfl) (fun uz _=>by go_simp;try with_reducible rfl) pq hS ?_;try simp only [Act.put,sA,sB,sC]
   refine tk 3 (by simp only [gA,gB,gC];rfl) (by first | kernel_rfl | rfl) (fun uz _=>by go_simp;try with_reducible rfl) pq hS ?_;try simp only [Act.put,sA,sB,sC]
   refine tk 4 (by simp only [gA,gB,gC];rfl) (by first | kernel_rfl | rfl) (fun uz hSw=>by (try dsimp only at hSw);have q:=HXU.out _ (HQ.out.trans hSw);go_simp;try with_reducible rfl) pq hS ?_;try simp only [Act.put,sA,sB,sC]
   refine wpAnyH_ready (rs:=[5]) (by kernel_rfl) (by simp) ?_;refine ar (by (try simp only [gA,gB,gC]);rfl) fun K hK=>?_;go_simp
   refine (HSX.out _ (HQ1R.out.trans (HQ.out.trans hS))).mono ?_;rintro e yR1x6 ⟨rfl,hq⟩;try (go_wp2_with fail)
   have hS2:=Q.trans hS hq;refine hK.out _ _ (by exact hS2) (fun hHeld=>?_);clear hK K hHeld hS hq;have hS:=hS2;clear hS2;try simp only [Act.put,sA,sB,sC]
   refine tk 6 (by simp only [gA,gB,gC];rfl) (by first | kernel_rfl | rfl) (fun uz _=>by go_simp;try with_reducible rfl) pq hS ?_;try simp only [Act.put,sA,sB,sC]
   refine wpAnyH_done (by kernel_rfl) ?_ _;have HQ7:=Hd hS;have HO7:=Hd (HOU.out _ hS);clear hS;by_cases hA:0 <= y /\ y <= 10
   ·obtain ⟨hy0,hy1⟩:=hA
    have HTK:=Hd (show atm (S.take (k + 1)) = atm (S.take k) ++ [y] by rw [HAK.out,if_pos (show isA y = true by unfold isA;exact decide_eq_true ⟨hy0,hy1⟩)]);have e12:(y == 12) = false:=beq_eq_false_iff_ne.2 (by omega);have HNG:=Hd (show ngv (S.take (k + 1)) = ng by rw [HNK.out,e12,Bool.or_false];exact HNGE.out.symm);have hle:w1.heap.size <= yR1x6.heap.size:=(HQ.out.trans HQ7.out).le;go_wp2_with (at_builtin;refine push_int HO7.out rfl _ _ rfl y (by rfl) (by rfl) (by have:=HMM.out;omega) hle ?_)
    intro v' w3 ho3 hg3 hat3;have HQ3:=Hd ((HQ.out.trans HQ7.out).grown hg3 (fun j h=>(HO7.out.lt j h).1));have HO3:=Hd (show Own w3 w1.heap.size v' (atm (S.take (k + 1))) by rw [HTK.out];exact ho3);clear ho3 hg3 hat3;go_wp2_with fail
    exact ⟨⟨k + 1,by go_num,by omega,by rw [HNG.out],HO3.out,HQ3.out⟩,by simp [intOf];omega⟩
   ·by_cases h12:y = 12
    ·have HTK:=Hd (show atm (S.take (k + 1)) = atm (S.take k) by rw [HAK.out,if_neg (show ¬ isA y = true by unfold isA;simp;omega),List.append_nil])
     have HO8:=Hd (show Own yR1x6 w1.heap.size (.slice oa m oc) (atm (S.take (k + 1))) by rw [HTK.out];exact HO7.out);have HNG:=Hd (show ngv (S.take (k + 1)) = true by rw [HNK.out,h12];simp);subst h12;clear hA;go_wp2_with fail
     exact ⟨⟨k + 1,by go_num,by omega,by rw [HNG.out],HO8.out,HQ.out.trans HQ7.out⟩,by simp [intOf];omega⟩
    ·have HTK:=Hd (show atm (S.take (k + 1)) = atm (S.take k) by rw [HAK.out,if_neg (show ¬ isA y = true by unfold isA;simp;omega),List.append_nil])
     have HO8:=Hd (show Own yR1x6 w1.heap.size (.slice oa m oc) (atm (S.take (k + 1))) by rw [HTK.out];exact HO7.out);have e12:(y == 12) = false:=beq_eq_false_iff_ne.2 h12;have HNG:=Hd (show ngv (S.take (k + 1)) = ng by rw [HNK.out,e12,Bool.or_false];exact HNGE.out.symm);by_cases hn:y < 0
     ·clear h12 hA
      have hn2:¬ 0 <= y:=by omega
      go_wp2_with fail
      exact ⟨⟨k + 1,by go_num,by omega,by rw [HNG.out],HO8.out,HQ.out.trans HQ7.out⟩,by simp [intOf];omega⟩
     ·have hn2:0 <= y:=by omega
      have hn3:¬ y <= 10:=by omega
      have hn4:10 < y:=by omega
      clear h12 hA hn;go_wp2_with fail
      exact ⟨⟨k + 1,by go_num,by omega,by rw [HNG.out],HO8.out,HQ.out.trans HQ7.out⟩,by simp [intOf];omega⟩
  ·obtain rfl:k = n:=by omega
   rw [HEN.out] at ho;have HNE:=Hd (show ng = ngv S by have h:=HNGE.out;rw [HEN.out] at h;exact h);have HOF:=Hd (Tr.of_any ng _ (atm S) wr ho.lst (by have:=HAL.out;omega));have HQ2:=Hd (HQ1.out.trans hq);have HB2:=Hd (HB1.out.q hq);have HD2:=Hd (HD1.out.q hq);have hls:w.heap.size + 2 <= wr.heap.size + 2:=by have:=HLS.out;have:=hq.le;omega
   have HLS2:=Hd hls;clear ho hq hls HQ1 HB1 HD1;go_wp2_with fail
   refine HOF.out.mono ?_;rintro e w4 ⟨x,rfl,hld,hq4⟩;rw [HNE.out,<- HCN.out] at hld;obtain ⟨e1,f1,e2,f2,rfl,ho1,ho2⟩:=hld;have HMY:=Hd (fun h=>HCM.out h);obtain ⟨Dg,Di,Ds,Df⟩:=CA;dsimp only at ho1 ho2 HLL |-;obtain ⟨k1,hk1⟩:∃ k,k = Di.length:=⟨_,rfl⟩;obtain ⟨k2,hk2⟩:∃ k,k = Df.length:=⟨_,rfl⟩;rw [<- hk1,<- hk2] at HLL;rw [<- hk1] at ho1 |-;rw [<- hk2] at ho2 |-;have HK1:=Hd hk1.symm;have HK2:=Hd hk2.symm;clear hk1 hk2;obtain ⟨w5,hw5⟩:∃ u,u = w4.alloc (.cells #[.bool Dg,.slice e1 k1 f1,.bool Ds,.slice e2 k2 f2] 26):=⟨_,rfl⟩;have hq5:Q w4 w5:=by rw [hw5];exact (Q.refl _).alloc _
   have HB5:=Hd (show Bk w5 w4.heap.size 26 [.bool Dg,.slice e1 k1 f1,.bool Ds,.slice e2 k2 f2] by rw [hw5];exact Bk.new _ _ _);have HQ5:=Hd (HQ2.out.trans (hq4.trans hq5));have HL5:=Hd (HB2.out.q (hq4.trans hq5));have HD5:=Hd (HD2.out.q (hq4.trans hq5));have HO1:=Hd ((ho1.mono HLS2.out).q hq5);have HO2:=Hd ((ho2.mono HLS2.out).q hq5);obtain ⟨b5,hb5⟩:∃ b,b = w4.heap.size:=⟨_,rfl⟩;rw [<- hb5] at HB5;have HT5:=Hd (fun (h:ofC (atm S) = 0)=>HTX.out w5 HQ5.out ⟨Dg,Di,Ds,Df⟩ e1 e2 f1 f2 (by dsimp only;rw [HK1.out];exact HO1.out.lst) (by dsimp only;rw [HK2.out];exact HO2.out.lst) (by dsimp only;rw [HK1.out];exact (HLL.out h).1) (by dsimp only;rw [HK2.out];exact (HLL.out h).2) (HMY.out h));dsimp only at HT5;rw [HK1.out,HK2.out] at HT5;clear ho1 ho2 hq4 hq5 HTX HCN HCM HMY HLL HB2 HD2 HQ2 HOF;rcases HCC.out with hC | hC
   ·have HT:=Hd (HT5.out hC)
    rw [hC] at HIS |-;clear HT5 hC HCC;generalize hTT:TX ⟨Dg,Di,Ds,Df⟩ = T0' at *;go_upto_region 13 with fail
    rw [<- hw5,<- hb5];clear hw5 hb5;go_wp2_with (first | (refine load_rowG (by kernel_rfl) 34 _ (by rfl) bz (by rfl) 34 #[.string s0,.string s1,.string s2,.string s3,.string s4,.string s5,.string s6,.string s7,.slice a1 n1 a2,.slice b1 n2 b2,.slice c1 n3 c2,.slice d1 n4 d2,.int .i64 p0,.int .i64 p1,.int .i64 p2,.int .i64 p3,.int .i64 p4] (0,0) _ HL5.out Tryz.underlying34 rfl (by exact infoL) ?_) | (refine load_rowG (by kernel_rfl) 26 _ (by rfl) b5 (by rfl) 26 #[.bool Dg,.slice e1 k1 f1,.bool Ds,.slice e2 k2 f2] (0,0) _ HB5.out Tryz.underlying26 rfl (by exact infoD) ?_))
    refine HT.out.mono ?_;rintro e w6 ⟨rfl,hq6⟩;have HQ6:=Hd (HQ5.out.trans hq6);have HD6:=Hd (HD5.out.q hq6);have HB6:=Hd (HB5.out.q hq6);have HL6:=Hd (show LD w6 (w.heap.size + 2) (.agg #[.bool Dg,.slice e1 k1 f1,.bool Ds,.slice e2 k2 f2]) ⟨Dg,Di,Ds,Df⟩ from ⟨e1,f1,e2,f2,by dsimp only;rw [HK1.out,HK2.out],by dsimp only;rw [HK1.out];exact HO1.out.q hq6,by dsimp only;rw [HK2.out];exact HO2.out.q hq6⟩);clear hq6;by_cases hT:T0' = t
    ·have HI:Hid (IS = true):=Hd (by rw [HIS.out,hT];simp)
     rw [hT];have htt:(t.toList == t.toList) = true:=by simp
     go_wp2_with (first | (refine wpList_load_row (by rfl) 26 _ (by rfl) b5 (by rfl) 26 #[.bool Dg,.slice e1 k1 f1,.bool Ds,.slice e2 k2 f2] (0,0) _ HB6.out Tryz.underlying26 rfl (by exact infoD) ?_) | (refine wpList_store_row (by rfl) 26 _ _ (by rfl) bd #[.bool Dg,.slice e1 k1 f1,.bool Ds,.slice e2 k2 f2] (by rfl) (by rfl) 26 _ HD6.out (by exact infoD) rfl (Rw.all1 (by rfl)) ?_))
     refine Tr.ret_d2 rfl rfl rfl rfl (Rw.Bk_row HD6.out [.bool Dg,.slice e1 k1 f1,.bool Ds,.slice e2 k2 f2]) rfl ⟨_,by rw [HI.out];rfl,?_,Rw.Q_row HQ6.out HWD.out _⟩;rw [HRD.out,if_pos HI.out];exact LD_row HL6.out HDL.out _
    ·have HI:Hid (IS = false):=Hd (by rw [HIS.out,decide_eq_false hT];simp)
     have htt:=str_ne hT;clear hT;go_wp2_with (refine wpList_store_row (by rfl) 26 _ _ (by rfl) bd #[.bool false,.slice none 0 0,.bool false,.slice none 0 0] (by rfl) (by rfl) 26 _ HD6.out (by exact infoD) rfl (Rw.all1 (by rfl)) ?_)
     refine Tr.ret_d2 rfl rfl rfl rfl (Rw.Bk_row HD6.out [.bool false,.slice none 0 0,.bool false,.slice none 0 0]) rfl ⟨_,by rw [HI.out];rfl,?_,Rw.Q_row HQ6.out HWD.out _⟩;rw [HRD.out,HI.out,if_neg (by simp)];exact LD.zero _ _
   ·have HI:Hid (IS = false):=Hd (by rw [HIS.out,hC];simp)
    rw [hC];clear HT5 hC HCC HIS;go_upto_region 13 with fail
    rw [<- hw5,<- hb5];clear hw5 hb5;go_wp2_with (refine wpList_store_row (by rfl) 26 _ _ (by rfl) bd #[.bool false,.slice none 0 0,.bool false,.slice none 0 0] (by rfl) (by rfl) 26 _ HD5.out (by exact infoD) rfl (Rw.all1 (by rfl)) ?_)
    refine Tr.ret_d2 rfl rfl rfl rfl (Rw.Bk_row HD5.out [.bool false,.slice none 0 0,.bool false,.slice none 0 0]) rfl ⟨_,by rw [HI.out];rfl,?_,Rw.Q_row HQ5.out HWD.out _⟩;rw [HRD.out,HI.out,if_neg (by simp)];exact LD.zero _ _
end Rs
end
end Go.Proofs.YtdjhkbholijnmaaGreatDoor
