/- What package draft's Of, Atoms, Len, Dec and Text come to, by a walk through each. (and more) -/
import Derived.Test.YtnehhbobhnmbcaaR13
import Derived.Test.YtnehhbobhnmbcaaR14
set_option linter.all false
set_option maxRecDepth 100000
set_option maxHeartbeats 8000000
namespace Go.Proofs.Ytnehhbobhnmbcaa
section
open Go.RowKit
namespace Tm
theorem LD.zero (w:World) (B:Nat):LD w B (.agg #[.bool false,.slice none 0 0,.bool false,.slice none 0 0]) T0:=⟨none,0,none,0,rfl,Own.nil w B,Own.nil w B⟩
end Tm
namespace Tp
open Tm
theorem of_any (g:Bool) (v:Value) (L:List Int) (w:World) (hv:Lst w v L) (hl:L.length < 1000000) :
  Calls Try.prog 73 #[.bool g,v] w fun e w'=>∃ x,e = .returned (.tuple #[x,.int .i64 (ofC L)]) /\ LD w' (w.heap.size + 1) x (ofR g L) /\ Q w w':=by
 obtain ⟨n,hn⟩:∃ n,n = L.length:=⟨_,rfl⟩;obtain ⟨a,c,rfl,hnc,hcm⟩:=hv.form0 hn.symm;have HA:=Hd (fun u (q:Q w u)=>areAtoms_any _ L u (hv.q q) (by omega));have HI:=Hd (fun u (q:Q w u)=>Ts.index_any _ L u (hv.q q) (by omega));have HO:=Hd (fun u (q:Q w u)=>own_any _ L u (hv.q q) hl);obtain ⟨k,hk⟩:∃ k,k = (ahd L).length:=⟨_,rfl⟩;have hkn:k <= n:=by rw [hk,hn];exact ahd_le L
 have hhas:=has_lt L;rw [<- hk,<- hn] at hhas;have e1:ahd L = L.take k:=by rw [hk];exact ahd_eq L
 have e2:bhd L = L.drop (k + 1):=by rw [hk];exact bhd_eq L
 obtain ⟨m,hm⟩:∃ m,m = n - (k + 1):=⟨_,rfl⟩;have hbl:(bhd L).length = m:=by rw [e2,List.length_drop,hm,hn]
 have HC1:=Hd (fun u (q:Q w u)=>(by
  have h:=cut_any _ L 0 k u (hv.q q) (by omega) (by omega);rw [Nat.sub_zero,List.drop_zero,<- e1] at h;exact h:Calls Try.prog 72 #[.slice a n c,.int .i64 0,.int .i64 k] u fun e w'=>∃ a,e = .returned (.slice a k k) /\ Lst u (.slice a k k) (ahd L) /\ u = w'))
 have HC2:=Hd (fun u (q:Q w u) (hlt:k < n) (x:Int) (hx:x = (k:Int) + 1)=>(by
  subst hx;have h:=cut_any _ L (k + 1) n u (hv.q q) (by omega) (by omega);rw [<- hm,List.take_of_length_le (by rw [List.length_drop];omega),<- e2] at h;exact h:Calls Try.prog 72 #[.slice a n c,.int .i64 x,.int .i64 n] u fun e w'=>∃ a,e = .returned (.slice a m m) /\ Lst u (.slice a m m) (bhd L) /\ u = w'))
 have HOA:=Hd (fun u x (h:Lst u x (ahd L))=>own_any _ (ahd L) u h (by omega));have HOB:=Hd (fun u x (h:Lst u x (bhd L))=>own_any _ (bhd L) u h (by omega));have HCN:=Hd (fun u x (h:Lst u x (bhd L))=>Ts.contains_any _ (bhd L) u h (by omega));have hbad:=fun (h:okA L = false)=>And.intro (ofC_bad h) (ofR_bad (g:=g) h);have htwo:=fun (h:okA L = true) (h2:has (bhd L) = true)=>And.intro (ofC_two h h2) (ofR_two (g:=g) h h2);have hok:=fun (h:okA L = true) (h2:has (bhd L) = false)=>And.intro (ofC_ok h h2) (ofR_ok (g:=g) h h2);have hno:=has_no L;have hix:ix L = if has L = true then ((ahd L).length:Int) else -1:=rfl
 rw [<- hk] at hix;have HK:=Hd (show (ahd L).length = k /\ (bhd L).length = m /\ L.length = n from ⟨hk.symm,hbl,hn.symm⟩);have HD:=Hd (show ofD g L = ⟨g,ahd L,has L,bhd L⟩ from rfl);generalize hR:ofR g L = R at *;generalize hD:ofD g L = D at *;generalize hC:ofC L = C at *;generalize okA L = r at *;generalize hr2e:has (bhd L) = r2 at *;generalize hhl:has L = r3 at *;generalize ix L = x at *;obtain ⟨z,hz⟩:∃ y,y = w.alloc (.cells #[.bool false,.slice none 0 0,.bool false,.slice none 0 0] 37):=⟨_,rfl⟩;have HQ:=Hd (show Q w z by rw [hz];exact (Q.refl w).alloc _);have HB:=Hd (show Bk z w.heap.size 37 [.bool false,.slice none 0 0,.bool false,.slice none 0 0] by rw [hz];exact Bk.new _ _ _);have HZ:=Hd (show z.heap.size = w.heap.size + 1 by rw [hz];simp);have HWB:=Hd (Nat.le_refl w.heap.size);unfold maxLen at hcm;have HHAS:=Hd hhas;clear hv hn hl hk hm hbl e1 e2 hhas hR hD hC hhl;cases r
 ·obtain ⟨rfl,rfl⟩:=hbad rfl
  clear hbad htwo hok;go_enter Try.func73,Try.ntmps73
  go_upto_region 1 with fail
  rw [<- hz];clear hz;go_wp2_with fail
  refine (HA.out _ HQ.out).mono ?_;rintro e w1 ⟨rfl,rfl⟩;have b0:=HB.out.cell 0 rfl;have f0:=HB.out.free 0;have b1:=HB.out.cell 1 rfl;have f1:=HB.out.free 1;have b2:=HB.out.cell 2 rfl;have f2:=HB.out.free 2;have b3:=HB.out.cell 3 rfl;have f3:=HB.out.free 3;go_wp2_with fail
  exact ret_d2 rfl rfl rfl rfl ((((HB.out.set 0 _).set 1 _).set 2 _).set 3 _) rfl ⟨_,rfl,LD.zero _ _,Q.setCell (Q.setCell (Q.setCell (Q.setCell HQ.out HWB.out _) HWB.out _) HWB.out _) HWB.out _⟩
 ·clear hbad
  cases r3
  ·rw [if_neg (by decide)] at hix
   subst hix;obtain ⟨hn1,hn2⟩:=hno rfl;have hr2:r2 = false:=by rw [<- hr2e,hn2];rfl
   obtain ⟨rfl,rfl⟩:=hok rfl hr2;have HX:=Hd (show R.g = g /\ R.i = L /\ R.s = false /\ R.f = [] by rw [HD.out];exact ⟨rfl,hn1,rfl,hn2⟩);clear htwo hok hr2e hno HD hn1 hn2;go_enter Try.func73,Try.ntmps73
   go_upto_region 1 with fail
   rw [<- hz];clear hz;go_wp2_with fail
   refine (HA.out _ HQ.out).mono ?_;rintro e w1 ⟨rfl,rfl⟩;have b0:=HB.out.cell 0 rfl;have f0:=HB.out.free 0;have b1:=HB.out.cell 1 rfl;have f1:=HB.out.free 1;have b2:=HB.out.cell 2 rfl;have f2:=HB.out.free 2;have b3:=HB.out.cell 3 rfl;have f3:=HB.out.free 3;go_wp2_with fail
   refine (HI.out _ HQ.out).mono ?_;rintro e w1 ⟨rfl,rfl⟩;go_wp2_with fail
   refine (HO.out _ HQ.out).mono ?_;rintro e z1 ⟨u,rfl,hu,hq⟩;obtain ⟨ua,uc,rfl,_,_⟩:=hu.lst.form0 HK.out.2.2;have HB1:=Hd (HB.out.q hq);have HU:=Hd hu;have HQ1:=Hd (HQ.out.trans hq);clear hu hq b0 b1 b2 b3 f0 f1 f2 f3;have b0:=HB1.out.cell 0 rfl;have f0:=HB1.out.free 0;have b1:=HB1.out.cell 1 rfl;have f1:=HB1.out.free 1;have b2:=HB1.out.cell 2 rfl;have f2:=HB1.out.free 2;have b3:=HB1.out.cell 3 rfl;have f3:=HB1.out.free 3;go_wp2_with fail
   have hfin:=Own_past (Own_past (Own_past (Own_past HU.out HB1.out (by decide) 0 (.bool g)) (HB1.out.set 0 _) (by decide) 1 (.slice ua n uc)) ((HB1.out.set 0 _).set 1 _) (by decide) 2 (.bool false)) (((HB1.out.set 0 _).set 1 _).set 2 _) (by decide) 3 (.slice none 0 0);rw [HZ.out] at hfin;refine ret_d2 rfl rfl rfl rfl ((((HB1.out.set 0 _).set 1 _).set 2 _).set 3 _) rfl ⟨_,rfl,?_,Q.setCell (Q.setCell (Q.setCell (Q.setCell HQ1.out HWB.out _) HWB.out _) HWB.out _) HWB.out _⟩;obtain ⟨Dg,Di,Ds,Df⟩:=R;obtain ⟨rfl,rfl,rfl,rfl⟩:=HX.out;exact ⟨ua,uc,none,0,by rw [HK.out.2.2];rfl,by rw [HK.out.2.2];exact hfin,Own.nil _ _⟩
  ·rw [if_pos rfl] at hix
   subst hix;have hkn2:k < n:=of_decide_eq_true HHAS.out.symm;have hk0:¬ ((k:Int) < 0):=by omega
   cases r2
   ·obtain ⟨rfl,rfl⟩:=hok rfl rfl
    have HX:=Hd (show R.g = g /\ R.i = ahd L /\ R.s = true /\ R.f = bhd L by rw [HD.out];exact ⟨rfl,rfl,rfl,rfl⟩);clear htwo hok hr2e hno HD;go_enter Try.func73,Try.ntmps73
    go_upto_region 1 with fail
    rw [<- hz];clear hz;go_wp2_with fail
    refine (HA.out _ HQ.out).mono ?_;rintro e w1 ⟨rfl,rfl⟩;have b0:=HB.out.cell 0 rfl;have f0:=HB.out.free 0;have b1:=HB.out.cell 1 rfl;have f1:=HB.out.free 1;have b2:=HB.out.cell 2 rfl;have f2:=HB.out.free 2;have b3:=HB.out.cell 3 rfl;have f3:=HB.out.free 3;go_wp2_with fail
    refine (HI.out _ HQ.out).mono ?_;rintro e w1 ⟨rfl,rfl⟩;go_wp2_with fail
    refine (HC1.out _ HQ.out).mono ?_;rintro e w1 ⟨ca,rfl,hca,rfl⟩;go_wp2_with fail
    refine (HC2.out _ HQ.out hkn2 _ (by first | rfl | omega)).mono ?_;rintro e w1 ⟨cb,rfl,hcb,rfl⟩;go_wp2_with fail
    refine (HCN.out _ _ hcb).mono ?_;rintro e w1 ⟨rfl,rfl⟩;go_wp2_with fail
    refine (HOA.out _ _ hca).mono ?_;rintro e z1 ⟨u,rfl,hu,hq⟩;obtain ⟨ua,uc,rfl,_,_⟩:=hu.lst.form0 HK.out.1;have HB1:=Hd (HB.out.q hq);have HU:=Hd hu;have HCB:=Hd (hcb.q hq);have HQ1:=Hd (HQ.out.trans hq);have HZ1:=Hd (Nat.le_trans (Nat.le_of_eq HZ.out.symm) hq.le);clear hu hq hcb hca b0 b1 b2 b3 f0 f1 f2 f3;go_wp2_with fail
    refine (HOB.out _ _ HCB.out).mono ?_;rintro e z2 ⟨u2,rfl,hu2,hq⟩;obtain ⟨va,vc,rfl,_,_⟩:=hu2.lst.form0 HK.out.2.1;have HB2:=Hd (HB1.out.q hq);have HU1:=Hd (HU.out.q hq);have HU2:=Hd hu2;have HQ2:=Hd (HQ1.out.trans hq);clear hu2 hq;have b0:=HB2.out.cell 0 rfl;have f0:=HB2.out.free 0;have b1:=HB2.out.cell 1 rfl;have f1:=HB2.out.free 1;have b2:=HB2.out.cell 2 rfl;have f2:=HB2.out.free 2;have b3:=HB2.out.cell 3 rfl;have f3:=HB2.out.free 3;go_wp2_with fail
    have hf1:=Own_past (Own_past (Own_past (Own_past HU1.out HB2.out (by decide) 0 (.bool g)) (HB2.out.set 0 _) (by decide) 1 (.slice ua k uc)) ((HB2.out.set 0 _).set 1 _) (by decide) 2 (.bool true)) (((HB2.out.set 0 _).set 1 _).set 2 _) (by decide) 3 (.slice va m vc);have hf2:=Own_past (Own_past (Own_past (Own_past HU2.out HB2.out (by decide) 0 (.bool g)) (HB2.out.set 0 _) (by decide) 1 (.slice ua k uc)) ((HB2.out.set 0 _).set 1 _) (by decide) 2 (.bool true)) (((HB2.out.set 0 _).set 1 _).set 2 _) (by decide) 3 (.slice va m vc);rw [HZ.out] at hf1;replace hf2:=hf2.mono HZ1.out;refine ret_d2 rfl rfl rfl rfl ((((HB2.out.set 0 _).set 1 _).set 2 _).set 3 _) rfl ⟨_,rfl,?_,Q.setCell (Q.setCell (Q.setCell (Q.setCell HQ2.out HWB.out _) HWB.out _) HWB.out _) HWB.out _⟩;obtain ⟨Dg,Di,Ds,Df⟩:=R;obtain ⟨rfl,rfl,rfl,rfl⟩:=HX.out;exact ⟨ua,uc,va,vc,by rw [HK.out.1,HK.out.2.1];rfl,by rw [HK.out.1];exact hf1,by rw [HK.out.2.1];exact hf2⟩
   ·obtain ⟨rfl,rfl⟩:=htwo rfl rfl
    clear htwo hok hr2e hno HD;go_enter Try.func73,Try.ntmps73
    go_upto_region 1 with fail
    rw [<- hz];clear hz;go_wp2_with fail
    refine (HA.out _ HQ.out).mono ?_;rintro e w1 ⟨rfl,rfl⟩;have b0:=HB.out.cell 0 rfl;have f0:=HB.out.free 0;have b1:=HB.out.cell 1 rfl;have f1:=HB.out.free 1;have b2:=HB.out.cell 2 rfl;have f2:=HB.out.free 2;have b3:=HB.out.cell 3 rfl;have f3:=HB.out.free 3;go_wp2_with fail
    refine (HI.out _ HQ.out).mono ?_;rintro e w1 ⟨rfl,rfl⟩;go_wp2_with fail
    refine (HC1.out _ HQ.out).mono ?_;rintro e w1 ⟨ca,rfl,hca,rfl⟩;go_wp2_with fail
    refine (HC2.out _ HQ.out hkn2 _ (by first | rfl | omega)).mono ?_;rintro e w1 ⟨cb,rfl,hcb,rfl⟩;go_wp2_with fail
    refine (HCN.out _ _ hcb).mono ?_;rintro e w1 ⟨rfl,rfl⟩;go_wp2_with fail
    exact ret_d2 rfl rfl rfl rfl ((((HB.out.set 0 _).set 1 _).set 2 _).set 3 _) rfl ⟨_,rfl,LD.zero _ _,Q.setCell (Q.setCell (Q.setCell (Q.setCell HQ.out HWB.out _) HWB.out _) HWB.out _) HWB.out _⟩
end Tp
end
end Go.Proofs.Ytnehhbobhnmbcaa
