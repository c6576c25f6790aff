/- The document's own answers on locales: a record made of any numbers. (and more) -/
import Derived.Test.YtdjhkbholijnmaaGreatDoorR30
import Derived.Test.YtdjhkbholijnmaaGreatDoorR31
set_option linter.all false
set_option maxRecDepth 100000
set_option maxHeartbeats 8000000
namespace Go.Proofs.YtdjhkbholijnmaaGreatDoor
section
open Go.RowKit
namespace Ro
open Um Lo
theorem getD_bs (l:List (List UInt8)) (k:Nat):(l.map Lm.bs).getD k ⟨#[]⟩ = Lm.bs (l.getD k []):=by
 rw [List.getD_eq_getElem?_getD,List.getD_eq_getElem?_getD,List.getElem?_map]
 cases l[k]? <;> rfl
theorem par_pat:∀ p,p < 10 -> (Pt.parseC (allL (Lm.patB.getD p []))).1 = Lm.pX p:=fun p hp=>by
 obtain ⟨h1,h2,h3⟩:=Lm.f_pat p hp
 rw [<- h1,allL_join _ (fun c hc=>List.all_eq_true.1 h3 c hc),h2]
theorem infoR:(Tryz.prog.info? 29).map (·.size) = some 8:=by kernel_rfl
def IsMk (r:Lm.Rec) (X:Pt.Pat):Prop:=∃ s p d m u c q,s < 20 /\ p < 10 /\ d < 4 /\ m < 4 /\ u < 2 /\ c < 4 /\ q < 6 /\ r = Lm.mk s p d m u c q /\ X = Lm.pX p
theorem pat_le:∀ p,p < 10 -> (Lm.patB.getD p []).length <= 100:=by decide +kernel
theorem good_any (g0 g1 g2 g3 g4 g5:Int) (w:World) (h0:-9223372036854775808 <= g0 /\ g0 <= 9223372036854775807) (h1:-9223372036854775808 <= g1 /\ g1 <= 9223372036854775807) (h2:-9223372036854775808 <= g2 /\ g2 <= 9223372036854775807) (h3:-9223372036854775808 <= g3 /\ g3 <= 9223372036854775807) (h4:-9223372036854775808 <= g4 /\ g4 <= 9223372036854775807) (h5:-9223372036854775808 <= g5 /\ g5 <= 9223372036854775807) :
  Calls Tryz.prog 52 #[.agg #[.int .i64 g0,.int .i64 g1,.int .i64 g2,.int .i64 g3,.int .i64 g4,.int .i64 g5]] w fun e w'=>∃ r,e = .returned (recV r) /\ (∃ X,IsMk r X) /\ Q w w':=by
 have HN:=Hd (fun u=>Sr.name_any g0 u h0.1 h0.2)
 have HSI:=Hd (Sm.idx_lt g0)
 have HK2:=Hd (fun u v (hv:SLst u v (Lm.patB.map Lm.bs))=>pick_any v (Lm.patB.map Lm.bs) g1 u hv (by simp [Lm.patB]) (by simp [Lm.patB]) h1.1 h1.2)
 have HL2:Hid ((Lm.patB.map Lm.bs).length = 10):=Hd rfl
 have HM2:Hid (∀ u:World,SLst (u.alloc (.cells #[.string ⟨#[35,44,35,35,48,46,48,48]⟩,.string ⟨#[48,46,35,35]⟩,.string ⟨#[35,44,35,35,44,35,35,48,46,35,35,35]⟩,.string ⟨#[194,164,35,44,35,35,48,46,48,48]⟩,.string ⟨#[35,44,35,35,48,46,48,48,120,194,164]⟩,.string ⟨#[194,164,120,35,44,35,35,48,46,48,48,59,40,194,164,120,45,35,41]⟩,.string ⟨#[35,44,35,35,48,37]⟩,.string ⟨#[48,46,48,59,48,46,48,45]⟩,.string ⟨#[35,44,35,35,35,48,46,48,48,121,59,121,35,44,35,35,48,46,48,48,45,121]⟩,.string ⟨#[35,44,35,35,44,35,48,46,35,59,39,35,39,35,45,39,35,39]⟩] 9)) (.slice (some ⟨u.heap.size,0,none⟩) 10 10) (Lm.patB.map Lm.bs)):=Hd (fun u=>GLst.made Value.string 9 u (Lm.patB.map Lm.bs) 10 rfl (by unfold maxLen;omega))
 have HK3:=Hd (fun u v (hv:SLst u v (Lm.decL.map Lm.bs))=>pick_any v (Lm.decL.map Lm.bs) g2 u hv (by simp [Lm.decL]) (by simp [Lm.decL]) h2.1 h2.2)
 have HL3:Hid ((Lm.decL.map Lm.bs).length = 4):=Hd rfl
 have HM3:Hid (∀ u:World,SLst (u.alloc (.cells #[.string ⟨#[46]⟩,.string ⟨#[44]⟩,.string ⟨#[217,171]⟩,.string ⟨#[101,204,129]⟩] 9)) (.slice (some ⟨u.heap.size,0,none⟩) 4 4) (Lm.decL.map Lm.bs)):=Hd (fun u=>GLst.made Value.string 9 u (Lm.decL.map Lm.bs) 4 rfl (by unfold maxLen;omega))
 have HK4:=Hd (fun u v (hv:SLst u v (Lm.minL.map Lm.bs))=>pick_any v (Lm.minL.map Lm.bs) g4 u hv (by simp [Lm.minL]) (by simp [Lm.minL]) h4.1 h4.2)
 have HL4:Hid ((Lm.minL.map Lm.bs).length = 4):=Hd rfl
 have HM4:Hid (∀ u:World,SLst (u.alloc (.cells #[.string ⟨#[45]⟩,.string ⟨#[226,136,146]⟩,.string ⟨#[226,128,144]⟩,.string ⟨#[45,204,129]⟩] 9)) (.slice (some ⟨u.heap.size,0,none⟩) 4 4) (Lm.minL.map Lm.bs)):=Hd (fun u=>GLst.made Value.string 9 u (Lm.minL.map Lm.bs) 4 rfl (by unfold maxLen;omega))
 have HK5:=Hd (fun u v (hv:SLst u v (Lm.perL.map Lm.bs))=>pick_any v (Lm.perL.map Lm.bs) g5 u hv (by simp [Lm.perL]) (by simp [Lm.perL]) h5.1 h5.2)
 have HL5:Hid ((Lm.perL.map Lm.bs).length = 2):=Hd rfl
 have HM5:Hid (∀ u:World,SLst (u.alloc (.cells #[.string ⟨#[37]⟩,.string ⟨#[217,170]⟩] 9)) (.slice (some ⟨u.heap.size,0,none⟩) 2 2) (Lm.perL.map Lm.bs)):=Hd (fun u=>GLst.made Value.string 9 u (Lm.perL.map Lm.bs) 2 rfl (by unfold maxLen;omega))
 have HK6:=Hd (fun u v (hv:SLst u v (Lm.curL.map Lm.bs))=>pick_any v (Lm.curL.map Lm.bs) g5 u hv (by simp [Lm.curL]) (by simp [Lm.curL]) h5.1 h5.2)
 have HL6:Hid ((Lm.curL.map Lm.bs).length = 4):=Hd rfl
 have HM6:Hid (∀ u:World,SLst (u.alloc (.cells #[.string ⟨#[36]⟩,.string ⟨#[226,130,172]⟩,.string ⟨#[67,72,70]⟩,.string ⟨#[107,204,129,114]⟩] 9)) (.slice (some ⟨u.heap.size,0,none⟩) 4 4) (Lm.curL.map Lm.bs)):=Hd (fun u=>GLst.made Value.string 9 u (Lm.curL.map Lm.bs) 4 rfl (by unfold maxLen;omega))
 have HK9:=Hd (fun u v (hv:SLst u v (Lm.grpL.map Lm.bs))=>pick_any v (Lm.grpL.map Lm.bs) g3 u hv (by simp [Lm.grpL]) (by simp [Lm.grpL]) h3.1 h3.2)
 have HL9:Hid ((Lm.grpL.map Lm.bs).length = 6):=Hd rfl
 have HM9:Hid (∀ u:World,SLst (u.alloc (.cells #[.string ⟨#[39]⟩,.string ⟨#[194,160]⟩,.string ⟨#[226,128,175]⟩,.string ⟨#[95]⟩,.string ⟨#[46]⟩,.string ⟨#[44]⟩] 9)) (.slice (some ⟨u.heap.size,0,none⟩) 6 6) (Lm.grpL.map Lm.bs)):=Hd (fun u=>GLst.made Value.string 9 u (Lm.grpL.map Lm.bs) 6 rfl (by unfold maxLen;omega))
 have HPP:=Hd (fun (p:Nat) (hp:p < 10) u=>(show Calls Tryz.prog 82 #[.string (Lm.bs (Lm.patB.getD p []))] u fun e w'=>∃ v er,e = .returned (.tuple #[v,.int .i64 er]) /\ Pr.PV w' v (Lm.pX p) /\ Q u w' from
  (Pr.Parse_all (Lm.bs (Lm.patB.getD p [])) u (by rw [Lm.bs_size];have:=pat_le p hp;omega)).mono (fun e w' ⟨v,h1,h2,h3⟩=>⟨v,_,h1,by rw [Lm.bs_list,par_pat p hp] at h2;exact h2,h3⟩)))
 have HEN:=Hd (fun (r:Lm.Rec) (X:Pt.Pat) (u:World) (h:IsMk r X) (hq:Q w u)=>(⟨r,rfl,⟨X,h⟩,hq⟩:∃ r',Ending.returned (recV r) = .returned (recV r') /\ (∃ X',IsMk r' X') /\ Q w u))
 clear h0 h1 h2 h3 h4 h5
 obtain ⟨z0,hz0⟩:∃ z,z = (w.alloc (.cells #[.int .i64 g0,.int .i64 g1,.int .i64 g2,.int .i64 g3,.int .i64 g4,.int .i64 g5] 23)).alloc (.cells #[.string ⟨#[]⟩,.string ⟨#[]⟩,.string ⟨#[]⟩,.string ⟨#[]⟩,.string ⟨#[]⟩,.string ⟨#[]⟩,.string ⟨#[]⟩,.string ⟨#[]⟩] 29):=⟨_,rfl⟩
 have HQ0:=Hd (show Q w z0 by rw [hz0];exact ((Q.refl w).alloc _).alloc _)
 have HG0:=Hd (show Bk z0 w.heap.size 23 [.int .i64 g0,.int .i64 g1,.int .i64 g2,.int .i64 g3,.int .i64 g4,.int .i64 g5] by rw [hz0];exact (Bk.new w _ _).q ((Q.refl _).alloc _))
 have HE0:=Hd (show Bk z0 (w.heap.size + 1) 29 [.string ⟨#[]⟩,.string ⟨#[]⟩,.string ⟨#[]⟩,.string ⟨#[]⟩,.string ⟨#[]⟩,.string ⟨#[]⟩,.string ⟨#[]⟩,.string ⟨#[]⟩] by rw [hz0,<- size_al w (.cells #[.int .i64 g0,.int .i64 g1,.int .i64 g2,.int .i64 g3,.int .i64 g4,.int .i64 g5] 23)];exact Bk.new _ _ _)
 go_enter Tryz.func52,Tryz.ntmps52
 go_wp2_with fail
 rw [<- hz0]
 clear hz0
 obtain ⟨bE,hbE⟩:∃ b,b = w.heap.size + 1:=⟨_,rfl⟩
 have HWE:=Hd (show w.heap.size <= bE by omega)
 rw [<- hbE] at HE0 |-
 obtain ⟨bG,hbG⟩:∃ b,b = w.heap.size:=⟨_,rfl⟩
 have HGE:=Hd (show bG ≠ bE by omega)
 rw [<- hbG] at HG0 |-
 clear hbE hbG
 refine (HN.out _).mono ?_
 rintro e w1 ⟨rfl,hq1⟩
 have HQ1:=Hd (HQ0.out.trans hq1)
 obtain ⟨S2,hS2⟩:∃ S,S = Lm.bs (Sm.nmL.getD (Sm.idx g0) []):=⟨_,rfl⟩
 have HS2:=Hd hS2
 rw [show (⟨(Sm.nm g0).toArray⟩:ByteArray) = S2 from hS2.symm]
 generalize Sm.idx g0 = si at *
 clear hS2
 obtain ⟨z1,hz1⟩:∃ z,z = w1.alloc (.cells #[.string ⟨#[120,120]⟩,.string ⟨#[]⟩,.string S2,.string ⟨#[]⟩,.string ⟨#[]⟩,.string ⟨#[]⟩,.string ⟨#[]⟩,.string ⟨#[]⟩] 29):=⟨_,rfl⟩
 have HQ2:=Hd (show Q w z1 by rw [hz1];exact HQ1.out.alloc _)
 have HG1:=Hd (HG0.out.q (show Q z0 z1 by rw [hz1];exact hq1.alloc _))
 have HE1:=Hd (HE0.out.q (show Q z0 z1 by rw [hz1];exact hq1.alloc _))
 have HR1:=Hd (show Bk z1 w1.heap.size 29 [.string ⟨#[120,120]⟩,.string ⟨#[]⟩,.string S2,.string ⟨#[]⟩,.string ⟨#[]⟩,.string ⟨#[]⟩,.string ⟨#[]⟩,.string ⟨#[]⟩] by rw [hz1];exact Bk.new _ _ _)
 have HLTE:=Hd (show bE < w1.heap.size from (HE0.out.q hq1).lt)
 have HLTG:=Hd (show bG < w1.heap.size from (HG0.out.q hq1).lt)
 have HLTW:=Hd (show w.heap.size <= w1.heap.size from HQ1.out.le)
 clear hq1
 go_upto_region 2 with fail
 rw [<- hz1]
 clear hz1
 generalize w1.heap.size = bR at *
 have HRE:=Hd (show bR ≠ bE by have:=HLTE.out;omega)
 have HRG:=Hd (show bR ≠ bG by have:=HLTG.out;omega)
 have cg:=(HG1.out.q ((Q.refl z1).alloc (.cells #[.string ⟨#[35,44,35,35,48,46,48,48]⟩,.string ⟨#[48,46,35,35]⟩,.string ⟨#[35,44,35,35,44,35,35,48,46,35,35,35]⟩,.string ⟨#[194,164,35,44,35,35,48,46,48,48]⟩,.string ⟨#[35,44,35,35,48,46,48,48,120,194,164]⟩,.string ⟨#[194,164,120,35,44,35,35,48,46,48,48,59,40,194,164,120,45,35,41]⟩,.string ⟨#[35,44,35,35,48,37]⟩,.string ⟨#[48,46,48,59,48,46,48,45]⟩,.string ⟨#[35,44,35,35,35,48,46,48,48,121,59,121,35,44,35,35,48,46,48,48,45,121]⟩,.string ⟨#[35,44,35,35,44,35,48,46,35,59,39,35,39,35,45,39,35,39]⟩] 9))).cell 1 rfl
 have cg0:=HG1.out.cell 1 rfl
 go_wp2_with fail
 clear cg cg0
 refine (HK2.out _ _ (HM2.out z1)).mono ?_
 rintro e wz ⟨⟨p,hp,rfl⟩,rfl⟩
 rw [HL2.out] at hp
 rw [getD_bs]
 obtain ⟨S1,hS1⟩:∃ S,S = Lm.bs (Lm.patB.getD p []):=⟨_,rfl⟩
 have HS1:=Hd hS1
 have Hp:=Hd hp
 rw [<- hS1]
 clear hS1 hp
 have hb:=HR1.out.q ((Q.refl z1).alloc (.cells #[.string ⟨#[35,44,35,35,48,46,48,48]⟩,.string ⟨#[48,46,35,35]⟩,.string ⟨#[35,44,35,35,44,35,35,48,46,35,35,35]⟩,.string ⟨#[194,164,35,44,35,35,48,46,48,48]⟩,.string ⟨#[35,44,35,35,48,46,48,48,120,194,164]⟩,.string ⟨#[194,164,120,35,44,35,35,48,46,48,48,59,40,194,164,120,45,35,41]⟩,.string ⟨#[35,44,35,35,48,37]⟩,.string ⟨#[48,46,48,59,48,46,48,45]⟩,.string ⟨#[35,44,35,35,35,48,46,48,48,121,59,121,35,44,35,35,48,46,48,48,45,121]⟩,.string ⟨#[35,44,35,35,44,35,48,46,35,59,39,35,39,35,45,39,35,39]⟩] 9))
 have cb:=hb.cell 1 rfl
 have fb:=hb.free 1
 have cb0:=HR1.out.cell 1 rfl
 have fb0:=HR1.out.free 1
 obtain ⟨z2,hz2⟩:∃ z,z = (z1.alloc (.cells #[.string ⟨#[35,44,35,35,48,46,48,48]⟩,.string ⟨#[48,46,35,35]⟩,.string ⟨#[35,44,35,35,44,35,35,48,46,35,35,35]⟩,.string ⟨#[194,164,35,44,35,35,48,46,48,48]⟩,.string ⟨#[35,44,35,35,48,46,48,48,120,194,164]⟩,.string ⟨#[194,164,120,35,44,35,35,48,46,48,48,59,40,194,164,120,45,35,41]⟩,.string ⟨#[35,44,35,35,48,37]⟩,.string ⟨#[48,46,48,59,48,46,48,45]⟩,.string ⟨#[35,44,35,35,35,48,46,48,48,121,59,121,35,44,35,35,48,46,48,48,45,121]⟩,.string ⟨#[35,44,35,35,44,35,48,46,35,59,39,35,39,35,45,39,35,39]⟩] 9)).setCell ⟨bR,1,none⟩ (.string S1):=⟨_,rfl⟩
 have HQ_z2:=Hd (show Q w z2 by rw [hz2];exact Q.setCell (HQ2.out.alloc _) (ad:=⟨bR,1,none⟩) HLTW.out (.string S1))
 have HR_z2:=Hd (show Bk z2 bR 29 [.string ⟨#[120,120]⟩,.string S1,.string S2,.string ⟨#[]⟩,.string ⟨#[]⟩,.string ⟨#[]⟩,.string ⟨#[]⟩,.string ⟨#[]⟩] by rw [hz2];exact (HR1.out.q ((Q.refl _).alloc _)).set 1 (.string S1))
 have HE_z2:=Hd (show Bk z2 bE 29 [.string ⟨#[]⟩,.string ⟨#[]⟩,.string ⟨#[]⟩,.string ⟨#[]⟩,.string ⟨#[]⟩,.string ⟨#[]⟩,.string ⟨#[]⟩,.string ⟨#[]⟩] by rw [hz2];exact (HE1.out.q ((Q.refl _).alloc _)).past HRE.out (.string S1))
 have HG_z2:=Hd (show Bk z2 bG 23 [.int .i64 g0,.int .i64 g1,.int .i64 g2,.int .i64 g3,.int .i64 g4,.int .i64 g5] by rw [hz2];exact (HG1.out.q ((Q.refl _).alloc _)).past HRG.out (.string S1))
 clear hb
 go_upto_region 3 with fail
 rw [<- hz2]
 clear hz2 cb fb cb0 fb0 HG1 HE1 HR1 HQ2
 have cg:=(HG_z2.out.q ((Q.refl z2).alloc (.cells #[.string ⟨#[46]⟩,.string ⟨#[44]⟩,.string ⟨#[217,171]⟩,.string ⟨#[101,204,129]⟩] 9))).cell 2 rfl
 have cg0:=HG_z2.out.cell 2 rfl
 go_wp2_with fail
 clear cg cg0
 refine (HK3.out _ _ (HM3.out z2)).mono ?_
 rintro e wz ⟨⟨d,hd,rfl⟩,rfl⟩
 rw [HL3.out] at hd
 rw [getD_bs]
 obtain ⟨S3,hS3⟩:∃ S,S = Lm.bs (Lm.decL.getD d []):=⟨_,rfl⟩
 have HS3:=Hd hS3
 have HdW:=Hd hd
 rw [<- hS3]
 clear hS3 hd
 have hb:=HR_z2.out.q ((Q.refl z2).alloc (.cells #[.string ⟨#[46]⟩,.string ⟨#[44]⟩,.string ⟨#[217,171]⟩,.string ⟨#[101,204,129]⟩] 9))
 have cb:=hb.cell 3 rfl
 have fb:=hb.free 3
 have cb0:=HR_z2.out.cell 3 rfl
 have fb0:=HR_z2.out.free 3
 obtain ⟨z3,hz3⟩:∃ z,z = (z2.alloc (.cells #[.string ⟨#[46]⟩,.string ⟨#[44]⟩,.string ⟨#[217,171]⟩,.string ⟨#[101,204,129]⟩] 9)).setCell ⟨bR,3,none⟩ (.string S3):=⟨_,rfl⟩
 have HQ_z3:=Hd (show Q w z3 by rw [hz3];exact Q.setCell (HQ_z2.out.alloc _) (ad:=⟨bR,3,none⟩) HLTW.out (.string S3))
 have HR_z3:=Hd (show Bk z3 bR 29 [.string ⟨#[120,120]⟩,.string S1,.string S2,.string S3,.string ⟨#[]⟩,.string ⟨#[]⟩,.string ⟨#[]⟩,.string ⟨#[]⟩] by rw [hz3];exact (HR_z2.out.q ((Q.refl _).alloc _)).set 3 (.string S3))
 have HE_z3:=Hd (show Bk z3 bE 29 [.string ⟨#[]⟩,.string ⟨#[]⟩,.string ⟨#[]⟩,.string ⟨#[]⟩,.string ⟨#[]⟩,.string ⟨#[]⟩,.string ⟨#[]⟩,.string ⟨#[]⟩] by rw [hz3];exact (HE_z2.out.q ((Q.refl _).alloc _)).past HRE.out (.string S3))
 have HG_z3:=Hd (show Bk z3 bG 23 [.int .i64 g0,.int .i64 g1,.int .i64 g2,.int .i64 g3,.int .i64 g4,.int .i64 g5] by rw [hz3];exact (HG_z2.out.q ((Q.refl _).alloc _)).past HRG.out (.string S3))
 clear hb
 go_upto_region 4 with fail
 rw [<- hz3]
 clear hz3 cb fb cb0 fb0 HG_z2 HE_z2 HR_z2 HQ_z2
 have cg:=(HG_z3.out.q ((Q.refl z3).alloc (.cells #[.string ⟨#[45]⟩,.string ⟨#[226,136,146]⟩,.string ⟨#[226,128,144]⟩,.string ⟨#[45,204,129]⟩] 9))).cell 4 rfl
 have cg0:=HG_z3.out.cell 4 rfl
 go_wp2_with fail
 clear cg cg0
 refine (HK4.out _ _ (HM4.out z3)).mono ?_
 rintro e wz ⟨⟨m,hm,rfl⟩,rfl⟩
 rw [HL4.out] at hm
 rw [getD_bs]
 obtain ⟨S5,hS5⟩:∃ S,S = Lm.bs (Lm.minL.getD m []):=⟨_,rfl⟩
 have HS5:=Hd hS5
 have Hm:=Hd hm
 rw [<- hS5]
 clear hS5 hm
 have hb:=HR_z3.out.q ((Q.refl z3).alloc (.cells #[.string ⟨#[45]⟩,.string ⟨#[226,136,146]⟩,.string ⟨#[226,128,144]⟩,.string ⟨#[45,204,129]⟩] 9))
 have cb:=hb.cell 5 rfl
 have fb:=hb.free 5
 have cb0:=HR_z3.out.cell 5 rfl
 have fb0:=HR_z3.out.free 5
 obtain ⟨z4,hz4⟩:∃ z,z = (z3.alloc (.cells #[.string ⟨#[45]⟩,.string ⟨#[226,136,146]⟩,.string ⟨#[226,128,144]⟩,.string ⟨#[45,204,129]⟩] 9)).setCell ⟨bR,5,none⟩ (.string S5):=⟨_,rfl⟩
 have HQ_z4:=Hd (show Q w z4 by rw [hz4];exact Q.setCell (HQ_z3.out.alloc _) (ad:=⟨bR,5,none⟩) HLTW.out (.string S5))
 have HR_z4:=Hd (show Bk z4 bR 29 [.string ⟨#[120,120]⟩,.string S1,.string S2,.string S3,.string ⟨#[]⟩,.string S5,.string ⟨#[]⟩,.string ⟨#[]⟩] by rw [hz4];exact (HR_z3.out.q ((Q.refl _).alloc _)).set 5 (.string S5))
 have HE_z4:=Hd (show Bk z4 bE 29 [.string ⟨#[]⟩,.string ⟨#[]⟩,.string ⟨#[]⟩,.string ⟨#[]⟩,.string ⟨#[]⟩,.string ⟨#[]⟩,.string ⟨#[]⟩,.string ⟨#[]⟩] by rw [hz4];exact (HE_z3.out.q ((Q.refl _).alloc _)).past HRE.out (.string S5))
 have HG_z4:=Hd (show Bk z4 bG 23 [.int .i64 g0,.int .i64 g1,.int .i64 g2,.int .i64 g3,.int .i64 g4,.int .i64 g5] by rw [hz4];exact (HG_z3.out.q ((Q.refl _).alloc _)).past HRG.out (.string S5))
 clear hb
 go_upto_region 5 with fail
 rw [<- hz4]
 clear hz4 cb fb cb0 fb0 HG_z3 HE_z3 HR_z3 HQ_z3
 have cg:=(HG_z4.out.q ((Q.refl z4).alloc (.cells #[.string ⟨#[37]⟩,.string ⟨#[217,170]⟩] 9))).cell 5 rfl
 have cg0:=HG_z4.out.cell 5 rfl
 go_wp2_with fail
 clear cg cg0
 refine (HK5.out _ _ (HM5.out z4)).mono ?_
 rintro e wz ⟨⟨u,hu,rfl⟩,rfl⟩
 rw [HL5.out] at hu
 rw [getD_bs]
 obtain ⟨S6,hS6⟩:∃ S,S = Lm.bs (Lm.perL.getD u []):=⟨_,rfl⟩
 have HS6:=Hd hS6
 have Hu:=Hd hu
 rw [<- hS6]
 clear hS6 hu
 have hb:=HR_z4.out.q ((Q.refl z4).alloc (.cells #[.string ⟨#[37]⟩,.string ⟨#[217,170]⟩] 9))
 have cb:=hb.cell 6 rfl
 have fb:=hb.free 6
 have cb0:=HR_z4.out.cell 6 rfl
 have fb0:=HR_z4.out.free 6
 obtain ⟨z5,hz5⟩:∃ z,z = (z4.alloc (.cells #[.string ⟨#[37]⟩,.string ⟨#[217,170]⟩] 9)).setCell ⟨bR,6,none⟩ (.string S6):=⟨_,rfl⟩
 have HQ_z5:=Hd (show Q w z5 by rw [hz5];exact Q.setCell (HQ_z4.out.alloc _) (ad:=⟨bR,6,none⟩) HLTW.out (.string S6))
 have HR_z5:=Hd (show Bk z5 bR 29 [.string ⟨#[120,120]⟩,.string S1,.string S2,.string S3,.string ⟨#[]⟩,.string S5,.string S6,.string ⟨#[]⟩] by rw [hz5];exact (HR_z4.out.q ((Q.refl _).alloc _)).set 6 (.string S6))
 have HE_z5:=Hd (show Bk z5 bE 29 [.string ⟨#[]⟩,.string ⟨#[]⟩,.string ⟨#[]⟩,.string ⟨#[]⟩,.string ⟨#[]⟩,.string ⟨#[]⟩,.string ⟨#[]⟩,.string ⟨#[]⟩] by rw [hz5];exact (HE_z4.out.q ((Q.refl _).alloc _)).past HRE.out (.string S6))
 have HG_z5:=Hd (show Bk z5 bG 23 [.int .i64 g0,.int .i64 g1,.int .i64 g2,.int .i64 g3,.int .i64 g4,.int .i64 g5] by rw [hz5];exact (HG_z4.out.q ((Q.refl _).alloc _)).past HRG.out (.string S6))
 clear hb
 go_upto_region 6 with fail
 rw [<- hz5]
 clear hz5 cb fb cb0 fb0 HG_z4 HE_z4 HR_z4 HQ_z4
 have cg:=(HG_z5.out.q ((Q.refl z5).alloc (.cells #[.string ⟨#[36]⟩,.string ⟨#[226,130,172]⟩,.string ⟨#[67,72,70]⟩,.string ⟨#[107,204,129,114]⟩] 9))).cell 5 rfl
 have cg0:=HG_z5.out.cell 5 rfl
 go_wp2_with fail
 clear cg cg0
 refine (HK6.out _ _ (HM6.out z5)).mono ?_
 rintro e wz ⟨⟨c,hc,rfl⟩,rfl⟩
 rw [HL6.out] at hc
 rw [getD_bs]
 obtain ⟨S7,hS7⟩:∃ S,S = Lm.bs (Lm.curL.getD c []):=⟨_,rfl⟩
 have HS7:=Hd hS7
 have Hc:=Hd hc
 rw [<- hS7]
 clear hS7 hc
 have hb:=HR_z5.out.q ((Q.refl z5).alloc (.cells #[.string ⟨#[36]⟩,.string ⟨#[226,130,172]⟩,.string ⟨#[67,72,70]⟩,.string ⟨#[107,204,129,114]⟩] 9))
 have cb:=hb.cell 7 rfl
 have fb:=hb.free 7
 have cb0:=HR_z5.out.cell 7 rfl
 have fb0:=HR_z5.out.free 7
 obtain ⟨z6,hz6⟩:∃ z,z = (z5.alloc (.cells #[.string ⟨#[36]⟩,.string ⟨#[226,130,172]⟩,.string ⟨#[67,72,70]⟩,.string ⟨#[107,204,129,114]⟩] 9)).setCell ⟨bR,7,none⟩ (.string S7):=⟨_,rfl⟩
 have HQ_z6:=Hd (show Q w z6 by rw [hz6];exact Q.setCell (HQ_z5.out.alloc _) (ad:=⟨bR,7,none⟩) HLTW.out (.string S7))
 have HR_z6:=Hd (show Bk z6 bR 29 [.string ⟨#[120,120]⟩,.string S1,.string S2,.string S3,.string ⟨#[]⟩,.string S5,.string S6,.string S7] by rw [hz6];exact (HR_z5.out.q ((Q.refl _).alloc _)).set 7 (.string S7))
 have HE_z6:=Hd (show Bk z6 bE 29 [.string ⟨#[]⟩,.string ⟨#[]⟩,.string ⟨#[]⟩,.string ⟨#[]⟩,.string ⟨#[]⟩,.string ⟨#[]⟩,.string ⟨#[]⟩,.string ⟨#[]⟩] by rw [hz6];exact (HE_z5.out.q ((Q.refl _).alloc _)).past HRE.out (.string S7))
 have HG_z6:=Hd (show Bk z6 bG 23 [.int .i64 g0,.int .i64 g1,.int .i64 g2,.int .i64 g3,.int .i64 g4,.int .i64 g5] by rw [hz6];exact (HG_z5.out.q ((Q.refl _).alloc _)).past HRG.out (.string S7))
 clear hb
 go_upto_region 7 with fail
 rw [<- hz6]
 clear hz6 cb fb cb0 fb0 HG_z5 HE_z5 HR_z5 HQ_z5
 have cp:=HR_z6.out.cell 1 rfl
 have HP7:=Hd (HPP.out p Hp.out)
 rw [<- HS1.out] at HP7
 go_wp2_with fail
 clear cp
 refine (HP7.out _).mono ?_
 rintro e w7 ⟨v,er,rfl,⟨a,b,c0,d0,rfl,ha,hb,hc,hd⟩,hq7⟩
 obtain ⟨a1,a2,rfl⟩:=ha.shape
 obtain ⟨b1,b2,rfl⟩:=hb.shape
 obtain ⟨c1,c2,rfl⟩:=hc.shape
 obtain ⟨d1,d2,rfl⟩:=hd.shape
 clear ha hb hc hd
 generalize (Lm.pX p).pre.length = n0 at *
 generalize (Lm.pX p).suf.length = n1 at *
 generalize (Lm.pX p).npre.length = n2 at *
 generalize (Lm.pX p).nsuf.length = n3 at *
 unfold Pr.pv
 obtain ⟨pr,hpr⟩:∃ x,x = (Lm.pX p).pr:=⟨_,rfl⟩
 have HPR:=Hd hpr
 rw [<- hpr]
 clear hpr
 generalize (Lm.pX p).se = pse at *
 generalize (Lm.pX p).mi = pmi at *
 generalize (Lm.pX p).mf = pmf at *
 generalize (Lm.pX p).xf = pxf at *
 obtain ⟨y,hy⟩:∃ z,z = w7.alloc (.cells #[.slice a1 n0 a2,.slice b1 n1 b2,.slice c1 n2 c2,.slice d1 n3 d2,.int .i64 pr,.int .i64 pse,.int .i64 pmi,.int .i64 pmf,.int .i64 pxf] 32):=⟨_,rfl⟩
 have hqy:Q z6 y:=by rw [hy];exact hq7.alloc _
 have HBP:=Hd (show Bk y w7.heap.size 32 [.slice a1 n0 a2,.slice b1 n1 b2,.slice c1 n2 c2,.slice d1 n3 d2,.int .i64 pr,.int .i64 pse,.int .i64 pmi,.int .i64 pmf,.int .i64 pxf] by rw [hy];exact Bk.new _ _ _)
 have HQY:=Hd (HQ_z6.out.trans hqy)
 have HGY:=Hd (HG_z6.out.q hqy)
 have HEY:=Hd (HE_z6.out.q hqy)
 have HRY:=Hd (HR_z6.out.q hqy)
 clear hqy hq7
 go_upto_region 8 with fail
 rw [<- hy]
 clear hy
 generalize w7.heap.size = bP at *
 have c4:=HBP.out.cell 4 rfl
 by_cases hgr:0 < pr
 ·have HGR:=Hd (show 0 < (Lm.pX p).pr by rw [<- HPR.out];exact hgr)
  go_upto_region 9 with fail
  clear c4
  have cg:=(HGY.out.q ((Q.refl y).alloc (.cells #[.string ⟨#[39]⟩,.string ⟨#[194,160]⟩,.string ⟨#[226,128,175]⟩,.string ⟨#[95]⟩,.string ⟨#[46]⟩,.string ⟨#[44]⟩] 9))).cell 3 rfl
  have cg0:=HGY.out.cell 3 rfl
  go_wp2_with fail
  clear cg cg0
  refine (HK9.out _ _ (HM9.out y)).mono ?_
  rintro e wz ⟨⟨q,hq,rfl⟩,rfl⟩
  rw [HL9.out] at hq
  rw [getD_bs]
  obtain ⟨S4,hS4⟩:∃ S,S = Lm.bs (Lm.grpL.getD q []):=⟨_,rfl⟩
  have HS4:=Hd hS4
  have Hq:=Hd hq
  rw [<- hS4]
  clear hS4 hq
  have hb:=HRY.out.q ((Q.refl y).alloc (.cells #[.string ⟨#[39]⟩,.string ⟨#[194,160]⟩,.string ⟨#[226,128,175]⟩,.string ⟨#[95]⟩,.string ⟨#[46]⟩,.string ⟨#[44]⟩] 9))
  have cb:=hb.cell 4 rfl
  have fb:=hb.free 4
  have cb0:=HRY.out.cell 4 rfl
  have fb0:=HRY.out.free 4
  obtain ⟨z7,hz7⟩:∃ z,z = (y.alloc (.cells #[.string ⟨#[39]⟩,.string ⟨#[194,160]⟩,.string ⟨#[226,128,175]⟩,.string ⟨#[95]⟩,.string ⟨#[46]⟩,.string ⟨#[44]⟩] 9)).setCell ⟨bR,4,none⟩ (.string S4):=⟨_,rfl⟩
  have HQ_z7:=Hd (show Q w z7 by rw [hz7];exact Q.setCell (HQY.out.alloc _) (ad:=⟨bR,4,none⟩) HLTW.out (.string S4))
  have HR_z7:=Hd (show Bk z7 bR 29 [.string ⟨#[120,120]⟩,.string S1,.string S2,.string S3,.string S4,.string S5,.string S6,.string S7] by rw [hz7];exact (HRY.out.q ((Q.refl _).alloc _)).set 4 (.string S4))
  have HE_z7:=Hd (show Bk z7 bE 29 [.string ⟨#[]⟩,.string ⟨#[]⟩,.string ⟨#[]⟩,.string ⟨#[]⟩,.string ⟨#[]⟩,.string ⟨#[]⟩,.string ⟨#[]⟩,.string ⟨#[]⟩] by rw [hz7];exact (HEY.out.q ((Q.refl _).alloc _)).past HRE.out (.string S4))
  have HG_z7:=Hd (show Bk z7 bG 23 [.int .i64 g0,.int .i64 g1,.int .i64 g2,.int .i64 g3,.int .i64 g4,.int .i64 g5] by rw [hz7];exact (HGY.out.q ((Q.refl _).alloc _)).past HRG.out (.string S4))
  clear hb
  go_upto_region 10 with fail
  rw [<- hz7]
  clear hz7 cb fb cb0 fb0 HGY HEY HRY HQY
  have hs4:=HR_z7.out.cell 4 rfl
  have hs3:=HR_z7.out.cell 3 rfl
  by_cases heq:Lm.grpL.getD q [] = Lm.decL.getD d []
  ·have hSS:S4 = S3:=by rw [HS4.out,HS3.out,heq]
   have hbb:(S4.toList == S3.toList) = true:=by rw [hSS];simp
   have HEQ:=Hd heq
   have f4:=HR_z7.out.free 4
   clear heq hSS
   obtain ⟨x,hx⟩:∃ z,z = z7.setCell ⟨bR,4,none⟩ (.string ⟨#[32]⟩):=⟨_,rfl⟩
   have HQX:=Hd (show Q w x by rw [hx];exact Q.setCell HQ_z7.out (ad:=⟨bR,4,none⟩) HLTW.out _)
   have HRX:=Hd (show Bk x bR 29 [.string ⟨#[120,120]⟩,.string S1,.string S2,.string S3,.string ⟨#[32]⟩,.string S5,.string S6,.string S7] by rw [hx];exact HR_z7.out.set 4 _)
   have HEX:=Hd (show Bk x bE 29 [.string ⟨#[]⟩,.string ⟨#[]⟩,.string ⟨#[]⟩,.string ⟨#[]⟩,.string ⟨#[]⟩,.string ⟨#[]⟩,.string ⟨#[]⟩,.string ⟨#[]⟩] by rw [hx];exact HE_z7.out.past HRE.out _)
   go_upto_region 12 with fail
   rw [<- hx]
   clear hx hs4 hs3 f4 hbb
   have r0:=HRX.out.cell 0 rfl
   have e0:=HEX.out.cell 0 rfl
   have f0:=HEX.out.free 0
   have r1:=HRX.out.cell 1 rfl
   have e1:=HEX.out.cell 1 rfl
   have f1:=HEX.out.free 1
   have r2:=HRX.out.cell 2 rfl
   have e2:=HEX.out.cell 2 rfl
   have f2:=HEX.out.free 2
   have r3:=HRX.out.cell 3 rfl
   have e3:=HEX.out.cell 3 rfl
   have f3:=HEX.out.free 3
   have r4:=HRX.out.cell 4 rfl
   have e4:=HEX.out.cell 4 rfl
   have f4:=HEX.out.free 4
   have r5:=HRX.out.cell 5 rfl
   have e5:=HEX.out.cell 5 rfl
   have f5:=HEX.out.free 5
   have r6:=HRX.out.cell 6 rfl
   have e6:=HEX.out.cell 6 rfl
   have f6:=HEX.out.free 6
   have r7:=HRX.out.cell 7 rfl
   have e7:=HEX.out.cell 7 rfl
   have f7:=HEX.out.free 7
   have HFB:=Hd ((((((((HEX.out.set 0 (.string ⟨#[120,120]⟩)).set 1 (.string S1)).set 2 (.string S2)).set 3 (.string S3)).set 4 (.string ⟨#[32]⟩)).set 5 (.string S5)).set 6 (.string S6)).set 7 (.string S7))
   have HFQ:=Hd (Q.setCell (Q.setCell (Q.setCell (Q.setCell (Q.setCell (Q.setCell (Q.setCell (Q.setCell HQX.out (ad:=⟨bE,0,none⟩) HWE.out (.string ⟨#[120,120]⟩)) (ad:=⟨bE,1,none⟩) HWE.out (.string S1)) (ad:=⟨bE,2,none⟩) HWE.out (.string S2)) (ad:=⟨bE,3,none⟩) HWE.out (.string S3)) (ad:=⟨bE,4,none⟩) HWE.out (.string ⟨#[32]⟩)) (ad:=⟨bE,5,none⟩) HWE.out (.string S5)) (ad:=⟨bE,6,none⟩) HWE.out (.string S6)) (ad:=⟨bE,7,none⟩) HWE.out (.string S7))
   go_wp2_with fail
   refine ret_bk rfl Tryz.underlying29 (by exact infoR) rfl HFB.out rfl ?_
   have hfin:=HEN.out (Lm.mk si p d m u c q) (Lm.pX p) _ ⟨si,p,d,m,u,c,q,HSI.out,Hp.out,HdW.out,Hm.out,Hu.out,Hc.out,Hq.out,rfl,rfl⟩ HFQ.out
   have hrec:recV (Lm.mk si p d m u c q) = .agg #[.string ⟨#[120,120]⟩,.string S1,.string S2,.string S3,.string ⟨#[32]⟩,.string S5,.string S6,.string S7]:=by
    unfold recV Lm.mk
    rw [HS1.out,HS2.out,HS3.out,HS5.out,HS6.out,HS7.out]
    rw [if_pos HGR.out]
    unfold Lm.grpAt
    rw [if_pos HEQ.out]
    rfl
   rw [hrec] at hfin
   exact hfin
  ·have hSS:S4 ≠ S3:=fun e=>heq (by have h:=congrArg (fun b=>b.data.toList) e;rw [HS4.out,HS3.out,Lm.bs_list,Lm.bs_list] at h;exact h)
   have hbb:=str_ne hSS
   have HEQ:=Hd heq
   clear heq hSS
   go_upto_region 12 with fail
   clear hs4 hs3 hbb
   have r0:=HR_z7.out.cell 0 rfl
   have e0:=HE_z7.out.cell 0 rfl
   have f0:=HE_z7.out.free 0
   have r1:=HR_z7.out.cell 1 rfl
   have e1:=HE_z7.out.cell 1 rfl
   have f1:=HE_z7.out.free 1
   have r2:=HR_z7.out.cell 2 rfl
   have e2:=HE_z7.out.cell 2 rfl
   have f2:=HE_z7.out.free 2
   have r3:=HR_z7.out.cell 3 rfl
   have e3:=HE_z7.out.cell 3 rfl
   have f3:=HE_z7.out.free 3
   have r4:=HR_z7.out.cell 4 rfl
   have e4:=HE_z7.out.cell 4 rfl
   have f4:=HE_z7.out.free 4
   have r5:=HR_z7.out.cell 5 rfl
   have e5:=HE_z7.out.cell 5 rfl
   have f5:=HE_z7.out.free 5
   have r6:=HR_z7.out.cell 6 rfl
   have e6:=HE_z7.out.cell 6 rfl
   have f6:=HE_z7.out.free 6
   have r7:=HR_z7.out.cell 7 rfl
   have e7:=HE_z7.out.cell 7 rfl
   have f7:=HE_z7.out.free 7
   have HFB:=Hd ((((((((HE_z7.out.set 0 (.string ⟨#[120,120]⟩)).set 1 (.string S1)).set 2 (.string S2)).set 3 (.string S3)).set 4 (.string S4)).set 5 (.string S5)).set 6 (.string S6)).set 7 (.string S7))
   have HFQ:=Hd (Q.setCell (Q.setCell (Q.setCell (Q.setCell (Q.setCell (Q.setCell (Q.setCell (Q.setCell HQ_z7.out (ad:=⟨bE,0,none⟩) HWE.out (.string ⟨#[120,120]⟩)) (ad:=⟨bE,1,none⟩) HWE.out (.string S1)) (ad:=⟨bE,2,none⟩) HWE.out (.string S2)) (ad:=⟨bE,3,none⟩) HWE.out (.string S3)) (ad:=⟨bE,4,none⟩) HWE.out (.string S4)) (ad:=⟨bE,5,none⟩) HWE.out (.string S5)) (ad:=⟨bE,6,none⟩) HWE.out (.string S6)) (ad:=⟨bE,7,none⟩) HWE.out (.string S7))
   go_wp2_with fail
   refine ret_bk rfl Tryz.underlying29 (by exact infoR) rfl HFB.out rfl ?_
   have hfin:=HEN.out (Lm.mk si p d m u c q) (Lm.pX p) _ ⟨si,p,d,m,u,c,q,HSI.out,Hp.out,HdW.out,Hm.out,Hu.out,Hc.out,Hq.out,rfl,rfl⟩ HFQ.out
   have hrec:recV (Lm.mk si p d m u c q) = .agg #[.string ⟨#[120,120]⟩,.string S1,.string S2,.string S3,.string S4,.string S5,.string S6,.string S7]:=by
    unfold recV Lm.mk
    rw [HS1.out,HS2.out,HS3.out,HS5.out,HS6.out,HS7.out]
    rw [if_pos HGR.out]
    unfold Lm.grpAt
    rw [if_neg HEQ.out,HS4.out]
    rfl
   rw [hrec] at hfin
   exact hfin
 ·have HGR:=Hd (show ¬ 0 < (Lm.pX p).pr by rw [<- HPR.out];exact hgr)
  go_upto_region 12 with fail
  clear c4
  have r0:=HRY.out.cell 0 rfl
  have e0:=HEY.out.cell 0 rfl
  have f0:=HEY.out.free 0
  have r1:=HRY.out.cell 1 rfl
  have e1:=HEY.out.cell 1 rfl
  have f1:=HEY.out.free 1
  have r2:=HRY.out.cell 2 rfl
  have e2:=HEY.out.cell 2 rfl
  have f2:=HEY.out.free 2
  have r3:=HRY.out.cell 3 rfl
  have e3:=HEY.out.cell 3 rfl
  have f3:=HEY.out.free 3
  have r4:=HRY.out.cell 4 rfl
  have e4:=HEY.out.cell 4 rfl
  have f4:=HEY.out.free 4
  have r5:=HRY.out.cell 5 rfl
  have e5:=HEY.out.cell 5 rfl
  have f5:=HEY.out.free 5
  have r6:=HRY.out.cell 6 rfl
  have e6:=HEY.out.cell 6 rfl
  have f6:=HEY.out.free 6
  have r7:=HRY.out.cell 7 rfl
  have e7:=HEY.out.cell 7 rfl
  have f7:=HEY.out.free 7
  have HFB:=Hd ((((((((HEY.out.set 0 (.string ⟨#[120,120]⟩)).set 1 (.string S1)).set 2 (.string S2)).set 3 (.string S3)).set 4 (.string ⟨#[]⟩)).set 5 (.string S5)).set 6 (.string S6)).set 7 (.string S7))
  have HFQ:=Hd (Q.setCell (Q.setCell (Q.setCell (Q.setCell (Q.setCell (Q.setCell (Q.setCell (Q.setCell HQY.out (ad:=⟨bE,0,none⟩) HWE.out (.string ⟨#[120,120]⟩)) (ad:=⟨bE,1,none⟩) HWE.out (.string S1)) (ad:=⟨bE,2,none⟩) HWE.out (.string S2)) (ad:=⟨bE,3,none⟩) HWE.out (.string S3)) (ad:=⟨bE,4,none⟩) HWE.out (.string ⟨#[]⟩)) (ad:=⟨bE,5,none⟩) HWE.out (.string S5)) (ad:=⟨bE,6,none⟩) HWE.out (.string S6)) (ad:=⟨bE,7,none⟩) HWE.out (.string S7))
  go_wp2_with fail
  refine ret_bk rfl Tryz.underlying29 (by exact infoR) rfl HFB.out rfl ?_
  have hfin:=HEN.out (Lm.mk si p d m u c 0) (Lm.pX p) _ ⟨si,p,d,m,u,c,0,HSI.out,Hp.out,HdW.out,Hm.out,Hu.out,Hc.out,by omega,rfl,rfl⟩ HFQ.out
  have hrec:recV (Lm.mk si p d m u c 0) = .agg #[.string ⟨#[120,120]⟩,.string S1,.string S2,.string S3,.string ⟨#[]⟩,.string S5,.string S6,.string S7]:=by
   unfold recV Lm.mk
   rw [HS1.out,HS2.out,HS3.out,HS5.out,HS6.out,HS7.out]
   rw [if_neg (show ¬ 0 < (Lm.pX p).pr by have h:=HGR.out;omega)]
   rfl
  rw [hrec] at hfin
  exact hfin
end Ro
end
section
open Go.RowKit
namespace Ro
open Um Cm Gm Lo
theorem elT:Pb.El 148 98:=⟨by kernel_rfl,Tryz.underlying98⟩
theorem bs_cat (s t:List UInt8):Lm.bs s ++ Lm.bs t = Lm.bs (s ++ t):=by
 apply ByteArray.ext
 apply Array.ext'
 simp [Lm.bs]
theorem refO_at (r:Lm.Rec) (A:List Pc.E) (k:Nat) (hk:k < A.length):refO r (A.take (k + 1)) [] = if (A.getD k (0,[])).1 = 3 then ((refO r (A.take k) []).1 ++ tx1 (refO r (A.take k) []).2 ++ [((true,[]):Pb.E)],[]) else ((refO r (A.take k) []).1,(refO r (A.take k) []).2 ++ Lm.ptx r (A.getD k (0,[]))):=by
 rw [List.take_succ_eq_append_getElem hk,refO_snoc,List.getD_eq_getElem?_getD,List.getElem?_eq_getElem hk];rfl
theorem rparts_any (r:Lm.Rec) (X:Pt.Pat) (a b c d v:Value) (A:List Pc.E) (w:World) (hL:LL w X a b c d) (hv:Pc.LstP w v A) (hA:A.length <= 10) (hk:∀ x ∈ A,(0 <= x.1 /\ x.1 <= 3)) (hz:(Lm.atx r A).length <= 64) :
  Calls Tryz.prog 72 #[lV r X a b c d,v] w fun e w'=>∃ u,e = .returned u /\ Pb.LstP w' u (refP r A []) /\ Q w w':=by
 have HT:=Hd (fun (k:Nat) (h:k < A.length) u y (hy:Pc.LstP u y [A.getD k (0,[])])=>text_any r y [A.getD k (0,[])] u hy (by simp) (fun x hx=>hk x (by
   rw [List.mem_singleton.1 hx,List.getD_eq_getElem?_getD,List.getElem?_eq_getElem h];exact List.getElem_mem _)) (by
   have hm:A.getD k (0,[]) ∈ A:=by rw [List.getD_eq_getElem?_getD,List.getElem?_eq_getElem h];exact List.getElem_mem _
   have h2:=(List.sublist_flatten_of_mem (List.mem_map_of_mem (f:=Lm.ptx r) hm)).length_le
   unfold Lm.atx at hz |-
   rw [List.flatMap_def] at hz
   simp only [List.flatMap_cons,List.flatMap_nil,List.append_nil]
   omega))
 have HZ:=Hd (fun (k:Nat) (h:k < A.length)=>(show (Lm.bs (Lm.atx r [A.getD k (0,[])])).size <= 64 by
   have hm:A.getD k (0,[]) ∈ A:=by rw [List.getD_eq_getElem?_getD,List.getElem?_eq_getElem h];exact List.getElem_mem _
   have h2:=(List.sublist_flatten_of_mem (List.mem_map_of_mem (f:=Lm.ptx r) hm)).length_le
   rw [Lm.bs_size]
   unfold Lm.atx at hz |-
   rw [List.flatMap_def] at hz
   simp only [List.flatMap_cons,List.flatMap_nil,List.append_nil]
   omega))
 have HO:=Hd (refO_at r A)
 have HS:=Hd (fun k=>(show (refO r (A.take k) []).2.length <= 64 by
  have h1:=refO_len r (A.take k) []
  have h2:=(atx_le r A k).1
  simp only [List.length_nil] at h1;omega))
 have HFW:=Hd (fun k=>(show (refO r (A.take k) []).1.length <= 20 by
  have h1:=refO_few r (A.take k) []
  have h2:(A.take k).length <= A.length:=by rw [List.length_take];omega
  omega))
 have HE:=Hd (show refP r A [] = (refO r (A.take A.length) []).1 ++ tx1 (refO r (A.take A.length) []).2 by rw [List.take_length];exact refO_all r A [])
 have HV:=Hd hv
 obtain ⟨n,hn⟩:∃ n,n = A.length:=⟨_,rfl⟩
 rw [<- hn] at HT HZ HO HE hA
 have HN:=Hd hn
 have h00:refO r (A.take 0) [] = ([],[]):=rfl
 obtain ⟨va,vc,rfl,hc1,hc2⟩:=hv.form0 hn.symm
 generalize refP r A [] = RP at *
 obtain ⟨F,hF⟩:∃ F:Nat -> List Pb.E × List UInt8,∀ k,F k = refO r (A.take k) []:=⟨fun k=>refO r (A.take k) [],fun _=>rfl⟩
 simp only [<- hF] at HO HS HFW HE h00
 clear hF hv hk hz hn
 obtain ⟨a1,a2,rfl⟩:=hL.1.shape
 obtain ⟨b1,b2,rfl⟩:=hL.2.1.shape
 obtain ⟨c1,c2,rfl⟩:=hL.2.2.1.shape
 obtain ⟨d1,d2,rfl⟩:=hL.2.2.2.shape
 clear hL
 generalize X.pre.length = n1 at *
 generalize X.suf.length = n2 at *
 generalize X.npre.length = n3 at *
 generalize X.nsuf.length = n4 at *
 unfold lV
 unfold recV at HT
 generalize X.pr = p0 at *
 generalize X.se = p1 at *
 generalize X.mi = p2 at *
 generalize X.mf = p3 at *
 generalize X.xf = p4 at *
 generalize Lm.bs r.nam = s0 at *
 generalize Lm.bs r.pat = s1 at *
 generalize Lm.bs r.sys = s2 at *
 generalize Lm.bs r.dec = s3 at *
 generalize Lm.bs r.grp = s4 at *
 generalize Lm.bs r.min = s5 at *
 generalize Lm.bs r.per = s6 at *
 generalize Lm.bs r.cur = s7 at *
 obtain ⟨z,hz⟩:∃ z,z = w.alloc (.cells #[.string s0,.string s1,.string s2,.string s3,.string s4,.string s5,.string s6,.string s7,.slice a1 n1 a2,.slice b1 n2 b2,.slice c1 n3 c2,.slice d1 n4 d2,.int .i64 p0,.int .i64 p1,.int .i64 p2,.int .i64 p3,.int .i64 p4] 34):=⟨_,rfl⟩
 have HQZ:=Hd (show Q w z by rw [hz];exact (Q.refl w).alloc _)
 have HBZ:=Hd (show Bk z w.heap.size 34 [.string s0,.string s1,.string s2,.string s3,.string s4,.string s5,.string s6,.string s7,.slice a1 n1 a2,.slice b1 n2 b2,.slice c1 n3 c2,.slice d1 n4 d2,.int .i64 p0,.int .i64 p1,.int .i64 p2,.int .i64 p3,.int .i64 p4] by rw [hz];exact Bk.new _ _ _)
 go_enter Tryz.func72,Tryz.ntmps72
 go_upto_region 1 with fail
 rw [<- hz]
 clear hz
 generalize w.heap.size = bz at *
 go_wp2_with fail
 go_loopw [5,6,7] (fun vo vs vi wr=>∃ k:Nat,vi = .int .i64 k /\ k <= n /\ (∃ S:ByteArray,vs = .string S /\ Hid (S = Lm.bs (F k).2)) /\ Hid (Pb.OwnE 148 wr z.heap.size vo (F k).1) /\ Q z wr) (fun _ _ i _=>n - (intOf i).toNat)
 case atStart=>exact ⟨0,rfl,by omega,⟨_,rfl,Hd (by rw [h00];rfl)⟩,Hd (by rw [h00];exact Pb.OwnE.nil _ _ _),Q.refl _⟩
 case round =>
  obtain ⟨k,rfl,hk,⟨S,rfl,HSK⟩,HOK,hq⟩:=hrel
  clear h00
  have hss:S.size <= 64:=by rw [HSK.out,Lm.bs_size];exact HS.out k
  have HQ:=Hd hq
  have hqle:=hq.le
  obtain ⟨oa,oc,hvo⟩:=HOK.out.lst.shape
  obtain ⟨f,hf⟩:∃ f,f = (F k).1.length:=⟨_,rfl⟩
  have hf20:f <= 20:=by rw [hf];exact HFW.out k
  rw [<- hf] at hvo
  subst hvo
  have HFL:=Hd hf
  clear hf
  by_cases hlt:k < n
  ·have HKB:=Hd hlt
   have hlti:(k:Int) < (n:Int):=by omega
   obtain ⟨g,off,cap,hvv,hg,_,_,c1,c2⟩:=(HV.out.q (HQZ.out.trans hq)).cellOf HN.out.symm hlt
   cases hvv
   have HX:=Hd (show Pc.LstP w (.slice (some ⟨g,off + k * 2,none⟩) 1 (vc - k)) [A.getD k (0,[])] from by
    have h1:=HV.out.drop HN.out.symm hlt
    have hl:k < A.length:=by have:=HN.out;omega
    have h2:=h1.take 1 (by rw [List.length_drop];omega)
    rw [List.drop_eq_getElem_cons hl] at h2
    rw [List.getD_eq_getElem?_getD,List.getElem?_eq_getElem hl]
    exact h2)
   have HCU:=Hd (fun u (hu:Q wr u)=>(show u.cell? ⟨g,off + k * 2,none⟩ = some (.int .i64 (A.getD k (0,[])).1) from (World.cell?_of_block (hu.block hg)).trans c1))
   have HTK:=Hd (fun u (hq:Q w u)=>HT.out k hlt u _ (HX.out.q hq))
   have hat:=HO.out k hlt
   have hzz:=HZ.out k hlt
   generalize A.getD k (0,[]) = x at *
   clear c2 hq
   by_cases h3:x.1 = 3
   ·rw [if_pos h3] at hat
    rw [h3] at c1
    have HAT:=Hd hat
    clear hat h3
    by_cases he:(F k).2 = []
    ·have hS:S = ⟨#[]⟩:=by rw [HSK.out,he];rfl
     subst hS
     have HE0:=Hd he
     clear he
     go_wp2_with (at_builtin;refine Pb.push elT HOK.out rfl _ _ rfl true ⟨#[]⟩ (by rfl) (by rfl) (by rw [<- HFL.out];omega) hqle ?_)
     intro v' w3 ho3 hg3 hat3
     have HQ3:=Hd (HQ.out.grown hg3 (fun j h=>(HOK.out.lt j h).1))
     have HO3:=Hd (show Pb.OwnE 148 w3 z.heap.size v' (F (k + 1)).1 by rw [HAT.out,HE0.out];simpa [tx1] using ho3)
     have HS3:=Hd (show (⟨#[]⟩:ByteArray) = Lm.bs (F (k + 1)).2 by rw [HAT.out];rfl)
     clear ho3 hg3 hat3
     go_wp2_with fail
     exact ⟨⟨k + 1,by go_num,by have:=HKB.out;omega,⟨_,rfl,HS3⟩,HO3,HQ3.out⟩,by simp [intOf];have:=HKB.out;omega⟩
    ·have hne:S.toList.isEmpty = false:=by
      have h1:=bs_ne he
      rw [HSK.out]
      unfold Lm.bs
      cases h2:(⟨((F k).2).toArray⟩:ByteArray).toList with
      | nil=>rw [h2] at h1;simp at h1
      | cons y ys=>rfl
     have HE1:=Hd he
     clear he
     go_wp2_with (at_builtin;refine Pb.push elT HOK.out rfl _ _ rfl false S (by rfl) (by rfl) (by rw [<- HFL.out];omega) hqle ?_)
     intro v' w3 ho3 hg3 hat3
     have HQ3:=Hd (HQ.out.grown hg3 (fun j h=>(HOK.out.lt j h).1))
     have HO3:=Hd ho3
     have hle3:=HQ3.out.le
     clear ho3 hg3 hat3
     go_wp2_with (at_builtin;refine Pb.push elT HO3.out rfl _ _ rfl true ⟨#[]⟩ (by rfl) (by rfl) (by rw [List.length_append,<- HFL.out];simp;omega) hle3 ?_)
     intro v2' w4 ho4 hg4 hat4
     have HQ4:=Hd (HQ3.out.grown hg4 (fun j h=>(HO3.out.lt j h).1))
     have HO4:=Hd (show Pb.OwnE 148 w4 z.heap.size v2' (F (k + 1)).1 by
      rw [HAT.out]
      have h1:tx1 (F k).2 = [((false,S.data.toList):Pb.E)]:=by
       rw [HSK.out,Lm.bs_list];unfold tx1;rw [if_neg (by simpa using HE1.out)]
      rw [h1];simpa using ho4)
     have HS4:=Hd (show (⟨#[]⟩:ByteArray) = Lm.bs (F (k + 1)).2 by rw [HAT.out];rfl)
     clear ho4 hg4 hat4
     go_wp2_with fail
     exact ⟨⟨k + 1,by go_num,by have:=HKB.out;omega,⟨_,rfl,HS4⟩,HO4,HQ4.out⟩,by simp [intOf];have:=HKB.out;omega⟩
   ·rw [if_neg h3] at hat
    have HAT:=Hd hat
    have hkind:(x.1 == 3) = false:=by rw [beq_eq_false_iff_ne];exact h3
    obtain ⟨xk,hxk⟩:∃ y,y = x.1:=⟨_,rfl⟩
    rw [<- hxk] at c1 h3 hkind
    simp only [<- hxk] at HCU
    clear hat hxk
    have hqz:=HQZ.out.trans HQ.out
    have hw:IntKind.i64.wrap ((k:Int) + 1) = (k:Int) + 1:=by rw [IntKind.wrap_i64];omega
    have hzz2:¬ 9223372036854775807 < S.size + (Lm.bs (Lm.atx r [x])).size:=by omega
    have hw0:(0:Int) <= (k:Int) + 1:=by omega
    have hw1:(k:Int) + 1 <= (vc:Int):=by omega
    have hw2:((k:Int) + 1).toNat = k + 1:=by omega
    have hw4:¬ vc = k:=by omega
    go_upto_region 7 with fail
    refine wp_region_held_drew (S:=fun u=>Q wr u) (by kernel_rfl) (by exact (Q.refl wr).drew) (fun hHeld=>?_)
    have hS:Q wr wr.drew:=hHeld
    clear hHeld
    have hq:Q wr wr.drew:=(Q.refl _).drew
    clear hq
    generalize wr.drew = yR1x0 at *
    change wpAnyH _ _ _ _ _ _ #[ff,ff,ff,ff,ff,ff,ff,ff,ff,ff,ff] _ _
    refine tk 0 ?_
    try simp only [Act.put,sA,sB,sC]
    refine tk 1 ?_
    try simp only [Act.put,sA,sB,sC]
    refine tk 2 ?_ (hy:=fun uz hSw=>by (try dsimp only at hSw);have kb:=HBZ.out.q (HQ.out.trans hSw);have q0:=kb.cell 0 rfl;have q1:=kb.cell 1 rfl;have q2:=kb.cell 2 rfl;have q3:=kb.cell 3 rfl;have q4:=kb.cell 4 rfl;have q5:=kb.cell 5 rfl;have q6:=kb.cell 6 rfl;have q7:=kb.cell 7 rfl;clear kb;go_simp;try with_reducible rfl)
    try simp only [Act.put,sA,sB,sC]
    refine tk 3 ?_
    try simp only [Act.put,sA,sB,sC]
    refine tk 4 ?_
    try simp only [Act.put,sA,sB,sC]
    refine tk 5 ?_
    try simp only [Act.put,sA,sB,sC]
    refine tk 6 ?_
    try simp only [Act.put,sA,sB,sC]
    refine tk 7 ?_
    try simp only [Act.put,sA,sB,sC]
    refine wpAnyH_ready (rs:=[8]) (by kernel_rfl) (by simp) ?_
    refine ar fun K hK=>?_
    go_simp
    refine (HTK.out _ (HQZ.out.trans (HQ.out.trans hS))).mono ?_
    rintro e yR1x9 ⟨rfl,hq⟩
    try (go_wp2_with fail)
    have hS2:=Q.trans hS hq
    refine hK.out _ _ (by exact hS2) (fun hHeld=>?_)
    clear hK K hHeld hS hq
    have hS:=hS2
    clear hS2
    try simp only [Act.put,sA,sB,sC]
    refine tk 9 ?_
    try simp only [Act.put,sA,sB,sC]
    refine tk 10 ?_
    try simp only [Act.put,sA,sB,sC]
    refine wpAnyH_done (by kernel_rfl) ?_ _
    have HQ5:=Hd (HQ.out.trans hS)
    have HO5:=Hd (HOK.out.q hS)
    clear hS
    go_wp2_with fail
    exact ⟨⟨k + 1,by go_num,by have:=HKB.out;omega,⟨_,rfl,Hd (by rw [HAT.out,HSK.out,bs_cat];simp [Lm.atx])⟩,Hd (by rw [HAT.out];exact HO5.out),HQ5.out⟩,by simp [intOf];have:=HKB.out;omega⟩
  ·have hnlt:¬ (k:Int) < (n:Int):=by omega
   obtain rfl:k = n:=by omega
   have HQF:=Hd (HQZ.out.trans hq)
   clear hq hlt
   by_cases he:(F k).2 = []
   ·have hS:S = ⟨#[]⟩:=by rw [HSK.out,he];rfl
    subst hS
    have HR:=Hd (show Pb.LstP wr (.slice oa f oc) RP by
     rw [HE.out,he]
     have h:=HOK.out.lst
     simpa [tx1] using h)
    clear he
    go_wp2_with fail
    go_ret
    exact ⟨_,rfl,HR.out,HQF.out⟩
   ·have hne:S.toList.isEmpty = false:=by
      have h1:=bs_ne he
      rw [HSK.out]
      unfold Lm.bs
      cases h2:(⟨((F k).2).toArray⟩:ByteArray).toList with
      | nil=>rw [h2] at h1;simp at h1
      | cons y ys=>rfl
    have HE1:=Hd he
    clear he
    go_wp2_with (at_builtin;refine Pb.push elT HOK.out rfl _ _ rfl false S (by rfl) (by rfl) (by rw [<- HFL.out];omega) hqle ?_)
    intro v' w3 ho3 hg3 hat3
    have HQ3:=Hd (HQZ.out.trans (HQ.out.grown hg3 (fun j h=>(HOK.out.lt j h).1)))
    have HR:=Hd (show Pb.LstP w3 v' RP by
     rw [HE.out]
     have h1:tx1 (F k).2 = [((false,S.data.toList):Pb.E)]:=by
      rw [HSK.out,Lm.bs_list];unfold tx1;rw [if_neg (by simpa using HE1.out)]
     rw [h1];exact ho3.lst)
    clear ho3 hg3 hat3
    go_wp2_with fail
    go_ret
    exact ⟨_,rfl,HR.out,HQ3.out⟩
end Ro
end
end Go.Proofs.YtdjhkbholijnmaaGreatDoor
