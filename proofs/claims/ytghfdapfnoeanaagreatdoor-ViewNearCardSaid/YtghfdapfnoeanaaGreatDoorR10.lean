/- The document's own forty. (and more) -/
import Derived.Test.YtghfdapfnoeanaaGreatDoorR00
import Derived.Test.YtghfdapfnoeanaaGreatDoorR02
import Derived.Test.YtghfdapfnoeanaaGreatDoorR01
import Derived.Test.YtghfdapfnoeanaaGreatDoorR09
import Derived.Test.YtghfdapfnoeanaaGreatDoorR08
import Derived.Test.YtghfdapfnoeanaaGreatDoorRows
set_option linter.unusedVariables false
set_option linter.unusedSimpArgs false
namespace Go.Proofs.YtghfdapfnoeanaaGreatDoor
open Go.RowKit Um
namespace Fr
open Ft
set_option maxRecDepth 1000000 in
set_option maxHeartbeats 1000000 in
theorem rrecords_any (w:World):Calls Tryz.prog 107 #[] w fun e w'=>e = .returned (.slice (some ⟨w.heap.size,0,none⟩) 40 40) ∧ w' = w.alloc (.cells flat.toArray 29) :=
 calls_runF Tryz.func107 (by rfl) (W:=w.alloc (.cells flat.toArray 29)) (v:=.slice (some ⟨w.heap.size,0,none⟩) 40 40) (by kernel_rfl) ⟨rfl,rfl⟩
theorem rrec_q (w:World):Calls Tryz.prog 107 #[] w fun e w'=>∃ b,e = .returned (.slice (some ⟨b,0,none⟩) 40 40) ∧ Bk w' b 29 flat ∧ Q w w' :=
 (rrecords_any w).mono fun e w' ⟨he,hw⟩=>⟨_,he,by rw [hw];exact Bk.new _ _ _,by rw [hw];exact (Q.refl w).alloc _⟩
theorem infoR:(Tryz.prog.info? 29).map (·.size) = some 8:=by kernel_rfl
set_option maxRecDepth 100000 in
set_option maxHeartbeats 1000000 in
theorem one_any (n:Int) (w:World) (h0:-9223372036854775808 ≤ n) (h1:n ≤ 9223372036854775807) :
  Calls Tryz.prog 54 #[.int .i64 n] w fun e w'=>e = .returned (rV (Fm.T (around n 40).toNat)) ∧ Q w w':=by
 have HA:=Lib.hid (fun u=>Ur.around_any n 40 u h0 h1 (by omega) (by omega))
 have hba:=around_bd n 40 (by omega)
 obtain ⟨k,hk⟩:∃ k:Nat,(k:Int) = around n 40:=⟨(around n 40).toNat,by omega⟩
 rw [← hk] at HA hba ⊢
 have hk40:k < 40:=by omega
 have hki:(k:Int) < 40:=by omega
 have hk0:¬ (k:Int) < 0:=by omega
 clear hk hba h0 h1
 rw [Int.toNat_natCast]
 have HT:Hid (rV (Fm.T k) = .agg #[.string (Lm.bs (Fm.T k).nam),.string (Lm.bs (Fm.T k).pat),.string (Lm.bs (Fm.T k).sys),.string (Lm.bs (Fm.T k).dec),.string (Lm.bs (Fm.T k).grp),.string (Lm.bs (Fm.T k).min),.string (Lm.bs (Fm.T k).per),.string (Lm.bs (Fm.T k).cur)]):=Lib.hid rfl
 rw [HT.out]
 clear HT
 obtain ⟨s0,hs0⟩:∃ s,s = Lm.bs (Fm.T k).nam:=⟨_,rfl⟩
 rw [← hs0]
 obtain ⟨s1,hs1⟩:∃ s,s = Lm.bs (Fm.T k).pat:=⟨_,rfl⟩
 rw [← hs1]
 obtain ⟨s2,hs2⟩:∃ s,s = Lm.bs (Fm.T k).sys:=⟨_,rfl⟩
 rw [← hs2]
 obtain ⟨s3,hs3⟩:∃ s,s = Lm.bs (Fm.T k).dec:=⟨_,rfl⟩
 rw [← hs3]
 obtain ⟨s4,hs4⟩:∃ s,s = Lm.bs (Fm.T k).grp:=⟨_,rfl⟩
 rw [← hs4]
 obtain ⟨s5,hs5⟩:∃ s,s = Lm.bs (Fm.T k).min:=⟨_,rfl⟩
 rw [← hs5]
 obtain ⟨s6,hs6⟩:∃ s,s = Lm.bs (Fm.T k).per:=⟨_,rfl⟩
 rw [← hs6]
 obtain ⟨s7,hs7⟩:∃ s,s = Lm.bs (Fm.T k).cur:=⟨_,rfl⟩
 rw [← hs7]
 obtain ⟨z,hz⟩:∃ z,z = w.alloc (.cells #[.string ⟨#[]⟩,.string ⟨#[]⟩,.string ⟨#[]⟩,.string ⟨#[]⟩,.string ⟨#[]⟩,.string ⟨#[]⟩,.string ⟨#[]⟩,.string ⟨#[]⟩] 29):=⟨_,rfl⟩
 have HQZ:=Lib.hid (show Q w z by rw [hz];exact (Q.refl w).alloc _)
 have hb:Bk z w.heap.size 29 [.string ⟨#[]⟩,.string ⟨#[]⟩,.string ⟨#[]⟩,.string ⟨#[]⟩,.string ⟨#[]⟩,.string ⟨#[]⟩,.string ⟨#[]⟩,.string ⟨#[]⟩]:=by rw [hz];exact Bk.new _ _ _
 go_enter Tryz.func54,Tryz.ntmps54
 go_wp2_with fail
 rw [← hz]
 clear hz
 obtain ⟨B,hBe⟩:∃ B,B = w.heap.size:=⟨_,rfl⟩
 have HWB:=Lib.hid (show w.heap.size ≤ B by omega)
 rw [← hBe] at hb ⊢
 clear hBe
 refine (rrec_q _).mono ?_
 rintro e w1 ⟨b,rfl,hB,hq⟩
 have h2:=hb.q hq
 replace HQZ:=Lib.hid (HQZ.out.trans hq)
 clear hb hq
 have c0:w1.cell? ⟨b,k * 8,none⟩ = _:=row_cell hB hk40 0 rfl
 have c1:=row_cell hB hk40 1 rfl
 have c2:=row_cell hB hk40 2 rfl
 have c3:=row_cell hB hk40 3 rfl
 have c4:=row_cell hB hk40 4 rfl
 have c5:=row_cell hB hk40 5 rfl
 have c6:=row_cell hB hk40 6 rfl
 have c7:=row_cell hB hk40 7 rfl
 rw [← hs0] at c0
 rw [← hs1] at c1
 rw [← hs2] at c2
 rw [← hs3] at c3
 rw [← hs4] at c4
 rw [← hs5] at c5
 rw [← hs6] at c6
 rw [← hs7] at c7
 clear hs0 hs1 hs2 hs3 hs4 hs5 hs6 hs7
 go_wp2_with fail
 refine (HA.out _).mono ?_
 rintro e w2 ⟨rfl,rfl⟩
 have p0:=h2.cell 0 rfl
 have f0:=h2.free 0
 have p1:=h2.cell 1 rfl
 have f1:=h2.free 1
 have p2:=h2.cell 2 rfl
 have f2:=h2.free 2
 have p3:=h2.cell 3 rfl
 have f3:=h2.free 3
 have p4:=h2.cell 4 rfl
 have f4:=h2.free 4
 have p5:=h2.cell 5 rfl
 have f5:=h2.free 5
 have p6:=h2.cell 6 rfl
 have f6:=h2.free 6
 have p7:=h2.cell 7 rfl
 have f7:=h2.free 7
 have HFB:=Lib.hid ((((((((h2.set 0 (.string s0)).set 1 (.string s1)).set 2 (.string s2)).set 3 (.string s3)).set 4 (.string s4)).set 5 (.string s5)).set 6 (.string s6)).set 7 (.string s7))
 have HFQ:=Lib.hid (Q.setCell (Q.setCell (Q.setCell (Q.setCell (Q.setCell (Q.setCell (Q.setCell (Q.setCell HQZ.out (ad:=⟨B,0,none⟩) HWB.out (.string s0)) (ad:=⟨B,1,none⟩) HWB.out (.string s1)) (ad:=⟨B,2,none⟩) HWB.out (.string s2)) (ad:=⟨B,3,none⟩) HWB.out (.string s3)) (ad:=⟨B,4,none⟩) HWB.out (.string s4)) (ad:=⟨B,5,none⟩) HWB.out (.string s5)) (ad:=⟨B,6,none⟩) HWB.out (.string s6)) (ad:=⟨B,7,none⟩) HWB.out (.string s7))
 clear h2 hB
 go_wp2_with fail
 refine ret_bk rfl Tryz.underlying29 (by exact infoR) rfl HFB.out rfl ⟨?_,HFQ.out⟩
 rfl
end Fr
end Go.Proofs.YtghfdapfnoeanaaGreatDoor
