/- A locale, made of any: the document's own, and the program's of it. (and more) -/
import Derived.Test.YtghfdapfnoeanaaGreatDoorR00
import Derived.Test.YtghfdapfnoeanaaGreatDoorR02
import Derived.Test.YtghfdapfnoeanaaGreatDoorR01
import Derived.Test.YtghfdapfnoeanaaGreatDoorR09
import Derived.Test.YtghfdapfnoeanaaGreatDoorR08
import Derived.Test.YtghfdapfnoeanaaGreatDoorR36
import Derived.Test.YtghfdapfnoeanaaGreatDoorR10
import Derived.Test.YtghfdapfnoeanaaGreatDoorR04
import Derived.Test.YtghfdapfnoeanaaGreatDoorR25
import Derived.Test.YtghfdapfnoeanaaGreatDoorR06
import Derived.Test.YtghfdapfnoeanaaGreatDoorR30
import Derived.Test.YtghfdapfnoeanaaGreatDoorR32
import Derived.Test.YtghfdapfnoeanaaGreatDoorR03
import Derived.Test.YtghfdapfnoeanaaGreatDoorRows
import Derived.Test.YtghfdapfnoeanaaGreatDoorR23
import Derived.Test.YtghfdapfnoeanaaGreatDoorR33
import Derived.Test.YtghfdapfnoeanaaGreatDoorR11
import Derived.Test.YtghfdapfnoeanaaGreatDoorR18
import Derived.Test.YtghfdapfnoeanaaGreatDoorR07
import Derived.Laws.Rows
import Derived.Laws.ResultCell
import Derived.Deep.RegionHeld
import Derived.Deep.Cut
import Derived.Deep.QuietTactic
import Derived.BigQuiet
set_option linter.unusedVariables false
set_option linter.unusedSimpArgs false
namespace Go.Proofs.YtghfdapfnoeanaaGreatDoor
open Go.RowKit
namespace It
open Um Lo Ro
structure LOk (r:Lm.Rec) (X:Pt.Pat):Prop where
 ok:Lm.Ok r X
 pr:X.pr ≤ 1000
 se:0 ≤ X.se ∧ X.se ≤ 1000
 tx:∀ A ∈ Lm.affs X,∀ x ∈ A,okL x.2 = true
def fewB (X:Pt.Pat):Bool:=decide (X.pr ≤ 1000) && (decide (0 ≤ X.se ∧ X.se ≤ 1000) && (Lm.affs X).all fun A=>A.all fun x=>okL x.2)
theorem few_of {r:Lm.Rec} {X:Pt.Pat} (h:Lm.Ok r X) (hb:fewB X = true):LOk r X:=by
 unfold fewB at hb
 simp only [Bool.and_eq_true,decide_eq_true_eq,List.all_eq_true] at hb
 exact ⟨h,hb.1,hb.2.1,fun A hA x hx=>hb.2.2 A hA x hx⟩
theorem few_mk:∀ p,p < 10 → fewB (Lm.pX p) = true:=by decide +kernel
theorem few_forty:∀ p,p < 14 → fewB (Fm.P p) = true:=by decide +kernel
theorem lok_mk {r:Lm.Rec} {X:Pt.Pat} (h:IsMk r X):LOk r X:=by
 obtain ⟨s,p,d,m,u,c,q,hs,hp,hd,hm,hu,hc,hq,rfl,rfl⟩:=h
 exact few_of (ok_of ⟨s,p,d,m,u,c,q,hs,hp,hd,hm,hu,hc,hq,rfl,rfl⟩) (few_mk p hp)
theorem lok_forty {i:Nat} (h:i < 40):LOk (Fm.T i) (Fm.P (Fm.nP i)):=few_of (Fm.f_ok i h) (few_forty _ (Fm.nP_lt i h))
theorem pat_len:∀ i,i < 40 → (Fm.T i).pat.length ≤ 1000:=by decide +kernel
theorem pat_forty {i:Nat} (h:i < 40):(Pt.parseC (allL (Fm.T i).pat)).1 = Fm.P (Fm.nP i):=by
 obtain ⟨h1,h2,h3⟩:=Fm.ptC_B (Fm.nP i) (Fm.nP_lt i h)
 rw [Fm.pat_of i h,← h1,allL_join _ (fun c hc=>by simpa using List.all_eq_true.1 h3 c hc),h2]
def RL (w:World) (v:Value) (r:Lm.Rec) (X:Pt.Pat):Prop:=∃ a b c d,v = lV r X a b c d ∧ Ro.LL w X a b c d
theorem row_same (u:World) (b:Nat) (cs:Array Value):Same b u (u.setRow b cs):=⟨Nat.le_of_eq (by simp [World.setRow,World.putObj]),fun g hg _=>setRow_other u b g cs hg⟩
theorem LL_row {u:World} {b0:Nat} {X:Pt.Pat} {a b c d:Value} (hz:Bk u b0 34 zL) (h:Ro.LL u X a b c d) (cs:Array Value):Ro.LL (u.setRow b0 cs) X a b c d :=
 ⟨LstP_aside h.1 hz zL_sep (row_same _ _ _),LstP_aside h.2.1 hz zL_sep (row_same _ _ _),LstP_aside h.2.2.1 hz zL_sep (row_same _ _ _),LstP_aside h.2.2.2 hz zL_sep (row_same _ _ _)⟩
set_option maxRecDepth 100000 in
set_option maxHeartbeats 3200000 in
theorem locale_any (g0 g1 g2 g3 g4 g5 n:Int) (w:World) (h0:-9223372036854775808 ≤ g0 ∧ g0 ≤ 9223372036854775807) (h1:-9223372036854775808 ≤ g1 ∧ g1 ≤ 9223372036854775807) (h2:-9223372036854775808 ≤ g2 ∧ g2 ≤ 9223372036854775807) (h3:-9223372036854775808 ≤ g3 ∧ g3 ≤ 9223372036854775807) (h4:-9223372036854775808 ≤ g4 ∧ g4 ≤ 9223372036854775807) (h5:-9223372036854775808 ≤ g5 ∧ g5 ≤ 9223372036854775807) (hn:-9223372036854775808 ≤ n ∧ n ≤ 9223372036854775807) :
  Calls Tryz.prog 30 #[.agg #[.int .i64 g0,.int .i64 g1,.int .i64 g2,.int .i64 g3,.int .i64 g4,.int .i64 g5],.int .i64 n] w fun e w'=>∃ v r X,e = .returned v ∧ LOk r X ∧ (∀ u,Calls Tryz.prog 27 #[recV r] u fun e w'=>∃ g a b c d cl,e = .returned (.tuple #[.pointer (some ⟨g,0,none⟩),Value.nilIface]) ∧ LB w' g r X a b c d cl ∧ Q u w') ∧ RL w' v r X ∧ Q w w':=by
 have HGO:=Lib.hid (fun u=>good_any g0 g1 g2 g3 g4 g5 u h0 h1 h2 h3 h4 h5)
 have HA:=Lib.hid (fun u=>Ur.around_any n 1048576 u hn.1 hn.2 (by omega) (by omega))
 have hab:=around_bd n 1048576 (by omega)
 generalize around n 1048576 = m at *
 obtain ⟨y,hy⟩:∃ z,z = w.alloc (.cells #[.int .i64 g0,.int .i64 g1,.int .i64 g2,.int .i64 g3,.int .i64 g4,.int .i64 g5] 23):=⟨_,rfl⟩
 have hqy:Q w y:=by rw [hy];exact (Q.refl w).alloc _
 have hgy:Bk y w.heap.size 23 [.int .i64 g0,.int .i64 g1,.int .i64 g2,.int .i64 g3,.int .i64 g4,.int .i64 g5]:=by rw [hy];exact Bk.new _ _ _
 obtain ⟨z,hz⟩:∃ z,z = y.alloc (.cells #[.string ⟨#[]⟩,.string ⟨#[]⟩,.string ⟨#[]⟩,.string ⟨#[]⟩,.string ⟨#[]⟩,.string ⟨#[]⟩,.string ⟨#[]⟩,.string ⟨#[]⟩,.slice none 0 0,.slice none 0 0,.slice none 0 0,.slice none 0 0,.int .i64 0,.int .i64 0,.int .i64 0,.int .i64 0,.int .i64 0] 34):=⟨_,rfl⟩
 have hqz:Q y z:=by rw [hz];exact (Q.refl y).alloc _
 have HQZ:=Lib.hid (hqy.trans hqz)
 have HGZ:=Lib.hid (hgy.q hqz)
 have hsy:y.heap.size = w.heap.size + 1:=by rw [hy];simp
 have hlz:Bk z y.heap.size 34 zL:=by rw [hz];exact Bk.new _ _ _
 rw [hsy] at hlz
 have HLZ:=Lib.hid hlz
 have hz2:z = (w.alloc (.cells #[.int .i64 g0,.int .i64 g1,.int .i64 g2,.int .i64 g3,.int .i64 g4,.int .i64 g5] 23)).alloc (.cells #[.string ⟨#[]⟩,.string ⟨#[]⟩,.string ⟨#[]⟩,.string ⟨#[]⟩,.string ⟨#[]⟩,.string ⟨#[]⟩,.string ⟨#[]⟩,.string ⟨#[]⟩,.slice none 0 0,.slice none 0 0,.slice none 0 0,.slice none 0 0,.int .i64 0,.int .i64 0,.int .i64 0,.int .i64 0,.int .i64 0] 34):=by rw [hz,hy]
 clear hqy hgy hqz hsy hlz hz hy h0 h1 h2 h3 h4 h5
 by_cases h3:n.tmod 3 = 0
 ·have h3b:(n.tmod 3 == 0) = true:=by simpa using h3
  go_enter Tryz.func30,Tryz.ntmps30
  go_upto_region 1 with fail
  rw [← hz2]
  clear hz2
  have cg0:=HGZ.out.cell 0 rfl
  have cg1:=HGZ.out.cell 1 rfl
  have cg2:=HGZ.out.cell 2 rfl
  have cg3:=HGZ.out.cell 3 rfl
  have cg4:=HGZ.out.cell 4 rfl
  have cg5:=HGZ.out.cell 5 rfl
  go_wp2_with fail
  clear cg0 cg1 cg2 cg3 cg4 cg5
  refine (HGO.out _).mono ?_
  rintro e w1 ⟨r,rfl,⟨X,hI⟩,hq1⟩
  have HI:=Lib.hid hI
  have HQ1:=Lib.hid (HQZ.out.trans hq1)
  have HL1:=Lib.hid (HLZ.out.q hq1)
  clear hq1 hI
  go_wp2_with fail
  refine (rnew_mk HI.out _).mono ?_
  rintro e w2 ⟨a,b,c,d,rfl,hl2,hq2⟩
  have HLL:=Lib.hid hl2
  have HQ2:=Lib.hid (HQ1.out.trans hq2)
  have HL2:=Lib.hid (HL1.out.q hq2)
  obtain ⟨a1,a2,rfl⟩:=hl2.1.shape
  obtain ⟨b1,b2,rfl⟩:=hl2.2.1.shape
  obtain ⟨c1,c2,rfl⟩:=hl2.2.2.1.shape
  obtain ⟨d1,d2,rfl⟩:=hl2.2.2.2.shape
  clear hl2 hq2
  go_wp2_with (refine wpList_store_row (by rfl) 34 _ _ (by rfl) (w.heap.size + 1) (lC r X (.slice a1 X.pre.length a2) (.slice b1 X.suf.length b2) (.slice c1 X.npre.length c2) (.slice d1 X.nsuf.length d2)).toArray (by rfl) (by rfl) 34 _ HL2.out (by exact infoL) rfl (Rw.all1 (by rfl)) ?_)
  exact ret_bk (l:=lC r X (.slice a1 X.pre.length a2) (.slice b1 X.suf.length b2) (.slice c1 X.npre.length c2) (.slice d1 X.nsuf.length d2)) rfl Tryz.underlying34 (by exact infoL) rfl (Rw.Bk_row HL2.out _) rfl ⟨_,r,X,rfl,lok_mk HI.out,fun u=>(new_mk HI.out u).mono fun e w' ⟨g,a,b,c,d,cl,h1,h2,_,h4⟩=>⟨g,a,b,c,d,cl,h1,h2,h4⟩,⟨_,_,_,_,rfl,LL_row HL2.out HLL.out _⟩,Rw.Q_row HQ2.out (Nat.le_succ _) _⟩
 ·have h3b:(n.tmod 3 == 0) = false:=by rw [beq_eq_false_iff_ne];exact h3
  have HON:=Lib.hid (fun q u (a:-9223372036854775808 ≤ q) (b:q ≤ 9223372036854775807)=>Fr.one_any q u a b)
  have HOB:=Lib.hid (fun q=>around_bd q 40 (by omega))
  go_enter Tryz.func30,Tryz.ntmps30
  go_upto_region 1 with fail
  rw [← hz2]
  clear hz2
  go_wp2_with fail
  refine (HA.out _).mono ?_
  rintro e wa ⟨rfl,rfl⟩
  go_wp2_with fail
  refine (HON.out _ _ (by omega) (by omega)).mono ?_
  rintro e w1 ⟨rfl,hq1⟩
  obtain ⟨k,hk⟩:∃ k,k = (around (m / 3) 40).toNat:=⟨_,rfl⟩
  rw [← hk]
  have hk40:k < 40:=by have:=HOB.out (m / 3);omega
  clear hk
  have HKL:=Lib.hid (lok_forty hk40)
  have HKN:=Lib.hid (fun u=>Ft.new_forty k hk40 u)
  have HKR:=Lib.hid (fun u=>Ro.new_any (Fm.T k) (Fm.P (Fm.nP k)) u (pat_forty hk40) (pat_len k hk40))
  have HQ1:=Lib.hid (HQZ.out.trans hq1)
  have HL1:=Lib.hid (HLZ.out.q hq1)
  clear hq1 hk40
  generalize Fm.T k = r at *
  generalize Fm.P (Fm.nP k) = X at *
  go_wp2_with fail
  refine (HKR.out _).mono ?_
  rintro e w2 ⟨a,b,c,d,rfl,hl2,hq2⟩
  have HLL:=Lib.hid hl2
  have HQ2:=Lib.hid (HQ1.out.trans hq2)
  have HL2:=Lib.hid (HL1.out.q hq2)
  obtain ⟨a1,a2,rfl⟩:=hl2.1.shape
  obtain ⟨b1,b2,rfl⟩:=hl2.2.1.shape
  obtain ⟨c1,c2,rfl⟩:=hl2.2.2.1.shape
  obtain ⟨d1,d2,rfl⟩:=hl2.2.2.2.shape
  clear hl2 hq2
  go_wp2_with (refine wpList_store_row (by rfl) 34 _ _ (by rfl) (w.heap.size + 1) (lC r X (.slice a1 X.pre.length a2) (.slice b1 X.suf.length b2) (.slice c1 X.npre.length c2) (.slice d1 X.nsuf.length d2)).toArray (by rfl) (by rfl) 34 _ HL2.out (by exact infoL) rfl (Rw.all1 (by rfl)) ?_)
  exact ret_bk (l:=lC r X (.slice a1 X.pre.length a2) (.slice b1 X.suf.length b2) (.slice c1 X.npre.length c2) (.slice d1 X.nsuf.length d2)) rfl Tryz.underlying34 (by exact infoL) rfl (Rw.Bk_row HL2.out _) rfl ⟨_,r,X,rfl,HKL.out,fun u=>(HKN.out u).mono fun e w' ⟨g,a,b,c,d,cl,h1,h2,_,h4⟩=>⟨g,a,b,c,d,cl,h1,h2,h4⟩,⟨_,_,_,_,rfl,LL_row HL2.out HLL.out _⟩,Rw.Q_row HQ2.out (Nat.le_succ _) _⟩
end It
end Go.Proofs.YtghfdapfnoeanaaGreatDoor
namespace Go.Proofs.YtghfdapfnoeanaaGreatDoor
open Go.RowKit
namespace Ro
open Um Cm Gm Lo
theorem dgt_enc {r:Lm.Rec} (h:0 ≤ Sm.nz r.sys) (k:Nat) (hk:k < 10):Lm.dgt r k = encB (Sm.nz r.sys + k):=by
 unfold Lm.dgt Sm.dgS
 rw [if_neg (by omega),if_pos (by omega)]
end Ro
end Go.Proofs.YtghfdapfnoeanaaGreatDoor
namespace Go.Proofs.YtghfdapfnoeanaaGreatDoor
open Go.RowKit
namespace Ro
open Um Cm Gm Lo
set_option maxRecDepth 100000 in
set_option maxHeartbeats 4000000 in
theorem record_any (g:Nat) (r:Lm.Rec) (X:Pt.Pat) (a b c d cl:Value) (w:World) (hB:LB w g r X a b c d cl) :
  Calls Tryz.prog 48 #[.pointer (some ⟨g,0,none⟩)] w fun e w'=>e = .returned (recV r) ∧ Q w w':=by
 obtain ⟨z,hz⟩:∃ z,z = w.alloc (.cells #[.string ⟨#[]⟩,.string ⟨#[]⟩,.string ⟨#[]⟩,.string ⟨#[]⟩,.string ⟨#[]⟩,.string ⟨#[]⟩,.string ⟨#[]⟩,.string ⟨#[]⟩] 64):=⟨_,rfl⟩
 have hQZ:Q w z:=by rw [hz];exact (Q.refl w).alloc _
 have h2:Bk z w.heap.size 64 [.string ⟨#[]⟩,.string ⟨#[]⟩,.string ⟨#[]⟩,.string ⟨#[]⟩,.string ⟨#[]⟩,.string ⟨#[]⟩,.string ⟨#[]⟩,.string ⟨#[]⟩]:=by rw [hz];exact Bk.new _ _ _
 have hb:=(hB.q hQZ).1
 have HQZ:=Lib.hid hQZ
 have c0:=hb.cell 0 rfl
 have c1:=hb.cell 1 rfl
 have c2:=hb.cell 2 rfl
 have c3:=hb.cell 3 rfl
 have c4:=hb.cell 4 rfl
 have c5:=hb.cell 5 rfl
 have c6:=hb.cell 6 rfl
 have c7:=hb.cell 7 rfl
 have HRV:Hid (recV r = .agg #[.string (Lm.bs r.nam),.string (Lm.bs r.pat),.string (Lm.bs r.sys),.string (Lm.bs r.dec),.string (Lm.bs r.grp),.string (Lm.bs r.min),.string (Lm.bs r.per),.string (Lm.bs r.cur)]):=Lib.hid rfl
 rw [HRV.out]
 generalize Lm.bs r.nam = s0 at *
 generalize Lm.bs r.pat = s1 at *
 generalize Lm.bs r.sys = s2 at *
 generalize Lm.bs r.dec = s3 at *
 generalize Lm.bs r.grp = s4 at *
 generalize Lm.bs r.min = s5 at *
 generalize Lm.bs r.per = s6 at *
 generalize Lm.bs r.cur = s7 at *
 go_enter Tryz.func48,Tryz.ntmps48
 go_upto_region 1 with fail
 rw [← hz]
 clear hz hb hB hQZ HRV
 have HW:=Lib.hid (show w.heap.size ≤ w.heap.size by omega)
 obtain ⟨B,hB⟩:∃ B,B = w.heap.size:=⟨_,rfl⟩
 have HWB:=Lib.hid (show w.heap.size ≤ B by omega)
 rw [← hB] at h2 ⊢
 clear hB HW
 have p0:=h2.cell 0 rfl
 have f0:=h2.free 0
 have p1:=h2.cell 1 rfl
 have f1:=h2.free 1
 have p2:=h2.cell 2 rfl
 have f2:=h2.free 2
 have p3:=h2.cell 3 rfl
 have f3:=h2.free 3
 have p4:=h2.cell 4 rfl
 have f4:=h2.free 4
 have p5:=h2.cell 5 rfl
 have f5:=h2.free 5
 have p6:=h2.cell 6 rfl
 have f6:=h2.free 6
 have p7:=h2.cell 7 rfl
 have f7:=h2.free 7
 have HFB:=Lib.hid ((((((((h2.set 0 (.string s0)).set 1 (.string s1)).set 2 (.string s2)).set 3 (.string s3)).set 4 (.string s4)).set 5 (.string s5)).set 6 (.string s6)).set 7 (.string s7))
 have HFQ:=Lib.hid (Q.setCell (Q.setCell (Q.setCell (Q.setCell (Q.setCell (Q.setCell (Q.setCell (Q.setCell HQZ.out (ad:=⟨B,0,none⟩) HWB.out (.string s0)) (ad:=⟨B,1,none⟩) HWB.out (.string s1)) (ad:=⟨B,2,none⟩) HWB.out (.string s2)) (ad:=⟨B,3,none⟩) HWB.out (.string s3)) (ad:=⟨B,4,none⟩) HWB.out (.string s4)) (ad:=⟨B,5,none⟩) HWB.out (.string s5)) (ad:=⟨B,6,none⟩) HWB.out (.string s6)) (ad:=⟨B,7,none⟩) HWB.out (.string s7))
 clear h2
 go_wp2_with fail
 refine ret_bk rfl Tryz.underlying64 (by exact infoLR) rfl HFB.out rfl ⟨?_,HFQ.out⟩
 rfl
end Ro
end Go.Proofs.YtghfdapfnoeanaaGreatDoor
namespace Go.Proofs.YtghfdapfnoeanaaGreatDoor
open Go.RowKit
namespace It
open Um Im Lo
set_option maxRecDepth 100000 in
theorem fldD (u:World) (n p s d g m pe c:ByteArray):(Instr.field 64 (.agg #[.string n,.string p,.string s,.string d,.string g,.string m,.string pe,.string c]) 3).run Tryz.prog u = .ok (.string d) u:=by
 unfold Instr.field
 rw [Sem.run_bind,run_underlying Tryz.underlying64 u]
 rfl
set_option maxRecDepth 100000 in
theorem fldG (u:World) (n p s d g m pe c:ByteArray):(Instr.field 64 (.agg #[.string n,.string p,.string s,.string d,.string g,.string m,.string pe,.string c]) 4).run Tryz.prog u = .ok (.string g) u:=by
 unfold Instr.field
 rw [Sem.run_bind,run_underlying Tryz.underlying64 u]
 rfl
set_option maxRecDepth 100000 in
theorem fldM (u:World) (n p s d g m pe c:ByteArray):(Instr.field 64 (.agg #[.string n,.string p,.string s,.string d,.string g,.string m,.string pe,.string c]) 5).run Tryz.prog u = .ok (.string m) u:=by
 unfold Instr.field
 rw [Sem.run_bind,run_underlying Tryz.underlying64 u]
 rfl
set_option maxRecDepth 100000 in
set_option maxHeartbeats 3200000 in
theorem affixes_any (g:Nat) (r:Lm.Rec) (X:Pt.Pat) (a b c d cl v:Value) (l:List Pb.E) (w:World) (hB:LB w g r X a b c d cl) (hv:Pb.LstP w v l) (hl:l.length ≤ 100000) :
  Calls Tryz.prog 109 #[.pointer (some ⟨g,0,none⟩),v] w fun e w'=>∃ x,e = .returned x ∧ OwnI 121 w' w.heap.size x (affI r l) ∧ Q w w':=by
 obtain ⟨n,hn⟩:∃ n,n = l.length:=⟨_,rfl⟩
 obtain ⟨va,vc,rfl,hnc,hcm⟩:=hv.form0 hn.symm
 have HV:=Lib.hid (fun u (q:Q w u) k (h:k < n)=>(hv.q q).cellOf hn.symm h)
 have hr:=fun u (q:Q w u)=>Ro.record_any g r X a b c d cl u (hB.q q)
 unfold recV at hr
 have HR:=Lib.hid hr
 clear hr
 have HT:=Lib.hid (fun k (h:k < n)=>affI_take r l k (by omega))
 have HTL:=Lib.hid (fun k (h:k ≤ n)=>show (affI r (l.take k)).length = k by rw [affI_len,List.length_take];omega)
 have HE:=Lib.hid (show affI r (l.take n) = affI r l by rw [hn,List.take_length])
 have HF:=Lib.hid (fun u=>fldM u (Lm.bs r.nam) (Lm.bs r.pat) (Lm.bs r.sys) (Lm.bs r.dec) (Lm.bs r.grp) (Lm.bs r.min) (Lm.bs r.per) (Lm.bs r.cur))
 have HAF:=Lib.hid (show ∀ k,affE r (l.getD k (false,[])) = if (l.getD k (false,[])).1 = true then (1,Lm.bs r.min,-1) else (0,Lm.bs (l.getD k (false,[])).2,-1) from fun _=>rfl)
 unfold maxLen at hcm
 rw [← hn] at hl
 clear hB hv hn
 generalize Lm.bs r.nam = s0 at *
 generalize Lm.bs r.pat = s1 at *
 generalize Lm.bs r.sys = s2 at *
 generalize Lm.bs r.dec = s3 at *
 generalize Lm.bs r.grp = s4 at *
 generalize Lm.bs r.min = s5 at *
 generalize Lm.bs r.per = s6 at *
 generalize Lm.bs r.cur = s7 at *
 go_enter Tryz.func109,Tryz.ntmps109
 go_wp2_with fail
 go_loopw [5,10] (fun x i wr=>∃ k:Nat,i = .int .i64 k ∧ k ≤ n ∧ OwnI 121 wr w.heap.size x (affI r (l.take k)) ∧ Q w wr) (fun _ i _=>n - (intOf i).toNat)
 case atStart=>exact ⟨0,rfl,by omega,OwnI.nil _ _ _,Q.refl _⟩
 case round =>
  obtain ⟨k,rfl,hk,ho,hq⟩:=hrel
  by_cases hlt:k < n
  ·obtain ⟨gg,off,cap,hvv,hg,_,_,c1,c2⟩:=HV.out wr hq k hlt
   cases hvv
   have HTK:=Lib.hid (HT.out k hlt)
   rw [HAF.out] at HTK
   have hlk:=HTL.out k hk
   generalize l.getD k (false,[]) = e0' at *
   obtain ⟨eb,et⟩:=e0'
   dsimp only at c1 c2 HTK
   have HKB:=Lib.hid hk
   unfold Pb.txt at c2
   obtain ⟨T,hT⟩:∃ T,T = (⟨et.toArray⟩:ByteArray):=⟨_,rfl⟩
   rw [← hT] at c2
   obtain ⟨z,hz⟩:∃ y,y = wr.alloc (.cells #[.bool eb,.string T] 161):=⟨_,rfl⟩
   have HQZ:=Lib.hid (show Q w z by rw [hz];exact hq.alloc _)
   have hq1:Q wr z:=by rw [hz];exact (Q.refl wr).alloc _
   have HBX:=Lib.hid (show Bk z wr.heap.size 161 [.bool eb,.string T] by rw [hz];exact Bk.new _ _ _)
   have HOZ:=Lib.hid (ho.q hq1)
   have hol:=ho.lst
   obtain ⟨xa,xc,rfl,_,_⟩:=hol.form0 hlk
   have HB0:=Lib.hid hq.le
   clear ho hol hq hq1
   have x0:=HBX.out.cell 0 rfl
   have x1:=HBX.out.cell 1 rfl
   generalize hbX:wr.heap.size = bX at *
   cases eb
   ·have HK2:=Lib.hid (show affI r (l.take (k + 1)) = affI r (l.take k) ++ [(0,T,-1)] by rw [HTK.out,hT];rfl)
    clear HTK hT
    have hle:=HQZ.out.le
    go_upto_region 5 with fail
    rw [← hz]
    clear hz hbX c1 c2
    go_wp2_with (at_builtin;refine Im.push elP HOZ.out rfl _ _ rfl 0 T (-1) (by rfl) (by rfl) (by omega) hle ?_)
    intro v' w3 ho3 hg3 hat3
    have HQ3:=Lib.hid (HQZ.out.grown hg3 (fun j h=>(HOZ.out.lt j h).1))
    have HO3:=Lib.hid (show OwnI 121 w3 w.heap.size v' (affI r (l.take (k + 1))) by rw [HK2.out];exact ho3)
    clear ho3 hg3 hat3
    go_wp2_with fail
    exact ⟨⟨k + 1,by go_num,by omega,HO3.out,HQ3.out⟩,by simp [intOf];omega⟩
   ·have HK2:=Lib.hid (show affI r (l.take (k + 1)) = affI r (l.take k) ++ [(1,s5,-1)] by rw [HTK.out];rfl)
    clear HTK hT
    have hle:=HQZ.out.le
    have HRZ:=Lib.hid (HR.out z HQZ.out)
    go_upto_region 5 with fail
    rw [← hz]
    clear hz hbX c1 c2
    go_wp2_with fail
    refine HRZ.out.mono ?_
    rintro e w2 ⟨rfl,hq2⟩
    have HQ2:=Lib.hid (HQZ.out.trans hq2)
    have HO2:=Lib.hid (HOZ.out.q hq2)
    have hle2:=HQ2.out.le
    have hf:=HF.out w2
    clear hq2 hle x0 x1
    go_wp2_with (at_builtin;refine Im.push elP HO2.out rfl _ _ rfl 1 s5 (-1) (by rfl) (by rfl) (by omega) hle2 ?_)
    intro v' w3 ho3 hg3 hat3
    have HQ3:=Lib.hid (HQ2.out.grown hg3 (fun j h=>(HO2.out.lt j h).1))
    have HO3:=Lib.hid (show OwnI 121 w3 w.heap.size v' (affI r (l.take (k + 1))) by rw [HK2.out];exact ho3)
    clear ho3 hg3 hat3 hf
    go_wp2_with fail
    exact ⟨⟨k + 1,by go_num,by omega,HO3.out,HQ3.out⟩,by simp [intOf];omega⟩
  ·obtain rfl:k = n:=by omega
   rw [HE.out] at ho
   have HO:=Lib.hid ho
   have HQ:=Lib.hid hq
   clear ho hq
   go_wp2_with fail
   go_ret
   exact ⟨_,rfl,HO.out,HQ.out⟩
end It
end Go.Proofs.YtghfdapfnoeanaaGreatDoor
