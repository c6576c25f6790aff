/- How many bytes affixes have, and how many a text has at most, as the document's own answers reckon it. (and more) -/
import Derived.Test.YtghfdapfnoeanaaGreatDoorR00
import Derived.Test.YtghfdapfnoeanaaGreatDoorR02
import Derived.Test.YtghfdapfnoeanaaGreatDoorR01
import Derived.Test.YtghfdapfnoeanaaGreatDoorR06
import Derived.Test.YtghfdapfnoeanaaGreatDoorR08
import Derived.Test.YtghfdapfnoeanaaGreatDoorR37
import Derived.Test.YtghfdapfnoeanaaGreatDoorR39
import Derived.Test.YtghfdapfnoeanaaGreatDoorR38
import Derived.Test.YtghfdapfnoeanaaGreatDoorR12
import Derived.Test.YtghfdapfnoeanaaGreatDoorR04
import Derived.Test.YtghfdapfnoeanaaGreatDoorR36
import Derived.Test.YtghfdapfnoeanaaGreatDoorR25
import Derived.Test.YtghfdapfnoeanaaGreatDoorR22
import Derived.Test.YtghfdapfnoeanaaGreatDoorR28
import Derived.Test.YtghfdapfnoeanaaGreatDoorR30
import Derived.Test.YtghfdapfnoeanaaGreatDoorR40
import Derived.Test.YtghfdapfnoeanaaGreatDoorRows
import Derived.WalkLawsBesides
import Derived.Laws.Rows
import Derived.Laws.Tables
import Derived.Deep.RegionHeld
import Derived.Deep.Cut
import Derived.Deep.DeepCutAuto
import Derived.Deep.QuietTactic
import Derived.BigQuiet
set_option linter.unusedVariables false
set_option linter.unusedSimpArgs false
namespace Go.Proofs.YtghfdapfnoeanaaGreatDoor
open Go.RowKit
namespace Vr
open Um Im Vm Lo Ro
theorem wrapI {x:Int} (h0:-9223372036854775808 ≤ x) (h1:x ≤ 9223372036854775807):IntKind.i64.wrap x = x:=IntWalk.i64_in _ (by omega)
theorem sm_le (l:List Pb.E) (k:Nat):sm (l.take k) ≤ sm l:=by
 have h:sm l = sm (l.take k) + sm (l.drop k):=by
  unfold sm
  rw [← List.sum_append,← List.map_append,List.take_append_drop]
 omega
set_option maxRecDepth 100000 in
set_option maxHeartbeats 3200000 in
theorem affixes_any (r:Lm.Rec) (X:Pt.Pat) (a b c d:Value) (g:Bool) (w:World) (hO:It.LOk r X) (hL:Ro.LL w X a b c d) :
  Calls Tryz.prog 51 #[lV r X a b c d,.bool g] w fun e w'=>e = .returned (.int .i64 (afx r (parP r (Ro.ahd g X)) (parP r (Ro.bhd g X)):Nat)) ∧ Q w w':=by
 have HRA:=Lib.hid (fun u (q:Q w u)=>Ro.raround_any g r X a b c d u hO.ok (hL.q q))
 have hE:=afx_sm hO.ok g
 have h1:=(Ro.around_fact hO.ok g).2.2.1
 have h2:=(Ro.around_fact hO.ok g).2.2.2
 have hbA:=(Vw.wds_bd hO g).1
 have hbB:=(Vw.wds_bd hO g).2
 rw [wds_sm] at hbA hbB
 have hmn:(Lm.bs r.min).size = r.min.length:=Lm.bs_size _
 have hml:r.min.length ≤ 16:=(sym_pln hO.ok.min).2
 rw [← hmn] at hE hml
 generalize parP r (Ro.ahd g X) = A at *
 generalize parP r (Ro.bhd g X) = B at *
 rw [hE]
 have HTA:=Lib.hid (sm_take A)
 have HTB:=Lib.hid (sm_take B)
 have HLA:=Lib.hid (fun k=>Nat.le_trans (sm_le A k) (show sm A ≤ 192 by omega))
 have HLB:=Lib.hid (fun k=>Nat.le_trans (sm_le B k) (show sm B ≤ 192 by omega))
 obtain ⟨na,hna⟩:∃ n,n = A.length:=⟨_,rfl⟩
 obtain ⟨nb,hnb⟩:∃ n,n = B.length:=⟨_,rfl⟩
 have HNA:=Lib.hid hna.symm
 have HNB:=Lib.hid hnb.symm
 have HEA:=Lib.hid (show sm (A.take na) = sm A by rw [hna,List.take_length])
 have HEB:=Lib.hid (show sm (B.take nb) = sm B by rw [hnb,List.take_length])
 have HZA:=Lib.hid (show sm (A.take 0) = 0 from rfl)
 have HZB:=Lib.hid (show sm (B.take 0) = 0 from rfl)
 have hna3:na ≤ 3:=by omega
 have hnb3:nb ≤ 3:=by omega
 rw [← HEA.out,← HEB.out]
 obtain ⟨a1,a2,rfl⟩:=hL.1.shape
 obtain ⟨b1,b2,rfl⟩:=hL.2.1.shape
 obtain ⟨c1,c2,rfl⟩:=hL.2.2.1.shape
 obtain ⟨d1,d2,rfl⟩:=hL.2.2.2.shape
 clear hL hO hE hbA hbB h1 h2 hmn hna hnb
 unfold lV at HRA ⊢
 generalize X.pre.length = n1 at *
 generalize X.suf.length = n2 at *
 generalize X.npre.length = n3 at *
 generalize X.nsuf.length = n4 at *
 generalize X.pr = p0 at *
 generalize X.se = p1 at *
 generalize X.mi = p2 at *
 generalize X.mf = p3 at *
 generalize X.xf = p4 at *
 generalize Lm.bs r.nam = s0 at *
 generalize Lm.bs r.pat = s1 at *
 generalize Lm.bs r.sys = s2 at *
 generalize Lm.bs r.dec = s3 at *
 generalize Lm.bs r.grp = s4 at *
 generalize Lm.bs r.min = s5 at *
 generalize Lm.bs r.per = s6 at *
 generalize Lm.bs r.cur = s7 at *
 obtain ⟨z,hz⟩:∃ z,z = w.alloc (.cells #[.string s0,.string s1,.string s2,.string s3,.string s4,.string s5,.string s6,.string s7,.slice a1 n1 a2,.slice b1 n2 b2,.slice c1 n3 c2,.slice d1 n4 d2,.int .i64 p0,.int .i64 p1,.int .i64 p2,.int .i64 p3,.int .i64 p4] 34):=⟨_,rfl⟩
 have HQZ:=Lib.hid (show Q w z by rw [hz];exact (Q.refl w).alloc _)
 have HLZ:=Lib.hid (show Bk z w.heap.size 34 [.string s0,.string s1,.string s2,.string s3,.string s4,.string s5,.string s6,.string s7,.slice a1 n1 a2,.slice b1 n2 b2,.slice c1 n3 c2,.slice d1 n4 d2,.int .i64 p0,.int .i64 p1,.int .i64 p2,.int .i64 p3,.int .i64 p4] by rw [hz];exact Bk.new _ _ _)
 obtain ⟨bL,hbL⟩:∃ b,b = w.heap.size:=⟨_,rfl⟩
 rw [← hbL] at HLZ
 obtain ⟨m0,hm0⟩:∃ m,m = (if g = true then s5.size else 0):=⟨_,rfl⟩
 have hm0b:m0 ≤ 16:=by rw [hm0];cases g <;> simp <;> omega
 rw [← hm0]
 have HM0:=Lib.hid hm0
 clear hm0
 go_enter Tryz.func51,Tryz.ntmps51
 go_upto_region 1 with fail
 rw [← hz,← hbL]
 clear hz hbL
 go_wp2_with (refine wpList_load_row (by rfl) 34 _ (by rfl) bL (by rfl) 34 #[.string s0,.string s1,.string s2,.string s3,.string s4,.string s5,.string s6,.string s7,.slice a1 n1 a2,.slice b1 n2 b2,.slice c1 n3 c2,.slice d1 n4 d2,.int .i64 p0,.int .i64 p1,.int .i64 p2,.int .i64 p3,.int .i64 p4] (0,0) _ HLZ.out Tryz.underlying34 rfl (by exact infoL) ?_)
 refine (HRA.out _ HQZ.out).mono ?_
 rintro e w1 ⟨u1,u2,rfl,hu1,hu2,hq1⟩
 have HVA:=Lib.hid (fun u (q:Q w1 u) k (h:k < na)=>(hu1.q q).cellOf HNA.out h)
 have HVB:=Lib.hid (fun u (q:Q w1 u) k (h:k < nb)=>(hu2.q q).cellOf HNB.out h)
 obtain ⟨ua,uc,rfl,_,_⟩:=hu1.form0 HNA.out
 obtain ⟨ub,ud,rfl,_,_⟩:=hu2.form0 HNB.out
 have HQ1:=Lib.hid (HQZ.out.trans hq1)
 have HX1:=Lib.hid (HLZ.out.q hq1)
 clear hu1 hu2 hq1
 have x5:=HX1.out.cell 5 rfl
 go_upto_if 16 with fail
 go_cut [7] (fun v wx=>v = .int .i64 (m0:Nat) ∧ wx = w1)
 case first =>
  cases g
  ·have hm:m0 = 0:=by rw [HM0.out];rfl
   subst hm
   go_wp2_with fail
   go_meet
   exact ⟨rfl,rfl⟩
  ·have hm:m0 = s5.size:=by rw [HM0.out];rfl
   subst hm
   go_wp2_with fail
   go_meet
   exact ⟨rfl,rfl⟩
 case rest =>
  obtain ⟨rfl,hwc⟩:=hcut
  rw [hwc]
  clear hwc x5
  go_wp2_with fail
  go_loopw [7,8] (fun v i wr=>∃ k:Nat,i = .int .i64 k ∧ k ≤ na ∧ v = .int .i64 ((m0 + sm (A.take k):Nat):Int) ∧ Q w1 wr) (fun _ i _=>na - (intOf i).toNat)
  case atStart=>exact ⟨0,rfl,by omega,by rw [HZA.out];rfl,Q.refl _⟩
  case round =>
   obtain ⟨k,rfl,hk,rfl,hq⟩:=hrel
   by_cases hlt:k < na
   ·obtain ⟨gg,o1,cap,hvv,hg,_,hcap,y1,y2⟩:=HVA.out wr hq k hlt
    cases hvv
    unfold maxLen at hcap
    have ht:=HTA.out k (by rw [HNA.out];exact hlt)
    have hb1:=HLA.out (k + 1)
    have hb0:=HLA.out k
    generalize A.getD k (false,[]) = e0' at *
    obtain ⟨eb,et⟩:=e0'
    dsimp only at y1 y2 ht
    unfold Pb.txt at y2
    have htz:(⟨et.toArray⟩:ByteArray).size = et.length:=by simp [ByteArray.size]
    rw [← htz] at ht
    generalize (⟨et.toArray⟩:ByteArray) = T at *
    obtain ⟨M2,hM2⟩:∃ m,m = m0 + sm (A.take (k + 1)):=⟨_,rfl⟩
    obtain ⟨M,hM⟩:∃ m,m = m0 + sm (A.take k):=⟨_,rfl⟩
    rw [← hM]
    have hsum:(M:Int) + (T.size:Int) = (M2:Int):=by omega
    have hle:(M2:Int) ≤ 1000000:=by omega
    have HM2:=Lib.hid hM2.symm
    clear ht hb1 hb0 hM2 hM htz
    go_wp2_with fail
    exact ⟨⟨k + 1,by go_num,by omega,by rw [HM2.out],hq⟩,by simp [intOf];omega⟩
   ·obtain rfl:k = na:=by omega
    have hbN:=HLA.out k
    obtain ⟨M0,hM0⟩:∃ m,m = m0 + sm (A.take k):=⟨_,rfl⟩
    rw [← hM0]
    have hM0b:M0 ≤ 1000:=by omega
    have HMZ:=Lib.hid hM0
    clear hM0
    have HVB2:=Lib.hid (fun u (q:Q wr u) j h=>HVB.out u (hq.trans q) j h)
    have HQW:=Lib.hid (HQ1.out.trans hq)
    clear hq HVB
    go_upto_region 9 with fail
    go_wp2_with fail
    go_loopw [7,9] (fun v i wx=>∃ j:Nat,i = .int .i64 j ∧ j ≤ nb ∧ v = .int .i64 ((M0 + sm (B.take j):Nat):Int) ∧ Q wr wx) (fun _ i _=>nb - (intOf i).toNat)
    case atStart=>exact ⟨0,rfl,by omega,by rw [HZB.out];rfl,Q.refl _⟩
    case round =>
     obtain ⟨j,rfl,hj,rfl,hqx⟩:=hrel
     by_cases hlj:j < nb
     ·obtain ⟨gg,o1,cap,hvv,hg,_,hcap,y1,y2⟩:=HVB2.out _ hqx j hlj
      cases hvv
      unfold maxLen at hcap
      have ht:=HTB.out j (by rw [HNB.out];exact hlj)
      have hb1:=HLB.out (j + 1)
      have hb0:=HLB.out j
      generalize B.getD j (false,[]) = e0' at *
      obtain ⟨eb,et⟩:=e0'
      dsimp only at y1 y2 ht
      unfold Pb.txt at y2
      have htz:(⟨et.toArray⟩:ByteArray).size = et.length:=by simp [ByteArray.size]
      rw [← htz] at ht
      generalize (⟨et.toArray⟩:ByteArray) = T at *
      obtain ⟨M2,hM2⟩:∃ m,m = M0 + sm (B.take (j + 1)):=⟨_,rfl⟩
      obtain ⟨M,hM⟩:∃ m,m = M0 + sm (B.take j):=⟨_,rfl⟩
      rw [← hM]
      have hsum:(M:Int) + (T.size:Int) = (M2:Int):=by omega
      have hle:(M2:Int) ≤ 1000000:=by omega
      have HM2:=Lib.hid hM2.symm
      clear ht hb1 hb0 hM2 hM htz
      go_wp2_with fail
      exact ⟨⟨j + 1,by go_num,by omega,by rw [HM2.out],hqx⟩,by simp [intOf];omega⟩
     ·obtain rfl:j = nb:=by omega
      go_wp2_with fail
      go_ret
      refine ⟨?_,HQW.out.trans hqx⟩
      rw [← HMZ.out]
      rfl
end Vr
end Go.Proofs.YtghfdapfnoeanaaGreatDoor
