/- The document's own items of a draft. (and more) -/
import Derived.Test.YtghfdapfnoeanaaGreatDoorR00
import Derived.Test.YtghfdapfnoeanaaGreatDoorR02
import Derived.Test.YtghfdapfnoeanaaGreatDoorR01
import Derived.Test.YtghfdapfnoeanaaGreatDoorR06
import Derived.Test.YtghfdapfnoeanaaGreatDoorR08
import Derived.Test.YtghfdapfnoeanaaGreatDoorR32
import Derived.Test.YtghfdapfnoeanaaGreatDoorR04
import Derived.Test.YtghfdapfnoeanaaGreatDoorR36
import Derived.Test.YtghfdapfnoeanaaGreatDoorR25
import Derived.Test.YtghfdapfnoeanaaGreatDoorR33
import Derived.Test.YtghfdapfnoeanaaGreatDoorR28
import Derived.Test.YtghfdapfnoeanaaGreatDoorR30
import Derived.Test.YtghfdapfnoeanaaGreatDoorR37
import Derived.Test.YtghfdapfnoeanaaGreatDoorR07
import Derived.Test.YtghfdapfnoeanaaGreatDoorRows
import Derived.Deep.RegionHeld
import Derived.Deep.QuietTactic
import Derived.BigQuiet
set_option linter.unusedVariables false
set_option linter.unusedSimpArgs false
namespace Go.Proofs.YtghfdapfnoeanaaGreatDoor
open Go.RowKit
namespace It
open Um Im Lo Ro
theorem rdigit_ok {r:Lm.Rec} (h:0 ≤ Sm.nz r.sys) (x:Int) (h0:0 ≤ x) (h9:x ≤ 9) (u:World):Calls Tryz.prog 36 #[.string (Lm.bs r.sys),.int .i64 x] u fun e w'=>e = .returned (.string (Lm.dgt r x.toNat)) ∧ Q u w':=by
 have h1:=Sr.digit_any (Lm.bs r.sys) x u h0 h9
 rw [Lm.bs_list] at h1
 rw [Ro.dgt_enc h x.toNat (by omega),show ((x.toNat:Nat):Int) = x from by omega]
 exact h1
set_option maxRecDepth 100000 in
set_option maxHeartbeats 8000000 in
theorem ritems_any (r:Lm.Rec) (X:Pt.Pat) (a b c d:Value) (g s:Bool) (e1 e2:Option Addr) (m1 m2 f1 f2:Nat) (I F:List Int) (w:World) (hO:Lm.Ok r X) (hL:Ro.LL w X a b c d) (hi:Lst w (.slice e1 m1 f1) I) (hf:Lst w (.slice e2 m2 f2) F) (k1:I.length = m1) (k2:F.length = m2) (l1:m1 ≤ 1000) (l2:m2 ≤ 1000) (hm:Tm.may ⟨g,I,s,F⟩ = true) (x1:X.pr ≤ 1000) (x2:X.se ≤ 1000) :
  Calls Tryz.prog 17 #[lV r X a b c d,.agg #[.bool g,.slice e1 m1 f1,.bool s,.slice e2 m2 f2]] w fun e w'=>∃ x,e = .returned x ∧ OwnI 72 w' w.heap.size x (itm r X.pr X.se ⟨g,I,s,F⟩ (parP r (Ro.ahd g X)) (parP r (Ro.bhd g X))) ∧ Q w w':=by
 have HAR:=Lib.hid (fun u (q:Q w u)=>raround_any g r X a b c d u hO (hL.q q))
 have HPA:=Lib.hid (fun u (q:Q w u) v l (hv:Pb.LstP u v l) (hl:l.length ≤ 100000)=>rparts_any r X a b c d v l u (hL.q q) hv hl)
 have hpf:=Ro.around_fact hO g
 have HAT:=Lib.hid (fun u (q:Q w u)=>Tr.atoms_any g s e1 e2 m1 m2 f1 f2 I F u (hi.q q) (hf.q q) k1 k2 (by omega) (by omega))
 have HIT:=Lib.hid (show itm r X.pr X.se ⟨g,I,s,F⟩ (parP r (Ro.ahd g X)) (parP r (Ro.bhd g X)) = affI r (parP r (Ro.ahd g X)) ++ rowI r X.pr X.se (m1:Int) (Tm.ats ⟨g,I,s,F⟩) (Tm.ats ⟨g,I,s,F⟩).length ++ affI r (parP r (Ro.bhd g X)) by
  rw [itm_mid,← row_all r X.pr X.se _ hm,k1])
 have hla:(Tm.ats ⟨g,I,s,F⟩).length = m1 + (Tm.sep s).length + m2:=by rw [Tm.ats_len];dsimp only;rw [k1,k2]
 have hsl:=Tm.sep_len s
 have hE:I ++ Tm.sep s ++ F = Tm.ats ⟨g,I,s,F⟩:=rfl
 rw [hE] at HAT
 have hoa:=Tm.okA_ats hm
 have hsy:=hO.sys
 have HDG:=Lib.hid (fun x (h0:0 ≤ x) (h9:x ≤ 9) u=>rdigit_ok (r:=r) hsy x h0 h9 u)
 have HEN:=Lib.hid (fun l u (l0:-1000000 ≤ l) (l1:l ≤ 1000000)=>It.rends_any l X.pr X.se u l0 l1 (by omega) (by omega))
 have HRS:=Lib.hid (fun k=>rowI_succ r X.pr X.se (m1:Int) (Tm.ats ⟨g,I,s,F⟩) k)
 have HRZ:=Lib.hid (rowI_zero r X.pr X.se (m1:Int) (Tm.ats ⟨g,I,s,F⟩))
 have HRL:=Lib.hid (fun k=>rowI_len r X.pr X.se (m1:Int) (Tm.ats ⟨g,I,s,F⟩) k)
 have HST:=Lib.hid (show ∀ k,stpI r X.pr X.se (m1:Int) (Tm.ats ⟨g,I,s,F⟩) k = if (Tm.ats ⟨g,I,s,F⟩).getD k 0 = 10 then [(4,Lm.bs r.dec,(k:Int))] else dgE r ((Tm.ats ⟨g,I,s,F⟩).getD k 0) k :: (if endB ((m1:Int) - 1 - k) X.pr X.se = true then [(3,Lm.bs r.grp,-1)] else []) from fun _=>rfl)
 have HOA:=Lib.hid (show ∀ k,k < (Tm.ats ⟨g,I,s,F⟩).length → 0 ≤ (Tm.ats ⟨g,I,s,F⟩).getD k 0 ∧ (Tm.ats ⟨g,I,s,F⟩).getD k 0 ≤ 10 from fun k hk=>by
  rw [List.getD_eq_getElem?_getD,List.getElem?_eq_getElem hk]
  exact (Tm.okA_iff _).1 hoa _ (List.getElem_mem hk))
 have HAL:=Lib.hid (affI_len r (parP r (Ro.ahd g X)))
 obtain ⟨N,hN⟩:∃ N,N = m1 + (Tm.sep s).length + m2:=⟨_,rfl⟩
 have hNb:N ≤ 2001:=by omega
 rw [← hN] at hla HAT
 rw [hla] at HIT HOA
 have HLA:=Lib.hid hla
 clear hN hsl hE hoa hsy hla hm hi hf k1 k2 x1 x2
 generalize Tm.ats ⟨g,I,s,F⟩ = L at *
 obtain ⟨RES,hRES⟩:∃ y,y = itm r X.pr X.se ⟨g,I,s,F⟩ (parP r (Ro.ahd g X)) (parP r (Ro.bhd g X)):=⟨_,rfl⟩
 rw [← hRES] at HIT ⊢
 clear hRES
 generalize parP r (Ro.ahd g X) = P1 at *
 generalize parP r (Ro.bhd g X) = P2 at *
 have hp1:=hpf.2.2.1
 have hp2:=hpf.2.2.2
 have HP1:=Lib.hid hp1
 have HP2:=Lib.hid hp2
 clear hpf
 obtain ⟨a1,a2,rfl⟩:=hL.1.shape
 obtain ⟨b1,b2,rfl⟩:=hL.2.1.shape
 obtain ⟨c1,c2,rfl⟩:=hL.2.2.1.shape
 obtain ⟨d1,d2,rfl⟩:=hL.2.2.2.shape
 clear hL hO hp1 hp2
 unfold lV at *
 generalize X.pre.length = n1 at *
 generalize X.suf.length = n2 at *
 generalize X.npre.length = n3 at *
 generalize X.nsuf.length = n4 at *
 generalize rowI r X.pr X.se (m1:Int) L = RW at *
 generalize stpI r X.pr X.se (m1:Int) L = SW at *
 generalize X.pr = p0 at *
 generalize X.se = p1 at *
 generalize X.mi = p2 at *
 generalize X.mf = p3 at *
 generalize X.xf = p4 at *
 generalize Lm.bs r.nam = s0 at *
 generalize Lm.bs r.pat = s1 at *
 generalize Lm.bs r.sys = s2 at *
 generalize Lm.bs r.dec = s3 at *
 generalize Lm.bs r.grp = s4 at *
 generalize Lm.bs r.min = s5 at *
 generalize Lm.bs r.per = s6 at *
 generalize Lm.bs r.cur = s7 at *
 obtain ⟨A1,hA1⟩:∃ y,y = affI r P1:=⟨_,rfl⟩
 obtain ⟨A2,hA2⟩:∃ y,y = affI r P2:=⟨_,rfl⟩
 rw [← hA1,← hA2] at HIT
 rw [← hA1] at HAL
 have HAE:=Lib.hid hA1.symm
 have HA2:=Lib.hid hA2.symm
 clear hA1 hA2
 obtain ⟨y,hy⟩:∃ y,y = w.alloc (.cells #[.string s0,.string s1,.string s2,.string s3,.string s4,.string s5,.string s6,.string s7,.slice a1 n1 a2,.slice b1 n2 b2,.slice c1 n3 c2,.slice d1 n4 d2,.int .i64 p0,.int .i64 p1,.int .i64 p2,.int .i64 p3,.int .i64 p4] 34):=⟨_,rfl⟩
 have hqy:Q w y:=by rw [hy];exact (Q.refl w).alloc _
 have hby:Bk y w.heap.size 34 [.string s0,.string s1,.string s2,.string s3,.string s4,.string s5,.string s6,.string s7,.slice a1 n1 a2,.slice b1 n2 b2,.slice c1 n3 c2,.slice d1 n4 d2,.int .i64 p0,.int .i64 p1,.int .i64 p2,.int .i64 p3,.int .i64 p4]:=by rw [hy];exact Bk.new _ _ _
 obtain ⟨z,hz⟩:∃ z,z = y.alloc (.cells #[.bool g,.slice e1 m1 f1,.bool s,.slice e2 m2 f2] 26):=⟨_,rfl⟩
 have hqz:Q y z:=by rw [hz];exact (Q.refl y).alloc _
 have HQZ:=Lib.hid (hqy.trans hqz)
 have HBZ:=Lib.hid (hby.q hqz)
 have hdz:Bk z y.heap.size 26 [.bool g,.slice e1 m1 f1,.bool s,.slice e2 m2 f2]:=by rw [hz];exact Bk.new _ _ _
 have hsy:y.heap.size = w.heap.size + 1:=by rw [hy];simp
 rw [hsy] at hdz
 have HDZ:=Lib.hid hdz
 have hz2:z = (w.alloc (.cells #[.string s0,.string s1,.string s2,.string s3,.string s4,.string s5,.string s6,.string s7,.slice a1 n1 a2,.slice b1 n2 b2,.slice c1 n3 c2,.slice d1 n4 d2,.int .i64 p0,.int .i64 p1,.int .i64 p2,.int .i64 p3,.int .i64 p4] 34)).alloc (.cells #[.bool g,.slice e1 m1 f1,.bool s,.slice e2 m2 f2] 26):=by rw [hz,hy]
 clear hqy hby hqz hdz hsy hz hy
 go_enter Tryz.func17,Tryz.ntmps17
 go_upto_region 1 with fail
 rw [← hz2]
 clear hz2
 obtain ⟨bz,hbz⟩:∃ b,b = w.heap.size:=⟨_,rfl⟩
 obtain ⟨bd,hbd⟩:∃ b,b = w.heap.size + 1:=⟨_,rfl⟩
 rw [← hbz] at HBZ
 rw [← hbd] at HDZ
 rw [← hbd,← hbz]
 clear hbz hbd
 have x0:=HDZ.out.cell 0 rfl
 go_wp2_with (refine wpList_load_row (by rfl) 34 _ (by rfl) bz (by rfl) 34 #[.string s0,.string s1,.string s2,.string s3,.string s4,.string s5,.string s6,.string s7,.slice a1 n1 a2,.slice b1 n2 b2,.slice c1 n3 c2,.slice d1 n4 d2,.int .i64 p0,.int .i64 p1,.int .i64 p2,.int .i64 p3,.int .i64 p4] (0,0) _ HBZ.out Tryz.underlying34 rfl (by exact infoL) ?_)
 refine (HAR.out _ HQZ.out).mono ?_
 rintro e w1 ⟨q1,q2,rfl,hu1,hu2,hq1⟩
 obtain ⟨qa,qc,rfl,_,_⟩:=hu1.shape2
 obtain ⟨qb,qd,rfl,_,_⟩:=hu2.shape2
 have HU1:=Lib.hid hu1
 have HU2:=Lib.hid hu2
 have HQ1:=Lib.hid (HQZ.out.trans hq1)
 have HBZ1:=Lib.hid (HBZ.out.q hq1)
 have HDZ1:=Lib.hid (HDZ.out.q hq1)
 have HQZ1:=Lib.hid hq1
 clear hu1 hu2 hq1 x0
 have hpp1:=HP1.out
 have hpp2:=HP2.out
 go_wp2_with (refine wpList_load_row (by rfl) 34 _ (by rfl) bz (by rfl) 34 #[.string s0,.string s1,.string s2,.string s3,.string s4,.string s5,.string s6,.string s7,.slice a1 n1 a2,.slice b1 n2 b2,.slice c1 n3 c2,.slice d1 n4 d2,.int .i64 p0,.int .i64 p1,.int .i64 p2,.int .i64 p3,.int .i64 p4] (0,0) _ HBZ1.out Tryz.underlying34 rfl (by exact infoL) ?_)
 refine (HPA.out _ HQ1.out _ _ HU1.out (by omega)).mono ?_
 rintro e w2 ⟨qx,rfl,hx2,hq2⟩
 rw [HAE.out] at hx2
 have HX2:=Lib.hid hx2
 have HQ2:=Lib.hid (HQ1.out.trans hq2)
 have HQ12:=Lib.hid hq2
 have HQZ2:=Lib.hid (HQZ1.out.trans hq2)
 have HDZ2:=Lib.hid (HDZ1.out.q hq2)
 obtain ⟨M1,hM1⟩:∃ m,m = w1.heap.size:=⟨_,rfl⟩
 rw [← hM1] at hx2
 have HM1:=Lib.hid hM1
 have HZM1:=Lib.hid (show z.heap.size ≤ M1 by rw [hM1];exact HQZ1.out.le)
 have HXB:=Lib.hid hx2
 obtain ⟨xa,xc,rfl⟩:=hx2.shape
 clear hx2 hq2 hM1 HU1
 have d0:=HDZ2.out.cell 0 rfl
 have d1:=HDZ2.out.cell 1 rfl
 have d2:=HDZ2.out.cell 2 rfl
 have d3:=HDZ2.out.cell 3 rfl
 go_wp2_with fail
 refine (HAT.out _ HQ2.out).mono ?_
 rintro e w3 ⟨ta,tc,rfl,ht3,hq3⟩
 clear d0 d1 d2 d3
 obtain ⟨M2,hM2⟩:∃ m,m = w2.heap.size:=⟨_,rfl⟩
 have HM23:=Lib.hid (show M2 + 0 ≤ w3.heap.size by rw [hM2];exact hq3.le)
 rw [← hM2] at ht3
 have HQ3:=Lib.hid (HQ2.out.trans hq3)
 have HQ23:=Lib.hid hq3
 have HQZ3:=Lib.hid (HQZ2.out.trans hq3)
 have HZM:=Lib.hid (show M1 ≤ w3.heap.size by rw [HM1.out];exact Nat.le_trans HQ12.out.le HQ23.out.le)
 have HX3:=Lib.hid (HXB.out.q hq3)
 have HXR:=Lib.hid (show ∀ j,(Value.slice xa (A1.length) xc).ownBlock = some j → j < M2 ∨ w3.heap.size ≤ j from fun j h=>.inl (by rw [hM2];exact (HX2.out.lt j h).2))
 have HTV:=Lib.hid (fun u (q:Gap M1 M2 w3 u) k (h:k < N)=>((ht3.gap q (fun j hj=>.inr (by have:=(ht3.lt j hj).1;omega))).lst).cellOf HLA.out h)
 have htc:=ht3.lst.form0 HLA.out
 obtain ⟨_,_,hv,htn,htm⟩:=htc
 cases hv
 have HBG:=Lib.hid (fun u (q:Gap M1 M2 w3 u)=>bk_gap (HBZ.out.q HQZ3.out) q (.inl (Nat.lt_of_lt_of_le HBZ.out.lt HZM1.out)))
 have HDG2:=Lib.hid (fun u (q:Gap M1 M2 w3 u)=>bk_gap (HDZ.out.q HQZ3.out) q (.inl (Nat.lt_of_lt_of_le HDZ.out.lt HZM1.out)))
 unfold maxLen at htm
 clear ht3 hq3 hM2 HBZ1 HDZ1 HDZ2 HQ1 HQ2 HQZ1 HQZ2 HX2 HXB
 go_wp2_with fail
 go_loopw [7,9] (fun x i wr=>∃ k:Nat,i = .int .i64 k ∧ k ≤ N ∧ OwnI 72 wr M1 x (A1 ++ RW k) ∧ Gap M1 M2 w3 wr ∧ (∀ j,x.ownBlock = some j → j < M2 ∨ w3.heap.size ≤ j)) (fun _ i _=>N - (intOf i).toNat)
 case atStart=>exact ⟨0,rfl,by omega,by rw [HRZ.out,List.append_nil];exact HX3.out,Gap.refl _ _ _,HXR.out⟩
 case round =>
  obtain ⟨k,rfl,hk,ho,hgp,hrow⟩:=hrel
  have hrl:=HRL.out k
  have hol:=ho.lst
  have HG:=Lib.hid hgp
  have HROW:=Lib.hid hrow
  obtain ⟨ol,hol2⟩:∃ n,n = (A1 ++ RW k).length:=⟨_,rfl⟩
  have hob:ol ≤ 10000:=by rw [hol2,List.length_append,HAL.out];have:=HP1.out;omega
  obtain ⟨oa,oc,rfl,_,_⟩:=hol.form0 hol2.symm
  have HOL:=Lib.hid hol2
  have HO:=Lib.hid ho
  have hle:M1 ≤ wr.heap.size:=Nat.le_trans HZM.out hgp.size
  clear hol hol2 ho hrl hrow
  by_cases hlt:k < N
  ·obtain ⟨gg,off,cap,hvv,hg,hnc,hcm,c1'⟩:=HTV.out wr hgp k hlt
   cases hvv
   have hbd:=HOA.out k hlt
   have HSK:=Lib.hid (HST.out k)
   have HRK:=Lib.hid (HRS.out k)
   have HEK:=Lib.hid (fun u=>HEN.out ((m1:Int) - 1 - k) u (by omega) (by omega))
   have HCX:=Lib.hid (show ∀ u,Gap M1 M2 w3 u → u.cell? ⟨gg,off + k,none⟩ = some (.int .i64 (L.getD k 0)) from fun u hu=>by
    obtain ⟨_,_,_,h1,_,_,_,h2⟩:=HTV.out u hu k hlt
    cases h1
    exact h2)
   generalize L.getD k 0 = x at *
   have HBR:=Lib.hid (HBG.out _ hgp)
   clear hgp
   by_cases h10:x = 10
   ·subst h10
    have HK2:=Lib.hid (show A1 ++ RW (k + 1) = (A1 ++ RW k) ++ [(4,s3,(k:Int))] by rw [HRK.out,HSK.out,if_pos rfl,List.append_assoc])
    have l3:=HBR.out.cell 3 rfl
    clear HSK HRK
    go_wp2_with (at_builtin;refine Im.push elR HO.out rfl _ _ rfl 4 s3 (k:Int) (by rfl) (by rfl) (by rw [← HOL.out];omega) hle ?_)
    intro v' w5 ho5 hg5 hat5
    have HG5:=Lib.hid (Gap_grow HG.out hg5 (fun j h=>by have h1:=(HO.out.lt j h).1;have h2:=HROW.out j h;omega))
    have HRW5:=Lib.hid (show ∀ j,v'.ownBlock = some j → j < M2 ∨ w3.heap.size ≤ j from fun j h=>by
     rcases hat5 with hat | hat
     ·exact HROW.out j (hat ▸ h)
     ·rw [hat] at h;have h1:=Option.some.inj h;have h2:=Gap.size HG.out;omega)
    have HO5:=Lib.hid (show OwnI 72 w5 M1 v' (A1 ++ RW (k + 1)) by rw [HK2.out];simpa [List.append_assoc] using ho5)
    clear ho5 hg5 hat5 l3 c1'
    go_wp2_with fail
    exact ⟨⟨k + 1,by go_num,by omega,HO5.out,HG5.out,HRW5.out⟩,by simp [intOf];omega⟩
   ·have h10b:(x == 10) = false:=by rw [beq_eq_false_iff_ne];exact h10
    have HDX:=Lib.hid (fun u=>HDG.out x hbd.1 (by omega) u)
    have HDE:=Lib.hid (show dgE r x (k:Int) = (2,Lm.dgt r x.toNat,(k:Int)) from rfl)
    rw [HDE.out] at HSK
    generalize Lm.dgt r x.toNat = D at *
    clear HDE
    have OWN:=HO
    go_upto_region 9 with fail
    clear c1'
    refine wp_region_held_drew (S:=fun u=>Gap M1 M2 w3 u) (by kernel_rfl) (by exact HG.out.trans ((Q.refl wr).drew.gap _ _)) (fun hHeld=>?_)
    have hS:Gap M1 M2 w3 wr.drew:=hHeld
    clear hHeld
    have hq:Q wr wr.drew:=(Q.refl _).drew
    have OWN:=Lib.hid (OWN.out.q hq)
    clear hq
    generalize wr.drew = yR1x0 at *
    change wpAnyH _ _ _ _ _ _ #[ff,ff,ff,ff,ff,ff,ff,ff,ff,ff,ff,ff,ff,ff] _ _
    refine wpAnyH_take (i:=0) (v:=?vR1x1) (by (try simp only [gA,gB,gC]);rfl) (by kernel_rfl) (by kernel_rfl) (by kernel_rfl) (by exact fun _ _ _ h=>h) (Or.inl ⟨by first | kernel_rfl | rfl,?hyR1x1⟩) (by exact hS) ?rsR1x1
    case hyR1x1=>(intro uz hSw;(try dsimp only at hSw);go_simp;try with_reducible rfl)
    try simp only [Act.put,sA,sB,sC]
    change wpAnyH _ _ _ _ _ _ #[tt,ff,ff,ff,ff,ff,ff,ff,ff,ff,ff,ff,ff,ff] _ _
    refine wpAnyH_take (i:=1) (v:=?vR1x2) (by (try simp only [gA,gB,gC]);rfl) (by kernel_rfl) (by kernel_rfl) (by kernel_rfl) (by exact fun _ _ _ h=>h) (Or.inl ⟨by first | kernel_rfl | rfl,?hyR1x2⟩) (by exact hS) ?rsR1x2
    case hyR1x2=>(intro uz hSw;(try dsimp only at hSw);go_simp;try with_reducible rfl)
    try simp only [Act.put,sA,sB,sC]
    change wpAnyH _ _ _ _ _ _ #[tt,tt,ff,ff,ff,ff,ff,ff,ff,ff,ff,ff,ff,ff] _ _
    refine wpAnyH_take (i:=2) (v:=?vR1x3) (by (try simp only [gA,gB,gC]);rfl) (by kernel_rfl) (by kernel_rfl) (by kernel_rfl) (by exact fun _ _ _ h=>h) (Or.inl ⟨by first | kernel_rfl | rfl,?hyR1x3⟩) (by exact hS) ?rsR1x3
    case hyR1x3=>(intro uz hSw;(try dsimp only at hSw);go_simp;try with_reducible rfl)
    try simp only [Act.put,sA,sB,sC]
    change wpAnyH _ _ _ _ _ _ #[tt,tt,tt,ff,ff,ff,ff,ff,ff,ff,ff,ff,ff,ff] _ _
    refine wpAnyH_take (i:=3) (v:=?vR1x4) (by (try simp only [gA,gB,gC]);rfl) (by kernel_rfl) (by kernel_rfl) (by kernel_rfl) (by exact fun _ _ _ h=>h) (Or.inl ⟨by first | kernel_rfl | rfl,?hyR1x4⟩) (by exact hS) ?rsR1x4
    case hyR1x4=>(intro uz hSw;(try dsimp only at hSw);have q:=(HBG.out _ hSw).cell 2 rfl;go_simp;try with_reducible rfl)
    try simp only [Act.put,sA,sB,sC]
    change wpAnyH _ _ _ _ _ _ #[tt,tt,tt,tt,ff,ff,ff,ff,ff,ff,ff,ff,ff,ff] _ _
    refine wpAnyH_take (i:=4) (v:=?vR1x5) (by (try simp only [gA,gB,gC]);rfl) (by kernel_rfl) (by kernel_rfl) (by kernel_rfl) (by exact fun _ _ _ h=>h) (Or.inl ⟨by first | kernel_rfl | rfl,?hyR1x5⟩) (by exact hS) ?rsR1x5
    case hyR1x5=>(intro uz hSw;(try dsimp only at hSw);go_simp;try with_reducible rfl)
    try simp only [Act.put,sA,sB,sC]
    change wpAnyH _ _ _ _ _ _ #[tt,tt,tt,tt,tt,ff,ff,ff,ff,ff,ff,ff,ff,ff] _ _
    refine wpAnyH_take (i:=5) (v:=?vR1x6) (by (try simp only [gA,gB,gC]);rfl) (by kernel_rfl) (by kernel_rfl) (by kernel_rfl) (by exact fun _ _ _ h=>h) (Or.inl ⟨by first | kernel_rfl | rfl,?hyR1x6⟩) (by exact hS) ?rsR1x6
    case hyR1x6=>(intro uz hSw;(try dsimp only at hSw);go_simp;try with_reducible rfl)
    try simp only [Act.put,sA,sB,sC]
    change wpAnyH _ _ _ _ _ _ #[tt,tt,tt,tt,tt,tt,ff,ff,ff,ff,ff,ff,ff,ff] _ _
    refine wpAnyH_take (i:=6) (v:=?vR1x7) (by (try simp only [gA,gB,gC]);rfl) (by kernel_rfl) (by kernel_rfl) (by kernel_rfl) (by exact fun _ _ _ h=>h) (Or.inl ⟨by first | kernel_rfl | rfl,?hyR1x7⟩) (by exact hS) ?rsR1x7
    case hyR1x7=>(intro uz hSw;(try dsimp only at hSw);go_simp;try with_reducible rfl)
    try simp only [Act.put,sA,sB,sC]
    change wpAnyH _ _ _ _ _ _ #[tt,tt,tt,tt,tt,tt,tt,ff,ff,ff,ff,ff,ff,ff] _ _
    refine wpAnyH_take (i:=7) (v:=?vR1x8) (by (try simp only [gA,gB,gC]);rfl) (by kernel_rfl) (by kernel_rfl) (by kernel_rfl) (by exact fun _ _ _ h=>h) (Or.inl ⟨by first | kernel_rfl | rfl,?hyR1x8⟩) (by exact hS) ?rsR1x8
    case hyR1x8=>(intro uz hSw;(try dsimp only at hSw);have q:=HCX.out _ hSw;go_simp;try with_reducible rfl)
    try simp only [Act.put,sA,sB,sC]
    change wpAnyH _ _ _ _ _ _ #[tt,tt,tt,tt,tt,tt,tt,tt,ff,ff,ff,ff,ff,ff] _ _
    refine wpAnyH_take (i:=9) (v:=?vR1x9) (by (try simp only [gA,gB,gC]);rfl) (by kernel_rfl) (by kernel_rfl) (by kernel_rfl) (by exact fun _ _ _ h=>h) (Or.inl ⟨by first | kernel_rfl | rfl,?hyR1x9⟩) (by exact hS) ?rsR1x9
    case hyR1x9=>(intro uz hSw;(try dsimp only at hSw);go_simp;try with_reducible rfl)
    try simp only [Act.put,sA,sB,sC]
    change wpAnyH _ _ _ _ _ _ #[tt,tt,tt,tt,tt,tt,tt,tt,ff,tt,ff,ff,ff,ff] _ _
    refine wpAnyH_ready (rs:=[8]) (by kernel_rfl) (by simp) ?_
    refine (AllReadyH.cons (by (try simp only [gA,gB,gC]);rfl) (fun K hK=>?_) AllReadyH.nil)
    go_simp
    refine (HDX.out _).mono ?_
    rintro e yR1x10 ⟨rfl,hq⟩
    try (go_wp2_with fail)
    have OWN:=Lib.hid (OWN.out.q hq)
    have hS2:=Gap.trans hS (Q.gap hq _ _)
    refine hK.out _ _ (by exact hS2) (fun hHeld=>?_)
    clear hK K hHeld hS hq
    have hS:=hS2
    clear hS2
    try simp only [Act.put,sA,sB,sC]
    change wpAnyH _ _ _ _ _ _ #[tt,tt,tt,tt,tt,tt,tt,tt,tt,tt,ff,ff,ff,ff] _ _
    refine wpAnyH_take (i:=10) (v:=?vR1x11) (by (try simp only [gA,gB,gC]);rfl) (by kernel_rfl) (by kernel_rfl) (by kernel_rfl) (by exact fun _ _ _ h=>h) (Or.inl ⟨by first | kernel_rfl | rfl,?hyR1x11⟩) (by exact hS) ?rsR1x11
    case hyR1x11=>(intro uz hSw;(try dsimp only at hSw);go_simp;try with_reducible rfl)
    try simp only [Act.put,sA,sB,sC]
    change wpAnyH _ _ _ _ _ _ #[tt,tt,tt,tt,tt,tt,tt,tt,tt,tt,tt,ff,ff,ff] _ _
    refine wpAnyH_ready (rs:=[11]) (by kernel_rfl) (by simp) ?_
    refine (AllReadyH.cons (by (try simp only [gA,gB,gC]);rfl) (fun K hK=>?_) AllReadyH.nil)
    go_simp
    have hq:=(Q.refl yR1x10).alloc (.cells #[.int .i64 2,.string D,.int .i64 (k:Int)] 72)
    have HBX:=Lib.hid (Bk.new yR1x10 72 [.int .i64 2,.string D,.int .i64 (k:Int)])
    have HW_bX:=Lib.hid (Gap.size hS)
    have OWN:=Lib.hid (OWN.out.q hq)
    have hS2:=Gap.trans hS (Q.gap hq _ _)
    refine hK.out _ _ (by exact hS2) (fun hHeld=>?_)
    clear hK K hHeld hS hq
    have hS:=hS2
    clear hS2
    generalize yR1x10.alloc (.cells #[.int .i64 2,.string D,.int .i64 (k:Int)] 72) = yR1x12 at *
    generalize yR1x10.heap.size = bX at *
    try simp only [Act.put,sA,sB,sC]
    change wpAnyH _ _ _ _ _ _ #[tt,tt,tt,tt,tt,tt,tt,tt,tt,tt,tt,tt,ff,ff] _ _
    refine wpAnyH_ready (rs:=[12]) (by kernel_rfl) (by simp) ?_
    refine (AllReadyH.cons (by (try simp only [gA,gB,gC]);rfl) (fun K hK=>?_) AllReadyH.nil)
    refine Im.pushR elR OWN.out (by rfl) _ _ (by rfl) 2 D (k:Int) (by rfl) (by rfl) (HBX.out.cell 0 rfl) (HBX.out.cell 1 rfl) (HBX.out.cell 2 rfl) (by rw [← HOL.out];omega) (Nat.le_trans HZM.out (Gap.size hS)) ?_
    intro v' yR1x13 ho hg hat
    have hS2:=Gap_grow hS hg (fun j h=>by have h1:=(OWN.out.lt j h).1;have h2:=HROW.out j h;omega)
    have HRW2:=Lib.hid (show ∀ j,v'.ownBlock = some j → j < M2 ∨ w3.heap.size ≤ j from fun j h=>by
     rcases hat with hat | hat
     ·exact HROW.out j (hat ▸ h)
     ·rw [hat] at h;have h1:=Option.some.inj h;have h2:=Gap.size hS;omega)
    have HO6:=Lib.hid ho
    clear ho hg hat
    refine hK.out _ _ (by exact hS2) (fun hHeld=>?_)
    clear hK K hHeld hS
    have hS:=hS2
    clear hS2
    try simp only [Act.put,sA,sB,sC]
    change wpAnyH _ _ _ _ _ _ #[tt,tt,tt,tt,tt,tt,tt,tt,tt,tt,tt,tt,tt,ff] _ _
    refine wpAnyH_take (i:=13) (v:=?vR1x14) (by (try simp only [gA,gB,gC]);rfl) (by kernel_rfl) (by kernel_rfl) (by kernel_rfl) (by exact fun _ _ _ h=>h) (Or.inl ⟨by first | kernel_rfl | rfl,?hyR1x14⟩) (by exact hS) ?rsR1x14
    case hyR1x14=>(intro uz hSw;(try dsimp only at hSw);go_simp;try with_reducible rfl)
    try simp only [Act.put,sA,sB,sC]
    change wpAnyH _ _ _ _ _ _ #[tt,tt,tt,tt,tt,tt,tt,tt,tt,tt,tt,tt,tt,tt] _ _
    refine wpAnyH_done (by kernel_rfl) ?_ _
    have HG6:=Lib.hid hS
    clear hS
    have hle6:M1 ≤ yR1x13.heap.size:=Nat.le_trans HZM.out (Gap.size HG6.out)
    cases heb:endB ((m1:Int) - 1 - k) p0 p1
    ·have HK2:=Lib.hid (show A1 ++ RW (k + 1) = (A1 ++ RW k) ++ [(2,D,(k:Int))] by rw [HRK.out,HSK.out,if_neg h10,heb,List.append_assoc];rfl)
     have HB6:=Lib.hid (HBG.out _ HG6.out)
     have HD6:=Lib.hid (HDG2.out _ HG6.out)
     have q12:=HB6.out.cell 12 rfl
     have q13:=HB6.out.cell 13 rfl
     have q1:=HD6.out.cell 1 rfl
     go_wp2_with fail
     refine (HEK.out _).mono ?_
     rw [heb]
     rintro e w7 ⟨rfl,rfl⟩
     clear heb q12 q13 q1
     have HO7:=Lib.hid (show OwnI 72 yR1x13 M1 v' (A1 ++ RW (k + 1)) by rw [HK2.out];exact HO6.out)
     go_wp2_with fail
     exact ⟨⟨k + 1,by go_num,by omega,HO7.out,HG6.out,HRW2.out⟩,by simp [intOf];omega⟩
    ·have HK2:=Lib.hid (show A1 ++ RW (k + 1) = (A1 ++ RW k) ++ [(2,D,(k:Int))] ++ [(3,s4,-1)] by rw [HRK.out,HSK.out,if_neg h10,heb,List.append_assoc,List.append_assoc];rfl)
     have HB6:=Lib.hid (HBG.out _ HG6.out)
     have HD6:=Lib.hid (HDG2.out _ HG6.out)
     have q12:=HB6.out.cell 12 rfl
     have q13:=HB6.out.cell 13 rfl
     have q4:=HB6.out.cell 4 rfl
     have q1:=HD6.out.cell 1 rfl
     go_wp2_with fail
     refine (HEK.out _).mono ?_
     rw [heb]
     rintro e w7 ⟨rfl,rfl⟩
     clear heb q12 q13 q1
     go_wp2_with (at_builtin;refine Im.push elR HO6.out rfl _ _ rfl 3 s4 (-1) (by rfl) (by rfl) (by rw [List.length_append,← HOL.out];simp;omega) hle6 ?_)
     intro v8 w8 ho8 hg8 hat8
     have HO8:=Lib.hid (show OwnI 72 w8 M1 v8 (A1 ++ RW (k + 1)) by rw [HK2.out];simpa [List.append_assoc] using ho8)
     have HG8:=Lib.hid (Gap_grow HG6.out hg8 (fun j h=>by have h1:=(HO6.out.lt j h).1;have h2:=HRW2.out j h;omega))
     have HRW8:=Lib.hid (show ∀ j,v8.ownBlock = some j → j < M2 ∨ w3.heap.size ≤ j from fun j h=>by
      rcases hat8 with hat | hat
      ·exact HRW2.out j (hat ▸ h)
      ·rw [hat] at h;have h1:=Option.some.inj h;have h2:=Gap.size HG6.out;omega)
     clear ho8 hg8 hat8 q4
     go_wp2_with fail
     exact ⟨⟨k + 1,by go_num,by omega,HO8.out,HG8.out,HRW8.out⟩,by simp [intOf];omega⟩
  ·obtain rfl:k = N:=by omega
   have HZR:=Lib.hid (gap_q2 HQZ3.out HZM1.out HG.out)
   have HQR:=Lib.hid (HQZ.out.trans HZR.out)
   have HBR:=Lib.hid (HBG.out _ hgp)
   have HU2R:=Lib.hid (show Pb.LstP wr (Value.slice qb (P2.length) qd) P2 from HU2.out.q (gap_q2 (HQ12.out.trans HQ23.out) (Nat.le_of_eq HM1.out.symm) hgp))
   clear hgp
   go_wp2_with (refine wpList_load_row (by rfl) 34 _ (by rfl) bz (by rfl) 34 #[.string s0,.string s1,.string s2,.string s3,.string s4,.string s5,.string s6,.string s7,.slice a1 n1 a2,.slice b1 n2 b2,.slice c1 n3 c2,.slice d1 n4 d2,.int .i64 p0,.int .i64 p1,.int .i64 p2,.int .i64 p3,.int .i64 p4] (0,0) _ HBR.out Tryz.underlying34 rfl (by exact infoL) ?_)
   refine (HPA.out _ HQR.out _ _ HU2R.out (by omega)).mono ?_
   rintro e w9 ⟨q9,rfl,hx9,hq9⟩
   rw [HA2.out] at hx9
   have HX9:=Lib.hid hx9.lst
   have HO9:=Lib.hid (HO.out.q hq9)
   have HZ9:=Lib.hid (HZR.out.trans hq9)
   have hle9:M1 ≤ w9.heap.size:=Nat.le_trans hle hq9.le
   obtain ⟨ya,yc,rfl⟩:=hx9.shape
   have HA2L:=Lib.hid (show A2.length = P2.length by rw [← HA2.out,affI_len])
   clear hx9 hq9
   go_wp2_with (at_builtin;refine Im.pushl elR HO9.out HX9.out rfl _ _ rfl (by rfl) (by rfl) (by rw [← HOL.out,HA2L.out];omega) hle9 ?_)
   intro v8 w8 ho8 hg8 hat8
   have HO8:=Lib.hid (show OwnI 72 w8 w.heap.size v8 RES by rw [HIT.out];have h9:=ho8.mono (Nat.le_trans HQZ.out.le HZM1.out);simpa [List.append_assoc] using h9)
   have HQ8:=Lib.hid (HQZ.out.trans (HZ9.out.grown hg8 (fun j h=>Nat.le_trans HZM1.out (HO9.out.lt j h).1)))
   clear ho8 hg8 hat8
   go_wp2_with fail
   go_ret
   exact ⟨_,rfl,HO8.out,HQ8.out⟩
end It
end Go.Proofs.YtghfdapfnoeanaaGreatDoor
