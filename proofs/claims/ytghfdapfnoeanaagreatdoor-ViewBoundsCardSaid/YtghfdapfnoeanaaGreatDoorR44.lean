/- The program's view of a draft: its text, its items' tags, where each ends, its stops. (and more) -/
import Derived.Test.YtghfdapfnoeanaaGreatDoorR00
import Derived.Test.YtghfdapfnoeanaaGreatDoorR02
import Derived.Test.YtghfdapfnoeanaaGreatDoorR01
import Derived.Test.YtghfdapfnoeanaaGreatDoorR06
import Derived.Test.YtghfdapfnoeanaaGreatDoorR08
import Derived.Test.YtghfdapfnoeanaaGreatDoorR37
import Derived.Test.YtghfdapfnoeanaaGreatDoorR40
import Derived.Test.YtghfdapfnoeanaaGreatDoorR39
import Derived.Test.YtghfdapfnoeanaaGreatDoorR12
import Derived.Test.YtghfdapfnoeanaaGreatDoorR04
import Derived.Test.YtghfdapfnoeanaaGreatDoorR36
import Derived.Test.YtghfdapfnoeanaaGreatDoorR25
import Derived.Test.YtghfdapfnoeanaaGreatDoorR28
import Derived.Test.YtghfdapfnoeanaaGreatDoorRows
import Derived.WalkLawsBesides
import Derived.Deep.QuietTactic
import Derived.BigQuiet
set_option linter.unusedVariables false
set_option linter.unusedSimpArgs false
namespace Go.Proofs.YtghfdapfnoeanaaGreatDoor
open Go.RowKit
namespace Vw
open Um Im Vm Lo
theorem Bk_grown {w w':World} {b B:Nat} {ty:TypeId} {l:List Value} {v:Value} {zs:List Int} (hb:Bk w b ty l) (ho:Own w B v zs) (ht:ty ≠ 3) (hg:w.grownBy w' v.ownBlock):Bk w' b ty l:=by
 refine (hg.block b hb.lt ?_).trans hb
 intro e
 obtain ⟨cur,hc⟩:=ho.cells b e.symm
 unfold Bk at hb
 rw [hb] at hc
 simp at hc
 exact ht hc.2
set_option maxRecDepth 100000 in
set_option maxHeartbeats 6400000 in
theorem new_any (g0:Nat) (r:Lm.Rec) (X:Pt.Pat) (a b c d cl:Value) (g s:Bool) (e1 e2:Option Addr) (m1 m2 f1 f2:Nat) (I F:List Int) (w:World) (hO:It.LOk r X) (hB:LB w g0 r X a b c d cl) (hi:Lst w (.slice e1 m1 f1) I) (hf:Lst w (.slice e2 m2 f2) F) (k1:I.length = m1) (k2:F.length = m2) (l1:m1 ≤ 1000) (l2:m2 ≤ 1000) (hm:Tm.may ⟨g,I,s,F⟩ = true) :
  Calls Tryz.prog 32 #[.pointer (some ⟨g0,0,none⟩),.agg #[.bool g,.slice e1 m1 f1,.bool s,.slice e2 m2 f2]] w fun e w'=>∃ v,e = .returned (.pointer (some ⟨v,0,none⟩)) ∧ VB w' w.heap.size v (itm r X.pr X.se ⟨g,I,s,F⟩ (parP r (Ro.ahd g X)) (parP r (Ro.bhd g X))) (stp (itm r X.pr X.se ⟨g,I,s,F⟩ (parP r (Ro.ahd g X)) (parP r (Ro.bhd g X))) (parP r (Ro.ahd g X)).length) (Tm.ats ⟨g,I,s,F⟩).length ∧ Q w w':=by
 have hic:=hi.form0 k1
 obtain ⟨_,_,hv,hnc,hcm⟩:=hic
 cases hv
 have hfc:=hf.form0 k2
 obtain ⟨_,_,hv,hnf,hfm⟩:=hfc
 cases hv
 unfold maxLen at hcm hfm
 have hdg:=Tm.may_dig hm
 have HI:=Lib.hid (fun u (q:Q w u)=>It.items_any g0 r X a b c d cl g s e1 e2 m1 m2 f1 f2 I F u hO.ok (hB.q q) (hi.q q) (hf.q q) k1 k2 l1 l2 hdg.1 hdg.2.1)
 have HA:=Lib.hid (fun u (q:Q w u)=>Ro.around_any g g0 r X a b c d cl u hO.ok (hB.q q))
 have hwb:=(wds_bd hO g).1
 have hpl:=(Ro.around_fact hO.ok g).2.2.1
 have HW:=Lib.hid (fun u (q:Q w u) v (hv:Pb.LstP u v (parP r (Ro.ahd g X)))=>width_any g0 r X a b c d cl v _ u (hB.q q) hv (by omega) (by omega))
 have hrw:=itm_rw hO hm g
 have hah:=itm_ahead r X.pr X.se ⟨g,I,s,F⟩ (parP r (Ro.ahd g X)) (parP r (Ro.bhd g X))
 have hlen:=itm_len r X.pr X.se ⟨g,I,s,F⟩ (parP r (Ro.ahd g X)) (parP r (Ro.bhd g X))
 dsimp only at hlen
 rw [k1,k2] at hlen
 have hpl2:=(Ro.around_fact hO.ok g).2.2.2
 have htx:=tx_len _ (itm_okT hO (d:=⟨g,I,s,F⟩) hdg.1 hdg.2.1 g)
 have hs0:=stp_none r hO.ok g X.pr X.se ⟨g,I,s,F⟩ (parP r (Ro.bhd g X))
 generalize parP r (Ro.ahd g X) = A at *
 generalize parP r (Ro.bhd g X) = B at *
 generalize itm r X.pr X.se ⟨g,I,s,F⟩ A B = L at *
 generalize (Tm.ats ⟨g,I,s,F⟩).length = N at *
 generalize A.length = a0 at *
 generalize wds r A = W at *
 obtain ⟨n,hn⟩:∃ n,n = L.length:=⟨_,rfl⟩
 rw [← hn] at hlen htx
 have hnb:n ≤ 10000:=by omega
 have htb:(txI L).length ≤ 1000000:=by omega
 have HTX:=Lib.hid (fun v u (h:LstI u v L)=>It.text_any v L u h (by omega) htb)
 have HTG:=Lib.hid (fun v u (h:LstI u v L)=>It.tags_any v L u h (by omega))
 have HN:=Lib.hid hn.symm
 have HE0:=Lib.hid (show en L 0 = [] from rfl)
 have HES:=Lib.hid (show ∀ k,en L (k + 1) = en L k ++ [((off L (k + 1):Nat):Int)] from fun k=>ns_succ _ k)
 have HEL:=Lib.hid (en_len L)
 have HS1:=Lib.hid (show ns (stp L a0) 1 = [(W:Int)] by rw [ns_succ,ns_zero,hs0];rfl)
 have HSS:=Lib.hid (ns_succ (stp L a0))
 have HSL:=Lib.hid (ns_len (stp L a0))
 have HO0:=Lib.hid (off_zero L)
 have HOS:=Lib.hid (fun k (h:k < n)=>off_succ L k (by omega))
 have HOB:=Lib.hid (fun k (h:k ≤ n)=>Nat.le_trans (off_le L (show k ≤ L.length by omega) (Nat.le_refl _)) (by rw [off_all];exact htb))
 have HC0:=Lib.hid (show (L.take 0).countP atB = 0 from rfl)
 have HCS:=Lib.hid (fun k (h:k < n)=>cnt_take atB L k (by omega))
 have HCL:=Lib.hid (cnt_le atB L)
 have HCE:=Lib.hid (show (L.take n).countP atB = N by rw [hn,List.take_length];exact hrw.cnt)
 have HAT:=Lib.hid (fun k (h:k < n)=>hrw.atom (i:=k) (by omega))
 have HST:=Lib.hid (fun k (h:k < n) (hq:atB (L.getD k e0) = true)=>hrw.stop a0 (i:=k) (by omega) hq)
 clear hi hf hB hO hm hdg hrw hah hlen htx hs0 hn k1 k2 hwb hpl hpl2 htb
 obtain ⟨z,hz⟩:∃ z,z = w.alloc (.cells #[.bool g,.slice e1 m1 f1,.bool s,.slice e2 m2 f2] 70):=⟨_,rfl⟩
 have HQZ:=Lib.hid (show Q w z by rw [hz];exact (Q.refl w).alloc _)
 have HDZ:=Lib.hid (show Bk z w.heap.size 70 [.bool g,.slice e1 m1 f1,.bool s,.slice e2 m2 f2] by rw [hz];exact Bk.new _ _ _)
 obtain ⟨bd,hbd⟩:∃ b,b = w.heap.size:=⟨_,rfl⟩
 rw [← hbd] at HDZ
 go_enter Tryz.func32,Tryz.ntmps32
 go_upto_region 1 with fail
 rw [← hz,← hbd]
 clear hz hbd
 have x0:=HDZ.out.cell 0 rfl
 have x1:=HDZ.out.cell 1 rfl
 have x2:=HDZ.out.cell 2 rfl
 have x3:=HDZ.out.cell 3 rfl
 go_wp2_with fail
 refine (HI.out _ HQZ.out).mono ?_
 rintro e w1 ⟨v1,rfl,hl1,hq1⟩
 have HL1:=Lib.hid hl1.lst
 obtain ⟨va,vc,rfl,_,_⟩:=hl1.lst.form0 HN.out
 have HQ1:=Lib.hid (HQZ.out.trans hq1)
 have HD1:=Lib.hid (HDZ.out.q hq1)
 clear hl1 hq1 x0 x1 x2 x3 HDZ HI
 have x0:=HD1.out.cell 0 rfl
 go_wp2_with fail
 refine (HA.out _ HQ1.out).mono ?_
 rintro e w2 ⟨q1,q2,rfl,hu1,hu2,hq2⟩
 have HU2:=Lib.hid hu1
 have HQ2:=Lib.hid (HQ1.out.trans hq2)
 have HL2:=Lib.hid (HL1.out.q hq2)
 obtain ⟨qa,qc,rfl,_,_⟩:=hu1.shape2
 obtain ⟨qb,qd,rfl,_,_⟩:=hu2.shape2
 clear hu1 hu2 hq2 x0 HA HD1 HL1
 go_wp2_with fail
 refine (HTX.out _ _ HL2.out).mono ?_
 rintro e w3 ⟨rfl,hq3⟩
 have HQ3:=Lib.hid (HQ2.out.trans hq3)
 have HL3:=Lib.hid (HL2.out.q hq3)
 have HU3:=Lib.hid (HU2.out.q hq3)
 clear hq3 HTX HL2 HU2
 obtain ⟨S,hS⟩:∃ S,S = (⟨(txI L).toArray⟩:ByteArray):=⟨_,rfl⟩
 rw [← hS]
 have HSE:=Lib.hid hS.symm
 clear hS
 go_wp2_with fail
 refine (HTG.out _ _ HL3.out).mono ?_
 rintro e w4 ⟨tv,rfl,ht4,hq4⟩
 have HT4:=Lib.hid (ht4.mono HQ3.out.le)
 obtain ⟨ta,tc,rfl,_,_⟩:=ht4.lst.form0 (n:=n) (by rw [List.length_map];exact HN.out)
 have HQ4:=Lib.hid (HQ3.out.trans hq4)
 have HL4:=Lib.hid (HL3.out.q hq4)
 have HU4:=Lib.hid (HU3.out.q hq4)
 clear hq4 ht4 HTG HL3 HU3
 go_wp2_with fail
 refine (HW.out _ HQ4.out _ HU4.out).mono ?_
 rintro e w5 ⟨rfl,hq5⟩
 have HQ5:=Lib.hid (HQ4.out.trans hq5)
 have HL5:=Lib.hid (HL4.out.q hq5)
 have HT5:=Lib.hid (HT4.out.q hq5)
 clear hq5 HW HL4 HT4 HU4
 obtain ⟨y,hy⟩:∃ z,z = w5.alloc (.cells #[.int .i64 (W:Int)] 3):=⟨_,rfl⟩
 have hqy:Q w5 y:=by rw [hy];exact (Q.refl _).alloc _
 have hoy:Own y w5.heap.size (.slice (some ⟨w5.heap.size,0,none⟩) 1 1) (ns (stp L a0) (0 + 1)):=by
  rw [hy,HS1.out]
  exact ⟨rfl,.inr ⟨w5.heap.size,1,#[.int .i64 (W:Int)],rfl,Nat.le_refl _,heap_alloc_new _ _,Nat.le_refl _,by unfold maxLen;omega,rfl,rfl⟩⟩
 obtain ⟨t,ht⟩:∃ z,z = y.alloc (.cells #[.string S,.slice ta n tc,.slice none 0 0,.slice (some ⟨w5.heap.size,0,none⟩) 1 1] 77):=⟨_,rfl⟩
 have hqt:Q y t:=by rw [ht];exact (Q.refl _).alloc _
 have hys:y.heap.size = w5.heap.size + 1:=by rw [hy];simp
 have hbt:Bk t y.heap.size 77 [.string S,.slice ta n tc,.slice none 0 0,.slice (some ⟨w5.heap.size,0,none⟩) 1 1]:=by rw [ht];exact Bk.new _ _ _
 rw [hys] at hbt
 have ht2:t = (w5.alloc (.cells #[.int .i64 (W:Int)] 3)).alloc (.cells #[.string S,.slice ta n tc,.slice none 0 0,.slice (some ⟨w5.heap.size,0,none⟩) 1 1] 77):=by rw [ht,hy]
 have HQT:=Lib.hid (hqy.trans hqt)
 have HOT:=Lib.hid (hoy.q hqt)
 obtain ⟨bv,hbv⟩:∃ b,b = w5.heap.size + 1:=⟨_,rfl⟩
 rw [← hbv] at hbt
 have HBT:=Lib.hid hbt
 have HBV:=Lib.hid (show w5.heap.size ≤ bv by omega)
 obtain ⟨M,hM⟩:∃ m,m = w5.heap.size:=⟨_,rfl⟩
 have HM:=Lib.hid hM.symm
 rw [← hM] at HOT HBT
 clear hqy hqt hoy hys hbt ht hy
 go_upto_region 4 with fail
 rw [← ht2,← hbv,← hM]
 clear ht2 hbv hM
 have HV:=Lib.hid (fun u (q:Q w5 u) k (h:k < n)=>(HL5.out.q q).cellOf HN.out h)
 go_wp2_with fail
 go_loopw [9,34] (fun v i wr=>∃ k:Nat,i = .int .i64 k ∧ k ≤ n ∧ v = .int .i64 (off L k:Nat) ∧ (∃ ev sv,Bk wr bv 77 [.string S,.slice ta n tc,ev,sv] ∧ Own wr M ev (en L k) ∧ Own wr M sv (ns (stp L a0) ((L.take k).countP atB + 1)) ∧ Apart ev sv) ∧ Q w5 wr) (fun _ i _=>n - (intOf i).toNat)
 case atStart=>exact ⟨0,rfl,by omega,by rw [HO0.out];rfl,⟨_,_,HBT.out,by rw [HE0.out];exact Own.nil _ _,by rw [HC0.out];exact HOT.out,Apart.nilL _⟩,HQT.out⟩
 case round =>
  obtain ⟨k,rfl,hk,rfl,⟨ev,sv,hbk,hev,hsv,hap⟩,hq⟩:=hrel
  by_cases hlt:k < n
  ·obtain ⟨gg,o1,cap,hvv,hg,_,hcap,c1',c2',c3'⟩:=HV.out wr hq k hlt
   cases hvv
   unfold maxLen at hcap
   have hos:=HOS.out k hlt
   have hob:=HOB.out (k + 1) (by omega)
   have hcs:=HCS.out k hlt
   have hcl:=HCL.out k
   have hat:=HAT.out k hlt
   have hst:=HST.out k hlt
   have HEK:=Lib.hid (HES.out k)
   have HELk:=Lib.hid (HEL.out k)
   have HSSk:=Lib.hid (HSS.out ((L.take k).countP atB + 1))
   have HSLk:=Lib.hid (HSL.out ((L.take k).countP atB + 1))
   generalize L.getD k e0 = x at *
   obtain ⟨xa,xt,xb⟩:=x
   dsimp only at c1' c2' c3' hos hat
   obtain ⟨P2,hP2⟩:∃ m,m = off L (k + 1):=⟨_,rfl⟩
   obtain ⟨P,hP⟩:∃ m,m = off L k:=⟨_,rfl⟩
   rw [← hP2,← hP] at hos
   rw [← hP2] at hob hst HEK
   rw [← hP]
   have HP2:=Lib.hid hP2.symm
   clear hP hP2
   obtain ⟨cc,hcc⟩:∃ m,m = (L.take k).countP atB:=⟨_,rfl⟩
   rw [← hcc] at hcs hcl hst hsv HSSk HSLk
   have hsum:(P:Int) + (xt.size:Int) = (P2:Int):=by omega
   have hle2:(P2:Int) ≤ 1000000:=by omega
   obtain ⟨ea,ec,rfl,_,_⟩:=hev.lst.form0 HELk.out
   obtain ⟨sa,sc,rfl,_,_⟩:=hsv.lst.form0 HSLk.out
   have hM5:=HM.out
   have hwr:=hq.le
   obtain ⟨z,hz⟩:∃ y,y = wr.alloc (.cells #[.int .i64 xa,.string xt,.int .i64 xb] 121):=⟨_,rfl⟩
   have hqz:Q wr z:=by rw [hz];exact (Q.refl wr).alloc _
   have HQZ:=Lib.hid (hq.trans hqz)
   have HBX:=Lib.hid (show Bk z wr.heap.size 121 [.int .i64 xa,.string xt,.int .i64 xb] by rw [hz];exact Bk.new _ _ _)
   have HBK:=Lib.hid (hbk.q hqz)
   have HEV:=Lib.hid (hev.q hqz)
   have HSV:=Lib.hid (hsv.q hqz)
   have HAP:=Lib.hid hap
   have hle:M ≤ z.heap.size:=by rw [← hM5];exact HQZ.out.le
   obtain ⟨bX,hbX⟩:∃ b,b = wr.heap.size:=⟨_,rfl⟩
   rw [← hbX] at HBX
   clear hbk hev hsv hap hq hqz hM5 hwr hos hcc
   go_upto_region 8 with fail
   rw [← hz,← hbX]
   clear hz hbX c1' c2' c3'
   have x1:=HBX.out.cell 1 rfl
   have y2:=HBK.out.cell 2 rfl
   go_wp2_with (at_builtin;refine push_int HEV.out rfl _ _ rfl (P2:Int) (by rfl) (by rfl) (by rw [HELk.out];omega) hle ?_)
   intro v' w3 ho3 hg3 hat3
   have HQ3':=Lib.hid (HQZ.out.grown hg3 (fun j h=>by have:=(HEV.out.lt j h).1;have:=HM.out;omega))
   have HB3:=Lib.hid (Bk_grown HBK.out HEV.out (by decide) hg3)
   have HX3:=Lib.hid (Bk_grown HBX.out HEV.out (by decide) hg3)
   have he3:Own w3 M v' (en L (k + 1)):=by rw [HEK.out];exact ho3
   obtain ⟨ea',ec',rfl,_,_⟩:=he3.lst.form0 (HEL.out (k + 1))
   have HE3:=Lib.hid he3
   have HS3:=Lib.hid (HSV.out.other hg3 HAP.out)
   have HA3:=Lib.hid (Apart.push HSV.out HAP.out hat3)
   clear ho3 hg3 hat3 x1 y2 he3
   have y2:=HB3.out.cell 2 rfl
   have f2:=HB3.out.free 2
   obtain ⟨w4,hw4⟩:∃ u,u = w3.setCell ⟨bv,2,none⟩ (.slice ea' (k + 1) ec'):=⟨_,rfl⟩
   have HQ4':=Lib.hid (show Q w5 w4 by rw [hw4];exact Q.setCell HQ3'.out HBV.out _)
   have HB4:=Lib.hid (show Bk w4 bv 77 [.string S,.slice ta n tc,.slice ea' (k + 1) ec',.slice sa (cc + 1) sc] by rw [hw4];exact HB3.out.set 2 _)
   have HX4:=Lib.hid (show Bk w4 bX 121 [.int .i64 xa,.string xt,.int .i64 xb] by
    rw [hw4]
    refine HX3.out.past ?_ _
    rintro rfl
    have h1:=HX3.out
    have h2:=HB3.out
    unfold Bk at h1 h2
    rw [h1] at h2
    simp at h2)
   have HE4:=Lib.hid (show Own w4 M (.slice ea' (k + 1) ec') (en L (k + 1)) by rw [hw4];exact Tm.Own_past HE3.out HB3.out (by decide) 2 _)
   have HS4:=Lib.hid (show Own w4 M (.slice sa (cc + 1) sc) (ns (stp L a0) (cc + 1)) by rw [hw4];exact Tm.Own_past HS3.out HB3.out (by decide) 2 _)
   have hle4:M ≤ w4.heap.size:=by have:=HM.out;rw [← this];exact HQ4'.out.le
   go_upto_region 10 with fail
   rw [← hw4]
   clear hw4 y2 f2
   have x2:=HX4.out.cell 2 rfl
   have y3:=HB4.out.cell 3 rfl
   cases hb:atB (xa,xt,xb)
   ·have hneg:¬ (0:Int) ≤ xb:=fun h=>by have:=hat.1 h;rw [hb] at this;cases this
    have hneg2:xb < 0:=by omega
    have HK2:=Lib.hid (show (L.take (k + 1)).countP atB = cc by rw [hcs,hb];simp)
    clear hat hst hcs
    go_wp2_with fail
    exact ⟨⟨k + 1,by go_num,by omega,by rw [HP2.out],⟨_,_,HB4.out,HE4.out,by rw [HK2.out];exact HS4.out,HA3.out⟩,HQ4'.out⟩,by simp [intOf];omega⟩
   ·have hpos:(0:Int) ≤ xb:=hat.2 hb
    have HK2:=Lib.hid (show (L.take (k + 1)).countP atB = cc + 1 by rw [hcs,hb];simp)
    have HSN:=Lib.hid (show ns (stp L a0) (cc + 1 + 1) = ns (stp L a0) (cc + 1) ++ [(P2:Int)] by rw [HSSk.out,hst hb])
    clear hat hst hcs
    go_wp2_with (at_builtin;refine push_int HS4.out rfl _ _ rfl (P2:Int) (by rfl) (by rfl) (by rw [HSLk.out];omega) hle4 ?_)
    intro u' w6 ho6 hg6 hat6
    have HQ6:=Lib.hid (HQ4'.out.grown hg6 (fun j h=>by have:=(HS4.out.lt j h).1;have:=HM.out;omega))
    have HB6:=Lib.hid (Bk_grown HB4.out HS4.out (by decide) hg6)
    have hs6:Own w6 M u' (ns (stp L a0) (cc + 1 + 1)):=by rw [HSN.out];exact ho6
    obtain ⟨sa',sc',rfl,_,_⟩:=hs6.lst.form0 (HSL.out (cc + 1 + 1))
    have HS6:=Lib.hid hs6
    have HE6:=Lib.hid (HE4.out.other hg6 HA3.out.symm)
    have HA6:=Lib.hid (Apart.push HE4.out HA3.out.symm hat6)
    clear ho6 hg6 hat6 x2 y3 hs6
    have y3:=HB6.out.cell 3 rfl
    have f3:=HB6.out.free 3
    go_wp2_with fail
    exact ⟨⟨k + 1,by go_num,by omega,by rw [HP2.out],⟨_,_,HB6.out.set 3 _,Tm.Own_past HE6.out HB6.out (by decide) 3 _,by rw [HK2.out];exact Tm.Own_past HS6.out HB6.out (by decide) 3 _,HA6.out.symm⟩,Q.setCell HQ6.out HBV.out _⟩,by simp [intOf];omega⟩
  ·obtain rfl:k = n:=by omega
   have HBF:=Lib.hid hbk
   have HEF:=Lib.hid hev
   have HSF:=Lib.hid hsv
   have HQF:=Lib.hid (HQ5.out.trans hq)
   have HTF:=Lib.hid (HT5.out.q hq)
   clear hbk hev hsv hap hq
   go_wp2_with fail
   go_ret
   refine ⟨bv,rfl,?_,HQF.out⟩
   have h2:=HEF.out
   have h3:=HSF.out
   rw [HCE.out] at h3
   have hN:=HN.out
   subst hN
   obtain ⟨ea,ec,rfl,_,_⟩:=h2.lst.form0 (HEL.out _)
   obtain ⟨sa,sc,rfl,_,_⟩:=h3.lst.form0 (HSL.out _)
   have hM1:=HQ5.out.le
   have hM2:=HM.out
   have hM3:=HBV.out
   refine ⟨by omega,_,_,_,_,_,_,?_,HTF.out,h2.mono (by omega),h3.mono (by omega)⟩
   rw [HSE.out]
   exact HBF.out
end Vw
end Go.Proofs.YtghfdapfnoeanaaGreatDoor
