/- The document's own stops of a draft, the number nearest to a byte, a byte's tag. (and more) -/
import Derived.Test.YtghfdapfnoeanaaGreatDoorR00
import Derived.Test.YtghfdapfnoeanaaGreatDoorR02
import Derived.Test.YtghfdapfnoeanaaGreatDoorR01
import Derived.Test.YtghfdapfnoeanaaGreatDoorR06
import Derived.Test.YtghfdapfnoeanaaGreatDoorR08
import Derived.Test.YtghfdapfnoeanaaGreatDoorR37
import Derived.Test.YtghfdapfnoeanaaGreatDoorR39
import Derived.Test.YtghfdapfnoeanaaGreatDoorR38
import Derived.Test.YtghfdapfnoeanaaGreatDoorR12
import Derived.Test.YtghfdapfnoeanaaGreatDoorR04
import Derived.Test.YtghfdapfnoeanaaGreatDoorR36
import Derived.Test.YtghfdapfnoeanaaGreatDoorR25
import Derived.Test.YtghfdapfnoeanaaGreatDoorR22
import Derived.Test.YtghfdapfnoeanaaGreatDoorR28
import Derived.Test.YtghfdapfnoeanaaGreatDoorR30
import Derived.Test.YtghfdapfnoeanaaGreatDoorR40
import Derived.Test.YtghfdapfnoeanaaGreatDoorRows
import Derived.WalkLawsBesides
import Derived.Laws.Rows
import Derived.Laws.Tables
import Derived.Deep.RegionHeld
import Derived.Deep.Cut
import Derived.Deep.QuietTactic
import Derived.BigQuiet
set_option linter.unusedVariables false
set_option linter.unusedSimpArgs false
namespace Go.Proofs.YtghfdapfnoeanaaGreatDoor
open Go.RowKit
namespace Vr
open Um Im Vm Lo Ro
theorem first_any (va:Option Addr) (n c:Nat) (l:List E) (w:World) (hv:LstI w (.slice va n c) l) (hn:l.length = n) (hl:n ≤ 1000000) (hz:(txI l).length ≤ 1000000) (j:Nat) (hj:j ≤ n) :
  ∃ S:ByteArray,S.size = off l j ∧ Calls Tryz.prog 16 #[.slice va j c] w fun e w'=>e = .returned (.string S) ∧ Q w w' :=
 ⟨_,by unfold off;simp [ByteArray.size],It.rtext_any _ (l.take j) w (LstI_take hv j (by omega)) (by rw [List.length_take];omega) (Nat.le_trans (txI_le l j) hz)⟩
theorem ownI_head {T:TypeId} {w:World} {B:Nat} {v:Value} {l:List E} {n:Nat} (h:OwnI T w B v l) (hn:l.length = n):∃ va c,v = .slice va n c ∧ n ≤ c ∧ c ≤ maxLen ∧ (va = none ∨ ∃ g,va = some ⟨g,0,none⟩):=by
 obtain ⟨va,c,rfl,h1,h2⟩:=h.lst.form0 hn
 refine ⟨va,c,rfl,h1,h2,?_⟩
 rcases h.2 with ⟨hv,_⟩ | ⟨g,cap,cur,hv,_⟩
 ·cases hv;exact .inl rfl
 ·cases hv;exact .inr ⟨g,rfl⟩
set_option maxRecDepth 100000 in
set_option maxHeartbeats 6400000 in
theorem stops_any (r:Lm.Rec) (X:Pt.Pat) (a b c d:Value) (g s:Bool) (e1 e2:Option Addr) (m1 m2 f1 f2:Nat) (I F:List Int) (w:World) (hO:It.LOk r X) (hL:Ro.LL w X a b c d) (hi:Lst w (.slice e1 m1 f1) I) (hf:Lst w (.slice e2 m2 f2) F) (k1:I.length = m1) (k2:F.length = m2) (l1:m1 ≤ 1000) (l2:m2 ≤ 1000) (hm:Tm.may ⟨g,I,s,F⟩ = true) :
  Calls Tryz.prog 10 #[lV r X a b c d,.agg #[.bool g,.slice e1 m1 f1,.bool s,.slice e2 m2 f2]] w fun e w'=>∃ x,e = .returned x ∧ Own w' w.heap.size x (ns (stp (itm r X.pr X.se ⟨g,I,s,F⟩ (parP r (Ro.ahd g X)) (parP r (Ro.bhd g X))) (parP r (Ro.ahd g X)).length) ((Tm.ats ⟨g,I,s,F⟩).length + 1)) ∧ Q w w':=by
 have hic:=hi.form0 k1
 obtain ⟨_,_,hv,hnc,hcm⟩:=hic
 cases hv
 have hfc:=hf.form0 k2
 obtain ⟨_,_,hv,hnf,hfm⟩:=hfc
 cases hv
 unfold maxLen at hcm hfm
 have hdg:=Tm.may_dig hm
 have HRI:=Lib.hid (fun u (q:Q w u)=>It.ritems_any r X a b c d g s e1 e2 m1 m2 f1 f2 I F u hO.ok (hL.q q) (hi.q q) (hf.q q) k1 k2 l1 l2 hm hO.pr hO.se.2)
 have HAT:=Lib.hid (fun u (q:Q w u)=>Tr.atoms_any g s e1 e2 m1 m2 f1 f2 I F u (hi.q q) (hf.q q) k1 k2 (by omega) (by omega))
 have hE:I ++ Tm.sep s ++ F = Tm.ats ⟨g,I,s,F⟩:=rfl
 rw [hE] at HAT
 have HRA:=Lib.hid (fun u (q:Q w u)=>Ro.raround_any g r X a b c d u hO.ok (hL.q q))
 have hrw:=itm_rw hO hm g
 have hah:=itm_ahead r X.pr X.se ⟨g,I,s,F⟩ (parP r (Ro.ahd g X)) (parP r (Ro.bhd g X))
 have hlen:=itm_len r X.pr X.se ⟨g,I,s,F⟩ (parP r (Ro.ahd g X)) (parP r (Ro.bhd g X))
 dsimp only at hlen
 rw [k1,k2] at hlen
 have hpl:=(Ro.around_fact hO.ok g).2.2.1
 have hpl2:=(Ro.around_fact hO.ok g).2.2.2
 have htx:=tx_len _ (itm_okT hO (d:=⟨g,I,s,F⟩) hdg.1 hdg.2.1 g)
 have hal:(Tm.ats ⟨g,I,s,F⟩).length = m1 + (Tm.sep s).length + m2:=by rw [Tm.ats_len];dsimp only;rw [k1,k2]
 have hsl:=Tm.sep_len s
 generalize Tm.ats ⟨g,I,s,F⟩ = AT at *
 generalize parP r (Ro.ahd g X) = A at *
 generalize parP r (Ro.bhd g X) = B at *
 generalize itm r X.pr X.se ⟨g,I,s,F⟩ A B = L at *
 obtain ⟨N,hN⟩:∃ N,N = m1 + (Tm.sep s).length + m2:=⟨_,rfl⟩
 rw [← hN] at hal HAT
 rw [hal] at hrw ⊢
 obtain ⟨n,hn⟩:∃ n,n = L.length:=⟨_,rfl⟩
 rw [← hn] at hlen htx
 have hnb:n ≤ 10000:=by omega
 have hNb:N ≤ 10000:=by omega
 have htb:(txI L).length ≤ 1000000:=by omega
 obtain ⟨a0,ha0⟩:∃ k,k = A.length:=⟨_,rfl⟩
 have ha0n:a0 ≤ n:=by rw [ha0,hn];exact hah.1
 rw [← ha0]
 have HAN:=Lib.hid hal
 have HA0:=Lib.hid ha0.symm
 have HN:=Lib.hid hn.symm
 have HFT:=Lib.hid (fun va c u (h:LstI u (.slice va n c) L) j (hj:j ≤ n)=>first_any va n c L u h hn.symm (by omega) htb j hj)
 have HS0:=Lib.hid (show ns (stp L a0) 0 = [] from rfl)
 have HSS:=Lib.hid (ns_succ (stp L a0))
 have HSL:=Lib.hid (ns_len (stp L a0))
 have HST0:=Lib.hid (stp_zero L a0)
 have HF0:=Lib.hid (sofar_zero L)
 have HFS:=Lib.hid (fun k i (hi:i < n)=>sofar_step hrw k i (by omega))
 have HFE:=Lib.hid (fun k (hk:k + 1 ≤ N)=>show sofar L (k + 1) n = stp L a0 (k + 1) by rw [hn];exact sofar_end hrw a0 k hk)
 have HOB:=Lib.hid (fun k (h:k ≤ n)=>Nat.le_trans (off_le L (show k ≤ L.length by omega) (Nat.le_refl _)) (by rw [off_all];exact htb))
 obtain ⟨a1,a2,rfl⟩:=hL.1.shape
 obtain ⟨b1,b2,rfl⟩:=hL.2.1.shape
 obtain ⟨c1,c2,rfl⟩:=hL.2.2.1.shape
 obtain ⟨d1,d2,rfl⟩:=hL.2.2.2.shape
 clear hi hf hL hO hm hdg hrw hah hlen htx hn hN ha0 k1 k2 hpl hpl2 htb hE hal hsl
 unfold lV at HRI HRA ⊢
 generalize X.pre.length = n1 at *
 generalize X.suf.length = n2 at *
 generalize X.npre.length = n3 at *
 generalize X.nsuf.length = n4 at *
 generalize X.pr = p0 at *
 generalize X.se = p1 at *
 generalize X.mi = p2 at *
 generalize X.mf = p3 at *
 generalize X.xf = p4 at *
 generalize Lm.bs r.nam = s0 at *
 generalize Lm.bs r.pat = s1 at *
 generalize Lm.bs r.sys = s2 at *
 generalize Lm.bs r.dec = s3 at *
 generalize Lm.bs r.grp = s4 at *
 generalize Lm.bs r.min = s5 at *
 generalize Lm.bs r.per = s6 at *
 generalize Lm.bs r.cur = s7 at *
 obtain ⟨y,hy⟩:∃ z,z = w.alloc (.cells #[.string s0,.string s1,.string s2,.string s3,.string s4,.string s5,.string s6,.string s7,.slice a1 n1 a2,.slice b1 n2 b2,.slice c1 n3 c2,.slice d1 n4 d2,.int .i64 p0,.int .i64 p1,.int .i64 p2,.int .i64 p3,.int .i64 p4] 34):=⟨_,rfl⟩
 have hqy:Q w y:=by rw [hy];exact (Q.refl w).alloc _
 have hly:Bk y w.heap.size 34 [.string s0,.string s1,.string s2,.string s3,.string s4,.string s5,.string s6,.string s7,.slice a1 n1 a2,.slice b1 n2 b2,.slice c1 n3 c2,.slice d1 n4 d2,.int .i64 p0,.int .i64 p1,.int .i64 p2,.int .i64 p3,.int .i64 p4]:=by rw [hy];exact Bk.new _ _ _
 obtain ⟨z,hz⟩:∃ z,z = y.alloc (.cells #[.bool g,.slice e1 m1 f1,.bool s,.slice e2 m2 f2] 26):=⟨_,rfl⟩
 have hqz:Q y z:=by rw [hz];exact (Q.refl y).alloc _
 have HQZ:=Lib.hid (hqy.trans hqz)
 have HLZ:=Lib.hid (hly.q hqz)
 have hsy:y.heap.size = w.heap.size + 1:=by rw [hy];simp
 have hdz:Bk z y.heap.size 26 [.bool g,.slice e1 m1 f1,.bool s,.slice e2 m2 f2]:=by rw [hz];exact Bk.new _ _ _
 rw [hsy] at hdz
 have HDZ:=Lib.hid hdz
 have hz2:z = (w.alloc (.cells #[.string s0,.string s1,.string s2,.string s3,.string s4,.string s5,.string s6,.string s7,.slice a1 n1 a2,.slice b1 n2 b2,.slice c1 n3 c2,.slice d1 n4 d2,.int .i64 p0,.int .i64 p1,.int .i64 p2,.int .i64 p3,.int .i64 p4] 34)).alloc (.cells #[.bool g,.slice e1 m1 f1,.bool s,.slice e2 m2 f2] 26):=by rw [hz,hy]
 obtain ⟨bL,hbL⟩:∃ b,b = w.heap.size:=⟨_,rfl⟩
 obtain ⟨bD,hbD⟩:∃ b,b = w.heap.size + 1:=⟨_,rfl⟩
 clear hqy hqz hsy hdz hz hy hly
 go_enter Tryz.func10,Tryz.ntmps10
 go_upto_region 1 with fail
 rw [← hz2,← hbD,← hbL]
 rw [← hbL] at HLZ
 rw [← hbD] at HDZ
 clear hz2 hbL hbD
 have x0:=HDZ.out.cell 0 rfl
 have x1:=HDZ.out.cell 1 rfl
 have x2:=HDZ.out.cell 2 rfl
 have x3:=HDZ.out.cell 3 rfl
 go_wp2_with (refine wpList_load_row (by rfl) 34 _ (by rfl) bL (by rfl) 34 #[.string s0,.string s1,.string s2,.string s3,.string s4,.string s5,.string s6,.string s7,.slice a1 n1 a2,.slice b1 n2 b2,.slice c1 n3 c2,.slice d1 n4 d2,.int .i64 p0,.int .i64 p1,.int .i64 p2,.int .i64 p3,.int .i64 p4] (0,0) _ HLZ.out Tryz.underlying34 rfl (by exact infoL) ?_)
 clear x0 x1 x2 x3
 refine (HRI.out _ HQZ.out).mono ?_
 rintro e w1 ⟨v1,rfl,hl1,hq1⟩
 obtain ⟨va,vc,rfl,hvc1,hvc2,hva⟩:=ownI_head hl1 HN.out
 unfold maxLen at hvc2
 have HL1:=Lib.hid hl1.lst
 have HVA:=Lib.hid hva
 have HQ1:=Lib.hid (HQZ.out.trans hq1)
 have HD1:=Lib.hid (HDZ.out.q hq1)
 have HX1:=Lib.hid (HLZ.out.q hq1)
 clear hl1 hq1 hva HDZ HLZ HRI
 have x0:=HD1.out.cell 0 rfl
 have x1:=HD1.out.cell 1 rfl
 have x2:=HD1.out.cell 2 rfl
 have x3:=HD1.out.cell 3 rfl
 go_wp2_with fail
 refine (HAT.out _ HQ1.out).mono ?_
 rintro e w2 ⟨ta,tc,rfl,ht2,hq2⟩
 have htc:=ht2.lst.form0 HAN.out
 obtain ⟨_,_,hv,_,_⟩:=htc
 cases hv
 have HQ2:=Lib.hid (HQ1.out.trans hq2)
 have HL2:=Lib.hid (HL1.out.q hq2)
 have HD2:=Lib.hid (HD1.out.q hq2)
 have HX2:=Lib.hid (HX1.out.q hq2)
 have HV:=Lib.hid (fun u (q:Q w2 u) k (h:k < n)=>(HL2.out.q q).cellOf HN.out h)
 have HTX:=Lib.hid (fun u (q:Q w2 u) j (h:j ≤ n)=>HFT.out va vc u (HL2.out.q q) j h)
 have HWL:=Lib.hid HQ2.out.le
 clear ht2 hq2 x0 x1 x2 x3 HAT HD1 HX1 HL1 HFT
 go_wp2_with fail
 go_loopw [7,8] (fun x i wr=>∃ k:Nat,i = .int .i64 k ∧ k ≤ N + 1 ∧ Own wr w2.heap.size x (ns (stp L a0) k) ∧ Q w2 wr) (fun _ i _=>N + 1 - (intOf i).toNat)
 case atStart=>exact ⟨0,rfl,by omega,by rw [HS0.out];exact Own.nil _ _,Q.refl _⟩
 case round =>
  obtain ⟨k,rfl,hk,ho,hq⟩:=hrel
  obtain ⟨oa,oc,rfl,_,_⟩:=ho.lst.form0 (HSL.out k)
  have HO:=Lib.hid ho
  have HQ:=Lib.hid hq
  have HSK:=Lib.hid (HSS.out k)
  have HSLk:=Lib.hid (HSL.out k)
  clear ho hq
  by_cases hlt:k ≤ N
  ·go_upto_region 8 with fail
   go_wp2_with fail
   go_loopw [9,10] (fun x i wx=>∃ j:Nat,i = .int .i64 j ∧ j ≤ n ∧ x = .int .i64 (sofar L k j:Nat) ∧ Q wr wx) (fun _ i _=>n - (intOf i).toNat)
   case atStart=>exact ⟨0,rfl,by omega,by rw [HF0.out];rfl,Q.refl _⟩
   case round =>
    obtain ⟨j,rfl,hj,rfl,hqx⟩:=hrel
    by_cases hjn:j < n
    ·have HQX:=Lib.hid (HQ.out.trans hqx)
     obtain ⟨gg,o1,cap,hvv,hg,hcp1,hcap,y1,y2,y3⟩:=HV.out _ HQX.out j hjn
     have hjc:(j:Int) + 1 ≤ (vc:Int):=by omega
     cases hvv
     unfold maxLen at hcap
     have hfs:=HFS.out k j hjn
     obtain ⟨S,hS,hcS⟩:=HTX.out _ HQX.out (j + 1) (by omega)
     have HCS:=Lib.hid hcS
     generalize L.getD j e0 = x at *
     obtain ⟨xa,xt,xb⟩:=x
     dsimp only at y1 y2 y3 hfs
     have HQXX:=Lib.hid hqx
     clear hcS hqx
     by_cases hk0:k = 0
     ·subst hk0
      rw [if_neg (by omega)] at hfs
      have HK2:=Lib.hid hfs
      clear hfs
      go_wp2_with fail
      exact ⟨⟨j + 1,by go_num,by omega,by rw [HK2.out],HQXX.out⟩,by simp [intOf];omega⟩
     ·have hk1:(0:Int) < (k:Int):=by omega
      have hk1n:0 < k:=by omega
      by_cases hb0:0 ≤ xb
      ·by_cases hbk:xb < (k:Int)
       ·rw [if_pos ⟨hb0,hbk⟩] at hfs
        have HK2:=Lib.hid hfs
        clear hfs
        go_wp2_with fail
        refine HCS.out.mono ?_
        rintro e w5 ⟨rfl,hq5⟩
        have HQ5:=Lib.hid (HQXX.out.trans hq5)
        clear hq5
        go_wp2_with fail
        exact ⟨⟨j + 1,by go_num,by omega,by rw [HK2.out],HQ5.out⟩,by simp [intOf];omega⟩
       ·rw [if_neg (fun h=>hbk h.2)] at hfs
        have HK2:=Lib.hid hfs
        clear hfs
        go_wp2_with fail
        exact ⟨⟨j + 1,by go_num,by omega,by rw [HK2.out],HQXX.out⟩,by simp [intOf];omega⟩
      ·rw [if_neg (fun h=>hb0 h.1)] at hfs
       have HK2:=Lib.hid hfs
       clear hfs
       go_wp2_with fail
       exact ⟨⟨j + 1,by go_num,by omega,by rw [HK2.out],HQXX.out⟩,by simp [intOf];omega⟩
    ·obtain rfl:j = n:=by omega
     have HQX:=Lib.hid (HQ.out.trans hqx)
     have HOX:=Lib.hid (HO.out.q hqx)
     clear hqx
     by_cases hk0:k = 0
     ·subst hk0
      have HDX:=Lib.hid (HD2.out.q HQX.out)
      have HXX:=Lib.hid (HX2.out.q HQX.out)
      have x0:=HDX.out.cell 0 rfl
      go_wp2_with (refine wpList_load_row (by rfl) 34 _ (by rfl) bL (by rfl) 34 #[.string s0,.string s1,.string s2,.string s3,.string s4,.string s5,.string s6,.string s7,.slice a1 n1 a2,.slice b1 n2 b2,.slice c1 n3 c2,.slice d1 n4 d2,.int .i64 p0,.int .i64 p1,.int .i64 p2,.int .i64 p3,.int .i64 p4] (0,0) _ HXX.out Tryz.underlying34 rfl (by exact infoL) ?_)
      refine (HRA.out _ (HQ2.out.trans HQX.out)).mono ?_
      rintro e w5 ⟨q1,q2,rfl,hu1,hu2,hq5⟩
      obtain ⟨qa,qc,rfl,_,_⟩:=hu1.form0 HA0.out
      obtain ⟨qb,qd,rfl,_,_⟩:=hu2.shape2
      have HQ5:=Lib.hid (HQX.out.trans hq5)
      have HO5:=Lib.hid (HOX.out.q hq5)
      obtain ⟨S,hS,hcS⟩:=HTX.out _ HQ5.out a0 ha0n
      have HCS:=Lib.hid hcS
      have HSZ:=Lib.hid (show stp L a0 0 = S.size by rw [HST0.out,hS])
      have ha0c:(a0:Int) ≤ (vc:Int):=by omega
      clear hu1 hu2 hq5 hcS hS x0 HOX
      rcases HVA.out with rfl | ⟨gv,rfl⟩
      all_goals
       go_wp2_with fail
       refine HCS.out.mono ?_
       rintro e w6 ⟨rfl,hq6⟩
       have HQ6:=Lib.hid (HQ5.out.trans hq6)
       have HO6:=Lib.hid (HO5.out.q hq6)
       have hle6:=HQ6.out.le
       clear hq6
       go_wp2_with (at_builtin;refine push_int HO6.out rfl _ _ rfl (S.size:Int) (by rfl) (by rfl) (by rw [HSLk.out];omega) hle6 ?_)
       intro v' w7 ho7 hg7 hat7
       have HQ7:=Lib.hid (HQ6.out.grown hg7 (fun j h=>(HO6.out.lt j h).1))
       have HO7:=Lib.hid (show Own w7 w2.heap.size v' (ns (stp L a0) (0 + 1)) by rw [HSK.out,HSZ.out];exact ho7)
       clear ho7 hg7 hat7
       go_wp2_with fail
       exact ⟨⟨0 + 1,by go_num,by omega,HO7.out,HQ7.out⟩,by simp [intOf]⟩
     ·have hne:((k:Int) == 0) = false:=by rw [beq_eq_false_iff_ne];omega
      have HSZ:=Lib.hid (show stp L a0 k = sofar L k j by
       obtain ⟨k',rfl⟩:∃ q,k = q + 1:=⟨k - 1,by omega⟩
       exact (HFE.out k' (by omega)).symm)
      have hle6:=HQX.out.le
      go_wp2_with (at_builtin;refine push_int HOX.out rfl _ _ rfl (sofar L k j:Int) (by rfl) (by rfl) (by rw [HSLk.out];omega) hle6 ?_)
      intro v' w7 ho7 hg7 hat7
      have HQ7:=Lib.hid (HQX.out.grown hg7 (fun j h=>(HOX.out.lt j h).1))
      have HO7:=Lib.hid (show Own w7 w2.heap.size v' (ns (stp L a0) (k + 1)) by rw [HSK.out,HSZ.out];exact ho7)
      clear ho7 hg7 hat7
      go_wp2_with fail
      exact ⟨⟨k + 1,by go_num,by omega,HO7.out,HQ7.out⟩,by simp [intOf];omega⟩
  ·obtain rfl:k = N + 1:=by omega
   have hkN:¬ ((N:Int) + 1 ≤ (N:Int)):=by omega
   go_wp2_with fail
   go_ret
   exact ⟨_,rfl,HO.out.mono HWL.out,HQ2.out.trans HQ.out⟩
set_option maxHeartbeats 1600000 in
theorem atom_any (v:Value) (f:Nat → Nat) (m:Nat) (x:Int) (w:World) (hv:Lst w v (ns f m)) (hl:m ≤ 1000000) :
  Calls Tryz.prog 20 #[v,.int .i64 x] w fun e w'=>e = .returned (.int .i64 ((near (fun k=>((f k:Nat):Int)) x m:Nat):Int)) ∧ Q w w':=by
 obtain ⟨va,vc,rfl,_,_⟩:=hv.form0 (ns_len f m)
 have HV:=Lib.hid (fun u (q:Q w u) k (h:k < m)=>(hv.q q).cellOf (ns_len f m) h)
 have HA:=Lib.hid (fun k (h:k < m)=>ns_at f h)
 have HN:=Lib.hid (near_succ (fun k=>((f k:Nat):Int)) x)
 have H0:=Lib.hid (near_zero (fun k=>((f k:Nat):Int)) x)
 clear hv
 go_enter Tryz.func20,Tryz.ntmps20
 go_wp2_with fail
 go_loopw [5,6] (fun v i wr=>∃ k:Nat,i = .int .i64 k ∧ k ≤ m ∧ v = .int .i64 ((near (fun k=>((f k:Nat):Int)) x k:Nat):Int) ∧ Q w wr) (fun _ i _=>m - (intOf i).toNat)
 case atStart=>exact ⟨0,rfl,by omega,by rw [H0.out];rfl,Q.refl _⟩
 case round =>
  obtain ⟨k,rfl,hk,rfl,hq⟩:=hrel
  by_cases hlt:k < m
  ·obtain ⟨gg,o1,cap,hvv,hg,_,_,y1⟩:=HV.out wr hq k hlt
   cases hvv
   rw [HA.out k hlt] at y1
   have hn:=HN.out k
   try dsimp only at hn
   generalize f k = t at *
   by_cases ht:((t:Nat):Int) ≤ x
   ·rw [if_pos ht] at hn
    have HK2:=Lib.hid hn
    clear hn
    go_wp2_with fail
    exact ⟨⟨k + 1,by go_num,by omega,by rw [HK2.out],hq⟩,by simp [intOf];omega⟩
   ·rw [if_neg ht] at hn
    have HK2:=Lib.hid hn
    clear hn
    go_wp2_with fail
    exact ⟨⟨k + 1,by go_num,by omega,by rw [HK2.out],hq⟩,by simp [intOf];omega⟩
  ·obtain rfl:k = m:=by omega
   go_wp2_with fail
   go_ret
   exact ⟨rfl,hq⟩
theorem tag_at' (l:List E) (x:Int) (k:Nat) (h:k < l.length):tag l x (l.length - k) = if (off l k:Int) ≤ x ∧ x < (off l k:Int) + ((l.getD k e0).2.1.size:Int) then (l.getD k e0).1 else tag l x (l.length - (k + 1)):=by
 obtain ⟨m,hm⟩:∃ m,l.length - k = m + 1:=⟨l.length - k - 1,by omega⟩
 rw [hm,show l.length - (k + 1) = m from by omega]
 conv=>lhs;unfold tag
 dsimp only
 rw [show l.length - (m + 1) = k from by omega]
set_option maxHeartbeats 3200000 in
theorem tag_any (v:Value) (l:List E) (x:Int) (w:World) (hv:LstI w v l) (hl:l.length ≤ 10000) (hz:(txI l).length ≤ 1000000) :
  Calls Tryz.prog 22 #[v,.int .i64 x] w fun e w'=>e = .returned (.int .i64 (tag l x l.length)) ∧ Q w w':=by
 obtain ⟨n,hn⟩:∃ n,n = l.length:=⟨_,rfl⟩
 obtain ⟨va,vc,rfl,hvc1,hvc2⟩:=hv.form0 hn.symm
 unfold maxLen at hvc2
 have HV:=Lib.hid (fun u (q:Q w u) k (h:k < n)=>(hv.q q).cellOf hn.symm h)
 have HT:=Lib.hid (fun u (q:Q w u) j (hj:j ≤ n)=>first_any va n vc l u (hv.q q) hn.symm (by omega) hz j hj)
 have ht:=tag_at' l x
 rw [← hn] at ht
 have HTA:=Lib.hid ht
 have H0:=Lib.hid (show tag l x 0 = -1 from rfl)
 have HOB:=Lib.hid (fun k (h:k < n)=>show off l k + (l.getD k e0).2.1.size ≤ 1000000 by
  rw [← off_succ l k (by omega)]
  exact Nat.le_trans (off_le l (show k + 1 ≤ l.length by omega) (Nat.le_refl _)) (by rw [off_all];exact hz))
 rw [← hn] at hl ⊢
 have HR:Hid (tag l x n = tag l x (n - 0)):=Lib.hid rfl
 obtain ⟨R,hR⟩:∃ R,R = tag l x n:=⟨_,rfl⟩
 rw [← hR] at HR ⊢
 clear hv hz hn ht hR
 go_enter Tryz.func22,Tryz.ntmps22
 go_wp2_with fail
 go_loopw [5] (fun i wr=>∃ k:Nat,i = .int .i64 k ∧ k ≤ n ∧ Hid (R = tag l x (n - k)) ∧ Q w wr) (fun i _=>n - (intOf i).toNat)
 case atStart=>exact ⟨0,rfl,by omega,HR,Q.refl _⟩
 case round =>
  obtain ⟨k,rfl,hk,HRK,hq⟩:=hrel
  by_cases hlt:k < n
  ·obtain ⟨gg,o1,cap,hvv,hg,hcp,hcap,y1,y2,y3⟩:=HV.out wr hq k hlt
   cases hvv
   unfold maxLen at hcap
   obtain ⟨S,hS,hcS⟩:=HT.out wr hq k hk
   have hta:=HTA.out k hlt
   have hob:=HOB.out k hlt
   have hrk:=HRK.out
   have HVK:=Lib.hid (show ∀ u,Q w u → u.cell? ⟨gg,o1 + k * 3,none⟩ = some (.int .i64 (l.getD k e0).1) ∧ u.cell? ⟨gg,o1 + k * 3 + 1,none⟩ = some (.string (l.getD k e0).2.1) from fun u q=>by
    obtain ⟨_,_,_,h1,_,_,_,h2,h3,_⟩:=HV.out u q k hlt
    cases h1
    exact ⟨h2,h3⟩)
   generalize l.getD k e0 = t at *
   obtain ⟨xa,xt,xb⟩:=t
   dsimp only at y1 y2 y3 hta hob HVK
   rw [← hS] at hta hob
   rw [hta] at hrk
   have HCS:=Lib.hid hcS
   have hsum:(S.size:Int) + (xt.size:Int) ≤ 1000000:=by omega
   clear hcS hta y1 y2 y3 HRK hS
   by_cases c1:(S.size:Int) ≤ x
   ·by_cases c2:x < (S.size:Int) + (xt.size:Int)
    ·rw [if_pos ⟨c1,c2⟩] at hrk
     subst hrk
     go_wp2_with fail
     refine HCS.out.mono ?_
     rintro e w5 ⟨rfl,hq5⟩
     have HQ5:=Lib.hid (hq.trans hq5)
     obtain ⟨y1,y2⟩:=HVK.out _ HQ5.out
     clear hq5 hq
     go_wp2_with fail
     go_ret
     exact ⟨rfl,HQ5.out⟩
    ·rw [if_neg (fun h=>c2 h.2)] at hrk
     have HRN:=Lib.hid hrk
     clear hrk
     go_wp2_with fail
     refine HCS.out.mono ?_
     rintro e w5 ⟨rfl,hq5⟩
     have HQ5:=Lib.hid (hq.trans hq5)
     obtain ⟨y1,y2⟩:=HVK.out _ HQ5.out
     clear hq5 hq
     go_wp2_with fail
     exact ⟨⟨k + 1,by go_num,by omega,HRN,HQ5.out⟩,by simp [intOf];omega⟩
   ·rw [if_neg (fun h=>c1 h.1)] at hrk
    have HRN:=Lib.hid hrk
    clear hrk
    go_wp2_with fail
    refine HCS.out.mono ?_
    rintro e w5 ⟨rfl,hq5⟩
    have HQ5:=Lib.hid (hq.trans hq5)
    clear hq5 hq
    go_wp2_with fail
    exact ⟨⟨k + 1,by go_num,by omega,HRN,HQ5.out⟩,by simp [intOf];omega⟩
  ·obtain rfl:k = n:=by omega
   have hrk:=HRK.out
   rw [Nat.sub_self,H0.out] at hrk
   subst hrk
   go_wp2_with fail
   go_ret
   exact ⟨rfl,hq⟩
end Vr
end Go.Proofs.YtghfdapfnoeanaaGreatDoor
