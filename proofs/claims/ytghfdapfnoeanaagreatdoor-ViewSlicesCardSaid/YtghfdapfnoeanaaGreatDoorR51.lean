/- The text between two stops is what stands there, or there is none. (and more) -/
import Derived.Test.YtghfdapfnoeanaaGreatDoorR00
import Derived.Test.YtghfdapfnoeanaaGreatDoorR02
import Derived.Test.YtghfdapfnoeanaaGreatDoorR01
import Derived.Test.YtghfdapfnoeanaaGreatDoorR08
import Derived.Test.YtghfdapfnoeanaaGreatDoorR37
import Derived.Test.YtghfdapfnoeanaaGreatDoorR39
import Derived.Test.YtghfdapfnoeanaaGreatDoorR38
import Derived.Test.YtghfdapfnoeanaaGreatDoorR12
import Derived.Test.YtghfdapfnoeanaaGreatDoorR04
import Derived.Test.YtghfdapfnoeanaaGreatDoorR36
import Derived.Test.YtghfdapfnoeanaaGreatDoorR25
import Derived.Test.YtghfdapfnoeanaaGreatDoorR06
import Derived.Test.YtghfdapfnoeanaaGreatDoorR28
import Derived.Test.YtghfdapfnoeanaaGreatDoorR30
import Derived.Test.YtghfdapfnoeanaaGreatDoorR46
import Derived.Test.YtghfdapfnoeanaaGreatDoorR40
import Derived.Test.YtghfdapfnoeanaaGreatDoorR42
import Derived.Test.YtghfdapfnoeanaaGreatDoorR41
import Derived.Test.YtghfdapfnoeanaaGreatDoorRows
import Derived.Laws.Rows
import Derived.Laws.Tables
import Derived.Deep.RegionHeld
import Derived.Deep.Cut
import Derived.Deep.QuietTactic
import Derived.BigQuiet
set_option linter.unusedVariables false
set_option linter.unusedSimpArgs false
namespace Go.Proofs.YtghfdapfnoeanaaGreatDoor
open Go.RowKit
namespace Vw
open Um Im Vm Lo Ro
set_option maxRecDepth 100000 in
set_option maxHeartbeats 8000000 in
theorem law_slices (g0 g1 g2 g3 g4 g5 n:Int) (dg ds:Bool) (e1 e2:Option Addr) (m1 m2 f1 f2:Nat) (DI DF:List Int) (ai:Int) (bai:-9223372036854775808 ≤ ai ∧ ai ≤ 9223372036854775807) (aj:Int) (baj:-9223372036854775808 ≤ aj ∧ aj ≤ 9223372036854775807) (w:World) (h0:-9223372036854775808 ≤ g0 ∧ g0 ≤ 9223372036854775807) (h1:-9223372036854775808 ≤ g1 ∧ g1 ≤ 9223372036854775807) (h2:-9223372036854775808 ≤ g2 ∧ g2 ≤ 9223372036854775807) (h3:-9223372036854775808 ≤ g3 ∧ g3 ≤ 9223372036854775807) (h4:-9223372036854775808 ≤ g4 ∧ g4 ≤ 9223372036854775807) (h5:-9223372036854775808 ≤ g5 ∧ g5 ≤ 9223372036854775807) (hn:-9223372036854775808 ≤ n ∧ n ≤ 9223372036854775807) (hi:Lst w (.slice e1 m1 f1) DI) (hf:Lst w (.slice e2 m2 f2) DF) (q1:DI.length = m1) (q2:DF.length = m2) (bi:∀ n ∈ DI,-9223372036854775808 ≤ n ∧ n ≤ 9223372036854775807) (bf:∀ n ∈ DF,-9223372036854775808 ≤ n ∧ n ≤ 9223372036854775807) :
  Calls Tryz.prog 7 #[.agg #[.int .i64 g0,.int .i64 g1,.int .i64 g2,.int .i64 g3,.int .i64 g4,.int .i64 g5],.int .i64 n,.agg #[.bool dg,.slice e1 m1 f1,.bool ds,.slice e2 m2 f2],.int .i64 ai,.int .i64 aj] w fun e w'=>e = .returned (.bool true) ∧ Q w w':=by
 have HBE:=Lib.hid (fun u (q:Q w u)=>begin_any g0 g1 g2 g3 g4 g5 n dg ds e1 e2 m1 m2 f1 f2 DI DF u h0 h1 h2 h3 h4 h5 hn (hi.q q) (hf.q q) q1 q2 bi bf)
 have hic:=hi.form0 q1
 obtain ⟨_,_,hv,hnc,hcm⟩:=hic
 cases hv
 have hfc:=hf.form0 q2
 obtain ⟨_,_,hv,hnf,hfm⟩:=hfc
 cases hv
 unfold maxLen at hcm hfm
 clear hi hf q1 q2 bi bf h0 h1 h2 h3 h4 h5 hn
 obtain ⟨y,hy⟩:∃ z,z = w.alloc (.cells #[.int .i64 g0,.int .i64 g1,.int .i64 g2,.int .i64 g3,.int .i64 g4,.int .i64 g5] 23):=⟨_,rfl⟩
 have hqy:Q w y:=by rw [hy];exact (Q.refl w).alloc _
 have hgy:Bk y w.heap.size 23 [.int .i64 g0,.int .i64 g1,.int .i64 g2,.int .i64 g3,.int .i64 g4,.int .i64 g5]:=by rw [hy];exact Bk.new _ _ _
 obtain ⟨z,hz⟩:∃ z,z = y.alloc (.cells #[.bool dg,.slice e1 m1 f1,.bool ds,.slice e2 m2 f2] 26):=⟨_,rfl⟩
 have hqz:Q y z:=by rw [hz];exact (Q.refl y).alloc _
 have HQZ:=Lib.hid (hqy.trans hqz)
 have HGZ:=Lib.hid (hgy.q hqz)
 have hsy:y.heap.size = w.heap.size + 1:=by rw [hy];simp
 have hdz:Bk z y.heap.size 26 [.bool dg,.slice e1 m1 f1,.bool ds,.slice e2 m2 f2]:=by rw [hz];exact Bk.new _ _ _
 rw [hsy] at hdz
 have HDZ:=Lib.hid hdz
 have hz2:z = (w.alloc (.cells #[.int .i64 g0,.int .i64 g1,.int .i64 g2,.int .i64 g3,.int .i64 g4,.int .i64 g5] 23)).alloc (.cells #[.bool dg,.slice e1 m1 f1,.bool ds,.slice e2 m2 f2] 26):=by rw [hz,hy]
 obtain ⟨bG,hbG⟩:∃ b,b = w.heap.size:=⟨_,rfl⟩
 obtain ⟨bE,hbE⟩:∃ b,b = w.heap.size + 1:=⟨_,rfl⟩
 clear hqy hgy hqz hsy hdz hz hy
 go_enter Tryz.func7,Tryz.ntmps7
 go_upto_region 1 with fail
 rw [← hz2,← hbE,← hbG]
 rw [← hbG] at HGZ
 rw [← hbE] at HDZ
 clear hz2 hbG hbE
 have cg0:=HGZ.out.cell 0 rfl
 have cg1:=HGZ.out.cell 1 rfl
 have cg2:=HGZ.out.cell 2 rfl
 have cg3:=HGZ.out.cell 3 rfl
 have cg4:=HGZ.out.cell 4 rfl
 have cg5:=HGZ.out.cell 5 rfl
 have cd0:=HDZ.out.cell 0 rfl
 have cd1:=HDZ.out.cell 1 rfl
 have cd2:=HDZ.out.cell 2 rfl
 have cd3:=HDZ.out.cell 3 rfl
 go_wp2_with fail
 clear cg0 cg1 cg2 cg3 cg4 cg5 cd0 cd1 cd2 cd3 HGZ HDZ
 refine (HBE.out _ HQZ.out).mono ?_
 rintro e w1 ⟨r,X,B,v,la,lb,lc,ld,tg,ts,TI,TF,i1,i2,k1,k2,j1,j2,hok,hnew,hmay,hk1,hk2,hb1,hb2,hli,hlf,rfl,hll,hvo,hq1⟩
 clear HBE
 obtain ⟨a1,a2,rfl⟩:=hll.1.shape
 obtain ⟨b1,b2,rfl⟩:=hll.2.1.shape
 obtain ⟨c1,c2,rfl⟩:=hll.2.2.1.shape
 obtain ⟨d1,d2,rfl⟩:=hll.2.2.2.shape
 have hic3:=hli.form0 hk1
 obtain ⟨_,_,hv,hnc3,hcm3⟩:=hic3
 cases hv
 have hfc3:=hlf.form0 hk2
 obtain ⟨_,_,hv,hnf3,hfm3⟩:=hfc3
 cases hv
 unfold maxLen at hcm3 hfm3
 have HOK:=Lib.hid hok
 have HMAY:=Lib.hid hmay
 have HK1:=Lib.hid hk1
 have HK2:=Lib.hid hk2
 have hqa:Q w1 ((w1.alloc (.cells #[.string ⟨#[]⟩,.string ⟨#[]⟩,.string ⟨#[]⟩,.string ⟨#[]⟩,.string ⟨#[]⟩,.string ⟨#[]⟩,.string ⟨#[]⟩,.string ⟨#[]⟩,.slice none 0 0,.slice none 0 0,.slice none 0 0,.slice none 0 0,.int .i64 0,.int .i64 0,.int .i64 0,.int .i64 0,.int .i64 0] 34)).alloc (.cells #[.bool false,.slice none 0 0,.bool false,.slice none 0 0] 26)):=((Q.refl w1).alloc _).alloc _
 have HL0:=Lib.hid (show Bk ((w1.alloc (.cells #[.string ⟨#[]⟩,.string ⟨#[]⟩,.string ⟨#[]⟩,.string ⟨#[]⟩,.string ⟨#[]⟩,.string ⟨#[]⟩,.string ⟨#[]⟩,.string ⟨#[]⟩,.slice none 0 0,.slice none 0 0,.slice none 0 0,.slice none 0 0,.int .i64 0,.int .i64 0,.int .i64 0,.int .i64 0,.int .i64 0] 34)).alloc (.cells #[.bool false,.slice none 0 0,.bool false,.slice none 0 0] 26)) w1.heap.size 34 zL from (Bk.new w1 _ zL).q ((Q.refl _).alloc _))
 have HD0:=Lib.hid (show Bk ((w1.alloc (.cells #[.string ⟨#[]⟩,.string ⟨#[]⟩,.string ⟨#[]⟩,.string ⟨#[]⟩,.string ⟨#[]⟩,.string ⟨#[]⟩,.string ⟨#[]⟩,.string ⟨#[]⟩,.slice none 0 0,.slice none 0 0,.slice none 0 0,.slice none 0 0,.int .i64 0,.int .i64 0,.int .i64 0,.int .i64 0,.int .i64 0] 34)).alloc (.cells #[.bool false,.slice none 0 0,.bool false,.slice none 0 0] 26)) (w1.heap.size + 1) 26 zD by
  have h:=Bk.new (w1.alloc (.cells #[.string ⟨#[]⟩,.string ⟨#[]⟩,.string ⟨#[]⟩,.string ⟨#[]⟩,.string ⟨#[]⟩,.string ⟨#[]⟩,.string ⟨#[]⟩,.string ⟨#[]⟩,.slice none 0 0,.slice none 0 0,.slice none 0 0,.slice none 0 0,.int .i64 0,.int .i64 0,.int .i64 0,.int .i64 0,.int .i64 0] 34)) 26 zD
  rwa [show (w1.alloc (.cells #[.string ⟨#[]⟩,.string ⟨#[]⟩,.string ⟨#[]⟩,.string ⟨#[]⟩,.string ⟨#[]⟩,.string ⟨#[]⟩,.string ⟨#[]⟩,.string ⟨#[]⟩,.slice none 0 0,.slice none 0 0,.slice none 0 0,.slice none 0 0,.int .i64 0,.int .i64 0,.int .i64 0,.int .i64 0,.int .i64 0] 34)).heap.size = w1.heap.size + 1 from by simp] at h)
 have HD1:=Lib.hid (Rw.Bk_other HD0.out (show w1.heap.size + 1 ≠ w1.heap.size by omega) #[.string (Lm.bs r.nam),.string (Lm.bs r.pat),.string (Lm.bs r.sys),.string (Lm.bs r.dec),.string (Lm.bs r.grp),.string (Lm.bs r.min),.string (Lm.bs r.per),.string (Lm.bs r.cur),.slice a1 X.pre.length a2,.slice b1 X.suf.length b2,.slice c1 X.npre.length c2,.slice d1 X.nsuf.length d2,.int .i64 X.pr,.int .i64 X.se,.int .i64 X.mi,.int .i64 X.mf,.int .i64 X.xf])
 obtain ⟨w2,hw2⟩:∃ u,u = (((w1.alloc (.cells #[.string ⟨#[]⟩,.string ⟨#[]⟩,.string ⟨#[]⟩,.string ⟨#[]⟩,.string ⟨#[]⟩,.string ⟨#[]⟩,.string ⟨#[]⟩,.string ⟨#[]⟩,.slice none 0 0,.slice none 0 0,.slice none 0 0,.slice none 0 0,.int .i64 0,.int .i64 0,.int .i64 0,.int .i64 0,.int .i64 0] 34)).alloc (.cells #[.bool false,.slice none 0 0,.bool false,.slice none 0 0] 26)).setRow w1.heap.size #[.string (Lm.bs r.nam),.string (Lm.bs r.pat),.string (Lm.bs r.sys),.string (Lm.bs r.dec),.string (Lm.bs r.grp),.string (Lm.bs r.min),.string (Lm.bs r.per),.string (Lm.bs r.cur),.slice a1 X.pre.length a2,.slice b1 X.suf.length b2,.slice c1 X.npre.length c2,.slice d1 X.nsuf.length d2,.int .i64 X.pr,.int .i64 X.se,.int .i64 X.mi,.int .i64 X.mf,.int .i64 X.xf]).setRow (w1.heap.size + 1) #[.bool tg,.slice i1 k1 j1,.bool ts,.slice i2 k2 j2]:=⟨_,rfl⟩
 have hq12:Q w1 w2:=by rw [hw2];exact Rw.Q_row (Rw.Q_row hqa (Nat.le_refl _) _) (Nat.le_succ _) _
 have HLX:=Lib.hid (show Bk w2 w1.heap.size 34 [.string (Lm.bs r.nam),.string (Lm.bs r.pat),.string (Lm.bs r.sys),.string (Lm.bs r.dec),.string (Lm.bs r.grp),.string (Lm.bs r.min),.string (Lm.bs r.per),.string (Lm.bs r.cur),.slice a1 X.pre.length a2,.slice b1 X.suf.length b2,.slice c1 X.npre.length c2,.slice d1 X.nsuf.length d2,.int .i64 X.pr,.int .i64 X.se,.int .i64 X.mi,.int .i64 X.mf,.int .i64 X.xf] by rw [hw2];exact Rw.Bk_other (Rw.Bk_row HL0.out [.string (Lm.bs r.nam),.string (Lm.bs r.pat),.string (Lm.bs r.sys),.string (Lm.bs r.dec),.string (Lm.bs r.grp),.string (Lm.bs r.min),.string (Lm.bs r.per),.string (Lm.bs r.cur),.slice a1 X.pre.length a2,.slice b1 X.suf.length b2,.slice c1 X.npre.length c2,.slice d1 X.nsuf.length d2,.int .i64 X.pr,.int .i64 X.se,.int .i64 X.mi,.int .i64 X.mf,.int .i64 X.xf]) (by omega) _)
 have HDX:=Lib.hid (show Bk w2 (w1.heap.size + 1) 26 [.bool tg,.slice i1 k1 j1,.bool ts,.slice i2 k2 j2] by rw [hw2];exact Rw.Bk_row HD1.out [.bool tg,.slice i1 k1 j1,.bool ts,.slice i2 k2 j2])
 have HQ2:=Lib.hid (HQZ.out.trans (hq1.trans hq12))
 have HLI:=Lib.hid (hli.q hq12)
 have HLF:=Lib.hid (hlf.q hq12)
 have HLL:=Lib.hid (hll.q hq12)
 have HVB:=Lib.hid (show VB w2 B v _ _ _ from VO.q hvo hq12)
 have hal:(Tm.ats ⟨tg,TI,ts,TF⟩).length = k1 + (Tm.sep ts).length + k2:=by rw [Tm.ats_len];dsimp only;rw [hk1,hk2]
 have hsl:=Tm.sep_len ts
 have HRS:=Lib.hid (fun u (q:Q w2 u)=>Vr.stops_any r X _ _ _ _ tg ts i1 i2 k1 k2 j1 j2 TI TF u hok (HLL.out.q q) (HLI.out.q q) (HLF.out.q q) hk1 hk2 (by omega) (by omega) hmay)
 have HRI:=Lib.hid (fun u (q:Q w2 u)=>It.ritems_any r X _ _ _ _ tg ts i1 i2 k1 k2 j1 j2 TI TF u hok.ok (HLL.out.q q) (HLI.out.q q) (HLF.out.q q) hk1 hk2 (by omega) (by omega) hmay hok.pr hok.se.2)
 have hrw:=itm_rw hok hmay tg
 have hah:=itm_ahead r X.pr X.se ⟨tg,TI,ts,TF⟩ (parP r (Ro.ahd tg X)) (parP r (Ro.bhd tg X))
 have hil:=itm_len r X.pr X.se ⟨tg,TI,ts,TF⟩ (parP r (Ro.ahd tg X)) (parP r (Ro.bhd tg X))
 dsimp only at hil
 rw [hk1,hk2] at hil
 have hpl:=(Ro.around_fact hok.ok tg).2.2.1
 have hpl2:=(Ro.around_fact hok.ok tg).2.2.2
 have hdg:=Tm.may_dig hmay
 have hokt:=itm_okT hok (d:=⟨tg,TI,ts,TF⟩) hdg.1 hdg.2.1 tg
 have htx:=tx_len _ hokt
 dsimp only at HVB HRS HRI
 generalize itm r X.pr X.se ⟨tg,TI,ts,TF⟩ (parP r (Ro.ahd tg X)) (parP r (Ro.bhd tg X)) = L at *
 obtain ⟨a0,ha0⟩:∃ k,k = (parP r (Ro.ahd tg X)).length:=⟨_,rfl⟩
 rw [← ha0] at hah HVB HRS
 rw [hal] at hrw HVB HRS
 obtain ⟨N,hN⟩:∃ N,N = k1 + (Tm.sep ts).length + k2:=⟨_,rfl⟩
 rw [← hN] at hrw HVB hal  HRS
 have hNb:N ≤ 19:=by omega
 obtain ⟨nL,hnL⟩:∃ n,n = L.length:=⟨_,rfl⟩
 rw [← hnL] at hil htx
 have hnb:nL ≤ 41:=by omega
 have htb:(txI L).length ≤ 2624:=by omega
 have HNL:=Lib.hid hnL.symm
 have HTB:=Lib.hid htb
 have HNN:=Lib.hid hal
 have HRW:=Lib.hid hrw
 have hst:∀ i j,i < j → j ≤ N → stp L a0 i < stp L a0 j:=fun i j h1 h2=>stp_lt hrw hah h1 h2
 have HST:=Lib.hid hst
 have HSB:=Lib.hid (fun k (h:k ≤ N)=>Nat.le_trans (stp_le hrw hah h) htb)
 have HIN:=Lib.hid (fun u (q:Q w2 u) i j (h1:i ≤ j) (h2:j ≤ N)=>slice_in B v L (stp L a0) N i j u (HVB.out.q q) (by omega) h1 h2 (by
  rcases Nat.lt_or_ge i j with h | h
  ·exact Nat.le_of_lt (hst i j h h2)
  ·rw [show i = j from by omega];exact Nat.le_refl _) (stp_le hrw hah h2))
 have HMO:=Lib.hid (show ∀ i j,i ≤ j → j ≤ N → stp L a0 i ≤ stp L a0 j from fun i j h1 h2=>by
  rcases Nat.lt_or_ge i j with h | h
  ·exact Nat.le_of_lt (hst i j h h2)
  ·rw [show i = j from by omega];exact Nat.le_refl _)
 have HSE:=Lib.hid (fun k (h:k ≤ N)=>stp_le hrw hah h)
 have HOU:=Lib.hid (fun u (q:Q w2 u) i j ho=>slice_out B v L (stp L a0) N i j u (HVB.out.q q) (by omega) ho)
 clear hli hlf hll hvo hq1 hq12 hqa HQZ hal hsl hrw hah hil hpl hpl2 hdg htx htb hokt hN hnL ha0 hst hok hmay hnew hk1 hk2
 unfold lV
 go_upto_region 2 with (first
  | refine wpList_store_row (by rfl) 34 _ _ (by rfl) w1.heap.size #[.string (Lm.bs r.nam),.string (Lm.bs r.pat),.string (Lm.bs r.sys),.string (Lm.bs r.dec),.string (Lm.bs r.grp),.string (Lm.bs r.min),.string (Lm.bs r.per),.string (Lm.bs r.cur),.slice a1 X.pre.length a2,.slice b1 X.suf.length b2,.slice c1 X.npre.length c2,.slice d1 X.nsuf.length d2,.int .i64 X.pr,.int .i64 X.se,.int .i64 X.mi,.int .i64 X.mf,.int .i64 X.xf] (by rfl) (by rfl) 34 _ HL0.out (by exact infoL) rfl (Rw.all1 (by rfl)) ?_
  | refine wpList_store_row (by rfl) 26 _ _ (by rfl) (w1.heap.size + 1) #[.bool tg,.slice i1 k1 j1,.bool ts,.slice i2 k2 j2] (by rfl) (by rfl) 26 _ HD1.out (by exact infoD) rfl (Rw.all1 (by rfl)) ?_)
 rw [← hw2]
 clear hw2 HL0 HD0 HD1
 obtain ⟨bL,hbL⟩:∃ b,b = w1.heap.size:=⟨_,rfl⟩
 obtain ⟨bD,hbD⟩:∃ b,b = w1.heap.size + 1:=⟨_,rfl⟩
 rw [← hbD] at HDX
 rw [← hbL] at HLX
 rw [← hbD,← hbL]
 clear hbD hbL
 have x0:=HDX.out.cell 0 rfl
 have x1:=HDX.out.cell 1 rfl
 have x2:=HDX.out.cell 2 rfl
 have x3:=HDX.out.cell 3 rfl
 go_wp2_with (refine wpList_load_row (by rfl) 34 _ (by rfl) bL (by rfl) 34 #[.string (Lm.bs r.nam),.string (Lm.bs r.pat),.string (Lm.bs r.sys),.string (Lm.bs r.dec),.string (Lm.bs r.grp),.string (Lm.bs r.min),.string (Lm.bs r.per),.string (Lm.bs r.cur),.slice a1 X.pre.length a2,.slice b1 X.suf.length b2,.slice c1 X.npre.length c2,.slice d1 X.nsuf.length d2,.int .i64 X.pr,.int .i64 X.se,.int .i64 X.mi,.int .i64 X.mf,.int .i64 X.xf] (0,0) _ HLX.out Tryz.underlying34 rfl (by exact infoL) ?_)
 clear x0 x1 x2 x3
 refine (HRS.out _ (Q.refl _)).mono ?_
 rintro e w3 ⟨sv,rfl,hs3,hq3⟩
 obtain ⟨sa,sc,rfl,_,_⟩:=hs3.lst.form0 (ns_len _ (N + 1))
 have HS3:=Lib.hid hs3.lst
 have HQ3:=Lib.hid hq3
 have HLX3:=Lib.hid (HLX.out.q hq3)
 have HDX3:=Lib.hid (HDX.out.q hq3)
 clear hs3 hq3 HRS
 have x0:=HDX3.out.cell 0 rfl
 have x1:=HDX3.out.cell 1 rfl
 have x2:=HDX3.out.cell 2 rfl
 have x3:=HDX3.out.cell 3 rfl
 go_wp2_with (refine wpList_load_row (by rfl) 34 _ (by rfl) bL (by rfl) 34 #[.string (Lm.bs r.nam),.string (Lm.bs r.pat),.string (Lm.bs r.sys),.string (Lm.bs r.dec),.string (Lm.bs r.grp),.string (Lm.bs r.min),.string (Lm.bs r.per),.string (Lm.bs r.cur),.slice a1 X.pre.length a2,.slice b1 X.suf.length b2,.slice c1 X.npre.length c2,.slice d1 X.nsuf.length d2,.int .i64 X.pr,.int .i64 X.se,.int .i64 X.mi,.int .i64 X.mf,.int .i64 X.xf] (0,0) _ HLX3.out Tryz.underlying34 rfl (by exact infoL) ?_)
 clear x0 x1 x2 x3
 refine (HRI.out _ HQ3.out).mono ?_
 rintro e w4 ⟨iv,rfl,hi4,hq4⟩
 obtain ⟨ia,ic,rfl,_,_⟩:=hi4.lst.form0 HNL.out
 have HI4:=Lib.hid hi4.lst
 have HQ4:=Lib.hid (HQ3.out.trans hq4)
 have HS4:=Lib.hid (HS3.out.q hq4)
 clear hi4 hq4 HRI HLX HLX3 HDX HDX3 HS3
 go_wp2_with fail
 refine (It.rtext_any _ L _ HI4.out (by have:=HNL.out;omega) (by have:=HTB.out;omega)).mono ?_
 rintro e w5 ⟨rfl,hq5⟩
 have HQ5:=Lib.hid (HQ4.out.trans hq5)
 have HS5:=Lib.hid (HS4.out.q hq5)
 have hsz:(⟨(txI L).toArray⟩:ByteArray).size = (txI L).length:=by simp [ByteArray.size]
 have HSE2:=Lib.hid (fun k (h:k ≤ N)=>show stp L a0 k ≤ (⟨(txI L).toArray⟩:ByteArray).size by rw [hsz];exact HSE.out k h)
 generalize (⟨(txI L).toArray⟩:ByteArray) = S at *
 clear hq5 HS4 HI4 hsz HSE
 have HA1:=Lib.hid (fun u=>Ur.around_any ai 20 u bai.1 bai.2 (by omega) (by omega))
 have HA2:=Lib.hid (fun u=>Ur.around_any aj 20 u baj.1 baj.2 (by omega) (by omega))
 have hp1:=around_bd ai 20 (by omega)
 have hp2:=around_bd aj 20 (by omega)
 generalize around ai 20 = pa at *
 generalize around aj 20 = pb at *
 obtain ⟨mn,hmn⟩:∃ x,x = min pa pb:=⟨_,rfl⟩
 obtain ⟨mx,hmx⟩:∃ x,x = max pa pb:=⟨_,rfl⟩
 have HMN:=Lib.hid hmn.symm
 have HMX:=Lib.hid hmx.symm
 clear hmn hmx
 go_wp2_with fail
 refine (HA1.out _).mono ?_
 rintro e _ ⟨rfl,rfl⟩
 go_wp2_with fail
 refine (HA1.out _).mono ?_
 rintro e _ ⟨rfl,rfl⟩
 go_wp2_with fail
 refine (HA2.out _).mono ?_
 rintro e _ ⟨rfl,rfl⟩
 have hmn:=HMN.out
 obtain ⟨w6,hw6⟩:∃ u,u = w5.alloc (.cells #[.int .i64 ai,.int .i64 pa,.int .i64 mn] 3):=⟨_,rfl⟩
 have hq56:Q w5 w6:=by rw [hw6];exact (Q.refl _).alloc _
 have hli6:Lst w6 (.slice (some ⟨w5.heap.size,0,none⟩) 3 3) [ai,pa,mn]:=by rw [hw6];exact Lst.made _ [ai,pa,mn] 3 rfl (by unfold maxLen;omega)
 obtain ⟨bI,hbI⟩:∃ b,b = w5.heap.size:=⟨_,rfl⟩
 rw [← hbI] at hli6
 have HI6:=Lib.hid hli6
 have HQ56:=Lib.hid hq56
 clear hli6 hq56
 go_upto_region 7 with fail
 rw [← hw6,← hbI]
 clear hw6 hbI hmn
 go_wp2_with fail
 refine (HA2.out _).mono ?_
 rintro e _ ⟨rfl,rfl⟩
 go_wp2_with fail
 refine (HA1.out _).mono ?_
 rintro e _ ⟨rfl,rfl⟩
 go_wp2_with fail
 refine (HA2.out _).mono ?_
 rintro e _ ⟨rfl,rfl⟩
 have hmx:=HMX.out
 obtain ⟨w7,hw7⟩:∃ u,u = w6.alloc (.cells #[.int .i64 aj,.int .i64 pb,.int .i64 mx] 3):=⟨_,rfl⟩
 have hq67:Q w6 w7:=by rw [hw7];exact (Q.refl _).alloc _
 have hlj7:Lst w7 (.slice (some ⟨w6.heap.size,0,none⟩) 3 3) [aj,pb,mx]:=by rw [hw7];exact Lst.made _ [aj,pb,mx] 3 rfl (by unfold maxLen;omega)
 obtain ⟨bJ,hbJ⟩:∃ b,b = w6.heap.size:=⟨_,rfl⟩
 rw [← hbJ] at hlj7
 have HJ7:=Lib.hid hlj7
 have HI7:=Lib.hid (HI6.out.q hq67)
 have HQ7:=Lib.hid (HQ5.out.trans (HQ56.out.trans hq67))
 have HS7:=Lib.hid (HS5.out.q (HQ56.out.trans hq67))
 clear hlj7 hq67 HI6 HQ56 HS5
 go_upto_region 8 with fail
 rw [← hw7,← hbJ]
 clear hw7 hbJ hmx
 go_wp2_with fail
 go_loopw [18] (fun i wr=>∃ k:Nat,i = .int .i64 k ∧ k ≤ 3 ∧ Q w7 wr) (fun i _=>3 - (intOf i).toNat)
 case atStart=>exact ⟨0,rfl,by omega,Q.refl _⟩
 case round =>
  obtain ⟨k,rfl,hk,hq⟩:=hrel
  have HQ:=Lib.hid hq
  clear hq
  by_cases hlt:k < 3
  ·obtain ⟨_,_,_,hvv,_,_,_,y1⟩:=(HI7.out.q HQ.out).cellOf (n:=3) rfl hlt
   cases hvv
   obtain ⟨_,_,_,hvv,_,_,_,y2⟩:=(HJ7.out.q HQ.out).cellOf (n:=3) rfl hlt
   cases hvv
   rw [Nat.zero_add] at y1 y2
   generalize [ai,pa,mn].getD k 0 = a at *
   generalize [aj,pb,mx].getD k 0 = b at *
   have hee:((⟨#[]⟩:ByteArray).toList == (⟨#[]⟩:ByteArray).toList) = true:=by simp
   by_cases h0:0 ≤ a
   ·by_cases h1:a ≤ b
    ·by_cases h2:b ≤ (N:Int)
     ·obtain ⟨na,rfl⟩:∃ q:Nat,a = q:=⟨a.toNat,by omega⟩
      obtain ⟨nb,rfl⟩:∃ q:Nat,b = q:=⟨b.toNat,by omega⟩
      have C:=fun u (q:Q wr u)=>HIN.out u (HQ7.out.trans (HQ.out.trans q)) na nb (by omega) (by omega)
      have hg1:=HMO.out na nb (by omega) (by omega)
      have hg2:=HSE2.out nb (by omega)
      have HSW:=Lib.hid (HS7.out.q HQ.out)
      obtain ⟨_,_,_,hvv,_,_,_,t1⟩:=HSW.out.cellOf (ns_len _ (N + 1)) (k:=na) (by omega)
      cases hvv
      obtain ⟨_,_,_,hvv,_,_,_,t2⟩:=HSW.out.cellOf (ns_len _ (N + 1)) (k:=nb) (by omega)
      cases hvv
      rw [ns_at _ (by omega)] at t1 t2
      generalize stp L a0 na = z1 at *
      generalize stp L a0 nb = z2 at *
      have h3:((nb:Nat):Int) < (N:Int) + 1:=by omega
      have h4:((na:Nat):Int) < (N:Int) + 1:=by omega
      have g1:(z1:Int) ≤ (z2:Int):=by omega
      have g2:(z2:Int) ≤ (S.size:Int):=by omega
      obtain ⟨T,hT⟩:∃ T,T = S.extract z1 z2:=⟨_,rfl⟩
      rw [← hT] at C
      have hte:(T.toList == T.toList) = true:=by simp
      have HC:=Lib.hid C
      clear C HSW
      go_wp2_with fail
      go_quiet (fail)
      go_wp2_with fail
      refine (HC.out _ ((Q.refl _).drewN _)).mono ?_
      rintro e _ ⟨rfl,rfl⟩
      go_wp2_with fail
      exact ⟨⟨k + 1,by go_num,by omega,HQ.out.drewN _⟩,by simp [intOf];omega⟩
     ·have C:=HOU.out wr (HQ7.out.trans HQ.out) a b (by omega)
      have h3:¬ b < (N:Int) + 1:=by omega
      have HC:=Lib.hid C
      clear C
      go_wp2_with fail
      refine HC.out.mono ?_
      rintro e _ ⟨rfl,rfl⟩
      go_wp2_with fail
      exact ⟨⟨k + 1,by go_num,by omega,HQ.out⟩,by simp [intOf];omega⟩
    ·have C:=HOU.out wr (HQ7.out.trans HQ.out) a b (by omega)
     have HC:=Lib.hid C
     clear C
     go_wp2_with fail
     refine HC.out.mono ?_
     rintro e _ ⟨rfl,rfl⟩
     go_wp2_with fail
     exact ⟨⟨k + 1,by go_num,by omega,HQ.out⟩,by simp [intOf];omega⟩
   ·have C:=HOU.out wr (HQ7.out.trans HQ.out) a b (by omega)
    have HC:=Lib.hid C
    clear C
    go_wp2_with fail
    refine HC.out.mono ?_
    rintro e _ ⟨rfl,rfl⟩
    go_wp2_with fail
    exact ⟨⟨k + 1,by go_num,by omega,HQ.out⟩,by simp [intOf];omega⟩
  ·obtain rfl:k = 3:=by omega
   have HQF:=Lib.hid (HQ2.out.trans (HQ7.out.trans HQ.out))
   go_wp2_with fail
   refine (Vw.lives_any _).mono ?_
   rintro e wz ⟨rfl,hqz⟩
   have HQW:=Lib.hid (HQF.out.trans hqz)
   clear hqz
   go_wp2_with fail
   go_ret
   exact ⟨rfl,HQW.out⟩
end Vw
end Go.Proofs.YtghfdapfnoeanaaGreatDoor
