/- The number whose stop is nearest, and the tag, of each byte. (and more) -/
import Derived.Test.YtghfdapfnoeanaaGreatDoorR00
import Derived.Test.YtghfdapfnoeanaaGreatDoorR02
import Derived.Test.YtghfdapfnoeanaaGreatDoorR01
import Derived.Test.YtghfdapfnoeanaaGreatDoorR08
import Derived.Test.YtghfdapfnoeanaaGreatDoorR37
import Derived.Test.YtghfdapfnoeanaaGreatDoorR39
import Derived.Test.YtghfdapfnoeanaaGreatDoorR38
import Derived.Test.YtghfdapfnoeanaaGreatDoorR12
import Derived.Test.YtghfdapfnoeanaaGreatDoorR04
import Derived.Test.YtghfdapfnoeanaaGreatDoorR36
import Derived.Test.YtghfdapfnoeanaaGreatDoorR25
import Derived.Test.YtghfdapfnoeanaaGreatDoorR06
import Derived.Test.YtghfdapfnoeanaaGreatDoorR28
import Derived.Test.YtghfdapfnoeanaaGreatDoorR30
import Derived.Test.YtghfdapfnoeanaaGreatDoorR46
import Derived.Test.YtghfdapfnoeanaaGreatDoorR40
import Derived.Test.YtghfdapfnoeanaaGreatDoorR42
import Derived.Test.YtghfdapfnoeanaaGreatDoorR41
import Derived.Test.YtghfdapfnoeanaaGreatDoorRows
import Derived.Laws.Rows
import Derived.Laws.Tables
import Derived.Deep.RegionHeld
import Derived.Deep.Cut
import Derived.Deep.QuietTactic
import Derived.BigQuiet
set_option linter.unusedVariables false
set_option linter.unusedSimpArgs false
namespace Go.Proofs.YtghfdapfnoeanaaGreatDoor
open Go.RowKit
namespace Vw
open Um Im Vm Lo Ro
set_option maxRecDepth 100000 in
set_option maxHeartbeats 8000000 in
theorem law_near (g0 g1 g2 g3 g4 g5 n:Int) (dg ds:Bool) (e1 e2:Option Addr) (m1 m2 f1 f2:Nat) (DI DF:List Int) (ofs:Int) (bofs:-9223372036854775808 ≤ ofs ∧ ofs ≤ 9223372036854775807) (w:World) (h0:-9223372036854775808 ≤ g0 ∧ g0 ≤ 9223372036854775807) (h1:-9223372036854775808 ≤ g1 ∧ g1 ≤ 9223372036854775807) (h2:-9223372036854775808 ≤ g2 ∧ g2 ≤ 9223372036854775807) (h3:-9223372036854775808 ≤ g3 ∧ g3 ≤ 9223372036854775807) (h4:-9223372036854775808 ≤ g4 ∧ g4 ≤ 9223372036854775807) (h5:-9223372036854775808 ≤ g5 ∧ g5 ≤ 9223372036854775807) (hn:-9223372036854775808 ≤ n ∧ n ≤ 9223372036854775807) (hi:Lst w (.slice e1 m1 f1) DI) (hf:Lst w (.slice e2 m2 f2) DF) (q1:DI.length = m1) (q2:DF.length = m2) (bi:∀ n ∈ DI,-9223372036854775808 ≤ n ∧ n ≤ 9223372036854775807) (bf:∀ n ∈ DF,-9223372036854775808 ≤ n ∧ n ≤ 9223372036854775807) :
  Calls Tryz.prog 4 #[.agg #[.int .i64 g0,.int .i64 g1,.int .i64 g2,.int .i64 g3,.int .i64 g4,.int .i64 g5],.int .i64 n,.agg #[.bool dg,.slice e1 m1 f1,.bool ds,.slice e2 m2 f2],.int .i64 ofs] w fun e w'=>e = .returned (.bool true) ∧ Q w w':=by
 have HBE:=Lib.hid (fun u (q:Q w u)=>begin_any g0 g1 g2 g3 g4 g5 n dg ds e1 e2 m1 m2 f1 f2 DI DF u h0 h1 h2 h3 h4 h5 hn (hi.q q) (hf.q q) q1 q2 bi bf)
 have hic:=hi.form0 q1
 obtain ⟨_,_,hv,hnc,hcm⟩:=hic
 cases hv
 have hfc:=hf.form0 q2
 obtain ⟨_,_,hv,hnf,hfm⟩:=hfc
 cases hv
 unfold maxLen at hcm hfm
 clear hi hf q1 q2 bi bf h0 h1 h2 h3 h4 h5 hn
 obtain ⟨y,hy⟩:∃ z,z = w.alloc (.cells #[.int .i64 g0,.int .i64 g1,.int .i64 g2,.int .i64 g3,.int .i64 g4,.int .i64 g5] 23):=⟨_,rfl⟩
 have hqy:Q w y:=by rw [hy];exact (Q.refl w).alloc _
 have hgy:Bk y w.heap.size 23 [.int .i64 g0,.int .i64 g1,.int .i64 g2,.int .i64 g3,.int .i64 g4,.int .i64 g5]:=by rw [hy];exact Bk.new _ _ _
 obtain ⟨z,hz⟩:∃ z,z = y.alloc (.cells #[.bool dg,.slice e1 m1 f1,.bool ds,.slice e2 m2 f2] 26):=⟨_,rfl⟩
 have hqz:Q y z:=by rw [hz];exact (Q.refl y).alloc _
 have HQZ:=Lib.hid (hqy.trans hqz)
 have HGZ:=Lib.hid (hgy.q hqz)
 have hsy:y.heap.size = w.heap.size + 1:=by rw [hy];simp
 have hdz:Bk z y.heap.size 26 [.bool dg,.slice e1 m1 f1,.bool ds,.slice e2 m2 f2]:=by rw [hz];exact Bk.new _ _ _
 rw [hsy] at hdz
 have HDZ:=Lib.hid hdz
 have hz2:z = (w.alloc (.cells #[.int .i64 g0,.int .i64 g1,.int .i64 g2,.int .i64 g3,.int .i64 g4,.int .i64 g5] 23)).alloc (.cells #[.bool dg,.slice e1 m1 f1,.bool ds,.slice e2 m2 f2] 26):=by rw [hz,hy]
 obtain ⟨bG,hbG⟩:∃ b,b = w.heap.size:=⟨_,rfl⟩
 obtain ⟨bE,hbE⟩:∃ b,b = w.heap.size + 1:=⟨_,rfl⟩
 clear hqy hgy hqz hsy hdz hz hy
 go_enter Tryz.func4,Tryz.ntmps4
 go_upto_region 1 with fail
 rw [← hz2,← hbE,← hbG]
 rw [← hbG] at HGZ
 rw [← hbE] at HDZ
 clear hz2 hbG hbE
 have cg0:=HGZ.out.cell 0 rfl
 have cg1:=HGZ.out.cell 1 rfl
 have cg2:=HGZ.out.cell 2 rfl
 have cg3:=HGZ.out.cell 3 rfl
 have cg4:=HGZ.out.cell 4 rfl
 have cg5:=HGZ.out.cell 5 rfl
 have cd0:=HDZ.out.cell 0 rfl
 have cd1:=HDZ.out.cell 1 rfl
 have cd2:=HDZ.out.cell 2 rfl
 have cd3:=HDZ.out.cell 3 rfl
 go_wp2_with fail
 clear cg0 cg1 cg2 cg3 cg4 cg5 cd0 cd1 cd2 cd3 HGZ HDZ
 refine (HBE.out _ HQZ.out).mono ?_
 rintro e w1 ⟨r,X,B,v,la,lb,lc,ld,tg,ts,TI,TF,i1,i2,k1,k2,j1,j2,hok,hnew,hmay,hk1,hk2,hb1,hb2,hli,hlf,rfl,hll,hvo,hq1⟩
 clear HBE
 obtain ⟨a1,a2,rfl⟩:=hll.1.shape
 obtain ⟨b1,b2,rfl⟩:=hll.2.1.shape
 obtain ⟨c1,c2,rfl⟩:=hll.2.2.1.shape
 obtain ⟨d1,d2,rfl⟩:=hll.2.2.2.shape
 have hic3:=hli.form0 hk1
 obtain ⟨_,_,hv,hnc3,hcm3⟩:=hic3
 cases hv
 have hfc3:=hlf.form0 hk2
 obtain ⟨_,_,hv,hnf3,hfm3⟩:=hfc3
 cases hv
 unfold maxLen at hcm3 hfm3
 have HOK:=Lib.hid hok
 have HMAY:=Lib.hid hmay
 have HK1:=Lib.hid hk1
 have HK2:=Lib.hid hk2
 have hqa:Q w1 ((w1.alloc (.cells #[.string ⟨#[]⟩,.string ⟨#[]⟩,.string ⟨#[]⟩,.string ⟨#[]⟩,.string ⟨#[]⟩,.string ⟨#[]⟩,.string ⟨#[]⟩,.string ⟨#[]⟩,.slice none 0 0,.slice none 0 0,.slice none 0 0,.slice none 0 0,.int .i64 0,.int .i64 0,.int .i64 0,.int .i64 0,.int .i64 0] 34)).alloc (.cells #[.bool false,.slice none 0 0,.bool false,.slice none 0 0] 26)):=((Q.refl w1).alloc _).alloc _
 have HL0:=Lib.hid (show Bk ((w1.alloc (.cells #[.string ⟨#[]⟩,.string ⟨#[]⟩,.string ⟨#[]⟩,.string ⟨#[]⟩,.string ⟨#[]⟩,.string ⟨#[]⟩,.string ⟨#[]⟩,.string ⟨#[]⟩,.slice none 0 0,.slice none 0 0,.slice none 0 0,.slice none 0 0,.int .i64 0,.int .i64 0,.int .i64 0,.int .i64 0,.int .i64 0] 34)).alloc (.cells #[.bool false,.slice none 0 0,.bool false,.slice none 0 0] 26)) w1.heap.size 34 zL from (Bk.new w1 _ zL).q ((Q.refl _).alloc _))
 have HD0:=Lib.hid (show Bk ((w1.alloc (.cells #[.string ⟨#[]⟩,.string ⟨#[]⟩,.string ⟨#[]⟩,.string ⟨#[]⟩,.string ⟨#[]⟩,.string ⟨#[]⟩,.string ⟨#[]⟩,.string ⟨#[]⟩,.slice none 0 0,.slice none 0 0,.slice none 0 0,.slice none 0 0,.int .i64 0,.int .i64 0,.int .i64 0,.int .i64 0,.int .i64 0] 34)).alloc (.cells #[.bool false,.slice none 0 0,.bool false,.slice none 0 0] 26)) (w1.heap.size + 1) 26 zD by
  have h:=Bk.new (w1.alloc (.cells #[.string ⟨#[]⟩,.string ⟨#[]⟩,.string ⟨#[]⟩,.string ⟨#[]⟩,.string ⟨#[]⟩,.string ⟨#[]⟩,.string ⟨#[]⟩,.string ⟨#[]⟩,.slice none 0 0,.slice none 0 0,.slice none 0 0,.slice none 0 0,.int .i64 0,.int .i64 0,.int .i64 0,.int .i64 0,.int .i64 0] 34)) 26 zD
  rwa [show (w1.alloc (.cells #[.string ⟨#[]⟩,.string ⟨#[]⟩,.string ⟨#[]⟩,.string ⟨#[]⟩,.string ⟨#[]⟩,.string ⟨#[]⟩,.string ⟨#[]⟩,.string ⟨#[]⟩,.slice none 0 0,.slice none 0 0,.slice none 0 0,.slice none 0 0,.int .i64 0,.int .i64 0,.int .i64 0,.int .i64 0,.int .i64 0] 34)).heap.size = w1.heap.size + 1 from by simp] at h)
 have HD1:=Lib.hid (Rw.Bk_other HD0.out (show w1.heap.size + 1 ≠ w1.heap.size by omega) #[.string (Lm.bs r.nam),.string (Lm.bs r.pat),.string (Lm.bs r.sys),.string (Lm.bs r.dec),.string (Lm.bs r.grp),.string (Lm.bs r.min),.string (Lm.bs r.per),.string (Lm.bs r.cur),.slice a1 X.pre.length a2,.slice b1 X.suf.length b2,.slice c1 X.npre.length c2,.slice d1 X.nsuf.length d2,.int .i64 X.pr,.int .i64 X.se,.int .i64 X.mi,.int .i64 X.mf,.int .i64 X.xf])
 obtain ⟨w2,hw2⟩:∃ u,u = (((w1.alloc (.cells #[.string ⟨#[]⟩,.string ⟨#[]⟩,.string ⟨#[]⟩,.string ⟨#[]⟩,.string ⟨#[]⟩,.string ⟨#[]⟩,.string ⟨#[]⟩,.string ⟨#[]⟩,.slice none 0 0,.slice none 0 0,.slice none 0 0,.slice none 0 0,.int .i64 0,.int .i64 0,.int .i64 0,.int .i64 0,.int .i64 0] 34)).alloc (.cells #[.bool false,.slice none 0 0,.bool false,.slice none 0 0] 26)).setRow w1.heap.size #[.string (Lm.bs r.nam),.string (Lm.bs r.pat),.string (Lm.bs r.sys),.string (Lm.bs r.dec),.string (Lm.bs r.grp),.string (Lm.bs r.min),.string (Lm.bs r.per),.string (Lm.bs r.cur),.slice a1 X.pre.length a2,.slice b1 X.suf.length b2,.slice c1 X.npre.length c2,.slice d1 X.nsuf.length d2,.int .i64 X.pr,.int .i64 X.se,.int .i64 X.mi,.int .i64 X.mf,.int .i64 X.xf]).setRow (w1.heap.size + 1) #[.bool tg,.slice i1 k1 j1,.bool ts,.slice i2 k2 j2]:=⟨_,rfl⟩
 have hq12:Q w1 w2:=by rw [hw2];exact Rw.Q_row (Rw.Q_row hqa (Nat.le_refl _) _) (Nat.le_succ _) _
 have HLX:=Lib.hid (show Bk w2 w1.heap.size 34 [.string (Lm.bs r.nam),.string (Lm.bs r.pat),.string (Lm.bs r.sys),.string (Lm.bs r.dec),.string (Lm.bs r.grp),.string (Lm.bs r.min),.string (Lm.bs r.per),.string (Lm.bs r.cur),.slice a1 X.pre.length a2,.slice b1 X.suf.length b2,.slice c1 X.npre.length c2,.slice d1 X.nsuf.length d2,.int .i64 X.pr,.int .i64 X.se,.int .i64 X.mi,.int .i64 X.mf,.int .i64 X.xf] by rw [hw2];exact Rw.Bk_other (Rw.Bk_row HL0.out [.string (Lm.bs r.nam),.string (Lm.bs r.pat),.string (Lm.bs r.sys),.string (Lm.bs r.dec),.string (Lm.bs r.grp),.string (Lm.bs r.min),.string (Lm.bs r.per),.string (Lm.bs r.cur),.slice a1 X.pre.length a2,.slice b1 X.suf.length b2,.slice c1 X.npre.length c2,.slice d1 X.nsuf.length d2,.int .i64 X.pr,.int .i64 X.se,.int .i64 X.mi,.int .i64 X.mf,.int .i64 X.xf]) (by omega) _)
 have HDX:=Lib.hid (show Bk w2 (w1.heap.size + 1) 26 [.bool tg,.slice i1 k1 j1,.bool ts,.slice i2 k2 j2] by rw [hw2];exact Rw.Bk_row HD1.out [.bool tg,.slice i1 k1 j1,.bool ts,.slice i2 k2 j2])
 have HQ2:=Lib.hid (HQZ.out.trans (hq1.trans hq12))
 have HLI:=Lib.hid (hli.q hq12)
 have HLF:=Lib.hid (hlf.q hq12)
 have HLL:=Lib.hid (hll.q hq12)
 have HVB:=Lib.hid (show VB w2 B v _ _ _ from VO.q hvo hq12)
 have hal:(Tm.ats ⟨tg,TI,ts,TF⟩).length = k1 + (Tm.sep ts).length + k2:=by rw [Tm.ats_len];dsimp only;rw [hk1,hk2]
 have hsl:=Tm.sep_len ts
 have HRS:=Lib.hid (fun u (q:Q w2 u)=>Vr.stops_any r X _ _ _ _ tg ts i1 i2 k1 k2 j1 j2 TI TF u hok (HLL.out.q q) (HLI.out.q q) (HLF.out.q q) hk1 hk2 (by omega) (by omega) hmay)
 have HRI:=Lib.hid (fun u (q:Q w2 u)=>It.ritems_any r X _ _ _ _ tg ts i1 i2 k1 k2 j1 j2 TI TF u hok.ok (HLL.out.q q) (HLI.out.q q) (HLF.out.q q) hk1 hk2 (by omega) (by omega) hmay hok.pr hok.se.2)
 have hrw:=itm_rw hok hmay tg
 have hah:=itm_ahead r X.pr X.se ⟨tg,TI,ts,TF⟩ (parP r (Ro.ahd tg X)) (parP r (Ro.bhd tg X))
 have hil:=itm_len r X.pr X.se ⟨tg,TI,ts,TF⟩ (parP r (Ro.ahd tg X)) (parP r (Ro.bhd tg X))
 dsimp only at hil
 rw [hk1,hk2] at hil
 have hpl:=(Ro.around_fact hok.ok tg).2.2.1
 have hpl2:=(Ro.around_fact hok.ok tg).2.2.2
 have hdg:=Tm.may_dig hmay
 have hokt:=itm_okT hok (d:=⟨tg,TI,ts,TF⟩) hdg.1 hdg.2.1 tg
 have htx:=tx_len _ hokt
 dsimp only at HVB HRS HRI
 generalize itm r X.pr X.se ⟨tg,TI,ts,TF⟩ (parP r (Ro.ahd tg X)) (parP r (Ro.bhd tg X)) = L at *
 obtain ⟨a0,ha0⟩:∃ k,k = (parP r (Ro.ahd tg X)).length:=⟨_,rfl⟩
 rw [← ha0] at hah HVB HRS
 rw [hal] at hrw HVB HRS
 obtain ⟨N,hN⟩:∃ N,N = k1 + (Tm.sep ts).length + k2:=⟨_,rfl⟩
 rw [← hN] at hrw HVB hal  HRS
 have hNb:N ≤ 19:=by omega
 obtain ⟨nL,hnL⟩:∃ n,n = L.length:=⟨_,rfl⟩
 rw [← hnL] at hil htx
 have hnb:nL ≤ 41:=by omega
 have htb:(txI L).length ≤ 2624:=by omega
 have HNL:=Lib.hid hnL.symm
 have HTB:=Lib.hid htb
 have HNN:=Lib.hid hal
 have HRW:=Lib.hid hrw
 have hst:∀ i j,i < j → j ≤ N → stp L a0 i < stp L a0 j:=fun i j h1 h2=>stp_lt hrw hah h1 h2
 have HST:=Lib.hid hst
 have HSB:=Lib.hid (fun k (h:k ≤ N)=>Nat.le_trans (stp_le hrw hah h) htb)
 have HAT:=Lib.hid (fun u (q:Q w2 u) x=>atom_any B v L (stp L a0) N x u (HVB.out.q q) (by omega) hst)
 have HTG:=Lib.hid (fun u (q:Q w2 u) x=>tag_any B v L (stp L a0) N x u (HVB.out.q q) (by omega) (by omega))
 clear hli hlf hll hvo hq1 hq12 hqa HQZ hal hsl hrw hah hil hpl hpl2 hdg htx htb hokt hN hnL ha0 hst hok hmay hnew hk1 hk2
 unfold lV
 go_upto_region 2 with (first
  | refine wpList_store_row (by rfl) 34 _ _ (by rfl) w1.heap.size #[.string (Lm.bs r.nam),.string (Lm.bs r.pat),.string (Lm.bs r.sys),.string (Lm.bs r.dec),.string (Lm.bs r.grp),.string (Lm.bs r.min),.string (Lm.bs r.per),.string (Lm.bs r.cur),.slice a1 X.pre.length a2,.slice b1 X.suf.length b2,.slice c1 X.npre.length c2,.slice d1 X.nsuf.length d2,.int .i64 X.pr,.int .i64 X.se,.int .i64 X.mi,.int .i64 X.mf,.int .i64 X.xf] (by rfl) (by rfl) 34 _ HL0.out (by exact infoL) rfl (Rw.all1 (by rfl)) ?_
  | refine wpList_store_row (by rfl) 26 _ _ (by rfl) (w1.heap.size + 1) #[.bool tg,.slice i1 k1 j1,.bool ts,.slice i2 k2 j2] (by rfl) (by rfl) 26 _ HD1.out (by exact infoD) rfl (Rw.all1 (by rfl)) ?_)
 rw [← hw2]
 clear hw2 HL0 HD0 HD1
 obtain ⟨bL,hbL⟩:∃ b,b = w1.heap.size:=⟨_,rfl⟩
 obtain ⟨bD,hbD⟩:∃ b,b = w1.heap.size + 1:=⟨_,rfl⟩
 rw [← hbD] at HDX
 rw [← hbL] at HLX
 rw [← hbD,← hbL]
 clear hbD hbL
 have x0:=HDX.out.cell 0 rfl
 have x1:=HDX.out.cell 1 rfl
 have x2:=HDX.out.cell 2 rfl
 have x3:=HDX.out.cell 3 rfl
 go_wp2_with (refine wpList_load_row (by rfl) 34 _ (by rfl) bL (by rfl) 34 #[.string (Lm.bs r.nam),.string (Lm.bs r.pat),.string (Lm.bs r.sys),.string (Lm.bs r.dec),.string (Lm.bs r.grp),.string (Lm.bs r.min),.string (Lm.bs r.per),.string (Lm.bs r.cur),.slice a1 X.pre.length a2,.slice b1 X.suf.length b2,.slice c1 X.npre.length c2,.slice d1 X.nsuf.length d2,.int .i64 X.pr,.int .i64 X.se,.int .i64 X.mi,.int .i64 X.mf,.int .i64 X.xf] (0,0) _ HLX.out Tryz.underlying34 rfl (by exact infoL) ?_)
 clear x0 x1 x2 x3
 refine (HRS.out _ (Q.refl _)).mono ?_
 rintro e w3 ⟨sv,rfl,hs3,hq3⟩
 obtain ⟨sa,sc,rfl,_,_⟩:=hs3.lst.form0 (ns_len _ (N + 1))
 have HS3:=Lib.hid hs3.lst
 have HQ3:=Lib.hid hq3
 have HLX3:=Lib.hid (HLX.out.q hq3)
 have HDX3:=Lib.hid (HDX.out.q hq3)
 clear hs3 hq3 HRS
 have x0:=HDX3.out.cell 0 rfl
 have x1:=HDX3.out.cell 1 rfl
 have x2:=HDX3.out.cell 2 rfl
 have x3:=HDX3.out.cell 3 rfl
 go_wp2_with (refine wpList_load_row (by rfl) 34 _ (by rfl) bL (by rfl) 34 #[.string (Lm.bs r.nam),.string (Lm.bs r.pat),.string (Lm.bs r.sys),.string (Lm.bs r.dec),.string (Lm.bs r.grp),.string (Lm.bs r.min),.string (Lm.bs r.per),.string (Lm.bs r.cur),.slice a1 X.pre.length a2,.slice b1 X.suf.length b2,.slice c1 X.npre.length c2,.slice d1 X.nsuf.length d2,.int .i64 X.pr,.int .i64 X.se,.int .i64 X.mi,.int .i64 X.mf,.int .i64 X.xf] (0,0) _ HLX3.out Tryz.underlying34 rfl (by exact infoL) ?_)
 clear x0 x1 x2 x3
 refine (HRI.out _ HQ3.out).mono ?_
 rintro e w4 ⟨iv,rfl,hi4,hq4⟩
 obtain ⟨ia,ic,rfl,_,_⟩:=hi4.lst.form0 HNL.out
 have HI4:=Lib.hid hi4.lst
 have HQ4:=Lib.hid (HQ3.out.trans hq4)
 have HS4:=Lib.hid (HS3.out.q hq4)
 clear hi4 hq4 HRI HLX HLX3 HDX HDX3 HS3
 go_wp2_with fail
 refine (It.rtext_any _ L _ HI4.out (by have:=HNL.out;omega) (by have:=HSB.out;have:=HTB.out;omega)).mono ?_
 rintro e w5 ⟨rfl,hq5⟩
 have HQ5:=Lib.hid (HQ4.out.trans hq5)
 have HRA:=Lib.hid (fun u (q:Q w5 u) x=>Vr.atom_any _ (stp L a0) (N + 1) x u (HS4.out.q (hq5.trans q)) (by omega))
 have HRT:=Lib.hid (fun u (q:Q w5 u) x=>Vr.tag_any _ L x u (HI4.out.q (hq5.trans q)) (by have:=HNL.out;omega) (by have:=HTB.out;omega))
 have HAN:=Lib.hid (fun u (q:Q w5 u) x=>HAT.out u (HQ5.out.trans q) x)
 have HTN:=Lib.hid (fun u (q:Q w5 u) x=>HTG.out u (HQ5.out.trans q) x)
 have hsz:(⟨(txI L).toArray⟩:ByteArray).size ≤ 2624:=by have:=HTB.out;simp [ByteArray.size];omega
 generalize (⟨(txI L).toArray⟩:ByteArray) = S at *
 obtain ⟨M,hM⟩:∃ m,m = S.size:=⟨_,rfl⟩
 clear hq5 HS4 HI4 HAT HTG
 go_upto_region 7 with fail
 rw [← hM]
 rw [← hM] at hsz
 clear hM
 go_wp2_with fail
 go_loopw [15] (fun i wr=>∃ k:Nat,i = .int .i64 ((k:Int) - 1) ∧ k ≤ M + 3 ∧ Q w5 wr) (fun i _=>M + 3 - (intOf i + 1).toNat)
 case atStart=>exact ⟨0,rfl,by omega,Q.refl _⟩
 case round =>
  obtain ⟨k,rfl,hk,hq⟩:=hrel
  have HQ:=Lib.hid hq
  clear hq
  obtain ⟨i,hi⟩:∃ i:Int,i = (k:Int) - 1:=⟨_,rfl⟩
  rw [← hi]
  have hi1:-1 ≤ i:=by omega
  by_cases hlt:i ≤ (M:Int) + 1
  ·have h1:=HAN.out wr HQ.out i
   have h2:=fun u (q:Q w5 u)=>HRA.out u q i
   have h3:=fun u (q:Q w5 u)=>HTN.out u q i
   have h4:=fun u (q:Q w5 u)=>HRT.out u q i
   generalize near (fun k=>((stp L a0 k:Nat):Int)) i (N + 1) = p at *
   generalize tag L i L.length = t at *
   have C1:=Lib.hid h1
   have C2:=Lib.hid h2
   have C3:=Lib.hid h3
   have C4:=Lib.hid h4
   have hpp:((p:Int) == (p:Int)) = true:=by simp
   have htt:((t:Int) == (t:Int)) = true:=by simp
   have HI:=Lib.hid hi
   clear h1 h2 h3 h4 hi
   go_wp2_with fail
   refine C1.out.mono ?_
   rintro e wa ⟨rfl,hqa⟩
   have HQA:=Lib.hid (HQ.out.trans hqa)
   clear hqa
   go_wp2_with fail
   refine (C2.out _ HQA.out).mono ?_
   rintro e wb ⟨rfl,hqb⟩
   have HQB:=Lib.hid (HQA.out.trans hqb)
   clear hqb
   go_wp2_with fail
   refine (C3.out _ HQB.out).mono ?_
   rintro e wc ⟨rfl,hqc⟩
   have HQC:=Lib.hid (HQB.out.trans hqc)
   clear hqc
   go_wp2_with fail
   refine (C4.out _ HQC.out).mono ?_
   rintro e wd ⟨rfl,hqd⟩
   have HQD:=Lib.hid (HQC.out.trans hqd)
   clear hqd
   go_wp2_with fail
   refine ⟨⟨k + 1,by rw [HI.out];congr 1;omega,by have:=HI.out;omega,HQD.out⟩,?_⟩
   have:=HI.out
   simp only [intOf]
   omega
  ·have HQF:=Lib.hid (HQ2.out.trans (HQ5.out.trans HQ.out))
   have h1:=HAN.out wr HQ.out ofs
   have h2:=fun u (q:Q w5 u)=>HRA.out u q ofs
   have h3:=fun u (q:Q w5 u)=>HTN.out u q ofs
   have h4:=fun u (q:Q w5 u)=>HRT.out u q ofs
   generalize near (fun k=>((stp L a0 k:Nat):Int)) ofs (N + 1) = p at *
   generalize tag L ofs L.length = t at *
   have C1:=Lib.hid h1
   have C2:=Lib.hid h2
   have C3:=Lib.hid h3
   have C4:=Lib.hid h4
   have hpp:((p:Int) == (p:Int)) = true:=by simp
   have htt:((t:Int) == (t:Int)) = true:=by simp
   clear h1 h2 h3 h4 hi
   go_wp2_with fail
   refine C1.out.mono ?_
   rintro e wa ⟨rfl,hqa⟩
   have HQA:=Lib.hid (HQ.out.trans hqa)
   clear hqa
   go_wp2_with fail
   refine (C2.out _ HQA.out).mono ?_
   rintro e wb ⟨rfl,hqb⟩
   have HQB:=Lib.hid (HQA.out.trans hqb)
   clear hqb
   go_wp2_with fail
   refine (C3.out _ HQB.out).mono ?_
   rintro e wc ⟨rfl,hqc⟩
   have HQC:=Lib.hid (HQB.out.trans hqc)
   clear hqc
   go_wp2_with fail
   refine (C4.out _ HQC.out).mono ?_
   rintro e wd ⟨rfl,hqd⟩
   have HQD:=Lib.hid (HQC.out.trans hqd)
   clear hqd
   go_wp2_with fail
   refine (Vw.lives_any _).mono ?_
   rintro e wz ⟨rfl,hqz⟩
   have HQW:=Lib.hid ((HQ2.out.trans HQ5.out).trans (HQD.out.trans hqz))
   clear hqz
   go_wp2_with fail
   go_ret
   exact ⟨rfl,HQW.out⟩
end Vw
end Go.Proofs.YtghfdapfnoeanaaGreatDoor
