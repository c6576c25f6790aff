/- All stops, each one's, and the text. (and more) -/
import Derived.Test.YtghfdapfnoeanaaGreatDoorR00
import Derived.Test.YtghfdapfnoeanaaGreatDoorR02
import Derived.Test.YtghfdapfnoeanaaGreatDoorR01
import Derived.Test.YtghfdapfnoeanaaGreatDoorR08
import Derived.Test.YtghfdapfnoeanaaGreatDoorR37
import Derived.Test.YtghfdapfnoeanaaGreatDoorR39
import Derived.Test.YtghfdapfnoeanaaGreatDoorR38
import Derived.Test.YtghfdapfnoeanaaGreatDoorR12
import Derived.Test.YtghfdapfnoeanaaGreatDoorR04
import Derived.Test.YtghfdapfnoeanaaGreatDoorR36
import Derived.Test.YtghfdapfnoeanaaGreatDoorR25
import Derived.Test.YtghfdapfnoeanaaGreatDoorR06
import Derived.Test.YtghfdapfnoeanaaGreatDoorR28
import Derived.Test.YtghfdapfnoeanaaGreatDoorR30
import Derived.Test.YtghfdapfnoeanaaGreatDoorR46
import Derived.Test.YtghfdapfnoeanaaGreatDoorR40
import Derived.Test.YtghfdapfnoeanaaGreatDoorR42
import Derived.Test.YtghfdapfnoeanaaGreatDoorR41
import Derived.Test.YtghfdapfnoeanaaGreatDoorRows
import Derived.Laws.Rows
import Derived.Laws.Tables
import Derived.Deep.RegionHeld
import Derived.Deep.Cut
import Derived.Deep.QuietTactic
import Derived.BigQuiet
set_option linter.unusedVariables false
set_option linter.unusedSimpArgs false
namespace Go.Proofs.YtghfdapfnoeanaaGreatDoor
open Go.RowKit
namespace Vw
open Um Im Vm Lo Ro
set_option maxRecDepth 100000 in
set_option maxHeartbeats 8000000 in
theorem law_stops (g0 g1 g2 g3 g4 g5 n:Int) (dg ds:Bool) (e1 e2:Option Addr) (m1 m2 f1 f2:Nat) (DI DF:List Int) (kk:Int) (bkk:-9223372036854775808 ≤ kk ∧ kk ≤ 9223372036854775807) (w:World) (h0:-9223372036854775808 ≤ g0 ∧ g0 ≤ 9223372036854775807) (h1:-9223372036854775808 ≤ g1 ∧ g1 ≤ 9223372036854775807) (h2:-9223372036854775808 ≤ g2 ∧ g2 ≤ 9223372036854775807) (h3:-9223372036854775808 ≤ g3 ∧ g3 ≤ 9223372036854775807) (h4:-9223372036854775808 ≤ g4 ∧ g4 ≤ 9223372036854775807) (h5:-9223372036854775808 ≤ g5 ∧ g5 ≤ 9223372036854775807) (hn:-9223372036854775808 ≤ n ∧ n ≤ 9223372036854775807) (hi:Lst w (.slice e1 m1 f1) DI) (hf:Lst w (.slice e2 m2 f2) DF) (q1:DI.length = m1) (q2:DF.length = m2) (bi:∀ n ∈ DI,-9223372036854775808 ≤ n ∧ n ≤ 9223372036854775807) (bf:∀ n ∈ DF,-9223372036854775808 ≤ n ∧ n ≤ 9223372036854775807) :
  Calls Tryz.prog 3 #[.agg #[.int .i64 g0,.int .i64 g1,.int .i64 g2,.int .i64 g3,.int .i64 g4,.int .i64 g5],.int .i64 n,.agg #[.bool dg,.slice e1 m1 f1,.bool ds,.slice e2 m2 f2],.int .i64 kk] w fun e w'=>e = .returned (.bool true) ∧ Q w w':=by
 have HBE:=Lib.hid (fun u (q:Q w u)=>begin_any g0 g1 g2 g3 g4 g5 n dg ds e1 e2 m1 m2 f1 f2 DI DF u h0 h1 h2 h3 h4 h5 hn (hi.q q) (hf.q q) q1 q2 bi bf)
 have hic:=hi.form0 q1
 obtain ⟨_,_,hv,hnc,hcm⟩:=hic
 cases hv
 have hfc:=hf.form0 q2
 obtain ⟨_,_,hv,hnf,hfm⟩:=hfc
 cases hv
 unfold maxLen at hcm hfm
 clear hi hf q1 q2 bi bf h0 h1 h2 h3 h4 h5 hn
 obtain ⟨y,hy⟩:∃ z,z = w.alloc (.cells #[.int .i64 g0,.int .i64 g1,.int .i64 g2,.int .i64 g3,.int .i64 g4,.int .i64 g5] 23):=⟨_,rfl⟩
 have hqy:Q w y:=by rw [hy];exact (Q.refl w).alloc _
 have hgy:Bk y w.heap.size 23 [.int .i64 g0,.int .i64 g1,.int .i64 g2,.int .i64 g3,.int .i64 g4,.int .i64 g5]:=by rw [hy];exact Bk.new _ _ _
 obtain ⟨z,hz⟩:∃ z,z = y.alloc (.cells #[.bool dg,.slice e1 m1 f1,.bool ds,.slice e2 m2 f2] 26):=⟨_,rfl⟩
 have hqz:Q y z:=by rw [hz];exact (Q.refl y).alloc _
 have HQZ:=Lib.hid (hqy.trans hqz)
 have HGZ:=Lib.hid (hgy.q hqz)
 have hsy:y.heap.size = w.heap.size + 1:=by rw [hy];simp
 have hdz:Bk z y.heap.size 26 [.bool dg,.slice e1 m1 f1,.bool ds,.slice e2 m2 f2]:=by rw [hz];exact Bk.new _ _ _
 rw [hsy] at hdz
 have HDZ:=Lib.hid hdz
 have hz2:z = (w.alloc (.cells #[.int .i64 g0,.int .i64 g1,.int .i64 g2,.int .i64 g3,.int .i64 g4,.int .i64 g5] 23)).alloc (.cells #[.bool dg,.slice e1 m1 f1,.bool ds,.slice e2 m2 f2] 26):=by rw [hz,hy]
 obtain ⟨bG,hbG⟩:∃ b,b = w.heap.size:=⟨_,rfl⟩
 obtain ⟨bE,hbE⟩:∃ b,b = w.heap.size + 1:=⟨_,rfl⟩
 clear hqy hgy hqz hsy hdz hz hy
 go_enter Tryz.func3,Tryz.ntmps3
 go_upto_region 1 with fail
 rw [← hz2,← hbE,← hbG]
 rw [← hbG] at HGZ
 rw [← hbE] at HDZ
 clear hz2 hbG hbE
 have cg0:=HGZ.out.cell 0 rfl
 have cg1:=HGZ.out.cell 1 rfl
 have cg2:=HGZ.out.cell 2 rfl
 have cg3:=HGZ.out.cell 3 rfl
 have cg4:=HGZ.out.cell 4 rfl
 have cg5:=HGZ.out.cell 5 rfl
 have cd0:=HDZ.out.cell 0 rfl
 have cd1:=HDZ.out.cell 1 rfl
 have cd2:=HDZ.out.cell 2 rfl
 have cd3:=HDZ.out.cell 3 rfl
 go_wp2_with fail
 clear cg0 cg1 cg2 cg3 cg4 cg5 cd0 cd1 cd2 cd3 HGZ HDZ
 refine (HBE.out _ HQZ.out).mono ?_
 rintro e w1 ⟨r,X,B,v,la,lb,lc,ld,tg,ts,TI,TF,i1,i2,k1,k2,j1,j2,hok,hnew,hmay,hk1,hk2,hb1,hb2,hli,hlf,rfl,hll,hvo,hq1⟩
 clear HBE
 obtain ⟨a1,a2,rfl⟩:=hll.1.shape
 obtain ⟨b1,b2,rfl⟩:=hll.2.1.shape
 obtain ⟨c1,c2,rfl⟩:=hll.2.2.1.shape
 obtain ⟨d1,d2,rfl⟩:=hll.2.2.2.shape
 have hic3:=hli.form0 hk1
 obtain ⟨_,_,hv,hnc3,hcm3⟩:=hic3
 cases hv
 have hfc3:=hlf.form0 hk2
 obtain ⟨_,_,hv,hnf3,hfm3⟩:=hfc3
 cases hv
 unfold maxLen at hcm3 hfm3
 have HOK:=Lib.hid hok
 have HMAY:=Lib.hid hmay
 have HK1:=Lib.hid hk1
 have HK2:=Lib.hid hk2
 have hqa:Q w1 ((w1.alloc (.cells #[.string ⟨#[]⟩,.string ⟨#[]⟩,.string ⟨#[]⟩,.string ⟨#[]⟩,.string ⟨#[]⟩,.string ⟨#[]⟩,.string ⟨#[]⟩,.string ⟨#[]⟩,.slice none 0 0,.slice none 0 0,.slice none 0 0,.slice none 0 0,.int .i64 0,.int .i64 0,.int .i64 0,.int .i64 0,.int .i64 0] 34)).alloc (.cells #[.bool false,.slice none 0 0,.bool false,.slice none 0 0] 26)):=((Q.refl w1).alloc _).alloc _
 have HL0:=Lib.hid (show Bk ((w1.alloc (.cells #[.string ⟨#[]⟩,.string ⟨#[]⟩,.string ⟨#[]⟩,.string ⟨#[]⟩,.string ⟨#[]⟩,.string ⟨#[]⟩,.string ⟨#[]⟩,.string ⟨#[]⟩,.slice none 0 0,.slice none 0 0,.slice none 0 0,.slice none 0 0,.int .i64 0,.int .i64 0,.int .i64 0,.int .i64 0,.int .i64 0] 34)).alloc (.cells #[.bool false,.slice none 0 0,.bool false,.slice none 0 0] 26)) w1.heap.size 34 zL from (Bk.new w1 _ zL).q ((Q.refl _).alloc _))
 have HD0:=Lib.hid (show Bk ((w1.alloc (.cells #[.string ⟨#[]⟩,.string ⟨#[]⟩,.string ⟨#[]⟩,.string ⟨#[]⟩,.string ⟨#[]⟩,.string ⟨#[]⟩,.string ⟨#[]⟩,.string ⟨#[]⟩,.slice none 0 0,.slice none 0 0,.slice none 0 0,.slice none 0 0,.int .i64 0,.int .i64 0,.int .i64 0,.int .i64 0,.int .i64 0] 34)).alloc (.cells #[.bool false,.slice none 0 0,.bool false,.slice none 0 0] 26)) (w1.heap.size + 1) 26 zD by
  have h:=Bk.new (w1.alloc (.cells #[.string ⟨#[]⟩,.string ⟨#[]⟩,.string ⟨#[]⟩,.string ⟨#[]⟩,.string ⟨#[]⟩,.string ⟨#[]⟩,.string ⟨#[]⟩,.string ⟨#[]⟩,.slice none 0 0,.slice none 0 0,.slice none 0 0,.slice none 0 0,.int .i64 0,.int .i64 0,.int .i64 0,.int .i64 0,.int .i64 0] 34)) 26 zD
  rwa [show (w1.alloc (.cells #[.string ⟨#[]⟩,.string ⟨#[]⟩,.string ⟨#[]⟩,.string ⟨#[]⟩,.string ⟨#[]⟩,.string ⟨#[]⟩,.string ⟨#[]⟩,.string ⟨#[]⟩,.slice none 0 0,.slice none 0 0,.slice none 0 0,.slice none 0 0,.int .i64 0,.int .i64 0,.int .i64 0,.int .i64 0,.int .i64 0] 34)).heap.size = w1.heap.size + 1 from by simp] at h)
 have HD1:=Lib.hid (Rw.Bk_other HD0.out (show w1.heap.size + 1 ≠ w1.heap.size by omega) #[.string (Lm.bs r.nam),.string (Lm.bs r.pat),.string (Lm.bs r.sys),.string (Lm.bs r.dec),.string (Lm.bs r.grp),.string (Lm.bs r.min),.string (Lm.bs r.per),.string (Lm.bs r.cur),.slice a1 X.pre.length a2,.slice b1 X.suf.length b2,.slice c1 X.npre.length c2,.slice d1 X.nsuf.length d2,.int .i64 X.pr,.int .i64 X.se,.int .i64 X.mi,.int .i64 X.mf,.int .i64 X.xf])
 obtain ⟨w2,hw2⟩:∃ u,u = (((w1.alloc (.cells #[.string ⟨#[]⟩,.string ⟨#[]⟩,.string ⟨#[]⟩,.string ⟨#[]⟩,.string ⟨#[]⟩,.string ⟨#[]⟩,.string ⟨#[]⟩,.string ⟨#[]⟩,.slice none 0 0,.slice none 0 0,.slice none 0 0,.slice none 0 0,.int .i64 0,.int .i64 0,.int .i64 0,.int .i64 0,.int .i64 0] 34)).alloc (.cells #[.bool false,.slice none 0 0,.bool false,.slice none 0 0] 26)).setRow w1.heap.size #[.string (Lm.bs r.nam),.string (Lm.bs r.pat),.string (Lm.bs r.sys),.string (Lm.bs r.dec),.string (Lm.bs r.grp),.string (Lm.bs r.min),.string (Lm.bs r.per),.string (Lm.bs r.cur),.slice a1 X.pre.length a2,.slice b1 X.suf.length b2,.slice c1 X.npre.length c2,.slice d1 X.nsuf.length d2,.int .i64 X.pr,.int .i64 X.se,.int .i64 X.mi,.int .i64 X.mf,.int .i64 X.xf]).setRow (w1.heap.size + 1) #[.bool tg,.slice i1 k1 j1,.bool ts,.slice i2 k2 j2]:=⟨_,rfl⟩
 have hq12:Q w1 w2:=by rw [hw2];exact Rw.Q_row (Rw.Q_row hqa (Nat.le_refl _) _) (Nat.le_succ _) _
 have HLX:=Lib.hid (show Bk w2 w1.heap.size 34 [.string (Lm.bs r.nam),.string (Lm.bs r.pat),.string (Lm.bs r.sys),.string (Lm.bs r.dec),.string (Lm.bs r.grp),.string (Lm.bs r.min),.string (Lm.bs r.per),.string (Lm.bs r.cur),.slice a1 X.pre.length a2,.slice b1 X.suf.length b2,.slice c1 X.npre.length c2,.slice d1 X.nsuf.length d2,.int .i64 X.pr,.int .i64 X.se,.int .i64 X.mi,.int .i64 X.mf,.int .i64 X.xf] by rw [hw2];exact Rw.Bk_other (Rw.Bk_row HL0.out [.string (Lm.bs r.nam),.string (Lm.bs r.pat),.string (Lm.bs r.sys),.string (Lm.bs r.dec),.string (Lm.bs r.grp),.string (Lm.bs r.min),.string (Lm.bs r.per),.string (Lm.bs r.cur),.slice a1 X.pre.length a2,.slice b1 X.suf.length b2,.slice c1 X.npre.length c2,.slice d1 X.nsuf.length d2,.int .i64 X.pr,.int .i64 X.se,.int .i64 X.mi,.int .i64 X.mf,.int .i64 X.xf]) (by omega) _)
 have HDX:=Lib.hid (show Bk w2 (w1.heap.size + 1) 26 [.bool tg,.slice i1 k1 j1,.bool ts,.slice i2 k2 j2] by rw [hw2];exact Rw.Bk_row HD1.out [.bool tg,.slice i1 k1 j1,.bool ts,.slice i2 k2 j2])
 have HQ2:=Lib.hid (HQZ.out.trans (hq1.trans hq12))
 have HLI:=Lib.hid (hli.q hq12)
 have HLF:=Lib.hid (hlf.q hq12)
 have HLL:=Lib.hid (hll.q hq12)
 have HVB:=Lib.hid (show VB w2 B v _ _ _ from VO.q hvo hq12)
 have hal:(Tm.ats ⟨tg,TI,ts,TF⟩).length = k1 + (Tm.sep ts).length + k2:=by rw [Tm.ats_len];dsimp only;rw [hk1,hk2]
 have hsl:=Tm.sep_len ts
 have HRS:=Lib.hid (fun u (q:Q w2 u)=>Vr.stops_any r X _ _ _ _ tg ts i1 i2 k1 k2 j1 j2 TI TF u hok (HLL.out.q q) (HLI.out.q q) (HLF.out.q q) hk1 hk2 (by omega) (by omega) hmay)
 have HRI:=Lib.hid (fun u (q:Q w2 u)=>It.ritems_any r X _ _ _ _ tg ts i1 i2 k1 k2 j1 j2 TI TF u hok.ok (HLL.out.q q) (HLI.out.q q) (HLF.out.q q) hk1 hk2 (by omega) (by omega) hmay hok.pr hok.se.2)
 have hrw:=itm_rw hok hmay tg
 have hah:=itm_ahead r X.pr X.se ⟨tg,TI,ts,TF⟩ (parP r (Ro.ahd tg X)) (parP r (Ro.bhd tg X))
 have hil:=itm_len r X.pr X.se ⟨tg,TI,ts,TF⟩ (parP r (Ro.ahd tg X)) (parP r (Ro.bhd tg X))
 dsimp only at hil
 rw [hk1,hk2] at hil
 have hpl:=(Ro.around_fact hok.ok tg).2.2.1
 have hpl2:=(Ro.around_fact hok.ok tg).2.2.2
 have hdg:=Tm.may_dig hmay
 have hokt:=itm_okT hok (d:=⟨tg,TI,ts,TF⟩) hdg.1 hdg.2.1 tg
 have htx:=tx_len _ hokt
 dsimp only at HVB HRS HRI
 generalize itm r X.pr X.se ⟨tg,TI,ts,TF⟩ (parP r (Ro.ahd tg X)) (parP r (Ro.bhd tg X)) = L at *
 obtain ⟨a0,ha0⟩:∃ k,k = (parP r (Ro.ahd tg X)).length:=⟨_,rfl⟩
 rw [← ha0] at hah HVB HRS
 rw [hal] at hrw HVB HRS
 obtain ⟨N,hN⟩:∃ N,N = k1 + (Tm.sep ts).length + k2:=⟨_,rfl⟩
 rw [← hN] at hrw HVB hal  HRS
 have hNb:N ≤ 19:=by omega
 obtain ⟨nL,hnL⟩:∃ n,n = L.length:=⟨_,rfl⟩
 rw [← hnL] at hil htx
 have hnb:nL ≤ 41:=by omega
 have htb:(txI L).length ≤ 2624:=by omega
 have HNL:=Lib.hid hnL.symm
 have HTB:=Lib.hid htb
 have HNN:=Lib.hid hal
 have HRW:=Lib.hid hrw
 have hst:∀ i j,i < j → j ≤ N → stp L a0 i < stp L a0 j:=fun i j h1 h2=>stp_lt hrw hah h1 h2
 have HST:=Lib.hid hst
 have HSB:=Lib.hid (fun k (h:k ≤ N)=>Nat.le_trans (stp_le hrw hah h) htb)
 have HIN:=Lib.hid (fun u (q:Q w2 u) k (hk:k ≤ N)=>stop_in B v L (stp L a0) N k u (HVB.out.q q) (by omega) hk)
 have HOU:=Lib.hid (fun u (q:Q w2 u) k hk=>stop_out B v L (stp L a0) N k u (HVB.out.q q) (by omega) hk)
 have HSP:=Lib.hid (fun u (q:Q w2 u)=>stops_any B v L (stp L a0) N u (HVB.out.q q) (by omega))
 have HTE:=Lib.hid (fun u (q:Q w2 u)=>(text_any B v L (stp L a0) N u (HVB.out.q q)).mono fun e w' h=>show e = .returned (.string ⟨(txI L).toArray⟩) ∧ Q u w' from ⟨h.1,by rw [h.2];exact Q.refl _⟩)
 have HLE:=Lib.hid (fun u (q:Q w2 u)=>(len_any B v L (stp L a0) N u (HVB.out.q q) (by omega)).mono fun e w' h=>show e = .returned (.int .i64 N) ∧ Q u w' from ⟨h.1,by rw [h.2];exact Q.refl _⟩)
 clear hli hlf hll hvo hq1 hq12 hqa HQZ hal hsl hrw hah hil hpl hpl2 hdg htx htb hokt hN hnL ha0 hst hok hmay hnew hk1 hk2
 unfold lV
 go_upto_region 2 with (first
  | refine wpList_store_row (by rfl) 34 _ _ (by rfl) w1.heap.size #[.string (Lm.bs r.nam),.string (Lm.bs r.pat),.string (Lm.bs r.sys),.string (Lm.bs r.dec),.string (Lm.bs r.grp),.string (Lm.bs r.min),.string (Lm.bs r.per),.string (Lm.bs r.cur),.slice a1 X.pre.length a2,.slice b1 X.suf.length b2,.slice c1 X.npre.length c2,.slice d1 X.nsuf.length d2,.int .i64 X.pr,.int .i64 X.se,.int .i64 X.mi,.int .i64 X.mf,.int .i64 X.xf] (by rfl) (by rfl) 34 _ HL0.out (by exact infoL) rfl (Rw.all1 (by rfl)) ?_
  | refine wpList_store_row (by rfl) 26 _ _ (by rfl) (w1.heap.size + 1) #[.bool tg,.slice i1 k1 j1,.bool ts,.slice i2 k2 j2] (by rfl) (by rfl) 26 _ HD1.out (by exact infoD) rfl (Rw.all1 (by rfl)) ?_)
 rw [← hw2]
 clear hw2 HL0 HD0 HD1
 obtain ⟨bL,hbL⟩:∃ b,b = w1.heap.size:=⟨_,rfl⟩
 obtain ⟨bD,hbD⟩:∃ b,b = w1.heap.size + 1:=⟨_,rfl⟩
 rw [← hbD] at HDX
 rw [← hbL] at HLX
 rw [← hbD,← hbL]
 clear hbD hbL
 have x0:=HDX.out.cell 0 rfl
 have x1:=HDX.out.cell 1 rfl
 have x2:=HDX.out.cell 2 rfl
 have x3:=HDX.out.cell 3 rfl
 go_wp2_with (refine wpList_load_row (by rfl) 34 _ (by rfl) bL (by rfl) 34 #[.string (Lm.bs r.nam),.string (Lm.bs r.pat),.string (Lm.bs r.sys),.string (Lm.bs r.dec),.string (Lm.bs r.grp),.string (Lm.bs r.min),.string (Lm.bs r.per),.string (Lm.bs r.cur),.slice a1 X.pre.length a2,.slice b1 X.suf.length b2,.slice c1 X.npre.length c2,.slice d1 X.nsuf.length d2,.int .i64 X.pr,.int .i64 X.se,.int .i64 X.mi,.int .i64 X.mf,.int .i64 X.xf] (0,0) _ HLX.out Tryz.underlying34 rfl (by exact infoL) ?_)
 clear x0 x1 x2 x3
 refine (HRS.out _ (Q.refl _)).mono ?_
 rintro e w3 ⟨sv,rfl,hs3,hq3⟩
 obtain ⟨sa,sc,rfl,_,_⟩:=hs3.lst.form0 (ns_len _ (N + 1))
 have HS3:=Lib.hid hs3.lst
 have HQ3:=Lib.hid hq3
 have HLX3:=Lib.hid (HLX.out.q hq3)
 have HDX3:=Lib.hid (HDX.out.q hq3)
 clear hs3 hq3 HRS
 have HVP:=Lib.hid (fun u (q:Q w3 u) k (h:k < N + 1)=>(HS3.out.q q).cellOf (ns_len _ (N + 1)) h)
 have HNA:=Lib.hid (fun k (h:k < N + 1)=>ns_at (stp L a0) h)
 go_wp2_with fail
 go_loopw [13] (fun i wr=>∃ k:Nat,i = .int .i64 ((k:Int) - 1) ∧ k ≤ N + 3 ∧ Q w3 wr) (fun i _=>N + 3 - (intOf i + 1).toNat)
 case atStart=>exact ⟨0,rfl,by omega,Q.refl _⟩
 case round =>
  obtain ⟨k,rfl,hk,hq⟩:=hrel
  have HQ:=Lib.hid hq
  clear hq
  obtain ⟨i,hi⟩:∃ i:Int,i = (k:Int) - 1:=⟨_,rfl⟩
  rw [← hi]
  have hi1:-1 ≤ i:=by omega
  have HI:=Lib.hid hi
  clear hi
  by_cases hlt:i ≤ (N:Int) + 1
  ·by_cases h0:i < 0
   ·obtain rfl:i = -1:=by omega
    have C:=Lib.hid (HOU.out wr (HQ3.out.trans HQ.out) (-1) (by omega))
    go_wp2_with fail
    refine C.out.mono ?_
    rintro e _ ⟨rfl,rfl⟩
    go_wp2_with fail
    exact ⟨⟨k + 1,by have:=HI.out;congr 1;omega,by have:=HI.out;omega,HQ.out⟩,by simp [intOf];try omega⟩
   ·by_cases h1:i ≤ (N:Int)
    ·obtain ⟨m,rfl⟩:∃ m:Nat,i = m:=⟨i.toNat,by omega⟩
     have C:=HIN.out wr (HQ3.out.trans HQ.out) m (by omega)
     obtain ⟨_,_,_,hvv,_,_,_,y1⟩:=HVP.out _ HQ.out m (by omega)
     cases hvv
     rw [HNA.out m (by omega)] at y1
     generalize stp L a0 m = t at *
     have HC:=Lib.hid C
     have hmx:max (m:Int) 0 = (m:Int):=by omega
     have hmn:min (m:Int) (N:Int) = (m:Int):=by omega
     have hmN:(m:Int) < (N:Int) + 1:=by omega
     have htt:((t:Int) == (t:Int)) = true:=by simp
     clear C
     go_wp2_with fail
     refine HC.out.mono ?_
     rintro e _ ⟨rfl,rfl⟩
     go_wp2_with fail
     exact ⟨⟨k + 1,by have:=HI.out;congr 1;omega,by have:=HI.out;omega,HQ.out⟩,by simp [intOf];try omega⟩
    ·obtain rfl:i = (N:Int) + 1:=by omega
     have C:=Lib.hid (HOU.out wr (HQ3.out.trans HQ.out) ((N:Int) + 1) (by omega))
     have hnn:¬ (N:Int) + 1 < (N:Int) + 1:=by omega
     go_wp2_with fail
     refine C.out.mono ?_
     rintro e _ ⟨rfl,rfl⟩
     go_wp2_with fail
     exact ⟨⟨k + 1,by have:=HI.out;congr 1;omega,by have:=HI.out;omega,HQ.out⟩,by simp [intOf];try omega⟩
  ·have HQF:=Lib.hid (HQ2.out.trans (HQ3.out.trans HQ.out))
   have wr1:IntKind.i64.wrap ((N:Int) + 1 - 1) = (N:Int):=by rw [show (N:Int) + 1 - 1 = N from by omega];exact IntWalk.i64_in _ (by omega)
   have wr2:IntKind.i64.wrap (N:Int) = (N:Int):=IntWalk.i64_in _ (by omega)
   have hNN:((N:Int) == (N:Int)) = true:=by simp
   have HRI3:=Lib.hid (fun u (q:Q w3 u)=>HRI.out u (HQ3.out.trans q))
   have HSP3:=Lib.hid (fun u (q:Q w3 u)=>HSP.out u (HQ3.out.trans q))
   have HTE3:=Lib.hid (fun u (q:Q w3 u)=>HTE.out u (HQ3.out.trans q))
   have HLE3:=Lib.hid (fun u (q:Q w3 u)=>HLE.out u (HQ3.out.trans q))
   have HTX:=Lib.hid (fun u iv (h:LstI u iv L)=>It.rtext_any iv L u h (by have:=HNL.out;omega) (by have:=HTB.out;omega))
   generalize (⟨(txI L).toArray⟩:ByteArray) = S at *
   have hss:(S.toList == S.toList) = true:=by simp
   clear HRI HSP HTE HLE
   by_cases h0:kk < 0
   ·have C:=Lib.hid (HOU.out wr (HQ3.out.trans HQ.out) kk (.inl h0))
    have hn0:¬ (0:Int) ≤ kk:=by omega
    have hd0:decide ((0:Int) ≤ kk) = false:=decide_eq_false hn0
    go_wp2_with fail
    refine C.out.mono ?_
    rintro e _ ⟨rfl,rfl⟩
    go_upto_region 13 with fail
    refine wp_region_held_drew (S:=fun u=>Q w3 u) (by kernel_rfl) (by exact HQ.out.drew) (fun hHeld=>?_)
    have hS:Q w3 wr.drew:=hHeld
    clear hHeld
    have hq:Q wr wr.drew:=(Q.refl _).drew
    clear hq
    generalize wr.drew = yR1x0 at *
    change wpAnyH _ _ _ _ _ _ #[ff,ff,ff,ff,ff,ff,ff,ff,ff,ff,ff,ff,ff,ff,ff,ff,ff,ff,ff,ff,ff,ff,ff,ff,ff,ff,ff,ff,ff,ff,ff,ff,ff,ff,ff,ff,ff] _ _
    refine wpAnyH_take (i:=0) (v:=?vR1x1) (by (try simp only [gA,gB,gC]);rfl) (by kernel_rfl) (by kernel_rfl) (by kernel_rfl) (by exact fun _ _ _ h=>h) (Or.inl ⟨by first | kernel_rfl | rfl,?hyR1x1⟩) (by exact hS) ?rsR1x1
    case hyR1x1=>(intro uz hSw;(try dsimp only at hSw);go_simp;try with_reducible rfl)
    try simp only [Act.put,sA,sB,sC]
    change wpAnyH _ _ _ _ _ _ #[tt,ff,ff,ff,ff,ff,ff,ff,ff,ff,ff,ff,ff,ff,ff,ff,ff,ff,ff,ff,ff,ff,ff,ff,ff,ff,ff,ff,ff,ff,ff,ff,ff,ff,ff,ff,ff] _ _
    refine wpAnyH_take (i:=2) (v:=?vR1x2) (by (try simp only [gA,gB,gC]);rfl) (by kernel_rfl) (by kernel_rfl) (by kernel_rfl) (by exact fun _ _ _ h=>h) (Or.inl ⟨by first | kernel_rfl | rfl,?hyR1x2⟩) (by exact hS) ?rsR1x2
    case hyR1x2=>(intro uz hSw;(try dsimp only at hSw);go_simp;try with_reducible rfl)
    try simp only [Act.put,sA,sB,sC]
    change wpAnyH _ _ _ _ _ _ #[tt,ff,tt,ff,ff,ff,ff,ff,ff,ff,ff,ff,ff,ff,ff,ff,ff,ff,ff,ff,ff,ff,ff,ff,ff,ff,ff,ff,ff,ff,ff,ff,ff,ff,ff,ff,ff] _ _
    refine wpAnyH_ready (rs:=[1]) (by kernel_rfl) (by simp) ?_
    refine (AllReadyH.cons (by (try simp only [gA,gB,gC]);rfl) (fun K hK=>?_) AllReadyH.nil)
    go_simp
    refine (HSP3.out _ hS).mono ?_
    rintro e yR1x3 ⟨xo,rfl,ho,hq⟩
    obtain ⟨oa,oc,rfl,_,_⟩:=ho.lst.form0 (ns_len _ (N + 1))
    have HO:=Lib.hid ho.lst
    clear ho
    try (go_wp2_with fail)
    have hS2:=Q.trans hS hq
    refine hK.out _ _ (by exact hS2) (fun hHeld=>?_)
    clear hK K hHeld hS hq
    have hS:=hS2
    clear hS2
    try simp only [Act.put,sA,sB,sC]
    change wpAnyH _ _ _ _ _ _ #[tt,tt,tt,ff,ff,ff,ff,ff,ff,ff,ff,ff,ff,ff,ff,ff,ff,ff,ff,ff,ff,ff,ff,ff,ff,ff,ff,ff,ff,ff,ff,ff,ff,ff,ff,ff,ff] _ _
    refine wpAnyH_ready (rs:=[3]) (by kernel_rfl) (by simp) ?_
    refine (AllReadyH.cons (by (try simp only [gA,gB,gC]);rfl) (fun K hK=>?_) AllReadyH.nil)
    go_simp
    refine (same_refl _ _ _ _ HO.out (HS3.out.q hS) (by rw [ns_len];omega)).mono ?_
    rintro e yR1x4 ⟨rfl,hq⟩
    try (go_wp2_with fail)
    have HO:=Lib.hid (Lst.q HO.out hq)
    have hS2:=Q.trans hS hq
    refine hK.out _ _ (by exact hS2) (fun hHeld=>?_)
    clear hK K hHeld hS hq
    have hS:=hS2
    clear hS2
    try simp only [Act.put,sA,sB,sC]
    change wpAnyH _ _ _ _ _ _ #[tt,tt,tt,tt,ff,ff,ff,ff,ff,ff,ff,ff,ff,ff,ff,ff,ff,ff,ff,ff,ff,ff,ff,ff,ff,ff,ff,ff,ff,ff,ff,ff,ff,ff,ff,ff,ff] _ _
    refine wpAnyH_take (i:=4) (v:=?vR1x5) (by (try simp only [gA,gB,gC]);rfl) (by kernel_rfl) (by kernel_rfl) (by kernel_rfl) (by exact fun _ _ _ h=>h) (Or.inl ⟨by first | kernel_rfl | rfl,?hyR1x5⟩) (by exact hS) ?rsR1x5
    case hyR1x5=>(intro uz hSw;(try dsimp only at hSw);go_simp;try with_reducible rfl)
    try simp only [Act.put,sA,sB,sC]
    change wpAnyH _ _ _ _ _ _ #[tt,tt,tt,tt,tt,ff,ff,ff,ff,ff,ff,ff,ff,ff,ff,ff,ff,ff,ff,ff,ff,ff,ff,ff,ff,ff,ff,ff,ff,ff,ff,ff,ff,ff,ff,ff,ff] _ _
    refine wpAnyH_take (i:=5) (v:=?vR1x6) (by (try simp only [gA,gB,gC]);rfl) (by kernel_rfl) (by kernel_rfl) (by kernel_rfl) (by exact fun _ _ _ h=>h) (Or.inl ⟨by first | kernel_rfl | rfl,?hyR1x6⟩) (by exact hS) ?rsR1x6
    case hyR1x6=>(intro uz hSw;(try dsimp only at hSw);go_simp;try with_reducible rfl)
    try simp only [Act.put,sA,sB,sC]
    change wpAnyH _ _ _ _ _ _ #[tt,tt,tt,tt,tt,tt,ff,ff,ff,ff,ff,ff,ff,ff,ff,ff,ff,ff,ff,ff,ff,ff,ff,ff,ff,ff,ff,ff,ff,ff,ff,ff,ff,ff,ff,ff,ff] _ _
    refine wpAnyH_take (i:=7) (v:=?vR1x7) (by (try simp only [gA,gB,gC]);rfl) (by kernel_rfl) (by kernel_rfl) (by kernel_rfl) (by exact fun _ _ _ h=>h) (Or.inl ⟨by first | kernel_rfl | rfl,?hyR1x7⟩) (by exact hS) ?rsR1x7
    case hyR1x7=>(intro uz hSw;(try dsimp only at hSw);go_simp;try with_reducible rfl)
    try simp only [Act.put,sA,sB,sC]
    change wpAnyH _ _ _ _ _ _ #[tt,tt,tt,tt,tt,tt,ff,tt,ff,ff,ff,ff,ff,ff,ff,ff,ff,ff,ff,ff,ff,ff,ff,ff,ff,ff,ff,ff,ff,ff,ff,ff,ff,ff,ff,ff,ff] _ _
    refine wpAnyH_take (i:=8) (v:=?vR1x8) (by (try simp only [gA,gB,gC]);rfl) (by kernel_rfl) (by kernel_rfl) (by kernel_rfl) (by exact fun _ _ _ h=>h) (Or.inl ⟨by first | kernel_rfl | rfl,?hyR1x8⟩) (by exact hS) ?rsR1x8
    case hyR1x8=>(intro uz hSw;(try dsimp only at hSw);go_simp;try with_reducible rfl)
    try simp only [Act.put,sA,sB,sC]
    change wpAnyH _ _ _ _ _ _ #[tt,tt,tt,tt,tt,tt,ff,tt,tt,ff,ff,ff,ff,ff,ff,ff,ff,ff,ff,ff,ff,ff,ff,ff,ff,ff,ff,ff,ff,ff,ff,ff,ff,ff,ff,ff,ff] _ _
    refine wpAnyH_take (i:=9) (v:=?vR1x9) (by (try simp only [gA,gB,gC]);rfl) (by kernel_rfl) (by kernel_rfl) (by kernel_rfl) (by exact fun _ _ _ h=>h) (Or.inl ⟨by first | kernel_rfl | rfl,?hyR1x9⟩) (by exact hS) ?rsR1x9
    case hyR1x9=>(intro uz hSw;(try dsimp only at hSw);go_simp;try with_reducible rfl)
    try simp only [Act.put,sA,sB,sC]
    change wpAnyH _ _ _ _ _ _ #[tt,tt,tt,tt,tt,tt,ff,tt,tt,tt,ff,ff,ff,ff,ff,ff,ff,ff,ff,ff,ff,ff,ff,ff,ff,ff,ff,ff,ff,ff,ff,ff,ff,ff,ff,ff,ff] _ _
    refine wpAnyH_ready (rs:=[6]) (by kernel_rfl) (by simp) ?_
    refine (AllReadyH.cons (by (try simp only [gA,gB,gC]);rfl) (fun K hK=>?_) AllReadyH.nil)
    go_simp
    refine (HLE3.out _ hS).mono ?_
    rintro e yR1x10 ⟨rfl,hq⟩
    try (go_wp2_with fail)
    have HO:=Lib.hid (Lst.q HO.out hq)
    have hS2:=Q.trans hS hq
    refine hK.out _ _ (by exact hS2) (fun hHeld=>?_)
    clear hK K hHeld hS hq
    have hS:=hS2
    clear hS2
    try simp only [Act.put,sA,sB,sC]
    change wpAnyH _ _ _ _ _ _ #[tt,tt,tt,tt,tt,tt,tt,tt,tt,tt,ff,ff,ff,ff,ff,ff,ff,ff,ff,ff,ff,ff,ff,ff,ff,ff,ff,ff,ff,ff,ff,ff,ff,ff,ff,ff,ff] _ _
    refine wpAnyH_take (i:=10) (v:=?vR1x11) (by (try simp only [gA,gB,gC]);rfl) (by kernel_rfl) (by kernel_rfl) (by kernel_rfl) (by exact fun _ _ _ h=>h) (Or.inl ⟨by first | kernel_rfl | rfl,?hyR1x11⟩) (by exact hS) ?rsR1x11
    case hyR1x11=>(intro uz hSw;(try dsimp only at hSw);go_simp;try with_reducible rfl)
    try simp only [Act.put,sA,sB,sC]
    change wpAnyH _ _ _ _ _ _ #[tt,tt,tt,tt,tt,tt,tt,tt,tt,tt,tt,ff,ff,ff,ff,ff,ff,ff,ff,ff,ff,ff,ff,ff,ff,ff,ff,ff,ff,ff,ff,ff,ff,ff,ff,ff,ff] _ _
    refine wpAnyH_take (i:=11) (v:=?vR1x12) (by (try simp only [gA,gB,gC]);rfl) (by kernel_rfl) (by kernel_rfl) (by kernel_rfl) (by exact fun _ _ _ h=>h) (Or.inl ⟨by first | kernel_rfl | rfl,?hyR1x12⟩) (by exact hS) ?rsR1x12
    case hyR1x12=>(intro uz hSw;(try dsimp only at hSw);go_simp;try with_reducible rfl)
    try simp only [Act.put,sA,sB,sC]
    change wpAnyH _ _ _ _ _ _ #[tt,tt,tt,tt,tt,tt,tt,tt,tt,tt,tt,tt,ff,ff,ff,ff,ff,ff,ff,ff,ff,ff,ff,ff,ff,ff,ff,ff,ff,ff,ff,ff,ff,ff,ff,ff,ff] _ _
    refine wpAnyH_take (i:=12) (v:=?vR1x13) (by (try simp only [gA,gB,gC]);rfl) (by kernel_rfl) (by kernel_rfl) (by kernel_rfl) (by exact fun _ _ _ h=>h) (Or.inl ⟨by first | kernel_rfl | rfl,?hyR1x13⟩) (by exact hS) ?rsR1x13
    case hyR1x13=>(intro uz hSw;(try dsimp only at hSw);go_simp;try with_reducible rfl)
    try simp only [Act.put,sA,sB,sC]
    change wpAnyH _ _ _ _ _ _ #[tt,tt,tt,tt,tt,tt,tt,tt,tt,tt,tt,tt,tt,ff,ff,ff,ff,ff,ff,ff,ff,ff,ff,ff,ff,ff,ff,ff,ff,ff,ff,ff,ff,ff,ff,ff,ff] _ _
    refine wpAnyH_take (i:=13) (v:=?vR1x14) (by (try simp only [gA,gB,gC]);rfl) (by kernel_rfl) (by kernel_rfl) (by kernel_rfl) (by exact fun _ _ _ h=>h) (Or.inl ⟨by first | kernel_rfl | rfl,?hyR1x14⟩) (by exact hS) ?rsR1x14
    case hyR1x14=>(intro uz hSw;(try dsimp only at hSw);go_simp;try with_reducible rfl)
    try simp only [Act.put,sA,sB,sC]
    change wpAnyH _ _ _ _ _ _ #[tt,tt,tt,tt,tt,tt,tt,tt,tt,tt,tt,tt,tt,tt,ff,ff,ff,ff,ff,ff,ff,ff,ff,ff,ff,ff,ff,ff,ff,ff,ff,ff,ff,ff,ff,ff,ff] _ _
    refine wpAnyH_take (i:=14) (v:=?vR1x15) (by (try simp only [gA,gB,gC]);rfl) (by kernel_rfl) (by kernel_rfl) (by kernel_rfl) (by exact fun _ _ _ h=>h) (Or.inl ⟨by first | kernel_rfl | rfl,?hyR1x15⟩) (by exact hS) ?rsR1x15
    case hyR1x15=>(intro uz hSw;(try dsimp only at hSw);go_simp;try with_reducible rfl)
    try simp only [Act.put,sA,sB,sC]
    change wpAnyH _ _ _ _ _ _ #[tt,tt,tt,tt,tt,tt,tt,tt,tt,tt,tt,tt,tt,tt,tt,ff,ff,ff,ff,ff,ff,ff,ff,ff,ff,ff,ff,ff,ff,ff,ff,ff,ff,ff,ff,ff,ff] _ _
    refine wpAnyH_take (i:=15) (v:=?vR1x16) (by (try simp only [gA,gB,gC]);rfl) (by kernel_rfl) (by kernel_rfl) (by kernel_rfl) (by exact fun _ _ _ h=>h) (Or.inl ⟨by first | kernel_rfl | rfl,?hyR1x16⟩) (by exact hS) ?rsR1x16
    case hyR1x16=>(intro uz hSw;(try dsimp only at hSw);go_simp;try with_reducible rfl)
    try simp only [Act.put,sA,sB,sC]
    change wpAnyH _ _ _ _ _ _ #[tt,tt,tt,tt,tt,tt,tt,tt,tt,tt,tt,tt,tt,tt,tt,tt,ff,ff,ff,ff,ff,ff,ff,ff,ff,ff,ff,ff,ff,ff,ff,ff,ff,ff,ff,ff,ff] _ _
    refine wpAnyH_take (i:=16) (v:=?vR1x17) (by (try simp only [gA,gB,gC]);rfl) (by kernel_rfl) (by kernel_rfl) (by kernel_rfl) (by exact fun _ _ _ h=>h) (Or.inl ⟨by first | kernel_rfl | rfl,?hyR1x17⟩) (by exact hS) ?rsR1x17
    case hyR1x17=>(intro uz hSw;(try dsimp only at hSw);go_simp;try with_reducible rfl)
    try simp only [Act.put,sA,sB,sC]
    change wpAnyH _ _ _ _ _ _ #[tt,tt,tt,tt,tt,tt,tt,tt,tt,tt,tt,tt,tt,tt,tt,tt,tt,ff,ff,ff,ff,ff,ff,ff,ff,ff,ff,ff,ff,ff,ff,ff,ff,ff,ff,ff,ff] _ _
    refine wpAnyH_take (i:=17) (v:=undef) (by (try simp only [gA,gB,gC]);rfl) (by kernel_rfl) (by kernel_rfl) (by kernel_rfl) (by exact fun _ _ _ h=>h) (Or.inr ⟨by first | kernel_rfl | rfl,rfl⟩) (by exact hS) ?_
    try simp only [Act.put,sA,sB,sC]
    change wpAnyH _ _ _ _ _ _ #[tt,tt,tt,tt,tt,tt,tt,tt,tt,tt,tt,tt,tt,tt,tt,tt,tt,tt,ff,ff,ff,ff,ff,ff,ff,ff,ff,ff,ff,ff,ff,ff,ff,ff,ff,ff,ff] _ _
    refine wpAnyH_take (i:=18) (v:=undef) (by (try simp only [gA,gB,gC]);rfl) (by kernel_rfl) (by kernel_rfl) (by kernel_rfl) (by exact fun _ _ _ h=>h) (Or.inr ⟨by first | kernel_rfl | rfl,rfl⟩) (by exact hS) ?_
    try simp only [Act.put,sA,sB,sC]
    change wpAnyH _ _ _ _ _ _ #[tt,tt,tt,tt,tt,tt,tt,tt,tt,tt,tt,tt,tt,tt,tt,tt,tt,tt,tt,ff,ff,ff,ff,ff,ff,ff,ff,ff,ff,ff,ff,ff,ff,ff,ff,ff,ff] _ _
    refine wpAnyH_take (i:=19) (v:=undef) (by (try simp only [gA,gB,gC]);rfl) (by kernel_rfl) (by kernel_rfl) (by kernel_rfl) (by exact fun _ _ _ h=>h) (Or.inr ⟨by first | kernel_rfl | rfl,rfl⟩) (by exact hS) ?_
    try simp only [Act.put,sA,sB,sC]
    change wpAnyH _ _ _ _ _ _ #[tt,tt,tt,tt,tt,tt,tt,tt,tt,tt,tt,tt,tt,tt,tt,tt,tt,tt,tt,tt,ff,ff,ff,ff,ff,ff,ff,ff,ff,ff,ff,ff,ff,ff,ff,ff,ff] _ _
    refine wpAnyH_take (i:=20) (v:=undef) (by (try simp only [gA,gB,gC]);rfl) (by kernel_rfl) (by kernel_rfl) (by kernel_rfl) (by exact fun _ _ _ h=>h) (Or.inr ⟨by first | kernel_rfl | rfl,rfl⟩) (by exact hS) ?_
    try simp only [Act.put,sA,sB,sC]
    change wpAnyH _ _ _ _ _ _ #[tt,tt,tt,tt,tt,tt,tt,tt,tt,tt,tt,tt,tt,tt,tt,tt,tt,tt,tt,tt,tt,ff,ff,ff,ff,ff,ff,ff,ff,ff,ff,ff,ff,ff,ff,ff,ff] _ _
    refine wpAnyH_take (i:=21) (v:=?vR1x22) (by (try simp only [gA,gB,gC]);rfl) (by kernel_rfl) (by kernel_rfl) (by kernel_rfl) (by exact fun _ _ _ h=>h) (Or.inl ⟨by first | kernel_rfl | rfl,?hyR1x22⟩) (by exact hS) ?rsR1x22
    case hyR1x22=>(intro uz hSw;(try dsimp only at hSw);go_simp;try with_reducible rfl)
    try simp only [Act.put,sA,sB,sC]
    change wpAnyH _ _ _ _ _ _ #[tt,tt,tt,tt,tt,tt,tt,tt,tt,tt,tt,tt,tt,tt,tt,tt,tt,tt,tt,tt,tt,tt,ff,ff,ff,ff,ff,ff,ff,ff,ff,ff,ff,ff,ff,ff,ff] _ _
    refine wpAnyH_take (i:=22) (v:=?vR1x23) (by (try simp only [gA,gB,gC]);rfl) (by kernel_rfl) (by kernel_rfl) (by kernel_rfl) (by exact fun _ _ _ h=>h) (Or.inl ⟨by first | kernel_rfl | rfl,?hyR1x23⟩) (by exact hS) ?rsR1x23
    case hyR1x23=>(intro uz hSw;(try dsimp only at hSw);go_simp;try with_reducible rfl)
    try simp only [Act.put,sA,sB,sC]
    change wpAnyH _ _ _ _ _ _ #[tt,tt,tt,tt,tt,tt,tt,tt,tt,tt,tt,tt,tt,tt,tt,tt,tt,tt,tt,tt,tt,tt,tt,ff,ff,ff,ff,ff,ff,ff,ff,ff,ff,ff,ff,ff,ff] _ _
    refine wpAnyH_take (i:=23) (v:=?vR1x24) (by (try simp only [gA,gB,gC]);rfl) (by kernel_rfl) (by kernel_rfl) (by kernel_rfl) (by exact fun _ _ _ h=>h) (Or.inl ⟨by first | kernel_rfl | rfl,?hyR1x24⟩) (by exact hS) ?rsR1x24
    case hyR1x24=>(intro uz hSw;(try dsimp only at hSw);go_simp;try with_reducible rfl)
    try simp only [Act.put,sA,sB,sC]
    change wpAnyH _ _ _ _ _ _ #[tt,tt,tt,tt,tt,tt,tt,tt,tt,tt,tt,tt,tt,tt,tt,tt,tt,tt,tt,tt,tt,tt,tt,tt,ff,ff,ff,ff,ff,ff,ff,ff,ff,ff,ff,ff,ff] _ _
    refine wpAnyH_take (i:=24) (v:=?vR1x25) (by (try simp only [gA,gB,gC]);rfl) (by kernel_rfl) (by kernel_rfl) (by kernel_rfl) (by exact fun _ _ _ h=>h) (Or.inl ⟨by first | kernel_rfl | rfl,?hyR1x25⟩) (by exact hS) ?rsR1x25
    case hyR1x25=>(intro uz hSw;(try dsimp only at hSw);go_simp;try with_reducible rfl)
    try simp only [Act.put,sA,sB,sC]
    change wpAnyH _ _ _ _ _ _ #[tt,tt,tt,tt,tt,tt,tt,tt,tt,tt,tt,tt,tt,tt,tt,tt,tt,tt,tt,tt,tt,tt,tt,tt,tt,ff,ff,ff,ff,ff,ff,ff,ff,ff,ff,ff,ff] _ _
    refine wpAnyH_take (i:=25) (v:=?vR1x26) (by (try simp only [gA,gB,gC]);rfl) (by kernel_rfl) (by kernel_rfl) (by kernel_rfl) (by exact fun _ _ _ h=>h) (Or.inl ⟨by first | kernel_rfl | rfl,?hyR1x26⟩) (by exact hS) ?rsR1x26
    case hyR1x26=>(intro uz hSw;(try dsimp only at hSw);go_simp;try with_reducible rfl)
    try simp only [Act.put,sA,sB,sC]
    change wpAnyH _ _ _ _ _ _ #[tt,tt,tt,tt,tt,tt,tt,tt,tt,tt,tt,tt,tt,tt,tt,tt,tt,tt,tt,tt,tt,tt,tt,tt,tt,tt,ff,ff,ff,ff,ff,ff,ff,ff,ff,ff,ff] _ _
    refine wpAnyH_take (i:=27) (v:=?vR1x27) (by (try simp only [gA,gB,gC]);rfl) (by kernel_rfl) (by kernel_rfl) (by kernel_rfl) (by exact fun _ _ _ h=>h) (Or.inl ⟨by first | kernel_rfl | rfl,?hyR1x27⟩) (by exact hS) ?rsR1x27
    case hyR1x27=>(intro uz hSw;(try dsimp only at hSw);refine ld_row (x:=.tmp 10) ?_ ?_ (HLX3.out.q hSw) Tryz.underlying34 (by exact infoL) <;> rfl)
    try simp only [Act.put,sA,sB,sC]
    change wpAnyH _ _ _ _ _ _ #[tt,tt,tt,tt,tt,tt,tt,tt,tt,tt,tt,tt,tt,tt,tt,tt,tt,tt,tt,tt,tt,tt,tt,tt,tt,tt,ff,tt,ff,ff,ff,ff,ff,ff,ff,ff,ff] _ _
    refine wpAnyH_take (i:=28) (v:=?vR1x28) (by (try simp only [gA,gB,gC]);rfl) (by kernel_rfl) (by kernel_rfl) (by kernel_rfl) (by exact fun _ _ _ h=>h) (Or.inl ⟨by first | kernel_rfl | rfl,?hyR1x28⟩) (by exact hS) ?rsR1x28
    case hyR1x28=>(intro uz hSw;(try dsimp only at hSw);refine ld_row (x:=.tmp 11) ?_ ?_ (HDX3.out.q hSw) Tryz.underlying26 (by exact infoD) <;> rfl)
    try simp only [Act.put,sA,sB,sC]
    change wpAnyH _ _ _ _ _ _ #[tt,tt,tt,tt,tt,tt,tt,tt,tt,tt,tt,tt,tt,tt,tt,tt,tt,tt,tt,tt,tt,tt,tt,tt,tt,tt,ff,tt,tt,ff,ff,ff,ff,ff,ff,ff,ff] _ _
    refine wpAnyH_ready (rs:=[26]) (by kernel_rfl) (by simp) ?_
    refine (AllReadyH.cons (by (try simp only [gA,gB,gC]);rfl) (fun K hK=>?_) AllReadyH.nil)
    go_simp
    refine (HTE3.out _ hS).mono ?_
    rintro e yR1x29 ⟨rfl,hq⟩
    try (go_wp2_with fail)
    have HO:=Lib.hid (Lst.q HO.out hq)
    have hS2:=Q.trans hS hq
    refine hK.out _ _ (by exact hS2) (fun hHeld=>?_)
    clear hK K hHeld hS hq
    have hS:=hS2
    clear hS2
    try simp only [Act.put,sA,sB,sC]
    change wpAnyH _ _ _ _ _ _ #[tt,tt,tt,tt,tt,tt,tt,tt,tt,tt,tt,tt,tt,tt,tt,tt,tt,tt,tt,tt,tt,tt,tt,tt,tt,tt,tt,tt,tt,ff,ff,ff,ff,ff,ff,ff,ff] _ _
    refine wpAnyH_ready (rs:=[29]) (by kernel_rfl) (by simp) ?_
    refine (AllReadyH.cons (by (try simp only [gA,gB,gC]);rfl) (fun K hK=>?_) AllReadyH.nil)
    go_simp
    refine (HRI3.out _ hS).mono ?_
    rintro e yR1x30 ⟨iv,rfl,hv,hq⟩
    obtain ⟨ia,ic,rfl,_,_⟩:=hv.lst.form0 HNL.out
    have HIV:=Lib.hid hv.lst
    clear hv
    try (go_wp2_with fail)
    have HO:=Lib.hid (Lst.q HO.out hq)
    have hS2:=Q.trans hS hq
    refine hK.out _ _ (by exact hS2) (fun hHeld=>?_)
    clear hK K hHeld hS hq
    have hS:=hS2
    clear hS2
    try simp only [Act.put,sA,sB,sC]
    change wpAnyH _ _ _ _ _ _ #[tt,tt,tt,tt,tt,tt,tt,tt,tt,tt,tt,tt,tt,tt,tt,tt,tt,tt,tt,tt,tt,tt,tt,tt,tt,tt,tt,tt,tt,tt,ff,ff,ff,ff,ff,ff,ff] _ _
    refine wpAnyH_ready (rs:=[30]) (by kernel_rfl) (by simp) ?_
    refine (AllReadyH.cons (by (try simp only [gA,gB,gC]);rfl) (fun K hK=>?_) AllReadyH.nil)
    go_simp
    refine (HTX.out _ _ HIV.out).mono ?_
    rintro e yR1x31 ⟨rfl,hq⟩
    try (go_wp2_with fail)
    have HO:=Lib.hid (Lst.q HO.out hq)
    have HIV:=Lib.hid (LstI.q HIV.out hq)
    have hS2:=Q.trans hS hq
    refine hK.out _ _ (by exact hS2) (fun hHeld=>?_)
    clear hK K hHeld hS hq
    have hS:=hS2
    clear hS2
    try simp only [Act.put,sA,sB,sC]
    change wpAnyH _ _ _ _ _ _ #[tt,tt,tt,tt,tt,tt,tt,tt,tt,tt,tt,tt,tt,tt,tt,tt,tt,tt,tt,tt,tt,tt,tt,tt,tt,tt,tt,tt,tt,tt,tt,ff,ff,ff,ff,ff,ff] _ _
    refine wpAnyH_take (i:=31) (v:=?vR1x32) (by (try simp only [gA,gB,gC]);rfl) (by kernel_rfl) (by kernel_rfl) (by kernel_rfl) (by exact fun _ _ _ h=>h) (Or.inl ⟨by first | kernel_rfl | rfl,?hyR1x32⟩) (by exact hS) ?rsR1x32
    case hyR1x32=>(intro uz hSw;(try dsimp only at hSw);go_simp;try with_reducible rfl)
    try simp only [Act.put,sA,sB,sC]
    change wpAnyH _ _ _ _ _ _ #[tt,tt,tt,tt,tt,tt,tt,tt,tt,tt,tt,tt,tt,tt,tt,tt,tt,tt,tt,tt,tt,tt,tt,tt,tt,tt,tt,tt,tt,tt,tt,tt,ff,ff,ff,ff,ff] _ _
    refine wpAnyH_take (i:=32) (v:=?vR1x33) (by (try simp only [gA,gB,gC]);rfl) (by kernel_rfl) (by kernel_rfl) (by kernel_rfl) (by exact fun _ _ _ h=>h) (Or.inl ⟨by first | kernel_rfl | rfl,?hyR1x33⟩) (by exact hS) ?rsR1x33
    case hyR1x33=>(intro uz hSw;(try dsimp only at hSw);go_simp;try with_reducible rfl)
    try simp only [Act.put,sA,sB,sC]
    change wpAnyH _ _ _ _ _ _ #[tt,tt,tt,tt,tt,tt,tt,tt,tt,tt,tt,tt,tt,tt,tt,tt,tt,tt,tt,tt,tt,tt,tt,tt,tt,tt,tt,tt,tt,tt,tt,tt,tt,ff,ff,ff,ff] _ _
    refine wpAnyH_take (i:=33) (v:=?vR1x34) (by (try simp only [gA,gB,gC]);rfl) (by kernel_rfl) (by kernel_rfl) (by kernel_rfl) (by exact fun _ _ _ h=>h) (Or.inl ⟨by first | kernel_rfl | rfl,?hyR1x34⟩) (by exact hS) ?rsR1x34
    case hyR1x34=>(intro uz hSw;(try dsimp only at hSw);go_simp;try with_reducible rfl)
    try simp only [Act.put,sA,sB,sC]
    change wpAnyH _ _ _ _ _ _ #[tt,tt,tt,tt,tt,tt,tt,tt,tt,tt,tt,tt,tt,tt,tt,tt,tt,tt,tt,tt,tt,tt,tt,tt,tt,tt,tt,tt,tt,tt,tt,tt,tt,tt,ff,ff,ff] _ _
    refine wpAnyH_ready (rs:=[34]) (by kernel_rfl) (by simp) ?_
    refine (AllReadyH.cons (by (try simp only [gA,gB,gC]);rfl) (fun K hK=>?_) AllReadyH.nil)
    go_simp
    refine (Vw.lives_any _).mono ?_
    rintro e yR1x35 ⟨rfl,hq⟩
    try (go_wp2_with fail)
    have HO:=Lib.hid (Lst.q HO.out hq)
    have HIV:=Lib.hid (LstI.q HIV.out hq)
    have hS2:=Q.trans hS hq
    refine hK.out _ _ (by exact hS2) (fun hHeld=>?_)
    clear hK K hHeld hS hq
    have hS:=hS2
    clear hS2
    try simp only [Act.put,sA,sB,sC]
    change wpAnyH _ _ _ _ _ _ #[tt,tt,tt,tt,tt,tt,tt,tt,tt,tt,tt,tt,tt,tt,tt,tt,tt,tt,tt,tt,tt,tt,tt,tt,tt,tt,tt,tt,tt,tt,tt,tt,tt,tt,tt,ff,ff] _ _
    refine wpAnyH_take (i:=35) (v:=?vR1x36) (by (try simp only [gA,gB,gC]);rfl) (by kernel_rfl) (by kernel_rfl) (by kernel_rfl) (by exact fun _ _ _ h=>h) (Or.inl ⟨by first | kernel_rfl | rfl,?hyR1x36⟩) (by exact hS) ?rsR1x36
    case hyR1x36=>(intro uz hSw;(try dsimp only at hSw);go_simp;try with_reducible rfl)
    try simp only [Act.put,sA,sB,sC]
    change wpAnyH _ _ _ _ _ _ #[tt,tt,tt,tt,tt,tt,tt,tt,tt,tt,tt,tt,tt,tt,tt,tt,tt,tt,tt,tt,tt,tt,tt,tt,tt,tt,tt,tt,tt,tt,tt,tt,tt,tt,tt,tt,ff] _ _
    refine wpAnyH_take (i:=36) (v:=?vR1x37) (by (try simp only [gA,gB,gC]);rfl) (by kernel_rfl) (by kernel_rfl) (by kernel_rfl) (by exact fun _ _ _ h=>h) (Or.inl ⟨by first | kernel_rfl | rfl,?hyR1x37⟩) (by exact hS) ?rsR1x37
    case hyR1x37=>(intro uz hSw;(try dsimp only at hSw);go_simp;try with_reducible rfl)
    try simp only [Act.put,sA,sB,sC]
    change wpAnyH _ _ _ _ _ _ #[tt,tt,tt,tt,tt,tt,tt,tt,tt,tt,tt,tt,tt,tt,tt,tt,tt,tt,tt,tt,tt,tt,tt,tt,tt,tt,tt,tt,tt,tt,tt,tt,tt,tt,tt,tt,tt] _ _
    refine wpAnyH_done (by kernel_rfl) ?_ _
    have HQE:=Lib.hid (HQ2.out.trans (HQ3.out.trans hS))
    clear hS
    go_wp2_with fail
    go_ret
    exact ⟨rfl,HQE.out⟩
   ·by_cases h1:kk ≤ (N:Int)
    ·obtain ⟨m,rfl⟩:∃ m:Nat,kk = m:=⟨kk.toNat,by omega⟩
     have C:=HIN.out wr (HQ3.out.trans HQ.out) m (by omega)
     generalize stp L a0 m = t at C
     have HC:=Lib.hid C
     have hmN:(m:Int) < (N:Int) + 1:=by omega
     have hm0:(0:Int) ≤ (m:Int):=by omega
     clear C
     go_wp2_with fail
     refine HC.out.mono ?_
     rintro e _ ⟨rfl,rfl⟩
     go_upto_region 13 with fail
     refine wp_region_held_drew (S:=fun u=>Q w3 u) (by kernel_rfl) (by exact HQ.out.drew) (fun hHeld=>?_)
     have hS:Q w3 wr.drew:=hHeld
     clear hHeld
     have hq:Q wr wr.drew:=(Q.refl _).drew
     clear hq
     generalize wr.drew = yR2x0 at *
     change wpAnyH _ _ _ _ _ _ #[ff,ff,ff,ff,ff,ff,ff,ff,ff,ff,ff,ff,ff,ff,ff,ff,ff,ff,ff,ff,ff,ff,ff,ff,ff,ff,ff,ff,ff,ff,ff,ff,ff,ff,ff,ff,ff] _ _
     refine wpAnyH_take (i:=0) (v:=?vR2x1) (by (try simp only [gA,gB,gC]);rfl) (by kernel_rfl) (by kernel_rfl) (by kernel_rfl) (by exact fun _ _ _ h=>h) (Or.inl ⟨by first | kernel_rfl | rfl,?hyR2x1⟩) (by exact hS) ?rsR2x1
     case hyR2x1=>(intro uz hSw;(try dsimp only at hSw);go_simp;try with_reducible rfl)
     try simp only [Act.put,sA,sB,sC]
     change wpAnyH _ _ _ _ _ _ #[tt,ff,ff,ff,ff,ff,ff,ff,ff,ff,ff,ff,ff,ff,ff,ff,ff,ff,ff,ff,ff,ff,ff,ff,ff,ff,ff,ff,ff,ff,ff,ff,ff,ff,ff,ff,ff] _ _
     refine wpAnyH_take (i:=2) (v:=?vR2x2) (by (try simp only [gA,gB,gC]);rfl) (by kernel_rfl) (by kernel_rfl) (by kernel_rfl) (by exact fun _ _ _ h=>h) (Or.inl ⟨by first | kernel_rfl | rfl,?hyR2x2⟩) (by exact hS) ?rsR2x2
     case hyR2x2=>(intro uz hSw;(try dsimp only at hSw);go_simp;try with_reducible rfl)
     try simp only [Act.put,sA,sB,sC]
     change wpAnyH _ _ _ _ _ _ #[tt,ff,tt,ff,ff,ff,ff,ff,ff,ff,ff,ff,ff,ff,ff,ff,ff,ff,ff,ff,ff,ff,ff,ff,ff,ff,ff,ff,ff,ff,ff,ff,ff,ff,ff,ff,ff] _ _
     refine wpAnyH_ready (rs:=[1]) (by kernel_rfl) (by simp) ?_
     refine (AllReadyH.cons (by (try simp only [gA,gB,gC]);rfl) (fun K hK=>?_) AllReadyH.nil)
     go_simp
     refine (HSP3.out _ hS).mono ?_
     rintro e yR2x3 ⟨xo,rfl,ho,hq⟩
     obtain ⟨oa,oc,rfl,_,_⟩:=ho.lst.form0 (ns_len _ (N + 1))
     have HO:=Lib.hid ho.lst
     clear ho
     try (go_wp2_with fail)
     have hS2:=Q.trans hS hq
     refine hK.out _ _ (by exact hS2) (fun hHeld=>?_)
     clear hK K hHeld hS hq
     have hS:=hS2
     clear hS2
     try simp only [Act.put,sA,sB,sC]
     change wpAnyH _ _ _ _ _ _ #[tt,tt,tt,ff,ff,ff,ff,ff,ff,ff,ff,ff,ff,ff,ff,ff,ff,ff,ff,ff,ff,ff,ff,ff,ff,ff,ff,ff,ff,ff,ff,ff,ff,ff,ff,ff,ff] _ _
     refine wpAnyH_ready (rs:=[3]) (by kernel_rfl) (by simp) ?_
     refine (AllReadyH.cons (by (try simp only [gA,gB,gC]);rfl) (fun K hK=>?_) AllReadyH.nil)
     go_simp
     refine (same_refl _ _ _ _ HO.out (HS3.out.q hS) (by rw [ns_len];omega)).mono ?_
     rintro e yR2x4 ⟨rfl,hq⟩
     try (go_wp2_with fail)
     have HO:=Lib.hid (Lst.q HO.out hq)
     have hS2:=Q.trans hS hq
     refine hK.out _ _ (by exact hS2) (fun hHeld=>?_)
     clear hK K hHeld hS hq
     have hS:=hS2
     clear hS2
     try simp only [Act.put,sA,sB,sC]
     change wpAnyH _ _ _ _ _ _ #[tt,tt,tt,tt,ff,ff,ff,ff,ff,ff,ff,ff,ff,ff,ff,ff,ff,ff,ff,ff,ff,ff,ff,ff,ff,ff,ff,ff,ff,ff,ff,ff,ff,ff,ff,ff,ff] _ _
     refine wpAnyH_take (i:=4) (v:=?vR2x5) (by (try simp only [gA,gB,gC]);rfl) (by kernel_rfl) (by kernel_rfl) (by kernel_rfl) (by exact fun _ _ _ h=>h) (Or.inl ⟨by first | kernel_rfl | rfl,?hyR2x5⟩) (by exact hS) ?rsR2x5
     case hyR2x5=>(intro uz hSw;(try dsimp only at hSw);go_simp;try with_reducible rfl)
     try simp only [Act.put,sA,sB,sC]
     change wpAnyH _ _ _ _ _ _ #[tt,tt,tt,tt,tt,ff,ff,ff,ff,ff,ff,ff,ff,ff,ff,ff,ff,ff,ff,ff,ff,ff,ff,ff,ff,ff,ff,ff,ff,ff,ff,ff,ff,ff,ff,ff,ff] _ _
     refine wpAnyH_take (i:=5) (v:=?vR2x6) (by (try simp only [gA,gB,gC]);rfl) (by kernel_rfl) (by kernel_rfl) (by kernel_rfl) (by exact fun _ _ _ h=>h) (Or.inl ⟨by first | kernel_rfl | rfl,?hyR2x6⟩) (by exact hS) ?rsR2x6
     case hyR2x6=>(intro uz hSw;(try dsimp only at hSw);go_simp;try with_reducible rfl)
     try simp only [Act.put,sA,sB,sC]
     change wpAnyH _ _ _ _ _ _ #[tt,tt,tt,tt,tt,tt,ff,ff,ff,ff,ff,ff,ff,ff,ff,ff,ff,ff,ff,ff,ff,ff,ff,ff,ff,ff,ff,ff,ff,ff,ff,ff,ff,ff,ff,ff,ff] _ _
     refine wpAnyH_take (i:=7) (v:=?vR2x7) (by (try simp only [gA,gB,gC]);rfl) (by kernel_rfl) (by kernel_rfl) (by kernel_rfl) (by exact fun _ _ _ h=>h) (Or.inl ⟨by first | kernel_rfl | rfl,?hyR2x7⟩) (by exact hS) ?rsR2x7
     case hyR2x7=>(intro uz hSw;(try dsimp only at hSw);go_simp;try with_reducible rfl)
     try simp only [Act.put,sA,sB,sC]
     change wpAnyH _ _ _ _ _ _ #[tt,tt,tt,tt,tt,tt,ff,tt,ff,ff,ff,ff,ff,ff,ff,ff,ff,ff,ff,ff,ff,ff,ff,ff,ff,ff,ff,ff,ff,ff,ff,ff,ff,ff,ff,ff,ff] _ _
     refine wpAnyH_take (i:=8) (v:=?vR2x8) (by (try simp only [gA,gB,gC]);rfl) (by kernel_rfl) (by kernel_rfl) (by kernel_rfl) (by exact fun _ _ _ h=>h) (Or.inl ⟨by first | kernel_rfl | rfl,?hyR2x8⟩) (by exact hS) ?rsR2x8
     case hyR2x8=>(intro uz hSw;(try dsimp only at hSw);go_simp;try with_reducible rfl)
     try simp only [Act.put,sA,sB,sC]
     change wpAnyH _ _ _ _ _ _ #[tt,tt,tt,tt,tt,tt,ff,tt,tt,ff,ff,ff,ff,ff,ff,ff,ff,ff,ff,ff,ff,ff,ff,ff,ff,ff,ff,ff,ff,ff,ff,ff,ff,ff,ff,ff,ff] _ _
     refine wpAnyH_take (i:=9) (v:=?vR2x9) (by (try simp only [gA,gB,gC]);rfl) (by kernel_rfl) (by kernel_rfl) (by kernel_rfl) (by exact fun _ _ _ h=>h) (Or.inl ⟨by first | kernel_rfl | rfl,?hyR2x9⟩) (by exact hS) ?rsR2x9
     case hyR2x9=>(intro uz hSw;(try dsimp only at hSw);go_simp;try with_reducible rfl)
     try simp only [Act.put,sA,sB,sC]
     change wpAnyH _ _ _ _ _ _ #[tt,tt,tt,tt,tt,tt,ff,tt,tt,tt,ff,ff,ff,ff,ff,ff,ff,ff,ff,ff,ff,ff,ff,ff,ff,ff,ff,ff,ff,ff,ff,ff,ff,ff,ff,ff,ff] _ _
     refine wpAnyH_ready (rs:=[6]) (by kernel_rfl) (by simp) ?_
     refine (AllReadyH.cons (by (try simp only [gA,gB,gC]);rfl) (fun K hK=>?_) AllReadyH.nil)
     go_simp
     refine (HLE3.out _ hS).mono ?_
     rintro e yR2x10 ⟨rfl,hq⟩
     try (go_wp2_with fail)
     have HO:=Lib.hid (Lst.q HO.out hq)
     have hS2:=Q.trans hS hq
     refine hK.out _ _ (by exact hS2) (fun hHeld=>?_)
     clear hK K hHeld hS hq
     have hS:=hS2
     clear hS2
     try simp only [Act.put,sA,sB,sC]
     change wpAnyH _ _ _ _ _ _ #[tt,tt,tt,tt,tt,tt,tt,tt,tt,tt,ff,ff,ff,ff,ff,ff,ff,ff,ff,ff,ff,ff,ff,ff,ff,ff,ff,ff,ff,ff,ff,ff,ff,ff,ff,ff,ff] _ _
     refine wpAnyH_take (i:=10) (v:=?vR2x11) (by (try simp only [gA,gB,gC]);rfl) (by kernel_rfl) (by kernel_rfl) (by kernel_rfl) (by exact fun _ _ _ h=>h) (Or.inl ⟨by first | kernel_rfl | rfl,?hyR2x11⟩) (by exact hS) ?rsR2x11
     case hyR2x11=>(intro uz hSw;(try dsimp only at hSw);go_simp;try with_reducible rfl)
     try simp only [Act.put,sA,sB,sC]
     change wpAnyH _ _ _ _ _ _ #[tt,tt,tt,tt,tt,tt,tt,tt,tt,tt,tt,ff,ff,ff,ff,ff,ff,ff,ff,ff,ff,ff,ff,ff,ff,ff,ff,ff,ff,ff,ff,ff,ff,ff,ff,ff,ff] _ _
     refine wpAnyH_take (i:=11) (v:=?vR2x12) (by (try simp only [gA,gB,gC]);rfl) (by kernel_rfl) (by kernel_rfl) (by kernel_rfl) (by exact fun _ _ _ h=>h) (Or.inl ⟨by first | kernel_rfl | rfl,?hyR2x12⟩) (by exact hS) ?rsR2x12
     case hyR2x12=>(intro uz hSw;(try dsimp only at hSw);go_simp;try with_reducible rfl)
     try simp only [Act.put,sA,sB,sC]
     change wpAnyH _ _ _ _ _ _ #[tt,tt,tt,tt,tt,tt,tt,tt,tt,tt,tt,tt,ff,ff,ff,ff,ff,ff,ff,ff,ff,ff,ff,ff,ff,ff,ff,ff,ff,ff,ff,ff,ff,ff,ff,ff,ff] _ _
     refine wpAnyH_take (i:=12) (v:=?vR2x13) (by (try simp only [gA,gB,gC]);rfl) (by kernel_rfl) (by kernel_rfl) (by kernel_rfl) (by exact fun _ _ _ h=>h) (Or.inl ⟨by first | kernel_rfl | rfl,?hyR2x13⟩) (by exact hS) ?rsR2x13
     case hyR2x13=>(intro uz hSw;(try dsimp only at hSw);go_simp;try with_reducible rfl)
     try simp only [Act.put,sA,sB,sC]
     change wpAnyH _ _ _ _ _ _ #[tt,tt,tt,tt,tt,tt,tt,tt,tt,tt,tt,tt,tt,ff,ff,ff,ff,ff,ff,ff,ff,ff,ff,ff,ff,ff,ff,ff,ff,ff,ff,ff,ff,ff,ff,ff,ff] _ _
     refine wpAnyH_take (i:=13) (v:=?vR2x14) (by (try simp only [gA,gB,gC]);rfl) (by kernel_rfl) (by kernel_rfl) (by kernel_rfl) (by exact fun _ _ _ h=>h) (Or.inl ⟨by first | kernel_rfl | rfl,?hyR2x14⟩) (by exact hS) ?rsR2x14
     case hyR2x14=>(intro uz hSw;(try dsimp only at hSw);go_simp;try with_reducible rfl)
     try simp only [Act.put,sA,sB,sC]
     change wpAnyH _ _ _ _ _ _ #[tt,tt,tt,tt,tt,tt,tt,tt,tt,tt,tt,tt,tt,tt,ff,ff,ff,ff,ff,ff,ff,ff,ff,ff,ff,ff,ff,ff,ff,ff,ff,ff,ff,ff,ff,ff,ff] _ _
     refine wpAnyH_take (i:=14) (v:=?vR2x15) (by (try simp only [gA,gB,gC]);rfl) (by kernel_rfl) (by kernel_rfl) (by kernel_rfl) (by exact fun _ _ _ h=>h) (Or.inl ⟨by first | kernel_rfl | rfl,?hyR2x15⟩) (by exact hS) ?rsR2x15
     case hyR2x15=>(intro uz hSw;(try dsimp only at hSw);go_simp;try with_reducible rfl)
     try simp only [Act.put,sA,sB,sC]
     change wpAnyH _ _ _ _ _ _ #[tt,tt,tt,tt,tt,tt,tt,tt,tt,tt,tt,tt,tt,tt,tt,ff,ff,ff,ff,ff,ff,ff,ff,ff,ff,ff,ff,ff,ff,ff,ff,ff,ff,ff,ff,ff,ff] _ _
     refine wpAnyH_take (i:=15) (v:=?vR2x16) (by (try simp only [gA,gB,gC]);rfl) (by kernel_rfl) (by kernel_rfl) (by kernel_rfl) (by exact fun _ _ _ h=>h) (Or.inl ⟨by first | kernel_rfl | rfl,?hyR2x16⟩) (by exact hS) ?rsR2x16
     case hyR2x16=>(intro uz hSw;(try dsimp only at hSw);go_simp;try with_reducible rfl)
     try simp only [Act.put,sA,sB,sC]
     change wpAnyH _ _ _ _ _ _ #[tt,tt,tt,tt,tt,tt,tt,tt,tt,tt,tt,tt,tt,tt,tt,tt,ff,ff,ff,ff,ff,ff,ff,ff,ff,ff,ff,ff,ff,ff,ff,ff,ff,ff,ff,ff,ff] _ _
     refine wpAnyH_take (i:=16) (v:=?vR2x17) (by (try simp only [gA,gB,gC]);rfl) (by kernel_rfl) (by kernel_rfl) (by kernel_rfl) (by exact fun _ _ _ h=>h) (Or.inl ⟨by first | kernel_rfl | rfl,?hyR2x17⟩) (by exact hS) ?rsR2x17
     case hyR2x17=>(intro uz hSw;(try dsimp only at hSw);go_simp;try with_reducible rfl)
     try simp only [Act.put,sA,sB,sC]
     change wpAnyH _ _ _ _ _ _ #[tt,tt,tt,tt,tt,tt,tt,tt,tt,tt,tt,tt,tt,tt,tt,tt,tt,ff,ff,ff,ff,ff,ff,ff,ff,ff,ff,ff,ff,ff,ff,ff,ff,ff,ff,ff,ff] _ _
     refine wpAnyH_take (i:=17) (v:=?vR2x18) (by (try simp only [gA,gB,gC]);rfl) (by kernel_rfl) (by kernel_rfl) (by kernel_rfl) (by exact fun _ _ _ h=>h) (Or.inl ⟨by first | kernel_rfl | rfl,?hyR2x18⟩) (by exact hS) ?rsR2x18
     case hyR2x18=>(intro uz hSw;(try dsimp only at hSw);go_simp;try with_reducible rfl)
     try simp only [Act.put,sA,sB,sC]
     change wpAnyH _ _ _ _ _ _ #[tt,tt,tt,tt,tt,tt,tt,tt,tt,tt,tt,tt,tt,tt,tt,tt,tt,tt,ff,ff,ff,ff,ff,ff,ff,ff,ff,ff,ff,ff,ff,ff,ff,ff,ff,ff,ff] _ _
     refine wpAnyH_take (i:=18) (v:=?vR2x19) (by (try simp only [gA,gB,gC]);rfl) (by kernel_rfl) (by kernel_rfl) (by kernel_rfl) (by exact fun _ _ _ h=>h) (Or.inl ⟨by first | kernel_rfl | rfl,?hyR2x19⟩) (by exact hS) ?rsR2x19
     case hyR2x19=>(intro uz hSw;(try dsimp only at hSw);go_simp;try with_reducible rfl)
     try simp only [Act.put,sA,sB,sC]
     change wpAnyH _ _ _ _ _ _ #[tt,tt,tt,tt,tt,tt,tt,tt,tt,tt,tt,tt,tt,tt,tt,tt,tt,tt,tt,ff,ff,ff,ff,ff,ff,ff,ff,ff,ff,ff,ff,ff,ff,ff,ff,ff,ff] _ _
     refine wpAnyH_take (i:=19) (v:=?vR2x20) (by (try simp only [gA,gB,gC]);rfl) (by kernel_rfl) (by kernel_rfl) (by kernel_rfl) (by exact fun _ _ _ h=>h) (Or.inl ⟨by first | kernel_rfl | rfl,?hyR2x20⟩) (by exact hS) ?rsR2x20
     case hyR2x20=>(intro uz hSw;(try dsimp only at hSw);go_simp;try with_reducible rfl)
     try simp only [Act.put,sA,sB,sC]
     change wpAnyH _ _ _ _ _ _ #[tt,tt,tt,tt,tt,tt,tt,tt,tt,tt,tt,tt,tt,tt,tt,tt,tt,tt,tt,tt,ff,ff,ff,ff,ff,ff,ff,ff,ff,ff,ff,ff,ff,ff,ff,ff,ff] _ _
     refine wpAnyH_take (i:=20) (v:=?vR2x21) (by (try simp only [gA,gB,gC]);rfl) (by kernel_rfl) (by kernel_rfl) (by kernel_rfl) (by exact fun _ _ _ h=>h) (Or.inl ⟨by first | kernel_rfl | rfl,?hyR2x21⟩) (by exact hS) ?rsR2x21
     case hyR2x21=>(intro uz hSw;(try dsimp only at hSw);go_simp;try with_reducible rfl)
     try simp only [Act.put,sA,sB,sC]
     change wpAnyH _ _ _ _ _ _ #[tt,tt,tt,tt,tt,tt,tt,tt,tt,tt,tt,tt,tt,tt,tt,tt,tt,tt,tt,tt,tt,ff,ff,ff,ff,ff,ff,ff,ff,ff,ff,ff,ff,ff,ff,ff,ff] _ _
     refine wpAnyH_take (i:=21) (v:=?vR2x22) (by (try simp only [gA,gB,gC]);rfl) (by kernel_rfl) (by kernel_rfl) (by kernel_rfl) (by exact fun _ _ _ h=>h) (Or.inl ⟨by first | kernel_rfl | rfl,?hyR2x22⟩) (by exact hS) ?rsR2x22
     case hyR2x22=>(intro uz hSw;(try dsimp only at hSw);go_simp;try with_reducible rfl)
     try simp only [Act.put,sA,sB,sC]
     change wpAnyH _ _ _ _ _ _ #[tt,tt,tt,tt,tt,tt,tt,tt,tt,tt,tt,tt,tt,tt,tt,tt,tt,tt,tt,tt,tt,tt,ff,ff,ff,ff,ff,ff,ff,ff,ff,ff,ff,ff,ff,ff,ff] _ _
     refine wpAnyH_take (i:=22) (v:=?vR2x23) (by (try simp only [gA,gB,gC]);rfl) (by kernel_rfl) (by kernel_rfl) (by kernel_rfl) (by exact fun _ _ _ h=>h) (Or.inl ⟨by first | kernel_rfl | rfl,?hyR2x23⟩) (by exact hS) ?rsR2x23
     case hyR2x23=>(intro uz hSw;(try dsimp only at hSw);go_simp;try with_reducible rfl)
     try simp only [Act.put,sA,sB,sC]
     change wpAnyH _ _ _ _ _ _ #[tt,tt,tt,tt,tt,tt,tt,tt,tt,tt,tt,tt,tt,tt,tt,tt,tt,tt,tt,tt,tt,tt,tt,ff,ff,ff,ff,ff,ff,ff,ff,ff,ff,ff,ff,ff,ff] _ _
     refine wpAnyH_take (i:=23) (v:=?vR2x24) (by (try simp only [gA,gB,gC]);rfl) (by kernel_rfl) (by kernel_rfl) (by kernel_rfl) (by exact fun _ _ _ h=>h) (Or.inl ⟨by first | kernel_rfl | rfl,?hyR2x24⟩) (by exact hS) ?rsR2x24
     case hyR2x24=>(intro uz hSw;(try dsimp only at hSw);go_simp;try with_reducible rfl)
     try simp only [Act.put,sA,sB,sC]
     change wpAnyH _ _ _ _ _ _ #[tt,tt,tt,tt,tt,tt,tt,tt,tt,tt,tt,tt,tt,tt,tt,tt,tt,tt,tt,tt,tt,tt,tt,tt,ff,ff,ff,ff,ff,ff,ff,ff,ff,ff,ff,ff,ff] _ _
     refine wpAnyH_take (i:=24) (v:=?vR2x25) (by (try simp only [gA,gB,gC]);rfl) (by kernel_rfl) (by kernel_rfl) (by kernel_rfl) (by exact fun _ _ _ h=>h) (Or.inl ⟨by first | kernel_rfl | rfl,?hyR2x25⟩) (by exact hS) ?rsR2x25
     case hyR2x25=>(intro uz hSw;(try dsimp only at hSw);go_simp;try with_reducible rfl)
     try simp only [Act.put,sA,sB,sC]
     change wpAnyH _ _ _ _ _ _ #[tt,tt,tt,tt,tt,tt,tt,tt,tt,tt,tt,tt,tt,tt,tt,tt,tt,tt,tt,tt,tt,tt,tt,tt,tt,ff,ff,ff,ff,ff,ff,ff,ff,ff,ff,ff,ff] _ _
     refine wpAnyH_take (i:=25) (v:=?vR2x26) (by (try simp only [gA,gB,gC]);rfl) (by kernel_rfl) (by kernel_rfl) (by kernel_rfl) (by exact fun _ _ _ h=>h) (Or.inl ⟨by first | kernel_rfl | rfl,?hyR2x26⟩) (by exact hS) ?rsR2x26
     case hyR2x26=>(intro uz hSw;(try dsimp only at hSw);go_simp;try with_reducible rfl)
     try simp only [Act.put,sA,sB,sC]
     change wpAnyH _ _ _ _ _ _ #[tt,tt,tt,tt,tt,tt,tt,tt,tt,tt,tt,tt,tt,tt,tt,tt,tt,tt,tt,tt,tt,tt,tt,tt,tt,tt,ff,ff,ff,ff,ff,ff,ff,ff,ff,ff,ff] _ _
     refine wpAnyH_take (i:=27) (v:=?vR2x27) (by (try simp only [gA,gB,gC]);rfl) (by kernel_rfl) (by kernel_rfl) (by kernel_rfl) (by exact fun _ _ _ h=>h) (Or.inl ⟨by first | kernel_rfl | rfl,?hyR2x27⟩) (by exact hS) ?rsR2x27
     case hyR2x27=>(intro uz hSw;(try dsimp only at hSw);refine ld_row (x:=.tmp 10) ?_ ?_ (HLX3.out.q hSw) Tryz.underlying34 (by exact infoL) <;> rfl)
     try simp only [Act.put,sA,sB,sC]
     change wpAnyH _ _ _ _ _ _ #[tt,tt,tt,tt,tt,tt,tt,tt,tt,tt,tt,tt,tt,tt,tt,tt,tt,tt,tt,tt,tt,tt,tt,tt,tt,tt,ff,tt,ff,ff,ff,ff,ff,ff,ff,ff,ff] _ _
     refine wpAnyH_take (i:=28) (v:=?vR2x28) (by (try simp only [gA,gB,gC]);rfl) (by kernel_rfl) (by kernel_rfl) (by kernel_rfl) (by exact fun _ _ _ h=>h) (Or.inl ⟨by first | kernel_rfl | rfl,?hyR2x28⟩) (by exact hS) ?rsR2x28
     case hyR2x28=>(intro uz hSw;(try dsimp only at hSw);refine ld_row (x:=.tmp 11) ?_ ?_ (HDX3.out.q hSw) Tryz.underlying26 (by exact infoD) <;> rfl)
     try simp only [Act.put,sA,sB,sC]
     change wpAnyH _ _ _ _ _ _ #[tt,tt,tt,tt,tt,tt,tt,tt,tt,tt,tt,tt,tt,tt,tt,tt,tt,tt,tt,tt,tt,tt,tt,tt,tt,tt,ff,tt,tt,ff,ff,ff,ff,ff,ff,ff,ff] _ _
     refine wpAnyH_ready (rs:=[26]) (by kernel_rfl) (by simp) ?_
     refine (AllReadyH.cons (by (try simp only [gA,gB,gC]);rfl) (fun K hK=>?_) AllReadyH.nil)
     go_simp
     refine (HTE3.out _ hS).mono ?_
     rintro e yR2x29 ⟨rfl,hq⟩
     try (go_wp2_with fail)
     have HO:=Lib.hid (Lst.q HO.out hq)
     have hS2:=Q.trans hS hq
     refine hK.out _ _ (by exact hS2) (fun hHeld=>?_)
     clear hK K hHeld hS hq
     have hS:=hS2
     clear hS2
     try simp only [Act.put,sA,sB,sC]
     change wpAnyH _ _ _ _ _ _ #[tt,tt,tt,tt,tt,tt,tt,tt,tt,tt,tt,tt,tt,tt,tt,tt,tt,tt,tt,tt,tt,tt,tt,tt,tt,tt,tt,tt,tt,ff,ff,ff,ff,ff,ff,ff,ff] _ _
     refine wpAnyH_ready (rs:=[29]) (by kernel_rfl) (by simp) ?_
     refine (AllReadyH.cons (by (try simp only [gA,gB,gC]);rfl) (fun K hK=>?_) AllReadyH.nil)
     go_simp
     refine (HRI3.out _ hS).mono ?_
     rintro e yR2x30 ⟨iv,rfl,hv,hq⟩
     obtain ⟨ia,ic,rfl,_,_⟩:=hv.lst.form0 HNL.out
     have HIV:=Lib.hid hv.lst
     clear hv
     try (go_wp2_with fail)
     have HO:=Lib.hid (Lst.q HO.out hq)
     have hS2:=Q.trans hS hq
     refine hK.out _ _ (by exact hS2) (fun hHeld=>?_)
     clear hK K hHeld hS hq
     have hS:=hS2
     clear hS2
     try simp only [Act.put,sA,sB,sC]
     change wpAnyH _ _ _ _ _ _ #[tt,tt,tt,tt,tt,tt,tt,tt,tt,tt,tt,tt,tt,tt,tt,tt,tt,tt,tt,tt,tt,tt,tt,tt,tt,tt,tt,tt,tt,tt,ff,ff,ff,ff,ff,ff,ff] _ _
     refine wpAnyH_ready (rs:=[30]) (by kernel_rfl) (by simp) ?_
     refine (AllReadyH.cons (by (try simp only [gA,gB,gC]);rfl) (fun K hK=>?_) AllReadyH.nil)
     go_simp
     refine (HTX.out _ _ HIV.out).mono ?_
     rintro e yR2x31 ⟨rfl,hq⟩
     try (go_wp2_with fail)
     have HO:=Lib.hid (Lst.q HO.out hq)
     have HIV:=Lib.hid (LstI.q HIV.out hq)
     have hS2:=Q.trans hS hq
     refine hK.out _ _ (by exact hS2) (fun hHeld=>?_)
     clear hK K hHeld hS hq
     have hS:=hS2
     clear hS2
     try simp only [Act.put,sA,sB,sC]
     change wpAnyH _ _ _ _ _ _ #[tt,tt,tt,tt,tt,tt,tt,tt,tt,tt,tt,tt,tt,tt,tt,tt,tt,tt,tt,tt,tt,tt,tt,tt,tt,tt,tt,tt,tt,tt,tt,ff,ff,ff,ff,ff,ff] _ _
     refine wpAnyH_take (i:=31) (v:=?vR2x32) (by (try simp only [gA,gB,gC]);rfl) (by kernel_rfl) (by kernel_rfl) (by kernel_rfl) (by exact fun _ _ _ h=>h) (Or.inl ⟨by first | kernel_rfl | rfl,?hyR2x32⟩) (by exact hS) ?rsR2x32
     case hyR2x32=>(intro uz hSw;(try dsimp only at hSw);go_simp;try with_reducible rfl)
     try simp only [Act.put,sA,sB,sC]
     change wpAnyH _ _ _ _ _ _ #[tt,tt,tt,tt,tt,tt,tt,tt,tt,tt,tt,tt,tt,tt,tt,tt,tt,tt,tt,tt,tt,tt,tt,tt,tt,tt,tt,tt,tt,tt,tt,tt,ff,ff,ff,ff,ff] _ _
     refine wpAnyH_take (i:=32) (v:=?vR2x33) (by (try simp only [gA,gB,gC]);rfl) (by kernel_rfl) (by kernel_rfl) (by kernel_rfl) (by exact fun _ _ _ h=>h) (Or.inl ⟨by first | kernel_rfl | rfl,?hyR2x33⟩) (by exact hS) ?rsR2x33
     case hyR2x33=>(intro uz hSw;(try dsimp only at hSw);go_simp;try with_reducible rfl)
     try simp only [Act.put,sA,sB,sC]
     change wpAnyH _ _ _ _ _ _ #[tt,tt,tt,tt,tt,tt,tt,tt,tt,tt,tt,tt,tt,tt,tt,tt,tt,tt,tt,tt,tt,tt,tt,tt,tt,tt,tt,tt,tt,tt,tt,tt,tt,ff,ff,ff,ff] _ _
     refine wpAnyH_take (i:=33) (v:=?vR2x34) (by (try simp only [gA,gB,gC]);rfl) (by kernel_rfl) (by kernel_rfl) (by kernel_rfl) (by exact fun _ _ _ h=>h) (Or.inl ⟨by first | kernel_rfl | rfl,?hyR2x34⟩) (by exact hS) ?rsR2x34
     case hyR2x34=>(intro uz hSw;(try dsimp only at hSw);go_simp;try with_reducible rfl)
     try simp only [Act.put,sA,sB,sC]
     change wpAnyH _ _ _ _ _ _ #[tt,tt,tt,tt,tt,tt,tt,tt,tt,tt,tt,tt,tt,tt,tt,tt,tt,tt,tt,tt,tt,tt,tt,tt,tt,tt,tt,tt,tt,tt,tt,tt,tt,tt,ff,ff,ff] _ _
     refine wpAnyH_ready (rs:=[34]) (by kernel_rfl) (by simp) ?_
     refine (AllReadyH.cons (by (try simp only [gA,gB,gC]);rfl) (fun K hK=>?_) AllReadyH.nil)
     go_simp
     refine (Vw.lives_any _).mono ?_
     rintro e yR2x35 ⟨rfl,hq⟩
     try (go_wp2_with fail)
     have HO:=Lib.hid (Lst.q HO.out hq)
     have HIV:=Lib.hid (LstI.q HIV.out hq)
     have hS2:=Q.trans hS hq
     refine hK.out _ _ (by exact hS2) (fun hHeld=>?_)
     clear hK K hHeld hS hq
     have hS:=hS2
     clear hS2
     try simp only [Act.put,sA,sB,sC]
     change wpAnyH _ _ _ _ _ _ #[tt,tt,tt,tt,tt,tt,tt,tt,tt,tt,tt,tt,tt,tt,tt,tt,tt,tt,tt,tt,tt,tt,tt,tt,tt,tt,tt,tt,tt,tt,tt,tt,tt,tt,tt,ff,ff] _ _
     refine wpAnyH_take (i:=35) (v:=?vR2x36) (by (try simp only [gA,gB,gC]);rfl) (by kernel_rfl) (by kernel_rfl) (by kernel_rfl) (by exact fun _ _ _ h=>h) (Or.inl ⟨by first | kernel_rfl | rfl,?hyR2x36⟩) (by exact hS) ?rsR2x36
     case hyR2x36=>(intro uz hSw;(try dsimp only at hSw);go_simp;try with_reducible rfl)
     try simp only [Act.put,sA,sB,sC]
     change wpAnyH _ _ _ _ _ _ #[tt,tt,tt,tt,tt,tt,tt,tt,tt,tt,tt,tt,tt,tt,tt,tt,tt,tt,tt,tt,tt,tt,tt,tt,tt,tt,tt,tt,tt,tt,tt,tt,tt,tt,tt,tt,ff] _ _
     refine wpAnyH_take (i:=36) (v:=?vR2x37) (by (try simp only [gA,gB,gC]);rfl) (by kernel_rfl) (by kernel_rfl) (by kernel_rfl) (by exact fun _ _ _ h=>h) (Or.inl ⟨by first | kernel_rfl | rfl,?hyR2x37⟩) (by exact hS) ?rsR2x37
     case hyR2x37=>(intro uz hSw;(try dsimp only at hSw);go_simp;try with_reducible rfl)
     try simp only [Act.put,sA,sB,sC]
     change wpAnyH _ _ _ _ _ _ #[tt,tt,tt,tt,tt,tt,tt,tt,tt,tt,tt,tt,tt,tt,tt,tt,tt,tt,tt,tt,tt,tt,tt,tt,tt,tt,tt,tt,tt,tt,tt,tt,tt,tt,tt,tt,tt] _ _
     refine wpAnyH_done (by kernel_rfl) ?_ _
     have HQE:=Lib.hid (HQ2.out.trans (HQ3.out.trans hS))
     clear hS
     go_wp2_with fail
     go_ret
     exact ⟨rfl,HQE.out⟩
    ·have C:=Lib.hid (HOU.out wr (HQ3.out.trans HQ.out) kk (.inr (by omega)))
     have hmN:¬ kk < (N:Int) + 1:=by omega
     have hm0:(0:Int) ≤ kk:=by omega
     have hd1:decide (kk < (N:Int) + 1) = false:=decide_eq_false hmN
     have hd2:decide (kk ≤ (N:Int)) = false:=decide_eq_false h1
     go_wp2_with fail
     refine C.out.mono ?_
     rintro e _ ⟨rfl,rfl⟩
     go_upto_region 13 with fail
     refine wp_region_held_drew (S:=fun u=>Q w3 u) (by kernel_rfl) (by exact HQ.out.drew) (fun hHeld=>?_)
     have hS:Q w3 wr.drew:=hHeld
     clear hHeld
     have hq:Q wr wr.drew:=(Q.refl _).drew
     clear hq
     generalize wr.drew = yR3x0 at *
     change wpAnyH _ _ _ _ _ _ #[ff,ff,ff,ff,ff,ff,ff,ff,ff,ff,ff,ff,ff,ff,ff,ff,ff,ff,ff,ff,ff,ff,ff,ff,ff,ff,ff,ff,ff,ff,ff,ff,ff,ff,ff,ff,ff] _ _
     refine wpAnyH_take (i:=0) (v:=?vR3x1) (by (try simp only [gA,gB,gC]);rfl) (by kernel_rfl) (by kernel_rfl) (by kernel_rfl) (by exact fun _ _ _ h=>h) (Or.inl ⟨by first | kernel_rfl | rfl,?hyR3x1⟩) (by exact hS) ?rsR3x1
     case hyR3x1=>(intro uz hSw;(try dsimp only at hSw);go_simp;try with_reducible rfl)
     try simp only [Act.put,sA,sB,sC]
     change wpAnyH _ _ _ _ _ _ #[tt,ff,ff,ff,ff,ff,ff,ff,ff,ff,ff,ff,ff,ff,ff,ff,ff,ff,ff,ff,ff,ff,ff,ff,ff,ff,ff,ff,ff,ff,ff,ff,ff,ff,ff,ff,ff] _ _
     refine wpAnyH_take (i:=2) (v:=?vR3x2) (by (try simp only [gA,gB,gC]);rfl) (by kernel_rfl) (by kernel_rfl) (by kernel_rfl) (by exact fun _ _ _ h=>h) (Or.inl ⟨by first | kernel_rfl | rfl,?hyR3x2⟩) (by exact hS) ?rsR3x2
     case hyR3x2=>(intro uz hSw;(try dsimp only at hSw);go_simp;try with_reducible rfl)
     try simp only [Act.put,sA,sB,sC]
     change wpAnyH _ _ _ _ _ _ #[tt,ff,tt,ff,ff,ff,ff,ff,ff,ff,ff,ff,ff,ff,ff,ff,ff,ff,ff,ff,ff,ff,ff,ff,ff,ff,ff,ff,ff,ff,ff,ff,ff,ff,ff,ff,ff] _ _
     refine wpAnyH_ready (rs:=[1]) (by kernel_rfl) (by simp) ?_
     refine (AllReadyH.cons (by (try simp only [gA,gB,gC]);rfl) (fun K hK=>?_) AllReadyH.nil)
     go_simp
     refine (HSP3.out _ hS).mono ?_
     rintro e yR3x3 ⟨xo,rfl,ho,hq⟩
     obtain ⟨oa,oc,rfl,_,_⟩:=ho.lst.form0 (ns_len _ (N + 1))
     have HO:=Lib.hid ho.lst
     clear ho
     try (go_wp2_with fail)
     have hS2:=Q.trans hS hq
     refine hK.out _ _ (by exact hS2) (fun hHeld=>?_)
     clear hK K hHeld hS hq
     have hS:=hS2
     clear hS2
     try simp only [Act.put,sA,sB,sC]
     change wpAnyH _ _ _ _ _ _ #[tt,tt,tt,ff,ff,ff,ff,ff,ff,ff,ff,ff,ff,ff,ff,ff,ff,ff,ff,ff,ff,ff,ff,ff,ff,ff,ff,ff,ff,ff,ff,ff,ff,ff,ff,ff,ff] _ _
     refine wpAnyH_ready (rs:=[3]) (by kernel_rfl) (by simp) ?_
     refine (AllReadyH.cons (by (try simp only [gA,gB,gC]);rfl) (fun K hK=>?_) AllReadyH.nil)
     go_simp
     refine (same_refl _ _ _ _ HO.out (HS3.out.q hS) (by rw [ns_len];omega)).mono ?_
     rintro e yR3x4 ⟨rfl,hq⟩
     try (go_wp2_with fail)
     have HO:=Lib.hid (Lst.q HO.out hq)
     have hS2:=Q.trans hS hq
     refine hK.out _ _ (by exact hS2) (fun hHeld=>?_)
     clear hK K hHeld hS hq
     have hS:=hS2
     clear hS2
     try simp only [Act.put,sA,sB,sC]
     change wpAnyH _ _ _ _ _ _ #[tt,tt,tt,tt,ff,ff,ff,ff,ff,ff,ff,ff,ff,ff,ff,ff,ff,ff,ff,ff,ff,ff,ff,ff,ff,ff,ff,ff,ff,ff,ff,ff,ff,ff,ff,ff,ff] _ _
     refine wpAnyH_take (i:=4) (v:=?vR3x5) (by (try simp only [gA,gB,gC]);rfl) (by kernel_rfl) (by kernel_rfl) (by kernel_rfl) (by exact fun _ _ _ h=>h) (Or.inl ⟨by first | kernel_rfl | rfl,?hyR3x5⟩) (by exact hS) ?rsR3x5
     case hyR3x5=>(intro uz hSw;(try dsimp only at hSw);go_simp;try with_reducible rfl)
     try simp only [Act.put,sA,sB,sC]
     change wpAnyH _ _ _ _ _ _ #[tt,tt,tt,tt,tt,ff,ff,ff,ff,ff,ff,ff,ff,ff,ff,ff,ff,ff,ff,ff,ff,ff,ff,ff,ff,ff,ff,ff,ff,ff,ff,ff,ff,ff,ff,ff,ff] _ _
     refine wpAnyH_take (i:=5) (v:=?vR3x6) (by (try simp only [gA,gB,gC]);rfl) (by kernel_rfl) (by kernel_rfl) (by kernel_rfl) (by exact fun _ _ _ h=>h) (Or.inl ⟨by first | kernel_rfl | rfl,?hyR3x6⟩) (by exact hS) ?rsR3x6
     case hyR3x6=>(intro uz hSw;(try dsimp only at hSw);go_simp;try with_reducible rfl)
     try simp only [Act.put,sA,sB,sC]
     change wpAnyH _ _ _ _ _ _ #[tt,tt,tt,tt,tt,tt,ff,ff,ff,ff,ff,ff,ff,ff,ff,ff,ff,ff,ff,ff,ff,ff,ff,ff,ff,ff,ff,ff,ff,ff,ff,ff,ff,ff,ff,ff,ff] _ _
     refine wpAnyH_take (i:=7) (v:=?vR3x7) (by (try simp only [gA,gB,gC]);rfl) (by kernel_rfl) (by kernel_rfl) (by kernel_rfl) (by exact fun _ _ _ h=>h) (Or.inl ⟨by first | kernel_rfl | rfl,?hyR3x7⟩) (by exact hS) ?rsR3x7
     case hyR3x7=>(intro uz hSw;(try dsimp only at hSw);go_simp;try with_reducible rfl)
     try simp only [Act.put,sA,sB,sC]
     change wpAnyH _ _ _ _ _ _ #[tt,tt,tt,tt,tt,tt,ff,tt,ff,ff,ff,ff,ff,ff,ff,ff,ff,ff,ff,ff,ff,ff,ff,ff,ff,ff,ff,ff,ff,ff,ff,ff,ff,ff,ff,ff,ff] _ _
     refine wpAnyH_take (i:=8) (v:=?vR3x8) (by (try simp only [gA,gB,gC]);rfl) (by kernel_rfl) (by kernel_rfl) (by kernel_rfl) (by exact fun _ _ _ h=>h) (Or.inl ⟨by first | kernel_rfl | rfl,?hyR3x8⟩) (by exact hS) ?rsR3x8
     case hyR3x8=>(intro uz hSw;(try dsimp only at hSw);go_simp;try with_reducible rfl)
     try simp only [Act.put,sA,sB,sC]
     change wpAnyH _ _ _ _ _ _ #[tt,tt,tt,tt,tt,tt,ff,tt,tt,ff,ff,ff,ff,ff,ff,ff,ff,ff,ff,ff,ff,ff,ff,ff,ff,ff,ff,ff,ff,ff,ff,ff,ff,ff,ff,ff,ff] _ _
     refine wpAnyH_take (i:=9) (v:=?vR3x9) (by (try simp only [gA,gB,gC]);rfl) (by kernel_rfl) (by kernel_rfl) (by kernel_rfl) (by exact fun _ _ _ h=>h) (Or.inl ⟨by first | kernel_rfl | rfl,?hyR3x9⟩) (by exact hS) ?rsR3x9
     case hyR3x9=>(intro uz hSw;(try dsimp only at hSw);go_simp;try with_reducible rfl)
     try simp only [Act.put,sA,sB,sC]
     change wpAnyH _ _ _ _ _ _ #[tt,tt,tt,tt,tt,tt,ff,tt,tt,tt,ff,ff,ff,ff,ff,ff,ff,ff,ff,ff,ff,ff,ff,ff,ff,ff,ff,ff,ff,ff,ff,ff,ff,ff,ff,ff,ff] _ _
     refine wpAnyH_ready (rs:=[6]) (by kernel_rfl) (by simp) ?_
     refine (AllReadyH.cons (by (try simp only [gA,gB,gC]);rfl) (fun K hK=>?_) AllReadyH.nil)
     go_simp
     refine (HLE3.out _ hS).mono ?_
     rintro e yR3x10 ⟨rfl,hq⟩
     try (go_wp2_with fail)
     have HO:=Lib.hid (Lst.q HO.out hq)
     have hS2:=Q.trans hS hq
     refine hK.out _ _ (by exact hS2) (fun hHeld=>?_)
     clear hK K hHeld hS hq
     have hS:=hS2
     clear hS2
     try simp only [Act.put,sA,sB,sC]
     change wpAnyH _ _ _ _ _ _ #[tt,tt,tt,tt,tt,tt,tt,tt,tt,tt,ff,ff,ff,ff,ff,ff,ff,ff,ff,ff,ff,ff,ff,ff,ff,ff,ff,ff,ff,ff,ff,ff,ff,ff,ff,ff,ff] _ _
     refine wpAnyH_take (i:=10) (v:=?vR3x11) (by (try simp only [gA,gB,gC]);rfl) (by kernel_rfl) (by kernel_rfl) (by kernel_rfl) (by exact fun _ _ _ h=>h) (Or.inl ⟨by first | kernel_rfl | rfl,?hyR3x11⟩) (by exact hS) ?rsR3x11
     case hyR3x11=>(intro uz hSw;(try dsimp only at hSw);go_simp;try with_reducible rfl)
     try simp only [Act.put,sA,sB,sC]
     change wpAnyH _ _ _ _ _ _ #[tt,tt,tt,tt,tt,tt,tt,tt,tt,tt,tt,ff,ff,ff,ff,ff,ff,ff,ff,ff,ff,ff,ff,ff,ff,ff,ff,ff,ff,ff,ff,ff,ff,ff,ff,ff,ff] _ _
     refine wpAnyH_take (i:=11) (v:=?vR3x12) (by (try simp only [gA,gB,gC]);rfl) (by kernel_rfl) (by kernel_rfl) (by kernel_rfl) (by exact fun _ _ _ h=>h) (Or.inl ⟨by first | kernel_rfl | rfl,?hyR3x12⟩) (by exact hS) ?rsR3x12
     case hyR3x12=>(intro uz hSw;(try dsimp only at hSw);go_simp;try with_reducible rfl)
     try simp only [Act.put,sA,sB,sC]
     change wpAnyH _ _ _ _ _ _ #[tt,tt,tt,tt,tt,tt,tt,tt,tt,tt,tt,tt,ff,ff,ff,ff,ff,ff,ff,ff,ff,ff,ff,ff,ff,ff,ff,ff,ff,ff,ff,ff,ff,ff,ff,ff,ff] _ _
     refine wpAnyH_take (i:=12) (v:=?vR3x13) (by (try simp only [gA,gB,gC]);rfl) (by kernel_rfl) (by kernel_rfl) (by kernel_rfl) (by exact fun _ _ _ h=>h) (Or.inl ⟨by first | kernel_rfl | rfl,?hyR3x13⟩) (by exact hS) ?rsR3x13
     case hyR3x13=>(intro uz hSw;(try dsimp only at hSw);go_simp;try with_reducible rfl)
     try simp only [Act.put,sA,sB,sC]
     change wpAnyH _ _ _ _ _ _ #[tt,tt,tt,tt,tt,tt,tt,tt,tt,tt,tt,tt,tt,ff,ff,ff,ff,ff,ff,ff,ff,ff,ff,ff,ff,ff,ff,ff,ff,ff,ff,ff,ff,ff,ff,ff,ff] _ _
     refine wpAnyH_take (i:=13) (v:=?vR3x14) (by (try simp only [gA,gB,gC]);rfl) (by kernel_rfl) (by kernel_rfl) (by kernel_rfl) (by exact fun _ _ _ h=>h) (Or.inl ⟨by first | kernel_rfl | rfl,?hyR3x14⟩) (by exact hS) ?rsR3x14
     case hyR3x14=>(intro uz hSw;(try dsimp only at hSw);go_simp;try with_reducible rfl)
     try simp only [Act.put,sA,sB,sC]
     change wpAnyH _ _ _ _ _ _ #[tt,tt,tt,tt,tt,tt,tt,tt,tt,tt,tt,tt,tt,tt,ff,ff,ff,ff,ff,ff,ff,ff,ff,ff,ff,ff,ff,ff,ff,ff,ff,ff,ff,ff,ff,ff,ff] _ _
     refine wpAnyH_take (i:=14) (v:=?vR3x15) (by (try simp only [gA,gB,gC]);rfl) (by kernel_rfl) (by kernel_rfl) (by kernel_rfl) (by exact fun _ _ _ h=>h) (Or.inl ⟨by first | kernel_rfl | rfl,?hyR3x15⟩) (by exact hS) ?rsR3x15
     case hyR3x15=>(intro uz hSw;(try dsimp only at hSw);go_simp;try with_reducible rfl)
     try simp only [Act.put,sA,sB,sC]
     change wpAnyH _ _ _ _ _ _ #[tt,tt,tt,tt,tt,tt,tt,tt,tt,tt,tt,tt,tt,tt,tt,ff,ff,ff,ff,ff,ff,ff,ff,ff,ff,ff,ff,ff,ff,ff,ff,ff,ff,ff,ff,ff,ff] _ _
     refine wpAnyH_take (i:=15) (v:=?vR3x16) (by (try simp only [gA,gB,gC]);rfl) (by kernel_rfl) (by kernel_rfl) (by kernel_rfl) (by exact fun _ _ _ h=>h) (Or.inl ⟨by first | kernel_rfl | rfl,?hyR3x16⟩) (by exact hS) ?rsR3x16
     case hyR3x16=>(intro uz hSw;(try dsimp only at hSw);go_simp;try with_reducible rfl)
     try simp only [Act.put,sA,sB,sC]
     change wpAnyH _ _ _ _ _ _ #[tt,tt,tt,tt,tt,tt,tt,tt,tt,tt,tt,tt,tt,tt,tt,tt,ff,ff,ff,ff,ff,ff,ff,ff,ff,ff,ff,ff,ff,ff,ff,ff,ff,ff,ff,ff,ff] _ _
     refine wpAnyH_take (i:=16) (v:=?vR3x17) (by (try simp only [gA,gB,gC]);rfl) (by kernel_rfl) (by kernel_rfl) (by kernel_rfl) (by exact fun _ _ _ h=>h) (Or.inl ⟨by first | kernel_rfl | rfl,?hyR3x17⟩) (by exact hS) ?rsR3x17
     case hyR3x17=>(intro uz hSw;(try dsimp only at hSw);go_simp;try with_reducible rfl)
     try simp only [Act.put,sA,sB,sC]
     change wpAnyH _ _ _ _ _ _ #[tt,tt,tt,tt,tt,tt,tt,tt,tt,tt,tt,tt,tt,tt,tt,tt,tt,ff,ff,ff,ff,ff,ff,ff,ff,ff,ff,ff,ff,ff,ff,ff,ff,ff,ff,ff,ff] _ _
     refine wpAnyH_take (i:=17) (v:=?vR3x18) (by (try simp only [gA,gB,gC]);rfl) (by kernel_rfl) (by kernel_rfl) (by kernel_rfl) (by exact fun _ _ _ h=>h) (Or.inl ⟨by first | kernel_rfl | rfl,?hyR3x18⟩) (by exact hS) ?rsR3x18
     case hyR3x18=>(intro uz hSw;(try dsimp only at hSw);go_simp;try with_reducible rfl)
     try simp only [Act.put,sA,sB,sC]
     change wpAnyH _ _ _ _ _ _ #[tt,tt,tt,tt,tt,tt,tt,tt,tt,tt,tt,tt,tt,tt,tt,tt,tt,tt,ff,ff,ff,ff,ff,ff,ff,ff,ff,ff,ff,ff,ff,ff,ff,ff,ff,ff,ff] _ _
     refine wpAnyH_take (i:=18) (v:=?vR3x19) (by (try simp only [gA,gB,gC]);rfl) (by kernel_rfl) (by kernel_rfl) (by kernel_rfl) (by exact fun _ _ _ h=>h) (Or.inl ⟨by first | kernel_rfl | rfl,?hyR3x19⟩) (by exact hS) ?rsR3x19
     case hyR3x19=>(intro uz hSw;(try dsimp only at hSw);go_simp;try with_reducible rfl)
     try simp only [Act.put,sA,sB,sC]
     change wpAnyH _ _ _ _ _ _ #[tt,tt,tt,tt,tt,tt,tt,tt,tt,tt,tt,tt,tt,tt,tt,tt,tt,tt,tt,ff,ff,ff,ff,ff,ff,ff,ff,ff,ff,ff,ff,ff,ff,ff,ff,ff,ff] _ _
     refine wpAnyH_take (i:=19) (v:=?vR3x20) (by (try simp only [gA,gB,gC]);rfl) (by kernel_rfl) (by kernel_rfl) (by kernel_rfl) (by exact fun _ _ _ h=>h) (Or.inl ⟨by first | kernel_rfl | rfl,?hyR3x20⟩) (by exact hS) ?rsR3x20
     case hyR3x20=>(intro uz hSw;(try dsimp only at hSw);go_simp;try with_reducible rfl)
     try simp only [Act.put,sA,sB,sC]
     change wpAnyH _ _ _ _ _ _ #[tt,tt,tt,tt,tt,tt,tt,tt,tt,tt,tt,tt,tt,tt,tt,tt,tt,tt,tt,tt,ff,ff,ff,ff,ff,ff,ff,ff,ff,ff,ff,ff,ff,ff,ff,ff,ff] _ _
     refine wpAnyH_take (i:=20) (v:=?vR3x21) (by (try simp only [gA,gB,gC]);rfl) (by kernel_rfl) (by kernel_rfl) (by kernel_rfl) (by exact fun _ _ _ h=>h) (Or.inl ⟨by first | kernel_rfl | rfl,?hyR3x21⟩) (by exact hS) ?rsR3x21
     case hyR3x21=>(intro uz hSw;(try dsimp only at hSw);go_simp;try with_reducible rfl)
     try simp only [Act.put,sA,sB,sC]
     change wpAnyH _ _ _ _ _ _ #[tt,tt,tt,tt,tt,tt,tt,tt,tt,tt,tt,tt,tt,tt,tt,tt,tt,tt,tt,tt,tt,ff,ff,ff,ff,ff,ff,ff,ff,ff,ff,ff,ff,ff,ff,ff,ff] _ _
     refine wpAnyH_take (i:=21) (v:=?vR3x22) (by (try simp only [gA,gB,gC]);rfl) (by kernel_rfl) (by kernel_rfl) (by kernel_rfl) (by exact fun _ _ _ h=>h) (Or.inl ⟨by first | kernel_rfl | rfl,?hyR3x22⟩) (by exact hS) ?rsR3x22
     case hyR3x22=>(intro uz hSw;(try dsimp only at hSw);go_simp;try with_reducible rfl)
     try simp only [Act.put,sA,sB,sC]
     change wpAnyH _ _ _ _ _ _ #[tt,tt,tt,tt,tt,tt,tt,tt,tt,tt,tt,tt,tt,tt,tt,tt,tt,tt,tt,tt,tt,tt,ff,ff,ff,ff,ff,ff,ff,ff,ff,ff,ff,ff,ff,ff,ff] _ _
     refine wpAnyH_take (i:=22) (v:=?vR3x23) (by (try simp only [gA,gB,gC]);rfl) (by kernel_rfl) (by kernel_rfl) (by kernel_rfl) (by exact fun _ _ _ h=>h) (Or.inl ⟨by first | kernel_rfl | rfl,?hyR3x23⟩) (by exact hS) ?rsR3x23
     case hyR3x23=>(intro uz hSw;(try dsimp only at hSw);go_simp;try with_reducible rfl)
     try simp only [Act.put,sA,sB,sC]
     change wpAnyH _ _ _ _ _ _ #[tt,tt,tt,tt,tt,tt,tt,tt,tt,tt,tt,tt,tt,tt,tt,tt,tt,tt,tt,tt,tt,tt,tt,ff,ff,ff,ff,ff,ff,ff,ff,ff,ff,ff,ff,ff,ff] _ _
     refine wpAnyH_take (i:=23) (v:=?vR3x24) (by (try simp only [gA,gB,gC]);rfl) (by kernel_rfl) (by kernel_rfl) (by kernel_rfl) (by exact fun _ _ _ h=>h) (Or.inl ⟨by first | kernel_rfl | rfl,?hyR3x24⟩) (by exact hS) ?rsR3x24
     case hyR3x24=>(intro uz hSw;(try dsimp only at hSw);go_simp;try with_reducible rfl)
     try simp only [Act.put,sA,sB,sC]
     change wpAnyH _ _ _ _ _ _ #[tt,tt,tt,tt,tt,tt,tt,tt,tt,tt,tt,tt,tt,tt,tt,tt,tt,tt,tt,tt,tt,tt,tt,tt,ff,ff,ff,ff,ff,ff,ff,ff,ff,ff,ff,ff,ff] _ _
     refine wpAnyH_take (i:=24) (v:=?vR3x25) (by (try simp only [gA,gB,gC]);rfl) (by kernel_rfl) (by kernel_rfl) (by kernel_rfl) (by exact fun _ _ _ h=>h) (Or.inl ⟨by first | kernel_rfl | rfl,?hyR3x25⟩) (by exact hS) ?rsR3x25
     case hyR3x25=>(intro uz hSw;(try dsimp only at hSw);go_simp;try with_reducible rfl)
     try simp only [Act.put,sA,sB,sC]
     change wpAnyH _ _ _ _ _ _ #[tt,tt,tt,tt,tt,tt,tt,tt,tt,tt,tt,tt,tt,tt,tt,tt,tt,tt,tt,tt,tt,tt,tt,tt,tt,ff,ff,ff,ff,ff,ff,ff,ff,ff,ff,ff,ff] _ _
     refine wpAnyH_take (i:=25) (v:=?vR3x26) (by (try simp only [gA,gB,gC]);rfl) (by kernel_rfl) (by kernel_rfl) (by kernel_rfl) (by exact fun _ _ _ h=>h) (Or.inl ⟨by first | kernel_rfl | rfl,?hyR3x26⟩) (by exact hS) ?rsR3x26
     case hyR3x26=>(intro uz hSw;(try dsimp only at hSw);go_simp;try with_reducible rfl)
     try simp only [Act.put,sA,sB,sC]
     change wpAnyH _ _ _ _ _ _ #[tt,tt,tt,tt,tt,tt,tt,tt,tt,tt,tt,tt,tt,tt,tt,tt,tt,tt,tt,tt,tt,tt,tt,tt,tt,tt,ff,ff,ff,ff,ff,ff,ff,ff,ff,ff,ff] _ _
     refine wpAnyH_take (i:=27) (v:=?vR3x27) (by (try simp only [gA,gB,gC]);rfl) (by kernel_rfl) (by kernel_rfl) (by kernel_rfl) (by exact fun _ _ _ h=>h) (Or.inl ⟨by first | kernel_rfl | rfl,?hyR3x27⟩) (by exact hS) ?rsR3x27
     case hyR3x27=>(intro uz hSw;(try dsimp only at hSw);refine ld_row (x:=.tmp 10) ?_ ?_ (HLX3.out.q hSw) Tryz.underlying34 (by exact infoL) <;> rfl)
     try simp only [Act.put,sA,sB,sC]
     change wpAnyH _ _ _ _ _ _ #[tt,tt,tt,tt,tt,tt,tt,tt,tt,tt,tt,tt,tt,tt,tt,tt,tt,tt,tt,tt,tt,tt,tt,tt,tt,tt,ff,tt,ff,ff,ff,ff,ff,ff,ff,ff,ff] _ _
     refine wpAnyH_take (i:=28) (v:=?vR3x28) (by (try simp only [gA,gB,gC]);rfl) (by kernel_rfl) (by kernel_rfl) (by kernel_rfl) (by exact fun _ _ _ h=>h) (Or.inl ⟨by first | kernel_rfl | rfl,?hyR3x28⟩) (by exact hS) ?rsR3x28
     case hyR3x28=>(intro uz hSw;(try dsimp only at hSw);refine ld_row (x:=.tmp 11) ?_ ?_ (HDX3.out.q hSw) Tryz.underlying26 (by exact infoD) <;> rfl)
     try simp only [Act.put,sA,sB,sC]
     change wpAnyH _ _ _ _ _ _ #[tt,tt,tt,tt,tt,tt,tt,tt,tt,tt,tt,tt,tt,tt,tt,tt,tt,tt,tt,tt,tt,tt,tt,tt,tt,tt,ff,tt,tt,ff,ff,ff,ff,ff,ff,ff,ff] _ _
     refine wpAnyH_ready (rs:=[26]) (by kernel_rfl) (by simp) ?_
     refine (AllReadyH.cons (by (try simp only [gA,gB,gC]);rfl) (fun K hK=>?_) AllReadyH.nil)
     go_simp
     refine (HTE3.out _ hS).mono ?_
     rintro e yR3x29 ⟨rfl,hq⟩
     try (go_wp2_with fail)
     have HO:=Lib.hid (Lst.q HO.out hq)
     have hS2:=Q.trans hS hq
     refine hK.out _ _ (by exact hS2) (fun hHeld=>?_)
     clear hK K hHeld hS hq
     have hS:=hS2
     clear hS2
     try simp only [Act.put,sA,sB,sC]
     change wpAnyH _ _ _ _ _ _ #[tt,tt,tt,tt,tt,tt,tt,tt,tt,tt,tt,tt,tt,tt,tt,tt,tt,tt,tt,tt,tt,tt,tt,tt,tt,tt,tt,tt,tt,ff,ff,ff,ff,ff,ff,ff,ff] _ _
     refine wpAnyH_ready (rs:=[29]) (by kernel_rfl) (by simp) ?_
     refine (AllReadyH.cons (by (try simp only [gA,gB,gC]);rfl) (fun K hK=>?_) AllReadyH.nil)
     go_simp
     refine (HRI3.out _ hS).mono ?_
     rintro e yR3x30 ⟨iv,rfl,hv,hq⟩
     obtain ⟨ia,ic,rfl,_,_⟩:=hv.lst.form0 HNL.out
     have HIV:=Lib.hid hv.lst
     clear hv
     try (go_wp2_with fail)
     have HO:=Lib.hid (Lst.q HO.out hq)
     have hS2:=Q.trans hS hq
     refine hK.out _ _ (by exact hS2) (fun hHeld=>?_)
     clear hK K hHeld hS hq
     have hS:=hS2
     clear hS2
     try simp only [Act.put,sA,sB,sC]
     change wpAnyH _ _ _ _ _ _ #[tt,tt,tt,tt,tt,tt,tt,tt,tt,tt,tt,tt,tt,tt,tt,tt,tt,tt,tt,tt,tt,tt,tt,tt,tt,tt,tt,tt,tt,tt,ff,ff,ff,ff,ff,ff,ff] _ _
     refine wpAnyH_ready (rs:=[30]) (by kernel_rfl) (by simp) ?_
     refine (AllReadyH.cons (by (try simp only [gA,gB,gC]);rfl) (fun K hK=>?_) AllReadyH.nil)
     go_simp
     refine (HTX.out _ _ HIV.out).mono ?_
     rintro e yR3x31 ⟨rfl,hq⟩
     try (go_wp2_with fail)
     have HO:=Lib.hid (Lst.q HO.out hq)
     have HIV:=Lib.hid (LstI.q HIV.out hq)
     have hS2:=Q.trans hS hq
     refine hK.out _ _ (by exact hS2) (fun hHeld=>?_)
     clear hK K hHeld hS hq
     have hS:=hS2
     clear hS2
     try simp only [Act.put,sA,sB,sC]
     change wpAnyH _ _ _ _ _ _ #[tt,tt,tt,tt,tt,tt,tt,tt,tt,tt,tt,tt,tt,tt,tt,tt,tt,tt,tt,tt,tt,tt,tt,tt,tt,tt,tt,tt,tt,tt,tt,ff,ff,ff,ff,ff,ff] _ _
     refine wpAnyH_take (i:=31) (v:=?vR3x32) (by (try simp only [gA,gB,gC]);rfl) (by kernel_rfl) (by kernel_rfl) (by kernel_rfl) (by exact fun _ _ _ h=>h) (Or.inl ⟨by first | kernel_rfl | rfl,?hyR3x32⟩) (by exact hS) ?rsR3x32
     case hyR3x32=>(intro uz hSw;(try dsimp only at hSw);go_simp;try with_reducible rfl)
     try simp only [Act.put,sA,sB,sC]
     change wpAnyH _ _ _ _ _ _ #[tt,tt,tt,tt,tt,tt,tt,tt,tt,tt,tt,tt,tt,tt,tt,tt,tt,tt,tt,tt,tt,tt,tt,tt,tt,tt,tt,tt,tt,tt,tt,tt,ff,ff,ff,ff,ff] _ _
     refine wpAnyH_take (i:=32) (v:=?vR3x33) (by (try simp only [gA,gB,gC]);rfl) (by kernel_rfl) (by kernel_rfl) (by kernel_rfl) (by exact fun _ _ _ h=>h) (Or.inl ⟨by first | kernel_rfl | rfl,?hyR3x33⟩) (by exact hS) ?rsR3x33
     case hyR3x33=>(intro uz hSw;(try dsimp only at hSw);go_simp;try with_reducible rfl)
     try simp only [Act.put,sA,sB,sC]
     change wpAnyH _ _ _ _ _ _ #[tt,tt,tt,tt,tt,tt,tt,tt,tt,tt,tt,tt,tt,tt,tt,tt,tt,tt,tt,tt,tt,tt,tt,tt,tt,tt,tt,tt,tt,tt,tt,tt,tt,ff,ff,ff,ff] _ _
     refine wpAnyH_take (i:=33) (v:=?vR3x34) (by (try simp only [gA,gB,gC]);rfl) (by kernel_rfl) (by kernel_rfl) (by kernel_rfl) (by exact fun _ _ _ h=>h) (Or.inl ⟨by first | kernel_rfl | rfl,?hyR3x34⟩) (by exact hS) ?rsR3x34
     case hyR3x34=>(intro uz hSw;(try dsimp only at hSw);go_simp;try with_reducible rfl)
     try simp only [Act.put,sA,sB,sC]
     change wpAnyH _ _ _ _ _ _ #[tt,tt,tt,tt,tt,tt,tt,tt,tt,tt,tt,tt,tt,tt,tt,tt,tt,tt,tt,tt,tt,tt,tt,tt,tt,tt,tt,tt,tt,tt,tt,tt,tt,tt,ff,ff,ff] _ _
     refine wpAnyH_ready (rs:=[34]) (by kernel_rfl) (by simp) ?_
     refine (AllReadyH.cons (by (try simp only [gA,gB,gC]);rfl) (fun K hK=>?_) AllReadyH.nil)
     go_simp
     refine (Vw.lives_any _).mono ?_
     rintro e yR3x35 ⟨rfl,hq⟩
     try (go_wp2_with fail)
     have HO:=Lib.hid (Lst.q HO.out hq)
     have HIV:=Lib.hid (LstI.q HIV.out hq)
     have hS2:=Q.trans hS hq
     refine hK.out _ _ (by exact hS2) (fun hHeld=>?_)
     clear hK K hHeld hS hq
     have hS:=hS2
     clear hS2
     try simp only [Act.put,sA,sB,sC]
     change wpAnyH _ _ _ _ _ _ #[tt,tt,tt,tt,tt,tt,tt,tt,tt,tt,tt,tt,tt,tt,tt,tt,tt,tt,tt,tt,tt,tt,tt,tt,tt,tt,tt,tt,tt,tt,tt,tt,tt,tt,tt,ff,ff] _ _
     refine wpAnyH_take (i:=35) (v:=?vR3x36) (by (try simp only [gA,gB,gC]);rfl) (by kernel_rfl) (by kernel_rfl) (by kernel_rfl) (by exact fun _ _ _ h=>h) (Or.inl ⟨by first | kernel_rfl | rfl,?hyR3x36⟩) (by exact hS) ?rsR3x36
     case hyR3x36=>(intro uz hSw;(try dsimp only at hSw);go_simp;try with_reducible rfl)
     try simp only [Act.put,sA,sB,sC]
     change wpAnyH _ _ _ _ _ _ #[tt,tt,tt,tt,tt,tt,tt,tt,tt,tt,tt,tt,tt,tt,tt,tt,tt,tt,tt,tt,tt,tt,tt,tt,tt,tt,tt,tt,tt,tt,tt,tt,tt,tt,tt,tt,ff] _ _
     refine wpAnyH_take (i:=36) (v:=?vR3x37) (by (try simp only [gA,gB,gC]);rfl) (by kernel_rfl) (by kernel_rfl) (by kernel_rfl) (by exact fun _ _ _ h=>h) (Or.inl ⟨by first | kernel_rfl | rfl,?hyR3x37⟩) (by exact hS) ?rsR3x37
     case hyR3x37=>(intro uz hSw;(try dsimp only at hSw);go_simp;try with_reducible rfl)
     try simp only [Act.put,sA,sB,sC]
     change wpAnyH _ _ _ _ _ _ #[tt,tt,tt,tt,tt,tt,tt,tt,tt,tt,tt,tt,tt,tt,tt,tt,tt,tt,tt,tt,tt,tt,tt,tt,tt,tt,tt,tt,tt,tt,tt,tt,tt,tt,tt,tt,tt] _ _
     refine wpAnyH_done (by kernel_rfl) ?_ _
     have HQE:=Lib.hid (HQ2.out.trans (HQ3.out.trans hS))
     clear hS
     go_wp2_with fail
     go_ret
     exact ⟨rfl,HQE.out⟩
end Vw
end Go.Proofs.YtghfdapfnoeanaaGreatDoor
