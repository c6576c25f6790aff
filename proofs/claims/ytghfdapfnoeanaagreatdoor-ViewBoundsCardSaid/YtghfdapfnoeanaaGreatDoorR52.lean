/- How many bytes a text has at most. (and more) -/
import Derived.Test.YtghfdapfnoeanaaGreatDoorR00
import Derived.Test.YtghfdapfnoeanaaGreatDoorR02
import Derived.Test.YtghfdapfnoeanaaGreatDoorR01
import Derived.Test.YtghfdapfnoeanaaGreatDoorR08
import Derived.Test.YtghfdapfnoeanaaGreatDoorR37
import Derived.Test.YtghfdapfnoeanaaGreatDoorR39
import Derived.Test.YtghfdapfnoeanaaGreatDoorR38
import Derived.Test.YtghfdapfnoeanaaGreatDoorR12
import Derived.Test.YtghfdapfnoeanaaGreatDoorR04
import Derived.Test.YtghfdapfnoeanaaGreatDoorR36
import Derived.Test.YtghfdapfnoeanaaGreatDoorR25
import Derived.Test.YtghfdapfnoeanaaGreatDoorR06
import Derived.Test.YtghfdapfnoeanaaGreatDoorR28
import Derived.Test.YtghfdapfnoeanaaGreatDoorR30
import Derived.Test.YtghfdapfnoeanaaGreatDoorR46
import Derived.Test.YtghfdapfnoeanaaGreatDoorR40
import Derived.Test.YtghfdapfnoeanaaGreatDoorR43
import Derived.Test.YtghfdapfnoeanaaGreatDoorR45
import Derived.Test.YtghfdapfnoeanaaGreatDoorRows
import Derived.Laws.Rows
import Derived.Laws.Tables
import Derived.Deep.RegionHeld
import Derived.Deep.Cut
import Derived.Deep.QuietTactic
import Derived.BigQuiet
set_option linter.unusedVariables false
set_option linter.unusedSimpArgs false
namespace Go.Proofs.YtghfdapfnoeanaaGreatDoor
open Go.RowKit
namespace Vw
open Um Im Vm Lo Ro
set_option maxRecDepth 100000 in
set_option maxHeartbeats 8000000 in
theorem law_bounds (g0 g1 g2 g3 g4 g5 n:Int) (dg ds:Bool) (e1 e2:Option Addr) (m1 m2 f1 f2:Nat) (DI DF:List Int) (wh:Int) (bwh:-9223372036854775808 ≤ wh ∧ wh ≤ 9223372036854775807) (re:Int) (bre:-9223372036854775808 ≤ re ∧ re ≤ 9223372036854775807) (w:World) (h0:-9223372036854775808 ≤ g0 ∧ g0 ≤ 9223372036854775807) (h1:-9223372036854775808 ≤ g1 ∧ g1 ≤ 9223372036854775807) (h2:-9223372036854775808 ≤ g2 ∧ g2 ≤ 9223372036854775807) (h3:-9223372036854775808 ≤ g3 ∧ g3 ≤ 9223372036854775807) (h4:-9223372036854775808 ≤ g4 ∧ g4 ≤ 9223372036854775807) (h5:-9223372036854775808 ≤ g5 ∧ g5 ≤ 9223372036854775807) (hn:-9223372036854775808 ≤ n ∧ n ≤ 9223372036854775807) (hi:Lst w (.slice e1 m1 f1) DI) (hf:Lst w (.slice e2 m2 f2) DF) (q1:DI.length = m1) (q2:DF.length = m2) (bi:∀ n ∈ DI,-9223372036854775808 ≤ n ∧ n ≤ 9223372036854775807) (bf:∀ n ∈ DF,-9223372036854775808 ≤ n ∧ n ≤ 9223372036854775807) :
  Calls Tryz.prog 8 #[.agg #[.int .i64 g0,.int .i64 g1,.int .i64 g2,.int .i64 g3,.int .i64 g4,.int .i64 g5],.int .i64 n,.agg #[.bool dg,.slice e1 m1 f1,.bool ds,.slice e2 m2 f2],.int .i64 wh,.int .i64 re] w fun e w'=>e = .returned (.bool true) ∧ Q w w':=by
 have HBE:=Lib.hid (fun u (q:Q w u)=>begin_any g0 g1 g2 g3 g4 g5 n dg ds e1 e2 m1 m2 f1 f2 DI DF u h0 h1 h2 h3 h4 h5 hn (hi.q q) (hf.q q) q1 q2 bi bf)
 have hic:=hi.form0 q1
 obtain ⟨_,_,hv,hnc,hcm⟩:=hic
 cases hv
 have hfc:=hf.form0 q2
 obtain ⟨_,_,hv,hnf,hfm⟩:=hfc
 cases hv
 unfold maxLen at hcm hfm
 clear hi hf q1 q2 bi bf h0 h1 h2 h3 h4 h5 hn
 obtain ⟨y,hy⟩:∃ z,z = w.alloc (.cells #[.int .i64 g0,.int .i64 g1,.int .i64 g2,.int .i64 g3,.int .i64 g4,.int .i64 g5] 23):=⟨_,rfl⟩
 have hqy:Q w y:=by rw [hy];exact (Q.refl w).alloc _
 have hgy:Bk y w.heap.size 23 [.int .i64 g0,.int .i64 g1,.int .i64 g2,.int .i64 g3,.int .i64 g4,.int .i64 g5]:=by rw [hy];exact Bk.new _ _ _
 obtain ⟨z,hz⟩:∃ z,z = y.alloc (.cells #[.bool dg,.slice e1 m1 f1,.bool ds,.slice e2 m2 f2] 26):=⟨_,rfl⟩
 have hqz:Q y z:=by rw [hz];exact (Q.refl y).alloc _
 have HQZ:=Lib.hid (hqy.trans hqz)
 have HGZ:=Lib.hid (hgy.q hqz)
 have hsy:y.heap.size = w.heap.size + 1:=by rw [hy];simp
 have hdz:Bk z y.heap.size 26 [.bool dg,.slice e1 m1 f1,.bool ds,.slice e2 m2 f2]:=by rw [hz];exact Bk.new _ _ _
 rw [hsy] at hdz
 have HDZ:=Lib.hid hdz
 have hz2:z = (w.alloc (.cells #[.int .i64 g0,.int .i64 g1,.int .i64 g2,.int .i64 g3,.int .i64 g4,.int .i64 g5] 23)).alloc (.cells #[.bool dg,.slice e1 m1 f1,.bool ds,.slice e2 m2 f2] 26):=by rw [hz,hy]
 obtain ⟨bG,hbG⟩:∃ b,b = w.heap.size:=⟨_,rfl⟩
 obtain ⟨bE,hbE⟩:∃ b,b = w.heap.size + 1:=⟨_,rfl⟩
 clear hqy hgy hqz hsy hdz hz hy
 go_enter Tryz.func8,Tryz.ntmps8
 go_upto_region 1 with fail
 rw [← hz2,← hbE,← hbG]
 rw [← hbG] at HGZ
 rw [← hbE] at HDZ
 clear hz2 hbG hbE
 have cg0:=HGZ.out.cell 0 rfl
 have cg1:=HGZ.out.cell 1 rfl
 have cg2:=HGZ.out.cell 2 rfl
 have cg3:=HGZ.out.cell 3 rfl
 have cg4:=HGZ.out.cell 4 rfl
 have cg5:=HGZ.out.cell 5 rfl
 have cd0:=HDZ.out.cell 0 rfl
 have cd1:=HDZ.out.cell 1 rfl
 have cd2:=HDZ.out.cell 2 rfl
 have cd3:=HDZ.out.cell 3 rfl
 go_wp2_with fail
 clear cg0 cg1 cg2 cg3 cg4 cg5 cd0 cd1 cd2 cd3 HGZ HDZ
 refine (HBE.out _ HQZ.out).mono ?_
 rintro e w1 ⟨r,X,B,v,la,lb,lc,ld,tg,ts,TI,TF,i1,i2,k1,k2,j1,j2,hok,hnew,hmay,hk1,hk2,hb1,hb2,hli,hlf,rfl,hll,hvo,hq1⟩
 clear HBE
 obtain ⟨a1,a2,rfl⟩:=hll.1.shape
 obtain ⟨b1,b2,rfl⟩:=hll.2.1.shape
 obtain ⟨c1,c2,rfl⟩:=hll.2.2.1.shape
 obtain ⟨d1,d2,rfl⟩:=hll.2.2.2.shape
 have hic3:=hli.form0 hk1
 obtain ⟨_,_,hv,hnc3,hcm3⟩:=hic3
 cases hv
 have hfc3:=hlf.form0 hk2
 obtain ⟨_,_,hv,hnf3,hfm3⟩:=hfc3
 cases hv
 unfold maxLen at hcm3 hfm3
 have HOK:=Lib.hid hok
 have HMAY:=Lib.hid hmay
 have HK1:=Lib.hid hk1
 have HK2:=Lib.hid hk2
 have hqa:Q w1 ((w1.alloc (.cells #[.string ⟨#[]⟩,.string ⟨#[]⟩,.string ⟨#[]⟩,.string ⟨#[]⟩,.string ⟨#[]⟩,.string ⟨#[]⟩,.string ⟨#[]⟩,.string ⟨#[]⟩,.slice none 0 0,.slice none 0 0,.slice none 0 0,.slice none 0 0,.int .i64 0,.int .i64 0,.int .i64 0,.int .i64 0,.int .i64 0] 34)).alloc (.cells #[.bool false,.slice none 0 0,.bool false,.slice none 0 0] 26)):=((Q.refl w1).alloc _).alloc _
 have HL0:=Lib.hid (show Bk ((w1.alloc (.cells #[.string ⟨#[]⟩,.string ⟨#[]⟩,.string ⟨#[]⟩,.string ⟨#[]⟩,.string ⟨#[]⟩,.string ⟨#[]⟩,.string ⟨#[]⟩,.string ⟨#[]⟩,.slice none 0 0,.slice none 0 0,.slice none 0 0,.slice none 0 0,.int .i64 0,.int .i64 0,.int .i64 0,.int .i64 0,.int .i64 0] 34)).alloc (.cells #[.bool false,.slice none 0 0,.bool false,.slice none 0 0] 26)) w1.heap.size 34 zL from (Bk.new w1 _ zL).q ((Q.refl _).alloc _))
 have HD0:=Lib.hid (show Bk ((w1.alloc (.cells #[.string ⟨#[]⟩,.string ⟨#[]⟩,.string ⟨#[]⟩,.string ⟨#[]⟩,.string ⟨#[]⟩,.string ⟨#[]⟩,.string ⟨#[]⟩,.string ⟨#[]⟩,.slice none 0 0,.slice none 0 0,.slice none 0 0,.slice none 0 0,.int .i64 0,.int .i64 0,.int .i64 0,.int .i64 0,.int .i64 0] 34)).alloc (.cells #[.bool false,.slice none 0 0,.bool false,.slice none 0 0] 26)) (w1.heap.size + 1) 26 zD by
  have h:=Bk.new (w1.alloc (.cells #[.string ⟨#[]⟩,.string ⟨#[]⟩,.string ⟨#[]⟩,.string ⟨#[]⟩,.string ⟨#[]⟩,.string ⟨#[]⟩,.string ⟨#[]⟩,.string ⟨#[]⟩,.slice none 0 0,.slice none 0 0,.slice none 0 0,.slice none 0 0,.int .i64 0,.int .i64 0,.int .i64 0,.int .i64 0,.int .i64 0] 34)) 26 zD
  rwa [show (w1.alloc (.cells #[.string ⟨#[]⟩,.string ⟨#[]⟩,.string ⟨#[]⟩,.string ⟨#[]⟩,.string ⟨#[]⟩,.string ⟨#[]⟩,.string ⟨#[]⟩,.string ⟨#[]⟩,.slice none 0 0,.slice none 0 0,.slice none 0 0,.slice none 0 0,.int .i64 0,.int .i64 0,.int .i64 0,.int .i64 0,.int .i64 0] 34)).heap.size = w1.heap.size + 1 from by simp] at h)
 have HD1:=Lib.hid (Rw.Bk_other HD0.out (show w1.heap.size + 1 ≠ w1.heap.size by omega) #[.string (Lm.bs r.nam),.string (Lm.bs r.pat),.string (Lm.bs r.sys),.string (Lm.bs r.dec),.string (Lm.bs r.grp),.string (Lm.bs r.min),.string (Lm.bs r.per),.string (Lm.bs r.cur),.slice a1 X.pre.length a2,.slice b1 X.suf.length b2,.slice c1 X.npre.length c2,.slice d1 X.nsuf.length d2,.int .i64 X.pr,.int .i64 X.se,.int .i64 X.mi,.int .i64 X.mf,.int .i64 X.xf])
 obtain ⟨w2,hw2⟩:∃ u,u = (((w1.alloc (.cells #[.string ⟨#[]⟩,.string ⟨#[]⟩,.string ⟨#[]⟩,.string ⟨#[]⟩,.string ⟨#[]⟩,.string ⟨#[]⟩,.string ⟨#[]⟩,.string ⟨#[]⟩,.slice none 0 0,.slice none 0 0,.slice none 0 0,.slice none 0 0,.int .i64 0,.int .i64 0,.int .i64 0,.int .i64 0,.int .i64 0] 34)).alloc (.cells #[.bool false,.slice none 0 0,.bool false,.slice none 0 0] 26)).setRow w1.heap.size #[.string (Lm.bs r.nam),.string (Lm.bs r.pat),.string (Lm.bs r.sys),.string (Lm.bs r.dec),.string (Lm.bs r.grp),.string (Lm.bs r.min),.string (Lm.bs r.per),.string (Lm.bs r.cur),.slice a1 X.pre.length a2,.slice b1 X.suf.length b2,.slice c1 X.npre.length c2,.slice d1 X.nsuf.length d2,.int .i64 X.pr,.int .i64 X.se,.int .i64 X.mi,.int .i64 X.mf,.int .i64 X.xf]).setRow (w1.heap.size + 1) #[.bool tg,.slice i1 k1 j1,.bool ts,.slice i2 k2 j2]:=⟨_,rfl⟩
 have hq12:Q w1 w2:=by rw [hw2];exact Rw.Q_row (Rw.Q_row hqa (Nat.le_refl _) _) (Nat.le_succ _) _
 have HLX:=Lib.hid (show Bk w2 w1.heap.size 34 [.string (Lm.bs r.nam),.string (Lm.bs r.pat),.string (Lm.bs r.sys),.string (Lm.bs r.dec),.string (Lm.bs r.grp),.string (Lm.bs r.min),.string (Lm.bs r.per),.string (Lm.bs r.cur),.slice a1 X.pre.length a2,.slice b1 X.suf.length b2,.slice c1 X.npre.length c2,.slice d1 X.nsuf.length d2,.int .i64 X.pr,.int .i64 X.se,.int .i64 X.mi,.int .i64 X.mf,.int .i64 X.xf] by rw [hw2];exact Rw.Bk_other (Rw.Bk_row HL0.out [.string (Lm.bs r.nam),.string (Lm.bs r.pat),.string (Lm.bs r.sys),.string (Lm.bs r.dec),.string (Lm.bs r.grp),.string (Lm.bs r.min),.string (Lm.bs r.per),.string (Lm.bs r.cur),.slice a1 X.pre.length a2,.slice b1 X.suf.length b2,.slice c1 X.npre.length c2,.slice d1 X.nsuf.length d2,.int .i64 X.pr,.int .i64 X.se,.int .i64 X.mi,.int .i64 X.mf,.int .i64 X.xf]) (by omega) _)
 have HDX:=Lib.hid (show Bk w2 (w1.heap.size + 1) 26 [.bool tg,.slice i1 k1 j1,.bool ts,.slice i2 k2 j2] by rw [hw2];exact Rw.Bk_row HD1.out [.bool tg,.slice i1 k1 j1,.bool ts,.slice i2 k2 j2])
 have HQ2:=Lib.hid (HQZ.out.trans (hq1.trans hq12))
 have HLI:=Lib.hid (hli.q hq12)
 have HLF:=Lib.hid (hlf.q hq12)
 have HLL:=Lib.hid (hll.q hq12)
 have HVB:=Lib.hid (show VB w2 B v _ _ _ from VO.q hvo hq12)
 have hal:(Tm.ats ⟨tg,TI,ts,TF⟩).length = k1 + (Tm.sep ts).length + k2:=by rw [Tm.ats_len];dsimp only;rw [hk1,hk2]
 have hsl:=Tm.sep_len ts
 have hbg:=bnd_ge (r:=r) hok.ok.pr (d:=⟨tg,TI,ts,TF⟩) (Tm.may_dig hmay).1 (Tm.may_dig hmay).2.1 tg
 dsimp only at hbg
 rw [hk1,hk2] at hbg
 have hn2:=hnew
 unfold recV at hn2
 have HNW:=Lib.hid hn2
 clear hn2
 have HRB:=Lib.hid (fun u (q:Q w2 u) W R (hW:W ≤ 1000) (hR:R ≤ 1000)=>Vr.bound_any r X _ _ _ _ W R u hok (HLL.out.q q) hW hR)
 have hrw:=itm_rw hok hmay tg
 have hah:=itm_ahead r X.pr X.se ⟨tg,TI,ts,TF⟩ (parP r (Ro.ahd tg X)) (parP r (Ro.bhd tg X))
 have hil:=itm_len r X.pr X.se ⟨tg,TI,ts,TF⟩ (parP r (Ro.ahd tg X)) (parP r (Ro.bhd tg X))
 dsimp only at hil
 rw [hk1,hk2] at hil
 have hpl:=(Ro.around_fact hok.ok tg).2.2.1
 have hpl2:=(Ro.around_fact hok.ok tg).2.2.2
 have hdg:=Tm.may_dig hmay
 have hokt:=itm_okT hok (d:=⟨tg,TI,ts,TF⟩) hdg.1 hdg.2.1 tg
 have htx:=tx_len _ hokt
 dsimp only at HVB hbg HRB
 generalize itm r X.pr X.se ⟨tg,TI,ts,TF⟩ (parP r (Ro.ahd tg X)) (parP r (Ro.bhd tg X)) = L at *
 obtain ⟨a0,ha0⟩:∃ k,k = (parP r (Ro.ahd tg X)).length:=⟨_,rfl⟩
 rw [← ha0] at hah HVB
 rw [hal] at hrw HVB
 obtain ⟨N,hN⟩:∃ N,N = k1 + (Tm.sep ts).length + k2:=⟨_,rfl⟩
 rw [← hN] at hrw HVB hal 
 have hNb:N ≤ 19:=by omega
 obtain ⟨nL,hnL⟩:∃ n,n = L.length:=⟨_,rfl⟩
 rw [← hnL] at hil htx
 have hnb:nL ≤ 41:=by omega
 have htb:(txI L).length ≤ 2624:=by omega
 have HNL:=Lib.hid hnL.symm
 have HTB:=Lib.hid htb
 have HNN:=Lib.hid hal
 have HRW:=Lib.hid hrw
 have hst:∀ i j,i < j → j ≤ N → stp L a0 i < stp L a0 j:=fun i j h1 h2=>stp_lt hrw hah h1 h2
 have HST:=Lib.hid hst
 have HSB:=Lib.hid (fun k (h:k ≤ N)=>Nat.le_trans (stp_le hrw hah h) htb)
 have HBG:=Lib.hid hbg
 have HTE:=Lib.hid (fun u (q:Q w2 u)=>(text_any B v L (stp L a0) N u (HVB.out.q q)).mono fun e w' h=>show e = .returned (.string ⟨(txI L).toArray⟩) ∧ Q u w' from ⟨h.1,by rw [h.2];exact Q.refl _⟩)
 clear hbg
 clear hli hlf hll hvo hq1 hq12 hqa HQZ hal hsl hrw hah hil hpl hpl2 hdg htx htb hokt hN hnL ha0 hst hok hmay hnew hk1 hk2
 unfold lV
 go_upto_region 2 with (first
  | refine wpList_store_row (by rfl) 34 _ _ (by rfl) w1.heap.size #[.string (Lm.bs r.nam),.string (Lm.bs r.pat),.string (Lm.bs r.sys),.string (Lm.bs r.dec),.string (Lm.bs r.grp),.string (Lm.bs r.min),.string (Lm.bs r.per),.string (Lm.bs r.cur),.slice a1 X.pre.length a2,.slice b1 X.suf.length b2,.slice c1 X.npre.length c2,.slice d1 X.nsuf.length d2,.int .i64 X.pr,.int .i64 X.se,.int .i64 X.mi,.int .i64 X.mf,.int .i64 X.xf] (by rfl) (by rfl) 34 _ HL0.out (by exact infoL) rfl (Rw.all1 (by rfl)) ?_
  | refine wpList_store_row (by rfl) 26 _ _ (by rfl) (w1.heap.size + 1) #[.bool tg,.slice i1 k1 j1,.bool ts,.slice i2 k2 j2] (by rfl) (by rfl) 26 _ HD1.out (by exact infoD) rfl (Rw.all1 (by rfl)) ?_)
 rw [← hw2]
 clear hw2 HL0 HD0 HD1
 obtain ⟨bL,hbL⟩:∃ b,b = w1.heap.size:=⟨_,rfl⟩
 obtain ⟨bD,hbD⟩:∃ b,b = w1.heap.size + 1:=⟨_,rfl⟩
 rw [← hbD] at HDX
 rw [← hbL] at HLX
 rw [← hbD,← hbL]
 clear hbD hbL
 have x0:=HLX.out.cell 0 rfl
 have x1:=HLX.out.cell 1 rfl
 have x2:=HLX.out.cell 2 rfl
 have x3:=HLX.out.cell 3 rfl
 have x4:=HLX.out.cell 4 rfl
 have x5:=HLX.out.cell 5 rfl
 have x6:=HLX.out.cell 6 rfl
 have x7:=HLX.out.cell 7 rfl
 go_wp2_with fail
 clear x0 x1 x2 x3 x4 x5 x6 x7
 refine (HNW.out _).mono ?_
 rintro e w3 ⟨g,pa,pb,pc,pd,pcl,rfl,hlb,hq3⟩
 have HBD:=Lib.hid (fun u (q:Q w3 u) W R (hW:W ≤ 1000) (hR:R ≤ 1000)=>bound_any g r X pa pb pc pd pcl W R u HOK.out (hlb.q q) hW hR)
 have HQ3:=Lib.hid hq3
 have HLX3:=Lib.hid (HLX.out.q hq3)
 have HDX3:=Lib.hid (HDX.out.q hq3)
 have HA1:=Lib.hid (fun u=>Ur.around_any wh 65 u bwh.1 bwh.2 (by omega) (by omega))
 have HA2:=Lib.hid (fun u=>Ur.around_any re 65 u bre.1 bre.2 (by omega) (by omega))
 have hp1:=around_bd wh 65 (by omega)
 have hp2:=around_bd re 65 (by omega)
 generalize around wh 65 = wi at *
 generalize around re 65 = ri at *
 obtain ⟨W,rfl⟩:∃ q:Nat,wi = q:=⟨wi.toNat,by omega⟩
 obtain ⟨R,rfl⟩:∃ q:Nat,ri = q:=⟨ri.toNat,by omega⟩
 have b1:=fun u (q:Q w3 u)=>HBD.out u q W R (by omega) (by omega)
 have b2:=fun u (q:Q w3 u)=>HRB.out u (HQ3.out.trans q) W R (by omega) (by omega)
 have b3:=fun u (q:Q w3 u)=>HBD.out u q k1 k2 (by omega) (by omega)
 have b4:=fun u (q:Q w3 u)=>HRB.out u (HQ3.out.trans q) k1 k2 (by omega) (by omega)
 have hsz:(⟨(txI L).toArray⟩:ByteArray).size ≤ bnd r X k1 k2:=by have:=HBG.out;simp [ByteArray.size];omega
 have HTE3:=Lib.hid (fun u (q:Q w3 u)=>HTE.out u (HQ3.out.trans q))
 generalize bnd r X W R = M1 at *
 generalize bnd r X k1 k2 = M2 at *
 have B1:=Lib.hid b1
 have B2:=Lib.hid b2
 have B3:=Lib.hid b3
 have B4:=Lib.hid b4
 generalize (⟨(txI L).toArray⟩:ByteArray) = S at *
 have hle:(S.size:Int) ≤ (M2:Int):=by omega
 have h11:((M1:Int) == (M1:Int)) = true:=by simp
 have h22:((M2:Int) == (M2:Int)) = true:=by simp
 clear hlb hq3 HBD HRB HTE b1 b2 b3 b4 hsz HLX HDX
 go_wp2_with fail
 refine (HA1.out _).mono ?_
 rintro e _ ⟨rfl,rfl⟩
 go_wp2_with fail
 refine (HA2.out _).mono ?_
 rintro e _ ⟨rfl,rfl⟩
 go_upto_region 7 with fail
 refine wp_region_held_drew (S:=fun u=>Q w3 u) (by kernel_rfl) (by exact (Q.refl w3).drew) (fun hHeld=>?_)
 have hS:Q w3 w3.drew:=hHeld
 clear hHeld
 have hq:Q w3 w3.drew:=(Q.refl _).drew
 clear hq
 generalize w3.drew = yR4x0 at *
 change wpAnyH _ _ _ _ _ _ #[ff,ff,ff,ff,ff,ff,ff,ff,ff,ff,ff,ff,ff,ff,ff,ff,ff,ff,ff,ff,ff,ff,ff,ff,ff,ff,ff,ff,ff,ff,ff,ff,ff,ff,ff,ff,ff,ff,ff,ff,ff,ff,ff,ff,ff,ff] _ _
 refine wpAnyH_take (i:=0) (v:=?vR4x1) (by (try simp only [gA,gB,gC]);rfl) (by kernel_rfl) (by kernel_rfl) (by kernel_rfl) (by exact fun _ _ _ h=>h) (Or.inl ⟨by first | kernel_rfl | rfl,?hyR4x1⟩) (by exact hS) ?rsR4x1
 case hyR4x1=>(intro uz hSw;(try dsimp only at hSw);go_simp;try with_reducible rfl)
 try simp only [Act.put,sA,sB,sC]
 change wpAnyH _ _ _ _ _ _ #[tt,ff,ff,ff,ff,ff,ff,ff,ff,ff,ff,ff,ff,ff,ff,ff,ff,ff,ff,ff,ff,ff,ff,ff,ff,ff,ff,ff,ff,ff,ff,ff,ff,ff,ff,ff,ff,ff,ff,ff,ff,ff,ff,ff,ff,ff] _ _
 refine wpAnyH_take (i:=1) (v:=?vR4x2) (by (try simp only [gA,gB,gC]);rfl) (by kernel_rfl) (by kernel_rfl) (by kernel_rfl) (by exact fun _ _ _ h=>h) (Or.inl ⟨by first | kernel_rfl | rfl,?hyR4x2⟩) (by exact hS) ?rsR4x2
 case hyR4x2=>(intro uz hSw;(try dsimp only at hSw);go_simp;try with_reducible rfl)
 try simp only [Act.put,sA,sB,sC]
 change wpAnyH _ _ _ _ _ _ #[tt,tt,ff,ff,ff,ff,ff,ff,ff,ff,ff,ff,ff,ff,ff,ff,ff,ff,ff,ff,ff,ff,ff,ff,ff,ff,ff,ff,ff,ff,ff,ff,ff,ff,ff,ff,ff,ff,ff,ff,ff,ff,ff,ff,ff,ff] _ _
 refine wpAnyH_take (i:=2) (v:=?vR4x3) (by (try simp only [gA,gB,gC]);rfl) (by kernel_rfl) (by kernel_rfl) (by kernel_rfl) (by exact fun _ _ _ h=>h) (Or.inl ⟨by first | kernel_rfl | rfl,?hyR4x3⟩) (by exact hS) ?rsR4x3
 case hyR4x3=>(intro uz hSw;(try dsimp only at hSw);go_simp;try with_reducible rfl)
 try simp only [Act.put,sA,sB,sC]
 change wpAnyH _ _ _ _ _ _ #[tt,tt,tt,ff,ff,ff,ff,ff,ff,ff,ff,ff,ff,ff,ff,ff,ff,ff,ff,ff,ff,ff,ff,ff,ff,ff,ff,ff,ff,ff,ff,ff,ff,ff,ff,ff,ff,ff,ff,ff,ff,ff,ff,ff,ff,ff] _ _
 refine wpAnyH_take (i:=4) (v:=?vR4x4) (by (try simp only [gA,gB,gC]);rfl) (by kernel_rfl) (by kernel_rfl) (by kernel_rfl) (by exact fun _ _ _ h=>h) (Or.inl ⟨by first | kernel_rfl | rfl,?hyR4x4⟩) (by exact hS) ?rsR4x4
 case hyR4x4=>(intro uz hSw;(try dsimp only at hSw);refine ld_row (x:=.tmp 12) ?_ ?_ (HLX3.out.q hSw) Tryz.underlying34 (by exact infoL) <;> rfl)
 try simp only [Act.put,sA,sB,sC]
 change wpAnyH _ _ _ _ _ _ #[tt,tt,tt,ff,tt,ff,ff,ff,ff,ff,ff,ff,ff,ff,ff,ff,ff,ff,ff,ff,ff,ff,ff,ff,ff,ff,ff,ff,ff,ff,ff,ff,ff,ff,ff,ff,ff,ff,ff,ff,ff,ff,ff,ff,ff,ff] _ _
 refine wpAnyH_take (i:=5) (v:=?vR4x5) (by (try simp only [gA,gB,gC]);rfl) (by kernel_rfl) (by kernel_rfl) (by kernel_rfl) (by exact fun _ _ _ h=>h) (Or.inl ⟨by first | kernel_rfl | rfl,?hyR4x5⟩) (by exact hS) ?rsR4x5
 case hyR4x5=>(intro uz hSw;(try dsimp only at hSw);go_simp;try with_reducible rfl)
 try simp only [Act.put,sA,sB,sC]
 change wpAnyH _ _ _ _ _ _ #[tt,tt,tt,ff,tt,tt,ff,ff,ff,ff,ff,ff,ff,ff,ff,ff,ff,ff,ff,ff,ff,ff,ff,ff,ff,ff,ff,ff,ff,ff,ff,ff,ff,ff,ff,ff,ff,ff,ff,ff,ff,ff,ff,ff,ff,ff] _ _
 refine wpAnyH_take (i:=6) (v:=?vR4x6) (by (try simp only [gA,gB,gC]);rfl) (by kernel_rfl) (by kernel_rfl) (by kernel_rfl) (by exact fun _ _ _ h=>h) (Or.inl ⟨by first | kernel_rfl | rfl,?hyR4x6⟩) (by exact hS) ?rsR4x6
 case hyR4x6=>(intro uz hSw;(try dsimp only at hSw);go_simp;try with_reducible rfl)
 try simp only [Act.put,sA,sB,sC]
 change wpAnyH _ _ _ _ _ _ #[tt,tt,tt,ff,tt,tt,tt,ff,ff,ff,ff,ff,ff,ff,ff,ff,ff,ff,ff,ff,ff,ff,ff,ff,ff,ff,ff,ff,ff,ff,ff,ff,ff,ff,ff,ff,ff,ff,ff,ff,ff,ff,ff,ff,ff,ff] _ _
 refine wpAnyH_ready (rs:=[3]) (by kernel_rfl) (by simp) ?_
 refine (AllReadyH.cons (by (try simp only [gA,gB,gC]);rfl) (fun K hK=>?_) AllReadyH.nil)
 go_simp
 refine (B1.out _ hS).mono ?_
 rintro e yR4x7 ⟨rfl,hq⟩
 try (go_wp2_with fail)
 have hS2:=Q.trans hS hq
 refine hK.out _ _ (by exact hS2) (fun hHeld=>?_)
 clear hK K hHeld hS hq
 have hS:=hS2
 clear hS2
 try simp only [Act.put,sA,sB,sC]
 change wpAnyH _ _ _ _ _ _ #[tt,tt,tt,tt,tt,tt,tt,ff,ff,ff,ff,ff,ff,ff,ff,ff,ff,ff,ff,ff,ff,ff,ff,ff,ff,ff,ff,ff,ff,ff,ff,ff,ff,ff,ff,ff,ff,ff,ff,ff,ff,ff,ff,ff,ff,ff] _ _
 refine wpAnyH_ready (rs:=[7]) (by kernel_rfl) (by simp) ?_
 refine (AllReadyH.cons (by (try simp only [gA,gB,gC]);rfl) (fun K hK=>?_) AllReadyH.nil)
 go_simp
 refine (B2.out _ hS).mono ?_
 rintro e yR4x8 ⟨rfl,hq⟩
 try (go_wp2_with fail)
 have hS2:=Q.trans hS hq
 refine hK.out _ _ (by exact hS2) (fun hHeld=>?_)
 clear hK K hHeld hS hq
 have hS:=hS2
 clear hS2
 try simp only [Act.put,sA,sB,sC]
 change wpAnyH _ _ _ _ _ _ #[tt,tt,tt,tt,tt,tt,tt,tt,ff,ff,ff,ff,ff,ff,ff,ff,ff,ff,ff,ff,ff,ff,ff,ff,ff,ff,ff,ff,ff,ff,ff,ff,ff,ff,ff,ff,ff,ff,ff,ff,ff,ff,ff,ff,ff,ff] _ _
 refine wpAnyH_take (i:=8) (v:=?vR4x9) (by (try simp only [gA,gB,gC]);rfl) (by kernel_rfl) (by kernel_rfl) (by kernel_rfl) (by exact fun _ _ _ h=>h) (Or.inl ⟨by first | kernel_rfl | rfl,?hyR4x9⟩) (by exact hS) ?rsR4x9
 case hyR4x9=>(intro uz hSw;(try dsimp only at hSw);go_simp;try with_reducible rfl)
 try simp only [Act.put,sA,sB,sC]
 change wpAnyH _ _ _ _ _ _ #[tt,tt,tt,tt,tt,tt,tt,tt,tt,ff,ff,ff,ff,ff,ff,ff,ff,ff,ff,ff,ff,ff,ff,ff,ff,ff,ff,ff,ff,ff,ff,ff,ff,ff,ff,ff,ff,ff,ff,ff,ff,ff,ff,ff,ff,ff] _ _
 refine wpAnyH_take (i:=9) (v:=?vR4x10) (by (try simp only [gA,gB,gC]);rfl) (by kernel_rfl) (by kernel_rfl) (by kernel_rfl) (by exact fun _ _ _ h=>h) (Or.inl ⟨by first | kernel_rfl | rfl,?hyR4x10⟩) (by exact hS) ?rsR4x10
 case hyR4x10=>(intro uz hSw;(try dsimp only at hSw);go_simp;try with_reducible rfl)
 try simp only [Act.put,sA,sB,sC]
 change wpAnyH _ _ _ _ _ _ #[tt,tt,tt,tt,tt,tt,tt,tt,tt,tt,ff,ff,ff,ff,ff,ff,ff,ff,ff,ff,ff,ff,ff,ff,ff,ff,ff,ff,ff,ff,ff,ff,ff,ff,ff,ff,ff,ff,ff,ff,ff,ff,ff,ff,ff,ff] _ _
 refine wpAnyH_take (i:=10) (v:=?vR4x11) (by (try simp only [gA,gB,gC]);rfl) (by kernel_rfl) (by kernel_rfl) (by kernel_rfl) (by exact fun _ _ _ h=>h) (Or.inl ⟨by first | kernel_rfl | rfl,?hyR4x11⟩) (by exact hS) ?rsR4x11
 case hyR4x11=>(intro uz hSw;(try dsimp only at hSw);go_simp;try with_reducible rfl)
 try simp only [Act.put,sA,sB,sC]
 change wpAnyH _ _ _ _ _ _ #[tt,tt,tt,tt,tt,tt,tt,tt,tt,tt,tt,ff,ff,ff,ff,ff,ff,ff,ff,ff,ff,ff,ff,ff,ff,ff,ff,ff,ff,ff,ff,ff,ff,ff,ff,ff,ff,ff,ff,ff,ff,ff,ff,ff,ff,ff] _ _
 refine wpAnyH_take (i:=13) (v:=?vR4x12) (by (try simp only [gA,gB,gC]);rfl) (by kernel_rfl) (by kernel_rfl) (by kernel_rfl) (by exact fun _ _ _ h=>h) (Or.inl ⟨by first | kernel_rfl | rfl,?hyR4x12⟩) (by exact hS) ?rsR4x12
 case hyR4x12=>(intro uz hSw;(try dsimp only at hSw);go_simp;try with_reducible rfl)
 try simp only [Act.put,sA,sB,sC]
 change wpAnyH _ _ _ _ _ _ #[tt,tt,tt,tt,tt,tt,tt,tt,tt,tt,tt,ff,ff,tt,ff,ff,ff,ff,ff,ff,ff,ff,ff,ff,ff,ff,ff,ff,ff,ff,ff,ff,ff,ff,ff,ff,ff,ff,ff,ff,ff,ff,ff,ff,ff,ff] _ _
 refine wpAnyH_take (i:=14) (v:=?vR4x13) (by (try simp only [gA,gB,gC]);rfl) (by kernel_rfl) (by kernel_rfl) (by kernel_rfl) (by exact fun _ _ _ h=>h) (Or.inl ⟨by first | kernel_rfl | rfl,?hyR4x13⟩) (by exact hS) ?rsR4x13
 case hyR4x13=>(intro uz hSw;(try dsimp only at hSw);go_simp;try with_reducible rfl)
 try simp only [Act.put,sA,sB,sC]
 change wpAnyH _ _ _ _ _ _ #[tt,tt,tt,tt,tt,tt,tt,tt,tt,tt,tt,ff,ff,tt,tt,ff,ff,ff,ff,ff,ff,ff,ff,ff,ff,ff,ff,ff,ff,ff,ff,ff,ff,ff,ff,ff,ff,ff,ff,ff,ff,ff,ff,ff,ff,ff] _ _
 refine wpAnyH_take (i:=15) (v:=?vR4x14) (by (try simp only [gA,gB,gC]);rfl) (by kernel_rfl) (by kernel_rfl) (by kernel_rfl) (by exact fun _ _ _ h=>h) (Or.inl ⟨by first | kernel_rfl | rfl,?hyR4x14⟩) (by exact hS) ?rsR4x14
 case hyR4x14=>(intro uz hSw;(try dsimp only at hSw);have q:=(HDX3.out.q hSw).cell 1 rfl;go_simp;try with_reducible rfl)
 try simp only [Act.put,sA,sB,sC]
 change wpAnyH _ _ _ _ _ _ #[tt,tt,tt,tt,tt,tt,tt,tt,tt,tt,tt,ff,ff,tt,tt,tt,ff,ff,ff,ff,ff,ff,ff,ff,ff,ff,ff,ff,ff,ff,ff,ff,ff,ff,ff,ff,ff,ff,ff,ff,ff,ff,ff,ff,ff,ff] _ _
 refine wpAnyH_take (i:=16) (v:=?vR4x15) (by (try simp only [gA,gB,gC]);rfl) (by kernel_rfl) (by kernel_rfl) (by kernel_rfl) (by exact fun _ _ _ h=>h) (Or.inl ⟨by first | kernel_rfl | rfl,?hyR4x15⟩) (by exact hS) ?rsR4x15
 case hyR4x15=>(intro uz hSw;(try dsimp only at hSw);go_simp;try with_reducible rfl)
 try simp only [Act.put,sA,sB,sC]
 change wpAnyH _ _ _ _ _ _ #[tt,tt,tt,tt,tt,tt,tt,tt,tt,tt,tt,ff,ff,tt,tt,tt,tt,ff,ff,ff,ff,ff,ff,ff,ff,ff,ff,ff,ff,ff,ff,ff,ff,ff,ff,ff,ff,ff,ff,ff,ff,ff,ff,ff,ff,ff] _ _
 refine wpAnyH_take (i:=17) (v:=?vR4x16) (by (try simp only [gA,gB,gC]);rfl) (by kernel_rfl) (by kernel_rfl) (by kernel_rfl) (by exact fun _ _ _ h=>h) (Or.inl ⟨by first | kernel_rfl | rfl,?hyR4x16⟩) (by exact hS) ?rsR4x16
 case hyR4x16=>(intro uz hSw;(try dsimp only at hSw);go_simp;try with_reducible rfl)
 try simp only [Act.put,sA,sB,sC]
 change wpAnyH _ _ _ _ _ _ #[tt,tt,tt,tt,tt,tt,tt,tt,tt,tt,tt,ff,ff,tt,tt,tt,tt,tt,ff,ff,ff,ff,ff,ff,ff,ff,ff,ff,ff,ff,ff,ff,ff,ff,ff,ff,ff,ff,ff,ff,ff,ff,ff,ff,ff,ff] _ _
 refine wpAnyH_take (i:=18) (v:=?vR4x17) (by (try simp only [gA,gB,gC]);rfl) (by kernel_rfl) (by kernel_rfl) (by kernel_rfl) (by exact fun _ _ _ h=>h) (Or.inl ⟨by first | kernel_rfl | rfl,?hyR4x17⟩) (by exact hS) ?rsR4x17
 case hyR4x17=>(intro uz hSw;(try dsimp only at hSw);have q:=(HDX3.out.q hSw).cell 3 rfl;go_simp;try with_reducible rfl)
 try simp only [Act.put,sA,sB,sC]
 change wpAnyH _ _ _ _ _ _ #[tt,tt,tt,tt,tt,tt,tt,tt,tt,tt,tt,ff,ff,tt,tt,tt,tt,tt,tt,ff,ff,ff,ff,ff,ff,ff,ff,ff,ff,ff,ff,ff,ff,ff,ff,ff,ff,ff,ff,ff,ff,ff,ff,ff,ff,ff] _ _
 refine wpAnyH_take (i:=19) (v:=?vR4x18) (by (try simp only [gA,gB,gC]);rfl) (by kernel_rfl) (by kernel_rfl) (by kernel_rfl) (by exact fun _ _ _ h=>h) (Or.inl ⟨by first | kernel_rfl | rfl,?hyR4x18⟩) (by exact hS) ?rsR4x18
 case hyR4x18=>(intro uz hSw;(try dsimp only at hSw);go_simp;try with_reducible rfl)
 try simp only [Act.put,sA,sB,sC]
 change wpAnyH _ _ _ _ _ _ #[tt,tt,tt,tt,tt,tt,tt,tt,tt,tt,tt,ff,ff,tt,tt,tt,tt,tt,tt,tt,ff,ff,ff,ff,ff,ff,ff,ff,ff,ff,ff,ff,ff,ff,ff,ff,ff,ff,ff,ff,ff,ff,ff,ff,ff,ff] _ _
 refine wpAnyH_ready (rs:=[11]) (by kernel_rfl) (by simp) ?_
 refine (AllReadyH.cons (by (try simp only [gA,gB,gC]);rfl) (fun K hK=>?_) AllReadyH.nil)
 go_simp
 refine (HTE3.out _ hS).mono ?_
 rintro e yR4x19 ⟨rfl,hq⟩
 try (go_wp2_with fail)
 have hS2:=Q.trans hS hq
 refine hK.out _ _ (by exact hS2) (fun hHeld=>?_)
 clear hK K hHeld hS hq
 have hS:=hS2
 clear hS2
 try simp only [Act.put,sA,sB,sC]
 change wpAnyH _ _ _ _ _ _ #[tt,tt,tt,tt,tt,tt,tt,tt,tt,tt,tt,tt,ff,tt,tt,tt,tt,tt,tt,tt,ff,ff,ff,ff,ff,ff,ff,ff,ff,ff,ff,ff,ff,ff,ff,ff,ff,ff,ff,ff,ff,ff,ff,ff,ff,ff] _ _
 refine wpAnyH_take (i:=12) (v:=?vR4x20) (by (try simp only [gA,gB,gC]);rfl) (by kernel_rfl) (by kernel_rfl) (by kernel_rfl) (by exact fun _ _ _ h=>h) (Or.inl ⟨by first | kernel_rfl | rfl,?hyR4x20⟩) (by exact hS) ?rsR4x20
 case hyR4x20=>(intro uz hSw;(try dsimp only at hSw);go_simp;try with_reducible rfl)
 try simp only [Act.put,sA,sB,sC]
 change wpAnyH _ _ _ _ _ _ #[tt,tt,tt,tt,tt,tt,tt,tt,tt,tt,tt,tt,tt,tt,tt,tt,tt,tt,tt,tt,ff,ff,ff,ff,ff,ff,ff,ff,ff,ff,ff,ff,ff,ff,ff,ff,ff,ff,ff,ff,ff,ff,ff,ff,ff,ff] _ _
 refine wpAnyH_ready (rs:=[20]) (by kernel_rfl) (by simp) ?_
 refine (AllReadyH.cons (by (try simp only [gA,gB,gC]);rfl) (fun K hK=>?_) AllReadyH.nil)
 go_simp
 refine (B3.out _ hS).mono ?_
 rintro e yR4x21 ⟨rfl,hq⟩
 try (go_wp2_with fail)
 have hS2:=Q.trans hS hq
 refine hK.out _ _ (by exact hS2) (fun hHeld=>?_)
 clear hK K hHeld hS hq
 have hS:=hS2
 clear hS2
 try simp only [Act.put,sA,sB,sC]
 change wpAnyH _ _ _ _ _ _ #[tt,tt,tt,tt,tt,tt,tt,tt,tt,tt,tt,tt,tt,tt,tt,tt,tt,tt,tt,tt,tt,ff,ff,ff,ff,ff,ff,ff,ff,ff,ff,ff,ff,ff,ff,ff,ff,ff,ff,ff,ff,ff,ff,ff,ff,ff] _ _
 refine wpAnyH_take (i:=21) (v:=?vR4x22) (by (try simp only [gA,gB,gC]);rfl) (by kernel_rfl) (by kernel_rfl) (by kernel_rfl) (by exact fun _ _ _ h=>h) (Or.inl ⟨by first | kernel_rfl | rfl,?hyR4x22⟩) (by exact hS) ?rsR4x22
 case hyR4x22=>(intro uz hSw;(try dsimp only at hSw);go_simp;try with_reducible rfl)
 try simp only [Act.put,sA,sB,sC]
 change wpAnyH _ _ _ _ _ _ #[tt,tt,tt,tt,tt,tt,tt,tt,tt,tt,tt,tt,tt,tt,tt,tt,tt,tt,tt,tt,tt,tt,ff,ff,ff,ff,ff,ff,ff,ff,ff,ff,ff,ff,ff,ff,ff,ff,ff,ff,ff,ff,ff,ff,ff,ff] _ _
 refine wpAnyH_take (i:=22) (v:=?vR4x23) (by (try simp only [gA,gB,gC]);rfl) (by kernel_rfl) (by kernel_rfl) (by kernel_rfl) (by exact fun _ _ _ h=>h) (Or.inl ⟨by first | kernel_rfl | rfl,?hyR4x23⟩) (by exact hS) ?rsR4x23
 case hyR4x23=>(intro uz hSw;(try dsimp only at hSw);go_simp;try with_reducible rfl)
 try simp only [Act.put,sA,sB,sC]
 change wpAnyH _ _ _ _ _ _ #[tt,tt,tt,tt,tt,tt,tt,tt,tt,tt,tt,tt,tt,tt,tt,tt,tt,tt,tt,tt,tt,tt,tt,ff,ff,ff,ff,ff,ff,ff,ff,ff,ff,ff,ff,ff,ff,ff,ff,ff,ff,ff,ff,ff,ff,ff] _ _
 refine wpAnyH_take (i:=23) (v:=?vR4x24) (by (try simp only [gA,gB,gC]);rfl) (by kernel_rfl) (by kernel_rfl) (by kernel_rfl) (by exact fun _ _ _ h=>h) (Or.inl ⟨by first | kernel_rfl | rfl,?hyR4x24⟩) (by exact hS) ?rsR4x24
 case hyR4x24=>(intro uz hSw;(try dsimp only at hSw);go_simp;try with_reducible rfl)
 try simp only [Act.put,sA,sB,sC]
 change wpAnyH _ _ _ _ _ _ #[tt,tt,tt,tt,tt,tt,tt,tt,tt,tt,tt,tt,tt,tt,tt,tt,tt,tt,tt,tt,tt,tt,tt,tt,ff,ff,ff,ff,ff,ff,ff,ff,ff,ff,ff,ff,ff,ff,ff,ff,ff,ff,ff,ff,ff,ff] _ _
 refine wpAnyH_take (i:=24) (v:=?vR4x25) (by (try simp only [gA,gB,gC]);rfl) (by kernel_rfl) (by kernel_rfl) (by kernel_rfl) (by exact fun _ _ _ h=>h) (Or.inl ⟨by first | kernel_rfl | rfl,?hyR4x25⟩) (by exact hS) ?rsR4x25
 case hyR4x25=>(intro uz hSw;(try dsimp only at hSw);go_simp;try with_reducible rfl)
 try simp only [Act.put,sA,sB,sC]
 change wpAnyH _ _ _ _ _ _ #[tt,tt,tt,tt,tt,tt,tt,tt,tt,tt,tt,tt,tt,tt,tt,tt,tt,tt,tt,tt,tt,tt,tt,tt,tt,ff,ff,ff,ff,ff,ff,ff,ff,ff,ff,ff,ff,ff,ff,ff,ff,ff,ff,ff,ff,ff] _ _
 refine wpAnyH_take (i:=25) (v:=?vR4x26) (by (try simp only [gA,gB,gC]);rfl) (by kernel_rfl) (by kernel_rfl) (by kernel_rfl) (by exact fun _ _ _ h=>h) (Or.inl ⟨by first | kernel_rfl | rfl,?hyR4x26⟩) (by exact hS) ?rsR4x26
 case hyR4x26=>(intro uz hSw;(try dsimp only at hSw);go_simp;try with_reducible rfl)
 try simp only [Act.put,sA,sB,sC]
 change wpAnyH _ _ _ _ _ _ #[tt,tt,tt,tt,tt,tt,tt,tt,tt,tt,tt,tt,tt,tt,tt,tt,tt,tt,tt,tt,tt,tt,tt,tt,tt,tt,ff,ff,ff,ff,ff,ff,ff,ff,ff,ff,ff,ff,ff,ff,ff,ff,ff,ff,ff,ff] _ _
 refine wpAnyH_take (i:=26) (v:=?vR4x27) (by (try simp only [gA,gB,gC]);rfl) (by kernel_rfl) (by kernel_rfl) (by kernel_rfl) (by exact fun _ _ _ h=>h) (Or.inl ⟨by first | kernel_rfl | rfl,?hyR4x27⟩) (by exact hS) ?rsR4x27
 case hyR4x27=>(intro uz hSw;(try dsimp only at hSw);have q:=(HDX3.out.q hSw).cell 1 rfl;go_simp;try with_reducible rfl)
 try simp only [Act.put,sA,sB,sC]
 change wpAnyH _ _ _ _ _ _ #[tt,tt,tt,tt,tt,tt,tt,tt,tt,tt,tt,tt,tt,tt,tt,tt,tt,tt,tt,tt,tt,tt,tt,tt,tt,tt,tt,ff,ff,ff,ff,ff,ff,ff,ff,ff,ff,ff,ff,ff,ff,ff,ff,ff,ff,ff] _ _
 refine wpAnyH_take (i:=27) (v:=?vR4x28) (by (try simp only [gA,gB,gC]);rfl) (by kernel_rfl) (by kernel_rfl) (by kernel_rfl) (by exact fun _ _ _ h=>h) (Or.inl ⟨by first | kernel_rfl | rfl,?hyR4x28⟩) (by exact hS) ?rsR4x28
 case hyR4x28=>(intro uz hSw;(try dsimp only at hSw);go_simp;try with_reducible rfl)
 try simp only [Act.put,sA,sB,sC]
 change wpAnyH _ _ _ _ _ _ #[tt,tt,tt,tt,tt,tt,tt,tt,tt,tt,tt,tt,tt,tt,tt,tt,tt,tt,tt,tt,tt,tt,tt,tt,tt,tt,tt,tt,ff,ff,ff,ff,ff,ff,ff,ff,ff,ff,ff,ff,ff,ff,ff,ff,ff,ff] _ _
 refine wpAnyH_take (i:=28) (v:=?vR4x29) (by (try simp only [gA,gB,gC]);rfl) (by kernel_rfl) (by kernel_rfl) (by kernel_rfl) (by exact fun _ _ _ h=>h) (Or.inl ⟨by first | kernel_rfl | rfl,?hyR4x29⟩) (by exact hS) ?rsR4x29
 case hyR4x29=>(intro uz hSw;(try dsimp only at hSw);go_simp;try with_reducible rfl)
 try simp only [Act.put,sA,sB,sC]
 change wpAnyH _ _ _ _ _ _ #[tt,tt,tt,tt,tt,tt,tt,tt,tt,tt,tt,tt,tt,tt,tt,tt,tt,tt,tt,tt,tt,tt,tt,tt,tt,tt,tt,tt,tt,ff,ff,ff,ff,ff,ff,ff,ff,ff,ff,ff,ff,ff,ff,ff,ff,ff] _ _
 refine wpAnyH_take (i:=29) (v:=?vR4x30) (by (try simp only [gA,gB,gC]);rfl) (by kernel_rfl) (by kernel_rfl) (by kernel_rfl) (by exact fun _ _ _ h=>h) (Or.inl ⟨by first | kernel_rfl | rfl,?hyR4x30⟩) (by exact hS) ?rsR4x30
 case hyR4x30=>(intro uz hSw;(try dsimp only at hSw);have q:=(HDX3.out.q hSw).cell 3 rfl;go_simp;try with_reducible rfl)
 try simp only [Act.put,sA,sB,sC]
 change wpAnyH _ _ _ _ _ _ #[tt,tt,tt,tt,tt,tt,tt,tt,tt,tt,tt,tt,tt,tt,tt,tt,tt,tt,tt,tt,tt,tt,tt,tt,tt,tt,tt,tt,tt,tt,ff,ff,ff,ff,ff,ff,ff,ff,ff,ff,ff,ff,ff,ff,ff,ff] _ _
 refine wpAnyH_take (i:=30) (v:=?vR4x31) (by (try simp only [gA,gB,gC]);rfl) (by kernel_rfl) (by kernel_rfl) (by kernel_rfl) (by exact fun _ _ _ h=>h) (Or.inl ⟨by first | kernel_rfl | rfl,?hyR4x31⟩) (by exact hS) ?rsR4x31
 case hyR4x31=>(intro uz hSw;(try dsimp only at hSw);go_simp;try with_reducible rfl)
 try simp only [Act.put,sA,sB,sC]
 change wpAnyH _ _ _ _ _ _ #[tt,tt,tt,tt,tt,tt,tt,tt,tt,tt,tt,tt,tt,tt,tt,tt,tt,tt,tt,tt,tt,tt,tt,tt,tt,tt,tt,tt,tt,tt,tt,ff,ff,ff,ff,ff,ff,ff,ff,ff,ff,ff,ff,ff,ff,ff] _ _
 refine wpAnyH_take (i:=32) (v:=?vR4x32) (by (try simp only [gA,gB,gC]);rfl) (by kernel_rfl) (by kernel_rfl) (by kernel_rfl) (by exact fun _ _ _ h=>h) (Or.inl ⟨by first | kernel_rfl | rfl,?hyR4x32⟩) (by exact hS) ?rsR4x32
 case hyR4x32=>(intro uz hSw;(try dsimp only at hSw);refine ld_row (x:=.tmp 12) ?_ ?_ (HLX3.out.q hSw) Tryz.underlying34 (by exact infoL) <;> rfl)
 try simp only [Act.put,sA,sB,sC]
 change wpAnyH _ _ _ _ _ _ #[tt,tt,tt,tt,tt,tt,tt,tt,tt,tt,tt,tt,tt,tt,tt,tt,tt,tt,tt,tt,tt,tt,tt,tt,tt,tt,tt,tt,tt,tt,tt,ff,tt,ff,ff,ff,ff,ff,ff,ff,ff,ff,ff,ff,ff,ff] _ _
 refine wpAnyH_take (i:=33) (v:=?vR4x33) (by (try simp only [gA,gB,gC]);rfl) (by kernel_rfl) (by kernel_rfl) (by kernel_rfl) (by exact fun _ _ _ h=>h) (Or.inl ⟨by first | kernel_rfl | rfl,?hyR4x33⟩) (by exact hS) ?rsR4x33
 case hyR4x33=>(intro uz hSw;(try dsimp only at hSw);go_simp;try with_reducible rfl)
 try simp only [Act.put,sA,sB,sC]
 change wpAnyH _ _ _ _ _ _ #[tt,tt,tt,tt,tt,tt,tt,tt,tt,tt,tt,tt,tt,tt,tt,tt,tt,tt,tt,tt,tt,tt,tt,tt,tt,tt,tt,tt,tt,tt,tt,ff,tt,tt,ff,ff,ff,ff,ff,ff,ff,ff,ff,ff,ff,ff] _ _
 refine wpAnyH_take (i:=34) (v:=?vR4x34) (by (try simp only [gA,gB,gC]);rfl) (by kernel_rfl) (by kernel_rfl) (by kernel_rfl) (by exact fun _ _ _ h=>h) (Or.inl ⟨by first | kernel_rfl | rfl,?hyR4x34⟩) (by exact hS) ?rsR4x34
 case hyR4x34=>(intro uz hSw;(try dsimp only at hSw);have q:=(HDX3.out.q hSw).cell 1 rfl;go_simp;try with_reducible rfl)
 try simp only [Act.put,sA,sB,sC]
 change wpAnyH _ _ _ _ _ _ #[tt,tt,tt,tt,tt,tt,tt,tt,tt,tt,tt,tt,tt,tt,tt,tt,tt,tt,tt,tt,tt,tt,tt,tt,tt,tt,tt,tt,tt,tt,tt,ff,tt,tt,tt,ff,ff,ff,ff,ff,ff,ff,ff,ff,ff,ff] _ _
 refine wpAnyH_take (i:=35) (v:=?vR4x35) (by (try simp only [gA,gB,gC]);rfl) (by kernel_rfl) (by kernel_rfl) (by kernel_rfl) (by exact fun _ _ _ h=>h) (Or.inl ⟨by first | kernel_rfl | rfl,?hyR4x35⟩) (by exact hS) ?rsR4x35
 case hyR4x35=>(intro uz hSw;(try dsimp only at hSw);go_simp;try with_reducible rfl)
 try simp only [Act.put,sA,sB,sC]
 change wpAnyH _ _ _ _ _ _ #[tt,tt,tt,tt,tt,tt,tt,tt,tt,tt,tt,tt,tt,tt,tt,tt,tt,tt,tt,tt,tt,tt,tt,tt,tt,tt,tt,tt,tt,tt,tt,ff,tt,tt,tt,tt,ff,ff,ff,ff,ff,ff,ff,ff,ff,ff] _ _
 refine wpAnyH_take (i:=36) (v:=?vR4x36) (by (try simp only [gA,gB,gC]);rfl) (by kernel_rfl) (by kernel_rfl) (by kernel_rfl) (by exact fun _ _ _ h=>h) (Or.inl ⟨by first | kernel_rfl | rfl,?hyR4x36⟩) (by exact hS) ?rsR4x36
 case hyR4x36=>(intro uz hSw;(try dsimp only at hSw);go_simp;try with_reducible rfl)
 try simp only [Act.put,sA,sB,sC]
 change wpAnyH _ _ _ _ _ _ #[tt,tt,tt,tt,tt,tt,tt,tt,tt,tt,tt,tt,tt,tt,tt,tt,tt,tt,tt,tt,tt,tt,tt,tt,tt,tt,tt,tt,tt,tt,tt,ff,tt,tt,tt,tt,tt,ff,ff,ff,ff,ff,ff,ff,ff,ff] _ _
 refine wpAnyH_take (i:=37) (v:=?vR4x37) (by (try simp only [gA,gB,gC]);rfl) (by kernel_rfl) (by kernel_rfl) (by kernel_rfl) (by exact fun _ _ _ h=>h) (Or.inl ⟨by first | kernel_rfl | rfl,?hyR4x37⟩) (by exact hS) ?rsR4x37
 case hyR4x37=>(intro uz hSw;(try dsimp only at hSw);have q:=(HDX3.out.q hSw).cell 3 rfl;go_simp;try with_reducible rfl)
 try simp only [Act.put,sA,sB,sC]
 change wpAnyH _ _ _ _ _ _ #[tt,tt,tt,tt,tt,tt,tt,tt,tt,tt,tt,tt,tt,tt,tt,tt,tt,tt,tt,tt,tt,tt,tt,tt,tt,tt,tt,tt,tt,tt,tt,ff,tt,tt,tt,tt,tt,tt,ff,ff,ff,ff,ff,ff,ff,ff] _ _
 refine wpAnyH_take (i:=38) (v:=?vR4x38) (by (try simp only [gA,gB,gC]);rfl) (by kernel_rfl) (by kernel_rfl) (by kernel_rfl) (by exact fun _ _ _ h=>h) (Or.inl ⟨by first | kernel_rfl | rfl,?hyR4x38⟩) (by exact hS) ?rsR4x38
 case hyR4x38=>(intro uz hSw;(try dsimp only at hSw);go_simp;try with_reducible rfl)
 try simp only [Act.put,sA,sB,sC]
 change wpAnyH _ _ _ _ _ _ #[tt,tt,tt,tt,tt,tt,tt,tt,tt,tt,tt,tt,tt,tt,tt,tt,tt,tt,tt,tt,tt,tt,tt,tt,tt,tt,tt,tt,tt,tt,tt,ff,tt,tt,tt,tt,tt,tt,tt,ff,ff,ff,ff,ff,ff,ff] _ _
 refine wpAnyH_ready (rs:=[31]) (by kernel_rfl) (by simp) ?_
 refine (AllReadyH.cons (by (try simp only [gA,gB,gC]);rfl) (fun K hK=>?_) AllReadyH.nil)
 go_simp
 refine (B3.out _ hS).mono ?_
 rintro e yR4x39 ⟨rfl,hq⟩
 try (go_wp2_with fail)
 have hS2:=Q.trans hS hq
 refine hK.out _ _ (by exact hS2) (fun hHeld=>?_)
 clear hK K hHeld hS hq
 have hS:=hS2
 clear hS2
 try simp only [Act.put,sA,sB,sC]
 change wpAnyH _ _ _ _ _ _ #[tt,tt,tt,tt,tt,tt,tt,tt,tt,tt,tt,tt,tt,tt,tt,tt,tt,tt,tt,tt,tt,tt,tt,tt,tt,tt,tt,tt,tt,tt,tt,tt,tt,tt,tt,tt,tt,tt,tt,ff,ff,ff,ff,ff,ff,ff] _ _
 refine wpAnyH_ready (rs:=[39]) (by kernel_rfl) (by simp) ?_
 refine (AllReadyH.cons (by (try simp only [gA,gB,gC]);rfl) (fun K hK=>?_) AllReadyH.nil)
 go_simp
 refine (B4.out _ hS).mono ?_
 rintro e yR4x40 ⟨rfl,hq⟩
 try (go_wp2_with fail)
 have hS2:=Q.trans hS hq
 refine hK.out _ _ (by exact hS2) (fun hHeld=>?_)
 clear hK K hHeld hS hq
 have hS:=hS2
 clear hS2
 try simp only [Act.put,sA,sB,sC]
 change wpAnyH _ _ _ _ _ _ #[tt,tt,tt,tt,tt,tt,tt,tt,tt,tt,tt,tt,tt,tt,tt,tt,tt,tt,tt,tt,tt,tt,tt,tt,tt,tt,tt,tt,tt,tt,tt,tt,tt,tt,tt,tt,tt,tt,tt,tt,ff,ff,ff,ff,ff,ff] _ _
 refine wpAnyH_take (i:=40) (v:=?vR4x41) (by (try simp only [gA,gB,gC]);rfl) (by kernel_rfl) (by kernel_rfl) (by kernel_rfl) (by exact fun _ _ _ h=>h) (Or.inl ⟨by first | kernel_rfl | rfl,?hyR4x41⟩) (by exact hS) ?rsR4x41
 case hyR4x41=>(intro uz hSw;(try dsimp only at hSw);go_simp;try with_reducible rfl)
 try simp only [Act.put,sA,sB,sC]
 change wpAnyH _ _ _ _ _ _ #[tt,tt,tt,tt,tt,tt,tt,tt,tt,tt,tt,tt,tt,tt,tt,tt,tt,tt,tt,tt,tt,tt,tt,tt,tt,tt,tt,tt,tt,tt,tt,tt,tt,tt,tt,tt,tt,tt,tt,tt,tt,ff,ff,ff,ff,ff] _ _
 refine wpAnyH_take (i:=41) (v:=?vR4x42) (by (try simp only [gA,gB,gC]);rfl) (by kernel_rfl) (by kernel_rfl) (by kernel_rfl) (by exact fun _ _ _ h=>h) (Or.inl ⟨by first | kernel_rfl | rfl,?hyR4x42⟩) (by exact hS) ?rsR4x42
 case hyR4x42=>(intro uz hSw;(try dsimp only at hSw);go_simp;try with_reducible rfl)
 try simp only [Act.put,sA,sB,sC]
 change wpAnyH _ _ _ _ _ _ #[tt,tt,tt,tt,tt,tt,tt,tt,tt,tt,tt,tt,tt,tt,tt,tt,tt,tt,tt,tt,tt,tt,tt,tt,tt,tt,tt,tt,tt,tt,tt,tt,tt,tt,tt,tt,tt,tt,tt,tt,tt,tt,ff,ff,ff,ff] _ _
 refine wpAnyH_take (i:=42) (v:=?vR4x43) (by (try simp only [gA,gB,gC]);rfl) (by kernel_rfl) (by kernel_rfl) (by kernel_rfl) (by exact fun _ _ _ h=>h) (Or.inl ⟨by first | kernel_rfl | rfl,?hyR4x43⟩) (by exact hS) ?rsR4x43
 case hyR4x43=>(intro uz hSw;(try dsimp only at hSw);go_simp;try with_reducible rfl)
 try simp only [Act.put,sA,sB,sC]
 change wpAnyH _ _ _ _ _ _ #[tt,tt,tt,tt,tt,tt,tt,tt,tt,tt,tt,tt,tt,tt,tt,tt,tt,tt,tt,tt,tt,tt,tt,tt,tt,tt,tt,tt,tt,tt,tt,tt,tt,tt,tt,tt,tt,tt,tt,tt,tt,tt,tt,ff,ff,ff] _ _
 refine wpAnyH_ready (rs:=[43]) (by kernel_rfl) (by simp) ?_
 refine (AllReadyH.cons (by (try simp only [gA,gB,gC]);rfl) (fun K hK=>?_) AllReadyH.nil)
 go_simp
 refine (Vw.lives_any _).mono ?_
 rintro e yR4x44 ⟨rfl,hq⟩
 try (go_wp2_with fail)
 have hS2:=Q.trans hS hq
 refine hK.out _ _ (by exact hS2) (fun hHeld=>?_)
 clear hK K hHeld hS hq
 have hS:=hS2
 clear hS2
 try simp only [Act.put,sA,sB,sC]
 change wpAnyH _ _ _ _ _ _ #[tt,tt,tt,tt,tt,tt,tt,tt,tt,tt,tt,tt,tt,tt,tt,tt,tt,tt,tt,tt,tt,tt,tt,tt,tt,tt,tt,tt,tt,tt,tt,tt,tt,tt,tt,tt,tt,tt,tt,tt,tt,tt,tt,tt,ff,ff] _ _
 refine wpAnyH_take (i:=44) (v:=?vR4x45) (by (try simp only [gA,gB,gC]);rfl) (by kernel_rfl) (by kernel_rfl) (by kernel_rfl) (by exact fun _ _ _ h=>h) (Or.inl ⟨by first | kernel_rfl | rfl,?hyR4x45⟩) (by exact hS) ?rsR4x45
 case hyR4x45=>(intro uz hSw;(try dsimp only at hSw);go_simp;try with_reducible rfl)
 try simp only [Act.put,sA,sB,sC]
 change wpAnyH _ _ _ _ _ _ #[tt,tt,tt,tt,tt,tt,tt,tt,tt,tt,tt,tt,tt,tt,tt,tt,tt,tt,tt,tt,tt,tt,tt,tt,tt,tt,tt,tt,tt,tt,tt,tt,tt,tt,tt,tt,tt,tt,tt,tt,tt,tt,tt,tt,tt,ff] _ _
 refine wpAnyH_take (i:=45) (v:=?vR4x46) (by (try simp only [gA,gB,gC]);rfl) (by kernel_rfl) (by kernel_rfl) (by kernel_rfl) (by exact fun _ _ _ h=>h) (Or.inl ⟨by first | kernel_rfl | rfl,?hyR4x46⟩) (by exact hS) ?rsR4x46
 case hyR4x46=>(intro uz hSw;(try dsimp only at hSw);go_simp;try with_reducible rfl)
 try simp only [Act.put,sA,sB,sC]
 change wpAnyH _ _ _ _ _ _ #[tt,tt,tt,tt,tt,tt,tt,tt,tt,tt,tt,tt,tt,tt,tt,tt,tt,tt,tt,tt,tt,tt,tt,tt,tt,tt,tt,tt,tt,tt,tt,tt,tt,tt,tt,tt,tt,tt,tt,tt,tt,tt,tt,tt,tt,tt] _ _
 refine wpAnyH_done (by kernel_rfl) ?_ _
 have HQE:=Lib.hid (HQ2.out.trans (HQ3.out.trans hS))
 clear hS
 go_wp2_with fail
 go_ret
 exact ⟨rfl,HQE.out⟩
end Vw
end Go.Proofs.YtghfdapfnoeanaaGreatDoor
