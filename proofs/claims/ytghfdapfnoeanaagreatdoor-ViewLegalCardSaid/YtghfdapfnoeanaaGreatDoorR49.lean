/- Stops rise; each is where a cluster begins, or the text ends, not just behind a group. (and more) -/
import Derived.Test.YtghfdapfnoeanaaGreatDoorR00
import Derived.Test.YtghfdapfnoeanaaGreatDoorR02
import Derived.Test.YtghfdapfnoeanaaGreatDoorR03
import Derived.Test.YtghfdapfnoeanaaGreatDoorR04
import Derived.Test.YtghfdapfnoeanaaGreatDoorR23
import Derived.Test.YtghfdapfnoeanaaGreatDoorR01
import Derived.Test.YtghfdapfnoeanaaGreatDoorR08
import Derived.Test.YtghfdapfnoeanaaGreatDoorR37
import Derived.Test.YtghfdapfnoeanaaGreatDoorR39
import Derived.Test.YtghfdapfnoeanaaGreatDoorR12
import Derived.Test.YtghfdapfnoeanaaGreatDoorR36
import Derived.Test.YtghfdapfnoeanaaGreatDoorR25
import Derived.Test.YtghfdapfnoeanaaGreatDoorR06
import Derived.Test.YtghfdapfnoeanaaGreatDoorR28
import Derived.Test.YtghfdapfnoeanaaGreatDoorR30
import Derived.Test.YtghfdapfnoeanaaGreatDoorR46
import Derived.Test.YtghfdapfnoeanaaGreatDoorR40
import Derived.Test.YtghfdapfnoeanaaGreatDoorR42
import Derived.Test.YtghfdapfnoeanaaGreatDoorRows
import Derived.Laws.Rows
import Derived.Laws.Tables
import Derived.Deep.RegionHeld
import Derived.Deep.Cut
import Derived.Deep.QuietTactic
import Derived.BigQuiet
set_option linter.unusedVariables false
set_option linter.unusedSimpArgs false
namespace Go.Proofs.YtghfdapfnoeanaaGreatDoor
open Go.RowKit
namespace Vw
open Um Cm Gm Im Vm Lo Ro
theorem any_take (l:List Int) (t:Int) (j:Nat) (hj:j < l.length):(l.take (j + 1)).any (· == t) = ((l.take j).any (· == t) || l.getD j 0 == t):=by
 rw [List.take_add_one,List.getElem?_eq_getElem hj,List.any_append,List.getD_eq_getElem?_getD,List.getElem?_eq_getElem hj]
 simp
set_option maxRecDepth 100000 in
set_option maxHeartbeats 8000000 in
theorem law_legal (g0 g1 g2 g3 g4 g5 n:Int) (dg ds:Bool) (e1 e2:Option Addr) (m1 m2 f1 f2:Nat) (DI DF:List Int)  (w:World) (h0:-9223372036854775808 ≤ g0 ∧ g0 ≤ 9223372036854775807) (h1:-9223372036854775808 ≤ g1 ∧ g1 ≤ 9223372036854775807) (h2:-9223372036854775808 ≤ g2 ∧ g2 ≤ 9223372036854775807) (h3:-9223372036854775808 ≤ g3 ∧ g3 ≤ 9223372036854775807) (h4:-9223372036854775808 ≤ g4 ∧ g4 ≤ 9223372036854775807) (h5:-9223372036854775808 ≤ g5 ∧ g5 ≤ 9223372036854775807) (hn:-9223372036854775808 ≤ n ∧ n ≤ 9223372036854775807) (hi:Lst w (.slice e1 m1 f1) DI) (hf:Lst w (.slice e2 m2 f2) DF) (q1:DI.length = m1) (q2:DF.length = m2) (bi:∀ n ∈ DI,-9223372036854775808 ≤ n ∧ n ≤ 9223372036854775807) (bf:∀ n ∈ DF,-9223372036854775808 ≤ n ∧ n ≤ 9223372036854775807) :
  Calls Tryz.prog 5 #[.agg #[.int .i64 g0,.int .i64 g1,.int .i64 g2,.int .i64 g3,.int .i64 g4,.int .i64 g5],.int .i64 n,.agg #[.bool dg,.slice e1 m1 f1,.bool ds,.slice e2 m2 f2]] w fun e w'=>e = .returned (.bool true) ∧ Q w w':=by
 have HBE:=Lib.hid (fun u (q:Q w u)=>begin_any g0 g1 g2 g3 g4 g5 n dg ds e1 e2 m1 m2 f1 f2 DI DF u h0 h1 h2 h3 h4 h5 hn (hi.q q) (hf.q q) q1 q2 bi bf)
 have hic:=hi.form0 q1
 obtain ⟨_,_,hv,hnc,hcm⟩:=hic
 cases hv
 have hfc:=hf.form0 q2
 obtain ⟨_,_,hv,hnf,hfm⟩:=hfc
 cases hv
 unfold maxLen at hcm hfm
 clear hi hf q1 q2 bi bf h0 h1 h2 h3 h4 h5 hn
 obtain ⟨y,hy⟩:∃ z,z = w.alloc (.cells #[.int .i64 g0,.int .i64 g1,.int .i64 g2,.int .i64 g3,.int .i64 g4,.int .i64 g5] 23):=⟨_,rfl⟩
 have hqy:Q w y:=by rw [hy];exact (Q.refl w).alloc _
 have hgy:Bk y w.heap.size 23 [.int .i64 g0,.int .i64 g1,.int .i64 g2,.int .i64 g3,.int .i64 g4,.int .i64 g5]:=by rw [hy];exact Bk.new _ _ _
 obtain ⟨z,hz⟩:∃ z,z = y.alloc (.cells #[.bool dg,.slice e1 m1 f1,.bool ds,.slice e2 m2 f2] 26):=⟨_,rfl⟩
 have hqz:Q y z:=by rw [hz];exact (Q.refl y).alloc _
 have HQZ:=Lib.hid (hqy.trans hqz)
 have HGZ:=Lib.hid (hgy.q hqz)
 have hsy:y.heap.size = w.heap.size + 1:=by rw [hy];simp
 have hdz:Bk z y.heap.size 26 [.bool dg,.slice e1 m1 f1,.bool ds,.slice e2 m2 f2]:=by rw [hz];exact Bk.new _ _ _
 rw [hsy] at hdz
 have HDZ:=Lib.hid hdz
 have hz2:z = (w.alloc (.cells #[.int .i64 g0,.int .i64 g1,.int .i64 g2,.int .i64 g3,.int .i64 g4,.int .i64 g5] 23)).alloc (.cells #[.bool dg,.slice e1 m1 f1,.bool ds,.slice e2 m2 f2] 26):=by rw [hz,hy]
 obtain ⟨bG,hbG⟩:∃ b,b = w.heap.size:=⟨_,rfl⟩
 obtain ⟨bE,hbE⟩:∃ b,b = w.heap.size + 1:=⟨_,rfl⟩
 clear hqy hgy hqz hsy hdz hz hy
 go_enter Tryz.func5,Tryz.ntmps5
 go_upto_region 1 with fail
 rw [← hz2,← hbE,← hbG]
 rw [← hbG] at HGZ
 rw [← hbE] at HDZ
 clear hz2 hbG hbE
 have cg0:=HGZ.out.cell 0 rfl
 have cg1:=HGZ.out.cell 1 rfl
 have cg2:=HGZ.out.cell 2 rfl
 have cg3:=HGZ.out.cell 3 rfl
 have cg4:=HGZ.out.cell 4 rfl
 have cg5:=HGZ.out.cell 5 rfl
 have cd0:=HDZ.out.cell 0 rfl
 have cd1:=HDZ.out.cell 1 rfl
 have cd2:=HDZ.out.cell 2 rfl
 have cd3:=HDZ.out.cell 3 rfl
 go_wp2_with fail
 clear cg0 cg1 cg2 cg3 cg4 cg5 cd0 cd1 cd2 cd3 HGZ HDZ
 refine (HBE.out _ HQZ.out).mono ?_
 rintro e w1 ⟨r,X,B,v,la,lb,lc,ld,tg,ts,TI,TF,i1,i2,k1,k2,j1,j2,hok,hnew,hmay,hk1,hk2,hb1,hb2,hli,hlf,rfl,hll,hvo,hq1⟩
 clear HBE
 obtain ⟨a1,a2,rfl⟩:=hll.1.shape
 obtain ⟨b1,b2,rfl⟩:=hll.2.1.shape
 obtain ⟨c1,c2,rfl⟩:=hll.2.2.1.shape
 obtain ⟨d1,d2,rfl⟩:=hll.2.2.2.shape
 have hic3:=hli.form0 hk1
 obtain ⟨_,_,hv,hnc3,hcm3⟩:=hic3
 cases hv
 have hfc3:=hlf.form0 hk2
 obtain ⟨_,_,hv,hnf3,hfm3⟩:=hfc3
 cases hv
 unfold maxLen at hcm3 hfm3
 have HOK:=Lib.hid hok
 have HMAY:=Lib.hid hmay
 have HK1:=Lib.hid hk1
 have HK2:=Lib.hid hk2
 have hqa:Q w1 ((w1.alloc (.cells #[.string ⟨#[]⟩,.string ⟨#[]⟩,.string ⟨#[]⟩,.string ⟨#[]⟩,.string ⟨#[]⟩,.string ⟨#[]⟩,.string ⟨#[]⟩,.string ⟨#[]⟩,.slice none 0 0,.slice none 0 0,.slice none 0 0,.slice none 0 0,.int .i64 0,.int .i64 0,.int .i64 0,.int .i64 0,.int .i64 0] 34)).alloc (.cells #[.bool false,.slice none 0 0,.bool false,.slice none 0 0] 26)):=((Q.refl w1).alloc _).alloc _
 have HL0:=Lib.hid (show Bk ((w1.alloc (.cells #[.string ⟨#[]⟩,.string ⟨#[]⟩,.string ⟨#[]⟩,.string ⟨#[]⟩,.string ⟨#[]⟩,.string ⟨#[]⟩,.string ⟨#[]⟩,.string ⟨#[]⟩,.slice none 0 0,.slice none 0 0,.slice none 0 0,.slice none 0 0,.int .i64 0,.int .i64 0,.int .i64 0,.int .i64 0,.int .i64 0] 34)).alloc (.cells #[.bool false,.slice none 0 0,.bool false,.slice none 0 0] 26)) w1.heap.size 34 zL from (Bk.new w1 _ zL).q ((Q.refl _).alloc _))
 have HD0:=Lib.hid (show Bk ((w1.alloc (.cells #[.string ⟨#[]⟩,.string ⟨#[]⟩,.string ⟨#[]⟩,.string ⟨#[]⟩,.string ⟨#[]⟩,.string ⟨#[]⟩,.string ⟨#[]⟩,.string ⟨#[]⟩,.slice none 0 0,.slice none 0 0,.slice none 0 0,.slice none 0 0,.int .i64 0,.int .i64 0,.int .i64 0,.int .i64 0,.int .i64 0] 34)).alloc (.cells #[.bool false,.slice none 0 0,.bool false,.slice none 0 0] 26)) (w1.heap.size + 1) 26 zD by
  have h:=Bk.new (w1.alloc (.cells #[.string ⟨#[]⟩,.string ⟨#[]⟩,.string ⟨#[]⟩,.string ⟨#[]⟩,.string ⟨#[]⟩,.string ⟨#[]⟩,.string ⟨#[]⟩,.string ⟨#[]⟩,.slice none 0 0,.slice none 0 0,.slice none 0 0,.slice none 0 0,.int .i64 0,.int .i64 0,.int .i64 0,.int .i64 0,.int .i64 0] 34)) 26 zD
  rwa [show (w1.alloc (.cells #[.string ⟨#[]⟩,.string ⟨#[]⟩,.string ⟨#[]⟩,.string ⟨#[]⟩,.string ⟨#[]⟩,.string ⟨#[]⟩,.string ⟨#[]⟩,.string ⟨#[]⟩,.slice none 0 0,.slice none 0 0,.slice none 0 0,.slice none 0 0,.int .i64 0,.int .i64 0,.int .i64 0,.int .i64 0,.int .i64 0] 34)).heap.size = w1.heap.size + 1 from by simp] at h)
 have HD1:=Lib.hid (Rw.Bk_other HD0.out (show w1.heap.size + 1 ≠ w1.heap.size by omega) #[.string (Lm.bs r.nam),.string (Lm.bs r.pat),.string (Lm.bs r.sys),.string (Lm.bs r.dec),.string (Lm.bs r.grp),.string (Lm.bs r.min),.string (Lm.bs r.per),.string (Lm.bs r.cur),.slice a1 X.pre.length a2,.slice b1 X.suf.length b2,.slice c1 X.npre.length c2,.slice d1 X.nsuf.length d2,.int .i64 X.pr,.int .i64 X.se,.int .i64 X.mi,.int .i64 X.mf,.int .i64 X.xf])
 obtain ⟨w2,hw2⟩:∃ u,u = (((w1.alloc (.cells #[.string ⟨#[]⟩,.string ⟨#[]⟩,.string ⟨#[]⟩,.string ⟨#[]⟩,.string ⟨#[]⟩,.string ⟨#[]⟩,.string ⟨#[]⟩,.string ⟨#[]⟩,.slice none 0 0,.slice none 0 0,.slice none 0 0,.slice none 0 0,.int .i64 0,.int .i64 0,.int .i64 0,.int .i64 0,.int .i64 0] 34)).alloc (.cells #[.bool false,.slice none 0 0,.bool false,.slice none 0 0] 26)).setRow w1.heap.size #[.string (Lm.bs r.nam),.string (Lm.bs r.pat),.string (Lm.bs r.sys),.string (Lm.bs r.dec),.string (Lm.bs r.grp),.string (Lm.bs r.min),.string (Lm.bs r.per),.string (Lm.bs r.cur),.slice a1 X.pre.length a2,.slice b1 X.suf.length b2,.slice c1 X.npre.length c2,.slice d1 X.nsuf.length d2,.int .i64 X.pr,.int .i64 X.se,.int .i64 X.mi,.int .i64 X.mf,.int .i64 X.xf]).setRow (w1.heap.size + 1) #[.bool tg,.slice i1 k1 j1,.bool ts,.slice i2 k2 j2]:=⟨_,rfl⟩
 have hq12:Q w1 w2:=by rw [hw2];exact Rw.Q_row (Rw.Q_row hqa (Nat.le_refl _) _) (Nat.le_succ _) _
 have HLX:=Lib.hid (show Bk w2 w1.heap.size 34 [.string (Lm.bs r.nam),.string (Lm.bs r.pat),.string (Lm.bs r.sys),.string (Lm.bs r.dec),.string (Lm.bs r.grp),.string (Lm.bs r.min),.string (Lm.bs r.per),.string (Lm.bs r.cur),.slice a1 X.pre.length a2,.slice b1 X.suf.length b2,.slice c1 X.npre.length c2,.slice d1 X.nsuf.length d2,.int .i64 X.pr,.int .i64 X.se,.int .i64 X.mi,.int .i64 X.mf,.int .i64 X.xf] by rw [hw2];exact Rw.Bk_other (Rw.Bk_row HL0.out [.string (Lm.bs r.nam),.string (Lm.bs r.pat),.string (Lm.bs r.sys),.string (Lm.bs r.dec),.string (Lm.bs r.grp),.string (Lm.bs r.min),.string (Lm.bs r.per),.string (Lm.bs r.cur),.slice a1 X.pre.length a2,.slice b1 X.suf.length b2,.slice c1 X.npre.length c2,.slice d1 X.nsuf.length d2,.int .i64 X.pr,.int .i64 X.se,.int .i64 X.mi,.int .i64 X.mf,.int .i64 X.xf]) (by omega) _)
 have HDX:=Lib.hid (show Bk w2 (w1.heap.size + 1) 26 [.bool tg,.slice i1 k1 j1,.bool ts,.slice i2 k2 j2] by rw [hw2];exact Rw.Bk_row HD1.out [.bool tg,.slice i1 k1 j1,.bool ts,.slice i2 k2 j2])
 have HQ2:=Lib.hid (HQZ.out.trans (hq1.trans hq12))
 have HLI:=Lib.hid (hli.q hq12)
 have HLF:=Lib.hid (hlf.q hq12)
 have HLL:=Lib.hid (hll.q hq12)
 have HVB:=Lib.hid (show VB w2 B v _ _ _ from VO.q hvo hq12)
 have hal:(Tm.ats ⟨tg,TI,ts,TF⟩).length = k1 + (Tm.sep ts).length + k2:=by rw [Tm.ats_len];dsimp only;rw [hk1,hk2]
 have hsl:=Tm.sep_len ts
 have hrw:=itm_rw hok hmay tg
 have hah:=itm_ahead r X.pr X.se ⟨tg,TI,ts,TF⟩ (parP r (Ro.ahd tg X)) (parP r (Ro.bhd tg X))
 have hil:=itm_len r X.pr X.se ⟨tg,TI,ts,TF⟩ (parP r (Ro.ahd tg X)) (parP r (Ro.bhd tg X))
 dsimp only at hil
 rw [hk1,hk2] at hil
 have hpl:=(Ro.around_fact hok.ok tg).2.2.1
 have hpl2:=(Ro.around_fact hok.ok tg).2.2.2
 have hdg:=Tm.may_dig hmay
 have hokt:=itm_okT hok (d:=⟨tg,TI,ts,TF⟩) hdg.1 hdg.2.1 tg
 have htx:=tx_len _ hokt
 have hz0:=tag_zero (p:=X.pr) (s:=X.se) (d:=⟨tg,TI,ts,TF⟩) (A:=parP r (Ro.ahd tg X)) (B:=parP r (Ro.bhd tg X)) (r:=r) (full_of hokt)
 dsimp only at HVB
 generalize itm r X.pr X.se ⟨tg,TI,ts,TF⟩ (parP r (Ro.ahd tg X)) (parP r (Ro.bhd tg X)) = L at *
 obtain ⟨a0,ha0⟩:∃ k,k = (parP r (Ro.ahd tg X)).length:=⟨_,rfl⟩
 rw [← ha0] at hah HVB hz0
 rw [hal] at hrw HVB
 obtain ⟨N,hN⟩:∃ N,N = k1 + (Tm.sep ts).length + k2:=⟨_,rfl⟩
 rw [← hN] at hrw HVB hal 
 have hNb:N ≤ 19:=by omega
 obtain ⟨nL,hnL⟩:∃ n,n = L.length:=⟨_,rfl⟩
 rw [← hnL] at hil htx
 have hnb:nL ≤ 41:=by omega
 have htb:(txI L).length ≤ 2624:=by omega
 have HNL:=Lib.hid hnL.symm
 have HTB:=Lib.hid htb
 have HNN:=Lib.hid hal
 have HRW:=Lib.hid hrw
 have hst:∀ i j,i < j → j ≤ N → stp L a0 i < stp L a0 j:=fun i j h1 h2=>stp_lt hrw hah h1 h2
 have HST:=Lib.hid hst
 have HSB:=Lib.hid (fun k (h:k ≤ N)=>Nat.le_trans (stp_le hrw hah h) htb)
 have HSP:=Lib.hid (fun u (q:Q w2 u)=>stops_any B v L (stp L a0) N u (HVB.out.q q) (by omega))
 have HTE:=Lib.hid (fun u (q:Q w2 u)=>text_any B v L (stp L a0) N u (HVB.out.q q))
 have HTG:=Lib.hid (fun u (q:Q w2 u) x=>tag_any B v L (stp L a0) N x u (HVB.out.q q) (by omega) (by omega))
 have HLE:=Lib.hid (fun u (q:Q w2 u)=>len_any B v L (stp L a0) N u (HVB.out.q q) (by omega))
 have HON:=Lib.hid (show ∀ k,k ≤ N → ((stp L a0 k:Nat):Int) ∈ stL1 (txI L) from fun k hk=>by
  have hp:∀ e ∈ L,pln e.2.1.data.toList = true:=fun e he=>(hokt e he).1
  cases k with
  | zero=>rw [stp_zero];exact off_begins L hp a0 hah.1
  | succ k =>
   obtain ⟨h1,_⟩:=hrw.ix_of (show k < N by omega)
   rw [stp_succ]
   exact off_begins L hp _ (by omega))
 have HT0:=Lib.hid hz0
 have HT1:=Lib.hid (fun k (hk:k < N)=>tag_stp (a0:=a0) hrw hk)
 clear hz0
 clear hli hlf hll hvo hq1 hq12 hqa HQZ hal hsl hrw hah hil hpl hpl2 hdg htx htb hokt hN hnL ha0 hst hok hmay hnew hk1 hk2
 unfold lV
 go_upto_region 2 with (first
  | refine wpList_store_row (by rfl) 34 _ _ (by rfl) w1.heap.size #[.string (Lm.bs r.nam),.string (Lm.bs r.pat),.string (Lm.bs r.sys),.string (Lm.bs r.dec),.string (Lm.bs r.grp),.string (Lm.bs r.min),.string (Lm.bs r.per),.string (Lm.bs r.cur),.slice a1 X.pre.length a2,.slice b1 X.suf.length b2,.slice c1 X.npre.length c2,.slice d1 X.nsuf.length d2,.int .i64 X.pr,.int .i64 X.se,.int .i64 X.mi,.int .i64 X.mf,.int .i64 X.xf] (by rfl) (by rfl) 34 _ HL0.out (by exact infoL) rfl (Rw.all1 (by rfl)) ?_
  | refine wpList_store_row (by rfl) 26 _ _ (by rfl) (w1.heap.size + 1) #[.bool tg,.slice i1 k1 j1,.bool ts,.slice i2 k2 j2] (by rfl) (by rfl) 26 _ HD1.out (by exact infoD) rfl (Rw.all1 (by rfl)) ?_)
 rw [← hw2]
 clear hw2 HL0 HD0 HD1
 obtain ⟨bL,hbL⟩:∃ b,b = w1.heap.size:=⟨_,rfl⟩
 obtain ⟨bD,hbD⟩:∃ b,b = w1.heap.size + 1:=⟨_,rfl⟩
 rw [← hbD] at HDX
 rw [← hbL] at HLX
 rw [← hbD,← hbL]
 clear hbD hbL
 go_wp2_with fail
 refine (HSP.out _ (Q.refl _)).mono ?_
 rintro e w3 ⟨sv,rfl,hs3,hq3⟩
 obtain ⟨sa,sc,rfl,_,_⟩:=hs3.lst.form0 (ns_len _ (N + 1))
 have HS3:=Lib.hid hs3.lst
 have HQ3:=Lib.hid hq3
 have HTE3:=Lib.hid (HTE.out _ hq3)
 clear hs3 hq3 HSP HTE
 have HST4:=Lib.hid (fun u=>Gr.starts_any ⟨(txI L).toArray⟩ u (by have:=HTB.out;simp [ByteArray.size];omega))
 have hdl:(⟨(txI L).toArray⟩:ByteArray).data.toList = txI L:=by simp
 rw [hdl] at HST4
 generalize (⟨(txI L).toArray⟩:ByteArray) = S at *
 clear hdl
 go_wp2_with fail
 refine HTE3.out.mono ?_
 rintro e _ ⟨rfl,rfl⟩
 go_wp2_with fail
 refine (HST4.out _).mono ?_
 rintro e w4 ⟨tv,rfl,ht4,hq4⟩
 obtain ⟨nS,hnS⟩:∃ n,n = (stL1 (txI L)).length:=⟨_,rfl⟩
 obtain ⟨ta,tc,rfl,htc1,htc2⟩:=ht4.lst.form0 hnS.symm
 unfold maxLen at htc2
 have HNS:=Lib.hid hnS.symm
 have HQ4:=Lib.hid (HQ3.out.trans hq4)
 have HS4:=Lib.hid (HS3.out.q hq4)
 have HT4:=Lib.hid ht4.lst
 have HVS:=Lib.hid (fun u (q:Q w4 u) k (h:k < nS)=>(HT4.out.q q).cellOf HNS.out h)
 have HVP:=Lib.hid (fun u (q:Q w4 u) k (h:k < N + 1)=>(HS4.out.q q).cellOf (ns_len _ (N + 1)) h)
 have HNA:=Lib.hid (fun k (h:k < N + 1)=>ns_at (stp L a0) h)
 clear ht4 hq4 HS3 HST4 HTE3 hnS
 go_wp2_with fail
 go_loopw [13] (fun i wr=>∃ k:Nat,i = .int .i64 k ∧ k ≤ N + 1 ∧ Q w4 wr) (fun i _=>N + 1 - (intOf i).toNat)
 case atStart=>exact ⟨0,rfl,by omega,Q.refl _⟩
 case round =>
  obtain ⟨k,rfl,hk,hq⟩:=hrel
  have HQ:=Lib.hid hq
  clear hq
  by_cases hlt:k < N + 1
  ·obtain ⟨_,_,_,hvv,_,_,_,y1⟩:=HVP.out _ HQ.out k hlt
   cases hvv
   rw [HNA.out k hlt] at y1
   have hkN:(k:Int) < (N:Int) + 1:=by omega
   have hon:=HON.out k (by omega)
   have HTK:=Lib.hid (fun u (q:Q w4 u) x=>HTG.out u (HQ4.out.trans q) x)
   have hup:∀ k',k = k' + 1 → ¬ ((stp L a0 k:Nat):Int) ≤ ((stp L a0 k':Nat):Int):=fun k' h=>by have:=HST.out k' k (by omega) (by omega);omega
   have hah:(k = 0 ∧ tag L (((stp L a0 k:Nat):Int) - 1) L.length ≠ 3) ∨ (0 < k ∧ (tag L (((stp L a0 k:Nat):Int) - 1) L.length = 2 ∨ tag L (((stp L a0 k:Nat):Int) - 1) L.length = 4)):=by
    cases k with
    | zero=>exact .inl ⟨rfl,HT0.out⟩
    | succ k=>exact .inr ⟨by omega,HT1.out k (by omega)⟩
   have HTM:=Lib.hid (fun u (q:Q w4 u)=>HTK.out u q (((stp L a0 k:Nat):Int) - 1))
   have HTZ:=Lib.hid (fun u (q:Q w4 u)=>HTK.out u q ((stp L a0 k:Nat):Int))
   have hsb:=HSB.out k (by omega)
   generalize tag L (((stp L a0 k:Nat):Int) - 1) L.length = x at *
   generalize tag L ((stp L a0 k:Nat):Int) L.length = y at *
   have HHAH:=Lib.hid hah
   have HON1:=Lib.hid hon
   clear hah hon HTK
   obtain ⟨t,ht⟩:∃ t,t = stp L a0 k:=⟨_,rfl⟩
   rw [← ht] at y1 hup HTM HTZ HON1 hsb
   clear ht
   rcases HHAH.out with ⟨hk0,hx⟩ | ⟨hk1,hx⟩
   ·subst hk0
    rw [Nat.add_zero] at y1
    clear hup
    go_wp2_with fail
    go_loopw [15,16] (fun o i wx=>∃ j:Nat,i = .int .i64 j ∧ j ≤ nS ∧ o = .bool (((stL1 (txI L)).take j).any (· == (t:Int))) ∧ Q wr wx) (fun _ i _=>nS - (intOf i).toNat)
    case atStart=>exact ⟨0,rfl,by omega,rfl,Q.refl _⟩
    case round =>
     obtain ⟨j,rfl,hj,rfl,hqx⟩:=hrel
     have HQX:=Lib.hid hqx
     clear hqx
     by_cases hlj:j < nS
     ·obtain ⟨_,_,_,hvv,_,_,_,z1⟩:=HVS.out _ (HQ.out.trans HQX.out) j hlj
      cases hvv
      have han:=any_take (stL1 (txI L)) (t:Int) j (by rw [HNS.out];exact hlj)
      obtain ⟨o2,ho2⟩:∃ b,b = ((stL1 (txI L)).take (j + 1)).any (· == (t:Int)):=⟨_,rfl⟩
      rw [← ho2] at han
      generalize (stL1 (txI L)).getD j 0 = q at *
      generalize ((stL1 (txI L)).take j).any (· == (t:Int)) = o at *
      have HO2:=Lib.hid ho2.symm
      clear ho2
      cases o
      ·cases hu:(q == (t:Int))
       ·rw [hu] at han
        have HAN:=Lib.hid han
        clear han
        go_wp2_with fail
        exact ⟨⟨j + 1,by go_num,by omega,by rw [HO2.out,HAN.out];rfl,HQX.out⟩,by simp [intOf];omega⟩
       ·rw [hu] at han
        have HAN:=Lib.hid han
        clear han
        go_wp2_with fail
        exact ⟨⟨j + 1,by go_num,by omega,by rw [HO2.out,HAN.out];rfl,HQX.out⟩,by simp [intOf];omega⟩
      ·have HAN:=Lib.hid (show o2 = true by rw [han];rfl)
       clear han
       go_wp2_with fail
       exact ⟨⟨j + 1,by go_num,by omega,by rw [HO2.out,HAN.out],HQX.out⟩,by simp [intOf];omega⟩
     ·obtain rfl:j = nS:=by omega
      have hany:((stL1 (txI L)).take j).any (· == (t:Int)) = true:=by rw [← HNS.out,List.take_length];exact List.any_eq_true.2 ⟨_,HON1.out,by simp⟩
      rw [hany]
      clear hany
      go_wp2_with fail
      refine (HTM.out _ (HQ.out.trans HQX.out)).mono ?_
      rintro e w5 ⟨rfl,hq5⟩
      have HQ5:=Lib.hid (HQ.out.trans (HQX.out.trans hq5))
      clear hq5
      have hx3:(x == 3) = false:=by rw [beq_eq_false_iff_ne];exact hx
      cases hx0:(x == 0)
      ·go_wp2_with fail
       exact ⟨⟨0 + 1,by go_num,by omega,HQ5.out⟩,by simp [intOf];try omega⟩
      ·go_wp2_with fail
       refine (HTZ.out _ HQ5.out).mono ?_
       rintro e w6 ⟨rfl,hq6⟩
       have HQ6:=Lib.hid (HQ5.out.trans hq6)
       clear hq6
       cases hy0:(y == 0)
       ·go_wp2_with fail
        exact ⟨⟨0 + 1,by go_num,by omega,HQ6.out⟩,by simp [intOf];try omega⟩
       ·go_wp2_with fail
        exact ⟨⟨0 + 1,by go_num,by omega,HQ6.out⟩,by simp [intOf];try omega⟩
   ·obtain ⟨k',hk'⟩:∃ q,k = q + 1:=⟨k - 1,by omega⟩
    have hle:=hup k' hk'
    obtain ⟨_,_,_,hvv,_,_,_,y2⟩:=HVP.out _ HQ.out k' (by omega)
    cases hvv
    rw [HNA.out k' (by omega)] at y2
    generalize stp L a0 k' = p at *
    have hke:(k:Int) - 1 = (k':Int):=by omega
    have hmx:max (k':Int) 0 = (k':Int):=by omega
    have hkk:(k':Int) < (N:Int) + 1:=by omega
    have hk2:(0:Int) < (k:Int):=by omega
    have hle2:(p:Int) < (t:Int):=by omega
    have HK:=Lib.hid hk'
    clear hup hk'
    go_wp2_with fail
    go_loopw [15,16] (fun o i wx=>∃ j:Nat,i = .int .i64 j ∧ j ≤ nS ∧ o = .bool (((stL1 (txI L)).take j).any (· == (t:Int))) ∧ Q wr wx) (fun _ i _=>nS - (intOf i).toNat)
    case atStart=>exact ⟨0,rfl,by omega,rfl,Q.refl _⟩
    case round =>
     obtain ⟨j,rfl,hj,rfl,hqx⟩:=hrel
     have HQX:=Lib.hid hqx
     clear hqx
     by_cases hlj:j < nS
     ·obtain ⟨_,_,_,hvv,_,_,_,z1⟩:=HVS.out _ (HQ.out.trans HQX.out) j hlj
      cases hvv
      have han:=any_take (stL1 (txI L)) (t:Int) j (by rw [HNS.out];exact hlj)
      obtain ⟨o2,ho2⟩:∃ b,b = ((stL1 (txI L)).take (j + 1)).any (· == (t:Int)):=⟨_,rfl⟩
      rw [← ho2] at han
      generalize (stL1 (txI L)).getD j 0 = q at *
      generalize ((stL1 (txI L)).take j).any (· == (t:Int)) = o at *
      have HO2:=Lib.hid ho2.symm
      clear ho2
      cases o
      ·cases hu:(q == (t:Int))
       ·rw [hu] at han
        have HAN:=Lib.hid han
        clear han
        go_wp2_with fail
        exact ⟨⟨j + 1,by go_num,by omega,by rw [HO2.out,HAN.out];rfl,HQX.out⟩,by simp [intOf];omega⟩
       ·rw [hu] at han
        have HAN:=Lib.hid han
        clear han
        go_wp2_with fail
        exact ⟨⟨j + 1,by go_num,by omega,by rw [HO2.out,HAN.out];rfl,HQX.out⟩,by simp [intOf];omega⟩
      ·have HAN:=Lib.hid (show o2 = true by rw [han];rfl)
       clear han
       go_wp2_with fail
       exact ⟨⟨j + 1,by go_num,by omega,by rw [HO2.out,HAN.out],HQX.out⟩,by simp [intOf];omega⟩
     ·obtain rfl:j = nS:=by omega
      have hany:((stL1 (txI L)).take j).any (· == (t:Int)) = true:=by rw [← HNS.out,List.take_length];exact List.any_eq_true.2 ⟨_,HON1.out,by simp⟩
      rw [hany]
      clear hany
      go_wp2_with fail
      refine (HTM.out _ (HQ.out.trans HQX.out)).mono ?_
      rintro e w5 ⟨rfl,hq5⟩
      have HQ5:=Lib.hid (HQ.out.trans (HQX.out.trans hq5))
      clear hq5
      rcases hx with rfl | rfl
      ·go_wp2_with fail
       exact ⟨⟨k + 1,by go_num,by omega,HQ5.out⟩,by simp [intOf];try omega⟩
      ·go_wp2_with fail
       exact ⟨⟨k + 1,by go_num,by omega,HQ5.out⟩,by simp [intOf];try omega⟩
  ·obtain rfl:k = N + 1:=by omega
   have HQF:=Lib.hid (HQ2.out.trans (HQ4.out.trans HQ.out))
   have HLN:=Lib.hid (HLE.out _ (HQ4.out.trans HQ.out))
   have hNN:((N:Int) + 1 == (N:Int) + 1) = true:=by simp
   go_wp2_with fail
   refine HLN.out.mono ?_
   rintro e _ ⟨rfl,rfl⟩
   go_wp2_with fail
   refine (Vw.lives_any _).mono ?_
   rintro e wz ⟨rfl,hqz⟩
   have HQW:=Lib.hid (HQF.out.trans hqz)
   clear hqz
   go_wp2_with fail
   go_ret
   exact ⟨rfl,HQW.out⟩
end Vw
end Go.Proofs.YtghfdapfnoeanaaGreatDoor
