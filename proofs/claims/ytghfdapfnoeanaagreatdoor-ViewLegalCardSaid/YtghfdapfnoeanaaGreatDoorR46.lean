/- begin: a view of a draft, made one that may be, by a locale, made of any, and the document's locale and draft. (and more) -/
import Derived.Test.YtghfdapfnoeanaaGreatDoorR00
import Derived.Test.YtghfdapfnoeanaaGreatDoorR02
import Derived.Test.YtghfdapfnoeanaaGreatDoorR01
import Derived.Test.YtghfdapfnoeanaaGreatDoorR08
import Derived.Test.YtghfdapfnoeanaaGreatDoorR37
import Derived.Test.YtghfdapfnoeanaaGreatDoorR39
import Derived.Test.YtghfdapfnoeanaaGreatDoorR12
import Derived.Test.YtghfdapfnoeanaaGreatDoorR04
import Derived.Test.YtghfdapfnoeanaaGreatDoorR36
import Derived.Test.YtghfdapfnoeanaaGreatDoorR25
import Derived.Test.YtghfdapfnoeanaaGreatDoorR06
import Derived.Test.YtghfdapfnoeanaaGreatDoorR28
import Derived.Test.YtghfdapfnoeanaaGreatDoorR30
import Derived.Test.YtghfdapfnoeanaaGreatDoorR32
import Derived.Test.YtghfdapfnoeanaaGreatDoorR44
import Derived.Test.YtghfdapfnoeanaaGreatDoorR40
import Derived.Test.YtghfdapfnoeanaaGreatDoorRows
import Derived.Test.YtghfdapfnoeanaaGreatDoorR35
import Derived.Test.YtghfdapfnoeanaaGreatDoorR03
import Derived.Laws.Rows
import Derived.Laws.Tables
import Derived.Laws.ResultCell
import Derived.Deep.RegionHeld
import Derived.Deep.Cut
import Derived.Deep.QuietTactic
import Derived.BigQuiet
set_option linter.unusedVariables false
set_option linter.unusedSimpArgs false
namespace Go.Proofs.YtghfdapfnoeanaaGreatDoor
open Go.RowKit
namespace Vw
open Um Im Vm Lo Ro
def VO (w:World) (B v:Nat) (r:Lm.Rec) (X:Pt.Pat) (d:Tm.T):Prop:=VB w B v (itm r X.pr X.se d (parP r (Ro.ahd d.g X)) (parP r (Ro.bhd d.g X))) (stp (itm r X.pr X.se d (parP r (Ro.ahd d.g X)) (parP r (Ro.bhd d.g X))) (parP r (Ro.ahd d.g X)).length) (Tm.ats d).length
theorem VO.q {w w':World} {B v:Nat} {r:Lm.Rec} {X:Pt.Pat} {d:Tm.T} (h:VO w B v r X d) (hq:Q w w'):VO w' B v r X d:=VB.q h hq
theorem VO_row {w:World} {B v b0:Nat} {r:Lm.Rec} {X:Pt.Pat} {d:Tm.T} (h:VO w B v r X d) (hb:b0 < B) (cs:Array Value):VO (w.setRow b0 cs) B v r X d:=VB_row h hb cs
theorem Own_row {w:World} {B b0:Nat} {v:Value} {zs:List Int} (h:Own w B v zs) (hb:b0 < B) (cs:Array Value):Own (w.setRow b0 cs) B v zs:=h.same fun g hg=>setRow_other w b0 g cs (by have:=(h.lt g hg).1;omega)
theorem infoD:(Tryz.prog.info? 26).map (·.size) = some 4:=by kernel_rfl
def zD:List Value:=[.bool false,.slice none 0 0,.bool false,.slice none 0 0]
theorem zD_sep:∀ (o:Nat) (k:Int) (t:ByteArray),zD[o]? = some (.int .i64 k) → zD[o + 1]? = some (.string t) → False:=by
 intro o k t h1 h2
 rcases Nat.lt_or_ge o 4 with h | h
 ·have:o = 0 ∨ o = 1 ∨ o = 2 ∨ o = 3:=by omega
  rcases this with rfl | rfl | rfl | rfl <;> simp [zD] at h1 h2
 ·rw [List.getElem?_eq_none (by simpa [zD] using h)] at h1;cases h1
theorem LL_rowD {u:World} {b0:Nat} {X:Pt.Pat} {a b c d:Value} (hz:Bk u b0 26 zD) (h:Ro.LL u X a b c d) (cs:Array Value):Ro.LL (u.setRow b0 cs) X a b c d :=
 ⟨LstP_aside h.1 hz zD_sep (It.row_same _ _ _),LstP_aside h.2.1 hz zD_sep (It.row_same _ _ _),LstP_aside h.2.2.1 hz zD_sep (It.row_same _ _ _),LstP_aside h.2.2.2 hz zD_sep (It.row_same _ _ _)⟩
theorem results_tmp_cells {fn:Func} {p q u:Tmp} {ty ty2:TypeId} (h:fn.results = #[.tmp u,.cell p ty,.cell q ty2]) (tmps:Array Value) (P:Program) (w:World) :
  (results fn tmps).run P w =
   ((asAddr (tmps.getD p undef)).run P w).andThen fun a w₁=>((loadVar ty a).run P w₁).andThen fun v w₂=>((asAddr (tmps.getD q undef)).run P w₂).andThen fun a2 w₃=>((loadVar ty2 a2).run P w₃).andThen fun v2 w₄=>.ok (.tuple #[tmps.getD u undef,v,v2]) w₄:=by
 simp only [results,h]
 simp [Sem.run_bind,Result.andThen]
theorem ret_3 {fn:Func} {p p2 q:Tmp} {T T2:TypeId} (h:fn.results = #[.tmp q,.cell p T,.cell p2 T2]) {R:Ending → World → Prop} {a:Act} {w:World} {g g2:Nat} {l l2:List Value} {x:Value} {fs fs2:_}
  (hu:Tryz.prog.underlying T = some (.struct fs)) (hi:(Tryz.prog.info? T).map (·.size) = some l.length)
  (hu2:Tryz.prog.underlying T2 = some (.struct fs2)) (hi2:(Tryz.prog.info? T2).map (·.size) = some l2.length)
  (hp:a.tmps.getD p undef = .pointer (some ⟨g,0,none⟩)) (hp2:a.tmps.getD p2 undef = .pointer (some ⟨g2,0,none⟩)) (hx:a.tmps.getD q undef = x) (hg:Bk w g T l) (hg2:Bk w g2 T2 l2) (hd:a.defers = []) (hR:R (.returned (.tuple #[x,.agg l.toArray,.agg l2.toArray])) w):bodyPost Tryz.prog fn R .ret a w:=by
 refine bodyPost_ret (v:=.tuple #[x,.agg l.toArray,.agg l2.toArray]) ?_ hd hR
 rw [results_tmp_cells h,hp,hp2,hx]
 simp [asAddr,Result.andThen,run_loadVar_row w g T T l.toArray (0,0) _ hg hu rfl (by rw [hi];simp),run_loadVar_row w g2 T2 T2 l2.toArray (0,0) _ hg2 hu2 rfl (by rw [hi2];simp)]
def Beg (w:World) (e:Ending) (w':World):Prop:=∃ (r:Lm.Rec) (X:Pt.Pat) (B v:Nat) (la lb lc ld:Value) (tg ts:Bool) (TI TF:List Int) (i1 i2:Option Addr) (k1 k2 j1 j2:Nat),
 It.LOk r X ∧ (∀ u,Calls Tryz.prog 27 #[recV r] u fun e w'=>∃ g a b c d cl,e = .returned (.tuple #[.pointer (some ⟨g,0,none⟩),Value.nilIface]) ∧ LB w' g r X a b c d cl ∧ Q u w') ∧
 Tm.may ⟨tg,TI,ts,TF⟩ = true ∧ TI.length = k1 ∧ TF.length = k2 ∧ k1 ≤ 12 ∧ k2 ≤ 6 ∧ Lst w' (.slice i1 k1 j1) TI ∧ Lst w' (.slice i2 k2 j2) TF ∧
 e = .returned (.tuple #[.pointer (some ⟨v,0,none⟩),lV r X la lb lc ld,.agg #[.bool tg,.slice i1 k1 j1,.bool ts,.slice i2 k2 j2]]) ∧ Ro.LL w' X la lb lc ld ∧ VO w' B v r X ⟨tg,TI,ts,TF⟩ ∧ Q w w'
set_option maxRecDepth 100000 in
set_option maxHeartbeats 6400000 in
theorem begin_any (g0 g1 g2 g3 g4 g5 n:Int) (dg ds:Bool) (e1 e2:Option Addr) (m1 m2 f1 f2:Nat) (DI DF:List Int) (w:World) (h0:-9223372036854775808 ≤ g0 ∧ g0 ≤ 9223372036854775807) (h1:-9223372036854775808 ≤ g1 ∧ g1 ≤ 9223372036854775807) (h2:-9223372036854775808 ≤ g2 ∧ g2 ≤ 9223372036854775807) (h3:-9223372036854775808 ≤ g3 ∧ g3 ≤ 9223372036854775807) (h4:-9223372036854775808 ≤ g4 ∧ g4 ≤ 9223372036854775807) (h5:-9223372036854775808 ≤ g5 ∧ g5 ≤ 9223372036854775807) (hn:-9223372036854775808 ≤ n ∧ n ≤ 9223372036854775807) (hi:Lst w (.slice e1 m1 f1) DI) (hf:Lst w (.slice e2 m2 f2) DF) (q1:DI.length = m1) (q2:DF.length = m2) (bi:∀ n ∈ DI,-9223372036854775808 ≤ n ∧ n ≤ 9223372036854775807) (bf:∀ n ∈ DF,-9223372036854775808 ≤ n ∧ n ≤ 9223372036854775807) :
  Calls Tryz.prog 9 #[.agg #[.int .i64 g0,.int .i64 g1,.int .i64 g2,.int .i64 g3,.int .i64 g4,.int .i64 g5],.int .i64 n,.agg #[.bool dg,.slice e1 m1 f1,.bool ds,.slice e2 m2 f2]] w (Beg w):=by
 have HLO:=Lib.hid (fun u=>It.locale_any g0 g1 g2 g3 g4 g5 n u h0 h1 h2 h3 h4 h5 hn)
 have hic:=hi.form0 q1
 obtain ⟨_,_,hv,hnc,hcm⟩:=hic
 cases hv
 have hfc:=hf.form0 q2
 obtain ⟨_,_,hv,hnf,hfm⟩:=hfc
 cases hv
 unfold maxLen at hcm hfm
 have HGD:=Lib.hid (fun u (q:Q w u)=>Tr.good_any dg ds e1 e2 m1 m2 f1 f2 DI DF u (hi.q q) (hf.q q) q1 q2 (by omega) (by omega) bi bf 12 6 (by omega) (by omega))
 have hgm:=Tm.gdT_may dg ds DI DF 12 6
 have hgl:=Tm.gdT_len dg ds DI DF 12 6
 generalize Tm.gdT dg ds DI DF 12 6 = D at *
 obtain ⟨tg,TI,ts,TF⟩:=D
 dsimp only at hgl
 have HGM:=Lib.hid hgm
 obtain ⟨k1,hk1⟩:∃ k,k = TI.length:=⟨_,rfl⟩
 obtain ⟨k2,hk2⟩:∃ k,k = TF.length:=⟨_,rfl⟩
 rw [← hk1,← hk2] at hgl
 have HK1:=Lib.hid hk1.symm
 have HK2:=Lib.hid hk2.symm
 obtain ⟨hb1,hb2⟩:=hgl
 clear hi hf q1 q2 bi bf hgm hk1 hk2 h0 h1 h2 h3 h4 h5 hn
 obtain ⟨y1,hy1⟩:∃ z,z = w.alloc (.cells #[.int .i64 g0,.int .i64 g1,.int .i64 g2,.int .i64 g3,.int .i64 g4,.int .i64 g5] 23):=⟨_,rfl⟩
 have hq1:Q w y1:=by rw [hy1];exact (Q.refl w).alloc _
 have hg1:Bk y1 w.heap.size 23 [.int .i64 g0,.int .i64 g1,.int .i64 g2,.int .i64 g3,.int .i64 g4,.int .i64 g5]:=by rw [hy1];exact Bk.new _ _ _
 have hs1:y1.heap.size = w.heap.size + 1:=by rw [hy1];simp
 obtain ⟨y2,hy2⟩:∃ z,z = y1.alloc (.cells #[.bool dg,.slice e1 m1 f1,.bool ds,.slice e2 m2 f2] 26):=⟨_,rfl⟩
 have hq2:Q y1 y2:=by rw [hy2];exact (Q.refl y1).alloc _
 have hd2:Bk y2 y1.heap.size 26 [.bool dg,.slice e1 m1 f1,.bool ds,.slice e2 m2 f2]:=by rw [hy2];exact Bk.new _ _ _
 have hs2:y2.heap.size = w.heap.size + 2:=by rw [hy2];simp;omega
 obtain ⟨y3,hy3⟩:∃ z,z = y2.alloc (.cells #[.string ⟨#[]⟩,.string ⟨#[]⟩,.string ⟨#[]⟩,.string ⟨#[]⟩,.string ⟨#[]⟩,.string ⟨#[]⟩,.string ⟨#[]⟩,.string ⟨#[]⟩,.slice none 0 0,.slice none 0 0,.slice none 0 0,.slice none 0 0,.int .i64 0,.int .i64 0,.int .i64 0,.int .i64 0,.int .i64 0] 34):=⟨_,rfl⟩
 have hq3:Q y2 y3:=by rw [hy3];exact (Q.refl y2).alloc _
 have hl3:Bk y3 y2.heap.size 34 zL:=by rw [hy3];exact Bk.new _ _ _
 have hs3:y3.heap.size = w.heap.size + 3:=by rw [hy3];simp;omega
 obtain ⟨z,hz⟩:∃ z,z = y3.alloc (.cells #[.bool false,.slice none 0 0,.bool false,.slice none 0 0] 26):=⟨_,rfl⟩
 have hq4:Q y3 z:=by rw [hz];exact (Q.refl y3).alloc _
 have hd4:Bk z y3.heap.size 26 zD:=by rw [hz];exact Bk.new _ _ _
 have hs4:z.heap.size = w.heap.size + 4:=by rw [hz];simp;omega
 have HQZ:=Lib.hid (hq1.trans (hq2.trans (hq3.trans hq4)))
 have HGZ:=Lib.hid (hg1.q (hq2.trans (hq3.trans hq4)))
 have HDZ:=Lib.hid (hd2.q (hq3.trans hq4))
 have HR1:=Lib.hid (hl3.q hq4)
 have HR2:=Lib.hid hd4
 have HZS:=Lib.hid hs4
 rw [hs1] at HDZ
 rw [hs2] at HR1
 rw [hs3] at HR2
 have hz2:z = ((((w.alloc (.cells #[.int .i64 g0,.int .i64 g1,.int .i64 g2,.int .i64 g3,.int .i64 g4,.int .i64 g5] 23)).alloc (.cells #[.bool dg,.slice e1 m1 f1,.bool ds,.slice e2 m2 f2] 26)).alloc (.cells #[.string ⟨#[]⟩,.string ⟨#[]⟩,.string ⟨#[]⟩,.string ⟨#[]⟩,.string ⟨#[]⟩,.string ⟨#[]⟩,.string ⟨#[]⟩,.string ⟨#[]⟩,.slice none 0 0,.slice none 0 0,.slice none 0 0,.slice none 0 0,.int .i64 0,.int .i64 0,.int .i64 0,.int .i64 0,.int .i64 0] 34)).alloc (.cells #[.bool false,.slice none 0 0,.bool false,.slice none 0 0] 26)):=by rw [hz,hy3,hy2,hy1]
 clear hq1 hq2 hq3 hq4 hg1 hd2 hl3 hd4 hs1 hs2 hs3 hs4 hz hy3 hy2 hy1
 go_enter Tryz.func9,Tryz.ntmps9
 go_upto_region 1 with fail
 rw [← hz2]
 clear hz2
 obtain ⟨bG,hbG⟩:∃ b,b = w.heap.size:=⟨_,rfl⟩
 obtain ⟨bD,hbD⟩:∃ b,b = w.heap.size + 1:=⟨_,rfl⟩
 obtain ⟨bR1,hbR1⟩:∃ b,b = w.heap.size + 2:=⟨_,rfl⟩
 obtain ⟨bR2,hbR2⟩:∃ b,b = w.heap.size + 3:=⟨_,rfl⟩
 have HZS2:=Lib.hid (show bR1 < z.heap.size ∧ bR2 < z.heap.size by have:=HZS.out;omega)
 have HWR1:=Lib.hid (show w.heap.size ≤ bR1 by omega)
 have HWR2:=Lib.hid (show w.heap.size ≤ bR2 by omega)
 have HN12:=Lib.hid (show bR1 ≠ bR2 by omega)
 have HN21:=Lib.hid (show bR2 ≠ bR1 by omega)
 try rw [show w.heap.size + 1 + 1 + 1 = w.heap.size + 3 from rfl]
 try rw [show w.heap.size + 1 + 1 = w.heap.size + 2 from rfl]
 rw [← hbR2,← hbR1,← hbD,← hbG]
 rw [← hbG] at HGZ
 rw [← hbD] at HDZ
 rw [← hbR1] at HR1
 rw [← hbR2] at HR2
 clear hbG hbD hbR1 hbR2
 have cg0:=HGZ.out.cell 0 rfl
 have cg1:=HGZ.out.cell 1 rfl
 have cg2:=HGZ.out.cell 2 rfl
 have cg3:=HGZ.out.cell 3 rfl
 have cg4:=HGZ.out.cell 4 rfl
 have cg5:=HGZ.out.cell 5 rfl
 go_wp2_with fail
 clear cg0 cg1 cg2 cg3 cg4 cg5
 refine (HLO.out _).mono ?_
 rintro e w1 ⟨v,r,X,rfl,hok,hnew,⟨a,b,c,d,rfl,hl1⟩,hq1⟩
 have HOK:=Lib.hid hok
 have HNA:=Lib.hid hnew
 have HNW:=Lib.hid hnew
 have HNV:=Lib.hid (fun Bo g a b c d cl u (hlb:LB u g r X a b c d cl) i1 i2 j1 j2 (h1:Own u Bo (.slice i1 k1 j1) TI) (h2:Own u Bo (.slice i2 k2 j2) TF)=>show Calls Tryz.prog 32 #[.pointer (some ⟨g,0,none⟩),.agg #[.bool tg,.slice i1 k1 j1,.bool ts,.slice i2 k2 j2]] u fun e w'=>∃ v,e = .returned (.pointer (some ⟨v,0,none⟩)) ∧ VO w' u.heap.size v r X ⟨tg,TI,ts,TF⟩ ∧ Q u w' from
  new_any g r X a b c d cl tg ts i1 i2 k1 k2 j1 j2 TI TF u hok hlb h1.lst h2.lst HK1.out HK2.out (by omega) (by omega) HGM.out)
 have HQ1:=Lib.hid (HQZ.out.trans hq1)
 have HD1:=Lib.hid (HDZ.out.q hq1)
 have HR11:=Lib.hid (HR1.out.q hq1)
 have HR21:=Lib.hid (HR2.out.q hq1)
 have HZ1:=Lib.hid (show bR1 < w1.heap.size ∧ bR2 < w1.heap.size by have:=HZS2.out;have:=hq1.le;omega)
 obtain ⟨a1,a2,rfl⟩:=hl1.1.shape
 obtain ⟨b1,b2,rfl⟩:=hl1.2.1.shape
 obtain ⟨c1,c2,rfl⟩:=hl1.2.2.1.shape
 obtain ⟨d1,d2,rfl⟩:=hl1.2.2.2.shape
 have HLL:=Lib.hid hl1
 have HLV:Hid (lV r X (.slice a1 X.pre.length a2) (.slice b1 X.suf.length b2) (.slice c1 X.npre.length c2) (.slice d1 X.nsuf.length d2) = .agg #[.string (Lm.bs r.nam),.string (Lm.bs r.pat),.string (Lm.bs r.sys),.string (Lm.bs r.dec),.string (Lm.bs r.grp),.string (Lm.bs r.min),.string (Lm.bs r.per),.string (Lm.bs r.cur),.slice a1 X.pre.length a2,.slice b1 X.suf.length b2,.slice c1 X.npre.length c2,.slice d1 X.nsuf.length d2,.int .i64 X.pr,.int .i64 X.se,.int .i64 X.mi,.int .i64 X.mf,.int .i64 X.xf]):=Lib.hid rfl
 have HRV:Hid (recV r = .agg #[.string (Lm.bs r.nam),.string (Lm.bs r.pat),.string (Lm.bs r.sys),.string (Lm.bs r.dec),.string (Lm.bs r.grp),.string (Lm.bs r.min),.string (Lm.bs r.per),.string (Lm.bs r.cur)]):=Lib.hid rfl
 rw [HRV.out] at HNW
 clear hl1 hok hnew HRV HR1 HR2 HDZ HLO HQZ hq1
 have HFE:=Lib.hid HLV.out.symm
 unfold lV
 generalize X.pre.length = n1 at *
 generalize X.suf.length = n2 at *
 generalize X.npre.length = n3 at *
 generalize X.nsuf.length = n4 at *
 generalize X.pr = p0 at *
 generalize X.se = p1 at *
 generalize X.mi = p2 at *
 generalize X.mf = p3 at *
 generalize X.xf = p4 at *
 generalize Lm.bs r.nam = s0 at *
 generalize Lm.bs r.pat = s1 at *
 generalize Lm.bs r.sys = s2 at *
 generalize Lm.bs r.dec = s3 at *
 generalize Lm.bs r.grp = s4 at *
 generalize Lm.bs r.min = s5 at *
 generalize Lm.bs r.per = s6 at *
 generalize Lm.bs r.cur = s7 at *
 obtain ⟨w2,hw2⟩:∃ z,z = w1.alloc (.cells #[.string s0,.string s1,.string s2,.string s3,.string s4,.string s5,.string s6,.string s7,.slice a1 n1 a2,.slice b1 n2 b2,.slice c1 n3 c2,.slice d1 n4 d2,.int .i64 p0,.int .i64 p1,.int .i64 p2,.int .i64 p3,.int .i64 p4] 34):=⟨_,rfl⟩
 have hq2:Q w1 w2:=by rw [hw2];exact (Q.refl _).alloc _
 have HX:=Lib.hid (show Bk w2 w1.heap.size 34 [.string s0,.string s1,.string s2,.string s3,.string s4,.string s5,.string s6,.string s7,.slice a1 n1 a2,.slice b1 n2 b2,.slice c1 n3 c2,.slice d1 n4 d2,.int .i64 p0,.int .i64 p1,.int .i64 p2,.int .i64 p3,.int .i64 p4] by rw [hw2];exact Bk.new _ _ _)
 have HQ2:=Lib.hid (HQ1.out.trans hq2)
 have HD2:=Lib.hid (HD1.out.q hq2)
 have HLL2:=Lib.hid (HLL.out.q hq2)
 have HR12:=Lib.hid (HR11.out.q hq2)
 have HR22:=Lib.hid (HR21.out.q hq2)
 obtain ⟨bW,hbW⟩:∃ b,b = w1.heap.size:=⟨_,rfl⟩
 have HNW1:=Lib.hid (show bW ≠ bR1 by have:=HZ1.out;omega)
 have HNW2:=Lib.hid (show bW ≠ bR2 by have:=HZ1.out;omega)
 have HZ2:=Lib.hid (show bR1 < w2.heap.size ∧ bR2 < w2.heap.size by have:=HZ1.out;have:=hq2.le;omega)
 rw [← hbW] at HX
 clear hq2 HLL HLV HD1 HR11 HR21
 go_upto_region 2 with fail
 rw [← hw2,← hbW]
 clear hw2 hbW
 have x0:=HD2.out.cell 0 rfl
 have x1:=HD2.out.cell 1 rfl
 have x2:=HD2.out.cell 2 rfl
 have x3:=HD2.out.cell 3 rfl
 go_wp2_with fail
 clear x0 x1 x2 x3
 refine (HGD.out _ HQ2.out).mono ?_
 rintro e w3 ⟨x,rfl,hx3,hq3⟩
 obtain ⟨i1,j1,i2,j2,rfl,hli,hlf⟩:=hx3
 dsimp only at hli hlf
 rw [HK1.out] at hli
 rw [HK2.out] at hlf
 have hic3:=hli.lst.form0 HK1.out
 obtain ⟨_,_,hv,hnc3,hcm3⟩:=hic3
 cases hv
 have hfc3:=hlf.lst.form0 HK2.out
 obtain ⟨_,_,hv,hnf3,hfm3⟩:=hfc3
 cases hv
 unfold maxLen at hcm3 hfm3
 have HI3:=Lib.hid (hli.mono (Nat.le_add_right w2.heap.size 2))
 have HF3:=Lib.hid (hlf.mono (Nat.le_add_right w2.heap.size 2))
 have HQ3:=Lib.hid (HQ2.out.trans hq3)
 have HX3:=Lib.hid (HX.out.q hq3)
 have HLL3:=Lib.hid (HLL2.out.q hq3)
 have HR13:=Lib.hid (HR12.out.q hq3)
 have HR23:=Lib.hid (HR22.out.q hq3)
 have HZ3:=Lib.hid (show bR1 < w3.heap.size ∧ bR2 < w3.heap.size by have:=HZ2.out;have:=hq3.le;omega)
 clear hli hlf hq3 HD2 HX HLL2 HR12 HR22
 obtain ⟨w4,hw4⟩:∃ z,z = w3.alloc (.cells #[.bool tg,.slice i1 k1 j1,.bool ts,.slice i2 k2 j2] 26):=⟨_,rfl⟩
 have hq4:Q w3 w4:=by rw [hw4];exact (Q.refl _).alloc _
 have HO4:=Lib.hid (show Bk w4 w3.heap.size 26 [.bool tg,.slice i1 k1 j1,.bool ts,.slice i2 k2 j2] by rw [hw4];exact Bk.new _ _ _)
 have HQ4:=Lib.hid (HQ3.out.trans hq4)
 have HX4:=Lib.hid (HX3.out.q hq4)
 have HLL4:=Lib.hid (HLL3.out.q hq4)
 have HI4:=Lib.hid (HI3.out.q hq4)
 have HF4:=Lib.hid (HF3.out.q hq4)
 have HR14:=Lib.hid (HR13.out.q hq4)
 have HR24:=Lib.hid (HR23.out.q hq4)
 obtain ⟨bO,hbO⟩:∃ b,b = w3.heap.size:=⟨_,rfl⟩
 have HNO1:=Lib.hid (show bO ≠ bR1 by have:=HZ3.out;omega)
 have HNO2:=Lib.hid (show bO ≠ bR2 by have:=HZ3.out;omega)
 obtain ⟨Bo,hBo⟩:∃ b,b = w2.heap.size:=⟨_,rfl⟩
 have HBB1:=Lib.hid (show bR1 < Bo by have:=HZ2.out;omega)
 have HBB2:=Lib.hid (show bR2 < Bo by have:=HZ2.out;omega)
 rw [← hbO] at HO4
 try rw [← hBo] at HI4
 try rw [← hBo] at HF4
 clear hq4 HX3 HLL3 HI3 HF3 HR13 HR23 hBo
 go_upto_region 3 with fail
 try rw [HK1.out,HK2.out]
 rw [← hw4,← hbO]
 clear hw4 hbO
 have r0:=HX4.out.cell 0 rfl
 have r1:=HX4.out.cell 1 rfl
 have r2:=HX4.out.cell 2 rfl
 have r3:=HX4.out.cell 3 rfl
 have r4:=HX4.out.cell 4 rfl
 have r5:=HX4.out.cell 5 rfl
 have r6:=HX4.out.cell 6 rfl
 have r7:=HX4.out.cell 7 rfl
 go_wp2_with fail
 clear r0 r1 r2 r3 r4 r5 r6 r7
 refine (HNW.out _).mono ?_
 rintro e w5 ⟨g,a,b,c,d,cl,rfl,hlb,hq5⟩
 have HLB:=Lib.hid hlb
 have HQ5:=Lib.hid (HQ4.out.trans hq5)
 have HBW:=Lib.hid (HX4.out.q hq5)
 have HBO:=Lib.hid (HO4.out.q hq5)
 have HLL:=Lib.hid (HLL4.out.q hq5)
 have HOI:=Lib.hid (HI4.out.q hq5)
 have HOF:=Lib.hid (HF4.out.q hq5)
 have HR1:=Lib.hid (HR14.out.q hq5)
 have HR2:=Lib.hid (HR24.out.q hq5)
 replace HNV:=Lib.hid (fun u (hlb:LB u g r X a b c d cl) (h1:Own u Bo (.slice i1 k1 j1) TI) (h2:Own u Bo (.slice i2 k2 j2) TF)=>HNV.out Bo g a b c d cl u hlb i1 i2 j1 j2 h1 h2)
 clear hlb hq5 HX4 HO4 HLL4 HI4 HF4 HR14 HR24 HNW
 go_upto_region 6 with fail
 refine wp_region_held_drew (S:=fun u=>Q w u ∧ Bk u bW 34 [.string s0,.string s1,.string s2,.string s3,.string s4,.string s5,.string s6,.string s7,.slice a1 n1 a2,.slice b1 n2 b2,.slice c1 n3 c2,.slice d1 n4 d2,.int .i64 p0,.int .i64 p1,.int .i64 p2,.int .i64 p3,.int .i64 p4] ∧ Bk u bO 26 [.bool tg,.slice i1 k1 j1,.bool ts,.slice i2 k2 j2]) (by kernel_rfl) (by exact ⟨HQ5.out.drew,HBW.out.q (Q.refl _).drew,HBO.out.q (Q.refl _).drew⟩) (fun hHeld=>?_)
 have hS:Q w w5.drew ∧ Bk w5.drew bW 34 [.string s0,.string s1,.string s2,.string s3,.string s4,.string s5,.string s6,.string s7,.slice a1 n1 a2,.slice b1 n2 b2,.slice c1 n3 c2,.slice d1 n4 d2,.int .i64 p0,.int .i64 p1,.int .i64 p2,.int .i64 p3,.int .i64 p4] ∧ Bk w5.drew bO 26 [.bool tg,.slice i1 k1 j1,.bool ts,.slice i2 k2 j2]:=hHeld
 clear hHeld
 have hq:Q w5 w5.drew:=(Q.refl _).drew
 have HLB:=Lib.hid (LB.q HLB.out hq)
 have HOI:=Lib.hid (Own.q HOI.out hq)
 have HOF:=Lib.hid (Own.q HOF.out hq)
 have HLL:=Lib.hid (Ro.LL.q HLL.out hq)
 have HR1:=Lib.hid (Bk.q HR1.out hq)
 have HR2:=Lib.hid (Bk.q HR2.out hq)
 clear hq
 generalize w5.drew = yR1x0 at *
 change wpAnyH _ _ _ _ _ _ #[ff,ff,ff,ff,ff,ff,ff,ff] _ _
 refine wpAnyH_take (i:=0) (v:=?vR1x1) (by (try simp only [gA,gB,gC]);rfl) (by kernel_rfl) (by kernel_rfl) (by kernel_rfl) (by exact fun _ _ _ h=>h) (Or.inl ⟨by first | kernel_rfl | rfl,?hyR1x1⟩) (by exact hS) ?rsR1x1
 case hyR1x1=>(intro uz hSw;(try dsimp only at hSw);go_simp;try with_reducible rfl)
 try simp only [Act.put,sA,sB,sC]
 change wpAnyH _ _ _ _ _ _ #[tt,ff,ff,ff,ff,ff,ff,ff] _ _
 refine wpAnyH_take (i:=1) (v:=?vR1x2) (by (try simp only [gA,gB,gC]);rfl) (by kernel_rfl) (by kernel_rfl) (by kernel_rfl) (by exact fun _ _ _ h=>h) (Or.inl ⟨by first | kernel_rfl | rfl,?hyR1x2⟩) (by exact hS) ?rsR1x2
 case hyR1x2=>(intro uz hSw;(try dsimp only at hSw);refine ld_row (x:=.tmp 10) ?_ ?_ hSw.2.2 Tryz.underlying26 (by exact infoD) <;> rfl)
 try simp only [Act.put,sA,sB,sC]
 change wpAnyH _ _ _ _ _ _ #[tt,tt,ff,ff,ff,ff,ff,ff] _ _
 refine wpAnyH_take (i:=3) (v:=?vR1x3) (by (try simp only [gA,gB,gC]);rfl) (by kernel_rfl) (by kernel_rfl) (by kernel_rfl) (by exact fun _ _ _ h=>h) (Or.inl ⟨by first | kernel_rfl | rfl,?hyR1x3⟩) (by exact hS) ?rsR1x3
 case hyR1x3=>(intro uz hSw;(try dsimp only at hSw);refine ld_row (x:=.tmp 9) ?_ ?_ hSw.2.1 Tryz.underlying34 (by exact infoL) <;> rfl)
 try simp only [Act.put,sA,sB,sC]
 change wpAnyH _ _ _ _ _ _ #[tt,tt,ff,tt,ff,ff,ff,ff] _ _
 refine wpAnyH_take (i:=4) (v:=?vR1x4) (by (try simp only [gA,gB,gC]);rfl) (by kernel_rfl) (by kernel_rfl) (by kernel_rfl) (by exact fun _ _ _ h=>h) (Or.inl ⟨by first | kernel_rfl | rfl,?hyR1x4⟩) (by exact hS) ?rsR1x4
 case hyR1x4=>(intro uz hSw;(try dsimp only at hSw);refine ld_row (x:=.tmp 10) ?_ ?_ hSw.2.2 Tryz.underlying26 (by exact infoD) <;> rfl)
 try simp only [Act.put,sA,sB,sC]
 change wpAnyH _ _ _ _ _ _ #[tt,tt,ff,tt,tt,ff,ff,ff] _ _
 refine wpAnyH_ready (rs:=[2]) (by kernel_rfl) (by simp) ?_
 refine (AllReadyH.cons (by (try simp only [gA,gB,gC]);rfl) (fun K hK=>?_) AllReadyH.nil)
 go_simp
 have HLT1:=Lib.hid HR1.out.lt
 have HLT2:=Lib.hid HR2.out.lt
 obtain ⟨Bv,hBv⟩:∃ b,b = yR1x0.heap.size:=⟨_,rfl⟩
 rw [← hBv] at HLT1 HLT2
 refine (HNV.out _ HLB.out HOI.out HOF.out).mono ?_
 rintro e yR1x5 ⟨vv,rfl,hvo,hq⟩
 rw [← hBv] at hvo
 have HVO:=Lib.hid hvo
 clear hvo hBv
 try (go_wp2_with fail)
 have HLB:=Lib.hid (LB.q HLB.out hq)
 have HOI:=Lib.hid (Own.q HOI.out hq)
 have HOF:=Lib.hid (Own.q HOF.out hq)
 have HLL:=Lib.hid (Ro.LL.q HLL.out hq)
 have HR1:=Lib.hid (Bk.q HR1.out hq)
 have HR2:=Lib.hid (Bk.q HR2.out hq)
 have hS2:=And.intro (hS.1.trans hq) (And.intro (hS.2.1.q hq) (hS.2.2.q hq))
 refine hK.out _ _ (by exact hS2) (fun hHeld=>?_)
 clear hK K hHeld hS hq
 have hS:=hS2
 clear hS2
 try simp only [Act.put,sA,sB,sC]
 change wpAnyH _ _ _ _ _ _ #[tt,tt,tt,tt,tt,ff,ff,ff] _ _
 refine wpAnyH_take (i:=5) (v:=?vR1x6) (by (try simp only [gA,gB,gC]);rfl) (by kernel_rfl) (by kernel_rfl) (by kernel_rfl) (by exact fun _ _ _ h=>h) (Or.inl ⟨by first | kernel_rfl | rfl,?hyR1x6⟩) (by exact hS) ?rsR1x6
 case hyR1x6=>(intro uz hSw;(try dsimp only at hSw);go_simp;try with_reducible rfl)
 try simp only [Act.put,sA,sB,sC]
 change wpAnyH _ _ _ _ _ _ #[tt,tt,tt,tt,tt,tt,ff,ff] _ _
 refine wpAnyH_ready (rs:=[6]) (by kernel_rfl) (by simp) ?_
 refine (AllReadyH.cons (by (try simp only [gA,gB,gC]);rfl) (fun K hK=>?_) AllReadyH.nil)
 rw [if_pos (by rfl)]
 refine wp_store_row 34 _ _ rfl bR1 #[.string s0,.string s1,.string s2,.string s3,.string s4,.string s5,.string s6,.string s7,.slice a1 n1 a2,.slice b1 n2 b2,.slice c1 n3 c2,.slice d1 n4 d2,.int .i64 p0,.int .i64 p1,.int .i64 p2,.int .i64 p3,.int .i64 p4] (by rfl) (by rfl) 34 _ HR1.out (by exact infoL) rfl (Rw.all1 (by rfl)) ?_
 have hS2:=And.intro (Rw.Q_row hS.1 HWR1.out #[.string s0,.string s1,.string s2,.string s3,.string s4,.string s5,.string s6,.string s7,.slice a1 n1 a2,.slice b1 n2 b2,.slice c1 n3 c2,.slice d1 n4 d2,.int .i64 p0,.int .i64 p1,.int .i64 p2,.int .i64 p3,.int .i64 p4]) (And.intro (Rw.Bk_other hS.2.1 HNW1.out #[.string s0,.string s1,.string s2,.string s3,.string s4,.string s5,.string s6,.string s7,.slice a1 n1 a2,.slice b1 n2 b2,.slice c1 n3 c2,.slice d1 n4 d2,.int .i64 p0,.int .i64 p1,.int .i64 p2,.int .i64 p3,.int .i64 p4]) (Rw.Bk_other hS.2.2 HNO1.out #[.string s0,.string s1,.string s2,.string s3,.string s4,.string s5,.string s6,.string s7,.slice a1 n1 a2,.slice b1 n2 b2,.slice c1 n3 c2,.slice d1 n4 d2,.int .i64 p0,.int .i64 p1,.int .i64 p2,.int .i64 p3,.int .i64 p4]))
 replace HLL:=Lib.hid (It.LL_row HR1.out HLL.out #[.string s0,.string s1,.string s2,.string s3,.string s4,.string s5,.string s6,.string s7,.slice a1 n1 a2,.slice b1 n2 b2,.slice c1 n3 c2,.slice d1 n4 d2,.int .i64 p0,.int .i64 p1,.int .i64 p2,.int .i64 p3,.int .i64 p4])
 replace HOI:=Lib.hid (Own_row HOI.out HBB1.out #[.string s0,.string s1,.string s2,.string s3,.string s4,.string s5,.string s6,.string s7,.slice a1 n1 a2,.slice b1 n2 b2,.slice c1 n3 c2,.slice d1 n4 d2,.int .i64 p0,.int .i64 p1,.int .i64 p2,.int .i64 p3,.int .i64 p4])
 replace HOF:=Lib.hid (Own_row HOF.out HBB1.out #[.string s0,.string s1,.string s2,.string s3,.string s4,.string s5,.string s6,.string s7,.slice a1 n1 a2,.slice b1 n2 b2,.slice c1 n3 c2,.slice d1 n4 d2,.int .i64 p0,.int .i64 p1,.int .i64 p2,.int .i64 p3,.int .i64 p4])
 replace HVO:=Lib.hid (VO_row HVO.out HLT1.out #[.string s0,.string s1,.string s2,.string s3,.string s4,.string s5,.string s6,.string s7,.slice a1 n1 a2,.slice b1 n2 b2,.slice c1 n3 c2,.slice d1 n4 d2,.int .i64 p0,.int .i64 p1,.int .i64 p2,.int .i64 p3,.int .i64 p4])
 replace HR2:=Lib.hid (Rw.Bk_other HR2.out HN21.out #[.string s0,.string s1,.string s2,.string s3,.string s4,.string s5,.string s6,.string s7,.slice a1 n1 a2,.slice b1 n2 b2,.slice c1 n3 c2,.slice d1 n4 d2,.int .i64 p0,.int .i64 p1,.int .i64 p2,.int .i64 p3,.int .i64 p4])
 replace HR1:=Lib.hid (Rw.Bk_row HR1.out [.string s0,.string s1,.string s2,.string s3,.string s4,.string s5,.string s6,.string s7,.slice a1 n1 a2,.slice b1 n2 b2,.slice c1 n3 c2,.slice d1 n4 d2,.int .i64 p0,.int .i64 p1,.int .i64 p2,.int .i64 p3,.int .i64 p4])
 refine hK.out _ _ (by exact hS2) (fun hHeld=>?_)
 clear hK K hHeld hS
 have hS:=hS2
 clear hS2
 generalize yR1x5.setRow bR1 #[.string s0,.string s1,.string s2,.string s3,.string s4,.string s5,.string s6,.string s7,.slice a1 n1 a2,.slice b1 n2 b2,.slice c1 n3 c2,.slice d1 n4 d2,.int .i64 p0,.int .i64 p1,.int .i64 p2,.int .i64 p3,.int .i64 p4] = yR1x7 at *
 try simp only [Act.put,sA,sB,sC]
 change wpAnyH _ _ _ _ _ _ #[tt,tt,tt,tt,tt,tt,tt,ff] _ _
 refine wpAnyH_ready (rs:=[7]) (by kernel_rfl) (by simp) ?_
 refine (AllReadyH.cons (by (try simp only [gA,gB,gC]);rfl) (fun K hK=>?_) AllReadyH.nil)
 rw [if_pos (by rfl)]
 refine wp_store_row 26 _ _ rfl bR2 #[.bool tg,.slice i1 k1 j1,.bool ts,.slice i2 k2 j2] (by rfl) (by rfl) 26 _ HR2.out (by exact infoD) rfl (Rw.all1 (by rfl)) ?_
 have hS2:=And.intro (Rw.Q_row hS.1 HWR2.out #[.bool tg,.slice i1 k1 j1,.bool ts,.slice i2 k2 j2]) (And.intro (Rw.Bk_other hS.2.1 HNW2.out #[.bool tg,.slice i1 k1 j1,.bool ts,.slice i2 k2 j2]) (Rw.Bk_other hS.2.2 HNO2.out #[.bool tg,.slice i1 k1 j1,.bool ts,.slice i2 k2 j2]))
 replace HLL:=Lib.hid (LL_rowD HR2.out HLL.out #[.bool tg,.slice i1 k1 j1,.bool ts,.slice i2 k2 j2])
 replace HOI:=Lib.hid (Own_row HOI.out HBB2.out #[.bool tg,.slice i1 k1 j1,.bool ts,.slice i2 k2 j2])
 replace HOF:=Lib.hid (Own_row HOF.out HBB2.out #[.bool tg,.slice i1 k1 j1,.bool ts,.slice i2 k2 j2])
 replace HVO:=Lib.hid (VO_row HVO.out HLT2.out #[.bool tg,.slice i1 k1 j1,.bool ts,.slice i2 k2 j2])
 replace HR1:=Lib.hid (Rw.Bk_other HR1.out HN12.out #[.bool tg,.slice i1 k1 j1,.bool ts,.slice i2 k2 j2])
 replace HR2:=Lib.hid (Rw.Bk_row HR2.out [.bool tg,.slice i1 k1 j1,.bool ts,.slice i2 k2 j2])
 refine hK.out _ _ (by exact hS2) (fun hHeld=>?_)
 clear hK K hHeld hS
 have hS:=hS2
 clear hS2
 generalize yR1x7.setRow bR2 #[.bool tg,.slice i1 k1 j1,.bool ts,.slice i2 k2 j2] = yR1x8 at *
 try simp only [Act.put,sA,sB,sC]
 change wpAnyH _ _ _ _ _ _ #[tt,tt,tt,tt,tt,tt,tt,tt] _ _
 refine wpAnyH_done (by kernel_rfl) ?_ _
 go_wp2_with fail
 refine ret_3 (l:=[.string s0,.string s1,.string s2,.string s3,.string s4,.string s5,.string s6,.string s7,.slice a1 n1 a2,.slice b1 n2 b2,.slice c1 n3 c2,.slice d1 n4 d2,.int .i64 p0,.int .i64 p1,.int .i64 p2,.int .i64 p3,.int .i64 p4]) (l2:=[.bool tg,.slice i1 k1 j1,.bool ts,.slice i2 k2 j2]) rfl Tryz.underlying34 (by exact infoL) Tryz.underlying26 (by exact infoD) rfl rfl rfl HR1.out HR2.out rfl ?_
 exact ⟨r,X,_,_,_,_,_,_,_,_,_,_,_,_,_,_,_,_,HOK.out,HNA.out,HGM.out,HK1.out,HK2.out,hb1,hb2,HOI.out.lst,HOF.out.lst,congrArg (fun q=>Ending.returned (.tuple #[.pointer (some ⟨vv,0,none⟩),q,.agg #[.bool tg,.slice i1 k1 j1,.bool ts,.slice i2 k2 j2]])) HFE.out,HLL.out,HVO.out,hS.1⟩
end Vw
end Go.Proofs.YtghfdapfnoeanaaGreatDoor
namespace Go.Proofs.YtghfdapfnoeanaaGreatDoor
open Go.RowKit
namespace Vw
open Um Im Vm Lo
theorem same_refl (va vb:Value) (xs:List Int) (w:World) (ha:Lst w va xs) (hb:Lst w vb xs) (hx:xs.length < 1099511627776) :
  Calls Tryz.prog 12 #[va,vb] w fun e w'=>e = .returned (.bool true) ∧ Q w w':=by
 refine (Ur.same_any va vb xs xs w ha hb hx hx).mono ?_
 rintro e w' ⟨rfl,hq⟩
 exact ⟨by simp,hq⟩
theorem liv_lok:It.LOk Lm.liv (Lm.pX 0):=It.few_of Lm.liv_ok (It.few_mk 0 (by omega))
def livL:List E:=itm Lm.liv (Lm.pX 0).pr (Lm.pX 0).se ⟨true,[1,2,3,4],true,[5]⟩ (parP Lm.liv (Ro.ahd true (Lm.pX 0))) (parP Lm.liv (Ro.bhd true (Lm.pX 0)))
theorem liv_text:(⟨(txI livL).toArray⟩:ByteArray) = ⟨#[45,49,44,50,51,52,46,53]⟩:=by
 have h:txI livL = [45,49,44,50,51,52,46,53]:=by decide +kernel
 rw [h]
theorem liv_stops:ns (stp livL (parP Lm.liv (Ro.ahd true (Lm.pX 0))).length) ((Tm.ats ⟨true,[1,2,3,4],true,[5]⟩).length + 1) = [1,2,4,5,6,7,8]:=by decide +kernel
set_option maxRecDepth 100000 in
set_option maxHeartbeats 2000000 in
theorem lives_any (w:World):Calls Tryz.prog 18 #[] w fun e w'=>e = .returned (.bool true) ∧ Q w w':=by
 have HN:Hid (∀ u,Calls Tryz.prog 27 #[.agg #[.string ⟨#[101,110]⟩,.string ⟨#[35,44,35,35,48,46,48,48]⟩,.string ⟨#[108,97,116,110]⟩,.string ⟨#[46]⟩,.string ⟨#[44]⟩,.string ⟨#[45]⟩,.string ⟨#[]⟩,.string ⟨#[]⟩]] u fun e w'=>∃ g a b c d cl,e = .returned (.tuple #[.pointer (some ⟨g,0,none⟩),Value.nilIface]) ∧ LB w' g Lm.liv (Lm.pX 0) a b c d cl ∧ SLst w' cl (Lm.clus Lm.liv (Lm.pX 0)) ∧ Q u w'):=Lib.hid (fun u=>new_ok Lm.liv (Lm.pX 0) u Lm.liv_ok par0)
 go_enter Tryz.func18,Tryz.ntmps18
 go_wp2_with fail
 refine (HN.out _).mono ?_
 rintro e w1 ⟨g,a,b,c,d,cl,rfl,hB,_,hq1⟩
 have HB:=Lib.hid hB
 obtain ⟨y,hy⟩:∃ y,y = w1.alloc (.cells #[.int .i64 1,.int .i64 2,.int .i64 3,.int .i64 4] 3):=⟨_,rfl⟩
 have hqy:Q w1 y:=by rw [hy];exact (Q.refl _).alloc _
 have hly:Lst y (.slice (some ⟨w1.heap.size,0,none⟩) 4 4) [1,2,3,4]:=by rw [hy];exact Lst.made _ [1,2,3,4] 4 rfl (by unfold maxLen;omega)
 obtain ⟨z,hz⟩:∃ z,z = y.alloc (.cells #[.int .i64 5] 3):=⟨_,rfl⟩
 have hqz:Q y z:=by rw [hz];exact (Q.refl _).alloc _
 have hlz:Lst z (.slice (some ⟨y.heap.size,0,none⟩) 1 1) [5]:=by rw [hz];exact Lst.made _ [5] 1 rfl (by unfold maxLen;omega)
 have hys:y.heap.size = w1.heap.size + 1:=by rw [hy];simp
 rw [hys] at hlz
 have HV:=Lib.hid (show Calls Tryz.prog 32 #[.pointer (some ⟨g,0,none⟩),.agg #[.bool true,.slice (some ⟨w1.heap.size,0,none⟩) 4 4,.bool true,.slice (some ⟨w1.heap.size + 1,0,none⟩) 1 1]] z fun e w'=>∃ v,e = .returned (.pointer (some ⟨v,0,none⟩)) ∧ VB w' z.heap.size v livL (stp livL (parP Lm.liv (Ro.ahd true (Lm.pX 0))).length) (Tm.ats ⟨true,[1,2,3,4],true,[5]⟩).length ∧ Q z w' from
  new_any g Lm.liv (Lm.pX 0) a b c d cl true true _ _ 4 1 4 1 [1,2,3,4] [5] z liv_lok (HB.out.q (hqy.trans hqz)) (hly.q hqz) hlz rfl rfl (by omega) (by omega) (by decide +kernel))
 have HQZ:=Lib.hid (hq1.trans (hqy.trans hqz))
 have hz2:z = (w1.alloc (.cells #[.int .i64 1,.int .i64 2,.int .i64 3,.int .i64 4] 3)).alloc (.cells #[.int .i64 5] 3):=by rw [hz,hy]
 clear hqy hly hqz hlz hys hz hy hB hq1 HB
 go_upto_region 4 with fail
 rw [hz2] at HV HQZ
 clear hz2
 go_wp2_with fail
 refine HV.out.mono ?_
 rintro e w3 ⟨v,rfl,hvb,hq3⟩
 have HT:=Lib.hid (text_any _ _ _ _ _ w3 hvb)
 have HS:=Lib.hid (stops_any _ _ _ _ _ w3 hvb (by decide +kernel))
 rw [liv_text] at HT
 rw [liv_stops] at HS
 have HQ3:=Lib.hid (HQZ.out.trans hq3)
 have hss:((⟨#[45,49,44,50,51,52,46,53]⟩:ByteArray).toList == (⟨#[45,49,44,50,51,52,46,53]⟩:ByteArray).toList) = true:=by simp
 clear hvb hq3
 go_wp2_with fail
 refine HT.out.mono ?_
 rintro e w4 ⟨rfl,rfl⟩
 go_wp2_with fail
 refine HS.out.mono ?_
 rintro e w5 ⟨u,rfl,ho,hq5⟩
 have hl2:=Lst.made w5 [1,2,4,5,6,7,8] 7 rfl (by unfold maxLen;omega)
 have hqa:Q w5 (w5.alloc (.cells (([1,2,4,5,6,7,8]:List Int).map (Value.int .i64)).toArray 3)):=(Q.refl _).alloc _
 have HE:=Lib.hid (same_refl u _ [1,2,4,5,6,7,8] _ (ho.lst.q hqa) hl2 (by decide))
 have HQ5:=Lib.hid (HQ3.out.trans (hq5.trans hqa))
 obtain ⟨ua,uc,rfl⟩:=ho.shape
 clear ho hl2 hqa hq5
 go_wp2_with fail
 refine HE.out.mono ?_
 rintro e w6 ⟨rfl,hq6⟩
 have HQ6:=Lib.hid (HQ5.out.trans hq6)
 clear hq6
 go_wp2_with fail
 go_ret
 exact ⟨rfl,HQ6.out⟩
end Vw
end Go.Proofs.YtghfdapfnoeanaaGreatDoor
