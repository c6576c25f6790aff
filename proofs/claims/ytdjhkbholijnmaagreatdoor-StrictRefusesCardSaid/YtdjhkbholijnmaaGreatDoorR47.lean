/- Which texts are shown, and their drafts, is told as the document says. (and more) -/
import Derived.Test.YtdjhkbholijnmaaGreatDoorR43
import Derived.Test.YtdjhkbholijnmaaGreatDoorR41
set_option linter.all false
set_option maxRecDepth 100000
set_option maxHeartbeats 8000000
namespace Go.Proofs.YtdjhkbholijnmaaGreatDoor
section
open Go.RowKit
namespace Sp
open Um Cm Gm Im Lo Sx Tm
theorem Own_rowT {w:World} {B g:Nat} {v:Value} {zs:List Int} {ty:TypeId} {l:List Value} (h:Own w B v zs) (hb:Bk w g ty l) (ht:ty ≠ 3) (cs:Array Value):Own (w.setRow g cs) B v zs :=
 h.same fun b hv=>setRow_other w g b cs (by
  rintro rfl;obtain ⟨cur,hc⟩:=h.cells _ hv;unfold Bk at hb;rw [hb] at hc;simp at hc;exact ht hc.2)
theorem sown_bk {u:World} {b B n:Nat} {zs:List ByteArray} (hb:Bk u b 9 (zs.map Value.string)) (hn:zs.length = n) (hm:n <= maxLen) (hB:B <= b):SOwn u B (.slice (some ⟨b,0,none⟩) n n) zs:=by
 subst hn;exact ⟨by simp,.inr ⟨b,zs.length,_,rfl,hB,hb,Nat.le_refl _,hm,by simp,List.take_of_length_le (by simp)⟩⟩
theorem sym_small {r:Lm.Rec} {X:Pt.Pat} (h:Lm.Ok r X):(Lm.bs r.grp).size <= 16 /\ (Lm.bs r.dec).size <= 16 /\ (Lm.bs r.min).size <= 16:=by
 have e:∀ l:List UInt8,(Lm.bs l).size = l.length:=fun l=>by unfold Lm.bs;simp [ByteArray.size]
 rw [e,e,e];refine ⟨?_,(sym_pln h.dec).2,(sym_pln h.min).2⟩;by_cases hp:0 < X.pr
 ·exact (sym_pln (h.grp1 hp)).2
 ·rw [h.grp0 hp];exact Nat.zero_le _
theorem law_refuses (g0 g1 g2 g3 g4 g5 n:Int) (dg ds:Bool) (e1 e2:Option Addr) (m1 m2 f1 f2:Nat) (DI DF:List Int) (s:ByteArray) (at_ ch:Int) (w:World) (h0:-9223372036854775808 <= g0 /\ g0 <= 9223372036854775807) (h1:-9223372036854775808 <= g1 /\ g1 <= 9223372036854775807) (h2:-9223372036854775808 <= g2 /\ g2 <= 9223372036854775807) (h3:-9223372036854775808 <= g3 /\ g3 <= 9223372036854775807) (h4:-9223372036854775808 <= g4 /\ g4 <= 9223372036854775807) (h5:-9223372036854775808 <= g5 /\ g5 <= 9223372036854775807) (hn:-9223372036854775808 <= n /\ n <= 9223372036854775807) (hi:Lst w (.slice e1 m1 f1) DI) (hf:Lst w (.slice e2 m2 f2) DF) (q1:DI.length = m1) (q2:DF.length = m2) (bi:∀ n ∈ DI,-9223372036854775808 <= n /\ n <= 9223372036854775807) (bf:∀ n ∈ DF,-9223372036854775808 <= n /\ n <= 9223372036854775807) (hs:s.size <= maxLen) (hat:-9223372036854775808 <= at_ /\ at_ <= 9223372036854775807) :
  Calls Tryz.prog 4 #[.agg #[.int .i64 g0,.int .i64 g1,.int .i64 g2,.int .i64 g3,.int .i64 g4,.int .i64 g5],.int .i64 n,.agg #[.bool dg,.slice e1 m1 f1,.bool ds,.slice e2 m2 f2],.string s,.int .i64 at_,.int .u8 ch] w fun e w'=>e = .returned (.bool true) /\ Q w w':=by
 have HBE:=Hd (fun u=>Sx.begin_any g0 g1 g2 g3 g4 g5 n u h0 h1 h2 h3 h4 h5 hn);have HFW:=Hd (fun u=>Ur.few_any s 40 u hs (by omega));rw [show ((40:Nat):Int) = 40 from rfl] at HFW;have hts:=Ur.few_size s 40;generalize Ur.few s 40 = t at *;have HFQ:=Hd (fun u=>(HFW.out u).mono fun e w' h=>show e = .returned (.string t) /\ Q u w' from ⟨h.1,by rw [<- h.2];exact Q.refl _⟩);have HA6:=Hd (fun u=>(Ur.around_any at_ 6 u hat.1 hat.2 (by omega) (by omega)).mono fun e w' h=>show e = .returned (.int .i64 (around at_ 6)) /\ Q u w' from ⟨h.1,by rw [<- h.2];exact Q.refl _⟩);have hj6:=around_bd at_ 6 (by omega);obtain ⟨j6,hj⟩:∃ k:Nat,around at_ 6 = (k:Int):=⟨(around at_ 6).toNat,by omega⟩;rw [hj] at hj6;simp only [hj] at HA6;have hj6b:j6 < 6:=by omega
 clear hs hj HFW hj6;have hic:=hi.form0 q1;obtain ⟨_,_,hv,hnc,hcm⟩:=hic;cases hv;have hfc:=hf.form0 q2;obtain ⟨_,_,hv,hnf,hfm⟩:=hfc;cases hv;unfold maxLen at hcm hfm;have HGD:=Hd (fun u (q:Q w u)=>Tr.good_any dg ds e1 e2 m1 m2 f1 f2 DI DF u (hi.q q) (hf.q q) q1 q2 (by omega) (by omega) bi bf 8 4 (by omega) (by omega));have hgm:=Tm.gdT_may dg ds DI DF 8 4;have hgl:=Tm.gdT_len dg ds DI DF 8 4;generalize Tm.gdT dg ds DI DF 8 4 = D0 at *;obtain ⟨tg,TI,ts,TF⟩:=D0;dsimp only at hgl;have HGM:=Hd hgm;obtain ⟨k1,hk1⟩:∃ k,k = TI.length:=⟨_,rfl⟩;obtain ⟨k2,hk2⟩:∃ k,k = TF.length:=⟨_,rfl⟩;rw [<- hk1,<- hk2] at hgl;have HK1:=Hd hk1.symm;have HK2:=Hd hk2.symm;obtain ⟨hb1,hb2⟩:=hgl;clear hgm hk1 hk2;clear hi hf q1 q2 bi bf h0 h1 h2 h3 h4 h5 hn hnc hcm hnf hfm;obtain ⟨y0,hy0⟩:∃ z,z = w.alloc (.cells #[.int .i64 g0,.int .i64 g1,.int .i64 g2,.int .i64 g3,.int .i64 g4,.int .i64 g5] 23):=⟨_,rfl⟩;have hq0:Q w y0:=by rw [hy0];exact (Q.refl _).alloc _
 have hs0:y0.heap.size = w.heap.size + 1:=by rw [hy0];simp
 have hc0:Bk y0 w.heap.size 23 [.int .i64 g0,.int .i64 g1,.int .i64 g2,.int .i64 g3,.int .i64 g4,.int .i64 g5]:=by rw [hy0];exact Bk.new _ _ _
 obtain ⟨y1,hy1⟩:∃ z,z = y0.alloc (.cells #[.bool dg,.slice e1 m1 f1,.bool ds,.slice e2 m2 f2] 26):=⟨_,rfl⟩;have hq1:Q y0 y1:=by rw [hy1];exact (Q.refl _).alloc _
 have hs1:y1.heap.size = w.heap.size + 2:=by rw [hy1];simp;omega
 have hc1:Bk y1 y0.heap.size 26 [.bool dg,.slice e1 m1 f1,.bool ds,.slice e2 m2 f2]:=by rw [hy1];exact Bk.new _ _ _
 rw [hs0] at hc1;have HQ:=Hd (hq0.trans hq1);have HGX:=Hd (hc0.q hq1);have HDX:=Hd hc1;have hz2:y1 = (w.alloc (.cells #[.int .i64 g0,.int .i64 g1,.int .i64 g2,.int .i64 g3,.int .i64 g4,.int .i64 g5] 23)).alloc (.cells #[.bool dg,.slice e1 m1 f1,.bool ds,.slice e2 m2 f2] 26):=by rw [hy1,hy0]
 obtain ⟨bG,hbbG⟩:∃ k,k = w.heap.size:=⟨_,rfl⟩;obtain ⟨bD,hbbD⟩:∃ k,k = w.heap.size + 1:=⟨_,rfl⟩;clear hq0 hs0 hc0 hy0 hq1 hs1 hc1 hy1;go_enter Tryz.func4,Tryz.ntmps4
 go_upto_region 1 with fail
 rw [<- hz2,<- hbbD,<- hbbG];rw [<- hbbG] at HGX;rw [<- hbbD] at HDX;clear hz2 hbbG hbbD;have xHGX0:=HGX.out.cell 0 rfl;have xHGX1:=HGX.out.cell 1 rfl;have xHGX2:=HGX.out.cell 2 rfl;have xHGX3:=HGX.out.cell 3 rfl;have xHGX4:=HGX.out.cell 4 rfl;have xHGX5:=HGX.out.cell 5 rfl;go_wp2_with fail
 clear xHGX0 xHGX1 xHGX2 xHGX3 xHGX4 xHGX5;clear HGX;refine (HBE.out _).mono ?_;rintro e w1 ⟨r,X,pv,vv,hok,rfl,⟨g,pa,pb,pc,pd,pcl,rfl,hpl⟩,⟨la,lb,lc,ld,rfl,hrl⟩,hq⟩;have HOK:=Hd hok;obtain ⟨a1,a2,rfl⟩:=hrl.1.shape;obtain ⟨b1,b2,rfl⟩:=hrl.2.1.shape;obtain ⟨c1,c2,rfl⟩:=hrl.2.2.1.shape;obtain ⟨d1,d2,rfl⟩:=hrl.2.2.2.shape;have HPA:=Hd (fun u (q:Q w1 u) s hs=>Sp.parse_any g r X pa pb pc pd pcl s u hok (hpl.q q) hs);have HIS:=Hd (fun u (q:Q w1 u) s hs=>Sp.is_any g r X pa pb pc pd pcl s u hok (hpl.q q) hs);have HTX:=Hd (fun u (q:Q w1 u) A B e1 e2 m1 m2 f1 f2 I F hi hf k1 k2 l1 l2 hm=>Rs.text_any r X _ _ _ _ A B e1 e2 m1 m2 f1 f2 I F u hok (hrl.q q) hi hf k1 k2 l1 l2 hm);have HRP:=Hd (fun u (q:Q w1 u) t ht=>Rs.parse_any r X _ _ _ _ t u hok (hrl.q q) ht);replace HQ:=Hd (Q.trans HQ.out hq);replace HDX:=Hd (Bk.q HDX.out hq);clear hq hpl hrl hok HBE;have HQ1:=Hd (Q.refl w1);obtain ⟨u1,hwu1⟩:∃ z,z = w1.alloc (.cells #[.string (Lm.bs r.nam),.string (Lm.bs r.pat),.string (Lm.bs r.sys),.string (Lm.bs r.dec),.string (Lm.bs r.grp),.string (Lm.bs r.min),.string (Lm.bs r.per),.string (Lm.bs r.cur),.slice a1 X.pre.length a2,.slice b1 X.suf.length b2,.slice c1 X.npre.length c2,.slice d1 X.nsuf.length d2,.int .i64 X.pr,.int .i64 X.se,.int .i64 X.mi,.int .i64 X.mf,.int .i64 X.xf] 34):=⟨_,rfl⟩;have hq:Q w1 u1:=by rw [hwu1];exact (Q.refl _).alloc _
 have HLX:=Hd (show Bk u1 w1.heap.size 34 [.string (Lm.bs r.nam),.string (Lm.bs r.pat),.string (Lm.bs r.sys),.string (Lm.bs r.dec),.string (Lm.bs r.grp),.string (Lm.bs r.min),.string (Lm.bs r.per),.string (Lm.bs r.cur),.slice a1 X.pre.length a2,.slice b1 X.suf.length b2,.slice c1 X.npre.length c2,.slice d1 X.nsuf.length d2,.int .i64 X.pr,.int .i64 X.se,.int .i64 X.mi,.int .i64 X.mf,.int .i64 X.xf] by rw [hwu1];exact Bk.new _ _ _);obtain ⟨bL,hbbL⟩:∃ k,k = w1.heap.size:=⟨_,rfl⟩;rw [<- hbbL] at HLX;replace HQ:=Hd (Q.trans HQ.out hq);replace HDX:=Hd (Bk.q HDX.out hq);replace HQ1:=Hd (Q.trans HQ1.out hq);clear hq;go_upto_region 2 with fail
 unfold Ro.lV;rw [<- hwu1,<- hbbL];clear hwu1 hbbL;go_upto_region 4 with fail
 refine wp_region_held_drew (S:=fun u=>Q u1 u) (by kernel_rfl) (by exact (Q.refl u1).drew) (fun hHeld=>?_);have hS:Q u1 u1.drew:=hHeld;clear hHeld;have hq:Q u1 u1.drew:=(Q.refl _).drew;clear hq;generalize u1.drew = yR1x0 at *;change wpAnyH _ _ _ _ _ _ #[ff,ff,ff,ff,ff] _ _;refine tk 0 (by simp only [gA,gB,gC];rfl) (by first | kernel_rfl | rfl) (fun uz hSw=>by (try dsimp only at hSw);refine ld_row (x:=.tmp 14) ?_ ?_ (HLX.out.q hSw) Tryz.underlying34 (by exact Ro.infoL) <;> rfl) pq hS ?_
 try simp only [Act.put,sA,sB,sC]
 refine tk 1 (by simp only [gA,gB,gC];rfl) (by first | kernel_rfl | rfl) (fun uz hSw=>by (try dsimp only at hSw);refine ld_row (x:=.tmp 8) ?_ ?_ (HDX.out.q hSw) Tryz.underlying26 (by exact Rs.infoD) <;> rfl) pq hS ?_
 try simp only [Act.put,sA,sB,sC]
 refine wpAnyH_ready (rs:=[2]) (by kernel_rfl) (by simp) ?_;refine ar (by (try simp only [gA,gB,gC]);rfl) fun K hK=>?_;go_simp
 refine (HGD.out _ (HQ.out.trans hS)).mono ?_;rintro e yR1x3 ⟨x,rfl,hx3,hq⟩;obtain ⟨i1,j1,i2,j2,rfl,hli,hlf⟩:=hx3;dsimp only at hli hlf |-;rw [HK1.out] at hli |-;rw [HK2.out] at hlf |-;have HLI:=Hd hli.lst;have HLF:=Hd hlf.lst;clear hli hlf;try (go_wp2_with fail)
 have hS2:=Q.trans hS hq;refine hK.out _ _ (by exact hS2) (fun hHeld=>?_);clear hK K hHeld hS hq;have hS:=hS2;clear hS2;try simp only [Act.put,sA,sB,sC]
 refine wpAnyH_ready (rs:=[3]) (by kernel_rfl) (by simp) ?_;refine ar (by (try simp only [gA,gB,gC]);rfl) fun K hK=>?_;go_simp
 refine (HTX.out _ (HQ1.out.trans hS) tg ts i1 i2 k1 k2 j1 j2 TI TF HLI.out HLF.out HK1.out HK2.out (by omega) (by omega) HGM.out).mono ?_;rintro e yR1x4 ⟨rfl,hq⟩;try (go_wp2_with fail)
 have HLI:=Hd (Lst.q HLI.out hq);have HLF:=Hd (Lst.q HLF.out hq);have hS2:=Q.trans hS hq;refine hK.out _ _ (by exact hS2) (fun hHeld=>?_);clear hK K hHeld hS hq;have hS:=hS2;clear hS2;try simp only [Act.put,sA,sB,sC]
 refine tk 4 (by simp only [gA,gB,gC];rfl) (by first | kernel_rfl | rfl) (fun uz _=>by go_simp;try with_reducible rfl) pq hS ?_;try simp only [Act.put,sA,sB,sC]
 refine wpAnyH_done (by kernel_rfl) ?_ _;have hq:=hS;clear hS HLI HLF HTX HGD;generalize yR1x4 = v4 at *;clear HDX;replace HQ:=Hd (Q.trans HQ.out hq);replace HQ1:=Hd (Q.trans HQ1.out hq);replace HLX:=Hd (Bk.q HLX.out hq);clear hq;have hz:(tx r X ⟨tg,TI,ts,TF⟩).size <= 1728:=by
  have h:=tx_size HOK.out HGM.out;dsimp only at h;rw [HK1.out,HK2.out] at h;have h5:64 * (2 * k1 + k2 + 7) <= 64 * 27:=Nat.mul_le_mul_left _ (by omega);omega
 have hsy:=sym_small HOK.out.ok;generalize tx r X ⟨tg,TI,ts,TF⟩ = S at *;have HAK:=Hd (fun u=>Ur.around_any at_ ((S.size:Int) + 1) u hat.1 hat.2 (by omega) (by omega));have hkb:=around_bd at_ ((S.size:Int) + 1) (by omega);obtain ⟨k,hk⟩:∃ k:Nat,around at_ ((S.size:Int) + 1) = (k:Int):=⟨(around at_ ((S.size:Int) + 1)).toNat,by omega⟩;rw [hk] at hkb;simp only [hk] at HAK;have hkm:k <= S.size:=by omega
 clear hk hkb HGM HK1 HK2 hat;go_wp2_with fail
 refine (HAK.out _).mono ?_;rintro e _ ⟨rfl,rfl⟩;have xHLX3:=HLX.out.cell 3 rfl;have xHLX4:=HLX.out.cell 4 rfl;have xHLX5:=HLX.out.cell 5 rfl;obtain ⟨u2,hwu2⟩:∃ z,z = v4.alloc (.cells #[.string (Lm.bs r.grp),.string (Lm.bs r.dec),.string (Lm.bs r.min),.string ⟨#[204,129]⟩,.string ⟨#[48]⟩,.string ⟨#[120]⟩] 9):=⟨_,rfl⟩;have hq:Q v4 u2:=by rw [hwu2];exact (Q.refl _).alloc _
 have HMX:=Hd (show Bk u2 v4.heap.size 9 [.string (Lm.bs r.grp),.string (Lm.bs r.dec),.string (Lm.bs r.min),.string ⟨#[204,129]⟩,.string ⟨#[48]⟩,.string ⟨#[120]⟩] by rw [hwu2];exact Bk.new _ _ _);obtain ⟨bM,hbbM⟩:∃ k,k = v4.heap.size:=⟨_,rfl⟩;rw [<- hbbM] at HMX;replace HQ:=Hd (Q.trans HQ.out hq);replace HQ1:=Hd (Q.trans HQ1.out hq);replace HLX:=Hd (Bk.q HLX.out hq);clear hq;go_upto_region 7 with fail
 rw [<- hwu2,<- hbbM];clear hwu2 hbbM;clear xHLX3 xHLX4 xHLX5;obtain ⟨x6,hx6,hxm⟩:∃ x:ByteArray,x.size <= 16 /\ ∀ u,Q u2 u -> u.cell? ⟨bM,j6,none⟩ = some (.string x):=by
  have h6:j6 = 0 \/ j6 = 1 \/ j6 = 2 \/ j6 = 3 \/ j6 = 4 \/ j6 = 5:=by omega
  rcases h6 with rfl | rfl | rfl | rfl | rfl | rfl
  ·exact ⟨_,hsy.1,fun u q=>(HMX.out.q q).cell 0 rfl⟩
  ·exact ⟨_,hsy.2.1,fun u q=>(HMX.out.q q).cell 1 rfl⟩
  ·exact ⟨_,hsy.2.2,fun u q=>(HMX.out.q q).cell 2 rfl⟩
  ·exact ⟨⟨#[204,129]⟩,by decide,fun u q=>(HMX.out.q q).cell 3 rfl⟩
  ·exact ⟨⟨#[48]⟩,by decide,fun u q=>(HMX.out.q q).cell 4 rfl⟩
  ·exact ⟨⟨#[120]⟩,by decide,fun u q=>(HMX.out.q q).cell 5 rfl⟩
 have HME:=Hd hxm;have hA1:(S.extract 0 k).size = k:=by rw [ByteArray.size_extract];omega
 have hB1:(S.extract k S.size).size = S.size - k:=by rw [ByteArray.size_extract];omega
 obtain ⟨A,heA⟩:∃ A,S.extract 0 k = A:=⟨_,rfl⟩;obtain ⟨Bz,heB⟩:∃ B,S.extract k S.size = B:=⟨_,rfl⟩;rw [heA] at hA1;rw [heB] at hB1;have hsz1:k + x6.size <= 9223372036854775807:=by omega
 have hsz2:k + x6.size + (S.size - k) <= 9223372036854775807:=by omega
 have hsz3:¬ 9223372036854775807 < k + x6.size:=by omega
 have hsz4:¬ 9223372036854775807 < k + x6.size + (S.size - k):=by omega
 have hsz5:S.size + S.size <= 9223372036854775807:=by omega
 have hsz6:¬ 9223372036854775807 < S.size + S.size:=by omega
 have hkm1:(k:Int) <= (S.size:Int):=by omega
 have hjj:(j6:Int) < 6:=by omega
 clear hxm hsy;go_cut [18] (fun sl wx=>∃ (bS:Nat) (A C6 D6:ByteArray),sl = .slice (some ⟨bS,0,none⟩) 4 4 /\ SOwn wx u2.heap.size (.slice (some ⟨bS,0,none⟩) 4 4) [t,A,C6,D6] /\ (C6.size <= 5000 /\ D6.size <= 5000 /\ A.size <= 5000 /\ t.size <= 5000) /\ Q u2 wx)
 case first =>
  refine wp_region_held_drew (S:=fun u=>Q u2 u) (by kernel_rfl) (by exact (Q.refl u2).drew) (fun hHeld=>?_);have hS:Q u2 u2.drew:=hHeld;clear hHeld;have hq:Q u2 u2.drew:=(Q.refl _).drew;clear hq;generalize u2.drew = yR2x0 at *;change wpAnyH _ _ _ _ _ _ #[ff,ff,ff,ff,ff,ff,ff,ff,ff,ff,ff,ff,ff,ff,ff,ff,ff,ff,ff,ff,ff,ff,ff] _ _;refine tk 0 (by simp only [gA,gB,gC];rfl) (by first | kernel_rfl | rfl) (fun uz _=>by go_simp;try with_reducible rfl) pq hS ?_;try simp only [Act.put,sA,sB,sC]
  refine tk 2 (by simp only [gA,gB,gC];rfl) (by first | kernel_rfl | rfl) (fun uz _=>by go_simp;try with_reducible rfl) pq hS ?_;try simp only [Act.put,sA,sB,sC]
  refine tk 3 (by simp only [gA,gB,gC];rfl) (by first | kernel_rfl | rfl) (fun uz _=>by go_simp;try with_reducible rfl) pq hS ?_;try simp only [Act.put,sA,sB,sC]
  refine tk 4 (by simp only [gA,gB,gC];rfl) (by first | kernel_rfl | rfl) (fun uz _=>by go_simp;try with_reducible rfl) pq hS ?_;try simp only [Act.put,sA,sB,sC]
  refine tk 5 (by simp only [gA,gB,gC];rfl) (by first | kernel_rfl | rfl) (fun uz _=>by go_simp;try with_reducible rfl) pq hS ?_;try simp only [Act.put,sA,sB,sC]
  refine tk 6 (by simp only [gA,gB,gC];rfl) (by first | kernel_rfl | rfl) (fun uz _=>by go_simp;try with_reducible rfl) pq hS ?_;try simp only [Act.put,sA,sB,sC]
  refine tk 7 (by simp only [gA,gB,gC];rfl) (by first | kernel_rfl | rfl) (fun uz _=>by go_simp;try with_reducible rfl) pq hS ?_;try simp only [Act.put,sA,sB,sC]
  refine tk 8 (by simp only [gA,gB,gC];rfl) (by first | kernel_rfl | rfl) (fun uz _=>by go_simp;try with_reducible rfl) pq hS ?_;try simp only [Act.put,sA,sB,sC]
  refine tk 9 (by simp only [gA,gB,gC];rfl) (by first | kernel_rfl | rfl) (fun uz _=>by go_simp;try with_reducible rfl) pq hS ?_;try simp only [Act.put,sA,sB,sC]
  refine tk 14 (by simp only [gA,gB,gC];rfl) (by first | kernel_rfl | rfl) (fun uz _=>by go_simp;try with_reducible rfl) pq hS ?_;try simp only [Act.put,sA,sB,sC]
  refine tk 15 (by simp only [gA,gB,gC];rfl) (by first | kernel_rfl | rfl) (fun uz _=>by go_simp;try with_reducible rfl) pq hS ?_;try simp only [Act.put,sA,sB,sC]
  refine tk 16 (by simp only [gA,gB,gC];rfl) (by first | kernel_rfl | rfl) (fun uz _=>by go_simp;try with_reducible rfl) pq hS ?_;try simp only [Act.put,sA,sB,sC]
  refine tk 18 (by simp only [gA,gB,gC];rfl) (by first | kernel_rfl | rfl) (fun uz _=>by go_simp;try with_reducible rfl) pq hS ?_;try simp only [Act.put,sA,sB,sC]
  refine tk 19 (by simp only [gA,gB,gC];rfl) (by first | kernel_rfl | rfl) (fun uz _=>by go_simp;try with_reducible rfl) pq hS ?_;try simp only [Act.put,sA,sB,sC]
  refine tk 20 (by simp only [gA,gB,gC];rfl) (by first | kernel_rfl | rfl) (fun uz _=>by go_simp;try with_reducible rfl) pq hS ?_;try simp only [Act.put,sA,sB,sC]
  refine wpAnyH_ready (rs:=[1]) (by kernel_rfl) (by simp) ?_;refine ar (by (try simp only [gA,gB,gC]);rfl) fun K hK=>?_;go_simp
  refine (HFQ.out _).mono ?_;rintro e yR2x16 ⟨rfl,hq⟩;try (go_wp2_with fail)
  have hS2:=Q.trans hS hq;refine hK.out _ _ (by exact hS2) (fun hHeld=>?_);clear hK K hHeld hS hq;have hS:=hS2;clear hS2;try simp only [Act.put,sA,sB,sC]
  refine wpAnyH_ready (rs:=[10]) (by kernel_rfl) (by simp) ?_;refine ar (by (try simp only [gA,gB,gC]);rfl) fun K hK=>?_;go_simp
  refine (HA6.out _).mono ?_;rintro e yR2x17 ⟨rfl,hq⟩;try (go_wp2_with fail)
  have hS2:=Q.trans hS hq;refine hK.out _ _ (by exact hS2) (fun hHeld=>?_);clear hK K hHeld hS hq;have hS:=hS2;clear hS2;try simp only [Act.put,sA,sB,sC]
  refine tk 11 (by simp only [gA,gB,gC];rfl) (by first | kernel_rfl | rfl) (fun uz _=>by go_simp;try with_reducible rfl) pq hS ?_;try simp only [Act.put,sA,sB,sC]
  refine tk 12 (by simp only [gA,gB,gC];rfl) (by first | kernel_rfl | rfl) (fun uz hSw=>by (try dsimp only at hSw);have ce:=HME.out _ hSw;go_simp;try with_reducible rfl) pq hS ?_;try simp only [Act.put,sA,sB,sC]
  refine tk 13 (by simp only [gA,gB,gC];rfl) (by first | kernel_rfl | rfl) (fun uz _=>by go_simp;try with_reducible rfl) pq hS ?_;try simp only [Act.put,sA,sB,sC]
  refine tk 17 (by simp only [gA,gB,gC];rfl) (by first | kernel_rfl | rfl) (fun uz _=>by go_simp;try with_reducible rfl) pq hS ?_;try simp only [Act.put,sA,sB,sC]
  refine wpAnyH_ready (rs:=[21]) (by kernel_rfl) (by simp) ?_;refine ar (by (try simp only [gA,gB,gC]);rfl) fun K hK=>?_;go_simp
  have hq:=(Q.refl yR2x17).alloc (.cells #[.string t,.string A,.string (A ++ x6 ++ Bz),.string (S ++ S)] 9);have HAL:=Hd (Bk.new yR2x17 9 [.string t,.string A,.string (A ++ x6 ++ Bz),.string (S ++ S)]);have HW_bS:=Hd (Q.le hS);have hS2:=Q.trans hS hq;refine hK.out _ _ (by exact hS2) (fun hHeld=>?_);clear hK K hHeld hS hq;have hS:=hS2;clear hS2;generalize yR2x17.alloc (.cells #[.string t,.string A,.string (A ++ x6 ++ Bz),.string (S ++ S)] 9) = yR2x22 at *;generalize yR2x17.heap.size = bS at *;try simp only [Act.put,sA,sB,sC]
  refine tk 22 (by simp only [gA,gB,gC];rfl) (by first | kernel_rfl | rfl) (fun uz _=>by go_simp;try with_reducible rfl) pq hS ?_;try simp only [Act.put,sA,sB,sC]
  refine wpAnyH_done (by kernel_rfl) ?_ _;have HQ7:=Hd hS;have HZ7:=Hd (show (A ++ x6 ++ Bz).size <= 5000 /\ (S ++ S).size <= 5000 /\ A.size <= 5000 /\ t.size <= 5000 by rw [ByteArray.size_append,ByteArray.size_append,ByteArray.size_append,hA1,hB1];omega);clear hS heA heB hA1 hB1 hsz1 hsz2 hsz3 hsz4 hsz5 hsz6 HFQ HA6 HME HMX;have HSO:=Hd (sown_bk (n:=4) (B:=u2.heap.size) (zs:=[t,A,A ++ x6 ++ Bz,S ++ S]) HAL.out rfl (by unfold maxLen;omega) HW_bS.out);clear HAL;go_wp2_with fail
  go_meet
  exact ⟨_,A,A ++ x6 ++ Bz,S ++ S,rfl,HSO.out,HZ7.out,HQ7.out⟩
 case rest =>
  obtain ⟨bS,A6,C6,D6,rfl,hso,hz6,hq⟩:=hcut;have HQA:=Hd hq;have HSO:=Hd hso;have hzl:u2.heap.size <= wc.heap.size:=hq.le;have hbs:u2.heap.size <= bS:=(hso.lt bS rfl).1;clear hq hso heA heB hA1 hB1 hsz1 hsz2 hsz3 hsz4 hsz5 hsz6 HFQ HA6 HME HMX hkm1 hjj hj6b;go_upto_if 76 with fail
  go_cut [18] (fun sl wx=>∃ (ad:Option Addr) (nn cc:Nat) (zs:List ByteArray),sl = .slice ad nn cc /\ SLst wx (.slice ad nn cc) zs /\ zs.length = nn /\ nn <= 5 /\ (∀ k,k < nn -> (zs.getD k ⟨#[]⟩).size <= 5000) /\ Q u2 wx)
  case first =>
   by_cases hks:k < S.size
   ·have hksI:(k:Int) < (S.size:Int):=by omega
    obtain ⟨k3,hk3⟩:∃ k3,k3 = k + 1:=⟨_,rfl⟩;have hw1:IntKind.i64.wrap ((k:Int) + 1) = (k3:Int):=by rw [IntKind.wrap_i64];omega
    have hcv:=fun u=>Ur.convN u [ch] 1 rfl;simp only [List.map_cons,List.map_nil] at hcv;have hss:(strOfNums [ch]).size = 1:=strOfNums_size _;generalize strOfNums [ch] = cb at *;have hA1:(S.extract 0 k).size = k:=by rw [ByteArray.size_extract];omega
    have hB1:(S.extract k3 S.size).size = S.size - k3:=by rw [ByteArray.size_extract];omega
    obtain ⟨A9,heA⟩:∃ A,S.extract 0 k = A:=⟨_,rfl⟩;obtain ⟨B9,heB⟩:∃ B,S.extract k3 S.size = B:=⟨_,rfl⟩;rw [heA] at hA1;rw [heB] at hB1;have hsz1:k + 1 <= 9223372036854775807:=by omega
    have hsz2:k + 1 + (S.size - k3) <= 9223372036854775807:=by omega
    have hsz3:¬ 9223372036854775807 < k + 1:=by omega
    have hsz4:¬ 9223372036854775807 < k + 1 + (S.size - k3):=by omega
    have hkm2:(k3:Int) <= (S.size:Int):=by omega
    have hkm4:k3 <= S.size:=by omega
    have HUS:=Hd (show (A9 ++ cb ++ B9).size <= 5000 by rw [ByteArray.size_append,ByteArray.size_append,hA1,hB1,hss];omega);have HCV:=Hd hcv;have hcv2:(convert 57 9 (.slice (some ⟨wc.heap.size,0,none⟩) 1 1)).run Tryz.prog (wc.alloc (.cells #[.int .u8 ch] 5)).drew = .ok (.string cb) (wc.alloc (.cells #[.int .u8 ch] 5)).drew:=HCV.out wc.drew;have HOD:=Hd (fun u (q:Q wc u)=>HSO.out.q q);have HZS:Hid ((wc.alloc (.cells #[.int .u8 ch] 5)).drew.heap.size = wc.heap.size + 1):=Hd (by simp);have HQD:=Hd (HQA.out.trans ((Q.refl wc).alloc (.cells #[.int .u8 ch] 5)).drew);clear hk3 hcv;go_upto_region 9 with fail
    go_region_law ((refine Gr.gpush_step (u:=(wc.alloc (.cells #[.int .u8 ch] 5)).drew) elemS (HOD.out _ (((Q.refl wc).alloc _).drew)) (by rfl) _ _ (by rfl) (A9 ++ cb ++ B9) rfl (by rfl) (by rw [HZS.out];rfl) (show 4 < 1099511627776 by omega) (Nat.le_trans hzl (((Q.refl wc).alloc _).drew).le) ?_;intro g4 c4 w4 hown4 hg4))
    all_goals
     go_wp2_with fail
     go_meet
     exact ⟨some ⟨g4,0,none⟩,5,c4,[t,A6,C6,D6,A9 ++ cb ++ B9],rfl,hown4.lst,rfl,by omega,fun k hk=>(by
      have h5:k = 0 \/ k = 1 \/ k = 2 \/ k = 3 \/ k = 4:=by omega
      rcases h5 with rfl | rfl | rfl | rfl | rfl
      ·exact hz6.2.2.2
      ·exact hz6.2.2.1
      ·exact hz6.1
      ·exact hz6.2.1
      ·exact HUS.out),HQD.out.grown hg4 (fun j h=>by cases h;exact hbs)⟩
   ·have hksI:¬ (k:Int) < (S.size:Int):=by omega
    go_wp2_with fail
    go_meet
    exact ⟨some ⟨bS,0,none⟩,4,4,[t,A6,C6,D6],rfl,HSO.out.lst,rfl,by omega,fun k hk=>(by
     have h4:k = 0 \/ k = 1 \/ k = 2 \/ k = 3:=by omega
     rcases h4 with rfl | rfl | rfl | rfl
     ·exact hz6.2.2.2
     ·exact hz6.2.2.1
     ·exact hz6.1
     ·exact hz6.2.1),HQA.out⟩
  case rest =>
   obtain ⟨ad,nn,cc,zs,rfl,hsl,hnn,hn5,hzz,hq⟩:=hcut;clear HQA HSO hz6;have HSL:=Hd hsl;have HNN:=Hd hnn;have HZZ:=Hd hzz;have HQW:=Hd (HQ.out.trans hq);have HQ1W:=Hd (HQ1.out.trans hq);have HLXW:=Hd (HLX.out.q hq);clear hsl hnn hzz hq;go_wp2_with fail
   go_loopw [19] (fun i wr=>∃ j:Nat,i = .int .i64 j /\ j <= nn /\ Q wc wr) (fun i _=>nn - (intOf i).toNat)
   case atStart=>exact ⟨0,rfl,by omega,Q.refl _⟩
   case round =>
    obtain ⟨j,rfl,hj,hq⟩:=hrel;have HQR:=Hd hq;clear hq;by_cases hlt:j < nn
    ·have hltI:(j:Int) < (nn:Int):=by omega
     have hget:zs[j]? = some (zs.getD j ⟨#[]⟩):=by rw [List.getD_eq_getElem?_getD,List.getElem?_eq_getElem (show j < zs.length by have:=HNN.out;omega)];rfl
     have hze:=HZZ.out j hlt;generalize zs.getD j ⟨#[]⟩ = T' at *;have HCU:=Hd (fun u (q:Q wc u)=>(HSL.out.q q).cellOf HNN.out hget);obtain ⟨gz,oz,cap,hvv,_,_,_,ce⟩:=HCU.out wr HQR.out;cases hvv;have HCE:=Hd (show ∀ u,Q wc u -> u.cell? ⟨gz,oz + j,none⟩ = some (.string T') from fun u q=>by
      obtain ⟨_,_,_,hvv,_,_,_,cl⟩:=HCU.out u q;cases hvv;exact cl)
     have HPT:=Hd (fun u (q:Q wc u)=>HPA.out u (HQ1W.out.trans q) T' (by omega));have HRT:=Hd (fun u (q:Q wc u)=>HRP.out u (HQ1W.out.trans q) T' hze);have HIT:=Hd (fun u (q:Q wc u)=>HIS.out u (HQ1W.out.trans q) T' (by omega));have hrl2:=rd_len r X T';generalize rd r X T' = R at *;generalize isS r X T' = I at *;obtain ⟨Cg,Ci,Cs,Cf⟩:=R;dsimp only at hrl2;obtain ⟨n1,hn1⟩:∃ k,k = Ci.length:=⟨_,rfl⟩;obtain ⟨n2,hn2⟩:∃ k,k = Cf.length:=⟨_,rfl⟩;rw [<- hn1,<- hn2] at hrl2;have HN1:=Hd hn1.symm;have HN2:=Hd hn2.symm;clear hn1 hn2 hget HCU hlt;go_wp2_with fail
     refine (HPT.out _ HQR.out).mono ?_;rintro e v3 ⟨x,rfl,hld,hq⟩;obtain ⟨c1_,d1_,c2_,d2_,rfl,hl1,hl2⟩:=hld;dsimp only at hl1 hl2 |-;rw [HN1.out] at hl1 |-;rw [HN2.out] at hl2 |-;obtain ⟨v4,hv4⟩:∃ u,u = v3.alloc (.cells #[.bool Cg,.slice c1_ n1 d1_,.bool Cs,.slice c2_ n2 d2_] 39):=⟨_,rfl⟩;have hq4:Q v3 v4:=by rw [hv4];exact (Q.refl _).alloc _
     have HXX:=Hd (show Bk v4 v3.heap.size 39 [.bool Cg,.slice c1_ n1 d1_,.bool Cs,.slice c2_ n2 d2_] by rw [hv4];exact Bk.new _ _ _);obtain ⟨bX,hbX⟩:∃ b,b = v3.heap.size:=⟨_,rfl⟩;rw [<- hbX] at HXX;have HCI:=Hd (hl1.lst.q hq4);have HCF:=Hd (hl2.lst.q hq4);have HQ4:=Hd (HQR.out.trans (hq.trans hq4));obtain ⟨cd,hcd⟩:∃ c,c = cdS I:=⟨_,rfl⟩;rw [<- hcd];rw [<- hcd] at HRT;have HCD:=Hd hcd;clear hl1 hl2 hq hq4 ce hcd;go_upto_region 14 with fail
     rw [<- hv4,<- hbX];clear hv4 hbX;refine wp_region_held_drew (S:=fun u=>Q v4 u) (by kernel_rfl) (by exact (Q.refl v4).drew) (fun hHeld=>?_);have hS:Q v4 v4.drew:=hHeld;clear hHeld;have hq:Q v4 v4.drew:=(Q.refl _).drew;clear hq;generalize v4.drew = yR3x0 at *;change wpAnyH _ _ _ _ _ _ #[ff,ff,ff,ff,ff,ff,ff,ff,ff,ff,ff,ff] _ _;refine tk 0 (by simp only [gA,gB,gC];rfl) (by first | kernel_rfl | rfl) (fun uz hSw=>by (try dsimp only at hSw);refine ld_row (x:=.tmp 14) ?_ ?_ (HLXW.out.q (HQ4.out.trans hSw)) Tryz.underlying34 (by exact Ro.infoL) <;> rfl) pq hS ?_
     try simp only [Act.put,sA,sB,sC]
     refine tk 1 (by simp only [gA,gB,gC];rfl) (by first | kernel_rfl | rfl) (fun uz _=>by go_simp;try with_reducible rfl) pq hS ?_;try simp only [Act.put,sA,sB,sC]
     refine tk 2 (by simp only [gA,gB,gC];rfl) (by first | kernel_rfl | rfl) (fun uz _=>by go_simp;try with_reducible rfl) pq hS ?_;try simp only [Act.put,sA,sB,sC]
     refine tk 3 (by simp only [gA,gB,gC];rfl) (by first | kernel_rfl | rfl) (fun uz _=>by go_simp;try with_reducible rfl) pq hS ?_;try simp only [Act.put,sA,sB,sC]
     refine tk 4 (by simp only [gA,gB,gC];rfl) (by first | kernel_rfl | rfl) (fun uz hSw=>by (try dsimp only at hSw);have ce:=HCE.out _ (HQ4.out.trans hSw);go_simp;try with_reducible rfl) pq hS ?_;try simp only [Act.put,sA,sB,sC]
     refine wpAnyH_ready (rs:=[5,9]) (by kernel_rfl) (by simp) ?_;refine (AllReadyH.cons (by (try simp only [gA,gB,gC]);rfl) (fun K hK=>?_) (AllReadyH.cons (by (try simp only [gA,gB,gC]);rfl) (fun K hK=>?_) AllReadyH.nil))
     ·go_simp
      refine (HRT.out _ (HQ4.out.trans hS)).mono ?_;rintro e yR3x6 ⟨x,rfl,hld,hq⟩;obtain ⟨x1_,y1_,x2_,y2_,rfl,hl1,hl2⟩:=hld;dsimp only at hl1 hl2 |-;rw [HN1.out] at hl1 |-;rw [HN2.out] at hl2 |-;have HYI:=Hd hl1;have HYF:=Hd hl2;clear hl1 hl2;try (go_wp2_with fail)
      have hS2:=Q.trans hS hq;refine hK.out _ _ (by exact hS2) (fun hHeld=>?_);clear hK K hHeld hS hq;have hS:=hS2;clear hS2;try simp only [Act.put,sA,sB,sC]
      refine tk 6 (by simp only [gA,gB,gC];rfl) (by first | kernel_rfl | rfl) (fun uz _=>by go_simp;try with_reducible rfl) pq hS ?_;try simp only [Act.put,sA,sB,sC]
      refine tk 7 (by simp only [gA,gB,gC];rfl) (by first | kernel_rfl | rfl) (fun uz _=>by go_simp;try with_reducible rfl) pq hS ?_;try simp only [Act.put,sA,sB,sC]
      refine tk 8 (by simp only [gA,gB,gC];rfl) (by first | kernel_rfl | rfl) (fun uz _=>by go_simp;try with_reducible rfl) pq hS ?_;try simp only [Act.put,sA,sB,sC]
      refine wpAnyH_ready (rs:=[9]) (by kernel_rfl) (by simp) ?_;refine ar (by (try simp only [gA,gB,gC]);rfl) fun K hK=>?_;go_simp
      have hq:=(Q.refl yR3x6).alloc (.cells #[.bool false,.slice none 0 0,.bool false,.slice none 0 0] 26);have HCX:=Hd (Bk.new yR3x6 26 [.bool false,.slice none 0 0,.bool false,.slice none 0 0]);have HW_bC:=Hd (Q.le hS);have HYI:=Hd (Own.q HYI.out hq);have HYF:=Hd (Own.q HYF.out hq);have hS2:=Q.trans hS hq;refine hK.out _ _ (by exact hS2) (fun hHeld=>?_);clear hK K hHeld hS hq;have hS:=hS2;clear hS2;generalize yR3x6.alloc (.cells #[.bool false,.slice none 0 0,.bool false,.slice none 0 0] 26) = yR3x10 at *;generalize yR3x6.heap.size = bC at *;try simp only [Act.put,sA,sB,sC]
      refine wpAnyH_ready (rs:=[10]) (by kernel_rfl) (by simp) ?_;refine ar (by (try simp only [gA,gB,gC]);rfl) fun K hK=>?_;rw [if_pos (by rfl)];refine wp_store_row 26 _ _ rfl bC #[.bool Cg,.slice x1_ n1 y1_,.bool Cs,.slice x2_ n2 y2_] (by rfl) (by rfl) 26 _ HCX.out (by exact Rs.infoD) rfl (Rw.all1 (by rfl)) ?_;have hS2:=Rw.Q_row hS HW_bC.out #[.bool Cg,.slice x1_ n1 y1_,.bool Cs,.slice x2_ n2 y2_];replace HYI:=Hd (Own_rowT HYI.out HCX.out (by decide) #[.bool Cg,.slice x1_ n1 y1_,.bool Cs,.slice x2_ n2 y2_]);replace HYF:=Hd (Own_rowT HYF.out HCX.out (by decide) #[.bool Cg,.slice x1_ n1 y1_,.bool Cs,.slice x2_ n2 y2_]);replace HCX:=Hd (Rw.Bk_row HCX.out [.bool Cg,.slice x1_ n1 y1_,.bool Cs,.slice x2_ n2 y2_]);refine hK.out _ _ (by exact hS2) (fun hHeld=>?_);clear hK K hHeld hS;have hS:=hS2;clear hS2;generalize yR3x10.setRow bC #[.bool Cg,.slice x1_ n1 y1_,.bool Cs,.slice x2_ n2 y2_] = yR3x11 at *;try simp only [Act.put,sA,sB,sC]
      refine tk 11 (by simp only [gA,gB,gC];rfl) (by first | kernel_rfl | rfl) (fun uz _=>by go_simp;try with_reducible rfl) pq hS ?_;try simp only [Act.put,sA,sB,sC]
      refine wpAnyH_done (by kernel_rfl) ?_ _;have HQ5:=Hd (HQ4.out.trans hS);have HXX5:=Hd (HXX.out.q hS);have HSA:=Hd (same_q ⟨Cg,Ci,Cs,Cf⟩ c1_ c2_ x1_ x2_ n1 n2 d1_ d2_ y1_ y2_ _ (HCI.out.q hS) (HCF.out.q hS) HYI.out.lst HYF.out.lst (by dsimp only;rw [HN1.out];omega) (by dsimp only;rw [HN2.out];omega));dsimp only at HSA;clear hS HYI HYF;cases I
      ·have hcd0:=HCD.out
       rw [show cdS false = 2 from rfl] at hcd0;subst hcd0;go_wp2_with (first | (refine Rs.load_rowG (by kernel_rfl) 39 _ (by rfl) bX (by rfl) 39 #[.bool Cg,.slice c1_ n1 d1_,.bool Cs,.slice c2_ n2 d2_] (0,0) _ HXX5.out Tryz.underlying39 rfl (by exact infoDr) ?_) | (refine Rs.load_rowG (by kernel_rfl) 26 _ (by rfl) bC (by rfl) 26 #[.bool Cg,.slice x1_ n1 y1_,.bool Cs,.slice x2_ n2 y2_] (0,0) _ HCX.out Tryz.underlying26 rfl (by exact Rs.infoD) ?_))
       refine HSA.out.mono ?_;rintro e v6 ⟨rfl,hq6⟩;have ce:=HCE.out _ (HQ5.out.trans hq6);have HQ6:=Hd (HQ5.out.trans hq6);clear hq6;go_wp2_with fail
       refine (HIT.out _ HQ6.out).mono ?_;rintro e v7 ⟨rfl,hq7⟩;have HQ7:=Hd (HQ6.out.trans hq7);clear hq7;go_wp2_with fail
       exact ⟨⟨j + 1,by go_num,by omega,HQ7.out⟩,by simp [intOf];omega⟩
      ·have hcd0:=HCD.out
       rw [show cdS true = 0 from rfl] at hcd0;subst hcd0;go_wp2_with (first | (refine Rs.load_rowG (by kernel_rfl) 39 _ (by rfl) bX (by rfl) 39 #[.bool Cg,.slice c1_ n1 d1_,.bool Cs,.slice c2_ n2 d2_] (0,0) _ HXX5.out Tryz.underlying39 rfl (by exact infoDr) ?_) | (refine Rs.load_rowG (by kernel_rfl) 26 _ (by rfl) bC (by rfl) 26 #[.bool Cg,.slice x1_ n1 y1_,.bool Cs,.slice x2_ n2 y2_] (0,0) _ HCX.out Tryz.underlying26 rfl (by exact Rs.infoD) ?_))
       refine HSA.out.mono ?_;rintro e v6 ⟨rfl,hq6⟩;have ce:=HCE.out _ (HQ5.out.trans hq6);have HQ6:=Hd (HQ5.out.trans hq6);clear hq6;go_wp2_with fail
       refine (HIT.out _ HQ6.out).mono ?_;rintro e v7 ⟨rfl,hq7⟩;have HQ7:=Hd (HQ6.out.trans hq7);clear hq7;go_wp2_with fail
       exact ⟨⟨j + 1,by go_num,by omega,HQ7.out⟩,by simp [intOf];omega⟩
     ·go_simp
      have hq:=(Q.refl yR3x0).alloc (.cells #[.bool false,.slice none 0 0,.bool false,.slice none 0 0] 26);have HCX:=Hd (Bk.new yR3x0 26 [.bool false,.slice none 0 0,.bool false,.slice none 0 0]);have HW_bC:=Hd (Q.le hS);have hS2:=Q.trans hS hq;refine hK.out _ _ (by exact hS2) (fun hHeld=>?_);clear hK K hHeld hS hq;have hS:=hS2;clear hS2;generalize yR3x0.alloc (.cells #[.bool false,.slice none 0 0,.bool false,.slice none 0 0] 26) = yR3x13 at *;generalize yR3x0.heap.size = bC at *;try simp only [Act.put,sA,sB,sC]
      refine wpAnyH_ready (rs:=[5]) (by kernel_rfl) (by simp) ?_;refine ar (by (try simp only [gA,gB,gC]);rfl) fun K hK=>?_;go_simp
      refine (HRT.out _ (HQ4.out.trans hS)).mono ?_;rintro e yR3x14 ⟨x,rfl,hld,hq⟩;obtain ⟨x1_,y1_,x2_,y2_,rfl,hl1,hl2⟩:=hld;dsimp only at hl1 hl2 |-;rw [HN1.out] at hl1 |-;rw [HN2.out] at hl2 |-;have HYI:=Hd hl1;have HYF:=Hd hl2;clear hl1 hl2;try (go_wp2_with fail)
      have HCX:=Hd (Bk.q HCX.out hq);have hS2:=Q.trans hS hq;refine hK.out _ _ (by exact hS2) (fun hHeld=>?_);clear hK K hHeld hS hq;have hS:=hS2;clear hS2;try simp only [Act.put,sA,sB,sC]
      refine tk 6 (by simp only [gA,gB,gC];rfl) (by first | kernel_rfl | rfl) (fun uz _=>by go_simp;try with_reducible rfl) pq hS ?_;try simp only [Act.put,sA,sB,sC]
      refine tk 7 (by simp only [gA,gB,gC];rfl) (by first | kernel_rfl | rfl) (fun uz _=>by go_simp;try with_reducible rfl) pq hS ?_;try simp only [Act.put,sA,sB,sC]
      refine tk 8 (by simp only [gA,gB,gC];rfl) (by first | kernel_rfl | rfl) (fun uz _=>by go_simp;try with_reducible rfl) pq hS ?_;try simp only [Act.put,sA,sB,sC]
      refine wpAnyH_ready (rs:=[10]) (by kernel_rfl) (by simp) ?_;refine ar (by (try simp only [gA,gB,gC]);rfl) fun K hK=>?_;rw [if_pos (by rfl)];refine wp_store_row 26 _ _ rfl bC #[.bool Cg,.slice x1_ n1 y1_,.bool Cs,.slice x2_ n2 y2_] (by rfl) (by rfl) 26 _ HCX.out (by exact Rs.infoD) rfl (Rw.all1 (by rfl)) ?_;have hS2:=Rw.Q_row hS HW_bC.out #[.bool Cg,.slice x1_ n1 y1_,.bool Cs,.slice x2_ n2 y2_];replace HYI:=Hd (Own_rowT HYI.out HCX.out (by decide) #[.bool Cg,.slice x1_ n1 y1_,.bool Cs,.slice x2_ n2 y2_]);replace HYF:=Hd (Own_rowT HYF.out HCX.out (by decide) #[.bool Cg,.slice x1_ n1 y1_,.bool Cs,.slice x2_ n2 y2_]);replace HCX:=Hd (Rw.Bk_row HCX.out [.bool Cg,.slice x1_ n1 y1_,.bool Cs,.slice x2_ n2 y2_]);refine hK.out _ _ (by exact hS2) (fun hHeld=>?_);clear hK K hHeld hS;have hS:=hS2;clear hS2;generalize yR3x14.setRow bC #[.bool Cg,.slice x1_ n1 y1_,.bool Cs,.slice x2_ n2 y2_] = yR3x18 at *;try simp only [Act.put,sA,sB,sC]
      refine tk 11 (by simp only [gA,gB,gC];rfl) (by first | kernel_rfl | rfl) (fun uz _=>by go_simp;try with_reducible rfl) pq hS ?_;try simp only [Act.put,sA,sB,sC]
      refine wpAnyH_done (by kernel_rfl) ?_ _;have HQ5:=Hd (HQ4.out.trans hS);have HXX5:=Hd (HXX.out.q hS);have HSA:=Hd (same_q ⟨Cg,Ci,Cs,Cf⟩ c1_ c2_ x1_ x2_ n1 n2 d1_ d2_ y1_ y2_ _ (HCI.out.q hS) (HCF.out.q hS) HYI.out.lst HYF.out.lst (by dsimp only;rw [HN1.out];omega) (by dsimp only;rw [HN2.out];omega));dsimp only at HSA;clear hS HYI HYF;cases I
      ·have hcd0:=HCD.out
       rw [show cdS false = 2 from rfl] at hcd0;subst hcd0;go_wp2_with (first | (refine Rs.load_rowG (by kernel_rfl) 39 _ (by rfl) bX (by rfl) 39 #[.bool Cg,.slice c1_ n1 d1_,.bool Cs,.slice c2_ n2 d2_] (0,0) _ HXX5.out Tryz.underlying39 rfl (by exact infoDr) ?_) | (refine Rs.load_rowG (by kernel_rfl) 26 _ (by rfl) bC (by rfl) 26 #[.bool Cg,.slice x1_ n1 y1_,.bool Cs,.slice x2_ n2 y2_] (0,0) _ HCX.out Tryz.underlying26 rfl (by exact Rs.infoD) ?_))
       refine HSA.out.mono ?_;rintro e v6 ⟨rfl,hq6⟩;have ce:=HCE.out _ (HQ5.out.trans hq6);have HQ6:=Hd (HQ5.out.trans hq6);clear hq6;go_wp2_with fail
       refine (HIT.out _ HQ6.out).mono ?_;rintro e v7 ⟨rfl,hq7⟩;have HQ7:=Hd (HQ6.out.trans hq7);clear hq7;go_wp2_with fail
       exact ⟨⟨j + 1,by go_num,by omega,HQ7.out⟩,by simp [intOf];omega⟩
      ·have hcd0:=HCD.out
       rw [show cdS true = 0 from rfl] at hcd0;subst hcd0;go_wp2_with (first | (refine Rs.load_rowG (by kernel_rfl) 39 _ (by rfl) bX (by rfl) 39 #[.bool Cg,.slice c1_ n1 d1_,.bool Cs,.slice c2_ n2 d2_] (0,0) _ HXX5.out Tryz.underlying39 rfl (by exact infoDr) ?_) | (refine Rs.load_rowG (by kernel_rfl) 26 _ (by rfl) bC (by rfl) 26 #[.bool Cg,.slice x1_ n1 y1_,.bool Cs,.slice x2_ n2 y2_] (0,0) _ HCX.out Tryz.underlying26 rfl (by exact Rs.infoD) ?_))
       refine HSA.out.mono ?_;rintro e v6 ⟨rfl,hq6⟩;have ce:=HCE.out _ (HQ5.out.trans hq6);have HQ6:=Hd (HQ5.out.trans hq6);clear hq6;go_wp2_with fail
       refine (HIT.out _ HQ6.out).mono ?_;rintro e v7 ⟨rfl,hq7⟩;have HQ7:=Hd (HQ6.out.trans hq7);clear hq7;go_wp2_with fail
       exact ⟨⟨j + 1,by go_num,by omega,HQ7.out⟩,by simp [intOf];omega⟩
    ·obtain rfl:j = nn:=by omega
     have HQE:=Hd (HQW.out.trans HQR.out);go_wp2_with fail
     refine (Sp.lives_any _).mono ?_;rintro e wz ⟨rfl,hqz⟩;have HQZ:=Hd (HQE.out.trans hqz);clear hqz;go_wp2_with fail
     go_ret
     exact ⟨rfl,HQZ.out⟩
end Sp
end
end Go.Proofs.YtdjhkbholijnmaaGreatDoor
