/- Blanks, wherever they stand, change nothing. (and more) -/
import Derived.Test.YteggfkbnnmpcjaaGreatDoorR57
import Derived.Test.YteggfkbnnmpcjaaGreatDoorR15
set_option linter.all false
set_option maxRecDepth 100000
set_option maxHeartbeats 8000000
namespace Go.Proofs.YteggfkbnnmpcjaaGreatDoor
section
open Go.RowKit
namespace Ps
open Um Cm Gm Im Lo Sx Tm
theorem law_blanks (g0 g1 g2 g3 g4 g5 n:Int) (dg ds:Bool) (e1 e2:Option Addr) (m1 m2 f1 f2:Nat) (DI DF:List Int) (a b:Int) (w:World) (h0:-9223372036854775808 <= g0 /\ g0 <= 9223372036854775807) (h1:-9223372036854775808 <= g1 /\ g1 <= 9223372036854775807) (h2:-9223372036854775808 <= g2 /\ g2 <= 9223372036854775807) (h3:-9223372036854775808 <= g3 /\ g3 <= 9223372036854775807) (h4:-9223372036854775808 <= g4 /\ g4 <= 9223372036854775807) (h5:-9223372036854775808 <= g5 /\ g5 <= 9223372036854775807) (hn:-9223372036854775808 <= n /\ n <= 9223372036854775807) (hi:Lst w (.slice e1 m1 f1) DI) (hf:Lst w (.slice e2 m2 f2) DF) (q1:DI.length = m1) (q2:DF.length = m2) (bi:∀ n ∈ DI,-9223372036854775808 <= n /\ n <= 9223372036854775807) (bf:∀ n ∈ DF,-9223372036854775808 <= n /\ n <= 9223372036854775807) (ha:-9223372036854775808 <= a /\ a <= 9223372036854775807) (hb:-9223372036854775808 <= b /\ b <= 9223372036854775807) :
  Calls Tryz.prog 7 #[.agg #[.int .i64 g0,.int .i64 g1,.int .i64 g2,.int .i64 g3,.int .i64 g4,.int .i64 g5],.int .i64 n,.agg #[.bool dg,.slice e1 m1 f1,.bool ds,.slice e2 m2 f2],.int .i64 a,.int .i64 b] w fun e w'=>e = .returned (.bool true) /\ Q w w':=by
 have HBE:=Hd (fun u=>Ps.begin_any g0 g1 g2 g3 g4 g5 n u h0 h1 h2 h3 h4 h5 hn);have hic:=hi.form0 q1;obtain ⟨_,_,hv,hnc,hcm⟩:=hic;cases hv;have hfc:=hf.form0 q2;obtain ⟨_,_,hv,hnf,hfm⟩:=hfc;cases hv;unfold maxLen at hcm hfm;have HGD:=Hd (fun u (q:Q w u)=>Tr.good_apart dg ds e1 e2 m1 m2 f1 f2 DI DF u (hi.q q) (hf.q q) q1 q2 (by omega) (by omega) bi bf 6 4 (by omega) (by omega));have hgm:=Tm.gdT_may dg ds DI DF 6 4;have hgl:=Tm.gdT_len dg ds DI DF 6 4;generalize Tm.gdT dg ds DI DF 6 4 = D0 at *;obtain ⟨tg,TI,ts,TF⟩:=D0;dsimp only at hgl;have HGM:=Hd hgm;obtain ⟨k1,hk1⟩:∃ k,k = TI.length:=⟨_,rfl⟩;obtain ⟨k2,hk2⟩:∃ k,k = TF.length:=⟨_,rfl⟩;rw [<- hk1,<- hk2] at hgl;have HK1:=Hd hk1.symm;have HK2:=Hd hk2.symm;obtain ⟨hb1,hb2⟩:=hgl;clear hgm hk1 hk2;have HA:=Hd ha;have HB:=Hd hb;clear hi hf q1 q2 bi bf h0 h1 h2 h3 h4 h5 hn hnc hcm hnf hfm ha hb;obtain ⟨y0,hy0⟩:∃ z,z = w.alloc (.cells #[.int .i64 g0,.int .i64 g1,.int .i64 g2,.int .i64 g3,.int .i64 g4,.int .i64 g5] 23):=⟨_,rfl⟩;have hq0:Q w y0:=by rw [hy0];exact (Q.refl _).alloc _
 have hs0:y0.heap.size = w.heap.size + 1:=by rw [hy0];simp
 have hc0:Bk y0 w.heap.size 23 [.int .i64 g0,.int .i64 g1,.int .i64 g2,.int .i64 g3,.int .i64 g4,.int .i64 g5]:=by rw [hy0];exact Bk.new _ _ _
 obtain ⟨y1,hy1⟩:∃ z,z = y0.alloc (.cells #[.bool dg,.slice e1 m1 f1,.bool ds,.slice e2 m2 f2] 43):=⟨_,rfl⟩;have hq1:Q y0 y1:=by rw [hy1];exact (Q.refl _).alloc _
 have hs1:y1.heap.size = w.heap.size + 2:=by rw [hy1];simp;omega
 have hc1:Bk y1 y0.heap.size 43 [.bool dg,.slice e1 m1 f1,.bool ds,.slice e2 m2 f2]:=by rw [hy1];exact Bk.new _ _ _
 rw [hs0] at hc1;have HQ:=Hd (hq0.trans hq1);have HGX:=Hd (hc0.q hq1);have HDX:=Hd hc1;have hz2:y1 = (w.alloc (.cells #[.int .i64 g0,.int .i64 g1,.int .i64 g2,.int .i64 g3,.int .i64 g4,.int .i64 g5] 23)).alloc (.cells #[.bool dg,.slice e1 m1 f1,.bool ds,.slice e2 m2 f2] 43):=by rw [hy1,hy0]
 obtain ⟨bG,hbbG⟩:∃ k,k = w.heap.size:=⟨_,rfl⟩;obtain ⟨bD,hbbD⟩:∃ k,k = w.heap.size + 1:=⟨_,rfl⟩;clear hq0 hs0 hc0 hy0 hq1 hs1 hc1 hy1;go_enter Tryz.func7,Tryz.ntmps7
 go_upto_region 1 with fail
 rw [<- hz2,<- hbbD,<- hbbG];rw [<- hbbG] at HGX;rw [<- hbbD] at HDX;clear hz2 hbbG hbbD;have xHGX0:=HGX.out.cell 0 rfl;have xHGX1:=HGX.out.cell 1 rfl;have xHGX2:=HGX.out.cell 2 rfl;have xHGX3:=HGX.out.cell 3 rfl;have xHGX4:=HGX.out.cell 4 rfl;have xHGX5:=HGX.out.cell 5 rfl;go_wp2_with fail
 clear xHGX0 xHGX1 xHGX2 xHGX3 xHGX4 xHGX5;clear HGX;refine (HBE.out _).mono ?_;rintro e w1 ⟨r,X,pv,vv,hok,rfl,⟨g,pa,pb,pc,pd,pcl,rfl,hpl,hsl⟩,⟨la,lb,lc,ld,rfl,hrl⟩,hq⟩;have HOK:=Hd hok.lok;have HPO:=Hd hok;obtain ⟨a1,a2,rfl⟩:=hrl.1.shape;obtain ⟨b1,b2,rfl⟩:=hrl.2.1.shape;obtain ⟨c1,c2,rfl⟩:=hrl.2.2.1.shape;obtain ⟨d1,d2,rfl⟩:=hrl.2.2.2.shape;have HCF:=Hd (show (Lm.clus r X).length <= 1073741824 from Nat.le_trans (Lo.clus_len hok.lok.ok) (by omega));have HRE:=Hd (fun u (q:Q w1 u) s hs=>Ps.read_any g r X pa pb pc pd pcl s u (hpl.q q) (hsl.q q) (HCF.out) hs);have HTX:=Hd (fun u (q:Q w1 u) A B e1 e2 m1 m2 f1 f2 I F hi hf k1 k2 l1 l2 hm=>Rs.text_any r X _ _ _ _ A B e1 e2 m1 m2 f1 f2 I F u hok.lok (hrl.q q) hi hf k1 k2 l1 l2 hm);replace HQ:=Hd (Q.trans HQ.out hq);replace HDX:=Hd (Bk.q HDX.out hq);clear hq hpl hsl hrl hok HBE;have HQ1:=Hd (Q.refl w1);obtain ⟨u1,hwu1⟩:∃ z,z = w1.alloc (.cells #[.string (Lm.bs r.nam),.string (Lm.bs r.pat),.string (Lm.bs r.sys),.string (Lm.bs r.dec),.string (Lm.bs r.grp),.string (Lm.bs r.min),.string (Lm.bs r.per),.string (Lm.bs r.cur),.slice a1 X.pre.length a2,.slice b1 X.suf.length b2,.slice c1 X.npre.length c2,.slice d1 X.nsuf.length d2,.int .i64 X.pr,.int .i64 X.se,.int .i64 X.mi,.int .i64 X.mf,.int .i64 X.xf] 31):=⟨_,rfl⟩;have hq:Q w1 u1:=by rw [hwu1];exact (Q.refl _).alloc _
 have HLX:=Hd (show Bk u1 w1.heap.size 31 [.string (Lm.bs r.nam),.string (Lm.bs r.pat),.string (Lm.bs r.sys),.string (Lm.bs r.dec),.string (Lm.bs r.grp),.string (Lm.bs r.min),.string (Lm.bs r.per),.string (Lm.bs r.cur),.slice a1 X.pre.length a2,.slice b1 X.suf.length b2,.slice c1 X.npre.length c2,.slice d1 X.nsuf.length d2,.int .i64 X.pr,.int .i64 X.se,.int .i64 X.mi,.int .i64 X.mf,.int .i64 X.xf] by rw [hwu1];exact Bk.new _ _ _);obtain ⟨bL,hbbL⟩:∃ k,k = w1.heap.size:=⟨_,rfl⟩;rw [<- hbbL] at HLX;replace HQ:=Hd (Q.trans HQ.out hq);replace HDX:=Hd (Bk.q HDX.out hq);replace HQ1:=Hd (Q.trans HQ1.out hq);clear hq;go_upto_region 2 with fail
 unfold Ro.lV;rw [<- hwu1,<- hbbL];clear hwu1 hbbL;have xHDX0:=HDX.out.cell 0 rfl;have xHDX1:=HDX.out.cell 1 rfl;have xHDX2:=HDX.out.cell 2 rfl;have xHDX3:=HDX.out.cell 3 rfl;go_wp2_with fail
 clear xHDX0 xHDX1 xHDX2 xHDX3;have HQ0:=HQ;have HQ10:=HQ1;have HLX0:=HLX;have HQB:=Hd (Q.refl u1);refine (HGD.out _ HQ.out).mono ?_;rintro e u2 ⟨x,rfl,hx3,hq⟩;obtain ⟨i1,j1,i2,j2,rfl,hli,hlf,hap⟩:=hx3;dsimp only at hli hlf hap;rw [HK1.out] at hli hap;rw [HK2.out] at hlf hap;have HLI:=Hd (hli.mono (show u1.heap.size <= u1.heap.size + 2 by omega));have HLF:=Hd (hlf.mono (show u1.heap.size <= u1.heap.size + 2 by omega));have HAP:=Hd hap;clear hli hlf hap;replace HQ:=Hd (Q.trans HQ.out hq);replace HDX:=Hd (Bk.q HDX.out hq);replace HQ1:=Hd (Q.trans HQ1.out hq);replace HLX:=Hd (Bk.q HLX.out hq);replace HQB:=Hd (Q.trans HQB.out hq);clear hq;clear HDX HLX HQ HQ1;clear HGD;have HBQ:=HQB;obtain ⟨u3,hwu3⟩:∃ z,z = u2.alloc (.cells #[.bool tg,.slice i1 k1 j1,.bool ts,.slice i2 k2 j2] 43):=⟨_,rfl⟩;have hq:Q u2 u3:=by rw [hwu3];exact (Q.refl _).alloc _
 have HOX:=Hd (show Bk u3 u2.heap.size 43 [.bool tg,.slice i1 k1 j1,.bool ts,.slice i2 k2 j2] by rw [hwu3];exact Bk.new _ _ _);obtain ⟨bO,hbbO⟩:∃ k,k = u2.heap.size:=⟨_,rfl⟩;rw [<- hbbO] at HOX;replace HQB:=Hd (Q.trans HQB.out hq);replace HLI:=Hd (Own.q HLI.out hq);replace HLF:=Hd (Own.q HLF.out hq);clear hq;go_upto_region 5 with fail
 have HBO:=Hd (show u1.heap.size <= bO by rw [hbbO];exact HBQ.out.le);try rw [HK1.out,HK2.out]
 rw [<- hwu3,<- hbbO];clear hwu3 hbbO;have x1:=HOX.out.cell 1 rfl;have hlen:=Hd (show TI.length < 1099511627776 by rw [HK1.out];omega);have HBS:=Hd (show u1.heap.size <= u3.heap.size from HQB.out.le);go_wp2_with (at_builtin;refine push_int HLI.out rfl _ _ rfl _ (by rfl) (by rfl) hlen.out HBS.out ?_)
 intro v' w7 hown7 hgrow _;have hsh:=hown7.shape;have h71:(TI ++ [7]).length = k1 + 1:=by rw [List.length_append,HK1.out];rfl
 rw [h71] at hsh;obtain ⟨oa,oc,rfl⟩:=hsh;have HQ7:=Hd (show Q u1 w7 from HQB.out.grown hgrow (fun y hy=>(HLI.out.lt y hy).1));have HF7:=Hd (Own.other HLF.out hgrow HAP.out);have hox7:Bk w7 bO 43 [.bool tg,.slice i1 k1 j1,.bool ts,.slice i2 k2 j2]:=by
  unfold Bk;rw [hgrow.block bO HOX.out.lt (fun e=>by
   obtain ⟨cur,hc⟩:=HLI.out.cells _ e.symm;have hh:=HOX.out;unfold Bk at hh;rw [hc] at hh;simp at hh)]
  exact HOX.out
 have HOX7:=Hd hox7;have HOW7:=Hd hown7;have z1:=hox7.cell 1 rfl;have z2:=hox7.free 1;obtain ⟨w8,hw8⟩:∃ z,z = w7.setCell ⟨bO,1,none⟩ (.slice oa (k1 + 1) oc):=⟨_,rfl⟩;have HQ8:=Hd (show Q u1 w8 by rw [hw8];exact Q.setCell HQ7.out (ad:=⟨bO,1,none⟩) HBO.out _);replace HOX:=Hd (show Bk w8 bO 43 [.bool tg,.slice oa (k1 + 1) oc,.bool ts,.slice i2 k2 j2] by rw [hw8];exact HOX7.out.set 1 _);replace HLI:=Hd (show Lst w8 (.slice oa (k1 + 1) oc) (TI ++ [7]) by rw [hw8];exact (Tm.Own_past HOW7.out HOX7.out (by decide) 1 _).lst);replace HLF:=Hd (show Lst w8 (.slice i2 k2 j2) TF by rw [hw8];exact (Tm.Own_past HF7.out HOX7.out (by decide) 1 _).lst);have HQ:=Hd (HQ0.out.trans HQ8.out);have HQ1:=Hd (HQ10.out.trans HQ8.out);have HLX:=Hd (HLX0.out.q HQ8.out);have HKJ:=Hd (show (TI ++ [7]).length = k1 + 1 by rw [List.length_append,HK1.out];rfl);have HGJ:=Hd (may_app HGM.out);have HNJ:=Hd (show ∀ R:List Int,¬ (TI ++ [7] ++ R = []) from fun R h=>by simp at h);clear x1 hown7 hgrow hox7 h71;go_upto_region 6 with fail
 rw [<- hw8];clear hw8 z1 z2 HQ0 HQ10 HLX0 HQB HBQ HBS HQ7 HF7 HOX7 HOW7 HQ8 HAP HGM HK1 HBO hlen;generalize TI ++ [7] = TJ at *;obtain ⟨kj,hkj⟩:∃ x:Nat,x = k1 + 1:=⟨_,rfl⟩;rw [<- hkj] at HOX HLI HKJ;have hbj:kj <= 7:=by omega
 try rw [<- hkj]
 clear hkj;have xHOX0:=HOX.out.cell 0 rfl;have xHOX1:=HOX.out.cell 1 rfl;have xHOX2:=HOX.out.cell 2 rfl;have xHOX3:=HOX.out.cell 3 rfl;go_wp2_with (first | (refine wpList_load_row (by rfl) 31 _ (by rfl) bL (by rfl) 31 #[.string (Lm.bs r.nam),.string (Lm.bs r.pat),.string (Lm.bs r.sys),.string (Lm.bs r.dec),.string (Lm.bs r.grp),.string (Lm.bs r.min),.string (Lm.bs r.per),.string (Lm.bs r.cur),.slice a1 X.pre.length a2,.slice b1 X.suf.length b2,.slice c1 X.npre.length c2,.slice d1 X.nsuf.length d2,.int .i64 X.pr,.int .i64 X.se,.int .i64 X.mi,.int .i64 X.mf,.int .i64 X.xf] (0,0) _ HLX.out Tryz.underlying31 rfl (by exact Ro.infoL) ?_) | (refine wpList_load_row (by rfl) 43 _ (by rfl) bO (by rfl) 43 #[.bool tg,.slice oa kj oc,.bool ts,.slice i2 k2 j2] (0,0) _ HOX.out Tryz.underlying43 rfl (by exact Rs.infoD) ?_))
 clear xHOX0 xHOX1 xHOX2 xHOX3;refine (HTX.out _ HQ1.out tg ts oa i2 kj k2 oc j2 TJ TF HLI.out HLF.out HKJ.out HK2.out (by omega) (by omega) HGJ.out).mono ?_;rintro e u21 ⟨rfl,hq⟩;replace HQ:=Hd (Q.trans HQ.out hq);replace HQ1:=Hd (Q.trans HQ1.out hq);replace HLX:=Hd (Bk.q HLX.out hq);replace HOX:=Hd (Bk.q HOX.out hq);replace HLI:=Hd (Lst.q HLI.out hq);replace HLF:=Hd (Lst.q HLF.out hq);clear hq;clear HLX;have HZ:=Hd (show (tx r X ⟨tg,TJ,ts,TF⟩).size <= 2000 by
  have h:=tx_size HOK.out HGJ.out;dsimp only at h;rw [HKJ.out,HK2.out] at h;have h5:64 * (2 * kj + k2 + 7) <= 64 * 31:=Nat.mul_le_mul_left _ (by omega);omega)
 have HCI:=Hd (fun i k=>clip_ins HOK.out HGJ.out HZ.out i k);have HCT:=Hd (Ps.clip_tx HOK.out HPO.out.fine HGJ.out (by have:=HZ.out;omega));have HAT:=Hd (show Tm.ats ⟨tg,TJ,ts,TF⟩ = TJ ++ sep ts ++ TF from rfl);have HAN:=Hd (show (TJ ++ sep ts ++ TF).length = kj + (sep ts).length + k2 by simp [HKJ.out,HK2.out];try omega);have HAB:=Hd (show kj + (sep ts).length + k2 <= 1000 by have:(sep ts).length <= 1:=(by cases ts <;> decide);omega)
 have HCN:=Hd (HCT.out.trans (if_neg (fun h=>HNJ.out (sep ts ++ TF) (by rw [<- List.append_assoc,<- HAT.out];exact h.2))));rw [HAT.out] at HCN;have HIB:=Hd (fun i k j hj=>ins_bound (tx r X ⟨tg,TJ,ts,TF⟩) i k j hj);have HPZ:=Hd (fun k (hk:k < (pcs (tx r X ⟨tg,TJ,ts,TF⟩)).length)=>show ((pcs (tx r X ⟨tg,TJ,ts,TF⟩)).getD k ⟨#[]⟩).size <= 2000 from by
  have e:(pcs (tx r X ⟨tg,TJ,ts,TF⟩)).getD k ⟨#[]⟩ = (pcs (tx r X ⟨tg,TJ,ts,TF⟩))[k]:=by rw [List.getD_eq_getElem?_getD,List.getElem?_eq_getElem hk];rfl
  rw [e];have hm:=List.getElem_mem hk;generalize (pcs (tx r X ⟨tg,TJ,ts,TF⟩))[k] = x at hm |-;unfold pcs at hm;obtain ⟨j,_,rfl⟩:=List.mem_map.1 hm;have h1:=pc_size_le (tx r X ⟨tg,TJ,ts,TF⟩) (stL1 (tx r X ⟨tg,TJ,ts,TF⟩).data.toList) j;have h2:=HZ.out;omega)
 have HPL:=Hd (show (pcs (tx r X ⟨tg,TJ,ts,TF⟩)).length <= 2000 from Nat.le_trans (pcs_le _) HZ.out);rw [HCN.out] at HCI;generalize tx r X ⟨tg,TJ,ts,TF⟩ = S at *;clear HTX HCT HNJ HCN;go_wp2_with fail
 refine (Gr.split_any S _ (by have:=HZ.out;omega)).mono ?_;rintro e u22 ⟨v,rfl,hov,hq⟩;obtain ⟨va,vc,rfl⟩:=hov.shape;have HOV:=Hd hov.lst;clear hov;replace HQ:=Hd (Q.trans HQ.out hq);replace HQ1:=Hd (Q.trans HQ1.out hq);replace HOX:=Hd (Bk.q HOX.out hq);replace HLI:=Hd (Lst.q HLI.out hq);replace HLF:=Hd (Lst.q HLF.out hq);clear hq;generalize pcs S = P at *;obtain ⟨m,hm⟩:∃ m,m = P.length:=⟨_,rfl⟩;rw [<- hm] at HPL HIB HCI HPZ HOV;try rw [<- hm]
 have HMN:=Hd hm.symm;have hml:=HPL.out;clear hm;have HRA:=Hd (fun u=>Ur.around_any a ((m:Int) + 1) u HA.out.1 HA.out.2 (by omega) (by omega));have HRB:=Hd (fun u=>Ur.around_any b ((m:Int) + 1) u HB.out.1 HB.out.2 (by omega) (by omega));have hia:=around_bd a ((m:Int) + 1) (by omega);have hib:=around_bd b ((m:Int) + 1) (by omega);obtain ⟨iN,hiN⟩:∃ x:Nat,x = (around a ((m:Int) + 1)).toNat:=⟨_,rfl⟩;obtain ⟨kN,hkN⟩:∃ x:Nat,x = (around b ((m:Int) + 1)).toNat:=⟨_,rfl⟩;rw [show around a ((m:Int) + 1) = (iN:Int) by omega] at HRA;rw [show around b ((m:Int) + 1) = (kN:Int) by omega] at HRB;have HST:=Hd (fun j=>ins_step P iN kN j);rw [HMN.out] at HST;have HIK:=Hd (HCI.out iN kN);have HBI:=Hd (fun j (hj:j <= m + 1)=>show (catB (insB P iN kN j)).size <= 4001 from Nat.le_trans (HIB.out iN kN j hj) (by have:=HZ.out;omega));have HT0:=Hd (show catB (insB P iN kN 0) = ⟨#[]⟩ from rfl);generalize hTk:(fun j=>catB (insB P iN kN j)) = T at *;have hT:∀ j,catB (insB P iN kN j) = T j:=fun j=>by rw [<- hTk]
 simp only [hT] at HST HIK HBI HT0;clear hiN hkN hia hib HCI HIB hTk hT HA HB;go_wp2_with fail
 refine (HRA.out _).mono ?_;rintro e _ ⟨rfl,rfl⟩;go_wp2_with fail
 refine (HRB.out _).mono ?_;rintro e _ ⟨rfl,rfl⟩;go_wp2_with fail
 clear HRA HRB;go_loopw [17,18] (fun sv iv wr=>∃ j:Nat,iv = .int .i64 j /\ j <= m + 1 /\ sv = .string (T j) /\ Q u22 wr) (fun _ iv _=>m + 1 - (intOf iv).toNat)
 case atStart=>exact ⟨0,rfl,by omega,by rw [HT0.out],Q.refl _⟩
 case round =>
  obtain ⟨j,rfl,hj,rfl,hqr⟩:=hrel;have hTz:=HBI.out j hj;have HQR:=Hd hqr;by_cases hjm:j <= m
  ·have HSJ:=Hd (HST.out j)
   by_cases hlt:j < m
   ·have hce:=(HOV.out.q hqr).cellOf (x:=P.getD j ⟨#[]⟩) (k:=j) HMN.out (by rw [List.getD_eq_getElem?_getD,List.getElem?_eq_getElem (by have:=HMN.out;omega)];rfl)
    obtain ⟨gl,off,cap,hvv,hgl,_,_,cl0⟩:=hce;cases hvv;have hxz:=HPZ.out j hlt;have hb2:=HBI.out (j + 1) (by omega);replace HSJ:=Hd (HSJ.out.trans (by rw [if_pos hlt]));generalize P.getD j ⟨#[]⟩ = x at *;clear hqr;by_cases e1:j = iN
    ·subst e1
     have h9:(⟨#[9]⟩:ByteArray).size = 1:=rfl;go_wp2_with fail
     exact ⟨⟨j + 1,by go_num,by omega,by rw [HSJ.out];(rw [if_pos (Or.inl rfl)];first | rfl | (congr 1;apply ba_ext;simp [tabB])),HQR.out⟩,by simp [intOf] <;> omega⟩
    ·have i1':¬ (j:Int) = (iN:Int):=by omega
     by_cases e2:j = kN
     ·subst e2
      have h9:(⟨#[9]⟩:ByteArray).size = 1:=rfl;go_wp2_with fail
      exact ⟨⟨j + 1,by go_num,by omega,by rw [HSJ.out];(rw [if_pos (Or.inr rfl)];first | rfl | (congr 1;apply ba_ext;simp [tabB])),HQR.out⟩,by simp [intOf] <;> omega⟩
     ·have i2':¬ (j:Int) = (kN:Int):=by omega
      go_wp2_with fail
      exact ⟨⟨j + 1,by go_num,by omega,by rw [HSJ.out];(rw [if_neg (fun h=>h.elim e1 e2)];first | rfl | (congr 1;apply ba_ext;simp)),HQR.out⟩,by simp [intOf] <;> omega⟩
   ·have hjm2:j = m:=by omega
    replace HSJ:=Hd (HSJ.out.trans (by rw [if_neg hlt]));subst hjm2;clear hqr;by_cases e1:j = iN
    ·subst e1
     have h9:(⟨#[9]⟩:ByteArray).size = 1:=rfl;go_wp2_with fail
     exact ⟨⟨j + 1,by go_num,by omega,by rw [HSJ.out];(rw [if_pos (Or.inl rfl)];first | rfl | (congr 1;apply ba_ext;simp [tabB])),HQR.out⟩,by simp [intOf] <;> omega⟩
    ·have i1':¬ (j:Int) = (iN:Int):=by omega
     by_cases e2:j = kN
     ·subst e2
      have h9:(⟨#[9]⟩:ByteArray).size = 1:=rfl;go_wp2_with fail
      exact ⟨⟨j + 1,by go_num,by omega,by rw [HSJ.out];(rw [if_pos (Or.inr rfl)];first | rfl | (congr 1;apply ba_ext;simp [tabB])),HQR.out⟩,by simp [intOf] <;> omega⟩
     ·have i2':¬ (j:Int) = (kN:Int):=by omega
      go_wp2_with fail
      exact ⟨⟨j + 1,by go_num,by omega,by rw [HSJ.out];(rw [if_neg (fun h=>h.elim e1 e2)];first | rfl | (congr 1;apply ba_ext;simp)),HQR.out⟩,by simp [intOf] <;> omega⟩
  ·have hjm2:j = m + 1:=by omega
   subst hjm2;clear hqr;replace HQ:=Hd (Q.trans HQ.out HQR.out);replace HQ1:=Hd (Q.trans HQ1.out HQR.out);replace HOX:=Hd (Bk.q HOX.out HQR.out);replace HLI:=Hd (Lst.q HLI.out HQR.out);replace HLF:=Hd (Lst.q HLF.out HQR.out);replace HOV:=Hd (GLst.q HOV.out HQR.out);go_wp2_with fail
   refine (HRE.out _ HQ1.out (T (m + 1)) (by have:=HBI.out (m + 1) (Nat.le_refl _);omega)).mono ?_;rintro e u41 ⟨cv,rfl,hcv,hq⟩;rw [HIK.out] at hcv |-;dsimp only at hcv |-;have HCV:=Hd hcv;obtain ⟨an,hanG⟩:∃ x,x = kj + (sep ts).length + k2:=⟨_,rfl⟩;obtain ⟨AT,hATG⟩:∃ x,x = TJ ++ sep ts ++ TF:=⟨_,rfl⟩;rw [<- hATG] at HCV HAN hcv;rw [<- hanG] at HAN HAB;have HATJ:=Hd hATG.symm;have HANG:=Hd hanG.symm;obtain ⟨ca,cc,rfl,_,_⟩:=hcv.form0 HAN.out;clear hcv hanG hATG;replace HQ:=Hd (Q.trans HQ.out hq);replace HQ1:=Hd (Q.trans HQ1.out hq);replace HOX:=Hd (Bk.q HOX.out hq);replace HLI:=Hd (Lst.q HLI.out hq);replace HLF:=Hd (Lst.q HLF.out hq);replace HOV:=Hd (GLst.q HOV.out hq);clear hq;clear HRE HIK;obtain ⟨u42,hwu42⟩:∃ z,z = u41.alloc (.cells #[.bool tg,.slice ca an cc] 47):=⟨_,rfl⟩;have hq:Q u41 u42:=by rw [hwu42];exact (Q.refl _).alloc _
   have HCX:=Hd (show Bk u42 u41.heap.size 47 [.bool tg,.slice ca an cc] by rw [hwu42];exact Bk.new _ _ _);obtain ⟨bC,hbbC⟩:∃ k,k = u41.heap.size:=⟨_,rfl⟩;rw [<- hbbC] at HCX;replace HQ:=Hd (Q.trans HQ.out hq);replace HQ1:=Hd (Q.trans HQ1.out hq);replace HOX:=Hd (Bk.q HOX.out hq);replace HLI:=Hd (Lst.q HLI.out hq);replace HLF:=Hd (Lst.q HLF.out hq);replace HOV:=Hd (GLst.q HOV.out hq);replace HCV:=Hd (Lst.q HCV.out hq);clear hq;go_upto_region 18 with fail
   rw [<- hwu42,<- hbbC];clear hwu42 hbbC;have HAS:=Hd (fun x (q:Q u42 x)=>show Calls Tryz.prog 15 #[.agg #[.bool tg,.slice oa kj oc,.bool ts,.slice i2 k2 j2]] x fun e w'=>∃ a c,e = .returned (.slice a an c) /\ Lst w' (.slice a an c) AT /\ Q x w' from by
    refine (Tr.atoms_any tg ts oa i2 kj k2 oc j2 TJ TF x (HLI.out.q q) (HLF.out.q q) HKJ.out HK2.out (by omega) (by omega)).mono ?_;rintro e w' ⟨a,c,rfl,ho,hq⟩;rw [HANG.out] at ho |-;rw [HATJ.out] at ho;exact ⟨a,c,rfl,ho.lst,hq⟩)
   have HSA:=Hd (fun x (q:Q u42 x) a c (h:Lst x (.slice a an c) AT)=>show Calls Tryz.prog 18 #[.slice ca an cc,.slice a an c] x fun e w'=>e = .returned (.bool true) /\ Q x w' from by
    have h2:=Ur.same_any _ _ AT AT x (HCV.out.q q) h (by have:=HAB.out;rw [HAN.out];omega) (by have:=HAB.out;rw [HAN.out];omega);rwa [decide_eq_true rfl] at h2)
   have htt:(tg == tg) = true:=by simp
   refine wp_region_held_drew (S:=fun u=>Q u42 u) (by kernel_rfl) (by exact (Q.refl u42).drew) (fun hHeld=>?_);have hS:Q u42 u42.drew:=hHeld;clear hHeld;have hq:Q u42 u42.drew:=(Q.refl _).drew;clear hq;generalize u42.drew = yR1x0 at *;change wpAnyH _ _ _ _ _ _ #[ff,ff,ff,ff,ff,ff,ff,ff,ff,ff,ff,ff,ff,ff,ff,ff,ff,ff,ff,ff] _ _;refine tk 0 (by simp only [gA,gB,gC];rfl) (by first | kernel_rfl | rfl) (fun uz _=>by go_simp;try with_reducible rfl) pq hS ?_;try simp only [Act.put,sA,sB,sC]
   refine tk 1 (by simp only [gA,gB,gC];rfl) (by first | kernel_rfl | rfl) (fun uz _=>by go_simp;try with_reducible rfl) pq hS ?_;try simp only [Act.put,sA,sB,sC]
   refine tk 2 (by simp only [gA,gB,gC];rfl) (by first | kernel_rfl | rfl) (fun uz _=>by go_simp;try with_reducible rfl) pq hS ?_;try simp only [Act.put,sA,sB,sC]
   refine tk 3 (by simp only [gA,gB,gC];rfl) (by first | kernel_rfl | rfl) (fun uz _=>by go_simp;try with_reducible rfl) pq hS ?_;try simp only [Act.put,sA,sB,sC]
   refine tk 4 (by simp only [gA,gB,gC];rfl) (by first | kernel_rfl | rfl) (fun uz hSw=>by (try dsimp only at hSw);have q:=(Bk.q HCX.out hSw).cell 0 rfl;go_simp;try with_reducible rfl) pq hS ?_;try simp only [Act.put,sA,sB,sC]
   refine tk 5 (by simp only [gA,gB,gC];rfl) (by first | kernel_rfl | rfl) (fun uz _=>by go_simp;try with_reducible rfl) pq hS ?_;try simp only [Act.put,sA,sB,sC]
   refine tk 6 (by simp only [gA,gB,gC];rfl) (by first | kernel_rfl | rfl) (fun uz hSw=>by (try dsimp only at hSw);have q:=(Bk.q HOX.out hSw).cell 0 rfl;go_simp;try with_reducible rfl) pq hS ?_;try simp only [Act.put,sA,sB,sC]
   refine tk 7 (by simp only [gA,gB,gC];rfl) (by first | kernel_rfl | rfl) (fun uz _=>by go_simp;try with_reducible rfl) pq hS ?_;try simp only [Act.put,sA,sB,sC]
   refine tk 8 (by simp only [gA,gB,gC];rfl) (by first | kernel_rfl | rfl) (fun uz _=>by go_simp;try with_reducible rfl) pq hS ?_;try simp only [Act.put,sA,sB,sC]
   refine tk 9 (by simp only [gA,gB,gC];rfl) (by first | kernel_rfl | rfl) (fun uz _=>by go_simp;try with_reducible rfl) pq hS ?_;try simp only [Act.put,sA,sB,sC]
   refine tk 10 (by simp only [gA,gB,gC];rfl) (by first | kernel_rfl | rfl) (fun uz _=>by go_simp;try with_reducible rfl) pq hS ?_;try simp only [Act.put,sA,sB,sC]
   refine tk 11 (by simp only [gA,gB,gC];rfl) (by first | kernel_rfl | rfl) (fun uz hSw=>by (try dsimp only at hSw);have q:=(Bk.q HCX.out hSw).cell 1 rfl;go_simp;try with_reducible rfl) pq hS ?_;try simp only [Act.put,sA,sB,sC]
   refine tk 12 (by simp only [gA,gB,gC];rfl) (by first | kernel_rfl | rfl) (fun uz hSw=>by (try dsimp only at hSw);refine ld_row (x:=.tmp 13) ?_ ?_ (Bk.q HOX.out hSw) Tryz.underlying43 (by exact Rs.infoD) <;> rfl) pq hS ?_
   try simp only [Act.put,sA,sB,sC]
   refine wpAnyH_ready (rs:=[13]) (by kernel_rfl) (by simp) ?_;refine ar (by (try simp only [gA,gB,gC]);rfl) fun K hK=>?_;go_simp
   refine (HAS.out _ hS).mono ?_;rintro e yR1x14 ⟨av,ac,rfl,hov,hq⟩;have HAV:=Hd hov;clear hov;try (go_wp2_with fail)
   have hS2:=Q.trans hS hq;refine hK.out _ _ (by exact hS2) (fun hHeld=>?_);clear hK K hHeld hS hq;have hS:=hS2;clear hS2;try simp only [Act.put,sA,sB,sC]
   refine wpAnyH_ready (rs:=[14]) (by kernel_rfl) (by simp) ?_;refine ar (by (try simp only [gA,gB,gC]);rfl) fun K hK=>?_;go_simp
   refine (HSA.out _ hS _ _ HAV.out).mono ?_;rintro e yR1x15 ⟨rfl,hq⟩;try (go_wp2_with fail)
   have HAV:=Hd (Lst.q HAV.out hq);have hS2:=Q.trans hS hq;refine hK.out _ _ (by exact hS2) (fun hHeld=>?_);clear hK K hHeld hS hq;have hS:=hS2;clear hS2;try simp only [Act.put,sA,sB,sC]
   refine tk 15 (by simp only [gA,gB,gC];rfl) (by first | kernel_rfl | rfl) (fun uz _=>by go_simp;try with_reducible rfl) pq hS ?_;try simp only [Act.put,sA,sB,sC]
   refine tk 16 (by simp only [gA,gB,gC];rfl) (by first | kernel_rfl | rfl) (fun uz _=>by go_simp;try with_reducible rfl) pq hS ?_;try simp only [Act.put,sA,sB,sC]
   refine wpAnyH_ready (rs:=[17]) (by kernel_rfl) (by simp) ?_;refine ar (by (try simp only [gA,gB,gC]);rfl) fun K hK=>?_;go_simp
   refine (Ps.lives_any _).mono ?_;rintro e yR1x18 ⟨rfl,hq⟩;try (go_wp2_with fail)
   have HAV:=Hd (Lst.q HAV.out hq);have hS2:=Q.trans hS hq;refine hK.out _ _ (by exact hS2) (fun hHeld=>?_);clear hK K hHeld hS hq;have hS:=hS2;clear hS2;try simp only [Act.put,sA,sB,sC]
   refine tk 18 (by simp only [gA,gB,gC];rfl) (by first | kernel_rfl | rfl) (fun uz _=>by go_simp;try with_reducible rfl) pq hS ?_;try simp only [Act.put,sA,sB,sC]
   refine tk 19 (by simp only [gA,gB,gC];rfl) (by first | kernel_rfl | rfl) (fun uz _=>by go_simp;try with_reducible rfl) pq hS ?_;try simp only [Act.put,sA,sB,sC]
   refine wpAnyH_done (by kernel_rfl) ?_ _;have HQF:=Hd (HQ.out.trans hS);clear hS;go_wp2_with fail
   go_ret
   exact ⟨rfl,HQF.out⟩
end Ps
end
end Go.Proofs.YteggfkbnnmpcjaaGreatDoor
