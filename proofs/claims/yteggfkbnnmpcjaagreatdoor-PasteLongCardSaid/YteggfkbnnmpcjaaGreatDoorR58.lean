/- A text of more than 4096 bytes is refused ahead of all else; one of 4096 is read. (and more) -/
import Derived.Test.YteggfkbnnmpcjaaGreatDoorR57
set_option linter.all false
set_option maxRecDepth 100000
set_option maxHeartbeats 8000000
namespace Go.Proofs.YteggfkbnnmpcjaaGreatDoor
section
open Go.RowKit
namespace Ps
open Um Cm Gm Im Lo Sx Tm
theorem law_long (g0 g1 g2 g3 g4 g5 n a:Int) (w:World) (h0:-9223372036854775808 <= g0 /\ g0 <= 9223372036854775807) (h1:-9223372036854775808 <= g1 /\ g1 <= 9223372036854775807) (h2:-9223372036854775808 <= g2 /\ g2 <= 9223372036854775807) (h3:-9223372036854775808 <= g3 /\ g3 <= 9223372036854775807) (h4:-9223372036854775808 <= g4 /\ g4 <= 9223372036854775807) (h5:-9223372036854775808 <= g5 /\ g5 <= 9223372036854775807) (hn:-9223372036854775808 <= n /\ n <= 9223372036854775807) (ha:-9223372036854775808 <= a /\ a <= 9223372036854775807) :
  Calls Tryz.prog 6 #[.agg #[.int .i64 g0,.int .i64 g1,.int .i64 g2,.int .i64 g3,.int .i64 g4,.int .i64 g5],.int .i64 n,.int .i64 a] w fun e w'=>e = .returned (.bool true) /\ Q w w':=by
 have HBE:=Hd (fun u=>Ps.begin_any g0 g1 g2 g3 g4 g5 n u h0 h1 h2 h3 h4 h5 hn);have HRA:=Hd (fun u=>Ur.around_any a 11 u ha.1 ha.2 (by omega) (by omega));have hab:=around_bd a 11 (by omega);obtain ⟨m,hm⟩:∃ x:Nat,x = (around a 11).toNat:=⟨_,rfl⟩;rw [show around a 11 = (m:Int) by omega] at HRA;have hm10:m <= 10:=by omega
 clear hm hab h0 h1 h2 h3 h4 h5 hn ha;obtain ⟨y0,hy0⟩:∃ z,z = w.alloc (.cells #[.int .i64 g0,.int .i64 g1,.int .i64 g2,.int .i64 g3,.int .i64 g4,.int .i64 g5] 23):=⟨_,rfl⟩;have hq0:Q w y0:=by rw [hy0];exact (Q.refl _).alloc _
 have hs0:y0.heap.size = w.heap.size + 1:=by rw [hy0];simp
 have hc0:Bk y0 w.heap.size 23 [.int .i64 g0,.int .i64 g1,.int .i64 g2,.int .i64 g3,.int .i64 g4,.int .i64 g5]:=by rw [hy0];exact Bk.new _ _ _
 have HQ:=Hd hq0;have HGX:=Hd hc0;have hz2:y0 = w.alloc (.cells #[.int .i64 g0,.int .i64 g1,.int .i64 g2,.int .i64 g3,.int .i64 g4,.int .i64 g5] 23):=by rw [hy0]
 obtain ⟨bG,hbbG⟩:∃ k,k = w.heap.size:=⟨_,rfl⟩;clear hq0 hs0 hc0 hy0;go_enter Tryz.func6,Tryz.ntmps6
 go_upto_region 1 with fail
 rw [<- hz2,<- hbbG];rw [<- hbbG] at HGX;clear hz2 hbbG;have xHGX0:=HGX.out.cell 0 rfl;have xHGX1:=HGX.out.cell 1 rfl;have xHGX2:=HGX.out.cell 2 rfl;have xHGX3:=HGX.out.cell 3 rfl;have xHGX4:=HGX.out.cell 4 rfl;have xHGX5:=HGX.out.cell 5 rfl;go_wp2_with fail
 clear xHGX0 xHGX1 xHGX2 xHGX3 xHGX4 xHGX5;clear HGX;refine (HBE.out _).mono ?_;rintro e w1 ⟨r,X,pv,vv,hok,rfl,⟨g,pa,pb,pc,pd,pcl,rfl,hpl,hsl⟩,⟨la,lb,lc,ld,rfl,hrl⟩,hq⟩;have HOK:=Hd hok.lok;have HPO:=Hd hok;obtain ⟨a1,a2,rfl⟩:=hrl.1.shape;obtain ⟨b1,b2,rfl⟩:=hrl.2.1.shape;obtain ⟨c1,c2,rfl⟩:=hrl.2.2.1.shape;obtain ⟨d1,d2,rfl⟩:=hrl.2.2.2.shape;have HCF:=Hd (show (Lm.clus r X).length <= 1073741824 from Nat.le_trans (Lo.clus_len hok.lok.ok) (by omega));have HRE:=Hd (fun u (q:Q w1 u) s hs=>Ps.read_any g r X pa pb pc pd pcl s u (hpl.q q) (hsl.q q) (HCF.out) hs);replace HQ:=Hd (Q.trans HQ.out hq);clear hq hpl hsl hrl hok HBE;have HQ1:=Hd (Q.refl w1);obtain ⟨u1,hwu1⟩:∃ z,z = w1.alloc (.cells #[.string (Lm.bs r.nam),.string (Lm.bs r.pat),.string (Lm.bs r.sys),.string (Lm.bs r.dec),.string (Lm.bs r.grp),.string (Lm.bs r.min),.string (Lm.bs r.per),.string (Lm.bs r.cur),.slice a1 X.pre.length a2,.slice b1 X.suf.length b2,.slice c1 X.npre.length c2,.slice d1 X.nsuf.length d2,.int .i64 X.pr,.int .i64 X.se,.int .i64 X.mi,.int .i64 X.mf,.int .i64 X.xf] 31):=⟨_,rfl⟩;have hq:Q w1 u1:=by rw [hwu1];exact (Q.refl _).alloc _
 have HLX:=Hd (show Bk u1 w1.heap.size 31 [.string (Lm.bs r.nam),.string (Lm.bs r.pat),.string (Lm.bs r.sys),.string (Lm.bs r.dec),.string (Lm.bs r.grp),.string (Lm.bs r.min),.string (Lm.bs r.per),.string (Lm.bs r.cur),.slice a1 X.pre.length a2,.slice b1 X.suf.length b2,.slice c1 X.npre.length c2,.slice d1 X.nsuf.length d2,.int .i64 X.pr,.int .i64 X.se,.int .i64 X.mi,.int .i64 X.mf,.int .i64 X.xf] by rw [hwu1];exact Bk.new _ _ _);obtain ⟨bL,hbbL⟩:∃ k,k = w1.heap.size:=⟨_,rfl⟩;rw [<- hbbL] at HLX;replace HQ:=Hd (Q.trans HQ.out hq);replace HQ1:=Hd (Q.trans HQ1.out hq);clear hq;go_upto_region 2 with fail
 unfold Ro.lV;rw [<- hwu1,<- hbbL];clear hwu1 hbbL;clear HLX;have HQ0:=HQ;have HQ10:=HQ1;obtain ⟨K,hK⟩:∃ x:Nat,x = 4090 + m:=⟨_,rfl⟩;have HC1:=Hd (long_sev HPO.out K (by omega));have HC2:=Hd (long_ctl HPO.out (K - 1));rw [show K - 1 + 1 = K by omega] at HC2;have hKi:(4090:Int) + (m:Int) = (K:Int):=by omega
 have HKI:=Hd hKi;have hK1:4090 <= K:=by omega
 have hK2:K <= 4100:=by omega
 go_wp2_with fail
 refine (HRA.out _).mono ?_;rintro e _ ⟨rfl,rfl⟩;have hbk:∀ x,x = (4090:Int) + (m:Int) -> x = (K:Int):=fun x h=>h.trans HKI.out;clear hKi;go_upto_region 5 with fail
 try rw [HKI.out]
 clear hK hm10 HKI hbk HRA;go_wp2_with (at_make;refine make_bytes rfl _ _ rfl K _ (by rfl) (by rfl) rfl (by omega) (Nat.le_refl _) ?_)
 intro w5 ho5 hq5;have HO5:=Hd ho5;obtain ⟨gb,hgb⟩:∃ x,x = u1.heap.size:=⟨_,rfl⟩;rw [<- hgb] at HO5 |-;have hgB:u1.heap.size <= gb:=by omega
 have HGB:=Hd hgB;have HQ5:=Hd hq5;clear ho5 hq5 hgb;go_wp2_with fail
 go_loopw [11] (fun t wr=>∃ k:Nat,t = .int .i64 k /\ k <= K /\ BOwn wr gb (.slice (some ⟨gb,0,none⟩) K K) (List.replicate k 55 ++ List.replicate (K - k) 0) /\ Q u1 wr) (fun t _=>K - (intOf t).toNat)
 case atStart=>exact ⟨0,rfl,by omega,HO5.out,HQ5.out⟩
 case round =>
  obtain ⟨k,rfl,hk,ho,hq⟩:=hrel;have HO:=Hd ho;clear ho;have hlen:(List.replicate k (55:Int) ++ List.replicate (K - k) 0).length = K:=by rw [List.length_append,List.length_replicate,List.length_replicate];omega
  by_cases hlt:k < K
  ·have c2:=GOwn.cellAt HO.out hlen (k:=k) (x:=0) (by rw [List.getElem?_append_right (by simp),List.length_replicate,List.getElem?_replicate,if_pos (by omega)])
   have f2:=GOwn.freeAt HO.out hlen k;have hos:=GOwn.stored HO.out hlen k 55;rw [rep_set K k hlt] at hos;have HOS:=Hd hos;have HQS:=Hd (fun u=>hq.setCell (ad:=⟨gb,k,none⟩) hgB u);clear hos hlen hq;go_wp2_with fail
   exact ⟨⟨k + 1,by go_num,by omega,HOS.out,HQS.out _⟩,by simp [intOf];omega⟩
  ·have hkn:k = K:=by omega
   have ho:=HO.out;rw [hkn,Nat.sub_self,List.replicate_zero,List.append_nil] at ho;have HBY:=Hd ho;have hcv:=conv_own ho (List.length_replicate ..);have HZ:=Hd (show (strOfNums (List.replicate K 55)).size <= 1073741824 by rw [nums_size,List.length_replicate];omega);have HQR:=Hd hq;have hs0:(List.replicate K (55:Int)).set 0 1 = 1 :: List.replicate (K - 1) 55:=by
    have e:K = (K - 1) + 1:=by omega
    rw [e,List.replicate_succ,List.set_cons_zero];rfl
   have HS0:=Hd hs0;generalize strOfNums (List.replicate K 55) = S1 at *;clear ho hlen hq hs0 hkn HO HO5 HQ5;replace HQ:=Hd (Q.trans HQ.out HQR.out);replace HQ1:=Hd (Q.trans HQ1.out HQR.out);have HQU:=Hd (show Q u1 wr from HQR.out);have HOK2:=HBY;go_wp2_with fail
   refine (HRE.out _ HQ1.out S1 HZ.out).mono ?_;rintro e u41 ⟨cv,rfl,hcv2,hq⟩;rw [HC1.out] at hcv2 |-;obtain ⟨an,han⟩:∃ x,x = (if 4096 < K then (false,([]:List Int),(3:Int)) else (false,List.replicate K 7,0)).2.1.length:=⟨_,rfl⟩
   obtain ⟨er,her⟩:∃ x,x = (if 4096 < K then (false,([]:List Int),(3:Int)) else (false,List.replicate K 7,0)).2.2:=⟨_,rfl⟩
   have hg1:(if 4096 < K then (false,([]:List Int),(3:Int)) else (false,List.replicate K 7,0)).1 = false:=by split <;> rfl
   rw [hg1,<- her];obtain ⟨ca,cc,rfl,_,_⟩:=hcv2.form0 han.symm;have HAN:=Hd (show (4096 < K -> an = 0 /\ er = 3) /\ (¬ 4096 < K -> an = K /\ er = 0) from ⟨fun h=>by rw [han,her,if_pos h];exact ⟨rfl,rfl⟩,fun h=>by rw [han,her,if_neg h];exact ⟨List.length_replicate ..,rfl⟩⟩);clear hcv2 han her hg1;replace HQ:=Hd (Q.trans HQ.out hq);replace HQ1:=Hd (Q.trans HQ1.out hq);replace HQU:=Hd (Q.trans HQU.out hq);replace HOK2:=Hd (GOwn.q HOK2.out hq);clear hq;have HOK2P:=HOK2;obtain ⟨u42,hwu42⟩:∃ z,z = u41.alloc (.cells #[.bool false,.slice ca an cc] 47):=⟨_,rfl⟩;have hq:Q u41 u42:=by rw [hwu42];exact (Q.refl _).alloc _
   have HCX:=Hd (show Bk u42 u41.heap.size 47 [.bool false,.slice ca an cc] by rw [hwu42];exact Bk.new _ _ _);obtain ⟨bC,hbbC⟩:∃ k,k = u41.heap.size:=⟨_,rfl⟩;rw [<- hbbC] at HCX;replace HQ:=Hd (Q.trans HQ.out hq);replace HQ1:=Hd (Q.trans HQ1.out hq);replace HQU:=Hd (Q.trans HQU.out hq);replace HOK2:=Hd (GOwn.q HOK2.out hq);clear hq;go_upto_region 11 with fail
   have HNE:=Hd (show gb ≠ bC by rw [hbbC];have h:=(HOK2P.out.lt gb rfl).2;omega);rw [<- hwu42,<- hbbC];clear hwu42 hbbC;have c0:=GOwn.cellAt HOK2.out (List.length_replicate ..) (k:=0) (x:=55) (by rw [List.getElem?_replicate,if_pos (by omega)]);have f0:=GOwn.freeAt HOK2.out (List.length_replicate ..) 0;have hos:=GOwn.stored HOK2.out (List.length_replicate ..) 0 1;rw [HS0.out] at hos;have hos2:=hos;obtain ⟨w9,hw9⟩:∃ z,z = u42.setCell ⟨gb,0,none⟩ (.int .u8 1):=⟨_,rfl⟩;rw [<- hw9] at hos;have HOZ:=Hd hos;have HQ9:=Hd (show Q u1 w9 by rw [hw9];exact Q.setCell HQU.out (ad:=⟨gb,0,none⟩) HGB.out _);have HQW:=Hd (show Q w w9 by rw [hw9];exact Q.setCell HQ.out (ad:=⟨gb,0,none⟩) (Nat.le_trans HQ0.out.le HGB.out) _);have HQ19:=Hd (show Q w1 w9 by rw [hw9];exact Q.setCell HQ1.out (ad:=⟨gb,0,none⟩) (Nat.le_trans HQ10.out.le HGB.out) _);have HCX9:=Hd (show Bk w9 bC 47 [.bool false,.slice ca an cc] by rw [hw9];exact HCX.out.past HNE.out _);have hcv3:=conv_own hos (show (1 :: List.replicate (K - 1) 55).length = K by rw [List.length_cons,List.length_replicate];omega);have HZ2:=Hd (show (strOfNums (1 :: List.replicate (K - 1) 55)).size <= 1073741824 by rw [nums_size,List.length_cons,List.length_replicate];omega);generalize strOfNums (1 :: List.replicate (K - 1) 55) = S2 at *;clear hos hos2 hcv;go_upto_region 12 with fail
   rw [<- hw9];clear hw9 c0 f0;go_wp2_with fail
   refine (HRE.out _ HQ19.out S2 HZ2.out).mono ?_;rintro e u43 ⟨dv,rfl,hdv,hq⟩;rw [HC2.out] at hdv |-;obtain ⟨dn,hdn⟩:∃ x,x = (if 4096 < K then (false,([]:List Int),(3:Int)) else (false,[],2)).2.1.length:=⟨_,rfl⟩
   obtain ⟨fr,hfr⟩:∃ x,x = (if 4096 < K then (false,([]:List Int),(3:Int)) else (false,[],2)).2.2:=⟨_,rfl⟩
   have hg1:(if 4096 < K then (false,([]:List Int),(3:Int)) else (false,[],2)).1 = false:=by split <;> rfl
   rw [hg1,<- hfr];obtain ⟨da,dc,rfl,_,_⟩:=hdv.form0 hdn.symm;have HFR:=Hd (show (4096 < K -> fr = 3) /\ (¬ 4096 < K -> fr = 2) from ⟨fun h=>by rw [hfr,if_pos h],fun h=>by rw [hfr,if_neg h]⟩);clear hdv hdn hfr hg1 hcv3;replace HQW:=Hd (Q.trans HQW.out hq);replace HCX9:=Hd (Bk.q HCX9.out hq);clear hq;obtain ⟨u44,hwu44⟩:∃ z,z = u43.alloc (.cells #[.bool false,.slice da dn dc] 47):=⟨_,rfl⟩;have hq:Q u43 u44:=by rw [hwu44];exact (Q.refl _).alloc _
   have HEX:=Hd (show Bk u44 u43.heap.size 47 [.bool false,.slice da dn dc] by rw [hwu44];exact Bk.new _ _ _);obtain ⟨bE,hbbE⟩:∃ k,k = u43.heap.size:=⟨_,rfl⟩;rw [<- hbbE] at HEX;replace HQW:=Hd (Q.trans HQW.out hq);replace HCX9:=Hd (Bk.q HCX9.out hq);clear hq;go_upto_region 13 with fail
   rw [<- hwu44,<- hbbE];clear hwu44 hbbE;have y1:=HCX9.out.cell 1 rfl;by_cases hbig:4096 < K
   ·obtain ⟨rfl,rfl⟩:=HAN.out.1 hbig
    obtain rfl:=HFR.out.1 hbig;have hbi:(4096:Int) < (K:Int):=by omega
    go_wp2_with fail
    refine (Ps.lives_any _).mono ?_;rintro e wz ⟨rfl,hqz⟩;have HQZ:=Hd (HQW.out.trans hqz);clear hqz;go_wp2_with fail
    go_ret
    exact ⟨rfl,HQZ.out⟩
   ·obtain ⟨hanK,rfl⟩:=HAN.out.2 hbig
    subst hanK;obtain rfl:=HFR.out.2 hbig;have hbi:¬ (4096:Int) < (an:Int):=by omega
    go_wp2_with fail
    refine (Ps.lives_any _).mono ?_;rintro e wz ⟨rfl,hqz⟩;have HQZ:=Hd (HQW.out.trans hqz);clear hqz;go_wp2_with fail
    go_ret
    exact ⟨rfl,HQZ.out⟩
end Ps
end
end Go.Proofs.YteggfkbnnmpcjaaGreatDoor
