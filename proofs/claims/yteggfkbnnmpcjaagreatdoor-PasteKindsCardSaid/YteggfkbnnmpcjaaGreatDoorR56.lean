/- What a cluster is is told as the document says. (and more) -/
import Derived.Test.YteggfkbnnmpcjaaGreatDoorR54
import Derived.Test.YteggfkbnnmpcjaaGreatDoorR50
set_option linter.all false
set_option maxRecDepth 100000
set_option maxHeartbeats 8000000
namespace Go.Proofs.YteggfkbnnmpcjaaGreatDoor
section
open Go.RowKit
namespace Ps
open Um Cm Gm Im Lo Sx Tm
theorem sym_small {r:Lm.Rec} {X:Pt.Pat} (h:It.LOk r X):(Lm.bs r.dec).size <= 64 /\ (Lm.bs r.grp).size <= 64 /\ (Lm.bs r.min).size <= 64:=by
 have e:∀ l:List UInt8,(Lm.bs l).size = l.length:=fun l=>by unfold Lm.bs;simp [ByteArray.size]
 have h1:=(sym_pln h.ok.dec).2;have h2:=(sym_pln h.ok.min).2;have h3:r.grp.length <= 16:=by
  by_cases hp:0 < X.pr
  ·exact (sym_pln (h.ok.grp1 hp)).2
  ·rw [h.ok.grp0 hp];decide
 rw [e,e,e];omega
def kL (t d g m:ByteArray):List ByteArray:=[t,⟨#[]⟩,d,g,m,⟨#[46]⟩,⟨#[45]⟩,⟨#[226,136,146]⟩,⟨#[32]⟩,⟨#[49]⟩,⟨#[217,161]⟩,⟨#[120]⟩,⟨#[36]⟩]
theorem kL_len (t d g m:ByteArray):(kL t d g m).length = 13:=rfl
theorem kL_made (t d g m:ByteArray) (w:World):SLst (w.alloc (.cells #[.string t,.string ⟨#[]⟩,.string d,.string g,.string m,.string ⟨#[46]⟩,.string ⟨#[45]⟩,.string ⟨#[226,136,146]⟩,.string ⟨#[32]⟩,.string ⟨#[49]⟩,.string ⟨#[217,161]⟩,.string ⟨#[120]⟩,.string ⟨#[36]⟩] 9)) (.slice (some ⟨w.heap.size,0,none⟩) 13 13) (kL t d g m) :=
 GLst.made Value.string 9 w (kL t d g m) 13 rfl (by unfold maxLen;omega)
theorem kC_small:∀ x ∈ ([⟨#[]⟩,⟨#[46]⟩,⟨#[45]⟩,⟨#[226,136,146]⟩,⟨#[32]⟩,⟨#[49]⟩,⟨#[217,161]⟩,⟨#[120]⟩,⟨#[36]⟩]:List ByteArray),x.size <= 64:=by decide +kernel
theorem kL_small {P:List ByteArray} {t d g m:ByteArray} (hP:∀ x ∈ P,x.size <= t.size) (ht:t.size <= 12) (hd:d.size <= 64) (hg:g.size <= 64) (hm:m.size <= 64) (k:Nat) (hk:k < (P ++ kL t d g m).length):((P ++ kL t d g m).getD k ⟨#[]⟩).size <= 1073741824:=by
 have e:(P ++ kL t d g m).getD k ⟨#[]⟩ = (P ++ kL t d g m)[k]:=by rw [List.getD_eq_getElem?_getD,List.getElem?_eq_getElem hk];rfl
 rw [e];have hx:=List.getElem_mem hk;generalize (P ++ kL t d g m)[k] = x at hx |-;rcases List.mem_append.1 hx with h | h
 ·have:=hP x h;omega
 ·unfold kL at h
  have hc:=kC_small x;simp only [List.mem_cons,List.not_mem_nil,or_false] at h hc;rcases h with h | h | h | h | h | h
  ·rw [h];omega
  ·have:=hc (.inl h);omega
  ·rw [h];omega
  ·rw [h];omega
  ·rw [h];omega
  ·have:=hc (.inr h);omega
theorem pcs_small (t:ByteArray):∀ x ∈ pcs t,x.size <= t.size:=by
 intro x hx;unfold pcs at hx;obtain ⟨j,_,rfl⟩:=List.mem_map.1 hx;exact pc_size_le t _ j
theorem law_kinds (g0 g1 g2 g3 g4 g5 n:Int) (s:ByteArray) (w:World) (h0:-9223372036854775808 <= g0 /\ g0 <= 9223372036854775807) (h1:-9223372036854775808 <= g1 /\ g1 <= 9223372036854775807) (h2:-9223372036854775808 <= g2 /\ g2 <= 9223372036854775807) (h3:-9223372036854775808 <= g3 /\ g3 <= 9223372036854775807) (h4:-9223372036854775808 <= g4 /\ g4 <= 9223372036854775807) (h5:-9223372036854775808 <= g5 /\ g5 <= 9223372036854775807) (hn:-9223372036854775808 <= n /\ n <= 9223372036854775807) (hs:s.size <= maxLen) :
  Calls Tryz.prog 3 #[.agg #[.int .i64 g0,.int .i64 g1,.int .i64 g2,.int .i64 g3,.int .i64 g4,.int .i64 g5],.int .i64 n,.string s] w fun e w'=>e = .returned (.bool true) /\ Q w w':=by
 have HBE:=Hd (fun u=>Ps.begin_any g0 g1 g2 g3 g4 g5 n u h0 h1 h2 h3 h4 h5 hn);have HFW:=Hd (fun u=>Ur.few_any s 12 u hs (by omega));rw [show ((12:Nat):Int) = 12 from rfl] at HFW;have hts:=Ur.few_size s 12;generalize Ur.few s 12 = t at *;clear hs h0 h1 h2 h3 h4 h5 hn;obtain ⟨y0,hy0⟩:∃ z,z = w.alloc (.cells #[.int .i64 g0,.int .i64 g1,.int .i64 g2,.int .i64 g3,.int .i64 g4,.int .i64 g5] 23):=⟨_,rfl⟩;have hq0:Q w y0:=by rw [hy0];exact (Q.refl _).alloc _
 have hs0:y0.heap.size = w.heap.size + 1:=by rw [hy0];simp
 have hc0:Bk y0 w.heap.size 23 [.int .i64 g0,.int .i64 g1,.int .i64 g2,.int .i64 g3,.int .i64 g4,.int .i64 g5]:=by rw [hy0];exact Bk.new _ _ _
 have HQ:=Hd hq0;have HGX:=Hd hc0;have hz2:y0 = w.alloc (.cells #[.int .i64 g0,.int .i64 g1,.int .i64 g2,.int .i64 g3,.int .i64 g4,.int .i64 g5] 23):=by rw [hy0]
 obtain ⟨bG,hbbG⟩:∃ k,k = w.heap.size:=⟨_,rfl⟩;clear hq0 hs0 hc0 hy0;go_enter Tryz.func3,Tryz.ntmps3
 go_upto_region 1 with fail
 rw [<- hz2,<- hbbG];rw [<- hbbG] at HGX;clear hz2 hbbG;have xHGX0:=HGX.out.cell 0 rfl;have xHGX1:=HGX.out.cell 1 rfl;have xHGX2:=HGX.out.cell 2 rfl;have xHGX3:=HGX.out.cell 3 rfl;have xHGX4:=HGX.out.cell 4 rfl;have xHGX5:=HGX.out.cell 5 rfl;go_wp2_with fail
 clear xHGX0 xHGX1 xHGX2 xHGX3 xHGX4 xHGX5;clear HGX;refine (HBE.out _).mono ?_;rintro e w1 ⟨r,X,pv,vv,hok,rfl,⟨g,pa,pb,pc,pd,pcl,rfl,hpl,hsl⟩,⟨la,lb,lc,ld,rfl,hrl⟩,hq⟩;have HOK:=Hd hok.lok;have HPO:=Hd hok;obtain ⟨a1,a2,rfl⟩:=hrl.1.shape;obtain ⟨b1,b2,rfl⟩:=hrl.2.1.shape;obtain ⟨c1,c2,rfl⟩:=hrl.2.2.1.shape;obtain ⟨d1,d2,rfl⟩:=hrl.2.2.2.shape;have HCF:=Hd (show (Lm.clus r X).length <= 1073741824 from Nat.le_trans (Lo.clus_len hok.lok.ok) (by omega));have HK1:=Hd (fun u (q:Q w1 u) x hx=>Ps.kind_any g r X pa pb pc pd pcl x u (hpl.q q) (hsl.q q) HCF.out hx);have HK2:=Hd (fun u (q:Q w1 u) x hx=>Pq.kind_any r X _ _ _ _ x u hok.lok.ok (hrl.q q) hx);have HSM:=Hd (sym_small hok.lok);replace HQ:=Hd (Q.trans HQ.out hq);clear hq hpl hsl hrl hok HBE;have HQ1:=Hd (Q.refl w1);obtain ⟨u1,hwu1⟩:∃ z,z = w1.alloc (.cells #[.string (Lm.bs r.nam),.string (Lm.bs r.pat),.string (Lm.bs r.sys),.string (Lm.bs r.dec),.string (Lm.bs r.grp),.string (Lm.bs r.min),.string (Lm.bs r.per),.string (Lm.bs r.cur),.slice a1 X.pre.length a2,.slice b1 X.suf.length b2,.slice c1 X.npre.length c2,.slice d1 X.nsuf.length d2,.int .i64 X.pr,.int .i64 X.se,.int .i64 X.mi,.int .i64 X.mf,.int .i64 X.xf] 31):=⟨_,rfl⟩;have hq:Q w1 u1:=by rw [hwu1];exact (Q.refl _).alloc _
 have HLX:=Hd (show Bk u1 w1.heap.size 31 [.string (Lm.bs r.nam),.string (Lm.bs r.pat),.string (Lm.bs r.sys),.string (Lm.bs r.dec),.string (Lm.bs r.grp),.string (Lm.bs r.min),.string (Lm.bs r.per),.string (Lm.bs r.cur),.slice a1 X.pre.length a2,.slice b1 X.suf.length b2,.slice c1 X.npre.length c2,.slice d1 X.nsuf.length d2,.int .i64 X.pr,.int .i64 X.se,.int .i64 X.mi,.int .i64 X.mf,.int .i64 X.xf] by rw [hwu1];exact Bk.new _ _ _);obtain ⟨bL,hbbL⟩:∃ k,k = w1.heap.size:=⟨_,rfl⟩;rw [<- hbbL] at HLX;replace HQ:=Hd (Q.trans HQ.out hq);replace HQ1:=Hd (Q.trans HQ1.out hq);clear hq;go_upto_region 2 with fail
 unfold Ro.lV;rw [<- hwu1,<- hbbL];clear hwu1 hbbL;go_wp2_with fail
 refine (HFW.out _).mono ?_;rintro e _ ⟨rfl,rfl⟩;go_wp2_with fail
 refine (Gr.split_any t _ (by omega)).mono ?_;rintro e w5 ⟨v,rfl,hov,hq5⟩;obtain ⟨va,vc,rfl⟩:=hov.shape;have HOV:=Hd hov;have hB5:u1.heap.size <= w5.heap.size:=hq5.le;have HB5:=Hd hB5;have HQ5:=Hd hq5;have HX5:=Hd (HLX.out.q hq5);have HPS:=Hd (pcs_small t);have HPN:=Hd (show (pcs t).length <= 12 from by
  rw [pcs_length];have:=begL_length t.data.toList;rw [size_list] at this;omega)
 clear hov hq5 hB5;generalize pcs t = P at *;have x3:=HX5.out.cell 3 rfl;have x4:=HX5.out.cell 4 rfl;have x5:=HX5.out.cell 5 rfl;have ho6:=HOV.out.q ((Q.refl w5).alloc (.cells #[.string t,.string ⟨#[]⟩,.string (Lm.bs r.dec),.string (Lm.bs r.grp),.string (Lm.bs r.min),.string ⟨#[46]⟩,.string ⟨#[45]⟩,.string ⟨#[226,136,146]⟩,.string ⟨#[32]⟩,.string ⟨#[49]⟩,.string ⟨#[217,161]⟩,.string ⟨#[120]⟩,.string ⟨#[36]⟩] 9));have hu6:=kL_made t (Lm.bs r.dec) (Lm.bs r.grp) (Lm.bs r.min) w5;have HO6:=Hd ho6;have HU6:=Hd hu6;have HLN:=Hd (show P.length + (kL t (Lm.bs r.dec) (Lm.bs r.grp) (Lm.bs r.min)).length < 1099511627776 by rw [kL_len];have:=HPN.out;omega);have HB6:=Hd (show u1.heap.size <= (w5.alloc (.cells #[.string t,.string ⟨#[]⟩,.string (Lm.bs r.dec),.string (Lm.bs r.grp),.string (Lm.bs r.min),.string ⟨#[46]⟩,.string ⟨#[45]⟩,.string ⟨#[226,136,146]⟩,.string ⟨#[32]⟩,.string ⟨#[49]⟩,.string ⟨#[217,161]⟩,.string ⟨#[120]⟩,.string ⟨#[36]⟩] 9)).heap.size by have:=HB5.out;simp;omega);clear ho6 hu6;go_wp2_with (at_builtin;refine gpushl elemS oneS HO6.out HU6.out rfl _ _ rfl (by rfl) (by rfl) HLN.out HB6.out ?_)
 intro v' w7 hown7 hgrow _;have HQ7:=Hd (show Q u1 w7 from (HQ5.out.alloc _).grown hgrow (fun y hy=>(HOV.out.lt y hy).1));obtain ⟨N,hN⟩:∃ k,k = (P ++ kL t (Lm.bs r.dec) (Lm.bs r.grp) (Lm.bs r.min)).length:=⟨_,rfl⟩;have hN13:0 < N:=by rw [hN,List.length_append,kL_len];omega
 have HNB:=Hd (show N <= 25 by rw [hN,List.length_append,kL_len];have:=HPN.out;omega);have HSB:=Hd (kL_small HPS.out hts HSM.out.1 HSM.out.2.1 HSM.out.2.2);have HOW:=Hd hown7.lst;clear hown7 hgrow;generalize P ++ kL t (Lm.bs r.dec) (Lm.bs r.grp) (Lm.bs r.min) = AL at *;rw [<- hN] at HSB;have HN:=Hd hN.symm;obtain ⟨gl,off,cap,rfl,hgl,hcap,hcm,_⟩:=HOW.out.cellOf (x:=AL.getD 0 ⟨#[]⟩) (k:=0) HN.out (by rw [List.getD_eq_getElem?_getD,List.getElem?_eq_getElem (by have:=HN.out;omega)];rfl);have HAT:=Hd (fun u (q:Q w7 u) k (hk:k < N)=>show u.cell? ⟨gl,off + k,none⟩ = some (.string (AL.getD k ⟨#[]⟩)) from by
  obtain ⟨_,_,_,hvv,_,_,_,cl⟩:=(HOW.out.q q).cellOf (x:=AL.getD k ⟨#[]⟩) (k:=k) HN.out (by rw [List.getD_eq_getElem?_getD,List.getElem?_eq_getElem (by have:=HN.out;omega)];rfl);cases hvv;exact cl)
 have HQW:=Hd (HQ.out.trans HQ7.out);have HQ17:=Hd (HQ1.out.trans HQ7.out);have HL7:=Hd (HLX.out.q HQ7.out);clear hN x3 x4 x5 HO6 HU6 HLN HB6 HOV HB5 HQ5 HX5 HPS HPN HSM HQ7 HQ HQ1 HLX HOW hgl hcap hcm;go_wp2_with fail
 go_loopw [10] (fun i wr=>∃ k:Nat,i = .int .i64 k /\ k <= N /\ Q w7 wr) (fun i _=>N - (intOf i).toNat)
 case atStart=>exact ⟨0,rfl,by omega,Q.refl _⟩
 case round =>
  obtain ⟨k,rfl,hk,hqr⟩:=hrel;by_cases hlt:k < N
  ·have HKA:=Hd (fun u (q:Q wr u)=>HK1.out u (HQ17.out.trans (hqr.trans q)) (AL.getD k ⟨#[]⟩) (HSB.out k hlt))
   have HKB:=Hd (fun u (q:Q wr u)=>HK2.out u (HQ17.out.trans (hqr.trans q)) (AL.getD k ⟨#[]⟩) (HSB.out k hlt));have HXU:=Hd (fun u (q:Q wr u)=>HAT.out u (hqr.trans q) k hlt);have HLW:=Hd (fun u (q:Q wr u)=>HL7.out.q (hqr.trans q));have HQR:=Hd hqr;generalize AL.getD k ⟨#[]⟩ = x at *;generalize kind r X x = K at *;have hkk:(K == K) = true:=by simp
   have hnb:=HNB.out;clear hqr;go_upto_region 10 with fail
   refine wp_region_held_drew (S:=fun u=>Q wr u) (by kernel_rfl) (by exact (Q.refl wr).drew) (fun hHeld=>?_);have hS:Q wr wr.drew:=hHeld;clear hHeld;have hq:Q wr wr.drew:=(Q.refl _).drew;clear hq;generalize wr.drew = yR1x0 at *;change wpAnyH _ _ _ _ _ _ #[ff,ff,ff,ff,ff,ff,ff,ff,ff,ff,ff,ff,ff] _ _;refine tk 0 (by simp only [gA,gB,gC];rfl) (by first | kernel_rfl | rfl) (fun uz _=>by go_simp;try with_reducible rfl) pq hS ?_;try simp only [Act.put,sA,sB,sC]
   refine tk 1 (by simp only [gA,gB,gC];rfl) (by first | kernel_rfl | rfl) (fun uz _=>by go_simp;try with_reducible rfl) pq hS ?_;try simp only [Act.put,sA,sB,sC]
   refine tk 2 (by simp only [gA,gB,gC];rfl) (by first | kernel_rfl | rfl) (fun uz _=>by go_simp;try with_reducible rfl) pq hS ?_;try simp only [Act.put,sA,sB,sC]
   refine tk 3 (by simp only [gA,gB,gC];rfl) (by first | kernel_rfl | rfl) (fun uz _=>by go_simp;try with_reducible rfl) pq hS ?_;try simp only [Act.put,sA,sB,sC]
   refine tk 4 (by simp only [gA,gB,gC];rfl) (by first | kernel_rfl | rfl) (fun uz hSw=>by (try dsimp only at hSw);have q:=HXU.out _ hSw;go_simp;try with_reducible rfl) pq hS ?_;try simp only [Act.put,sA,sB,sC]
   refine tk 6 (by simp only [gA,gB,gC];rfl) (by first | kernel_rfl | rfl) (fun uz hSw=>by (try dsimp only at hSw);refine ld_row (x:=.tmp 8) ?_ ?_ (HLW.out _ hSw) Tryz.underlying31 (by exact Ro.infoL) <;> rfl) pq hS ?_
   try simp only [Act.put,sA,sB,sC]
   refine tk 7 (by simp only [gA,gB,gC];rfl) (by first | kernel_rfl | rfl) (fun uz _=>by go_simp;try with_reducible rfl) pq hS ?_;try simp only [Act.put,sA,sB,sC]
   refine tk 8 (by simp only [gA,gB,gC];rfl) (by first | kernel_rfl | rfl) (fun uz _=>by go_simp;try with_reducible rfl) pq hS ?_;try simp only [Act.put,sA,sB,sC]
   refine tk 9 (by simp only [gA,gB,gC];rfl) (by first | kernel_rfl | rfl) (fun uz _=>by go_simp;try with_reducible rfl) pq hS ?_;try simp only [Act.put,sA,sB,sC]
   refine tk 10 (by simp only [gA,gB,gC];rfl) (by first | kernel_rfl | rfl) (fun uz hSw=>by (try dsimp only at hSw);have q:=HXU.out _ hSw;go_simp;try with_reducible rfl) pq hS ?_;try simp only [Act.put,sA,sB,sC]
   refine wpAnyH_ready (rs:=[5]) (by kernel_rfl) (by simp) ?_;refine ar (by (try simp only [gA,gB,gC]);rfl) fun K hK=>?_;go_simp
   refine (HKA.out _ hS).mono ?_;rintro e yR1x11 ⟨rfl,hq⟩;try (go_wp2_with fail)
   have hS2:=Q.trans hS hq;refine hK.out _ _ (by exact hS2) (fun hHeld=>?_);clear hK K hHeld hS hq;have hS:=hS2;clear hS2;try simp only [Act.put,sA,sB,sC]
   refine wpAnyH_ready (rs:=[11]) (by kernel_rfl) (by simp) ?_;refine ar (by (try simp only [gA,gB,gC]);rfl) fun K hK=>?_;go_simp
   refine (HKB.out _ hS).mono ?_;rintro e yR1x12 ⟨rfl,hq⟩;try (go_wp2_with fail)
   have hS2:=Q.trans hS hq;refine hK.out _ _ (by exact hS2) (fun hHeld=>?_);clear hK K hHeld hS hq;have hS:=hS2;clear hS2;try simp only [Act.put,sA,sB,sC]
   refine tk 12 (by simp only [gA,gB,gC];rfl) (by first | kernel_rfl | rfl) (fun uz _=>by go_simp;try with_reducible rfl) pq hS ?_;try simp only [Act.put,sA,sB,sC]
   refine wpAnyH_done (by kernel_rfl) ?_ _;have HQF:=Hd (HQR.out.trans hS);clear hS;go_wp2_with fail
   exact ⟨⟨k + 1,by go_num,by omega,HQF.out⟩,by simp [intOf];omega⟩
  ·have hkn:k = N:=by omega
   subst hkn;go_wp2_with fail
   refine (Ps.lives_any _).mono ?_;rintro e wz ⟨rfl,hqz⟩;have HQZ:=Hd (HQW.out.trans (hqr.trans hqz));clear hqz;go_wp2_with fail
   go_ret
   exact ⟨rfl,HQZ.out⟩
end Ps
end
end Go.Proofs.YteggfkbnnmpcjaaGreatDoor
