/- The document's own items: of an affix. (and more) -/
import Derived.Test.YtdjhkbholijnmaaGreatDoorR33
import Derived.Test.YtdjhkbholijnmaaGreatDoorR32
set_option linter.all false
set_option maxRecDepth 100000
set_option maxHeartbeats 8000000
namespace Go.Proofs.YtdjhkbholijnmaaGreatDoor
section
open Go.RowKit
namespace It
open Um Im Lo Ro
theorem rparts_any (r:Lm.Rec) (X:Pt.Pat) (a b c d v:Value) (l:List Pb.E) (w:World) (hL:Ro.LL w X a b c d) (hv:Pb.LstP w v l) (hl:l.length <= 100000) :
  Calls Tryz.prog 40 #[lV r X a b c d,v] w fun e w'=>∃ x,e = .returned x /\ OwnI 64 w' w.heap.size x (affI r l) /\ Q w w':=by
 obtain ⟨n,hn⟩:∃ n,n = l.length:=⟨_,rfl⟩;obtain ⟨va,vc,rfl,hnc,hcm⟩:=hv.form0 hn.symm;have HV:=Hd (fun u (q:Q w u) k (h:k < n)=>(hv.q q).cellOf hn.symm h);have HT:=Hd (fun k (h:k < n)=>affI_take r l k (by omega));have HTL:=Hd (fun k (h:k <= n)=>show (affI r (l.take k)).length = k by rw [affI_len,List.length_take];omega);have HE:=Hd (show affI r (l.take n) = affI r l by rw [hn,List.take_length]);have HAF:=Hd (show ∀ k,affE r (l.getD k (false,[])) = if (l.getD k (false,[])).1 = true then (1,Lm.bs r.min,-1) else (0,Lm.bs (l.getD k (false,[])).2,-1) from fun _=>rfl)
 unfold maxLen at hcm;rw [<- hn] at hl;obtain ⟨a1,a2,rfl⟩:=hL.1.shape;obtain ⟨b1,b2,rfl⟩:=hL.2.1.shape;obtain ⟨c1,c2,rfl⟩:=hL.2.2.1.shape;obtain ⟨d1,d2,rfl⟩:=hL.2.2.2.shape;clear hL hv hn;unfold lV;generalize X.pre.length = n1 at *;generalize X.suf.length = n2 at *;generalize X.npre.length = n3 at *;generalize X.nsuf.length = n4 at *;generalize X.pr = p0 at *;generalize X.se = p1 at *;generalize X.mi = p2 at *;generalize X.mf = p3 at *;generalize X.xf = p4 at *;generalize Lm.bs r.nam = s0 at *;generalize Lm.bs r.pat = s1 at *;generalize Lm.bs r.sys = s2 at *;generalize Lm.bs r.dec = s3 at *;generalize Lm.bs r.grp = s4 at *;generalize Lm.bs r.min = s5 at *;generalize Lm.bs r.per = s6 at *;generalize Lm.bs r.cur = s7 at *;obtain ⟨z,hz⟩:∃ z,z = w.alloc (.cells #[.string s0,.string s1,.string s2,.string s3,.string s4,.string s5,.string s6,.string s7,.slice a1 n1 a2,.slice b1 n2 b2,.slice c1 n3 c2,.slice d1 n4 d2,.int .i64 p0,.int .i64 p1,.int .i64 p2,.int .i64 p3,.int .i64 p4] 34):=⟨_,rfl⟩;have HQZ:=Hd (show Q w z by rw [hz];exact (Q.refl w).alloc _);have HBZ:=Hd (show Bk z w.heap.size 34 [.string s0,.string s1,.string s2,.string s3,.string s4,.string s5,.string s6,.string s7,.slice a1 n1 a2,.slice b1 n2 b2,.slice c1 n3 c2,.slice d1 n4 d2,.int .i64 p0,.int .i64 p1,.int .i64 p2,.int .i64 p3,.int .i64 p4] by rw [hz];exact Bk.new _ _ _);go_enter Tryz.func40,Tryz.ntmps40
 go_upto_region 1 with fail
 rw [<- hz];clear hz;obtain ⟨bz,hbz⟩:∃ b,b = w.heap.size:=⟨_,rfl⟩;rw [<- hbz] at HBZ |-;clear hbz;go_wp2_with fail
 go_loopw [5,6] (fun x i wr=>∃ k:Nat,i = .int .i64 k /\ k <= n /\ OwnI 64 wr z.heap.size x (affI r (l.take k)) /\ Q z wr) (fun _ i _=>n - (intOf i).toNat)
 case atStart=>exact ⟨0,rfl,by omega,OwnI.nil _ _ _,Q.refl _⟩
 case round =>
  obtain ⟨k,rfl,hk,ho,hq⟩:=hrel;by_cases hlt:k < n
  ·obtain ⟨gg,off,cap,hvv,hg,_,_,c1',c2'⟩:=HV.out wr (HQZ.out.trans hq) k hlt
   cases hvv;have HTK:=Hd (HT.out k hlt);rw [HAF.out] at HTK;have hlk:=HTL.out k hk;generalize l.getD k (false,[]) = e0' at *;obtain ⟨eb,et⟩:=e0';dsimp only at c1' c2' HTK;unfold Pb.txt at c2';obtain ⟨T,hT⟩:∃ T,T = (⟨et.toArray⟩:ByteArray):=⟨_,rfl⟩;rw [<- hT] at c2';have HOZ:=Hd ho;have hol:=ho.lst;obtain ⟨xa,xc,rfl,_,_⟩:=hol.form0 hlk;have hle:=hq.le;have HQ:=Hd hq;have x5:=(HBZ.out.q hq).cell 5 rfl;clear ho hol hq;cases eb
   ·have HK2:=Hd (show affI r (l.take (k + 1)) = affI r (l.take k) ++ [(0,T,-1)] by rw [HTK.out,hT];rfl)
    clear HTK hT;go_wp2_with (at_builtin;refine Im.push elR HOZ.out rfl _ _ rfl 0 T (-1) (by rfl) (by rfl) (by omega) hle ?_)
    intro v' w3 ho3 hg3 hat3;have HQ3:=Hd (HQ.out.grown hg3 (fun j h=>(HOZ.out.lt j h).1));have HO3:=Hd (show OwnI 64 w3 z.heap.size v' (affI r (l.take (k + 1))) by rw [HK2.out];exact ho3);clear ho3 hg3 hat3 c1' c2' x5;go_wp2_with fail
    exact ⟨⟨k + 1,by go_num,by omega,HO3.out,HQ3.out⟩,by simp [intOf];omega⟩
   ·have HK2:=Hd (show affI r (l.take (k + 1)) = affI r (l.take k) ++ [(1,s5,-1)] by rw [HTK.out];rfl)
    clear HTK hT;go_wp2_with (at_builtin;refine Im.push elR HOZ.out rfl _ _ rfl 1 s5 (-1) (by rfl) (by rfl) (by omega) hle ?_)
    intro v' w3 ho3 hg3 hat3;have HQ3:=Hd (HQ.out.grown hg3 (fun j h=>(HOZ.out.lt j h).1));have HO3:=Hd (show OwnI 64 w3 z.heap.size v' (affI r (l.take (k + 1))) by rw [HK2.out];exact ho3);clear ho3 hg3 hat3 c1' c2' x5;go_wp2_with fail
    exact ⟨⟨k + 1,by go_num,by omega,HO3.out,HQ3.out⟩,by simp [intOf];omega⟩
  ·obtain rfl:k = n:=by omega
   rw [HE.out] at ho;have HO:=Hd (ho.mono HQZ.out.le);have HQ:=Hd (HQZ.out.trans hq);clear ho hq;go_wp2_with fail
   go_ret
   exact ⟨_,rfl,HO.out,HQ.out⟩
end It
end
section
open Go.RowKit
namespace Ro
open Um Cm Gm Lo
theorem cnt_le (r:Lm.Rec) (X:Pt.Pat) (A:List Pc.E) (hO:Lm.Ok r X) (hm:A ∈ Lm.affs X):Lm.cnt 3 A <= 1:=by
 have h:=hO.sg;unfold Lm.affs at hm;simp only [List.mem_cons,List.not_mem_nil,or_false] at hm;rcases hm with rfl | rfl | rfl | rfl <;> omega
theorem rparts_ok (r:Lm.Rec) (X:Pt.Pat) (a b c d v:Value) (A:List Pc.E) (w:World) (hO:Lm.Ok r X) (hL:LL w X a b c d) (hv:Pc.LstP w v A) (hm:A ∈ Lm.affs X) :
  Calls Tryz.prog 72 #[lV r X a b c d,v] w fun e w'=>∃ u,e = .returned u /\ Pb.LstP w' u (parP r A) /\ Q w w':=by
 rw [<- refP_eq r A (cnt_le r X A hO hm) (fun x hx h3=>((hO.aff A hm).2 x hx).2.2.2 (by omega))];exact rparts_any r X a b c d v A w hL hv (hO.aff A hm).1 (fun x hx=>((hO.aff A hm).2 x hx).1) (hO.len A hm)
theorem raround_true (r:Lm.Rec) (X:Pt.Pat) (a b c d:Value) (w:World) (hO:Lm.Ok r X) (hL:LL w X a b c d) :
  Calls Tryz.prog 39 #[lV r X a b c d,.bool true] w fun e w'=>∃ u v,e = .returned (.tuple #[u,v]) /\ Pb.LstP w' u (parP r X.npre) /\ Pb.LstP w' v (parP r X.nsuf) /\ Q w w':=by
 have HP1:=Hd (fun u (hq:Q w u)=>rparts_ok r X a b c d c X.npre u hO (hL.q hq) ((hL.2.2.1).q hq) (by simp [Lm.affs]));have HP2:=Hd (fun u (hq:Q w u)=>rparts_ok r X a b c d d X.nsuf u hO (hL.q hq) ((hL.2.2.2).q hq) (by simp [Lm.affs]));obtain ⟨a1,a2,rfl⟩:=hL.1.shape;obtain ⟨b1,b2,rfl⟩:=hL.2.1.shape;obtain ⟨c1,c2,rfl⟩:=hL.2.2.1.shape;obtain ⟨d1,d2,rfl⟩:=hL.2.2.2.shape;clear hL hO;generalize parP r X.npre = R1 at *;generalize parP r X.nsuf = R2 at *;generalize X.pre.length = n1 at *;generalize X.suf.length = n2 at *;generalize X.npre.length = n3 at *;generalize X.nsuf.length = n4 at *;unfold lV at HP1 HP2 |-;generalize X.pr = p0 at *;generalize X.se = p1 at *;generalize X.mi = p2 at *;generalize X.mf = p3 at *;generalize X.xf = p4 at *;generalize Lm.bs r.nam = s0 at *;generalize Lm.bs r.pat = s1 at *;generalize Lm.bs r.sys = s2 at *;generalize Lm.bs r.dec = s3 at *;generalize Lm.bs r.grp = s4 at *;generalize Lm.bs r.min = s5 at *;generalize Lm.bs r.per = s6 at *;generalize Lm.bs r.cur = s7 at *;obtain ⟨z,hz⟩:∃ z,z = w.alloc (.cells #[.string s0,.string s1,.string s2,.string s3,.string s4,.string s5,.string s6,.string s7,.slice a1 n1 a2,.slice b1 n2 b2,.slice c1 n3 c2,.slice d1 n4 d2,.int .i64 p0,.int .i64 p1,.int .i64 p2,.int .i64 p3,.int .i64 p4] 34):=⟨_,rfl⟩;have HQZ:=Hd (show Q w z by rw [hz];exact (Q.refl w).alloc _);have HBZ:=Hd (show Bk z w.heap.size 34 [.string s0,.string s1,.string s2,.string s3,.string s4,.string s5,.string s6,.string s7,.slice a1 n1 a2,.slice b1 n2 b2,.slice c1 n3 c2,.slice d1 n4 d2,.int .i64 p0,.int .i64 p1,.int .i64 p2,.int .i64 p3,.int .i64 p4] by rw [hz];exact Bk.new _ _ _);go_enter Tryz.func39,Tryz.ntmps39
 go_upto_region 1 with fail
 rw [<- hz];clear hz;generalize w.heap.size = bz at *;go_upto_region 2 with fail
 refine wp_region_held_drew (S:=fun u=>Q z u) (by kernel_rfl) (by exact (Q.refl z).drew) (fun hHeld=>?_);have hS:Q z z.drew:=hHeld;clear hHeld;have hq:Q z z.drew:=(Q.refl _).drew;clear hq;generalize z.drew = yR1x0 at *;change wpAnyH _ _ _ _ _ _ #[ff,ff,ff,ff,ff,ff,ff,ff,ff,ff,ff,ff] _ _;refine tk 0 (by simp only [gA,gB,gC];rfl) (by first | kernel_rfl | rfl) (fun uz hSw=>by (try dsimp only at hSw);refine ld_row (x:=.tmp 2) ?_ ?_ (HBZ.out.q hSw) Tryz.underlying34 (by exact infoL) <;> rfl) pq hS ?_
 try simp only [Act.put,sA,sB,sC]
 refine tk 1 (by simp only [gA,gB,gC];rfl) (by first | kernel_rfl | rfl) (fun uz _=>by go_simp;try with_reducible rfl) pq hS ?_;try simp only [Act.put,sA,sB,sC]
 refine tk 2 (by simp only [gA,gB,gC];rfl) (by first | kernel_rfl | rfl) (fun uz _=>by go_simp;try with_reducible rfl) pq hS ?_;try simp only [Act.put,sA,sB,sC]
 refine tk 3 (by simp only [gA,gB,gC];rfl) (by first | kernel_rfl | rfl) (fun uz hSw=>by (try dsimp only at hSw);have q:=(HBZ.out.q hSw).cell 10 rfl;go_simp;try with_reducible rfl) pq hS ?_;try simp only [Act.put,sA,sB,sC]
 refine tk 5 (by simp only [gA,gB,gC];rfl) (by first | kernel_rfl | rfl) (fun uz hSw=>by (try dsimp only at hSw);refine ld_row (x:=.tmp 2) ?_ ?_ (HBZ.out.q hSw) Tryz.underlying34 (by exact infoL) <;> rfl) pq hS ?_
 try simp only [Act.put,sA,sB,sC]
 refine tk 6 (by simp only [gA,gB,gC];rfl) (by first | kernel_rfl | rfl) (fun uz _=>by go_simp;try with_reducible rfl) pq hS ?_;try simp only [Act.put,sA,sB,sC]
 refine tk 7 (by simp only [gA,gB,gC];rfl) (by first | kernel_rfl | rfl) (fun uz _=>by go_simp;try with_reducible rfl) pq hS ?_;try simp only [Act.put,sA,sB,sC]
 refine tk 8 (by simp only [gA,gB,gC];rfl) (by first | kernel_rfl | rfl) (fun uz hSw=>by (try dsimp only at hSw);have q:=(HBZ.out.q hSw).cell 11 rfl;go_simp;try with_reducible rfl) pq hS ?_;try simp only [Act.put,sA,sB,sC]
 refine wpAnyH_ready (rs:=[4]) (by kernel_rfl) (by simp) ?_;refine ar rfl fun K hK=>?_;go_simp
 refine (HP1.out _ (HQZ.out.trans hS)).mono ?_;rintro e yR1x9 ⟨u1,rfl,hu1,hq⟩;have HU1:=Hd hu1;obtain ⟨ua,uc,rfl⟩:=hu1.shape;clear hu1;generalize R1.length = m1 at *;try (go_wp2_with fail)
 have hS2:=Q.trans hS hq;refine hK.out _ _ (by exact hS2) (fun hHeld=>?_);clear hK K hHeld hS hq;have hS:=hS2;clear hS2;try simp only [Act.put,sA,sB,sC]
 refine wpAnyH_ready (rs:=[9]) (by kernel_rfl) (by simp) ?_;refine ar rfl fun K hK=>?_;go_simp
 refine (HP2.out _ (HQZ.out.trans hS)).mono ?_;rintro e yR1x10 ⟨u2,rfl,hu2,hq⟩;have HU2:=Hd hu2;obtain ⟨ub,ud,rfl⟩:=hu2.shape;clear hu2;generalize R2.length = m2 at *;try (go_wp2_with fail)
 have HU1:=Hd (Pb.LstP.q HU1.out hq);have hS2:=Q.trans hS hq;refine hK.out _ _ (by exact hS2) (fun hHeld=>?_);clear hK K hHeld hS hq;have hS:=hS2;clear hS2;try simp only [Act.put,sA,sB,sC]
 refine tk 10 (by simp only [gA,gB,gC];rfl) (by first | kernel_rfl | rfl) (fun uz _=>by go_simp;try with_reducible rfl) pq hS ?_;try simp only [Act.put,sA,sB,sC]
 refine tk 11 (by simp only [gA,gB,gC];rfl) (by first | kernel_rfl | rfl) (fun uz _=>by go_simp;try with_reducible rfl) pq hS ?_;try simp only [Act.put,sA,sB,sC]
 refine wpAnyH_done (by kernel_rfl) ?_ _;have HQ:=Hd (HQZ.out.trans hS);clear hS;go_wp2_with fail
 first
  | (rename_i dx1 d1 hx1 dx2 d2 hx2;have hy1:(some 5:Option Tmp) = some d1:=hx1;have hy2:(some 4:Option Tmp) = some d2:=hx2;obtain rfl:=Option.some.inj hy1;obtain rfl:=Option.some.inj hy2;clear hx1 hx2 hy1 hy2)
  | (rename_i dx1 d1 hx1;have hy1:(some 5:Option Tmp) = some d1:=hx1;obtain rfl:=Option.some.inj hy1;clear hx1 hy1)
  | skip
 go_ret2
 exact ⟨_,_,rfl,HU1.out,HU2.out,HQ.out⟩
theorem raround_false (r:Lm.Rec) (X:Pt.Pat) (a b c d:Value) (w:World) (hO:Lm.Ok r X) (hL:LL w X a b c d) :
  Calls Tryz.prog 39 #[lV r X a b c d,.bool false] w fun e w'=>∃ u v,e = .returned (.tuple #[u,v]) /\ Pb.LstP w' u (parP r X.pre) /\ Pb.LstP w' v (parP r X.suf) /\ Q w w':=by
 have HP1:=Hd (fun u (hq:Q w u)=>rparts_ok r X a b c d a X.pre u hO (hL.q hq) ((hL.1).q hq) (by simp [Lm.affs]));have HP2:=Hd (fun u (hq:Q w u)=>rparts_ok r X a b c d b X.suf u hO (hL.q hq) ((hL.2.1).q hq) (by simp [Lm.affs]));obtain ⟨a1,a2,rfl⟩:=hL.1.shape;obtain ⟨b1,b2,rfl⟩:=hL.2.1.shape;obtain ⟨c1,c2,rfl⟩:=hL.2.2.1.shape;obtain ⟨d1,d2,rfl⟩:=hL.2.2.2.shape;clear hL hO;generalize parP r X.pre = R1 at *;generalize parP r X.suf = R2 at *;generalize X.pre.length = n1 at *;generalize X.suf.length = n2 at *;generalize X.npre.length = n3 at *;generalize X.nsuf.length = n4 at *;unfold lV at HP1 HP2 |-;generalize X.pr = p0 at *;generalize X.se = p1 at *;generalize X.mi = p2 at *;generalize X.mf = p3 at *;generalize X.xf = p4 at *;generalize Lm.bs r.nam = s0 at *;generalize Lm.bs r.pat = s1 at *;generalize Lm.bs r.sys = s2 at *;generalize Lm.bs r.dec = s3 at *;generalize Lm.bs r.grp = s4 at *;generalize Lm.bs r.min = s5 at *;generalize Lm.bs r.per = s6 at *;generalize Lm.bs r.cur = s7 at *;obtain ⟨z,hz⟩:∃ z,z = w.alloc (.cells #[.string s0,.string s1,.string s2,.string s3,.string s4,.string s5,.string s6,.string s7,.slice a1 n1 a2,.slice b1 n2 b2,.slice c1 n3 c2,.slice d1 n4 d2,.int .i64 p0,.int .i64 p1,.int .i64 p2,.int .i64 p3,.int .i64 p4] 34):=⟨_,rfl⟩;have HQZ:=Hd (show Q w z by rw [hz];exact (Q.refl w).alloc _);have HBZ:=Hd (show Bk z w.heap.size 34 [.string s0,.string s1,.string s2,.string s3,.string s4,.string s5,.string s6,.string s7,.slice a1 n1 a2,.slice b1 n2 b2,.slice c1 n3 c2,.slice d1 n4 d2,.int .i64 p0,.int .i64 p1,.int .i64 p2,.int .i64 p3,.int .i64 p4] by rw [hz];exact Bk.new _ _ _);go_enter Tryz.func39,Tryz.ntmps39
 go_upto_region 1 with fail
 rw [<- hz];clear hz;generalize w.heap.size = bz at *;go_upto_region 3 with fail
 refine wp_region_held_drew (S:=fun u=>Q z u) (by kernel_rfl) (by exact (Q.refl z).drew) (fun hHeld=>?_);have hS:Q z z.drew:=hHeld;clear hHeld;have hq:Q z z.drew:=(Q.refl _).drew;clear hq;generalize z.drew = yR2x0 at *;change wpAnyH _ _ _ _ _ _ #[ff,ff,ff,ff,ff,ff,ff,ff,ff,ff,ff,ff] _ _;refine tk 0 (by simp only [gA,gB,gC];rfl) (by first | kernel_rfl | rfl) (fun uz hSw=>by (try dsimp only at hSw);refine ld_row (x:=.tmp 2) ?_ ?_ (HBZ.out.q hSw) Tryz.underlying34 (by exact infoL) <;> rfl) pq hS ?_
 try simp only [Act.put,sA,sB,sC]
 refine tk 1 (by simp only [gA,gB,gC];rfl) (by first | kernel_rfl | rfl) (fun uz _=>by go_simp;try with_reducible rfl) pq hS ?_;try simp only [Act.put,sA,sB,sC]
 refine tk 2 (by simp only [gA,gB,gC];rfl) (by first | kernel_rfl | rfl) (fun uz _=>by go_simp;try with_reducible rfl) pq hS ?_;try simp only [Act.put,sA,sB,sC]
 refine tk 3 (by simp only [gA,gB,gC];rfl) (by first | kernel_rfl | rfl) (fun uz hSw=>by (try dsimp only at hSw);have q:=(HBZ.out.q hSw).cell 8 rfl;go_simp;try with_reducible rfl) pq hS ?_;try simp only [Act.put,sA,sB,sC]
 refine tk 5 (by simp only [gA,gB,gC];rfl) (by first | kernel_rfl | rfl) (fun uz hSw=>by (try dsimp only at hSw);refine ld_row (x:=.tmp 2) ?_ ?_ (HBZ.out.q hSw) Tryz.underlying34 (by exact infoL) <;> rfl) pq hS ?_
 try simp only [Act.put,sA,sB,sC]
 refine tk 6 (by simp only [gA,gB,gC];rfl) (by first | kernel_rfl | rfl) (fun uz _=>by go_simp;try with_reducible rfl) pq hS ?_;try simp only [Act.put,sA,sB,sC]
 refine tk 7 (by simp only [gA,gB,gC];rfl) (by first | kernel_rfl | rfl) (fun uz _=>by go_simp;try with_reducible rfl) pq hS ?_;try simp only [Act.put,sA,sB,sC]
 refine tk 8 (by simp only [gA,gB,gC];rfl) (by first | kernel_rfl | rfl) (fun uz hSw=>by (try dsimp only at hSw);have q:=(HBZ.out.q hSw).cell 9 rfl;go_simp;try with_reducible rfl) pq hS ?_;try simp only [Act.put,sA,sB,sC]
 refine wpAnyH_ready (rs:=[4]) (by kernel_rfl) (by simp) ?_;refine ar rfl fun K hK=>?_;go_simp
 refine (HP1.out _ (HQZ.out.trans hS)).mono ?_;rintro e yR2x9 ⟨u1,rfl,hu1,hq⟩;have HU1:=Hd hu1;obtain ⟨ua,uc,rfl⟩:=hu1.shape;clear hu1;generalize R1.length = m1 at *;try (go_wp2_with fail)
 have hS2:=Q.trans hS hq;refine hK.out _ _ (by exact hS2) (fun hHeld=>?_);clear hK K hHeld hS hq;have hS:=hS2;clear hS2;try simp only [Act.put,sA,sB,sC]
 refine wpAnyH_ready (rs:=[9]) (by kernel_rfl) (by simp) ?_;refine ar rfl fun K hK=>?_;go_simp
 refine (HP2.out _ (HQZ.out.trans hS)).mono ?_;rintro e yR2x10 ⟨u2,rfl,hu2,hq⟩;have HU2:=Hd hu2;obtain ⟨ub,ud,rfl⟩:=hu2.shape;clear hu2;generalize R2.length = m2 at *;try (go_wp2_with fail)
 have HU1:=Hd (Pb.LstP.q HU1.out hq);have hS2:=Q.trans hS hq;refine hK.out _ _ (by exact hS2) (fun hHeld=>?_);clear hK K hHeld hS hq;have hS:=hS2;clear hS2;try simp only [Act.put,sA,sB,sC]
 refine tk 10 (by simp only [gA,gB,gC];rfl) (by first | kernel_rfl | rfl) (fun uz _=>by go_simp;try with_reducible rfl) pq hS ?_;try simp only [Act.put,sA,sB,sC]
 refine tk 11 (by simp only [gA,gB,gC];rfl) (by first | kernel_rfl | rfl) (fun uz _=>by go_simp;try with_reducible rfl) pq hS ?_;try simp only [Act.put,sA,sB,sC]
 refine wpAnyH_done (by kernel_rfl) ?_ _;have HQ:=Hd (HQZ.out.trans hS);clear hS;go_wp2_with fail
 first
  | (rename_i dx1 d1 hx1 dx2 d2 hx2;have hy1:(some 5:Option Tmp) = some d1:=hx1;have hy2:(some 4:Option Tmp) = some d2:=hx2;obtain rfl:=Option.some.inj hy1;obtain rfl:=Option.some.inj hy2;clear hx1 hx2 hy1 hy2)
  | (rename_i dx1 d1 hx1;have hy1:(some 5:Option Tmp) = some d1:=hx1;obtain rfl:=Option.some.inj hy1;clear hx1 hy1)
  | skip
 go_ret2
 exact ⟨_,_,rfl,HU1.out,HU2.out,HQ.out⟩
end Ro
end
section
open Go.RowKit
namespace Lo
open Um Cm Gm
def EnvL (u:World) (g rb lp ep:Nat) (r:Lm.Rec) (X:Pt.Pat) (a b c d cl:Value):Prop :=
 LB u g r X a b c d cl /\ Bk u rb 84 (recC r) /\ Bk u lp 27 [.pointer (some ⟨g,0,none⟩)] /\ Bk u ep 40 [.int .i64 0]
theorem EnvL.q {u u':World} {g rb lp ep:Nat} {r:Lm.Rec} {X:Pt.Pat} {a b c d cl:Value} (h:EnvL u g rb lp ep r X a b c d cl) (hq:Q u u'):EnvL u' g rb lp ep r X a b c d cl :=
 ⟨h.1.q hq,h.2.1.q hq,h.2.2.1.q hq,h.2.2.2.q hq⟩
theorem nd_take {l:List ByteArray} (h:l.Nodup) {k:Nat} {x:ByteArray} (hk:l[k]? = some x):x ∉ l.take k:=by
 intro hm;obtain ⟨hl,e⟩:=List.getElem?_eq_some_iff.1 hk;rw [<- List.take_append_drop k l,List.nodup_append] at h;have h2:x ∈ l.drop k:=by rw [List.drop_eq_getElem_cons hl,e];exact List.mem_cons_self
 exact h.2.2 x hm x h2 rfl
theorem sgn_no {r:Lm.Rec} {X:Pt.Pat} (hO:Lm.Ok r X) {x:ByteArray} (h:x ∈ Lm.clus r X):Lm.sgn r x = -1:=by
 unfold Lm.sgn;split
 ·rfl
 ·exact Lm.plc_none _ _ (hO.cl x h)
theorem sym_len {l:List UInt8} (h:Lm.symB l = true):l.length <= 16:=by
 unfold Lm.symB Lm.wordB at h;simp only [Bool.and_eq_true,decide_eq_true_eq] at h;exact h.1.1
theorem word_len {l:List UInt8} (h:Lm.wordB l = true):l.length <= 16:=by
 unfold Lm.wordB at h;simp only [Bool.and_eq_true,decide_eq_true_eq] at h;exact h.1
theorem lk1 {u:World} {g rb lp ep:Nat} {r:Lm.Rec} {X:Pt.Pat} {a b c d cl:Value} (hO:Lm.Ok r X) (hE:EnvL u g rb lp ep r X a b c d cl) :
  Calls Tryz.prog 89 #[.pointer (some ⟨rb,0,none⟩)] u fun e w'=>e = .returned (.bool false) /\ Q u w':=by
 have hx:=named_ok (Lm.bs r.nam) u (by rw [Lm.bs_size];exact hO.nam1.1) (by rw [Lm.bs_size];exact hO.nam1.2) (by rw [Lm.bs_list];exact hO.nam);have HX:=Hd hx;have c0:=hE.2.1.cell 0 rfl;generalize Lm.bs r.nam = S at *;clear hx;clear hO hE;go_enter Tryz.func89,Tryz.ntmps89
 go_wp2_with fail
 refine HX.out.mono ?_;rintro e w1 ⟨rfl,hq1⟩;go_wp2_with fail
 go_ret
 exact ⟨rfl,hq1⟩
theorem lk2 {u:World} {g rb lp ep:Nat} {r:Lm.Rec} {X:Pt.Pat} {a b c d cl:Value} (hO:Lm.Ok r X) (hE:EnvL u g rb lp ep r X a b c d cl) :
  Calls Tryz.prog 91 #[.pointer (some ⟨ep,0,none⟩)] u fun e w'=>e = .returned (.bool false) /\ Q u w':=by
 have c0:=hE.2.2.2.cell 0 rfl;clear hO hE;go_enter Tryz.func91,Tryz.ntmps91
 go_wp2_with fail
 go_ret
 exact ⟨rfl,Q.refl _⟩
theorem lk3 {u:World} {g rb lp ep:Nat} {r:Lm.Rec} {X:Pt.Pat} {a b c d cl:Value} (hO:Lm.Ok r X) (hE:EnvL u g rb lp ep r X a b c d cl) :
  Calls Tryz.prog 92 #[.pointer (some ⟨lp,0,none⟩)] u fun e w'=>e = .returned (.bool false) /\ Q u w':=by
 have hl:∀ A ∈ Lm.affs X,A.length <= 1000000:=fun A hA=>by have:=(hO.aff A hA).1;omega
 have hx:Calls Tryz.prog 93 #[.pointer (some ⟨g,0,none⟩)] u fun e w'=>e = .returned (.bool true) /\ Q u w':=by
  obtain ⟨h1,h2,h3⟩:=hO.sg;by_cases h4:Lm.cnt 3 X.npre = 1
  ·exact signed_ahead g r X a b c d cl u hE.1 hl h1 h2 h4 (by omega)
  ·exact signed_behind g r X a b c d cl u hE.1 hl h1 h2 (by omega) (by omega)
 have HX:=Hd hx;have c0:=hE.2.2.1.cell 0 rfl;clear hx hl;clear hO hE;go_enter Tryz.func92,Tryz.ntmps92
 go_wp2_with fail
 refine HX.out.mono ?_;rintro e w1 ⟨rfl,hq1⟩;go_wp2_with fail
 go_ret
 exact ⟨rfl,hq1⟩
theorem lk4 {u:World} {g rb lp ep:Nat} {r:Lm.Rec} {X:Pt.Pat} {a b c d cl:Value} (hO:Lm.Ok r X) (hE:EnvL u g rb lp ep r X a b c d cl) :
  Calls Tryz.prog 94 #[.pointer (some ⟨rb,0,none⟩)] u fun e w'=>e = .returned (.bool false) /\ Q u w':=by
 have hx:=known_ok (Lm.bs r.sys) u (by rw [Lm.bs_size];have:=hO.sysl;unfold maxLen;omega) (by rw [Lm.bs_list];have:=hO.sys;omega);have HX:=Hd hx;have c0:=hE.2.1.cell 2 rfl;generalize Lm.bs r.sys = S at *;clear hx;clear hO hE;go_enter Tryz.func94,Tryz.ntmps94
 go_wp2_with fail
 refine HX.out.mono ?_;rintro e w1 ⟨rfl,hq1⟩;go_wp2_with fail
 go_ret
 exact ⟨rfl,hq1⟩
theorem lk5 {u:World} {g rb lp ep:Nat} {r:Lm.Rec} {X:Pt.Pat} {a b c d cl:Value} (hO:Lm.Ok r X) (hE:EnvL u g rb lp ep r X a b c d cl) :
  Calls Tryz.prog 96 #[.pointer (some ⟨rb,0,none⟩)] u fun e w'=>e = .returned (.bool false) /\ Q u w':=by
 have hx:=symbol_any (Lm.bs r.dec) u (by rw [Lm.bs_size];have:=sym_len hO.dec;omega);rw [Lm.bs_list,hO.dec] at hx;have HX:=Hd hx;have c0:=hE.2.1.cell 3 rfl;generalize Lm.bs r.dec = S at *;clear hx;clear hO hE;go_enter Tryz.func96,Tryz.ntmps96
 go_wp2_with fail
 refine HX.out.mono ?_;rintro e w1 ⟨rfl,hq1⟩;go_wp2_with fail
 go_ret
 exact ⟨rfl,hq1⟩
theorem lk7 {u:World} {g rb lp ep:Nat} {r:Lm.Rec} {X:Pt.Pat} {a b c d cl:Value} (hO:Lm.Ok r X) (hE:EnvL u g rb lp ep r X a b c d cl) :
  Calls Tryz.prog 100 #[.pointer (some ⟨rb,0,none⟩)] u fun e w'=>e = .returned (.bool false) /\ Q u w':=by
 have hx:=symbol_any (Lm.bs r.min) u (by rw [Lm.bs_size];have:=sym_len hO.min;omega);rw [Lm.bs_list,hO.min] at hx;have HX:=Hd hx;have c0:=hE.2.1.cell 5 rfl;generalize Lm.bs r.min = S at *;clear hx;clear hO hE;go_enter Tryz.func100,Tryz.ntmps100
 go_wp2_with fail
 refine HX.out.mono ?_;rintro e w1 ⟨rfl,hq1⟩;go_wp2_with fail
 go_ret
 exact ⟨rfl,hq1⟩
theorem lk6 {u:World} {g rb lp ep:Nat} {r:Lm.Rec} {X:Pt.Pat} {a b c d cl:Value} (hO:Lm.Ok r X) (hE:EnvL u g rb lp ep r X a b c d cl) :
  Calls Tryz.prog 98 #[.pointer (some ⟨lp,0,none⟩)] u fun e w'=>e = .returned (.bool false) /\ Q u w':=by
 have hx:Calls Tryz.prog 99 #[.pointer (some ⟨g,0,none⟩)] u fun e w'=>e = .returned (.bool true) /\ Q u w':=by
  by_cases hp:0 < X.pr
  ·exact grouped_yes g r X a b c d cl u hE.1 hp (hO.grp1 hp) (by have:=sym_len (hO.grp1 hp);omega)
  ·exact grouped_no g r X a b c d cl u hE.1 hp (hO.grp0 hp)
 have HX:=Hd hx;have c0:=hE.2.2.1.cell 0 rfl;clear hx;clear hO hE;go_enter Tryz.func98,Tryz.ntmps98
 go_wp2_with fail
 refine HX.out.mono ?_;rintro e w1 ⟨rfl,hq1⟩;go_wp2_with fail
 go_ret
 exact ⟨rfl,hq1⟩
theorem lk8 {u:World} {g rb lp ep:Nat} {r:Lm.Rec} {X:Pt.Pat} {a b c d cl:Value} (hO:Lm.Ok r X) (hE:EnvL u g rb lp ep r X a b c d cl) :
  Calls Tryz.prog 101 #[.pointer (some ⟨lp,0,none⟩),.pointer (some ⟨rb,0,none⟩)] u fun e w'=>e = .returned (.bool false) /\ Q u w':=by
 have hl:∀ A ∈ Lm.affs X,A.length <= 1000000:=fun A hA=>by have:=(hO.aff A hA).1;omega
 have hx:Calls Tryz.prog 102 #[.pointer (some ⟨g,0,none⟩),.string (Lm.bs r.per),.int .i64 2] u fun e w'=>e = .returned (.bool true) /\ Q u w':=by
  rcases hO.per with h | ⟨h0,h⟩
  ·exact worded_yes g r.per 2 u (by have:=word_len h;omega) h
  ·rw [h0]
   exact worded_none g r X a b c d cl 2 u hE.1 hl h
 have HX:=Hd hx;have c0:=hE.2.2.1.cell 0 rfl;have c1:=hE.2.1.cell 6 rfl;generalize Lm.bs r.per = S at *;clear hx hl;clear hO hE;go_enter Tryz.func101,Tryz.ntmps101
 go_wp2_with fail
 refine HX.out.mono ?_;rintro e w1 ⟨rfl,hq1⟩;go_wp2_with fail
 go_ret
 exact ⟨rfl,hq1⟩
theorem lk9 {u:World} {g rb lp ep:Nat} {r:Lm.Rec} {X:Pt.Pat} {a b c d cl:Value} (hO:Lm.Ok r X) (hE:EnvL u g rb lp ep r X a b c d cl) :
  Calls Tryz.prog 103 #[.pointer (some ⟨lp,0,none⟩),.pointer (some ⟨rb,0,none⟩)] u fun e w'=>e = .returned (.bool false) /\ Q u w':=by
 have hl:∀ A ∈ Lm.affs X,A.length <= 1000000:=fun A hA=>by have:=(hO.aff A hA).1;omega
 have hx:Calls Tryz.prog 102 #[.pointer (some ⟨g,0,none⟩),.string (Lm.bs r.cur),.int .i64 1] u fun e w'=>e = .returned (.bool true) /\ Q u w':=by
  rcases hO.cur with h | ⟨h0,h⟩
  ·exact worded_yes g r.cur 1 u (by have:=word_len h;omega) h
  ·rw [h0]
   exact worded_none g r X a b c d cl 1 u hE.1 hl h
 have HX:=Hd hx;have c0:=hE.2.2.1.cell 0 rfl;have c1:=hE.2.1.cell 7 rfl;generalize Lm.bs r.cur = S at *;clear hx hl;clear hO hE;go_enter Tryz.func103,Tryz.ntmps103
 go_wp2_with fail
 refine HX.out.mono ?_;rintro e w1 ⟨rfl,hq1⟩;go_wp2_with fail
 go_ret
 exact ⟨rfl,hq1⟩
theorem lk12 {u:World} {g rb lp ep:Nat} {r:Lm.Rec} {X:Pt.Pat} {a b c d cl:Value} (hO:Lm.Ok r X) (hE:EnvL u g rb lp ep r X a b c d cl) :
  Calls Tryz.prog 110 #[.pointer (some ⟨lp,0,none⟩)] u fun e w'=>e = .returned (.bool false) /\ Q u w':=by
 have hx:=taken_no g r X a b c d cl 10 (Lm.bs r.dec) u hE.1 (by omega) rfl (nd_take hO.dis rfl);have HX:=Hd hx;have c0:=hE.2.2.1.cell 0 rfl;clear hx;clear hO hE;go_enter Tryz.func110,Tryz.ntmps110
 go_wp2_with fail
 refine HX.out.mono ?_;rintro e w1 ⟨rfl,hq1⟩;go_wp2_with fail
 go_ret
 exact ⟨rfl,hq1⟩
theorem lk13 {u:World} {g rb lp ep:Nat} {r:Lm.Rec} {X:Pt.Pat} {a b c d cl:Value} (hO:Lm.Ok r X) (hE:EnvL u g rb lp ep r X a b c d cl) :
  Calls Tryz.prog 112 #[.pointer (some ⟨lp,0,none⟩)] u fun e w'=>e = .returned (.bool false) /\ Q u w':=by
 have hx:=taken_no g r X a b c d cl 11 (Lm.bs r.grp) u hE.1 (by omega) rfl (nd_take hO.dis rfl);have HX:=Hd hx;have c0:=hE.2.2.1.cell 0 rfl;clear hx;clear hO hE;go_enter Tryz.func112,Tryz.ntmps112
 go_wp2_with fail
 refine HX.out.mono ?_;rintro e w1 ⟨rfl,hq1⟩;go_wp2_with fail
 go_ret
 exact ⟨rfl,hq1⟩
theorem lk14 {u:World} {g rb lp ep:Nat} {r:Lm.Rec} {X:Pt.Pat} {a b c d cl:Value} (hO:Lm.Ok r X) (hE:EnvL u g rb lp ep r X a b c d cl) :
  Calls Tryz.prog 113 #[.pointer (some ⟨lp,0,none⟩)] u fun e w'=>e = .returned (.bool false) /\ Q u w':=by
 have hx:=taken_no g r X a b c d cl 12 (Lm.bs r.min) u hE.1 (by omega) rfl (nd_take hO.dis rfl);have HX:=Hd hx;have c0:=hE.2.2.1.cell 0 rfl;clear hx;clear hO hE;go_enter Tryz.func113,Tryz.ntmps113
 go_wp2_with fail
 refine HX.out.mono ?_;rintro e w1 ⟨rfl,hq1⟩;go_wp2_with fail
 go_ret
 exact ⟨rfl,hq1⟩
theorem lk10 {u:World} {g rb lp ep:Nat} {r:Lm.Rec} {X:Pt.Pat} {a b c d cl:Value} (hO:Lm.Ok r X) (hE:EnvL u g rb lp ep r X a b c d cl) :
  Calls Tryz.prog 104 #[.pointer (some ⟨lp,0,none⟩)] u fun e w'=>e = .returned (.bool false) /\ Q u w':=by
 have HA:=Hd (affixes_any g r X a b c d cl u hE.1);have c0:=hE.2.2.1.cell 0 rfl;have HN:=Hd (fun u2 v (hq:Q u u2) (hv:GLst id u2 v [a,b,c,d])=>noL 107 #[] #[] (enters_of Tryz.func107 (by kernel_rfl) rfl) v [a,b,c,d] u2 hv (aff_len a b c d) (fun k x hx u3 hq3=>by
  obtain ⟨A,_,hm,hv2⟩:=aff_at (hE.1.q (hq.trans hq3)) hx;have h10:=hO.aff A hm;exact rough_no x A u3 hv2 (by omega) (fun y hy=>⟨by have:=(h10.2 y hy).2.1;omega,(h10.2 y hy).2.2.1⟩)))
 clear hO hE;go_enter Tryz.func104,Tryz.ntmps104
 go_wp2_with fail
 refine HA.out.mono ?_;rintro e w1 ⟨v1,rfl,hv1,hq1⟩;obtain ⟨va,vc,rfl⟩:=hv1.shape;go_wp2_with fail
 refine (HN.out _ _ hq1 hv1).mono ?_;rintro e w2 ⟨rfl,hq2⟩;go_wp2_with fail
 go_ret
 exact ⟨rfl,hq1.trans hq2⟩
theorem lk11 {w0:World} {g rb lp ep:Nat} {r:Lm.Rec} {X:Pt.Pat} {a b c d cl:Value} (hO:Lm.Ok r X) (hE:EnvL w0 g rb lp ep r X a b c d cl) :
  Calls Tryz.prog 108 #[.pointer (some ⟨lp,0,none⟩)] w0 fun e w'=>e = .returned (.bool false) /\ Q w0 w':=by
 have HA:=Hd (fun u2 (hq:Q w0 u2)=>affixes_any g r X a b c d cl u2 (hE.1.q hq));have HN:=Hd (fun u2 v (hq:Q w0 u2) (hv:GLst id u2 v [a,b,c,d])=>noL 109 #[.pointer (some ⟨g,0,none⟩)] #[] (enters_of Tryz.func109 (by kernel_rfl) rfl) v [a,b,c,d] u2 hv (aff_len a b c d) (fun k x hx u3 hq3=>by
  obtain ⟨A,_,hm,hv2⟩:=aff_at (hE.1.q (hq.trans hq3)) hx;have h10:=hO.aff A hm;exact long_ok g r X a b c d cl x A u3 (hE.1.q (hq.trans hq3)) hv2 (by omega) (hO.len A hm)))
 have HBL:=Hd hE.2.2.1;clear hO hE;go_enter Tryz.func108,Tryz.ntmps108
 go_upto_region 1 with fail
 refine wp_region_held_drew (S:=fun u=>Q w0 u) (by kernel_rfl) (by exact (Q.refl w0).drew) (fun hHeld=>?_);have hS:Q w0 w0.drew:=hHeld;clear hHeld;have hq:Q w0 w0.drew:=(Q.refl _).drew;clear hq;generalize w0.drew = yR1x0 at *;refine tk 0 (by simp only [gA,gB,gC];rfl) (by first | kernel_rfl | rfl) (fun uz hSw=>by (try dsimp only at hSw);have kb:=HBL.out.q hSw;have k0:=kb.cell 0 rfl;clear kb;go_simp;try with_reducible rfl) pq hS ?_;try simp only [Act.put,sA,sB,sC]
 refine tk 2 (by simp only [gA,gB,gC];rfl) (by first | kernel_rfl | rfl) (fun uz hSw=>by (try dsimp only at hSw);have kb:=HBL.out.q hSw;have k0:=kb.cell 0 rfl;clear kb;go_simp;try with_reducible rfl) pq hS ?_;try simp only [Act.put,sA,sB,sC]
 refine tk 3 (by simp only [gA,gB,gC];rfl) (by first | kernel_rfl | rfl) (fun uz _=>by go_simp;try with_reducible rfl) pq hS ?_;try simp only [Act.put,sA,sB,sC]
 refine wpAnyH_ready (rs:=[1]) (by kernel_rfl) (by simp) ?_;refine ar rfl fun K hK=>?_;go_simp
 refine (HA.out _ hS).mono ?_;rintro e yR1x4 ⟨v1,rfl,hv1,hq⟩;have HV1:=Hd hv1;obtain ⟨va,vc,rfl⟩:=hv1.shape;clear hv1;try (go_wp2_with fail)
 have hS2:=Q.trans hS hq;refine hK.out _ _ (by exact hS2) (fun hHeld=>?_);clear hK K hHeld hS hq;have hS:=hS2;clear hS2;try simp only [Act.put,sA,sB,sC]
 refine wpAnyH_ready (rs:=[4]) (by kernel_rfl) (by simp) ?_;refine ar rfl fun K hK=>?_;go_simp
 refine (HN.out _ _ hS HV1.out).mono ?_;rintro e yR1x5 ⟨rfl,hq⟩;try (go_wp2_with fail)
 have HV1:=Hd (GLst.q HV1.out hq);have hS2:=Q.trans hS hq;refine hK.out _ _ (by exact hS2) (fun hHeld=>?_);clear hK K hHeld hS hq;have hS:=hS2;clear hS2;try simp only [Act.put,sA,sB,sC]
 refine tk 5 (by simp only [gA,gB,gC];rfl) (by first | kernel_rfl | rfl) (fun uz _=>by go_simp;try with_reducible rfl) pq hS ?_;try simp only [Act.put,sA,sB,sC]
 refine wpAnyH_done (by kernel_rfl) ?_ _;have HQ:=Hd hS;clear hS;go_wp2_with fail
 try (rename_i dx1 d1 hx1;have hy1:(some 1:Option Tmp) = some d1:=hx1;obtain rfl:=Option.some.inj hy1;clear hx1 hy1)
 go_ret
 exact ⟨rfl,HQ.out⟩
theorem clus_len {r:Lm.Rec} {X:Pt.Pat} (hO:Lm.Ok r X):(Lm.clus r X).length <= 1000000:=by
 have h:∀ A ∈ Lm.affs X,(pcs (Lm.bs (Lm.atx r A))).length <= 64:=fun A hA=>by
  rw [pcs_length];have h1:=begL_length (Lm.bs (Lm.atx r A)).data.toList;have h2:=hO.len A hA;rw [Lm.bs_list] at h1 |-;omega
 have e:Lm.clus r X = pcs (Lm.bs (Lm.atx r X.pre)) ++ (pcs (Lm.bs (Lm.atx r X.suf)) ++ (pcs (Lm.bs (Lm.atx r X.npre)) ++ (pcs (Lm.bs (Lm.atx r X.nsuf)) ++ []))):=rfl;rw [e];have h1:=h X.pre (by simp [Lm.affs]);have h2:=h X.suf (by simp [Lm.affs]);have h3:=h X.npre (by simp [Lm.affs]);have h4:=h X.nsuf (by simp [Lm.affs]);simp only [List.length_append,List.length_nil];omega
theorem lk15 {w0:World} {g rb lp ep:Nat} {r:Lm.Rec} {X:Pt.Pat} {a b c d cl:Value} (hO:Lm.Ok r X) (hE:EnvL w0 g rb lp ep r X a b c d cl) :
  Calls Tryz.prog 114 #[.pointer (some ⟨lp,0,none⟩)] w0 fun e w'=>e = .returned (.bool false) /\ Q w0 w':=by
 have hl:∀ A ∈ Lm.affs X,A.length <= 1000000 /\ (Lm.atx r A).length <= 1000000:=fun A hA=>⟨by have:=(hO.aff A hA).1;omega,by have:=hO.len A hA;omega⟩;have HA:=Hd (fun u2 (hq:Q w0 u2)=>split_any g r X a b c d cl u2 (hE.1.q hq) hl);have hcl:(Lm.clus r X).length <= 1000000:=clus_len hO;have HN:=Hd (fun u2 B v (hq:Q w0 u2) (hv:SOwn u2 B v (Lm.clus r X))=>noS 116 #[.pointer (some ⟨g,0,none⟩)] #[] (enters_of Tryz.func116 (by kernel_rfl) rfl) v (Lm.clus r X) u2 hv.lst hcl (fun k x hx u3 hq3=>symbol_none g r X a b c d cl x u3 (hE.1.q (hq.trans hq3)) (sgn_no hO (List.mem_of_getElem? hx))));clear hl hcl;generalize Lm.clus r X = CS at *;have HBL:=Hd hE.2.2.1;clear hO hE;go_enter Tryz.func114,Tryz.ntmps114
 go_upto_region 1 with fail
 refine wp_region_held_drew (S:=fun u=>Q w0 u) (by kernel_rfl) (by exact (Q.refl w0).drew) (fun hHeld=>?_);have hS:Q w0 w0.drew:=hHeld;clear hHeld;have hq:Q w0 w0.drew:=(Q.refl _).drew;clear hq;generalize w0.drew = yR2x0 at *;refine tk 0 (by simp only [gA,gB,gC];rfl) (by first | kernel_rfl | rfl) (fun uz hSw=>by (try dsimp only at hSw);have kb:=HBL.out.q hSw;have k0:=kb.cell 0 rfl;clear kb;go_simp;try with_reducible rfl) pq hS ?_;try simp only [Act.put,sA,sB,sC]
 refine tk 2 (by simp only [gA,gB,gC];rfl) (by first | kernel_rfl | rfl) (fun uz hSw=>by (try dsimp only at hSw);have kb:=HBL.out.q hSw;have k0:=kb.cell 0 rfl;clear kb;go_simp;try with_reducible rfl) pq hS ?_;try simp only [Act.put,sA,sB,sC]
 refine tk 3 (by simp only [gA,gB,gC];rfl) (by first | kernel_rfl | rfl) (fun uz _=>by go_simp;try with_reducible rfl) pq hS ?_;try simp only [Act.put,sA,sB,sC]
 refine wpAnyH_ready (rs:=[1]) (by kernel_rfl) (by simp) ?_;refine ar rfl fun K hK=>?_;go_simp
 refine (HA.out _ hS).mono ?_;rintro e yR2x4 ⟨v1,rfl,hv1,hq⟩;have HV1:=Hd hv1;obtain ⟨va,vc,rfl⟩:=hv1.lst.shape;clear hv1;try (go_wp2_with fail)
 have hS2:=Q.trans hS hq;refine hK.out _ _ (by exact hS2) (fun hHeld=>?_);clear hK K hHeld hS hq;have hS:=hS2;clear hS2;try simp only [Act.put,sA,sB,sC]
 refine wpAnyH_ready (rs:=[4]) (by kernel_rfl) (by simp) ?_;refine ar rfl fun K hK=>?_;go_simp
 refine (HN.out _ _ _ hS HV1.out).mono ?_;rintro e yR2x5 ⟨rfl,hq⟩;try (go_wp2_with fail)
 have HV1:=Hd (GOwn.q HV1.out hq);have hS2:=Q.trans hS hq;refine hK.out _ _ (by exact hS2) (fun hHeld=>?_);clear hK K hHeld hS hq;have hS:=hS2;clear hS2;try simp only [Act.put,sA,sB,sC]
 refine tk 5 (by simp only [gA,gB,gC];rfl) (by first | kernel_rfl | rfl) (fun uz _=>by go_simp;try with_reducible rfl) pq hS ?_;try simp only [Act.put,sA,sB,sC]
 refine wpAnyH_done (by kernel_rfl) ?_ _;have HQ:=Hd hS;clear hS;go_wp2_with fail
 try (rename_i dx1 d1 hx1;have hy1:(some 1:Option Tmp) = some d1:=hx1;obtain rfl:=Option.some.inj hy1;clear hx1 hy1)
 go_ret
 exact ⟨rfl,HQ.out⟩
end Lo
end
end Go.Proofs.YtdjhkbholijnmaaGreatDoor
