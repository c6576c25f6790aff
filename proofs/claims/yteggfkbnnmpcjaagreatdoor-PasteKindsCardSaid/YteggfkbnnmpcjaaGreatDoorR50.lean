/- What a cluster is: the document's own. (and more) -/
import Derived.Test.YteggfkbnnmpcjaaGreatDoorR46
import Derived.Test.YteggfkbnnmpcjaaGreatDoorR48
set_option linter.all false
set_option maxRecDepth 100000
set_option maxHeartbeats 8000000
namespace Go.Proofs.YteggfkbnnmpcjaaGreatDoor
section
open Go.RowKit
namespace Pq
open Um Cm Gm Im Lo Ro Sx Ps
theorem kind_doc (r:Lm.Rec) (X:Pt.Pat) (b:ByteArray):kind r X b =
  if ¬ (pcs b).length = 1 then -1 else if 0 <= Lm.sgn r b then Lm.sgn r b
  else if (allL b.data.toList).length = 1 /\ 0 <= (Sm.ofC ((allL b.data.toList).headD 0)).2 then (Sm.ofC ((allL b.data.toList).headD 0)).2
  else if (allL b.data.toList).length = 1 /\ ((allL b.data.toList).headD 0 = 45 \/ (allL b.data.toList).headD 0 = 8722) then 12
  else if (allL b.data.toList).length = 1 /\ (allL b.data.toList).headD 0 = 46 then 10
  else if blankB ((allL b.data.toList).headD 0) = true \/ 0 <= Lm.plc b (Lm.clus r X) 0 then 11 else -1:=by
 unfold kind;by_cases h1:(pcs b).length = 1
 ·rw [if_pos h1,if_neg (by simpa using h1)]
  unfold kd;by_cases h2:0 <= Lm.sgn r b
  ·rw [if_pos h2,if_pos h2]
  ·rw [if_neg h2,if_neg h2]
   generalize (allL b.data.toList).headD 0 = c;unfold oth;by_cases h3:(allL b.data.toList).length = 1
   ·simp only [h3,true_and]
    by_cases h4:0 <= (Sm.ofC c).2
    ·rw [if_pos h4,if_pos h4,if_pos h4]
    ·rw [if_neg h4,if_neg h4]
     by_cases h5:c = 45 \/ c = 8722
     ·rw [if_pos h5,if_pos (by omega),if_pos h5]
     ·rw [if_neg h5,if_neg h5]
      by_cases h6:c = 46
      ·rw [if_pos h6,if_pos (by omega),if_pos h6]
      ·rw [if_neg h6,if_neg (by omega),if_neg h6]
   ·simp [h3]
 ·rw [if_neg h1,if_pos h1]
theorem kind_any (r:Lm.Rec) (X:Pt.Pat) (a b c d:Value) (s:ByteArray) (w:World) (hO:Lm.Ok r X) (hL:Ro.LL w X a b c d) (hs:s.size <= 1073741824) :
  Calls Tryz.prog 12 #[lV r X a b c d,.string s] w fun e w'=>e = .returned (.int .i64 (kind r X s)) /\ Q w w':=by
 have HK:=Hd (kind_doc r X s);have HSP:=Hd (fun u=>Gr.split_any s u hs);have HAL:=Hd (fun u=>Ur.all_any s u hs);have HSG:=Hd (fun u (q:Q w u)=>rsign_any r X a b c d s u hO (hL.q q));have HAF:=Hd (fun u (q:Q w u)=>raffix_any r X a b c d s u hO (hL.q q));have hne:(pcs s).length = 1 -> 0 < (allL s.data.toList).length:=fun h=>by
  rcases Nat.eq_zero_or_pos (allL s.data.toList).length with h0 | h0
  ·have e:s.data.toList = []:=by
    cases hh:s.data.toList with
    | nil=>rfl
    | cons x l =>
     unfold allL at h0;rw [hh,marks_cons _ (by simp)] at h0;simp at h0
   have h2:=(begL_zero _).2 e;rw [pcs_length] at h;omega
  ·exact h0
 have HNE:=Hd hne;obtain ⟨a1,a2,rfl⟩:=hL.1.shape;obtain ⟨b1,b2,rfl⟩:=hL.2.1.shape;obtain ⟨c1,c2,rfl⟩:=hL.2.2.1.shape;obtain ⟨d1,d2,rfl⟩:=hL.2.2.2.shape;have hpl:(pcs s).length <= 1073741824:=by
  rw [pcs_length];have:=begL_length s.data.toList;rw [size_list] at this;omega
 have hal:(allL s.data.toList).length <= 1073741824:=by
  have:=marks_length s.data.toList;rw [size_list] at this;unfold allL;simp only [List.length_map];omega
 have HGD:=Hd (show (allL s.data.toList).getD 0 0 = (allL s.data.toList).headD 0 by cases allL s.data.toList <;> rfl)
 clear hL hO hs hne;generalize kind r X s = K at *;generalize Lm.sgn r s = sg at *;generalize Lm.plc s (Lm.clus r X) 0 = pl at *;generalize (allL s.data.toList).headD 0 = ch at *;have HOF:=Hd (fun u=>Sr.of_any ch u);generalize (Sm.ofC ch).1 = nm1 at *;generalize (Sm.ofC ch).2 = dg at *;have HBL:=Hd (fun u=>Cr.blank_any ch u);generalize blankB ch = bl at *;generalize pcs s = P at *;obtain ⟨n,hn⟩:∃ n,n = P.length:=⟨_,rfl⟩;rw [<- hn] at HK HNE hpl;have HN:=Hd hn.symm;generalize allL s.data.toList = A at *;obtain ⟨m,hm⟩:∃ m,m = A.length:=⟨_,rfl⟩;rw [<- hm] at HK HNE hal;have HM:=Hd hm.symm;clear hn hm;unfold lV at *;generalize X.pre.length = n1 at *;generalize X.suf.length = n2 at *;generalize X.npre.length = n3 at *;generalize X.nsuf.length = n4 at *;generalize X.pr = p0 at *;generalize X.se = p1 at *;generalize X.mi = p2 at *;generalize X.mf = p3 at *;generalize X.xf = p4 at *;generalize Lm.bs r.nam = s0 at *;generalize Lm.bs r.pat = s1 at *;generalize Lm.bs r.sys = s2 at *;generalize Lm.bs r.dec = s3 at *;generalize Lm.bs r.grp = s4 at *;generalize Lm.bs r.min = s5 at *;generalize Lm.bs r.per = s6 at *;generalize Lm.bs r.cur = s7 at *;obtain ⟨y,hy⟩:∃ y,y = w.alloc (.cells #[.string s0,.string s1,.string s2,.string s3,.string s4,.string s5,.string s6,.string s7,.slice a1 n1 a2,.slice b1 n2 b2,.slice c1 n3 c2,.slice d1 n4 d2,.int .i64 p0,.int .i64 p1,.int .i64 p2,.int .i64 p3,.int .i64 p4] 31):=⟨_,rfl⟩;have hqy:Q w y:=by rw [hy];exact (Q.refl w).alloc _
 have hby:Bk y w.heap.size 31 [.string s0,.string s1,.string s2,.string s3,.string s4,.string s5,.string s6,.string s7,.slice a1 n1 a2,.slice b1 n2 b2,.slice c1 n3 c2,.slice d1 n4 d2,.int .i64 p0,.int .i64 p1,.int .i64 p2,.int .i64 p3,.int .i64 p4]:=by rw [hy];exact Bk.new _ _ _
 have HQY:=Hd hqy;have HBY:=Hd hby
 clear hqy hby
 go_enter Tryz.func12,Tryz.ntmps12
 go_upto_region 1 with fail
 rw [<- hy];clear hy;obtain ⟨bz,hbz⟩:∃ b,b = w.heap.size:=⟨_,rfl⟩;rw [<- hbz] at HBY;rw [<- hbz];clear hbz;go_wp2_with fail
 refine (HSP.out _).mono ?_;rintro e w1 ⟨v,rfl,hov,hq1⟩;have hlv:=hov.lst;obtain ⟨va,vc,rfl⟩:=hlv.shape;rw [HN.out];have HQ1:=Hd (HQY.out.trans hq1);have HB1:=Hd (HBY.out.q hq1);clear hov hlv hq1 HQY HBY;by_cases h1:n = 1
 ·replace HK:=Hd (HK.out.trans (if_neg (by simpa using h1)))
  have hpos:=HNE.out h1;subst h1;go_wp2_with (refine wpList_load_row (by rfl) 31 _ (by rfl) bz (by rfl) 31 #[.string s0,.string s1,.string s2,.string s3,.string s4,.string s5,.string s6,.string s7,.slice a1 n1 a2,.slice b1 n2 b2,.slice c1 n3 c2,.slice d1 n4 d2,.int .i64 p0,.int .i64 p1,.int .i64 p2,.int .i64 p3,.int .i64 p4] (0,0) _ HB1.out Tryz.underlying31 rfl (by exact infoL) ?_)
  refine (HSG.out _ HQ1.out).mono ?_;rintro e w2 ⟨rfl,hq2⟩;have HQ2:=Hd (HQ1.out.trans hq2);have HB2:=Hd (HB1.out.q hq2);clear hq2 HQ1 HB1;by_cases h2:0 <= sg
  ·replace HK:=Hd (HK.out.trans (if_pos h2))
   go_wp2_with fail
   go_ret
   rw [HK.out];exact ⟨rfl,HQ2.out⟩
  ·replace HK:=Hd (HK.out.trans (if_neg h2))
   go_wp2_with fail
   refine (HAL.out _).mono ?_;rintro e w3 ⟨v,u,rfl,hv,hu,_,hq3⟩;have HQ3:=Hd (HQ2.out.trans hq3);have HB3:=Hd (HB2.out.q hq3);obtain ⟨u1,u2,rfl⟩:=hu.lst.shape;have hvv:=hv.lst.cellOf HM.out hpos;obtain ⟨gl,off,cap,rfl,hgl,hcp,_,cl⟩:=hvv;rw [HGD.out] at cl;simp only [Nat.add_zero] at cl;have hm1:(1:Nat) <= m:=hpos;have hm2:(0:Int) < m:=by omega
   clear hv hu hq3 HQ2 HB2;have stp:∀ (uu:World),Q w uu -> Bk uu bz 31 [.string s0,.string s1,.string s2,.string s3,.string s4,.string s5,.string s6,.string s7,.slice a1 n1 a2,.slice b1 n2 b2,.slice c1 n3 c2,.slice d1 n4 d2,.int .i64 p0,.int .i64 p1,.int .i64 p2,.int .i64 p3,.int .i64 p4] -> True:=fun _ _ _=>trivial;by_cases h3:m = 1
   ·subst h3
    simp only [true_and] at HK;go_wp2_with fail
    refine (HOF.out _).mono ?_;rintro e w4 ⟨rfl,hq4⟩;have HQ4:=Hd (HQ3.out.trans hq4);have HB4:=Hd (HB3.out.q hq4);clear hq4 HQ3 HB3 cl;by_cases h4:0 <= dg
    ·replace HK:=Hd (HK.out.trans (if_pos h4))
     go_wp2_with fail
     go_ret
     rw [HK.out];exact ⟨rfl,HQ4.out⟩
    ·replace HK:=Hd (HK.out.trans (if_neg h4))
     by_cases h5:ch = 45
     ·replace HK:=Hd (HK.out.trans (if_pos (.inl h5)))
      go_wp2_with fail
      go_ret
      rw [HK.out];exact ⟨rfl,HQ4.out⟩
     ·by_cases h6:ch = 8722
      ·replace HK:=Hd (HK.out.trans (if_pos (.inr h6)))
       go_wp2_with fail
       go_ret
       rw [HK.out];exact ⟨rfl,HQ4.out⟩
      ·replace HK:=Hd (HK.out.trans (if_neg (fun h=>h.elim h5 h6)))
       by_cases h7:ch = 46
       ·replace HK:=Hd (HK.out.trans (if_pos h7))
        go_wp2_with fail
        go_ret
        rw [HK.out];exact ⟨rfl,HQ4.out⟩
       ·replace HK:=Hd (HK.out.trans (if_neg h7))
        go_wp2_with fail
        refine (HBL.out _).mono ?_;rintro e w5 ⟨rfl,hq5⟩;have HQ5:=Hd (HQ4.out.trans hq5);have HB5:=Hd (HB4.out.q hq5);clear hq5 HQ4 HB4;go_wp2_with (refine wpList_load_row (by rfl) 31 _ (by rfl) bz (by rfl) 31 #[.string s0,.string s1,.string s2,.string s3,.string s4,.string s5,.string s6,.string s7,.slice a1 n1 a2,.slice b1 n2 b2,.slice c1 n3 c2,.slice d1 n4 d2,.int .i64 p0,.int .i64 p1,.int .i64 p2,.int .i64 p3,.int .i64 p4] (0,0) _ HB5.out Tryz.underlying31 rfl (by exact infoL) ?_)
        refine (HAF.out _ HQ5.out).mono ?_;rintro e w6 ⟨rfl,hq6⟩;have HQ6:=Hd (HQ5.out.trans hq6);clear hq6;cases bl with
        | true =>
         go_wp2_with fail
         go_ret
         rw [HK.out.trans (if_pos (by simp))];exact ⟨rfl,HQ6.out⟩
        | false =>
         by_cases h9:0 <= pl
         ·have hd9:decide (0 <= pl) = true:=by simpa using h9
          rw [hd9];go_wp2_with fail
          go_ret
          rw [HK.out.trans (if_pos (by simp;omega))];exact ⟨rfl,HQ6.out⟩
         ·have hd9:decide (0 <= pl) = false:=by simpa using h9
          rw [hd9];go_wp2_with fail
          go_ret
          rw [HK.out.trans (if_neg (by simp;omega))];exact ⟨rfl,HQ6.out⟩
   ·have h3i:¬ (m:Int) = 1:=by omega
    replace HK:=Hd (HK.out.trans (if_neg (fun h=>h3 h.1)));replace HK:=Hd (HK.out.trans (if_neg (fun h=>h3 h.1)));replace HK:=Hd (HK.out.trans (if_neg (fun h=>h3 h.1)));have HQ4:=HQ3;have HB4:=HB3;clear HQ3 HB3;go_wp2_with fail
    refine (HBL.out _).mono ?_;rintro e w5 ⟨rfl,hq5⟩;have HQ5:=Hd (HQ4.out.trans hq5);have HB5:=Hd (HB4.out.q hq5);clear hq5 HQ4 HB4;go_wp2_with (refine wpList_load_row (by rfl) 31 _ (by rfl) bz (by rfl) 31 #[.string s0,.string s1,.string s2,.string s3,.string s4,.string s5,.string s6,.string s7,.slice a1 n1 a2,.slice b1 n2 b2,.slice c1 n3 c2,.slice d1 n4 d2,.int .i64 p0,.int .i64 p1,.int .i64 p2,.int .i64 p3,.int .i64 p4] (0,0) _ HB5.out Tryz.underlying31 rfl (by exact infoL) ?_)
    refine (HAF.out _ HQ5.out).mono ?_;rintro e w6 ⟨rfl,hq6⟩;have HQ6:=Hd (HQ5.out.trans hq6);clear hq6;cases bl with
    | true =>
     go_wp2_with fail
     go_ret
     rw [HK.out.trans (if_pos (by simp))];exact ⟨rfl,HQ6.out⟩
    | false =>
     by_cases h9:0 <= pl
     ·have hd9:decide (0 <= pl) = true:=by simpa using h9
      rw [hd9];go_wp2_with fail
      go_ret
      rw [HK.out.trans (if_pos (by simp;omega))];exact ⟨rfl,HQ6.out⟩
     ·have hd9:decide (0 <= pl) = false:=by simpa using h9
      rw [hd9];go_wp2_with fail
      go_ret
      rw [HK.out.trans (if_neg (by simp;omega))];exact ⟨rfl,HQ6.out⟩
 ·replace HK:=Hd (HK.out.trans (if_pos h1))
  have h1i:¬ (n:Int) = 1:=by omega
  go_wp2_with fail
  go_ret
  rw [HK.out];exact ⟨rfl,HQ1.out⟩
end Pq
end
end Go.Proofs.YteggfkbnnmpcjaaGreatDoor
