/- What the document's own Splice comes to, by a walk through it. (and more) -/
import Derived.Test.YtnehhbobhnmbcaaR22
set_option linter.all false
set_option maxRecDepth 100000
set_option maxHeartbeats 8000000
namespace Go.Proofs.Ytnehhbobhnmbcaa
section
open Go.RowKit
namespace Tr
open Tm
theorem splice_any (g s:Bool) (a1 a2:Option Addr) (n1 n2 c1 c2:Nat) (I F:List Int) (w:World) (hi:Lst w (.slice a1 n1 c1) I) (hf:Lst w (.slice a2 n2 c2) F) (k1:I.length = n1) (k2:F.length = n2) (l1:n1 <= 100000) (l2:n2 <= 100000) (i j:Int) (va:Value) (A:List Int) (ha:Lst w va A) (la:A.length <= 100000) :
  Calls Try.prog 46 #[.agg #[.bool g,.slice a1 n1 c1,.bool s,.slice a2 n2 c2],.int .i64 i,.int .i64 j,va] w fun e w'=>∃ x,e = .returned (.tuple #[x,.int .i64 (spC ⟨g,I,s,F⟩ i j A)]) /\ LD w' (w.heap.size + 2) x (spR ⟨g,I,s,F⟩ i j A) /\ Q w w':=by
 obtain ⟨m,hm⟩:∃ m,m = A.length:=⟨_,rfl⟩;obtain ⟨ax,cx,rfl,hcx,hcy⟩:=ha.form0 hm.symm;rw [<- hm] at la;unfold maxLen at hcy;have HMY:=Hd (fun u (q:Q w u)=>may_any g s _ _ I F u (hi.q q) (hf.q q) (by omega) (by omega));have HAV:=Hd (fun u (q:Q w u) k (hk:k < m)=>(ha.q q).cellOf (n:=m) (k:=k) hm.symm hk);have HBD:=Hd (fun k (hk:k < m)=>okA_bad A k (by omega));have HON:=Hd (fun k (hk:k < m)=>okA_on A k (by omega));have HEN:=Hd (fun k (hk:m <= k)=>okA_end A k (by omega));obtain ⟨N,hN⟩:∃ N,N = n1 + (sep s).length + n2:=⟨_,rfl⟩;have hsl:=sep_len s;have HAT:=Hd (fun u (q:Q w u)=>by
  have h:=atoms_any g s a1 a2 n1 n2 c1 c2 I F u (hi.q q) (hf.q q) k1 k2 l1 l2;rw [<- hN] at h;exact h)
 have hal:(ats ⟨g,I,s,F⟩).length = N:=by rw [ats_len,hN];dsimp only;rw [k1,k2]
 have hate:I ++ sep s ++ F = ats ⟨g,I,s,F⟩:=rfl;rw [hate] at HAT;have hbad:=fun (h:(may ⟨g,I,s,F⟩ && okA A) = false)=>spC_bad (i:=i) (j:=j) h;have hfar:=fun (h:(may ⟨g,I,s,F⟩ && okA A) = true) h2=>spC_far (i:=i) (j:=j) h h2;have hin:=fun (h:(may ⟨g,I,s,F⟩ && okA A) = true) h2=>spC_in (i:=i) (j:=j) h h2;rw [hal] at hfar hin;have HA:=Hd (fun u (q:Q w u)=>ha.q q);have hNb:N <= 200001:=by omega
 have hsp:spl ⟨g,I,s,F⟩ i j A = (ats ⟨g,I,s,F⟩).take i.toNat ++ A ++ (ats ⟨g,I,s,F⟩).drop j.toNat:=rfl;dsimp only at hin;obtain ⟨r2,hr2⟩:∃ r2,r2 = okA A:=⟨_,rfl⟩;rw [<- hr2] at hbad hfar hin;have HR2:=Hd hr2;clear hr2;generalize may ⟨g,I,s,F⟩ = r at *;generalize spC ⟨g,I,s,F⟩ i j A = C at *;generalize spR ⟨g,I,s,F⟩ i j A = R at *;generalize spl ⟨g,I,s,F⟩ i j A = J at *;generalize ats ⟨g,I,s,F⟩ = D at *;obtain ⟨y,hy⟩:∃ y,y = w.alloc (.cells #[.bool g,.slice a1 n1 c1,.bool s,.slice a2 n2 c2] 24):=⟨_,rfl⟩;have hqy:Q w y:=by rw [hy];exact (Q.refl w).alloc _
 have hby:Bk y w.heap.size 24 [.bool g,.slice a1 n1 c1,.bool s,.slice a2 n2 c2]:=by rw [hy];exact Bk.new _ _ _
 have hsy:y.heap.size = w.heap.size + 1:=by rw [hy];simp
 obtain ⟨z,hz⟩:∃ z,z = y.alloc (.cells #[.bool false,.slice none 0 0,.bool false,.slice none 0 0] 24):=⟨_,rfl⟩;have hqz:Q y z:=by rw [hz];exact (Q.refl y).alloc _
 have HQ:=Hd (hqy.trans hqz);have HB:=Hd (hby.q hqz);have HD:=Hd (show Bk z (w.heap.size + 1) 24 [.bool false,.slice none 0 0,.bool false,.slice none 0 0] by rw [hz,<- hsy];exact Bk.new _ _ _);have HWD:=Hd (Nat.le_succ w.heap.size);have HZS:=Hd (show w.heap.size + 2 <= z.heap.size by rw [hz];simp [hsy]);have hz2:z = (w.alloc (.cells #[.bool g,.slice a1 n1 c1,.bool s,.slice a2 n2 c2] 24)).alloc (.cells #[.bool false,.slice none 0 0,.bool false,.slice none 0 0] 24):=by rw [hz,hy]
 have HM:=Hd hm.symm;have HAL:=Hd hal;have HSPL:=Hd hsp;clear hqy hby hsy hqz hz hy hi hf ha k1 k2 hate hsl hN hm hal hsp;cases r
 ·obtain ⟨rfl,rfl⟩:=hbad rfl
  clear hbad hfar hin;go_enter Try.func46,Try.ntmps46
  go_upto_region 1 with fail
  rw [<- hz2];clear hz2;have x0:=HB.out.cell 0 rfl;have x1:=HB.out.cell 1 rfl;have x2:=HB.out.cell 2 rfl;have x3:=HB.out.cell 3 rfl;go_wp2_with fail
  refine (HMY.out _ HQ.out).mono ?_;rintro e u1 ⟨rfl,hq⟩;have HB1:=Hd (HB.out.q hq);have HD1:=Hd (HD.out.q hq);have HQ1:=Hd (HQ.out.trans hq);have HS1:=Hd (Nat.le_trans HZS.out hq.le);clear hq x0 x1 x2 x3 HB HD HQ HZS;have b0:=HD1.out.cell 0 rfl;have f0:=HD1.out.free 0;have b1:=HD1.out.cell 1 rfl;have f1:=HD1.out.free 1;have b2:=HD1.out.cell 2 rfl;have f2:=HD1.out.free 2;have b3:=HD1.out.cell 3 rfl;have f3:=HD1.out.free 3;go_wp2_with fail
  exact ret_d2 rfl rfl rfl rfl ((((HD1.out.set 0 _).set 1 _).set 2 _).set 3 _) rfl ⟨_,rfl,LD.zero _ _,Q.setCell (Q.setCell (Q.setCell (Q.setCell HQ1.out HWD.out _) HWD.out _) HWD.out _) HWD.out _⟩
 ·rw [Bool.true_and] at hbad hfar hin
  go_enter Try.func46,Try.ntmps46
  go_upto_region 1 with fail
  rw [<- hz2];clear hz2;have x0:=HB.out.cell 0 rfl;have x1:=HB.out.cell 1 rfl;have x2:=HB.out.cell 2 rfl;have x3:=HB.out.cell 3 rfl;go_wp2_with fail
  refine (HMY.out _ HQ.out).mono ?_;rintro e u1 ⟨rfl,hq⟩;have HB1:=Hd (HB.out.q hq);have HD1:=Hd (HD.out.q hq);have HQ1:=Hd (HQ.out.trans hq);have HS1:=Hd (Nat.le_trans HZS.out hq.le);clear hq x0 x1 x2 x3 HB HD HQ HZS;go_wp2_with fail
  go_loop [11] (fun i=>∃ k:Nat,i = .int .i64 k /\ k <= m /\ okA (A.drop k) = r2) (fun i=>m - (intOf i).toNat)
  case atStart=>exact ⟨0,rfl,by omega,by rw [HR2.out];rfl⟩
  case round =>
   obtain ⟨k,rfl,hk,hc⟩:=hrel;have HC:=Hd hc;clear hc;by_cases hlt:k < m
   ·obtain ⟨gl,off,cap,hvv,hgl,_,_,cl⟩:=HAV.out u1 HQ1.out k hlt
    cases hvv;have hb:=HBD.out k hlt;have ho:=HON.out k hlt;obtain ⟨x,hx⟩:∃ x,x = A.getD k 0:=⟨_,rfl⟩;rw [<- hx] at cl hb ho;clear hx;by_cases hy0:x < 0
    ·have hrf:r2 = false:=by rw [<- HC.out];exact hb (by omega)
     have HCR:=Hd (hbad hrf);clear hb ho hbad hfar hin hrf;have b0:=HD1.out.cell 0 rfl;have f0:=HD1.out.free 0;have b1:=HD1.out.cell 1 rfl;have f1:=HD1.out.free 1;have b2:=HD1.out.cell 2 rfl;have f2:=HD1.out.free 2;have b3:=HD1.out.cell 3 rfl;have f3:=HD1.out.free 3;go_wp2_with fail
     exact ret_d2 rfl rfl rfl rfl ((((HD1.out.set 0 _).set 1 _).set 2 _).set 3 _) rfl ⟨(.agg #[.bool false,.slice none 0 0,.bool false,.slice none 0 0]),by rw [HCR.out.1];rfl,by rw [HCR.out.2];exact LD.zero _ _,Q.setCell (Q.setCell (Q.setCell (Q.setCell HQ1.out HWD.out _) HWD.out _) HWD.out _) HWD.out _⟩
    ·by_cases hy1:10 < x
     ·have hrf:r2 = false:=by rw [<- HC.out];exact hb (by omega)
      have HCR:=Hd (hbad hrf);have h3:x > 10:=hy1;clear hb ho hbad hfar hin hrf;have b0:=HD1.out.cell 0 rfl;have f0:=HD1.out.free 0;have b1:=HD1.out.cell 1 rfl;have f1:=HD1.out.free 1;have b2:=HD1.out.cell 2 rfl;have f2:=HD1.out.free 2;have b3:=HD1.out.cell 3 rfl;have f3:=HD1.out.free 3;go_wp2_with fail
      exact ret_d2 rfl rfl rfl rfl ((((HD1.out.set 0 _).set 1 _).set 2 _).set 3 _) rfl ⟨(.agg #[.bool false,.slice none 0 0,.bool false,.slice none 0 0]),by rw [HCR.out.1];rfl,by rw [HCR.out.2];exact LD.zero _ _,Q.setCell (Q.setCell (Q.setCell (Q.setCell HQ1.out HWD.out _) HWD.out _) HWD.out _) HWD.out _⟩
     ·have HN:=Hd ((ho (by omega)).symm.trans HC.out)
      have h3:¬ x > 10:=by omega
      have h4:x <= 10:=by omega
      have h5:0 <= x:=by omega
      clear hb ho hbad hfar hin;go_wp2_with fail
      exact ⟨⟨k + 1,by go_num,by omega,HN.out⟩,by simp [intOf];omega⟩
   ·obtain rfl:k = m:=by omega
    have hrt:r2 = true:=by rw [<- HC.out];exact HEN.out k (Nat.le_refl _)
    by_cases hi0:i < 0
    ·have HCR:=Hd (hfar hrt (.inl hi0))
     clear hbad hfar hin hrt;have x0:=HB1.out.cell 0 rfl;have x1:=HB1.out.cell 1 rfl;have x2:=HB1.out.cell 2 rfl;have x3:=HB1.out.cell 3 rfl;go_wp2_with fail
     refine (HAT.out _ HQ1.out).mono ?_;rintro e u3 ⟨da,dc,rfl,ho,hq⟩;have HO:=Hd ho;have HB3:=Hd (HB1.out.q hq);have HD3:=Hd (HD1.out.q hq);have HQ3:=Hd (HQ1.out.trans hq);have HS3:=Hd (Nat.le_trans HS1.out hq.le);clear hq ho x0 x1 x2 x3;have b0:=HD3.out.cell 0 rfl;have f0:=HD3.out.free 0;have b1:=HD3.out.cell 1 rfl;have f1:=HD3.out.free 1;have b2:=HD3.out.cell 2 rfl;have f2:=HD3.out.free 2;have b3:=HD3.out.cell 3 rfl;have f3:=HD3.out.free 3;go_wp2_with fail
     exact ret_d2 rfl rfl rfl rfl ((((HD3.out.set 0 _).set 1 _).set 2 _).set 3 _) rfl ⟨(.agg #[.bool false,.slice none 0 0,.bool false,.slice none 0 0]),by rw [HCR.out.1];rfl,by rw [HCR.out.2];exact LD.zero _ _,Q.setCell (Q.setCell (Q.setCell (Q.setCell HQ3.out HWD.out _) HWD.out _) HWD.out _) HWD.out _⟩
    ·have hi1:0 <= i:=by omega
     by_cases hji:j < i
     ·have HCR:=Hd (hfar hrt (.inr (.inl hji)))
      clear hbad hfar hin hrt;have x0:=HB1.out.cell 0 rfl;have x1:=HB1.out.cell 1 rfl;have x2:=HB1.out.cell 2 rfl;have x3:=HB1.out.cell 3 rfl;go_wp2_with fail
      refine (HAT.out _ HQ1.out).mono ?_;rintro e u3 ⟨da,dc,rfl,ho,hq⟩;have HO:=Hd ho;have HB3:=Hd (HB1.out.q hq);have HD3:=Hd (HD1.out.q hq);have HQ3:=Hd (HQ1.out.trans hq);have HS3:=Hd (Nat.le_trans HS1.out hq.le);clear hq ho x0 x1 x2 x3;have b0:=HD3.out.cell 0 rfl;have f0:=HD3.out.free 0;have b1:=HD3.out.cell 1 rfl;have f1:=HD3.out.free 1;have b2:=HD3.out.cell 2 rfl;have f2:=HD3.out.free 2;have b3:=HD3.out.cell 3 rfl;have f3:=HD3.out.free 3;go_wp2_with fail
      exact ret_d2 rfl rfl rfl rfl ((((HD3.out.set 0 _).set 1 _).set 2 _).set 3 _) rfl ⟨(.agg #[.bool false,.slice none 0 0,.bool false,.slice none 0 0]),by rw [HCR.out.1];rfl,by rw [HCR.out.2];exact LD.zero _ _,Q.setCell (Q.setCell (Q.setCell (Q.setCell HQ3.out HWD.out _) HWD.out _) HWD.out _) HWD.out _⟩
     ·have hji1:i <= j:=by omega
      by_cases hjN:(N:Int) < j
      ·have HCR:=Hd (hfar hrt (.inr (.inr hjN)))
       clear hbad hfar hin hrt;have x0:=HB1.out.cell 0 rfl;have x1:=HB1.out.cell 1 rfl;have x2:=HB1.out.cell 2 rfl;have x3:=HB1.out.cell 3 rfl;go_wp2_with fail
       refine (HAT.out _ HQ1.out).mono ?_;rintro e u3 ⟨da,dc,rfl,ho,hq⟩;have HO:=Hd ho;have HB3:=Hd (HB1.out.q hq);have HD3:=Hd (HD1.out.q hq);have HQ3:=Hd (HQ1.out.trans hq);have HS3:=Hd (Nat.le_trans HS1.out hq.le);clear hq ho x0 x1 x2 x3;have b0:=HD3.out.cell 0 rfl;have f0:=HD3.out.free 0;have b1:=HD3.out.cell 1 rfl;have f1:=HD3.out.free 1;have b2:=HD3.out.cell 2 rfl;have f2:=HD3.out.free 2;have b3:=HD3.out.cell 3 rfl;have f3:=HD3.out.free 3;go_wp2_with fail
       exact ret_d2 rfl rfl rfl rfl ((((HD3.out.set 0 _).set 1 _).set 2 _).set 3 _) rfl ⟨(.agg #[.bool false,.slice none 0 0,.bool false,.slice none 0 0]),by rw [HCR.out.1];rfl,by rw [HCR.out.2];exact LD.zero _ _,Q.setCell (Q.setCell (Q.setCell (Q.setCell HQ3.out HWD.out _) HWD.out _) HWD.out _) HWD.out _⟩
      ·have hjN1:j <= (N:Int):=by omega
       obtain ⟨p,rfl⟩:∃ p:Nat,i = p:=⟨i.toNat,by omega⟩;obtain ⟨q,rfl⟩:∃ q:Nat,j = q:=⟨j.toNat,by omega⟩;have HCR:=Hd (hin hrt (by omega));clear hbad hfar hin hrt;have hsp:=HSPL.out;rw [Int.toNat_natCast,Int.toNat_natCast] at hsp;have hpq:p <= q:=by omega
       have hqN:q <= N:=by omega
       have hjl:J.length <= 400000:=by
        have h1:=HAL.out;have h2:=HM.out;rw [hsp,List.length_append,List.length_append,List.length_take,List.length_drop,h1,h2];omega
       have HOF:=Hd (fun u v (h:Lst u v J)=>of_any g v J u h (by omega));replace HSPL:=Hd hsp;clear hjl hsp;have x0:=HB1.out.cell 0 rfl;have x1:=HB1.out.cell 1 rfl;have x2:=HB1.out.cell 2 rfl;have x3:=HB1.out.cell 3 rfl;go_wp2_with fail
       refine (HAT.out _ HQ1.out).mono ?_;rintro e u3 ⟨da,dc,rfl,ho,hq⟩;have HO:=Hd ho;have HB3:=Hd (HB1.out.q hq);have HD3:=Hd (HD1.out.q hq);have HQ3:=Hd (HQ1.out.trans hq);have HS3:=Hd (Nat.le_trans HS1.out hq.le);clear hq ho x0 x1 x2 x3;have HT:=Hd (HO.out.lst.take p (by rw [HAL.out];omega));have hpl:(D.take p).length = p:=by rw [List.length_take,HAL.out];omega
       have HW1:=Hd (show ([]:List Int).length + (D.take p).length < 1099511627776 from by rw [hpl];show 0 + _ < _;omega);have HPL:=Hd hpl;have hol:=Own.nil u3 u3.heap.size;have hcm:=HO.out.lst.form0 HAL.out;obtain ⟨_,_,hsh,hca,hcb⟩:=hcm;cases hsh;have HR:=Hd (HO.out.lst.rest HAL.out hqN);unfold maxLen at hcb;have hpci:(p:Int) <= (dc:Int):=by omega
       have hqNi:(q:Int) <= (N:Int):=by omega
       have hqci:(q:Int) <= (dc:Int):=by omega
       clear hpl;go_wp2_with (at_builtin;refine push_list hol HT.out rfl _ _ rfl (by rfl) (by rfl) HW1.out (Nat.le_refl _) ?_)
       intro v4 u4 ho4 hg4 hat4;have HO4:=Hd (show Own u4 u3.heap.size v4 (D.take p) from ho4);have HQ4:=Hd (show Q u3 u4 from (Q.refl u3).grown hg4 (fun b hb=>by cases hb));have HA4:=Hd (HA.out u4 (HQ3.out.trans HQ4.out));have HW2:=Hd (show (D.take p).length + A.length < 1099511627776 from by rw [HPL.out,HM.out];omega);clear ho4 hg4 hat4 hol;go_wp2_with (at_builtin;refine push_list HO4.out HA4.out rfl _ _ rfl (by rfl) (by rfl) HW2.out HQ4.out.le ?_)
       intro v5 u5 ho5 hg5 hat5;have HO5:=Hd ho5;have HQ5:=Hd (show Q u3 u5 from HQ4.out.grown hg5 (fun b hb=>(HO4.out.lt b hb).1));have HW3:=Hd (show (D.take p ++ A).length + (D.drop q).length < 1099511627776 from by rw [List.length_append,List.length_drop,HPL.out,HM.out,HAL.out];omega);clear ho5 hg5 hat5;rcases HR.out with ⟨gg,off2,rfl,hz,hnc,hcm,hrl⟩ | ⟨rfl,rfl,hrl⟩ | ⟨ad,rfl,rfl,hnc,hcm,hrl⟩
       ·have hne:¬ (dc = q):=by omega
        have hne2:¬ (dc - q = 0):=by omega
        have HX:=Hd (hrl.q HQ5.out);clear hrl;go_wp2_with (at_builtin;refine push_list (ys:=D.drop q) HO5.out ?hu rfl _ _ rfl (by rfl) (by rfl) HW3.out HQ5.out.le ?_;case hu=>exact HX.out)
        intro v6 u6 ho6 hg6 hat6;rw [<- List.append_assoc,<- HSPL.out] at ho6;have HJ:=Hd ho6.lst;have HQ6:=Hd (show Q u3 u6 from HQ5.out.grown hg6 (fun b hb=>(HO5.out.lt b hb).1));clear ho6 hg6 hat6;have x0:=(HB3.out.q HQ6.out).cell 0 rfl;go_wp2_with fail
        refine (HOF.out _ _ HJ.out).mono ?_;rintro e u7 ⟨xo,rfl,⟨o1,p1,o2,p2,rfl,ho1,ho2⟩,hq7⟩;have HD7:=Hd ((HD3.out.q HQ6.out).q hq7);have HQ7:=Hd ((HQ3.out.trans HQ6.out).trans hq7);have HS6:=Hd (show w.heap.size + 2 <= u6.heap.size + 2 from by have h1:=HS3.out;have h2:=HQ6.out.le;omega);have HP1:=Hd (ho1.mono HS6.out);have HP2:=Hd (ho2.mono HS6.out);clear ho1 ho2 hq7 x0;have b0:=HD7.out.cell 0 rfl;have f0:=HD7.out.free 0;have b1:=HD7.out.cell 1 rfl;have f1:=HD7.out.free 1;have b2:=HD7.out.cell 2 rfl;have f2:=HD7.out.free 2;have b3:=HD7.out.cell 3 rfl;have f3:=HD7.out.free 3;go_wp2_with fail
        have hz1:=Own_past4 HP1.out HD7.out (by decide) (.bool (ofR g J).g) (.slice o1 (ofR g J).i.length p1) (.bool (ofR g J).s) (.slice o2 (ofR g J).f.length p2);have hz2:=Own_past4 HP2.out HD7.out (by decide) (.bool (ofR g J).g) (.slice o1 (ofR g J).i.length p1) (.bool (ofR g J).s) (.slice o2 (ofR g J).f.length p2);refine ret_d2 rfl rfl rfl rfl ((((HD7.out.set 0 _).set 1 _).set 2 _).set 3 _) rfl ⟨.agg #[.bool (ofR g J).g,.slice o1 (ofR g J).i.length p1,.bool (ofR g J).s,.slice o2 (ofR g J).f.length p2],by rw [HCR.out.1];rfl,?_,Q.setCell (Q.setCell (Q.setCell (Q.setCell HQ7.out HWD.out _) HWD.out _) HWD.out _) HWD.out _⟩;rw [HCR.out.2];exact ⟨o1,p1,o2,p2,rfl,hz1,hz2⟩
       ·have HX:=Hd hrl
        clear hrl;go_wp2_with (at_builtin;refine push_list (ys:=D.drop dc) HO5.out ?hu rfl _ _ rfl (by rfl) (by rfl) HW3.out HQ5.out.le ?_;case hu=>exact (by rw [HX.out];exact .nil _ _ _ (by unfold maxLen;omega) (by intro h;omega)))
        intro v6 u6 ho6 hg6 hat6;rw [<- List.append_assoc,<- HSPL.out] at ho6;have HJ:=Hd ho6.lst;have HQ6:=Hd (show Q u3 u6 from HQ5.out.grown hg6 (fun b hb=>(HO5.out.lt b hb).1));clear ho6 hg6 hat6;have x0:=(HB3.out.q HQ6.out).cell 0 rfl;go_wp2_with fail
        refine (HOF.out _ _ HJ.out).mono ?_;rintro e u7 ⟨xo,rfl,⟨o1,p1,o2,p2,rfl,ho1,ho2⟩,hq7⟩;have HD7:=Hd ((HD3.out.q HQ6.out).q hq7);have HQ7:=Hd ((HQ3.out.trans HQ6.out).trans hq7);have HS6:=Hd (show w.heap.size + 2 <= u6.heap.size + 2 from by have h1:=HS3.out;have h2:=HQ6.out.le;omega);have HP1:=Hd (ho1.mono HS6.out);have HP2:=Hd (ho2.mono HS6.out);clear ho1 ho2 hq7 x0;have b0:=HD7.out.cell 0 rfl;have f0:=HD7.out.free 0;have b1:=HD7.out.cell 1 rfl;have f1:=HD7.out.free 1;have b2:=HD7.out.cell 2 rfl;have f2:=HD7.out.free 2;have b3:=HD7.out.cell 3 rfl;have f3:=HD7.out.free 3;go_wp2_with fail
        have hz1:=Own_past4 HP1.out HD7.out (by decide) (.bool (ofR g J).g) (.slice o1 (ofR g J).i.length p1) (.bool (ofR g J).s) (.slice o2 (ofR g J).f.length p2);have hz2:=Own_past4 HP2.out HD7.out (by decide) (.bool (ofR g J).g) (.slice o1 (ofR g J).i.length p1) (.bool (ofR g J).s) (.slice o2 (ofR g J).f.length p2);refine ret_d2 rfl rfl rfl rfl ((((HD7.out.set 0 _).set 1 _).set 2 _).set 3 _) rfl ⟨.agg #[.bool (ofR g J).g,.slice o1 (ofR g J).i.length p1,.bool (ofR g J).s,.slice o2 (ofR g J).f.length p2],by rw [HCR.out.1];rfl,?_,Q.setCell (Q.setCell (Q.setCell (Q.setCell HQ7.out HWD.out _) HWD.out _) HWD.out _) HWD.out _⟩;rw [HCR.out.2];exact ⟨o1,p1,o2,p2,rfl,hz1,hz2⟩
       ·have hne:¬ (dc = q):=by omega
        have hne2:¬ (dc - q = 0):=by omega
        have HX:=Hd hrl;clear hrl;go_wp2_with (at_builtin;refine push_list (ys:=D.drop q) HO5.out ?hu rfl _ _ rfl (by rfl) (by rfl) HW3.out HQ5.out.le ?_;case hu=>exact (by rw [HX.out];exact .nil _ _ _ (by unfold maxLen;omega) (by intro h;cases h)))
        intro v6 u6 ho6 hg6 hat6;rw [<- List.append_assoc,<- HSPL.out] at ho6;have HJ:=Hd ho6.lst;have HQ6:=Hd (show Q u3 u6 from HQ5.out.grown hg6 (fun b hb=>(HO5.out.lt b hb).1));clear ho6 hg6 hat6;have x0:=(HB3.out.q HQ6.out).cell 0 rfl;go_wp2_with fail
        refine (HOF.out _ _ HJ.out).mono ?_;rintro e u7 ⟨xo,rfl,⟨o1,p1,o2,p2,rfl,ho1,ho2⟩,hq7⟩;have HD7:=Hd ((HD3.out.q HQ6.out).q hq7);have HQ7:=Hd ((HQ3.out.trans HQ6.out).trans hq7);have HS6:=Hd (show w.heap.size + 2 <= u6.heap.size + 2 from by have h1:=HS3.out;have h2:=HQ6.out.le;omega);have HP1:=Hd (ho1.mono HS6.out);have HP2:=Hd (ho2.mono HS6.out);clear ho1 ho2 hq7 x0;have b0:=HD7.out.cell 0 rfl;have f0:=HD7.out.free 0;have b1:=HD7.out.cell 1 rfl;have f1:=HD7.out.free 1;have b2:=HD7.out.cell 2 rfl;have f2:=HD7.out.free 2;have b3:=HD7.out.cell 3 rfl;have f3:=HD7.out.free 3;go_wp2_with fail
        have hz1:=Own_past4 HP1.out HD7.out (by decide) (.bool (ofR g J).g) (.slice o1 (ofR g J).i.length p1) (.bool (ofR g J).s) (.slice o2 (ofR g J).f.length p2);have hz2:=Own_past4 HP2.out HD7.out (by decide) (.bool (ofR g J).g) (.slice o1 (ofR g J).i.length p1) (.bool (ofR g J).s) (.slice o2 (ofR g J).f.length p2);refine ret_d2 rfl rfl rfl rfl ((((HD7.out.set 0 _).set 1 _).set 2 _).set 3 _) rfl ⟨.agg #[.bool (ofR g J).g,.slice o1 (ofR g J).i.length p1,.bool (ofR g J).s,.slice o2 (ofR g J).f.length p2],by rw [HCR.out.1];rfl,?_,Q.setCell (Q.setCell (Q.setCell (Q.setCell HQ7.out HWD.out _) HWD.out _) HWD.out _) HWD.out _⟩;rw [HCR.out.2];exact ⟨o1,p1,o2,p2,rfl,hz1,hz2⟩
end Tr
end
end Go.Proofs.Ytnehhbobhnmbcaa
