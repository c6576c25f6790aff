/- What package draft's Splice comes to, by a walk through it. (and more) -/
import Derived.Test.YtnehhbobhnmbcaaR16
set_option linter.all false
set_option maxRecDepth 100000
set_option maxHeartbeats 8000000
namespace Go.Proofs.Ytnehhbobhnmbcaa
section
open Go.RowKit
namespace Tm
def SX (w:World) (b:Nat) (ty:TypeId) (l:List Value) (u:World):Prop:=Q w u /\ Bk u b ty l
theorem SX.q {w u u':World} {b:Nat} {ty:TypeId} {l:List Value} (h:SX w b ty l u) (q:Q u u'):SX w b ty l u':=⟨h.1.trans q,h.2.q q⟩
end Tm
namespace Tp
open Tm
theorem splice_any (g s:Bool) (a1 a2:Option Addr) (n1 n2 c1 c2:Nat) (I F:List Int) (w:World) (hi:Lst w (.slice a1 n1 c1) I) (hf:Lst w (.slice a2 n2 c2) F) (k1:I.length = n1) (k2:F.length = n2) (l1:n1 <= 100000) (l2:n2 <= 100000) (i j:Int) (va:Value) (A:List Int) (ha:Lst w va A) (la:A.length <= 100000) :
  Calls Try.prog 64 #[.agg #[.bool g,.slice a1 n1 c1,.bool s,.slice a2 n2 c2],.int .i64 i,.int .i64 j,va] w fun e w'=>∃ x,e = .returned (.tuple #[x,.int .i64 (spC ⟨g,I,s,F⟩ i j A)]) /\ LD w' (w.heap.size + 1) x (spR ⟨g,I,s,F⟩ i j A) /\ Q w w':=by
 obtain ⟨m,hm⟩:∃ m,m = A.length:=⟨_,rfl⟩;obtain ⟨ax,cx,rfl,_,_⟩:=ha.form0 hm.symm;rw [<- hm] at la;have HMY:=Hd (fun u (q:Q w u)=>may_any g s _ _ I F u (hi.q q) (hf.q q) (by omega) (by omega));have HAA:=Hd (fun u (q:Q w u)=>((areAtoms_any _ A u (ha.q q) (by omega)).mono fun _ _ h=>⟨h.1,Qeq h.2⟩:Calls Try.prog 71 #[.slice ax m cx] u fun e w'=>e = .returned (.bool (okA A)) /\ Q u w'));obtain ⟨N,hN⟩:∃ N,N = n1 + (sep s).length + n2:=⟨_,rfl⟩;have hsl:=sep_len s;have HAT:=Hd (fun u (q:Q w u)=>by
  have h:=atoms_any g s a1 a2 n1 n2 c1 c2 I F u (hi.q q) (hf.q q) k1 k2 l1 l2;rw [<- hN] at h;exact h)
 have hal:(ats ⟨g,I,s,F⟩).length = N:=by rw [ats_len,hN];dsimp only;rw [k1,k2]
 have hate:I ++ sep s ++ F = ats ⟨g,I,s,F⟩:=rfl;rw [hate] at HAT;have hbad:=fun (h:(may ⟨g,I,s,F⟩ && okA A) = false)=>spC_bad (i:=i) (j:=j) h;have hfar:=fun (h:(may ⟨g,I,s,F⟩ && okA A) = true) h2=>spC_far (i:=i) (j:=j) h h2;have hin:=fun (h:(may ⟨g,I,s,F⟩ && okA A) = true) h2=>spC_in (i:=i) (j:=j) h h2;rw [hal] at hfar hin;have HA:=Hd (fun u (q:Q w u)=>ha.q q);have hNb:N <= 200001:=by omega
 have hsp:spl ⟨g,I,s,F⟩ i j A = (ats ⟨g,I,s,F⟩).take i.toNat ++ A ++ (ats ⟨g,I,s,F⟩).drop j.toNat:=rfl;dsimp only at hin;generalize may ⟨g,I,s,F⟩ = r at *;generalize okA A = r2 at *;generalize spC ⟨g,I,s,F⟩ i j A = C at *;generalize spR ⟨g,I,s,F⟩ i j A = R at *;generalize spl ⟨g,I,s,F⟩ i j A = J at *;generalize ats ⟨g,I,s,F⟩ = D at *;obtain ⟨y,hy⟩:∃ y,y = w.alloc (.cells #[.bool g,.slice a1 n1 c1,.bool s,.slice a2 n2 c2] 37):=⟨_,rfl⟩;have hqy:Q w y:=by rw [hy];exact (Q.refl w).alloc _
 have hby:Bk y w.heap.size 37 [.bool g,.slice a1 n1 c1,.bool s,.slice a2 n2 c2]:=by rw [hy];exact Bk.new _ _ _
 have hsy:y.heap.size = w.heap.size + 1:=by rw [hy];simp
 obtain ⟨z,hz⟩:∃ z,z = y.alloc (.cells #[.bool false,.slice none 0 0,.bool false,.slice none 0 0] 37):=⟨_,rfl⟩;have hqz:Q y z:=by rw [hz];exact (Q.refl y).alloc _
 have HQ:=Hd (hqy.trans hqz);have HB:=Hd (hby.q hqz);have HD:=Hd (show Bk z (w.heap.size + 1) 37 [.bool false,.slice none 0 0,.bool false,.slice none 0 0] by rw [hz,<- hsy];exact Bk.new _ _ _);have HWD:=Hd (Nat.le_succ w.heap.size);have hz2:z = (w.alloc (.cells #[.bool g,.slice a1 n1 c1,.bool s,.slice a2 n2 c2] 37)).alloc (.cells #[.bool false,.slice none 0 0,.bool false,.slice none 0 0] 37):=by rw [hz,hy]
 have HM:=Hd hm.symm;have HAL:=Hd hal;have HSPL:=Hd hsp;clear hqy hby hsy hqz hz hy hi hf ha k1 k2 hate hsl hN hm hal hsp;cases r
 ·obtain ⟨rfl,rfl⟩:=hbad rfl
  clear hbad hfar hin;go_enter Try.func64,Try.ntmps64
  go_upto_region 1 with fail
  rw [<- hz2];clear hz2;have x0:=HB.out.cell 0 rfl;have x1:=HB.out.cell 1 rfl;have x2:=HB.out.cell 2 rfl;have x3:=HB.out.cell 3 rfl;go_wp2_with fail
  refine (HMY.out _ HQ.out).mono ?_;rintro e u1 ⟨rfl,hq⟩;have HB1:=Hd (HB.out.q hq);have HD1:=Hd (HD.out.q hq);have HQ1:=Hd (HQ.out.trans hq);clear hq x0 x1 x2 x3 HB HD HQ;have b0:=HD1.out.cell 0 rfl;have f0:=HD1.out.free 0;have b1:=HD1.out.cell 1 rfl;have f1:=HD1.out.free 1;have b2:=HD1.out.cell 2 rfl;have f2:=HD1.out.free 2;have b3:=HD1.out.cell 3 rfl;have f3:=HD1.out.free 3;go_wp2_with fail
  exact ret_d2 rfl rfl rfl rfl ((((HD1.out.set 0 _).set 1 _).set 2 _).set 3 _) rfl ⟨_,rfl,LD.zero _ _,Q.setCell (Q.setCell (Q.setCell (Q.setCell HQ1.out HWD.out _) HWD.out _) HWD.out _) HWD.out _⟩
 ·cases r2
  ·obtain ⟨rfl,rfl⟩:=hbad rfl
   clear hbad hfar hin;go_enter Try.func64,Try.ntmps64
   go_upto_region 1 with fail
   rw [<- hz2];clear hz2;have x0:=HB.out.cell 0 rfl;have x1:=HB.out.cell 1 rfl;have x2:=HB.out.cell 2 rfl;have x3:=HB.out.cell 3 rfl;go_wp2_with fail
   refine (HMY.out _ HQ.out).mono ?_;rintro e u1 ⟨rfl,hq⟩;have HB1:=Hd (HB.out.q hq);have HD1:=Hd (HD.out.q hq);have HQ1:=Hd (HQ.out.trans hq);clear hq x0 x1 x2 x3 HB HD HQ;go_wp2_with fail
   refine (HAA.out _ HQ1.out).mono ?_;rintro e u2 ⟨rfl,hq⟩;have HB2:=Hd (HB1.out.q hq);have HD2:=Hd (HD1.out.q hq);have HQ2:=Hd (HQ1.out.trans hq);clear hq HB1 HD1 HQ1;have b0:=HD2.out.cell 0 rfl;have f0:=HD2.out.free 0;have b1:=HD2.out.cell 1 rfl;have f1:=HD2.out.free 1;have b2:=HD2.out.cell 2 rfl;have f2:=HD2.out.free 2;have b3:=HD2.out.cell 3 rfl;have f3:=HD2.out.free 3;go_wp2_with fail
   exact ret_d2 rfl rfl rfl rfl ((((HD2.out.set 0 _).set 1 _).set 2 _).set 3 _) rfl ⟨_,rfl,LD.zero _ _,Q.setCell (Q.setCell (Q.setCell (Q.setCell HQ2.out HWD.out _) HWD.out _) HWD.out _) HWD.out _⟩
  ·clear hbad
   by_cases hi0:i < 0
   ·obtain ⟨rfl,rfl⟩:=hfar rfl (.inl hi0)
    clear hfar hin;go_enter Try.func64,Try.ntmps64
    go_upto_region 1 with fail
    rw [<- hz2];clear hz2;have x0:=HB.out.cell 0 rfl;have x1:=HB.out.cell 1 rfl;have x2:=HB.out.cell 2 rfl;have x3:=HB.out.cell 3 rfl;go_wp2_with fail
    refine (HMY.out _ HQ.out).mono ?_;rintro e u1 ⟨rfl,hq⟩;have HB1:=Hd (HB.out.q hq);have HD1:=Hd (HD.out.q hq);have HQ1:=Hd (HQ.out.trans hq);clear hq x0 x1 x2 x3 HB HD HQ;go_wp2_with fail
    refine (HAA.out _ HQ1.out).mono ?_;rintro e u2 ⟨rfl,hq⟩;have HB2:=Hd (HB1.out.q hq);have HD2:=Hd (HD1.out.q hq);have HQ2:=Hd (HQ1.out.trans hq);clear hq HB1 HD1 HQ1;have x0:=HB2.out.cell 0 rfl;have x1:=HB2.out.cell 1 rfl;have x2:=HB2.out.cell 2 rfl;have x3:=HB2.out.cell 3 rfl;go_wp2_with fail
    refine (HAT.out _ HQ2.out).mono ?_;rintro e u3 ⟨da,dc,rfl,ho,hq⟩;have HO:=Hd ho;have HB3:=Hd (HB2.out.q hq);have HD3:=Hd (HD2.out.q hq);have HQ3:=Hd (HQ2.out.trans hq);clear hq ho x0 x1 x2 x3 HB2 HD2 HQ2;have b0:=HD3.out.cell 0 rfl;have f0:=HD3.out.free 0;have b1:=HD3.out.cell 1 rfl;have f1:=HD3.out.free 1;have b2:=HD3.out.cell 2 rfl;have f2:=HD3.out.free 2;have b3:=HD3.out.cell 3 rfl;have f3:=HD3.out.free 3;go_wp2_with fail
    exact ret_d2 rfl rfl rfl rfl ((((HD3.out.set 0 _).set 1 _).set 2 _).set 3 _) rfl ⟨_,rfl,LD.zero _ _,Q.setCell (Q.setCell (Q.setCell (Q.setCell HQ3.out HWD.out _) HWD.out _) HWD.out _) HWD.out _⟩
   ·have hi1:0 <= i:=by omega
    by_cases hji:j < i
    ·obtain ⟨rfl,rfl⟩:=hfar rfl (.inr (.inl hji))
     clear hfar hin;go_enter Try.func64,Try.ntmps64
     go_upto_region 1 with fail
     rw [<- hz2];clear hz2;have x0:=HB.out.cell 0 rfl;have x1:=HB.out.cell 1 rfl;have x2:=HB.out.cell 2 rfl;have x3:=HB.out.cell 3 rfl;go_wp2_with fail
     refine (HMY.out _ HQ.out).mono ?_;rintro e u1 ⟨rfl,hq⟩;have HB1:=Hd (HB.out.q hq);have HD1:=Hd (HD.out.q hq);have HQ1:=Hd (HQ.out.trans hq);clear hq x0 x1 x2 x3 HB HD HQ;go_wp2_with fail
     refine (HAA.out _ HQ1.out).mono ?_;rintro e u2 ⟨rfl,hq⟩;have HB2:=Hd (HB1.out.q hq);have HD2:=Hd (HD1.out.q hq);have HQ2:=Hd (HQ1.out.trans hq);clear hq HB1 HD1 HQ1;have x0:=HB2.out.cell 0 rfl;have x1:=HB2.out.cell 1 rfl;have x2:=HB2.out.cell 2 rfl;have x3:=HB2.out.cell 3 rfl;go_wp2_with fail
     refine (HAT.out _ HQ2.out).mono ?_;rintro e u3 ⟨da,dc,rfl,ho,hq⟩;have HO:=Hd ho;have HB3:=Hd (HB2.out.q hq);have HD3:=Hd (HD2.out.q hq);have HQ3:=Hd (HQ2.out.trans hq);clear hq ho x0 x1 x2 x3 HB2 HD2 HQ2;have b0:=HD3.out.cell 0 rfl;have f0:=HD3.out.free 0;have b1:=HD3.out.cell 1 rfl;have f1:=HD3.out.free 1;have b2:=HD3.out.cell 2 rfl;have f2:=HD3.out.free 2;have b3:=HD3.out.cell 3 rfl;have f3:=HD3.out.free 3;go_wp2_with fail
     exact ret_d2 rfl rfl rfl rfl ((((HD3.out.set 0 _).set 1 _).set 2 _).set 3 _) rfl ⟨_,rfl,LD.zero _ _,Q.setCell (Q.setCell (Q.setCell (Q.setCell HQ3.out HWD.out _) HWD.out _) HWD.out _) HWD.out _⟩
    ·have hji1:i <= j:=by omega
     by_cases hjN:(N:Int) < j
     ·obtain ⟨rfl,rfl⟩:=hfar rfl (.inr (.inr hjN))
      clear hfar hin;go_enter Try.func64,Try.ntmps64
      go_upto_region 1 with fail
      rw [<- hz2];clear hz2;have x0:=HB.out.cell 0 rfl;have x1:=HB.out.cell 1 rfl;have x2:=HB.out.cell 2 rfl;have x3:=HB.out.cell 3 rfl;go_wp2_with fail
      refine (HMY.out _ HQ.out).mono ?_;rintro e u1 ⟨rfl,hq⟩;have HB1:=Hd (HB.out.q hq);have HD1:=Hd (HD.out.q hq);have HQ1:=Hd (HQ.out.trans hq);clear hq x0 x1 x2 x3 HB HD HQ;go_wp2_with fail
      refine (HAA.out _ HQ1.out).mono ?_;rintro e u2 ⟨rfl,hq⟩;have HB2:=Hd (HB1.out.q hq);have HD2:=Hd (HD1.out.q hq);have HQ2:=Hd (HQ1.out.trans hq);clear hq HB1 HD1 HQ1;have x0:=HB2.out.cell 0 rfl;have x1:=HB2.out.cell 1 rfl;have x2:=HB2.out.cell 2 rfl;have x3:=HB2.out.cell 3 rfl;go_wp2_with fail
      refine (HAT.out _ HQ2.out).mono ?_;rintro e u3 ⟨da,dc,rfl,ho,hq⟩;have HO:=Hd ho;have HB3:=Hd (HB2.out.q hq);have HD3:=Hd (HD2.out.q hq);have HQ3:=Hd (HQ2.out.trans hq);clear hq ho x0 x1 x2 x3 HB2 HD2 HQ2;have b0:=HD3.out.cell 0 rfl;have f0:=HD3.out.free 0;have b1:=HD3.out.cell 1 rfl;have f1:=HD3.out.free 1;have b2:=HD3.out.cell 2 rfl;have f2:=HD3.out.free 2;have b3:=HD3.out.cell 3 rfl;have f3:=HD3.out.free 3;go_wp2_with fail
      exact ret_d2 rfl rfl rfl rfl ((((HD3.out.set 0 _).set 1 _).set 2 _).set 3 _) rfl ⟨_,rfl,LD.zero _ _,Q.setCell (Q.setCell (Q.setCell (Q.setCell HQ3.out HWD.out _) HWD.out _) HWD.out _) HWD.out _⟩
     ·have hjN1:j <= (N:Int):=by omega
      obtain ⟨p,rfl⟩:∃ p:Nat,i = p:=⟨i.toNat,by omega⟩;obtain ⟨q,rfl⟩:∃ q:Nat,j = q:=⟨j.toNat,by omega⟩;obtain ⟨rfl,rfl⟩:=hin rfl (by omega);clear hin hfar;have hsp:=HSPL.out;rw [Int.toNat_natCast,Int.toNat_natCast] at hsp;have hpq:p <= q:=by omega
      have hqN:q <= N:=by omega
      have hjl:J.length <= 400000:=by
       have h1:=HAL.out;have h2:=HM.out;rw [hsp,List.length_append,List.length_append,List.length_take,List.length_drop,h1,h2];omega
      have HOF:=Hd (fun u v (h:Lst u v J)=>of_any g v J u h (by omega));replace HSPL:=Hd hsp;generalize hRR:ofR g J = R at *;clear hRR;generalize ofC J = C at *;clear hjl hsp;go_enter Try.func64,Try.ntmps64
      go_upto_region 1 with fail
      rw [<- hz2];clear hz2;have x0:=HB.out.cell 0 rfl;have x1:=HB.out.cell 1 rfl;have x2:=HB.out.cell 2 rfl;have x3:=HB.out.cell 3 rfl;go_wp2_with fail
      refine (HMY.out _ HQ.out).mono ?_;rintro e u1 ⟨rfl,hq⟩;have HB1:=Hd (HB.out.q hq);have HD1:=Hd (HD.out.q hq);have HQ1:=Hd (HQ.out.trans hq);clear hq x0 x1 x2 x3 HB HD HQ;go_wp2_with fail
      refine (HAA.out _ HQ1.out).mono ?_;rintro e u2 ⟨rfl,hq⟩;have HB2:=Hd (HB1.out.q hq);have HD2:=Hd (HD1.out.q hq);have HQ2:=Hd (HQ1.out.trans hq);clear hq HB1 HD1 HQ1;have x0:=HB2.out.cell 0 rfl;have x1:=HB2.out.cell 1 rfl;have x2:=HB2.out.cell 2 rfl;have x3:=HB2.out.cell 3 rfl;go_wp2_with fail
      refine (HAT.out _ HQ2.out).mono ?_;rintro e u3 ⟨da,dc,rfl,ho,hq⟩;have HO:=Hd ho;have HB3:=Hd (HB2.out.q hq);have HD3:=Hd (HD2.out.q hq);have HQ3:=Hd (HQ2.out.trans hq);clear hq ho x0 x1 x2 x3 HB2 HD2 HQ2;have hcu:=cut_any _ D 0 p u3 HO.out.lst (by omega) (by rw [HAL.out];omega);rw [Nat.sub_zero,List.drop_zero] at hcu;have HCU:=Hd hcu;clear hcu;go_wp2_with fail
      refine HCU.out.mono ?_;rintro e u4 ⟨ca,rfl,hca,rfl⟩;have hpl:(D.take p).length = p:=by rw [List.length_take,HAL.out];omega
      have HAP:=Hd (show Ap u3 u3.heap.size (.slice ca p p) (D.take p) from .inr ⟨hca,ca,by rw [hpl]⟩);have HPL:=Hd hpl;have HAX:=Hd (HA.out u3 HQ3.out);clear hca hpl;go_wp2_with (at_builtin;refine app_plain HAP.out HAX.out p m HPL.out HM.out (Nat.le_refl _) (by omega) rfl _ _ rfl (by rfl) (by rfl) ?_)
      intro sa sc u5 hsp5 hq5;have HSP:=Hd hsp5;have HQB:=Hd (hq5 u3 (Q.refl u3) (Nat.le_refl _));have HWB:=Hd HQ3.out.le;have HQ5:=Hd (HQ3.out.trans HQB.out);have HDB:=Hd HD3.out;have HLB:=Hd HO.out.lst;have hspl:(D.take p ++ A).length = p + m:=by rw [List.length_append,HPL.out,HM.out]
      have HSL:=Hd hspl;have hdl:(D.drop q).length = N - q:=by rw [List.length_drop,HAL.out]
      have HDL:=Hd hdl;have HR:=Hd (HO.out.lst.rest HAL.out hqN);have hcm:=HO.out.lst.form0 HAL.out;obtain ⟨_,_,hsh,hca,hcb⟩:=hcm;cases hsh;unfold maxLen at hcb;have hq0:(0:Int) <= (q:Int):=by omega
      have hqNi:(q:Int) <= (N:Int):=by omega
      have hqci:(q:Int) <= (dc:Int):=by omega
      have hNci:(N:Int) <= (dc:Int):=by omega
      clear hsp5 hq5 hspl hdl HAP HCU;rcases HR.out with ⟨gg,off,rfl,hz,hnc,hcm,hrl⟩ | ⟨rfl,rfl,hrl⟩ | ⟨ad,rfl,rfl,hnc,hcm,hrl⟩
      ·have hx0:Bk u5 w.heap.size 37 [.bool g,.slice a1 n1 c1,.bool s,.slice a2 n2 c2]:=HB3.out.q HQB.out
       have HNE:=Hd (show w.heap.size + 1 ≠ w.heap.size by omega);go_wp2_with fail
       have hne:¬ (dc = q):=by omega
       have hne2:¬ (dc - q = 0):=by omega
       have hne3:¬ (N = q):=by omega
       refine wp_region_held_drew (S:=fun u=>SX w w.heap.size 37 [.bool g,.slice a1 n1 c1,.bool s,.slice a2 n2 c2] u) (by kernel_rfl) (by exact ⟨HQ5.out.drew,hx0.q ((Q.refl _).drew)⟩) (fun hHeld=>?_);have hS:SX w w.heap.size 37 [.bool g,.slice a1 n1 c1,.bool s,.slice a2 n2 c2] u5.drew:=hHeld;clear hHeld;have hq:Q u5 u5.drew:=(Q.refl _).drew;have HQB:=Hd (Q.trans HQB.out hq);have HSP:=Hd (Ap.q HSP.out hq);clear hq;generalize u5.drew = yR1x0 at *;change wpAnyH _ _ _ _ _ _ #[ff,ff,ff,ff,ff,ff,ff,ff,ff,ff,ff,ff] _ _;refine tk 0 (by simp only [gA,gB,gC];rfl) (by first | kernel_rfl | rfl) (fun uz _=>by go_simp;try with_reducible rfl) pq hS ?_;try simp only [Act.put,sA,sB,sC]
       refine tk 1 (by simp only [gA,gB,gC];rfl) (by first | kernel_rfl | rfl) (fun uz hSw=>by (try dsimp only at hSw);have d0:=hSw.2.cell 0 rfl;go_simp;try with_reducible rfl) pq hS ?_;try simp only [Act.put,sA,sB,sC]
       refine tk 2 (by simp only [gA,gB,gC];rfl) (by first | kernel_rfl | rfl) (fun uz _=>by go_simp;try with_reducible rfl) pq hS ?_;try simp only [Act.put,sA,sB,sC]
       refine tk 3 (by simp only [gA,gB,gC];rfl) (by first | kernel_rfl | rfl) (fun uz _=>by go_simp;try with_reducible rfl) pq hS ?_;try simp only [Act.put,sA,sB,sC]
       refine tk 4 (by simp only [gA,gB,gC];rfl) (by first | kernel_rfl | rfl) (fun uz _=>by go_simp;try with_reducible rfl) pq hS ?_;try simp only [Act.put,sA,sB,sC]
       refine tk 5 (by simp only [gA,gB,gC];rfl) (by first | kernel_rfl | rfl) (fun uz _=>by go_simp;try with_reducible rfl) pq hS ?_;try simp only [Act.put,sA,sB,sC]
       refine wpAnyH_ready (rs:=[6]) (by kernel_rfl) (by simp) ?_;refine ar (by (try simp only [gA,gB,gC]);rfl) fun K hK=>?_;refine app_step (B:=u3.heap.size) (ys:=D.drop q) HSP.out ?hu (p + m) (N - q) HSL.out (by rw [HDL.out];try omega) HQB.out.le (by omega) rfl _ _ rfl (by rfl) (by rfl) ?_;case hu=>exact hrl.q HQB.out
       rw [<- HSPL.out];intro ra rc yR1x7 hro hqq;replace HQB:=Hd (hqq _ HQB.out (Nat.le_refl _));have hS2:SX w w.heap.size 37 [.bool g,.slice a1 n1 c1,.bool s,.slice a2 n2 c2] yR1x7:=⟨hqq _ hS.1 HWB.out,HB3.out.q HQB.out⟩;have HJ:=Hd hro.lst;clear HSP hro hqq;refine hK.out _ _ (by exact hS2) (fun hHeld=>?_);clear hK K hHeld hS;have hS:=hS2;clear hS2;try simp only [Act.put,sA,sB,sC]
       refine wpAnyH_ready (rs:=[7]) (by kernel_rfl) (by simp) ?_;refine ar (by (try simp only [gA,gB,gC]);rfl) fun K hK=>?_;go_simp
       refine (HOF.out _ _ HJ.out).mono ?_;rintro e yR1x8 ⟨xo,rfl,⟨o1,p1,o2,p2,rfl,ho1,ho2⟩,hq⟩;have HO1:=Hd (ho1.mono (Nat.succ_le_succ hS.1.le));have HO2:=Hd (ho2.mono (Nat.succ_le_succ hS.1.le));clear ho1 ho2;try (go_wp2_with fail)
       have HQB:=Hd (Q.trans HQB.out hq);have HJ:=Hd (Lst.q HJ.out hq);have hS2:=SX.q hS hq;refine hK.out _ _ (by exact hS2) (fun hHeld=>?_);clear hK K hHeld hS hq;have hS:=hS2;clear hS2;try simp only [Act.put,sA,sB,sC]
       refine tk 8 (by simp only [gA,gB,gC];rfl) (by first | kernel_rfl | rfl) (fun uz _=>by go_simp;try with_reducible rfl) pq hS ?_;try simp only [Act.put,sA,sB,sC]
       refine tk 9 (by simp only [gA,gB,gC];rfl) (by first | kernel_rfl | rfl) (fun uz _=>by go_simp;try with_reducible rfl) pq hS ?_;try simp only [Act.put,sA,sB,sC]
       refine wpAnyH_ready (rs:=[10]) (by kernel_rfl) (by simp) ?_;refine ar (by (try simp only [gA,gB,gC]);rfl) fun K hK=>?_;have hd:=HDB.out.q HQB.out;have b0:=hd.cell 0 rfl;have f0:=hd.free 0;have b1:=hd.cell 1 rfl;have f1:=hd.free 1;have b2:=hd.cell 2 rfl;have f2:=hd.free 2;have b3:=hd.cell 3 rfl;have f3:=hd.free 3;go_simp
       have hS2:SX w w.heap.size 37 [.bool g,.slice a1 n1 c1,.bool s,.slice a2 n2 c2] _:=⟨(Q.setCell (Q.setCell (Q.setCell (Q.setCell hS.1 (ad:=⟨w.heap.size + 1,0,none⟩) HWD.out (.bool R.g)) (ad:=⟨w.heap.size + 1,1,none⟩) HWD.out (.slice o1 R.i.length p1)) (ad:=⟨w.heap.size + 1,2,none⟩) HWD.out (.bool R.s)) (ad:=⟨w.heap.size + 1,3,none⟩) HWD.out (.slice o2 R.f.length p2)),(Bk.past (Bk.past (Bk.past (Bk.past hS.2 HNE.out (.bool R.g)) HNE.out (.slice o1 R.i.length p1)) HNE.out (.bool R.s)) HNE.out (.slice o2 R.f.length p2))⟩;have HE:=Hd ((((hd.set 0 (.bool R.g)).set 1 (.slice o1 R.i.length p1)).set 2 (.bool R.s)).set 3 (.slice o2 R.f.length p2));replace HO1:=Hd (Tm.Own_past4 HO1.out hd (by decide) (.bool R.g) (.slice o1 R.i.length p1) (.bool R.s) (.slice o2 R.f.length p2));replace HO2:=Hd (Tm.Own_past4 HO2.out hd (by decide) (.bool R.g) (.slice o1 R.i.length p1) (.bool R.s) (.slice o2 R.f.length p2));clear hd HQB;refine hK.out _ _ (by exact hS2) (fun hHeld=>?_);clear hK K hHeld hS;have hS:=hS2;clear hS2 b0 f0 b1 f1 b2 f2 b3 f3;generalize ((((yR1x8.setCell ⟨w.heap.size + 1,0,none⟩ (.bool R.g)).setCell ⟨w.heap.size + 1,1,none⟩ (.slice o1 R.i.length p1)).setCell ⟨w.heap.size + 1,2,none⟩ (.bool R.s)).setCell ⟨w.heap.size + 1,3,none⟩ (.slice o2 R.f.length p2)) = yR1x11 at *;try simp only [Act.put,sA,sB,sC]
       refine tk 11 (by simp only [gA,gB,gC];rfl) (by first | kernel_rfl | rfl) (fun uz _=>by go_simp;try with_reducible rfl) pq hS ?_;try simp only [Act.put,sA,sB,sC]
       refine wpAnyH_done (by kernel_rfl) ?_ _;go_wp2_with fail
       exact ret_d2 rfl rfl rfl rfl HE.out rfl ⟨_,rfl,⟨o1,p1,o2,p2,rfl,HO1.out,HO2.out⟩,hS.1⟩
      ·have hx0:Bk u5 w.heap.size 37 [.bool g,.slice a1 n1 c1,.bool s,.slice a2 n2 c2]:=HB3.out.q HQB.out
       have HNE:=Hd (show w.heap.size + 1 ≠ w.heap.size by omega);go_wp2_with fail
       refine wp_region_held_drew (S:=fun u=>SX w w.heap.size 37 [.bool g,.slice a1 n1 c1,.bool s,.slice a2 n2 c2] u) (by kernel_rfl) (by exact ⟨HQ5.out.drew,hx0.q ((Q.refl _).drew)⟩) (fun hHeld=>?_);have hS:SX w w.heap.size 37 [.bool g,.slice a1 n1 c1,.bool s,.slice a2 n2 c2] u5.drew:=hHeld;clear hHeld;have hq:Q u5 u5.drew:=(Q.refl _).drew;have HQB:=Hd (Q.trans HQB.out hq);have HSP:=Hd (Ap.q HSP.out hq);clear hq;generalize u5.drew = yR2x0 at *;change wpAnyH _ _ _ _ _ _ #[ff,ff,ff,ff,ff,ff,ff,ff,ff,ff,ff,ff] _ _;refine tk 0 (by simp only [gA,gB,gC];rfl) (by first | kernel_rfl | rfl) (fun uz _=>by go_simp;try with_reducible rfl) pq hS ?_;try simp only [Act.put,sA,sB,sC]
       refine tk 1 (by simp only [gA,gB,gC];rfl) (by first | kernel_rfl | rfl) (fun uz hSw=>by (try dsimp only at hSw);have d0:=hSw.2.cell 0 rfl;go_simp;try with_reducible rfl) pq hS ?_;try simp only [Act.put,sA,sB,sC]
       refine tk 2 (by simp only [gA,gB,gC];rfl) (by first | kernel_rfl | rfl) (fun uz _=>by go_simp;try with_reducible rfl) pq hS ?_;try simp only [Act.put,sA,sB,sC]
       refine tk 3 (by simp only [gA,gB,gC];rfl) (by first | kernel_rfl | rfl) (fun uz _=>by go_simp;try with_reducible rfl) pq hS ?_;try simp only [Act.put,sA,sB,sC]
       refine tk 4 (by simp only [gA,gB,gC];rfl) (by first | kernel_rfl | rfl) (fun uz _=>by go_simp;try with_reducible rfl) pq hS ?_;try simp only [Act.put,sA,sB,sC]
       refine tk 5 (by simp only [gA,gB,gC];rfl) (by first | kernel_rfl | rfl) (fun uz _=>by go_simp;try with_reducible rfl) pq hS ?_;try simp only [Act.put,sA,sB,sC]
       refine wpAnyH_ready (rs:=[6]) (by kernel_rfl) (by simp) ?_;refine ar (by (try simp only [gA,gB,gC]);rfl) fun K hK=>?_;refine app_step (B:=u3.heap.size) (ys:=D.drop dc) HSP.out ?hu (p + m) 0 HSL.out (by rw [HDL.out];try omega) HQB.out.le (by omega) rfl _ _ rfl (by rfl) (by rfl) ?_;case hu=>exact by rw [hrl];exact .nil _ _ _ (by unfold maxLen;omega) (by intro h;omega)
       rw [<- HSPL.out];intro ra rc yR2x7 hro hqq;replace HQB:=Hd (hqq _ HQB.out (Nat.le_refl _));have hS2:SX w w.heap.size 37 [.bool g,.slice a1 n1 c1,.bool s,.slice a2 n2 c2] yR2x7:=⟨hqq _ hS.1 HWB.out,HB3.out.q HQB.out⟩;have HJ:=Hd hro.lst;clear HSP hro hqq;refine hK.out _ _ (by exact hS2) (fun hHeld=>?_);clear hK K hHeld hS;have hS:=hS2;clear hS2;try simp only [Act.put,sA,sB,sC]
       refine wpAnyH_ready (rs:=[7]) (by kernel_rfl) (by simp) ?_;refine ar (by (try simp only [gA,gB,gC]);rfl) fun K hK=>?_;go_simp
       refine (HOF.out _ _ HJ.out).mono ?_;rintro e yR2x8 ⟨xo,rfl,⟨o1,p1,o2,p2,rfl,ho1,ho2⟩,hq⟩;have HO1:=Hd (ho1.mono (Nat.succ_le_succ hS.1.le));have HO2:=Hd (ho2.mono (Nat.succ_le_succ hS.1.le));clear ho1 ho2;try (go_wp2_with fail)
       have HQB:=Hd (Q.trans HQB.out hq);have HJ:=Hd (Lst.q HJ.out hq);have hS2:=SX.q hS hq;refine hK.out _ _ (by exact hS2) (fun hHeld=>?_);clear hK K hHeld hS hq;have hS:=hS2;clear hS2;try simp only [Act.put,sA,sB,sC]
       refine tk 8 (by simp only [gA,gB,gC];rfl) (by first | kernel_rfl | rfl) (fun uz _=>by go_simp;try with_reducible rfl) pq hS ?_;try simp only [Act.put,sA,sB,sC]
       refine tk 9 (by simp only [gA,gB,gC];rfl) (by first | kernel_rfl | rfl) (fun uz _=>by go_simp;try with_reducible rfl) pq hS ?_;try simp only [Act.put,sA,sB,sC]
       refine wpAnyH_ready (rs:=[10]) (by kernel_rfl) (by simp) ?_;refine ar (by (try simp only [gA,gB,gC]);rfl) fun K hK=>?_;have hd:=HDB.out.q HQB.out;have b0:=hd.cell 0 rfl;have f0:=hd.free 0;have b1:=hd.cell 1 rfl;have f1:=hd.free 1;have b2:=hd.cell 2 rfl;have f2:=hd.free 2;have b3:=hd.cell 3 rfl;have f3:=hd.free 3;go_simp
       have hS2:SX w w.heap.size 37 [.bool g,.slice a1 n1 c1,.bool s,.slice a2 n2 c2] _:=⟨(Q.setCell (Q.setCell (Q.setCell (Q.setCell hS.1 (ad:=⟨w.heap.size + 1,0,none⟩) HWD.out (.bool R.g)) (ad:=⟨w.heap.size + 1,1,none⟩) HWD.out (.slice o1 R.i.length p1)) (ad:=⟨w.heap.size + 1,2,none⟩) HWD.out (.bool R.s)) (ad:=⟨w.heap.size + 1,3,none⟩) HWD.out (.slice o2 R.f.length p2)),(Bk.past (Bk.past (Bk.past (Bk.past hS.2 HNE.out (.bool R.g)) HNE.out (.slice o1 R.i.length p1)) HNE.out (.bool R.s)) HNE.out (.slice o2 R.f.length p2))⟩;have HE:=Hd ((((hd.set 0 (.bool R.g)).set 1 (.slice o1 R.i.length p1)).set 2 (.bool R.s)).set 3 (.slice o2 R.f.length p2));replace HO1:=Hd (Tm.Own_past4 HO1.out hd (by decide) (.bool R.g) (.slice o1 R.i.length p1) (.bool R.s) (.slice o2 R.f.length p2));replace HO2:=Hd (Tm.Own_past4 HO2.out hd (by decide) (.bool R.g) (.slice o1 R.i.length p1) (.bool R.s) (.slice o2 R.f.length p2));clear hd HQB;refine hK.out _ _ (by exact hS2) (fun hHeld=>?_);clear hK K hHeld hS;have hS:=hS2;clear hS2 b0 f0 b1 f1 b2 f2 b3 f3;generalize ((((yR2x8.setCell ⟨w.heap.size + 1,0,none⟩ (.bool R.g)).setCell ⟨w.heap.size + 1,1,none⟩ (.slice o1 R.i.length p1)).setCell ⟨w.heap.size + 1,2,none⟩ (.bool R.s)).setCell ⟨w.heap.size + 1,3,none⟩ (.slice o2 R.f.length p2)) = yR2x11 at *;try simp only [Act.put,sA,sB,sC]
       refine tk 11 (by simp only [gA,gB,gC];rfl) (by first | kernel_rfl | rfl) (fun uz _=>by go_simp;try with_reducible rfl) pq hS ?_;try simp only [Act.put,sA,sB,sC]
       refine wpAnyH_done (by kernel_rfl) ?_ _;go_wp2_with fail
       exact ret_d2 rfl rfl rfl rfl HE.out rfl ⟨_,rfl,⟨o1,p1,o2,p2,rfl,HO1.out,HO2.out⟩,hS.1⟩
      ·have hx0:Bk u5 w.heap.size 37 [.bool g,.slice a1 n1 c1,.bool s,.slice a2 n2 c2]:=HB3.out.q HQB.out
       have HNE:=Hd (show w.heap.size + 1 ≠ w.heap.size by omega);go_wp2_with fail
       have hne:¬ (dc = q):=by omega
       have hne2:¬ (dc - q = 0):=by omega
       refine wp_region_held_drew (S:=fun u=>SX w w.heap.size 37 [.bool g,.slice a1 n1 c1,.bool s,.slice a2 n2 c2] u) (by kernel_rfl) (by exact ⟨HQ5.out.drew,hx0.q ((Q.refl _).drew)⟩) (fun hHeld=>?_);have hS:SX w w.heap.size 37 [.bool g,.slice a1 n1 c1,.bool s,.slice a2 n2 c2] u5.drew:=hHeld;clear hHeld;have hq:Q u5 u5.drew:=(Q.refl _).drew;have HQB:=Hd (Q.trans HQB.out hq);have HSP:=Hd (Ap.q HSP.out hq);clear hq;generalize u5.drew = yR3x0 at *;change wpAnyH _ _ _ _ _ _ #[ff,ff,ff,ff,ff,ff,ff,ff,ff,ff,ff,ff] _ _;refine tk 0 (by simp only [gA,gB,gC];rfl) (by first | kernel_rfl | rfl) (fun uz _=>by go_simp;try with_reducible rfl) pq hS ?_;try simp only [Act.put,sA,sB,sC]
       refine tk 1 (by simp only [gA,gB,gC];rfl) (by first | kernel_rfl | rfl) (fun uz hSw=>by (try dsimp only at hSw);have d0:=hSw.2.cell 0 rfl;go_simp;try with_reducible rfl) pq hS ?_;try simp only [Act.put,sA,sB,sC]
       refine tk 2 (by simp only [gA,gB,gC];rfl) (by first | kernel_rfl | rfl) (fun uz _=>by go_simp;try with_reducible rfl) pq hS ?_;try simp only [Act.put,sA,sB,sC]
       refine tk 3 (by simp only [gA,gB,gC];rfl) (by first | kernel_rfl | rfl) (fun uz _=>by go_simp;try with_reducible rfl) pq hS ?_;try simp only [Act.put,sA,sB,sC]
       refine tk 4 (by simp only [gA,gB,gC];rfl) (by first | kernel_rfl | rfl) (fun uz _=>by go_simp;try with_reducible rfl) pq hS ?_;try simp only [Act.put,sA,sB,sC]
       refine tk 5 (by simp only [gA,gB,gC];rfl) (by first | kernel_rfl | rfl) (fun uz _=>by go_simp;try with_reducible rfl) pq hS ?_;try simp only [Act.put,sA,sB,sC]
       refine wpAnyH_ready (rs:=[6]) (by kernel_rfl) (by simp) ?_;refine ar (by (try simp only [gA,gB,gC]);rfl) fun K hK=>?_;refine app_step (B:=u3.heap.size) (ys:=D.drop q) HSP.out ?hu (p + m) 0 HSL.out (by rw [HDL.out];try omega) HQB.out.le (by omega) rfl _ _ rfl (by rfl) (by rfl) ?_;case hu=>exact by rw [hrl];exact .nil _ _ _ (by unfold maxLen;omega) (by intro h;cases h)
       rw [<- HSPL.out];intro ra rc yR3x7 hro hqq;replace HQB:=Hd (hqq _ HQB.out (Nat.le_refl _));have hS2:SX w w.heap.size 37 [.bool g,.slice a1 n1 c1,.bool s,.slice a2 n2 c2] yR3x7:=⟨hqq _ hS.1 HWB.out,HB3.out.q HQB.out⟩;have HJ:=Hd hro.lst;clear HSP hro hqq;refine hK.out _ _ (by exact hS2) (fun hHeld=>?_);clear hK K hHeld hS;have hS:=hS2;clear hS2;try simp only [Act.put,sA,sB,sC]
       refine wpAnyH_ready (rs:=[7]) (by kernel_rfl) (by simp) ?_;refine ar (by (try simp only [gA,gB,gC]);rfl) fun K hK=>?_;go_simp
       refine (HOF.out _ _ HJ.out).mono ?_;rintro e yR3x8 ⟨xo,rfl,⟨o1,p1,o2,p2,rfl,ho1,ho2⟩,hq⟩;have HO1:=Hd (ho1.mono (Nat.succ_le_succ hS.1.le));have HO2:=Hd (ho2.mono (Nat.succ_le_succ hS.1.le));clear ho1 ho2;try (go_wp2_with fail)
       have HQB:=Hd (Q.trans HQB.out hq);have HJ:=Hd (Lst.q HJ.out hq);have hS2:=SX.q hS hq;refine hK.out _ _ (by exact hS2) (fun hHeld=>?_);clear hK K hHeld hS hq;have hS:=hS2;clear hS2;try simp only [Act.put,sA,sB,sC]
       refine tk 8 (by simp only [gA,gB,gC];rfl) (by first | kernel_rfl | rfl) (fun uz _=>by go_simp;try with_reducible rfl) pq hS ?_;try simp only [Act.put,sA,sB,sC]
       refine tk 9 (by simp only [gA,gB,gC];rfl) (by first | kernel_rfl | rfl) (fun uz _=>by go_simp;try with_reducible rfl) pq hS ?_;try simp only [Act.put,sA,sB,sC]
       refine wpAnyH_ready (rs:=[10]) (by kernel_rfl) (by simp) ?_;refine ar (by (try simp only [gA,gB,gC]);rfl) fun K hK=>?_;have hd:=HDB.out.q HQB.out;have b0:=hd.cell 0 rfl;have f0:=hd.free 0;have b1:=hd.cell 1 rfl;have f1:=hd.free 1;have b2:=hd.cell 2 rfl;have f2:=hd.free 2;have b3:=hd.cell 3 rfl;have f3:=hd.free 3;go_simp
       have hS2:SX w w.heap.size 37 [.bool g,.slice a1 n1 c1,.bool s,.slice a2 n2 c2] _:=⟨(Q.setCell (Q.setCell (Q.setCell (Q.setCell hS.1 (ad:=⟨w.heap.size + 1,0,none⟩) HWD.out (.bool R.g)) (ad:=⟨w.heap.size + 1,1,none⟩) HWD.out (.slice o1 R.i.length p1)) (ad:=⟨w.heap.size + 1,2,none⟩) HWD.out (.bool R.s)) (ad:=⟨w.heap.size + 1,3,none⟩) HWD.out (.slice o2 R.f.length p2)),(Bk.past (Bk.past (Bk.past (Bk.past hS.2 HNE.out (.bool R.g)) HNE.out (.slice o1 R.i.length p1)) HNE.out (.bool R.s)) HNE.out (.slice o2 R.f.length p2))⟩;have HE:=Hd ((((hd.set 0 (.bool R.g)).set 1 (.slice o1 R.i.length p1)).set 2 (.bool R.s)).set 3 (.slice o2 R.f.length p2));replace HO1:=Hd (Tm.Own_past4 HO1.out hd (by decide) (.bool R.g) (.slice o1 R.i.length p1) (.bool R.s) (.slice o2 R.f.length p2));replace HO2:=Hd (Tm.Own_past4 HO2.out hd (by decide) (.bool R.g) (.slice o1 R.i.length p1) (.bool R.s) (.slice o2 R.f.length p2));clear hd HQB;refine hK.out _ _ (by exact hS2) (fun hHeld=>?_);clear hK K hHeld hS;have hS:=hS2;clear hS2 b0 f0 b1 f1 b2 f2 b3 f3;generalize ((((yR3x8.setCell ⟨w.heap.size + 1,0,none⟩ (.bool R.g)).setCell ⟨w.heap.size + 1,1,none⟩ (.slice o1 R.i.length p1)).setCell ⟨w.heap.size + 1,2,none⟩ (.bool R.s)).setCell ⟨w.heap.size + 1,3,none⟩ (.slice o2 R.f.length p2)) = yR3x11 at *;try simp only [Act.put,sA,sB,sC]
       refine tk 11 (by simp only [gA,gB,gC];rfl) (by first | kernel_rfl | rfl) (fun uz _=>by go_simp;try with_reducible rfl) pq hS ?_;try simp only [Act.put,sA,sB,sC]
       refine wpAnyH_done (by kernel_rfl) ?_ _;go_wp2_with fail
       exact ret_d2 rfl rfl rfl rfl HE.out rfl ⟨_,rfl,⟨o1,p1,o2,p2,rfl,HO1.out,HO2.out⟩,hS.1⟩
end Tp
end
end Go.Proofs.Ytnehhbobhnmbcaa
