/- The program's strict: a text's number. (and more) -/
import Derived.Test.YtdjhkbholijnmaaGreatDoorR43
set_option linter.all false
set_option maxRecDepth 100000
set_option maxHeartbeats 8000000
namespace Go.Proofs.YtdjhkbholijnmaaGreatDoor
section
open Go.RowKit
namespace Sp
open Um Cm Gm Im Lo Sx Tm
theorem infoDc:(Tryz.prog.info? 44).map (·.size) = some 3:=by kernel_rfl
theorem ret_c2 {fn:Func} {p q:Tmp} (h:fn.results = #[.cell p 44,.tmp q]) {R:Ending -> World -> Prop} {a:Act} {w:World} {g:Nat} {l:List Value} {x:Value}
  (hl:l.length = 3) (hp:a.tmps.getD p undef = .pointer (some ⟨g,0,none⟩)) (hx:a.tmps.getD q undef = x) (hg:Bk w g 44 l) (hd:a.defers = []) (hR:R (.returned (.tuple #[.agg l.toArray,x])) w):bodyPost Tryz.prog fn R .ret a w:=by
 refine bodyPost_ret (v:=.tuple #[.agg l.toArray,x]) ?_ hd hR;rw [results_cell_tmp h,hp,hx];simp [asAddr,Result.andThen,run_loadVar_row w g 44 44 l.toArray (0,0) _ hg Tryz.underlying44 rfl (by rw [infoDc];simp [hl])]
def dG (d:T):Bool:=Dm.cg d.g (Dm.num (d.i ++ d.f))
def dL (d:T):List Int:=Dm.dg (Dm.st (Dm.num (d.i ++ d.f)) d.f.length).1
def dS (d:T):Nat:=(Dm.st (Dm.num (d.i ++ d.f)) d.f.length).2
theorem d_zero:dG T0 = false /\ dL T0 = [] /\ dS T0 = 0:=by decide +kernel
theorem value_any (g:Nat) (r:Lm.Rec) (X:Pt.Pat) (a b c d cl:Value) (s:ByteArray) (w:World) (hok:It.LOk r X) (hB:LB w g r X a b c d cl) (hs:s.size <= 5000) :
  Calls Tryz.prog 13 #[.pointer (some ⟨g,0,none⟩),.string s] w fun e w'=>∃ va vc,e = .returned (.tuple #[.agg #[.bool (dG (rd r X s)),.slice va (dL (rd r X s)).length vc,.int .i64 (dS (rd r X s):Nat)],.int .i64 (cdS (isS r X s))]) /\ Own w' (w.heap.size + 1) (.slice va (dL (rd r X s)).length vc) (dL (rd r X s)) /\ Q w w':=by
 have HP:=Hd (fun u (q:Q w u)=>parse_any g r X a b c d cl s u hok (hB.q q) (by omega));have HNO:=Hd (fun (h:isS r X s = false)=>rd_none h);obtain ⟨z,hz⟩:∃ y,y = w.alloc (.cells #[.bool false,.slice none 0 0,.int .i64 0] 44):=⟨_,rfl⟩;have HQZ:=Hd (show Q w z by rw [hz];exact (Q.refl w).alloc _);have HDZ:=Hd (show Bk z w.heap.size 44 [.bool false,.slice none 0 0,.int .i64 0] by rw [hz];exact Bk.new _ _ _);obtain ⟨bD,hbD⟩:∃ b,b = w.heap.size:=⟨_,rfl⟩;have HWD:=Hd (show w.heap.size <= bD by omega);rw [<- hbD] at HDZ;clear hok hB;generalize hR0:rd r X s = R0;have HR0:=Hd hR0;generalize hI0:isS r X s = I0;have HI0:=Hd hI0;clear hR0 hI0;go_enter Tryz.func13,Tryz.ntmps13
 go_upto_region 1 with fail
 rw [<- hz,<- hbD];clear hz hbD;go_wp2_with fail
 refine (HP.out _ HQZ.out).mono ?_;rintro e w1 ⟨x,rfl,hld,hq1⟩;obtain ⟨a1,c1,a2,c2,rfl,ho1,ho2⟩:=hld;obtain ⟨D,hDD⟩:∃ D,D = rd r X s:=⟨_,rfl⟩;rw [<- hDD] at ho1 ho2 |-;have HDE:=Hd hDD.symm;have hlen:=rd_len r X s;have hmay:=rd_may r X s;rw [<- hDD] at hlen hmay;have HLN:=Hd hlen;have HMY:=Hd hmay;clear hDD hlen hmay;obtain ⟨Dg,Di,Ds,Df⟩:=D;dsimp only at ho1 ho2 HLN |-;obtain ⟨n1,hn1⟩:∃ n,n = Di.length:=⟨_,rfl⟩;obtain ⟨n2,hn2⟩:∃ n,n = Df.length:=⟨_,rfl⟩;rw [<- hn1] at ho1 HLN |-;rw [<- hn2] at ho2 HLN |-;have HN1:=Hd hn1.symm;have HN2:=Hd hn2.symm;obtain ⟨w2,hw2⟩:∃ u,u = w1.alloc (.cells #[.bool Dg,.slice a1 n1 c1,.bool Ds,.slice a2 n2 c2] 39):=⟨_,rfl⟩;have hq2:Q w1 w2:=by rw [hw2];exact (Q.refl _).alloc _
 have HB2:=Hd (show Bk w2 w1.heap.size 39 [.bool Dg,.slice a1 n1 c1,.bool Ds,.slice a2 n2 c2] by rw [hw2];exact Bk.new _ _ _);have HQ2:=Hd (HQZ.out.trans (hq1.trans hq2));have HO1:=Hd (ho1.q hq2);have HO2:=Hd (ho2.q hq2);obtain ⟨b2,hb2⟩:∃ b,b = w1.heap.size:=⟨_,rfl⟩;rw [<- hb2] at HB2;have HD2:=Hd (HDZ.out.q (hq1.trans hq2));have HW1:=Hd (show w.heap.size + 1 <= b2 by have h1:=(HDZ.out.q hq1).lt;have h2:=HWD.out;rw [hb2];omega);have HDC:=Hd (Tp.dec_own Dg Ds a1 a2 n1 n2 c1 c2 Di Df w2 HO1.out.lst HO2.out.lst hn1.symm hn2.symm (by have:=HLN.out;omega) (by have:=HLN.out;omega) (Tm.may_dig HMY.out).1 (Tm.may_dig HMY.out).2.1);clear ho1 ho2 hq1 hq2 hn1 hn2;obtain ⟨I,hI⟩:∃ b,b = isS r X s:=⟨_,rfl⟩;rw [<- hI];have HI:=Hd hI.symm;clear hI;go_upto_region 2 with fail
 rw [<- hw2,<- hb2];clear hw2 hb2;cases I
 ·have hcd:cdS false = 2:=rfl
  rw [hcd];go_wp2_with (refine wpList_store_row (by rfl) 44 _ _ (by rfl) bD #[.bool false,.slice none 0 0,.int .i64 0] (by rfl) (by rfl) 44 _ HD2.out (by exact infoDc) rfl (Rw.all1 (by rfl)) ?_)
  have h0:=HNO.out HI.out;refine ret_c2 rfl rfl rfl rfl (Rw.Bk_row HD2.out [.bool false,.slice none 0 0,.int .i64 0]) rfl ⟨none,0,?_,?_,Rw.Q_row HQ2.out HWD.out _⟩
  ·rw [<- HR0.out,<- HI0.out,h0,HI.out,d_zero.1,d_zero.2.1,d_zero.2.2];rfl
  ·rw [<- HR0.out,h0,d_zero.2.1];exact Own.nil _ _
 ·have hcd:cdS true = 0:=rfl
  rw [hcd];go_wp2_with (refine wpList_load_row (by rfl) 39 _ (by rfl) b2 (by rfl) 39 #[.bool Dg,.slice a1 n1 c1,.bool Ds,.slice a2 n2 c2] (0,0) _ HB2.out Tryz.underlying39 rfl (by exact infoDr) ?_)
  refine HDC.out.mono ?_;rintro e w3 ⟨va,vc,rfl,hvl,hq3⟩;have HV:=Hd hvl;have HDL:=Hd (show bD < w2.heap.size from HD2.out.lt);have HDM:=Hd (show w.heap.size + 1 <= w2.heap.size by have:=HB2.out.lt;have:=HW1.out;omega);have HQ3:=Hd (HQ2.out.trans hq3);have HD3:=Hd (HD2.out.q hq3);clear hvl hq3;have HE:=Hd (show dG R0 = Dm.cg Dg (Dm.num (Di ++ Df)) /\ dL R0 = Dm.dg (Dm.st (Dm.num (Di ++ Df)) n2).1 /\ dS R0 = (Dm.st (Dm.num (Di ++ Df)) n2).2 from by rw [<- HR0.out,HDE.out,<- HN2.out];exact ⟨rfl,rfl,rfl⟩);generalize Dm.cg Dg (Dm.num (Di ++ Df)) = x0 at *;generalize Dm.dg (Dm.st (Dm.num (Di ++ Df)) n2).1 = x1 at *;generalize (Dm.st (Dm.num (Di ++ Df)) n2).2 = x2 at *;generalize hx1:x1.length = x1n at *;go_wp2_with (refine wpList_store_row (by rfl) 44 _ _ (by rfl) bD #[.bool x0,.slice va x1n vc,.int .i64 x2] (by rfl) (by rfl) 44 _ HD3.out (by exact infoDc) rfl (Rw.all1 (by rfl)) ?_)
  refine ret_c2 rfl rfl rfl rfl (Rw.Bk_row HD3.out [.bool x0,.slice va x1n vc,.int .i64 x2]) rfl ⟨va,vc,?_,?_,Rw.Q_row HQ3.out HWD.out _⟩
  ·rw [HE.out.1,HE.out.2.1,HE.out.2.2,<- HI0.out,HI.out,hx1];rfl
  ·rw [HE.out.2.1,hx1]
   exact (Own_row HV.out HDL.out _).mono HDM.out
end Sp
end
end Go.Proofs.YtdjhkbholijnmaaGreatDoor
