/- What the document's own Atoms, Dec, Text and Good of drafts come to, by a walk through each. (and more) -/
import Derived.Test.YtdjhkbholijnmaaGreatDoorR17
set_option linter.all false
set_option maxRecDepth 100000
set_option maxHeartbeats 8000000
namespace Go.Proofs.YtdjhkbholijnmaaGreatDoor
section
open Go.RowKit
namespace Tm
end Tm
namespace Tr
open Tm
theorem dec_any (g s:Bool) (a1 a2:Option Addr) (n1 n2 c1 c2:Nat) (I F:List Int) (w:World) (hi:Lst w (.slice a1 n1 c1) I) (hf:Lst w (.slice a2 n2 c2) F) (k1:I.length = n1) (k2:F.length = n2) (l1:n1 <= 100000) (l2:n2 <= 100000) (hI:Dm.okD I) (hF:Dm.okD F) :
  Calls Tryz.prog 16 #[.agg #[.bool g,.slice a1 n1 c1,.bool s,.slice a2 n2 c2]] w fun e w'=>∃ a c,e = .returned (.agg #[.bool (Dm.cg g (Dm.num (I ++ F))),.slice a (Dm.dg (Dm.st (Dm.num (I ++ F)) n2).1).length c,.int .i64 ((Dm.st (Dm.num (I ++ F)) n2).2:Nat)]) /\ Lst w' (.slice a (Dm.dg (Dm.st (Dm.num (I ++ F)) n2).1).length c) (Dm.dg (Dm.st (Dm.num (I ++ F)) n2).1) /\ Q w w':=by
 have HI:=Hd (fun u (q:Q w u)=>hi.q q);have HF:=Hd (fun u (q:Q w u)=>hf.q q);have HL:=Hd (⟨k1,k2⟩:_ /\ _);have HT:=Hd (fun u a c (h:Lst u (.slice a (n1 + n2) c) (I ++ F))=>(by
  refine (Er.trim_any g _ n2 (I ++ F) u h (by rw [List.length_append];omega) (Dm.okD_append.2 ⟨hI,hF⟩) (by omega)).mono ?_;rintro e w' ⟨x,rfl,hx,hq⟩;obtain ⟨xa,xc,rfl⟩:=hx.shape;exact ⟨xa,xc,rfl,hx,hq⟩:Calls Tryz.prog 35 #[.agg #[.bool g,.slice a (n1 + n2) c,.int .i64 (n2:Nat)]] u fun e w'=>∃ xa xc,e = .returned (.agg #[.bool (Dm.cg g (Dm.num (I ++ F))),.slice xa (Dm.dg (Dm.st (Dm.num (I ++ F)) n2).1).length xc,.int .i64 ((Dm.st (Dm.num (I ++ F)) n2).2:Nat)]) /\ Er.LF w' (u.heap.size + 2) (.slice xa (Dm.dg (Dm.st (Dm.num (I ++ F)) n2).1).length xc) (Dm.dg (Dm.st (Dm.num (I ++ F)) n2).1) /\ Q u w'))
 generalize Dm.cg g (Dm.num (I ++ F)) = cs at *;generalize (Dm.st (Dm.num (I ++ F)) n2).2 = S at *;generalize Dm.dg (Dm.st (Dm.num (I ++ F)) n2).1 = Z at *;obtain ⟨r,hr⟩:∃ r,r = Z.length:=⟨_,rfl⟩;rw [<- hr] at HT |-;clear hi hf k1 k2 hr hI hF;obtain ⟨y,hy⟩:∃ y,y = w.alloc (.cells #[.bool g,.slice a1 n1 c1,.bool s,.slice a2 n2 c2] 26):=⟨_,rfl⟩;have hqy:Q w y:=by rw [hy];exact (Q.refl w).alloc _
 have hby:Bk y w.heap.size 26 [.bool g,.slice a1 n1 c1,.bool s,.slice a2 n2 c2]:=by rw [hy];exact Bk.new _ _ _
 have hsy:y.heap.size = w.heap.size + 1:=by rw [hy];simp
 obtain ⟨z,hz⟩:∃ z,z = y.alloc (.cells #[.bool false,.slice none 0 0,.int .i64 0] 49):=⟨_,rfl⟩;have hqz:Q y z:=by rw [hz];exact (Q.refl y).alloc _
 have HQ:=Hd (hqy.trans hqz);have HB:=Hd (hby.q hqz);have HD:=Hd (show Bk z (w.heap.size + 1) 49 [.bool false,.slice none 0 0,.int .i64 0] by rw [hz,<- hsy];exact Bk.new _ _ _);have HZ:=Hd (show z.heap.size = w.heap.size + 2 by rw [hz];simp [hsy]);have HWD:=Hd (Nat.le_succ w.heap.size);have hz2:z = (w.alloc (.cells #[.bool g,.slice a1 n1 c1,.bool s,.slice a2 n2 c2] 26)).alloc (.cells #[.bool false,.slice none 0 0,.int .i64 0] 49):=by rw [hz,hy]
 clear hqy hby hsy hqz hz hy;have hol:=Own.nil z (w.heap.size + 2);have HBZ:=Hd (Nat.le_of_eq HZ.out.symm);have HW:=Hd (show ([]:List Int).length + I.length < 1099511627776 from by rw [HL.out.1];show 0 + _ < _;omega);have HIZ:=Hd (HI.out z HQ.out);have x1:=HB.out.cell 1 rfl;go_enter Tryz.func16,Tryz.ntmps16
 go_upto_region 1 with fail
 rw [<- hz2];clear hz2;go_wp2_with (at_builtin;refine push_list hol HIZ.out rfl _ _ rfl (by rfl) (by rfl) HW.out HBZ.out ?_)
 intro v1 u1 ho1 hg1 hat1;have HO1:=Hd (show Own u1 (w.heap.size + 2) v1 I from ho1);have HQZ:=Hd (show Q z u1 from (Q.refl z).grown hg1 (fun k hk=>by cases hk));clear ho1 hg1 hat1 x1 hol;have x3:=(HB.out.q HQZ.out).cell 3 rfl;have HFU:=Hd (HF.out _ (HQ.out.trans HQZ.out));have HW2:=Hd (show I.length + F.length < 1099511627776 from by rw [HL.out.1,HL.out.2];omega);have HBU2:=Hd (Nat.le_trans HBZ.out HQZ.out.le);go_wp2_with (at_builtin;refine push_list HO1.out HFU.out rfl _ _ rfl (by rfl) (by rfl) HW2.out HBU2.out ?_)
 intro v3 u3 ho3 hg3 hat3;have HQZ3:=Hd (show Q z u3 from HQZ.out.grown hg3 (fun k hk=>by rw [HZ.out];exact (HO1.out.lt k hk).1));obtain ⟨ra,rc,rfl,_,_⟩:=ho3.lst.form0 (n:=n1 + n2) (by rw [List.length_append,HL.out.1,HL.out.2]);have HO3:=Hd ho3.lst;clear ho3 hg3 hat3 x3;have x0:=(HB.out.q HQZ3.out).cell 0 rfl;have x3:=(HB.out.q HQZ3.out).cell 3 rfl;go_wp2_with fail
 refine (HT.out _ _ _ HO3.out).mono ?_;rintro e u4 ⟨xa,xc,rfl,hx,hq⟩;have HD4:=Hd ((HD.out.q HQZ3.out).q hq);have HQ4:=Hd ((HQ.out.trans HQZ3.out).trans hq);have hlp:=hx.put (r:=w.heap.size + 1) (Nat.lt_of_lt_of_le (by omega:w.heap.size + 1 < w.heap.size + 2) (Nat.le_trans HBZ.out (Nat.le_trans HQZ3.out.le (by omega)))) (.bool cs) (.slice xa r xc) (.int .i64 (S:Nat));have HLP:=Hd hlp.lst;clear hx hq hlp x0 x3;have b0:=HD4.out.cell 0 rfl;have f0:=HD4.out.free 0;have b1:=HD4.out.cell 1 rfl;have f1:=HD4.out.free 1;have b2:=HD4.out.cell 2 rfl;have f2:=HD4.out.free 2;go_wp2_with fail
 refine Er.ret_dv rfl rfl (((HD4.out.set 0 _).set 1 _).set 2 _) rfl ⟨xa,xc,rfl,HLP.out,Q.setCell (Q.setCell (Q.setCell HQ4.out HWD.out _) HWD.out _) HWD.out _⟩
end Tr
end
end Go.Proofs.YtdjhkbholijnmaaGreatDoor
