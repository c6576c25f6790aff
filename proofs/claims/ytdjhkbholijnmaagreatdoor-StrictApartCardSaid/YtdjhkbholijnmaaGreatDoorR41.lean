/- What the statements of strict hand to the document's own small functions: two drafts that are the same. (and more) -/
import Derived.Test.YtdjhkbholijnmaaGreatDoorR40
set_option linter.all false
set_option maxRecDepth 100000
set_option maxHeartbeats 8000000
namespace Go.Proofs.YtdjhkbholijnmaaGreatDoor
section
open Go.RowKit
namespace Sp
open Tm Sx
theorem same_self (d:T):Tm.same d d = true:=by unfold Tm.same;simp
theorem same_iff (d e:T):Tm.same d e = true ↔ d = e:=by
 refine ⟨fun h=>?_,fun h=>by rw [h];exact same_self e⟩;obtain ⟨g,I,s,F⟩:=d;obtain ⟨h',J,t,G⟩:=e;unfold Tm.same at h;simp only [Bool.and_eq_true,beq_iff_eq,decide_eq_true_eq] at h;obtain ⟨⟨⟨rfl,rfl⟩,rfl⟩,rfl⟩:=h;rfl
theorem same_q (D:T) (e1 e2 i1 i2:Option Addr) (n1 n2 f1 f2 j1 j2:Nat) (u:World) (h1:Lst u (.slice e1 n1 f1) D.i) (h2:Lst u (.slice e2 n2 f2) D.f) (h3:Lst u (.slice i1 n1 j1) D.i) (h4:Lst u (.slice i2 n2 j2) D.f) (l1:D.i.length < 1000000) (l2:D.f.length < 1000000) :
  Calls Tryz.prog 14 #[.agg #[.bool D.g,.slice e1 n1 f1,.bool D.s,.slice e2 n2 f2],.agg #[.bool D.g,.slice i1 n1 j1,.bool D.s,.slice i2 n2 j2]] u fun e w'=>e = .returned (.bool true) /\ Q u w':=by
 refine (Tr.same_any D.g D.s D.g D.s _ _ _ _ D.i D.f D.i D.f u h1 h2 h3 h4 l1 l2 l1 l2).mono ?_;rintro e w' ⟨rfl,hq⟩;exact ⟨by rw [same_self],hq⟩
end Sp
end
end Go.Proofs.YtdjhkbholijnmaaGreatDoor
