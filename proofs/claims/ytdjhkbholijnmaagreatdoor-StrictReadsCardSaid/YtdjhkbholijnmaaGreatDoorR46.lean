/- What the statements of strict hand to the document's own small functions: a draft's number, two numbers that are the same. (and more) -/
import Derived.Test.YtdjhkbholijnmaaGreatDoorR44
import Derived.Test.YtdjhkbholijnmaaGreatDoorR18
set_option linter.all false
set_option maxRecDepth 100000
set_option maxHeartbeats 8000000
namespace Go.Proofs.YtdjhkbholijnmaaGreatDoor
section
open Go.RowKit
namespace Sp
open Tm Sx
theorem dL_len {d:T} (hm:may d = true):(dL d).length <= d.i.length + d.f.length:=by
 obtain ⟨h1,h2,_⟩:=may_dig hm;have h:=(dec_cut d.i d.f h1 h2 (zeb d.f) rfl _ rfl).1;unfold dL;rw [<- h,Dm.trim_len,List.length_append,List.length_take];omega
theorem rdec_q (D:T) (hm:may D = true) (e1 e2:Option Addr) (n1 n2 f1 f2:Nat) (u:World) (h1:Lst u (.slice e1 n1 f1) D.i) (h2:Lst u (.slice e2 n2 f2) D.f) (k1:D.i.length = n1) (k2:D.f.length = n2) (l1:n1 <= 100000) (l2:n2 <= 100000) :
  Calls Tryz.prog 16 #[.agg #[.bool D.g,.slice e1 n1 f1,.bool D.s,.slice e2 n2 f2]] u fun e w'=>∃ a c,e = .returned (.agg #[.bool (dG D),.slice a (dL D).length c,.int .i64 (dS D:Nat)]) /\ Lst w' (.slice a (dL D).length c) (dL D) /\ Q u w':=by
 obtain ⟨o1,o2,_⟩:=may_dig hm;have h:=Tr.dec_any D.g D.s e1 e2 n1 n2 f1 f2 D.i D.f u h1 h2 k1 k2 l1 l2 o1 o2;subst k1 k2;exact h
theorem same6_q (g:Bool) (s:Int) (a b:Option Addr) (n c d:Nat) (L:List Int) (u:World) (hv:Lst u (.slice a n c) L) (hu:Lst u (.slice b n d) L) (hl:L.length < 1000000) :
  Calls Tryz.prog 15 #[.agg #[.bool g,.slice a n c,.int .i64 s],.agg #[.bool g,.slice b n d,.int .i64 s]] u fun e w'=>e = .returned (.bool true) /\ Q u w':=Er.same_eq g _ _ s L u hv hu hl
end Sp
end
end Go.Proofs.YtdjhkbholijnmaaGreatDoor
