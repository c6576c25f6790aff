/- A literal's text as it stands in a pattern's text. (and more) -/
import Derived.Test.YtghfdapfnoeanaaGreatDoorR00
import Derived.Test.YtghfdapfnoeanaaGreatDoorR01
import Derived.Test.YtghfdapfnoeanaaGreatDoorR02
import Derived.Test.YtghfdapfnoeanaaGreatDoorR03
import Derived.Test.YtghfdapfnoeanaaGreatDoorR06
import Derived.Test.YtghfdapfnoeanaaGreatDoorR09
import Derived.Test.YtghfdapfnoeanaaGreatDoorR12
import Derived.Test.YtghfdapfnoeanaaGreatDoorRows
import Derived.Shelf.GgClosure.StringsRunes
set_option linter.unusedVariables false
set_option linter.unusedSimpArgs false
namespace Go.Proofs.YtghfdapfnoeanaaGreatDoor
open Go.RowKit
namespace Pg
open Pt Um
abbrev Vl (cs:List Int):Prop:=∀ c ∈ cs,vld c = true
theorem Vl.cons {c:Int} {r:List Int} (h:Vl (c :: r)):vld c = true ∧ Vl r:=⟨h c List.mem_cons_self,fun d hd=>h d (List.mem_cons_of_mem _ hd)⟩
end Pg
end Go.Proofs.YtghfdapfnoeanaaGreatDoor
namespace Go.Proofs.YtghfdapfnoeanaaGreatDoor
open Go.RowKit
namespace Pg
open Pt Um
@[reducible] def pv (a b c d:Value) (p s i m x:Int):Value:=.agg #[a,b,c,d,.int .i64 p,.int .i64 s,.int .i64 i,.int .i64 m,.int .i64 x]
def PV (w:World) (B:Nat) (v:Value) (X:Pat):Prop:=∃ a b c d,v = pv a b c d X.pr X.se X.mi X.mf X.xf ∧ Pc.New w B a X.pre ∧ Pc.New w B b X.suf ∧ Pc.New w B c X.npre ∧ Pc.New w B d X.nsuf
theorem PV.q {w w':World} {B:Nat} {v:Value} {X:Pat} (h:PV w B v X) (hq:Q w w'):PV w' B v X:=by
 obtain ⟨a,b,c,d,h,h1,h2,h3,h4⟩:=h
 exact ⟨a,b,c,d,h,h1.q hq,h2.q hq,h3.q hq,h4.q hq⟩
theorem PV.mono {w:World} {B B':Nat} {v:Value} {X:Pat} (h:PV w B v X) (hB:B' ≤ B):PV w B' v X:=by
 obtain ⟨a,b,c,d,h,h1,h2,h3,h4⟩:=h
 exact ⟨a,b,c,d,h,h1.mono hB,h2.mono hB,h3.mono hB,h4.mono hB⟩
def PS (X:Pat):Prop:=X.pre.length ≤ 1000000 ∧ X.suf.length ≤ 1000000 ∧ X.npre.length ≤ 1000000 ∧ X.nsuf.length ≤ 1000000
end Pg
end Go.Proofs.YtghfdapfnoeanaaGreatDoor
