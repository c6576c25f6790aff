/- What the systems' table, a map that the call makes, answers: Zero, which, Of, Names. (and more) -/
import Derived.Test.YtghfdapfnoeanaaGreatDoorR00
import Derived.Test.YtghfdapfnoeanaaGreatDoorR01
import Derived.Test.YtghfdapfnoeanaaGreatDoorR02
import Derived.Test.YtghfdapfnoeanaaGreatDoorRows
import Derived.Test.YtghfdapfnoeanaaGreatDoorR03
import Derived.Maps.OwnSet
import Derived.Maps.RangeWalk
import Derived.Deep.QuietTactic
import Derived.BigQuiet
import Derived.Laws.CopyOwn
import Derived.Laws.Tables
import Derived.Deep.RegionWith
import Derived.Deep.AppendLies
import Derived.Shelf.Sort.Plain
import Derived.Sort.OwnSorted
set_option linter.unusedVariables false
set_option linter.unusedSimpArgs false
namespace Go.Proofs.YtghfdapfnoeanaaGreatDoor
open Go.RowKit Go.Sort Go.Maps
namespace Sy
open Sm
theorem law9:Keyed Tryz.prog 9:=string_keyed Tryz.underlying9
theorem zeroI (w:World):(zeroValue 3).run Tryz.prog w = .ok (.int .i64 0) w:=by kernel_rfl
abbrev Mp (w:World) (b n:Nat) (D:DataW Unit):Prop:=w.ownsMap Tryz.prog 9 (plainElem Tryz.prog 3) b n D
theorem wf_small {v:Int} (h0:0 ≤ v) (h1:v < 1000000):(Lit.int .i64 v).wf = true:=by
 exact WalkArith.wf_i64 (by omega)
theorem put_own (w:World) {ops:Array Oper} {rest:List Oper} {o:Oper} {a:Act} {R:Exit → Act → World → Prop}
  (hg:o.guard = none) (m x v:Operand) (hop:o.op = Op.insert 215 m x v) (b n:Nat) (D:DataW Unit)
  (hm:a.eval m = .map (some b)) (hown:Mp w b n D) (hn:n < 1000) (key:List UInt8) (val:Int) (hk:key.length < 1000) (hv0:0 ≤ val) (hv1:val < 1000000) (hx:a.eval x = .string ⟨key.toArray⟩) (hv:a.eval v = .int .i64 val)
  (hK:∀ w',Mp w' b (n + 1) (D.put (.string key) (.lit (.int .i64 val))) → w.grownBy w' (some b) → wpList Tryz.prog ops R rest (a.put o.dst undef) w') :
  wpList Tryz.prog ops R (o :: rest) a w:=by
 refine wpList_plain hg fun K' hK'=>?_
 have hkey:keyOf Tryz.prog 9 (.string ⟨key.toArray⟩) = some (.string key):=by
  refine WideMaps.keyOf_string_mk Tryz.underlying9 (s:=⟨key.toArray⟩) ?_
  show key.toArray.size ≤ maxLen
  unfold maxLen;simp;omega
 obtain ⟨w',hrun,r1,r2⟩:=World.ownsMap.update hown law9 Tryz.underlying215 (by unfold maxLen;omega) hkey (plainElem_int Tryz.underlying3 (wf_small hv0 hv1))
 unfold Oper.wp
 simp [execOp,hop,hm,hx,hv,hrun,Result.andThen]
 exact hK' _ _ (hK w' r1 r2)
theorem tab_put:(((((((((((((((((((((DataW.map []).put (.string [97,114,97,98]) (.lit (.int .i64 1632))).put (.string [97,114,97,98,101,120,116]) (.lit (.int .i64 1776))).put (.string [98,101,110,103]) (.lit (.int .i64 2534))).put (.string [100,101,118,97]) (.lit (.int .i64 2406))).put (.string [102,117,108,108,119,105,100,101]) (.lit (.int .i64 65296))).put (.string [103,117,106,114]) (.lit (.int .i64 2790))).put (.string [103,117,114,117]) (.lit (.int .i64 2662))).put (.string [107,104,109,114]) (.lit (.int .i64 6112))).put (.string [107,110,100,97]) (.lit (.int .i64 3302))).put (.string [108,97,111,111]) (.lit (.int .i64 3792))).put (.string [108,97,116,110]) (.lit (.int .i64 48))).put (.string [109,97,116,104,115,97,110,98]) (.lit (.int .i64 120812))).put (.string [109,108,121,109]) (.lit (.int .i64 3430))).put (.string [109,111,110,103]) (.lit (.int .i64 6160))).put (.string [109,121,109,114]) (.lit (.int .i64 4160))).put (.string [111,114,121,97]) (.lit (.int .i64 2918))).put (.string [116,97,109,108,100,101,99]) (.lit (.int .i64 3046))).put (.string [116,101,108,117]) (.lit (.int .i64 3174))).put (.string [116,104,97,105]) (.lit (.int .i64 3664))).put (.string [116,105,98,116]) (.lit (.int .i64 3872)):DataW Unit) = D0:=by kernel_rfl
set_option maxHeartbeats 4000000 in
set_option maxRecDepth 100000 in
theorem noughts_any (w:World) :
  Calls Tryz.prog 166 #[] w fun e w'=>e = .returned (.map (some w.heap.size)) ∧ Mp w' w.heap.size 20 D0 ∧ Q w w':=by
 have hmm:=@run_makeMap Tryz.prog
 have h0:Mp (w.alloc (.map #[] 0)) w.heap.size 0 (.map []):=World.ownsMap_made _ _ _ _
 have q0:Q w (w.alloc (.map #[] 0)):=(Q.refl _).alloc _
 go_enter Tryz.func166,Tryz.ntmps166
 go_wp2_with (refine put_own _ rfl _ _ _ rfl _ 0 _ (by rfl) h0 (by omega) [97,114,97,98] 1632 (by decide) (by omega) (by omega) (by rfl) (by rfl) ?_)
 intro w1 h1 g1
 have q1:=q0.grown g1 (fun k h=>by cases h;exact Nat.le_refl _)
 go_wp2_with (refine put_own _ rfl _ _ _ rfl _ 1 _ (by rfl) h1 (by omega) [97,114,97,98,101,120,116] 1776 (by decide) (by omega) (by omega) (by rfl) (by rfl) ?_)
 intro w2 h2 g2
 have q2:=q1.grown g2 (fun k h=>by cases h;exact Nat.le_refl _)
 go_wp2_with (refine put_own _ rfl _ _ _ rfl _ 2 _ (by rfl) h2 (by omega) [98,101,110,103] 2534 (by decide) (by omega) (by omega) (by rfl) (by rfl) ?_)
 intro w3 h3 g3
 have q3:=q2.grown g3 (fun k h=>by cases h;exact Nat.le_refl _)
 go_wp2_with (refine put_own _ rfl _ _ _ rfl _ 3 _ (by rfl) h3 (by omega) [100,101,118,97] 2406 (by decide) (by omega) (by omega) (by rfl) (by rfl) ?_)
 intro w4 h4 g4
 have q4:=q3.grown g4 (fun k h=>by cases h;exact Nat.le_refl _)
 go_wp2_with (refine put_own _ rfl _ _ _ rfl _ 4 _ (by rfl) h4 (by omega) [102,117,108,108,119,105,100,101] 65296 (by decide) (by omega) (by omega) (by rfl) (by rfl) ?_)
 intro w5 h5 g5
 have q5:=q4.grown g5 (fun k h=>by cases h;exact Nat.le_refl _)
 go_wp2_with (refine put_own _ rfl _ _ _ rfl _ 5 _ (by rfl) h5 (by omega) [103,117,106,114] 2790 (by decide) (by omega) (by omega) (by rfl) (by rfl) ?_)
 intro w6 h6 g6
 have q6:=q5.grown g6 (fun k h=>by cases h;exact Nat.le_refl _)
 go_wp2_with (refine put_own _ rfl _ _ _ rfl _ 6 _ (by rfl) h6 (by omega) [103,117,114,117] 2662 (by decide) (by omega) (by omega) (by rfl) (by rfl) ?_)
 intro w7 h7 g7
 have q7:=q6.grown g7 (fun k h=>by cases h;exact Nat.le_refl _)
 go_wp2_with (refine put_own _ rfl _ _ _ rfl _ 7 _ (by rfl) h7 (by omega) [107,104,109,114] 6112 (by decide) (by omega) (by omega) (by rfl) (by rfl) ?_)
 intro w8 h8 g8
 have q8:=q7.grown g8 (fun k h=>by cases h;exact Nat.le_refl _)
 go_wp2_with (refine put_own _ rfl _ _ _ rfl _ 8 _ (by rfl) h8 (by omega) [107,110,100,97] 3302 (by decide) (by omega) (by omega) (by rfl) (by rfl) ?_)
 intro w9 h9 g9
 have q9:=q8.grown g9 (fun k h=>by cases h;exact Nat.le_refl _)
 go_wp2_with (refine put_own _ rfl _ _ _ rfl _ 9 _ (by rfl) h9 (by omega) [108,97,111,111] 3792 (by decide) (by omega) (by omega) (by rfl) (by rfl) ?_)
 intro w10 h10 g10
 have q10:=q9.grown g10 (fun k h=>by cases h;exact Nat.le_refl _)
 go_wp2_with (refine put_own _ rfl _ _ _ rfl _ 10 _ (by rfl) h10 (by omega) [108,97,116,110] 48 (by decide) (by omega) (by omega) (by rfl) (by rfl) ?_)
 intro w11 h11 g11
 have q11:=q10.grown g11 (fun k h=>by cases h;exact Nat.le_refl _)
 go_wp2_with (refine put_own _ rfl _ _ _ rfl _ 11 _ (by rfl) h11 (by omega) [109,97,116,104,115,97,110,98] 120812 (by decide) (by omega) (by omega) (by rfl) (by rfl) ?_)
 intro w12 h12 g12
 have q12:=q11.grown g12 (fun k h=>by cases h;exact Nat.le_refl _)
 go_wp2_with (refine put_own _ rfl _ _ _ rfl _ 12 _ (by rfl) h12 (by omega) [109,108,121,109] 3430 (by decide) (by omega) (by omega) (by rfl) (by rfl) ?_)
 intro w13 h13 g13
 have q13:=q12.grown g13 (fun k h=>by cases h;exact Nat.le_refl _)
 go_wp2_with (refine put_own _ rfl _ _ _ rfl _ 13 _ (by rfl) h13 (by omega) [109,111,110,103] 6160 (by decide) (by omega) (by omega) (by rfl) (by rfl) ?_)
 intro w14 h14 g14
 have q14:=q13.grown g14 (fun k h=>by cases h;exact Nat.le_refl _)
 go_wp2_with (refine put_own _ rfl _ _ _ rfl _ 14 _ (by rfl) h14 (by omega) [109,121,109,114] 4160 (by decide) (by omega) (by omega) (by rfl) (by rfl) ?_)
 intro w15 h15 g15
 have q15:=q14.grown g15 (fun k h=>by cases h;exact Nat.le_refl _)
 go_wp2_with (refine put_own _ rfl _ _ _ rfl _ 15 _ (by rfl) h15 (by omega) [111,114,121,97] 2918 (by decide) (by omega) (by omega) (by rfl) (by rfl) ?_)
 intro w16 h16 g16
 have q16:=q15.grown g16 (fun k h=>by cases h;exact Nat.le_refl _)
 go_wp2_with (refine put_own _ rfl _ _ _ rfl _ 16 _ (by rfl) h16 (by omega) [116,97,109,108,100,101,99] 3046 (by decide) (by omega) (by omega) (by rfl) (by rfl) ?_)
 intro w17 h17 g17
 have q17:=q16.grown g17 (fun k h=>by cases h;exact Nat.le_refl _)
 go_wp2_with (refine put_own _ rfl _ _ _ rfl _ 17 _ (by rfl) h17 (by omega) [116,101,108,117] 3174 (by decide) (by omega) (by omega) (by rfl) (by rfl) ?_)
 intro w18 h18 g18
 have q18:=q17.grown g18 (fun k h=>by cases h;exact Nat.le_refl _)
 go_wp2_with (refine put_own _ rfl _ _ _ rfl _ 18 _ (by rfl) h18 (by omega) [116,104,97,105] 3664 (by decide) (by omega) (by omega) (by rfl) (by rfl) ?_)
 intro w19 h19 g19
 have q19:=q18.grown g19 (fun k h=>by cases h;exact Nat.le_refl _)
 go_wp2_with (refine put_own _ rfl _ _ _ rfl _ 19 _ (by rfl) h19 (by omega) [116,105,98,116] 3872 (by decide) (by omega) (by omega) (by rfl) (by rfl) ?_)
 intro w20 h20 g20
 have q20:=q19.grown g20 (fun k h=>by cases h;exact Nat.le_refl _)
 go_wp2_with fail
 go_ret
 exact ⟨rfl,by rw [← tab_put];exact h20,q20⟩
theorem keyS (x:ByteArray) (hx:x.size ≤ maxLen):keyOf Tryz.prog 9 (.string x) = some (.string x.data.toList):=WideMaps.keyOf_string_mk Tryz.underlying9 hx
set_option maxRecDepth 100000 in
set_option maxHeartbeats 1000000 in
theorem zero_some (x:ByteArray) (w:World) (hx:x.size ≤ maxLen) (h:nz x.data.toList ≠ -1) :
  Calls Tryz.prog 128 #[.string x] w fun e w'=>e = .returned (.tuple #[.int .i64 (nz x.data.toList),.int .i64 0]) ∧ Q w w':=by
 have hh:Maps.has D0 (.string x.data.toList) = true:=by rw [D0_has];exact decide_eq_true h
 have ha:=D0_at x.data.toList (.lit (.int .i64 0)) h
 have hk:=keyS x hx
 generalize nz x.data.toList = z at *
 have HH:=Lib.hid hh
 have HA:=Lib.hid ha
 clear hh ha h
 go_enter Tryz.func128,Tryz.ntmps128
 go_wp2_with fail
 refine (noughts_any _).mono ?_
 rintro e w1 ⟨rfl,hm,hq⟩
 go_wp2_with (at_lookup;refine wpList_lookup_own_ok_int _ rfl _ _ 215 rfl 9 3 .i64 law9 Tryz.underlying215 Tryz.underlying3 (zeroI _) _ 20 D0 (by rfl) hm _ _ (by rfl) hk ?_)
 intro c hat hwc
 obtain rfl:z = c:=by
  have h1:=HA.out
  rw [hat] at h1
  injection h1 with h1;injection h1 with _ h1
  exact h1.symm
 rw [HH.out]
 go_wp2_with fail
 go_ret2
 exact ⟨rfl,hq⟩
set_option maxRecDepth 100000 in
set_option maxHeartbeats 1000000 in
theorem zero_none (x:ByteArray) (w:World) (hx:x.size ≤ maxLen) (h:nz x.data.toList = -1) :
  Calls Tryz.prog 128 #[.string x] w fun e w'=>e = .returned (.tuple #[.int .i64 0,.int .i64 7]) ∧ Q w w':=by
 have hh:Maps.has D0 (.string x.data.toList) = false:=by rw [D0_has];exact decide_eq_false (fun k=>k h)
 have hk:=keyS x hx
 have HH:=Lib.hid hh
 clear hh h
 go_enter Tryz.func128,Tryz.ntmps128
 go_wp2_with fail
 refine (noughts_any _).mono ?_
 rintro e w1 ⟨rfl,hm,hq⟩
 go_wp2_with (at_lookup;refine wpList_lookup_own_ok_int _ rfl _ _ 215 rfl 9 3 .i64 law9 Tryz.underlying215 Tryz.underlying3 (zeroI _) _ 20 D0 (by rfl) hm _ _ (by rfl) hk ?_)
 intro c hat hwc
 rw [HH.out]
 go_wp2_with fail
 go_ret2
 exact ⟨rfl,hq⟩
end Sy
end Go.Proofs.YtghfdapfnoeanaaGreatDoor
namespace Go.Proofs.YtghfdapfnoeanaaGreatDoor
open Go.RowKit
namespace Rw
theorem all1 {l:List Value} (h:l.all (·.oneCell') = true):l.toArray.all (·.oneCell') = true:=by simpa using h
theorem Q_row {w u:World} (h:Q w u) {b:Nat} (hb:w.heap.size ≤ b) (cs:Array Value):Q w (u.setRow b cs):=below_setRow h hb cs
theorem Bk_row {u:World} {b:Nat} {T:TypeId} {l:List Value} (h:Bk u b T l) (l':List Value):Bk (u.setRow b l'.toArray) b T l':=setRow_heap u b l.toArray l'.toArray T (0,0) h
theorem Bk_other {u:World} {b g:Nat} {T:TypeId} {l:List Value} (h:Bk u b T l) (hg:b ≠ g) (cs:Array Value):Bk (u.setRow g cs) b T l:=(setRow_other u g b cs hg).trans h
end Rw
end Go.Proofs.YtghfdapfnoeanaaGreatDoor
namespace Go.Proofs.YtghfdapfnoeanaaGreatDoor
open Go.RowKit
theorem ld_row {o:Oper} {a:Act} {T:TypeId} {x:Operand} {b:Nat} {l:List Value} {uz:World} {fs:_} (ho:o.op = .load T x) (hx:a.eval x = .pointer (some ⟨b,0,none⟩))
  (hB:Bk uz b T l) (hu:Tryz.prog.underlying T = some (.struct fs)) (hi:(Tryz.prog.info? T).map (·.size) = some l.length) :
  (execOp a.eval o).run Tryz.prog uz = .ok (.value (.agg l.toArray)) uz:=by
 have h:=run_loadVar_row uz b T T l.toArray (0,0) _ hB hu rfl (by simpa using hi)
 unfold execOp
 simp only [ho,hx,Instr.loadAt,Instr.sureAddr,Sem.run_bind,Sem.run_pure,Result.andThen_ok,h]
end Go.Proofs.YtghfdapfnoeanaaGreatDoor
namespace Go.Proofs.YtghfdapfnoeanaaGreatDoor
open Go.RowKit
namespace Dm
def gdL (xs:List Int) (m:Nat):List Int:=(xs.take m).map fun x=>Um.around x 10
theorem gdL_len (xs:List Int) (m:Nat):(gdL xs m).length = min m xs.length:=by unfold gdL;rw [List.length_map,List.length_take]
theorem gdL_ok (xs:List Int) (m:Nat):okD (gdL xs m):=by
 intro d hd
 obtain ⟨x,hx,rfl⟩:=List.mem_map.1 hd
 have:=Um.around_bd x 10 (by omega)
 omega
theorem gdL_snoc (xs:List Int) (k:Nat) (hk:k < xs.length):gdL xs (k + 1) = gdL xs k ++ [Um.around (xs.getD k 0) 10]:=by
 unfold gdL
 rw [List.take_succ_eq_append_getElem hk,List.map_append,List.getD_eq_getElem?_getD,List.getElem?_eq_getElem hk];rfl
theorem gdL_min (xs:List Int) (m:Nat):gdL xs (min m xs.length) = gdL xs m:=by
 unfold gdL
 rcases Nat.le_total m xs.length with h | h
 ·rw [Nat.min_eq_left h]
 ·rw [Nat.min_eq_right h,List.take_length,List.take_of_length_le h]
end Dm
namespace Dr
set_option maxHeartbeats 1600000 in
theorem good_any (v:Value) (xs:List Int) (m:Nat) (w:World) (hv:Lst w v xs) (hl:xs.length ≤ 9223372036854775807) (hm:m < 1000000) (hb:∀ n ∈ xs,-9223372036854775808 ≤ n ∧ n ≤ 9223372036854775807) :
  Calls Tryz.prog 55 #[v,.int .i64 m] w fun e w'=>∃ u,e = .returned u ∧ Own w' w.heap.size u (Dm.gdL xs m) ∧ Q w w':=by
 obtain ⟨n,hn⟩:∃ n,n = xs.length:=⟨_,rfl⟩
 obtain ⟨a,c,rfl,hnc,hcm⟩:=hv.form0 hn.symm
 have HV:=Lib.hid (fun k (hk:k < n)=>hv.cellOf (n:=n) (k:=k) hn.symm hk)
 have HB:=Lib.hid (fun k (hk:k < n)=>(by rw [List.getD_eq_getElem?_getD,List.getElem?_eq_getElem (by omega)];exact hb _ (List.getElem_mem _):-9223372036854775808 ≤ xs.getD k 0 ∧ xs.getD k 0 ≤ 9223372036854775807))
 have HS:=Lib.hid (fun k (hk:k < n)=>Dm.gdL_snoc xs k (by omega))
 have HE:=Lib.hid (fun k (h1:k = min m n)=>(by rw [h1,hn];exact Dm.gdL_min xs m:Dm.gdL xs k = Dm.gdL xs m))
 have HL:=Lib.hid (fun k=>(by rw [Dm.gdL_len,← hn]:(Dm.gdL xs k).length = min k n))
 have HA:=Lib.hid (fun x w h0 h1=>Ur.around_any x 10 w h0 h1 (by omega) (by omega))
 rw [← hn] at hl
 unfold maxLen at hcm
 clear hv hn hb
 go_enter Tryz.func55,Tryz.ntmps55
 go_wp2_with fail
 go_loopw [5,6] (fun u t wr=>∃ k:Nat,t = .int .i64 k ∧ k ≤ n ∧ k ≤ m ∧ Own wr w.heap.size u (Dm.gdL xs k) ∧ Q w wr) (fun _ t _=>n - (intOf t).toNat)
 case atStart=>exact ⟨0,rfl,by omega,by omega,Own.nil _ _,Q.refl _⟩
 case round =>
  obtain ⟨k,rfl,hk,hkm,ho,hq⟩:=hrel
  by_cases hlt:k < n
  ·by_cases hlm:k < m
   ·obtain ⟨g,off,cap,hvv,hg,_,_,c0⟩:=HV.out k hlt
    cases hvv
    have c1:=(World.cell?_of_block (w:=w) (hq.block hg) (a:=⟨g,off + k,none⟩)).trans c0
    have hbk:=HB.out k hlt
    have hs:=HS.out k hlt
    generalize xs.getD k 0 = x at *
    have HS2:=Lib.hid hs
    have hwl:(Dm.gdL xs k).length < 1099511627776:=by rw [HL.out];omega
    have hB:=hq.le
    have HAR:=Lib.hid (HA.out x wr hbk.1 hbk.2)
    have HQ:=Lib.hid hq
    clear hs c0 hbk
    generalize Um.around x 10 = y at *
    go_wp2_with fail
    refine HAR.out.mono ?_
    rintro e w1 ⟨rfl,rfl⟩
    go_wp2_with (at_builtin;refine push_int ho rfl _ _ rfl _ (by rfl) (by rfl) hwl hB ?_)
    intro v2 w2 ho2 hg2 hat2
    rw [← HS2.out] at ho2
    have HO2:=Lib.hid ho2
    have HQ2:=Lib.hid (HQ.out.grown hg2 (fun g h=>(ho.lt g h).1))
    clear ho ho2 hg2 hat2
    go_wp2_with fail
    exact ⟨⟨k + 1,by go_num,by omega,by omega,HO2.out,HQ2.out⟩,by simp [intOf];omega⟩
   ·have he:=HE.out k (by omega)
    rw [he] at ho
    have HO:=Lib.hid ho
    have HQ:=Lib.hid hq
    clear he ho hq
    go_wp2_with fail
    go_ret
    exact ⟨_,rfl,HO.out,HQ.out⟩
  ·have he:=HE.out k (by omega)
   rw [he] at ho
   have HO:=Lib.hid ho
   have HQ:=Lib.hid hq
   clear he ho hq
   go_wp2_with fail
   go_ret
   exact ⟨_,rfl,HO.out,HQ.out⟩
end Dr
end Go.Proofs.YtghfdapfnoeanaaGreatDoor
namespace Go.Proofs.YtghfdapfnoeanaaGreatDoor
open Go.RowKit
namespace Im
abbrev E:=Int × ByteArray × Int
def e0:E:=(0,⟨#[]⟩,0)
def flat (l:List E):List Value:=l.flatMap fun p=>[.int .i64 p.1,.string p.2.1,.int .i64 p.2.2]
theorem flat_cons (p:E) (l:List E):flat (p :: l) = .int .i64 p.1 :: .string p.2.1 :: .int .i64 p.2.2 :: flat l:=by simp [flat]
theorem flat_len (l:List E):(flat l).length = l.length * 3:=by
 induction l with
 | nil=>rfl
 | cons p l ih=>rw [flat_cons];simp [ih];omega
theorem flat_app (a b:List E):flat (a ++ b) = flat a ++ flat b:=by simp [flat]
theorem flat_get (l:List E) (i:Nat) (h:i < l.length):(flat l)[i * 3]? = some (.int .i64 (l.getD i e0).1) ∧ (flat l)[i * 3 + 1]? = some (.string (l.getD i e0).2.1) ∧ (flat l)[i * 3 + 2]? = some (.int .i64 (l.getD i e0).2.2):=by
 induction l generalizing i with
 | nil=>simp at h
 | cons p l ih =>
  cases i with
  | zero=>rw [flat_cons];simp
  | succ i =>
   have:=ih i (by simpa using h)
   rw [flat_cons,show (i + 1) * 3 = i * 3 + 1 + 1 + 1 from by omega]
   simpa using this
theorem flat_one (l:List E):∀ u ∈ flat l,u.oneCell' = true:=by
 intro u hu
 obtain ⟨p,_,hp⟩:=List.mem_flatMap.1 hu
 simp only [List.mem_cons,List.not_mem_nil,or_false] at hp
 rcases hp with rfl | rfl | rfl <;> rfl
def LstI (w:World) (v:Value) (l:List E):Prop :=
 (l = [] ∧ ∃ a c,v = .slice a 0 c ∧ c ≤ maxLen ∧ (a = none → c = 0)) ∨
 ∃ g off cap,v = .slice (some ⟨g,off,none⟩) l.length cap ∧ g < w.heap.size ∧ l.length ≤ cap ∧ cap ≤ maxLen ∧ ∀ i,i < l.length → w.cell? ⟨g,off + i * 3,none⟩ = some (.int .i64 (l.getD i e0).1) ∧ w.cell? ⟨g,off + i * 3 + 1,none⟩ = some (.string (l.getD i e0).2.1) ∧ w.cell? ⟨g,off + i * 3 + 2,none⟩ = some (.int .i64 (l.getD i e0).2.2)
theorem LstI.nil (w:World) (a:Option Addr) (c:Nat) (hc:c ≤ maxLen) (hn:a = none → c = 0):LstI w (.slice a 0 c) []:=.inl ⟨rfl,a,c,rfl,hc,hn⟩
theorem LstI.q {w w':World} {v:Value} {l:List E} (h:LstI w v l) (hq:Q w w'):LstI w' v l:=by
 rcases h with h | ⟨g,off,cap,hv,hg,h1,h2,hc⟩
 ·exact .inl h
 ·refine .inr ⟨g,off,cap,hv,Nat.lt_of_lt_of_le hg hq.le,h1,h2,fun i hi=>?_⟩
  obtain ⟨c1,c2,c3⟩:=hc i hi
  exact ⟨(World.cell?_of_block (w:=w) (hq.block hg)).trans c1,(World.cell?_of_block (w:=w) (hq.block hg)).trans c2,(World.cell?_of_block (w:=w) (hq.block hg)).trans c3⟩
theorem LstI.shape2 {w:World} {v:Value} {l:List E} (h:LstI w v l):∃ a c,v = .slice a l.length c ∧ l.length ≤ c ∧ c ≤ maxLen:=by
 rcases h with ⟨rfl,a,c,rfl,hc,_⟩ | ⟨g,off,cap,hv,_,h1,h2,_⟩
 ·exact ⟨a,c,rfl,Nat.zero_le _,hc⟩
 ·exact ⟨_,_,hv,h1,h2⟩
theorem LstI.form0 {w:World} {v:Value} {l:List E} {n:Nat} (h:LstI w v l) (hn:l.length = n):∃ a c,v = .slice a n c ∧ n ≤ c ∧ c ≤ maxLen:=by
 subst hn;exact h.shape2
theorem LstI.cellOf {w:World} {v:Value} {l:List E} {n k:Nat} (h:LstI w v l) (hn:l.length = n) (hk:k < n) :
  ∃ g off cap,v = .slice (some ⟨g,off,none⟩) n cap ∧ g < w.heap.size ∧ n ≤ cap ∧ cap ≤ maxLen ∧ w.cell? ⟨g,off + k * 3,none⟩ = some (.int .i64 (l.getD k e0).1) ∧ w.cell? ⟨g,off + k * 3 + 1,none⟩ = some (.string (l.getD k e0).2.1) ∧ w.cell? ⟨g,off + k * 3 + 2,none⟩ = some (.int .i64 (l.getD k e0).2.2):=by
 rcases h with ⟨rfl,_⟩ | ⟨g,off,cap,hv,hg,h1,h2,hc⟩
 ·simp at hn;omega
 ·rw [hn] at hv h1 hc
  exact ⟨g,off,cap,hv,hg,h1,h2,(hc k hk).1,(hc k hk).2.1,(hc k hk).2.2⟩
def OwnI (T:TypeId) (w:World) (B:Nat) (v:Value) (l:List E):Prop:=w.ownsRow B T 3 v l.length (flat l)
theorem OwnI.nil (T:TypeId) (w:World) (B:Nat):OwnI T w B (.slice none 0 0) []:=World.ownsRow_nil w B T 3
theorem OwnI.mono {T:TypeId} {w:World} {B B':Nat} {v:Value} {l:List E} (h:OwnI T w B v l) (hB:B' ≤ B):OwnI T w B' v l:=by
 obtain ⟨h1,h2⟩:=h
 refine ⟨h1,?_⟩
 rcases h2 with h2 | ⟨g,cap,cur,hv,hg,r⟩
 ·exact .inl h2
 ·exact .inr ⟨g,cap,cur,hv,by omega,r⟩
theorem OwnI.same {T:TypeId} {w w':World} {B:Nat} {v:Value} {l:List E} (h:OwnI T w B v l) (hs:∀ g,v.ownBlock = some g → w'.heap[g]? = w.heap[g]?):OwnI T w' B v l:=by
 obtain ⟨h1,h2⟩:=h
 refine ⟨h1,?_⟩
 rcases h2 with h2 | ⟨g,cap,cur,hv,hg,hh,r⟩
 ·exact .inl h2
 ·exact .inr ⟨g,cap,cur,hv,hg,by rw [hs g (by rw [hv];rfl)];exact hh,r⟩
theorem OwnI.lt {T:TypeId} {w:World} {B:Nat} {v:Value} {l:List E} (h:OwnI T w B v l):∀ g,v.ownBlock = some g → B ≤ g ∧ g < w.heap.size:=World.ownsRow.lt h
theorem OwnI.q {T:TypeId} {w w':World} {B:Nat} {v:Value} {l:List E} (h:OwnI T w B v l) (hq:Q w w'):OwnI T w' B v l:=h.same fun g hg=>hq.block (h.lt g hg).2
theorem OwnI.lst {T:TypeId} {w:World} {B:Nat} {v:Value} {l:List E} (h:OwnI T w B v l):LstI w v l:=by
 rcases h.2 with ⟨hv,hn⟩ | ⟨g,cap,cur,hv,_,hh,hnc,hcm,hcs,ht⟩
 ·have:l = []:=List.eq_nil_of_length_eq_zero hn
  subst this;subst hv
  exact .nil _ _ _ (by unfold maxLen;omega) (fun _=>rfl)
 ·refine .inr ⟨g,0,cap,hv,(Array.getElem?_eq_some_iff.1 hh).1,hnc,hcm,fun i hi=>⟨?_,?_,?_⟩⟩
  ·rw [cell_of_row w g (0 + i * 3) cur T (0,0) hh]
   have h1:=congrArg (fun x=>x[i * 3]?) ht
   rw [List.getElem?_take,if_pos (by omega),(flat_get l i hi).1] at h1
   rw [Nat.zero_add,← Array.getElem?_toList,h1]
  ·rw [cell_of_row w g (0 + i * 3 + 1) cur T (0,0) hh]
   have h1:=congrArg (fun x=>x[i * 3 + 1]?) ht
   rw [List.getElem?_take,if_pos (by omega),(flat_get l i hi).2.1] at h1
   rw [Nat.zero_add,← Array.getElem?_toList,h1]
  ·rw [cell_of_row w g (0 + i * 3 + 2) cur T (0,0) hh]
   have h1:=congrArg (fun x=>x[i * 3 + 2]?) ht
   rw [List.getElem?_take,if_pos (by omega),(flat_get l i hi).2.2] at h1
   rw [Nat.zero_add,← Array.getElem?_toList,h1]
theorem OwnI.shape {T:TypeId} {w:World} {B:Nat} {v:Value} {l:List E} (h:OwnI T w B v l):∃ a c,v = .slice a l.length c:=by
 obtain ⟨a,c,hv,_⟩:=h.lst.shape2
 exact ⟨a,c,hv⟩
structure El (T ST:TypeId):Prop where
 info:(Tryz.prog.info? T).map (fun i=>(i.zero,i.size,i.bytes)) = some (some (.agg #[.int .i64 0,.string ByteArray.empty,.int .i64 0]),3,32)
 under:Tryz.prog.underlying ST = some (.slice T)
theorem push {T ST:TypeId} (he:El T ST) {w:World} {B:Nat} {v:Value} {l:List E} (hown:OwnI T w B v l) {ops:Array Oper} {rest:List Oper} {o:Oper} {a:Act} {R:Exit → Act → World → Prop} (hgd:o.guard = none) (s x:Operand)
  (ho:o.op = .call { callee:=.builtin .append,args:=#[s,x],argTypes:=#[ST,ST] })
  (p:Int) (t:ByteArray) (q:Int) (hs:a.eval s = v) (hx:a.eval x = .slice (some ⟨w.heap.size,0,none⟩) 1 1) (hlen:l.length < 1073741824) (hB:B ≤ w.heap.size)
  (h:∀ v' w',OwnI T w' B v' (l ++ [(p,t,q)]) → w.grownBy w' v.ownBlock → (v'.ownBlock = v.ownBlock ∨ v'.ownBlock = some (w.heap.size + 1)) → wpList Tryz.prog ops R rest (a.put o.dst v') w') :
  wpList Tryz.prog ops R (o :: rest) a (w.alloc (.cells #[.int .i64 p,.string t,.int .i64 q] T)):=by
 obtain ⟨i0,hi,hz0,hz1,hz2⟩:=info_parts he.info
 refine wpList_append_own_at _ hgd s x ST ho B T i0 (.agg #[.int .i64 0,.string ByteArray.empty,.int .i64 0]) 3 32 he.under hi hz0 hz1 hz2 rfl (by decide) v l.length _ hs (World.ownsRow.alloc hown _)
  ⟨w.heap.size,0,none⟩ 1 1 [.int .i64 p,.string t,.int .i64 q] hx rfl ?_ ?_ ?_ ?_ ?_ ?_
 ·intro j u hj
  match j,hj with
  | 0,hj=>simp at hj;subst hj;show World.cell? _ ⟨w.heap.size,0 + 0,none⟩ = _;rw [World.cell?_alloc_at _ _ _ _ rfl];rfl
  | 1,hj=>simp at hj;subst hj;show World.cell? _ ⟨w.heap.size,0 + 1,none⟩ = _;rw [World.cell?_alloc_at _ _ _ _ rfl];rfl
  | 2,hj=>simp at hj;subst hj;show World.cell? _ ⟨w.heap.size,0 + 2,none⟩ = _;rw [World.cell?_alloc_at _ _ _ _ rfl];rfl
 ·intro u hu;simp at hu;rcases hu with rfl | rfl | rfl <;> rfl
 ·unfold maxLen;omega
 ·omega
 ·simp;omega
 ·intro v' w' hown' hg _ hat
  refine h v' w' ?_ ?_ ?_
  ·unfold OwnI
   rw [List.length_append,flat_app]
   exact hown'
  ·exact (World.grownBy_alloc w _ _).trans hg
  ·simpa using hat
theorem pushl {T ST:TypeId} (he:El T ST) {w:World} {B:Nat} {v u:Value} {l k:List E} (hown:OwnI T w B v l) (hu:LstI w u k) {ops:Array Oper} {rest:List Oper} {o:Oper} {a:Act} {R:Exit → Act → World → Prop} (hgd:o.guard = none) (s x:Operand)
  (ho:o.op = .call { callee:=.builtin .append,args:=#[s,x],argTypes:=#[ST,ST] })
  (hs:a.eval s = v) (hx:a.eval x = u) (hlen:l.length + k.length < 1073741824) (hB:B ≤ w.heap.size)
  (h:∀ v' w',OwnI T w' B v' (l ++ k) → w.grownBy w' v.ownBlock → (v'.ownBlock = v.ownBlock ∨ v'.ownBlock = some w.heap.size) → wpList Tryz.prog ops R rest (a.put o.dst v') w') :
  wpList Tryz.prog ops R (o :: rest) a w:=by
 obtain ⟨i0,hi,hz0,hz1,hz2⟩:=info_parts he.info
 have key:∀ (ad:Addr) (m c:Nat),u = .slice (some ad) m c → k.length = m → (∀ j x,(flat k)[j]? = some x → w.cell? (ad.add j) = some x) → wpList Tryz.prog ops R (o :: rest) a w:=by
  intro ad m c hu hm hc
  subst hu;subst hm
  refine wpList_append_own_at _ hgd s x ST ho B T i0 (.agg #[.int .i64 0,.string ByteArray.empty,.int .i64 0]) 3 32 he.under hi hz0 hz1 hz2 rfl (by decide) v l.length _ hs hown
   ad k.length c (flat k) hx (by rw [flat_len]) hc (flat_one k) ?_ ?_ hB ?_
  ·unfold maxLen;omega
  ·omega
  ·intro v' w' hown' hg _ hat
   refine h v' w' ?_ hg hat
   unfold OwnI
   rw [List.length_append,flat_app]
   exact hown'
 rcases hu with ⟨rfl,ad,c,rfl,hc,hn⟩ | ⟨g,off,cap,hv,hg,h1,h2,hc⟩
 ·cases ad with
  | none =>
   obtain rfl:=hn rfl
   refine wpList_append_own_none hgd s x ST ho B T i0 3 he.under hi v l.length _ hs hown hx ?_
   exact h v w (by rw [List.append_nil];exact hown) ⟨rfl,rfl,rfl,Nat.le_refl _,fun _ _ _=>rfl⟩ (.inl rfl)
  | some ad=>exact key ad 0 c rfl rfl (by simp [flat])
 ·refine key ⟨g,off,none⟩ k.length cap hv rfl fun j x hj=>?_
  have hjl:j < k.length * 3:=by
   have:=(List.getElem?_eq_some_iff.1 hj).1
   rwa [flat_len] at this
  have hadd:(⟨g,off,none⟩:Addr).add j = ⟨g,off + j,none⟩:=by unfold Addr.add;split <;> simp_all
  obtain ⟨i,hi⟩:∃ i,i = j / 3:=⟨_,rfl⟩
  have hik:i < k.length:=by omega
  obtain ⟨f1,f2,f3⟩:=flat_get k i hik
  obtain ⟨c1,c2,c3⟩:=hc i hik
  rw [hadd]
  rcases (show j = i * 3 ∨ j = i * 3 + 1 ∨ j = i * 3 + 2 from by omega) with hj2 | hj2 | hj2
  ·rw [hj2] at hj ⊢
   rw [f1] at hj
   rw [c1];exact hj
  ·rw [hj2] at hj ⊢
   rw [f2] at hj
   rw [← Nat.add_assoc,c2];exact hj
  ·rw [hj2] at hj ⊢
   rw [f3] at hj
   rw [← Nat.add_assoc,c3];exact hj
theorem pushR {T ST:TypeId} (he:El T ST) {w:World} {B:Nat} {v:Value} {l:List E} (hown:OwnI T w B v l) {ops:Array Oper} {o:Oper} {a:Act} {K:Act → World → Prop} {R:Exit → Act → World → Prop} {E':Prop} (hgd:o.guard = none) (s x:Operand)
  (ho:o.op = .call { callee:=.builtin .append,args:=#[s,x],argTypes:=#[ST,ST] })
  {g0:Nat} (p:Int) (t:ByteArray) (q:Int) (hs:a.eval s = v) (hx:a.eval x = .slice (some ⟨g0,0,none⟩) 1 1) (c0:w.cell? ⟨g0,0,none⟩ = some (.int .i64 p)) (c1:w.cell? ⟨g0,1,none⟩ = some (.string t)) (c2:w.cell? ⟨g0,2,none⟩ = some (.int .i64 q)) (hlen:l.length < 1073741824) (hB:B ≤ w.heap.size)
  (h:∀ v' w',OwnI T w' B v' (l ++ [(p,t,q)]) → w.grownBy w' v.ownBlock → (v'.ownBlock = v.ownBlock ∨ v'.ownBlock = some w.heap.size) → K (a.put o.dst v') w') :
  if Region.wanted o (yielded ops a.tmps) = true then Oper.wp Tryz.prog o a w K R else E':=by
 obtain ⟨i0,hi,hz0,hz1,hz2⟩:=info_parts he.info
 refine step_append_lies w hgd s x ST ho B T i0 (.agg #[.int .i64 0,.string ByteArray.empty,.int .i64 0]) 3 32 he.under hi hz0 hz1 hz2 rfl (by decide) v l.length _ hs hown
  ⟨g0,0,none⟩ 1 1 [.int .i64 p,.string t,.int .i64 q] hx rfl ?_ ?_ (by decide) ?_ ?_ hB w.heap.size rfl ?_
 ·intro j u hj
  match j,hj with
  | 0,hj=>simp at hj;subst hj;exact c0
  | 1,hj=>simp at hj;subst hj;exact c1
  | 2,hj=>simp at hj;subst hj;exact c2
 ·intro u hu;simp at hu;rcases hu with rfl | rfl | rfl <;> rfl
 ·unfold maxLen;omega
 ·omega
 ·intro g cap w' hown' hg hat _
  refine h _ w' ?_ hg ?_
  ·unfold OwnI
   rw [List.length_append,flat_app]
   exact hown'
  ·rcases hat with hat | hat
   ·exact .inl hat.symm
   ·exact .inr (by rw [hat];rfl)
theorem Gap_grow {A W W':World} {lo hi:Nat} {row:Option Nat} (h:Gap lo hi A W) (hg:W.grownBy W' row) (hr:∀ k,row = some k → (lo ≤ k ∧ k < hi) ∨ A.heap.size ≤ k):Gap lo hi A W':=by
 obtain ⟨g1,g2,g3,g4,g5⟩:=hg
 refine ⟨g1.trans h.os,g2.trans h.tape,g3.trans h.output,Nat.le_trans h.size g4,fun k hk ho=>?_⟩
 rw [g5 k (Nat.lt_of_lt_of_le hk h.size) (by
  intro e
  rcases hr k e.symm with h1 | h1 <;> omega)]
 exact h.block k hk ho
theorem gap_q2 {a b c:World} {lo hi:Nat} (h:Q a b) (hl:a.heap.size ≤ lo) (g:Gap lo hi b c):Q a c:=Below.trans h ⟨g.os,g.tape,g.output,g.size,fun k hk=>g.block k (Nat.lt_of_lt_of_le hk h.le) (.inl (Nat.lt_of_lt_of_le hk hl))⟩
theorem bk_gap {w w':World} {b lo hi:Nat} {T:TypeId} {l:List Value} (h:Bk w b T l) (g:Gap lo hi w w') (ho:b < lo ∨ hi ≤ b):Bk w' b T l:=(g.block b h.lt ho).trans h
theorem OwnI.made1 {T:TypeId} (w:World) (p:Int) (t:ByteArray) (q:Int):OwnI T (w.alloc (.cells #[.int .i64 p,.string t,.int .i64 q] T)) w.heap.size (.slice (some ⟨w.heap.size,0,none⟩) 1 1) [(p,t,q)]:=by
 refine ⟨by simp [flat],.inr ⟨w.heap.size,1,#[.int .i64 p,.string t,.int .i64 q],rfl,Nat.le_refl _,?_,Nat.le_refl _,by unfold maxLen;omega,rfl,rfl⟩⟩
 exact Bk.new w T [.int .i64 p,.string t,.int .i64 q]
end Im
end Go.Proofs.YtghfdapfnoeanaaGreatDoor
namespace Go.Proofs.YtghfdapfnoeanaaGreatDoor.Gm
open Um Cm
theorem marks_pos (l:List UInt8):∀ m ∈ marks l,1 ≤ m.2.1:=by
 refine marks_ind (p:=fun l=>∀ m ∈ marks l,1 ≤ m.2.1) (by simp [marks_nil]) ?_ l
 intro l hl ih m hm
 rw [marks_cons l hl,List.mem_cons] at hm
 rcases hm with rfl | hm
 ·exact (mark_n l hl).1
 ·exact ih m hm
theorem begF_lt (t:St) (p:Nat) (ms:List (Int × Nat × Bool)) (h:∀ m ∈ ms,1 ≤ m.2.1):∀ x ∈ begF t p ms,(p:Int) ≤ x ∧ x < p + width ms:=by
 induction ms generalizing t p with
 | nil=>simp [begF]
 | cons m ms ih =>
  intro x hx
  have hw:width (m :: ms) = m.2.1 + width ms:=by simp [width]
  have h1:=h m (by simp)
  rw [begF,List.mem_append] at hx
  rcases hx with hx | hx
  ·split at hx
   ·cases hx
   ·rw [List.mem_singleton] at hx;omega
  ·have:=ih _ _ (fun m hm=>h m (by simp [hm])) x hx
   omega
theorem begF_rise (t:St) (p:Nat) (ms:List (Int × Nat × Bool)) (h:∀ m ∈ ms,1 ≤ m.2.1):(begF t p ms).Pairwise (· < ·):=by
 induction ms generalizing t p with
 | nil=>simp [begF]
 | cons m ms ih =>
  have h1:=h m (by simp)
  have hr:=begF_lt (stp t (cls m.1)) (p + m.2.1) ms (fun m hm=>h m (by simp [hm]))
  rw [begF,List.pairwise_append]
  refine ⟨by split <;> simp,ih _ _ (fun m hm=>h m (by simp [hm])),fun x hx y hy=>?_⟩
  have:=hr y hy
  split at hx
  ·cases hx
  ·rw [List.mem_singleton] at hx;omega
def stL1 (l:List UInt8):List Int:=begL l ++ [(l.length:Int)]
theorem stL1_length (l:List UInt8):(stL1 l).length = (begL l).length + 1:=by simp [stL1]
theorem begL_lt (l:List UInt8):∀ x ∈ begL l,0 ≤ x ∧ x < l.length:=by
 intro x hx
 have:=begF_lt st0 0 (marks l) (marks_pos l) x hx
 rw [width_marks] at this
 omega
theorem stL1_rise (l:List UInt8):(stL1 l).Pairwise (· < ·):=by
 unfold stL1
 rw [List.pairwise_append]
 refine ⟨begF_rise _ _ _ (marks_pos l),by simp,fun x hx y hy=>?_⟩
 rw [List.mem_singleton] at hy
 have:=begL_lt l x hx
 omega
theorem stL1_bd (l:List UInt8):∀ x ∈ stL1 l,0 ≤ x ∧ x ≤ l.length:=by
 intro x hx
 unfold stL1 at hx
 rw [List.mem_append,List.mem_singleton] at hx
 rcases hx with hx | hx
 ·have:=begL_lt l x hx;omega
 ·omega
theorem stL1_get (l:List UInt8) (i:Nat) (hi:i < (stL1 l).length):0 ≤ (stL1 l).getD i 0 ∧ (stL1 l).getD i 0 ≤ l.length:=by
 rw [List.getD_eq_getElem?_getD,List.getElem?_eq_getElem hi]
 exact stL1_bd l _ (List.getElem_mem hi)
theorem stL1_step (l:List UInt8) (i:Nat) (hi:i < (begL l).length):(stL1 l).getD i 0 < (stL1 l).getD (i + 1) 0:=by
 have h1:i < (stL1 l).length:=by rw [stL1_length];omega
 have h2:i + 1 < (stL1 l).length:=by rw [stL1_length];omega
 rw [List.getD_eq_getElem?_getD,List.getElem?_eq_getElem h1,List.getD_eq_getElem?_getD,List.getElem?_eq_getElem h2]
 exact (List.pairwise_iff_getElem.1 (stL1_rise l)) i (i + 1) h1 h2 (by omega)
theorem jn_st0 (k:Int):jn st0 k = false:=by simp [jn,st0,pairB]
theorem begL_ne (l:List UInt8) (h:l ≠ []):∃ r,begL l = 0 :: r ∧ ∀ x ∈ r,0 < x:=by
 unfold begL
 rw [marks_cons l h,begF,jn_st0]
 refine ⟨_,rfl,fun x hx=>?_⟩
 have h1:=(mark_n l h).1
 have:=begF_bd _ _ _ x hx
 omega
theorem begL_zero (l:List UInt8):(begL l).length = 0 ↔ l = []:=by
 constructor
 ·intro h
  by_cases hl:l = []
  ·exact hl
  ·obtain ⟨r,hr,_⟩:=begL_ne l hl
   rw [hr] at h;simp at h
 ·rintro rfl;rfl
theorem stL1_zero (l:List UInt8) (h:l ≠ []):(stL1 l).getD 0 0 = 0:=by
 obtain ⟨r,hr,_⟩:=begL_ne l h
 unfold stL1;rw [hr];rfl
theorem stL1_last (l:List UInt8):(stL1 l).getD (begL l).length 0 = l.length:=by
 unfold stL1
 rw [List.getD_eq_getElem?_getD,List.getElem?_append_right (Nat.le_refl _),Nat.sub_self];rfl
theorem frsL_eq (l:List UInt8) (h:l ≠ []):frsL l = (stL1 l).getD 1 0:=by
 obtain ⟨r,hr,hp⟩:=begL_ne l h
 unfold frsL stL1
 rw [hr]
 cases r with
 | nil=>simp
 | cons x r =>
  have:=hp x (by simp)
  simp [this]
def oneB (l:List UInt8):Bool:=!l.isEmpty && (frsL l == l.length)
theorem oneB_eq (l:List UInt8):oneB l = decide ((begL l).length = 1):=by
 unfold oneB
 cases l with
 | nil=>rfl
 | cons c l =>
  have hne:c :: l ≠ []:=by simp
  obtain ⟨r,hr,hp⟩:=begL_ne (c :: l) hne
  have hf:=frsL_eq (c :: l) hne
  rw [hf]
  unfold stL1
  rw [hr]
  cases r with
  | nil=>simp
  | cons x r =>
   have:=begL_lt (c :: l) x (by rw [hr];simp)
   have h2:¬ x = ((c :: l).length:Int):=by omega
   simp only [List.cons_append,List.getD_cons_succ,List.getD_cons_zero]
   rw [beq_eq_false_iff_ne.2 h2]
   simp
def pc (s:ByteArray) (st:List Int) (i:Nat):ByteArray:=s.extract (st.getD i 0).toNat (st.getD (i + 1) 0).toNat
def pcs (s:ByteArray):List ByteArray:=(List.range (begL s.data.toList).length).map (pc s (stL1 s.data.toList))
theorem pcs_length (s:ByteArray):(pcs s).length = (begL s.data.toList).length:=by simp [pcs]
theorem pc_list (s:ByteArray) (st:List Int) (i:Nat):(pc s st i).data.toList = (s.data.toList.take (st.getD (i + 1) 0).toNat).drop (st.getD i 0).toNat:=by
 unfold pc
 rw [ByteArray.data_extract,Array.toList_extract,List.extract_eq_take_drop,List.drop_take]
/-! Where a text parts. -/
theorem stR_reset (r:List Nat) (k:Int) (h:jn (stR r) k = false):stp (stR r) k = stp st0 k:=by
 have hi:=stR_inv r
 generalize stR r = t at *
 obtain ⟨a,d,s,o⟩:=t
 simp only at hi
 unfold jn at h
 simp only [Bool.or_eq_false_iff,Bool.and_eq_false_iff] at h
 obtain ⟨⟨h1,h2⟩,h3⟩:=h
 unfold stp
 simp only [st0,Bool.false_and,Bool.or_false,Bool.not_false,Bool.and_true]
 have e4:d = true → k ≠ 4 ∧ k ≠ 5:=by
  intro hd
  have ha:=hi.1 hd
  constructor
  ·rintro rfl
   rcases ha with rfl | rfl <;> simp [pairB,alB] at h1
  ·rintro rfl
   rcases ha with rfl | rfl <;> simp [pairB,alB] at h1
 have e1:(d && decide (k = 4)) = false:=by
  cases d
  ·rfl
  ·simp [(e4 rfl).1]
 have e2:(d && decide (k = 5)) = false:=by
  cases d
  ·rfl
  ·simp [(e4 rfl).2]
 have e3:(decide (k = 6) && !o) = decide (k = 6):=by
  cases o
  ·simp
  ·simp only [Bool.true_eq_false,false_or,decide_eq_false_iff_not] at h3
   simp [h3]
 rw [e1,e2,e3]
 simp
theorem stMs_rev (ms:List (Int × Nat × Bool)):stMs ms = stR ((ms.map (·.1)).map cls).reverse:=stL_rev _
theorem begF_shift (t:St) (p q:Nat) (ms:List (Int × Nat × Bool)):begF t (p + q) ms = (begF t p ms).map (· + (q:Int)):=by
 induction ms generalizing t p with
 | nil=>rfl
 | cons m ms ih =>
  rw [begF,begF,List.map_append,← ih,show p + q + m.2.1 = p + m.2.1 + q from by omega]
  split <;> simp
theorem begL_part (a b:List UInt8) (hm:marks (a ++ b) = marks a ++ marks b) (hb:b ≠ []) (hj:jn (stMs (marks a)) (cls (mrk b).1) = false) :
  begL (a ++ b) = begL a ++ (begL b).map (· + (a.length:Int)):=by
 unfold begL
 rw [hm,begF_append,width_marks,Nat.zero_add]
 congr 1
 have h0:=begF_shift st0 0 a.length (marks b)
 rw [Nat.zero_add] at h0
 rw [← h0,marks_cons b hb,begF,begF,jn_st0]
 have hs:((marks a).map (·.1)).foldl (fun t c=>stp t (cls c)) st0 = stMs (marks a):=rfl
 rw [hs,hj]
 have hr:stp (stMs (marks a)) (cls (mrk b).1) = stp st0 (cls (mrk b).1):=by
  rw [stMs_rev] at hj ⊢
  exact stR_reset _ _ hj
 rw [hr]
theorem cut_right (A B:List UInt8) (x y:Int) (hx:0 ≤ x) (hy:0 ≤ y):((A ++ B).take (x + A.length).toNat).drop (y + A.length).toNat = (B.take x.toNat).drop y.toNat:=by
 rw [show (x + (A.length:Int)).toNat = A.length + x.toNat from by omega,show (y + (A.length:Int)).toNat = A.length + y.toNat from by omega]
 rw [List.take_length_add_append,List.drop_length_add_append]
theorem cut_left (A B:List UInt8) (x y:Int) (hx:x ≤ A.length):((A ++ B).take x.toNat).drop y.toNat = (A.take x.toNat).drop y.toNat:=by
 rw [List.take_append_of_le_length (by omega)]
set_option maxHeartbeats 1000000 in
theorem pcs_part (s t:ByteArray) (hm:marks (s.data.toList ++ t.data.toList) = marks s.data.toList ++ marks t.data.toList)
  (hj:t.data.toList ≠ [] → jn (stMs (marks s.data.toList)) (cls (mrk t.data.toList).1) = false):pcs (s ++ t) = pcs s ++ pcs t:=by
 have hd:(s ++ t).data.toList = s.data.toList ++ t.data.toList:=by rw [ByteArray.data_append,Array.toList_append]
 by_cases hb:t.data.toList = []
 ·have ht:s ++ t = s:=ba_ext (by rw [hd,hb,List.append_nil])
  have h0:pcs t = []:=by unfold pcs;rw [hb];rfl
  rw [ht,h0,List.append_nil]
 ·have hg:=begL_part _ _ hm hb (hj hb)
  have hst:stL1 (s ++ t).data.toList = begL s.data.toList ++ (stL1 t.data.toList).map (· + (s.data.toList.length:Int)):=by
   unfold stL1
   rw [hd,hg,List.map_append,List.append_assoc]
   simp [Int.add_comm]
  have hz:=stL1_zero t.data.toList hb
  have hlen:(stL1 t.data.toList).length = (begL t.data.toList).length + 1:=stL1_length _
  apply List.ext_getElem?
  intro i
  have hl:(pcs (s ++ t)).length = (pcs s ++ pcs t).length:=by
   rw [List.length_append,pcs_length,pcs_length,pcs_length,hd,hg];simp
  by_cases hi:i < (pcs (s ++ t)).length
  ·have hi':i < (begL (s ++ t).data.toList).length:=by rw [← pcs_length];exact hi
   have e1:(pcs (s ++ t))[i]? = some (pc (s ++ t) (stL1 (s ++ t).data.toList) i):=by
    unfold pcs
    rw [List.getElem?_map,List.getElem?_range hi'];rfl
   rw [e1]
   have hgn:(begL (s ++ t).data.toList).length = (begL s.data.toList).length + (begL t.data.toList).length:=by rw [hd,hg];simp
   have hsl:s.size = s.data.toList.length:=(size_list s).symm
   have key:∀ j,j < (stL1 t.data.toList).length → ((begL s.data.toList ++ (stL1 t.data.toList).map (· + (s.data.toList.length:Int))).getD ((begL s.data.toList).length + j) 0) = (stL1 t.data.toList).getD j 0 + s.data.toList.length:=by
    intro j hj
    rw [List.getD_eq_getElem?_getD,List.getElem?_append_right (by omega),Nat.add_sub_cancel_left,List.getElem?_map,List.getElem?_eq_getElem hj,List.getD_eq_getElem?_getD,List.getElem?_eq_getElem hj]
    rfl
   by_cases his:i < (begL s.data.toList).length
   ·have e2:(pcs s ++ pcs t)[i]? = some (pc s (stL1 s.data.toList) i):=by
     rw [List.getElem?_append_left (by rw [pcs_length];exact his)]
     unfold pcs
     rw [List.getElem?_map,List.getElem?_range his];rfl
    rw [e2]
    congr 1
    apply ba_ext
    rw [pc_list,pc_list,hst,hd]
    have f1:(begL s.data.toList ++ (stL1 t.data.toList).map (· + (s.data.toList.length:Int))).getD i 0 = (stL1 s.data.toList).getD i 0:=by
     unfold stL1
     rw [List.getD_eq_getElem?_getD,List.getElem?_append_left his,List.getD_eq_getElem?_getD,List.getElem?_append_left his]
    have f2:(begL s.data.toList ++ (stL1 t.data.toList).map (· + (s.data.toList.length:Int))).getD (i + 1) 0 = (stL1 s.data.toList).getD (i + 1) 0:=by
     by_cases h1:i + 1 < (begL s.data.toList).length
     ·unfold stL1
      rw [List.getD_eq_getElem?_getD,List.getElem?_append_left h1,List.getD_eq_getElem?_getD,List.getElem?_append_left h1]
     ·have h2:i + 1 = (begL s.data.toList).length:=by omega
      have:=key 0 (by omega)
      rw [Nat.add_zero] at this
      rw [h2,this,stL1_last,hz];omega
    rw [f1,f2]
    have b:=stL1_get s.data.toList (i + 1) (by rw [stL1_length];omega)
    exact cut_left _ _ _ _ b.2
   ·obtain ⟨j,rfl⟩:∃ j,i = (begL s.data.toList).length + j:=⟨i - (begL s.data.toList).length,by omega⟩
    have hjt:j < (begL t.data.toList).length:=by omega
    have e2:(pcs s ++ pcs t)[(begL s.data.toList).length + j]? = some (pc t (stL1 t.data.toList) j):=by
     rw [List.getElem?_append_right (by rw [pcs_length];omega),pcs_length,Nat.add_sub_cancel_left]
     unfold pcs
     rw [List.getElem?_map,List.getElem?_range hjt];rfl
    rw [e2]
    congr 1
    apply ba_ext
    have b1:=stL1_get t.data.toList j (by omega)
    have b2:=stL1_get t.data.toList (j + 1) (by omega)
    rw [pc_list,pc_list,hst,hd,key j (by omega),show (begL s.data.toList).length + j + 1 = (begL s.data.toList).length + (j + 1) from by omega,key (j + 1) (by omega)]
    exact cut_right _ _ _ _ b2.1 b1.1
  ·rw [List.getElem?_eq_none (by omega),List.getElem?_eq_none (by omega)]
end Go.Proofs.YtghfdapfnoeanaaGreatDoor.Gm
