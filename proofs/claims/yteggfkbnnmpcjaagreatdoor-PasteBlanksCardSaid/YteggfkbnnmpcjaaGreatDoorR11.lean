/- What the systems' table, a map that the call makes, answers: Zero, which, Of, Names. (and more) -/
import Derived.Test.YteggfkbnnmpcjaaGreatDoorR05
import Derived.Test.YteggfkbnnmpcjaaGreatDoorR07
import Derived.Maps.OwnSet
import Derived.Maps.RangeWalk
import Derived.ArgAppend
import Derived.Laws.Rows
import Derived.Laws.EntriesVeiled
import Derived.Laws.ResultCell
import Derived.Shelf.Sort.Plain
import Derived.Sort.OwnSorted
set_option linter.all false
set_option maxRecDepth 100000
set_option maxHeartbeats 8000000
namespace Go.Proofs.YteggfkbnnmpcjaaGreatDoor
section
open Go.RowKit Go.Sort Go.Maps
namespace Sy
open Sm
theorem law9:Keyed Tryz.prog 9:=string_keyed Tryz.underlying9
theorem zeroI (w:World):(zeroValue 3).run Tryz.prog w = .ok (.int .i64 0) w:=by kernel_rfl
abbrev Mp (w:World) (b n:Nat) (D:DataW Unit):Prop:=w.ownsMap Tryz.prog 9 (plainElem Tryz.prog 3) b n D
theorem wf_small {v:Int} (h0:0 <= v) (h1:v < 1000000):(Lit.int .i64 v).wf = true:=by
 exact WalkArith.wf_i64 (by omega)
theorem put_own (w:World) {ops:Array Oper} {rest:List Oper} {o:Oper} {a:Act} {R:Exit -> Act -> World -> Prop}
  (hg:o.guard = none) (m x v:Operand) (hop:o.op = Op.insert 121 m x v) (b n:Nat) (D:DataW Unit)
  (hm:a.eval m = .map (some b)) (hown:Mp w b n D) (hn:n < 1000) (key:List UInt8) (val:Int) (hk:key.length < 1000) (hv0:0 <= val) (hv1:val < 1000000) (hx:a.eval x = .string ⟨key.toArray⟩) (hv:a.eval v = .int .i64 val)
  (hK:∀ w',Mp w' b (n + 1) (D.put (.string key) (.lit (.int .i64 val))) -> w.grownBy w' (some b) -> wpList Tryz.prog ops R rest (a.put o.dst undef) w') :
  wpList Tryz.prog ops R (o :: rest) a w:=by
 refine wpList_plain hg fun K' hK'=>?_;have hkey:keyOf Tryz.prog 9 (.string ⟨key.toArray⟩) = some (.string key):=by
  refine WideMaps.keyOf_string_mk Tryz.underlying9 (s:=⟨key.toArray⟩) ?_;show key.toArray.size <= maxLen;unfold maxLen;simp;omega
 obtain ⟨w',hrun,r1,r2⟩:=World.ownsMap.update hown law9 Tryz.underlying121 (by unfold maxLen;omega) hkey (plainElem_int Tryz.underlying3 (wf_small hv0 hv1));unfold Oper.wp;simp [execOp,hop,hm,hx,hv,hrun,Result.andThen];exact hK' _ _ (hK w' r1 r2)
theorem tab_put:(((((((((((((((((((((DataW.map []).put (.string [97,114,97,98]) (.lit (.int .i64 1632))).put (.string [97,114,97,98,101,120,116]) (.lit (.int .i64 1776))).put (.string [98,101,110,103]) (.lit (.int .i64 2534))).put (.string [100,101,118,97]) (.lit (.int .i64 2406))).put (.string [102,117,108,108,119,105,100,101]) (.lit (.int .i64 65296))).put (.string [103,117,106,114]) (.lit (.int .i64 2790))).put (.string [103,117,114,117]) (.lit (.int .i64 2662))).put (.string [107,104,109,114]) (.lit (.int .i64 6112))).put (.string [107,110,100,97]) (.lit (.int .i64 3302))).put (.string [108,97,111,111]) (.lit (.int .i64 3792))).put (.string [108,97,116,110]) (.lit (.int .i64 48))).put (.string [109,97,116,104,115,97,110,98]) (.lit (.int .i64 120812))).put (.string [109,108,121,109]) (.lit (.int .i64 3430))).put (.string [109,111,110,103]) (.lit (.int .i64 6160))).put (.string [109,121,109,114]) (.lit (.int .i64 4160))).put (.string [111,114,121,97]) (.lit (.int .i64 2918))).put (.string [116,97,109,108,100,101,99]) (.lit (.int .i64 3046))).put (.string [116,101,108,117]) (.lit (.int .i64 3174))).put (.string [116,104,97,105]) (.lit (.int .i64 3664))).put (.string [116,105,98,116]) (.lit (.int .i64 3872)):DataW Unit) = D0:=by kernel_rfl
theorem noughts_any (w:World) :
  Calls Tryz.prog 65 #[] w fun e w'=>e = .returned (.map (some w.heap.size)) /\ Mp w' w.heap.size 20 D0 /\ Q w w':=by
 have hmm:=@run_makeMap Tryz.prog;have h0:Mp (w.alloc (.map #[] 0)) w.heap.size 0 (.map []):=World.ownsMap_made _ _ _ _;have q0:Q w (w.alloc (.map #[] 0)):=(Q.refl _).alloc _;go_enter Tryz.func65,Tryz.ntmps65
 go_wp2_with (refine put_own _ rfl _ _ _ rfl _ 0 _ (by rfl) h0 (by omega) [97,114,97,98] 1632 (by decide) (by omega) (by omega) (by rfl) (by rfl) ?_)
 intro w1 h1 g1;have q1:=q0.grown g1 (fun k h=>by cases h;exact Nat.le_refl _);go_wp2_with (refine put_own _ rfl _ _ _ rfl _ 1 _ (by rfl) h1 (by omega) [97,114,97,98,101,120,116] 1776 (by decide) (by omega) (by omega) (by rfl) (by rfl) ?_)
 intro w2 h2 g2;have q2:=q1.grown g2 (fun k h=>by cases h;exact Nat.le_refl _);go_wp2_with (refine put_own _ rfl _ _ _ rfl _ 2 _ (by rfl) h2 (by omega) [98,101,110,103] 2534 (by decide) (by omega) (by omega) (by rfl) (by rfl) ?_)
 intro w3 h3 g3;have q3:=q2.grown g3 (fun k h=>by cases h;exact Nat.le_refl _);go_wp2_with (refine put_own _ rfl _ _ _ rfl _ 3 _ (by rfl) h3 (by omega) [100,101,118,97] 2406 (by decide) (by omega) (by omega) (by rfl) (by rfl) ?_)
 intro w4 h4 g4;have q4:=q3.grown g4 (fun k h=>by cases h;exact Nat.le_refl _);go_wp2_with (refine put_own _ rfl _ _ _ rfl _ 4 _ (by rfl) h4 (by omega) [102,117,108,108,119,105,100,101] 65296 (by decide) (by omega) (by omega) (by rfl) (by rfl) ?_)
 intro w5 h5 g5;have q5:=q4.grown g5 (fun k h=>by cases h;exact Nat.le_refl _);go_wp2_with (refine put_own _ rfl _ _ _ rfl _ 5 _ (by rfl) h5 (by omega) [103,117,106,114] 2790 (by decide) (by omega) (by omega) (by rfl) (by rfl) ?_)
 intro w6 h6 g6;have q6:=q5.grown g6 (fun k h=>by cases h;exact Nat.le_refl _);go_wp2_with (refine put_own _ rfl _ _ _ rfl _ 6 _ (by rfl) h6 (by omega) [103,117,114,117] 2662 (by decide) (by omega) (by omega) (by rfl) (by rfl) ?_)
 intro w7 h7 g7;have q7:=q6.grown g7 (fun k h=>by cases h;exact Nat.le_refl _);go_wp2_with (refine put_own _ rfl _ _ _ rfl _ 7 _ (by rfl) h7 (by omega) [107,104,109,114] 6112 (by decide) (by omega) (by omega) (by rfl) (by rfl) ?_)
 intro w8 h8 g8;have q8:=q7.grown g8 (fun k h=>by cases h;exact Nat.le_refl _);go_wp2_with (refine put_own _ rfl _ _ _ rfl _ 8 _ (by rfl) h8 (by omega) [107,110,100,97] 3302 (by decide) (by omega) (by omega) (by rfl) (by rfl) ?_)
 intro w9 h9 g9;have q9:=q8.grown g9 (fun k h=>by cases h;exact Nat.le_refl _);go_wp2_with (refine put_own _ rfl _ _ _ rfl _ 9 _ (by rfl) h9 (by omega) [108,97,111,111] 3792 (by decide) (by omega) (by omega) (by rfl) (by rfl) ?_)
 intro w10 h10 g10;have q10:=q9.grown g10 (fun k h=>by cases h;exact Nat.le_refl _);go_wp2_with (refine put_own _ rfl _ _ _ rfl _ 10 _ (by rfl) h10 (by omega) [108,97,116,110] 48 (by decide) (by omega) (by omega) (by rfl) (by rfl) ?_)
 intro w11 h11 g11;have q11:=q10.grown g11 (fun k h=>by cases h;exact Nat.le_refl _);go_wp2_with (refine put_own _ rfl _ _ _ rfl _ 11 _ (by rfl) h11 (by omega) [109,97,116,104,115,97,110,98] 120812 (by decide) (by omega) (by omega) (by rfl) (by rfl) ?_)
 intro w12 h12 g12;have q12:=q11.grown g12 (fun k h=>by cases h;exact Nat.le_refl _);go_wp2_with (refine put_own _ rfl _ _ _ rfl _ 12 _ (by rfl) h12 (by omega) [109,108,121,109] 3430 (by decide) (by omega) (by omega) (by rfl) (by rfl) ?_)
 intro w13 h13 g13;have q13:=q12.grown g13 (fun k h=>by cases h;exact Nat.le_refl _);go_wp2_with (refine put_own _ rfl _ _ _ rfl _ 13 _ (by rfl) h13 (by omega) [109,111,110,103] 6160 (by decide) (by omega) (by omega) (by rfl) (by rfl) ?_)
 intro w14 h14 g14;have q14:=q13.grown g14 (fun k h=>by cases h;exact Nat.le_refl _);go_wp2_with (refine put_own _ rfl _ _ _ rfl _ 14 _ (by rfl) h14 (by omega) [109,121,109,114] 4160 (by decide) (by omega) (by omega) (by rfl) (by rfl) ?_)
 intro w15 h15 g15;have q15:=q14.grown g15 (fun k h=>by cases h;exact Nat.le_refl _);go_wp2_with (refine put_own _ rfl _ _ _ rfl _ 15 _ (by rfl) h15 (by omega) [111,114,121,97] 2918 (by decide) (by omega) (by omega) (by rfl) (by rfl) ?_)
 intro w16 h16 g16;have q16:=q15.grown g16 (fun k h=>by cases h;exact Nat.le_refl _);go_wp2_with (refine put_own _ rfl _ _ _ rfl _ 16 _ (by rfl) h16 (by omega) [116,97,109,108,100,101,99] 3046 (by decide) (by omega) (by omega) (by rfl) (by rfl) ?_)
 intro w17 h17 g17;have q17:=q16.grown g17 (fun k h=>by cases h;exact Nat.le_refl _);go_wp2_with (refine put_own _ rfl _ _ _ rfl _ 17 _ (by rfl) h17 (by omega) [116,101,108,117] 3174 (by decide) (by omega) (by omega) (by rfl) (by rfl) ?_)
 intro w18 h18 g18;have q18:=q17.grown g18 (fun k h=>by cases h;exact Nat.le_refl _);go_wp2_with (refine put_own _ rfl _ _ _ rfl _ 18 _ (by rfl) h18 (by omega) [116,104,97,105] 3664 (by decide) (by omega) (by omega) (by rfl) (by rfl) ?_)
 intro w19 h19 g19;have q19:=q18.grown g19 (fun k h=>by cases h;exact Nat.le_refl _);go_wp2_with (refine put_own _ rfl _ _ _ rfl _ 19 _ (by rfl) h19 (by omega) [116,105,98,116] 3872 (by decide) (by omega) (by omega) (by rfl) (by rfl) ?_)
 intro w20 h20 g20;have q20:=q19.grown g20 (fun k h=>by cases h;exact Nat.le_refl _);go_wp2_with fail
 go_ret
 exact ⟨rfl,by rw [<- tab_put];exact h20,q20⟩
theorem keyS (x:ByteArray) (hx:x.size <= maxLen):keyOf Tryz.prog 9 (.string x) = some (.string x.data.toList):=WideMaps.keyOf_string_mk Tryz.underlying9 hx
theorem zero_some (x:ByteArray) (w:World) (hx:x.size <= maxLen) (h:nz x.data.toList ≠ -1) :
  Calls Tryz.prog 146 #[.string x] w fun e w'=>e = .returned (.tuple #[.int .i64 (nz x.data.toList),.int .i64 0]) /\ Q w w':=by
 have hh:Maps.has D0 (.string x.data.toList) = true:=by rw [D0_has];exact decide_eq_true h
 have ha:=D0_at x.data.toList (.lit (.int .i64 0)) h;have hk:=keyS x hx;generalize nz x.data.toList = z at *;have HH:=Hd hh;have HA:=Hd ha;clear hh ha h;go_enter Tryz.func146,Tryz.ntmps146
 go_wp2_with fail
 refine (noughts_any _).mono ?_;rintro e w1 ⟨rfl,hm,hq⟩;go_wp2_with (at_lookup;refine wpList_lookup_own_ok_int _ rfl _ _ 121 rfl 9 3 .i64 law9 Tryz.underlying121 Tryz.underlying3 (zeroI _) _ 20 D0 (by rfl) hm _ _ (by rfl) hk ?_)
 intro c hat hwc;obtain rfl:z = c:=by
  have h1:=HA.out;rw [hat] at h1;injection h1 with h1;injection h1 with _ h1
  exact h1.symm
 rw [HH.out];go_wp2_with fail
 go_ret2
 exact ⟨rfl,hq⟩
theorem zero_none (x:ByteArray) (w:World) (hx:x.size <= maxLen) (h:nz x.data.toList = -1) :
  Calls Tryz.prog 146 #[.string x] w fun e w'=>e = .returned (.tuple #[.int .i64 0,.int .i64 7]) /\ Q w w':=by
 have hh:Maps.has D0 (.string x.data.toList) = false:=by rw [D0_has];exact decide_eq_false (fun k=>k h)
 have hk:=keyS x hx;have HH:=Hd hh;clear hh h;go_enter Tryz.func146,Tryz.ntmps146
 go_wp2_with fail
 refine (noughts_any _).mono ?_;rintro e w1 ⟨rfl,hm,hq⟩;go_wp2_with (at_lookup;refine wpList_lookup_own_ok_int _ rfl _ _ 121 rfl 9 3 .i64 law9 Tryz.underlying121 Tryz.underlying3 (zeroI _) _ 20 D0 (by rfl) hm _ _ (by rfl) hk ?_)
 intro c hat hwc;rw [HH.out];go_wp2_with fail
 go_ret2
 exact ⟨rfl,hq⟩
theorem which_yes (z c:Int) (w:World) (hz:0 <= z /\ z <= 1000000) (h1:z <= c) (h2:c <= z + 9) :
  Calls Tryz.prog 66 #[.int .i64 z,.int .i64 c] w fun e w'=>e = .returned (.tuple #[.int .i64 (c - z),.bool true]) /\ w = w':=by
 go_enter Tryz.func66,Tryz.ntmps66
 go_wp2_with fail
 go_ret2
 exact ⟨rfl,rfl⟩
theorem which_no (z c:Int) (w:World) (hz:0 <= z /\ z <= 1000000) (h:¬ (z <= c /\ c <= z + 9)) :
  Calls Tryz.prog 66 #[.int .i64 z,.int .i64 c] w fun e w'=>e = .returned (.tuple #[.int .i64 0,.bool false]) /\ w = w':=by
 by_cases h1:z <= c
 ·have h2:z + 10 <= c:=by omega
  go_enter Tryz.func66,Tryz.ntmps66
  go_wp2_with fail
  go_ret2
  exact ⟨rfl,rfl⟩
 ·have h2:c < z:=by omega
  go_enter Tryz.func66,Tryz.ntmps66
  go_wp2_with fail
  go_ret2
  exact ⟨rfl,rfl⟩
theorem left_start (c:Int):∀ p ∈ tab,Maps.has D0 (.string p.1) = false -> ¬ (p.2 <= c /\ c <= p.2 + 9):=by
 intro p hp h;rw [D0_has] at h;have h1:=tab_nz p hp;have h2:=tab_ne p hp;rw [h1] at h;exact absurd h2 (of_decide_eq_false h)
theorem left_step {c:Int} {left:Lit -> Bool} (h:∀ p ∈ tab,left (.string p.1) = false -> ¬ (p.2 <= c /\ c <= p.2 + 9)) {x:List UInt8} {v:Int} (hm:(x,v) ∈ tab) (hn:¬ (v <= c /\ c <= v + 9)) :
  ∀ p ∈ tab,(left (.string p.1) && !(Lit.string p.1).sameKey (.string x)) = false -> ¬ (p.2 <= c /\ c <= p.2 + 9):=by
 intro p hp hl;by_cases hx:p.1 = x
 ·have h1:=tab_nz p hp
  have h2:=tab_nz _ hm;simp only at h2;rw [hx,h2] at h1;rw [<- h1];exact hn
 ·have hf:(Lit.string p.1).sameKey (.string x) = false:=by simp [Lit.sameKey,hx]
  rw [hf] at hl;exact h p hp (by simpa using hl)
theorem of_any (c:Int) (w:World) :
  Calls Tryz.prog 31 #[.int .i64 c] w fun e w'=>e = .returned (.tuple #[.string ⟨(ofC c).1.toArray⟩,.int .i64 (ofC c).2]) /\ Q w w':=by
 go_enter Tryz.func31,Tryz.ntmps31
 go_wp2_with fail
 refine (noughts_any _).mono ?_;rintro e w1 ⟨rfl,hm,hq1⟩;go_wp2_with (at_range;refine wpList_range_own _ rfl _ 121 rfl 9 3 law9 Tryz.underlying121 _ _ 20 _ (by rfl) hm ?_)
 intro w0 hrg0 hg0 hs0;go_wp2_with fail
 go_loopw [] (fun wr=>∃ (left:Lit -> Bool) (cnt:Nat),wr.ranges Tryz.prog 9 (plainElem Tryz.prog 3) w.heap.size w1.heap.size 20 D0 left cnt /\ (∀ p ∈ tab,left (.string p.1) = false -> ¬ (p.2 <= c /\ c <= p.2 + 9)) /\ Q w wr)
  (fun wr=>wr.rangeLeft w.heap.size w1.heap.size)
 case atStart=>exact ⟨_,_,hrg0,left_start c,hq1.grown hg0 (fun j h=>by cases h)⟩
 case round =>
  obtain ⟨left,cnt,hrg,hno,hq⟩:=hrel;go_wp2_with (at_next;refine wpList_next_ranges _ rfl _ rfl 9 law9 (plainElem Tryz.prog 3) encStr (Value.int .i64) (fun key kl hk=>by obtain ⟨x,hx,_⟩:=Maps.keyOf_str Tryz.underlying9 hk;exact ⟨x,hx⟩) (fun v y hv=>by obtain ⟨d,rfl,_⟩:=plainElem_int_inv Tryz.underlying3 hv;exact ⟨d,rfl⟩) _ _ 20 _ _ _ (by rfl) hrg ?_ ?_)
  ·intro hc0 hl0
   have HO:=Hd (ofC_none (fun p hp=>hno p hp (hl0 _)));clear hno hl0 hc0;go_wp2_with fail
   go_ret2
   rw [HO.out];exact ⟨rfl,hq⟩
  ·intro x v kl yd yp w2 cnt2 hkey hlk hv hat hrg2 hlt hg2 hs2 hen
   obtain ⟨x',ex,rfl,_⟩:=Maps.keyOf_str Tryz.underlying9 hkey;obtain rfl:x = x':=encStr_inj ex;obtain ⟨v',ev,hyv,_⟩:=plainElem_int_inv Tryz.underlying3 hv;obtain rfl:v = v':=by injection ev
   have hmem:(x,v) ∈ tab:=by
    refine D0_mem ?_;rw [hat];exact congrArg Prod.fst hyv
   have hb:=tab_bd _ hmem;simp only at hb;have hq2:Q w w2:=hq.grown hg2 (fun j h=>by cases h;exact hq1.le);clear hs2 hv hyv hat hlk hkey;by_cases hin:v <= c /\ c <= v + 9
   ·have HO:=Hd (ofC_mem hmem hin.1 hin.2)
    obtain ⟨h1,h2⟩:=hin;have hwh:=fun w=>which_yes v c w ⟨by omega,by omega⟩ h1 h2;clear hmem hno hb;go_wp2_with (go_at_call 66;refine (hwh _).mono ?_;rintro e w' ⟨rfl,rfl⟩)
    go_ret2
    rw [HO.out];exact ⟨rfl,hq2⟩
   ·have HN:=Hd (left_step hno hmem hin)
    have hwh:=fun w=>which_no v c w ⟨by omega,by omega⟩ hin;clear hmem hno hb hin;go_wp2_with (go_at_call 66;refine (hwh _).mono ?_;rintro e w' ⟨rfl,rfl⟩)
    go_roundw
    case rel=>exact ⟨_,cnt2,hrg2,HN.out,hq2⟩
    case measure=>rw [hrg2.left_eq,hrg.left_eq];exact hlt
end Sy
end
section
open Go.RowKit
namespace Dm
def BD (c:Int) (i:Nat) (zs:List Int):Prop:=∀ j,j < zs.length -> 0 <= zs.getD j 0 /\ zs.getD j 0 <= c + (if j < i then 9 else 0)
theorem BD.step {c:Int} {i:Nat} {zs:List Int} (h:BD c i zs) (d:Int) (hd:0 <= d /\ d <= 9) (hi:i < zs.length):BD c (i + 1) (zs.set i (zs.getD i 0 + d)):=by
 intro j hj;rw [List.length_set] at hj;rw [getD_set _ _ _ _ hi];have h1:=h j hj;have h2:=h i hi;by_cases hij:i = j
 ·subst hij
  rw [if_pos rfl,if_pos (by omega)];rw [if_neg (by omega)] at h2;omega
 ·rw [if_neg hij]
  by_cases hlt:j < i
  ·rw [if_pos hlt] at h1
   rw [if_pos (by omega)];exact h1
  ·rw [if_neg hlt] at h1
   rw [if_neg (by omega)];exact h1
theorem BD.next {c:Int} {i:Nat} {zs:List Int} (h:BD c i zs):BD (c + 9) 0 zs:=by
 intro j hj;have h1:=h j hj;rw [if_neg (by omega)];by_cases hlt:j < i
 ·rw [if_pos hlt] at h1;omega
 ·rw [if_neg hlt] at h1;omega
theorem BD.zeros (n:Nat):BD 0 0 (List.replicate n 0):=by
 intro j hj;rw [List.getD_eq_getElem?_getD,List.getElem?_replicate];rw [List.length_replicate] at hj;rw [if_pos hj];simp
end Dm
namespace Dw
end Dw
end
section
open Go.RowKit
namespace It
open Im
theorem elR:El 132 89:=⟨by kernel_rfl,by kernel_rfl⟩
structure Il where
 a:Option Addr
 n:Nat
 c:Nat
 zs:List E
def Il.v (s:Il):Value:=.slice s.a s.n s.c
end It
end
section
open Go.RowKit
namespace Ps
open Im
def Rf (u:World) (B:Nat) (k:Int) (v:Value):Prop:=∃ p,v = .func (.func 163) #[] #[.pointer (some ⟨p,0,none⟩)] /\ B <= p /\ Bk u p 48 [.int .i64 k]
theorem Rf.gap {u u':World} {B b:Nat} {k:Int} {v:Value} (h:Rf u B k v) (hg:Gap b (b + 1) u u') (hb:b < B):Rf u' B k v:=by
 obtain ⟨p,rfl,h1,h2⟩:=h;exact ⟨p,rfl,h1,bk_gap h2 hg (by omega)⟩
structure RB (u:World) (B b:Nat) (g:Bool) (v:Value) (a:List Int) (fd fs fg:Value):Prop where
 bk:Bk u b 87 [.bool g,v,fd,fs,fg]
 own:Own u B v a
 lt:b < B
theorem refuse_any (k:Int) (w:World):Calls Tryz.prog 130 #[.int .i64 k] w fun e w'=>e = .returned (.func (.func 163) #[] #[.pointer (some ⟨w.heap.size,0,none⟩)]) /\ Bk w' w.heap.size 48 [.int .i64 k] /\ Q w w':=by
 go_enter Tryz.func130,Tryz.ntmps130
 go_wp2_with fail
 go_ret
 exact ⟨rfl,Bk.new _ _ _,(Q.refl _).alloc _⟩
theorem refused_any (k x:Int) (p:Nat) (w:World) (h:Bk w p 48 [.int .i64 k]):Calls Tryz.prog 163 #[.int .i64 x,.pointer (some ⟨p,0,none⟩)] w fun e w'=>e = .returned (.int .i64 k) /\ w' = w:=by
 have c0:=h.cell 0 rfl;clear h;go_enter Tryz.func163,Tryz.ntmps163
 go_wp2_with fail
 go_ret
 exact ⟨rfl,rfl⟩
theorem take_any (B b:Nat) (g:Bool) (v:Value) (a:List Int) (fd fs fg:Value) (k:Int) (w1 u:World) (hB:w1.heap.size = B) (h:RB u B b g v a fd fs fg) (hg:Gap b (b + 1) w1 u) (hl:a.length < 1000000) :
  Calls Tryz.prog 74 #[.pointer (some ⟨b,0,none⟩),.int .i64 k] u fun e u'=>∃ v',e = .returned (.int .i64 0) /\ RB u' B b g v' (a ++ [k]) fd fs fg /\ Gap b (b + 1) w1 u' /\ ∀ n x,Rf u B n x -> Rf u' B n x:=by
 obtain ⟨hbk,hown,hlt⟩:=h;have c1:=hbk.cell 1 rfl;have hBu:B <= u.heap.size:=by have:=hg.size;omega
 have hlen:a.length < 1099511627776:=by omega
 have hall:=hown.cells;have hblt:=hown.lt;have HBK:=Hd hbk;have HG:=Hd hg;have HA:=Hd (show ∀ n x,Rf u B n x -> ∀ y,v.ownBlock = some y -> ∀ p,x = .func (.func 163) #[] #[.pointer (some ⟨p,0,none⟩)] -> Bk u p 48 [.int .i64 n] -> y ≠ p from fun n x _ y hy p _ hp e=>by
  obtain ⟨cur,hc⟩:=hall y hy;unfold Bk at hp;rw [e,hp] at hc;simp at hc)
 obtain ⟨a0,c0,rfl⟩:=hown.shape;clear hall hbk hg;go_enter Tryz.func74,Tryz.ntmps74
 go_wp2_with (at_builtin;refine push_int hown rfl _ _ rfl _ (by rfl) (by rfl) hlen hBu ?_)
 intro v' u2 hown2 hgrow _;have hb2:Bk u2 b 87 [.bool g,.slice a0 a.length c0,fd,fs,fg]:=by
  unfold Bk;rw [hgrow.block b HBK.out.lt (fun e=>by have:=(hblt b e.symm).1;omega)];exact HBK.out
 have d1:=hb2.cell 1 rfl;have d2:=hb2.free 1;have HB2:=Hd hb2;have HW:=Hd hgrow;obtain ⟨a1,c2,hv⟩:=hown2.shape;rw [show (a ++ [k]).length = a.length + 1 by simp] at hv;subst hv;have HO2:=Hd hown2;clear hb2 hown2 hgrow hown c1;go_wp2_with fail
 go_ret
 refine ⟨_,rfl,⟨HB2.out.set 1 _,Own.same HO2.out (fun y hy=>heap_setCell_other _ _ _ _ (by have:=(HO2.out.lt y hy).1;show y ≠ b;omega)),hlt⟩,?_,?_⟩
 ·refine (Gap_grow HG.out HW.out (fun y hy=>.inr (by rw [hB];exact (hblt y hy).1))).trans ?_
  exact Gap.setCell _ _ _ _ _ _ (Nat.le_refl _) (Nat.lt_succ_self _)
 ·intro n x hx
  obtain ⟨p,rfl,h1,h2⟩:=id hx;refine ⟨p,rfl,h1,?_⟩;unfold Bk;rw [heap_setCell_other _ _ _ _ (by show p ≠ b;omega),HW.out.block p h2.lt (fun e=>HA.out n _ hx p e.symm p rfl h2 rfl)];exact h2
theorem sep_any (B b:Nat) (g:Bool) (v:Value) (a:List Int) (fd fs fg:Value) (k:Int) (w1 u:World) (hB:w1.heap.size = B) (h:RB u B b g v a fd fs fg) (hg:Gap b (b + 1) w1 u) (hl:a.length < 1000000) :
  Calls Tryz.prog 75 #[.pointer (some ⟨b,0,none⟩),.int .i64 k] u fun e u'=>∃ v' x,e = .returned (.int .i64 0) /\ RB u' B b g v' (a ++ [k]) fd x fg /\ Rf u' B 6 x /\ Gap b (b + 1) w1 u' /\ ∀ n x,Rf u B n x -> Rf u' B n x:=by
 have HH:=Hd h;have HG:=Hd hg;have hlt:=h.lt;clear h hg;go_enter Tryz.func75,Tryz.ntmps75
 go_wp2_with fail
 refine (refuse_any _ _).mono ?_;rintro e u1 ⟨rfl,hr,hq⟩;have hb1:=HH.out.bk.q hq;have d1:=hb1.cell 3 rfl;have d2:=hb1.free 3;have hx1:Rf u1 B 6 (.func (.func 163) #[] #[.pointer (some ⟨u.heap.size,0,none⟩)]):=⟨_,rfl,by have:=HG.out.size;omega,hr⟩;have HX1:=Hd hx1;have HB1:=Hd hb1;have HQ:=Hd hq;have hO1:=HH.out.own.q hq;have HO1:=Hd hO1;have HG1:=Hd (HG.out.trans (hq.gap b (b + 1)));clear hr hq hb1 hx1 hO1;generalize u.heap.size = p0 at *;obtain ⟨u2,hu2⟩:∃ z,z = u1.setCell ⟨b,3,none⟩ (.func (.func 163) #[] #[.pointer (some ⟨p0,0,none⟩)]):=⟨_,rfl⟩;have hs2:Gap b (b + 1) u1 u2:=by rw [hu2];exact Gap.setCell _ _ _ _ _ _ (Nat.le_refl _) (Nat.lt_succ_self _)
 have hrb:RB u2 B b g v a fd (.func (.func 163) #[] #[.pointer (some ⟨p0,0,none⟩)]) fg:=⟨by rw [hu2];exact HB1.out.set 3 _,by rw [hu2];exact Own.same HO1.out (fun y hy=>heap_setCell_other _ _ _ _ (by have:=(HO1.out.lt y hy).1;show y ≠ b;omega)),hlt⟩;have HT:=Hd (take_any B b g v a fd (.func (.func 163) #[] #[.pointer (some ⟨p0,0,none⟩)]) fg k w1 u2 hB hrb (HG1.out.trans hs2) hl);have HX2:=Hd (HX1.out.gap hs2 hlt);have HP:=Hd (fun n x (hx:Rf u B n x)=>(show Rf u1 B n x from by obtain ⟨p,rfl,h1,h2⟩:=hx;exact ⟨p,rfl,h1,h2.q HQ.out⟩).gap hs2 hlt);clear hrb hs2;go_upto_region 2 with fail
 rw [<- hu2];clear hu2;go_wp2_with fail
 refine HT.out.mono ?_;rintro e u3 ⟨v',rfl,h1,h2,h3⟩;have H1:=Hd h1;have H2:=Hd h2;have H3:=Hd h3;clear h1 h2 h3;go_wp2_with fail
 go_ret
 exact ⟨_,_,rfl,H1.out,H3.out _ _ HX2.out,H2.out,fun n x hx=>H3.out _ _ (HP.out n x hx)⟩
theorem gap1 (b i:Nat) (x:Value) (u:World):Gap b (b + 1) u (u.setCell ⟨b,i,none⟩ x):=Gap.setCell _ _ _ _ _ _ (Nat.le_refl _) (Nat.lt_succ_self _)
theorem own_past {u:World} {B b:Nat} {v:Value} {a:List Int} (h:Own u B v a) (hb:b < B) (i:Nat) (x:Value):Own (u.setCell ⟨b,i,none⟩ x) B v a :=
 Own.same h (fun y hy=>heap_setCell_other _ _ _ _ (by have:=(h.lt y hy).1;show y ≠ b;omega))
theorem RB.s0 {u:World} {B b:Nat} {g:Bool} {v:Value} {a:List Int} {fd fs fg:Value} (h:RB u B b g v a fd fs fg) (x:Bool):RB (u.setCell ⟨b,0,none⟩ (.bool x)) B b x v a fd fs fg:=⟨h.bk.set 0 _,own_past h.own h.lt _ _,h.lt⟩
theorem RB.s2 {u:World} {B b:Nat} {g:Bool} {v:Value} {a:List Int} {fd fs fg:Value} (h:RB u B b g v a fd fs fg) (x:Value):RB (u.setCell ⟨b,2,none⟩ x) B b g v a x fs fg:=⟨h.bk.set 2 _,own_past h.own h.lt _ _,h.lt⟩
theorem RB.s3 {u:World} {B b:Nat} {g:Bool} {v:Value} {a:List Int} {fd fs fg:Value} (h:RB u B b g v a fd fs fg) (x:Value):RB (u.setCell ⟨b,3,none⟩ x) B b g v a fd x fg:=⟨h.bk.set 3 _,own_past h.own h.lt _ _,h.lt⟩
theorem RB.s4 {u:World} {B b:Nat} {g:Bool} {v:Value} {a:List Int} {fd fs fg:Value} (h:RB u B b g v a fd fs fg) (x:Value):RB (u.setCell ⟨b,4,none⟩ x) B b g v a fd fs x:=⟨h.bk.set 4 _,own_past h.own h.lt _ _,h.lt⟩
theorem RB.q {u u':World} {B b:Nat} {g:Bool} {v:Value} {a:List Int} {fd fs fg:Value} (h:RB u B b g v a fd fs fg) (q:Q u u'):RB u' B b g v a fd fs fg:=⟨h.bk.q q,h.own.q q,h.lt⟩
theorem Rf.q {u u':World} {B:Nat} {k:Int} {v:Value} (h:Rf u B k v) (q:Q u u'):Rf u' B k v:=by
 obtain ⟨p,rfl,h1,h2⟩:=h;exact ⟨p,rfl,h1,h2.q q⟩
theorem sign_any (B b:Nat) (g:Bool) (v:Value) (a:List Int) (fd fs fg:Value) (k:Int) (w1 u:World) (hB:w1.heap.size = B) (h:RB u B b g v a fd fs fg) (hg:Gap b (b + 1) w1 u) :
  Calls Tryz.prog 76 #[.pointer (some ⟨b,0,none⟩),.int .i64 k] u fun e u'=>∃ x,e = .returned (.int .i64 0) /\ RB u' B b true v a (if 0 < a.length then x else fd) (if 0 < a.length then x else fs) x /\ Rf u' B 5 x /\ Gap b (b + 1) w1 u' /\ ∀ n x,Rf u B n x -> Rf u' B n x:=by
 obtain ⟨u1,hu1⟩:∃ z,z = u.setCell ⟨b,0,none⟩ (.bool true):=⟨_,rfl⟩;have hb1:RB u1 B b true v a fd fs fg:=by rw [hu1];exact h.s0 true
 have hg1:Gap b (b + 1) u u1:=by rw [hu1];exact gap1 _ _ _ _
 have HB1:=Hd hb1;have HG1:=Hd (hg.trans hg1);have HP1:=Hd (fun n x (hx:Rf u B n x)=>hx.gap hg1 h.lt);have hlt:=h.lt;obtain ⟨a0,c0,rfl⟩:=h.own.shape;have c00:=h.bk.cell 0 rfl;have f00:=h.bk.free 0;clear h hg hb1 hg1;go_enter Tryz.func76,Tryz.ntmps76
 go_upto_region 2 with fail
 rw [<- hu1];clear hu1 c00 f00;go_wp2_with fail
 refine (refuse_any _ _).mono ?_;rintro e u2 ⟨rfl,hr,hq⟩;have hx2:Rf u2 B 5 (.func (.func 163) #[] #[.pointer (some ⟨u1.heap.size,0,none⟩)]):=⟨_,rfl,by have:=HG1.out.size;omega,hr⟩;have hb2:=HB1.out.q hq;have hp2:=fun n x hx=>(HP1.out n x hx).q hq;have hg2:=HG1.out.trans (hq.gap b (b + 1));have d4:=hb2.bk.cell 4 rfl;have f4:=hb2.bk.free 4;generalize u1.heap.size = p0 at *;obtain ⟨u3,hu3⟩:∃ z,z = u2.setCell ⟨b,4,none⟩ (.func (.func 163) #[] #[.pointer (some ⟨p0,0,none⟩)]):=⟨_,rfl⟩;have hs3:Gap b (b + 1) u2 u3:=by rw [hu3];exact gap1 _ _ _ _
 have hb3:RB u3 B b true (.slice a0 a.length c0) a fd fs (.func (.func 163) #[] #[.pointer (some ⟨p0,0,none⟩)]):=by rw [hu3];exact hb2.s4 _
 have HX3:=Hd (hx2.gap hs3 hlt);have HP3:=Hd (fun n x hx=>(hp2 n x hx).gap hs3 hlt);have HG3:=Hd (hg2.trans hs3);have HB3:=Hd hb3;clear hr hq hx2 hb2 hp2 hg2 hs3 HB1 HP1 HG1;go_upto_region 3 with fail
 rw [<- hu3];clear hu3 d4 f4;have e1:=hb3.bk.cell 1 rfl;have e4:=hb3.bk.cell 4 rfl;have e2:=hb3.bk.cell 2 rfl;have e3:=hb3.bk.cell 3 rfl;have g2:=hb3.bk.free 2;have g3:=hb3.bk.free 3;clear hb3;by_cases hl:0 < a.length
 ·have HL:=Hd hl
  obtain ⟨n,hn⟩:∃ n,n = a.length:=⟨_,rfl⟩;rw [<- hn] at e1 hl;have HN:=Hd hn;clear hn;have hl2:(0:Int) < n:=by omega
  go_wp2_with fail
  go_region
  go_wp2_with fail
  go_ret
  have D:=fun u:World=>(Q.refl u).drew;exact ⟨rfl,_,(((HB3.out.s2 _).s3 _).q (D _)),((HX3.out.gap (gap1 _ _ _ _) hlt).gap (gap1 _ _ _ _) hlt).q (D _),((HG3.out.trans (gap1 _ _ _ _)).trans (gap1 _ _ _ _)).trans ((D _).gap _ _),fun n x hx=>((((HP3.out n x hx).gap (gap1 _ _ _ _) hlt).gap (gap1 _ _ _ _) hlt).q (D _))⟩
 ·have HL:=Hd hl
  have hn:a.length = 0:=by omega
  rw [hn] at e1;go_wp2_with fail
  go_ret
  exact ⟨rfl,_,by rw [hn] at HB3;exact HB3.out,HX3.out,HG3.out,HP3.out⟩
theorem next_none (b:Nat) (u:World):Calls Tryz.prog 43 #[.pointer (some ⟨b,0,none⟩),.int .i64 (-1)] u fun e u'=>e = .returned (.int .i64 2) /\ u' = u:=by
 go_enter Tryz.func43,Tryz.ntmps43
 go_wp2_with fail
 go_ret
 exact ⟨rfl,rfl⟩
theorem next_out (b:Nat) (u:World):Calls Tryz.prog 43 #[.pointer (some ⟨b,0,none⟩),.int .i64 11] u fun e u'=>e = .returned (.int .i64 0) /\ u' = u:=by
 go_enter Tryz.func43,Tryz.ntmps43
 go_wp2_with fail
 go_ret
 exact ⟨rfl,rfl⟩
theorem next_sign (b:Nat) (u:World) (S:Int -> World -> Prop) (c4:u.cell? ⟨b,4,none⟩ = some (.func (.func 76) #[.pointer (some ⟨b,0,none⟩)] #[])) (HC:Hid (Calls Tryz.prog 76 #[.pointer (some ⟨b,0,none⟩),.int .i64 12] u fun e u'=>∃ er,e = .returned (.int .i64 er) /\ S er u')) :
  Calls Tryz.prog 43 #[.pointer (some ⟨b,0,none⟩),.int .i64 12] u fun e u'=>∃ er,e = .returned (.int .i64 er) /\ S er u':=by
 go_enter Tryz.func43,Tryz.ntmps43
 go_wp2_with fail
 refine HC.out.mono ?_;rintro e u1 ⟨er,rfl,hS⟩;go_wp2_with fail
 go_ret
 exact ⟨_,rfl,hS⟩
theorem next_signR (b:Nat) (p:Nat) (u:World) (S:Int -> World -> Prop) (c4:u.cell? ⟨b,4,none⟩ = some (.func (.func 163) #[] #[.pointer (some ⟨p,0,none⟩)])) (HC:Hid (Calls Tryz.prog 163 #[.int .i64 12,.pointer (some ⟨p,0,none⟩)] u fun e u'=>∃ er,e = .returned (.int .i64 er) /\ S er u')) :
  Calls Tryz.prog 43 #[.pointer (some ⟨b,0,none⟩),.int .i64 12] u fun e u'=>∃ er,e = .returned (.int .i64 er) /\ S er u':=by
 go_enter Tryz.func43,Tryz.ntmps43
 go_wp2_with fail
 refine HC.out.mono ?_;rintro e u1 ⟨er,rfl,hS⟩;go_wp2_with fail
 go_ret
 exact ⟨_,rfl,hS⟩
theorem next_sep (b:Nat) (u:World) (S:Int -> World -> Prop) (c3:u.cell? ⟨b,3,none⟩ = some (.func (.func 75) #[.pointer (some ⟨b,0,none⟩)] #[])) (HC:Hid (Calls Tryz.prog 75 #[.pointer (some ⟨b,0,none⟩),.int .i64 10] u fun e u'=>∃ er,e = .returned (.int .i64 er) /\ S er u')) :
  Calls Tryz.prog 43 #[.pointer (some ⟨b,0,none⟩),.int .i64 10] u fun e u'=>∃ er,e = .returned (.int .i64 er) /\ S er u':=by
 go_enter Tryz.func43,Tryz.ntmps43
 go_wp2_with fail
 refine HC.out.mono ?_;rintro e u1 ⟨er,rfl,hS⟩;go_wp2_with fail
 go_ret
 exact ⟨_,rfl,hS⟩
theorem next_sepR (b:Nat) (p:Nat) (u:World) (S:Int -> World -> Prop) (c3:u.cell? ⟨b,3,none⟩ = some (.func (.func 163) #[] #[.pointer (some ⟨p,0,none⟩)])) (HC:Hid (Calls Tryz.prog 163 #[.int .i64 10,.pointer (some ⟨p,0,none⟩)] u fun e u'=>∃ er,e = .returned (.int .i64 er) /\ S er u')) :
  Calls Tryz.prog 43 #[.pointer (some ⟨b,0,none⟩),.int .i64 10] u fun e u'=>∃ er,e = .returned (.int .i64 er) /\ S er u':=by
 go_enter Tryz.func43,Tryz.ntmps43
 go_wp2_with fail
 refine HC.out.mono ?_;rintro e u1 ⟨er,rfl,hS⟩;go_wp2_with fail
 go_ret
 exact ⟨_,rfl,hS⟩
theorem next_dig (b:Nat) (k:Int) (k1:¬ k = -1) (k2:¬ k = 11) (k3:¬ k = 12) (k4:¬ k = 10) (u:World) (S:Int -> World -> Prop) (c2:u.cell? ⟨b,2,none⟩ = some (.func (.func 74) #[.pointer (some ⟨b,0,none⟩)] #[])) (HC:Hid (Calls Tryz.prog 74 #[.pointer (some ⟨b,0,none⟩),.int .i64 k] u fun e u'=>∃ er,e = .returned (.int .i64 er) /\ S er u')) :
  Calls Tryz.prog 43 #[.pointer (some ⟨b,0,none⟩),.int .i64 k] u fun e u'=>∃ er,e = .returned (.int .i64 er) /\ S er u':=by
 go_enter Tryz.func43,Tryz.ntmps43
 go_wp2_with fail
 refine HC.out.mono ?_;rintro e u1 ⟨er,rfl,hS⟩;go_wp2_with fail
 go_ret
 exact ⟨_,rfl,hS⟩
theorem next_digR (b:Nat) (p:Nat) (k:Int) (k1:¬ k = -1) (k2:¬ k = 11) (k3:¬ k = 12) (k4:¬ k = 10) (u:World) (S:Int -> World -> Prop) (c2:u.cell? ⟨b,2,none⟩ = some (.func (.func 163) #[] #[.pointer (some ⟨p,0,none⟩)])) (HC:Hid (Calls Tryz.prog 163 #[.int .i64 k,.pointer (some ⟨p,0,none⟩)] u fun e u'=>∃ er,e = .returned (.int .i64 er) /\ S er u')) :
  Calls Tryz.prog 43 #[.pointer (some ⟨b,0,none⟩),.int .i64 k] u fun e u'=>∃ er,e = .returned (.int .i64 er) /\ S er u':=by
 go_enter Tryz.func43,Tryz.ntmps43
 go_wp2_with fail
 refine HC.out.mono ?_;rintro e u1 ⟨er,rfl,hS⟩;go_wp2_with fail
 go_ret
 exact ⟨_,rfl,hS⟩
end Ps
end
section
open Go.RowKit Um
theorem join_any (v:Value) (xs:List Int) (w:World) (hv:Lst w v xs) (hx:xs.length <= 1073741824) :
  Calls Tryz.prog 78 #[v] w fun e w'=>e = .returned (.string ⟨(joinL xs).toArray⟩) /\ Q w w':=by
 obtain ⟨a,c,rfl⟩:=hv.shape;have hfr:=Bl.Is.fresh w;go_enter Tryz.func78,Tryz.ntmps78
 go_wp2_with fail
 go_loopw [8] (fun i wr=>∃ k:Nat,i = .int .i64 k /\ k <= xs.length /\ Bl.Is w.heap.size w.heap.size (Lib.byteCells (joinL (xs.take k))) wr /\ Q w wr) (fun i _=>xs.length - (intOf i).toNat)
 case atStart=>exact ⟨0,rfl,by omega,hfr,(Q.refl _).alloc _⟩
 case round =>
  obtain ⟨k,rfl,hk,hI,hq⟩:=hrel;have hjl:=joinL_length (xs.take k);have hjk:(xs.take k).length <= k:=List.length_take_le _ _;have hqs:=hq.le;by_cases hlt:k < xs.length
  ·rcases hv with ⟨rfl,_⟩ | ⟨g,off,cap,hvv,hg,_,_,hca⟩
   ·simp at hlt
   cases hvv;have c1:wr.cell? ⟨g,off + k,none⟩ = some (.int .i64 (xs.getD k 0)):=(World.cell?_of_block (w:=w) (hq.block hg)).trans (hca k hlt);have hjt:=joinL_take xs k hlt;generalize hgx:xs.getD k 0 = p at c1 hjt;have HX:=Hd hgx;have HJ:=Hd hjt;clear hgx hjt hfr;cases hvp:vld p
   ·have hm:=fun w=>may_any p w
    rw [hvp] at hm;have HM:=Hd hm;have h1:=Hd (one_spoilt hvp);have hz:=encB_size 65533;clear hm hvp;go_wp2_with (first
     | (go_at_call 131;refine (HM.out _).mono ?_;rintro e w' ⟨rfl,rfl⟩)
     | (go_at_call 132;refine (encode_any _ _).mono ?_;rintro e w' ⟨rfl,rfl⟩)
     | (go_at_call 47;refine (Bl.write_any _ _ _ _ _ hI (by rw [Bl.cells_length];omega) hqs).mono ?_;rintro e w' ⟨rfl,hI2,hb2,_⟩))
    exact ⟨⟨k + 1,by go_num,by omega,by rw [HJ.out,h1.out];exact hI2.write,Below.trans hq hb2⟩,by simp [intOf];omega⟩
   ·have hm:=fun w=>may_any p w
    rw [hvp] at hm;have HM:=Hd hm;have h1:=Hd (one_enc hvp);have hz:=encB_size p;clear hm hvp;go_wp2_with (first
     | (go_at_call 131;refine (HM.out _).mono ?_;rintro e w' ⟨rfl,rfl⟩)
     | (go_at_call 132;refine (encode_any _ _).mono ?_;rintro e w' ⟨rfl,rfl⟩)
     | (go_at_call 47;refine (Bl.write_any _ _ _ _ _ hI (by rw [Bl.cells_length];omega) hqs).mono ?_;rintro e w' ⟨rfl,hI2,hb2,_⟩))
    exact ⟨⟨k + 1,by go_num,by omega,by rw [HJ.out,h1.out];exact hI2.write,Below.trans hq hb2⟩,by simp [intOf];omega⟩
  ·have hke:xs.take k = xs:=List.take_of_length_le (by omega)
   rw [hke] at hI;clear hke hjk;go_wp2_with (go_at_call 49;refine (Bl.done_any _ _ _ _ hI hqs).mono ?_;rintro e w' ⟨rfl,hb2⟩)
   go_ret
   exact ⟨rfl,Below.trans hq hb2⟩
theorem clean_any (s:ByteArray) (w:World) (hm:s.size <= 1073741824) :
  Calls Tryz.prog 42 #[.string s] w fun e w'=>e = .returned (.string ⟨(joinL (allL s.data.toList)).toArray⟩) /\ Q w w':=by
 have hml:=marks_length s.data.toList;rw [size_list] at hml;have hal:(allL s.data.toList).length <= 1073741824:=by unfold allL;simp;omega
 clear hml;go_enter Tryz.func42,Tryz.ntmps42
 go_wp2_with fail
 refine (all_any _ _ hm).mono ?_;rintro e w1 ⟨v,rfl,hv,hq1⟩;have hl:=hv.lst;go_wp2_with (go_at_call 78;refine (join_any _ _ _ hl hal).mono ?_;rintro e w' ⟨rfl,hq2⟩)
 go_ret
 exact ⟨rfl,hq1.trans hq2⟩
end
section
open Go.RowKit
namespace Tm
def same (a b:T):Bool:=a.g == b.g && a.s == b.s && decide (a.i = b.i) && decide (a.f = b.f)
end Tm
namespace Tp
end Tp
end
end Go.Proofs.YteggfkbnnmpcjaaGreatDoor
