/- A view: the number whose stop is nearest to a byte, looked for by halves; the text between two stops. (and more) -/
import Derived.Test.YtghfdapfnoeanaaGreatDoorR00
import Derived.Test.YtghfdapfnoeanaaGreatDoorR02
import Derived.Test.YtghfdapfnoeanaaGreatDoorR01
import Derived.Test.YtghfdapfnoeanaaGreatDoorR08
import Derived.Test.YtghfdapfnoeanaaGreatDoorR12
import Derived.Test.YtghfdapfnoeanaaGreatDoorR04
import Derived.Test.YtghfdapfnoeanaaGreatDoorR39
import Derived.Test.YtghfdapfnoeanaaGreatDoorR40
import Derived.Test.YtghfdapfnoeanaaGreatDoorRows
import Derived.WalkLawsBesides
import Derived.Deep.QuietTactic
import Derived.BigQuiet
set_option linter.unusedVariables false
set_option linter.unusedSimpArgs false
namespace Go.Proofs.YtghfdapfnoeanaaGreatDoor
open Go.RowKit
namespace Vw
open Um Im Vm
theorem half (p q:Nat):((p:Int) + (q:Int) + 1).tdiv 2 = (((p + q + 1) / 2:Nat):Int):=by
 rw [Int.tdiv_eq_ediv_of_nonneg (by omega)]
 omega
set_option maxRecDepth 100000 in
set_option maxHeartbeats 1600000 in
theorem great_any (B b:Nat) (l:List E) (s:Nat → Nat) (N:Nat) (x:Int) (w:World) (h:VB w B b l s N) (hN:N ≤ 1000000) (hs:∀ i j,i < j → j ≤ N → s i < s j) :
  Calls Tryz.prog 38 #[.int .i64 N,.int .i64 x,.func (.func 11) #[.pointer (some ⟨b,0,none⟩)] #[]] w fun e w'=>e = .returned (.int .i64 ((near (fun k=>((s k:Nat):Int)) x (N + 1):Nat):Int)) ∧ Q w w':=by
 have hs':∀ i j,i < j → j ≤ N → (fun k=>((s k:Nat):Int)) i < (fun k=>((s k:Nat):Int)) j:=fun i j h1 h2=>by have:=hs i j h1 h2;show ((s i:Nat):Int) < ((s j:Nat):Int);omega
 have HST:=Lib.hid (fun u (q:Q w u) k (hk:k ≤ N)=>stop_in B b l s N k u (h.q q) hN hk)
 have HLE:=Lib.hid (fun k (hk:k ≤ N) (h1:((s k:Nat):Int) ≤ x)=>near_left (s:=fun k=>((s k:Nat):Int)) hk h1)
 have HRE:=Lib.hid (fun k (h1:1 ≤ k) (hk:k ≤ N) (h2:x < ((s k:Nat):Int))=>near_right hs' h1 hk h2)
 have hRN:=near_lt (s:=fun k=>((s k:Nat):Int)) (o:=x) (N + 1) (by omega)
 generalize near (fun k=>((s k:Nat):Int)) x (N + 1) = R at *
 have HHF:=Lib.hid half
 clear h hs hs'
 go_enter Tryz.func38,Tryz.ntmps38
 go_wp2_with fail
 go_step3
 go_wp2_with fail
 go_step3
 go_wp2_with fail
 go_loopw [0,7] (fun m a wr=>∃ p q:Nat,a = .int .i64 p ∧ m = .int .i64 q ∧ p ≤ R ∧ R ≤ q ∧ q ≤ N ∧ Q w wr) (fun m a _=>(intOf m - intOf a).toNat)
 case atStart=>exact ⟨0,N,rfl,rfl,by omega,by omega,by omega,Q.refl _⟩
 case round =>
  obtain ⟨p,q,rfl,rfl,hp,hq,hqN,hQ⟩:=hrel
  obtain ⟨k,hk⟩:∃ k,k = (p + q + 1) / 2:=⟨_,rfl⟩
  have hh:=HHF.out p q
  rw [← hk] at hh
  have hkp:p ≤ k:=by omega
  have hkq:k ≤ q:=by omega
  have hk1:p < q → p < k:=by omega
  have hst:=HST.out wr hQ k (by omega)
  have hle:=HLE.out k (by omega)
  have hre:=fun h1=>HRE.out k h1 (by omega)
  generalize s k = z at *
  have HS:=Lib.hid hst
  have HK:=Lib.hid hk
  clear hst hk
  by_cases he:p = q
  ·obtain rfl:p = R:=by omega
   subst he
   have hpp:((p:Int) == (p:Int)) = true:=by simp
   clear hle hre hp hq
   go_wp2_with fail
   refine HS.out.mono ?_
   rintro e w1 ⟨rfl,rfl⟩
   go_wp2_with fail
   rw [Exit.noGoto_ret]
   go_ret
   exact ⟨rfl,hQ⟩
  ·have hne:((p:Int) == (q:Int)) = false:=by rw [beq_eq_false_iff_ne];omega
   have hne2:¬ (p:Int) = (q:Int):=by omega
   by_cases hz:((z:Nat):Int) ≤ x
   ·have hkR:=hle hz
    clear hle hre
    go_wp2_with fail
    refine HS.out.mono ?_
    rintro e w1 ⟨rfl,rfl⟩
    go_wp2_with fail
    go_roundw
    case rel=>exact ⟨k,q,rfl,rfl,hkR,hq,hqN,hQ⟩
    case measure=>simp [intOf];omega
   ·have hkR:=hre (by omega) (by omega)
    have hm:(k:Int) - 1 = ((k - 1:Nat):Int):=by omega
    have HM:=Lib.hid hm
    clear hle hre hm
    go_wp2_with fail
    refine HS.out.mono ?_
    rintro e w1 ⟨rfl,rfl⟩
    go_wp2_with fail
    go_roundw
    case rel=>exact ⟨p,k - 1,rfl,by rw [← HM.out],hp,hkR,by omega,hQ⟩
    case measure=>simp [intOf];omega
set_option maxHeartbeats 800000 in
theorem atom_any (B b:Nat) (l:List E) (s:Nat → Nat) (N:Nat) (x:Int) (w:World) (h:VB w B b l s N) (hN:N ≤ 1000000) (hs:∀ i j,i < j → j ≤ N → s i < s j) :
  Calls Tryz.prog 19 #[.pointer (some ⟨b,0,none⟩),.int .i64 x] w fun e w'=>e = .returned (.int .i64 ((near (fun k=>((s k:Nat):Int)) x (N + 1):Nat):Int)) ∧ Q w w':=by
 have HL:=Lib.hid (len_any B b l s N w h hN)
 have HG:=Lib.hid (great_any B b l s N x w h hN hs)
 generalize near (fun k=>((s k:Nat):Int)) x (N + 1) = R at *
 clear h hs
 go_enter Tryz.func19,Tryz.ntmps19
 go_wp2_with fail
 refine HL.out.mono ?_
 rintro e w1 ⟨rfl,rfl⟩
 go_wp2_with fail
 refine HG.out.mono ?_
 rintro e w2 ⟨rfl,hq⟩
 go_wp2_with fail
 go_ret
 exact ⟨rfl,hq⟩
set_option maxHeartbeats 1600000 in
theorem slice_in (B b:Nat) (l:List E) (s:Nat → Nat) (N i j:Nat) (w:World) (h:VB w B b l s N) (hN:N ≤ 1000000) (hij:i ≤ j) (hj:j ≤ N) (h1:s i ≤ s j) (h2:s j ≤ (txI l).length) :
  Calls Tryz.prog 26 #[.pointer (some ⟨b,0,none⟩),.int .i64 i,.int .i64 j] w fun e w'=>e = .returned (.tuple #[.string ((⟨(txI l).toArray⟩:ByteArray).extract (s i) (s j)),.bool true]) ∧ w = w':=by
 have HI:=Lib.hid (stop_in B b l s N i w h hN (by omega))
 have HJ:=Lib.hid (stop_in B b l s N j w h hN hj)
 obtain ⟨_,a1,c1,a2,c2,a3,c3,hb,_,_,h3⟩:=h
 have x0:=hb.cell 0 rfl
 have hss:(⟨(txI l).toArray⟩:ByteArray).size = (txI l).length:=by simp [ByteArray.size]
 rw [← hss] at h2
 generalize (⟨(txI l).toArray⟩:ByteArray) = S at *
 generalize s i = y at *
 generalize s j = z at *
 have hji:¬ (j:Int) < (i:Int):=by omega
 have g1:(y:Int) ≤ (z:Int):=by omega
 have g2:(z:Int) ≤ (S.size:Int):=by omega
 clear hb h3 hss
 go_enter Tryz.func26,Tryz.ntmps26
 go_wp2_with fail
 refine HI.out.mono ?_
 rintro e w1 ⟨rfl,rfl⟩
 go_wp2_with fail
 refine HJ.out.mono ?_
 rintro e w1 ⟨rfl,rfl⟩
 go_wp2_with fail
 go_ret2
 exact ⟨rfl,rfl⟩
set_option maxHeartbeats 1600000 in
theorem slice_out (B b:Nat) (l:List E) (s:Nat → Nat) (N:Nat) (i j:Int) (w:World) (h:VB w B b l s N) (hN:N ≤ 1000000) (ho:¬ (0 ≤ i ∧ i ≤ j ∧ j ≤ (N:Int))) :
  Calls Tryz.prog 26 #[.pointer (some ⟨b,0,none⟩),.int .i64 i,.int .i64 j] w fun e w'=>e = .returned (.tuple #[.string ⟨#[]⟩,.bool false]) ∧ w = w':=by
 have HIN:=Lib.hid (fun (k:Nat) (hk:k ≤ N)=>stop_in B b l s N k w h hN hk)
 have HOU:=Lib.hid (fun (k:Int) hk=>stop_out B b l s N k w h hN hk)
 clear h
 by_cases h1:i < 0 ∨ (N:Int) < i
 ·have HI:=Lib.hid (HOU.out i h1)
  obtain ⟨y,t,HJ⟩:∃ y t,Hid (Calls Tryz.prog 11 #[.pointer (some ⟨b,0,none⟩),.int .i64 j] w fun e w'=>e = .returned (.tuple #[.int .i64 y,.bool t]) ∧ w = w'):=by
   by_cases h2:j < 0 ∨ (N:Int) < j
   ·exact ⟨_,_,Lib.hid (HOU.out j h2)⟩
   ·obtain ⟨k,rfl⟩:∃ k:Nat,j = k:=⟨j.toNat,by omega⟩
    exact ⟨_,_,Lib.hid (HIN.out k (by omega))⟩
  clear ho h1 HIN HOU
  go_enter Tryz.func26,Tryz.ntmps26
  go_wp2_with fail
  refine HI.out.mono ?_
  rintro e w1 ⟨rfl,rfl⟩
  go_wp2_with fail
  refine HJ.out.mono ?_
  rintro e w1 ⟨rfl,rfl⟩
  go_wp2_with fail
  go_ret2
  exact ⟨rfl,rfl⟩
 ·obtain ⟨k,rfl⟩:∃ k:Nat,i = k:=⟨i.toNat,by omega⟩
  have HI:=Lib.hid (HIN.out k (by omega))
  generalize s k = z at *
  by_cases h2:j < 0 ∨ (N:Int) < j
  ·have HJ:=Lib.hid (HOU.out j h2)
   clear ho h1 h2 HIN HOU
   go_enter Tryz.func26,Tryz.ntmps26
   go_wp2_with fail
   refine HI.out.mono ?_
   rintro e w1 ⟨rfl,rfl⟩
   go_wp2_with fail
   refine HJ.out.mono ?_
   rintro e w1 ⟨rfl,rfl⟩
   go_wp2_with fail
   go_ret2
   exact ⟨rfl,rfl⟩
  ·obtain ⟨m,rfl⟩:∃ m:Nat,j = m:=⟨j.toNat,by omega⟩
   have HJ:=Lib.hid (HIN.out m (by omega))
   generalize s m = y at *
   have hji:(m:Int) < (k:Int):=by omega
   clear ho h1 h2 HIN HOU
   go_enter Tryz.func26,Tryz.ntmps26
   go_wp2_with fail
   refine HI.out.mono ?_
   rintro e w1 ⟨rfl,rfl⟩
   go_wp2_with fail
   refine HJ.out.mono ?_
   rintro e w1 ⟨rfl,rfl⟩
   go_wp2_with fail
   go_ret2
   exact ⟨rfl,rfl⟩
end Vw
end Go.Proofs.YtghfdapfnoeanaaGreatDoor
