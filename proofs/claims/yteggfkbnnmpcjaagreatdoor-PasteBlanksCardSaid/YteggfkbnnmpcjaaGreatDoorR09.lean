/- How a row of the table is looked through for a character, range by range. (and more) -/
import Derived.Test.YteggfkbnnmpcjaaGreatDoorR05
import Derived.Deep.CutRange
import Derived.Deep.CutBlock
set_option linter.all false
set_option maxRecDepth 100000
set_option maxHeartbeats 8000000
namespace Go.Proofs.YteggfkbnnmpcjaaGreatDoor
section
open Go.RowKit Cm
theorem of1_any (a b c:Int) (p:Addr) (w:World) (hc:w.cell? p = some (.int .i64 c)) :
  Calls Tryz.prog 198 #[.int .i64 a,.int .i64 b,.pointer (some p)] w fun e w'=>e = .returned (.bool (inR c (a,b))) /\ w = w':=by
 by_cases h1:a <= c
 ·by_cases h2:c <= b
  ·have HF:Hid (inR c (a,b) = true):=Hd (by simp [inR,h1,h2])
   go_enter Tryz.func198,Tryz.ntmps198
   go_wp2_with fail
   go_ret
   rw [HF.out];exact ⟨rfl,rfl⟩
  ·have HF:Hid (inR c (a,b) = false):=Hd (by simp [inR,h2])
   go_enter Tryz.func198,Tryz.ntmps198
   go_wp2_with fail
   go_ret
   rw [HF.out];exact ⟨rfl,rfl⟩
 ·have HF:Hid (inR c (a,b) = false):=Hd (by simp [inR,h1])
  go_enter Tryz.func198,Tryz.ntmps198
  go_wp2_with fail
  go_ret
  rw [HF.out];exact ⟨rfl,rfl⟩
theorem each_of (k c:Int) (pb:Nat) (w:World) (hp:pb < w.heap.size) (hc:w.cell? ⟨pb,0,none⟩ = some (.int .i64 c)) :
  Calls Tryz.prog 199 #[.int .i64 k,.func (.func 198) #[] #[.pointer (some ⟨pb,0,none⟩)]] w fun e w'=>e = .returned (.bool ((rowZ k).any (inR c))) /\ Q w w':=by
 go_enter Tryz.func199,Tryz.ntmps199
 go_upto_block 0 with fail
 go_cut [5] (fun s wx=>PRow wx s (rowZ k) /\ Q w wx)
 case first =>
  by_cases h:¬ (1 <= k /\ k <= 11) /\ ¬ k = 14
  ·have h1:(k == 1) = false:=by rw [beq_eq_false_iff_ne];omega
   have h2:(k == 2) = false:=by rw [beq_eq_false_iff_ne];omega
   have h3:(k == 3) = false:=by rw [beq_eq_false_iff_ne];omega
   have h4:(k == 4) = false:=by rw [beq_eq_false_iff_ne];omega
   have h5:(k == 5) = false:=by rw [beq_eq_false_iff_ne];omega
   have h6:(k == 6) = false:=by rw [beq_eq_false_iff_ne];omega
   have h7:(k == 7) = false:=by rw [beq_eq_false_iff_ne];omega
   have h8:(k == 8) = false:=by rw [beq_eq_false_iff_ne];omega
   have h9:(k == 9) = false:=by rw [beq_eq_false_iff_ne];omega
   have h10:(k == 10) = false:=by rw [beq_eq_false_iff_ne];omega
   have h11:(k == 11) = false:=by rw [beq_eq_false_iff_ne];omega
   have h14:(k == 14) = false:=by rw [beq_eq_false_iff_ne];omega
   go_wp2_with fail
   go_meet
   case rel=>exact ⟨by rw [rowZ_none h];exact PRow.nil _,Q.refl _⟩
  ·have:k = 1 \/ k = 2 \/ k = 3 \/ k = 4 \/ k = 5 \/ k = 6 \/ k = 7 \/ k = 8 \/ k = 9 \/ k = 10 \/ k = 11 \/ k = 14:=by omega
   clear h;rcases this with rfl | rfl | rfl | rfl | rfl | rfl | rfl | rfl | rfl | rfl | rfl | rfl;all_goals
    go_wp2_with fail
    go_meet
    case rel=>exact ⟨PRow.made w (rowZ _) _ (by kernel_rfl) _ _ (by kernel_rfl),(Q.refl _).alloc _⟩
 case rest =>
  obtain ⟨⟨a,rfl,hcell⟩,hq0⟩:=hcut;have hl18:=rowZ_len k;generalize hL:(rowZ k).length = n at *;have HL:=Hd hL;have hcw:wc.cell? ⟨pb,0,none⟩ = some (.int .i64 c):=(World.cell?_of_block (w:=w) (hq0.block hp)).trans hc;have HC:=Hd hcell;clear hL hcell;go_wp2_with fail
  go_loopw [113] (fun i wr=>∃ j:Nat,i = .int .i64 j /\ j <= n /\ Q wc wr /\ ((rowZ k).take j).any (inR c) = false) (fun i _=>n - (intOf i).toNat)
  case atStart=>exact ⟨0,rfl,by omega,Q.refl _,rfl⟩
  case round =>
   obtain ⟨j,rfl,hj,hq,hany⟩:=hrel;have HA:=Hd hany;clear hany;by_cases hlt:j < n
   ·obtain ⟨g,rfl,hg,c1,c2⟩:=HC.out j hlt
    have d1:=(World.cell?_of_block (w:=wc) (hq.block hg)).trans c1;have d2:=(World.cell?_of_block (w:=wc) (hq.block hg)).trans c2;have d3:(wr.alloc (.cells #[.int .i64 ((rowZ k).getD j (0,0)).1,.int .i64 ((rowZ k).getD j (0,0)).2] 243)).cell? ⟨pb,0,none⟩ = some (.int .i64 c):=by
     rw [World.cell?_alloc_past _ _ _ (Nat.lt_of_lt_of_le (Nat.lt_of_lt_of_le hp hq0.le) hq.le)];exact (World.cell?_of_block (w:=wc) (hq.block (Nat.lt_of_lt_of_le hp hq0.le))).trans hcw
    have hts:((rowZ k).take (j + 1)).any (inR c) = (((rowZ k).take j).any (inR c) || inR c ((rowZ k).getD j (0,0))):=by
     have hlt':j < (rowZ k).length:=by rw [HL.out];exact hlt
     rw [List.take_succ_eq_append_getElem hlt',List.any_append,List.getD_eq_getElem?_getD,List.getElem?_eq_getElem hlt'];simp
    have hin:inR c ((rowZ k).getD j (0,0)) = true -> (rowZ k).any (inR c) = true:=by
     intro h;have hlt':j < (rowZ k).length:=by rw [HL.out];exact hlt
     rw [List.getD_eq_getElem?_getD,List.getElem?_eq_getElem hlt'] at h;rw [List.any_eq_true];exact ⟨_,List.getElem_mem hlt',by simpa using h⟩
    have HT:=Hd hts;have HI:=Hd hin;clear hts hin c1 c2 HC;obtain ⟨⟨r1,r2⟩,hr⟩:∃ r,r = (rowZ k).getD j (0,0):=⟨_,rfl⟩;rw [<- hr] at d1 d2 d3 HT HI;clear hr;simp only at d1 d2 d3;have hcl:=of1_any r1 r2 c ⟨pb,0,none⟩ _ d3;cases hb:inR c (r1,r2)
    ·rw [hb] at hcl
     have HCL:=Hd hcl;have HB:=Hd hb;clear hcl hb;go_wp2_with fail
     refine HCL.out.mono ?_;rintro e w' ⟨rfl,rfl⟩;go_wp2_with fail
     go_roundw
     case rel=>exact ⟨j + 1,by go_num,by omega,hq.alloc _,by rw [HT.out,HA.out,HB.out];rfl⟩
     case measure=>simp [intOf];omega
    ·rw [hb] at hcl
     have HCL:=Hd hcl;have HB:=Hd hb;clear hcl hb;go_wp2_with fail
     refine HCL.out.mono ?_;rintro e w' ⟨rfl,rfl⟩;go_wp2_with fail
     go_ret
     exact ⟨retB (HI.out HB.out).symm,(hq0.trans hq).alloc _⟩
   ·have hall:(rowZ k).any (inR c) = false:=by
     have:=HA.out;rw [List.take_of_length_le (by rw [HL.out];omega)] at this;exact this
    have HF:=Hd hall;clear hall HC;go_wp2_with fail
    go_ret
    rw [HF.out];exact ⟨rfl,hq0.trans hq⟩
end
end Go.Proofs.YteggfkbnnmpcjaaGreatDoor
