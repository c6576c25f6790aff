/- What the document's own answers on classes come to, by a walk through each. (and more) -/
import Derived.Test.YteggfkbnnmpcjaaGreatDoorR05
set_option linter.all false
set_option maxRecDepth 100000
set_option maxHeartbeats 8000000
namespace Go.Proofs.YteggfkbnnmpcjaaGreatDoor
section
open Go.RowKit Cm Um
namespace Cr
theorem table_run (w:World) :
  Calls Tryz.prog 157 #[] w fun e w'=>e = .returned (.slice (some ⟨w.heap.size,0,none⟩) 66 66) /\ w' = w.alloc (.cells (flat3 tab).toArray 203) :=
 calls_runF Tryz.func157 (by rfl) (W:=w.alloc (.cells (flat3 tab).toArray 203)) (v:=.slice (some ⟨w.heap.size,0,none⟩) 66 66) (by kernel_rfl) ⟨rfl,rfl⟩
theorem table_any (w:World) :
  Calls Tryz.prog 157 #[] w fun e w'=>∃ g,e = .returned (.slice (some ⟨g,0,none⟩) 66 66) /\ TRow w' g tab /\ Q w w':=by
 refine (table_run w).mono ?_;rintro e w' ⟨rfl,rfl⟩;exact ⟨_,rfl,TRow.made w tab _ _ rfl,(Q.refl _).alloc _⟩
theorem tab_take (c:Int) (j:Nat) (h:j < 66):(tab.take (j + 1)).any (inT c) = ((tab.take j).any (inT c) || inT c (tab.getD j (0,0,0))):=by
 have hl:j < tab.length:=by rw [tab_len];exact h
 rw [List.take_succ_eq_append_getElem hl,List.any_append,List.getD_eq_getElem?_getD,List.getElem?_eq_getElem hl];simp
theorem of_any (c:Int) (w:World) :
  Calls Tryz.prog 121 #[.int .i64 c] w fun e w'=>e = .returned (.int .i64 (cls c)) /\ Q w w':=by
 by_cases hs:syll c
 ·by_cases h0:(c - 44032) % 28 = 0
  ·have HF:Hid ((cls c:Int) = 12):=Hd (by rw [cls_lv hs h0];rfl)
   obtain ⟨h1,h2⟩:=hs;go_enter Tryz.func121,Tryz.ntmps121
   go_wp2_with fail
   go_ret
   rw [HF.out];exact ⟨rfl,Q.refl _⟩
  ·have HF:Hid ((cls c:Int) = 13):=Hd (by rw [cls_lvt hs h0];rfl)
   obtain ⟨h1,h2⟩:=hs;go_enter Tryz.func121,Tryz.ntmps121
   go_wp2_with fail
   go_ret
   rw [HF.out];exact ⟨rfl,Q.refl _⟩
 ·have HN:=Hd hs
  have hcase:(44032 <= c /\ ¬ c <= 55203) \/ ¬ 44032 <= c:=by have:¬ (44032 <= c /\ c <= 55203):=hs;omega
  clear hs;rcases hcase with ⟨h1,h2⟩ | h1;all_goals
   go_enter Tryz.func121,Tryz.ntmps121
   go_wp2_with fail
   refine (table_any _).mono ?_;rintro e w1 ⟨g,rfl,htab,hq1⟩;go_wp2_with fail
   go_loopw [4] (fun i wr=>∃ j:Nat,i = .int .i64 j /\ j <= 66 /\ Q w1 wr /\ (tab.take j).any (inT c) = false) (fun i _=>66 - (intOf i).toNat)
   case atStart=>exact ⟨0,rfl,by omega,Q.refl _,rfl⟩
   case round =>
    obtain ⟨j,rfl,hj,hq,hany⟩:=hrel;have HA:=Hd hany;clear hany;by_cases hlt:j < 66
    ·obtain ⟨c1,c2,c3⟩:=(htab.q hq).2 j (by rw [tab_len];exact hlt)
     have HT:=Hd (tab_take c j hlt);have HC:=Hd (fun h=>tab_at HN.out hlt HA.out h);obtain ⟨⟨r1,r2,r3⟩,hr⟩:∃ r,r = tab.getD j (0,0,0):=⟨_,rfl⟩;rw [<- hr] at c1 c2 c3 HT HC;clear hr;simp only at c1 c2 c3;have hcase:(r1 <= c /\ c <= r2 /\ Hid (inT c (r1,r2,r3) = true)) \/ (r1 <= c /\ ¬ c <= r2 /\ Hid (inT c (r1,r2,r3) = false)) \/ (¬ r1 <= c /\ Hid (inT c (r1,r2,r3) = false)):=by
      by_cases h1:r1 <= c
      ·by_cases h2:c <= r2
       ·exact .inl ⟨h1,h2,Hd (by simp [inT,inR,h1,h2])⟩
       ·exact .inr (.inl ⟨h1,h2,Hd (by simp [inT,inR,h2])⟩)
      ·exact .inr (.inr ⟨h1,Hd (by simp [inT,inR,h1])⟩)
     rcases hcase with ⟨g1,g2,HB⟩ | ⟨g1,g2,HB⟩ | ⟨g1,HB⟩
     ·go_wp2_with fail
      go_ret
      have:=HC.out HB.out;rw [this];exact ⟨rfl,hq1.trans hq⟩
     all_goals
      go_wp2_with fail
      go_roundw
      case rel=>exact ⟨j + 1,by go_num,by omega,hq,by rw [HT.out,HA.out,HB.out];rfl⟩
      case measure=>simp [intOf];omega
    ·have hF:(cls c:Int) = 0:=by
      have:=HA.out;rw [List.take_of_length_le (by rw [tab_len];omega)] at this;rw [tab_no HN.out this];rfl
     have HF:=Hd hF;clear hF;go_wp2_with fail
     go_ret
     rw [HF.out];exact ⟨rfl,hq1.trans hq⟩
theorem blank_any (c:Int) (w:World) :
  Calls Tryz.prog 37 #[.int .i64 c] w fun e w'=>e = .returned (.bool (blankB c)) /\ Q w w':=by
 have hl:=Lst.made w blanks 9 rfl (by unfold maxLen;omega);simp only [blanks,List.map_cons,List.map_nil] at hl;go_enter Tryz.func37,Tryz.ntmps37
 go_wp2_with fail
 go_loopw [4] (fun i wr=>∃ j:Nat,i = .int .i64 j /\ j <= 9 /\ Q (w.alloc (.cells #[.int .i64 9,.int .i64 10,.int .i64 11,.int .i64 12,.int .i64 13,.int .i64 32,.int .i64 160,.int .i64 8201,.int .i64 8239] 3)) wr /\ (blanks.take j).contains c = false) (fun i _=>9 - (intOf i).toNat)
 case atStart=>exact ⟨0,rfl,by omega,Q.refl _,rfl⟩
 case round =>
  obtain ⟨j,rfl,hj,hq,hany⟩:=hrel;have HA:=Hd hany;clear hany;by_cases hlt:j < 9
  ·obtain ⟨g,off,cap,hv,hg,_,_,c1⟩:=(hl.q hq).cellOf (n:=9) rfl hlt
   cases hv;have hts:(blanks.take (j + 1)).contains c = ((blanks.take j).contains c || (c == blanks.getD j 0)):=by
    rw [List.take_succ_eq_append_getElem (by exact hlt),List.getD_eq_getElem?_getD,List.getElem?_eq_getElem (by exact hlt)];rw [Bool.eq_iff_iff];simp
   have hin:c = blanks.getD j 0 -> blankB c = true:=by
    intro h;unfold blankB;rw [h,List.getD_eq_getElem?_getD,List.getElem?_eq_getElem (by exact hlt)];exact List.contains_iff_mem.2 (List.getElem_mem _)
   have HT:=Hd hts;have HI:=Hd hin;clear hts hin hl;obtain ⟨r,hr⟩:∃ r,r = blanks.getD j 0:=⟨_,rfl⟩;have c1:wr.cell? ⟨w.heap.size,j,none⟩ = some (.int .i64 (blanks.getD j 0)):=by have:=c1;rw [Nat.zero_add] at this;exact this
   rw [<- hr] at c1 HT HI;clear hr;by_cases h:c = r
   ·have h2:(r == c) = true:=by rw [h];simp
    have HF:Hid (blankB c = true):=Hd (HI.out h);clear h;go_wp2_with fail
    go_ret
    rw [HF.out];exact ⟨rfl,((Q.refl _).alloc _).trans hq⟩
   ·have h2:(r == c) = false:=by rw [beq_eq_false_iff_ne];exact fun e=>h e.symm
    have h3:Hid ((c == r) = false):=Hd (by rw [beq_eq_false_iff_ne];exact h);clear h;go_wp2_with fail
    go_roundw
    case rel=>exact ⟨j + 1,by go_num,by omega,hq,by rw [HT.out,HA.out,h3.out];rfl⟩
    case measure=>simp [intOf];omega
  ·have hF:blankB c = false:=by
    have:=HA.out;rw [List.take_of_length_le (by simp [blanks];omega)] at this;exact this
   have HF:=Hd hF;clear hF;go_wp2_with fail
   go_ret
   rw [HF.out];exact ⟨rfl,((Q.refl _).alloc _).trans hq⟩
end Cr
end
end Go.Proofs.YteggfkbnnmpcjaaGreatDoor
