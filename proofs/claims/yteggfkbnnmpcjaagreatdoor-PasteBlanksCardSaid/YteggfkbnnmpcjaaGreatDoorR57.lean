/- Blanks put in: how long the text is, what is read of it; a row of sevens as bytes. (and more) -/
import Derived.Test.YteggfkbnnmpcjaaGreatDoorR54
set_option linter.all false
set_option maxRecDepth 100000
set_option maxHeartbeats 8000000
namespace Go.Proofs.YteggfkbnnmpcjaaGreatDoor
section
open Go.RowKit
namespace Ps
open Um Cm Gm Im Sx
theorem catB_app (a b:List ByteArray):catB (a ++ b) = catB a ++ catB b:=by
 apply ba_ext;simp [catB,List.flatMap_append]
theorem catB_size (a b:List ByteArray):(catB (a ++ b)).size = (catB a).size + (catB b).size:=by rw [catB_app,ByteArray.size_append]
theorem catB_one (p:ByteArray):catB [p] = p:=by
 apply ba_ext;simp [catB]
theorem catB_pcs (s:ByteArray):catB (pcs s) = s:=by
 apply ba_ext;unfold catB;rw [pcs_all]
theorem ins_step (P:List ByteArray) (i k j:Nat):catB (insB P i k (j + 1)) = catB (insB P i k j) ++ (if j = i \/ j = k then tabB else ⟨#[]⟩) ++ (if j < P.length then P.getD j ⟨#[]⟩ else ⟨#[]⟩):=by
 show catB (insB P i k j ++ (if j = i \/ j = k then [tabB] else []) ++ (if j < P.length then [P.getD j ⟨#[]⟩] else [])) = _
 rw [catB_app,catB_app];congr 1
 ·congr 1
  split
  ·exact catB_one _
  ·rfl
 ·split
  ·exact catB_one _
  ·rfl
theorem ins_size (P:List ByteArray) (i k:Nat):∀ j,(catB (insB P i k j)).size <= j + (catB (P.take j)).size
 | 0=>Nat.le_of_eq (by simp [insB])
 | j + 1=>by
  have ih:=ins_size P i k j;rw [ins_step,ByteArray.size_append,ByteArray.size_append];have h1:(if j = i \/ j = k then tabB else (⟨#[]⟩:ByteArray)).size <= 1:=by
   split
   ·exact Nat.le_refl _
   ·exact Nat.zero_le _
  by_cases hj:j < P.length
  ·rw [if_pos hj,List.take_succ_eq_append_getElem hj,catB_size,catB_one]
   have e:P.getD j ⟨#[]⟩ = P[j]:=by rw [List.getD_eq_getElem?_getD,List.getElem?_eq_getElem hj];rfl
   rw [e];omega
  ·rw [if_neg hj,List.take_of_length_le (by omega)]
   rw [List.take_of_length_le (by omega)] at ih;have e:(⟨#[]⟩:ByteArray).size = 0:=rfl;omega
theorem pcs_le (s:ByteArray):(pcs s).length <= s.size:=by
 rw [pcs_length];have:=begL_length s.data.toList;rwa [size_list] at this
theorem take_size (P:List ByteArray) (j:Nat):(catB (P.take j)).size <= (catB P).size:=by
 have h:=catB_size (P.take j) (P.drop j);rw [List.take_append_drop] at h;omega
theorem ins_bound (s:ByteArray) (i k j:Nat) (hj:j <= (pcs s).length + 1):(catB (insB (pcs s) i k j)).size <= 2 * s.size + 1:=by
 have h1:=ins_size (pcs s) i k j;have h2:=take_size (pcs s) j;have h3:=pcs_le s;rw [catB_pcs] at h2;omega
theorem clip_ins {r:Lm.Rec} {X:Pt.Pat} (h:It.LOk r X) {d:Tm.T} (hm:Tm.may d = true) (hs:(tx r X d).size <= 2000) (i k:Nat) :
  clip r X (catB (insB (pcs (tx r X d)) i k ((pcs (tx r X d)).length + 1))) = clip r X (tx r X d):=by
 have hb:=ins_bound (tx r X d) i k ((pcs (tx r X d)).length + 1) (Nat.le_refl _);unfold clip;rw [if_neg (by omega),if_neg (by omega),run_ins h hm i k _ (Nat.le_succ _),cln_tx h hm]
theorem may_app {g s:Bool} {I F:List Int} (h:Tm.may ⟨g,I,s,F⟩ = true):Tm.may ⟨g,I ++ [7],s,F⟩ = true:=by
 unfold Tm.may Dm.okB at h |-;simp only [Bool.and_eq_true,List.all_append,List.all_cons,List.all_nil] at h |-;exact ⟨⟨⟨h.1.1,by decide⟩,h.1.2⟩,h.2⟩
/-! ### a row of sevens -/
theorem nums_list (zs:List Int):strOfNums zs = ⟨(zs.map fun x=>UInt8.ofNat x.toNat).toArray⟩:=rfl
theorem sev_list:∀ k:Nat,((List.replicate k (55:Int)).map fun x=>UInt8.ofNat x.toNat) = ((List.replicate k sevB).flatMap fun p=>p.data.toList)
 | 0=>rfl
 | k + 1=>by
  rw [List.replicate_succ,List.replicate_succ,List.map_cons,List.flatMap_cons,<- sev_list k];rfl
theorem sev_str (k:Nat):strOfNums (List.replicate k 55) = catB (List.replicate k sevB):=by
 rw [nums_list,sev_list];rfl
theorem ctl_str (k:Nat):strOfNums (1 :: List.replicate k 55) = catB (ctlB :: List.replicate k sevB):=by
 rw [nums_list];unfold catB;rw [List.map_cons,List.flatMap_cons,<- sev_list k];rfl
theorem nums_size (zs:List Int):(strOfNums zs).size = zs.length:=by rw [nums_list];simp [ByteArray.size]
theorem long_sev {r:Lm.Rec} {X:Pt.Pat} (h:POk r X) (k:Nat) (hk:0 < k):clip r X (strOfNums (List.replicate k 55)) = if 4096 < k then (false,[],3) else (false,List.replicate k 7,0):=by
 have hz:(strOfNums (List.replicate k 55)).size = k:=by rw [nums_size,List.length_replicate]
 by_cases hl:4096 < k
 ·rw [if_pos hl]
  unfold clip;rw [if_pos (by omega)]
 ·rw [if_neg hl,sev_str]
  exact clip_sev h.sev k hk (by omega)
theorem long_ctl {r:Lm.Rec} {X:Pt.Pat} (h:POk r X) (k:Nat):clip r X (strOfNums (1 :: List.replicate k 55)) = if 4096 < k + 1 then (false,[],3) else (false,[],2):=by
 have hz:(strOfNums (1 :: List.replicate k 55)).size = k + 1:=by rw [nums_size,List.length_cons,List.length_replicate]
 by_cases hl:4096 < k + 1
 ·rw [if_pos hl]
  unfold clip;rw [if_pos (by omega)]
 ·rw [if_neg hl]
  rw [ctl_str] at hz |-;exact clip_ctl h.lok k (by omega)
theorem rep_set (n k:Nat) (hk:k < n):(List.replicate k (55:Int) ++ List.replicate (n - k) 0).set k 55 = List.replicate (k + 1) 55 ++ List.replicate (n - (k + 1)) 0:=by
 have e:n - k = (n - (k + 1)) + 1:=by omega
 rw [e,List.replicate_succ,List.set_append_right _ _ (by simp)];simp [List.replicate_succ']
end Ps
end
end Go.Proofs.YteggfkbnnmpcjaaGreatDoor
