/- Clusters as plain mathematics, further: they rise, they are the text together, where they part, what a plain text's are, and how many flags and families come to. (and more) -/
import Derived.Test.YteggfkbnnmpcjaaGreatDoorR05
set_option linter.all false
set_option maxRecDepth 100000
set_option maxHeartbeats 8000000
namespace Go.Proofs.YteggfkbnnmpcjaaGreatDoor
namespace Gm
open Um Cm
theorem marks_pos (l:List UInt8):∀ m ∈ marks l,1 <= m.2.1:=by
 refine marks_ind (p:=fun l=>∀ m ∈ marks l,1 <= m.2.1) (by simp [marks_nil]) ?_ l;intro l hl ih m hm;rw [marks_cons l hl,List.mem_cons] at hm;rcases hm with rfl | hm
 ·exact (mark_n l hl).1
 ·exact ih m hm
theorem begF_lt (t:St) (p:Nat) (ms:List (Int × Nat × Bool)) (h:∀ m ∈ ms,1 <= m.2.1):∀ x ∈ begF t p ms,(p:Int) <= x /\ x < p + width ms:=by
 induction ms generalizing t p with
 | nil=>simp [begF]
 | cons m ms ih =>
  intro x hx;have hw:width (m :: ms) = m.2.1 + width ms:=by simp [width]
  have h1:=h m (by simp);rw [begF,List.mem_append] at hx;rcases hx with hx | hx
  ·split at hx
   ·cases hx
   ·rw [List.mem_singleton] at hx;omega
  ·have:=ih _ _ (fun m hm=>h m (by simp [hm])) x hx
   omega
theorem begF_rise (t:St) (p:Nat) (ms:List (Int × Nat × Bool)) (h:∀ m ∈ ms,1 <= m.2.1):(begF t p ms).Pairwise (· < ·):=by
 induction ms generalizing t p with
 | nil=>simp [begF]
 | cons m ms ih =>
  have h1:=h m (by simp);have hr:=begF_lt (stp t (cls m.1)) (p + m.2.1) ms (fun m hm=>h m (by simp [hm]));rw [begF,List.pairwise_append];refine ⟨by split <;> simp,ih _ _ (fun m hm=>h m (by simp [hm])),fun x hx y hy=>?_⟩
  have:=hr y hy;split at hx
  ·cases hx
  ·rw [List.mem_singleton] at hx;omega
def stL1 (l:List UInt8):List Int:=begL l ++ [(l.length:Int)]
theorem stL1_length (l:List UInt8):(stL1 l).length = (begL l).length + 1:=by simp [stL1]
theorem begL_lt (l:List UInt8):∀ x ∈ begL l,0 <= x /\ x < l.length:=by
 intro x hx;have:=begF_lt st0 0 (marks l) (marks_pos l) x hx;rw [width_marks] at this;omega
theorem stL1_rise (l:List UInt8):(stL1 l).Pairwise (· < ·):=by
 unfold stL1;rw [List.pairwise_append];refine ⟨begF_rise _ _ _ (marks_pos l),by simp,fun x hx y hy=>?_⟩;rw [List.mem_singleton] at hy;have:=begL_lt l x hx;omega
theorem stL1_bd (l:List UInt8):∀ x ∈ stL1 l,0 <= x /\ x <= l.length:=by
 intro x hx;unfold stL1 at hx;rw [List.mem_append,List.mem_singleton] at hx;rcases hx with hx | hx
 ·have:=begL_lt l x hx;omega
 ·omega
theorem stL1_get (l:List UInt8) (i:Nat) (hi:i < (stL1 l).length):0 <= (stL1 l).getD i 0 /\ (stL1 l).getD i 0 <= l.length:=by
 rw [List.getD_eq_getElem?_getD,List.getElem?_eq_getElem hi];exact stL1_bd l _ (List.getElem_mem hi)
theorem stL1_step (l:List UInt8) (i:Nat) (hi:i < (begL l).length):(stL1 l).getD i 0 < (stL1 l).getD (i + 1) 0:=by
 have h1:i < (stL1 l).length:=by rw [stL1_length];omega
 have h2:i + 1 < (stL1 l).length:=by rw [stL1_length];omega
 rw [List.getD_eq_getElem?_getD,List.getElem?_eq_getElem h1,List.getD_eq_getElem?_getD,List.getElem?_eq_getElem h2];exact (List.pairwise_iff_getElem.1 (stL1_rise l)) i (i + 1) h1 h2 (by omega)
theorem jn_st0 (k:Int):jn st0 k = false:=by simp [jn,st0,pairB]
theorem begL_nil:begL [] = []:=rfl
theorem begL_ne (l:List UInt8) (h:l ≠ []):∃ r,begL l = 0 :: r /\ ∀ x ∈ r,0 < x:=by
 unfold begL;rw [marks_cons l h,begF,jn_st0];refine ⟨_,rfl,fun x hx=>?_⟩;have h1:=(mark_n l h).1;have:=begF_bd _ _ _ x hx;omega
theorem begL_zero (l:List UInt8):(begL l).length = 0 ↔ l = []:=by
 constructor
 ·intro h
  by_cases hl:l = []
  ·exact hl
  ·obtain ⟨r,hr,_⟩:=begL_ne l hl
   rw [hr] at h;simp at h
 ·rintro rfl;rfl
theorem stL1_zero (l:List UInt8) (h:l ≠ []):(stL1 l).getD 0 0 = 0:=by
 obtain ⟨r,hr,_⟩:=begL_ne l h;unfold stL1;rw [hr];rfl
theorem stL1_last (l:List UInt8):(stL1 l).getD (begL l).length 0 = l.length:=by
 unfold stL1;rw [List.getD_eq_getElem?_getD,List.getElem?_append_right (Nat.le_refl _),Nat.sub_self];rfl
theorem frsL_eq (l:List UInt8) (h:l ≠ []):frsL l = (stL1 l).getD 1 0:=by
 obtain ⟨r,hr,hp⟩:=begL_ne l h;unfold frsL stL1;rw [hr];cases r with
 | nil=>simp
 | cons x r =>
  have:=hp x (by simp);simp [this]
def oneB (l:List UInt8):Bool:=!l.isEmpty && (frsL l == l.length)
theorem oneB_eq (l:List UInt8):oneB l = decide ((begL l).length = 1):=by
 unfold oneB;cases l with
 | nil=>rfl
 | cons c l =>
  have hne:c :: l ≠ []:=by simp
  obtain ⟨r,hr,hp⟩:=begL_ne (c :: l) hne;have hf:=frsL_eq (c :: l) hne;rw [hf];unfold stL1;rw [hr];cases r with
  | nil=>simp
  | cons x r =>
   have:=begL_lt (c :: l) x (by rw [hr];simp);have h2:¬ x = ((c :: l).length:Int):=by omega
   simp only [List.cons_append,List.getD_cons_succ,List.getD_cons_zero];rw [beq_eq_false_iff_ne.2 h2];simp
def pc (s:ByteArray) (st:List Int) (i:Nat):ByteArray:=s.extract (st.getD i 0).toNat (st.getD (i + 1) 0).toNat
def pcs (s:ByteArray):List ByteArray:=(List.range (begL s.data.toList).length).map (pc s (stL1 s.data.toList))
theorem pcs_length (s:ByteArray):(pcs s).length = (begL s.data.toList).length:=by simp [pcs]
theorem pc_list (s:ByteArray) (st:List Int) (i:Nat):(pc s st i).data.toList = (s.data.toList.take (st.getD (i + 1) 0).toNat).drop (st.getD i 0).toNat:=by
 unfold pc;rw [ByteArray.data_extract,Array.toList_extract,List.extract_eq_take_drop,List.drop_take]
theorem pcs_take (s:ByteArray) (j:Nat) (h:j <= (begL s.data.toList).length) :
  (((List.range j).map (pc s (stL1 s.data.toList))).flatMap fun p=>p.data.toList) = s.data.toList.take ((stL1 s.data.toList).getD j 0).toNat:=by
 by_cases hl:s.data.toList = []
 ·rw [hl] at h |-
  have:j = 0:=by simpa [begL_nil] using h
  subst this;simp
 induction j with
 | zero=>rw [stL1_zero _ hl];simp
 | succ j ih =>
  have h1:=stL1_step s.data.toList j (by omega);have h2:=stL1_get s.data.toList j (by rw [stL1_length];omega);have h3:=stL1_get s.data.toList (j + 1) (by rw [stL1_length];omega);rw [List.range_succ,List.map_append,List.flatMap_append,ih (by omega)];simp only [List.map_cons,List.map_nil,List.flatMap_cons,List.flatMap_nil,List.append_nil,pc_list];have e:s.data.toList.take ((stL1 s.data.toList).getD j 0).toNat = (s.data.toList.take ((stL1 s.data.toList).getD (j + 1) 0).toNat).take ((stL1 s.data.toList).getD j 0).toNat:=by
   rw [List.take_take,Nat.min_eq_left (by omega)]
  rw [e,List.take_append_drop]
theorem pcs_all (s:ByteArray):((pcs s).flatMap fun p=>p.data.toList) = s.data.toList:=by
 unfold pcs;rw [pcs_take s _ (Nat.le_refl _),stL1_last,List.take_of_length_le (by simp)]
/-! Where a text parts. -/
theorem stR_reset (r:List Nat) (k:Int) (h:jn (stR r) k = false):stp (stR r) k = stp st0 k:=by
 have hi:=stR_inv r;generalize stR r = t at *;obtain ⟨a,d,s,o⟩:=t;simp only at hi;unfold jn at h;simp only [Bool.or_eq_false_iff,Bool.and_eq_false_iff] at h;obtain ⟨⟨h1,h2⟩,h3⟩:=h;unfold stp;simp only [st0,Bool.false_and,Bool.or_false,Bool.not_false,Bool.and_true];have e4:d = true -> k ≠ 4 /\ k ≠ 5:=by
  intro hd;have ha:=hi.1 hd;constructor
  ·rintro rfl
   rcases ha with rfl | rfl <;> simp [pairB,alB] at h1
  ·rintro rfl
   rcases ha with rfl | rfl <;> simp [pairB,alB] at h1
 have e1:(d && decide (k = 4)) = false:=by
  cases d
  ·rfl
  ·simp [(e4 rfl).1]
 have e2:(d && decide (k = 5)) = false:=by
  cases d
  ·rfl
  ·simp [(e4 rfl).2]
 have e3:(decide (k = 6) && !o) = decide (k = 6):=by
  cases o
  ·simp
  ·simp only [Bool.true_eq_false,false_or,decide_eq_false_iff_not] at h3
   simp [h3]
 rw [e1,e2,e3];simp
theorem stMs_rev (ms:List (Int × Nat × Bool)):stMs ms = stR ((ms.map (·.1)).map cls).reverse:=stL_rev _
theorem begF_shift (t:St) (p q:Nat) (ms:List (Int × Nat × Bool)):begF t (p + q) ms = (begF t p ms).map (· + (q:Int)):=by
 induction ms generalizing t p with
 | nil=>rfl
 | cons m ms ih =>
  rw [begF,begF,List.map_append,<- ih,show p + q + m.2.1 = p + m.2.1 + q from by omega];split <;> simp
theorem begL_part (a b:List UInt8) (hm:marks (a ++ b) = marks a ++ marks b) (hb:b ≠ []) (hj:jn (stMs (marks a)) (cls (mrk b).1) = false) :
  begL (a ++ b) = begL a ++ (begL b).map (· + (a.length:Int)):=by
 unfold begL;rw [hm,begF_append,width_marks,Nat.zero_add];congr 1
 have h0:=begF_shift st0 0 a.length (marks b);rw [Nat.zero_add] at h0;rw [<- h0,marks_cons b hb,begF,begF,jn_st0];have hs:((marks a).map (·.1)).foldl (fun t c=>stp t (cls c)) st0 = stMs (marks a):=rfl;rw [hs,hj];have hr:stp (stMs (marks a)) (cls (mrk b).1) = stp st0 (cls (mrk b).1):=by
  rw [stMs_rev] at hj |-;exact stR_reset _ _ hj
 rw [hr]
theorem cut_right (A B:List UInt8) (x y:Int) (hx:0 <= x) (hy:0 <= y):((A ++ B).take (x + A.length).toNat).drop (y + A.length).toNat = (B.take x.toNat).drop y.toNat:=by
 rw [show (x + (A.length:Int)).toNat = A.length + x.toNat from by omega,show (y + (A.length:Int)).toNat = A.length + y.toNat from by omega];rw [List.take_length_add_append,List.drop_length_add_append]
theorem cut_left (A B:List UInt8) (x y:Int) (hx:x <= A.length):((A ++ B).take x.toNat).drop y.toNat = (A.take x.toNat).drop y.toNat:=by
 rw [List.take_append_of_le_length (by omega)]
theorem pcs_part (s t:ByteArray) (hm:marks (s.data.toList ++ t.data.toList) = marks s.data.toList ++ marks t.data.toList)
  (hj:t.data.toList ≠ [] -> jn (stMs (marks s.data.toList)) (cls (mrk t.data.toList).1) = false):pcs (s ++ t) = pcs s ++ pcs t:=by
 have hd:(s ++ t).data.toList = s.data.toList ++ t.data.toList:=by rw [ByteArray.data_append,Array.toList_append]
 by_cases hb:t.data.toList = []
 ·have ht:s ++ t = s:=ba_ext (by rw [hd,hb,List.append_nil])
  have h0:pcs t = []:=by unfold pcs;rw [hb];rfl
  rw [ht,h0,List.append_nil]
 ·have hg:=begL_part _ _ hm hb (hj hb)
  have hst:stL1 (s ++ t).data.toList = begL s.data.toList ++ (stL1 t.data.toList).map (· + (s.data.toList.length:Int)):=by
   unfold stL1;rw [hd,hg,List.map_append,List.append_assoc];simp [Int.add_comm]
  have hz:=stL1_zero t.data.toList hb;have hlen:(stL1 t.data.toList).length = (begL t.data.toList).length + 1:=stL1_length _;apply List.ext_getElem?;intro i;have hl:(pcs (s ++ t)).length = (pcs s ++ pcs t).length:=by
   rw [List.length_append,pcs_length,pcs_length,pcs_length,hd,hg];simp
  by_cases hi:i < (pcs (s ++ t)).length
  ·have hi':i < (begL (s ++ t).data.toList).length:=by rw [<- pcs_length];exact hi
   have e1:(pcs (s ++ t))[i]? = some (pc (s ++ t) (stL1 (s ++ t).data.toList) i):=by
    unfold pcs;rw [List.getElem?_map,List.getElem?_range hi'];rfl
   rw [e1];have hgn:(begL (s ++ t).data.toList).length = (begL s.data.toList).length + (begL t.data.toList).length:=by rw [hd,hg];simp
   have hsl:s.size = s.data.toList.length:=(size_list s).symm;have key:∀ j,j < (stL1 t.data.toList).length -> ((begL s.data.toList ++ (stL1 t.data.toList).map (· + (s.data.toList.length:Int))).getD ((begL s.data.toList).length + j) 0) = (stL1 t.data.toList).getD j 0 + s.data.toList.length:=by
    intro j hj;rw [List.getD_eq_getElem?_getD,List.getElem?_append_right (by omega),Nat.add_sub_cancel_left,List.getElem?_map,List.getElem?_eq_getElem hj,List.getD_eq_getElem?_getD,List.getElem?_eq_getElem hj];rfl
   by_cases his:i < (begL s.data.toList).length
   ·have e2:(pcs s ++ pcs t)[i]? = some (pc s (stL1 s.data.toList) i):=by
     rw [List.getElem?_append_left (by rw [pcs_length];exact his)];unfold pcs;rw [List.getElem?_map,List.getElem?_range his];rfl
    rw [e2];congr 1
    apply ba_ext;rw [pc_list,pc_list,hst,hd];have f1:(begL s.data.toList ++ (stL1 t.data.toList).map (· + (s.data.toList.length:Int))).getD i 0 = (stL1 s.data.toList).getD i 0:=by
     unfold stL1;rw [List.getD_eq_getElem?_getD,List.getElem?_append_left his,List.getD_eq_getElem?_getD,List.getElem?_append_left his]
    have f2:(begL s.data.toList ++ (stL1 t.data.toList).map (· + (s.data.toList.length:Int))).getD (i + 1) 0 = (stL1 s.data.toList).getD (i + 1) 0:=by
     by_cases h1:i + 1 < (begL s.data.toList).length
     ·unfold stL1
      rw [List.getD_eq_getElem?_getD,List.getElem?_append_left h1,List.getD_eq_getElem?_getD,List.getElem?_append_left h1]
     ·have h2:i + 1 = (begL s.data.toList).length:=by omega
      have:=key 0 (by omega);rw [Nat.add_zero] at this;rw [h2,this,stL1_last,hz];omega
    rw [f1,f2];have b:=stL1_get s.data.toList (i + 1) (by rw [stL1_length];omega);exact cut_left _ _ _ _ b.2
   ·obtain ⟨j,rfl⟩:∃ j,i = (begL s.data.toList).length + j:=⟨i - (begL s.data.toList).length,by omega⟩
    have hjt:j < (begL t.data.toList).length:=by omega
    have e2:(pcs s ++ pcs t)[(begL s.data.toList).length + j]? = some (pc t (stL1 t.data.toList) j):=by
     rw [List.getElem?_append_right (by rw [pcs_length];omega),pcs_length,Nat.add_sub_cancel_left];unfold pcs;rw [List.getElem?_map,List.getElem?_range hjt];rfl
    rw [e2];congr 1
    apply ba_ext;have b1:=stL1_get t.data.toList j (by omega);have b2:=stL1_get t.data.toList (j + 1) (by omega);rw [pc_list,pc_list,hst,hd,key j (by omega),show (begL s.data.toList).length + j + 1 = (begL s.data.toList).length + (j + 1) from by omega,key (j + 1) (by omega)];exact cut_right _ _ _ _ b2.1 b1.1
  ·rw [List.getElem?_eq_none (by omega),List.getElem?_eq_none (by omega)]
def cntF (t:St):List Nat -> Nat
 | []=>0
 | k :: r=>(if jn t k = true then 0 else 1) + cntF (stp t k) r
theorem cntF_begF (t:St) (p:Nat) (ms:List (Int × Nat × Bool)):(begF t p ms).length = cntF t (ms.map fun m=>cls m.1):=by
 induction ms generalizing t p with
 | nil=>rfl
 | cons m ms ih =>
  rw [begF,List.length_append,ih,List.map_cons,cntF];split <;> simp
theorem begL_join (xs:List Int) (h:∀ c ∈ xs,vld c = true):(begL (joinL xs)).length = cntF st0 (xs.map cls):=by
 unfold begL;rw [cntF_begF,marks_join0 xs h,List.map_map];rfl
end Gm
end Go.Proofs.YteggfkbnnmpcjaaGreatDoor
