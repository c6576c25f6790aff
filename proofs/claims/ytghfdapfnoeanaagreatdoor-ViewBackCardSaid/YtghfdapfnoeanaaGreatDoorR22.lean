/- Parts that are empty are struck from a list. (and more) -/
import Derived.Test.YtghfdapfnoeanaaGreatDoorR00
import Derived.Test.YtghfdapfnoeanaaGreatDoorR02
import Derived.Test.YtghfdapfnoeanaaGreatDoorR04
import Derived.Test.YtghfdapfnoeanaaGreatDoorR19
import Derived.Test.YtghfdapfnoeanaaGreatDoorR01
import Derived.Test.YtghfdapfnoeanaaGreatDoorR06
import Derived.Test.YtghfdapfnoeanaaGreatDoorRows
import Derived.Deep.QuietTactic
import Derived.BigQuiet
import Derived.Lib.SliceRun
import Derived.Lib.LazyBuf
import Derived.Laws.IdiomCopy
set_option linter.unusedVariables false
set_option linter.unusedSimpArgs false
namespace Go.Proofs.YtghfdapfnoeanaaGreatDoor
open Go.RowKit
namespace Lo
open Um Cm Gm
def keepP (p:Pb.E):Bool:=p.1 || !p.2.isEmpty
theorem bs_ne {t:List UInt8} (h:t ≠ []):((⟨t.toArray⟩:ByteArray).toList == (⟨#[]⟩:ByteArray).toList) = false:=str_ne (fun e=>h (by have:=congrArg (fun b=>b.data.toList) e;simpa using this))
set_option maxHeartbeats 1000000 in
theorem part1_any (b:Bool) (t:List UInt8) (w:World) :
  Calls Tryz.prog 153 #[.agg #[.bool b,.string ⟨t.toArray⟩]] w fun e w'=>e = .returned (.bool (!keepP (b,t))) ∧ Q w w':=by
 cases b with
 | true =>
  have HF:=Lib.hid (show keepP (true,t) = true from rfl)
  rw [HF.out]
  generalize (⟨t.toArray⟩:ByteArray) = T at *
  go_enter Tryz.func153,Tryz.ntmps153
  go_wp2_with fail
  go_ret
  exact ⟨rfl,(Q.refl w).alloc _⟩
 | false =>
  by_cases ht:t = []
  ·subst ht
   have HF:=Lib.hid (show keepP (false,[]) = false from rfl)
   rw [HF.out]
   have h1:(⟨([]:List UInt8).toArray⟩:ByteArray) = ⟨#[]⟩:=rfl
   rw [h1]
   have h2:((⟨#[]⟩:ByteArray).toList == (⟨#[]⟩:ByteArray).toList) = true:=by simp
   clear h1
   go_enter Tryz.func153,Tryz.ntmps153
   go_wp2_with fail
   go_ret
   exact ⟨rfl,(Q.refl w).alloc _⟩
  ·have HF:=Lib.hid (show keepP (false,t) = true by unfold keepP;cases t with | nil=>exact absurd rfl ht | cons _ _=>rfl)
   rw [HF.out]
   have h2:=bs_ne ht
   have h3:(⟨t.toArray⟩:ByteArray).toList.isEmpty = false:=by
    rw [emp_eq]
    cases t with
    | nil=>exact absurd rfl ht
    | cons _ _=>rfl
   have h4:((⟨t.toArray⟩:ByteArray).toList == []) = false:=by
    cases h:(⟨t.toArray⟩:ByteArray).toList with
    | nil=>rw [h] at h3;cases h3
    | cons _ _=>rfl
   generalize (⟨t.toArray⟩:ByteArray) = T at *
   clear ht
   go_enter Tryz.func153,Tryz.ntmps153
   go_wp2_with fail
   go_ret
   exact ⟨rfl,(Q.refl w).alloc _⟩
def IdxR (l:List Pb.E) (r:Int):Prop:=(r = -1 ∧ ∀ p ∈ l,keepP p = true) ∨ ∃ k:Nat,r = k ∧ k < l.length ∧ (∀ p ∈ l.take k,keepP p = true) ∧ keepP (l.getD k (false,[])) = false
set_option maxHeartbeats 1000000 in
theorem idxPt (v:Value) (l:List Pb.E) (w:World) (hv:Pb.LstP w v l) (hx:l.length ≤ 1000000) :
  Calls Tryz.prog 177 #[v,.func (.func 153) #[] #[]] w fun e w'=>(∃ r,e = .returned (.int .i64 r) ∧ IdxR l r) ∧ Q w w':=by
 obtain ⟨n,hn⟩:∃ n,n = l.length:=⟨_,rfl⟩
 have HN:=Lib.hid hn
 have HV:=Lib.hid hv
 obtain ⟨a,cp,rfl,hc1,hc2⟩:=hv.form0 hn.symm
 rw [← hn] at hx
 have HR:=Lib.hid (fun (r:Int) (w':World) (h:IdxR l r) (hq:Q w w')=>(⟨⟨r,rfl,h⟩,hq⟩:(∃ r',Ending.returned (.int .i64 r) = .returned (.int .i64 r') ∧ IdxR l r') ∧ Q w w'))
 clear hn hv
 go_enter Tryz.func177,Tryz.ntmps177
 go_wp2_with fail
 go_loopw [8] (fun i wr=>∃ k:Nat,i = .int .i64 k ∧ k ≤ n ∧ Q w wr ∧ Hid (∀ p ∈ l.take k,keepP p = true)) (fun i _=>n - (intOf i).toNat)
 case atStart=>exact ⟨0,rfl,by omega,Q.refl _,Lib.hid (by simp)⟩
 case round =>
  obtain ⟨k,rfl,hk,hq,HK⟩:=hrel
  by_cases hlt:k < n
  ·have hlti:(k:Int) < (n:Int):=by omega
   have hkl:k < l.length:=by have:=HN.out;omega
   obtain ⟨gg,off,cp',hvv,hg,_,_,c1,c2⟩:=(HV.out.q hq).cellOf HN.out.symm hlt
   cases hvv
   obtain ⟨x,hxg⟩:∃ x,x = l.getD k (false,[]):=⟨_,rfl⟩
   rw [← hxg] at c1 c2
   unfold Pb.txt at c2
   have hc:=part1_any x.1 x.2 wr
   have HX:=Lib.hid hxg
   have HKL:=Lib.hid hkl
   obtain ⟨xb,xt⟩:=x
   simp only at c1 c2 hc
   clear hxg hkl
   cases hkp:keepP (xb,xt) with
   | true =>
    rw [hkp] at hc
    have HC:=Lib.hid hc
    have HKP:=Lib.hid hkp
    clear hc hkp
    generalize (⟨xt.toArray⟩:ByteArray) = T at *
    go_wp2_with fail
    refine HC.out.mono ?_
    rintro e w1 ⟨rfl,hq1⟩
    go_wp2_with fail
    refine ⟨⟨k + 1,by go_num,by omega,hq.trans hq1,Lib.hid ?_⟩,by simp [intOf];omega⟩
    intro p hp
    rw [List.take_succ_eq_append_getElem HKL.out] at hp
    rcases List.mem_append.1 hp with hp | hp
    ·exact HK.out p hp
    ·rw [List.mem_singleton.1 hp]
     have e1:l.getD k (false,[]) = l[k]'HKL.out:=by rw [List.getD_eq_getElem?_getD,List.getElem?_eq_getElem HKL.out];rfl
     rw [← e1,← HX.out];exact HKP.out
   | false =>
    rw [hkp] at hc
    have HC:=Lib.hid hc
    have HKP:=Lib.hid hkp
    clear hc hkp
    generalize (⟨xt.toArray⟩:ByteArray) = T at *
    go_wp2_with fail
    refine HC.out.mono ?_
    rintro e w1 ⟨rfl,hq1⟩
    go_wp2_with fail
    go_ret
    exact HR.out _ _ (.inr ⟨k,rfl,HKL.out,HK.out,by rw [← HX.out];exact HKP.out⟩) (hq.trans hq1)
  ·have hnlt:¬ (k:Int) < (n:Int):=by omega
   have HALL:=Lib.hid (show ∀ p ∈ l,keepP p = true by
    have h:=HK.out
    rw [List.take_of_length_le (by have:=HN.out;omega)] at h
    exact h)
   go_wp2_with fail
   go_ret
   exact HR.out _ _ (.inl ⟨rfl,HALL.out⟩) hq
/-! ### what is struck -/
structure KI (l:List Pb.E) (L0:List Value) (i j:Nat) (L:List Value):Prop where
 lt:i < j
 len:L.length = L0.length
 cnt:((l.take j).filter keepP).length = i
 pre:L.take (i * 2) = Pb.flat ((l.take j).filter keepP)
 high:∀ x,j * 2 ≤ x → L[x]? = L0[x]?
theorem take_at (l:List Pb.E) (j:Nat) (hj:j < l.length):l.take (j + 1) = l.take j ++ [l.getD j (false,[])]:=by
 rw [List.take_succ_eq_append_getElem hj,List.getD_eq_getElem?_getD,List.getElem?_eq_getElem hj];rfl
theorem KI.skip {l:List Pb.E} {L0 L:List Value} {i j:Nat} (h:KI l L0 i j L) (hj:j < l.length) (hk:keepP (l.getD j (false,[])) = false):KI l L0 i (j + 1) L:=by
 have e:(l.take (j + 1)).filter keepP = (l.take j).filter keepP:=by rw [take_at l j hj,List.filter_append,List.filter_cons,hk];simp
 exact ⟨by have:=h.lt;omega,h.len,by rw [e];exact h.cnt,by rw [e];exact h.pre,fun x hx=>h.high x (by omega)⟩
theorem set2_take {L A:List Value} {i:Nat} {x y:Value} (hA:L.take (i * 2) = A) (hi:i * 2 + 1 < L.length):((L.set (i * 2) x).set (i * 2 + 1) y).take ((i + 1) * 2) = A ++ [x,y]:=by
 have hAl:A.length = i * 2:=by rw [← hA,List.length_take];omega
 apply List.ext_getElem?
 intro m
 rw [List.getElem?_take,List.getElem?_append,hAl]
 by_cases h1:m < i * 2
 ·rw [if_pos h1,if_pos (by omega),List.getElem?_set_ne (by omega),List.getElem?_set_ne (by omega),← hA,List.getElem?_take,if_pos h1]
 ·rw [if_neg h1]
  by_cases h2:m = i * 2
  ·subst h2
   rw [if_pos (by omega),List.getElem?_set_ne (by omega),List.getElem?_set_self (by omega)]
   simp
  ·by_cases h3:m = i * 2 + 1
   ·subst h3
    rw [if_pos (by omega),List.getElem?_set_self (by simp;omega)]
    simp
   ·rw [if_neg (by omega),List.getElem?_eq_none (by simp;omega)]
theorem KI.put {l:List Pb.E} {L0 L:List Value} {i j:Nat} (h:KI l L0 i j L) (hj:j < l.length) (hl:l.length * 2 ≤ L0.length) (hk:keepP (l.getD j (false,[])) = true) :
  KI l L0 (i + 1) (j + 1) ((L.set (i * 2) (.bool (l.getD j (false,[])).1)).set (i * 2 + 1) (Pb.txt (l.getD j (false,[])).2)):=by
 have hlt:=h.lt
 have e:(l.take (j + 1)).filter keepP = (l.take j).filter keepP ++ [l.getD j (false,[])]:=by rw [take_at l j hj,List.filter_append,List.filter_cons,hk];simp
 have hi:i * 2 + 1 < L.length:=by rw [h.len];omega
 refine ⟨by omega,by simp [h.len],by rw [e,List.length_append,h.cnt];rfl,?_,fun x hx=>?_⟩
 ·rw [e,Pb.flat_app,set2_take h.pre hi];rfl
 ·rw [List.getElem?_set_ne (by omega),List.getElem?_set_ne (by omega)]
  exact h.high x (by omega)
theorem KI.cells {l:List Pb.E} {L0 L:List Value} {i j:Nat} (h:KI l L0 i j L) (hj:j < l.length) (h0:L0.take (l.length * 2) = Pb.flat l):L[j * 2]? = some (.bool (l.getD j (false,[])).1) ∧ L[j * 2 + 1]? = some (Pb.txt (l.getD j (false,[])).2):=by
 obtain ⟨f1,f2⟩:=Pb.flat_get l j hj
 rw [← h0,List.getElem?_take,if_pos (by omega)] at f1 f2
 exact ⟨by rw [h.high _ (Nat.le_refl _)];exact f1,by rw [h.high _ (by omega)];exact f2⟩
theorem KI.start {l:List Pb.E} {L0:List Value} {k:Nat} (hk:k < l.length) (h0:L0.take (l.length * 2) = Pb.flat l) (ha:∀ p ∈ l.take k,keepP p = true) (hd:keepP (l.getD k (false,[])) = false):KI l L0 k (k + 1) L0:=by
 have e:(l.take (k + 1)).filter keepP = l.take k:=by
  rw [take_at l k hk,List.filter_append,List.filter_eq_self.2 ha,List.filter_cons,hd];simp
 refine ⟨by omega,rfl,by rw [e,List.length_take];omega,?_,fun x _=>rfl⟩
 rw [e]
 have h1:=congrArg (List.take (k * 2)) h0
 rw [List.take_take,Nat.min_eq_left (by omega)] at h1
 rw [h1]
 have h2:Pb.flat l = Pb.flat (l.take k) ++ Pb.flat (l.drop k):=by rw [← Pb.flat_app,List.take_append_drop]
 have h3:(Pb.flat (l.take k)).length = k * 2:=by rw [Pb.flat_len,List.length_take];omega
 rw [h2,List.take_append_of_le_length (by omega),List.take_of_length_le (by omega)]
theorem zero_len (n:Nat):(Builtin.zeroCells #[.bool false,.string ByteArray.empty] n).toList.length = n * 2 ∧ ∀ v ∈ (Builtin.zeroCells #[.bool false,.string ByteArray.empty] n).toList,v.oneCell' = true:=by
 unfold Builtin.zeroCells
 constructor
 ·simp
 ·intro v hv
  simp at hv
  obtain ⟨i,hi,rfl⟩:=hv
  rcases Nat.mod_two_eq_zero_or_one i with h | h <;> rw [h] <;> rfl
theorem clear_pt (w:World) (ty:TypeId) (b o n c:Nat) (hn:0 < n) (hc:∀ j,j < n * 2 → (w.cell? ⟨b,o + j,none⟩).isSome = true) (hf:∀ j,j < n * 2 → w.frozen? ⟨b,o + j,none⟩ = false) :
  (Builtin.clear_ #[115] ty #[.slice (some ⟨b,o,none⟩) n c]).run Tryz.prog w = .ok (.tuple #[]) (w.setCells b o (Builtin.zeroCells #[.bool false,.string ByteArray.empty] n).toList):=by
 obtain ⟨z1,z2⟩:=zero_len n
 have hv:∀ w,(zeroValue 161).run Tryz.prog w = .ok (.agg #[.bool false,.string ByteArray.empty]) w:=fun w=>Tryz.zeroValue161 w
 have hst:=run_storeCells_cells (P:=Tryz.prog) b o (Builtin.zeroCells #[.bool false,.string ByteArray.empty] n).toList 0 w (by rw [z1];simpa using hc) (by rw [z1];simpa using hf) z2
 simp only [Nat.add_zero] at hst
 obtain ⟨m,rfl⟩:∃ m,n = m + 1:=⟨n - 1,by omega⟩
 simp [Builtin.clear_,run_underlying Tryz.underlying115,hv,Value.cells,hst]
end Lo
end Go.Proofs.YtghfdapfnoeanaaGreatDoor
