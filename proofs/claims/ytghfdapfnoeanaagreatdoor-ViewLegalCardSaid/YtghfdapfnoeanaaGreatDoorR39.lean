/- The texts of a draft's items: plain ones, whose clusters stand one behind the other. (and more) -/
import Derived.Test.YtghfdapfnoeanaaGreatDoorR00
import Derived.Test.YtghfdapfnoeanaaGreatDoorR02
import Derived.Test.YtghfdapfnoeanaaGreatDoorR03
import Derived.Test.YtghfdapfnoeanaaGreatDoorR04
import Derived.Test.YtghfdapfnoeanaaGreatDoorR37
import Derived.Test.YtghfdapfnoeanaaGreatDoorR08
import Derived.Test.YtghfdapfnoeanaaGreatDoorR12
import Derived.Test.YtghfdapfnoeanaaGreatDoorR36
import Derived.Test.YtghfdapfnoeanaaGreatDoorR33
import Derived.Test.YtghfdapfnoeanaaGreatDoorR06
import Derived.Test.YtghfdapfnoeanaaGreatDoorR28
import Derived.Test.YtghfdapfnoeanaaGreatDoorR01
import Derived.Test.YtghfdapfnoeanaaGreatDoorRows
import Derived.Test.YtghfdapfnoeanaaGreatDoorR25
import Derived.Deep.RegionHeld
import Derived.Deep.QuietTactic
import Derived.BigQuiet
set_option linter.unusedVariables false
set_option linter.unusedSimpArgs false
namespace Go.Proofs.YtghfdapfnoeanaaGreatDoor
namespace Im
open Um Cm Gm
def pln (l:List UInt8):Bool:=okL l && plainB (allL l)
theorem ok_marks {a:List UInt8} (h:okL a = true) (b:List UInt8):marks (a ++ b) = marks a ++ marks b:=by
 have e:=join_ok a h
 have hv:=allL_vld a
 have h1:=marks_join (allL a) b hv
 rw [e] at h1
 have h2:=marks_join0 (allL a) hv
 rw [e] at h2
 rw [h1,← h2]
theorem allL_app {a:List UInt8} (h:okL a = true) (b:List UInt8):allL (a ++ b) = allL a ++ allL b:=by
 unfold allL
 rw [ok_marks h b,List.map_append]
theorem okL_app {a b:List UInt8} (h:okL a = true) (k:okL b = true):okL (a ++ b) = true:=by
 unfold okL at *
 rw [ok_marks h b,List.all_append,h,k];rfl
theorem plain_iff (l:List Int):plainB l = true ↔ (∀ c ∈ l,cls c = 0 ∨ cls c = 4) ∧ ∃ c r,l = c :: r ∧ cls c = 0:=by
 unfold plainB plP
 cases l with
 | nil=>simp
 | cons c r =>
  simp only [List.all_cons,Bool.and_eq_true,Bool.or_eq_true,beq_iff_eq,List.all_eq_true,decide_eq_true_eq,List.length_cons,List.mem_cons,List.cons.injEq]
  constructor
  ·rintro ⟨⟨⟨h1,h2⟩,h3⟩,_⟩
   refine ⟨fun x hx=>?_,c,r,⟨rfl,rfl⟩,h3⟩
   rcases hx with rfl | hx
   ·exact h1
   ·exact h2 x hx
  ·rintro ⟨h1,c',r',⟨rfl,rfl⟩,h3⟩
   exact ⟨⟨⟨h1 c (.inl rfl),fun x hx=>h1 x (.inr hx)⟩,h3⟩,by omega⟩
theorem plain_app {a b:List Int} (h:plainB a = true) (k:∀ c ∈ b,cls c = 0 ∨ cls c = 4):plainB (a ++ b) = true:=by
 rw [plain_iff] at *
 obtain ⟨h1,c,r,rfl,h2⟩:=h
 refine ⟨fun x hx=>?_,c,r ++ b,rfl,h2⟩
 rcases List.mem_append.1 hx with hx | hx
 ·exact h1 x hx
 ·exact k x hx
theorem pln_app {a b:List UInt8} (h:pln a = true) (k:pln b = true):pln (a ++ b) = true:=by
 unfold pln at *
 simp only [Bool.and_eq_true] at *
 refine ⟨okL_app h.1 k.1,?_⟩
 rw [allL_app h.1]
 exact plain_app h.2 ((plain_iff _).1 k.2).1
theorem pln_ne {a:List UInt8} (h:pln a = true):a ≠ []:=by
 rintro rfl
 unfold pln at h
 simp only [Bool.and_eq_true] at h
 obtain ⟨_,c,r,h2,_⟩:=(plain_iff _).1 h.2
 cases h2
theorem jn_zero (t:St) (h:t.k ≠ 7):jn t 0 = false:=by
 obtain ⟨a,d,s,o⟩:=t
 simp only at h
 have hs:sylB a 0 = false:=by
  unfold sylB
  split
  ·decide
  ·split
   ·decide
   ·split <;> decide
 unfold jn pairB
 simp only [show decide ((0:Int) = 14) = false from rfl,show decide ((0:Int) = 6) = false from rfl,Bool.and_false,Bool.or_false]
 split
 ·rfl
 ·rw [if_neg (by omega)]
  split
  ·rfl
  ·simp [h,hs]
theorem stL_k7 (X:List Int) (h:∀ c ∈ X,cls c ≠ 7):(stL X).k ≠ 7:=by
 cases hX:X with
 | nil=>decide
 | cons c r =>
  have hne:X ≠ []:=by rw [hX];simp
  obtain ⟨s,d,hs⟩:∃ s d,X = s ++ [d]:=⟨X.dropLast,X.getLast hne,(List.dropLast_concat_getLast hne).symm⟩
  rw [← hX,hs,stL_snoc]
  have h7:=h d (by rw [hs];simp)
  show ((cls d:Nat):Int) ≠ 7
  omega
theorem pln_pcs {a b:ByteArray} (h:pln a.data.toList = true) (k:pln b.data.toList = true):pcs (a ++ b) = pcs a ++ pcs b:=by
 have hne:=pln_ne k
 unfold pln at h k
 simp only [Bool.and_eq_true] at h k
 refine pcs_part a b (ok_marks h.1 _) (fun _=>?_)
 obtain ⟨_,c,r,hc,h0⟩:=(plain_iff _).1 k.2
 have e:(mrk b.data.toList).1 = c:=by
  unfold allL at hc
  rw [marks_cons _ hne,List.map_cons] at hc
  exact (List.cons.inj hc).1
 rw [e,h0]
 refine jn_zero _ ?_
 unfold stMs
 refine stL_k7 _ (fun x hx=>?_)
 have:=((plain_iff _).1 h.2).1 x hx
 omega
theorem pcs_emp:pcs ⟨#[]⟩ = []:=by
 have h:(pcs ⟨#[]⟩).length = 0:=by rw [pcs_length];rw [begL_zero]
 exact List.eq_nil_of_length_eq_zero h
theorem bs_app (a b:List UInt8):(⟨(a ++ b).toArray⟩:ByteArray) = (⟨a.toArray⟩:ByteArray) ++ ⟨b.toArray⟩:=by
 apply ByteArray.ext
 rw [ByteArray.data_append]
 apply Array.ext'
 simp
theorem pcs_tx:∀ (l:List E),(∀ e ∈ l,pln e.2.1.data.toList = true) → pcs ⟨(txI l).toArray⟩ = l.flatMap (fun e=>pcs e.2.1) ∧ (txI l = [] ∨ pln (txI l) = true)
 | [],_=>⟨pcs_emp,.inl rfl⟩
 | e :: l,h=>by
  obtain ⟨h1,h2⟩:=pcs_tx l (fun x hx=>h x (List.mem_cons_of_mem _ hx))
  have he:=h e List.mem_cons_self
  have ht:txI (e :: l) = e.2.1.data.toList ++ txI l:=by unfold txI;rw [List.flatMap_cons]
  have hb:(⟨(e.2.1.data.toList).toArray⟩:ByteArray) = e.2.1:=by
   apply ByteArray.ext
   simp
  rw [ht,List.flatMap_cons,← h1]
  rcases h2 with h2 | h2
  ·rw [h2,List.append_nil,hb,pcs_emp,List.append_nil]
   exact ⟨rfl,.inr he⟩
  ·refine ⟨?_,.inr (pln_app he h2)⟩
   rw [bs_app,hb]
   exact pln_pcs he (by simpa using h2)
def pE (l:List UInt8):Prop:=l = [] ∨ pln l = true
theorem pE_app {a b:List UInt8} (h:pE a) (k:pE b):pE (a ++ b):=by
 rcases h with rfl | h
 ·simpa using k
 ·rcases k with rfl | k
  ·rw [List.append_nil];exact .inr h
  ·exact .inr (pln_app h k)
theorem pE_flat {α:Type} (f:α → List UInt8):∀ l:List α,(∀ x ∈ l,pE (f x)) → pE (l.flatMap f)
 | [],_=>.inl rfl
 | x :: l,h=>by
  rw [List.flatMap_cons]
  exact pE_app (h x List.mem_cons_self) (pE_flat f l fun y hy=>h y (List.mem_cons_of_mem _ hy))
theorem word_pln {l:List UInt8} (h:Lm.wordB l = true):pln l = true ∧ l.length ≤ 16:=by
 unfold Lm.wordB at h
 simp only [Bool.and_eq_true,decide_eq_true_eq] at h
 exact ⟨by unfold pln;simp only [Bool.and_eq_true];exact h.2,h.1⟩
theorem sym_pln {l:List UInt8} (h:Lm.symB l = true):pln l = true ∧ l.length ≤ 16:=by
 unfold Lm.symB at h
 simp only [Bool.and_eq_true] at h
 exact word_pln h.1
theorem ptx_pE {r:Lm.Rec} {X:Pt.Pat} (h:It.LOk r X) {A:List Pc.E} (hA:A ∈ Lm.affs X) {x:Pc.E} (hx:x ∈ A):pE (Lm.ptx r x):=by
 have h1:=(h.ok.aff A hA).2 x hx
 unfold Lm.ptx
 by_cases h0:x.1 = 0
 ·rw [if_pos h0]
  refine .inr ?_
  unfold pln
  rw [h.tx A hA x hx,h1.2.2.1 h0];rfl
 ·rw [if_neg h0]
  by_cases h2:x.1 = 1
  ·rw [if_pos h2]
   rcases h.ok.cur with hw | hw
   ·exact .inr (word_pln hw).1
   ·exact .inl hw.1
  ·rw [if_neg h2]
   by_cases h3:x.1 = 2
   ·rw [if_pos h3]
    rcases h.ok.per with hw | hw
    ·exact .inr (word_pln hw).1
    ·exact .inl hw.1
   ·rw [if_neg h3];exact .inl rfl
theorem atx_pE {r:Lm.Rec} {X:Pt.Pat} (h:It.LOk r X) {A:List Pc.E} (hA:A ∈ Lm.affs X) (B:List Pc.E) (hB:∀ x ∈ B,x ∈ A):pE (Lm.atx r B) :=
 pE_flat _ B fun x hx=>ptx_pE h hA (hB x hx)
theorem parP_mem {r:Lm.Rec} {A:List Pc.E} {p:Pb.E} (h:p ∈ Lo.parP r A):p.1 = true ∨ ∃ B,p.2 = Lm.atx r B ∧ (∀ x ∈ B,x ∈ A) ∧ p.2.length ≤ (Lm.atx r A).length:=by
 unfold Lo.parP at h
 split at h
 ·have h1:=(List.mem_filter.1 h).1
  simp only [List.mem_cons,List.not_mem_nil,or_false] at h1
  subst h1
  exact .inr ⟨A,rfl,fun x hx=>hx,Nat.le_refl _⟩
 ·have h1:=(List.mem_filter.1 h).1
  simp only [List.mem_cons,List.not_mem_nil,or_false] at h1
  rcases h1 with rfl | rfl | rfl
  ·exact .inr ⟨_,rfl,fun x hx=>List.mem_of_mem_take hx,(Lo.atx_le r A _).1⟩
  ·exact .inl rfl
  ·exact .inr ⟨_,rfl,fun x hx=>List.mem_of_mem_drop hx,(Lo.atx_le r A _).2⟩
def okT (t:ByteArray):Prop:=pln t.data.toList = true ∧ t.size ≤ 64
theorem bs_okT {l:List UInt8} (h:pln l = true) (hl:l.length ≤ 64):okT (Lm.bs l):=⟨by rw [Lm.bs_list];exact h,by rw [Lm.bs_size];exact hl⟩
theorem aff_okT {r:Lm.Rec} {X:Pt.Pat} (h:It.LOk r X) {A:List Pc.E} (hA:A ∈ Lm.affs X) {p:Pb.E} (hp:p ∈ Lo.parP r A):okT (affE r p).2.1:=by
 have hf:=Ro.parP_fact r A (Ro.cnt_le r X A h.ok hA) (fun x hx h3=>((h.ok.aff A hA).2 x hx).2.2.2 (by omega))
 unfold affE
 by_cases h1:p.1 = true
 ·rw [if_pos h1]
  obtain ⟨h2,h3⟩:=sym_pln h.ok.min
  exact bs_okT h2 (by omega)
 ·rw [if_neg h1]
  rcases parP_mem hp with h2 | ⟨B,h2,h3,h4⟩
  ·exact absurd h2 h1
  ·have hlen:=h.ok.len A hA
   refine bs_okT ?_ (by omega)
   rcases atx_pE h hA B h3 with h5 | h5
   ·have h6:=hf.1 p hp
    rw [h2,h5] at h6
    exact absurd h6 h1
   ·rw [h2];exact h5
theorem dig_cls:∀ p ∈ Sm.tab,∀ d:Nat,d < 10 → cls (p.2 + (d:Int)) = 0 ∧ vld (p.2 + (d:Int)) = true ∧ (enc (p.2 + (d:Int))).length ≤ 4:=by decide +kernel
theorem dgt_okT {r:Lm.Rec} {X:Pt.Pat} (h:It.LOk r X) (x:Int) (h0:0 ≤ x) (h9:x ≤ 9):okT (Lm.dgt r x.toNat):=by
 have hz:=h.ok.sys
 rcases Sm.nz_cases r.sys with hn | hn
 ·omega
 ·obtain ⟨h1,h2,h3⟩:=dig_cls _ hn x.toNat (by omega)
  dsimp only at h1 h2 h3
  rw [Ro.dgt_enc hz x.toNat (by omega)]
  have he:=encB_list _ h2
  generalize Sm.nz r.sys + (x.toNat:Int) = c0 at *
  refine ⟨?_,?_⟩
  ·rw [he]
   have hj:joinL [c0] = enc c0:=by
    unfold joinL
    rw [List.flatMap_cons,List.flatMap_nil,List.append_nil,Um.one,if_pos h2]
   have hvv:∀ c ∈ [c0],vld c = true:=by
    intro c hc
    simp only [List.mem_cons,List.not_mem_nil,or_false] at hc
    subst hc;exact h2
   unfold pln
   rw [← hj,okL_join _ hvv,allL_join _ hvv]
   unfold plainB plP
   simp [h1]
  ·rw [← size_list,he];omega
theorem grp_okT {r:Lm.Rec} {X:Pt.Pat} (h:It.LOk r X) {l:Int} {e:E} (he:e ∈ grpI r l X.pr X.se):okT e.2.1:=by
 unfold grpI at he
 split at he
 ·rename_i hb
  simp only [List.mem_cons,List.not_mem_nil,or_false] at he
  subst he
  have hp:0 < X.pr:=by
   by_cases hp:X.pr < 1
   ·rw [endB_out (.inl hp)] at hb;cases hb
   ·omega
  obtain ⟨h2,h3⟩:=sym_pln (h.ok.grp1 hp)
  exact bs_okT h2 (by omega)
 ·cases he
theorem wh_okT {r:Lm.Rec} {X:Pt.Pat} (h:It.LOk r X) {I:List Int} (hI:Dm.okD I):∀ k,∀ e ∈ whI r X.pr X.se I k,okT e.2.1
 | 0,e,he=>by cases he
 | k + 1,e,he=>by
  rw [whI_succ] at he
  rcases List.mem_append.1 he with he | he
  ·exact wh_okT h hI k e he
  ·rcases List.mem_cons.1 he with rfl | he
   ·have hd:=digit_at hI k
    exact dgt_okT h _ hd.1 hd.2
   ·exact grp_okT h he
theorem re_okT {r:Lm.Rec} {X:Pt.Pat} (h:It.LOk r X) {F:List Int} (hF:Dm.okD F) (n:Nat):∀ k,∀ e ∈ reI r n F k,okT e.2.1
 | 0,e,he=>by
  rw [reI_zero] at he
  simp only [List.mem_cons,List.not_mem_nil,or_false] at he
  subst he
  obtain ⟨h2,h3⟩:=sym_pln h.ok.dec
  exact bs_okT h2 (by omega)
 | k + 1,e,he=>by
  rw [reI_succ] at he
  rcases List.mem_append.1 he with he | he
  ·exact re_okT h hF n k e he
  ·simp only [List.mem_cons,List.not_mem_nil,or_false] at he
   subst he
   have hd:=digit_at hF k
   exact dgt_okT h _ hd.1 hd.2
theorem itm_okT {r:Lm.Rec} {X:Pt.Pat} (h:It.LOk r X) {d:Tm.T} (hI:Dm.okD d.i) (hF:Dm.okD d.f) (g:Bool):∀ e ∈ itm r X.pr X.se d (Lo.parP r (Ro.ahd g X)) (Lo.parP r (Ro.bhd g X)),okT e.2.1:=by
 have hm1:Ro.ahd g X ∈ Lm.affs X:=by cases g <;> simp [Ro.ahd,Lm.affs]
 have hm2:Ro.bhd g X ∈ Lm.affs X:=by cases g <;> simp [Ro.bhd,Lm.affs]
 intro e he
 unfold itm at he
 rcases List.mem_append.1 he with he | he
 ·rcases List.mem_append.1 he with he | he
  ·rcases List.mem_append.1 he with he | he
   ·obtain ⟨p,hp,rfl⟩:=List.mem_map.1 he
    exact aff_okT h hm1 hp
   ·exact wh_okT h hI _ e he
  ·unfold resI at he
   split at he
   ·exact re_okT h hF _ _ e he
   ·cases he
 ·obtain ⟨p,hp,rfl⟩:=List.mem_map.1 he
  exact aff_okT h hm2 hp
theorem tx_len:∀ (l:List E),(∀ e ∈ l,okT e.2.1) → (txI l).length ≤ 64 * l.length
 | [],_=>Nat.le_refl _
 | e :: l,h=>by
  have h1:=tx_len l fun x hx=>h x (List.mem_cons_of_mem _ hx)
  have h2:=(h e List.mem_cons_self).2
  have ht:txI (e :: l) = e.2.1.data.toList ++ txI l:=by unfold txI;rw [List.flatMap_cons]
  rw [ht,List.length_append,size_list,List.length_cons]
  omega
end Im
end Go.Proofs.YtghfdapfnoeanaaGreatDoor
namespace Go.Proofs.YtghfdapfnoeanaaGreatDoor
namespace Im
open Um Cm Gm
theorem cnt_take (p:E → Bool) (l:List E) (k:Nat) (hk:k < l.length):(l.take (k + 1)).countP p = (l.take k).countP p + if p (l.getD k e0) = true then 1 else 0:=by
 rw [List.take_add_one,List.getElem?_eq_getElem hk,List.countP_append,List.getD_eq_getElem?_getD,List.getElem?_eq_getElem hk]
 simp [List.countP_cons]
theorem cnt_le (p:E → Bool) (l:List E) (k:Nat):(l.take k).countP p ≤ k:=Nat.le_trans List.countP_le_length (by rw [List.length_take];omega)
theorem mem_at (l:List E) (k:Nat) (hk:k < l.length):l.getD k e0 ∈ l:=by
 rw [List.getD_eq_getElem?_getD,List.getElem?_eq_getElem hk]
 exact List.getElem_mem hk
theorem aff_tag {r:Lm.Rec} {l:List Pb.E} {e:E} (h:e ∈ affI r l):(e.1 = 0 ∨ e.1 = 1) ∧ e.2.2 = -1 ∧ (e.1 = 1 → e.2.1 = Lm.bs r.min):=by
 obtain ⟨p,_,rfl⟩:=List.mem_map.1 h
 unfold affE
 by_cases h1:p.1 = true
 ·rw [if_pos h1];exact ⟨.inr rfl,rfl,fun _=>rfl⟩
 ·rw [if_neg h1];exact ⟨.inl rfl,rfl,fun h=>by cases h⟩
theorem wh_tag {r:Lm.Rec} {p s:Int} {I:List Int}:∀ k,∀ e ∈ whI r p s I k,e.1 = 2 ∨ (e.1 = 3 ∧ e.2.2 = -1)
 | 0,e,he=>by cases he
 | k + 1,e,he=>by
  rw [whI_succ] at he
  rcases List.mem_append.1 he with he | he
  ·exact wh_tag k e he
  ·rcases List.mem_cons.1 he with rfl | he
   ·exact .inl rfl
   ·unfold grpI at he
    split at he
    ·simp only [List.mem_cons,List.not_mem_nil,or_false] at he
     subst he;exact .inr ⟨rfl,rfl⟩
    ·cases he
theorem re_tag {r:Lm.Rec} {n:Nat} {F:List Int}:∀ k,∀ e ∈ reI r n F k,e.1 = 2 ∨ e.1 = 4
 | 0,e,he=>by
  rw [reI_zero] at he
  simp only [List.mem_cons,List.not_mem_nil,or_false] at he
  subst he;exact .inr rfl
 | k + 1,e,he=>by
  rw [reI_succ] at he
  rcases List.mem_append.1 he with he | he
  ·exact re_tag k e he
  ·simp only [List.mem_cons,List.not_mem_nil,or_false] at he
   subst he;exact .inl rfl
theorem res_tag {r:Lm.Rec} {d:Tm.T} {e:E} (he:e ∈ resI r d):e.1 = 2 ∨ e.1 = 4:=by
 unfold resI at he
 split at he
 ·exact re_tag _ e he
 ·cases he
def sgB (e:E):Bool:=e.1 == 1
theorem cnt_no {p:E → Bool} {l:List E} (h:∀ e ∈ l,p e = false):l.countP p = 0:=by
 rw [List.countP_eq_zero]
 intro e he
 rw [h e he];simp
def gpB (e:E):Bool:=e.1 == 3
theorem wh_cnt (r:Lm.Rec) (p s:Int) (I:List Int):∀ k,k ≤ I.length → cntE p s I.length = cntE p s (I.length - k) + (whI r p s I k).countP gpB
 | 0,_=>by rw [whI_zero];simp
 | k + 1,hk=>by
  rw [wh_cnt r p s I k (by omega),whI_succ,List.countP_append]
  have h1:=cntE_succ p s (I.length - (k + 1))
  rw [show I.length - (k + 1) + 1 = I.length - k from by omega] at h1
  rw [h1]
  have h2:((I.length - (k + 1):Nat):Int) = (I.length:Int) - 1 - k:=by omega
  rw [h2]
  have h3:(dgE r (I.getD k 0) k :: grpI r ((I.length:Int) - 1 - k) p s).countP gpB = if endB ((I.length:Int) - 1 - k) p s = true then 1 else 0:=by
   unfold grpI
   split <;> rfl
  rw [h3]
  omega
def tg (l:List E) (i:Nat):Int:=(l.getD i e0).1
theorem tg_left (a b:List E) (i:Nat) (h:i < a.length):tg (a ++ b) i = tg a i:=by
 unfold tg
 rw [List.getD_eq_getElem?_getD,List.getD_eq_getElem?_getD,List.getElem?_append_left h]
theorem tg_right (a b:List E) (i:Nat):tg (a ++ b) (a.length + i) = tg b i:=by
 unfold tg
 rw [List.getD_eq_getElem?_getD,List.getD_eq_getElem?_getD,List.getElem?_append_right (by omega),Nat.add_sub_cancel_left]
theorem wh_inv (r:Lm.Rec) (p s:Int) (I:List Int):∀ k,(∀ i,i < (whI r p s I k).length → tg (whI r p s I k) i = 3 → 0 < i ∧ tg (whI r p s I k) (i - 1) = 2 ∧ (i + 1 < (whI r p s I k).length → tg (whI r p s I k) (i + 1) = 2)) ∧
  (0 < (whI r p s I k).length → tg (whI r p s I k) ((whI r p s I k).length - 1) = 3 → endB ((I.length:Int) - k) p s = true)
 | 0=>⟨fun i hi=>by simp [whI] at hi,fun h=>by simp [whI] at h⟩
 | k + 1=>by
  obtain ⟨h1,h2⟩:=wh_inv r p s I k
  rw [whI_succ]
  generalize whI r p s I k = W at *
  have e0':tg (W ++ (dgE r (I.getD k 0) k :: grpI r ((I.length:Int) - 1 - k) p s)) W.length = 2:=by
   have:=tg_right W (dgE r (I.getD k 0) k :: grpI r ((I.length:Int) - 1 - k) p s) 0
   rw [Nat.add_zero] at this
   rw [this];rfl
  unfold grpI at *
  by_cases hb:endB ((I.length:Int) - 1 - k) p s = true
  ·rw [if_pos hb] at *
   have e1:tg (W ++ [dgE r (I.getD k 0) k,(3,Lm.bs r.grp,-1)]) (W.length + 1) = 3:=by rw [tg_right];rfl
   refine ⟨fun i hi ht=>?_,fun _ _=>by rw [show (I.length:Int) - ((k + 1:Nat):Int) = (I.length:Int) - 1 - k from by omega];exact hb⟩
   simp only [List.length_append,List.length_cons,List.length_nil] at hi ⊢
   by_cases hi1:i < W.length
   ·rw [tg_left _ _ i hi1] at ht
    obtain ⟨q1,q2,q3⟩:=h1 i hi1 ht
    refine ⟨q1,by rw [tg_left _ _ _ (by omega)];exact q2,fun _=>?_⟩
    by_cases hi2:i + 1 < W.length
    ·rw [tg_left _ _ _ hi2];exact q3 hi2
    ·rw [show i + 1 = W.length from by omega];exact e0'
   ·by_cases hi2:i = W.length
    ·rw [hi2,e0'] at ht;omega
    ·have:i = W.length + 1:=by omega
     subst this
     exact ⟨by omega,by rw [Nat.add_sub_cancel];exact e0',fun h=>by omega⟩
  ·rw [if_neg hb] at *
   refine ⟨fun i hi ht=>?_,fun _ ht=>?_⟩
   ·simp only [List.length_append,List.length_cons,List.length_nil] at hi ⊢
    by_cases hi1:i < W.length
    ·rw [tg_left _ _ i hi1] at ht
     obtain ⟨q1,q2,q3⟩:=h1 i hi1 ht
     refine ⟨q1,by rw [tg_left _ _ _ (by omega)];exact q2,fun _=>?_⟩
     by_cases hi2:i + 1 < W.length
     ·rw [tg_left _ _ _ hi2];exact q3 hi2
     ·rw [show i + 1 = W.length from by omega];exact e0'
    ·rw [show i = W.length from by omega,e0'] at ht;omega
   ·simp only [List.length_append,List.length_cons,List.length_nil] at ht
    rw [show W.length + (0 + 1) - 1 = W.length from by omega,e0'] at ht
    omega
theorem row_at {q:E → Bool} {f:Nat → E} {N:Nat} {l:List E} (hf:l.filter q = (List.range N).map f) (hat:∀ j,(f j).2.2 = (j:Int)) (hno:∀ e ∈ l,q e = false → e.2.2 = -1) (i:Nat) (hi:i < l.length) (hq:q (l.getD i e0) = true) :
  (l.take i).countP q < N ∧ l.getD i e0 = f ((l.take i).countP q):=by
 have h1:l.getD i e0 = l[i]:=by rw [List.getD_eq_getElem?_getD,List.getElem?_eq_getElem hi];rfl
 have h2:l = l.take i ++ (l[i] :: l.drop (i + 1)):=by rw [← List.drop_eq_getElem_cons hi,List.take_append_drop]
 have h3:l.filter q = (l.take i).filter q ++ (l[i] :: (l.drop (i + 1)).filter q):=by
  conv=>lhs;rw [h2]
  rw [List.filter_append,List.filter_cons,if_pos (by rw [← h1];exact hq)]
 have h4:((List.range N).map f)[((l.take i).filter q).length]? = some l[i]:=by
  rw [← hf,h3,List.getElem?_append_right (Nat.le_refl _),Nat.sub_self]
  rfl
 rw [List.countP_eq_length_filter]
 have h5:((l.take i).filter q).length < N:=by
  have:=(List.getElem?_eq_some_iff.1 h4).1
  simpa using this
 refine ⟨h5,?_⟩
 rw [List.getElem?_map,List.getElem?_range h5] at h4
 rw [h1]
 exact (Option.some.inj h4).symm
theorem cnt_mono (q:E → Bool) (l:List E) {j i:Nat} (h:j < i) (hi:i ≤ l.length) (hq:q (l.getD j e0) = true):(l.take j).countP q < (l.take i).countP q:=by
 have h1:=cnt_take q l j (by omega)
 rw [if_pos hq] at h1
 have h2:(l.take (j + 1)).countP q ≤ (l.take i).countP q:=by
  have e:l.take (j + 1) = (l.take i).take (j + 1):=by rw [List.take_take,Nat.min_eq_left (by omega)]
  rw [e]
  exact (List.take_sublist (j + 1) (l.take i)).countP_le
 omega
theorem fnd_skip (p:E → Bool) (l:List E) (i:Nat) (hi:i ≤ l.length) (h:∀ j,j < i → p (l.getD j e0) = false):fndI p (l.drop 0) 0 = fndI p (l.drop i) i:=by
 induction i with
 | zero=>rfl
 | succ i ih =>
  rw [ih (by omega) (fun j hj=>h j (by omega)),fndI_at p l i (by omega),h i (by omega)]
  rfl
theorem row_fnd {q:E → Bool} {f:Nat → E} {N:Nat} {l:List E} (hf:l.filter q = (List.range N).map f) (hat:∀ j,(f j).2.2 = (j:Int)) (hno:∀ e ∈ l,q e = false → e.2.2 = -1) (i:Nat) (hi:i < l.length) (hq:q (l.getD i e0) = true) :
  fndI (fun x=>x.2.2 == (((l.take i).countP q:Nat):Int)) l 0 = (i:Int):=by
 obtain ⟨h1,h2⟩:=row_at hf hat hno i hi hq
 have h3:=fnd_skip (fun x=>x.2.2 == (((l.take i).countP q:Nat):Int)) l i (by omega) (fun j hj=>by
  rw [beq_eq_false_iff_ne]
  cases hqj:q (l.getD j e0)
  ·rw [hno _ (mem_at l j (by omega)) hqj];omega
  ·obtain ⟨g1,g2⟩:=row_at hf hat hno j (by omega) hqj
   have g3:=cnt_mono q l hj (by omega) hqj
   rw [g2,hat];omega)
 rw [List.drop_zero] at h3
 rw [h3,fndI_at _ l i hi]
 rw [if_pos (by rw [h2,hat];simp)]
def atB (e:E):Bool:=e.1 == 2 || e.1 == 4
def atE (r:Lm.Rec) (L:List Int) (j:Nat):E:=if L.getD j 0 = 10 then (4,Lm.bs r.dec,(j:Int)) else dgE r (L.getD j 0) j
theorem atE_at (r:Lm.Rec) (L:List Int) (j:Nat):(atE r L j).2.2 = (j:Int):=by
 unfold atE
 split <;> rfl
theorem row_filter (r:Lm.Rec) (p s n:Int) (L:List Int):∀ k,(rowI r p s n L k).filter atB = (List.range k).map (atE r L)
 | 0=>rfl
 | k + 1=>by
  rw [rowI_succ,List.filter_append,row_filter r p s n L k,List.range_succ,List.map_append]
  congr 1
  show (stpI r p s n L k).filter atB = [atE r L k]
  unfold stpI atE grpI
  split
  ·rfl
  ·split <;> rfl
theorem aff_filter (r:Lm.Rec) (l:List Pb.E):(affI r l).filter atB = []:=by
 rw [List.filter_eq_nil_iff]
 intro e he
 unfold atB
 rcases (aff_tag he).1 with h | h <;> rw [h] <;> simp
theorem itm_filter (r:Lm.Rec) (p s:Int) (d:Tm.T) (hm:Tm.may d = true) (A B:List Pb.E):(itm r p s d A B).filter atB = (List.range (Tm.ats d).length).map (atE r (Tm.ats d)):=by
 rw [itm_mid,← row_all r p s d hm,List.filter_append,List.filter_append,aff_filter,aff_filter,row_filter]
 simp
theorem itm_no {r:Lm.Rec} {p s:Int} {d:Tm.T} {A B:List Pb.E} {e:E} (he:e ∈ itm r p s d A B) (h:atB e = false):e.2.2 = -1:=by
 unfold itm at he
 unfold atB at h
 rcases List.mem_append.1 he with he | he
 ·rcases List.mem_append.1 he with he | he
  ·rcases List.mem_append.1 he with he | he
   ·exact (aff_tag he).2.1
   ·rcases wh_tag _ e he with h1 | h1
    ·rw [h1] at h;simp at h
    ·exact h1.2
  ·rcases res_tag he with h1 | h1 <;> rw [h1] at h <;> simp at h
 ·exact (aff_tag he).2.1
end Im
end Go.Proofs.YtghfdapfnoeanaaGreatDoor
namespace Go.Proofs.YtghfdapfnoeanaaGreatDoor
namespace Vm
open Um Cm Gm Im
def off (l:List E) (i:Nat):Nat:=(txI (l.take i)).length
theorem off_zero (l:List E):off l 0 = 0:=rfl
theorem off_succ (l:List E) (i:Nat) (hi:i < l.length):off l (i + 1) = off l i + (l.getD i e0).2.1.size:=by
 unfold off
 rw [txI_take l i hi,List.length_append,size_list]
theorem off_all (l:List E):off l l.length = (txI l).length:=by unfold off;rw [List.take_length]
theorem off_le (l:List E) {i j:Nat} (h:i ≤ j) (hj:j ≤ l.length):off l i ≤ off l j:=by
 induction j with
 | zero=>rw [show i = 0 from by omega];exact Nat.le_refl _
 | succ j ih =>
  by_cases he:i = j + 1
  ·rw [he];exact Nat.le_refl _
  ·have:=ih (by omega) (by omega)
   have:=off_succ l j (by omega)
   omega
def full (l:List E):Prop:=∀ e ∈ l,1 ≤ e.2.1.size
theorem full_of {l:List E} (h:∀ e ∈ l,okT e.2.1):full l:=by
 intro e he
 have h1:=pln_ne (h e he).1
 rw [← size_list]
 have:=List.length_pos_iff.2 h1
 omega
theorem off_lt {l:List E} (hf:full l) {i j:Nat} (h:i < j) (hj:j ≤ l.length):off l i < off l j:=by
 have h1:=off_succ l i (by omega)
 have h2:=hf _ (mem_at l i (by omega))
 have h3:=off_le l (show i + 1 ≤ j by omega) hj
 omega
def ix (l:List E) (j:Nat):Nat:=(fndI (fun x=>x.2.2 == (j:Int)) l 0).toNat
theorem has_at (q:E → Bool) (l:List E) (j:Nat):∀ n,n ≤ l.length → j < (l.take n).countP q → ∃ i,i < n ∧ q (l.getD i e0) = true ∧ (l.take i).countP q = j
 | 0,_,h=>by simp at h
 | n + 1,hn,h=>by
  by_cases h1:j < (l.take n).countP q
  ·obtain ⟨i,hi,h2,h3⟩:=has_at q l j n (by omega) h1
   exact ⟨i,by omega,h2,h3⟩
  ·rw [cnt_take q l n (by omega)] at h
   by_cases h2:q (l.getD n e0) = true
   ·rw [if_pos h2] at h
    exact ⟨n,by omega,h2,by omega⟩
   ·rw [if_neg h2] at h
    omega
structure Rw (l:List E) (f:Nat → E) (N:Nat):Prop where
 fl:l.filter atB = (List.range N).map f
 at':∀ j,(f j).2.2 = (j:Int)
 no:∀ e ∈ l,atB e = false → e.2.2 = -1
 ful:full l
theorem Rw.cnt {l:List E} {f:Nat → E} {N:Nat} (h:Rw l f N):l.countP atB = N:=by
 rw [List.countP_eq_length_filter,h.fl];simp
theorem Rw.ix_at {l:List E} {f:Nat → E} {N:Nat} (h:Rw l f N) {i:Nat} (hi:i < l.length) (hq:atB (l.getD i e0) = true):ix l ((l.take i).countP atB) = i:=by
 unfold ix
 rw [row_fnd h.fl h.at' h.no i hi hq]
 omega
theorem Rw.ix_of {l:List E} {f:Nat → E} {N:Nat} (h:Rw l f N) {j:Nat} (hj:j < N):ix l j < l.length ∧ atB (l.getD (ix l j) e0) = true ∧ (l.take (ix l j)).countP atB = j ∧ l.getD (ix l j) e0 = f j:=by
 obtain ⟨i,hi,h2,h3⟩:=has_at atB l j l.length (Nat.le_refl _) (by rw [List.take_length,h.cnt];exact hj)
 have h4:=h.ix_at hi h2
 rw [h3] at h4
 rw [h4]
 have h5:=(row_at h.fl h.at' h.no i hi h2).2
 rw [h3] at h5
 exact ⟨hi,h2,h3,h5⟩
theorem Rw.ix_lt {l:List E} {f:Nat → E} {N:Nat} (h:Rw l f N) {i j:Nat} (hij:i < j) (hj:j < N):ix l i < ix l j:=by
 obtain ⟨a1,a2,a3,_⟩:=h.ix_of (show i < N by omega)
 obtain ⟨b1,b2,b3,_⟩:=h.ix_of hj
 by_cases hlt:ix l i < ix l j
 ·exact hlt
 ·by_cases he:ix l i = ix l j
  ·rw [he] at a3;omega
  ·have:=cnt_mono atB l (show ix l j < ix l i by omega) (by omega) b2
   omega
def stp (l:List E) (a0:Nat) (k:Nat):Nat:=if k = 0 then off l a0 else off l (ix l (k - 1) + 1)
theorem stp_zero (l:List E) (a0:Nat):stp l a0 0 = off l a0:=rfl
theorem stp_succ (l:List E) (a0 k:Nat):stp l a0 (k + 1) = off l (ix l k + 1):=by unfold stp;rw [if_neg (by omega)];rfl
def ahead (l:List E) (a0:Nat):Prop:=a0 ≤ l.length ∧ (l.take a0).countP atB = 0
theorem ahead_ix {l:List E} {f:Nat → E} {N a0:Nat} (h:Rw l f N) (ha:ahead l a0) {j:Nat} (hj:j < N):a0 ≤ ix l j:=by
 obtain ⟨b1,b2,b3,_⟩:=h.ix_of hj
 by_cases hlt:ix l j < a0
 ·have:=cnt_mono atB l hlt ha.1 b2
  rw [ha.2] at this
  omega
 ·omega
theorem stp_lt {l:List E} {f:Nat → E} {N a0:Nat} (h:Rw l f N) (ha:ahead l a0) {i k:Nat} (hik:i < k) (hk:k ≤ N):stp l a0 i < stp l a0 k:=by
 obtain ⟨k,rfl⟩:∃ q,k = q + 1:=⟨k - 1,by omega⟩
 obtain ⟨b1,_⟩:=h.ix_of (show k < N by omega)
 rw [stp_succ]
 cases i with
 | zero =>
  rw [stp_zero]
  have:=ahead_ix h ha (show k < N by omega)
  exact off_lt h.ful (by omega) (by omega)
 | succ i =>
  rw [stp_succ]
  have:=h.ix_lt (show i < k by omega) (by omega)
  exact off_lt h.ful (by omega) (by omega)
theorem stp_le {l:List E} {f:Nat → E} {N a0:Nat} (h:Rw l f N) (ha:ahead l a0) {k:Nat} (hk:k ≤ N):stp l a0 k ≤ (txI l).length:=by
 rw [← off_all]
 cases k with
 | zero=>rw [stp_zero];exact off_le l ha.1 (Nat.le_refl _)
 | succ k =>
  rw [stp_succ]
  obtain ⟨b1,_⟩:=h.ix_of (show k < N by omega)
  exact off_le l (by omega) (Nat.le_refl _)
def sofar (l:List E) (k i:Nat):Nat:=if min ((l.take i).countP atB) k = 0 then 0 else off l (ix l (min ((l.take i).countP atB) k - 1) + 1)
theorem sofar_zero (l:List E) (k:Nat):sofar l k 0 = 0:=by unfold sofar;simp
theorem sofar_step {l:List E} {f:Nat → E} {N:Nat} (h:Rw l f N) (k i:Nat) (hi:i < l.length) :
  sofar l k (i + 1) = if 0 ≤ (l.getD i e0).2.2 ∧ (l.getD i e0).2.2 < (k:Int) then off l (i + 1) else sofar l k i:=by
 unfold sofar
 rw [cnt_take atB l i hi]
 by_cases hq:atB (l.getD i e0) = true
 ·rw [if_pos hq]
  obtain ⟨h1,h2⟩:=row_at h.fl h.at' h.no i hi hq
  have h3:=h.ix_at hi hq
  generalize (l.take i).countP atB = c at *
  rw [h2,h.at']
  by_cases hc:c < k
  ·rw [if_pos (show 0 ≤ (c:Int) ∧ (c:Int) < (k:Int) from by omega),if_neg (by omega),show min (c + 1) k - 1 = c from by omega,h3]
  ·rw [if_neg (show ¬ (0 ≤ (c:Int) ∧ (c:Int) < (k:Int)) from by omega),show min (c + 1) k = min c k from by omega]
 ·have hq':atB (l.getD i e0) = false:=by simpa using hq
  rw [if_neg hq,h.no _ (mem_at l i hi) hq',Nat.add_zero,if_neg (show ¬ (0 ≤ (-1:Int) ∧ (-1:Int) < (k:Int)) from by omega)]
theorem sofar_end {l:List E} {f:Nat → E} {N:Nat} (h:Rw l f N) (a0 k:Nat) (hk:k + 1 ≤ N):sofar l (k + 1) l.length = stp l a0 (k + 1):=by
 unfold sofar
 rw [List.take_length,h.cnt,stp_succ,if_neg (by omega),show min N (k + 1) - 1 = k from by omega]
def near (s:Nat → Int) (o:Int):Nat → Nat
 | 0=>0
 | n + 1=>if s n ≤ o then n else near s o n
theorem near_zero (s:Nat → Int) (o:Int):near s o 0 = 0:=rfl
theorem near_succ (s:Nat → Int) (o:Int) (n:Nat):near s o (n + 1) = if s n ≤ o then n else near s o n:=rfl
theorem near_at {s:Nat → Int} {o:Int} {k:Nat} (h:s k ≤ o):∀ n,k < n → (∀ j,k < j → j < n → o < s j) → near s o n = k
 | 0,hk,_=>by omega
 | n + 1,hk,hj=>by
  rw [near_succ]
  by_cases he:k = n
  ·subst he;rw [if_pos h]
  ·have:=hj n (by omega) (by omega)
   rw [if_neg (by omega)]
   exact near_at h n (by omega) (fun j h1 h2=>hj j h1 (by omega))
theorem near_back {s:Nat → Int} {N:Nat} (hs:∀ i j,i < j → j ≤ N → s i < s j) {k:Nat} (hk:k ≤ N):near s (s k) (N + 1) = k ∧ (1 ≤ k → near s (s k - 1) (N + 1) = k - 1):=by
 refine ⟨near_at (Int.le_refl _) _ (by omega) (fun j h1 h2=>hs k j h1 (by omega)),fun h1=>?_⟩
 have h2:=hs (k - 1) k (by omega) hk
 refine near_at (by omega) _ (by omega) (fun j h3 h4=>?_)
 by_cases he:j = k
 ·subst he;omega
 ·have:=hs k j (by omega) (by omega);omega
def tag (l:List E) (o:Int):Nat → Int
 | 0=>-1
 | n + 1=>let i:=l.length - (n + 1);if (off l i:Int) ≤ o ∧ o < (off l i:Int) + ((l.getD i e0).2.1.size:Int) then (l.getD i e0).1 else tag l o n
theorem tag_at {l:List E} (i:Nat) (hi:i < l.length) {o:Int} (h1:(off l i:Int) ≤ o) (h2:o < off l (i + 1)):∀ n,l.length - n ≤ i → n ≤ l.length → tag l o n = (l.getD i e0).1
 | 0,h,_=>by omega
 | n + 1,h,hn=>by
  unfold tag
  dsimp only
  by_cases he:l.length - (n + 1) = i
  ·rw [he]
   have:=off_succ l i hi
   rw [if_pos (by omega)]
  ·have h3:=off_succ l (l.length - (n + 1)) (by omega)
   have h4:=off_le l (show l.length - (n + 1) + 1 ≤ i by omega) (by omega)
   rw [if_neg (by omega)]
   exact tag_at i hi h1 h2 n (by omega) (by omega)
theorem tag_none {l:List E} {o:Int} (h:o < 0 ∨ ((txI l).length:Int) ≤ o):∀ n,n ≤ l.length → tag l o n = -1
 | 0,_=>rfl
 | n + 1,hn=>by
  unfold tag
  dsimp only
  have h3:=off_succ l (l.length - (n + 1)) (by omega)
  have h4:=off_le l (show l.length - (n + 1) + 1 ≤ l.length by omega) (Nat.le_refl _)
  rw [off_all] at h4
  rw [if_neg (by omega)]
  exact tag_none h n (by omega)
theorem off_begins:∀ (l:List E),(∀ e ∈ l,pln e.2.1.data.toList = true) → ∀ i,i ≤ l.length → ((off l i:Nat):Int) ∈ stL1 (txI l):=by
 intro l hl i hi
 by_cases he:i = l.length
 ·subst he
  rw [off_all]
  unfold stL1
  simp
 ·have h1:l = l.take i ++ l.drop i:=(List.take_append_drop i l).symm
  have h2:txI l = txI (l.take i) ++ txI (l.drop i):=by
   conv=>lhs;rw [h1]
   unfold txI
   rw [List.flatMap_append]
  have ha:=(pcs_tx (l.take i) fun e h=>hl e (List.mem_of_mem_take h)).2
  have hb:=(pcs_tx (l.drop i) fun e h=>hl e (List.mem_of_mem_drop h)).2
  have hne:txI (l.drop i) ≠ []:=by
   rw [List.drop_eq_getElem_cons (by omega)]
   unfold txI
   rw [List.flatMap_cons]
   have:=pln_ne (hl _ (List.getElem_mem (show i < l.length by omega)))
   intro h
   exact this (List.append_eq_nil_iff.1 h).1
  have hb':pln (txI (l.drop i)) = true:=hb.resolve_left hne
  unfold off stL1
  rw [List.mem_append]
  refine .inl ?_
  rw [h2]
  rcases ha with ha | ha
  ·rw [ha,List.nil_append]
   obtain ⟨r,hr,_⟩:=begL_ne _ hne
   rw [hr]
   simp
  ·have hpa:okL (txI (l.take i)) = true:=by unfold pln at ha;simp only [Bool.and_eq_true] at ha;exact ha.1
   have hj:jn (stMs (marks (txI (l.take i)))) (cls (mrk (txI (l.drop i))).1) = false:=by
    unfold pln at ha hb'
    simp only [Bool.and_eq_true] at ha hb'
    obtain ⟨_,c,r,hc,h0⟩:=(plain_iff _).1 hb'.2
    have e:(mrk (txI (l.drop i))).1 = c:=by
     unfold allL at hc
     rw [marks_cons _ hne,List.map_cons] at hc
     exact (List.cons.inj hc).1
    rw [e,h0]
    refine Im.jn_zero _ ?_
    unfold stMs
    refine stL_k7 _ (fun x hx=>?_)
    have:=((plain_iff _).1 ha.2).1 x hx
    omega
   rw [begL_part _ _ (ok_marks hpa _) hne hj,List.mem_append]
   refine .inr ?_
   obtain ⟨r,hr,_⟩:=begL_ne _ hne
   rw [hr]
   simp
end Vm
end Go.Proofs.YtghfdapfnoeanaaGreatDoor
namespace Go.Proofs.YtghfdapfnoeanaaGreatDoor
open Go.RowKit
namespace It
open Um Im Lo
theorem digit_ok (g0:Nat) (r:Lm.Rec) (X:Pt.Pat) (a b c d cl:Value) (x:Int) (w:World) (hB:LB w g0 r X a b c d cl) (h0:0 ≤ x) (h9:x ≤ 9) :
  Calls Tryz.prog 103 #[.pointer (some ⟨g0,0,none⟩),.int .i64 x] w fun e w'=>e = .returned (.string (Lm.dgt r x.toNat)) ∧ Q w w':=by
 have h:=digit_in g0 r X a b c d cl x.toNat w hB (by omega)
 rwa [show ((x.toNat:Nat):Int) = x from by omega] at h
set_option maxRecDepth 100000 in
set_option maxHeartbeats 3200000 in
theorem whole_any (g0:Nat) (r:Lm.Rec) (X:Pt.Pat) (a b c d cl:Value) (g s:Bool) (e1 e2:Option Addr) (m1 m2 f1 f2:Nat) (I F:List Int) (w:World) (hB:LB w g0 r X a b c d cl) (hi:Lst w (.slice e1 m1 f1) I) (k1:I.length = m1) (l1:m1 ≤ 1000) (hI:Dm.okD I) (hc2:f2 ≤ maxLen) (hn2:m2 ≤ f2) :
  Calls Tryz.prog 110 #[.pointer (some ⟨g0,0,none⟩),.agg #[.bool g,.slice e1 m1 f1,.bool s,.slice e2 m2 f2]] w fun e w'=>∃ x,e = .returned x ∧ OwnI 121 w' w.heap.size x (whI r X.pr X.se I I.length) ∧ Q w w':=by
 have HV:=Lib.hid (fun u (q:Q w u) k (h:k < m1)=>(hi.q q).cellOf k1 h)
 have hr:=fun u (q:Q w u)=>Ro.record_any g0 r X a b c d cl u (hB.q q)
 unfold recV at hr
 have HR:=Lib.hid hr
 have HSZ:=Lib.hid (fun u (q:Q w u)=>sizes_any g0 r X a b c d cl u (hB.q q))
 have HDG:=Lib.hid (fun x (h0:0 ≤ x) (h9:x ≤ 9) u (q:Q w u)=>digit_ok g0 r X a b c d cl x u (hB.q q) h0 h9)
 have HEN:=Lib.hid (fun l u (l0:-9223372036854775808 ≤ l) (l1:l ≤ 9223372036854775807)=>It.ends_any l X.pr X.se u l0 l1)
 have HDX:=Lib.hid (digit_at hI)
 have hws:=whI_succ r X.pr X.se I
 rw [k1] at hws
 have HWS:=Lib.hid hws
 have HWL:=Lib.hid (whI_len r X.pr X.se I)
 have HWZ:=Lib.hid (whI_zero r X.pr X.se I)
 have HGR:=Lib.hid (show ∀ l,grpI r l X.pr X.se = if endB l X.pr X.se = true then [(3,Lm.bs r.grp,-1)] else [] from fun _=>rfl)
 have HDE:=Lib.hid (show ∀ x i,dgE r x i = (2,Lm.dgt r x.toNat,i) from fun _ _=>rfl)
 have HF:=Lib.hid (fun u=>fldG u (Lm.bs r.nam) (Lm.bs r.pat) (Lm.bs r.sys) (Lm.bs r.dec) (Lm.bs r.grp) (Lm.bs r.min) (Lm.bs r.per) (Lm.bs r.cur))
 have hic:=hi.form0 k1
 obtain ⟨_,_,hv,hnc,hcm⟩:=hic
 cases hv
 rw [k1]
 unfold maxLen at hcm hc2
 clear hr hws hB hi k1 hI
 generalize whI r X.pr X.se I = WI at *
 generalize X.pr = p0 at *
 generalize X.se = p1 at *
 generalize Lm.bs r.nam = s0 at *
 generalize Lm.bs r.pat = s1 at *
 generalize Lm.bs r.sys = s2 at *
 generalize Lm.bs r.dec = s3 at *
 generalize Lm.bs r.grp = s4 at *
 generalize Lm.bs r.min = s5 at *
 generalize Lm.bs r.per = s6 at *
 generalize Lm.bs r.cur = s7 at *
 obtain ⟨z,hz⟩:∃ z,z = w.alloc (.cells #[.bool g,.slice e1 m1 f1,.bool s,.slice e2 m2 f2] 70):=⟨_,rfl⟩
 have HQZ:=Lib.hid (show Q w z by rw [hz];exact (Q.refl w).alloc _)
 have HDZ:=Lib.hid (show Bk z w.heap.size 70 [.bool g,.slice e1 m1 f1,.bool s,.slice e2 m2 f2] by rw [hz];exact Bk.new _ _ _)
 go_enter Tryz.func110,Tryz.ntmps110
 go_upto_region 1 with fail
 rw [← hz]
 clear hz
 obtain ⟨bd,hbd⟩:∃ b,b = w.heap.size:=⟨_,rfl⟩
 rw [← hbd] at HDZ ⊢
 clear hbd
 go_wp2_with fail
 refine (HSZ.out _ HQZ.out).mono ?_
 rintro e w1 ⟨rfl,hq1⟩
 have HQ1:=Lib.hid (HQZ.out.trans hq1)
 have HD1:=Lib.hid (HDZ.out.q hq1)
 clear hq1
 have y1:=HD1.out.cell 1 rfl
 go_wp2_with fail
 clear y1
 go_loopw [5,17] (fun x i wr=>∃ k:Nat,i = .int .i64 k ∧ k ≤ m1 ∧ OwnI 121 wr w1.heap.size x (WI k) ∧ Q w1 wr) (fun _ i _=>m1 - (intOf i).toNat)
 case atStart=>exact ⟨0,rfl,by omega,by rw [HWZ.out];exact OwnI.nil _ _ _,Q.refl _⟩
 case round =>
  obtain ⟨k,rfl,hk,ho,hq⟩:=hrel
  by_cases hlt:k < m1
  ·have hwl:=HWL.out k
   obtain ⟨ol,hol2⟩:∃ n,n = (WI k).length:=⟨_,rfl⟩
   rw [← hol2] at hwl
   obtain ⟨oa,oc,rfl,_,_⟩:=ho.lst.form0 hol2.symm
   have HOL:=Lib.hid hol2
   clear hol2
   have HQR:=Lib.hid (HQ1.out.trans hq)
   obtain ⟨gg,off,cap,hvv,hg,_,_,c1'⟩:=HV.out wr HQR.out k hlt
   cases hvv
   have HWK:=Lib.hid (HWS.out k)
   have hdx:=HDX.out k
   have HEK:=Lib.hid (fun u=>HEN.out ((m1:Int) - 1 - k) u (by omega) (by omega))
   generalize I.getD k 0 = x at *
   rw [HDE.out,HGR.out] at HWK
   have HDX2:=Lib.hid (fun u q=>HDG.out x hdx.1 hdx.2 u q)
   generalize Lm.dgt r x.toNat = D at *
   have HO:=Lib.hid ho
   have HQ:=Lib.hid hq
   have HDR:=Lib.hid (HD1.out.q hq)
   have y1:=HDR.out.cell 1 rfl
   clear ho hq
   go_wp2_with fail
   refine (HDX2.out _ HQR.out).mono ?_
   rintro e w2 ⟨rfl,hq2⟩
   clear y1 c1'
   have HQ2:=Lib.hid (HQ.out.trans hq2)
   have HO2:=Lib.hid (HO.out.q hq2)
   have HD2:=Lib.hid (HDR.out.q hq2)
   have hle2:=HQ2.out.le
   clear hq2
   go_wp2_with (at_builtin;refine Im.push elP HO2.out rfl _ _ rfl 2 D (k:Int) (by rfl) (by rfl) (by rw [← HOL.out];omega) hle2 ?_)
   intro v3 w3 ho3 hg3 hat3
   have HQ3:=Lib.hid (HQ2.out.grown hg3 (fun j h=>(HO2.out.lt j h).1))
   have HO3:=Lib.hid ho3
   have HD3:=Lib.hid (HD1.out.q HQ3.out)
   have y1:=HD3.out.cell 1 rfl
   have hl3:=ho3.lst.form0 (n:=ol + 1) (by rw [List.length_append,← HOL.out];rfl)
   obtain ⟨a3,c3,rfl,_,_⟩:=hl3
   clear ho3 hg3 hat3 hle2
   go_wp2_with fail
   refine (HEK.out _).mono ?_
   rintro e w4 ⟨rfl,rfl⟩
   clear y1
   cases heb:endB ((m1:Int) - 1 - k) p0 p1
   ·have HO4:=Lib.hid (show OwnI 121 w3 w1.heap.size (.slice a3 (ol + 1) c3) (WI (k + 1)) by rw [HWK.out,heb];simpa using HO3.out)
    clear heb
    go_wp2_with fail
    exact ⟨⟨k + 1,by go_num,by omega,HO4.out,HQ3.out⟩,by simp [intOf];omega⟩
   ·have HW4:=Lib.hid (show WI (k + 1) = WI k ++ [(2,D,(k:Int))] ++ [(3,s4,-1)] by rw [HWK.out,heb];simp)
    clear heb
    go_wp2_with fail
    refine (HR.out _ (HQ1.out.trans HQ3.out)).mono ?_
    rintro e w5 ⟨rfl,hq5⟩
    have HQ5:=Lib.hid (HQ3.out.trans hq5)
    have HO5:=Lib.hid (HO3.out.q hq5)
    have hle5:=HQ5.out.le
    have hf:=HF.out w5
    clear hq5
    go_wp2_with (at_builtin;refine Im.push elP HO5.out rfl _ _ rfl 3 s4 (-1) (by rfl) (by rfl) (by rw [List.length_append,← HOL.out];simp;omega) hle5 ?_)
    intro v6 w6 ho6 hg6 hat6
    have HQ6:=Lib.hid (HQ5.out.grown hg6 (fun j h=>(HO5.out.lt j h).1))
    have HO6:=Lib.hid (show OwnI 121 w6 w1.heap.size v6 (WI (k + 1)) by rw [HW4.out];simpa [List.append_assoc] using ho6)
    clear ho6 hg6 hat6 hf
    go_wp2_with fail
    exact ⟨⟨k + 1,by go_num,by omega,HO6.out,HQ6.out⟩,by simp [intOf];omega⟩
  ·obtain rfl:k = m1:=by omega
   have HO:=Lib.hid (ho.mono HQ1.out.le)
   have HQ:=Lib.hid (HQ1.out.trans hq)
   clear ho hq
   go_wp2_with fail
   go_ret
   exact ⟨_,rfl,HO.out,HQ.out⟩
end It
end Go.Proofs.YtghfdapfnoeanaaGreatDoor
namespace Go.Proofs.YtghfdapfnoeanaaGreatDoor
namespace Vm
open Um Im
theorem itm_take (r:Lm.Rec) (p s:Int) (d:Tm.T) (A B:List Pb.E):(itm r p s d A B).take A.length = affI r A:=by
 have e:itm r p s d A B = affI r A ++ (whI r p s d.i d.i.length ++ (resI r d ++ affI r B)):=by unfold itm;simp [List.append_assoc]
 rw [e,List.take_append_of_le_length (by rw [affI_len];omega),List.take_of_length_le (by rw [affI_len];omega)]
theorem itm_ahead (r:Lm.Rec) (p s:Int) (d:Tm.T) (A B:List Pb.E):ahead (itm r p s d A B) A.length:=by
 refine ⟨?_,?_⟩
 ·unfold itm
  simp only [List.length_append,affI_len]
  omega
 ·rw [itm_take]
  refine cnt_no fun e he=>?_
  unfold atB
  rcases (aff_tag he).1 with h | h <;> rw [h] <;> rfl
theorem itm_rw {r:Lm.Rec} {X:Pt.Pat} (h:It.LOk r X) {d:Tm.T} (hm:Tm.may d = true) (g:Bool):Rw (itm r X.pr X.se d (Lo.parP r (Ro.ahd g X)) (Lo.parP r (Ro.bhd g X))) (atE r (Tm.ats d)) (Tm.ats d).length :=
 ⟨itm_filter r X.pr X.se d hm _ _,atE_at r _,fun e he hq=>itm_no he hq,full_of (itm_okT h (Tm.may_dig hm).1 (Tm.may_dig hm).2.1 g)⟩
theorem tag_stp {l:List E} {f:Nat → E} {N a0:Nat} (h:Rw l f N) {k:Nat} (hk:k < N):tag l ((stp l a0 (k + 1):Int) - 1) l.length = 2 ∨ tag l ((stp l a0 (k + 1):Int) - 1) l.length = 4:=by
 obtain ⟨b1,b2,_,_⟩:=h.ix_of hk
 rw [stp_succ]
 have h1:=off_succ l (ix l k) b1
 have h2:=h.ful _ (mem_at l (ix l k) b1)
 rw [tag_at (ix l k) b1 (by omega) (by omega) l.length (by omega) (Nat.le_refl _)]
 unfold atB at b2
 rw [Bool.or_eq_true] at b2
 rcases b2 with b2 | b2
 ·exact .inl (by simpa using b2)
 ·exact .inr (by simpa using b2)
theorem tag_zero {r:Lm.Rec} {p s:Int} {d:Tm.T} {A B:List Pb.E} (hf:full (itm r p s d A B)):tag (itm r p s d A B) ((stp (itm r p s d A B) A.length 0:Int) - 1) (itm r p s d A B).length ≠ 3:=by
 rw [stp_zero]
 obtain ⟨ha,_⟩:=itm_ahead r p s d A B
 by_cases h0:A.length = 0
 ·rw [h0,off_zero,tag_none (.inl (by omega)) _ (Nat.le_refl _)]
  omega
 ·obtain ⟨j,hj⟩:∃ j,A.length = j + 1:=⟨A.length - 1,by omega⟩
  have hjl:j < (itm r p s d A B).length:=by omega
  have h1:=off_succ (itm r p s d A B) j hjl
  have h2:=hf _ (mem_at (itm r p s d A B) j hjl)
  rw [hj,tag_at j hjl (by omega) (by omega) _ (by omega) (Nat.le_refl _)]
  have h3:(itm r p s d A B).getD j e0 ∈ affI r A:=by
   rw [← itm_take r p s d A B]
   have:(itm r p s d A B).getD j e0 = ((itm r p s d A B).take A.length).getD j e0:=by
    rw [List.getD_eq_getElem?_getD,List.getD_eq_getElem?_getD,List.getElem?_take,if_pos (by omega)]
   rw [this]
   exact mem_at _ j (by rw [List.length_take];omega)
  rcases (aff_tag h3).1 with h | h <;> omega
def dgx (r:Lm.Rec):Nat → Nat
 | 0=>0
 | k + 1=>max (dgx r k) (Lm.dgt r k).size
theorem dgx_ge (r:Lm.Rec):∀ n k,k < n → (Lm.dgt r k).size ≤ dgx r n
 | n + 1,k,h=>by
  unfold dgx
  by_cases he:k = n
  ·subst he;exact Nat.le_max_right _ _
  ·exact Nat.le_trans (dgx_ge r n k (by omega)) (Nat.le_max_left _ _)
theorem tx_app (a b:List E):txI (a ++ b) = txI a ++ txI b:=by unfold txI;rw [List.flatMap_append]
def afx (r:Lm.Rec) (A B:List Pb.E):Nat:=(txI (affI r A)).length + (txI (affI r B)).length
def bnd (r:Lm.Rec) (X:Pt.Pat) (W R:Nat):Nat :=
 max (afx r (Lo.parP r (Ro.ahd false X)) (Lo.parP r (Ro.bhd false X))) (afx r (Lo.parP r (Ro.ahd true X)) (Lo.parP r (Ro.bhd true X))) + (W + R) * dgx r 10 + r.dec.length + (if 0 < X.pr ∧ 0 < W then (W - 1) * r.grp.length else 0)
theorem wh_bytes (r:Lm.Rec) (p s:Int) (I:List Int) (hI:Dm.okD I):∀ k,(txI (whI r p s I k)).length ≤ k * dgx r 10 + (whI r p s I k).countP gpB * r.grp.length
 | 0=>by rw [whI_zero];simp [txI]
 | k + 1=>by
  have ih:=wh_bytes r p s I hI k
  have hd:=digit_at hI k
  have h1:=dgx_ge r 10 (I.getD k 0).toNat (by omega)
  rw [whI_succ,tx_app,List.length_append,List.countP_append,Nat.add_mul,Nat.add_mul]
  have h2:(txI (dgE r (I.getD k 0) k :: grpI r ((I.length:Int) - 1 - k) p s)).length ≤ dgx r 10 + (dgE r (I.getD k 0) k :: grpI r ((I.length:Int) - 1 - k) p s).countP gpB * r.grp.length:=by
   unfold grpI
   split
   ·have e1:[dgE r (I.getD k 0) k,(3,Lm.bs r.grp,-1)].countP gpB = 1:=rfl
    rw [e1]
    unfold txI dgE
    simp only [List.flatMap_cons,List.flatMap_nil,List.append_nil,List.length_append,size_list,Lm.bs_size]
    omega
   ·have e1:[dgE r (I.getD k 0) k].countP gpB = 0:=rfl
    rw [e1]
    unfold txI dgE
    simp only [List.flatMap_cons,List.flatMap_nil,List.append_nil,List.length_append,size_list]
    omega
  omega
theorem re_bytes (r:Lm.Rec) (n:Nat) (F:List Int) (hF:Dm.okD F):∀ k,(txI (reI r n F k)).length ≤ r.dec.length + k * dgx r 10
 | 0=>by
  rw [reI_zero]
  unfold txI
  simp only [List.flatMap_cons,List.flatMap_nil,List.append_nil,size_list,Lm.bs_size]
  omega
 | k + 1=>by
  have ih:=re_bytes r n F hF k
  have hd:=digit_at hF k
  have h1:=dgx_ge r 10 (F.getD k 0).toNat (by omega)
  rw [reI_succ,tx_app,List.length_append,Nat.add_mul]
  have h2:(txI [dgE r (F.getD k 0) ((n:Int) + ((k + 1:Nat):Int))]).length ≤ dgx r 10:=by
   unfold txI dgE
   simp only [List.flatMap_cons,List.flatMap_nil,List.append_nil,size_list]
   exact h1
  omega
theorem bnd_ge {r:Lm.Rec} {X:Pt.Pat} (hp:0 ≤ X.pr) {d:Tm.T} (hI:Dm.okD d.i) (hF:Dm.okD d.f) (g:Bool):(txI (itm r X.pr X.se d (Lo.parP r (Ro.ahd g X)) (Lo.parP r (Ro.bhd g X)))).length ≤ bnd r X d.i.length d.f.length:=by
 unfold itm
 rw [tx_app,tx_app,tx_app]
 simp only [List.length_append]
 have h1:=wh_bytes r X.pr X.se d.i hI d.i.length
 have h2:(txI (resI r d)).length ≤ r.dec.length + d.f.length * dgx r 10:=by
  unfold resI
  split
  ·exact re_bytes r _ d.f hF _
  ·simp [txI]
 have h3:afx r (Lo.parP r (Ro.ahd g X)) (Lo.parP r (Ro.bhd g X)) ≤ max (afx r (Lo.parP r (Ro.ahd false X)) (Lo.parP r (Ro.bhd false X))) (afx r (Lo.parP r (Ro.ahd true X)) (Lo.parP r (Ro.bhd true X))):=by
  cases g
  ·exact Nat.le_max_left _ _
  ·exact Nat.le_max_right _ _
 have h4:(whI r X.pr X.se d.i d.i.length).countP gpB * r.grp.length ≤ (if 0 < X.pr ∧ 0 < d.i.length then (d.i.length - 1) * r.grp.length else 0):=by
  have h5:=wh_cnt r X.pr X.se d.i d.i.length (Nat.le_refl _)
  rw [Nat.sub_self,cntE_zero,Nat.zero_add] at h5
  have h6:=cntE_eq X.pr X.se d.i.length hp
  rw [← h5]
  by_cases h7:0 < X.pr ∧ 0 < d.i.length
  ·rw [if_pos h7]
   refine Nat.mul_le_mul_right _ ?_
   obtain ⟨n,hn⟩:∃ n,d.i.length = n + 1:=⟨d.i.length - 1,by omega⟩
   rw [hn]
   -- none ends where no digits are behind
   have h8:∀ m:Nat,cntE X.pr X.se (m + 1) ≤ m:=by
    intro m
    induction m with
    | zero=>rw [cntE_succ,cntE_zero,endB_low (by omega)];simp
    | succ m ih=>rw [cntE_succ];split <;> omega
   exact h8 n
  ·rw [if_neg h7]
   have h8:grp d.i.length X.pr X.se = 0:=grp_none (by omega)
   rw [h8] at h6
   have h9:cntE X.pr X.se d.i.length = 0:=by omega
   rw [h9,Nat.zero_mul]
   exact Nat.le_refl _
 unfold bnd
 unfold afx at h3 ⊢
 rw [Nat.add_mul]
 omega
end Vm
end Go.Proofs.YtghfdapfnoeanaaGreatDoor
