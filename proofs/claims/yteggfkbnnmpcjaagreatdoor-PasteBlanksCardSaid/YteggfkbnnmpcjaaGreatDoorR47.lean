/- What the statements on items ask, as plain mathematics: signs, groups, atoms. (and more) -/
import Derived.Test.YteggfkbnnmpcjaaGreatDoorR45
set_option linter.all false
set_option maxRecDepth 100000
set_option maxHeartbeats 8000000
namespace Go.Proofs.YteggfkbnnmpcjaaGreatDoor
section
namespace Im
open Um Cm Gm
theorem cnt_le (p:E -> Bool) (l:List E) (k:Nat):(l.take k).countP p <= k:=Nat.le_trans List.countP_le_length (by rw [List.length_take];omega)
theorem aff_tag {r:Lm.Rec} {l:List Pb.E} {e:E} (h:e ∈ affI r l):(e.1 = 0 \/ e.1 = 1) /\ e.2.2 = -1 /\ (e.1 = 1 -> e.2.1 = Lm.bs r.min):=by
 obtain ⟨p,_,rfl⟩:=List.mem_map.1 h;unfold affE;by_cases h1:p.1 = true
 ·rw [if_pos h1];exact ⟨.inr rfl,rfl,fun _=>rfl⟩
 ·rw [if_neg h1];exact ⟨.inl rfl,rfl,fun h=>by cases h⟩
theorem wh_tag {r:Lm.Rec} {p s:Int} {I:List Int}:∀ k,∀ e ∈ whI r p s I k,e.1 = 2 \/ (e.1 = 3 /\ e.2.2 = -1)
 | 0,e,he=>by cases he
 | k + 1,e,he=>by
  rw [whI_succ] at he;rcases List.mem_append.1 he with he | he
  ·exact wh_tag k e he
  ·rcases List.mem_cons.1 he with rfl | he
   ·exact .inl rfl
   ·unfold grpI at he
    split at he
    ·simp only [List.mem_cons,List.not_mem_nil,or_false] at he
     subst he;exact .inr ⟨rfl,rfl⟩
    ·cases he
theorem re_tag {r:Lm.Rec} {n:Nat} {F:List Int}:∀ k,∀ e ∈ reI r n F k,e.1 = 2 \/ e.1 = 4
 | 0,e,he=>by
  rw [reI_zero] at he;simp only [List.mem_cons,List.not_mem_nil,or_false] at he;subst he;exact .inr rfl
 | k + 1,e,he=>by
  rw [reI_succ] at he;rcases List.mem_append.1 he with he | he
  ·exact re_tag k e he
  ·simp only [List.mem_cons,List.not_mem_nil,or_false] at he
   subst he;exact .inl rfl
theorem res_tag {r:Lm.Rec} {d:Tm.T} {e:E} (he:e ∈ resI r d):e.1 = 2 \/ e.1 = 4:=by
 unfold resI at he;split at he
 ·exact re_tag _ e he
 ·cases he
def sgB (e:E):Bool:=e.1 == 1
theorem aff_cnt (r:Lm.Rec) (l:List Pb.E):(affI r l).countP sgB = Ro.sgs l:=by
 unfold affI Ro.sgs;rw [List.countP_map];congr 1
 funext p
 show sgB (affE r p) = p.1;unfold sgB affE;cases p.1 <;> simp
def tg (l:List E) (i:Nat):Int:=(l.getD i e0).1
theorem tg_left (a b:List E) (i:Nat) (h:i < a.length):tg (a ++ b) i = tg a i:=by
 unfold tg;rw [List.getD_eq_getElem?_getD,List.getD_eq_getElem?_getD,List.getElem?_append_left h]
theorem tg_right (a b:List E) (i:Nat):tg (a ++ b) (a.length + i) = tg b i:=by
 unfold tg;rw [List.getD_eq_getElem?_getD,List.getD_eq_getElem?_getD,List.getElem?_append_right (by omega),Nat.add_sub_cancel_left]
theorem wh_inv (r:Lm.Rec) (p s:Int) (I:List Int):∀ k,(∀ i,i < (whI r p s I k).length -> tg (whI r p s I k) i = 3 -> 0 < i /\ tg (whI r p s I k) (i - 1) = 2 /\ (i + 1 < (whI r p s I k).length -> tg (whI r p s I k) (i + 1) = 2)) /\
  (0 < (whI r p s I k).length -> tg (whI r p s I k) ((whI r p s I k).length - 1) = 3 -> endB ((I.length:Int) - k) p s = true)
 | 0=>⟨fun i hi=>by simp [whI] at hi,fun h=>by simp [whI] at h⟩
 | k + 1=>by
  obtain ⟨h1,h2⟩:=wh_inv r p s I k;rw [whI_succ];generalize whI r p s I k = W at *;have e0':tg (W ++ (dgE r (I.getD k 0) k :: grpI r ((I.length:Int) - 1 - k) p s)) W.length = 2:=by
   have:=tg_right W (dgE r (I.getD k 0) k :: grpI r ((I.length:Int) - 1 - k) p s) 0;rw [Nat.add_zero] at this;rw [this];rfl
  unfold grpI at *;by_cases hb:endB ((I.length:Int) - 1 - k) p s = true
  ·rw [if_pos hb] at *
   have e1:tg (W ++ [dgE r (I.getD k 0) k,(3,Lm.bs r.grp,-1)]) (W.length + 1) = 3:=by rw [tg_right];rfl
   refine ⟨fun i hi ht=>?_,fun _ _=>by rw [show (I.length:Int) - ((k + 1:Nat):Int) = (I.length:Int) - 1 - k from by omega];exact hb⟩;simp only [List.length_append,List.length_cons,List.length_nil] at hi |-;by_cases hi1:i < W.length
   ·rw [tg_left _ _ i hi1] at ht
    obtain ⟨q1,q2,q3⟩:=h1 i hi1 ht;refine ⟨q1,by rw [tg_left _ _ _ (by omega)];exact q2,fun _=>?_⟩;by_cases hi2:i + 1 < W.length
    ·rw [tg_left _ _ _ hi2];exact q3 hi2
    ·rw [show i + 1 = W.length from by omega];exact e0'
   ·by_cases hi2:i = W.length
    ·rw [hi2,e0'] at ht;omega
    ·have:i = W.length + 1:=by omega
     subst this;exact ⟨by omega,by rw [Nat.add_sub_cancel];exact e0',fun h=>by omega⟩
  ·rw [if_neg hb] at *
   refine ⟨fun i hi ht=>?_,fun _ ht=>?_⟩
   ·simp only [List.length_append,List.length_cons,List.length_nil] at hi |-
    by_cases hi1:i < W.length
    ·rw [tg_left _ _ i hi1] at ht
     obtain ⟨q1,q2,q3⟩:=h1 i hi1 ht;refine ⟨q1,by rw [tg_left _ _ _ (by omega)];exact q2,fun _=>?_⟩;by_cases hi2:i + 1 < W.length
     ·rw [tg_left _ _ _ hi2];exact q3 hi2
     ·rw [show i + 1 = W.length from by omega];exact e0'
    ·rw [show i = W.length from by omega,e0'] at ht;omega
   ·simp only [List.length_append,List.length_cons,List.length_nil] at ht
    rw [show W.length + (0 + 1) - 1 = W.length from by omega,e0'] at ht;omega
def atB (e:E):Bool:=e.1 == 2 || e.1 == 4
def atE (r:Lm.Rec) (L:List Int) (j:Nat):E:=if L.getD j 0 = 10 then (4,Lm.bs r.dec,(j:Int)) else dgE r (L.getD j 0) j
theorem row_filter (r:Lm.Rec) (p s n:Int) (L:List Int):∀ k,(rowI r p s n L k).filter atB = (List.range k).map (atE r L)
 | 0=>rfl
 | k + 1=>by
  rw [rowI_succ,List.filter_append,row_filter r p s n L k,List.range_succ,List.map_append];congr 1
  show (stpI r p s n L k).filter atB = [atE r L k];unfold stpI atE grpI;split
  ·rfl
  ·split <;> rfl
theorem aff_filter (r:Lm.Rec) (l:List Pb.E):(affI r l).filter atB = []:=by
 rw [List.filter_eq_nil_iff];intro e he;unfold atB;rcases (aff_tag he).1 with h | h <;> rw [h] <;> simp
theorem itm_filter (r:Lm.Rec) (p s:Int) (d:Tm.T) (hm:Tm.may d = true) (A B:List Pb.E):(itm r p s d A B).filter atB = (List.range (Tm.ats d).length).map (atE r (Tm.ats d)):=by
 rw [itm_mid,<- row_all r p s d hm,List.filter_append,List.filter_append,aff_filter,aff_filter,row_filter];simp
theorem sgn_at {r:Lm.Rec} {X:Pt.Pat} (hO:Lm.Ok r X) {i:Nat} {x:ByteArray} (h:(Lm.syms r)[i]? = some x) (hi:i ≠ 11):Lm.sgn r x = i:=by
 have h0:=hO.ne i x h hi;unfold Lm.sgn;rw [if_neg (by omega),Lm.plc_nodup _ 0 i x hO.dis h];simp
theorem dgt_at (r:Lm.Rec) (k:Nat) (hk:k < 10):(Lm.syms r)[k]? = some (Lm.dgt r k):=by
 match k,hk with
 | 0,_=>rfl
 | 1,_=>rfl
 | 2,_=>rfl
 | 3,_=>rfl
 | 4,_=>rfl
 | 5,_=>rfl
 | 6,_=>rfl
 | 7,_=>rfl
 | 8,_=>rfl
 | 9,_=>rfl
end Im
end
section
open Go.RowKit
namespace It
open Um Lo Ro
theorem LB_row {u:World} {b0 g:Nat} {r:Lm.Rec} {X:Pt.Pat} {a b c d cl:Value} (hz:Bk u b0 31 zL) (h:LB u g r X a b c d cl) (cs:Array Value):LB (u.setRow b0 cs) g r X a b c d cl:=by
 have hne:g ≠ b0:=by
  rintro rfl;have h1:=h.1;unfold Bk at h1 hz;rw [hz] at h1;simp at h1
 exact ⟨Rw.Bk_other h.1 hne cs,LstP_aside h.2.1 hz zL_sep (row_same _ _ _),LstP_aside h.2.2.1 hz zL_sep (row_same _ _ _),LstP_aside h.2.2.2.1 hz zL_sep (row_same _ _ _),LstP_aside h.2.2.2.2 hz zL_sep (row_same _ _ _)⟩
def PL (w:World) (v:Value) (r:Lm.Rec) (X:Pt.Pat):Prop:=∃ g a b c d cl,v = .pointer (some ⟨g,0,none⟩) /\ LB w g r X a b c d cl
end It
end
section
namespace Im
open Um Cm Gm
def pln (l:List UInt8):Bool:=okL l && plainB (allL l)
theorem ok_marks {a:List UInt8} (h:okL a = true) (b:List UInt8):marks (a ++ b) = marks a ++ marks b:=by
 have e:=join_ok a h;have hv:=allL_vld a;have h1:=marks_join (allL a) b hv;rw [e] at h1;have h2:=marks_join0 (allL a) hv;rw [e] at h2;rw [h1,<- h2]
theorem allL_app {a:List UInt8} (h:okL a = true) (b:List UInt8):allL (a ++ b) = allL a ++ allL b:=by
 unfold allL;rw [ok_marks h b,List.map_append]
theorem okL_app {a b:List UInt8} (h:okL a = true) (k:okL b = true):okL (a ++ b) = true:=by
 unfold okL at *;rw [ok_marks h b,List.all_append,h,k];rfl
theorem plain_iff (l:List Int):plainB l = true ↔ (∀ c ∈ l,cls c = 0 \/ cls c = 4) /\ ∃ c r,l = c :: r /\ cls c = 0:=by
 unfold plainB plP;cases l with
 | nil=>simp
 | cons c r =>
  simp only [List.all_cons,Bool.and_eq_true,Bool.or_eq_true,beq_iff_eq,List.all_eq_true,decide_eq_true_eq,List.length_cons,List.mem_cons,List.cons.injEq];constructor
  ·rintro ⟨⟨⟨h1,h2⟩,h3⟩,_⟩
   refine ⟨fun x hx=>?_,c,r,⟨rfl,rfl⟩,h3⟩;rcases hx with rfl | hx
   ·exact h1
   ·exact h2 x hx
  ·rintro ⟨h1,c',r',⟨rfl,rfl⟩,h3⟩
   exact ⟨⟨⟨h1 c (.inl rfl),fun x hx=>h1 x (.inr hx)⟩,h3⟩,by omega⟩
theorem plain_app {a b:List Int} (h:plainB a = true) (k:∀ c ∈ b,cls c = 0 \/ cls c = 4):plainB (a ++ b) = true:=by
 rw [plain_iff] at *;obtain ⟨h1,c,r,rfl,h2⟩:=h;refine ⟨fun x hx=>?_,c,r ++ b,rfl,h2⟩;rcases List.mem_append.1 hx with hx | hx
 ·exact h1 x hx
 ·exact k x hx
theorem pln_app {a b:List UInt8} (h:pln a = true) (k:pln b = true):pln (a ++ b) = true:=by
 unfold pln at *;simp only [Bool.and_eq_true] at *;refine ⟨okL_app h.1 k.1,?_⟩;rw [allL_app h.1];exact plain_app h.2 ((plain_iff _).1 k.2).1
theorem pln_ne {a:List UInt8} (h:pln a = true):a ≠ []:=by
 rintro rfl;unfold pln at h;simp only [Bool.and_eq_true] at h;obtain ⟨_,c,r,h2,_⟩:=(plain_iff _).1 h.2;cases h2
theorem jn_zero (t:St) (h:t.k ≠ 7):jn t 0 = false:=by
 obtain ⟨a,d,s,o⟩:=t;simp only at h;have hs:sylB a 0 = false:=by
  unfold sylB;split
  ·decide
  ·split
   ·decide
   ·split <;> decide
 unfold jn pairB;simp only [show decide ((0:Int) = 14) = false from rfl,show decide ((0:Int) = 6) = false from rfl,Bool.and_false,Bool.or_false];split
 ·rfl
 ·rw [if_neg (by omega)]
  split
  ·rfl
  ·simp [h,hs]
theorem stL_k7 (X:List Int) (h:∀ c ∈ X,cls c ≠ 7):(stL X).k ≠ 7:=by
 cases hX:X with
 | nil=>decide
 | cons c r =>
  have hne:X ≠ []:=by rw [hX];simp
  obtain ⟨s,d,hs⟩:∃ s d,X = s ++ [d]:=⟨X.dropLast,X.getLast hne,(List.dropLast_concat_getLast hne).symm⟩;rw [<- hX,hs,stL_snoc];have h7:=h d (by rw [hs];simp);show ((cls d:Nat):Int) ≠ 7;omega
theorem pln_pcs {a b:ByteArray} (h:pln a.data.toList = true) (k:pln b.data.toList = true):pcs (a ++ b) = pcs a ++ pcs b:=by
 have hne:=pln_ne k;unfold pln at h k;simp only [Bool.and_eq_true] at h k;refine pcs_part a b (ok_marks h.1 _) (fun _=>?_);obtain ⟨_,c,r,hc,h0⟩:=(plain_iff _).1 k.2;have e:(mrk b.data.toList).1 = c:=by
  unfold allL at hc;rw [marks_cons _ hne,List.map_cons] at hc;exact (List.cons.inj hc).1
 rw [e,h0];refine jn_zero _ ?_;unfold stMs;refine stL_k7 _ (fun x hx=>?_);have:=((plain_iff _).1 h.2).1 x hx;omega
theorem pcs_emp:pcs ⟨#[]⟩ = []:=by
 have h:(pcs ⟨#[]⟩).length = 0:=by rw [pcs_length];rw [begL_zero]
 exact List.eq_nil_of_length_eq_zero h
theorem bs_app (a b:List UInt8):(⟨(a ++ b).toArray⟩:ByteArray) = (⟨a.toArray⟩:ByteArray) ++ ⟨b.toArray⟩:=by
 apply ByteArray.ext;rw [ByteArray.data_append];apply Array.ext';simp
theorem pcs_tx:∀ (l:List E),(∀ e ∈ l,pln e.2.1.data.toList = true) -> pcs ⟨(txI l).toArray⟩ = l.flatMap (fun e=>pcs e.2.1) /\ (txI l = [] \/ pln (txI l) = true)
 | [],_=>⟨pcs_emp,.inl rfl⟩
 | e :: l,h=>by
  obtain ⟨h1,h2⟩:=pcs_tx l (fun x hx=>h x (List.mem_cons_of_mem _ hx));have he:=h e List.mem_cons_self;have ht:txI (e :: l) = e.2.1.data.toList ++ txI l:=by unfold txI;rw [List.flatMap_cons]
  have hb:(⟨(e.2.1.data.toList).toArray⟩:ByteArray) = e.2.1:=by
   apply ByteArray.ext;simp
  rw [ht,List.flatMap_cons,<- h1];rcases h2 with h2 | h2
  ·rw [h2,List.append_nil,hb,pcs_emp,List.append_nil]
   exact ⟨rfl,.inr he⟩
  ·refine ⟨?_,.inr (pln_app he h2)⟩
   rw [bs_app,hb];exact pln_pcs he (by simpa using h2)
def pE (l:List UInt8):Prop:=l = [] \/ pln l = true
theorem pE_app {a b:List UInt8} (h:pE a) (k:pE b):pE (a ++ b):=by
 rcases h with rfl | h
 ·simpa using k
 ·rcases k with rfl | k
  ·rw [List.append_nil];exact .inr h
  ·exact .inr (pln_app h k)
theorem pE_flat {α:Type} (f:α -> List UInt8):∀ l:List α,(∀ x ∈ l,pE (f x)) -> pE (l.flatMap f)
 | [],_=>.inl rfl
 | x :: l,h=>by
  rw [List.flatMap_cons];exact pE_app (h x List.mem_cons_self) (pE_flat f l fun y hy=>h y (List.mem_cons_of_mem _ hy))
theorem word_pln {l:List UInt8} (h:Lm.wordB l = true):pln l = true /\ l.length <= 16:=by
 unfold Lm.wordB at h;simp only [Bool.and_eq_true,decide_eq_true_eq] at h;exact ⟨by unfold pln;simp only [Bool.and_eq_true];exact h.2,h.1⟩
theorem sym_pln {l:List UInt8} (h:Lm.symB l = true):pln l = true /\ l.length <= 16:=by
 unfold Lm.symB at h;simp only [Bool.and_eq_true] at h;exact word_pln h.1
theorem ptx_pE {r:Lm.Rec} {X:Pt.Pat} (h:It.LOk r X) {A:List Pc.E} (hA:A ∈ Lm.affs X) {x:Pc.E} (hx:x ∈ A):pE (Lm.ptx r x):=by
 have h1:=(h.ok.aff A hA).2 x hx;unfold Lm.ptx;by_cases h0:x.1 = 0
 ·rw [if_pos h0]
  refine .inr ?_;unfold pln;rw [h.tx A hA x hx,h1.2.2.1 h0];rfl
 ·rw [if_neg h0]
  by_cases h2:x.1 = 1
  ·rw [if_pos h2]
   rcases h.ok.cur with hw | hw
   ·exact .inr (word_pln hw).1
   ·exact .inl hw.1
  ·rw [if_neg h2]
   by_cases h3:x.1 = 2
   ·rw [if_pos h3]
    rcases h.ok.per with hw | hw
    ·exact .inr (word_pln hw).1
    ·exact .inl hw.1
   ·rw [if_neg h3];exact .inl rfl
theorem atx_pE {r:Lm.Rec} {X:Pt.Pat} (h:It.LOk r X) {A:List Pc.E} (hA:A ∈ Lm.affs X) (B:List Pc.E) (hB:∀ x ∈ B,x ∈ A):pE (Lm.atx r B) :=
 pE_flat _ B fun x hx=>ptx_pE h hA (hB x hx)
theorem parP_mem {r:Lm.Rec} {A:List Pc.E} {p:Pb.E} (h:p ∈ Lo.parP r A):p.1 = true \/ ∃ B,p.2 = Lm.atx r B /\ (∀ x ∈ B,x ∈ A) /\ p.2.length <= (Lm.atx r A).length:=by
 unfold Lo.parP at h;split at h
 ·have h1:=(List.mem_filter.1 h).1
  simp only [List.mem_cons,List.not_mem_nil,or_false] at h1;subst h1;exact .inr ⟨A,rfl,fun x hx=>hx,Nat.le_refl _⟩
 ·have h1:=(List.mem_filter.1 h).1
  simp only [List.mem_cons,List.not_mem_nil,or_false] at h1;rcases h1 with rfl | rfl | rfl
  ·exact .inr ⟨_,rfl,fun x hx=>List.mem_of_mem_take hx,(Lo.atx_le r A _).1⟩
  ·exact .inl rfl
  ·exact .inr ⟨_,rfl,fun x hx=>List.mem_of_mem_drop hx,(Lo.atx_le r A _).2⟩
def okT (t:ByteArray):Prop:=pln t.data.toList = true /\ t.size <= 64
theorem bs_okT {l:List UInt8} (h:pln l = true) (hl:l.length <= 64):okT (Lm.bs l):=⟨by rw [Lm.bs_list];exact h,by rw [Lm.bs_size];exact hl⟩
theorem aff_okT {r:Lm.Rec} {X:Pt.Pat} (h:It.LOk r X) {A:List Pc.E} (hA:A ∈ Lm.affs X) {p:Pb.E} (hp:p ∈ Lo.parP r A):okT (affE r p).2.1:=by
 have hf:=Ro.parP_fact r A (Ro.cnt_le r X A h.ok hA) (fun x hx h3=>((h.ok.aff A hA).2 x hx).2.2.2 (by omega));unfold affE;by_cases h1:p.1 = true
 ·rw [if_pos h1]
  obtain ⟨h2,h3⟩:=sym_pln h.ok.min;exact bs_okT h2 (by omega)
 ·rw [if_neg h1]
  rcases parP_mem hp with h2 | ⟨B,h2,h3,h4⟩
  ·exact absurd h2 h1
  ·have hlen:=h.ok.len A hA
   refine bs_okT ?_ (by omega);rcases atx_pE h hA B h3 with h5 | h5
   ·have h6:=hf.1 p hp
    rw [h2,h5] at h6;exact absurd h6 h1
   ·rw [h2];exact h5
theorem dig_cls:∀ p ∈ Sm.tab,∀ d:Nat,d < 10 -> cls (p.2 + (d:Int)) = 0 /\ vld (p.2 + (d:Int)) = true /\ (enc (p.2 + (d:Int))).length <= 4:=by decide +kernel
theorem dgt_okT {r:Lm.Rec} {X:Pt.Pat} (h:It.LOk r X) (x:Int) (h0:0 <= x) (h9:x <= 9):okT (Lm.dgt r x.toNat):=by
 have hz:=h.ok.sys;rcases Sm.nz_cases r.sys with hn | hn
 ·omega
 ·obtain ⟨h1,h2,h3⟩:=dig_cls _ hn x.toNat (by omega)
  dsimp only at h1 h2 h3;rw [Ro.dgt_enc hz x.toNat (by omega)];have he:=encB_list _ h2;generalize Sm.nz r.sys + (x.toNat:Int) = c0 at *;refine ⟨?_,?_⟩
  ·rw [he]
   have hj:joinL [c0] = enc c0:=by
    unfold joinL;rw [List.flatMap_cons,List.flatMap_nil,List.append_nil,Um.one,if_pos h2]
   have hvv:∀ c ∈ [c0],vld c = true:=by
    intro c hc;simp only [List.mem_cons,List.not_mem_nil,or_false] at hc;subst hc;exact h2
   unfold pln;rw [<- hj,okL_join _ hvv,allL_join _ hvv];unfold plainB plP;simp [h1]
  ·rw [<- size_list,he];omega
theorem grp_okT {r:Lm.Rec} {X:Pt.Pat} (h:It.LOk r X) {l:Int} {e:E} (he:e ∈ grpI r l X.pr X.se):okT e.2.1:=by
 unfold grpI at he;split at he
 ·rename_i hb
  simp only [List.mem_cons,List.not_mem_nil,or_false] at he;subst he;have hp:0 < X.pr:=by
   by_cases hp:X.pr < 1
   ·rw [endB_out (.inl hp)] at hb;cases hb
   ·omega
  obtain ⟨h2,h3⟩:=sym_pln (h.ok.grp1 hp);exact bs_okT h2 (by omega)
 ·cases he
theorem wh_okT {r:Lm.Rec} {X:Pt.Pat} (h:It.LOk r X) {I:List Int} (hI:Dm.okD I):∀ k,∀ e ∈ whI r X.pr X.se I k,okT e.2.1
 | 0,e,he=>by cases he
 | k + 1,e,he=>by
  rw [whI_succ] at he;rcases List.mem_append.1 he with he | he
  ·exact wh_okT h hI k e he
  ·rcases List.mem_cons.1 he with rfl | he
   ·have hd:=digit_at hI k
    exact dgt_okT h _ hd.1 hd.2
   ·exact grp_okT h he
theorem re_okT {r:Lm.Rec} {X:Pt.Pat} (h:It.LOk r X) {F:List Int} (hF:Dm.okD F) (n:Nat):∀ k,∀ e ∈ reI r n F k,okT e.2.1
 | 0,e,he=>by
  rw [reI_zero] at he;simp only [List.mem_cons,List.not_mem_nil,or_false] at he;subst he;obtain ⟨h2,h3⟩:=sym_pln h.ok.dec;exact bs_okT h2 (by omega)
 | k + 1,e,he=>by
  rw [reI_succ] at he;rcases List.mem_append.1 he with he | he
  ·exact re_okT h hF n k e he
  ·simp only [List.mem_cons,List.not_mem_nil,or_false] at he
   subst he;have hd:=digit_at hF k;exact dgt_okT h _ hd.1 hd.2
theorem itm_okT {r:Lm.Rec} {X:Pt.Pat} (h:It.LOk r X) {d:Tm.T} (hI:Dm.okD d.i) (hF:Dm.okD d.f) (g:Bool):∀ e ∈ itm r X.pr X.se d (Lo.parP r (Ro.ahd g X)) (Lo.parP r (Ro.bhd g X)),okT e.2.1:=by
 have hm1:Ro.ahd g X ∈ Lm.affs X:=by cases g <;> simp [Ro.ahd,Lm.affs]
 have hm2:Ro.bhd g X ∈ Lm.affs X:=by cases g <;> simp [Ro.bhd,Lm.affs]
 intro e he;unfold itm at he;rcases List.mem_append.1 he with he | he
 ·rcases List.mem_append.1 he with he | he
  ·rcases List.mem_append.1 he with he | he
   ·obtain ⟨p,hp,rfl⟩:=List.mem_map.1 he
    exact aff_okT h hm1 hp
   ·exact wh_okT h hI _ e he
  ·unfold resI at he
   split at he
   ·exact re_okT h hF _ _ e he
   ·cases he
 ·obtain ⟨p,hp,rfl⟩:=List.mem_map.1 he
  exact aff_okT h hm2 hp
theorem tx_len:∀ (l:List E),(∀ e ∈ l,okT e.2.1) -> (txI l).length <= 64 * l.length
 | [],_=>Nat.le_refl _
 | e :: l,h=>by
  have h1:=tx_len l fun x hx=>h x (List.mem_cons_of_mem _ hx);have h2:=(h e List.mem_cons_self).2;have ht:txI (e :: l) = e.2.1.data.toList ++ txI l:=by unfold txI;rw [List.flatMap_cons]
  rw [ht,List.length_append,size_list,List.length_cons];omega
end Im
end
end Go.Proofs.YteggfkbnnmpcjaaGreatDoor
