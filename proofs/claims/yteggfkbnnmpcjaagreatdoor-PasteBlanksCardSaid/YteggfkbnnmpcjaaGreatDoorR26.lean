/- What the functions on a character's class answer, by a walk through each. (and more) -/
import Derived.Test.YteggfkbnnmpcjaaGreatDoorR09
import Derived.BigGuardPart
set_option linter.all false
set_option maxRecDepth 100000
set_option maxHeartbeats 8000000
namespace Go.Proofs.YteggfkbnnmpcjaaGreatDoor
section
open Go.RowKit Cm
theorem syllable_any (c:Int) (w:World) (h:syll c) :
  Calls Tryz.prog 197 #[.int .i64 c] w fun e w'=>e = .returned (.int .i64 (cls c)) /\ w = w':=by
 obtain ⟨h1,h2⟩:=h;by_cases h0:(c - 44032) % 28 = 0
 ·have HF:Hid ((cls c:Int) = 12):=Hd (by rw [cls_lv ⟨h1,h2⟩ h0];rfl)
  go_enter Tryz.func197,Tryz.ntmps197
  go_wp2_with fail
  go_ret
  rw [HF.out];exact ⟨rfl,rfl⟩
 ·have HF:Hid ((cls c:Int) = 13):=Hd (by rw [cls_lvt ⟨h1,h2⟩ h0];rfl)
  go_enter Tryz.func197,Tryz.ntmps197
  go_wp2_with fail
  go_ret
  rw [HF.out];exact ⟨rfl,rfl⟩
theorem of_any (c:Int) (w:World) :
  Calls Tryz.prog 182 #[.int .i64 c] w fun e w'=>e = .returned (.int .i64 (cls c)) /\ Q w w':=by
 have hcw:(w.alloc (.cells #[.int .i64 c] 3)).cell? ⟨w.heap.size,0,none⟩ = some (.int .i64 c):=by
  rw [World.cell?_alloc_at _ _ _ _ rfl];rfl
 by_cases hs:syll c
 ·have HS:=Hd (fun w=>syllable_any c w hs)
  obtain ⟨h1,h2⟩:=hs;go_enter Tryz.func182,Tryz.ntmps182
  go_wp2_with fail
  refine (HS.out _).mono ?_;rintro e w' ⟨rfl,rfl⟩;go_wp2_with fail
  go_ret
  exact ⟨rfl,(Q.refl _).alloc _⟩
 ·have hs':¬ (44032 <= c /\ c <= 55203):=hs
  have HN:=Hd hs;have hcase:(44032 <= c /\ ¬ c <= 55203) \/ ¬ 44032 <= c:=by omega
  clear hs hs';rcases hcase with ⟨h1,h2⟩ | h1;all_goals
   go_enter Tryz.func182,Tryz.ntmps182
   go_wp2_with fail
   go_loopw [14] (fun i wr=>∃ j:Nat,i = .int .i64 j /\ j <= 15 /\ Q (w.alloc (.cells #[.int .i64 c] 3)) wr /\ ∀ m,m < j -> anyK c m = false) (fun i _=>15 - (intOf i).toNat)
   case atStart=>exact ⟨0,rfl,by omega,Q.refl _,fun m h=>by omega⟩
   case round =>
    obtain ⟨j,rfl,hj,hq,hall⟩:=hrel;have HA:=Hd hall;clear hall;by_cases hlt:j < 15
    ·have hsz:w.heap.size < wr.heap.size:=by have:=hq.le;simp at this;omega
     have hcr:wr.cell? ⟨w.heap.size,0,none⟩ = some (.int .i64 c):=(World.cell?_of_block (w:=w.alloc (.cells #[.int .i64 c] 3)) (hq.block (by simp))).trans hcw;have he:=each_of j c w.heap.size wr hsz hcr;have e1:(rowZ (j:Int)).any (inR c) = anyK c j:=by rw [rowZ_nat];rfl
     rw [e1] at he;clear e1;cases hb:anyK c j;all_goals
      rw [hb] at he;have HE:=Hd he;have HB:=Hd hb;clear he hb;go_wp2_with fail
      refine HE.out.mono ?_;rintro e w1 ⟨rfl,hq1⟩;go_wp2_with fail
     ·go_roundw
      case rel=>exact ⟨j + 1,by go_num,by omega,hq.trans hq1,fun m hm=>by
       by_cases h:m = j
       ·subst h;exact HB.out
       ·exact HA.out m (by omega)⟩
      case measure=>simp [intOf];omega
     ·go_ret
      rw [cls_at HN.out hlt HA.out HB.out];exact ⟨rfl,(((Q.refl _).alloc _).trans hq).trans hq1⟩
    ·have hje:j = 15:=by omega
     have hF:(cls c:Int) = 0:=by rw [cls_no HN.out (by rw [<- hje];exact HA.out)];rfl
     have HF:=Hd hF;clear hF hje;go_wp2_with fail
     go_ret
     rw [HF.out];exact ⟨rfl,((Q.refl _).alloc _).trans hq⟩
end
section
open Go.RowKit Cm
theorem blank_any (c:Int) (w:World) :
  Calls Tryz.prog 32 #[.int .i64 c] w fun e w'=>e = .returned (.bool (blankB c)) /\ w = w':=by
 by_cases h:c = 9 \/ c = 10 \/ c = 11 \/ c = 12 \/ c = 13 \/ c = 32 \/ c = 160 \/ c = 8201 \/ c = 8239
 ·rcases h with rfl | rfl | rfl | rfl | rfl | rfl | rfl | rfl | rfl
  all_goals
   go_enter Tryz.func32,Tryz.ntmps32
   go_wp2_with fail
   go_ret
   exact ⟨rfl,rfl⟩
 ·have HF:Hid (blankB c = false):=Hd (by
   unfold blankB blanks;rw [Bool.eq_false_iff];intro hc;have:=List.contains_iff_mem.1 hc;simp at this;exact h this)
  have e9:(c == 9) = false:=by rw [beq_eq_false_iff_ne];omega
  have e10:(c == 10) = false:=by rw [beq_eq_false_iff_ne];omega
  have e11:(c == 11) = false:=by rw [beq_eq_false_iff_ne];omega
  have e12:(c == 12) = false:=by rw [beq_eq_false_iff_ne];omega
  have e13:(c == 13) = false:=by rw [beq_eq_false_iff_ne];omega
  have e32:(c == 32) = false:=by rw [beq_eq_false_iff_ne];omega
  have e160:(c == 160) = false:=by rw [beq_eq_false_iff_ne];omega
  have e8201:(c == 8201) = false:=by rw [beq_eq_false_iff_ne];omega
  have e8239:(c == 8239) = false:=by rw [beq_eq_false_iff_ne];omega
  clear h;go_enter Tryz.func32,Tryz.ntmps32
  go_wp2_with fail
  go_ret
  rw [HF.out];exact ⟨rfl,rfl⟩
theorem plain_any (v:Value) (xs:List Int) (w:World) (hv:Lst w v xs) (hx:xs.length <= 1073741824) :
  Calls Tryz.prog 154 #[v] w fun e w'=>e = .returned (.bool (plainB xs)) /\ Q w w':=by
 obtain ⟨a,cp,rfl⟩:=hv.shape;obtain ⟨n,hn⟩:∃ n,n = xs.length:=⟨_,rfl⟩;rw [<- hn] at hv hx |-;have HN:=Hd hn;clear hn;go_enter Tryz.func154,Tryz.ntmps154
 go_wp2_with fail
 go_loopw [8] (fun i wr=>∃ j:Nat,i = .int .i64 j /\ j <= n /\ Q w wr /\ plP (xs.take j) = true) (fun i _=>n - (intOf i).toNat)
 case atStart=>exact ⟨0,rfl,by omega,Q.refl _,rfl⟩
 case round =>
  obtain ⟨j,rfl,hj,hq,hpl⟩:=hrel;have HP:=Hd hpl;clear hpl;by_cases hlt:j < n
  ·obtain ⟨g,off,cap,hvv,hg,_,_,hca⟩:=hv.cellOf HN.out.symm hlt
   cases hvv;have c1:wr.cell? ⟨g,off + j,none⟩ = some (.int .i64 (xs.getD j 0)):=(World.cell?_of_block (w:=w) (hq.block hg)).trans hca;have HT:=Hd (plP_take xs j (by rw [<- HN.out];exact hlt));have HFT:=Hd (plP_false_take xs (j + 1));clear hca;obtain ⟨c,hc⟩:∃ c,c = xs.getD j 0:=⟨_,rfl⟩;rw [<- hc] at c1 HT;clear hc;obtain ⟨k,hk⟩:∃ k,k = cls c:=⟨_,rfl⟩;have hof:=fun w=>of_any c w;rw [<- hk] at hof HT;have HOF:=Hd hof
   clear hof hk;have hres:∀ b,plP (xs.take (j + 1)) = b -> b = false -> plainB xs = false:=by
    intro b h1 h2;unfold plainB;rw [HFT.out (h1.trans h2)];rfl
   have HRES:=Hd hres;clear hres;have hcase:(k = 0 /\ j = 0) \/ (k = 0 /\ 0 < j) \/ (k = 4 /\ j = 0) \/ (k = 4 /\ 0 < j) \/ (¬ k = 0 /\ ¬ k = 4):=by omega
   rcases hcase with ⟨rfl,rfl⟩ | ⟨rfl,h0⟩ | ⟨rfl,rfl⟩ | ⟨rfl,h0⟩ | ⟨h0,h4⟩
   ·have HB:Hid (plP (xs.take (0 + 1)) = true):=Hd (by rw [HT.out,HP.out];simp)
    rw [Nat.add_zero] at c1;go_wp2_with fail
    refine (HOF.out _).mono ?_;rintro e w1 ⟨rfl,hq1⟩;go_wp2_with fail
    go_roundw
    case rel=>exact ⟨0 + 1,by go_num,by omega,hq.trans hq1,HB.out⟩
    case measure=>simp [intOf];omega
   ·have HB:Hid (plP (xs.take (j + 1)) = true):=Hd (by rw [HT.out,HP.out];simp)
    have e1:((j:Int) == 0) = false:=by rw [beq_eq_false_iff_ne];omega
    go_wp2_with fail
    refine (HOF.out _).mono ?_;rintro e w1 ⟨rfl,hq1⟩;go_wp2_with fail
    go_roundw
    case rel=>exact ⟨j + 1,by go_num,by omega,hq.trans hq1,HB.out⟩
    case measure=>simp [intOf];omega
   ·have HB:Hid (plainB xs = false):=Hd (HRES.out _ rfl (by rw [HT.out,HP.out];simp))
    rw [Nat.add_zero] at c1;go_wp2_with fail
    refine (HOF.out _).mono ?_;rintro e w1 ⟨rfl,hq1⟩;go_wp2_with fail
    go_ret
    rw [HB.out];exact ⟨rfl,hq.trans hq1⟩
   ·have HB:Hid (plP (xs.take (j + 1)) = true):=Hd (by rw [HT.out,HP.out];simp [h0])
    have e1:((j:Int) == 0) = false:=by rw [beq_eq_false_iff_ne];omega
    go_wp2_with fail
    refine (HOF.out _).mono ?_;rintro e w1 ⟨rfl,hq1⟩;go_wp2_with fail
    go_roundw
    case rel=>exact ⟨j + 1,by go_num,by omega,hq.trans hq1,HB.out⟩
    case measure=>simp [intOf];omega
   ·have HB:Hid (plainB xs = false):=Hd (HRES.out _ rfl (by rw [HT.out,HP.out];simp [h0,h4]))
    have e1:((k:Int) == 0) = false:=by rw [beq_eq_false_iff_ne];omega
    have e2:((k:Int) == 4) = false:=by rw [beq_eq_false_iff_ne];omega
    have e3:((k:Int) != 0) = true:=by rw [bne_iff_ne];omega
    have e4:((k:Int) != 4) = true:=by rw [bne_iff_ne];omega
    go_wp2_with fail
    refine (HOF.out _).mono ?_;rintro e w1 ⟨rfl,hq1⟩;go_wp2_with fail
    all_goals
     go_ret
     rw [HB.out];exact ⟨rfl,hq.trans hq1⟩
  ·have hje:j = n:=by omega
   have hF:plainB xs = decide (0 < n):=by
    have:=HP.out;rw [List.take_of_length_le (by rw [<- HN.out];omega)] at this;unfold plainB;rw [this,<- HN.out];rfl
   have HF:=Hd hF;clear hF hje;go_wp2_with fail
   go_ret
   rw [HF.out];exact ⟨retB (by simp),hq⟩
end
section
open Go.RowKit Um Cm Gm
theorem alone_any (k:Int) (w:World) :
  Calls Tryz.prog 200 #[.int .i64 k] w fun e w'=>e = .returned (.bool (alB k)) /\ w = w':=by
 go_enter Tryz.func200,Tryz.ntmps200
 go_wp2_with fail
 all_goals go_ret
 all_goals exact ⟨retB (by simp_all [alB] <;> rfl),rfl⟩
theorem syl_any (a k:Int) (w:World) :
  Calls Tryz.prog 201 #[.int .i64 a,.int .i64 k] w fun e w'=>e = .returned (.bool (sylB a k)) /\ w = w':=by
 go_enter Tryz.func201,Tryz.ntmps201
 go_wp2_with fail
 all_goals go_ret
 all_goals exact ⟨retB (by simp_all [sylB] <;> rfl),rfl⟩
theorem pair_any (a k:Int) (w:World) :
  Calls Tryz.prog 184 #[.int .i64 a,.int .i64 k] w fun e w'=>e = .returned (.bool (pairB a k)) /\ w = w':=by
 go_enter Tryz.func184,Tryz.ntmps184
 go_wp2_with (first | (go_at_call 200;refine (alone_any _ _).mono ?_;rintro e w' ⟨rfl,rfl⟩) | (go_at_call 201;refine (syl_any _ _ _).mono ?_;rintro e w' ⟨rfl,rfl⟩))
 all_goals go_ret
 all_goals exact ⟨retB (by simp_all [pairB] <;> rfl),rfl⟩
def JS (w:World) (b:Nat) (t:St):Prop :=
 Boxed w b 3 (.int .i64 t.k) /\ Boxed w (b + 1) 4 (.bool t.d) /\ Boxed w (b + 1 + 1) 4 (.bool t.s) /\ Boxed w (b + 1 + 1 + 1) 4 (.bool t.o)
theorem JS.q {w w':World} {b:Nat} {t:St} (h:JS w b t) (hq:Q w w'):JS w' b t:=⟨bx_q h.1 hq,bx_q h.2.1 hq,bx_q h.2.2.1 hq,bx_q h.2.2.2 hq⟩
theorem JS.gap {w w':World} {b lo hi:Nat} {t:St} (h:JS w b t) (hg:Gap lo hi w w') (ho:b + 4 <= lo \/ hi <= b):JS w' b t :=
 ⟨bx_gap h.1 hg (by omega),bx_gap h.2.1 hg (by omega),bx_gap h.2.2.1 hg (by omega),bx_gap h.2.2.2 hg (by omega)⟩
theorem JS.lt {w:World} {b:Nat} {t:St} (h:JS w b t):b + 4 <= w.heap.size:=by have:=h.2.2.2.lt;omega
theorem joiner_any (w:World) :
  Calls Tryz.prog 159 #[] w fun e w'=>e = .returned (.func (.func 183) #[] #[.pointer (some ⟨w.heap.size,0,none⟩),.pointer (some ⟨w.heap.size + 1 + 1,0,none⟩),.pointer (some ⟨w.heap.size + 1 + 1 + 1,0,none⟩),.pointer (some ⟨w.heap.size + 1,0,none⟩)])
   /\ JS w' w.heap.size st0 /\ Q w w' /\ w'.heap.size = w.heap.size + 4:=by
 go_enter Tryz.func159,Tryz.ntmps159
 go_wp2_with fail
 go_ret
 refine ⟨rfl,⟨?_,?_,?_,?_⟩,(((Q.refl w).alloc _).alloc _ |>.alloc _).alloc _,by simp⟩
 ·exact (((Boxed.new w _ _).alloc _).alloc _).alloc _
 ·have:=((Boxed.new (w.alloc (.cells #[.int .i64 (-1)] 3)) 4 (.bool false)).alloc (.cells #[.bool false] 4)).alloc (.cells #[.bool false] 4)
  rw [World.size_alloc] at this;exact this
 ·have:=(Boxed.new ((w.alloc (.cells #[.int .i64 (-1)] 3)).alloc (.cells #[.bool false] 4)) 4 (.bool false)).alloc (.cells #[.bool false] 4)
  rw [World.size_alloc,World.size_alloc] at this;exact this
 ·have:=Boxed.new (((w.alloc (.cells #[.int .i64 (-1)] 3)).alloc (.cells #[.bool false] 4)).alloc (.cells #[.bool false] 4)) 4 (.bool false)
  rw [World.size_alloc,World.size_alloc,World.size_alloc] at this;exact this
theorem JS.set4 {w:World} {b:Nat} {t t':St} (h:JS w b t) {v0:Int} {v1 v2 v3:Bool} (e0:v0 = t'.k) (e1:v1 = t'.d) (e2:v2 = t'.s) (e3:v3 = t'.o) :
  JS ((((w.setCell ⟨b + 1 + 1,0,none⟩ (.bool v2)).setCell ⟨b + 1,0,none⟩ (.bool v1)).setCell ⟨b + 1 + 1 + 1,0,none⟩ (.bool v3)).setCell ⟨b,0,none⟩ (.int .i64 v0)) b t'
  /\ Gap b (b + 4) w ((((w.setCell ⟨b + 1 + 1,0,none⟩ (.bool v2)).setCell ⟨b + 1,0,none⟩ (.bool v1)).setCell ⟨b + 1 + 1 + 1,0,none⟩ (.bool v3)).setCell ⟨b,0,none⟩ (.int .i64 v0)):=by
 subst e0 e1 e2 e3;obtain ⟨h0,h1,h2,h3⟩:=h;refine ⟨⟨?_,?_,?_,?_⟩,?_⟩
 ·exact (bx_past (bx_past (bx_past h0 _ _ _ (by omega)) _ _ _ (by omega)) _ _ _ (by omega)).set _
 ·exact bx_past (bx_past ((bx_past h1 _ _ _ (by omega)).set _) _ _ _ (by omega)) _ _ _ (by omega)
 ·exact bx_past (bx_past (bx_past (h2.set _) _ _ _ (by omega)) _ _ _ (by omega)) _ _ _ (by omega)
 ·exact bx_past ((bx_past (bx_past h3 _ _ _ (by omega)) _ _ _ (by omega)).set _) _ _ _ (by omega)
 ·exact (((Gap.setCell _ _ _ _ _ _ (by omega) (by omega)).trans (Gap.setCell _ _ _ _ _ _ (by omega) (by omega))).trans (Gap.setCell _ _ _ _ _ _ (by omega) (by omega))).trans (Gap.setCell _ _ _ _ _ _ (by omega) (by omega))
theorem JS.put4 {w0 w:World} {b:Nat} {t:St} (h:JS w b t) (t':St) {v0:Int} {v1 v2 v3:Bool} (e0:v0 = t'.k) (e1:v1 = t'.d) (e2:v2 = t'.s) (e3:v3 = t'.o) (hg:Gap b (b + 4) w0 w) :
  JS ((((w.setCell ⟨b + 1 + 1,0,none⟩ (.bool v2)).setCell ⟨b + 1,0,none⟩ (.bool v1)).setCell ⟨b + 1 + 1 + 1,0,none⟩ (.bool v3)).setCell ⟨b,0,none⟩ (.int .i64 v0)) b t'
  /\ Gap b (b + 4) w0 ((((w.setCell ⟨b + 1 + 1,0,none⟩ (.bool v2)).setCell ⟨b + 1,0,none⟩ (.bool v1)).setCell ⟨b + 1 + 1 + 1,0,none⟩ (.bool v3)).setCell ⟨b,0,none⟩ (.int .i64 v0)) :=
 ⟨(JS.set4 h e0 e1 e2 e3).1,hg.trans (JS.set4 h e0 e1 e2 e3).2⟩
theorem joins_any (c:Int) (b:Nat) (t:St) (w:World) (h:JS w b t) :
  Calls Tryz.prog 183 #[.int .i64 c,.pointer (some ⟨b,0,none⟩),.pointer (some ⟨b + 1 + 1,0,none⟩),.pointer (some ⟨b + 1 + 1 + 1,0,none⟩),.pointer (some ⟨b + 1,0,none⟩)] w
   fun e w'=>e = .returned (.bool (jn t (cls c))) /\ JS w' b (stp t (cls c)) /\ Gap b (b + 4) w w':=by
 obtain ⟨a,d,s,o⟩:=t;obtain ⟨k,hk⟩:∃ k:Int,k = (cls c:Int):=⟨_,rfl⟩;have hof:=fun w=>of_any c w;rw [<- hk] at hof |-;have HOF:=Hd hof
 clear hof hk;go_enter Tryz.func183,Tryz.ntmps183
 go_wp2_with fail
 refine (HOF.out _).mono ?_;rintro e w1 ⟨rfl,hq1⟩;have hj:=h.q hq1;have hg:=hq1.gap b (b + 4);obtain ⟨b0,b1,b2,b3⟩:=id hj;have c0:=b0.cell;have c1:=b1.cell;have c2:=b2.cell;have c3:=b3.cell;have f0:=b0.frozen;have f1:=b1.frozen;have f2:=b2.frozen;have f3:=b3.frozen;simp only at c0 c1 c2 c3;clear b0 b1 b2 b3 h;cases hp:pairB a k <;> cases d <;> cases s <;> cases o
 all_goals
  have hpp:=fun w=>pair_any a k w;rw [hp] at hpp;have HPP:=Hd hpp;have HP:=Hd hp;clear hpp hp;go_wp2_with (go_at_call 184;refine (HPP.out _).mono ?_;rintro e w' ⟨rfl,rfl⟩)
  all_goals
   go_ret
   have hp:=HP.out;refine ⟨retB ?_,JS.put4 hj _ ?_ ?_ ?_ ?_ hg⟩;all_goals first | rfl | (simp_all [stp,jn] <;> rfl)
end
end Go.Proofs.YteggfkbnnmpcjaaGreatDoor
