/- What the functions on a character's class answer, by a walk through each. (and more) -/
import Derived.Test.YtdjhkbholijnmaaGreatDoorR05
import Derived.Test.YtdjhkbholijnmaaGreatDoorR16
import Derived.BigGuardPart
set_option linter.all false
set_option maxRecDepth 100000
set_option maxHeartbeats 8000000
namespace Go.Proofs.YtdjhkbholijnmaaGreatDoor
section
open Go.RowKit Cm
theorem syllable_any (c:Int) (w:World) (h:syll c) :
  Calls Tryz.prog 208 #[.int .i64 c] w fun e w'=>e = .returned (.int .i64 (cls c)) /\ w = w':=by
 obtain ⟨h1,h2⟩:=h;by_cases h0:(c - 44032) % 28 = 0
 ·have HF:Hid ((cls c:Int) = 12):=Hd (by rw [cls_lv ⟨h1,h2⟩ h0];rfl)
  go_enter Tryz.func208,Tryz.ntmps208
  go_wp2_with fail
  go_ret
  rw [HF.out];exact ⟨rfl,rfl⟩
 ·have HF:Hid ((cls c:Int) = 13):=Hd (by rw [cls_lvt ⟨h1,h2⟩ h0];rfl)
  go_enter Tryz.func208,Tryz.ntmps208
  go_wp2_with fail
  go_ret
  rw [HF.out];exact ⟨rfl,rfl⟩
theorem of_any (c:Int) (w:World) :
  Calls Tryz.prog 195 #[.int .i64 c] w fun e w'=>e = .returned (.int .i64 (cls c)) /\ Q w w':=by
 have hcw:(w.alloc (.cells #[.int .i64 c] 3)).cell? ⟨w.heap.size,0,none⟩ = some (.int .i64 c):=by
  rw [World.cell?_alloc_at _ _ _ _ rfl];rfl
 by_cases hs:syll c
 ·have HS:=Hd (fun w=>syllable_any c w hs)
  obtain ⟨h1,h2⟩:=hs;go_enter Tryz.func195,Tryz.ntmps195
  go_wp2_with fail
  refine (HS.out _).mono ?_;rintro e w' ⟨rfl,rfl⟩;go_wp2_with fail
  go_ret
  exact ⟨rfl,(Q.refl _).alloc _⟩
 ·have hs':¬ (44032 <= c /\ c <= 55203):=hs
  have HN:=Hd hs;have hcase:(44032 <= c /\ ¬ c <= 55203) \/ ¬ 44032 <= c:=by omega
  clear hs hs';rcases hcase with ⟨h1,h2⟩ | h1;all_goals
   go_enter Tryz.func195,Tryz.ntmps195
   go_wp2_with fail
   go_loopw [14] (fun i wr=>∃ j:Nat,i = .int .i64 j /\ j <= 15 /\ Q (w.alloc (.cells #[.int .i64 c] 3)) wr /\ ∀ m,m < j -> anyK c m = false) (fun i _=>15 - (intOf i).toNat)
   case atStart=>exact ⟨0,rfl,by omega,Q.refl _,fun m h=>by omega⟩
   case round =>
    obtain ⟨j,rfl,hj,hq,hall⟩:=hrel;have HA:=Hd hall;clear hall;by_cases hlt:j < 15
    ·have hsz:w.heap.size < wr.heap.size:=by have:=hq.le;simp at this;omega
     have hcr:wr.cell? ⟨w.heap.size,0,none⟩ = some (.int .i64 c):=(World.cell?_of_block (w:=w.alloc (.cells #[.int .i64 c] 3)) (hq.block (by simp))).trans hcw;have he:=each_of j c w.heap.size wr hsz hcr;have e1:(rowZ (j:Int)).any (inR c) = anyK c j:=by rw [rowZ_nat];rfl
     rw [e1] at he;clear e1;cases hb:anyK c j;all_goals
      rw [hb] at he;have HE:=Hd he;have HB:=Hd hb;clear he hb;go_wp2_with fail
      refine HE.out.mono ?_;rintro e w1 ⟨rfl,hq1⟩;go_wp2_with fail
     ·go_roundw
      case rel=>exact ⟨j + 1,by go_num,by omega,hq.trans hq1,fun m hm=>by
       by_cases h:m = j
       ·subst h;exact HB.out
       ·exact HA.out m (by omega)⟩
      case measure=>simp [intOf];omega
     ·go_ret
      rw [cls_at HN.out hlt HA.out HB.out];exact ⟨rfl,(((Q.refl _).alloc _).trans hq).trans hq1⟩
    ·have hje:j = 15:=by omega
     have hF:(cls c:Int) = 0:=by rw [cls_no HN.out (by rw [<- hje];exact HA.out)];rfl
     have HF:=Hd hF;clear hF hje;go_wp2_with fail
     go_ret
     rw [HF.out];exact ⟨rfl,((Q.refl _).alloc _).trans hq⟩
end
section
open Go.RowKit Cm
theorem plain_any (v:Value) (xs:List Int) (w:World) (hv:Lst w v xs) (hx:xs.length <= 1073741824) :
  Calls Tryz.prog 160 #[v] w fun e w'=>e = .returned (.bool (plainB xs)) /\ Q w w':=by
 obtain ⟨a,cp,rfl⟩:=hv.shape;obtain ⟨n,hn⟩:∃ n,n = xs.length:=⟨_,rfl⟩;rw [<- hn] at hv hx |-;have HN:=Hd hn;clear hn;go_enter Tryz.func160,Tryz.ntmps160
 go_wp2_with fail
 go_loopw [8] (fun i wr=>∃ j:Nat,i = .int .i64 j /\ j <= n /\ Q w wr /\ plP (xs.take j) = true) (fun i _=>n - (intOf i).toNat)
 case atStart=>exact ⟨0,rfl,by omega,Q.refl _,rfl⟩
 case round =>
  obtain ⟨j,rfl,hj,hq,hpl⟩:=hrel;have HP:=Hd hpl;clear hpl;by_cases hlt:j < n
  ·obtain ⟨g,off,cap,hvv,hg,_,_,hca⟩:=hv.cellOf HN.out.symm hlt
   cases hvv;have c1:wr.cell? ⟨g,off + j,none⟩ = some (.int .i64 (xs.getD j 0)):=(World.cell?_of_block (w:=w) (hq.block hg)).trans hca;have HT:=Hd (plP_take xs j (by rw [<- HN.out];exact hlt));have HFT:=Hd (plP_false_take xs (j + 1));clear hca;obtain ⟨c,hc⟩:∃ c,c = xs.getD j 0:=⟨_,rfl⟩;rw [<- hc] at c1 HT;clear hc;obtain ⟨k,hk⟩:∃ k,k = cls c:=⟨_,rfl⟩;have hof:=fun w=>of_any c w;rw [<- hk] at hof HT;have HOF:=Hd hof
   clear hof hk;have hres:∀ b,plP (xs.take (j + 1)) = b -> b = false -> plainB xs = false:=by
    intro b h1 h2;unfold plainB;rw [HFT.out (h1.trans h2)];rfl
   have HRES:=Hd hres;clear hres;have hcase:(k = 0 /\ j = 0) \/ (k = 0 /\ 0 < j) \/ (k = 4 /\ j = 0) \/ (k = 4 /\ 0 < j) \/ (¬ k = 0 /\ ¬ k = 4):=by omega
   rcases hcase with ⟨rfl,rfl⟩ | ⟨rfl,h0⟩ | ⟨rfl,rfl⟩ | ⟨rfl,h0⟩ | ⟨h0,h4⟩
   ·have HB:Hid (plP (xs.take (0 + 1)) = true):=Hd (by rw [HT.out,HP.out];simp)
    rw [Nat.add_zero] at c1;go_wp2_with fail
    refine (HOF.out _).mono ?_;rintro e w1 ⟨rfl,hq1⟩;go_wp2_with fail
    go_roundw
    case rel=>exact ⟨0 + 1,by go_num,by omega,hq.trans hq1,HB.out⟩
    case measure=>simp [intOf];omega
   ·have HB:Hid (plP (xs.take (j + 1)) = true):=Hd (by rw [HT.out,HP.out];simp)
    have e1:((j:Int) == 0) = false:=by rw [beq_eq_false_iff_ne];omega
    go_wp2_with fail
    refine (HOF.out _).mono ?_;rintro e w1 ⟨rfl,hq1⟩;go_wp2_with fail
    go_roundw
    case rel=>exact ⟨j + 1,by go_num,by omega,hq.trans hq1,HB.out⟩
    case measure=>simp [intOf];omega
   ·have HB:Hid (plainB xs = false):=Hd (HRES.out _ rfl (by rw [HT.out,HP.out];simp))
    rw [Nat.add_zero] at c1;go_wp2_with fail
    refine (HOF.out _).mono ?_;rintro e w1 ⟨rfl,hq1⟩;go_wp2_with fail
    go_ret
    rw [HB.out];exact ⟨rfl,hq.trans hq1⟩
   ·have HB:Hid (plP (xs.take (j + 1)) = true):=Hd (by rw [HT.out,HP.out];simp [h0])
    have e1:((j:Int) == 0) = false:=by rw [beq_eq_false_iff_ne];omega
    go_wp2_with fail
    refine (HOF.out _).mono ?_;rintro e w1 ⟨rfl,hq1⟩;go_wp2_with fail
    go_roundw
    case rel=>exact ⟨j + 1,by go_num,by omega,hq.trans hq1,HB.out⟩
    case measure=>simp [intOf];omega
   ·have HB:Hid (plainB xs = false):=Hd (HRES.out _ rfl (by rw [HT.out,HP.out];simp [h0,h4]))
    have e1:((k:Int) == 0) = false:=by rw [beq_eq_false_iff_ne];omega
    have e2:((k:Int) == 4) = false:=by rw [beq_eq_false_iff_ne];omega
    have e3:((k:Int) != 0) = true:=by rw [bne_iff_ne];omega
    have e4:((k:Int) != 4) = true:=by rw [bne_iff_ne];omega
    go_wp2_with fail
    refine (HOF.out _).mono ?_;rintro e w1 ⟨rfl,hq1⟩;go_wp2_with fail
    all_goals
     go_ret
     rw [HB.out];exact ⟨rfl,hq.trans hq1⟩
  ·have hje:j = n:=by omega
   have hF:plainB xs = decide (0 < n):=by
    have:=HP.out;rw [List.take_of_length_le (by rw [<- HN.out];omega)] at this;unfold plainB;rw [this,<- HN.out];rfl
   have HF:=Hd hF;clear hF hje;go_wp2_with fail
   go_ret
   rw [HF.out];exact ⟨retB (by simp),hq⟩
end
section
open Go.RowKit Um Cm Gm
theorem alone_any (k:Int) (w:World) :
  Calls Tryz.prog 235 #[.int .i64 k] w fun e w'=>e = .returned (.bool (alB k)) /\ w = w':=by
 go_enter Tryz.func235,Tryz.ntmps235
 go_wp2_with fail
 all_goals go_ret
 all_goals exact ⟨retB (by simp_all [alB] <;> rfl),rfl⟩
theorem syl_any (a k:Int) (w:World) :
  Calls Tryz.prog 236 #[.int .i64 a,.int .i64 k] w fun e w'=>e = .returned (.bool (sylB a k)) /\ w = w':=by
 go_enter Tryz.func236,Tryz.ntmps236
 go_wp2_with fail
 all_goals go_ret
 all_goals exact ⟨retB (by simp_all [sylB] <;> rfl),rfl⟩
theorem pair_any (a k:Int) (w:World) :
  Calls Tryz.prog 224 #[.int .i64 a,.int .i64 k] w fun e w'=>e = .returned (.bool (pairB a k)) /\ w = w':=by
 go_enter Tryz.func224,Tryz.ntmps224
 go_wp2_with (first | (go_at_call 235;refine (alone_any _ _).mono ?_;rintro e w' ⟨rfl,rfl⟩) | (go_at_call 236;refine (syl_any _ _ _).mono ?_;rintro e w' ⟨rfl,rfl⟩))
 all_goals go_ret
 all_goals exact ⟨retB (by simp_all [pairB] <;> rfl),rfl⟩
def JS (w:World) (b:Nat) (t:St):Prop :=
 Boxed w b 3 (.int .i64 t.k) /\ Boxed w (b + 1) 4 (.bool t.d) /\ Boxed w (b + 1 + 1) 4 (.bool t.s) /\ Boxed w (b + 1 + 1 + 1) 4 (.bool t.o)
theorem JS.q {w w':World} {b:Nat} {t:St} (h:JS w b t) (hq:Q w w'):JS w' b t:=⟨bx_q h.1 hq,bx_q h.2.1 hq,bx_q h.2.2.1 hq,bx_q h.2.2.2 hq⟩
theorem JS.gap {w w':World} {b lo hi:Nat} {t:St} (h:JS w b t) (hg:Gap lo hi w w') (ho:b + 4 <= lo \/ hi <= b):JS w' b t :=
 ⟨bx_gap h.1 hg (by omega),bx_gap h.2.1 hg (by omega),bx_gap h.2.2.1 hg (by omega),bx_gap h.2.2.2 hg (by omega)⟩
theorem JS.lt {w:World} {b:Nat} {t:St} (h:JS w b t):b + 4 <= w.heap.size:=by have:=h.2.2.2.lt;omega
theorem joiner_any (w:World) :
  Calls Tryz.prog 212 #[] w fun e w'=>e = .returned (.func (.func 223) #[] #[.pointer (some ⟨w.heap.size,0,none⟩),.pointer (some ⟨w.heap.size + 1 + 1,0,none⟩),.pointer (some ⟨w.heap.size + 1 + 1 + 1,0,none⟩),.pointer (some ⟨w.heap.size + 1,0,none⟩)])
   /\ JS w' w.heap.size st0 /\ Q w w' /\ w'.heap.size = w.heap.size + 4:=by
 go_enter Tryz.func212,Tryz.ntmps212
 go_wp2_with fail
 go_ret
 refine ⟨rfl,⟨?_,?_,?_,?_⟩,(((Q.refl w).alloc _).alloc _ |>.alloc _).alloc _,by simp⟩
 ·exact (((Boxed.new w _ _).alloc _).alloc _).alloc _
 ·have:=((Boxed.new (w.alloc (.cells #[.int .i64 (-1)] 3)) 4 (.bool false)).alloc (.cells #[.bool false] 4)).alloc (.cells #[.bool false] 4)
  rw [World.size_alloc] at this;exact this
 ·have:=(Boxed.new ((w.alloc (.cells #[.int .i64 (-1)] 3)).alloc (.cells #[.bool false] 4)) 4 (.bool false)).alloc (.cells #[.bool false] 4)
  rw [World.size_alloc,World.size_alloc] at this;exact this
 ·have:=Boxed.new (((w.alloc (.cells #[.int .i64 (-1)] 3)).alloc (.cells #[.bool false] 4)).alloc (.cells #[.bool false] 4)) 4 (.bool false)
  rw [World.size_alloc,World.size_alloc,World.size_alloc] at this;exact this
theorem JS.set4 {w:World} {b:Nat} {t t':St} (h:JS w b t) {v0:Int} {v1 v2 v3:Bool} (e0:v0 = t'.k) (e1:v1 = t'.d) (e2:v2 = t'.s) (e3:v3 = t'.o) :
  JS ((((w.setCell ⟨b + 1 + 1,0,none⟩ (.bool v2)).setCell ⟨b + 1,0,none⟩ (.bool v1)).setCell ⟨b + 1 + 1 + 1,0,none⟩ (.bool v3)).setCell ⟨b,0,none⟩ (.int .i64 v0)) b t'
  /\ Gap b (b + 4) w ((((w.setCell ⟨b + 1 + 1,0,none⟩ (.bool v2)).setCell ⟨b + 1,0,none⟩ (.bool v1)).setCell ⟨b + 1 + 1 + 1,0,none⟩ (.bool v3)).setCell ⟨b,0,none⟩ (.int .i64 v0)):=by
 subst e0 e1 e2 e3;obtain ⟨h0,h1,h2,h3⟩:=h;refine ⟨⟨?_,?_,?_,?_⟩,?_⟩
 ·exact (bx_past (bx_past (bx_past h0 _ _ _ (by omega)) _ _ _ (by omega)) _ _ _ (by omega)).set _
 ·exact bx_past (bx_past ((bx_past h1 _ _ _ (by omega)).set _) _ _ _ (by omega)) _ _ _ (by omega)
 ·exact bx_past (bx_past (bx_past (h2.set _) _ _ _ (by omega)) _ _ _ (by omega)) _ _ _ (by omega)
 ·exact bx_past ((bx_past (bx_past h3 _ _ _ (by omega)) _ _ _ (by omega)).set _) _ _ _ (by omega)
 ·exact (((Gap.setCell _ _ _ _ _ _ (by omega) (by omega)).trans (Gap.setCell _ _ _ _ _ _ (by omega) (by omega))).trans (Gap.setCell _ _ _ _ _ _ (by omega) (by omega))).trans (Gap.setCell _ _ _ _ _ _ (by omega) (by omega))
theorem JS.put4 {w0 w:World} {b:Nat} {t:St} (h:JS w b t) (t':St) {v0:Int} {v1 v2 v3:Bool} (e0:v0 = t'.k) (e1:v1 = t'.d) (e2:v2 = t'.s) (e3:v3 = t'.o) (hg:Gap b (b + 4) w0 w) :
  JS ((((w.setCell ⟨b + 1 + 1,0,none⟩ (.bool v2)).setCell ⟨b + 1,0,none⟩ (.bool v1)).setCell ⟨b + 1 + 1 + 1,0,none⟩ (.bool v3)).setCell ⟨b,0,none⟩ (.int .i64 v0)) b t'
  /\ Gap b (b + 4) w0 ((((w.setCell ⟨b + 1 + 1,0,none⟩ (.bool v2)).setCell ⟨b + 1,0,none⟩ (.bool v1)).setCell ⟨b + 1 + 1 + 1,0,none⟩ (.bool v3)).setCell ⟨b,0,none⟩ (.int .i64 v0)) :=
 ⟨(JS.set4 h e0 e1 e2 e3).1,hg.trans (JS.set4 h e0 e1 e2 e3).2⟩
theorem joins_any (c:Int) (b:Nat) (t:St) (w:World) (h:JS w b t) :
  Calls Tryz.prog 223 #[.int .i64 c,.pointer (some ⟨b,0,none⟩),.pointer (some ⟨b + 1 + 1,0,none⟩),.pointer (some ⟨b + 1 + 1 + 1,0,none⟩),.pointer (some ⟨b + 1,0,none⟩)] w
   fun e w'=>e = .returned (.bool (jn t (cls c))) /\ JS w' b (stp t (cls c)) /\ Gap b (b + 4) w w':=by
 obtain ⟨a,d,s,o⟩:=t;obtain ⟨k,hk⟩:∃ k:Int,k = (cls c:Int):=⟨_,rfl⟩;have hof:=fun w=>of_any c w;rw [<- hk] at hof |-;have HOF:=Hd hof
 clear hof hk;go_enter Tryz.func223,Tryz.ntmps223
 go_wp2_with fail
 refine (HOF.out _).mono ?_;rintro e w1 ⟨rfl,hq1⟩;have hj:=h.q hq1;have hg:=hq1.gap b (b + 4);obtain ⟨b0,b1,b2,b3⟩:=id hj;have c0:=b0.cell;have c1:=b1.cell;have c2:=b2.cell;have c3:=b3.cell;have f0:=b0.frozen;have f1:=b1.frozen;have f2:=b2.frozen;have f3:=b3.frozen;simp only at c0 c1 c2 c3;clear b0 b1 b2 b3 h;cases hp:pairB a k <;> cases d <;> cases s <;> cases o
 all_goals
  have hpp:=fun w=>pair_any a k w;rw [hp] at hpp;have HPP:=Hd hpp;have HP:=Hd hp;clear hpp hp;go_wp2_with (go_at_call 224;refine (HPP.out _).mono ?_;rintro e w' ⟨rfl,rfl⟩)
  all_goals
   go_ret
   have hp:=HP.out;refine ⟨retB ?_,JS.put4 hj _ ?_ ?_ ?_ ?_ hg⟩;all_goals first | rfl | (simp_all [stp,jn] <;> rfl)
end
section
open Go.RowKit
namespace Pg
open Pt Um
structure Hm where
 pa:Option Addr
 pc:Nat
 sa:Option Addr
 sc:Nat
 P:List Pc.E
 S:List Pc.E
 nb:Nb
def Hm.pv (h:Hm):Value:=.slice h.pa h.P.length h.pc
def Hm.sv (h:Hm):Value:=.slice h.sa h.S.length h.sc
def Hm.cells (h:Hm):List Value:=[h.pv,h.sv,.int .i64 h.nb.p,.int .i64 h.nb.s,.int .i64 h.nb.mi,.int .i64 h.nb.xi,.int .i64 h.nb.mf,.int .i64 h.nb.xf]
def Hm.ok (w:World) (B:Nat) (h:Hm):Prop:=Pc.New w B h.pv h.P /\ Pc.New w B h.sv h.S
theorem Hm.ok.q {w w':World} {B:Nat} {h:Hm} (k:h.ok w B) (hq:Q w w'):h.ok w' B:=⟨k.1.q hq,k.2.q hq⟩
def flatH (hs:List Hm):List Value:=hs.flatMap Hm.cells
theorem flatH_app (a b:List Hm):flatH (a ++ b) = flatH a ++ flatH b:=by simp [flatH]
theorem flatH_get (hs:List Hm) (i:Nat) (h:Hm) (hi:hs[i]? = some h) (j:Nat) (hj:j < 8):(flatH hs)[i * 8 + j]? = h.cells[j]?:=by
 induction hs generalizing i with
 | nil=>simp at hi
 | cons x r ih =>
  unfold flatH at *;rw [List.flatMap_cons];have hx:x.cells.length = 8:=rfl;cases i with
  | zero =>
   simp at hi;subst hi;rw [Nat.zero_mul,Nat.zero_add,List.getElem?_append_left (by rw [hx];exact hj)]
  | succ i =>
   rw [List.getElem?_append_right (by rw [hx];omega),hx,show (i + 1) * 8 + j - 8 = i * 8 + j by omega];exact ih i (by simpa using hi)
def OwnH (w:World) (B:Nat) (v:Value) (hs:List Hm):Prop:=w.ownsRow B 210 8 v hs.length (flatH hs)
theorem OwnH.nil (w:World) (B:Nat):OwnH w B (.slice none 0 0) []:=World.ownsRow_nil w B 210 8
theorem OwnH.same {w w':World} {B:Nat} {v:Value} {hs:List Hm} (h:OwnH w B v hs) (k:∀ g,v.ownBlock = some g -> w'.heap[g]? = w.heap[g]?):OwnH w' B v hs:=by
 obtain ⟨h1,h2⟩:=h;refine ⟨h1,?_⟩;rcases h2 with h2 | ⟨g,cap,cur,hv,hg,hh,r⟩
 ·exact .inl h2
 ·exact .inr ⟨g,cap,cur,hv,hg,by rw [k g (by rw [hv];rfl)];exact hh,r⟩
theorem OwnH.lt {w:World} {B:Nat} {v:Value} {hs:List Hm} (h:OwnH w B v hs):∀ g,v.ownBlock = some g -> B <= g /\ g < w.heap.size:=World.ownsRow.lt h
theorem OwnH.q {w w':World} {B:Nat} {v:Value} {hs:List Hm} (h:OwnH w B v hs) (hq:Q w w'):OwnH w' B v hs:=h.same fun g hg=>hq.block (h.lt g hg).2
theorem OwnH.shape {w:World} {B:Nat} {v:Value} {hs:List Hm} {n:Nat} (h:OwnH w B v hs) (hn:hs.length = n):∃ a c,v = .slice a n c /\ n <= c /\ c <= maxLen:=by
 subst hn;rcases h.2 with ⟨hv,hn⟩ | ⟨g,cap,cur,hv,_,hh,hnc,hcm,_⟩
 ·have:hs = []:=List.eq_nil_of_length_eq_zero hn
  subst this;exact ⟨none,0,hv,by simp,by unfold maxLen;omega⟩
 ·exact ⟨_,cap,hv,hnc,hcm⟩
theorem OwnH.cellOf {w:World} {B:Nat} {v:Value} {hs:List Hm} {n i:Nat} {h:Hm} (k:OwnH w B v hs) (hn:hs.length = n) (hi:hs[i]? = some h) :
  ∃ g cap,v = .slice (some ⟨g,0,none⟩) n cap /\ B <= g /\ g < w.heap.size /\ n <= cap /\ cap <= maxLen /\ ∀ j u,h.cells[j]? = some u -> w.cell? ⟨g,i * 8 + j,none⟩ = some u:=by
 subst hn;have hil:=(List.getElem?_eq_some_iff.1 hi).1;rcases k.2 with ⟨hv,hn⟩ | ⟨g,cap,cur,hv,hB,hh,hnc,hcm,hcs,ht⟩
 ·omega
 ·refine ⟨g,cap,hv,hB,(Array.getElem?_eq_some_iff.1 hh).1,hnc,hcm,fun j u hj=>?_⟩
  have hj8:j < 8:=(List.getElem?_eq_some_iff.1 hj).1;rw [cell_of_row w g (i * 8 + j) cur 210 (0,0) hh];have h1:=congrArg (fun x=>x[i * 8 + j]?) ht;rw [List.getElem?_take,if_pos (by omega),flatH_get hs i h hi j hj8,hj] at h1;rw [<- Array.getElem?_toList,h1]
theorem infoH3:(Tryz.prog.info? 210).map (fun i=>(i.zero,i.size,i.bytes)) = some (some (.agg #[.slice none 0 0,.slice none 0 0,.int .i64 0,.int .i64 0,.int .i64 0,.int .i64 0,.int .i64 0,.int .i64 0]),8,96):=by kernel_rfl
theorem pushH {w:World} {B:Nat} {v:Value} {hs:List Hm} (hown:OwnH w B v hs) {ops:Array Oper} {rest:List Oper} {o:Oper} {a:Act} {R:Exit -> Act -> World -> Prop} (hgd:o.guard = none) (s x:Operand)
  (ho:o.op = .call { callee:=.builtin .append,args:=#[s,x],argTypes:=#[206,206] })
  (h:Hm) (hsv:a.eval s = v) (hx:a.eval x = .slice (some ⟨w.heap.size,0,none⟩) 1 1) (hlen:hs.length < 1000000) (hB:B <= w.heap.size)
  (k:∀ v' w',OwnH w' B v' (hs ++ [h]) -> w.grownBy w' v.ownBlock -> (v'.ownBlock = v.ownBlock \/ v'.ownBlock = some (w.heap.size + 1)) -> wpList Tryz.prog ops R rest (a.put o.dst v') w') :
  wpList Tryz.prog ops R (o :: rest) a (w.alloc (.cells h.cells.toArray 210)):=by
 obtain ⟨i0,hi,hz0,hz1,hz2⟩:=info_parts infoH3;refine wpList_append_own_at _ hgd s x 206 ho B 210 i0 _ 8 96 Tryz.underlying206 hi hz0 hz1 hz2 rfl (by decide) v hs.length _ hsv (World.ownsRow.alloc hown _)
  ⟨w.heap.size,0,none⟩ 1 1 h.cells hx rfl ?_ ?_ ?_ ?_ ?_ ?_
 ·intro j u hj
  have hadd:(⟨w.heap.size,0,none⟩:Addr).add j = ⟨w.heap.size,j,none⟩:=by unfold Addr.add;split <;> simp_all
  rw [hadd,World.cell?_alloc_at _ _ _ _ rfl];simpa using hj
 ·intro u hu
  unfold Hm.cells at hu;simp at hu;rcases hu with rfl | rfl | rfl | rfl | rfl | rfl | rfl | rfl <;> rfl
 ·unfold maxLen;omega
 ·omega
 ·simp;omega
 ·intro v' w' hown' hg _ hat
  refine k v' w' ?_ ?_ ?_
  ·unfold OwnH
   rw [List.length_append,flatH_app];have:flatH [h] = h.cells:=by simp [flatH]
   rw [this];exact hown'
  ·exact (World.grownBy_alloc w _ _).trans hg
  ·simpa using hat
theorem New.grown {w w':World} {B:Nat} {v:Value} {l:List Pc.E} {row:Option Nat} (h:Pc.New w B v l) (hg:w.grownBy w' row) (hne:∀ a n c,v = .slice (some a) n c -> n ≠ 0 -> row ≠ some a.block):Pc.New w' B v l:=by
 refine ⟨?_,h.2⟩;rcases h.1 with hn | ⟨g,off,cap,rfl,hl,h1,h2,hc⟩
 ·exact .inl hn
 ·by_cases h0:l.length = 0
  ·have:l = []:=List.eq_nil_of_length_eq_zero h0
   subst this;exact .inl ⟨rfl,_,_,rfl,h2,fun h=>nomatch h⟩
  ·have hb:=hg.block g hl (fun e=>hne _ _ _ rfl h0 e.symm)
   exact .inr ⟨g,off,cap,rfl,Nat.lt_of_lt_of_le hl hg.size,h1,h2,fun j hj=>⟨(World.cell?_of_block (w:=w) hb).trans (hc j hj).1,(World.cell?_of_block (w:=w) hb).trans (hc j hj).2⟩⟩
def Hm.far (h:Hm) (v:Value):Prop:=(∀ a n c,h.pv = .slice (some a) n c -> n ≠ 0 -> v.ownBlock ≠ some a.block) /\ (∀ a n c,h.sv = .slice (some a) n c -> n ≠ 0 -> v.ownBlock ≠ some a.block)
theorem Hm.ok.grown {w w':World} {B:Nat} {h:Hm} {v:Value} (k:h.ok w B) (hg:w.grownBy w' v.ownBlock) (hf:h.far v):h.ok w' B:=⟨New.grown k.1 hg hf.1,New.grown k.2 hg hf.2⟩
theorem New.lt {w:World} {B:Nat} {v:Value} {l:List Pc.E} (h:Pc.New w B v l):∀ a n c,v = .slice (some a) n c -> n ≠ 0 -> a.block < w.heap.size:=by
 intro a n c hv hn;rcases h.1 with ⟨_,_,_,hv2,_⟩ | ⟨g,off,cap,hv2,hl,_⟩
 ·rw [hv2] at hv;cases hv;exact absurd rfl hn
 ·rw [hv2] at hv;cases hv;exact hl
theorem Hm.far.push {w:World} {B:Nat} {h:Hm} {v v':Value} (k:h.ok w B) (hf:h.far v) (hat:v'.ownBlock = v.ownBlock \/ v'.ownBlock = some (w.heap.size + 1)):h.far v':=by
 refine ⟨fun a n c e hn e2=>?_,fun a n c e hn e2=>?_⟩
 ·rcases hat with h1 | h1
  ·exact hf.1 a n c e hn (h1 ▸ e2)
  ·have:=New.lt k.1 a n c e hn
   rw [h1] at e2;have:=Option.some.inj e2;omega
 ·rcases hat with h1 | h1
  ·exact hf.2 a n c e hn (h1 ▸ e2)
  ·have:=New.lt k.2 a n c e hn
   rw [h1] at e2;have:=Option.some.inj e2;omega
theorem Hm.far.new {w w':World} {B:Nat} {h:Hm} {v:Value} {hs:List Hm} (ho:OwnH w B v hs) (k:h.ok w' w.heap.size):h.far v :=
 ⟨fun a n c e hn e2=>by have:=(ho.lt _ e2).2;have:=k.1.2 a n c e hn;omega,fun a n c e hn e2=>by have:=(ho.lt _ e2).2;have:=k.2.2 a n c e hn;omega⟩
end Pg
end
end Go.Proofs.YtdjhkbholijnmaaGreatDoor
