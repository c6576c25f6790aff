/- The document's own answers on patterns: tokens, joined. (and more) -/
import Derived.Test.YtghfdapfnoeanaaGreatDoorR00
import Derived.Test.YtghfdapfnoeanaaGreatDoorR02
import Derived.Test.YtghfdapfnoeanaaGreatDoorR07
import Derived.Test.YtghfdapfnoeanaaGreatDoorR01
import Derived.Test.YtghfdapfnoeanaaGreatDoorR03
import Derived.Test.YtghfdapfnoeanaaGreatDoorRows
import Derived.Test.YtghfdapfnoeanaaGreatDoorR08
import Derived.Test.YtghfdapfnoeanaaGreatDoorR06
import Derived.Deep.QuietTactic
import Derived.BigQuiet
import Derived.Deep.Cut
import Derived.OwnWalkIn
import Derived.TacticsInMore
import Derived.LoopNIn
import Derived.LoopIn
set_option linter.unusedVariables false
set_option linter.unusedSimpArgs false
namespace Go.Proofs.YtghfdapfnoeanaaGreatDoor
open Go.RowKit
namespace Pr
open Pt Um
theorem elB:Pc.El 163 30:=⟨by kernel_rfl,Tryz.underlying30⟩
abbrev OwnB (w:World) (B:Nat) (v:Value) (l:List Pc.E):Prop:=Pc.OwnE 163 w B v l
def tkP (l:List (Int × Int)):List Pc.E:=l.map fun x=>(x.1,encL x.2)
theorem tkP_app (a:List (Int × Int)) (x:Int × Int):tkP (a ++ [x]) = tkP a ++ [(x.1,encL x.2)]:=by simp [tkP]
theorem encL_quote:encL 39 = [39]:=by decide +kernel
theorem tok_turn (q:Bool) (r:List Int) (h:r = [] ∨ r.getD 0 0 ≠ 39):tokS q true r = tokS (!q) false r:=by
 cases r with
 | nil=>cases q <;> rfl
 | cons c r =>
  have hc:c ≠ 39:=by
   rcases h with h | h
   ·cases h
   ·simpa using h
  rw [tokS_cons,tokS_cons,if_neg hc,if_neg hc]
  cases q <;> rfl
theorem drop_at (cs:List Int) (k:Nat) (hk:k < cs.length):cs.drop k = cs.getD k 0 :: cs.drop (k + 1):=by
 rw [List.getD_eq_getElem?_getD,List.getElem?_eq_getElem hk]
 exact List.drop_eq_getElem_cons hk
def Far (cs:List Int) (k:Nat) (q:Bool) (o:List (Int × Int)):Prop:=(tokS q false (cs.drop k)).map (o ++ ·) = tkn cs ∧ o.length ≤ k
theorem Far.start (cs:List Int):Far cs 0 false []:=⟨by unfold tkn;simp,by simp⟩
theorem Far.two {cs:List Int} {k:Nat} {q:Bool} {o:List (Int × Int)} (h:Far cs k q o) (hk:k + 1 < cs.length) (h1:cs.getD k 0 = 39) (h2:cs.getD (k + 1) 0 = 39):Far cs (k + 2) q (o ++ [(0,39)]):=by
 obtain ⟨h,hl⟩:=h
 rw [drop_at cs k (by omega),h1,drop_at cs (k + 1) hk,h2,tokS_cons,if_pos rfl,if_neg (by decide),tokS_cons,if_pos rfl,if_pos rfl,Option.map_map] at h
 refine ⟨?_,by simp;omega⟩
 rw [← h]
 congr 1
 funext x;simp
theorem Far.turn {cs:List Int} {k:Nat} {q:Bool} {o:List (Int × Int)} (h:Far cs k q o) (hk:k < cs.length) (h1:cs.getD k 0 = 39) (h2:¬ (k + 1 < cs.length ∧ cs.getD (k + 1) 0 = 39)):Far cs (k + 1) (!q) o:=by
 obtain ⟨h,hl⟩:=h
 rw [drop_at cs k hk,h1,tokS_cons,if_pos rfl,if_neg (by decide)] at h
 refine ⟨?_,by omega⟩
 rw [← h,tok_turn q]
 by_cases hn:k + 1 < cs.length
 ·right
  rw [drop_at cs (k + 1) hn]
  simpa using fun e=>h2 ⟨hn,by simpa using e⟩
 ·left
  exact List.drop_eq_nil_of_le (by omega)
theorem Far.in {cs:List Int} {k:Nat} {o:List (Int × Int)} (h:Far cs k true o) (hk:k < cs.length) (h1:cs.getD k 0 ≠ 39):Far cs (k + 1) true (o ++ [(0,cs.getD k 0)]):=by
 obtain ⟨h,hl⟩:=h
 rw [drop_at cs k hk,tokS_cons,if_neg h1,if_pos (by decide),Option.map_map] at h
 refine ⟨?_,by simp;omega⟩
 rw [← h]
 congr 1
 funext x;simp
theorem Far.bad {cs:List Int} {k:Nat} {o:List (Int × Int)} (h:Far cs k false o) (hk:k < cs.length) (h1:cs.getD k 0 ≠ 39) (h6:kindC (cs.getD k 0) = 6):tkn cs = none:=by
 obtain ⟨h,hl⟩:=h
 rw [drop_at cs k hk,tokS_cons,if_neg h1,if_neg (by decide),if_pos h6] at h
 exact h.symm
theorem Far.out {cs:List Int} {k:Nat} {o:List (Int × Int)} (h:Far cs k false o) (hk:k < cs.length) (h1:cs.getD k 0 ≠ 39) (h6:kindC (cs.getD k 0) ≠ 6):Far cs (k + 1) false (o ++ [(kindC (cs.getD k 0),cs.getD k 0)]):=by
 obtain ⟨h,hl⟩:=h
 rw [drop_at cs k hk,tokS_cons,if_neg h1,if_neg (by decide),if_neg h6,Option.map_map] at h
 refine ⟨?_,by simp;omega⟩
 rw [← h]
 congr 1
 funext x;simp
theorem Far.fin {cs:List Int} {q:Bool} {o:List (Int × Int)} (h:Far cs cs.length q o):tkn cs = if q = true then none else some o:=by
 obtain ⟨h,hl⟩:=h
 rw [List.drop_eq_nil_of_le (Nat.le_refl _)] at h
 rw [← h]
 cases q <;> simp [tokS]
set_option maxHeartbeats 4000000 in
theorem tokens_any (s:ByteArray) (w:World) (hs:s.size ≤ 1000000) :
  Calls Tryz.prog 145 #[.string s] w fun e w'=>∃ v,e = .returned (.tuple #[v,.bool (tkn (allL s.data.toList)).isSome]) ∧ (∀ l,tkn (allL s.data.toList) = some l → OwnB w' w.heap.size v (tkP l)) ∧ Q w w':=by
 have hal:=fun w=>Ur.all_any s w (by omega)
 have hml:=marks_length s.data.toList
 rw [size_list] at hml
 have hcl:(allL s.data.toList).length ≤ 1000000:=by unfold allL;simp;omega
 clear hml
 generalize allL s.data.toList = cs at *
 obtain ⟨n,hn⟩:∃ n,n = cs.length:=⟨_,rfl⟩
 have HN:=Lib.hid hn
 rw [← hn] at hcl
 obtain ⟨R,hR⟩:∃ R,R = tkn cs:=⟨_,rfl⟩
 have HR:=Lib.hid hR
 rw [← hR]
 clear hn hR
 go_enter Tryz.func145,Tryz.ntmps145
 go_wp2_with fail
 refine (hal _).mono ?_
 rintro e w2 ⟨v,u,rfl,hv,hu,_,hq2⟩
 have HV:=Lib.hid hv.lst
 obtain ⟨a,cp,rfl,_,_⟩:=hv.lst.form0 HN.out.symm
 clear hv hal hu
 go_wp2_with fail
 go_loopw [7,8,9] (fun u q i wr=>∃ (k:Nat) (b:Bool) (o:List (Int × Int)),i = .int .i64 k ∧ q = .bool b ∧ k ≤ n ∧ OwnB wr w2.heap.size u (tkP o) ∧ Far cs k b o ∧ Q w2 wr) (fun _ _ i _=>n - (intOf i).toNat)
 case atStart=>exact ⟨0,false,[],rfl,rfl,by omega,Pc.OwnE.nil _ _ _,Far.start cs,Q.refl _⟩
 case round =>
  obtain ⟨k,b,o,rfl,rfl,hk,ho,hf,hq⟩:=hrel
  have hqs:=hq.le
  have HF:=Lib.hid hf
  have hol:(tkP o).length < 1073741824:=by unfold tkP;rw [List.length_map];have:=hf.2;omega
  clear hf
  by_cases hlt:k < n
  ·have hlti:(k:Int) < (n:Int):=by omega
   have hkl:k < cs.length:=by have:=HN.out;omega
   obtain ⟨g,off,cap,hvv,hg,hnc,hcm,hca⟩:=HV.out.cellOf HN.out.symm hlt
   cases hvv
   have hcell:∀ j,j < n → wr.cell? ⟨g,off + j,none⟩ = some (.int .i64 (cs.getD j 0)):=by
    intro j hj
    obtain ⟨g',off',cap',hvv',hg',_,_,hcj⟩:=HV.out.cellOf HN.out.symm hj
    cases hvv'
    exact (World.cell?_of_block (w:=w2) (hq.block hg')).trans hcj
   have c1:=hcell k hlt
   have HCE:=Lib.hid hcell
   clear hca hcell
   have F1:=fun h1 h2 h3=>HF.out.two h1 h2 h3
   have F2:=fun h1 h2=>HF.out.turn hkl h1 h2
   obtain ⟨c,hc⟩:∃ c,c = cs.getD k 0:=⟨_,rfl⟩
   rw [← hc] at c1 F1 F2
   have HC:=Lib.hid hc
   clear hc
   by_cases h39:c = 39
   ·subst h39
    by_cases hn1:k + 1 < n
    ·have hn1i:(k:Int) + 1 < (n:Int):=by omega
     have hmin:min ((k:Int) + 1) ((n:Int) - 1) = ((k + 1:Nat):Int):=by omega
     have c2:=HCE.out (k + 1) hn1
     obtain ⟨d,hd⟩:∃ d,d = cs.getD (k + 1) 0:=⟨_,rfl⟩
     rw [← hd] at c2 F1 F2
     have HD:=Lib.hid hd
     clear hd
     by_cases hd9:d = 39
     ·subst hd9
      have HF2:=Lib.hid (F1 (by have:=HN.out;omega) rfl rfl)
      clear F1 F2
      go_wp2_with (at_builtin;refine Pc.push elB ho rfl _ _ rfl 0 ⟨#[39]⟩ (by rfl) (by rfl) hol hqs ?_)
      intro v' w4 ho4 hg4 hat4
      have HO4:Hid (OwnB w4 w2.heap.size v' (tkP (o ++ [(0,39)]))):=Lib.hid (by rw [tkP_app,encL_quote];exact ho4)
      have hq4:=hq.grown hg4 (fun j h=>(ho.lt j h).1)
      clear ho4
      go_wp2_with fail
      go_roundw
      case rel=>exact ⟨k + 2,b,o ++ [(0,39)],by go_num,rfl,by omega,HO4.out,HF2.out,hq4⟩
      case measure=>simp [intOf];omega
     ·have hdb:(d == 39) = false:=beq_eq_false_iff_ne.2 hd9
      have HF2:=Lib.hid (F2 rfl (fun h=>hd9 h.2))
      clear F1 F2
      go_wp2_with fail
      go_roundw
      case rel=>exact ⟨k + 1,!b,o,by go_num,rfl,by omega,ho,HF2.out,hq⟩
      case measure=>simp [intOf];omega
    ·have hn1i:¬ (k:Int) + 1 < (n:Int):=by omega
     have HF2:=Lib.hid (F2 rfl (fun h=>hn1 (by have:=HN.out;omega)))
     clear F1 F2
     go_wp2_with fail
     go_roundw
     case rel=>exact ⟨k + 1,!b,o,by go_num,rfl,by omega,ho,HF2.out,hq⟩
     case measure=>simp [intOf];omega
   ·have hcb:(c == 39) = false:=beq_eq_false_iff_ne.2 h39
    clear F1 F2
    cases b
    ·have G1:=fun h=>HF.out.bad hkl (by rw [← HC.out];exact h39) h
     have G2:=fun h=>HF.out.out hkl (by rw [← HC.out];exact h39) h
     have K1:=fun w=>kind_any c w
     rw [← HC.out] at G1 G2
     obtain ⟨kc,hkc⟩:∃ kc,kc = kindC c:=⟨_,rfl⟩
     rw [← hkc] at G1 G2 K1
     have HK1:=Lib.hid K1
     clear hkc K1
     by_cases h6:kc = 6
     ·subst h6
      have HRN:Hid (R = none):=Lib.hid (HR.out.trans (G1 rfl))
      clear G1 G2
      go_wp2_with fail
      refine (HK1.out _).mono ?_
      rintro e w3 ⟨rfl,rfl⟩
      go_wp2_with fail
      go_ret2
      rw [HRN.out]
      exact ⟨_,rfl,fun l h=>(nomatch h),hq2.trans hq⟩
     ·have h6b:(kc == 6) = false:=beq_eq_false_iff_ne.2 h6
      have HF2:=Lib.hid (G2 h6)
      clear G1 G2
      go_wp2_with fail
      refine (HK1.out _).mono ?_
      rintro e w3 ⟨rfl,rfl⟩
      go_wp2_with fail
      refine (Ur.encode_any _ _).mono ?_
      rintro e w3 ⟨rfl,hq3⟩
      have ho3:=ho.q hq3
      have hq23:=hq.trans hq3
      have hqs3:=hq23.le
      go_wp2_with (at_builtin;refine Pc.push elB ho3 rfl _ _ rfl kc (encB c) (by rfl) (by rfl) hol hqs3 ?_)
      intro v' w4 ho4 hg4 hat4
      have HO4:Hid (OwnB w4 w2.heap.size v' (tkP (o ++ [(kc,c)]))):=Lib.hid (by rw [tkP_app];exact ho4)
      have hq4:=hq23.grown hg4 (fun j h=>(ho3.lt j h).1)
      clear ho4
      go_wp2_with fail
      go_roundw
      case rel=>exact ⟨k + 1,false,o ++ [(kc,c)],by go_num,rfl,by omega,HO4.out,HF2.out,hq4⟩
      case measure=>simp [intOf];omega
    ·have G2:=HF.out.in hkl (by rw [← HC.out];exact h39)
     rw [← HC.out] at G2
     have HF2:=Lib.hid G2
     clear G2
     go_wp2_with fail
     refine (Ur.encode_any _ _).mono ?_
     rintro e w3 ⟨rfl,hq3⟩
     have ho3:=ho.q hq3
     have hq23:=hq.trans hq3
     have hqs3:=hq23.le
     go_wp2_with (at_builtin;refine Pc.push elB ho3 rfl _ _ rfl 0 (encB c) (by rfl) (by rfl) hol hqs3 ?_)
     intro v' w4 ho4 hg4 hat4
     have HO4:Hid (OwnB w4 w2.heap.size v' (tkP (o ++ [(0,c)]))):=Lib.hid (by rw [tkP_app];exact ho4)
     have hq4:=hq23.grown hg4 (fun j h=>(ho3.lt j h).1)
     clear ho4
     go_wp2_with fail
     go_roundw
     case rel=>exact ⟨k + 1,true,o ++ [(0,c)],by go_num,rfl,by omega,HO4.out,HF2.out,hq4⟩
     case measure=>simp [intOf];omega
  ·have hke:k = cs.length:=by have:=HN.out;omega
   have hnlt:¬ (k:Int) < (n:Int):=by omega
   have hfin:=HF.out
   rw [hke] at hfin
   have HRF:=Lib.hid (HR.out.trans hfin.fin)
   clear hfin hke
   cases b
   ·go_wp2_with fail
    go_ret2
    rw [HRF.out]
    exact ⟨_,rfl,fun l h=>by cases h;exact ho.mono hq2.le,hq2.trans hq⟩
   ·go_wp2_with fail
    go_ret2
    rw [HRF.out]
    exact ⟨_,rfl,fun l h=>(nomatch h),hq2.trans hq⟩
end Pr
end Go.Proofs.YtghfdapfnoeanaaGreatDoor
namespace Go.Proofs.YtghfdapfnoeanaaGreatDoor
open Go.RowKit Go.Shelf
attribute [local go_sem] Oper.semAt_some
namespace Ft
@[reducible] def c8 (r:Lm.Rec):List Value:=[.string (Lm.bs r.nam),.string (Lm.bs r.pat),.string (Lm.bs r.sys),.string (Lm.bs r.dec),.string (Lm.bs r.grp),.string (Lm.bs r.min),.string (Lm.bs r.per),.string (Lm.bs r.cur)]
@[reducible] def rV (r:Lm.Rec):Value:=.agg #[.string (Lm.bs r.nam),.string (Lm.bs r.pat),.string (Lm.bs r.sys),.string (Lm.bs r.dec),.string (Lm.bs r.grp),.string (Lm.bs r.min),.string (Lm.bs r.per),.string (Lm.bs r.cur)]
def flat:List Value:=Fm.tab.flatMap c8
theorem flat_at:∀ (l:List Lm.Rec) (k:Nat) (r:Lm.Rec) (j:Nat),l[k]? = some r → j < 8 → (l.flatMap c8)[k * 8 + j]? = (c8 r)[j]?:=by
 intro l
 induction l with
 | nil=>intro k r j h;simp at h
 | cons x l ih =>
  intro k r j h hj
  rw [List.flatMap_cons]
  cases k with
  | zero =>
   simp at h
   subst h
   rw [List.getElem?_append_left (by simp;omega)]
   congr 1;omega
  | succ k =>
   rw [List.getElem?_cons_succ] at h
   rw [List.getElem?_append_right (by simp;omega)]
   have:=ih k r j h hj
   rw [← this]
   congr 1
   simp;omega
theorem tab_at {k:Nat} (h:k < 40):Fm.tab[k]? = some (Fm.T k):=by
 have hl:k < Fm.tab.length:=by rw [Fm.tab_len];exact h
 unfold Fm.T
 rw [List.getD_eq_getElem?_getD,List.getElem?_eq_getElem hl];rfl
theorem row_cell {w:World} {b:Nat} {T:TypeId} (h:Bk w b T flat) {k:Nat} (hk:k < 40) (j:Nat) {v:Value} (hv:(c8 (Fm.T k))[j]? = some v):w.cell? ⟨b,k * 8 + j,none⟩ = some v:=by
 have hj:j < 8:=(List.getElem?_eq_some_iff.1 hv).1
 exact h.cell _ ((flat_at _ k _ j (tab_at hk) hj).trans hv)
theorem infoLR:(Tryz.prog.info? 64).map (·.size) = some 8:=by kernel_rfl
end Ft
end Go.Proofs.YtghfdapfnoeanaaGreatDoor
namespace Go.Proofs.YtghfdapfnoeanaaGreatDoor
open Go.RowKit
namespace Bl
theorem Is.q {B b:Nat} {bs:List Value} {w w':World} (h:Is B b bs w) (hq:Q w w'):Is B b bs w':=by
 have key:∀ p,Lib.BuilderAtF 158 5 B b p bs w → Lib.BuilderAtF 158 5 B b p bs w':=by
  rintro p ⟨hB,v,hv,hown,hne⟩
  have hlt:=(Array.getElem?_eq_some_iff.1 hv).1
  refine ⟨hB,v,(hq.block hlt).trans hv,hown.kept (row:=none) ⟨hq.os,hq.tape,hq.output,hq.size,fun k hk _=>hq.block hk⟩ ?_,hne⟩
  cases v.ownBlock <;> simp
 exact h.elim (fun x=>.inl (key _ x)) (fun x=>.inr (key _ x))
end Bl
namespace Pg
open Pt Um
def Asks (F:Nat) (p:Int × Int → Bool):Prop:=∀ (k c:Int) (w:World),Calls Tryz.prog F #[.agg #[.int .i64 k,.int .i64 c]] w fun e w'=>e = .returned (.bool (p (k,c))) ∧ Q w w'
def ah (p:Int × Int → Bool) (l:List (Int × Int)):Nat:=(l.takeWhile p).length
theorem ah_le (p:Int × Int → Bool) (l:List (Int × Int)):ah p l ≤ l.length:=(List.takeWhile_prefix _).length_le
theorem ah_yes {p:Int × Int → Bool} {l:List (Int × Int)} {k:Nat} (hk:k < l.length) (h:p (l.getD k (0,0)) = true):ah p (l.drop k) = 1 + ah p (l.drop (k + 1)):=by
 have e:l.getD k (0,0) = l[k]:=by rw [List.getD_eq_getElem?_getD,List.getElem?_eq_getElem hk];rfl
 rw [e] at h
 unfold ah
 rw [List.drop_eq_getElem_cons hk,List.takeWhile_cons,if_pos h]
 simp;omega
theorem ah_no {p:Int × Int → Bool} {l:List (Int × Int)} {k:Nat} (hk:k < l.length) (h:p (l.getD k (0,0)) = false):ah p (l.drop k) = 0:=by
 have e:l.getD k (0,0) = l[k]:=by rw [List.getD_eq_getElem?_getD,List.getElem?_eq_getElem hk];rfl
 rw [e] at h
 unfold ah
 rw [List.drop_eq_getElem_cons hk,List.takeWhile_cons,if_neg (by rw [h];simp)]
 rfl
theorem ah_end {p:Int × Int → Bool} {l:List (Int × Int)} {k:Nat} (hk:¬ k < l.length):ah p (l.drop k) = 0:=by
 rw [List.drop_eq_nil_of_le (by omega)];rfl
set_option maxHeartbeats 4000000 in
theorem ahead_any (F:Nat) (p:Int × Int → Bool) (hf:Asks F p) (eg:∀ args w,(callFunc F args).run Tryz.prog w = .ok (.enter F args) w) (v:Value) (l:List (Int × Int)) (w:World) (hv:Sg.LstP w v l) (hl:l.length ≤ 1000000) :
  Calls Tryz.prog 156 #[v,.func (.func F) #[] #[]] w fun e w'=>e = .returned (.int .i64 ((ah p l:Nat):Int)) ∧ Q w w':=by
 obtain ⟨n,hn⟩:∃ n,n = l.length:=⟨_,rfl⟩
 have HN:=Lib.hid hn
 have HV:=Lib.hid hv
 have HF:=Lib.hid hf
 obtain ⟨a,cp,rfl,hc1,hc2⟩:=hv.form0 hn.symm
 rw [← hn] at hl
 obtain ⟨A,hA⟩:∃ A,A = ah p l:=⟨_,rfl⟩
 have HA0:=Lib.hid (show A = 0 + ah p (l.drop 0) by rw [List.drop_zero];omega)
 rw [← hA]
 clear hA hn hv hf
 go_enter Tryz.func156,Tryz.ntmps156
 go_wp2_with fail
 go_loopw [9] (fun i wr=>∃ k:Nat,i = .int .i64 k ∧ k ≤ n ∧ Hid (A = k + ah p (l.drop k)) ∧ Q w wr) (fun i _=>n - (intOf i).toNat)
 case atStart=>exact ⟨0,rfl,by omega,HA0,Q.refl _⟩
 case round =>
  obtain ⟨k,rfl,hk,HA,hq⟩:=hrel
  by_cases hlt:k < n
  ·have hlti:(k:Int) < (n:Int):=by omega
   have hkl:k < l.length:=by have:=HN.out;omega
   obtain ⟨g,off,cap,hvv,hg,_,_,c1,c2⟩:=(HV.out.q hq).cellOf HN.out.symm hlt
   cases hvv
   have HY:=Lib.hid (fun h=>ah_yes (p:=p) hkl h)
   have HO:=Lib.hid (fun h=>ah_no (p:=p) hkl h)
   obtain ⟨x,hx⟩:∃ x,x = l.getD k (0,0):=⟨_,rfl⟩
   rw [← hx] at c1 c2 HY HO
   obtain ⟨xk,xc⟩:=x
   clear hx
   have hfx:=fun w=>HF.out xk xc w
   obtain ⟨b,hb⟩:∃ b,b = p (xk,xc):=⟨_,rfl⟩
   rw [← hb] at hfx
   have HB:=Lib.hid hb
   have HFX:=Lib.hid hfx
   clear hb hfx
   go_wp2_with fail
   refine (HFX.out _).mono ?_
   rintro e w3 ⟨rfl,hq3⟩
   have hq4:Q w w3:=Q.trans (by first | exact hq.alloc _ | exact Q.setCell (Q.setCell (hq.alloc _) hq.le _) hq.le _) hq3
   cases b
   ·have HE:=Lib.hid (show A = k by have h1:=HA.out;rw [HO.out HB.out.symm] at h1;omega)
    go_wp2_with fail
    go_ret
    rw [HE.out]
    exact ⟨rfl,hq4⟩
   ·have HE:=Lib.hid (show A = (k + 1) + ah p (l.drop (k + 1)) by have h1:=HA.out;rw [HY.out HB.out.symm] at h1;omega)
    go_wp2_with fail
    exact ⟨⟨k + 1,by go_num,by omega,HE,hq4⟩,by simp [intOf];omega⟩
  ·have hnlt:¬ (k:Int) < (n:Int):=by omega
   have HE:=Lib.hid (show A = n by have h1:=HA.out;rw [ah_end (by have:=HN.out;omega)] at h1;omega)
   go_wp2_with fail
   go_ret
   rw [HE.out]
   exact ⟨rfl,hq⟩
theorem enters45 (args:Array Value) (w:World):(callFunc 157 args).run Tryz.prog w = .ok (.enter 157 args) w:=by go_simp
theorem sgB_snoc (l:List (Int × Int)) (k:Nat) (hk:k < l.length):(l.take (k + 1)).flatMap (fun x=>encL x.2) = (l.take k).flatMap (fun x=>encL x.2) ++ encL (l.getD k (0,0)).2:=by
 rw [List.getD_eq_getElem?_getD,List.getElem?_eq_getElem hk,List.take_succ_eq_append_getElem hk,List.flatMap_append]
 simp
theorem encL_len (c:Int):(encL c).length ≤ 4:=by unfold encL;rw [size_list];exact encB_size c
theorem sgB_len (l:List (Int × Int)):(l.flatMap fun x=>encL x.2).length ≤ 4 * l.length:=by
 induction l with
 | nil=>simp
 | cons x r ih=>rw [List.flatMap_cons,List.length_append];have:=encL_len x.2;simp only [List.length_cons];omega
set_option maxHeartbeats 4000000 in
theorem text_any (v:Value) (l:List (Int × Int)) (w:World) (hv:Sg.LstP w v l) (hl:l.length ≤ 1000000) :
  Calls Tryz.prog 164 #[v] w fun e w'=>e = .returned (.string ⟨(l.flatMap fun x=>encL x.2).toArray⟩) ∧ Q w w':=by
 obtain ⟨n,hn⟩:∃ n,n = l.length:=⟨_,rfl⟩
 have HN:=Lib.hid hn
 have HV:=Lib.hid hv
 obtain ⟨a,cp,rfl,hc1,hc2⟩:=hv.form0 hn.symm
 rw [← hn] at hl
 have HTL:=Lib.hid (fun k=>sgB_len (l.take k))
 have HTS:=Lib.hid (sgB_snoc l)
 have HT0:=Lib.hid (show l.flatMap (fun x=>encL x.2) = (l.take n).flatMap (fun x=>encL x.2) by rw [hn,List.take_length])
 obtain ⟨T,hT⟩:∃ T:Nat → List UInt8,T = fun k=>(l.take k).flatMap (fun x=>encL x.2):=⟨_,rfl⟩
 have hT':∀ k,(l.take k).flatMap (fun x=>encL x.2) = T k:=fun k=>by rw [hT]
 simp only [hT'] at HTL HTS HT0
 rw [HT0.out]
 have hfr:=Bl.Is.fresh w
 have h0:T 0 = []:=by rw [hT];rfl
 rw [← h0] at hfr
 have HB0:=Lib.hid hfr
 clear hn hv hT hT' hfr h0 HT0
 go_enter Tryz.func164,Tryz.ntmps164
 go_wp2_with fail
 go_loopw [8] (fun i wr=>∃ k:Nat,i = .int .i64 k ∧ k ≤ n ∧ Bl.Is w.heap.size w.heap.size (Lib.byteCells (T k)) wr ∧ Q w wr) (fun i _=>n - (intOf i).toNat)
 case atStart=>exact ⟨0,rfl,by omega,HB0.out,(Q.refl _).alloc _⟩
 case round =>
  obtain ⟨k,rfl,hk,hI,hq⟩:=hrel
  have hqs:=hq.le
  by_cases hlt:k < n
  ·have hlti:(k:Int) < (n:Int):=by omega
   have hkl:k < l.length:=by have:=HN.out;omega
   obtain ⟨g,off,cap,hvv,hg,_,_,c1,c2⟩:=(HV.out.q hq).cellOf HN.out.symm hlt
   cases hvv
   have HSN:=Lib.hid (HTS.out k hkl)
   have hTL:=HTL.out k
   have hle:(l.take k).length ≤ k:=List.length_take_le _ _
   obtain ⟨x,hx⟩:∃ x,x = l.getD k (0,0):=⟨_,rfl⟩
   rw [← hx] at c1 c2 HSN
   obtain ⟨xk,xc⟩:=x
   have hz:=encB_size xc
   have HTK:=Lib.hid (show (T k).length ≤ 4000000 by omega)
   clear hx hTL hle
   go_wp2_with fail
   refine (encode_any _ _).mono ?_
   rintro e w3 ⟨rfl,rfl⟩
   have hqa:=hq.alloc (.cells #[.int .i64 xk,.int .i64 xc] 209)
   have hIa:=hI.q ((Q.refl wr).alloc (.cells #[.int .i64 xk,.int .i64 xc] 209))
   have hqsa:=hqa.le
   have hTK:=HTK.out
   go_wp2_with fail
   refine (Bl.write_any _ _ _ _ _ hIa (by rw [Bl.cells_length];omega) hqsa).mono ?_
   rintro e w4 ⟨rfl,hI2,hb2,_⟩
   go_wp2_with fail
   exact ⟨⟨k + 1,by go_num,by omega,by rw [HSN.out];exact hI2.write,Below.trans hqa hb2⟩,by simp [intOf];omega⟩
  ·have hnlt:¬ (k:Int) < (n:Int):=by omega
   obtain rfl:k = n:=by omega
   go_wp2_with fail
   refine (Bl.done_any _ _ _ _ hI hqs).mono ?_
   rintro e w' ⟨rfl,hb2⟩
   go_wp2_with fail
   go_ret
   exact ⟨rfl,Below.trans hq hb2⟩
theorem elP:Pc.El 187 87:=⟨by kernel_rfl,Tryz.underlying87⟩
abbrev OwnP (w:World) (B:Nat) (v:Value) (l:List Pc.E):Prop:=Pc.OwnE 187 w B v l
theorem joinT_lit (l r:List (Int × Int)) (h:∀ x ∈ l,x.1 = 0):∀ t,joinT t (l ++ r) = joinT (t ++ l.flatMap fun x=>encL x.2) r:=by
 induction l with
 | nil=>intro t;simp
 | cons x l ih =>
  intro t
  show (if x.1 = 0 then joinT (t ++ encL x.2) (l ++ r) else _) = _
  rw [if_pos (h x List.mem_cons_self),ih fun y hy=>h y (List.mem_cons_of_mem _ hy),List.flatMap_cons,List.append_assoc]
theorem joinT_out {t:List UInt8} {r:List (Int × Int)} (ht:t ≠ []) (hr:r = [] ∨ (r.getD 0 (0,0)).1 ≠ 0):joinT t r = (0,t) :: joinT [] r:=by
 cases r with
 | nil=>simp [joinT,ht]
 | cons x r =>
  have hx:x.1 ≠ 0:=by
   rcases hr with h | h
   ·cases h
   ·simpa using h
  show (if x.1 = 0 then _ else (if t = [] then [] else [(0,t)]) ++ (x.1,[]) :: joinT [] r) = (0,t) :: (if x.1 = 0 then _ else (if ([]:List UInt8) = [] then [] else [(0,[])]) ++ (x.1,[]) :: joinT [] r)
  rw [if_neg hx,if_neg hx,if_neg ht,if_pos rfl];rfl
theorem joinT_one {x:Int × Int} {r:List (Int × Int)} (hx:x.1 ≠ 0):joinT [] (x :: r) = (x.1,[]) :: joinT [] r:=by
 show (if x.1 = 0 then _ else (if ([]:List UInt8) = [] then [] else [(0,[])]) ++ (x.1,[]) :: joinT [] r) = _
 rw [if_neg hx,if_pos rfl];rfl
theorem tw_all {p:Int × Int → Bool} (l:List (Int × Int)):∀ x ∈ l.take (ah p l),p x = true:=by
 unfold ah
 induction l with
 | nil=>intro x hx;simp at hx
 | cons y r ih =>
  intro x hx
  rw [List.takeWhile_cons] at hx
  split at hx
  ·rename_i h
   simp only [List.length_cons,List.take_succ_cons] at hx
   rcases List.mem_cons.1 hx with rfl | hx
   ·exact h
   ·exact ih x hx
  ·simp at hx
theorem tw_next {p:Int × Int → Bool} (l:List (Int × Int)):l.drop (ah p l) = [] ∨ p ((l.drop (ah p l)).getD 0 (0,0)) = false:=by
 unfold ah
 induction l with
 | nil=>left;simp
 | cons y r ih =>
  rw [List.takeWhile_cons]
  split
  ·rename_i h
   simpa using ih
  ·rename_i h
   right
   simpa using h
theorem joinT_ah (l:List (Int × Int)) (h0:ah isL l ≠ 0) (hne:∀ x ∈ l,encL x.2 ≠ []):joinT [] l = (0,(l.take (ah isL l)).flatMap fun x=>encL x.2) :: joinT [] (l.drop (ah isL l)):=by
 have e:l = l.take (ah isL l) ++ l.drop (ah isL l):=(List.take_append_drop _ _).symm
 conv=>lhs;rw [e]
 rw [joinT_lit _ _ (fun x hx=>by have:=tw_all l x hx;simpa [isL] using this),List.nil_append]
 refine joinT_out ?_ ?_
 ·cases l with
  | nil=>exact absurd rfl h0
  | cons y r =>
   obtain ⟨k,hk⟩:∃ k,ah isL (y :: r) = k + 1:=⟨ah isL (y :: r) - 1,by omega⟩
   rw [hk,List.take_succ_cons,List.flatMap_cons]
   have:=hne y List.mem_cons_self
   intro e
   exact this (List.append_eq_nil_iff.1 e).1
 ·rcases tw_next (p:=isL) l with h | h
  ·exact .inl h
  ·right;simpa [isL] using h
theorem enters61 (args:Array Value) (w:World):(callFunc 180 args).run Tryz.prog w = .ok (.enter 180 args) w:=by go_simp
theorem joinT_len (l:List (Int × Int)):∀ t,(joinT t l).length ≤ l.length + (if t = [] then 0 else 1):=by
 induction l with
 | nil=>intro t;unfold joinT;split <;> simp
 | cons x r ih =>
  intro t
  show (if x.1 = 0 then joinT (t ++ encL x.2) r else (if t = [] then [] else [(0,t)]) ++ (x.1,[]) :: joinT [] r).length ≤ _
  split
  ·have:=ih (t ++ encL x.2)
   simp only [List.length_cons]
   split at this <;> omega
  ·have:=ih []
   rw [if_pos rfl] at this
   split <;> simp only [List.length_cons,List.length_append,List.length_nil] <;> omega
def lenOf:Value → Nat
 | .slice _ n _=>n
 | _=>0
set_option maxHeartbeats 4000000 in
theorem pieces_any (v:Value) (l:List (Int × Int)) (w:World) (hv:Sg.LstP w v l) (hl:l.length ≤ 1000000) (hk:∀ x ∈ l,x.1 ≤ 3) (hne:∀ x ∈ l,encL x.2 ≠ []) :
  Calls Tryz.prog 162 #[v] w fun e w'=>∃ u,e = .returned u ∧ OwnP w' w.heap.size u (joinT [] l) ∧ Q w w':=by
 have HK:=Lib.hid hk
 have HNE:=Lib.hid hne
 obtain ⟨n,hn⟩:∃ n,n = l.length:=⟨_,rfl⟩
 have HN:=Lib.hid hn
 have HV:=Lib.hid hv
 obtain ⟨a,cp,rfl,hc1,hc2⟩:=hv.form0 hn.symm
 rw [← hn] at hl
 clear hn hv hk hne
 go_enter Tryz.func162,Tryz.ntmps162
 go_wp2_with fail
 go_loopw [0,3] (fun x u wr=>∃ (k m:Nat) (o:List Pc.E) (ad:Option Addr) (c:Nat),x = .slice ad m c ∧ k + m = n ∧ Hid (Sg.LstP w (.slice ad m c) (l.drop k)) ∧ OwnP wr w.heap.size u o ∧ Hid (o ++ joinT [] (l.drop k) = joinT [] l) ∧ o.length ≤ k ∧ Q w wr) (fun x _ _=>(lenOf x))
 case atStart=>exact ⟨0,n,[],a,cp,rfl,by omega,by rw [List.drop_zero];exact HV,Pc.OwnE.nil _ _ _,Lib.hid (by rw [List.drop_zero];rfl),by simp,Q.refl _⟩
 case round =>
  obtain ⟨k,m,o,ad,c,rfl,hkm,HL,ho,HJ,hok,hq⟩:=hrel
  have hqs:=hq.le
  have HLL:=Lib.hid (show (l.drop k).length = m by rw [List.length_drop,← HN.out];omega)
  obtain ⟨L,hL⟩:∃ L,L = l.drop k:=⟨_,rfl⟩
  have HD:=Lib.hid (fun (z:Nat)=>(show L.drop z = l.drop (k + z) by rw [hL,List.drop_drop]))
  have HKL:=Lib.hid (show ∀ x ∈ L,x.1 ≤ 3 from fun x hx=>HK.out x (by rw [hL] at hx;exact List.mem_of_mem_drop hx))
  have HNL:=Lib.hid (show ∀ x ∈ L,encL x.2 ≠ [] from fun x hx=>HNE.out x (by rw [hL] at hx;exact List.mem_of_mem_drop hx))
  rw [← hL] at HL HLL HJ
  clear hL
  have hfm:=HL.out.form0 HLL.out
  have hcc:m ≤ c ∧ c ≤ maxLen:=by obtain ⟨_,_,hv2,h1,h2⟩:=hfm;cases hv2;exact ⟨h1,h2⟩
  unfold maxLen at hcc
  clear hfm
  by_cases hm:m = 0
  ·subst hm
   have HF:=Lib.hid (show joinT [] l = o by
    have:=HJ.out
    rw [List.eq_nil_of_length_eq_zero HLL.out] at this
    rw [← this];simp [joinT])
   go_wp2_with fail
   go_ret
   rw [HF.out]
   exact ⟨_,rfl,ho,hq⟩
  ·have hmi:(0:Int) < (m:Int):=by omega
   have hAH:=fun w hv=>ahead_any 180 isL isL_any enters61 (.slice ad m c) L w hv (by rw [HLL.out];omega)
   have hAle:=ah_le isL L
   have HJA:=Lib.hid (joinT_ah L)
   have HT:Hid (∀ w a,Sg.LstP w (.slice ad m c) L → a ≤ m → Calls Tryz.prog 164 #[.slice ad a c] w fun e w'=>e = .returned (.string ⟨((L.take a).flatMap fun x=>encL x.2).toArray⟩) ∧ Q w w'):=Lib.hid (fun w a hv ha=>text_any _ _ w (hv.take a (by rw [HLL.out];omega)) (by rw [List.length_take,HLL.out];omega))
   obtain ⟨A,hA⟩:∃ A,A = ah isL L:=⟨_,rfl⟩
   rw [← hA] at hAH hAle HJA
   rw [HLL.out] at hAle
   have HAH:=Lib.hid hAH
   have HA:=Lib.hid hA
   clear hA hAH
   go_wp2_with fail
   refine (HAH.out _ (HL.out.q hq)).mono ?_
   rintro e w2 ⟨rfl,hq2⟩
   by_cases hA0:A = 0
   ·subst hA0
    obtain ⟨g,off,cap,hvv,hg,_,_,c1,c2⟩:=(HL.out.q (hq.trans hq2)).cellOf HLL.out (show 0 < m by omega)
    cases hvv
    rw [Nat.zero_mul,Nat.add_zero] at c1 c2
    obtain ⟨x,r,hxr⟩:∃ x r,L = x :: r:=by
     cases hL2:L with
     | nil=>have:=HLL.out;rw [hL2] at this;simp at this;omega
     | cons x r=>exact ⟨x,r,rfl⟩
    have hx0:x.1 ≠ 0:=by
     have h:=HA.out
     rw [hxr] at h
     intro e
     unfold ah at h
     rw [List.takeWhile_cons,if_pos (by simp [isL,e])] at h
     simp at h
    have hx3:x.1 ≤ 3:=HKL.out x (by rw [hxr];exact List.mem_cons_self)
    have HJ2:=Lib.hid (show o ++ [(x.1,[])] ++ joinT [] (L.drop 1) = joinT [] l by
     rw [← HJ.out,hxr,joinT_one hx0];simp)
    rw [hxr] at c1 c2
    replace c1:w2.cell? ⟨g,off,none⟩ = some (.int .i64 x.1):=c1
    obtain ⟨xk,hxk⟩:∃ xk,xk = x.1:=⟨_,rfl⟩
    rw [← hxk] at c1 HJ2 hx3
    clear c2 hxr hx0 hxk
    have ho2:=ho.q hq2
    have hq22:=hq.trans hq2
    have hqs2:=hq22.le
    go_wp2_with fail
    refine (need_yes _).mono ?_
    rintro e w3 ⟨rfl,rfl⟩
    go_wp2_with (at_builtin;refine Pc.push elP ho2 rfl _ _ rfl xk ByteArray.empty (by rfl) (by rfl) (by omega) hqs2 ?_)
    intro v' w4 ho4 hg4 hat4
    have hq4:=hq22.grown hg4 (fun j h=>(ho2.lt j h).1)
    have ho4:OwnP w4 w.heap.size v' (o ++ [(xk,[])]):=ho4
    rcases HL.out.rest HLL.out (show 1 ≤ m by omega) with ⟨g3,off3,ha,hlt5,hcc2,hcm,hdp⟩ | ⟨hkn,hcn,hdp⟩ | ⟨ad3,ha,hkn,hcc2,hcm,hdp⟩
    ·cases ha
     have HDP:=Lib.hid hdp
     clear hdp
     go_wp2_with fail
     exact ⟨⟨k + 1,m - 1,o ++ [(xk,[])],_,_,rfl,by omega,Lib.hid (by have h:=HDP.out;rw [HD.out] at h;exact h),ho4,Lib.hid (by have h:=HJ2.out;rw [HD.out] at h;exact h),by simp;omega,hq4⟩,by show m - 1 < m;omega⟩
    ·subst hcn hkn
     have HDP:=Lib.hid hdp
     clear hdp
     go_wp2_with fail
     exact ⟨⟨k + 1,0,o ++ [(xk,[])],_,_,rfl,by omega,Lib.hid (by have h:=HDP.out;rw [HD.out] at h;rw [h];exact Sg.LstP.nil _ _ _ (by unfold maxLen;omega) (fun _=>rfl)),ho4,Lib.hid (by have h:=HJ2.out;rw [HD.out] at h;exact h),by simp;omega,hq4⟩,by show 0 < 1;omega⟩
    ·subst hkn
     cases ha
     have HDP:=Lib.hid hdp
     clear hdp
     go_wp2_with fail
     exact ⟨⟨k + 1,0,o ++ [(xk,[])],_,_,rfl,by omega,Lib.hid (by have h:=HDP.out;rw [HD.out] at h;rw [h];exact Sg.LstP.nil _ _ _ (by unfold maxLen;omega) (fun h=>nomatch h)),ho4,Lib.hid (by have h:=HJ2.out;rw [HD.out] at h;exact h),by simp;omega,hq4⟩,by show 0 < 1;omega⟩
   ·have hAi:(0:Int) < (A:Int):=by omega
    go_wp2_with fail
    refine (HT.out _ A (HL.out.q (hq.trans hq2)) hAle).mono ?_
    rintro e w3 ⟨rfl,hq3⟩
    obtain ⟨T,hT⟩:∃ T,T = (L.take A).flatMap fun x=>encL x.2:=⟨_,rfl⟩
    have HJ2:=Lib.hid (show o ++ [(0,T)] ++ joinT [] (L.drop A) = joinT [] l by
     rw [← HJ.out,HJA.out hA0 HNL.out,← hT];simp)
    have hTl:T.length ≤ 4000000:=by have:=sgB_len (L.take A);rw [← hT,List.length_take,HLL.out] at this;omega
    rw [← hT]
    clear hT
    have hq23:=hq2.trans hq3
    have ho2:=ho.q hq23
    have hq22:=hq.trans hq23
    have hqs2:=hq22.le
    go_wp2_with (at_builtin;refine Pc.push elP ho2 rfl _ _ rfl 0 ⟨T.toArray⟩ (by rfl) (by rfl) (by omega) hqs2 ?_)
    intro v' w4 ho4 hg4 hat4
    have hq4:=hq22.grown hg4 (fun j h=>(ho2.lt j h).1)
    have ho4:OwnP w4 w.heap.size v' (o ++ [(0,T)]):=ho4
    rcases HL.out.rest HLL.out hAle with ⟨g3,off3,ha,hlt5,hcc2,hcm,hdp⟩ | ⟨hkn,hcn,hdp⟩ | ⟨ad3,ha,hkn,hcc2,hcm,hdp⟩
    ·cases ha
     have HDP:=Lib.hid hdp
     clear hdp
     go_wp2_with fail
     exact ⟨⟨k + A,m - A,o ++ [(0,T)],_,_,rfl,by omega,Lib.hid (by have h:=HDP.out;rw [HD.out] at h;exact h),ho4,Lib.hid (by have h:=HJ2.out;rw [HD.out] at h;exact h),by simp;omega,hq4⟩,by show m - A < m;omega⟩
    ·subst hcn hkn
     have HDP:=Lib.hid hdp
     clear hdp
     go_wp2_with fail
     exact ⟨⟨k + A,0,o ++ [(0,T)],_,_,rfl,by omega,Lib.hid (by have h:=HDP.out;rw [HD.out] at h;rw [h];exact Sg.LstP.nil _ _ _ (by unfold maxLen;omega) (fun _=>rfl)),ho4,Lib.hid (by have h:=HJ2.out;rw [HD.out] at h;exact h),by simp;omega,hq4⟩,by show 0 < A;omega⟩
    ·subst ha hkn
     have HDP:=Lib.hid hdp
     clear hdp
     go_wp2_with fail
     exact ⟨⟨k + A,0,o ++ [(0,T)],_,_,rfl,by omega,Lib.hid (by have h:=HDP.out;rw [HD.out] at h;rw [h];exact Sg.LstP.nil _ _ _ (by unfold maxLen;omega) (fun h=>nomatch h)),ho4,Lib.hid (by have h:=HJ2.out;rw [HD.out] at h;exact h),by simp;omega,hq4⟩,by show 0 < A;omega⟩
end Pg
end Go.Proofs.YtghfdapfnoeanaaGreatDoor
