/- Words and symbols, as the program and the document tell them; names; systems. (and more) -/
import Derived.Test.YteggfkbnnmpcjaaGreatDoorR34
import Derived.Test.YteggfkbnnmpcjaaGreatDoorR29
import Derived.Defers
import Derived.Recover
import Derived.Laws.Pointers
set_option linter.all false
set_option maxRecDepth 100000
set_option maxHeartbeats 8000000
namespace Go.Proofs.YteggfkbnnmpcjaaGreatDoor
section
open Go.RowKit
namespace Lo
open Um Cm Gm
/-! ### the program's -/
theorem word_any (s:ByteArray) (w:World) (hs:s.size <= 1000000) :
  Calls Tryz.prog 149 #[.string s] w fun e w'=>e = .returned (.bool (Lm.wordB s.data.toList)) /\ Q w w':=by
 have hsl:=size_list s;have hm:s.size <= maxLen:=by unfold maxLen;omega
 have hv:=fun w=>valid_any s w hm;by_cases h16:s.size <= 16
 ·have h16i:(s.size:Int) <= 16:=by omega
  cases hb:okL s.data.toList with
  | false =>
   have HF:=Hd (show Lm.wordB s.data.toList = false by unfold Lm.wordB;rw [hb];simp);simp only [hb] at hv;have HV:=Hd hv;clear hv hb hsl hm;rw [HF.out];go_enter Tryz.func149,Tryz.ntmps149
   go_wp2_with fail
   refine (HV.out _).mono ?_;rintro e w1 ⟨rfl,hq1⟩;go_wp2_with fail
   go_ret
   exact ⟨rfl,hq1⟩
  | true =>
   have hml:=marks_length s.data.toList;have hal:(allL s.data.toList).length <= 1073741824:=by unfold allL;rw [List.length_map];omega
   have ha:=Hd fun w=>all_any s w (by omega);have hp:=Hd fun v w hv=>plain_any v (allL s.data.toList) w hv hal;have HF:=Hd (show Lm.wordB s.data.toList = plainB (allL s.data.toList) by unfold Lm.wordB;rw [hb,hsl];simp [h16]);simp only [hb] at hv;have HV:=Hd hv;rw [HF.out];clear hv hb hsl hm hml hal HF;generalize plainB (allL s.data.toList) = P at *;generalize allL s.data.toList = A at *;go_enter Tryz.func149,Tryz.ntmps149
   go_wp2_with fail
   refine (HV.out _).mono ?_;rintro e w1 ⟨rfl,hq1⟩;go_wp2_with fail
   refine (ha.out _).mono ?_;rintro e w2 ⟨v2,rfl,hv2,hq2⟩;go_wp2_with fail
   refine (hp.out _ _ hv2.lst).mono ?_;rintro e w3 ⟨rfl,hq3⟩;go_wp2_with fail
   go_ret
   exact ⟨rfl,hq1.trans (hq2.trans hq3)⟩
 ·have h16i:¬ (s.size:Int) <= 16:=by omega
  have HF:=Hd (show Lm.wordB s.data.toList = false by unfold Lm.wordB;rw [hsl];simp [h16]);clear hv hsl hm;rw [HF.out];go_enter Tryz.func149,Tryz.ntmps149
  go_wp2_with fail
  go_ret
  exact ⟨rfl,Q.refl _⟩
theorem symbol_any (s:ByteArray) (w:World) (hs:s.size <= 1000000) :
  Calls Tryz.prog 100 #[.string s] w fun e w'=>e = .returned (.bool (Lm.symB s.data.toList)) /\ Q w w':=by
 have hw:=fun w=>word_any s w hs;have hc:=fun w=>cone_any s w (by omega);have HF:=Hd (show Lm.symB s.data.toList = (Lm.wordB s.data.toList && oneB s.data.toList) from rfl);rw [HF.out];clear HF;generalize Lm.wordB s.data.toList = W at *;generalize oneB s.data.toList = C at *;have HW:=Hd hw;have HC:=Hd hc;clear hw hc;cases W with
 | false =>
  go_enter Tryz.func100,Tryz.ntmps100
  go_wp2_with fail
  refine (HW.out _).mono ?_;rintro e w1 ⟨rfl,hq1⟩;go_wp2_with fail
  go_ret
  exact ⟨rfl,hq1⟩
 | true =>
  go_enter Tryz.func100,Tryz.ntmps100
  go_wp2_with fail
  refine (HW.out _).mono ?_;rintro e w1 ⟨rfl,hq1⟩;go_wp2_with fail
  refine (HC.out _).mono ?_;rintro e w2 ⟨rfl,hq2⟩;go_wp2_with fail
  go_ret
  exact ⟨rfl,hq1.trans hq2⟩
/-! ### the document's -/
/-! ### a system's name -/
theorem known_ok (x:ByteArray) (w:World) (hx:x.size <= maxLen) (h:Sm.nz x.data.toList ≠ -1) :
  Calls Tryz.prog 98 #[.string x] w fun e w'=>e = .returned (.bool true) /\ Q w w':=by
 have hz:=Hd fun w=>Sy.zero_some x w hx h;clear h;go_enter Tryz.func98,Tryz.ntmps98
 go_wp2_with fail
 refine (hz.out _).mono ?_;rintro e w1 ⟨rfl,hq1⟩;go_wp2_with fail
 go_ret
 exact ⟨rfl,hq1⟩
end Lo
end
section
open Go.RowKit
namespace Lo
open Um Cm Gm
def recC (r:Lm.Rec):List Value:=[.string (Lm.bs r.nam),.string (Lm.bs r.pat),.string (Lm.bs r.sys),.string (Lm.bs r.dec),.string (Lm.bs r.grp),.string (Lm.bs r.min),.string (Lm.bs r.per),.string (Lm.bs r.cur)]
def locC (r:Lm.Rec) (X:Pt.Pat) (a b c d cl:Value):List Value:=[.string (Lm.bs r.nam),.string (Lm.bs r.pat),.string (Lm.bs r.sys),.string (Lm.bs r.dec),.string (Lm.bs r.grp),.string (Lm.bs r.min),.string (Lm.bs r.per),.string (Lm.bs r.cur),a,b,c,d,.int .i64 X.pr,.int .i64 X.se,.int .i64 X.mi,.int .i64 X.mf,.int .i64 X.xf,.string (Lm.dgt r 0),.string (Lm.dgt r 1),.string (Lm.dgt r 2),.string (Lm.dgt r 3),.string (Lm.dgt r 4),.string (Lm.dgt r 5),.string (Lm.dgt r 6),.string (Lm.dgt r 7),.string (Lm.dgt r 8),.string (Lm.dgt r 9),.string (Lm.bs r.dec),.string (Lm.bs r.grp),.string (Lm.bs r.min),cl]
@[reducible] def recV (r:Lm.Rec):Value:=.agg #[.string (Lm.bs r.nam),.string (Lm.bs r.pat),.string (Lm.bs r.sys),.string (Lm.bs r.dec),.string (Lm.bs r.grp),.string (Lm.bs r.min),.string (Lm.bs r.per),.string (Lm.bs r.cur)]
def LB (w:World) (g:Nat) (r:Lm.Rec) (X:Pt.Pat) (a b c d cl:Value):Prop :=
 Bk w g 110 (locC r X a b c d cl) /\ Pc.LstP w a X.pre /\ Pc.LstP w b X.suf /\ Pc.LstP w c X.npre /\ Pc.LstP w d X.nsuf
theorem LB.q {w w':World} {g:Nat} {r:Lm.Rec} {X:Pt.Pat} {a b c d cl:Value} (h:LB w g r X a b c d cl) (hq:Q w w'):LB w' g r X a b c d cl :=
 ⟨h.1.q hq,h.2.1.q hq,h.2.2.1.q hq,h.2.2.2.1.q hq,h.2.2.2.2.q hq⟩
theorem LB.syms {w:World} {g:Nat} {r:Lm.Rec} {X:Pt.Pat} {a b c d cl:Value} (h:LB w g r X a b c d cl) (n:Nat) (hn:n <= 13):SLst w (.slice (some ⟨g,17,none⟩) n 13) ((Lm.syms r).take n):=by
 have hl:((Lm.syms r).take n).length = n:=by rw [List.length_take];show min n 13 = n;omega
 refine .inr ⟨g,17,13,by rw [hl],h.1.lt,by rw [hl];exact hn,by unfold maxLen;omega,fun i x hi=>?_⟩;have hin:i < n:=by have:=(List.getElem?_eq_some_iff.1 hi).1;omega
 rw [List.getElem?_take,if_pos hin] at hi;refine h.1.cell (17 + i) ?_;have e:(locC r X a b c d cl)[17 + i]? = ((Lm.syms r)[i]?).map Value.string:=by
  have hi13:i < 13:=by omega
  match i,hi13 with
  | 0,_=>rfl
  | 1,_=>rfl
  | 2,_=>rfl
  | 3,_=>rfl
  | 4,_=>rfl
  | 5,_=>rfl
  | 6,_=>rfl
  | 7,_=>rfl
  | 8,_=>rfl
  | 9,_=>rfl
  | 10,_=>rfl
  | 11,_=>rfl
  | 12,_=>rfl
 rw [e,hi];rfl
theorem plc_sp (x:ByteArray) (xs:List ByteArray):∀ k,Sp.plc x xs k = Lm.plc x xs k:=by
 induction xs with
 | nil=>intro k;rfl
 | cons y r ih=>intro k;unfold Sp.plc Lm.plc;rw [ih]
theorem rs_ptx (r:Lm.Rec) (A:List Pc.E):A.flatMap (Pg.rsP (Lm.bs r.cur) (Lm.bs r.per) ⟨#[]⟩) = Lm.atx r A:=by
 unfold Lm.atx;congr 1
 funext x
 unfold Pg.rsP Lm.ptx;rw [Lm.bs_list,Lm.bs_list];by_cases h0:x.1 = 0
 ·rw [if_pos h0,if_pos h0]
 ·by_cases h1:x.1 = 1
  ·rw [if_neg h0,if_neg h0,if_pos h1,if_pos h1]
  ·by_cases h2:x.1 = 2
   ·rw [if_neg h0,if_neg h0,if_neg h1,if_neg h1,if_pos h2,if_pos h2]
   ·rw [if_neg h0,if_neg h0,if_neg h1,if_neg h1,if_neg h2,if_neg h2]
    split <;> rfl
theorem text_any (g:Nat) (r:Lm.Rec) (X:Pt.Pat) (a b c d cl v:Value) (A:List Pc.E) (w:World) (hB:LB w g r X a b c d cl) (hv:Pc.LstP w v A) (hA:A.length <= 1000000) (hz:(Lm.atx r A).length <= 1000000) :
  Calls Tryz.prog 120 #[.pointer (some ⟨g,0,none⟩),v] w fun e w'=>e = .returned (.string (Lm.bs (Lm.atx r A))) /\ Q w w':=by
 have hR:=fun u (hq:Q w u)=>Pg.resolveP_any v A (Lm.bs r.cur) (Lm.bs r.per) ⟨#[]⟩ u (hv.q hq) hA (by rw [rs_ptx];exact hz);rw [rs_ptx] at hR;have HR:=Hd hR;have HB:=Hd hB.1;obtain ⟨a0,c0,rfl,_,_⟩:=hv.shape2;generalize A.length = n at *;have HF:Hid ((⟨(Lm.atx r A).toArray⟩:ByteArray) = Lm.bs (Lm.atx r A)):=Hd rfl;rw [HF.out] at HR;generalize Lm.bs (Lm.atx r A) = Z at *;clear hB hv hA hz hR HF;go_enter Tryz.func120,Tryz.ntmps120
 go_upto_region 1 with fail
 refine wp_region_held_drew (S:=fun u=>Q w u) (by kernel_rfl) (by exact (Q.refl w).drew) (fun hHeld=>?_);have hS:Q w w.drew:=hHeld;clear hHeld;have hq:Q w w.drew:=(Q.refl _).drew;clear hq;generalize w.drew = yR1x0 at *;refine tk 0 (by simp only [gA,gB,gC];rfl) (by first | kernel_rfl | rfl) (fun uz _=>by go_simp;try with_reducible rfl) pq hS ?_;try simp only [Act.put,sA,sB,sC]
 refine tk 1 (by simp only [gA,gB,gC];rfl) (by first | kernel_rfl | rfl) (fun uz _=>by go_simp;try with_reducible rfl) pq hS ?_;try simp only [Act.put,sA,sB,sC]
 refine tk 2 (by simp only [gA,gB,gC];rfl) (by first | kernel_rfl | rfl) (fun uz _=>by go_simp;try with_reducible rfl) pq hS ?_;try simp only [Act.put,sA,sB,sC]
 refine tk 3 (by simp only [gA,gB,gC];rfl) (by first | kernel_rfl | rfl) (fun uz _=>by go_simp;try with_reducible rfl) pq hS ?_;try simp only [Act.put,sA,sB,sC]
 refine tk 4 (by simp only [gA,gB,gC];rfl) (by first | kernel_rfl | rfl) (fun uz _=>by go_simp;try with_reducible rfl) pq hS ?_;try simp only [Act.put,sA,sB,sC]
 refine tk 5 (by simp only [gA,gB,gC];rfl) (by first | kernel_rfl | rfl) (fun uz hSw=>by (try dsimp only at hSw);have kb:=HB.out.q hSw;have k6:=kb.cell 6 rfl;have k7:=kb.cell 7 rfl;clear kb;go_simp;try with_reducible rfl) pq hS ?_;try simp only [Act.put,sA,sB,sC]
 refine tk 6 (by simp only [gA,gB,gC];rfl) (by first | kernel_rfl | rfl) (fun uz _=>by go_simp;try with_reducible rfl) pq hS ?_;try simp only [Act.put,sA,sB,sC]
 refine tk 7 (by simp only [gA,gB,gC];rfl) (by first | kernel_rfl | rfl) (fun uz _=>by go_simp;try with_reducible rfl) pq hS ?_;try simp only [Act.put,sA,sB,sC]
 refine tk 8 (by simp only [gA,gB,gC];rfl) (by first | kernel_rfl | rfl) (fun uz _=>by go_simp;try with_reducible rfl) pq hS ?_;try simp only [Act.put,sA,sB,sC]
 refine tk 9 (by simp only [gA,gB,gC];rfl) (by first | kernel_rfl | rfl) (fun uz _=>by go_simp;try with_reducible rfl) pq hS ?_;try simp only [Act.put,sA,sB,sC]
 refine tk 10 (by simp only [gA,gB,gC];rfl) (by first | kernel_rfl | rfl) (fun uz hSw=>by (try dsimp only at hSw);have kb:=HB.out.q hSw;have k6:=kb.cell 6 rfl;have k7:=kb.cell 7 rfl;clear kb;go_simp;try with_reducible rfl) pq hS ?_;try simp only [Act.put,sA,sB,sC]
 refine wpAnyH_ready (rs:=[11]) (by kernel_rfl) (by simp) ?_;refine ar rfl fun K hK=>?_;go_simp
 refine (HR.out _ hS).mono ?_;rintro e yR1x12 ⟨rfl,hq⟩;try (go_wp2_with fail)
 have hS2:=Q.trans hS hq;refine hK.out _ _ (by exact hS2) (fun hHeld=>?_);clear hK K hHeld hS hq;have hS:=hS2;clear hS2;try simp only [Act.put,sA,sB,sC]
 refine tk 12 (by simp only [gA,gB,gC];rfl) (by first | kernel_rfl | rfl) (fun uz _=>by go_simp;try with_reducible rfl) pq hS ?_;try simp only [Act.put,sA,sB,sC]
 refine wpAnyH_done (by kernel_rfl) ?_ _;have HQ:=Hd hS;clear hS;go_wp2_with fail
 try (rename_i dx1 d1 hx1;have hy1:(some 4:Option Tmp) = some d1:=hx1;obtain rfl:=Option.some.inj hy1;clear hx1 hy1)
 go_ret
 exact ⟨rfl,HQ.out⟩
theorem long_ok (g:Nat) (r:Lm.Rec) (X:Pt.Pat) (a b c d cl v:Value) (A:List Pc.E) (w:World) (hB:LB w g r X a b c d cl) (hv:Pc.LstP w v A) (hA:A.length <= 1000000) (hz:(Lm.atx r A).length <= 64) :
  Calls Tryz.prog 112 #[.pointer (some ⟨g,0,none⟩),v] w fun e w'=>e = .returned (.bool false) /\ Q w w':=by
 have ht:=Hd (text_any g r X a b c d cl v A w hB hv hA (by omega));have hs:=Lm.bs_size (Lm.atx r A);generalize Lm.bs (Lm.atx r A) = Z at *;have hz2:¬ (64:Int) < (Z.size:Int):=by omega
 obtain ⟨a0,c0,rfl,_,_⟩:=hv.shape2;generalize A.length = n at *;clear hB hv hA hz hs;go_enter Tryz.func112,Tryz.ntmps112
 go_wp2_with fail
 refine ht.out.mono ?_;rintro e w1 ⟨rfl,hq1⟩;go_wp2_with fail
 go_ret
 exact ⟨retB (decide_eq_false (by omega)),hq1⟩
theorem sign_any (g:Nat) (r:Lm.Rec) (X:Pt.Pat) (a b c d cl:Value) (x:ByteArray) (w:World) (hB:LB w g r X a b c d cl) :
  Calls Tryz.prog 29 #[.pointer (some ⟨g,0,none⟩),.string x] w fun e w'=>e = .returned (.int .i64 (Lm.sgn r x)) /\ Q w w':=by
 by_cases h0:x.size = 0
 ·have HF:=Hd (show Lm.sgn r x = -1 from if_pos h0)
  have hx:x = ⟨#[]⟩:=by
   obtain ⟨⟨l⟩⟩:=x;simp [ByteArray.size] at h0;subst h0;rfl
  subst hx;have hb:((⟨#[]⟩:ByteArray).toList == (⟨#[]⟩:ByteArray).toList) = true:=by simp
  have hb1:(⟨#[]⟩:ByteArray).toList.isEmpty = true:=by decide +kernel
  clear h0 hB;go_enter Tryz.func29,Tryz.ntmps29
  go_wp2_with fail
  go_ret
  rw [HF.out];exact ⟨rfl,Q.refl _⟩
 ·have HF:=Hd (show Lm.sgn r x = Lm.plc x (Lm.syms r) 0 from if_neg h0)
  have hb:(x.toList == (⟨#[]⟩:ByteArray).toList) = false:=str_ne (fun e=>h0 (by rw [e];rfl));have hb1:x.toList.isEmpty = false:=by
   rw [emp_eq];have:=size_list x;cases h:x.data.toList with
   | nil=>rw [h] at this;exact absurd this.symm h0
   | cons _ _=>rfl
  have hb2:(x.toList == []) = false:=by
   cases h:x.toList with
   | nil=>rw [h] at hb1;cases hb1
   | cons _ _=>rfl
  have hI:=fun w' (hq:Q w w')=>Sp.idx_any (.slice (some ⟨g,17,none⟩) 13 13) (Lm.syms r) x w' ((hB.q hq).syms 13 (by omega)) (by show (13:Nat) <= _;omega);simp only [plc_sp] at hI;rw [HF.out];have HI:=Hd hI;generalize Lm.plc x (Lm.syms r) 0 = R at *;clear h0 hB hI HF;go_enter Tryz.func29,Tryz.ntmps29
  go_wp2_with fail
  refine (HI.out _ (Q.refl _)).mono ?_;rintro e w1 ⟨rfl,rfl⟩;go_wp2_with fail
  go_ret
  exact ⟨rfl,Q.refl _⟩
theorem symbol_none (g:Nat) (r:Lm.Rec) (X:Pt.Pat) (a b c d cl:Value) (x:ByteArray) (w:World) (hB:LB w g r X a b c d cl) (hx:Lm.sgn r x = -1) :
  Calls Tryz.prog 119 #[.pointer (some ⟨g,0,none⟩),.string x] w fun e w'=>e = .returned (.bool false) /\ Q w w':=by
 have hs:=sign_any g r X a b c d cl x w hB;rw [hx] at hs;have HS:=Hd hs;clear hs hx hB;go_enter Tryz.func119,Tryz.ntmps119
 go_wp2_with fail
 refine HS.out.mono ?_;rintro e w1 ⟨rfl,hq1⟩;go_wp2_with fail
 go_ret
 exact ⟨rfl,hq1⟩
theorem affix_any (g:Nat) (r:Lm.Rec) (X:Pt.Pat) (a b c d cl:Value) (xs:List ByteArray) (x:ByteArray) (w:World) (hB:LB w g r X a b c d cl) (hcl:SLst w cl xs) (hx:xs.length <= 1073741824) :
  Calls Tryz.prog 33 #[.pointer (some ⟨g,0,none⟩),.string x] w fun e w'=>e = .returned (.bool (decide (0 <= Lm.plc x xs 0))) /\ Q w w':=by
 have hI:=fun w' (hq:Q w w')=>Sp.has_any cl xs x w' (hcl.q hq) hx;simp only [plc_sp] at hI;have HI:=Hd hI;have c1:=hB.1.cell 30 rfl;obtain ⟨a0,c0,rfl⟩:=hcl.shape;generalize Lm.plc x xs 0 = R at *;generalize xs.length = n at *;clear hI hB hcl hx;go_enter Tryz.func33,Tryz.ntmps33
 go_wp2_with fail
 refine (HI.out _ (Q.refl _)).mono ?_;rintro e w1 ⟨rfl,rfl⟩;go_wp2_with fail
 go_ret
 exact ⟨rfl,Q.refl _⟩
theorem taken_no (g:Nat) (r:Lm.Rec) (X:Pt.Pat) (a b c d cl:Value) (k:Nat) (x:ByteArray) (w:World) (hB:LB w g r X a b c d cl) (hk:k < 13) (hx:(Lm.syms r)[k]? = some x) (hno:x ∉ (Lm.syms r).take k) :
  Calls Tryz.prog 114 #[.pointer (some ⟨g,0,none⟩),.int .i64 k] w fun e w'=>e = .returned (.bool false) /\ Q w w':=by
 have hI:=fun w' (hq:Q w w')=>(Sp.has_any (.slice (some ⟨g,17,none⟩) k 13) ((Lm.syms r).take k) x w' ((hB.q hq).syms k (by omega)) (by rw [List.length_take];omega)).mono (fun e u h=>(⟨h.1,h.2 ▸ Q.refl _⟩:_ /\ Q w' u));simp only [plc_sp,Lm.plc_none _ _ hno] at hI;have HI:=Hd hI;have HC:Hid (∀ u,Q w u -> u.cell? ⟨g,17 + k,none⟩ = some (.string x)):=Hd (fun u hq=>by
  have hl:=(hB.q hq).syms 13 (by omega);have h2:((Lm.syms r).take 13)[k]? = some x:=by rw [List.getElem?_take,if_pos hk];exact hx
  obtain ⟨g',off,cap,hv,_,_,_,hc⟩:=hl.cellOf (n:=13) (by rw [List.length_take];rfl) h2;cases hv;exact hc)
 have h0:¬ (k:Int) < 0:=by omega
 have h1:(k:Int) < 13:=by omega
 have h2:(k:Int) <= 13:=by omega
 have h3:k <= 13:=by omega
 clear hB hx hno hI;go_enter Tryz.func114,Tryz.ntmps114
 go_upto_region 1 with fail
 refine wp_region_held_drew (S:=fun u=>Q w u) (by kernel_rfl) (by exact (Q.refl w).drew) (fun hHeld=>?_);have hS:Q w w.drew:=hHeld;clear hHeld;have hq:Q w w.drew:=(Q.refl _).drew;clear hq;generalize w.drew = yR4x0 at *;refine tk 0 (by simp only [gA,gB,gC];rfl) (by first | kernel_rfl | rfl) (fun uz _=>by go_simp;try with_reducible rfl) pq hS ?_;try simp only [Act.put,sA,sB,sC]
 refine tk 1 (by simp only [gA,gB,gC];rfl) (by first | kernel_rfl | rfl) (fun uz _=>by go_simp;try with_reducible rfl) pq hS ?_;try simp only [Act.put,sA,sB,sC]
 refine tk 2 (by simp only [gA,gB,gC];rfl) (by first | kernel_rfl | rfl) (fun uz _=>by go_simp;try with_reducible rfl) pq hS ?_;try simp only [Act.put,sA,sB,sC]
 refine tk 3 (by simp only [gA,gB,gC];rfl) (by first | kernel_rfl | rfl) (fun uz _=>by go_simp;try with_reducible rfl) pq hS ?_;try simp only [Act.put,sA,sB,sC]
 refine tk 4 (by simp only [gA,gB,gC];rfl) (by first | kernel_rfl | rfl) (fun uz _=>by go_simp;try with_reducible rfl) pq hS ?_;try simp only [Act.put,sA,sB,sC]
 refine tk 5 (by simp only [gA,gB,gC];rfl) (by first | kernel_rfl | rfl) (fun uz _=>by go_simp;try with_reducible rfl) pq hS ?_;try simp only [Act.put,sA,sB,sC]
 refine tk 6 (by simp only [gA,gB,gC];rfl) (by first | kernel_rfl | rfl) (fun uz _=>by go_simp;try with_reducible rfl) pq hS ?_;try simp only [Act.put,sA,sB,sC]
 refine tk 7 (by simp only [gA,gB,gC];rfl) (by first | kernel_rfl | rfl) (fun uz _=>by go_simp;try with_reducible rfl) pq hS ?_;try simp only [Act.put,sA,sB,sC]
 refine tk 8 (by simp only [gA,gB,gC];rfl) (by first | kernel_rfl | rfl) (fun uz _=>by go_simp;try with_reducible rfl) pq hS ?_;try simp only [Act.put,sA,sB,sC]
 refine tk 9 (by simp only [gA,gB,gC];rfl) (by first | kernel_rfl | rfl) (fun uz _=>by go_simp;try with_reducible rfl) pq hS ?_;try simp only [Act.put,sA,sB,sC]
 refine tk 10 (by simp only [gA,gB,gC];rfl) (by first | kernel_rfl | rfl) (fun uz hSw=>by (try dsimp only at hSw);have k1:=HC.out _ hSw;go_simp;try with_reducible rfl) pq hS ?_;try simp only [Act.put,sA,sB,sC]
 refine wpAnyH_ready (rs:=[11]) (by kernel_rfl) (by simp) ?_;refine ar rfl fun K hK=>?_;go_simp
 refine (HI.out _ hS).mono ?_;rintro e yR4x12 ⟨rfl,hq⟩;try (go_wp2_with fail)
 have hS2:=Q.trans hS hq;refine hK.out _ _ (by exact hS2) (fun hHeld=>?_);clear hK K hHeld hS hq;have hS:=hS2;clear hS2;try simp only [Act.put,sA,sB,sC]
 refine tk 12 (by simp only [gA,gB,gC];rfl) (by first | kernel_rfl | rfl) (fun uz _=>by go_simp;try with_reducible rfl) pq hS ?_;try simp only [Act.put,sA,sB,sC]
 refine wpAnyH_done (by kernel_rfl) ?_ _;have HQ:=Hd hS;clear hS;go_wp2_with fail
 try (rename_i dx1 d1 hx1;have hy1:(some 4:Option Tmp) = some d1:=hx1;obtain rfl:=Option.some.inj hy1;clear hx1 hy1)
 go_ret
 exact ⟨rfl,HQ.out⟩
end Lo
end
section
open Go.RowKit
namespace Pg
open Pt Um
theorem catch_idle (p q:Addr) (w:World) :
  CallsD Tryz.prog 89 #[.pointer (some p),.pointer (some q)] .returning w fun e u' w'=>e = .returned (.tuple #[]) /\ u' = .returning /\ w' = w:=by
 refine callsD_of_wpS Tryz.func89 rfl fun c₀ cs hu=>?_;apply wpS_seq;apply wpS_region;simp [wpOpsS,go_sem,recoverD,hu,Tryz.ntmps89,Exit.thenS];refine wpS_of_wp ?_;simp only [List.push_append_toArray,Array.replicate,List.replicate,List.setIfInBounds_toArray,List.set_cons_zero,List.set_cons_succ,List.append_toArray,List.cons_append,List.nil_append];go_wp2_with fail
 cases c₀;simp_all [bodyPostS,results,Tryz.results89]
theorem New.pastB {w:World} {B b:Nat} {v:Value} {l:List Pc.E} (h:Pc.New w B v l) (hbB:b < B) (i:Nat) (u:Value):Pc.New (w.setCell ⟨b,i,none⟩ u) B v l:=by
 refine ⟨?_,h.2⟩;rcases h.1 with hn | ⟨g,off,cap,rfl,hg,h1,h2,hc⟩
 ·exact .inl hn
 ·refine .inr ⟨g,off,cap,rfl,by rw [World.size_setCell];exact hg,h1,h2,fun j hj=>?_⟩
  have hb:=h.2 _ _ _ rfl (by omega);have hb:B <= g:=hb;exact ⟨cell_past (hc j hj).1 hg (by omega) u,cell_past (hc j hj).2 hg (by omega) u⟩
theorem res2 {fn:Func} {p q:Tmp} (h:fn.results = #[.cell p 104,.cell q 48]) {tmps:Array Value} {w:World} {g g2:Nat} {l:List Value} {k:Int} (hp:tmps.getD p undef = .pointer (some ⟨g,0,none⟩)) (hq:tmps.getD q undef = .pointer (some ⟨g2,0,none⟩)) (hl:l.length = 9)
  (hB:Bk w g 104 l) (hE:Bk w g2 48 [.int .i64 k]):(results fn tmps).run Tryz.prog w = .ok (.tuple #[.agg l.toArray,.int .i64 k]) w:=by
 have e:(results fn tmps).run Tryz.prog w = ((asAddr (tmps.getD p undef)).run Tryz.prog w).andThen fun a w₁=>((loadVar 104 a).run Tryz.prog w₁).andThen fun v w₂=>((asAddr (tmps.getD q undef)).run Tryz.prog w₂).andThen fun a w₃=>((loadVar 48 a).run Tryz.prog w₃).andThen fun v2 w₄=>.ok (.tuple #[v,v2]) w₄:=by
  simp only [results,h];simp [Sem.run_bind,Result.andThen]
 have e1:=run_loadVar_row w g 104 104 l.toArray (0,0) _ hB Tryz.underlying104 rfl (by simpa [hl] using infoPt);have e2:=hE.cell 0 rfl;rw [e,hp,hq];simp [asAddr,Result.andThen,e1];simp [go_sem,e2]
theorem mk_fn (fn:Fn) (first cap:Array Value) (w:World):(Instr.makeFunc fn first cap).run Tryz.prog w = .ok (.func fn first cap) w:=rfl
theorem parse_ok (s:ByteArray) (w:World) (X:Pat) (hr:∀ u,Q w u -> Calls Tryz.prog 90 #[.string s] u fun e w'=>Q u w' /\ ∃ v,e = .returned v /\ PV w' u.heap.size v X) :
  Calls Tryz.prog 55 #[.string s] w fun e w'=>∃ v,e = .returned (.tuple #[v,.int .i64 0]) /\ PV w' w.heap.size v X /\ Q w w':=by
 have hmf:=mk_fn;have HR:=Hd hr;clear hr;go_enter_defers Tryz.func55,Tryz.ntmps55
 go_wp2_with fail
 refine (HR.out _ (((Q.refl w).alloc _).alloc _)).mono ?_;rintro e w1 ⟨hq1,v,rfl,hv⟩;obtain ⟨a,b,c,d,rfl,ha,hb,hc,hd⟩:=hv;obtain ⟨l1,hl1⟩:∃ l,X.pre.length = l:=⟨_,rfl⟩;obtain ⟨l2,hl2⟩:∃ l,X.suf.length = l:=⟨_,rfl⟩;obtain ⟨l3,hl3⟩:∃ l,X.npre.length = l:=⟨_,rfl⟩;obtain ⟨l4,hl4⟩:∃ l,X.nsuf.length = l:=⟨_,rfl⟩;obtain ⟨a,a',rfl,_,_⟩:=ha.1.form0 hl1;obtain ⟨b,b',rfl,_,_⟩:=hb.1.form0 hl2;obtain ⟨c,c',rfl,_,_⟩:=hc.1.form0 hl3;obtain ⟨d,d',rfl,_,_⟩:=hd.1.form0 hl4;have hne:w.heap.size + 1 ≠ w.heap.size:=by omega
 have HB:=Hd (((Bk.new w 104 [.slice none 0 0,.slice none 0 0,.slice none 0 0,.slice none 0 0,.int .i64 0,.int .i64 0,.int .i64 0,.int .i64 0,.int .i64 0]).q ((Q.refl _).alloc (.cells #[.int .i64 0] 48))).q hq1);have HE:=Hd ((show Bk ((w.alloc (.cells #[.slice none 0 0,.slice none 0 0,.slice none 0 0,.slice none 0 0,.int .i64 0,.int .i64 0,.int .i64 0,.int .i64 0,.int .i64 0] 104)).alloc (.cells #[.int .i64 0] 48)) (w.heap.size + 1) 48 [.int .i64 0] from heap_alloc2_new _ _ _).q hq1);have HQ:=Hd ((((Q.refl w).alloc (.cells #[.slice none 0 0,.slice none 0 0,.slice none 0 0,.slice none 0 0,.int .i64 0,.int .i64 0,.int .i64 0,.int .i64 0,.int .i64 0] 104)).alloc (.cells #[.int .i64 0] 48)).trans hq1);have hbig:w.heap.size + 2 <= ((w.alloc (.cells #[.slice none 0 0,.slice none 0 0,.slice none 0 0,.slice none 0 0,.int .i64 0,.int .i64 0,.int .i64 0,.int .i64 0,.int .i64 0] 104)).alloc (.cells #[.int .i64 0] 48)).heap.size:=by rw [World.size_alloc,World.size_alloc];omega
 have b0:=HB.out.cell 0 rfl;have f0:=HB.out.free 0;have b1:=HB.out.cell 1 rfl;have f1:=HB.out.free 1;have b2:=HB.out.cell 2 rfl;have f2:=HB.out.free 2;have b3:=HB.out.cell 3 rfl;have f3:=HB.out.free 3;have b4:=HB.out.cell 4 rfl;have f4:=HB.out.free 4;have b5:=HB.out.cell 5 rfl;have f5:=HB.out.free 5;have b6:=HB.out.cell 6 rfl;have f6:=HB.out.free 6;have b7:=HB.out.cell 7 rfl;have f7:=HB.out.free 7;have b8:=HB.out.cell 8 rfl;have f8:=HB.out.free 8;have e0:=HE.out.cell 0 rfl;have g0:=HE.out.free 0;have HB2:=Hd ((Bk.past (((((((((HB.out.set 0 (.slice a l1 a')).set 1 (.slice b l2 b')).set 2 (.slice c l3 c')).set 3 (.slice d l4 d')).set 4 (.int .i64 X.pr)).set 5 (.int .i64 X.se)).set 6 (.int .i64 X.mi)).set 7 (.int .i64 X.mf)).set 8 (.int .i64 X.xf)) (g:=w.heap.size + 1) (i:=0) hne (.int .i64 0)));have HE2:=Hd (((Bk.past (Bk.past (Bk.past (Bk.past (Bk.past (Bk.past (Bk.past (Bk.past (Bk.past HE.out (g:=w.heap.size) (i:=0) hne.symm (.slice a l1 a')) (g:=w.heap.size) (i:=1) hne.symm (.slice b l2 b')) (g:=w.heap.size) (i:=2) hne.symm (.slice c l3 c')) (g:=w.heap.size) (i:=3) hne.symm (.slice d l4 d')) (g:=w.heap.size) (i:=4) hne.symm (.int .i64 X.pr)) (g:=w.heap.size) (i:=5) hne.symm (.int .i64 X.se)) (g:=w.heap.size) (i:=6) hne.symm (.int .i64 X.mi)) (g:=w.heap.size) (i:=7) hne.symm (.int .i64 X.mf)) (g:=w.heap.size) (i:=8) hne.symm (.int .i64 X.xf)).set 0 (.int .i64 0)));have HQ2:=Hd ((Q.setCell (Q.setCell (Q.setCell (Q.setCell (Q.setCell (Q.setCell (Q.setCell (Q.setCell (Q.setCell (Q.setCell HQ.out (ad:=⟨w.heap.size,0,none⟩) (Nat.le_refl _) (.slice a l1 a')) (ad:=⟨w.heap.size,1,none⟩) (Nat.le_refl _) (.slice b l2 b')) (ad:=⟨w.heap.size,2,none⟩) (Nat.le_refl _) (.slice c l3 c')) (ad:=⟨w.heap.size,3,none⟩) (Nat.le_refl _) (.slice d l4 d')) (ad:=⟨w.heap.size,4,none⟩) (Nat.le_refl _) (.int .i64 X.pr)) (ad:=⟨w.heap.size,5,none⟩) (Nat.le_refl _) (.int .i64 X.se)) (ad:=⟨w.heap.size,6,none⟩) (Nat.le_refl _) (.int .i64 X.mi)) (ad:=⟨w.heap.size,7,none⟩) (Nat.le_refl _) (.int .i64 X.mf)) (ad:=⟨w.heap.size,8,none⟩) (Nat.le_refl _) (.int .i64 X.xf)) (ad:=⟨w.heap.size + 1,0,none⟩) (Nat.le_succ _) (.int .i64 0)));have H1:=Hd ((New.pastB (New.pastB (New.pastB (New.pastB (New.pastB (New.pastB (New.pastB (New.pastB (New.pastB (New.pastB (New.past0 ha hbig) (show w.heap.size < w.heap.size + 2 by omega) 0 (.slice a l1 a')) (show w.heap.size < w.heap.size + 2 by omega) 1 (.slice b l2 b')) (show w.heap.size < w.heap.size + 2 by omega) 2 (.slice c l3 c')) (show w.heap.size < w.heap.size + 2 by omega) 3 (.slice d l4 d')) (show w.heap.size < w.heap.size + 2 by omega) 4 (.int .i64 X.pr)) (show w.heap.size < w.heap.size + 2 by omega) 5 (.int .i64 X.se)) (show w.heap.size < w.heap.size + 2 by omega) 6 (.int .i64 X.mi)) (show w.heap.size < w.heap.size + 2 by omega) 7 (.int .i64 X.mf)) (show w.heap.size < w.heap.size + 2 by omega) 8 (.int .i64 X.xf)) (show w.heap.size + 1 < w.heap.size + 2 by omega) 0 (.int .i64 0)).mono (show w.heap.size <= w.heap.size + 2 by omega));have H2:=Hd ((New.pastB (New.pastB (New.pastB (New.pastB (New.pastB (New.pastB (New.pastB (New.pastB (New.pastB (New.pastB (New.past0 hb hbig) (show w.heap.size < w.heap.size + 2 by omega) 0 (.slice a l1 a')) (show w.heap.size < w.heap.size + 2 by omega) 1 (.slice b l2 b')) (show w.heap.size < w.heap.size + 2 by omega) 2 (.slice c l3 c')) (show w.heap.size < w.heap.size + 2 by omega) 3 (.slice d l4 d')) (show w.heap.size < w.heap.size + 2 by omega) 4 (.int .i64 X.pr)) (show w.heap.size < w.heap.size + 2 by omega) 5 (.int .i64 X.se)) (show w.heap.size < w.heap.size + 2 by omega) 6 (.int .i64 X.mi)) (show w.heap.size < w.heap.size + 2 by omega) 7 (.int .i64 X.mf)) (show w.heap.size < w.heap.size + 2 by omega) 8 (.int .i64 X.xf)) (show w.heap.size + 1 < w.heap.size + 2 by omega) 0 (.int .i64 0)).mono (show w.heap.size <= w.heap.size + 2 by omega));have H3:=Hd ((New.pastB (New.pastB (New.pastB (New.pastB (New.pastB (New.pastB (New.pastB (New.pastB (New.pastB (New.pastB (New.past0 hc hbig) (show w.heap.size < w.heap.size + 2 by omega) 0 (.slice a l1 a')) (show w.heap.size < w.heap.size + 2 by omega) 1 (.slice b l2 b')) (show w.heap.size < w.heap.size + 2 by omega) 2 (.slice c l3 c')) (show w.heap.size < w.heap.size + 2 by omega) 3 (.slice d l4 d')) (show w.heap.size < w.heap.size + 2 by omega) 4 (.int .i64 X.pr)) (show w.heap.size < w.heap.size + 2 by omega) 5 (.int .i64 X.se)) (show w.heap.size < w.heap.size + 2 by omega) 6 (.int .i64 X.mi)) (show w.heap.size < w.heap.size + 2 by omega) 7 (.int .i64 X.mf)) (show w.heap.size < w.heap.size + 2 by omega) 8 (.int .i64 X.xf)) (show w.heap.size + 1 < w.heap.size + 2 by omega) 0 (.int .i64 0)).mono (show w.heap.size <= w.heap.size + 2 by omega));have H4:=Hd ((New.pastB (New.pastB (New.pastB (New.pastB (New.pastB (New.pastB (New.pastB (New.pastB (New.pastB (New.pastB (New.past0 hd hbig) (show w.heap.size < w.heap.size + 2 by omega) 0 (.slice a l1 a')) (show w.heap.size < w.heap.size + 2 by omega) 1 (.slice b l2 b')) (show w.heap.size < w.heap.size + 2 by omega) 2 (.slice c l3 c')) (show w.heap.size < w.heap.size + 2 by omega) 3 (.slice d l4 d')) (show w.heap.size < w.heap.size + 2 by omega) 4 (.int .i64 X.pr)) (show w.heap.size < w.heap.size + 2 by omega) 5 (.int .i64 X.se)) (show w.heap.size < w.heap.size + 2 by omega) 6 (.int .i64 X.mi)) (show w.heap.size < w.heap.size + 2 by omega) 7 (.int .i64 X.mf)) (show w.heap.size < w.heap.size + 2 by omega) 8 (.int .i64 X.xf)) (show w.heap.size + 1 < w.heap.size + 2 by omega) 0 (.int .i64 0)).mono (show w.heap.size <= w.heap.size + 2 by omega));go_wp2_with fail
 refine leaves_cons (f:=89 ) (args:=#[.pointer (some ⟨w.heap.size,0,none⟩),.pointer (some ⟨w.heap.size + 1,0,none⟩)]) (by simp) (by simp [go_sem]) ?_;refine (catch_idle _ _ _).mono ?_;rintro e u' w2 ⟨rfl,rfl,rfl⟩;exact ⟨_,res2 rfl rfl rfl rfl HB2.out HE2.out,_,rfl,⟨_,_,_,_,rfl,H1.out,H2.out,H3.out,H4.out⟩,HQ2.out⟩
end Pg
end
section
open Go.RowKit
namespace Lo
open Um Cm Gm
theorem idxL (g:Nat) (fst cap:Array Value) (eg:∀ args w,(callFunc g args).run Tryz.prog w = .ok (.enter g args) w) (v:Value) (vs:List Value) (w:World) (hv:GLst id w v vs) (hx:vs.length <= 1000000)
  (hp:∀ (k:Nat) (x:Value),vs[k]? = some x -> ∀ u,Q w u -> Calls Tryz.prog g (fst ++ #[x] ++ cap) u fun e w'=>e = .returned (.bool false) /\ Q u w') :
  Calls Tryz.prog 151 #[v,.func (.func g) fst cap] w fun e w'=>e = .returned (.int .i64 (-1)) /\ Q w w':=by
 obtain ⟨n,hn⟩:∃ n,n = vs.length:=⟨_,rfl⟩;have HN:=Hd hn;have HV:=Hd hv;have HP:=Hd hp;obtain ⟨a,cp,rfl,hc1,hc2⟩:=hv.form0 hn.symm;rw [<- hn] at hx;clear hn hv hp;go_enter Tryz.func151,Tryz.ntmps151
 go_wp2_with fail
 go_loopw [8] (fun i wr=>∃ k:Nat,i = .int .i64 k /\ k <= n /\ Q w wr) (fun i _=>n - (intOf i).toNat)
 case atStart=>exact ⟨0,rfl,by omega,Q.refl _⟩
 case round =>
  obtain ⟨k,rfl,hk,hq⟩:=hrel;by_cases hlt:k < n
  ·have hlti:(k:Int) < (n:Int):=by omega
   have hkl:k < vs.length:=by have:=HN.out;omega
   obtain ⟨x,hx2⟩:∃ x,vs[k]? = some x:=⟨vs[k],List.getElem?_eq_getElem hkl⟩;obtain ⟨gg,off,cp',hvv,hg,_,_,c1⟩:=(HV.out.q hq).cellOf HN.out.symm hx2;cases hvv;have hc:=HP.out k x hx2 wr hq;clear hx2;go_wp2_with (go_at_fn g;refine hc.mono ?_;rintro e w' ⟨rfl,hq'⟩)
   exact ⟨⟨k + 1,by go_num,by omega,hq.trans hq'⟩,by simp [intOf];omega⟩
  ·have hnlt:¬ (k:Int) < (n:Int):=by omega
   go_wp2_with fail
   go_ret
   exact ⟨rfl,hq⟩
theorem noL (g:Nat) (fst cap:Array Value) (eg:∀ args w,(callFunc g args).run Tryz.prog w = .ok (.enter g args) w) (v:Value) (vs:List Value) (w:World) (hv:GLst id w v vs) (hx:vs.length <= 1000000)
  (hp:∀ (k:Nat) (x:Value),vs[k]? = some x -> ∀ u,Q w u -> Calls Tryz.prog g (fst ++ #[x] ++ cap) u fun e w'=>e = .returned (.bool false) /\ Q u w') :
  Calls Tryz.prog 108 #[v,.func (.func g) fst cap] w fun e w'=>e = .returned (.bool false) /\ Q w w':=by
 have HI:=Hd (idxL g fst cap eg v vs w hv hx hp);obtain ⟨a,cp,rfl⟩:=hv.shape;generalize vs.length = n at *;clear hv hx hp eg;go_enter Tryz.func108,Tryz.ntmps108
 go_wp2_with fail
 refine HI.out.mono ?_;rintro e w' ⟨rfl,hq'⟩;go_wp2_with fail
 go_ret
 exact ⟨rfl,hq'⟩
theorem idxS (g:Nat) (fst cap:Array Value) (eg:∀ args w,(callFunc g args).run Tryz.prog w = .ok (.enter g args) w) (v:Value) (vs:List ByteArray) (w:World) (hv:SLst w v vs) (hx:vs.length <= 1000000)
  (hp:∀ (k:Nat) (x:ByteArray),vs[k]? = some x -> ∀ u,Q w u -> Calls Tryz.prog g (fst ++ #[.string x] ++ cap) u fun e w'=>e = .returned (.bool false) /\ Q u w') :
  Calls Tryz.prog 155 #[v,.func (.func g) fst cap] w fun e w'=>e = .returned (.int .i64 (-1)) /\ Q w w':=by
 obtain ⟨n,hn⟩:∃ n,n = vs.length:=⟨_,rfl⟩;have HN:=Hd hn;have HV:=Hd hv;have HP:=Hd hp;obtain ⟨a,cp,rfl,hc1,hc2⟩:=hv.form0 hn.symm;rw [<- hn] at hx;clear hn hv hp;go_enter Tryz.func155,Tryz.ntmps155
 go_wp2_with fail
 go_loopw [8] (fun i wr=>∃ k:Nat,i = .int .i64 k /\ k <= n /\ Q w wr) (fun i _=>n - (intOf i).toNat)
 case atStart=>exact ⟨0,rfl,by omega,Q.refl _⟩
 case round =>
  obtain ⟨k,rfl,hk,hq⟩:=hrel;by_cases hlt:k < n
  ·have hlti:(k:Int) < (n:Int):=by omega
   have hkl:k < vs.length:=by have:=HN.out;omega
   obtain ⟨x,hx2⟩:∃ x,vs[k]? = some x:=⟨vs[k],List.getElem?_eq_getElem hkl⟩;obtain ⟨gg,off,cp',hvv,hg,_,_,c1⟩:=(HV.out.q hq).cellOf HN.out.symm hx2;cases hvv;have hc:=HP.out k x hx2 wr hq;clear hx2;go_wp2_with (go_at_fn g;refine hc.mono ?_;rintro e w' ⟨rfl,hq'⟩)
   exact ⟨⟨k + 1,by go_num,by omega,hq.trans hq'⟩,by simp [intOf];omega⟩
  ·have hnlt:¬ (k:Int) < (n:Int):=by omega
   go_wp2_with fail
   go_ret
   exact ⟨rfl,hq⟩
theorem noS (g:Nat) (fst cap:Array Value) (eg:∀ args w,(callFunc g args).run Tryz.prog w = .ok (.enter g args) w) (v:Value) (vs:List ByteArray) (w:World) (hv:SLst w v vs) (hx:vs.length <= 1000000)
  (hp:∀ (k:Nat) (x:ByteArray),vs[k]? = some x -> ∀ u,Q w u -> Calls Tryz.prog g (fst ++ #[.string x] ++ cap) u fun e w'=>e = .returned (.bool false) /\ Q u w') :
  Calls Tryz.prog 118 #[v,.func (.func g) fst cap] w fun e w'=>e = .returned (.bool false) /\ Q w w':=by
 have HI:=Hd (idxS g fst cap eg v vs w hv hx hp);obtain ⟨a,cp,rfl⟩:=hv.shape;generalize vs.length = n at *;clear hv hx hp eg;go_enter Tryz.func118,Tryz.ntmps118
 go_wp2_with fail
 refine HI.out.mono ?_;rintro e w' ⟨rfl,hq'⟩;go_wp2_with fail
 go_ret
 exact ⟨rfl,hq'⟩
theorem idxP (g:Nat) (fst cap:Array Value) (eg:∀ args w,(callFunc g args).run Tryz.prog w = .ok (.enter g args) w) (v:Value) (vs:List Pc.E) (w:World) (hv:Pc.LstP w v vs) (hx:vs.length <= 1000000)
  (hp:∀ (k:Nat) (x:Pc.E),vs[k]? = some x -> ∀ u,Q w u -> Calls Tryz.prog g (fst ++ #[.agg #[.int .i64 x.1,Pc.txt x.2]] ++ cap) u fun e w'=>e = .returned (.bool false) /\ Q u w') :
  Calls Tryz.prog 181 #[v,.func (.func g) fst cap] w fun e w'=>e = .returned (.int .i64 (-1)) /\ Q w w':=by
 obtain ⟨n,hn⟩:∃ n,n = vs.length:=⟨_,rfl⟩;have HN:=Hd hn;have HV:=Hd hv;have HP:=Hd hp;obtain ⟨a,cp,rfl,hc1,hc2⟩:=hv.form0 hn.symm;rw [<- hn] at hx;clear hn hv hp;go_enter Tryz.func181,Tryz.ntmps181
 go_wp2_with fail
 go_loopw [8] (fun i wr=>∃ k:Nat,i = .int .i64 k /\ k <= n /\ Q w wr) (fun i _=>n - (intOf i).toNat)
 case atStart=>exact ⟨0,rfl,by omega,Q.refl _⟩
 case round =>
  obtain ⟨k,rfl,hk,hq⟩:=hrel;by_cases hlt:k < n
  ·have hlti:(k:Int) < (n:Int):=by omega
   have hkl:k < vs.length:=by have:=HN.out;omega
   obtain ⟨gg,off,cp',hvv,hg,_,_,c1,c2⟩:=(HV.out.q hq).cellOf HN.out.symm hlt;cases hvv;obtain ⟨x,hxg⟩:∃ x,x = vs.getD k (0,[]):=⟨_,rfl⟩;have hx2:vs[k]? = some x:=by rw [hxg,List.getD_eq_getElem?_getD,List.getElem?_eq_getElem hkl];rfl
   rw [<- hxg] at c1 c2;have hc:=HP.out k x hx2 wr hq;unfold Pc.txt at c2 hc;clear hx2 hxg;go_wp2_with (go_at_fn g;refine hc.mono ?_;rintro e w' ⟨rfl,hq'⟩)
   exact ⟨⟨k + 1,by go_num,by omega,hq.trans hq'⟩,by simp [intOf];omega⟩
  ·have hnlt:¬ (k:Int) < (n:Int):=by omega
   go_wp2_with fail
   go_ret
   exact ⟨rfl,hq⟩
theorem noP (g:Nat) (fst cap:Array Value) (eg:∀ args w,(callFunc g args).run Tryz.prog w = .ok (.enter g args) w) (v:Value) (vs:List Pc.E) (w:World) (hv:Pc.LstP w v vs) (hx:vs.length <= 1000000)
  (hp:∀ (k:Nat) (x:Pc.E),vs[k]? = some x -> ∀ u,Q w u -> Calls Tryz.prog g (fst ++ #[.agg #[.int .i64 x.1,Pc.txt x.2]] ++ cap) u fun e w'=>e = .returned (.bool false) /\ Q u w') :
  Calls Tryz.prog 152 #[v,.func (.func g) fst cap] w fun e w'=>e = .returned (.bool false) /\ Q w w':=by
 have HI:=Hd (idxP g fst cap eg v vs w hv hx hp);obtain ⟨a,cp,rfl⟩:=hv.shape;generalize vs.length = n at *;clear hv hx hp eg;go_enter Tryz.func152,Tryz.ntmps152
 go_wp2_with fail
 refine HI.out.mono ?_;rintro e w' ⟨rfl,hq'⟩;go_wp2_with fail
 go_ret
 exact ⟨rfl,hq'⟩
/-! ### affixes -/
theorem alloc_size (w:World) (o:Obj):(w.alloc o).heap.size = w.heap.size + 1:=by
 show (w.heap.push o).size = w.heap.size + 1;simp
theorem affixes_any (g:Nat) (r:Lm.Rec) (X:Pt.Pat) (a b c d cl:Value) (w:World) (hB:LB w g r X a b c d cl) :
  Calls Tryz.prog 109 #[.pointer (some ⟨g,0,none⟩)] w fun e w'=>∃ v,e = .returned v /\ GLst id w' v [a,b,c,d] /\ Q w w':=by
 have c8:=hB.1.cell 8 rfl;have c9:=hB.1.cell 9 rfl;have c10:=hB.1.cell 10 rfl;have c11:=hB.1.cell 11 rfl;have c12:=hB.1.cell 12 rfl;have c13:=hB.1.cell 13 rfl;have c14:=hB.1.cell 14 rfl;have c15:=hB.1.cell 15 rfl;have c16:=hB.1.cell 16 rfl;obtain ⟨a1,a2,rfl⟩:=hB.2.1.shape;obtain ⟨b1,b2,rfl⟩:=hB.2.2.1.shape;obtain ⟨d1,d2,rfl⟩:=hB.2.2.2.1.shape;obtain ⟨e1,e2,rfl⟩:=hB.2.2.2.2.shape;generalize X.pre.length = n1 at *;generalize X.suf.length = n2 at *;generalize X.npre.length = n3 at *;generalize X.nsuf.length = n4 at *;generalize X.pr = p1 at *;generalize X.se = p2 at *;generalize X.mi = p3 at *;generalize X.mf = p4 at *;generalize X.xf = p5 at *;clear hB;go_enter Tryz.func109,Tryz.ntmps109
 go_wp2_with fail
 go_ret
 have hm:=GLst.made id 102 (w.alloc (.cells #[.slice a1 n1 a2,.slice b1 n2 b2,.slice d1 n3 d2,.slice e1 n4 e2,.int .i64 p1,.int .i64 p2,.int .i64 p3,.int .i64 p4,.int .i64 p5] 104)) [.slice a1 n1 a2,.slice b1 n2 b2,.slice d1 n3 d2,.slice e1 n4 e2] 4 rfl (by unfold maxLen;omega);rw [alloc_size] at hm;exact ⟨_,rfl,hm,((Q.refl w).alloc _).alloc _⟩
theorem aff_at {w:World} {g:Nat} {r:Lm.Rec} {X:Pt.Pat} {a b c d cl:Value} (hB:LB w g r X a b c d cl) {k:Nat} {x:Value} (h:[a,b,c,d][k]? = some x):∃ A,(Lm.affs X)[k]? = some A /\ A ∈ Lm.affs X /\ Pc.LstP w x A:=by
 match k,h with
 | 0,h=>simp at h;subst h;exact ⟨X.pre,rfl,by simp [Lm.affs],hB.2.1⟩
 | 1,h=>simp at h;subst h;exact ⟨X.suf,rfl,by simp [Lm.affs],hB.2.2.1⟩
 | 2,h=>simp at h;subst h;exact ⟨X.npre,rfl,by simp [Lm.affs],hB.2.2.2.1⟩
 | 3,h=>simp at h;subst h;exact ⟨X.nsuf,rfl,by simp [Lm.affs],hB.2.2.2.2⟩
 | k + 4,h=>simp at h
theorem aff_len (a b c d:Value):[a,b,c,d].length <= 1000000:=by simp
/-! ### literals that are not plain -/
theorem rough1_no (k:Int) (t:List UInt8) (w:World) (ht:t.length <= 1000000) (h:k = 0 -> plainB (allL t) = true) :
  Calls Tryz.prog 153 #[.agg #[.int .i64 k,.string ⟨t.toArray⟩]] w fun e w'=>e = .returned (.bool false) /\ Q w w':=by
 by_cases h0:k = 0
 ·subst h0
  have hpl:=h rfl;have hsz:(⟨t.toArray⟩:ByteArray).size = t.length:=by simp [ByteArray.size]
  have hsl:(⟨t.toArray⟩:ByteArray).data.toList = t:=by simp
  have hml:=marks_length t;have hal:(allL t).length <= 1073741824:=by unfold allL;rw [List.length_map];omega
  have ha:=fun w=>all_any (⟨t.toArray⟩:ByteArray) w (by omega);rw [hsl] at ha;have hp:=fun v w hv=>plain_any v (allL t) w hv hal;rw [hpl] at hp;have HA:=Hd ha;have HP:=Hd hp;generalize (⟨t.toArray⟩:ByteArray) = T at *;generalize allL t = A at *;clear ha hp h hpl hsz hsl hml hal ht;go_enter Tryz.func153,Tryz.ntmps153
  go_wp2_with fail
  refine (HA.out _).mono ?_;rintro e w1 ⟨v1,rfl,hv1,hq1⟩;go_wp2_with fail
  refine (HP.out _ _ hv1.lst).mono ?_;rintro e w2 ⟨rfl,hq2⟩;go_wp2_with fail
  go_ret
  exact ⟨rfl,Q.trans ((Q.refl w).alloc _) (hq1.trans hq2)⟩
 ·have hb:(k == 0) = false:=beq_eq_false_iff_ne.2 h0
  generalize (⟨t.toArray⟩:ByteArray) = T at *;clear h ht h0;go_enter Tryz.func153,Tryz.ntmps153
  go_wp2_with fail
  go_ret
  exact ⟨rfl,(Q.refl w).alloc _⟩
theorem rough_no (v:Value) (A:List Pc.E) (w:World) (hv:Pc.LstP w v A) (hA:A.length <= 1000000) (h:∀ x ∈ A,x.2.length <= 1000000 /\ (x.1 = 0 -> plainB (allL x.2) = true)) :
  Calls Tryz.prog 110 #[v] w fun e w'=>e = .returned (.bool false) /\ Q w w':=by
 have HI:=Hd (noP 153 #[] #[] (enters_of Tryz.func153 (by kernel_rfl) rfl) v A w hv hA (fun k x hx u _=>by
  have hm:=List.mem_of_getElem? hx;exact rough1_no x.1 x.2 u (h x hm).1 (h x hm).2))
 obtain ⟨a,cp,rfl⟩:=hv.shape;generalize A.length = n at *;clear hv hA h;go_enter Tryz.func110,Tryz.ntmps110
 go_wp2_with fail
 refine HI.out.mono ?_;rintro e w' ⟨rfl,hq'⟩;go_wp2_with fail
 go_ret
 exact ⟨rfl,hq'⟩
end Lo
end
end Go.Proofs.YteggfkbnnmpcjaaGreatDoor
