/- The document's own answers on locales: what a cluster is, whether an affix has it. (and more) -/
import Derived.Test.YtdjhkbholijnmaaGreatDoorR37
set_option linter.all false
set_option maxRecDepth 100000
set_option maxHeartbeats 8000000
namespace Go.Proofs.YtdjhkbholijnmaaGreatDoor
section
open Go.RowKit
namespace Ro
open Um Cm Gm Lo
theorem dgt_enc {r:Lm.Rec} (h:0 <= Sm.nz r.sys) (k:Nat) (hk:k < 10):Lm.dgt r k = encB (Sm.nz r.sys + k):=by
 unfold Lm.dgt Sm.dgS;rw [if_neg (by omega),if_pos (by omega)]
theorem syms_at (r:Lm.Rec) (k:Nat) (hk:k < 10):(Lm.syms r)[k]? = some (Lm.dgt r k):=by
 match k,hk with
 | 0,_=>rfl
 | 1,_=>rfl
 | 2,_=>rfl
 | 3,_=>rfl
 | 4,_=>rfl
 | 5,_=>rfl
 | 6,_=>rfl
 | 7,_=>rfl
 | 8,_=>rfl
 | 9,_=>rfl
theorem plc_drop (r:Lm.Rec) (x:ByteArray) (k:Nat) (hk:k < 10):Lm.plc x ((Lm.syms r).drop k) k = if x = Lm.dgt r k then (k:Int) else Lm.plc x ((Lm.syms r).drop (k + 1)) (k + 1):=by
 obtain ⟨hl,e⟩:=List.getElem?_eq_some_iff.1 (syms_at r k hk);rw [List.drop_eq_getElem_cons hl,e];rfl
theorem sgn_end {r:Lm.Rec} {X:Pt.Pat} (hO:Lm.Ok r X) (x:ByteArray) (h:Lm.sgn r x = if x.size = 0 then -1 else Lm.plc x ((Lm.syms r).drop 10) 10) :
  Lm.sgn r x = if x = Lm.bs r.dec then 10 else if 0 < X.pr /\ x = Lm.bs r.grp then 11 else if x = Lm.bs r.min then 12 else -1:=by
 have hd:(Lm.syms r).drop 10 = [Lm.bs r.dec,Lm.bs r.grp,Lm.bs r.min]:=rfl;have n10:=hO.ne 10 (Lm.bs r.dec) rfl (by omega);have n12:=hO.ne 12 (Lm.bs r.min) rfl (by omega);rw [h,hd];by_cases hz:x.size = 0
 ·rw [if_pos hz,if_neg (fun e=>by rw [e] at hz;omega)]
  have hg:¬ (0 < X.pr /\ x = Lm.bs r.grp):=fun ⟨hp,e⟩=>by
   have h2:=hO.grp1 hp;unfold Lm.symB at h2;rw [Bool.and_eq_true] at h2;have h3:=h2.2;rw [e,Lm.bs_size] at hz;have h4:r.grp = []:=List.eq_nil_of_length_eq_zero hz;rw [h4] at h3;simp [oneB] at h3
  rw [if_neg hg,if_neg (fun e=>by rw [e] at hz;omega)]
 ·rw [if_neg hz]
  unfold Lm.plc;by_cases h1:x = Lm.bs r.dec
  ·rw [if_pos h1,if_pos h1];rfl
  ·rw [if_neg h1,if_neg h1]
   unfold Lm.plc;by_cases h2:x = Lm.bs r.grp
   ·have hp:0 < X.pr:=by
     rcases Int.lt_or_le 0 X.pr with h3 | h3
     ·exact h3
     ·have h4:=hO.grp0 (by omega)
      rw [h2,Lm.bs_size,h4] at hz;exact absurd rfl hz
    rw [if_pos h2,if_pos ⟨hp,h2⟩];rfl
   ·rw [if_neg h2,if_neg (fun h=>h2 h.2)]
    unfold Lm.plc;by_cases h3:x = Lm.bs r.min
    ·rw [if_pos h3,if_pos h3];rfl
    ·rw [if_neg h3,if_neg h3];rfl
theorem rsign_any (r:Lm.Rec) (X:Pt.Pat) (a b c d:Value) (x:ByteArray) (w:World) (hO:Lm.Ok r X) (hL:LL w X a b c d) :
  Calls Tryz.prog 37 #[lV r X a b c d,.string x] w fun e w'=>e = .returned (.int .i64 (Lm.sgn r x)) /\ Q w w':=by
 have HD:=Hd (fun (k:Nat) (hk:k < 10) u=>(show Calls Tryz.prog 42 #[.string (Lm.bs r.sys),.int .i64 (k:Int)] u fun e w'=>e = .returned (.string (Lm.dgt r k)) /\ Q u w' by
  have h:=Sr.digit_any (Lm.bs r.sys) (k:Int) u (by omega) (by omega);rw [Lm.bs_list] at h;rw [dgt_enc hO.sys k hk];exact h))
 have HNE:=Hd (fun (k:Nat) (hk:k < 10)=>hO.ne k (Lm.dgt r k) (syms_at r k hk) (by omega));have HST:=Hd (fun (k:Nat) (hk:k < 10)=>plc_drop r x k hk);have HEN:=Hd (sgn_end hO x);have HZ:=Hd (show Lm.sgn r x = if x.size = 0 then -1 else Lm.plc x ((Lm.syms r).drop 0) 0 from rfl)
 obtain ⟨R,hR⟩:∃ R,R = Lm.sgn r x:=⟨_,rfl⟩;rw [<- hR] at HEN HZ |-;obtain ⟨a1,a2,rfl⟩:=hL.1.shape;obtain ⟨b1,b2,rfl⟩:=hL.2.1.shape;obtain ⟨c1,c2,rfl⟩:=hL.2.2.1.shape;obtain ⟨d1,d2,rfl⟩:=hL.2.2.2.shape;generalize X.pre.length = n1 at *;generalize X.suf.length = n2 at *;generalize X.npre.length = n3 at *;generalize X.nsuf.length = n4 at *;unfold lV;generalize X.pr = pr at *;generalize Lm.bs r.nam = s0 at *;generalize Lm.bs r.pat = s1 at *;generalize Lm.bs r.sys = s2 at *;generalize Lm.bs r.dec = s3 at *;generalize Lm.bs r.grp = s4 at *;generalize Lm.bs r.min = s5 at *;generalize Lm.bs r.per = s6 at *;generalize Lm.bs r.cur = s7 at *;generalize Lm.dgt r = DG at *;generalize Lm.syms r = SY at *;clear hO hL hR;obtain ⟨z,hz⟩:∃ z,z = w.alloc (.cells #[.string s0,.string s1,.string s2,.string s3,.string s4,.string s5,.string s6,.string s7,.slice a1 n1 a2,.slice b1 n2 b2,.slice c1 n3 c2,.slice d1 n4 d2,.int .i64 pr,.int .i64 X.se,.int .i64 X.mi,.int .i64 X.mf,.int .i64 X.xf] 34):=⟨_,rfl⟩;have HQZ:=Hd (show Q w z by rw [hz];exact (Q.refl w).alloc _);have HBZ:=Hd (show Bk z w.heap.size 34 [.string s0,.string s1,.string s2,.string s3,.string s4,.string s5,.string s6,.string s7,.slice a1 n1 a2,.slice b1 n2 b2,.slice c1 n3 c2,.slice d1 n4 d2,.int .i64 pr,.int .i64 X.se,.int .i64 X.mi,.int .i64 X.mf,.int .i64 X.xf] by rw [hz];exact Bk.new _ _ _);go_enter Tryz.func37,Tryz.ntmps37
 go_wp2_with fail
 rw [<- hz];clear hz;generalize w.heap.size = bz at *;go_loopw [5] (fun i wr=>∃ k:Nat,i = .int .i64 k /\ k <= 10 /\ Hid (R = if x.size = 0 then -1 else Lm.plc x (SY.drop k) k) /\ Q z wr) (fun i _=>10 - (intOf i).toNat)
 case atStart=>exact ⟨0,rfl,by omega,HZ,Q.refl _⟩
 case round =>
  obtain ⟨k,rfl,hk,HK,hq⟩:=hrel;by_cases hlt:k < 10
  ·have hlti:(k:Int) < 10:=by omega
   have c2:=(HBZ.out.q hq).cell 2 rfl;have hne:=HNE.out k hlt;have hst:=HST.out k hlt;have hdd:=HD.out k hlt;generalize DG k = D at *;by_cases hx:x = D
   ·have HF:=Hd (show R = k by rw [HK.out,if_neg (by rw [hx];omega),hst,if_pos hx])
    have hb:(D.toList == x.toList) = true:=by rw [hx];simp
    have HDD:=Hd hdd;clear hx hne hst hdd;go_wp2_with fail
    refine (HDD.out _).mono ?_;rintro e w1 ⟨rfl,hq1⟩;go_wp2_with fail
    go_ret
    rw [HF.out];exact ⟨rfl,HQZ.out.trans (hq.trans hq1)⟩
   ·have HF:=Hd (show R = if x.size = 0 then -1 else Lm.plc x (SY.drop (k + 1)) (k + 1) by rw [HK.out,hst,if_neg hx])
    have hb:(D.toList == x.toList) = false:=str_ne (fun e=>hx e.symm);have HDD:=Hd hdd;clear hx hne hst hdd;go_wp2_with fail
    refine (HDD.out _).mono ?_;rintro e w1 ⟨rfl,hq1⟩;go_wp2_with fail
    exact ⟨⟨k + 1,by go_num,by omega,HF,hq.trans hq1⟩,by simp [intOf];omega⟩
  ·have hnlt:¬ (k:Int) < 10:=by omega
   obtain rfl:k = 10:=by omega
   have hen:=HEN.out HK.out;have hbz:=HBZ.out.q hq;have c3:=hbz.cell 3 rfl;have c4:=hbz.cell 4 rfl;have c5:=hbz.cell 5 rfl;have c12:=hbz.cell 12 rfl;have HQ:=Hd (HQZ.out.trans hq);clear hbz hq;by_cases h1:x = s3
   ·have HF:=Hd (show R = 10 by rw [hen,if_pos h1])
    have hb:(x.toList == s3.toList) = true:=by rw [h1];simp
    clear h1 hen;go_wp2_with fail
    go_ret
    rw [HF.out];exact ⟨rfl,HQ.out⟩
   ·have hb:=str_ne h1
    by_cases h2:0 < pr
    ·by_cases h3:x = s4
     ·have HF:=Hd (show R = 11 by rw [hen,if_neg h1,if_pos ⟨h2,h3⟩])
      have hb2:(x.toList == s4.toList) = true:=by rw [h3];simp
      clear h1 h3 hen;go_wp2_with fail
      go_ret
      rw [HF.out];exact ⟨rfl,HQ.out⟩
     ·have hb2:=str_ne h3
      by_cases h4:x = s5
      ·have HF:=Hd (show R = 12 by rw [hen,if_neg h1,if_neg (fun h=>h3 h.2),if_pos h4])
       have hb3:(x.toList == s5.toList) = true:=by rw [h4];simp
       clear h1 h3 h4 hen;go_wp2_with fail
       go_ret
       rw [HF.out];exact ⟨rfl,HQ.out⟩
      ·have HF:=Hd (show R = -1 by rw [hen,if_neg h1,if_neg (fun h=>h3 h.2),if_neg h4])
       have hb3:=str_ne h4;clear h1 h3 h4 hen;go_wp2_with fail
       go_ret
       rw [HF.out];exact ⟨rfl,HQ.out⟩
    ·by_cases h4:x = s5
     ·have HF:=Hd (show R = 12 by rw [hen,if_neg h1,if_neg (fun h=>h2 h.1),if_pos h4])
      have hb3:(x.toList == s5.toList) = true:=by rw [h4];simp
      clear h1 h4 hen;go_wp2_with fail
      go_ret
      rw [HF.out];exact ⟨rfl,HQ.out⟩
     ·have HF:=Hd (show R = -1 by rw [hen,if_neg h1,if_neg (fun h=>h2 h.1),if_neg h4])
      have hb3:=str_ne h4;clear h1 h4 hen;go_wp2_with fail
      go_ret
      rw [HF.out];exact ⟨rfl,HQ.out⟩
end Ro
end
section
open Go.RowKit
namespace Ro
open Um Cm Gm Lo
theorem record_any (g:Nat) (r:Lm.Rec) (X:Pt.Pat) (a b c d cl:Value) (w:World) (hB:LB w g r X a b c d cl) :
  Calls Tryz.prog 78 #[.pointer (some ⟨g,0,none⟩)] w fun e w'=>e = .returned (recV r) /\ Q w w':=by
 obtain ⟨z,hz⟩:∃ z,z = w.alloc (.cells #[.string ⟨#[]⟩,.string ⟨#[]⟩,.string ⟨#[]⟩,.string ⟨#[]⟩,.string ⟨#[]⟩,.string ⟨#[]⟩,.string ⟨#[]⟩,.string ⟨#[]⟩] 84):=⟨_,rfl⟩;have hQZ:Q w z:=by rw [hz];exact (Q.refl w).alloc _
 have h2:Bk z w.heap.size 84 [.string ⟨#[]⟩,.string ⟨#[]⟩,.string ⟨#[]⟩,.string ⟨#[]⟩,.string ⟨#[]⟩,.string ⟨#[]⟩,.string ⟨#[]⟩,.string ⟨#[]⟩]:=by rw [hz];exact Bk.new _ _ _
 have hb:=(hB.q hQZ).1;have HQZ:=Hd hQZ;have c0:=hb.cell 0 rfl;have c1:=hb.cell 1 rfl;have c2:=hb.cell 2 rfl;have c3:=hb.cell 3 rfl;have c4:=hb.cell 4 rfl;have c5:=hb.cell 5 rfl;have c6:=hb.cell 6 rfl;have c7:=hb.cell 7 rfl;have HRV:Hid (recV r = .agg #[.string (Lm.bs r.nam),.string (Lm.bs r.pat),.string (Lm.bs r.sys),.string (Lm.bs r.dec),.string (Lm.bs r.grp),.string (Lm.bs r.min),.string (Lm.bs r.per),.string (Lm.bs r.cur)]):=Hd rfl;rw [HRV.out];generalize Lm.bs r.nam = s0 at *;generalize Lm.bs r.pat = s1 at *;generalize Lm.bs r.sys = s2 at *;generalize Lm.bs r.dec = s3 at *;generalize Lm.bs r.grp = s4 at *;generalize Lm.bs r.min = s5 at *;generalize Lm.bs r.per = s6 at *;generalize Lm.bs r.cur = s7 at *;go_enter Tryz.func78,Tryz.ntmps78
 go_upto_region 1 with fail
 rw [<- hz];clear hz hb hB hQZ HRV;have HW:=Hd (show w.heap.size <= w.heap.size by omega);obtain ⟨B,hB⟩:∃ B,B = w.heap.size:=⟨_,rfl⟩;have HWB:=Hd (show w.heap.size <= B by omega);rw [<- hB] at h2 |-;clear hB HW;have p0:=h2.cell 0 rfl;have f0:=h2.free 0;have p1:=h2.cell 1 rfl;have f1:=h2.free 1;have p2:=h2.cell 2 rfl;have f2:=h2.free 2;have p3:=h2.cell 3 rfl;have f3:=h2.free 3;have p4:=h2.cell 4 rfl;have f4:=h2.free 4;have p5:=h2.cell 5 rfl;have f5:=h2.free 5;have p6:=h2.cell 6 rfl;have f6:=h2.free 6;have p7:=h2.cell 7 rfl;have f7:=h2.free 7;have HFB:=Hd ((((((((h2.set 0 (.string s0)).set 1 (.string s1)).set 2 (.string s2)).set 3 (.string s3)).set 4 (.string s4)).set 5 (.string s5)).set 6 (.string s6)).set 7 (.string s7));have HFQ:=Hd (Q.setCell (Q.setCell (Q.setCell (Q.setCell (Q.setCell (Q.setCell (Q.setCell (Q.setCell HQZ.out (ad:=⟨B,0,none⟩) HWB.out (.string s0)) (ad:=⟨B,1,none⟩) HWB.out (.string s1)) (ad:=⟨B,2,none⟩) HWB.out (.string s2)) (ad:=⟨B,3,none⟩) HWB.out (.string s3)) (ad:=⟨B,4,none⟩) HWB.out (.string s4)) (ad:=⟨B,5,none⟩) HWB.out (.string s5)) (ad:=⟨B,6,none⟩) HWB.out (.string s6)) (ad:=⟨B,7,none⟩) HWB.out (.string s7));clear h2;go_wp2_with fail
 refine ret_bk rfl Tryz.underlying84 (by exact infoLR) rfl HFB.out rfl ⟨?_,HFQ.out⟩;rfl
end Ro
end
section
open Go.RowKit
namespace It
open Um Lo Ro
theorem LB_row {u:World} {b0 g:Nat} {r:Lm.Rec} {X:Pt.Pat} {a b c d cl:Value} (hz:Bk u b0 34 zL) (h:LB u g r X a b c d cl) (cs:Array Value):LB (u.setRow b0 cs) g r X a b c d cl:=by
 have hne:g ≠ b0:=by
  rintro rfl;have h1:=h.1;unfold Bk at h1 hz;rw [hz] at h1;simp at h1
 exact ⟨Rw.Bk_other h.1 hne cs,LstP_aside h.2.1 hz zL_sep (row_same _ _ _),LstP_aside h.2.2.1 hz zL_sep (row_same _ _ _),LstP_aside h.2.2.2.1 hz zL_sep (row_same _ _ _),LstP_aside h.2.2.2.2 hz zL_sep (row_same _ _ _)⟩
def PL (w:World) (v:Value) (r:Lm.Rec) (X:Pt.Pat):Prop:=∃ g a b c d cl,v = .pointer (some ⟨g,0,none⟩) /\ LB w g r X a b c d cl
end It
end
section
namespace Im
open Um Cm Gm
theorem cnt_le (p:E -> Bool) (l:List E) (k:Nat):(l.take k).countP p <= k:=Nat.le_trans List.countP_le_length (by rw [List.length_take];omega)
theorem aff_tag {r:Lm.Rec} {l:List Pb.E} {e:E} (h:e ∈ affI r l):(e.1 = 0 \/ e.1 = 1) /\ e.2.2 = -1 /\ (e.1 = 1 -> e.2.1 = Lm.bs r.min):=by
 obtain ⟨p,_,rfl⟩:=List.mem_map.1 h;unfold affE;by_cases h1:p.1 = true
 ·rw [if_pos h1];exact ⟨.inr rfl,rfl,fun _=>rfl⟩
 ·rw [if_neg h1];exact ⟨.inl rfl,rfl,fun h=>by cases h⟩
theorem wh_tag {r:Lm.Rec} {p s:Int} {I:List Int}:∀ k,∀ e ∈ whI r p s I k,e.1 = 2 \/ (e.1 = 3 /\ e.2.2 = -1)
 | 0,e,he=>by cases he
 | k + 1,e,he=>by
  rw [whI_succ] at he;rcases List.mem_append.1 he with he | he
  ·exact wh_tag k e he
  ·rcases List.mem_cons.1 he with rfl | he
   ·exact .inl rfl
   ·unfold grpI at he
    split at he
    ·simp only [List.mem_cons,List.not_mem_nil,or_false] at he
     subst he;exact .inr ⟨rfl,rfl⟩
    ·cases he
theorem re_tag {r:Lm.Rec} {n:Nat} {F:List Int}:∀ k,∀ e ∈ reI r n F k,e.1 = 2 \/ e.1 = 4
 | 0,e,he=>by
  rw [reI_zero] at he;simp only [List.mem_cons,List.not_mem_nil,or_false] at he;subst he;exact .inr rfl
 | k + 1,e,he=>by
  rw [reI_succ] at he;rcases List.mem_append.1 he with he | he
  ·exact re_tag k e he
  ·simp only [List.mem_cons,List.not_mem_nil,or_false] at he
   subst he;exact .inl rfl
theorem res_tag {r:Lm.Rec} {d:Tm.T} {e:E} (he:e ∈ resI r d):e.1 = 2 \/ e.1 = 4:=by
 unfold resI at he;split at he
 ·exact re_tag _ e he
 ·cases he
def sgB (e:E):Bool:=e.1 == 1
theorem aff_cnt (r:Lm.Rec) (l:List Pb.E):(affI r l).countP sgB = Ro.sgs l:=by
 unfold affI Ro.sgs;rw [List.countP_map];congr 1
 funext p
 show sgB (affE r p) = p.1;unfold sgB affE;cases p.1 <;> simp
theorem cnt_no {p:E -> Bool} {l:List E} (h:∀ e ∈ l,p e = false):l.countP p = 0:=by
 rw [List.countP_eq_zero];intro e he;rw [h e he];simp
theorem sgn_count {r:Lm.Rec} {X:Pt.Pat} (hO:Lm.Ok r X) (d:Tm.T) (g:Bool):(itm r X.pr X.se d (Lo.parP r (Ro.ahd g X)) (Lo.parP r (Ro.bhd g X))).countP sgB = if g = true then 1 else 0:=by
 have h:=(Ro.around_fact hO g).2.1;rw [Ro.sgs_app] at h;unfold itm;rw [List.countP_append,List.countP_append,List.countP_append,aff_cnt,aff_cnt];rw [cnt_no (l:=whI r X.pr X.se d.i d.i.length) (fun e he=>by
  unfold sgB;rcases wh_tag _ e he with h1 | h1
  ·rw [h1];rfl
  ·rw [h1.1];rfl)]
 rw [cnt_no (l:=resI r d) (fun e he=>by
  unfold sgB;rcases res_tag he with h1 | h1 <;> rw [h1] <;> rfl)]
 omega
def tg (l:List E) (i:Nat):Int:=(l.getD i e0).1
theorem tg_left (a b:List E) (i:Nat) (h:i < a.length):tg (a ++ b) i = tg a i:=by
 unfold tg;rw [List.getD_eq_getElem?_getD,List.getD_eq_getElem?_getD,List.getElem?_append_left h]
theorem tg_right (a b:List E) (i:Nat):tg (a ++ b) (a.length + i) = tg b i:=by
 unfold tg;rw [List.getD_eq_getElem?_getD,List.getD_eq_getElem?_getD,List.getElem?_append_right (by omega),Nat.add_sub_cancel_left]
theorem wh_inv (r:Lm.Rec) (p s:Int) (I:List Int):∀ k,(∀ i,i < (whI r p s I k).length -> tg (whI r p s I k) i = 3 -> 0 < i /\ tg (whI r p s I k) (i - 1) = 2 /\ (i + 1 < (whI r p s I k).length -> tg (whI r p s I k) (i + 1) = 2)) /\
  (0 < (whI r p s I k).length -> tg (whI r p s I k) ((whI r p s I k).length - 1) = 3 -> endB ((I.length:Int) - k) p s = true)
 | 0=>⟨fun i hi=>by simp [whI] at hi,fun h=>by simp [whI] at h⟩
 | k + 1=>by
  obtain ⟨h1,h2⟩:=wh_inv r p s I k;rw [whI_succ];generalize whI r p s I k = W at *;have e0':tg (W ++ (dgE r (I.getD k 0) k :: grpI r ((I.length:Int) - 1 - k) p s)) W.length = 2:=by
   have:=tg_right W (dgE r (I.getD k 0) k :: grpI r ((I.length:Int) - 1 - k) p s) 0;rw [Nat.add_zero] at this;rw [this];rfl
  unfold grpI at *;by_cases hb:endB ((I.length:Int) - 1 - k) p s = true
  ·rw [if_pos hb] at *
   have e1:tg (W ++ [dgE r (I.getD k 0) k,(3,Lm.bs r.grp,-1)]) (W.length + 1) = 3:=by rw [tg_right];rfl
   refine ⟨fun i hi ht=>?_,fun _ _=>by rw [show (I.length:Int) - ((k + 1:Nat):Int) = (I.length:Int) - 1 - k from by omega];exact hb⟩;simp only [List.length_append,List.length_cons,List.length_nil] at hi |-;by_cases hi1:i < W.length
   ·rw [tg_left _ _ i hi1] at ht
    obtain ⟨q1,q2,q3⟩:=h1 i hi1 ht;refine ⟨q1,by rw [tg_left _ _ _ (by omega)];exact q2,fun _=>?_⟩;by_cases hi2:i + 1 < W.length
    ·rw [tg_left _ _ _ hi2];exact q3 hi2
    ·rw [show i + 1 = W.length from by omega];exact e0'
   ·by_cases hi2:i = W.length
    ·rw [hi2,e0'] at ht;omega
    ·have:i = W.length + 1:=by omega
     subst this;exact ⟨by omega,by rw [Nat.add_sub_cancel];exact e0',fun h=>by omega⟩
  ·rw [if_neg hb] at *
   refine ⟨fun i hi ht=>?_,fun _ ht=>?_⟩
   ·simp only [List.length_append,List.length_cons,List.length_nil] at hi |-
    by_cases hi1:i < W.length
    ·rw [tg_left _ _ i hi1] at ht
     obtain ⟨q1,q2,q3⟩:=h1 i hi1 ht;refine ⟨q1,by rw [tg_left _ _ _ (by omega)];exact q2,fun _=>?_⟩;by_cases hi2:i + 1 < W.length
     ·rw [tg_left _ _ _ hi2];exact q3 hi2
     ·rw [show i + 1 = W.length from by omega];exact e0'
    ·rw [show i = W.length from by omega,e0'] at ht;omega
   ·simp only [List.length_append,List.length_cons,List.length_nil] at ht
    rw [show W.length + (0 + 1) - 1 = W.length from by omega,e0'] at ht;omega
def atB (e:E):Bool:=e.1 == 2 || e.1 == 4
def atE (r:Lm.Rec) (L:List Int) (j:Nat):E:=if L.getD j 0 = 10 then (4,Lm.bs r.dec,(j:Int)) else dgE r (L.getD j 0) j
theorem row_filter (r:Lm.Rec) (p s n:Int) (L:List Int):∀ k,(rowI r p s n L k).filter atB = (List.range k).map (atE r L)
 | 0=>rfl
 | k + 1=>by
  rw [rowI_succ,List.filter_append,row_filter r p s n L k,List.range_succ,List.map_append];congr 1
  show (stpI r p s n L k).filter atB = [atE r L k];unfold stpI atE grpI;split
  ·rfl
  ·split <;> rfl
theorem aff_filter (r:Lm.Rec) (l:List Pb.E):(affI r l).filter atB = []:=by
 rw [List.filter_eq_nil_iff];intro e he;unfold atB;rcases (aff_tag he).1 with h | h <;> rw [h] <;> simp
theorem itm_filter (r:Lm.Rec) (p s:Int) (d:Tm.T) (hm:Tm.may d = true) (A B:List Pb.E):(itm r p s d A B).filter atB = (List.range (Tm.ats d).length).map (atE r (Tm.ats d)):=by
 rw [itm_mid,<- row_all r p s d hm,List.filter_append,List.filter_append,aff_filter,aff_filter,row_filter];simp
theorem sgn_at {r:Lm.Rec} {X:Pt.Pat} (hO:Lm.Ok r X) {i:Nat} {x:ByteArray} (h:(Lm.syms r)[i]? = some x) (hi:i ≠ 11):Lm.sgn r x = i:=by
 have h0:=hO.ne i x h hi;unfold Lm.sgn;rw [if_neg (by omega),Lm.plc_nodup _ 0 i x hO.dis h];simp
theorem dgt_at (r:Lm.Rec) (k:Nat) (hk:k < 10):(Lm.syms r)[k]? = some (Lm.dgt r k):=by
 match k,hk with
 | 0,_=>rfl
 | 1,_=>rfl
 | 2,_=>rfl
 | 3,_=>rfl
 | 4,_=>rfl
 | 5,_=>rfl
 | 6,_=>rfl
 | 7,_=>rfl
 | 8,_=>rfl
 | 9,_=>rfl
end Im
end
section
open Go.RowKit
namespace It
open Um Im Lo
theorem fldD (u:World) (n p s d g m pe c:ByteArray):(Instr.field 84 (.agg #[.string n,.string p,.string s,.string d,.string g,.string m,.string pe,.string c]) 3).run Tryz.prog u = .ok (.string d) u:=by
 unfold Instr.field;rw [Sem.run_bind,run_underlying Tryz.underlying84 u];rfl
theorem fldG (u:World) (n p s d g m pe c:ByteArray):(Instr.field 84 (.agg #[.string n,.string p,.string s,.string d,.string g,.string m,.string pe,.string c]) 4).run Tryz.prog u = .ok (.string g) u:=by
 unfold Instr.field;rw [Sem.run_bind,run_underlying Tryz.underlying84 u];rfl
theorem fldM (u:World) (n p s d g m pe c:ByteArray):(Instr.field 84 (.agg #[.string n,.string p,.string s,.string d,.string g,.string m,.string pe,.string c]) 5).run Tryz.prog u = .ok (.string m) u:=by
 unfold Instr.field;rw [Sem.run_bind,run_underlying Tryz.underlying84 u];rfl
theorem affixes_any (g:Nat) (r:Lm.Rec) (X:Pt.Pat) (a b c d cl v:Value) (l:List Pb.E) (w:World) (hB:LB w g r X a b c d cl) (hv:Pb.LstP w v l) (hl:l.length <= 100000) :
  Calls Tryz.prog 48 #[.pointer (some ⟨g,0,none⟩),v] w fun e w'=>∃ x,e = .returned x /\ OwnI 75 w' w.heap.size x (affI r l) /\ Q w w':=by
 obtain ⟨n,hn⟩:∃ n,n = l.length:=⟨_,rfl⟩;obtain ⟨va,vc,rfl,hnc,hcm⟩:=hv.form0 hn.symm;have HV:=Hd (fun u (q:Q w u) k (h:k < n)=>(hv.q q).cellOf hn.symm h);have hr:=fun u (q:Q w u)=>Ro.record_any g r X a b c d cl u (hB.q q);unfold recV at hr;have HR:=Hd hr;clear hr;have HT:=Hd (fun k (h:k < n)=>affI_take r l k (by omega));have HTL:=Hd (fun k (h:k <= n)=>show (affI r (l.take k)).length = k by rw [affI_len,List.length_take];omega);have HE:=Hd (show affI r (l.take n) = affI r l by rw [hn,List.take_length]);have HF:=Hd (fun u=>fldM u (Lm.bs r.nam) (Lm.bs r.pat) (Lm.bs r.sys) (Lm.bs r.dec) (Lm.bs r.grp) (Lm.bs r.min) (Lm.bs r.per) (Lm.bs r.cur));have HAF:=Hd (show ∀ k,affE r (l.getD k (false,[])) = if (l.getD k (false,[])).1 = true then (1,Lm.bs r.min,-1) else (0,Lm.bs (l.getD k (false,[])).2,-1) from fun _=>rfl)
 unfold maxLen at hcm;rw [<- hn] at hl;clear hB hv hn;generalize Lm.bs r.nam = s0 at *;generalize Lm.bs r.pat = s1 at *;generalize Lm.bs r.sys = s2 at *;generalize Lm.bs r.dec = s3 at *;generalize Lm.bs r.grp = s4 at *;generalize Lm.bs r.min = s5 at *;generalize Lm.bs r.per = s6 at *;generalize Lm.bs r.cur = s7 at *;go_enter Tryz.func48,Tryz.ntmps48
 go_wp2_with fail
 go_loopw [5,10] (fun x i wr=>∃ k:Nat,i = .int .i64 k /\ k <= n /\ OwnI 75 wr w.heap.size x (affI r (l.take k)) /\ Q w wr) (fun _ i _=>n - (intOf i).toNat)
 case atStart=>exact ⟨0,rfl,by omega,OwnI.nil _ _ _,Q.refl _⟩
 case round =>
  obtain ⟨k,rfl,hk,ho,hq⟩:=hrel;by_cases hlt:k < n
  ·obtain ⟨gg,off,cap,hvv,hg,_,_,c1,c2⟩:=HV.out wr hq k hlt
   cases hvv;have HTK:=Hd (HT.out k hlt);rw [HAF.out] at HTK;have hlk:=HTL.out k hk;generalize l.getD k (false,[]) = e0' at *;obtain ⟨eb,et⟩:=e0';dsimp only at c1 c2 HTK;have HKB:=Hd hk;unfold Pb.txt at c2;obtain ⟨T,hT⟩:∃ T,T = (⟨et.toArray⟩:ByteArray):=⟨_,rfl⟩;rw [<- hT] at c2;obtain ⟨z,hz⟩:∃ y,y = wr.alloc (.cells #[.bool eb,.string T] 155):=⟨_,rfl⟩;have HQZ:=Hd (show Q w z by rw [hz];exact hq.alloc _);have hq1:Q wr z:=by rw [hz];exact (Q.refl wr).alloc _
   have HBX:=Hd (show Bk z wr.heap.size 155 [.bool eb,.string T] by rw [hz];exact Bk.new _ _ _);have HOZ:=Hd (ho.q hq1);have hol:=ho.lst;obtain ⟨xa,xc,rfl,_,_⟩:=hol.form0 hlk;have HB0:=Hd hq.le;clear ho hol hq hq1;have x0:=HBX.out.cell 0 rfl;have x1:=HBX.out.cell 1 rfl;generalize hbX:wr.heap.size = bX at *;cases eb
   ·have HK2:=Hd (show affI r (l.take (k + 1)) = affI r (l.take k) ++ [(0,T,-1)] by rw [HTK.out,hT];rfl)
    clear HTK hT;have hle:=HQZ.out.le;go_upto_region 5 with fail
    rw [<- hz];clear hz hbX c1 c2;go_wp2_with (at_builtin;refine Im.push elP HOZ.out rfl _ _ rfl 0 T (-1) (by rfl) (by rfl) (by omega) hle ?_)
    intro v' w3 ho3 hg3 hat3;have HQ3:=Hd (HQZ.out.grown hg3 (fun j h=>(HOZ.out.lt j h).1));have HO3:=Hd (show OwnI 75 w3 w.heap.size v' (affI r (l.take (k + 1))) by rw [HK2.out];exact ho3);clear ho3 hg3 hat3;go_wp2_with fail
    exact ⟨⟨k + 1,by go_num,by omega,HO3.out,HQ3.out⟩,by simp [intOf];omega⟩
   ·have HK2:=Hd (show affI r (l.take (k + 1)) = affI r (l.take k) ++ [(1,s5,-1)] by rw [HTK.out];rfl)
    clear HTK hT;have hle:=HQZ.out.le;have HRZ:=Hd (HR.out z HQZ.out);go_upto_region 5 with fail
    rw [<- hz];clear hz hbX c1 c2;go_wp2_with fail
    refine HRZ.out.mono ?_;rintro e w2 ⟨rfl,hq2⟩;have HQ2:=Hd (HQZ.out.trans hq2);have HO2:=Hd (HOZ.out.q hq2);have hle2:=HQ2.out.le;have hf:=HF.out w2;clear hq2 hle x0 x1;go_wp2_with (at_builtin;refine Im.push elP HO2.out rfl _ _ rfl 1 s5 (-1) (by rfl) (by rfl) (by omega) hle2 ?_)
    intro v' w3 ho3 hg3 hat3;have HQ3:=Hd (HQ2.out.grown hg3 (fun j h=>(HO2.out.lt j h).1));have HO3:=Hd (show OwnI 75 w3 w.heap.size v' (affI r (l.take (k + 1))) by rw [HK2.out];exact ho3);clear ho3 hg3 hat3 hf;go_wp2_with fail
    exact ⟨⟨k + 1,by go_num,by omega,HO3.out,HQ3.out⟩,by simp [intOf];omega⟩
  ·obtain rfl:k = n:=by omega
   rw [HE.out] at ho;have HO:=Hd ho;have HQ:=Hd hq;clear ho hq;go_wp2_with fail
   go_ret
   exact ⟨_,rfl,HO.out,HQ.out⟩
end It
end
end Go.Proofs.YtdjhkbholijnmaaGreatDoor
