/- The document's own answers on patterns: Parse. (and more) -/
import Derived.Test.YteggfkbnnmpcjaaGreatDoorR28
set_option linter.all false
set_option maxRecDepth 100000
set_option maxHeartbeats 8000000
namespace Go.Proofs.YteggfkbnnmpcjaaGreatDoor
section
open Go.RowKit
namespace Pr
open Pt Um
def dvd (l:List (Int × Int)):Nat:=(l.takeWhile fun x=>!isD x).length
theorem dvd_le (l:List (Int × Int)):dvd l <= l.length:=(List.takeWhile_prefix _).length_le
theorem dvd_at (l:List (Int × Int)) (k:Nat) (hk:k < l.length):k + dvd (l.drop k) = if (l[k]'hk).1 = 5 then k else (k + 1) + dvd (l.drop (k + 1)):=by
 rw [List.drop_eq_getElem_cons hk];unfold dvd;rw [List.takeWhile_cons];by_cases h:(l[k]'hk).1 = 5
 ·rw [if_pos h];simp [isD,h]
 ·rw [if_neg h]
  have:isD (l[k]'hk) = false:=beq_eq_false_iff_ne.2 h;rw [this];simp;omega
theorem dvd_take (l:List (Int × Int)):(l.takeWhile fun x=>!isD x) = l.take (dvd l):=tw_take _ l
theorem dvd_drop (l:List (Int × Int)):(l.dropWhile fun x=>!isD x) = l.drop (dvd l):=tw_drop _ l
theorem parse_eq (l:List (Int × Int)):parseT l =
  match half (l.take (dvd l)) with
  | none=>(pat0,2)
  | some h =>
   if dvd l < l.length then
    if (l.drop (dvd l + 1)).any isD = true then (pat0,2)
    else match half (l.drop (dvd l + 1)) with
     | none=>(pat0,2)
     | some k=>if (h.nm.long || k.nm.long) = true then (pat0,3) else (mkP h k.pre k.suf,0)
   else if h.nm.long = true then (pat0,3) else (mkP h ((3,[]) :: h.pre) h.suf,0):=by
 unfold parseT;rw [dvd_take,dvd_drop];cases half (l.take (dvd l)) with
 | none=>rfl
 | some h =>
  by_cases hd:dvd l < l.length
  ·simp only [if_pos hd,List.drop_eq_getElem_cons hd]
   rfl
  ·simp only [if_neg hd,List.drop_of_length_le (show l.length <= dvd l by omega)]
theorem ret_p2 {fn:Func} {p q:Tmp} (h:fn.results = #[.cell p 29,.tmp q]) {R:Ending -> World -> Prop} {act:Act} {w:World} {g:Nat} {a b c d:Value} {pr s i m x:Int} {u:Value}
  (hp:act.tmps.getD p undef = .pointer (some ⟨g,0,none⟩)) (hq:act.tmps.getD q undef = u) (hg:PB w g a b c d pr s i m x) (hd:act.defers = []) (hR:R (.returned (.tuple #[pv a b c d pr s i m x,u])) w):bodyPost Tryz.prog fn R .ret act w:=by
 refine bodyPost_ret (v:=.tuple #[pv a b c d pr s i m x,u]) ?_ hd hR;have e:(results fn act.tmps).run Tryz.prog w = ((asAddr (act.tmps.getD p undef)).run Tryz.prog w).andThen fun a w₁=>((loadVar 29 a).run Tryz.prog w₁).andThen fun v w₂=>.ok (.tuple #[v,act.tmps.getD q undef]) w₂:=by
  simp only [results,h];simp [Sem.run_bind,Result.andThen]
 rw [e,hp,hq];unfold PB at hg;simp [asAddr,Result.andThen,run_loadVar_row w g 29 29 _ (0,0) _ hg Tryz.underlying29 rfl infoP,pv]
theorem PV.no (w:World):PV w (pv nilV nilV nilV nilV 0 0 0 0 0) pat0 :=
 ⟨_,_,_,_,rfl,.nil _ _ _ (by decide) (fun _=>rfl),.nil _ _ _ (by decide) (fun _=>rfl),.nil _ _ _ (by decide) (fun _=>rfl),.nil _ _ _ (by decide) (fun _=>rfl)⟩
theorem Parse_no (s:ByteArray) (w:World) (hs:s.size <= 100000) (h:tkn (allL s.data.toList) = none) :
  Calls Tryz.prog 85 #[.string s] w fun e w'=>∃ v,e = .returned (.tuple #[v,.int .i64 2]) /\ PV w' v pat0 /\ Q w w':=by
 have hb0:PB (w.alloc (.cells #[nilV,nilV,nilV,nilV,.int .i64 0,.int .i64 0,.int .i64 0,.int .i64 0,.int .i64 0] 29)) w.heap.size nilV nilV nilV nilV 0 0 0 0 0:=heap_alloc_new _ _;have HB0:=Hd hb0;have HQ0:=Hd (show Q w (w.alloc (.cells #[nilV,nilV,nilV,nilV,.int .i64 0,.int .i64 0,.int .i64 0,.int .i64 0,.int .i64 0] 29)) from (Q.refl w).alloc _);have HT:Hid (∀ w,Calls Tryz.prog 137 #[.string s] w fun e w'=>∃ v,e = .returned (.tuple #[v,.bool false]) /\ Q w w'):=Hd (fun w=>(tokens_any s w (by omega)).mono (by
  rintro e w' ⟨v,h1,-,h2⟩;rw [h] at h1;exact ⟨v,h1,h2⟩))
 clear h hb0;go_enter Tryz.func85,Tryz.ntmps85
 go_wp2_with fail
 refine (HT.out _).mono ?_;rintro e w1 ⟨v,rfl,hq⟩;have HB1:=Hd (HB0.out.q hq);have HQ1:=Hd (HQ0.out.trans hq);clear hq;obtain ⟨r0,r1,r2,r3,r4,r5,r6,r7,r8⟩:=HB1.out.cells;obtain ⟨f0,f1,f2,f3,f4,f5,f6,f7,f8⟩:=HB1.out.free;go_wp2_with fail
 refine ret_p2 rfl rfl rfl (PB.all HB1.out) rfl ⟨_,rfl,PV.no _,Q.puts HQ1.out (Nat.le_refl _) _ _ _ _ _ _ _ _ _⟩
theorem PB.set2 {w:World} {g:Nat} {a b c d:Value} {p s i m x:Int} (h:PB w g a b c d p s i m x) (y:Value):PB (w.setCell ⟨g,2,none⟩ y) g a b y d p s i m x:=by
 have:=Joins.block_setCell h y (i:=2);unfold PB;simpa using this
theorem PB.set3 {w:World} {g:Nat} {a b c d:Value} {p s i m x:Int} (h:PB w g a b c d p s i m x) (y:Value):PB (w.setCell ⟨g,3,none⟩ y) g a b c y p s i m x:=by
 have:=Joins.block_setCell h y (i:=3);unfold PB;simpa using this
theorem half_len {l:List (Int × Int)} {h:Hf} (hh:half l = some h) (hl:l.length <= 100000):h.pre.length <= 1000000:=by
 rw [half_eq] at hh;split at hh
 ·cases hh
 ·cases hn:num (((l.drop (frm l)).take (mny l)).map (·.2)) with
  | none=>rw [hn] at hh;cases hh
  | some n =>
   rw [hn] at hh;simp only [Option.map_some,Option.some.injEq] at hh;subst hh;show (joinT [] (l.take (frm l))).length <= _;rw [<- joinE_tk];have:=joinE_len (tkP (l.take (frm l))) [];rw [tkP_len,List.length_take] at this;omega
theorem Parse_any (s:ByteArray) (l:List (Int × Int)) (w:World) (hs:s.size <= 100000) (h:tkn (allL s.data.toList) = some l) (hl:l.length <= 100000) (hk:sgnOk l) :
  Calls Tryz.prog 85 #[.string s] w fun e w'=>∃ v,e = .returned (.tuple #[v,.int .i64 (parseT l).2]) /\ PV w' v (parseT l).1 /\ Q w w':=by
 have hb0:PB (w.alloc (.cells #[nilV,nilV,nilV,nilV,.int .i64 0,.int .i64 0,.int .i64 0,.int .i64 0,.int .i64 0] 29)) w.heap.size nilV nilV nilV nilV 0 0 0 0 0:=heap_alloc_new _ _;have HB0:=Hd hb0;have HQ0:=Hd (show Q w (w.alloc (.cells #[nilV,nilV,nilV,nilV,.int .i64 0,.int .i64 0,.int .i64 0,.int .i64 0,.int .i64 0] 29)) from (Q.refl w).alloc _);have HT:Hid (∀ w,Calls Tryz.prog 137 #[.string s] w fun e w'=>∃ v,e = .returned (.tuple #[v,.bool true]) /\ OwnB w' w.heap.size v (tkP l) /\ Q w w'):=Hd (fun w=>(tokens_any s w (by omega)).mono (by
  rintro e w' ⟨v,h1,h3,h2⟩;rw [h] at h1;exact ⟨v,h1,h3 _ h,h2⟩))
 have HPE:=Hd (parse_eq l);obtain ⟨R,hR⟩:∃ R,R = parseT l:=⟨_,rfl⟩;rw [<- hR] at HPE |-;clear h hb0 hR;obtain ⟨n,hn⟩:∃ n,n = l.length:=⟨_,rfl⟩;have hnl:(tkP l).length = n:=by rw [tkP_len];exact hn.symm
 have HN:=Hd hn;have HNL:=Hd hnl;have HK:=Hd hk;rw [<- hn] at hl;obtain ⟨at0,hat⟩:∃ a,a = dvd l:=⟨_,rfl⟩;have hatn:at0 <= n:=by rw [hat,hn];exact dvd_le l
 have HAT:=Hd hat;clear hnl hn hk hat;go_enter Tryz.func85,Tryz.ntmps85
 go_wp2_with fail
 refine (HT.out _).mono ?_;rintro e w1 ⟨v,rfl,ho,hq⟩;obtain ⟨a,c,rfl,hc1,hc2⟩:=ho.lst.form0 HNL.out;have HB1:=Hd (HB0.out.q hq);have HQ1:=Hd (HQ0.out.trans hq);have HV:=Hd ho.lst;clear hq ho;go_wp2_with fail
 go_loopw [6,7] (fun p i wr=>∃ k:Nat,i = .int .i64 ((k:Int) - 1) /\ k <= n /\ Hid (p = .int .i64 (((k + dvd (l.drop k):Nat)):Int)) /\ w1 = wr) (fun _ i _=>(intOf i + 1).toNat)
 case atStart =>
  refine ⟨n,rfl,Nat.le_refl _,Hd ?_,rfl⟩;rw [HN.out,List.drop_length];rfl
 case round =>
  obtain ⟨k,rfl,hkn,hp,rfl⟩:=hrel;rcases k with _ | k
  ·have hp2:=hp.out
   rw [Nat.zero_add,List.drop_zero,<- HAT.out] at hp2;subst hp2;clear hp;go_wp2_with fail
   have h1:=HV.out.take at0 (by rw [HNL.out];exact hatn);rw [tkP_take] at h1;have hpe:=HPE.out;rw [<- HAT.out,<- HN.out] at hpe;refine (half_any _ (l.take at0) w1 h1 (by rw [List.length_take];omega) (fun x hx=>HK.out x (List.mem_of_mem_take hx))).mono ?_;rintro e w2 ⟨hh,hq2⟩;rcases hh with ⟨hno,a1,n1,c1,a2,n2,c2,p1,p2,p3,p4,p5,lg,he⟩ | ⟨h,u1,u2,hsm,he,hn1,hn2⟩
   ·have he:e = .returned (.tuple #[.agg #[.slice a1 n1 c1,.slice a2 n2 c2,.slice none 0 0,.slice none 0 0,.int .i64 p1,.int .i64 p2,.int .i64 p3,.int .i64 p4,.int .i64 p5],.bool false,.bool lg]):=he
    subst he;rw [hno] at hpe;have HR:=Hd hpe;have hqa:Q w2 (w2.alloc (.cells #[.slice a1 n1 c1,.slice a2 n2 c2,.slice none 0 0,.slice none 0 0,.int .i64 p1,.int .i64 p2,.int .i64 p3,.int .i64 p4,.int .i64 p5] 29)):=(Q.refl w2).alloc _;have hb2:=(HB1.out.q hq2).q hqa;have HB2:=Hd hb2;have HQ2:=Hd (HQ1.out.trans (hq2.trans hqa));obtain ⟨r0,r1,r2,r3,r4,r5,r6,r7,r8⟩:=hb2.cells;obtain ⟨f0,f1,f2,f3,f4,f5,f6,f7,f8⟩:=hb2.free;clear hpe hno hq2 hqa hb2;go_wp2_with fail
    refine ret_p2 rfl rfl rfl (PB.all HB2.out) rfl ⟨pv nilV nilV nilV nilV 0 0 0 0 0,by rw [HR.out];rfl,by rw [HR.out];exact PV.no _,Q.puts HQ2.out (Nat.le_refl _) _ _ _ _ _ _ _ _ _⟩
   ·obtain ⟨L1,hL1⟩:∃ L1,h.pre.length = L1:=⟨_,rfl⟩
    obtain ⟨va,vc,rfl,_,_⟩:=hn1.1.form0 hL1;obtain ⟨L2,hL2⟩:∃ L2,h.suf.length = L2:=⟨_,rfl⟩;obtain ⟨wa,wc,rfl,_,_⟩:=hn2.1.form0 hL2;obtain ⟨b1,hb1⟩:∃ b1,b1 = h.nm.long:=⟨_,rfl⟩;have he:e = .returned (.tuple #[.agg #[.slice va L1 vc,.slice wa L2 wc,.slice none 0 0,.slice none 0 0,.int .i64 h.nm.pr,.int .i64 h.nm.se,.int .i64 h.nm.mi,.int .i64 h.nm.mf,.int .i64 h.nm.xf],.bool true,.bool b1]):=by rw [hb1];exact he
    subst he;rw [hsm] at hpe;simp only [<- hb1] at hpe;have HR:=Hd hpe;have hqa:Q w2 (w2.alloc (.cells #[.slice va L1 vc,.slice wa L2 wc,.slice none 0 0,.slice none 0 0,.int .i64 h.nm.pr,.int .i64 h.nm.se,.int .i64 h.nm.mi,.int .i64 h.nm.mf,.int .i64 h.nm.xf] 29)):=(Q.refl w2).alloc _;have hb2:=(HB1.out.q hq2).q hqa;have HB2:=Hd hb2;have HQ2:=Hd (HQ1.out.trans (hq2.trans hqa));have HN1:=Hd hn1;have HN2:=Hd hn2;have hhl:h.pre.length <= 1000000:=half_len hsm (by rw [List.length_take];omega);obtain ⟨z,hz⟩:∃ z,z = w2.alloc (.cells #[.slice va L1 vc,.slice wa L2 wc,.slice none 0 0,.slice none 0 0,.int .i64 h.nm.pr,.int .i64 h.nm.se,.int .i64 h.nm.mi,.int .i64 h.nm.mf,.int .i64 h.nm.xf] 29):=⟨_,rfl⟩;have hpz:PB z w2.heap.size (.slice va L1 vc) (.slice wa L2 wc) nilV nilV h.nm.pr h.nm.se h.nm.mi h.nm.mf h.nm.xf:=by rw [hz];exact heap_alloc_new _ _
    rw [<- hz] at hqa HB2 HQ2;clear hpe hsm hb2 hn1 hn2 hb1;go_wp2_with fail
    rw [<- hz];clear hz;refine (none_any _ _ _ _ _ _ _ _ _ h.pre z (HN1.out.1.q hqa) hhl).mono ?_;rintro e w3 ⟨u,rfl,hu,hq3⟩;obtain ⟨L3,hL3⟩:∃ L3,((3,[]) :: h.pre).length = L3:=⟨_,rfl⟩;obtain ⟨ua,uc,rfl,_,_⟩:=hu.lst.form0 hL3;have hwG:w.heap.size < w2.heap.size:=Nat.lt_of_lt_of_le HB1.out.lt hq2.le;have hw1:w.heap.size < w1.heap.size:=HB1.out.lt;have hzG:w2.heap.size < z.heap.size:=hpz.lt;have HU:=Hd hu.new;have HP3:=Hd (hpz.q hq3);have HB3:=Hd (HB2.out.q hq3);have HQ3:=Hd (HQ2.out.trans hq3);have HQ23:=Hd (hqa.trans hq3);obtain ⟨G,hG⟩:∃ G,G = w2.heap.size:=⟨_,rfl⟩;have HG:=Hd hG;rw [<- hG] at HP3 hwG hzG |-;have HQ12:=Hd hq2;clear hpz hqa hq3 hu hL3 hhl hG hq2;obtain ⟨r0,r1,r2,r3,r4,r5,r6,r7,r8⟩:=HP3.out.cells;obtain ⟨f0,f1,f2,f3,f4,f5,f6,f7,f8⟩:=HP3.out.free;obtain ⟨t0,t1,t2,t3,t4,t5,t6,t7,t8⟩:=HB3.out.cells;obtain ⟨e0,e1,e2,e3,e4,e5,e6,e7,e8⟩:=HB3.out.free;by_cases hat:at0 < n
    ·have hat2:(at0:Int) < (n:Int):=by omega
     have hR:=HR.out;rw [if_pos hat] at hR;have HR:=Hd hR;clear hR;have hQ4:Q w ((w3.setCell ⟨G,2,none⟩ (.slice ua L3 uc)).setCell ⟨G,3,none⟩ (.slice wa L2 wc)):=(HQ3.out.setCell (ad:=⟨G,2,none⟩) (by show w.heap.size <= G;omega) _).setCell (ad:=⟨G,3,none⟩) (by show w.heap.size <= G;omega) _;have hQ24:Q w2 ((w3.setCell ⟨G,2,none⟩ (.slice ua L3 uc)).setCell ⟨G,3,none⟩ (.slice wa L2 wc)):=(HQ23.out.setCell (ad:=⟨G,2,none⟩) (by show w2.heap.size <= G;rw [HG.out];exact Nat.le_refl _) _).setCell (ad:=⟨G,3,none⟩) (by show w2.heap.size <= G;rw [HG.out];exact Nat.le_refl _) _;have hB4:=(HB3.out.other (ad:=⟨G,2,none⟩) (by show w.heap.size ≠ G;omega) (.slice ua L3 uc)).other (ad:=⟨G,3,none⟩) (by show w.heap.size ≠ G;omega) (.slice wa L2 wc);have hP4:=(HP3.out.set2 (.slice ua L3 uc)).set3 (.slice wa L2 wc);have HQ4:=Hd hQ4;have HQ24:=Hd hQ24;have HB4:=Hd hB4;have HP4:=Hd hP4;clear hQ4 hQ24 hB4 hP4;obtain ⟨rl,hrl0⟩:∃ rl,rl = l.drop (at0 + 1):=⟨_,rfl⟩;obtain ⟨m,hm⟩:∃ m,m = n - (at0 + 1):=⟨_,rfl⟩;have hrl:rl.length = m:=by rw [hrl0,List.length_drop,<- HN.out,hm]
     have hmn:m <= n:=by omega
     rw [<- hrl0] at HR;have HRL0:=Hd hrl0;have HRL:=Hd hrl;have HRLP:=Hd (show (tkP rl).length = m by rw [tkP_len];exact hrl);have hm0:at0 + 1 = n -> m = 0:=by omega
     have HM:=Hd hm;clear hrl0 hrl hm;rcases HV.out.rest HNL.out (show at0 + 1 <= n by omega) with ⟨g3,off3,ha,hlt5,hcc,hcm,hdp⟩ | ⟨hkn,hcn,hdp⟩ | ⟨ad3,ha,hkn,hcc,hcm,hdp⟩
     ·cases ha
      have HDP:=Hd hdp;clear hdp;obtain ⟨w4,hw4⟩:∃ x,x = (w3.setCell ⟨G,2,none⟩ (.slice ua L3 uc)).setCell ⟨G,3,none⟩ (.slice wa L2 wc):=⟨_,rfl⟩;rw [<- hw4] at HQ4 HQ24 HB4 HP4;go_wp2_with fail
      rw [<- hw4];clear hw4 r0 r1 r2 r3 r4 r5 r6 r7 r8 f0 f1 f2 f3 f4 f5 f6 f7 f8 t0 t1 t2 t3 t4 t5 t6 t7 t8 e0 e1 e2 e3 e4 e5 e6 e7 e8;rw [<- HM.out];have HRS:Hid (Pc.LstP w1 (.slice (some ⟨g3,off3 + (at0 + 1) * 2,none⟩) m (c - (at0 + 1))) (tkP rl)):=Hd (by have h:=HDP.out;rw [tkP_drop,<- HRL0.out] at h;rw [HM.out];exact h);have HRS4:=Hd ((HRS.out.q HQ12.out).q HQ24.out);go_loopw [12] (fun i wr=>∃ t:Nat,i = .int .i64 t /\ t <= m /\ Hid (rl.any isD = (rl.drop t).any isD) /\ w4 = wr) (fun i _=>m - (intOf i).toNat)
      case atStart=>exact ⟨0,rfl,by omega,Hd rfl,rfl⟩
      case round =>
       obtain ⟨t,rfl,htm0,HAR,rfl⟩:=hrel;by_cases hlt:t < m
       ·obtain ⟨g5,off5,cap5,hvv5,hg5,_,_,c1,d1⟩:=HRS4.out.cellOf HRLP.out hlt
        cases hvv5;have hkl:t < rl.length:=by have:=HRL.out;omega
        obtain ⟨e1',e2'⟩:=kind_at rl t hkl;rw [e1'] at c1;have hki:(t:Int) < (m:Int):=by omega
        have hst:(rl.drop t).any isD = (isD (rl[t]'hkl) || (rl.drop (t + 1)).any isD):=by
         rw [List.drop_eq_getElem_cons hkl,List.any_cons]
        by_cases hk5:(rl[t]'hkl).1 = 5
        ·have hno:R = (pat0,2):=by
          rw [HR.out,if_pos];rw [HAR.out,hst];simp [isD,hk5]
         rw [hk5] at c1;have HNO:=Hd hno;obtain ⟨t0,t1,t2,t3,t4,t5,t6,t7,t8⟩:=HB4.out.cells;obtain ⟨e0,e1,e2,e3,e4,e5,e6,e7,e8⟩:=HB4.out.free;clear hno hst d1 e1' e2' hk5;go_wp2_with fail
         refine ret_p2 rfl rfl rfl (PB.all HB4.out) rfl ⟨pv nilV nilV nilV nilV 0 0 0 0 0,by rw [HNO.out];rfl,by rw [HNO.out];exact PV.no _,Q.puts HQ4.out (Nat.le_refl _) _ _ _ _ _ _ _ _ _⟩
        ·have hk6:isD (rl[t]'hkl) = false:=beq_eq_false_iff_ne.2 hk5
         have hk7:((rl[t]'hkl).1 == 5) = false:=beq_eq_false_iff_ne.2 hk5;have HST:=Hd (show rl.any isD = (rl.drop (t + 1)).any isD by rw [HAR.out,hst,hk6,Bool.false_or]);generalize (rl[t]'hkl).1 = x at *;clear hst d1 e1' e2' hk5 hk6;go_wp2_with fail
         exact ⟨⟨t + 1,by go_num,by omega,HST,trivial⟩,by simp [intOf];omega⟩
       ·have htm:t = m:=by omega
        have hki:¬ (t:Int) < (m:Int):=by omega
        have hnd:rl.any isD = false:=by
         rw [HAR.out,List.drop_of_length_le (by rw [HRL.out];omega)];rfl
        have hR:=HR.out;rw [hnd,if_neg (by decide)] at hR;have HR:=Hd hR;clear hR hnd hlt;go_wp2_with fail
        refine (half_any _ rl w4 HRS4.out (by rw [HRL.out];omega) (fun x hx=>HK.out x (List.mem_of_mem_drop (by rw [<- HRL0.out];exact hx)))).mono ?_;rintro e w5 ⟨hh,hq5⟩;rcases hh with ⟨hno,a1,n1,c1,a2,n2,c2,p1,p2,p3,p4,p5,lg,he⟩ | ⟨k,u1,u2,hsm,he,hk1,hk2⟩
        ·have he:e = .returned (.tuple #[.agg #[.slice a1 n1 c1,.slice a2 n2 c2,.slice none 0 0,.slice none 0 0,.int .i64 p1,.int .i64 p2,.int .i64 p3,.int .i64 p4,.int .i64 p5],.bool false,.bool lg]):=he
         subst he;have hR:=HR.out;rw [hno] at hR;have HR:=Hd hR;have hqa:Q w5 (w5.alloc (.cells #[.slice a1 n1 c1,.slice a2 n2 c2,.slice none 0 0,.slice none 0 0,.int .i64 p1,.int .i64 p2,.int .i64 p3,.int .i64 p4,.int .i64 p5] 29)):=(Q.refl w5).alloc _;have hb5:=(HB4.out.q hq5).q hqa;have HB5:=Hd hb5;have HQ5:=Hd (HQ4.out.trans (hq5.trans hqa));obtain ⟨t0,t1,t2,t3,t4,t5,t6,t7,t8⟩:=hb5.cells;obtain ⟨e0,e1,e2,e3,e4,e5,e6,e7,e8⟩:=hb5.free;clear hR hno hq5 hqa hb5;go_wp2_with fail
         refine ret_p2 rfl rfl rfl (PB.all HB5.out) rfl ⟨pv nilV nilV nilV nilV 0 0 0 0 0,by rw [HR.out];rfl,by rw [HR.out];exact PV.no _,Q.puts HQ5.out (Nat.le_refl _) _ _ _ _ _ _ _ _ _⟩
        ·obtain ⟨L5,hL5⟩:∃ L5,k.pre.length = L5:=⟨_,rfl⟩
         obtain ⟨xa,xc,rfl,_,_⟩:=hk1.1.form0 hL5;obtain ⟨L6,hL6⟩:∃ L6,k.suf.length = L6:=⟨_,rfl⟩;obtain ⟨ya,yc,rfl,_,_⟩:=hk2.1.form0 hL6;obtain ⟨b2,hb2⟩:∃ b2,b2 = k.nm.long:=⟨_,rfl⟩;have he:e = .returned (.tuple #[.agg #[.slice xa L5 xc,.slice ya L6 yc,.slice none 0 0,.slice none 0 0,.int .i64 k.nm.pr,.int .i64 k.nm.se,.int .i64 k.nm.mi,.int .i64 k.nm.mf,.int .i64 k.nm.xf],.bool true,.bool b2]):=by rw [hb2];exact he
         subst he;have hR:=HR.out;rw [hsm] at hR;simp only [<- hb2] at hR;have hqa:Q w5 (w5.alloc (.cells #[.slice xa L5 xc,.slice ya L6 yc,.slice none 0 0,.slice none 0 0,.int .i64 k.nm.pr,.int .i64 k.nm.se,.int .i64 k.nm.mi,.int .i64 k.nm.mf,.int .i64 k.nm.xf] 29)):=(Q.refl w5).alloc _;have hk5:PB (w5.alloc (.cells #[.slice xa L5 xc,.slice ya L6 yc,.slice none 0 0,.slice none 0 0,.int .i64 k.nm.pr,.int .i64 k.nm.se,.int .i64 k.nm.mi,.int .i64 k.nm.mf,.int .i64 k.nm.xf] 29)) w5.heap.size (.slice xa L5 xc) (.slice ya L6 yc) nilV nilV k.nm.pr k.nm.se k.nm.mi k.nm.mf k.nm.xf:=heap_alloc_new _ _;have hb5:=(HB4.out.q hq5).q hqa;have hp5:=(HP4.out.q hq5).q hqa;have hG4:G < w4.heap.size:=HP4.out.lt;have hw2:w2.heap.size <= G:=by rw [HG.out];exact Nat.le_refl _
         have HQ5:=Hd (((HQ4.out.trans (hq5.trans hqa)).setCell (ad:=⟨G,2,none⟩) (by show w.heap.size <= G;omega) (.slice xa L5 xc)).setCell (ad:=⟨G,3,none⟩) (by show w.heap.size <= G;omega) (.slice ya L6 yc));have HQ25:=Hd (((HQ24.out.trans (hq5.trans hqa)).setCell (ad:=⟨G,2,none⟩) hw2 (.slice xa L5 xc)).setCell (ad:=⟨G,3,none⟩) hw2 (.slice ya L6 yc));have HB5:=Hd ((hb5.other (ad:=⟨G,2,none⟩) (by show w.heap.size ≠ G;omega) (.slice xa L5 xc)).other (ad:=⟨G,3,none⟩) (by show w.heap.size ≠ G;omega) (.slice ya L6 yc));have HK1:=Hd (((hk1.q hqa).set (ad:=⟨G,2,none⟩) (.slice xa L5 xc) hG4).set (ad:=⟨G,3,none⟩) (.slice ya L6 yc) hG4);have HK2:=Hd (((hk2.q hqa).set (ad:=⟨G,2,none⟩) (.slice xa L5 xc) hG4).set (ad:=⟨G,3,none⟩) (.slice ya L6 yc) hG4);obtain ⟨r0,r1,r2,r3,r4,r5,r6,r7,r8⟩:=hp5.cells;obtain ⟨f0,f1,f2,f3,f4,f5,f6,f7,f8⟩:=hp5.free;obtain ⟨t0,t1,t2,t3,t4,t5,t6,t7,t8⟩:=hb5.cells;obtain ⟨e0,e1,e2,e3,e4,e5,e6,e7,e8⟩:=hb5.free;obtain ⟨s0,s1,-⟩:=hk5.cells;clear hsm hq5 hqa hb5 hp5 hk5 hk1 hk2 hb2;rcases (show (b1 = false /\ b2 = false) \/ (b1 = true) \/ (b1 = false /\ b2 = true) by cases b1 <;> cases b2 <;> simp) with ⟨rfl,rfl⟩ | rfl | ⟨rfl,rfl⟩
         ·have HR:=Hd hR
          clear hR;go_wp2_with fail
          refine ret_p2 rfl rfl rfl (PB.all HB5.out) rfl ⟨pv (.slice va L1 vc) (.slice wa L2 wc) (.slice xa L5 xc) (.slice ya L6 yc) h.nm.pr h.nm.se h.nm.mi h.nm.mf h.nm.xf,by rw [HR.out];rfl,?_,Q.puts HQ5.out (Nat.le_refl _) _ _ _ _ _ _ _ _ _⟩;rw [HR.out];have m1:=((HN1.out.q HQ25.out).puts hw1 (.slice va L1 vc) (.slice wa L2 wc) (.slice xa L5 xc) (.slice ya L6 yc) (.int .i64 h.nm.pr) (.int .i64 h.nm.se) (.int .i64 h.nm.mi) (.int .i64 h.nm.mf) (.int .i64 h.nm.xf)).1;have m2:=((HN2.out.q HQ25.out).puts hw1 (.slice va L1 vc) (.slice wa L2 wc) (.slice xa L5 xc) (.slice ya L6 yc) (.int .i64 h.nm.pr) (.int .i64 h.nm.se) (.int .i64 h.nm.mi) (.int .i64 h.nm.mf) (.int .i64 h.nm.xf)).1;have m3:=(HK1.out.puts (g:=w.heap.size) (by omega) (.slice va L1 vc) (.slice wa L2 wc) (.slice xa L5 xc) (.slice ya L6 yc) (.int .i64 h.nm.pr) (.int .i64 h.nm.se) (.int .i64 h.nm.mi) (.int .i64 h.nm.mf) (.int .i64 h.nm.xf)).1;have m4:=(HK2.out.puts (g:=w.heap.size) (by omega) (.slice va L1 vc) (.slice wa L2 wc) (.slice xa L5 xc) (.slice ya L6 yc) (.int .i64 h.nm.pr) (.int .i64 h.nm.se) (.int .i64 h.nm.mi) (.int .i64 h.nm.mf) (.int .i64 h.nm.xf)).1;exact ⟨_,_,_,_,rfl,m1,m2,m3,m4⟩
         ·have HR9:Hid (R = (pat0,3)):=Hd (by rw [hR,Bool.true_or];rfl)
          clear hR;go_wp2_with fail
          refine ret_p2 rfl rfl rfl (PB.all HB5.out) rfl ⟨pv nilV nilV nilV nilV 0 0 0 0 0,by rw [HR9.out];rfl,by rw [HR9.out];exact PV.no _,Q.puts HQ5.out (Nat.le_refl _) _ _ _ _ _ _ _ _ _⟩
         ·have HR:Hid (R = (pat0,3)):=Hd (by rw [hR];rfl)
          clear hR;go_wp2_with fail
          refine ret_p2 rfl rfl rfl (PB.all HB5.out) rfl ⟨pv nilV nilV nilV nilV 0 0 0 0 0,by rw [HR.out];rfl,by rw [HR.out];exact PV.no _,Q.puts HQ5.out (Nat.le_refl _) _ _ _ _ _ _ _ _ _⟩
     ·have HDP:=Hd hdp
      clear hdp;obtain ⟨w4,hw4⟩:∃ x,x = (w3.setCell ⟨G,2,none⟩ (.slice ua L3 uc)).setCell ⟨G,3,none⟩ (.slice wa L2 wc):=⟨_,rfl⟩;rw [<- hw4] at HQ4 HQ24 HB4 HP4;go_wp2_with fail
      rw [<- hw4];clear hw4 r0 r1 r2 r3 r4 r5 r6 r7 r8 f0 f1 f2 f3 f4 f5 f6 f7 f8 t0 t1 t2 t3 t4 t5 t6 t7 t8 e0 e1 e2 e3 e4 e5 e6 e7 e8;have HRS:Hid (Pc.LstP w1 (.slice a 0 0) (tkP rl)):=Hd (by rw [HRL0.out,<- tkP_drop,HDP.out];exact .nil _ _ _ (by decide) (fun _=>rfl));have HRS4:=Hd ((HRS.out.q HQ12.out).q HQ24.out);go_loopw [12] (fun i wr=>∃ t:Nat,i = .int .i64 t /\ t <= m /\ Hid (rl.any isD = (rl.drop t).any isD) /\ w4 = wr) (fun i _=>m - (intOf i).toNat)
      case atStart=>exact ⟨0,rfl,by omega,Hd rfl,rfl⟩
      case round =>
       obtain ⟨t,rfl,htm0,HAR,rfl⟩:=hrel;have htm:t = m:=by omega
       have hlt:¬ t < m:=by omega
       ·skip
        have hki:¬ (t:Int) < (m:Int):=by omega
        have hnd:rl.any isD = false:=by
         rw [HAR.out,List.drop_of_length_le (by rw [HRL.out];omega)];rfl
        have hR:=HR.out;rw [hnd,if_neg (by decide)] at hR;have HR:=Hd hR;clear hR hnd hlt;go_wp2_with fail
        refine (half_any _ rl w4 HRS4.out (by rw [HRL.out];omega) (fun x hx=>HK.out x (List.mem_of_mem_drop (by rw [<- HRL0.out];exact hx)))).mono ?_;rintro e w5 ⟨hh,hq5⟩;rcases hh with ⟨hno,a1,n1,c1,a2,n2,c2,p1,p2,p3,p4,p5,lg,he⟩ | ⟨k,u1,u2,hsm,he,hk1,hk2⟩
        ·have he:e = .returned (.tuple #[.agg #[.slice a1 n1 c1,.slice a2 n2 c2,.slice none 0 0,.slice none 0 0,.int .i64 p1,.int .i64 p2,.int .i64 p3,.int .i64 p4,.int .i64 p5],.bool false,.bool lg]):=he
         subst he;have hR:=HR.out;rw [hno] at hR;have HR:=Hd hR;have hqa:Q w5 (w5.alloc (.cells #[.slice a1 n1 c1,.slice a2 n2 c2,.slice none 0 0,.slice none 0 0,.int .i64 p1,.int .i64 p2,.int .i64 p3,.int .i64 p4,.int .i64 p5] 29)):=(Q.refl w5).alloc _;have hb5:=(HB4.out.q hq5).q hqa;have HB5:=Hd hb5;have HQ5:=Hd (HQ4.out.trans (hq5.trans hqa));obtain ⟨t0,t1,t2,t3,t4,t5,t6,t7,t8⟩:=hb5.cells;obtain ⟨e0,e1,e2,e3,e4,e5,e6,e7,e8⟩:=hb5.free;clear hR hno hq5 hqa hb5;go_wp2_with fail
         refine ret_p2 rfl rfl rfl (PB.all HB5.out) rfl ⟨pv nilV nilV nilV nilV 0 0 0 0 0,by rw [HR.out];rfl,by rw [HR.out];exact PV.no _,Q.puts HQ5.out (Nat.le_refl _) _ _ _ _ _ _ _ _ _⟩
        ·obtain ⟨L5,hL5⟩:∃ L5,k.pre.length = L5:=⟨_,rfl⟩
         obtain ⟨xa,xc,rfl,_,_⟩:=hk1.1.form0 hL5;obtain ⟨L6,hL6⟩:∃ L6,k.suf.length = L6:=⟨_,rfl⟩;obtain ⟨ya,yc,rfl,_,_⟩:=hk2.1.form0 hL6;obtain ⟨b2,hb2⟩:∃ b2,b2 = k.nm.long:=⟨_,rfl⟩;have he:e = .returned (.tuple #[.agg #[.slice xa L5 xc,.slice ya L6 yc,.slice none 0 0,.slice none 0 0,.int .i64 k.nm.pr,.int .i64 k.nm.se,.int .i64 k.nm.mi,.int .i64 k.nm.mf,.int .i64 k.nm.xf],.bool true,.bool b2]):=by rw [hb2];exact he
         subst he;have hR:=HR.out;rw [hsm] at hR;simp only [<- hb2] at hR;have hqa:Q w5 (w5.alloc (.cells #[.slice xa L5 xc,.slice ya L6 yc,.slice none 0 0,.slice none 0 0,.int .i64 k.nm.pr,.int .i64 k.nm.se,.int .i64 k.nm.mi,.int .i64 k.nm.mf,.int .i64 k.nm.xf] 29)):=(Q.refl w5).alloc _;have hk5:PB (w5.alloc (.cells #[.slice xa L5 xc,.slice ya L6 yc,.slice none 0 0,.slice none 0 0,.int .i64 k.nm.pr,.int .i64 k.nm.se,.int .i64 k.nm.mi,.int .i64 k.nm.mf,.int .i64 k.nm.xf] 29)) w5.heap.size (.slice xa L5 xc) (.slice ya L6 yc) nilV nilV k.nm.pr k.nm.se k.nm.mi k.nm.mf k.nm.xf:=heap_alloc_new _ _;have hb5:=(HB4.out.q hq5).q hqa;have hp5:=(HP4.out.q hq5).q hqa;have hG4:G < w4.heap.size:=HP4.out.lt;have hw2:w2.heap.size <= G:=by rw [HG.out];exact Nat.le_refl _
         have HQ5:=Hd (((HQ4.out.trans (hq5.trans hqa)).setCell (ad:=⟨G,2,none⟩) (by show w.heap.size <= G;omega) (.slice xa L5 xc)).setCell (ad:=⟨G,3,none⟩) (by show w.heap.size <= G;omega) (.slice ya L6 yc));have HQ25:=Hd (((HQ24.out.trans (hq5.trans hqa)).setCell (ad:=⟨G,2,none⟩) hw2 (.slice xa L5 xc)).setCell (ad:=⟨G,3,none⟩) hw2 (.slice ya L6 yc));have HB5:=Hd ((hb5.other (ad:=⟨G,2,none⟩) (by show w.heap.size ≠ G;omega) (.slice xa L5 xc)).other (ad:=⟨G,3,none⟩) (by show w.heap.size ≠ G;omega) (.slice ya L6 yc));have HK1:=Hd (((hk1.q hqa).set (ad:=⟨G,2,none⟩) (.slice xa L5 xc) hG4).set (ad:=⟨G,3,none⟩) (.slice ya L6 yc) hG4);have HK2:=Hd (((hk2.q hqa).set (ad:=⟨G,2,none⟩) (.slice xa L5 xc) hG4).set (ad:=⟨G,3,none⟩) (.slice ya L6 yc) hG4);obtain ⟨r0,r1,r2,r3,r4,r5,r6,r7,r8⟩:=hp5.cells;obtain ⟨f0,f1,f2,f3,f4,f5,f6,f7,f8⟩:=hp5.free;obtain ⟨t0,t1,t2,t3,t4,t5,t6,t7,t8⟩:=hb5.cells;obtain ⟨e0,e1,e2,e3,e4,e5,e6,e7,e8⟩:=hb5.free;obtain ⟨s0,s1,-⟩:=hk5.cells;clear hsm hq5 hqa hb5 hp5 hk5 hk1 hk2 hb2;rcases (show (b1 = false /\ b2 = false) \/ (b1 = true) \/ (b1 = false /\ b2 = true) by cases b1 <;> cases b2 <;> simp) with ⟨rfl,rfl⟩ | rfl | ⟨rfl,rfl⟩
         ·have HR:=Hd hR
          clear hR;go_wp2_with fail
          refine ret_p2 rfl rfl rfl (PB.all HB5.out) rfl ⟨pv (.slice va L1 vc) (.slice wa L2 wc) (.slice xa L5 xc) (.slice ya L6 yc) h.nm.pr h.nm.se h.nm.mi h.nm.mf h.nm.xf,by rw [HR.out];rfl,?_,Q.puts HQ5.out (Nat.le_refl _) _ _ _ _ _ _ _ _ _⟩;rw [HR.out];have m1:=((HN1.out.q HQ25.out).puts hw1 (.slice va L1 vc) (.slice wa L2 wc) (.slice xa L5 xc) (.slice ya L6 yc) (.int .i64 h.nm.pr) (.int .i64 h.nm.se) (.int .i64 h.nm.mi) (.int .i64 h.nm.mf) (.int .i64 h.nm.xf)).1;have m2:=((HN2.out.q HQ25.out).puts hw1 (.slice va L1 vc) (.slice wa L2 wc) (.slice xa L5 xc) (.slice ya L6 yc) (.int .i64 h.nm.pr) (.int .i64 h.nm.se) (.int .i64 h.nm.mi) (.int .i64 h.nm.mf) (.int .i64 h.nm.xf)).1;have m3:=(HK1.out.puts (g:=w.heap.size) (by omega) (.slice va L1 vc) (.slice wa L2 wc) (.slice xa L5 xc) (.slice ya L6 yc) (.int .i64 h.nm.pr) (.int .i64 h.nm.se) (.int .i64 h.nm.mi) (.int .i64 h.nm.mf) (.int .i64 h.nm.xf)).1;have m4:=(HK2.out.puts (g:=w.heap.size) (by omega) (.slice va L1 vc) (.slice wa L2 wc) (.slice xa L5 xc) (.slice ya L6 yc) (.int .i64 h.nm.pr) (.int .i64 h.nm.se) (.int .i64 h.nm.mi) (.int .i64 h.nm.mf) (.int .i64 h.nm.xf)).1;exact ⟨_,_,_,_,rfl,m1,m2,m3,m4⟩
         ·have HR9:Hid (R = (pat0,3)):=Hd (by rw [hR,Bool.true_or];rfl)
          clear hR;go_wp2_with fail
          refine ret_p2 rfl rfl rfl (PB.all HB5.out) rfl ⟨pv nilV nilV nilV nilV 0 0 0 0 0,by rw [HR9.out];rfl,by rw [HR9.out];exact PV.no _,Q.puts HQ5.out (Nat.le_refl _) _ _ _ _ _ _ _ _ _⟩
         ·have HR:Hid (R = (pat0,3)):=Hd (by rw [hR];rfl)
          clear hR;go_wp2_with fail
          refine ret_p2 rfl rfl rfl (PB.all HB5.out) rfl ⟨pv nilV nilV nilV nilV 0 0 0 0 0,by rw [HR.out];rfl,by rw [HR.out];exact PV.no _,Q.puts HQ5.out (Nat.le_refl _) _ _ _ _ _ _ _ _ _⟩
     ·cases ha
      have HDP:=Hd hdp;clear hdp;obtain ⟨w4,hw4⟩:∃ x,x = (w3.setCell ⟨G,2,none⟩ (.slice ua L3 uc)).setCell ⟨G,3,none⟩ (.slice wa L2 wc):=⟨_,rfl⟩;rw [<- hw4] at HQ4 HQ24 HB4 HP4;go_wp2_with fail
      rw [<- hw4];clear hw4 r0 r1 r2 r3 r4 r5 r6 r7 r8 f0 f1 f2 f3 f4 f5 f6 f7 f8 t0 t1 t2 t3 t4 t5 t6 t7 t8 e0 e1 e2 e3 e4 e5 e6 e7 e8;have HRS:Hid (Pc.LstP w1 (.slice (some (ad3.add (n * 2))) 0 (c - n)) (tkP rl)):=Hd (by rw [HRL0.out,<- tkP_drop,HDP.out];exact .nil _ _ _ (by unfold maxLen;omega) (fun h=>nomatch h));have HRS4:=Hd ((HRS.out.q HQ12.out).q HQ24.out);go_loopw [12] (fun i wr=>∃ t:Nat,i = .int .i64 t /\ t <= m /\ Hid (rl.any isD = (rl.drop t).any isD) /\ w4 = wr) (fun i _=>m - (intOf i).toNat)
      case atStart=>exact ⟨0,rfl,by omega,Hd rfl,rfl⟩
      case round =>
       obtain ⟨t,rfl,htm0,HAR,rfl⟩:=hrel;have htm:t = m:=by omega
       have hlt:¬ t < m:=by omega
       ·skip
        have hki:¬ (t:Int) < (m:Int):=by omega
        have hnd:rl.any isD = false:=by
         rw [HAR.out,List.drop_of_length_le (by rw [HRL.out];omega)];rfl
        have hR:=HR.out;rw [hnd,if_neg (by decide)] at hR;have HR:=Hd hR;clear hR hnd hlt;go_wp2_with fail
        refine (half_any _ rl w4 HRS4.out (by rw [HRL.out];omega) (fun x hx=>HK.out x (List.mem_of_mem_drop (by rw [<- HRL0.out];exact hx)))).mono ?_;rintro e w5 ⟨hh,hq5⟩;rcases hh with ⟨hno,a1,n1,c1,a2,n2,c2,p1,p2,p3,p4,p5,lg,he⟩ | ⟨k,u1,u2,hsm,he,hk1,hk2⟩
        ·have he:e = .returned (.tuple #[.agg #[.slice a1 n1 c1,.slice a2 n2 c2,.slice none 0 0,.slice none 0 0,.int .i64 p1,.int .i64 p2,.int .i64 p3,.int .i64 p4,.int .i64 p5],.bool false,.bool lg]):=he
         subst he;have hR:=HR.out;rw [hno] at hR;have HR:=Hd hR;have hqa:Q w5 (w5.alloc (.cells #[.slice a1 n1 c1,.slice a2 n2 c2,.slice none 0 0,.slice none 0 0,.int .i64 p1,.int .i64 p2,.int .i64 p3,.int .i64 p4,.int .i64 p5] 29)):=(Q.refl w5).alloc _;have hb5:=(HB4.out.q hq5).q hqa;have HB5:=Hd hb5;have HQ5:=Hd (HQ4.out.trans (hq5.trans hqa));obtain ⟨t0,t1,t2,t3,t4,t5,t6,t7,t8⟩:=hb5.cells;obtain ⟨e0,e1,e2,e3,e4,e5,e6,e7,e8⟩:=hb5.free;clear hR hno hq5 hqa hb5;go_wp2_with fail
         refine ret_p2 rfl rfl rfl (PB.all HB5.out) rfl ⟨pv nilV nilV nilV nilV 0 0 0 0 0,by rw [HR.out];rfl,by rw [HR.out];exact PV.no _,Q.puts HQ5.out (Nat.le_refl _) _ _ _ _ _ _ _ _ _⟩
        ·obtain ⟨L5,hL5⟩:∃ L5,k.pre.length = L5:=⟨_,rfl⟩
         obtain ⟨xa,xc,rfl,_,_⟩:=hk1.1.form0 hL5;obtain ⟨L6,hL6⟩:∃ L6,k.suf.length = L6:=⟨_,rfl⟩;obtain ⟨ya,yc,rfl,_,_⟩:=hk2.1.form0 hL6;obtain ⟨b2,hb2⟩:∃ b2,b2 = k.nm.long:=⟨_,rfl⟩;have he:e = .returned (.tuple #[.agg #[.slice xa L5 xc,.slice ya L6 yc,.slice none 0 0,.slice none 0 0,.int .i64 k.nm.pr,.int .i64 k.nm.se,.int .i64 k.nm.mi,.int .i64 k.nm.mf,.int .i64 k.nm.xf],.bool true,.bool b2]):=by rw [hb2];exact he
         subst he;have hR:=HR.out;rw [hsm] at hR;simp only [<- hb2] at hR;have hqa:Q w5 (w5.alloc (.cells #[.slice xa L5 xc,.slice ya L6 yc,.slice none 0 0,.slice none 0 0,.int .i64 k.nm.pr,.int .i64 k.nm.se,.int .i64 k.nm.mi,.int .i64 k.nm.mf,.int .i64 k.nm.xf] 29)):=(Q.refl w5).alloc _;have hk5:PB (w5.alloc (.cells #[.slice xa L5 xc,.slice ya L6 yc,.slice none 0 0,.slice none 0 0,.int .i64 k.nm.pr,.int .i64 k.nm.se,.int .i64 k.nm.mi,.int .i64 k.nm.mf,.int .i64 k.nm.xf] 29)) w5.heap.size (.slice xa L5 xc) (.slice ya L6 yc) nilV nilV k.nm.pr k.nm.se k.nm.mi k.nm.mf k.nm.xf:=heap_alloc_new _ _;have hb5:=(HB4.out.q hq5).q hqa;have hp5:=(HP4.out.q hq5).q hqa;have hG4:G < w4.heap.size:=HP4.out.lt;have hw2:w2.heap.size <= G:=by rw [HG.out];exact Nat.le_refl _
         have HQ5:=Hd (((HQ4.out.trans (hq5.trans hqa)).setCell (ad:=⟨G,2,none⟩) (by show w.heap.size <= G;omega) (.slice xa L5 xc)).setCell (ad:=⟨G,3,none⟩) (by show w.heap.size <= G;omega) (.slice ya L6 yc));have HQ25:=Hd (((HQ24.out.trans (hq5.trans hqa)).setCell (ad:=⟨G,2,none⟩) hw2 (.slice xa L5 xc)).setCell (ad:=⟨G,3,none⟩) hw2 (.slice ya L6 yc));have HB5:=Hd ((hb5.other (ad:=⟨G,2,none⟩) (by show w.heap.size ≠ G;omega) (.slice xa L5 xc)).other (ad:=⟨G,3,none⟩) (by show w.heap.size ≠ G;omega) (.slice ya L6 yc));have HK1:=Hd (((hk1.q hqa).set (ad:=⟨G,2,none⟩) (.slice xa L5 xc) hG4).set (ad:=⟨G,3,none⟩) (.slice ya L6 yc) hG4);have HK2:=Hd (((hk2.q hqa).set (ad:=⟨G,2,none⟩) (.slice xa L5 xc) hG4).set (ad:=⟨G,3,none⟩) (.slice ya L6 yc) hG4);obtain ⟨r0,r1,r2,r3,r4,r5,r6,r7,r8⟩:=hp5.cells;obtain ⟨f0,f1,f2,f3,f4,f5,f6,f7,f8⟩:=hp5.free;obtain ⟨t0,t1,t2,t3,t4,t5,t6,t7,t8⟩:=hb5.cells;obtain ⟨e0,e1,e2,e3,e4,e5,e6,e7,e8⟩:=hb5.free;obtain ⟨s0,s1,-⟩:=hk5.cells;clear hsm hq5 hqa hb5 hp5 hk5 hk1 hk2 hb2;rcases (show (b1 = false /\ b2 = false) \/ (b1 = true) \/ (b1 = false /\ b2 = true) by cases b1 <;> cases b2 <;> simp) with ⟨rfl,rfl⟩ | rfl | ⟨rfl,rfl⟩
         ·have HR:=Hd hR
          clear hR;go_wp2_with fail
          refine ret_p2 rfl rfl rfl (PB.all HB5.out) rfl ⟨pv (.slice va L1 vc) (.slice wa L2 wc) (.slice xa L5 xc) (.slice ya L6 yc) h.nm.pr h.nm.se h.nm.mi h.nm.mf h.nm.xf,by rw [HR.out];rfl,?_,Q.puts HQ5.out (Nat.le_refl _) _ _ _ _ _ _ _ _ _⟩;rw [HR.out];have m1:=((HN1.out.q HQ25.out).puts hw1 (.slice va L1 vc) (.slice wa L2 wc) (.slice xa L5 xc) (.slice ya L6 yc) (.int .i64 h.nm.pr) (.int .i64 h.nm.se) (.int .i64 h.nm.mi) (.int .i64 h.nm.mf) (.int .i64 h.nm.xf)).1;have m2:=((HN2.out.q HQ25.out).puts hw1 (.slice va L1 vc) (.slice wa L2 wc) (.slice xa L5 xc) (.slice ya L6 yc) (.int .i64 h.nm.pr) (.int .i64 h.nm.se) (.int .i64 h.nm.mi) (.int .i64 h.nm.mf) (.int .i64 h.nm.xf)).1;have m3:=(HK1.out.puts (g:=w.heap.size) (by omega) (.slice va L1 vc) (.slice wa L2 wc) (.slice xa L5 xc) (.slice ya L6 yc) (.int .i64 h.nm.pr) (.int .i64 h.nm.se) (.int .i64 h.nm.mi) (.int .i64 h.nm.mf) (.int .i64 h.nm.xf)).1;have m4:=(HK2.out.puts (g:=w.heap.size) (by omega) (.slice va L1 vc) (.slice wa L2 wc) (.slice xa L5 xc) (.slice ya L6 yc) (.int .i64 h.nm.pr) (.int .i64 h.nm.se) (.int .i64 h.nm.mi) (.int .i64 h.nm.mf) (.int .i64 h.nm.xf)).1;exact ⟨_,_,_,_,rfl,m1,m2,m3,m4⟩
         ·have HR9:Hid (R = (pat0,3)):=Hd (by rw [hR,Bool.true_or];rfl)
          clear hR;go_wp2_with fail
          refine ret_p2 rfl rfl rfl (PB.all HB5.out) rfl ⟨pv nilV nilV nilV nilV 0 0 0 0 0,by rw [HR9.out];rfl,by rw [HR9.out];exact PV.no _,Q.puts HQ5.out (Nat.le_refl _) _ _ _ _ _ _ _ _ _⟩
         ·have HR:Hid (R = (pat0,3)):=Hd (by rw [hR];rfl)
          clear hR;go_wp2_with fail
          refine ret_p2 rfl rfl rfl (PB.all HB5.out) rfl ⟨pv nilV nilV nilV nilV 0 0 0 0 0,by rw [HR.out];rfl,by rw [HR.out];exact PV.no _,Q.puts HQ5.out (Nat.le_refl _) _ _ _ _ _ _ _ _ _⟩
    ·have hat2:¬ (at0:Int) < (n:Int):=by omega
     have hR:=HR.out;rw [if_neg hat] at hR;clear HR;have hQ4:Q w ((w3.setCell ⟨G,2,none⟩ (.slice ua L3 uc)).setCell ⟨G,3,none⟩ (.slice wa L2 wc)):=(HQ3.out.setCell (ad:=⟨G,2,none⟩) (by show w.heap.size <= G;omega) _).setCell (ad:=⟨G,3,none⟩) (by show w.heap.size <= G;omega) _;have hQ24:Q w2 ((w3.setCell ⟨G,2,none⟩ (.slice ua L3 uc)).setCell ⟨G,3,none⟩ (.slice wa L2 wc)):=(HQ23.out.setCell (ad:=⟨G,2,none⟩) (by show w2.heap.size <= G;rw [HG.out];exact Nat.le_refl _) _).setCell (ad:=⟨G,3,none⟩) (by show w2.heap.size <= G;rw [HG.out];exact Nat.le_refl _) _;have hB4:=(HB3.out.other (ad:=⟨G,2,none⟩) (by show w.heap.size ≠ G;omega) (.slice ua L3 uc)).other (ad:=⟨G,3,none⟩) (by show w.heap.size ≠ G;omega) (.slice wa L2 wc);have HQ4:=Hd hQ4;have HQ24:=Hd hQ24;have HB4:=Hd hB4;clear hQ4 hQ24 hB4;cases b1
     ·have HR:=Hd hR
      clear hR;go_wp2_with fail
      refine ret_p2 rfl rfl rfl (PB.all HB4.out) rfl ⟨pv (.slice va L1 vc) (.slice wa L2 wc) (.slice ua L3 uc) (.slice wa L2 wc) h.nm.pr h.nm.se h.nm.mi h.nm.mf h.nm.xf,by rw [HR.out];rfl,?_,Q.puts HQ4.out (Nat.le_refl _) _ _ _ _ _ _ _ _ _⟩;rw [HR.out];have m1:=((HN1.out.q HQ24.out).puts hw1 (.slice va L1 vc) (.slice wa L2 wc) (.slice ua L3 uc) (.slice wa L2 wc) (.int .i64 h.nm.pr) (.int .i64 h.nm.se) (.int .i64 h.nm.mi) (.int .i64 h.nm.mf) (.int .i64 h.nm.xf)).1;have m2:=((HN2.out.q HQ24.out).puts hw1 (.slice va L1 vc) (.slice wa L2 wc) (.slice ua L3 uc) (.slice wa L2 wc) (.int .i64 h.nm.pr) (.int .i64 h.nm.se) (.int .i64 h.nm.mi) (.int .i64 h.nm.mf) (.int .i64 h.nm.xf)).1;have m3:=(((HU.out.set (ad:=⟨G,2,none⟩) (.slice ua L3 uc) hzG).set (ad:=⟨G,3,none⟩) (.slice wa L2 wc) hzG).puts (g:=w.heap.size) (by omega) (.slice va L1 vc) (.slice wa L2 wc) (.slice ua L3 uc) (.slice wa L2 wc) (.int .i64 h.nm.pr) (.int .i64 h.nm.se) (.int .i64 h.nm.mi) (.int .i64 h.nm.mf) (.int .i64 h.nm.xf)).1;exact ⟨_,_,_,_,rfl,m1,m2,m3,m2⟩
     ·have HR:=Hd hR
      clear hR;go_wp2_with fail
      refine ret_p2 rfl rfl rfl (PB.all HB4.out) rfl ⟨pv nilV nilV nilV nilV 0 0 0 0 0,by rw [HR.out];rfl,by rw [HR.out];exact PV.no _,Q.puts HQ4.out (Nat.le_refl _) _ _ _ _ _ _ _ _ _⟩
  ·obtain ⟨g,off,cap,hvv,hg,_,_,c1,d1⟩:=HV.out.cellOf HNL.out (show k < n by omega)
   cases hvv;have hkl:k < l.length:=by have:=HN.out;omega
   obtain ⟨e1,e2⟩:=kind_at l k hkl;rw [e1] at c1;have hst:=dvd_at l k hkl;have hki:¬ ((((k + 1:Nat):Int)) - 1 < 0):=by omega
   have hnum:(((k + 1:Nat):Int)) - 1 = (k:Int):=by omega
   rw [hnum];by_cases h5:(l[k]'hkl).1 = 5
   ·rw [h5] at c1
    rw [if_pos h5] at hst;have HST:=Hd hst;clear d1 e1 e2 hst h5 hki hnum;go_wp2_with fail
    go_roundw
    case rel=>exact ⟨k,by go_num,by omega,Hd (by rw [HST.out]),trivial⟩
    case measure=>simp [intOf]
   ·rw [if_neg h5] at hst
    have h5b:((l[k]'hkl).1 == 5) = false:=beq_eq_false_iff_ne.2 h5;have HST:=Hd hst;generalize (l[k]'hkl).1 = x at *;clear d1 e1 e2 hst h5 hki hnum;go_wp2_with fail
    go_roundw
    case rel=>exact ⟨k,by go_num,by omega,Hd (by rw [hp.out,HST.out]),trivial⟩
    case measure=>simp [intOf]
end Pr
end
end Go.Proofs.YteggfkbnnmpcjaaGreatDoor
