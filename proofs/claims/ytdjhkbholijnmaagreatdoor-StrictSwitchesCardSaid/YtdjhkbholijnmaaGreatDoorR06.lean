/- What the document's own answers on classes come to, by a walk through each. (and more) -/
import Derived.Test.YtdjhkbholijnmaaGreatDoorR03
import Derived.Test.YtdjhkbholijnmaaGreatDoorR04
import Derived.ArgAppend
import Derived.Laws.ResultCell
set_option linter.all false
set_option maxRecDepth 100000
set_option maxHeartbeats 8000000
namespace Go.Proofs.YtdjhkbholijnmaaGreatDoor
section
open Go.RowKit Cm Um
namespace Cr
theorem table_run (w:World) :
  Calls Tryz.prog 199 #[] w fun e w'=>e = .returned (.slice (some ⟨w.heap.size,0,none⟩) 66 66) /\ w' = w.alloc (.cells (flat3 tab).toArray 253) :=
 calls_runF Tryz.func199 (by rfl) (W:=w.alloc (.cells (flat3 tab).toArray 253)) (v:=.slice (some ⟨w.heap.size,0,none⟩) 66 66) (by kernel_rfl) ⟨rfl,rfl⟩
theorem table_any (w:World) :
  Calls Tryz.prog 199 #[] w fun e w'=>∃ g,e = .returned (.slice (some ⟨g,0,none⟩) 66 66) /\ TRow w' g tab /\ Q w w':=by
 refine (table_run w).mono ?_;rintro e w' ⟨rfl,rfl⟩;exact ⟨_,rfl,TRow.made w tab _ _ rfl,(Q.refl _).alloc _⟩
theorem tab_take (c:Int) (j:Nat) (h:j < 66):(tab.take (j + 1)).any (inT c) = ((tab.take j).any (inT c) || inT c (tab.getD j (0,0,0))):=by
 have hl:j < tab.length:=by rw [tab_len];exact h
 rw [List.take_succ_eq_append_getElem hl,List.any_append,List.getD_eq_getElem?_getD,List.getElem?_eq_getElem hl];simp
theorem of_any (c:Int) (w:World) :
  Calls Tryz.prog 173 #[.int .i64 c] w fun e w'=>e = .returned (.int .i64 (cls c)) /\ Q w w':=by
 by_cases hs:syll c
 ·by_cases h0:(c - 44032) % 28 = 0
  ·have HF:Hid ((cls c:Int) = 12):=Hd (by rw [cls_lv hs h0];rfl)
   obtain ⟨h1,h2⟩:=hs;go_enter Tryz.func173,Tryz.ntmps173
   go_wp2_with fail
   go_ret
   rw [HF.out];exact ⟨rfl,Q.refl _⟩
  ·have HF:Hid ((cls c:Int) = 13):=Hd (by rw [cls_lvt hs h0];rfl)
   obtain ⟨h1,h2⟩:=hs;go_enter Tryz.func173,Tryz.ntmps173
   go_wp2_with fail
   go_ret
   rw [HF.out];exact ⟨rfl,Q.refl _⟩
 ·have HN:=Hd hs
  have hcase:(44032 <= c /\ ¬ c <= 55203) \/ ¬ 44032 <= c:=by have:¬ (44032 <= c /\ c <= 55203):=hs;omega
  clear hs;rcases hcase with ⟨h1,h2⟩ | h1;all_goals
   go_enter Tryz.func173,Tryz.ntmps173
   go_wp2_with fail
   refine (table_any _).mono ?_;rintro e w1 ⟨g,rfl,htab,hq1⟩;go_wp2_with fail
   go_loopw [4] (fun i wr=>∃ j:Nat,i = .int .i64 j /\ j <= 66 /\ Q w1 wr /\ (tab.take j).any (inT c) = false) (fun i _=>66 - (intOf i).toNat)
   case atStart=>exact ⟨0,rfl,by omega,Q.refl _,rfl⟩
   case round =>
    obtain ⟨j,rfl,hj,hq,hany⟩:=hrel;have HA:=Hd hany;clear hany;by_cases hlt:j < 66
    ·obtain ⟨c1,c2,c3⟩:=(htab.q hq).2 j (by rw [tab_len];exact hlt)
     have HT:=Hd (tab_take c j hlt);have HC:=Hd (fun h=>tab_at HN.out hlt HA.out h);obtain ⟨⟨r1,r2,r3⟩,hr⟩:∃ r,r = tab.getD j (0,0,0):=⟨_,rfl⟩;rw [<- hr] at c1 c2 c3 HT HC;clear hr;simp only at c1 c2 c3;have hcase:(r1 <= c /\ c <= r2 /\ Hid (inT c (r1,r2,r3) = true)) \/ (r1 <= c /\ ¬ c <= r2 /\ Hid (inT c (r1,r2,r3) = false)) \/ (¬ r1 <= c /\ Hid (inT c (r1,r2,r3) = false)):=by
      by_cases h1:r1 <= c
      ·by_cases h2:c <= r2
       ·exact .inl ⟨h1,h2,Hd (by simp [inT,inR,h1,h2])⟩
       ·exact .inr (.inl ⟨h1,h2,Hd (by simp [inT,inR,h2])⟩)
      ·exact .inr (.inr ⟨h1,Hd (by simp [inT,inR,h1])⟩)
     rcases hcase with ⟨g1,g2,HB⟩ | ⟨g1,g2,HB⟩ | ⟨g1,HB⟩
     ·go_wp2_with fail
      go_ret
      have:=HC.out HB.out;rw [this];exact ⟨rfl,hq1.trans hq⟩
     all_goals
      go_wp2_with fail
      go_roundw
      case rel=>exact ⟨j + 1,by go_num,by omega,hq,by rw [HT.out,HA.out,HB.out];rfl⟩
      case measure=>simp [intOf];omega
    ·have hF:(cls c:Int) = 0:=by
      have:=HA.out;rw [List.take_of_length_le (by rw [tab_len];omega)] at this;rw [tab_no HN.out this];rfl
     have HF:=Hd hF;clear hF;go_wp2_with fail
     go_ret
     rw [HF.out];exact ⟨rfl,hq1.trans hq⟩
end Cr
end
section
open Go.RowKit
namespace It
open Im
theorem elP:El 75 67:=⟨by kernel_rfl,by kernel_rfl⟩
theorem elR:El 64 61:=⟨by kernel_rfl,by kernel_rfl⟩
structure Il where
 a:Option Addr
 n:Nat
 c:Nat
 zs:List E
def Il.v (s:Il):Value:=.slice s.a s.n s.c
def catI (ls:List Il):List E:=ls.flatMap fun s=>s.zs
theorem catI_take (ls:List Il) (k:Nat) (s:Il) (h:ls[k]? = some s):catI (ls.take (k + 1)) = catI (ls.take k) ++ s.zs:=by
 unfold catI;rw [List.take_add_one,h,List.flatMap_append];simp
theorem catI_len (ls:List Il) (k:Nat) (h:∀ s ∈ ls,s.zs.length <= 1000000):(catI (ls.take k)).length <= k * 1000000:=by
 induction k with
 | zero=>simp [catI]
 | succ k ih =>
  rcases Nat.lt_or_ge k ls.length with hk | hk
  ·rw [catI_take ls k _ (List.getElem?_eq_getElem hk),List.length_append]
   have:=h _ (List.getElem_mem hk);omega
  ·have e:ls.take (k + 1) = ls.take k:=(List.take_of_length_le (Nat.le_succ_of_le hk)).trans (List.take_of_length_le hk).symm
   rw [e];exact Nat.le_trans ih (Nat.mul_le_mul_right _ (Nat.le_succ k))
theorem grow_nil (n:Nat) (w:World) (hn:n < 1073741824) :
  Calls Tryz.prog 77 #[.slice none 0 0,.int .i64 n] w fun e w'=>∃ u,e = .returned u /\ OwnI 75 w' w.heap.size u [] /\ Q w w':=by
 by_cases h0:n = 0
 ·subst h0
  go_enter Tryz.func77,Tryz.ntmps77
  go_wp2_with fail
  go_ret
  exact ⟨_,rfl,OwnI.nil _ _ _,Q.refl _⟩
 ·obtain ⟨i0,hi,hz0,hz1,hz2⟩:=info_parts elP.info
  have hrz:=fun ty=>Lib.run_append_grow_zeros w 67 3 ty 75 i0 (.agg #[.int .i64 0,.string ByteArray.empty,.int .i64 0]) .i64 .i64 Tryz.underlying67 Tryz.underlying3 hi hz0 none 0 0 [] (run_firstCells_none w.drew i0.size 0 0 0) n (by omega) (by rw [hz1];omega) (by omega) (by omega) (by rw [hz2];omega) (by rw [hz2];exact growslice_fits (by omega) (by omega));have hG:=grownCap_le_maxLen w (0 + n) 0 75 (by unfold maxLen;omega);have hGn:=grownCap_ge w (0 + n) 0 75;rw [Nat.zero_add] at hrz hG hGn;obtain ⟨G,hGe⟩:∃ G,G = grownCap w n 0 75:=⟨_,rfl⟩;rw [<- hGe] at hrz hG hGn;obtain ⟨cs,hcs⟩:∃ cs,cs = ((([]:List Value).toArray ++ Builtin.zeroCells (Value.cells (.agg #[.int .i64 0,.string ByteArray.empty,.int .i64 0])) n) ++ Builtin.zeroCells (Value.cells (.agg #[.int .i64 0,.string ByteArray.empty,.int .i64 0])) (G - n)):=⟨_,rfl⟩;have hsz:cs.size = G * 3:=by
   rw [hcs,Array.size_append,Array.size_append,size_zeroCells,size_zeroCells];simp [Value.cells];omega
  rw [<- hcs] at hrz;have HO:=Hd (show OwnI 75 (w.drew.alloc (.cells cs 75)) w.heap.size (.slice (some ⟨w.heap.size,0,none⟩) 0 G) [] from World.ownsRow_made (w:=w.drew) (e:=75) (size:=3) cs G (Nat.le_refl _) hG hsz);unfold maxLen at hG;clear hGe hcs hsz hi hz0 hz1 hz2;have hn1:¬ ((n:Int) < 0):=by omega
  have hn2:(n:Int) > 0:=by omega
  go_enter Tryz.func77,Tryz.ntmps77
  go_wp2_with (at_builtin;refine Lib.wpList_append_run _ rfl _ _ _ _ rfl _ _ rfl rfl _ _ (hrz _) ?_)
  go_ret
  exact ⟨_,rfl,HO.out,((Q.refl w).drew).alloc _⟩
theorem concat_any (v:Value) (ls:List Il) (w:World) (hv:GLst Il.v w v ls) (hvs:∀ s ∈ ls,LstI w s.v s.zs /\ s.zs.length = s.n) (hl:ls.length <= 1000) (hls:∀ s ∈ ls,s.n <= 1000000) :
  Calls Tryz.prog 47 #[v] w fun e w'=>∃ u,e = .returned u /\ OwnI 75 w' w.heap.size u (catI ls) /\ Q w w':=by
 obtain ⟨N,hN⟩:∃ N,N = ls.length:=⟨_,rfl⟩;obtain ⟨a,c,rfl,hnc,hcm⟩:=hv.form0 hN.symm;have HL:=Hd (show ∀ k,k < N -> ∃ (sa:Option Addr) (sn sc:Nat) (zs:List E),ls[k]? = some ⟨sa,sn,sc,zs⟩ /\ LstI w (.slice sa sn sc) zs /\ zs.length = sn /\ sn <= 1000000 from fun k hk=>by
  have hm:ls[k]'(by omega) ∈ ls:=List.getElem_mem _;have h1:=hvs _ hm;have h2:=hls _ hm;exact ⟨_,_,_,_,List.getElem?_eq_getElem (by omega),h1.1,h1.2,h2⟩)
 have HV:=Hd (fun u (q:Q w u) k s (h:ls[k]? = some s)=>(hv.q q).cellOf (n:=N) hN.symm h);have HC:=Hd (catI_take ls);have HCL:=Hd (fun k=>catI_len ls k (fun s hs=>by have h1:=(hvs s hs).2;have h2:=hls s hs;omega));have HCE:=Hd (show catI (ls.take N) = catI ls from by rw [hN,List.take_length]);have HG:=Hd grow_nil;rw [<- hN] at hl;unfold maxLen at hcm;clear hv hvs hls hN;go_enter Tryz.func47,Tryz.ntmps47
 go_wp2_with fail
 go_loop [3,11] (fun u t=>∃ k m:Nat,u = .int .i64 m /\ t = .int .i64 k /\ k <= N /\ m = (catI (ls.take k)).length) (fun _ t=>N - (intOf t).toNat)
 case atStart=>exact ⟨0,0,rfl,rfl,by omega,rfl⟩
 case round =>
  obtain ⟨k,m,rfl,rfl,hk,hm⟩:=hrel;have hmb:=HCL.out k;rw [<- hm] at hmb;by_cases hlt:k < N
  ·obtain ⟨sa,sn,sc,zs,hs,_,hzn,hsn⟩:=HL.out k hlt
   obtain ⟨g,off,cap,hvv,hg,_,_,c1⟩:=HV.out w (Q.refl w) k _ hs;cases hvv;replace c1:w.cell? ⟨g,off + k,none⟩ = some (.slice sa sn sc):=c1;have HN:=Hd (show m + sn = (catI (ls.take (k + 1))).length from by rw [HC.out k _ hs,List.length_append,hm,hzn]);have hms:m + sn <= 2000000000:=by have:k * 1000000 <= 1000 * 1000000:=Nat.mul_le_mul_right _ (by omega);omega
   have hno:¬ ((m:Int) + (sn:Int) < 0):=by omega
   clear hs hm hmb hzn;go_wp2_with fail
   exact ⟨⟨k + 1,m + sn,by go_num,by go_num,by omega,HN.out⟩,by simp [intOf];omega⟩
  ·obtain rfl:k = N:=by omega
   have HM:=Hd hm;have hmb2:m < 1073741824:=by have:k * 1000000 <= 1000 * 1000000:=Nat.mul_le_mul_right _ (by omega);omega
   clear hm hmb;go_wp2_with fail
   refine (HG.out m w hmb2).mono ?_;rintro e w1 ⟨u1,rfl,ho1,hq1⟩;have HO1:=Hd ho1;have HQ1:=Hd hq1;clear ho1 hq1;go_wp2_with fail
   go_loopw [6,27] (fun u t wr=>∃ j:Nat,t = .int .i64 j /\ j <= k /\ OwnI 75 wr w.heap.size u (catI (ls.take j)) /\ Q w wr) (fun _ t _=>k - (intOf t).toNat)
   case atStart=>exact ⟨0,rfl,by omega,HO1.out,HQ1.out⟩
   case round =>
    obtain ⟨j,rfl,hj,ho,hq⟩:=hrel;by_cases hlt2:j < k
    ·obtain ⟨sa,sn,sc,zs,hs,hz,hzn,hsn⟩:=HL.out j hlt2
     obtain ⟨g,off,cap,hvv,hg,_,_,c1⟩:=HV.out wr hq j _ hs;cases hvv;replace c1:wr.cell? ⟨g,off + j,none⟩ = some (.slice sa sn sc):=c1;have HZ:=Hd (hz.q hq);have HCJ:=Hd (HC.out j _ hs);have HW:=Hd (show (catI (ls.take j)).length + zs.length < 1073741824 from by
      have h1:=HCL.out j;have:j * 1000000 <= 1000 * 1000000:=Nat.mul_le_mul_right _ (by omega);omega)
     have hB:w.heap.size <= wr.heap.size:=hq.le;clear hs hz hzn;go_wp2_with (at_builtin;refine Im.pushl elP ho HZ.out rfl _ _ rfl (by rfl) (by rfl) HW.out hB ?_)
     intro v2 w2 ho2 hg2 hat2;rw [<- HCJ.out] at ho2;have HO2:=Hd ho2;have HQ2:=Hd (hq.grown hg2 (fun g h=>(ho.lt g h).1));clear ho ho2 hg2 hat2;go_wp2_with fail
     exact ⟨⟨j + 1,by go_num,by omega,HO2.out,HQ2.out⟩,by simp [intOf];omega⟩
    ·obtain rfl:j = k:=by omega
     rw [HCE.out] at ho;have HO:=Hd ho;have HQ:=Hd hq;clear ho hq;go_wp2_with fail
     go_ret
     exact ⟨_,rfl,HO.out,HQ.out⟩
theorem concat4 (u:World) (b:Nat) (va vb vc vd:Value) (xs ys zs ts:List E) (hB:Bk u b 67 [va,vb,vc,vd]) (ha:LstI u va xs) (hb:LstI u vb ys) (hc:LstI u vc zs) (hd:LstI u vd ts) (l1:xs.length <= 200000) (l2:ys.length <= 200000) (l3:zs.length <= 200000) (l4:ts.length <= 200000) :
  Calls Tryz.prog 47 #[.slice (some ⟨b,0,none⟩) 4 4] u fun e w'=>∃ x,e = .returned x /\ OwnI 75 w' u.heap.size x (xs ++ ys ++ zs ++ ts) /\ Q u w':=by
 obtain ⟨a1,c1,rfl,_,_⟩:=ha.shape2;obtain ⟨a2,c2,rfl,_,_⟩:=hb.shape2;obtain ⟨a3,c3,rfl,_,_⟩:=hc.shape2;obtain ⟨a4,c4,rfl,_,_⟩:=hd.shape2;refine (concat_any _ [⟨a1,xs.length,c1,xs⟩,⟨a2,ys.length,c2,ys⟩,⟨a3,zs.length,c3,zs⟩,⟨a4,ts.length,c4,ts⟩] u ?_ ?_ (by simp) ?_).mono ?_
 ·refine .inr ⟨b,0,4,rfl,hB.lt,Nat.le_refl _,by unfold maxLen;omega,?_⟩
  intro i x hx;rw [Nat.zero_add];exact hB.cell i (by
   match i,hx with
   | 0,hx=>cases hx;rfl
   | 1,hx=>cases hx;rfl
   | 2,hx=>cases hx;rfl
   | 3,hx=>cases hx;rfl)
 ·intro s hs
  simp only [List.mem_cons,List.not_mem_nil,or_false] at hs;rcases hs with rfl | rfl | rfl | rfl
  ·exact ⟨ha,rfl⟩
  ·exact ⟨hb,rfl⟩
  ·exact ⟨hc,rfl⟩
  ·exact ⟨hd,rfl⟩
 ·intro s hs
  simp only [List.mem_cons,List.not_mem_nil,or_false] at hs;rcases hs with rfl | rfl | rfl | rfl <;> dsimp only <;> omega
 ·rintro e w' ⟨x,rfl,ho,hq⟩
  have e1:catI [⟨a1,xs.length,c1,xs⟩,⟨a2,ys.length,c2,ys⟩,⟨a3,zs.length,c3,zs⟩,⟨a4,ts.length,c4,ts⟩] = xs ++ ys ++ zs ++ ts:=by simp [catI]
  rw [e1] at ho;exact ⟨x,rfl,ho,hq⟩
end It
end
section
open Go.RowKit
namespace Dw
def okA (ls:List Sl):Bool:=ls.all fun s=>Dm.okB s.zs
theorem okA_bad (ls:List Sl) (k:Nat) (s:Sl) (h:ls[k]? = some s) (hb:Dm.okB s.zs = false):okA (ls.drop k) = false:=by
 have hk:=(List.getElem?_eq_some_iff.1 h).1;rw [List.getElem?_eq_getElem hk] at h;rw [List.drop_eq_getElem_cons hk,Option.some.inj h];simp [okA,hb]
theorem okA_on (ls:List Sl) (k:Nat) (s:Sl) (h:ls[k]? = some s) (hb:Dm.okB s.zs = true):okA (ls.drop k) = okA (ls.drop (k + 1)):=by
 have hk:=(List.getElem?_eq_some_iff.1 h).1;rw [List.getElem?_eq_getElem hk] at h;rw [List.drop_eq_getElem_cons hk,Option.some.inj h];simp [okA,hb]
end Dw
end
section
open Go.RowKit
namespace Dm
def BD (c:Int) (i:Nat) (zs:List Int):Prop:=∀ j,j < zs.length -> 0 <= zs.getD j 0 /\ zs.getD j 0 <= c + (if j < i then 9 else 0)
theorem BD.step {c:Int} {i:Nat} {zs:List Int} (h:BD c i zs) (d:Int) (hd:0 <= d /\ d <= 9) (hi:i < zs.length):BD c (i + 1) (zs.set i (zs.getD i 0 + d)):=by
 intro j hj;rw [List.length_set] at hj;rw [getD_set _ _ _ _ hi];have h1:=h j hj;have h2:=h i hi;by_cases hij:i = j
 ·subst hij
  rw [if_pos rfl,if_pos (by omega)];rw [if_neg (by omega)] at h2;omega
 ·rw [if_neg hij]
  by_cases hlt:j < i
  ·rw [if_pos hlt] at h1
   rw [if_pos (by omega)];exact h1
  ·rw [if_neg hlt] at h1
   rw [if_neg (by omega)];exact h1
theorem BD.next {c:Int} {i:Nat} {zs:List Int} (h:BD c i zs):BD (c + 9) 0 zs:=by
 intro j hj;have h1:=h j hj;rw [if_neg (by omega)];by_cases hlt:j < i
 ·rw [if_pos hlt] at h1;omega
 ·rw [if_neg hlt] at h1;omega
theorem BD.zeros (n:Nat):BD 0 0 (List.replicate n 0):=by
 intro j hj;rw [List.getD_eq_getElem?_getD,List.getElem?_replicate];rw [List.length_replicate] at hj;rw [if_pos hj];simp
end Dm
namespace Dw
end Dw
end
section
open Go.RowKit Go.Sort Go.Maps
namespace Sy
open Sm Um
theorem digit_any (x:ByteArray) (d:Int) (w:World) (hx:x.size <= maxLen) :
  Calls Tryz.prog 88 #[.string x,.int .i64 d] w fun e w'=>e = .returned (.tuple #[.string (dgS (nz x.data.toList) d),.int .i64 (dgE (nz x.data.toList) d)]) /\ Q w w':=by
 have hb:=nz_bd x.data.toList;by_cases hz:nz x.data.toList = -1
 ·have HS:Hid (dgS (nz x.data.toList) d = ⟨#[]⟩):=Hd (by unfold dgS;rw [if_pos hz])
  have HE:Hid (dgE (nz x.data.toList) d = 7):=Hd (by unfold dgE;rw [if_pos hz]);have hc:=fun w=>zero_none x w hx hz;clear hz hb;go_enter Tryz.func88,Tryz.ntmps88
  go_wp2_with (go_at_call 150;refine (hc _).mono ?_;rintro e w1 ⟨rfl,hq1⟩)
  go_ret2
  rw [HS.out,HE.out];exact ⟨rfl,hq1⟩
 ·have hc:=fun w=>zero_some x w hx hz
  have hb2:48 <= nz x.data.toList /\ nz x.data.toList <= 120812:=by omega
  clear hb;generalize nz x.data.toList = z at *;by_cases h0:0 <= d
  ·by_cases h9:d <= 9
   ·have HS:Hid (dgS z d = Um.encB (z + d)):=Hd (by unfold dgS;rw [if_neg hz,if_pos ⟨h0,h9⟩])
    have HE:Hid (dgE z d = 0):=Hd (by unfold dgE;rw [if_neg hz,if_pos ⟨h0,h9⟩]);have h10:d < 10:=by omega
    clear hz h9;go_enter Tryz.func88,Tryz.ntmps88
    go_wp2_with (first | (go_at_call 150;refine (hc _).mono ?_;rintro e w1 ⟨rfl,hq1⟩) | (go_at_call 151;refine (encode_any _ _).mono ?_;rintro e w' ⟨rfl,rfl⟩))
    go_ret2
    rw [HS.out,HE.out];exact ⟨rfl,hq1⟩
   ·have HS:Hid (dgS z d = ⟨#[]⟩):=Hd (by unfold dgS;rw [if_neg hz,if_neg (by omega)])
    have HE:Hid (dgE z d = 3):=Hd (by unfold dgE;rw [if_neg hz,if_neg (by omega)]);have h10:10 <= d:=by omega
    clear hz h9;go_enter Tryz.func88,Tryz.ntmps88
    go_wp2_with (go_at_call 150;refine (hc _).mono ?_;rintro e w1 ⟨rfl,hq1⟩)
    go_ret2
    rw [HS.out,HE.out];exact ⟨rfl,hq1⟩
  ·have HS:Hid (dgS z d = ⟨#[]⟩):=Hd (by unfold dgS;rw [if_neg hz,if_neg (by omega)])
   have HE:Hid (dgE z d = 3):=Hd (by unfold dgE;rw [if_neg hz,if_neg (by omega)]);have h10:d < 0:=by omega
   clear hz h0;go_enter Tryz.func88,Tryz.ntmps88
   go_wp2_with (go_at_call 150;refine (hc _).mono ?_;rintro e w1 ⟨rfl,hq1⟩)
   go_ret2
   rw [HS.out,HE.out];exact ⟨rfl,hq1⟩
end Sy
end
section
open Go.RowKit
theorem Lst.recap {w:World} {a:Option Addr} {n c:Nat} {zs:List Int} (h:Lst w (.slice a n c) zs) (d:Nat) (h0:0 < n) (hd:n <= d) (hm:d <= maxLen):Lst w (.slice a n d) zs:=by
 rcases h with ⟨rfl,_,_,hv,_⟩ | ⟨g,off,cap,hv,hg,h1,h2,hc⟩
 ·cases hv;omega
 ·cases hv
  exact .inr ⟨g,off,d,rfl,hg,hd,hm,hc⟩
namespace Tm
def same (a b:T):Bool:=a.g == b.g && a.s == b.s && decide (a.i = b.i) && decide (a.f = b.f)
theorem same_iff (a b:T):same a b = true ↔ a = b:=by
 cases a;cases b;simp only [same,Bool.and_eq_true,beq_iff_eq,decide_eq_true_eq,T.mk.injEq];constructor
 ·rintro ⟨⟨⟨h1,h2⟩,h3⟩,h4⟩;exact ⟨h1,h3,h2,h4⟩
 ·rintro ⟨h1,h2,h3,h4⟩;exact ⟨⟨⟨h1,h3⟩,h2⟩,h4⟩
end Tm
namespace Tp
theorem infoP:(Tryz.prog.info? 39).map (·.size) = some 4:=by kernel_rfl
theorem areAtoms_any (v:Value) (xs:List Int) (w:World) (hv:Lst w v xs) (hl:xs.length < 1099511627776) :
  Calls Tryz.prog 125 #[v] w fun e w'=>e = .returned (.bool (Tm.okA xs)) /\ w = w':=by
 obtain ⟨a,c,rfl⟩:=hv.shape;obtain ⟨n,hn⟩:∃ n,n = xs.length:=⟨_,rfl⟩;obtain ⟨r,hr⟩:∃ r,r = Tm.okA xs:=⟨_,rfl⟩;rw [<- hr];have HB:=Hd (Tm.okA_bad xs);have HO:=Hd (Tm.okA_on xs);have HE:=Hd (Tm.okA_end xs);have HR:=Hd hr;rw [<- hn] at hv hl HB HO HE |-;have HV:=Hd (fun k h=>hv.cellOf (n:=n) (k:=k) hn.symm h);clear hv hn hr;go_enter Tryz.func125,Tryz.ntmps125
 go_wp2_with fail
 go_loop [7] (fun i=>∃ k:Nat,i = .int .i64 k /\ k <= n /\ Tm.okA (xs.drop k) = r) (fun i=>n - (intOf i).toNat)
 case atStart=>exact ⟨0,rfl,by omega,by rw [HR.out];rfl⟩
 case round =>
  obtain ⟨k,rfl,hk,hc⟩:=hrel;have HC:=Hd hc;clear hc;by_cases hlt:k < n
  ·obtain ⟨g,off,cap,hvv,hg,_,_,c1⟩:=HV.out k hlt
   cases hvv;have hb:=HB.out k hlt;have ho:=HO.out k hlt;obtain ⟨y,hy⟩:∃ y,y = xs.getD k 0:=⟨_,rfl⟩;rw [<- hy] at c1 hb ho;clear hy;by_cases hy0:y < 0
   ·have HF:Hid (r = false):=Hd (by rw [<- HC.out];exact hb (by omega))
    clear hb ho;go_wp2_with fail
    go_ret
    rw [HF.out];exact ⟨rfl,rfl⟩
   ·by_cases hy1:10 < y
    ·have HF:Hid (r = false):=Hd (by rw [<- HC.out];exact hb (by omega))
     clear hb ho;go_wp2_with fail
     go_ret
     rw [HF.out];exact ⟨rfl,rfl⟩
    ·have HN:=Hd ((ho (by omega)).symm.trans HC.out)
     have h3:¬ y > 10:=by omega
     have h4:y <= 10:=by omega
     have h5:0 <= y:=by omega
     clear hb ho;go_wp2_with fail
     exact ⟨⟨k + 1,by go_num,by omega,HN.out⟩,by simp [intOf];omega⟩
  ·have HF:Hid (r = true):=Hd (by rw [<- HC.out];exact HE.out k (by omega))
   go_wp2_with fail
   go_ret
   rw [HF.out];exact ⟨rfl,rfl⟩
theorem cut_any (v:Value) (xs:List Int) (i j:Nat) (w:World) (hv:Lst w v xs) (hij:i <= j) (hj:j <= xs.length) :
  Calls Tryz.prog 66 #[v,.int .i64 i,.int .i64 j] w fun e w'=>∃ a,e = .returned (.slice a (j - i) (j - i)) /\ Lst w (.slice a (j - i) (j - i)) ((xs.drop i).take (j - i)) /\ w = w':=by
 obtain ⟨n,hn⟩:∃ n,n = xs.length:=⟨_,rfl⟩;by_cases hlt:i = j
 ·subst hlt
  have HZ:=Hd (show (xs.drop i).take (i - i) = [] from by simp);obtain ⟨a,c,rfl,hc1,hc2⟩:=hv.form0 hn.symm;have hpc:(i:Int) <= (c:Int):=by omega
  unfold maxLen at hc2;rw [HZ.out,Nat.sub_self];clear hv hn HZ hj;go_enter Tryz.func66,Tryz.ntmps66
  cases a;all_goals
   go_wp2_with fail
   go_ret
   exact ⟨_,rfl,.nil _ _ _ (by unfold maxLen;omega) (fun _=>rfl),rfl⟩
 ·obtain ⟨g,off,cap,rfl,hg,hcp,hcm,_⟩:=hv.cellOf hn.symm (k:=i) (by omega)
  have hd:=hv.drop hn.symm (k:=i) (by omega);have ht:=hd.take (j - i) (by rw [List.length_drop];omega);have hr:=ht.recap (j - i) (by omega) (Nat.le_refl _) (by omega);have HR:=Hd hr;have hpc:(j:Int) <= (cap:Int):=by omega
  have hpi:(i:Int) <= (j:Int):=by omega
  have hne:¬ (j = i):=by omega
  have hne2:¬ (j - i = 0):=by omega
  unfold maxLen at hcm;clear hv hd ht hr hj hn;go_enter Tryz.func66,Tryz.ntmps66
  go_wp2_with fail
  go_ret
  exact ⟨_,rfl,HR.out,rfl⟩
theorem own_any (v:Value) (xs:List Int) (w:World) (hv:Lst w v xs) (hl:xs.length < 1000000) :
  Calls Tryz.prog 127 #[v] w fun e w'=>∃ u,e = .returned u /\ Own w' w.heap.size u xs /\ Q w w':=by
 obtain ⟨n,hn⟩:∃ n,n = xs.length:=⟨_,rfl⟩;obtain ⟨a,c,rfl,_,_⟩:=hv.form0 hn.symm;have HV:=Hd hv;have hol:=Own.nil w w.heap.size;have HW:=Hd (show ([]:List Int).length + xs.length < 1099511627776 from by show 0 + _ < _;omega);clear hv hl hn;go_enter Tryz.func127,Tryz.ntmps127
 go_wp2_with (at_builtin;refine push_list hol HV.out rfl _ _ rfl (by rfl) (by rfl) HW.out (Nat.le_refl _) ?_)
 intro u w2 hu hg2 hat2;have HU:=Hd hu;have HQ:=Hd ((Q.refl w).grown hg2 (fun k h=>by cases h));clear hu hg2 hat2;go_wp2_with fail
 go_ret
 exact ⟨_,rfl,HU.out,HQ.out⟩
theorem zeb_any (v:Value) (xs:List Int) (w:World) (hv:Lst w v xs) (hl:xs.length < 1099511627776) :
  Calls Tryz.prog 67 #[v] w fun e w'=>e = .returned (.int .i64 (Tm.zeb xs)) /\ w = w':=by
 obtain ⟨a,c,rfl⟩:=hv.shape;obtain ⟨n,hn⟩:∃ n,n = xs.length:=⟨_,rfl⟩;have HS:=Hd (Tm.zeb_step xs);have HH:=Hd (Tm.zeb_hit xs);have hz:=Tm.zeb_le xs;generalize Tm.zeb xs = z at *;rw [<- hn] at hv hl HS HH hz |-;have HV:=Hd (fun k h=>hv.cellOf (n:=n) (k:=k) hn.symm h);clear hv hn;go_enter Tryz.func67,Tryz.ntmps67
 go_wp2_with fail
 go_loop [3] (fun i=>∃ k:Nat,i = .int .i64 k /\ k <= n /\ k <= z) (fun i=>n - (intOf i).toNat)
 case atStart=>exact ⟨0,rfl,by omega,by omega⟩
 case round =>
  obtain ⟨k,rfl,hk,hkz⟩:=hrel;by_cases hlt:k < n
  ·obtain ⟨m,hm⟩:∃ m,m = n - 1 - k:=⟨_,rfl⟩
   obtain ⟨g,off,cap,hvv,hg,_,_,c1⟩:=HV.out m (by omega);cases hvv;have hs:=HS.out k hkz hlt;have hh:=HH.out k hkz hlt;rw [<- hm] at hs hh;obtain ⟨y,hy⟩:∃ y,y = xs.getD m 0:=⟨_,rfl⟩;rw [<- hy] at c1 hs hh;clear hy;have hme:(n:Int) - 1 - (k:Int) = (m:Int):=by omega
   have hmn:m < n:=by omega
   have HM:=Hd hm;clear hm;by_cases hy0:y = 0
   ·have h1:=hs hy0
    have e1:(y == 0) = true:=by rw [hy0];rfl
    clear hs hh hy0;go_wp2_with fail
    exact ⟨⟨k + 1,by go_num,by omega,h1⟩,by simp [intOf];omega⟩
   ·have HZ:=Hd (hh hy0)
    have e1:(y == 0) = false:=beq_eq_false_iff_ne.2 hy0;clear hs hh hy0;go_wp2_with fail
    go_ret
    rw [HZ.out];exact ⟨rfl,rfl⟩
  ·have HZ:Hid (z = k):=Hd (by omega)
   go_wp2_with fail
   go_ret
   rw [HZ.out];exact ⟨rfl,rfl⟩
end Tp
end
section
open Go.RowKit
def Ap (w:World) (B:Nat) (v:Value) (zs:List Int):Prop:=Own w B v zs \/ (Lst w v zs /\ ∃ a,v = .slice a zs.length zs.length)
theorem Ap.lst {w:World} {B:Nat} {v:Value} {zs:List Int} (h:Ap w B v zs):Lst w v zs:=h.elim (fun h=>h.lst) (fun h=>h.1)
theorem Ap.q {w w':World} {B:Nat} {v:Value} {zs:List Int} (h:Ap w B v zs) (hq:Q w w'):Ap w' B v zs:=h.elim (fun h=>.inl (h.q hq)) (fun h=>.inr ⟨h.1.q hq,h.2⟩)
namespace Ts
theorem two_bk {u:World} {b:Nat} {va vb:Value} {xs ys:List Int} (hB:Bk u b 24 [va,vb]) (ha:Lst u va xs) (hb:Lst u vb ys) :
  ∃ s t:Sl,s.zs = xs /\ t.zs = ys /\ s.n = xs.length /\ t.n = ys.length /\ LL u (.slice (some ⟨b,0,none⟩) 2 2) [s,t]:=by
 obtain ⟨s,rfl,rfl,hs⟩:=ha.sl;obtain ⟨t,rfl,rfl,ht⟩:=hb.sl;refine ⟨s,t,rfl,rfl,hs.2.symm,ht.2.symm,.inr ⟨b,0,2,rfl,hB.lt,Nat.le_refl _,by unfold maxLen;omega,?_⟩,?_⟩
 ·intro i x hx
  rw [Nat.zero_add];exact hB.cell i (by
   match i,hx with
   | 0,hx=>cases hx;rfl
   | 1,hx=>cases hx;rfl)
 ·intro x hx
  rcases List.mem_cons.1 hx with rfl | hx
  ·exact hs
  ·rcases List.mem_cons.1 hx with rfl | hx
   ·exact ht
   ·cases hx
theorem concat2 (u:World) (b:Nat) (va vb:Value) (xs ys:List Int) (hB:Bk u b 24 [va,vb]) (ha:Lst u va xs) (hb:Lst u vb ys) (l1:xs.length <= 1000000) (l2:ys.length <= 1000000) :
  Calls Tryz.prog 69 #[.slice (some ⟨b,0,none⟩) 2 2] u fun e w'=>∃ a c,e = .returned (.slice a (xs.length + ys.length) c) /\ Own w' u.heap.size (.slice a (xs.length + ys.length) c) (xs ++ ys) /\ Q u w':=by
 obtain ⟨s,t,rfl,rfl,h1,h2,hll⟩:=two_bk hB ha hb;refine (concat_any _ [s,t] u hll (by simp) ?_).mono ?_
 ·intro x hx
  rcases List.mem_cons.1 hx with rfl | hx
  ·omega
  ·rcases List.mem_cons.1 hx with rfl | hx
   ·omega
   ·cases hx
 ·rintro e w' ⟨v,rfl,ho,hq⟩
  have e1:Tm.cat [s,t] = s.zs ++ t.zs:=by simp [Tm.cat]
  rw [e1] at ho;obtain ⟨a,c,hv⟩:=ho.shape;rw [List.length_append] at hv;subst hv;exact ⟨a,c,rfl,ho,hq⟩
end Ts
namespace Tp
theorem ret_d2 {fn:Func} {p q:Tmp} (h:fn.results = #[.cell p 39,.tmp q]) {R:Ending -> World -> Prop} {a:Act} {w:World} {g:Nat} {l:List Value} {x:Value}
  (hl:l.length = 4) (hp:a.tmps.getD p undef = .pointer (some ⟨g,0,none⟩)) (hx:a.tmps.getD q undef = x) (hg:Bk w g 39 l) (hd:a.defers = []) (hR:R (.returned (.tuple #[.agg l.toArray,x])) w):bodyPost Tryz.prog fn R .ret a w:=by
 refine bodyPost_ret (v:=.tuple #[.agg l.toArray,x]) ?_ hd hR;rw [results_cell_tmp h,hp,hx];simp [asAddr,Result.andThen,run_loadVar_row w g 39 39 l.toArray (0,0) _ hg Tryz.underlying39 rfl (by rw [infoP];simp [hl])]
end Tp
end
section
namespace Lm
abbrev By:=List UInt8
def bs (l:By):ByteArray:=⟨l.toArray⟩
theorem bs_list (l:By):(bs l).data.toList = l:=by unfold bs;simp
theorem bs_size (l:By):(bs l).size = l.length:=by unfold bs;simp [ByteArray.size]
structure Rec where
 nam:By
 pat:By
 sys:By
 dec:By
 grp:By
 min:By
 per:By
 cur:By
def wordB (l:By):Bool:=decide (l.length <= 16) && (Um.okL l && Cm.plainB (Um.allL l))
def symB (l:By):Bool:=wordB l && Gm.oneB l
def ptx (r:Rec) (x:Int × By):By:=if x.1 = 0 then x.2 else if x.1 = 1 then r.cur else if x.1 = 2 then r.per else []
def atx (r:Rec) (A:List (Int × By)):By:=A.flatMap (ptx r)
def affs (X:Pt.Pat):List (List (Int × By)):=[X.pre,X.suf,X.npre,X.nsuf]
def cnt (k:Int) (A:List (Int × By)):Nat:=A.countP fun x=>x.1 == k
def clus (r:Rec) (X:Pt.Pat):List ByteArray:=(affs X).flatMap fun A=>Gm.pcs (bs (atx r A))
def dgt (r:Rec) (d:Nat):ByteArray:=Sm.dgS (Sm.nz r.sys) d
def syms (r:Rec):List ByteArray:=[dgt r 0,dgt r 1,dgt r 2,dgt r 3,dgt r 4,dgt r 5,dgt r 6,dgt r 7,dgt r 8,dgt r 9,bs r.dec,bs r.grp,bs r.min]
def plc (x:ByteArray):List ByteArray -> Nat -> Int
 | [],_=>-1
 | y :: r,k=>if x = y then (k:Int) else plc x r (k + 1)
theorem plc_neg {x:ByteArray} (xs:List ByteArray):∀ k,(0:Int) <= plc x xs k ↔ x ∈ xs:=by
 induction xs with
 | nil=>intro k;simp [plc]
 | cons y r ih =>
  intro k;unfold plc;by_cases h:x = y
  ·rw [if_pos h];simp [h]
  ·rw [if_neg h,ih];simp [h]
theorem plc_none {x:ByteArray} (xs:List ByteArray):∀ k,x ∉ xs -> plc x xs k = -1:=by
 induction xs with
 | nil=>intro k h;rfl
 | cons y r ih =>
  intro k h;unfold plc;rw [if_neg (fun e=>h (by rw [e];exact List.mem_cons_self)),ih _ (fun e=>h (List.mem_cons_of_mem _ e))]
theorem plc_nodup (xs:List ByteArray):∀ k i (x:ByteArray),xs.Nodup -> xs[i]? = some x -> plc x xs k = ((k + i:Nat):Int):=by
 induction xs with
 | nil=>intro k i x _ h;simp at h
 | cons y r ih =>
  intro k i x hn h;rw [List.nodup_cons] at hn;unfold plc;cases i with
  | zero =>
   simp at h;rw [if_pos h.symm];rfl
  | succ i =>
   rw [List.getElem?_cons_succ] at h;have hm:x ∈ r:=List.mem_of_getElem? h;rw [if_neg (fun e=>hn.1 (by rw [<- e];exact hm)),ih _ i x hn.2 h];congr 1;omega
def sgn (r:Rec) (x:ByteArray):Int:=if x.size = 0 then -1 else plc x (syms r) 0
structure Ok (r:Rec) (X:Pt.Pat):Prop where
 nam:∀ b ∈ r.nam,(97 <= b.toNat /\ b.toNat <= 122) \/ (65 <= b.toNat /\ b.toNat <= 90) \/ b.toNat = 45
 nam1:1 <= r.nam.length /\ r.nam.length <= 16
 sg:cnt 3 X.pre = 0 /\ cnt 3 X.suf = 0 /\ cnt 3 X.npre + cnt 3 X.nsuf = 1
 sys:0 <= Sm.nz r.sys
 sysl:r.sys.length <= 16
 dec:symB r.dec = true
 min:symB r.min = true
 pr:0 <= X.pr
 grp1:0 < X.pr -> symB r.grp = true
 grp0:¬ 0 < X.pr -> r.grp = []
 per:wordB r.per = true \/ (r.per = [] /\ ∀ A ∈ affs X,cnt 2 A = 0)
 cur:wordB r.cur = true \/ (r.cur = [] /\ ∀ A ∈ affs X,cnt 1 A = 0)
 aff:∀ A ∈ affs X,A.length <= 10 /\ ∀ x ∈ A,(0 <= x.1 /\ x.1 <= 3) /\ x.2.length <= 10 /\ (x.1 = 0 -> Cm.plainB (Um.allL x.2) = true) /\ (x.1 ≠ 0 -> x.2 = [])
 len:∀ A ∈ affs X,(atx r A).length <= 64
 dis:(syms r).Nodup
 ne:∀ i x,(syms r)[i]? = some x -> i ≠ 11 -> 0 < x.size
 cl:∀ c ∈ clus r X,c ∉ syms r
def notin (x:ByteArray) (l:List ByteArray):Bool:=l.all fun y=>decide (y ≠ x)
def isin (x:ByteArray) (l:List ByteArray):Bool:=l.any fun y=>decide (y = x)
theorem of_notin {x:ByteArray} {l:List ByteArray} (h:notin x l = true):x ∉ l:=fun k=>by
 have:=List.all_eq_true.1 h x k;simp at this
theorem of_isin {x:ByteArray} {l:List ByteArray} (h:isin x l = true):x ∈ l:=by
 obtain ⟨y,hy,he⟩:=List.any_eq_true.1 h;exact of_decide_eq_true he ▸ hy
/-! ### the records made of numbers -/
def patC:List (List Int):=[[35,44,35,35,48,46,48,48],[48,46,35,35],[35,44,35,35,44,35,35,48,46,35,35,35],[164,35,44,35,35,48,46,48,48],[35,44,35,35,48,46,48,48,120,164],[164,120,35,44,35,35,48,46,48,48,59,40,164,120,45,35,41],[35,44,35,35,48,37],[48,46,48,59,48,46,48,45],[35,44,35,35,35,48,46,48,48,121,59,121,35,44,35,35,48,46,48,48,45,121],[35,44,35,35,44,35,48,46,35,59,39,35,39,35,45,39,35,39]]
def patB:List By:=[[35,44,35,35,48,46,48,48],[48,46,35,35],[35,44,35,35,44,35,35,48,46,35,35,35],[194,164,35,44,35,35,48,46,48,48],[35,44,35,35,48,46,48,48,120,194,164],[194,164,120,35,44,35,35,48,46,48,48,59,40,194,164,120,45,35,41],[35,44,35,35,48,37],[48,46,48,59,48,46,48,45],[35,44,35,35,35,48,46,48,48,121,59,121,35,44,35,35,48,46,48,48,45,121],[35,44,35,35,44,35,48,46,35,59,39,35,39,35,45,39,35,39]]
def patX:List Pt.Pat:=[⟨[],[],[(3,[])],[],3,3,1,2,2⟩,
 ⟨[],[],[(3,[])],[],0,0,1,0,2⟩,
 ⟨[],[],[(3,[])],[],3,2,1,0,3⟩,
 ⟨[(1,[])],[],[(3,[]),(1,[])],[],3,3,1,2,2⟩,
 ⟨[],[(0,[120]),(1,[])],[(3,[])],[(0,[120]),(1,[])],3,3,1,2,2⟩,
 ⟨[(1,[]),(0,[120])],[],[(0,[40]),(1,[]),(0,[120]),(3,[])],[(0,[41])],3,3,1,2,2⟩,
 ⟨[],[(2,[])],[(3,[])],[(2,[])],3,3,1,0,0⟩,
 ⟨[],[],[],[(3,[])],0,0,1,1,1⟩,
 ⟨[],[(0,[121])],[(0,[121])],[(3,[]),(0,[121])],4,4,1,2,2⟩,
 ⟨[],[],[(0,[35])],[(3,[]),(0,[35])],2,2,1,0,1⟩]
def decL:List By:=[[46],[44],[217,171],[101,204,129]]
def minL:List By:=[[45],[226,136,146],[226,128,144],[45,204,129]]
def perL:List By:=[[37],[217,170]]
def curL:List By:=[[36],[226,130,172],[67,72,70],[107,204,129,114]]
def grpL:List By:=[[39],[194,160],[226,128,175],[95],[46],[44]]
def eL:List ByteArray:=[⟨#[36]⟩,⟨#[226,130,172]⟩,⟨#[67]⟩,⟨#[72]⟩,⟨#[70]⟩,⟨#[107,204,129]⟩,⟨#[114]⟩,⟨#[120]⟩,⟨#[40]⟩,⟨#[41]⟩,⟨#[37]⟩,⟨#[217,170]⟩,⟨#[121]⟩,⟨#[35]⟩]
def pX (p:Nat):Pt.Pat:=patX.getD p Pt.pat0
def grpAt (q d:Nat):By:=if grpL.getD q [] = decL.getD d [] then [32] else grpL.getD q []
def mk (s p d m u c q:Nat):Rec:=⟨[120,120],patB.getD p [],Sm.nmL.getD s [],decL.getD d [],if 0 < (pX p).pr then grpAt q d else [],minL.getD m [],perL.getD u [],curL.getD c []⟩
def liv:Rec:=⟨[101,110],patB.getD 0 [],[108,97,116,110],[46],[44],[45],[],[]⟩
theorem f_pat:∀ p,p < 10 -> Um.joinL (patC.getD p []) = patB.getD p [] /\ Pt.parseC (patC.getD p []) = (pX p,0) /\ (patC.getD p []).all (fun c=>Um.vld c) = true:=by decide +kernel
theorem f_aff:∀ p,p < 10 -> (affs (pX p)).all (fun A=>decide (A.length <= 10) && A.all (fun x=>decide (0 <= x.1 /\ x.1 <= 3) && (decide (x.2.length <= 10) && ((x.1 != 0 || Cm.plainB (Um.allL x.2)) && (x.1 == 0 || x.2 == []))))) = true:=by decide +kernel
theorem f_sg:∀ p,p < 10 -> cnt 3 (pX p).pre = 0 /\ cnt 3 (pX p).suf = 0 /\ cnt 3 (pX p).npre + cnt 3 (pX p).nsuf = 1 /\ 0 <= (pX p).pr:=by decide +kernel
theorem f_sys:∀ s,s < 20 -> 0 <= Sm.nz (Sm.nmL.getD s []) /\ (Sm.nmL.getD s []).length <= 16:=by decide +kernel
theorem f_dec:∀ d,d < 4 -> symB (decL.getD d []) = true:=by decide +kernel
theorem f_min:∀ d,d < 4 -> symB (minL.getD d []) = true:=by decide +kernel
theorem f_grp:∀ q,q < 6 -> ∀ d,d < 4 -> symB (grpAt q d) = true:=by decide +kernel
theorem f_per:∀ u,u < 2 -> wordB (perL.getD u []) = true:=by decide +kernel
theorem f_cur:∀ u,u < 4 -> wordB (curL.getD u []) = true:=by decide +kernel
def atxC (p u c:Nat) (A:List (Int × By)):By:=A.flatMap fun x=>if x.1 = 0 then x.2 else if x.1 = 1 then curL.getD c [] else if x.1 = 2 then perL.getD u [] else []
theorem f_len:∀ p,p < 10 -> ∀ u,u < 2 -> ∀ c,c < 4 -> (affs (pX p)).all (fun A=>decide ((atxC p u c A).length <= 64)) = true:=by decide +kernel
theorem f_clus:∀ p,p < 10 -> ∀ u,u < 2 -> ∀ c,c < 4 -> (affs (pX p)).all (fun A=>(Gm.pcs (bs (atxC p u c A))).all fun x=>isin x eL) = true:=by decide +kernel
def digs (s:Nat):List ByteArray:=(List.range 10).map fun d:Nat=>Sm.dgS (Sm.nz (Sm.nmL.getD s [])) (d:Int)
def others:List ByteArray:=(decL ++ minL ++ grpL ++ [[32]]).map bs
theorem f_eD:∀ s,s < 20 -> eL.all (fun x=>notin x (digs s)) = true:=by decide +kernel
theorem f_eO:eL.all (fun x=>decide (0 < x.size) && notin x others) = true:=by decide +kernel
theorem f_dd:∀ s,s < 20 -> (digs s).Nodup:=by decide +kernel
theorem f_dn:∀ s,s < 20 -> (digs s).all (fun x=>decide (0 < x.size) && notin x others) = true:=by decide +kernel
theorem f_on:others.all (fun x=>decide (0 < x.size)) = true:=by decide +kernel
theorem f_dm:∀ d,d < 4 -> ∀ m,m < 4 -> bs (decL.getD d []) ≠ bs (minL.getD m []):=by decide +kernel
theorem f_dg:∀ d,d < 4 -> ∀ q,q < 6 -> bs (decL.getD d []) ≠ bs (grpAt q d):=by decide +kernel
theorem f_gm:∀ d,d < 4 -> ∀ q,q < 6 -> ∀ m,m < 4 -> bs (grpAt q d) ≠ bs (minL.getD m []):=by decide +kernel
theorem f_othB:(∀ d,d < 4 -> isin (bs (decL.getD d [])) others = true) /\ (∀ m,m < 4 -> isin (bs (minL.getD m [])) others = true) /\ (∀ q,q < 6 -> ∀ d,d < 4 -> isin (bs (grpAt q d)) others = true):=by decide +kernel
theorem f_oth:(∀ d,d < 4 -> bs (decL.getD d []) ∈ others) /\ (∀ m,m < 4 -> bs (minL.getD m []) ∈ others) /\ (∀ q,q < 6 -> ∀ d,d < 4 -> bs (grpAt q d) ∈ others) :=
 ⟨fun d h=>of_isin (f_othB.1 d h),fun d h=>of_isin (f_othB.2.1 d h),fun q h d k=>of_isin (f_othB.2.2 q h d k)⟩
theorem nod3 {D:List ByteArray} {x y z:ByteArray} (hD:D.Nodup) (hx:x ∉ D) (hy:y ∉ D) (hz:z ∉ D) (h1:x ≠ y) (h2:x ≠ z) (h3:y ≠ z):(D ++ [x,y,z]).Nodup:=by
 rw [List.nodup_append];refine ⟨hD,by simp [h1,h2,h3],fun a ha b hb e=>?_⟩;subst e;simp only [List.mem_cons,List.not_mem_nil,or_false] at hb;rcases hb with rfl | rfl | rfl
 ·exact hx ha
 ·exact hy ha
 ·exact hz ha
theorem dig_mem {s:Nat} (hs:s < 20) {x:ByteArray} (h:x ∈ digs s):0 < x.size /\ x ∉ others:=by
 have h1:=List.all_eq_true.1 (f_dn s hs) x h;simp only [Bool.and_eq_true,decide_eq_true_eq] at h1;exact ⟨h1.1,of_notin h1.2⟩
theorem oth_size {x:ByteArray} (h:x ∈ others):0 < x.size:=by
 have h1:=List.all_eq_true.1 f_on x h;simpa using h1
theorem oth_dig {s:Nat} (hs:s < 20) {x:ByteArray} (h:x ∈ others):x ∉ digs s:=fun k=>(dig_mem hs k).2 h
theorem emp_dig {s:Nat} (hs:s < 20):bs [] ∉ digs s:=fun k=>by have:=(dig_mem hs k).1;rw [bs_size] at this;simp at this
theorem e_mem {s:Nat} (hs:s < 20) {x:ByteArray} (h:x ∈ eL):0 < x.size /\ x ∉ others /\ x ∉ digs s:=by
 have h1:=List.all_eq_true.1 f_eO x h;have h2:=List.all_eq_true.1 (f_eD s hs) x h;simp only [Bool.and_eq_true,decide_eq_true_eq] at h1;exact ⟨h1.1,of_notin h1.2,of_notin h2⟩
def sy (s d m:Nat) (g:By):List ByteArray:=digs s ++ [bs (decL.getD d []),bs g,bs (minL.getD m [])]
def IsG (d:Nat) (g:By):Prop:=g = [] \/ ∃ q,q < 6 /\ g = grpAt q d
theorem sy_nodup {s d m:Nat} {g:By} (hs:s < 20) (hd:d < 4) (hm:m < 4) (hg:IsG d g):(sy s d m g).Nodup:=by
 have o1:=f_oth.1 d hd;have o2:=f_oth.2.1 m hm;have z1:=oth_size o1;have z2:=oth_size o2;rcases hg with rfl | ⟨q,hq,rfl⟩
 ·refine nod3 (f_dd s hs) (oth_dig hs o1) (emp_dig hs) (oth_dig hs o2) (fun e=>?_) (f_dm d hd m hm) (fun e=>?_)
  ·rw [e,bs_size] at z1;simp at z1
  ·rw [<- e,bs_size] at z2;simp at z2
 ·have o3:=f_oth.2.2 q hq d hd
  exact nod3 (f_dd s hs) (oth_dig hs o1) (oth_dig hs o3) (oth_dig hs o2) (f_dg d hd q hq) (f_dm d hd m hm) (f_gm d hd q hq m hm)
theorem sy_ne {s d m:Nat} {g:By} (hs:s < 20) (hd:d < 4) (hm:m < 4) (i:Nat) (x:ByteArray) (h:(sy s d m g)[i]? = some x) (h11:i ≠ 11):0 < x.size:=by
 have hl:(digs s).length = 10:=by unfold digs;simp
 unfold sy at h;by_cases hi:i < 10
 ·rw [List.getElem?_append_left (by omega)] at h
  exact (dig_mem hs (List.mem_of_getElem? h)).1
 ·rw [List.getElem?_append_right (by omega),hl] at h
  obtain ⟨j,hj⟩:∃ j,j = i - 10:=⟨_,rfl⟩;rw [<- hj] at h;match j,hj,h with
  | 0,_,h=>simp at h;subst h;exact oth_size (f_oth.1 d hd)
  | 1,hj,_=>omega
  | 2,_,h=>simp at h;subst h;exact oth_size (f_oth.2.1 m hm)
  | k + 3,_,h=>simp at h
theorem sy_e {s d m:Nat} {g:By} (hs:s < 20) (hd:d < 4) (hm:m < 4) (hg:IsG d g) {x:ByteArray} (h:x ∈ eL):x ∉ sy s d m g:=by
 obtain ⟨h1,h2,h3⟩:=e_mem hs h;unfold sy;intro k;rcases List.mem_append.1 k with k | k
 ·exact h3 k
 ·simp only [List.mem_cons,List.not_mem_nil,or_false] at k
  rcases k with rfl | rfl | rfl
  ·exact h2 (f_oth.1 d hd)
  ·rcases hg with rfl | ⟨q,hq,rfl⟩
   ·rw [bs_size] at h1;simp at h1
   ·exact h2 (f_oth.2.2 q hq d hd)
  ·exact h2 (f_oth.2.1 m hm)
theorem aff_of {p:Nat} (hp:p < 10):∀ A ∈ affs (pX p),A.length <= 10 /\ ∀ x ∈ A,(0 <= x.1 /\ x.1 <= 3) /\ x.2.length <= 10 /\ (x.1 = 0 -> Cm.plainB (Um.allL x.2) = true) /\ (x.1 ≠ 0 -> x.2 = []):=by
 intro A hA;have h:=List.all_eq_true.1 (f_aff p hp) A hA;simp only [Bool.and_eq_true,decide_eq_true_eq,List.all_eq_true,Bool.or_eq_true,bne_iff_ne,ne_eq,beq_iff_eq] at h;refine ⟨h.1,fun x hx=>?_⟩;obtain ⟨h1,h2,h3,h4⟩:=h.2 x hx;exact ⟨h1,h2,fun e=>h3.resolve_left (fun n=>n e),fun e=>h4.resolve_left e⟩
theorem mk_isG {s p d m u c q:Nat} (hq:q < 6):IsG d (mk s p d m u c q).grp:=by
 show IsG d (if 0 < (pX p).pr then grpAt q d else [])
 split
 ·exact .inr ⟨q,hq,rfl⟩
 ·exact .inl rfl
theorem mk_ok {s p d m u c q:Nat} (hs:s < 20) (hp:p < 10) (hd:d < 4) (hm:m < 4) (hu:u < 2) (hc:c < 4) (hq:q < 6):Ok (mk s p d m u c q) (pX p) where
 nam:=(by decide:∀ b ∈ ([120,120]:By),(97 <= b.toNat /\ b.toNat <= 122) \/ (65 <= b.toNat /\ b.toNat <= 90) \/ b.toNat = 45)
 nam1:=(by decide:1 <= ([120,120]:By).length /\ ([120,120]:By).length <= 16)
 sg:=⟨(f_sg p hp).1,(f_sg p hp).2.1,(f_sg p hp).2.2.1⟩
 sys:=(f_sys s hs).1
 sysl:=(f_sys s hs).2
 dec:=f_dec d hd
 min:=f_min m hm
 pr:=(f_sg p hp).2.2.2
 grp1:=fun h=>by show symB (if 0 < (pX p).pr then grpAt q d else []) = true;rw [if_pos h];exact f_grp q hq d hd
 grp0:=fun h=>by show (if 0 < (pX p).pr then grpAt q d else []) = [];rw [if_neg h]
 per:=.inl (f_per u hu)
 cur:=.inl (f_cur c hc)
 aff:=aff_of hp
 len:=fun A hA=>by have h:=List.all_eq_true.1 (f_len p hp u hu c hc) A hA;exact of_decide_eq_true h
 dis:=sy_nodup hs hd hm (mk_isG hq)
 ne:=fun i x h h11=>sy_ne hs hd hm i x h h11
 cl:=fun x hx=>by
  refine sy_e hs hd hm (mk_isG hq) ?_;unfold clus at hx;obtain ⟨A,hA,hxA⟩:=List.mem_flatMap.1 hx;exact of_isin (List.all_eq_true.1 (List.all_eq_true.1 (f_clus p hp u hu c hc) A hA) x hxA)
theorem liv_cl:∀ A ∈ affs (pX 0),Gm.pcs (bs (atx liv A)) = []:=by decide +kernel
theorem liv_len:∀ A ∈ affs (pX 0),(atx liv A).length <= 64:=by decide +kernel
theorem liv_g:liv.grp = grpAt 5 0:=by decide +kernel
theorem liv_syms:syms liv = sy 10 0 0 liv.grp:=by decide +kernel
theorem liv_nz:0 <= Sm.nz liv.sys /\ liv.sys.length <= 16:=by decide +kernel
theorem liv_s:symB liv.dec = true /\ symB liv.min = true /\ symB liv.grp = true:=by decide +kernel
theorem liv_k:(∀ A ∈ affs (pX 0),cnt 2 A = 0) /\ (∀ A ∈ affs (pX 0),cnt 1 A = 0):=by decide +kernel
theorem liv_ok:Ok liv (pX 0) where
 nam:=(by decide:∀ b ∈ ([101,110]:By),(97 <= b.toNat /\ b.toNat <= 122) \/ (65 <= b.toNat /\ b.toNat <= 90) \/ b.toNat = 45)
 nam1:=(by decide:1 <= ([101,110]:By).length /\ ([101,110]:By).length <= 16)
 sg:=⟨(f_sg 0 (by omega)).1,(f_sg 0 (by omega)).2.1,(f_sg 0 (by omega)).2.2.1⟩
 sys:=liv_nz.1
 sysl:=liv_nz.2
 dec:=liv_s.1
 min:=liv_s.2.1
 pr:=(f_sg 0 (by omega)).2.2.2
 grp1:=fun _=>liv_s.2.2
 grp0:=fun h=>absurd (show 0 < (pX 0).pr by decide) h
 per:=.inr ⟨rfl,liv_k.1⟩
 cur:=.inr ⟨rfl,liv_k.2⟩
 aff:=aff_of (by omega)
 len:=liv_len
 dis:=by rw [liv_syms];exact sy_nodup (by omega) (by omega) (by omega) (.inr ⟨5,by omega,liv_g⟩)
 ne:=fun i x h h11=>by rw [liv_syms] at h;exact sy_ne (by omega) (by omega) (by omega) i x h h11
 cl:=fun x hx=>by
  unfold clus at hx;obtain ⟨A,hA,hxA⟩:=List.mem_flatMap.1 hx;rw [liv_cl A hA] at hxA;simp at hxA
end Lm
end
end Go.Proofs.YtdjhkbholijnmaaGreatDoor
