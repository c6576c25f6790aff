/- What the document's own answers on one list of digits come to, by a walk through each. (and more) -/
import Derived.Test.YtdjhkbholijnmaaGreatDoorR02
import Derived.Lib.AppendZerosOnto
set_option linter.all false
set_option maxRecDepth 100000
set_option maxHeartbeats 8000000
namespace Go.Proofs.YtdjhkbholijnmaaGreatDoor
section
open Go.RowKit
namespace Dm
def gdL (xs:List Int) (m:Nat):List Int:=(xs.take m).map fun x=>Um.around x 10
theorem gdL_len (xs:List Int) (m:Nat):(gdL xs m).length = min m xs.length:=by unfold gdL;rw [List.length_map,List.length_take]
theorem gdL_ok (xs:List Int) (m:Nat):okD (gdL xs m):=by
 intro d hd;obtain ⟨x,hx,rfl⟩:=List.mem_map.1 hd;have:=Um.around_bd x 10 (by omega);omega
theorem gdL_snoc (xs:List Int) (k:Nat) (hk:k < xs.length):gdL xs (k + 1) = gdL xs k ++ [Um.around (xs.getD k 0) 10]:=by
 unfold gdL;rw [List.take_succ_eq_append_getElem hk,List.map_append,List.getD_eq_getElem?_getD,List.getElem?_eq_getElem hk];rfl
theorem gdL_min (xs:List Int) (m:Nat):gdL xs (min m xs.length) = gdL xs m:=by
 unfold gdL;rcases Nat.le_total m xs.length with h | h
 ·rw [Nat.min_eq_left h]
 ·rw [Nat.min_eq_right h,List.take_length,List.take_of_length_le h]
end Dm
namespace Dr
theorem good_any (v:Value) (xs:List Int) (m:Nat) (w:World) (hv:Lst w v xs) (hl:xs.length <= 9223372036854775807) (hm:m < 1000000) (hb:∀ n ∈ xs,-9223372036854775808 <= n /\ n <= 9223372036854775807) :
  Calls Tryz.prog 30 #[v,.int .i64 m] w fun e w'=>∃ u,e = .returned u /\ Own w' w.heap.size u (Dm.gdL xs m) /\ Q w w':=by
 obtain ⟨n,hn⟩:∃ n,n = xs.length:=⟨_,rfl⟩;obtain ⟨a,c,rfl,hnc,hcm⟩:=hv.form0 hn.symm;have HV:=Hd (fun k (hk:k < n)=>hv.cellOf (n:=n) (k:=k) hn.symm hk);have HB:=Hd (fun k (hk:k < n)=>(by rw [List.getD_eq_getElem?_getD,List.getElem?_eq_getElem (by omega)];exact hb _ (List.getElem_mem _):-9223372036854775808 <= xs.getD k 0 /\ xs.getD k 0 <= 9223372036854775807));have HS:=Hd (fun k (hk:k < n)=>Dm.gdL_snoc xs k (by omega));have HE:=Hd (fun k (h1:k = min m n)=>(by rw [h1,hn];exact Dm.gdL_min xs m:Dm.gdL xs k = Dm.gdL xs m));have HL:=Hd (fun k=>(by rw [Dm.gdL_len,<- hn]:(Dm.gdL xs k).length = min k n));have HA:=Hd (fun x w h0 h1=>Ur.around_any x 10 w h0 h1 (by omega) (by omega));rw [<- hn] at hl;unfold maxLen at hcm;clear hv hn hb;go_enter Tryz.func30,Tryz.ntmps30
 go_wp2_with fail
 go_loopw [5,6] (fun u t wr=>∃ k:Nat,t = .int .i64 k /\ k <= n /\ k <= m /\ Own wr w.heap.size u (Dm.gdL xs k) /\ Q w wr) (fun _ t _=>n - (intOf t).toNat)
 case atStart=>exact ⟨0,rfl,by omega,by omega,Own.nil _ _,Q.refl _⟩
 case round =>
  obtain ⟨k,rfl,hk,hkm,ho,hq⟩:=hrel;by_cases hlt:k < n
  ·by_cases hlm:k < m
   ·obtain ⟨g,off,cap,hvv,hg,_,_,c0⟩:=HV.out k hlt
    cases hvv;have c1:=(World.cell?_of_block (w:=w) (hq.block hg) (a:=⟨g,off + k,none⟩)).trans c0;have hbk:=HB.out k hlt;have hs:=HS.out k hlt;generalize xs.getD k 0 = x at *;have HS2:=Hd hs;have hwl:(Dm.gdL xs k).length < 1099511627776:=by rw [HL.out];omega
    have hB:=hq.le;have HAR:=Hd (HA.out x wr hbk.1 hbk.2);have HQ:=Hd hq;clear hs c0 hbk;generalize Um.around x 10 = y at *;go_wp2_with fail
    refine HAR.out.mono ?_;rintro e w1 ⟨rfl,rfl⟩;go_wp2_with (at_builtin;refine push_int ho rfl _ _ rfl _ (by rfl) (by rfl) hwl hB ?_)
    intro v2 w2 ho2 hg2 hat2;rw [<- HS2.out] at ho2;have HO2:=Hd ho2;have HQ2:=Hd (HQ.out.grown hg2 (fun g h=>(ho.lt g h).1));clear ho ho2 hg2 hat2;go_wp2_with fail
    exact ⟨⟨k + 1,by go_num,by omega,by omega,HO2.out,HQ2.out⟩,by simp [intOf];omega⟩
   ·have he:=HE.out k (by omega)
    rw [he] at ho;have HO:=Hd ho;have HQ:=Hd hq;clear he ho hq;go_wp2_with fail
    go_ret
    exact ⟨_,rfl,HO.out,HQ.out⟩
  ·have he:=HE.out k (by omega)
   rw [he] at ho;have HO:=Hd ho;have HQ:=Hd hq;clear he ho hq;go_wp2_with fail
   go_ret
   exact ⟨_,rfl,HO.out,HQ.out⟩
theorem trim_any (v:Value) (xs:List Int) (w:World) (hv:Lst w v xs) (hl:xs.length < 1099511627776) :
  Calls Tryz.prog 70 #[v] w fun e w'=>∃ u,e = .returned u /\ Own w' w.heap.size u (Dm.trimL xs) /\ Q w w':=by
 obtain ⟨n,hn⟩:∃ n,n = xs.length:=⟨_,rfl⟩;obtain ⟨a,c,rfl,hnc,hcm⟩:=hv.form0 hn.symm;have HV:=Hd (fun k (hk:k < n)=>hv.cellOf (n:=n) (k:=k) hn.symm hk);have HS:=Hd (Dm.zer_step xs);have HH:=Hd (Dm.zer_hit xs);have hzl:=Dm.zer_le xs;have htd:=Dm.trim_drop xs;have htl:=Dm.trim_len xs;generalize Dm.zer xs = z at *;rw [<- hn] at HS HH hzl htl hl;have hrest:=hv.rest hn.symm hzl;have hwl:([]:List Int).length + (Dm.trimL xs).length < 1099511627776:=by rw [htl];show 0 + (n - z) < _;omega
 have HW:=Hd hwl;have HTD:=Hd htd;have hol:=Own.nil w w.heap.size;have HRS:=Hd hrest;unfold maxLen at hcm;clear hv hn htd htl hwl hrest;have hzc:(z:Int) <= (c:Int):=by omega
 go_enter Tryz.func70,Tryz.ntmps70
 go_wp2_with fail
 go_loop [3] (fun i=>∃ k:Nat,i = .int .i64 k /\ k <= n /\ k <= z) (fun i=>n - (intOf i).toNat)
 case atStart=>exact ⟨0,rfl,by omega,by omega⟩
 case round =>
  obtain ⟨k,rfl,hk,hkz⟩:=hrel;by_cases hlt:k < n
  ·obtain ⟨g,off,cap,hvv,hg,_,_,c1⟩:=HV.out k hlt
   cases hvv;have hs:=HS.out k hkz hlt;have hh:=HH.out k hkz hlt;obtain ⟨y,hy⟩:∃ y,y = xs.getD k 0:=⟨_,rfl⟩;rw [<- hy] at c1 hs hh;clear hy;by_cases hy0:y = 0
   ·have h1:=hs hy0
    have e1:(y == 0) = true:=by rw [hy0];rfl
    clear hs hh hy0;go_wp2_with fail
    exact ⟨⟨k + 1,by go_num,by omega,h1⟩,by simp [intOf];omega⟩
   ·have hz:=hh hy0
    have e1:(y == 0) = false:=beq_eq_false_iff_ne.2 hy0;subst hz;have hrest:=HRS.out;rcases hrest with ⟨g2,off2,he,hlt2,_,_,hr⟩ | ⟨he,_⟩ | ⟨_,_,he,_⟩
    ·cases he
     rw [<- HTD.out] at hr;have HR:=Hd hr;have hne:¬ (c = z):=by omega
     have hne2:¬ (c - z = 0):=by omega
     have hzn:(z:Int) <= (n:Int):=by omega
     clear hs hh hy0 hr;go_wp2_with (at_builtin;refine push_list hol HR.out rfl _ _ rfl (by rfl) (by rfl) HW.out (Nat.le_refl _) ?_)
     intro u w2 hu hg2 hat2;go_wp2_with fail
     go_ret
     exact ⟨_,rfl,hu,(Q.refl w).grown hg2 (fun k hk=>by cases hk)⟩
    ·omega
    ·omega
  ·have hz:z = k:=by omega
   subst hz;have hrest:=HRS.out;rcases hrest with ⟨g2,off2,he,hlt2,_,_,hr⟩ | ⟨rfl,rfl,he⟩ | ⟨ad,rfl,rfl,hlt2,_,he⟩
   ·omega
   ·have HE:=Hd (HTD.out.trans he)
    have hX:∀ a:Option Addr,Lst w (.slice a 0 0) []:=fun a=>.nil w a 0 (by unfold maxLen;omega) (fun _=>rfl);cases a;all_goals
     go_wp2_with (at_builtin;refine push_list hol (hX _) rfl _ _ rfl (by rfl) (by rfl) (by show 0 + 0 < 1099511627776;omega) (Nat.le_refl _) ?_)
     intro u w2 hu hg2 hat2;go_wp2_with fail
     go_ret
     exact ⟨_,rfl,by rw [HE.out];exact hu,(Q.refl w).grown hg2 (fun k hk=>by cases hk)⟩
   ·have HE:=Hd (HTD.out.trans he)
    have hne:¬ (c = z):=by omega
    have hne2:¬ (c - z = 0):=by omega
    have hX:Lst w (.slice (some (ad.add z)) 0 (c - z)) []:=.nil w _ _ (by unfold maxLen;omega) (fun h=>by cases h);go_wp2_with (at_builtin;refine push_list hol hX rfl _ _ rfl (by rfl) (by rfl) (by show 0 + 0 < 1099511627776;omega) (Nat.le_refl _) ?_)
    intro u w2 hu hg2 hat2;go_wp2_with fail
    go_ret
    exact ⟨_,rfl,by rw [HE.out];exact hu,(Q.refl w).grown hg2 (fun k hk=>by cases hk)⟩
end Dr
end
section
open Go.RowKit
namespace Tm
def cat (ls:List Sl):List Int:=(ls.map Sl.zs).flatten
theorem cat_take (ls:List Sl) (k:Nat) (s:Sl) (h:ls[k]? = some s):cat (ls.take (k + 1)) = cat (ls.take k) ++ s.zs:=by
 have hk:=(List.getElem?_eq_some_iff.1 h).1;rw [List.getElem?_eq_getElem hk] at h;unfold cat;rw [List.take_succ_eq_append_getElem hk,Option.some.inj h,List.map_append,List.flatten_append];simp
theorem cat_len (ls:List Sl) (k:Nat) (h:∀ s ∈ ls,s.zs.length <= 1000000):(cat (ls.take k)).length <= k * 1000000:=by
 induction k with
 | zero=>simp [cat]
 | succ k ih =>
  rcases Nat.lt_or_ge k ls.length with hk | hk
  ·rw [cat_take ls k _ (List.getElem?_eq_getElem hk),List.length_append]
   have:=h _ (List.getElem_mem hk);omega
  ·have e:ls.take (k + 1) = ls.take k:=(List.take_of_length_le (Nat.le_succ_of_le hk)).trans (List.take_of_length_le hk).symm
   rw [e];exact Nat.le_trans ih (Nat.mul_le_mul_right _ (Nat.le_succ k))
def ix (l:List Int):Int:=if has l = true then ((ahd l).length:Int) else -1
theorem ix_some {l:List Int} {k:Nat} (h:k <= (ahd l).length) (hk:k < l.length) (hx:l.getD k 0 = 10):ix l = k:=by
 have e:=ix_hit l k h hk hx;unfold ix;rw [has_lt,e,decide_eq_true hk,if_pos rfl]
theorem ix_none {l:List Int} (h:l.length <= (ahd l).length):ix l = -1:=by
 unfold ix;rw [has_lt,decide_eq_false (by omega)];rfl
theorem ix_has (l:List Int):decide (0 <= ix l) = has l:=by
 unfold ix;cases h:has l with
 | true=>rw [if_pos rfl];simp
 | false=>rfl
end Tm
namespace Ts
theorem grow_nil (n:Nat) (w:World) (hn:n < 1099511627776) :
  Calls Tryz.prog 130 #[.slice none 0 0,.int .i64 n] w fun e w'=>∃ u,e = .returned u /\ Own w' w.heap.size u [] /\ Q w w':=by
 by_cases h0:n = 0
 ·subst h0
  go_enter Tryz.func130,Tryz.ntmps130
  go_wp2_with fail
  go_ret
  exact ⟨_,rfl,Own.nil _ _,Q.refl _⟩
 ·obtain ⟨i0,hi,hz0,hz1,hz2⟩:=info_parts infoInt
  have hrz:=fun ty=>Lib.run_append_grow_zeros w 24 3 ty 3 i0 (.int .i64 0) .i64 .i64 Tryz.underlying24 Tryz.underlying3 hi hz0 none 0 0 [] (run_firstCells_none w.drew i0.size 0 0 0) n (by omega) (by rw [hz1];omega) (by omega) (by omega) (by rw [hz2];omega) (by rw [hz2];exact growslice_fits (by omega) (by omega));have hG:=grownCap_le_maxLen w (0 + n) 0 3 (by unfold maxLen;omega);have hGn:=grownCap_ge w (0 + n) 0 3;rw [Nat.zero_add] at hrz hG hGn;obtain ⟨G,hGe⟩:∃ G,G = grownCap w n 0 3:=⟨_,rfl⟩;rw [<- hGe] at hrz hG hGn;obtain ⟨cs,hcs⟩:∃ cs,cs = ((([]:List Value).toArray ++ Builtin.zeroCells (Value.cells (.int .i64 0)) n) ++ Builtin.zeroCells (Value.cells (.int .i64 0)) (G - n)):=⟨_,rfl⟩;have hsz:cs.size = G * 1:=by
   rw [hcs,Array.size_append,Array.size_append,size_zeroCells,size_zeroCells];simp [Value.cells];omega
  rw [<- hcs] at hrz;have HO:=Hd (show Own (w.drew.alloc (.cells cs 3)) w.heap.size (.slice (some ⟨w.heap.size,0,none⟩) 0 G) [] from World.ownsRow_made (w:=w.drew) (e:=3) (size:=1) cs G (Nat.le_refl _) hG hsz);unfold maxLen at hG;clear hGe hcs hsz hi hz0 hz1 hz2;have hn1:¬ ((n:Int) < 0):=by omega
  have hn2:(n:Int) > 0:=by omega
  go_enter Tryz.func130,Tryz.ntmps130
  go_wp2_with (at_builtin;refine Lib.wpList_append_run _ rfl _ _ _ _ rfl _ _ rfl rfl _ _ (hrz _) ?_)
  go_ret
  exact ⟨_,rfl,HO.out,((Q.refl w).drew).alloc _⟩
theorem concat_any (v:Value) (ls:List Sl) (w:World) (hv:LL w v ls) (hl:ls.length <= 1000) (hls:∀ s ∈ ls,s.n <= 1000000) :
  Calls Tryz.prog 69 #[v] w fun e w'=>∃ u,e = .returned u /\ Own w' w.heap.size u (Tm.cat ls) /\ Q w w':=by
 obtain ⟨N,hN⟩:∃ N,N = ls.length:=⟨_,rfl⟩;obtain ⟨a,c,rfl,hnc,hcm⟩:=hv.1.form0 hN.symm;have HL:=Hd (show ∀ k,k < N -> ∃ (sa:Option Addr) (sn sc:Nat) (zs:List Int),ls[k]? = some ⟨sa,sn,sc,zs⟩ /\ Lst w (.slice sa sn sc) zs /\ zs.length = sn /\ sn <= 1000000 from fun k hk=>by
  have hm:ls[k]'(by omega) ∈ ls:=List.getElem_mem _;have h1:=hv.2 _ hm;have h2:=hls _ hm;exact ⟨_,_,_,_,List.getElem?_eq_getElem (by omega),h1.1,h1.2,h2⟩)
 have hv1:=hv.1;have HV:=Hd (fun u (q:Q w u) k s (h:ls[k]? = some s)=>(hv1.q q).cellOf (n:=N) hN.symm h);have HC:=Hd (Tm.cat_take ls);have HCL:=Hd (fun k=>Tm.cat_len ls k (fun s hs=>by have h1:=(hv.2 s hs).2;have h2:=hls s hs;omega));have HCE:=Hd (show Tm.cat (ls.take N) = Tm.cat ls from by rw [hN,List.take_length]);have HG:=Hd grow_nil;rw [<- hN] at hl;unfold maxLen at hcm;clear hv hv1 hls hN;go_enter Tryz.func69,Tryz.ntmps69
 go_wp2_with fail
 go_loop [3,11] (fun u t=>∃ k m:Nat,u = .int .i64 m /\ t = .int .i64 k /\ k <= N /\ m = (Tm.cat (ls.take k)).length) (fun _ t=>N - (intOf t).toNat)
 case atStart=>exact ⟨0,0,rfl,rfl,by omega,rfl⟩
 case round =>
  obtain ⟨k,m,rfl,rfl,hk,hm⟩:=hrel;have hmb:=HCL.out k;rw [<- hm] at hmb;by_cases hlt:k < N
  ·obtain ⟨sa,sn,sc,zs,hs,_,hzn,hsn⟩:=HL.out k hlt
   obtain ⟨g,off,cap,hvv,hg,_,_,c1⟩:=HV.out w (Q.refl w) k _ hs;cases hvv;replace c1:w.cell? ⟨g,off + k,none⟩ = some (.slice sa sn sc):=c1;have HN:=Hd (show m + sn = (Tm.cat (ls.take (k + 1))).length from by rw [HC.out k _ hs,List.length_append,hm,hzn]);have hms:m + sn <= 2000000000:=by have:k * 1000000 <= 1000 * 1000000:=Nat.mul_le_mul_right _ (by omega);omega
   have hno:¬ ((m:Int) + (sn:Int) < 0):=by omega
   clear hs hm hmb hzn;go_wp2_with fail
   exact ⟨⟨k + 1,m + sn,by go_num,by go_num,by omega,HN.out⟩,by simp [intOf];omega⟩
  ·obtain rfl:k = N:=by omega
   have HM:=Hd hm;have hmb2:m < 1099511627776:=by have:k * 1000000 <= 1000 * 1000000:=Nat.mul_le_mul_right _ (by omega);omega
   clear hm hmb;go_wp2_with fail
   refine (HG.out m w hmb2).mono ?_;rintro e w1 ⟨u1,rfl,ho1,hq1⟩;have HO1:=Hd ho1;have HQ1:=Hd hq1;clear ho1 hq1;go_wp2_with fail
   go_loopw [6,27] (fun u t wr=>∃ j:Nat,t = .int .i64 j /\ j <= k /\ Own wr w.heap.size u (Tm.cat (ls.take j)) /\ Q w wr) (fun _ t _=>k - (intOf t).toNat)
   case atStart=>exact ⟨0,rfl,by omega,HO1.out,HQ1.out⟩
   case round =>
    obtain ⟨j,rfl,hj,ho,hq⟩:=hrel;by_cases hlt2:j < k
    ·obtain ⟨sa,sn,sc,zs,hs,hz,hzn,hsn⟩:=HL.out j hlt2
     obtain ⟨g,off,cap,hvv,hg,_,_,c1⟩:=HV.out wr hq j _ hs;cases hvv;replace c1:wr.cell? ⟨g,off + j,none⟩ = some (.slice sa sn sc):=c1;have HZ:=Hd (hz.q hq);have HCJ:=Hd (HC.out j _ hs);have HW:=Hd (show (Tm.cat (ls.take j)).length + zs.length < 1099511627776 from by
      have h1:=HCL.out j;have:j * 1000000 <= 1000 * 1000000:=Nat.mul_le_mul_right _ (by omega);omega)
     have hB:w.heap.size <= wr.heap.size:=hq.le;clear hs hz hzn;go_wp2_with (at_builtin;refine push_list ho HZ.out rfl _ _ rfl (by rfl) (by rfl) HW.out hB ?_)
     intro v2 w2 ho2 hg2 hat2;rw [<- HCJ.out] at ho2;have HO2:=Hd ho2;have HQ2:=Hd (hq.grown hg2 (fun g h=>(ho.lt g h).1));clear ho ho2 hg2 hat2;go_wp2_with fail
     exact ⟨⟨j + 1,by go_num,by omega,HO2.out,HQ2.out⟩,by simp [intOf];omega⟩
    ·obtain rfl:j = k:=by omega
     rw [HCE.out] at ho;have HO:=Hd ho;have HQ:=Hd hq;clear ho hq;go_wp2_with fail
     go_ret
     exact ⟨_,rfl,HO.out,HQ.out⟩
theorem index_any (v:Value) (xs:List Int) (w:World) (hv:Lst w v xs) (hl:xs.length < 1099511627776) :
  Calls Tryz.prog 126 #[v,.int .i64 10] w fun e w'=>e = .returned (.int .i64 (Tm.ix xs)) /\ w = w':=by
 obtain ⟨n,hn⟩:∃ n,n = xs.length:=⟨_,rfl⟩;obtain ⟨a,c,rfl,hnc,hcm⟩:=hv.form0 hn.symm;have HV:=Hd (fun k (hk:k < n)=>hv.cellOf (n:=n) (k:=k) hn.symm hk);have HS:=Hd (fun k h hk=>Tm.ix_step xs k h (by rw [<- hn];exact hk));have HH:=Hd (fun k h hk=>Tm.ix_some (l:=xs) (k:=k) h (by rw [<- hn];exact hk));have HE:=Hd (fun h=>Tm.ix_none (l:=xs) (by rw [<- hn];exact h));generalize Tm.ix xs = r at *;generalize (Tm.ahd xs).length = z at *;rw [<- hn] at hl;clear hv hn;unfold maxLen at hcm;go_enter Tryz.func126,Tryz.ntmps126
 go_wp2_with fail
 go_loop [8] (fun i=>∃ k:Nat,i = .int .i64 k /\ k <= n /\ k <= z) (fun i=>n - (intOf i).toNat)
 case atStart=>exact ⟨0,rfl,by omega,by omega⟩
 case round =>
  obtain ⟨k,rfl,hk,hkz⟩:=hrel;by_cases hlt:k < n
  ·obtain ⟨g,off,cap,hvv,hg,_,_,c1⟩:=HV.out k hlt
   cases hvv;have hs:=HS.out k hkz hlt;have hh:=HH.out k hkz hlt;obtain ⟨y,hy⟩:∃ y,y = xs.getD k 0:=⟨_,rfl⟩;rw [<- hy] at c1 hs hh;clear hy;by_cases hy0:y = 10
   ·have hr:=Hd (hh hy0)
    have e1:((10:Int) == y) = true:=by rw [hy0];rfl
    clear hs hh hy0;go_wp2_with fail
    go_ret
    rw [hr.out];exact ⟨rfl,rfl⟩
   ·have h1:=hs hy0
    have e1:((10:Int) == y) = false:=beq_eq_false_iff_ne.2 (fun e=>hy0 e.symm);clear hs hh hy0;go_wp2_with fail
    exact ⟨⟨k + 1,by go_num,by omega,h1⟩,by simp [intOf];omega⟩
  ·have hr:=Hd (HE.out (by omega))
   go_wp2_with fail
   go_ret
   rw [hr.out];exact ⟨rfl,rfl⟩
theorem contains_any (v:Value) (xs:List Int) (w:World) (hv:Lst w v xs) (hl:xs.length < 1099511627776) :
  Calls Tryz.prog 128 #[v,.int .i64 10] w fun e w'=>e = .returned (.bool (Tm.has xs)) /\ w = w':=by
 have HI:=Hd (index_any v xs w hv hl);have HB:=Hd (Tm.ix_has xs);obtain ⟨a,c,rfl⟩:=hv.shape;generalize Tm.ix xs = r at *;generalize xs.length = n at *;clear hv hl;go_enter Tryz.func128,Tryz.ntmps128
 go_wp2_with fail
 refine HI.out.mono ?_;rintro e w1 ⟨rfl,rfl⟩;by_cases h:0 <= r
 ·have hb:=HB.out
  rw [decide_eq_true h] at hb;have HB2:=Hd hb;clear hb;go_wp2_with fail
  go_ret
  rw [<- HB2.out];exact ⟨by first | rfl | (simp;done) | (simp;omega),rfl⟩
 ·have hb:=HB.out
  rw [decide_eq_false h] at hb;have HB2:=Hd hb;clear hb;go_wp2_with fail
  go_ret
  rw [<- HB2.out];exact ⟨by first | rfl | (simp;done) | (simp;omega),rfl⟩
end Ts
end
namespace Gm
open Um Cm
theorem marks_pos (l:List UInt8):∀ m ∈ marks l,1 <= m.2.1:=by
 refine marks_ind (p:=fun l=>∀ m ∈ marks l,1 <= m.2.1) (by simp [marks_nil]) ?_ l;intro l hl ih m hm;rw [marks_cons l hl,List.mem_cons] at hm;rcases hm with rfl | hm
 ·exact (mark_n l hl).1
 ·exact ih m hm
theorem begF_lt (t:St) (p:Nat) (ms:List (Int × Nat × Bool)) (h:∀ m ∈ ms,1 <= m.2.1):∀ x ∈ begF t p ms,(p:Int) <= x /\ x < p + width ms:=by
 induction ms generalizing t p with
 | nil=>simp [begF]
 | cons m ms ih =>
  intro x hx;have hw:width (m :: ms) = m.2.1 + width ms:=by simp [width]
  have h1:=h m (by simp);rw [begF,List.mem_append] at hx;rcases hx with hx | hx
  ·split at hx
   ·cases hx
   ·rw [List.mem_singleton] at hx;omega
  ·have:=ih _ _ (fun m hm=>h m (by simp [hm])) x hx
   omega
theorem begF_rise (t:St) (p:Nat) (ms:List (Int × Nat × Bool)) (h:∀ m ∈ ms,1 <= m.2.1):(begF t p ms).Pairwise (· < ·):=by
 induction ms generalizing t p with
 | nil=>simp [begF]
 | cons m ms ih =>
  have h1:=h m (by simp);have hr:=begF_lt (stp t (cls m.1)) (p + m.2.1) ms (fun m hm=>h m (by simp [hm]));rw [begF,List.pairwise_append];refine ⟨by split <;> simp,ih _ _ (fun m hm=>h m (by simp [hm])),fun x hx y hy=>?_⟩
  have:=hr y hy;split at hx
  ·cases hx
  ·rw [List.mem_singleton] at hx;omega
def stL1 (l:List UInt8):List Int:=begL l ++ [(l.length:Int)]
theorem stL1_length (l:List UInt8):(stL1 l).length = (begL l).length + 1:=by simp [stL1]
theorem begL_lt (l:List UInt8):∀ x ∈ begL l,0 <= x /\ x < l.length:=by
 intro x hx;have:=begF_lt st0 0 (marks l) (marks_pos l) x hx;rw [width_marks] at this;omega
theorem stL1_rise (l:List UInt8):(stL1 l).Pairwise (· < ·):=by
 unfold stL1;rw [List.pairwise_append];refine ⟨begF_rise _ _ _ (marks_pos l),by simp,fun x hx y hy=>?_⟩;rw [List.mem_singleton] at hy;have:=begL_lt l x hx;omega
theorem stL1_bd (l:List UInt8):∀ x ∈ stL1 l,0 <= x /\ x <= l.length:=by
 intro x hx;unfold stL1 at hx;rw [List.mem_append,List.mem_singleton] at hx;rcases hx with hx | hx
 ·have:=begL_lt l x hx;omega
 ·omega
theorem stL1_get (l:List UInt8) (i:Nat) (hi:i < (stL1 l).length):0 <= (stL1 l).getD i 0 /\ (stL1 l).getD i 0 <= l.length:=by
 rw [List.getD_eq_getElem?_getD,List.getElem?_eq_getElem hi];exact stL1_bd l _ (List.getElem_mem hi)
theorem stL1_step (l:List UInt8) (i:Nat) (hi:i < (begL l).length):(stL1 l).getD i 0 < (stL1 l).getD (i + 1) 0:=by
 have h1:i < (stL1 l).length:=by rw [stL1_length];omega
 have h2:i + 1 < (stL1 l).length:=by rw [stL1_length];omega
 rw [List.getD_eq_getElem?_getD,List.getElem?_eq_getElem h1,List.getD_eq_getElem?_getD,List.getElem?_eq_getElem h2];exact (List.pairwise_iff_getElem.1 (stL1_rise l)) i (i + 1) h1 h2 (by omega)
theorem jn_st0 (k:Int):jn st0 k = false:=by simp [jn,st0,pairB]
theorem begL_nil:begL [] = []:=rfl
theorem begL_ne (l:List UInt8) (h:l ≠ []):∃ r,begL l = 0 :: r /\ ∀ x ∈ r,0 < x:=by
 unfold begL;rw [marks_cons l h,begF,jn_st0];refine ⟨_,rfl,fun x hx=>?_⟩;have h1:=(mark_n l h).1;have:=begF_bd _ _ _ x hx;omega
theorem begL_zero (l:List UInt8):(begL l).length = 0 ↔ l = []:=by
 constructor
 ·intro h
  by_cases hl:l = []
  ·exact hl
  ·obtain ⟨r,hr,_⟩:=begL_ne l hl
   rw [hr] at h;simp at h
 ·rintro rfl;rfl
theorem stL1_zero (l:List UInt8) (h:l ≠ []):(stL1 l).getD 0 0 = 0:=by
 obtain ⟨r,hr,_⟩:=begL_ne l h;unfold stL1;rw [hr];rfl
theorem stL1_last (l:List UInt8):(stL1 l).getD (begL l).length 0 = l.length:=by
 unfold stL1;rw [List.getD_eq_getElem?_getD,List.getElem?_append_right (Nat.le_refl _),Nat.sub_self];rfl
theorem frsL_eq (l:List UInt8) (h:l ≠ []):frsL l = (stL1 l).getD 1 0:=by
 obtain ⟨r,hr,hp⟩:=begL_ne l h;unfold frsL stL1;rw [hr];cases r with
 | nil=>simp
 | cons x r =>
  have:=hp x (by simp);simp [this]
def oneB (l:List UInt8):Bool:=!l.isEmpty && (frsL l == l.length)
theorem oneB_eq (l:List UInt8):oneB l = decide ((begL l).length = 1):=by
 unfold oneB;cases l with
 | nil=>rfl
 | cons c l =>
  have hne:c :: l ≠ []:=by simp
  obtain ⟨r,hr,hp⟩:=begL_ne (c :: l) hne;have hf:=frsL_eq (c :: l) hne;rw [hf];unfold stL1;rw [hr];cases r with
  | nil=>simp
  | cons x r =>
   have:=begL_lt (c :: l) x (by rw [hr];simp);have h2:¬ x = ((c :: l).length:Int):=by omega
   simp only [List.cons_append,List.getD_cons_succ,List.getD_cons_zero];rw [beq_eq_false_iff_ne.2 h2];simp
def pc (s:ByteArray) (st:List Int) (i:Nat):ByteArray:=s.extract (st.getD i 0).toNat (st.getD (i + 1) 0).toNat
def pcs (s:ByteArray):List ByteArray:=(List.range (begL s.data.toList).length).map (pc s (stL1 s.data.toList))
theorem pcs_length (s:ByteArray):(pcs s).length = (begL s.data.toList).length:=by simp [pcs]
theorem pc_list (s:ByteArray) (st:List Int) (i:Nat):(pc s st i).data.toList = (s.data.toList.take (st.getD (i + 1) 0).toNat).drop (st.getD i 0).toNat:=by
 unfold pc;rw [ByteArray.data_extract,Array.toList_extract,List.extract_eq_take_drop,List.drop_take]
theorem pcs_take (s:ByteArray) (j:Nat) (h:j <= (begL s.data.toList).length) :
  (((List.range j).map (pc s (stL1 s.data.toList))).flatMap fun p=>p.data.toList) = s.data.toList.take ((stL1 s.data.toList).getD j 0).toNat:=by
 by_cases hl:s.data.toList = []
 ·rw [hl] at h |-
  have:j = 0:=by simpa [begL_nil] using h
  subst this;simp
 induction j with
 | zero=>rw [stL1_zero _ hl];simp
 | succ j ih =>
  have h1:=stL1_step s.data.toList j (by omega);have h2:=stL1_get s.data.toList j (by rw [stL1_length];omega);have h3:=stL1_get s.data.toList (j + 1) (by rw [stL1_length];omega);rw [List.range_succ,List.map_append,List.flatMap_append,ih (by omega)];simp only [List.map_cons,List.map_nil,List.flatMap_cons,List.flatMap_nil,List.append_nil,pc_list];have e:s.data.toList.take ((stL1 s.data.toList).getD j 0).toNat = (s.data.toList.take ((stL1 s.data.toList).getD (j + 1) 0).toNat).take ((stL1 s.data.toList).getD j 0).toNat:=by
   rw [List.take_take,Nat.min_eq_left (by omega)]
  rw [e,List.take_append_drop]
theorem pcs_all (s:ByteArray):((pcs s).flatMap fun p=>p.data.toList) = s.data.toList:=by
 unfold pcs;rw [pcs_take s _ (Nat.le_refl _),stL1_last,List.take_of_length_le (by simp)]
/-! Where a text parts. -/
theorem stR_reset (r:List Nat) (k:Int) (h:jn (stR r) k = false):stp (stR r) k = stp st0 k:=by
 have hi:=stR_inv r;generalize stR r = t at *;obtain ⟨a,d,s,o⟩:=t;simp only at hi;unfold jn at h;simp only [Bool.or_eq_false_iff,Bool.and_eq_false_iff] at h;obtain ⟨⟨h1,h2⟩,h3⟩:=h;unfold stp;simp only [st0,Bool.false_and,Bool.or_false,Bool.not_false,Bool.and_true];have e4:d = true -> k ≠ 4 /\ k ≠ 5:=by
  intro hd;have ha:=hi.1 hd;constructor
  ·rintro rfl
   rcases ha with rfl | rfl <;> simp [pairB,alB] at h1
  ·rintro rfl
   rcases ha with rfl | rfl <;> simp [pairB,alB] at h1
 have e1:(d && decide (k = 4)) = false:=by
  cases d
  ·rfl
  ·simp [(e4 rfl).1]
 have e2:(d && decide (k = 5)) = false:=by
  cases d
  ·rfl
  ·simp [(e4 rfl).2]
 have e3:(decide (k = 6) && !o) = decide (k = 6):=by
  cases o
  ·simp
  ·simp only [Bool.true_eq_false,false_or,decide_eq_false_iff_not] at h3
   simp [h3]
 rw [e1,e2,e3];simp
theorem stMs_rev (ms:List (Int × Nat × Bool)):stMs ms = stR ((ms.map (·.1)).map cls).reverse:=stL_rev _
theorem begF_shift (t:St) (p q:Nat) (ms:List (Int × Nat × Bool)):begF t (p + q) ms = (begF t p ms).map (· + (q:Int)):=by
 induction ms generalizing t p with
 | nil=>rfl
 | cons m ms ih =>
  rw [begF,begF,List.map_append,<- ih,show p + q + m.2.1 = p + m.2.1 + q from by omega];split <;> simp
theorem begL_part (a b:List UInt8) (hm:marks (a ++ b) = marks a ++ marks b) (hb:b ≠ []) (hj:jn (stMs (marks a)) (cls (mrk b).1) = false) :
  begL (a ++ b) = begL a ++ (begL b).map (· + (a.length:Int)):=by
 unfold begL;rw [hm,begF_append,width_marks,Nat.zero_add];congr 1
 have h0:=begF_shift st0 0 a.length (marks b);rw [Nat.zero_add] at h0;rw [<- h0,marks_cons b hb,begF,begF,jn_st0];have hs:((marks a).map (·.1)).foldl (fun t c=>stp t (cls c)) st0 = stMs (marks a):=rfl;rw [hs,hj];have hr:stp (stMs (marks a)) (cls (mrk b).1) = stp st0 (cls (mrk b).1):=by
  rw [stMs_rev] at hj |-;exact stR_reset _ _ hj
 rw [hr]
theorem cut_right (A B:List UInt8) (x y:Int) (hx:0 <= x) (hy:0 <= y):((A ++ B).take (x + A.length).toNat).drop (y + A.length).toNat = (B.take x.toNat).drop y.toNat:=by
 rw [show (x + (A.length:Int)).toNat = A.length + x.toNat from by omega,show (y + (A.length:Int)).toNat = A.length + y.toNat from by omega];rw [List.take_length_add_append,List.drop_length_add_append]
theorem cut_left (A B:List UInt8) (x y:Int) (hx:x <= A.length):((A ++ B).take x.toNat).drop y.toNat = (A.take x.toNat).drop y.toNat:=by
 rw [List.take_append_of_le_length (by omega)]
theorem pcs_part (s t:ByteArray) (hm:marks (s.data.toList ++ t.data.toList) = marks s.data.toList ++ marks t.data.toList)
  (hj:t.data.toList ≠ [] -> jn (stMs (marks s.data.toList)) (cls (mrk t.data.toList).1) = false):pcs (s ++ t) = pcs s ++ pcs t:=by
 have hd:(s ++ t).data.toList = s.data.toList ++ t.data.toList:=by rw [ByteArray.data_append,Array.toList_append]
 by_cases hb:t.data.toList = []
 ·have ht:s ++ t = s:=ba_ext (by rw [hd,hb,List.append_nil])
  have h0:pcs t = []:=by unfold pcs;rw [hb];rfl
  rw [ht,h0,List.append_nil]
 ·have hg:=begL_part _ _ hm hb (hj hb)
  have hst:stL1 (s ++ t).data.toList = begL s.data.toList ++ (stL1 t.data.toList).map (· + (s.data.toList.length:Int)):=by
   unfold stL1;rw [hd,hg,List.map_append,List.append_assoc];simp [Int.add_comm]
  have hz:=stL1_zero t.data.toList hb;have hlen:(stL1 t.data.toList).length = (begL t.data.toList).length + 1:=stL1_length _;apply List.ext_getElem?;intro i;have hl:(pcs (s ++ t)).length = (pcs s ++ pcs t).length:=by
   rw [List.length_append,pcs_length,pcs_length,pcs_length,hd,hg];simp
  by_cases hi:i < (pcs (s ++ t)).length
  ·have hi':i < (begL (s ++ t).data.toList).length:=by rw [<- pcs_length];exact hi
   have e1:(pcs (s ++ t))[i]? = some (pc (s ++ t) (stL1 (s ++ t).data.toList) i):=by
    unfold pcs;rw [List.getElem?_map,List.getElem?_range hi'];rfl
   rw [e1];have hgn:(begL (s ++ t).data.toList).length = (begL s.data.toList).length + (begL t.data.toList).length:=by rw [hd,hg];simp
   have hsl:s.size = s.data.toList.length:=(size_list s).symm;have key:∀ j,j < (stL1 t.data.toList).length -> ((begL s.data.toList ++ (stL1 t.data.toList).map (· + (s.data.toList.length:Int))).getD ((begL s.data.toList).length + j) 0) = (stL1 t.data.toList).getD j 0 + s.data.toList.length:=by
    intro j hj;rw [List.getD_eq_getElem?_getD,List.getElem?_append_right (by omega),Nat.add_sub_cancel_left,List.getElem?_map,List.getElem?_eq_getElem hj,List.getD_eq_getElem?_getD,List.getElem?_eq_getElem hj];rfl
   by_cases his:i < (begL s.data.toList).length
   ·have e2:(pcs s ++ pcs t)[i]? = some (pc s (stL1 s.data.toList) i):=by
     rw [List.getElem?_append_left (by rw [pcs_length];exact his)];unfold pcs;rw [List.getElem?_map,List.getElem?_range his];rfl
    rw [e2];congr 1
    apply ba_ext;rw [pc_list,pc_list,hst,hd];have f1:(begL s.data.toList ++ (stL1 t.data.toList).map (· + (s.data.toList.length:Int))).getD i 0 = (stL1 s.data.toList).getD i 0:=by
     unfold stL1;rw [List.getD_eq_getElem?_getD,List.getElem?_append_left his,List.getD_eq_getElem?_getD,List.getElem?_append_left his]
    have f2:(begL s.data.toList ++ (stL1 t.data.toList).map (· + (s.data.toList.length:Int))).getD (i + 1) 0 = (stL1 s.data.toList).getD (i + 1) 0:=by
     by_cases h1:i + 1 < (begL s.data.toList).length
     ·unfold stL1
      rw [List.getD_eq_getElem?_getD,List.getElem?_append_left h1,List.getD_eq_getElem?_getD,List.getElem?_append_left h1]
     ·have h2:i + 1 = (begL s.data.toList).length:=by omega
      have:=key 0 (by omega);rw [Nat.add_zero] at this;rw [h2,this,stL1_last,hz];omega
    rw [f1,f2];have b:=stL1_get s.data.toList (i + 1) (by rw [stL1_length];omega);exact cut_left _ _ _ _ b.2
   ·obtain ⟨j,rfl⟩:∃ j,i = (begL s.data.toList).length + j:=⟨i - (begL s.data.toList).length,by omega⟩
    have hjt:j < (begL t.data.toList).length:=by omega
    have e2:(pcs s ++ pcs t)[(begL s.data.toList).length + j]? = some (pc t (stL1 t.data.toList) j):=by
     rw [List.getElem?_append_right (by rw [pcs_length];omega),pcs_length,Nat.add_sub_cancel_left];unfold pcs;rw [List.getElem?_map,List.getElem?_range hjt];rfl
    rw [e2];congr 1
    apply ba_ext;have b1:=stL1_get t.data.toList j (by omega);have b2:=stL1_get t.data.toList (j + 1) (by omega);rw [pc_list,pc_list,hst,hd,key j (by omega),show (begL s.data.toList).length + j + 1 = (begL s.data.toList).length + (j + 1) from by omega,key (j + 1) (by omega)];exact cut_right _ _ _ _ b2.1 b1.1
  ·rw [List.getElem?_eq_none (by omega),List.getElem?_eq_none (by omega)]
end Gm
end Go.Proofs.YtdjhkbholijnmaaGreatDoor
