/- What the library's Grow, Concat, Index, Contains and Equal come to at lists of numbers, by a walk through each. (and more) -/
import Derived.Test.YtnehhbobhnmbcaaR05
import Derived.Lib.AppendZerosOnto
set_option linter.all false
set_option maxRecDepth 100000
set_option maxHeartbeats 8000000
namespace Go.Proofs.Ytnehhbobhnmbcaa
section
open Go.RowKit
namespace Tm
def cat (ls:List Sl):List Int:=(ls.map Sl.zs).flatten
theorem cat_take (ls:List Sl) (k:Nat) (s:Sl) (h:ls[k]? = some s):cat (ls.take (k + 1)) = cat (ls.take k) ++ s.zs:=by
 have hk:=(List.getElem?_eq_some_iff.1 h).1;rw [List.getElem?_eq_getElem hk] at h;unfold cat;rw [List.take_succ_eq_append_getElem hk,Option.some.inj h,List.map_append,List.flatten_append];simp
theorem cat_len (ls:List Sl) (k:Nat) (h:∀ s ∈ ls,s.zs.length <= 1000000):(cat (ls.take k)).length <= k * 1000000:=by
 induction k with
 | zero=>simp [cat]
 | succ k ih =>
  rcases Nat.lt_or_ge k ls.length with hk | hk
  ·rw [cat_take ls k _ (List.getElem?_eq_getElem hk),List.length_append]
   have:=h _ (List.getElem_mem hk);omega
  ·have e:ls.take (k + 1) = ls.take k:=(List.take_of_length_le (Nat.le_succ_of_le hk)).trans (List.take_of_length_le hk).symm
   rw [e];exact Nat.le_trans ih (Nat.mul_le_mul_right _ (Nat.le_succ k))
theorem cat_nil (ls:List Sl):cat (ls.take 0) = []:=rfl
def ix (l:List Int):Int:=if has l = true then ((ahd l).length:Int) else -1
theorem ix_some {l:List Int} {k:Nat} (h:k <= (ahd l).length) (hk:k < l.length) (hx:l.getD k 0 = 10):ix l = k:=by
 have e:=ix_hit l k h hk hx;unfold ix;rw [has_lt,e,decide_eq_true hk,if_pos rfl]
theorem ix_none {l:List Int} (h:l.length <= (ahd l).length):ix l = -1:=by
 unfold ix;rw [has_lt,decide_eq_false (by omega)];rfl
theorem ix_has (l:List Int):decide (0 <= ix l) = has l:=by
 unfold ix;cases h:has l with
 | true=>rw [if_pos rfl];simp
 | false=>rfl
theorem ix_bd (l:List Int):-1 <= ix l /\ ix l <= l.length:=by
 unfold ix;have:=ahd_le l;split <;> omega
end Tm
namespace Ts
theorem grow_nil (n:Nat) (w:World) (hn:n < 1099511627776) :
  Calls Try.prog 74 #[.slice none 0 0,.int .i64 n] w fun e w'=>∃ u,e = .returned u /\ Own w' w.heap.size u [] /\ Q w w':=by
 by_cases h0:n = 0
 ·subst h0
  go_enter Try.func74,Try.ntmps74
  go_wp2_with fail
  go_ret
  exact ⟨_,rfl,Own.nil _ _,Q.refl _⟩
 ·obtain ⟨i0,hi,hz0,hz1,hz2⟩:=info_parts infoInt
  have hrz:=fun ty=>Lib.run_append_grow_zeros w 22 3 ty 3 i0 (.int .i64 0) .i64 .i64 Try.underlying22 Try.underlying3 hi hz0 none 0 0 [] (run_firstCells_none w.drew i0.size 0 0 0) n (by omega) (by rw [hz1];omega) (by omega) (by omega) (by rw [hz2];omega) (by rw [hz2];exact growslice_fits (by omega) (by omega));have hG:=grownCap_le_maxLen w (0 + n) 0 3 (by unfold maxLen;omega);have hGn:=grownCap_ge w (0 + n) 0 3;rw [Nat.zero_add] at hrz hG hGn;obtain ⟨G,hGe⟩:∃ G,G = grownCap w n 0 3:=⟨_,rfl⟩;rw [<- hGe] at hrz hG hGn;obtain ⟨cs,hcs⟩:∃ cs,cs = ((([]:List Value).toArray ++ Builtin.zeroCells (Value.cells (.int .i64 0)) n) ++ Builtin.zeroCells (Value.cells (.int .i64 0)) (G - n)):=⟨_,rfl⟩;have hsz:cs.size = G * 1:=by
   rw [hcs,Array.size_append,Array.size_append,size_zeroCells,size_zeroCells];simp [Value.cells];omega
  rw [<- hcs] at hrz;have HO:=Hd (show Own (w.drew.alloc (.cells cs 3)) w.heap.size (.slice (some ⟨w.heap.size,0,none⟩) 0 G) [] from World.ownsRow_made (w:=w.drew) (e:=3) (size:=1) cs G (Nat.le_refl _) hG hsz);unfold maxLen at hG;clear hGe hcs hsz hi hz0 hz1 hz2;have hn1:¬ ((n:Int) < 0):=by omega
  have hn2:(n:Int) > 0:=by omega
  go_enter Try.func74,Try.ntmps74
  go_wp2_with (at_builtin;refine Lib.wpList_append_run _ rfl _ _ _ _ rfl _ _ rfl rfl _ _ (hrz _) ?_)
  go_ret
  exact ⟨_,rfl,HO.out,((Q.refl w).drew).alloc _⟩
theorem concat_any (v:Value) (ls:List Sl) (w:World) (hv:LL w v ls) (hl:ls.length <= 1000) (hls:∀ s ∈ ls,s.n <= 1000000) :
  Calls Try.prog 70 #[v] w fun e w'=>∃ u,e = .returned u /\ Own w' w.heap.size u (Tm.cat ls) /\ Q w w':=by
 obtain ⟨N,hN⟩:∃ N,N = ls.length:=⟨_,rfl⟩;obtain ⟨a,c,rfl,hnc,hcm⟩:=hv.1.form0 hN.symm;have HL:=Hd (show ∀ k,k < N -> ∃ (sa:Option Addr) (sn sc:Nat) (zs:List Int),ls[k]? = some ⟨sa,sn,sc,zs⟩ /\ Lst w (.slice sa sn sc) zs /\ zs.length = sn /\ sn <= 1000000 from fun k hk=>by
  have hm:ls[k]'(by omega) ∈ ls:=List.getElem_mem _;have h1:=hv.2 _ hm;have h2:=hls _ hm;exact ⟨_,_,_,_,List.getElem?_eq_getElem (by omega),h1.1,h1.2,h2⟩)
 have hv1:=hv.1;have HV:=Hd (fun u (q:Q w u) k s (h:ls[k]? = some s)=>(hv1.q q).cellOf (n:=N) hN.symm h);have HC:=Hd (Tm.cat_take ls);have HCL:=Hd (fun k=>Tm.cat_len ls k (fun s hs=>by have h1:=(hv.2 s hs).2;have h2:=hls s hs;omega));have HCE:=Hd (show Tm.cat (ls.take N) = Tm.cat ls from by rw [hN,List.take_length]);have HG:=Hd grow_nil;rw [<- hN] at hl;unfold maxLen at hcm;clear hv hv1 hls hN;go_enter Try.func70,Try.ntmps70
 go_wp2_with fail
 go_loop [3,11] (fun u t=>∃ k m:Nat,u = .int .i64 m /\ t = .int .i64 k /\ k <= N /\ m = (Tm.cat (ls.take k)).length) (fun _ t=>N - (intOf t).toNat)
 case atStart=>exact ⟨0,0,rfl,rfl,by omega,rfl⟩
 case round =>
  obtain ⟨k,m,rfl,rfl,hk,hm⟩:=hrel;have hmb:=HCL.out k;rw [<- hm] at hmb;by_cases hlt:k < N
  ·obtain ⟨sa,sn,sc,zs,hs,_,hzn,hsn⟩:=HL.out k hlt
   obtain ⟨g,off,cap,hvv,hg,_,_,c1⟩:=HV.out w (Q.refl w) k _ hs;cases hvv;replace c1:w.cell? ⟨g,off + k,none⟩ = some (.slice sa sn sc):=c1;have HN:=Hd (show m + sn = (Tm.cat (ls.take (k + 1))).length from by rw [HC.out k _ hs,List.length_append,hm,hzn]);have hms:m + sn <= 2000000000:=by have:k * 1000000 <= 1000 * 1000000:=Nat.mul_le_mul_right _ (by omega);omega
   have hno:¬ ((m:Int) + (sn:Int) < 0):=by omega
   clear hs hm hmb hzn;go_wp2_with fail
   exact ⟨⟨k + 1,m + sn,by go_num,by go_num,by omega,HN.out⟩,by simp [intOf];omega⟩
  ·obtain rfl:k = N:=by omega
   have HM:=Hd hm;have hmb2:m < 1099511627776:=by have:k * 1000000 <= 1000 * 1000000:=Nat.mul_le_mul_right _ (by omega);omega
   clear hm hmb;go_wp2_with fail
   refine (HG.out m w hmb2).mono ?_;rintro e w1 ⟨u1,rfl,ho1,hq1⟩;have HO1:=Hd ho1;have HQ1:=Hd hq1;clear ho1 hq1;go_wp2_with fail
   go_loopw [6,27] (fun u t wr=>∃ j:Nat,t = .int .i64 j /\ j <= k /\ Own wr w.heap.size u (Tm.cat (ls.take j)) /\ Q w wr) (fun _ t _=>k - (intOf t).toNat)
   case atStart=>exact ⟨0,rfl,by omega,HO1.out,HQ1.out⟩
   case round =>
    obtain ⟨j,rfl,hj,ho,hq⟩:=hrel;by_cases hlt2:j < k
    ·obtain ⟨sa,sn,sc,zs,hs,hz,hzn,hsn⟩:=HL.out j hlt2
     obtain ⟨g,off,cap,hvv,hg,_,_,c1⟩:=HV.out wr hq j _ hs;cases hvv;replace c1:wr.cell? ⟨g,off + j,none⟩ = some (.slice sa sn sc):=c1;have HZ:=Hd (hz.q hq);have HCJ:=Hd (HC.out j _ hs);have HW:=Hd (show (Tm.cat (ls.take j)).length + zs.length < 1099511627776 from by
      have h1:=HCL.out j;have:j * 1000000 <= 1000 * 1000000:=Nat.mul_le_mul_right _ (by omega);omega)
     have hB:w.heap.size <= wr.heap.size:=hq.le;clear hs hz hzn;go_wp2_with (at_builtin;refine push_list ho HZ.out rfl _ _ rfl (by rfl) (by rfl) HW.out hB ?_)
     intro v2 w2 ho2 hg2 hat2;rw [<- HCJ.out] at ho2;have HO2:=Hd ho2;have HQ2:=Hd (hq.grown hg2 (fun g h=>(ho.lt g h).1));clear ho ho2 hg2 hat2;go_wp2_with fail
     exact ⟨⟨j + 1,by go_num,by omega,HO2.out,HQ2.out⟩,by simp [intOf];omega⟩
    ·obtain rfl:j = k:=by omega
     rw [HCE.out] at ho;have HO:=Hd ho;have HQ:=Hd hq;clear ho hq;go_wp2_with fail
     go_ret
     exact ⟨_,rfl,HO.out,HQ.out⟩
theorem index_any (v:Value) (xs:List Int) (w:World) (hv:Lst w v xs) (hl:xs.length < 1099511627776) :
  Calls Try.prog 75 #[v,.int .i64 10] w fun e w'=>e = .returned (.int .i64 (Tm.ix xs)) /\ w = w':=by
 obtain ⟨n,hn⟩:∃ n,n = xs.length:=⟨_,rfl⟩;obtain ⟨a,c,rfl,hnc,hcm⟩:=hv.form0 hn.symm;have HV:=Hd (fun k (hk:k < n)=>hv.cellOf (n:=n) (k:=k) hn.symm hk);have HS:=Hd (fun k h hk=>Tm.ix_step xs k h (by rw [<- hn];exact hk));have HH:=Hd (fun k h hk=>Tm.ix_some (l:=xs) (k:=k) h (by rw [<- hn];exact hk));have HE:=Hd (fun h=>Tm.ix_none (l:=xs) (by rw [<- hn];exact h));generalize Tm.ix xs = r at *;generalize (Tm.ahd xs).length = z at *;rw [<- hn] at hl;clear hv hn;unfold maxLen at hcm;go_enter Try.func75,Try.ntmps75
 go_wp2_with fail
 go_loop [8] (fun i=>∃ k:Nat,i = .int .i64 k /\ k <= n /\ k <= z) (fun i=>n - (intOf i).toNat)
 case atStart=>exact ⟨0,rfl,by omega,by omega⟩
 case round =>
  obtain ⟨k,rfl,hk,hkz⟩:=hrel;by_cases hlt:k < n
  ·obtain ⟨g,off,cap,hvv,hg,_,_,c1⟩:=HV.out k hlt
   cases hvv;have hs:=HS.out k hkz hlt;have hh:=HH.out k hkz hlt;obtain ⟨y,hy⟩:∃ y,y = xs.getD k 0:=⟨_,rfl⟩;rw [<- hy] at c1 hs hh;clear hy;by_cases hy0:y = 10
   ·have hr:=Hd (hh hy0)
    have e1:((10:Int) == y) = true:=by rw [hy0];rfl
    clear hs hh hy0;go_wp2_with fail
    go_ret
    rw [hr.out];exact ⟨rfl,rfl⟩
   ·have h1:=hs hy0
    have e1:((10:Int) == y) = false:=beq_eq_false_iff_ne.2 (fun e=>hy0 e.symm);clear hs hh hy0;go_wp2_with fail
    exact ⟨⟨k + 1,by go_num,by omega,h1⟩,by simp [intOf];omega⟩
  ·have hr:=Hd (HE.out (by omega))
   go_wp2_with fail
   go_ret
   rw [hr.out];exact ⟨rfl,rfl⟩
theorem contains_any (v:Value) (xs:List Int) (w:World) (hv:Lst w v xs) (hl:xs.length < 1099511627776) :
  Calls Try.prog 77 #[v,.int .i64 10] w fun e w'=>e = .returned (.bool (Tm.has xs)) /\ w = w':=by
 have HI:=Hd (index_any v xs w hv hl);have HB:=Hd (Tm.ix_has xs);obtain ⟨a,c,rfl⟩:=hv.shape;generalize Tm.ix xs = r at *;generalize xs.length = n at *;clear hv hl;go_enter Try.func77,Try.ntmps77
 go_wp2_with fail
 refine HI.out.mono ?_;rintro e w1 ⟨rfl,rfl⟩;by_cases h:0 <= r
 ·have hb:=HB.out
  rw [decide_eq_true h] at hb;have HB2:=Hd hb;clear hb;go_wp2_with fail
  go_ret
  rw [<- HB2.out];exact ⟨by first | rfl | (simp;done) | (simp;omega),rfl⟩
 ·have hb:=HB.out
  rw [decide_eq_false h] at hb;have HB2:=Hd hb;clear hb;go_wp2_with fail
  go_ret
  rw [<- HB2.out];exact ⟨by first | rfl | (simp;done) | (simp;omega),rfl⟩
end Ts
end
section
open Go.RowKit
namespace Dm
def txtL (xs:List Int):List Int:=xs.map fun d=>48 + d
def txtB (xs:List Int):ByteArray:=strOfNums (txtL xs)
def okS (s:ByteArray):Bool:=s.data.toList.all fun b=>decide (48 <= b.toNat /\ b.toNat <= 57)
def dgs (s:ByteArray):List Int:=s.data.toList.map fun b=>(b.toNat:Int) - 48
theorem dgs_len (s:ByteArray):(dgs s).length = s.size:=by unfold dgs;rw [List.length_map,Array.length_toList];rfl
theorem byte_of (d:Int) (h:0 <= d /\ d <= 9):(UInt8.ofNat (48 + d).toNat).toNat = (48 + d).toNat:=by
 rw [UInt8.toNat_ofNat'];omega
theorem okS_txt (xs:List Int) (h:okD xs):okS (txtB xs) = true:=by
 unfold okS txtB;rw [strOfNums_data,List.all_eq_true];intro b hb;obtain ⟨n,hn,rfl⟩:=List.mem_map.1 hb;obtain ⟨d,hd,rfl⟩:=List.mem_map.1 hn;have h1:=h d hd;rw [byte_of d h1];exact decide_eq_true (by omega)
theorem dgs_txt (xs:List Int) (h:okD xs):dgs (txtB xs) = xs:=by
 unfold dgs txtB txtL;rw [strOfNums_data,List.map_map,List.map_map];conv=>rhs;rw [<- List.map_id xs]
 apply List.map_congr_left;intro d hd;have h1:=h d hd;show (((UInt8.ofNat (48 + d).toNat).toNat:Nat):Int) - 48 = d;rw [byte_of d h1];omega
theorem txt_dgs (s:ByteArray) (h:okS s = true):txtB (dgs s) = s:=by
 have e:(txtB (dgs s)).data.toList = s.data.toList:=by
  unfold dgs txtB txtL;rw [strOfNums_data,List.map_map,List.map_map];conv=>rhs;rw [<- List.map_id s.data.toList]
  apply List.map_congr_left;intro b hb;have h1:=of_decide_eq_true (List.all_eq_true.1 h b hb);show UInt8.ofNat (48 + ((b.toNat:Int) - 48)).toNat = b;rw [show (48 + ((b.toNat:Int) - 48)).toNat = b.toNat from by omega];exact UInt8.ofNat_toNat
 have e2:=Array.toList_inj.1 e;generalize txtB (dgs s) = t at *;cases t;cases s;simp only at e2;rw [e2]
theorem txt_size (xs:List Int):(txtB xs).size = xs.length:=by unfold txtB txtL;rw [strOfNums_size,List.length_map]
theorem okD_dgs (s:ByteArray) (h:okS s = true):okD (dgs s):=by
 intro d hd;obtain ⟨b,hb,rfl⟩:=List.mem_map.1 hd;have h1:=of_decide_eq_true (List.all_eq_true.1 h b hb);omega
theorem txtL_snoc (xs:List Int) (k:Nat) (hk:k < xs.length):txtL (xs.take (k + 1)) = txtL (xs.take k) ++ [48 + xs.getD k 0]:=by
 unfold txtL;rw [List.take_succ_eq_append_getElem hk,List.map_append,List.getD_eq_getElem?_getD,List.getElem?_eq_getElem hk];rfl
theorem txtL_len (xs:List Int) (k:Nat) (hk:k <= xs.length):(txtL (xs.take k)).length = k:=by
 unfold txtL;rw [List.length_map,List.length_take];omega
def okF (s:ByteArray) (k:Nat):Bool:=(s.data.toList.drop k).all fun b=>decide (48 <= b.toNat /\ b.toNat <= 57)
theorem okF_zero (s:ByteArray):okF s 0 = okS s:=rfl
theorem at_list (s:ByteArray) (k:Nat) (h:k < s.size):s.data.toList.drop k = s[k]'h :: s.data.toList.drop (k + 1):=by
 rw [List.drop_eq_getElem_cons (show k < s.data.toList.length from by rw [Array.length_toList];exact h)];rw [Array.getElem_toList];rfl
theorem okS_bad (s:ByteArray) (k:Nat) (h:k < s.size) (hb:¬ (48 <= (s[k]'h).toNat /\ (s[k]'h).toNat <= 57)):okF s k = false:=by
 unfold okF;rw [at_list s k h,List.all_cons,decide_eq_false hb];rfl
theorem okS_on (s:ByteArray) (k:Nat) (h:k < s.size) (hb:48 <= (s[k]'h).toNat /\ (s[k]'h).toNat <= 57):okF s k = okF s (k + 1):=by
 unfold okF;rw [at_list s k h,List.all_cons,decide_eq_true hb];rfl
theorem okS_end (s:ByteArray) (k:Nat) (h:s.size <= k):okF s k = true:=by
 unfold okF;rw [List.drop_eq_nil_of_le (by rw [Array.length_toList];exact h)];rfl
theorem dgs_step (s:ByteArray) (k:Nat) (h:k < s.size):(dgs s).take (k + 1) = (dgs s).take k ++ [((s[k]'h).toNat:Int) - 48]:=by
 have hl:k < (dgs s).length:=by rw [dgs_len];exact h
 rw [List.take_succ_eq_append_getElem hl];have e:(dgs s)[k]'hl = ((s.data.toList[k]'(by rw [Array.length_toList];exact h)).toNat:Int) - 48:=List.getElem_map _;rw [e,Array.getElem_toList];rfl
end Dm
namespace Dw
theorem u8i (a:UInt8):0 <= (a.toNat:Int) /\ (a.toNat:Int) <= 255:=by have:=a.toNat_lt;omega
theorem text_bad (va:Value) (xs:List Int) (w:World) (hv:Lst w va xs) (hl:xs.length < 1099511627776) (hb:Dm.okB xs = false) :
  Calls Try.prog 56 #[va] w fun e w'=>e = .returned (.string ⟨#[]⟩) /\ w = w':=by
 have h:=may_any va xs w hv hl;rw [hb] at h;have H:=Hd h;clear h hb hv;go_enter Try.func56,Try.ntmps56
 go_wp2_with fail
 refine H.out.mono ?_;rintro e w1 ⟨rfl,rfl⟩;go_wp2_with fail
 go_ret
 exact ⟨rfl,rfl⟩
theorem text_any (va:Value) (xs:List Int) (w:World) (hv:Lst w va xs) (hl:xs.length < 1000000) (hx:Dm.okD xs) :
  Calls Try.prog 56 #[va] w fun e w'=>e = .returned (.string (Dm.txtB xs)) /\ Q w w':=by
 have h:=may_any va xs w hv (by omega);rw [(Dm.okB_iff xs).2 hx] at h;have H:=Hd h;obtain ⟨n,hn⟩:∃ n,n = xs.length:=⟨_,rfl⟩;obtain ⟨a,c,rfl,hnc,hcm⟩:=hv.form0 hn.symm;have HV:=Hd (fun k (hk:k < n)=>hv.cellOf (n:=n) (k:=k) hn.symm hk);have HSN:=Hd (fun k (hk:k < n)=>Dm.txtL_snoc xs k (by omega));have HTL:=Hd (fun k (hk:k <= n)=>Dm.txtL_len xs k (by omega));have HTA:=Hd (show Dm.txtB xs = strOfNums (Dm.txtL (xs.take n)) from by rw [hn,List.take_length];rfl);have HD:=Hd (fun k (hk:k < n)=>(by rw [List.getD_eq_getElem?_getD,List.getElem?_eq_getElem (by omega)];exact hx _ (List.getElem_mem _):0 <= xs.getD k 0 /\ xs.getD k 0 <= 9));rw [<- hn] at hl;unfold maxLen at hcm;clear h hv hn hx;go_enter Try.func56,Try.ntmps56
 go_wp2_with fail
 refine H.out.mono ?_;rintro e w1 ⟨rfl,rfl⟩;go_wp2_with (at_make;refine make_bytes rfl _ _ rfl n _ (by rfl) (by rfl) rfl (by omega) (Nat.le_refl _) ?_)
 intro w2 ho2 hq2;have HO2:=Hd ho2;have HQ2:=Hd hq2;obtain ⟨g,hg⟩:∃ g,g = w.heap.size:=⟨_,rfl⟩;have hgB:w.heap.size <= g:=by omega
 rw [<- hg] at HO2 |-;clear ho2 hq2 hg;go_wp2_with fail
 go_loopw [13] (fun t wr=>∃ k:Nat,t = .int .i64 k /\ k <= n /\ BOwn wr g (.slice (some ⟨g,0,none⟩) n n) (Dm.txtL (xs.take k) ++ List.replicate (n - k) 0) /\ Q w wr) (fun t _=>n - (intOf t).toNat)
 case atStart=>exact ⟨0,rfl,by omega,HO2.out,HQ2.out⟩
 case round =>
  obtain ⟨k,rfl,hk,ho,hq⟩:=hrel;have HO:=Hd ho;clear ho;have hlen:(Dm.txtL (xs.take k) ++ List.replicate (n - k) 0).length = n:=by rw [List.length_append,HTL.out k hk,List.length_replicate];omega
  by_cases hlt:k < n
  ·obtain ⟨go,off,cap,hvv,hgo,_,_,c0⟩:=HV.out k hlt
   cases hvv;have c1:=(World.cell?_of_block (w:=w) (hq.block hgo) (a:=⟨go,off + k,none⟩)).trans c0;have c2:=GOwn.cellAt HO.out hlen (k:=k) (x:=0) (by rw [List.getElem?_append_right (by rw [HTL.out k hk];omega),HTL.out k hk,List.getElem?_replicate,if_pos (by omega)]);have f2:=GOwn.freeAt HO.out hlen k;have hd:=HD.out k hlt;have hsn:=HSN.out k hlt;have hos:=fun e=>GOwn.stored HO.out hlen k e;generalize xs.getD k 0 = d at *;have hos2:=hos (48 + d);rw [Dm.set_zeros _ n k _ (HTL.out k hk) hlt,<- hsn] at hos2;have HOS:=Hd hos2;have HQS:=Hd (fun u=>hq.setCell (ad:=⟨g,k,none⟩) hgB u);obtain ⟨hd1,hd2⟩:=hd;clear hos hos2 hsn hlen c0 hq;go_wp2_with fail
   exact ⟨⟨k + 1,by go_num,by omega,HOS.out,HQS.out _⟩,by simp [intOf];omega⟩
  ·have hkn:k = n:=by omega
   have ho:=HO.out;rw [hkn,Nat.sub_self,List.replicate_zero,List.append_nil] at ho;have hcv:=conv_own ho (HTL.out n (Nat.le_refl _));rw [<- HTA.out] at hcv;have HQ:=Hd hq;clear ho hkn hlen hq;go_wp2_with fail
   go_ret
   exact ⟨rfl,HQ.out⟩
end Dw
end
end Go.Proofs.Ytnehhbobhnmbcaa
