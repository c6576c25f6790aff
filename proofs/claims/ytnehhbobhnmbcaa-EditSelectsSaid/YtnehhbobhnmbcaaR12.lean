/- What package draft's small functions come to, by a walk through each: May, Same, Fits, areAtoms, cut, own, noughts at the end, noughts, outside, the separator's atom. A draft by value: .agg of a sign, a list, the separator, a list. (and more) -/
import Derived.Test.YtnehhbobhnmbcaaR07
import Derived.Test.YtnehhbobhnmbcaaR08
import Derived.Laws.ResultCell
import Derived.Deep.AppendLies
set_option linter.all false
set_option maxRecDepth 100000
set_option maxHeartbeats 8000000
namespace Go.Proofs.Ytnehhbobhnmbcaa
section
open Go.RowKit
theorem Lst.recap {w:World} {a:Option Addr} {n c:Nat} {zs:List Int} (h:Lst w (.slice a n c) zs) (d:Nat) (h0:0 < n) (hd:n <= d) (hm:d <= maxLen):Lst w (.slice a n d) zs:=by
 rcases h with ⟨rfl,_,_,hv,_⟩ | ⟨g,off,cap,hv,hg,h1,h2,hc⟩
 ·cases hv;omega
 ·cases hv
  exact .inr ⟨g,off,d,rfl,hg,hd,hm,hc⟩
namespace Tm
def same (a b:T):Bool:=a.g == b.g && a.s == b.s && decide (a.i = b.i) && decide (a.f = b.f)
theorem same_iff (a b:T):same a b = true ↔ a = b:=by
 cases a;cases b;simp only [same,Bool.and_eq_true,beq_iff_eq,decide_eq_true_eq,T.mk.injEq];constructor
 ·rintro ⟨⟨⟨h1,h2⟩,h3⟩,h4⟩;exact ⟨h1,h3,h2,h4⟩
 ·rintro ⟨h1,h2,h3,h4⟩;exact ⟨⟨⟨h1,h3⟩,h2⟩,h4⟩
end Tm
namespace Tp
theorem infoP:(Try.prog.info? 37).map (·.size) = some 4:=by kernel_rfl
theorem may_any (g s:Bool) (vi vf:Value) (I F:List Int) (w:World) (hi:Lst w vi I) (hf:Lst w vf F) (l1:I.length < 1000000) (l2:F.length < 1000000) :
  Calls Try.prog 52 #[.agg #[.bool g,vi,.bool s,vf]] w fun e w'=>e = .returned (.bool (Tm.may ⟨g,I,s,F⟩)) /\ Q w w':=by
 obtain ⟨a1,c1,rfl⟩:=hi.shape;obtain ⟨a2,c2,rfl⟩:=hf.shape;have H1:=Hd (fun u (q:Q w u)=>Dw.may_any _ I u (hi.q q) (by omega));have H2:=Hd (fun u (q:Q w u)=>Dw.may_any _ F u (hf.q q) (by omega));have HR:=Hd (show Tm.may ⟨g,I,s,F⟩ = (Dm.okB I && Dm.okB F && (s || decide (F.length = 0))) from by unfold Tm.may;dsimp only;cases F <;> simp)
 rw [HR.out];have HQ:=Hd (show Q w (w.alloc (.cells #[.bool g,.slice a1 I.length c1,.bool s,.slice a2 F.length c2] 37)) from (Q.refl w).alloc _);clear HR;generalize I.length = n1 at *;generalize F.length = n2 at *;generalize Dm.okB I = r1 at *;generalize Dm.okB F = r2 at *;clear hi hf l1;go_enter Try.func52,Try.ntmps52
 go_wp2_with fail
 refine (H1.out _ HQ.out).mono ?_;rintro e w1 ⟨rfl,rfl⟩;cases r1
 ·go_wp2_with fail
  go_ret
  exact ⟨rfl,HQ.out⟩
 ·go_wp2_with fail
  refine (H2.out _ HQ.out).mono ?_;rintro e w1 ⟨rfl,rfl⟩;cases r2
  ·go_wp2_with fail
   go_ret
   exact ⟨rfl,HQ.out⟩
  ·cases s
   ·by_cases h0:n2 = 0
    ·subst h0
     go_wp2_with fail
     go_ret
     exact ⟨rfl,HQ.out⟩
    ·have e0:((n2:Int) == 0) = false:=by rw [beq_eq_false_iff_ne];omega
     have HD:=Hd (decide_eq_false h0);go_wp2_with fail
     go_ret
     rw [HD.out];exact ⟨rfl,HQ.out⟩
   ·go_wp2_with fail
    go_ret
    exact ⟨rfl,HQ.out⟩
theorem fits_any (g s:Bool) (a1 a2:Option Addr) (n1 n2 c1 c2:Nat) (x y:Int) (w:World) :
  Calls Try.prog 33 #[.agg #[.bool g,.slice a1 n1 c1,.bool s,.slice a2 n2 c2],.int .i64 x,.int .i64 y] w fun e w'=>e = .returned (.bool (decide ((n1:Int) <= x) && decide ((n2:Int) <= y))) /\ Q w w':=by
 have HQ:=Hd (show Q w (w.alloc (.cells #[.bool g,.slice a1 n1 c1,.bool s,.slice a2 n2 c2] 37)) from (Q.refl w).alloc _);by_cases h1:(n1:Int) <= x
 ·by_cases h2:(n2:Int) <= y
  ·have HR:=Hd (show (decide ((n1:Int) <= x) && decide ((n2:Int) <= y)) = true from by rw [decide_eq_true h1,decide_eq_true h2];rfl)
   rw [HR.out];go_enter Try.func33,Try.ntmps33
   go_wp2_with fail
   go_ret
   exact ⟨rfl,HQ.out⟩
  ·have HR:=Hd (show (decide ((n1:Int) <= x) && decide ((n2:Int) <= y)) = false from by rw [decide_eq_false h2,Bool.and_false])
   rw [HR.out];go_enter Try.func33,Try.ntmps33
   go_wp2_with fail
   go_ret
   exact ⟨retB (by first | rfl | (simp;done) | (simp;omega)),HQ.out⟩
 ·have HR:=Hd (show (decide ((n1:Int) <= x) && decide ((n2:Int) <= y)) = false from by rw [decide_eq_false h1,Bool.false_and])
  rw [HR.out];go_enter Try.func33,Try.ntmps33
  go_wp2_with fail
  go_ret
  exact ⟨retB (by first | rfl | (simp;done) | (simp;omega)),HQ.out⟩
theorem areAtoms_any (v:Value) (xs:List Int) (w:World) (hv:Lst w v xs) (hl:xs.length < 1099511627776) :
  Calls Try.prog 71 #[v] w fun e w'=>e = .returned (.bool (Tm.okA xs)) /\ w = w':=by
 obtain ⟨a,c,rfl⟩:=hv.shape;obtain ⟨n,hn⟩:∃ n,n = xs.length:=⟨_,rfl⟩;obtain ⟨r,hr⟩:∃ r,r = Tm.okA xs:=⟨_,rfl⟩;rw [<- hr];have HB:=Hd (Tm.okA_bad xs);have HO:=Hd (Tm.okA_on xs);have HE:=Hd (Tm.okA_end xs);have HR:=Hd hr;rw [<- hn] at hv hl HB HO HE |-;have HV:=Hd (fun k h=>hv.cellOf (n:=n) (k:=k) hn.symm h);clear hv hn hr;go_enter Try.func71,Try.ntmps71
 go_wp2_with fail
 go_loop [7] (fun i=>∃ k:Nat,i = .int .i64 k /\ k <= n /\ Tm.okA (xs.drop k) = r) (fun i=>n - (intOf i).toNat)
 case atStart=>exact ⟨0,rfl,by omega,by rw [HR.out];rfl⟩
 case round =>
  obtain ⟨k,rfl,hk,hc⟩:=hrel;have HC:=Hd hc;clear hc;by_cases hlt:k < n
  ·obtain ⟨g,off,cap,hvv,hg,_,_,c1⟩:=HV.out k hlt
   cases hvv;have hb:=HB.out k hlt;have ho:=HO.out k hlt;obtain ⟨y,hy⟩:∃ y,y = xs.getD k 0:=⟨_,rfl⟩;rw [<- hy] at c1 hb ho;clear hy;by_cases hy0:y < 0
   ·have HF:Hid (r = false):=Hd (by rw [<- HC.out];exact hb (by omega))
    clear hb ho;go_wp2_with fail
    go_ret
    rw [HF.out];exact ⟨rfl,rfl⟩
   ·by_cases hy1:10 < y
    ·have HF:Hid (r = false):=Hd (by rw [<- HC.out];exact hb (by omega))
     clear hb ho;go_wp2_with fail
     go_ret
     rw [HF.out];exact ⟨rfl,rfl⟩
    ·have HN:=Hd ((ho (by omega)).symm.trans HC.out)
     have h3:¬ y > 10:=by omega
     have h4:y <= 10:=by omega
     have h5:0 <= y:=by omega
     clear hb ho;go_wp2_with fail
     exact ⟨⟨k + 1,by go_num,by omega,HN.out⟩,by simp [intOf];omega⟩
  ·have HF:Hid (r = true):=Hd (by rw [<- HC.out];exact HE.out k (by omega))
   go_wp2_with fail
   go_ret
   rw [HF.out];exact ⟨rfl,rfl⟩
theorem cut_any (v:Value) (xs:List Int) (i j:Nat) (w:World) (hv:Lst w v xs) (hij:i <= j) (hj:j <= xs.length) :
  Calls Try.prog 72 #[v,.int .i64 i,.int .i64 j] w fun e w'=>∃ a,e = .returned (.slice a (j - i) (j - i)) /\ Lst w (.slice a (j - i) (j - i)) ((xs.drop i).take (j - i)) /\ w = w':=by
 obtain ⟨n,hn⟩:∃ n,n = xs.length:=⟨_,rfl⟩;by_cases hlt:i = j
 ·subst hlt
  have HZ:=Hd (show (xs.drop i).take (i - i) = [] from by simp);obtain ⟨a,c,rfl,hc1,hc2⟩:=hv.form0 hn.symm;have hpc:(i:Int) <= (c:Int):=by omega
  unfold maxLen at hc2;rw [HZ.out,Nat.sub_self];clear hv hn HZ hj;go_enter Try.func72,Try.ntmps72
  cases a;all_goals
   go_wp2_with fail
   go_ret
   exact ⟨_,rfl,.nil _ _ _ (by unfold maxLen;omega) (fun _=>rfl),rfl⟩
 ·obtain ⟨g,off,cap,rfl,hg,hcp,hcm,_⟩:=hv.cellOf hn.symm (k:=i) (by omega)
  have hd:=hv.drop hn.symm (k:=i) (by omega);have ht:=hd.take (j - i) (by rw [List.length_drop];omega);have hr:=ht.recap (j - i) (by omega) (Nat.le_refl _) (by omega);have HR:=Hd hr;have hpc:(j:Int) <= (cap:Int):=by omega
  have hpi:(i:Int) <= (j:Int):=by omega
  have hne:¬ (j = i):=by omega
  have hne2:¬ (j - i = 0):=by omega
  unfold maxLen at hcm;clear hv hd ht hr hj hn;go_enter Try.func72,Try.ntmps72
  go_wp2_with fail
  go_ret
  exact ⟨_,rfl,HR.out,rfl⟩
theorem own_any (v:Value) (xs:List Int) (w:World) (hv:Lst w v xs) (hl:xs.length < 1000000) :
  Calls Try.prog 76 #[v] w fun e w'=>∃ u,e = .returned u /\ Own w' w.heap.size u xs /\ Q w w':=by
 obtain ⟨n,hn⟩:∃ n,n = xs.length:=⟨_,rfl⟩;obtain ⟨a,c,rfl,_,_⟩:=hv.form0 hn.symm;have HV:=Hd hv;have hol:=Own.nil w w.heap.size;have HW:=Hd (show ([]:List Int).length + xs.length < 1099511627776 from by show 0 + _ < _;omega);clear hv hl hn;go_enter Try.func76,Try.ntmps76
 go_wp2_with (at_builtin;refine push_list hol HV.out rfl _ _ rfl (by rfl) (by rfl) HW.out (Nat.le_refl _) ?_)
 intro u w2 hu hg2 hat2;have HU:=Hd hu;have HQ:=Hd ((Q.refl w).grown hg2 (fun k h=>by cases h));clear hu hg2 hat2;go_wp2_with fail
 go_ret
 exact ⟨_,rfl,HU.out,HQ.out⟩
theorem separator_any (g s:Bool) (a1 a2:Option Addr) (n1 n2 c1 c2:Nat) (w:World) :
  Calls Try.prog 53 #[.agg #[.bool g,.slice a1 n1 c1,.bool s,.slice a2 n2 c2]] w fun e w'=>∃ a c,e = .returned (.slice a (Tm.sep s).length c) /\ Lst w' (.slice a (Tm.sep s).length c) (Tm.sep s) /\ Q w w':=by
 have HQ:=Hd (show Q w (w.alloc (.cells #[.bool g,.slice a1 n1 c1,.bool s,.slice a2 n2 c2] 37)) from (Q.refl w).alloc _);cases s
 ·go_enter Try.func53,Try.ntmps53
  go_wp2_with fail
  go_ret
  exact ⟨none,0,rfl,Lst.nil _ none 0 (by unfold maxLen;omega) (fun _=>rfl),HQ.out⟩
 ·have hl:=Lst.made (w.alloc (.cells #[.bool g,.slice a1 n1 c1,.bool true,.slice a2 n2 c2] 37)) [10] 1 rfl (by unfold maxLen;omega)
  rw [World.size_alloc] at hl;have HL:=Hd hl;clear hl;go_enter Try.func53,Try.ntmps53
  go_wp2_with fail
  go_ret
  exact ⟨_,_,rfl,HL.out,HQ.out.alloc _⟩
end Tp
end
section
open Go.RowKit
namespace Dm
def BD (c:Int) (i:Nat) (zs:List Int):Prop:=∀ j,j < zs.length -> 0 <= zs.getD j 0 /\ zs.getD j 0 <= c + (if j < i then 9 else 0)
theorem BD.step {c:Int} {i:Nat} {zs:List Int} (h:BD c i zs) (d:Int) (hd:0 <= d /\ d <= 9) (hi:i < zs.length):BD c (i + 1) (zs.set i (zs.getD i 0 + d)):=by
 intro j hj;rw [List.length_set] at hj;rw [getD_set _ _ _ _ hi];have h1:=h j hj;have h2:=h i hi;by_cases hij:i = j
 ·subst hij
  rw [if_pos rfl,if_pos (by omega)];rw [if_neg (by omega)] at h2;omega
 ·rw [if_neg hij]
  by_cases hlt:j < i
  ·rw [if_pos hlt] at h1
   rw [if_pos (by omega)];exact h1
  ·rw [if_neg hlt] at h1
   rw [if_neg (by omega)];exact h1
theorem BD.next {c:Int} {i:Nat} {zs:List Int} (h:BD c i zs):BD (c + 9) 0 zs:=by
 intro j hj;have h1:=h j hj;rw [if_neg (by omega)];by_cases hlt:j < i
 ·rw [if_pos hlt] at h1;omega
 ·rw [if_neg hlt] at h1;omega
theorem BD.zeros (n:Nat):BD 0 0 (List.replicate n 0):=by
 intro j hj;rw [List.getD_eq_getElem?_getD,List.getElem?_replicate];rw [List.length_replicate] at hj;rw [if_pos hj];simp
theorem BD.mem {c:Int} {zs:List Int} (h:BD c 0 zs) (hc:c <= 100000):∀ x ∈ zs,-100000 <= x /\ x <= 100000:=by
 intro x hx;obtain ⟨j,hj,rfl⟩:=List.mem_iff_getElem.1 hx;have h1:=h j hj;rw [List.getD_eq_getElem?_getD,List.getElem?_eq_getElem hj,if_neg (by omega)] at h1;simp at h1;omega
end Dm
namespace Dw
def sumN (ls:List Sl):Nat:=(ls.map fun s=>Dm.num s.zs).sum
theorem sumN_take (ls:List Sl) (k:Nat) (s:Sl) (h:ls[k]? = some s):sumN (ls.take (k + 1)) = sumN (ls.take k) + Dm.num s.zs:=by
 have hk:=(List.getElem?_eq_some_iff.1 h).1;rw [List.getElem?_eq_getElem hk] at h;unfold sumN;rw [List.take_succ_eq_append_getElem hk,Option.some.inj h,List.map_append,List.sum_append];simp
end Dw
end
end Go.Proofs.Ytnehhbobhnmbcaa
