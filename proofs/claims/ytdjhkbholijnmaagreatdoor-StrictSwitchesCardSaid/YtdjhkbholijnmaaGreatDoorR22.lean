/- The document's own answers on patterns: Same. (and more) -/
import Derived.Test.YtdjhkbholijnmaaGreatDoorR13
import Derived.Test.YtdjhkbholijnmaaGreatDoorR12
import Derived.Test.YtdjhkbholijnmaaGreatDoorR20
set_option linter.all false
set_option maxRecDepth 100000
set_option maxHeartbeats 8000000
namespace Go.Proofs.YtdjhkbholijnmaaGreatDoor
section
open Go.RowKit
namespace Pr
open Pt Um
def PV (w:World) (v:Value) (X:Pat):Prop:=∃ a b c d,v = pv a b c d X.pr X.se X.mi X.mf X.xf /\ Pc.LstP w a X.pre /\ Pc.LstP w b X.suf /\ Pc.LstP w c X.npre /\ Pc.LstP w d X.nsuf
theorem PV.q {w w':World} {v:Value} {X:Pat} (h:PV w v X) (hq:Q w w'):PV w' v X:=by
 obtain ⟨a,b,c,d,h,h1,h2,h3,h4⟩:=h;exact ⟨a,b,c,d,h,h1.q hq,h2.q hq,h3.q hq,h4.q hq⟩
def PS (X:Pat):Prop:=X.pre.length < 1099511627776 /\ X.suf.length < 1099511627776 /\ X.npre.length < 1099511627776 /\ X.nsuf.length < 1099511627776
end Pr
end
section
open Go.RowKit
namespace Pr
open Pt Um
open Pt Um
def resF (a b c:ByteArray) (p:Pc.E):List UInt8:=if 0 < p.1 /\ p.1 < 4 then (if p.1 = 1 then a.data.toList else if p.1 = 2 then b.data.toList else c.data.toList) else p.2
def resL (a b c:ByteArray) (l:List Pc.E):List UInt8:=l.flatMap (resF a b c)
theorem resL_step (a b c:ByteArray) (l:List Pc.E) (k:Nat) (hk:k < l.length):resL a b c (l.take (k + 1)) = resL a b c (l.take k) ++ resF a b c (l.getD k (0,[])):=by
 unfold resL;rw [List.take_succ_eq_append_getElem hk,List.flatMap_append,List.flatMap_cons,List.flatMap_nil,List.append_nil,List.getD_eq_getElem?_getD,List.getElem?_eq_getElem hk];rfl
theorem resL_le (a b c:ByteArray) (l:List Pc.E) (k:Nat):(resL a b c (l.take k)).length <= (resL a b c l).length:=by
 have h:resL a b c l = resL a b c (l.take k) ++ resL a b c (l.drop k):=by
  unfold resL;rw [<- List.flatMap_append,List.take_append_drop]
 rw [h,List.length_append];omega
theorem txt_cell (w:World) (a b c:ByteArray) (z:ByteArray):let w':=w.alloc (.cells #[.string z,.string a,.string b,.string c] 9);w'.cell? ⟨w.heap.size,1,none⟩ = some (.string a) /\ w'.cell? ⟨w.heap.size,2,none⟩ = some (.string b) /\ w'.cell? ⟨w.heap.size,3,none⟩ = some (.string c):=by
 have hb:(w.alloc (.cells #[.string z,.string a,.string b,.string c] 9)).heap[w.heap.size]? = some (.cells #[.string z,.string a,.string b,.string c] 9):=heap_alloc_new _ _;simp only [World.cell?,hb];exact ⟨rfl,rfl,rfl⟩
theorem resolve_any (v:Value) (l:List Pc.E) (a b c:ByteArray) (w:World) (hv:Pc.LstP w v l) (hl:l.length <= 1000000) (hr:(resL a b c l).length <= 1000000000000) :
  Calls Tryz.prog 176 #[v,.string a,.string b,.string c] w fun e w'=>e = .returned (.string ⟨(resL a b c l).toArray⟩) /\ Q w w':=by
 obtain ⟨n,hn⟩:∃ n,l.length = n:=⟨_,rfl⟩;obtain ⟨ad,cp,rfl,hc1,hc2⟩:=hv.form0 hn;have HV:=Hd hv;have HN:=Hd hn;have HTB:=Hd (txt_cell w a b c ⟨#[]⟩);rw [hn] at hl;have HLE:=Hd (fun k=>Nat.le_trans (resL_le a b c l k) hr);have HEND:=Hd (show resL a b c (l.take n) = resL a b c l by rw [List.take_of_length_le (by omega)]);clear hv hn hr;obtain ⟨R,hR⟩:∃ R,R = resL a b c l:=⟨_,rfl⟩;rw [<- hR] at HEND |-;clear hR;go_enter Tryz.func176,Tryz.ntmps176
 go_wp2_with fail
 go_loopw [10,11] (fun s i wr=>∃ k:Nat,i = .int .i64 k /\ k <= n /\ s = .string ⟨(resL a b c (l.take k)).toArray⟩ /\ Hid (wr.cell? ⟨w.heap.size,1,none⟩ = some (.string a) /\ wr.cell? ⟨w.heap.size,2,none⟩ = some (.string b) /\ wr.cell? ⟨w.heap.size,3,none⟩ = some (.string c)) /\ Q w wr) (fun _ i _=>n - (intOf i).toNat)
 case atStart=>exact ⟨0,rfl,by omega,rfl,HTB,(Q.refl w).alloc _⟩
 case round =>
  obtain ⟨k,rfl,hkn,rfl,HT,hq⟩:=hrel;have HQ:=Hd hq;by_cases h1:k < n
  ·have h1i:(k:Int) < (n:Int):=by omega
   obtain ⟨g,off,cap,hvv,hg,_,_,c1,d1⟩:=HV.out.cellOf HN.out h1;cases hvv;have c2:=(World.cell?_of_block (w:=w) (hq.block hg)).trans c1;have d2:=(World.cell?_of_block (w:=w) (hq.block hg)).trans d1;have hst:=resL_step a b c l k (by rw [HN.out];exact h1);obtain ⟨p,hp⟩:∃ p,p = l.getD k (0,[]):=⟨_,rfl⟩;rw [<- hp] at c2 d2 hst;obtain ⟨x,t⟩:=p;simp only at c2 d2;obtain ⟨T,hT⟩:∃ T:ByteArray,T = ⟨(resF a b c (x,t)).toArray⟩:=⟨_,rfl⟩;have hap:=app_eq (resL a b c (l.take k)) (resF a b c (x,t));rw [<- hst,<- hT] at hap;have hle:=HLE.out (k + 1);have hle0:=HLE.out k;rw [hst,List.length_append] at hle;have s1:(⟨(resL a b c (l.take k)).toArray⟩:ByteArray).size <= 1000000000000:=by rw [<- size_list];exact hle0
   have s2:T.size <= 1000000000000:=by rw [hT,<- size_list];show (resF a b c (x,t)).length <= _;omega
   have hcs:(x = 1 /\ T = a) \/ (x = 2 /\ T = b) \/ (x = 3 /\ T = c) \/ (x <= 0 /\ T = ⟨t.toArray⟩) \/ (0 < x /\ 4 <= x /\ T = ⟨t.toArray⟩):=by
    unfold resF at hT;by_cases h:0 < x /\ x < 4
    ·rw [if_pos h] at hT
     rcases (show x = 1 \/ x = 2 \/ x = 3 from by omega) with rfl | rfl | rfl
     ·exact .inl ⟨rfl,by rw [hT];rfl⟩
     ·exact .inr (.inl ⟨rfl,by rw [hT];rfl⟩)
     ·exact .inr (.inr (.inl ⟨rfl,by rw [hT];rfl⟩))
    ·rw [if_neg h] at hT
     by_cases h0:x <= 0
     ·exact .inr (.inr (.inr (.inl ⟨h0,hT⟩)))
     ·exact .inr (.inr (.inr (.inr ⟨by omega,by omega,hT⟩)))
   generalize (⟨(resL a b c (l.take k)).toArray⟩:ByteArray) = S at *;have HAP:=Hd hap;clear c1 d1 hp hst hT hap hle hle0 hq;obtain ⟨q1,q2,q3⟩:=HT.out;rcases hcs with ⟨rfl,rfl⟩ | ⟨rfl,rfl⟩ | ⟨rfl,rfl⟩ | ⟨hx,hT⟩ | ⟨hx,hx4,hT⟩
   ·go_wp2_with fail
    exact ⟨⟨k + 1,by go_num,by omega,by rw [HAP.out],HT,HQ.out⟩,by simp [intOf];omega⟩
   ·go_wp2_with fail
    exact ⟨⟨k + 1,by go_num,by omega,by rw [HAP.out],HT,HQ.out⟩,by simp [intOf];omega⟩
   ·go_wp2_with fail
    exact ⟨⟨k + 1,by go_num,by omega,by rw [HAP.out],HT,HQ.out⟩,by simp [intOf];omega⟩
   ·have d3:wr.cell? ⟨g,off + k * 2 + 1,none⟩ = some (.string T):=by rw [hT];exact d2
    clear d2;have hx0:¬ 0 < x:=by omega
    clear hT q1 q2 q3;go_wp2_with fail
    exact ⟨⟨k + 1,by go_num,by omega,by rw [HAP.out],HT,HQ.out⟩,by simp [intOf];omega⟩
   ·have d3:wr.cell? ⟨g,off + k * 2 + 1,none⟩ = some (.string T):=by rw [hT];exact d2
    clear d2;have hx0:¬ x < 4:=by omega
    clear hT q1 q2 q3;go_wp2_with fail
    exact ⟨⟨k + 1,by go_num,by omega,by rw [HAP.out],HT,HQ.out⟩,by simp [intOf];omega⟩
  ·have hk:k = n:=by omega
   subst hk;have hno:¬ (k:Int) < (k:Int):=by omega
   rw [HEND.out];clear hq;go_wp2_with fail
   go_ret
   exact ⟨rfl,HQ.out⟩
end Pr
end
section
open Go.RowKit
namespace Pr
open Pt Um
theorem none_any (a b c d:Value) (p s i m x:Int) (l:List Pc.E) (w:World) (ha:Pc.LstP w a l) (hl:l.length <= 1000000) :
  Calls Tryz.prog 143 #[pv a b c d p s i m x] w fun e w'=>∃ u,e = .returned u /\ OwnB w' w.heap.size u ((3,[]) :: l) /\ Q w w':=by
 unfold pv;have hb0:PB (w.alloc (.cells #[a,b,c,d,.int .i64 p,.int .i64 s,.int .i64 i,.int .i64 m,.int .i64 x] 32)) w.heap.size a b c d p s i m x:=heap_alloc_new _ _;have hq0:Q w (w.alloc (.cells #[a,b,c,d,.int .i64 p,.int .i64 s,.int .i64 i,.int .i64 m,.int .i64 x] 32)):=(Q.refl w).alloc _;have hsz:(w.alloc (.cells #[a,b,c,d,.int .i64 p,.int .i64 s,.int .i64 i,.int .i64 m,.int .i64 x] 32)).heap.size = w.heap.size + 1:=Array.size_push _;obtain ⟨n,hn⟩:∃ n,l.length = n:=⟨_,rfl⟩;obtain ⟨aa,ac,rfl,ac1,ac2⟩:=ha.form0 hn;rw [hn] at hl;have HA:=Hd ha;have HB0:=Hd hb0;have HQ0:=Hd hq0;have HSZ:=Hd hsz;have HN:=Hd hn;clear ha hb0 hq0 hsz hn;go_enter Tryz.func143,Tryz.ntmps143
 go_wp2_with (at_builtin;refine Pc.push elB (Pc.OwnE.nil 187 _ (w.heap.size + 1)) rfl _ _ rfl 3 ⟨#[]⟩ (by rfl) (by rw [HSZ.out];rfl) (by decide) (Nat.le_of_eq HSZ.out.symm) ?_)
 intro v' w4 ho4 hg4 hat4;have hq4:=(Q.refl _).grown hg4 (fun j h=>nomatch h);have hb4:=HB0.out.q hq4;have HQ4:=Hd (HQ0.out.trans hq4);have HB4:=Hd hb4;have hs4:w.heap.size + 1 <= w4.heap.size:=hb4.lt;obtain ⟨va,vc,rfl,vc1,vc2⟩:=ho4.lst.form0 (n:=1) rfl;have HO4:=Hd ho4;obtain ⟨r0,-⟩:=hb4.cells;clear hb4 hq4 hg4 hat4 ho4;go_wp2_with (at_builtin;refine Pc.pushl elB HO4.out (HA.out.q HQ4.out) rfl _ _ rfl (by rfl) (by rfl) (by rw [HN.out];show 1 + n < _;omega) hs4 ?_)
 intro v5 w5 ho5 hg5 hat5;have hq5:=HQ4.out.grown hg5 (fun j h=>Nat.le_of_succ_le (HO4.out.lt j h).1);go_wp2_with fail
 go_ret
 exact ⟨_,rfl,ho5.mono (Nat.le_succ _),hq5⟩
end Pr
end
section
open Go.RowKit
namespace Pr
open Pt Um
def sgnOk (l:List (Int × Int)):Prop:=∀ x ∈ l,x.1 = 4 -> ∃ b:UInt8,encL x.2 = [b] /\ ((b.toNat:Nat):Int) = x.2
theorem encL_len (c:Int):(encL c).length <= 4:=by unfold encL;rw [size_list];exact encB_size c
def frm (l:List (Int × Int)):Nat:=(l.takeWhile fun x=>!isN x).length
def rst (l:List (Int × Int)):List (Int × Int):=l.dropWhile fun x=>!isN x
def mny (l:List (Int × Int)):Nat:=((rst l).takeWhile isN).length
theorem tw_holds {α:Type} {f:α -> Bool} {l:List α}:∀ x ∈ l.takeWhile f,f x = true:=by
 induction l with
 | nil=>intro x hx;simp at hx
 | cons y r ih =>
  intro x hx;rw [List.takeWhile_cons] at hx;cases hy:f y
  ·rw [hy] at hx;simp at hx
  ·rw [hy,if_pos rfl] at hx
   rcases List.mem_cons.1 hx with rfl | hx
   ·exact hy
   ·exact ih x hx
theorem tw_get {α:Type} {f:α -> Bool} {l:List α} {k:Nat} (h:k < (l.takeWhile f).length):∃ hk:k < l.length,f (l[k]'hk) = true:=by
 have h1:(l.takeWhile f).length <= l.length:=(List.takeWhile_prefix f).length_le;refine ⟨by omega,?_⟩;have h2:=tw_holds _ (List.getElem_mem h);have h3:(l.takeWhile f)[k] = l[k]'(by omega):=(List.takeWhile_prefix f).getElem h;rw [h3] at h2;exact h2
theorem tw_end {α:Type} {f:α -> Bool} {l:List α} (h:(l.takeWhile f).length < l.length):f (l[(l.takeWhile f).length]'h) = false:=by
 induction l with
 | nil=>simp at h
 | cons x r ih =>
  cases hx:f x
  ·simp [List.takeWhile_cons,hx]
  ·simp only [List.takeWhile_cons,hx,if_true,List.length_cons] at h |-
   have:=ih (by simpa using h);simpa using this
theorem tw_drop {α:Type} (f:α -> Bool) (l:List α):l.dropWhile f = l.drop (l.takeWhile f).length:=by
 induction l with
 | nil=>rfl
 | cons x r ih =>
  cases hx:f x
  ·simp [List.takeWhile_cons,List.dropWhile_cons,hx]
  ·simp [List.takeWhile_cons,List.dropWhile_cons,hx,ih]
theorem tw_take {α:Type} (f:α -> Bool) (l:List α):l.takeWhile f = l.take (l.takeWhile f).length:=by
 induction l with
 | nil=>rfl
 | cons x r ih =>
  cases hx:f x
  ·simp [List.takeWhile_cons,hx]
  ·simp only [List.takeWhile_cons,hx,if_true,List.length_cons,List.take_succ_cons]
   rw [<- ih]
theorem rst_eq (l:List (Int × Int)):rst l = l.drop (frm l):=tw_drop _ l
theorem frm_le (l:List (Int × Int)):frm l <= l.length:=(List.takeWhile_prefix _).length_le
theorem mny_le (l:List (Int × Int)):frm l + mny l <= l.length:=by
 have h1:mny l <= (rst l).length:=(List.takeWhile_prefix isN).length_le;rw [rst_eq,List.length_drop] at h1;have:=frm_le l;omega
theorem kind_at (l:List (Int × Int)) (k:Nat) (hk:k < l.length):((tkP l).getD k (0,[])).1 = (l[k]'hk).1 /\ ((tkP l).getD k (0,[])).2 = encL (l[k]'hk).2:=by
 unfold tkP;rw [List.getD_eq_getElem?_getD,List.getElem?_map,List.getElem?_eq_getElem hk];exact ⟨rfl,rfl⟩
theorem frm_lt {l:List (Int × Int)} {k:Nat} (h:k < frm l):∃ hk:k < l.length,(l[k]'hk).1 ≠ 4:=by
 obtain ⟨hk,h1⟩:=tw_get h;refine ⟨hk,?_⟩;simp only [isN,Bool.not_eq_true',beq_eq_false_iff_ne] at h1;exact h1
theorem frm_end {l:List (Int × Int)} (h:frm l < l.length):(l[frm l]'h).1 = 4:=by
 have:=tw_end (f:=fun x=>!isN x) (l:=l) h;simp only [isN,Bool.not_eq_false',beq_iff_eq] at this;exact this
theorem mny_lt {l:List (Int × Int)} {j:Nat} (h:j < mny l):∃ hk:frm l + j < l.length,(l[frm l + j]'hk).1 = 4:=by
 have h0:=mny_le l;obtain ⟨hk,h1⟩:=tw_get (l:=rst l) h;refine ⟨by omega,?_⟩;have e:(rst l)[j] = l[frm l + j]'(by omega):=by
  simp only [rst_eq,List.getElem_drop]
 rw [e] at h1;simpa [isN] using h1
theorem mny_end {l:List (Int × Int)} (h:frm l + mny l < l.length):(l[frm l + mny l]'h).1 ≠ 4:=by
 have hr:mny l < (rst l).length:=by rw [rst_eq,List.length_drop];omega
 have:=tw_end (f:=isN) (l:=rst l) hr;have e:(rst l)[((rst l).takeWhile isN).length]'hr = l[frm l + mny l]'h:=by
  simp only [rst_eq,List.getElem_drop,mny]
 rw [e] at this;simpa [isN] using this
theorem suf_eq (l:List (Int × Int)):(rst l).dropWhile isN = l.drop (frm l + mny l):=by
 unfold mny;rw [tw_drop isN,rst_eq,List.drop_drop]
theorem sgn_eq (l:List (Int × Int)):(rst l).takeWhile isN = (l.drop (frm l)).take (mny l):=by
 unfold mny;rw [rst_eq];exact tw_take isN _
theorem half_eq (l:List (Int × Int)):half l = if (l.drop (frm l + mny l)).any isN = true then none else (num (((l.drop (frm l)).take (mny l)).map (·.2))).map fun n=>⟨joinT [] (l.take (frm l)),joinT [] (l.drop (frm l + mny l)),n⟩:=by
 unfold half;have e1:l.dropWhile (fun x=>!isN x) = rst l:=rfl;simp only [e1,suf_eq,sgn_eq];rw [tw_take (fun x=>!isN x) l];rfl
theorem tkP_take (l:List (Int × Int)) (k:Nat):(tkP l).take k = tkP (l.take k):=by unfold tkP;rw [List.map_take]
theorem tkP_drop (l:List (Int × Int)) (k:Nat):(tkP l).drop k = tkP (l.drop k):=by unfold tkP;rw [List.map_drop]
theorem tkP_len (l:List (Int × Int)):(tkP l).length = l.length:=by unfold tkP;rw [List.length_map]
theorem tkP_txt (l:List (Int × Int)):∀ p ∈ tkP l,p.2.length <= 4:=by
 intro p hp;obtain ⟨x,_,rfl⟩:=List.mem_map.1 hp;exact encL_len x.2
def sgB (l:List (Int × Int)):List UInt8:=l.flatMap fun x=>encL x.2
theorem sgB_bys (l:List (Int × Int)) (h:∀ x ∈ l,x.1 = 4) (hk:sgnOk l):bys ⟨(sgB l).toArray⟩ = l.map (·.2):=by
 unfold bys sgB;show ((l.flatMap fun x=>encL x.2).map fun b=>((b.toNat:Nat):Int)) = _;induction l with
 | nil=>rfl
 | cons x r ih =>
  obtain ⟨b,h1,h2⟩:=hk x List.mem_cons_self (h x List.mem_cons_self);rw [List.flatMap_cons,h1];simp only [List.singleton_append,List.map_cons,h2];rw [ih (fun y hy=>h y (List.mem_cons_of_mem _ hy)) (fun y hy=>hk y (List.mem_cons_of_mem _ hy))]
theorem sgB_len (l:List (Int × Int)):(sgB l).length <= 4 * l.length:=by
 unfold sgB;induction l with
 | nil=>simp
 | cons x r ih=>rw [List.flatMap_cons,List.length_append,List.length_cons];have:=encL_len x.2;omega
theorem sgB_snoc (l:List (Int × Int)) (k:Nat) (hk:k < l.length):sgB (l.take (k + 1)) = sgB (l.take k) ++ encL (l[k]'hk).2:=by
 unfold sgB;rw [List.take_succ_eq_append_getElem hk,List.flatMap_append,List.flatMap_cons,List.flatMap_nil,List.append_nil]
def HalfIs (w':World) (B:Nat) (r:Option Hf) (e:Ending):Prop :=
 (r = none /\ ∃ a1 n1 c1 a2 n2 c2 p q i m x l,e = .returned (.tuple #[pv (.slice a1 n1 c1) (.slice a2 n2 c2) nilV nilV p q i m x,.bool false,.bool l])) \/
 ∃ h a b,r = some h /\ e = .returned (.tuple #[pv a b nilV nilV h.nm.pr h.nm.se h.nm.mi h.nm.mf h.nm.xf,.bool true,.bool h.nm.long]) /\ Pc.New w' B a h.pre /\ Pc.New w' B b h.suf
end Pr
end
section
open Go.RowKit Go.Shelf Um Cm Gm
attribute [local go_sem] Oper.semAt_some
theorem cstarts_any (s:ByteArray) (w:World) (hs:s.size <= 1073741824) :
  Calls Tryz.prog 164 #[.string s] w fun e w'=>∃ v,e = .returned v /\ Own w' w.heap.size v (begL s.data.toList ++ [(s.size:Int)]) /\ Q w w':=by
 have hbl:=begL_length s.data.toList;rw [size_list] at hbl;refine (callsIn_wide (n:=0)).1 ?_;refine callsIn_of_wp_marks Tryz.func164 rfl trivial ?_ rfl;simp only [Tryz.ntmps164,List.size_toArray,List.length_cons,List.length_nil,Nat.reduceAdd,Nat.reduceSub,Array.replicate_succ,Array.replicate_zero,List.push_toArray,List.append_toArray,List.nil_append,List.cons_append];gi_wp2_with fail
 refine ⟨trivial,rfl,(callsIn_wide.2 (begins_any s _)).mono ?_⟩;rintro e w' ⟨rfl,rfl⟩;gi_wp2_with fail
 have bL:=(Boxed.new w 24 (.slice none 0 0)).alloc (.cells #[.string s] 9);have bS:=Boxed.new (w.alloc (.cells #[.slice none 0 0] 24)) 9 (.string s);have hq0:Q w ((w.alloc (.cells #[.slice none 0 0] 24)).alloc (.cells #[.string s] 9)):=((Q.refl w).alloc _).alloc _;have hz0:((w.alloc (.cells #[.slice none 0 0] 24)).alloc (.cells #[.string s] 9)).heap.size = w.heap.size + 2:=by simp
 rw [World.size_alloc] at bS;generalize (w.alloc (.cells #[.slice none 0 0] 24)).alloc (.cells #[.string s] 9) = W0 at *;have hz1:W0.heap.size <= w.heap.size + 2:=by omega
 have hz2:w.heap.size + 2 <= W0.heap.size:=by omega
 clear hz0;refine range_any (gf:=211) (lb:=#[.pointer (some ⟨w.heap.size + 1,0,none⟩)]) rfl (enters_of Tryz.func211 (by kernel_rfl) rfl) (fun _=>rfl)
  (begins_iter s (w.heap.size + 1) (W0.heap.size + 1 + 1) W0 (by unfold maxLen;omega) bS (by omega)) (by unfold SetB;omega) (by omega)
  (fun pre W=>(∃ v,Boxed W w.heap.size 24 v /\ Own W (W0.heap.size + 1 + 1 + 4) v pre) /\ Q w W) (fun _ _ _=>False) ?hI (fun _ _ _ _ h _=>h) ⟨⟨_,bL,Own.nil _ _⟩,hq0⟩
  (fun x=>{ tmps:=#[.string s,undef,.slice none 0 0,.pointer (some ⟨w.heap.size,0,none⟩),.int .i64 x,.string s,.func (.func 211) #[] #[.pointer (some ⟨w.heap.size + 1,0,none⟩)],.int .i64 x,undef,undef,undef,undef,undef,undef,undef,undef,undef],defers:=[] }) ?assign ?body ?done ?stop
 case hI =>
  rintro pre A A' ⟨⟨v,hb,ho⟩,hq⟩ hg;exact ⟨⟨v,bx_gap hb hg (.inl (by omega)),ho.gap hg (ho.base (Nat.le_refl _))⟩,hq.gapped hg (by omega)⟩
 case assign =>
  intro l x W K hK;gi_wp2
  first | exact hK | simpa using hK
 case body =>
  rintro l pre x W ⟨⟨v,hb,ho⟩,hq⟩ hz hpre;have hc:=hb.cell;have hf:=hb.frozen;have hpl:pre.length < 1073741825:=by
   have:=hpre.length_le;simp at this;omega
  gi_wp2_with (gi_at_builtin;refine push_in ho rfl _ _ rfl x (by rfl) (by rfl) (by omega) hz ?_;intro g' c' w1 ho1 hg1;have hb1:=hb.kept hg1 (box_not_own hb ho (by decide));have hc1:=hb1.cell;have hf1:=hb1.frozen)
  have hlt:∀ k,v.ownBlock = some k -> W0.heap.size + 1 + 1 + 4 <= k:=fun k hk=>(ho.lt k hk).1;refine ⟨(Stand.grown hg1 fun k hk=>?_).trans (Stand.setCell _ _ _ _ _ ?_),⟨_,hb1.set _,ho1.gap (Gap.setCell _ _ _ _ w.heap.size (w.heap.size + 1) (by omega) (by omega)) (ho1.base (by omega))⟩,Below.setCell (p:=⟨w.heap.size,0,none⟩) (hq.grown hg1 fun k hk=>?_) (Nat.le_refl _) _⟩
  ·have:=hlt k hk;unfold SetB;omega
  ·unfold SetB;omega
  ·have:=hlt k hk;omega
 case done =>
  rintro xs W rfl ⟨⟨v,hb,ho⟩,hq⟩ hK;have hc:=hb.cell;have hf:=hb.frozen;have hle:=hq.le;have ho:=ho.mono (B':=w.heap.size) (by omega);gi_wp2_with (gi_at_builtin;refine push_in ho rfl _ _ rfl s.size (by rfl) (by rfl) (by omega) hle ?_;intro g' c' w1 ho1 hg1)
  have hK1:w1.heap[W0.heap.size]? = some (.deferred (some [])):=by
   refine (hg1.block _ (Array.getElem?_eq_some_iff.1 hK).1 fun e=>?_).trans hK;obtain ⟨cur,hcu⟩:=ho.cells _ e.symm;rw [hK] at hcu;cases hcu
  refine ⟨by simp,.inl ⟨_,_,rfl,run_takeDeferred hK1,?_⟩⟩;refine ⟨_,results_tmp rfl _ _ _,_,rfl,?_,?_⟩
  ·refine ho1.same fun g hg=>World.putObj_heap_other fun e=>?_
   obtain ⟨cur,hcu⟩:=ho1.cells g hg;rw [e,hK1] at hcu;cases hcu
  ·exact (hq.grown hg1 fun k hk=>(ho.lt k hk).1).gapped (Gap.putObj w1 _ _ W0.heap.size (W0.heap.size + 1) (by omega) (by omega)) (by omega)
 case stop =>
  rintro c pre W _ h _;exact h.elim
theorem cfirst_any (s:ByteArray) (w:World) (hs:s.size <= 1073741824) :
  Calls Tryz.prog 193 #[.string s] w fun e w'=>e = .returned (.int .i64 (frsL s.data.toList)) /\ Q w w':=by
 refine (callsIn_wide (n:=0)).1 ?_;refine callsIn_of_wp_marks Tryz.func193 rfl trivial ?_ rfl;simp only [Tryz.ntmps193,List.size_toArray,List.length_cons,List.length_nil,Nat.reduceAdd,Nat.reduceSub,Array.replicate_succ,Array.replicate_zero,List.push_toArray,List.append_toArray,List.nil_append,List.cons_append];gi_wp2_with fail
 refine ⟨trivial,rfl,(callsIn_wide.2 (begins_any s _)).mono ?_⟩;rintro e w' ⟨rfl,rfl⟩;gi_wp2_with fail
 have bL:=(Boxed.new w 3 (.int .i64 0)).alloc (.cells #[.string s] 9);have bS:=Boxed.new (w.alloc (.cells #[.int .i64 0] 3)) 9 (.string s);have hq0:Q w ((w.alloc (.cells #[.int .i64 0] 3)).alloc (.cells #[.string s] 9)):=((Q.refl w).alloc _).alloc _;have hz0:((w.alloc (.cells #[.int .i64 0] 3)).alloc (.cells #[.string s] 9)).heap.size = w.heap.size + 2:=by simp
 rw [World.size_alloc] at bS;generalize (w.alloc (.cells #[.int .i64 0] 3)).alloc (.cells #[.string s] 9) = W0 at *;have hz1:W0.heap.size <= w.heap.size + 2:=by omega
 have hz2:w.heap.size + 2 <= W0.heap.size:=by omega
 clear hz0;refine range_any (gf:=211) (lb:=#[.pointer (some ⟨w.heap.size + 1,0,none⟩)]) rfl (enters_of Tryz.func211 (by kernel_rfl) rfl) (fun _=>rfl)
  (begins_iter s (w.heap.size + 1) (W0.heap.size + 1 + 1) W0 (by unfold maxLen;omega) bS (by omega)) (by unfold SetB;omega) (by omega)
  (fun pre W=>Boxed W w.heap.size 3 (.int .i64 0) /\ Q w W /\ ∀ x ∈ pre,¬ 0 < x)
  (fun c pre W=>c = .ret /\ ∃ x r,pre = r ++ [x] /\ 0 < x /\ (∀ y ∈ r,¬ 0 < y) /\ Boxed W w.heap.size 3 (.int .i64 x) /\ Q w W) ?hI ?hIx ⟨bL,hq0,by simp⟩
  (fun x=>{ tmps:=#[.string s,undef,.pointer (some ⟨w.heap.size,0,none⟩),.int .i64 x,.string s,.func (.func 211) #[] #[.pointer (some ⟨w.heap.size + 1,0,none⟩)],.int .i64 x,undef,undef,undef,undef,undef],defers:=[] }) ?assign ?body ?done ?stop
 case hI =>
  rintro pre A A' ⟨hb,hq,hx⟩ hg;exact ⟨bx_gap hb hg (.inl (by omega)),hq.gapped hg (by omega),hx⟩
 case hIx =>
  rintro c pre A A' ⟨hc,x,r,h1,h2,h3,hb,hq⟩ hg;exact ⟨hc,x,r,h1,h2,h3,bx_gap hb hg (.inl (by omega)),hq.gapped hg (by omega)⟩
 case assign =>
  intro l x W K hK;gi_wp2
  first | exact hK | simpa using hK
 case body =>
  rintro l pre x W ⟨hb,hq,hx⟩ hz hpre;have hc:=hb.cell;have hf:=hb.frozen;by_cases h0:0 < x
  ·gi_wp2_with fail
   refine ⟨Stand.setCell _ _ _ _ _ (by unfold SetB;omega),rfl,x,pre,rfl,h0,hx,hb.set _,Below.setCell (p:=⟨w.heap.size,0,none⟩) hq (Nat.le_refl _) _⟩
  ·gi_wp2_with fail
   refine ⟨Stand.refl _ _,hb,hq,fun y hy=>?_⟩;rcases List.mem_append.1 hy with h | h
   ·exact hx y h
   ·rw [List.mem_singleton.1 h];exact h0
 case done =>
  rintro xs W rfl ⟨hb,hq,hx⟩ hK;have hc:=hb.cell;have hf:=hb.frozen;have hle:=hq.le;have HF:=Hd (frsL_none _ hx);rw [size_list] at HF;clear hx;gi_wp2_with fail
  have hb2:=hb.set (.int .i64 s.size);have hK2:(W.setCell ⟨w.heap.size,0,none⟩ (.int .i64 s.size)).heap[W0.heap.size]? = some (.deferred (some [])):=(Below.heap_setCell _ _ _ _ (by show W0.heap.size ≠ w.heap.size;omega)).trans hK;refine ⟨by simp,.inl ⟨_,_,rfl,run_takeDeferred hK2,?_⟩⟩;have hb3:=bx_gap hb2 (Gap.putObj _ W0.heap.size (.deferred none) W0.heap.size (W0.heap.size + 1) (by omega) (by omega)) (.inl (by omega));have hc3:=hb3.cell;rw [HF.out];refine ⟨_,?_,rfl,Q.gapped (a:=w) (Below.setCell (p:=⟨w.heap.size,0,none⟩) hq (Nat.le_refl _) _) (Gap.putObj _ _ _ W0.heap.size (W0.heap.size + 1) (by omega) (by omega)) (by omega)⟩;simp [results,Tryz.results193,go_sem,hc3]
 case stop =>
  rintro c pre W hpre ⟨rfl,x,r,rfl,h1,h2,hb,hq⟩ hK;have hle:=hq.le;have HF:=Hd (frsL_some _ _ _ hpre h1 h2);clear h2 hpre;gi_wp2_with fail
  refine ⟨by simp,.inl ⟨_,_,rfl,run_takeDeferred hK,?_⟩⟩;have hb3:=bx_gap hb (Gap.putObj _ W0.heap.size (.deferred none) W0.heap.size (W0.heap.size + 1) (by omega) (by omega)) (.inl (by omega));have hc3:=hb3.cell;rw [HF.out];refine ⟨_,?_,rfl,hq.gapped (Gap.putObj _ _ _ W0.heap.size (W0.heap.size + 1) (by omega) (by omega)) (by omega)⟩;simp [results,Tryz.results193,go_sem,hc3]
end
end Go.Proofs.YtdjhkbholijnmaaGreatDoor
