/- A list behind a list that is the call's own or has no room; the library's Concat at two and three lists; package draft's Of, by a walk through it. (and more) -/
import Derived.Test.YtnehhbobhnmbcaaR12
import Derived.Test.YtnehhbobhnmbcaaR09
import Derived.Test.YtnehhbobhnmbcaaR10
import Derived.ArgAppend
set_option linter.all false
set_option maxRecDepth 100000
set_option maxHeartbeats 8000000
namespace Go.Proofs.Ytnehhbobhnmbcaa
section
open Go.RowKit
def Ap (w:World) (B:Nat) (v:Value) (zs:List Int):Prop:=Own w B v zs \/ (Lst w v zs /\ ∃ a,v = .slice a zs.length zs.length)
theorem Ap.lst {w:World} {B:Nat} {v:Value} {zs:List Int} (h:Ap w B v zs):Lst w v zs:=h.elim (fun h=>h.lst) (fun h=>h.1)
theorem Ap.q {w w':World} {B:Nat} {v:Value} {zs:List Int} (h:Ap w B v zs) (hq:Q w w'):Ap w' B v zs:=h.elim (fun h=>.inl (h.q hq)) (fun h=>.inr ⟨h.1.q hq,h.2⟩)
theorem Lst.cellsOf {w:World} {ad:Addr} {n c:Nat} {zs:List Int} (h:Lst w (.slice (some ad) n c) zs):∀ j x,(zs.map (Value.int .i64))[j]? = some x -> w.cell? (ad.add j) = some x:=by
 intro j x hj;have hjl:j < zs.length:=by
  have:=(List.getElem?_eq_some_iff.1 hj).1;simpa using this
 rcases h with ⟨rfl,_⟩ | ⟨g,off,cap,hv,hg,h1,h2,hc⟩
 ·simp at hjl
 ·cases hv
  have hadd:(⟨g,off,none⟩:Addr).add j = ⟨g,off + j,none⟩:=by unfold Addr.add;split <;> simp_all
  rw [hadd,hc j hjl];rw [List.getElem?_map,List.getElem?_eq_getElem hjl] at hj;rw [List.getD_eq_getElem?_getD,List.getElem?_eq_getElem hjl];simpa using hj
theorem one_ints (zs:List Int):∀ u ∈ zs.map (Value.int .i64),u.oneCell' = true:=by
 intro u hu;obtain ⟨_,_,rfl⟩:=List.mem_map.1 hu;rfl
theorem app_run {w:World} {B:Nat} {v u:Value} {zs ys:List Int} (hv:Ap w B v zs) (hu:Lst w u ys) (hB:B <= w.heap.size) (hl:zs.length + ys.length < 1099511627776) (ty:TypeId) :
  ∃ a c w',(Builtin.append_ #[22,22] ty #[v,u]).run Try.prog w = .ok (.slice a (zs.length + ys.length) c) w' /\ Ap w' B (.slice a (zs.length + ys.length) c) (zs ++ ys) /\ (∀ w0,Q w0 w -> w0.heap.size <= B -> Q w0 w'):=by
 obtain ⟨i0,hi,hz0,hz1,hz2⟩:=info_parts infoInt;have hlen:(zs ++ ys).length = zs.length + ys.length:=List.length_append;have hm1:(zs.map (Value.int .i64)).length = zs.length:=List.length_map _;have hm2:(ys.map (Value.int .i64)).length = ys.length:=List.length_map _;rcases hv with hown | ⟨hlv,a,rfl⟩
 ·-- the call's own
  have key:∀ (ad:Addr) (c:Nat),u = .slice (some ad) ys.length c -> ∃ a c w',(Builtin.append_ #[22,22] ty #[v,u]).run Try.prog w = .ok (.slice a (zs.length + ys.length) c) w' /\ Ap w' B (.slice a (zs.length + ys.length) c) (zs ++ ys) /\ (∀ w0,Q w0 w -> w0.heap.size <= B -> Q w0 w'):=by
   rintro ad c rfl;obtain ⟨v',w',hr,h2,h3,_,_⟩:=run_append_own_at (P:=Try.prog) w B 22 ty 3 i0 (.int .i64 0) 1 8 Try.underlying22 hi hz0 hz1 hz2 rfl (by decide) v zs.length _ hown ad ys.length c (ys.map (Value.int .i64)) (by rw [hm2];omega) hu.cellsOf (one_ints ys) (by unfold maxLen;omega) (by omega) hB;have ho:Own w' B v' (zs ++ ys):=by
    unfold Own;rw [hlen,List.map_append];exact h2
   obtain ⟨a',c',hv'⟩:=ho.shape;rw [hlen] at hv';subst hv';exact ⟨a',c',w',hr,.inl ho,fun w0 q h0=>q.grown h3 (fun k hk=>Nat.le_trans h0 (hown.lt k hk).1)⟩
  obtain ⟨a1,c1,rfl⟩:=hu.shape;cases a1 with
  | some ad=>exact key ad c1 rfl
  | none =>
   have hy:ys = []:=by
    rcases hu with ⟨h,_⟩ | ⟨_,_,_,h,_⟩
    ·exact h
    ·cases h
   subst hy;have hc1:c1 = 0:=by
    rcases hu with ⟨_,a2,c2,h,_,h2⟩ | ⟨_,_,_,h,_⟩
    ·cases h;exact h2 rfl
    ·cases h
   subst hc1;have hr:=run_append_owned_none (P:=Try.prog) (w:=w) B 22 ty 3 i0 1 Try.underlying22 hi v zs.length _ hown;obtain ⟨a',c',hv'⟩:=hown.shape;subst hv';rw [List.append_nil];exact ⟨a',c',w,hr,.inl hown,fun w0 q _=>q⟩
 ·-- one without room
  obtain ⟨a1,c1,rfl⟩:=hu.shape;by_cases hy:ys.length = 0
  ·have hyn:ys = []:=List.eq_nil_of_length_eq_zero hy
   subst hyn;rw [List.append_nil];refine ⟨a,zs.length,w,?_,.inr ⟨hlv,a,rfl⟩,fun w0 q _=>q⟩;have hfc:(Builtin.firstCells i0.size 0 (.slice a1 0 c1)).run Try.prog w = .ok #[] w:=by
    cases a1 with
    | none=>exact run_firstCells_none w i0.size 0 0 c1
    | some ad=>exact run_firstCells_some (P:=Try.prog) w i0.size 0 ad 0 c1 [] (by simp) (by simp)
   cases a with
   | none=>simp [Builtin.append_,run_underlying Try.underlying22,sizeOf,typeInfo,hi,Builtin.lenOf,hfc]
   | some ad=>simp [Builtin.append_,run_underlying Try.underlying22,sizeOf,typeInfo,hi,Builtin.lenOf,hfc,storeCells]
  ·obtain ⟨ad,rfl⟩:∃ ad,a1 = some ad:=by
    rcases hu with ⟨h,_⟩ | ⟨g,off,cap,h,_⟩
    ·rw [h] at hy;exact absurd rfl hy
    ·cases h;exact ⟨_,rfl⟩
   have fin:∀ v' w',w'.ownsRow w.heap.size 3 1 v' (zs.length + ys.length) (zs.map (Value.int .i64) ++ ys.map (Value.int .i64)) -> w.grownBy w' none -> (Builtin.append_ #[22,22] ty #[.slice a zs.length zs.length,.slice (some ad) ys.length c1]).run Try.prog w = .ok v' w' ->
     ∃ a5 c5 w',(Builtin.append_ #[22,22] ty #[.slice a zs.length zs.length,.slice (some ad) ys.length c1]).run Try.prog w = .ok (.slice a5 (zs.length + ys.length) c5) w' /\ Ap w' B (.slice a5 (zs.length + ys.length) c5) (zs ++ ys) /\ (∀ w0,Q w0 w -> w0.heap.size <= B -> Q w0 w'):=by
    intro v' w' h2 h3 hr;have ho:Own w' w.heap.size v' (zs ++ ys):=by
     unfold Own;rw [hlen,List.map_append];exact h2
    obtain ⟨a',c',hv'⟩:=ho.shape;rw [hlen] at hv';subst hv';exact ⟨a',c',w',hr,.inl (ho.mono hB),fun w0 q _=>q.grown h3 (fun k hk=>by cases hk)⟩
   cases a with
   | some b =>
    obtain ⟨v',w',hrun,r1,r2⟩:=run_append_arg_grows (P:=Try.prog) w 22 ty 3 i0 (.int .i64 0) 1 8 Try.underlying22 hi hz0 hz1 hz2 rfl (by decide) b zs.length zs.length (zs.map (Value.int .i64)) (by rw [hm1];omega) hlv.cellsOf ad ys.length c1 (ys.map (Value.int .i64)) (by rw [hm2];omega) hu.cellsOf (by omega) (by unfold maxLen;omega) (by omega);exact fin v' w' r1 r2 hrun
   | none =>
    have hz:zs = []:=by
     rcases hlv with ⟨h,_⟩ | ⟨_,_,_,h,_⟩
     ·exact h
     ·cases h
    subst hz;obtain ⟨v',w',hrun,r1,r2,_⟩:=run_append_own (P:=Try.prog) w w.heap.size 22 ty 3 i0 (.int .i64 0) 1 8 Try.underlying22 hi hz0 hz1 hz2 rfl (by decide) (.slice none 0 0) 0 [] (World.ownsRow_nil w _ 3 1) ad ys.length c1 (ys.map (Value.int .i64)) (by rw [hm2];omega) hu.cellsOf (one_ints ys) (by unfold maxLen;omega) (by omega) (Nat.le_refl _);exact fin v' w' r1 r2 hrun
theorem app_plain {w:World} {B:Nat} {v u:Value} {zs ys:List Int} (hv:Ap w B v zs) (hu:Lst w u ys) (n m:Nat) (hn:zs.length = n) (hm:ys.length = m) (hB:B <= w.heap.size) (hl:n + m < 1099511627776)
  {ops:Array Oper} {rest:List Oper} {o:Oper} {a:Act} {R:Exit -> Act -> World -> Prop} (hgd:o.guard = none) (s x:Operand)
  (ho:o.op = .call { callee:=.builtin .append,args:=#[s,x],argTypes:=#[22,22] }) (hs:a.eval s = v) (hx:a.eval x = u)
  (h:∀ a' c w',Ap w' B (.slice a' (n + m) c) (zs ++ ys) -> (∀ w0,Q w0 w -> w0.heap.size <= B -> Q w0 w') -> wpList Try.prog ops R rest (a.put o.dst (.slice a' (n + m) c)) w'):wpList Try.prog ops R (o :: rest) a w:=by
 subst hn;subst hm;obtain ⟨a',c,w',hr,h1,h2⟩:=app_run hv hu hB hl o.type;exact Lib.wpList_append_run w hgd s x _ _ ho v u hs hx _ w' hr (h a' c w' h1 h2)
theorem app_step {w:World} {B:Nat} {v u:Value} {zs ys:List Int} (hv:Ap w B v zs) (hu:Lst w u ys) (n m:Nat) (hn:zs.length = n) (hm:ys.length = m) (hB:B <= w.heap.size) (hl:n + m < 1099511627776)
  {ops:Array Oper} {o:Oper} {a:Act} {K:Act -> World -> Prop} {R:Exit -> Act -> World -> Prop} {E:Prop} (hgd:o.guard = none) (s x:Operand)
  (ho:o.op = .call { callee:=.builtin .append,args:=#[s,x],argTypes:=#[22,22] }) (hs:a.eval s = v) (hx:a.eval x = u)
  (h:∀ a' c w',Ap w' B (.slice a' (n + m) c) (zs ++ ys) -> (∀ w0,Q w0 w -> w0.heap.size <= B -> Q w0 w') -> K (a.put o.dst (.slice a' (n + m) c)) w') :
  if Region.wanted o (yielded ops a.tmps) = true then Oper.wp Try.prog o a w K R else E:=by
 have hw:Region.wanted o (yielded ops a.tmps) = true:=by simp [Region.wanted,hgd]
 rw [if_pos hw];subst hn;subst hm;obtain ⟨a',c,w',hr,h1,h2⟩:=app_run hv hu hB hl o.type;exact Lib.wp_append_run w s x _ _ ho v u hs hx _ w' hr (h a' c w' h1 h2)
namespace Ts
theorem two_bk {u:World} {b:Nat} {va vb:Value} {xs ys:List Int} (hB:Bk u b 22 [va,vb]) (ha:Lst u va xs) (hb:Lst u vb ys) :
  ∃ s t:Sl,s.zs = xs /\ t.zs = ys /\ s.n = xs.length /\ t.n = ys.length /\ LL u (.slice (some ⟨b,0,none⟩) 2 2) [s,t]:=by
 obtain ⟨s,rfl,rfl,hs⟩:=ha.sl;obtain ⟨t,rfl,rfl,ht⟩:=hb.sl;refine ⟨s,t,rfl,rfl,hs.2.symm,ht.2.symm,.inr ⟨b,0,2,rfl,hB.lt,Nat.le_refl _,by unfold maxLen;omega,?_⟩,?_⟩
 ·intro i x hx
  rw [Nat.zero_add];exact hB.cell i (by
   match i,hx with
   | 0,hx=>cases hx;rfl
   | 1,hx=>cases hx;rfl)
 ·intro x hx
  rcases List.mem_cons.1 hx with rfl | hx
  ·exact hs
  ·rcases List.mem_cons.1 hx with rfl | hx
   ·exact ht
   ·cases hx
theorem three_bk {u:World} {b:Nat} {va vb vc:Value} {xs ys zs:List Int} (hB:Bk u b 22 [va,vb,vc]) (ha:Lst u va xs) (hb:Lst u vb ys) (hc:Lst u vc zs) :
  ∃ s t r:Sl,s.zs = xs /\ t.zs = ys /\ r.zs = zs /\ s.n = xs.length /\ t.n = ys.length /\ r.n = zs.length /\ LL u (.slice (some ⟨b,0,none⟩) 3 3) [s,t,r]:=by
 obtain ⟨s,rfl,rfl,hs⟩:=ha.sl;obtain ⟨t,rfl,rfl,ht⟩:=hb.sl;obtain ⟨r,rfl,rfl,hr⟩:=hc.sl;refine ⟨s,t,r,rfl,rfl,rfl,hs.2.symm,ht.2.symm,hr.2.symm,.inr ⟨b,0,3,rfl,hB.lt,Nat.le_refl _,by unfold maxLen;omega,?_⟩,?_⟩
 ·intro i x hx
  rw [Nat.zero_add];exact hB.cell i (by
   match i,hx with
   | 0,hx=>cases hx;rfl
   | 1,hx=>cases hx;rfl
   | 2,hx=>cases hx;rfl)
 ·intro x hx
  rcases List.mem_cons.1 hx with rfl | hx
  ·exact hs
  ·rcases List.mem_cons.1 hx with rfl | hx
   ·exact ht
   ·rcases List.mem_cons.1 hx with rfl | hx
    ·exact hr
    ·cases hx
theorem concat2 (u:World) (b:Nat) (va vb:Value) (xs ys:List Int) (hB:Bk u b 22 [va,vb]) (ha:Lst u va xs) (hb:Lst u vb ys) (l1:xs.length <= 1000000) (l2:ys.length <= 1000000) :
  Calls Try.prog 70 #[.slice (some ⟨b,0,none⟩) 2 2] u fun e w'=>∃ a c,e = .returned (.slice a (xs.length + ys.length) c) /\ Own w' u.heap.size (.slice a (xs.length + ys.length) c) (xs ++ ys) /\ Q u w':=by
 obtain ⟨s,t,rfl,rfl,h1,h2,hll⟩:=two_bk hB ha hb;refine (concat_any _ [s,t] u hll (by simp) ?_).mono ?_
 ·intro x hx
  rcases List.mem_cons.1 hx with rfl | hx
  ·omega
  ·rcases List.mem_cons.1 hx with rfl | hx
   ·omega
   ·cases hx
 ·rintro e w' ⟨v,rfl,ho,hq⟩
  have e1:Tm.cat [s,t] = s.zs ++ t.zs:=by simp [Tm.cat]
  rw [e1] at ho;obtain ⟨a,c,hv⟩:=ho.shape;rw [List.length_append] at hv;subst hv;exact ⟨a,c,rfl,ho,hq⟩
theorem concat3 (u:World) (b:Nat) (va vb vc:Value) (xs ys zs:List Int) (hB:Bk u b 22 [va,vb,vc]) (ha:Lst u va xs) (hb:Lst u vb ys) (hc:Lst u vc zs) (l1:xs.length <= 1000000) (l2:ys.length <= 1000000) (l3:zs.length <= 1000000) :
  Calls Try.prog 70 #[.slice (some ⟨b,0,none⟩) 3 3] u fun e w'=>∃ a c,e = .returned (.slice a (xs.length + ys.length + zs.length) c) /\ Own w' u.heap.size (.slice a (xs.length + ys.length + zs.length) c) (xs ++ ys ++ zs) /\ Q u w':=by
 obtain ⟨s,t,r,rfl,rfl,rfl,h1,h2,h3,hll⟩:=three_bk hB ha hb hc;refine (concat_any _ [s,t,r] u hll (by simp) ?_).mono ?_
 ·intro x hx
  rcases List.mem_cons.1 hx with rfl | hx
  ·omega
  ·rcases List.mem_cons.1 hx with rfl | hx
   ·omega
   ·rcases List.mem_cons.1 hx with rfl | hx
    ·omega
    ·cases hx
 ·rintro e w' ⟨v,rfl,ho,hq⟩
  have e1:Tm.cat [s,t,r] = s.zs ++ t.zs ++ r.zs:=by simp [Tm.cat]
  rw [e1] at ho;obtain ⟨a,c,hv⟩:=ho.shape;rw [List.length_append,List.length_append] at hv;subst hv;exact ⟨a,c,rfl,ho,hq⟩
end Ts
namespace Tp
theorem ret_d2 {fn:Func} {p q:Tmp} (h:fn.results = #[.cell p 37,.tmp q]) {R:Ending -> World -> Prop} {a:Act} {w:World} {g:Nat} {l:List Value} {x:Value}
  (hl:l.length = 4) (hp:a.tmps.getD p undef = .pointer (some ⟨g,0,none⟩)) (hx:a.tmps.getD q undef = x) (hg:Bk w g 37 l) (hd:a.defers = []) (hR:R (.returned (.tuple #[.agg l.toArray,x])) w):bodyPost Try.prog fn R .ret a w:=by
 refine bodyPost_ret (v:=.tuple #[.agg l.toArray,x]) ?_ hd hR;rw [results_cell_tmp h,hp,hx];simp [asAddr,Result.andThen,run_loadVar_row w g 37 37 l.toArray (0,0) _ hg Try.underlying37 rfl (by rw [infoP];simp [hl])]
end Tp
end
section
namespace Ed
open Tm Dm
def spF (s:S):Int:=if mayS s = true then fr s else 0
def spB (s:S):Int:=if mayS s = true then bk s else 0
def rep (d:T) (l:L) (f b:Int) (A:List Int):S × Int :=
 if spC d f b A = 0 then
  if fits (spR d f b A) l = true then (⟨spR d f b A,f + A.length,f + A.length⟩,0) else (S0,4)
 else (S0,spC d f b A)
theorem allSel_eq {s:S} (h:mayS s = true):(decide (fr s < bk s) && decide (bk s - fr s = len s)) = allSel s:=by
 have hb:=span_bd h;unfold allSel;rw [<- Bool.decide_and];exact decide_eq_decide.2 ⟨fun h=>by omega,fun h=>by omega⟩
theorem spF_ok {s:S} (h:mayS s = true):spF s = fr s:=if_pos h
theorem spB_ok {s:S} (h:mayS s = true):spB s = bk s:=if_pos h
def era (s:S) (l:L):S × Int:=if len s = 0 /\ s.d.g = false then (S0,7) else rep T0 l 0 0 []
theorem rep_T0 (l:L):rep T0 l 0 0 [] = if fits T0 l = true then (S0,0) else (S0,4):=by
 unfold rep;rw [if_pos (by rfl)];rfl
theorem era_eq {s:S} {l:L} (h:mayS s = true):ers s l 6 = era s l:=by
 have h0:=spC_nil ((mayS_iff s).1 h).1 (Int.le_refl 0) (show (0:Int) <= len s by unfold len;omega) (Int.le_refl _);obtain ⟨_,_,_,_,_,_,h5,_⟩:=spR_ok h0;have e:spR s.d 0 (len s) [] = ⟨s.d.g,[],false,[]⟩:=by
  rw [h5];have:spl s.d 0 (len s) [] = []:=by
   unfold spl len;rw [Int.toNat_natCast,List.drop_length];rfl
  rw [this];rfl
 unfold ers era;rw [if_pos ⟨h,by omega,by omega⟩,show tkF s 6 = 0 from if_pos rfl,show tkB s 6 = len s from if_pos rfl,show tkG s 6 = false from if_pos rfl,e,rep_T0];by_cases hc:len s = 0 /\ s.d.g = false
 ·rw [if_pos hc,if_pos ⟨hc.1.symm,hc.2.symm⟩]
 ·rw [if_neg hc,if_neg (fun k=>hc ⟨k.1.symm,k.2.symm⟩)]
  rfl
theorem ers_lt6 {s:S} {l:L} {w:Int} (h:mayS s = true) (h0:0 <= w) (h6:w < 6):ers s l w = if tkF s w = tkB s w then (S0,7) else rep s.d l (tkF s w) (tkB s w) []:=by
 obtain ⟨b1,b2,b3⟩:=tk_bd h w;have hc:=spC_nil ((mayS_iff s).1 h).1 b1 b2 b3;obtain ⟨_,_,_,_,_,_,h5,_⟩:=spR_ok hc;have hg:tkG s w = s.d.g:=if_neg (by omega);have hr:(spR s.d (tkF s w) (tkB s w) []).g = s.d.g:=by rw [h5];rfl
 unfold ers rep;rw [if_pos ⟨h,h0,by omega⟩,hg,if_pos hc];by_cases hq:tkF s w = tkB s w
 ·rw [if_pos ⟨hq,rfl⟩,if_pos hq]
 ·rw [if_neg (fun k=>hq k.1),if_neg hq]
  by_cases hf:fits (spR s.d (tkF s w) (tkB s w) []) l = true
  ·rw [if_pos hf,if_pos hf]
   have e2:(⟨s.d.g,(spR s.d (tkF s w) (tkB s w) []).i,(spR s.d (tkF s w) (tkB s w) []).s,(spR s.d (tkF s w) (tkB s w) []).f⟩:T) = spR s.d (tkF s w) (tkB s w) []:=by rw [<- hr]
   rw [e2];simp
  ·rw [if_neg hf,if_neg hf]
theorem tk_lt6 {s:S} {w:Int} (h6:w < 6):tkF s w = (if fr s = bk s then min s.c (way s w) else fr s) /\ tkB s w = (if fr s = bk s then max s.c (way s w) else bk s):=⟨if_neg (by omega),if_neg (by omega)⟩
def gdS (s:S) (p q:Nat):S:=⟨gdT s.d.g s.d.s s.d.i s.d.f p q,Um.around s.c ((ats (gdT s.d.g s.d.s s.d.i s.d.f p q)).length + 1),Um.around s.a ((ats (gdT s.d.g s.d.s s.d.i s.d.f p q)).length + 1)⟩
theorem gdS_may (s:S) (p q:Nat):mayS (gdS s p q) = true:=by
 refine (mayS_iff _).2 ⟨gdT_may _ _ _ _ _ _,?_,?_⟩
 ·have:=Um.around_bd s.c (((ats (gdT s.d.g s.d.s s.d.i s.d.f p q)).length:Int) + 1) (by omega)
  show 0 <= Um.around s.c _ /\ Um.around s.c _ <= ((ats (gdT s.d.g s.d.s s.d.i s.d.f p q)).length:Int);omega
 ·have:=Um.around_bd s.a (((ats (gdT s.d.g s.d.s s.d.i s.d.f p q)).length:Int) + 1) (by omega)
  show 0 <= Um.around s.a _ /\ Um.around s.a _ <= ((ats (gdT s.d.g s.d.s s.d.i s.d.f p q)).length:Int);omega
theorem gdS_len (s:S) (p q:Nat):(gdS s p q).d.i.length <= p /\ (gdS s p q).d.f.length <= q:=gdT_len _ _ _ _ _ _
theorem spF_no {s:S} (h:mayS s = false):spF s = 0:=if_neg (by rw [h];decide)
theorem spB_no {s:S} (h:mayS s = false):spB s = 0:=if_neg (by rw [h];decide)
end Ed
end
end Go.Proofs.Ytnehhbobhnmbcaa
