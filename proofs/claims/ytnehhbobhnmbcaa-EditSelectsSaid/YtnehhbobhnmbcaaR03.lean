/- Worlds that differ in some blocks alone, and what stands through it. (and more) -/
import Derived.Test.YtnehhbobhnmbcaaR02
import Derived.RangeFuncBox
import Derived.Laws.OwnMore
import Derived.OwnWalk
import Derived.Laws.CopyOwn
set_option linter.all false
set_option maxRecDepth 100000
set_option maxHeartbeats 8000000
namespace Go.Proofs.Ytnehhbobhnmbcaa
section
open Go.RowKit
structure Gap (lo hi:Nat) (A A':World):Prop where
 os:A'.os = A.os
 tape:A'.tape = A.tape
 output:A'.output = A.output
 size:A.heap.size <= A'.heap.size
 block:∀ k,k < A.heap.size -> (k < lo \/ hi <= k) -> A'.heap[k]? = A.heap[k]?
theorem Gap.refl (lo hi:Nat) (A:World):Gap lo hi A A:=⟨rfl,rfl,rfl,Nat.le_refl _,fun _ _ _=>rfl⟩
theorem Gap.trans {lo hi:Nat} {A B C:World} (h:Gap lo hi A B) (k:Gap lo hi B C):Gap lo hi A C :=
 ⟨k.os.trans h.os,k.tape.trans h.tape,k.output.trans h.output,Nat.le_trans h.size k.size,fun i hi' ho=>(k.block i (Nat.lt_of_lt_of_le hi' h.size) ho).trans (h.block i hi' ho)⟩
theorem Gap.mono {lo hi lo' hi':Nat} {A B:World} (h:Gap lo hi A B) (h1:lo' <= lo) (h2:hi <= hi'):Gap lo' hi' A B :=
 ⟨h.os,h.tape,h.output,h.size,fun k hk ho=>h.block k hk (by omega)⟩
theorem Q.gap {A B:World} (h:Q A B) (lo hi:Nat):Gap lo hi A B:=⟨h.os,h.tape,h.output,h.size,fun k hk _=>h.block hk⟩
theorem Gap.below {lo hi:Nat} {A B:World} (h:Gap lo hi A B) (hl:lo <= A.heap.size):Below lo A B :=
 ⟨h.os,h.tape,h.output,h.size,fun k hk=>h.block k (Nat.lt_of_lt_of_le hk hl) (.inl hk)⟩
theorem Gap.setCell (A:World) (b o:Nat) (v:Value) (lo hi:Nat) (h1:lo <= b) (h2:b < hi):Gap lo hi A (A.setCell ⟨b,o,none⟩ v) :=
 ⟨rfl,rfl,rfl,by simp [World.setCell],fun k _ ho=>Below.heap_setCell _ _ _ _ (by show k ≠ b;omega)⟩
theorem Gap.alloc (A:World) (o:Obj) (lo hi:Nat):Gap lo hi A (A.alloc o):=((Q.refl A).alloc o).gap lo hi
theorem Gap.grown {A B:World} {row:Option Nat} (lo hi:Nat) (hg:A.grownBy B row) (hr:∀ k,row = some k -> lo <= k /\ k < hi):Gap lo hi A B :=
 ⟨hg.os,hg.tape,hg.output,hg.size,fun k hk ho=>hg.block k hk (fun e=>by have:=hr k e.symm;omega)⟩
theorem Gap.putObj (A:World) (l:Nat) (o:Obj) (lo hi:Nat) (h1:lo <= l) (h2:l < hi):Gap lo hi A (A.putObj l o) :=
 .grown lo hi (grownBy_putObj' A l o) (fun k e=>by cases e;exact ⟨h1,h2⟩)
theorem bx_q {w w':World} {B:Nat} {t:TypeId} {v:Value} (h:Boxed w B t v) (hq:Q w w'):Boxed w' B t v:=(hq.block h.lt).trans h
theorem bx_gap {w w':World} {lo hi B:Nat} {t:TypeId} {v:Value} (h:Boxed w B t v) (hg:Gap lo hi w w') (ho:B < lo \/ hi <= B):Boxed w' B t v:=(hg.block B h.lt ho).trans h
theorem bx_past {w:World} {B:Nat} {t:TypeId} {v:Value} (h:Boxed w B t v) (b o:Nat) (u:Value) (hb:b ≠ B):Boxed (w.setCell ⟨b,o,none⟩ u) B t v :=
 (Below.heap_setCell w ⟨b,o,none⟩ u B (Ne.symm hb)).trans h
theorem Own.gap {w w':World} {B lo hi:Nat} {v:Value} {zs:List Int} (h:Own w B v zs) (hg:Gap lo hi w w') (ho:∀ g,v.ownBlock = some g -> g < lo \/ hi <= g):Own w' B v zs :=
 h.same fun g hv=>hg.block g (h.lt g hv).2 (ho g hv)
theorem Lst.gap {w w':World} {lo hi:Nat} {v:Value} {zs:List Int} (h:Lst w v zs) (hg:Gap lo hi w w') (ho:∀ g o c,v = .slice (some ⟨g,o,none⟩) zs.length c -> g < lo \/ hi <= g):Lst w' v zs:=by
 rcases h with h | ⟨g,off,cap,hv,hl,h1,h2,hc⟩
 ·exact .inl h
 ·refine .inr ⟨g,off,cap,hv,Nat.lt_of_lt_of_le hl hg.size,h1,h2,fun i hi=>?_⟩
  rw [World.cell?_of_block (w:=w) (hg.block g hl (ho g off cap hv))];exact hc i hi
end
section
open Go.RowKit
def GLst {α:Type} (en:α -> Value) (w:World) (v:Value) (zs:List α):Prop :=
 (zs = [] /\ ∃ a c,v = .slice a 0 c /\ c <= maxLen /\ (a = none -> c = 0)) \/
 ∃ g off cap,v = .slice (some ⟨g,off,none⟩) zs.length cap /\ g < w.heap.size /\ zs.length <= cap /\ cap <= maxLen /\ ∀ i x,zs[i]? = some x -> w.cell? ⟨g,off + i,none⟩ = some (en x)
theorem GLst.nil {α:Type} (en:α -> Value) (w:World) (a:Option Addr) (c:Nat) (hc:c <= maxLen) (hn:a = none -> c = 0):GLst en w (.slice a 0 c) []:=.inl ⟨rfl,a,c,rfl,hc,hn⟩
theorem GLst.q {α:Type} {en:α -> Value} {w w':World} {v:Value} {zs:List α} (h:GLst en w v zs) (hq:Q w w'):GLst en w' v zs:=by
 rcases h with h | ⟨g,off,cap,hv,hg,h1,h2,hc⟩
 ·exact .inl h
 ·refine .inr ⟨g,off,cap,hv,Nat.lt_of_lt_of_le hg hq.le,h1,h2,fun i x hi=>?_⟩
  rw [World.cell?_of_block (w:=w) (hq.block hg)];exact hc i x hi
theorem GLst.shape2 {α:Type} {en:α -> Value} {w:World} {v:Value} {zs:List α} (h:GLst en w v zs):∃ a c,v = .slice a zs.length c /\ zs.length <= c /\ c <= maxLen:=by
 rcases h with ⟨rfl,a,c,rfl,hc,_⟩ | ⟨g,off,cap,hv,_,h1,h2,_⟩
 ·exact ⟨a,c,rfl,Nat.zero_le _,hc⟩
 ·exact ⟨_,_,hv,h1,h2⟩
theorem GLst.shape {α:Type} {en:α -> Value} {w:World} {v:Value} {zs:List α} (h:GLst en w v zs):∃ a c,v = .slice a zs.length c:=by
 obtain ⟨a,c,hv,_⟩:=h.shape2;exact ⟨a,c,hv⟩
theorem GLst.form0 {α:Type} {en:α -> Value} {w:World} {v:Value} {zs:List α} {n:Nat} (h:GLst en w v zs) (hn:zs.length = n):∃ a c,v = .slice a n c /\ n <= c /\ c <= maxLen:=by
 subst hn;exact h.shape2
theorem GLst.cellOf {α:Type} {en:α -> Value} {w:World} {v:Value} {zs:List α} {n k:Nat} {x:α} (h:GLst en w v zs) (hn:zs.length = n) (hk:zs[k]? = some x) :
  ∃ g off cap,v = .slice (some ⟨g,off,none⟩) n cap /\ g < w.heap.size /\ n <= cap /\ cap <= maxLen /\ w.cell? ⟨g,off + k,none⟩ = some (en x):=by
 rcases h with ⟨rfl,_⟩ | ⟨g,off,cap,hv,hg,h1,h2,hc⟩
 ·simp at hk
 ·rw [hn] at hv h1
  exact ⟨g,off,cap,hv,hg,h1,h2,hc k x hk⟩
def GOwn {α:Type} (T:TypeId) (en:α -> Value) (w:World) (B:Nat) (v:Value) (zs:List α):Prop:=w.ownsRow B T 1 v zs.length (zs.map en)
theorem GOwn.nil {α:Type} (T:TypeId) (en:α -> Value) (w:World) (B:Nat):GOwn T en w B (.slice none 0 0) []:=World.ownsRow_nil w B T 1
theorem GOwn.mono {α:Type} {T:TypeId} {en:α -> Value} {w:World} {B B':Nat} {v:Value} {zs:List α} (h:GOwn T en w B v zs) (hB:B' <= B):GOwn T en w B' v zs:=by
 obtain ⟨h1,h2⟩:=h;refine ⟨h1,?_⟩;rcases h2 with h2 | ⟨g,cap,cur,hv,hg,r⟩
 ·exact .inl h2
 ·exact .inr ⟨g,cap,cur,hv,by omega,r⟩
theorem GOwn.same {α:Type} {T:TypeId} {en:α -> Value} {w w':World} {B:Nat} {v:Value} {zs:List α} (h:GOwn T en w B v zs) (hs:∀ g,v.ownBlock = some g -> w'.heap[g]? = w.heap[g]?):GOwn T en w' B v zs:=by
 obtain ⟨h1,h2⟩:=h;refine ⟨h1,?_⟩;rcases h2 with h2 | ⟨g,cap,cur,hv,hg,hh,r⟩
 ·exact .inl h2
 ·exact .inr ⟨g,cap,cur,hv,hg,by rw [hs g (by rw [hv];rfl)];exact hh,r⟩
theorem GOwn.lt {α:Type} {T:TypeId} {en:α -> Value} {w:World} {B:Nat} {v:Value} {zs:List α} (h:GOwn T en w B v zs):∀ g,v.ownBlock = some g -> B <= g /\ g < w.heap.size:=World.ownsRow.lt h
theorem GOwn.q {α:Type} {T:TypeId} {en:α -> Value} {w w':World} {B:Nat} {v:Value} {zs:List α} (h:GOwn T en w B v zs) (hq:Q w w'):GOwn T en w' B v zs:=h.same fun g hg=>hq.block (h.lt g hg).2
theorem GOwn.gap {α:Type} {T:TypeId} {en:α -> Value} {w w':World} {B lo hi:Nat} {v:Value} {zs:List α} (h:GOwn T en w B v zs) (hg:Gap lo hi w w') (ho:∀ g,v.ownBlock = some g -> g < lo \/ hi <= g):GOwn T en w' B v zs :=
 h.same fun g hv=>hg.block g (h.lt g hv).2 (ho g hv)
theorem GOwn.cells {α:Type} {T:TypeId} {en:α -> Value} {w:World} {B:Nat} {v:Value} {zs:List α} (h:GOwn T en w B v zs):∀ g,v.ownBlock = some g -> ∃ cur,w.heap[g]? = some (.cells cur T (0,0)):=by
 intro g hg;rcases h.2 with ⟨rfl,_⟩ | ⟨g',cap,cur,rfl,_,hh,_⟩
 ·cases hg
 ·cases hg;exact ⟨cur,hh⟩
theorem GOwn.lst {α:Type} {T:TypeId} {en:α -> Value} {w:World} {B:Nat} {v:Value} {zs:List α} (h:GOwn T en w B v zs):GLst en w v zs:=by
 rcases h.2 with ⟨hv,hn⟩ | ⟨g,cap,cur,hv,_,hh,hnc,hcm,hcs,ht⟩
 ·have:zs = []:=List.eq_nil_of_length_eq_zero hn
  subst this;subst hv;exact .nil _ _ _ _ (by unfold maxLen;omega) (fun _=>rfl)
 ·refine .inr ⟨g,0,cap,hv,(Array.getElem?_eq_some_iff.1 hh).1,hnc,hcm,fun i x hx=>?_⟩
  have hi:i < zs.length:=(List.getElem?_eq_some_iff.1 hx).1;rw [cell_of_row w g (0 + i) cur T (0,0) hh];have h1:=congrArg (fun l=>l[i]?) ht;simp only [List.getElem?_map,Nat.mul_one] at h1;rw [List.getElem?_take,if_pos hi,hx] at h1;rw [Nat.zero_add,<- Array.getElem?_toList,h1];rfl
theorem GOwn.shape {α:Type} {T:TypeId} {en:α -> Value} {w:World} {B:Nat} {v:Value} {zs:List α} (h:GOwn T en w B v zs):∃ a c,v = .slice a zs.length c:=h.lst.shape
theorem GOwn.not_int {α:Type} {T:TypeId} {en:α -> Value} {w:World} {B B':Nat} {v u:Value} {zs:List α} {ys:List Int} (h:GOwn T en w B v zs) (k:Own w B' u ys) (ht:T ≠ 3):∀ g,v.ownBlock = some g -> u.ownBlock ≠ some g:=by
 intro g hg hu;obtain ⟨c1,h1⟩:=h.cells g hg;obtain ⟨c2,h2⟩:=k.cells g hu;rw [h1] at h2;simp at h2;exact ht h2.2
theorem GLst.made {α:Type} (en:α -> Value) (T:TypeId) (w:World) (zs:List α) (n:Nat) (hn:zs.length = n) (hm:n <= maxLen):GLst en (w.alloc (.cells (zs.map en).toArray T)) (.slice (some ⟨w.heap.size,0,none⟩) n n) zs:=by
 subst hn;refine .inr ⟨w.heap.size,0,zs.length,rfl,by simp,Nat.le_refl _,hm,fun i x hi=>?_⟩;rw [World.cell?_alloc_at _ _ _ _ rfl,Nat.zero_add];simp only [List.getElem?_toArray,List.getElem?_map,hi];rfl
structure Elem (T ST:TypeId) (z:Value) (bytes:Nat):Prop where
 info:(Try.prog.info? T).map (fun i=>(i.zero,i.size,i.bytes)) = some (some z,1,bytes)
 under:Try.prog.underlying ST = some (.slice T)
 one:z.cells.size = 1
 small:bytes <= 64
theorem gpush {α:Type} {T ST:TypeId} {z:Value} {bytes:Nat} (he:Elem T ST z bytes) {en:α -> Value} {w:World} {B:Nat} {v:Value} {zs:List α} (hown:GOwn T en w B v zs) {ops:Array Oper} {rest:List Oper} {o:Oper} {a:Act} {R:Exit -> Act -> World -> Prop} (hgd:o.guard = none) (s x:Operand)
  (ho:o.op = .call { callee:=.builtin .append,args:=#[s,x],argTypes:=#[ST,ST] })
  (y:α) (h1c:(en y).oneCell' = true) (hs:a.eval s = v) (hx:a.eval x = .slice (some ⟨w.heap.size,0,none⟩) 1 1) (hlen:zs.length < 1099511627776) (hB:B <= w.heap.size)
  (h:∀ v' w',GOwn T en w' B v' (zs ++ [y]) -> w.grownBy w' v.ownBlock -> (v'.ownBlock = v.ownBlock \/ v'.ownBlock = some (w.heap.size + 1)) -> wpList Try.prog ops R rest (a.put o.dst v') w') :
  wpList Try.prog ops R (o :: rest) a (w.alloc (.cells #[en y] T)):=by
 obtain ⟨i0,hi,hz0,hz1,hz2⟩:=info_parts he.info;refine wpList_append_own_at _ hgd s x ST ho B T i0 z 1 bytes he.under hi hz0 hz1 hz2 he.one (by decide) v zs.length _ hs (World.ownsRow.alloc hown _)
  ⟨w.heap.size,0,none⟩ 1 1 [en y] hx rfl (cell_one_new _ _ _) ?_ ?_ ?_ ?_ ?_
 ·intro u hu;simp at hu;subst hu;exact h1c
 ·unfold maxLen;omega
 ·have h1:(zs.length + 1) * bytes <= (zs.length + 1) * 64:=Nat.mul_le_mul_left _ he.small
  omega
 ·simp;omega
 ·intro v' w' hown' hg _ hat
  refine h v' w' ?_ ?_ ?_
  ·have e1:(zs ++ [y]).length = zs.length + 1:=by simp
   unfold GOwn;rw [e1,List.map_append];exact hown'
  ·exact (World.grownBy_alloc w _ _).trans hg
  ·simpa using hat
theorem gpushl {α:Type} {T ST:TypeId} {z:Value} {bytes:Nat} (he:Elem T ST z bytes) {en:α -> Value} (h1c:∀ y,(en y).oneCell' = true) {w:World} {B:Nat} {v u:Value} {zs ys:List α} (hown:GOwn T en w B v zs) (hu:GLst en w u ys) {ops:Array Oper} {rest:List Oper} {o:Oper} {a:Act} {R:Exit -> Act -> World -> Prop} (hgd:o.guard = none) (s x:Operand)
  (ho:o.op = .call { callee:=.builtin .append,args:=#[s,x],argTypes:=#[ST,ST] })
  (hs:a.eval s = v) (hx:a.eval x = u) (hlen:zs.length + ys.length < 1099511627776) (hB:B <= w.heap.size)
  (h:∀ v' w',GOwn T en w' B v' (zs ++ ys) -> w.grownBy w' v.ownBlock -> (v'.ownBlock = v.ownBlock \/ v'.ownBlock = some w.heap.size) -> wpList Try.prog ops R rest (a.put o.dst v') w') :
  wpList Try.prog ops R (o :: rest) a w:=by
 obtain ⟨i0,hi,hz0,hz1,hz2⟩:=info_parts he.info;have key:∀ (ad:Addr) (m c:Nat),u = .slice (some ad) m c -> ys.length = m -> (∀ j x,(ys.map en)[j]? = some x -> w.cell? (ad.add j) = some x) -> wpList Try.prog ops R (o :: rest) a w:=by
  intro ad m c hu hm hc;subst hu;subst hm;refine wpList_append_own_at _ hgd s x ST ho B T i0 z 1 bytes he.under hi hz0 hz1 hz2 he.one (by decide) v zs.length _ hs hown
   ad ys.length c (ys.map en) hx (by simp) hc ?_ ?_ ?_ hB ?_
  ·intro u hu
   obtain ⟨y,_,rfl⟩:=List.mem_map.1 hu;exact h1c y
  ·unfold maxLen;omega
  ·have h1:(zs.length + ys.length) * bytes <= (zs.length + ys.length) * 64:=Nat.mul_le_mul_left _ he.small
   omega
  ·intro v' w' hown' hg _ hat
   refine h v' w' ?_ hg hat;have e1:(zs ++ ys).length = zs.length + ys.length:=by simp
   unfold GOwn;rw [e1,List.map_append];exact hown'
 rcases hu with ⟨rfl,ad,c,rfl,hc,hn⟩ | ⟨g,off,cap,hv,hg,h1,h2,hc⟩
 ·cases ad with
  | none =>
   obtain rfl:=hn rfl;refine wpList_append_own_none hgd s x ST ho B T i0 1 he.under hi v zs.length _ hs hown hx ?_;exact h v w (by rw [List.append_nil];exact hown) ⟨rfl,rfl,rfl,Nat.le_refl _,fun _ _ _=>rfl⟩ (.inl rfl)
  | some ad=>exact key ad 0 c rfl rfl (by simp)
 ·refine key ⟨g,off,none⟩ ys.length cap hv rfl fun j x hj=>?_
  have hadd:(⟨g,off,none⟩:Addr).add j = ⟨g,off + j,none⟩:=by unfold Addr.add;split <;> simp_all
  rw [List.getElem?_map] at hj;obtain ⟨y,hy,rfl⟩:=Option.map_eq_some_iff.1 hj;rw [hadd,hc j y hy]
abbrev SLst (w:World) (v:Value) (zs:List ByteArray):Prop:=GLst Value.string w v zs
abbrev SOwn (w:World) (B:Nat) (v:Value) (zs:List ByteArray):Prop:=GOwn 9 Value.string w B v zs
theorem str_ne {p q:ByteArray} (h:p ≠ q):(p.toList == q.toList) = false:=by
 rw [beq_eq_false_iff_ne,ByteArray.toList_eq,ByteArray.toList_eq];intro e;apply h;cases p with | mk x=>cases q with | mk y =>
  rw [ByteArray.mk.injEq];exact Array.toList_inj.1 e
theorem oneS (s:ByteArray):(Value.string s).oneCell' = true:=rfl
end
namespace Dm
def st:Nat -> Nat -> Nat × Nat
 | M,0=>(M,0)
 | M,s + 1=>if M % 10 = 0 then st (M / 10) s else (M,s + 1)
theorem st_zero (s:Nat):st 0 s = (0,0):=by
 induction s with
 | zero=>rfl
 | succ s ih=>rw [st,if_pos rfl];exact ih
theorem st_on (M s:Nat) (h:M % 10 = 0):st M (s + 1) = st (M / 10) s:=by rw [st,if_pos h]
theorem st_end (M s:Nat) (h:M % 10 ≠ 0):st M (s + 1) = (M,s + 1):=by rw [st,if_neg h]
theorem st_ten (M s:Nat):st (M * 10) (s + 1) = st M s:=by rw [st_on _ _ (by omega),show M * 10 / 10 = M from by omega]
theorem st_tens (M s k:Nat):st (M * 10 ^ k) (s + k) = st M s:=by
 induction k with
 | zero=>simp
 | succ k ih =>
  rw [Nat.pow_succ,<- Nat.mul_assoc,show s + (k + 1) = (s + k) + 1 from by omega,st_ten,ih]
theorem st_le (M s:Nat):(st M s).2 <= s:=by
 induction s generalizing M with
 | zero=>exact Nat.le_refl _
 | succ s ih =>
  rw [st];split
  ·exact Nat.le_succ_of_le (ih _)
  ·exact Nat.le_refl _
theorem st_num (M s:Nat):(st M s).1 * 10 ^ (s - (st M s).2) = M:=by
 induction s generalizing M with
 | zero=>simp [st]
 | succ s ih =>
  by_cases h:M % 10 = 0
  ·rw [st_on M s h]
   have h1:=ih (M / 10);have h2:=st_le (M / 10) s;rw [show s + 1 - (st (M / 10) s).2 = (s - (st (M / 10) s).2) + 1 from by omega,Nat.pow_succ,<- Nat.mul_assoc,h1];omega
  ·rw [st_end M s h];simp
theorem st_trim (M s:Nat):st (st M s).1 (st M s).2 = st M s:=by
 induction s generalizing M with
 | zero=>rfl
 | succ s ih =>
  by_cases h:M % 10 = 0
  ·rw [st_on M s h];exact ih _
  ·rw [st_end M s h,st_end M s h]
theorem st_pos (M s:Nat) (h:M ≠ 0):(st M s).1 ≠ 0:=by
 intro h0;have:=st_num M s;rw [h0] at this;omega
theorem st_eq0 (M s:Nat):(st M s).1 = 0 ↔ M = 0:=by
 constructor
 ·intro h
  rcases Nat.eq_zero_or_pos M with h1 | h1
  ·exact h1
  ·exact absurd h (st_pos M s (by omega))
 ·intro h;rw [h,st_zero]
def cg (g:Bool) (M:Nat):Bool:=if M = 0 then false else g
theorem cg_zero (g:Bool):cg g 0 = false:=rfl
theorem cg_pos {g:Bool} {M:Nat} (h:M ≠ 0):cg g M = g:=if_neg h
theorem cg_st (g:Bool) (M s:Nat):cg g (st M s).1 = cg g M:=by
 unfold cg;by_cases h:M = 0
 ·rw [if_pos h,if_pos ((st_eq0 M s).2 h)]
 ·rw [if_neg h,if_neg (st_pos M s h)]
theorem cg_cg (g:Bool) (M:Nat):cg (cg g M) M = cg g M:=by unfold cg;split <;> rfl
theorem dg_last (M:Nat) (h:M ≠ 0):(dg M).length = (dg (M / 10)).length + 1 /\ (dg M).getD ((dg M).length - 1) 0 = ((M % 10:Nat):Int) /\ (dg M).take ((dg M).length - 1) = dg (M / 10):=by
 have h1:=dg_pos M h;have hl:(dg M).length = (dg (M / 10)).length + 1:=by rw [h1,List.length_append];rfl
 refine ⟨hl,?_,?_⟩
 ·rw [hl,Nat.add_sub_cancel,List.getD_eq_getElem?_getD]
  conv=>lhs;rw [h1]
  rw [List.getElem?_append_right (Nat.le_refl _),Nat.sub_self];rfl
 ·rw [hl,Nat.add_sub_cancel]
  conv=>lhs;rw [h1]
  simp
theorem dg_nil (M:Nat):dg M = [] ↔ M = 0:=by
 constructor
 ·intro h
  have:=num_dg M;rw [h,num_nil] at this;exact this.symm
 ·intro h;rw [h,dg_zero]
theorem cmpZ_mul (x y p:Nat) (hp:0 < p):cmpZ ((x * p:Nat):Int) ((y * p:Nat):Int) = cmpZ (x:Int) (y:Int):=by
 rcases Nat.lt_trichotomy x y with h | h | h
 ·rw [cmpZ_lt (by have:=Nat.mul_lt_mul_of_pos_right h hp;omega),cmpZ_lt (by omega)]
 ·subst h;rw [cmpZ_eq rfl,cmpZ_eq rfl]
 ·rw [cmpZ_gt (by have:=Nat.mul_lt_mul_of_pos_right h hp;omega),cmpZ_gt (by omega)]
def cmpS (A sa B sb:Nat):Int:=cmpZ ((A * 10 ^ sb:Nat):Int) ((B * 10 ^ sa:Nat):Int)
theorem cmpS_at (A sa B sb n:Nat) (ha:sa <= n) (hb:sb <= n):cmpZ ((A * 10 ^ (n - sa):Nat):Int) ((B * 10 ^ (n - sb):Nat):Int) = cmpS A sa B sb:=by
 unfold cmpS;rw [<- cmpZ_mul (A * 10 ^ (n - sa)) (B * 10 ^ (n - sb)) (10 ^ (sa + sb)) (Nat.pow_pos (by omega)),<- cmpZ_mul (A * 10 ^ sb) (B * 10 ^ sa) (10 ^ n) (Nat.pow_pos (by omega))];rw [Nat.mul_assoc,Nat.mul_assoc,Nat.mul_assoc,Nat.mul_assoc,<- Nat.pow_add,<- Nat.pow_add,<- Nat.pow_add,<- Nat.pow_add];rw [show n - sa + (sa + sb) = sb + n from by omega,show n - sb + (sa + sb) = sa + n from by omega]
theorem cmpS_st (A sa B sb:Nat):cmpS (st A sa).1 (st A sa).2 (st B sb).1 (st B sb).2 = cmpS A sa B sb:=by
 have h1:=st_num A sa;have h2:=st_num B sb;have h3:=st_le A sa;have h4:=st_le B sb;unfold cmpS;conv=>rhs;rw [<- h1,<- h2]
 rw [<- cmpZ_mul ((st A sa).1 * 10 ^ (st B sb).2) ((st B sb).1 * 10 ^ (st A sa).2) (10 ^ (sa - (st A sa).2 + (sb - (st B sb).2))) (Nat.pow_pos (by omega))];rw [Nat.mul_assoc,Nat.mul_assoc,Nat.mul_assoc,Nat.mul_assoc,<- Nat.pow_add,<- Nat.pow_add,<- Nat.pow_add,<- Nat.pow_add];rw [show (st B sb).2 + (sa - (st A sa).2 + (sb - (st B sb).2)) = sa - (st A sa).2 + sb from by omega,show (st A sa).2 + (sa - (st A sa).2 + (sb - (st B sb).2)) = sb - (st B sb).2 + sa from by omega]
def cmpD (g:Bool) (A sa:Nat) (h:Bool) (B sb:Nat):Int :=
 if cg g A = cg h B then (if cg g A = true then - cmpS A sa B sb else cmpS A sa B sb) else (if cg g A = true then -1 else 1)
end Dm
section
open Go.RowKit
theorem GOwn.cellAt {α:Type} {T:TypeId} {en:α -> Value} {w:World} {B g n cap:Nat} {zs:List α} (h:GOwn T en w B (.slice (some ⟨g,0,none⟩) n cap) zs) (hn:zs.length = n) {k:Nat} {x:α} (hk:zs[k]? = some x):w.cell? ⟨g,k,none⟩ = some (en x):=by
 subst hn;have hl:=(List.getElem?_eq_some_iff.1 hk).1;rw [World.ownsRow.cellAt h k (by omega),List.getElem?_map,hk];rfl
theorem GOwn.freeAt {α:Type} {T:TypeId} {en:α -> Value} {w:World} {B g n cap:Nat} {zs:List α} (h:GOwn T en w B (.slice (some ⟨g,0,none⟩) n cap) zs) (hn:zs.length = n) (k:Nat):w.frozen? ⟨g,k,none⟩ = false:=by
 subst hn;exact World.ownsRow.frozenAt h k
theorem GOwn.stored {α:Type} {T:TypeId} {en:α -> Value} {w:World} {B g n cap:Nat} {zs:List α} (h:GOwn T en w B (.slice (some ⟨g,0,none⟩) n cap) zs) (hn:zs.length = n) (k:Nat) (x:α):GOwn T en (w.setCell ⟨g,k,none⟩ (en x)) B (.slice (some ⟨g,0,none⟩) n cap) (zs.set k x):=by
 subst hn;have:=(World.ownsRow.stored h k (en x)).1;unfold GOwn;rw [List.length_set,List.map_set];exact this
theorem Own.cellAt {w:World} {B g n cap:Nat} {zs:List Int} (h:Own w B (.slice (some ⟨g,0,none⟩) n cap) zs) (hn:zs.length = n) {k:Nat} (hk:k < n):w.cell? ⟨g,k,none⟩ = some (.int .i64 (zs.getD k 0)):=by
 refine GOwn.cellAt (T:=3) (en:=Value.int .i64) h hn ?_;rw [List.getD_eq_getElem?_getD,List.getElem?_eq_getElem (by omega)];rfl
theorem Own.freeAt {w:World} {B g n cap:Nat} {zs:List Int} (h:Own w B (.slice (some ⟨g,0,none⟩) n cap) zs) (hn:zs.length = n) (k:Nat):w.frozen? ⟨g,k,none⟩ = false :=
 GOwn.freeAt (T:=3) (en:=Value.int .i64) h hn k
theorem Own.stored {w:World} {B g n cap:Nat} {zs:List Int} (h:Own w B (.slice (some ⟨g,0,none⟩) n cap) zs) (hn:zs.length = n) (k:Nat) (x:Int):Own (w.setCell ⟨g,k,none⟩ (.int .i64 x)) B (.slice (some ⟨g,0,none⟩) n cap) (zs.set k x) :=
 GOwn.stored (T:=3) (en:=Value.int .i64) h hn k x
theorem Own.head {w:World} {B n:Nat} {v:Value} {zs:List Int} (h:Own w B v zs) (hn:zs.length = n) (h0:0 < n):∃ g cap,v = .slice (some ⟨g,0,none⟩) n cap /\ B <= g /\ g < w.heap.size /\ n <= cap /\ cap <= maxLen:=by
 rcases h.2 with ⟨_,hz⟩ | ⟨g,cap,cur,hv,hg,hh,hnc,hcm,_⟩
 ·omega
 ·rw [hn] at hv hnc
  exact ⟨g,cap,hv,hg,(Array.getElem?_eq_some_iff.1 hh).1,hnc,hcm⟩
theorem Q.setCell {a w:World} (h:Q a w) {ad:Addr} (hg:a.heap.size <= ad.block) (u:Value):Q a (w.setCell ad u) :=
 Below.trans h ⟨rfl,rfl,rfl,by simp,fun k hk=>heap_setCell_other w ad k u (by omega)⟩
theorem Lst.setCell {w:World} {v:Value} {zs:List Int} (h:Lst w v zs) {ad:Addr} (u:Value) (ho:∀ a n c,v = .slice (some a) n c -> n ≠ 0 -> a.block ≠ ad.block):Lst (w.setCell ad u) v zs:=by
 rcases h with h | ⟨g,off,cap,hv,hg,h1,h2,hc⟩
 ·exact .inl h
 ·by_cases h0:zs.length = 0
  ·have:zs = []:=List.eq_nil_of_length_eq_zero h0
   subst this;exact .inl ⟨rfl,_,_,hv,h2,fun h=>by cases h⟩
  ·refine .inr ⟨g,off,cap,hv,by simpa using hg,h1,h2,fun i hi=>?_⟩
   rw [World.cell?_of_block (w:=w) (heap_setCell_other w ad g u (fun e=>ho _ _ _ hv h0 e))];exact hc i hi
theorem Lst.old {w:World} {v:Value} {zs:List Int} (h:Lst w v zs):∀ a n c,v = .slice (some a) n c -> n ≠ 0 -> a.block < w.heap.size:=by
 rintro a n c rfl hn;rcases h with ⟨rfl,_,_,hv,_⟩ | ⟨g,off,cap,hv,hg,_⟩
 ·cases hv;exact absurd rfl hn
 ·cases hv;exact hg
theorem make_ints {w:World} {B:Nat} {ops:Array Oper} {rest:List Oper} {o:Oper} {a:Act} {R:Exit -> Act -> World -> Prop} (hgd:o.guard = none) (l c:Operand)
  (ho:o.op = .makeSlice 22 l c) (n:Nat) (L:Int) (hl:a.eval l = .int .i64 L) (hc:a.eval c = .int .i64 L) (hL:L = (n:Int)) (hn:n < 1099511627776) (hB:B <= w.heap.size)
  (h:∀ w',Own w' B (.slice (some ⟨w.heap.size,0,none⟩) n n) (List.replicate n 0) -> Q w w' -> w.heap.size < w'.heap.size -> wpList Try.prog ops R rest (a.put o.dst (.slice (some ⟨w.heap.size,0,none⟩) n n)) w') :
  wpList Try.prog ops R (o :: rest) a w:=by
 obtain ⟨i0,hi,hz0,hz1,hz2⟩:=info_parts infoInt;refine wpList_make_full w hgd l c _ ho B 3 i0 (.int .i64 0) 1 Try.underlying22 hi hz0 hz1 .i64 .i64 L L n hl hc hL hL (by rw [hz2];omega) (by unfold maxLen;omega) hB ?_;intro w' hown hg;have hown2:Own w' B (.slice (some ⟨w.heap.size,0,none⟩) n n) (List.replicate n 0):=by
  unfold Own;rw [List.length_replicate,List.map_replicate];have e:(madeCells (Value.cells (.int .i64 0)) (n * 1)).toList = List.replicate n (Value.int .i64 0):=by
   rw [Nat.mul_one];exact toList_madeCells_one _ _
  rw [e] at hown;exact hown
 refine h w' hown2 ((Q.refl w).grown hg (fun k hk=>by cases hk)) ?_;rcases hown.2 with ⟨h1,_⟩ | ⟨g,cap,cur,hv,_,hh,_⟩
 ·cases h1
 ·cases hv
  exact (Array.getElem?_eq_some_iff.1 hh).1
theorem Lst.drop {w:World} {g off n c k:Nat} {zs:List Int} (h:Lst w (.slice (some ⟨g,off,none⟩) n c) zs) (hn:zs.length = n) (hk:k < n):Lst w (.slice (some ⟨g,off + k,none⟩) (n - k) (c - k)) (zs.drop k):=by
 rcases h with ⟨rfl,_⟩ | ⟨g',off',cap,hv,hg,h1,h2,hc⟩
 ·simp at hn;omega
 ·cases hv
  have hl:(zs.drop k).length = zs.length - k:=by simp
  refine .inr ⟨g,off + k,c - k,by rw [hl],hg,by omega,by unfold maxLen at *;omega,fun i hi=>?_⟩;rw [hl] at hi;rw [Nat.add_assoc,hc (k + i) (by omega),List.getD_eq_getElem?_getD,List.getD_eq_getElem?_getD,List.getElem?_drop]
structure Sl where
 a:Option Addr
 n:Nat
 c:Nat
 zs:List Int
def Sl.v (s:Sl):Value:=.slice s.a s.n s.c
theorem Sl.one (s:Sl):(Sl.v s).oneCell' = true:=rfl
def Sl.ok (w:World) (s:Sl):Prop:=Lst w s.v s.zs /\ s.zs.length = s.n
theorem Sl.ok.q {w w':World} {s:Sl} (h:s.ok w) (hq:Q w w'):s.ok w':=⟨h.1.q hq,h.2⟩
theorem Lst.sl {w:World} {v:Value} {zs:List Int} (h:Lst w v zs):∃ s:Sl,v = s.v /\ s.zs = zs /\ s.ok w:=by
 obtain ⟨a,c,rfl⟩:=h.shape;exact ⟨⟨a,zs.length,c,zs⟩,rfl,rfl,h,rfl⟩
theorem elemI:Elem 22 109 (.slice none 0 0) 24:=⟨by kernel_rfl,Try.underlying109,rfl,by omega⟩
def LL (w:World) (v:Value) (ls:List Sl):Prop:=GLst Sl.v w v ls /\ ∀ s ∈ ls,s.ok w
theorem LL.q {w w':World} {v:Value} {ls:List Sl} (h:LL w v ls) (hq:Q w w'):LL w' v ls:=⟨h.1.q hq,fun s hs=>(h.2 s hs).q hq⟩
def LO (w:World) (B:Nat) (v:Value) (ls:List Sl):Prop:=GOwn 22 Sl.v w B v ls /\ ∀ s ∈ ls,s.ok w
theorem LO.q {w w':World} {B:Nat} {v:Value} {ls:List Sl} (h:LO w B v ls) (hq:Q w w'):LO w' B v ls:=⟨h.1.q hq,fun s hs=>(h.2 s hs).q hq⟩
theorem LO.ll {w:World} {B:Nat} {v:Value} {ls:List Sl} (h:LO w B v ls):LL w v ls:=⟨h.1.lst,h.2⟩
theorem Lst.rest {w:World} {a:Option Addr} {n c z:Nat} {zs:List Int} (h:Lst w (.slice a n c) zs) (hn:zs.length = n) (hz:z <= n) :
  (∃ g off,a = some ⟨g,off,none⟩ /\ z < n /\ n <= c /\ c <= 9223372036854775807 /\ Lst w (.slice (some ⟨g,off + z,none⟩) (n - z) (c - z)) (zs.drop z)) \/
  (z = n /\ c = n /\ zs.drop z = []) \/ (∃ ad,a = some ad /\ z = n /\ n < c /\ c <= 9223372036854775807 /\ zs.drop z = []):=by
 by_cases hlt:z < n
 ·obtain ⟨g,off,cap,hv,hg,h1,h2,_⟩:=h.cellOf hn hlt
  cases hv;exact .inl ⟨g,off,rfl,hlt,h1,by unfold maxLen at h2;omega,h.drop hn hlt⟩
 ·have he:zs.drop z = []:=List.drop_eq_nil_of_le (by omega)
  have hc:=h.form0 hn;obtain ⟨_,_,hv,h1,h2⟩:=hc;cases hv;unfold maxLen at h2;by_cases hcn:c = n
  ·exact .inr (.inl ⟨by omega,hcn,he⟩)
  ·refine .inr (.inr ?_)
   cases a with
   | some ad=>exact ⟨ad,rfl,by omega,by omega,by omega,he⟩
   | none =>
    rcases h with ⟨rfl,_,_,hv2,_,hn2⟩ | ⟨_,_,_,hv2,_⟩
    ·cases hv2
     have:=hn2 rfl;omega
    ·cases hv2
end
end Go.Proofs.Ytnehhbobhnmbcaa
