/- Lists of numbers in memory: what a list that came in, or that a call has made, reads as, and what becomes of it. (and more) -/
import Derived.Test.YtnehhbobhnmbcaaRows
import Derived.WalkKit
import Derived.WalkSpells
import Derived.WalkSmall
import Derived.WalkLawsBesides
import Derived.Maps.AppendAt
import Derived.Laws.AppendOwnNone
import Derived.Lib.OthersKept
import Derived.Lib.Hide
import Derived.OpenShut
import Derived.Deep.RegionHeld
set_option linter.all false
set_option maxRecDepth 100000
set_option maxHeartbeats 8000000
namespace Go.Proofs.Ytnehhbobhnmbcaa
theorem gA {α : Type _} {l : List α} {i : Nat} : l.toArray[i]? = l[i]? := by simp
theorem gB {α : Type _} {a : α} {l : List α} {i : Nat} : (a :: l)[i + 1]? = l[i]? := List.getElem?_cons_succ
theorem gC {α : Type _} {a : α} {l : List α} : (a :: l)[0]? = some a := List.getElem?_cons_zero
theorem sA {α : Type _} {l : List α} {i : Nat} {a : α} : l.toArray.setIfInBounds i a = (l.set i a).toArray := by simp
theorem sB {α : Type _} {a b : α} {l : List α} : (a :: l).set 0 b = b :: l := List.set_cons_zero
theorem sC {α : Type _} {a b : α} {l : List α} {i : Nat} : (a :: l).set (i + 1) b = a :: l.set i b := List.set_cons_succ
@[reducible] def tt : Bool := true
@[reducible] def ff : Bool := false
theorem tk {P:Program} {ops:Array Oper} {Q:Exit → Act → World → Prop} {md:Region.Mode} {S:World → Prop} {fuel:Nat} {listed:Array Bool} {a:Act} {w:World} (i:Nat) {oi:Oper} {v:Value} (hi:ops[i]? = some oi)
  (hb:(Region.noSelect ops && (Region.free md ops listed i && ((Region.ready md ops listed).contains i && Region.wanted oi (yielded ops a.tmps)))) = true) (hy:∀ u,S u → (execOp a.eval oi).run P u = .ok (.value v) u)
  (hQ:∀ c b x,Q (.panic c) (b.put oi.dst v) x → Q (.panic c) b x) (hS:S w) (h:wpAnyH P md ops Q S fuel (listed.setIfInBounds i true) (a.put oi.dst v) w):wpAnyH P md ops Q S (fuel + 1) listed a w:=by
  simp only [Bool.and_eq_true] at hb
  exact wpAnyH_take hi hb.1 hb.2.1 hb.2.2.1 hQ (Or.inl ⟨hb.2.2.2,hy⟩) hS h
theorem tu {P:Program} {ops:Array Oper} {Q:Exit → Act → World → Prop} {md:Region.Mode} {S:World → Prop} {fuel:Nat} {listed:Array Bool} {a:Act} {w:World} (i:Nat) {oi:Oper} (hi:ops[i]? = some oi)
  (hb:(Region.noSelect ops && (Region.free md ops listed i && ((Region.ready md ops listed).contains i && !Region.wanted oi (yielded ops a.tmps)))) = true)
  (hQ:∀ c b x,Q (.panic c) (b.put oi.dst undef) x → Q (.panic c) b x) (hS:S w) (h:wpAnyH P md ops Q S fuel (listed.setIfInBounds i true) (a.put oi.dst undef) w):wpAnyH P md ops Q S (fuel + 1) listed a w:=by
  simp only [Bool.and_eq_true,Bool.not_eq_true'] at hb
  exact wpAnyH_take hi hb.1 hb.2.1 hb.2.2.1 hQ (Or.inr ⟨hb.2.2.2,rfl⟩) hS h
theorem ar {P:Program} {ops:Array Oper} {Q:Exit → Act → World → Prop} {md:Region.Mode} {S:World → Prop} {fuel:Nat} {listed:Array Bool} {a:Act} {w:World} {i:Nat} {o:Oper} (ho:ops[i]? = some o)
  (h:∀ K' : Act → World → Prop,Shut (∀ a w,S w → (S w → wpAnyH P md ops Q S fuel (listed.setIfInBounds i true) a w) → K' a w) → if Region.wanted o (yielded ops a.tmps) = true then Oper.wp P o a w K' Q else K' (a.put o.dst undef) w):
  AllReadyH P md ops Q S fuel listed a w [i]:=.cons ho h .nil
theorem pq {α β γ:Sort _} {p:α → β → γ → Prop}:∀ a b c,p a b c → p a b c:=fun _ _ _ h=>h
theorem Hd {p:Prop} (h:p):RowKit.Hid p:=h
end Go.Proofs.Ytnehhbobhnmbcaa
namespace Go.Proofs.Ytnehhbobhnmbcaa
section
open Go.RowKit
theorem retB {a b:Bool} (h:a = b):Ending.returned (.bool a) = .returned (.bool b):=by rw [h]
theorem retI {k:IntKind} {a b:Int} (h:a = b):Ending.returned (.int k a) = .returned (.int k b):=by rw [h]
theorem retS {a b:ByteArray} (h:a = b):Ending.returned (.string a) = .returned (.string b):=by rw [h]
def Q (w w':World):Prop:=Below w.heap.size w w'
theorem Q.refl (w:World):Q w w:=Below.refl _ _
theorem Q.trans {a b c:World} (h:Q a b) (k:Q b c):Q a c:=Below.trans h (Below.mono k h.size)
theorem Q.alloc {a w:World} (h:Q a w) (o:Obj):Q a (w.alloc o):=Below.alloc h h.size o
theorem Q.drew {a w:World} (h:Q a w):Q a w.drew:=Below.drew h
theorem Q.drewN {a w:World} (h:Q a w) (n:Nat):Q a (w.drewN n):=below_drewN h n
theorem Q.below {a w:World} (h:Q a w):Below a.heap.size a w:=h
theorem Q.block {a w:World} (h:Q a w) {k:Nat} (hk:k < a.heap.size):w.heap[k]? = a.heap[k]?:=Below.block h k hk
theorem Q.le {a w:World} (h:Q a w):a.heap.size <= w.heap.size:=Below.size h
theorem Q.iterAt {a w:World} (h:Q a w) {k:Nat} (hk:a.heap.size <= k) (s:ByteArray) (p:Nat):Q a (w.iterAt k s p):=Lib.below_iterAt h hk s p
theorem Q.grown {a w w':World} {row:Option Nat} (h:Q a w) (hg:w.grownBy w' row) (hr:∀ k,row = some k -> a.heap.size <= k):Q a w':=Below.grown h hg h.size hr
def Lst (w:World) (v:Value) (zs:List Int):Prop :=
 (zs = [] /\ ∃ a c,v = .slice a 0 c /\ c <= maxLen /\ (a = none -> c = 0)) \/
 ∃ g off cap,v = .slice (some ⟨g,off,none⟩) zs.length cap /\ g < w.heap.size /\ zs.length <= cap /\ cap <= maxLen /\ ∀ i,i < zs.length -> w.cell? ⟨g,off + i,none⟩ = some (.int .i64 (zs.getD i 0))
theorem Lst.nil (w:World) (a:Option Addr) (c:Nat) (hc:c <= maxLen) (hn:a = none -> c = 0):Lst w (.slice a 0 c) []:=.inl ⟨rfl,a,c,rfl,hc,hn⟩
theorem Lst.q {w w':World} {v:Value} {zs:List Int} (h:Lst w v zs) (hq:Q w w'):Lst w' v zs:=by
 rcases h with h | ⟨g,off,cap,hv,hg,h1,h2,hc⟩
 ·exact .inl h
 ·refine .inr ⟨g,off,cap,hv,Nat.lt_of_lt_of_le hg hq.le,h1,h2,fun i hi=>?_⟩
  rw [World.cell?_of_block (w:=w) (hq.block hg)];exact hc i hi
theorem Lst.shape2 {w:World} {v:Value} {zs:List Int} (h:Lst w v zs):∃ a c,v = .slice a zs.length c /\ zs.length <= c /\ c <= maxLen:=by
 rcases h with ⟨rfl,a,c,rfl,hc,_⟩ | ⟨g,off,cap,hv,_,h1,h2,_⟩
 ·exact ⟨a,c,rfl,Nat.zero_le _,hc⟩
 ·exact ⟨_,_,hv,h1,h2⟩
theorem Lst.shape {w:World} {v:Value} {zs:List Int} (h:Lst w v zs):∃ a c,v = .slice a zs.length c:=by
 obtain ⟨a,c,hv,_⟩:=h.shape2;exact ⟨a,c,hv⟩
theorem Lst.form {w:World} {v:Value} {zs:List Int} {n:Nat} (h:Lst w v zs) (hn:zs.length = n + 1) :
  ∃ g off cap,v = .slice (some ⟨g,off,none⟩) (n + 1) cap /\ g < w.heap.size /\ n + 1 <= cap /\ cap <= maxLen /\ ∀ i,i < n + 1 -> w.cell? ⟨g,off + i,none⟩ = some (.int .i64 (zs.getD i 0)):=by
 rcases h with ⟨rfl,_⟩ | ⟨g,off,cap,hv,hg,h1,h2,hc⟩
 ·simp at hn
 ·rw [hn] at hv h1 hc
  exact ⟨g,off,cap,hv,hg,h1,h2,hc⟩
theorem Lst.cellOf {w:World} {v:Value} {zs:List Int} {n k:Nat} (h:Lst w v zs) (hn:zs.length = n) (hk:k < n) :
  ∃ g off cap,v = .slice (some ⟨g,off,none⟩) n cap /\ g < w.heap.size /\ n <= cap /\ cap <= maxLen /\ w.cell? ⟨g,off + k,none⟩ = some (.int .i64 (zs.getD k 0)):=by
 rcases h with ⟨rfl,_⟩ | ⟨g,off,cap,hv,hg,h1,h2,hc⟩
 ·simp at hn;omega
 ·rw [hn] at hv h1 hc
  exact ⟨g,off,cap,hv,hg,h1,h2,hc k hk⟩
theorem Lst.form0 {w:World} {v:Value} {zs:List Int} {n:Nat} (h:Lst w v zs) (hn:zs.length = n):∃ a c,v = .slice a n c /\ n <= c /\ c <= maxLen:=by
 subst hn;exact h.shape2
theorem Lst.take {w:World} {a:Option Addr} {n c:Nat} {zs:List Int} (h:Lst w (.slice a n c) zs) (k:Nat) (hk:k <= zs.length):Lst w (.slice a k c) (zs.take k):=by
 rcases h with ⟨rfl,a,c,hv,hc,hn⟩ | ⟨g,off,cap,hv,hg,h1,h2,hcell⟩
 ·cases hv
  have:k = 0:=by simpa using hk
  subst this;exact .nil _ _ _ hc hn
 ·cases hv
  have hl:(zs.take k).length = k:=by simp;omega
  refine .inr ⟨g,off,c,by rw [hl],hg,by omega,h2,fun i hi=>?_⟩;rw [hl] at hi;rw [hcell i (by omega)];simp only [List.getD_eq_getElem?_getD];rw [List.getElem?_take,if_pos hi]
def Own (w:World) (B:Nat) (v:Value) (zs:List Int):Prop:=w.ownsRow B 3 1 v zs.length (zs.map (Value.int .i64))
theorem Own.nil (w:World) (B:Nat):Own w B (.slice none 0 0) []:=World.ownsRow_nil w B 3 1
theorem Own.mono {w:World} {B B':Nat} {v:Value} {zs:List Int} (h:Own w B v zs) (hB:B' <= B):Own w B' v zs:=by
 obtain ⟨h1,h2⟩:=h;refine ⟨h1,?_⟩;rcases h2 with h2 | ⟨g,cap,cur,hv,hg,r⟩
 ·exact .inl h2
 ·exact .inr ⟨g,cap,cur,hv,by omega,r⟩
theorem Own.same {w w':World} {B:Nat} {v:Value} {zs:List Int} (h:Own w B v zs) (hs:∀ g,v.ownBlock = some g -> w'.heap[g]? = w.heap[g]?):Own w' B v zs:=by
 obtain ⟨h1,h2⟩:=h;refine ⟨h1,?_⟩;rcases h2 with h2 | ⟨g,cap,cur,hv,hg,hh,r⟩
 ·exact .inl h2
 ·exact .inr ⟨g,cap,cur,hv,hg,by rw [hs g (by rw [hv];rfl)];exact hh,r⟩
theorem Own.lt {w:World} {B:Nat} {v:Value} {zs:List Int} (h:Own w B v zs):∀ g,v.ownBlock = some g -> B <= g /\ g < w.heap.size:=World.ownsRow.lt h
theorem Own.q {w w':World} {B:Nat} {v:Value} {zs:List Int} (h:Own w B v zs) (hq:Q w w'):Own w' B v zs:=h.same fun g hg=>hq.block (h.lt g hg).2
theorem Own.cells {w:World} {B:Nat} {v:Value} {zs:List Int} (h:Own w B v zs):∀ g,v.ownBlock = some g -> ∃ cur,w.heap[g]? = some (.cells cur 3 (0,0)):=by
 intro g hg;rcases h.2 with ⟨rfl,_⟩ | ⟨g',cap,cur,rfl,_,hh,_⟩
 ·cases hg
 ·cases hg;exact ⟨cur,hh⟩
theorem Own.iterAt {w:World} {B:Nat} {v:Value} {zs:List Int} (h:Own w B v zs) {k:Nat} {s:ByteArray} {pos:Nat} (hk:w.heap[k]? = some (.stringIter s pos)) (p:Nat):Own (w.iterAt k s p) B v zs:=by
 refine h.same fun g hg=>?_;obtain ⟨cur,hc⟩:=h.cells g hg;refine Lib.iterAt_other w k g s p ?_;rintro rfl;rw [hk] at hc;cases hc
theorem Own.lst {w:World} {B:Nat} {v:Value} {zs:List Int} (h:Own w B v zs):Lst w v zs:=by
 rcases h.2 with ⟨hv,hn⟩ | ⟨g,cap,cur,hv,_,hh,hnc,hcm,hcs,ht⟩
 ·have:zs = []:=List.eq_nil_of_length_eq_zero hn
  subst this;subst hv;exact .nil _ _ _ (by unfold maxLen;omega) (fun _=>rfl)
 ·refine .inr ⟨g,0,cap,hv,(Array.getElem?_eq_some_iff.1 hh).1,hnc,hcm,fun i hi=>?_⟩
  rw [cell_of_row w g (0 + i) cur 3 (0,0) hh];have h1:=congrArg (fun l=>l[i]?) ht;simp only [List.getElem?_map,Nat.mul_one] at h1;rw [List.getElem?_take,if_pos hi] at h1;rw [Nat.zero_add,<- Array.getElem?_toList,h1,List.getD_eq_getElem?_getD];rw [List.getElem?_eq_getElem hi];rfl
theorem Own.shape {w:World} {B:Nat} {v:Value} {zs:List Int} (h:Own w B v zs):∃ a c,v = .slice a zs.length c:=h.lst.shape
theorem Lst.made (w:World) (zs:List Int) (n:Nat) (hn:zs.length = n) (hm:n <= maxLen):Lst (w.alloc (.cells (zs.map (Value.int .i64)).toArray 3)) (.slice (some ⟨w.heap.size,0,none⟩) n n) zs:=by
 subst hn;refine .inr ⟨w.heap.size,0,zs.length,rfl,by simp,Nat.le_refl _,hm,fun i hi=>?_⟩;rw [World.cell?_alloc_at _ _ _ _ rfl,Nat.zero_add];simp only [List.getElem?_toArray,List.getElem?_map,List.getD_eq_getElem?_getD];rw [List.getElem?_eq_getElem hi];rfl
def IsRow (k:IntKind) (w:World) (a:Option Addr) (len cap:Nat) (zs:List Int):Prop :=
 (a = none /\ len = 0 /\ cap = 0 /\ zs = []) \/
 ∃ x,a = some x /\ len <= cap /\ cap <= maxLen /\ zs.length = cap /\ (∀ i,i < zs.length -> w.cell? (x.add i) = some (.int k (zs.getD i 0))) /\ ∀ n ∈ zs,(Lit.int k n).wf = true
theorem IsRow.lst {w:World} {a:Option Addr} {len cap:Nat} {zs:List Int} (h:IsRow .i64 w a len cap zs) :
  ∃ xs,Lst w (.slice a len cap) xs /\ xs.length = len /\ ∀ n ∈ xs,-9223372036854775808 <= n /\ n <= 9223372036854775807:=by
 rcases h with ⟨rfl,rfl,rfl,rfl⟩ | ⟨x,rfl,h1,h2,h3,hc,hw⟩
 ·exact ⟨[],.nil _ _ _ (by unfold maxLen;omega) (fun _=>rfl),rfl,by simp⟩
 ·by_cases h0:len = 0
  ·subst h0
   exact ⟨[],.nil _ _ _ h2 (fun h=>by cases h),rfl,by simp⟩
  ·obtain ⟨b,off,rfl,hcc⟩:=ints_at hc (by omega)
   have hl:(zs.take len).length = len:=by simp;omega
   refine ⟨zs.take len,.inr ⟨b,off,cap,by rw [hl],?_,by omega,h2,fun i hi=>?_⟩,hl,fun n hn=>?_⟩
   ·have:=hcc 0 (by omega)
    exact World.block_lt_of_cell? _ _ this
   ·rw [hl] at hi
    rw [hcc i (by omega)];simp only [List.getD_eq_getElem?_getD];rw [List.getElem?_take,if_pos hi]
   ·have:=hw n (List.mem_of_mem_take hn)
    exact bounds_i64 this
theorem infoInt:(Try.prog.info? 3).map (fun i=>(i.zero,i.size,i.bytes)) = some (some (.int .i64 0),1,8):=by kernel_rfl
theorem push_int {w:World} {B:Nat} {v:Value} {zs:List Int} (hown:Own w B v zs) {ops:Array Oper} {rest:List Oper} {o:Oper} {a:Act} {R:Exit -> Act -> World -> Prop} (hgd:o.guard = none) (s x:Operand)
  (ho:o.op = .call { callee:=.builtin .append,args:=#[s,x],argTypes:=#[22,22] })
  (n:Int) (hs:a.eval s = v) (hx:a.eval x = .slice (some ⟨w.heap.size,0,none⟩) 1 1) (hlen:zs.length < 1099511627776) (hB:B <= w.heap.size)
  (h:∀ v' w',Own w' B v' (zs ++ [n]) -> w.grownBy w' v.ownBlock -> (v'.ownBlock = v.ownBlock \/ v'.ownBlock = some (w.heap.size + 1)) -> wpList Try.prog ops R rest (a.put o.dst v') w') :
  wpList Try.prog ops R (o :: rest) a (w.alloc (.cells #[.int .i64 n] 3)):=by
 obtain ⟨i0,hi,hz0,hz1,hz2⟩:=info_parts infoInt;refine wpList_append_own_at _ hgd s x 22 ho B 3 i0 (.int .i64 0) 1 8 Try.underlying22 hi hz0 hz1 hz2 rfl (by decide) v zs.length _ hs (World.ownsRow.alloc hown _)
  ⟨w.heap.size,0,none⟩ 1 1 [.int .i64 n] hx rfl (cell_one_new _ _ _) ?_ ?_ ?_ ?_ ?_
 ·intro u hu;simp at hu;subst hu;rfl
 ·unfold maxLen;omega
 ·omega
 ·simp;omega
 ·intro v' w' hown' hg _ hat
  refine h v' w' ?_ ?_ ?_
  ·have e1:(zs ++ [n]).length = zs.length + 1:=by simp
   unfold Own;rw [e1,List.map_append];exact hown'
  ·exact (World.grownBy_alloc w _ _).trans hg
  ·simpa using hat
theorem push_list {w:World} {B:Nat} {v u:Value} {zs ys:List Int} (hown:Own w B v zs) (hu:Lst w u ys) {ops:Array Oper} {rest:List Oper} {o:Oper} {a:Act} {R:Exit -> Act -> World -> Prop} (hgd:o.guard = none) (s x:Operand)
  (ho:o.op = .call { callee:=.builtin .append,args:=#[s,x],argTypes:=#[22,22] })
  (hs:a.eval s = v) (hx:a.eval x = u) (hlen:zs.length + ys.length < 1099511627776) (hB:B <= w.heap.size)
  (h:∀ v' w',Own w' B v' (zs ++ ys) -> w.grownBy w' v.ownBlock -> (v'.ownBlock = v.ownBlock \/ v'.ownBlock = some w.heap.size) -> wpList Try.prog ops R rest (a.put o.dst v') w') :
  wpList Try.prog ops R (o :: rest) a w:=by
 obtain ⟨i0,hi,hz0,hz1,hz2⟩:=info_parts infoInt;have key:∀ (ad:Addr) (m c:Nat),u = .slice (some ad) m c -> ys.length = m -> (∀ j x,(ys.map (Value.int .i64))[j]? = some x -> w.cell? (ad.add j) = some x) -> wpList Try.prog ops R (o :: rest) a w:=by
  intro ad m c hu hm hc;subst hu;subst hm;refine wpList_append_own_at _ hgd s x 22 ho B 3 i0 (.int .i64 0) 1 8 Try.underlying22 hi hz0 hz1 hz2 rfl (by decide) v zs.length _ hs hown
   ad ys.length c (ys.map (Value.int .i64)) hx (by simp) hc ?_ ?_ ?_ hB ?_
  ·intro u hu
   obtain ⟨_,_,rfl⟩:=List.mem_map.1 hu;rfl
  ·unfold maxLen;omega
  ·omega
  ·intro v' w' hown' hg _ hat
   refine h v' w' ?_ hg hat;have e1:(zs ++ ys).length = zs.length + ys.length:=by simp
   unfold Own;rw [e1,List.map_append];exact hown'
 rcases hu with ⟨rfl,ad,c,rfl,hc,hn⟩ | ⟨g,off,cap,hv,hg,h1,h2,hc⟩
 ·cases ad with
  | none =>
   obtain rfl:=hn rfl;refine wpList_append_own_none hgd s x 22 ho B 3 i0 1 Try.underlying22 hi v zs.length _ hs hown hx ?_;exact h v w (by rw [List.append_nil];exact hown) ⟨rfl,rfl,rfl,Nat.le_refl _,fun _ _ _=>rfl⟩ (.inl rfl)
  | some ad=>exact key ad 0 c rfl rfl (by simp)
 ·refine key ⟨g,off,none⟩ ys.length cap hv rfl fun j x hj=>?_
  have hjl:j < ys.length:=by
   have:=(List.getElem?_eq_some_iff.1 hj).1;simpa using this
  have hadd:(⟨g,off,none⟩:Addr).add j = ⟨g,off + j,none⟩:=by unfold Addr.add;split <;> simp_all
  rw [hadd,hc j hjl];rw [List.getElem?_map,List.getElem?_eq_getElem hjl] at hj;rw [List.getD_eq_getElem?_getD,List.getElem?_eq_getElem hjl];simpa using hj
def Apart (v u:Value):Prop:=∀ g,v.ownBlock = some g -> u.ownBlock ≠ some g
theorem Apart.nilL (u:Value):Apart (.slice none 0 0) u:=fun g h=>by cases h
theorem Apart.nilR (v:Value):Apart v (.slice none 0 0):=fun g _ h=>by cases h
theorem Apart.symm {v u:Value} (h:Apart v u):Apart u v:=fun g h1 h2=>h g h2 h1
theorem Own.other {w w':World} {B:Nat} {v u:Value} {zs:List Int} (h:Own w B u zs) (hg:w.grownBy w' v.ownBlock) (ha:Apart v u):Own w' B u zs :=
 h.same fun g hu=>hg.block g (h.lt g hu).2 (fun e=>ha g e.symm hu)
theorem Apart.push {w:World} {B:Nat} {v v' u:Value} {zs:List Int} (h:Own w B u zs) (ha:Apart v u) (hat:v'.ownBlock = v.ownBlock \/ v'.ownBlock = some (w.heap.size + 1)):Apart v' u:=by
 intro g hv hu;rcases hat with e | e
 ·exact ha g (e ▸ hv) hu
 ·rw [e] at hv
  have:=(h.lt g hu).2;cases hv;omega
theorem iter_grown {w w':World} {B:Nat} {v:Value} {zs:List Int} (h:Own w B v zs) (hg:w.grownBy w' v.ownBlock) {k:Nat} {s:ByteArray} {pos:Nat} (hk:w.heap[k]? = some (.stringIter s pos)):w'.heap[k]? = some (.stringIter s pos):=by
 have hlt:k < w.heap.size:=(Array.getElem?_eq_some_iff.1 hk).1;rw [hg.block k hlt ?_];exact hk;intro e;obtain ⟨cur,hc⟩:=h.cells k e.symm;rw [hk] at hc;cases hc
theorem iter_q {w w':World} (hq:Q w w') {k:Nat} {s:ByteArray} {pos:Nat} (hk:w.heap[k]? = some (.stringIter s pos)):w'.heap[k]? = some (.stringIter s pos):=by
 rw [hq.block (Array.getElem?_eq_some_iff.1 hk).1];exact hk
end
end Go.Proofs.Ytnehhbobhnmbcaa
