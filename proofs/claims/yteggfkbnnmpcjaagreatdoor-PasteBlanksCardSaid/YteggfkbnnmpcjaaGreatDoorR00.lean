/- Lists of numbers in memory: what a list that came in, or that a call has made, reads as, and what becomes of it. (and more) -/
import Derived.Test.YteggfkbnnmpcjaaGreatDoorRows
import Derived.Test.YteggfkbnnmpcjaaGreatDoorProg
import Derived.WalkKit
import Derived.WalkSpells
import Derived.WalkSmall
import Derived.WalkLawsBesides
import Derived.Maps.AppendAt
import Derived.Laws.AppendOwnNone
import Derived.Lib.OthersKept
import Derived.Lib.Hide
import Derived.OpenShut
import Derived.Laws.RangeAny
import Derived.Laws.Runes
import Derived.Lib.Strings
import Derived.Shelf.Strings.BuilderK
import Derived.Shelf.Strings.Prefix
import Derived.ChangeSame
import Derived.ChangeVars
import Derived.JoinedOf
import Derived.RowKit
import Derived.RowKitTokens
import Derived.LaidLaws
import Derived.LaidHandle
import Derived.Stop.Joined
import Derived.Lib.LaidTab
import Derived.Stop.LaidErr
import Derived.Deep.RegionHeld
set_option linter.all false
set_option maxRecDepth 100000
set_option maxHeartbeats 8000000
namespace Go.Proofs.YteggfkbnnmpcjaaGreatDoor
theorem gA {α : Type _} {l : List α} {i : Nat} : l.toArray[i]? = l[i]? := by simp
theorem gB {α : Type _} {a : α} {l : List α} {i : Nat} : (a :: l)[i + 1]? = l[i]? := List.getElem?_cons_succ
theorem gC {α : Type _} {a : α} {l : List α} : (a :: l)[0]? = some a := List.getElem?_cons_zero
theorem sA {α : Type _} {l : List α} {i : Nat} {a : α} : l.toArray.setIfInBounds i a = (l.set i a).toArray := by simp
theorem sB {α : Type _} {a b : α} {l : List α} : (a :: l).set 0 b = b :: l := List.set_cons_zero
theorem sC {α : Type _} {a b : α} {l : List α} {i : Nat} : (a :: l).set (i + 1) b = a :: l.set i b := List.set_cons_succ
@[reducible] def tt : Bool := true
@[reducible] def ff : Bool := false
theorem tk {P:Program} {ops:Array Oper} {Q:Exit → Act → World → Prop} {md:Region.Mode} {S:World → Prop} {fuel:Nat} {listed:Array Bool} {a:Act} {w:World} (i:Nat) {oi:Oper} {v:Value} (hi:ops[i]? = some oi)
  (hb:(Region.noSelect ops && (Region.free md ops listed i && ((Region.ready md ops listed).contains i && Region.wanted oi (yielded ops a.tmps)))) = true) (hy:∀ u,S u → (execOp a.eval oi).run P u = .ok (.value v) u)
  (hQ:∀ c b x,Q (.panic c) (b.put oi.dst v) x → Q (.panic c) b x) (hS:S w) (h:wpAnyH P md ops Q S fuel (listed.setIfInBounds i true) (a.put oi.dst v) w):wpAnyH P md ops Q S (fuel + 1) listed a w:=by
  simp only [Bool.and_eq_true] at hb
  exact wpAnyH_take hi hb.1 hb.2.1 hb.2.2.1 hQ (Or.inl ⟨hb.2.2.2,hy⟩) hS h
theorem tu {P:Program} {ops:Array Oper} {Q:Exit → Act → World → Prop} {md:Region.Mode} {S:World → Prop} {fuel:Nat} {listed:Array Bool} {a:Act} {w:World} (i:Nat) {oi:Oper} (hi:ops[i]? = some oi)
  (hb:(Region.noSelect ops && (Region.free md ops listed i && ((Region.ready md ops listed).contains i && !Region.wanted oi (yielded ops a.tmps)))) = true)
  (hQ:∀ c b x,Q (.panic c) (b.put oi.dst undef) x → Q (.panic c) b x) (hS:S w) (h:wpAnyH P md ops Q S fuel (listed.setIfInBounds i true) (a.put oi.dst undef) w):wpAnyH P md ops Q S (fuel + 1) listed a w:=by
  simp only [Bool.and_eq_true,Bool.not_eq_true'] at hb
  exact wpAnyH_take hi hb.1 hb.2.1 hb.2.2.1 hQ (Or.inr ⟨hb.2.2.2,rfl⟩) hS h
theorem ar {P:Program} {ops:Array Oper} {Q:Exit → Act → World → Prop} {md:Region.Mode} {S:World → Prop} {fuel:Nat} {listed:Array Bool} {a:Act} {w:World} {i:Nat} {o:Oper} (ho:ops[i]? = some o)
  (h:∀ K' : Act → World → Prop,Shut (∀ a w,S w → (S w → wpAnyH P md ops Q S fuel (listed.setIfInBounds i true) a w) → K' a w) → if Region.wanted o (yielded ops a.tmps) = true then Oper.wp P o a w K' Q else K' (a.put o.dst undef) w):
  AllReadyH P md ops Q S fuel listed a w [i]:=.cons ho h .nil
theorem pq {α β γ:Sort _} {p:α → β → γ → Prop}:∀ a b c,p a b c → p a b c:=fun _ _ _ h=>h
theorem Hd {p:Prop} (h:p):RowKit.Hid p:=h
end Go.Proofs.YteggfkbnnmpcjaaGreatDoor
namespace Go.Proofs.YteggfkbnnmpcjaaGreatDoor
section
open Go.RowKit
theorem retB {a b:Bool} (h:a = b):Ending.returned (.bool a) = .returned (.bool b):=by rw [h]
theorem retS {a b:ByteArray} (h:a = b):Ending.returned (.string a) = .returned (.string b):=by rw [h]
def Q (w w':World):Prop:=Below w.heap.size w w'
theorem Q.refl (w:World):Q w w:=Below.refl _ _
theorem Q.trans {a b c:World} (h:Q a b) (k:Q b c):Q a c:=Below.trans h (Below.mono k h.size)
theorem Q.alloc {a w:World} (h:Q a w) (o:Obj):Q a (w.alloc o):=Below.alloc h h.size o
theorem Q.drew {a w:World} (h:Q a w):Q a w.drew:=Below.drew h
theorem Q.drewN {a w:World} (h:Q a w) (n:Nat):Q a (w.drewN n):=below_drewN h n
theorem Q.below {a w:World} (h:Q a w):Below a.heap.size a w:=h
theorem Q.block {a w:World} (h:Q a w) {k:Nat} (hk:k < a.heap.size):w.heap[k]? = a.heap[k]?:=Below.block h k hk
theorem Q.le {a w:World} (h:Q a w):a.heap.size <= w.heap.size:=Below.size h
theorem Q.iterAt {a w:World} (h:Q a w) {k:Nat} (hk:a.heap.size <= k) (s:ByteArray) (p:Nat):Q a (w.iterAt k s p):=Lib.below_iterAt h hk s p
theorem Q.grown {a w w':World} {row:Option Nat} (h:Q a w) (hg:w.grownBy w' row) (hr:∀ k,row = some k -> a.heap.size <= k):Q a w':=Below.grown h hg h.size hr
def Lst (w:World) (v:Value) (zs:List Int):Prop :=
 (zs = [] /\ ∃ a c,v = .slice a 0 c /\ c <= maxLen /\ (a = none -> c = 0)) \/
 ∃ g off cap,v = .slice (some ⟨g,off,none⟩) zs.length cap /\ g < w.heap.size /\ zs.length <= cap /\ cap <= maxLen /\ ∀ i,i < zs.length -> w.cell? ⟨g,off + i,none⟩ = some (.int .i64 (zs.getD i 0))
theorem Lst.nil (w:World) (a:Option Addr) (c:Nat) (hc:c <= maxLen) (hn:a = none -> c = 0):Lst w (.slice a 0 c) []:=.inl ⟨rfl,a,c,rfl,hc,hn⟩
theorem Lst.q {w w':World} {v:Value} {zs:List Int} (h:Lst w v zs) (hq:Q w w'):Lst w' v zs:=by
 rcases h with h | ⟨g,off,cap,hv,hg,h1,h2,hc⟩
 ·exact .inl h
 ·refine .inr ⟨g,off,cap,hv,Nat.lt_of_lt_of_le hg hq.le,h1,h2,fun i hi=>?_⟩
  rw [World.cell?_of_block (w:=w) (hq.block hg)];exact hc i hi
theorem Lst.shape2 {w:World} {v:Value} {zs:List Int} (h:Lst w v zs):∃ a c,v = .slice a zs.length c /\ zs.length <= c /\ c <= maxLen:=by
 rcases h with ⟨rfl,a,c,rfl,hc,_⟩ | ⟨g,off,cap,hv,_,h1,h2,_⟩
 ·exact ⟨a,c,rfl,Nat.zero_le _,hc⟩
 ·exact ⟨_,_,hv,h1,h2⟩
theorem Lst.shape {w:World} {v:Value} {zs:List Int} (h:Lst w v zs):∃ a c,v = .slice a zs.length c:=by
 obtain ⟨a,c,hv,_⟩:=h.shape2;exact ⟨a,c,hv⟩
theorem Lst.form {w:World} {v:Value} {zs:List Int} {n:Nat} (h:Lst w v zs) (hn:zs.length = n + 1) :
  ∃ g off cap,v = .slice (some ⟨g,off,none⟩) (n + 1) cap /\ g < w.heap.size /\ n + 1 <= cap /\ cap <= maxLen /\ ∀ i,i < n + 1 -> w.cell? ⟨g,off + i,none⟩ = some (.int .i64 (zs.getD i 0)):=by
 rcases h with ⟨rfl,_⟩ | ⟨g,off,cap,hv,hg,h1,h2,hc⟩
 ·simp at hn
 ·rw [hn] at hv h1 hc
  exact ⟨g,off,cap,hv,hg,h1,h2,hc⟩
theorem Lst.cellOf {w:World} {v:Value} {zs:List Int} {n k:Nat} (h:Lst w v zs) (hn:zs.length = n) (hk:k < n) :
  ∃ g off cap,v = .slice (some ⟨g,off,none⟩) n cap /\ g < w.heap.size /\ n <= cap /\ cap <= maxLen /\ w.cell? ⟨g,off + k,none⟩ = some (.int .i64 (zs.getD k 0)):=by
 rcases h with ⟨rfl,_⟩ | ⟨g,off,cap,hv,hg,h1,h2,hc⟩
 ·simp at hn;omega
 ·rw [hn] at hv h1 hc
  exact ⟨g,off,cap,hv,hg,h1,h2,hc k hk⟩
theorem Lst.form0 {w:World} {v:Value} {zs:List Int} {n:Nat} (h:Lst w v zs) (hn:zs.length = n):∃ a c,v = .slice a n c /\ n <= c /\ c <= maxLen:=by
 subst hn;exact h.shape2
theorem Lst.take {w:World} {a:Option Addr} {n c:Nat} {zs:List Int} (h:Lst w (.slice a n c) zs) (k:Nat) (hk:k <= zs.length):Lst w (.slice a k c) (zs.take k):=by
 rcases h with ⟨rfl,a,c,hv,hc,hn⟩ | ⟨g,off,cap,hv,hg,h1,h2,hcell⟩
 ·cases hv
  have:k = 0:=by simpa using hk
  subst this;exact .nil _ _ _ hc hn
 ·cases hv
  have hl:(zs.take k).length = k:=by simp;omega
  refine .inr ⟨g,off,c,by rw [hl],hg,by omega,h2,fun i hi=>?_⟩;rw [hl] at hi;rw [hcell i (by omega)];simp only [List.getD_eq_getElem?_getD];rw [List.getElem?_take,if_pos hi]
def Own (w:World) (B:Nat) (v:Value) (zs:List Int):Prop:=w.ownsRow B 3 1 v zs.length (zs.map (Value.int .i64))
theorem Own.nil (w:World) (B:Nat):Own w B (.slice none 0 0) []:=World.ownsRow_nil w B 3 1
theorem Own.mono {w:World} {B B':Nat} {v:Value} {zs:List Int} (h:Own w B v zs) (hB:B' <= B):Own w B' v zs:=by
 obtain ⟨h1,h2⟩:=h;refine ⟨h1,?_⟩;rcases h2 with h2 | ⟨g,cap,cur,hv,hg,r⟩
 ·exact .inl h2
 ·exact .inr ⟨g,cap,cur,hv,by omega,r⟩
theorem Own.same {w w':World} {B:Nat} {v:Value} {zs:List Int} (h:Own w B v zs) (hs:∀ g,v.ownBlock = some g -> w'.heap[g]? = w.heap[g]?):Own w' B v zs:=by
 obtain ⟨h1,h2⟩:=h;refine ⟨h1,?_⟩;rcases h2 with h2 | ⟨g,cap,cur,hv,hg,hh,r⟩
 ·exact .inl h2
 ·exact .inr ⟨g,cap,cur,hv,hg,by rw [hs g (by rw [hv];rfl)];exact hh,r⟩
theorem Own.lt {w:World} {B:Nat} {v:Value} {zs:List Int} (h:Own w B v zs):∀ g,v.ownBlock = some g -> B <= g /\ g < w.heap.size:=World.ownsRow.lt h
theorem Own.q {w w':World} {B:Nat} {v:Value} {zs:List Int} (h:Own w B v zs) (hq:Q w w'):Own w' B v zs:=h.same fun g hg=>hq.block (h.lt g hg).2
theorem Own.cells {w:World} {B:Nat} {v:Value} {zs:List Int} (h:Own w B v zs):∀ g,v.ownBlock = some g -> ∃ cur,w.heap[g]? = some (.cells cur 3 (0,0)):=by
 intro g hg;rcases h.2 with ⟨rfl,_⟩ | ⟨g',cap,cur,rfl,_,hh,_⟩
 ·cases hg
 ·cases hg;exact ⟨cur,hh⟩
theorem Own.iterAt {w:World} {B:Nat} {v:Value} {zs:List Int} (h:Own w B v zs) {k:Nat} {s:ByteArray} {pos:Nat} (hk:w.heap[k]? = some (.stringIter s pos)) (p:Nat):Own (w.iterAt k s p) B v zs:=by
 refine h.same fun g hg=>?_;obtain ⟨cur,hc⟩:=h.cells g hg;refine Lib.iterAt_other w k g s p ?_;rintro rfl;rw [hk] at hc;cases hc
theorem Own.lst {w:World} {B:Nat} {v:Value} {zs:List Int} (h:Own w B v zs):Lst w v zs:=by
 rcases h.2 with ⟨hv,hn⟩ | ⟨g,cap,cur,hv,_,hh,hnc,hcm,hcs,ht⟩
 ·have:zs = []:=List.eq_nil_of_length_eq_zero hn
  subst this;subst hv;exact .nil _ _ _ (by unfold maxLen;omega) (fun _=>rfl)
 ·refine .inr ⟨g,0,cap,hv,(Array.getElem?_eq_some_iff.1 hh).1,hnc,hcm,fun i hi=>?_⟩
  rw [cell_of_row w g (0 + i) cur 3 (0,0) hh];have h1:=congrArg (fun l=>l[i]?) ht;simp only [List.getElem?_map,Nat.mul_one] at h1;rw [List.getElem?_take,if_pos hi] at h1;rw [Nat.zero_add,<- Array.getElem?_toList,h1,List.getD_eq_getElem?_getD];rw [List.getElem?_eq_getElem hi];rfl
theorem Own.shape {w:World} {B:Nat} {v:Value} {zs:List Int} (h:Own w B v zs):∃ a c,v = .slice a zs.length c:=h.lst.shape
theorem Lst.made (w:World) (zs:List Int) (n:Nat) (hn:zs.length = n) (hm:n <= maxLen):Lst (w.alloc (.cells (zs.map (Value.int .i64)).toArray 3)) (.slice (some ⟨w.heap.size,0,none⟩) n n) zs:=by
 subst hn;refine .inr ⟨w.heap.size,0,zs.length,rfl,by simp,Nat.le_refl _,hm,fun i hi=>?_⟩;rw [World.cell?_alloc_at _ _ _ _ rfl,Nat.zero_add];simp only [List.getElem?_toArray,List.getElem?_map,List.getD_eq_getElem?_getD];rw [List.getElem?_eq_getElem hi];rfl
def IsRow (k:IntKind) (w:World) (a:Option Addr) (len cap:Nat) (zs:List Int):Prop :=
 (a = none /\ len = 0 /\ cap = 0 /\ zs = []) \/
 ∃ x,a = some x /\ len <= cap /\ cap <= maxLen /\ zs.length = cap /\ (∀ i,i < zs.length -> w.cell? (x.add i) = some (.int k (zs.getD i 0))) /\ ∀ n ∈ zs,(Lit.int k n).wf = true
theorem IsRow.lst {w:World} {a:Option Addr} {len cap:Nat} {zs:List Int} (h:IsRow .i64 w a len cap zs) :
  ∃ xs,Lst w (.slice a len cap) xs /\ xs.length = len /\ ∀ n ∈ xs,-9223372036854775808 <= n /\ n <= 9223372036854775807:=by
 rcases h with ⟨rfl,rfl,rfl,rfl⟩ | ⟨x,rfl,h1,h2,h3,hc,hw⟩
 ·exact ⟨[],.nil _ _ _ (by unfold maxLen;omega) (fun _=>rfl),rfl,by simp⟩
 ·by_cases h0:len = 0
  ·subst h0
   exact ⟨[],.nil _ _ _ h2 (fun h=>by cases h),rfl,by simp⟩
  ·obtain ⟨b,off,rfl,hcc⟩:=ints_at hc (by omega)
   have hl:(zs.take len).length = len:=by simp;omega
   refine ⟨zs.take len,.inr ⟨b,off,cap,by rw [hl],?_,by omega,h2,fun i hi=>?_⟩,hl,fun n hn=>?_⟩
   ·have:=hcc 0 (by omega)
    exact World.block_lt_of_cell? _ _ this
   ·rw [hl] at hi
    rw [hcc i (by omega)];simp only [List.getD_eq_getElem?_getD];rw [List.getElem?_take,if_pos hi]
   ·have:=hw n (List.mem_of_mem_take hn)
    exact bounds_i64 this
theorem infoInt:(Tryz.prog.info? 3).map (fun i=>(i.zero,i.size,i.bytes)) = some (some (.int .i64 0),1,8):=by kernel_rfl
theorem push_int {w:World} {B:Nat} {v:Value} {zs:List Int} (hown:Own w B v zs) {ops:Array Oper} {rest:List Oper} {o:Oper} {a:Act} {R:Exit -> Act -> World -> Prop} (hgd:o.guard = none) (s x:Operand)
  (ho:o.op = .call { callee:=.builtin .append,args:=#[s,x],argTypes:=#[41,41] })
  (n:Int) (hs:a.eval s = v) (hx:a.eval x = .slice (some ⟨w.heap.size,0,none⟩) 1 1) (hlen:zs.length < 1099511627776) (hB:B <= w.heap.size)
  (h:∀ v' w',Own w' B v' (zs ++ [n]) -> w.grownBy w' v.ownBlock -> (v'.ownBlock = v.ownBlock \/ v'.ownBlock = some (w.heap.size + 1)) -> wpList Tryz.prog ops R rest (a.put o.dst v') w') :
  wpList Tryz.prog ops R (o :: rest) a (w.alloc (.cells #[.int .i64 n] 3)):=by
 obtain ⟨i0,hi,hz0,hz1,hz2⟩:=info_parts infoInt;refine wpList_append_own_at _ hgd s x 41 ho B 3 i0 (.int .i64 0) 1 8 Tryz.underlying41 hi hz0 hz1 hz2 rfl (by decide) v zs.length _ hs (World.ownsRow.alloc hown _)
  ⟨w.heap.size,0,none⟩ 1 1 [.int .i64 n] hx rfl (cell_one_new _ _ _) ?_ ?_ ?_ ?_ ?_
 ·intro u hu;simp at hu;subst hu;rfl
 ·unfold maxLen;omega
 ·omega
 ·simp;omega
 ·intro v' w' hown' hg _ hat
  refine h v' w' ?_ ?_ ?_
  ·have e1:(zs ++ [n]).length = zs.length + 1:=by simp
   unfold Own;rw [e1,List.map_append];exact hown'
  ·exact (World.grownBy_alloc w _ _).trans hg
  ·simpa using hat
theorem push_list {w:World} {B:Nat} {v u:Value} {zs ys:List Int} (hown:Own w B v zs) (hu:Lst w u ys) {ops:Array Oper} {rest:List Oper} {o:Oper} {a:Act} {R:Exit -> Act -> World -> Prop} (hgd:o.guard = none) (s x:Operand)
  (ho:o.op = .call { callee:=.builtin .append,args:=#[s,x],argTypes:=#[41,41] })
  (hs:a.eval s = v) (hx:a.eval x = u) (hlen:zs.length + ys.length < 1099511627776) (hB:B <= w.heap.size)
  (h:∀ v' w',Own w' B v' (zs ++ ys) -> w.grownBy w' v.ownBlock -> (v'.ownBlock = v.ownBlock \/ v'.ownBlock = some w.heap.size) -> wpList Tryz.prog ops R rest (a.put o.dst v') w') :
  wpList Tryz.prog ops R (o :: rest) a w:=by
 obtain ⟨i0,hi,hz0,hz1,hz2⟩:=info_parts infoInt;have key:∀ (ad:Addr) (m c:Nat),u = .slice (some ad) m c -> ys.length = m -> (∀ j x,(ys.map (Value.int .i64))[j]? = some x -> w.cell? (ad.add j) = some x) -> wpList Tryz.prog ops R (o :: rest) a w:=by
  intro ad m c hu hm hc;subst hu;subst hm;refine wpList_append_own_at _ hgd s x 41 ho B 3 i0 (.int .i64 0) 1 8 Tryz.underlying41 hi hz0 hz1 hz2 rfl (by decide) v zs.length _ hs hown
   ad ys.length c (ys.map (Value.int .i64)) hx (by simp) hc ?_ ?_ ?_ hB ?_
  ·intro u hu
   obtain ⟨_,_,rfl⟩:=List.mem_map.1 hu;rfl
  ·unfold maxLen;omega
  ·omega
  ·intro v' w' hown' hg _ hat
   refine h v' w' ?_ hg hat;have e1:(zs ++ ys).length = zs.length + ys.length:=by simp
   unfold Own;rw [e1,List.map_append];exact hown'
 rcases hu with ⟨rfl,ad,c,rfl,hc,hn⟩ | ⟨g,off,cap,hv,hg,h1,h2,hc⟩
 ·cases ad with
  | none =>
   obtain rfl:=hn rfl;refine wpList_append_own_none hgd s x 41 ho B 3 i0 1 Tryz.underlying41 hi v zs.length _ hs hown hx ?_;exact h v w (by rw [List.append_nil];exact hown) ⟨rfl,rfl,rfl,Nat.le_refl _,fun _ _ _=>rfl⟩ (.inl rfl)
  | some ad=>exact key ad 0 c rfl rfl (by simp)
 ·refine key ⟨g,off,none⟩ ys.length cap hv rfl fun j x hj=>?_
  have hjl:j < ys.length:=by
   have:=(List.getElem?_eq_some_iff.1 hj).1;simpa using this
  have hadd:(⟨g,off,none⟩:Addr).add j = ⟨g,off + j,none⟩:=by unfold Addr.add;split <;> simp_all
  rw [hadd,hc j hjl];rw [List.getElem?_map,List.getElem?_eq_getElem hjl] at hj;rw [List.getD_eq_getElem?_getD,List.getElem?_eq_getElem hjl];simpa using hj
def Apart (v u:Value):Prop:=∀ g,v.ownBlock = some g -> u.ownBlock ≠ some g
theorem Apart.nilL (u:Value):Apart (.slice none 0 0) u:=fun g h=>by cases h
theorem Apart.nilR (v:Value):Apart v (.slice none 0 0):=fun g _ h=>by cases h
theorem Apart.symm {v u:Value} (h:Apart v u):Apart u v:=fun g h1 h2=>h g h2 h1
theorem Own.other {w w':World} {B:Nat} {v u:Value} {zs:List Int} (h:Own w B u zs) (hg:w.grownBy w' v.ownBlock) (ha:Apart v u):Own w' B u zs :=
 h.same fun g hu=>hg.block g (h.lt g hu).2 (fun e=>ha g e.symm hu)
theorem Apart.push {w:World} {B:Nat} {v v' u:Value} {zs:List Int} (h:Own w B u zs) (ha:Apart v u) (hat:v'.ownBlock = v.ownBlock \/ v'.ownBlock = some (w.heap.size + 1)):Apart v' u:=by
 intro g hv hu;rcases hat with e | e
 ·exact ha g (e ▸ hv) hu
 ·rw [e] at hv
  have:=(h.lt g hu).2;cases hv;omega
theorem iter_grown {w w':World} {B:Nat} {v:Value} {zs:List Int} (h:Own w B v zs) (hg:w.grownBy w' v.ownBlock) {k:Nat} {s:ByteArray} {pos:Nat} (hk:w.heap[k]? = some (.stringIter s pos)):w'.heap[k]? = some (.stringIter s pos):=by
 have hlt:k < w.heap.size:=(Array.getElem?_eq_some_iff.1 hk).1;rw [hg.block k hlt ?_];exact hk;intro e;obtain ⟨cur,hc⟩:=h.cells k e.symm;rw [hk] at hc;cases hc
end
namespace Um
def vld (c:Int):Bool:=Utf8.valid c
theorem vld_iff (c:Int):vld c = true ↔ (0 <= c /\ c <= 1114111 /\ (c < 55296 \/ 57343 < c)):=by
 unfold vld;rw [validRune_eq];unfold validRune;rw [decide_eq_true_iff];omega
theorem vld_false (c:Int):vld c = false ↔ ¬ (0 <= c /\ c <= 1114111 /\ (c < 55296 \/ 57343 < c)):=by
 rw [<- vld_iff];cases vld c <;> simp
def enc (c:Int):List UInt8:=(Utf8.encode c).data.toList
theorem enc1 (c:Int) (h0:0 <= c) (h:c < 128):enc c = [UInt8.ofNat c.toNat]:=by
 have hv:Utf8.valid c = true:=(vld_iff c).2 (by omega);unfold enc Utf8.encode;simp only [hv,if_true];rw [if_pos (by omega)]
theorem enc2 (c:Int) (h0:128 <= c) (h:c < 2048):enc c = [UInt8.ofNat (192 + c.toNat / 64),UInt8.ofNat (128 + c.toNat % 64)]:=by
 have hv:Utf8.valid c = true:=(vld_iff c).2 (by omega);unfold enc Utf8.encode;simp only [hv,if_true];rw [if_neg (by omega),if_pos (by omega)]
theorem enc3 (c:Int) (h0:2048 <= c) (h:c < 65536) (hv:vld c = true):enc c = [UInt8.ofNat (224 + c.toNat / 4096),UInt8.ofNat (128 + c.toNat / 64 % 64),UInt8.ofNat (128 + c.toNat % 64)]:=by
 have hv:Utf8.valid c = true:=hv;unfold enc Utf8.encode;simp only [hv,if_true];rw [if_neg (by omega),if_neg (by omega),if_pos (by omega)]
theorem enc4 (c:Int) (h0:65536 <= c) (hv:vld c = true):enc c = [UInt8.ofNat (240 + c.toNat / 262144),UInt8.ofNat (128 + c.toNat / 4096 % 64),UInt8.ofNat (128 + c.toNat / 64 % 64),UInt8.ofNat (128 + c.toNat % 64)]:=by
 have hv:Utf8.valid c = true:=hv;unfold enc Utf8.encode;simp only [hv,if_true];rw [if_neg (by omega),if_neg (by omega),if_neg (by omega)]
theorem forms (c:Int) (hv:vld c = true) :
  (0 <= c /\ c < 128 /\ enc c = [UInt8.ofNat c.toNat]) \/
  (128 <= c /\ c < 2048 /\ enc c = [UInt8.ofNat (192 + c.toNat / 64),UInt8.ofNat (128 + c.toNat % 64)]) \/
  (2048 <= c /\ c < 65536 /\ (c < 55296 \/ 57343 < c) /\ enc c = [UInt8.ofNat (224 + c.toNat / 4096),UInt8.ofNat (128 + c.toNat / 64 % 64),UInt8.ofNat (128 + c.toNat % 64)]) \/
  (65536 <= c /\ c <= 1114111 /\ enc c = [UInt8.ofNat (240 + c.toNat / 262144),UInt8.ofNat (128 + c.toNat / 4096 % 64),UInt8.ofNat (128 + c.toNat / 64 % 64),UInt8.ofNat (128 + c.toNat % 64)]):=by
 have h:=(vld_iff c).1 hv;by_cases h1:c < 128
 ·exact .inl ⟨h.1,h1,enc1 c h.1 h1⟩
 by_cases h2:c < 2048
 ·exact .inr (.inl ⟨by omega,h2,enc2 c (by omega) h2⟩)
 by_cases h3:c < 65536
 ·exact .inr (.inr (.inl ⟨by omega,h3,h.2.2,enc3 c (by omega) h3 hv⟩))
 ·exact .inr (.inr (.inr ⟨by omega,h.2.1,enc4 c (by omega) hv⟩))
def byt (l:List UInt8) (k:Nat):Nat:=(l.getD k 0).toNat
theorem byt_lt (l:List UInt8) (k:Nat):byt l k < 256:=(l.getD k 0).toNat_lt
def dec (l:List UInt8):Nat × Nat:=Utf8.decode ⟨l.toArray⟩ 0
theorem get_list (l:List UInt8) (k:Nat):((⟨l.toArray⟩:ByteArray).get! k).toNat = byt l k:=by
 unfold byt;show (l.toArray[k]!).toNat = _;congr 1
 simp [List.getD_eq_getElem?_getD,getElem!_def];cases l[k]? <;> rfl
theorem decode_dec (s:ByteArray) (i:Nat):Utf8.decode s i = dec (s.data.toList.drop i):=by
 have h1:∀ k,s.get! (i + k) = (⟨(s.data.toList.drop i).toArray⟩:ByteArray).get! (0 + k):=by
  intro k;show s.data[i + k]! = (s.data.toList.drop i).toArray[0 + k]!;simp [getElem!_def]
 have h2:∀ k,(i + k < s.size) = (0 + k < (⟨(s.data.toList.drop i).toArray⟩:ByteArray).size):=by
  intro k;have e1:s.size = s.data.size:=rfl;have e2:(⟨(s.data.toList.drop i).toArray⟩:ByteArray).size = s.data.size - i:=by
   show (s.data.toList.drop i).toArray.size = _;simp
  rw [e1,e2];apply propext;omega
 unfold dec Utf8.decode;simp only [h1,h2]
theorem dec_eq (l:List UInt8):dec l =
  if byt l 0 < 128 then (byt l 0,1)
  else if byt l 0 / 32 = 6 /\ 1 < l.length /\ byt l 1 / 64 = 2 then
   if (byt l 0 % 32) * 64 + byt l 1 % 64 ≥ 128 then ((byt l 0 % 32) * 64 + byt l 1 % 64,2) else (65533,1)
  else if byt l 0 / 16 = 14 /\ (1 < l.length /\ byt l 1 / 64 = 2) /\ 2 < l.length /\ byt l 2 / 64 = 2 then
   if (byt l 0 % 16) * 4096 + (byt l 1 % 64) * 64 + byt l 2 % 64 ≥ 2048 /\ vld (((byt l 0 % 16) * 4096 + (byt l 1 % 64) * 64 + byt l 2 % 64:Nat):Int) = true then ((byt l 0 % 16) * 4096 + (byt l 1 % 64) * 64 + byt l 2 % 64,3) else (65533,1)
  else if byt l 0 / 8 = 30 /\ (1 < l.length /\ byt l 1 / 64 = 2) /\ (2 < l.length /\ byt l 2 / 64 = 2) /\ 3 < l.length /\ byt l 3 / 64 = 2 then
   if (byt l 0 % 8) * 262144 + (byt l 1 % 64) * 4096 + (byt l 2 % 64) * 64 + byt l 3 % 64 ≥ 65536 /\ vld (((byt l 0 % 8) * 262144 + (byt l 1 % 64) * 4096 + (byt l 2 % 64) * 64 + byt l 3 % 64:Nat):Int) = true then ((byt l 0 % 8) * 262144 + (byt l 1 % 64) * 4096 + (byt l 2 % 64) * 64 + byt l 3 % 64,4) else (65533,1)
  else (65533,1):=by
 have hs:(⟨l.toArray⟩:ByteArray).size = l.length:=by show l.toArray.size = _;simp
 unfold dec Utf8.decode;simp only [Nat.zero_add,get_list,hs,Utf8.runeError,Bool.and_eq_true,decide_eq_true_eq,beq_iff_eq,vld,and_assoc];congr
theorem u8 {a:UInt8} {n:Nat} (h:a.toNat = n):a = UInt8.ofNat n:=by rw [<- h];exact UInt8.ofNat_toNat.symm
theorem u8_nat (n:Nat) (h:n < 256):(UInt8.ofNat n).toNat = n:=by simp;omega
theorem list1 {l:List UInt8} (h:0 < l.length):∃ a r,l = a :: r:=by
 match l,h with
 | a :: r,_=>exact ⟨a,r,rfl⟩
theorem list2 {l:List UInt8} (h:1 < l.length):∃ a b r,l = a :: b :: r:=by
 match l,h with
 | a :: b :: r,_=>exact ⟨a,b,r,rfl⟩
theorem list3 {l:List UInt8} (h:2 < l.length):∃ a b c r,l = a :: b :: c :: r:=by
 match l,h with
 | a :: b :: c :: r,_=>exact ⟨a,b,c,r,rfl⟩
theorem list4 {l:List UInt8} (h:3 < l.length):∃ a b c d r,l = a :: b :: c :: d :: r:=by
 match l,h with
 | a :: b :: c :: d :: r,_=>exact ⟨a,b,c,d,r,rfl⟩
theorem dec_enc (c:Int) (r:List UInt8) (hv:vld c = true):dec (enc c ++ r) = (c.toNat,(enc c).length):=by
 rcases forms c hv with ⟨h0,h1,e⟩ | ⟨h0,h1,e⟩ | ⟨h0,h1,h2,e⟩ | ⟨h0,h1,e⟩
 ·rw [e,dec_eq]
  have b0:byt ([UInt8.ofNat c.toNat] ++ r) 0 = c.toNat:=u8_nat _ (by omega);rw [b0,if_pos (by omega)];rfl
 ·have b0:byt (enc c ++ r) 0 = 192 + c.toNat / 64:=by rw [e];exact u8_nat _ (by omega)
  have b1:byt (enc c ++ r) 1 = 128 + c.toNat % 64:=by rw [e];exact u8_nat _ (by omega)
  have hl:1 < (enc c ++ r).length:=by rw [e];simp
  have hn:(enc c).length = 2:=by rw [e];rfl
  rw [dec_eq,b0,b1,if_neg (by omega),if_pos ⟨by omega,hl,by omega⟩,if_pos (by omega),hn];congr 1;omega
 ·have b0:byt (enc c ++ r) 0 = 224 + c.toNat / 4096:=by rw [e];exact u8_nat _ (by omega)
  have b1:byt (enc c ++ r) 1 = 128 + c.toNat / 64 % 64:=by rw [e];exact u8_nat _ (by omega)
  have b2:byt (enc c ++ r) 2 = 128 + c.toNat % 64:=by rw [e];exact u8_nat _ (by omega)
  have hl:2 < (enc c ++ r).length:=by rw [e];simp
  have hn:(enc c).length = 3:=by rw [e];rfl
  have hc:(224 + c.toNat / 4096) % 16 * 4096 + (128 + c.toNat / 64 % 64) % 64 * 64 + (128 + c.toNat % 64) % 64 = c.toNat:=by omega
  rw [dec_eq,b0,b1,b2,if_neg (by omega),if_neg (by omega),if_pos ⟨by omega,⟨by omega,by omega⟩,hl,by omega⟩,hc,if_pos ⟨by omega,by rw [show ((c.toNat:Nat):Int) = c from by omega];exact hv⟩,hn]
 ·have b0:byt (enc c ++ r) 0 = 240 + c.toNat / 262144:=by rw [e];exact u8_nat _ (by omega)
  have b1:byt (enc c ++ r) 1 = 128 + c.toNat / 4096 % 64:=by rw [e];exact u8_nat _ (by omega)
  have b2:byt (enc c ++ r) 2 = 128 + c.toNat / 64 % 64:=by rw [e];exact u8_nat _ (by omega)
  have b3:byt (enc c ++ r) 3 = 128 + c.toNat % 64:=by rw [e];exact u8_nat _ (by omega)
  have hl:3 < (enc c ++ r).length:=by rw [e];simp
  have hn:(enc c).length = 4:=by rw [e];rfl
  have hc:(240 + c.toNat / 262144) % 8 * 262144 + (128 + c.toNat / 4096 % 64) % 64 * 4096 + (128 + c.toNat / 64 % 64) % 64 * 64 + (128 + c.toNat % 64) % 64 = c.toNat:=by omega
  rw [dec_eq,b0,b1,b2,b3,if_neg (by omega),if_neg (by omega),if_neg (by omega),if_pos ⟨by omega,⟨by omega,by omega⟩,⟨by omega,by omega⟩,hl,by omega⟩,hc,if_pos ⟨by omega,by rw [show ((c.toNat:Nat):Int) = c from by omega];exact hv⟩,hn]
theorem dec_cases (l:List UInt8) (hl:l ≠ []) :
  (∃ c r,vld c = true /\ l = enc c ++ r /\ dec l = (c.toNat,(enc c).length)) \/ dec l = (65533,1):=by
 have key:∀ c:Int,vld c = true -> (∃ r,l = enc c ++ r) -> ∃ c r,vld c = true /\ l = enc c ++ r /\ dec l = (c.toNat,(enc c).length):=by
  rintro c hv ⟨r,hr⟩;exact ⟨c,r,hv,hr,by rw [hr];exact dec_enc c r hv⟩
 have g0:=byt_lt l 0;have g1:=byt_lt l 1;have g2:=byt_lt l 2;have g3:=byt_lt l 3;by_cases h1:byt l 0 < 128
 ·obtain ⟨a,r,rfl⟩:=list1 (List.length_pos_iff.2 hl)
  have b0:byt (a :: r) 0 = a.toNat:=rfl;refine .inl (key (a.toNat:Int) ((vld_iff _).2 (by omega)) ⟨r,?_⟩);rw [enc1 _ (by omega) (by omega)];simp
 by_cases h2:byt l 0 / 32 = 6 /\ 1 < l.length /\ byt l 1 / 64 = 2
 ·by_cases hc:(byt l 0 % 32) * 64 + byt l 1 % 64 ≥ 128
  ·obtain ⟨a,b,r,rfl⟩:=list2 h2.2.1
   have b0:byt (a :: b :: r) 0 = a.toNat:=rfl;have b1:byt (a :: b :: r) 1 = b.toNat:=rfl;refine .inl (key ((a.toNat % 32 * 64 + b.toNat % 64:Nat):Int) ((vld_iff _).2 (by omega)) ⟨r,?_⟩);rw [enc2 _ (by omega) (by omega),Int.toNat_natCast,<- u8 (a:=a) (by omega),<- u8 (a:=b) (by omega)];rfl
  ·right;rw [dec_eq,if_neg h1,if_pos h2,if_neg hc]
 by_cases h3:byt l 0 / 16 = 14 /\ (1 < l.length /\ byt l 1 / 64 = 2) /\ 2 < l.length /\ byt l 2 / 64 = 2
 ·by_cases hc:(byt l 0 % 16) * 4096 + (byt l 1 % 64) * 64 + byt l 2 % 64 ≥ 2048 /\ vld (((byt l 0 % 16) * 4096 + (byt l 1 % 64) * 64 + byt l 2 % 64:Nat):Int) = true
  ·obtain ⟨a,b,c,r,rfl⟩:=list3 h3.2.2.1
   have b0:byt (a :: b :: c :: r) 0 = a.toNat:=rfl;have b1:byt (a :: b :: c :: r) 1 = b.toNat:=rfl;have b2:byt (a :: b :: c :: r) 2 = c.toNat:=rfl;refine .inl (key _ hc.2 ⟨r,?_⟩);rw [enc3 _ (by omega) (by omega) hc.2,Int.toNat_natCast,<- u8 (a:=a) (by omega),<- u8 (a:=b) (by omega),<- u8 (a:=c) (by omega)];rfl
  ·right;rw [dec_eq,if_neg h1,if_neg h2,if_pos h3,if_neg hc]
 by_cases h4:byt l 0 / 8 = 30 /\ (1 < l.length /\ byt l 1 / 64 = 2) /\ (2 < l.length /\ byt l 2 / 64 = 2) /\ 3 < l.length /\ byt l 3 / 64 = 2
 ·by_cases hc:(byt l 0 % 8) * 262144 + (byt l 1 % 64) * 4096 + (byt l 2 % 64) * 64 + byt l 3 % 64 ≥ 65536 /\ vld (((byt l 0 % 8) * 262144 + (byt l 1 % 64) * 4096 + (byt l 2 % 64) * 64 + byt l 3 % 64:Nat):Int) = true
  ·obtain ⟨a,b,c,d,r,rfl⟩:=list4 h4.2.2.2.1
   have b0:byt (a :: b :: c :: d :: r) 0 = a.toNat:=rfl;have b1:byt (a :: b :: c :: d :: r) 1 = b.toNat:=rfl;have b2:byt (a :: b :: c :: d :: r) 2 = c.toNat:=rfl;have b3:byt (a :: b :: c :: d :: r) 3 = d.toNat:=rfl;refine .inl (key _ hc.2 ⟨r,?_⟩);rw [enc4 _ (by omega) hc.2,Int.toNat_natCast,<- u8 (a:=a) (by omega),<- u8 (a:=b) (by omega),<- u8 (a:=c) (by omega),<- u8 (a:=d) (by omega)];rfl
  ·right;rw [dec_eq,if_neg h1,if_neg h2,if_neg h3,if_pos h4,if_neg hc]
 ·right;rw [dec_eq,if_neg h1,if_neg h2,if_neg h3,if_neg h4]
theorem enc_length (c:Int) (hv:vld c = true):1 <= (enc c).length /\ (enc c).length <= 4:=by
 rcases forms c hv with ⟨_,_,e⟩ | ⟨_,_,e⟩ | ⟨_,_,_,e⟩ | ⟨_,_,e⟩ <;> rw [e] <;> simp
theorem enc_ne (c:Int) (r:List UInt8) (hv:vld c = true):enc c ++ r ≠ []:=by
 intro h;have h2:=enc_length c hv;rw [List.append_eq_nil_iff] at h;rw [h.1] at h2;simp at h2
theorem enc_one (c:Int) (hv:vld c = true) (h:(enc c).length = 1):c < 128:=by
 rcases forms c hv with ⟨_,h1,e⟩ | ⟨_,_,e⟩ | ⟨_,_,_,e⟩ | ⟨_,_,e⟩
 ·exact h1
 all_goals rw [e] at h;simp at h
theorem enc_spoilt:enc 65533 = [239,191,189]:=by decide +kernel
theorem vld_spoilt:vld 65533 = true:=(vld_iff _).2 (by omega)
def spo (l:List UInt8):Bool:=(dec l == (65533,1))
theorem spo_false_iff (l:List UInt8) (hl:l ≠ []):spo l = false ↔ ∃ c r,vld c = true /\ l = enc c ++ r:=by
 unfold spo;constructor
 ·intro h
  rcases dec_cases l hl with ⟨c,r,hv,hr,_⟩ | h'
  ·exact ⟨c,r,hv,hr⟩
  ·rw [h'] at h;simp at h
 ·rintro ⟨c,r,hv,rfl⟩
  rw [dec_enc c r hv,beq_eq_false_iff_ne];intro h;have h1:=congrArg Prod.fst h;have h2:=congrArg Prod.snd h;simp only at h1 h2;have:=enc_one c hv h2;omega
def mrk (l:List UInt8):Int × Nat × Bool:=(((dec l).1:Int),(dec l).2,!spo l)
theorem mark_enc (c:Int) (r:List UInt8) (hv:vld c = true):mrk (enc c ++ r) = (c,(enc c).length,true):=by
 have hs:spo (enc c ++ r) = false:=(spo_false_iff _ (enc_ne c r hv)).2 ⟨c,r,hv,rfl⟩;unfold mrk;rw [dec_enc c r hv,hs];have:=(vld_iff c).1 hv;simp;omega
theorem mrk_enc' {c:Int} {l r:List UInt8} (hv:vld c = true) (h:l = enc c ++ r):mrk l = (c,(enc c).length,true):=by rw [h];exact mark_enc c r hv
theorem mark_spo (l:List UInt8) (h:spo l = true):mrk l = (65533,1,false):=by
 unfold mrk;rw [h];unfold spo at h;rw [beq_iff_eq.1 h];rfl
theorem mark_cases (l:List UInt8) (hl:l ≠ []) :
  (∃ c r,vld c = true /\ l = enc c ++ r /\ mrk l = (c,(enc c).length,true)) \/ (spo l = true /\ mrk l = (65533,1,false)):=by
 by_cases h:spo l = true
 ·exact .inr ⟨h,mark_spo l h⟩
 ·obtain ⟨c,r,hv,rfl⟩:=(spo_false_iff l hl).1 (by simpa using h)
  exact .inl ⟨c,r,hv,rfl,mark_enc c r hv⟩
theorem mark_n (l:List UInt8) (hl:l ≠ []):1 <= (mrk l).2.1 /\ (mrk l).2.1 <= l.length /\ (mrk l).2.1 <= 4:=by
 rcases mark_cases l hl with ⟨c,r,hv,rfl,hm⟩ | ⟨_,hm⟩
 ·rw [hm];have:=enc_length c hv;simp;omega
 ·rw [hm];have:=List.length_pos_iff.2 hl;simp;omega
theorem dec_c (l:List UInt8) (hl:l ≠ []):vld ((dec l).1:Int) = true:=by
 rcases dec_cases l hl with ⟨c,r,hv,hr,hd⟩ | hd
 ·rw [hd];have:=(vld_iff c).1 hv;simp only;rw [show ((c.toNat:Nat):Int) = c from by omega];exact hv
 ·rw [hd];exact vld_spoilt
def fst3 (l:List UInt8):Int × Int × Bool:=if l = [] then (0,0,false) else ((mrk l).1,((mrk l).2.1:Int),(mrk l).2.2)
def marksF:Nat -> List UInt8 -> List (Int × Nat × Bool)
 | 0,_=>[]
 | _ + 1,[]=>[]
 | f + 1,a :: r=>mrk (a :: r) :: marksF f ((a :: r).drop (mrk (a :: r)).2.1)
def marks (l:List UInt8):List (Int × Nat × Bool):=marksF l.length l
theorem marksF_more (f g:Nat) (l:List UInt8) (hf:l.length <= f) (hg:l.length <= g):marksF f l = marksF g l:=by
 induction f generalizing g l with
 | zero =>
  have:l = []:=List.eq_nil_of_length_eq_zero (by omega);subst this;cases g <;> rfl
 | succ f ih =>
  cases l with
  | nil=>cases g <;> rfl
  | cons a r =>
   cases g with
   | zero=>simp at hg
   | succ g =>
    have:=mark_n (a :: r) (by simp);simp only [marksF];rw [ih g _ (by simp at *;omega) (by simp at *;omega)]
theorem marks_nil:marks [] = []:=rfl
theorem marks_cons (l:List UInt8) (hl:l ≠ []):marks l = mrk l :: marks (l.drop (mrk l).2.1):=by
 cases l with
 | nil=>exact absurd rfl hl
 | cons a r =>
  have:=mark_n (a :: r) (by simp);show marksF (r.length + 1) (a :: r) = _;simp only [marksF];unfold marks;rw [marksF_more _ ((a :: r).drop (mrk (a :: r)).2.1).length _ (by simp at *;omega) (Nat.le_refl _)]
theorem marks_enc (c:Int) (r:List UInt8) (hv:vld c = true):marks (enc c ++ r) = (c,(enc c).length,true) :: marks r:=by
 have hne:=enc_ne c r hv;rw [marks_cons _ hne,mark_enc c r hv];simp
def allL (l:List UInt8):List Int:=(marks l).map (·.1)
def okL (l:List UInt8):Bool:=(marks l).all (·.2.2)
def startsF:Nat -> List (Int × Nat × Bool) -> List Int
 | at',[]=>[(at':Int)]
 | at',m :: r=>(at':Int) :: startsF (at' + m.2.1) r
theorem startsF_length (n:Nat) (l:List (Int × Nat × Bool)):(startsF n l).length = l.length + 1:=by
 induction l generalizing n with
 | nil=>rfl
 | cons m r ih=>simp [startsF,ih]
def startsL (l:List UInt8):List Int:=startsF 0 (marks l)
theorem marks_length (l:List UInt8):(marks l).length <= l.length:=by
 have:∀ n,∀ l:List UInt8,l.length <= n -> (marks l).length <= l.length:=by
  intro n;induction n with
  | zero=>intro l h;have:l = []:=List.eq_nil_of_length_eq_zero (by omega);subst this;simp [marks_nil]
  | succ n ih =>
   intro l h;by_cases hl:l = []
   ·subst hl;simp [marks_nil]
   ·have hm:=mark_n l hl
    rw [marks_cons l hl];have:=ih (l.drop (mrk l).2.1) (by simp;omega);simp at *;omega
 exact this l.length l (Nat.le_refl _)
theorem marks_ind {p:List UInt8 -> Prop} (h0:p []) (h1:∀ l,l ≠ [] -> p (l.drop (mrk l).2.1) -> p l) (l:List UInt8):p l:=by
 have:∀ n,∀ l:List UInt8,l.length <= n -> p l:=by
  intro n;induction n with
  | zero=>intro l h;have:l = []:=List.eq_nil_of_length_eq_zero (by omega);subst this;exact h0
  | succ n ih =>
   intro l h;by_cases hl:l = []
   ·subst hl;exact h0
   ·have hm:=mark_n l hl
    exact h1 l hl (ih _ (by simp;omega))
 exact this l.length l (Nat.le_refl _)
def one (c:Int):List UInt8:=if vld c = true then enc c else enc 65533
def joinL (l:List Int):List UInt8:=l.flatMap one
def around (n m:Int):Int:=(if n < 0 then -(n + 1) else n) % m
theorem around_bd (n m:Int) (h:0 < m):0 <= around n m /\ around n m < m:=by
 unfold around;exact ⟨Int.emod_nonneg _ (by omega),Int.emod_lt_of_pos _ h⟩
def encB (c:Int):ByteArray:=if vld c = true then Utf8.encode c else ⟨#[]⟩
theorem encB_list (c:Int) (hv:vld c = true):(encB c).data.toList = enc c:=by unfold encB;rw [if_pos hv];rfl
theorem ba_ext {a b:ByteArray} (h:a.data.toList = b.data.toList):a = b:=by
 cases a;cases b;congr;exact Array.ext' h
theorem hasPrefix_iff (l p:List UInt8):Lib.hasPrefix l p = true ↔ ∃ r,l = p ++ r:=by
 unfold Lib.hasPrefix;rw [List.isPrefixOf_iff_prefix];constructor
 ·rintro ⟨r,hr⟩;exact ⟨r,hr.symm⟩
 ·rintro ⟨r,hr⟩;exact ⟨r,hr.symm⟩
theorem spo_code (l:List UInt8) (hl:l ≠ []):((((dec l).1:Nat):Int) == 65533 && !Lib.hasPrefix l (enc 65533)) = spo l:=by
 rcases mark_cases l hl with ⟨c,r,hv,rfl,hm⟩ | ⟨hs,hm⟩
 ·have hs:spo (enc c ++ r) = false:=(spo_false_iff _ hl).2 ⟨c,r,hv,rfl⟩
  rw [hs,dec_enc c r hv];have hb:=(vld_iff c).1 hv;by_cases hc:c = 65533
  ·subst hc
   have:Lib.hasPrefix (enc 65533 ++ r) (enc 65533) = true:=(hasPrefix_iff _ _).2 ⟨r,rfl⟩;rw [this];rfl
  ·have:((((c.toNat,(enc c).length).1:Nat):Int) == 65533) = false:=by
    rw [beq_eq_false_iff_ne];simp only;omega
   rw [this];rfl
 ·rw [hs]
  have hd:dec l = (65533,1):=by unfold spo at hs;exact beq_iff_eq.1 hs
  have hp:Lib.hasPrefix l (enc 65533) = false:=by
   cases h:Lib.hasPrefix l (enc 65533)
   ·rfl
   ·obtain ⟨r,hr⟩:=(hasPrefix_iff _ _).1 h
    rw [hr,dec_enc 65533 r vld_spoilt,enc_spoilt] at hd;simp at hd
  rw [hd,hp];rfl
theorem decode_at (s:ByteArray) (pos:Nat):Utf8.decode s pos = ((dec (s.data.toList.drop pos)).1,(mrk (s.data.toList.drop pos)).2.1):=by
 rw [decode_dec];rfl
theorem drop_ne {s:ByteArray} {pos:Nat} (h:pos < s.size):s.data.toList.drop pos ≠ []:=by
 intro e;have:=congrArg List.length e;have hs:s.size = s.data.toList.length:=by simp
 simp only [List.length_drop,List.length_nil] at this;omega
theorem size_list (s:ByteArray):s.data.toList.length = s.size:=by simp
theorem marks_at (s:ByteArray) (pos:Nat) (h:pos < s.size) :
  marks (s.data.toList.drop pos) = mrk (s.data.toList.drop pos) :: marks (s.data.toList.drop (pos + (mrk (s.data.toList.drop pos)).2.1)):=by
 rw [marks_cons _ (drop_ne h),List.drop_drop]
theorem mark_at_n (s:ByteArray) (pos:Nat) (h:pos < s.size):1 <= (mrk (s.data.toList.drop pos)).2.1 /\ pos + (mrk (s.data.toList.drop pos)).2.1 <= s.size:=by
 have:=mark_n _ (drop_ne h);have hl:=size_list s;simp only [List.length_drop] at this;omega
theorem marks_end (s:ByteArray) (pos:Nat) (h:¬ pos < s.size):marks (s.data.toList.drop pos) = []:=by
 have hl:=size_list s;rw [List.drop_of_length_le (by omega)];rfl
theorem fst3_whole (l:List UInt8) (n:Nat) (hn:l.length = n) (h1:1 <= n) (h:(fst3 l).2.2 = true) (h2:(fst3 l).2.1 = (n:Int)) :
  ∃ c,vld c = true /\ l = enc c /\ (fst3 l).1 = c:=by
 have hl:l ≠ []:=by intro e;rw [e] at hn;simp at hn;omega
 unfold fst3 at h h2 |-;rw [if_neg hl] at h h2 |-;rcases mark_cases l hl with ⟨c,r,hv,he,hk⟩ | ⟨hs,hk⟩
 ·rw [hk] at h2 |-
  simp only at h2;refine ⟨c,hv,?_,rfl⟩;have hr:r = []:=by
   apply List.eq_nil_of_length_eq_zero;have:=congrArg List.length he;simp at this;omega
  rw [he,hr];simp
 ·rw [hk] at h;simp at h
theorem fst3_enc (c:Int) (hv:vld c = true):fst3 (enc c) = (c,((enc c).length:Int),true):=by
 have hne:enc c ≠ []:=by have:=enc_ne c [] hv;simpa using this
 unfold fst3;have h:=mark_enc c [] hv;rw [List.append_nil] at h;rw [if_neg hne,h]
def val:List UInt8 -> Int
 | [a]=>(a.toNat:Int)
 | [a,b]=>((a.toNat:Int) - 192) * 64 + (b.toNat:Int) - 128
 | [a,b,c]=>(((a.toNat:Int) - 224) * 64 + (b.toNat:Int) - 128) * 64 + (c.toNat:Int) - 128
 | [a,b,c,d]=>((((a.toNat:Int) - 240) * 64 + (b.toNat:Int) - 128) * 64 + (c.toNat:Int) - 128) * 64 + (d.toNat:Int) - 128
 | _=>0
theorem val_enc (c:Int) (hv:vld c = true):val (enc c) = c:=by
 rcases forms c hv with ⟨h0,h1,e⟩ | ⟨h0,h1,e⟩ | ⟨h0,h1,h2,e⟩ | ⟨h0,h1,e⟩
 ·rw [e,val,u8_nat _ (by omega)];omega
 ·rw [e,val,u8_nat _ (by omega),u8_nat _ (by omega)];omega
 ·rw [e,val,u8_nat _ (by omega),u8_nat _ (by omega),u8_nat _ (by omega)];omega
 ·rw [e,val,u8_nat _ (by omega),u8_nat _ (by omega),u8_nat _ (by omega),u8_nat _ (by omega)];omega
def noFront (l:List UInt8) (k:Nat):Prop:=∀ c r,vld c = true -> l = enc c ++ r -> k <= (enc c).length
theorem noFront_start (l:List UInt8):noFront l 1:=fun c _ hv _=>(enc_length c hv).1
theorem encB_take {l:List UInt8} {k:Nat} {c:Int} (hk:1 <= k) (hl:k <= l.length) (h:(encB c).data.toList = l.take k):vld c = true /\ enc c = l.take k:=by
 cases hv:vld c
 ·exfalso
  unfold encB at h;rw [if_neg (by simp [hv])] at h;have:=congrArg List.length h;simp at this;omega
 ·rw [encB_list c hv] at h;exact ⟨rfl,h⟩
theorem front_found (l:List UInt8) (k:Nat) (hk:1 <= k) (hl:k <= l.length) (h:(encB (val (l.take k))).data.toList = l.take k) :
  fst3 l = (val (l.take k),(k:Int),true):=by
 obtain ⟨hv,he⟩:=encB_take hk hl h;have hne:l ≠ []:=by intro e;rw [e] at hl;simp at hl;omega
 have h2:l = enc (val (l.take k)) ++ l.drop k:=by
  conv=>lhs;rw [<- List.take_append_drop k l]
  rw [he]
 have hlen:(enc (val (l.take k))).length = k:=by rw [he];simp;omega
 have hm:=mrk_enc' hv h2;unfold fst3;rw [if_neg hne,hm,hlen]
theorem noFront_step (l:List UInt8) (k:Nat) (h:noFront l k) (hx:(encB (val (l.take k))).data.toList ≠ l.take k):noFront l (k + 1):=by
 intro c r hv e;have h1:=h c r hv e;rcases Nat.lt_or_ge k (enc c).length with h2 | h2
 ·omega
 ·exfalso
  apply hx;have h3:(enc c).length = k:=by omega
  have h4:l.take k = enc c:=by rw [e,<- h3,List.take_left]
  rw [h4,val_enc c hv,encB_list c hv]
theorem noFront_end (l:List UInt8) (k:Nat) (hl:l ≠ []) (h:noFront l k) (hk:4 < k \/ l.length < k):fst3 l = (65533,1,false):=by
 unfold fst3;rw [if_neg hl];rcases mark_cases l hl with ⟨c,r,hv,e,_⟩ | ⟨_,hm⟩
 ·exfalso
  have h1:=h c r hv e;have h2:=enc_length c hv;have h3:=congrArg List.length e;simp at h3;omega
 ·rw [hm];simp
theorem one_length (c:Int):(one c).length <= 4:=by
 unfold one;split
 ·exact (enc_length c (by assumption)).2
 ·rw [enc_spoilt];simp
theorem joinL_length (l:List Int):(joinL l).length <= 4 * l.length:=by
 induction l with
 | nil=>simp [joinL]
 | cons c r ih =>
  have:=one_length c;unfold joinL at *;simp only [List.flatMap_cons,List.length_append,List.length_cons];omega
theorem joinL_take (l:List Int) (k:Nat) (h:k < l.length):joinL (l.take (k + 1)) = joinL (l.take k) ++ one (l.getD k 0):=by
 rw [List.take_succ_eq_append_getElem h];unfold joinL;rw [List.flatMap_append,List.getD_eq_getElem?_getD,List.getElem?_eq_getElem h];simp
theorem one_enc {c:Int} (hv:vld c = true):one c = (encB c).data.toList:=by unfold one;rw [if_pos hv,encB_list c hv]
theorem one_spoilt {c:Int} (hv:vld c = false):one c = (encB 65533).data.toList:=by unfold one;rw [if_neg (by simp [hv]),encB_list _ vld_spoilt]
theorem encB_empty {c:Int} (hv:vld c = false):(encB c).data.toList = []:=by unfold encB;rw [if_neg (by simp [hv])]
theorem encB_some {c:Int} (hv:vld c = true):(encB c).data.toList ≠ []:=by
 rw [encB_list c hv];have:=enc_ne c [] hv;simpa using this
theorem encB_size (c:Int):(encB c).size <= 4:=by
 cases hv:vld c
 ·have:=encB_empty hv
  have h:=size_list (encB c);rw [this] at h;simp at h;omega
 ·have h:=size_list (encB c)
  rw [encB_list c hv] at h;have:=enc_length c hv;omega
theorem allL_vld (l:List UInt8):∀ c ∈ allL l,vld c = true:=by
 refine marks_ind (p:=fun l=>∀ c ∈ allL l,vld c = true) (by simp [allL,marks_nil]) ?_ l;intro l hl ih c hc;unfold allL at hc ih;rw [marks_cons l hl,List.map_cons,List.mem_cons] at hc;rcases hc with rfl | hc
 ·exact dec_c l hl
 ·exact ih c hc
theorem marks_join (xs:List Int) (r:List UInt8) (h:∀ c ∈ xs,vld c = true):marks (joinL xs ++ r) = xs.map (fun c=>(c,(enc c).length,true)) ++ marks r:=by
 induction xs with
 | nil=>simp [joinL]
 | cons c xs ih =>
  have hc:=h c (by simp);have e:joinL (c :: xs) ++ r = enc c ++ (joinL xs ++ r):=by
   unfold joinL;rw [List.flatMap_cons,one,if_pos hc,List.append_assoc]
  rw [e,marks_enc c _ hc,ih (fun d hd=>h d (by simp [hd]))];rfl
theorem marks_join0 (xs:List Int) (h:∀ c ∈ xs,vld c = true):marks (joinL xs) = xs.map (fun c=>(c,(enc c).length,true)):=by
 have:=marks_join xs [] h;rw [List.append_nil,marks_nil,List.append_nil] at this;exact this
theorem allL_join (xs:List Int) (h:∀ c ∈ xs,vld c = true):allL (joinL xs) = xs:=by
 unfold allL;rw [marks_join0 xs h,List.map_map];exact List.map_id' xs
theorem okL_join (xs:List Int) (h:∀ c ∈ xs,vld c = true):okL (joinL xs) = true:=by
 unfold okL;rw [marks_join0 xs h];simp
theorem join_ok (l:List UInt8) (h:okL l = true):joinL (allL l) = l:=by
 revert h
 refine marks_ind (p:=fun l=>okL l = true -> joinL (allL l) = l) (fun _=>rfl) ?_ l;intro l hl ih h;unfold okL at h ih;rw [marks_cons l hl,List.all_cons,Bool.and_eq_true] at h;rcases mark_cases l hl with ⟨c,r,hv,he,hk⟩ | ⟨_,hk⟩
 ·have hd:l.drop (mrk l).2.1 = r:=by rw [hk,he];simp
  have:=ih h.2;rw [hd] at this;unfold joinL allL at this |-;rw [marks_cons l hl,hd,List.map_cons,List.flatMap_cons,this,hk,he];rw [one,if_pos hv]
 ·rw [hk] at h;simp at h
end Um
namespace Dm
def num (l:List Int):Nat:=l.foldl (fun n d=>10 * n + d.toNat) 0
def okD (l:List Int):Prop:=∀ d ∈ l,0 <= d /\ d <= 9
def okB (l:List Int):Bool:=l.all fun d=>decide (0 <= d /\ d <= 9)
theorem okB_iff (l:List Int):okB l = true ↔ okD l:=by simp [okB,okD]
theorem num_nil:num [] = 0:=rfl
theorem num_from (n:Nat) (l:List Int):l.foldl (fun n d=>10 * n + d.toNat) n = n * 10 ^ l.length + num l:=by
 induction l generalizing n with
 | nil=>simp [num]
 | cons d l ih =>
  have h1:=ih (10 * n + d.toNat);have h2:=ih (10 * 0 + d.toNat);unfold num;rw [List.foldl_cons,List.foldl_cons,h1,h2,List.length_cons,Nat.pow_succ];rw [Nat.add_mul,Nat.mul_comm 10 n,Nat.mul_zero,Nat.zero_add,Nat.mul_assoc,Nat.mul_comm 10 (10 ^ l.length)];omega
theorem num_append (a b:List Int):num (a ++ b) = num a * 10 ^ b.length + num b:=by
 unfold num;rw [List.foldl_append];exact num_from _ b
theorem num_cons (d:Int) (l:List Int):num (d :: l) = d.toNat * 10 ^ l.length + num l:=by
 have:=num_append [d] l;simpa [num] using this
theorem num_snoc (l:List Int) (d:Int):num (l ++ [d]) = 10 * num l + d.toNat:=by
 rw [num_append];simp [num];omega
theorem okD_nil:okD []:=by simp [okD]
theorem okD_cons {d:Int} {l:List Int}:okD (d :: l) ↔ (0 <= d /\ d <= 9) /\ okD l:=by simp [okD]
theorem okD_append {a b:List Int}:okD (a ++ b) ↔ okD a /\ okD b:=by
 simp only [okD,List.mem_append];exact ⟨fun h=>⟨fun d hd=>h d (.inl hd),fun d hd=>h d (.inr hd)⟩,fun h d hd=>hd.elim (h.1 d) (h.2 d)⟩
theorem okD_drop {l:List Int} (h:okD l) (n:Nat):okD (l.drop n):=fun d hd=>h d (List.mem_of_mem_drop hd)
theorem okD_take {l:List Int} (h:okD l) (n:Nat):okD (l.take n):=fun d hd=>h d (List.mem_of_mem_take hd)
theorem num_lt (l:List Int) (h:okD l):num l < 10 ^ l.length:=by
 induction l with
 | nil=>simp [num]
 | cons d l ih =>
  rw [okD_cons] at h;have:=ih h.2;rw [num_cons,List.length_cons,Nat.pow_succ];have h9:d.toNat <= 9:=by omega
  have:=Nat.mul_le_mul_right (10 ^ l.length) h9;omega
def trimL (l:List Int):List Int:=l.dropWhile (· == 0)
theorem num_trim (l:List Int):num (trimL l) = num l:=by
 induction l with
 | nil=>rfl
 | cons d l ih =>
  unfold trimL;by_cases h:d = 0
  ·subst h
   rw [List.dropWhile_cons_of_pos (by simp),num_cons];simpa [trimL] using ih
  ·rw [List.dropWhile_cons_of_neg (by simpa using h)]
theorem okD_trim {l:List Int} (h:okD l):okD (trimL l):=fun d hd=>h d ((List.dropWhile_sublist _).subset hd)
theorem trim_head (l:List Int):trimL l = [] \/ ∃ d r,trimL l = d :: r /\ d ≠ 0:=by
 induction l with
 | nil=>exact .inl rfl
 | cons d l ih =>
  unfold trimL;by_cases h:d = 0
  ·subst h
   rw [List.dropWhile_cons_of_pos (by simp)];exact ih
  ·rw [List.dropWhile_cons_of_neg (by simpa using h)]
   exact .inr ⟨d,l,rfl,h⟩
theorem num_ge (d:Int) (l:List Int) (h:okD (d :: l)) (hd:d ≠ 0):10 ^ l.length <= num (d :: l):=by
 rw [okD_cons] at h;rw [num_cons];have h1:1 <= d.toNat:=by omega
 have:=Nat.mul_le_mul_right (10 ^ l.length) h1;omega
theorem same_len (a b:List Int) (ha:okD a) (hb:okD b) (hl:a.length = b.length) (hn:num a = num b):a = b:=by
 induction a generalizing b with
 | nil=>exact (List.eq_nil_of_length_eq_zero hl.symm).symm
 | cons x a ih =>
  cases b with
  | nil=>simp at hl
  | cons y b =>
   rw [okD_cons] at ha hb;have hl':a.length = b.length:=by simpa using hl
   rw [num_cons,num_cons,hl'] at hn;have h1:=num_lt a ha.2;have h2:=num_lt b hb.2;rw [hl'] at h1;generalize hp:10 ^ b.length = p at *;have hxy:x.toNat = y.toNat:=by
    rcases Nat.lt_trichotomy x.toNat y.toNat with h | h | h
    ·have:=Nat.mul_le_mul_right p (show x.toNat + 1 <= y.toNat from h)
     rw [Nat.add_mul] at this;omega
    ·exact h
    ·have:=Nat.mul_le_mul_right p (show y.toNat + 1 <= x.toNat from h)
     rw [Nat.add_mul] at this;omega
   rw [hxy] at hn;rw [ih b ha.2 hb.2 hl' (by omega),show x = y from by omega]
def dg (n:Nat):List Int:=if h:n = 0 then [] else dg (n / 10) ++ [((n % 10:Nat):Int)]
termination_by n
decreasing_by omega
theorem dg_zero:dg 0 = []:=by rw [dg];simp
theorem dg_pos (n:Nat) (h:n ≠ 0):dg n = dg (n / 10) ++ [((n % 10:Nat):Int)]:=by rw [dg];simp [h]
theorem num_dg (n:Nat):num (dg n) = n:=by
 induction n using Nat.strongRecOn with
 | ind n ih =>
  by_cases h:n = 0
  ·subst h;rw [dg_zero];rfl
  ·rw [dg_pos n h,num_snoc,ih _ (by omega)];omega
theorem okD_dg (n:Nat):okD (dg n):=by
 induction n using Nat.strongRecOn with
 | ind n ih =>
  by_cases h:n = 0
  ·subst h;rw [dg_zero];exact okD_nil
  ·rw [dg_pos n h,okD_append]
   refine ⟨ih _ (by omega),?_⟩;rw [okD_cons];exact ⟨by omega,okD_nil⟩
theorem dg_head (n:Nat):dg n = [] \/ ∃ d r,dg n = d :: r /\ d ≠ 0:=by
 induction n using Nat.strongRecOn with
 | ind n ih =>
  by_cases h:n = 0
  ·subst h;exact .inl dg_zero
  ·refine .inr ?_
   rcases ih (n / 10) (by omega) with h1 | ⟨d,r,h1,h2⟩
   ·have h3:=num_dg (n / 10)
    rw [h1,num_nil] at h3;refine ⟨_,[],by rw [dg_pos n h,h1];rfl,by omega⟩
   ·exact ⟨d,r ++ [((n % 10:Nat):Int)],by rw [dg_pos n h,h1];rfl,h2⟩
theorem trim_dg (n:Nat):trimL (dg n) = dg n:=by
 rcases dg_head n with h | ⟨d,r,h,hd⟩
 ·rw [h];rfl
 ·rw [h];unfold trimL;rw [List.dropWhile_cons_of_neg (by simpa using hd)]
theorem len_lt (a b:List Int) (ha:okD a) (hb:okD b) (ht:b = [] \/ ∃ d r,b = d :: r /\ d ≠ 0) (hl:a.length < b.length):num a < num b:=by
 rcases ht with rfl | ⟨d,r,rfl,hd⟩
 ·simp at hl
 ·have h1:=num_lt a ha
  have h2:=num_ge d r hb hd;have h3:10 ^ a.length <= 10 ^ r.length:=Nat.pow_le_pow_right (by omega) (by simp at hl;omega);omega
theorem trim_one (a b:List Int) (ha:okD a) (hb:okD b) (h:num a = num b):trimL a = trimL b:=by
 have h1:=num_trim a;have h2:=num_trim b;refine same_len _ _ (okD_trim ha) (okD_trim hb) ?_ (by omega);rcases Nat.lt_trichotomy (trimL a).length (trimL b).length with h3 | h3 | h3
 ·have:=len_lt _ _ (okD_trim ha) (okD_trim hb) (trim_head b) h3;omega
 ·exact h3
 ·have:=len_lt _ _ (okD_trim hb) (okD_trim ha) (trim_head a) h3;omega
theorem trim_eq (l:List Int) (h:okD l):trimL l = dg (num l):=by
 have:=trim_one l (dg (num l)) h (okD_dg _) (num_dg _).symm;rwa [trim_dg] at this
theorem trim_num {l:List Int} {n:Nat} (h:okD l) (hn:num l = n):trimL l = dg n:=by rw [trim_eq l h,hn]
def dgt (l:List Int) (i:Nat):Int:=if i < l.length then l.getD (l.length - 1 - i) 0 else 0
end Dm
section
open Go.Shelf
def shelfStringRen:Go.Shelf.Ren:=⟨fun | 169=>49 | n=>n,fun | 0=>0 | 3=>3 | 9=>9 | 37=>62 | 70=>91 | 72=>93 | 127=>138 | 5=>5 | n=>n,fun | n=>n⟩
theorem shelfString:Go.Proofs.Lays.n169 Tryz.prog shelfStringRen:={
 mixed:=by kernel_rfl
 f169:=Tryz.func49.trans (congrArg some (by kernel_rfl))
 t0:=Tryz.underlying0
 a0:=Tryz.isAgg0
 z0:=Tryz.sizeOf0
 v0:=Tryz.zeroValue0
 t3:=Tryz.underlying3
 a3:=Tryz.isAgg3
 z3:=Tryz.sizeOf3
 v3:=Tryz.zeroValue3
 t9:=Tryz.underlying9
 a9:=Tryz.isAgg9
 z9:=Tryz.sizeOf9
 v9:=Tryz.zeroValue9
 t37:=Tryz.underlying62
 a37:=Tryz.isAgg62
 z37:=Tryz.sizeOf62
 v37:=Tryz.zeroValue62
 t70:=Tryz.underlying91
 a70:=Tryz.isAgg91
 z70:=Tryz.sizeOf91
 v70:=Tryz.zeroValue91
 t72:=Tryz.underlying93
 a72:=Tryz.isAgg93
 z72:=Tryz.sizeOf93
 v72:=Tryz.zeroValue93
 t127:=Tryz.underlying138
 a127:=Tryz.isAgg138
 z127:=Tryz.sizeOf138
 v127:=Tryz.zeroValue138 }
theorem shelfStringX:Builder.Extra Tryz.prog shelfStringRen:={
 sizeBuilder:=by kernel_rfl
 liesBuilder:=by kernel_rfl
 t5:=Tryz.underlying5
 a5:=Tryz.isAgg5
 z5:=Tryz.sizeOf5
 v5:=Tryz.zeroValue5
 infoByte:=by kernel_rfl
 cellsByte:=by kernel_rfl
 sizeByte:=by kernel_rfl
 neB5:=by decide }
open Go.RowKit in
theorem string_any (B b:Nat) (l:List UInt8) (w:World) (h:Lib.IsBuilderF 93 5 B b (Lib.byteCells l) w) (hBw:B <= w.heap.size) :
  Calls Tryz.prog 49 #[.pointer (some ⟨b,0,none⟩)] w fun e w'=>e = .returned (.string ⟨l.toArray⟩) /\ (Lib.IsBuilderF 93 5 B b (Lib.byteCells l) w' /\ Below B w w' /\ Lib.OthersKept 5 (some b) w w'):=Any.Builder_String_any_k shelfString shelfStringX B b l w h hBw
end
section
open Go.Shelf
def shelfPrefixRen:Go.Shelf.Ren:=⟨fun | 99=>125 | 206=>160 | n=>n,fun | 9=>9 | 4=>4 | 3=>3 | n=>n,fun | n=>n⟩
theorem shelfPrefix:Go.Proofs.Lays.n99 Tryz.prog shelfPrefixRen:={
 mixed:=by kernel_rfl
 f99:=Tryz.func125.trans (congrArg some (by kernel_rfl))
 f206:=Tryz.func160.trans (congrArg some (by kernel_rfl))
 t3:=Tryz.underlying3
 a3:=Tryz.isAgg3
 z3:=Tryz.sizeOf3
 v3:=Tryz.zeroValue3
 t4:=Tryz.underlying4
 a4:=Tryz.isAgg4
 z4:=Tryz.sizeOf4
 v4:=Tryz.zeroValue4
 t9:=Tryz.underlying9
 a9:=Tryz.isAgg9
 z9:=Tryz.sizeOf9
 v9:=Tryz.zeroValue9 }
theorem hasPrefix_any (s p:ByteArray) (w:World) :
  Calls Tryz.prog 125 #[.string s,.string p] w fun e w'=>e = .returned (.bool (Lib.hasPrefix s.data.toList p.data.toList)) /\ w' = w:=Any.strings_HasPrefix shelfPrefix s p w
end
section
namespace Im
def endB (l p s:Int):Bool:=decide (1 <= p /\ p <= l) && (decide (l = p) || (decide (0 < s) && decide ((l - p) % s = 0)))
def grp (n p s:Int):Int:=if p < 1 \/ n <= p then 0 else if s < 1 then 1 else 1 + (n - 1 - p) / s
theorem endB_out {l p s:Int} (h:p < 1 \/ l < p):endB l p s = false:=by
 unfold endB;rw [show decide (1 <= p /\ p <= l) = false from decide_eq_false (by omega)];rfl
theorem endB_low {l p s:Int} (h:l <= 0):endB l p s = false:=by
 unfold endB;rw [show decide (1 <= p /\ p <= l) = false from by simp;omega];rfl
theorem end_loop {l p s n:Int} (hp:1 <= p) (hn:p <= n) (hd:0 < s -> (n - p) % s = 0) (hz:s <= 0 -> n = p) (hb:n = p \/ n < l + s) (he:¬ n < l \/ s <= 0):endB l p s = decide (n = l):=by
 unfold endB;by_cases hs:0 < s
 ·have hln:¬ n < l:=he.elim id (fun h=>absurd hs (by omega))
  have hd:=hd hs;by_cases h1:n = l
  ·subst h1
   simp [hs,hd];omega
  ·rw [show decide (n = l) = false from by simp [h1]]
   rcases hb with hb | hb
   ·rw [show decide (1 <= p /\ p <= l) = false from by simp;omega];rfl
   ·have h2:¬ l = p \/ ¬ p <= l:=by
     by_cases h:l = p
     ·subst h
      have h3:(n - l) % s = n - l:=Int.emod_eq_of_lt (by omega) (by omega);omega
     ·exact .inl h
    have h3:¬ (l - p) % s = 0:=by
     intro h4;have h5:s ∣ (n - p):=Int.dvd_of_emod_eq_zero hd;have h6:s ∣ (l - p):=Int.dvd_of_emod_eq_zero h4;have h7:s ∣ (n - l):=by have:=Int.dvd_sub h5 h6;rwa [show n - p - (l - p) = n - l from by omega] at this
     have h8:=Int.le_of_dvd (by omega) h7;omega
    have h9:decide ((l - p) % s = 0) = false:=by simp [h3]
    rw [h9];rcases h2 with h2 | h2
    ·simp [h2]
    ·simp [h2]
 ·have hz:=hz (by omega)
  subst hz;simp [hs];by_cases h:l = n
  ·simp [h];omega
  ·simp [h];intro h2;exact absurd h2.symm h
end Im
end
section
open Go.ChangeShapes Go.WideShapes Go.RowKit
def laidL:List (String × DataW Unit):=[("unicode/utf8.acceptRanges",Rows.laid_unicode_utf8_acceptRanges),("unicode/utf8.first",Rows.laid_unicode_utf8_first)]
theorem laidNone:(laidL.filter fun x=>x.2.handleName?.isNone) = laidL:=by kernel_rfl
def numOf:DataW Unit -> List Value
 | .lit (.int k n)=>[Value.int k n]
 | .agg [.lit (.int k n),.lit (.int k' n')]=>[Value.int k n,Value.int k' n']
 | _=>[]
def numsOf:DataW Unit -> Array Value
 | .agg parts=>(parts.flatMap numOf).toArray
 | _=>#[]
noncomputable def laidWorld (os:Os):World :=
 let w0:=World.holding Tryz.prog os ⟨#[],#[],[]⟩
 let put:=fun (h:Array Obj) (g:Nat) (cs:Array Value)=>h.modify g fun
   | .cells _ t frozen=>.cells cs t frozen
   | o=>o
 { w0 with heap:=put (put w0.heap 5 (numsOf Rows.laid_unicode_utf8_acceptRanges)) 4 (numsOf Rows.laid_unicode_utf8_first) }
theorem laidWorld_met (os:Os) (args:Array Value):laidMetH Tryz.prog laidL ((laidWorld os).forCall (fun _ _=>0) ⟨#[],args,[]⟩).memory:=by
 refine laidMetH_of_parts ?_ (by kernel_rfl);rw [laidNone];exact laidMet_of_run' 8 (by kernel_rfl) (by kernel_rfl)
end
end Go.Proofs.YteggfkbnnmpcjaaGreatDoor
