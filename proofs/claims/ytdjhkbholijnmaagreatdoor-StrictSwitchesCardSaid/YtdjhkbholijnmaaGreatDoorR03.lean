/- Rows of pairs and of triples in memory. (and more) -/
import Derived.Test.YtdjhkbholijnmaaGreatDoorR02
import Derived.Laws.Tables
import Derived.Deep.AppendLies
import Derived.Maps.OwnSet
import Derived.Maps.RangeWalk
import Derived.Shelf.Sort.Plain
import Derived.Sort.OwnSorted
set_option linter.all false
set_option maxRecDepth 100000
set_option maxHeartbeats 8000000
namespace Go.Proofs.YtdjhkbholijnmaaGreatDoor
section
open Go.RowKit Cm
def flat2 (l:List (Int × Int)):List Value:=l.flatMap fun r=>[.int .i64 r.1,.int .i64 r.2]
theorem flat2_get (l:List (Int × Int)) (i:Nat) (h:i < l.length) :
  (flat2 l)[i * 2]? = some (.int .i64 (l.getD i (0,0)).1) /\ (flat2 l)[i * 2 + 1]? = some (.int .i64 (l.getD i (0,0)).2):=by
 induction l generalizing i with
 | nil=>simp at h
 | cons r l ih =>
  cases i with
  | zero=>simp [flat2]
  | succ i =>
   have:=ih i (by simpa using h);have e:flat2 (r :: l) = .int .i64 r.1 :: .int .i64 r.2 :: flat2 l:=by simp [flat2]
   rw [e,show (i + 1) * 2 = i * 2 + 1 + 1 from by omega];simpa using this
def PRow (w:World) (v:Value) (l:List (Int × Int)):Prop :=
 ∃ a,v = .slice a l.length l.length /\ ∀ i,i < l.length -> ∃ g,a = some ⟨g,0,none⟩ /\ g < w.heap.size /\ w.cell? ⟨g,i * 2,none⟩ = some (.int .i64 (l.getD i (0,0)).1) /\ w.cell? ⟨g,i * 2 + 1,none⟩ = some (.int .i64 (l.getD i (0,0)).2)
theorem PRow.q {w w':World} {v:Value} {l:List (Int × Int)} (h:PRow w v l) (hq:Q w w'):PRow w' v l:=by
 obtain ⟨a,hv,hc⟩:=h;refine ⟨a,hv,fun i hi=>?_⟩;obtain ⟨g,ha,hg,h1,h2⟩:=hc i hi;refine ⟨g,ha,Nat.lt_of_lt_of_le hg hq.le,?_,?_⟩
 ·rw [World.cell?_of_block (w:=w) (hq.block hg)];exact h1
 ·rw [World.cell?_of_block (w:=w) (hq.block hg)];exact h2
theorem PRow.nil (w:World):PRow w (.slice none 0 0) []:=⟨none,rfl,fun i h=>by simp at h⟩
theorem PRow.made (w:World) (l:List (Int × Int)) (n:Nat) (hn:l.length = n) (t:TypeId) (cs:Array Value) (hcs:cs = (flat2 l).toArray) :
  PRow (w.alloc (.cells cs t)) (.slice (some ⟨w.heap.size,0,none⟩) n n) l:=by
 subst hn hcs;refine ⟨_,rfl,fun i hi=>⟨w.heap.size,rfl,by simp,?_,?_⟩⟩
 ·rw [World.cell?_alloc_at _ _ _ _ rfl];simpa using (flat2_get l i hi).1
 ·rw [World.cell?_alloc_at _ _ _ _ rfl];simpa using (flat2_get l i hi).2
def flat3 (l:List (Int × Int × Int)):List Value:=l.flatMap fun r=>[.int .i64 r.1,.int .i64 r.2.1,.int .i64 r.2.2]
theorem flat3_get (l:List (Int × Int × Int)) (i:Nat) (h:i < l.length) :
  (flat3 l)[i * 3]? = some (.int .i64 (l.getD i (0,0,0)).1) /\ (flat3 l)[i * 3 + 1]? = some (.int .i64 (l.getD i (0,0,0)).2.1) /\ (flat3 l)[i * 3 + 2]? = some (.int .i64 (l.getD i (0,0,0)).2.2):=by
 induction l generalizing i with
 | nil=>simp at h
 | cons r l ih =>
  cases i with
  | zero=>simp [flat3]
  | succ i =>
   have:=ih i (by simpa using h);have e:flat3 (r :: l) = .int .i64 r.1 :: .int .i64 r.2.1 :: .int .i64 r.2.2 :: flat3 l:=by simp [flat3]
   rw [e,show (i + 1) * 3 = i * 3 + 1 + 1 + 1 from by omega];simpa using this
def TRow (w:World) (g:Nat) (l:List (Int × Int × Int)):Prop :=
 g < w.heap.size /\ ∀ i,i < l.length -> w.cell? ⟨g,i * 3,none⟩ = some (.int .i64 (l.getD i (0,0,0)).1) /\ w.cell? ⟨g,i * 3 + 1,none⟩ = some (.int .i64 (l.getD i (0,0,0)).2.1) /\ w.cell? ⟨g,i * 3 + 2,none⟩ = some (.int .i64 (l.getD i (0,0,0)).2.2)
theorem TRow.q {w w':World} {g:Nat} {l:List (Int × Int × Int)} (h:TRow w g l) (hq:Q w w'):TRow w' g l:=by
 obtain ⟨hg,hc⟩:=h;refine ⟨Nat.lt_of_lt_of_le hg hq.le,fun i hi=>?_⟩;obtain ⟨h1,h2,h3⟩:=hc i hi;exact ⟨(World.cell?_of_block (w:=w) (hq.block hg)).trans h1,(World.cell?_of_block (w:=w) (hq.block hg)).trans h2,(World.cell?_of_block (w:=w) (hq.block hg)).trans h3⟩
theorem TRow.made (w:World) (l:List (Int × Int × Int)) (t:TypeId) (cs:Array Value) (hcs:cs = (flat3 l).toArray) :
  TRow (w.alloc (.cells cs t)) w.heap.size l:=by
 subst hcs;refine ⟨by simp,fun i hi=>⟨?_,?_,?_⟩⟩
 ·rw [World.cell?_alloc_at _ _ _ _ rfl];simpa using (flat3_get l i hi).1
 ·rw [World.cell?_alloc_at _ _ _ _ rfl];simpa using (flat3_get l i hi).2.1
 ·rw [World.cell?_alloc_at _ _ _ _ rfl];simpa using (flat3_get l i hi).2.2
end
section
open Go.RowKit
namespace Rw
theorem all1 {l:List Value} (h:l.all (·.oneCell') = true):l.toArray.all (·.oneCell') = true:=by simpa using h
theorem Q_row {w u:World} (h:Q w u) {b:Nat} (hb:w.heap.size <= b) (cs:Array Value):Q w (u.setRow b cs):=below_setRow h hb cs
theorem Bk_row {u:World} {b:Nat} {T:TypeId} {l:List Value} (h:Bk u b T l) (l':List Value):Bk (u.setRow b l'.toArray) b T l':=setRow_heap u b l.toArray l'.toArray T (0,0) h
theorem Bk_other {u:World} {b g:Nat} {T:TypeId} {l:List Value} (h:Bk u b T l) (hg:b ≠ g) (cs:Array Value):Bk (u.setRow g cs) b T l:=(setRow_other u g b cs hg).trans h
end Rw
end
section
open Go.RowKit
theorem ld_row {o:Oper} {a:Act} {T:TypeId} {x:Operand} {b:Nat} {l:List Value} {uz:World} {fs:_} (ho:o.op = .load T x) (hx:a.eval x = .pointer (some ⟨b,0,none⟩))
  (hB:Bk uz b T l) (hu:Tryz.prog.underlying T = some (.struct fs)) (hi:(Tryz.prog.info? T).map (·.size) = some l.length) :
  (execOp a.eval o).run Tryz.prog uz = .ok (.value (.agg l.toArray)) uz:=by
 have h:=run_loadVar_row uz b T T l.toArray (0,0) _ hB hu rfl (by simpa using hi);unfold execOp;simp only [ho,hx,Instr.loadAt,Instr.sureAddr,Sem.run_bind,Sem.run_pure,Result.andThen_ok,h]
end
section
open Go.RowKit
namespace Im
abbrev E:=Int × ByteArray × Int
def e0:E:=(0,⟨#[]⟩,0)
def flat (l:List E):List Value:=l.flatMap fun p=>[.int .i64 p.1,.string p.2.1,.int .i64 p.2.2]
theorem flat_cons (p:E) (l:List E):flat (p :: l) = .int .i64 p.1 :: .string p.2.1 :: .int .i64 p.2.2 :: flat l:=by simp [flat]
theorem flat_len (l:List E):(flat l).length = l.length * 3:=by
 induction l with
 | nil=>rfl
 | cons p l ih=>rw [flat_cons];simp [ih];omega
theorem flat_app (a b:List E):flat (a ++ b) = flat a ++ flat b:=by simp [flat]
theorem flat_get (l:List E) (i:Nat) (h:i < l.length):(flat l)[i * 3]? = some (.int .i64 (l.getD i e0).1) /\ (flat l)[i * 3 + 1]? = some (.string (l.getD i e0).2.1) /\ (flat l)[i * 3 + 2]? = some (.int .i64 (l.getD i e0).2.2):=by
 induction l generalizing i with
 | nil=>simp at h
 | cons p l ih =>
  cases i with
  | zero=>rw [flat_cons];simp
  | succ i =>
   have:=ih i (by simpa using h);rw [flat_cons,show (i + 1) * 3 = i * 3 + 1 + 1 + 1 from by omega];simpa using this
theorem flat_one (l:List E):∀ u ∈ flat l,u.oneCell' = true:=by
 intro u hu;obtain ⟨p,_,hp⟩:=List.mem_flatMap.1 hu;simp only [List.mem_cons,List.not_mem_nil,or_false] at hp;rcases hp with rfl | rfl | rfl <;> rfl
def LstI (w:World) (v:Value) (l:List E):Prop :=
 (l = [] /\ ∃ a c,v = .slice a 0 c /\ c <= maxLen /\ (a = none -> c = 0)) \/
 ∃ g off cap,v = .slice (some ⟨g,off,none⟩) l.length cap /\ g < w.heap.size /\ l.length <= cap /\ cap <= maxLen /\ ∀ i,i < l.length -> w.cell? ⟨g,off + i * 3,none⟩ = some (.int .i64 (l.getD i e0).1) /\ w.cell? ⟨g,off + i * 3 + 1,none⟩ = some (.string (l.getD i e0).2.1) /\ w.cell? ⟨g,off + i * 3 + 2,none⟩ = some (.int .i64 (l.getD i e0).2.2)
theorem LstI.nil (w:World) (a:Option Addr) (c:Nat) (hc:c <= maxLen) (hn:a = none -> c = 0):LstI w (.slice a 0 c) []:=.inl ⟨rfl,a,c,rfl,hc,hn⟩
theorem LstI.q {w w':World} {v:Value} {l:List E} (h:LstI w v l) (hq:Q w w'):LstI w' v l:=by
 rcases h with h | ⟨g,off,cap,hv,hg,h1,h2,hc⟩
 ·exact .inl h
 ·refine .inr ⟨g,off,cap,hv,Nat.lt_of_lt_of_le hg hq.le,h1,h2,fun i hi=>?_⟩
  obtain ⟨c1,c2,c3⟩:=hc i hi;exact ⟨(World.cell?_of_block (w:=w) (hq.block hg)).trans c1,(World.cell?_of_block (w:=w) (hq.block hg)).trans c2,(World.cell?_of_block (w:=w) (hq.block hg)).trans c3⟩
theorem LstI.shape2 {w:World} {v:Value} {l:List E} (h:LstI w v l):∃ a c,v = .slice a l.length c /\ l.length <= c /\ c <= maxLen:=by
 rcases h with ⟨rfl,a,c,rfl,hc,_⟩ | ⟨g,off,cap,hv,_,h1,h2,_⟩
 ·exact ⟨a,c,rfl,Nat.zero_le _,hc⟩
 ·exact ⟨_,_,hv,h1,h2⟩
theorem LstI.form0 {w:World} {v:Value} {l:List E} {n:Nat} (h:LstI w v l) (hn:l.length = n):∃ a c,v = .slice a n c /\ n <= c /\ c <= maxLen:=by
 subst hn;exact h.shape2
theorem LstI.cellOf {w:World} {v:Value} {l:List E} {n k:Nat} (h:LstI w v l) (hn:l.length = n) (hk:k < n) :
  ∃ g off cap,v = .slice (some ⟨g,off,none⟩) n cap /\ g < w.heap.size /\ n <= cap /\ cap <= maxLen /\ w.cell? ⟨g,off + k * 3,none⟩ = some (.int .i64 (l.getD k e0).1) /\ w.cell? ⟨g,off + k * 3 + 1,none⟩ = some (.string (l.getD k e0).2.1) /\ w.cell? ⟨g,off + k * 3 + 2,none⟩ = some (.int .i64 (l.getD k e0).2.2):=by
 rcases h with ⟨rfl,_⟩ | ⟨g,off,cap,hv,hg,h1,h2,hc⟩
 ·simp at hn;omega
 ·rw [hn] at hv h1 hc
  exact ⟨g,off,cap,hv,hg,h1,h2,(hc k hk).1,(hc k hk).2.1,(hc k hk).2.2⟩
def OwnI (T:TypeId) (w:World) (B:Nat) (v:Value) (l:List E):Prop:=w.ownsRow B T 3 v l.length (flat l)
theorem OwnI.nil (T:TypeId) (w:World) (B:Nat):OwnI T w B (.slice none 0 0) []:=World.ownsRow_nil w B T 3
theorem OwnI.mono {T:TypeId} {w:World} {B B':Nat} {v:Value} {l:List E} (h:OwnI T w B v l) (hB:B' <= B):OwnI T w B' v l:=by
 obtain ⟨h1,h2⟩:=h;refine ⟨h1,?_⟩;rcases h2 with h2 | ⟨g,cap,cur,hv,hg,r⟩
 ·exact .inl h2
 ·exact .inr ⟨g,cap,cur,hv,by omega,r⟩
theorem OwnI.same {T:TypeId} {w w':World} {B:Nat} {v:Value} {l:List E} (h:OwnI T w B v l) (hs:∀ g,v.ownBlock = some g -> w'.heap[g]? = w.heap[g]?):OwnI T w' B v l:=by
 obtain ⟨h1,h2⟩:=h;refine ⟨h1,?_⟩;rcases h2 with h2 | ⟨g,cap,cur,hv,hg,hh,r⟩
 ·exact .inl h2
 ·exact .inr ⟨g,cap,cur,hv,hg,by rw [hs g (by rw [hv];rfl)];exact hh,r⟩
theorem OwnI.lt {T:TypeId} {w:World} {B:Nat} {v:Value} {l:List E} (h:OwnI T w B v l):∀ g,v.ownBlock = some g -> B <= g /\ g < w.heap.size:=World.ownsRow.lt h
theorem OwnI.q {T:TypeId} {w w':World} {B:Nat} {v:Value} {l:List E} (h:OwnI T w B v l) (hq:Q w w'):OwnI T w' B v l:=h.same fun g hg=>hq.block (h.lt g hg).2
theorem OwnI.lst {T:TypeId} {w:World} {B:Nat} {v:Value} {l:List E} (h:OwnI T w B v l):LstI w v l:=by
 rcases h.2 with ⟨hv,hn⟩ | ⟨g,cap,cur,hv,_,hh,hnc,hcm,hcs,ht⟩
 ·have:l = []:=List.eq_nil_of_length_eq_zero hn
  subst this;subst hv;exact .nil _ _ _ (by unfold maxLen;omega) (fun _=>rfl)
 ·refine .inr ⟨g,0,cap,hv,(Array.getElem?_eq_some_iff.1 hh).1,hnc,hcm,fun i hi=>⟨?_,?_,?_⟩⟩
  ·rw [cell_of_row w g (0 + i * 3) cur T (0,0) hh]
   have h1:=congrArg (fun x=>x[i * 3]?) ht;rw [List.getElem?_take,if_pos (by omega),(flat_get l i hi).1] at h1;rw [Nat.zero_add,<- Array.getElem?_toList,h1]
  ·rw [cell_of_row w g (0 + i * 3 + 1) cur T (0,0) hh]
   have h1:=congrArg (fun x=>x[i * 3 + 1]?) ht;rw [List.getElem?_take,if_pos (by omega),(flat_get l i hi).2.1] at h1;rw [Nat.zero_add,<- Array.getElem?_toList,h1]
  ·rw [cell_of_row w g (0 + i * 3 + 2) cur T (0,0) hh]
   have h1:=congrArg (fun x=>x[i * 3 + 2]?) ht;rw [List.getElem?_take,if_pos (by omega),(flat_get l i hi).2.2] at h1;rw [Nat.zero_add,<- Array.getElem?_toList,h1]
theorem OwnI.shape {T:TypeId} {w:World} {B:Nat} {v:Value} {l:List E} (h:OwnI T w B v l):∃ a c,v = .slice a l.length c:=by
 obtain ⟨a,c,hv,_⟩:=h.lst.shape2;exact ⟨a,c,hv⟩
structure El (T ST:TypeId):Prop where
 info:(Tryz.prog.info? T).map (fun i=>(i.zero,i.size,i.bytes)) = some (some (.agg #[.int .i64 0,.string ByteArray.empty,.int .i64 0]),3,32)
 under:Tryz.prog.underlying ST = some (.slice T)
theorem push {T ST:TypeId} (he:El T ST) {w:World} {B:Nat} {v:Value} {l:List E} (hown:OwnI T w B v l) {ops:Array Oper} {rest:List Oper} {o:Oper} {a:Act} {R:Exit -> Act -> World -> Prop} (hgd:o.guard = none) (s x:Operand)
  (ho:o.op = .call { callee:=.builtin .append,args:=#[s,x],argTypes:=#[ST,ST] })
  (p:Int) (t:ByteArray) (q:Int) (hs:a.eval s = v) (hx:a.eval x = .slice (some ⟨w.heap.size,0,none⟩) 1 1) (hlen:l.length < 1073741824) (hB:B <= w.heap.size)
  (h:∀ v' w',OwnI T w' B v' (l ++ [(p,t,q)]) -> w.grownBy w' v.ownBlock -> (v'.ownBlock = v.ownBlock \/ v'.ownBlock = some (w.heap.size + 1)) -> wpList Tryz.prog ops R rest (a.put o.dst v') w') :
  wpList Tryz.prog ops R (o :: rest) a (w.alloc (.cells #[.int .i64 p,.string t,.int .i64 q] T)):=by
 obtain ⟨i0,hi,hz0,hz1,hz2⟩:=info_parts he.info;refine wpList_append_own_at _ hgd s x ST ho B T i0 (.agg #[.int .i64 0,.string ByteArray.empty,.int .i64 0]) 3 32 he.under hi hz0 hz1 hz2 rfl (by decide) v l.length _ hs (World.ownsRow.alloc hown _)
  ⟨w.heap.size,0,none⟩ 1 1 [.int .i64 p,.string t,.int .i64 q] hx rfl ?_ ?_ ?_ ?_ ?_ ?_
 ·intro j u hj
  match j,hj with
  | 0,hj=>simp at hj;subst hj;show World.cell? _ ⟨w.heap.size,0 + 0,none⟩ = _;rw [World.cell?_alloc_at _ _ _ _ rfl];rfl
  | 1,hj=>simp at hj;subst hj;show World.cell? _ ⟨w.heap.size,0 + 1,none⟩ = _;rw [World.cell?_alloc_at _ _ _ _ rfl];rfl
  | 2,hj=>simp at hj;subst hj;show World.cell? _ ⟨w.heap.size,0 + 2,none⟩ = _;rw [World.cell?_alloc_at _ _ _ _ rfl];rfl
 ·intro u hu;simp at hu;rcases hu with rfl | rfl | rfl <;> rfl
 ·unfold maxLen;omega
 ·omega
 ·simp;omega
 ·intro v' w' hown' hg _ hat
  refine h v' w' ?_ ?_ ?_
  ·unfold OwnI
   rw [List.length_append,flat_app];exact hown'
  ·exact (World.grownBy_alloc w _ _).trans hg
  ·simpa using hat
theorem pushl {T ST:TypeId} (he:El T ST) {w:World} {B:Nat} {v u:Value} {l k:List E} (hown:OwnI T w B v l) (hu:LstI w u k) {ops:Array Oper} {rest:List Oper} {o:Oper} {a:Act} {R:Exit -> Act -> World -> Prop} (hgd:o.guard = none) (s x:Operand)
  (ho:o.op = .call { callee:=.builtin .append,args:=#[s,x],argTypes:=#[ST,ST] })
  (hs:a.eval s = v) (hx:a.eval x = u) (hlen:l.length + k.length < 1073741824) (hB:B <= w.heap.size)
  (h:∀ v' w',OwnI T w' B v' (l ++ k) -> w.grownBy w' v.ownBlock -> (v'.ownBlock = v.ownBlock \/ v'.ownBlock = some w.heap.size) -> wpList Tryz.prog ops R rest (a.put o.dst v') w') :
  wpList Tryz.prog ops R (o :: rest) a w:=by
 obtain ⟨i0,hi,hz0,hz1,hz2⟩:=info_parts he.info;have key:∀ (ad:Addr) (m c:Nat),u = .slice (some ad) m c -> k.length = m -> (∀ j x,(flat k)[j]? = some x -> w.cell? (ad.add j) = some x) -> wpList Tryz.prog ops R (o :: rest) a w:=by
  intro ad m c hu hm hc;subst hu;subst hm;refine wpList_append_own_at _ hgd s x ST ho B T i0 (.agg #[.int .i64 0,.string ByteArray.empty,.int .i64 0]) 3 32 he.under hi hz0 hz1 hz2 rfl (by decide) v l.length _ hs hown
   ad k.length c (flat k) hx (by rw [flat_len]) hc (flat_one k) ?_ ?_ hB ?_
  ·unfold maxLen;omega
  ·omega
  ·intro v' w' hown' hg _ hat
   refine h v' w' ?_ hg hat;unfold OwnI;rw [List.length_append,flat_app];exact hown'
 rcases hu with ⟨rfl,ad,c,rfl,hc,hn⟩ | ⟨g,off,cap,hv,hg,h1,h2,hc⟩
 ·cases ad with
  | none =>
   obtain rfl:=hn rfl;refine wpList_append_own_none hgd s x ST ho B T i0 3 he.under hi v l.length _ hs hown hx ?_;exact h v w (by rw [List.append_nil];exact hown) ⟨rfl,rfl,rfl,Nat.le_refl _,fun _ _ _=>rfl⟩ (.inl rfl)
  | some ad=>exact key ad 0 c rfl rfl (by simp [flat])
 ·refine key ⟨g,off,none⟩ k.length cap hv rfl fun j x hj=>?_
  have hjl:j < k.length * 3:=by
   have:=(List.getElem?_eq_some_iff.1 hj).1;rwa [flat_len] at this
  have hadd:(⟨g,off,none⟩:Addr).add j = ⟨g,off + j,none⟩:=by unfold Addr.add;split <;> simp_all
  obtain ⟨i,hi⟩:∃ i,i = j / 3:=⟨_,rfl⟩;have hik:i < k.length:=by omega
  obtain ⟨f1,f2,f3⟩:=flat_get k i hik;obtain ⟨c1,c2,c3⟩:=hc i hik;rw [hadd];rcases (show j = i * 3 \/ j = i * 3 + 1 \/ j = i * 3 + 2 from by omega) with hj2 | hj2 | hj2
  ·rw [hj2] at hj |-
   rw [f1] at hj;rw [c1];exact hj
  ·rw [hj2] at hj |-
   rw [f2] at hj;rw [<- Nat.add_assoc,c2];exact hj
  ·rw [hj2] at hj |-
   rw [f3] at hj;rw [<- Nat.add_assoc,c3];exact hj
theorem pushR {T ST:TypeId} (he:El T ST) {w:World} {B:Nat} {v:Value} {l:List E} (hown:OwnI T w B v l) {ops:Array Oper} {o:Oper} {a:Act} {K:Act -> World -> Prop} {R:Exit -> Act -> World -> Prop} {E':Prop} (hgd:o.guard = none) (s x:Operand)
  (ho:o.op = .call { callee:=.builtin .append,args:=#[s,x],argTypes:=#[ST,ST] })
  {g0:Nat} (p:Int) (t:ByteArray) (q:Int) (hs:a.eval s = v) (hx:a.eval x = .slice (some ⟨g0,0,none⟩) 1 1) (c0:w.cell? ⟨g0,0,none⟩ = some (.int .i64 p)) (c1:w.cell? ⟨g0,1,none⟩ = some (.string t)) (c2:w.cell? ⟨g0,2,none⟩ = some (.int .i64 q)) (hlen:l.length < 1073741824) (hB:B <= w.heap.size)
  (h:∀ v' w',OwnI T w' B v' (l ++ [(p,t,q)]) -> w.grownBy w' v.ownBlock -> (v'.ownBlock = v.ownBlock \/ v'.ownBlock = some w.heap.size) -> K (a.put o.dst v') w') :
  if Region.wanted o (yielded ops a.tmps) = true then Oper.wp Tryz.prog o a w K R else E':=by
 obtain ⟨i0,hi,hz0,hz1,hz2⟩:=info_parts he.info;refine step_append_lies w hgd s x ST ho B T i0 (.agg #[.int .i64 0,.string ByteArray.empty,.int .i64 0]) 3 32 he.under hi hz0 hz1 hz2 rfl (by decide) v l.length _ hs hown
  ⟨g0,0,none⟩ 1 1 [.int .i64 p,.string t,.int .i64 q] hx rfl ?_ ?_ (by decide) ?_ ?_ hB w.heap.size rfl ?_
 ·intro j u hj
  match j,hj with
  | 0,hj=>simp at hj;subst hj;exact c0
  | 1,hj=>simp at hj;subst hj;exact c1
  | 2,hj=>simp at hj;subst hj;exact c2
 ·intro u hu;simp at hu;rcases hu with rfl | rfl | rfl <;> rfl
 ·unfold maxLen;omega
 ·omega
 ·intro g cap w' hown' hg hat _
  refine h _ w' ?_ hg ?_
  ·unfold OwnI
   rw [List.length_append,flat_app];exact hown'
  ·rcases hat with hat | hat
   ·exact .inl hat.symm
   ·exact .inr (by rw [hat];rfl)
theorem Gap_grow {A W W':World} {lo hi:Nat} {row:Option Nat} (h:Gap lo hi A W) (hg:W.grownBy W' row) (hr:∀ k,row = some k -> (lo <= k /\ k < hi) \/ A.heap.size <= k):Gap lo hi A W':=by
 obtain ⟨g1,g2,g3,g4,g5⟩:=hg;refine ⟨g1.trans h.os,g2.trans h.tape,g3.trans h.output,Nat.le_trans h.size g4,fun k hk ho=>?_⟩;rw [g5 k (Nat.lt_of_lt_of_le hk h.size) (by
  intro e;rcases hr k e.symm with h1 | h1 <;> omega)]
 exact h.block k hk ho
theorem gap_q2 {a b c:World} {lo hi:Nat} (h:Q a b) (hl:a.heap.size <= lo) (g:Gap lo hi b c):Q a c:=Below.trans h ⟨g.os,g.tape,g.output,g.size,fun k hk=>g.block k (Nat.lt_of_lt_of_le hk h.le) (.inl (Nat.lt_of_lt_of_le hk hl))⟩
theorem bk_gap {w w':World} {b lo hi:Nat} {T:TypeId} {l:List Value} (h:Bk w b T l) (g:Gap lo hi w w') (ho:b < lo \/ hi <= b):Bk w' b T l:=(g.block b h.lt ho).trans h
theorem OwnI.made1 {T:TypeId} (w:World) (p:Int) (t:ByteArray) (q:Int):OwnI T (w.alloc (.cells #[.int .i64 p,.string t,.int .i64 q] T)) w.heap.size (.slice (some ⟨w.heap.size,0,none⟩) 1 1) [(p,t,q)]:=by
 refine ⟨by simp [flat],.inr ⟨w.heap.size,1,#[.int .i64 p,.string t,.int .i64 q],rfl,Nat.le_refl _,?_,Nat.le_refl _,by unfold maxLen;omega,rfl,rfl⟩⟩;exact Bk.new w T [.int .i64 p,.string t,.int .i64 q]
end Im
end
section
open Go.RowKit
namespace Dw
theorem trim_any (v:Value) (xs:List Int) (w:World) (hv:Lst w v xs) (hl:xs.length < 1099511627776) :
  Calls Tryz.prog 68 #[v] w fun e w'=>∃ u,e = .returned u /\ Own w' w.heap.size u (Dm.trimL xs) /\ Q w w':=by
 have hz:=fun w h=>zeros_any v xs w h hl;have hzl:=Dm.zer_le xs;have htd:=Dm.trim_drop xs;have htl:=Dm.trim_len xs;generalize Dm.zer xs = z at *;obtain ⟨n,hn⟩:∃ n,n = xs.length:=⟨_,rfl⟩;rw [<- hn] at hl hzl htl;have HZ:=Hd hz;have HV:=Hd hv;have hol:=Own.nil w w.heap.size;by_cases hlt:z < n
 ·obtain ⟨g,off,cap,rfl,hg,hnc,hcm,_⟩:=hv.cellOf (n:=n) (k:=z) hn.symm hlt
  have hd:=hv.drop hn.symm hlt;rw [<- htd] at hd;have hzn:(z:Int) <= (n:Int):=by omega
  have hzc:(z:Int) <= (cap:Int):=by omega
  have hne:¬ (cap = z):=by omega
  have hne2:¬ (cap - z = 0):=by omega
  have hwl:([]:List Int).length + (Dm.trimL xs).length < 1099511627776:=by rw [htl];show 0 + (n - z) < _;omega
  have HD:=Hd hd;have HW:=Hd hwl;unfold maxLen at hcm;clear hv hz hd htd htl hn hwl;go_enter Tryz.func68,Tryz.ntmps68
  go_wp2_with fail
  refine (HZ.out _ HV.out).mono ?_;rintro e w1 ⟨rfl,rfl⟩;go_wp2_with (at_builtin;refine push_list hol HD.out rfl _ _ rfl (by rfl) (by rfl) HW.out (Nat.le_refl _) ?_)
  intro u w2 hu hg2 hat2;go_wp2_with fail
  go_ret
  exact ⟨_,rfl,hu,(Q.refl w).grown hg2 (fun k hk=>by cases hk)⟩
 ·have hze:z = n:=by omega
  subst hze;obtain ⟨ad,cap,rfl,hnc,hcm⟩:=hv.form0 hn.symm;have hzc:(z:Int) <= (cap:Int):=by omega
  have HE:Hid (Dm.trimL xs = []):=Hd (by rw [htd];exact List.drop_eq_nil_of_le (by omega));rw [HE.out];unfold maxLen at hcm;have hnil:∀ (a:Option Addr) (c:Nat),c <= 9223372036854775807 -> (a = none -> c = 0) -> Lst w (.slice a 0 c) []:=fun a c h1 h2=>.nil w a c h1 h2;have hnn:ad = none -> cap = 0:=by
   intro h;rcases hv with ⟨rfl,_,_,hv2,_,hn2⟩ | ⟨_,_,_,hv2,_⟩
   ·cases hv2;exact hn2 h
   ·cases hv2;cases h
  have HN:=Hd hnn;clear hv hz htd htl hn hnn;by_cases hcz:cap = z
  ·subst hcz
   cases ad;all_goals
    go_enter Tryz.func68,Tryz.ntmps68
    go_wp2_with fail
    refine (HZ.out _ HV.out).mono ?_;rintro e w1 ⟨rfl,rfl⟩;go_wp2_with (at_builtin;refine push_list hol (hnil _ 0 (by omega) (fun _=>rfl)) rfl _ _ rfl (by rfl) (by rfl) (by show 0 + 0 < 1099511627776;omega) (Nat.le_refl _) ?_)
    intro u w2 hu hg2 hat2;go_wp2_with fail
    go_ret
    exact ⟨_,rfl,hu,(Q.refl w).grown hg2 (fun k hk=>by cases hk)⟩
  ·have hne2:¬ (cap - z = 0):=by omega
   cases ad with
   | none=>exact absurd (HN.out rfl) (by omega)
   | some ad =>
    have hX:=hnil (some (ad.add z)) (cap - z) (by omega) (fun h=>by cases h);go_enter Tryz.func68,Tryz.ntmps68
    go_wp2_with fail
    refine (HZ.out _ HV.out).mono ?_;rintro e w1 ⟨rfl,rfl⟩;go_wp2_with (at_builtin;refine push_list hol hX rfl _ _ rfl (by rfl) (by rfl) (by show 0 + 0 < 1099511627776;omega) (Nat.le_refl _) ?_)
    intro u w2 hu hg2 hat2;go_wp2_with fail
    go_ret
    exact ⟨_,rfl,hu,(Q.refl w).grown hg2 (fun k hk=>by cases hk)⟩
end Dw
end
section
open Go.RowKit
namespace Dw
def New (B:Nat) (u:Value):Prop:=∀ (ad:Addr) (n c:Nat),u = .slice (some ad) n c -> n ≠ 0 -> B <= ad.block
theorem New.nil (B:Nat) (a:Option Addr) (c:Nat):New B (.slice a 0 c):=fun ad m d e hm=>by cases e;exact absurd rfl hm
theorem New.mono {B C:Nat} {u:Value} (h:New B u) (hC:C <= B):New C u:=fun ad n c e hn=>Nat.le_trans hC (h ad n c e hn)
theorem New.own {w:World} {B:Nat} {v:Value} {zs:List Int} (h:Own w B v zs):New B v:=by
 intro ad n c e hn;rcases h.2 with ⟨hv,_⟩ | ⟨g,cap,cur,hv,hg,_⟩
 ·rw [hv] at e;cases e
 ·rw [hv] at e;cases e;exact hg
theorem New.ne {B b:Nat} {u:Value} (h:New B u) (hb:b < B):∀ (a:Addr) (n c:Nat),u = .slice (some a) n c -> n ≠ 0 -> a.block ≠ b:=fun a n c e hn=>by
 have:=h a n c e hn;omega
end Dw
end
section
open Go.RowKit Um
namespace Ur
def few (s:ByteArray) (n:Nat):ByteArray:=if n < s.size then s.extract 0 n else s
theorem few_size (s:ByteArray) (n:Nat):(few s n).size <= n:=by
 unfold few;split
 ·simp;omega
 ·omega
theorem few_any (s:ByteArray) (n:Nat) (w:World) (hs:s.size <= maxLen) (hn:n <= 1000000) :
  Calls Tryz.prog 20 #[.string s,.int .i64 n] w fun e w'=>e = .returned (.string (few s n)) /\ w = w':=by
 unfold maxLen at hs;by_cases h:n < s.size
 ·have HA:Hid (few s n = s.extract 0 n):=Hd (by unfold few;rw [if_pos h])
  go_enter Tryz.func20,Tryz.ntmps20
  go_wp2
  go_ret
  rw [HA.out];exact ⟨rfl,rfl⟩
 ·have HA:Hid (few s n = s):=Hd (by unfold few;rw [if_neg h])
  go_enter Tryz.func20,Tryz.ntmps20
  go_wp2
  go_ret
  rw [HA.out];exact ⟨rfl,rfl⟩
theorem convN (w:World) (xs:List Int) (n:Nat) (hn:xs.length = n) :
  (convert 57 9 (.slice (some ⟨w.heap.size,0,none⟩) n n)).run Tryz.prog (w.alloc (.cells (xs.map (Value.int .u8)).toArray 5)) = .ok (.string (strOfNums xs)) (w.alloc (.cells (xs.map (Value.int .u8)).toArray 5)):=by
 refine run_convert_bytes_arg _ 57 5 Tryz.underlying57 Tryz.underlying5 w.heap.size 0 n n xs hn ?_ 9 Tryz.underlying9;intro i hi;rw [World.cell?_alloc_at _ _ _ _ rfl,Nat.zero_add];simp only [List.getElem?_toArray,List.getElem?_map,List.getD_eq_getElem?_getD];rw [List.getElem?_eq_getElem (by omega)];rfl
theorem strOfNums_enc {xs:List Int} {c:Int} (hv:vld c = true) (h:xs.map (fun n=>UInt8.ofNat n.toNat) = enc c):strOfNums xs = encB c:=by
 apply ba_ext;rw [strOfNums_data,encB_list c hv,h]
theorem ofNat_congr {a b:Nat} (h:a = b):UInt8.ofNat a = UInt8.ofNat b:=by rw [h]
theorem encode_any (c:Int) (w:World) :
  Calls Tryz.prog 73 #[.int .i64 c] w fun e w'=>e = .returned (.string (encB c)) /\ Q w w':=by
 by_cases hv:vld c = true
 ·have hb:=(vld_iff c).1 hv
  have hm:=fun w=>may_any c w;rw [hv] at hm;have HM:=Hd hm;have HV:=Hd hv;clear hm hv;have hc1:=fun (x:Int)=>convN w [x] 1 rfl;have hc2:=fun (x y:Int)=>convN w [x,y] 2 rfl;have hc3:=fun (x y z:Int)=>convN w [x,y,z] 3 rfl;have hc4:=fun (x y z u:Int)=>convN w [x,y,z,u] 4 rfl;simp only [List.map_cons,List.map_nil] at hc1 hc2 hc3 hc4;by_cases h1:c < 128
  ·have HE:=Hd (enc1 c hb.1 h1)
   go_enter Tryz.func73,Tryz.ntmps73
   go_wp2_with (go_at_call 134;refine (HM.out _).mono ?_;rintro e w' ⟨rfl,rfl⟩)
   go_ret
   refine ⟨ret_str (strOfNums_enc HV.out ?_),(Q.refl _).alloc _⟩;rw [HE.out];rfl
  ·by_cases h2:c < 2048
   ·have HE:=Hd (enc2 c (by omega) h2)
    go_enter Tryz.func73,Tryz.ntmps73
    go_wp2_with (go_at_call 134;refine (HM.out _).mono ?_;rintro e w' ⟨rfl,rfl⟩)
    go_ret
    refine ⟨ret_str (strOfNums_enc HV.out ?_),(Q.refl _).alloc _⟩;rw [HE.out];simp only [List.map_cons,List.map_nil,List.cons.injEq,and_true];exact ⟨ofNat_congr (by omega),ofNat_congr (by omega)⟩
   ·by_cases h3:c < 65536
    ·have HE:=Hd (enc3 c (by omega) h3 HV.out)
     go_enter Tryz.func73,Tryz.ntmps73
     go_wp2_with (go_at_call 134;refine (HM.out _).mono ?_;rintro e w' ⟨rfl,rfl⟩)
     go_ret
     refine ⟨ret_str (strOfNums_enc HV.out ?_),(Q.refl _).alloc _⟩;rw [HE.out];simp only [List.map_cons,List.map_nil,List.cons.injEq,and_true];exact ⟨ofNat_congr (by omega),ofNat_congr (by omega),ofNat_congr (by omega)⟩
    ·have HE:=Hd (enc4 c (by omega) HV.out)
     go_enter Tryz.func73,Tryz.ntmps73
     go_wp2_with (go_at_call 134;refine (HM.out _).mono ?_;rintro e w' ⟨rfl,rfl⟩)
     go_ret
     refine ⟨ret_str (strOfNums_enc HV.out ?_),(Q.refl _).alloc _⟩;rw [HE.out];simp only [List.map_cons,List.map_nil,List.cons.injEq,and_true];exact ⟨ofNat_congr (by omega),ofNat_congr (by omega),ofNat_congr (by omega),ofNat_congr (by omega)⟩
 ·have hv:vld c = false:=by simpa using hv
  have HE:Hid (encB c = ⟨#[]⟩):=by unfold encB;exact if_neg (by simp [hv])
  have hm:=fun w=>may_any c w;rw [hv] at hm;have HM:=Hd hm;clear hm hv;go_enter Tryz.func73,Tryz.ntmps73
  go_wp2_with (go_at_call 134;refine (HM.out _).mono ?_;rintro e w' ⟨rfl,rfl⟩)
  go_ret
  rw [HE.out];exact ⟨rfl,Q.refl _⟩
theorem u8b (a:UInt8):0 <= (a.toNat:Int) /\ (a.toNat:Int) <= 255:=by have:=a.toNat_lt;omega
theorem value1 (a:UInt8) (w:World) :
  Calls Tryz.prog 198 #[.string ⟨#[a]⟩] w fun e w'=>e = .returned (.int .i64 ((a.toNat:Int))) /\ w = w':=by
 have h0:0 <= (((⟨#[a]⟩:ByteArray)[0]'(by show 0 < 1;omega)).toNat:Int) /\ (((⟨#[a]⟩:ByteArray)[0]'(by show 0 < 1;omega)).toNat:Int) <= 255:=u8b a;go_enter Tryz.func198,Tryz.ntmps198
 go_wp2
 refine wp_loop_rounds 1 ?_;rw [rounds_succ];go_wp2
 go_ret
 exact ⟨rfl,rfl⟩
theorem value2 (a b:UInt8) (w:World) :
  Calls Tryz.prog 198 #[.string ⟨#[a,b]⟩] w fun e w'=>e = .returned (.int .i64 (((a.toNat:Int) - 192) * 64 + (b.toNat:Int) - 128)) /\ w = w':=by
 have h0:0 <= (((⟨#[a,b]⟩:ByteArray)[0]'(by show 0 < 2;omega)).toNat:Int) /\ (((⟨#[a,b]⟩:ByteArray)[0]'(by show 0 < 2;omega)).toNat:Int) <= 255:=u8b a;have h1:0 <= (((⟨#[a,b]⟩:ByteArray)[1]'(by show 1 < 2;omega)).toNat:Int) /\ (((⟨#[a,b]⟩:ByteArray)[1]'(by show 1 < 2;omega)).toNat:Int) <= 255:=u8b b;go_enter Tryz.func198,Tryz.ntmps198
 go_wp2
 refine wp_loop_rounds 2 ?_;rw [rounds_succ];go_wp2
 rw [rounds_succ];go_wp2
 go_ret
 exact ⟨rfl,rfl⟩
theorem value3 (a b c:UInt8) (w:World) :
  Calls Tryz.prog 198 #[.string ⟨#[a,b,c]⟩] w fun e w'=>e = .returned (.int .i64 ((((a.toNat:Int) - 224) * 64 + (b.toNat:Int) - 128) * 64 + (c.toNat:Int) - 128)) /\ w = w':=by
 have h0:0 <= (((⟨#[a,b,c]⟩:ByteArray)[0]'(by show 0 < 3;omega)).toNat:Int) /\ (((⟨#[a,b,c]⟩:ByteArray)[0]'(by show 0 < 3;omega)).toNat:Int) <= 255:=u8b a;have h1:0 <= (((⟨#[a,b,c]⟩:ByteArray)[1]'(by show 1 < 3;omega)).toNat:Int) /\ (((⟨#[a,b,c]⟩:ByteArray)[1]'(by show 1 < 3;omega)).toNat:Int) <= 255:=u8b b;have h2:0 <= (((⟨#[a,b,c]⟩:ByteArray)[2]'(by show 2 < 3;omega)).toNat:Int) /\ (((⟨#[a,b,c]⟩:ByteArray)[2]'(by show 2 < 3;omega)).toNat:Int) <= 255:=u8b c;go_enter Tryz.func198,Tryz.ntmps198
 go_wp2
 refine wp_loop_rounds 3 ?_;rw [rounds_succ];go_wp2
 rw [rounds_succ];go_wp2
 rw [rounds_succ];go_wp2
 go_ret
 exact ⟨rfl,rfl⟩
theorem value4 (a b c d:UInt8) (w:World) :
  Calls Tryz.prog 198 #[.string ⟨#[a,b,c,d]⟩] w fun e w'=>e = .returned (.int .i64 (((((a.toNat:Int) - 240) * 64 + (b.toNat:Int) - 128) * 64 + (c.toNat:Int) - 128) * 64 + (d.toNat:Int) - 128)) /\ w = w':=by
 have h0:0 <= (((⟨#[a,b,c,d]⟩:ByteArray)[0]'(by show 0 < 4;omega)).toNat:Int) /\ (((⟨#[a,b,c,d]⟩:ByteArray)[0]'(by show 0 < 4;omega)).toNat:Int) <= 255:=u8b a;have h1:0 <= (((⟨#[a,b,c,d]⟩:ByteArray)[1]'(by show 1 < 4;omega)).toNat:Int) /\ (((⟨#[a,b,c,d]⟩:ByteArray)[1]'(by show 1 < 4;omega)).toNat:Int) <= 255:=u8b b;have h2:0 <= (((⟨#[a,b,c,d]⟩:ByteArray)[2]'(by show 2 < 4;omega)).toNat:Int) /\ (((⟨#[a,b,c,d]⟩:ByteArray)[2]'(by show 2 < 4;omega)).toNat:Int) <= 255:=u8b c;have h3:0 <= (((⟨#[a,b,c,d]⟩:ByteArray)[3]'(by show 3 < 4;omega)).toNat:Int) /\ (((⟨#[a,b,c,d]⟩:ByteArray)[3]'(by show 3 < 4;omega)).toNat:Int) <= 255:=u8b d;go_enter Tryz.func198,Tryz.ntmps198
 go_wp2
 refine wp_loop_rounds 4 ?_;rw [rounds_succ];go_wp2
 rw [rounds_succ];go_wp2
 rw [rounds_succ];go_wp2
 rw [rounds_succ];go_wp2
 go_ret
 exact ⟨rfl,rfl⟩
theorem value_any (s:ByteArray) (w:World) (h1:1 <= s.size) (h4:s.size <= 4) :
  Calls Tryz.prog 198 #[.string s] w fun e w'=>e = .returned (.int .i64 (val s.data.toList)) /\ w = w':=by
 obtain ⟨⟨l⟩⟩:=s;match l,h1,h4 with
 | [a],_,_=>exact value1 a w
 | [a,b],_,_=>exact value2 a b w
 | [a,b,c],_,_=>exact value3 a b c w
 | [a,b,c,d],_,_=>exact value4 a b c d w
 | [],h1,_=>exact absurd h1 (by show ¬ 1 <= 0;omega)
 | a :: b :: c :: d :: e :: r,_,h4=>exact absurd h4 (by show ¬ r.length + 5 <= 4;omega)
theorem extract_take (s:ByteArray) (k:Nat):(s.extract 0 k).data.toList = s.data.toList.take k:=by
 rw [ByteArray.data_extract,Array.toList_extract,List.extract_eq_take_drop];simp
theorem toList_eq (s:ByteArray):s.toList = s.data.toList:=ByteArray.toList_eq s
theorem first_any (s:ByteArray) (w:World) (hm:s.size <= maxLen) :
  Calls Tryz.prog 172 #[.string s] w fun e w'=>e = .returned (.tuple #[.int .i64 (fst3 s.data.toList).1,.int .i64 (fst3 s.data.toList).2.1,.bool (fst3 s.data.toList).2.2]) /\ Q w w':=by
 unfold maxLen at hm;have hsl:=size_list s;by_cases hs:s.size = 0
 ·have hl:s.data.toList = []:=by apply List.eq_nil_of_length_eq_zero;omega
  have HF:Hid (fst3 s.data.toList = (0,0,false)):=by rw [hl];rfl
  have h1:s.toList.isEmpty = true:=by rw [toList_eq,hl];rfl
  clear hl hs hsl;go_enter Tryz.func172,Tryz.ntmps172
  go_wp2_with fail
  go_ret3
  rw [HF.out];exact ⟨rfl,Q.refl _⟩
 ·have hl:s.data.toList ≠ []:=by intro h;apply hs;have:=congrArg List.length h;simpa using this
  have h1:s.toList.isEmpty = false:=by rw [toList_eq];simpa using hl
  have HL:=Hd hsl;clear hsl;go_enter Tryz.func172,Tryz.ntmps172
  go_wp2_with fail
  go_loopw [5] (fun n wr=>∃ k:Nat,n = .int .i64 k /\ 1 <= k /\ k <= 5 /\ k <= s.size + 1 /\ Q w wr /\ noFront s.data.toList k) (fun n _=>5 - (intOf n).toNat)
  case atStart=>exact ⟨1,rfl,by omega,by omega,by omega,Q.refl _,noFront_start _⟩
  case round =>
   obtain ⟨k,rfl,hk1,hk5,hks,hq,hno⟩:=hrel;by_cases h4:k <= 4
   ·by_cases h5:k <= s.size
    ·have hV:=Hd (fun w=>value_any (s.extract 0 k) w (by rw [ByteArray.size_extract];omega) (by rw [ByteArray.size_extract];omega))
     have hst:=Hd (noFront_step _ k hno);have hfo:=Hd (front_found s.data.toList k hk1 (by rw [HL.out];exact h5));go_wp2_with fail
     refine (hV.out _).mono ?_;rintro e w1 ⟨rfl,rfl⟩;rw [extract_take];go_wp2_with fail
     go_region_with (go_at_call 73;refine (encode_any _ _).mono ?_;rintro e w1 ⟨rfl,hq1⟩)
     all_goals go_wp2_with fail
     ·have hb:((encB (val (List.take k s.data.toList))).toList == (s.extract 0 k).toList) = true:=by assumption
      have hb:=beq_iff_eq.1 hb;rw [toList_eq,toList_eq,extract_take] at hb;have hf:=hfo.out hb;go_ret3
      rw [hf];exact ⟨rfl,hq.drew.trans hq1⟩
     ·have hb:((encB (val (List.take k s.data.toList))).toList == (s.extract 0 k).toList) = false:=by assumption
      have hb:=beq_eq_false_iff_ne.1 hb;rw [toList_eq,toList_eq,extract_take] at hb;exact ⟨⟨k + 1,by go_num,by omega,by omega,by omega,hq.drew.trans hq1,hst.out hb⟩,by simp [intOf];omega⟩
    ·have HF:Hid (fst3 s.data.toList = (65533,1,false)):=Hd (noFront_end _ k hl hno (.inr (by rw [HL.out];omega)))
     go_wp2_with fail
     go_ret3
     rw [HF.out];exact ⟨rfl,hq⟩
   ·have HF:Hid (fst3 s.data.toList = (65533,1,false)):=Hd (noFront_end _ k hl hno (.inl (by omega)))
    go_wp2_with fail
    go_ret3
    rw [HF.out];exact ⟨rfl,hq⟩
theorem extract_list (s:ByteArray) (pos:Nat):(s.extract pos s.size).data.toList = s.data.toList.drop pos:=by
 rw [ByteArray.data_extract,Array.toList_extract];have:s.size = s.data.toList.length:=(size_list s).symm;rw [List.extract_eq_take_drop,this,List.take_of_length_le (by simp)]
theorem all_any (s:ByteArray) (w:World) (hm:s.size <= 1073741824) :
  Calls Tryz.prog 131 #[.string s] w fun e w'=>∃ v u,e = .returned (.tuple #[v,u,.bool (okL s.data.toList)]) /\ Own w' w.heap.size v (allL s.data.toList) /\ Own w' w.heap.size u (startsL s.data.toList) /\ Apart v u /\ Q w w':=by
 have hml:=marks_length s.data.toList;rw [size_list] at hml;have HML:=Hd hml;clear hml;go_enter Tryz.func131,Tryz.ntmps131
 go_wp2_with fail
 go_loopw [5,6,7,8] (fun v u b at' wr=>∃ (pos:Nat) (acc sta:List Int) (ok:Bool),at' = .int .i64 pos /\ b = .bool ok /\ pos <= s.size /\ Own wr w.heap.size v acc /\ Own wr w.heap.size u sta /\ Apart v u /\ Q w wr /\
   acc ++ allL (s.data.toList.drop pos) = allL s.data.toList /\ sta ++ startsF pos (marks (s.data.toList.drop pos)) = startsL s.data.toList /\ (ok && (marks (s.data.toList.drop pos)).all (·.2.2)) = okL s.data.toList)
  (fun _ _ _ at' _=>s.size - (intOf at').toNat)
 case atStart=>exact ⟨0,[],[],true,rfl,rfl,by omega,Own.nil _ _,Own.nil _ _,Apart.nilL _,Q.refl _,by simp,by simp [startsL],by simp [okL]⟩
 case round =>
  obtain ⟨pos,acc,sta,ok,rfl,rfl,hps,hv,hu,hap,hq,ha,hs,ho⟩:=hrel;have hal:acc.length <= s.size:=by
   have h1:=congrArg List.length ha;simp only [allL,List.length_append,List.length_map] at h1;have:=HML.out;omega
  have hsl:sta.length <= s.size:=by
   have h1:=congrArg List.length hs;simp only [startsL,List.length_append,startsF_length] at h1;have:=HML.out;omega
  have hsq:=hq.le;have HA:=Hd ha;have HS:=Hd hs;have HO:=Hd ho;clear ha hs ho;by_cases hp:pos < s.size
  ·have hwd:=mark_at_n s pos hp
   have hF:∀ w,Calls Tryz.prog 172 #[.string (s.extract pos s.size)] w _:=fun w=>first_any (s.extract pos s.size) w (by rw [ByteArray.size_extract];unfold maxLen;omega);rw [extract_list] at hF;have hf3:fst3 (s.data.toList.drop pos) = ((mrk (s.data.toList.drop pos)).1,((mrk (s.data.toList.drop pos)).2.1:Int),(mrk (s.data.toList.drop pos)).2.2):=by unfold fst3;rw [if_neg (drop_ne hp)]
   rw [hf3] at hF;simp only at hF;have hm1:=marks_at s pos hp;have HM:=Hd hm1;have HF:=Hd hF;clear hF hf3 hm1;go_wp2_with fail
   refine (HF.out _).mono ?_;rintro e w1 ⟨rfl,hq1⟩;have hv1:=hv.q hq1;have hu1:=hu.q hq1;have hqw1:=hq.trans hq1;have hsq1:=hqw1.le;go_wp2_with (at_builtin;refine push_int hv1 rfl _ _ rfl _ (by rfl) (by rfl) (by omega) hsq1 ?_)
   intro v2 w2 hv2 hg2 hat2;have hu2:=hu1.other hg2 hap;have hap2:=hap.push hu1 hat2;have hqw2:=hqw1.grown hg2 (fun g h=>(hv1.lt g h).1);have hsq2:=hqw2.le;go_wp2_with (at_builtin;refine push_int hu2 rfl _ _ rfl _ (by rfl) (by rfl) (by omega) hsq2 ?_)
   intro u3 w3 hu3 hg3 hat3;have hv3:=hv2.other hg3 hap2.symm;have hap3:=(hap2.symm.push hv2 hat3).symm;have hqw3:=hqw2.grown hg3 (fun g h=>(hu2.lt g h).1);have hfin:(∃ (pos':Nat) (acc' sta':List Int) (ok':Bool),Value.int .i64 ((pos:Int) + ((mrk (s.data.toList.drop pos)).2.1:Int)) = .int .i64 pos' /\ Value.bool (ok && (mrk (s.data.toList.drop pos)).2.2) = .bool ok' /\ pos' <= s.size /\ Own w3 w.heap.size v2 acc' /\ Own w3 w.heap.size u3 sta' /\ Apart v2 u3 /\ Q w w3 /\
     acc' ++ allL (s.data.toList.drop pos') = allL s.data.toList /\ sta' ++ startsF pos' (marks (s.data.toList.drop pos')) = startsL s.data.toList /\ (ok' && (marks (s.data.toList.drop pos')).all (·.2.2)) = okL s.data.toList):=by
    refine ⟨pos + (mrk (s.data.toList.drop pos)).2.1,_,_,_,by rw [Int.natCast_add],rfl,hwd.2,hv3,hu3,hap3,hqw3,?_,?_,?_⟩
    ·rw [<- HA.out];unfold allL;conv=>rhs;rw [HM.out]
     simp
    ·rw [<- HS.out,HM.out];simp [startsF]
    ·rw [<- HO.out,HM.out,List.all_cons,Bool.and_assoc]
   have HFin:=Hd hfin;clear hfin;cases ok;all_goals
    go_wp2_with fail
    exact ⟨HFin.out,by simp [intOf];omega⟩
  ·have hpe:pos = s.size:=by omega
   subst hpe;go_wp2_with (at_builtin;refine push_int hu rfl _ _ rfl _ (by rfl) (by rfl) (by omega) hsq ?_)
   intro u3 w3 hu3 hg3 hat3;have hv3:=hv.other hg3 hap.symm;have hap3:=(hap.symm.push hv hat3).symm;have hqw3:=hq.grown hg3 (fun g h=>(hu.lt g h).1);go_wp2_with fail
   go_ret3
   have h1:=HA.out;have h2:=HS.out;have h3:=HO.out;unfold allL at h1;rw [marks_end s s.size (by omega)] at h1 h2 h3;rw [List.map_nil,List.append_nil] at h1;refine ⟨_,_,?_,?_,?_,hap3,hqw3⟩
   ·rw [<- h3,List.all_nil,Bool.and_true];rfl
   ·unfold allL;rw [<- h1];exact hv3
   ·rw [<- h2];exact hu3
theorem same_any (va vb:Value) (xs ys:List Int) (w:World) (ha:Lst w va xs) (hb:Lst w vb ys) (hx:xs.length < 1099511627776) (hy:ys.length < 1099511627776) :
  Calls Tryz.prog 34 #[va,vb] w fun e w'=>e = .returned (.bool (decide (xs = ys))) /\ Q w w':=by
 by_cases hl:xs.length = ys.length
 ·by_cases h0:xs.length = 0
  ·have hx0:xs = []:=List.eq_nil_of_length_eq_zero h0
   have hy0:ys = []:=List.eq_nil_of_length_eq_zero (by omega);subst hx0;subst hy0;obtain ⟨a,c,rfl⟩:=ha.shape;obtain ⟨b,d,rfl⟩:=hb.shape;clear ha hb hl h0 hx hy;go_enter Tryz.func34,Tryz.ntmps34
   go_wp2
   refine wp_loop_rounds 1 ?_;rw [rounds_succ];go_wp2
   go_ret
   exact ⟨rfl,Q.refl _⟩
  ·rcases ha with ⟨rfl,_⟩ | ⟨g,off,cap,rfl,hg,_,_,hca⟩
   ·exact absurd rfl h0
   rcases hb with ⟨rfl,_⟩ | ⟨g2,off2,cap2,rfl,hg2,_,_,hcb⟩
   ·exact absurd hl h0
   have HL:=Hd hl;have hle:((xs.length:Int) == (ys.length:Int)) = true:=by rw [hl];simp
   have hne:((xs.length:Int) != (ys.length:Int)) = false:=by rw [hl];simp
   clear hl h0;go_enter Tryz.func34,Tryz.ntmps34
   go_wp2
   go_loopw [5] (fun i wr=>∃ k:Nat,i = .int .i64 k /\ k <= xs.length /\ Q w wr /\ xs.take k = ys.take k) (fun i _=>xs.length - (intOf i).toNat)
   case atStart=>exact ⟨0,rfl,by omega,Q.refl _,by simp⟩
   case round =>
    obtain ⟨k,rfl,hk,hq,he⟩:=hrel;have HE:=Hd he;clear he;by_cases hlt:k < xs.length
    ·have c1:wr.cell? ⟨g,off + k,none⟩ = some (.int .i64 (xs.getD k 0)):=(World.cell?_of_block (w:=w) (hq.block hg)).trans (hca k hlt)
     have c2:wr.cell? ⟨g2,off2 + k,none⟩ = some (.int .i64 (ys.getD k 0)):=(World.cell?_of_block (w:=w) (hq.block hg2)).trans (hcb k (by rw [<- HL.out];exact hlt));have hky:(k:Int) < (ys.length:Int):=by rw [<- HL.out];omega
     have hkx:(k:Int) < (xs.length:Int):=by omega
     generalize hgx:xs.getD k 0 = p at c1;generalize hgy:ys.getD k 0 = q at c2;have HX:=Hd hgx;have HY:=Hd hgy;clear hgx hgy;have hsx:xs.take (k + 1) = xs.take k ++ [p]:=by
      rw [List.take_succ_eq_append_getElem hlt,<- HX.out,List.getD_eq_getElem?_getD,List.getElem?_eq_getElem hlt];rfl
     have hly:k < ys.length:=by rw [<- HL.out];exact hlt
     have hsy:ys.take (k + 1) = ys.take k ++ [q]:=by
      rw [List.take_succ_eq_append_getElem hly,<- HY.out,List.getD_eq_getElem?_getD,List.getElem?_eq_getElem hly];rfl
     have HSX:=Hd hsx;have HSY:=Hd hsy;clear hsx hsy;by_cases hpq:p = q
     ·have ht:(p != q) = false:=by rw [hpq];simp
      have HP:=Hd hpq;clear hpq;go_wp2_with fail
      go_quiet (fail)
      go_wp2_with fail
      exact ⟨⟨k + 1,by go_num,by omega,hq.drewN _,by rw [HSX.out,HSY.out,HE.out,HP.out]⟩,by simp [intOf];omega⟩
     ·have ht:(p != q) = true:=by rw [bne_iff_ne];exact hpq
      have HF:Hid (decide (xs = ys) = false):=Hd (decide_eq_false (fun h=>hpq (by
       have h1:=HX.out;have h2:=HY.out;rw [<- h1,<- h2,h])))
      clear hpq;go_wp2_with fail
      go_quiet (fail)
      go_wp2_with fail
      go_ret
      rw [HF.out];exact ⟨rfl,hq.drewN _⟩
    ·have HF:Hid (decide (xs = ys) = true):=Hd (decide_eq_true (by
      have h1:=HE.out;have h2:=HL.out;rw [List.take_of_length_le (by omega),List.take_of_length_le (by omega)] at h1;exact h1))
     go_wp2_with fail
     go_ret
     rw [HF.out];exact ⟨rfl,hq⟩
 ·have hne:((xs.length:Int) == (ys.length:Int)) = false:=by rw [beq_eq_false_iff_ne];omega
  have hne2:((xs.length:Int) != (ys.length:Int)) = true:=by rw [bne_iff_ne];omega
  have HF:Hid (decide (xs = ys) = false):=Hd (decide_eq_false (fun h=>hl (by rw [h])));obtain ⟨a,c,rfl⟩:=ha.shape;obtain ⟨b,d,rfl⟩:=hb.shape;clear ha hb hl;go_enter Tryz.func34,Tryz.ntmps34
  go_wp2
  go_ret
  rw [HF.out];exact ⟨rfl,Q.refl _⟩
end Ur
end
section
open Go.RowKit Go.Sort Go.Maps
namespace Sy
open Sm
theorem law9:Keyed Tryz.prog 9:=string_keyed Tryz.underlying9
theorem zeroI (w:World):(zeroValue 3).run Tryz.prog w = .ok (.int .i64 0) w:=by kernel_rfl
abbrev Mp (w:World) (b n:Nat) (D:DataW Unit):Prop:=w.ownsMap Tryz.prog 9 (plainElem Tryz.prog 3) b n D
theorem wf_small {v:Int} (h0:0 <= v) (h1:v < 1000000):(Lit.int .i64 v).wf = true:=by
 exact WalkArith.wf_i64 (by omega)
theorem put_own (w:World) {ops:Array Oper} {rest:List Oper} {o:Oper} {a:Act} {R:Exit -> Act -> World -> Prop}
  (hg:o.guard = none) (m x v:Operand) (hop:o.op = Op.insert 246 m x v) (b n:Nat) (D:DataW Unit)
  (hm:a.eval m = .map (some b)) (hown:Mp w b n D) (hn:n < 1000) (key:List UInt8) (val:Int) (hk:key.length < 1000) (hv0:0 <= val) (hv1:val < 1000000) (hx:a.eval x = .string ⟨key.toArray⟩) (hv:a.eval v = .int .i64 val)
  (hK:∀ w',Mp w' b (n + 1) (D.put (.string key) (.lit (.int .i64 val))) -> w.grownBy w' (some b) -> wpList Tryz.prog ops R rest (a.put o.dst undef) w') :
  wpList Tryz.prog ops R (o :: rest) a w:=by
 refine wpList_plain hg fun K' hK'=>?_;have hkey:keyOf Tryz.prog 9 (.string ⟨key.toArray⟩) = some (.string key):=by
  refine WideMaps.keyOf_string_mk Tryz.underlying9 (s:=⟨key.toArray⟩) ?_;show key.toArray.size <= maxLen;unfold maxLen;simp;omega
 obtain ⟨w',hrun,r1,r2⟩:=World.ownsMap.update hown law9 Tryz.underlying246 (by unfold maxLen;omega) hkey (plainElem_int Tryz.underlying3 (wf_small hv0 hv1));unfold Oper.wp;simp [execOp,hop,hm,hx,hv,hrun,Result.andThen];exact hK' _ _ (hK w' r1 r2)
theorem tab_put:(((((((((((((((((((((DataW.map []).put (.string [97,114,97,98]) (.lit (.int .i64 1632))).put (.string [97,114,97,98,101,120,116]) (.lit (.int .i64 1776))).put (.string [98,101,110,103]) (.lit (.int .i64 2534))).put (.string [100,101,118,97]) (.lit (.int .i64 2406))).put (.string [102,117,108,108,119,105,100,101]) (.lit (.int .i64 65296))).put (.string [103,117,106,114]) (.lit (.int .i64 2790))).put (.string [103,117,114,117]) (.lit (.int .i64 2662))).put (.string [107,104,109,114]) (.lit (.int .i64 6112))).put (.string [107,110,100,97]) (.lit (.int .i64 3302))).put (.string [108,97,111,111]) (.lit (.int .i64 3792))).put (.string [108,97,116,110]) (.lit (.int .i64 48))).put (.string [109,97,116,104,115,97,110,98]) (.lit (.int .i64 120812))).put (.string [109,108,121,109]) (.lit (.int .i64 3430))).put (.string [109,111,110,103]) (.lit (.int .i64 6160))).put (.string [109,121,109,114]) (.lit (.int .i64 4160))).put (.string [111,114,121,97]) (.lit (.int .i64 2918))).put (.string [116,97,109,108,100,101,99]) (.lit (.int .i64 3046))).put (.string [116,101,108,117]) (.lit (.int .i64 3174))).put (.string [116,104,97,105]) (.lit (.int .i64 3664))).put (.string [116,105,98,116]) (.lit (.int .i64 3872)):DataW Unit) = D0:=by kernel_rfl
theorem noughts_any (w:World) :
  Calls Tryz.prog 191 #[] w fun e w'=>e = .returned (.map (some w.heap.size)) /\ Mp w' w.heap.size 20 D0 /\ Q w w':=by
 have hmm:=@run_makeMap Tryz.prog;have h0:Mp (w.alloc (.map #[] 0)) w.heap.size 0 (.map []):=World.ownsMap_made _ _ _ _;have q0:Q w (w.alloc (.map #[] 0)):=(Q.refl _).alloc _;go_enter Tryz.func191,Tryz.ntmps191
 go_wp2_with (refine put_own _ rfl _ _ _ rfl _ 0 _ (by rfl) h0 (by omega) [97,114,97,98] 1632 (by decide) (by omega) (by omega) (by rfl) (by rfl) ?_)
 intro w1 h1 g1;have q1:=q0.grown g1 (fun k h=>by cases h;exact Nat.le_refl _);go_wp2_with (refine put_own _ rfl _ _ _ rfl _ 1 _ (by rfl) h1 (by omega) [97,114,97,98,101,120,116] 1776 (by decide) (by omega) (by omega) (by rfl) (by rfl) ?_)
 intro w2 h2 g2;have q2:=q1.grown g2 (fun k h=>by cases h;exact Nat.le_refl _);go_wp2_with (refine put_own _ rfl _ _ _ rfl _ 2 _ (by rfl) h2 (by omega) [98,101,110,103] 2534 (by decide) (by omega) (by omega) (by rfl) (by rfl) ?_)
 intro w3 h3 g3;have q3:=q2.grown g3 (fun k h=>by cases h;exact Nat.le_refl _);go_wp2_with (refine put_own _ rfl _ _ _ rfl _ 3 _ (by rfl) h3 (by omega) [100,101,118,97] 2406 (by decide) (by omega) (by omega) (by rfl) (by rfl) ?_)
 intro w4 h4 g4;have q4:=q3.grown g4 (fun k h=>by cases h;exact Nat.le_refl _);go_wp2_with (refine put_own _ rfl _ _ _ rfl _ 4 _ (by rfl) h4 (by omega) [102,117,108,108,119,105,100,101] 65296 (by decide) (by omega) (by omega) (by rfl) (by rfl) ?_)
 intro w5 h5 g5;have q5:=q4.grown g5 (fun k h=>by cases h;exact Nat.le_refl _);go_wp2_with (refine put_own _ rfl _ _ _ rfl _ 5 _ (by rfl) h5 (by omega) [103,117,106,114] 2790 (by decide) (by omega) (by omega) (by rfl) (by rfl) ?_)
 intro w6 h6 g6;have q6:=q5.grown g6 (fun k h=>by cases h;exact Nat.le_refl _);go_wp2_with (refine put_own _ rfl _ _ _ rfl _ 6 _ (by rfl) h6 (by omega) [103,117,114,117] 2662 (by decide) (by omega) (by omega) (by rfl) (by rfl) ?_)
 intro w7 h7 g7;have q7:=q6.grown g7 (fun k h=>by cases h;exact Nat.le_refl _);go_wp2_with (refine put_own _ rfl _ _ _ rfl _ 7 _ (by rfl) h7 (by omega) [107,104,109,114] 6112 (by decide) (by omega) (by omega) (by rfl) (by rfl) ?_)
 intro w8 h8 g8;have q8:=q7.grown g8 (fun k h=>by cases h;exact Nat.le_refl _);go_wp2_with (refine put_own _ rfl _ _ _ rfl _ 8 _ (by rfl) h8 (by omega) [107,110,100,97] 3302 (by decide) (by omega) (by omega) (by rfl) (by rfl) ?_)
 intro w9 h9 g9;have q9:=q8.grown g9 (fun k h=>by cases h;exact Nat.le_refl _);go_wp2_with (refine put_own _ rfl _ _ _ rfl _ 9 _ (by rfl) h9 (by omega) [108,97,111,111] 3792 (by decide) (by omega) (by omega) (by rfl) (by rfl) ?_)
 intro w10 h10 g10;have q10:=q9.grown g10 (fun k h=>by cases h;exact Nat.le_refl _);go_wp2_with (refine put_own _ rfl _ _ _ rfl _ 10 _ (by rfl) h10 (by omega) [108,97,116,110] 48 (by decide) (by omega) (by omega) (by rfl) (by rfl) ?_)
 intro w11 h11 g11;have q11:=q10.grown g11 (fun k h=>by cases h;exact Nat.le_refl _);go_wp2_with (refine put_own _ rfl _ _ _ rfl _ 11 _ (by rfl) h11 (by omega) [109,97,116,104,115,97,110,98] 120812 (by decide) (by omega) (by omega) (by rfl) (by rfl) ?_)
 intro w12 h12 g12;have q12:=q11.grown g12 (fun k h=>by cases h;exact Nat.le_refl _);go_wp2_with (refine put_own _ rfl _ _ _ rfl _ 12 _ (by rfl) h12 (by omega) [109,108,121,109] 3430 (by decide) (by omega) (by omega) (by rfl) (by rfl) ?_)
 intro w13 h13 g13;have q13:=q12.grown g13 (fun k h=>by cases h;exact Nat.le_refl _);go_wp2_with (refine put_own _ rfl _ _ _ rfl _ 13 _ (by rfl) h13 (by omega) [109,111,110,103] 6160 (by decide) (by omega) (by omega) (by rfl) (by rfl) ?_)
 intro w14 h14 g14;have q14:=q13.grown g14 (fun k h=>by cases h;exact Nat.le_refl _);go_wp2_with (refine put_own _ rfl _ _ _ rfl _ 14 _ (by rfl) h14 (by omega) [109,121,109,114] 4160 (by decide) (by omega) (by omega) (by rfl) (by rfl) ?_)
 intro w15 h15 g15;have q15:=q14.grown g15 (fun k h=>by cases h;exact Nat.le_refl _);go_wp2_with (refine put_own _ rfl _ _ _ rfl _ 15 _ (by rfl) h15 (by omega) [111,114,121,97] 2918 (by decide) (by omega) (by omega) (by rfl) (by rfl) ?_)
 intro w16 h16 g16;have q16:=q15.grown g16 (fun k h=>by cases h;exact Nat.le_refl _);go_wp2_with (refine put_own _ rfl _ _ _ rfl _ 16 _ (by rfl) h16 (by omega) [116,97,109,108,100,101,99] 3046 (by decide) (by omega) (by omega) (by rfl) (by rfl) ?_)
 intro w17 h17 g17;have q17:=q16.grown g17 (fun k h=>by cases h;exact Nat.le_refl _);go_wp2_with (refine put_own _ rfl _ _ _ rfl _ 17 _ (by rfl) h17 (by omega) [116,101,108,117] 3174 (by decide) (by omega) (by omega) (by rfl) (by rfl) ?_)
 intro w18 h18 g18;have q18:=q17.grown g18 (fun k h=>by cases h;exact Nat.le_refl _);go_wp2_with (refine put_own _ rfl _ _ _ rfl _ 18 _ (by rfl) h18 (by omega) [116,104,97,105] 3664 (by decide) (by omega) (by omega) (by rfl) (by rfl) ?_)
 intro w19 h19 g19;have q19:=q18.grown g19 (fun k h=>by cases h;exact Nat.le_refl _);go_wp2_with (refine put_own _ rfl _ _ _ rfl _ 19 _ (by rfl) h19 (by omega) [116,105,98,116] 3872 (by decide) (by omega) (by omega) (by rfl) (by rfl) ?_)
 intro w20 h20 g20;have q20:=q19.grown g20 (fun k h=>by cases h;exact Nat.le_refl _);go_wp2_with fail
 go_ret
 exact ⟨rfl,by rw [<- tab_put];exact h20,q20⟩
theorem keyS (x:ByteArray) (hx:x.size <= maxLen):keyOf Tryz.prog 9 (.string x) = some (.string x.data.toList):=WideMaps.keyOf_string_mk Tryz.underlying9 hx
theorem zero_some (x:ByteArray) (w:World) (hx:x.size <= maxLen) (h:nz x.data.toList ≠ -1) :
  Calls Tryz.prog 150 #[.string x] w fun e w'=>e = .returned (.tuple #[.int .i64 (nz x.data.toList),.int .i64 0]) /\ Q w w':=by
 have hh:Maps.has D0 (.string x.data.toList) = true:=by rw [D0_has];exact decide_eq_true h
 have ha:=D0_at x.data.toList (.lit (.int .i64 0)) h;have hk:=keyS x hx;generalize nz x.data.toList = z at *;have HH:=Hd hh;have HA:=Hd ha;clear hh ha h;go_enter Tryz.func150,Tryz.ntmps150
 go_wp2_with fail
 refine (noughts_any _).mono ?_;rintro e w1 ⟨rfl,hm,hq⟩;go_wp2_with (at_lookup;refine wpList_lookup_own_ok_int _ rfl _ _ 246 rfl 9 3 .i64 law9 Tryz.underlying246 Tryz.underlying3 (zeroI _) _ 20 D0 (by rfl) hm _ _ (by rfl) hk ?_)
 intro c hat hwc;obtain rfl:z = c:=by
  have h1:=HA.out;rw [hat] at h1;injection h1 with h1;injection h1 with _ h1
  exact h1.symm
 rw [HH.out];go_wp2_with fail
 go_ret2
 exact ⟨rfl,hq⟩
theorem zero_none (x:ByteArray) (w:World) (hx:x.size <= maxLen) (h:nz x.data.toList = -1) :
  Calls Tryz.prog 150 #[.string x] w fun e w'=>e = .returned (.tuple #[.int .i64 0,.int .i64 7]) /\ Q w w':=by
 have hh:Maps.has D0 (.string x.data.toList) = false:=by rw [D0_has];exact decide_eq_false (fun k=>k h)
 have hk:=keyS x hx;have HH:=Hd hh;clear hh h;go_enter Tryz.func150,Tryz.ntmps150
 go_wp2_with fail
 refine (noughts_any _).mono ?_;rintro e w1 ⟨rfl,hm,hq⟩;go_wp2_with (at_lookup;refine wpList_lookup_own_ok_int _ rfl _ _ 246 rfl 9 3 .i64 law9 Tryz.underlying246 Tryz.underlying3 (zeroI _) _ 20 D0 (by rfl) hm _ _ (by rfl) hk ?_)
 intro c hat hwc;rw [HH.out];go_wp2_with fail
 go_ret2
 exact ⟨rfl,hq⟩
end Sy
end
end Go.Proofs.YtdjhkbholijnmaaGreatDoor
