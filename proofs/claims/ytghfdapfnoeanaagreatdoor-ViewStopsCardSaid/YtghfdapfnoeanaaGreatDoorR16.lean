/- Halves, side by side in memory. (and more) -/
import Derived.Test.YtghfdapfnoeanaaGreatDoorR00
import Derived.Test.YtghfdapfnoeanaaGreatDoorR02
import Derived.Test.YtghfdapfnoeanaaGreatDoorR01
import Derived.Test.YtghfdapfnoeanaaGreatDoorR06
import Derived.Test.YtghfdapfnoeanaaGreatDoorR14
import Derived.Test.YtghfdapfnoeanaaGreatDoorRows
set_option linter.unusedVariables false
set_option linter.unusedSimpArgs false
namespace Go.Proofs.YtghfdapfnoeanaaGreatDoor
open Go.RowKit
namespace Pg
open Pt Um
structure Hm where
 pa:Option Addr
 pc:Nat
 sa:Option Addr
 sc:Nat
 P:List Pc.E
 S:List Pc.E
 nb:Nb
def Hm.pv (h:Hm):Value:=.slice h.pa h.P.length h.pc
def Hm.sv (h:Hm):Value:=.slice h.sa h.S.length h.sc
def Hm.cells (h:Hm):List Value:=[h.pv,h.sv,.int .i64 h.nb.p,.int .i64 h.nb.s,.int .i64 h.nb.mi,.int .i64 h.nb.xi,.int .i64 h.nb.mf,.int .i64 h.nb.xf]
def Hm.ok (w:World) (B:Nat) (h:Hm):Prop:=Pc.New w B h.pv h.P ∧ Pc.New w B h.sv h.S
theorem Hm.ok.q {w w':World} {B:Nat} {h:Hm} (k:h.ok w B) (hq:Q w w'):h.ok w' B:=⟨k.1.q hq,k.2.q hq⟩
def flatH (hs:List Hm):List Value:=hs.flatMap Hm.cells
theorem flatH_app (a b:List Hm):flatH (a ++ b) = flatH a ++ flatH b:=by simp [flatH]
theorem flatH_get (hs:List Hm) (i:Nat) (h:Hm) (hi:hs[i]? = some h) (j:Nat) (hj:j < 8):(flatH hs)[i * 8 + j]? = h.cells[j]?:=by
 induction hs generalizing i with
 | nil=>simp at hi
 | cons x r ih =>
  unfold flatH at *
  rw [List.flatMap_cons]
  have hx:x.cells.length = 8:=rfl
  cases i with
  | zero =>
   simp at hi
   subst hi
   rw [Nat.zero_mul,Nat.zero_add,List.getElem?_append_left (by rw [hx];exact hj)]
  | succ i =>
   rw [List.getElem?_append_right (by rw [hx];omega),hx,show (i + 1) * 8 + j - 8 = i * 8 + j by omega]
   exact ih i (by simpa using hi)
def OwnH (w:World) (B:Nat) (v:Value) (hs:List Hm):Prop:=w.ownsRow B 177 8 v hs.length (flatH hs)
theorem OwnH.nil (w:World) (B:Nat):OwnH w B (.slice none 0 0) []:=World.ownsRow_nil w B 177 8
theorem OwnH.same {w w':World} {B:Nat} {v:Value} {hs:List Hm} (h:OwnH w B v hs) (k:∀ g,v.ownBlock = some g → w'.heap[g]? = w.heap[g]?):OwnH w' B v hs:=by
 obtain ⟨h1,h2⟩:=h
 refine ⟨h1,?_⟩
 rcases h2 with h2 | ⟨g,cap,cur,hv,hg,hh,r⟩
 ·exact .inl h2
 ·exact .inr ⟨g,cap,cur,hv,hg,by rw [k g (by rw [hv];rfl)];exact hh,r⟩
theorem OwnH.lt {w:World} {B:Nat} {v:Value} {hs:List Hm} (h:OwnH w B v hs):∀ g,v.ownBlock = some g → B ≤ g ∧ g < w.heap.size:=World.ownsRow.lt h
theorem OwnH.q {w w':World} {B:Nat} {v:Value} {hs:List Hm} (h:OwnH w B v hs) (hq:Q w w'):OwnH w' B v hs:=h.same fun g hg=>hq.block (h.lt g hg).2
theorem OwnH.shape {w:World} {B:Nat} {v:Value} {hs:List Hm} {n:Nat} (h:OwnH w B v hs) (hn:hs.length = n):∃ a c,v = .slice a n c ∧ n ≤ c ∧ c ≤ maxLen:=by
 subst hn
 rcases h.2 with ⟨hv,hn⟩ | ⟨g,cap,cur,hv,_,hh,hnc,hcm,_⟩
 ·have:hs = []:=List.eq_nil_of_length_eq_zero hn
  subst this
  exact ⟨none,0,hv,by simp,by unfold maxLen;omega⟩
 ·exact ⟨_,cap,hv,hnc,hcm⟩
theorem OwnH.cellOf {w:World} {B:Nat} {v:Value} {hs:List Hm} {n i:Nat} {h:Hm} (k:OwnH w B v hs) (hn:hs.length = n) (hi:hs[i]? = some h) :
  ∃ g cap,v = .slice (some ⟨g,0,none⟩) n cap ∧ B ≤ g ∧ g < w.heap.size ∧ n ≤ cap ∧ cap ≤ maxLen ∧ ∀ j u,h.cells[j]? = some u → w.cell? ⟨g,i * 8 + j,none⟩ = some u:=by
 subst hn
 have hil:=(List.getElem?_eq_some_iff.1 hi).1
 rcases k.2 with ⟨hv,hn⟩ | ⟨g,cap,cur,hv,hB,hh,hnc,hcm,hcs,ht⟩
 ·omega
 ·refine ⟨g,cap,hv,hB,(Array.getElem?_eq_some_iff.1 hh).1,hnc,hcm,fun j u hj=>?_⟩
  have hj8:j < 8:=(List.getElem?_eq_some_iff.1 hj).1
  rw [cell_of_row w g (i * 8 + j) cur 177 (0,0) hh]
  have h1:=congrArg (fun x=>x[i * 8 + j]?) ht
  rw [List.getElem?_take,if_pos (by omega),flatH_get hs i h hi j hj8,hj] at h1
  rw [← Array.getElem?_toList,h1]
theorem infoH3:(Tryz.prog.info? 177).map (fun i=>(i.zero,i.size,i.bytes)) = some (some (.agg #[.slice none 0 0,.slice none 0 0,.int .i64 0,.int .i64 0,.int .i64 0,.int .i64 0,.int .i64 0,.int .i64 0]),8,96):=by kernel_rfl
theorem pushH {w:World} {B:Nat} {v:Value} {hs:List Hm} (hown:OwnH w B v hs) {ops:Array Oper} {rest:List Oper} {o:Oper} {a:Act} {R:Exit → Act → World → Prop} (hgd:o.guard = none) (s x:Operand)
  (ho:o.op = .call { callee:=.builtin .append,args:=#[s,x],argTypes:=#[173,173] })
  (h:Hm) (hsv:a.eval s = v) (hx:a.eval x = .slice (some ⟨w.heap.size,0,none⟩) 1 1) (hlen:hs.length < 1000000) (hB:B ≤ w.heap.size)
  (k:∀ v' w',OwnH w' B v' (hs ++ [h]) → w.grownBy w' v.ownBlock → (v'.ownBlock = v.ownBlock ∨ v'.ownBlock = some (w.heap.size + 1)) → wpList Tryz.prog ops R rest (a.put o.dst v') w') :
  wpList Tryz.prog ops R (o :: rest) a (w.alloc (.cells h.cells.toArray 177)):=by
 obtain ⟨i0,hi,hz0,hz1,hz2⟩:=info_parts infoH3
 refine wpList_append_own_at _ hgd s x 173 ho B 177 i0 _ 8 96 Tryz.underlying173 hi hz0 hz1 hz2 rfl (by decide) v hs.length _ hsv (World.ownsRow.alloc hown _)
  ⟨w.heap.size,0,none⟩ 1 1 h.cells hx rfl ?_ ?_ ?_ ?_ ?_ ?_
 ·intro j u hj
  have hadd:(⟨w.heap.size,0,none⟩:Addr).add j = ⟨w.heap.size,j,none⟩:=by unfold Addr.add;split <;> simp_all
  rw [hadd,World.cell?_alloc_at _ _ _ _ rfl]
  simpa using hj
 ·intro u hu
  unfold Hm.cells at hu
  simp at hu
  rcases hu with rfl | rfl | rfl | rfl | rfl | rfl | rfl | rfl <;> rfl
 ·unfold maxLen;omega
 ·omega
 ·simp;omega
 ·intro v' w' hown' hg _ hat
  refine k v' w' ?_ ?_ ?_
  ·unfold OwnH
   rw [List.length_append,flatH_app]
   have:flatH [h] = h.cells:=by simp [flatH]
   rw [this]
   exact hown'
  ·exact (World.grownBy_alloc w _ _).trans hg
  ·simpa using hat
theorem New.grown {w w':World} {B:Nat} {v:Value} {l:List Pc.E} {row:Option Nat} (h:Pc.New w B v l) (hg:w.grownBy w' row) (hne:∀ a n c,v = .slice (some a) n c → n ≠ 0 → row ≠ some a.block):Pc.New w' B v l:=by
 refine ⟨?_,h.2⟩
 rcases h.1 with hn | ⟨g,off,cap,rfl,hl,h1,h2,hc⟩
 ·exact .inl hn
 ·by_cases h0:l.length = 0
  ·have:l = []:=List.eq_nil_of_length_eq_zero h0
   subst this
   exact .inl ⟨rfl,_,_,rfl,h2,fun h=>nomatch h⟩
  ·have hb:=hg.block g hl (fun e=>hne _ _ _ rfl h0 e.symm)
   exact .inr ⟨g,off,cap,rfl,Nat.lt_of_lt_of_le hl hg.size,h1,h2,fun j hj=>⟨(World.cell?_of_block (w:=w) hb).trans (hc j hj).1,(World.cell?_of_block (w:=w) hb).trans (hc j hj).2⟩⟩
def Hm.far (h:Hm) (v:Value):Prop:=(∀ a n c,h.pv = .slice (some a) n c → n ≠ 0 → v.ownBlock ≠ some a.block) ∧ (∀ a n c,h.sv = .slice (some a) n c → n ≠ 0 → v.ownBlock ≠ some a.block)
theorem Hm.ok.grown {w w':World} {B:Nat} {h:Hm} {v:Value} (k:h.ok w B) (hg:w.grownBy w' v.ownBlock) (hf:h.far v):h.ok w' B:=⟨New.grown k.1 hg hf.1,New.grown k.2 hg hf.2⟩
theorem New.lt {w:World} {B:Nat} {v:Value} {l:List Pc.E} (h:Pc.New w B v l):∀ a n c,v = .slice (some a) n c → n ≠ 0 → a.block < w.heap.size:=by
 intro a n c hv hn
 rcases h.1 with ⟨_,_,_,hv2,_⟩ | ⟨g,off,cap,hv2,hl,_⟩
 ·rw [hv2] at hv;cases hv;exact absurd rfl hn
 ·rw [hv2] at hv;cases hv;exact hl
theorem Hm.far.push {w:World} {B:Nat} {h:Hm} {v v':Value} (k:h.ok w B) (hf:h.far v) (hat:v'.ownBlock = v.ownBlock ∨ v'.ownBlock = some (w.heap.size + 1)):h.far v':=by
 refine ⟨fun a n c e hn e2=>?_,fun a n c e hn e2=>?_⟩
 ·rcases hat with h1 | h1
  ·exact hf.1 a n c e hn (h1 ▸ e2)
  ·have:=New.lt k.1 a n c e hn
   rw [h1] at e2
   have:=Option.some.inj e2
   omega
 ·rcases hat with h1 | h1
  ·exact hf.2 a n c e hn (h1 ▸ e2)
  ·have:=New.lt k.2 a n c e hn
   rw [h1] at e2
   have:=Option.some.inj e2
   omega
theorem Hm.far.new {w w':World} {B:Nat} {h:Hm} {v:Value} {hs:List Hm} (ho:OwnH w B v hs) (k:h.ok w' w.heap.size):h.far v :=
 ⟨fun a n c e hn e2=>by have:=(ho.lt _ e2).2;have:=k.1.2 a n c e hn;omega,fun a n c e hn e2=>by have:=(ho.lt _ e2).2;have:=k.2.2 a n c e hn;omega⟩
end Pg
end Go.Proofs.YtghfdapfnoeanaaGreatDoor
