/- The patterns parsed; the document's example. (and more) -/
import Derived.Test.YteggfkbnnmpcjaaGreatDoorR44
import Derived.Test.YteggfkbnnmpcjaaGreatDoorR40
set_option linter.all false
set_option maxRecDepth 100000
set_option maxHeartbeats 8000000
namespace Go.Proofs.YteggfkbnnmpcjaaGreatDoor
section
open Go.RowKit
namespace Lo
open Um Cm Gm
def Par (p:Nat):Prop:=∀ u,Calls Tryz.prog 55 #[.string (Lm.bs (Lm.patB.getD p []))] u fun e w'=>∃ v,e = .returned (.tuple #[v,.int .i64 0]) /\ Pg.PV w' u.heap.size v (Lm.pX p) /\ Q u w'
theorem par_of {p:Nat} (hp:p < 10) (h:∀ u,Calls Tryz.prog 55 #[.string ⟨(joinL (Lm.patC.getD p [])).toArray⟩] u fun e w'=>∃ v,e = .returned (.tuple #[v,.int .i64 0]) /\ Pg.PV w' u.heap.size v (Pt.parseC (Lm.patC.getD p [])).1 /\ Q u w'):Par p:=by
 obtain ⟨h1,h2,_⟩:=Lm.f_pat p hp;rw [h1,h2] at h;exact h
theorem par0:Par 0:=par_of (by omega) (Pg.parse1 (cs:=Lm.patC.getD 0 []) (by decide +kernel) (by decide +kernel) (P:=[]) (N:=[(4,35),(4,44),(4,35),(4,35),(4,48),(4,46),(4,48),(4,48)]) (S:=[]) (c:=false) (by decide +kernel) ⟨(by unfold Pt.okT;decide +kernel),(by unfold Pt.okT;decide +kernel),(by decide +kernel)⟩ (by decide +kernel) (by decide +kernel) (by decide +kernel))
theorem par1:Par 1:=par_of (by omega) (Pg.parse1 (cs:=Lm.patC.getD 1 []) (by decide +kernel) (by decide +kernel) (P:=[]) (N:=[(4,48),(4,46),(4,35),(4,35)]) (S:=[]) (c:=false) (by decide +kernel) ⟨(by unfold Pt.okT;decide +kernel),(by unfold Pt.okT;decide +kernel),(by decide +kernel)⟩ (by decide +kernel) (by decide +kernel) (by decide +kernel))
theorem par2:Par 2:=par_of (by omega) (Pg.parse1 (cs:=Lm.patC.getD 2 []) (by decide +kernel) (by decide +kernel) (P:=[]) (N:=[(4,35),(4,44),(4,35),(4,35),(4,44),(4,35),(4,35),(4,48),(4,46),(4,35),(4,35),(4,35)]) (S:=[]) (c:=false) (by decide +kernel) ⟨(by unfold Pt.okT;decide +kernel),(by unfold Pt.okT;decide +kernel),(by decide +kernel)⟩ (by decide +kernel) (by decide +kernel) (by decide +kernel))
theorem par3:Par 3:=par_of (by omega) (Pg.parse1 (cs:=Lm.patC.getD 3 []) (by decide +kernel) (by decide +kernel) (P:=[(1,164)]) (N:=[(4,35),(4,44),(4,35),(4,35),(4,48),(4,46),(4,48),(4,48)]) (S:=[]) (c:=false) (by decide +kernel) ⟨(by unfold Pt.okT;decide +kernel),(by unfold Pt.okT;decide +kernel),(by decide +kernel)⟩ (by decide +kernel) (by decide +kernel) (by decide +kernel))
theorem par4:Par 4:=par_of (by omega) (Pg.parse1 (cs:=Lm.patC.getD 4 []) (by decide +kernel) (by decide +kernel) (P:=[]) (N:=[(4,35),(4,44),(4,35),(4,35),(4,48),(4,46),(4,48),(4,48)]) (S:=[(0,120),(1,164)]) (c:=false) (by decide +kernel) ⟨(by unfold Pt.okT;decide +kernel),(by unfold Pt.okT;decide +kernel),(by decide +kernel)⟩ (by decide +kernel) (by decide +kernel) (by decide +kernel))
theorem par5:Par 5:=par_of (by omega) (Pg.parse2 (cs:=Lm.patC.getD 5 []) (by decide +kernel) (by decide +kernel) (P:=[(1,164),(0,120)]) (N:=[(4,35),(4,44),(4,35),(4,35),(4,48),(4,46),(4,48),(4,48)]) (S:=[]) (P':=[(0,40),(1,164),(0,120),(3,45)]) (N':=[(4,35)]) (S':=[(0,41)]) (c:=false) (by decide +kernel) ⟨(by unfold Pt.okT;decide +kernel),(by unfold Pt.okT;decide +kernel),(by decide +kernel)⟩ (by decide +kernel) (by decide +kernel) (by decide +kernel) ⟨(by unfold Pt.okT;decide +kernel),(by unfold Pt.okT;decide +kernel),(by decide +kernel)⟩ (by decide +kernel) (by decide +kernel) (by decide +kernel))
theorem par6:Par 6:=par_of (by omega) (Pg.parse1 (cs:=Lm.patC.getD 6 []) (by decide +kernel) (by decide +kernel) (P:=[]) (N:=[(4,35),(4,44),(4,35),(4,35),(4,48)]) (S:=[(2,37)]) (c:=false) (by decide +kernel) ⟨(by unfold Pt.okT;decide +kernel),(by unfold Pt.okT;decide +kernel),(by decide +kernel)⟩ (by decide +kernel) (by decide +kernel) (by decide +kernel))
theorem par7:Par 7:=par_of (by omega) (Pg.parse2 (cs:=Lm.patC.getD 7 []) (by decide +kernel) (by decide +kernel) (P:=[]) (N:=[(4,48),(4,46),(4,48)]) (S:=[]) (P':=[]) (N':=[(4,48),(4,46),(4,48)]) (S':=[(3,45)]) (c:=false) (by decide +kernel) ⟨(by unfold Pt.okT;decide +kernel),(by unfold Pt.okT;decide +kernel),(by decide +kernel)⟩ (by decide +kernel) (by decide +kernel) (by decide +kernel) ⟨(by unfold Pt.okT;decide +kernel),(by unfold Pt.okT;decide +kernel),(by decide +kernel)⟩ (by decide +kernel) (by decide +kernel) (by decide +kernel))
theorem par8:Par 8:=par_of (by omega) (Pg.parse2 (cs:=Lm.patC.getD 8 []) (by decide +kernel) (by decide +kernel) (P:=[]) (N:=[(4,35),(4,44),(4,35),(4,35),(4,35),(4,48),(4,46),(4,48),(4,48)]) (S:=[(0,121)]) (P':=[(0,121)]) (N':=[(4,35),(4,44),(4,35),(4,35),(4,48),(4,46),(4,48),(4,48)]) (S':=[(3,45),(0,121)]) (c:=false) (by decide +kernel) ⟨(by unfold Pt.okT;decide +kernel),(by unfold Pt.okT;decide +kernel),(by decide +kernel)⟩ (by decide +kernel) (by decide +kernel) (by decide +kernel) ⟨(by unfold Pt.okT;decide +kernel),(by unfold Pt.okT;decide +kernel),(by decide +kernel)⟩ (by decide +kernel) (by decide +kernel) (by decide +kernel))
theorem par9:Par 9:=par_of (by omega) (Pg.parse2 (cs:=Lm.patC.getD 9 []) (by decide +kernel) (by decide +kernel) (P:=[]) (N:=[(4,35),(4,44),(4,35),(4,35),(4,44),(4,35),(4,48),(4,46),(4,35)]) (S:=[]) (P':=[(0,35)]) (N':=[(4,35)]) (S':=[(3,45),(0,35)]) (c:=true) (by decide +kernel) ⟨(by unfold Pt.okT;decide +kernel),(by unfold Pt.okT;decide +kernel),(by decide +kernel)⟩ (by decide +kernel) (by decide +kernel) (by decide +kernel) ⟨(by unfold Pt.okT;decide +kernel),(by unfold Pt.okT;decide +kernel),(by decide +kernel)⟩ (by decide +kernel) (by decide +kernel) (by decide +kernel))
theorem par_all:∀ p,p < 10 -> Par p:=fun p hp=>match p,hp with
 | 0,_=>par0
 | 1,_=>par1
 | 2,_=>par2
 | 3,_=>par3
 | 4,_=>par4
 | 5,_=>par5
 | 6,_=>par6
 | 7,_=>par7
 | 8,_=>par8
 | 9,_=>par9
end Lo
end
section
open Go.RowKit
namespace Ft
open Um Cm Gm
def Par (p:Nat):Prop:=∀ u,Calls Tryz.prog 55 #[.string (Lm.bs (Fm.ptB.getD p []))] u fun e w'=>∃ v,e = .returned (.tuple #[v,.int .i64 0]) /\ Pg.PV w' u.heap.size v (Fm.P p) /\ Q u w'
theorem par_of {p:Nat} (hp:p < 14) (h:∀ u,Calls Tryz.prog 55 #[.string ⟨(joinL (Fm.ptC.getD p [])).toArray⟩] u fun e w'=>∃ v,e = .returned (.tuple #[v,.int .i64 0]) /\ Pg.PV w' u.heap.size v (Pt.parseC (Fm.ptC.getD p [])).1 /\ Q u w'):Par p:=by
 obtain ⟨h1,h2,_⟩:=Fm.ptC_B p hp;rw [h1,h2] at h;exact h
theorem par0:Par 0:=par_of (by omega) (Pg.parse1 (cs:=Fm.ptC.getD 0 []) (by decide +kernel) (by decide +kernel) (P:=[(1,164)]) (N:=[(4,35),(4,44),(4,35),(4,35),(4,48),(4,46),(4,48),(4,48)]) (S:=[]) (c:=false) (by decide +kernel) ⟨(by unfold Pt.okT;decide +kernel),(by unfold Pt.okT;decide +kernel),(by decide +kernel)⟩ (by decide +kernel) (by decide +kernel) (by decide +kernel))
theorem par1:Par 1:=par_of (by omega) (Pg.parse1 (cs:=Fm.ptC.getD 1 []) (by decide +kernel) (by decide +kernel) (P:=[]) (N:=[(4,48),(4,46),(4,48),(4,48)]) (S:=[(0,160),(1,164)]) (c:=false) (by decide +kernel) ⟨(by unfold Pt.okT;decide +kernel),(by unfold Pt.okT;decide +kernel),(by decide +kernel)⟩ (by decide +kernel) (by decide +kernel) (by decide +kernel))
theorem par2:Par 2:=par_of (by omega) (Pg.parse1 (cs:=Fm.ptC.getD 2 []) (by decide +kernel) (by decide +kernel) (P:=[]) (N:=[(4,35),(4,44),(4,35),(4,35),(4,44),(4,35),(4,35),(4,48),(4,46),(4,48),(4,48)]) (S:=[(1,164)]) (c:=false) (by decide +kernel) ⟨(by unfold Pt.okT;decide +kernel),(by unfold Pt.okT;decide +kernel),(by decide +kernel)⟩ (by decide +kernel) (by decide +kernel) (by decide +kernel))
theorem par3:Par 3:=par_of (by omega) (Pg.parse1 (cs:=Fm.ptC.getD 3 []) (by decide +kernel) (by decide +kernel) (P:=[]) (N:=[(4,35),(4,44),(4,35),(4,35),(4,48),(4,46),(4,48),(4,48)]) (S:=[(0,160),(1,164)]) (c:=false) (by decide +kernel) ⟨(by unfold Pt.okT;decide +kernel),(by unfold Pt.okT;decide +kernel),(by decide +kernel)⟩ (by decide +kernel) (by decide +kernel) (by decide +kernel))
theorem par4:Par 4:=par_of (by omega) (Pg.parse1 (cs:=Fm.ptC.getD 4 []) (by decide +kernel) (by decide +kernel) (P:=[(1,164),(0,160)]) (N:=[(4,35),(4,44),(4,35),(4,35),(4,48),(4,46),(4,48),(4,48)]) (S:=[]) (c:=false) (by decide +kernel) ⟨(by unfold Pt.okT;decide +kernel),(by unfold Pt.okT;decide +kernel),(by decide +kernel)⟩ (by decide +kernel) (by decide +kernel) (by decide +kernel))
theorem par5:Par 5:=par_of (by omega) (Pg.parse2 (cs:=Fm.ptC.getD 5 []) (by decide +kernel) (by decide +kernel) (P:=[(1,164),(0,160)]) (N:=[(4,35),(4,44),(4,35),(4,35),(4,48),(4,46),(4,48),(4,48)]) (S:=[]) (P':=[(1,164),(3,45)]) (N':=[(4,35),(4,44),(4,35),(4,35),(4,48),(4,46),(4,48),(4,48)]) (S':=[]) (c:=false) (by decide +kernel) ⟨(by unfold Pt.okT;decide +kernel),(by unfold Pt.okT;decide +kernel),(by decide +kernel)⟩ (by decide +kernel) (by decide +kernel) (by decide +kernel) ⟨(by unfold Pt.okT;decide +kernel),(by unfold Pt.okT;decide +kernel),(by decide +kernel)⟩ (by decide +kernel) (by decide +kernel) (by decide +kernel))
theorem par6:Par 6:=par_of (by omega) (Pg.parse1 (cs:=Fm.ptC.getD 6 []) (by decide +kernel) (by decide +kernel) (P:=[(1,164)]) (N:=[(4,35),(4,44),(4,35),(4,35),(4,44),(4,35),(4,35),(4,48),(4,46),(4,48),(4,48)]) (S:=[]) (c:=false) (by decide +kernel) ⟨(by unfold Pt.okT;decide +kernel),(by unfold Pt.okT;decide +kernel),(by decide +kernel)⟩ (by decide +kernel) (by decide +kernel) (by decide +kernel))
theorem par7:Par 7:=par_of (by omega) (Pg.parse1 (cs:=Fm.ptC.getD 7 []) (by decide +kernel) (by decide +kernel) (P:=[]) (N:=[(4,35),(4,44),(4,35),(4,35),(4,48),(4,46),(4,48),(4,48)]) (S:=[]) (c:=false) (by decide +kernel) ⟨(by unfold Pt.okT;decide +kernel),(by unfold Pt.okT;decide +kernel),(by decide +kernel)⟩ (by decide +kernel) (by decide +kernel) (by decide +kernel))
theorem par8:Par 8:=par_of (by omega) (Pg.parse1 (cs:=Fm.ptC.getD 8 []) (by decide +kernel) (by decide +kernel) (P:=[(1,164)]) (N:=[(4,35),(4,44),(4,35),(4,35),(4,48)]) (S:=[]) (c:=false) (by decide +kernel) ⟨(by unfold Pt.okT;decide +kernel),(by unfold Pt.okT;decide +kernel),(by decide +kernel)⟩ (by decide +kernel) (by decide +kernel) (by decide +kernel))
theorem par9:Par 9:=par_of (by omega) (Pg.parse1 (cs:=Fm.ptC.getD 9 []) (by decide +kernel) (by decide +kernel) (P:=[]) (N:=[(4,35),(4,44),(4,35),(4,35),(4,48),(4,46),(4,48),(4,48)]) (S:=[(1,164)]) (c:=false) (by decide +kernel) ⟨(by unfold Pt.okT;decide +kernel),(by unfold Pt.okT;decide +kernel),(by decide +kernel)⟩ (by decide +kernel) (by decide +kernel) (by decide +kernel))
theorem par10:Par 10:=par_of (by omega) (Pg.parse2 (cs:=Fm.ptC.getD 10 []) (by decide +kernel) (by decide +kernel) (P:=[(1,164)]) (N:=[(4,35),(4,44),(4,35),(4,35),(4,48),(4,46),(4,48),(4,48)]) (S:=[]) (P':=[(1,164),(3,45)]) (N':=[(4,35),(4,44),(4,35),(4,35),(4,48),(4,46),(4,48),(4,48)]) (S':=[]) (c:=false) (by decide +kernel) ⟨(by unfold Pt.okT;decide +kernel),(by unfold Pt.okT;decide +kernel),(by decide +kernel)⟩ (by decide +kernel) (by decide +kernel) (by decide +kernel) ⟨(by unfold Pt.okT;decide +kernel),(by unfold Pt.okT;decide +kernel),(by decide +kernel)⟩ (by decide +kernel) (by decide +kernel) (by decide +kernel))
theorem par11:Par 11:=par_of (by omega) (Pg.parse2 (cs:=Fm.ptC.getD 11 []) (by decide +kernel) (by decide +kernel) (P:=[(1,164),(0,160)]) (N:=[(4,35),(4,44),(4,35),(4,35),(4,48),(4,46),(4,48),(4,48)]) (S:=[]) (P':=[(1,164),(0,160),(3,45)]) (N':=[(4,35),(4,44),(4,35),(4,35),(4,48),(4,46),(4,48),(4,48)]) (S':=[]) (c:=false) (by decide +kernel) ⟨(by unfold Pt.okT;decide +kernel),(by unfold Pt.okT;decide +kernel),(by decide +kernel)⟩ (by decide +kernel) (by decide +kernel) (by decide +kernel) ⟨(by unfold Pt.okT;decide +kernel),(by unfold Pt.okT;decide +kernel),(by decide +kernel)⟩ (by decide +kernel) (by decide +kernel) (by decide +kernel))
theorem par12:Par 12:=par_of (by omega) (Pg.parse1 (cs:=Fm.ptC.getD 12 []) (by decide +kernel) (by decide +kernel) (P:=[]) (N:=[(4,35),(4,44),(4,35),(4,35),(4,48),(4,46),(4,35),(4,35)]) (S:=[(2,37)]) (c:=false) (by decide +kernel) ⟨(by unfold Pt.okT;decide +kernel),(by unfold Pt.okT;decide +kernel),(by decide +kernel)⟩ (by decide +kernel) (by decide +kernel) (by decide +kernel))
theorem par13:Par 13:=par_of (by omega) (Pg.parse1 (cs:=Fm.ptC.getD 13 []) (by decide +kernel) (by decide +kernel) (P:=[(1,164),(0,160)]) (N:=[(4,35),(4,44),(4,35),(4,35),(4,44),(4,35),(4,35),(4,48),(4,46),(4,48),(4,48)]) (S:=[]) (c:=false) (by decide +kernel) ⟨(by unfold Pt.okT;decide +kernel),(by unfold Pt.okT;decide +kernel),(by decide +kernel)⟩ (by decide +kernel) (by decide +kernel) (by decide +kernel))
theorem par_all:∀ p,p < 14 -> Par p:=fun p hp=>match p,hp with
 | 0,_=>par0
 | 1,_=>par1
 | 2,_=>par2
 | 3,_=>par3
 | 4,_=>par4
 | 5,_=>par5
 | 6,_=>par6
 | 7,_=>par7
 | 8,_=>par8
 | 9,_=>par9
 | 10,_=>par10
 | 11,_=>par11
 | 12,_=>par12
 | 13,_=>par13
 | n + 14,h=>absurd h (by omega)
theorem new_forty (i:Nat) (hi:i < 40) (w:World) :
  Calls Tryz.prog 26 #[Lo.recV (Fm.T i)] w fun e w'=>∃ g a b c d cl,e = .returned (.tuple #[.pointer (some ⟨g,0,none⟩),Value.nilIface]) /\ Lo.LB w' g (Fm.T i) (Fm.P (Fm.nP i)) a b c d cl /\ SLst w' cl (Lm.clus (Fm.T i) (Fm.P (Fm.nP i))) /\ Q w w' :=
 Lo.new_ok _ _ w (Fm.f_ok i hi) (by rw [Fm.pat_of i hi];exact par_all _ (Fm.nP_lt i hi))
end Ft
end
section
open Go.RowKit
namespace Ro
open Um Cm Gm Lo
theorem arr6 {cs:Array Value} (h:cs.size = 6):∃ a b c d e f,cs = #[a,b,c,d,e,f]:=by
 obtain ⟨l⟩:=cs;match l,h with
 | [a,b,c,d,e,f],_=>exact ⟨a,b,c,d,e,f,rfl⟩
theorem ok_of {r:Lm.Rec} {X:Pt.Pat} (h:IsMk r X):Lm.Ok r X:=by
 obtain ⟨s,p,d,m,u,c,q,h1,h2,h3,h4,h5,h6,h7,rfl,rfl⟩:=h;exact Lm.mk_ok h1 h2 h3 h4 h5 h6 h7
theorem new_mk {r:Lm.Rec} {X:Pt.Pat} (h:IsMk r X) (w:World) :
  Calls Tryz.prog 26 #[recV r] w fun e w'=>∃ g a b c d cl,e = .returned (.tuple #[.pointer (some ⟨g,0,none⟩),Value.nilIface]) /\ LB w' g r X a b c d cl /\ SLst w' cl (Lm.clus r X) /\ Q w w':=by
 refine new_ok r X w (ok_of h) ?_;obtain ⟨s,p,d,m,u,c,q,h1,h2,h3,h4,h5,h6,h7,rfl,rfl⟩:=h;exact par_all p h2
theorem rnew_mk {r:Lm.Rec} {X:Pt.Pat} (h:IsMk r X) (w:World) :
  Calls Tryz.prog 52 #[recV r] w fun e w'=>∃ a b c d,e = .returned (lV r X a b c d) /\ LL w' X a b c d /\ Q w w':=by
 refine new_any r X w ?_ ?_
 ·obtain ⟨s,p,d,m,u,c,q,h1,h2,h3,h4,h5,h6,h7,rfl,rfl⟩:=h
  exact par_pat p h2
 ·obtain ⟨s,p,d,m,u,c,q,h1,h2,h3,h4,h5,h6,h7,rfl,rfl⟩:=h
  have:=pat_le p h2;show (Lm.patB.getD p []).length <= 1000;omega
theorem one_of {l:List UInt8} (h:Lm.symB l = true):(pcs (Lm.bs l)).length = 1 /\ (Lm.bs l).size <= 16:=by
 refine ⟨?_,by rw [Lm.bs_size];exact sym_len h⟩;unfold Lm.symB at h;rw [Bool.and_eq_true] at h;have h2:=h.2;rw [oneB_eq] at h2;rw [pcs_length,Lm.bs_list];exact of_decide_eq_true h2
end Ro
end
section
open Go.RowKit
namespace It
open Um Lo Ro
structure LOk (r:Lm.Rec) (X:Pt.Pat):Prop where
 ok:Lm.Ok r X
 pr:X.pr <= 1000
 se:0 <= X.se /\ X.se <= 1000
 tx:∀ A ∈ Lm.affs X,∀ x ∈ A,okL x.2 = true
def fewB (X:Pt.Pat):Bool:=decide (X.pr <= 1000) && (decide (0 <= X.se /\ X.se <= 1000) && (Lm.affs X).all fun A=>A.all fun x=>okL x.2)
theorem few_of {r:Lm.Rec} {X:Pt.Pat} (h:Lm.Ok r X) (hb:fewB X = true):LOk r X:=by
 unfold fewB at hb;simp only [Bool.and_eq_true,decide_eq_true_eq,List.all_eq_true] at hb;exact ⟨h,hb.1,hb.2.1,fun A hA x hx=>hb.2.2 A hA x hx⟩
theorem few_mk:∀ p,p < 10 -> fewB (Lm.pX p) = true:=by decide +kernel
theorem few_forty:∀ p,p < 14 -> fewB (Fm.P p) = true:=by decide +kernel
theorem lok_mk {r:Lm.Rec} {X:Pt.Pat} (h:IsMk r X):LOk r X:=by
 obtain ⟨s,p,d,m,u,c,q,hs,hp,hd,hm,hu,hc,hq,rfl,rfl⟩:=h;exact few_of (ok_of ⟨s,p,d,m,u,c,q,hs,hp,hd,hm,hu,hc,hq,rfl,rfl⟩) (few_mk p hp)
theorem lok_forty {i:Nat} (h:i < 40):LOk (Fm.T i) (Fm.P (Fm.nP i)):=few_of (Fm.f_ok i h) (few_forty _ (Fm.nP_lt i h))
theorem pat_len:∀ i,i < 40 -> (Fm.T i).pat.length <= 1000:=by decide +kernel
theorem pat_forty {i:Nat} (h:i < 40):(Pt.parseC (allL (Fm.T i).pat)).1 = Fm.P (Fm.nP i):=by
 obtain ⟨h1,h2,h3⟩:=Fm.ptC_B (Fm.nP i) (Fm.nP_lt i h);rw [Fm.pat_of i h,<- h1,allL_join _ (fun c hc=>by simpa using List.all_eq_true.1 h3 c hc),h2]
theorem results_tmp_cell {fn:Func} {p u:Tmp} {ty:TypeId} (h:fn.results = #[.tmp u,.cell p ty]) (tmps:Array Value) (P:Program) (w:World) :
  (results fn tmps).run P w =
   ((asAddr (tmps.getD p undef)).run P w).andThen fun a w₁=>((loadVar ty a).run P w₁).andThen fun v w₂=>.ok (.tuple #[tmps.getD u undef,v]) w₂:=by
 simp only [results,h];simp [Sem.run_bind,Result.andThen]
theorem ret_2 {fn:Func} {p q:Tmp} {T:TypeId} (h:fn.results = #[.tmp q,.cell p T]) {R:Ending -> World -> Prop} {a:Act} {w:World} {g:Nat} {l:List Value} {x:Value} {fs:_}
  (hu:Tryz.prog.underlying T = some (.struct fs)) (hi:(Tryz.prog.info? T).map (·.size) = some l.length)
  (hp:a.tmps.getD p undef = .pointer (some ⟨g,0,none⟩)) (hx:a.tmps.getD q undef = x) (hg:Bk w g T l) (hd:a.defers = []) (hR:R (.returned (.tuple #[x,.agg l.toArray])) w):bodyPost Tryz.prog fn R .ret a w:=by
 refine bodyPost_ret (v:=.tuple #[x,.agg l.toArray]) ?_ hd hR;rw [results_tmp_cell h,hp,hx];simp [asAddr,Result.andThen,run_loadVar_row w g T T l.toArray (0,0) _ hg hu rfl (by rw [hi];simp)]
def RL (w:World) (v:Value) (r:Lm.Rec) (X:Pt.Pat):Prop:=∃ a b c d,v = lV r X a b c d /\ Ro.LL w X a b c d
theorem row_same (u:World) (b:Nat) (cs:Array Value):Same b u (u.setRow b cs):=⟨Nat.le_of_eq (by simp [World.setRow,World.putObj]),fun g hg _=>setRow_other u b g cs hg⟩
theorem LL_row {u:World} {b0:Nat} {X:Pt.Pat} {a b c d:Value} (hz:Bk u b0 31 zL) (h:Ro.LL u X a b c d) (cs:Array Value):Ro.LL (u.setRow b0 cs) X a b c d :=
 ⟨LstP_aside h.1 hz zL_sep (row_same _ _ _),LstP_aside h.2.1 hz zL_sep (row_same _ _ _),LstP_aside h.2.2.1 hz zL_sep (row_same _ _ _),LstP_aside h.2.2.2 hz zL_sep (row_same _ _ _)⟩
def Src (r:Lm.Rec) (X:Pt.Pat):Prop:=IsMk r X \/ ∃ i,i < 40 /\ r = Fm.T i /\ X = Fm.P (Fm.nP i)
theorem locale_src (g0 g1 g2 g3 g4 g5 n:Int) (w:World) (h0:-9223372036854775808 <= g0 /\ g0 <= 9223372036854775807) (h1:-9223372036854775808 <= g1 /\ g1 <= 9223372036854775807) (h2:-9223372036854775808 <= g2 /\ g2 <= 9223372036854775807) (h3:-9223372036854775808 <= g3 /\ g3 <= 9223372036854775807) (h4:-9223372036854775808 <= g4 /\ g4 <= 9223372036854775807) (h5:-9223372036854775808 <= g5 /\ g5 <= 9223372036854775807) (hn:-9223372036854775808 <= n /\ n <= 9223372036854775807) :
  Calls Tryz.prog 25 #[.agg #[.int .i64 g0,.int .i64 g1,.int .i64 g2,.int .i64 g3,.int .i64 g4,.int .i64 g5],.int .i64 n] w fun e w'=>∃ v r X,e = .returned v /\ LOk r X /\ Src r X /\ (∀ u,Calls Tryz.prog 26 #[recV r] u fun e w'=>∃ g a b c d cl,e = .returned (.tuple #[.pointer (some ⟨g,0,none⟩),Value.nilIface]) /\ LB w' g r X a b c d cl /\ SLst w' cl (Lm.clus r X) /\ Q u w') /\ RL w' v r X /\ Q w w':=by
 have HGO:=Hd (fun u=>good_any g0 g1 g2 g3 g4 g5 u h0 h1 h2 h3 h4 h5);have HA:=Hd (fun u=>Ur.around_any n 1048576 u hn.1 hn.2 (by omega) (by omega));have hab:=around_bd n 1048576 (by omega);generalize around n 1048576 = m at *;obtain ⟨y,hy⟩:∃ z,z = w.alloc (.cells #[.int .i64 g0,.int .i64 g1,.int .i64 g2,.int .i64 g3,.int .i64 g4,.int .i64 g5] 23):=⟨_,rfl⟩;have hqy:Q w y:=by rw [hy];exact (Q.refl w).alloc _
 have hgy:Bk y w.heap.size 23 [.int .i64 g0,.int .i64 g1,.int .i64 g2,.int .i64 g3,.int .i64 g4,.int .i64 g5]:=by rw [hy];exact Bk.new _ _ _
 obtain ⟨z,hz⟩:∃ z,z = y.alloc (.cells #[.string ⟨#[]⟩,.string ⟨#[]⟩,.string ⟨#[]⟩,.string ⟨#[]⟩,.string ⟨#[]⟩,.string ⟨#[]⟩,.string ⟨#[]⟩,.string ⟨#[]⟩,.slice none 0 0,.slice none 0 0,.slice none 0 0,.slice none 0 0,.int .i64 0,.int .i64 0,.int .i64 0,.int .i64 0,.int .i64 0] 31):=⟨_,rfl⟩;have hqz:Q y z:=by rw [hz];exact (Q.refl y).alloc _
 have HQZ:=Hd (hqy.trans hqz);have HGZ:=Hd (hgy.q hqz);have hsy:y.heap.size = w.heap.size + 1:=by rw [hy];simp
 have hlz:Bk z y.heap.size 31 zL:=by rw [hz];exact Bk.new _ _ _
 rw [hsy] at hlz;have HLZ:=Hd hlz;have hz2:z = (w.alloc (.cells #[.int .i64 g0,.int .i64 g1,.int .i64 g2,.int .i64 g3,.int .i64 g4,.int .i64 g5] 23)).alloc (.cells #[.string ⟨#[]⟩,.string ⟨#[]⟩,.string ⟨#[]⟩,.string ⟨#[]⟩,.string ⟨#[]⟩,.string ⟨#[]⟩,.string ⟨#[]⟩,.string ⟨#[]⟩,.slice none 0 0,.slice none 0 0,.slice none 0 0,.slice none 0 0,.int .i64 0,.int .i64 0,.int .i64 0,.int .i64 0,.int .i64 0] 31):=by rw [hz,hy]
 clear hqy hgy hqz hsy hlz hz hy h0 h1 h2 h3 h4 h5;by_cases h3:n.tmod 3 = 0
 ·have h3b:(n.tmod 3 == 0) = true:=by simpa using h3
  go_enter Tryz.func25,Tryz.ntmps25
  go_upto_region 1 with fail
  rw [<- hz2];clear hz2;have cg0:=HGZ.out.cell 0 rfl;have cg1:=HGZ.out.cell 1 rfl;have cg2:=HGZ.out.cell 2 rfl;have cg3:=HGZ.out.cell 3 rfl;have cg4:=HGZ.out.cell 4 rfl;have cg5:=HGZ.out.cell 5 rfl;go_wp2_with fail
  clear cg0 cg1 cg2 cg3 cg4 cg5;refine (HGO.out _).mono ?_;rintro e w1 ⟨r,rfl,⟨X,hI⟩,hq1⟩;have HI:=Hd hI;have HQ1:=Hd (HQZ.out.trans hq1);have HL1:=Hd (HLZ.out.q hq1);clear hq1 hI;go_wp2_with fail
  refine (rnew_mk HI.out _).mono ?_;rintro e w2 ⟨a,b,c,d,rfl,hl2,hq2⟩;have HLL:=Hd hl2;have HQ2:=Hd (HQ1.out.trans hq2);have HL2:=Hd (HL1.out.q hq2);obtain ⟨a1,a2,rfl⟩:=hl2.1.shape;obtain ⟨b1,b2,rfl⟩:=hl2.2.1.shape;obtain ⟨c1,c2,rfl⟩:=hl2.2.2.1.shape;obtain ⟨d1,d2,rfl⟩:=hl2.2.2.2.shape;clear hl2 hq2;go_wp2_with (refine wpList_store_row (by rfl) 31 _ _ (by rfl) (w.heap.size + 1) (lC r X (.slice a1 X.pre.length a2) (.slice b1 X.suf.length b2) (.slice c1 X.npre.length c2) (.slice d1 X.nsuf.length d2)).toArray (by rfl) (by rfl) 31 _ HL2.out (by exact infoL) rfl (Rw.all1 (by rfl)) ?_)
  exact ret_bk (l:=lC r X (.slice a1 X.pre.length a2) (.slice b1 X.suf.length b2) (.slice c1 X.npre.length c2) (.slice d1 X.nsuf.length d2)) rfl Tryz.underlying31 (by exact infoL) rfl (Rw.Bk_row HL2.out _) rfl ⟨_,r,X,rfl,lok_mk HI.out,.inl HI.out,new_mk HI.out,⟨_,_,_,_,rfl,LL_row HL2.out HLL.out _⟩,Rw.Q_row HQ2.out (Nat.le_succ _) _⟩
 ·have h3b:(n.tmod 3 == 0) = false:=by rw [beq_eq_false_iff_ne];exact h3
  have HON:=Hd (fun q u (a:-9223372036854775808 <= q) (b:q <= 9223372036854775807)=>Fr.one_any q u a b);have HOB:=Hd (fun q=>around_bd q 40 (by omega));go_enter Tryz.func25,Tryz.ntmps25
  go_upto_region 1 with fail
  rw [<- hz2];clear hz2;go_wp2_with fail
  refine (HA.out _).mono ?_;rintro e wa ⟨rfl,rfl⟩;go_wp2_with fail
  refine (HON.out _ _ (by omega) (by omega)).mono ?_;rintro e w1 ⟨rfl,hq1⟩;obtain ⟨k,hk⟩:∃ k,k = (around (m / 3) 40).toNat:=⟨_,rfl⟩;rw [<- hk];have hk40:k < 40:=by have:=HOB.out (m / 3);omega
  clear hk;have HKL:=Hd (lok_forty hk40);have HKN:=Hd (fun u=>Ft.new_forty k hk40 u);have HSR:=Hd (show Src (Fm.T k) (Fm.P (Fm.nP k)) from .inr ⟨k,hk40,rfl,rfl⟩);have HKR:=Hd (fun u=>Ro.new_any (Fm.T k) (Fm.P (Fm.nP k)) u (pat_forty hk40) (pat_len k hk40));have HQ1:=Hd (HQZ.out.trans hq1);have HL1:=Hd (HLZ.out.q hq1);clear hq1 hk40;generalize Fm.T k = r at *;generalize Fm.P (Fm.nP k) = X at *;go_wp2_with fail
  refine (HKR.out _).mono ?_;rintro e w2 ⟨a,b,c,d,rfl,hl2,hq2⟩;have HLL:=Hd hl2;have HQ2:=Hd (HQ1.out.trans hq2);have HL2:=Hd (HL1.out.q hq2);obtain ⟨a1,a2,rfl⟩:=hl2.1.shape;obtain ⟨b1,b2,rfl⟩:=hl2.2.1.shape;obtain ⟨c1,c2,rfl⟩:=hl2.2.2.1.shape;obtain ⟨d1,d2,rfl⟩:=hl2.2.2.2.shape;clear hl2 hq2;go_wp2_with (refine wpList_store_row (by rfl) 31 _ _ (by rfl) (w.heap.size + 1) (lC r X (.slice a1 X.pre.length a2) (.slice b1 X.suf.length b2) (.slice c1 X.npre.length c2) (.slice d1 X.nsuf.length d2)).toArray (by rfl) (by rfl) 31 _ HL2.out (by exact infoL) rfl (Rw.all1 (by rfl)) ?_)
  exact ret_bk (l:=lC r X (.slice a1 X.pre.length a2) (.slice b1 X.suf.length b2) (.slice c1 X.npre.length c2) (.slice d1 X.nsuf.length d2)) rfl Tryz.underlying31 (by exact infoL) rfl (Rw.Bk_row HL2.out _) rfl ⟨_,r,X,rfl,HKL.out,HSR.out,HKN.out,⟨_,_,_,_,rfl,LL_row HL2.out HLL.out _⟩,Rw.Q_row HQ2.out (Nat.le_succ _) _⟩
end It
end
section
open Go.RowKit
namespace Ro
open Um Cm Gm Lo
theorem dgt_enc {r:Lm.Rec} (h:0 <= Sm.nz r.sys) (k:Nat) (hk:k < 10):Lm.dgt r k = encB (Sm.nz r.sys + k):=by
 unfold Lm.dgt Sm.dgS;rw [if_neg (by omega),if_pos (by omega)]
theorem syms_at (r:Lm.Rec) (k:Nat) (hk:k < 10):(Lm.syms r)[k]? = some (Lm.dgt r k):=by
 match k,hk with
 | 0,_=>rfl
 | 1,_=>rfl
 | 2,_=>rfl
 | 3,_=>rfl
 | 4,_=>rfl
 | 5,_=>rfl
 | 6,_=>rfl
 | 7,_=>rfl
 | 8,_=>rfl
 | 9,_=>rfl
theorem plc_drop (r:Lm.Rec) (x:ByteArray) (k:Nat) (hk:k < 10):Lm.plc x ((Lm.syms r).drop k) k = if x = Lm.dgt r k then (k:Int) else Lm.plc x ((Lm.syms r).drop (k + 1)) (k + 1):=by
 obtain ⟨hl,e⟩:=List.getElem?_eq_some_iff.1 (syms_at r k hk);rw [List.drop_eq_getElem_cons hl,e];rfl
theorem sgn_end {r:Lm.Rec} {X:Pt.Pat} (hO:Lm.Ok r X) (x:ByteArray) (h:Lm.sgn r x = if x.size = 0 then -1 else Lm.plc x ((Lm.syms r).drop 10) 10) :
  Lm.sgn r x = if x = Lm.bs r.dec then 10 else if 0 < X.pr /\ x = Lm.bs r.grp then 11 else if x = Lm.bs r.min then 12 else -1:=by
 have hd:(Lm.syms r).drop 10 = [Lm.bs r.dec,Lm.bs r.grp,Lm.bs r.min]:=rfl;have n10:=hO.ne 10 (Lm.bs r.dec) rfl (by omega);have n12:=hO.ne 12 (Lm.bs r.min) rfl (by omega);rw [h,hd];by_cases hz:x.size = 0
 ·rw [if_pos hz,if_neg (fun e=>by rw [e] at hz;omega)]
  have hg:¬ (0 < X.pr /\ x = Lm.bs r.grp):=fun ⟨hp,e⟩=>by
   have h2:=hO.grp1 hp;unfold Lm.symB at h2;rw [Bool.and_eq_true] at h2;have h3:=h2.2;rw [e,Lm.bs_size] at hz;have h4:r.grp = []:=List.eq_nil_of_length_eq_zero hz;rw [h4] at h3;simp [oneB] at h3
  rw [if_neg hg,if_neg (fun e=>by rw [e] at hz;omega)]
 ·rw [if_neg hz]
  unfold Lm.plc;by_cases h1:x = Lm.bs r.dec
  ·rw [if_pos h1,if_pos h1];rfl
  ·rw [if_neg h1,if_neg h1]
   unfold Lm.plc;by_cases h2:x = Lm.bs r.grp
   ·have hp:0 < X.pr:=by
     rcases Int.lt_or_le 0 X.pr with h3 | h3
     ·exact h3
     ·have h4:=hO.grp0 (by omega)
      rw [h2,Lm.bs_size,h4] at hz;exact absurd rfl hz
    rw [if_pos h2,if_pos ⟨hp,h2⟩];rfl
   ·rw [if_neg h2,if_neg (fun h=>h2 h.2)]
    unfold Lm.plc;by_cases h3:x = Lm.bs r.min
    ·rw [if_pos h3,if_pos h3];rfl
    ·rw [if_neg h3,if_neg h3];rfl
theorem rsign_any (r:Lm.Rec) (X:Pt.Pat) (a b c d:Value) (x:ByteArray) (w:World) (hO:Lm.Ok r X) (hL:LL w X a b c d) :
  Calls Tryz.prog 34 #[lV r X a b c d,.string x] w fun e w'=>e = .returned (.int .i64 (Lm.sgn r x)) /\ Q w w':=by
 have HD:=Hd (fun (k:Nat) (hk:k < 10) u=>(show Calls Tryz.prog 68 #[.string (Lm.bs r.sys),.int .i64 (k:Int)] u fun e w'=>e = .returned (.string (Lm.dgt r k)) /\ Q u w' by
  have h:=Sr.digit_any (Lm.bs r.sys) (k:Int) u (by omega) (by omega);rw [Lm.bs_list] at h;rw [dgt_enc hO.sys k hk];exact h))
 have HNE:=Hd (fun (k:Nat) (hk:k < 10)=>hO.ne k (Lm.dgt r k) (syms_at r k hk) (by omega));have HST:=Hd (fun (k:Nat) (hk:k < 10)=>plc_drop r x k hk);have HEN:=Hd (sgn_end hO x);have HZ:=Hd (show Lm.sgn r x = if x.size = 0 then -1 else Lm.plc x ((Lm.syms r).drop 0) 0 from rfl)
 obtain ⟨R,hR⟩:∃ R,R = Lm.sgn r x:=⟨_,rfl⟩;rw [<- hR] at HEN HZ |-;obtain ⟨a1,a2,rfl⟩:=hL.1.shape;obtain ⟨b1,b2,rfl⟩:=hL.2.1.shape;obtain ⟨c1,c2,rfl⟩:=hL.2.2.1.shape;obtain ⟨d1,d2,rfl⟩:=hL.2.2.2.shape;generalize X.pre.length = n1 at *;generalize X.suf.length = n2 at *;generalize X.npre.length = n3 at *;generalize X.nsuf.length = n4 at *;unfold lV;generalize X.pr = pr at *;generalize Lm.bs r.nam = s0 at *;generalize Lm.bs r.pat = s1 at *;generalize Lm.bs r.sys = s2 at *;generalize Lm.bs r.dec = s3 at *;generalize Lm.bs r.grp = s4 at *;generalize Lm.bs r.min = s5 at *;generalize Lm.bs r.per = s6 at *;generalize Lm.bs r.cur = s7 at *;generalize Lm.dgt r = DG at *;generalize Lm.syms r = SY at *;clear hO hL hR;obtain ⟨z,hz⟩:∃ z,z = w.alloc (.cells #[.string s0,.string s1,.string s2,.string s3,.string s4,.string s5,.string s6,.string s7,.slice a1 n1 a2,.slice b1 n2 b2,.slice c1 n3 c2,.slice d1 n4 d2,.int .i64 pr,.int .i64 X.se,.int .i64 X.mi,.int .i64 X.mf,.int .i64 X.xf] 31):=⟨_,rfl⟩;have HQZ:=Hd (show Q w z by rw [hz];exact (Q.refl w).alloc _);have HBZ:=Hd (show Bk z w.heap.size 31 [.string s0,.string s1,.string s2,.string s3,.string s4,.string s5,.string s6,.string s7,.slice a1 n1 a2,.slice b1 n2 b2,.slice c1 n3 c2,.slice d1 n4 d2,.int .i64 pr,.int .i64 X.se,.int .i64 X.mi,.int .i64 X.mf,.int .i64 X.xf] by rw [hz];exact Bk.new _ _ _);go_enter Tryz.func34,Tryz.ntmps34
 go_wp2_with fail
 rw [<- hz];clear hz;generalize w.heap.size = bz at *;go_loopw [5] (fun i wr=>∃ k:Nat,i = .int .i64 k /\ k <= 10 /\ Hid (R = if x.size = 0 then -1 else Lm.plc x (SY.drop k) k) /\ Q z wr) (fun i _=>10 - (intOf i).toNat)
 case atStart=>exact ⟨0,rfl,by omega,HZ,Q.refl _⟩
 case round =>
  obtain ⟨k,rfl,hk,HK,hq⟩:=hrel;by_cases hlt:k < 10
  ·have hlti:(k:Int) < 10:=by omega
   have c2:=(HBZ.out.q hq).cell 2 rfl;have hne:=HNE.out k hlt;have hst:=HST.out k hlt;have hdd:=HD.out k hlt;generalize DG k = D at *;by_cases hx:x = D
   ·have HF:=Hd (show R = k by rw [HK.out,if_neg (by rw [hx];omega),hst,if_pos hx])
    have hb:(D.toList == x.toList) = true:=by rw [hx];simp
    have HDD:=Hd hdd;clear hx hne hst hdd;go_wp2_with fail
    refine (HDD.out _).mono ?_;rintro e w1 ⟨rfl,hq1⟩;go_wp2_with fail
    go_ret
    rw [HF.out];exact ⟨rfl,HQZ.out.trans (hq.trans hq1)⟩
   ·have HF:=Hd (show R = if x.size = 0 then -1 else Lm.plc x (SY.drop (k + 1)) (k + 1) by rw [HK.out,hst,if_neg hx])
    have hb:(D.toList == x.toList) = false:=str_ne (fun e=>hx e.symm);have HDD:=Hd hdd;clear hx hne hst hdd;go_wp2_with fail
    refine (HDD.out _).mono ?_;rintro e w1 ⟨rfl,hq1⟩;go_wp2_with fail
    exact ⟨⟨k + 1,by go_num,by omega,HF,hq.trans hq1⟩,by simp [intOf];omega⟩
  ·have hnlt:¬ (k:Int) < 10:=by omega
   obtain rfl:k = 10:=by omega
   have hen:=HEN.out HK.out;have hbz:=HBZ.out.q hq;have c3:=hbz.cell 3 rfl;have c4:=hbz.cell 4 rfl;have c5:=hbz.cell 5 rfl;have c12:=hbz.cell 12 rfl;have HQ:=Hd (HQZ.out.trans hq);clear hbz hq;by_cases h1:x = s3
   ·have HF:=Hd (show R = 10 by rw [hen,if_pos h1])
    have hb:(x.toList == s3.toList) = true:=by rw [h1];simp
    clear h1 hen;go_wp2_with fail
    go_ret
    rw [HF.out];exact ⟨rfl,HQ.out⟩
   ·have hb:=str_ne h1
    by_cases h2:0 < pr
    ·by_cases h3:x = s4
     ·have HF:=Hd (show R = 11 by rw [hen,if_neg h1,if_pos ⟨h2,h3⟩])
      have hb2:(x.toList == s4.toList) = true:=by rw [h3];simp
      clear h1 h3 hen;go_wp2_with fail
      go_ret
      rw [HF.out];exact ⟨rfl,HQ.out⟩
     ·have hb2:=str_ne h3
      by_cases h4:x = s5
      ·have HF:=Hd (show R = 12 by rw [hen,if_neg h1,if_neg (fun h=>h3 h.2),if_pos h4])
       have hb3:(x.toList == s5.toList) = true:=by rw [h4];simp
       clear h1 h3 h4 hen;go_wp2_with fail
       go_ret
       rw [HF.out];exact ⟨rfl,HQ.out⟩
      ·have HF:=Hd (show R = -1 by rw [hen,if_neg h1,if_neg (fun h=>h3 h.2),if_neg h4])
       have hb3:=str_ne h4;clear h1 h3 h4 hen;go_wp2_with fail
       go_ret
       rw [HF.out];exact ⟨rfl,HQ.out⟩
    ·by_cases h4:x = s5
     ·have HF:=Hd (show R = 12 by rw [hen,if_neg h1,if_neg (fun h=>h2 h.1),if_pos h4])
      have hb3:(x.toList == s5.toList) = true:=by rw [h4];simp
      clear h1 h4 hen;go_wp2_with fail
      go_ret
      rw [HF.out];exact ⟨rfl,HQ.out⟩
     ·have HF:=Hd (show R = -1 by rw [hen,if_neg h1,if_neg (fun h=>h2 h.1),if_neg h4])
      have hb3:=str_ne h4;clear h1 h4 hen;go_wp2_with fail
      go_ret
      rw [HF.out];exact ⟨rfl,HQ.out⟩
end Ro
end
section
open Go.RowKit
namespace Ro
open Um Cm Gm Lo
theorem mPl_in (A:List Pc.E):∀ k:Nat,0 <= mPl A k ↔ ((3,[]):Pc.E) ∈ A:=by
 induction A with
 | nil=>intro k;exact ⟨fun h=>absurd h (by decide:¬ (0:Int) <= -1),fun h=>absurd h List.not_mem_nil⟩
 | cons p r ih =>
  intro k;unfold mPl;by_cases h:p = (3,[])
  ·rw [if_pos h]
   exact ⟨fun _=>by rw [h];exact List.mem_cons_self,fun _=>by omega⟩
  ·rw [if_neg h,ih]
   exact ⟨fun k=>List.mem_cons_of_mem _ k,fun k=>(List.mem_cons.1 k).resolve_left (fun e=>h e.symm)⟩
def sgs (l:List Pb.E):Nat:=l.countP fun e=>e.1
theorem parP_fact (r:Lm.Rec) (A:List Pc.E) (h1:Lm.cnt 3 A <= 1) (h3:∀ x ∈ A,x.1 = 3 -> x.2 = []):(∀ e ∈ parP r A,e.1 = e.2.isEmpty) /\ sgs (parP r A) = Lm.cnt 3 A /\ (parP r A).length <= 3:=by
 refine ⟨fun e he=>?_,?_,?_⟩
 ·unfold parP at he
  split at he
  ·obtain ⟨hm,hk⟩:=List.mem_filter.1 he
   simp only [List.mem_cons,List.not_mem_nil,or_false] at hm;subst hm;unfold keepP at hk;simpa using hk
  ·obtain ⟨hm,hk⟩:=List.mem_filter.1 he
   simp only [List.mem_cons,List.not_mem_nil,or_false] at hm;rcases hm with rfl | rfl | rfl
   ·unfold keepP at hk
    simpa using hk
   ·rfl
   ·unfold keepP at hk
    simpa using hk
 ·unfold parP
  split
  ·rename_i hneg
   have h0:Lm.cnt 3 A = 0:=by
    unfold Lm.cnt;rw [List.countP_eq_zero];intro x hx e;have e1:x.1 = 3:=by simpa using e
    have:((3,[]):Pc.E) ∈ A:=by
     have e2:=h3 x hx e1;have:x = (3,[]):=Prod.ext e1 e2;exact this ▸ hx
    have:=(mPl_in A 0).2 this;omega
   rw [h0];unfold sgs;rw [List.countP_eq_zero];intro x hx;obtain ⟨hm,_⟩:=List.mem_filter.1 hx;simp only [List.mem_cons,List.not_mem_nil,or_false] at hm;subst hm;simp
  ·rename_i hneg
   have hm:=(mPl_in A 0).1 (by omega);have h0:Lm.cnt 3 A = 1:=by
    have:0 < Lm.cnt 3 A:=by
     unfold Lm.cnt;rw [List.countP_pos_iff];exact ⟨_,hm,by rfl⟩
    omega
   rw [h0];unfold sgs;rw [List.countP_filter];simp [List.countP_cons,keepP]
 ·unfold parP
  split
  ·exact Nat.le_trans (List.length_filter_le _ _) (by simp)
  ·exact Nat.le_trans (List.length_filter_le _ _) (by simp)
theorem sgs_app (a b:List Pb.E):sgs (a ++ b) = sgs a + sgs b:=by unfold sgs;exact List.countP_append ..
def ahd (neg:Bool) (X:Pt.Pat):List Pc.E:=if neg = true then X.npre else X.pre
def bhd (neg:Bool) (X:Pt.Pat):List Pc.E:=if neg = true then X.nsuf else X.suf
theorem around_fact {r:Lm.Rec} {X:Pt.Pat} (hO:Lm.Ok r X) (neg:Bool):(∀ e ∈ parP r (ahd neg X) ++ parP r (bhd neg X),e.1 = e.2.isEmpty) /\ sgs (parP r (ahd neg X) ++ parP r (bhd neg X)) = (if neg = true then 1 else 0) /\ (parP r (ahd neg X)).length <= 3 /\ (parP r (bhd neg X)).length <= 3:=by
 have hm1:ahd neg X ∈ Lm.affs X:=by cases neg <;> simp [ahd,Lm.affs]
 have hm2:bhd neg X ∈ Lm.affs X:=by cases neg <;> simp [bhd,Lm.affs]
 have f1:=parP_fact r (ahd neg X) (cnt_le r X _ hO hm1) (fun x hx h=>((hO.aff _ hm1).2 x hx).2.2.2 (by omega));have f2:=parP_fact r (bhd neg X) (cnt_le r X _ hO hm2) (fun x hx h=>((hO.aff _ hm2).2 x hx).2.2.2 (by omega));refine ⟨fun e he=>?_,?_,f1.2.2,f2.2.2⟩
 ·rcases List.mem_append.1 he with h | h
  ·exact f1.1 e h
  ·exact f2.1 e h
 ·rw [sgs_app,f1.2.1,f2.2.1]
  have:=hO.sg;cases neg <;> simp [ahd,bhd] <;> omega
theorem raround_any (neg:Bool) (r:Lm.Rec) (X:Pt.Pat) (a b c d:Value) (w:World) (hO:Lm.Ok r X) (hL:LL w X a b c d) :
  Calls Tryz.prog 80 #[lV r X a b c d,.bool neg] w fun e w'=>∃ u v,e = .returned (.tuple #[u,v]) /\ Pb.LstP w' u (parP r (ahd neg X)) /\ Pb.LstP w' v (parP r (bhd neg X)) /\ Q w w':=by
 cases neg with
 | true=>exact raround_true r X a b c d w hO hL
 | false=>exact raround_false r X a b c d w hO hL
end Ro
end
end Go.Proofs.YteggfkbnnmpcjaaGreatDoor
