/- Both together, and one less the other one: the program's and the document's own are one, whatever the arguments; what is added is taken away again. -/
import Derived.Test.YtilbefdeanhnpaaRows
import Derived.Test.YtilbefdeanhnpaaDigL
import Derived.Test.YtilbefdeanhnpaaDecM
import Derived.Test.YtilbefdeanhnpaaInts
import Derived.Test.YtilbefdeanhnpaaSto
import Derived.Test.YtilbefdeanhnpaaStoB
import Derived.Test.YtilbefdeanhnpaaDigW
import Derived.Test.YtilbefdeanhnpaaDigV
import Derived.Test.YtilbefdeanhnpaaDigX
import Derived.Test.YtilbefdeanhnpaaDigQ
import Derived.Test.YtilbefdeanhnpaaDecR
import Derived.Test.YtilbefdeanhnpaaDecS
import Derived.Test.YtilbefdeanhnpaaDecC
import Derived.Test.YtilbefdeanhnpaaDecP
import Derived.Test.YtilbefdeanhnpaaDecQ
import Derived.Test.YtilbefdeanhnpaaDecE
import Derived.Test.YtilbefdeanhnpaaDecF
import Derived.Test.YtilbefdeanhnpaaDecH
import Derived.Test.YtilbefdeanhnpaaDecJ
import Derived.Test.YtilbefdeanhnpaaDecK
import Derived.Test.YtilbefdeanhnpaaDecA
import Derived.Test.YtilbefdeanhnpaaDecB
import Derived.Test.YtilbefdeanhnpaaDecI
import Derived.Test.YtilbefdeanhnpaaDecZ
import Derived.Test.YtilbefdeanhnpaaDecX
import Derived.Test.YtilbefdeanhnpaaDecY
import Derived.Test.YtilbefdeanhnpaaDecAB
import Derived.Deep.CutRange
import Derived.Deep.CutBlock
import Derived.Deep.DeepCutAuto
import Derived.Deep.QuietTactic
import Derived.Deep.RegionWith
import Derived.Deep.RegionHeld3
import Derived.BigQuiet
import Derived.Laws.ResultCell
set_option linter.unusedVariables false
set_option linter.unusedSimpArgs false
namespace Go.Proofs.Ytilbefdeanhnpaa
open Go.RowKit
namespace Ep
open Er (dv cellV LF LF.of LF.nil LF.mono LF.q LF.put LF.shape LF.lst block_cells some_cells block_set wrapI num_shl okD_shl)
theorem ad_sv (g : Bool) (X : Nat) (h : Bool) (Y : Nat) : sv (Dm.adG g X h Y) (Dm.adM g X h Y) = sv g X + sv h Y := by
  unfold sv Dm.adG Dm.adM
  by_cases h0 : X < Y <;> cases g <;> cases h <;> simp [h0] <;> omega
theorem sv_cg (g : Bool) (M : Nat) : sv (Dm.cg g M) M = sv g M := by
  unfold sv Dm.cg
  by_cases h0 : M = 0
  · subst h0; cases g <;> rfl
  · rw [if_neg h0]
theorem sv_inj {g h : Bool} {M K : Nat} (e : sv g M = sv h K) : M = K ∧ Dm.cg g M = Dm.cg h K := by
  unfold sv at e
  by_cases h0 : M = 0
  · subst h0
    have : K = 0 := by cases g <;> cases h <;> simp at e <;> omega
    subst this
    exact ⟨rfl, rfl⟩
  · have hK : M = K ∧ g = h := by cases g <;> cases h <;> simp at e ⊢ <;> omega
    exact ⟨hK.1, by rw [hK.1, hK.2]⟩
theorem sv_not (g : Bool) (M : Nat) : sv (!g) M = - sv g M := by unfold sv; cases g <;> simp
/-- What is added is taken away again. -/
theorem back_eq (g h : Bool) (A B s t n m : Nat) (hn : n = max s t) (M sa : Nat) (G gr : Bool) (hG : G = Dm.adG g (A * 10 ^ (n - s)) h (B * 10 ^ (n - t))) (hM : M = Dm.adM g (A * 10 ^ (n - s)) h (B * 10 ^ (n - t))) (hgr : gr = Dm.cg G M) (hm : m = max (Dm.st M n).2 t) :
    Dm.st (Dm.adM gr ((Dm.st M n).1 * 10 ^ (m - (Dm.st M n).2)) (!h) (B * 10 ^ (m - t))) m = Dm.st A s ∧ Dm.cg (Dm.adG gr ((Dm.st M n).1 * 10 ^ (m - (Dm.st M n).2)) (!h) (B * 10 ^ (m - t))) (Dm.adM gr ((Dm.st M n).1 * 10 ^ (m - (Dm.st M n).2)) (!h) (B * 10 ^ (m - t))) = Dm.cg g A := by
  have h1 := Dm.st_le M n
  have h2 := Dm.st_num M n
  have e1 := ad_sv g (A * 10 ^ (n - s)) h (B * 10 ^ (n - t))
  rw [← hG, ← hM, ← sv_cg, ← hgr] at e1
  generalize (Dm.st M n).1 = C at *
  generalize (Dm.st M n).2 = c at *
  have e2 := ad_sv gr (C * 10 ^ (m - c)) (!h) (B * 10 ^ (m - t))
  generalize Dm.adG gr (C * 10 ^ (m - c)) (!h) (B * 10 ^ (m - t)) = G2 at *
  generalize Dm.adM gr (C * 10 ^ (m - c)) (!h) (B * 10 ^ (m - t)) = M2 at *
  have hmn : m ≤ n := by omega
  have p1 : C * 10 ^ (m - c) * 10 ^ (n - m) = M := by rw [Nat.mul_assoc, ← Nat.pow_add, show m - c + (n - m) = n - c from by omega, h2]
  have p2 : B * 10 ^ (m - t) * 10 ^ (n - m) = B * 10 ^ (n - t) := by rw [Nat.mul_assoc, ← Nat.pow_add, show m - t + (n - m) = n - t from by omega]
  have e3 : sv G2 (M2 * 10 ^ (n - m)) = sv g (A * 10 ^ (n - s)) := by
    rw [← sv_mul, e2, Int.add_mul, sv_mul, sv_mul, p1, p2, e1, sv_not]
    omega
  obtain ⟨e4, e5⟩ := sv_inj e3
  have hA : Dm.cg g (A * 10 ^ (n - s)) = Dm.cg g A := by
    unfold Dm.cg
    have hp : 0 < 10 ^ (n - s) := Nat.pow_pos (by omega)
    by_cases h0 : A = 0
    · subst h0; rw [Nat.zero_mul]
    · rw [if_neg h0, if_neg (by have := Nat.mul_pos (Nat.pos_of_ne_zero h0) hp; omega)]
  have hB : Dm.cg G2 (M2 * 10 ^ (n - m)) = Dm.cg G2 M2 := by
    unfold Dm.cg
    have hp : 0 < 10 ^ (n - m) := Nat.pow_pos (by omega)
    by_cases h0 : M2 = 0
    · subst h0; rw [Nat.zero_mul]
    · rw [if_neg h0, if_neg (by have := Nat.mul_pos (Nat.pos_of_ne_zero h0) hp; omega)]
  refine ⟨?_, by rw [← hB, e5, hA]⟩
  have f1 := Dm.st_tens M2 m (n - m)
  have f2 := Dm.st_tens A s (n - s)
  rw [show m + (n - m) = n from by omega] at f1
  rw [show s + (n - s) = n from by omega] at f2
  rw [← f1, e4, f2]
/-- What a call on one decimal comes to, a decimal alone, its list in a block of the call's own. -/
def F0 (f : FuncId) (g : Bool) (s : Int) (L : List Int) (gr : Bool) (Z : List Int) (sr : Int) : Prop :=
  ∀ u v, Lst u v L → Calls Try.prog f #[.agg #[.bool g, v, .int .i64 s]] u fun e w' => ∃ a c, e = .returned (.agg #[.bool gr, .slice a Z.length c, .int .i64 sr]) ∧ LF w' u.heap.size (.slice a Z.length c) Z ∧ Q u w'
theorem ad_len (g h : Bool) (s t n : Nat) (L N : List Int) (hx : Dm.okD L) (hy : Dm.okD N) (hl : L.length < 2000) (hl2 : N.length < 2000) (hn : n ≤ 1000) : (Dm.dg (Dm.st (Dm.adM g (Dm.num L * 10 ^ (n - s)) h (Dm.num N * 10 ^ (n - t))) n).1).length < 9000 := by
  have a := Dm.num_lt L hx
  have b := Dm.num_lt N hy
  have c := Dm.ad_le g (Dm.num L * 10 ^ (n - s)) h (Dm.num N * 10 ^ (n - t))
  generalize Dm.adM g (Dm.num L * 10 ^ (n - s)) h (Dm.num N * 10 ^ (n - t)) = M at *
  have one : ∀ (K : List Int) (r : Nat), Dm.num K < 10 ^ K.length → K.length < 2000 → Dm.num K * 10 ^ (n - r) < 10 ^ 3000 := by
    intro K r h1 h2
    have e0 : 0 < 10 ^ (n - r) := Nat.pow_pos (by omega)
    calc Dm.num K * 10 ^ (n - r) < 10 ^ K.length * 10 ^ (n - r) := Nat.mul_lt_mul_of_pos_right h1 e0
      _ = 10 ^ (K.length + (n - r)) := (Nat.pow_add _ _ _).symm
      _ ≤ 10 ^ 3000 := Nat.pow_le_pow_right (by omega) (by omega)
  obtain ⟨k, hk⟩ : ∃ k, k = 3000 := ⟨_, rfl⟩
  rw [← hk] at one
  have d1 := one L s a hl
  have d2 := one N t b hl2
  have hM : M < 10 ^ (k + 1) := by rw [Nat.pow_succ]; omega
  have hs := Dm.st_num M n
  have hp : 0 < 10 ^ (n - (Dm.st M n).2) := Nat.pow_pos (by omega)
  have hle : (Dm.st M n).1 ≤ M := by
    calc (Dm.st M n).1 = (Dm.st M n).1 * 1 := by rw [Nat.mul_one]
      _ ≤ (Dm.st M n).1 * 10 ^ (n - (Dm.st M n).2) := Nat.mul_le_mul_left _ hp
      _ = M := hs
  have := Dm.dg_len_lt (Dm.st M n).1 (k + 1) (Nat.lt_of_le_of_lt hle hM)
  omega
/-- Of whatever two decimals the program's and the document's own Add are one, and so are the program's Sub and the document's own Add of the second one, its sign turned; what was added is taken away again. -/
theorem sums_both (g h nh : Bool) (hnh : (!h) = nh) (s t : Int) (L N : List Int) (hl : L.length < 100) (hl2 : N.length < 100) (hs : -9223372036854775808 ≤ s ∧ s ≤ 9223372036854775807) (ht : -9223372036854775808 ≤ t ∧ t ≤ 9223372036854775807) :
    ∃ ga Za sa gd Zd sd er, F2 32 g s L h t N ga Za sa er ∧ F2 33 g s L h t N ga Za sa er ∧ F2 34 g s L h t N gd Zd sd er ∧ F2 33 g s L nh t N gd Zd sd er ∧ Za.length < 9000 ∧ Zd.length < 9000 ∧
      (er ≠ 0 ∨ (er = 0 ∧ ∃ gb Zb sb, F2 34 ga sa Za h t N gb Zb sb 0 ∧ F0 29 g s L gb Zb sb ∧ Zb.length < 9000)) := by
  subst hnh
  by_cases hb : (Dm.okB L && decide (0 ≤ s) && decide (s ≤ 1000)) = false ∨ (Dm.okB N && decide (0 ≤ t) && decide (t ≤ 1000)) = false
  · exact ⟨false, [], 0, false, [], 0, 1, fun u v x hv hx => Calls.mono (add_bad g h v x s t L N u hv hx (by omega) (by omega) hs ht hb) fun _ _ h => fshut0 h, fun u v x hv hx => Calls.mono (Er.add_bad g h v x s t L N u hv hx (by omega) (by omega) hs ht hb) fun _ _ h => fshut0 h, fun u v x hv hx => Calls.mono (sub_bad g h v x s t L N u hv hx (by omega) (by omega) hs ht hb) fun _ _ h => fshut (by omega) h, fun u v x hv hx => Calls.mono (Er.add_bad g (!h) v x s t L N u hv hx (by omega) (by omega) hs ht hb) fun _ _ h => fshut0 h, by simp, by simp, .inl (by decide)⟩
  · simp only [not_or, Bool.not_eq_false, Bool.and_eq_true, decide_eq_true_eq] at hb
    obtain ⟨⟨⟨h1, h2⟩, h3⟩, ⟨h4, h5⟩, h6⟩ := hb
    have hd := (Dm.okB_iff L).1 h1
    have hd2 := (Dm.okB_iff N).1 h4
    obtain ⟨p, rfl⟩ : ∃ p : Nat, s = (p : Int) := ⟨s.toNat, by omega⟩
    obtain ⟨q, rfl⟩ : ∃ q : Nat, t = (q : Int) := ⟨t.toNat, by omega⟩
    have k1 := ad_len g h p q (max p q) L N hd hd2 (by omega) (by omega) (by omega)
    have k2 := ad_len g (!h) p q (max p q) L N hd hd2 (by omega) (by omega) (by omega)
    obtain ⟨M, hM⟩ : ∃ M, M = Dm.adM g (Dm.num L * 10 ^ (max p q - p)) h (Dm.num N * 10 ^ (max p q - q)) := ⟨_, rfl⟩
    obtain ⟨G, hG⟩ : ∃ G, G = Dm.adG g (Dm.num L * 10 ^ (max p q - p)) h (Dm.num N * 10 ^ (max p q - q)) := ⟨_, rfl⟩
    have hst := Dm.st_le M (max p q)
    have hbk := back_eq g h (Dm.num L) (Dm.num N) p q (max p q) (max (Dm.st M (max p q)).2 q) rfl M 0 G (Dm.cg G M) hG hM rfl rfl
    have f1 := fun u v x hv hx => add_any g h v x p q L N u hv hx (by omega) (by omega) hd hd2 (by omega) (by omega)
    have f2 := fun u v x hv hx => Er.add_any g h v x p q L N u hv hx (by omega) (by omega) hd hd2 (by omega) (by omega)
    rw [← hM, ← hG] at f1 f2
    rw [← hM] at k1
    refine ⟨Dm.cg G M, Dm.dg (Dm.st M (max p q)).1, ((Dm.st M (max p q)).2 : Nat), _, _, _, 0, fun u v x hv hx => Calls.mono (f1 u v x hv hx) fun _ _ h => fshut (by omega) h, fun u v x hv hx => Calls.mono (f2 u v x hv hx) fun _ _ h => fshut (by omega) h,
      fun u v x hv hx => Calls.mono (sub_any g h v x p q L N u hv hx (by omega) (by omega) hd hd2 (by omega) (by omega)) fun _ _ h => fshut (by omega) h, fun u v x hv hx => Calls.mono (Er.add_any g (!h) v x p q L N u hv hx (by omega) (by omega) hd hd2 (by omega) (by omega)) fun _ _ h => fshut (by omega) h, k1, k2, .inr ⟨rfl, ?_⟩⟩
    refine ⟨Dm.cg g (Dm.num L), Dm.dg (Dm.st (Dm.num L) p).1, ((Dm.st (Dm.num L) p).2 : Nat), fun u v x hv hx => ?_, fun u v hv => Calls.mono (Er.trim_any g v p L u hv (by omega) hd (by omega)) fun e w' h => ?_, ?_⟩
    · have e := sub_any (Dm.cg G M) h v x (Dm.st M (max p q)).2 q _ N u hv hx (by omega) (by omega) (Dm.okD_dg _) hd2 (by omega) (by omega)
      rw [Dm.num_dg, hbk.1, hbk.2] at e
      exact Calls.mono e fun _ _ h => fshut (by omega) h
    · obtain ⟨x, rfl, hx, hq⟩ := h
      obtain ⟨a, c, rfl⟩ := hx.shape
      exact ⟨a, c, rfl, hx.mono (by omega), hq⟩
    · have hs := Dm.st_num (Dm.num L) p
      have hp : 0 < 10 ^ (p - (Dm.st (Dm.num L) p).2) := Nat.pow_pos (by omega)
      have hle : (Dm.st (Dm.num L) p).1 ≤ Dm.num L := by
        calc (Dm.st (Dm.num L) p).1 = (Dm.st (Dm.num L) p).1 * 1 := by rw [Nat.mul_one]
          _ ≤ (Dm.st (Dm.num L) p).1 * 10 ^ (p - (Dm.st (Dm.num L) p).2) := Nat.mul_le_mul_left _ hp
          _ = Dm.num L := hs
      have c1 := Dm.dg_len_le _ _ hle
      have c2 := Dm.dg_len L hd
      omega
theorem minus_sh (u : World) (g ng : Bool) (hn : (!g) = ng) (a : Option Addr) (n c : Nat) (s : Int) : Calls Try.prog 35 #[.agg #[.bool g, .slice a n c, .int .i64 s]] u fun e w' => e = .returned (.agg #[.bool ng, .slice a n c, .int .i64 s]) ∧ Q u w' := by
  subst hn
  exact Er.minus_any g (.slice a n c) s u ⟨a, n, c, rfl⟩
/-- What stands while a round calls functions: the i-th decimals of two lists of them. -/
def SU (W : World) (X Y i : Nat) (g : Bool) (v : Value) (s : Int) (h : Bool) (x : Value) (t : Int) (u : World) : Prop := u.cell? ⟨X, i * 3, none⟩ = some (.bool g) ∧ (u.cell? ⟨X, i * 3 + 1, none⟩ = some v ∧ (u.cell? ⟨X, i * 3 + 2, none⟩ = some (.int .i64 s) ∧ (u.cell? ⟨Y, i * 3, none⟩ = some (.bool h) ∧ (u.cell? ⟨Y, i * 3 + 1, none⟩ = some x ∧ (u.cell? ⟨Y, i * 3 + 2, none⟩ = some (.int .i64 t) ∧ (Q W u))))))
theorem SU.here {W u : World} {X Y i : Nat} {g h : Bool} {v x : Value} {s t : Int} (k : SU W X Y i g v s h x t u) : Q W u := k.2.2.2.2.2.2
/-- .. and a decimal in a block of its own. -/
def SV (W : World) (X Y i : Nat) (g : Bool) (v : Value) (s : Int) (h : Bool) (x : Value) (t : Int) (b : Nat) (gb : Bool) (vb : Value) (sb : Int) (u : World) : Prop := u.cell? ⟨X, i * 3, none⟩ = some (.bool g) ∧ (u.cell? ⟨X, i * 3 + 1, none⟩ = some v ∧ (u.cell? ⟨X, i * 3 + 2, none⟩ = some (.int .i64 s) ∧ (u.cell? ⟨Y, i * 3, none⟩ = some (.bool h) ∧ (u.cell? ⟨Y, i * 3 + 1, none⟩ = some x ∧ (u.cell? ⟨Y, i * 3 + 2, none⟩ = some (.int .i64 t) ∧ (u.cell? ⟨b, 0, none⟩ = some (.bool gb) ∧ (u.cell? ⟨b, 1, none⟩ = some vb ∧ (u.cell? ⟨b, 2, none⟩ = some (.int .i64 sb) ∧ (Q W u)))))))))
theorem SV.here {W u : World} {X Y i b : Nat} {g h gb : Bool} {v x vb : Value} {s t sb : Int} (k : SV W X Y i g v s h x t b gb vb sb u) : Q W u := k.2.2.2.2.2.2.2.2.2
/-- .. the cells of 4 decimals. -/
def SB4 (W : World) (b1 : Nat) (g1 : Bool) (v1 : Value) (s1 : Int) (b2 : Nat) (g2 : Bool) (v2 : Value) (s2 : Int) (b3 : Nat) (g3 : Bool) (v3 : Value) (s3 : Int) (b4 : Nat) (g4 : Bool) (v4 : Value) (s4 : Int) (u : World) : Prop := u.cell? ⟨b1, 0, none⟩ = some (.bool g1) ∧ (u.cell? ⟨b1, 1, none⟩ = some v1 ∧ (u.cell? ⟨b1, 2, none⟩ = some (.int .i64 s1) ∧ (u.cell? ⟨b2, 0, none⟩ = some (.bool g2) ∧ (u.cell? ⟨b2, 1, none⟩ = some v2 ∧ (u.cell? ⟨b2, 2, none⟩ = some (.int .i64 s2) ∧ (u.cell? ⟨b3, 0, none⟩ = some (.bool g3) ∧ (u.cell? ⟨b3, 1, none⟩ = some v3 ∧ (u.cell? ⟨b3, 2, none⟩ = some (.int .i64 s3) ∧ (u.cell? ⟨b4, 0, none⟩ = some (.bool g4) ∧ (u.cell? ⟨b4, 1, none⟩ = some v4 ∧ (u.cell? ⟨b4, 2, none⟩ = some (.int .i64 s4) ∧ (Q W u))))))))))))
theorem SB4.here {W u : World} {b1 : Nat} {g1 : Bool} {v1 : Value} {s1 : Int} {b2 : Nat} {g2 : Bool} {v2 : Value} {s2 : Int} {b3 : Nat} {g3 : Bool} {v3 : Value} {s3 : Int} {b4 : Nat} {g4 : Bool} {v4 : Value} {s4 : Int} (k : SB4 W b1 g1 v1 s1 b2 g2 v2 s2 b3 g3 v3 s3 b4 g4 v4 s4 u) : Q W u := k.2.2.2.2.2.2.2.2.2.2.2.2
end Ep
end Go.Proofs.Ytilbefdeanhnpaa
