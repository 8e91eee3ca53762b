import PyProof.Rows.All
import Wide.All
import OpenK.AllK
import Wide.FinOn
import HandS.ForMost
import HandS.ForExc
import HandS.Wide
import HandS.IsInst
import HandS.More
import HandS.Conv
import HandS.Evl
import HandS.Gcd
import HandS.ExcIs
import HandS.Defaults
import HandS.ExcInit
import HandS.Style
import KE.RegKIsAll
import HandS.OwnEq
import PySem.Challenge.RW_dearestshelf_k04_ratio_order
set_option Elab.async false
set_option linter.all false
set_option maxRecDepth 100000
set_option maxHeartbeats 8000000
set_option exponentiation.threshold 10000
namespace K04
open PySem PySem.Spec PyProof.Rows L2
def top (i : Nat) : Stmt := PySem.Challenge.pw_dearestshelf_k04_ratio_order.main.body.getD i (.Pass ⟨0, 0, 0, 0⟩)
abbrev s_Ratio___init__ : Stmt := inClass (top 6) 0
theorem sc_Ratio___init__ : FnScope ["self", "top", "bottom", "divisor"] ["self", "top", "bottom"] (defScope s_Ratio___init__) := ⟨rfl, rfl, rfl, by decide +kernel, rfl, by decide +kernel, by decide +kernel⟩
abbrev s__as_ratio : Stmt := top 7
theorem sc__as_ratio : FnScope ["number"] ["number"] (defScope s__as_ratio) := ⟨rfl, rfl, rfl, by decide +kernel, rfl, by decide +kernel, by decide +kernel⟩
abbrev s__gap : Stmt := top 8
theorem sc__gap : FnScope ["ratio", "other", "subtrahend"] ["ratio", "other"] (defScope s__gap) := ⟨rfl, rfl, rfl, by decide +kernel, rfl, by decide +kernel, by decide +kernel⟩
abbrev s_Ratio___lt__ : Stmt := inClass (top 6) 16
theorem sc_Ratio___lt__ : FnScope ["self", "other"] ["self", "other"] (defScope s_Ratio___lt__) := ⟨rfl, rfl, rfl, by decide +kernel, rfl, by decide +kernel, by decide +kernel⟩
abbrev s_Ratio___le__ : Stmt := inClass (top 6) 17
theorem sc_Ratio___le__ : FnScope ["self", "other"] ["self", "other"] (defScope s_Ratio___le__) := ⟨rfl, rfl, rfl, by decide +kernel, rfl, by decide +kernel, by decide +kernel⟩
abbrev s_Ratio___gt__ : Stmt := inClass (top 6) 18
theorem sc_Ratio___gt__ : FnScope ["self", "other"] ["self", "other"] (defScope s_Ratio___gt__) := ⟨rfl, rfl, rfl, by decide +kernel, rfl, by decide +kernel, by decide +kernel⟩
abbrev s_Ratio___ge__ : Stmt := inClass (top 6) 19
theorem sc_Ratio___ge__ : FnScope ["self", "other"] ["self", "other"] (defScope s_Ratio___ge__) := ⟨rfl, rfl, rfl, by decide +kernel, rfl, by decide +kernel, by decide +kernel⟩
abbrev s_Ratio___eq__ : Stmt := inClass (top 6) 15
theorem sc_Ratio___eq__ : FnScope ["self", "other"] ["self", "other"] (defScope s_Ratio___eq__) := ⟨rfl, rfl, rfl, by decide +kernel, rfl, by decide +kernel, by decide +kernel⟩
abbrev s_Ratio___bool__ : Stmt := inClass (top 6) 14
theorem sc_Ratio___bool__ : FnScope ["self"] ["self"] (defScope s_Ratio___bool__) := ⟨rfl, rfl, rfl, by decide +kernel, rfl, by decide +kernel, by decide +kernel⟩
abbrev s__law_cell : Stmt := top 10
theorem sc__law_cell : FnScope ["_law_script", "_law_place"] ["_law_script", "_law_place"] (defScope s__law_cell) := ⟨rfl, rfl, rfl, by decide +kernel, rfl, by decide +kernel, by decide +kernel⟩
abbrev s__law_draws : Stmt := top 11
theorem sc__law_draws : FnScope ["_law_cell_here", "_law_sizes", "_law_size", "_law_left", "_law_found", "_law_k", "_law_low", "_law_high"] ["_law_cell_here", "_law_sizes"] (defScope s__law_draws) := ⟨rfl, rfl, rfl, by decide +kernel, rfl, by decide +kernel, by decide +kernel⟩
abbrev s__law_wide : Stmt := top 12
theorem sc__law_wide : FnScope ["_law_parts", "_law_number", "_law_part"] ["_law_parts"] (defScope s__law_wide) := ⟨rfl, rfl, rfl, by decide +kernel, rfl, by decide +kernel, by decide +kernel⟩
abbrev s__law_told : Stmt := top 13
theorem sc__law_told : FnScope ["_law_x", "_law_y"] ["_law_x", "_law_y"] (defScope s__law_told) := ⟨rfl, rfl, rfl, by decide +kernel, rfl, by decide +kernel, by decide +kernel⟩
abbrev s__law_due : Stmt := top 14
theorem sc__law_due : FnScope ["_law_a", "_law_b", "_law_left", "_law_right"] ["_law_a", "_law_b"] (defScope s__law_due) := ⟨rfl, rfl, rfl, by decide +kernel, rfl, by decide +kernel, by decide +kernel⟩
abbrev s__law_alike : Stmt := top 15
theorem sc__law_alike : FnScope ["_law_told_here", "_law_due_here", "_law_k"] ["_law_told_here", "_law_due_here"] (defScope s__law_alike) := ⟨rfl, rfl, rfl, by decide +kernel, rfl, by decide +kernel, by decide +kernel⟩
abbrev s_law : Stmt := top 16
theorem sc_law : FnScope ["_law_script", "_law_ways", "_law_parts", "_law_bound", "_law_numbers", "_law_top_a", "_law_bottom_a", "_law_top_b", "_law_bottom_b", "_law_whole", "_law_scale", "_law_one", "_law_two", "_law_a", "_law_b", "_law_n", "_law_equal", "_law_k"] ["_law_script"] (defScope s_law) := ⟨rfl, rfl, rfl, by decide +kernel, rfl, by decide +kernel, by decide +kernel⟩

/-! ### mathematics of draws -/
def Within : List Int → List Int → Prop
  | [], [] => True
  | d :: ds, n :: ns => (0 ≤ d ∧ d < n) ∧ Within ds ns
  | _, _ => False
theorem Within.len : ∀ {ds ns : List Int}, Within ds ns → ds.length = ns.length
  | [], [], _ => rfl
  | _ :: ds, _ :: ns, h => by
    rw [List.length_cons, List.length_cons, Within.len h.2]
  | [], _ :: _, h => h.elim
  | _ :: _, [], h => h.elim
theorem Within.snoc : ∀ {ds ns : List Int} {d n : Int}, Within ds ns → 0 ≤ d → d < n → Within (ds ++ [d]) (ns ++ [n])
  | [], [], d, n, _, h0, h1 => ⟨⟨h0, h1⟩, True.intro⟩
  | _ :: ds, _ :: ns, d, n, h, h0, h1 => ⟨h.1, Within.snoc h.2 h0 h1⟩
  | [], _ :: _, _, _, h, _, _ => h.elim
  | _ :: _, [], _, _, h, _, _ => h.elim
theorem Within.step {ds ns : List Int} {d n : Int} {i : Nat} (h : Within ds (ns.take i)) (hi : ns[i]? = some n) (h0 : 0 ≤ d) (h1 : d < n) : Within (ds ++ [d]) (ns.take (i + 1)) := by
  rw [List.take_add_one, hi]
  exact h.snoc h0 h1
theorem Within.zero (ns : List Int) : Within [] (ns.take 0) := by
  rw [List.take_zero]
  exact True.intro
theorem Within.full {ds ns : List Int} (h : Within ds (ns.take ns.length)) : Within ds ns := by
  rw [List.take_length] at h
  exact h
theorem int_of {ns : List Int} {i : Nat} {x : V} (h : (ns.map V.int)[i]? = some x) : ∃ n, x = .int n ∧ ns[i]? = some n := by
  rw [List.getElem?_map] at h
  cases e : ns[i]? with
  | none =>
    rw [e] at h
    cases h
  | some z =>
    rw [e] at h
    exact ⟨z, (Option.some.inj h).symm, rfl⟩
theorem int_at {ns : List Int} {i : Nat} {n : Int} (h : ns[i]? = some n) : (ns.map V.int)[i]? = some (.int n) := by
  rw [List.getElem?_map, h]
  rfl
theorem snoc_int (ds : List Int) (d : Int) : ds.map V.int ++ [V.int d] = (ds ++ [d]).map V.int := by
  rw [List.map_append]
  rfl
theorem same_upd {H : Hp} {p : Addr} {o : HO} (h : H p = none) : Same H (upd H p o) := fun b x e => by
  rw [upd_ne (ne_of_none e h)]
  exact e
theorem same_mut {H H1 : Hp} {p : Addr} {o : HO} (s : Same H H1) (h : H p = none) : Same H (upd H1 p o) := fun b x e => by
  rw [upd_ne (ne_of_none e h)]
  exact s b x e
theorem same_tup {K : PySem.W.Frag} {H H' : Hp} {a : Addr} {xs : List V} (e : Same H H') (h : SqT K H a xs) : SqT K H' a xs := by
  rcases h with (h | ⟨o, h⟩) | h
  · exact .inl (.inl (e _ _ h))
  · exact .inl (.inr ⟨o, e _ _ h⟩)
  · exact .inr h
theorem w_div {j : Int} (h : 0 < j) (hb : j < 2 ^ 100) : CDivW 0 j := wide_div (b := 100) h (by omega) (by decide) (by decide)
theorem lst_l {K : PySem.W.Frag} {H : Hp} {a : Addr} {xs : List V} (h : H a = some (.lst xs)) : SqL K H a xs := .inl (.inl h)
theorem tup_t {K : PySem.W.Frag} {H : Hp} {a : Addr} {xs : List V} (h : H a = some (.tup xs)) : SqT K H a xs := .inl (.inl h)
theorem lc_yes {σ : L2.St} {H : Hp} {F : Bool → Hp → Prop} (h : F true H) : tYes σ H F := h
theorem Within.c {ds ns : List Int} {n : Int} (h : Within ds (n :: ns)) : ∃ d r, ds = d :: r ∧ 0 ≤ d ∧ d < n ∧ Within r ns := by
  cases ds with
  | nil => exact h.elim
  | cons d r => exact ⟨d, r, rfl, h.1.1, h.1.2, h.2⟩
theorem Within.n {ds : List Int} (h : Within ds []) : ds = [] := by
  cases ds with
  | nil => rfl
  | cons d r => exact h.elim
theorem kI : kitB "int" "int" = some true := by decide +kernel
theorem kB : kitB "int" "bool" = some false := by decide +kernel
theorem kT : kitB "tuple" "tuple" = some true := by decide +kernel

theorem cut_from (xs : List V) (k : Nat) : cutV xs (some (k : Int)) none = xs.drop k := by
  unfold cutV
  rw [HT.sIx_nat, HT.sIx_none]
  by_cases h : k ≤ xs.length
  · rw [Nat.min_eq_left h]
    exact List.take_of_length_le (by rw [List.length_drop]; exact Nat.le_refl _)
  · rw [Nat.min_eq_right (by omega), List.drop_of_length_le (Nat.le_refl _), List.drop_of_length_le (by omega), List.take_nil]
theorem cut_from1 (xs : List V) : cutV xs (some 1) none = xs.drop 1 := by
  unfold cutV
  rw [show HT.sIx xs.length 0 (some 1) = min 1 xs.length from HT.sIx_nat xs.length 0 1, HT.sIx_none]
  cases xs with
  | nil => rfl
  | cons x r =>
    rw [show min 1 (x :: r).length = 1 by
      rw [List.length_cons]
      omega]
    show (List.take ((x :: r).length - 1) r) = r
    rw [List.length_cons, Nat.add_sub_cancel]
    exact List.take_length
theorem big18 : (0 : Int) < 10 ^ 18 ∧ (10 : Int) ^ 18 < 2 ^ 100 := by decide
theorem cut_to (xs : List V) (k : Nat) : cutV xs none (some (k : Int)) = xs.take k := by
  unfold cutV
  rw [HT.sIx_none, HT.sIx_nat, List.drop_zero, Nat.sub_zero]
  by_cases h : k ≤ xs.length
  · rw [Nat.min_eq_left h]
  · rw [Nat.min_eq_right (by omega), List.take_of_length_le (Nat.le_refl _), List.take_of_length_le (by omega)]

theorem iteD {c A B : Prop} [Decidable c] (hc : c) (h : A) : if decide c = true then A else B := by
  rw [if_pos (decide_eq_true hc)]
  exact h
theorem iteDF {c A B : Prop} [Decidable c] (hc : ¬ c) (h : B) : if decide c = true then A else B := by
  rw [decide_eq_false hc]
  exact iteF h
/-! ### lowest terms -/
def rg (t b : Int) : Int := ((Nat.gcd t.natAbs b.natAbs : Nat) : Int)
def rd (t b : Int) : Int := if b < 0 then -(rg t b) else rg t b
def nT (t b : Int) : Int := t.fdiv (rd t b)
def nB (t b : Int) : Int := b.fdiv (rd t b)
/-- T over B is t over b in lowest terms -/
structure LowT (t b T B : Int) : Prop where
  pos : 0 < B
  eq : T * b = t * B
  leT : T.natAbs ≤ t.natAbs
  leB : B.natAbs ≤ b.natAbs
  cop : Nat.gcd T.natAbs B.natAbs = 1
theorem rg_pos {t b : Int} (h : b ≠ 0) : 0 < rg t b := by
  unfold rg
  have := Nat.gcd_pos_of_pos_right t.natAbs (Int.natAbs_pos.mpr h)
  omega
theorem rd_ne {t b : Int} (h : b ≠ 0) : rd t b ≠ 0 := by
  have := rg_pos (t := t) h
  unfold rd
  split <;> omega
theorem rd_abs (t b : Int) : (rd t b).natAbs = Nat.gcd t.natAbs b.natAbs := by
  unfold rd rg
  split <;> omega
theorem rd_dvd_t (t b : Int) : rd t b ∣ t := by
  rw [← Int.natAbs_dvd_natAbs, rd_abs]
  exact Nat.gcd_dvd_left ..
theorem rd_dvd_b (t b : Int) : rd t b ∣ b := by
  rw [← Int.natAbs_dvd_natAbs, rd_abs]
  exact Nat.gcd_dvd_right ..
theorem nT_mul {t b : Int} (h : b ≠ 0) : t = rd t b * nT t b := by
  obtain ⟨k, hk⟩ := rd_dvd_t t b
  have e : nT t b = k := by
    unfold nT
    conv => lhs; arg 1; rw [hk]
    exact Int.mul_fdiv_cancel_left k (rd_ne h)
  rw [e]
  exact hk
theorem nB_mul {t b : Int} (h : b ≠ 0) : b = rd t b * nB t b := by
  obtain ⟨k, hk⟩ := rd_dvd_b t b
  have e : nB t b = k := by
    unfold nB
    conv => lhs; arg 1; rw [hk]
    exact Int.mul_fdiv_cancel_left k (rd_ne h)
  rw [e]
  exact hk
theorem low {t b : Int} (h : b ≠ 0) : LowT t b (nT t b) (nB t b) := by
  have h1 := nT_mul (t := t) h
  have h2 := nB_mul (t := t) h
  have hg := rg_pos (t := t) h
  have hd := rd_ne (t := t) h
  have a1 : t.natAbs = (rd t b).natAbs * (nT t b).natAbs := by
    rw [← Int.natAbs_mul, ← h1]
  have a2 : b.natAbs = (rd t b).natAbs * (nB t b).natAbs := by
    rw [← Int.natAbs_mul, ← h2]
  have p : 0 < (rd t b).natAbs := Int.natAbs_pos.mpr hd
  refine ⟨?_, ?_, ?_, ?_, ?_⟩
  · by_cases hb : b < 0
    · have e : rd t b = -(rg t b) := if_pos hb
      rw [e] at h2
      by_cases hn : 0 < nB t b
      · exact hn
      · exfalso
        have : 0 ≤ -(rg t b) * nB t b := by
          rw [Int.neg_mul]
          have := Int.mul_nonneg (Int.le_of_lt hg) (show 0 ≤ -(nB t b) by omega)
          rw [Int.mul_neg] at this
          exact this
        omega
    · have e : rd t b = rg t b := if_neg hb
      rw [e] at h2
      by_cases hn : 0 < nB t b
      · exact hn
      · exfalso
        have := Int.mul_nonneg (Int.le_of_lt hg) (show 0 ≤ -(nB t b) by omega)
        rw [Int.mul_neg] at this
        omega
  · have e : nT t b * b = nT t b * (rd t b * nB t b) := congrArg (nT t b * ·) h2
    have e2 : t * nB t b = rd t b * nT t b * nB t b := congrArg (· * nB t b) h1
    rw [e, e2, ← Int.mul_assoc, Int.mul_comm (nT t b)]
  · rw [a1]
    exact Nat.le_mul_of_pos_left _ p
  · rw [a2]
    exact Nat.le_mul_of_pos_left _ p
  · have g := rd_abs t b
    rw [a1, a2, Nat.gcd_mul_left] at g
    have : (rd t b).natAbs * 1 = (rd t b).natAbs * Nat.gcd (nT t b).natAbs (nB t b).natAbs := by
      rw [Nat.mul_one]
      have e1 := congrArg Int.natAbs h1
      have e2 := congrArg Int.natAbs h2
      rw [Int.natAbs_mul] at e1 e2
      exact g
    exact (Nat.eq_of_mul_eq_mul_left p this).symm
theorem low_uniq {t b T B T' B' : Int} (hb : b ≠ 0) (h : LowT t b T B) (h' : LowT t b T' B') : T = T' ∧ B = B' := by
  have e : T * B' = T' * B := by
    have h1 : T * B' * b = T' * B * b := by
      have x1 : T * B' * b = (T * b) * B' := by rw [Int.mul_assoc, Int.mul_comm B', ← Int.mul_assoc]
      have x2 : T' * B * b = (T' * b) * B := by rw [Int.mul_assoc, Int.mul_comm B, ← Int.mul_assoc]
      rw [x1, x2, h.eq, h'.eq, Int.mul_assoc, Int.mul_assoc, Int.mul_comm B]
    exact Int.eq_of_mul_eq_mul_right hb h1
  have n : T.natAbs * B'.natAbs = T'.natAbs * B.natAbs := by
    rw [← Int.natAbs_mul, ← Int.natAbs_mul, e]
  have d1 : B.natAbs ∣ B'.natAbs := by
    have : B.natAbs ∣ T.natAbs * B'.natAbs := n ▸ Nat.dvd_mul_left ..
    exact (Nat.Coprime.symm h.cop).dvd_of_dvd_mul_left this
  have d2 : B'.natAbs ∣ B.natAbs := by
    have : B'.natAbs ∣ T'.natAbs * B.natAbs := n ▸ Nat.dvd_mul_left ..
    exact (Nat.Coprime.symm h'.cop).dvd_of_dvd_mul_left this
  have eb : B.natAbs = B'.natAbs := Nat.dvd_antisymm d1 d2
  have p := h.pos
  have p' := h'.pos
  have eB : B = B' := by omega
  subst eB
  exact ⟨Int.eq_of_mul_eq_mul_right (by omega) e, rfl⟩
/-! ### Euclid's turns -/
/-- ahead of turn i; g the greatest common divisor, the first product below 6 ^ m -/
structure Eu (g m i : Nat) (a b : Nat) : Prop where
  gc : Nat.gcd a b = g
  pot : (i = 0 ∧ a * b < 6 ^ m) ∨ (∃ j, i = 2 * j + 1 ∧ b ≤ a ∧ 0 < a ∧ a * b * 6 ^ j < 6 ^ m) ∨ (∃ j, i = 2 * j + 2 ∧ b ≤ a ∧ 0 < a ∧ (a + b) * a * 6 ^ j < 6 ^ m)
theorem eu_zero {g m i a : Nat} (h : Eu g m i a 0) : a = g := by
  have := h.gc
  rw [Nat.gcd_zero_right] at this
  exact this
theorem six_br {a b r : Nat} (h : b + r ≤ a) (hr : r ≤ b) : b * r * 6 ≤ (a + b) * a := by
  obtain ⟨c, rfl⟩ : ∃ c, b = r + c := ⟨b - r, by omega⟩
  have h1 : (r + c + r + (r + c)) * (r + c + r) ≤ (a + (r + c)) * a := Nat.mul_le_mul (by omega) h
  refine Nat.le_trans ?_ h1
  have e1 : (r + c) * r * 6 = 6 * (r * r) + 6 * (c * r) := by
    rw [Nat.add_mul]
    omega
  have e2 : (r + c + r + (r + c)) * (r + c + r) = 6 * (r * r) + 7 * (c * r) + 2 * (c * c) := by
    have : r + c + r + (r + c) = 3 * r + 2 * c := by omega
    rw [this]
    have : r + c + r = 2 * r + c := by omega
    rw [this, Nat.add_mul, Nat.mul_add, Nat.mul_add]
    have q1 : 3 * r * (2 * r) = 6 * (r * r) := by
      rw [Nat.mul_mul_mul_comm]
    have q2 : 3 * r * c = 3 * (c * r) := by
      rw [Nat.mul_assoc, Nat.mul_comm r c]
    have q3 : 2 * c * (2 * r) = 4 * (c * r) := by
      rw [Nat.mul_mul_mul_comm]
    have q4 : 2 * c * c = 2 * (c * c) := Nat.mul_assoc ..
    rw [q1, q2, q3, q4]
    omega
  omega
theorem eu_step {g m i a b : Nat} (h : Eu g m i a b) (hb : 0 < b) : Eu g m (i + 1) b (a % b) := by
  have hr : a % b < b := Nat.mod_lt a hb
  refine ⟨?_, ?_⟩
  · rw [← h.gc, Nat.gcd_comm a b, Nat.gcd_rec b a, Nat.gcd_comm]
  · rcases h.pot with ⟨rfl, p⟩ | ⟨j, rfl, hle, _, p⟩ | ⟨j, rfl, hle, _, p⟩
    · refine .inr (.inl ⟨0, by omega, by omega, hb, ?_⟩)
      rw [Nat.pow_zero, Nat.mul_one]
      refine Nat.lt_of_le_of_lt ?_ p
      rw [Nat.mul_comm]
      exact Nat.mul_le_mul_right _ (Nat.mod_le a b)
    · refine .inr (.inr ⟨j, by omega, by omega, hb, ?_⟩)
      refine Nat.lt_of_le_of_lt (Nat.mul_le_mul_right _ ?_) p
      have e := Nat.div_add_mod a b
      have q : 1 ≤ a / b := Nat.div_pos hle hb
      have : b * 1 ≤ b * (a / b) := Nat.mul_le_mul_left b q
      exact Nat.mul_le_mul (by omega) (Nat.le_refl b)
    · refine .inr (.inl ⟨j + 1, by omega, by omega, hb, ?_⟩)
      refine Nat.lt_of_le_of_lt ?_ p
      have e := Nat.div_add_mod a b
      have q : 1 ≤ a / b := Nat.div_pos hle hb
      have q2 : b * 1 ≤ b * (a / b) := Nat.mul_le_mul_left b q
      have s := six_br (a := a) (b := b) (r := a % b) (by omega) (by omega)
      rw [Nat.pow_succ, Nat.mul_comm (6 ^ j) 6, ← Nat.mul_assoc]
      exact Nat.mul_le_mul_right _ s
theorem eu_end {g m n a b : Nat} (h : Eu g m (2 * n + 2) a b) (hm : m ≤ n) : False := by
  rcases h.pot with ⟨h0, _⟩ | ⟨j, hj, _⟩ | ⟨j, hj, _, ha, p⟩
  · omega
  · omega
  · have e : j = n := by omega
    subst e
    have h1 : 1 * 6 ^ m ≤ (a + b) * a * 6 ^ j := Nat.mul_le_mul (Nat.mul_pos (by omega) ha) (Nat.pow_le_pow_right (by decide) hm)
    omega

/-! ### own classes and errors: rules that the layer lacks -/
section
variable {X : Cx}
/-- a field's read, its K by another name -/
theorem pe_fldK {K : PySem.W.Frag} {e : Expr} {f : Str} {pos : Pos} {ta : TE} (he : PE X e ta) (hb : attributeBase e f X.env (eval e X.env) = eval e X.env) (hK : X.K = K := by rfl) : PE X (.Attribute e f pos) (tFld K ta f) := by
  subst hK
  exact pe_fld he hb
/-- floor division by a divisor of either sign -/
def CDivWN (_ j : Int) : Prop := j ≠ 0 ∧ j.natAbs.log2 < 9000
theorem op_fdivWN : OpR X (binaryOp .FloorDiv) (rI CDivWN fun i j => .int (i.fdiv j)) := opI fun _ _ _ _ _ _ _ c k => floordiv_int c.1 k (.inl (PyProof.noPylong_of_log2 c.2))
/-- a new instance whose __init__ may let an error out, wished for at the slots that stand -/
theorem made_at {CX : CXT} {n : Nat} {g D : Addr} {gd : FuncData} {qs : List Str} {pr : Sp} {Ex : L2.St → XK} {us0 : List Value} {vs0 : List V} {pn : List (Addr × Obj)} {τ : L2.St} {H0 : Hp} {st : Shared} {W : VK} {as : List Value} {xs : List V}
    (MK : Mk X.K D g) (OK : FnOk X.prog X.w X.K X.mg X.base CX n g gd qs pr) (room : Room (n + 1) X.A) (bd : Binds X.K gd qs us0) (dv : Vals vs0 us0) (out : PassesAt CX X τ (Ex τ)) (J : Inv X pn τ H0 st) (rel : Vals xs as)
    (go : ∀ p q, H0 p = none → H0 q = none → q ≠ p → pr (.ref p :: (xs ++ vs0)) (upd (upd H0 q (.own p)) p (.ins D q [])) (fun v H2 => v = .non ∧ W (.ref p) H2) (Ex τ)) :
    wpAny (model X.prog X.w) X.A (call (.ref D) as) (EP X pn τ W) X.xe st := by
  have new1 := J.hok.fresh (Nat.le_succ st.heap.objs.size)
  have new2 := J.hok.fresh (Nat.le_refl st.heap.objs.size)
  have asked := go _ _ new1 new2 (Nat.ne_of_lt (Nat.lt_succ_self _))
  have J2 := Inv.made (C := D) J
  have rel2 : Vals (V.ref (st.heap.objs.size + 1) :: (xs ++ vs0)) (Value.ref (st.heap.objs.size + 1) :: (as ++ us0)) :=
    .cons rfl (rel.append dv)
  have len2 : (Value.ref (st.heap.objs.size + 1) :: as ++ us0).length = qs.length := (rel2.length.symm).trans (OK.len _ _ _ _ asked)
  have env2 := J2.env0.make D as []
  have bound := bd _ (Value.ref (st.heap.objs.size + 1) :: as) J2.kIn len2
  have ran := OK.run _ X.stack _ _ _ _ _ _ (Ex τ) (room.make D as []) env2 bound rel2 asked
  refine wpAny_call (make_map (f := g) J.kIn MK.makes MK.init (beq_iff_eq.mp MK.fn) (codeAny_mono ran ?_))
  rintro (e | fl) s' back
  · exact out pn _ _ e s' J2 back
  · cases fl with
    | ret u =>
      obtain ⟨v, H', J3, rv, rfl, w3⟩ := J2.after back
      exact ⟨rv, V.ref (st.heap.objs.size + 1), _, J3, rfl, w3⟩
    | next => exact back.elim
    | brk => exact back.elim
    | cont => exact back.elim
def tMakeS (D : Addr) (pr : Sp) (vs0 : List V) (Ex : L2.St → XK) (t : TA) : TE := fun τ H Q => t τ H fun xs H1 => ∀ p q, H1 p = none → H1 q = none → q ≠ p →
  pr (.ref p :: (xs ++ vs0)) (upd (upd H1 q (.own p)) p (.ins D q [])) (fun v H2 => v = .non ∧ Q (.ref p) H2) (Ex τ)
theorem pe_makeS {CX : CXT} {n : Nat} {g D : Addr} {gd : FuncData} {qs : List Str} {pr : Sp} {Ex : L2.St → XK} {us0 : List Value} {vs0 : List V} {x : Str} {p pos : Pos} {e : Expr} {es : List Expr} {t : TA}
    (MK : Mk X.K D g) (OK : FnOk X.prog X.w X.K X.mg X.base CX n g gd qs pr) (room : Room (n + 1) X.A) (gl : Gl X x) (at_ : X.mg x = some (.ref D)) (bd : Binds X.K gd qs us0) (dv : Vals vs0 us0) (out : ∀ τ, PassesAt CX X τ (Ex τ)) (args : PA X (e :: es) t)
    (hdb : (x == ("__debug__" : Str)) = false := by decide) (he : starEach (e :: es) X.env = (false, eval e X.env) :: starEach es X.env := by rfl) (hpl : (backTo pos (starEach es X.env)).any (·.1) = false := by rfl) :
    PE X (.Call (.Name x p) (e :: es) [] pos) (tMakeS D pr vs0 Ex t) :=
  ⟨fun pn s τ H Q J h => wpAny_Call_Name_kw (ld_glob J gl at_ (PySem.W.callWith_K (h₀ := X.base) J.ok.mod.kin MK.kp (thn (args.run pos pn s τ H _ J h) fun _ _ ⟨_, _, J1, rel, go⟩ => ⟨J1.kIn, made_at MK OK room bd dv (out τ) J1 rel go⟩) he hpl) hdb)⟩
/-- isinstance(e, c) in a suite, e the error that it holds (of an own class at D, without a dict of its own) -/
def rIsX (K : PySem.W.Frag) (a : Addr) (cls : Value) (d : Option Addr) : List V → Hp → VK → Prop := fun xs H Q => ∃ D : Addr, ExcC K D ∧ cls = .ref D ∧ d = none ∧ rIsE K D a xs H Q
theorem call_isX {K : PySem.W.Frag} {a : Addr} {cls : Value} {d : Option Addr} {oe : Obj} {pn : List (Addr × Obj)} (hz : Zc cls d oe) (hf : ∃ vs, oe.data = .fields vs) (hK : X.K = K := by rfl) :
    CallR (X.suite a ((a, oe) :: pn)) (.builtin "isinstance") (rIsX K a cls d) := by
  intro pins s σ H xs us Q I r h
  subst hK
  obtain ⟨D, ec, rfl, rfl, h⟩ := h
  exact call_isE ec hz hf pins s σ H xs us Q I r h
end
theorem lk_one {k : Str} {v : V} {r : List (Str × V)} : List.lookup k ((k, v) :: r) = some v := by
  simp [List.lookup]
theorem lk_two {k g : Str} {v : V} {r : List (Str × V)} (h : (k == g) = false) : List.lookup k ((g, v) :: r) = List.lookup k r := by
  simp only [List.lookup, h]

/-! ### a Ratio in the heap -/
def rF (T B : Int) : List (Str × V) := [("top", .int T), ("bottom", .int B)]
def RatAt (C : Addr) (H : Hp) (p : Addr) (T B : Int) : Prop := ∃ dx, H p = some (.ins C dx (rF T B))
theorem rF_top (T B : Int) : (rF T B).lookup ("top" : Str) = some (.int T) := lk_one
theorem rF_bot (T B : Int) : (rF T B).lookup ("bottom" : Str) = some (.int B) := (lk_two (by decide +kernel)).trans lk_one
theorem rF_new (T B : Int) : putF "bottom" (.int B) (putF "top" (.int T) []) = rF T B := by
  show (if ("top" : Str) = "bottom" then _ else _) = _
  rw [if_neg (by decide +kernel)]
  rfl
theorem RatAt.same {C : Addr} {H H' : Hp} {p : Addr} {T B : Int} (s : Same H H') (h : RatAt C H p T B) : RatAt C H' p T B := by
  obtain ⟨dx, h⟩ := h
  exact ⟨dx, s _ _ h⟩
/-- not too long to divide by -/
def Sm (b : Int) : Prop := ∃ n, 0 < n ∧ n ≤ 8000 ∧ b.natAbs < 2 ^ n
theorem sm_of {b : Int} {n : Nat} (h : b.natAbs < 2 ^ n) (h0 : 0 < n := by decide) (hn : n ≤ 8000 := by decide) : Sm b := ⟨n, h0, hn, h⟩
theorem Sm.le {a b : Int} (h : Sm b) (hl : a.natAbs ≤ b.natAbs) : Sm a := by
  obtain ⟨n, h0, h1, h2⟩ := h
  exact ⟨n, h0, h1, Nat.lt_of_le_of_lt hl h2⟩
theorem Sm.log {a : Int} (h : Sm a) : a.natAbs.log2 < 8000 := by
  obtain ⟨n, h0, h1, h2⟩ := h
  exact Nat.lt_of_lt_of_le (PySem.Flt.log2_lt_of h0 h2) h1
theorem Sm.mul {a b : Int} (h : Sm a) (h' : Sm b) : CMulW a b := by
  have x := h.log
  have y := h'.log
  unfold CMulW
  omega
theorem rd_div {t b : Int} (h : b ≠ 0) (hs : Sm b) (i : Int) : CDivWN i (rd t b) := by
  refine ⟨rd_ne h, ?_⟩
  have h1 : (rd t b).natAbs ≤ b.natAbs := by
    rw [rd_abs]
    exact Nat.gcd_le_right _ (Int.natAbs_pos.mpr h)
  exact Nat.lt_of_lt_of_le (hs.le h1).log (by decide)

/-! ### numbers: a Ratio or an int -/
def NumAt (C : Addr) (H : Hp) (y : V) (T B : Int) : Prop := (∃ q, y = .ref q ∧ RatAt C H q T B) ∨ (y = .int T ∧ B = 1)
theorem RatAt.num {C : Addr} {H : Hp} {p : Addr} {T B : Int} (h : RatAt C H p T B) : NumAt C H (.ref p) T B := .inl ⟨p, rfl, h⟩
theorem NumAt.same {C : Addr} {H H' : Hp} {y : V} {T B : Int} (s : Same H H') (h : NumAt C H y T B) : NumAt C H' y T B := by
  rcases h with ⟨q, e, r⟩ | h
  · exact .inl ⟨q, e, r.same s⟩
  · exact .inr h
/-- what the operator rules ask of the second operand -/
theorem NumAt.arg {C : Addr} {H : Hp} {y : V} {T B : Int} (h : NumAt C H y T B) : (∃ b dy gs, y = .ref b ∧ H b = some (.ins C dy gs)) ∨ ∃ n, y = .int n := by
  rcases h with ⟨q, rfl, dx, e⟩ | ⟨rfl, _⟩
  · exact .inl ⟨q, dx, _, rfl, e⟩
  · exact .inr ⟨T, rfl⟩
theorem RatAt.self {C : Addr} {H : Hp} {p : Addr} {T B : Int} (h : RatAt C H p T B) : ∃ a dx fs, (V.ref p : V) = .ref a ∧ H a = some (.ins C dx fs) := by
  obtain ⟨dx, e⟩ := h
  exact ⟨p, dx, _, rfl, e⟩
theorem low_any {t b T B : Int} (hb : b ≠ 0) (pos : 0 < B) (cop : Nat.gcd T.natAbs B.natAbs = 1) (eq : T * b = t * B) : LowT t b T B := by
  have n : T.natAbs * b.natAbs = t.natAbs * B.natAbs := by
    rw [← Int.natAbs_mul, ← Int.natAbs_mul, eq]
  have d1 : B.natAbs ∣ b.natAbs := by
    have : B.natAbs ∣ T.natAbs * b.natAbs := n ▸ Nat.dvd_mul_left ..
    exact (Nat.Coprime.symm cop).dvd_of_dvd_mul_left this
  have d2 : T.natAbs ∣ t.natAbs := by
    have : T.natAbs ∣ t.natAbs * B.natAbs := n ▸ Nat.dvd_mul_right ..
    exact Nat.Coprime.dvd_of_dvd_mul_right cop this
  refine ⟨pos, eq, ?_, Nat.le_of_dvd (Int.natAbs_pos.mpr hb) d1, cop⟩
  rcases Nat.eq_zero_or_pos t.natAbs with z | z
  · rw [z, Nat.zero_mul] at n
    rcases Nat.mul_eq_zero.mp n with h | h
    · omega
    · exact absurd h (by have := Int.natAbs_pos.mpr hb; omega)
  · exact Nat.le_of_dvd z d2
theorem low_int (n : Int) : LowT n 1 n 1 := ⟨by decide, rfl, Nat.le_refl _, Nat.le_refl _, by simp⟩
theorem LowT.to {t b t' b' T B : Int} (h : LowT t b T B) (hb : b ≠ 0) (hb' : b' ≠ 0) (e : t * b' = t' * b) : LowT t' b' T B := by
  refine low_any hb' h.pos h.cop ?_
  have q := h.eq
  have : b * (T * b') = b * (t' * B) := by grind
  exact Int.eq_of_mul_eq_mul_left hb this
/-! ### operators of an own class -/
section
variable {prog : Program} {w : World} {A : Around} {E : Value → Shared → Prop} {s : Shared} {K : PySem.W.Frag}
/-- an int's own operator declines an instance -/
theorem declines_bin {id nm : String} {name : Str} {g : Int → Int → Sem Fin} {n : Int} {t : Tok} {a C dx : Addr} {Q : Value → Shared → Prop} (ha : s.heap.get? a = some (PySem.W.instObj C dx)) (slot : Slot "int" name id)
    (entry : entryFor table id = some (Builtin.Int.intBinary nm g)) (args : argsOk id ⟨[.int n t, .ref a], []⟩) (h : Q .notImplemented s) :
    wpAny (model prog w) A (call (.builtin id) [.int n t, .ref a]) Q E s := by
  refine GQ.call_here slot (by first | exact rfl | trivial) entry args ?_
  have e1 : slotArgs nm 1 ⟨[.int n t, .ref a], []⟩ = pure (.int n t, [.ref a]) := rfl
  have e2 : Builtin.Int.intOfSelf (.int n t) = pure n := rfl
  unfold Builtin.Int.intBinary
  rw [e1]
  refine wpAny_bind (wpAny_pure ?_)
  dsimp only
  rw [e2]
  refine wpAny_bind (wpAny_pure ?_)
  refine wpAny_bind ?_
  show wpAny (model prog w) A.in1 (asInt? (.ref a)) _ _ s
  unfold asInt?
  refine wpAny_bind (wpAny_load ha ?_)
  refine wpAny_pure ?_
  refine wpAny_bind (wpAny_rule ?_)
  exact wpAny_pure h
end
section
variable {prog : Program} {w : World} {A : Around} {E : Value → Shared → Prop} {s : Shared} {K : PySem.W.Frag}
/-- n op a: the int's own operator declines, then a's reflected one is asked -/
theorem bin_refl {op : Operator} {id nm : String} {g : Int → Int → Sem Fin} {n : Int} {t : Tok} {a C dx f : Addr} {od : Option Obj} {Q : Value → Shared → Prop} (X : K.In s.heap) (ha : s.heap.get? a = some (PySem.W.instObj C dx)) (J : PySem.W.InstAt s.heap a (PySem.W.instObj C dx) C od)
    (first : PySem.W.selfFirst K C = true) (slot : Slot "int" (dunder op.info.2) id) (entry : entryFor table id = some (Builtin.Int.intBinary nm g)) (args : argsOk id ⟨[.int n t, .ref a], []⟩)
    (fillI : fillsNumberSlot (.type "int") op.info.2 = pure true) {f0 : Addr} (own : PySem.W.findIn K (.ref C) (dunder op.info.2) = some (some (.ref f0))) (sub : PySem.W.subIn K (.ref C) (.type "int") = some false)
    (hr : PySem.W.findIn K (.ref C) (dunderR op.info.2) = some (some (.ref f))) (hf : PySem.W.isFn K (.ref f) = true)
    (h : wpAny (model prog w) A (call (.ref f) [.ref a, .int n t]) (PySem.W.CmpBack Q) E s) : wpAny (model prog w) A (binaryOp op (.int n t) (.ref a)) Q E s := by
  obtain ⟨cd, rest, hcd, hm⟩ := PySem.W.ksp_first first
  have back := PySem.W.ksp_try X J hr hf h
  rcases hi : op.info with ⟨sym, nm'⟩
  rw [hi] at slot fillI own hr back
  dsimp only at slot fillI own hr back
  have f1 : PySem.W.Looks (model prog w) s.heap (fillsNumberSlot (.ref C) nm') true := PySem.W.fills_K X hcd hm own
  have ne : (Value.type "int" == Value.ref C) = false := Bool.eq_false_iff.mpr fun z => by cases beq_iff_eq.mp z
  unfold binaryOp
  refine wpAny_holding ?_
  simp only [hi]
  refine wpAny_bind ?_
  unfold binaryOp1
  refine wpAny_bind (wpAny_typeOf (T := "int") (by exact rfl) (wpAny_bind (J.type.here (wpAny_bind (wpAny_of_eq fillI ?_)))))
  simp only [ne, Bool.false_eq_true, if_false]
  refine wpAny_bind (f1.here ?_)
  simp only [Bool.and_self, if_true]
  refine wpAny_bind ((PySem.W.looks_subIn X sub).here ?_)
  have hpy : numberSlotInPython (.type "int") nm' = pure false := rfl
  simp only [Bool.false_eq_true, if_false, pure_bind, Bool.not_false, Bool.and_self, if_true, hpy]
  refine wpAny_bind (wpAny_tryMethod_declines (T := "int") (by exact rfl) slot (declines_bin ha slot entry args ⟨rfl, ?_⟩))
  dsimp only
  refine wpAny_bind (wpAny_mono back (fun r s' z => ?_) fun _ _ z => z)
  obtain ⟨v, rfl, q⟩ := z
  exact wpAny_bind (wpAny_rule (wpAny_pure (wpAny_pure q)))
end
section
variable {X : Cx} {CX : CXT} {k : Nat} {f C : Addr} {fd : FuncData} {ps : List Str} {sp : Sp} {ds : List Value} {E : XK}
theorem ep_back {pins : List (Addr × Obj)} {σ : L2.St} {Q : VK} {u : Value} {s' : Shared} (h : EP X pins σ Q u s') : PySem.W.CmpBack (EP X pins σ Q) u s' := by
  obtain ⟨v, H', J, r, q⟩ := h
  cases u <;> first
    | exact ⟨v, H', J, r, q⟩
    | (exfalso; cases v <;> first | (obtain ⟨_, z⟩ := r; cases z) | cases r)
/-- x op y by the class's own operator; y an instance of the class, or an int -/
def rOwn (C : Addr) (sp : Sp) (E : XK) : R2 := fun x y H Q => (∃ a dx fs, x = .ref a ∧ H a = some (.ins C dx fs)) ∧ ((∃ b dy gs, y = .ref b ∧ H b = some (.ins C dy gs)) ∨ ∃ n, y = .int n) ∧ sp [x, y] H Q E
/-- n op a by the class's reflected operator -/
def rRef (C : Addr) (sp : Sp) (E : XK) : R2 := fun x y H Q => (∃ n, x = .int n) ∧ (∃ a dx fs, y = .ref a ∧ H a = some (.ins C dx fs)) ∧ sp [y, x] H Q E
theorem inst_of {pins : List (Addr × Obj)} {σ : L2.St} {H : Hp} {s : Shared} {a C dx : Addr} {fs : List (Str × V)} (I : Inv X pins σ H s) (e : H a = some (.ins C dx fs)) :
    s.heap.get? a = some (PySem.W.instObj C dx) ∧ ∃ od, PySem.W.InstAt s.heap a (PySem.W.instObj C dx) C (some od) := by
  obtain ⟨mA, O, _⟩ := ins_get I.hok e
  obtain ⟨od, J, _⟩ := O.look
  exact ⟨O.obj, od, J⟩
theorem op_own {op : Operator} {fo ro rc : Option Value} (M : Meth X.K C (dunder op.info.2) f) (first : PySem.W.selfFirst X.K C = true) (hr : PySem.W.findIn X.K (.ref C) (dunderR op.info.2) = some rc) (hp : rc = none ∨ ∃ g : Addr, rc = some (.ref g))
    (h1 : PySem.W.findIn X.K (.type "int") (dunder op.info.2) = some fo) (h2 : PySem.W.findIn X.K (.type "int") (dunderR op.info.2) = some ro) (hsub : PySem.W.subIn X.K (.type "int") (.ref C) = some false)
    (G : FnOk X.prog X.w X.K X.mg X.base CX k f fd ps sp) (room : Room k X.A) (bd : Binds X.K fd ps []) (out : Passes CX X E) : OpR X (binaryOp op) (rOwn C sp E) := by
  intro pins s σ H x y v u Q I rx ry h
  obtain ⟨⟨a, dx, fs, rfl, ha⟩, hy, h⟩ := h
  cases (show v = Value.ref a from rx)
  obtain ⟨_, od, J⟩ := inst_of I ha
  obtain ⟨m, F⟩ := I.fr
  have ran : wpAny (model X.prog X.w) X.A (call (.ref f) [.ref a, u]) (PySem.W.CmpBack (EP X pins σ Q)) X.xe s :=
    wpAny_mono (run_fn (ds := []) G room bd .nil out I (.cons (show L2.RelV (.ref a) (.ref a) from rfl) (.cons ry .nil)) h) (fun _ _ z => ep_back z) fun _ _ z => z
  rcases hy with ⟨b, dy, gs, rfl, hb⟩ | ⟨n, rfl⟩
  · cases (show u = Value.ref b from ry)
    obtain ⟨_, od', J'⟩ := inst_of I hb
    exact PySem.W.binop_K F I.ok.mod.kin J J'.type first M.at_ M.fn ran
  · obtain ⟨t, rfl⟩ := (show ∃ t, u = Value.int n t from ry)
    exact PySem.W.ksp_binT F I.ok.mod.kin J (T := "int") rfl first M.at_ M.fn hr hp h1 h2 hsub ran
theorem op_ref {op : Operator} {id nm : String} {g : Int → Int → Sem Fin} {f0 : Addr} (M : Meth X.K C (dunderR op.info.2) f) (first : PySem.W.selfFirst X.K C = true) (own : PySem.W.findIn X.K (.ref C) (dunder op.info.2) = some (some (.ref f0)))
    (sub : PySem.W.subIn X.K (.ref C) (.type "int") = some false) (slot : Slot "int" (dunder op.info.2) id) (entry : entryFor table id = some (Builtin.Int.intBinary nm g)) (args : ∀ a b, argsOk id ⟨[a, b], []⟩) (fillI : fillsNumberSlot (.type "int") op.info.2 = pure true)
    (G : FnOk X.prog X.w X.K X.mg X.base CX k f fd ps sp) (room : Room k X.A) (bd : Binds X.K fd ps []) (out : Passes CX X E) : OpR X (binaryOp op) (rRef C sp E) := by
  intro pins s σ H x y v u Q I rx ry h
  obtain ⟨⟨n, rfl⟩, ⟨a, dx, fs, rfl, ha⟩, h⟩ := h
  cases (show u = Value.ref a from ry)
  obtain ⟨t, rfl⟩ := (show ∃ t, v = Value.int n t from rx)
  obtain ⟨ho, od, J⟩ := inst_of I ha
  have ran : wpAny (model X.prog X.w) X.A (call (.ref f) [.ref a, .int n t]) (PySem.W.CmpBack (EP X pins σ Q)) X.xe s :=
    wpAny_mono (run_fn (ds := []) G room bd .nil out I (.cons (show L2.RelV (.ref a) (.ref a) from rfl) (.cons rx .nil)) h) (fun _ _ z => ep_back z) fun _ _ z => z
  exact bin_refl I.kIn ho J first slot entry (args _ _) fillI own sub M.at_ M.fn ran
/-- -a -/
def rNeg (C : Addr) (sp : Sp) (E : XK) : V → Hp → VK → Prop := fun x H Q => (∃ a dx fs, x = .ref a ∧ H a = some (.ins C dx fs)) ∧ sp [x] H Q E
theorem un_own (M : Meth X.K C "__neg__" f) (G : FnOk X.prog X.w X.K X.mg X.base CX k f fd ps sp) (room : Room k X.A) (bd : Binds X.K fd ps []) (out : Passes CX X E) : UnR X (unaryOp .USub) (rNeg C sp E) := by
  intro pins s σ H x v Q I rx h
  obtain ⟨⟨a, dx, fs, rfl, ha⟩, h⟩ := h
  cases (show v = Value.ref a from rx)
  obtain ⟨_, od, J⟩ := inst_of I ha
  obtain ⟨m, F⟩ := I.fr
  exact PySem.W.ksp_neg F I.ok.mod.kin J M.at_ M.fn (run_fn (ds := []) G room bd .nil out I (.cons (show L2.RelV (.ref a) (.ref a) from rfl) .nil) h)
end
section
variable {X : Cx} {CX : CXT} {k : Nat} {f C : Addr} {fd : FuncData} {ps : List Str} {sp : Sp} {ds : List Value} {E : XK}
/-- abs(a) by the class's own -/
def rAbsO (C : Addr) (sp : Sp) (E : XK) : List V → Hp → VK → Prop := fun xs H Q => ∃ a dx fs, xs = [.ref a] ∧ H a = some (.ins C dx fs) ∧ sp [.ref a] H Q E
/-- a def called where the frames are X's, one room further in -/
theorem run_in {B : Around} {pins : List (Addr × Obj)} {σ : L2.St} {H : Hp} {s : Shared} {Q : VK} {us : List Value} {vs : List V} (G : FnOk X.prog X.w X.K X.mg X.base CX k f fd ps sp) (room : Room k B) (fr : B.frames = X.A.frames) (bd : Binds X.K fd ps []) (out : Passes CX X E)
    (I : Inv X pins σ H s) (rel : Vals vs us) (h : sp vs H Q E) : wpAny (model X.prog X.w) B (call (.ref f) us) (EP X pins σ Q) X.xe s := by
  have n : us.length = ps.length := rel.length.symm.trans (G.len _ _ _ _ h)
  have bound := bd s us I.kIn (by rw [List.append_nil]; exact n)
  rw [List.append_nil] at bound
  have env := I.env0
  refine wpAny_call (codeAny_mono (G.run B X.stack s H ⟨us, []⟩ us vs Q E room ⟨fr.trans env.frames, env.mod, env.bs, env.bsz, env.funs, env.frf, env.hok, env.bare⟩ bound rel h) ?_)
  rintro (e | fl) s' back
  · exact out pins σ H s e s' I back
  · cases fl with
    | ret u => exact I.after back
    | next => exact back.elim
    | brk => exact back.elim
    | cont => exact back.elim
theorem call_absO (M : Meth X.K C "__abs__" f) (G : FnOk X.prog X.w X.K X.mg X.base CX k f fd ps sp) (room : Room (k + 1) X.A) (bd : Binds X.K fd ps []) (out : Passes CX X E) : CallR X (.builtin "abs") (rAbsO C sp E) := by
  intro pins s σ H xs us Q I r h
  obtain ⟨a, dx, fs, rfl, ha, h⟩ := h
  obtain ⟨u, rfl, rx⟩ := vals1 r
  cases (show u = Value.ref a from rx)
  obtain ⟨_, od, J⟩ := inst_of I ha
  refine PySem.Calls.call_function_entry PyProof.Rows.kind_abs PyProof.Rows.plain_abs PyProof.Rows.entry_abs (PyProof.Rows.args_abs _) ?_
  unfold Builtin.«abs»
  refine wpAny_bind (m := oneArg "abs" _) (wpAny_pure ?_)
  refine wpAny_bind (PySem.W.special_fn I.kIn J M.at_ (beq_iff_eq.mp M.fn) ?_)
  refine wpAny_mono (run_in (B := X.A.in1) G room.in1 rfl bd out I (.cons (show L2.RelV (.ref a) (.ref a) from rfl) .nil) h) (fun v s' z => ?_) fun _ _ z => z
  exact wpAny_pure ⟨_, rfl, z⟩
end

/-! ### methods and operators that may let an error out, wished for at the slots that stand -/
section
variable {X : Cx} {CX : CXT} {k : Nat} {f C : Addr} {fd : FuncData} {ps : List Str} {sp : Sp} {Ex : L2.St → XK}
def tMethT (C : Addr) (m : Str) (sp : Sp) (Ex : L2.St → XK) (ta : TE) (t : TA) : TE := fun τ H Q => ta τ H fun x H1 => ∃ a dx fs, x = .ref a ∧ H1 a = some (.ins C dx fs) ∧ fs.lookup m = none ∧ t τ H1 fun vs H2 => sp (.ref a :: vs) H2 Q (Ex τ)
theorem pe_methT {pl : Sem Bool} {m : Str} {o e : Expr} {es : List Expr} {apos pos : Pos} {ta : TE} {t : TA} (ho : PE X o ta) (c : Cls X.K C) (M : Meth X.K C m f) (G : FnOk X.prog X.w X.K X.mg X.base CX k f fd ps sp) (room : Room k X.A) (bd : Binds X.K fd ps [])
    (out : ∀ τ, PassesAt CX X τ (Ex τ)) (args : PA X (e :: es) t) (hst : starEach (e :: es) X.env = (false, eval e X.env) :: starEach es X.env := by rfl) (hpl : (backTo pos (starEach es X.env)).any (·.1) = false := by rfl)
    (ht : eval (.Call (.Attribute o m apos) (e :: es) [] pos) X.env = (do
      let w0 ← eval o X.env
      standAt apos.atName
      let (fn, fst) ← holding [w0] (getMethod w0 m pl)
      callWith pos fn fst (backTo pos (starEach (e :: es) X.env)) (backToKw pos (keywordEach [] X.env))) := by rfl) :
    PE X (.Call (.Attribute o m apos) (e :: es) [] pos) (tMethT C m sp Ex ta t) := by
  refine ⟨fun pn st τ H Q J h => PySem.W.methodCall_KW (pl := pl) (thn (ho.run pn st τ H _ J h) ?_) ht⟩
  rintro u s1 ⟨x, H1, J1, rx, a, dx, fs, rfl, ea, l, go⟩
  cases (show u = Value.ref a from rx)
  refine getmeth_ok J1 ea c M l (PySem.W.callWith_K (first := [.ref a]) (h₀ := X.base) J1.ok.mod.kin M.kp (thn (args.run pos pn s1 τ H1 _ J1 go) ?_) hst hpl)
  rintro us s2 ⟨vs, H2, J2, r, go2⟩
  exact ⟨J2.kIn, run_fnS (us := .ref a :: us) (vs := .ref a :: vs) G room bd (out τ) J2 (.cons (show L2.RelV (.ref a) (.ref a) from rfl) r) go2⟩
end

/-- x op y by the class's own operator, in a try's body -/
def tOwnT (C : Addr) (sp : Sp) (Ex : L2.St → XK) (ta tb : TE) : TE := fun τ H Q => ta τ H fun x H1 => tb τ H1 fun y H2 => rOwn C sp (Ex τ) x y H2 Q
section
variable {X : Cx} {CX : CXT} {k : Nat} {f C : Addr} {fd : FuncData} {ps : List Str} {sp : Sp} {Ex : L2.St → XK}
theorem own_at {op : Operator} {fo ro rc : Option Value} (M : Meth X.K C (dunder op.info.2) f) (first : PySem.W.selfFirst X.K C = true) (hr : PySem.W.findIn X.K (.ref C) (dunderR op.info.2) = some rc) (hp : rc = none ∨ ∃ g : Addr, rc = some (.ref g))
    (h1 : PySem.W.findIn X.K (.type "int") (dunder op.info.2) = some fo) (h2 : PySem.W.findIn X.K (.type "int") (dunderR op.info.2) = some ro) (hsub : PySem.W.subIn X.K (.type "int") (.ref C) = some false)
    (G : FnOk X.prog X.w X.K X.mg X.base CX k f fd ps sp) (room : Room k X.A) (bd : Binds X.K fd ps []) {τ : L2.St} (out : PassesAt CX X τ (Ex τ)) {pins : List (Addr × Obj)} {s : Shared} {H : Hp} {x y : V} {v u : Value} {Q : VK}
    (I : Inv X pins τ H s) (rx : RelV x v) (ry : RelV y u) (h : rOwn C sp (Ex τ) x y H Q) : wpAny (model X.prog X.w) X.A (binaryOp op v u) (EP X pins τ Q) X.xe s := by
  obtain ⟨⟨a, dx, fs, rfl, ha⟩, hy, h⟩ := h
  cases (show v = Value.ref a from rx)
  obtain ⟨_, od, J⟩ := inst_of I ha
  obtain ⟨m, F⟩ := I.fr
  have ran : wpAny (model X.prog X.w) X.A (call (.ref f) [.ref a, u]) (PySem.W.CmpBack (EP X pins τ Q)) X.xe s :=
    wpAny_mono (run_fnS G room bd out I (.cons (show L2.RelV (.ref a) (.ref a) from rfl) (.cons ry .nil)) h) (fun _ _ z => ep_back z) fun _ _ z => z
  rcases hy with ⟨b, dy, gs, rfl, hb⟩ | ⟨n, rfl⟩
  · cases (show u = Value.ref b from ry)
    obtain ⟨_, od', J'⟩ := inst_of I hb
    exact PySem.W.binop_K F I.ok.mod.kin J J'.type first M.at_ M.fn ran
  · obtain ⟨t, rfl⟩ := (show ∃ t, u = Value.int n t from ry)
    exact PySem.W.ksp_binT F I.ok.mod.kin J (T := "int") rfl first M.at_ M.fn hr hp h1 h2 hsub ran
end

/-! ### the operators one by one -/
section
variable {X : Cx} {CX : CXT} {k : Nat} {f C : Addr} {fd : FuncData} {ps : List Str} {sp : Sp} {E : XK}
theorem d_add : dunder Operator.Add.info.2 = ("__add__" : Str) := by decide +kernel
theorem dR_add : dunderR Operator.Add.info.2 = ("__radd__" : Str) := by decide +kernel
theorem op_own_Add (M : Meth X.K C "__add__" f) (first : PySem.W.selfFirst X.K C = true) (hr : ∃ rc : Option Value, PySem.W.findIn X.K (.ref C) "__radd__" = some rc ∧ (rc = none ∨ ∃ g : Addr, rc = some (.ref g)))
    (hi : ∃ fo ro : Option Value, PySem.W.findIn X.K (.type "int") "__add__" = some fo ∧ PySem.W.findIn X.K (.type "int") "__radd__" = some ro) (hsub : PySem.W.subIn X.K (.type "int") (.ref C) = some false)
    (G : FnOk X.prog X.w X.K X.mg X.base CX k f fd ps sp) (room : Room k X.A) (bd : Binds X.K fd ps []) (out : Passes CX X E) : OpR X (binaryOp .Add) (rOwn C sp E) := by
  obtain ⟨rc, e1, e2⟩ := hr
  obtain ⟨fo, ro, e3, e4⟩ := hi
  exact op_own (op := .Add) (by rw [d_add]; exact M) first (by rw [dR_add]; exact e1) e2 (by rw [d_add]; exact e3) (by rw [dR_add]; exact e4) hsub G room bd out
theorem d_sub : dunder Operator.Sub.info.2 = ("__sub__" : Str) := by decide +kernel
theorem dR_sub : dunderR Operator.Sub.info.2 = ("__rsub__" : Str) := by decide +kernel
theorem op_own_Sub (M : Meth X.K C "__sub__" f) (first : PySem.W.selfFirst X.K C = true) (hr : ∃ rc : Option Value, PySem.W.findIn X.K (.ref C) "__rsub__" = some rc ∧ (rc = none ∨ ∃ g : Addr, rc = some (.ref g)))
    (hi : ∃ fo ro : Option Value, PySem.W.findIn X.K (.type "int") "__sub__" = some fo ∧ PySem.W.findIn X.K (.type "int") "__rsub__" = some ro) (hsub : PySem.W.subIn X.K (.type "int") (.ref C) = some false)
    (G : FnOk X.prog X.w X.K X.mg X.base CX k f fd ps sp) (room : Room k X.A) (bd : Binds X.K fd ps []) (out : Passes CX X E) : OpR X (binaryOp .Sub) (rOwn C sp E) := by
  obtain ⟨rc, e1, e2⟩ := hr
  obtain ⟨fo, ro, e3, e4⟩ := hi
  exact op_own (op := .Sub) (by rw [d_sub]; exact M) first (by rw [dR_sub]; exact e1) e2 (by rw [d_sub]; exact e3) (by rw [dR_sub]; exact e4) hsub G room bd out
theorem d_mul : dunder Operator.Mult.info.2 = ("__mul__" : Str) := by decide +kernel
theorem dR_mul : dunderR Operator.Mult.info.2 = ("__rmul__" : Str) := by decide +kernel
theorem op_own_Mult (M : Meth X.K C "__mul__" f) (first : PySem.W.selfFirst X.K C = true) (hr : ∃ rc : Option Value, PySem.W.findIn X.K (.ref C) "__rmul__" = some rc ∧ (rc = none ∨ ∃ g : Addr, rc = some (.ref g)))
    (hi : ∃ fo ro : Option Value, PySem.W.findIn X.K (.type "int") "__mul__" = some fo ∧ PySem.W.findIn X.K (.type "int") "__rmul__" = some ro) (hsub : PySem.W.subIn X.K (.type "int") (.ref C) = some false)
    (G : FnOk X.prog X.w X.K X.mg X.base CX k f fd ps sp) (room : Room k X.A) (bd : Binds X.K fd ps []) (out : Passes CX X E) : OpR X (binaryOp .Mult) (rOwn C sp E) := by
  obtain ⟨rc, e1, e2⟩ := hr
  obtain ⟨fo, ro, e3, e4⟩ := hi
  exact op_own (op := .Mult) (by rw [d_mul]; exact M) first (by rw [dR_mul]; exact e1) e2 (by rw [d_mul]; exact e3) (by rw [dR_mul]; exact e4) hsub G room bd out
theorem d_floordiv : dunder Operator.FloorDiv.info.2 = ("__floordiv__" : Str) := by decide +kernel
theorem dR_floordiv : dunderR Operator.FloorDiv.info.2 = ("__rfloordiv__" : Str) := by decide +kernel
theorem op_own_FloorDiv (M : Meth X.K C "__floordiv__" f) (first : PySem.W.selfFirst X.K C = true) (hr : ∃ rc : Option Value, PySem.W.findIn X.K (.ref C) "__rfloordiv__" = some rc ∧ (rc = none ∨ ∃ g : Addr, rc = some (.ref g)))
    (hi : ∃ fo ro : Option Value, PySem.W.findIn X.K (.type "int") "__floordiv__" = some fo ∧ PySem.W.findIn X.K (.type "int") "__rfloordiv__" = some ro) (hsub : PySem.W.subIn X.K (.type "int") (.ref C) = some false)
    (G : FnOk X.prog X.w X.K X.mg X.base CX k f fd ps sp) (room : Room k X.A) (bd : Binds X.K fd ps []) (out : Passes CX X E) : OpR X (binaryOp .FloorDiv) (rOwn C sp E) := by
  obtain ⟨rc, e1, e2⟩ := hr
  obtain ⟨fo, ro, e3, e4⟩ := hi
  exact op_own (op := .FloorDiv) (by rw [d_floordiv]; exact M) first (by rw [dR_floordiv]; exact e1) e2 (by rw [d_floordiv]; exact e3) (by rw [dR_floordiv]; exact e4) hsub G room bd out
theorem d_mod : dunder Operator.Mod.info.2 = ("__mod__" : Str) := by decide +kernel
theorem dR_mod : dunderR Operator.Mod.info.2 = ("__rmod__" : Str) := by decide +kernel
theorem op_own_Mod (M : Meth X.K C "__mod__" f) (first : PySem.W.selfFirst X.K C = true) (hr : ∃ rc : Option Value, PySem.W.findIn X.K (.ref C) "__rmod__" = some rc ∧ (rc = none ∨ ∃ g : Addr, rc = some (.ref g)))
    (hi : ∃ fo ro : Option Value, PySem.W.findIn X.K (.type "int") "__mod__" = some fo ∧ PySem.W.findIn X.K (.type "int") "__rmod__" = some ro) (hsub : PySem.W.subIn X.K (.type "int") (.ref C) = some false)
    (G : FnOk X.prog X.w X.K X.mg X.base CX k f fd ps sp) (room : Room k X.A) (bd : Binds X.K fd ps []) (out : Passes CX X E) : OpR X (binaryOp .Mod) (rOwn C sp E) := by
  obtain ⟨rc, e1, e2⟩ := hr
  obtain ⟨fo, ro, e3, e4⟩ := hi
  exact op_own (op := .Mod) (by rw [d_mod]; exact M) first (by rw [dR_mod]; exact e1) e2 (by rw [d_mod]; exact e3) (by rw [dR_mod]; exact e4) hsub G room bd out
theorem op_ref_Add (M : Meth X.K C "__radd__" f) (first : PySem.W.selfFirst X.K C = true) (own : ∃ f0 : Addr, PySem.W.findIn X.K (.ref C) "__add__" = some (some (.ref f0))) (hsub : PySem.W.subIn X.K (.ref C) (.type "int") = some false)
    (G : FnOk X.prog X.w X.K X.mg X.base CX k f fd ps sp) (room : Room k X.A) (bd : Binds X.K fd ps []) (out : Passes CX X E) : OpR X (binaryOp .Add) (rRef C sp E) := by
  obtain ⟨f0, e1⟩ := own
  exact op_ref (op := .Add) (by rw [dR_add]; exact M) first (by rw [d_add]; exact e1) hsub PySem.F.slot_int_add PySem.F.entry_int_add PySem.F.args_int_add_2 (by kernel_rfl) G room bd out
theorem op_ref_Sub (M : Meth X.K C "__rsub__" f) (first : PySem.W.selfFirst X.K C = true) (own : ∃ f0 : Addr, PySem.W.findIn X.K (.ref C) "__sub__" = some (some (.ref f0))) (hsub : PySem.W.subIn X.K (.ref C) (.type "int") = some false)
    (G : FnOk X.prog X.w X.K X.mg X.base CX k f fd ps sp) (room : Room k X.A) (bd : Binds X.K fd ps []) (out : Passes CX X E) : OpR X (binaryOp .Sub) (rRef C sp E) := by
  obtain ⟨f0, e1⟩ := own
  exact op_ref (op := .Sub) (by rw [dR_sub]; exact M) first (by rw [d_sub]; exact e1) hsub PySem.F.slot_int_sub PySem.F.entry_int_sub PySem.F.args_int_sub_2 (by kernel_rfl) G room bd out
theorem op_ref_Mult (M : Meth X.K C "__rmul__" f) (first : PySem.W.selfFirst X.K C = true) (own : ∃ f0 : Addr, PySem.W.findIn X.K (.ref C) "__mul__" = some (some (.ref f0))) (hsub : PySem.W.subIn X.K (.ref C) (.type "int") = some false)
    (G : FnOk X.prog X.w X.K X.mg X.base CX k f fd ps sp) (room : Room k X.A) (bd : Binds X.K fd ps []) (out : Passes CX X E) : OpR X (binaryOp .Mult) (rRef C sp E) := by
  obtain ⟨f0, e1⟩ := own
  exact op_ref (op := .Mult) (by rw [dR_mul]; exact M) first (by rw [d_mul]; exact e1) hsub PySem.F.slot_int_mul PySem.F.entry_int_mul PySem.F.args_int_mul_2 (by kernel_rfl) G room bd out
end
section
variable {X : Cx} {CX : CXT} {k : Nat} {f C : Addr} {fd : FuncData} {ps : List Str} {sp : Sp} {Ex : L2.St → XK} {a b : Expr} {ta tb : TE} {pos : Pos}
theorem pe_ownT_FloorDiv (M : Meth X.K C "__floordiv__" f) (first : PySem.W.selfFirst X.K C = true) (hr : ∃ rc : Option Value, PySem.W.findIn X.K (.ref C) "__rfloordiv__" = some rc ∧ (rc = none ∨ ∃ g : Addr, rc = some (.ref g)))
    (hi : ∃ fo ro : Option Value, PySem.W.findIn X.K (.type "int") "__floordiv__" = some fo ∧ PySem.W.findIn X.K (.type "int") "__rfloordiv__" = some ro) (hsub : PySem.W.subIn X.K (.type "int") (.ref C) = some false)
    (G : FnOk X.prog X.w X.K X.mg X.base CX k f fd ps sp) (room : Room k X.A) (bd : Binds X.K fd ps []) (out : ∀ τ, PassesAt CX X τ (Ex τ)) (ha : PE X a ta) (hb : PE X b tb) : PE X (.BinOp a .FloorDiv b pos) (tOwnT C sp Ex ta tb) := by
  obtain ⟨rc, e1, e2⟩ := hr
  obtain ⟨fo, ro, e3, e4⟩ := hi
  refine ⟨fun pn st τ H Q J h => wpAny_BinOp (binT ha hb J h fun v u s2 x y H2 J2 rx ry go => ?_)⟩
  exact own_at (op := .FloorDiv) (by rw [d_floordiv]; exact M) first (by rw [dR_floordiv]; exact e1) e2 (by rw [d_floordiv]; exact e3) (by rw [dR_floordiv]; exact e4) hsub G room bd (out τ) J2 rx ry go
theorem pe_ownT_Mod (M : Meth X.K C "__mod__" f) (first : PySem.W.selfFirst X.K C = true) (hr : ∃ rc : Option Value, PySem.W.findIn X.K (.ref C) "__rmod__" = some rc ∧ (rc = none ∨ ∃ g : Addr, rc = some (.ref g)))
    (hi : ∃ fo ro : Option Value, PySem.W.findIn X.K (.type "int") "__mod__" = some fo ∧ PySem.W.findIn X.K (.type "int") "__rmod__" = some ro) (hsub : PySem.W.subIn X.K (.type "int") (.ref C) = some false)
    (G : FnOk X.prog X.w X.K X.mg X.base CX k f fd ps sp) (room : Room k X.A) (bd : Binds X.K fd ps []) (out : ∀ τ, PassesAt CX X τ (Ex τ)) (ha : PE X a ta) (hb : PE X b tb) : PE X (.BinOp a .Mod b pos) (tOwnT C sp Ex ta tb) := by
  obtain ⟨rc, e1, e2⟩ := hr
  obtain ⟨fo, ro, e3, e4⟩ := hi
  refine ⟨fun pn st τ H Q J h => wpAny_BinOp (binT ha hb J h fun v u s2 x y H2 J2 rx ry go => ?_)⟩
  exact own_at (op := .Mod) (by rw [d_mod]; exact M) first (by rw [dR_mod]; exact e1) e2 (by rw [d_mod]; exact e3) (by rw [dR_mod]; exact e4) hsub G room bd (out τ) J2 rx ry go
end

/-! ### x op y where x is an int or an instance, y an instance (or, behind an instance, an int) -/
section
variable {X : Cx} {CX : CXT} {k j : Nat} {f g C : Addr} {fd gd : FuncData} {ps qs : List Str} {sp sq : Sp} {E : XK}
def rAny (C : Addr) (sp sq : Sp) (E : XK) : R2 := fun x y H Q => rOwn C sp E x y H Q ∨ rRef C sq E x y H Q
theorem op_any_Add (M : Meth X.K C "__add__" f) (N : Meth X.K C "__radd__" g) (first : PySem.W.selfFirst X.K C = true) (hi : ∃ fo ro : Option Value, PySem.W.findIn X.K (.type "int") "__add__" = some fo ∧ PySem.W.findIn X.K (.type "int") "__radd__" = some ro)
    (si : PySem.W.subIn X.K (.type "int") (.ref C) = some false) (sr : PySem.W.subIn X.K (.ref C) (.type "int") = some false) (G : FnOk X.prog X.w X.K X.mg X.base CX k f fd ps sp) (G2 : FnOk X.prog X.w X.K X.mg X.base CX j g gd qs sq)
    (room : Room k X.A) (room2 : Room j X.A) (bd : Binds X.K fd ps []) (bd2 : Binds X.K gd qs []) (out : Passes CX X E) : OpR X (binaryOp .Add) (rAny C sp sq E) := by
  intro pins s σ H x y v u Q I rx ry h
  rcases h with h | h
  · exact op_own_Add M first ⟨_, N.at_, .inr ⟨_, rfl⟩⟩ hi si G room bd out pins s σ H x y v u Q I rx ry h
  · exact op_ref_Add N first ⟨_, M.at_⟩ sr G2 room2 bd2 out pins s σ H x y v u Q I rx ry h
theorem op_any_Sub (M : Meth X.K C "__sub__" f) (N : Meth X.K C "__rsub__" g) (first : PySem.W.selfFirst X.K C = true) (hi : ∃ fo ro : Option Value, PySem.W.findIn X.K (.type "int") "__sub__" = some fo ∧ PySem.W.findIn X.K (.type "int") "__rsub__" = some ro)
    (si : PySem.W.subIn X.K (.type "int") (.ref C) = some false) (sr : PySem.W.subIn X.K (.ref C) (.type "int") = some false) (G : FnOk X.prog X.w X.K X.mg X.base CX k f fd ps sp) (G2 : FnOk X.prog X.w X.K X.mg X.base CX j g gd qs sq)
    (room : Room k X.A) (room2 : Room j X.A) (bd : Binds X.K fd ps []) (bd2 : Binds X.K gd qs []) (out : Passes CX X E) : OpR X (binaryOp .Sub) (rAny C sp sq E) := by
  intro pins s σ H x y v u Q I rx ry h
  rcases h with h | h
  · exact op_own_Sub M first ⟨_, N.at_, .inr ⟨_, rfl⟩⟩ hi si G room bd out pins s σ H x y v u Q I rx ry h
  · exact op_ref_Sub N first ⟨_, M.at_⟩ sr G2 room2 bd2 out pins s σ H x y v u Q I rx ry h
theorem op_any_Mult (M : Meth X.K C "__mul__" f) (N : Meth X.K C "__rmul__" g) (first : PySem.W.selfFirst X.K C = true) (hi : ∃ fo ro : Option Value, PySem.W.findIn X.K (.type "int") "__mul__" = some fo ∧ PySem.W.findIn X.K (.type "int") "__rmul__" = some ro)
    (si : PySem.W.subIn X.K (.type "int") (.ref C) = some false) (sr : PySem.W.subIn X.K (.ref C) (.type "int") = some false) (G : FnOk X.prog X.w X.K X.mg X.base CX k f fd ps sp) (G2 : FnOk X.prog X.w X.K X.mg X.base CX j g gd qs sq)
    (room : Room k X.A) (room2 : Room j X.A) (bd : Binds X.K fd ps []) (bd2 : Binds X.K gd qs []) (out : Passes CX X E) : OpR X (binaryOp .Mult) (rAny C sp sq E) := by
  intro pins s σ H x y v u Q I rx ry h
  rcases h with h | h
  · exact op_own_Mult M first ⟨_, N.at_, .inr ⟨_, rfl⟩⟩ hi si G room bd out pins s σ H x y v u Q I rx ry h
  · exact op_ref_Mult N first ⟨_, M.at_⟩ sr G2 room2 bd2 out pins s σ H x y v u Q I rx ry h
end

/-! ### the drawn numbers -/
theorem cut_map (ps : List Int) (lo hi : Option Int) : ∃ ms : List Int, cutV (ps.map V.int) lo hi = ms.map V.int ∧ ∀ m ∈ ms, m ∈ ps := by
  unfold cutV
  refine ⟨(ps.drop (HT.sIx (ps.map V.int).length 0 lo)).take (HT.sIx (ps.map V.int).length (ps.map V.int).length hi - HT.sIx (ps.map V.int).length 0 lo), ?_, fun m hm => ?_⟩
  · rw [List.map_take, List.map_drop]
  · exact List.mem_of_mem_drop (List.mem_of_mem_take hm)
theorem within_rep {ds : List Int} {n : Nat} {b : Int} (h : Within ds (List.replicate n b)) : ∀ d ∈ ds, 0 ≤ d ∧ d < b := by
  induction n generalizing ds with
  | zero =>
    cases h.n
    intro d hd
    cases hd
  | succ n ih =>
    obtain ⟨d, r, rfl, h0, h1, w⟩ := Within.c (show Within ds (b :: List.replicate n b) from h)
    intro x hx
    rcases List.mem_cons.mp hx with rfl | hx
    · exact ⟨h0, h1⟩
    · exact ih w x hx
theorem five {α : Type} {xs : List α} (h : xs.length = 5) : ∃ a b c d e, xs = [a, b, c, d, e] := by
  rcases xs with _ | ⟨a, _ | ⟨b, _ | ⟨c, _ | ⟨d, _ | ⟨e, _ | ⟨f, r⟩⟩⟩⟩⟩⟩ <;> simp at h
  exact ⟨a, b, c, d, e, rfl⟩
theorem sm60 {t : Int} (h : t.natAbs < 10 ^ 60) : Sm t := sm_of (n := 200) (Nat.lt_trans h (by decide))
theorem sm120 {t : Int} (h : t.natAbs ≤ 10 ^ 120) : Sm t := sm_of (n := 400) (Nat.lt_of_le_of_lt h (by decide))
theorem p120 {a b : Int} (h : a.natAbs < 10 ^ 60) (h' : b.natAbs < 10 ^ 60) : (a * b).natAbs ≤ 10 ^ 120 := by
  rw [Int.natAbs_mul]
  exact Nat.le_trans (Nat.mul_le_mul (Nat.le_of_lt h) (Nat.le_of_lt h')) (by decide)

def RowOk (C : Addr) (H : Hp) (v : V) : Prop := ∃ (tp r : Addr) (t b T B : Int), v = .ref tp ∧ H tp = some (.tup [.ref r, .int t, .int b]) ∧ RatAt C H r T B ∧ LowT t b T B ∧ t.natAbs ≤ 2 * 10 ^ 120 ∧ b.natAbs ≤ 10 ^ 120 ∧ 0 ≤ b
theorem RowOk.keep {C : Addr} {H H' : Hp} {v : V} (k : ∀ c o, H c = some o → (∀ xs, o ≠ .lst xs) → H' c = some o) (h : RowOk C H v) : RowOk C H' v := by
  obtain ⟨tp, r, t, b, T, B, e, h1, ⟨dx, h2⟩, rest⟩ := h
  exact ⟨tp, r, t, b, T, B, e, k _ _ h1 (fun xs z => by cases z), ⟨dx, k _ _ h2 (fun xs z => by cases z)⟩, rest⟩
structure Mid (C one two L : Addr) (T1 B1 T2 B2 : Int) (n : Nat) (H : Hp) (xs : List V) : Prop where
  at_ : H L = some (.lst xs)
  len : xs.length = n
  all : ∀ v ∈ xs, RowOk C H v
  o : RatAt C H one T1 B1
  t : RatAt C H two T2 B2
theorem row_add {C one two L : Addr} {T1 B1 T2 B2 : Int} {n : Nat} {H Hr : Hp} {xs : List V} {r p : Addr} {t b T B : Int} (m : Mid C one two L T1 B1 T2 B2 n H xs) (e : Same H Hr) (rr : RatAt C Hr r T B) (np : Hr p = none) (lo : LowT t b T B)
    (ht : t.natAbs ≤ 2 * 10 ^ 120) (hb : b.natAbs ≤ 10 ^ 120) (h0 : 0 ≤ b) : Mid C one two L T1 B1 T2 B2 (n + 1) (upd (upd Hr p (.tup [.ref r, .int t, .int b])) L (.lst (xs ++ [.ref p]))) (xs ++ [.ref p]) := by
  have hL := e _ _ m.at_
  have k : ∀ c o, Hr c = some o → (∀ xs, o ≠ .lst xs) → (upd (upd Hr p (.tup [.ref r, .int t, .int b])) L (.lst (xs ++ [.ref p]))) c = some o := fun c o hc ho => by
    have h1 : c ≠ L := fun z => by
      rw [z, hL] at hc
      cases hc
      exact ho _ rfl
    rw [upd_ne h1, upd_ne (ne_of_none hc np)]
    exact hc
  refine ⟨upd_same, ?_, fun v hv => ?_, ?_, ?_⟩
  · rw [List.length_append, m.len]
    rfl
  · rcases List.mem_append.mp hv with hv | hv
    · exact (m.all v hv).keep fun c o hc ho => k c o (e c o hc) ho
    · obtain ⟨dx, hr⟩ := rr
      have pL : p ≠ L := fun z => by
        rw [z, hL] at np
        cases np
      exact ⟨p, r, t, b, T, B, List.mem_singleton.mp hv, by rw [upd_ne pL, upd_same], ⟨dx, k _ _ hr fun xs z => by cases z⟩, lo, ht, hb, h0⟩
  · obtain ⟨dx, h⟩ := m.o
    exact ⟨dx, k _ _ (e _ _ h) fun xs z => by cases z⟩
  · obtain ⟨dx, h⟩ := m.t
    exact ⟨dx, k _ _ (e _ _ h) fun xs z => by cases z⟩
theorem sum120 {a b c d : Int} (h1 : a.natAbs < 10 ^ 60) (h2 : b.natAbs < 10 ^ 60) (h3 : c.natAbs < 10 ^ 60) (h4 : d.natAbs < 10 ^ 60) : (a * b + c * d).natAbs ≤ 2 * 10 ^ 120 ∧ (a * b - c * d).natAbs ≤ 2 * 10 ^ 120 := by
  have x := p120 h1 h2
  have y := p120 h3 h4
  omega
theorem sum60 {a c d : Int} (h1 : a.natAbs < 10 ^ 60) (h3 : c.natAbs < 10 ^ 60) (h4 : d.natAbs < 10 ^ 60) : (a + c * d).natAbs ≤ 2 * 10 ^ 120 ∧ (a - c * d).natAbs ≤ 2 * 10 ^ 120 ∧ (c * d - a).natAbs ≤ 2 * 10 ^ 120 := by
  have y := p120 h3 h4
  have : (10 : Nat) ^ 60 ≤ 10 ^ 120 := by decide
  omega

theorem RatAt.ins {C : Addr} {H : Hp} {p : Addr} {T B : Int} (h : RatAt C H p T B) : H p = some (.ins C (h.choose) (rF T B)) := h.choose_spec
theorem abs_eq {T B t b : Int} (h : T * b = t * B) (hb : 0 < b) (hB : 0 < B) : (if T < 0 then -T else T) * b = (if t < 0 then -t else t) * B := by
  by_cases h1 : T < 0
  · have h2 : t < 0 := by
      by_cases z : t < 0
      · exact z
      · have := Int.mul_nonneg (show 0 ≤ t by omega) (Int.le_of_lt hB)
        have := Int.mul_neg_of_neg_of_pos h1 hb
        omega
    rw [if_pos h1, if_pos h2]
    grind
  · have h2 : ¬ t < 0 := fun z => by
      have := Int.mul_neg_of_neg_of_pos z hB
      have := Int.mul_nonneg (show 0 ≤ T by omega) (Int.le_of_lt hb)
      omega
    rw [if_neg h1, if_neg h2]
    exact h

theorem rF_no (T B : Int) {m : Str} (h1 : (m == ("top" : Str)) = false) (h2 : (m == ("bottom" : Str)) = false) : (rF T B).lookup m = none := (lk_two h1).trans ((lk_two h2).trans rfl)
/-- two numbers of a quotient, small enough -/
structure Two (C : Addr) (H : Hp) (p : Addr) (y : V) (T1 B1 T2 B2 : Int) : Prop where
  a : RatAt C H p T1 B1
  b : NumAt C H y T2 B2
  p1 : 0 < B1
  p2 : 0 < B2
  s1 : T1.natAbs < 10 ^ 60
  s2 : B1.natAbs < 10 ^ 60
  s3 : T2.natAbs < 10 ^ 60
  s4 : B2.natAbs < 10 ^ 60
theorem Two.same {C : Addr} {H H' : Hp} {p : Addr} {y : V} {T1 B1 T2 B2 : Int} (s : Same H H') (h : Two C H p y T1 B1 T2 B2) : Two C H' p y T1 B1 T2 B2 := ⟨h.a.same s, h.b.same s, h.p1, h.p2, h.s1, h.s2, h.s3, h.s4⟩
/-! ### comparisons of an own class -/
section
variable {prog : Program} {w : World} {A : Around} {E : Value → Shared → Prop} {s : Shared} {K : PySem.W.Frag}
/-- n op a: the int's own comparison declines, then a's mirrored one is asked -/
theorem cmp_refl {op : CmpOp} {id nm : String} {g : Int → Int → Sem Fin} {n : Int} {t : Tok} {a C dx f : Addr} {od : Option Obj} {Q : Value → Shared → Prop} (hu : A.units < cLine) (X : K.In s.heap) (ha : s.heap.get? a = some (PySem.W.instObj C dx))
    (J : PySem.W.InstAt s.heap a (PySem.W.instObj C dx) C od) (slot : Slot "int" (cmpInfo op).2.1 id) (entry : entryFor table id = some (Builtin.Int.intBinary nm g)) (args : argsOk id ⟨[.int n t, .ref a], []⟩) (sub : PySem.W.subIn K (.ref C) (.type "int") = some false)
    (hr : PySem.W.findIn K (.ref C) (cmpInfo op).2.2 = some (some (.ref f))) (hf : PySem.W.isFn K (.ref f) = true) (one : oneThing? op (.int n t) (.ref a) = none)
    (h : wpAny (model prog w) A (call (.ref f) [.ref a, .int n t]) (PySem.W.CmpBack Q) E s) : wpAny (model prog w) A (richCompare op (.int n t) (.ref a)) Q E s := by
  have back : wpAny (model prog w) A (tryCompare (.ref a) (cmpInfo op).2.2 (.int n t)) (fun r s' => ∃ v, r = some v ∧ Q v s') E s := by
    unfold tryCompare
    refine wpAny_bind (PySem.W.ifBound_K X J hr hf (wpAny_mono h (fun v s' z => ?_) fun _ _ z => z))
    cases v <;> first
      | exact z.elim
      | exact wpAny_pure ⟨_, rfl, z⟩
  rcases hi : cmpInfo op with ⟨sym, fw, bw⟩
  rw [hi] at slot back
  dsimp only at slot back
  have ne : (Value.type "int" != Value.ref C) = true := by
    rw [bne, Bool.not_eq_true']
    exact Bool.eq_false_iff.mpr fun z => by cases beq_iff_eq.mp z
  unfold richCompare
  simp only [one, hi]
  refine wpAny_holding (wpAny_bind (wpAny_cRoomFor hu ?_))
  refine wpAny_bind (wpAny_typeOf (T := "int") (by exact rfl) (wpAny_bind (J.type.here ?_)))
  simp only [ne, if_true]
  refine wpAny_bind ((PySem.W.looks_subIn X sub).here ?_)
  simp only [Bool.false_eq_true, if_false, Bool.not_false, if_true]
  refine wpAny_bind (wpAny_tryCompare_declines (T := "int") (by exact rfl) slot (declines_bin ha slot entry args ⟨rfl, ?_⟩))
  dsimp only
  refine wpAny_bind (wpAny_mono back (fun r s' z => ?_) fun _ _ z => z)
  obtain ⟨v, rfl, q⟩ := z
  exact wpAny_pure q
end
section
variable {X : Cx} {CX : CXT} {k j : Nat} {f g C : Addr} {fd gd : FuncData} {ps qs : List Str} {sp sq : Sp} {E : XK}
/-- x op y by the class's comparison, or, where x is an int, by the mirrored one -/
def rCmp (C : Addr) (sp sq : Sp) (E : XK) : R2 := fun x y H Q => rOwn C sp E x y H Q ∨ rRef C sq E x y H Q
theorem op_cmp {op : CmpOp} {id nm : String} {gg : Int → Int → Sem Fin} (M : Meth X.K C (cmpInfo op).2.1 f) (N : Meth X.K C (cmpInfo op).2.2 g) (si : PySem.W.subIn X.K (.type "int") (.ref C) = some false) (sr : PySem.W.subIn X.K (.ref C) (.type "int") = some false)
    (slot : Slot "int" (cmpInfo op).2.1 id) (entry : entryFor table id = some (Builtin.Int.intBinary nm gg)) (args : ∀ a b, argsOk id ⟨[a, b], []⟩) (one : ∀ n t a, oneThing? op (.int n t) (.ref a) = none)
    (is : ∀ a b : Value, compareOp op a b = richCompare op a b)
    (G : FnOk X.prog X.w X.K X.mg X.base CX k f fd ps sp) (G2 : FnOk X.prog X.w X.K X.mg X.base CX j g gd qs sq) (room : Room k X.A) (room2 : Room j X.A) (bd : Binds X.K fd ps []) (bd2 : Binds X.K gd qs []) (out : Passes CX X E) : OpR X (compareOp op) (rCmp C sp sq E) := by
  intro pins s σ H x y v u Q I rx ry h
  rw [is]
  obtain ⟨m, F⟩ := I.fr
  rcases h with ⟨⟨a, dx, fs, rfl, ha⟩, hy, h⟩ | ⟨⟨n, rfl⟩, ⟨a, dx, fs, rfl, ha⟩, h⟩
  · cases (show v = Value.ref a from rx)
    obtain ⟨_, od, J⟩ := inst_of I ha
    have ran : wpAny (model X.prog X.w) X.A (call (.ref f) [.ref a, u]) (PySem.W.CmpBack (EP X pins σ Q)) X.xe s :=
      wpAny_mono (run_fn (ds := []) G room bd .nil out I (.cons (show L2.RelV (.ref a) (.ref a) from rfl) (.cons ry .nil)) h) (fun _ _ z => ep_back z) fun _ _ z => z
    rcases hy with ⟨b, dy, gs, rfl, hb⟩ | ⟨n, rfl⟩
    · cases (show u = Value.ref b from ry)
      obtain ⟨_, od', J'⟩ := inst_of I hb
      exact PySem.W.cmp_K room.units0 F I.ok.mod.kin J J'.type (by unfold PySem.W.notFirst; rw [beq_self_eq_true]; rfl) M.at_ M.fn ran
    · obtain ⟨t, rfl⟩ := (show ∃ t, u = Value.int n t from ry)
      exact PySem.W.cmp_K (tb := .type "int") room.units0 F I.ok.mod.kin J (PySem.W.Looks.of_pure rfl) (by unfold PySem.W.notFirst; rw [si]; simp) M.at_ M.fn ran
  · cases (show u = Value.ref a from ry)
    obtain ⟨t, rfl⟩ := (show ∃ t, v = Value.int n t from rx)
    obtain ⟨ho, od, J⟩ := inst_of I ha
    have ran : wpAny (model X.prog X.w) X.A (call (.ref g) [.ref a, .int n t]) (PySem.W.CmpBack (EP X pins σ Q)) X.xe s :=
      wpAny_mono (run_fn (ds := []) G2 room2 bd2 .nil out I (.cons (show L2.RelV (.ref a) (.ref a) from rfl) (.cons rx .nil)) h) (fun _ _ z => ep_back z) fun _ _ z => z
    exact cmp_refl room.units0 I.kIn ho J slot entry (args _ _) sr N.at_ N.fn (one n t a) ran
theorem dc_lt : (cmpInfo .Lt).2.1 = ("__lt__" : Str) := by decide +kernel
theorem dm_lt : (cmpInfo .Lt).2.2 = ("__gt__" : Str) := by decide +kernel
theorem op_cmp_Lt (M : Meth X.K C "__lt__" f) (N : Meth X.K C "__gt__" g) (si : PySem.W.subIn X.K (.type "int") (.ref C) = some false) (sr : PySem.W.subIn X.K (.ref C) (.type "int") = some false)
    (G : FnOk X.prog X.w X.K X.mg X.base CX k f fd ps sp) (G2 : FnOk X.prog X.w X.K X.mg X.base CX j g gd qs sq) (room : Room k X.A) (room2 : Room j X.A) (bd : Binds X.K fd ps []) (bd2 : Binds X.K gd qs []) (out : Passes CX X E) : OpR X (compareOp .Lt) (rCmp C sp sq E) :=
  op_cmp (op := .Lt) (by rw [dc_lt]; exact M) (by rw [dm_lt]; exact N) si sr PySem.F.slot_int_lt PySem.F.entry_int_lt PySem.F.args_int_lt_2 (fun _ _ _ => by rfl) (fun _ _ => rfl) G G2 room room2 bd bd2 out
theorem dc_le : (cmpInfo .LtE).2.1 = ("__le__" : Str) := by decide +kernel
theorem dm_le : (cmpInfo .LtE).2.2 = ("__ge__" : Str) := by decide +kernel
theorem op_cmp_LtE (M : Meth X.K C "__le__" f) (N : Meth X.K C "__ge__" g) (si : PySem.W.subIn X.K (.type "int") (.ref C) = some false) (sr : PySem.W.subIn X.K (.ref C) (.type "int") = some false)
    (G : FnOk X.prog X.w X.K X.mg X.base CX k f fd ps sp) (G2 : FnOk X.prog X.w X.K X.mg X.base CX j g gd qs sq) (room : Room k X.A) (room2 : Room j X.A) (bd : Binds X.K fd ps []) (bd2 : Binds X.K gd qs []) (out : Passes CX X E) : OpR X (compareOp .LtE) (rCmp C sp sq E) :=
  op_cmp (op := .LtE) (by rw [dc_le]; exact M) (by rw [dm_le]; exact N) si sr PySem.F.slot_int_le PySem.F.entry_int_le PySem.F.args_int_le_2 (fun _ _ _ => by rfl) (fun _ _ => rfl) G G2 room room2 bd bd2 out
theorem dc_gt : (cmpInfo .Gt).2.1 = ("__gt__" : Str) := by decide +kernel
theorem dm_gt : (cmpInfo .Gt).2.2 = ("__lt__" : Str) := by decide +kernel
theorem op_cmp_Gt (M : Meth X.K C "__gt__" f) (N : Meth X.K C "__lt__" g) (si : PySem.W.subIn X.K (.type "int") (.ref C) = some false) (sr : PySem.W.subIn X.K (.ref C) (.type "int") = some false)
    (G : FnOk X.prog X.w X.K X.mg X.base CX k f fd ps sp) (G2 : FnOk X.prog X.w X.K X.mg X.base CX j g gd qs sq) (room : Room k X.A) (room2 : Room j X.A) (bd : Binds X.K fd ps []) (bd2 : Binds X.K gd qs []) (out : Passes CX X E) : OpR X (compareOp .Gt) (rCmp C sp sq E) :=
  op_cmp (op := .Gt) (by rw [dc_gt]; exact M) (by rw [dm_gt]; exact N) si sr PySem.F.slot_int_gt PySem.F.entry_int_gt PySem.F.args_int_gt_2 (fun _ _ _ => by rfl) (fun _ _ => rfl) G G2 room room2 bd bd2 out
theorem dc_ge : (cmpInfo .GtE).2.1 = ("__ge__" : Str) := by decide +kernel
theorem dm_ge : (cmpInfo .GtE).2.2 = ("__le__" : Str) := by decide +kernel
theorem op_cmp_GtE (M : Meth X.K C "__ge__" f) (N : Meth X.K C "__le__" g) (si : PySem.W.subIn X.K (.type "int") (.ref C) = some false) (sr : PySem.W.subIn X.K (.ref C) (.type "int") = some false)
    (G : FnOk X.prog X.w X.K X.mg X.base CX k f fd ps sp) (G2 : FnOk X.prog X.w X.K X.mg X.base CX j g gd qs sq) (room : Room k X.A) (room2 : Room j X.A) (bd : Binds X.K fd ps []) (bd2 : Binds X.K gd qs []) (out : Passes CX X E) : OpR X (compareOp .GtE) (rCmp C sp sq E) :=
  op_cmp (op := .GtE) (by rw [dc_ge]; exact M) (by rw [dm_ge]; exact N) si sr PySem.F.slot_int_ge PySem.F.entry_int_ge PySem.F.args_int_ge_2 (fun _ _ _ => by rfl) (fun _ _ => rfl) G G2 room room2 bd bd2 out
theorem dc_eq : (cmpInfo .Eq).2.1 = ("__eq__" : Str) := by decide +kernel
theorem dm_eq : (cmpInfo .Eq).2.2 = ("__eq__" : Str) := by decide +kernel
theorem op_cmp_Eq (M : Meth X.K C "__eq__" f) (N : Meth X.K C "__eq__" g) (si : PySem.W.subIn X.K (.type "int") (.ref C) = some false) (sr : PySem.W.subIn X.K (.ref C) (.type "int") = some false)
    (G : FnOk X.prog X.w X.K X.mg X.base CX k f fd ps sp) (G2 : FnOk X.prog X.w X.K X.mg X.base CX j g gd qs sq) (room : Room k X.A) (room2 : Room j X.A) (bd : Binds X.K fd ps []) (bd2 : Binds X.K gd qs []) (out : Passes CX X E) : OpR X (compareOp .Eq) (rCmp C sp sq E) :=
  op_cmp (op := .Eq) (by rw [dc_eq]; exact M) (by rw [dm_eq]; exact N) si sr PySem.F.slot_int_eq PySem.F.entry_int_eq PySem.F.args_int_eq_2 (fun _ _ _ => by rfl) (fun _ _ => rfl) G G2 room room2 bd bd2 out
end

/-! ### bool(a) by the class's own -/
section
variable {prog : Program} {w : World}
theorem bool_new_in (x : Value) : MeetsIn prog w (Builtin.«bool.__new__» ⟨[.type "bool", x], []⟩) (fun A R s => wpAny (model prog w) A.in1 (truthy x) (fun b s' => R (.ok (.ret (.bool b))) s') (fun e s' => R (.error e) s') s) :=
  .of_wp fun A R s h => by
    obtain ⟨hp, g, d, tk, os⟩ := s
    have f1 := F.conv_sub_bool
    repeat (any_goals (first
      | assumption
      | (with_reducible refine wpAny_mono h (fun b s' z => ?_) fun _ _ z => z)
      | wp_step))
    all_goals first
      | exact ⟨_, rfl, z⟩
      | skip
end
section
variable {X : Cx} {CX : CXT} {k : Nat} {f C : Addr} {fd : FuncData} {ps : List Str} {sp : Sp} {E : XK}
def rBoolO (C : Addr) (sp : Sp) (E : XK) : List V → Hp → VK → Prop := fun xs H Q => ∃ a dx fs, xs = [.ref a] ∧ H a = some (.ins C dx fs) ∧ sp [.ref a] H (fun v H' => ∃ b, v = .bl b ∧ Q (.bl b) H') E
theorem call_boolO (M : Meth X.K C "__bool__" f) (G : FnOk X.prog X.w X.K X.mg X.base CX k f fd ps sp) (room : Room (k + 2) X.A) (bd : Binds X.K fd ps []) (out : Passes CX X E) : CallR X (.type "bool") (rBoolO C sp E) := by
  intro pins s σ H xs us Q I r h
  obtain ⟨a, dx, fs, rfl, ha, h⟩ := h
  obtain ⟨u, rfl, rx⟩ := vals1 r
  cases (show u = Value.ref a from rx)
  obtain ⟨_, od, J⟩ := inst_of I ha
  obtain ⟨m, F⟩ := I.fr
  refine callType_newIn PySem.F.called_bool PySem.F.newNe_bool (PySem.F.typeCall_bool_1 _) (PySem.F.newCall_bool_1 _) (fun obj => PySem.F.args_object_init_2 obj _) PySem.F.entry_bool_new (bool_new_in (.ref a)) ?_
  refine PySem.W.truthy_K F I.ok.mod.kin J M.at_ M.fn (wpAny_mono (run_in (B := X.A.in1.in1) G (room.in1.in1) rfl bd out I (.cons (show L2.RelV (.ref a) (.ref a) from rfl) .nil) h) (fun v s' z => ?_) fun _ _ z => z)
  obtain ⟨v', H', I', rv, b, rfl, q⟩ := z
  cases (show v = Value.bool b from rv)
  exact ⟨rfl, .bl b, H', I', rfl, q⟩
end

def bl4 (a b c d : Bool) : List V := [.bl a, .bl b, .bl c, .bl d]
theorem kBB : kitB "bool" "bool" = some true := by decide +kernel
theorem sm100 {x : Int} (h : x.natAbs ≤ 10 ^ 100) : Sm x := sm_of (n := 400) (Nat.lt_of_le_of_lt h (by decide))

theorem bz {a : Int} {n : Nat} (h : a.natAbs < 10 ^ n) (hn : n ≤ 100) : a.natAbs ≤ 10 ^ 100 := Nat.le_trans (Nat.le_of_lt h) (Nat.pow_le_pow_right (by decide) hn)
theorem b90 {a c : Int} (h : a.natAbs < 10 ^ 60) (h' : c.natAbs ≤ 10 ^ 30) : (a * c).natAbs ≤ 10 ^ 90 := by
  rw [Int.natAbs_mul]
  exact Nat.le_trans (Nat.mul_le_mul (Nat.le_of_lt h) h') (by decide)
theorem cross {T1 B1 T2 B2 t1 b1 t2 b2 : Int} (z1 : 0 < B1) (z2 : 0 < B2) (c1 : 0 < b1) (c2 : 0 < b2) (f1 : T1 * b1 = t1 * B1) (f2 : T2 * b2 = t2 * B2) : (T1 * B2 < T2 * B1 ↔ t1 * b2 < t2 * b1) ∧ (T1 * B2 ≤ T2 * B1 ↔ t1 * b2 ≤ t2 * b1) := by
  have pB := Int.mul_pos z1 z2
  have pb := Int.mul_pos c1 c2
  have e1 : (b1 * b2) * (T1 * B2) = (B1 * B2) * (t1 * b2) := by grind
  have e2 : (b1 * b2) * (T2 * B1) = (B1 * B2) * (t2 * b1) := by grind
  refine ⟨⟨fun h => ?_, fun h => ?_⟩, ⟨fun h => ?_, fun h => ?_⟩⟩
  · have := Int.mul_lt_mul_of_pos_left h pb
    rw [e1, e2] at this
    exact Int.lt_of_mul_lt_mul_left this (Int.le_of_lt pB)
  · have := Int.mul_lt_mul_of_pos_left h pB
    rw [← e1, ← e2] at this
    exact Int.lt_of_mul_lt_mul_left this (Int.le_of_lt pb)
  · have := Int.mul_le_mul_of_nonneg_left h (Int.le_of_lt pb)
    rw [e1, e2] at this
    exact Int.le_of_mul_le_mul_left this pB
  · have := Int.mul_le_mul_of_nonneg_left h (Int.le_of_lt pB)
    rw [← e1, ← e2] at this
    exact Int.le_of_mul_le_mul_left this pb
theorem bl4_eq {a b c d e f : Int} (h1 : a < b ↔ d < e) (h2 : a ≤ b ↔ d ≤ e) (_ : c = f) : bl4 (decide (a < b)) (decide (a ≤ b)) (decide (a > b)) (decide (a ≥ b)) = bl4 (decide (d < e)) (decide (d ≤ e)) (decide (d > e)) (decide (d ≥ e)) := by
  have g1 : a > b ↔ d > e := by omega
  have g2 : a ≥ b ↔ d ≥ e := by omega
  rw [decide_eq_decide.mpr h1, decide_eq_decide.mpr h2, decide_eq_decide.mpr g1, decide_eq_decide.mpr g2]
/-- what the top has written of the classes -/
structure Txt (K : PySem.W.Frag) (mg : Str → Option Value) (C_Ratio C_ZeroBottom : Addr) : Prop where
  g_Ratio : mg "Ratio" = some (.ref C_Ratio)
  kc_Ratio : PySem.W.keepIn K (.ref C_Ratio) = true
  hd_Ratio : PySem.W.hasDictIn K C_Ratio = true
  ha_Ratio : PySem.W.findIn K (.ref C_Ratio) "__class__" = some (some (.builtin "object.__class__"))
  hm_Ratio : PySem.W.mroIn K C_Ratio (.type "object") = some true
  cl_Ratio : Cls K C_Ratio
  mk_Ratio : PySem.W.makesIn K C_Ratio = true
  n_Ratio_top : NoAttr K C_Ratio "top"
  n_Ratio_bottom : NoAttr K C_Ratio "bottom"
  sf_Ratio : PySem.W.selfFirst K C_Ratio = true
  si_Ratio : PySem.W.subIn K (.type "int") (.ref C_Ratio) = some false
  sr_Ratio : PySem.W.subIn K (.ref C_Ratio) (.type "int") = some false
  g_ZeroBottom : mg "ZeroBottom" = some (.ref C_ZeroBottom)
  kc_ZeroBottom : PySem.W.keepIn K (.ref C_ZeroBottom) = true
  hd_ZeroBottom : PySem.W.hasDictIn K C_ZeroBottom = true
  ha_ZeroBottom : PySem.W.findIn K (.ref C_ZeroBottom) "__class__" = some (some (.builtin "object.__class__"))
  hm_ZeroBottom : PySem.W.mroIn K C_ZeroBottom (.type "object") = some true
  b_ZeroBottom : PySem.W.subIn K (.ref C_ZeroBottom) (.type "BaseException") = some true
  t_ZeroBottom : PySem.W.typeIn K (.ref C_ZeroBottom) = some (.type "type")
  ga_ZeroBottom : PySem.W.findIn K (.ref C_ZeroBottom) "__getattribute__" = some (some (.builtin "BaseException.__getattribute__"))
  gg_ZeroBottom : PySem.W.findIn K (.ref C_ZeroBottom) "__getattr__" = some none
  x_ZeroBottom : PySem.W.excIn K C_ZeroBottom [.type "ValueError", .type "Exception", .type "BaseException", .type "object"] "ValueError.__new__" = true
  hnc : PySem.W.specialIn K (.builtin "object.__class__") "__get__" = some (some (.builtin "getset_descriptor.__get__"))
  htk : PySem.W.takesIn K (.builtin "object.__class__") = some true
  kit_Ratio_Ratio : PySem.W.kitOne K (.ref C_Ratio) (.ref C_Ratio) = some true
  kit_int_Ratio : PySem.W.kitOne K (.type "int") (.ref C_Ratio) = some false
  g_gcd : mg "gcd" = some (.builtin "math.gcd")
theorem Txt.ec_ZeroBottom {K : PySem.W.Frag} {mg : Str → Option Value} {C_Ratio C_ZeroBottom : Addr} (T : Txt K mg C_Ratio C_ZeroBottom) : ExcC K C_ZeroBottom := ⟨T.ga_ZeroBottom, T.gg_ZeroBottom, T.b_ZeroBottom, T.hd_ZeroBottom, T.ha_ZeroBottom, T.hnc, T.htk, T.hm_ZeroBottom⟩

/-- a def that is called by its name, with its promise -/
def Cal (P : Program) (w : World) (K : PySem.W.Frag) (mg : Str → Option Value) (base : Heap) (CX : CXT) (k : Nat) (x : Str) (ps : List Str) (sp : Sp) : Prop :=
  ∃ (f : Addr) (fd : FuncData), FnOk P w K mg base CX k f fd ps sp ∧ mg x = some (.ref f) ∧ PySem.W.keepIn K (.ref f) = true ∧ Binds K fd ps []
/-- an own class's __init__; dvs: what stands for the parameters that a short call leaves out -/
def CalI (P : Program) (w : World) (K : PySem.W.Frag) (mg : Str → Option Value) (base : Heap) (CX : CXT) (k : Nat) (C : Addr) (ps : List Str) (sp : Sp) (dvs : List V) : Prop :=
  ∃ (f : Addr) (fd : FuncData), FnOk P w K mg base CX k f fd ps sp ∧ Mk K C f ∧ Binds K fd ps [] ∧ ∃ ds, Vals dvs ds ∧ Binds K fd ps ds
/-- a method -/
def CalM (P : Program) (w : World) (K : PySem.W.Frag) (mg : Str → Option Value) (base : Heap) (CX : CXT) (k : Nat) (C : Addr) (m : Str) (ps : List Str) (sp : Sp) : Prop :=
  ∃ (f : Addr) (fd : FuncData), FnOk P w K mg base CX k f fd ps sp ∧ Meth K C m f ∧ Binds K fd ps []
section
variable {P : Program} {w : World} {K : PySem.W.Frag} {mg : Str → Option Value} {base : Heap}
/-- Ratio(t, b): ZeroBottom, or the fraction in lowest terms -/
def sp_Ratio___init__ (C CZ : Addr) : Sp := fun vs H Q E => ∃ (x dx : Addr) (t b : Int), vs = [.ref x, .int t, .int b] ∧ H x = some (.ins C dx []) ∧ (b ≠ 0 → Sm b) ∧ (b = 0 → E (.ref CZ) none H) ∧
  (b ≠ 0 → ∀ H', RatAt C H' x (nT t b) (nB t b) → (∀ c o, H c = some o → c ≠ x → H' c = some o) → Q .non H')

theorem ok_Ratio___init__ {f : Addr} {fd : FuncData} {C_Ratio C_ZeroBottom : Addr} (F : FunD K "__init__" "Ratio.__init__" (defArgs s_Ratio___init__) (defBody s_Ratio___init__) (defScope s_Ratio___init__) [V.int 1] [] f fd) (T : Txt K mg C_Ratio C_ZeroBottom) : FnOk P w K mg base (L2.CX P w) 1 f fd ["self", "top", "bottom"] (sp_Ratio___init__ C_Ratio C_ZeroBottom) := by
  refine FunD.ok (CX := (L2.CX P w)) F sc_Ratio___init__ (fun vs H Q E h => ?_) (fun cdv A outer s H vs Q E hr h => ?_)
  · obtain ⟨x, dx, t, b, rfl, _⟩ := h
    rfl
  · obtain ⟨x, dx, t, b, rfl, hx, hsm, kE, kQ⟩ := h
    refine ⟨_, (pss_cons (ps_if (pt_cmpR op_eq (pv 2) pe_int (nomark _)) (pss_one (ps_raise rfl (takes_of rfl rfl rfl rfl) (pmk_own PySem.F.excBase_ValueError T.x_ZeroBottom T.g_ZeroBottom T.kc_ZeroBottom (raises_own T.b_ZeroBottom T.t_ZeroBottom) (by exact rfl)))) pss_nil)
      (pss_cons (ps_set (i := 3) sc_Ratio___init__.nd rfl (Or.inl rfl) (pe_callBfun cr_gcd (by rfl) T.g_gcd (pa_cons (pv 1) (pa_cons (pv 2) pa_nil))))
      (Evl.pss_cut (ps_if (pt_cmpR op_lt (pv 2) pe_int (nomark _)) (pss_one (ps_set (i := 3) sc_Ratio___init__.nd rfl (Or.inl rfl) (pe_un un_neg (pv 3)))) pss_nil)
      (pss_cons (ps_fld (pv 0) (pe_op op_fdivWN (pv 1) (pv 3)) rfl)
      (pss_one (ps_fld (pv 0) (pe_op op_fdivWN (pv 2) (pv 3)) rfl)))))), ?_⟩
    refine ⟨_, rfl, rfl, _, rfl, ite2 (fun e => ?_) (fun e => ?_)⟩
    · have e := V.int.inj (of_decide_eq_true e)
      exact kE e
    · have hb : b ≠ 0 := fun z => e (decide_eq_true (congrArg V.int z))
      refine ⟨_, rfl, _, rfl, t, b, rfl, ?_⟩
      refine ⟨fun σ' H' => H' = H ∧ σ' = [some (.ref x), some (.int t), some (.int b), some (.int (rd t b))], ?_, ?_⟩
      · refine ⟨_, rfl, _, _, rfl, rfl, _, rfl, ite2 (fun e2 => ?_) (fun e2 => ?_)⟩
        · have e2 := of_decide_eq_true e2
          refine ⟨_, rfl, _, rfl, rfl, ?_⟩
          rw [show rd t b = -(rg t b) from if_pos e2]
          rfl
        · have e2 : ¬ b < 0 := fun z => e2 (decide_eq_true z)
          refine ⟨rfl, ?_⟩
          rw [show rd t b = rg t b from if_neg e2]
          rfl
      · rintro σ' H' ⟨rfl, rfl⟩
        refine ⟨_, rfl, _, rfl, t, rd t b, rfl, rfl, rd_div hb (hsm hb) t, _, rfl, x, C_Ratio, dx, [], rfl, hx, T.cl_Ratio, T.n_Ratio_top, (by show 0 < 1000; decide), ?_⟩
        refine ⟨_, rfl, _, rfl, b, rd t b, rfl, rfl, rd_div hb (hsm hb) b, _, rfl, x, C_Ratio, dx, _, rfl, upd_same, T.cl_Ratio, T.n_Ratio_bottom, (by show 1 < 1000; decide), ?_⟩
        refine kQ hb _ ⟨dx, Eq.trans upd_same (congrArg (fun q => some (HO.ins C_Ratio dx q)) (rF_new _ _))⟩ fun c o e hc => ?_
        rw [upd_ne hc, upd_ne hc]
        exact e

/-- how a caller makes a Ratio that there is -/
theorem mk_rat {C CZ : Addr} {t b : Int} {H : Hp} {G : Addr → Hp → Prop} {E : XK} (hb : b ≠ 0) (hs : Sm b) (k : ∀ x H', Same H H' → H x = none → RatAt C H' x (nT t b) (nB t b) → G x H') :
    ∀ x dx, H x = none → H dx = none → dx ≠ x → sp_Ratio___init__ C CZ [.ref x, .int t, .int b] (upd (upd H dx (.own x)) x (.ins C dx [])) (fun v H2 => v = .non ∧ G x H2) E :=
  fun x dx nx nd _ => ⟨x, dx, t, b, rfl, upd_same, fun _ => hs, fun z => absurd z hb, fun _ H' r kp => ⟨rfl, k x H' (Same.made nx nd kp) nx r⟩⟩
def sp__as_ratio (C : Addr) : Sp := fun vs H Q _ => ∃ (y : V) (T B : Int), vs = [y] ∧ NumAt C H y T B ∧ ∀ H' q, Same H H' → RatAt C H' q T B → Q (.ref q) H'
theorem ok__as_ratio {f : Addr} {fd : FuncData} {C_Ratio C_ZeroBottom : Addr} (F : Fun K "_as_ratio" "_as_ratio" s__as_ratio f fd) (T : Txt K mg C_Ratio C_ZeroBottom) (m_isinstance : mg "isinstance" = none) (c_Ratio___init__ : CalI P w K mg base (L2.CX P w) 1 C_Ratio ["self", "top", "bottom"] (sp_Ratio___init__ C_Ratio C_ZeroBottom) [V.int 1]) : FnOk P w K mg base CX0 3 f fd ["number"] (sp__as_ratio C_Ratio) := by
  refine F.ok sc__as_ratio (fun vs H Q E h => ?_) (fun cdv A outer s H vs Q E hr h => ?_)
  · obtain ⟨y, T1, B, rfl, _⟩ := h
    rfl
  · obtain ⟨y, T1, B, rfl, hy, q⟩ := h
    obtain ⟨f_Ratio___init__, fd_Ratio___init__, G_Ratio___init__, M_Ratio___init__, b_Ratio___init__, ds_Ratio___init__, vd_Ratio___init__, bd_Ratio___init__⟩ := c_Ratio___init__
    refine ⟨_, (pss_cons (ps_if (pt_val (pe_callB call_isi (by rfl) m_isinstance (by decide +kernel) (pa_cons (pv 0) (pa_cons (pe_glob (v := .ref C_Ratio) (by rfl) T.g_Ratio rfl) pa_nil)))) (pss_one (ps_ret (pv 0))) pss_nil)
      (pss_one (ps_ret (pe_make M_Ratio___init__ G_Ratio___init__ (hr.mono (by decide)) (by rfl) T.g_Ratio bd_Ratio___init__ vd_Ratio___init__ passL (pa_cons (pv 0) pa_nil))))), ?_⟩
    rcases hy with ⟨p, rfl, dx, hp⟩ | ⟨rfl, rfl⟩
    · refine ⟨.ref p, rfl, .ref p, .ref C_Ratio, .ref C_Ratio, .ref C_Ratio, true, rfl, .own C_Ratio, .base (.ins hp T.cl_Ratio T.ha_Ratio T.hnc T.htk T.hm_Ratio), T.kit_Ratio_Ratio, true, rfl, iteT ?_⟩
      exact ⟨_, rfl, q H p (Same.refl H) ⟨dx, hp⟩⟩
    · refine ⟨_, rfl, .int T1, .ref C_Ratio, .type "int", .ref C_Ratio, false, rfl, .own C_Ratio, .base (.int T1), T.kit_int_Ratio, false, rfl, iteF ?_⟩
      refine ⟨_, rfl, mk_rat (t := T1) (b := 1) (by decide) (sm_of (n := 1) (by decide)) fun x H5 e5 nx r => ?_⟩
      obtain ⟨e1, e2⟩ := low_uniq (by decide) (low (t := T1) (b := 1) (by decide)) (low_int T1)
      rw [e1, e2] at r
      exact q H5 x e5 r
def sp__gap (C : Addr) : Sp := fun vs H Q _ => ∃ (p : Addr) (y : V) (T1 B1 T2 B2 : Int), vs = [.ref p, y] ∧ RatAt C H p T1 B1 ∧ NumAt C H y T2 B2 ∧ Sm T1 ∧ Sm B1 ∧ Sm T2 ∧ Sm B2 ∧ ∀ H', Same H H' → Q (.int (T1 * B2 - T2 * B1)) H'
theorem ok__gap {f : Addr} {fd : FuncData} {C_Ratio C_ZeroBottom : Addr} (F : Fun K "_gap" "_gap" s__gap f fd) (T : Txt K mg C_Ratio C_ZeroBottom) (c__as_ratio : Cal P w K mg base CX0 3 "_as_ratio" ["number"] (sp__as_ratio C_Ratio)) : FnOk P w K mg base CX0 4 f fd ["ratio", "other"] (sp__gap C_Ratio) := by
  refine F.ok sc__gap (fun vs H Q E h => ?_) (fun cdv A outer s H vs Q E hr h => ?_)
  · obtain ⟨p, y, T1, B1, T2, B2, rfl, _⟩ := h
    rfl
  · obtain ⟨p, y, T1, B1, T2, B2, rfl, hp, hy, s1, s2, s3, s4, q⟩ := h
    obtain ⟨f__as_ratio, fd__as_ratio, G__as_ratio, m__as_ratio, k__as_ratio, b__as_ratio⟩ := c__as_ratio
    refine ⟨_, (pss_cons (ps_set (i := 2) sc__gap.nd rfl (Or.inl rfl) (pe_call G__as_ratio (hr.mono (by decide)) (by rfl) m__as_ratio k__as_ratio b__as_ratio .nil pass0 (pa_cons (pv 1) pa_nil)))
      (pss_one (ps_ret (pe_op op_sub (pe_op op_mulW (pe_fld (pv 0) rfl) (pe_fld (pv 2) rfl)) (pe_op op_mulW (pe_fld (pv 2) rfl) (pe_fld (pv 0) rfl)))))), ?_⟩
    refine ⟨y, rfl, y, T2, B2, rfl, hy, fun H1 z e1 rz => ?_⟩
    obtain ⟨dx, hp1⟩ := hp.same e1
    obtain ⟨dz, hz⟩ := rz
    refine ⟨.ref p, rfl, p, C_Ratio, dx, _, _, rfl, hp1, T.cl_Ratio, T.n_Ratio_top, rF_top T1 B1, .ref z, rfl, z, C_Ratio, dz, _, _, rfl, hz, T.cl_Ratio, T.n_Ratio_bottom, rF_bot T2 B2, T1, B2, rfl, rfl, s1.mul s4, ?_⟩
    exact ⟨.ref z, rfl, z, C_Ratio, dz, _, _, rfl, hz, T.cl_Ratio, T.n_Ratio_top, rF_top T2 B2, .ref p, rfl, p, C_Ratio, dx, _, _, rfl, hp1, T.cl_Ratio, T.n_Ratio_bottom, rF_bot T1 B1, T2, B1, rfl, rfl, s3.mul s2, _, _, rfl, rfl, q H1 e1⟩
def sp_Ratio___lt__ (C : Addr) : Sp := fun vs H Q _ => ∃ (p : Addr) (y : V) (T1 B1 T2 B2 : Int), vs = [.ref p, y] ∧ RatAt C H p T1 B1 ∧ NumAt C H y T2 B2 ∧ Sm T1 ∧ Sm B1 ∧ Sm T2 ∧ Sm B2 ∧ ∀ H', Same H H' → Q (.bl (decide (T1 * B2 < T2 * B1))) H'
theorem ok_Ratio___lt__ {f : Addr} {fd : FuncData} {C_Ratio C_ZeroBottom : Addr} (F : Fun K "__lt__" "Ratio.__lt__" s_Ratio___lt__ f fd) (T : Txt K mg C_Ratio C_ZeroBottom) (c__gap : Cal P w K mg base CX0 4 "_gap" ["ratio", "other"] (sp__gap C_Ratio)) : FnOk P w K mg base CX0 5 f fd ["self", "other"] (sp_Ratio___lt__ C_Ratio) := by
  refine F.ok sc_Ratio___lt__ (fun vs H Q E h => ?_) (fun cdv A outer s H vs Q E hr h => ?_)
  · obtain ⟨p, y, T1, B1, T2, B2, rfl, _⟩ := h
    rfl
  · obtain ⟨p, y, T1, B1, T2, B2, rfl, hp, hy, s1, s2, s3, s4, q⟩ := h
    obtain ⟨f__gap, fd__gap, G__gap, m__gap, k__gap, b__gap⟩ := c__gap
    refine ⟨_, (pss_one (ps_ret (pe_cmpR op_lt (pe_call G__gap (hr.mono (by decide)) (by rfl) m__gap k__gap b__gap .nil pass0 (pa_cons (pv 0) (pa_cons (pv 1) pa_nil))) pe_int (nomark _)))), ?_⟩
    refine ⟨.ref p, rfl, y, rfl, p, y, T1, B1, T2, B2, rfl, hp, hy, s1, s2, s3, s4, fun H1 e1 => ⟨_, _, rfl, rfl, ?_⟩⟩
    have e : decide (T1 * B2 - T2 * B1 < 0) = decide (T1 * B2 < T2 * B1) := decide_eq_decide.mpr (by omega)
    have h := q H1 e1
    rw [← e] at h
    exact h
def sp_Ratio___le__ (C : Addr) : Sp := fun vs H Q _ => ∃ (p : Addr) (y : V) (T1 B1 T2 B2 : Int), vs = [.ref p, y] ∧ RatAt C H p T1 B1 ∧ NumAt C H y T2 B2 ∧ Sm T1 ∧ Sm B1 ∧ Sm T2 ∧ Sm B2 ∧ ∀ H', Same H H' → Q (.bl (decide (T1 * B2 ≤ T2 * B1))) H'
theorem ok_Ratio___le__ {f : Addr} {fd : FuncData} {C_Ratio C_ZeroBottom : Addr} (F : Fun K "__le__" "Ratio.__le__" s_Ratio___le__ f fd) (T : Txt K mg C_Ratio C_ZeroBottom) (c__gap : Cal P w K mg base CX0 4 "_gap" ["ratio", "other"] (sp__gap C_Ratio)) : FnOk P w K mg base CX0 5 f fd ["self", "other"] (sp_Ratio___le__ C_Ratio) := by
  refine F.ok sc_Ratio___le__ (fun vs H Q E h => ?_) (fun cdv A outer s H vs Q E hr h => ?_)
  · obtain ⟨p, y, T1, B1, T2, B2, rfl, _⟩ := h
    rfl
  · obtain ⟨p, y, T1, B1, T2, B2, rfl, hp, hy, s1, s2, s3, s4, q⟩ := h
    obtain ⟨f__gap, fd__gap, G__gap, m__gap, k__gap, b__gap⟩ := c__gap
    refine ⟨_, (pss_one (ps_ret (pe_cmpR op_le (pe_call G__gap (hr.mono (by decide)) (by rfl) m__gap k__gap b__gap .nil pass0 (pa_cons (pv 0) (pa_cons (pv 1) pa_nil))) pe_int (nomark _)))), ?_⟩
    refine ⟨.ref p, rfl, y, rfl, p, y, T1, B1, T2, B2, rfl, hp, hy, s1, s2, s3, s4, fun H1 e1 => ⟨_, _, rfl, rfl, ?_⟩⟩
    have e : decide (T1 * B2 - T2 * B1 ≤ 0) = decide (T1 * B2 ≤ T2 * B1) := decide_eq_decide.mpr (by omega)
    have h := q H1 e1
    rw [← e] at h
    exact h
def sp_Ratio___gt__ (C : Addr) : Sp := fun vs H Q _ => ∃ (p : Addr) (y : V) (T1 B1 T2 B2 : Int), vs = [.ref p, y] ∧ RatAt C H p T1 B1 ∧ NumAt C H y T2 B2 ∧ Sm T1 ∧ Sm B1 ∧ Sm T2 ∧ Sm B2 ∧ ∀ H', Same H H' → Q (.bl (decide (T1 * B2 > T2 * B1))) H'
theorem ok_Ratio___gt__ {f : Addr} {fd : FuncData} {C_Ratio C_ZeroBottom : Addr} (F : Fun K "__gt__" "Ratio.__gt__" s_Ratio___gt__ f fd) (T : Txt K mg C_Ratio C_ZeroBottom) (c__gap : Cal P w K mg base CX0 4 "_gap" ["ratio", "other"] (sp__gap C_Ratio)) : FnOk P w K mg base CX0 5 f fd ["self", "other"] (sp_Ratio___gt__ C_Ratio) := by
  refine F.ok sc_Ratio___gt__ (fun vs H Q E h => ?_) (fun cdv A outer s H vs Q E hr h => ?_)
  · obtain ⟨p, y, T1, B1, T2, B2, rfl, _⟩ := h
    rfl
  · obtain ⟨p, y, T1, B1, T2, B2, rfl, hp, hy, s1, s2, s3, s4, q⟩ := h
    obtain ⟨f__gap, fd__gap, G__gap, m__gap, k__gap, b__gap⟩ := c__gap
    refine ⟨_, (pss_one (ps_ret (pe_cmpR op_gt (pe_call G__gap (hr.mono (by decide)) (by rfl) m__gap k__gap b__gap .nil pass0 (pa_cons (pv 0) (pa_cons (pv 1) pa_nil))) pe_int (nomark _)))), ?_⟩
    refine ⟨.ref p, rfl, y, rfl, p, y, T1, B1, T2, B2, rfl, hp, hy, s1, s2, s3, s4, fun H1 e1 => ⟨_, _, rfl, rfl, ?_⟩⟩
    have e : decide (0 < T1 * B2 - T2 * B1) = decide (T1 * B2 > T2 * B1) := decide_eq_decide.mpr (by omega)
    have h := q H1 e1
    rw [← e] at h
    exact h
def sp_Ratio___ge__ (C : Addr) : Sp := fun vs H Q _ => ∃ (p : Addr) (y : V) (T1 B1 T2 B2 : Int), vs = [.ref p, y] ∧ RatAt C H p T1 B1 ∧ NumAt C H y T2 B2 ∧ Sm T1 ∧ Sm B1 ∧ Sm T2 ∧ Sm B2 ∧ ∀ H', Same H H' → Q (.bl (decide (T1 * B2 ≥ T2 * B1))) H'
theorem ok_Ratio___ge__ {f : Addr} {fd : FuncData} {C_Ratio C_ZeroBottom : Addr} (F : Fun K "__ge__" "Ratio.__ge__" s_Ratio___ge__ f fd) (T : Txt K mg C_Ratio C_ZeroBottom) (c__gap : Cal P w K mg base CX0 4 "_gap" ["ratio", "other"] (sp__gap C_Ratio)) : FnOk P w K mg base CX0 5 f fd ["self", "other"] (sp_Ratio___ge__ C_Ratio) := by
  refine F.ok sc_Ratio___ge__ (fun vs H Q E h => ?_) (fun cdv A outer s H vs Q E hr h => ?_)
  · obtain ⟨p, y, T1, B1, T2, B2, rfl, _⟩ := h
    rfl
  · obtain ⟨p, y, T1, B1, T2, B2, rfl, hp, hy, s1, s2, s3, s4, q⟩ := h
    obtain ⟨f__gap, fd__gap, G__gap, m__gap, k__gap, b__gap⟩ := c__gap
    refine ⟨_, (pss_one (ps_ret (pe_cmpR op_ge (pe_call G__gap (hr.mono (by decide)) (by rfl) m__gap k__gap b__gap .nil pass0 (pa_cons (pv 0) (pa_cons (pv 1) pa_nil))) pe_int (nomark _)))), ?_⟩
    refine ⟨.ref p, rfl, y, rfl, p, y, T1, B1, T2, B2, rfl, hp, hy, s1, s2, s3, s4, fun H1 e1 => ⟨_, _, rfl, rfl, ?_⟩⟩
    have e : decide (0 ≤ T1 * B2 - T2 * B1) = decide (T1 * B2 ≥ T2 * B1) := decide_eq_decide.mpr (by omega)
    have h := q H1 e1
    rw [← e] at h
    exact h
def sp_Ratio___eq__ (C : Addr) : Sp := fun vs H Q _ => ∃ (p : Addr) (y : V) (T1 B1 T2 B2 : Int), vs = [.ref p, y] ∧ RatAt C H p T1 B1 ∧ NumAt C H y T2 B2 ∧
  ((∀ q, y = .ref q → Q (.bl (decide (T1 = T2) && decide (B1 = B2))) H) ∧ (∀ n, y = .int n → Q (.bl false) H))
theorem ok_Ratio___eq__ {f : Addr} {fd : FuncData} {C_Ratio C_ZeroBottom : Addr} (F : Fun K "__eq__" "Ratio.__eq__" s_Ratio___eq__ f fd) (T : Txt K mg C_Ratio C_ZeroBottom) (m_isinstance : mg "isinstance" = none) : FnOk P w K mg base CX0 1 f fd ["self", "other"] (sp_Ratio___eq__ C_Ratio) := by
  refine F.ok sc_Ratio___eq__ (fun vs H Q E h => ?_) (fun cdv A outer s H vs Q E hr h => ?_)
  · obtain ⟨p, y, T1, B1, T2, B2, rfl, _⟩ := h
    rfl
  · obtain ⟨p, y, T1, B1, T2, B2, rfl, hp, hy, qr, qi⟩ := h
    refine ⟨_, (pss_one (ps_ret (pe_and (pe_callB call_isi (by rfl) m_isinstance (by decide +kernel) (pa_cons (pv 1) (pa_cons (pe_glob (v := .ref C_Ratio) (by rfl) T.g_Ratio rfl) pa_nil))) (pe_and (pe_cmpR op_eq (pe_fld (pv 0) rfl) (pe_fld (pv 1) rfl) (nomark _)) (pe_one (pe_cmpR op_eq (pe_fld (pv 0) rfl) (pe_fld (pv 1) rfl) (nomark _))))))), ?_⟩
    have dI : ∀ {i j : Int}, decide (V.int i = V.int j) = decide (i = j) := fun {i j} => decide_eq_decide.mpr ⟨fun z => V.int.inj z, fun z => congrArg V.int z⟩
    rcases hy with ⟨z, rfl, dz, hz⟩ | ⟨rfl, rfl⟩
    · obtain ⟨dx, hp1⟩ := hp
      have h := qr z rfl
      refine ⟨.ref z, rfl, .ref z, .ref C_Ratio, .ref C_Ratio, .ref C_Ratio, true, rfl, .own C_Ratio, .base (.ins hz T.cl_Ratio T.ha_Ratio T.hnc T.htk T.hm_Ratio), T.kit_Ratio_Ratio, true, rfl, iteT ?_⟩
      refine ⟨.ref p, rfl, p, C_Ratio, dx, _, _, rfl, hp1, T.cl_Ratio, T.n_Ratio_top, rF_top T1 B1, .ref z, rfl, z, C_Ratio, dz, _, _, rfl, hz, T.cl_Ratio, T.n_Ratio_top, rF_top T2 B2, rfl, _, rfl, ?_⟩
      rw [dI]
      by_cases e1 : T1 = T2
      · rw [decide_eq_true e1] at h ⊢
        refine iteT ⟨.ref p, rfl, p, C_Ratio, dx, _, _, rfl, hp1, T.cl_Ratio, T.n_Ratio_bottom, rF_bot T1 B1, .ref z, rfl, z, C_Ratio, dz, _, _, rfl, hz, T.cl_Ratio, T.n_Ratio_bottom, rF_bot T2 B2, rfl, ?_⟩
        show Q (.bl (decide (V.int B1 = V.int B2))) H
        rw [dI]
        exact h
      · rw [decide_eq_false e1] at h ⊢
        exact iteF h
    · exact ⟨_, rfl, .int T2, .ref C_Ratio, .type "int", .ref C_Ratio, false, rfl, .own C_Ratio, .base (.int T2), T.kit_int_Ratio, false, rfl, iteF (qi T2 rfl)⟩
def sp_Ratio___bool__ (C : Addr) : Sp := fun vs H Q _ => ∃ (p : Addr) (T1 B1 : Int), vs = [.ref p] ∧ RatAt C H p T1 B1 ∧ Q (.bl (T1 != 0)) H
theorem ok_Ratio___bool__ {f : Addr} {fd : FuncData} {C_Ratio C_ZeroBottom : Addr} (F : Fun K "__bool__" "Ratio.__bool__" s_Ratio___bool__ f fd) (T : Txt K mg C_Ratio C_ZeroBottom) (m_bool : mg "bool" = none) : FnOk P w K mg base CX0 1 f fd ["self"] (sp_Ratio___bool__ C_Ratio) := by
  refine F.ok sc_Ratio___bool__ (fun vs H Q E h => ?_) (fun cdv A outer s H vs Q E hr h => ?_)
  · obtain ⟨p, T1, B1, rfl, _⟩ := h
    rfl
  · obtain ⟨p, T1, B1, rfl, ⟨dx, hp⟩, q⟩ := h
    refine ⟨_, (pss_one (ps_ret (pe_callTy call_bool1 (by rfl) m_bool (by decide +kernel) (pa_cons (pe_fld (pv 0) rfl) pa_nil)))), ?_⟩
    exact ⟨.ref p, rfl, p, C_Ratio, dx, _, _, rfl, hp, T.cl_Ratio, T.n_Ratio_top, rF_top T1 B1, .inl ⟨T1, rfl, q⟩⟩
def sp__law_cell (K : PySem.W.Frag) : Sp := fun vs H Q _ => ∃ (a : Addr) (ns : List Int) (j : Nat), vs = [.ref a, .int (j : Int)] ∧ SqL K H a (ns.map V.int) ∧ ∀ v : Int, Q (.int v) H
theorem ok__law_cell {f : Addr} {fd : FuncData} {C_Ratio C_ZeroBottom : Addr} (F : Fun K "_law_cell" "_law_cell" s__law_cell f fd) (T : Txt K mg C_Ratio C_ZeroBottom) (m_int : mg "int" = none) (m_len : mg "len" = none) : FnOk P w K mg base CX0 1 f fd ["_law_script", "_law_place"] (sp__law_cell K) := by
  refine F.ok sc__law_cell (fun vs H Q E h => ?_) (fun cdv A outer s H vs Q E hr h => ?_)
  · obtain ⟨a, ns, j, rfl, _⟩ := h
    rfl
  · obtain ⟨a, ns, j, rfl, hS, q⟩ := h
    refine ⟨_, (pss_cons (ps_if (pt_cmpR op_lt (pv 1) (pe_callB call_len_seq (by rfl) m_len (by decide +kernel) (pa_cons (pv 0) pa_nil)) (nomark _)) (pss_one (ps_ret (pe_callTy call_int1 (by rfl) m_int (by decide +kernel) (pa_cons (pe_ix ix_list (pv 0) (pv 1) (fun _ _ => rfl)) pa_nil)))) pss_nil)
      (pss_one (ps_ret pe_int))), ?_⟩
    refine ⟨_, rfl, .ref a, rfl, a, _, rfl, .inl hS, _, _, rfl, rfl, _, rfl, ite2 (fun e => ?_) (fun _ => q 0)⟩
    have hj : j < ns.length := by
      have e := of_decide_eq_true e
      rw [List.length_map] at e
      omega
    exact ⟨.ref a, rfl, .int (j : Int), rfl, a, _, _, _, rfl, rfl, hS, atI_nat (int_at (List.getElem?_eq_getElem hj)), .inl ⟨_, rfl, q _⟩⟩
def sp__law_draws (K : PySem.W.Frag) : Sp := fun vs H Q _ => ∃ (c : Int) (a : Addr) (ns : List Int), vs = [.int c, .ref a] ∧ SqL K H a (ns.map V.int) ∧ (∀ n ∈ ns, 0 < n ∧ n < 2 ^ 100) ∧ ns.length ≤ 1000 ∧
  ∀ ds H' p, Within ds ns → Same H H' → H p = none → H' p = some (.lst (ds.map V.int)) → Q (.ref p) H'

theorem ok__law_draws {f : Addr} {fd : FuncData} {C_Ratio C_ZeroBottom : Addr} (F : Fun K "_law_draws" "_law_draws" s__law_draws f fd) (T : Txt K mg C_Ratio C_ZeroBottom) (m_int : mg "int" = none) (m_len : mg "len" = none) (m_range : mg "range" = none) : FnOk P w K mg base CX0 1 f fd ["_law_cell_here", "_law_sizes"] (sp__law_draws K) := by
  refine F.ok sc__law_draws (fun vs H Q E h => ?_) (fun cdv A outer s H vs Q E hr h => ?_)
  · obtain ⟨c, a, ns, rfl, _⟩ := h
    rfl
  · obtain ⟨c, a, ns, rfl, hS, hn, hlen, q⟩ := h
    refine ⟨_, (pss_cons (ps_if (pt_cmpR op_eq (pv 0) pe_int (nomark _)) (pss_one (ps_ret (pe_lc (own := [("_law_size", 2)]) (g := gName 2) (tt := tYes) rfl sc__law_draws.nd (pi_list (pv 1)) (blkOk_by (own := [("_law_size", 2)]) (N := ["_law_cell_here", "_law_sizes", "_law_size", "_law_left", "_law_found", "_law_k", "_law_low", "_law_high"]) (sc := defScope s__law_draws) (by decide +kernel)) (fun _ _ _ _ _ => (pg_name (i := 2) sc__law_draws.nd rfl (Or.inl rfl))) (fun _ _ _ _ _ => pts_nil) (fun _ _ _ _ _ => pe_int)))) pss_nil)
      (pss_cons (ps_if (pt_cmpR op_ge (pv 0) (pe_op op_pow pe_int pe_int) (nomark _)) (pss_cons (ps_set (i := 3) sc__law_draws.nd rfl (Or.inl rfl) (pe_op op_sub (pv 0) (pe_op op_pow pe_int pe_int)))
      (pss_cons (ps_set (i := 4) sc__law_draws.nd rfl (Or.inl rfl) (pe_lst pa_nil))
      (pss_cons (ps_for PassesOwn.never rfl (pi_list (pv 1)) (pg_name (i := 2) sc__law_draws.nd rfl (Or.inl rfl))
      (pss_cons (ps_expr (pe_bm PySem.F.plainAttrs_list PySem.F.slot_list_append PySem.F.type_list_append mt_append (pv 4) (pa_cons (pe_op op_mod (pe_callTy call_int1 (by rfl) m_int (by decide +kernel) (pa_cons (pv 3) pa_nil)) (pv 2)) pa_nil)))
      (pss_one (ps_set (i := 3) sc__law_draws.nd rfl (Or.inl rfl) (pe_op op_fdivW (pv 3) (pv 2))))))
      (pss_one (ps_ret (pv 4)))))) pss_nil)
      (pss_cons (ps_set (i := 4) sc__law_draws.nd rfl (Or.inl rfl) (pe_lst pa_nil))
      (pss_cons (ps_for PassesOwn.never rfl (pi_range1 (by rfl) m_range (pa_cons (pe_callB call_len_seq (by rfl) m_len (by decide +kernel) (pa_cons (pv 1) pa_nil)) pa_nil)) (pg_name (i := 5) sc__law_draws.nd rfl (Or.inl rfl))
      (pss_cons (ps_set (i := 6) sc__law_draws.nd rfl (Or.inl rfl) (pe_op op_mod (pe_callTy call_int1 (by rfl) m_int (by decide +kernel) (pa_cons (pe_op op_add (pe_op op_mul (pv 0) pe_int) (pe_op op_mul (pe_op op_add (pv 5) pe_int) pe_int)) pa_nil)) pe_int))
      (pss_cons (ps_set (i := 6) sc__law_draws.nd rfl (Or.inl rfl) (pe_op op_mod (pe_callTy call_int1 (by rfl) m_int (by decide +kernel) (pa_cons (pe_op op_add (pe_op op_mul (pv 6) pe_int) (pe_op op_mul (pe_op op_add (pv 5) pe_int) pe_int)) pa_nil)) pe_int))
      (pss_cons (ps_set (i := 7) sc__law_draws.nd rfl (Or.inl rfl) (pe_op op_mod (pe_callTy call_int1 (by rfl) m_int (by decide +kernel) (pa_cons (pe_op op_add (pe_op op_mul (pv 0) pe_int) (pe_op op_mul (pe_op op_add (pv 5) pe_int) pe_int)) pa_nil)) pe_int))
      (pss_cons (ps_set (i := 7) sc__law_draws.nd rfl (Or.inl rfl) (pe_op op_mod (pe_callTy call_int1 (by rfl) m_int (by decide +kernel) (pa_cons (pe_op op_add (pe_op op_mul (pv 7) pe_int) (pv 6)) pa_nil)) pe_int))
      (pss_one (ps_expr (pe_bm PySem.F.plainAttrs_list PySem.F.slot_list_append PySem.F.type_list_append mt_append (pv 4) (pa_cons (pe_op op_mod (pe_callTy call_int1 (by rfl) m_int (by decide +kernel) (pa_cons (pe_op op_add (pe_op op_mul (pv 7) pe_int) (pv 6)) pa_nil)) (pe_ix ix_list (pv 1) (pv 5) (fun _ _ => rfl))) pa_nil)))))))))
      (pss_one (ps_ret (pv 4))))))), ?_⟩
    have small : ∀ {ds : List Int} {i : Nat}, Within ds (ns.take i) → (ds.map V.int).length < sizeLine := fun {ds i} w => by
      rw [List.length_map, w.len, List.length_take]
      exact small1000 (by omega)
    refine ⟨_, rfl, rfl, _, rfl, ite2 (fun _ => ?_) (fun _ => ?_)⟩
    · -- [0 for size in sizes]
      refine ⟨.ref a, rfl, a, rfl, ⟨_, hS⟩, fun D nD => lc_list (K := K) (a := a) (xs := ns.map V.int) (fun i H2 => ∃ ds : List Int, Same H H2 ∧ H2 D = some (.lst (ds.map V.int)) ∧ Within ds (ns.take i)) ⟨[], same_upd nD, upd_same, Within.zero ns⟩ (fun i H2 _ ⟨_, s, _⟩ => s.seq hS) ?_ ?_⟩
      · rintro i x H2 hi ⟨ds, s, hD, w⟩
        obtain ⟨n, rfl, hin⟩ := int_of hi
        refine ⟨rfl, ?_⟩
        refine lc_yes ?_
        refine iteT ?_
        exact ⟨_, hD, small w, ds ++ [0], same_mut s nD, by rw [upd_same, ← snoc_int], w.step hin (Int.le_refl 0) (hn n (List.mem_of_getElem? hin)).1⟩
      · rintro H2 ⟨ds, s, hD, w⟩
        rw [List.length_map] at w
        exact q ds H2 D w.full s nD hD
    refine ⟨_, rfl, 10, 18, rfl, rfl, ⟨by decide, by decide, by decide⟩, _, _, rfl, rfl, _, rfl, ite2 (fun _ => ?_) (fun _ => ?_)⟩
    · -- left = cell - 10 ** 18; found = []
      refine ⟨_, rfl, 10, 18, rfl, rfl, ⟨by decide, by decide, by decide⟩, _, _, rfl, rfl, ?_⟩
      refine ⟨Nat.zero_le _, fun o no => ?_⟩
      have s1 : Same H (upd H o (.lst [])) := same_upd no
      refine ⟨.ref a, rfl, a, rfl, ⟨_, s1.seq hS⟩, for_list (K := K) (a := a) (xs := ns.map V.int) (fun i σ H2 => ∃ (ds : List Int) (l : Int) (y : Option V), σ = [some (.int c), some (.ref a), y, some (.int l), some (.ref o), none, none, none] ∧ Same H H2 ∧ H2 o = some (.lst (ds.map V.int)) ∧ Within ds (ns.take i))
        ⟨[], _, none, rfl, s1, upd_same, Within.zero ns⟩ (fun i σ H2 _ ⟨_, _, _, _, s, _⟩ => s.seq hS) ?_ ?_⟩
      · rintro i x σ H2 hi ⟨ds, l, y, rfl, s, hD, w⟩
        obtain ⟨n, rfl, hin⟩ := int_of hi
        obtain ⟨n0, n1⟩ := hn n (List.mem_of_getElem? hin)
        refine ⟨.ref o, rfl, .inl ⟨rfl, _, lst_l hD⟩, _, rfl, .inl ⟨l, rfl, _, rfl, _, _, rfl, rfl, n0, o, _, _, rfl, rfl, hD, small w, ?_⟩⟩
        refine ⟨_, rfl, _, rfl, _, _, rfl, rfl, w_div n0 n1, ds ++ [l % n], _, _, rfl, same_mut s no, by rw [upd_same, ← snoc_int], w.step hin (Int.emod_nonneg _ (by omega)) (Int.emod_lt_of_pos _ n0)⟩
      · rintro σ H2 ⟨ds, l, y, rfl, s, hD, w⟩
        rw [List.length_map] at w
        exact ⟨_, rfl, q ds H2 o w.full s no hD⟩
    · refine ⟨Nat.zero_le _, fun o no => ?_⟩
      have s1 : Same H (upd H o (.lst [])) := same_upd no
      refine ⟨.ref a, rfl, a, _, rfl, .inl (s1.seq hS), _, rfl, ?_⟩
      rw [List.length_map]
      refine ⟨by omega, by omega, ?_⟩
      rw [Int.toNat_natCast]
      refine for_range (lo := 0) (n := ns.length) (fun i σ H2 => ∃ (ds : List Int) (y1 y2 y3 : Option V), σ = [some (.int c), some (.ref a), none, none, some (.ref o), y1, y2, y3] ∧ Same H H2 ∧ H2 o = some (.lst (ds.map V.int)) ∧ Within ds (ns.take i))
        ⟨[], none, none, none, rfl, s1, upd_same, Within.zero ns⟩ ?_ ?_
      · rintro i σ H2 hi ⟨ds, y1, y2, y3, rfl, s, hD, w⟩
        have hin : ns[i]? = some ns[i] := List.getElem?_eq_getElem hi
        obtain ⟨n0, n1⟩ := hn ns[i] (List.getElem_mem hi)
        refine ⟨_, rfl, _, _, rfl, rfl, .inr ⟨by decide, by decide⟩, _, rfl, _, _, rfl, rfl, _, _, rfl, rfl, .inr ⟨by decide, by decide⟩, _, _, rfl, rfl, .inl ⟨_, rfl, _, _, rfl, rfl, (show (0 : Int) < 2147483647 by decide), ?_⟩⟩
        refine ⟨_, rfl, _, _, rfl, rfl, .inr ⟨by decide, by decide⟩, _, rfl, _, _, rfl, rfl, _, _, rfl, rfl, .inr ⟨by decide, by decide⟩, _, _, rfl, rfl, .inl ⟨_, rfl, _, _, rfl, rfl, (show (0 : Int) < 2147483399 by decide), ?_⟩⟩
        refine ⟨_, rfl, _, _, rfl, rfl, .inr ⟨by decide, by decide⟩, _, rfl, _, _, rfl, rfl, _, _, rfl, rfl, .inr ⟨by decide, by decide⟩, _, _, rfl, rfl, .inl ⟨_, rfl, _, _, rfl, rfl, (show (0 : Int) < 2147483563 by decide), ?_⟩⟩
        refine ⟨_, rfl, _, _, rfl, rfl, .inr ⟨by decide, by decide⟩, _, rfl, _, _, rfl, rfl, .inl ⟨_, rfl, _, _, rfl, rfl, (show (0 : Int) < 2147483587 by decide), ?_⟩⟩
        refine ⟨.ref o, rfl, .inl ⟨rfl, _, lst_l hD⟩, _, rfl, _, _, rfl, rfl, .inr ⟨by decide, by decide⟩, _, rfl, _, _, rfl, rfl, .inl ⟨_, rfl, .ref a, rfl, .int (0 + (i : Int)), rfl, a, _, _, _, rfl, rfl, s.seq hS, at_of (Int.zero_add _) (int_at hin), _, _, rfl, rfl, n0, o, _, _, rfl, rfl, hD, small w, ?_⟩⟩
        exact ⟨ds ++ [_], _, _, _, rfl, same_mut s no, by rw [upd_same, ← snoc_int], w.step hin (Int.emod_nonneg _ (by omega)) (Int.emod_lt_of_pos _ n0)⟩
      · rintro σ H2 ⟨ds, y1, y2, y3, rfl, s, hD, w⟩
        exact ⟨_, rfl, q ds H2 o w.full s no hD⟩
def sp__law_wide (K : PySem.W.Frag) : Sp := fun vs H Q _ => ∃ (a : Addr) (ns : List Int), vs = [.ref a] ∧ SqL K H a (ns.map V.int) ∧ (∀ n ∈ ns, 0 ≤ n ∧ n < 10 ^ 15) ∧ ∀ v : Int, 0 ≤ v → v < 10 ^ (15 * ns.length) → Q (.int v) H
theorem ok__law_wide {f : Addr} {fd : FuncData} {C_Ratio C_ZeroBottom : Addr} (F : Fun K "_law_wide" "_law_wide" s__law_wide f fd) (T : Txt K mg C_Ratio C_ZeroBottom) : FnOk P w K mg base CX0 1 f fd ["_law_parts"] (sp__law_wide K) := by
  refine F.ok sc__law_wide (fun vs H Q E h => ?_) (fun cdv A outer s H vs Q E hr h => ?_)
  · obtain ⟨a, ns, rfl, _⟩ := h
    rfl
  · obtain ⟨a, ns, rfl, hS, hn, q⟩ := h
    refine ⟨_, (pss_cons (ps_set (i := 1) sc__law_wide.nd rfl (Or.inl rfl) pe_int)
      (pss_cons (ps_for PassesOwn.never rfl (pi_list (pv 0)) (pg_name (i := 2) sc__law_wide.nd rfl (Or.inl rfl))
      (pss_one (ps_set (i := 1) sc__law_wide.nd rfl (Or.inl rfl) (pe_op op_add (pe_op op_mul (pv 1) (pe_op op_pow pe_int pe_int)) (pv 2)))))
      (pss_one (ps_ret (pv 1))))), ?_⟩
    refine ⟨.ref a, rfl, a, rfl, ⟨_, hS⟩, for_list (K := K) (a := a) (xs := ns.map V.int) (fun i σ H2 => ∃ (v : Int) (y : Option V), σ = [some (.ref a), some (.int v), y] ∧ H2 = H ∧ 0 ≤ v ∧ v < 10 ^ (15 * i)) ⟨0, none, rfl, rfl, Int.le_refl 0, by decide⟩ (fun i σ H2 _ ⟨_, _, _, e, _⟩ => e ▸ hS) ?_ ?_⟩
    · rintro i x σ H2 hi ⟨v, y, rfl, rfl, v0, v1⟩
      obtain ⟨n, rfl, hin⟩ := int_of hi
      obtain ⟨n0, n1⟩ := hn n (List.mem_of_getElem? hin)
      refine ⟨_, rfl, 10, 15, rfl, rfl, ⟨by decide, by decide, by decide⟩, _, _, rfl, rfl, .inr (by decide), _, rfl, _, _, rfl, rfl, _, _, rfl, rfl, ?_, ?_⟩
      · show 0 ≤ v * 1000000000000000 + n
        omega
      · show v * 1000000000000000 + n < 10 ^ (15 * (i + 1))
        rw [show 15 * (i + 1) = 15 * i + 15 by omega, Int.pow_add]
        generalize (10 : Int) ^ (15 * i) = p at v1 ⊢
        show v * 1000000000000000 + n < p * 1000000000000000
        omega
    · rintro σ H2 ⟨v, y, rfl, rfl, v0, v1⟩
      rw [List.length_map] at v1
      exact ⟨_, rfl, q v v0 v1⟩
/-- at least one of the two is a Ratio -/
def sp__law_told (C : Addr) : Sp := fun vs H Q _ => ∃ (x y : V) (T1 B1 T2 B2 : Int), vs = [x, y] ∧ ((∃ p, x = .ref p ∧ RatAt C H p T1 B1 ∧ NumAt C H y T2 B2) ∨ (x = .int T1 ∧ B1 = 1 ∧ ∃ p, y = .ref p ∧ RatAt C H p T2 B2)) ∧ Sm T1 ∧ Sm B1 ∧ Sm T2 ∧ Sm B2 ∧
  ∀ H' l, Same H H' → H' l = some (.lst (bl4 (decide (T1 * B2 < T2 * B1)) (decide (T1 * B2 ≤ T2 * B1)) (decide (T1 * B2 > T2 * B1)) (decide (T1 * B2 ≥ T2 * B1)))) → Q (.ref l) H' 
theorem ok__law_told {f : Addr} {fd : FuncData} {C_Ratio C_ZeroBottom : Addr} (F : Fun K "_law_told" "_law_told" s__law_told f fd) (T : Txt K mg C_Ratio C_ZeroBottom) (c_Ratio___lt__ : CalM P w K mg base CX0 5 C_Ratio "__lt__" ["self", "other"] (sp_Ratio___lt__ C_Ratio)) (c_Ratio___le__ : CalM P w K mg base CX0 5 C_Ratio "__le__" ["self", "other"] (sp_Ratio___le__ C_Ratio)) (c_Ratio___gt__ : CalM P w K mg base CX0 5 C_Ratio "__gt__" ["self", "other"] (sp_Ratio___gt__ C_Ratio)) (c_Ratio___ge__ : CalM P w K mg base CX0 5 C_Ratio "__ge__" ["self", "other"] (sp_Ratio___ge__ C_Ratio)) : FnOk P w K mg base CX0 6 f fd ["_law_x", "_law_y"] (sp__law_told C_Ratio) := by
  refine F.ok sc__law_told (fun vs H Q E h => ?_) (fun cdv A outer s H vs Q E hr h => ?_)
  · obtain ⟨x, y, T1, B1, T2, B2, rfl, _⟩ := h
    rfl
  · obtain ⟨x, y, T1, B1, T2, B2, rfl, hk, s1, s2, s3, s4, q⟩ := h
    obtain ⟨f_Ratio___lt__, fd_Ratio___lt__, G_Ratio___lt__, M_Ratio___lt__, b_Ratio___lt__⟩ := c_Ratio___lt__
    obtain ⟨f_Ratio___le__, fd_Ratio___le__, G_Ratio___le__, M_Ratio___le__, b_Ratio___le__⟩ := c_Ratio___le__
    obtain ⟨f_Ratio___gt__, fd_Ratio___gt__, G_Ratio___gt__, M_Ratio___gt__, b_Ratio___gt__⟩ := c_Ratio___gt__
    obtain ⟨f_Ratio___ge__, fd_Ratio___ge__, G_Ratio___ge__, M_Ratio___ge__, b_Ratio___ge__⟩ := c_Ratio___ge__
    refine ⟨_, (pss_one (ps_ret (pe_lst (pa_cons (pe_cmpR (op_cmp_Lt M_Ratio___lt__ M_Ratio___gt__ T.si_Ratio T.sr_Ratio G_Ratio___lt__ G_Ratio___gt__ (hr.mono (by decide)) (hr.mono (by decide)) b_Ratio___lt__ b_Ratio___gt__ pass0) (pv 0) (pv 1) (nomark _)) (pa_cons (pe_cmpR (op_cmp_LtE M_Ratio___le__ M_Ratio___ge__ T.si_Ratio T.sr_Ratio G_Ratio___le__ G_Ratio___ge__ (hr.mono (by decide)) (hr.mono (by decide)) b_Ratio___le__ b_Ratio___ge__ pass0) (pv 0) (pv 1) (nomark _)) (pa_cons (pe_cmpR (op_cmp_Gt M_Ratio___gt__ M_Ratio___lt__ T.si_Ratio T.sr_Ratio G_Ratio___gt__ G_Ratio___lt__ (hr.mono (by decide)) (hr.mono (by decide)) b_Ratio___gt__ b_Ratio___lt__ pass0) (pv 0) (pv 1) (nomark _)) (pa_cons (pe_cmpR (op_cmp_GtE M_Ratio___ge__ M_Ratio___le__ T.si_Ratio T.sr_Ratio G_Ratio___ge__ G_Ratio___le__ (hr.mono (by decide)) (hr.mono (by decide)) b_Ratio___ge__ b_Ratio___le__ pass0) (pv 0) (pv 1) (nomark _)) pa_nil))))))), ?_⟩
    rcases hk with ⟨p, rfl, hp, hy⟩ | ⟨rfl, rfl, p, rfl, hp⟩
    · have ask : ∀ {H1 : Hp}, Same H H1 → RatAt C_Ratio H1 p T1 B1 ∧ NumAt C_Ratio H1 y T2 B2 := fun e => ⟨hp.same e, hy.same e⟩
      refine ⟨.ref p, rfl, y, rfl, .inl ⟨hp.self, hy.arg, p, y, T1, B1, T2, B2, rfl, hp, hy, s1, s2, s3, s4, fun H1 e1 => ?_⟩⟩
      refine ⟨.ref p, rfl, y, rfl, .inl ⟨(ask e1).1.self, (ask e1).2.arg, p, y, T1, B1, T2, B2, rfl, (ask e1).1, (ask e1).2, s1, s2, s3, s4, fun H2 e2 => ?_⟩⟩
      have e2 := e1.trans e2
      refine ⟨.ref p, rfl, y, rfl, .inl ⟨(ask e2).1.self, (ask e2).2.arg, p, y, T1, B1, T2, B2, rfl, (ask e2).1, (ask e2).2, s1, s2, s3, s4, fun H3 e3 => ?_⟩⟩
      have e3 := e2.trans e3
      refine ⟨.ref p, rfl, y, rfl, .inl ⟨(ask e3).1.self, (ask e3).2.arg, p, y, T1, B1, T2, B2, rfl, (ask e3).1, (ask e3).2, s1, s2, s3, s4, fun H4 e4 => ⟨(by show 4 ≤ sizeLine; decide), fun l nl => ?_⟩⟩⟩
      exact q _ l ((e3.trans e4).trans (same_upd nl)) upd_same
    · have ask : ∀ {H1 : Hp}, Same H H1 → RatAt C_Ratio H1 p T2 B2 := fun e => hp.same e
      have hx : ∀ {H1 : Hp}, NumAt C_Ratio H1 (.int T1) T1 1 := .inr ⟨rfl, rfl⟩
      refine ⟨.int T1, rfl, .ref p, rfl, .inr ⟨⟨T1, rfl⟩, hp.self, p, .int T1, T2, B2, T1, 1, rfl, hp, hx, s3, s4, s1, s2, fun H1 e1 => ?_⟩⟩
      refine ⟨.int T1, rfl, .ref p, rfl, .inr ⟨⟨T1, rfl⟩, (ask e1).self, p, .int T1, T2, B2, T1, 1, rfl, ask e1, hx, s3, s4, s1, s2, fun H2 e2 => ?_⟩⟩
      have e2 := e1.trans e2
      refine ⟨.int T1, rfl, .ref p, rfl, .inr ⟨⟨T1, rfl⟩, (ask e2).self, p, .int T1, T2, B2, T1, 1, rfl, ask e2, hx, s3, s4, s1, s2, fun H3 e3 => ?_⟩⟩
      have e3 := e2.trans e3
      refine ⟨.int T1, rfl, .ref p, rfl, .inr ⟨⟨T1, rfl⟩, (ask e3).self, p, .int T1, T2, B2, T1, 1, rfl, ask e3, hx, s3, s4, s1, s2, fun H4 e4 => ⟨(by show 4 ≤ sizeLine; decide), fun l nl => ?_⟩⟩⟩
      exact q _ l ((e3.trans e4).trans (same_upd nl)) upd_same
def sp__law_due : Sp := fun vs H Q _ => ∃ (u v : Addr) (t1 b1 t2 b2 : Int), vs = [.ref u, .ref v] ∧ H u = some (.tup [.int t1, .int b1]) ∧ H v = some (.tup [.int t2, .int b2]) ∧ Sm t1 ∧ Sm b1 ∧ Sm t2 ∧ Sm b2 ∧
  ∀ H' l, Same H H' → H' l = some (.lst (bl4 (decide (t1 * b2 < t2 * b1)) (decide (t1 * b2 ≤ t2 * b1)) (decide (t1 * b2 > t2 * b1)) (decide (t1 * b2 ≥ t2 * b1)))) → Q (.ref l) H' 
theorem ok__law_due {f : Addr} {fd : FuncData} {C_Ratio C_ZeroBottom : Addr} (F : Fun K "_law_due" "_law_due" s__law_due f fd) (T : Txt K mg C_Ratio C_ZeroBottom) : FnOk P w K mg base CX0 1 f fd ["_law_a", "_law_b"] sp__law_due := by
  refine F.ok sc__law_due (fun vs H Q E h => ?_) (fun cdv A outer s H vs Q E hr h => ?_)
  · obtain ⟨u, v, t1, b1, t2, b2, rfl, _⟩ := h
    rfl
  · obtain ⟨u, v, t1, b1, t2, b2, rfl, hu, hv, s1, s2, s3, s4, q⟩ := h
    refine ⟨_, (pss_cons (ps_set (i := 2) sc__law_due.nd rfl (Or.inl rfl) (pe_op op_mulW (pe_ix ix_tup (pv 0) pe_int (fun _ _ => rfl)) (pe_ix ix_tup (pv 1) pe_int (fun _ _ => rfl))))
      (pss_cons (ps_set (i := 3) sc__law_due.nd rfl (Or.inl rfl) (pe_op op_mulW (pe_ix ix_tup (pv 1) pe_int (fun _ _ => rfl)) (pe_ix ix_tup (pv 0) pe_int (fun _ _ => rfl))))
      (pss_one (ps_ret (pe_lst (pa_cons (pe_cmpR op_lt (pv 2) (pv 3) (nomark _)) (pa_cons (pe_cmpR op_le (pv 2) (pv 3) (nomark _)) (pa_cons (pe_cmpR op_gt (pv 2) (pv 3) (nomark _)) (pa_cons (pe_cmpR op_ge (pv 2) (pv 3) (nomark _)) pa_nil))))))))), ?_⟩
    refine ⟨.ref u, rfl, u, _, _, _, rfl, rfl, tup_t hu, atI_nat (j := 0) rfl, .ref v, rfl, v, _, _, _, rfl, rfl, tup_t hv, atI_nat (j := 1) rfl, t1, b2, rfl, rfl, s1.mul s4, .ref v, rfl, v, _, _, _, rfl, rfl, tup_t hv, atI_nat (j := 0) rfl, .ref u, rfl, u, _, _, _, rfl, rfl, tup_t hu, atI_nat (j := 1) rfl, t2, b1, rfl, rfl, s3.mul s2, ?_⟩
    refine ⟨_, rfl, _, rfl, _, _, rfl, rfl, _, rfl, _, rfl, _, _, rfl, rfl, _, rfl, _, rfl, _, _, rfl, rfl, _, rfl, _, rfl, _, _, rfl, rfl, (by show 4 ≤ sizeLine; decide), fun l nl => ?_⟩
    exact q _ l (same_upd nl) upd_same
def sp__law_alike : Sp := fun vs H Q _ => ∃ (l m : Addr) (a b c d : Bool), vs = [.ref l, .ref m] ∧ H l = some (.lst (bl4 a b c d)) ∧ H m = some (.lst (bl4 a b c d)) ∧ Q (.bl true) H
theorem ok__law_alike {f : Addr} {fd : FuncData} {C_Ratio C_ZeroBottom : Addr} (F : Fun K "_law_alike" "_law_alike" s__law_alike f fd) (T : Txt K mg C_Ratio C_ZeroBottom) (m_bool : mg "bool" = none) (m_isinstance : mg "isinstance" = none) (m_range : mg "range" = none) : FnOk P w K mg base CX0 1 f fd ["_law_told_here", "_law_due_here"] sp__law_alike := by
  refine F.ok sc__law_alike (fun vs H Q E h => ?_) (fun cdv A outer s H vs Q E hr h => ?_)
  · obtain ⟨l, m, b0, b1, b2, b3, rfl, _⟩ := h
    rfl
  · obtain ⟨l, m, b0, b1, b2, b3, rfl, hl, hm, q⟩ := h
    refine ⟨_, (pss_cons (ps_for PassesOwn.never rfl (pi_range1 (by rfl) m_range (pa_cons pe_int pa_nil)) (pg_name (i := 2) sc__law_alike.nd rfl (Or.inl rfl))
      (pss_one (ps_if (PW.pt (pw_or (pt_not (pt_val (pe_callB call_isi (by rfl) m_isinstance (by decide +kernel) (pa_cons (pe_ix ix_list (pv 0) (pv 2) (fun _ _ => rfl)) (pa_cons (pe_bltn (v := .ty "bool") (by rfl) m_bool (by decide +kernel) rfl) pa_nil))))) (pw_or1 (pt_cmpR op_ne (pe_ix ix_list (pv 0) (pv 2) (fun _ _ => rfl)) (pe_ix ix_list (pv 1) (pv 2) (fun _ _ => rfl)) (nomark _))))) (pss_one (ps_ret pe_bl)) pss_nil)))
      (pss_one (ps_ret pe_bl))), ?_⟩
    refine ⟨4, rfl, by decide, by decide, ?_⟩
    refine for_range (lo := 0) (n := 4) (fun i σ H2 => ∃ (y : Option V), σ = [some (.ref l), some (.ref m), y] ∧ H2 = H) ⟨none, rfl, rfl⟩ ?_ ?_
    · rintro i σ H2 hi ⟨y, rfl, rfl⟩
      obtain ⟨b, hb⟩ : ∃ b, (bl4 b0 b1 b2 b3)[i]? = some (.bl b) := by
        rcases (by omega : i = 0 ∨ i = 1 ∨ i = 2 ∨ i = 3) with rfl | rfl | rfl | rfl
        · exact ⟨b0, rfl⟩
        · exact ⟨b1, rfl⟩
        · exact ⟨b2, rfl⟩
        · exact ⟨b3, rfl⟩
      have h1 : atI (bl4 b0 b1 b2 b3) (0 + (i : Int)) = some (.bl b) := at_of (Int.zero_add _) hb
      refine ⟨.ref l, rfl, .int (0 + (i : Int)), rfl, l, _, _, _, rfl, rfl, lst_l hl, h1, .bl b, .ty "bool", _, _, true, rfl, .ty "bool", .base (.bl b), kit_ty kBB, true, rfl, iteF ?_⟩
      refine ⟨.ref l, rfl, .int (0 + (i : Int)), rfl, l, _, _, _, rfl, rfl, lst_l hl, h1, .ref m, rfl, .int (0 + (i : Int)), rfl, m, _, _, _, rfl, rfl, lst_l hm, h1, rfl, _, rfl, iteNS rfl ?_⟩
      exact ⟨_, rfl, rfl⟩
    · rintro σ H2 ⟨y, rfl, rfl⟩
      exact q
def sp_law (K : PySem.W.Frag) : Sp := fun vs H Q _ => ∃ (a : Addr) (ns : List Int), vs = [.ref a] ∧ SqL K H a (ns.map V.int) ∧ ns.length ≤ 63 ∧ ∀ H', Q (.bl true) H'

theorem ok_law {f : Addr} {fd : FuncData} {C_Ratio C_ZeroBottom : Addr} (F : Fun K "law" "law" s_law f fd) (T : Txt K mg C_Ratio C_ZeroBottom) (m_bool : mg "bool" = none) (m_int : mg "int" = none) (m_max : mg "max" = none) (m_range : mg "range" = none) (c_Ratio___init__ : CalI P w K mg base (L2.CX P w) 1 C_Ratio ["self", "top", "bottom"] (sp_Ratio___init__ C_Ratio C_ZeroBottom) [V.int 1]) (c_Ratio___eq__ : CalM P w K mg base CX0 1 C_Ratio "__eq__" ["self", "other"] (sp_Ratio___eq__ C_Ratio)) (c_Ratio___bool__ : CalM P w K mg base CX0 1 C_Ratio "__bool__" ["self"] (sp_Ratio___bool__ C_Ratio)) (c__law_cell : Cal P w K mg base CX0 1 "_law_cell" ["_law_script", "_law_place"] (sp__law_cell K)) (c__law_draws : Cal P w K mg base CX0 1 "_law_draws" ["_law_cell_here", "_law_sizes"] (sp__law_draws K)) (c__law_wide : Cal P w K mg base CX0 1 "_law_wide" ["_law_parts"] (sp__law_wide K)) (c__law_told : Cal P w K mg base CX0 6 "_law_told" ["_law_x", "_law_y"] (sp__law_told C_Ratio)) (c__law_due : Cal P w K mg base CX0 1 "_law_due" ["_law_a", "_law_b"] sp__law_due) (c__law_alike : Cal P w K mg base CX0 1 "_law_alike" ["_law_told_here", "_law_due_here"] sp__law_alike) : FnOk P w K mg base CX0 7 f fd ["_law_script"] (sp_law K) := by
  refine F.ok sc_law (fun vs H Q E h => ?_) (fun cdv A outer s H vs Q E hr h => ?_)
  · obtain ⟨a, ns, rfl, _⟩ := h
    rfl
  · obtain ⟨a, ns, rfl, hS, hlen, q⟩ := h
    obtain ⟨f_Ratio___init__, fd_Ratio___init__, G_Ratio___init__, M_Ratio___init__, b_Ratio___init__, ds_Ratio___init__, vd_Ratio___init__, bd_Ratio___init__⟩ := c_Ratio___init__
    obtain ⟨f_Ratio___eq__, fd_Ratio___eq__, G_Ratio___eq__, M_Ratio___eq__, b_Ratio___eq__⟩ := c_Ratio___eq__
    obtain ⟨f_Ratio___bool__, fd_Ratio___bool__, G_Ratio___bool__, M_Ratio___bool__, b_Ratio___bool__⟩ := c_Ratio___bool__
    obtain ⟨f__law_cell, fd__law_cell, G__law_cell, m__law_cell, k__law_cell, b__law_cell⟩ := c__law_cell
    obtain ⟨f__law_draws, fd__law_draws, G__law_draws, m__law_draws, k__law_draws, b__law_draws⟩ := c__law_draws
    obtain ⟨f__law_wide, fd__law_wide, G__law_wide, m__law_wide, k__law_wide, b__law_wide⟩ := c__law_wide
    obtain ⟨f__law_told, fd__law_told, G__law_told, m__law_told, k__law_told, b__law_told⟩ := c__law_told
    obtain ⟨f__law_due, fd__law_due, G__law_due, m__law_due, k__law_due, b__law_due⟩ := c__law_due
    obtain ⟨f__law_alike, fd__law_alike, G__law_alike, m__law_alike, k__law_alike, b__law_alike⟩ := c__law_alike
    refine ⟨_, (pss_cons (ps_set (i := 1) sc_law.nd rfl (Or.inl rfl) (pe_call G__law_draws (hr.mono (by decide)) (by rfl) m__law_draws k__law_draws b__law_draws .nil pass0 (pa_cons (pe_call G__law_cell (hr.mono (by decide)) (by rfl) m__law_cell k__law_cell b__law_cell .nil pass0 (pa_cons (pv 0) (pa_cons pe_int pa_nil))) (pa_cons (pe_lst (pa_cons pe_int (pa_cons pe_int (pa_cons pe_int (pa_cons pe_int (pa_cons pe_int (pa_cons pe_int (pa_cons pe_int (pa_cons pe_int pa_nil))))))))) pa_nil))))
      (pss_cons (ps_set (i := 2) sc_law.nd rfl (Or.inr rfl) (pe_call G__law_draws (hr.mono (by decide)) (by rfl) m__law_draws k__law_draws b__law_draws .nil pass0 (pa_cons (pe_call G__law_cell (hr.mono (by decide)) (by rfl) m__law_cell k__law_cell b__law_cell .nil pass0 (pa_cons (pv 0) (pa_cons pe_int pa_nil))) (pa_cons (pe_lc (own := [("_law_k", 17)]) (g := gName 17) (tt := tYes) rfl sc_law.nd (pi_range1 (by rfl) m_range (pa_cons pe_int pa_nil)) (blkOk_by (own := [("_law_k", 17)]) (N := ["_law_script", "_law_ways", "_law_parts", "_law_bound", "_law_numbers", "_law_top_a", "_law_bottom_a", "_law_top_b", "_law_bottom_b", "_law_whole", "_law_scale", "_law_one", "_law_two", "_law_a", "_law_b", "_law_n", "_law_equal", "_law_k"]) (sc := defScope s_law) (by decide +kernel)) (fun _ _ _ _ _ => (pg_name (i := 17) sc_law.nd rfl (Or.inl rfl))) (fun _ _ _ _ _ => pts_nil) (fun _ _ _ _ _ => (pe_op op_pow pe_int pe_int))) pa_nil))))
      (pss_cons (ps_set (i := 3) sc_law.nd rfl (Or.inr rfl) (pe_ix ix_list (pe_lst (pa_cons pe_int (pa_cons (pe_op op_pow pe_int pe_int) (pa_cons (pe_op op_pow pe_int pe_int) pa_nil)))) (pe_ix ix_list (pv 1) pe_int (fun _ _ => rfl)) (fun _ _ => rfl)))
      (pss_cons (ps_setLc (i := 4) (own := [("_law_k", 17)]) (g := gName 17) (tt := tYes) rfl sc_law.nd rfl rfl (sw_true rfl rfl rfl (by decide +kernel)) (pi_range1 (by rfl) m_range (pa_cons pe_int pa_nil)) (blkOk_by (own := [("_law_k", 17)]) (N := ["_law_script", "_law_ways", "_law_parts", "_law_bound", "_law_numbers", "_law_top_a", "_law_bottom_a", "_law_top_b", "_law_bottom_b", "_law_whole", "_law_scale", "_law_one", "_law_two", "_law_a", "_law_b", "_law_n", "_law_equal", "_law_k"]) (sc := defScope s_law) (by decide +kernel)) (fun _ _ _ _ _ => (pg_name (i := 17) sc_law.nd rfl (Or.inl rfl))) (fun _ _ _ _ _ => pts_nil) (fun _ _ _ _ _ => (pe_op op_mod (pe_callTy call_int1 (by rfl) m_int (by decide +kernel) (pa_cons (pe_call G__law_wide (hr.mono (by decide)) (by rfl) m__law_wide k__law_wide b__law_wide .nil pass0 (pa_cons (pe_slice (r := rSlL K) sl_list (pv 2) (po_some (pe_op op_mul pe_int (pv 17))) (po_some (pe_op op_add (pe_op op_mul pe_int (pv 17)) pe_int))) pa_nil)) pa_nil)) (pv 3))))
      (pss_cons (ps_set (i := 5) sc_law.nd rfl (Or.inl rfl) (pe_ix ix_list (pv 4) pe_int (fun _ _ => rfl)))
      (pss_cons (ps_set (i := 6) sc_law.nd rfl (Or.inl rfl) (pe_callB (call_max2 rfl) (by rfl) m_max (by decide +kernel) (pa_cons pe_int (pa_cons (pe_ix ix_list (pv 4) pe_int (fun _ _ => rfl)) pa_nil))))
      (pss_cons (ps_set (i := 7) sc_law.nd rfl (Or.inl rfl) (pe_ix ix_list (pv 4) pe_int (fun _ _ => rfl)))
      (pss_cons (ps_set (i := 8) sc_law.nd rfl (Or.inl rfl) (pe_callB (call_max2 rfl) (by rfl) m_max (by decide +kernel) (pa_cons pe_int (pa_cons (pe_ix ix_list (pv 4) pe_int (fun _ _ => rfl)) pa_nil))))
      (pss_cons (ps_set (i := 9) sc_law.nd rfl (Or.inl rfl) (pe_ix ix_list (pv 4) pe_int (fun _ _ => rfl)))
      (Evl.pss_cut (ps_if (PW.pt (pw_or (pt_cmpR op_gt (pe_ix ix_list (pv 1) pe_int (fun _ _ => rfl)) pe_int (nomark _)) (pw_or1 (pt_cmpR op_gt (pe_ix ix_list (pv 1) pe_int (fun _ _ => rfl)) pe_int (nomark _))))) (pss_cons (ps_set (i := 5) sc_law.nd rfl (Or.inl rfl) (pe_op op_mod (pe_callTy call_int1 (by rfl) m_int (by decide +kernel) (pa_cons (pv 5) pa_nil)) (pe_op op_pow pe_int pe_int)))
      (pss_one (ps_set (i := 6) sc_law.nd rfl (Or.inl rfl) (pe_callB (call_max2 rfl) (by rfl) m_max (by decide +kernel) (pa_cons pe_int (pa_cons (pe_op op_mod (pe_callTy call_int1 (by rfl) m_int (by decide +kernel) (pa_cons (pv 6) pa_nil)) (pe_op op_pow pe_int pe_int)) pa_nil)))))) pss_nil)
      (Evl.pss_cut (ps_if (pt_cmpR op_gt (pe_ix ix_list (pv 1) pe_int (fun _ _ => rfl)) pe_int (nomark _)) (pss_one (ps_set (i := 6) sc_law.nd rfl (Or.inl rfl) pe_int)) pss_nil)
      (Evl.pss_cut (ps_if (pt_cmpR op_eq (pe_ix ix_list (pv 1) pe_int (fun _ _ => rfl)) pe_int (nomark _)) (pss_one (ps_set (i := 5) sc_law.nd rfl (Or.inl rfl) (pe_un un_neg (pv 5)))) pss_nil)
      (Evl.pss_cut (ps_if (pt_cmpR op_eq (pe_ix ix_list (pv 1) pe_int (fun _ _ => rfl)) pe_int (nomark _)) (pss_one (ps_set (i := 7) sc_law.nd rfl (Or.inl rfl) (pe_un un_neg (pv 7)))) pss_nil)
      (Evl.pss_cut (ps_if (pt_cmpR op_eq (pe_ix ix_list (pv 1) pe_int (fun _ _ => rfl)) pe_int (nomark _)) (pss_one (ps_set (i := 9) sc_law.nd rfl (Or.inl rfl) (pe_un un_neg (pv 9)))) pss_nil)
      (pss_cons (ps_set (i := 10) sc_law.nd rfl (Or.inl rfl) (pe_op op_add pe_int (pe_ix ix_list (pv 1) pe_int (fun _ _ => rfl))))
      (Evl.pss_cut (ps_if (pt_cmpR op_eq (pe_ix ix_list (pv 1) pe_int (fun _ _ => rfl)) pe_int (nomark _)) (pss_one (ps_set (i := 10) sc_law.nd rfl (Or.inl rfl) (pe_op op_add pe_int (pe_op op_mod (pe_callTy call_int1 (by rfl) m_int (by decide +kernel) (pa_cons (pe_ix ix_list (pv 4) pe_int (fun _ _ => rfl)) pa_nil)) (pe_op op_pow pe_int pe_int))))) pss_nil)
      (Evl.pss_cut (ps_if (pt_cmpR op_gt (pe_ix ix_list (pv 1) pe_int (fun _ _ => rfl)) pe_int (nomark _)) (pss_cons (ps_set (i := 7) sc_law.nd rfl (Or.inl rfl) (pe_op op_mulW (pv 5) (pv 10)))
      (pss_one (ps_set (i := 8) sc_law.nd rfl (Or.inl rfl) (pe_op op_mulW (pv 6) (pv 10))))) pss_nil)
      (Evl.pss_cut (ps_if (pt_cmpR op_eq (pe_ix ix_list (pv 1) pe_int (fun _ _ => rfl)) pe_int (nomark _)) (pss_one (ps_set (i := 7) sc_law.nd rfl (Or.inl rfl) (pe_op op_sub (pe_op op_add (pv 7) (pe_ix ix_list (pv 1) pe_int (fun _ _ => rfl))) pe_int))) pss_nil)
      (Evl.pss_cut (ps_if (pt_cmpR op_eq (pe_ix ix_list (pv 1) pe_int (fun _ _ => rfl)) pe_int (nomark _)) (pss_one (ps_set (i := 7) sc_law.nd rfl (Or.inl rfl) (pe_un un_neg (pv 7)))) pss_nil)
      (Evl.pss_cut (ps_if (pt_cmpR op_gt (pe_ix ix_list (pv 1) pe_int (fun _ _ => rfl)) pe_int (nomark _)) (pss_one (ps_set (i := 9) sc_law.nd rfl (Or.inl rfl) (pe_op op_fdivW (pv 5) (pv 6)))) pss_nil)
      (Evl.pss_cut (ps_if (pt_cmpR op_eq (pe_ix ix_list (pv 1) pe_int (fun _ _ => rfl)) pe_int (nomark _)) (pss_one (ps_set (i := 9) sc_law.nd rfl (Or.inl rfl) (pe_op op_add (pv 9) pe_int))) pss_nil)
      (pss_cons (ps_set (i := 11) sc_law.nd rfl (Or.inl rfl) (pe_make M_Ratio___init__ G_Ratio___init__ (hr.mono (by decide)) (by rfl) T.g_Ratio b_Ratio___init__ .nil passL (pa_cons (pv 5) (pa_cons (pv 6) pa_nil))))
      (pss_cons (ps_set (i := 12) sc_law.nd rfl (Or.inl rfl) (pe_make M_Ratio___init__ G_Ratio___init__ (hr.mono (by decide)) (by rfl) T.g_Ratio b_Ratio___init__ .nil passL (pa_cons (pv 7) (pa_cons (pv 8) pa_nil))))
      (pss_cons (ps_set (i := 13) sc_law.nd rfl (Or.inl rfl) (pe_tup (pa_cons (pv 5) (pa_cons (pv 6) pa_nil))))
      (pss_cons (ps_set (i := 14) sc_law.nd rfl (Or.inl rfl) (pe_tup (pa_cons (pv 7) (pa_cons (pv 8) pa_nil))))
      (pss_cons (ps_set (i := 15) sc_law.nd rfl (Or.inl rfl) (pe_tup (pa_cons (pv 9) (pa_cons pe_int pa_nil))))
      (pss_cons (ps_if (PW.pt (pw_or (pt_not (pt_val (pe_call G__law_alike (hr.mono (by decide)) (by rfl) m__law_alike k__law_alike b__law_alike .nil pass0 (pa_cons (pe_call G__law_told (hr.mono (by decide)) (by rfl) m__law_told k__law_told b__law_told .nil pass0 (pa_cons (pv 11) (pa_cons (pv 12) pa_nil))) (pa_cons (pe_call G__law_due (hr.mono (by decide)) (by rfl) m__law_due k__law_due b__law_due .nil pass0 (pa_cons (pv 13) (pa_cons (pv 14) pa_nil))) pa_nil))))) (pw_or1 (pt_not (pt_val (pe_call G__law_alike (hr.mono (by decide)) (by rfl) m__law_alike k__law_alike b__law_alike .nil pass0 (pa_cons (pe_call G__law_told (hr.mono (by decide)) (by rfl) m__law_told k__law_told b__law_told .nil pass0 (pa_cons (pv 12) (pa_cons (pv 11) pa_nil))) (pa_cons (pe_call G__law_due (hr.mono (by decide)) (by rfl) m__law_due k__law_due b__law_due .nil pass0 (pa_cons (pv 14) (pa_cons (pv 13) pa_nil))) pa_nil)))))))) (pss_one (ps_ret pe_bl)) pss_nil)
      (pss_cons (ps_if (PW.pt (pw_or (pt_not (pt_val (pe_call G__law_alike (hr.mono (by decide)) (by rfl) m__law_alike k__law_alike b__law_alike .nil pass0 (pa_cons (pe_call G__law_told (hr.mono (by decide)) (by rfl) m__law_told k__law_told b__law_told .nil pass0 (pa_cons (pv 11) (pa_cons (pv 9) pa_nil))) (pa_cons (pe_call G__law_due (hr.mono (by decide)) (by rfl) m__law_due k__law_due b__law_due .nil pass0 (pa_cons (pv 13) (pa_cons (pv 15) pa_nil))) pa_nil))))) (pw_or1 (pt_not (pt_val (pe_call G__law_alike (hr.mono (by decide)) (by rfl) m__law_alike k__law_alike b__law_alike .nil pass0 (pa_cons (pe_call G__law_told (hr.mono (by decide)) (by rfl) m__law_told k__law_told b__law_told .nil pass0 (pa_cons (pv 9) (pa_cons (pv 11) pa_nil))) (pa_cons (pe_call G__law_due (hr.mono (by decide)) (by rfl) m__law_due k__law_due b__law_due .nil pass0 (pa_cons (pv 15) (pa_cons (pv 13) pa_nil))) pa_nil)))))))) (pss_one (ps_ret pe_bl)) pss_nil)
      (pss_cons (ps_if (PW.pt (pw_or (pt_not (pt_val (pe_call G__law_alike (hr.mono (by decide)) (by rfl) m__law_alike k__law_alike b__law_alike .nil pass0 (pa_cons (pe_call G__law_told (hr.mono (by decide)) (by rfl) m__law_told k__law_told b__law_told .nil pass0 (pa_cons (pv 11) (pa_cons (pv 11) pa_nil))) (pa_cons (pe_call G__law_due (hr.mono (by decide)) (by rfl) m__law_due k__law_due b__law_due .nil pass0 (pa_cons (pv 13) (pa_cons (pv 13) pa_nil))) pa_nil))))) (pw_or1 (pt_not (pt_val (pe_call G__law_alike (hr.mono (by decide)) (by rfl) m__law_alike k__law_alike b__law_alike .nil pass0 (pa_cons (pe_call G__law_told (hr.mono (by decide)) (by rfl) m__law_told k__law_told b__law_told .nil pass0 (pa_cons (pv 12) (pa_cons (pv 9) pa_nil))) (pa_cons (pe_call G__law_due (hr.mono (by decide)) (by rfl) m__law_due k__law_due b__law_due .nil pass0 (pa_cons (pv 14) (pa_cons (pv 15) pa_nil))) pa_nil)))))))) (pss_one (ps_ret pe_bl)) pss_nil)
      (pss_cons (ps_set (i := 16) sc_law.nd rfl (Or.inl rfl) (pe_cmpR op_eq (pe_op op_mulW (pv 5) (pv 8)) (pe_op op_mulW (pv 7) (pv 6)) (nomark _)))
      (pss_cons (ps_if (PW.pt (pw_or (pt_cmpR op_ne (pe_cmpR op_isBl (pe_cmpR (op_cmp_Eq M_Ratio___eq__ M_Ratio___eq__ T.si_Ratio T.sr_Ratio G_Ratio___eq__ G_Ratio___eq__ (hr.mono (by decide)) (hr.mono (by decide)) b_Ratio___eq__ b_Ratio___eq__ pass0) (pv 11) (pv 12) (nomark _)) pe_bl (nomark _)) (pv 16) (nomark _)) (pw_or (pt_cmpR op_ne (pe_cmpR op_isBl (pe_cmpR (op_cmp_Eq M_Ratio___eq__ M_Ratio___eq__ T.si_Ratio T.sr_Ratio G_Ratio___eq__ G_Ratio___eq__ (hr.mono (by decide)) (hr.mono (by decide)) b_Ratio___eq__ b_Ratio___eq__ pass0) (pv 12) (pv 11) (nomark _)) pe_bl (nomark _)) (pv 16) (nomark _)) (pw_or1 (pt_cmpR op_notBl (pe_cmpR (op_cmp_Eq M_Ratio___eq__ M_Ratio___eq__ T.si_Ratio T.sr_Ratio G_Ratio___eq__ G_Ratio___eq__ (hr.mono (by decide)) (hr.mono (by decide)) b_Ratio___eq__ b_Ratio___eq__ pass0) (pv 11) (pv 11) (nomark _)) pe_bl (nomark _)))))) (pss_one (ps_ret pe_bl)) pss_nil)
      (pss_cons (ps_if (PW.pt (pw_or (pt_cmpR op_isBl (pe_cmpR (op_cmp_Eq M_Ratio___eq__ M_Ratio___eq__ T.si_Ratio T.sr_Ratio G_Ratio___eq__ G_Ratio___eq__ (hr.mono (by decide)) (hr.mono (by decide)) b_Ratio___eq__ b_Ratio___eq__ pass0) (pv 11) (pv 9) (nomark _)) pe_bl (nomark _)) (pw_or1 (pt_cmpR op_isBl (pe_cmpR (op_cmp_Eq M_Ratio___eq__ M_Ratio___eq__ T.si_Ratio T.sr_Ratio G_Ratio___eq__ G_Ratio___eq__ (hr.mono (by decide)) (hr.mono (by decide)) b_Ratio___eq__ b_Ratio___eq__ pass0) (pv 9) (pv 11) (nomark _)) pe_bl (nomark _))))) (pss_one (ps_ret pe_bl)) pss_nil)
      (pss_one (ps_ret (pe_and (pe_cmpR op_eq (pe_callTy (call_boolO M_Ratio___bool__ G_Ratio___bool__ (hr.mono (by decide)) b_Ratio___bool__ pass0) (by rfl) m_bool (by decide +kernel) (pa_cons (pv 11) pa_nil)) (pe_cmpR op_ne (pv 5) pe_int (nomark _)) (nomark _)) (pe_one (pe_cmpR op_eq (pe_callTy (call_boolO M_Ratio___bool__ G_Ratio___bool__ (hr.mono (by decide)) b_Ratio___bool__ pass0) (by rfl) m_bool (by decide +kernel) (pa_cons (pv 12) pa_nil)) (pe_cmpR op_ne (pv 7) pe_int (nomark _)) (nomark _)))))))))))))))))))))))))))))))))))))), ?_⟩
    refine ⟨.ref a, rfl, a, ns, 0, rfl, hS, fun c1 => ?_⟩
    refine ⟨(by show 8 ≤ sizeLine; decide), fun p1 np1 => ?_⟩
    refine ⟨c1, p1, [4, 3, 2, 2, 2, 5, 3, 6], rfl, lst_l upd_same, by decide, by decide, fun dsd1 H1 d1 wd1 s1 nd1 hd1 => ?_⟩
    have s1 : Same H H1 := (same_upd np1).trans s1
    have nd1 : H d1 = none := (same_upd np1).free nd1
    obtain ⟨x0, rx0, rfl, lx0, ux0, wd1⟩ := wd1.c
    obtain ⟨x1, rx1, rfl, lx1, ux1, wd1⟩ := wd1.c
    obtain ⟨x2, rx2, rfl, lx2, ux2, wd1⟩ := wd1.c
    obtain ⟨x3, rx3, rfl, lx3, ux3, wd1⟩ := wd1.c
    obtain ⟨x4, rx4, rfl, lx4, ux4, wd1⟩ := wd1.c
    obtain ⟨x5, rx5, rfl, lx5, ux5, wd1⟩ := wd1.c
    obtain ⟨x6, rx6, rfl, lx6, ux6, wd1⟩ := wd1.c
    obtain ⟨x7, rx7, rfl, lx7, ux7, wd1⟩ := wd1.c
    cases wd1.n
    have Ld1 : SqL K H1 d1 ([x0, x1, x2, x3, x4, x5, x6, x7].map V.int) := lst_l hd1
    refine ⟨.ref a, rfl, a, ns, 1, rfl, s1.seq hS, fun c2 => ?_⟩
    refine ⟨20, rfl, by decide, by decide, fun D2 nD2 => lc_range (lo := 0) (n := 20) (fun i H2 => Same H1 H2 ∧ H2 D2 = some (.lst ((List.replicate i (1000000000000000 : Int)).map V.int))) ⟨same_upd nD2, upd_same⟩ ?_ ?_⟩
    · rintro i H2 hi ⟨s, hD⟩
      refine ⟨rfl, ?_⟩
      refine lc_yes ?_
      refine iteT ?_
      refine ⟨10, 15, rfl, rfl, ⟨by decide, by decide, by decide⟩, _, hD, ?_, same_mut s nD2, ?_⟩
      · rw [List.length_map, List.length_replicate]
        exact small1000 (by omega)
      · rw [upd_same, List.replicate_succ', ← snoc_int]
        rfl
    rintro H2 ⟨s2, h2⟩
    refine ⟨c2, D2, List.replicate 20 1000000000000000, rfl, lst_l h2, by decide, by decide, fun ps H3 d2 w2 s3 nd2 hd2 => ?_⟩
    have bp := within_rep w2
    have F1 : SqL K H3 d1 ([x0, x1, x2, x3, x4, x5, x6, x7].map V.int) := s3.seq (s2.seq Ld1)
    have F2 : SqL K H3 d2 (ps.map V.int) := lst_l hd2
    refine ⟨10, 9, rfl, rfl, ⟨by decide, by decide, by decide⟩, 10, 60, rfl, rfl, ⟨by decide, by decide, by decide⟩, (by show 3 ≤ sizeLine; decide), fun p4 n4 => ?_⟩
    have s4 := same_upd (o := .lst [V.int 10, V.int (10 ^ 9), V.int (10 ^ 60)]) n4
    obtain ⟨bd, hbd, bd0, bd1⟩ : ∃ b : Int, atI [V.int 10, V.int (10 ^ 9), V.int (10 ^ 60)] x1 = some (V.int b) ∧ 0 < b ∧ b ≤ 10 ^ 60 := by
      rcases (by omega : x1 = 0 ∨ x1 = 1 ∨ x1 = 2) with rfl | rfl | rfl
      · exact ⟨10, rfl, by decide, by decide⟩
      · exact ⟨10 ^ 9, rfl, by decide, by decide⟩
      · exact ⟨10 ^ 60, rfl, by decide, by decide⟩
    refine ⟨.ref d1, rfl, d1, _, _, .int x1, rfl, rfl, s4.seq F1, atI_nat (j := 1) rfl, p4, _, _, .int bd, rfl, rfl, lst_l upd_same, hbd, ?_⟩
    refine ⟨5, rfl, by decide, by decide, fun D5 n5 => lc_range (lo := 0) (n := 5) (fun i H6 => ∃ vs : List Int, vs.length = i ∧ (∀ v ∈ vs, 0 ≤ v ∧ v < bd) ∧ Same (upd H3 p4 (.lst [V.int 10, V.int (10 ^ 9), V.int (10 ^ 60)])) H6 ∧ H6 D5 = some (.lst (vs.map V.int))) ⟨[], rfl, fun v hv => (by cases hv), same_upd n5, upd_same⟩ ?_ ?_⟩
    · rintro i H6 hi ⟨vs, hl, hv, s, hD⟩
      refine ⟨rfl, ?_⟩
      refine lc_yes ?_
      refine iteT ?_
      obtain ⟨ms, em, hm⟩ := cut_map ps (some (4 * (0 + (i : Int)))) (some (4 * (0 + (i : Int)) + 4))
      refine ⟨.ref d2, rfl, _, rfl, _, _, rfl, rfl, .inl ⟨by decide, by decide⟩, _, rfl, _, rfl, _, _, rfl, rfl, .inl ⟨by decide, by decide⟩, _, _, rfl, rfl, _, rfl, d2, _, rfl, s.seq (s4.seq F2), fun p6 n6 => ?_⟩
      refine ⟨p6, ms, rfl, lst_l (upd_same.trans (congrArg (fun l => some (HO.lst l)) em)), fun m h => bp m (hm m h), fun v v0 v1 => ?_⟩
      have hne : D5 ≠ p6 := ne_of_none hD n6
      refine .inl ⟨v, rfl, _, rfl, v, bd, rfl, rfl, bd0, _, (upd_ne hne).trans hD, ?_, vs ++ [v % bd], ?_, ?_, same_mut (s.trans (same_upd n6)) n5, ?_⟩
      · rw [List.length_map, hl]
        exact small1000 (by omega)
      · rw [List.length_append, hl]
        rfl
      · intro x hx
        rcases List.mem_append.mp hx with hx | hx
        · exact hv x hx
        · rw [List.mem_singleton.mp hx]
          exact ⟨Int.emod_nonneg v (by omega), Int.emod_lt_of_pos v bd0⟩
      · rw [upd_same, ← snoc_int]
    rintro H5 ⟨vs, hl, hv, s5, hD5⟩
    obtain ⟨v0, v1, v2, v3, v4, rfl⟩ := five hl
    obtain ⟨a0, b0⟩ := hv v0 (by simp)
    obtain ⟨a1, b1⟩ := hv v1 (by simp)
    obtain ⟨a2, b2⟩ := hv v2 (by simp)
    obtain ⟨a3, b3⟩ := hv v3 (by simp)
    obtain ⟨a4, b4⟩ := hv v4 (by simp)
    have G1 : SqL K H5 d1 ([x0, x1, x2, x3, x4, x5, x6, x7].map V.int) := s5.seq (s4.seq F1)
    have G5 : SqL K H5 D5 ([v0, v1, v2, v3, v4].map V.int) := lst_l hD5
    clear hv
    refine ⟨.ref D5, rfl, D5, _, _, _, rfl, rfl, G5, atI_nat (j := 0) rfl, ?_⟩
    refine ⟨.ref D5, rfl, D5, _, _, _, rfl, rfl, G5, atI_nat (j := 1) rfl, 1, v1, rfl, ?_⟩
    refine ⟨.ref D5, rfl, D5, _, _, _, rfl, rfl, G5, atI_nat (j := 2) rfl, ?_⟩
    refine ⟨.ref D5, rfl, D5, _, _, _, rfl, rfl, G5, atI_nat (j := 3) rfl, 1, v3, rfl, ?_⟩
    refine ⟨.ref D5, rfl, D5, _, _, _, rfl, rfl, G5, atI_nat (j := 4) rfl, ?_⟩
    have q1 : 0 < (if v1 > 1 then v1 else 1) ∧ (if v1 > 1 then v1 else 1).natAbs < 10 ^ 60 := by
      split <;> constructor <;> omega
    have q3 : 0 < (if v3 > 1 then v3 else 1) ∧ (if v3 > 1 then v3 else 1).natAbs < 10 ^ 60 := by
      split <;> constructor <;> omega
    generalize (if v1 > 1 then v1 else 1) = w1 at q1 ⊢
    generalize (if v3 > 1 then v3 else 1) = w3 at q3 ⊢
    obtain ⟨q1, r1⟩ := q1
    obtain ⟨q3, r3⟩ := q3
    have r0 : v0.natAbs < 10 ^ 60 := by omega
    have r2 : v2.natAbs < 10 ^ 60 := by omega
    have r4 : v4.natAbs < 10 ^ 60 := by omega
    refine ⟨fun σ' H' => ∃ ta ba tb bb wh : Int, ta.natAbs < 10 ^ 60 ∧ 0 < ba ∧ ba.natAbs < 10 ^ 60 ∧ tb.natAbs < 10 ^ 60 ∧ 0 < bb ∧ bb.natAbs < 10 ^ 60 ∧ wh.natAbs < 10 ^ 60 ∧ H5 = H' ∧ σ' = [some (.ref a), some (.ref d1), some (.ref d2), some (.int bd), some (.ref D5), some (.int ta), some (.int ba), some (.int tb), some (.int bb), some (.int wh), none, none, none, none, none, none, none, none], ?_, ?_⟩
    · refine ⟨.ref d1, rfl, d1, _, _, _, rfl, rfl, G1, atI_nat (j := 0) rfl, _, _, rfl, rfl, _, rfl, ite2 (fun _ => ?_) (fun _ => ⟨.ref d1, rfl, d1, _, _, _, rfl, rfl, G1, atI_nat (j := 7) rfl, _, _, rfl, rfl, _, rfl, ite2 (fun _ => ?_) (fun _ => ⟨v0, w1, v2, w3, v4, r0, q1, r1, r2, q3, r3, r4, rfl, rfl⟩)⟩)⟩
      all_goals
        have e0 := Int.emod_nonneg v0 (show (10 : Int) ^ 30 ≠ 0 by decide)
        have e1 := Int.emod_lt_of_pos v0 (show (0 : Int) < 10 ^ 30 by decide)
        have e2 := Int.emod_nonneg w1 (show (10 : Int) ^ 30 ≠ 0 by decide)
        have e3 := Int.emod_lt_of_pos w1 (show (0 : Int) < 10 ^ 30 by decide)
        refine ⟨_, rfl, .inl ⟨v0, rfl, 10, 30, rfl, rfl, ⟨by decide, by decide, by decide⟩, v0, 10 ^ 30, rfl, rfl, (show (0 : Int) < 10 ^ 30 by decide), ?_⟩⟩
        refine ⟨_, rfl, .inl ⟨w1, rfl, 10, 30, rfl, rfl, ⟨by decide, by decide, by decide⟩, w1, 10 ^ 30, rfl, rfl, (show (0 : Int) < 10 ^ 30 by decide), 1, w1 % 10 ^ 30, rfl, ?_⟩⟩
        refine ⟨v0 % 10 ^ 30, if w1 % 10 ^ 30 > 1 then w1 % 10 ^ 30 else 1, v2, w3, v4, by omega, ?_, ?_, r2, q3, r3, r4, rfl, rfl⟩
        · split <;> omega
        · split <;> omega
    rintro σ' H' ⟨ta, ba, tb, bb, wh, k0, k1, k2, k3, k4, k5, k6, rfl, rfl⟩
    refine ⟨fun σ' H' => ∃ ta ba tb bb wh : Int, ta.natAbs < 10 ^ 60 ∧ 0 < ba ∧ ba.natAbs < 10 ^ 60 ∧ tb.natAbs < 10 ^ 60 ∧ 0 < bb ∧ bb.natAbs < 10 ^ 60 ∧ wh.natAbs < 10 ^ 60 ∧ H5 = H' ∧ σ' = [some (.ref a), some (.ref d1), some (.ref d2), some (.int bd), some (.ref D5), some (.int ta), some (.int ba), some (.int tb), some (.int bb), some (.int wh), none, none, none, none, none, none, none, none], ?_, ?_⟩
    · refine ⟨.ref d1, rfl, d1, _, _, _, rfl, rfl, G1, atI_nat (j := 7) rfl, _, _, rfl, rfl, _, rfl, ite2 (fun _ => ?_) (fun _ => ⟨ta, ba, tb, bb, wh, k0, k1, k2, k3, k4, k5, k6, rfl, rfl⟩)⟩
      exact ⟨ta, 1, tb, bb, wh, k0, by decide, by decide, k3, k4, k5, k6, rfl, rfl⟩
    rintro σ' H' ⟨ta, ba, tb, bb, wh, k0, k1, k2, k3, k4, k5, k6, rfl, rfl⟩
    refine ⟨fun σ' H' => ∃ ta ba tb bb wh : Int, ta.natAbs < 10 ^ 60 ∧ 0 < ba ∧ ba.natAbs < 10 ^ 60 ∧ tb.natAbs < 10 ^ 60 ∧ 0 < bb ∧ bb.natAbs < 10 ^ 60 ∧ wh.natAbs < 10 ^ 60 ∧ H5 = H' ∧ σ' = [some (.ref a), some (.ref d1), some (.ref d2), some (.int bd), some (.ref D5), some (.int ta), some (.int ba), some (.int tb), some (.int bb), some (.int wh), none, none, none, none, none, none, none, none], ?_, ?_⟩
    · refine ⟨.ref d1, rfl, d1, _, _, _, rfl, rfl, G1, atI_nat (j := 2) rfl, rfl, _, rfl, ite2 (fun _ => ?_) (fun _ => ⟨ta, ba, tb, bb, wh, k0, k1, k2, k3, k4, k5, k6, rfl, rfl⟩)⟩
      exact ⟨_, rfl, ta, rfl, -ta, ba, tb, bb, wh, by omega, k1, k2, k3, k4, k5, k6, rfl, rfl⟩
    rintro σ' H' ⟨ta, ba, tb, bb, wh, k0, k1, k2, k3, k4, k5, k6, rfl, rfl⟩
    refine ⟨fun σ' H' => ∃ ta ba tb bb wh : Int, ta.natAbs < 10 ^ 60 ∧ 0 < ba ∧ ba.natAbs < 10 ^ 60 ∧ tb.natAbs < 10 ^ 60 ∧ 0 < bb ∧ bb.natAbs < 10 ^ 60 ∧ wh.natAbs < 10 ^ 60 ∧ H5 = H' ∧ σ' = [some (.ref a), some (.ref d1), some (.ref d2), some (.int bd), some (.ref D5), some (.int ta), some (.int ba), some (.int tb), some (.int bb), some (.int wh), none, none, none, none, none, none, none, none], ?_, ?_⟩
    · refine ⟨.ref d1, rfl, d1, _, _, _, rfl, rfl, G1, atI_nat (j := 3) rfl, rfl, _, rfl, ite2 (fun _ => ?_) (fun _ => ⟨ta, ba, tb, bb, wh, k0, k1, k2, k3, k4, k5, k6, rfl, rfl⟩)⟩
      exact ⟨_, rfl, tb, rfl, ta, ba, -tb, bb, wh, k0, k1, k2, by omega, k4, k5, k6, rfl, rfl⟩
    rintro σ' H' ⟨ta, ba, tb, bb, wh, k0, k1, k2, k3, k4, k5, k6, rfl, rfl⟩
    refine ⟨fun σ' H' => ∃ ta ba tb bb wh : Int, ta.natAbs < 10 ^ 60 ∧ 0 < ba ∧ ba.natAbs < 10 ^ 60 ∧ tb.natAbs < 10 ^ 60 ∧ 0 < bb ∧ bb.natAbs < 10 ^ 60 ∧ wh.natAbs < 10 ^ 60 ∧ H5 = H' ∧ σ' = [some (.ref a), some (.ref d1), some (.ref d2), some (.int bd), some (.ref D5), some (.int ta), some (.int ba), some (.int tb), some (.int bb), some (.int wh), none, none, none, none, none, none, none, none], ?_, ?_⟩
    · refine ⟨.ref d1, rfl, d1, _, _, _, rfl, rfl, G1, atI_nat (j := 4) rfl, rfl, _, rfl, ite2 (fun _ => ?_) (fun _ => ⟨ta, ba, tb, bb, wh, k0, k1, k2, k3, k4, k5, k6, rfl, rfl⟩)⟩
      exact ⟨_, rfl, wh, rfl, ta, ba, tb, bb, -wh, k0, k1, k2, k3, k4, k5, by omega, rfl, rfl⟩
    rintro σ' H' ⟨ta, ba, tb, bb, wh, k0, k1, k2, k3, k4, k5, k6, rfl, rfl⟩
    refine ⟨.ref d1, rfl, d1, _, _, _, rfl, rfl, G1, atI_nat (j := 5) rfl, _, _, rfl, rfl, ?_⟩
    refine ⟨fun σ' H' => ∃ ta ba tb bb wh sc : Int, ta.natAbs < 10 ^ 60 ∧ 0 < ba ∧ ba.natAbs < 10 ^ 60 ∧ tb.natAbs < 10 ^ 60 ∧ 0 < bb ∧ bb.natAbs < 10 ^ 60 ∧ wh.natAbs < 10 ^ 60 ∧ 0 < sc ∧ sc.natAbs ≤ 10 ^ 30 ∧ H5 = H' ∧ σ' = [some (.ref a), some (.ref d1), some (.ref d2), some (.int bd), some (.ref D5), some (.int ta), some (.int ba), some (.int tb), some (.int bb), some (.int wh), some (.int sc), none, none, none, none, none, none, none], ?_, ?_⟩
    · refine ⟨.ref d1, rfl, d1, _, _, _, rfl, rfl, G1, atI_nat (j := 0) rfl, rfl, _, rfl, ite2 (fun _ => ?_) (fun _ => ⟨ta, ba, tb, bb, wh, 1 + x5, k0, k1, k2, k3, k4, k5, k6, by omega, by omega, rfl, rfl⟩)⟩
      have e0 := Int.emod_nonneg v2 (show (10 : Int) ^ 29 ≠ 0 by decide)
      have e1 := Int.emod_lt_of_pos v2 (show (0 : Int) < 10 ^ 29 by decide)
      refine ⟨.ref D5, rfl, D5, _, _, _, rfl, rfl, G5, atI_nat (j := 2) rfl, .inl ⟨v2, rfl, 10, 29, rfl, rfl, ⟨by decide, by decide, by decide⟩, v2, 10 ^ 29, rfl, rfl, (show (0 : Int) < 10 ^ 29 by decide), _, _, rfl, rfl, ?_⟩⟩
      exact ⟨ta, ba, tb, bb, wh, 1 + v2 % 10 ^ 29, k0, k1, k2, k3, k4, k5, k6, by omega, by omega, rfl, rfl⟩
    rintro σ' H' ⟨ta, ba, tb, bb, wh, sc, k0, k1, k2, k3, k4, k5, k6, k7, k8, rfl, rfl⟩
    refine ⟨fun σ' H' => ∃ ta ba tb bb wh sc : Int, ta.natAbs < 10 ^ 60 ∧ 0 < ba ∧ ba.natAbs < 10 ^ 60 ∧ tb.natAbs < 10 ^ 91 ∧ 0 < bb ∧ bb.natAbs < 10 ^ 91 ∧ wh.natAbs < 10 ^ 60 ∧ 0 < sc ∧ sc.natAbs ≤ 10 ^ 30 ∧ H5 = H' ∧ σ' = [some (.ref a), some (.ref d1), some (.ref d2), some (.int bd), some (.ref D5), some (.int ta), some (.int ba), some (.int tb), some (.int bb), some (.int wh), some (.int sc), none, none, none, none, none, none, none], ?_, ?_⟩
    · refine ⟨.ref d1, rfl, d1, _, _, _, rfl, rfl, G1, atI_nat (j := 0) rfl, _, _, rfl, rfl, _, rfl, ite2 (fun _ => ?_) (fun _ => ⟨ta, ba, tb, bb, wh, sc, k0, k1, k2, Nat.lt_of_lt_of_le k3 (Nat.pow_le_pow_right (by decide) (by decide : 60 ≤ 91)), k4, Nat.lt_of_lt_of_le k5 (Nat.pow_le_pow_right (by decide) (by decide : 60 ≤ 91)), k6, k7, k8, rfl, rfl⟩)⟩
      have u1 := b90 k0 k8
      have u2 := b90 k2 k8
      refine ⟨_, rfl, _, rfl, ta, sc, rfl, rfl, (sm60 k0).mul (sm100 (Nat.le_trans k8 (by decide))), ?_⟩
      refine ⟨_, rfl, _, rfl, ba, sc, rfl, rfl, (sm60 k2).mul (sm100 (Nat.le_trans k8 (by decide))), ?_⟩
      exact ⟨ta, ba, ta * sc, ba * sc, wh, sc, k0, k1, k2, Nat.lt_of_le_of_lt u1 (by decide), Int.mul_pos k1 k7, Nat.lt_of_le_of_lt u2 (by decide), k6, k7, k8, rfl, rfl⟩
    rintro σ' H' ⟨ta, ba, tb, bb, wh, sc, k0, k1, k2, k3, k4, k5, k6, k7, k8, rfl, rfl⟩
    refine ⟨fun σ' H' => ∃ ta ba tb bb wh sc : Int, ta.natAbs < 10 ^ 60 ∧ 0 < ba ∧ ba.natAbs < 10 ^ 60 ∧ tb.natAbs < 10 ^ 92 ∧ 0 < bb ∧ bb.natAbs < 10 ^ 92 ∧ wh.natAbs < 10 ^ 60 ∧ 0 < sc ∧ sc.natAbs ≤ 10 ^ 30 ∧ H5 = H' ∧ σ' = [some (.ref a), some (.ref d1), some (.ref d2), some (.int bd), some (.ref D5), some (.int ta), some (.int ba), some (.int tb), some (.int bb), some (.int wh), some (.int sc), none, none, none, none, none, none, none], ?_, ?_⟩
    · refine ⟨.ref d1, rfl, d1, _, _, _, rfl, rfl, G1, atI_nat (j := 0) rfl, rfl, _, rfl, ite2 (fun _ => ?_) (fun _ => ⟨ta, ba, tb, bb, wh, sc, k0, k1, k2, by omega, k4, by omega, k6, k7, k8, rfl, rfl⟩)⟩
      refine ⟨_, rfl, .ref d1, rfl, d1, _, _, _, rfl, rfl, G1, atI_nat (j := 6) rfl, _, _, rfl, rfl, _, _, rfl, rfl, ?_⟩
      exact ⟨ta, ba, tb + x6 - 1, bb, wh, sc, k0, k1, k2, by omega, k4, by omega, k6, k7, k8, rfl, rfl⟩
    rintro σ' H' ⟨ta, ba, tb, bb, wh, sc, k0, k1, k2, k3, k4, k5, k6, k7, k8, rfl, rfl⟩
    refine ⟨fun σ' H' => ∃ ta ba tb bb wh sc : Int, ta.natAbs < 10 ^ 60 ∧ 0 < ba ∧ ba.natAbs < 10 ^ 60 ∧ tb.natAbs < 10 ^ 92 ∧ 0 < bb ∧ bb.natAbs < 10 ^ 92 ∧ wh.natAbs < 10 ^ 60 ∧ 0 < sc ∧ sc.natAbs ≤ 10 ^ 30 ∧ H5 = H' ∧ σ' = [some (.ref a), some (.ref d1), some (.ref d2), some (.int bd), some (.ref D5), some (.int ta), some (.int ba), some (.int tb), some (.int bb), some (.int wh), some (.int sc), none, none, none, none, none, none, none], ?_, ?_⟩
    · refine ⟨.ref d1, rfl, d1, _, _, _, rfl, rfl, G1, atI_nat (j := 0) rfl, rfl, _, rfl, ite2 (fun _ => ?_) (fun _ => ⟨ta, ba, tb, bb, wh, sc, k0, k1, k2, k3, k4, k5, k6, k7, k8, rfl, rfl⟩)⟩
      exact ⟨_, rfl, tb, rfl, ta, ba, -tb, bb, wh, sc, k0, k1, k2, by omega, k4, k5, k6, k7, k8, rfl, rfl⟩
    rintro σ' H' ⟨ta, ba, tb, bb, wh, sc, k0, k1, k2, k3, k4, k5, k6, k7, k8, rfl, rfl⟩
    refine ⟨fun σ' H' => ∃ ta ba tb bb wh sc : Int, ta.natAbs < 10 ^ 60 ∧ 0 < ba ∧ ba.natAbs < 10 ^ 60 ∧ tb.natAbs < 10 ^ 92 ∧ 0 < bb ∧ bb.natAbs < 10 ^ 92 ∧ wh.natAbs < 10 ^ 60 ∧ 0 < sc ∧ sc.natAbs ≤ 10 ^ 30 ∧ H5 = H' ∧ σ' = [some (.ref a), some (.ref d1), some (.ref d2), some (.int bd), some (.ref D5), some (.int ta), some (.int ba), some (.int tb), some (.int bb), some (.int wh), some (.int sc), none, none, none, none, none, none, none], ?_, ?_⟩
    · refine ⟨.ref d1, rfl, d1, _, _, _, rfl, rfl, G1, atI_nat (j := 7) rfl, _, _, rfl, rfl, _, rfl, ite2 (fun _ => ?_) (fun _ => ⟨ta, ba, tb, bb, wh, sc, k0, k1, k2, k3, k4, k5, k6, k7, k8, rfl, rfl⟩)⟩
      have dd := Int.natAbs_ediv_le_natAbs ta ba
      refine ⟨_, rfl, _, rfl, ta, ba, rfl, rfl, ⟨k1, Nat.lt_of_lt_of_le (sm60 k2).log (by decide)⟩, ?_⟩
      exact ⟨ta, ba, tb, bb, ta / ba, sc, k0, k1, k2, k3, k4, k5, by omega, k7, k8, rfl, rfl⟩
    rintro σ' H' ⟨ta, ba, tb, bb, wh, sc, k0, k1, k2, k3, k4, k5, k6, k7, k8, rfl, rfl⟩
    refine ⟨fun σ' H' => ∃ ta ba tb bb wh sc : Int, ta.natAbs < 10 ^ 60 ∧ 0 < ba ∧ ba.natAbs < 10 ^ 60 ∧ tb.natAbs < 10 ^ 92 ∧ 0 < bb ∧ bb.natAbs < 10 ^ 92 ∧ wh.natAbs < 10 ^ 61 ∧ 0 < sc ∧ sc.natAbs ≤ 10 ^ 30 ∧ H5 = H' ∧ σ' = [some (.ref a), some (.ref d1), some (.ref d2), some (.int bd), some (.ref D5), some (.int ta), some (.int ba), some (.int tb), some (.int bb), some (.int wh), some (.int sc), none, none, none, none, none, none, none], ?_, ?_⟩
    · refine ⟨.ref d1, rfl, d1, _, _, _, rfl, rfl, G1, atI_nat (j := 7) rfl, rfl, _, rfl, ite2 (fun _ => ?_) (fun _ => ⟨ta, ba, tb, bb, wh, sc, k0, k1, k2, k3, k4, k5, by omega, k7, k8, rfl, rfl⟩)⟩
      exact ⟨_, rfl, _, _, rfl, rfl, ta, ba, tb, bb, wh + 1, sc, k0, k1, k2, k3, k4, k5, by omega, k7, k8, rfl, rfl⟩
    rintro σ' H' ⟨ta, ba, tb, bb, wh, sc, k0, k1, k2, k3, k4, k5, k6, k7, k8, rfl, rfl⟩
    have a0 := bz k0 (by decide)
    have a2 := bz k2 (by decide)
    have a3 := bz k3 (by decide)
    have a5 := bz k5 (by decide)
    have a6 := bz k6 (by decide)
    clear k0 k2 k3 k5 k6
    have na : ba ≠ 0 := by omega
    have nb : bb ≠ 0 := by omega
    refine ⟨_, rfl, _, rfl, mk_rat (t := ta) (b := ba) na (sm100 a2) fun one H6 e6 nx6 ro => ?_⟩
    refine ⟨_, rfl, _, rfl, mk_rat (t := tb) (b := bb) nb (sm100 a5) fun two H7 e7 nx7 rt => ?_⟩
    have lo1 := low (t := ta) (b := ba) na
    have lo2 := low (t := tb) (b := bb) nb
    generalize nT ta ba = T1 at lo1 ro
    generalize nB ta ba = B1 at lo1 ro
    generalize nT tb bb = T2 at lo2 rt
    generalize nB tb bb = B2 at lo2 rt
    have ro := ro.same e7
    have g1 := sm100 (Nat.le_trans lo1.leT a0)
    have g2 := sm100 (Nat.le_trans lo1.leB a2)
    have g3 := sm100 (Nat.le_trans lo2.leT a3)
    have g4 := sm100 (Nat.le_trans lo2.leB a5)
    have z1 := lo1.pos
    have z2 := lo2.pos
    have f1 := lo1.eq
    have f2 := lo2.eq
    have sO : Sm 1 := sm100 (by decide)
    have j0 := sm100 a0
    have j2 := sm100 a2
    have j3 := sm100 a3
    have j5 := sm100 a5
    have j6 := sm100 a6
    refine ⟨_, rfl, _, rfl, (by show 2 ≤ sizeLine; decide), fun ua nua => ?_⟩
    have s8 := same_upd (o := .tup [V.int ta, V.int ba]) nua
    refine ⟨_, rfl, _, rfl, (by show 2 ≤ sizeLine; decide), fun ub nub => ?_⟩
    have s9 := same_upd (o := .tup [V.int tb, V.int bb]) nub
    refine ⟨_, rfl, (by show 2 ≤ sizeLine; decide), fun un nun => ?_⟩
    have s10 := same_upd (o := .tup [V.int wh, V.int 1]) nun
    have hA := s10 _ _ (s9 _ _ (upd_same (H := H7) (a := ua) (o := .tup [V.int ta, V.int ba])))
    have hB := s10 _ _ (upd_same (H := upd H7 ua (.tup [V.int ta, V.int ba])) (a := ub) (o := .tup [V.int tb, V.int bb]))
    have hN := (upd_same (H := upd (upd H7 ua (.tup [V.int ta, V.int ba])) ub (.tup [V.int tb, V.int bb])) (a := un) (o := .tup [V.int wh, V.int 1]))
    have ro := ((ro.same s8).same s9).same s10
    have rt := ((rt.same s8).same s9).same s10
    generalize upd (upd (upd H7 ua (.tup [V.int ta, V.int ba])) ub (.tup [V.int tb, V.int bb])) un (.tup [V.int wh, V.int 1]) = H8 at hA hB hN ro rt ⊢
    have xx := cross z1 z2 k1 k4 f1 f2
    have xy := cross z2 z1 k4 k1 f2 f1
    have xw := cross (T2 := wh) (B2 := 1) (t2 := wh) (b2 := 1) z1 (by decide) k1 (by decide) f1 rfl
    have wx := cross (T1 := wh) (B1 := 1) (t1 := wh) (b1 := 1) (by decide) z1 (by decide) k1 rfl f1
    have x1 := cross z1 z1 k1 k1 f1 f1
    have yw := cross (T2 := wh) (B2 := 1) (t2 := wh) (b2 := 1) z2 (by decide) k4 (by decide) f2 rfl
    refine ⟨.ref one, rfl, .ref two, rfl, .ref one, .ref two, T1, B1, T2, B2, rfl, .inl ⟨one, rfl, ro, rt.num⟩, g1, g2, g3, g4, fun Hp0 l0 ea0 hl0 => ?_⟩
    refine ⟨.ref ua, rfl, .ref ub, rfl, ua, ub, ta, ba, tb, bb, rfl, ea0 _ _ hA, ea0 _ _ hB, j0, j2, j3, j5, fun Hq0 m0 eb0 hm0 => ?_⟩
    refine ⟨l0, m0, _, _, _, _, rfl, eb0 _ _ (hl0.trans (congrArg (fun z => some (HO.lst z)) (bl4_eq xx.1 xx.2 (rfl : (0 : Int) = 0)))), hm0, _, rfl, iteF ?_⟩
    have ec0 := ea0.trans eb0
    refine ⟨.ref two, rfl, .ref one, rfl, .ref two, .ref one, T2, B2, T1, B1, rfl, .inl ⟨two, rfl, (rt.same ec0), (ro.same ec0).num⟩, g3, g4, g1, g2, fun Hp1 l1 ea1 hl1 => ?_⟩
    refine ⟨.ref ub, rfl, .ref ua, rfl, ub, ua, tb, bb, ta, ba, rfl, (ec0.trans ea1) _ _ hB, (ec0.trans ea1) _ _ hA, j3, j5, j0, j2, fun Hq1 m1 eb1 hm1 => ?_⟩
    refine ⟨l1, m1, _, _, _, _, rfl, eb1 _ _ (hl1.trans (congrArg (fun z => some (HO.lst z)) (bl4_eq xy.1 xy.2 (rfl : (0 : Int) = 0)))), hm1, _, rfl, iteF ?_⟩
    have ec1 := (ec0.trans ea1).trans eb1
    refine ⟨.ref one, rfl, .int wh, rfl, .ref one, .int wh, T1, B1, wh, 1, rfl, .inl ⟨one, rfl, (ro.same ec1), .inr ⟨rfl, rfl⟩⟩, g1, g2, j6, sO, fun Hp2 l2 ea2 hl2 => ?_⟩
    refine ⟨.ref ua, rfl, .ref un, rfl, ua, un, ta, ba, wh, 1, rfl, (ec1.trans ea2) _ _ hA, (ec1.trans ea2) _ _ hN, j0, j2, j6, sO, fun Hq2 m2 eb2 hm2 => ?_⟩
    refine ⟨l2, m2, _, _, _, _, rfl, eb2 _ _ (hl2.trans (congrArg (fun z => some (HO.lst z)) (bl4_eq xw.1 xw.2 (rfl : (0 : Int) = 0)))), hm2, _, rfl, iteF ?_⟩
    have ec2 := (ec1.trans ea2).trans eb2
    refine ⟨.int wh, rfl, .ref one, rfl, .int wh, .ref one, wh, 1, T1, B1, rfl, .inr ⟨rfl, rfl, one, rfl, (ro.same ec2)⟩, j6, sO, g1, g2, fun Hp3 l3 ea3 hl3 => ?_⟩
    refine ⟨.ref un, rfl, .ref ua, rfl, un, ua, wh, 1, ta, ba, rfl, (ec2.trans ea3) _ _ hN, (ec2.trans ea3) _ _ hA, j6, sO, j0, j2, fun Hq3 m3 eb3 hm3 => ?_⟩
    refine ⟨l3, m3, _, _, _, _, rfl, eb3 _ _ (hl3.trans (congrArg (fun z => some (HO.lst z)) (bl4_eq wx.1 wx.2 (rfl : (0 : Int) = 0)))), hm3, _, rfl, iteF ?_⟩
    have ec3 := (ec2.trans ea3).trans eb3
    refine ⟨.ref one, rfl, .ref one, rfl, .ref one, .ref one, T1, B1, T1, B1, rfl, .inl ⟨one, rfl, (ro.same ec3), (ro.same ec3).num⟩, g1, g2, g1, g2, fun Hp4 l4 ea4 hl4 => ?_⟩
    refine ⟨.ref ua, rfl, .ref ua, rfl, ua, ua, ta, ba, ta, ba, rfl, (ec3.trans ea4) _ _ hA, (ec3.trans ea4) _ _ hA, j0, j2, j0, j2, fun Hq4 m4 eb4 hm4 => ?_⟩
    refine ⟨l4, m4, _, _, _, _, rfl, eb4 _ _ (hl4.trans (congrArg (fun z => some (HO.lst z)) (bl4_eq x1.1 x1.2 (rfl : (0 : Int) = 0)))), hm4, _, rfl, iteF ?_⟩
    have ec4 := (ec3.trans ea4).trans eb4
    refine ⟨.ref two, rfl, .int wh, rfl, .ref two, .int wh, T2, B2, wh, 1, rfl, .inl ⟨two, rfl, (rt.same ec4), .inr ⟨rfl, rfl⟩⟩, g3, g4, j6, sO, fun Hp5 l5 ea5 hl5 => ?_⟩
    refine ⟨.ref ub, rfl, .ref un, rfl, ub, un, tb, bb, wh, 1, rfl, (ec4.trans ea5) _ _ hB, (ec4.trans ea5) _ _ hN, j3, j5, j6, sO, fun Hq5 m5 eb5 hm5 => ?_⟩
    refine ⟨l5, m5, _, _, _, _, rfl, eb5 _ _ (hl5.trans (congrArg (fun z => some (HO.lst z)) (bl4_eq yw.1 yw.2 (rfl : (0 : Int) = 0)))), hm5, _, rfl, iteF ?_⟩
    have ec5 := (ec4.trans ea5).trans eb5
    have ro := ro.same ec5
    have rt := rt.same ec5
    have eqv : decide (V.int (ta * bb) = V.int (tb * ba)) = (decide (T1 = T2) && decide (B1 = B2)) := by
      rw [show decide (V.int (ta * bb) = V.int (tb * ba)) = decide (T1 = T2 ∧ B1 = B2) from decide_eq_decide.mpr ⟨fun z => low_uniq na lo1 (lo2.to nb na (by have := V.int.inj z; grind)), fun ⟨u, v⟩ => congrArg V.int (Int.eq_of_mul_eq_mul_left (Int.ne_of_gt z1) (show B1 * (ta * bb) = B1 * (tb * ba) by subst u v; grind))⟩]
      exact Bool.decide_and _ _
    refine ⟨_, rfl, _, rfl, ta, bb, rfl, rfl, j0.mul j5, _, rfl, _, rfl, tb, ba, rfl, rfl, j3.mul j2, rfl, ?_⟩
    have h21 : (decide (T2 = T1) && decide (B2 = B1)) = (decide (T1 = T2) && decide (B1 = B2)) := by
      rw [decide_eq_decide.mpr (⟨Eq.symm, Eq.symm⟩ : T2 = T1 ↔ T1 = T2), decide_eq_decide.mpr (⟨Eq.symm, Eq.symm⟩ : B2 = B1 ↔ B1 = B2)]
    have h11 : (decide (T1 = T1) && decide (B1 = B1)) = true := by
      rw [decide_eq_true rfl, decide_eq_true rfl]
      rfl
    have za : ta = 0 ↔ T1 = 0 := ⟨fun z => by
      rw [z, Int.zero_mul] at f1
      exact (Int.mul_eq_zero.mp f1).resolve_right na, fun z => by
      rw [z, Int.zero_mul] at f1
      exact (Int.mul_eq_zero.mp f1.symm).resolve_right (by omega)⟩
    have zt : tb = 0 ↔ T2 = 0 := ⟨fun z => by
      rw [z, Int.zero_mul] at f2
      exact (Int.mul_eq_zero.mp f2).resolve_right nb, fun z => by
      rw [z, Int.zero_mul] at f2
      exact (Int.mul_eq_zero.mp f2.symm).resolve_right (by omega)⟩
    rw [eqv]
    generalize he : (decide (T1 = T2) && decide (B1 = B2)) = e at h21 ⊢
    refine ⟨.ref one, rfl, .ref two, rfl, .inl ⟨ro.self, rt.num.arg, one, .ref two, T1, B1, T2, B2, rfl, ro, rt.num, fun _ _ => ?_, fun _ z => V.noConfusion z⟩⟩
    rw [he]
    refine ⟨_, true, rfl, rfl, _, rfl, rfl, _, rfl, iteNS (by cases e <;> rfl) ?_⟩
    refine ⟨.ref two, rfl, .ref one, rfl, .inl ⟨rt.self, ro.num.arg, two, .ref one, T2, B2, T1, B1, rfl, rt, ro.num, fun _ _ => ?_, fun _ z => V.noConfusion z⟩⟩
    rw [h21]
    refine ⟨_, true, rfl, rfl, _, rfl, rfl, _, rfl, iteNS (by cases e <;> rfl) ?_⟩
    refine ⟨.ref one, rfl, .ref one, rfl, .inl ⟨ro.self, ro.num.arg, one, .ref one, T1, B1, T1, B1, rfl, ro, ro.num, fun _ _ => ?_, fun _ z => V.noConfusion z⟩⟩
    rw [h11]
    refine ⟨true, true, rfl, rfl, _, rfl, iteF ?_⟩
    refine ⟨.ref one, rfl, .int wh, rfl, .inl ⟨ro.self, .inr ⟨wh, rfl⟩, one, .int wh, T1, B1, wh, 1, rfl, ro, .inr ⟨rfl, rfl⟩, fun _ z => V.noConfusion z, fun _ _ => ?_⟩⟩
    refine ⟨false, true, rfl, rfl, _, rfl, iteF ?_⟩
    refine ⟨.int wh, rfl, .ref one, rfl, .inr ⟨⟨wh, rfl⟩, ro.self, one, .int wh, T1, B1, wh, 1, rfl, ro, .inr ⟨rfl, rfl⟩, fun _ z => V.noConfusion z, fun _ _ => ?_⟩⟩
    refine ⟨false, true, rfl, rfl, _, rfl, iteF ?_⟩
    have bz1 : decide (V.bl (T1 != 0) = V.bl (!decide (V.int ta = V.int 0))) = true := decide_eq_true (congrArg V.bl (by
      by_cases h : ta = 0
      · rw [h, za.mp h]
        rfl
      · rw [decide_eq_false (fun z => h (V.int.inj z)), bne_iff_ne.mpr (fun z => h (za.mpr z))]
        rfl))
    have bz2 : decide (V.bl (T2 != 0) = V.bl (!decide (V.int tb = V.int 0))) = true := decide_eq_true (congrArg V.bl (by
      by_cases h : tb = 0
      · rw [h, zt.mp h]
        rfl
      · rw [decide_eq_false (fun z => h (V.int.inj z)), bne_iff_ne.mpr (fun z => h (zt.mpr z))]
        rfl))
    refine ⟨.ref one, rfl, one, _, _, rfl, ro.ins, one, T1, B1, rfl, ro, _, rfl, _, rfl, rfl, rfl, ?_⟩
    rw [bz1]
    refine ⟨_, rfl, iteT ?_⟩
    refine ⟨.ref two, rfl, two, _, _, rfl, rt.ins, two, T2, B2, rfl, rt, _, rfl, _, rfl, rfl, rfl, ?_⟩
    rw [bz2]
    exact q _
end
/-! ### what the top has written; the law's own head -/
theorem all_mk {l : PySem.W.OpenLaw} {w : World} {K : PySem.W.Frag} {h : Heap} {mg : Str → Option Value} {fa f1 f2 f3 f4 f5 f6 f7 f8 f9 f10 f11 f12 f13 f14 f15 f16 C_Ratio C_ZeroBottom : Addr} (X : K.In h) (G : h.Ns mainGlobals mg) (hfa : mg "law" = some (.ref fa))
    {od1 an1 od2 an2 od3 an3 od4 an4 od5 an5 od6 an6 od7 an7 od8 an8 od9 an9 od10 an10 od11 an11 od12 an12 od13 an13 od14 an14 od15 an15 od16 an16 : Option Addr} {sl1 sl2 sl3 sl4 sl5 sl6 sl7 sl8 sl9 sl10 sl11 sl12 sl13 sl14 sl15 sl16 : Array (Option Value)} {oc1 kV1 dc1 pm1 cd1 ct1 oc2 kV2 dc2 pm2 cd2 ct2 oc3 kV3 dc3 pm3 cd3 ct3 oc4 kV4 dc4 pm4 cd4 ct4 oc5 kV5 dc5 pm5 cd5 ct5 oc6 kV6 dc6 pm6 cd6 ct6 oc7 kV7 dc7 pm7 cd7 ct7 oc8 kV8 dc8 pm8 cd8 ct8 oc9 kV9 dc9 pm9 cd9 ct9 oc10 kV10 dc10 pm10 cd10 ct10 oc11 kV11 dc11 pm11 cd11 ct11 oc12 kV12 dc12 pm12 cd12 ct12 oc13 kV13 dc13 pm13 cd13 ct13 oc14 kV14 dc14 pm14 cd14 ct14 oc15 kV15 dc15 pm15 cd15 ct15 oc16 kV16 dc16 pm16 cd16 ct16 : Value} {tT1 : Addr} {oT1 : Value} {dT1 : Option Addr} {nT1 : Nat} {sT1 : Array (Option Value)} {tq1_0 : Tok}
    (a_Ratio : PySem.W.nsIn K mainGlobals "Ratio" = some (some (.ref C_Ratio)))
    (kc_Ratio : PySem.W.keepIn K (.ref C_Ratio) = true)
    (hd_Ratio : PySem.W.hasDictIn K C_Ratio = true)
    (ha_Ratio : PySem.W.findIn K (.ref C_Ratio) "__class__" = some (some (.builtin "object.__class__")))
    (hm_Ratio : PySem.W.mroIn K C_Ratio (.type "object") = some true)
    (pg_Ratio : PySem.W.plainGet K C_Ratio Str.empty = true)
    (po_Ratio : PySem.W.plainOver K C_Ratio = true)
    (sa_Ratio : PySem.W.findIn K (.ref C_Ratio) "__setattr__" = some (some (.builtin "object.__setattr__")))
    (mk_Ratio : PySem.W.makesIn K C_Ratio = true)
    (n_Ratio_top : PySem.W.findIn K (.ref C_Ratio) "top" = some none)
    (n_Ratio_bottom : PySem.W.findIn K (.ref C_Ratio) "bottom" = some none)
    (sf_Ratio : PySem.W.selfFirst K C_Ratio = true)
    (si_Ratio : PySem.W.subIn K (.type "int") (.ref C_Ratio) = some false)
    (sr_Ratio : PySem.W.subIn K (.ref C_Ratio) (.type "int") = some false)
    (a_ZeroBottom : PySem.W.nsIn K mainGlobals "ZeroBottom" = some (some (.ref C_ZeroBottom)))
    (kc_ZeroBottom : PySem.W.keepIn K (.ref C_ZeroBottom) = true)
    (hd_ZeroBottom : PySem.W.hasDictIn K C_ZeroBottom = true)
    (ha_ZeroBottom : PySem.W.findIn K (.ref C_ZeroBottom) "__class__" = some (some (.builtin "object.__class__")))
    (hm_ZeroBottom : PySem.W.mroIn K C_ZeroBottom (.type "object") = some true)
    (b_ZeroBottom : PySem.W.subIn K (.ref C_ZeroBottom) (.type "BaseException") = some true)
    (t_ZeroBottom : PySem.W.typeIn K (.ref C_ZeroBottom) = some (.type "type"))
    (ga_ZeroBottom : PySem.W.findIn K (.ref C_ZeroBottom) "__getattribute__" = some (some (.builtin "BaseException.__getattribute__")))
    (gg_ZeroBottom : PySem.W.findIn K (.ref C_ZeroBottom) "__getattr__" = some none)
    (x_ZeroBottom : PySem.W.excIn K C_ZeroBottom [.type "ValueError", .type "Exception", .type "BaseException", .type "object"] "ValueError.__new__" = true)
    (hnc : PySem.W.specialIn K (.builtin "object.__class__") "__get__" = some (some (.builtin "getset_descriptor.__get__")))
    (htk : PySem.W.takesIn K (.builtin "object.__class__") = some true)
    (kit_Ratio_Ratio : PySem.W.kitOne K (.ref C_Ratio) (.ref C_Ratio) = some true)
    (kit_int_Ratio : PySem.W.kitOne K (.type "int") (.ref C_Ratio) = some false)
    (a_gcd : PySem.W.nsIn K mainGlobals "gcd" = some (some (.builtin "math.gcd")))
    (a1 : PySem.W.findIn K (.ref C_Ratio) "__init__" = some (some (.ref f1))) (i1 : PySem.W.isFn K (.ref f1) = true)
    (l1 : K.lookup f1 = some ⟨oc1, od1, .func (PySem.W.fnOf "__init__" "Ratio.__init__" (defArgs s_Ratio___init__) (defBody s_Ratio___init__) (defScope s_Ratio___init__) (.ref tT1) kV1 dc1 pm1 an1 cd1 ct1), sl1⟩)
    (lt1 : K.lookup tT1 = some ⟨oT1, dT1, .seq #[.int 1 tq1_0] nT1, sT1⟩)
    (c1 : PySem.W.codeIn K cd1 "Ratio.__init__" = true) (k1 : PySem.W.keepIn K (.ref f1) = true)
    (a2 : PySem.W.nsIn K mainGlobals "_as_ratio" = some (some (.ref f2)))
    (l2 : K.lookup f2 = some ⟨oc2, od2, .func (PySem.W.fnOf "_as_ratio" "_as_ratio" (defArgs s__as_ratio) (defBody s__as_ratio) (defScope s__as_ratio) .none kV2 dc2 pm2 an2 cd2 ct2), sl2⟩)
    (c2 : PySem.W.codeIn K cd2 "_as_ratio" = true) (k2 : PySem.W.keepIn K (.ref f2) = true)
    (a3 : PySem.W.nsIn K mainGlobals "_gap" = some (some (.ref f3)))
    (l3 : K.lookup f3 = some ⟨oc3, od3, .func (PySem.W.fnOf "_gap" "_gap" (defArgs s__gap) (defBody s__gap) (defScope s__gap) .none kV3 dc3 pm3 an3 cd3 ct3), sl3⟩)
    (c3 : PySem.W.codeIn K cd3 "_gap" = true) (k3 : PySem.W.keepIn K (.ref f3) = true)
    (a4 : PySem.W.findIn K (.ref C_Ratio) "__lt__" = some (some (.ref f4))) (i4 : PySem.W.isFn K (.ref f4) = true)
    (l4 : K.lookup f4 = some ⟨oc4, od4, .func (PySem.W.fnOf "__lt__" "Ratio.__lt__" (defArgs s_Ratio___lt__) (defBody s_Ratio___lt__) (defScope s_Ratio___lt__) .none kV4 dc4 pm4 an4 cd4 ct4), sl4⟩)
    (c4 : PySem.W.codeIn K cd4 "Ratio.__lt__" = true) (k4 : PySem.W.keepIn K (.ref f4) = true)
    (a5 : PySem.W.findIn K (.ref C_Ratio) "__le__" = some (some (.ref f5))) (i5 : PySem.W.isFn K (.ref f5) = true)
    (l5 : K.lookup f5 = some ⟨oc5, od5, .func (PySem.W.fnOf "__le__" "Ratio.__le__" (defArgs s_Ratio___le__) (defBody s_Ratio___le__) (defScope s_Ratio___le__) .none kV5 dc5 pm5 an5 cd5 ct5), sl5⟩)
    (c5 : PySem.W.codeIn K cd5 "Ratio.__le__" = true) (k5 : PySem.W.keepIn K (.ref f5) = true)
    (a6 : PySem.W.findIn K (.ref C_Ratio) "__gt__" = some (some (.ref f6))) (i6 : PySem.W.isFn K (.ref f6) = true)
    (l6 : K.lookup f6 = some ⟨oc6, od6, .func (PySem.W.fnOf "__gt__" "Ratio.__gt__" (defArgs s_Ratio___gt__) (defBody s_Ratio___gt__) (defScope s_Ratio___gt__) .none kV6 dc6 pm6 an6 cd6 ct6), sl6⟩)
    (c6 : PySem.W.codeIn K cd6 "Ratio.__gt__" = true) (k6 : PySem.W.keepIn K (.ref f6) = true)
    (a7 : PySem.W.findIn K (.ref C_Ratio) "__ge__" = some (some (.ref f7))) (i7 : PySem.W.isFn K (.ref f7) = true)
    (l7 : K.lookup f7 = some ⟨oc7, od7, .func (PySem.W.fnOf "__ge__" "Ratio.__ge__" (defArgs s_Ratio___ge__) (defBody s_Ratio___ge__) (defScope s_Ratio___ge__) .none kV7 dc7 pm7 an7 cd7 ct7), sl7⟩)
    (c7 : PySem.W.codeIn K cd7 "Ratio.__ge__" = true) (k7 : PySem.W.keepIn K (.ref f7) = true)
    (a8 : PySem.W.findIn K (.ref C_Ratio) "__eq__" = some (some (.ref f8))) (i8 : PySem.W.isFn K (.ref f8) = true)
    (l8 : K.lookup f8 = some ⟨oc8, od8, .func (PySem.W.fnOf "__eq__" "Ratio.__eq__" (defArgs s_Ratio___eq__) (defBody s_Ratio___eq__) (defScope s_Ratio___eq__) .none kV8 dc8 pm8 an8 cd8 ct8), sl8⟩)
    (c8 : PySem.W.codeIn K cd8 "Ratio.__eq__" = true) (k8 : PySem.W.keepIn K (.ref f8) = true)
    (a9 : PySem.W.findIn K (.ref C_Ratio) "__bool__" = some (some (.ref f9))) (i9 : PySem.W.isFn K (.ref f9) = true)
    (l9 : K.lookup f9 = some ⟨oc9, od9, .func (PySem.W.fnOf "__bool__" "Ratio.__bool__" (defArgs s_Ratio___bool__) (defBody s_Ratio___bool__) (defScope s_Ratio___bool__) .none kV9 dc9 pm9 an9 cd9 ct9), sl9⟩)
    (c9 : PySem.W.codeIn K cd9 "Ratio.__bool__" = true) (k9 : PySem.W.keepIn K (.ref f9) = true)
    (a10 : PySem.W.nsIn K mainGlobals "_law_cell" = some (some (.ref f10)))
    (l10 : K.lookup f10 = some ⟨oc10, od10, .func (PySem.W.fnOf "_law_cell" "_law_cell" (defArgs s__law_cell) (defBody s__law_cell) (defScope s__law_cell) .none kV10 dc10 pm10 an10 cd10 ct10), sl10⟩)
    (c10 : PySem.W.codeIn K cd10 "_law_cell" = true) (k10 : PySem.W.keepIn K (.ref f10) = true)
    (a11 : PySem.W.nsIn K mainGlobals "_law_draws" = some (some (.ref f11)))
    (l11 : K.lookup f11 = some ⟨oc11, od11, .func (PySem.W.fnOf "_law_draws" "_law_draws" (defArgs s__law_draws) (defBody s__law_draws) (defScope s__law_draws) .none kV11 dc11 pm11 an11 cd11 ct11), sl11⟩)
    (c11 : PySem.W.codeIn K cd11 "_law_draws" = true) (k11 : PySem.W.keepIn K (.ref f11) = true)
    (a12 : PySem.W.nsIn K mainGlobals "_law_wide" = some (some (.ref f12)))
    (l12 : K.lookup f12 = some ⟨oc12, od12, .func (PySem.W.fnOf "_law_wide" "_law_wide" (defArgs s__law_wide) (defBody s__law_wide) (defScope s__law_wide) .none kV12 dc12 pm12 an12 cd12 ct12), sl12⟩)
    (c12 : PySem.W.codeIn K cd12 "_law_wide" = true) (k12 : PySem.W.keepIn K (.ref f12) = true)
    (a13 : PySem.W.nsIn K mainGlobals "_law_told" = some (some (.ref f13)))
    (l13 : K.lookup f13 = some ⟨oc13, od13, .func (PySem.W.fnOf "_law_told" "_law_told" (defArgs s__law_told) (defBody s__law_told) (defScope s__law_told) .none kV13 dc13 pm13 an13 cd13 ct13), sl13⟩)
    (c13 : PySem.W.codeIn K cd13 "_law_told" = true) (k13 : PySem.W.keepIn K (.ref f13) = true)
    (a14 : PySem.W.nsIn K mainGlobals "_law_due" = some (some (.ref f14)))
    (l14 : K.lookup f14 = some ⟨oc14, od14, .func (PySem.W.fnOf "_law_due" "_law_due" (defArgs s__law_due) (defBody s__law_due) (defScope s__law_due) .none kV14 dc14 pm14 an14 cd14 ct14), sl14⟩)
    (c14 : PySem.W.codeIn K cd14 "_law_due" = true) (k14 : PySem.W.keepIn K (.ref f14) = true)
    (a15 : PySem.W.nsIn K mainGlobals "_law_alike" = some (some (.ref f15)))
    (l15 : K.lookup f15 = some ⟨oc15, od15, .func (PySem.W.fnOf "_law_alike" "_law_alike" (defArgs s__law_alike) (defBody s__law_alike) (defScope s__law_alike) .none kV15 dc15 pm15 an15 cd15 ct15), sl15⟩)
    (c15 : PySem.W.codeIn K cd15 "_law_alike" = true) (k15 : PySem.W.keepIn K (.ref f15) = true)
    (a16 : PySem.W.nsIn K mainGlobals "law" = some (some (.ref f16)))
    (l16 : K.lookup f16 = some ⟨oc16, od16, .func (PySem.W.fnOf "law" "law" (defArgs s_law) (defBody s_law) (defScope s_law) .none kV16 dc16 pm16 an16 cd16 ct16), sl16⟩)
    (c16 : PySem.W.codeIn K cd16 "law" = true) (k16 : PySem.W.keepIn K (.ref f16) = true)
    (z_bool : PySem.W.nsIn K mainGlobals "bool" = some none)
    (z_int : PySem.W.nsIn K mainGlobals "int" = some none)
    (z_isinstance : PySem.W.nsIn K mainGlobals "isinstance" = some none)
    (z_len : PySem.W.nsIn K mainGlobals "len" = some none)
    (z_max : PySem.W.nsIn K mainGlobals "max" = some none)
    (z_range : PySem.W.nsIn K mainGlobals "range" = some none) :
    ∃ fd : FuncData, (∀ (s : Shared) (v : Value), BindsTo s fd ⟨[v], []⟩ [("_law_script", v)]) ∧ ∀ base : Heap, K.In base → base.Ns mainGlobals mg → FnOk l.prog w K mg base CX0 7 fa fd ["_law_script"] (sp_law K) := by
  have e := hfa.symm.trans (PySem.W.mg_of X G a16)
  cases e
  have m_bool := PySem.W.mg_none_of X G z_bool
  have m_int := PySem.W.mg_none_of X G z_int
  have m_isinstance := PySem.W.mg_none_of X G z_isinstance
  have m_len := PySem.W.mg_none_of X G z_len
  have m_max := PySem.W.mg_none_of X G z_max
  have m_range := PySem.W.mg_none_of X G z_range
  have T : Txt K mg C_Ratio C_ZeroBottom := ⟨PySem.W.mg_of X G a_Ratio, kc_Ratio, hd_Ratio, ha_Ratio, hm_Ratio, ⟨pg_Ratio, hd_Ratio, po_Ratio, sa_Ratio⟩, mk_Ratio, n_Ratio_top, n_Ratio_bottom, sf_Ratio, si_Ratio, sr_Ratio, PySem.W.mg_of X G a_ZeroBottom, kc_ZeroBottom, hd_ZeroBottom, ha_ZeroBottom, hm_ZeroBottom, b_ZeroBottom, t_ZeroBottom, ga_ZeroBottom, gg_ZeroBottom, x_ZeroBottom, hnc, htk, kit_Ratio_Ratio, kit_int_Ratio, PySem.W.mg_of X G a_gcd⟩
  have F1 : FunD K "__init__" "Ratio.__init__" (defArgs s_Ratio___init__) (defBody s_Ratio___init__) (defScope s_Ratio___init__) [V.int 1] [] f1 _ := ⟨⟨oc1, od1, .ref tT1, kV1, dc1, pm1, an1, cd1, ct1, sl1, rfl, l1, c1, .inr ⟨List.cons_ne_nil _ _, tT1, _, [.int 1 tq1_0], nT1, rfl, lt1, rfl, (.cons ⟨_, rfl⟩ .nil)⟩, .inl rfl⟩, k1⟩
  obtain ⟨dn1, vn1, b1⟩ := F1.binds1 (ps := ["self", "top", "bottom"]) 3 1 (List.cons_ne_nil _ _) rfl fun _ _ _ _ _ _ _ us its hl hi => match us, its, hl, hi with | [_, _, _], [_], _, _ => ⟨_, rfl, rfl⟩
  cases vn1
  obtain ⟨dd1, vd1, bd1⟩ := F1.binds1 (ps := ["self", "top", "bottom"]) 2 0 (List.cons_ne_nil _ _) rfl fun _ _ _ _ _ _ _ us its hl hi => match us, its, hl, hi with | [_, _], [_], _, _ => ⟨_, rfl, rfl⟩
  have F2 := fun_mk (st := s__as_ratio) l2 c2 k2
  have b2 := F2.binds (ps := ["number"]) fun _ _ _ _ _ _ us hl => match us, hl with | [_], _ => rfl
  have F3 := fun_mk (st := s__gap) l3 c3 k3
  have b3 := F3.binds (ps := ["ratio", "other"]) fun _ _ _ _ _ _ us hl => match us, hl with | [_, _], _ => rfl
  have F4 := fun_mk (st := s_Ratio___lt__) l4 c4 k4
  have b4 := F4.binds (ps := ["self", "other"]) fun _ _ _ _ _ _ us hl => match us, hl with | [_, _], _ => rfl
  have F5 := fun_mk (st := s_Ratio___le__) l5 c5 k5
  have b5 := F5.binds (ps := ["self", "other"]) fun _ _ _ _ _ _ us hl => match us, hl with | [_, _], _ => rfl
  have F6 := fun_mk (st := s_Ratio___gt__) l6 c6 k6
  have b6 := F6.binds (ps := ["self", "other"]) fun _ _ _ _ _ _ us hl => match us, hl with | [_, _], _ => rfl
  have F7 := fun_mk (st := s_Ratio___ge__) l7 c7 k7
  have b7 := F7.binds (ps := ["self", "other"]) fun _ _ _ _ _ _ us hl => match us, hl with | [_, _], _ => rfl
  have F8 := fun_mk (st := s_Ratio___eq__) l8 c8 k8
  have b8 := F8.binds (ps := ["self", "other"]) fun _ _ _ _ _ _ us hl => match us, hl with | [_, _], _ => rfl
  have F9 := fun_mk (st := s_Ratio___bool__) l9 c9 k9
  have b9 := F9.binds (ps := ["self"]) fun _ _ _ _ _ _ us hl => match us, hl with | [_], _ => rfl
  have F10 := fun_mk (st := s__law_cell) l10 c10 k10
  have b10 := F10.binds (ps := ["_law_script", "_law_place"]) fun _ _ _ _ _ _ us hl => match us, hl with | [_, _], _ => rfl
  have F11 := fun_mk (st := s__law_draws) l11 c11 k11
  have b11 := F11.binds (ps := ["_law_cell_here", "_law_sizes"]) fun _ _ _ _ _ _ us hl => match us, hl with | [_, _], _ => rfl
  have F12 := fun_mk (st := s__law_wide) l12 c12 k12
  have b12 := F12.binds (ps := ["_law_parts"]) fun _ _ _ _ _ _ us hl => match us, hl with | [_], _ => rfl
  have F13 := fun_mk (st := s__law_told) l13 c13 k13
  have b13 := F13.binds (ps := ["_law_x", "_law_y"]) fun _ _ _ _ _ _ us hl => match us, hl with | [_, _], _ => rfl
  have F14 := fun_mk (st := s__law_due) l14 c14 k14
  have b14 := F14.binds (ps := ["_law_a", "_law_b"]) fun _ _ _ _ _ _ us hl => match us, hl with | [_, _], _ => rfl
  have F15 := fun_mk (st := s__law_alike) l15 c15 k15
  have b15 := F15.binds (ps := ["_law_told_here", "_law_due_here"]) fun _ _ _ _ _ _ us hl => match us, hl with | [_, _], _ => rfl
  have F16 := fun_mk (st := s_law) l16 c16 k16
  refine ⟨PySem.W.fnOf "law" "law" (defArgs s_law) (defBody s_law) (defScope s_law) .none kV16 dc16 pm16 an16 cd16 ct16, fun s v => .of_eq rfl, fun base _ _ => ?_⟩
  have K_Ratio___init__ : CalI l.prog w K mg base (L2.CX l.prog w) 1 C_Ratio ["self", "top", "bottom"] (sp_Ratio___init__ C_Ratio C_ZeroBottom) [V.int 1] := ⟨f1, _, ok_Ratio___init__ F1 T, ⟨mk_Ratio, a1, i1, kc_Ratio⟩, b1, dd1, vd1, bd1⟩
  have K__as_ratio : Cal l.prog w K mg base CX0 3 "_as_ratio" ["number"] (sp__as_ratio C_Ratio) := ⟨f2, _, ok__as_ratio F2 T m_isinstance K_Ratio___init__, PySem.W.mg_of X G a2, k2, b2⟩
  have K__gap : Cal l.prog w K mg base CX0 4 "_gap" ["ratio", "other"] (sp__gap C_Ratio) := ⟨f3, _, ok__gap F3 T K__as_ratio, PySem.W.mg_of X G a3, k3, b3⟩
  have K_Ratio___lt__ : CalM l.prog w K mg base CX0 5 C_Ratio "__lt__" ["self", "other"] (sp_Ratio___lt__ C_Ratio) := ⟨f4, _, ok_Ratio___lt__ F4 T K__gap, ⟨a4, i4, k4⟩, b4⟩
  have K_Ratio___le__ : CalM l.prog w K mg base CX0 5 C_Ratio "__le__" ["self", "other"] (sp_Ratio___le__ C_Ratio) := ⟨f5, _, ok_Ratio___le__ F5 T K__gap, ⟨a5, i5, k5⟩, b5⟩
  have K_Ratio___gt__ : CalM l.prog w K mg base CX0 5 C_Ratio "__gt__" ["self", "other"] (sp_Ratio___gt__ C_Ratio) := ⟨f6, _, ok_Ratio___gt__ F6 T K__gap, ⟨a6, i6, k6⟩, b6⟩
  have K_Ratio___ge__ : CalM l.prog w K mg base CX0 5 C_Ratio "__ge__" ["self", "other"] (sp_Ratio___ge__ C_Ratio) := ⟨f7, _, ok_Ratio___ge__ F7 T K__gap, ⟨a7, i7, k7⟩, b7⟩
  have K_Ratio___eq__ : CalM l.prog w K mg base CX0 1 C_Ratio "__eq__" ["self", "other"] (sp_Ratio___eq__ C_Ratio) := ⟨f8, _, ok_Ratio___eq__ F8 T m_isinstance, ⟨a8, i8, k8⟩, b8⟩
  have K_Ratio___bool__ : CalM l.prog w K mg base CX0 1 C_Ratio "__bool__" ["self"] (sp_Ratio___bool__ C_Ratio) := ⟨f9, _, ok_Ratio___bool__ F9 T m_bool, ⟨a9, i9, k9⟩, b9⟩
  have K__law_cell : Cal l.prog w K mg base CX0 1 "_law_cell" ["_law_script", "_law_place"] (sp__law_cell K) := ⟨f10, _, ok__law_cell F10 T m_int m_len, PySem.W.mg_of X G a10, k10, b10⟩
  have K__law_draws : Cal l.prog w K mg base CX0 1 "_law_draws" ["_law_cell_here", "_law_sizes"] (sp__law_draws K) := ⟨f11, _, ok__law_draws F11 T m_int m_len m_range, PySem.W.mg_of X G a11, k11, b11⟩
  have K__law_wide : Cal l.prog w K mg base CX0 1 "_law_wide" ["_law_parts"] (sp__law_wide K) := ⟨f12, _, ok__law_wide F12 T, PySem.W.mg_of X G a12, k12, b12⟩
  have K__law_told : Cal l.prog w K mg base CX0 6 "_law_told" ["_law_x", "_law_y"] (sp__law_told C_Ratio) := ⟨f13, _, ok__law_told F13 T K_Ratio___lt__ K_Ratio___le__ K_Ratio___gt__ K_Ratio___ge__, PySem.W.mg_of X G a13, k13, b13⟩
  have K__law_due : Cal l.prog w K mg base CX0 1 "_law_due" ["_law_a", "_law_b"] sp__law_due := ⟨f14, _, ok__law_due F14 T, PySem.W.mg_of X G a14, k14, b14⟩
  have K__law_alike : Cal l.prog w K mg base CX0 1 "_law_alike" ["_law_told_here", "_law_due_here"] sp__law_alike := ⟨f15, _, ok__law_alike F15 T m_bool m_isinstance m_range, PySem.W.mg_of X G a15, k15, b15⟩
  exact ok_law F16 T m_bool m_int m_max m_range K_Ratio___init__ K_Ratio___eq__ K_Ratio___bool__ K__law_cell K__law_draws K__law_wide K__law_told K__law_due K__law_alike
end K04
open PySem PySem.W PyProof.Rows
set_option maxHeartbeats 0 in
theorem PySem.Challenge.cw_dearestshelf_k04_ratio_order_holds : PySem.Challenge.rw_dearestshelf_k04_ratio_order.Holds := by
  w_on; o_law; k_head; (case hw => w_witness2)
  k_fill
  refine L2.walk_of (l := PySem.Challenge.rw_dearestshelf_k04_ratio_order) (n := 63) (k := 7) (x := "_law_script") (CX := fun _ => L2.CX0) (sp := fun w => K04.sp_law _) rfl (by decide) rfl ⟨rfl, by decide, by decide⟩ (fun w h Y => PySem.W.kIn_of Y) ?F (fun _ _ a ns hl _ hS => ⟨a, ns, rfl, hS, hl, fun _ => rfl⟩) (fun _ _ _ _ _ h => h)
  case F =>
    intro w mg fa h KX G hmg
    refine' K04.all_mk KX G hmg ?a_Ratio ?kc_Ratio ?hd_Ratio ?ha_Ratio ?hm_Ratio ?pg_Ratio ?po_Ratio ?sa_Ratio ?mk_Ratio ?n_Ratio_top ?n_Ratio_bottom ?sf_Ratio ?si_Ratio ?sr_Ratio ?a_ZeroBottom ?kc_ZeroBottom ?hd_ZeroBottom ?ha_ZeroBottom ?hm_ZeroBottom ?b_ZeroBottom ?t_ZeroBottom ?ga_ZeroBottom ?gg_ZeroBottom ?x_ZeroBottom ?hnc ?htk ?kit_Ratio_Ratio ?kit_int_Ratio ?a_gcd ?a1 ?i1 ?l1 ?lt1 ?c1 ?k1 ?a2 ?l2 ?c2 ?k2 ?a3 ?l3 ?c3 ?k3 ?a4 ?i4 ?l4 ?c4 ?k4 ?a5 ?i5 ?l5 ?c5 ?k5 ?a6 ?i6 ?l6 ?c6 ?k6 ?a7 ?i7 ?l7 ?c7 ?k7 ?a8 ?i8 ?l8 ?c8 ?k8 ?a9 ?i9 ?l9 ?c9 ?k9 ?a10 ?l10 ?c10 ?k10 ?a11 ?l11 ?c11 ?k11 ?a12 ?l12 ?c12 ?k12 ?a13 ?l13 ?c13 ?k13 ?a14 ?l14 ?c14 ?k14 ?a15 ?l15 ?c15 ?k15 ?a16 ?l16 ?c16 ?k16 ?z_bool ?z_int ?z_isinstance ?z_len ?z_max ?z_range
    (case a_Ratio => k_is); (case kc_Ratio => k_is); (case hd_Ratio => k_is); (case ha_Ratio => k_is); (case hm_Ratio => k_is); (case pg_Ratio => k_is); (case po_Ratio => k_is); (case sa_Ratio => k_is); (case mk_Ratio => k_is); (case n_Ratio_top => k_is); (case n_Ratio_bottom => k_is); (case sf_Ratio => k_is); (case si_Ratio => (first | k_is | decide +kernel)); (case sr_Ratio => (first | k_is | decide +kernel)); (case a_ZeroBottom => k_is); (case kc_ZeroBottom => k_is); (case hd_ZeroBottom => k_is); (case ha_ZeroBottom => k_is); (case hm_ZeroBottom => k_is); (case b_ZeroBottom => k_is); (case t_ZeroBottom => k_is); (case ga_ZeroBottom => k_is); (case gg_ZeroBottom => k_is); (case x_ZeroBottom => k_exc); (case hnc => k_is); (case htk => k_is); (case kit_Ratio_Ratio => kit_is); (case kit_int_Ratio => kit_is); (case a_gcd => k_is); (case a1 => k_is); (case i1 => k_is); (case l1 => k_is); (case lt1 => k_is); (case c1 => k_is); (case k1 => k_is); (case a2 => k_is); (case l2 => k_is); (case c2 => k_is); (case k2 => k_is); (case a3 => k_is); (case l3 => k_is); (case c3 => k_is); (case k3 => k_is); (case a4 => k_is); (case i4 => k_is); (case l4 => k_is); (case c4 => k_is); (case k4 => k_is); (case a5 => k_is); (case i5 => k_is); (case l5 => k_is); (case c5 => k_is); (case k5 => k_is); (case a6 => k_is); (case i6 => k_is); (case l6 => k_is); (case c6 => k_is); (case k6 => k_is); (case a7 => k_is); (case i7 => k_is); (case l7 => k_is); (case c7 => k_is); (case k7 => k_is); (case a8 => k_is); (case i8 => k_is); (case l8 => k_is); (case c8 => k_is); (case k8 => k_is); (case a9 => k_is); (case i9 => k_is); (case l9 => k_is); (case c9 => k_is); (case k9 => k_is); (case a10 => k_is); (case l10 => k_is); (case c10 => k_is); (case k10 => k_is); (case a11 => k_is); (case l11 => k_is); (case c11 => k_is); (case k11 => k_is); (case a12 => k_is); (case l12 => k_is); (case c12 => k_is); (case k12 => k_is); (case a13 => k_is); (case l13 => k_is); (case c13 => k_is); (case k13 => k_is); (case a14 => k_is); (case l14 => k_is); (case c14 => k_is); (case k14 => k_is); (case a15 => k_is); (case l15 => k_is); (case c15 => k_is); (case k15 => k_is); (case a16 => k_is); (case l16 => k_is); (case c16 => k_is); (case k16 => k_is); (case z_bool => k_is); (case z_int => k_is); (case z_isinstance => k_is); (case z_len => k_is); (case z_max => k_is); (case z_range => k_is)
