import PyProof.Rows.All
import Wide.All
import OpenK.AllK
import Wide.FinOn
import HandS.ForMost
import HandS.ForExc
import HandS.Wide
import HandS.IsInst
import HandS.More
import HandS.Conv
import HandS.Evl
import HandS.ExcIs
import HandS.Defaults
import HandS.ExcInit
import HandS.ExcField
import HandS.TryMany
import HandS.Nested
import HandS.ClsMeth
import HandS.Iter
import HandS.Walk
import HandS.Style
import HandS.ListEq
import KE.KSuper
import KE.RegKSuper
import KE.KExcIs
import KE.RegKIsAll
import HandS.OwnEq
import HandS.Gcd
import HandS.Star
import HandS.SetFor
import HandS.Set
import HandS.NoneIn
import KE.KUnpackStar
import PySem.Challenge.RW_dearestshelf_k25_tabled_refusals
set_option Elab.async false
set_option linter.all false
set_option maxRecDepth 100000
set_option maxHeartbeats 8000000
set_option exponentiation.threshold 10000
namespace K25
open PySem PySem.Spec PyProof.Rows L2
def top (i : Nat) : Stmt := PySem.Challenge.pw_dearestshelf_k25_tabled_refusals.main.body.getD i (.Pass ⟨0, 0, 0, 0⟩)
abbrev s_TooMany___init__ : Stmt := inClass (top 9) 0
theorem sc_TooMany___init__ : FnScope ["self", "many", "most"] ["self", "many", "most"] (defScope s_TooMany___init__) := ⟨rfl, rfl, rfl, by decide +kernel, rfl, by decide +kernel, by decide +kernel⟩
abbrev s_BadTable___init__ : Stmt := inClass (top 10) 0
theorem sc_BadTable___init__ : FnScope ["self", "at"] ["self", "at"] (defScope s_BadTable___init__) := ⟨rfl, rfl, rfl, by decide +kernel, rfl, by decide +kernel, by decide +kernel⟩
abbrev s_check_many : Stmt := top 12
theorem sc_check_many : FnScope ["many", "most"] ["many", "most"] (defScope s_check_many) := ⟨rfl, rfl, rfl, by decide +kernel, rfl, by decide +kernel, by decide +kernel⟩
abbrev s_Rule___init__ : Stmt := inClass (top 27) 0
theorem sc_Rule___init__ : FnScope ["self", "many"] ["self", "many"] (defScope s_Rule___init__) := ⟨rfl, rfl, rfl, by decide +kernel, rfl, by decide +kernel, by decide +kernel⟩
abbrev s_lot_at : Stmt := top 17
theorem sc_lot_at : FnScope ["number", "many", "thing"] ["number", "many"] (defScope s_lot_at) := ⟨rfl, rfl, rfl, by decide +kernel, rfl, by decide +kernel, by decide +kernel⟩
abbrev s__fits : Stmt := top 31
theorem sc__fits : FnScope ["row", "lot", "total", "counts", "thing", "count"] ["row", "lot"] (defScope s__fits) := ⟨rfl, rfl, rfl, by decide +kernel, rfl, by decide +kernel, by decide +kernel⟩
abbrev s_common_divisor : Stmt := top 20
theorem sc_common_divisor : FnScope ["numbers", "divisor", "number"] ["numbers"] (defScope s_common_divisor) := ⟨rfl, rfl, rfl, by decide +kernel, rfl, by decide +kernel, by decide +kernel⟩
abbrev s__reduced_row : Stmt := top 32
theorem sc__reduced_row : FnScope ["row", "divisor", "item"] ["row"] (defScope s__reduced_row) := ⟨rfl, rfl, rfl, by decide +kernel, rfl, by decide +kernel, by decide +kernel⟩
abbrev s_Tabled___init__ : Stmt := inClass (top 30) 0
theorem sc_Tabled___init__ : NdefX.NScope ["self", "many", "rows", "__class__", "number", "row"] ["self", "many", "rows"] ["__class__"] (defScope s_Tabled___init__) := NdefX.nscope_by (by decide +kernel)
abbrev s__law_cell : Stmt := top 34
theorem sc__law_cell : FnScope ["_law_script", "_law_place"] ["_law_script", "_law_place"] (defScope s__law_cell) := ⟨rfl, rfl, rfl, by decide +kernel, rfl, by decide +kernel, by decide +kernel⟩
abbrev s__law_draws : Stmt := top 35
theorem sc__law_draws : FnScope ["_law_cell_here", "_law_sizes", "_law_size", "_law_left", "_law_found", "_law_k", "_law_low", "_law_high"] ["_law_cell_here", "_law_sizes"] (defScope s__law_draws) := ⟨rfl, rfl, rfl, by decide +kernel, rfl, by decide +kernel, by decide +kernel⟩
abbrev s__law_lot : Stmt := top 36
theorem sc__law_lot : FnScope ["_law_bits", "_law_many", "_law_found", "_law_left", "_law_thing"] ["_law_bits", "_law_many"] (defScope s__law_lot) := ⟨rfl, rfl, rfl, by decide +kernel, rfl, by decide +kernel, by decide +kernel⟩
abbrev s__law_power : Stmt := top 37
theorem sc__law_power : FnScope ["_law_many", "_law_power_here", "_law_k"] ["_law_many"] (defScope s__law_power) := ⟨rfl, rfl, rfl, by decide +kernel, rfl, by decide +kernel, by decide +kernel⟩
abbrev s__law_is_int : Stmt := top 38
theorem sc__law_is_int : FnScope ["_law_x"] ["_law_x"] (defScope s__law_is_int) := ⟨rfl, rfl, rfl, by decide +kernel, rfl, by decide +kernel, by decide +kernel⟩
abbrev s__law_right : Stmt := top 42
theorem sc__law_right : FnScope ["_law_row", "_law_lot_here", "_law_many", "_law_total", "_law_thing"] ["_law_row", "_law_lot_here", "_law_many"] (defScope s__law_right) := ⟨rfl, rfl, rfl, by decide +kernel, rfl, by decide +kernel, by decide +kernel⟩
abbrev s__law_due : Stmt := top 43
theorem sc__law_due : FnScope ["_law_many", "_law_rows_here", "_law_number"] ["_law_many", "_law_rows_here"] (defScope s__law_due) := ⟨rfl, rfl, rfl, by decide +kernel, rfl, by decide +kernel, by decide +kernel⟩
abbrev s__law_asked : Stmt := top 44
theorem sc__law_asked : FnScope ["_law_many", "_law_rows_here", "e"] ["_law_many", "_law_rows_here"] (defScope s__law_asked) := ⟨rfl, rfl, rfl, by decide +kernel, rfl, by decide +kernel, by decide +kernel⟩
abbrev s__law_classes : Stmt := top 45
theorem sc__law_classes : FnScope ["_law_many", "_law_rows_here", "e", "_law_found"] ["_law_many", "_law_rows_here"] (defScope s__law_classes) := ⟨rfl, rfl, rfl, by decide +kernel, rfl, by decide +kernel, by decide +kernel⟩
abbrev s__law_like : Stmt := top 46
theorem sc__law_like : FnScope ["_law_told", "_law_due_here", "_law_k"] ["_law_told", "_law_due_here"] (defScope s__law_like) := ⟨rfl, rfl, rfl, by decide +kernel, rfl, by decide +kernel, by decide +kernel⟩
abbrev s__law_pool : Stmt := top 39
theorem sc__law_pool : FnScope ["_law_low", "_law_high", "_law_pool_here", "_law_cell_here", "_law_drawn", "_law_bound", "_law_value", "_law_k"] ["_law_low", "_law_high"] (defScope s__law_pool) := ⟨rfl, rfl, rfl, by decide +kernel, rfl, by decide +kernel, by decide +kernel⟩
abbrev s__law_rows : Stmt := top 40
theorem sc__law_rows : FnScope ["_law_pool_here", "_law_many", "_law_size", "_law_rows_here", "_law_number", "_law_lot_here", "_law_part", "_law_counts", "_law_k", "_law_thing"] ["_law_pool_here", "_law_many"] (defScope s__law_rows) := ⟨rfl, rfl, rfl, by decide +kernel, rfl, by decide +kernel, by decide +kernel⟩
abbrev s__law_changed : Stmt := top 41
theorem sc__law_changed : FnScope ["_law_row", "_law_lot_here", "_law_many", "_law_change", "_law_found", "_law_spare", "_law_outside", "_law_at", "_law_thing"] ["_law_row", "_law_lot_here", "_law_many", "_law_change"] (defScope s__law_changed) := ⟨rfl, rfl, rfl, by decide +kernel, rfl, by decide +kernel, by decide +kernel⟩
abbrev s_law : Stmt := top 47
theorem sc_law : FnScope ["_law_script", "_law_drawn", "_law_many", "_law_small", "_law_good", "_law_rows_here", "_law_k", "_law_change", "_law_at", "_law_due_here", "_law_handed", "_law_classes_here", "_law_row"] ["_law_script"] (defScope s_law) := ⟨rfl, rfl, rfl, by decide +kernel, rfl, by decide +kernel, by decide +kernel⟩

/-! ### mathematics of draws -/
def Within : List Int → List Int → Prop
  | [], [] => True
  | d :: ds, n :: ns => (0 ≤ d ∧ d < n) ∧ Within ds ns
  | _, _ => False
theorem Within.len : ∀ {ds ns : List Int}, Within ds ns → ds.length = ns.length
  | [], [], _ => rfl
  | _ :: ds, _ :: ns, h => by
    rw [List.length_cons, List.length_cons, Within.len h.2]
  | [], _ :: _, h => h.elim
  | _ :: _, [], h => h.elim
theorem Within.snoc : ∀ {ds ns : List Int} {d n : Int}, Within ds ns → 0 ≤ d → d < n → Within (ds ++ [d]) (ns ++ [n])
  | [], [], d, n, _, h0, h1 => ⟨⟨h0, h1⟩, True.intro⟩
  | _ :: ds, _ :: ns, d, n, h, h0, h1 => ⟨h.1, Within.snoc h.2 h0 h1⟩
  | [], _ :: _, _, _, h, _, _ => h.elim
  | _ :: _, [], _, _, h, _, _ => h.elim
theorem Within.step {ds ns : List Int} {d n : Int} {i : Nat} (h : Within ds (ns.take i)) (hi : ns[i]? = some n) (h0 : 0 ≤ d) (h1 : d < n) : Within (ds ++ [d]) (ns.take (i + 1)) := by
  rw [List.take_add_one, hi]
  exact h.snoc h0 h1
theorem Within.zero (ns : List Int) : Within [] (ns.take 0) := by
  rw [List.take_zero]
  exact True.intro
theorem Within.full {ds ns : List Int} (h : Within ds (ns.take ns.length)) : Within ds ns := by
  rw [List.take_length] at h
  exact h
theorem int_of {ns : List Int} {i : Nat} {x : V} (h : (ns.map V.int)[i]? = some x) : ∃ n, x = .int n ∧ ns[i]? = some n := by
  rw [List.getElem?_map] at h
  cases e : ns[i]? with
  | none =>
    rw [e] at h
    cases h
  | some z =>
    rw [e] at h
    exact ⟨z, (Option.some.inj h).symm, rfl⟩
theorem int_at {ns : List Int} {i : Nat} {n : Int} (h : ns[i]? = some n) : (ns.map V.int)[i]? = some (.int n) := by
  rw [List.getElem?_map, h]
  rfl
theorem snoc_int (ds : List Int) (d : Int) : ds.map V.int ++ [V.int d] = (ds ++ [d]).map V.int := by
  rw [List.map_append]
  rfl
theorem same_upd {H : Hp} {p : Addr} {o : HO} (h : H p = none) : Same H (upd H p o) := fun b x e => by
  rw [upd_ne (ne_of_none e h)]
  exact e
theorem same_mut {H H1 : Hp} {p : Addr} {o : HO} (s : Same H H1) (h : H p = none) : Same H (upd H1 p o) := fun b x e => by
  rw [upd_ne (ne_of_none e h)]
  exact s b x e
theorem same_tup {K : PySem.W.Frag} {H H' : Hp} {a : Addr} {xs : List V} (e : Same H H') (h : SqT K H a xs) : SqT K H' a xs := by
  rcases h with (h | ⟨o, h⟩) | h
  · exact .inl (.inl (e _ _ h))
  · exact .inl (.inr ⟨o, e _ _ h⟩)
  · exact .inr h
theorem w_div {j : Int} (h : 0 < j) (hb : j < 2 ^ 100) : CDivW 0 j := wide_div (b := 100) h (by omega) (by decide) (by decide)
theorem lst_l {K : PySem.W.Frag} {H : Hp} {a : Addr} {xs : List V} (h : H a = some (.lst xs)) : SqL K H a xs := .inl (.inl h)
theorem tup_t {K : PySem.W.Frag} {H : Hp} {a : Addr} {xs : List V} (h : H a = some (.tup xs)) : SqT K H a xs := .inl (.inl h)
theorem lc_yes {σ : L2.St} {H : Hp} {F : Bool → Hp → Prop} (h : F true H) : tYes σ H F := h
theorem Within.c {ds ns : List Int} {n : Int} (h : Within ds (n :: ns)) : ∃ d r, ds = d :: r ∧ 0 ≤ d ∧ d < n ∧ Within r ns := by
  cases ds with
  | nil => exact h.elim
  | cons d r => exact ⟨d, r, rfl, h.1.1, h.1.2, h.2⟩
theorem Within.n {ds : List Int} (h : Within ds []) : ds = [] := by
  cases ds with
  | nil => rfl
  | cons d r => exact h.elim
theorem kI : kitB "int" "int" = some true := by decide +kernel
theorem kB : kitB "int" "bool" = some false := by decide +kernel
theorem kT : kitB "tuple" "tuple" = some true := by decide +kernel

theorem cut_from (xs : List V) (k : Nat) : cutV xs (some (k : Int)) none = xs.drop k := by
  unfold cutV
  rw [HT.sIx_nat, HT.sIx_none]
  by_cases h : k ≤ xs.length
  · rw [Nat.min_eq_left h]
    exact List.take_of_length_le (by rw [List.length_drop]; exact Nat.le_refl _)
  · rw [Nat.min_eq_right (by omega), List.drop_of_length_le (Nat.le_refl _), List.drop_of_length_le (by omega), List.take_nil]
theorem cut_from1 (xs : List V) : cutV xs (some 1) none = xs.drop 1 := by
  unfold cutV
  rw [show HT.sIx xs.length 0 (some 1) = min 1 xs.length from HT.sIx_nat xs.length 0 1, HT.sIx_none]
  cases xs with
  | nil => rfl
  | cons x r =>
    rw [show min 1 (x :: r).length = 1 by
      rw [List.length_cons]
      omega]
    show (List.take ((x :: r).length - 1) r) = r
    rw [List.length_cons, Nat.add_sub_cancel]
    exact List.take_length
theorem big18 : (0 : Int) < 10 ^ 18 ∧ (10 : Int) ^ 18 < 2 ^ 100 := by decide
theorem cut_to (xs : List V) (k : Nat) : cutV xs none (some (k : Int)) = xs.take k := by
  unfold cutV
  rw [HT.sIx_none, HT.sIx_nat, List.drop_zero, Nat.sub_zero]
  by_cases h : k ≤ xs.length
  · rw [Nat.min_eq_left h]
  · rw [Nat.min_eq_right (by omega), List.take_of_length_le (Nat.le_refl _), List.take_of_length_le (by omega)]

theorem iteD {c A B : Prop} [Decidable c] (hc : c) (h : A) : if decide c = true then A else B := by
  rw [if_pos (decide_eq_true hc)]
  exact h
theorem iteDF {c A B : Prop} [Decidable c] (hc : ¬ c) (h : B) : if decide c = true then A else B := by
  rw [decide_eq_false hc]
  exact iteF h
/-! ### lowest terms -/
def rg (t b : Int) : Int := ((Nat.gcd t.natAbs b.natAbs : Nat) : Int)
def rd (t b : Int) : Int := if b < 0 then -(rg t b) else rg t b
def nT (t b : Int) : Int := t.fdiv (rd t b)
def nB (t b : Int) : Int := b.fdiv (rd t b)
/-- T over B is t over b in lowest terms -/
structure LowT (t b T B : Int) : Prop where
  pos : 0 < B
  eq : T * b = t * B
  leT : T.natAbs ≤ t.natAbs
  leB : B.natAbs ≤ b.natAbs
  cop : Nat.gcd T.natAbs B.natAbs = 1
theorem rg_pos {t b : Int} (h : b ≠ 0) : 0 < rg t b := by
  unfold rg
  have := Nat.gcd_pos_of_pos_right t.natAbs (Int.natAbs_pos.mpr h)
  omega
theorem rd_ne {t b : Int} (h : b ≠ 0) : rd t b ≠ 0 := by
  have := rg_pos (t := t) h
  unfold rd
  split <;> omega
theorem rd_abs (t b : Int) : (rd t b).natAbs = Nat.gcd t.natAbs b.natAbs := by
  unfold rd rg
  split <;> omega
theorem rd_dvd_t (t b : Int) : rd t b ∣ t := by
  rw [← Int.natAbs_dvd_natAbs, rd_abs]
  exact Nat.gcd_dvd_left ..
theorem rd_dvd_b (t b : Int) : rd t b ∣ b := by
  rw [← Int.natAbs_dvd_natAbs, rd_abs]
  exact Nat.gcd_dvd_right ..
theorem nT_mul {t b : Int} (h : b ≠ 0) : t = rd t b * nT t b := by
  obtain ⟨k, hk⟩ := rd_dvd_t t b
  have e : nT t b = k := by
    unfold nT
    conv => lhs; arg 1; rw [hk]
    exact Int.mul_fdiv_cancel_left k (rd_ne h)
  rw [e]
  exact hk
theorem nB_mul {t b : Int} (h : b ≠ 0) : b = rd t b * nB t b := by
  obtain ⟨k, hk⟩ := rd_dvd_b t b
  have e : nB t b = k := by
    unfold nB
    conv => lhs; arg 1; rw [hk]
    exact Int.mul_fdiv_cancel_left k (rd_ne h)
  rw [e]
  exact hk
theorem low {t b : Int} (h : b ≠ 0) : LowT t b (nT t b) (nB t b) := by
  have h1 := nT_mul (t := t) h
  have h2 := nB_mul (t := t) h
  have hg := rg_pos (t := t) h
  have hd := rd_ne (t := t) h
  have a1 : t.natAbs = (rd t b).natAbs * (nT t b).natAbs := by
    rw [← Int.natAbs_mul, ← h1]
  have a2 : b.natAbs = (rd t b).natAbs * (nB t b).natAbs := by
    rw [← Int.natAbs_mul, ← h2]
  have p : 0 < (rd t b).natAbs := Int.natAbs_pos.mpr hd
  refine ⟨?_, ?_, ?_, ?_, ?_⟩
  · by_cases hb : b < 0
    · have e : rd t b = -(rg t b) := if_pos hb
      rw [e] at h2
      by_cases hn : 0 < nB t b
      · exact hn
      · exfalso
        have : 0 ≤ -(rg t b) * nB t b := by
          rw [Int.neg_mul]
          have := Int.mul_nonneg (Int.le_of_lt hg) (show 0 ≤ -(nB t b) by omega)
          rw [Int.mul_neg] at this
          exact this
        omega
    · have e : rd t b = rg t b := if_neg hb
      rw [e] at h2
      by_cases hn : 0 < nB t b
      · exact hn
      · exfalso
        have := Int.mul_nonneg (Int.le_of_lt hg) (show 0 ≤ -(nB t b) by omega)
        rw [Int.mul_neg] at this
        omega
  · have e : nT t b * b = nT t b * (rd t b * nB t b) := congrArg (nT t b * ·) h2
    have e2 : t * nB t b = rd t b * nT t b * nB t b := congrArg (· * nB t b) h1
    rw [e, e2, ← Int.mul_assoc, Int.mul_comm (nT t b)]
  · rw [a1]
    exact Nat.le_mul_of_pos_left _ p
  · rw [a2]
    exact Nat.le_mul_of_pos_left _ p
  · have g := rd_abs t b
    rw [a1, a2, Nat.gcd_mul_left] at g
    have : (rd t b).natAbs * 1 = (rd t b).natAbs * Nat.gcd (nT t b).natAbs (nB t b).natAbs := by
      rw [Nat.mul_one]
      have e1 := congrArg Int.natAbs h1
      have e2 := congrArg Int.natAbs h2
      rw [Int.natAbs_mul] at e1 e2
      exact g
    exact (Nat.eq_of_mul_eq_mul_left p this).symm
theorem low_uniq {t b T B T' B' : Int} (hb : b ≠ 0) (h : LowT t b T B) (h' : LowT t b T' B') : T = T' ∧ B = B' := by
  have e : T * B' = T' * B := by
    have h1 : T * B' * b = T' * B * b := by
      have x1 : T * B' * b = (T * b) * B' := by rw [Int.mul_assoc, Int.mul_comm B', ← Int.mul_assoc]
      have x2 : T' * B * b = (T' * b) * B := by rw [Int.mul_assoc, Int.mul_comm B, ← Int.mul_assoc]
      rw [x1, x2, h.eq, h'.eq, Int.mul_assoc, Int.mul_assoc, Int.mul_comm B]
    exact Int.eq_of_mul_eq_mul_right hb h1
  have n : T.natAbs * B'.natAbs = T'.natAbs * B.natAbs := by
    rw [← Int.natAbs_mul, ← Int.natAbs_mul, e]
  have d1 : B.natAbs ∣ B'.natAbs := by
    have : B.natAbs ∣ T.natAbs * B'.natAbs := n ▸ Nat.dvd_mul_left ..
    exact (Nat.Coprime.symm h.cop).dvd_of_dvd_mul_left this
  have d2 : B'.natAbs ∣ B.natAbs := by
    have : B'.natAbs ∣ T'.natAbs * B.natAbs := n ▸ Nat.dvd_mul_left ..
    exact (Nat.Coprime.symm h'.cop).dvd_of_dvd_mul_left this
  have eb : B.natAbs = B'.natAbs := Nat.dvd_antisymm d1 d2
  have p := h.pos
  have p' := h'.pos
  have eB : B = B' := by omega
  subst eB
  exact ⟨Int.eq_of_mul_eq_mul_right (by omega) e, rfl⟩
/-! ### Euclid's turns -/
/-- ahead of turn i; g the greatest common divisor, the first product below 6 ^ m -/
structure Eu (g m i : Nat) (a b : Nat) : Prop where
  gc : Nat.gcd a b = g
  pot : (i = 0 ∧ a * b < 6 ^ m) ∨ (∃ j, i = 2 * j + 1 ∧ b ≤ a ∧ 0 < a ∧ a * b * 6 ^ j < 6 ^ m) ∨ (∃ j, i = 2 * j + 2 ∧ b ≤ a ∧ 0 < a ∧ (a + b) * a * 6 ^ j < 6 ^ m)
theorem eu_zero {g m i a : Nat} (h : Eu g m i a 0) : a = g := by
  have := h.gc
  rw [Nat.gcd_zero_right] at this
  exact this
theorem six_br {a b r : Nat} (h : b + r ≤ a) (hr : r ≤ b) : b * r * 6 ≤ (a + b) * a := by
  obtain ⟨c, rfl⟩ : ∃ c, b = r + c := ⟨b - r, by omega⟩
  have h1 : (r + c + r + (r + c)) * (r + c + r) ≤ (a + (r + c)) * a := Nat.mul_le_mul (by omega) h
  refine Nat.le_trans ?_ h1
  have e1 : (r + c) * r * 6 = 6 * (r * r) + 6 * (c * r) := by
    rw [Nat.add_mul]
    omega
  have e2 : (r + c + r + (r + c)) * (r + c + r) = 6 * (r * r) + 7 * (c * r) + 2 * (c * c) := by
    have : r + c + r + (r + c) = 3 * r + 2 * c := by omega
    rw [this]
    have : r + c + r = 2 * r + c := by omega
    rw [this, Nat.add_mul, Nat.mul_add, Nat.mul_add]
    have q1 : 3 * r * (2 * r) = 6 * (r * r) := by
      rw [Nat.mul_mul_mul_comm]
    have q2 : 3 * r * c = 3 * (c * r) := by
      rw [Nat.mul_assoc, Nat.mul_comm r c]
    have q3 : 2 * c * (2 * r) = 4 * (c * r) := by
      rw [Nat.mul_mul_mul_comm]
    have q4 : 2 * c * c = 2 * (c * c) := Nat.mul_assoc ..
    rw [q1, q2, q3, q4]
    omega
  omega
theorem eu_step {g m i a b : Nat} (h : Eu g m i a b) (hb : 0 < b) : Eu g m (i + 1) b (a % b) := by
  have hr : a % b < b := Nat.mod_lt a hb
  refine ⟨?_, ?_⟩
  · rw [← h.gc, Nat.gcd_comm a b, Nat.gcd_rec b a, Nat.gcd_comm]
  · rcases h.pot with ⟨rfl, p⟩ | ⟨j, rfl, hle, _, p⟩ | ⟨j, rfl, hle, _, p⟩
    · refine .inr (.inl ⟨0, by omega, by omega, hb, ?_⟩)
      rw [Nat.pow_zero, Nat.mul_one]
      refine Nat.lt_of_le_of_lt ?_ p
      rw [Nat.mul_comm]
      exact Nat.mul_le_mul_right _ (Nat.mod_le a b)
    · refine .inr (.inr ⟨j, by omega, by omega, hb, ?_⟩)
      refine Nat.lt_of_le_of_lt (Nat.mul_le_mul_right _ ?_) p
      have e := Nat.div_add_mod a b
      have q : 1 ≤ a / b := Nat.div_pos hle hb
      have : b * 1 ≤ b * (a / b) := Nat.mul_le_mul_left b q
      exact Nat.mul_le_mul (by omega) (Nat.le_refl b)
    · refine .inr (.inl ⟨j + 1, by omega, by omega, hb, ?_⟩)
      refine Nat.lt_of_le_of_lt ?_ p
      have e := Nat.div_add_mod a b
      have q : 1 ≤ a / b := Nat.div_pos hle hb
      have q2 : b * 1 ≤ b * (a / b) := Nat.mul_le_mul_left b q
      have s := six_br (a := a) (b := b) (r := a % b) (by omega) (by omega)
      rw [Nat.pow_succ, Nat.mul_comm (6 ^ j) 6, ← Nat.mul_assoc]
      exact Nat.mul_le_mul_right _ s
theorem eu_end {g m n a b : Nat} (h : Eu g m (2 * n + 2) a b) (hm : m ≤ n) : False := by
  rcases h.pot with ⟨h0, _⟩ | ⟨j, hj, _⟩ | ⟨j, hj, _, ha, p⟩
  · omega
  · omega
  · have e : j = n := by omega
    subst e
    have h1 : 1 * 6 ^ m ≤ (a + b) * a * 6 ^ j := Nat.mul_le_mul (Nat.mul_pos (by omega) ha) (Nat.pow_le_pow_right (by decide) hm)
    omega
def lotOf (b : Int) : Nat → List Int
  | 0 => []
  | m + 1 => lotOf b m ++ (if b / 2 ^ m % 2 = 1 then [(m : Int)] else [])
def powSum (l : List Int) : Int := (l.map fun t => 1 * (2 : Int) ^ t.toNat).sum
theorem powSum_append (a b : List Int) : powSum (a ++ b) = powSum a + powSum b := by
  unfold powSum
  rw [List.map_append, List.sum_append]
theorem two_pos (m : Nat) : (0 : Int) < 2 ^ m := Int.pow_pos (by decide)
theorem half (b : Int) (m : Nat) : b / 2 ^ m / 2 = b / 2 ^ (m + 1) := by
  rw [Int.ediv_ediv_of_nonneg (Int.le_of_lt (two_pos m)), ← Int.pow_succ]
theorem powSum_lotOf (b : Int) : ∀ m : Nat, powSum (lotOf b m) = b % 2 ^ m
  | 0 => by
    show (0 : Int) = b % 1
    omega
  | m + 1 => by
    show powSum (lotOf b m ++ _) = _
    rw [powSum_append, powSum_lotOf b m]
    have e1 : (2 : Int) ^ (m + 1) = 2 ^ m * 2 := Int.pow_succ ..
    have e2 := Int.mul_ediv_add_emod b (2 ^ m)
    have e3 := Int.mul_ediv_add_emod b (2 ^ (m + 1))
    have e4 : b / 2 ^ (m + 1) = b / 2 ^ m / 2 := (half b m).symm
    have e5 := Int.emod_add_mul_ediv (b / 2 ^ m) 2
    have e6 : b % 2 ^ (m + 1) = b % 2 ^ m + 2 ^ m * (b / 2 ^ m % 2) := by
      have h1 : 2 ^ m * (b / 2 ^ m % 2 + 2 * (b / 2 ^ m / 2)) = 2 ^ m * (b / 2 ^ m) := by rw [e5]
      rw [Int.mul_add, ← Int.mul_assoc, ← e1, ← e4] at h1
      omega
    rw [e6]
    have h2 := Int.emod_two_eq (b / 2 ^ m)
    rcases h2 with h2 | h2
    · rw [h2, if_neg (by decide)]
      show _ + (0 : Int) = _
      omega
    · rw [h2, if_pos rfl]
      show _ + ((1 : Int) * 2 ^ ((m : Int)).toNat + 0) = _
      rw [Int.toNat_natCast]
      omega
theorem bit_mod (b : Int) {i m : Nat} (h : i < m) : (b % 2 ^ m) / 2 ^ i % 2 = b / 2 ^ i % 2 := by
  have e2 := Int.mul_ediv_add_emod b (2 ^ m)
  have e3 : (2 : Int) ^ m = 2 ^ i * (2 * 2 ^ (m - i - 1)) := by
    rw [← Int.mul_assoc, ← Int.pow_succ, ← Int.pow_add]
    congr 1
    omega
  have e4 : b = b % 2 ^ m + 2 ^ i * (2 * (2 ^ (m - i - 1) * (b / 2 ^ m))) := by
    have e5 : 2 ^ i * (2 * (2 ^ (m - i - 1) * (b / 2 ^ m))) = 2 ^ m * (b / 2 ^ m) := by
      generalize b / 2 ^ m = q
      rw [e3]
      simp only [Int.mul_assoc]
    omega
  conv => rhs; rw [e4]
  rw [Int.add_mul_ediv_left _ _ (Int.ne_of_gt (two_pos i)), Int.add_mul_emod_self_left]
theorem lotOf_mod (b : Int) {m : Nat} : ∀ {k : Nat}, k ≤ m → lotOf (b % 2 ^ m) k = lotOf b k
  | 0, _ => rfl
  | k + 1, h => by
    show lotOf (b % 2 ^ m) k ++ _ = lotOf b k ++ _
    rw [lotOf_mod b (Nat.le_of_succ_le h), bit_mod b h]
theorem lotOf_more (b : Int) (m : Nat) : lotOf (b % 2 ^ m) (m + 1) = lotOf b m := by
  show lotOf (b % 2 ^ m) m ++ _ = lotOf b m
  rw [lotOf_mod b (Nat.le_refl m), Int.ediv_eq_zero_of_lt (Int.emod_nonneg _ (Int.ne_of_gt (two_pos m))) (Int.emod_lt_of_pos _ (two_pos m)), if_neg (by decide), List.append_nil]
theorem lotOf_len (b : Int) : ∀ m : Nat, (lotOf b m).length ≤ m
  | 0 => Nat.le_refl 0
  | m + 1 => by
    show (lotOf b m ++ _).length ≤ _
    have h := lotOf_len b m
    rw [List.length_append]
    split <;> simp <;> omega
theorem lotOf_mem (b : Int) : ∀ {m : Nat} {t : Int}, t ∈ lotOf b m → 0 ≤ t ∧ t < m
  | 0, _, h => by cases h
  | m + 1, t, h => by
    rcases List.mem_append.mp h with h | h
    · have := lotOf_mem b h
      omega
    · split at h
      · have := List.mem_singleton.mp h
        omega
      · cases h
theorem lotOf_asc (b : Int) : ∀ m : Nat, (lotOf b m).Pairwise (· < ·)
  | 0 => List.Pairwise.nil
  | m + 1 => by
    refine List.pairwise_append.mpr ⟨lotOf_asc b m, ?_, fun x hx y hy => ?_⟩
    · split
      · exact List.pairwise_singleton ..
      · exact List.Pairwise.nil
    · split at hy
      · have := List.mem_singleton.mp hy
        have := lotOf_mem b hx
        omega
      · cases hy
open NdefX (NScope ncx startF CellsAt inv_startN)
open ClX (pin_new pin_at base_none unpinE)

/-! ### own classes and errors: rules that the layer lacks -/
section
variable {X : Cx}
/-- a field's read, its K by another name -/
theorem pe_fldK {K : PySem.W.Frag} {e : Expr} {f : Str} {pos : Pos} {ta : TE} (he : PE X e ta) (hb : attributeBase e f X.env (eval e X.env) = eval e X.env) (hK : X.K = K := by rfl) : PE X (.Attribute e f pos) (tFld K ta f) := by
  subst hK
  exact pe_fld he hb
/-- floor division by a divisor of either sign -/
def CDivWN (_ j : Int) : Prop := j ≠ 0 ∧ j.natAbs.log2 < 9000
theorem op_fdivWN : OpR X (binaryOp .FloorDiv) (rI CDivWN fun i j => .int (i.fdiv j)) := opI fun _ _ _ _ _ _ _ c k => floordiv_int c.1 k (.inl (PyProof.noPylong_of_log2 c.2))
/-- a new instance whose __init__ may let an error out, wished for at the slots that stand -/
theorem made_at {CX : CXT} {n : Nat} {g D : Addr} {gd : FuncData} {qs : List Str} {pr : Sp} {Ex : L2.St → XK} {us0 : List Value} {vs0 : List V} {pn : List (Addr × Obj)} {τ : L2.St} {H0 : Hp} {st : Shared} {W : VK} {as : List Value} {xs : List V}
    (MK : Mk X.K D g) (OK : FnOk X.prog X.w X.K X.mg X.base CX n g gd qs pr) (room : Room (n + 1) X.A) (bd : Binds X.K gd qs us0) (dv : Vals vs0 us0) (out : PassesAt CX X τ (Ex τ)) (J : Inv X pn τ H0 st) (rel : Vals xs as)
    (go : ∀ p q, H0 p = none → H0 q = none → q ≠ p → pr (.ref p :: (xs ++ vs0)) (upd (upd H0 q (.own p)) p (.ins D q [])) (fun v H2 => v = .non ∧ W (.ref p) H2) (Ex τ)) :
    wpAny (model X.prog X.w) X.A (call (.ref D) as) (EP X pn τ W) X.xe st := by
  have new1 := J.hok.fresh (Nat.le_succ st.heap.objs.size)
  have new2 := J.hok.fresh (Nat.le_refl st.heap.objs.size)
  have asked := go _ _ new1 new2 (Nat.ne_of_lt (Nat.lt_succ_self _))
  have J2 := Inv.made (C := D) J
  have rel2 : Vals (V.ref (st.heap.objs.size + 1) :: (xs ++ vs0)) (Value.ref (st.heap.objs.size + 1) :: (as ++ us0)) :=
    .cons rfl (rel.append dv)
  have len2 : (Value.ref (st.heap.objs.size + 1) :: as ++ us0).length = qs.length := (rel2.length.symm).trans (OK.len _ _ _ _ asked)
  have env2 := J2.env0.make D as []
  have bound := bd _ (Value.ref (st.heap.objs.size + 1) :: as) J2.kIn len2
  have ran := OK.run _ X.stack _ _ _ _ _ _ (Ex τ) (room.make D as []) env2 bound rel2 asked
  refine wpAny_call (make_map (f := g) J.kIn MK.makes MK.init (beq_iff_eq.mp MK.fn) (codeAny_mono ran ?_))
  rintro (e | fl) s' back
  · exact out pn _ _ e s' J2 back
  · cases fl with
    | ret u =>
      obtain ⟨v, H', J3, rv, rfl, w3⟩ := J2.after back
      exact ⟨rv, V.ref (st.heap.objs.size + 1), _, J3, rfl, w3⟩
    | next => exact back.elim
    | brk => exact back.elim
    | cont => exact back.elim
def tMakeS (D : Addr) (pr : Sp) (vs0 : List V) (Ex : L2.St → XK) (t : TA) : TE := fun τ H Q => t τ H fun xs H1 => ∀ p q, H1 p = none → H1 q = none → q ≠ p →
  pr (.ref p :: (xs ++ vs0)) (upd (upd H1 q (.own p)) p (.ins D q [])) (fun v H2 => v = .non ∧ Q (.ref p) H2) (Ex τ)
theorem pe_makeS {CX : CXT} {n : Nat} {g D : Addr} {gd : FuncData} {qs : List Str} {pr : Sp} {Ex : L2.St → XK} {us0 : List Value} {vs0 : List V} {x : Str} {p pos : Pos} {e : Expr} {es : List Expr} {t : TA}
    (MK : Mk X.K D g) (OK : FnOk X.prog X.w X.K X.mg X.base CX n g gd qs pr) (room : Room (n + 1) X.A) (gl : Gl X x) (at_ : X.mg x = some (.ref D)) (bd : Binds X.K gd qs us0) (dv : Vals vs0 us0) (out : ∀ τ, PassesAt CX X τ (Ex τ)) (args : PA X (e :: es) t)
    (plain : (x == ("__debug__" : Str)) = false := by decide) (first : starEach (e :: es) X.env = (false, eval e X.env) :: starEach es X.env := by rfl) (noStar : (backTo pos (starEach es X.env)).any (·.1) = false := by rfl) :
    PE X (.Call (.Name x p) (e :: es) [] pos) (tMakeS D pr vs0 Ex t) :=
  ⟨fun pn s τ H Q J h => wpAny_Call_Name_kw (ld_glob J gl at_ (PySem.W.callWith_K (h₀ := X.base) J.ok.mod.kin MK.kp (thn (args.run pos pn s τ H _ J h) fun _ _ ⟨_, _, J1, rel, go⟩ => ⟨J1.kIn, made_at MK OK room bd dv (out τ) J1 rel go⟩) first noStar) plain)⟩
/-- isinstance(e, c) in a suite, e the error that it holds (of an own class at D, without a dict of its own) -/
def rIsX (K : PySem.W.Frag) (a : Addr) (cls : Value) (d : Option Addr) : List V → Hp → VK → Prop := fun xs H Q => ∃ D : Addr, ExcC K D ∧ cls = .ref D ∧ d = none ∧ rIsE K D a xs H Q
theorem call_isX {K : PySem.W.Frag} {a : Addr} {cls : Value} {d : Option Addr} {oe : Obj} {pn : List (Addr × Obj)} (hz : Zc cls d oe) (hf : ∃ vs, oe.data = .fields vs) (hK : X.K = K := by rfl) :
    CallR (X.suite a ((a, oe) :: pn)) (.builtin "isinstance") (rIsX K a cls d) := by
  intro pins s σ H xs us Q I r h
  subst hK
  obtain ⟨D, ec, rfl, rfl, h⟩ := h
  exact call_isE ec hz hf pins s σ H xs us Q I r h
end
theorem lk_one {k : Str} {v : V} {r : List (Str × V)} : List.lookup k ((k, v) :: r) = some v := by
  simp [List.lookup]
theorem lk_two {k g : Str} {v : V} {r : List (Str × V)} (h : (k == g) = false) : List.lookup k ((g, v) :: r) = List.lookup k r := by
  simp only [List.lookup, h]

/-! ### super().__init__(e, ..) as a method's first statement -/
theorem inst_of' {X : Cx} {pins : List (Addr × Obj)} {σ : L2.St} {H : Hp} {s : Shared} {a C dx : Addr} {fs : List (Str × V)} (I : Inv X pins σ H s) (e : H a = some (.ins C dx fs)) :
    s.heap.get? a = some (PySem.W.instObj C dx) ∧ ∃ od, PySem.W.InstAt s.heap a (PySem.W.instObj C dx) C (some od) := by
  obtain ⟨mA, O, _⟩ := ins_get I.hok e
  obtain ⟨od, J, _⟩ := O.look
  exact ⟨O.obj, od, J⟩
/-- what the top has written of a class D above which super() looks, for an instance of the class C: the function g at the name -/
structure SupC (K : PySem.W.Frag) (mg : Str → Option Value) (C D cc cda g : Addr) (file : Str) : Prop where
  isD : ∃ cd, PySem.W.clsIn K D = some cd
  sub : PySem.W.mroIn K C (.ref D) = some true
  cell : ∃ cl cld csl, K.lookup cc = some ⟨cl, cld, .cell (some (.ref D)), csl⟩
  code : ∃ ccl cdd vs ccs tf, K.lookup cda = some ⟨ccl, cdd, .fields vs, ccs⟩ ∧ vs[2]? = some (.str file tf)
  sup : PySem.W.ks_superIn K C D "__init__" = some (some (.ref g))
  tg : PySem.W.typeIn K (.ref g) = some (.type "function")
  fg : PySem.W.fnIn K g = true
  opq : PySem.W.nsIn K cStatics "thirdparty.any" = some none
  nosup : mg "super" = none
section
variable {CX : CXT} {P : Program} {w : World} {K : PySem.W.Frag} {mg : Str → Option Value} {base : Heap} {k j : Nat} {f g cc cda C D : Addr} {name qual : Str} {params : Arguments} {scope : Scope} {dV kV doc pm ct oc : Value} {an od : Option Addr}
  {osl : Array (Option Value)} {N ps qs : List Str} {sp si : Sp} {gd : FuncData} {e : Expr} {es : List Expr} {rest : List Stmt} {p0 p1 p2 p3 p4 : Pos} {ar : Arg} {pl : Sem Bool}
abbrev supSt (p0 p1 p2 p3 p4 : Pos) (es : List Expr) : Stmt := .Expr (.Call (.Attribute (.Call (.Name "super" p0) [] [] p1) "__init__" p2) es [] p3) p4
theorem fn_super {file : Str} (lk : K.lookup f = some ⟨oc, od, .func (PySem.W.ksFn name qual params (supSt p0 p1 p2 p3 p4 (e :: es) :: rest) scope dV kV doc pm an (.ref cda) ct cc), osl⟩) (hcd : PySem.W.codeIn K (.ref cda) qual = true) (S : NScope N ps ["__class__"] scope)
    (SC : SupC K mg C D cc cda g file) (hfile : ((P.main.file : Str) == file) = true) (htop : (P.main.scope.names.lookup ("super" : Str)).isSome = false) (hpar : (params.posonlyargs ++ params.args).head? = some ar) (hN : N[0]? = some ar.arg) (hka : scope.names.lookup ar.arg = some .local)
    (hks : scope.names.lookup ("super" : Str) = some .globalImplicit) (hkc : scope.names.lookup ("__class__" : Str) = some .free)
    (len : ∀ vs H Q E, sp vs H Q E → vs.length = ps.length) (G : FnOk P w K mg base CX j g gd qs si) (bd : Binds K gd qs []) (hj : j ≤ k)
    (hi : ∀ L, interactive (PySem.W.ksEnv qual scope L f (.ref cda) cc) = false)
    (hsw : ∀ L, swapsWith (.Call (.Attribute (.Call (.Name "super" p0) [] [] p1) "__init__" p2) (e :: es) [] p3) none p4.line (PySem.W.ksEnv qual scope L f (.ref cda) cc) = pure false)
    (hev : ∀ L, eval (.Call (.Attribute (.Call (.Name "super" p0) [] [] p1) "__init__" p2) (e :: es) [] p3) (PySem.W.ksEnv qual scope L f (.ref cda) cc) = (do
      let ov ← attributeBase (.Call (.Name "super" p0) [] [] p1) "__init__" (PySem.W.ksEnv qual scope L f (.ref cda) cc) (eval (.Call (.Name "super" p0) [] [] p1) (PySem.W.ksEnv qual scope L f (.ref cda) cc))
      standAt p2.atName
      let (f', first) ← holding [ov] (getMethod ov "__init__" pl)
      callWith p3 f' first (backTo p3 (starEach (e :: es) (PySem.W.ksEnv qual scope L f (.ref cda) cc))) []))
    (hst : ∀ L, starEach (e :: es) (PySem.W.ksEnv qual scope L f (.ref cda) cc) = (false, eval e (PySem.W.ksEnv qual scope L f (.ref cda) cc)) :: starEach es (PySem.W.ksEnv qual scope L f (.ref cda) cc))
    (hpl : ∀ L, (backTo p3 (starEach es (PySem.W.ksEnv qual scope L f (.ref cda) cc))).any (·.1) = false)
    (hbody : ∀ (A : Around) (outer : List Env) (s : Shared) (H : Hp) (vs : List V) (Q : VK) (E : XK), Room k (A.deeper (PySem.W.ksEnv qual scope s.heap.objs.size f (.ref cda) cc)) → sp vs H Q E →
      ∃ (ta : TA) (tr : TS) (a dx : Addr) (fs : List (Str × V)) (us0 : List V) (Ei : XK),
        PA (ncx CX P w K mg base N ⟨name, qual, params, supSt p0 p1 p2 p3 p4 (e :: es) :: rest, scope, [("__class__", cc)], cda⟩ f A outer s H E) (e :: es) ta ∧
        PSs (ncx CX P w K mg base N ⟨name, qual, params, supSt p0 p1 p2 p3 p4 (e :: es) :: rest, scope, [("__class__", cc)], cda⟩ f A outer s H E) rest tr ∧
        Passes CX (ncx CX P w K mg base N ⟨name, qual, params, supSt p0 p1 p2 p3 p4 (e :: es) :: rest, scope, [("__class__", cc)], cda⟩ f A outer s H E) Ei ∧ vs = .ref a :: us0 ∧ H a = some (.ins C dx fs) ∧
        ta (startF N vs [none]) H (fun ws H1 => si (.ref a :: ws) H1 (fun _ H2 => tr { nx := fun _ H' => Q .non H', rt := Q } (startF N vs [none]) H2) Ei)) :
    FnOk P w K mg base CX (k + 1) f (PySem.W.ksFn name qual params (supSt p0 p1 p2 p3 p4 (e :: es) :: rest) scope dV kV doc pm an (.ref cda) ct cc) ps sp := by
  refine ⟨len, fun A outer s H args us vs Q E hr e0 hb r asked => ?_⟩
  have hl := len _ _ _ _ asked
  have kb : ∀ b o, base.get? b = some o → s.heap.get? b = some o := fun b o z => (e0.bs b o z).1
  have KX : K.In s.heap := e0.mod.kin.keeps kb
  have lim : s.heap.NoLimit := e0.mod.nolimit.keeps kb
  obtain ⟨cl, cld, csl, hcell⟩ := SC.cell
  obtain ⟨ccl, cdd, fv, ccs, tf, hcode, hfv⟩ := SC.code
  obtain ⟨cdD, hD⟩ := SC.isD
  have C0 : CellsAt [("__class__", cc)] ["__class__"] [none] s.heap H := by
    refine ⟨rfl, fun y c z => ?_, fun y z c h1 h2 => ?_, fun i y z => ?_⟩
    · have hc : c = cc := by
        simp only [List.lookup] at z
        split at z
        · exact (Option.some.inj z).symm
        · cases z
      subst hc
      exact ⟨(e0.bs _ _ (e0.mod.kin _ _ hcell)).2, _, _, KX _ _ hcell, rfl⟩
    · have one : ∀ {t : Str}, [(("__class__" : Str), cc)].lookup t = some c → t = "__class__" := fun {t} h => by
        simp only [List.lookup] at h
        split at h
        · exact beq_iff_eq.mp (by assumption)
        · cases h
      rw [one h1, one h2]
    · have hy : y = "__class__" := by
        cases i with
        | zero => simpa using z.symm
        | succ n => simp at z
      subst hy
      exact ⟨cc, rfl, fun v h => by cases i <;> simp at h⟩
  refine ks_codeAny_call_defAt (fd := PySem.W.ksFn name qual params (supSt p0 p1 p2 p3 p4 (e :: es) :: rest) scope dV kV doc pm an (.ref cda) ct cc) (body := supSt p0 p1 p2 p3 p4 (e :: es) :: rest) (binds := ps.zip us) hr.depth (KX _ _ lk) rfl lim (PySem.W.codeRec_of KX hcd) rfl hb S.nocell (fun ⟨n, _⟩ hy => S.par n (List.of_mem_zip hy).1) (fun h₁ hns kp => ?_) S.co S.gen S.kind
  obtain ⟨ta, tr, a, dx, fs, us0, Ei, hpa, hps, hpass, ev, ha, hq⟩ := hbody A outer s H vs Q E (hr.deeper _) asked
  subst ev
  have I : Inv (ncx CX P w K mg base N ⟨name, qual, params, supSt p0 p1 p2 p3 p4 (e :: es) :: rest, scope, [("__class__", cc)], cda⟩ f A outer s H E) [] (startF N (.ref a :: us0) [none]) H { s with heap := h₁, toks := s.toks + (ps.zip us).length } := inv_startN (F := ⟨name, qual, params, supSt p0 p1 p2 p3 p4 (e :: es) :: rest, scope, [("__class__", cc)], cda⟩) S hr.hd e0 hl r C0 hns kp
  generalize hX : ncx CX P w K mg base N ⟨name, qual, params, supSt p0 p1 p2 p3 p4 (e :: es) :: rest, scope, [("__class__", cc)], cda⟩ f A outer s H E = X at I hpa hps hpass
  have hXr := hX
  subst hX
  have rm := hr.deeper (PySem.W.ksEnv qual scope s.heap.objs.size f (.ref cda) cc)
  show PySem.wpAt (model P w) (A.deeper (PySem.W.ksEnv qual scope s.heap.objs.size f (.ref cda) cc)) (.func (supSt p0 p1 p2 p3 p4 (e :: es) :: rest) (PySem.W.ksEnv qual scope s.heap.objs.size f (.ref cda) cc)) (execs (supSt p0 p1 p2 p3 p4 (e :: es) :: rest) (PySem.W.ksEnv qual scope s.heap.objs.size f (.ref cda) cc)) _ _ _
  refine ks_wpAt_execs_cons (ks_wpAt_Expr_any (ks_wpAt_MethodCall (pl := pl) ?_ (hev _)) (hi _) (hsw _))
  have KI := I.kIn
  refine ks_wpAt_super_base (env := PySem.W.ksEnv qual scope s.heap.objs.size f (.ref cda) cc) hks hkc (by decide) rfl (KI _ _ lk) rfl hpar rfl (KI _ _ hcode) rfl hfv hfile htop ?_
  obtain ⟨mb, hb1, hb2⟩ := I.mod.blt
  refine PySem.W.ks_loadName_global S.kind hks (Calls.loadGlobal_builtin (env := PySem.W.ksEnv qual scope s.heap.objs.size f (.ref cda) cc) (I.mod.glob.keeps I.bk) SC.nosup (hb1.keeps I.bk) ((hb2 "super" (by decide)).trans (by rfl)) ⟨rfl, ?_⟩)
  refine wpAny_loadName_free S.kind hkc rfl ⟨_, KI _ _ hcell, rfl⟩ ?_
  obtain ⟨m, hn, hl'⟩ := I.loc
  obtain ⟨u, ru, lku⟩ := hl' 0 ar.arg (.ref a) hN rfl (.inl hka)
  cases (show u = Value.ref a from ru)
  have hmu : m ar.arg = some (.ref a) := by
    rcases lku with ⟨_, z⟩ | ⟨z, _⟩
    · exact z
    · have hk' : scope.names.lookup ar.arg = some .cell ∨ scope.names.lookup ar.arg = some .free := z
      rw [hka] at hk'
      rcases hk' with z | z <;> cases z
  refine wpAny_loadName_local S.kind hka hn hmu ?_
  obtain ⟨oD, hD1, hD2⟩ : ∃ oD, h₁.get? D = some oD ∧ oD.data = .cls cdD := by
    unfold PySem.W.clsIn at hD
    split at hD
    · rename_i c d cd' sl ho
      cases hD
      exact ⟨_, KI _ _ ho, rfl⟩
    · cases hD
  refine ks_wpAny_isType_cls hD1 hD2 (And.intro rfl ?_)
  obtain ⟨hoa, oda, J⟩ := inst_of' I ha
  refine ks_wpAny_call_super hD1 hD2 J.at_ J.cls (fun c z => ?_) (PySem.W.looks_mroIn KI SC.sub) (fun h2 e2 k2 => ?_)
  · have := J.no
    unfold PySem.W.notCls at this
    rw [z] at this
    exact Bool.noConfusion this
  have I2 := I.kept (h' := h2) (t' := s.toks + (ps.zip us).length) k2
  have K2 := I2.kIn
  obtain ⟨hoa2, oda2, J2⟩ := inst_of' I2 ha
  have sup := SC.sup
  unfold PySem.W.ks_superIn at sup
  cases hc : PySem.W.clsIn K C with
  | none => rw [hc] at sup; cases sup
  | some cdC =>
  rw [hc] at sup
  obtain ⟨og, hog, hogc⟩ : ∃ og, h2.get? g = some og ∧ og.cls = .type "function" := by
    have ht' : (K.lookup g).map (·.cls) = some (.type "function") := SC.tg
    cases z : K.lookup g with
    | none =>
      rw [z] at ht'
      cases ht'
    | some og =>
      rw [z] at ht'
      exact ⟨og, K2 _ _ z, Option.some.inj ht'⟩
  refine ks_wpAny_getMethod_super e2 (PySem.W.looks_opaque K2 SC.opq) (l₀ := cdC.mro) (fun A Q E s k q => wpAny_bind ((PySem.W.looks_clsIn K2 hc) A _ E s k (wpAny_pure q))) rfl K2 sup hog hogc (PySem.W.ks_ne K2 J2 hc) (by decide) ?_
  have I3 : Inv (ncx CX P w K mg base N ⟨name, qual, params, supSt p0 p1 p2 p3 p4 (e :: es) :: rest, scope, [("__class__", cc)], cda⟩ f A outer s H E) [(h2.objs.size, PySem.W.methodObj (.ref g) (.ref a))] (startF N (.ref a :: us0) [none]) H ⟨h2.push (PySem.W.methodObj (.ref g) (.ref a)), s.gens, s.drawn, s.toks + (ps.zip us).length + 1, s.os⟩ :=
    pin_new (s := ⟨h2, s.gens, s.drawn, s.toks + (ps.zip us).length, s.os⟩) I2 (fun _ _ z => Heap.get?_push_of_some _ z) (Nat.le_refl _) (Heap.get?_push_size h2 rfl) (fun v z => nomatch z)
  have hbq : base.get? h2.objs.size = none := base_none I2 (Nat.le_refl _)
  have hL : h2.objs.size ≠ s.heap.objs.size := (I3.pin (h2.objs.size, PySem.W.methodObj (.ref g) (.ref a)) (List.mem_append_right _ List.mem_cons_self)).2.2.1
  refine PySem.W.callWith_M (K := K) (h₀ := base) (first := []) e0.mod.kin (news_at hL hbq (pin_at I3)) List.mem_cons_self SC.fg ?_ (hst _) (hpl _)
  refine wpAny_mono (hpa.run p3 _ _ _ H _ I3 hq) (fun ws s4 h4 => ?_) fun _ _ z => z
  obtain ⟨vs4, H4, I4, r4, q4⟩ := h4
  refine ⟨⟨pin_at I4, I4.kIn⟩, ?_⟩
  have lenq : (Value.ref a :: ws).length = qs.length := by
    have z := G.len _ _ _ _ q4
    rw [← z, List.length_cons, List.length_cons, r4.length]
  have bound := bd s4 (Value.ref a :: ws) I4.kIn (by rw [List.append_nil]; exact lenq)
  rw [List.append_nil] at bound
  have rm' : Room k (A.deeper (PySem.W.ksEnv qual scope s.heap.objs.size f (.ref cda) cc)) := hr.deeper _
  refine wpAny_mono (Q := fun u s' => EP (ncx CX P w K mg base N ⟨name, qual, params, supSt p0 p1 p2 p3 p4 (e :: es) :: rest, scope, [("__class__", cc)], cda⟩ f A outer s H E) [(h2.objs.size, PySem.W.methodObj (.ref g) (.ref a))] (startF N (.ref a :: us0) [none]) (fun _ H2 => tr { nx := fun _ H' => Q .non H', rt := Q } (startF N (.ref a :: us0) [none]) H2) u s')
    (wpAny_call (PySem.W.method_call (pin_at I4) (codeAny_mono (G.run _ _ s4 H4 ⟨Value.ref a :: ws, []⟩ (Value.ref a :: ws) (.ref a :: vs4) _ Ei (rm'.mono hj) I4.env0 bound (.cons rfl r4) q4) fun rr s' back => ?_))) (fun u s5 h5 => ?_) fun _ _ z => z
  · cases rr with
    | error er => exact hpass _ _ _ _ er s' I4 back
    | ok fl =>
      cases fl with
      | ret u => exact I4.after back
      | next => exact back.elim
      | brk => exact back.elim
      | cont => exact back.elim
  · obtain ⟨v5, H5, I5, _, q5⟩ := unpinE h5
    refine PySem.wpAt_of_wpAny ?_
    refine wpAny_mono (hps.run [] _ _ H5 _ I5 q5) (fun fl s' hs => ?_) fun er s' hs => hs
    have last : ∀ {τ : L2.St} {G' : Hp} {x : V} {y : Value}, Inv (ncx CX P w K mg base N ⟨name, qual, params, supSt p0 p1 p2 p3 p4 (e :: es) :: rest, scope, [("__class__", cc)], cda⟩ f A outer s H E) [] τ G' s' → L2.RelV x y → Q x G' → CE outer P w H s Q y s' :=
      fun {_ G' x _} Z rel z => ⟨x, G', Z.os, Z.bare, Z.base, Z.hok, rel, z⟩
    cases fl with
    | next =>
      obtain ⟨_, _, Z, z⟩ := hs
      exact last (x := V.non) (y := Value.none) Z rfl z
    | ret y =>
      obtain ⟨_, _, _, Z, rel, z⟩ := hs
      exact last Z rel z
    | brk => exact hs.elim fun _ ⟨_, _, z⟩ => z.elim
    | cont => exact hs.elim fun _ ⟨_, _, z⟩ => z.elim
end
/-- such a method as the top has written it: cc the cell of its class, cda its code -/
def FunS (K : PySem.W.Frag) (name qual : Str) (st : Stmt) (cc cda f : Addr) (fd : FuncData) : Prop :=
  (∃ (oc : Value) (od : Option Addr) (kV doc pm : Value) (an : Option Addr) (ct : Value) (osl : Array (Option Value)), fd = PySem.W.ksFn name qual (defArgs st) (defBody st) (defScope st) .none kV doc pm an (.ref cda) ct cc ∧
    K.lookup f = some ⟨oc, od, .func fd, osl⟩ ∧ PySem.W.codeIn K (.ref cda) qual = true) ∧ PySem.W.keepIn K (.ref f) = true
theorem FunS.binds {K : PySem.W.Frag} {name qual : Str} {st : Stmt} {cc cda f : Addr} {fd : FuncData} {ps : List Str} (F : FunS K name qual st cc cda f fd)
    (h : ∀ (kV doc pm : Value) (an : Option Addr) (ct : Value) (us : List Value), us.length = ps.length → bindArgs (PySem.W.ksFn name qual (defArgs st) (defBody st) (defScope st) .none kV doc pm an (.ref cda) ct cc) ⟨us, []⟩ = pure (ps.zip us)) : Binds K fd ps [] := by
  obtain ⟨⟨oc, od, kV, doc, pm, an, ct, osl, rfl, _, _⟩, _⟩ := F
  exact .all (h kV doc pm an ct)

/-! ### isinstance of a caught error, with or without fields -/
section
variable {X : Cx}
def rIsY (K : PySem.W.Frag) (a : Addr) (cls : Value) (d : Option Addr) : List V → Hp → VK → Prop := fun xs H Q => ∃ D : Addr, ExcC K D ∧ cls = .ref D ∧ (d = none ∨ ∃ dd fs, d = some dd ∧ H dd = some (.xd fs)) ∧ rIsE K D a xs H Q
theorem call_isY {K : PySem.W.Frag} {a : Addr} {cls : Value} {d : Option Addr} {oe : Obj} {pn : List (Addr × Obj)} (hz : Zc cls d oe) (hf : ∃ vs, oe.data = .fields vs) (hK : X.K = K := by rfl) :
    CallR (X.suite a ((a, oe) :: pn)) (.builtin "isinstance") (rIsY K a cls d) := by
  intro pins s σ H xs us Q I r h
  subst hK
  obtain ⟨D, ec, rfl, hd, h⟩ := h
  rcases hd with rfl | ⟨dd, fs, rfl, hdd⟩
  · exact call_isE ec hz hf pins s σ H xs us Q I r h
  · obtain ⟨c, cv, b, rfl, same, known, q⟩ := h
    obtain ⟨w1, ws, rfl, r1, rs⟩ : ∃ w1 ws, us = w1 :: ws ∧ RelV (.ref a) w1 ∧ Vals [c] ws := by
      cases r with
      | cons p t => exact ⟨_, _, rfl, p, t⟩
    obtain ⟨w2, rfl, r2⟩ : ∃ w2, ws = [w2] ∧ RelV c w2 := by
      cases rs with
      | cons p t =>
        cases t
        exact ⟨_, rfl, p⟩
    cases (show w1 = Value.ref a from r1)
    cases same _ r2
    obtain ⟨there, _⟩ := I.pin (a, oe) (List.mem_append.mpr (.inl List.mem_cons_self))
    obtain ⟨vs, hv⟩ := hf
    obtain ⟨mA, ns, _⟩ := (show ObjOk X.prog X.w H s.heap dd (.xd fs) from I.hok dd _ hdd)
    obtain ⟨od, ho, _⟩ := lookIn_ns ns
    have J : PySem.W.InstAt s.heap a oe D (some od) := ⟨there, hz.1, by unfold PySem.W.notCls; rw [hv] <;> rfl, by rw [hz.2]; exact ho⟩
    have cl : (PySem.W.clsIn X.K D).isSome = true := by
      obtain ⟨cd, hc, _⟩ := PySem.W.any_some ec.hd
      rw [hc]
      rfl
    exact PySem.W.kia_one (PySem.W.kitx_exc cl ec.hg ec.hk ec.hs ec.ha ec.hn ec.ht ec.hm) I.kIn J known (fun z => nomatch z) fun tk => ⟨.bl b, H, I.kept (t' := tk) fun _ _ z => z, rfl, q⟩
end

/-! ### try with several «except C as n» -/
/-- what the clauses wish of an error, one after the other: class, the name's slot, the suite's reading -/
def wAsM (K : PySem.W.Frag) (out : WX) (D : Ends) : List (Value × Nat × (Addr → Value → Option Addr → TS)) → WX
  | [] => out
  | (c, i, t) :: more => fun cls d σ H => ∃ b, PySem.W.exmOne K cls c = some b ∧
      (b = true → ∀ a, H a = none → t a cls d { nx := fun σ' H' => D.nx (σ'.set i none) H', rt := D.rt, bk := fun σ' H' => D.bk (σ'.set i none) H', ct := fun σ' H' => D.ct (σ'.set i none) H' } (σ.set i (some (.ref a))) H) ∧
      (b = false → wAsM K out D more cls d σ H)
inductive ClausesOk (X : Cx) : List ExceptHandler → List (Value × Nat × (Addr → Value → Option Addr → TS)) → Prop
  | nil : ClausesOk X [] []
  | cons {x n : Str} {c : Value} {i : Nat} {t : Addr → Value → Option Addr → TS} {st : Stmt} {sts : List Stmt} {q q' : Pos} {hs : List ExceptHandler} {ls : List (Value × Nat × (Addr → Value → Option Addr → TS))} (known : Names X x c) (slot : X.N[i]? = some n)
      (lo : X.env.kindOf n = some .local) (suite : ∀ (a : Addr) (oe : Obj) (cls : Value) (d : Option Addr) (pn : List (Addr × Obj)), Zc cls d oe → (∃ vs, oe.data = .fields vs) → PSs (X.suite a ((a, oe) :: pn)) (st :: sts) (t a cls d))
      (more : ClausesOk X hs ls) : ClausesOk X (.ExceptHandler (some (.Name x q)) (some n) (st :: sts) q' :: hs) ((c, i, t) :: ls)
  | bare {x : Str} {c : Value} {i : Nat} {t : Addr → Value → Option Addr → TS} {st : Stmt} {sts : List Stmt} {q q' : Pos} {hs : List ExceptHandler} {ls : List (Value × Nat × (Addr → Value → Option Addr → TS))} (known : Names X x c) (off : X.N.length ≤ i)
      (suite : ∀ (a : Addr) (oe : Obj) (cls : Value) (d : Option Addr) (pn : List (Addr × Obj)), Zc cls d oe → (∃ vs, oe.data = .fields vs) → PSs (X.suite a ((a, oe) :: pn)) (st :: sts) (t a cls d))
      (more : ClausesOk X hs ls) : ClausesOk X (.ExceptHandler (some (.Name x q)) none (st :: sts) q' :: hs) ((c, i, t) :: ls)
section
variable {X : Cx} {body : List Stmt} {h1 : ExceptHandler} {hs : List ExceptHandler} {ls : List (Value × Nat × (Addr → Value → Option Addr → TS))} {pos : Pos} {tb : WX → TS} {out : WX}
theorem ps_try_asM (st : X.stack = X.env :: X.outer) (fr : X.env.frame = some X.env.locals) (nd : X.N.Nodup) (tk : Takes X out)
    (runs : ∀ (W : WX) (pn : List (Addr × Obj)) (xe : Value → Shared → Prop), Takes (X.tr pn xe) W → PassesOwn (model X.prog X.w) X.A X.env xe → PSs (X.tr pn xe) body (tb W))
    (cl : ClausesOk X (h1 :: hs) ls) : PS X (.Try body (h1 :: hs) [] [] pos) (fun D σ H => tb (wAsM X.K out D ls) D σ H) := by
  refine ⟨fun pins s σ H D I want => ?_⟩
  have ok := I.ok
  have frames : X.A.frames = some (X.env :: X.outer) := by rw [ok.frames, st]
  refine wpAny_Try_except ?_
  refine wpAny_mono ((runs (wAsM X.K out D ls) (X.pn ++ pins) (fun u t1 => wpAny (model X.prog X.w) X.A (noteFrame u X.env) (fun _ t2 => wpAny (model X.prog X.w) X.A (setFlight u none)
    (fun _ t3 => wpAny (model X.prog X.w) X.A (handleBy u X.env (h1 :: hs)) (SP X pins D) X.xe t3) X.xe t2) X.xe t1) (fun u t0 flown => ?_) PassesOwn.looking).run [] s σ H D (I.toTry _) want) (fun f t0 done => ?_) (fun _ _ y => y)
  · obtain ⟨a, B, sI, pins1, σ1, H1, cls, d, rfl, J0, bare, kept, sky, fresh, osE, agree, wish⟩ := flown
    have J : Inv X pins σ1 H1 sI := J0.ofTry ok
    have sky1 : Sky B (X.env :: X.outer) a (Zc cls d) X.env.locals t0.heap := st ▸ sky
    show wpAny (model X.prog X.w) X.A (noteFrame (.ref a) X.env) _ X.xe t0
    refine Sky.land Zc.steady frames fr sky1 fun g fl up => ?_
    obtain ⟨oe, vs, atE, zE, dataE⟩ := fl.there
    have outF : a ∉ frs (X.env :: X.outer) := fun mem => by
      obtain ⟨_, o, here, no⟩ := fl.2.2.1.mem mem
      cases atE.symm.trans here
      exact no _ dataE
    have nL : a ≠ X.env.locals := fun z => outF (List.mem_filterMap.mpr ⟨X.env, List.mem_cons_self, by rw [fr, z]⟩)
    have nF : a ∉ X.fs := fun mem => outF (by
      obtain ⟨e, m1, m2⟩ := List.mem_filterMap.mp mem
      exact List.mem_filterMap.mpr ⟨e, List.mem_cons_of_mem _ m1, m2⟩)
    have J1 : Inv X pins σ1 H1 { t0 with heap := g } := J.landed bare fl.1 (kept.trans up) osE agree
    have S1 := J1.suite atE dataE fresh nL nF
    have go : ∀ {hh : List ExceptHandler} {ll : List (Value × Nat × (Addr → Value → Option Addr → TS))}, ClausesOk X hh ll → wAsM X.K out D ll cls d σ1 H1 → wpAny (model X.prog X.w) X.A (handleBy (.ref a) X.env hh) (SP X pins D) X.xe { t0 with heap := g } := by
      intro hh ll cc
      induction cc with
      | nil =>
        intro fly
        refine wpAny_handleBy_nil ?_
        obtain ⟨_, _, _, o, ws, T, oT, ts, g1, g2, g3, g4, _⟩ := id fl
        unfold PySem.passOn
        refine wpAny_bind (wpAny_field g1 g3 g4 ?_)
        rw [if_neg (by simp : ¬ ((Value.ref T == Value.none) = true))]
        have on : wpAny (model X.prog X.w) X.A (setFlight (.ref a) X.env.frame) (fun _ t4 => wpAny (model X.prog X.w) X.A (throw (.ref a) : Sem Flow) (SP X pins D) X.xe t4) X.xe { t0 with heap := g } := by
          rw [fr]
          exact HandSPX.setFlight_upZ fl fun g' sky' up' => wpAny_throw (tk _ _ ⟨a, B, sI, pins, σ1, H1, cls, d, rfl, J, bare, (kept.trans up).trans up', .inr (.inr (by rw [st]; exact sky')), fresh, osE, agree, fly⟩)
        first
          | exact wpAny_bind (wpAny_pure (wpAny_bind on))
          | exact wpAny_bind on
      | @cons x n c i t b₀ bs q q' hs' ls' known slot lo suite more ih =>
        intro w1
        obtain ⟨b, asked, yes, no⟩ := w1
        refine wpAny_handleBy_cons (codeAny_handlers_test ?_) (fun z => by cases z)
        have typ : PySem.W.Looks (model X.prog X.w) g (typeOf (.ref a)) cls := fun _ _ _ _ k z => wpAny_typeOf_ref (k _ _ atE) (by rw [zE.1]; exact z)
        have name : ∀ {Q : Value → Shared → Prop} {E : Value → Shared → Prop}, Q c { t0 with heap := g } → wpAny (model X.prog X.w) (X.A.mark (some (.ref a))) (eval (.Name x q) X.env) Q E { t0 with heap := g } := fun {Q E} z => by
          obtain ⟨k1, k2, k3 | ⟨k3, k4, k5⟩⟩ := known
          · exact ld_glob (X := X.suite a ((a, oe) :: (X.pn ++ pins))) S1 k1 k3 z k2
          · exact ld_blt (X := X.suite a ((a, oe) :: (X.pn ++ pins))) S1 k1 k3 k4 z k5 k2
        refine name ((PySem.W.exm_one (M := model X.prog X.w) J1.kIn typ asked).here ?_)
        cases b with
        | false => exact ih (no rfl)
        | true =>
          refine codeAny_handlers_suite_as (HandSPX.lands_againZ fl fun g' fl' up' => ?_)
          obtain ⟨oe', ws, atE', zE', dataE'⟩ := fl'.there
          have J2 : Inv X pins σ1 H1 { t0 with heap := g' } := J.landed bare fl'.1 ((kept.trans up).trans up') osE agree
          have S2 := J2.suite atE' dataE' fresh nL nF
          refine store_ok (X := X.suite a ((a, oe') :: (X.pn ++ pins))) (v := .ref a) S2 nd slot (.inl lo) rfl (fun t5 S5 => ?_) (.inr lo)
          refine wpAny_mono ((suite a oe' cls d (X.pn ++ pins) zE' ⟨_, dataE'⟩).run [] t5 _ H1 _ S5 (yes rfl a fresh)) (fun f t6 done => ?_) (fun _ _ z => z.elim)
          have gone : ∀ {σ6 : L2.St} {H6 : Hp} {Q : Shared → Prop}, Inv (X.suite a ((a, oe') :: (X.pn ++ pins))) [] σ6 H6 t6 → (∀ t7, Inv X pins (σ6.set i none) H6 t7 → Q t7) →
              wpAny (model X.prog X.w) X.A (do bindName X.env n .none; unbindBehindTheSuite X.env n q') (fun _ t7 => Q t7) X.xe t6 := fun S6 z => gone_ok (S6.unsuite ok) nd slot lo z
          cases f with
          | ret u =>
            obtain ⟨v6, σ6, H6, S6, r6, q6⟩ := done
            exact gone S6 fun _ J7 => ⟨_, _, _, J7, r6, q6⟩
          | next =>
            obtain ⟨_, _, S6, q6⟩ := done
            exact gone S6 fun _ J7 => ⟨_, _, J7, q6⟩
          | brk =>
            obtain ⟨_, _, S6, q6⟩ := done
            exact gone S6 fun _ J7 => ⟨_, _, J7, q6⟩
          | cont =>
            obtain ⟨_, _, S6, q6⟩ := done
            exact gone S6 fun _ J7 => ⟨_, _, J7, q6⟩
      | @bare x c i t b₀ bs q q' hs' ls' known off suite more ih =>
        intro w1
        obtain ⟨b, asked, yes, no⟩ := w1
        refine wpAny_handleBy_cons (codeAny_handlers_test ?_) (fun z => by cases z)
        have typ : PySem.W.Looks (model X.prog X.w) g (typeOf (.ref a)) cls := fun _ _ _ _ k z => wpAny_typeOf_ref (k _ _ atE) (by rw [zE.1]; exact z)
        have name : ∀ {Q : Value → Shared → Prop} {E : Value → Shared → Prop}, Q c { t0 with heap := g } → wpAny (model X.prog X.w) (X.A.mark (some (.ref a))) (eval (.Name x q) X.env) Q E { t0 with heap := g } := fun {Q E} z => by
          obtain ⟨k1, k2, k3 | ⟨k3, k4, k5⟩⟩ := known
          · exact ld_glob (X := X.suite a ((a, oe) :: (X.pn ++ pins))) S1 k1 k3 z k2
          · exact ld_blt (X := X.suite a ((a, oe) :: (X.pn ++ pins))) S1 k1 k3 k4 z k5 k2
        refine name ((PySem.W.exm_one (M := model X.prog X.w) J1.kIn typ asked).here ?_)
        cases b with
        | false => exact ih (no rfl)
        | true =>
          refine codeAny_handlers_suite (HandSPX.lands_againZ fl fun g' fl' up' => ?_)
          obtain ⟨oe', ws, atE', zE', dataE'⟩ := fl'.there
          have J2 : Inv X pins σ1 H1 { t0 with heap := g' } := J.landed bare fl'.1 ((kept.trans up).trans up') osE agree
          have S2 := J2.suite atE' dataE' fresh nL nF
          have w2 := yes rfl a fresh
          have l1 : σ1.length = X.N.length := J2.len
          rw [List.set_eq_of_length_le (by omega)] at w2
          refine wpAny_mono ((suite a oe' cls d (X.pn ++ pins) zE' ⟨_, dataE'⟩).run [] _ _ H1 _ S2 w2) (fun f t6 done => ?_) (fun _ _ z => z.elim)
          have off6 : ∀ {σ6 : L2.St} {H6 : Hp}, Inv (X.suite a ((a, oe') :: (X.pn ++ pins))) [] σ6 H6 t6 → σ6.set i none = σ6 := fun {σ6 _} S6 => by
            have l6 : σ6.length = X.N.length := S6.len
            exact List.set_eq_of_length_le (by omega)
          cases f with
          | ret u =>
            obtain ⟨v6, σ6, H6, S6, r6, q6⟩ := done
            exact ⟨_, _, _, S6.unsuite ok, r6, q6⟩
          | next =>
            obtain ⟨σ6, H6, S6, q6⟩ := done
            have q6 : D.nx (σ6.set i none) H6 := q6
            rw [off6 S6] at q6
            exact ⟨_, _, S6.unsuite ok, q6⟩
          | brk =>
            obtain ⟨σ6, H6, S6, q6⟩ := done
            have q6 : D.bk (σ6.set i none) H6 := q6
            rw [off6 S6] at q6
            exact ⟨_, _, S6.unsuite ok, q6⟩
          | cont =>
            obtain ⟨σ6, H6, S6, q6⟩ := done
            have q6 : D.ct (σ6.set i none) H6 := q6
            rw [off6 S6] at q6
            exact ⟨_, _, S6.unsuite ok, q6⟩
    exact go cl wish
  · cases f with
    | ret u =>
      obtain ⟨v, _, _, J1, r1, q1⟩ := done
      exact ⟨v, _, _, J1.ofTry ok, r1, q1⟩
    | next =>
      obtain ⟨_, _, J1, q1⟩ := done
      exact wpAny_execs_nil ⟨_, _, J1.ofTry ok, q1⟩
    | brk =>
      obtain ⟨_, _, J1, q1⟩ := done
      exact ⟨_, _, J1.ofTry ok, q1⟩
    | cont =>
      obtain ⟨_, _, J1, q1⟩ := done
      exact ⟨_, _, J1.ofTry ok, q1⟩
end

/-! ### errors of two fields -/
/-- the heap behind C(x, y), where __init__ stores both -/
def errH (H : Hp) (a C dx : Addr) (f g : Str) (x y : V) : Hp := upd (upd (upd H dx (exd dx [(f, x)])) a (exo a C (some dx))) dx (exd dx [(g, y), (f, x)])
theorem raise2 {C : Addr} {f g : Str} {x y : V} {H : Hp} {Q : XK} (hq : ∀ d, H d = none → Q (.ref C) (some d) (upd H d (.xd [(g, y), (f, x)]))) {a dx : Addr} (na : H a = none) (nd : upd H a (exo a C none) dx = none) (ne : dx ≠ a) :
    V.non = .non ∧ ∃ (d : Addr) (fs : List (Str × V)), errH (upd H a (exo a C none)) a C dx f g x y a = some (exo a C (some d)) ∧ errH (upd H a (exo a C none)) a C dx f g x y d = some (exd d fs) ∧ H d = none ∧
      Q (.ref C) (some d) (upd (del (errH (upd H a (exo a C none)) a C dx f g x y) a) d (.xd fs)) := by
  rw [upd_ne ne] at nd
  refine ⟨rfl, dx, _, ?_, upd_same, nd, ?_⟩
  · unfold errH
    rw [upd_ne (Ne.symm ne), upd_same]
  · have e : upd (del (errH (upd H a (exo a C none)) a C dx f g x y) a) dx (.xd [(g, y), (f, x)]) = upd H dx (.xd [(g, y), (f, x)]) := by
      funext b
      by_cases h1 : b = dx
      · rw [h1, upd_same, upd_same]
      · rw [upd_ne h1, upd_ne h1]
        by_cases h2 : b = a
        · rw [h2, del_same, na]
        · rw [del_ne h2]
          unfold errH
          rw [upd_ne h1, upd_ne h2, upd_ne h1, upd_ne h2]
    rw [e]
    exact hq dx nd
/-- the first weight below 1, from place i on -/
def badAt : List Int → Nat → Option Nat
  | [], _ => none
  | n :: r, i => if n < 1 then some i else badAt r (i + 1)

/-- the fields of a Weighted -/
def fW (m aside : Int) (t : Addr) : List (Str × V) := putF "aside" (.int aside) (putF "weights" (.ref t) (putF "many" (.int m) []))
/-- nothing but the object at p is another -/
def SameX (p : Addr) (H H' : Hp) : Prop := ∀ b o, b ≠ p → H b = some o → H' b = some o
theorem SameX.trans {p : Addr} {H H' H2 : Hp} (h : SameX p H H') (k : SameX p H' H2) : SameX p H H2 := fun b o n z => k b o n (h b o n z)
theorem SameX.new {p : Addr} {H : Hp} {a : Addr} {o : HO} (n : H a = none) : SameX p H (upd H a o) := fun b u _ z => (upd_ne (ne_of_none z n)).trans z
theorem SameX.put {p : Addr} {H : Hp} {o : HO} : SameX p H (upd H p o) := fun b u n z => (upd_ne n).trans z

/-- the first number below b, from place i on -/
def lowAt (b : Int) : List Int → Nat → Option Nat
  | [], _ => none
  | n :: r, i => if n < b then some i else lowAt b r (i + 1)
theorem low_bad : ∀ (ns : List Int) (i : Nat), lowAt 1 ns i = badAt ns i
  | [], _ => rfl
  | n :: r, i => by
    unfold lowAt badAt
    rw [low_bad r (i + 1)]

theorem same_sx {p : Addr} {H H' : Hp} (h : Same H H') : SameX p H H' := fun b o _ z => h b o z
/-- not too long to divide by -/
def Sm (b : Int) : Prop := ∃ n, 0 < n ∧ n ≤ 8000 ∧ b.natAbs < 2 ^ n
theorem sm_of {b : Int} {n : Nat} (h : b.natAbs < 2 ^ n) (h0 : 0 < n := by decide) (hn : n ≤ 8000 := by decide) : Sm b := ⟨n, h0, hn, h⟩
theorem Sm.le {a b : Int} (h : Sm b) (hl : a.natAbs ≤ b.natAbs) : Sm a := by
  obtain ⟨n, h0, h1, h2⟩ := h
  exact ⟨n, h0, h1, Nat.lt_of_le_of_lt hl h2⟩
theorem Sm.log {a : Int} (h : Sm a) : a.natAbs.log2 < 8000 := by
  obtain ⟨n, h0, h1, h2⟩ := h
  exact Nat.lt_of_lt_of_le (PySem.Flt.log2_lt_of h0 h2) h1
theorem Sm.mul {a b : Int} (h : Sm a) (h' : Sm b) : CMulW a b := by
  have x := h.log
  have y := h'.log
  unfold CMulW
  omega
theorem bit_one (x : Int) : Builtin.bitAnd x 1 = x % 2 := by
  have h := PySem.W.kbt_mask x 1
  exact h

/-! ### super().m(e, ..) in a method's own block, anywhere: statements that know the code they stand in -/
structure PEA (X : Cx) (c : Code) (e : Expr) (t : TE) : Prop where
  run : ∀ (pins : List (Addr × Obj)) (s : Shared) (σ : L2.St) (H : Hp) (Q : VK), Inv X pins σ H s → t σ H Q → PySem.wpAt (model X.prog X.w) X.A c (eval e X.env) (EP X pins σ Q) X.xe s
structure PSA (X : Cx) (c : Code) (st : Stmt) (t : TS) : Prop where
  run : ∀ (pins : List (Addr × Obj)) (s : Shared) (σ : L2.St) (H : Hp) (D : Ends), Inv X pins σ H s → t D σ H → PySem.wpAt (model X.prog X.w) X.A c (exec st X.env) (SP X pins D) X.xe s
structure PSAs (X : Cx) (c : Code) (st : List Stmt) (t : TS) : Prop where
  run : ∀ (pins : List (Addr × Obj)) (s : Shared) (σ : L2.St) (H : Hp) (D : Ends), Inv X pins σ H s → t D σ H → PySem.wpAt (model X.prog X.w) X.A c (execs st X.env) (SP X pins D) X.xe s
section
variable {X : Cx} {c : Code} {e b : Expr} {rest' : List Expr} {st : Stmt} {rest : List Stmt} {t u : TS} {te tb : TE} {pos : Pos}
theorem pea_pe (h : PE X e te) : PEA X c e te := ⟨fun pins s σ H Q I q => PySem.wpAt_of_wpAny (h.run pins s σ H Q I q)⟩
theorem psa_ps (h : PS X st t) : PSA X c st t := ⟨fun pins s σ H D I q => PySem.wpAt_of_wpAny (h.run pins s σ H D I q)⟩
theorem psas_pss (h : PSs X rest t) : PSAs X c rest t := ⟨fun pins s σ H D I q => PySem.wpAt_of_wpAny (h.run pins s σ H D I q)⟩
theorem psas_cons (h1 : PSA X c st t) (h2 : PSAs X c rest u) : PSAs X c (st :: rest) (tSeq t u) := by
  refine ⟨fun pins s σ H D I h => ?_⟩
  refine ks_wpAt_execs_cons (ks_wpAt_mono (h1.run pins s σ H { D with nx := u D } I h) (fun f s1 q => ?_) fun _ _ x => x)
  cases f with
  | next =>
    obtain ⟨σ', H', I', q⟩ := q
    exact h2.run pins s1 σ' H' D I' q
  | ret v => exact q
  | brk => exact q
  | cont => exact q
theorem psas_one (h : PSA X c st t) : PSAs X c [st] t := by
  refine ⟨fun pins s σ H D I q => ?_⟩
  refine ks_wpAt_execs_cons (ks_wpAt_mono (h.run pins s σ H D I q) (fun f s1 q => ?_) fun _ _ x => x)
  cases f with
  | next => exact PySem.wpAt_of_wpAny (wpAny_execs_nil q)
  | ret v => exact q
  | brk => exact q
  | cont => exact q
theorem psa_expr (he : PEA X c e te) (hi : interactive X.env = false := by rfl) (hs : swapsWith e none pos.line X.env = pure false := by rfl) : PSA X c (.Expr e pos) (tDrop te) := by
  refine ⟨fun pins s σ H D I h => ?_⟩
  exact ks_wpAt_Expr_any (ks_wpAt_mono (he.run pins s σ H _ I h) (fun v s1 ⟨x, H1, I1, r1, q1⟩ => ⟨σ, H1, I1, q1⟩) fun _ _ x => x) hi hs
theorem psa_ret (he : PEA X c e te) : PSA X c (.Return (some e) pos) (tRet te) := by
  refine ⟨fun pins s σ H D I h => ?_⟩
  exact ks_wpAt_Return_some (ks_wpAt_mono (he.run pins s σ H _ I h) (fun v s1 ⟨x, H1, I1, r1, q1⟩ => ⟨x, σ, H1, I1, r1, q1⟩) fun _ _ x => x)
theorem psa_set {i : Nat} {x : Str} {pos' : Pos} (hN : X.N.Nodup) (hi : X.N[i]? = some x) (hx : Loc X.env.scope x) (he : PEA X c e te) (hs : swapsWith e (some (.Name x pos')) pos.line X.env = pure false := by rfl) (hf : X.fn x = true ∨ X.env.scope.names.lookup x = some .local := by first | exact .inl rfl | exact .inr rfl | assumption) :
    PSA X c (.Assign [.Name x pos'] e pos) (tAsg te (gName i)) := by
  refine ⟨fun pins s σ H D I h => ?_⟩
  refine ks_wpAt_Assign_Name (ks_wpAt_mono (he.run pins s σ H _ I h) (fun v s1 ⟨y, H1, I1, r1, q1⟩ => ?_) fun _ _ x => x) hs
  exact store_ok I1 hN hi hx r1 (fun s2 I2 => ⟨_, H1, I2, q1⟩) hf
/-- super().m(..) and more -/
theorem pea_and (ha : PEA X c e te) (hb : PE X (.BoolOp .And (b :: rest') pos) tb) : PEA X c (.BoolOp .And (e :: b :: rest') pos) (tAndV te tb) := by
  refine ⟨fun pins s σ H Q I h => ?_⟩
  show PySem.wpAt _ X.A c (do
    let v ← eval e X.env
    standAt pos
    let d ← holding [v] (truthy v)
    match BoolOp.And, d with
    | .And, false | .Or, true => pure v
    | _, _ => boolOp pos .And (eval b X.env :: evalEach rest' X.env)) _ _ s
  refine PySem.wpAt_bind (ks_wpAt_mono (ha.run pins s σ H _ I h) (fun v s1 ⟨x, H1, I1, r1, q1⟩ => ?_) fun _ _ x => x)
  obtain ⟨d, rfl, q1⟩ := q1
  cases r1
  refine PySem.wpAt_of_wpAny (wpAny_bind (wpAny_standAt (wpAny_bind (wpAny_holding (wpAny_truthy_bool ?_)))))
  cases d with
  | true => exact hb.run pins s1 σ H1 Q I1 q1
  | false => exact wpAny_pure ⟨.bl false, H1, I1, rfl, q1⟩
end
/-- what the top has written of a class D above which super() looks, for an instance of the class C: the function g at the name m -/
structure SupM (K : PySem.W.Frag) (mg : Str → Option Value) (C D cc cda g : Addr) (m file : Str) : Prop where
  isD : ∃ cd, PySem.W.clsIn K D = some cd
  sub : PySem.W.mroIn K C (.ref D) = some true
  cell : ∃ cl cld csl, K.lookup cc = some ⟨cl, cld, .cell (some (.ref D)), csl⟩
  code : ∃ ccl cdd vs ccs tf, K.lookup cda = some ⟨ccl, cdd, .fields vs, ccs⟩ ∧ vs[2]? = some (.str file tf)
  sup : PySem.W.ks_superIn K C D m = some (some (.ref g))
  tg : PySem.W.typeIn K (.ref g) = some (.type "function")
  fg : PySem.W.fnIn K g = true
  opq : PySem.W.nsIn K cStatics "thirdparty.any" = some none
  nosup : mg "super" = none
def tSuper (C : Addr) (si : Sp) (Ei : XK) (ta : TA) : TE := fun σ H Q => ∃ (a dx : Addr) (fs : List (Str × V)), σ[0]? = some (some (.ref a)) ∧ H a = some (.ins C dx fs) ∧ ta σ H fun ws H1 => si (.ref a :: ws) H1 Q Ei
theorem pea_super {CX : CXT} {X : Cx} {body : List Stmt} {f g cc cda C D : Addr} {fd0 gd : FuncData} {oc : Value} {od : Option Addr} {osl : Array (Option Value)} {qs : List Str} {si : Sp} {Ei : XK} {e : Expr} {es : List Expr} {m file : Str} {p0 p1 p2 p3 : Pos} {ar : Arg} {pl : Sem Bool} {ta : TA} {j : Nat}
    (lk : X.K.lookup f = some ⟨oc, od, .func fd0, osl⟩) (SC : SupM X.K X.mg C D cc cda g m file) (hfile : ((X.prog.main.file : Str) == file) = true) (htop : (X.prog.main.scope.names.lookup ("super" : Str)).isSome = false) (hpar : (fd0.params.posonlyargs ++ fd0.params.args).head? = some ar) (hN : X.N[0]? = some ar.arg)
    (hkind : X.env.scope.kind = .function) (hka : X.env.scope.names.lookup ar.arg = some .local) (hks : X.env.scope.names.lookup ("super" : Str) = some .globalImplicit) (hkc : X.env.scope.names.lookup ("__class__" : Str) = some .free) (hfu : X.env.func = some f) (hco : X.env.code = .ref cda) (hcl : X.env.cells.lookup ("__class__" : Str) = some cc) (hgl : X.env.globals = mainGlobals) (hbn : X.env.builtins = builtinsNs)
    (G : FnOk X.prog X.w X.K X.mg X.base CX j g gd qs si) (bd : Binds X.K gd qs []) (hr : Room j X.A) (hpass : Passes CX X Ei) (hpa : PA X (e :: es) ta) (hm : (m == ("__class__" : Str)) = false)
    (hev : eval (.Call (.Attribute (.Call (.Name "super" p0) [] [] p1) m p2) (e :: es) [] p3) X.env = (do
      let ov ← attributeBase (.Call (.Name "super" p0) [] [] p1) m X.env (eval (.Call (.Name "super" p0) [] [] p1) X.env)
      standAt p2.atName
      let (f', first) ← holding [ov] (getMethod ov m pl)
      callWith p3 f' first (backTo p3 (starEach (e :: es) X.env)) []))
    (hst : starEach (e :: es) X.env = (false, eval e X.env) :: starEach es X.env) (hpl : (backTo p3 (starEach es X.env)).any (·.1) = false) :
    PEA X (.func body X.env) (.Call (.Attribute (.Call (.Name "super" p0) [] [] p1) m p2) (e :: es) [] p3) (tSuper C si Ei ta) := by
  refine ⟨fun pins s σ H Q I h => ?_⟩
  obtain ⟨a, dx, fs, h0, ha, hq⟩ := h
  obtain ⟨cl, cld, csl, hcell⟩ := SC.cell
  obtain ⟨ccl, cdd, fv, ccs, tf, hcode, hfv⟩ := SC.code
  obtain ⟨cdD, hD⟩ := SC.isD
  refine ks_wpAt_MethodCall (pl := pl) ?_ hev
  have KI := I.kIn
  refine ks_wpAt_super_base hks hkc hm hfu (KI _ _ lk) rfl hpar hco (KI _ _ hcode) rfl hfv hfile htop ?_
  obtain ⟨mb, hb1, hb2⟩ := I.mod.blt
  refine PySem.W.ks_loadName_global hkind hks (Calls.loadGlobal_builtin (env := X.env) (mg := X.mg) (by rw [hgl]; exact I.mod.glob.keeps I.bk) SC.nosup (by rw [hbn]; exact hb1.keeps I.bk) ((hb2 "super" (by decide)).trans (by rfl)) ⟨rfl, ?_⟩)
  refine wpAny_loadName_free hkind hkc hcl ⟨_, KI _ _ hcell, rfl⟩ ?_
  obtain ⟨mm, hn, hl'⟩ := I.loc
  obtain ⟨u, ru, lku⟩ := hl' 0 ar.arg (.ref a) hN h0 (.inl hka)
  cases (show u = Value.ref a from ru)
  have hmu : mm ar.arg = some (.ref a) := by
    rcases lku with ⟨_, z⟩ | ⟨z, _⟩
    · exact z
    · have hk' : X.env.scope.names.lookup ar.arg = some .cell ∨ X.env.scope.names.lookup ar.arg = some .free := z
      rw [hka] at hk'
      rcases hk' with z | z <;> cases z
  refine wpAny_loadName_local hkind hka hn hmu ?_
  obtain ⟨oD, hD1, hD2⟩ : ∃ oD, s.heap.get? D = some oD ∧ oD.data = .cls cdD := by
    unfold PySem.W.clsIn at hD
    split at hD
    · rename_i c d cd' sl ho
      cases hD
      exact ⟨_, KI _ _ ho, rfl⟩
    · cases hD
  obtain ⟨hh, gg, dd, tt, oo⟩ := s
  refine ks_wpAny_isType_cls hD1 hD2 (And.intro rfl ?_)
  obtain ⟨hoa, oda, J⟩ := inst_of' I ha
  refine ks_wpAny_call_super hD1 hD2 J.at_ J.cls (fun c z => ?_) (PySem.W.looks_mroIn KI SC.sub) (fun h2 e2 k2 => ?_)
  · have := J.no
    unfold PySem.W.notCls at this
    rw [z] at this
    exact Bool.noConfusion this
  have I2 := I.kept (h' := h2) (t' := tt) k2
  have K2 := I2.kIn
  obtain ⟨hoa2, oda2, J2⟩ := inst_of' I2 ha
  have sup := SC.sup
  unfold PySem.W.ks_superIn at sup
  cases hc : PySem.W.clsIn X.K C with
  | none => rw [hc] at sup; cases sup
  | some cdC =>
  rw [hc] at sup
  obtain ⟨og, hog, hogc⟩ : ∃ og, h2.get? g = some og ∧ og.cls = .type "function" := by
    have ht' : (X.K.lookup g).map (·.cls) = some (.type "function") := SC.tg
    cases z : X.K.lookup g with
    | none =>
      rw [z] at ht'
      cases ht'
    | some og =>
      rw [z] at ht'
      exact ⟨og, K2 _ _ z, Option.some.inj ht'⟩
  refine ks_wpAny_getMethod_super e2 (PySem.W.looks_opaque K2 SC.opq) (l₀ := cdC.mro) (fun A Q E s k q => wpAny_bind ((PySem.W.looks_clsIn K2 hc) A _ E s k (wpAny_pure q))) rfl K2 sup hog hogc (PySem.W.ks_ne K2 J2 hc) hm ?_
  have I3 : Inv X ((h2.objs.size, PySem.W.methodObj (.ref g) (.ref a)) :: pins) σ H ⟨h2.push (PySem.W.methodObj (.ref g) (.ref a)), gg, dd, tt + 1, oo⟩ :=
    pin_new (s := ⟨h2, gg, dd, tt, oo⟩) I2 (fun _ _ z => Heap.get?_push_of_some _ z) (Nat.le_refl _) (Heap.get?_push_size h2 rfl) (fun v z => nomatch z)
  have hbq : X.base.get? h2.objs.size = none := base_none I2 (Nat.le_refl _)
  have hL : h2.objs.size ≠ X.env.locals := (I3.pin (h2.objs.size, PySem.W.methodObj (.ref g) (.ref a)) (List.mem_append_right _ List.mem_cons_self)).2.2.1
  refine PySem.W.callWith_M (K := X.K) (h₀ := X.base) (first := []) I.mod.kin (news_at hL hbq (pin_at I3)) List.mem_cons_self SC.fg ?_ hst hpl
  refine wpAny_mono (hpa.run p3 _ _ _ H _ I3 hq) (fun ws s4 h4 => ?_) fun _ _ z => z
  obtain ⟨vs4, H4, I4, r4, q4⟩ := h4
  refine ⟨⟨pin_at I4, I4.kIn⟩, ?_⟩
  have lenq : (Value.ref a :: ws).length = qs.length := by
    have z := G.len _ _ _ _ q4
    rw [← z, List.length_cons, List.length_cons, r4.length]
  have bound := bd s4 (Value.ref a :: ws) I4.kIn (by rw [List.append_nil]; exact lenq)
  rw [List.append_nil] at bound
  refine wpAny_mono (Q := fun u s' => EP X ((h2.objs.size, PySem.W.methodObj (.ref g) (.ref a)) :: pins) σ Q u s')
    (wpAny_call (PySem.W.method_call (pin_at I4) (codeAny_mono (G.run _ _ s4 H4 ⟨Value.ref a :: ws, []⟩ (Value.ref a :: ws) (.ref a :: vs4) _ Ei hr I4.env0 bound (.cons rfl r4) q4) fun rr s' back => ?_))) (fun u s5 h5 => unpinE h5) fun _ _ z => z
  cases rr with
  | error er => exact hpass _ _ _ _ er s' I4 back
  | ok fl =>
    cases fl with
    | ret u => exact I4.after back
    | next => exact back.elim
    | brk => exact back.elim
    | cont => exact back.elim
/-- a method whose block says super() somewhere -/
theorem fn_at {CX : CXT} {P : Program} {w : World} {K : PySem.W.Frag} {mg : Str → Option Value} {base : Heap} {k : Nat} {f cc cda : Addr} {name qual : Str} {params : Arguments} {scope : Scope} {dV kV doc pm ct oc : Value} {an od : Option Addr}
    {osl : Array (Option Value)} {N ps : List Str} {sp : Sp} {body : List Stmt} {D : Addr} (lk : K.lookup f = some ⟨oc, od, .func (PySem.W.ksFn name qual params body scope dV kV doc pm an (.ref cda) ct cc), osl⟩) (hcd : PySem.W.codeIn K (.ref cda) qual = true) (S : NScope N ps ["__class__"] scope)
    (cell : ∃ cl cld csl, K.lookup cc = some ⟨cl, cld, .cell (some (.ref D)), csl⟩) (len : ∀ vs H Q E, sp vs H Q E → vs.length = ps.length)
    (hbody : ∀ (A : Around) (outer : List Env) (s : Shared) (H : Hp) (vs : List V) (Q : VK) (E : XK), Room k (A.deeper (PySem.W.ksEnv qual scope s.heap.objs.size f (.ref cda) cc)) → sp vs H Q E →
      ∃ t, PSAs (ncx CX P w K mg base N ⟨name, qual, params, body, scope, [("__class__", cc)], cda⟩ f A outer s H E) (.func body (PySem.W.ksEnv qual scope s.heap.objs.size f (.ref cda) cc)) body t ∧ t { nx := fun _ H' => Q .non H', rt := Q } (startF N vs [none]) H) :
    FnOk P w K mg base CX (k + 1) f (PySem.W.ksFn name qual params body scope dV kV doc pm an (.ref cda) ct cc) ps sp := by
  refine ⟨len, fun A outer s H args us vs Q E hr e0 hb r asked => ?_⟩
  have hl := len _ _ _ _ asked
  have kb : ∀ b o, base.get? b = some o → s.heap.get? b = some o := fun b o z => (e0.bs b o z).1
  have KX : K.In s.heap := e0.mod.kin.keeps kb
  have lim : s.heap.NoLimit := e0.mod.nolimit.keeps kb
  obtain ⟨cl, cld, csl, hcell⟩ := cell
  have C0 : CellsAt [("__class__", cc)] ["__class__"] [none] s.heap H := by
    refine ⟨rfl, fun y c z => ?_, fun y z c h1 h2 => ?_, fun i y z => ?_⟩
    · have hc : c = cc := by
        simp only [List.lookup] at z
        split at z
        · exact (Option.some.inj z).symm
        · cases z
      subst hc
      exact ⟨(e0.bs _ _ (e0.mod.kin _ _ hcell)).2, _, _, KX _ _ hcell, rfl⟩
    · have one : ∀ {t : Str}, [(("__class__" : Str), cc)].lookup t = some c → t = "__class__" := fun {t} h => by
        simp only [List.lookup] at h
        split at h
        · exact beq_iff_eq.mp (by assumption)
        · cases h
      rw [one h1, one h2]
    · have hy : y = "__class__" := by
        cases i with
        | zero => simpa using z.symm
        | succ n => simp at z
      subst hy
      exact ⟨cc, rfl, fun v h => by cases i <;> simp at h⟩
  refine ks_codeAny_call_defAt (fd := PySem.W.ksFn name qual params body scope dV kV doc pm an (.ref cda) ct cc) (body := body) (binds := ps.zip us) hr.depth (KX _ _ lk) rfl lim (PySem.W.codeRec_of KX hcd) rfl hb S.nocell (fun ⟨n, _⟩ hy => S.par n (List.of_mem_zip hy).1) (fun h₁ hns kp => ?_) S.co S.gen S.kind
  obtain ⟨t, hps, hq⟩ := hbody A outer s H vs Q E (hr.deeper _) asked
  have I : Inv (ncx CX P w K mg base N ⟨name, qual, params, body, scope, [("__class__", cc)], cda⟩ f A outer s H E) [] (startF N vs [none]) H { s with heap := h₁, toks := s.toks + (ps.zip us).length } := inv_startN (F := ⟨name, qual, params, body, scope, [("__class__", cc)], cda⟩) S hr.hd e0 hl r C0 hns kp
  refine ks_wpAt_mono (hps.run [] _ _ H _ I hq) (fun fl s' hs => ?_) fun er s' hs => hs
  have last : ∀ {τ : L2.St} {G' : Hp} {x : V} {y : Value}, Inv (ncx CX P w K mg base N ⟨name, qual, params, body, scope, [("__class__", cc)], cda⟩ f A outer s H E) [] τ G' s' → L2.RelV x y → Q x G' → CE outer P w H s Q y s' :=
    fun {_ G' x _} Z rel z => ⟨x, G', Z.os, Z.bare, Z.base, Z.hok, rel, z⟩
  cases fl with
  | next =>
    obtain ⟨_, _, Z, z⟩ := hs
    exact last (x := V.non) (y := Value.none) Z rfl z
  | ret y =>
    obtain ⟨_, _, _, Z, rel, z⟩ := hs
    exact last Z rel z
  | brk => exact hs.elim fun _ ⟨_, _, z⟩ => z.elim
  | cont => exact hs.elim fun _ ⟨_, _, z⟩ => z.elim
/-- tuple(x) within a comprehension: its reading without the context -/
def rTupOf (K : PySem.W.Frag) : List V → Hp → VK → Prop := fun xs H Q => ∃ p ys, xs = [V.ref p] ∧ ((SqL K H p ys ∧ ∀ l, H l = none → Q (.ref l) (upd H l (.tup ys))) ∨ (SqT K H p ys ∧ Q (.ref p) H))

/-! ### first, *rest = a list -/
section
open PySem PySem.Spec PySem.W PySem.Calls PyProof.Rows
variable {prog : Program} {w : World} {A : Around} {E : Value → Shared → Prop} {s : Shared}
theorem star_items {l : Addr} {items : Array Value} {y : Value} {ys : List Value} {Q : List Value → Shared → Prop} (hl : s.heap.IsList l items) (hh : A.handled = none) (e : items.toList = y :: ys) (hz : ys.length ≤ 1000)
    (h : ∀ (h' : Heap) (tk : Nat), (∀ b o, s.heap.get? b = some o → h'.get? b = some o) → Q [y, .ref h'.objs.size] { s with heap := h'.push { cls := .type "list", data := .seq ys.toArray }, toks := tk }) : wpAny (model prog w) A (unpackItems (.ref l) 2 (some 1)) Q E s := by
  have sz : items.size = ys.length + 1 := by
    rw [← Array.length_toList, e, List.length_cons]
  have hlt : l ≠ s.heap.objs.size := by
    obtain ⟨o, ho, _⟩ := hl
    exact Nat.ne_of_lt (Heap.lt_size ho)
  unfold unpackItems
  refine wpAny_bind ?_
  unfold notIterableAtAll
  refine wpAny_bind (wpAny_specialOf hl.typeIs slot_list_iter.lookup (wpAny_pure ?_))
  simp only [Bool.false_eq_true, if_false]
  refine wpAny_bind (wpAny_holding (wpAny_pyIter_list hl ?_))
  refine wpAny_bind (wpAny_holding (kun_draw hlt 1 0 _ _ ⟨_, Heap.get?_push_size _ rfl, rfl, rfl⟩ (hl.push _) (by omega) fun h1 it1 sb => ?_))
  have hl1 : h1.IsList l items := (hl.push _).extBut sb.extBut hlt
  have li : s.heap.objs.size < h1.objs.size := by
    obtain ⟨o, ho, _⟩ := it1
    exact Heap.lt_size ho
  have ll : l < h1.objs.size := by
    obtain ⟨o, ho, _⟩ := hl1
    exact Heap.lt_size ho
  rw [List.drop_zero, e]
  show wpAny _ _ (if (1 : Nat) < 1 then _ else _) _ _ _
  rw [if_neg (by decide)]
  refine wpAny_bind (wpAny_holding (kun_collect (s := { s with heap := h1 }) (T := "list_iterator") (.inr (.inr (.inl rfl))) (Walks.list (A := A.in1) hh s.heap.objs.size l hlt items) (fun j u st => st.1.typeIs) (k := 1) (by omega) ⟨it1, hl1⟩ li ll (fun h2 tk hk => ?_) (by rw [sizeLine_eq]; omega)))
  rw [e]
  show wpAny _ _ (if ys.length < 0 then _ else _) _ _ _
  rw [if_neg (Nat.not_lt_zero _)]
  show wpAny _ _ (newList (ys.take ys.length) >>= fun d => pure ([y] ++ [d] ++ ys.drop ys.length)) _ _ _
  rw [List.take_length, List.drop_length]
  refine wpAny_bind (wpAny_newList (wpAny_pure ?_) (by rw [sizeLine_eq]; omega))
  exact h h2 tk fun b o q => hk b o (Nat.ne_of_lt (Heap.lt_size q)) (sb.extBut b o (Nat.ne_of_lt (Heap.lt_size q)) (Heap.get?_push_of_some _ q))
end
section
variable {X : Cx} {pos : Pos}
def gSt1 (K : PySem.W.Frag) (t u : TG) : TG := fun v σ H Q => ∃ (a : Addr) (x : V) (xs : List V), v = .ref a ∧ SqL K H a (x :: xs) ∧ xs.length ≤ 1000 ∧ ∀ D, H D = none → t x σ (upd H D (.lst xs)) fun σ' H' => u (.ref D) σ' H' Q
theorem pg_st1 {e1 e2 : Expr} {p2 : Pos} {k : Nat} {t u : TG} (hc : X.calm = true) (h1 : PG X e1 t) (h2 : PG X e2 u)
    (hs : assignEach [e1, .Starred e2 p2] X.env = [(false, assign e1 X.env), (true, assign e2 X.env)] := by rfl) : PG X (.Tuple [e1, .Starred e2 p2] k pos) (gSt1 X.K t u) := by
  refine ⟨fun pins s σ H v uv Q I r hw => ?_⟩
  obtain ⟨a, x, xs, ea, hq, hx, hw⟩ := hw
  subst ea
  cases r
  obtain ⟨its, rv, pl, hz⟩ := I.list hq
  have hl : s.heap.IsList a its.toArray := pl.isList
  cases rv with
  | @cons _ y _ ys ry rys =>
    have ln := rys.length
    rw [PyProof.Rows.assign_Tuple]
    refine wpAny_bind (wpAny_standAt ?_)
    unfold unpack
    rw [hs]
    refine wpAny_bind (wpAny_holding (star_items (y := y) (ys := ys) hl (I.ok.hd hc) rfl (by omega) fun h' tk kp => ?_))
    have J : Inv X pins σ H { s with heap := h', toks := tk } := I.kept (t' := tk) kp
    have fr := J.hok.fresh (Nat.le_refl _)
    have J2 : Inv X pins σ (upd H h'.objs.size (.lst xs)) { s with heap := h'.push { cls := .type "list", data := .seq ys.toArray }, toks := tk } :=
      J.laid (t' := tk) (fun b o q => Heap.get?_push_of_some _ q) (Nat.le_refl _) (show ObjOk X.prog X.w _ _ _ (.lst xs) from ⟨Nat.le_trans hx (by decide), ys, 0, rys, Heap.get?_push_size _ rfl⟩)
    refine assignInOrder_cons (thn (h1.run pins _ σ _ x y _ J2 ry (hw _ fr)) fun _ s1 ⟨σ1, H1, I1, q1⟩ => ?_)
    exact assignInOrder_cons (thn (h2.run pins _ σ1 H1 (.ref h'.objs.size) _ Q I1 rfl q1) fun _ s2 ⟨σ2, H2, I2, q2⟩ => assignInOrder_nil ⟨σ2, H2, I2, q2⟩)
end
/-! ### errors of one field -/
def errH1 (H : Hp) (a C dx : Addr) (f : Str) (x : V) : Hp := upd (upd H dx (exd dx [(f, x)])) a (exo a C (some dx))
theorem raise1 {C : Addr} {f : Str} {x : V} {H : Hp} {Q : XK} (hq : ∀ d, H d = none → Q (.ref C) (some d) (upd H d (.xd [(f, x)]))) {a dx : Addr} (na : H a = none) (nd : upd H a (exo a C none) dx = none) (ne : dx ≠ a) :
    V.non = .non ∧ ∃ (d : Addr) (fs : List (Str × V)), errH1 (upd H a (exo a C none)) a C dx f x a = some (exo a C (some d)) ∧ errH1 (upd H a (exo a C none)) a C dx f x d = some (exd d fs) ∧ H d = none ∧
      Q (.ref C) (some d) (upd (del (errH1 (upd H a (exo a C none)) a C dx f x) a) d (.xd fs)) := by
  rw [upd_ne ne] at nd
  refine ⟨rfl, dx, [(f, x)], ?_, ?_, nd, ?_⟩
  · unfold errH1
    rw [upd_same]
  · unfold errH1
    rw [upd_ne ne, upd_same]
  · have e : upd (del (errH1 (upd H a (exo a C none)) a C dx f x) a) dx (.xd [(f, x)]) = upd H dx (.xd [(f, x)]) := by
      funext b
      by_cases h1 : b = dx
      · rw [h1, upd_same, upd_same]
      · rw [upd_ne h1, upd_ne h1]
        by_cases h2 : b = a
        · rw [h2, del_same, na]
        · rw [del_ne h2]
          unfold errH1
          rw [upd_ne h2, upd_ne h1, upd_ne h2]
    rw [e]
    exact hq dx nd
/-- a list of wishes -/
def Good (ns : List Int) : Prop := ns.Nodup ∧ ∀ n ∈ ns, 0 ≤ n
theorem ints_flat (ns : List Int) : (ns.map V.int).all flatV = true := by
  rw [List.all_eq_true]
  intro x hx
  obtain ⟨n, _, rfl⟩ := List.mem_map.mp hx
  rfl
theorem made1 {H : Hp} {x dx C : Addr} (nx : H x = none) (nd : H dx = none) : Same H (upd (upd H dx (.own x)) x (.ins C dx [])) := fun b o e => by
  rw [upd_ne (ne_of_none e nx), upd_ne (ne_of_none e nd)]
  exact e
theorem drop_cons {ns : List Int} {i : Nat} {n : Int} (h : ns[i]? = some n) : ns.drop i = n :: ns.drop (i + 1) := by
  have lt : i < ns.length := (List.getElem?_eq_some_iff.mp h).1
  rw [List.drop_eq_getElem_cons lt]
  rw [List.getElem?_eq_getElem lt] at h
  rw [Option.some.inj h]
/-- the naturals as whole numbers -/
def cz (l : List Nat) : List Int := l.map fun n : Nat => (n : Int)
theorem cz_len (l : List Nat) : (cz l).length = l.length := List.length_map _
theorem czv_len (l : List Nat) : ((cz l).map V.int).length = l.length := (List.length_map _).trans (cz_len l)
theorem cz_at {l : List Nat} {i n : Nat} (h : l[i]? = some n) : ((cz l).map V.int)[i]? = some (.int (n : Int)) := by
  unfold cz
  rw [List.getElem?_map, List.getElem?_map, h]
  rfl
theorem cz_of {l : List Nat} {i : Nat} {x : V} (h : ((cz l).map V.int)[i]? = some x) : ∃ n : Nat, x = .int (n : Int) ∧ l[i]? = some n := by
  unfold cz at h
  rw [List.getElem?_map, List.getElem?_map] at h
  cases e : l[i]? with
  | none =>
    rw [e] at h
    cases h
  | some n =>
    rw [e] at h
    exact ⟨n, (Option.some.inj h).symm, rfl⟩
theorem to_cz : ∀ (l : List Int), (∀ n ∈ l, 1 ≤ n ∧ n ≤ 10 ^ 18) → ∃ q : List Nat, cz q = l ∧ q.length = l.length ∧ ∀ n ∈ q, 0 < n ∧ n ≤ 10 ^ 18
  | [], _ => ⟨[], rfl, rfl, fun _ h => by cases h⟩
  | n :: r, h => by
    obtain ⟨q, e, el, hq⟩ := to_cz r fun m hm => h m (List.mem_cons_of_mem _ hm)
    obtain ⟨h1, h2⟩ := h n List.mem_cons_self
    refine ⟨n.toNat :: q, ?_, by rw [List.length_cons, List.length_cons, el], fun m hm => ?_⟩
    · show ((n.toNat : Nat) : Int) :: cz q = n :: r
      rw [e, Int.toNat_of_nonneg (by omega)]
    · rcases List.mem_cons.mp hm with rfl | hm
      · omega
      · exact hq m hm
theorem big9 : (0 : Int) < 10 ^ 9 - 1 ∧ (10 : Int) ^ 9 - 1 < 2 ^ 100 := by decide
theorem cz_take (q : List Nat) (m : Nat) : ((cz q).map V.int).take m = (cz (q.take m)).map V.int := by
  unfold cz
  rw [List.map_take, List.map_take]
/-- the greatest common divisor of all -/
def gl (l : List Nat) : Nat := l.foldl Nat.gcd 0
theorem foldl_dvd (l : List Nat) : ∀ a, l.foldl Nat.gcd a ∣ a ∧ ∀ n ∈ l, l.foldl Nat.gcd a ∣ n := by
  induction l with
  | nil => exact fun a => ⟨Nat.dvd_refl a, fun _ h => by cases h⟩
  | cons x r ih =>
    intro a
    obtain ⟨h1, h2⟩ := ih (Nat.gcd a x)
    refine ⟨Nat.dvd_trans h1 (Nat.gcd_dvd_left a x), fun n hn => ?_⟩
    rcases List.mem_cons.mp hn with rfl | hn
    · exact Nat.dvd_trans h1 (Nat.gcd_dvd_right a _)
    · exact h2 n hn
theorem gl_dvd {l : List Nat} {n : Nat} (h : n ∈ l) : gl l ∣ n := (foldl_dvd l 0).2 n h
theorem foldl_div (g : Nat) (hg : 0 < g) (l : List Nat) : ∀ a, g ∣ a → (∀ n ∈ l, g ∣ n) → (l.map (· / g)).foldl Nat.gcd (a / g) = l.foldl Nat.gcd a / g := by
  induction l with
  | nil => exact fun _ _ _ => rfl
  | cons x r ih =>
    intro a ha hl
    show (r.map (· / g)).foldl Nat.gcd (Nat.gcd (a / g) (x / g)) = r.foldl Nat.gcd (Nat.gcd a x) / g
    rw [Nat.gcd_div ha (hl x List.mem_cons_self)]
    exact ih _ (Nat.dvd_gcd ha (hl x List.mem_cons_self)) fun n hn => hl n (List.mem_cons_of_mem _ hn)
theorem gl_div {l : List Nat} (h : 0 < gl l) : gl (l.map (· / gl l)) = 1 := by
  have e := foldl_div (gl l) h l 0 (Nat.dvd_zero _) fun n hn => gl_dvd hn
  rw [Nat.zero_div] at e
  exact e.trans (Nat.div_self h)
theorem gl_pos {a : Nat} {l : List Nat} (h : 0 < a) : 0 < gl (a :: l) := Nat.pos_of_dvd_of_pos (gl_dvd List.mem_cons_self) h
theorem gl_snoc (l : List Nat) (n : Nat) : gl (l ++ [n]) = Nat.gcd (gl l) n := by
  unfold gl
  rw [List.foldl_append]
  rfl

theorem ite2N {c A B : Prop} [Decidable c] (h1 : ¬ c → A) (h2 : c → B) : if (!decide c) = true then A else B := by
  by_cases h : c
  · rw [decide_eq_true h]
    exact iteF (h2 h)
  · rw [decide_eq_false h]
    exact iteT (h1 h)
/-- counts of a row: none below 0, none above 0 of a thing that is not in the lot -/
def cntB (ls : List Int) : List Int → Nat → Bool
  | [], _ => true
  | c :: r, j => if c < 0 then false else if c > 0 ∧ ¬ inV (.int (j : Int)) (ls.map V.int) = true then false else cntB ls r (j + 1)
def fitR (ls : List Int) (t : Int) (cs : List Int) : Bool := cntB ls cs 0 && (decide (t ≥ 1) && decide (cs.sum ≤ t))
/-- a row of the right length and form -/
def rowOk (m n : Nat) : List Int → Bool
  | [] => false
  | t :: cs => decide (cs.length = m) && fitR (lotOf n m) t cs
def badT (m : Nat) : List (List Int) → Nat → Option Nat
  | [], _ => none
  | r :: rs, i => if rowOk m i r = true then badT m rs (i + 1) else some i
inductive DueT | many (m : Int) | table | row (k : Nat) | made
/-- what is due for these rows -/
def dueT (m : Nat) (rows : List (List Int)) : DueT := if m > 6 then .many m else if rows.length ≠ 2 ^ m then .table else
  match badT m rows 0 with
  | some k => .row k
  | none => .made
/-- rows in the heap -/
def RowsL (H : Hp) (us : List Addr) (rows : List (List Int)) : Prop := us.length = rows.length ∧ ∀ (i : Nat) (u : Addr) (r : List Int), us[i]? = some u → rows[i]? = some r → H u = some (.lst (r.map V.int))
theorem RowsL.same {H H' : Hp} {us : List Addr} {rows : List (List Int)} (s : Same H H') (h : RowsL H us rows) : RowsL H' us rows := ⟨h.1, fun i u r h1 h2 => s _ _ (h.2 i u r h1 h2)⟩
theorem RowsL.sx {p C dx : Addr} {fs : List (Str × V)} {H H' : Hp} {us : List Addr} {rows : List (List Int)} (hp : H p = some (.ins C dx fs)) (s : SameX p H H') (h : RowsL H us rows) : RowsL H' us rows := ⟨h.1, fun i u r h1 h2 => by
  have e := h.2 i u r h1 h2
  exact s _ _ (fun z => by
    rw [z, hp] at e
    cases e) e⟩
theorem dropT {l : List (List Int)} {i : Nat} {n : List Int} (h : l[i]? = some n) : l.drop i = n :: l.drop (i + 1) := by
  have lt : i < l.length := (List.getElem?_eq_some_iff.mp h).1
  rw [List.drop_eq_getElem_cons lt]
  rw [List.getElem?_eq_getElem lt] at h
  rw [Option.some.inj h]
theorem lst_sx {p C dx y : Addr} {fs : List (Str × V)} {H H' : Hp} {xs : List V} (hp : H p = some (.ins C dx fs)) (s : SameX p H H') (h : H y = some (.lst xs)) : H' y = some (.lst xs) := s _ _ (fun z => by
  rw [z, hp] at h
  cases h) h
theorem cntB_pos {ls : List Int} : ∀ {cs : List Int} {j : Nat}, cntB ls cs j = true → ∀ c ∈ cs, 0 ≤ c
  | [], _, _, _, h => by cases h
  | x :: r, j, e, c, h => by
    unfold cntB at e
    split at e
    · cases e
    · split at e
      · cases e
      · rcases List.mem_cons.mp h with rfl | h
        · omega
        · exact cntB_pos e c h
theorem badT_ok {m : Nat} {r : List Int} {rs : List (List Int)} {i : Nat} (h : rowOk m i r = true) : badT m (r :: rs) i = badT m rs (i + 1) := (show badT m (r :: rs) i = if rowOk m i r = true then badT m rs (i + 1) else some i from rfl).trans (if_pos h)
theorem badT_no {m : Nat} {r : List Int} {rs : List (List Int)} {i : Nat} (h : ¬ rowOk m i r = true) : badT m (r :: rs) i = some i := (show badT m (r :: rs) i = if rowOk m i r = true then badT m rs (i + 1) else some i from rfl).trans (if_neg h)

theorem rowOk_cz {m n : Nat} {t : Int} {cs : List Int} (h : rowOk m n (t :: cs) = true) : cs.length = m ∧ fitR (lotOf n m) t cs = true := by
  have h : (decide (cs.length = m) && fitR (lotOf n m) t cs) = true := h
  rw [Bool.and_eq_true] at h
  exact ⟨of_decide_eq_true h.1, h.2⟩
theorem row_nats {m n : Nat} {r : List Int} (h : rowOk m n r = true) : ∃ (b : Nat) (ws : List Nat), r = cz (b :: ws) ∧ 0 < b ∧ ws.length = m := by
  cases r with
  | nil => cases h
  | cons t cs =>
    obtain ⟨h1, h2⟩ := rowOk_cz h
    unfold fitR at h2
    rw [Bool.and_eq_true, Bool.and_eq_true] at h2
    have t1 : t ≥ 1 := of_decide_eq_true h2.2.1
    have pos := cntB_pos h2.1
    refine ⟨t.toNat, cs.map Int.toNat, ?_, by omega, by rw [List.length_map]; exact h1⟩
    show t :: cs = ((t.toNat : Nat) : Int) :: (cs.map Int.toNat).map fun n : Nat => (n : Int)
    rw [Int.toNat_of_nonneg (by omega), List.map_map]
    congr 1
    refine (List.map_id cs).symm.trans (List.map_congr_left fun c hc => ?_)
    show c = ((c.toNat : Nat) : Int)
    rw [Int.toNat_of_nonneg (pos c hc)]
theorem badT_all {m : Nat} : ∀ {rows : List (List Int)} {i : Nat}, badT m rows i = none → ∀ (j : Nat) (r : List Int), rows[j]? = some r → rowOk m (i + j) r = true
  | [], _, _, j, r, h => by cases h
  | x :: rs, i, e, j, r, h => by
    by_cases c : rowOk m i x = true
    · rw [badT_ok c] at e
      cases j with
      | zero =>
        cases h
        exact c
      | succ j =>
        have := badT_all e j r h
        rw [show i + (j + 1) = i + 1 + j by omega]
        exact this
    · rw [badT_no c] at e
      cases e
theorem dueT_many {m : Nat} {rows : List (List Int)} (h : m > 6) : dueT m rows = .many m := if_pos h
theorem dueT_table {m : Nat} {rows : List (List Int)} (h : ¬ m > 6) (k : rows.length ≠ 2 ^ m) : dueT m rows = .table := by
  unfold dueT
  rw [if_neg h]
  exact if_pos k
theorem dueT_rest {m : Nat} {rows : List (List Int)} (h : ¬ m > 6) (k : rows.length = 2 ^ m) : dueT m rows = (match badT m rows 0 with
  | some k => .row k
  | none => .made) := by
  unfold dueT
  rw [if_neg h, if_neg fun z => z k]

def DueT.due : DueT → List V
  | .many m => [.str "many", .int m, .int 6]
  | .table => [.str "table", .non]
  | .row k => [.str "table", .int (k : Int)]
  | .made => [.str "made"]
def DueT.cls : DueT → List V
  | .many _ => [.bl true, .bl false, .bl false, .bl false, .bl false, .bl true]
  | .table => [.bl false, .bl true, .bl false, .bl false, .bl false, .bl true]
  | .row _ => [.bl false, .bl true, .bl false, .bl false, .bl false, .bl true]
  | .made => []
theorem kSt : kitB "str" "str" = some true := by decide +kernel
theorem kIS : kitB "int" "str" = some false := by decide +kernel
theorem rowOk_len {m n : Nat} {r : List Int} (h : r.length ≠ m + 1) : rowOk m n r = false := by
  cases r with
  | nil => rfl
  | cons t cs =>
    show (decide (cs.length = m) && fitR (lotOf n m) t cs) = false
    rw [decide_eq_false fun z => h (by rw [List.length_cons, z]), Bool.false_and]
theorem sameX_made {C x dx : Addr} {H H' : Hp} (nx : H x = none) (nd : H dx = none) (k : SameX x (upd (upd H dx (.own x)) x (.ins C dx [])) H') : Same H H' := fun b o e => by
  have h1 : b ≠ x := ne_of_none e nx
  have h2 : b ≠ dx := ne_of_none e nd
  exact k b o h1 (by rw [upd_ne h1, upd_ne h2]; exact e)
theorem kNS : kitB "NoneType" "str" = some false := by decide +kernel

theorem big16 : (0 : Int) < 10 ^ 16 ∧ (10 : Int) ^ 16 < 2 ^ 100 := by decide

theorem sum_bnd {B : Int} : ∀ {l : List Int}, (∀ x ∈ l, 0 ≤ x ∧ x ≤ B) → 0 ≤ l.sum ∧ l.sum ≤ (l.length : Int) * B
  | [], _ => ⟨Int.le_refl _, by rw [List.length_nil]; show (0 : Int) ≤ 0 * B; omega⟩
  | x :: r, h => by
    have h1 := h x List.mem_cons_self
    have h2 := sum_bnd fun y hy => h y (List.mem_cons_of_mem _ hy)
    rw [List.sum_cons, List.length_cons, Int.natCast_add, Int.add_mul]
    constructor <;> omega
theorem cntB_of {ls : List Int} : ∀ {cs : List Int} {j : Nat}, (∀ (k : Nat) (c : Int), cs[k]? = some c → 0 ≤ c ∧ (0 < c → inV (.int ((j + k : Nat) : Int)) (ls.map V.int) = true)) → cntB ls cs j = true
  | [], _, _ => rfl
  | c :: r, j, h => by
    have h0 := h 0 c rfl
    rw [show cntB ls (c :: r) j = if c < 0 then false else if c > 0 ∧ ¬ inV (.int (j : Int)) (ls.map V.int) = true then false else cntB ls r (j + 1) from rfl, if_neg (by omega), if_neg fun z => z.2 (h0.2 z.1)]
    refine cntB_of fun k x hk => ?_
    have := h (k + 1) x hk
    rw [show j + 1 + k = j + (k + 1) by omega]
    exact this
theorem RowsL.snoc {H : Hp} {us : List Addr} {rows : List (List Int)} {u : Addr} {r : List Int} (h : RowsL H us rows) (k : H u = some (.lst (r.map V.int))) : RowsL H (us ++ [u]) (rows ++ [r]) := by
  refine ⟨by rw [List.length_append, List.length_append, h.1]; rfl, fun j v x h1 h2 => ?_⟩
  by_cases hj : j < us.length
  · rw [List.getElem?_append_left hj] at h1
    rw [List.getElem?_append_left (by have := h.1; omega)] at h2
    exact h.2 j v x h1 h2
  · rw [List.getElem?_append_right (by omega)] at h1
    rw [List.getElem?_append_right (by have := h.1; omega)] at h2
    obtain ⟨n, hn⟩ : ∃ n, j - us.length = n := ⟨_, rfl⟩
    rw [← h.1, hn] at h2
    rw [hn] at h1
    cases n with
    | zero =>
      cases h1
      cases h2
      exact k
    | succ n => cases h1
/-- a list that is changed is none of the rows -/
theorem RowsL.put {H : Hp} {D : Addr} {o : HO} {us : List Addr} {rows : List (List Int)} (hD : D ∉ us) (h : RowsL H us rows) : RowsL (upd H D o) us rows := ⟨h.1, fun i u r h1 h2 => (upd_ne fun z => hD (by rw [← z]; exact List.mem_of_getElem? h1)).trans (h.2 i u r h1 h2)⟩
theorem RowsL.live {H : Hp} {us : List Addr} {rows : List (List Int)} {D : Addr} (h : RowsL H us rows) (n : H D = none) : D ∉ us := fun m => by
  obtain ⟨i, hi⟩ := List.getElem?_of_mem m
  have li := (List.getElem?_eq_some_iff.mp hi).1
  have := h.2 i D _ hi (List.getElem?_eq_getElem (by have := h.1; omega))
  rw [n] at this
  cases this

def BndL (B : Int) (l : List Int) : Prop := ∀ x ∈ l, -B ≤ x ∧ x ≤ B
theorem sum_bnd2 {B : Int} : ∀ {l : List Int}, BndL B l → -((l.length : Int) * B) ≤ l.sum ∧ l.sum ≤ (l.length : Int) * B
  | [], _ => by rw [List.length_nil]; show -((0 : Int) * B) ≤ 0 ∧ (0 : Int) ≤ 0 * B; omega
  | x :: r, h => by
    have h1 := h x List.mem_cons_self
    have h2 := sum_bnd2 (l := r) fun y hy => h y (List.mem_cons_of_mem _ hy)
    rw [List.sum_cons, List.length_cons, Int.natCast_add, Int.add_mul]
    constructor <;> omega
theorem BndL.le {B B' : Int} {l : List Int} (h : BndL B l) (k : B ≤ B') : BndL B' l := fun x hx => by
  have := h x hx
  omega
theorem BndL.put {B v : Int} {l : List Int} {k : Nat} (h : BndL B l) (hv : -B ≤ v ∧ v ≤ B) : BndL B (l.set k v) := fun x hx => by
  rcases List.mem_or_eq_of_mem_set hx with hx | hx
  · exact h x hx
  · rw [hx]
    exact hv
theorem lotOf_lt (b : Int) : ∀ (m : Nat), ∀ x ∈ lotOf b m, 0 ≤ x ∧ x < (m : Int)
  | 0, x, h => by cases h
  | m + 1, x, h => by
    have h : x ∈ lotOf b m ++ (if b / 2 ^ m % 2 = 1 then [(m : Int)] else []) := h
    rcases List.mem_append.mp h with h | h
    · have := lotOf_lt b m x h
      omega
    · split at h
      · rw [List.mem_singleton.mp h]
        omega
      · cases h
theorem set_ints (ps : List Int) (j : Nat) (v : Int) : (ps.map V.int).set j (.int v) = (ps.set j v).map V.int := by rw [List.map_set]
theorem ixn_at {j m : Nat} (h : j < m) : ixN m (j : Int) = some j := by
  unfold ixN
  rw [if_pos (by omega), if_pos (by omega), Int.toNat_natCast]
theorem dp_ints {K : PySem.W.Frag} {H : Hp} {a : Addr} {ns : List Int} (h : SqL K H a (ns.map V.int)) : Dp K H (.ref a) (.list (ns.map PyData.int)) := by
  refine .lst h ?_
  clear h
  induction ns with
  | nil => exact .nil
  | cons n r ih => exact .cons (.int n) ih
theorem depthAll_ints : ∀ ns : List Int, PyData.depthAll (ns.map PyData.int) = 0
  | [] => rfl
  | n :: r => by
    show max (PyData.depth (.int n)) (PyData.depthAll (r.map PyData.int)) = 0
    rw [depthAll_ints r]
    rfl
theorem depth_ints (ns : List Int) : PyData.depth (.list (ns.map PyData.int)) = 1 := by
  show PyData.depthAll (ns.map PyData.int) + 1 = 1
  rw [depthAll_ints]
theorem lay_ints : ∀ ns : List Int, PyData.canLayAll0 (ns.map PyData.int) = true
  | [] => rfl
  | n :: r => by
    show ((PyData.int n).canLay0 && PyData.canLayAll0 (r.map PyData.int)) = true
    rw [lay_ints r]
    rfl
def rListOf (K : PySem.W.Frag) : List V → Hp → VK → Prop := fun xs H Q => ∃ p ys, xs = [V.ref p] ∧ (SqL K H p ys ∨ SqT K H p ys) ∧ ∀ l, H l = none → Q (.ref l) (upd H l (.lst ys))

theorem RowsL.uncons {H : Hp} {r : Addr} {rs : List Addr} {w : List Int} {rws : List (List Int)} (h : RowsL H (r :: rs) (w :: rws)) : H r = some (.lst (w.map V.int)) ∧ RowsL H rs rws := ⟨h.2 0 r w rfl rfl, Nat.succ.inj h.1, fun i u ws h1 h2 => h.2 (i + 1) u ws h1 h2⟩
theorem dp_all {K : PySem.W.Frag} {H : Hp} : ∀ {rs : List Addr} {rws : List (List Int)}, RowsL H rs rws → DpAll K H (rs.map V.ref) (rws.map fun ws => .list (ws.map PyData.int))
  | [], [], _ => .nil
  | [], _ :: _, h => by cases h.1
  | _ :: _, [], h => by cases h.1
  | r :: rs, w :: rws, h => .cons (dp_ints (lst_l h.uncons.1)) (dp_all h.uncons.2)
theorem lay_rows : ∀ rws : List (List Int), PyData.canLayAll0 (rws.map fun ws => .list (ws.map PyData.int)) = true
  | [] => rfl
  | w :: r => by
    show ((PyData.list (w.map PyData.int)).canLay0 && PyData.canLayAll0 (r.map fun ws => .list (ws.map PyData.int))) = true
    rw [lay_rows r, show (PyData.list (w.map PyData.int)).canLay0 = true from lay_ints w]
    rfl
theorem depth_rows : ∀ rws : List (List Int), PyData.depthAll (rws.map fun ws => .list (ws.map PyData.int)) ≤ 1
  | [] => Nat.zero_le _
  | w :: r => by
    show max (PyData.depth (.list (w.map PyData.int))) (PyData.depthAll (r.map fun ws => .list (ws.map PyData.int))) ≤ 1
    rw [depth_ints w]
    exact Nat.max_le.mpr ⟨Nat.le_refl _, depth_rows r⟩
theorem sh_ints (ns : List Int) : SeqAt.shaped (.list (ns.map PyData.int)) = true := by
  unfold SeqAt.shaped
  rw [show (PyData.list (ns.map PyData.int)).canLay0 = true from lay_ints ns, depth_ints ns]
  rfl
theorem sh_rows (rws : List (List Int)) : SeqAt.shaped (.list (rws.map fun ws => .list (ws.map PyData.int))) = true := by
  unfold SeqAt.shaped
  rw [show (PyData.list (rws.map fun ws => .list (ws.map PyData.int))).canLay0 = true from lay_rows rws]
  have : PyData.depth (.list (rws.map fun ws => .list (ws.map PyData.int))) ≤ 64 := by
    show PyData.depthAll _ + 1 ≤ 64
    have := depth_rows rws
    omega
  rw [decide_eq_true this]
  rfl

theorem sh_0 : SeqAt.shaped (.list []) = true := by decide +kernel
theorem sh_6 (a b c d e f : Bool) : SeqAt.shaped (.list [.bool a, .bool b, .bool c, .bool d, .bool e, .bool f]) = true := by cases a <;> cases b <;> cases c <;> cases d <;> cases e <;> cases f <;> decide +kernel
theorem dp_6 {K : PySem.W.Frag} {H : Hp} {t : Addr} {a b c d e f : Bool} (h : H t = some (.lst [.bl a, .bl b, .bl c, .bl d, .bl e, .bl f])) : Dp K H (.ref t) (.list [.bool a, .bool b, .bool c, .bool d, .bool e, .bool f]) := .lst (lst_l h) (.cons (.bl _) (.cons (.bl _) (.cons (.bl _) (.cons (.bl _) (.cons (.bl _) (.cons (.bl _) .nil))))))
theorem due_kinds (d : DueT) : ∀ x ∈ d.due, (∃ s, x = .str s) ∨ (∃ n, x = .int n) ∨ x = .non := by
  intro x hx
  cases d <;> simp only [DueT.due, List.mem_cons, List.not_mem_nil, or_false] at hx
  · rcases hx with rfl | rfl | rfl
    · exact .inl ⟨_, rfl⟩
    · exact .inr (.inl ⟨_, rfl⟩)
    · exact .inr (.inl ⟨_, rfl⟩)
  · rcases hx with rfl | rfl
    · exact .inl ⟨_, rfl⟩
    · exact .inr (.inr rfl)
  · rcases hx with rfl | rfl
    · exact .inl ⟨_, rfl⟩
    · exact .inr (.inl ⟨_, rfl⟩)
  · exact .inl ⟨_, hx⟩
theorem due_len (d : DueT) : d.due.length ≤ 10 := by cases d <;> show _ ≤ 10 <;> simp [DueT.due]
theorem badT_none {m : Nat} : ∀ {rows : List (List Int)} {i : Nat}, (∀ (j : Nat) (r : List Int), rows[j]? = some r → rowOk m (i + j) r = true) → badT m rows i = none
  | [], _, _ => rfl
  | x :: rs, i, h => by
    have h0 := h 0 x rfl
    rw [Nat.add_zero] at h0
    rw [badT_ok h0]
    refine badT_none fun j r hj => ?_
    have := h (j + 1) r hj
    rw [show i + 1 + j = i + (j + 1) by omega]
    exact this
theorem made_all {m : Nat} {rows : List (List Int)} (hm : m ≤ 6) (l : rows.length = 2 ^ m) (h : ∀ (j : Nat) (r : List Int), rows[j]? = some r → rowOk m j r = true) : dueT m rows = .made := by
  rw [dueT_rest (by omega) l, badT_none fun j r hj => by
    rw [Nat.zero_add]
    exact h j r hj]
theorem at_last {xs : List V} {x : V} (h : xs.getLast? = some x) : atI xs (-1) = some x := by
  obtain ⟨r, rfl⟩ : ∃ r, xs = r ++ [x] := by
    rw [List.getLast?_eq_some_iff] at h
    exact h
  unfold atI
  have : ixN (r ++ [x]).length (-1) = some r.length := by
    unfold ixN
    rw [if_neg (by decide), List.length_append]
    show (if _ then _ else _) = _
    first
    | (rw [if_pos (by show _ ≤ _; simp; omega)]; congr 1; show _ = _; simp; omega)
    | (simp; omega)
  rw [this]
  show (r ++ [x])[r.length]? = some x
  rw [List.getElem?_append_right (Nat.le_refl _), Nat.sub_self]
  rfl
/-- a bound that grows with each change -/
def BB (i : Nat) : Int := 10 ^ 17 * 64 ^ i
theorem BB_next (i : Nat) : 64 * BB i = BB (i + 1) := by
  unfold BB
  rw [Int.pow_succ]
  grind
theorem BB_pos (i : Nat) : 10 ^ 17 ≤ BB i := by
  induction i with
  | zero => exact Int.le_refl _
  | succ i ih =>
    have := BB_next i
    omega
theorem BB_mono (i : Nat) : BB i ≤ BB (i + 1) := by
  have := BB_next i
  have := BB_pos i
  omega
theorem RowsL.rep {H : Hp} {us : List Addr} {rows : List (List Int)} {u : Addr} {r : List Int} {i : Nat} (h : RowsL H us rows) (k : H u = some (.lst (r.map V.int))) : RowsL H (us.set i u) (rows.set i r) := by
  refine ⟨by rw [List.length_set, List.length_set]; exact h.1, fun j v x h1 h2 => ?_⟩
  by_cases e : i = j
  · subst e
    by_cases l : i < us.length
    · rw [List.getElem?_set_self l] at h1
      rw [List.getElem?_set_self (by have := h.1; omega)] at h2
      cases h1
      cases h2
      exact k
    · rw [List.getElem?_eq_none (by rw [List.length_set]; omega)] at h1
      cases h1
  · rw [List.getElem?_set_ne e] at h1 h2
    exact h.2 j v x h1 h2
theorem RowsL.drop1 {H : Hp} {us : List Addr} {rows : List (List Int)} (h : RowsL H us rows) : RowsL H (us.drop 1) (rows.drop 1) := ⟨by rw [List.length_drop, List.length_drop, h.1], fun i u r h1 h2 => by
  rw [List.getElem?_drop] at h1 h2
  exact h.2 _ u r h1 h2⟩
/-- what the top has written of the classes -/
structure Txt (K : PySem.W.Frag) (mg : Str → Option Value) (C_Tabled C_TooMany C_BadTable C_BadNumber C_NoBuyers C_BadLot C_ShelfError : Addr) : Prop where
  g_Tabled : mg "Tabled" = some (.ref C_Tabled)
  kc_Tabled : PySem.W.keepIn K (.ref C_Tabled) = true
  hd_Tabled : PySem.W.hasDictIn K C_Tabled = true
  ha_Tabled : PySem.W.findIn K (.ref C_Tabled) "__class__" = some (some (.builtin "object.__class__"))
  hm_Tabled : PySem.W.mroIn K C_Tabled (.type "object") = some true
  cl_Tabled : Cls K C_Tabled
  mk_Tabled : PySem.W.makesIn K C_Tabled = true
  n_Tabled_many : NoAttr K C_Tabled "many"
  n_Tabled_rows : NoAttr K C_Tabled "rows"
  g_TooMany : mg "TooMany" = some (.ref C_TooMany)
  kc_TooMany : PySem.W.keepIn K (.ref C_TooMany) = true
  hd_TooMany : PySem.W.hasDictIn K C_TooMany = true
  ha_TooMany : PySem.W.findIn K (.ref C_TooMany) "__class__" = some (some (.builtin "object.__class__"))
  hm_TooMany : PySem.W.mroIn K C_TooMany (.type "object") = some true
  b_TooMany : PySem.W.subIn K (.ref C_TooMany) (.type "BaseException") = some true
  t_TooMany : PySem.W.typeIn K (.ref C_TooMany) = some (.type "type")
  ga_TooMany : PySem.W.findIn K (.ref C_TooMany) "__getattribute__" = some (some (.builtin "BaseException.__getattribute__"))
  gg_TooMany : PySem.W.findIn K (.ref C_TooMany) "__getattr__" = some none
  ox_TooMany : OexC K C_TooMany
  xf_TooMany : XfC K C_TooMany
  n_TooMany_many : PySem.W.findIn K (.ref C_TooMany) "many" = some none
  n_TooMany_most : PySem.W.findIn K (.ref C_TooMany) "most" = some none
  g_BadTable : mg "BadTable" = some (.ref C_BadTable)
  kc_BadTable : PySem.W.keepIn K (.ref C_BadTable) = true
  hd_BadTable : PySem.W.hasDictIn K C_BadTable = true
  ha_BadTable : PySem.W.findIn K (.ref C_BadTable) "__class__" = some (some (.builtin "object.__class__"))
  hm_BadTable : PySem.W.mroIn K C_BadTable (.type "object") = some true
  b_BadTable : PySem.W.subIn K (.ref C_BadTable) (.type "BaseException") = some true
  t_BadTable : PySem.W.typeIn K (.ref C_BadTable) = some (.type "type")
  ga_BadTable : PySem.W.findIn K (.ref C_BadTable) "__getattribute__" = some (some (.builtin "BaseException.__getattribute__"))
  gg_BadTable : PySem.W.findIn K (.ref C_BadTable) "__getattr__" = some none
  ox_BadTable : OexC K C_BadTable
  xf_BadTable : XfC K C_BadTable
  n_BadTable_at : PySem.W.findIn K (.ref C_BadTable) "at" = some none
  g_BadNumber : mg "BadNumber" = some (.ref C_BadNumber)
  kc_BadNumber : PySem.W.keepIn K (.ref C_BadNumber) = true
  hd_BadNumber : PySem.W.hasDictIn K C_BadNumber = true
  ha_BadNumber : PySem.W.findIn K (.ref C_BadNumber) "__class__" = some (some (.builtin "object.__class__"))
  hm_BadNumber : PySem.W.mroIn K C_BadNumber (.type "object") = some true
  b_BadNumber : PySem.W.subIn K (.ref C_BadNumber) (.type "BaseException") = some true
  t_BadNumber : PySem.W.typeIn K (.ref C_BadNumber) = some (.type "type")
  ga_BadNumber : PySem.W.findIn K (.ref C_BadNumber) "__getattribute__" = some (some (.builtin "BaseException.__getattribute__"))
  gg_BadNumber : PySem.W.findIn K (.ref C_BadNumber) "__getattr__" = some none
  ox_BadNumber : OexC K C_BadNumber
  xf_BadNumber : XfC K C_BadNumber
  n_BadNumber_what : PySem.W.findIn K (.ref C_BadNumber) "what" = some none
  n_BadNumber_at : PySem.W.findIn K (.ref C_BadNumber) "at" = some none
  g_NoBuyers : mg "NoBuyers" = some (.ref C_NoBuyers)
  kc_NoBuyers : PySem.W.keepIn K (.ref C_NoBuyers) = true
  hd_NoBuyers : PySem.W.hasDictIn K C_NoBuyers = true
  ha_NoBuyers : PySem.W.findIn K (.ref C_NoBuyers) "__class__" = some (some (.builtin "object.__class__"))
  hm_NoBuyers : PySem.W.mroIn K C_NoBuyers (.type "object") = some true
  b_NoBuyers : PySem.W.subIn K (.ref C_NoBuyers) (.type "BaseException") = some true
  t_NoBuyers : PySem.W.typeIn K (.ref C_NoBuyers) = some (.type "type")
  ga_NoBuyers : PySem.W.findIn K (.ref C_NoBuyers) "__getattribute__" = some (some (.builtin "BaseException.__getattribute__"))
  gg_NoBuyers : PySem.W.findIn K (.ref C_NoBuyers) "__getattr__" = some none
  g_BadLot : mg "BadLot" = some (.ref C_BadLot)
  kc_BadLot : PySem.W.keepIn K (.ref C_BadLot) = true
  hd_BadLot : PySem.W.hasDictIn K C_BadLot = true
  ha_BadLot : PySem.W.findIn K (.ref C_BadLot) "__class__" = some (some (.builtin "object.__class__"))
  hm_BadLot : PySem.W.mroIn K C_BadLot (.type "object") = some true
  b_BadLot : PySem.W.subIn K (.ref C_BadLot) (.type "BaseException") = some true
  t_BadLot : PySem.W.typeIn K (.ref C_BadLot) = some (.type "type")
  ga_BadLot : PySem.W.findIn K (.ref C_BadLot) "__getattribute__" = some (some (.builtin "BaseException.__getattribute__"))
  gg_BadLot : PySem.W.findIn K (.ref C_BadLot) "__getattr__" = some none
  g_ShelfError : mg "ShelfError" = some (.ref C_ShelfError)
  kc_ShelfError : PySem.W.keepIn K (.ref C_ShelfError) = true
  hd_ShelfError : PySem.W.hasDictIn K C_ShelfError = true
  ha_ShelfError : PySem.W.findIn K (.ref C_ShelfError) "__class__" = some (some (.builtin "object.__class__"))
  hm_ShelfError : PySem.W.mroIn K C_ShelfError (.type "object") = some true
  b_ShelfError : PySem.W.subIn K (.ref C_ShelfError) (.type "BaseException") = some true
  t_ShelfError : PySem.W.typeIn K (.ref C_ShelfError) = some (.type "type")
  ga_ShelfError : PySem.W.findIn K (.ref C_ShelfError) "__getattribute__" = some (some (.builtin "BaseException.__getattribute__"))
  gg_ShelfError : PySem.W.findIn K (.ref C_ShelfError) "__getattr__" = some none
  hnc : PySem.W.specialIn K (.builtin "object.__class__") "__get__" = some (some (.builtin "getset_descriptor.__get__"))
  htk : PySem.W.takesIn K (.builtin "object.__class__") = some true
  sub_TooMany_TooMany : PySem.W.subIn K (.ref C_TooMany) (.ref C_TooMany) = some true
  sub_TooMany_BadTable : PySem.W.subIn K (.ref C_TooMany) (.ref C_BadTable) = some false
  sub_BadTable_TooMany : PySem.W.subIn K (.ref C_BadTable) (.ref C_TooMany) = some false
  sub_BadTable_BadTable : PySem.W.subIn K (.ref C_BadTable) (.ref C_BadTable) = some true
  sub_TooMany_ShelfError : PySem.W.subIn K (.ref C_TooMany) (.ref C_ShelfError) = some true
  sub_BadTable_ShelfError : PySem.W.subIn K (.ref C_BadTable) (.ref C_ShelfError) = some true
  kit_TooMany_TooMany : PySem.W.kitOne K (.ref C_TooMany) (.ref C_TooMany) = some true
  kit_TooMany_BadTable : PySem.W.kitOne K (.ref C_TooMany) (.ref C_BadTable) = some false
  kit_TooMany_BadNumber : PySem.W.kitOne K (.ref C_TooMany) (.ref C_BadNumber) = some false
  kit_TooMany_BadLot : PySem.W.kitOne K (.ref C_TooMany) (.ref C_BadLot) = some false
  kit_TooMany_NoBuyers : PySem.W.kitOne K (.ref C_TooMany) (.ref C_NoBuyers) = some false
  kit_TooMany_ValueError : PySem.W.kitOne K (.ref C_TooMany) (.type "ValueError") = some true
  kit_BadTable_TooMany : PySem.W.kitOne K (.ref C_BadTable) (.ref C_TooMany) = some false
  kit_BadTable_BadTable : PySem.W.kitOne K (.ref C_BadTable) (.ref C_BadTable) = some true
  kit_BadTable_BadNumber : PySem.W.kitOne K (.ref C_BadTable) (.ref C_BadNumber) = some false
  kit_BadTable_BadLot : PySem.W.kitOne K (.ref C_BadTable) (.ref C_BadLot) = some false
  kit_BadTable_NoBuyers : PySem.W.kitOne K (.ref C_BadTable) (.ref C_NoBuyers) = some false
  kit_BadTable_ValueError : PySem.W.kitOne K (.ref C_BadTable) (.type "ValueError") = some true
  g_gcd : mg "gcd" = some (.builtin "math.gcd")
  g_MOST_THINGS : ∃ t, mg "MOST_THINGS" = some (.int 24 t)
  g_MOST_TABLED_THINGS : ∃ t, mg "MOST_TABLED_THINGS" = some (.int 6 t)
theorem Txt.ec_TooMany {K : PySem.W.Frag} {mg : Str → Option Value} {C_Tabled C_TooMany C_BadTable C_BadNumber C_NoBuyers C_BadLot C_ShelfError : Addr} (T : Txt K mg C_Tabled C_TooMany C_BadTable C_BadNumber C_NoBuyers C_BadLot C_ShelfError) : ExcC K C_TooMany := ⟨T.ga_TooMany, T.gg_TooMany, T.b_TooMany, T.hd_TooMany, T.ha_TooMany, T.hnc, T.htk, T.hm_TooMany⟩
theorem Txt.ec_BadTable {K : PySem.W.Frag} {mg : Str → Option Value} {C_Tabled C_TooMany C_BadTable C_BadNumber C_NoBuyers C_BadLot C_ShelfError : Addr} (T : Txt K mg C_Tabled C_TooMany C_BadTable C_BadNumber C_NoBuyers C_BadLot C_ShelfError) : ExcC K C_BadTable := ⟨T.ga_BadTable, T.gg_BadTable, T.b_BadTable, T.hd_BadTable, T.ha_BadTable, T.hnc, T.htk, T.hm_BadTable⟩
theorem Txt.ec_BadNumber {K : PySem.W.Frag} {mg : Str → Option Value} {C_Tabled C_TooMany C_BadTable C_BadNumber C_NoBuyers C_BadLot C_ShelfError : Addr} (T : Txt K mg C_Tabled C_TooMany C_BadTable C_BadNumber C_NoBuyers C_BadLot C_ShelfError) : ExcC K C_BadNumber := ⟨T.ga_BadNumber, T.gg_BadNumber, T.b_BadNumber, T.hd_BadNumber, T.ha_BadNumber, T.hnc, T.htk, T.hm_BadNumber⟩
theorem Txt.ec_NoBuyers {K : PySem.W.Frag} {mg : Str → Option Value} {C_Tabled C_TooMany C_BadTable C_BadNumber C_NoBuyers C_BadLot C_ShelfError : Addr} (T : Txt K mg C_Tabled C_TooMany C_BadTable C_BadNumber C_NoBuyers C_BadLot C_ShelfError) : ExcC K C_NoBuyers := ⟨T.ga_NoBuyers, T.gg_NoBuyers, T.b_NoBuyers, T.hd_NoBuyers, T.ha_NoBuyers, T.hnc, T.htk, T.hm_NoBuyers⟩
theorem Txt.ec_BadLot {K : PySem.W.Frag} {mg : Str → Option Value} {C_Tabled C_TooMany C_BadTable C_BadNumber C_NoBuyers C_BadLot C_ShelfError : Addr} (T : Txt K mg C_Tabled C_TooMany C_BadTable C_BadNumber C_NoBuyers C_BadLot C_ShelfError) : ExcC K C_BadLot := ⟨T.ga_BadLot, T.gg_BadLot, T.b_BadLot, T.hd_BadLot, T.ha_BadLot, T.hnc, T.htk, T.hm_BadLot⟩
theorem Txt.ec_ShelfError {K : PySem.W.Frag} {mg : Str → Option Value} {C_Tabled C_TooMany C_BadTable C_BadNumber C_NoBuyers C_BadLot C_ShelfError : Addr} (T : Txt K mg C_Tabled C_TooMany C_BadTable C_BadNumber C_NoBuyers C_BadLot C_ShelfError) : ExcC K C_ShelfError := ⟨T.ga_ShelfError, T.gg_ShelfError, T.b_ShelfError, T.hd_ShelfError, T.ha_ShelfError, T.hnc, T.htk, T.hm_ShelfError⟩
theorem Txt.exm_TooMany_TooMany {K : PySem.W.Frag} {mg : Str → Option Value} {C_Tabled C_TooMany C_BadTable C_BadNumber C_NoBuyers C_BadLot C_ShelfError : Addr} (T : Txt K mg C_Tabled C_TooMany C_BadTable C_BadNumber C_NoBuyers C_BadLot C_ShelfError) : PySem.W.exmOne K (.ref C_TooMany) (.ref C_TooMany) = some true := PySem.W.exm_ref T.b_TooMany T.hd_TooMany T.t_TooMany T.sub_TooMany_TooMany
theorem Txt.exm_TooMany_BadTable {K : PySem.W.Frag} {mg : Str → Option Value} {C_Tabled C_TooMany C_BadTable C_BadNumber C_NoBuyers C_BadLot C_ShelfError : Addr} (T : Txt K mg C_Tabled C_TooMany C_BadTable C_BadNumber C_NoBuyers C_BadLot C_ShelfError) : PySem.W.exmOne K (.ref C_TooMany) (.ref C_BadTable) = some false := PySem.W.exm_ref T.b_BadTable T.hd_BadTable T.t_BadTable T.sub_TooMany_BadTable
theorem Txt.exm_BadTable_TooMany {K : PySem.W.Frag} {mg : Str → Option Value} {C_Tabled C_TooMany C_BadTable C_BadNumber C_NoBuyers C_BadLot C_ShelfError : Addr} (T : Txt K mg C_Tabled C_TooMany C_BadTable C_BadNumber C_NoBuyers C_BadLot C_ShelfError) : PySem.W.exmOne K (.ref C_BadTable) (.ref C_TooMany) = some false := PySem.W.exm_ref T.b_TooMany T.hd_TooMany T.t_TooMany T.sub_BadTable_TooMany
theorem Txt.exm_BadTable_BadTable {K : PySem.W.Frag} {mg : Str → Option Value} {C_Tabled C_TooMany C_BadTable C_BadNumber C_NoBuyers C_BadLot C_ShelfError : Addr} (T : Txt K mg C_Tabled C_TooMany C_BadTable C_BadNumber C_NoBuyers C_BadLot C_ShelfError) : PySem.W.exmOne K (.ref C_BadTable) (.ref C_BadTable) = some true := PySem.W.exm_ref T.b_BadTable T.hd_BadTable T.t_BadTable T.sub_BadTable_BadTable
theorem Txt.exm_TooMany_ShelfError {K : PySem.W.Frag} {mg : Str → Option Value} {C_Tabled C_TooMany C_BadTable C_BadNumber C_NoBuyers C_BadLot C_ShelfError : Addr} (T : Txt K mg C_Tabled C_TooMany C_BadTable C_BadNumber C_NoBuyers C_BadLot C_ShelfError) : PySem.W.exmOne K (.ref C_TooMany) (.ref C_ShelfError) = some true := PySem.W.exm_ref T.b_ShelfError T.hd_ShelfError T.t_ShelfError T.sub_TooMany_ShelfError
theorem Txt.exm_BadTable_ShelfError {K : PySem.W.Frag} {mg : Str → Option Value} {C_Tabled C_TooMany C_BadTable C_BadNumber C_NoBuyers C_BadLot C_ShelfError : Addr} (T : Txt K mg C_Tabled C_TooMany C_BadTable C_BadNumber C_NoBuyers C_BadLot C_ShelfError) : PySem.W.exmOne K (.ref C_BadTable) (.ref C_ShelfError) = some true := PySem.W.exm_ref T.b_ShelfError T.hd_ShelfError T.t_ShelfError T.sub_BadTable_ShelfError

/-- a def that is called by its name, with its promise -/
def Cal (P : Program) (w : World) (K : PySem.W.Frag) (mg : Str → Option Value) (base : Heap) (CX : CXT) (k : Nat) (x : Str) (ps : List Str) (sp : Sp) : Prop :=
  ∃ (f : Addr) (fd : FuncData), FnOk P w K mg base CX k f fd ps sp ∧ mg x = some (.ref f) ∧ PySem.W.keepIn K (.ref f) = true ∧ Binds K fd ps []
/-- an own class's __init__; dvs: what stands for the parameters that a short call leaves out -/
def CalI (P : Program) (w : World) (K : PySem.W.Frag) (mg : Str → Option Value) (base : Heap) (CX : CXT) (k : Nat) (C : Addr) (ps : List Str) (sp : Sp) (dvs : List V) : Prop :=
  ∃ (f : Addr) (fd : FuncData), FnOk P w K mg base CX k f fd ps sp ∧ Mk K C f ∧ Binds K fd ps [] ∧ ∃ ds, Vals dvs ds ∧ Binds K fd ps ds
/-- an own error's __init__ -/
def CalX (P : Program) (w : World) (K : PySem.W.Frag) (mg : Str → Option Value) (base : Heap) (CX : CXT) (k : Nat) (C : Addr) (ps : List Str) (sp : Sp) : Prop :=
  ∃ (f : Addr) (fd : FuncData), FnOk P w K mg base CX k f fd ps sp ∧ PySem.W.findIn K (.ref C) "__init__" = some (some (.ref f)) ∧ PySem.W.typeIn K (.ref f) = some (.type "function") ∧ Binds K fd ps []
/-- a method -/
def CalM (P : Program) (w : World) (K : PySem.W.Frag) (mg : Str → Option Value) (base : Heap) (CX : CXT) (k : Nat) (C : Addr) (m : Str) (ps : List Str) (sp : Sp) : Prop :=
  ∃ (f : Addr) (fd : FuncData), FnOk P w K mg base CX k f fd ps sp ∧ Meth K C m f ∧ Binds K fd ps []
section
variable {P : Program} {w : World} {K : PySem.W.Frag} {mg : Str → Option Value} {base : Heap}
def sp_TooMany___init__ (C : Addr) : Sp := fun vs H Q _ => ∃ (a : Addr) (x y : V), vs = [.ref a, x, y] ∧ H a = some (exo a C none) ∧ ∀ dx, H dx = none → dx ≠ a → Q .non (errH H a C dx "many" "most" x y)
theorem ok_TooMany___init__ {f : Addr} {fd : FuncData} {C_Tabled C_TooMany C_BadTable C_BadNumber C_NoBuyers C_BadLot C_ShelfError : Addr} (F : Fun K "__init__" "TooMany.__init__" s_TooMany___init__ f fd) (T : Txt K mg C_Tabled C_TooMany C_BadTable C_BadNumber C_NoBuyers C_BadLot C_ShelfError) : FnOk P w K mg base CX0 1 f fd ["self", "many", "most"] (sp_TooMany___init__ C_TooMany) := by
  refine F.ok sc_TooMany___init__ (fun vs H Q E h => ?_) (fun cdv A outer s H vs Q E hr h => ?_)
  · obtain ⟨a, x, y, rfl, _⟩ := h
    rfl
  · obtain ⟨a, x, y, rfl, ha, q⟩ := h
    refine ⟨_, (pss_cons (ps_ost (pv 0) (pv 1))
      (pss_one (ps_ost (pv 0) (pv 2)))), ?_⟩
    refine ⟨_, rfl, _, rfl, a, C_TooMany, rfl, T.ox_TooMany, T.n_TooMany_many, .inl ⟨ha, fun dx nd ne => ?_⟩⟩
    exact ⟨_, rfl, _, rfl, a, C_TooMany, rfl, T.ox_TooMany, T.n_TooMany_most, .inr ⟨dx, _, upd_same, (upd_ne ne).trans upd_same, by show 1 ≤ 900; decide, q dx nd ne⟩⟩
def sp_BadTable___init__ (C : Addr) : Sp := fun vs H Q _ => ∃ (a : Addr) (x : V), vs = [.ref a, x] ∧ H a = some (exo a C none) ∧ ∀ dx, H dx = none → dx ≠ a → Q .non (errH1 H a C dx "at" x)
theorem ok_BadTable___init__ {f : Addr} {fd : FuncData} {C_Tabled C_TooMany C_BadTable C_BadNumber C_NoBuyers C_BadLot C_ShelfError : Addr} (F : Fun K "__init__" "BadTable.__init__" s_BadTable___init__ f fd) (T : Txt K mg C_Tabled C_TooMany C_BadTable C_BadNumber C_NoBuyers C_BadLot C_ShelfError) : FnOk P w K mg base CX0 1 f fd ["self", "at"] (sp_BadTable___init__ C_BadTable) := by
  refine F.ok sc_BadTable___init__ (fun vs H Q E h => ?_) (fun cdv A outer s H vs Q E hr h => ?_)
  · obtain ⟨a, x, rfl, _⟩ := h
    rfl
  · obtain ⟨a, x, rfl, ha, q⟩ := h
    refine ⟨_, (pss_one (ps_ost (pv 0) (pv 1))), ?_⟩
    exact ⟨_, rfl, _, rfl, a, C_BadTable, rfl, T.ox_BadTable, T.n_BadTable_at, .inl ⟨ha, fun dx nd ne => q dx nd ne⟩⟩
def sp_check_many (CT : Addr) : Sp := fun vs H Q E => ∃ m n : Int, vs = [.int m, .int n] ∧ (m > n → ∀ d, H d = none → E (.ref CT) (some d) (upd H d (.xd [("most", .int n), ("many", .int m)]))) ∧ (¬ m > n → Q .non H)
theorem ok_check_many {f : Addr} {fd : FuncData} {C_Tabled C_TooMany C_BadTable C_BadNumber C_NoBuyers C_BadLot C_ShelfError : Addr} (F : Fun K "check_many" "check_many" s_check_many f fd) (T : Txt K mg C_Tabled C_TooMany C_BadTable C_BadNumber C_NoBuyers C_BadLot C_ShelfError) (c_TooMany___init__ : CalX P w K mg base CX0 1 C_TooMany ["self", "many", "most"] (sp_TooMany___init__ C_TooMany)) : FnOk P w K mg base (L2.CX P w) 3 f fd ["many", "most"] (sp_check_many C_TooMany) := by
  refine F.okX sc_check_many (fun vs H Q E h => ?_) (fun cdv A outer s H vs Q E hr h => ?_)
  · obtain ⟨m, n, rfl, _⟩ := h
    rfl
  · obtain ⟨m, n, rfl, kE, q⟩ := h
    obtain ⟨f_TooMany___init__, fd_TooMany___init__, G_TooMany___init__, ic_TooMany___init__, ti_TooMany___init__, b_TooMany___init__⟩ := c_TooMany___init__
    refine ⟨_, (pss_one (ps_if (pt_cmpR op_gt (pv 0) (pv 1) (nomark _)) (pss_one (ps_raise rfl (takes_of rfl rfl rfl rfl) (pmk_oex T.ox_TooMany ic_TooMany___init__ ti_TooMany___init__ G_TooMany___init__ (hr.mono (by decide)) b_TooMany___init__ .nil pass0 (by exact rfl) T.g_TooMany (pa_cons (pv 0) (pa_cons (pv 1) pa_nil))))) pss_nil)), ?_⟩
    refine ⟨_, rfl, _, rfl, _, _, rfl, rfl, _, rfl, ite2 (fun e => ?_) (fun e => q fun z => e (decide_eq_true z))⟩
    exact ⟨_, rfl, _, rfl, (by show 2 ≤ 1000; decide), fun a na => ⟨a, _, _, rfl, upd_same, fun dx nd ne => raise2 (kE (of_decide_eq_true e)) na nd ne⟩⟩
def sp_Rule___init__ (C CT : Addr) : Sp := fun vs H Q E => ∃ (p dx : Addr) (fs : List (Str × V)) (m : Int), vs = [.ref p, .int m] ∧ H p = some (.ins C dx fs) ∧ fs.length ≤ 900 ∧ (m > 24 → ∀ d, H d = none → E (.ref CT) (some d) (upd H d (.xd [("most", .int 24), ("many", .int m)]))) ∧ (¬ m > 24 → Q .non (upd H p (.ins C dx (putF "many" (.int m) fs))))
theorem ok_Rule___init__ {f : Addr} {fd : FuncData} {C_Tabled C_TooMany C_BadTable C_BadNumber C_NoBuyers C_BadLot C_ShelfError : Addr} (F : Fun K "__init__" "Rule.__init__" s_Rule___init__ f fd) (T : Txt K mg C_Tabled C_TooMany C_BadTable C_BadNumber C_NoBuyers C_BadLot C_ShelfError) (c_check_many : Cal P w K mg base (L2.CX P w) 3 "check_many" ["many", "most"] (sp_check_many C_TooMany)) : FnOk P w K mg base (L2.CX P w) 4 f fd ["self", "many"] (sp_Rule___init__ C_Tabled C_TooMany) := by
  refine F.okX sc_Rule___init__ (fun vs H Q E h => ?_) (fun cdv A outer s H vs Q E hr h => ?_)
  · obtain ⟨p, dx, fs, m, rfl, _⟩ := h
    rfl
  · obtain ⟨p, dx, fs, m, rfl, hp, hl, kE, q⟩ := h
    obtain ⟨f_check_many, fd_check_many, G_check_many, m_check_many, k_check_many, b_check_many⟩ := c_check_many
    refine ⟨_, (pss_cons (ps_expr (pe_call G_check_many (hr.mono (by decide)) (by rfl) m_check_many k_check_many b_check_many .nil (passes_call (takes_of rfl rfl rfl rfl) (fun _ _ _ _ h => h)) (pa_cons (pv 1) (pa_cons (pe_glob (v := .int 24) (by rfl) T.g_MOST_THINGS.choose_spec ⟨_, rfl⟩) pa_nil))))
      (pss_one (ps_fld (pv 0) (pv 1) rfl))), ?_⟩
    refine ⟨_, rfl, m, 24, rfl, kE, fun e => ?_⟩
    exact ⟨_, rfl, _, rfl, p, C_Tabled, dx, fs, rfl, hp, T.cl_Tabled, T.n_Tabled_many, by omega, q e⟩
def sp_lot_at (K : PySem.W.Frag) : Sp := fun vs H Q _ => ∃ (b : Int) (m : Nat), vs = [.int b, .int (m : Int)] ∧ m ≤ 1000 ∧ ∀ H' p, Same H H' → H p = none → H' p = some (.tup ((lotOf b m).map V.int)) → Q (.ref p) H'

theorem ok_lot_at {f : Addr} {fd : FuncData} {C_Tabled C_TooMany C_BadTable C_BadNumber C_NoBuyers C_BadLot C_ShelfError : Addr} (F : Fun K "lot_at" "lot_at" s_lot_at f fd) (T : Txt K mg C_Tabled C_TooMany C_BadTable C_BadNumber C_NoBuyers C_BadLot C_ShelfError) (m_range : mg "range" = none) (m_tuple : mg "tuple" = none) : FnOk P w K mg base CX0 1 f fd ["number", "many"] (sp_lot_at K) := by
  refine F.ok sc_lot_at (fun vs H Q E h => ?_) (fun cdv A outer s H vs Q E hr h => ?_)
  · obtain ⟨b, m, rfl, _⟩ := h
    rfl
  · obtain ⟨b, m, rfl, hm, q⟩ := h
    refine ⟨_, (pss_one (ps_ret (pe_callTy call_tuple_of (by rfl) m_tuple (by decide +kernel) (pa_cons (pe_lc (own := [("thing", 2)]) (g := (gName 2)) rfl sc_lot_at.nd (pi_range1 (by rfl) m_range (pa_cons (pv 1) pa_nil)) (blkOk_by (own := [("thing", 2)]) (N := ["number", "many", "thing"]) (sc := defScope s_lot_at) (by decide +kernel)) (fun _ _ _ _ _ => (pg_name (i := 2) sc_lot_at.nd rfl (Or.inl rfl))) (fun _ _ _ _ _ => (pts_one (pt_cmpR op_eq (pe_op op_and (pe_op op_shr (pv 0) (pv 2)) pe_int) pe_int (nomark _)))) (fun _ _ _ _ _ => (pv 2))) pa_nil)))), ?_⟩
    refine ⟨_, rfl, _, rfl, by omega, by omega, ?_⟩
    rw [Int.toNat_natCast]
    refine fun D nD => lc_range (lo := 0) (n := m) (fun i H2 => Same H H2 ∧ H2 D = some (.lst ((lotOf b i).map V.int))) ⟨same_upd nD, upd_same⟩ ?_ ?_
    · rintro i H2 hi ⟨s, hD⟩
      refine ⟨rfl, ?_⟩
      refine ⟨_, rfl, _, rfl, b, _, rfl, rfl, (by show (0 : Int) ≤ 0 + (i : Int); omega), _, _, rfl, rfl, rfl, _, rfl, ?_⟩
      have ez : Builtin.bitAnd (b / 2 ^ (0 + (i : Int)).toNat) 1 = b / 2 ^ i % 2 := by
        rw [bit_one, Int.zero_add, Int.toNat_natCast]
      refine ite2 (fun e => ?_) (fun e => ?_)
      · have e : b / 2 ^ i % 2 = 1 := ez.symm.trans (V.int.inj (of_decide_eq_true e))
        refine ⟨_, rfl, _, hD, ?_, same_mut s nD, ?_⟩
        · rw [List.length_map]
          exact small1000 (Nat.le_trans (lotOf_len b i) (by omega))
        · rw [upd_same]
          show _ = some (HO.lst ((lotOf b i ++ (if b / 2 ^ i % 2 = 1 then [(i : Int)] else [])).map V.int))
          rw [if_pos e, ← snoc_int, Int.zero_add]
      · have e : ¬ b / 2 ^ i % 2 = 1 := fun z => e (decide_eq_true (congrArg V.int (ez.trans z)))
        refine ⟨s, ?_⟩
        show _ = some (HO.lst ((lotOf b i ++ (if b / 2 ^ i % 2 = 1 then [(i : Int)] else [])).map V.int))
        rw [if_neg e, List.append_nil]
        exact hD
    · rintro H2 ⟨s, hD⟩
      exact ⟨D, _, rfl, .inl ⟨lst_l hD, fun p np => q _ p (same_mut s (s.free np)) (s.free np) upd_same⟩⟩
def sp__fits (K : PySem.W.Frag) : Sp := fun vs H Q _ => ∃ (r l : Addr) (t : Int) (cs ls : List Int), vs = [.ref r, .ref l] ∧ H r = some (.lst ((t :: cs).map V.int)) ∧ H l = some (.tup (ls.map V.int)) ∧ cs.length ≤ 900 ∧ ∀ H', Same H H' → Q (.bl (fitR ls t cs)) H' 
theorem ok__fits {f : Addr} {fd : FuncData} {C_Tabled C_TooMany C_BadTable C_BadNumber C_NoBuyers C_BadLot C_ShelfError : Addr} (F : Fun K "_fits" "_fits" s__fits f fd) (T : Txt K mg C_Tabled C_TooMany C_BadTable C_BadNumber C_NoBuyers C_BadLot C_ShelfError) (m_enumerate : mg "enumerate" = none) (m_sum : mg "sum" = none) : FnOk P w K mg base CX0 1 f fd ["row", "lot"] (sp__fits K) := by
  refine F.ok sc__fits (fun vs H Q E h => ?_) (fun cdv A outer s H vs Q E hr h => ?_)
  · obtain ⟨r, l, t, cs, ls, rfl, _⟩ := h
    rfl
  · obtain ⟨r, l, t, cs, ls, rfl, hr, hl, cl, q⟩ := h
    refine ⟨_, (pss_cons (ps_asg (pv 0) (pg_st1 rfl (pg_name (i := 2) sc__fits.nd rfl (Or.inl rfl)) (pg_name (i := 3) sc__fits.nd rfl (Or.inl rfl))))
      (pss_cons (ps_for PassesOwn.never rfl (pi_enum (by rfl) m_enumerate (pa_cons (pv 3) pa_nil)) (pg_tup rfl (pgs_cons (pg_name (i := 4) sc__fits.nd rfl (Or.inl rfl)) (pgs_cons (pg_name (i := 5) sc__fits.nd rfl (Or.inl rfl)) pgs_nil)))
      (pss_one (ps_if (PW.pt (pw_or (pt_cmpR op_lt (pv 5) pe_int (nomark _)) (pw_or1 (PW.pt (pw_and (pt_cmpR op_gt (pv 5) pe_int (nomark _)) (pw_and1 (pt_cmpR op_notIn_seq (pv 4) (pv 1) (by rfl)))))))) (pss_one (ps_ret pe_bl)) pss_nil)))
      (pss_one (ps_ret (pe_and (pe_cmpR op_ge (pv 2) pe_int (nomark _)) (pe_one (pe_cmpR op_le (pe_callB (cr_sum rfl) (by rfl) m_sum (by decide +kernel) (pa_cons (pv 3) pa_nil)) (pv 2) (nomark _)))))))), ?_⟩
    refine ⟨_, rfl, r, .int t, cs.map V.int, rfl, lst_l hr, by rw [List.length_map]; omega, fun D nD => ?_⟩
    have s1 := same_upd (o := .lst (cs.map V.int)) nD
    have hD : upd H D (.lst (cs.map V.int)) D = some (.lst (cs.map V.int)) := upd_same
    have hl1 := s1 _ _ hl
    generalize upd H D (.lst (cs.map V.int)) = H1 at s1 hD hl1 ⊢
    refine ⟨_, rfl, D, _, rfl, lst_l hD, ?_⟩
    refine for_it (walk_enum (K := K) (a := D) (xs := cs.map V.int)) (fun i σ H2 => ∃ y1 y2 : Option V, σ = [some (.ref r), some (.ref l), some (.int t), some (.ref D), y1, y2] ∧ Same H1 H2 ∧ cntB ls cs 0 = cntB ls (cs.drop i) i) ⟨none, none, rfl, Same.refl _, rfl⟩ ?_ ?_ ?_
    · rintro i σ H2 _ ⟨_, _, _, sx, _⟩
      exact lst_l (sx D _ hD)
    · rintro i x σ H2 H3 hi ⟨y1, y2, rfl, sx, hb⟩ ⟨tp, ix, nx, rfl, ntp, rfl, e1, e2⟩
      cases e1
      have e2 : (cs.map V.int)[i]? = some nx := e2
      obtain ⟨c, rfl, hc⟩ := int_of e2
      rw [drop_cons hc] at hb
      have s3 := sx.trans (same_upd (o := .tup [V.int i, V.int c]) ntp)
      refine ⟨tp, _, rfl, tup_t upd_same, rfl, _, _, rfl, _, _, rfl, rfl, ?_⟩
      generalize upd H2 tp (.tup [V.int i, V.int c]) = H3 at s3 ⊢
      have bad : cntB ls cs 0 = false → Q (.bl false) H3 := fun e => by
        have : fitR ls t cs = false := by
          unfold fitR
          rw [e]
          rfl
        exact this ▸ q H3 (s1.trans s3)
      refine ⟨_, rfl, _, _, rfl, rfl, _, rfl, ite2 (fun c1 => ?_) (fun c1 => ⟨_, rfl, _, _, rfl, rfl, _, rfl, ite2 (fun c2 => ⟨_, rfl, _, rfl, l, _, rfl, .inr (tup_t (s3 _ _ hl1)), rfl, ints_flat ls, _, rfl, ite2 (fun c3 => ?_) (fun c3 => ?_)⟩) (fun c2 => ?_)⟩)⟩
      · have c1 : c < 0 := of_decide_eq_true c1
        refine bad (hb.trans ?_)
        unfold cntB
        exact if_pos c1
      · have c1 : ¬ c < 0 := fun z => c1 (decide_eq_true z)
        have c2 : c > 0 := of_decide_eq_true c2
        have c3 : ¬ inV (.int (i : Int)) (ls.map V.int) = true := fun z => by
          rw [z] at c3
          cases c3
        refine bad (hb.trans ?_)
        unfold cntB
        rw [if_neg c1, if_pos ⟨c2, c3⟩]
      · have c1 : ¬ c < 0 := fun z => c1 (decide_eq_true z)
        have c3 : inV (.int (i : Int)) (ls.map V.int) = true := by
          cases z : inV (.int (i : Int)) (ls.map V.int) with
          | true => rfl
          | false => exact absurd (by rw [z]; rfl) c3
        refine ⟨_, _, rfl, s3, hb.trans ?_⟩
        rw [show cntB ls (c :: cs.drop (i + 1)) i = if c < 0 then false else if c > 0 ∧ ¬ inV (.int (i : Int)) (ls.map V.int) = true then false else cntB ls (cs.drop (i + 1)) (i + 1) from rfl, if_neg c1, if_neg fun z => z.2 c3]
      · have c1 : ¬ c < 0 := fun z => c1 (decide_eq_true z)
        have c2 : ¬ c > 0 := fun z => c2 (decide_eq_true z)
        refine ⟨_, _, rfl, s3, hb.trans ?_⟩
        rw [show cntB ls (c :: cs.drop (i + 1)) i = if c < 0 then false else if c > 0 ∧ ¬ inV (.int (i : Int)) (ls.map V.int) = true then false else cntB ls (cs.drop (i + 1)) (i + 1) from rfl, if_neg c1, if_neg fun z => c2 z.1]
    · rintro σ H2 ⟨y1, y2, rfl, sx, hb⟩
      rw [List.length_map, List.drop_length] at hb
      have hb : cntB ls cs 0 = true := hb
      have e : fitR ls t cs = (decide (t ≥ 1) && decide (cs.sum ≤ t)) := by
        unfold fitR
        rw [hb, Bool.true_and]
      have q := q H2 (s1.trans sx)
      rw [e] at q
      refine ⟨_, rfl, _, _, rfl, rfl, _, rfl, ite2 (fun c => ?_) (fun c => ?_)⟩
      · rw [decide_eq_true (of_decide_eq_true c), Bool.true_and] at q
        exact ⟨_, rfl, D, _, rfl, lst_l (sx _ _ hD), _, rfl, _, _, rfl, rfl, q⟩
      · rw [decide_eq_false (fun z => c (decide_eq_true z)), Bool.false_and] at q
        exact q
def sp_common_divisor (K : PySem.W.Frag) : Sp := fun vs H Q _ => ∃ (a : Addr) (l : List Nat), vs = [.ref a] ∧ H a = some (.lst ((cz l).map V.int)) ∧ Q (.int (gl l : Nat)) H
theorem ok_common_divisor {f : Addr} {fd : FuncData} {C_Tabled C_TooMany C_BadTable C_BadNumber C_NoBuyers C_BadLot C_ShelfError : Addr} (F : Fun K "common_divisor" "common_divisor" s_common_divisor f fd) (T : Txt K mg C_Tabled C_TooMany C_BadTable C_BadNumber C_NoBuyers C_BadLot C_ShelfError) : FnOk P w K mg base CX0 1 f fd ["numbers"] (sp_common_divisor K) := by
  refine F.ok sc_common_divisor (fun vs H Q E h => ?_) (fun cdv A outer s H vs Q E hr h => ?_)
  · obtain ⟨a, l, rfl, _⟩ := h
    rfl
  · obtain ⟨a, l, rfl, hl, q⟩ := h
    refine ⟨_, (pss_cons (ps_set (i := 1) sc_common_divisor.nd rfl (Or.inl rfl) pe_int)
      (pss_cons (ps_for PassesOwn.never rfl (pi_list (pv 0)) (pg_name (i := 2) sc_common_divisor.nd rfl (Or.inl rfl))
      (pss_one (ps_set (i := 1) sc_common_divisor.nd rfl (Or.inl rfl) (pe_callBfun cr_gcd (by rfl) T.g_gcd (pa_cons (pv 1) (pa_cons (pv 2) pa_nil))))))
      (pss_one (ps_ret (pv 1))))), ?_⟩
    refine ⟨_, rfl, a, rfl, ⟨_, lst_l hl⟩, for_list (K := K) (a := a) (xs := (cz l).map V.int) (fun i σ H2 => ∃ y : Option V, σ = [some (.ref a), some (.int (gl (l.take i) : Nat)), y] ∧ H2 = H) ⟨none, rfl, rfl⟩ (fun i σ H2 _ ⟨_, _, e⟩ => e ▸ lst_l hl) ?_ ?_⟩
    · rintro i x σ H2 hi ⟨y, rfl, rfl⟩
      obtain ⟨n, rfl, hn⟩ := cz_of hi
      refine ⟨_, rfl, _, rfl, _, _, rfl, some (.int (n : Int)), ?_, rfl⟩
      rw [List.take_add_one, hn]
      show _ = [some (V.ref a), some (V.int (gl (l.take i ++ [n]) : Nat)), some (V.int (n : Int))]
      rw [gl_snoc]
      rfl
    · rintro σ H2 ⟨y, rfl, rfl⟩
      rw [czv_len, List.take_length]
      exact ⟨_, rfl, q⟩
def sp__reduced_row (K : PySem.W.Frag) : Sp := fun vs H Q _ => ∃ (r : Addr) (b : Nat) (ws : List Nat), vs = [.ref r] ∧ H r = some (.lst ((cz (b :: ws)).map V.int)) ∧ ws.length ≤ 900 ∧ 0 < b ∧ b < 2 ^ 90 ∧ ∀ H' t, Same H H' → Q (.ref t) H' 
theorem ok__reduced_row {f : Addr} {fd : FuncData} {C_Tabled C_TooMany C_BadTable C_BadNumber C_NoBuyers C_BadLot C_ShelfError : Addr} (F : Fun K "_reduced_row" "_reduced_row" s__reduced_row f fd) (T : Txt K mg C_Tabled C_TooMany C_BadTable C_BadNumber C_NoBuyers C_BadLot C_ShelfError) (m_tuple : mg "tuple" = none) (c_common_divisor : Cal P w K mg base CX0 1 "common_divisor" ["numbers"] (sp_common_divisor K)) : FnOk P w K mg base CX0 2 f fd ["row"] (sp__reduced_row K) := by
  refine F.ok sc__reduced_row (fun vs H Q E h => ?_) (fun cdv A outer s H vs Q E hr h => ?_)
  · obtain ⟨r, b, ws, rfl, _⟩ := h
    rfl
  · obtain ⟨r, b, ws, rfl, hrw, wl, b0, b1, q⟩ := h
    obtain ⟨f_common_divisor, fd_common_divisor, G_common_divisor, m_common_divisor, k_common_divisor, b_common_divisor⟩ := c_common_divisor
    refine ⟨_, (pss_cons (ps_set (i := 1) sc__reduced_row.nd rfl (Or.inr rfl) (pe_call G_common_divisor (hr.mono (by decide)) (by rfl) m_common_divisor k_common_divisor b_common_divisor .nil pass0 (pa_cons (pv 0) pa_nil)))
      (pss_one (ps_ret (pe_callTy call_tuple_of (by rfl) m_tuple (by decide +kernel) (pa_cons (pe_lc (own := [("item", 2)]) (g := (gName 2)) (tt := tYes) rfl sc__reduced_row.nd (pi_list (pv 0)) (blkOk_by (own := [("item", 2)]) (N := ["row", "divisor", "item"]) (sc := defScope s__reduced_row) (by decide +kernel)) (fun _ _ _ _ _ => (pg_name (i := 2) sc__reduced_row.nd rfl (Or.inl rfl))) (fun _ _ _ _ _ => pts_nil) (fun _ _ _ _ _ => (pe_op op_fdivW (pv 2) (pv 1)))) pa_nil))))), ?_⟩
    refine ⟨_, rfl, r, b :: ws, rfl, hrw, ?_⟩
    have gp : 0 < gl (b :: ws) := gl_pos b0
    have gb : gl (b :: ws) ≤ b := Nat.le_of_dvd b0 (gl_dvd List.mem_cons_self)
    generalize gl (b :: ws) = g at gp gb
    have g0 : (0 : Int) < (g : Int) := by omega
    have g1 : (g : Int) < 2 ^ 100 := by
      have : g < 2 ^ 90 := Nat.lt_of_le_of_lt gb b1
      omega
    refine ⟨_, rfl, r, rfl, ⟨_, lst_l hrw⟩, fun D nD => lc_list (K := K) (a := r) (xs := (cz (b :: ws)).map V.int) (fun i H2 => Same H H2 ∧ ∃ xs : List Int, xs.length = i ∧ H2 D = some (.lst (xs.map V.int))) ⟨same_upd nD, [], rfl, upd_same⟩ (fun i H2 _ ⟨s, _⟩ => lst_l (s _ _ hrw)) ?_ ?_⟩
    · rintro i x H2 hi ⟨s, xs, xl, hD⟩
      obtain ⟨n, rfl, hin⟩ := cz_of hi
      have il := (List.getElem?_eq_some_iff.mp hin).1
      rw [List.length_cons] at il
      refine ⟨rfl, ?_⟩
      refine lc_yes ?_
      refine iteT ?_
      refine ⟨_, rfl, _, rfl, _, _, rfl, rfl, w_div g0 g1, _, hD, ?_, same_mut s nD, xs ++ [(n : Int) / (g : Int)], ?_, ?_⟩
      · rw [List.length_map]
        exact small1000 (by omega)
      · rw [List.length_append, xl]
        rfl
      · rw [upd_same, ← snoc_int]
    · rintro H2 ⟨s, xs, xl, hD⟩
      exact ⟨D, _, rfl, .inl ⟨lst_l hD, fun t nt => q _ t (s.trans (same_upd nt))⟩⟩
def sp_Tabled___init__ (C CT CB : Addr) : Sp := fun vs H Q E => ∃ (p dx L : Addr) (us : List Addr) (rows : List (List Int)) (m : Nat), vs = [.ref p, .int (m : Int), .ref L] ∧ H p = some (.ins C dx []) ∧ H L = some (.lst (us.map V.ref)) ∧ RowsL H us rows ∧ us.length ≤ 900 ∧ (∀ r ∈ rows, r.length ≤ 60 ∧ ∀ x ∈ r, x < 2 ^ 90) ∧
  (∀ n, dueT m rows = .many n → ∀ H' d, SameX p H H' → H' d = some (.xd [("most", .int 6), ("many", .int n)]) → E (.ref CT) (some d) H') ∧ (dueT m rows = .table → ∀ H' d, SameX p H H' → H' d = some (.xd [("at", .non)]) → E (.ref CB) (some d) H') ∧
  (∀ k, dueT m rows = .row k → ∀ H' d, SameX p H H' → H' d = some (.xd [("at", .int (k : Int))]) → E (.ref CB) (some d) H') ∧ (dueT m rows = .made → ∀ H', SameX p H H' → Q .non H')
theorem ok_Tabled___init__ {f cc cda g_Rule : Addr} {fd : FuncData} {file : Str} {C_Tabled C_TooMany C_BadTable C_BadNumber C_NoBuyers C_BadLot C_ShelfError : Addr} (F : FunS K "__init__" "Tabled.__init__" s_Tabled___init__ cc cda f fd) (SC : SupC K mg C_Tabled C_Tabled cc cda g_Rule file) (hfile : ((P.main.file : Str) == file) = true) (htop : (P.main.scope.names.lookup ("super" : Str)).isSome = false) (T : Txt K mg C_Tabled C_TooMany C_BadTable C_BadNumber C_NoBuyers C_BadLot C_ShelfError) (m_enumerate : mg "enumerate" = none) (m_len : mg "len" = none) (m_tuple : mg "tuple" = none) (c_check_many : Cal P w K mg base (L2.CX P w) 3 "check_many" ["many", "most"] (sp_check_many C_TooMany)) (c_Rule___init__ : ∃ fd : FuncData, FnOk P w K mg base (L2.CX P w) 4 g_Rule fd ["self", "many"] (sp_Rule___init__ C_Tabled C_TooMany) ∧ Binds K fd ["self", "many"] []) (c_lot_at : Cal P w K mg base CX0 1 "lot_at" ["number", "many"] (sp_lot_at K)) (c__fits : Cal P w K mg base CX0 1 "_fits" ["row", "lot"] (sp__fits K)) (c__reduced_row : Cal P w K mg base CX0 2 "_reduced_row" ["row"] (sp__reduced_row K)) (c_BadTable___init__ : CalX P w K mg base CX0 1 C_BadTable ["self", "at"] (sp_BadTable___init__ C_BadTable)) : FnOk P w K mg base (L2.CX P w) 5 f fd ["self", "many", "rows"] (sp_Tabled___init__ C_Tabled C_TooMany C_BadTable) := by
  obtain ⟨f_check_many, fd_check_many, G_check_many, m_check_many, k_check_many, b_check_many⟩ := c_check_many
  obtain ⟨fd_Rule___init__, G_Rule___init__, b_Rule___init__⟩ := c_Rule___init__
  obtain ⟨f_lot_at, fd_lot_at, G_lot_at, m_lot_at, k_lot_at, b_lot_at⟩ := c_lot_at
  obtain ⟨f__fits, fd__fits, G__fits, m__fits, k__fits, b__fits⟩ := c__fits
  obtain ⟨f__reduced_row, fd__reduced_row, G__reduced_row, m__reduced_row, k__reduced_row, b__reduced_row⟩ := c__reduced_row
  obtain ⟨f_BadTable___init__, fd_BadTable___init__, G_BadTable___init__, ic_BadTable___init__, ti_BadTable___init__, b_BadTable___init__⟩ := c_BadTable___init__
  obtain ⟨⟨oc, od, kV, doc, pm, an, ct, osl, rfl, lk, hcd⟩, _⟩ := F
  refine fn_at (D := C_Tabled) lk hcd sc_Tabled___init__ SC.cell (fun vs H Q E h => ?_) (fun A outer s H vs Q E hr h => ?_)
  · obtain ⟨p, dx, L, us, rows, m, rfl, _⟩ := h
    rfl
  · obtain ⟨p, dx, L, us, rows, m, rfl, hp, hL, row, ul, lw, kM, kT, kR, q⟩ := h
    refine ⟨_, (psas_cons (psa_ps (ps_expr (pe_call G_check_many (hr.mono (by decide)) (by rfl) m_check_many k_check_many b_check_many .nil (passes_call (takes_of rfl rfl rfl rfl) (fun _ _ _ _ h => h)) (pa_cons (pv 1) (pa_cons (pe_glob (v := .int 6) (by rfl) T.g_MOST_TABLED_THINGS.choose_spec ⟨_, rfl⟩) pa_nil)))))
      (psas_cons (psa_expr (pea_super lk ⟨SC.isD, SC.sub, SC.cell, SC.code, SC.sup, SC.tg, SC.fg, SC.opq, SC.nosup⟩ hfile htop rfl rfl rfl rfl rfl rfl rfl rfl rfl rfl rfl G_Rule___init__ b_Rule___init__ (hr.mono (by decide)) (passes_call (takes_of rfl rfl rfl rfl) (fun _ _ _ _ h => h)) (pa_cons (pv 1) pa_nil) rfl rfl rfl rfl))
      (psas_pss (pss_cons (ps_if (pt_cmpR op_ne (pe_callB call_len_seq (by rfl) m_len (by decide +kernel) (pa_cons (pv 2) pa_nil)) (pe_op op_shl pe_int (pv 1)) (nomark _)) (pss_one (ps_raise rfl (takes_of rfl rfl rfl rfl) (pmk_oex T.ox_BadTable ic_BadTable___init__ ti_BadTable___init__ G_BadTable___init__ (hr.mono (by decide)) b_BadTable___init__ .nil pass0 (by exact rfl) T.g_BadTable (pa_cons pe_non pa_nil)))) pss_nil)
      (pss_cons (ps_for (passes_of rfl) rfl (pi_enum (by rfl) m_enumerate (pa_cons (pv 2) pa_nil)) (pg_tup rfl (pgs_cons (pg_name (i := 4) sc_Tabled___init__.nd rfl (Or.inl rfl)) (pgs_cons (pg_name (i := 5) sc_Tabled___init__.nd rfl (Or.inl rfl)) pgs_nil)))
      (pss_one (ps_if (PW.pt (pw_or (pt_cmpR op_ne (pe_callB call_len_seq (by rfl) m_len (by decide +kernel) (pa_cons (pv 5) pa_nil)) (pe_op op_add (pv 1) pe_int) (nomark _)) (pw_or1 (pt_not (pt_val (pe_call G__fits (hr.mono (by decide)) (by rfl) m__fits k__fits b__fits .nil pass0 (pa_cons (pv 5) (pa_cons (pe_call G_lot_at (hr.mono (by decide)) (by rfl) m_lot_at k_lot_at b_lot_at .nil pass0 (pa_cons (pv 4) (pa_cons (pv 1) pa_nil))) pa_nil)))))))) (pss_one (ps_raise rfl (takes_of rfl rfl rfl rfl) (pmk_oex T.ox_BadTable ic_BadTable___init__ ti_BadTable___init__ G_BadTable___init__ (hr.mono (by decide)) b_BadTable___init__ .nil pass0 (by exact rfl) T.g_BadTable (pa_cons (pv 4) pa_nil)))) pss_nil)))
      (pss_one (ps_fld (pv 0) (pe_callTy call_tuple_of (by rfl) m_tuple (by decide +kernel) (pa_cons (pe_lc (own := [("row", 5)]) (g := (gName 5)) (tt := tYes) rfl sc_Tabled___init__.nd (pi_list (pv 2)) (blkOk_by (own := [("row", 5)]) (N := ["self", "many", "rows", "__class__", "number", "row"]) (sc := defScope s_Tabled___init__) (by decide +kernel)) (fun _ _ _ _ _ => (pg_name (i := 5) sc_Tabled___init__.nd rfl (Or.inl rfl))) (fun _ _ _ _ _ => pts_nil) (fun _ _ _ _ _ => (pe_call G__reduced_row (hr.mono (by decide)) (by rfl) m__reduced_row k__reduced_row b__reduced_row .nil pass0 (pa_cons (pv 5) pa_nil)))) pa_nil)) rfl))))))), ?_⟩
    refine ⟨_, rfl, (m : Int), 6, rfl, fun e d nd => kM m (dueT_many (by omega)) _ d (SameX.new nd) upd_same, fun e6 => ?_⟩
    have e6 : ¬ m > 6 := by omega
    refine ⟨p, dx, [], rfl, hp, _, rfl, p, dx, [], (m : Int), rfl, hp, Nat.zero_le _, fun e d nd => absurd e (by omega), fun e24 => ?_⟩
    have x1 : SameX p H (upd H p (.ins C_Tabled dx (putF "many" (.int (m : Int)) []))) := SameX.put
    have hp1 : upd H p (.ins C_Tabled dx (putF "many" (.int (m : Int)) [])) p = some (.ins C_Tabled dx (putF "many" (.int (m : Int)) [])) := upd_same
    generalize upd H p (.ins C_Tabled dx (putF "many" (.int (m : Int)) [])) = H1 at x1 hp1 ⊢
    have hL1 := lst_sx hp x1 hL
    have row1 := row.sx hp x1
    have rl := row.1
    refine ⟨_, rfl, L, _, rfl, .inl (lst_l hL1), _, rfl, 1, (m : Int), rfl, rfl, ⟨by omega, by omega, by decide⟩, rfl, _, rfl, ite2N (fun c => ?_) (fun c => ?_)⟩
    · have c2 : rows.length ≠ 2 ^ m := fun z => c (congrArg V.int (by
        rw [List.length_map, rl, z, Int.toNat_natCast, Int.one_mul]
        exact Int.natCast_pow 2 m))
      exact ⟨(by show 1 ≤ 1000; decide), fun a na => ⟨a, _, rfl, upd_same, fun dx2 nd ne => raise1 (fun d nd => kT (dueT_table e6 c2) _ _ (x1.trans (same_sx ((same_upd nd)))) upd_same) na nd ne⟩⟩
    have c := V.int.inj c
    rw [List.length_map, rl, Int.toNat_natCast, Int.one_mul] at c
    have c2 : rows.length = 2 ^ m := by
      have : ((2 ^ m : Nat) : Int) = 2 ^ m := Int.natCast_pow 2 m
      omega
    have dr := dueT_rest e6 c2
    refine ⟨_, rfl, L, _, rfl, lst_l hL1, ?_⟩
    refine for_it (walk_enum (K := K) (a := L) (xs := us.map V.ref)) (fun i σ H2 => ∃ y1 y2 : Option V, σ = [some (.ref p), some (.int (m : Int)), some (.ref L), none, y1, y2] ∧ Same H1 H2 ∧ badT m rows 0 = badT m (rows.drop i) i) ⟨none, none, rfl, Same.refl _, rfl⟩ ?_ ?_ ?_
    · rintro i σ H2 _ ⟨_, _, _, sx, _⟩
      exact lst_l (sx L _ hL1)
    · rintro i x σ H2 H3 hi ⟨y1, y2, rfl, sx, hb⟩ ⟨tp, ix, nx, rfl, ntp, rfl, e1, e2⟩
      cases e1
      rw [List.length_map] at hi
      have h1 : us[i]? = some us[i] := List.getElem?_eq_getElem hi
      have h2 : rows[i]? = some rows[i] := List.getElem?_eq_getElem (by omega)
      have e2 : (us.map V.ref)[i]? = some nx := e2
      rw [List.getElem?_map, h1] at e2
      cases e2
      have hd := dropT h2
      have s3 := sx.trans (same_upd (o := .tup [V.int i, V.ref us[i]]) ntp)
      have hu := s3 _ _ (row1.2 i _ _ h1 h2)
      have l60 := (lw _ (List.mem_of_getElem? h2)).1
      generalize rows[i] = r at hu hd h2 l60
      rw [hd] at hb
      refine ⟨tp, _, rfl, tup_t upd_same, rfl, _, _, rfl, _, _, rfl, rfl, ?_⟩
      generalize upd H2 tp (.tup [V.int i, V.ref us[i]]) = H3 at s3 hu ⊢
      refine ⟨_, rfl, us[i], _, rfl, .inl (lst_l hu), _, rfl, _, _, rfl, rfl, rfl, _, rfl, ite2N (fun c => ?_) (fun c => ?_)⟩
      · have no : ¬ rowOk m i r = true := fun z => c (congrArg V.int (by
          obtain ⟨b, ws, rfl, _, lw⟩ := row_nats z
          rw [czv_len, List.length_cons, lw]
          rfl))
        exact ⟨_, rfl, (by show 1 ≤ 1000; decide), fun a na => ⟨a, _, rfl, upd_same, fun dx2 nd ne => raise1 (fun d nd => kR i (by rw [dr, hb, badT_no no]) _ _ (x1.trans (same_sx (s3.trans (same_upd nd)))) upd_same) na nd ne⟩⟩
      have c := V.int.inj c
      rw [List.length_map] at c
      obtain ⟨t, cs, rfl⟩ : ∃ t cs, r = t :: cs := by
        cases r with
        | nil =>
          rw [List.length_nil] at c
          omega
        | cons t cs => exact ⟨t, cs, rfl⟩
      rw [List.length_cons] at c
      have cl : cs.length = m := by omega
      refine ⟨_, rfl, _, rfl, _, rfl, (i : Int), m, rfl, by omega, fun H4 l s4 nl hl => ?_⟩
      refine ⟨us[i], l, t, cs, lotOf i m, rfl, s4 _ _ hu, hl, by omega, fun H5 s5 => ?_⟩
      have s35 := (s3.trans s4).trans s5
      have ro : rowOk m i (t :: cs) = fitR (lotOf i m) t cs := by
        show (decide (cs.length = m) && fitR (lotOf i m) t cs) = _
        rw [decide_eq_true cl, Bool.true_and]
      cases e : fitR (lotOf i m) t cs with
      | true =>
        exact ⟨true, rfl, iteF ⟨_, _, rfl, s35, by rw [hb, badT_ok (ro.trans e)]⟩⟩
      | false =>
        have no : ¬ rowOk m i (t :: cs) = true := fun z => by
          rw [ro, e] at z
          cases z
        refine ⟨false, rfl, iteT ?_⟩
        exact ⟨_, rfl, (by show 1 ≤ 1000; decide), fun a na => ⟨a, _, rfl, upd_same, fun dx2 nd ne => raise1 (fun d nd => kR i (by rw [dr, hb, badT_no no]) _ _ (x1.trans (same_sx (s35.trans (same_upd nd)))) upd_same) na nd ne⟩⟩
    · rintro σ H2 ⟨y1, y2, rfl, sx, hb⟩
      rw [List.length_map, rl, List.drop_length] at hb
      have mk : dueT m rows = .made := by rw [dr, hb]; rfl
      have all := badT_all (hb.trans rfl)
      have hL2 := sx _ _ hL1
      have row2 := row1.same sx
      refine ⟨_, rfl, L, rfl, ⟨_, lst_l hL2⟩, fun D nD => lc_list (K := K) (a := L) (xs := us.map V.ref) (fun i H7 => ∃ zs : List Addr, Same H2 H7 ∧ H7 D = some (.lst (zs.map V.ref)) ∧ zs.length = i) ⟨[], same_upd nD, upd_same, rfl⟩ (fun i H7 _ ⟨_, s, _⟩ => lst_l (s _ _ hL2)) ?_ ?_⟩
      · rintro i x H7 hi ⟨zs, s7, hD, lz⟩
        have i1 : i < us.length := by
          have := (List.getElem?_eq_some_iff.mp hi).1
          rw [List.length_map] at this
          exact this
        have h1 : us[i]? = some us[i] := List.getElem?_eq_getElem i1
        have h2 : rows[i]? = some rows[i] := List.getElem?_eq_getElem (by omega)
        rw [List.getElem?_map, h1] at hi
        cases hi
        have hu := s7 _ _ (row2.2 i _ _ h1 h2)
        have bnd := lw _ (List.mem_of_getElem? h2)
        obtain ⟨b, ws, e, b0, wl⟩ := row_nats (all i _ h2)
        rw [e] at hu bnd
        have b1 : b < 2 ^ 90 := by
          have := bnd.2 (b : Int) (by unfold cz; exact List.mem_map.mpr ⟨b, List.mem_cons_self, rfl⟩)
          omega
        refine ⟨rfl, ?_⟩
        refine lc_yes ?_
        refine iteT ?_
        refine ⟨_, rfl, us[i], b, ws, rfl, hu, by omega, b0, b1, fun H8 t s8 => ?_⟩
        have hD8 := s8 _ _ hD
        refine ⟨_, hD8, ?_, zs ++ [t], same_mut (s7.trans s8) nD, ?_, ?_⟩
        · rw [List.length_map]
          exact small1000 (by omega)
        · rw [upd_same, List.map_append]
          rfl
        · rw [List.length_append, lz]
          rfl
      · rintro H7 ⟨zs, s7, hD, lz⟩
        refine ⟨D, _, rfl, .inl ⟨lst_l hD, fun t nt => ?_⟩⟩
        have s8 := (sx.trans s7).trans (same_upd (o := .tup (zs.map V.ref)) nt)
        exact ⟨_, rfl, p, C_Tabled, dx, _, rfl, s8 _ _ hp1, T.cl_Tabled, T.n_Tabled_rows, (by show 1 < 1000; decide), q mk _ ((x1.trans (same_sx s8)).trans SameX.put)⟩
def sp__law_cell (K : PySem.W.Frag) : Sp := fun vs H Q _ => ∃ (a : Addr) (ns : List Int) (j : Nat), vs = [.ref a, .int (j : Int)] ∧ SqL K H a (ns.map V.int) ∧ ∀ v : Int, Q (.int v) H
theorem ok__law_cell {f : Addr} {fd : FuncData} {C_Tabled C_TooMany C_BadTable C_BadNumber C_NoBuyers C_BadLot C_ShelfError : Addr} (F : Fun K "_law_cell" "_law_cell" s__law_cell f fd) (T : Txt K mg C_Tabled C_TooMany C_BadTable C_BadNumber C_NoBuyers C_BadLot C_ShelfError) (m_int : mg "int" = none) (m_len : mg "len" = none) : FnOk P w K mg base CX0 1 f fd ["_law_script", "_law_place"] (sp__law_cell K) := by
  refine F.ok sc__law_cell (fun vs H Q E h => ?_) (fun cdv A outer s H vs Q E hr h => ?_)
  · obtain ⟨a, ns, j, rfl, _⟩ := h
    rfl
  · obtain ⟨a, ns, j, rfl, hS, q⟩ := h
    refine ⟨_, (pss_cons (ps_if (pt_cmpR op_lt (pv 1) (pe_callB call_len_seq (by rfl) m_len (by decide +kernel) (pa_cons (pv 0) pa_nil)) (nomark _)) (pss_one (ps_ret (pe_callTy call_int1 (by rfl) m_int (by decide +kernel) (pa_cons (pe_ix ix_list (pv 0) (pv 1) (fun _ _ => rfl)) pa_nil)))) pss_nil)
      (pss_one (ps_ret pe_int))), ?_⟩
    refine ⟨_, rfl, .ref a, rfl, a, _, rfl, .inl hS, _, _, rfl, rfl, _, rfl, ite2 (fun e => ?_) (fun _ => q 0)⟩
    have hj : j < ns.length := by
      have e := of_decide_eq_true e
      rw [List.length_map] at e
      omega
    exact ⟨.ref a, rfl, .int (j : Int), rfl, a, _, _, _, rfl, rfl, hS, atI_nat (int_at (List.getElem?_eq_getElem hj)), .inl ⟨_, rfl, q _⟩⟩
def sp__law_draws (K : PySem.W.Frag) : Sp := fun vs H Q _ => ∃ (c : Int) (a : Addr) (ns : List Int), vs = [.int c, .ref a] ∧ SqL K H a (ns.map V.int) ∧ (∀ n ∈ ns, 0 < n ∧ n < 2 ^ 100) ∧ ns.length ≤ 1000 ∧
  ∀ ds H' p, Within ds ns → Same H H' → H p = none → H' p = some (.lst (ds.map V.int)) → Q (.ref p) H'

theorem ok__law_draws {f : Addr} {fd : FuncData} {C_Tabled C_TooMany C_BadTable C_BadNumber C_NoBuyers C_BadLot C_ShelfError : Addr} (F : Fun K "_law_draws" "_law_draws" s__law_draws f fd) (T : Txt K mg C_Tabled C_TooMany C_BadTable C_BadNumber C_NoBuyers C_BadLot C_ShelfError) (m_int : mg "int" = none) (m_len : mg "len" = none) (m_range : mg "range" = none) : FnOk P w K mg base CX0 1 f fd ["_law_cell_here", "_law_sizes"] (sp__law_draws K) := by
  refine F.ok sc__law_draws (fun vs H Q E h => ?_) (fun cdv A outer s H vs Q E hr h => ?_)
  · obtain ⟨c, a, ns, rfl, _⟩ := h
    rfl
  · obtain ⟨c, a, ns, rfl, hS, hn, hlen, q⟩ := h
    refine ⟨_, (pss_cons (ps_if (pt_cmpR op_eq (pv 0) pe_int (nomark _)) (pss_one (ps_ret (pe_lc (own := [("_law_size", 2)]) (g := (gName 2)) (tt := tYes) rfl sc__law_draws.nd (pi_list (pv 1)) (blkOk_by (own := [("_law_size", 2)]) (N := ["_law_cell_here", "_law_sizes", "_law_size", "_law_left", "_law_found", "_law_k", "_law_low", "_law_high"]) (sc := defScope s__law_draws) (by decide +kernel)) (fun _ _ _ _ _ => (pg_name (i := 2) sc__law_draws.nd rfl (Or.inl rfl))) (fun _ _ _ _ _ => pts_nil) (fun _ _ _ _ _ => pe_int)))) pss_nil)
      (pss_cons (ps_if (pt_cmpR op_ge (pv 0) (pe_op op_pow pe_int pe_int) (nomark _)) (pss_cons (ps_set (i := 3) sc__law_draws.nd rfl (Or.inl rfl) (pe_op op_sub (pv 0) (pe_op op_pow pe_int pe_int)))
      (pss_cons (ps_set (i := 4) sc__law_draws.nd rfl (Or.inl rfl) (pe_lst pa_nil))
      (pss_cons (ps_for PassesOwn.never rfl (pi_list (pv 1)) (pg_name (i := 2) sc__law_draws.nd rfl (Or.inl rfl))
      (pss_cons (ps_expr (pe_bm PySem.F.plainAttrs_list PySem.F.slot_list_append PySem.F.type_list_append mt_append (pv 4) (pa_cons (pe_op op_mod (pe_callTy call_int1 (by rfl) m_int (by decide +kernel) (pa_cons (pv 3) pa_nil)) (pv 2)) pa_nil)))
      (pss_one (ps_set (i := 3) sc__law_draws.nd rfl (Or.inl rfl) (pe_op op_fdivW (pv 3) (pv 2))))))
      (pss_one (ps_ret (pv 4)))))) pss_nil)
      (pss_cons (ps_set (i := 4) sc__law_draws.nd rfl (Or.inl rfl) (pe_lst pa_nil))
      (pss_cons (ps_for PassesOwn.never rfl (pi_range1 (by rfl) m_range (pa_cons (pe_callB call_len_seq (by rfl) m_len (by decide +kernel) (pa_cons (pv 1) pa_nil)) pa_nil)) (pg_name (i := 5) sc__law_draws.nd rfl (Or.inl rfl))
      (pss_cons (ps_set (i := 6) sc__law_draws.nd rfl (Or.inl rfl) (pe_op op_mod (pe_callTy call_int1 (by rfl) m_int (by decide +kernel) (pa_cons (pe_op op_add (pe_op op_mul (pv 0) pe_int) (pe_op op_mul (pe_op op_add (pv 5) pe_int) pe_int)) pa_nil)) pe_int))
      (pss_cons (ps_set (i := 6) sc__law_draws.nd rfl (Or.inl rfl) (pe_op op_mod (pe_callTy call_int1 (by rfl) m_int (by decide +kernel) (pa_cons (pe_op op_add (pe_op op_mul (pv 6) pe_int) (pe_op op_mul (pe_op op_add (pv 5) pe_int) pe_int)) pa_nil)) pe_int))
      (pss_cons (ps_set (i := 7) sc__law_draws.nd rfl (Or.inl rfl) (pe_op op_mod (pe_callTy call_int1 (by rfl) m_int (by decide +kernel) (pa_cons (pe_op op_add (pe_op op_mul (pv 0) pe_int) (pe_op op_mul (pe_op op_add (pv 5) pe_int) pe_int)) pa_nil)) pe_int))
      (pss_cons (ps_set (i := 7) sc__law_draws.nd rfl (Or.inl rfl) (pe_op op_mod (pe_callTy call_int1 (by rfl) m_int (by decide +kernel) (pa_cons (pe_op op_add (pe_op op_mul (pv 7) pe_int) (pv 6)) pa_nil)) pe_int))
      (pss_one (ps_expr (pe_bm PySem.F.plainAttrs_list PySem.F.slot_list_append PySem.F.type_list_append mt_append (pv 4) (pa_cons (pe_op op_mod (pe_callTy call_int1 (by rfl) m_int (by decide +kernel) (pa_cons (pe_op op_add (pe_op op_mul (pv 7) pe_int) (pv 6)) pa_nil)) (pe_ix ix_list (pv 1) (pv 5) (fun _ _ => rfl))) pa_nil)))))))))
      (pss_one (ps_ret (pv 4))))))), ?_⟩
    have small : ∀ {ds : List Int} {i : Nat}, Within ds (ns.take i) → (ds.map V.int).length < sizeLine := fun {ds i} w => by
      rw [List.length_map, w.len, List.length_take]
      exact small1000 (by omega)
    refine ⟨_, rfl, rfl, _, rfl, ite2 (fun _ => ?_) (fun _ => ?_)⟩
    · -- [0 for size in sizes]
      refine ⟨.ref a, rfl, a, rfl, ⟨_, hS⟩, fun D nD => lc_list (K := K) (a := a) (xs := ns.map V.int) (fun i H2 => ∃ ds : List Int, Same H H2 ∧ H2 D = some (.lst (ds.map V.int)) ∧ Within ds (ns.take i)) ⟨[], same_upd nD, upd_same, Within.zero ns⟩ (fun i H2 _ ⟨_, s, _⟩ => s.seq hS) ?_ ?_⟩
      · rintro i x H2 hi ⟨ds, s, hD, w⟩
        obtain ⟨n, rfl, hin⟩ := int_of hi
        refine ⟨rfl, ?_⟩
        refine lc_yes ?_
        refine iteT ?_
        exact ⟨_, hD, small w, ds ++ [0], same_mut s nD, by rw [upd_same, ← snoc_int], w.step hin (Int.le_refl 0) (hn n (List.mem_of_getElem? hin)).1⟩
      · rintro H2 ⟨ds, s, hD, w⟩
        rw [List.length_map] at w
        exact q ds H2 D w.full s nD hD
    refine ⟨_, rfl, 10, 18, rfl, rfl, ⟨by decide, by decide, by decide⟩, _, _, rfl, rfl, _, rfl, ite2 (fun _ => ?_) (fun _ => ?_)⟩
    · -- left = cell - 10 ** 18; found = []
      refine ⟨_, rfl, 10, 18, rfl, rfl, ⟨by decide, by decide, by decide⟩, _, _, rfl, rfl, ?_⟩
      refine ⟨Nat.zero_le _, fun o no => ?_⟩
      have s1 : Same H (upd H o (.lst [])) := same_upd no
      refine ⟨.ref a, rfl, a, rfl, ⟨_, s1.seq hS⟩, for_list (K := K) (a := a) (xs := ns.map V.int) (fun i σ H2 => ∃ (ds : List Int) (l : Int) (y : Option V), σ = [some (.int c), some (.ref a), y, some (.int l), some (.ref o), none, none, none] ∧ Same H H2 ∧ H2 o = some (.lst (ds.map V.int)) ∧ Within ds (ns.take i))
        ⟨[], _, none, rfl, s1, upd_same, Within.zero ns⟩ (fun i σ H2 _ ⟨_, _, _, _, s, _⟩ => s.seq hS) ?_ ?_⟩
      · rintro i x σ H2 hi ⟨ds, l, y, rfl, s, hD, w⟩
        obtain ⟨n, rfl, hin⟩ := int_of hi
        obtain ⟨n0, n1⟩ := hn n (List.mem_of_getElem? hin)
        refine ⟨.ref o, rfl, .inl ⟨rfl, _, lst_l hD⟩, _, rfl, .inl ⟨l, rfl, _, rfl, _, _, rfl, rfl, n0, o, _, _, rfl, rfl, hD, small w, ?_⟩⟩
        refine ⟨_, rfl, _, rfl, _, _, rfl, rfl, w_div n0 n1, ds ++ [l % n], _, _, rfl, same_mut s no, by rw [upd_same, ← snoc_int], w.step hin (Int.emod_nonneg _ (by omega)) (Int.emod_lt_of_pos _ n0)⟩
      · rintro σ H2 ⟨ds, l, y, rfl, s, hD, w⟩
        rw [List.length_map] at w
        exact ⟨_, rfl, q ds H2 o w.full s no hD⟩
    · refine ⟨Nat.zero_le _, fun o no => ?_⟩
      have s1 : Same H (upd H o (.lst [])) := same_upd no
      refine ⟨.ref a, rfl, a, _, rfl, .inl (s1.seq hS), _, rfl, ?_⟩
      rw [List.length_map]
      refine ⟨by omega, by omega, ?_⟩
      rw [Int.toNat_natCast]
      refine for_range (lo := 0) (n := ns.length) (fun i σ H2 => ∃ (ds : List Int) (y1 y2 y3 : Option V), σ = [some (.int c), some (.ref a), none, none, some (.ref o), y1, y2, y3] ∧ Same H H2 ∧ H2 o = some (.lst (ds.map V.int)) ∧ Within ds (ns.take i))
        ⟨[], none, none, none, rfl, s1, upd_same, Within.zero ns⟩ ?_ ?_
      · rintro i σ H2 hi ⟨ds, y1, y2, y3, rfl, s, hD, w⟩
        have hin : ns[i]? = some ns[i] := List.getElem?_eq_getElem hi
        obtain ⟨n0, n1⟩ := hn ns[i] (List.getElem_mem hi)
        refine ⟨_, rfl, _, _, rfl, rfl, .inr ⟨by decide, by decide⟩, _, rfl, _, _, rfl, rfl, _, _, rfl, rfl, .inr ⟨by decide, by decide⟩, _, _, rfl, rfl, .inl ⟨_, rfl, _, _, rfl, rfl, (show (0 : Int) < 2147483647 by decide), ?_⟩⟩
        refine ⟨_, rfl, _, _, rfl, rfl, .inr ⟨by decide, by decide⟩, _, rfl, _, _, rfl, rfl, _, _, rfl, rfl, .inr ⟨by decide, by decide⟩, _, _, rfl, rfl, .inl ⟨_, rfl, _, _, rfl, rfl, (show (0 : Int) < 2147483399 by decide), ?_⟩⟩
        refine ⟨_, rfl, _, _, rfl, rfl, .inr ⟨by decide, by decide⟩, _, rfl, _, _, rfl, rfl, _, _, rfl, rfl, .inr ⟨by decide, by decide⟩, _, _, rfl, rfl, .inl ⟨_, rfl, _, _, rfl, rfl, (show (0 : Int) < 2147483563 by decide), ?_⟩⟩
        refine ⟨_, rfl, _, _, rfl, rfl, .inr ⟨by decide, by decide⟩, _, rfl, _, _, rfl, rfl, .inl ⟨_, rfl, _, _, rfl, rfl, (show (0 : Int) < 2147483587 by decide), ?_⟩⟩
        refine ⟨.ref o, rfl, .inl ⟨rfl, _, lst_l hD⟩, _, rfl, _, _, rfl, rfl, .inr ⟨by decide, by decide⟩, _, rfl, _, _, rfl, rfl, .inl ⟨_, rfl, .ref a, rfl, .int (0 + (i : Int)), rfl, a, _, _, _, rfl, rfl, s.seq hS, at_of (Int.zero_add _) (int_at hin), _, _, rfl, rfl, n0, o, _, _, rfl, rfl, hD, small w, ?_⟩⟩
        exact ⟨ds ++ [_], _, _, _, rfl, same_mut s no, by rw [upd_same, ← snoc_int], w.step hin (Int.emod_nonneg _ (by omega)) (Int.emod_lt_of_pos _ n0)⟩
      · rintro σ H2 ⟨ds, y1, y2, y3, rfl, s, hD, w⟩
        exact ⟨_, rfl, q ds H2 o w.full s no hD⟩
def sp__law_lot (K : PySem.W.Frag) : Sp := fun vs H Q _ => ∃ (b : Int) (m : Nat), vs = [.int b, .int (m : Int)] ∧ m ≤ 1000 ∧ ∀ H' p, Same H H' → H p = none → H' p = some (.tup ((lotOf b m).map V.int)) → Q (.ref p) H'

theorem ok__law_lot {f : Addr} {fd : FuncData} {C_Tabled C_TooMany C_BadTable C_BadNumber C_NoBuyers C_BadLot C_ShelfError : Addr} (F : Fun K "_law_lot" "_law_lot" s__law_lot f fd) (T : Txt K mg C_Tabled C_TooMany C_BadTable C_BadNumber C_NoBuyers C_BadLot C_ShelfError) (m_int : mg "int" = none) (m_range : mg "range" = none) (m_tuple : mg "tuple" = none) : FnOk P w K mg base CX0 1 f fd ["_law_bits", "_law_many"] (sp__law_lot K) := by
  refine F.ok sc__law_lot (fun vs H Q E h => ?_) (fun cdv A outer s H vs Q E hr h => ?_)
  · obtain ⟨b, m, rfl, _⟩ := h
    rfl
  · obtain ⟨b, m, rfl, hm, q⟩ := h
    refine ⟨_, (pss_cons (ps_set (i := 2) sc__law_lot.nd rfl (Or.inl rfl) (pe_lst pa_nil))
      (pss_cons (ps_set (i := 3) sc__law_lot.nd rfl (Or.inl rfl) (pe_callTy call_int1 (by rfl) m_int (by decide +kernel) (pa_cons (pv 0) pa_nil)))
      (pss_cons (ps_for PassesOwn.never rfl (pi_range1 (by rfl) m_range (pa_cons (pv 1) pa_nil)) (pg_name (i := 4) sc__law_lot.nd rfl (Or.inl rfl))
      (Evl.pss_cut (ps_if (pt_cmpR op_eq (pe_op op_mod (pv 3) pe_int) pe_int (nomark _)) (pss_one (ps_expr (pe_bm PySem.F.plainAttrs_list PySem.F.slot_list_append PySem.F.type_list_append mt_append (pv 2) (pa_cons (pv 4) pa_nil)))) pss_nil)
      (pss_one (ps_set (i := 3) sc__law_lot.nd rfl (Or.inl rfl) (pe_op op_fdivW (pv 3) pe_int)))))
      (pss_one (ps_ret (pe_callTy call_tuple_of (by rfl) m_tuple (by decide +kernel) (pa_cons (pv 2) pa_nil))))))), ?_⟩
    refine ⟨Nat.zero_le _, fun o no => ?_⟩
    refine ⟨_, rfl, .inl ⟨b, rfl, ?_⟩⟩
    refine ⟨_, rfl, _, rfl, by omega, by omega, ?_⟩
    rw [Int.toNat_natCast]
    refine for_range (lo := 0) (n := m) (fun i σ H2 => ∃ (y : Option V), σ = [some (.int b), some (.int (m : Int)), some (.ref o), some (.int (b / 2 ^ i)), y] ∧ Same H H2 ∧ H2 o = some (.lst ((lotOf b i).map V.int))) ⟨none, ?_, same_upd no, upd_same⟩ ?_ ?_
    · show [some (V.int b), some (V.int (m : Int)), some (V.ref o), some (V.int b), none] = [some (V.int b), some (V.int (m : Int)), some (V.ref o), some (V.int (b / 1)), none]
      rw [Int.ediv_one]
    · rintro i σ H2 hi ⟨y, rfl, s, hD⟩
      have hl : ((lotOf b i).map V.int).length < sizeLine := by
        rw [List.length_map]
        exact small1000 (Nat.le_trans (lotOf_len b i) (by omega))
      refine ⟨fun σ' H' => σ' = [some (.int b), some (.int (m : Int)), some (.ref o), some (.int (b / 2 ^ i)), some (.int (0 + (i : Int)))] ∧ Same H H' ∧ H' o = some (.lst ((lotOf b (i + 1)).map V.int)), ?_, ?_⟩
      · refine ⟨_, rfl, _, _, rfl, rfl, (show (0 : Int) < 2 by decide), rfl, _, rfl, ite2 (fun e => ?_) (fun e => ?_)⟩
        · have e : b / 2 ^ i % 2 = 1 := V.int.inj (of_decide_eq_true e)
          refine ⟨.ref o, rfl, .inl ⟨rfl, _, lst_l hD⟩, _, rfl, o, _, _, rfl, rfl, hD, hl, rfl, same_mut s no, ?_⟩
          rw [upd_same]
          show _ = some (HO.lst ((lotOf b i ++ (if b / 2 ^ i % 2 = 1 then [(i : Int)] else [])).map V.int))
          rw [if_pos e, ← snoc_int, Int.zero_add]
        · have e : ¬ b / 2 ^ i % 2 = 1 := fun z => e (decide_eq_true (congrArg V.int z))
          refine ⟨rfl, s, ?_⟩
          show _ = some (HO.lst ((lotOf b i ++ (if b / 2 ^ i % 2 = 1 then [(i : Int)] else [])).map V.int))
          rw [if_neg e, List.append_nil]
          exact hD
      · rintro σ' H' ⟨rfl, s', hD'⟩
        refine ⟨_, rfl, _, _, rfl, rfl, ⟨by decide, by decide⟩, some (.int (0 + (i : Int))), ?_, s', hD'⟩
        dsimp only
        rw [half]
        rfl
    · rintro σ H2 ⟨y, rfl, s, hD⟩
      exact ⟨.ref o, rfl, o, _, rfl, .inl ⟨lst_l hD, fun p np => q _ p (same_mut s (s.free np)) (s.free np) upd_same⟩⟩
def sp__law_power : Sp := fun vs H Q _ => ∃ m : Nat, vs = [.int (m : Int)] ∧ m < 100000 ∧ Q (.int (2 ^ m)) H
theorem ok__law_power {f : Addr} {fd : FuncData} {C_Tabled C_TooMany C_BadTable C_BadNumber C_NoBuyers C_BadLot C_ShelfError : Addr} (F : Fun K "_law_power" "_law_power" s__law_power f fd) (T : Txt K mg C_Tabled C_TooMany C_BadTable C_BadNumber C_NoBuyers C_BadLot C_ShelfError) (m_range : mg "range" = none) : FnOk P w K mg base CX0 1 f fd ["_law_many"] sp__law_power := by
  refine F.ok sc__law_power (fun vs H Q E h => ?_) (fun cdv A outer s H vs Q E hr h => ?_)
  · obtain ⟨m, rfl, _⟩ := h
    rfl
  · obtain ⟨m, rfl, hm, q⟩ := h
    refine ⟨_, (pss_cons (ps_set (i := 1) sc__law_power.nd rfl (Or.inl rfl) pe_int)
      (pss_cons (ps_for PassesOwn.never rfl (pi_range1 (by rfl) m_range (pa_cons (pv 0) pa_nil)) (pg_name (i := 2) sc__law_power.nd rfl (Or.inl rfl))
      (pss_one (ps_set (i := 1) sc__law_power.nd rfl (Or.inl rfl) (pe_op op_mul (pv 1) pe_int))))
      (pss_one (ps_ret (pv 1))))), ?_⟩
    refine ⟨_, rfl, _, rfl, by omega, by omega, ?_⟩
    rw [Int.toNat_natCast]
    refine for_range (lo := 0) (n := m) (fun i σ H2 => ∃ (y : Option V), σ = [some (.int (m : Int)), some (.int (2 ^ i)), y] ∧ H2 = H) ⟨none, rfl, rfl⟩ ?_ ?_
    · rintro i σ H2 hi ⟨y, rfl, rfl⟩
      refine ⟨_, rfl, _, _, rfl, rfl, .inr (by decide), some (.int (0 + (i : Int))), ?_, rfl⟩
      rw [Int.pow_succ]
      rfl
    · rintro σ H2 ⟨y, rfl, rfl⟩
      exact ⟨_, rfl, q⟩
def sp__law_is_int : Sp := fun vs H Q _ => ∃ v : Int, vs = [.int v] ∧ Q (.bl true) H
theorem ok__law_is_int {f : Addr} {fd : FuncData} {C_Tabled C_TooMany C_BadTable C_BadNumber C_NoBuyers C_BadLot C_ShelfError : Addr} (F : Fun K "_law_is_int" "_law_is_int" s__law_is_int f fd) (T : Txt K mg C_Tabled C_TooMany C_BadTable C_BadNumber C_NoBuyers C_BadLot C_ShelfError) (m_bool : mg "bool" = none) (m_int : mg "int" = none) (m_isinstance : mg "isinstance" = none) : FnOk P w K mg base CX0 1 f fd ["_law_x"] sp__law_is_int := by
  refine F.ok sc__law_is_int (fun vs H Q E h => ?_) (fun cdv A outer s H vs Q E hr h => ?_)
  · obtain ⟨v, rfl, _⟩ := h
    rfl
  · obtain ⟨v, rfl, q⟩ := h
    refine ⟨_, (pss_one (ps_ret (pe_and (pe_callB call_isi (by rfl) m_isinstance (by decide +kernel) (pa_cons (pv 0) (pa_cons (pe_bltn (v := .ty "int") (by rfl) m_int (by decide +kernel) rfl) pa_nil))) (pe_one (pe_not (pe_callB call_isi (by rfl) m_isinstance (by decide +kernel) (pa_cons (pv 0) (pa_cons (pe_bltn (v := .ty "bool") (by rfl) m_bool (by decide +kernel) rfl) pa_nil)))))))), ?_⟩
    exact ⟨_, rfl, .int v, .ty "int", _, _, true, rfl, .ty "int", .base (.int v), kit_ty kI, true, rfl, iteT ⟨_, rfl, .int v, .ty "bool", _, _, false, rfl, .ty "bool", .base (.int v), kit_ty kB, false, rfl, q⟩⟩
def sp__law_right : Sp := fun vs H Q _ => ∃ (r l : Addr) (row : List Int) (m n : Nat), vs = [.ref r, .ref l, .int (m : Int)] ∧ H r = some (.lst (row.map V.int)) ∧ H l = some (.tup ((lotOf n m).map V.int)) ∧ m ≤ 900 ∧ Q (.bl (rowOk m n row)) H
theorem ok__law_right {f : Addr} {fd : FuncData} {C_Tabled C_TooMany C_BadTable C_BadNumber C_NoBuyers C_BadLot C_ShelfError : Addr} (F : Fun K "_law_right" "_law_right" s__law_right f fd) (T : Txt K mg C_Tabled C_TooMany C_BadTable C_BadNumber C_NoBuyers C_BadLot C_ShelfError) (m_len : mg "len" = none) (m_range : mg "range" = none) : FnOk P w K mg base CX0 1 f fd ["_law_row", "_law_lot_here", "_law_many"] sp__law_right := by
  refine F.ok sc__law_right (fun vs H Q E h => ?_) (fun cdv A outer s H vs Q E hr h => ?_)
  · obtain ⟨r, l, row, m, n, rfl, _⟩ := h
    rfl
  · obtain ⟨r, l, row, m, n, rfl, hrw, hl, hm, q⟩ := h
    refine ⟨_, (pss_cons (ps_if (pt_cmpR op_ne (pe_callB call_len_seq (by rfl) m_len (by decide +kernel) (pa_cons (pv 0) pa_nil)) (pe_op op_add (pv 2) pe_int) (nomark _)) (pss_one (ps_ret pe_bl)) pss_nil)
      (pss_cons (ps_set (i := 3) sc__law_right.nd rfl (Or.inl rfl) pe_int)
      (pss_cons (ps_for PassesOwn.never rfl (pi_range1 (by rfl) m_range (pa_cons (pv 2) pa_nil)) (pg_name (i := 4) sc__law_right.nd rfl (Or.inl rfl))
      (pss_cons (ps_if (PW.pt (pw_or (pt_cmpR op_lt (pe_ix ix_list (pv 0) (pe_op op_add (pv 4) pe_int) (fun _ _ => rfl)) pe_int (nomark _)) (pw_or1 (PW.pt (pw_and (pt_cmpR op_ne (pe_ix ix_list (pv 0) (pe_op op_add (pv 4) pe_int) (fun _ _ => rfl)) pe_int (nomark _)) (pw_and1 (pt_cmpR op_notIn_seq (pv 4) (pv 1) (by rfl)))))))) (pss_one (ps_ret pe_bl)) pss_nil)
      (pss_one (ps_set (i := 3) sc__law_right.nd rfl (Or.inl rfl) (pe_op op_add (pv 3) (pe_ix ix_list (pv 0) (pe_op op_add (pv 4) pe_int) (fun _ _ => rfl)))))))
      (pss_one (ps_ret (pe_and (pe_cmpR op_ge (pe_ix ix_list (pv 0) pe_int (fun _ _ => rfl)) pe_int (nomark _)) (pe_one (pe_cmpR op_le (pv 3) (pe_ix ix_list (pv 0) pe_int (fun _ _ => rfl)) (nomark _))))))))), ?_⟩
    refine ⟨_, rfl, r, _, rfl, .inl (lst_l hrw), _, rfl, _, _, rfl, rfl, rfl, _, rfl, ite2N (fun c => ?_) (fun c => ?_)⟩
    · rw [rowOk_len fun z => c (congrArg V.int (by rw [List.length_map, z]; rfl))] at q
      exact q
    have c := V.int.inj c
    rw [List.length_map] at c
    obtain ⟨t, cs, rfl⟩ : ∃ t cs, row = t :: cs := by
      cases row with
      | nil =>
        rw [List.length_nil] at c
        omega
      | cons t cs => exact ⟨t, cs, rfl⟩
    rw [List.length_cons] at c
    have cl : cs.length = m := by omega
    have ro : rowOk m n (t :: cs) = fitR (lotOf n m) t cs := by
      show (decide (cs.length = m) && fitR (lotOf n m) t cs) = _
      rw [decide_eq_true cl, Bool.true_and]
    rw [ro] at q
    generalize lotOf n m = ls at q hl
    refine ⟨_, rfl, _, rfl, by omega, by omega, ?_⟩
    rw [Int.toNat_natCast]
    refine for_range (lo := 0) (n := m) (fun i σ H2 => ∃ (y : Option V), σ = [some (.ref r), some (.ref l), some (.int (m : Int)), some (.int (cs.take i).sum), y] ∧ H2 = H ∧ cntB ls cs 0 = cntB ls (cs.drop i) i) ⟨none, rfl, rfl, rfl⟩ ?_ ?_
    · rintro i σ H2 hi ⟨y, rfl, rfl, hb⟩
      have hc : cs[i]? = some cs[i] := List.getElem?_eq_getElem (by omega)
      have v1 : ((t :: cs).map V.int)[i + 1]? = some (.int cs[i]) := by
        rw [List.map_cons, List.getElem?_cons_succ]
        exact int_at hc
      have hs : (cs.take (i + 1)).sum = (cs.take i).sum + cs[i] := by
        rw [List.take_add_one, hc, List.sum_append]
        simp
      rw [drop_cons hc] at hb
      generalize cs[i] = c at hc v1 hb hs
      have stp : cntB ls (c :: cs.drop (i + 1)) i = if c < 0 then false else if c > 0 ∧ ¬ inV (.int (i : Int)) (ls.map V.int) = true then false else cntB ls (cs.drop (i + 1)) (i + 1) := rfl
      have bad : cntB ls cs 0 = false → Q (.bl false) H2 := fun e => by
        have : fitR ls t cs = false := by
          unfold fitR
          rw [e]
          rfl
        exact this ▸ q
      refine ⟨_, rfl, _, rfl, _, _, rfl, rfl, r, _, _, _, rfl, rfl, lst_l hrw, at_of (j := i + 1) (by omega) v1, _, _, rfl, rfl, _, rfl, ite2 (fun c1 => ?_) (fun c1 => ⟨_, rfl, _, rfl, _, _, rfl, rfl, r, _, _, _, rfl, rfl, lst_l hrw, at_of (j := i + 1) (by omega) v1, rfl, _, rfl, ite2N (fun c2 => ⟨_, rfl, _, rfl, l, _, rfl, .inr (tup_t hl), rfl, ints_flat ls, _, rfl, ite2 (fun c3 => ?_) (fun c3 => ?_)⟩) (fun c2 => ?_)⟩)⟩
      · have c1 : c < 0 := of_decide_eq_true c1
        exact bad (hb.trans (stp.trans (if_pos c1)))
      · have c1 : ¬ c < 0 := fun z => c1 (decide_eq_true z)
        have c2 : c > 0 := by
          have : ¬ c = 0 := fun z => c2 (congrArg V.int z)
          omega
        have c3 : ¬ inV (.int (i : Int)) (ls.map V.int) = true := fun z => by
          rw [← Int.zero_add (i : Int)] at z
          rw [z] at c3
          cases c3
        refine bad (hb.trans (stp.trans ?_))
        rw [if_neg c1, if_pos ⟨c2, c3⟩]
      · have c1 : ¬ c < 0 := fun z => c1 (decide_eq_true z)
        have c3 : inV (.int (i : Int)) (ls.map V.int) = true := by
          rw [← Int.zero_add (i : Int)]
          cases z : inV (.int (0 + (i : Int))) (ls.map V.int) with
          | true => rfl
          | false => exact absurd (by rw [z]; rfl) c3
        have e := hb.trans (stp.trans ((if_neg c1).trans (if_neg fun z => z.2 c3)))
        exact ⟨_, rfl, _, rfl, _, rfl, _, _, rfl, rfl, r, _, _, _, rfl, rfl, lst_l hrw, at_of (j := i + 1) (by omega) v1, _, _, rfl, rfl, some (.int (0 + (i : Int))), by rw [hs]; rfl, rfl, e⟩
      · have c1 : ¬ c < 0 := fun z => c1 (decide_eq_true z)
        have c2 : c = 0 := V.int.inj c2
        have e := hb.trans (stp.trans ((if_neg c1).trans (if_neg fun z => by omega)))
        exact ⟨_, rfl, _, rfl, _, rfl, _, _, rfl, rfl, r, _, _, _, rfl, rfl, lst_l hrw, at_of (j := i + 1) (by omega) v1, _, _, rfl, rfl, some (.int (0 + (i : Int))), by rw [hs]; rfl, rfl, e⟩
    · rintro σ H2 ⟨y, rfl, rfl, hb⟩
      rw [← cl, List.drop_length] at hb
      rw [← cl, List.take_length]
      have hb : cntB ls cs 0 = true := hb
      have e : fitR ls t cs = (decide (t ≥ 1) && decide (cs.sum ≤ t)) := by
        unfold fitR
        rw [hb, Bool.true_and]
      rw [e] at q
      refine ⟨.ref r, rfl, r, _, _, _, rfl, rfl, lst_l hrw, atI_nat (j := 0) rfl, _, _, rfl, rfl, _, rfl, ite2 (fun c => ?_) (fun c => ?_)⟩
      · rw [decide_eq_true (of_decide_eq_true c), Bool.true_and] at q
        exact ⟨_, rfl, .ref r, rfl, r, _, _, _, rfl, rfl, lst_l hrw, atI_nat (j := 0) rfl, _, _, rfl, rfl, q⟩
      · rw [decide_eq_false (fun z => c (decide_eq_true z)), Bool.false_and] at q
        exact q
def sp__law_due : Sp := fun vs H Q _ => ∃ (L : Addr) (us : List Addr) (rows : List (List Int)) (m : Nat), vs = [.int (m : Int), .ref L] ∧ H L = some (.lst (us.map V.ref)) ∧ RowsL H us rows ∧ us.length ≤ 900 ∧ (∀ r ∈ rows, r.length ≤ 60 ∧ ∀ x ∈ r, x < 2 ^ 90) ∧ ∀ H' t, Same H H' → H' t = some (.tup (dueT m rows).due) → Q (.ref t) H' 
theorem ok__law_due {f : Addr} {fd : FuncData} {C_Tabled C_TooMany C_BadTable C_BadNumber C_NoBuyers C_BadLot C_ShelfError : Addr} (F : Fun K "_law_due" "_law_due" s__law_due f fd) (T : Txt K mg C_Tabled C_TooMany C_BadTable C_BadNumber C_NoBuyers C_BadLot C_ShelfError) (m_len : mg "len" = none) (m_range : mg "range" = none) (c__law_power : Cal P w K mg base CX0 1 "_law_power" ["_law_many"] sp__law_power) (c__law_lot : Cal P w K mg base CX0 1 "_law_lot" ["_law_bits", "_law_many"] (sp__law_lot K)) (c__law_right : Cal P w K mg base CX0 1 "_law_right" ["_law_row", "_law_lot_here", "_law_many"] sp__law_right) : FnOk P w K mg base CX0 2 f fd ["_law_many", "_law_rows_here"] sp__law_due := by
  refine F.ok sc__law_due (fun vs H Q E h => ?_) (fun cdv A outer s H vs Q E hr h => ?_)
  · obtain ⟨L, us, rows, m, rfl, _⟩ := h
    rfl
  · obtain ⟨L, us, rows, m, rfl, hL, row, ul, lw, q⟩ := h
    obtain ⟨f__law_power, fd__law_power, G__law_power, m__law_power, k__law_power, b__law_power⟩ := c__law_power
    obtain ⟨f__law_lot, fd__law_lot, G__law_lot, m__law_lot, k__law_lot, b__law_lot⟩ := c__law_lot
    obtain ⟨f__law_right, fd__law_right, G__law_right, m__law_right, k__law_right, b__law_right⟩ := c__law_right
    refine ⟨_, (pss_cons (ps_if (pt_cmpR op_gt (pv 0) pe_int (nomark _)) (pss_one (ps_ret (pe_tup (pa_cons pe_str (pa_cons (pv 0) (pa_cons pe_int pa_nil)))))) pss_nil)
      (pss_cons (ps_if (pt_cmpR op_ne (pe_callB call_len_seq (by rfl) m_len (by decide +kernel) (pa_cons (pv 1) pa_nil)) (pe_call G__law_power (hr.mono (by decide)) (by rfl) m__law_power k__law_power b__law_power .nil pass0 (pa_cons (pv 0) pa_nil)) (nomark _)) (pss_one (ps_ret (pe_tup (pa_cons pe_str (pa_cons pe_non pa_nil))))) pss_nil)
      (pss_cons (ps_for PassesOwn.never rfl (pi_range1 (by rfl) m_range (pa_cons (pe_callB call_len_seq (by rfl) m_len (by decide +kernel) (pa_cons (pv 1) pa_nil)) pa_nil)) (pg_name (i := 2) sc__law_due.nd rfl (Or.inl rfl))
      (pss_one (ps_if (pt_not (pt_val (pe_call G__law_right (hr.mono (by decide)) (by rfl) m__law_right k__law_right b__law_right .nil pass0 (pa_cons (pe_ix ix_list (pv 1) (pv 2) (fun _ _ => rfl)) (pa_cons (pe_call G__law_lot (hr.mono (by decide)) (by rfl) m__law_lot k__law_lot b__law_lot .nil pass0 (pa_cons (pv 2) (pa_cons (pv 0) pa_nil))) (pa_cons (pv 0) pa_nil)))))) (pss_one (ps_ret (pe_tup (pa_cons pe_str (pa_cons (pv 2) pa_nil))))) pss_nil)))
      (pss_one (ps_ret (pe_tup (pa_cons pe_str pa_nil))))))), ?_⟩
    have qd : ∀ d, dueT m rows = d → ∀ H' t, Same H H' → H' t = some (.tup d.due) → Q (.ref t) H' := fun d e => e ▸ q
    have rl := row.1
    refine ⟨_, rfl, _, _, rfl, rfl, _, rfl, ite2 (fun c => ?_) (fun c => ?_)⟩
    · have c := of_decide_eq_true c
      exact ⟨_, rfl, (by show 3 ≤ sizeLine; decide), fun t nt => qd (.many m) (dueT_many (by omega)) _ t (same_upd nt) upd_same⟩
    have e6 : ¬ m > 6 := fun z => c (decide_eq_true (by omega))
    refine ⟨_, rfl, L, _, rfl, .inl (lst_l hL), _, rfl, m, rfl, by omega, rfl, _, rfl, ite2N (fun c => ?_) (fun c => ?_)⟩
    · have c2 : rows.length ≠ 2 ^ m := fun z => c (congrArg V.int (by
        rw [List.length_map, rl, z]
        exact Int.natCast_pow 2 m))
      exact ⟨(by show 2 ≤ sizeLine; decide), fun t nt => qd .table (dueT_table e6 c2) _ t (same_upd nt) upd_same⟩
    have c := V.int.inj c
    rw [List.length_map, rl] at c
    have c2 : rows.length = 2 ^ m := by
      have : ((2 ^ m : Nat) : Int) = 2 ^ m := Int.natCast_pow 2 m
      omega
    have dr := dueT_rest e6 c2
    refine ⟨_, rfl, L, _, rfl, .inl (lst_l hL), _, rfl, ?_⟩
    rw [List.length_map]
    refine ⟨by omega, by omega, ?_⟩
    rw [Int.toNat_natCast]
    refine for_range (lo := 0) (n := us.length) (fun i σ H2 => ∃ y1 : Option V, σ = [some (.int (m : Int)), some (.ref L), y1] ∧ Same H H2 ∧ badT m rows 0 = badT m (rows.drop i) i) ⟨none, rfl, Same.refl _, rfl⟩ ?_ ?_
    · rintro i σ H2 hi ⟨y1, rfl, s, hb⟩
      have h1 : us[i]? = some us[i] := List.getElem?_eq_getElem hi
      have h2 : rows[i]? = some rows[i] := List.getElem?_eq_getElem (by omega)
      have v1 : (us.map V.ref)[i]? = some (.ref us[i]) := by rw [List.getElem?_map, h1]; rfl
      rw [dropT h2] at hb
      have hu := s _ _ (row.2 i _ _ h1 h2)
      generalize rows[i] = r at hu hb
      refine ⟨_, rfl, _, rfl, L, _, _, _, rfl, rfl, lst_l (s _ _ hL), at_of (Int.zero_add _) v1, _, rfl, _, rfl, (i : Int), m, by rw [Int.zero_add]; rfl, by omega, fun H4 l s4 nl hl => ?_⟩
      refine ⟨_, rfl, us[i], l, r, m, i, rfl, s4 _ _ hu, hl, by omega, ?_⟩
      cases e : rowOk m i r with
      | true => exact ⟨true, rfl, iteF ⟨_, rfl, s.trans s4, by rw [hb, badT_ok e]⟩⟩
      | false =>
        have no : ¬ rowOk m i r = true := fun z => by
          rw [e] at z
          cases z
        exact ⟨false, rfl, iteT ⟨_, rfl, (by show 2 ≤ sizeLine; decide), fun t nt => qd (.row i) (by rw [dr, hb, badT_no no]) _ t ((s.trans s4).trans (same_upd nt)) (by rw [upd_same, Int.zero_add]; rfl)⟩⟩
    · rintro σ H2 ⟨y1, rfl, s, hb⟩
      rw [rl, List.drop_length] at hb
      exact ⟨(by show 1 ≤ sizeLine; decide), fun t nt => qd .made (by rw [dr, hb]; rfl) _ t (s.trans (same_upd nt)) upd_same⟩
def sp__law_asked : Sp := fun vs H Q _ => ∃ (L : Addr) (us : List Addr) (rows : List (List Int)) (m : Nat), vs = [.int (m : Int), .ref L] ∧ H L = some (.lst (us.map V.ref)) ∧ RowsL H us rows ∧ us.length ≤ 900 ∧ (∀ r ∈ rows, r.length ≤ 60 ∧ ∀ x ∈ r, x < 2 ^ 90) ∧ ∀ H' t, Same H H' → H' t = some (.tup (dueT m rows).due) → Q (.ref t) H' 
theorem ok__law_asked {f : Addr} {fd : FuncData} {C_Tabled C_TooMany C_BadTable C_BadNumber C_NoBuyers C_BadLot C_ShelfError : Addr} (F : Fun K "_law_asked" "_law_asked" s__law_asked f fd) (T : Txt K mg C_Tabled C_TooMany C_BadTable C_BadNumber C_NoBuyers C_BadLot C_ShelfError) (c_Tabled___init__ : CalI P w K mg base (L2.CX P w) 5 C_Tabled ["self", "many", "rows"] (sp_Tabled___init__ C_Tabled C_TooMany C_BadTable) []) : FnOk P w K mg base CX0 7 f fd ["_law_many", "_law_rows_here"] sp__law_asked := by
  refine F.ok sc__law_asked (fun vs H Q E h => ?_) (fun cdv A outer s H vs Q E hr h => ?_)
  · obtain ⟨L, us, rows, m, rfl, _⟩ := h
    rfl
  · obtain ⟨L, us, rows, m, rfl, hL, row, ul, lw, q⟩ := h
    obtain ⟨f_Tabled___init__, fd_Tabled___init__, G_Tabled___init__, M_Tabled___init__, b_Tabled___init__, ds_Tabled___init__, vd_Tabled___init__, bd_Tabled___init__⟩ := c_Tabled___init__
    refine ⟨_, (pss_cons (ps_try_asM (out := fun _ _ _ _ => False) rfl rfl sc__law_asked.nd takes0
      (fun W pn xe tk _ => (pss_one (ps_expr (pe_makeS M_Tabled___init__ G_Tabled___init__ (hr.mono (by decide)) (by rfl) T.g_Tabled b_Tabled___init__ .nil (fun σ => passAt tk σ) (pa_cons (pv 0) (pa_cons (pv 1) pa_nil))))))
      (.cons (i := 2) ⟨rfl, by decide, Or.inl T.g_TooMany⟩ rfl rfl (fun a oe cls d pn hz hf => (pss_one (ps_ret (pe_tup (pa_cons pe_str (pa_cons (pe_xf T.xf_TooMany T.n_TooMany_many hz hf (pv 2)) (pa_cons (pe_xf T.xf_TooMany T.n_TooMany_most hz hf (pv 2)) pa_nil)))))))
      (.cons (i := 2) ⟨rfl, by decide, Or.inl T.g_BadTable⟩ rfl rfl (fun a oe cls d pn hz hf => (pss_one (ps_ret (pe_tup (pa_cons pe_str (pa_cons (pe_xf T.xf_BadTable T.n_BadTable_at hz hf (pv 2)) pa_nil))))))
      .nil)))
      (pss_one (ps_ret (pe_tup (pa_cons pe_str pa_nil))))), ?_⟩
    have qd : ∀ d, dueT m rows = d → ∀ H' t, Same H H' → H' t = some (.tup d.due) → Q (.ref t) H' := fun d e => e ▸ q
    refine ⟨_, rfl, _, rfl, fun x dx nx nd _ => ⟨x, dx, L, us, rows, m, rfl, upd_same, made1 nx nd _ _ hL, row.same (made1 nx nd), ul, lw, fun n e H' d sx hd => ?_, fun e H' d sx hd => ?_, fun k e H' d sx hd => ?_, fun e H' sx => ⟨rfl, ?_⟩⟩⟩
    · exact ⟨true, T.exm_TooMany_TooMany, fun _ a0 na => ⟨.ref a0, rfl, rfl, rfl, d, _, _, rfl, hd, by rfl, .ref a0, rfl, rfl, rfl, d, _, _, rfl, hd, by rfl, (by show 3 ≤ sizeLine; decide), fun t nt => qd _ e _ t ((sameX_made nx nd sx).trans (same_upd nt)) upd_same⟩, fun z => Bool.noConfusion z⟩
    · exact ⟨false, T.exm_BadTable_TooMany, fun z => Bool.noConfusion z, fun _ => ⟨true, T.exm_BadTable_BadTable, fun _ a0 na => ⟨.ref a0, rfl, rfl, rfl, d, _, _, rfl, hd, by rfl, (by show 2 ≤ sizeLine; decide), fun t nt => qd _ e _ t ((sameX_made nx nd sx).trans (same_upd nt)) upd_same⟩, fun z => Bool.noConfusion z⟩⟩
    · exact ⟨false, T.exm_BadTable_TooMany, fun z => Bool.noConfusion z, fun _ => ⟨true, T.exm_BadTable_BadTable, fun _ a0 na => ⟨.ref a0, rfl, rfl, rfl, d, _, _, rfl, hd, by rfl, (by show 2 ≤ sizeLine; decide), fun t nt => qd _ e _ t ((sameX_made nx nd sx).trans (same_upd nt)) upd_same⟩, fun z => Bool.noConfusion z⟩⟩
    · exact ⟨(by show 1 ≤ sizeLine; decide), fun t nt => qd _ e _ t ((sameX_made nx nd sx).trans (same_upd nt)) upd_same⟩
def sp__law_classes : Sp := fun vs H Q _ => ∃ (L : Addr) (us : List Addr) (rows : List (List Int)) (m : Nat), vs = [.int (m : Int), .ref L] ∧ H L = some (.lst (us.map V.ref)) ∧ RowsL H us rows ∧ us.length ≤ 900 ∧ (∀ r ∈ rows, r.length ≤ 60 ∧ ∀ x ∈ r, x < 2 ^ 90) ∧ ∀ H' t, Same H H' → H' t = some (.lst (dueT m rows).cls) → Q (.ref t) H' 
theorem ok__law_classes {f : Addr} {fd : FuncData} {C_Tabled C_TooMany C_BadTable C_BadNumber C_NoBuyers C_BadLot C_ShelfError : Addr} (F : Fun K "_law_classes" "_law_classes" s__law_classes f fd) (T : Txt K mg C_Tabled C_TooMany C_BadTable C_BadNumber C_NoBuyers C_BadLot C_ShelfError) (m_ValueError : mg "ValueError" = none) (m_isinstance : mg "isinstance" = none) (c_Tabled___init__ : CalI P w K mg base (L2.CX P w) 5 C_Tabled ["self", "many", "rows"] (sp_Tabled___init__ C_Tabled C_TooMany C_BadTable) []) : FnOk P w K mg base CX0 7 f fd ["_law_many", "_law_rows_here"] sp__law_classes := by
  refine F.ok sc__law_classes (fun vs H Q E h => ?_) (fun cdv A outer s H vs Q E hr h => ?_)
  · obtain ⟨L, us, rows, m, rfl, _⟩ := h
    rfl
  · obtain ⟨L, us, rows, m, rfl, hL, row, ul, lw, q⟩ := h
    obtain ⟨f_Tabled___init__, fd_Tabled___init__, G_Tabled___init__, M_Tabled___init__, b_Tabled___init__, ds_Tabled___init__, vd_Tabled___init__, bd_Tabled___init__⟩ := c_Tabled___init__
    refine ⟨_, (pss_cons (ps_try_as (i := 2) (Wout := fun _ _ _ _ => False) rfl rfl sc__law_classes.nd rfl rfl ⟨rfl, by decide, Or.inl T.g_ShelfError⟩ takes0
      (fun W pn xe tk _ => (pss_one (ps_expr (pe_makeS M_Tabled___init__ G_Tabled___init__ (hr.mono (by decide)) (by rfl) T.g_Tabled b_Tabled___init__ .nil (fun σ => passAt tk σ) (pa_cons (pv 0) (pa_cons (pv 1) pa_nil))))))
      (fun a oe cls d pn hz hf => (pss_cons (ps_set (i := 3) sc__law_classes.nd rfl (Or.inl rfl) (pe_lst (pa_cons (pe_callB (call_isY (K := K) hz hf) (by rfl) m_isinstance (by decide +kernel) (pa_cons (pv 2) (pa_cons (pe_glob (v := .ref C_TooMany) (by rfl) T.g_TooMany rfl) pa_nil))) (pa_cons (pe_callB (call_isY (K := K) hz hf) (by rfl) m_isinstance (by decide +kernel) (pa_cons (pv 2) (pa_cons (pe_glob (v := .ref C_BadTable) (by rfl) T.g_BadTable rfl) pa_nil))) (pa_cons (pe_callB (call_isY (K := K) hz hf) (by rfl) m_isinstance (by decide +kernel) (pa_cons (pv 2) (pa_cons (pe_glob (v := .ref C_BadNumber) (by rfl) T.g_BadNumber rfl) pa_nil))) (pa_cons (pe_callB (call_isY (K := K) hz hf) (by rfl) m_isinstance (by decide +kernel) (pa_cons (pv 2) (pa_cons (pe_glob (v := .ref C_BadLot) (by rfl) T.g_BadLot rfl) pa_nil))) pa_nil))))))
      (pss_one (ps_ret (pe_op op_cat (pv 3) (pe_lst (pa_cons (pe_callB (call_isY (K := K) hz hf) (by rfl) m_isinstance (by decide +kernel) (pa_cons (pv 2) (pa_cons (pe_glob (v := .ref C_NoBuyers) (by rfl) T.g_NoBuyers rfl) pa_nil))) (pa_cons (pe_callB (call_isY (K := K) hz hf) (by rfl) m_isinstance (by decide +kernel) (pa_cons (pv 2) (pa_cons (pe_bltn (v := .ty "ValueError") (by rfl) m_ValueError (by decide +kernel) rfl) pa_nil))) pa_nil)))))))))
      (pss_one (ps_ret (pe_lst pa_nil)))), ?_⟩
    have qd : ∀ d, dueT m rows = d → ∀ H' t, Same H H' → H' t = some (.lst d.cls) → Q (.ref t) H' := fun d e => e ▸ q
    refine ⟨_, rfl, _, rfl, fun x dx nx nd _ => ⟨x, dx, L, us, rows, m, rfl, upd_same, made1 nx nd _ _ hL, row.same (made1 nx nd), ul, lw, fun n e H' d sx hd => ?_, fun e H' d sx hd => ?_, fun k e H' d sx hd => ?_, fun e H' sx => ⟨rfl, ?_⟩⟩⟩
    · exact ⟨true, T.exm_TooMany_ShelfError, fun _ a0 na => ⟨.ref a0, rfl, C_TooMany, T.ec_TooMany, rfl, .inr ⟨d, _, rfl, hd⟩, .ref C_TooMany, .ref C_TooMany, true, rfl, fun _ r => r, T.kit_TooMany_TooMany, .ref a0, rfl, C_TooMany, T.ec_TooMany, rfl, .inr ⟨d, _, rfl, hd⟩, .ref C_BadTable, .ref C_BadTable, false, rfl, fun _ r => r, T.kit_TooMany_BadTable, .ref a0, rfl, C_TooMany, T.ec_TooMany, rfl, .inr ⟨d, _, rfl, hd⟩, .ref C_BadNumber, .ref C_BadNumber, false, rfl, fun _ r => r, T.kit_TooMany_BadNumber, .ref a0, rfl, C_TooMany, T.ec_TooMany, rfl, .inr ⟨d, _, rfl, hd⟩, .ref C_BadLot, .ref C_BadLot, false, rfl, fun _ r => r, T.kit_TooMany_BadLot, (by show 4 ≤ sizeLine; decide), fun p np => ⟨_, rfl, .ref a0, rfl, C_TooMany, T.ec_TooMany, rfl, .inr ⟨d, _, rfl, (same_upd np _ _ hd)⟩, .ref C_NoBuyers, .ref C_NoBuyers, false, rfl, fun _ r => r, T.kit_TooMany_NoBuyers, .ref a0, rfl, C_TooMany, T.ec_TooMany, rfl, .inr ⟨d, _, rfl, (same_upd np _ _ hd)⟩, .ty "ValueError", .type "ValueError", true, rfl, fun _ r => r, T.kit_TooMany_ValueError, (by show 2 ≤ sizeLine; decide), fun p2 np2 => ⟨p, p2, _, _, rfl, rfl, same_upd np2 _ _ upd_same, upd_same, (by show 6 ≤ sizeLine; decide), fun t nt => qd _ e _ t ((sameX_made nx nd sx).trans (((same_upd np).trans (same_upd np2)).trans (same_upd nt))) upd_same⟩⟩⟩, fun z => Bool.noConfusion z⟩
    · exact ⟨true, T.exm_BadTable_ShelfError, fun _ a0 na => ⟨.ref a0, rfl, C_BadTable, T.ec_BadTable, rfl, .inr ⟨d, _, rfl, hd⟩, .ref C_TooMany, .ref C_TooMany, false, rfl, fun _ r => r, T.kit_BadTable_TooMany, .ref a0, rfl, C_BadTable, T.ec_BadTable, rfl, .inr ⟨d, _, rfl, hd⟩, .ref C_BadTable, .ref C_BadTable, true, rfl, fun _ r => r, T.kit_BadTable_BadTable, .ref a0, rfl, C_BadTable, T.ec_BadTable, rfl, .inr ⟨d, _, rfl, hd⟩, .ref C_BadNumber, .ref C_BadNumber, false, rfl, fun _ r => r, T.kit_BadTable_BadNumber, .ref a0, rfl, C_BadTable, T.ec_BadTable, rfl, .inr ⟨d, _, rfl, hd⟩, .ref C_BadLot, .ref C_BadLot, false, rfl, fun _ r => r, T.kit_BadTable_BadLot, (by show 4 ≤ sizeLine; decide), fun p np => ⟨_, rfl, .ref a0, rfl, C_BadTable, T.ec_BadTable, rfl, .inr ⟨d, _, rfl, (same_upd np _ _ hd)⟩, .ref C_NoBuyers, .ref C_NoBuyers, false, rfl, fun _ r => r, T.kit_BadTable_NoBuyers, .ref a0, rfl, C_BadTable, T.ec_BadTable, rfl, .inr ⟨d, _, rfl, (same_upd np _ _ hd)⟩, .ty "ValueError", .type "ValueError", true, rfl, fun _ r => r, T.kit_BadTable_ValueError, (by show 2 ≤ sizeLine; decide), fun p2 np2 => ⟨p, p2, _, _, rfl, rfl, same_upd np2 _ _ upd_same, upd_same, (by show 6 ≤ sizeLine; decide), fun t nt => qd _ e _ t ((sameX_made nx nd sx).trans (((same_upd np).trans (same_upd np2)).trans (same_upd nt))) upd_same⟩⟩⟩, fun z => Bool.noConfusion z⟩
    · exact ⟨true, T.exm_BadTable_ShelfError, fun _ a0 na => ⟨.ref a0, rfl, C_BadTable, T.ec_BadTable, rfl, .inr ⟨d, _, rfl, hd⟩, .ref C_TooMany, .ref C_TooMany, false, rfl, fun _ r => r, T.kit_BadTable_TooMany, .ref a0, rfl, C_BadTable, T.ec_BadTable, rfl, .inr ⟨d, _, rfl, hd⟩, .ref C_BadTable, .ref C_BadTable, true, rfl, fun _ r => r, T.kit_BadTable_BadTable, .ref a0, rfl, C_BadTable, T.ec_BadTable, rfl, .inr ⟨d, _, rfl, hd⟩, .ref C_BadNumber, .ref C_BadNumber, false, rfl, fun _ r => r, T.kit_BadTable_BadNumber, .ref a0, rfl, C_BadTable, T.ec_BadTable, rfl, .inr ⟨d, _, rfl, hd⟩, .ref C_BadLot, .ref C_BadLot, false, rfl, fun _ r => r, T.kit_BadTable_BadLot, (by show 4 ≤ sizeLine; decide), fun p np => ⟨_, rfl, .ref a0, rfl, C_BadTable, T.ec_BadTable, rfl, .inr ⟨d, _, rfl, (same_upd np _ _ hd)⟩, .ref C_NoBuyers, .ref C_NoBuyers, false, rfl, fun _ r => r, T.kit_BadTable_NoBuyers, .ref a0, rfl, C_BadTable, T.ec_BadTable, rfl, .inr ⟨d, _, rfl, (same_upd np _ _ hd)⟩, .ty "ValueError", .type "ValueError", true, rfl, fun _ r => r, T.kit_BadTable_ValueError, (by show 2 ≤ sizeLine; decide), fun p2 np2 => ⟨p, p2, _, _, rfl, rfl, same_upd np2 _ _ upd_same, upd_same, (by show 6 ≤ sizeLine; decide), fun t nt => qd _ e _ t ((sameX_made nx nd sx).trans (((same_upd np).trans (same_upd np2)).trans (same_upd nt))) upd_same⟩⟩⟩, fun z => Bool.noConfusion z⟩
    · exact ⟨Nat.zero_le _, fun t nt => qd _ e _ t ((sameX_made nx nd sx).trans (same_upd nt)) upd_same⟩
def sp__law_like : Sp := fun vs H Q _ => ∃ (a b : Addr) (xs : List V), vs = [.ref a, .ref b] ∧ H a = some (.tup xs) ∧ H b = some (.tup xs) ∧ xs.length ≤ 10 ∧ (∀ x ∈ xs, (∃ s, x = .str s) ∨ (∃ n, x = .int n) ∨ x = .non) ∧ Q (.bl true) H
theorem ok__law_like {f : Addr} {fd : FuncData} {C_Tabled C_TooMany C_BadTable C_BadNumber C_NoBuyers C_BadLot C_ShelfError : Addr} (F : Fun K "_law_like" "_law_like" s__law_like f fd) (T : Txt K mg C_Tabled C_TooMany C_BadTable C_BadNumber C_NoBuyers C_BadLot C_ShelfError) (m_isinstance : mg "isinstance" = none) (m_len : mg "len" = none) (m_range : mg "range" = none) (m_str : mg "str" = none) (c__law_is_int : Cal P w K mg base CX0 1 "_law_is_int" ["_law_x"] sp__law_is_int) : FnOk P w K mg base CX0 2 f fd ["_law_told", "_law_due_here"] sp__law_like := by
  refine F.ok sc__law_like (fun vs H Q E h => ?_) (fun cdv A outer s H vs Q E hr h => ?_)
  · obtain ⟨a, b, xs, rfl, _⟩ := h
    rfl
  · obtain ⟨a, b, xs, rfl, ha, hb, xl, kind, q⟩ := h
    obtain ⟨f__law_is_int, fd__law_is_int, G__law_is_int, m__law_is_int, k__law_is_int, b__law_is_int⟩ := c__law_is_int
    refine ⟨_, (pss_cons (ps_if (pt_cmpR op_ne (pe_callB call_len_seq (by rfl) m_len (by decide +kernel) (pa_cons (pv 0) pa_nil)) (pe_callB call_len_seq (by rfl) m_len (by decide +kernel) (pa_cons (pv 1) pa_nil)) (nomark _)) (pss_one (ps_ret pe_bl)) pss_nil)
      (pss_cons (ps_for PassesOwn.never rfl (pi_range1 (by rfl) m_range (pa_cons (pe_callB call_len_seq (by rfl) m_len (by decide +kernel) (pa_cons (pv 1) pa_nil)) pa_nil)) (pg_name (i := 2) sc__law_like.nd rfl (Or.inl rfl))
      (pss_one (ps_if (pt_val (pe_callB call_isi (by rfl) m_isinstance (by decide +kernel) (pa_cons (pe_ix ix_tup (pv 1) (pv 2) (fun _ _ => rfl)) (pa_cons (pe_bltn (v := .ty "str") (by rfl) m_str (by decide +kernel) rfl) pa_nil)))) (pss_one (ps_if (PW.pt (pw_or (pt_not (pt_val (pe_callB call_isi (by rfl) m_isinstance (by decide +kernel) (pa_cons (pe_ix ix_tup (pv 0) (pv 2) (fun _ _ => rfl)) (pa_cons (pe_bltn (v := .ty "str") (by rfl) m_str (by decide +kernel) rfl) pa_nil))))) (pw_or1 (pt_cmpR op_ne (pe_ix ix_tup (pv 0) (pv 2) (fun _ _ => rfl)) (pe_ix ix_tup (pv 1) (pv 2) (fun _ _ => rfl)) (nomark _))))) (pss_one (ps_ret pe_bl)) pss_nil)) (pss_one (ps_if (pt_cmpR op_isN (pe_ix ix_tup (pv 1) (pv 2) (fun _ _ => rfl)) pe_non (nomark _)) (pss_one (ps_if (pt_cmpR op_notN (pe_ix ix_tup (pv 0) (pv 2) (fun _ _ => rfl)) pe_non (nomark _)) (pss_one (ps_ret pe_bl)) pss_nil)) (pss_one (ps_if (PW.pt (pw_or (pt_not (pt_val (pe_call G__law_is_int (hr.mono (by decide)) (by rfl) m__law_is_int k__law_is_int b__law_is_int .nil pass0 (pa_cons (pe_ix ix_tup (pv 0) (pv 2) (fun _ _ => rfl)) pa_nil)))) (pw_or1 (pt_cmpR op_ne (pe_ix ix_tup (pv 0) (pv 2) (fun _ _ => rfl)) (pe_ix ix_tup (pv 1) (pv 2) (fun _ _ => rfl)) (nomark _))))) (pss_one (ps_ret pe_bl)) pss_nil)))))))
      (pss_one (ps_ret pe_bl)))), ?_⟩
    refine ⟨_, rfl, a, _, rfl, .inr (tup_t ha), _, rfl, b, _, rfl, .inr (tup_t hb), rfl, _, rfl, iteNS rfl ?_⟩
    refine ⟨_, rfl, b, _, rfl, .inr (tup_t hb), _, rfl, by omega, by omega, ?_⟩
    rw [Int.toNat_natCast]
    refine for_range (lo := 0) (n := xs.length) (fun i σ H2 => ∃ (y : Option V), σ = [some (.ref a), some (.ref b), y] ∧ H2 = H) ⟨none, rfl, rfl⟩ ?_ ?_
    · rintro i σ H2 hi ⟨y, rfl, rfl⟩
      have hin : xs[i]? = some xs[i] := List.getElem?_eq_getElem hi
      rcases kind _ (List.mem_of_getElem? hin) with ⟨s, e⟩ | ⟨n, e⟩ | e
      · rw [e] at hin
        refine ⟨.ref b, rfl, .int (0 + (i : Int)), rfl, b, _, _, _, rfl, rfl, tup_t hb, at_of (Int.zero_add _) hin, .str s, .ty "str", _, _, true, rfl, .ty "str", .base (.str _), kit_ty kSt, true, rfl, iteT ?_⟩
        refine ⟨.ref a, rfl, .int (0 + (i : Int)), rfl, a, _, _, _, rfl, rfl, tup_t ha, at_of (Int.zero_add _) hin, .str s, .ty "str", _, _, true, rfl, .ty "str", .base (.str _), kit_ty kSt, true, rfl, iteF ?_⟩
        exact ⟨.ref a, rfl, .int (0 + (i : Int)), rfl, a, _, _, _, rfl, rfl, tup_t ha, at_of (Int.zero_add _) hin, .ref b, rfl, .int (0 + (i : Int)), rfl, b, _, _, _, rfl, rfl, tup_t hb, at_of (Int.zero_add _) hin, rfl, _, rfl, iteNS rfl ⟨_, rfl, rfl⟩⟩
      · rw [e] at hin
        refine ⟨.ref b, rfl, .int (0 + (i : Int)), rfl, b, _, _, _, rfl, rfl, tup_t hb, at_of (Int.zero_add _) hin, .int n, .ty "str", _, _, false, rfl, .ty "str", .base (.int _), kit_ty kIS, false, rfl, iteF ?_⟩
        refine ⟨.ref b, rfl, .int (0 + (i : Int)), rfl, b, _, _, _, rfl, rfl, tup_t hb, at_of (Int.zero_add _) hin, rfl, _, rfl, ite2 (fun z => V.noConfusion (of_decide_eq_true z)) (fun _ => ?_)⟩
        refine ⟨.ref a, rfl, .int (0 + (i : Int)), rfl, a, _, _, _, rfl, rfl, tup_t ha, at_of (Int.zero_add _) hin, n, rfl, true, rfl, iteF ?_⟩
        exact ⟨.ref a, rfl, .int (0 + (i : Int)), rfl, a, _, _, _, rfl, rfl, tup_t ha, at_of (Int.zero_add _) hin, .ref b, rfl, .int (0 + (i : Int)), rfl, b, _, _, _, rfl, rfl, tup_t hb, at_of (Int.zero_add _) hin, rfl, _, rfl, iteNS rfl ⟨_, rfl, rfl⟩⟩
      · rw [e] at hin
        refine ⟨.ref b, rfl, .int (0 + (i : Int)), rfl, b, _, _, _, rfl, rfl, tup_t hb, at_of (Int.zero_add _) hin, .non, .ty "str", _, _, false, rfl, .ty "str", .base (.non), kit_ty kNS, false, rfl, iteF ?_⟩
        refine ⟨.ref b, rfl, .int (0 + (i : Int)), rfl, b, _, _, _, rfl, rfl, tup_t hb, at_of (Int.zero_add _) hin, rfl, _, rfl, iteD rfl ?_⟩
        exact ⟨.ref a, rfl, .int (0 + (i : Int)), rfl, a, _, _, _, rfl, rfl, tup_t ha, at_of (Int.zero_add _) hin, rfl, _, rfl, iteNS rfl ⟨_, rfl, rfl⟩⟩
    · rintro σ H2 ⟨y, rfl, rfl⟩
      exact q
def sp__law_pool (K : PySem.W.Frag) : Sp := fun vs H Q _ => ∃ a b : Int, vs = [.int a, .int b] ∧ ∀ H' p (ns : List Int), Same H H' → H' p = some (.lst (ns.map V.int)) → ns.length = 80 → (∀ n ∈ ns, 0 ≤ n ∧ n < 10 ^ 16) → Q (.ref p) H' 
theorem ok__law_pool {f : Addr} {fd : FuncData} {C_Tabled C_TooMany C_BadTable C_BadNumber C_NoBuyers C_BadLot C_ShelfError : Addr} (F : Fun K "_law_pool" "_law_pool" s__law_pool f fd) (T : Txt K mg C_Tabled C_TooMany C_BadTable C_BadNumber C_NoBuyers C_BadLot C_ShelfError) (m_int : mg "int" = none) (m_range : mg "range" = none) (c__law_draws : Cal P w K mg base CX0 1 "_law_draws" ["_law_cell_here", "_law_sizes"] (sp__law_draws K)) : FnOk P w K mg base CX0 2 f fd ["_law_low", "_law_high"] (sp__law_pool K) := by
  refine F.ok sc__law_pool (fun vs H Q E h => ?_) (fun cdv A outer s H vs Q E hr h => ?_)
  · obtain ⟨a, b, rfl, _⟩ := h
    rfl
  · obtain ⟨a, b, rfl, q⟩ := h
    obtain ⟨f__law_draws, fd__law_draws, G__law_draws, m__law_draws, k__law_draws, b__law_draws⟩ := c__law_draws
    refine ⟨_, (pss_cons (ps_set (i := 2) sc__law_pool.nd rfl (Or.inl rfl) (pe_lst pa_nil))
      (pss_cons (ps_for PassesOwn.never rfl (pi_list (pe_lst (pa_cons (pv 0) (pa_cons (pv 1) pa_nil)))) (pg_name (i := 3) sc__law_pool.nd rfl (Or.inl rfl))
      (pss_cons (ps_set (i := 4) sc__law_pool.nd rfl (Or.inl rfl) (pe_call G__law_draws (hr.mono (by decide)) (by rfl) m__law_draws k__law_draws b__law_draws .nil pass0 (pa_cons (pv 3) (pa_cons (pe_op op_cat (pe_lst (pa_cons pe_int pa_nil)) (pe_lc (own := [("_law_k", 7)]) (g := (gName 7)) (tt := tYes) rfl sc__law_pool.nd (pi_range1 (by rfl) m_range (pa_cons pe_int pa_nil)) (blkOk_by (own := [("_law_k", 7)]) (N := ["_law_low", "_law_high", "_law_pool_here", "_law_cell_here", "_law_drawn", "_law_bound", "_law_value", "_law_k"]) (sc := defScope s__law_pool) (by decide +kernel)) (fun _ _ _ _ _ => (pg_name (i := 7) sc__law_pool.nd rfl (Or.inl rfl))) (fun _ _ _ _ _ => pts_nil) (fun _ _ _ _ _ => (pe_op op_pow pe_int pe_int)))) pa_nil))))
      (pss_cons (ps_set (i := 5) sc__law_pool.nd rfl (Or.inr rfl) (pe_ix ix_list (pe_lst (pa_cons pe_int (pa_cons pe_int (pa_cons pe_int (pa_cons (pe_op op_pow pe_int pe_int) pa_nil))))) (pe_ix ix_list (pv 4) pe_int (fun _ _ => rfl)) (fun _ _ => rfl)))
      (pss_one (ps_expr (pe_bm PySem.F.plainAttrs_list PySem.F.slot_list_extend PySem.F.type_list_extend mt_extend (pv 2) (pa_cons (pe_lc (own := [("_law_value", 6)]) (g := (gName 6)) (tt := tYes) rfl sc__law_pool.nd (pi_list (pe_slice sl_list (pv 4) (po_some pe_int) po_none)) (blkOk_by (own := [("_law_value", 6)]) (N := ["_law_low", "_law_high", "_law_pool_here", "_law_cell_here", "_law_drawn", "_law_bound", "_law_value", "_law_k"]) (sc := defScope s__law_pool) (by decide +kernel)) (fun _ _ _ _ _ => (pg_name (i := 6) sc__law_pool.nd rfl (Or.inl rfl))) (fun _ _ _ _ _ => pts_nil) (fun _ _ _ _ _ => (pe_op op_mod (pe_callTy call_int1 (by rfl) m_int (by decide +kernel) (pa_cons (pv 6) pa_nil)) (pv 5)))) pa_nil)))))))
      (pss_one (ps_ret (pv 2))))), ?_⟩
    refine ⟨Nat.zero_le _, fun o no => ?_⟩
    have so := same_upd (o := .lst []) no
    have ho : upd H o (.lst []) o = some (.lst (([] : List Int).map V.int)) := upd_same
    generalize upd H o (.lst []) = H0 at so ho ⊢
    refine ⟨_, rfl, _, rfl, (by show 2 ≤ sizeLine; decide), fun z nz => ?_⟩
    have sz := same_upd (o := .lst [V.int a, V.int b]) nz
    have hz : upd H0 z (.lst [V.int a, V.int b]) z = some (.lst [V.int a, V.int b]) := upd_same
    have zo : z ≠ o := fun y => by
      rw [y, ho] at nz
      cases nz
    have ho := sz _ _ ho
    have so := so.trans sz
    generalize upd H0 z (.lst [V.int a, V.int b]) = H1 at so hz ho sz ⊢
    refine ⟨z, rfl, ⟨_, lst_l hz⟩, for_list (K := K) (a := z) (xs := [V.int a, V.int b]) (fun i σ H2 => ∃ (ns : List Int) (y1 y2 y3 : Option V), σ = [some (.int a), some (.int b), some (.ref o), y1, y2, y3, none, none] ∧ Same H H2 ∧ H2 z = some (.lst [V.int a, V.int b]) ∧ H2 o = some (.lst (ns.map V.int)) ∧ ns.length = 40 * i ∧ ∀ n ∈ ns, 0 ≤ n ∧ n < 10 ^ 16) ⟨[], none, none, none, rfl, so, hz, ho, rfl, fun n h => absurd h (by simp)⟩ (fun i σ H2 _ ⟨_, _, _, _, _, _, h, _⟩ => lst_l h) ?_ ?_⟩
    · rintro i x σ H2 hi ⟨ns, y1, y2, y3, rfl, s2, hz, ho, ln, bn⟩
      have i2 := (List.getElem?_eq_some_iff.mp hi).1
      have i2 : i < 2 := i2
      obtain ⟨c, rfl⟩ : ∃ c, x = .int c := by
        have hx := List.mem_of_getElem? hi
        rcases List.mem_cons.mp hx with rfl | hx
        · exact ⟨a, rfl⟩
        · exact ⟨b, List.mem_singleton.mp hx⟩
      refine ⟨_, rfl, small1000 (by decide), fun p1 n1 => ?_⟩
      have s1 := same_upd (o := .lst [V.int 4]) n1
      have hp1 : upd H2 p1 (.lst [V.int 4]) p1 = some (.lst [V.int 4]) := upd_same
      generalize upd H2 p1 (.lst [V.int 4]) = Hp at s1 hp1 ⊢
      refine ⟨40, rfl, by decide, by decide, fun D nD => lc_range (lo := 0) (n := 40) (fun i H2 => Same Hp H2 ∧ H2 D = some (.lst ((List.replicate i (10000000000000000 : Int)).map V.int))) ⟨same_upd nD, upd_same⟩ ?_ ?_⟩
      · rintro i H2 hi ⟨s, hD⟩
        refine ⟨rfl, ?_⟩
        refine lc_yes ?_
        refine iteT ?_
        refine ⟨10, 16, rfl, rfl, ⟨by decide, by decide, by decide⟩, _, hD, ?_, same_mut s nD, ?_⟩
        · rw [List.length_map, List.length_replicate]
          exact small1000 (by omega)
        · rw [upd_same, List.replicate_succ', ← snoc_int]
          rfl
      rintro H3 ⟨s3, hD⟩

      refine ⟨p1, D, _, _, rfl, rfl, s3 _ _ hp1, hD, (by show 1 + 40 ≤ sizeLine; decide), fun p3 n3 => ?_⟩
      have s3 := (s1.trans s3).trans (same_upd (o := .lst ((4 :: List.replicate 40 (10 ^ 16 : Int)).map V.int)) n3)
      refine ⟨c, p3, 4 :: List.replicate 40 (10 ^ 16 : Int), rfl, lst_l upd_same, ?_, ?_, fun ds H4 d w s4 nd hd => ?_⟩
      · intro n hn
        rcases List.mem_cons.mp hn with rfl | hn
        · decide
        · rw [(List.mem_replicate.mp hn).2]
          exact big16
      · rw [List.length_cons, List.length_replicate]
        decide
      obtain ⟨d0, r, rfl, l0, u0, w⟩ := w.c
      have hrl : r.length = 40 := by
        rw [w.len, List.length_replicate]
      have sH := s3.trans s4
      refine ⟨10, 16, rfl, rfl, ⟨by decide, by decide, by decide⟩, (by show 4 ≤ sizeLine; decide), fun p5 n5 => ?_⟩
      obtain ⟨bd, hb, b0, b1⟩ : ∃ bd : Int, atI [V.int 2, V.int 6, V.int 1000, V.int (10 ^ 16)] d0 = some (V.int bd) ∧ 0 < bd ∧ bd ≤ 10 ^ 16 := by
        rcases (by omega : d0 = 0 ∨ d0 = 1 ∨ d0 = 2 ∨ d0 = 3) with rfl | rfl | rfl | rfl
        · exact ⟨2, rfl, by decide, by decide⟩
        · exact ⟨6, rfl, by decide, by decide⟩
        · exact ⟨1000, rfl, by decide, by decide⟩
        · exact ⟨10 ^ 16, rfl, by decide, by decide⟩
      have s5 := same_upd (o := .lst [V.int 2, V.int 6, V.int 1000, V.int (10 ^ 16)]) n5
      refine ⟨.ref d, rfl, d, _, _, .int d0, rfl, rfl, lst_l (s5 _ _ hd), atI_nat (j := 0) rfl, p5, _, _, .int bd, rfl, rfl, lst_l upd_same, hb, ?_⟩
      have s25 := sH.trans s5
      have ho5 := s25 _ _ ho
      have hz5 := s25 _ _ hz
      have hd5 := s5 _ _ hd
      refine ⟨.ref o, rfl, .inl ⟨rfl, _, lst_l ho5⟩, ?_⟩
      refine ⟨.ref d, rfl, 1, rfl, d, _, rfl, lst_l hd5, fun p6 n6 => ?_⟩
      rw [cut_from1]
      have s6 := same_upd (o := .lst (((d0 :: r).map V.int).drop 1)) n6
      refine ⟨p6, rfl, ⟨r.map V.int, lst_l upd_same⟩, fun E nE => lc_list (K := K) (a := p6) (xs := r.map V.int) (fun i H7 => Same H4 H7 ∧ H7 p6 = some (.lst (((d0 :: r).map V.int).drop 1)) ∧ H7 E = some (.lst (((r.take i).map fun v => v % bd).map V.int))) ⟨(s5.trans s6).trans (same_upd nE), same_upd nE _ _ upd_same, upd_same⟩ (fun i H7 _ ⟨_, h, _⟩ => lst_l h) ?_ ?_⟩
      · rintro j x H7 hj ⟨s, h6, hE⟩
        have nE4 : H4 E = none := (s5.trans s6).free nE
        have n6E : p6 ≠ E := fun y => by
          rw [← y, upd_same] at nE
          cases nE
        obtain ⟨n, rfl, hjn⟩ := int_of hj
        refine ⟨rfl, ?_⟩
        refine lc_yes ?_
        refine iteT ?_
        refine ⟨_, rfl, .inl ⟨n, rfl, _, rfl, _, _, rfl, rfl, b0, _, hE, ?_, same_mut s nE4, (upd_ne n6E).trans h6, ?_⟩⟩
        · rw [List.length_map, List.length_map, List.length_take]
          exact small1000 (by omega)
        · rw [upd_same, List.take_add_one, hjn, List.map_append, List.map_append]
          rfl
      · rintro H7 ⟨s7, h6, hE⟩
        rw [List.length_map, List.take_length] at hE
        have s27 := sH.trans s7
        have ho7 := s27 _ _ ho
        have hz7 := s27 _ _ hz
        refine ⟨o, E, _, _, rfl, rfl, ho7, hE, ?_, ns ++ r.map fun v => v % bd, _, _, _, rfl, ?_, ?_, ?_, ?_, fun n hn => ?_⟩
        · rw [List.length_map, List.length_map, List.length_map]
          exact Nat.le_of_lt (small1000 (by omega))
        · exact same_mut (s2.trans s27) no
        · exact (upd_ne zo).trans hz7
        · rw [upd_same, List.map_append]
        · rw [List.length_append, List.length_map]
          omega
        · rcases List.mem_append.mp hn with hn | hn
          · exact bn n hn
          · obtain ⟨v, _, rfl⟩ := List.mem_map.mp hn
            have h1 := Int.emod_nonneg v (show bd ≠ 0 by omega)
            have h2 := Int.emod_lt_of_pos v b0
            omega
    · rintro σ H2 ⟨ns, y1, y2, y3, rfl, s2, hz, ho, ln, bn⟩
      exact ⟨_, rfl, q H2 o ns s2 ho ln bn⟩
def sp__law_rows (K : PySem.W.Frag) : Sp := fun vs H Q _ => ∃ (P : Addr) (ns : List Int) (m : Nat), vs = [.ref P, .int (m : Int)] ∧ H P = some (.lst (ns.map V.int)) ∧ ns.length = 80 ∧ (∀ n ∈ ns, 0 ≤ n ∧ n < 10 ^ 16) ∧ m ≤ 6 ∧
  ∀ H' L us rows, Same H H' → H' L = some (.lst (us.map V.ref)) → RowsL H' us rows → rows.length = 2 ^ m → (∀ (i : Nat) (r : List Int), rows[i]? = some r → rowOk m i r = true) → (∀ r ∈ rows, r.length = m + 1 ∧ ∀ x ∈ r, 0 ≤ x ∧ x ≤ 10 ^ 17) → Q (.ref L) H' 
theorem ok__law_rows {f : Addr} {fd : FuncData} {C_Tabled C_TooMany C_BadTable C_BadNumber C_NoBuyers C_BadLot C_ShelfError : Addr} (F : Fun K "_law_rows" "_law_rows" s__law_rows f fd) (T : Txt K mg C_Tabled C_TooMany C_BadTable C_BadNumber C_NoBuyers C_BadLot C_ShelfError) (m_int : mg "int" = none) (m_max : mg "max" = none) (m_range : mg "range" = none) (m_sum : mg "sum" = none) (c__law_power : Cal P w K mg base CX0 1 "_law_power" ["_law_many"] sp__law_power) (c__law_lot : Cal P w K mg base CX0 1 "_law_lot" ["_law_bits", "_law_many"] (sp__law_lot K)) : FnOk P w K mg base CX0 2 f fd ["_law_pool_here", "_law_many"] (sp__law_rows K) := by
  refine F.ok sc__law_rows (fun vs H Q E h => ?_) (fun cdv A outer s H vs Q E hr h => ?_)
  · obtain ⟨P, ns, m, rfl, _⟩ := h
    rfl
  · obtain ⟨P, ns, m, rfl, hP, nl, bn, hm, q⟩ := h
    obtain ⟨f__law_power, fd__law_power, G__law_power, m__law_power, k__law_power, b__law_power⟩ := c__law_power
    obtain ⟨f__law_lot, fd__law_lot, G__law_lot, m__law_lot, k__law_lot, b__law_lot⟩ := c__law_lot
    refine ⟨_, (pss_cons (ps_set (i := 2) sc__law_rows.nd rfl (Or.inr rfl) (pe_op op_add (pv 1) pe_int))
      (pss_cons (ps_set (i := 3) sc__law_rows.nd rfl (Or.inl rfl) (pe_lst pa_nil))
      (pss_cons (ps_for PassesOwn.never rfl (pi_range1 (by rfl) m_range (pa_cons (pe_call G__law_power (hr.mono (by decide)) (by rfl) m__law_power k__law_power b__law_power .nil pass0 (pa_cons (pv 1) pa_nil)) pa_nil)) (pg_name (i := 4) sc__law_rows.nd rfl (Or.inr rfl))
      (pss_cons (ps_set (i := 5) sc__law_rows.nd rfl (Or.inr rfl) (pe_call G__law_lot (hr.mono (by decide)) (by rfl) m__law_lot k__law_lot b__law_lot .nil pass0 (pa_cons (pv 4) (pa_cons (pv 1) pa_nil))))
      (pss_cons (ps_set (i := 6) sc__law_rows.nd rfl (Or.inr rfl) (pe_lc (own := [("_law_k", 8)]) (g := (gName 8)) (tt := tYes) rfl sc__law_rows.nd (pi_range1 (by rfl) m_range (pa_cons (pv 2) pa_nil)) (blkOk_by (own := [("_law_k", 8)]) (N := ["_law_pool_here", "_law_many", "_law_size", "_law_rows_here", "_law_number", "_law_lot_here", "_law_part", "_law_counts", "_law_k", "_law_thing"]) (sc := defScope s__law_rows) (by decide +kernel)) (fun _ _ _ _ _ => (pg_name (i := 8) sc__law_rows.nd rfl (Or.inl rfl))) (fun _ _ _ _ _ => pts_nil) (fun _ _ _ _ _ => (pe_ix (r := rIxL K) ix_list (pv 0) (pe_op op_mod (pe_callTy call_int1 (by rfl) m_int (by decide +kernel) (pa_cons (pe_op op_add (pe_op op_mul (pv 4) (pv 2)) (pv 8)) pa_nil)) pe_int) (fun _ _ => rfl)))))
      (pss_cons (ps_setLc (i := 7) (own := [("_law_thing", 9)]) (g := (gName 9)) (tt := tYes) rfl sc__law_rows.nd rfl rfl (sw_true rfl rfl rfl (by decide +kernel)) (pi_range1 (by rfl) m_range (pa_cons (pv 1) pa_nil)) (blkOk_by (own := [("_law_thing", 9)]) (N := ["_law_pool_here", "_law_many", "_law_size", "_law_rows_here", "_law_number", "_law_lot_here", "_law_part", "_law_counts", "_law_k", "_law_thing"]) (sc := defScope s__law_rows) (by decide +kernel)) (fun _ _ _ _ _ => (pg_name (i := 9) sc__law_rows.nd rfl (Or.inl rfl))) (fun _ _ _ _ _ => pts_nil) (fun _ _ _ _ _ => (pe_op op_mul (pe_ix (r := rIxL K) ix_list (pv 6) (pe_op op_add (pv 9) pe_int) (fun _ _ => rfl)) (pe_callTy call_int1 (by rfl) m_int (by decide +kernel) (pa_cons (pe_cmpR (r := rIn K false) op_in_seq (pv 9) (pv 5) (by rfl)) pa_nil)))))
      (pss_one (ps_expr (pe_bm PySem.F.plainAttrs_list PySem.F.slot_list_append PySem.F.type_list_append mt_append (pv 3) (pa_cons (pe_op op_cat (pe_lst (pa_cons (pe_callB (call_max2 rfl) (by rfl) m_max (by decide +kernel) (pa_cons pe_int (pa_cons (pe_op op_add (pe_ix ix_list (pv 6) pe_int (fun _ _ => rfl)) (pe_callB (cr_sum rfl) (by rfl) m_sum (by decide +kernel) (pa_cons (pv 7) pa_nil))) pa_nil))) pa_nil)) (pv 7)) pa_nil))))))))
      (pss_one (ps_ret (pv 3)))))), ?_⟩
    refine ⟨_, rfl, _, _, rfl, rfl, ?_⟩
    refine ⟨Nat.zero_le _, fun o no => ?_⟩
    have so := same_upd (o := .lst []) no
    have ho : upd H o (.lst []) o = some (.lst (([] : List Addr).map V.ref)) := upd_same
    generalize upd H o (.lst []) = H0 at so ho ⊢
    have p64 : 2 ^ m ≤ 64 := Nat.pow_le_pow_right (by decide) hm
    refine ⟨_, rfl, m, rfl, by omega, ?_⟩
    rw [show (2 : Int) ^ m = ((2 ^ m : Nat) : Int) from (Int.natCast_pow 2 m).symm]
    generalize 2 ^ m = N at p64 q ⊢
    refine ⟨_, rfl, by omega, by omega, ?_⟩
    rw [Int.toNat_natCast]
    refine for_range (lo := 0) (n := N) (fun i σ H2 => ∃ (us : List Addr) (rows : List (List Int)) (y1 y2 y3 y4 : Option V), σ = [some (.ref P), some (.int (m : Int)), some (.int ((m : Int) + 1)), some (.ref o), y1, y2, y3, y4, none, none] ∧ Same H H2 ∧ H2 o = some (.lst (us.map V.ref)) ∧ us.length = i ∧ o ∉ us ∧ RowsL H2 us rows ∧ (∀ (j : Nat) (r : List Int), rows[j]? = some r → rowOk m j r = true) ∧ (∀ r ∈ rows, r.length = m + 1 ∧ ∀ x ∈ r, 0 ≤ x ∧ x ≤ 10 ^ 17)) ⟨[], [], none, none, none, none, rfl, so, ho, rfl, by simp, ⟨rfl, fun i u r h => by cases h⟩, (fun j r h => by cases h), fun r h => absurd h (by simp)⟩ ?_ ?_
    · rintro i σ H2 hi ⟨us, rows, y1, y2, y3, y4, rfl, s2, ho, lu, ou, row, ok, bd⟩
      refine ⟨_, rfl, _, rfl, (i : Int), m, by rw [Int.zero_add]; rfl, by omega, fun H3 l s3 nlx hl => ?_⟩
      have s23 := s2.trans s3
      have hP3 := s23 _ _ hP
      refine ⟨_, rfl, _, rfl, by omega, by omega, ?_⟩
      rw [show ((m : Int) + 1).toNat = m + 1 by omega]
      refine fun D nD => lc_range (lo := 0) (n := m + 1) (fun j H4 => ∃ ps : List Int, Same H3 H4 ∧ H4 D = some (.lst (ps.map V.int)) ∧ ps.length = j ∧ ∀ x ∈ ps, 0 ≤ x ∧ x < 10 ^ 16) ⟨[], same_upd nD, upd_same, rfl, fun x h => absurd h (by simp)⟩ ?_ ?_
      · rintro j H4 hj ⟨ps, s4, hD, lp, bp⟩
        refine ⟨rfl, ?_⟩
        refine lc_yes ?_
        refine iteT ?_
        have mul : CMul (0 + (i : Int)) ((m : Int) + 1) := .inl ⟨by omega, by omega⟩
        have e0 := Int.emod_nonneg ((0 + (i : Int)) * ((m : Int) + 1) + (0 + (j : Int))) (show (80 : Int) ≠ 0 by decide)
        have e1 := Int.emod_lt_of_pos ((0 + (i : Int)) * ((m : Int) + 1) + (0 + (j : Int))) (show (0 : Int) < 80 by decide)
        obtain ⟨k, hk⟩ : ∃ k : Nat, ((0 + (i : Int)) * ((m : Int) + 1) + (0 + (j : Int))) % 80 = (k : Int) := ⟨_, (Int.toNat_of_nonneg e0).symm⟩
        have gk : ns[k]? = some ns[k] := List.getElem?_eq_getElem (by omega)
        refine ⟨_, rfl, _, rfl, _, rfl, _, _, rfl, rfl, mul, _, rfl, _, _, rfl, rfl, .inl ⟨_, rfl, _, _, rfl, rfl, (show (0 : Int) < 80 by decide), P, _, _, .int ns[k], rfl, rfl, lst_l (s4 _ _ hP3), at_of hk (int_at gk), _, hD, ?_, ps ++ [ns[k]], same_mut s4 nD, by rw [upd_same, ← snoc_int], ?_, ?_⟩⟩
        · rw [List.length_map]
          exact small1000 (by omega)
        · rw [List.length_append, lp]
          rfl
        · intro x hx
          rcases List.mem_append.mp hx with hx | hx
          · exact bp x hx
          · rw [List.mem_singleton.mp hx]
            exact bn _ (List.mem_of_getElem? gk)
      rintro H4 ⟨ps, s4, hD, lp, bp⟩
      have hl4 := s4 _ _ hl
      refine ⟨_, rfl, _, rfl, by omega, by omega, ?_⟩
      rw [Int.toNat_natCast]
      refine fun F nF => lc_range (lo := 0) (n := m) (fun j H5 => ∃ cs : List Int, Same H4 H5 ∧ H5 F = some (.lst (cs.map V.int)) ∧ cs.length = j ∧ ∀ (k : Nat) (c : Int), cs[k]? = some c → 0 ≤ c ∧ c ≤ 10 ^ 16 ∧ (0 < c → inV (.int (k : Int)) ((lotOf i m).map V.int) = true)) ⟨[], same_upd nF, upd_same, rfl, fun k c h => by cases h⟩ ?_ ?_
      · rintro j H5 hj ⟨cs, s5, hF, lc, bc⟩
        refine ⟨rfl, ?_⟩
        refine lc_yes ?_
        refine iteT ?_
        have gj : ps[j + 1]? = some ps[j + 1] := List.getElem?_eq_getElem (by omega)
        have bj := bp _ (List.mem_of_getElem? gj)
        refine ⟨_, rfl, _, rfl, _, _, rfl, rfl, D, _, _, .int ps[j + 1], rfl, rfl, lst_l (s5 _ _ hD), at_of (j := j + 1) (by omega) (int_at gj), ?_⟩
        generalize ps[j + 1] = c at bj
        refine ⟨_, rfl, _, rfl, l, _, rfl, .inr (tup_t (s5 _ _ hl4)), rfl, ints_flat _, .inr ⟨_, rfl, ?_⟩⟩
        have done : ∀ b : Bool, (b = true → inV (.int (j : Int)) ((lotOf i m).map V.int) = true) → ∃ acc, H5 F = some (.lst acc) ∧ acc.length < sizeLine ∧ ∃ cs' : List Int, Same H4 (upd H5 F (.lst (acc ++ [V.int (c * if b = true then 1 else 0)]))) ∧ upd H5 F (.lst (acc ++ [V.int (c * if b = true then 1 else 0)])) F = some (.lst (cs'.map V.int)) ∧ cs'.length = j + 1 ∧ ∀ (k : Nat) (x : Int), cs'[k]? = some x → 0 ≤ x ∧ x ≤ 10 ^ 16 ∧ (0 < x → inV (.int (k : Int)) ((lotOf i m).map V.int) = true) := by
          intro b hb
          refine ⟨_, hF, ?_, cs ++ [c * if b = true then 1 else 0], same_mut s5 nF, by rw [upd_same, ← snoc_int], ?_, fun k x hk => ?_⟩
          · rw [List.length_map]
            exact small1000 (by omega)
          · rw [List.length_append, lc]
            rfl
          · by_cases lk : k < cs.length
            · rw [List.getElem?_append_left lk] at hk
              exact bc k x hk
            · rw [List.getElem?_append_right (by omega)] at hk
              obtain ⟨n, hn⟩ : ∃ n, k - cs.length = n := ⟨_, rfl⟩
              rw [hn] at hk
              cases n with
              | zero =>
                have : k = j := by omega
                subst this
                cases hk
                cases b with
                | true => exact ⟨by show 0 ≤ c * 1; omega, by show c * 1 ≤ 10 ^ 16; omega, fun _ => hb rfl⟩
                | false => exact ⟨by show 0 ≤ c * 0; omega, by show c * 0 ≤ 10 ^ 16; omega, fun z => absurd z (by show ¬ 0 < c * 0; omega)⟩
              | succ n => cases hk
        have fin := done (inV (.int (0 + (i : Int) - (i : Int) + (j : Int))) ((lotOf i m).map V.int)) (fun z => by rw [show 0 + (i : Int) - (i : Int) + (j : Int) = (j : Int) by omega] at z; exact z)
        rw [show 0 + (i : Int) - (i : Int) + (j : Int) = 0 + (j : Int) by omega] at fin
        have sml : ∀ b : Bool, CMul c (if b = true then 1 else 0) := fun b => .inr (by cases b <;> decide)
        exact ⟨_, _, rfl, rfl, sml _, fin⟩
      rintro H5 ⟨cs, s5, hF, lc, bc⟩
      have hD5 := s5 _ _ hD
      have s25 := (s23.trans s4).trans s5
      have s35 := (s3.trans s4).trans s5
      have ho5 := s35 _ _ ho
      have g0 : ps[0]? = some ps[0] := List.getElem?_eq_getElem (by omega)
      have b0 := bp _ (List.mem_of_getElem? g0)
      generalize ps[0] = p0 at g0 b0
      have bs := sum_bnd (B := 10 ^ 16) fun x hx => by
        obtain ⟨k, hk⟩ := List.getElem?_of_mem hx
        have := bc k x hk
        exact ⟨this.1, this.2.1⟩
      rw [lc] at bs
      have bs2 : (m : Int) * 10 ^ 16 ≤ 6 * 10 ^ 16 := Int.mul_le_mul_of_nonneg_right (by omega) (by decide)
      refine ⟨_, rfl, .inl ⟨rfl, _, lst_l ho5⟩, ?_⟩
      refine ⟨_, rfl, D, _, _, _, rfl, rfl, lst_l hD5, atI_nat (int_at g0), _, rfl, F, _, rfl, lst_l hF, _, _, rfl, rfl, _, _, rfl, (by show 1 ≤ sizeLine; decide), fun p np => ?_⟩
      obtain ⟨hd, ehd, h1, h2, h3⟩ : ∃ hd : Int, (if p0 + cs.sum > 1 then p0 + cs.sum else 1) = hd ∧ 1 ≤ hd ∧ cs.sum ≤ hd ∧ hd ≤ 10 ^ 17 := by
        by_cases c : p0 + cs.sum > 1
        · exact ⟨_, if_pos c, by omega, by omega, by omega⟩
        · exact ⟨_, if_neg c, by omega, by omega, by omega⟩
      rw [ehd]
      have sp := same_upd (o := .lst [V.int hd]) np
      refine ⟨_, rfl, p, F, _, _, rfl, rfl, upd_same, sp _ _ hF, ?_, fun u nu => ?_⟩
      · rw [List.length_map]
        exact Nat.le_of_lt (small1000 (by show 1 + cs.length ≤ 1000; omega))
      have su := same_upd (o := .lst ([V.int hd] ++ cs.map V.int)) nu
      have s57 := sp.trans su
      have ho7 := s57 _ _ ho5
      refine ⟨o, _, _, rfl, rfl, ho7, by rw [List.length_map]; exact small1000 (by omega), us ++ [u], rows ++ [hd :: cs], _, _, _, _, rfl, same_mut (s25.trans s57) no, by rw [upd_same, List.map_append]; rfl, by rw [List.length_append, lu]; rfl, ?_, ?_, fun j r hj => ?_, fun r hr2 => ?_⟩
      · intro z
        rcases List.mem_append.mp z with z | z
        · exact ou z
        · rw [← List.mem_singleton.mp z, sp _ _ ho5] at nu
          cases nu
      · refine RowsL.put (fun z => ?_) (RowsL.snoc (row.same (s35.trans s57)) (by rw [upd_same]; rfl))
        rcases List.mem_append.mp z with z | z
        · exact ou z
        · rw [← List.mem_singleton.mp z, sp _ _ ho5] at nu
          cases nu
      · by_cases lj : j < rows.length
        · rw [List.getElem?_append_left lj] at hj
          exact ok j r hj
        · rw [List.getElem?_append_right (by omega)] at hj
          obtain ⟨n, hn⟩ : ∃ n, j - rows.length = n := ⟨_, rfl⟩
          rw [hn] at hj
          cases n with
          | zero =>
            have : j = i := by
              have := row.1
              omega
            subst this
            cases hj
            show (decide (cs.length = m) && (cntB (lotOf j m) cs 0 && (decide (hd ≥ 1) && decide (cs.sum ≤ hd)))) = true
            rw [decide_eq_true lc, decide_eq_true (show hd ≥ 1 from h1), decide_eq_true h2, cntB_of (ls := lotOf j m) fun k c hk => by
              have := bc k c hk
              rw [Nat.zero_add]
              exact ⟨this.1, this.2.2⟩]
            rfl
          | succ n => cases hj
      · rcases List.mem_append.mp hr2 with hr2 | hr2
        · exact bd r hr2
        · rw [List.mem_singleton.mp hr2]
          refine ⟨by rw [List.length_cons, lc], fun x hx => ?_⟩
          rcases List.mem_cons.mp hx with rfl | hx
          · exact ⟨by omega, h3⟩
          · obtain ⟨k, hk⟩ := List.getElem?_of_mem hx
            have := bc k x hk
            omega
    · rintro σ H2 ⟨us, rows, y1, y2, y3, y4, rfl, s2, ho, lu, ou, row, ok, bd⟩
      exact ⟨_, rfl, q H2 o us rows s2 ho row (by have := row.1; omega) ok bd⟩
def sp__law_changed (K : PySem.W.Frag) : Sp := fun vs H Q _ => ∃ (r l ch : Addr) (t : Int) (cs ls : List Int) (c0 c1 c2 c3 B : Int) (m : Nat), vs = [.ref r, .ref l, .int (m : Int), .ref ch] ∧ H r = some (.lst ((t :: cs).map V.int)) ∧ cs.length = m ∧ BndL B (t :: cs) ∧ H l = some (.tup (ls.map V.int)) ∧ (∀ x ∈ ls, 0 ≤ x ∧ x < (m : Int)) ∧ H ch = some (.lst ([c0, c1, c2, c3].map V.int)) ∧ 0 ≤ c3 ∧ c3 < 10 ^ 9 ∧ m ≤ 6 ∧ 10 ^ 9 ≤ B ∧
  ∀ H' u row, Same H H' → H u = none → H' u = some (.lst (row.map V.int)) → row.length ≤ m + 2 → BndL (64 * B) row → Q (.ref u) H' 
theorem ok__law_changed {f : Addr} {fd : FuncData} {C_Tabled C_TooMany C_BadTable C_BadNumber C_NoBuyers C_BadLot C_ShelfError : Addr} (F : Fun K "_law_changed" "_law_changed" s__law_changed f fd) (T : Txt K mg C_Tabled C_TooMany C_BadTable C_BadNumber C_NoBuyers C_BadLot C_ShelfError) (m_int : mg "int" = none) (m_len : mg "len" = none) (m_list : mg "list" = none) (m_range : mg "range" = none) (m_sum : mg "sum" = none) : FnOk P w K mg base CX0 1 f fd ["_law_row", "_law_lot_here", "_law_many", "_law_change"] (sp__law_changed K) := by
  refine F.ok sc__law_changed (fun vs H Q E h => ?_) (fun cdv A outer s H vs Q E hr h => ?_)
  · obtain ⟨r, l, ch, t, cs, ls, c0, c1, c2, c3, B, m, rfl, _⟩ := h
    rfl
  · obtain ⟨r, l, ch, t, cs, ls, c0, c1, c2, c3, B, m, rfl, hrw, cl, bd, hl, lsl, hch0, k0, k1, hm, hB, q⟩ := h
    refine ⟨_, (pss_cons (ps_set (i := 4) sc__law_changed.nd rfl (Or.inl rfl) (pe_callTy call_list_of (by rfl) m_list (by decide +kernel) (pa_cons (pv 0) pa_nil)))
      (pss_cons (ps_set (i := 5) sc__law_changed.nd rfl (Or.inl rfl) (pe_op op_sub (pe_ix ix_list (pv 4) pe_int (fun _ _ => rfl)) (pe_callB (cr_sum rfl) (by rfl) m_sum (by decide +kernel) (pa_cons (pe_slice sl_list (pv 4) (po_some pe_int) po_none) pa_nil))))
      (pss_cons (ps_setLc (i := 6) (own := [("_law_thing", 8)]) (g := (gName 8)) rfl sc__law_changed.nd rfl rfl (sw_true rfl rfl rfl (by decide +kernel)) (pi_range1 (by rfl) m_range (pa_cons (pv 2) pa_nil)) (blkOk_by (own := [("_law_thing", 8)]) (N := ["_law_row", "_law_lot_here", "_law_many", "_law_change", "_law_found", "_law_spare", "_law_outside", "_law_at", "_law_thing"]) (sc := defScope s__law_changed) (by decide +kernel)) (fun _ _ _ _ _ => (pg_name (i := 8) sc__law_changed.nd rfl (Or.inl rfl))) (fun _ _ _ _ _ => (pts_one (pt_cmpR (r := rIn K true) op_notIn_seq (pv 8) (pv 1) (by rfl)))) (fun _ _ _ _ _ => (pv 8)))
      (pss_cons (ps_if (pt_cmpR op_eq (pe_ix ix_list (pv 3) pe_int (fun _ _ => rfl)) pe_int (nomark _)) (pss_one (ps_ret (pe_op op_cat (pv 4) (pe_lst (pa_cons pe_int pa_nil))))) pss_nil)
      (pss_cons (ps_if (pt_cmpR op_eq (pe_ix ix_list (pv 3) pe_int (fun _ _ => rfl)) pe_int (nomark _)) (pss_one (ps_ret (pe_slice sl_list (pv 4) po_none (po_some (pv 2))))) pss_nil)
      (pss_cons (ps_if (PW.pt (pw_and (pt_cmpR op_eq (pe_ix ix_list (pv 3) pe_int (fun _ _ => rfl)) pe_int (nomark _)) (pw_and1 (pt_cmpR op_gt (pv 2) pe_int (nomark _))))) (pss_cons (ps_asg (pe_op op_sub (pe_un un_neg pe_int) (pe_ix ix_list (pv 3) pe_int (fun _ _ => rfl))) (pg_sub (pv 4) (pe_op op_add pe_int (pe_op op_mod (pe_callTy call_int1 (by rfl) m_int (by decide +kernel) (pa_cons (pe_ix ix_list (pv 3) pe_int (fun _ _ => rfl)) pa_nil)) (pv 2))) set_list))
      (pss_one (ps_ret (pv 4)))) pss_nil)
      (pss_cons (ps_if (PW.pt (pw_and (pt_cmpR op_eq (pe_ix ix_list (pv 3) pe_int (fun _ _ => rfl)) pe_int (nomark _)) (pw_and1 (pt_cmpR op_gt (pe_callB call_len_seq (by rfl) m_len (by decide +kernel) (pa_cons (pv 6) pa_nil)) pe_int (nomark _))))) (pss_cons (ps_asg (pe_op op_add (pe_op op_add (pe_ix ix_list (pv 4) pe_int (fun _ _ => rfl)) pe_int) (pe_ix ix_list (pv 3) pe_int (fun _ _ => rfl))) (pg_sub (pv 4) pe_int set_list))
      (pss_cons (ps_asg (pe_op op_add pe_int (pe_ix ix_list (pv 3) pe_int (fun _ _ => rfl))) (pg_sub (pv 4) (pe_op op_add pe_int (pe_ix ix_list (pv 6) (pe_op op_mod (pe_callTy call_int1 (by rfl) m_int (by decide +kernel) (pa_cons (pe_ix ix_list (pv 3) pe_int (fun _ _ => rfl)) pa_nil)) (pe_callB call_len_seq (by rfl) m_len (by decide +kernel) (pa_cons (pv 6) pa_nil))) (fun _ _ => rfl))) set_list))
      (pss_one (ps_ret (pv 4))))) pss_nil)
      (pss_cons (ps_if (PW.pt (pw_and (pt_cmpR op_gt (pe_ix ix_list (pv 3) pe_int (fun _ _ => rfl)) pe_int (nomark _)) (pw_and1 (pt_cmpR op_gt (pe_callB call_len_seq (by rfl) m_len (by decide +kernel) (pa_cons (pv 1) pa_nil)) pe_int (nomark _))))) (pss_cons (ps_set (i := 7) sc__law_changed.nd rfl (Or.inl rfl) (pe_op op_add pe_int (pe_ix ix_tup (pv 1) (pe_op op_mod (pe_callTy call_int1 (by rfl) m_int (by decide +kernel) (pa_cons (pe_ix ix_list (pv 3) pe_int (fun _ _ => rfl)) pa_nil)) (pe_callB call_len_seq (by rfl) m_len (by decide +kernel) (pa_cons (pv 1) pa_nil))) (fun _ _ => rfl))))
      (pss_cons (ps_asg (pe_op op_add (pe_op op_add (pe_ix ix_list (pv 4) (pv 7) (fun _ _ => rfl)) (pv 5)) (pe_callTy call_int1 (by rfl) m_int (by decide +kernel) (pa_cons (pe_cmpR op_eq (pe_ix ix_list (pv 3) pe_int (fun _ _ => rfl)) pe_int (nomark _)) pa_nil))) (pg_sub (pv 4) (pv 7) set_list))
      (pss_one (ps_ret (pv 4))))) pss_nil)
      (pss_cons (ps_if (pt_cmpR op_eq (pe_ix ix_list (pv 3) pe_int (fun _ _ => rfl)) pe_int (nomark _)) (pss_one (ps_ret (pe_op op_cat (pe_lst (pa_cons pe_int pa_nil)) (pe_lc (own := [("_law_thing", 8)]) (g := (gName 8)) (tt := tYes) rfl sc__law_changed.nd (pi_range1 (by rfl) m_range (pa_cons (pv 2) pa_nil)) (blkOk_by (own := [("_law_thing", 8)]) (N := ["_law_row", "_law_lot_here", "_law_many", "_law_change", "_law_found", "_law_spare", "_law_outside", "_law_at", "_law_thing"]) (sc := defScope s__law_changed) (by decide +kernel)) (fun _ _ _ _ _ => (pg_name (i := 8) sc__law_changed.nd rfl (Or.inl rfl))) (fun _ _ _ _ _ => pts_nil) (fun _ _ _ _ _ => pe_int))))) pss_nil)
      (pss_one (ps_ret (pe_op op_cat (pe_lst (pa_cons (pe_op op_mul (pe_un un_neg (pe_ix ix_list (pv 3) pe_int (fun _ _ => rfl))) (pe_callTy call_int1 (by rfl) m_int (by decide +kernel) (pa_cons (pe_cmpR op_eq (pe_ix ix_list (pv 3) pe_int (fun _ _ => rfl)) pe_int (nomark _)) pa_nil))) pa_nil)) (pe_lc (own := [("_law_thing", 8)]) (g := (gName 8)) (tt := tYes) rfl sc__law_changed.nd (pi_range1 (by rfl) m_range (pa_cons (pv 2) pa_nil)) (blkOk_by (own := [("_law_thing", 8)]) (N := ["_law_row", "_law_lot_here", "_law_many", "_law_change", "_law_found", "_law_spare", "_law_outside", "_law_at", "_law_thing"]) (sc := defScope s__law_changed) (by decide +kernel)) (fun _ _ _ _ _ => (pg_name (i := 8) sc__law_changed.nd rfl (Or.inl rfl))) (fun _ _ _ _ _ => pts_nil) (fun _ _ _ _ _ => pe_int)))))))))))))), ?_⟩
    have bs := sum_bnd2 (l := cs) fun x hx => bd x (List.mem_cons_of_mem _ hx)
    rw [cl] at bs
    have bm : (m : Int) * B ≤ 6 * B := Int.mul_le_mul_of_nonneg_right (by omega) (by omega)
    have b0 := bd t List.mem_cons_self
    have sml : ∀ (c : Int) (b : Bool), CMul c (if b = true then 1 else 0) := fun c b => .inr (by cases b <;> decide)
    refine ⟨_, rfl, r, _, rfl, .inl (lst_l hrw), fun F nF => ?_⟩
    have s1 := same_upd (o := .lst ((t :: cs).map V.int)) nF
    have hF : upd H F (.lst ((t :: cs).map V.int)) F = some (.lst ((t :: cs).map V.int)) := upd_same
    generalize upd H F (.lst ((t :: cs).map V.int)) = H1 at s1 hF ⊢
    refine ⟨.ref F, rfl, F, _, _, _, rfl, rfl, lst_l hF, atI_nat (j := 0) rfl, ?_⟩
    refine ⟨.ref F, rfl, 1, rfl, F, _, rfl, lst_l hF, fun S nS => ?_⟩
    rw [show cutV ((t :: cs).map V.int) (some 1) none = cs.map V.int from cut_from1 _]
    have s2 := s1.trans (same_upd (o := .lst (cs.map V.int)) nS)
    have hF2 := same_upd (o := .lst (cs.map V.int)) nS _ _ hF
    have hS : upd H1 S (.lst (cs.map V.int)) S = some (.lst (cs.map V.int)) := upd_same
    generalize upd H1 S (.lst (cs.map V.int)) = H2 at s2 hF2 hS ⊢
    refine ⟨S, cs, rfl, lst_l hS, _, _, rfl, rfl, ?_⟩
    have hl2 := s2 _ _ hl
    refine ⟨_, rfl, _, rfl, by omega, by omega, ?_⟩
    rw [Int.toNat_natCast]
    refine fun O nO => lc_range (lo := 0) (n := m) (fun i H3 => ∃ os : List Int, Same H2 H3 ∧ H3 O = some (.lst (os.map V.int)) ∧ os.length ≤ i ∧ ∀ x ∈ os, 0 ≤ x ∧ x < (m : Int)) ⟨[], same_upd nO, upd_same, Nat.le_refl _, fun x h => absurd h (by simp)⟩ ?_ ?_
    · rintro i H3 hi ⟨os, s, hO, lo, bo⟩
      refine ⟨rfl, ?_⟩
      refine ⟨_, rfl, _, rfl, l, _, rfl, .inr (tup_t (s _ _ hl2)), rfl, ints_flat ls, _, rfl, ite2 (fun _ => ?_) (fun _ => ?_)⟩
      · refine ⟨_, rfl, _, hO, ?_, os ++ [0 + (i : Int)], same_mut s nO, by rw [upd_same, ← snoc_int], ?_, fun x hx => ?_⟩
        · rw [List.length_map]
          exact small1000 (by omega)
        · rw [List.length_append]
          exact Nat.add_le_add_right lo 1
        · rcases List.mem_append.mp hx with hx | hx
          · exact bo x hx
          · rw [List.mem_singleton.mp hx]
            omega
      · exact ⟨os, s, hO, by omega, bo⟩
    rintro H3 ⟨os, s, hO, lo, bo⟩
    have OF : O ≠ F := fun z => by
      rw [z, hF2] at nO
      cases nO
    have hF3 := s _ _ hF2
    have s3 := s2.trans s
    have hl3 := s3 _ _ hl
    have hch := s3 _ _ hch0
    refine ⟨.ref ch, rfl, ch, _, _, _, rfl, rfl, lst_l hch, atI_nat (j := 1) rfl, rfl, _, rfl, ite2 (fun _ => ?_) (fun _ => ?_)⟩
    · refine ⟨_, rfl, (by show 1 ≤ sizeLine; decide), fun p np => ⟨F, p, _, _, rfl, rfl, same_upd np _ _ hF3, upd_same, ?_, fun u nu => ?_⟩⟩
      · rw [List.length_map, List.length_cons]
        exact Nat.le_of_lt (small1000 (by show cs.length + 1 + 1 ≤ 1000; omega))
      have sE := s3.trans (same_upd (o := .lst [V.int 0]) np)
      refine q _ u ((t :: cs) ++ [0]) (sE.trans (same_upd nu)) (sE.free nu) (by rw [upd_same, List.map_append]; rfl) (by rw [List.length_append, List.length_cons]; show cs.length + 1 + 1 ≤ m + 2; omega) fun x hx => ?_
      rcases List.mem_append.mp hx with hx | hx
      · have := bd x hx
        omega
      · rw [List.mem_singleton.mp hx]
        omega
    refine ⟨.ref ch, rfl, ch, _, _, _, rfl, rfl, lst_l hch, atI_nat (j := 1) rfl, rfl, _, rfl, ite2 (fun _ => ?_) (fun _ => ?_)⟩
    · refine ⟨.ref F, rfl, _, rfl, (m : Int), rfl, F, _, rfl, lst_l hF3, fun u nu => ?_⟩
      rw [cut_to, ← List.map_take]
      exact q _ u ((t :: cs).take m) (s3.trans (same_upd nu)) (s3.free nu) upd_same (by rw [List.length_take, List.length_cons]; omega) fun x hx => by
        have := bd x (List.mem_of_mem_take hx)
        omega
    refine ⟨.ref ch, rfl, ch, _, _, _, rfl, rfl, lst_l hch, atI_nat (j := 1) rfl, rfl, _, rfl, ite2 (fun _ => ⟨_, rfl, _, _, rfl, rfl, _, rfl, ite2 (fun c => ?_) (fun _ => ?_)⟩) (fun _ => iteF ?_)⟩
    · have c : 0 < (m : Int) := by
        have := of_decide_eq_true c
        omega
      have e0 := Int.emod_nonneg c2 (show (m : Int) ≠ 0 by omega)
      have e1 := Int.emod_lt_of_pos c2 c
      obtain ⟨j, hj⟩ : ∃ k : Nat, c2 % (m : Int) = (k : Int) := ⟨_, (Int.toNat_of_nonneg e0).symm⟩
      refine ⟨1, rfl, .ref ch, rfl, ch, _, _, _, rfl, rfl, lst_l hch, atI_nat (j := 3) rfl, _, _, rfl, rfl, _, rfl, .ref ch, rfl, ch, _, _, _, rfl, rfl, lst_l hch, atI_nat (j := 2) rfl, .inl ⟨c2, rfl, _, rfl, _, _, rfl, rfl, c, _, _, rfl, rfl, F, _, _, j + 1, rfl, rfl, hF3, ?_, ?_⟩⟩
      · rw [hj, show 1 + (j : Int) = ((j + 1 : Nat) : Int) by omega]
        exact ixn_at (by rw [List.length_map, List.length_cons]; omega)
      exact ⟨_, rfl, q _ F ((t :: cs).set (j + 1) (-1 - c3)) (same_mut s3 nF) nF (upd_same.trans (congrArg some (congrArg HO.lst (set_ints _ _ _)))) (by rw [List.length_set, List.length_cons]; omega) (BndL.put (bd.le (by omega)) (by omega))⟩
    · refine ⟨.ref ch, rfl, ch, _, _, _, rfl, rfl, lst_l hch, atI_nat (j := 1) rfl, rfl, _, rfl, ite2 (fun _ => ⟨_, rfl, O, _, rfl, .inl (lst_l hO), _, _, rfl, rfl, _, rfl, ite2 (fun c => ?_) (fun _ => ?_)⟩) (fun _ => iteF ?_)⟩
      · have c : 0 < (os.length : Int) := by
          have := of_decide_eq_true c
          rw [List.length_map] at this
          omega
        refine ⟨.ref F, rfl, F, _, _, _, rfl, rfl, lst_l hF3, atI_nat (j := 0) rfl, _, _, rfl, rfl, .ref ch, rfl, ch, _, _, _, rfl, rfl, lst_l hch, atI_nat (j := 3) rfl, _, _, rfl, rfl, _, rfl, F, _, _, 0, rfl, rfl, hF3, ixn_at (j := 0) (by rw [List.length_map, List.length_cons]; omega), ?_⟩
        have s4 := same_mut (o := .lst (((t :: cs).map V.int).set 0 (V.int (t + 1 + c3)))) s3 nF
        have hF4 : upd H3 F (.lst (((t :: cs).map V.int).set 0 (V.int (t + 1 + c3)))) F = some (.lst (((t + 1 + c3) :: cs).map V.int)) := upd_same
        have hO4 : upd H3 F (.lst (((t :: cs).map V.int).set 0 (V.int (t + 1 + c3)))) O = some (.lst (os.map V.int)) := (upd_ne OF).trans hO
        have hch4 : upd H3 F (.lst (((t :: cs).map V.int).set 0 (V.int (t + 1 + c3)))) ch = some (.lst ([c0, c1, c2, c3].map V.int)) := s4 _ _ hch0
        have e0 := Int.emod_nonneg c2 (show (os.length : Int) ≠ 0 by omega)
        have e1 := Int.emod_lt_of_pos c2 c
        obtain ⟨k, hk⟩ : ∃ k : Nat, c2 % (os.length : Int) = (k : Int) := ⟨_, (Int.toNat_of_nonneg e0).symm⟩
        have gk : os[k]? = some os[k] := List.getElem?_eq_getElem (by omega)
        have bk := bo _ (List.mem_of_getElem? gk)
        generalize os[k] = x at gk bk
        obtain ⟨j, rfl⟩ : ∃ j : Nat, x = (j : Int) := ⟨x.toNat, by omega⟩
        refine ⟨.ref ch, rfl, ch, _, _, _, rfl, rfl, lst_l hch4, atI_nat (j := 3) rfl, _, _, rfl, rfl, _, rfl, _, rfl, .ref ch, rfl, ch, _, _, _, rfl, rfl, lst_l hch4, atI_nat (j := 2) rfl, .inl ⟨c2, rfl, _, rfl, O, _, rfl, .inl (lst_l hO4), ?_⟩⟩
        rw [List.length_map]
        refine ⟨_, _, rfl, rfl, c, O, _, _, .int (j : Int), rfl, rfl, lst_l hO4, at_of hk (int_at gk), _, _, rfl, rfl, F, _, _, j + 1, rfl, rfl, hF4, ?_, ?_⟩
        · rw [show 1 + (j : Int) = ((j + 1 : Nat) : Int) by omega]
          exact ixn_at (by rw [List.length_map, List.length_cons]; omega)
        refine ⟨_, rfl, q _ F (((t + 1 + c3) :: cs).set (j + 1) (1 + c3)) (same_mut s4 nF) nF (upd_same.trans (congrArg some (congrArg HO.lst (set_ints _ _ _)))) (by rw [List.length_set, List.length_cons]; omega) (BndL.put (fun x hx => ?_) (by omega))⟩
        have b0 := bd t List.mem_cons_self
        rcases List.mem_cons.mp hx with rfl | hx
        · omega
        · have := bd x (List.mem_cons_of_mem _ hx)
          omega
      · refine ⟨.ref ch, rfl, ch, _, _, _, rfl, rfl, lst_l hch, atI_nat (j := 1) rfl, _, _, rfl, rfl, _, rfl, ite2 (fun _ => ⟨_, rfl, l, _, rfl, .inr (tup_t hl3), _, _, rfl, rfl, _, rfl, ite2 (fun c => ?_) (fun _ => ?_)⟩) (fun _ => iteF ?_)⟩
        · have c : 0 < (ls.length : Int) := by
            have := of_decide_eq_true c
            rw [List.length_map] at this
            omega
          have e0 := Int.emod_nonneg c2 (show (ls.length : Int) ≠ 0 by omega)
          have e1 := Int.emod_lt_of_pos c2 c
          obtain ⟨k, hk⟩ : ∃ k : Nat, c2 % (ls.length : Int) = (k : Int) := ⟨_, (Int.toNat_of_nonneg e0).symm⟩
          have gk : ls[k]? = some ls[k] := List.getElem?_eq_getElem (by omega)
          have bk := lsl _ (List.mem_of_getElem? gk)
          generalize ls[k] = x at gk bk
          obtain ⟨j, rfl⟩ : ∃ j : Nat, x = (j : Int) := ⟨x.toNat, by omega⟩
          refine ⟨_, rfl, .ref ch, rfl, ch, _, _, _, rfl, rfl, lst_l hch, atI_nat (j := 2) rfl, .inl ⟨c2, rfl, _, rfl, l, _, rfl, .inr (tup_t hl3), ?_⟩⟩
          rw [List.length_map]
          refine ⟨_, _, rfl, rfl, c, l, _, _, .int (j : Int), rfl, rfl, tup_t hl3, at_of hk (int_at gk), _, _, rfl, rfl, ?_⟩
          obtain ⟨y, gj⟩ : ∃ y, (t :: cs)[j + 1]? = some y := ⟨_, List.getElem?_eq_getElem (by rw [List.length_cons]; omega)⟩
          have bj := bd _ (List.mem_of_getElem? gj)
          refine ⟨_, rfl, _, rfl, F, _, _, .int y, rfl, rfl, lst_l hF3, at_of (j := j + 1) (by omega) (int_at gj), _, rfl, _, _, rfl, rfl, .ref ch, rfl, ch, _, _, _, rfl, rfl, lst_l hch, atI_nat (j := 1) rfl, rfl, .inr ⟨_, rfl, _, _, rfl, rfl, ?_⟩⟩
          refine ⟨_, rfl, _, rfl, F, _, _, j + 1, rfl, rfl, hF3, ?_, ?_⟩
          · rw [show 1 + (j : Int) = ((j + 1 : Nat) : Int) by omega]
            exact ixn_at (by rw [List.length_map, List.length_cons]; omega)
          refine ⟨_, rfl, q _ F ((t :: cs).set (j + 1) _) (same_mut s3 nF) nF (upd_same.trans (congrArg some (congrArg HO.lst (set_ints _ _ _)))) (by rw [List.length_set, List.length_cons]; omega) (BndL.put (bd.le (by omega)) ?_)⟩
          by_cases e : decide (V.int c1 = V.int 6) = true
          · rw [if_pos e]
            omega
          · rw [if_neg e]
            omega
        · refine ⟨.ref ch, rfl, ch, _, _, _, rfl, rfl, lst_l hch, atI_nat (j := 1) rfl, rfl, _, rfl, ite2 (fun _ => ?_) (fun _ => ?_)⟩
          · refine ⟨(by show 1 ≤ sizeLine; decide), fun p np => ?_⟩
            refine ⟨_, rfl, _, rfl, by omega, by omega, ?_⟩
            rw [Int.toNat_natCast]
            refine fun Z nZ => lc_range (lo := 0) (n := m) (fun i H7 => Same (upd H3 p (.lst [V.int 1])) H7 ∧ H7 Z = some (.lst ((List.replicate i (0 : Int)).map V.int))) ⟨same_upd nZ, upd_same⟩ ?_ ?_
            · rintro i H7 hi ⟨s, hD⟩
              refine ⟨rfl, ?_⟩
              refine lc_yes ?_
              refine iteT ?_
              refine ⟨_, hD, ?_, same_mut s nZ, ?_⟩
              · rw [List.length_map, List.length_replicate]
                exact small1000 (by omega)
              · rw [upd_same, List.replicate_succ', ← snoc_int]
            rintro H7 ⟨s7, hZ⟩
            refine ⟨p, Z, _, _, rfl, rfl, s7 _ _ upd_same, hZ, ?_, fun u nu => ?_⟩
            · rw [List.length_map, List.length_replicate]
              exact Nat.le_of_lt (small1000 (by show 1 + m ≤ 1000; omega))
            have sE := ((s3.trans (same_upd np)).trans s7)
            refine q _ u (1 :: List.replicate m 0) (sE.trans (same_upd nu)) (sE.free nu) upd_same (by rw [List.length_cons, List.length_replicate]; omega) fun x hx => ?_
            rcases List.mem_cons.mp hx with rfl | hx
            · omega
            · rw [(List.mem_replicate.mp hx).2]
              omega
          · refine ⟨.ref ch, rfl, ch, _, _, _, rfl, rfl, lst_l hch, atI_nat (j := 3) rfl, _, rfl, .ref ch, rfl, ch, _, _, _, rfl, rfl, lst_l hch, atI_nat (j := 1) rfl, rfl, .inr ⟨_, rfl, _, _, rfl, rfl, sml _ _, ?_⟩⟩
            obtain ⟨hv, eh, bh⟩ : ∃ hv : Int, -c3 * (if decide (V.int c1 = V.int 3) = true then 1 else 0) = hv ∧ -(64 * B) ≤ hv ∧ hv ≤ 64 * B := by
              by_cases e : decide (V.int c1 = V.int 3) = true
              · exact ⟨_, rfl, by rw [if_pos e]; omega, by rw [if_pos e]; omega⟩
              · exact ⟨_, rfl, by rw [if_neg e]; omega, by rw [if_neg e]; omega⟩
            refine ⟨(by show 1 ≤ sizeLine; decide), fun p np => ?_⟩
            refine ⟨_, rfl, _, rfl, by omega, by omega, ?_⟩
            rw [Int.toNat_natCast]
            refine fun Z nZ => lc_range (lo := 0) (n := m) (fun i H7 => Same (upd H3 p (.lst [V.int (-c3 * (if decide (V.int c1 = V.int 3) = true then 1 else 0))])) H7 ∧ H7 Z = some (.lst ((List.replicate i (0 : Int)).map V.int))) ⟨same_upd nZ, upd_same⟩ ?_ ?_
            · rintro i H7 hi ⟨s, hD⟩
              refine ⟨rfl, ?_⟩
              refine lc_yes ?_
              refine iteT ?_
              refine ⟨_, hD, ?_, same_mut s nZ, ?_⟩
              · rw [List.length_map, List.length_replicate]
                exact small1000 (by omega)
              · rw [upd_same, List.replicate_succ', ← snoc_int]
            rintro H7 ⟨s7, hZ⟩
            refine ⟨p, Z, _, _, rfl, rfl, s7 _ _ upd_same, hZ, ?_, fun u nu => ?_⟩
            · rw [List.length_map, List.length_replicate]
              exact Nat.le_of_lt (small1000 (by show 1 + m ≤ 1000; omega))
            have sE := ((s3.trans (same_upd np)).trans s7)
            refine q _ u ((-c3 * (if decide (V.int c1 = V.int 3) = true then 1 else 0)) :: List.replicate m 0) (sE.trans (same_upd nu)) (sE.free nu) upd_same (by rw [List.length_cons, List.length_replicate]; omega) fun x hx => ?_
            rcases List.mem_cons.mp hx with rfl | hx
            · rw [eh]
              omega
            · rw [(List.mem_replicate.mp hx).2]
              omega
        · refine ⟨.ref ch, rfl, ch, _, _, _, rfl, rfl, lst_l hch, atI_nat (j := 1) rfl, rfl, _, rfl, ite2 (fun _ => ?_) (fun _ => ?_)⟩
          · refine ⟨(by show 1 ≤ sizeLine; decide), fun p np => ?_⟩
            refine ⟨_, rfl, _, rfl, by omega, by omega, ?_⟩
            rw [Int.toNat_natCast]
            refine fun Z nZ => lc_range (lo := 0) (n := m) (fun i H7 => Same (upd H3 p (.lst [V.int 1])) H7 ∧ H7 Z = some (.lst ((List.replicate i (0 : Int)).map V.int))) ⟨same_upd nZ, upd_same⟩ ?_ ?_
            · rintro i H7 hi ⟨s, hD⟩
              refine ⟨rfl, ?_⟩
              refine lc_yes ?_
              refine iteT ?_
              refine ⟨_, hD, ?_, same_mut s nZ, ?_⟩
              · rw [List.length_map, List.length_replicate]
                exact small1000 (by omega)
              · rw [upd_same, List.replicate_succ', ← snoc_int]
            rintro H7 ⟨s7, hZ⟩
            refine ⟨p, Z, _, _, rfl, rfl, s7 _ _ upd_same, hZ, ?_, fun u nu => ?_⟩
            · rw [List.length_map, List.length_replicate]
              exact Nat.le_of_lt (small1000 (by show 1 + m ≤ 1000; omega))
            have sE := ((s3.trans (same_upd np)).trans s7)
            refine q _ u (1 :: List.replicate m 0) (sE.trans (same_upd nu)) (sE.free nu) upd_same (by rw [List.length_cons, List.length_replicate]; omega) fun x hx => ?_
            rcases List.mem_cons.mp hx with rfl | hx
            · omega
            · rw [(List.mem_replicate.mp hx).2]
              omega
          · refine ⟨.ref ch, rfl, ch, _, _, _, rfl, rfl, lst_l hch, atI_nat (j := 3) rfl, _, rfl, .ref ch, rfl, ch, _, _, _, rfl, rfl, lst_l hch, atI_nat (j := 1) rfl, rfl, .inr ⟨_, rfl, _, _, rfl, rfl, sml _ _, ?_⟩⟩
            obtain ⟨hv, eh, bh⟩ : ∃ hv : Int, -c3 * (if decide (V.int c1 = V.int 3) = true then 1 else 0) = hv ∧ -(64 * B) ≤ hv ∧ hv ≤ 64 * B := by
              by_cases e : decide (V.int c1 = V.int 3) = true
              · exact ⟨_, rfl, by rw [if_pos e]; omega, by rw [if_pos e]; omega⟩
              · exact ⟨_, rfl, by rw [if_neg e]; omega, by rw [if_neg e]; omega⟩
            refine ⟨(by show 1 ≤ sizeLine; decide), fun p np => ?_⟩
            refine ⟨_, rfl, _, rfl, by omega, by omega, ?_⟩
            rw [Int.toNat_natCast]
            refine fun Z nZ => lc_range (lo := 0) (n := m) (fun i H7 => Same (upd H3 p (.lst [V.int (-c3 * (if decide (V.int c1 = V.int 3) = true then 1 else 0))])) H7 ∧ H7 Z = some (.lst ((List.replicate i (0 : Int)).map V.int))) ⟨same_upd nZ, upd_same⟩ ?_ ?_
            · rintro i H7 hi ⟨s, hD⟩
              refine ⟨rfl, ?_⟩
              refine lc_yes ?_
              refine iteT ?_
              refine ⟨_, hD, ?_, same_mut s nZ, ?_⟩
              · rw [List.length_map, List.length_replicate]
                exact small1000 (by omega)
              · rw [upd_same, List.replicate_succ', ← snoc_int]
            rintro H7 ⟨s7, hZ⟩
            refine ⟨p, Z, _, _, rfl, rfl, s7 _ _ upd_same, hZ, ?_, fun u nu => ?_⟩
            · rw [List.length_map, List.length_replicate]
              exact Nat.le_of_lt (small1000 (by show 1 + m ≤ 1000; omega))
            have sE := ((s3.trans (same_upd np)).trans s7)
            refine q _ u ((-c3 * (if decide (V.int c1 = V.int 3) = true then 1 else 0)) :: List.replicate m 0) (sE.trans (same_upd nu)) (sE.free nu) upd_same (by rw [List.length_cons, List.length_replicate]; omega) fun x hx => ?_
            rcases List.mem_cons.mp hx with rfl | hx
            · rw [eh]
              omega
            · rw [(List.mem_replicate.mp hx).2]
              omega
      · refine ⟨.ref ch, rfl, ch, _, _, _, rfl, rfl, lst_l hch, atI_nat (j := 1) rfl, _, _, rfl, rfl, _, rfl, ite2 (fun _ => ⟨_, rfl, l, _, rfl, .inr (tup_t hl3), _, _, rfl, rfl, _, rfl, ite2 (fun c => ?_) (fun _ => ?_)⟩) (fun _ => iteF ?_)⟩
        · have c : 0 < (ls.length : Int) := by
            have := of_decide_eq_true c
            rw [List.length_map] at this
            omega
          have e0 := Int.emod_nonneg c2 (show (ls.length : Int) ≠ 0 by omega)
          have e1 := Int.emod_lt_of_pos c2 c
          obtain ⟨k, hk⟩ : ∃ k : Nat, c2 % (ls.length : Int) = (k : Int) := ⟨_, (Int.toNat_of_nonneg e0).symm⟩
          have gk : ls[k]? = some ls[k] := List.getElem?_eq_getElem (by omega)
          have bk := lsl _ (List.mem_of_getElem? gk)
          generalize ls[k] = x at gk bk
          obtain ⟨j, rfl⟩ : ∃ j : Nat, x = (j : Int) := ⟨x.toNat, by omega⟩
          refine ⟨_, rfl, .ref ch, rfl, ch, _, _, _, rfl, rfl, lst_l hch, atI_nat (j := 2) rfl, .inl ⟨c2, rfl, _, rfl, l, _, rfl, .inr (tup_t hl3), ?_⟩⟩
          rw [List.length_map]
          refine ⟨_, _, rfl, rfl, c, l, _, _, .int (j : Int), rfl, rfl, tup_t hl3, at_of hk (int_at gk), _, _, rfl, rfl, ?_⟩
          obtain ⟨y, gj⟩ : ∃ y, (t :: cs)[j + 1]? = some y := ⟨_, List.getElem?_eq_getElem (by rw [List.length_cons]; omega)⟩
          have bj := bd _ (List.mem_of_getElem? gj)
          refine ⟨_, rfl, _, rfl, F, _, _, .int y, rfl, rfl, lst_l hF3, at_of (j := j + 1) (by omega) (int_at gj), _, rfl, _, _, rfl, rfl, .ref ch, rfl, ch, _, _, _, rfl, rfl, lst_l hch, atI_nat (j := 1) rfl, rfl, .inr ⟨_, rfl, _, _, rfl, rfl, ?_⟩⟩
          refine ⟨_, rfl, _, rfl, F, _, _, j + 1, rfl, rfl, hF3, ?_, ?_⟩
          · rw [show 1 + (j : Int) = ((j + 1 : Nat) : Int) by omega]
            exact ixn_at (by rw [List.length_map, List.length_cons]; omega)
          refine ⟨_, rfl, q _ F ((t :: cs).set (j + 1) _) (same_mut s3 nF) nF (upd_same.trans (congrArg some (congrArg HO.lst (set_ints _ _ _)))) (by rw [List.length_set, List.length_cons]; omega) (BndL.put (bd.le (by omega)) ?_)⟩
          by_cases e : decide (V.int c1 = V.int 6) = true
          · rw [if_pos e]
            omega
          · rw [if_neg e]
            omega
        · refine ⟨.ref ch, rfl, ch, _, _, _, rfl, rfl, lst_l hch, atI_nat (j := 1) rfl, rfl, _, rfl, ite2 (fun _ => ?_) (fun _ => ?_)⟩
          · refine ⟨(by show 1 ≤ sizeLine; decide), fun p np => ?_⟩
            refine ⟨_, rfl, _, rfl, by omega, by omega, ?_⟩
            rw [Int.toNat_natCast]
            refine fun Z nZ => lc_range (lo := 0) (n := m) (fun i H7 => Same (upd H3 p (.lst [V.int 1])) H7 ∧ H7 Z = some (.lst ((List.replicate i (0 : Int)).map V.int))) ⟨same_upd nZ, upd_same⟩ ?_ ?_
            · rintro i H7 hi ⟨s, hD⟩
              refine ⟨rfl, ?_⟩
              refine lc_yes ?_
              refine iteT ?_
              refine ⟨_, hD, ?_, same_mut s nZ, ?_⟩
              · rw [List.length_map, List.length_replicate]
                exact small1000 (by omega)
              · rw [upd_same, List.replicate_succ', ← snoc_int]
            rintro H7 ⟨s7, hZ⟩
            refine ⟨p, Z, _, _, rfl, rfl, s7 _ _ upd_same, hZ, ?_, fun u nu => ?_⟩
            · rw [List.length_map, List.length_replicate]
              exact Nat.le_of_lt (small1000 (by show 1 + m ≤ 1000; omega))
            have sE := ((s3.trans (same_upd np)).trans s7)
            refine q _ u (1 :: List.replicate m 0) (sE.trans (same_upd nu)) (sE.free nu) upd_same (by rw [List.length_cons, List.length_replicate]; omega) fun x hx => ?_
            rcases List.mem_cons.mp hx with rfl | hx
            · omega
            · rw [(List.mem_replicate.mp hx).2]
              omega
          · refine ⟨.ref ch, rfl, ch, _, _, _, rfl, rfl, lst_l hch, atI_nat (j := 3) rfl, _, rfl, .ref ch, rfl, ch, _, _, _, rfl, rfl, lst_l hch, atI_nat (j := 1) rfl, rfl, .inr ⟨_, rfl, _, _, rfl, rfl, sml _ _, ?_⟩⟩
            obtain ⟨hv, eh, bh⟩ : ∃ hv : Int, -c3 * (if decide (V.int c1 = V.int 3) = true then 1 else 0) = hv ∧ -(64 * B) ≤ hv ∧ hv ≤ 64 * B := by
              by_cases e : decide (V.int c1 = V.int 3) = true
              · exact ⟨_, rfl, by rw [if_pos e]; omega, by rw [if_pos e]; omega⟩
              · exact ⟨_, rfl, by rw [if_neg e]; omega, by rw [if_neg e]; omega⟩
            refine ⟨(by show 1 ≤ sizeLine; decide), fun p np => ?_⟩
            refine ⟨_, rfl, _, rfl, by omega, by omega, ?_⟩
            rw [Int.toNat_natCast]
            refine fun Z nZ => lc_range (lo := 0) (n := m) (fun i H7 => Same (upd H3 p (.lst [V.int (-c3 * (if decide (V.int c1 = V.int 3) = true then 1 else 0))])) H7 ∧ H7 Z = some (.lst ((List.replicate i (0 : Int)).map V.int))) ⟨same_upd nZ, upd_same⟩ ?_ ?_
            · rintro i H7 hi ⟨s, hD⟩
              refine ⟨rfl, ?_⟩
              refine lc_yes ?_
              refine iteT ?_
              refine ⟨_, hD, ?_, same_mut s nZ, ?_⟩
              · rw [List.length_map, List.length_replicate]
                exact small1000 (by omega)
              · rw [upd_same, List.replicate_succ', ← snoc_int]
            rintro H7 ⟨s7, hZ⟩
            refine ⟨p, Z, _, _, rfl, rfl, s7 _ _ upd_same, hZ, ?_, fun u nu => ?_⟩
            · rw [List.length_map, List.length_replicate]
              exact Nat.le_of_lt (small1000 (by show 1 + m ≤ 1000; omega))
            have sE := ((s3.trans (same_upd np)).trans s7)
            refine q _ u ((-c3 * (if decide (V.int c1 = V.int 3) = true then 1 else 0)) :: List.replicate m 0) (sE.trans (same_upd nu)) (sE.free nu) upd_same (by rw [List.length_cons, List.length_replicate]; omega) fun x hx => ?_
            rcases List.mem_cons.mp hx with rfl | hx
            · rw [eh]
              omega
            · rw [(List.mem_replicate.mp hx).2]
              omega
        · refine ⟨.ref ch, rfl, ch, _, _, _, rfl, rfl, lst_l hch, atI_nat (j := 1) rfl, rfl, _, rfl, ite2 (fun _ => ?_) (fun _ => ?_)⟩
          · refine ⟨(by show 1 ≤ sizeLine; decide), fun p np => ?_⟩
            refine ⟨_, rfl, _, rfl, by omega, by omega, ?_⟩
            rw [Int.toNat_natCast]
            refine fun Z nZ => lc_range (lo := 0) (n := m) (fun i H7 => Same (upd H3 p (.lst [V.int 1])) H7 ∧ H7 Z = some (.lst ((List.replicate i (0 : Int)).map V.int))) ⟨same_upd nZ, upd_same⟩ ?_ ?_
            · rintro i H7 hi ⟨s, hD⟩
              refine ⟨rfl, ?_⟩
              refine lc_yes ?_
              refine iteT ?_
              refine ⟨_, hD, ?_, same_mut s nZ, ?_⟩
              · rw [List.length_map, List.length_replicate]
                exact small1000 (by omega)
              · rw [upd_same, List.replicate_succ', ← snoc_int]
            rintro H7 ⟨s7, hZ⟩
            refine ⟨p, Z, _, _, rfl, rfl, s7 _ _ upd_same, hZ, ?_, fun u nu => ?_⟩
            · rw [List.length_map, List.length_replicate]
              exact Nat.le_of_lt (small1000 (by show 1 + m ≤ 1000; omega))
            have sE := ((s3.trans (same_upd np)).trans s7)
            refine q _ u (1 :: List.replicate m 0) (sE.trans (same_upd nu)) (sE.free nu) upd_same (by rw [List.length_cons, List.length_replicate]; omega) fun x hx => ?_
            rcases List.mem_cons.mp hx with rfl | hx
            · omega
            · rw [(List.mem_replicate.mp hx).2]
              omega
          · refine ⟨.ref ch, rfl, ch, _, _, _, rfl, rfl, lst_l hch, atI_nat (j := 3) rfl, _, rfl, .ref ch, rfl, ch, _, _, _, rfl, rfl, lst_l hch, atI_nat (j := 1) rfl, rfl, .inr ⟨_, rfl, _, _, rfl, rfl, sml _ _, ?_⟩⟩
            obtain ⟨hv, eh, bh⟩ : ∃ hv : Int, -c3 * (if decide (V.int c1 = V.int 3) = true then 1 else 0) = hv ∧ -(64 * B) ≤ hv ∧ hv ≤ 64 * B := by
              by_cases e : decide (V.int c1 = V.int 3) = true
              · exact ⟨_, rfl, by rw [if_pos e]; omega, by rw [if_pos e]; omega⟩
              · exact ⟨_, rfl, by rw [if_neg e]; omega, by rw [if_neg e]; omega⟩
            refine ⟨(by show 1 ≤ sizeLine; decide), fun p np => ?_⟩
            refine ⟨_, rfl, _, rfl, by omega, by omega, ?_⟩
            rw [Int.toNat_natCast]
            refine fun Z nZ => lc_range (lo := 0) (n := m) (fun i H7 => Same (upd H3 p (.lst [V.int (-c3 * (if decide (V.int c1 = V.int 3) = true then 1 else 0))])) H7 ∧ H7 Z = some (.lst ((List.replicate i (0 : Int)).map V.int))) ⟨same_upd nZ, upd_same⟩ ?_ ?_
            · rintro i H7 hi ⟨s, hD⟩
              refine ⟨rfl, ?_⟩
              refine lc_yes ?_
              refine iteT ?_
              refine ⟨_, hD, ?_, same_mut s nZ, ?_⟩
              · rw [List.length_map, List.length_replicate]
                exact small1000 (by omega)
              · rw [upd_same, List.replicate_succ', ← snoc_int]
            rintro H7 ⟨s7, hZ⟩
            refine ⟨p, Z, _, _, rfl, rfl, s7 _ _ upd_same, hZ, ?_, fun u nu => ?_⟩
            · rw [List.length_map, List.length_replicate]
              exact Nat.le_of_lt (small1000 (by show 1 + m ≤ 1000; omega))
            have sE := ((s3.trans (same_upd np)).trans s7)
            refine q _ u ((-c3 * (if decide (V.int c1 = V.int 3) = true then 1 else 0)) :: List.replicate m 0) (sE.trans (same_upd nu)) (sE.free nu) upd_same (by rw [List.length_cons, List.length_replicate]; omega) fun x hx => ?_
            rcases List.mem_cons.mp hx with rfl | hx
            · rw [eh]
              omega
            · rw [(List.mem_replicate.mp hx).2]
              omega
    · refine ⟨.ref ch, rfl, ch, _, _, _, rfl, rfl, lst_l hch, atI_nat (j := 1) rfl, rfl, _, rfl, ite2 (fun _ => ⟨_, rfl, O, _, rfl, .inl (lst_l hO), _, _, rfl, rfl, _, rfl, ite2 (fun c => ?_) (fun _ => ?_)⟩) (fun _ => iteF ?_)⟩
      · have c : 0 < (os.length : Int) := by
          have := of_decide_eq_true c
          rw [List.length_map] at this
          omega
        refine ⟨.ref F, rfl, F, _, _, _, rfl, rfl, lst_l hF3, atI_nat (j := 0) rfl, _, _, rfl, rfl, .ref ch, rfl, ch, _, _, _, rfl, rfl, lst_l hch, atI_nat (j := 3) rfl, _, _, rfl, rfl, _, rfl, F, _, _, 0, rfl, rfl, hF3, ixn_at (j := 0) (by rw [List.length_map, List.length_cons]; omega), ?_⟩
        have s4 := same_mut (o := .lst (((t :: cs).map V.int).set 0 (V.int (t + 1 + c3)))) s3 nF
        have hF4 : upd H3 F (.lst (((t :: cs).map V.int).set 0 (V.int (t + 1 + c3)))) F = some (.lst (((t + 1 + c3) :: cs).map V.int)) := upd_same
        have hO4 : upd H3 F (.lst (((t :: cs).map V.int).set 0 (V.int (t + 1 + c3)))) O = some (.lst (os.map V.int)) := (upd_ne OF).trans hO
        have hch4 : upd H3 F (.lst (((t :: cs).map V.int).set 0 (V.int (t + 1 + c3)))) ch = some (.lst ([c0, c1, c2, c3].map V.int)) := s4 _ _ hch0
        have e0 := Int.emod_nonneg c2 (show (os.length : Int) ≠ 0 by omega)
        have e1 := Int.emod_lt_of_pos c2 c
        obtain ⟨k, hk⟩ : ∃ k : Nat, c2 % (os.length : Int) = (k : Int) := ⟨_, (Int.toNat_of_nonneg e0).symm⟩
        have gk : os[k]? = some os[k] := List.getElem?_eq_getElem (by omega)
        have bk := bo _ (List.mem_of_getElem? gk)
        generalize os[k] = x at gk bk
        obtain ⟨j, rfl⟩ : ∃ j : Nat, x = (j : Int) := ⟨x.toNat, by omega⟩
        refine ⟨.ref ch, rfl, ch, _, _, _, rfl, rfl, lst_l hch4, atI_nat (j := 3) rfl, _, _, rfl, rfl, _, rfl, _, rfl, .ref ch, rfl, ch, _, _, _, rfl, rfl, lst_l hch4, atI_nat (j := 2) rfl, .inl ⟨c2, rfl, _, rfl, O, _, rfl, .inl (lst_l hO4), ?_⟩⟩
        rw [List.length_map]
        refine ⟨_, _, rfl, rfl, c, O, _, _, .int (j : Int), rfl, rfl, lst_l hO4, at_of hk (int_at gk), _, _, rfl, rfl, F, _, _, j + 1, rfl, rfl, hF4, ?_, ?_⟩
        · rw [show 1 + (j : Int) = ((j + 1 : Nat) : Int) by omega]
          exact ixn_at (by rw [List.length_map, List.length_cons]; omega)
        refine ⟨_, rfl, q _ F (((t + 1 + c3) :: cs).set (j + 1) (1 + c3)) (same_mut s4 nF) nF (upd_same.trans (congrArg some (congrArg HO.lst (set_ints _ _ _)))) (by rw [List.length_set, List.length_cons]; omega) (BndL.put (fun x hx => ?_) (by omega))⟩
        have b0 := bd t List.mem_cons_self
        rcases List.mem_cons.mp hx with rfl | hx
        · omega
        · have := bd x (List.mem_cons_of_mem _ hx)
          omega
      · refine ⟨.ref ch, rfl, ch, _, _, _, rfl, rfl, lst_l hch, atI_nat (j := 1) rfl, _, _, rfl, rfl, _, rfl, ite2 (fun _ => ⟨_, rfl, l, _, rfl, .inr (tup_t hl3), _, _, rfl, rfl, _, rfl, ite2 (fun c => ?_) (fun _ => ?_)⟩) (fun _ => iteF ?_)⟩
        · have c : 0 < (ls.length : Int) := by
            have := of_decide_eq_true c
            rw [List.length_map] at this
            omega
          have e0 := Int.emod_nonneg c2 (show (ls.length : Int) ≠ 0 by omega)
          have e1 := Int.emod_lt_of_pos c2 c
          obtain ⟨k, hk⟩ : ∃ k : Nat, c2 % (ls.length : Int) = (k : Int) := ⟨_, (Int.toNat_of_nonneg e0).symm⟩
          have gk : ls[k]? = some ls[k] := List.getElem?_eq_getElem (by omega)
          have bk := lsl _ (List.mem_of_getElem? gk)
          generalize ls[k] = x at gk bk
          obtain ⟨j, rfl⟩ : ∃ j : Nat, x = (j : Int) := ⟨x.toNat, by omega⟩
          refine ⟨_, rfl, .ref ch, rfl, ch, _, _, _, rfl, rfl, lst_l hch, atI_nat (j := 2) rfl, .inl ⟨c2, rfl, _, rfl, l, _, rfl, .inr (tup_t hl3), ?_⟩⟩
          rw [List.length_map]
          refine ⟨_, _, rfl, rfl, c, l, _, _, .int (j : Int), rfl, rfl, tup_t hl3, at_of hk (int_at gk), _, _, rfl, rfl, ?_⟩
          obtain ⟨y, gj⟩ : ∃ y, (t :: cs)[j + 1]? = some y := ⟨_, List.getElem?_eq_getElem (by rw [List.length_cons]; omega)⟩
          have bj := bd _ (List.mem_of_getElem? gj)
          refine ⟨_, rfl, _, rfl, F, _, _, .int y, rfl, rfl, lst_l hF3, at_of (j := j + 1) (by omega) (int_at gj), _, rfl, _, _, rfl, rfl, .ref ch, rfl, ch, _, _, _, rfl, rfl, lst_l hch, atI_nat (j := 1) rfl, rfl, .inr ⟨_, rfl, _, _, rfl, rfl, ?_⟩⟩
          refine ⟨_, rfl, _, rfl, F, _, _, j + 1, rfl, rfl, hF3, ?_, ?_⟩
          · rw [show 1 + (j : Int) = ((j + 1 : Nat) : Int) by omega]
            exact ixn_at (by rw [List.length_map, List.length_cons]; omega)
          refine ⟨_, rfl, q _ F ((t :: cs).set (j + 1) _) (same_mut s3 nF) nF (upd_same.trans (congrArg some (congrArg HO.lst (set_ints _ _ _)))) (by rw [List.length_set, List.length_cons]; omega) (BndL.put (bd.le (by omega)) ?_)⟩
          by_cases e : decide (V.int c1 = V.int 6) = true
          · rw [if_pos e]
            omega
          · rw [if_neg e]
            omega
        · refine ⟨.ref ch, rfl, ch, _, _, _, rfl, rfl, lst_l hch, atI_nat (j := 1) rfl, rfl, _, rfl, ite2 (fun _ => ?_) (fun _ => ?_)⟩
          · refine ⟨(by show 1 ≤ sizeLine; decide), fun p np => ?_⟩
            refine ⟨_, rfl, _, rfl, by omega, by omega, ?_⟩
            rw [Int.toNat_natCast]
            refine fun Z nZ => lc_range (lo := 0) (n := m) (fun i H7 => Same (upd H3 p (.lst [V.int 1])) H7 ∧ H7 Z = some (.lst ((List.replicate i (0 : Int)).map V.int))) ⟨same_upd nZ, upd_same⟩ ?_ ?_
            · rintro i H7 hi ⟨s, hD⟩
              refine ⟨rfl, ?_⟩
              refine lc_yes ?_
              refine iteT ?_
              refine ⟨_, hD, ?_, same_mut s nZ, ?_⟩
              · rw [List.length_map, List.length_replicate]
                exact small1000 (by omega)
              · rw [upd_same, List.replicate_succ', ← snoc_int]
            rintro H7 ⟨s7, hZ⟩
            refine ⟨p, Z, _, _, rfl, rfl, s7 _ _ upd_same, hZ, ?_, fun u nu => ?_⟩
            · rw [List.length_map, List.length_replicate]
              exact Nat.le_of_lt (small1000 (by show 1 + m ≤ 1000; omega))
            have sE := ((s3.trans (same_upd np)).trans s7)
            refine q _ u (1 :: List.replicate m 0) (sE.trans (same_upd nu)) (sE.free nu) upd_same (by rw [List.length_cons, List.length_replicate]; omega) fun x hx => ?_
            rcases List.mem_cons.mp hx with rfl | hx
            · omega
            · rw [(List.mem_replicate.mp hx).2]
              omega
          · refine ⟨.ref ch, rfl, ch, _, _, _, rfl, rfl, lst_l hch, atI_nat (j := 3) rfl, _, rfl, .ref ch, rfl, ch, _, _, _, rfl, rfl, lst_l hch, atI_nat (j := 1) rfl, rfl, .inr ⟨_, rfl, _, _, rfl, rfl, sml _ _, ?_⟩⟩
            obtain ⟨hv, eh, bh⟩ : ∃ hv : Int, -c3 * (if decide (V.int c1 = V.int 3) = true then 1 else 0) = hv ∧ -(64 * B) ≤ hv ∧ hv ≤ 64 * B := by
              by_cases e : decide (V.int c1 = V.int 3) = true
              · exact ⟨_, rfl, by rw [if_pos e]; omega, by rw [if_pos e]; omega⟩
              · exact ⟨_, rfl, by rw [if_neg e]; omega, by rw [if_neg e]; omega⟩
            refine ⟨(by show 1 ≤ sizeLine; decide), fun p np => ?_⟩
            refine ⟨_, rfl, _, rfl, by omega, by omega, ?_⟩
            rw [Int.toNat_natCast]
            refine fun Z nZ => lc_range (lo := 0) (n := m) (fun i H7 => Same (upd H3 p (.lst [V.int (-c3 * (if decide (V.int c1 = V.int 3) = true then 1 else 0))])) H7 ∧ H7 Z = some (.lst ((List.replicate i (0 : Int)).map V.int))) ⟨same_upd nZ, upd_same⟩ ?_ ?_
            · rintro i H7 hi ⟨s, hD⟩
              refine ⟨rfl, ?_⟩
              refine lc_yes ?_
              refine iteT ?_
              refine ⟨_, hD, ?_, same_mut s nZ, ?_⟩
              · rw [List.length_map, List.length_replicate]
                exact small1000 (by omega)
              · rw [upd_same, List.replicate_succ', ← snoc_int]
            rintro H7 ⟨s7, hZ⟩
            refine ⟨p, Z, _, _, rfl, rfl, s7 _ _ upd_same, hZ, ?_, fun u nu => ?_⟩
            · rw [List.length_map, List.length_replicate]
              exact Nat.le_of_lt (small1000 (by show 1 + m ≤ 1000; omega))
            have sE := ((s3.trans (same_upd np)).trans s7)
            refine q _ u ((-c3 * (if decide (V.int c1 = V.int 3) = true then 1 else 0)) :: List.replicate m 0) (sE.trans (same_upd nu)) (sE.free nu) upd_same (by rw [List.length_cons, List.length_replicate]; omega) fun x hx => ?_
            rcases List.mem_cons.mp hx with rfl | hx
            · rw [eh]
              omega
            · rw [(List.mem_replicate.mp hx).2]
              omega
        · refine ⟨.ref ch, rfl, ch, _, _, _, rfl, rfl, lst_l hch, atI_nat (j := 1) rfl, rfl, _, rfl, ite2 (fun _ => ?_) (fun _ => ?_)⟩
          · refine ⟨(by show 1 ≤ sizeLine; decide), fun p np => ?_⟩
            refine ⟨_, rfl, _, rfl, by omega, by omega, ?_⟩
            rw [Int.toNat_natCast]
            refine fun Z nZ => lc_range (lo := 0) (n := m) (fun i H7 => Same (upd H3 p (.lst [V.int 1])) H7 ∧ H7 Z = some (.lst ((List.replicate i (0 : Int)).map V.int))) ⟨same_upd nZ, upd_same⟩ ?_ ?_
            · rintro i H7 hi ⟨s, hD⟩
              refine ⟨rfl, ?_⟩
              refine lc_yes ?_
              refine iteT ?_
              refine ⟨_, hD, ?_, same_mut s nZ, ?_⟩
              · rw [List.length_map, List.length_replicate]
                exact small1000 (by omega)
              · rw [upd_same, List.replicate_succ', ← snoc_int]
            rintro H7 ⟨s7, hZ⟩
            refine ⟨p, Z, _, _, rfl, rfl, s7 _ _ upd_same, hZ, ?_, fun u nu => ?_⟩
            · rw [List.length_map, List.length_replicate]
              exact Nat.le_of_lt (small1000 (by show 1 + m ≤ 1000; omega))
            have sE := ((s3.trans (same_upd np)).trans s7)
            refine q _ u (1 :: List.replicate m 0) (sE.trans (same_upd nu)) (sE.free nu) upd_same (by rw [List.length_cons, List.length_replicate]; omega) fun x hx => ?_
            rcases List.mem_cons.mp hx with rfl | hx
            · omega
            · rw [(List.mem_replicate.mp hx).2]
              omega
          · refine ⟨.ref ch, rfl, ch, _, _, _, rfl, rfl, lst_l hch, atI_nat (j := 3) rfl, _, rfl, .ref ch, rfl, ch, _, _, _, rfl, rfl, lst_l hch, atI_nat (j := 1) rfl, rfl, .inr ⟨_, rfl, _, _, rfl, rfl, sml _ _, ?_⟩⟩
            obtain ⟨hv, eh, bh⟩ : ∃ hv : Int, -c3 * (if decide (V.int c1 = V.int 3) = true then 1 else 0) = hv ∧ -(64 * B) ≤ hv ∧ hv ≤ 64 * B := by
              by_cases e : decide (V.int c1 = V.int 3) = true
              · exact ⟨_, rfl, by rw [if_pos e]; omega, by rw [if_pos e]; omega⟩
              · exact ⟨_, rfl, by rw [if_neg e]; omega, by rw [if_neg e]; omega⟩
            refine ⟨(by show 1 ≤ sizeLine; decide), fun p np => ?_⟩
            refine ⟨_, rfl, _, rfl, by omega, by omega, ?_⟩
            rw [Int.toNat_natCast]
            refine fun Z nZ => lc_range (lo := 0) (n := m) (fun i H7 => Same (upd H3 p (.lst [V.int (-c3 * (if decide (V.int c1 = V.int 3) = true then 1 else 0))])) H7 ∧ H7 Z = some (.lst ((List.replicate i (0 : Int)).map V.int))) ⟨same_upd nZ, upd_same⟩ ?_ ?_
            · rintro i H7 hi ⟨s, hD⟩
              refine ⟨rfl, ?_⟩
              refine lc_yes ?_
              refine iteT ?_
              refine ⟨_, hD, ?_, same_mut s nZ, ?_⟩
              · rw [List.length_map, List.length_replicate]
                exact small1000 (by omega)
              · rw [upd_same, List.replicate_succ', ← snoc_int]
            rintro H7 ⟨s7, hZ⟩
            refine ⟨p, Z, _, _, rfl, rfl, s7 _ _ upd_same, hZ, ?_, fun u nu => ?_⟩
            · rw [List.length_map, List.length_replicate]
              exact Nat.le_of_lt (small1000 (by show 1 + m ≤ 1000; omega))
            have sE := ((s3.trans (same_upd np)).trans s7)
            refine q _ u ((-c3 * (if decide (V.int c1 = V.int 3) = true then 1 else 0)) :: List.replicate m 0) (sE.trans (same_upd nu)) (sE.free nu) upd_same (by rw [List.length_cons, List.length_replicate]; omega) fun x hx => ?_
            rcases List.mem_cons.mp hx with rfl | hx
            · rw [eh]
              omega
            · rw [(List.mem_replicate.mp hx).2]
              omega
      · refine ⟨.ref ch, rfl, ch, _, _, _, rfl, rfl, lst_l hch, atI_nat (j := 1) rfl, _, _, rfl, rfl, _, rfl, ite2 (fun _ => ⟨_, rfl, l, _, rfl, .inr (tup_t hl3), _, _, rfl, rfl, _, rfl, ite2 (fun c => ?_) (fun _ => ?_)⟩) (fun _ => iteF ?_)⟩
        · have c : 0 < (ls.length : Int) := by
            have := of_decide_eq_true c
            rw [List.length_map] at this
            omega
          have e0 := Int.emod_nonneg c2 (show (ls.length : Int) ≠ 0 by omega)
          have e1 := Int.emod_lt_of_pos c2 c
          obtain ⟨k, hk⟩ : ∃ k : Nat, c2 % (ls.length : Int) = (k : Int) := ⟨_, (Int.toNat_of_nonneg e0).symm⟩
          have gk : ls[k]? = some ls[k] := List.getElem?_eq_getElem (by omega)
          have bk := lsl _ (List.mem_of_getElem? gk)
          generalize ls[k] = x at gk bk
          obtain ⟨j, rfl⟩ : ∃ j : Nat, x = (j : Int) := ⟨x.toNat, by omega⟩
          refine ⟨_, rfl, .ref ch, rfl, ch, _, _, _, rfl, rfl, lst_l hch, atI_nat (j := 2) rfl, .inl ⟨c2, rfl, _, rfl, l, _, rfl, .inr (tup_t hl3), ?_⟩⟩
          rw [List.length_map]
          refine ⟨_, _, rfl, rfl, c, l, _, _, .int (j : Int), rfl, rfl, tup_t hl3, at_of hk (int_at gk), _, _, rfl, rfl, ?_⟩
          obtain ⟨y, gj⟩ : ∃ y, (t :: cs)[j + 1]? = some y := ⟨_, List.getElem?_eq_getElem (by rw [List.length_cons]; omega)⟩
          have bj := bd _ (List.mem_of_getElem? gj)
          refine ⟨_, rfl, _, rfl, F, _, _, .int y, rfl, rfl, lst_l hF3, at_of (j := j + 1) (by omega) (int_at gj), _, rfl, _, _, rfl, rfl, .ref ch, rfl, ch, _, _, _, rfl, rfl, lst_l hch, atI_nat (j := 1) rfl, rfl, .inr ⟨_, rfl, _, _, rfl, rfl, ?_⟩⟩
          refine ⟨_, rfl, _, rfl, F, _, _, j + 1, rfl, rfl, hF3, ?_, ?_⟩
          · rw [show 1 + (j : Int) = ((j + 1 : Nat) : Int) by omega]
            exact ixn_at (by rw [List.length_map, List.length_cons]; omega)
          refine ⟨_, rfl, q _ F ((t :: cs).set (j + 1) _) (same_mut s3 nF) nF (upd_same.trans (congrArg some (congrArg HO.lst (set_ints _ _ _)))) (by rw [List.length_set, List.length_cons]; omega) (BndL.put (bd.le (by omega)) ?_)⟩
          by_cases e : decide (V.int c1 = V.int 6) = true
          · rw [if_pos e]
            omega
          · rw [if_neg e]
            omega
        · refine ⟨.ref ch, rfl, ch, _, _, _, rfl, rfl, lst_l hch, atI_nat (j := 1) rfl, rfl, _, rfl, ite2 (fun _ => ?_) (fun _ => ?_)⟩
          · refine ⟨(by show 1 ≤ sizeLine; decide), fun p np => ?_⟩
            refine ⟨_, rfl, _, rfl, by omega, by omega, ?_⟩
            rw [Int.toNat_natCast]
            refine fun Z nZ => lc_range (lo := 0) (n := m) (fun i H7 => Same (upd H3 p (.lst [V.int 1])) H7 ∧ H7 Z = some (.lst ((List.replicate i (0 : Int)).map V.int))) ⟨same_upd nZ, upd_same⟩ ?_ ?_
            · rintro i H7 hi ⟨s, hD⟩
              refine ⟨rfl, ?_⟩
              refine lc_yes ?_
              refine iteT ?_
              refine ⟨_, hD, ?_, same_mut s nZ, ?_⟩
              · rw [List.length_map, List.length_replicate]
                exact small1000 (by omega)
              · rw [upd_same, List.replicate_succ', ← snoc_int]
            rintro H7 ⟨s7, hZ⟩
            refine ⟨p, Z, _, _, rfl, rfl, s7 _ _ upd_same, hZ, ?_, fun u nu => ?_⟩
            · rw [List.length_map, List.length_replicate]
              exact Nat.le_of_lt (small1000 (by show 1 + m ≤ 1000; omega))
            have sE := ((s3.trans (same_upd np)).trans s7)
            refine q _ u (1 :: List.replicate m 0) (sE.trans (same_upd nu)) (sE.free nu) upd_same (by rw [List.length_cons, List.length_replicate]; omega) fun x hx => ?_
            rcases List.mem_cons.mp hx with rfl | hx
            · omega
            · rw [(List.mem_replicate.mp hx).2]
              omega
          · refine ⟨.ref ch, rfl, ch, _, _, _, rfl, rfl, lst_l hch, atI_nat (j := 3) rfl, _, rfl, .ref ch, rfl, ch, _, _, _, rfl, rfl, lst_l hch, atI_nat (j := 1) rfl, rfl, .inr ⟨_, rfl, _, _, rfl, rfl, sml _ _, ?_⟩⟩
            obtain ⟨hv, eh, bh⟩ : ∃ hv : Int, -c3 * (if decide (V.int c1 = V.int 3) = true then 1 else 0) = hv ∧ -(64 * B) ≤ hv ∧ hv ≤ 64 * B := by
              by_cases e : decide (V.int c1 = V.int 3) = true
              · exact ⟨_, rfl, by rw [if_pos e]; omega, by rw [if_pos e]; omega⟩
              · exact ⟨_, rfl, by rw [if_neg e]; omega, by rw [if_neg e]; omega⟩
            refine ⟨(by show 1 ≤ sizeLine; decide), fun p np => ?_⟩
            refine ⟨_, rfl, _, rfl, by omega, by omega, ?_⟩
            rw [Int.toNat_natCast]
            refine fun Z nZ => lc_range (lo := 0) (n := m) (fun i H7 => Same (upd H3 p (.lst [V.int (-c3 * (if decide (V.int c1 = V.int 3) = true then 1 else 0))])) H7 ∧ H7 Z = some (.lst ((List.replicate i (0 : Int)).map V.int))) ⟨same_upd nZ, upd_same⟩ ?_ ?_
            · rintro i H7 hi ⟨s, hD⟩
              refine ⟨rfl, ?_⟩
              refine lc_yes ?_
              refine iteT ?_
              refine ⟨_, hD, ?_, same_mut s nZ, ?_⟩
              · rw [List.length_map, List.length_replicate]
                exact small1000 (by omega)
              · rw [upd_same, List.replicate_succ', ← snoc_int]
            rintro H7 ⟨s7, hZ⟩
            refine ⟨p, Z, _, _, rfl, rfl, s7 _ _ upd_same, hZ, ?_, fun u nu => ?_⟩
            · rw [List.length_map, List.length_replicate]
              exact Nat.le_of_lt (small1000 (by show 1 + m ≤ 1000; omega))
            have sE := ((s3.trans (same_upd np)).trans s7)
            refine q _ u ((-c3 * (if decide (V.int c1 = V.int 3) = true then 1 else 0)) :: List.replicate m 0) (sE.trans (same_upd nu)) (sE.free nu) upd_same (by rw [List.length_cons, List.length_replicate]; omega) fun x hx => ?_
            rcases List.mem_cons.mp hx with rfl | hx
            · rw [eh]
              omega
            · rw [(List.mem_replicate.mp hx).2]
              omega
        · refine ⟨.ref ch, rfl, ch, _, _, _, rfl, rfl, lst_l hch, atI_nat (j := 1) rfl, rfl, _, rfl, ite2 (fun _ => ?_) (fun _ => ?_)⟩
          · refine ⟨(by show 1 ≤ sizeLine; decide), fun p np => ?_⟩
            refine ⟨_, rfl, _, rfl, by omega, by omega, ?_⟩
            rw [Int.toNat_natCast]
            refine fun Z nZ => lc_range (lo := 0) (n := m) (fun i H7 => Same (upd H3 p (.lst [V.int 1])) H7 ∧ H7 Z = some (.lst ((List.replicate i (0 : Int)).map V.int))) ⟨same_upd nZ, upd_same⟩ ?_ ?_
            · rintro i H7 hi ⟨s, hD⟩
              refine ⟨rfl, ?_⟩
              refine lc_yes ?_
              refine iteT ?_
              refine ⟨_, hD, ?_, same_mut s nZ, ?_⟩
              · rw [List.length_map, List.length_replicate]
                exact small1000 (by omega)
              · rw [upd_same, List.replicate_succ', ← snoc_int]
            rintro H7 ⟨s7, hZ⟩
            refine ⟨p, Z, _, _, rfl, rfl, s7 _ _ upd_same, hZ, ?_, fun u nu => ?_⟩
            · rw [List.length_map, List.length_replicate]
              exact Nat.le_of_lt (small1000 (by show 1 + m ≤ 1000; omega))
            have sE := ((s3.trans (same_upd np)).trans s7)
            refine q _ u (1 :: List.replicate m 0) (sE.trans (same_upd nu)) (sE.free nu) upd_same (by rw [List.length_cons, List.length_replicate]; omega) fun x hx => ?_
            rcases List.mem_cons.mp hx with rfl | hx
            · omega
            · rw [(List.mem_replicate.mp hx).2]
              omega
          · refine ⟨.ref ch, rfl, ch, _, _, _, rfl, rfl, lst_l hch, atI_nat (j := 3) rfl, _, rfl, .ref ch, rfl, ch, _, _, _, rfl, rfl, lst_l hch, atI_nat (j := 1) rfl, rfl, .inr ⟨_, rfl, _, _, rfl, rfl, sml _ _, ?_⟩⟩
            obtain ⟨hv, eh, bh⟩ : ∃ hv : Int, -c3 * (if decide (V.int c1 = V.int 3) = true then 1 else 0) = hv ∧ -(64 * B) ≤ hv ∧ hv ≤ 64 * B := by
              by_cases e : decide (V.int c1 = V.int 3) = true
              · exact ⟨_, rfl, by rw [if_pos e]; omega, by rw [if_pos e]; omega⟩
              · exact ⟨_, rfl, by rw [if_neg e]; omega, by rw [if_neg e]; omega⟩
            refine ⟨(by show 1 ≤ sizeLine; decide), fun p np => ?_⟩
            refine ⟨_, rfl, _, rfl, by omega, by omega, ?_⟩
            rw [Int.toNat_natCast]
            refine fun Z nZ => lc_range (lo := 0) (n := m) (fun i H7 => Same (upd H3 p (.lst [V.int (-c3 * (if decide (V.int c1 = V.int 3) = true then 1 else 0))])) H7 ∧ H7 Z = some (.lst ((List.replicate i (0 : Int)).map V.int))) ⟨same_upd nZ, upd_same⟩ ?_ ?_
            · rintro i H7 hi ⟨s, hD⟩
              refine ⟨rfl, ?_⟩
              refine lc_yes ?_
              refine iteT ?_
              refine ⟨_, hD, ?_, same_mut s nZ, ?_⟩
              · rw [List.length_map, List.length_replicate]
                exact small1000 (by omega)
              · rw [upd_same, List.replicate_succ', ← snoc_int]
            rintro H7 ⟨s7, hZ⟩
            refine ⟨p, Z, _, _, rfl, rfl, s7 _ _ upd_same, hZ, ?_, fun u nu => ?_⟩
            · rw [List.length_map, List.length_replicate]
              exact Nat.le_of_lt (small1000 (by show 1 + m ≤ 1000; omega))
            have sE := ((s3.trans (same_upd np)).trans s7)
            refine q _ u ((-c3 * (if decide (V.int c1 = V.int 3) = true then 1 else 0)) :: List.replicate m 0) (sE.trans (same_upd nu)) (sE.free nu) upd_same (by rw [List.length_cons, List.length_replicate]; omega) fun x hx => ?_
            rcases List.mem_cons.mp hx with rfl | hx
            · rw [eh]
              omega
            · rw [(List.mem_replicate.mp hx).2]
              omega
def sp_law (K : PySem.W.Frag) : Sp := fun vs H Q _ => ∃ (a : Addr) (ns : List Int), vs = [.ref a] ∧ SqL K H a (ns.map V.int) ∧ ns.length ≤ 63 ∧ ∀ H', Q (.bl true) H'

theorem ok_law {f : Addr} {fd : FuncData} {C_Tabled C_TooMany C_BadTable C_BadNumber C_NoBuyers C_BadLot C_ShelfError : Addr} (F : Fun K "law" "law" s_law f fd) (T : Txt K mg C_Tabled C_TooMany C_BadTable C_BadNumber C_NoBuyers C_BadLot C_ShelfError) (m_int : mg "int" = none) (m_len : mg "len" = none) (m_list : mg "list" = none) (m_range : mg "range" = none) (c__law_cell : Cal P w K mg base CX0 1 "_law_cell" ["_law_script", "_law_place"] (sp__law_cell K)) (c__law_draws : Cal P w K mg base CX0 1 "_law_draws" ["_law_cell_here", "_law_sizes"] (sp__law_draws K)) (c__law_pool : Cal P w K mg base CX0 2 "_law_pool" ["_law_low", "_law_high"] (sp__law_pool K)) (c__law_rows : Cal P w K mg base CX0 2 "_law_rows" ["_law_pool_here", "_law_many"] (sp__law_rows K)) (c__law_lot : Cal P w K mg base CX0 1 "_law_lot" ["_law_bits", "_law_many"] (sp__law_lot K)) (c__law_changed : Cal P w K mg base CX0 1 "_law_changed" ["_law_row", "_law_lot_here", "_law_many", "_law_change"] (sp__law_changed K)) (c__law_due : Cal P w K mg base CX0 2 "_law_due" ["_law_many", "_law_rows_here"] sp__law_due) (c__law_asked : Cal P w K mg base CX0 7 "_law_asked" ["_law_many", "_law_rows_here"] sp__law_asked) (c__law_classes : Cal P w K mg base CX0 7 "_law_classes" ["_law_many", "_law_rows_here"] sp__law_classes) (c__law_like : Cal P w K mg base CX0 2 "_law_like" ["_law_told", "_law_due_here"] sp__law_like) : FnOk P w K mg base CX0 8 f fd ["_law_script"] (sp_law K) := by
  refine F.ok sc_law (fun vs H Q E h => ?_) (fun cdv A outer s H vs Q E hr h => ?_)
  · obtain ⟨a, ns, rfl, _⟩ := h
    rfl
  · obtain ⟨a, ns, rfl, hS, hlen, q⟩ := h
    obtain ⟨f__law_cell, fd__law_cell, G__law_cell, m__law_cell, k__law_cell, b__law_cell⟩ := c__law_cell
    obtain ⟨f__law_draws, fd__law_draws, G__law_draws, m__law_draws, k__law_draws, b__law_draws⟩ := c__law_draws
    obtain ⟨f__law_pool, fd__law_pool, G__law_pool, m__law_pool, k__law_pool, b__law_pool⟩ := c__law_pool
    obtain ⟨f__law_rows, fd__law_rows, G__law_rows, m__law_rows, k__law_rows, b__law_rows⟩ := c__law_rows
    obtain ⟨f__law_lot, fd__law_lot, G__law_lot, m__law_lot, k__law_lot, b__law_lot⟩ := c__law_lot
    obtain ⟨f__law_changed, fd__law_changed, G__law_changed, m__law_changed, k__law_changed, b__law_changed⟩ := c__law_changed
    obtain ⟨f__law_due, fd__law_due, G__law_due, m__law_due, k__law_due, b__law_due⟩ := c__law_due
    obtain ⟨f__law_asked, fd__law_asked, G__law_asked, m__law_asked, k__law_asked, b__law_asked⟩ := c__law_asked
    obtain ⟨f__law_classes, fd__law_classes, G__law_classes, m__law_classes, k__law_classes, b__law_classes⟩ := c__law_classes
    obtain ⟨f__law_like, fd__law_like, G__law_like, m__law_like, k__law_like, b__law_like⟩ := c__law_like
    refine ⟨_, (pss_cons (ps_set (i := 1) sc_law.nd rfl (Or.inl rfl) (pe_call G__law_draws (hr.mono (by decide)) (by rfl) m__law_draws k__law_draws b__law_draws .nil pass0 (pa_cons (pe_call G__law_cell (hr.mono (by decide)) (by rfl) m__law_cell k__law_cell b__law_cell .nil pass0 (pa_cons (pv 0) (pa_cons pe_int pa_nil))) (pa_cons (pe_op op_cat (pe_op op_cat (pe_lst (pa_cons pe_int (pa_cons pe_int (pa_cons pe_int pa_nil)))) (pe_op op_rep (pe_lst (pa_cons pe_int (pa_cons pe_int (pa_cons pe_int (pa_cons (pe_op op_pow pe_int pe_int) pa_nil))))) pe_int)) (pe_lst (pa_cons (pe_op op_pow pe_int pe_int) pa_nil))) pa_nil))))
      (pss_cons (ps_set (i := 2) sc_law.nd rfl (Or.inl rfl) (pe_ix ix_list (pe_lst (pa_cons pe_int (pa_cons pe_int (pa_cons pe_int (pa_cons pe_int (pa_cons pe_int (pa_cons pe_int (pa_cons (pe_op op_add pe_int (pe_ix ix_list (pv 1) pe_int (fun _ _ => rfl))) pa_nil)))))))) (pe_ix ix_list (pv 1) pe_int (fun _ _ => rfl)) (fun _ _ => rfl)))
      (pss_cons (ps_set (i := 3) sc_law.nd rfl (Or.inl rfl) (pe_ix ix_list (pe_lst (pa_cons pe_int (pa_cons pe_int (pa_cons pe_int (pa_cons pe_int (pa_cons pe_int (pa_cons pe_int (pa_cons pe_int pa_nil)))))))) (pe_ix ix_list (pv 1) pe_int (fun _ _ => rfl)) (fun _ _ => rfl)))
      (pss_cons (ps_set (i := 4) sc_law.nd rfl (Or.inl rfl) (pe_call G__law_rows (hr.mono (by decide)) (by rfl) m__law_rows k__law_rows b__law_rows .nil pass0 (pa_cons (pe_call G__law_pool (hr.mono (by decide)) (by rfl) m__law_pool k__law_pool b__law_pool .nil pass0 (pa_cons (pe_call G__law_cell (hr.mono (by decide)) (by rfl) m__law_cell k__law_cell b__law_cell .nil pass0 (pa_cons (pv 0) (pa_cons pe_int pa_nil))) (pa_cons (pe_call G__law_cell (hr.mono (by decide)) (by rfl) m__law_cell k__law_cell b__law_cell .nil pass0 (pa_cons (pv 0) (pa_cons pe_int pa_nil))) pa_nil))) (pa_cons (pv 3) pa_nil))))
      (pss_cons (ps_setLc (i := 5) (own := [("_law_row", 12)]) (g := (gName 12)) (tt := tYes) rfl sc_law.nd rfl rfl (sw_true rfl rfl rfl (by decide +kernel)) (pi_list (pv 4)) (blkOk_by (own := [("_law_row", 12)]) (N := ["_law_script", "_law_drawn", "_law_many", "_law_small", "_law_good", "_law_rows_here", "_law_k", "_law_change", "_law_at", "_law_due_here", "_law_handed", "_law_classes_here", "_law_row"]) (sc := defScope s_law) (by decide +kernel)) (fun _ _ _ _ _ => (pg_name (i := 12) sc_law.nd rfl (Or.inl rfl))) (fun _ _ _ _ _ => pts_nil) (fun _ _ _ _ _ => (pe_callTy (T := "list") (r := rListOf K) call_list_of (by rfl) m_list (by decide +kernel) (pa_cons (pv 12) pa_nil))))
      (pss_cons (ps_for PassesOwn.never rfl (pi_range1 (by rfl) m_range (pa_cons (pe_ix ix_list (pv 1) pe_int (fun _ _ => rfl)) pa_nil)) (pg_name (i := 6) sc_law.nd rfl (Or.inl rfl))
      (pss_cons (ps_set (i := 7) sc_law.nd rfl (Or.inl rfl) (pe_slice sl_list (pv 1) (po_some (pe_op op_add pe_int (pe_op op_mul pe_int (pv 6)))) (po_some (pe_op op_add pe_int (pe_op op_mul pe_int (pv 6))))))
      (pss_cons (ps_set (i := 8) sc_law.nd rfl (Or.inl rfl) (pe_op op_mod (pe_callTy call_int1 (by rfl) m_int (by decide +kernel) (pa_cons (pe_ix ix_list (pv 7) pe_int (fun _ _ => rfl)) pa_nil)) (pe_callB call_len_seq (by rfl) m_len (by decide +kernel) (pa_cons (pv 5) pa_nil))))
      (pss_one (ps_if (pt_cmpR op_eq (pe_callB call_len_seq (by rfl) m_len (by decide +kernel) (pa_cons (pe_ix ix_list (pv 5) (pv 8) (fun _ _ => rfl)) pa_nil)) (pe_op op_add (pv 3) pe_int) (nomark _)) (pss_one (ps_asg (pe_call G__law_changed (hr.mono (by decide)) (by rfl) m__law_changed k__law_changed b__law_changed .nil pass0 (pa_cons (pe_ix ix_list (pv 5) (pv 8) (fun _ _ => rfl)) (pa_cons (pe_call G__law_lot (hr.mono (by decide)) (by rfl) m__law_lot k__law_lot b__law_lot .nil pass0 (pa_cons (pv 8) (pa_cons (pv 3) pa_nil))) (pa_cons (pv 3) (pa_cons (pv 7) pa_nil))))) (pg_sub (pv 5) (pv 8) set_list))) pss_nil)))))
      (Evl.pss_cut (ps_if (pt_cmpR op_eq (pe_ix ix_list (pv 1) pe_int (fun _ _ => rfl)) pe_int (nomark _)) (pss_one (ps_set (i := 5) sc_law.nd rfl (Or.inl rfl) (pe_slice sl_list (pv 5) (po_some pe_int) po_none))) pss_nil)
      (Evl.pss_cut (ps_if (pt_cmpR op_eq (pe_ix ix_list (pv 1) pe_int (fun _ _ => rfl)) pe_int (nomark _)) (pss_one (ps_expr (pe_bm PySem.F.plainAttrs_list PySem.F.slot_list_append PySem.F.type_list_append mt_append (pv 5) (pa_cons (pe_callTy call_list_of (by rfl) m_list (by decide +kernel) (pa_cons (pe_ix ix_list (pv 5) (pe_un un_neg pe_int) (fun _ _ => rfl)) pa_nil)) pa_nil)))) pss_nil)
      (pss_cons (ps_set (i := 9) sc_law.nd rfl (Or.inl rfl) (pe_call G__law_due (hr.mono (by decide)) (by rfl) m__law_due k__law_due b__law_due .nil pass0 (pa_cons (pv 2) (pa_cons (pv 5) pa_nil))))
      (pss_cons (ps_setLc (i := 10) (own := [("_law_row", 12)]) (g := (gName 12)) (tt := tYes) rfl sc_law.nd rfl rfl (sw_true rfl rfl rfl (by decide +kernel)) (pi_list (pv 5)) (blkOk_by (own := [("_law_row", 12)]) (N := ["_law_script", "_law_drawn", "_law_many", "_law_small", "_law_good", "_law_rows_here", "_law_k", "_law_change", "_law_at", "_law_due_here", "_law_handed", "_law_classes_here", "_law_row"]) (sc := defScope s_law) (by decide +kernel)) (fun _ _ _ _ _ => (pg_name (i := 12) sc_law.nd rfl (Or.inl rfl))) (fun _ _ _ _ _ => pts_nil) (fun _ _ _ _ _ => (pe_callTy (T := "list") (r := rListOf K) call_list_of (by rfl) m_list (by decide +kernel) (pa_cons (pv 12) pa_nil))))
      (pss_cons (ps_if (PW.pt (pw_or (pt_not (pt_val (pe_call G__law_like (hr.mono (by decide)) (by rfl) m__law_like k__law_like b__law_like .nil pass0 (pa_cons (pe_call G__law_asked (hr.mono (by decide)) (by rfl) m__law_asked k__law_asked b__law_asked .nil pass0 (pa_cons (pv 2) (pa_cons (pv 10) pa_nil))) (pa_cons (pv 9) pa_nil))))) (pw_or1 (pt_cmpR (op_neD hr.units) (pv 10) (pv 5) (nomark _))))) (pss_one (ps_ret pe_bl)) pss_nil)
      (pss_cons (ps_set (i := 11) sc_law.nd rfl (Or.inl rfl) (pe_call G__law_classes (hr.mono (by decide)) (by rfl) m__law_classes k__law_classes b__law_classes .nil pass0 (pa_cons (pv 2) (pa_cons (pv 10) pa_nil))))
      (pss_cons (ps_if (pt_cmpR op_eq (pe_ix ix_tup (pv 9) pe_int (fun _ _ => rfl)) pe_str (nomark _)) (pss_one (ps_ret (pe_cmpR (op_eqD hr.units) (pv 11) (pe_lst pa_nil) (nomark _)))) pss_nil)
      (pss_cons (ps_if (pt_cmpR (op_neD hr.units) (pv 11) (pe_lst (pa_cons (pe_cmpR op_eq (pe_ix ix_tup (pv 9) pe_int (fun _ _ => rfl)) pe_str (nomark _)) (pa_cons (pe_cmpR op_eq (pe_ix ix_tup (pv 9) pe_int (fun _ _ => rfl)) pe_str (nomark _)) (pa_cons pe_bl (pa_cons pe_bl (pa_cons pe_bl (pa_cons pe_bl pa_nil))))))) (nomark _)) (pss_one (ps_ret pe_bl)) pss_nil)
      (pss_one (ps_ret (pe_call G__law_like (hr.mono (by decide)) (by rfl) m__law_like k__law_like b__law_like .nil pass0 (pa_cons (pe_call G__law_asked (hr.mono (by decide)) (by rfl) m__law_asked k__law_asked b__law_asked .nil pass0 (pa_cons (pv 3) (pa_cons (pv 4) pa_nil))) (pa_cons (pe_tup (pa_cons pe_str pa_nil)) pa_nil))))))))))))))))))), ?_⟩
    refine ⟨.ref a, rfl, a, ns, 0, rfl, hS, fun c1 => ?_⟩
    refine ⟨(by show 3 ≤ sizeLine; decide), fun p1 n1 => ?_⟩
    refine ⟨10, 9, rfl, rfl, ⟨by decide, by decide, by decide⟩, (by show 4 ≤ sizeLine; decide), fun p2 n2 => ?_⟩
    have t1 := same_upd n1 (o := .lst [V.int 7, V.int 4, V.int 3])
    have t2 := same_upd n2 (o := .lst [V.int 16, V.int 8, V.int 5, V.int (10 ^ 9)])
    refine ⟨p2, 2, _, rfl, rfl, upd_same, by decide, by decide, (by show 8 ≤ sizeLine; decide), fun p3 n3 => ?_⟩
    have t3 := same_upd n3 (o := .lst [V.int 16, V.int 8, V.int 5, V.int (10 ^ 9), V.int 16, V.int 8, V.int 5, V.int (10 ^ 9)])
    refine ⟨p1, p3, _, _, rfl, rfl, t3 _ _ (t2 _ _ upd_same), upd_same, (by show 11 ≤ sizeLine; decide), fun p4 n4 => ?_⟩
    have t4 := same_upd n4 (o := .lst [V.int 7, V.int 4, V.int 3, V.int 16, V.int 8, V.int 5, V.int (10 ^ 9), V.int 16, V.int 8, V.int 5, V.int (10 ^ 9)])
    refine ⟨10, 17, rfl, rfl, ⟨by decide, by decide, by decide⟩, (by show 1 ≤ sizeLine; decide), fun p5 n5 => ?_⟩
    have t5 := same_upd n5 (o := .lst [V.int (10 ^ 17)])
    refine ⟨p4, p5, _, _, rfl, rfl, t5 _ _ upd_same, upd_same, (by show 12 ≤ sizeLine; decide), fun p6 n6 => ?_⟩
    have t6 := same_upd n6 (o := .lst [V.int 7, V.int 4, V.int 3, V.int 16, V.int 8, V.int 5, V.int (10 ^ 9), V.int 16, V.int 8, V.int 5, V.int (10 ^ 9), V.int (10 ^ 17)])
    refine ⟨c1, p6, [7, 4, 3, 16, 8, 5, 10 ^ 9, 16, 8, 5, 10 ^ 9, 10 ^ 17], rfl, lst_l upd_same, by decide, by decide, fun dsd1 H1 d1 wd1 s1 nd1 hd1 => ?_⟩
    have s1 : Same H H1 := (((((t1.trans t2).trans t3).trans t4).trans t5).trans t6).trans s1
    clear t1 t2 t3 t4 t5 t6
    obtain ⟨x0, rx0, rfl, lx0, ux0, wd1⟩ := wd1.c
    obtain ⟨x1, rx1, rfl, lx1, ux1, wd1⟩ := wd1.c
    obtain ⟨x2, rx2, rfl, lx2, ux2, wd1⟩ := wd1.c
    obtain ⟨x3, rx3, rfl, lx3, ux3, wd1⟩ := wd1.c
    obtain ⟨x4, rx4, rfl, lx4, ux4, wd1⟩ := wd1.c
    obtain ⟨x5, rx5, rfl, lx5, ux5, wd1⟩ := wd1.c
    obtain ⟨x6, rx6, rfl, lx6, ux6, wd1⟩ := wd1.c
    obtain ⟨x7, rx7, rfl, lx7, ux7, wd1⟩ := wd1.c
    obtain ⟨x8, rx8, rfl, lx8, ux8, wd1⟩ := wd1.c
    obtain ⟨x9, rx9, rfl, lx9, ux9, wd1⟩ := wd1.c
    obtain ⟨x10, rx10, rfl, lx10, ux10, wd1⟩ := wd1.c
    obtain ⟨x11, rx11, rfl, lx11, ux11, wd1⟩ := wd1.c
    cases wd1.n
    have Ld1 : SqL K H1 d1 ([x0, x1, x2, x3, x4, x5, x6, x7, x8, x9, x10, x11].map V.int) := lst_l hd1

    refine ⟨.ref d1, rfl, d1, _, _, _, rfl, rfl, Ld1, atI_nat (j := 11) rfl, _, _, rfl, rfl, (by show 7 ≤ sizeLine; decide), fun p2 n2 => ?_⟩
    obtain ⟨m, hm⟩ : ∃ m : Nat, atI [V.int 0, V.int 1, V.int 2, V.int 3, V.int 4, V.int 7, V.int (7 + x11)] x0 = some (.int (m : Int)) := by
      rcases (by omega : x0 = 0 ∨ x0 = 1 ∨ x0 = 2 ∨ x0 = 3 ∨ x0 = 4 ∨ x0 = 5 ∨ x0 = 6) with rfl | rfl | rfl | rfl | rfl | rfl | rfl
      · exact ⟨0, rfl⟩
      · exact ⟨1, rfl⟩
      · exact ⟨2, rfl⟩
      · exact ⟨3, rfl⟩
      · exact ⟨4, rfl⟩
      · exact ⟨7, rfl⟩
      · exact ⟨(7 + x11).toNat, by rw [Int.toNat_of_nonneg (by omega)]; rfl⟩
    have s2 := same_upd (o := .lst [V.int 0, V.int 1, V.int 2, V.int 3, V.int 4, V.int 7, V.int (7 + x11)]) n2
    refine ⟨.ref d1, rfl, d1, _, _, _, rfl, rfl, (s2.seq Ld1), atI_nat (j := 0) rfl, p2, _, _, .int (m : Int), rfl, rfl, lst_l upd_same, hm, ?_⟩
    have hd2 := s2 _ _ hd1
    have s12 := s1.trans s2
    have Ld2 := s2.seq Ld1
    refine ⟨(by show 7 ≤ sizeLine; decide), fun p3 n3 => ?_⟩
    obtain ⟨sm, hsm, sm4⟩ : ∃ sm : Nat, atI [V.int 0, V.int 1, V.int 2, V.int 3, V.int 4, V.int 0, V.int 0] x0 = some (.int (sm : Int)) ∧ sm ≤ 4 := by
      rcases (by omega : x0 = 0 ∨ x0 = 1 ∨ x0 = 2 ∨ x0 = 3 ∨ x0 = 4 ∨ x0 = 5 ∨ x0 = 6) with rfl | rfl | rfl | rfl | rfl | rfl | rfl
      · exact ⟨0, rfl, by decide⟩
      · exact ⟨1, rfl, by decide⟩
      · exact ⟨2, rfl, by decide⟩
      · exact ⟨3, rfl, by decide⟩
      · exact ⟨4, rfl, by decide⟩
      · exact ⟨0, rfl, by decide⟩
      · exact ⟨0, rfl, by decide⟩
    have s3 := same_upd (o := .lst [V.int 0, V.int 1, V.int 2, V.int 3, V.int 4, V.int 0, V.int 0]) n3
    refine ⟨.ref d1, rfl, d1, _, _, _, rfl, rfl, (s3.seq Ld2), atI_nat (j := 0) rfl, p3, _, _, .int (sm : Int), rfl, rfl, lst_l upd_same, hsm, ?_⟩
    have hd3 := s3 _ _ hd2
    have s13 := s12.trans s3
    refine ⟨.ref a, rfl, a, ns, 1, rfl, s13.seq hS, fun c2 => ?_⟩
    refine ⟨.ref a, rfl, a, ns, 2, rfl, s13.seq hS, fun c3 => ?_⟩
    refine ⟨c2, c3, rfl, fun H4 P pn s4 hP pl pb => ?_⟩
    refine ⟨_, rfl, P, pn, sm, rfl, hP, pl, pb, by omega, fun H5 G gs grows s5 hG rowG lG okG bdG => ?_⟩
    have hd5 := s5 _ _ (s4 _ _ hd3)
    have p16 : 2 ^ sm ≤ 16 := Nat.pow_le_pow_right (by decide) sm4
    have p1 : 0 < 2 ^ sm := Nat.pow_pos (by decide)
    have lgs : gs.length = grows.length := rowG.1
    have bdG2 : ∀ r ∈ grows, r.length ≤ 60 ∧ ∀ x ∈ r, x < 2 ^ 90 := fun r hr => by
      obtain ⟨h1, h2⟩ := bdG r hr
      refine ⟨by omega, fun x hx => ?_⟩
      have := h2 x hx
      omega
    have mkG := made_all (by omega) lG okG
    refine ⟨_, rfl, G, rfl, ⟨_, lst_l hG⟩, fun R nR => lc_list (K := K) (a := G) (xs := gs.map V.ref) (fun i H7 => ∃ vs0 : List Addr, Same H5 H7 ∧ H7 R = some (.lst (vs0.map V.ref)) ∧ vs0.length = i ∧ R ∉ vs0 ∧ RowsL H7 vs0 (grows.take i)) ⟨[], same_upd nR, upd_same, rfl, (by simp), ⟨rfl, fun i u r h => by cases h⟩⟩ (fun i H7 _ ⟨_, s, _⟩ => lst_l (s _ _ hG)) ?_ ?_⟩
    · rintro i x H7 hi ⟨vs0, s, hR, lu, ou, rw0⟩
      have i1 : i < gs.length := by
        have := (List.getElem?_eq_some_iff.mp hi).1
        rw [List.length_map] at this
        exact this
      have h1 : gs[i]? = some gs[i] := List.getElem?_eq_getElem i1
      have h2 : grows[i]? = some grows[i] := List.getElem?_eq_getElem (by have := (rowG).1; omega)
      rw [List.getElem?_map, h1] at hi
      cases hi
      have hu := s _ _ ((rowG).2 i _ _ h1 h2)
      refine ⟨rfl, ?_⟩
      refine lc_yes ?_
      refine iteT ?_
      refine ⟨_, rfl, gs[i], _, rfl, .inl (lst_l hu), fun v nv => ?_⟩
      have sv := same_upd (o := .lst (grows[i].map V.int)) nv
      have hR7 := sv _ _ hR
      have no : R ∉ vs0 ++ [v] := fun z => by
        rcases List.mem_append.mp z with z | z
        · exact ou z
        · rw [← List.mem_singleton.mp z, hR] at nv
          cases nv
      refine ⟨_, hR7, ?_, vs0 ++ [v], same_mut (s.trans sv) nR, ?_, ?_, no, ?_⟩
      · rw [List.length_map]
        exact small1000 (by omega)
      · rw [upd_same, List.map_append]
        rfl
      · rw [List.length_append, lu]
        rfl
      · rw [List.take_add_one, h2]
        exact RowsL.put no (RowsL.snoc (rw0.same sv) upd_same)
    rintro H6 ⟨us0, s6, hR, lus0, oR, rowR⟩
    rw [List.length_map, show gs.length = grows.length from (rowG).1, List.take_length] at rowR
    rw [List.length_map] at lus0

    refine ⟨.ref d1, rfl, d1, _, _, _, rfl, rfl, (lst_l (s6 _ _ hd5)), atI_nat (j := 2) rfl, x2, rfl, by omega, by omega, ?_⟩
    refine for_range (lo := 0) (n := x2.toNat) (fun i σ H7 => ∃ (us : List Addr) (rows : List (List Int)) (y1 y2 y3 : Option V), σ = [some (.ref a), some (.ref d1), some (.int (m : Int)), some (.int (sm : Int)), some (.ref G), some (.ref R), y1, y2, y3, none, none, none, none] ∧ Same H5 H7 ∧ H7 R = some (.lst (us.map V.ref)) ∧ R ∉ us ∧ us.length = 2 ^ sm ∧ RowsL H7 us rows ∧ ∀ r ∈ rows, r.length ≤ 6 ∧ BndL (BB i) r) ⟨us0, grows, none, none, none, rfl, s6, hR, oR, by omega, rowR, fun r hr => ?_⟩ ?_ ?_
    · obtain ⟨h1, h2⟩ := bdG r hr
      refine ⟨by omega, fun x hx => ?_⟩
      have := h2 x hx
      rw [show BB 0 = 10 ^ 17 from rfl]
      omega
    · rintro i σ H7 hi ⟨us, rows, y1, y2, y3, rfl, s7, hR7, oR7, lu7, row7, bd7⟩
      have hd7 := s7 _ _ hd5
      have rl := row7.1
      obtain ⟨f0, f1, f2, f3, hcut, g0, g1⟩ : ∃ f0 f1 f2 f3 : Int, cutV ([x0, x1, x2, x3, x4, x5, x6, x7, x8, x9, x10, x11].map V.int) (some (3 + 4 * (0 + (i : Int)))) (some (7 + 4 * (0 + (i : Int)))) = [f0, f1, f2, f3].map V.int ∧ 0 ≤ f3 ∧ f3 < 10 ^ 9 := by
        rcases (by omega : i = 0 ∨ i = 1) with rfl | rfl
        · exact ⟨x3, x4, x5, x6, rfl, by omega, by omega⟩
        · exact ⟨x7, x8, x9, x10, rfl, by omega, by omega⟩
      refine ⟨.ref d1, rfl, _, rfl, _, _, rfl, rfl, .inl ⟨by decide, by decide⟩, _, _, rfl, rfl, _, rfl, _, rfl, _, _, rfl, rfl, .inl ⟨by decide, by decide⟩, _, _, rfl, rfl, _, rfl, d1, _, rfl, lst_l hd7, fun f nf => ?_⟩
      rw [hcut]
      have s8 := same_upd (o := .lst ([f0, f1, f2, f3].map V.int)) nf
      have hf8 : upd H7 f (.lst ([f0, f1, f2, f3].map V.int)) f = some (.lst ([f0, f1, f2, f3].map V.int)) := upd_same
      have hR8 := s8 _ _ hR7
      have row8 := row7.same s8
      have s58 := s7.trans s8
      generalize upd H7 f (.lst ([f0, f1, f2, f3].map V.int)) = H8 at s8 hf8 hR8 row8 s58 ⊢
      have j0 := Int.emod_nonneg f0 (show (us.length : Int) ≠ 0 by omega)
      have j1 := Int.emod_lt_of_pos f0 (show (0 : Int) < (us.length : Int) by omega)
      obtain ⟨j, hj⟩ : ∃ j : Nat, f0 % (us.length : Int) = (j : Int) := ⟨(f0 % (us.length : Int)).toNat, by omega⟩
      have e1 : us[j]? = some us[j] := List.getElem?_eq_getElem (by omega)
      have e2 : rows[j]? = some rows[j] := List.getElem?_eq_getElem (by omega)
      have v1 : (us.map V.ref)[j]? = some (.ref us[j]) := by rw [List.getElem?_map, e1]; rfl
      have hu := row8.2 j _ _ e1 e2
      have bdr := bd7 _ (List.mem_of_getElem? e2)
      generalize us[j] = u at e1 v1 hu
      generalize rows[j] = rw1 at e2 hu bdr
      refine ⟨.ref f, rfl, f, _, _, _, rfl, rfl, lst_l hf8, atI_nat (j := 0) rfl, .inl ⟨f0, rfl, _, rfl, R, _, rfl, .inl (lst_l hR8), ?_⟩⟩
      rw [List.length_map]
      refine ⟨_, _, rfl, rfl, (show (0 : Int) < (us.length : Int) by omega), ?_⟩
      have aj : atI (us.map V.ref) (f0 % (us.length : Int)) = some (.ref u) := by
        rw [hj]
        exact atI_nat v1
      refine ⟨_, rfl, _, rfl, R, _, _, .ref u, rfl, rfl, lst_l hR8, aj, u, _, rfl, .inl (lst_l hu), _, rfl, _, _, rfl, rfl, rfl, _, rfl, ite2 (fun c => ?_) (fun c => ?_)⟩
      · have c := V.int.inj (of_decide_eq_true c)
        rw [List.length_map] at c
        obtain ⟨t, cs, rfl⟩ : ∃ t cs, rw1 = t :: cs := by
          cases rw1 with
          | nil =>
            rw [List.length_nil] at c
            omega
          | cons t cs => exact ⟨t, cs, rfl⟩
        rw [List.length_cons] at c
        have bp := BB_pos i
        refine ⟨_, rfl, _, rfl, R, _, _, .ref u, rfl, rfl, lst_l hR8, aj, ?_⟩
        refine ⟨_, rfl, _, rfl, (j : Int), sm, by show [V.int (f0 % (us.length : Int)), V.int (sm : Int)] = _; rw [hj], by omega, fun H9 l s9 nl hl => ?_⟩
        refine ⟨_, rfl, _, rfl, u, l, f, t, cs, lotOf j sm, f0, f1, f2, f3, BB i, sm, rfl, s9 _ _ hu, by omega, bdr.2, hl, lotOf_lt _ _, s9 _ _ hf8, g0, g1, by omega, by omega, fun H10 v row' s10 nv hv lr br => ?_⟩
        have hR10 := s10 _ _ (s9 _ _ hR8)
        have no : R ∉ us.set j v := fun z => by
          rcases List.mem_or_eq_of_mem_set z with z | z
          · exact oR7 z
          · rw [← z, s9 _ _ hR8] at nv
            cases nv
        refine ⟨_, rfl, _, rfl, R, _, _, j, rfl, rfl, hR10, ?_, ?_⟩
        · rw [List.length_map, hj]
          exact ixn_at (by omega)
        rw [show (us.map V.ref).set j (V.ref v) = (us.set j v).map V.ref by rw [List.map_set]]
        refine ⟨us.set j v, rows.set j row', _, _, _, rfl, same_mut ((s58.trans s9).trans s10) nR, upd_same, no, by rw [List.length_set]; exact lu7, RowsL.put no (RowsL.rep ((row8.same s9).same s10) hv), fun x hx => ?_⟩
        rcases List.mem_or_eq_of_mem_set hx with hx | hx
        · exact ⟨(bd7 x hx).1, (bd7 x hx).2.le (BB_mono i)⟩
        · rw [hx]
          exact ⟨by omega, BB_next i ▸ br⟩
      · exact ⟨us, rows, _, _, _, rfl, s58, hR8, oR7, lu7, row8, fun x hx => ⟨(bd7 x hx).1, (bd7 x hx).2.le (BB_mono i)⟩⟩
    rintro σ H7 ⟨us, rows, y1, y2, y3, rfl, s7, hR7, oR7, lu7, row7, bd7⟩
    have bd7 : ∀ r ∈ rows, r.length ≤ 6 ∧ BndL (BB 2) r := fun x hx => ⟨(bd7 x hx).1, (bd7 x hx).2.le (by
      rcases (by omega : x2.toNat = 0 ∨ x2.toNat = 1 ∨ x2.toNat = 2) with e | e | e <;> rw [e] <;> decide)⟩
    refine ⟨fun σ' H' => ∃ (R' : Addr) (us : List Addr) (rows : List (List Int)), σ' = [some (.ref a), some (.ref d1), some (.int (m : Int)), some (.int (sm : Int)), some (.ref G), some (.ref R'), y1, y2, y3, none, none, none, none] ∧ Same H5 H' ∧ H5 R' = none ∧ H' R' = some (.lst (us.map V.ref)) ∧ R' ∉ us ∧ us.length ≤ 16 ∧ (x1 ≠ 2 → 0 < us.length) ∧ RowsL H' us rows ∧ ∀ r ∈ rows, r.length ≤ 6 ∧ BndL (BB 2) r, ?_, ?_⟩
    · refine ⟨.ref d1, rfl, d1, _, _, _, rfl, rfl, (lst_l (s7 _ _ hd5)), atI_nat (j := 1) rfl, rfl, _, rfl, ite2 (fun c => ?_) (fun c => ⟨R, us, rows, rfl, s7, nR, hR7, oR7, by omega, fun _ => by omega, row7, bd7⟩)⟩
      have c := V.int.inj (of_decide_eq_true c)
      refine ⟨_, rfl, 1, rfl, R, _, rfl, lst_l hR7, fun S nS => ?_⟩
      rw [cut_from1, ← List.map_drop]
      have s8 := same_upd (o := .lst ((us.drop 1).map V.ref)) nS
      refine ⟨S, us.drop 1, rows.drop 1, rfl, s7.trans s8, s7.free nS, upd_same, fun z => row7.live nS (List.mem_of_mem_drop z), by rw [List.length_drop]; omega, fun z => absurd c z, (row7.drop1).same s8, fun x hx => bd7 x (List.mem_of_mem_drop hx)⟩
    clear hR7 oR7 lu7 row7 bd7 s7
    rintro σ' H8 ⟨R1, us, rows, rfl, s8, nR1, hR8, oR8, lu8, px8, row8, bd8⟩
    refine ⟨fun σ' H' => ∃ (us : List Addr) (rows : List (List Int)), σ' = [some (.ref a), some (.ref d1), some (.int (m : Int)), some (.int (sm : Int)), some (.ref G), some (.ref R1), y1, y2, y3, none, none, none, none] ∧ Same H5 H' ∧ H5 R1 = none ∧ H' R1 = some (.lst (us.map V.ref)) ∧ R1 ∉ us ∧ us.length ≤ 17 ∧ (x1 ≠ 2 → 0 < us.length) ∧ RowsL H' us rows ∧ ∀ r ∈ rows, r.length ≤ 6 ∧ BndL (BB 2) r, ?_, ?_⟩
    · refine ⟨.ref d1, rfl, d1, _, _, _, rfl, rfl, (lst_l (s8 _ _ hd5)), atI_nat (j := 1) rfl, rfl, _, rfl, ite2 (fun c => ?_) (fun c => ⟨us, rows, rfl, s8, nR1, hR8, oR8, by omega, px8, row8, bd8⟩)⟩
      have c := V.int.inj (of_decide_eq_true c)
      have lp := px8 (by omega)
      have rl := row8.1
      obtain ⟨u, hul⟩ : ∃ u, us.getLast? = some u := by
        cases e : us.getLast? with
        | some u => exact ⟨u, rfl⟩
        | none =>
          rw [List.getLast?_eq_none_iff] at e
          rw [e] at lp
          cases lp
      have hi : us[us.length - 1]? = some u := by rw [← List.getLast?_eq_getElem?]; exact hul
      have h2 : rows[us.length - 1]? = some rows[us.length - 1] := List.getElem?_eq_getElem (by omega)
      have hu := row8.2 _ _ _ hi h2
      have bdr := bd8 _ (List.mem_of_getElem? h2)
      generalize rows[us.length - 1] = rw1 at hu bdr
      have hlast : atI (us.map V.ref) (-1) = some (.ref u) := at_last (by rw [List.getLast?_map, hul]; rfl)
      refine ⟨_, rfl, .inl ⟨rfl, _, lst_l hR8⟩, ?_⟩
      refine ⟨_, rfl, 1, rfl, R1, _, _, .ref u, rfl, rfl, lst_l hR8, hlast, ?_⟩
      refine ⟨u, _, rfl, .inl (lst_l hu), fun v nv => ?_⟩
      have sv := same_upd (o := .lst (rw1.map V.int)) nv
      have no : R1 ∉ us ++ [v] := fun z => by
        rcases List.mem_append.mp z with z | z
        · exact oR8 z
        · rw [← List.mem_singleton.mp z, hR8] at nv
          cases nv
      refine ⟨R1, _, _, rfl, rfl, sv _ _ hR8, by rw [List.length_map]; exact small1000 (by omega), us ++ [v], rows ++ [rw1], rfl, same_mut (s8.trans sv) nR1, nR1, by rw [upd_same, List.map_append]; rfl, no, by rw [List.length_append]; show us.length + 1 ≤ 17; omega, fun _ => by rw [List.length_append]; show 0 < us.length + 1; omega, RowsL.put no (RowsL.snoc (row8.same sv) upd_same), fun x hx => ?_⟩
      rcases List.mem_append.mp hx with hx | hx
      · exact bd8 x hx
      · rw [List.mem_singleton.mp hx]
        exact bdr
    clear hR8 oR8 lu8 px8 row8 bd8 s8
    rintro σ' H9 ⟨us, rows, rfl, s9, _, hR9, oR9, lu9, _, row9, bd9⟩
    have ul : us.length ≤ 900 := by omega
    have lw : ∀ r ∈ rows, r.length ≤ 60 ∧ ∀ x ∈ r, x < 2 ^ 90 := fun r hr => by
      obtain ⟨h1, h2⟩ := bd9 r hr
      refine ⟨by omega, fun x hx => ?_⟩
      have := (h2 x hx).2
      have : BB 2 < 2 ^ 90 := by decide
      omega
    have rl := row9.1
    refine ⟨_, rfl, _, rfl, R1, us, rows, m, rfl, hR9, row9, ul, lw, fun H10 t s10 ht => ?_⟩
    have hR10 := s10 _ _ hR9
    have row10 := row9.same s10
    have s510 := s9.trans s10
    refine ⟨_, rfl, R1, rfl, ⟨_, lst_l hR10⟩, fun G2 nG2 => lc_list (K := K) (a := R1) (xs := us.map V.ref) (fun i H7 => ∃ vs0 : List Addr, Same H10 H7 ∧ H7 G2 = some (.lst (vs0.map V.ref)) ∧ vs0.length = i ∧ G2 ∉ vs0 ∧ RowsL H7 vs0 (rows.take i)) ⟨[], same_upd nG2, upd_same, rfl, (by simp), ⟨rfl, fun i u r h => by cases h⟩⟩ (fun i H7 _ ⟨_, s, _⟩ => lst_l (s _ _ hR10)) ?_ ?_⟩
    · rintro i x H7 hi ⟨vs0, s, hR, lu, ou, rw0⟩
      have i1 : i < us.length := by
        have := (List.getElem?_eq_some_iff.mp hi).1
        rw [List.length_map] at this
        exact this
      have h1 : us[i]? = some us[i] := List.getElem?_eq_getElem i1
      have h2 : rows[i]? = some rows[i] := List.getElem?_eq_getElem (by have := (row10).1; omega)
      rw [List.getElem?_map, h1] at hi
      cases hi
      have hu := s _ _ ((row10).2 i _ _ h1 h2)
      refine ⟨rfl, ?_⟩
      refine lc_yes ?_
      refine iteT ?_
      refine ⟨_, rfl, us[i], _, rfl, .inl (lst_l hu), fun v nv => ?_⟩
      have sv := same_upd (o := .lst (rows[i].map V.int)) nv
      have hR7 := sv _ _ hR
      have no : G2 ∉ vs0 ++ [v] := fun z => by
        rcases List.mem_append.mp z with z | z
        · exact ou z
        · rw [← List.mem_singleton.mp z, hR] at nv
          cases nv
      refine ⟨_, hR7, ?_, vs0 ++ [v], same_mut (s.trans sv) nG2, ?_, ?_, no, ?_⟩
      · rw [List.length_map]
        exact small1000 (by omega)
      · rw [upd_same, List.map_append]
        rfl
      · rw [List.length_append, lu]
        rfl
      · rw [List.take_add_one, h2]
        exact RowsL.put no (RowsL.snoc (rw0.same sv) upd_same)
    rintro H11 ⟨us2, s11, hG2, lus2, oG2, rowG2⟩
    rw [List.length_map, show us.length = rows.length from (row10).1, List.take_length] at rowG2
    rw [List.length_map] at lus2

    have hR11 := s11 _ _ hR10
    have row11 := row10.same s11
    have ht11 := s11 _ _ ht
    have ul2 : us2.length ≤ 900 := by omega
    refine ⟨_, rfl, _, rfl, G2, us2, rows, m, rfl, hG2, rowG2, ul2, lw, fun H12 t2 s12 ht2 => ?_⟩
    have hR12 := s12 _ _ hR11
    have row12 := row11.same s12
    have ht12 := s12 _ _ ht11
    have hG12 := s12 _ _ hG2
    have rowG12 := rowG2.same s12
    refine ⟨_, rfl, t2, t, _, rfl, ht2, ht12, due_len _, due_kinds _, true, rfl, iteF ?_⟩
    refine ⟨_, rfl, _, rfl, _, _, .lst (lst_l hG12) (dp_all rowG12), .lst (lst_l hR12) (dp_all row12), sh_rows _, sh_rows _, false, ?_, iteF ?_⟩
    · rw [SeqAt.eqv_refl _ (SeqAt.canLay_of_shaped (sh_rows _))]
      rfl
    refine ⟨_, rfl, _, rfl, G2, us2, rows, m, rfl, hG12, rowG12, ul2, lw, fun H13 t3 s13 ht3 => ?_⟩
    have ht13 := s13 _ _ ht12
    have s513 := ((s510.trans s11).trans s12).trans s13
    have hG13 := s513 _ _ hG
    have rowG13 := rowG.same s513
    have gl9 : gs.length ≤ 900 := by omega
    cases hd : dueT m rows with
    | many k =>
      rw [hd] at ht13 ht3
      refine ⟨.ref t, rfl, t, _, _, _, rfl, rfl, tup_t ht13, atI_nat (j := 0) rfl, rfl, _, rfl, ite2 (fun z => absurd (of_decide_eq_true z) (fun e => by cases e)) (fun _ => ?_)⟩
      refine ⟨_, rfl, .ref t, rfl, t, _, _, _, rfl, rfl, tup_t ht13, atI_nat (j := 0) rfl, rfl, .ref t, rfl, t, _, _, _, rfl, rfl, tup_t ht13, atI_nat (j := 0) rfl, rfl, (by show 6 ≤ sizeLine; decide), fun p np => ?_⟩
      refine ⟨_, _, dp_6 (same_upd np _ _ ht3), dp_6 upd_same, sh_6 .., sh_6 .., false, rfl, iteF ?_⟩
      have s14 := same_upd (o := .lst [.bl (decide (V.str "many" = V.str "many")), .bl (decide (V.str "many" = V.str "table")), .bl false, .bl false, .bl false, .bl true]) np
      refine ⟨_, rfl, _, rfl, G, gs, grows, sm, rfl, s14 _ _ hG13, rowG13.same s14, gl9, bdG2, fun H15 t5 s15 ht5 => ?_⟩
      rw [mkG] at ht5
      exact ⟨(by show 1 ≤ sizeLine; decide), fun t6 nt6 => ⟨t5, t6, [V.str "made"], rfl, same_upd nt6 _ _ ht5, upd_same, by decide, fun x hx => .inl ⟨_, List.mem_singleton.mp hx⟩, q _⟩⟩
    | table =>
      rw [hd] at ht13 ht3
      refine ⟨.ref t, rfl, t, _, _, _, rfl, rfl, tup_t ht13, atI_nat (j := 0) rfl, rfl, _, rfl, ite2 (fun z => absurd (of_decide_eq_true z) (fun e => by cases e)) (fun _ => ?_)⟩
      refine ⟨_, rfl, .ref t, rfl, t, _, _, _, rfl, rfl, tup_t ht13, atI_nat (j := 0) rfl, rfl, .ref t, rfl, t, _, _, _, rfl, rfl, tup_t ht13, atI_nat (j := 0) rfl, rfl, (by show 6 ≤ sizeLine; decide), fun p np => ?_⟩
      refine ⟨_, _, dp_6 (same_upd np _ _ ht3), dp_6 upd_same, sh_6 .., sh_6 .., false, rfl, iteF ?_⟩
      have s14 := same_upd (o := .lst [.bl (decide (V.str "table" = V.str "many")), .bl (decide (V.str "table" = V.str "table")), .bl false, .bl false, .bl false, .bl true]) np
      refine ⟨_, rfl, _, rfl, G, gs, grows, sm, rfl, s14 _ _ hG13, rowG13.same s14, gl9, bdG2, fun H15 t5 s15 ht5 => ?_⟩
      rw [mkG] at ht5
      exact ⟨(by show 1 ≤ sizeLine; decide), fun t6 nt6 => ⟨t5, t6, [V.str "made"], rfl, same_upd nt6 _ _ ht5, upd_same, by decide, fun x hx => .inl ⟨_, List.mem_singleton.mp hx⟩, q _⟩⟩
    | row k =>
      rw [hd] at ht13 ht3
      refine ⟨.ref t, rfl, t, _, _, _, rfl, rfl, tup_t ht13, atI_nat (j := 0) rfl, rfl, _, rfl, ite2 (fun z => absurd (of_decide_eq_true z) (fun e => by cases e)) (fun _ => ?_)⟩
      refine ⟨_, rfl, .ref t, rfl, t, _, _, _, rfl, rfl, tup_t ht13, atI_nat (j := 0) rfl, rfl, .ref t, rfl, t, _, _, _, rfl, rfl, tup_t ht13, atI_nat (j := 0) rfl, rfl, (by show 6 ≤ sizeLine; decide), fun p np => ?_⟩
      refine ⟨_, _, dp_6 (same_upd np _ _ ht3), dp_6 upd_same, sh_6 .., sh_6 .., false, rfl, iteF ?_⟩
      have s14 := same_upd (o := .lst [.bl (decide (V.str "table" = V.str "many")), .bl (decide (V.str "table" = V.str "table")), .bl false, .bl false, .bl false, .bl true]) np
      refine ⟨_, rfl, _, rfl, G, gs, grows, sm, rfl, s14 _ _ hG13, rowG13.same s14, gl9, bdG2, fun H15 t5 s15 ht5 => ?_⟩
      rw [mkG] at ht5
      exact ⟨(by show 1 ≤ sizeLine; decide), fun t6 nt6 => ⟨t5, t6, [V.str "made"], rfl, same_upd nt6 _ _ ht5, upd_same, by decide, fun x hx => .inl ⟨_, List.mem_singleton.mp hx⟩, q _⟩⟩
    | made =>
      rw [hd] at ht13 ht3
      refine ⟨.ref t, rfl, t, _, _, _, rfl, rfl, tup_t ht13, atI_nat (j := 0) rfl, rfl, _, rfl, iteD rfl ?_⟩
      exact ⟨_, rfl, Nat.zero_le _, fun p np => ⟨_, _, .lst (lst_l (same_upd np _ _ ht3)) .nil, .lst (lst_l upd_same) .nil, sh_0, sh_0, q _⟩⟩
end
/-! ### what the top has written; the law's own head -/
theorem all_mk {l : PySem.W.OpenLaw} {w : World} {K : PySem.W.Frag} {h : Heap} {mg : Str → Option Value} {fa f1 f2 f3 f4 f5 f6 f7 f8 f9 f10 f11 f12 f13 f14 f15 f16 f17 f18 f19 f20 f21 f22 f23 C_Tabled C_TooMany C_BadTable C_BadNumber C_NoBuyers C_BadLot C_ShelfError : Addr} (X : K.In h) (G : h.Ns mainGlobals mg) (hfa : mg "law" = some (.ref fa))
    {od1 an1 od2 an2 od3 an3 od4 an4 od5 an5 od6 an6 od7 an7 od8 an8 od9 an9 od10 an10 od11 an11 od12 an12 od13 an13 od14 an14 od15 an15 od16 an16 od17 an17 od18 an18 od19 an19 od20 an20 od21 an21 od22 an22 od23 an23 : Option Addr} {sl1 sl2 sl3 sl4 sl5 sl6 sl7 sl8 sl9 sl10 sl11 sl12 sl13 sl14 sl15 sl16 sl17 sl18 sl19 sl20 sl21 sl22 sl23 : Array (Option Value)} {oc1 kV1 dc1 pm1 cd1 ct1 oc2 kV2 dc2 pm2 cd2 ct2 oc3 kV3 dc3 pm3 cd3 ct3 oc4 kV4 dc4 pm4 cd4 ct4 oc5 kV5 dc5 pm5 cd5 ct5 oc6 kV6 dc6 pm6 cd6 ct6 oc7 kV7 dc7 pm7 cd7 ct7 oc8 kV8 dc8 pm8 cd8 ct8 oc9 kV9 dc9 pm9 ct9 oc10 kV10 dc10 pm10 cd10 ct10 oc11 kV11 dc11 pm11 cd11 ct11 oc12 kV12 dc12 pm12 cd12 ct12 oc13 kV13 dc13 pm13 cd13 ct13 oc14 kV14 dc14 pm14 cd14 ct14 oc15 kV15 dc15 pm15 cd15 ct15 oc16 kV16 dc16 pm16 cd16 ct16 oc17 kV17 dc17 pm17 cd17 ct17 oc18 kV18 dc18 pm18 cd18 ct18 oc19 kV19 dc19 pm19 cd19 ct19 oc20 kV20 dc20 pm20 cd20 ct20 oc21 kV21 dc21 pm21 cd21 ct21 oc22 kV22 dc22 pm22 cd22 ct22 oc23 kV23 dc23 pm23 cd23 ct23 : Value} {tk_MOST_THINGS : Tok} {tk_MOST_TABLED_THINGS : Tok} {cc9 cda9 : Addr} {cl9 ccl9 : Value} {cld9 cdd9 : Option Addr} {csl9 ccs9 : Array (Option Value)} {vs9 : Array Value} {fi9 : Str} {tf9 : Tok} {cdW9 : ClassData}
    (a_Tabled : PySem.W.nsIn K mainGlobals "Tabled" = some (some (.ref C_Tabled)))
    (kc_Tabled : PySem.W.keepIn K (.ref C_Tabled) = true)
    (hd_Tabled : PySem.W.hasDictIn K C_Tabled = true)
    (ha_Tabled : PySem.W.findIn K (.ref C_Tabled) "__class__" = some (some (.builtin "object.__class__")))
    (hm_Tabled : PySem.W.mroIn K C_Tabled (.type "object") = some true)
    (pg_Tabled : PySem.W.plainGet K C_Tabled Str.empty = true)
    (po_Tabled : PySem.W.plainOver K C_Tabled = true)
    (sa_Tabled : PySem.W.findIn K (.ref C_Tabled) "__setattr__" = some (some (.builtin "object.__setattr__")))
    (mk_Tabled : PySem.W.makesIn K C_Tabled = true)
    (n_Tabled_many : PySem.W.findIn K (.ref C_Tabled) "many" = some none)
    (n_Tabled_rows : PySem.W.findIn K (.ref C_Tabled) "rows" = some none)
    (a_TooMany : PySem.W.nsIn K mainGlobals "TooMany" = some (some (.ref C_TooMany)))
    (kc_TooMany : PySem.W.keepIn K (.ref C_TooMany) = true)
    (hd_TooMany : PySem.W.hasDictIn K C_TooMany = true)
    (ha_TooMany : PySem.W.findIn K (.ref C_TooMany) "__class__" = some (some (.builtin "object.__class__")))
    (hm_TooMany : PySem.W.mroIn K C_TooMany (.type "object") = some true)
    (b_TooMany : PySem.W.subIn K (.ref C_TooMany) (.type "BaseException") = some true)
    (t_TooMany : PySem.W.typeIn K (.ref C_TooMany) = some (.type "type"))
    (ga_TooMany : PySem.W.findIn K (.ref C_TooMany) "__getattribute__" = some (some (.builtin "BaseException.__getattribute__")))
    (gg_TooMany : PySem.W.findIn K (.ref C_TooMany) "__getattr__" = some none)
    (ol_TooMany : K.lookup C_TooMany = some (excClassObj nm_TooMany q_TooMany C_TooMany N_TooMany bs_TooMany bm_TooMany true sn_TooMany sub_TooMany ab_TooMany col_TooMany dd_TooMany k0_TooMany k1_TooMany k2_TooMany k3_TooMany k5_TooMany "ValueError.__new__"))
    (or_TooMany : PySem.HandSPX.refsVE bm_TooMany = true)
    (sa_TooMany : PySem.W.findIn K (.ref C_TooMany) "__setattr__" = some (some (.builtin "object.__setattr__")))
    (n_TooMany_many : PySem.W.findIn K (.ref C_TooMany) "many" = some none)
    (n_TooMany_most : PySem.W.findIn K (.ref C_TooMany) "most" = some none)
    (a_BadTable : PySem.W.nsIn K mainGlobals "BadTable" = some (some (.ref C_BadTable)))
    (kc_BadTable : PySem.W.keepIn K (.ref C_BadTable) = true)
    (hd_BadTable : PySem.W.hasDictIn K C_BadTable = true)
    (ha_BadTable : PySem.W.findIn K (.ref C_BadTable) "__class__" = some (some (.builtin "object.__class__")))
    (hm_BadTable : PySem.W.mroIn K C_BadTable (.type "object") = some true)
    (b_BadTable : PySem.W.subIn K (.ref C_BadTable) (.type "BaseException") = some true)
    (t_BadTable : PySem.W.typeIn K (.ref C_BadTable) = some (.type "type"))
    (ga_BadTable : PySem.W.findIn K (.ref C_BadTable) "__getattribute__" = some (some (.builtin "BaseException.__getattribute__")))
    (gg_BadTable : PySem.W.findIn K (.ref C_BadTable) "__getattr__" = some none)
    (ol_BadTable : K.lookup C_BadTable = some (excClassObj nm_BadTable q_BadTable C_BadTable N_BadTable bs_BadTable bm_BadTable true sn_BadTable sub_BadTable ab_BadTable col_BadTable dd_BadTable k0_BadTable k1_BadTable k2_BadTable k3_BadTable k5_BadTable "ValueError.__new__"))
    (or_BadTable : PySem.HandSPX.refsVE bm_BadTable = true)
    (sa_BadTable : PySem.W.findIn K (.ref C_BadTable) "__setattr__" = some (some (.builtin "object.__setattr__")))
    (n_BadTable_at : PySem.W.findIn K (.ref C_BadTable) "at" = some none)
    (a_BadNumber : PySem.W.nsIn K mainGlobals "BadNumber" = some (some (.ref C_BadNumber)))
    (kc_BadNumber : PySem.W.keepIn K (.ref C_BadNumber) = true)
    (hd_BadNumber : PySem.W.hasDictIn K C_BadNumber = true)
    (ha_BadNumber : PySem.W.findIn K (.ref C_BadNumber) "__class__" = some (some (.builtin "object.__class__")))
    (hm_BadNumber : PySem.W.mroIn K C_BadNumber (.type "object") = some true)
    (b_BadNumber : PySem.W.subIn K (.ref C_BadNumber) (.type "BaseException") = some true)
    (t_BadNumber : PySem.W.typeIn K (.ref C_BadNumber) = some (.type "type"))
    (ga_BadNumber : PySem.W.findIn K (.ref C_BadNumber) "__getattribute__" = some (some (.builtin "BaseException.__getattribute__")))
    (gg_BadNumber : PySem.W.findIn K (.ref C_BadNumber) "__getattr__" = some none)
    (ol_BadNumber : K.lookup C_BadNumber = some (excClassObj nm_BadNumber q_BadNumber C_BadNumber N_BadNumber bs_BadNumber bm_BadNumber true sn_BadNumber sub_BadNumber ab_BadNumber col_BadNumber dd_BadNumber k0_BadNumber k1_BadNumber k2_BadNumber k3_BadNumber k5_BadNumber "ValueError.__new__"))
    (or_BadNumber : PySem.HandSPX.refsVE bm_BadNumber = true)
    (sa_BadNumber : PySem.W.findIn K (.ref C_BadNumber) "__setattr__" = some (some (.builtin "object.__setattr__")))
    (n_BadNumber_what : PySem.W.findIn K (.ref C_BadNumber) "what" = some none)
    (n_BadNumber_at : PySem.W.findIn K (.ref C_BadNumber) "at" = some none)
    (a_NoBuyers : PySem.W.nsIn K mainGlobals "NoBuyers" = some (some (.ref C_NoBuyers)))
    (kc_NoBuyers : PySem.W.keepIn K (.ref C_NoBuyers) = true)
    (hd_NoBuyers : PySem.W.hasDictIn K C_NoBuyers = true)
    (ha_NoBuyers : PySem.W.findIn K (.ref C_NoBuyers) "__class__" = some (some (.builtin "object.__class__")))
    (hm_NoBuyers : PySem.W.mroIn K C_NoBuyers (.type "object") = some true)
    (b_NoBuyers : PySem.W.subIn K (.ref C_NoBuyers) (.type "BaseException") = some true)
    (t_NoBuyers : PySem.W.typeIn K (.ref C_NoBuyers) = some (.type "type"))
    (ga_NoBuyers : PySem.W.findIn K (.ref C_NoBuyers) "__getattribute__" = some (some (.builtin "BaseException.__getattribute__")))
    (gg_NoBuyers : PySem.W.findIn K (.ref C_NoBuyers) "__getattr__" = some none)
    (a_BadLot : PySem.W.nsIn K mainGlobals "BadLot" = some (some (.ref C_BadLot)))
    (kc_BadLot : PySem.W.keepIn K (.ref C_BadLot) = true)
    (hd_BadLot : PySem.W.hasDictIn K C_BadLot = true)
    (ha_BadLot : PySem.W.findIn K (.ref C_BadLot) "__class__" = some (some (.builtin "object.__class__")))
    (hm_BadLot : PySem.W.mroIn K C_BadLot (.type "object") = some true)
    (b_BadLot : PySem.W.subIn K (.ref C_BadLot) (.type "BaseException") = some true)
    (t_BadLot : PySem.W.typeIn K (.ref C_BadLot) = some (.type "type"))
    (ga_BadLot : PySem.W.findIn K (.ref C_BadLot) "__getattribute__" = some (some (.builtin "BaseException.__getattribute__")))
    (gg_BadLot : PySem.W.findIn K (.ref C_BadLot) "__getattr__" = some none)
    (a_ShelfError : PySem.W.nsIn K mainGlobals "ShelfError" = some (some (.ref C_ShelfError)))
    (kc_ShelfError : PySem.W.keepIn K (.ref C_ShelfError) = true)
    (hd_ShelfError : PySem.W.hasDictIn K C_ShelfError = true)
    (ha_ShelfError : PySem.W.findIn K (.ref C_ShelfError) "__class__" = some (some (.builtin "object.__class__")))
    (hm_ShelfError : PySem.W.mroIn K C_ShelfError (.type "object") = some true)
    (b_ShelfError : PySem.W.subIn K (.ref C_ShelfError) (.type "BaseException") = some true)
    (t_ShelfError : PySem.W.typeIn K (.ref C_ShelfError) = some (.type "type"))
    (ga_ShelfError : PySem.W.findIn K (.ref C_ShelfError) "__getattribute__" = some (some (.builtin "BaseException.__getattribute__")))
    (gg_ShelfError : PySem.W.findIn K (.ref C_ShelfError) "__getattr__" = some none)
    (hnc : PySem.W.specialIn K (.builtin "object.__class__") "__get__" = some (some (.builtin "getset_descriptor.__get__")))
    (htk : PySem.W.takesIn K (.builtin "object.__class__") = some true)
    (sub_TooMany_TooMany : PySem.W.subIn K (.ref C_TooMany) (.ref C_TooMany) = some true)
    (sub_TooMany_BadTable : PySem.W.subIn K (.ref C_TooMany) (.ref C_BadTable) = some false)
    (sub_BadTable_TooMany : PySem.W.subIn K (.ref C_BadTable) (.ref C_TooMany) = some false)
    (sub_BadTable_BadTable : PySem.W.subIn K (.ref C_BadTable) (.ref C_BadTable) = some true)
    (sub_TooMany_ShelfError : PySem.W.subIn K (.ref C_TooMany) (.ref C_ShelfError) = some true)
    (sub_BadTable_ShelfError : PySem.W.subIn K (.ref C_BadTable) (.ref C_ShelfError) = some true)
    (kit_TooMany_TooMany : PySem.W.kitOne K (.ref C_TooMany) (.ref C_TooMany) = some true)
    (kit_TooMany_BadTable : PySem.W.kitOne K (.ref C_TooMany) (.ref C_BadTable) = some false)
    (kit_TooMany_BadNumber : PySem.W.kitOne K (.ref C_TooMany) (.ref C_BadNumber) = some false)
    (kit_TooMany_BadLot : PySem.W.kitOne K (.ref C_TooMany) (.ref C_BadLot) = some false)
    (kit_TooMany_NoBuyers : PySem.W.kitOne K (.ref C_TooMany) (.ref C_NoBuyers) = some false)
    (kit_TooMany_ValueError : PySem.W.kitOne K (.ref C_TooMany) (.type "ValueError") = some true)
    (kit_BadTable_TooMany : PySem.W.kitOne K (.ref C_BadTable) (.ref C_TooMany) = some false)
    (kit_BadTable_BadTable : PySem.W.kitOne K (.ref C_BadTable) (.ref C_BadTable) = some true)
    (kit_BadTable_BadNumber : PySem.W.kitOne K (.ref C_BadTable) (.ref C_BadNumber) = some false)
    (kit_BadTable_BadLot : PySem.W.kitOne K (.ref C_BadTable) (.ref C_BadLot) = some false)
    (kit_BadTable_NoBuyers : PySem.W.kitOne K (.ref C_BadTable) (.ref C_NoBuyers) = some false)
    (kit_BadTable_ValueError : PySem.W.kitOne K (.ref C_BadTable) (.type "ValueError") = some true)
    (a_gcd : PySem.W.nsIn K mainGlobals "gcd" = some (some (.builtin "math.gcd")))
    (a_MOST_THINGS : PySem.W.nsIn K mainGlobals "MOST_THINGS" = some (some (.int 24 tk_MOST_THINGS)))
    (a_MOST_TABLED_THINGS : PySem.W.nsIn K mainGlobals "MOST_TABLED_THINGS" = some (some (.int 6 tk_MOST_TABLED_THINGS)))
    (a1 : PySem.W.findIn K (.ref C_TooMany) "__init__" = some (some (.ref f1))) (i1 : PySem.W.isFn K (.ref f1) = true)
    (l1 : K.lookup f1 = some ⟨oc1, od1, .func (PySem.W.fnOf "__init__" "TooMany.__init__" (defArgs s_TooMany___init__) (defBody s_TooMany___init__) (defScope s_TooMany___init__) .none kV1 dc1 pm1 an1 cd1 ct1), sl1⟩)
    (c1 : PySem.W.codeIn K cd1 "TooMany.__init__" = true) (k1 : PySem.W.keepIn K (.ref f1) = true)
    (a2 : PySem.W.findIn K (.ref C_BadTable) "__init__" = some (some (.ref f2))) (i2 : PySem.W.isFn K (.ref f2) = true)
    (l2 : K.lookup f2 = some ⟨oc2, od2, .func (PySem.W.fnOf "__init__" "BadTable.__init__" (defArgs s_BadTable___init__) (defBody s_BadTable___init__) (defScope s_BadTable___init__) .none kV2 dc2 pm2 an2 cd2 ct2), sl2⟩)
    (c2 : PySem.W.codeIn K cd2 "BadTable.__init__" = true) (k2 : PySem.W.keepIn K (.ref f2) = true)
    (a3 : PySem.W.nsIn K mainGlobals "check_many" = some (some (.ref f3)))
    (l3 : K.lookup f3 = some ⟨oc3, od3, .func (PySem.W.fnOf "check_many" "check_many" (defArgs s_check_many) (defBody s_check_many) (defScope s_check_many) .none kV3 dc3 pm3 an3 cd3 ct3), sl3⟩)
    (c3 : PySem.W.codeIn K cd3 "check_many" = true) (k3 : PySem.W.keepIn K (.ref f3) = true)
    (sg4 : PySem.W.ks_superIn K C_Tabled C_Tabled "__init__" = some (some (.ref f4)))
    (l4 : K.lookup f4 = some ⟨oc4, od4, .func (PySem.W.fnOf "__init__" "Rule.__init__" (defArgs s_Rule___init__) (defBody s_Rule___init__) (defScope s_Rule___init__) .none kV4 dc4 pm4 an4 cd4 ct4), sl4⟩)
    (c4 : PySem.W.codeIn K cd4 "Rule.__init__" = true) (k4 : PySem.W.keepIn K (.ref f4) = true)
    (a5 : PySem.W.nsIn K mainGlobals "lot_at" = some (some (.ref f5)))
    (l5 : K.lookup f5 = some ⟨oc5, od5, .func (PySem.W.fnOf "lot_at" "lot_at" (defArgs s_lot_at) (defBody s_lot_at) (defScope s_lot_at) .none kV5 dc5 pm5 an5 cd5 ct5), sl5⟩)
    (c5 : PySem.W.codeIn K cd5 "lot_at" = true) (k5 : PySem.W.keepIn K (.ref f5) = true)
    (a6 : PySem.W.nsIn K mainGlobals "_fits" = some (some (.ref f6)))
    (l6 : K.lookup f6 = some ⟨oc6, od6, .func (PySem.W.fnOf "_fits" "_fits" (defArgs s__fits) (defBody s__fits) (defScope s__fits) .none kV6 dc6 pm6 an6 cd6 ct6), sl6⟩)
    (c6 : PySem.W.codeIn K cd6 "_fits" = true) (k6 : PySem.W.keepIn K (.ref f6) = true)
    (a7 : PySem.W.nsIn K mainGlobals "common_divisor" = some (some (.ref f7)))
    (l7 : K.lookup f7 = some ⟨oc7, od7, .func (PySem.W.fnOf "common_divisor" "common_divisor" (defArgs s_common_divisor) (defBody s_common_divisor) (defScope s_common_divisor) .none kV7 dc7 pm7 an7 cd7 ct7), sl7⟩)
    (c7 : PySem.W.codeIn K cd7 "common_divisor" = true) (k7 : PySem.W.keepIn K (.ref f7) = true)
    (a8 : PySem.W.nsIn K mainGlobals "_reduced_row" = some (some (.ref f8)))
    (l8 : K.lookup f8 = some ⟨oc8, od8, .func (PySem.W.fnOf "_reduced_row" "_reduced_row" (defArgs s__reduced_row) (defBody s__reduced_row) (defScope s__reduced_row) .none kV8 dc8 pm8 an8 cd8 ct8), sl8⟩)
    (c8 : PySem.W.codeIn K cd8 "_reduced_row" = true) (k8 : PySem.W.keepIn K (.ref f8) = true)
    (sa9 : PySem.W.clsIn K C_Tabled = some cdW9)
    (sb9 : PySem.W.mroIn K C_Tabled (.ref C_Tabled) = some true)
    (a9 : PySem.W.findIn K (.ref C_Tabled) "__init__" = some (some (.ref f9))) (i9 : PySem.W.isFn K (.ref f9) = true)
    (l9 : K.lookup f9 = some ⟨oc9, od9, .func (PySem.W.ksFn "__init__" "Tabled.__init__" (defArgs s_Tabled___init__) (defBody s_Tabled___init__) (defScope s_Tabled___init__) .none kV9 dc9 pm9 an9 (.ref cda9) ct9 cc9), sl9⟩)
    (c9 : PySem.W.codeIn K (.ref cda9) "Tabled.__init__" = true) (k9 : PySem.W.keepIn K (.ref f9) = true)
    (sc9 : K.lookup cc9 = some ⟨cl9, cld9, .cell (some (.ref C_Tabled)), csl9⟩)
    (sd9 : K.lookup cda9 = some ⟨ccl9, cdd9, .fields vs9, ccs9⟩)
    (se9 : vs9[2]? = some (.str fi9 tf9))
    (sh9 : PySem.W.typeIn K (.ref f4) = some (.type "function"))
    (si9 : PySem.W.fnIn K f4 = true)
    (sj9 : PySem.W.nsIn K cStatics "thirdparty.any" = some none)
    (sk9 : PySem.W.nsIn K mainGlobals "super" = some none)
    (sl_9 : ((l.prog.main.file : Str) == fi9) = true)
    (sm9 : (l.prog.main.scope.names.lookup ("super" : Str)).isSome = false)
    (a10 : PySem.W.nsIn K mainGlobals "_law_cell" = some (some (.ref f10)))
    (l10 : K.lookup f10 = some ⟨oc10, od10, .func (PySem.W.fnOf "_law_cell" "_law_cell" (defArgs s__law_cell) (defBody s__law_cell) (defScope s__law_cell) .none kV10 dc10 pm10 an10 cd10 ct10), sl10⟩)
    (c10 : PySem.W.codeIn K cd10 "_law_cell" = true) (k10 : PySem.W.keepIn K (.ref f10) = true)
    (a11 : PySem.W.nsIn K mainGlobals "_law_draws" = some (some (.ref f11)))
    (l11 : K.lookup f11 = some ⟨oc11, od11, .func (PySem.W.fnOf "_law_draws" "_law_draws" (defArgs s__law_draws) (defBody s__law_draws) (defScope s__law_draws) .none kV11 dc11 pm11 an11 cd11 ct11), sl11⟩)
    (c11 : PySem.W.codeIn K cd11 "_law_draws" = true) (k11 : PySem.W.keepIn K (.ref f11) = true)
    (a12 : PySem.W.nsIn K mainGlobals "_law_lot" = some (some (.ref f12)))
    (l12 : K.lookup f12 = some ⟨oc12, od12, .func (PySem.W.fnOf "_law_lot" "_law_lot" (defArgs s__law_lot) (defBody s__law_lot) (defScope s__law_lot) .none kV12 dc12 pm12 an12 cd12 ct12), sl12⟩)
    (c12 : PySem.W.codeIn K cd12 "_law_lot" = true) (k12 : PySem.W.keepIn K (.ref f12) = true)
    (a13 : PySem.W.nsIn K mainGlobals "_law_power" = some (some (.ref f13)))
    (l13 : K.lookup f13 = some ⟨oc13, od13, .func (PySem.W.fnOf "_law_power" "_law_power" (defArgs s__law_power) (defBody s__law_power) (defScope s__law_power) .none kV13 dc13 pm13 an13 cd13 ct13), sl13⟩)
    (c13 : PySem.W.codeIn K cd13 "_law_power" = true) (k13 : PySem.W.keepIn K (.ref f13) = true)
    (a14 : PySem.W.nsIn K mainGlobals "_law_is_int" = some (some (.ref f14)))
    (l14 : K.lookup f14 = some ⟨oc14, od14, .func (PySem.W.fnOf "_law_is_int" "_law_is_int" (defArgs s__law_is_int) (defBody s__law_is_int) (defScope s__law_is_int) .none kV14 dc14 pm14 an14 cd14 ct14), sl14⟩)
    (c14 : PySem.W.codeIn K cd14 "_law_is_int" = true) (k14 : PySem.W.keepIn K (.ref f14) = true)
    (a15 : PySem.W.nsIn K mainGlobals "_law_right" = some (some (.ref f15)))
    (l15 : K.lookup f15 = some ⟨oc15, od15, .func (PySem.W.fnOf "_law_right" "_law_right" (defArgs s__law_right) (defBody s__law_right) (defScope s__law_right) .none kV15 dc15 pm15 an15 cd15 ct15), sl15⟩)
    (c15 : PySem.W.codeIn K cd15 "_law_right" = true) (k15 : PySem.W.keepIn K (.ref f15) = true)
    (a16 : PySem.W.nsIn K mainGlobals "_law_due" = some (some (.ref f16)))
    (l16 : K.lookup f16 = some ⟨oc16, od16, .func (PySem.W.fnOf "_law_due" "_law_due" (defArgs s__law_due) (defBody s__law_due) (defScope s__law_due) .none kV16 dc16 pm16 an16 cd16 ct16), sl16⟩)
    (c16 : PySem.W.codeIn K cd16 "_law_due" = true) (k16 : PySem.W.keepIn K (.ref f16) = true)
    (a17 : PySem.W.nsIn K mainGlobals "_law_asked" = some (some (.ref f17)))
    (l17 : K.lookup f17 = some ⟨oc17, od17, .func (PySem.W.fnOf "_law_asked" "_law_asked" (defArgs s__law_asked) (defBody s__law_asked) (defScope s__law_asked) .none kV17 dc17 pm17 an17 cd17 ct17), sl17⟩)
    (c17 : PySem.W.codeIn K cd17 "_law_asked" = true) (k17 : PySem.W.keepIn K (.ref f17) = true)
    (a18 : PySem.W.nsIn K mainGlobals "_law_classes" = some (some (.ref f18)))
    (l18 : K.lookup f18 = some ⟨oc18, od18, .func (PySem.W.fnOf "_law_classes" "_law_classes" (defArgs s__law_classes) (defBody s__law_classes) (defScope s__law_classes) .none kV18 dc18 pm18 an18 cd18 ct18), sl18⟩)
    (c18 : PySem.W.codeIn K cd18 "_law_classes" = true) (k18 : PySem.W.keepIn K (.ref f18) = true)
    (a19 : PySem.W.nsIn K mainGlobals "_law_like" = some (some (.ref f19)))
    (l19 : K.lookup f19 = some ⟨oc19, od19, .func (PySem.W.fnOf "_law_like" "_law_like" (defArgs s__law_like) (defBody s__law_like) (defScope s__law_like) .none kV19 dc19 pm19 an19 cd19 ct19), sl19⟩)
    (c19 : PySem.W.codeIn K cd19 "_law_like" = true) (k19 : PySem.W.keepIn K (.ref f19) = true)
    (a20 : PySem.W.nsIn K mainGlobals "_law_pool" = some (some (.ref f20)))
    (l20 : K.lookup f20 = some ⟨oc20, od20, .func (PySem.W.fnOf "_law_pool" "_law_pool" (defArgs s__law_pool) (defBody s__law_pool) (defScope s__law_pool) .none kV20 dc20 pm20 an20 cd20 ct20), sl20⟩)
    (c20 : PySem.W.codeIn K cd20 "_law_pool" = true) (k20 : PySem.W.keepIn K (.ref f20) = true)
    (a21 : PySem.W.nsIn K mainGlobals "_law_rows" = some (some (.ref f21)))
    (l21 : K.lookup f21 = some ⟨oc21, od21, .func (PySem.W.fnOf "_law_rows" "_law_rows" (defArgs s__law_rows) (defBody s__law_rows) (defScope s__law_rows) .none kV21 dc21 pm21 an21 cd21 ct21), sl21⟩)
    (c21 : PySem.W.codeIn K cd21 "_law_rows" = true) (k21 : PySem.W.keepIn K (.ref f21) = true)
    (a22 : PySem.W.nsIn K mainGlobals "_law_changed" = some (some (.ref f22)))
    (l22 : K.lookup f22 = some ⟨oc22, od22, .func (PySem.W.fnOf "_law_changed" "_law_changed" (defArgs s__law_changed) (defBody s__law_changed) (defScope s__law_changed) .none kV22 dc22 pm22 an22 cd22 ct22), sl22⟩)
    (c22 : PySem.W.codeIn K cd22 "_law_changed" = true) (k22 : PySem.W.keepIn K (.ref f22) = true)
    (a23 : PySem.W.nsIn K mainGlobals "law" = some (some (.ref f23)))
    (l23 : K.lookup f23 = some ⟨oc23, od23, .func (PySem.W.fnOf "law" "law" (defArgs s_law) (defBody s_law) (defScope s_law) .none kV23 dc23 pm23 an23 cd23 ct23), sl23⟩)
    (c23 : PySem.W.codeIn K cd23 "law" = true) (k23 : PySem.W.keepIn K (.ref f23) = true)
    (z_ValueError : PySem.W.nsIn K mainGlobals "ValueError" = some none)
    (z_bool : PySem.W.nsIn K mainGlobals "bool" = some none)
    (z_enumerate : PySem.W.nsIn K mainGlobals "enumerate" = some none)
    (z_int : PySem.W.nsIn K mainGlobals "int" = some none)
    (z_isinstance : PySem.W.nsIn K mainGlobals "isinstance" = some none)
    (z_len : PySem.W.nsIn K mainGlobals "len" = some none)
    (z_list : PySem.W.nsIn K mainGlobals "list" = some none)
    (z_max : PySem.W.nsIn K mainGlobals "max" = some none)
    (z_range : PySem.W.nsIn K mainGlobals "range" = some none)
    (z_str : PySem.W.nsIn K mainGlobals "str" = some none)
    (z_sum : PySem.W.nsIn K mainGlobals "sum" = some none)
    (z_tuple : PySem.W.nsIn K mainGlobals "tuple" = some none) :
    ∃ fd : FuncData, (∀ (s : Shared) (v : Value), BindsTo s fd ⟨[v], []⟩ [("_law_script", v)]) ∧ ∀ base : Heap, K.In base → base.Ns mainGlobals mg → FnOk l.prog w K mg base CX0 8 fa fd ["_law_script"] (sp_law K) := by
  have e := hfa.symm.trans (PySem.W.mg_of X G a23)
  cases e
  have m_ValueError := PySem.W.mg_none_of X G z_ValueError
  have m_bool := PySem.W.mg_none_of X G z_bool
  have m_enumerate := PySem.W.mg_none_of X G z_enumerate
  have m_int := PySem.W.mg_none_of X G z_int
  have m_isinstance := PySem.W.mg_none_of X G z_isinstance
  have m_len := PySem.W.mg_none_of X G z_len
  have m_list := PySem.W.mg_none_of X G z_list
  have m_max := PySem.W.mg_none_of X G z_max
  have m_range := PySem.W.mg_none_of X G z_range
  have m_str := PySem.W.mg_none_of X G z_str
  have m_sum := PySem.W.mg_none_of X G z_sum
  have m_tuple := PySem.W.mg_none_of X G z_tuple
  have T : Txt K mg C_Tabled C_TooMany C_BadTable C_BadNumber C_NoBuyers C_BadLot C_ShelfError := ⟨PySem.W.mg_of X G a_Tabled, kc_Tabled, hd_Tabled, ha_Tabled, hm_Tabled, ⟨pg_Tabled, hd_Tabled, po_Tabled, sa_Tabled⟩, mk_Tabled, n_Tabled_many, n_Tabled_rows, PySem.W.mg_of X G a_TooMany, kc_TooMany, hd_TooMany, ha_TooMany, hm_TooMany, b_TooMany, t_TooMany, ga_TooMany, gg_TooMany, ⟨⟨_, _, _, _, _, _, _, _, _, _, _, _, _, _, _, ol_TooMany, or_TooMany⟩, sa_TooMany, b_TooMany, t_TooMany, kc_TooMany⟩, ⟨ga_TooMany, gg_TooMany, b_TooMany, hd_TooMany⟩, n_TooMany_many, n_TooMany_most, PySem.W.mg_of X G a_BadTable, kc_BadTable, hd_BadTable, ha_BadTable, hm_BadTable, b_BadTable, t_BadTable, ga_BadTable, gg_BadTable, ⟨⟨_, _, _, _, _, _, _, _, _, _, _, _, _, _, _, ol_BadTable, or_BadTable⟩, sa_BadTable, b_BadTable, t_BadTable, kc_BadTable⟩, ⟨ga_BadTable, gg_BadTable, b_BadTable, hd_BadTable⟩, n_BadTable_at, PySem.W.mg_of X G a_BadNumber, kc_BadNumber, hd_BadNumber, ha_BadNumber, hm_BadNumber, b_BadNumber, t_BadNumber, ga_BadNumber, gg_BadNumber, ⟨⟨_, _, _, _, _, _, _, _, _, _, _, _, _, _, _, ol_BadNumber, or_BadNumber⟩, sa_BadNumber, b_BadNumber, t_BadNumber, kc_BadNumber⟩, ⟨ga_BadNumber, gg_BadNumber, b_BadNumber, hd_BadNumber⟩, n_BadNumber_what, n_BadNumber_at, PySem.W.mg_of X G a_NoBuyers, kc_NoBuyers, hd_NoBuyers, ha_NoBuyers, hm_NoBuyers, b_NoBuyers, t_NoBuyers, ga_NoBuyers, gg_NoBuyers, PySem.W.mg_of X G a_BadLot, kc_BadLot, hd_BadLot, ha_BadLot, hm_BadLot, b_BadLot, t_BadLot, ga_BadLot, gg_BadLot, PySem.W.mg_of X G a_ShelfError, kc_ShelfError, hd_ShelfError, ha_ShelfError, hm_ShelfError, b_ShelfError, t_ShelfError, ga_ShelfError, gg_ShelfError, hnc, htk, sub_TooMany_TooMany, sub_TooMany_BadTable, sub_BadTable_TooMany, sub_BadTable_BadTable, sub_TooMany_ShelfError, sub_BadTable_ShelfError, kit_TooMany_TooMany, kit_TooMany_BadTable, kit_TooMany_BadNumber, kit_TooMany_BadLot, kit_TooMany_NoBuyers, kit_TooMany_ValueError, kit_BadTable_TooMany, kit_BadTable_BadTable, kit_BadTable_BadNumber, kit_BadTable_BadLot, kit_BadTable_NoBuyers, kit_BadTable_ValueError, PySem.W.mg_of X G a_gcd, ⟨_, PySem.W.mg_of X G a_MOST_THINGS⟩, ⟨_, PySem.W.mg_of X G a_MOST_TABLED_THINGS⟩⟩
  have F1 := fun_mk (st := s_TooMany___init__) l1 c1 k1
  have b1 := F1.binds (ps := ["self", "many", "most"]) fun _ _ _ _ _ _ us hl => match us, hl with | [_, _, _], _ => rfl
  have F2 := fun_mk (st := s_BadTable___init__) l2 c2 k2
  have b2 := F2.binds (ps := ["self", "at"]) fun _ _ _ _ _ _ us hl => match us, hl with | [_, _], _ => rfl
  have F3 := fun_mk (st := s_check_many) l3 c3 k3
  have b3 := F3.binds (ps := ["many", "most"]) fun _ _ _ _ _ _ us hl => match us, hl with | [_, _], _ => rfl
  have F4 := fun_mk (st := s_Rule___init__) l4 c4 k4
  have b4 := F4.binds (ps := ["self", "many"]) fun _ _ _ _ _ _ us hl => match us, hl with | [_, _], _ => rfl
  have F5 := fun_mk (st := s_lot_at) l5 c5 k5
  have b5 := F5.binds (ps := ["number", "many"]) fun _ _ _ _ _ _ us hl => match us, hl with | [_, _], _ => rfl
  have F6 := fun_mk (st := s__fits) l6 c6 k6
  have b6 := F6.binds (ps := ["row", "lot"]) fun _ _ _ _ _ _ us hl => match us, hl with | [_, _], _ => rfl
  have F7 := fun_mk (st := s_common_divisor) l7 c7 k7
  have b7 := F7.binds (ps := ["numbers"]) fun _ _ _ _ _ _ us hl => match us, hl with | [_], _ => rfl
  have F8 := fun_mk (st := s__reduced_row) l8 c8 k8
  have b8 := F8.binds (ps := ["row"]) fun _ _ _ _ _ _ us hl => match us, hl with | [_], _ => rfl
  have F9 : FunS K "__init__" "Tabled.__init__" s_Tabled___init__ cc9 cda9 f9 _ := ⟨⟨oc9, od9, kV9, dc9, pm9, an9, ct9, sl9, rfl, l9, c9⟩, k9⟩
  have b9 := F9.binds (ps := ["self", "many", "rows"]) fun _ _ _ _ _ us hl => match us, hl with | [_, _, _], _ => rfl
  have S9 : SupC K mg C_Tabled C_Tabled cc9 cda9 f4 fi9 := ⟨⟨_, sa9⟩, sb9, ⟨_, _, _, sc9⟩, ⟨_, _, _, _, _, sd9, se9⟩, sg4, sh9, si9, sj9, PySem.W.mg_none_of X G sk9⟩
  have F10 := fun_mk (st := s__law_cell) l10 c10 k10
  have b10 := F10.binds (ps := ["_law_script", "_law_place"]) fun _ _ _ _ _ _ us hl => match us, hl with | [_, _], _ => rfl
  have F11 := fun_mk (st := s__law_draws) l11 c11 k11
  have b11 := F11.binds (ps := ["_law_cell_here", "_law_sizes"]) fun _ _ _ _ _ _ us hl => match us, hl with | [_, _], _ => rfl
  have F12 := fun_mk (st := s__law_lot) l12 c12 k12
  have b12 := F12.binds (ps := ["_law_bits", "_law_many"]) fun _ _ _ _ _ _ us hl => match us, hl with | [_, _], _ => rfl
  have F13 := fun_mk (st := s__law_power) l13 c13 k13
  have b13 := F13.binds (ps := ["_law_many"]) fun _ _ _ _ _ _ us hl => match us, hl with | [_], _ => rfl
  have F14 := fun_mk (st := s__law_is_int) l14 c14 k14
  have b14 := F14.binds (ps := ["_law_x"]) fun _ _ _ _ _ _ us hl => match us, hl with | [_], _ => rfl
  have F15 := fun_mk (st := s__law_right) l15 c15 k15
  have b15 := F15.binds (ps := ["_law_row", "_law_lot_here", "_law_many"]) fun _ _ _ _ _ _ us hl => match us, hl with | [_, _, _], _ => rfl
  have F16 := fun_mk (st := s__law_due) l16 c16 k16
  have b16 := F16.binds (ps := ["_law_many", "_law_rows_here"]) fun _ _ _ _ _ _ us hl => match us, hl with | [_, _], _ => rfl
  have F17 := fun_mk (st := s__law_asked) l17 c17 k17
  have b17 := F17.binds (ps := ["_law_many", "_law_rows_here"]) fun _ _ _ _ _ _ us hl => match us, hl with | [_, _], _ => rfl
  have F18 := fun_mk (st := s__law_classes) l18 c18 k18
  have b18 := F18.binds (ps := ["_law_many", "_law_rows_here"]) fun _ _ _ _ _ _ us hl => match us, hl with | [_, _], _ => rfl
  have F19 := fun_mk (st := s__law_like) l19 c19 k19
  have b19 := F19.binds (ps := ["_law_told", "_law_due_here"]) fun _ _ _ _ _ _ us hl => match us, hl with | [_, _], _ => rfl
  have F20 := fun_mk (st := s__law_pool) l20 c20 k20
  have b20 := F20.binds (ps := ["_law_low", "_law_high"]) fun _ _ _ _ _ _ us hl => match us, hl with | [_, _], _ => rfl
  have F21 := fun_mk (st := s__law_rows) l21 c21 k21
  have b21 := F21.binds (ps := ["_law_pool_here", "_law_many"]) fun _ _ _ _ _ _ us hl => match us, hl with | [_, _], _ => rfl
  have F22 := fun_mk (st := s__law_changed) l22 c22 k22
  have b22 := F22.binds (ps := ["_law_row", "_law_lot_here", "_law_many", "_law_change"]) fun _ _ _ _ _ _ us hl => match us, hl with | [_, _, _, _], _ => rfl
  have F23 := fun_mk (st := s_law) l23 c23 k23
  refine ⟨PySem.W.fnOf "law" "law" (defArgs s_law) (defBody s_law) (defScope s_law) .none kV23 dc23 pm23 an23 cd23 ct23, fun s v => .of_eq rfl, fun base _ _ => ?_⟩
  have K_TooMany___init__ : CalX l.prog w K mg base CX0 1 C_TooMany ["self", "many", "most"] (sp_TooMany___init__ C_TooMany) := ⟨f1, _, ok_TooMany___init__ F1 T, a1, beq_iff_eq.mp i1, b1⟩
  have K_BadTable___init__ : CalX l.prog w K mg base CX0 1 C_BadTable ["self", "at"] (sp_BadTable___init__ C_BadTable) := ⟨f2, _, ok_BadTable___init__ F2 T, a2, beq_iff_eq.mp i2, b2⟩
  have K_check_many : Cal l.prog w K mg base (L2.CX l.prog w) 3 "check_many" ["many", "most"] (sp_check_many C_TooMany) := ⟨f3, _, ok_check_many F3 T K_TooMany___init__, PySem.W.mg_of X G a3, k3, b3⟩
  have K_Rule___init__ : ∃ fd : FuncData, FnOk l.prog w K mg base (L2.CX l.prog w) 4 f4 fd ["self", "many"] (sp_Rule___init__ C_Tabled C_TooMany) ∧ Binds K fd ["self", "many"] [] := ⟨_, ok_Rule___init__ F4 T K_check_many, b4⟩
  have K_lot_at : Cal l.prog w K mg base CX0 1 "lot_at" ["number", "many"] (sp_lot_at K) := ⟨f5, _, ok_lot_at F5 T m_range m_tuple, PySem.W.mg_of X G a5, k5, b5⟩
  have K__fits : Cal l.prog w K mg base CX0 1 "_fits" ["row", "lot"] (sp__fits K) := ⟨f6, _, ok__fits F6 T m_enumerate m_sum, PySem.W.mg_of X G a6, k6, b6⟩
  have K_common_divisor : Cal l.prog w K mg base CX0 1 "common_divisor" ["numbers"] (sp_common_divisor K) := ⟨f7, _, ok_common_divisor F7 T, PySem.W.mg_of X G a7, k7, b7⟩
  have K__reduced_row : Cal l.prog w K mg base CX0 2 "_reduced_row" ["row"] (sp__reduced_row K) := ⟨f8, _, ok__reduced_row F8 T m_tuple K_common_divisor, PySem.W.mg_of X G a8, k8, b8⟩
  have K_Tabled___init__ : CalI l.prog w K mg base (L2.CX l.prog w) 5 C_Tabled ["self", "many", "rows"] (sp_Tabled___init__ C_Tabled C_TooMany C_BadTable) [] := ⟨f9, _, ok_Tabled___init__ F9 S9 sl_9 sm9 T m_enumerate m_len m_tuple K_check_many K_Rule___init__ K_lot_at K__fits K__reduced_row K_BadTable___init__, ⟨mk_Tabled, a9, i9, kc_Tabled⟩, b9, [], .nil, b9⟩
  have K__law_cell : Cal l.prog w K mg base CX0 1 "_law_cell" ["_law_script", "_law_place"] (sp__law_cell K) := ⟨f10, _, ok__law_cell F10 T m_int m_len, PySem.W.mg_of X G a10, k10, b10⟩
  have K__law_draws : Cal l.prog w K mg base CX0 1 "_law_draws" ["_law_cell_here", "_law_sizes"] (sp__law_draws K) := ⟨f11, _, ok__law_draws F11 T m_int m_len m_range, PySem.W.mg_of X G a11, k11, b11⟩
  have K__law_lot : Cal l.prog w K mg base CX0 1 "_law_lot" ["_law_bits", "_law_many"] (sp__law_lot K) := ⟨f12, _, ok__law_lot F12 T m_int m_range m_tuple, PySem.W.mg_of X G a12, k12, b12⟩
  have K__law_power : Cal l.prog w K mg base CX0 1 "_law_power" ["_law_many"] sp__law_power := ⟨f13, _, ok__law_power F13 T m_range, PySem.W.mg_of X G a13, k13, b13⟩
  have K__law_is_int : Cal l.prog w K mg base CX0 1 "_law_is_int" ["_law_x"] sp__law_is_int := ⟨f14, _, ok__law_is_int F14 T m_bool m_int m_isinstance, PySem.W.mg_of X G a14, k14, b14⟩
  have K__law_right : Cal l.prog w K mg base CX0 1 "_law_right" ["_law_row", "_law_lot_here", "_law_many"] sp__law_right := ⟨f15, _, ok__law_right F15 T m_len m_range, PySem.W.mg_of X G a15, k15, b15⟩
  have K__law_due : Cal l.prog w K mg base CX0 2 "_law_due" ["_law_many", "_law_rows_here"] sp__law_due := ⟨f16, _, ok__law_due F16 T m_len m_range K__law_power K__law_lot K__law_right, PySem.W.mg_of X G a16, k16, b16⟩
  have K__law_asked : Cal l.prog w K mg base CX0 7 "_law_asked" ["_law_many", "_law_rows_here"] sp__law_asked := ⟨f17, _, ok__law_asked F17 T K_Tabled___init__, PySem.W.mg_of X G a17, k17, b17⟩
  have K__law_classes : Cal l.prog w K mg base CX0 7 "_law_classes" ["_law_many", "_law_rows_here"] sp__law_classes := ⟨f18, _, ok__law_classes F18 T m_ValueError m_isinstance K_Tabled___init__, PySem.W.mg_of X G a18, k18, b18⟩
  have K__law_like : Cal l.prog w K mg base CX0 2 "_law_like" ["_law_told", "_law_due_here"] sp__law_like := ⟨f19, _, ok__law_like F19 T m_isinstance m_len m_range m_str K__law_is_int, PySem.W.mg_of X G a19, k19, b19⟩
  have K__law_pool : Cal l.prog w K mg base CX0 2 "_law_pool" ["_law_low", "_law_high"] (sp__law_pool K) := ⟨f20, _, ok__law_pool F20 T m_int m_range K__law_draws, PySem.W.mg_of X G a20, k20, b20⟩
  have K__law_rows : Cal l.prog w K mg base CX0 2 "_law_rows" ["_law_pool_here", "_law_many"] (sp__law_rows K) := ⟨f21, _, ok__law_rows F21 T m_int m_max m_range m_sum K__law_power K__law_lot, PySem.W.mg_of X G a21, k21, b21⟩
  have K__law_changed : Cal l.prog w K mg base CX0 1 "_law_changed" ["_law_row", "_law_lot_here", "_law_many", "_law_change"] (sp__law_changed K) := ⟨f22, _, ok__law_changed F22 T m_int m_len m_list m_range m_sum, PySem.W.mg_of X G a22, k22, b22⟩
  exact ok_law F23 T m_int m_len m_list m_range K__law_cell K__law_draws K__law_pool K__law_rows K__law_lot K__law_changed K__law_due K__law_asked K__law_classes K__law_like
end K25
open PySem PySem.W PyProof.Rows
set_option pp.maxSteps 400 in
set_option maxHeartbeats 0 in
theorem PySem.Challenge.cw_dearestshelf_k25_tabled_refusals_holds : PySem.Challenge.rw_dearestshelf_k25_tabled_refusals.Holds := by
  w_on; o_law; k_head; (case hw => w_witness2)
  k_fill
  refine L2.walk_of (l := PySem.Challenge.rw_dearestshelf_k25_tabled_refusals) (n := 63) (k := 8) (x := "_law_script") (CX := fun _ => L2.CX0) (sp := fun w => K25.sp_law _) rfl (by decide) rfl ⟨rfl, by decide, by decide⟩ (fun w h Y => PySem.W.kIn_of Y) ?F (fun _ _ a ns hl _ hS => ⟨a, ns, rfl, hS, hl, fun _ => rfl⟩) (fun _ _ _ _ _ h => h)
  case F =>
    intro w mg fa h KX G hmg
    refine' K25.all_mk KX G hmg ?a_Tabled ?kc_Tabled ?hd_Tabled ?ha_Tabled ?hm_Tabled ?pg_Tabled ?po_Tabled ?sa_Tabled ?mk_Tabled ?n_Tabled_many ?n_Tabled_rows ?a_TooMany ?kc_TooMany ?hd_TooMany ?ha_TooMany ?hm_TooMany ?b_TooMany ?t_TooMany ?ga_TooMany ?gg_TooMany ?ol_TooMany ?or_TooMany ?sa_TooMany ?n_TooMany_many ?n_TooMany_most ?a_BadTable ?kc_BadTable ?hd_BadTable ?ha_BadTable ?hm_BadTable ?b_BadTable ?t_BadTable ?ga_BadTable ?gg_BadTable ?ol_BadTable ?or_BadTable ?sa_BadTable ?n_BadTable_at ?a_BadNumber ?kc_BadNumber ?hd_BadNumber ?ha_BadNumber ?hm_BadNumber ?b_BadNumber ?t_BadNumber ?ga_BadNumber ?gg_BadNumber ?ol_BadNumber ?or_BadNumber ?sa_BadNumber ?n_BadNumber_what ?n_BadNumber_at ?a_NoBuyers ?kc_NoBuyers ?hd_NoBuyers ?ha_NoBuyers ?hm_NoBuyers ?b_NoBuyers ?t_NoBuyers ?ga_NoBuyers ?gg_NoBuyers ?a_BadLot ?kc_BadLot ?hd_BadLot ?ha_BadLot ?hm_BadLot ?b_BadLot ?t_BadLot ?ga_BadLot ?gg_BadLot ?a_ShelfError ?kc_ShelfError ?hd_ShelfError ?ha_ShelfError ?hm_ShelfError ?b_ShelfError ?t_ShelfError ?ga_ShelfError ?gg_ShelfError ?hnc ?htk ?sub_TooMany_TooMany ?sub_TooMany_BadTable ?sub_BadTable_TooMany ?sub_BadTable_BadTable ?sub_TooMany_ShelfError ?sub_BadTable_ShelfError ?kit_TooMany_TooMany ?kit_TooMany_BadTable ?kit_TooMany_BadNumber ?kit_TooMany_BadLot ?kit_TooMany_NoBuyers ?kit_TooMany_ValueError ?kit_BadTable_TooMany ?kit_BadTable_BadTable ?kit_BadTable_BadNumber ?kit_BadTable_BadLot ?kit_BadTable_NoBuyers ?kit_BadTable_ValueError ?a_gcd ?a_MOST_THINGS ?a_MOST_TABLED_THINGS ?a1 ?i1 ?l1 ?c1 ?k1 ?a2 ?i2 ?l2 ?c2 ?k2 ?a3 ?l3 ?c3 ?k3 ?sg4 ?l4 ?c4 ?k4 ?a5 ?l5 ?c5 ?k5 ?a6 ?l6 ?c6 ?k6 ?a7 ?l7 ?c7 ?k7 ?a8 ?l8 ?c8 ?k8 ?sa9 ?sb9 ?a9 ?i9 ?l9 ?c9 ?k9 ?sc9 ?sd9 ?se9 ?sh9 ?si9 ?sj9 ?sk9 ?sl_9 ?sm9 ?a10 ?l10 ?c10 ?k10 ?a11 ?l11 ?c11 ?k11 ?a12 ?l12 ?c12 ?k12 ?a13 ?l13 ?c13 ?k13 ?a14 ?l14 ?c14 ?k14 ?a15 ?l15 ?c15 ?k15 ?a16 ?l16 ?c16 ?k16 ?a17 ?l17 ?c17 ?k17 ?a18 ?l18 ?c18 ?k18 ?a19 ?l19 ?c19 ?k19 ?a20 ?l20 ?c20 ?k20 ?a21 ?l21 ?c21 ?k21 ?a22 ?l22 ?c22 ?k22 ?a23 ?l23 ?c23 ?k23 ?z_ValueError ?z_bool ?z_enumerate ?z_int ?z_isinstance ?z_len ?z_list ?z_max ?z_range ?z_str ?z_sum ?z_tuple
    (case a_Tabled => k_is); (case kc_Tabled => k_is); (case hd_Tabled => k_is); (case ha_Tabled => k_is); (case hm_Tabled => k_is); (case pg_Tabled => k_is); (case po_Tabled => k_is); (case sa_Tabled => k_is); (case mk_Tabled => k_is); (case n_Tabled_many => k_is); (case n_Tabled_rows => k_is); (case a_TooMany => k_is); (case kc_TooMany => k_is); (case hd_TooMany => k_is); (case ha_TooMany => k_is); (case hm_TooMany => k_is); (case b_TooMany => k_is); (case t_TooMany => k_is); (case ga_TooMany => k_is); (case gg_TooMany => k_is); (case ol_TooMany => k_is); (case or_TooMany => rfl); (case sa_TooMany => k_is); (case n_TooMany_many => k_is); (case n_TooMany_most => k_is); (case a_BadTable => k_is); (case kc_BadTable => k_is); (case hd_BadTable => k_is); (case ha_BadTable => k_is); (case hm_BadTable => k_is); (case b_BadTable => k_is); (case t_BadTable => k_is); (case ga_BadTable => k_is); (case gg_BadTable => k_is); (case ol_BadTable => k_is); (case or_BadTable => rfl); (case sa_BadTable => k_is); (case n_BadTable_at => k_is); (case a_BadNumber => k_is); (case kc_BadNumber => k_is); (case hd_BadNumber => k_is); (case ha_BadNumber => k_is); (case hm_BadNumber => k_is); (case b_BadNumber => k_is); (case t_BadNumber => k_is); (case ga_BadNumber => k_is); (case gg_BadNumber => k_is); (case ol_BadNumber => k_is); (case or_BadNumber => rfl); (case sa_BadNumber => k_is); (case n_BadNumber_what => k_is); (case n_BadNumber_at => k_is); (case a_NoBuyers => k_is); (case kc_NoBuyers => k_is); (case hd_NoBuyers => k_is); (case ha_NoBuyers => k_is); (case hm_NoBuyers => k_is); (case b_NoBuyers => k_is); (case t_NoBuyers => k_is); (case ga_NoBuyers => k_is); (case gg_NoBuyers => k_is); (case a_BadLot => k_is); (case kc_BadLot => k_is); (case hd_BadLot => k_is); (case ha_BadLot => k_is); (case hm_BadLot => k_is); (case b_BadLot => k_is); (case t_BadLot => k_is); (case ga_BadLot => k_is); (case gg_BadLot => k_is); (case a_ShelfError => k_is); (case kc_ShelfError => k_is); (case hd_ShelfError => k_is); (case ha_ShelfError => k_is); (case hm_ShelfError => k_is); (case b_ShelfError => k_is); (case t_ShelfError => k_is); (case ga_ShelfError => k_is); (case gg_ShelfError => k_is); (case hnc => k_is); (case htk => k_is); (case sub_TooMany_TooMany => (first | rfl | k_is)); (case sub_TooMany_BadTable => (first | rfl | k_is)); (case sub_BadTable_TooMany => (first | rfl | k_is)); (case sub_BadTable_BadTable => (first | rfl | k_is)); (case sub_TooMany_ShelfError => (first | rfl | k_is)); (case sub_BadTable_ShelfError => (first | rfl | k_is)); (case kit_TooMany_TooMany => kit_is); (case kit_TooMany_BadTable => kit_is); (case kit_TooMany_BadNumber => kit_is); (case kit_TooMany_BadLot => kit_is); (case kit_TooMany_NoBuyers => kit_is); (case kit_TooMany_ValueError => kit_is); (case kit_BadTable_TooMany => kit_is); (case kit_BadTable_BadTable => kit_is); (case kit_BadTable_BadNumber => kit_is); (case kit_BadTable_BadLot => kit_is); (case kit_BadTable_NoBuyers => kit_is); (case kit_BadTable_ValueError => kit_is); (case a_gcd => k_is); (case a_MOST_THINGS => k_is); (case a_MOST_TABLED_THINGS => k_is); (case a1 => k_is); (case i1 => k_is); (case l1 => k_is); (case c1 => k_is); (case k1 => k_is); (case a2 => k_is); (case i2 => k_is); (case l2 => k_is); (case c2 => k_is); (case k2 => k_is); (case a3 => k_is); (case l3 => k_is); (case c3 => k_is); (case k3 => k_is); (case sg4 => ks_is); (case l4 => k_is); (case c4 => k_is); (case k4 => k_is); (case a5 => k_is); (case l5 => k_is); (case c5 => k_is); (case k5 => k_is); (case a6 => k_is); (case l6 => k_is); (case c6 => k_is); (case k6 => k_is); (case a7 => k_is); (case l7 => k_is); (case c7 => k_is); (case k7 => k_is); (case a8 => k_is); (case l8 => k_is); (case c8 => k_is); (case k8 => k_is); (case sa9 => k_is); (case sb9 => k_is); (case a9 => k_is); (case i9 => k_is); (case l9 => k_is); (case c9 => k_is); (case k9 => k_is); (case sc9 => k_is); (case sd9 => k_is); (case se9 => rfl); (case sh9 => k_is); (case si9 => k_is); (case sj9 => k_is); (case sk9 => k_is); (case sl_9 => (first | rfl | decide +kernel)); (case sm9 => (first | rfl | decide +kernel)); (case a10 => k_is); (case l10 => k_is); (case c10 => k_is); (case k10 => k_is); (case a11 => k_is); (case l11 => k_is); (case c11 => k_is); (case k11 => k_is); (case a12 => k_is); (case l12 => k_is); (case c12 => k_is); (case k12 => k_is); (case a13 => k_is); (case l13 => k_is); (case c13 => k_is); (case k13 => k_is); (case a14 => k_is); (case l14 => k_is); (case c14 => k_is); (case k14 => k_is); (case a15 => k_is); (case l15 => k_is); (case c15 => k_is); (case k15 => k_is); (case a16 => k_is); (case l16 => k_is); (case c16 => k_is); (case k16 => k_is); (case a17 => k_is); (case l17 => k_is); (case c17 => k_is); (case k17 => k_is); (case a18 => k_is); (case l18 => k_is); (case c18 => k_is); (case k18 => k_is); (case a19 => k_is); (case l19 => k_is); (case c19 => k_is); (case k19 => k_is); (case a20 => k_is); (case l20 => k_is); (case c20 => k_is); (case k20 => k_is); (case a21 => k_is); (case l21 => k_is); (case c21 => k_is); (case k21 => k_is); (case a22 => k_is); (case l22 => k_is); (case c22 => k_is); (case k22 => k_is); (case a23 => k_is); (case l23 => k_is); (case c23 => k_is); (case k23 => k_is); (case z_ValueError => k_is); (case z_bool => k_is); (case z_enumerate => k_is); (case z_int => k_is); (case z_isinstance => k_is); (case z_len => k_is); (case z_list => k_is); (case z_max => k_is); (case z_range => k_is); (case z_str => k_is); (case z_sum => k_is); (case z_tuple => k_is)
