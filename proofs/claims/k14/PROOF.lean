import PyProof.Rows.All
import Wide.All
import OpenK.AllK
import Wide.FinOn
import HandS.ForMost
import HandS.ForExc
import HandS.Wide
import HandS.IsInst
import HandS.More
import HandS.Conv
import HandS.Evl
import HandS.ExcIs
import HandS.Defaults
import HandS.ExcInit
import HandS.ExcField
import HandS.TryMany
import HandS.Nested
import HandS.ClsMeth
import HandS.Iter
import HandS.Walk
import HandS.Style
import HandS.ListEq
import KE.KSuper
import KE.RegKSuper
import KE.KExcIs
import KE.RegKIsAll
import HandS.OwnEq
import HandS.Gcd
import HandS.SortKw
import HandS.TupAny
import PySem.Challenge.RW_dearestshelf_k14_rule_takes_nothing
set_option Elab.async false
set_option linter.all false
set_option maxRecDepth 100000
set_option maxHeartbeats 8000000
set_option exponentiation.threshold 10000
namespace K14
open PySem PySem.Spec PyProof.Rows L2
def top (i : Nat) : Stmt := PySem.Challenge.pw_dearestshelf_k14_rule_takes_nothing.main.body.getD i (.Pass ⟨0, 0, 0, 0⟩)
abbrev s_BadNumber___init__ : Stmt := inClass (top 7) 0
theorem sc_BadNumber___init__ : FnScope ["self", "what", "at"] ["self", "what", "at"] (defScope s_BadNumber___init__) := ⟨rfl, rfl, rfl, by decide +kernel, rfl, by decide +kernel, by decide +kernel⟩
abbrev s_TooMany___init__ : Stmt := inClass (top 8) 0
theorem sc_TooMany___init__ : FnScope ["self", "many", "most"] ["self", "many", "most"] (defScope s_TooMany___init__) := ⟨rfl, rfl, rfl, by decide +kernel, rfl, by decide +kernel, by decide +kernel⟩
abbrev s_check_many : Stmt := top 10
theorem sc_check_many : FnScope ["many", "most"] ["many", "most"] (defScope s_check_many) := ⟨rfl, rfl, rfl, by decide +kernel, rfl, by decide +kernel, by decide +kernel⟩
abbrev s_check_length : Stmt := top 12
theorem sc_check_length : FnScope ["what", "items", "many"] ["what", "items", "many"] (defScope s_check_length) := ⟨rfl, rfl, rfl, by decide +kernel, rfl, by decide +kernel, by decide +kernel⟩
abbrev s_check_each : Stmt := top 13
theorem sc_check_each : FnScope ["what", "numbers", "least", "at", "number"] ["what", "numbers", "least"] (defScope s_check_each) := ⟨rfl, rfl, rfl, by decide +kernel, rfl, by decide +kernel, by decide +kernel⟩
abbrev s_check_prices : Stmt := top 11
theorem sc_check_prices : FnScope ["prices", "many"] ["prices", "many"] (defScope s_check_prices) := ⟨rfl, rfl, rfl, by decide +kernel, rfl, by decide +kernel, by decide +kernel⟩
abbrev s_Rule___init__ : Stmt := inClass (top 21) 0
theorem sc_Rule___init__ : FnScope ["self", "many"] ["self", "many"] (defScope s_Rule___init__) := ⟨rfl, rfl, rfl, by decide +kernel, rfl, by decide +kernel, by decide +kernel⟩
abbrev s_check_lot : Stmt := top 14
theorem sc_check_lot : FnScope ["lot", "many", "before", "thing"] ["lot", "many"] (defScope s_check_lot) := ⟨rfl, rfl, rfl, by decide +kernel, rfl, by decide +kernel, by decide +kernel⟩
abbrev s_Ratio___init__ : Stmt := inClass (top 16) 0
theorem sc_Ratio___init__ : FnScope ["self", "top", "bottom", "divisor"] ["self", "top", "bottom"] (defScope s_Ratio___init__) := ⟨rfl, rfl, rfl, by decide +kernel, rfl, by decide +kernel, by decide +kernel⟩
abbrev s__as_ratio : Stmt := top 17
theorem sc__as_ratio : FnScope ["number"] ["number"] (defScope s__as_ratio) := ⟨rfl, rfl, rfl, by decide +kernel, rfl, by decide +kernel, by decide +kernel⟩
abbrev s_Ratio___neg__ : Stmt := inClass (top 16) 12
theorem sc_Ratio___neg__ : FnScope ["self"] ["self"] (defScope s_Ratio___neg__) := ⟨rfl, rfl, rfl, by decide +kernel, rfl, by decide +kernel, by decide +kernel⟩
abbrev s_Ratio___add__ : Stmt := inClass (top 16) 4
theorem sc_Ratio___add__ : FnScope ["self", "other", "addend"] ["self", "other"] (defScope s_Ratio___add__) := ⟨rfl, rfl, rfl, by decide +kernel, rfl, by decide +kernel, by decide +kernel⟩
abbrev s_Ratio___rsub__ : Stmt := inClass (top 16) 7
theorem sc_Ratio___rsub__ : FnScope ["self", "other"] ["self", "other"] (defScope s_Ratio___rsub__) := ⟨rfl, rfl, rfl, by decide +kernel, rfl, by decide +kernel, by decide +kernel⟩
abbrev s_Ratio___mul__ : Stmt := inClass (top 16) 8
theorem sc_Ratio___mul__ : FnScope ["self", "other", "factor"] ["self", "other"] (defScope s_Ratio___mul__) := ⟨rfl, rfl, rfl, by decide +kernel, rfl, by decide +kernel, by decide +kernel⟩
abbrev s_Rule_shares : Stmt := inClass (top 21) 1
theorem sc_Rule_shares : FnScope ["self", "lot", "thing"] ["self", "lot"] (defScope s_Rule_shares) := ⟨rfl, rfl, rfl, by decide +kernel, rfl, by decide +kernel, by decide +kernel⟩
abbrev s_Rule_away : Stmt := inClass (top 21) 2
theorem sc_Rule_away : FnScope ["self", "lot"] ["self", "lot"] (defScope s_Rule_away) := ⟨rfl, rfl, rfl, by decide +kernel, rfl, by decide +kernel, by decide +kernel⟩
abbrev s_Rule_worth : Stmt := inClass (top 21) 3
theorem sc_Rule_worth : FnScope ["self", "lot", "prices", "shares", "thing"] ["self", "lot", "prices"] (defScope s_Rule_worth) := ⟨rfl, rfl, rfl, by decide +kernel, rfl, by decide +kernel, by decide +kernel⟩
abbrev s__law_cell : Stmt := top 23
theorem sc__law_cell : FnScope ["_law_script", "_law_place"] ["_law_script", "_law_place"] (defScope s__law_cell) := ⟨rfl, rfl, rfl, by decide +kernel, rfl, by decide +kernel, by decide +kernel⟩
abbrev s__law_draws : Stmt := top 24
theorem sc__law_draws : FnScope ["_law_cell_here", "_law_sizes", "_law_size", "_law_left", "_law_found", "_law_k", "_law_low", "_law_high"] ["_law_cell_here", "_law_sizes"] (defScope s__law_draws) := ⟨rfl, rfl, rfl, by decide +kernel, rfl, by decide +kernel, by decide +kernel⟩
abbrev s__law_wide : Stmt := top 25
theorem sc__law_wide : FnScope ["_law_parts", "_law_number", "_law_part"] ["_law_parts"] (defScope s__law_wide) := ⟨rfl, rfl, rfl, by decide +kernel, rfl, by decide +kernel, by decide +kernel⟩
abbrev s__law_row : Stmt := top 26
theorem sc__law_row : FnScope ["_law_cell_here", "_law_count", "_law_drawn", "_law_bound", "_law_value", "_law_k"] ["_law_cell_here", "_law_count"] (defScope s__law_row) := ⟨rfl, rfl, rfl, by decide +kernel, rfl, by decide +kernel, by decide +kernel⟩
abbrev s__law_lot : Stmt := top 27
theorem sc__law_lot : FnScope ["_law_bits", "_law_many", "_law_found", "_law_left", "_law_thing"] ["_law_bits", "_law_many"] (defScope s__law_lot) := ⟨rfl, rfl, rfl, by decide +kernel, rfl, by decide +kernel, by decide +kernel⟩
abbrev s__law_is_int : Stmt := top 28
theorem sc__law_is_int : FnScope ["_law_x"] ["_law_x"] (defScope s__law_is_int) := ⟨rfl, rfl, rfl, by decide +kernel, rfl, by decide +kernel, by decide +kernel⟩
abbrev s__law_same : Stmt := top 29
theorem sc__law_same : FnScope ["_law_x", "_law_top", "_law_bottom"] ["_law_x", "_law_top", "_law_bottom"] (defScope s__law_same) := ⟨rfl, rfl, rfl, by decide +kernel, rfl, by decide +kernel, by decide +kernel⟩
abbrev s__law_is_lot : Stmt := top 30
theorem sc__law_is_lot : FnScope ["_law_lot_here", "_law_many", "_law_thing", "_law_k"] ["_law_lot_here", "_law_many"] (defScope s__law_is_lot) := ⟨rfl, rfl, rfl, by decide +kernel, rfl, by decide +kernel, by decide +kernel⟩
abbrev s__law_any_lot : Stmt := top 31
theorem sc__law_any_lot : FnScope ["_law_cell_here", "_law_many", "_law_drawn", "_law_lot_here", "_law_place", "_law_k", "_law_number"] ["_law_cell_here", "_law_many"] (defScope s__law_any_lot) := ⟨rfl, rfl, rfl, by decide +kernel, rfl, by decide +kernel, by decide +kernel⟩
abbrev s__law_any_prices : Stmt := top 32
theorem sc__law_any_prices : FnScope ["_law_cell_here", "_law_ways", "_law_many", "_law_prices"] ["_law_cell_here", "_law_ways", "_law_many"] (defScope s__law_any_prices) := ⟨rfl, rfl, rfl, by decide +kernel, rfl, by decide +kernel, by decide +kernel⟩
abbrev s__law_made : Stmt := top 33
theorem sc__law_made : FnScope ["_law_many", "e"] ["_law_many"] (defScope s__law_made) := ⟨rfl, rfl, rfl, by decide +kernel, rfl, by decide +kernel, by decide +kernel⟩
abbrev s__law_made_base : Stmt := top 34
theorem sc__law_made_base : FnScope ["_law_many", "e"] ["_law_many"] (defScope s__law_made_base) := ⟨rfl, rfl, rfl, by decide +kernel, rfl, by decide +kernel, by decide +kernel⟩
abbrev s__law_shares : Stmt := top 35
theorem sc__law_shares : FnScope ["_law_rule", "_law_lot_here", "e"] ["_law_rule", "_law_lot_here"] (defScope s__law_shares) := ⟨rfl, rfl, rfl, by decide +kernel, rfl, by decide +kernel, by decide +kernel⟩
abbrev s__law_away : Stmt := top 36
theorem sc__law_away : FnScope ["_law_rule", "_law_lot_here", "e"] ["_law_rule", "_law_lot_here"] (defScope s__law_away) := ⟨rfl, rfl, rfl, by decide +kernel, rfl, by decide +kernel, by decide +kernel⟩
abbrev s__law_worth : Stmt := top 37
theorem sc__law_worth : FnScope ["_law_rule", "_law_lot_here", "_law_prices", "e"] ["_law_rule", "_law_lot_here", "_law_prices"] (defScope s__law_worth) := ⟨rfl, rfl, rfl, by decide +kernel, rfl, by decide +kernel, by decide +kernel⟩
abbrev s__law_base : Stmt := top 38
theorem sc__law_base : FnScope ["_law_rule", "_law_lot_here", "_law_prices", "e"] ["_law_rule", "_law_lot_here", "_law_prices"] (defScope s__law_base) := ⟨rfl, rfl, rfl, by decide +kernel, rfl, by decide +kernel, by decide +kernel⟩
abbrev s__law_prices_place : Stmt := top 39
theorem sc__law_prices_place : FnScope ["_law_prices", "_law_many", "_law_k"] ["_law_prices", "_law_many"] (defScope s__law_prices_place) := ⟨rfl, rfl, rfl, by decide +kernel, rfl, by decide +kernel, by decide +kernel⟩
abbrev s__law_noughts : Stmt := top 40
theorem sc__law_noughts : FnScope ["_law_row_here", "_law_many", "_law_share"] ["_law_row_here", "_law_many"] (defScope s__law_noughts) := ⟨rfl, rfl, rfl, by decide +kernel, rfl, by decide +kernel, by decide +kernel⟩
abbrev s__law_good_shares : Stmt := top 41
theorem sc__law_good_shares : FnScope ["_law_rule", "_law_lot_here", "_law_many", "_law_told", "_law_row_here"] ["_law_rule", "_law_lot_here", "_law_many"] (defScope s__law_good_shares) := ⟨rfl, rfl, rfl, by decide +kernel, rfl, by decide +kernel, by decide +kernel⟩
abbrev s__law_good_refusal : Stmt := top 42
theorem sc__law_good_refusal : FnScope ["_law_told", "_law_place"] ["_law_told", "_law_place"] (defScope s__law_good_refusal) := ⟨rfl, rfl, rfl, by decide +kernel, rfl, by decide +kernel, by decide +kernel⟩
abbrev s_law : Stmt := top 43
theorem sc_law : FnScope ["_law_script", "_law_first", "_law_many", "_law_wide_here", "_law_told", "_law_made_here", "_law_rule", "_law_lot_here", "_law_prices", "_law_passed", "_law_good", "_law_shares_here", "_law_gone", "_law_place", "_law_every", "_law_thing", "_law_k"] ["_law_script"] (defScope s_law) := ⟨rfl, rfl, rfl, by decide +kernel, rfl, by decide +kernel, by decide +kernel⟩

/-! ### mathematics of draws -/
def Within : List Int → List Int → Prop
  | [], [] => True
  | d :: ds, n :: ns => (0 ≤ d ∧ d < n) ∧ Within ds ns
  | _, _ => False
theorem Within.len : ∀ {ds ns : List Int}, Within ds ns → ds.length = ns.length
  | [], [], _ => rfl
  | _ :: ds, _ :: ns, h => by
    rw [List.length_cons, List.length_cons, Within.len h.2]
  | [], _ :: _, h => h.elim
  | _ :: _, [], h => h.elim
theorem Within.snoc : ∀ {ds ns : List Int} {d n : Int}, Within ds ns → 0 ≤ d → d < n → Within (ds ++ [d]) (ns ++ [n])
  | [], [], d, n, _, h0, h1 => ⟨⟨h0, h1⟩, True.intro⟩
  | _ :: ds, _ :: ns, d, n, h, h0, h1 => ⟨h.1, Within.snoc h.2 h0 h1⟩
  | [], _ :: _, _, _, h, _, _ => h.elim
  | _ :: _, [], _, _, h, _, _ => h.elim
theorem Within.step {ds ns : List Int} {d n : Int} {i : Nat} (h : Within ds (ns.take i)) (hi : ns[i]? = some n) (h0 : 0 ≤ d) (h1 : d < n) : Within (ds ++ [d]) (ns.take (i + 1)) := by
  rw [List.take_add_one, hi]
  exact h.snoc h0 h1
theorem Within.zero (ns : List Int) : Within [] (ns.take 0) := by
  rw [List.take_zero]
  exact True.intro
theorem Within.full {ds ns : List Int} (h : Within ds (ns.take ns.length)) : Within ds ns := by
  rw [List.take_length] at h
  exact h
theorem int_of {ns : List Int} {i : Nat} {x : V} (h : (ns.map V.int)[i]? = some x) : ∃ n, x = .int n ∧ ns[i]? = some n := by
  rw [List.getElem?_map] at h
  cases e : ns[i]? with
  | none =>
    rw [e] at h
    cases h
  | some z =>
    rw [e] at h
    exact ⟨z, (Option.some.inj h).symm, rfl⟩
theorem int_at {ns : List Int} {i : Nat} {n : Int} (h : ns[i]? = some n) : (ns.map V.int)[i]? = some (.int n) := by
  rw [List.getElem?_map, h]
  rfl
theorem snoc_int (ds : List Int) (d : Int) : ds.map V.int ++ [V.int d] = (ds ++ [d]).map V.int := by
  rw [List.map_append]
  rfl
theorem same_upd {H : Hp} {p : Addr} {o : HO} (h : H p = none) : Same H (upd H p o) := fun b x e => by
  rw [upd_ne (ne_of_none e h)]
  exact e
theorem same_mut {H H1 : Hp} {p : Addr} {o : HO} (s : Same H H1) (h : H p = none) : Same H (upd H1 p o) := fun b x e => by
  rw [upd_ne (ne_of_none e h)]
  exact s b x e
theorem same_tup {K : PySem.W.Frag} {H H' : Hp} {a : Addr} {xs : List V} (e : Same H H') (h : SqT K H a xs) : SqT K H' a xs := by
  rcases h with (h | ⟨o, h⟩) | h
  · exact .inl (.inl (e _ _ h))
  · exact .inl (.inr ⟨o, e _ _ h⟩)
  · exact .inr h
theorem w_div {j : Int} (h : 0 < j) (hb : j < 2 ^ 100) : CDivW 0 j := wide_div (b := 100) h (by omega) (by decide) (by decide)
theorem lst_l {K : PySem.W.Frag} {H : Hp} {a : Addr} {xs : List V} (h : H a = some (.lst xs)) : SqL K H a xs := .inl (.inl h)
theorem tup_t {K : PySem.W.Frag} {H : Hp} {a : Addr} {xs : List V} (h : H a = some (.tup xs)) : SqT K H a xs := .inl (.inl h)
theorem lc_yes {σ : L2.St} {H : Hp} {F : Bool → Hp → Prop} (h : F true H) : tYes σ H F := h
theorem Within.c {ds ns : List Int} {n : Int} (h : Within ds (n :: ns)) : ∃ d r, ds = d :: r ∧ 0 ≤ d ∧ d < n ∧ Within r ns := by
  cases ds with
  | nil => exact h.elim
  | cons d r => exact ⟨d, r, rfl, h.1.1, h.1.2, h.2⟩
theorem Within.n {ds : List Int} (h : Within ds []) : ds = [] := by
  cases ds with
  | nil => rfl
  | cons d r => exact h.elim
theorem kI : kitB "int" "int" = some true := by decide +kernel
theorem kB : kitB "int" "bool" = some false := by decide +kernel
theorem kT : kitB "tuple" "tuple" = some true := by decide +kernel

theorem cut_from (xs : List V) (k : Nat) : cutV xs (some (k : Int)) none = xs.drop k := by
  unfold cutV
  rw [HT.sIx_nat, HT.sIx_none]
  by_cases h : k ≤ xs.length
  · rw [Nat.min_eq_left h]
    exact List.take_of_length_le (by rw [List.length_drop]; exact Nat.le_refl _)
  · rw [Nat.min_eq_right (by omega), List.drop_of_length_le (Nat.le_refl _), List.drop_of_length_le (by omega), List.take_nil]
theorem cut_from1 (xs : List V) : cutV xs (some 1) none = xs.drop 1 := by
  unfold cutV
  rw [show HT.sIx xs.length 0 (some 1) = min 1 xs.length from HT.sIx_nat xs.length 0 1, HT.sIx_none]
  cases xs with
  | nil => rfl
  | cons x r =>
    rw [show min 1 (x :: r).length = 1 by
      rw [List.length_cons]
      omega]
    show (List.take ((x :: r).length - 1) r) = r
    rw [List.length_cons, Nat.add_sub_cancel]
    exact List.take_length
theorem big18 : (0 : Int) < 10 ^ 18 ∧ (10 : Int) ^ 18 < 2 ^ 100 := by decide
theorem cut_to (xs : List V) (k : Nat) : cutV xs none (some (k : Int)) = xs.take k := by
  unfold cutV
  rw [HT.sIx_none, HT.sIx_nat, List.drop_zero, Nat.sub_zero]
  by_cases h : k ≤ xs.length
  · rw [Nat.min_eq_left h]
  · rw [Nat.min_eq_right (by omega), List.take_of_length_le (Nat.le_refl _), List.take_of_length_le (by omega)]

theorem iteD {c A B : Prop} [Decidable c] (hc : c) (h : A) : if decide c = true then A else B := by
  rw [if_pos (decide_eq_true hc)]
  exact h
theorem iteDF {c A B : Prop} [Decidable c] (hc : ¬ c) (h : B) : if decide c = true then A else B := by
  rw [decide_eq_false hc]
  exact iteF h
/-! ### lowest terms -/
def rg (t b : Int) : Int := ((Nat.gcd t.natAbs b.natAbs : Nat) : Int)
def rd (t b : Int) : Int := if b < 0 then -(rg t b) else rg t b
def nT (t b : Int) : Int := t.fdiv (rd t b)
def nB (t b : Int) : Int := b.fdiv (rd t b)
/-- T over B is t over b in lowest terms -/
structure LowT (t b T B : Int) : Prop where
  pos : 0 < B
  eq : T * b = t * B
  leT : T.natAbs ≤ t.natAbs
  leB : B.natAbs ≤ b.natAbs
  cop : Nat.gcd T.natAbs B.natAbs = 1
theorem rg_pos {t b : Int} (h : b ≠ 0) : 0 < rg t b := by
  unfold rg
  have := Nat.gcd_pos_of_pos_right t.natAbs (Int.natAbs_pos.mpr h)
  omega
theorem rd_ne {t b : Int} (h : b ≠ 0) : rd t b ≠ 0 := by
  have := rg_pos (t := t) h
  unfold rd
  split <;> omega
theorem rd_abs (t b : Int) : (rd t b).natAbs = Nat.gcd t.natAbs b.natAbs := by
  unfold rd rg
  split <;> omega
theorem rd_dvd_t (t b : Int) : rd t b ∣ t := by
  rw [← Int.natAbs_dvd_natAbs, rd_abs]
  exact Nat.gcd_dvd_left ..
theorem rd_dvd_b (t b : Int) : rd t b ∣ b := by
  rw [← Int.natAbs_dvd_natAbs, rd_abs]
  exact Nat.gcd_dvd_right ..
theorem nT_mul {t b : Int} (h : b ≠ 0) : t = rd t b * nT t b := by
  obtain ⟨k, hk⟩ := rd_dvd_t t b
  have e : nT t b = k := by
    unfold nT
    conv => lhs; arg 1; rw [hk]
    exact Int.mul_fdiv_cancel_left k (rd_ne h)
  rw [e]
  exact hk
theorem nB_mul {t b : Int} (h : b ≠ 0) : b = rd t b * nB t b := by
  obtain ⟨k, hk⟩ := rd_dvd_b t b
  have e : nB t b = k := by
    unfold nB
    conv => lhs; arg 1; rw [hk]
    exact Int.mul_fdiv_cancel_left k (rd_ne h)
  rw [e]
  exact hk
theorem low {t b : Int} (h : b ≠ 0) : LowT t b (nT t b) (nB t b) := by
  have h1 := nT_mul (t := t) h
  have h2 := nB_mul (t := t) h
  have hg := rg_pos (t := t) h
  have hd := rd_ne (t := t) h
  have a1 : t.natAbs = (rd t b).natAbs * (nT t b).natAbs := by
    rw [← Int.natAbs_mul, ← h1]
  have a2 : b.natAbs = (rd t b).natAbs * (nB t b).natAbs := by
    rw [← Int.natAbs_mul, ← h2]
  have p : 0 < (rd t b).natAbs := Int.natAbs_pos.mpr hd
  refine ⟨?_, ?_, ?_, ?_, ?_⟩
  · by_cases hb : b < 0
    · have e : rd t b = -(rg t b) := if_pos hb
      rw [e] at h2
      by_cases hn : 0 < nB t b
      · exact hn
      · exfalso
        have : 0 ≤ -(rg t b) * nB t b := by
          rw [Int.neg_mul]
          have := Int.mul_nonneg (Int.le_of_lt hg) (show 0 ≤ -(nB t b) by omega)
          rw [Int.mul_neg] at this
          exact this
        omega
    · have e : rd t b = rg t b := if_neg hb
      rw [e] at h2
      by_cases hn : 0 < nB t b
      · exact hn
      · exfalso
        have := Int.mul_nonneg (Int.le_of_lt hg) (show 0 ≤ -(nB t b) by omega)
        rw [Int.mul_neg] at this
        omega
  · have e : nT t b * b = nT t b * (rd t b * nB t b) := congrArg (nT t b * ·) h2
    have e2 : t * nB t b = rd t b * nT t b * nB t b := congrArg (· * nB t b) h1
    rw [e, e2, ← Int.mul_assoc, Int.mul_comm (nT t b)]
  · rw [a1]
    exact Nat.le_mul_of_pos_left _ p
  · rw [a2]
    exact Nat.le_mul_of_pos_left _ p
  · have g := rd_abs t b
    rw [a1, a2, Nat.gcd_mul_left] at g
    have : (rd t b).natAbs * 1 = (rd t b).natAbs * Nat.gcd (nT t b).natAbs (nB t b).natAbs := by
      rw [Nat.mul_one]
      have e1 := congrArg Int.natAbs h1
      have e2 := congrArg Int.natAbs h2
      rw [Int.natAbs_mul] at e1 e2
      exact g
    exact (Nat.eq_of_mul_eq_mul_left p this).symm
theorem low_uniq {t b T B T' B' : Int} (hb : b ≠ 0) (h : LowT t b T B) (h' : LowT t b T' B') : T = T' ∧ B = B' := by
  have e : T * B' = T' * B := by
    have h1 : T * B' * b = T' * B * b := by
      have x1 : T * B' * b = (T * b) * B' := by rw [Int.mul_assoc, Int.mul_comm B', ← Int.mul_assoc]
      have x2 : T' * B * b = (T' * b) * B := by rw [Int.mul_assoc, Int.mul_comm B, ← Int.mul_assoc]
      rw [x1, x2, h.eq, h'.eq, Int.mul_assoc, Int.mul_assoc, Int.mul_comm B]
    exact Int.eq_of_mul_eq_mul_right hb h1
  have n : T.natAbs * B'.natAbs = T'.natAbs * B.natAbs := by
    rw [← Int.natAbs_mul, ← Int.natAbs_mul, e]
  have d1 : B.natAbs ∣ B'.natAbs := by
    have : B.natAbs ∣ T.natAbs * B'.natAbs := n ▸ Nat.dvd_mul_left ..
    exact (Nat.Coprime.symm h.cop).dvd_of_dvd_mul_left this
  have d2 : B'.natAbs ∣ B.natAbs := by
    have : B'.natAbs ∣ T'.natAbs * B.natAbs := n ▸ Nat.dvd_mul_left ..
    exact (Nat.Coprime.symm h'.cop).dvd_of_dvd_mul_left this
  have eb : B.natAbs = B'.natAbs := Nat.dvd_antisymm d1 d2
  have p := h.pos
  have p' := h'.pos
  have eB : B = B' := by omega
  subst eB
  exact ⟨Int.eq_of_mul_eq_mul_right (by omega) e, rfl⟩
/-! ### Euclid's turns -/
/-- ahead of turn i; g the greatest common divisor, the first product below 6 ^ m -/
structure Eu (g m i : Nat) (a b : Nat) : Prop where
  gc : Nat.gcd a b = g
  pot : (i = 0 ∧ a * b < 6 ^ m) ∨ (∃ j, i = 2 * j + 1 ∧ b ≤ a ∧ 0 < a ∧ a * b * 6 ^ j < 6 ^ m) ∨ (∃ j, i = 2 * j + 2 ∧ b ≤ a ∧ 0 < a ∧ (a + b) * a * 6 ^ j < 6 ^ m)
theorem eu_zero {g m i a : Nat} (h : Eu g m i a 0) : a = g := by
  have := h.gc
  rw [Nat.gcd_zero_right] at this
  exact this
theorem six_br {a b r : Nat} (h : b + r ≤ a) (hr : r ≤ b) : b * r * 6 ≤ (a + b) * a := by
  obtain ⟨c, rfl⟩ : ∃ c, b = r + c := ⟨b - r, by omega⟩
  have h1 : (r + c + r + (r + c)) * (r + c + r) ≤ (a + (r + c)) * a := Nat.mul_le_mul (by omega) h
  refine Nat.le_trans ?_ h1
  have e1 : (r + c) * r * 6 = 6 * (r * r) + 6 * (c * r) := by
    rw [Nat.add_mul]
    omega
  have e2 : (r + c + r + (r + c)) * (r + c + r) = 6 * (r * r) + 7 * (c * r) + 2 * (c * c) := by
    have : r + c + r + (r + c) = 3 * r + 2 * c := by omega
    rw [this]
    have : r + c + r = 2 * r + c := by omega
    rw [this, Nat.add_mul, Nat.mul_add, Nat.mul_add]
    have q1 : 3 * r * (2 * r) = 6 * (r * r) := by
      rw [Nat.mul_mul_mul_comm]
    have q2 : 3 * r * c = 3 * (c * r) := by
      rw [Nat.mul_assoc, Nat.mul_comm r c]
    have q3 : 2 * c * (2 * r) = 4 * (c * r) := by
      rw [Nat.mul_mul_mul_comm]
    have q4 : 2 * c * c = 2 * (c * c) := Nat.mul_assoc ..
    rw [q1, q2, q3, q4]
    omega
  omega
theorem eu_step {g m i a b : Nat} (h : Eu g m i a b) (hb : 0 < b) : Eu g m (i + 1) b (a % b) := by
  have hr : a % b < b := Nat.mod_lt a hb
  refine ⟨?_, ?_⟩
  · rw [← h.gc, Nat.gcd_comm a b, Nat.gcd_rec b a, Nat.gcd_comm]
  · rcases h.pot with ⟨rfl, p⟩ | ⟨j, rfl, hle, _, p⟩ | ⟨j, rfl, hle, _, p⟩
    · refine .inr (.inl ⟨0, by omega, by omega, hb, ?_⟩)
      rw [Nat.pow_zero, Nat.mul_one]
      refine Nat.lt_of_le_of_lt ?_ p
      rw [Nat.mul_comm]
      exact Nat.mul_le_mul_right _ (Nat.mod_le a b)
    · refine .inr (.inr ⟨j, by omega, by omega, hb, ?_⟩)
      refine Nat.lt_of_le_of_lt (Nat.mul_le_mul_right _ ?_) p
      have e := Nat.div_add_mod a b
      have q : 1 ≤ a / b := Nat.div_pos hle hb
      have : b * 1 ≤ b * (a / b) := Nat.mul_le_mul_left b q
      exact Nat.mul_le_mul (by omega) (Nat.le_refl b)
    · refine .inr (.inl ⟨j + 1, by omega, by omega, hb, ?_⟩)
      refine Nat.lt_of_le_of_lt ?_ p
      have e := Nat.div_add_mod a b
      have q : 1 ≤ a / b := Nat.div_pos hle hb
      have q2 : b * 1 ≤ b * (a / b) := Nat.mul_le_mul_left b q
      have s := six_br (a := a) (b := b) (r := a % b) (by omega) (by omega)
      rw [Nat.pow_succ, Nat.mul_comm (6 ^ j) 6, ← Nat.mul_assoc]
      exact Nat.mul_le_mul_right _ s
theorem eu_end {g m n a b : Nat} (h : Eu g m (2 * n + 2) a b) (hm : m ≤ n) : False := by
  rcases h.pot with ⟨h0, _⟩ | ⟨j, hj, _⟩ | ⟨j, hj, _, ha, p⟩
  · omega
  · omega
  · have e : j = n := by omega
    subst e
    have h1 : 1 * 6 ^ m ≤ (a + b) * a * 6 ^ j := Nat.mul_le_mul (Nat.mul_pos (by omega) ha) (Nat.pow_le_pow_right (by decide) hm)
    omega
open NdefX (NScope ncx startF CellsAt inv_startN)
open ClX (pin_new pin_at base_none unpinE)

/-! ### own classes and errors: rules that the layer lacks -/
section
variable {X : Cx}
/-- a field's read, its K by another name -/
theorem pe_fldK {K : PySem.W.Frag} {e : Expr} {f : Str} {pos : Pos} {ta : TE} (he : PE X e ta) (hb : attributeBase e f X.env (eval e X.env) = eval e X.env) (hK : X.K = K := by rfl) : PE X (.Attribute e f pos) (tFld K ta f) := by
  subst hK
  exact pe_fld he hb
/-- floor division by a divisor of either sign -/
def CDivWN (_ j : Int) : Prop := j ≠ 0 ∧ j.natAbs.log2 < 9000
theorem op_fdivWN : OpR X (binaryOp .FloorDiv) (rI CDivWN fun i j => .int (i.fdiv j)) := opI fun _ _ _ _ _ _ _ c k => floordiv_int c.1 k (.inl (PyProof.noPylong_of_log2 c.2))
/-- a new instance whose __init__ may let an error out, wished for at the slots that stand -/
theorem made_at {CX : CXT} {n : Nat} {g D : Addr} {gd : FuncData} {qs : List Str} {pr : Sp} {Ex : L2.St → XK} {us0 : List Value} {vs0 : List V} {pn : List (Addr × Obj)} {τ : L2.St} {H0 : Hp} {st : Shared} {W : VK} {as : List Value} {xs : List V}
    (MK : Mk X.K D g) (OK : FnOk X.prog X.w X.K X.mg X.base CX n g gd qs pr) (room : Room (n + 1) X.A) (bd : Binds X.K gd qs us0) (dv : Vals vs0 us0) (out : PassesAt CX X τ (Ex τ)) (J : Inv X pn τ H0 st) (rel : Vals xs as)
    (go : ∀ p q, H0 p = none → H0 q = none → q ≠ p → pr (.ref p :: (xs ++ vs0)) (upd (upd H0 q (.own p)) p (.ins D q [])) (fun v H2 => v = .non ∧ W (.ref p) H2) (Ex τ)) :
    wpAny (model X.prog X.w) X.A (call (.ref D) as) (EP X pn τ W) X.xe st := by
  have new1 := J.hok.fresh (Nat.le_succ st.heap.objs.size)
  have new2 := J.hok.fresh (Nat.le_refl st.heap.objs.size)
  have asked := go _ _ new1 new2 (Nat.ne_of_lt (Nat.lt_succ_self _))
  have J2 := Inv.made (C := D) J
  have rel2 : Vals (V.ref (st.heap.objs.size + 1) :: (xs ++ vs0)) (Value.ref (st.heap.objs.size + 1) :: (as ++ us0)) :=
    .cons rfl (rel.append dv)
  have len2 : (Value.ref (st.heap.objs.size + 1) :: as ++ us0).length = qs.length := (rel2.length.symm).trans (OK.len _ _ _ _ asked)
  have env2 := J2.env0.make D as []
  have bound := bd _ (Value.ref (st.heap.objs.size + 1) :: as) J2.kIn len2
  have ran := OK.run _ X.stack _ _ _ _ _ _ (Ex τ) (room.make D as []) env2 bound rel2 asked
  refine wpAny_call (make_map (f := g) J.kIn MK.makes MK.init (beq_iff_eq.mp MK.fn) (codeAny_mono ran ?_))
  rintro (e | fl) s' back
  · exact out pn _ _ e s' J2 back
  · cases fl with
    | ret u =>
      obtain ⟨v, H', J3, rv, rfl, w3⟩ := J2.after back
      exact ⟨rv, V.ref (st.heap.objs.size + 1), _, J3, rfl, w3⟩
    | next => exact back.elim
    | brk => exact back.elim
    | cont => exact back.elim
def tMakeS (D : Addr) (pr : Sp) (vs0 : List V) (Ex : L2.St → XK) (t : TA) : TE := fun τ H Q => t τ H fun xs H1 => ∀ p q, H1 p = none → H1 q = none → q ≠ p →
  pr (.ref p :: (xs ++ vs0)) (upd (upd H1 q (.own p)) p (.ins D q [])) (fun v H2 => v = .non ∧ Q (.ref p) H2) (Ex τ)
theorem pe_makeS {CX : CXT} {n : Nat} {g D : Addr} {gd : FuncData} {qs : List Str} {pr : Sp} {Ex : L2.St → XK} {us0 : List Value} {vs0 : List V} {x : Str} {p pos : Pos} {e : Expr} {es : List Expr} {t : TA}
    (MK : Mk X.K D g) (OK : FnOk X.prog X.w X.K X.mg X.base CX n g gd qs pr) (room : Room (n + 1) X.A) (gl : Gl X x) (at_ : X.mg x = some (.ref D)) (bd : Binds X.K gd qs us0) (dv : Vals vs0 us0) (out : ∀ τ, PassesAt CX X τ (Ex τ)) (args : PA X (e :: es) t)
    (plain : (x == ("__debug__" : Str)) = false := by decide) (first : starEach (e :: es) X.env = (false, eval e X.env) :: starEach es X.env := by rfl) (noStar : (backTo pos (starEach es X.env)).any (·.1) = false := by rfl) :
    PE X (.Call (.Name x p) (e :: es) [] pos) (tMakeS D pr vs0 Ex t) :=
  ⟨fun pn s τ H Q J h => wpAny_Call_Name_kw (ld_glob J gl at_ (PySem.W.callWith_K (h₀ := X.base) J.ok.mod.kin MK.kp (thn (args.run pos pn s τ H _ J h) fun _ _ ⟨_, _, J1, rel, go⟩ => ⟨J1.kIn, made_at MK OK room bd dv (out τ) J1 rel go⟩) first noStar) plain)⟩
/-- isinstance(e, c) in a suite, e the error that it holds (of an own class at D, without a dict of its own) -/
def rIsX (K : PySem.W.Frag) (a : Addr) (cls : Value) (d : Option Addr) : List V → Hp → VK → Prop := fun xs H Q => ∃ D : Addr, ExcC K D ∧ cls = .ref D ∧ d = none ∧ rIsE K D a xs H Q
theorem call_isX {K : PySem.W.Frag} {a : Addr} {cls : Value} {d : Option Addr} {oe : Obj} {pn : List (Addr × Obj)} (hz : Zc cls d oe) (hf : ∃ vs, oe.data = .fields vs) (hK : X.K = K := by rfl) :
    CallR (X.suite a ((a, oe) :: pn)) (.builtin "isinstance") (rIsX K a cls d) := by
  intro pins s σ H xs us Q I r h
  subst hK
  obtain ⟨D, ec, rfl, rfl, h⟩ := h
  exact call_isE ec hz hf pins s σ H xs us Q I r h
end
theorem lk_one {k : Str} {v : V} {r : List (Str × V)} : List.lookup k ((k, v) :: r) = some v := by
  simp [List.lookup]
theorem lk_two {k g : Str} {v : V} {r : List (Str × V)} (h : (k == g) = false) : List.lookup k ((g, v) :: r) = List.lookup k r := by
  simp only [List.lookup, h]

/-! ### super().__init__(e, ..) as a method's first statement -/
theorem inst_of' {X : Cx} {pins : List (Addr × Obj)} {σ : L2.St} {H : Hp} {s : Shared} {a C dx : Addr} {fs : List (Str × V)} (I : Inv X pins σ H s) (e : H a = some (.ins C dx fs)) :
    s.heap.get? a = some (PySem.W.instObj C dx) ∧ ∃ od, PySem.W.InstAt s.heap a (PySem.W.instObj C dx) C (some od) := by
  obtain ⟨mA, O, _⟩ := ins_get I.hok e
  obtain ⟨od, J, _⟩ := O.look
  exact ⟨O.obj, od, J⟩
/-- what the top has written of a class D above which super() looks, for an instance of the class C: the function g at the name -/
structure SupC (K : PySem.W.Frag) (mg : Str → Option Value) (C D cc cda g : Addr) (file : Str) : Prop where
  isD : ∃ cd, PySem.W.clsIn K D = some cd
  sub : PySem.W.mroIn K C (.ref D) = some true
  cell : ∃ cl cld csl, K.lookup cc = some ⟨cl, cld, .cell (some (.ref D)), csl⟩
  code : ∃ ccl cdd vs ccs tf, K.lookup cda = some ⟨ccl, cdd, .fields vs, ccs⟩ ∧ vs[2]? = some (.str file tf)
  sup : PySem.W.ks_superIn K C D "__init__" = some (some (.ref g))
  tg : PySem.W.typeIn K (.ref g) = some (.type "function")
  fg : PySem.W.fnIn K g = true
  opq : PySem.W.nsIn K cStatics "thirdparty.any" = some none
  nosup : mg "super" = none
section
variable {CX : CXT} {P : Program} {w : World} {K : PySem.W.Frag} {mg : Str → Option Value} {base : Heap} {k j : Nat} {f g cc cda C D : Addr} {name qual : Str} {params : Arguments} {scope : Scope} {dV kV doc pm ct oc : Value} {an od : Option Addr}
  {osl : Array (Option Value)} {N ps qs : List Str} {sp si : Sp} {gd : FuncData} {e : Expr} {es : List Expr} {rest : List Stmt} {p0 p1 p2 p3 p4 : Pos} {ar : Arg} {pl : Sem Bool}
abbrev supSt (p0 p1 p2 p3 p4 : Pos) (es : List Expr) : Stmt := .Expr (.Call (.Attribute (.Call (.Name "super" p0) [] [] p1) "__init__" p2) es [] p3) p4
theorem fn_super {file : Str} (lk : K.lookup f = some ⟨oc, od, .func (PySem.W.ksFn name qual params (supSt p0 p1 p2 p3 p4 (e :: es) :: rest) scope dV kV doc pm an (.ref cda) ct cc), osl⟩) (hcd : PySem.W.codeIn K (.ref cda) qual = true) (S : NScope N ps ["__class__"] scope)
    (SC : SupC K mg C D cc cda g file) (hfile : ((P.main.file : Str) == file) = true) (htop : (P.main.scope.names.lookup ("super" : Str)).isSome = false) (hpar : (params.posonlyargs ++ params.args).head? = some ar) (hN : N[0]? = some ar.arg) (hka : scope.names.lookup ar.arg = some .local)
    (hks : scope.names.lookup ("super" : Str) = some .globalImplicit) (hkc : scope.names.lookup ("__class__" : Str) = some .free)
    (len : ∀ vs H Q E, sp vs H Q E → vs.length = ps.length) (G : FnOk P w K mg base CX j g gd qs si) (bd : Binds K gd qs []) (hj : j ≤ k)
    (hi : ∀ L, interactive (PySem.W.ksEnv qual scope L f (.ref cda) cc) = false)
    (hsw : ∀ L, swapsWith (.Call (.Attribute (.Call (.Name "super" p0) [] [] p1) "__init__" p2) (e :: es) [] p3) none p4.line (PySem.W.ksEnv qual scope L f (.ref cda) cc) = pure false)
    (hev : ∀ L, eval (.Call (.Attribute (.Call (.Name "super" p0) [] [] p1) "__init__" p2) (e :: es) [] p3) (PySem.W.ksEnv qual scope L f (.ref cda) cc) = (do
      let ov ← attributeBase (.Call (.Name "super" p0) [] [] p1) "__init__" (PySem.W.ksEnv qual scope L f (.ref cda) cc) (eval (.Call (.Name "super" p0) [] [] p1) (PySem.W.ksEnv qual scope L f (.ref cda) cc))
      standAt p2.atName
      let (f', first) ← holding [ov] (getMethod ov "__init__" pl)
      callWith p3 f' first (backTo p3 (starEach (e :: es) (PySem.W.ksEnv qual scope L f (.ref cda) cc))) []))
    (hst : ∀ L, starEach (e :: es) (PySem.W.ksEnv qual scope L f (.ref cda) cc) = (false, eval e (PySem.W.ksEnv qual scope L f (.ref cda) cc)) :: starEach es (PySem.W.ksEnv qual scope L f (.ref cda) cc))
    (hpl : ∀ L, (backTo p3 (starEach es (PySem.W.ksEnv qual scope L f (.ref cda) cc))).any (·.1) = false)
    (hbody : ∀ (A : Around) (outer : List Env) (s : Shared) (H : Hp) (vs : List V) (Q : VK) (E : XK), Room k (A.deeper (PySem.W.ksEnv qual scope s.heap.objs.size f (.ref cda) cc)) → sp vs H Q E →
      ∃ (ta : TA) (tr : TS) (a dx : Addr) (fs : List (Str × V)) (us0 : List V) (Ei : XK),
        PA (ncx CX P w K mg base N ⟨name, qual, params, supSt p0 p1 p2 p3 p4 (e :: es) :: rest, scope, [("__class__", cc)], cda⟩ f A outer s H E) (e :: es) ta ∧
        PSs (ncx CX P w K mg base N ⟨name, qual, params, supSt p0 p1 p2 p3 p4 (e :: es) :: rest, scope, [("__class__", cc)], cda⟩ f A outer s H E) rest tr ∧
        Passes CX (ncx CX P w K mg base N ⟨name, qual, params, supSt p0 p1 p2 p3 p4 (e :: es) :: rest, scope, [("__class__", cc)], cda⟩ f A outer s H E) Ei ∧ vs = .ref a :: us0 ∧ H a = some (.ins C dx fs) ∧
        ta (startF N vs [none]) H (fun ws H1 => si (.ref a :: ws) H1 (fun _ H2 => tr { nx := fun _ H' => Q .non H', rt := Q } (startF N vs [none]) H2) Ei)) :
    FnOk P w K mg base CX (k + 1) f (PySem.W.ksFn name qual params (supSt p0 p1 p2 p3 p4 (e :: es) :: rest) scope dV kV doc pm an (.ref cda) ct cc) ps sp := by
  refine ⟨len, fun A outer s H args us vs Q E hr e0 hb r asked => ?_⟩
  have hl := len _ _ _ _ asked
  have kb : ∀ b o, base.get? b = some o → s.heap.get? b = some o := fun b o z => (e0.bs b o z).1
  have KX : K.In s.heap := e0.mod.kin.keeps kb
  have lim : s.heap.NoLimit := e0.mod.nolimit.keeps kb
  obtain ⟨cl, cld, csl, hcell⟩ := SC.cell
  obtain ⟨ccl, cdd, fv, ccs, tf, hcode, hfv⟩ := SC.code
  obtain ⟨cdD, hD⟩ := SC.isD
  have C0 : CellsAt [("__class__", cc)] ["__class__"] [none] s.heap H := by
    refine ⟨rfl, fun y c z => ?_, fun y z c h1 h2 => ?_, fun i y z => ?_⟩
    · have hc : c = cc := by
        simp only [List.lookup] at z
        split at z
        · exact (Option.some.inj z).symm
        · cases z
      subst hc
      exact ⟨(e0.bs _ _ (e0.mod.kin _ _ hcell)).2, _, _, KX _ _ hcell, rfl⟩
    · have one : ∀ {t : Str}, [(("__class__" : Str), cc)].lookup t = some c → t = "__class__" := fun {t} h => by
        simp only [List.lookup] at h
        split at h
        · exact beq_iff_eq.mp (by assumption)
        · cases h
      rw [one h1, one h2]
    · have hy : y = "__class__" := by
        cases i with
        | zero => simpa using z.symm
        | succ n => simp at z
      subst hy
      exact ⟨cc, rfl, fun v h => by cases i <;> simp at h⟩
  refine ks_codeAny_call_defAt (fd := PySem.W.ksFn name qual params (supSt p0 p1 p2 p3 p4 (e :: es) :: rest) scope dV kV doc pm an (.ref cda) ct cc) (body := supSt p0 p1 p2 p3 p4 (e :: es) :: rest) (binds := ps.zip us) hr.depth (KX _ _ lk) rfl lim (PySem.W.codeRec_of KX hcd) rfl hb S.nocell (fun ⟨n, _⟩ hy => S.par n (List.of_mem_zip hy).1) (fun h₁ hns kp => ?_) S.co S.gen S.kind
  obtain ⟨ta, tr, a, dx, fs, us0, Ei, hpa, hps, hpass, ev, ha, hq⟩ := hbody A outer s H vs Q E (hr.deeper _) asked
  subst ev
  have I : Inv (ncx CX P w K mg base N ⟨name, qual, params, supSt p0 p1 p2 p3 p4 (e :: es) :: rest, scope, [("__class__", cc)], cda⟩ f A outer s H E) [] (startF N (.ref a :: us0) [none]) H { s with heap := h₁, toks := s.toks + (ps.zip us).length } := inv_startN (F := ⟨name, qual, params, supSt p0 p1 p2 p3 p4 (e :: es) :: rest, scope, [("__class__", cc)], cda⟩) S hr.hd e0 hl r C0 hns kp
  generalize hX : ncx CX P w K mg base N ⟨name, qual, params, supSt p0 p1 p2 p3 p4 (e :: es) :: rest, scope, [("__class__", cc)], cda⟩ f A outer s H E = X at I hpa hps hpass
  have hXr := hX
  subst hX
  have rm := hr.deeper (PySem.W.ksEnv qual scope s.heap.objs.size f (.ref cda) cc)
  show PySem.wpAt (model P w) (A.deeper (PySem.W.ksEnv qual scope s.heap.objs.size f (.ref cda) cc)) (.func (supSt p0 p1 p2 p3 p4 (e :: es) :: rest) (PySem.W.ksEnv qual scope s.heap.objs.size f (.ref cda) cc)) (execs (supSt p0 p1 p2 p3 p4 (e :: es) :: rest) (PySem.W.ksEnv qual scope s.heap.objs.size f (.ref cda) cc)) _ _ _
  refine ks_wpAt_execs_cons (ks_wpAt_Expr_any (ks_wpAt_MethodCall (pl := pl) ?_ (hev _)) (hi _) (hsw _))
  have KI := I.kIn
  refine ks_wpAt_super_base (env := PySem.W.ksEnv qual scope s.heap.objs.size f (.ref cda) cc) hks hkc (by decide) rfl (KI _ _ lk) rfl hpar rfl (KI _ _ hcode) rfl hfv hfile htop ?_
  obtain ⟨mb, hb1, hb2⟩ := I.mod.blt
  refine PySem.W.ks_loadName_global S.kind hks (Calls.loadGlobal_builtin (env := PySem.W.ksEnv qual scope s.heap.objs.size f (.ref cda) cc) (I.mod.glob.keeps I.bk) SC.nosup (hb1.keeps I.bk) ((hb2 "super" (by decide)).trans (by rfl)) ⟨rfl, ?_⟩)
  refine wpAny_loadName_free S.kind hkc rfl ⟨_, KI _ _ hcell, rfl⟩ ?_
  obtain ⟨m, hn, hl'⟩ := I.loc
  obtain ⟨u, ru, lku⟩ := hl' 0 ar.arg (.ref a) hN rfl (.inl hka)
  cases (show u = Value.ref a from ru)
  have hmu : m ar.arg = some (.ref a) := by
    rcases lku with ⟨_, z⟩ | ⟨z, _⟩
    · exact z
    · have hk' : scope.names.lookup ar.arg = some .cell ∨ scope.names.lookup ar.arg = some .free := z
      rw [hka] at hk'
      rcases hk' with z | z <;> cases z
  refine wpAny_loadName_local S.kind hka hn hmu ?_
  obtain ⟨oD, hD1, hD2⟩ : ∃ oD, h₁.get? D = some oD ∧ oD.data = .cls cdD := by
    unfold PySem.W.clsIn at hD
    split at hD
    · rename_i c d cd' sl ho
      cases hD
      exact ⟨_, KI _ _ ho, rfl⟩
    · cases hD
  refine ks_wpAny_isType_cls hD1 hD2 (And.intro rfl ?_)
  obtain ⟨hoa, oda, J⟩ := inst_of' I ha
  refine ks_wpAny_call_super hD1 hD2 J.at_ J.cls (fun c z => ?_) (PySem.W.looks_mroIn KI SC.sub) (fun h2 e2 k2 => ?_)
  · have := J.no
    unfold PySem.W.notCls at this
    rw [z] at this
    exact Bool.noConfusion this
  have I2 := I.kept (h' := h2) (t' := s.toks + (ps.zip us).length) k2
  have K2 := I2.kIn
  obtain ⟨hoa2, oda2, J2⟩ := inst_of' I2 ha
  have sup := SC.sup
  unfold PySem.W.ks_superIn at sup
  cases hc : PySem.W.clsIn K C with
  | none => rw [hc] at sup; cases sup
  | some cdC =>
  rw [hc] at sup
  obtain ⟨og, hog, hogc⟩ : ∃ og, h2.get? g = some og ∧ og.cls = .type "function" := by
    have ht' : (K.lookup g).map (·.cls) = some (.type "function") := SC.tg
    cases z : K.lookup g with
    | none =>
      rw [z] at ht'
      cases ht'
    | some og =>
      rw [z] at ht'
      exact ⟨og, K2 _ _ z, Option.some.inj ht'⟩
  refine ks_wpAny_getMethod_super e2 (PySem.W.looks_opaque K2 SC.opq) (l₀ := cdC.mro) (fun A Q E s k q => wpAny_bind ((PySem.W.looks_clsIn K2 hc) A _ E s k (wpAny_pure q))) rfl K2 sup hog hogc (PySem.W.ks_ne K2 J2 hc) (by decide) ?_
  have I3 : Inv (ncx CX P w K mg base N ⟨name, qual, params, supSt p0 p1 p2 p3 p4 (e :: es) :: rest, scope, [("__class__", cc)], cda⟩ f A outer s H E) [(h2.objs.size, PySem.W.methodObj (.ref g) (.ref a))] (startF N (.ref a :: us0) [none]) H ⟨h2.push (PySem.W.methodObj (.ref g) (.ref a)), s.gens, s.drawn, s.toks + (ps.zip us).length + 1, s.os⟩ :=
    pin_new (s := ⟨h2, s.gens, s.drawn, s.toks + (ps.zip us).length, s.os⟩) I2 (fun _ _ z => Heap.get?_push_of_some _ z) (Nat.le_refl _) (Heap.get?_push_size h2 rfl) (fun v z => nomatch z)
  have hbq : base.get? h2.objs.size = none := base_none I2 (Nat.le_refl _)
  have hL : h2.objs.size ≠ s.heap.objs.size := (I3.pin (h2.objs.size, PySem.W.methodObj (.ref g) (.ref a)) (List.mem_append_right _ List.mem_cons_self)).2.2.1
  refine PySem.W.callWith_M (K := K) (h₀ := base) (first := []) e0.mod.kin (news_at hL hbq (pin_at I3)) List.mem_cons_self SC.fg ?_ (hst _) (hpl _)
  refine wpAny_mono (hpa.run p3 _ _ _ H _ I3 hq) (fun ws s4 h4 => ?_) fun _ _ z => z
  obtain ⟨vs4, H4, I4, r4, q4⟩ := h4
  refine ⟨⟨pin_at I4, I4.kIn⟩, ?_⟩
  have lenq : (Value.ref a :: ws).length = qs.length := by
    have z := G.len _ _ _ _ q4
    rw [← z, List.length_cons, List.length_cons, r4.length]
  have bound := bd s4 (Value.ref a :: ws) I4.kIn (by rw [List.append_nil]; exact lenq)
  rw [List.append_nil] at bound
  have rm' : Room k (A.deeper (PySem.W.ksEnv qual scope s.heap.objs.size f (.ref cda) cc)) := hr.deeper _
  refine wpAny_mono (Q := fun u s' => EP (ncx CX P w K mg base N ⟨name, qual, params, supSt p0 p1 p2 p3 p4 (e :: es) :: rest, scope, [("__class__", cc)], cda⟩ f A outer s H E) [(h2.objs.size, PySem.W.methodObj (.ref g) (.ref a))] (startF N (.ref a :: us0) [none]) (fun _ H2 => tr { nx := fun _ H' => Q .non H', rt := Q } (startF N (.ref a :: us0) [none]) H2) u s')
    (wpAny_call (PySem.W.method_call (pin_at I4) (codeAny_mono (G.run _ _ s4 H4 ⟨Value.ref a :: ws, []⟩ (Value.ref a :: ws) (.ref a :: vs4) _ Ei (rm'.mono hj) I4.env0 bound (.cons rfl r4) q4) fun rr s' back => ?_))) (fun u s5 h5 => ?_) fun _ _ z => z
  · cases rr with
    | error er => exact hpass _ _ _ _ er s' I4 back
    | ok fl =>
      cases fl with
      | ret u => exact I4.after back
      | next => exact back.elim
      | brk => exact back.elim
      | cont => exact back.elim
  · obtain ⟨v5, H5, I5, _, q5⟩ := unpinE h5
    refine PySem.wpAt_of_wpAny ?_
    refine wpAny_mono (hps.run [] _ _ H5 _ I5 q5) (fun fl s' hs => ?_) fun er s' hs => hs
    have last : ∀ {τ : L2.St} {G' : Hp} {x : V} {y : Value}, Inv (ncx CX P w K mg base N ⟨name, qual, params, supSt p0 p1 p2 p3 p4 (e :: es) :: rest, scope, [("__class__", cc)], cda⟩ f A outer s H E) [] τ G' s' → L2.RelV x y → Q x G' → CE outer P w H s Q y s' :=
      fun {_ G' x _} Z rel z => ⟨x, G', Z.os, Z.bare, Z.base, Z.hok, rel, z⟩
    cases fl with
    | next =>
      obtain ⟨_, _, Z, z⟩ := hs
      exact last (x := V.non) (y := Value.none) Z rfl z
    | ret y =>
      obtain ⟨_, _, _, Z, rel, z⟩ := hs
      exact last Z rel z
    | brk => exact hs.elim fun _ ⟨_, _, z⟩ => z.elim
    | cont => exact hs.elim fun _ ⟨_, _, z⟩ => z.elim
end
/-- such a method as the top has written it: cc the cell of its class, cda its code -/
def FunS (K : PySem.W.Frag) (name qual : Str) (st : Stmt) (cc cda f : Addr) (fd : FuncData) : Prop :=
  (∃ (oc : Value) (od : Option Addr) (kV doc pm : Value) (an : Option Addr) (ct : Value) (osl : Array (Option Value)), fd = PySem.W.ksFn name qual (defArgs st) (defBody st) (defScope st) .none kV doc pm an (.ref cda) ct cc ∧
    K.lookup f = some ⟨oc, od, .func fd, osl⟩ ∧ PySem.W.codeIn K (.ref cda) qual = true) ∧ PySem.W.keepIn K (.ref f) = true
theorem FunS.binds {K : PySem.W.Frag} {name qual : Str} {st : Stmt} {cc cda f : Addr} {fd : FuncData} {ps : List Str} (F : FunS K name qual st cc cda f fd)
    (h : ∀ (kV doc pm : Value) (an : Option Addr) (ct : Value) (us : List Value), us.length = ps.length → bindArgs (PySem.W.ksFn name qual (defArgs st) (defBody st) (defScope st) .none kV doc pm an (.ref cda) ct cc) ⟨us, []⟩ = pure (ps.zip us)) : Binds K fd ps [] := by
  obtain ⟨⟨oc, od, kV, doc, pm, an, ct, osl, rfl, _, _⟩, _⟩ := F
  exact .all (h kV doc pm an ct)

/-! ### isinstance of a caught error, with or without fields -/
section
variable {X : Cx}
def rIsY (K : PySem.W.Frag) (a : Addr) (cls : Value) (d : Option Addr) : List V → Hp → VK → Prop := fun xs H Q => ∃ D : Addr, ExcC K D ∧ cls = .ref D ∧ (d = none ∨ ∃ dd fs, d = some dd ∧ H dd = some (.xd fs)) ∧ rIsE K D a xs H Q
theorem call_isY {K : PySem.W.Frag} {a : Addr} {cls : Value} {d : Option Addr} {oe : Obj} {pn : List (Addr × Obj)} (hz : Zc cls d oe) (hf : ∃ vs, oe.data = .fields vs) (hK : X.K = K := by rfl) :
    CallR (X.suite a ((a, oe) :: pn)) (.builtin "isinstance") (rIsY K a cls d) := by
  intro pins s σ H xs us Q I r h
  subst hK
  obtain ⟨D, ec, rfl, hd, h⟩ := h
  rcases hd with rfl | ⟨dd, fs, rfl, hdd⟩
  · exact call_isE ec hz hf pins s σ H xs us Q I r h
  · obtain ⟨c, cv, b, rfl, same, known, q⟩ := h
    obtain ⟨w1, ws, rfl, r1, rs⟩ : ∃ w1 ws, us = w1 :: ws ∧ RelV (.ref a) w1 ∧ Vals [c] ws := by
      cases r with
      | cons p t => exact ⟨_, _, rfl, p, t⟩
    obtain ⟨w2, rfl, r2⟩ : ∃ w2, ws = [w2] ∧ RelV c w2 := by
      cases rs with
      | cons p t =>
        cases t
        exact ⟨_, rfl, p⟩
    cases (show w1 = Value.ref a from r1)
    cases same _ r2
    obtain ⟨there, _⟩ := I.pin (a, oe) (List.mem_append.mpr (.inl List.mem_cons_self))
    obtain ⟨vs, hv⟩ := hf
    obtain ⟨mA, ns, _⟩ := (show ObjOk X.prog X.w H s.heap dd (.xd fs) from I.hok dd _ hdd)
    obtain ⟨od, ho, _⟩ := lookIn_ns ns
    have J : PySem.W.InstAt s.heap a oe D (some od) := ⟨there, hz.1, by unfold PySem.W.notCls; rw [hv] <;> rfl, by rw [hz.2]; exact ho⟩
    have cl : (PySem.W.clsIn X.K D).isSome = true := by
      obtain ⟨cd, hc, _⟩ := PySem.W.any_some ec.hd
      rw [hc]
      rfl
    exact PySem.W.kia_one (PySem.W.kitx_exc cl ec.hg ec.hk ec.hs ec.ha ec.hn ec.ht ec.hm) I.kIn J known (fun z => nomatch z) fun tk => ⟨.bl b, H, I.kept (t' := tk) fun _ _ z => z, rfl, q⟩
end

/-! ### try with several «except C as n» -/
/-- what the clauses wish of an error, one after the other: class, the name's slot, the suite's reading -/
def wAsM (K : PySem.W.Frag) (out : WX) (D : Ends) : List (Value × Nat × (Addr → Value → Option Addr → TS)) → WX
  | [] => out
  | (c, i, t) :: more => fun cls d σ H => ∃ b, PySem.W.exmOne K cls c = some b ∧
      (b = true → ∀ a, H a = none → t a cls d { nx := fun σ' H' => D.nx (σ'.set i none) H', rt := D.rt, bk := fun σ' H' => D.bk (σ'.set i none) H', ct := fun σ' H' => D.ct (σ'.set i none) H' } (σ.set i (some (.ref a))) H) ∧
      (b = false → wAsM K out D more cls d σ H)
inductive ClausesOk (X : Cx) : List ExceptHandler → List (Value × Nat × (Addr → Value → Option Addr → TS)) → Prop
  | nil : ClausesOk X [] []
  | cons {x n : Str} {c : Value} {i : Nat} {t : Addr → Value → Option Addr → TS} {st : Stmt} {sts : List Stmt} {q q' : Pos} {hs : List ExceptHandler} {ls : List (Value × Nat × (Addr → Value → Option Addr → TS))} (known : Names X x c) (slot : X.N[i]? = some n)
      (lo : X.env.kindOf n = some .local) (suite : ∀ (a : Addr) (oe : Obj) (cls : Value) (d : Option Addr) (pn : List (Addr × Obj)), Zc cls d oe → (∃ vs, oe.data = .fields vs) → PSs (X.suite a ((a, oe) :: pn)) (st :: sts) (t a cls d))
      (more : ClausesOk X hs ls) : ClausesOk X (.ExceptHandler (some (.Name x q)) (some n) (st :: sts) q' :: hs) ((c, i, t) :: ls)
section
variable {X : Cx} {body : List Stmt} {h1 : ExceptHandler} {hs : List ExceptHandler} {ls : List (Value × Nat × (Addr → Value → Option Addr → TS))} {pos : Pos} {tb : WX → TS} {out : WX}
theorem ps_try_asM (st : X.stack = X.env :: X.outer) (fr : X.env.frame = some X.env.locals) (nd : X.N.Nodup) (tk : Takes X out)
    (runs : ∀ (W : WX) (pn : List (Addr × Obj)) (xe : Value → Shared → Prop), Takes (X.tr pn xe) W → PassesOwn (model X.prog X.w) X.A X.env xe → PSs (X.tr pn xe) body (tb W))
    (cl : ClausesOk X (h1 :: hs) ls) : PS X (.Try body (h1 :: hs) [] [] pos) (fun D σ H => tb (wAsM X.K out D ls) D σ H) := by
  refine ⟨fun pins s σ H D I want => ?_⟩
  have ok := I.ok
  have frames : X.A.frames = some (X.env :: X.outer) := by rw [ok.frames, st]
  refine wpAny_Try_except ?_
  refine wpAny_mono ((runs (wAsM X.K out D ls) (X.pn ++ pins) (fun u t1 => wpAny (model X.prog X.w) X.A (noteFrame u X.env) (fun _ t2 => wpAny (model X.prog X.w) X.A (setFlight u none)
    (fun _ t3 => wpAny (model X.prog X.w) X.A (handleBy u X.env (h1 :: hs)) (SP X pins D) X.xe t3) X.xe t2) X.xe t1) (fun u t0 flown => ?_) PassesOwn.looking).run [] s σ H D (I.toTry _) want) (fun f t0 done => ?_) (fun _ _ y => y)
  · obtain ⟨a, B, sI, pins1, σ1, H1, cls, d, rfl, J0, bare, kept, sky, fresh, osE, agree, wish⟩ := flown
    have J : Inv X pins σ1 H1 sI := J0.ofTry ok
    have sky1 : Sky B (X.env :: X.outer) a (Zc cls d) X.env.locals t0.heap := st ▸ sky
    show wpAny (model X.prog X.w) X.A (noteFrame (.ref a) X.env) _ X.xe t0
    refine Sky.land Zc.steady frames fr sky1 fun g fl up => ?_
    obtain ⟨oe, vs, atE, zE, dataE⟩ := fl.there
    have outF : a ∉ frs (X.env :: X.outer) := fun mem => by
      obtain ⟨_, o, here, no⟩ := fl.2.2.1.mem mem
      cases atE.symm.trans here
      exact no _ dataE
    have nL : a ≠ X.env.locals := fun z => outF (List.mem_filterMap.mpr ⟨X.env, List.mem_cons_self, by rw [fr, z]⟩)
    have nF : a ∉ X.fs := fun mem => outF (by
      obtain ⟨e, m1, m2⟩ := List.mem_filterMap.mp mem
      exact List.mem_filterMap.mpr ⟨e, List.mem_cons_of_mem _ m1, m2⟩)
    have J1 : Inv X pins σ1 H1 { t0 with heap := g } := J.landed bare fl.1 (kept.trans up) osE agree
    have S1 := J1.suite atE dataE fresh nL nF
    have go : ∀ {hh : List ExceptHandler} {ll : List (Value × Nat × (Addr → Value → Option Addr → TS))}, ClausesOk X hh ll → wAsM X.K out D ll cls d σ1 H1 → wpAny (model X.prog X.w) X.A (handleBy (.ref a) X.env hh) (SP X pins D) X.xe { t0 with heap := g } := by
      intro hh ll cc
      induction cc with
      | nil =>
        intro fly
        refine wpAny_handleBy_nil ?_
        obtain ⟨_, _, _, o, ws, T, oT, ts, g1, g2, g3, g4, _⟩ := id fl
        unfold PySem.passOn
        refine wpAny_bind (wpAny_field g1 g3 g4 ?_)
        rw [if_neg (by simp : ¬ ((Value.ref T == Value.none) = true))]
        have on : wpAny (model X.prog X.w) X.A (setFlight (.ref a) X.env.frame) (fun _ t4 => wpAny (model X.prog X.w) X.A (throw (.ref a) : Sem Flow) (SP X pins D) X.xe t4) X.xe { t0 with heap := g } := by
          rw [fr]
          exact HandSPX.setFlight_upZ fl fun g' sky' up' => wpAny_throw (tk _ _ ⟨a, B, sI, pins, σ1, H1, cls, d, rfl, J, bare, (kept.trans up).trans up', .inr (.inr (by rw [st]; exact sky')), fresh, osE, agree, fly⟩)
        first
          | exact wpAny_bind (wpAny_pure (wpAny_bind on))
          | exact wpAny_bind on
      | @cons x n c i t b₀ bs q q' hs' ls' known slot lo suite more ih =>
        intro w1
        obtain ⟨b, asked, yes, no⟩ := w1
        refine wpAny_handleBy_cons (codeAny_handlers_test ?_) (fun z => by cases z)
        have typ : PySem.W.Looks (model X.prog X.w) g (typeOf (.ref a)) cls := fun _ _ _ _ k z => wpAny_typeOf_ref (k _ _ atE) (by rw [zE.1]; exact z)
        have name : ∀ {Q : Value → Shared → Prop} {E : Value → Shared → Prop}, Q c { t0 with heap := g } → wpAny (model X.prog X.w) (X.A.mark (some (.ref a))) (eval (.Name x q) X.env) Q E { t0 with heap := g } := fun {Q E} z => by
          obtain ⟨k1, k2, k3 | ⟨k3, k4, k5⟩⟩ := known
          · exact ld_glob (X := X.suite a ((a, oe) :: (X.pn ++ pins))) S1 k1 k3 z k2
          · exact ld_blt (X := X.suite a ((a, oe) :: (X.pn ++ pins))) S1 k1 k3 k4 z k5 k2
        refine name ((PySem.W.exm_one (M := model X.prog X.w) J1.kIn typ asked).here ?_)
        cases b with
        | false => exact ih (no rfl)
        | true =>
          refine codeAny_handlers_suite_as (HandSPX.lands_againZ fl fun g' fl' up' => ?_)
          obtain ⟨oe', ws, atE', zE', dataE'⟩ := fl'.there
          have J2 : Inv X pins σ1 H1 { t0 with heap := g' } := J.landed bare fl'.1 ((kept.trans up).trans up') osE agree
          have S2 := J2.suite atE' dataE' fresh nL nF
          refine store_ok (X := X.suite a ((a, oe') :: (X.pn ++ pins))) (v := .ref a) S2 nd slot (.inl lo) rfl (fun t5 S5 => ?_) (.inr lo)
          refine wpAny_mono ((suite a oe' cls d (X.pn ++ pins) zE' ⟨_, dataE'⟩).run [] t5 _ H1 _ S5 (yes rfl a fresh)) (fun f t6 done => ?_) (fun _ _ z => z.elim)
          have gone : ∀ {σ6 : L2.St} {H6 : Hp} {Q : Shared → Prop}, Inv (X.suite a ((a, oe') :: (X.pn ++ pins))) [] σ6 H6 t6 → (∀ t7, Inv X pins (σ6.set i none) H6 t7 → Q t7) →
              wpAny (model X.prog X.w) X.A (do bindName X.env n .none; unbindBehindTheSuite X.env n q') (fun _ t7 => Q t7) X.xe t6 := fun S6 z => gone_ok (S6.unsuite ok) nd slot lo z
          cases f with
          | ret u =>
            obtain ⟨v6, σ6, H6, S6, r6, q6⟩ := done
            exact gone S6 fun _ J7 => ⟨_, _, _, J7, r6, q6⟩
          | next =>
            obtain ⟨_, _, S6, q6⟩ := done
            exact gone S6 fun _ J7 => ⟨_, _, J7, q6⟩
          | brk =>
            obtain ⟨_, _, S6, q6⟩ := done
            exact gone S6 fun _ J7 => ⟨_, _, J7, q6⟩
          | cont =>
            obtain ⟨_, _, S6, q6⟩ := done
            exact gone S6 fun _ J7 => ⟨_, _, J7, q6⟩
    exact go cl wish
  · cases f with
    | ret u =>
      obtain ⟨v, _, _, J1, r1, q1⟩ := done
      exact ⟨v, _, _, J1.ofTry ok, r1, q1⟩
    | next =>
      obtain ⟨_, _, J1, q1⟩ := done
      exact wpAny_execs_nil ⟨_, _, J1.ofTry ok, q1⟩
    | brk =>
      obtain ⟨_, _, J1, q1⟩ := done
      exact ⟨_, _, J1.ofTry ok, q1⟩
    | cont =>
      obtain ⟨_, _, J1, q1⟩ := done
      exact ⟨_, _, J1.ofTry ok, q1⟩
end

/-! ### errors of two fields -/
/-- the heap behind C(x, y), where __init__ stores both -/
def errH (H : Hp) (a C dx : Addr) (f g : Str) (x y : V) : Hp := upd (upd (upd H dx (exd dx [(f, x)])) a (exo a C (some dx))) dx (exd dx [(g, y), (f, x)])
theorem raise2 {C : Addr} {f g : Str} {x y : V} {H : Hp} {Q : XK} (hq : ∀ d, H d = none → Q (.ref C) (some d) (upd H d (.xd [(g, y), (f, x)]))) {a dx : Addr} (na : H a = none) (nd : upd H a (exo a C none) dx = none) (ne : dx ≠ a) :
    V.non = .non ∧ ∃ (d : Addr) (fs : List (Str × V)), errH (upd H a (exo a C none)) a C dx f g x y a = some (exo a C (some d)) ∧ errH (upd H a (exo a C none)) a C dx f g x y d = some (exd d fs) ∧ H d = none ∧
      Q (.ref C) (some d) (upd (del (errH (upd H a (exo a C none)) a C dx f g x y) a) d (.xd fs)) := by
  rw [upd_ne ne] at nd
  refine ⟨rfl, dx, _, ?_, upd_same, nd, ?_⟩
  · unfold errH
    rw [upd_ne (Ne.symm ne), upd_same]
  · have e : upd (del (errH (upd H a (exo a C none)) a C dx f g x y) a) dx (.xd [(g, y), (f, x)]) = upd H dx (.xd [(g, y), (f, x)]) := by
      funext b
      by_cases h1 : b = dx
      · rw [h1, upd_same, upd_same]
      · rw [upd_ne h1, upd_ne h1]
        by_cases h2 : b = a
        · rw [h2, del_same, na]
        · rw [del_ne h2]
          unfold errH
          rw [upd_ne h1, upd_ne h2, upd_ne h1, upd_ne h2]
    rw [e]
    exact hq dx nd
/-- the first weight below 1, from place i on -/
def badAt : List Int → Nat → Option Nat
  | [], _ => none
  | n :: r, i => if n < 1 then some i else badAt r (i + 1)

/-- the fields of a Weighted -/
def fW (m aside : Int) (t : Addr) : List (Str × V) := putF "aside" (.int aside) (putF "weights" (.ref t) (putF "many" (.int m) []))
/-- nothing but the object at p is another -/
def SameX (p : Addr) (H H' : Hp) : Prop := ∀ b o, b ≠ p → H b = some o → H' b = some o
theorem SameX.trans {p : Addr} {H H' H2 : Hp} (h : SameX p H H') (k : SameX p H' H2) : SameX p H H2 := fun b o n z => k b o n (h b o n z)
theorem SameX.new {p : Addr} {H : Hp} {a : Addr} {o : HO} (n : H a = none) : SameX p H (upd H a o) := fun b u _ z => (upd_ne (ne_of_none z n)).trans z
theorem SameX.put {p : Addr} {H : Hp} {o : HO} : SameX p H (upd H p o) := fun b u n z => (upd_ne n).trans z

/-- the first number below b, from place i on -/
def lowAt (b : Int) : List Int → Nat → Option Nat
  | [], _ => none
  | n :: r, i => if n < b then some i else lowAt b r (i + 1)
theorem low_bad : ∀ (ns : List Int) (i : Nat), lowAt 1 ns i = badAt ns i
  | [], _ => rfl
  | n :: r, i => by
    unfold lowAt badAt
    rw [low_bad r (i + 1)]

theorem same_sx {p : Addr} {H H' : Hp} (h : Same H H') : SameX p H H' := fun b o _ z => h b o z
theorem dp_ints {K : PySem.W.Frag} {H : Hp} {a : Addr} {ns : List Int} (h : SqL K H a (ns.map V.int)) : Dp K H (.ref a) (.list (ns.map PyData.int)) := by
  refine .lst h ?_
  clear h
  induction ns with
  | nil => exact .nil
  | cons n r ih => exact .cons (.int n) ih
theorem depthAll_ints : ∀ ns : List Int, PyData.depthAll (ns.map PyData.int) = 0
  | [] => rfl
  | n :: r => by
    show max (PyData.depth (.int n)) (PyData.depthAll (r.map PyData.int)) = 0
    rw [depthAll_ints r]
    rfl
theorem depth_ints (ns : List Int) : PyData.depth (.list (ns.map PyData.int)) = 1 := by
  show PyData.depthAll (ns.map PyData.int) + 1 = 1
  rw [depthAll_ints]
theorem lay_ints : ∀ ns : List Int, PyData.canLayAll0 (ns.map PyData.int) = true
  | [] => rfl
  | _ :: r => (Bool.true_and _).trans (lay_ints r)
/-- what is due for these weights and this number -/
inductive Due | many (m : Nat) | num (k : Nat) | aside | made
def dueW (ns : List Int) (aside : Int) : Due := if ns.length > 24 then .many ns.length else match badAt ns 0 with
  | some k => .num k
  | none => if aside < 1 then .aside else .made
def Due.due : Due → List V
  | .many m => [.str "many", .int m, .int 24]
  | .num k => [.str "number", .str "weights", .int k]
  | .aside => [.str "number", .str "aside", .non]
  | .made => [.str "made", .int 0, .int 0]
def Due.told : Due → List V
  | .many m => [.str "many", .int m, .int 24, .bl false]
  | .num k => [.str "number", .str "weights", .int k, .bl false]
  | .aside => [.str "number", .str "aside", .non, .bl false]
  | .made => []
theorem due_many {ns : List Int} {a : Int} (h : ns.length > 24) : dueW ns a = .many ns.length := if_pos h
theorem due_num {ns : List Int} {a : Int} {k : Nat} (h : ¬ ns.length > 24) (hb : badAt ns 0 = some k) : dueW ns a = .num k := by
  unfold dueW
  rw [if_neg h, hb]
theorem due_aside {ns : List Int} {a : Int} (h : ¬ ns.length > 24) (hb : badAt ns 0 = none) (ha : a < 1) : dueW ns a = .aside := by
  unfold dueW
  rw [if_neg h, hb]
  exact if_pos ha
theorem due_made {ns : List Int} {a : Int} (h : ¬ ns.length > 24) (hb : badAt ns 0 = none) (ha : ¬ a < 1) : dueW ns a = .made := by
  unfold dueW
  rw [if_neg h, hb]
  exact if_neg ha
theorem sameX_made {C x dx : Addr} {H H' : Hp} (nx : H x = none) (nd : H dx = none) (k : SameX x (upd (upd H dx (.own x)) x (.ins C dx [])) H') : Same H H' := fun b o e => by
  have h1 : b ≠ x := ne_of_none e nx
  have h2 : b ≠ dx := ne_of_none e nd
  exact k b o h1 (by rw [upd_ne h1, upd_ne h2]; exact e)
theorem fW_weights (m a : Int) (t : Addr) : (fW m a t).lookup ("weights" : Str) = some (V.ref t) := by rfl
theorem fW_aside (m a : Int) (t : Addr) : (fW m a t).lookup ("aside" : Str) = some (V.int a) := by rfl

/-! ### a Ratio in the heap -/
def rF (T B : Int) : List (Str × V) := [("top", .int T), ("bottom", .int B)]
def RatAt (C : Addr) (H : Hp) (p : Addr) (T B : Int) : Prop := ∃ dx, H p = some (.ins C dx (rF T B))
theorem rF_top (T B : Int) : (rF T B).lookup ("top" : Str) = some (.int T) := lk_one
theorem rF_bot (T B : Int) : (rF T B).lookup ("bottom" : Str) = some (.int B) := (lk_two (by decide +kernel)).trans lk_one
theorem rF_new (T B : Int) : putF "bottom" (.int B) (putF "top" (.int T) []) = rF T B := by
  show (if ("top" : Str) = "bottom" then _ else _) = _
  rw [if_neg (by decide +kernel)]
  rfl
theorem RatAt.same {C : Addr} {H H' : Hp} {p : Addr} {T B : Int} (s : Same H H') (h : RatAt C H p T B) : RatAt C H' p T B := by
  obtain ⟨dx, h⟩ := h
  exact ⟨dx, s _ _ h⟩
/-- not too long to divide by -/
def Sm (b : Int) : Prop := ∃ n, 0 < n ∧ n ≤ 8000 ∧ b.natAbs < 2 ^ n
theorem sm_of {b : Int} {n : Nat} (h : b.natAbs < 2 ^ n) (h0 : 0 < n := by decide) (hn : n ≤ 8000 := by decide) : Sm b := ⟨n, h0, hn, h⟩
theorem Sm.le {a b : Int} (h : Sm b) (hl : a.natAbs ≤ b.natAbs) : Sm a := by
  obtain ⟨n, h0, h1, h2⟩ := h
  exact ⟨n, h0, h1, Nat.lt_of_le_of_lt hl h2⟩
theorem Sm.log {a : Int} (h : Sm a) : a.natAbs.log2 < 8000 := by
  obtain ⟨n, h0, h1, h2⟩ := h
  exact Nat.lt_of_lt_of_le (PySem.Flt.log2_lt_of h0 h2) h1
theorem Sm.mul {a b : Int} (h : Sm a) (h' : Sm b) : CMulW a b := by
  have x := h.log
  have y := h'.log
  unfold CMulW
  omega
theorem rd_div {t b : Int} (h : b ≠ 0) (hs : Sm b) (i : Int) : CDivWN i (rd t b) := by
  refine ⟨rd_ne h, ?_⟩
  have h1 : (rd t b).natAbs ≤ b.natAbs := by
    rw [rd_abs]
    exact Nat.gcd_le_right _ (Int.natAbs_pos.mpr h)
  exact Nat.lt_of_lt_of_le (hs.le h1).log (by decide)

/-! ### numbers: a Ratio or an int -/
def NumAt (C : Addr) (H : Hp) (y : V) (T B : Int) : Prop := (∃ q, y = .ref q ∧ RatAt C H q T B) ∨ (y = .int T ∧ B = 1)
theorem RatAt.num {C : Addr} {H : Hp} {p : Addr} {T B : Int} (h : RatAt C H p T B) : NumAt C H (.ref p) T B := .inl ⟨p, rfl, h⟩
theorem NumAt.same {C : Addr} {H H' : Hp} {y : V} {T B : Int} (s : Same H H') (h : NumAt C H y T B) : NumAt C H' y T B := by
  rcases h with ⟨q, e, r⟩ | h
  · exact .inl ⟨q, e, r.same s⟩
  · exact .inr h
/-- what the operator rules ask of the second operand -/
theorem NumAt.arg {C : Addr} {H : Hp} {y : V} {T B : Int} (h : NumAt C H y T B) : (∃ b dy gs, y = .ref b ∧ H b = some (.ins C dy gs)) ∨ ∃ n, y = .int n := by
  rcases h with ⟨q, rfl, dx, e⟩ | ⟨rfl, _⟩
  · exact .inl ⟨q, dx, _, rfl, e⟩
  · exact .inr ⟨T, rfl⟩
theorem RatAt.self {C : Addr} {H : Hp} {p : Addr} {T B : Int} (h : RatAt C H p T B) : ∃ a dx fs, (V.ref p : V) = .ref a ∧ H a = some (.ins C dx fs) := by
  obtain ⟨dx, e⟩ := h
  exact ⟨p, dx, _, rfl, e⟩
theorem low_any {t b T B : Int} (hb : b ≠ 0) (pos : 0 < B) (cop : Nat.gcd T.natAbs B.natAbs = 1) (eq : T * b = t * B) : LowT t b T B := by
  have n : T.natAbs * b.natAbs = t.natAbs * B.natAbs := by
    rw [← Int.natAbs_mul, ← Int.natAbs_mul, eq]
  have d1 : B.natAbs ∣ b.natAbs := by
    have : B.natAbs ∣ T.natAbs * b.natAbs := n ▸ Nat.dvd_mul_left ..
    exact (Nat.Coprime.symm cop).dvd_of_dvd_mul_left this
  have d2 : T.natAbs ∣ t.natAbs := by
    have : T.natAbs ∣ t.natAbs * B.natAbs := n ▸ Nat.dvd_mul_right ..
    exact Nat.Coprime.dvd_of_dvd_mul_right cop this
  refine ⟨pos, eq, ?_, Nat.le_of_dvd (Int.natAbs_pos.mpr hb) d1, cop⟩
  rcases Nat.eq_zero_or_pos t.natAbs with z | z
  · rw [z, Nat.zero_mul] at n
    rcases Nat.mul_eq_zero.mp n with h | h
    · omega
    · exact absurd h (by have := Int.natAbs_pos.mpr hb; omega)
  · exact Nat.le_of_dvd z d2
theorem low_int (n : Int) : LowT n 1 n 1 := ⟨by decide, rfl, Nat.le_refl _, Nat.le_refl _, by simp⟩
theorem LowT.to {t b t' b' T B : Int} (h : LowT t b T B) (hb : b ≠ 0) (hb' : b' ≠ 0) (e : t * b' = t' * b) : LowT t' b' T B := by
  refine low_any hb' h.pos h.cop ?_
  have q := h.eq
  have : b * (T * b') = b * (t' * B) := by grind
  exact Int.eq_of_mul_eq_mul_left hb this
/-! ### operators of an own class -/
section
variable {prog : Program} {w : World} {A : Around} {E : Value → Shared → Prop} {s : Shared} {K : PySem.W.Frag}
/-- an int's own operator declines an instance -/
theorem declines_bin {id nm : String} {name : Str} {g : Int → Int → Sem Fin} {n : Int} {t : Tok} {a C dx : Addr} {Q : Value → Shared → Prop} (ha : s.heap.get? a = some (PySem.W.instObj C dx)) (slot : Slot "int" name id)
    (entry : entryFor table id = some (Builtin.Int.intBinary nm g)) (args : argsOk id ⟨[.int n t, .ref a], []⟩) (h : Q .notImplemented s) :
    wpAny (model prog w) A (call (.builtin id) [.int n t, .ref a]) Q E s := by
  refine GQ.call_here slot (by first | exact rfl | trivial) entry args ?_
  have e1 : slotArgs nm 1 ⟨[.int n t, .ref a], []⟩ = pure (.int n t, [.ref a]) := rfl
  have e2 : Builtin.Int.intOfSelf (.int n t) = pure n := rfl
  unfold Builtin.Int.intBinary
  rw [e1]
  refine wpAny_bind (wpAny_pure ?_)
  dsimp only
  rw [e2]
  refine wpAny_bind (wpAny_pure ?_)
  refine wpAny_bind ?_
  show wpAny (model prog w) A.in1 (asInt? (.ref a)) _ _ s
  unfold asInt?
  refine wpAny_bind (wpAny_load ha ?_)
  refine wpAny_pure ?_
  refine wpAny_bind (wpAny_rule ?_)
  exact wpAny_pure h
end
section
variable {prog : Program} {w : World} {A : Around} {E : Value → Shared → Prop} {s : Shared} {K : PySem.W.Frag}
/-- n op a: the int's own operator declines, then a's reflected one is asked -/
theorem bin_refl {op : Operator} {id nm : String} {g : Int → Int → Sem Fin} {n : Int} {t : Tok} {a C dx f : Addr} {od : Option Obj} {Q : Value → Shared → Prop} (X : K.In s.heap) (ha : s.heap.get? a = some (PySem.W.instObj C dx)) (J : PySem.W.InstAt s.heap a (PySem.W.instObj C dx) C od)
    (first : PySem.W.selfFirst K C = true) (slot : Slot "int" (dunder op.info.2) id) (entry : entryFor table id = some (Builtin.Int.intBinary nm g)) (args : argsOk id ⟨[.int n t, .ref a], []⟩)
    (fillI : fillsNumberSlot (.type "int") op.info.2 = pure true) {f0 : Addr} (own : PySem.W.findIn K (.ref C) (dunder op.info.2) = some (some (.ref f0))) (sub : PySem.W.subIn K (.ref C) (.type "int") = some false)
    (hr : PySem.W.findIn K (.ref C) (dunderR op.info.2) = some (some (.ref f))) (hf : PySem.W.isFn K (.ref f) = true)
    (h : wpAny (model prog w) A (call (.ref f) [.ref a, .int n t]) (PySem.W.CmpBack Q) E s) : wpAny (model prog w) A (binaryOp op (.int n t) (.ref a)) Q E s := by
  obtain ⟨cd, rest, hcd, hm⟩ := PySem.W.ksp_first first
  have back := PySem.W.ksp_try X J hr hf h
  rcases hi : op.info with ⟨sym, nm'⟩
  rw [hi] at slot fillI own hr back
  dsimp only at slot fillI own hr back
  have f1 : PySem.W.Looks (model prog w) s.heap (fillsNumberSlot (.ref C) nm') true := PySem.W.fills_K X hcd hm own
  have ne : (Value.type "int" == Value.ref C) = false := Bool.eq_false_iff.mpr fun z => by cases beq_iff_eq.mp z
  unfold binaryOp
  refine wpAny_holding ?_
  simp only [hi]
  refine wpAny_bind ?_
  unfold binaryOp1
  refine wpAny_bind (wpAny_typeOf (T := "int") (by exact rfl) (wpAny_bind (J.type.here (wpAny_bind (wpAny_of_eq fillI ?_)))))
  simp only [ne, Bool.false_eq_true, if_false]
  refine wpAny_bind (f1.here ?_)
  simp only [Bool.and_self, if_true]
  refine wpAny_bind ((PySem.W.looks_subIn X sub).here ?_)
  have hpy : numberSlotInPython (.type "int") nm' = pure false := rfl
  simp only [Bool.false_eq_true, if_false, pure_bind, Bool.not_false, Bool.and_self, if_true, hpy]
  refine wpAny_bind (wpAny_tryMethod_declines (T := "int") (by exact rfl) slot (declines_bin ha slot entry args ⟨rfl, ?_⟩))
  dsimp only
  refine wpAny_bind (wpAny_mono back (fun r s' z => ?_) fun _ _ z => z)
  obtain ⟨v, rfl, q⟩ := z
  exact wpAny_bind (wpAny_rule (wpAny_pure (wpAny_pure q)))
end
section
variable {X : Cx} {CX : CXT} {k : Nat} {f C : Addr} {fd : FuncData} {ps : List Str} {sp : Sp} {ds : List Value} {E : XK}
theorem ep_back {pins : List (Addr × Obj)} {σ : L2.St} {Q : VK} {u : Value} {s' : Shared} (h : EP X pins σ Q u s') : PySem.W.CmpBack (EP X pins σ Q) u s' := by
  obtain ⟨v, H', J, r, q⟩ := h
  cases u <;> first
    | exact ⟨v, H', J, r, q⟩
    | (exfalso; cases v <;> first | (obtain ⟨_, z⟩ := r; cases z) | cases r)
/-- x op y by the class's own operator; y an instance of the class, or an int -/
def rOwn (C : Addr) (sp : Sp) (E : XK) : R2 := fun x y H Q => (∃ a dx fs, x = .ref a ∧ H a = some (.ins C dx fs)) ∧ ((∃ b dy gs, y = .ref b ∧ H b = some (.ins C dy gs)) ∨ ∃ n, y = .int n) ∧ sp [x, y] H Q E
/-- n op a by the class's reflected operator -/
def rRef (C : Addr) (sp : Sp) (E : XK) : R2 := fun x y H Q => (∃ n, x = .int n) ∧ (∃ a dx fs, y = .ref a ∧ H a = some (.ins C dx fs)) ∧ sp [y, x] H Q E
theorem inst_of {pins : List (Addr × Obj)} {σ : L2.St} {H : Hp} {s : Shared} {a C dx : Addr} {fs : List (Str × V)} (I : Inv X pins σ H s) (e : H a = some (.ins C dx fs)) :
    s.heap.get? a = some (PySem.W.instObj C dx) ∧ ∃ od, PySem.W.InstAt s.heap a (PySem.W.instObj C dx) C (some od) := by
  obtain ⟨mA, O, _⟩ := ins_get I.hok e
  obtain ⟨od, J, _⟩ := O.look
  exact ⟨O.obj, od, J⟩
theorem op_own {op : Operator} {fo ro rc : Option Value} (M : Meth X.K C (dunder op.info.2) f) (first : PySem.W.selfFirst X.K C = true) (hr : PySem.W.findIn X.K (.ref C) (dunderR op.info.2) = some rc) (hp : rc = none ∨ ∃ g : Addr, rc = some (.ref g))
    (h1 : PySem.W.findIn X.K (.type "int") (dunder op.info.2) = some fo) (h2 : PySem.W.findIn X.K (.type "int") (dunderR op.info.2) = some ro) (hsub : PySem.W.subIn X.K (.type "int") (.ref C) = some false)
    (G : FnOk X.prog X.w X.K X.mg X.base CX k f fd ps sp) (room : Room k X.A) (bd : Binds X.K fd ps []) (out : Passes CX X E) : OpR X (binaryOp op) (rOwn C sp E) := by
  intro pins s σ H x y v u Q I rx ry h
  obtain ⟨⟨a, dx, fs, rfl, ha⟩, hy, h⟩ := h
  cases (show v = Value.ref a from rx)
  obtain ⟨_, od, J⟩ := inst_of I ha
  obtain ⟨m, F⟩ := I.fr
  have ran : wpAny (model X.prog X.w) X.A (call (.ref f) [.ref a, u]) (PySem.W.CmpBack (EP X pins σ Q)) X.xe s :=
    wpAny_mono (run_fn (ds := []) G room bd .nil out I (.cons (show L2.RelV (.ref a) (.ref a) from rfl) (.cons ry .nil)) h) (fun _ _ z => ep_back z) fun _ _ z => z
  rcases hy with ⟨b, dy, gs, rfl, hb⟩ | ⟨n, rfl⟩
  · cases (show u = Value.ref b from ry)
    obtain ⟨_, od', J'⟩ := inst_of I hb
    exact PySem.W.binop_K F I.ok.mod.kin J J'.type first M.at_ M.fn ran
  · obtain ⟨t, rfl⟩ := (show ∃ t, u = Value.int n t from ry)
    exact PySem.W.ksp_binT F I.ok.mod.kin J (T := "int") rfl first M.at_ M.fn hr hp h1 h2 hsub ran
theorem op_ref {op : Operator} {id nm : String} {g : Int → Int → Sem Fin} {f0 : Addr} (M : Meth X.K C (dunderR op.info.2) f) (first : PySem.W.selfFirst X.K C = true) (own : PySem.W.findIn X.K (.ref C) (dunder op.info.2) = some (some (.ref f0)))
    (sub : PySem.W.subIn X.K (.ref C) (.type "int") = some false) (slot : Slot "int" (dunder op.info.2) id) (entry : entryFor table id = some (Builtin.Int.intBinary nm g)) (args : ∀ a b, argsOk id ⟨[a, b], []⟩) (fillI : fillsNumberSlot (.type "int") op.info.2 = pure true)
    (G : FnOk X.prog X.w X.K X.mg X.base CX k f fd ps sp) (room : Room k X.A) (bd : Binds X.K fd ps []) (out : Passes CX X E) : OpR X (binaryOp op) (rRef C sp E) := by
  intro pins s σ H x y v u Q I rx ry h
  obtain ⟨⟨n, rfl⟩, ⟨a, dx, fs, rfl, ha⟩, h⟩ := h
  cases (show u = Value.ref a from ry)
  obtain ⟨t, rfl⟩ := (show ∃ t, v = Value.int n t from rx)
  obtain ⟨ho, od, J⟩ := inst_of I ha
  have ran : wpAny (model X.prog X.w) X.A (call (.ref f) [.ref a, .int n t]) (PySem.W.CmpBack (EP X pins σ Q)) X.xe s :=
    wpAny_mono (run_fn (ds := []) G room bd .nil out I (.cons (show L2.RelV (.ref a) (.ref a) from rfl) (.cons rx .nil)) h) (fun _ _ z => ep_back z) fun _ _ z => z
  exact bin_refl I.kIn ho J first slot entry (args _ _) fillI own sub M.at_ M.fn ran
/-- -a -/
def rNeg (C : Addr) (sp : Sp) (E : XK) : V → Hp → VK → Prop := fun x H Q => (∃ a dx fs, x = .ref a ∧ H a = some (.ins C dx fs)) ∧ sp [x] H Q E
theorem un_own (M : Meth X.K C "__neg__" f) (G : FnOk X.prog X.w X.K X.mg X.base CX k f fd ps sp) (room : Room k X.A) (bd : Binds X.K fd ps []) (out : Passes CX X E) : UnR X (unaryOp .USub) (rNeg C sp E) := by
  intro pins s σ H x v Q I rx h
  obtain ⟨⟨a, dx, fs, rfl, ha⟩, h⟩ := h
  cases (show v = Value.ref a from rx)
  obtain ⟨_, od, J⟩ := inst_of I ha
  obtain ⟨m, F⟩ := I.fr
  exact PySem.W.ksp_neg F I.ok.mod.kin J M.at_ M.fn (run_fn (ds := []) G room bd .nil out I (.cons (show L2.RelV (.ref a) (.ref a) from rfl) .nil) h)
end
section
variable {X : Cx} {CX : CXT} {k : Nat} {f C : Addr} {fd : FuncData} {ps : List Str} {sp : Sp} {ds : List Value} {E : XK}
/-- abs(a) by the class's own -/
def rAbsO (C : Addr) (sp : Sp) (E : XK) : List V → Hp → VK → Prop := fun xs H Q => ∃ a dx fs, xs = [.ref a] ∧ H a = some (.ins C dx fs) ∧ sp [.ref a] H Q E
/-- a def called where the frames are X's, one room further in -/
theorem run_in {B : Around} {pins : List (Addr × Obj)} {σ : L2.St} {H : Hp} {s : Shared} {Q : VK} {us : List Value} {vs : List V} (G : FnOk X.prog X.w X.K X.mg X.base CX k f fd ps sp) (room : Room k B) (fr : B.frames = X.A.frames) (bd : Binds X.K fd ps []) (out : Passes CX X E)
    (I : Inv X pins σ H s) (rel : Vals vs us) (h : sp vs H Q E) : wpAny (model X.prog X.w) B (call (.ref f) us) (EP X pins σ Q) X.xe s := by
  have n : us.length = ps.length := rel.length.symm.trans (G.len _ _ _ _ h)
  have bound := bd s us I.kIn (by rw [List.append_nil]; exact n)
  rw [List.append_nil] at bound
  have env := I.env0
  refine wpAny_call (codeAny_mono (G.run B X.stack s H ⟨us, []⟩ us vs Q E room ⟨fr.trans env.frames, env.mod, env.bs, env.bsz, env.funs, env.frf, env.hok, env.bare⟩ bound rel h) ?_)
  rintro (e | fl) s' back
  · exact out pins σ H s e s' I back
  · cases fl with
    | ret u => exact I.after back
    | next => exact back.elim
    | brk => exact back.elim
    | cont => exact back.elim
theorem call_absO (M : Meth X.K C "__abs__" f) (G : FnOk X.prog X.w X.K X.mg X.base CX k f fd ps sp) (room : Room (k + 1) X.A) (bd : Binds X.K fd ps []) (out : Passes CX X E) : CallR X (.builtin "abs") (rAbsO C sp E) := by
  intro pins s σ H xs us Q I r h
  obtain ⟨a, dx, fs, rfl, ha, h⟩ := h
  obtain ⟨u, rfl, rx⟩ := vals1 r
  cases (show u = Value.ref a from rx)
  obtain ⟨_, od, J⟩ := inst_of I ha
  refine PySem.Calls.call_function_entry PyProof.Rows.kind_abs PyProof.Rows.plain_abs PyProof.Rows.entry_abs (PyProof.Rows.args_abs _) ?_
  unfold Builtin.«abs»
  refine wpAny_bind (m := oneArg "abs" _) (wpAny_pure ?_)
  refine wpAny_bind (PySem.W.special_fn I.kIn J M.at_ (beq_iff_eq.mp M.fn) ?_)
  refine wpAny_mono (run_in (B := X.A.in1) G room.in1 rfl bd out I (.cons (show L2.RelV (.ref a) (.ref a) from rfl) .nil) h) (fun v s' z => ?_) fun _ _ z => z
  exact wpAny_pure ⟨_, rfl, z⟩
end

/-! ### methods and operators that may let an error out, wished for at the slots that stand -/
section
variable {X : Cx} {CX : CXT} {k : Nat} {f C : Addr} {fd : FuncData} {ps : List Str} {sp : Sp} {Ex : L2.St → XK}
def tMethT (C : Addr) (m : Str) (sp : Sp) (Ex : L2.St → XK) (ta : TE) (t : TA) : TE := fun τ H Q => ta τ H fun x H1 => ∃ a dx fs, x = .ref a ∧ H1 a = some (.ins C dx fs) ∧ fs.lookup m = none ∧ t τ H1 fun vs H2 => sp (.ref a :: vs) H2 Q (Ex τ)
theorem pe_methT {pl : Sem Bool} {m : Str} {o e : Expr} {es : List Expr} {apos pos : Pos} {ta : TE} {t : TA} (ho : PE X o ta) (c : Cls X.K C) (M : Meth X.K C m f) (G : FnOk X.prog X.w X.K X.mg X.base CX k f fd ps sp) (room : Room k X.A) (bd : Binds X.K fd ps [])
    (out : ∀ τ, PassesAt CX X τ (Ex τ)) (args : PA X (e :: es) t) (hst : starEach (e :: es) X.env = (false, eval e X.env) :: starEach es X.env := by rfl) (hpl : (backTo pos (starEach es X.env)).any (·.1) = false := by rfl)
    (ht : eval (.Call (.Attribute o m apos) (e :: es) [] pos) X.env = (do
      let w0 ← eval o X.env
      standAt apos.atName
      let (fn, fst) ← holding [w0] (getMethod w0 m pl)
      callWith pos fn fst (backTo pos (starEach (e :: es) X.env)) (backToKw pos (keywordEach [] X.env))) := by rfl) :
    PE X (.Call (.Attribute o m apos) (e :: es) [] pos) (tMethT C m sp Ex ta t) := by
  refine ⟨fun pn st τ H Q J h => PySem.W.methodCall_KW (pl := pl) (thn (ho.run pn st τ H _ J h) ?_) ht⟩
  rintro u s1 ⟨x, H1, J1, rx, a, dx, fs, rfl, ea, l, go⟩
  cases (show u = Value.ref a from rx)
  refine getmeth_ok J1 ea c M l (PySem.W.callWith_K (first := [.ref a]) (h₀ := X.base) J1.ok.mod.kin M.kp (thn (args.run pos pn s1 τ H1 _ J1 go) ?_) hst hpl)
  rintro us s2 ⟨vs, H2, J2, r, go2⟩
  exact ⟨J2.kIn, run_fnS (us := .ref a :: us) (vs := .ref a :: vs) G room bd (out τ) J2 (.cons (show L2.RelV (.ref a) (.ref a) from rfl) r) go2⟩
end

/-- x op y by the class's own operator, in a try's body -/
def tOwnT (C : Addr) (sp : Sp) (Ex : L2.St → XK) (ta tb : TE) : TE := fun τ H Q => ta τ H fun x H1 => tb τ H1 fun y H2 => rOwn C sp (Ex τ) x y H2 Q
section
variable {X : Cx} {CX : CXT} {k : Nat} {f C : Addr} {fd : FuncData} {ps : List Str} {sp : Sp} {Ex : L2.St → XK}
theorem own_at {op : Operator} {fo ro rc : Option Value} (M : Meth X.K C (dunder op.info.2) f) (first : PySem.W.selfFirst X.K C = true) (hr : PySem.W.findIn X.K (.ref C) (dunderR op.info.2) = some rc) (hp : rc = none ∨ ∃ g : Addr, rc = some (.ref g))
    (h1 : PySem.W.findIn X.K (.type "int") (dunder op.info.2) = some fo) (h2 : PySem.W.findIn X.K (.type "int") (dunderR op.info.2) = some ro) (hsub : PySem.W.subIn X.K (.type "int") (.ref C) = some false)
    (G : FnOk X.prog X.w X.K X.mg X.base CX k f fd ps sp) (room : Room k X.A) (bd : Binds X.K fd ps []) {τ : L2.St} (out : PassesAt CX X τ (Ex τ)) {pins : List (Addr × Obj)} {s : Shared} {H : Hp} {x y : V} {v u : Value} {Q : VK}
    (I : Inv X pins τ H s) (rx : RelV x v) (ry : RelV y u) (h : rOwn C sp (Ex τ) x y H Q) : wpAny (model X.prog X.w) X.A (binaryOp op v u) (EP X pins τ Q) X.xe s := by
  obtain ⟨⟨a, dx, fs, rfl, ha⟩, hy, h⟩ := h
  cases (show v = Value.ref a from rx)
  obtain ⟨_, od, J⟩ := inst_of I ha
  obtain ⟨m, F⟩ := I.fr
  have ran : wpAny (model X.prog X.w) X.A (call (.ref f) [.ref a, u]) (PySem.W.CmpBack (EP X pins τ Q)) X.xe s :=
    wpAny_mono (run_fnS G room bd out I (.cons (show L2.RelV (.ref a) (.ref a) from rfl) (.cons ry .nil)) h) (fun _ _ z => ep_back z) fun _ _ z => z
  rcases hy with ⟨b, dy, gs, rfl, hb⟩ | ⟨n, rfl⟩
  · cases (show u = Value.ref b from ry)
    obtain ⟨_, od', J'⟩ := inst_of I hb
    exact PySem.W.binop_K F I.ok.mod.kin J J'.type first M.at_ M.fn ran
  · obtain ⟨t, rfl⟩ := (show ∃ t, u = Value.int n t from ry)
    exact PySem.W.ksp_binT F I.ok.mod.kin J (T := "int") rfl first M.at_ M.fn hr hp h1 h2 hsub ran
end

/-! ### the operators one by one -/
section
variable {X : Cx} {CX : CXT} {k : Nat} {f C : Addr} {fd : FuncData} {ps : List Str} {sp : Sp} {E : XK}
theorem d_add : dunder Operator.Add.info.2 = ("__add__" : Str) := by decide +kernel
theorem dR_add : dunderR Operator.Add.info.2 = ("__radd__" : Str) := by decide +kernel
theorem op_own_Add (M : Meth X.K C "__add__" f) (first : PySem.W.selfFirst X.K C = true) (hr : ∃ rc : Option Value, PySem.W.findIn X.K (.ref C) "__radd__" = some rc ∧ (rc = none ∨ ∃ g : Addr, rc = some (.ref g)))
    (hi : ∃ fo ro : Option Value, PySem.W.findIn X.K (.type "int") "__add__" = some fo ∧ PySem.W.findIn X.K (.type "int") "__radd__" = some ro) (hsub : PySem.W.subIn X.K (.type "int") (.ref C) = some false)
    (G : FnOk X.prog X.w X.K X.mg X.base CX k f fd ps sp) (room : Room k X.A) (bd : Binds X.K fd ps []) (out : Passes CX X E) : OpR X (binaryOp .Add) (rOwn C sp E) := by
  obtain ⟨rc, e1, e2⟩ := hr
  obtain ⟨fo, ro, e3, e4⟩ := hi
  exact op_own (op := .Add) (by rw [d_add]; exact M) first (by rw [dR_add]; exact e1) e2 (by rw [d_add]; exact e3) (by rw [dR_add]; exact e4) hsub G room bd out
theorem d_sub : dunder Operator.Sub.info.2 = ("__sub__" : Str) := by decide +kernel
theorem dR_sub : dunderR Operator.Sub.info.2 = ("__rsub__" : Str) := by decide +kernel
theorem op_own_Sub (M : Meth X.K C "__sub__" f) (first : PySem.W.selfFirst X.K C = true) (hr : ∃ rc : Option Value, PySem.W.findIn X.K (.ref C) "__rsub__" = some rc ∧ (rc = none ∨ ∃ g : Addr, rc = some (.ref g)))
    (hi : ∃ fo ro : Option Value, PySem.W.findIn X.K (.type "int") "__sub__" = some fo ∧ PySem.W.findIn X.K (.type "int") "__rsub__" = some ro) (hsub : PySem.W.subIn X.K (.type "int") (.ref C) = some false)
    (G : FnOk X.prog X.w X.K X.mg X.base CX k f fd ps sp) (room : Room k X.A) (bd : Binds X.K fd ps []) (out : Passes CX X E) : OpR X (binaryOp .Sub) (rOwn C sp E) := by
  obtain ⟨rc, e1, e2⟩ := hr
  obtain ⟨fo, ro, e3, e4⟩ := hi
  exact op_own (op := .Sub) (by rw [d_sub]; exact M) first (by rw [dR_sub]; exact e1) e2 (by rw [d_sub]; exact e3) (by rw [dR_sub]; exact e4) hsub G room bd out
theorem d_mul : dunder Operator.Mult.info.2 = ("__mul__" : Str) := by decide +kernel
theorem dR_mul : dunderR Operator.Mult.info.2 = ("__rmul__" : Str) := by decide +kernel
theorem op_own_Mult (M : Meth X.K C "__mul__" f) (first : PySem.W.selfFirst X.K C = true) (hr : ∃ rc : Option Value, PySem.W.findIn X.K (.ref C) "__rmul__" = some rc ∧ (rc = none ∨ ∃ g : Addr, rc = some (.ref g)))
    (hi : ∃ fo ro : Option Value, PySem.W.findIn X.K (.type "int") "__mul__" = some fo ∧ PySem.W.findIn X.K (.type "int") "__rmul__" = some ro) (hsub : PySem.W.subIn X.K (.type "int") (.ref C) = some false)
    (G : FnOk X.prog X.w X.K X.mg X.base CX k f fd ps sp) (room : Room k X.A) (bd : Binds X.K fd ps []) (out : Passes CX X E) : OpR X (binaryOp .Mult) (rOwn C sp E) := by
  obtain ⟨rc, e1, e2⟩ := hr
  obtain ⟨fo, ro, e3, e4⟩ := hi
  exact op_own (op := .Mult) (by rw [d_mul]; exact M) first (by rw [dR_mul]; exact e1) e2 (by rw [d_mul]; exact e3) (by rw [dR_mul]; exact e4) hsub G room bd out
theorem d_floordiv : dunder Operator.FloorDiv.info.2 = ("__floordiv__" : Str) := by decide +kernel
theorem dR_floordiv : dunderR Operator.FloorDiv.info.2 = ("__rfloordiv__" : Str) := by decide +kernel
theorem op_own_FloorDiv (M : Meth X.K C "__floordiv__" f) (first : PySem.W.selfFirst X.K C = true) (hr : ∃ rc : Option Value, PySem.W.findIn X.K (.ref C) "__rfloordiv__" = some rc ∧ (rc = none ∨ ∃ g : Addr, rc = some (.ref g)))
    (hi : ∃ fo ro : Option Value, PySem.W.findIn X.K (.type "int") "__floordiv__" = some fo ∧ PySem.W.findIn X.K (.type "int") "__rfloordiv__" = some ro) (hsub : PySem.W.subIn X.K (.type "int") (.ref C) = some false)
    (G : FnOk X.prog X.w X.K X.mg X.base CX k f fd ps sp) (room : Room k X.A) (bd : Binds X.K fd ps []) (out : Passes CX X E) : OpR X (binaryOp .FloorDiv) (rOwn C sp E) := by
  obtain ⟨rc, e1, e2⟩ := hr
  obtain ⟨fo, ro, e3, e4⟩ := hi
  exact op_own (op := .FloorDiv) (by rw [d_floordiv]; exact M) first (by rw [dR_floordiv]; exact e1) e2 (by rw [d_floordiv]; exact e3) (by rw [dR_floordiv]; exact e4) hsub G room bd out
theorem d_mod : dunder Operator.Mod.info.2 = ("__mod__" : Str) := by decide +kernel
theorem dR_mod : dunderR Operator.Mod.info.2 = ("__rmod__" : Str) := by decide +kernel
theorem op_own_Mod (M : Meth X.K C "__mod__" f) (first : PySem.W.selfFirst X.K C = true) (hr : ∃ rc : Option Value, PySem.W.findIn X.K (.ref C) "__rmod__" = some rc ∧ (rc = none ∨ ∃ g : Addr, rc = some (.ref g)))
    (hi : ∃ fo ro : Option Value, PySem.W.findIn X.K (.type "int") "__mod__" = some fo ∧ PySem.W.findIn X.K (.type "int") "__rmod__" = some ro) (hsub : PySem.W.subIn X.K (.type "int") (.ref C) = some false)
    (G : FnOk X.prog X.w X.K X.mg X.base CX k f fd ps sp) (room : Room k X.A) (bd : Binds X.K fd ps []) (out : Passes CX X E) : OpR X (binaryOp .Mod) (rOwn C sp E) := by
  obtain ⟨rc, e1, e2⟩ := hr
  obtain ⟨fo, ro, e3, e4⟩ := hi
  exact op_own (op := .Mod) (by rw [d_mod]; exact M) first (by rw [dR_mod]; exact e1) e2 (by rw [d_mod]; exact e3) (by rw [dR_mod]; exact e4) hsub G room bd out
theorem op_ref_Add (M : Meth X.K C "__radd__" f) (first : PySem.W.selfFirst X.K C = true) (own : ∃ f0 : Addr, PySem.W.findIn X.K (.ref C) "__add__" = some (some (.ref f0))) (hsub : PySem.W.subIn X.K (.ref C) (.type "int") = some false)
    (G : FnOk X.prog X.w X.K X.mg X.base CX k f fd ps sp) (room : Room k X.A) (bd : Binds X.K fd ps []) (out : Passes CX X E) : OpR X (binaryOp .Add) (rRef C sp E) := by
  obtain ⟨f0, e1⟩ := own
  exact op_ref (op := .Add) (by rw [dR_add]; exact M) first (by rw [d_add]; exact e1) hsub PySem.F.slot_int_add PySem.F.entry_int_add PySem.F.args_int_add_2 (by kernel_rfl) G room bd out
theorem op_ref_Sub (M : Meth X.K C "__rsub__" f) (first : PySem.W.selfFirst X.K C = true) (own : ∃ f0 : Addr, PySem.W.findIn X.K (.ref C) "__sub__" = some (some (.ref f0))) (hsub : PySem.W.subIn X.K (.ref C) (.type "int") = some false)
    (G : FnOk X.prog X.w X.K X.mg X.base CX k f fd ps sp) (room : Room k X.A) (bd : Binds X.K fd ps []) (out : Passes CX X E) : OpR X (binaryOp .Sub) (rRef C sp E) := by
  obtain ⟨f0, e1⟩ := own
  exact op_ref (op := .Sub) (by rw [dR_sub]; exact M) first (by rw [d_sub]; exact e1) hsub PySem.F.slot_int_sub PySem.F.entry_int_sub PySem.F.args_int_sub_2 (by kernel_rfl) G room bd out
theorem op_ref_Mult (M : Meth X.K C "__rmul__" f) (first : PySem.W.selfFirst X.K C = true) (own : ∃ f0 : Addr, PySem.W.findIn X.K (.ref C) "__mul__" = some (some (.ref f0))) (hsub : PySem.W.subIn X.K (.ref C) (.type "int") = some false)
    (G : FnOk X.prog X.w X.K X.mg X.base CX k f fd ps sp) (room : Room k X.A) (bd : Binds X.K fd ps []) (out : Passes CX X E) : OpR X (binaryOp .Mult) (rRef C sp E) := by
  obtain ⟨f0, e1⟩ := own
  exact op_ref (op := .Mult) (by rw [dR_mul]; exact M) first (by rw [d_mul]; exact e1) hsub PySem.F.slot_int_mul PySem.F.entry_int_mul PySem.F.args_int_mul_2 (by kernel_rfl) G room bd out
end
section
variable {X : Cx} {CX : CXT} {k : Nat} {f C : Addr} {fd : FuncData} {ps : List Str} {sp : Sp} {Ex : L2.St → XK} {a b : Expr} {ta tb : TE} {pos : Pos}
theorem pe_ownT_FloorDiv (M : Meth X.K C "__floordiv__" f) (first : PySem.W.selfFirst X.K C = true) (hr : ∃ rc : Option Value, PySem.W.findIn X.K (.ref C) "__rfloordiv__" = some rc ∧ (rc = none ∨ ∃ g : Addr, rc = some (.ref g)))
    (hi : ∃ fo ro : Option Value, PySem.W.findIn X.K (.type "int") "__floordiv__" = some fo ∧ PySem.W.findIn X.K (.type "int") "__rfloordiv__" = some ro) (hsub : PySem.W.subIn X.K (.type "int") (.ref C) = some false)
    (G : FnOk X.prog X.w X.K X.mg X.base CX k f fd ps sp) (room : Room k X.A) (bd : Binds X.K fd ps []) (out : ∀ τ, PassesAt CX X τ (Ex τ)) (ha : PE X a ta) (hb : PE X b tb) : PE X (.BinOp a .FloorDiv b pos) (tOwnT C sp Ex ta tb) := by
  obtain ⟨rc, e1, e2⟩ := hr
  obtain ⟨fo, ro, e3, e4⟩ := hi
  refine ⟨fun pn st τ H Q J h => wpAny_BinOp (binT ha hb J h fun v u s2 x y H2 J2 rx ry go => ?_)⟩
  exact own_at (op := .FloorDiv) (by rw [d_floordiv]; exact M) first (by rw [dR_floordiv]; exact e1) e2 (by rw [d_floordiv]; exact e3) (by rw [dR_floordiv]; exact e4) hsub G room bd (out τ) J2 rx ry go
theorem pe_ownT_Mod (M : Meth X.K C "__mod__" f) (first : PySem.W.selfFirst X.K C = true) (hr : ∃ rc : Option Value, PySem.W.findIn X.K (.ref C) "__rmod__" = some rc ∧ (rc = none ∨ ∃ g : Addr, rc = some (.ref g)))
    (hi : ∃ fo ro : Option Value, PySem.W.findIn X.K (.type "int") "__mod__" = some fo ∧ PySem.W.findIn X.K (.type "int") "__rmod__" = some ro) (hsub : PySem.W.subIn X.K (.type "int") (.ref C) = some false)
    (G : FnOk X.prog X.w X.K X.mg X.base CX k f fd ps sp) (room : Room k X.A) (bd : Binds X.K fd ps []) (out : ∀ τ, PassesAt CX X τ (Ex τ)) (ha : PE X a ta) (hb : PE X b tb) : PE X (.BinOp a .Mod b pos) (tOwnT C sp Ex ta tb) := by
  obtain ⟨rc, e1, e2⟩ := hr
  obtain ⟨fo, ro, e3, e4⟩ := hi
  refine ⟨fun pn st τ H Q J h => wpAny_BinOp (binT ha hb J h fun v u s2 x y H2 J2 rx ry go => ?_)⟩
  exact own_at (op := .Mod) (by rw [d_mod]; exact M) first (by rw [dR_mod]; exact e1) e2 (by rw [d_mod]; exact e3) (by rw [dR_mod]; exact e4) hsub G room bd (out τ) J2 rx ry go
end

/-! ### x op y where x is an int or an instance, y an instance (or, behind an instance, an int) -/
section
variable {X : Cx} {CX : CXT} {k j : Nat} {f g C : Addr} {fd gd : FuncData} {ps qs : List Str} {sp sq : Sp} {E : XK}
def rAny (C : Addr) (sp sq : Sp) (E : XK) : R2 := fun x y H Q => rOwn C sp E x y H Q ∨ rRef C sq E x y H Q
theorem op_any_Add (M : Meth X.K C "__add__" f) (N : Meth X.K C "__radd__" g) (first : PySem.W.selfFirst X.K C = true) (hi : ∃ fo ro : Option Value, PySem.W.findIn X.K (.type "int") "__add__" = some fo ∧ PySem.W.findIn X.K (.type "int") "__radd__" = some ro)
    (si : PySem.W.subIn X.K (.type "int") (.ref C) = some false) (sr : PySem.W.subIn X.K (.ref C) (.type "int") = some false) (G : FnOk X.prog X.w X.K X.mg X.base CX k f fd ps sp) (G2 : FnOk X.prog X.w X.K X.mg X.base CX j g gd qs sq)
    (room : Room k X.A) (room2 : Room j X.A) (bd : Binds X.K fd ps []) (bd2 : Binds X.K gd qs []) (out : Passes CX X E) : OpR X (binaryOp .Add) (rAny C sp sq E) := by
  intro pins s σ H x y v u Q I rx ry h
  rcases h with h | h
  · exact op_own_Add M first ⟨_, N.at_, .inr ⟨_, rfl⟩⟩ hi si G room bd out pins s σ H x y v u Q I rx ry h
  · exact op_ref_Add N first ⟨_, M.at_⟩ sr G2 room2 bd2 out pins s σ H x y v u Q I rx ry h
theorem op_any_Sub (M : Meth X.K C "__sub__" f) (N : Meth X.K C "__rsub__" g) (first : PySem.W.selfFirst X.K C = true) (hi : ∃ fo ro : Option Value, PySem.W.findIn X.K (.type "int") "__sub__" = some fo ∧ PySem.W.findIn X.K (.type "int") "__rsub__" = some ro)
    (si : PySem.W.subIn X.K (.type "int") (.ref C) = some false) (sr : PySem.W.subIn X.K (.ref C) (.type "int") = some false) (G : FnOk X.prog X.w X.K X.mg X.base CX k f fd ps sp) (G2 : FnOk X.prog X.w X.K X.mg X.base CX j g gd qs sq)
    (room : Room k X.A) (room2 : Room j X.A) (bd : Binds X.K fd ps []) (bd2 : Binds X.K gd qs []) (out : Passes CX X E) : OpR X (binaryOp .Sub) (rAny C sp sq E) := by
  intro pins s σ H x y v u Q I rx ry h
  rcases h with h | h
  · exact op_own_Sub M first ⟨_, N.at_, .inr ⟨_, rfl⟩⟩ hi si G room bd out pins s σ H x y v u Q I rx ry h
  · exact op_ref_Sub N first ⟨_, M.at_⟩ sr G2 room2 bd2 out pins s σ H x y v u Q I rx ry h
theorem op_any_Mult (M : Meth X.K C "__mul__" f) (N : Meth X.K C "__rmul__" g) (first : PySem.W.selfFirst X.K C = true) (hi : ∃ fo ro : Option Value, PySem.W.findIn X.K (.type "int") "__mul__" = some fo ∧ PySem.W.findIn X.K (.type "int") "__rmul__" = some ro)
    (si : PySem.W.subIn X.K (.type "int") (.ref C) = some false) (sr : PySem.W.subIn X.K (.ref C) (.type "int") = some false) (G : FnOk X.prog X.w X.K X.mg X.base CX k f fd ps sp) (G2 : FnOk X.prog X.w X.K X.mg X.base CX j g gd qs sq)
    (room : Room k X.A) (room2 : Room j X.A) (bd : Binds X.K fd ps []) (bd2 : Binds X.K gd qs []) (out : Passes CX X E) : OpR X (binaryOp .Mult) (rAny C sp sq E) := by
  intro pins s σ H x y v u Q I rx ry h
  rcases h with h | h
  · exact op_own_Mult M first ⟨_, N.at_, .inr ⟨_, rfl⟩⟩ hi si G room bd out pins s σ H x y v u Q I rx ry h
  · exact op_ref_Mult N first ⟨_, M.at_⟩ sr G2 room2 bd2 out pins s σ H x y v u Q I rx ry h
end

/-! ### sum(xs, start=x) of own instances -/
theorem args_sumk (a v : Value) : argsOk "sum" ⟨[a], [(Str.ofString "start", v)]⟩ := by unfold argsOk; kernel_rfl
section
variable {prog : Program} {w : World} {A : Around} {E : Value → Shared → Prop} {s : Shared}
/-- a built-in with keywords that goes on by itself -/
theorem call_tree_kw {id : String} {b : Builtin} {args : List Value} {kw : List (Str × Value)} {Q : Value → Shared → Prop} (hk : builtinKind id = none) (hp : plainId id = true)
    (hb : entryFor table id = some b) (ha : argsOk id ⟨args, kw⟩)
    (hc : wpAny (model prog w) A.in1 (b ⟨args, kw⟩) (fun fin s' => match fin with
      | .done f => (match (Except.ok f : Result) with | .ok (.ret v) => Q v s' | .ok _ => False | .error e => E e s')
      | .again c' => c'.quiet = true ∧ codeAny (model prog w) A c' (fun r s' => match r with | .ok (.ret v) => Q v s' | .ok _ => False | .error e => E e s') s') E s) :
    wpAny (model prog w) A (call (.builtin id) args kw) Q E s := by
  refine wpAny_call (codeAny_call_builtin hp hb ?_)
  simp only [checkBuiltinCall, hk]
  cases hsig : Manifest.signature? id with
  | none => exact wpAny_pure hc
  | some sig =>
    simp only [argsOk, hsig] at ha
    have h2 : Bind.checkArgs id sig ⟨args, kw⟩ = pure () := ha
    show wpAny _ A.in1 (Bind.checkArgs id sig ⟨args, kw⟩) _ _ s
    rw [h2]; exact wpAny_pure hc
end
/-- what the top has written of a class whose instances are added up -/
structure SumC (K : PySem.W.Frag) (C : Addr) : Prop where
  str : PySem.W.subIn K (.ref C) (.type "str") = some false
  byt : PySem.W.subIn K (.ref C) (.type "bytes") = some false
  bya : PySem.W.subIn K (.ref C) (.type "bytearray") = some false
  fst : PySem.W.selfFirst K C = true
/-- sum(xs, start=x0); Iv: what holds of the sum by the number of items that are in it -/
def rSumO (K : PySem.W.Frag) (C : Addr) (sp : Sp) : List V → List V → Hp → VK → Prop := fun vs zs H Q => ∃ (l : Addr) (xs : List V) (x0 : V) (Iv : Nat → V → Hp → Prop), vs = [.ref l] ∧ zs = [x0] ∧ Iv 0 x0 H ∧
  (∀ i x H', Iv i x H' → SqL K H' l xs ∧ ∃ a dx fs, x = .ref a ∧ H' a = some (.ins C dx fs)) ∧
  (∀ i x y H', Iv i x H' → xs[i]? = some y → (∃ b dy gs, y = .ref b ∧ H' b = some (.ins C dy gs)) ∧ sp [x, y] H' (fun z H2 => Iv (i + 1) z H2) E0) ∧ (∀ x H', Iv xs.length x H' → Q x H')
section
variable {X : Cx} {CX : CXT} {k : Nat} {f C : Addr} {fd : FuncData} {ps : List Str} {sp : Sp}
/-- what of an object that stands beside the frame does not change -/
def Beside (X : Cx) (pins : List (Addr × Obj)) (b : Addr) : Prop := b ≠ X.env.locals ∧ b ∉ X.fs ∧ (b ∈ X.ex ∨ X.s_0.heap.objs.size ≤ b) ∧ (∀ x c, X.env.cells.lookup x = some c → c ≠ b) ∧ ∀ p ∈ X.pn ++ pins, p.1 ≠ b
theorem Beside.of_new {pins : List (Addr × Obj)} {σ : L2.St} {H : Hp} {s : Shared} {b : Addr} (I : Inv X pins σ H s) (hb : s.heap.objs.size ≤ b) : Beside X pins b := (I.fpOk hb (I.hok.fresh hb)).2
theorem inv_beside {pins : List (Addr × Obj)} {σ : L2.St} {H : Hp} {s : Shared} {b : Addr} {h' : Heap} {t' : Nat} (I : Inv X pins σ H s) (B : Beside X pins b) (n : H b = none) (k : ∀ c o, c ≠ b → s.heap.get? c = some o → h'.get? c = some o) :
    Inv X pins σ H { s with heap := h', toks := t' } := I.turned k n B.1 B.2.2.1 B.2.2.2.1 B.2.2.2.2
theorem pin_two {pins : List (Addr × Obj)} {σ : L2.St} {H : Hp} {s : Shared} {a b : Addr} {oa ob : Obj} (I : Inv X pins σ H s) (ha : s.heap.get? a = some oa) (hb : s.heap.get? b = some ob) (na : H a = none) (nb : H b = none) (Ba : Beside X pins a) (Bb : Beside X pins b) (ca : ∀ v, oa.data ≠ .cell v) (cb : ∀ v, ob.data ≠ .cell v) :
    Inv X ((a, oa) :: (b, ob) :: pins) σ H s := by
  refine I.pins_of fun p hp => ?_
  rcases List.mem_cons.mp hp with e | e
  · subst e
    exact ⟨ha, na, Ba.1, Ba.2.1, ca⟩
  rcases List.mem_cons.mp e with e | e
  · subst e
    exact ⟨hb, nb, Bb.1, Bb.2.1, cb⟩
  · exact I.pin p (List.mem_append_right _ e)
/-- x + y where the frames are X's and nothing is raised -/
theorem add_in {B : Around} {E : Value → Shared → Prop} {pins : List (Addr × Obj)} {σ : L2.St} {H : Hp} {s : Shared} {Q : VK} {a b dx dy : Addr} {fs gs : List (Str × V)} (M : Meth X.K C "__add__" f) (first : PySem.W.selfFirst X.K C = true)
    (out : ∀ E, Passes CX (X.wish E) E0) (G : FnOk X.prog X.w X.K X.mg X.base CX k f fd ps sp) (room : Room k B) (fr : B.frames = X.A.frames) (bd : Binds X.K fd ps []) (I : Inv X pins σ H s) (ha : H a = some (.ins C dx fs)) (hb : H b = some (.ins C dy gs)) (h : sp [.ref a, .ref b] H Q E0) :
    wpAny (model X.prog X.w) B (binaryOp .Add (.ref a) (.ref b)) (EP X pins σ Q) E s := by
  obtain ⟨_, od, J⟩ := inst_of I ha
  obtain ⟨_, od', J'⟩ := inst_of I hb
  obtain ⟨m, F⟩ := I.fr
  have ran : wpAny (model X.prog X.w) B (call (.ref f) [.ref a, .ref b]) (PySem.W.CmpBack (EP X pins σ Q)) E s :=
    wpAny_mono (run_in (X := X.wish E) (B := B) G room fr bd (out E) (I.wish E) (.cons (show L2.RelV (.ref a) (.ref a) from rfl) (.cons (show L2.RelV (.ref b) (.ref b) from rfl) .nil)) h)
      (fun _ _ ⟨v, H', J, r, q⟩ => ep_back ⟨v, H', J.unwish, r, q⟩) fun _ _ z => z
  exact PySem.W.binop_K F I.ok.mod.kin J J'.type first (by rw [d_add]; exact M.at_) M.fn ran
theorem sum_go {B : Around} {pins : List (Addr × Obj)} {σ : L2.St} {l it S : Addr} {xs : List V} {Iv : Nat → V → Hp → Prop} {Q : VK} {R : Result → Shared → Prop} (M : Meth X.K C "__add__" f) (first : PySem.W.selfFirst X.K C = true) (hh : B.handled = none)
    (out : ∀ E, Passes CX (X.wish E) E0) (G : FnOk X.prog X.w X.K X.mg X.base CX k f fd ps sp) (room : Room k B.in1) (fr : B.frames = X.A.frames) (bd : Binds X.K fd ps []) (Bi : Beside X pins it) (BS : Beside X pins S) (ne : it ≠ S)
    (inv : ∀ i x H', Iv i x H' → SqL X.K H' l xs ∧ ∃ a dx fs, x = .ref a ∧ H' a = some (.ins C dx fs))
    (step : ∀ i x y H', Iv i x H' → xs[i]? = some y → (∃ b dy gs, y = .ref b ∧ H' b = some (.ins C dy gs)) ∧ sp [x, y] H' (fun z H2 => Iv (i + 1) z H2) E0) (last : ∀ x H', Iv xs.length x H' → Q x H')
    (hR : ∀ u s', EP X pins σ Q u s' → R (.ok (.ret u)) s') :
    ∀ (m i : Nat) (s : Shared) (H : Hp) (x : V) (v : Value) (c : Nat), xs.length - i = m → i ≤ xs.length → Inv X pins σ H s → s.heap.IsListIter it l i → H it = none → H S = none → s.heap.get? S = some { cls := .type "list", dict := none, data := .seq #[v] c, slots := #[] } →
      Iv i x H → RelV x v → codeAny (model X.prog X.w) B (.builtin "sum.loop" ⟨[.ref it, .ref S, rawInt 2, rawInt 0], []⟩) R s := by
  intro m
  induction m with
  | zero =>
    intro i s H x v c hm hi I st ni nS hS iv rv
    obtain ⟨hl, a, dx, fs, rfl, ha⟩ := inv i x H iv
    obtain ⟨its, rvs, p, hz⟩ := I.list hl
    cases (show v = Value.ref a from rv)
    have e : i = xs.length := by omega
    subst e
    refine codeAny_builtin F.entry_sum_loop ?_
    rw [Around.under_plainId F.plain_sum_loop _]
    show wpAny _ B.in1 (seqItems? (.ref S) >>= _) _ _ s
    refine wpAny_bind (wpAny_seqItems hS rfl ?_)
    show wpAny _ B.in1 (tryCatch (pyNext (.ref it)) _ >>= _) _ _ s
    have hlen := rvs.length
    refine wpAny_bind (wpAny_tryCatch (wpAny_pyNext_list_end hh st p.isList (by simp; omega) fun h' eb => ?_))
    exact wpAny_pure (hR _ _ ⟨.ref a, H, inv_beside (t' := s.toks) I Bi ni fun b o hb e => eb b o hb e, rfl, last _ _ iv⟩)
  | succ m ih =>
    intro i s H x v c hm hi I st ni nS hS iv rv
    obtain ⟨hl, a, dx, fs, rfl, ha⟩ := inv i x H iv
    obtain ⟨its, rvs, p, hz⟩ := I.list hl
    cases (show v = Value.ref a from rv)
    have lt : i < xs.length := by omega
    obtain ⟨y, hy⟩ : ∃ y, xs[i]? = some y := ⟨_, List.getElem?_eq_getElem lt⟩
    obtain ⟨u, hu, ru⟩ := rvs.get hy
    obtain ⟨⟨b, dy, gs, rfl, hb⟩, go⟩ := step i _ y H iv hy
    cases (show u = Value.ref b from ru)
    refine codeAny_builtin F.entry_sum_loop ?_
    rw [Around.under_plainId F.plain_sum_loop _]
    show wpAny _ B.in1 (seqItems? (.ref S) >>= _) _ _ s
    refine wpAny_bind (wpAny_seqItems hS rfl ?_)
    show wpAny _ B.in1 (tryCatch (pyNext (.ref it)) _ >>= _) _ _ s
    refine wpAny_bind (wpAny_tryCatch (wpAny_pyNext_list_item st p.isList (x := .ref b) (by simpa using hu) fun h' st' sb => ?_))
    show wpAny _ B.in1 ((holding [Value.ref b] (binaryOp .Add (.ref a) (.ref b))).attempt >>= _) _ _ _
    have I1 : Inv X pins σ H { s with heap := h' } := inv_beside (t' := s.toks) I Bi ni fun b o hb e => (sb.2 b hb).trans e
    have hS1 : h'.get? S = some { cls := .type "list", dict := none, data := .seq #[Value.ref a] c, slots := #[] } := (sb.2 S (Ne.symm ne)).trans hS
    obtain ⟨oi, hoi, hci, hdi⟩ := id st'
    have I2 := pin_two I1 hoi hS1 ni nS Bi BS (fun v z => by rw [hdi] at z; cases z) (fun v z => by cases z)
    refine wpAny_bind (wpAny_attempt (wpAny_holding (wpAny_mono (add_in M first out G room fr bd I2 ha hb go) (fun z s3 back => ?_) fun _ _ z => z)))
    obtain ⟨zv, H3, I3, rz, iv3⟩ := back
    have hi3 := pin_at I3
    have n3 := ClX.pin_un I3
    have I4 := ClX.unpin I3
    have hS3 := pin_at I4
    have nS3 := ClX.pin_un I4
    have I5 := ClX.unpin I4
    have it3 : s3.heap.IsListIter it l (i + 1) := ⟨oi, hi3, hci, hdi⟩
    show wpAny _ B.in1 (updateSeq S (fun _ => #[z]) >>= _) _ _ _
    refine wpAny_bind (wpAny_updateSeq hS3 rfl ?_)
    have hS4 := Heap.get?_update_self (Obj.mapSeq fun _ => #[z]) hS3 rfl
    refine wpAny_bind (wpAny_letGo ?_)
    refine wpAny_bind (wpAny_updateSeq hS4 rfl (wpAny_pure ⟨plainId_quiet F.plain_sum_loop _, ?_⟩))
    have kp : ∀ b o, b ≠ S → s3.heap.get? b = some o → ((s3.heap.update S (Obj.mapSeq fun _ => #[z])).update S (Obj.mapSeq fun _ => #[z])).get? b = some o := fun b o hb e =>
      (Heap.get?_update_other _ _ (Ne.symm hb)).trans ((Heap.get?_update_other _ _ (Ne.symm hb)).trans e)
    have I6 := inv_beside (t' := s3.toks) I5 BS nS3 kp
    exact ih (i + 1) _ H3 zv z _ (by omega) lt I6 ⟨oi, kp it oi ne hi3, hci, hdi⟩ n3 nS3 (Heap.get?_update_self _ hS4 rfl) iv3 rz
/-- sum(xs, start=x0) of instances of a class with an own __add__ -/
theorem cr_sumO (S : SumC X.K C) (M : Meth X.K C "__add__" f) (hc : X.calm = true) (out : ∀ E, Passes CX (X.wish E) E0) (G : FnOk X.prog X.w X.K X.mg X.base CX k f fd ps sp) (room : Room (k + 1) X.A) (bd : Binds X.K fd ps []) : CallRK X (.builtin "sum") [Str.ofString "start"] (rSumO X.K C sp) := by
  intro pins s σ H vs zs us ws Q I r rz h
  obtain ⟨l, xs, x0, Iv, rfl, rfl, iv0, inv, step, last⟩ := h
  obtain rfl := Vals.ref1 r
  obtain ⟨w1, rfl, e1⟩ := vals1 rz
  obtain ⟨hl, a, dx, fs, rfl, ha⟩ := inv 0 x0 H iv0
  cases (show w1 = Value.ref a from e1)
  obtain ⟨its, rvs, p, hz⟩ := I.list hl
  show wpAny _ _ (call (.builtin "sum") [.ref l] [(Str.ofString "start", .ref a)]) _ _ _
  refine call_tree_kw F.kind_sum F.plain_sum F.entry_sum (args_sumk _ _) ?_
  unfold Builtin.«sum»
  simp only [List.length_cons, List.length_nil]
  rw [if_neg (by decide)]
  refine wpAny_bind (wpAny_of_eq (show Builtin.Builtins.bindParams "sum" ["start"] 0 ⟨[], [(Str.ofString "start", Value.ref a)]⟩ = pure [some (Value.ref a)] from by kernel_rfl) ?_)
  refine wpAny_bind (wpAny_pyIter_list p.isList ?_)
  have I1 : Inv X pins σ H { s with heap := s.heap.push { cls := .type "list_iterator", data := .fields #[.ref l, .int 0 0] } } := I.kept (t' := s.toks) fun b o e => Heap.get?_push_of_some _ e
  obtain ⟨_, od, J⟩ := inst_of I1 ha
  refine wpAny_bind (wpAny_pure ?_)
  simp only [List.forIn_cons, List.forIn_nil]
  refine wpAny_bind (wpAny_bind (wpAny_bind ((show PySem.W.Looks (model X.prog X.w) _ (isInstance (.ref a) (.type "str")) false from J.type.andThen (PySem.W.looks_subIn I1.kIn S.str)).here ?_)))
  simp only [Bool.false_eq_true, if_false]
  refine wpAny_pure (wpAny_bind (wpAny_bind ((show PySem.W.Looks (model X.prog X.w) _ (isInstance (.ref a) (.type "bytes")) false from J.type.andThen (PySem.W.looks_subIn I1.kIn S.byt)).here ?_)))
  simp only [Bool.false_eq_true, if_false]
  refine wpAny_pure (wpAny_bind (wpAny_bind ((show PySem.W.Looks (model X.prog X.w) _ (isInstance (.ref a) (.type "bytearray")) false from J.type.andThen (PySem.W.looks_subIn I1.kIn S.bya)).here ?_)))
  simp only [Bool.false_eq_true, if_false]
  refine wpAny_pure (wpAny_pure ?_)
  refine wpAny_bind (wpAny_newObj_type ?_)
  have sz : (s.heap.push { cls := .type "list_iterator", data := .fields #[.ref l, .int 0 0] }).objs.size = s.heap.objs.size + 1 := size_push' _ _
  have Bi := Beside.of_new I (Nat.le_refl s.heap.objs.size)
  have BS := Beside.of_new I (b := s.heap.objs.size + 1) (Nat.le_succ _)
  have n1 := I.hok.fresh (Nat.le_refl s.heap.objs.size)
  have n2 := I.hok.fresh (Nat.le_succ s.heap.objs.size)
  refine wpAny_pure ⟨plainId_quiet F.plain_sum_loop _, ?_⟩
  rw [show (s.heap.push { cls := .type "list_iterator", data := .fields #[.ref l, .int 0 0] }).objs.size = s.heap.objs.size + 1 from sz]
  refine sum_go (Q := Q) (Iv := Iv) M S.fst (I.ok.hd hc) out G room.in1 rfl bd Bi BS (Nat.ne_of_lt (Nat.lt_succ_self _)) inv step last (fun u s' z => z) xs.length 0 _ H (.ref a) (.ref a) 0 (by omega) (Nat.zero_le _)
    (I1.kept (t' := s.toks) fun b o e => Heap.get?_push_of_some _ e) ⟨_, Heap.get?_push_of_some _ (Heap.get?_push_size _ rfl), rfl, rfl⟩ n1 n2 ?_ iv0 rfl
  show ((s.heap.push { cls := .type "list_iterator", data := .fields #[.ref l, .int 0 0] }).push ({ cls := .type "list", dict := none, data := .seq #[Value.ref a] 0, slots := #[] } : Obj)).get? (s.heap.objs.size + 1) = _
  rw [← sz]
  exact Heap.get?_push_size _ rfl
end

/-! ### t[::-1] of a tuple -/
section
variable {prog : Program} {w : World} {A : Around} {E : Value → Shared → Prop} {s : Shared}
theorem places_rev (n : Nat) : Builtin.Slice.slicePlaces ((n : Int) - 1) (-1) (-1) = n := by
  unfold Builtin.Slice.slicePlaces
  have h1 : ¬ ((-1 : Int) > 0) := by omega
  have h2 : (- -1 : Int) = 1 := by decide
  simp only [h1, if_false, h2, Int.ediv_one]
  split <;> omega
theorem sliceApplied_rev {sl : Addr} {vl vu vs : Value} {n : Nat} {Q : Int × Int × Nat → Shared → Prop} (hs : s.heap.IsSliceOf sl vl vu vs) (pl : IsPart vl none) (pu : IsPart vu none) (ps : IsPart vs (some (-1)))
    (h : Q ((n : Int) - 1, -1, n) s) : wpAny (model prog w) A (Builtin.Slice.sliceApplied (.ref sl) (pure (n : Int))) Q E s := by
  obtain ⟨os, hos, hcs, hds⟩ := id hs
  unfold Builtin.Slice.sliceApplied Builtin.Slice.sliceFields
  refine wpAny_bind (wpAny_bind (wpAny_field hos hds (x := vl) rfl (wpAny_bind (wpAny_field hos hds (x := vu) rfl (wpAny_bind (wpAny_field hos hds (x := vs) rfl (wpAny_pure ?_)))))))
  refine wpAny_bind (HT.slicePart_ ps ?_)
  show wpAny _ _ (if ((-1 : Int) == 0) = true then _ else _) _ _ s
  rw [if_neg (by decide)]
  refine wpAny_bind (HT.slicePart_ pl (wpAny_bind (HT.slicePart_ pu (wpAny_bind (wpAny_pure ?_)))))
  show wpAny _ _ (pure ((n : Int) - 1, (-1 : Int), Builtin.Slice.slicePlaces ((n : Int) - 1) (-1) (-1))) _ _ s
  rw [places_rev]
  exact wpAny_pure h
theorem fm_congr {α β : Type} {f g : α → Option β} : ∀ {l : List α}, (∀ x ∈ l, f x = g x) → l.filterMap f = l.filterMap g
  | [], _ => rfl
  | x :: r, h => by
    rw [List.filterMap_cons, List.filterMap_cons, h x List.mem_cons_self, fm_congr fun y hy => h y (List.mem_cons_of_mem _ hy)]
theorem pick_rev (xs : Array Value) : ((List.range xs.size).filterMap fun (m : Nat) => xs[((xs.size : Int) - 1 + (m : Int) * -1).toNat]?).toArray = xs.toList.reverse.toArray := by
  have e : (List.range xs.size).filterMap (fun (m : Nat) => xs[((xs.size : Int) - 1 + (m : Int) * -1).toNat]?) = ((List.range xs.size).map fun k => xs.size - 1 - k).filterMap (xs[·]?) := by
    rw [List.filterMap_map]
    refine fm_congr ?_
    intro m hm
    have := List.mem_range.mp hm
    show xs[((xs.size : Int) - 1 + (m : Int) * -1).toNat]? = xs[xs.size - 1 - m]?
    congr 1
    omega
  rw [e, PySem.W.krv_range, List.filterMap_reverse, PySem.W.krv_all]
theorem getItem_tuple_rev {t sl : Addr} {items : Array Value} {vl vu vs : Value} {Q : Value → Shared → Prop} (ht : IsTup s.heap t items) (hs : s.heap.IsSliceOf sl vl vu vs) (pl : IsPart vl none) (pu : IsPart vu none) (ps : IsPart vs (some (-1)))
    (h : Q (.ref s.heap.objs.size) { s with heap := s.heap.push { cls := .type "tuple", data := .seq items.toList.reverse.toArray } }) (hsz : items.size ≤ sizeLine) : wpAny (model prog w) A (getItem (.ref t) (.ref sl)) Q E s := by
  have htake : sizeOk (.seq items.toList.reverse.toArray) := by
    show items.toList.reverse.toArray.size ≤ sizeLine
    rw [List.size_toArray, List.length_reverse, Array.length_toList]
    exact hsz
  obtain ⟨os, hos, hcs, hds⟩ := id hs
  have hTs : s.TypeIs (.ref sl) "slice" := ⟨os, hos, hcs⟩
  unfold getItem
  try with_reducible refine wpAny_holding ?_
  first | refine wpAny_bind (wpAny_pure ?_) | skip
  refine wpAny_bind (wpAny_sequenceKey ht.typeIs (by decide) ?_)
  refine wpAny_bind (wpAny_callSpecial?_slot (name := Str.ofString "__getitem__") ht.typeIs PyProof.Rows.slot_tuple_getitem
    (wpAny_call_entry PyProof.Rows.slot_tuple_getitem ht.typeIs entry_tuple_getitem ?_ (args_tuple_getitem _ _)))
  show wpAny _ _ (Builtin.Tuple.tupleItemsOf (.ref t) >>= _) _ _ s
  refine wpAny_bind (tupleItemsOf_ ht ?_)
  refine wpAny_bind (wpAny_typeOf hTs ?_)
  rw [if_pos (by decide)]
  refine wpAny_bind (sliceApplied_rev hs pl pu ps ?_)
  have hno : ¬ ((((items.size : Int) - 1) == 0 && (-1 : Int) == 1 && items.size == items.size) = true) := by
    intro q
    rw [Bool.and_eq_true, Bool.and_eq_true] at q
    exact absurd q.1.2 (by decide)
  show wpAny _ _ (if (((items.size : Int) - 1) == 0 && (-1 : Int) == 1 && items.size == items.size) = true then _ else _) _ _ s
  rw [if_neg hno, pick_rev]
  first
    | exact wpAny_bind (m := Builtin.Tuple.tupleExact _) (wpAny_newObj_type (wpAny_pure ⟨_, rfl, wpAny_pure h⟩) htake)
    | exact wpAny_bind (m := Builtin.Tuple.tupleExact _) (wpAny_newObj_type (wpAny_bind (wpAny_pure (wpAny_pure ⟨_, rfl, wpAny_pure h⟩))) htake)
    | exact wpAny_bind (wpAny_bind (m := Builtin.Tuple.tupleExact _) (wpAny_newObj_type (wpAny_pure (wpAny_pure ⟨_, rfl, wpAny_pure h⟩)) htake))
    | exact wpAny_bind (wpAny_bind (m := Builtin.Tuple.tupleExact _) (wpAny_newObj_type (wpAny_pure ⟨_, rfl, wpAny_pure h⟩) htake))
end
section
variable {X : Cx}
def tRevT (K : PySem.W.Frag) (te : TE) : TE := fun σ H Q => te σ H fun x H1 => ∃ a xs, x = .ref a ∧ SqT K H1 a xs ∧ ∀ p, H1 p = none → Q (.ref p) (upd H1 p (.tup xs.reverse))
theorem pe_revT {e : Expr} {te : TE} {k : Nat} {p1 p2 p3 pos : Pos} (he : PE X e te) : PE X (.Subscript e (.Slice none none (some (.UnaryOp .USub (.Constant (.int 1) k p1) p2)) p3) pos) (tRevT X.K te) := by
  refine ⟨fun pins s σ H Q I h => ?_⟩
  refine Subscript_ (thn (he.run pins s σ H _ I h) fun v s1 ⟨x, H1, I1, r1, q1⟩ => ?_)
  obtain ⟨a, xs, ex, hx, q⟩ := q1
  subst ex
  cases r1
  have hst : PO X (some (.UnaryOp .USub (.Constant (.int 1) k p1) p2)) (tPart (tUn (rU fun i => .int (-i)) (tC (.int 1)))) := po_some (pe_un un_neg pe_int)
  refine wpAny_Slice (thn (po_none.run pins s1 σ H1 (fun o H2 => o = none ∧ H2 = H1) I1 ⟨rfl, rfl⟩) fun vl s2 ⟨l, H2, I2, pl, el, e2⟩ => ?_)
  subst el e2
  refine thn (po_none.run pins s2 σ H2 (fun o H3 => o = none ∧ H3 = H2) I2 ⟨rfl, rfl⟩) fun vu s3 ⟨u, H3, I3, pu, eu, e3⟩ => ?_
  subst eu e3
  refine thn (hst.run pins s3 σ H3 (fun o H4 => o = some (-1) ∧ H4 = H3) I3 ⟨1, rfl, -1, rfl, rfl, rfl⟩) fun vs s4 ⟨o, H4, I4, ps, eo, e4⟩ => ?_
  subst eo e4
  have I5 : Inv X pins σ H4 { s4 with heap := s4.heap.push { cls := .type "slice", data := .fields #[vl, vu, vs] } } := I4.kept (t' := s4.toks) fun b ob q => Heap.get?_push_of_some _ q
  obtain ⟨its, r, ht, hz⟩ := I5.tuple hx
  have hlen := r.length
  show wpAny (model X.prog X.w) X.A (subscriptTail e (.Slice none none (some (.UnaryOp .USub (.Constant (.int 1) k p1) p2)) p3) (.ref a) (.ref s4.heap.objs.size)) (EP X pins σ Q) X.xe { s4 with heap := s4.heap.push { cls := .type "slice", data := .fields #[vl, vu, vs] } }
  refine tail_any (ops := [.ref a, .ref s4.heap.objs.size]) ht.typeIs PyProof.Rows.slot_tuple_getitem.lookup ?_ (by with_unfolding_all rfl)
  refine getItem_tuple_rev ht (Heap.IsSliceOf.new _ vl vu vs) pl pu ps ?_ (by rw [List.size_toArray]; omega)
  refine ⟨.ref _, _, I5.laid (t' := s4.toks) (o := .tup xs.reverse) (fun b ob q => Heap.get?_push_of_some _ q) (Nat.le_refl _) ?_, rfl, q _ (I5.hok.fresh (Nat.le_refl _))⟩
  exact ⟨by rw [List.length_reverse]; exact hz, _, r.reverse, IsTup.new _ _⟩
end

/-- a lot: ascending, from 0 on, below m -/
def lotB : List Int → Int → Int → Bool
  | [], _, _ => true
  | n :: r, b, m => if n ≤ b ∨ n ≥ m then false else lotB r n m

theorem fW_many (m a : Int) (t : Addr) : (fW m a t).lookup ("many" : Str) = some (V.int m) := by rfl

theorem lotB_in : ∀ {ns : List Int} {b m : Int}, lotB ns b m = true → ∀ n ∈ ns, b < n ∧ n < m
  | [], _, _, _, _, h => by cases h
  | x :: r, b, m, e, n, h => by
    by_cases c : x ≤ b ∨ x ≥ m
    · rw [show lotB (x :: r) b m = false from if_pos c] at e
      cases e
    · rw [show lotB (x :: r) b m = lotB r x m from if_neg c] at e
      rcases List.mem_cons.mp h with rfl | h
      · omega
      · have := lotB_in e n h
        omega
/-- the sum of the weights of a lot -/
def wSum (ws ns : List Int) : Int := (ns.map fun n => ws.getD n.toNat 0).sum
def wAt (ws ns : List Int) (i : Nat) : Int := if inV (.int (i : Int)) (ns.map V.int) = true then ws.getD i 0 else 0
theorem ws_at {ws : List Int} {n : Int} (h0 : 0 ≤ n) (h1 : n < ws.length) : atI (ws.map V.int) n = some (.int (ws.getD n.toNat 0)) := by
  obtain ⟨k, rfl⟩ : ∃ k : Nat, n = (k : Int) := ⟨n.toNat, by omega⟩
  have lt : k < ws.length := by omega
  refine atI_nat (int_at ?_)
  rw [Int.toNat_natCast, List.getD_eq_getElem?_getD, List.getElem?_eq_getElem lt]
  rfl
theorem ints_flat (ns : List Int) : (ns.map V.int).all flatV = true := by
  rw [List.all_eq_true]
  intro x hx
  obtain ⟨n, _, rfl⟩ := List.mem_map.mp hx
  rfl

theorem fW_shares (m a : Int) (t : Addr) : (fW m a t).lookup ("shares" : Str) = none := by rfl
theorem fW_away (m a : Int) (t : Addr) : (fW m a t).lookup ("away" : Str) = none := by rfl
theorem inV_int {n : Int} {ns : List Int} : inV (.int n) (ns.map V.int) = true ↔ n ∈ ns := by
  unfold inV
  rw [List.any_eq_true]
  constructor
  · rintro ⟨x, hx, e⟩
    obtain ⟨m, hm, rfl⟩ := List.mem_map.mp hx
    have e : decide (m = n) = true := by
      first | exact e | (simpa [eqV] using e)
    rw [← of_decide_eq_true e]
    exact hm
  · intro h
    refine ⟨.int n, List.mem_map.mpr ⟨n, h, rfl⟩, ?_⟩
    first | exact decide_eq_true rfl | simp [eqV]
/-- the values of f at the things of a lot, the others 0 -/
def hitF (f : Nat → Int) (ns : List Int) (i : Nat) : Int := if inV (.int (i : Int)) (ns.map V.int) = true then f i else 0
theorem lot_sum (f : Nat → Int) : ∀ (k : Nat) (b : Int) (lo : Nat) (ns : List Int) (m : Int), (lo : Int) = b + 1 → m - (lo : Int) = (k : Int) → lotB ns b m = true → ((List.range' lo k).map (hitF f ns)).sum = (ns.map fun n => f n.toNat).sum
  | 0, b, lo, ns, m, hb, hk, h => by
    cases ns with
    | nil => rfl
    | cons n r =>
      have := lotB_in h n List.mem_cons_self
      omega
  | k + 1, b, lo, ns, m, hb, hk, h => by
    rw [List.range'_succ, List.map_cons, List.sum_cons]
    cases ns with
    | nil =>
      rw [show hitF f [] lo = 0 from rfl, lot_sum f k (b + 1) (lo + 1) [] m (by omega) (by omega) rfl]
      rfl
    | cons n r =>
      by_cases c : n = (lo : Int)
      · have hn := lotB_in h n List.mem_cons_self
        have hr : lotB r n m = true := by
          have e : lotB (n :: r) b m = lotB r n m := if_neg (by omega)
          rw [← e]
          exact h
        have ih := lot_sum f k n (lo + 1) r m (by omega) (by omega) hr
        have same : (List.range' (lo + 1) k).map (hitF f (n :: r)) = (List.range' (lo + 1) k).map (hitF f r) := by
          apply List.map_congr_left
          intro i hi
          have hi := (List.mem_range'_1.mp hi).1
          unfold hitF
          have e : inV (.int (i : Int)) ((n :: r).map V.int) = inV (.int (i : Int)) (r.map V.int) := by
            rw [Bool.eq_iff_iff, inV_int, inV_int, List.mem_cons]
            constructor
            · rintro (z | z)
              · omega
              · exact z
            · exact .inr
          rw [e]
        rw [same, ih, List.map_cons, List.sum_cons]
        congr 1
        unfold hitF
        rw [if_pos (inV_int.mpr (by rw [c]; exact List.mem_cons_self)), c, Int.toNat_natCast]
      · have hn := lotB_in h n List.mem_cons_self
        have hr : lotB (n :: r) (b + 1) m = true := by
          have e : lotB (n :: r) b m = lotB r n m := if_neg (by omega)
          rw [e] at h
          exact (if_neg (by omega)).trans h
        rw [lot_sum f k (b + 1) (lo + 1) (n :: r) m (by omega) (by omega) hr]
        have z : hitF f (n :: r) lo = 0 := by
          unfold hitF
          refine if_neg fun y => ?_
          have y := inV_int.mp y
          have := lotB_in hr _ y
          omega
        rw [z, Int.zero_add]
theorem wAt_sum {ws ns : List Int} (h : lotB ns (-1) ws.length = true) : ((List.range ws.length).map (wAt ws ns)).sum = wSum ws ns := by
  rw [List.range_eq_range']
  exact lot_sum (fun i => ws.getD i 0) ws.length (-1) 0 ns ws.length rfl (by omega) h
theorem getD_nn {ws : List Int} (h : ∀ w ∈ ws, 1 ≤ w) (i : Nat) : 0 ≤ ws.getD i 0 := by
  rw [List.getD_eq_getElem?_getD]
  cases e : ws[i]? with
  | none => exact Int.le_refl 0
  | some w =>
    have := h w (List.mem_of_getElem? e)
    show 0 ≤ w
    omega
theorem wAt_nn {ws ns : List Int} (h : ∀ w ∈ ws, 1 ≤ w) (i : Nat) : 0 ≤ wAt ws ns i := by
  unfold wAt
  split
  · exact getD_nn h i
  · exact Int.le_refl 0
theorem sum_nn : ∀ {l : List Int}, (∀ x ∈ l, 0 ≤ x) → 0 ≤ l.sum
  | [], _ => Int.le_refl 0
  | x :: r, h => by
    rw [List.sum_cons]
    have := h x List.mem_cons_self
    have := sum_nn fun y hy => h y (List.mem_cons_of_mem _ hy)
    omega
theorem take_le {l : List Int} (h : ∀ x ∈ l, 0 ≤ x) (i : Nat) : 0 ≤ (l.take i).sum ∧ (l.take i).sum ≤ l.sum := by
  have a := sum_nn fun x hx => h x (List.mem_of_mem_take (i := i) hx)
  have b := sum_nn fun x hx => h x (List.mem_of_mem_drop (i := i) hx)
  have e : (l.take i).sum + (l.drop i).sum = l.sum := by
    rw [← List.sum_append, List.take_append_drop]
  omega
theorem mem_le {l : List Int} (h : ∀ x ∈ l, 0 ≤ x) : ∀ x ∈ l, x ≤ l.sum := by
  induction l with
  | nil =>
    intro x hx
    cases hx
  | cons y r ih =>
    intro x hx
    have hr : ∀ z ∈ r, 0 ≤ z := fun z hz => h z (List.mem_cons_of_mem _ hz)
    have := sum_nn hr
    have := h y List.mem_cons_self
    rw [List.sum_cons]
    rcases List.mem_cons.mp hx with rfl | hx
    · omega
    · have := ih hr x hx
      omega

theorem kL : kitB "list" "list" = some true := by decide +kernel
theorem lotB_mono : ∀ {ns : List Int} {b m m' : Int}, lotB ns b m = true → m ≤ m' → lotB ns b m' = true
  | [], _, _, _, _, _ => rfl
  | n :: r, b, m, m', h, le => by
    have hn := lotB_in h n List.mem_cons_self
    have e : lotB (n :: r) b m = lotB r n m := if_neg (by omega)
    rw [e] at h
    exact (if_neg (by omega)).trans (lotB_mono h le)
theorem lotB_snoc : ∀ {ns : List Int} {b m : Int}, lotB ns b m = true → b < m → lotB (ns ++ [m]) b (m + 1) = true
  | [], b, m, _, lt => (if_neg (by omega) : lotB [m] b (m + 1) = lotB [] m (m + 1)).trans rfl
  | n :: r, b, m, h, lt => by
    have hn := lotB_in h n List.mem_cons_self
    have e : lotB (n :: r) b m = lotB r n m := if_neg (by omega)
    rw [e] at h
    exact (if_neg (by omega)).trans (lotB_snoc h hn.2)
theorem lotB_pw : ∀ {ns : List Int} {b m : Int}, lotB ns b m = true → ns.Pairwise (· < ·)
  | [], _, _, _ => .nil
  | n :: r, b, m, h => by
    have hn := lotB_in h n List.mem_cons_self
    have e : lotB (n :: r) b m = lotB r n m := if_neg (by omega)
    rw [e] at h
    exact .cons (fun x hx => (lotB_in h x hx).1) (lotB_pw h)
theorem lotB_no {ns : List Int} {b m : Int} (h : lotB ns b m = true → False) : lotB ns b m = false := by
  cases e : lotB ns b m with
  | true => exact (h e).elim
  | false => rfl
theorem wSum_snoc (ws ns : List Int) {i : Nat} {n : Int} (h : ns[i]? = some n) : wSum ws (ns.take (i + 1)) = wSum ws (ns.take i) + ws.getD n.toNat 0 := by
  unfold wSum
  rw [List.take_add_one, h, List.map_append, List.sum_append]
  simp

/-- what of a rule by weights stands in the heap -/
def WAt (C : Addr) (H : Hp) (p dx t : Addr) (ws : List Int) (b : Int) : Prop := H p = some (.ins C dx (fW ws.length b t)) ∧ H t = some (.tup (ws.map V.int))
theorem WAt.same {C : Addr} {H H' : Hp} {p dx t : Addr} {ws : List Int} {b : Int} (s : Same H H') (h : WAt C H p dx t ws b) : WAt C H' p dx t ws b := ⟨s _ _ h.1, s _ _ h.2⟩
theorem wSum_nn {ws ns : List Int} (hw : ∀ w ∈ ws, 1 ≤ w) (ok : lotB ns (-1) ws.length = true) : 0 ≤ wSum ws ns ∧ ∀ j, j < ws.length → 0 ≤ wAt ws ns j ∧ wAt ws ns j ≤ wSum ws ns := by
  have nn : ∀ x ∈ (List.range ws.length).map (wAt ws ns), 0 ≤ x := fun x hx => by
    obtain ⟨i, _, rfl⟩ := List.mem_map.mp hx
    exact wAt_nn hw i
  have es := wAt_sum ok
  refine ⟨es ▸ sum_nn nn, fun j hj => ⟨wAt_nn hw j, es ▸ mem_le nn _ (List.mem_map.mpr ⟨j, List.mem_range.mpr hj, rfl⟩)⟩⟩
theorem cat_any {K : PySem.W.Frag} {a b : Addr} {xs ys : List V} {H : Hp} {Q : VK} (ha : H a = some (.tup xs)) (hb : H b = some (.tup ys)) (hz : xs.length + ys.length ≤ sizeLine) (q : ∀ H' p, Same H H' → H' p = some (.tup (xs ++ ys)) → Q (.ref p) H') : rCatA K (.ref a) (.ref b) H Q := by
  refine ⟨a, b, xs, ys, rfl, rfl, tup_t ha, tup_t hb, hz, fun e => ?_, fun _ e => ?_, fun _ _ p np => q _ p (same_upd np) upd_same⟩
  · subst e
    exact q H b (Same.refl H) hb
  · subst e
    exact q H a (Same.refl H) (ha.trans (by rw [List.append_nil]))
theorem sl_any {K : PySem.W.Frag} {a : Addr} {xs : List V} {lo hi : Option Int} {H : Hp} {Q : VK} (ha : H a = some (.tup xs)) (q : ∀ H' p, Same H H' → H' p = some (.tup (cutV xs lo hi)) → Q (.ref p) H') : rSlA K (.ref a) lo hi H Q := by
  refine ⟨a, xs, rfl, tup_t ha, fun e => q H a (Same.refl H) (ha.trans ?_), fun _ p np => q _ p (same_upd np) upd_same⟩
  unfold cutV
  rw [e.1, e.2, List.drop_zero, Nat.sub_zero, List.take_length]
theorem wSum_le {ws : List Int} : ∀ (ns : List Int), (∀ w ∈ ws, w ≤ 10 ^ 18) → wSum ws ns ≤ (ns.length : Int) * 10 ^ 18
  | [], _ => by
    unfold wSum
    simp
  | n :: r, h => by
    have ih := wSum_le r h
    have g : ws.getD n.toNat 0 ≤ 10 ^ 18 := by
      rw [List.getD_eq_getElem?_getD]
      cases e : ws[n.toNat]? with
      | none => decide
      | some w => exact h w (List.mem_of_getElem? e)
    have e : wSum ws (n :: r) = ws.getD n.toNat 0 + wSum ws r := rfl
    rw [e, List.length_cons]
    have : (((r.length + 1 : Nat) : Int)) * 10 ^ 18 = (r.length : Int) * 10 ^ 18 + 10 ^ 18 := by
      rw [Int.natCast_add, Int.add_mul]
      rfl
    omega

theorem fW_worth (m a : Int) (t : Addr) : (fW m a t).lookup ("worth" : Str) = none := by rfl
theorem iteND {c A B : Prop} [Decidable c] (h : ¬ c) (a : A) : if (!decide c) = true then A else B := by
  rw [decide_eq_false h]
  exact iteT a
theorem ite2N {c A B : Prop} [Decidable c] (h1 : ¬ c → A) (h2 : c → B) : if (!decide c) = true then A else B := by
  by_cases h : c
  · rw [decide_eq_true h]
    exact iteF (h2 h)
  · rw [decide_eq_false h]
    exact iteT (h1 h)
/-- the first price below 0, from place i on -/
def negAt : List Int → Nat → Option Nat
  | [], _ => none
  | n :: r, i => if n < 0 then some i else negAt r (i + 1)
theorem negAt_nn : ∀ {ps : List Int} {i : Nat}, negAt ps i = none → ∀ p ∈ ps, 0 ≤ p
  | [], _, _, _, h => by cases h
  | n :: r, i, h, p, hp => by
    by_cases c : n < 0
    · rw [show negAt (n :: r) i = some i from if_pos c] at h
      cases h
    · rw [show negAt (n :: r) i = negAt r (i + 1) from if_neg c] at h
      rcases List.mem_cons.mp hp with rfl | hp
      · omega
      · exact negAt_nn h p hp
theorem negAt_none : ∀ {ps : List Int} {i : Nat}, (∀ p ∈ ps, 0 ≤ p) → negAt ps i = none
  | [], _, _ => rfl
  | n :: r, i, h => by
    have := h n List.mem_cons_self
    exact (if_neg (by omega)).trans (negAt_none fun m hm => h m (List.mem_cons_of_mem _ hm))
theorem negAt_lt : ∀ {ps : List Int} {i k : Nat}, negAt ps i = some k → k < i + ps.length
  | [], _, _, h => by cases h
  | n :: r, i, k, h => by
    rw [List.length_cons]
    by_cases c : n < 0
    · rw [show negAt (n :: r) i = some i from if_pos c] at h
      cases h
      omega
    · rw [show negAt (n :: r) i = negAt r (i + 1) from if_neg c] at h
      have := negAt_lt h
      omega
theorem cross1 {T d W B P : Int} (h : T * d = W * B) : T * P * d = W * P * (B * 1) := by grind
/-- the sum of weight times price over a lot -/
def vSum (ws ps ns : List Int) : Int := (ns.map fun n => ws.getD n.toNat 0 * ps.getD n.toNat 0).sum
theorem vSum_snoc (ws ps ns : List Int) {i : Nat} {n : Int} (h : ns[i]? = some n) : vSum ws ps (ns.take (i + 1)) = vSum ws ps (ns.take i) + ws.getD n.toNat 0 * ps.getD n.toNat 0 := by
  unfold vSum
  rw [List.take_add_one, h, List.map_append, List.sum_append]
  simp
structure Fine (ws : List Int) (b : Int) (ps : List Int) : Prop where
  wl : ws.length ≤ 24
  w1 : ∀ w ∈ ws, 1 ≤ w
  w2 : ∀ w ∈ ws, w ≤ 10 ^ 18
  b1 : 0 < b
  b2 : b ≤ 10 ^ 18
  p2 : ∀ p ∈ ps, p ≤ 10 ^ 18
theorem getD_le {ws : List Int} (h : ∀ w ∈ ws, w ≤ 10 ^ 18) (i : Nat) : ws.getD i 0 ≤ 10 ^ 18 := by
  rw [List.getD_eq_getElem?_getD]
  cases e : ws[i]? with
  | none => decide
  | some w => exact h w (List.mem_of_getElem? e)
theorem getD_n0 {ws : List Int} (h : ∀ w ∈ ws, 0 ≤ w) (i : Nat) : 0 ≤ ws.getD i 0 := by
  rw [List.getD_eq_getElem?_getD]
  cases e : ws[i]? with
  | none => exact Int.le_refl 0
  | some w => exact h w (List.mem_of_getElem? e)
theorem mul_36 {a b : Int} (a0 : 0 ≤ a) (a1 : a ≤ 10 ^ 18) (b0 : 0 ≤ b) (b1 : b ≤ 10 ^ 18) : 0 ≤ a * b ∧ a * b ≤ 10 ^ 36 := by
  refine ⟨Int.mul_nonneg a0 b0, ?_⟩
  have := Int.mul_le_mul a1 b1 b0 (by decide)
  omega
theorem sum_bd {c : Int} : ∀ {l : List Int}, (∀ x ∈ l, 0 ≤ x ∧ x ≤ c) → l.sum ≤ (l.length : Int) * c
  | [], _ => by simp
  | x :: r, h => by
    have h1 := h x List.mem_cons_self
    have h2 := sum_bd fun y hy => h y (List.mem_cons_of_mem _ hy)
    rw [List.sum_cons, List.length_cons, Int.natCast_add, Int.add_mul]
    show x + r.sum ≤ (r.length : Int) * c + 1 * c
    omega
theorem items_bd {ws ps ns : List Int} (hw0 : ∀ w ∈ ws, 1 ≤ w) (hw1 : ∀ w ∈ ws, w ≤ 10 ^ 18) (hp0 : ∀ p ∈ ps, 0 ≤ p) (hp1 : ∀ p ∈ ps, p ≤ 10 ^ 18) : ∀ x ∈ ns.map fun n => ws.getD n.toNat 0 * ps.getD n.toNat 0, 0 ≤ x ∧ x ≤ 10 ^ 36 := fun x hx => by
  obtain ⟨n, _, rfl⟩ := List.mem_map.mp hx
  exact mul_36 (getD_n0 (fun w h => by have := hw0 w h; omega) _) (getD_le hw1 _) (getD_n0 hp0 _) (getD_le hp1 _)
theorem sm_36 {x : Int} (h0 : 0 ≤ x) (h1 : x ≤ 1000 * 10 ^ 36) : Sm x := sm_of (n := 200) (by
  have : x.natAbs ≤ 1000 * 10 ^ 36 := by omega
  exact Nat.lt_of_le_of_lt this (by decide))
theorem sm_sq {d : Int} (h0 : 0 ≤ d) (h : d ≤ 1001 * 10 ^ 18) : Sm (d * d) := by
  refine sm_of (n := 200) ?_
  rw [Int.natAbs_mul]
  have : d.natAbs ≤ 1001 * 10 ^ 18 := by omega
  exact Nat.lt_of_le_of_lt (Nat.mul_le_mul this this) (by decide)

theorem low_neg : ∀ (ns : List Int) (i : Nat), lowAt 0 ns i = negAt ns i
  | [], _ => rfl
  | n :: r, i => by
    unfold lowAt negAt
    rw [low_neg r (i + 1)]

/-- what of a plain rule stands in the heap -/
def fR (m : Int) : List (Str × V) := putF "many" (.int m) []
def RAt (C : Addr) (H : Hp) (p dx : Addr) (m : Int) : Prop := H p = some (.ins C dx (fR m))
theorem RAt.same {C : Addr} {H H' : Hp} {p dx : Addr} {m : Int} (s : Same H H') (h : RAt C H p dx m) : RAt C H' p dx m := s _ _ h
theorem fR_many (m : Int) : (fR m).lookup ("many" : Str) = some (V.int m) := by rfl
theorem fR_shares (m : Int) : (fR m).lookup ("shares" : Str) = none := by rfl
theorem fR_away (m : Int) : (fR m).lookup ("away" : Str) = none := by rfl
theorem fR_worth (m : Int) : (fR m).lookup ("worth" : Str) = none := by rfl
theorem low_is {t T B : Int} (h : LowT t 1 T B) : T = t ∧ B = 1 := low_uniq (by decide) h (low_int t)
theorem zeros_sum : ∀ n : Nat, (List.replicate n (0 : Int)).sum = 0
  | 0 => rfl
  | n + 1 => by rw [List.replicate_succ, List.sum_cons, zeros_sum n]; rfl

/-- the place of the first wrong price: -1 for a wrong number of them, m where none is wrong -/
def placeOf (ps : List Int) (m : Nat) : Int := if ps.length = m then (match negAt ps 0 with
  | some k => (k : Int)
  | none => (m : Int)) else -1
theorem place_len {ps : List Int} {m : Nat} (h : ¬ ps.length = m) : placeOf ps m = -1 := if_neg h
theorem place_neg {ps : List Int} {m k : Nat} (h : ps.length = m) (hk : negAt ps 0 = some k) : placeOf ps m = (k : Int) := by
  unfold placeOf
  rw [if_pos h, hk]
theorem place_ok {ps : List Int} {m : Nat} (h : ps.length = m) (hk : negAt ps 0 = none) : placeOf ps m = (m : Int) := by
  unfold placeOf
  rw [if_pos h, hk]
theorem kSt : kitB "str" "str" = some true := by decide +kernel
theorem place_cases (ps : List Int) (m : Nat) : (placeOf ps m < (m : Int) ∧ ((¬ ps.length = m ∧ placeOf ps m = -1) ∨ (ps.length = m ∧ ∃ k : Nat, negAt ps 0 = some k ∧ placeOf ps m = k))) ∨ (ps.length = m ∧ negAt ps 0 = none ∧ placeOf ps m = m) := by
  by_cases h : ps.length = m
  · cases e : negAt ps 0 with
    | none => exact .inr ⟨h, rfl, place_ok h e⟩
    | some k =>
      have := negAt_lt e
      refine .inl ⟨?_, .inr ⟨h, k, rfl, place_neg h e⟩⟩
      rw [place_neg h e]
      omega
  · refine .inl ⟨?_, .inl ⟨h, place_len h⟩⟩
    rw [place_len h]
    omega

theorem lotB_iff : ∀ {ns : List Int} {b m : Int}, lotB ns b m = true ↔ (∀ n ∈ ns, b < n ∧ n < m) ∧ ns.Pairwise (· < ·)
  | [], b, m => ⟨fun _ => ⟨fun n h => (by cases h), .nil⟩, fun _ => rfl⟩
  | n :: r, b, m => by
    constructor
    · intro h
      exact ⟨lotB_in h, lotB_pw h⟩
    · rintro ⟨h1, h2⟩
      have hn := h1 n List.mem_cons_self
      have h2 := List.pairwise_cons.mp h2
      refine (if_neg (by omega)).trans (lotB_iff.mpr ⟨fun x hx => ⟨h2.1 x hx, (h1 x (List.mem_cons_of_mem _ hx)).2⟩, h2.2⟩)
theorem pw_steps {ns : List Int} (h : ∀ k, 0 < k → (hk : k < ns.length) → ns[k - 1]'(by omega) < ns[k]) : ns.Pairwise (· < ·) := by
  rw [List.pairwise_iff_getElem]
  intro i j hi hj lt
  obtain ⟨d, rfl⟩ : ∃ d, j = i + 1 + d := ⟨j - (i + 1), by omega⟩
  clear lt
  induction d with
  | zero => exact h (i + 1) (by omega) hj
  | succ d ih =>
    have h1 := ih (by omega)
    have h2 := h (i + 1 + (d + 1)) (by omega) hj
    have e : ns[i + 1 + (d + 1) - 1]'(by omega) = ns[i + 1 + d]'(by omega) := by
      congr 1
    rw [e] at h2
    omega
theorem cut_map (ps : List Int) (lo hi : Option Int) : ∃ ms : List Int, cutV (ps.map V.int) lo hi = ms.map V.int ∧ ∀ m ∈ ms, m ∈ ps := by
  unfold cutV
  refine ⟨(ps.drop (HT.sIx (ps.map V.int).length 0 lo)).take (HT.sIx (ps.map V.int).length (ps.map V.int).length hi - HT.sIx (ps.map V.int).length 0 lo), ?_, fun m hm => ?_⟩
  · rw [List.map_take, List.map_drop]
  · exact List.mem_of_mem_drop (List.mem_of_mem_take hm)

/-- no price is wrong -/
def goodP (ps : List Int) (m : Nat) : Prop := ps.length = m ∧ negAt ps 0 = none ∧ placeOf ps m = m
/-- what the top has written of the classes -/
structure Txt (K : PySem.W.Frag) (mg : Str → Option Value) (C_Rule C_Ratio C_BadNumber C_TooMany C_ZeroBottom C_BadLot C_ShelfError : Addr) : Prop where
  g_Rule : mg "Rule" = some (.ref C_Rule)
  kc_Rule : PySem.W.keepIn K (.ref C_Rule) = true
  hd_Rule : PySem.W.hasDictIn K C_Rule = true
  ha_Rule : PySem.W.findIn K (.ref C_Rule) "__class__" = some (some (.builtin "object.__class__"))
  hm_Rule : PySem.W.mroIn K C_Rule (.type "object") = some true
  cl_Rule : Cls K C_Rule
  mk_Rule : PySem.W.makesIn K C_Rule = true
  n_Rule_many : NoAttr K C_Rule "many"
  g_Ratio : mg "Ratio" = some (.ref C_Ratio)
  kc_Ratio : PySem.W.keepIn K (.ref C_Ratio) = true
  hd_Ratio : PySem.W.hasDictIn K C_Ratio = true
  ha_Ratio : PySem.W.findIn K (.ref C_Ratio) "__class__" = some (some (.builtin "object.__class__"))
  hm_Ratio : PySem.W.mroIn K C_Ratio (.type "object") = some true
  cl_Ratio : Cls K C_Ratio
  mk_Ratio : PySem.W.makesIn K C_Ratio = true
  n_Ratio_top : NoAttr K C_Ratio "top"
  n_Ratio_bottom : NoAttr K C_Ratio "bottom"
  sum_Ratio : SumC K C_Ratio
  sf_Ratio : PySem.W.selfFirst K C_Ratio = true
  si_Ratio : PySem.W.subIn K (.type "int") (.ref C_Ratio) = some false
  sr_Ratio : PySem.W.subIn K (.ref C_Ratio) (.type "int") = some false
  rf_Ratio_add : ∃ rc : Option Value, PySem.W.findIn K (.ref C_Ratio) "__radd__" = some rc ∧ (rc = none ∨ ∃ g : Addr, rc = some (.ref g))
  of_Ratio_add : ∃ f0 : Addr, PySem.W.findIn K (.ref C_Ratio) "__add__" = some (some (.ref f0))
  int_add : ∃ fo ro : Option Value, PySem.W.findIn K (.type "int") "__add__" = some fo ∧ PySem.W.findIn K (.type "int") "__radd__" = some ro
  rf_Ratio_sub : ∃ rc : Option Value, PySem.W.findIn K (.ref C_Ratio) "__rsub__" = some rc ∧ (rc = none ∨ ∃ g : Addr, rc = some (.ref g))
  of_Ratio_sub : ∃ f0 : Addr, PySem.W.findIn K (.ref C_Ratio) "__sub__" = some (some (.ref f0))
  int_sub : ∃ fo ro : Option Value, PySem.W.findIn K (.type "int") "__sub__" = some fo ∧ PySem.W.findIn K (.type "int") "__rsub__" = some ro
  rf_Ratio_mul : ∃ rc : Option Value, PySem.W.findIn K (.ref C_Ratio) "__rmul__" = some rc ∧ (rc = none ∨ ∃ g : Addr, rc = some (.ref g))
  of_Ratio_mul : ∃ f0 : Addr, PySem.W.findIn K (.ref C_Ratio) "__mul__" = some (some (.ref f0))
  int_mul : ∃ fo ro : Option Value, PySem.W.findIn K (.type "int") "__mul__" = some fo ∧ PySem.W.findIn K (.type "int") "__rmul__" = some ro
  g_BadNumber : mg "BadNumber" = some (.ref C_BadNumber)
  kc_BadNumber : PySem.W.keepIn K (.ref C_BadNumber) = true
  hd_BadNumber : PySem.W.hasDictIn K C_BadNumber = true
  ha_BadNumber : PySem.W.findIn K (.ref C_BadNumber) "__class__" = some (some (.builtin "object.__class__"))
  hm_BadNumber : PySem.W.mroIn K C_BadNumber (.type "object") = some true
  b_BadNumber : PySem.W.subIn K (.ref C_BadNumber) (.type "BaseException") = some true
  t_BadNumber : PySem.W.typeIn K (.ref C_BadNumber) = some (.type "type")
  ga_BadNumber : PySem.W.findIn K (.ref C_BadNumber) "__getattribute__" = some (some (.builtin "BaseException.__getattribute__"))
  gg_BadNumber : PySem.W.findIn K (.ref C_BadNumber) "__getattr__" = some none
  ox_BadNumber : OexC K C_BadNumber
  xf_BadNumber : XfC K C_BadNumber
  n_BadNumber_what : PySem.W.findIn K (.ref C_BadNumber) "what" = some none
  n_BadNumber_at : PySem.W.findIn K (.ref C_BadNumber) "at" = some none
  g_TooMany : mg "TooMany" = some (.ref C_TooMany)
  kc_TooMany : PySem.W.keepIn K (.ref C_TooMany) = true
  hd_TooMany : PySem.W.hasDictIn K C_TooMany = true
  ha_TooMany : PySem.W.findIn K (.ref C_TooMany) "__class__" = some (some (.builtin "object.__class__"))
  hm_TooMany : PySem.W.mroIn K C_TooMany (.type "object") = some true
  b_TooMany : PySem.W.subIn K (.ref C_TooMany) (.type "BaseException") = some true
  t_TooMany : PySem.W.typeIn K (.ref C_TooMany) = some (.type "type")
  ga_TooMany : PySem.W.findIn K (.ref C_TooMany) "__getattribute__" = some (some (.builtin "BaseException.__getattribute__"))
  gg_TooMany : PySem.W.findIn K (.ref C_TooMany) "__getattr__" = some none
  ox_TooMany : OexC K C_TooMany
  xf_TooMany : XfC K C_TooMany
  n_TooMany_many : PySem.W.findIn K (.ref C_TooMany) "many" = some none
  n_TooMany_most : PySem.W.findIn K (.ref C_TooMany) "most" = some none
  g_ZeroBottom : mg "ZeroBottom" = some (.ref C_ZeroBottom)
  kc_ZeroBottom : PySem.W.keepIn K (.ref C_ZeroBottom) = true
  hd_ZeroBottom : PySem.W.hasDictIn K C_ZeroBottom = true
  ha_ZeroBottom : PySem.W.findIn K (.ref C_ZeroBottom) "__class__" = some (some (.builtin "object.__class__"))
  hm_ZeroBottom : PySem.W.mroIn K C_ZeroBottom (.type "object") = some true
  b_ZeroBottom : PySem.W.subIn K (.ref C_ZeroBottom) (.type "BaseException") = some true
  t_ZeroBottom : PySem.W.typeIn K (.ref C_ZeroBottom) = some (.type "type")
  ga_ZeroBottom : PySem.W.findIn K (.ref C_ZeroBottom) "__getattribute__" = some (some (.builtin "BaseException.__getattribute__"))
  gg_ZeroBottom : PySem.W.findIn K (.ref C_ZeroBottom) "__getattr__" = some none
  x_ZeroBottom : PySem.W.excIn K C_ZeroBottom [.type "ValueError", .type "Exception", .type "BaseException", .type "object"] "ValueError.__new__" = true
  g_BadLot : mg "BadLot" = some (.ref C_BadLot)
  kc_BadLot : PySem.W.keepIn K (.ref C_BadLot) = true
  hd_BadLot : PySem.W.hasDictIn K C_BadLot = true
  ha_BadLot : PySem.W.findIn K (.ref C_BadLot) "__class__" = some (some (.builtin "object.__class__"))
  hm_BadLot : PySem.W.mroIn K C_BadLot (.type "object") = some true
  b_BadLot : PySem.W.subIn K (.ref C_BadLot) (.type "BaseException") = some true
  t_BadLot : PySem.W.typeIn K (.ref C_BadLot) = some (.type "type")
  ga_BadLot : PySem.W.findIn K (.ref C_BadLot) "__getattribute__" = some (some (.builtin "BaseException.__getattribute__"))
  gg_BadLot : PySem.W.findIn K (.ref C_BadLot) "__getattr__" = some none
  x_BadLot : PySem.W.excIn K C_BadLot [.type "ValueError", .type "Exception", .type "BaseException", .type "object"] "ValueError.__new__" = true
  g_ShelfError : mg "ShelfError" = some (.ref C_ShelfError)
  kc_ShelfError : PySem.W.keepIn K (.ref C_ShelfError) = true
  hd_ShelfError : PySem.W.hasDictIn K C_ShelfError = true
  ha_ShelfError : PySem.W.findIn K (.ref C_ShelfError) "__class__" = some (some (.builtin "object.__class__"))
  hm_ShelfError : PySem.W.mroIn K C_ShelfError (.type "object") = some true
  b_ShelfError : PySem.W.subIn K (.ref C_ShelfError) (.type "BaseException") = some true
  t_ShelfError : PySem.W.typeIn K (.ref C_ShelfError) = some (.type "type")
  ga_ShelfError : PySem.W.findIn K (.ref C_ShelfError) "__getattribute__" = some (some (.builtin "BaseException.__getattribute__"))
  gg_ShelfError : PySem.W.findIn K (.ref C_ShelfError) "__getattr__" = some none
  hnc : PySem.W.specialIn K (.builtin "object.__class__") "__get__" = some (some (.builtin "getset_descriptor.__get__"))
  htk : PySem.W.takesIn K (.builtin "object.__class__") = some true
  sub_BadNumber_BadNumber : PySem.W.subIn K (.ref C_BadNumber) (.ref C_BadNumber) = some true
  sub_BadLot_BadNumber : PySem.W.subIn K (.ref C_BadLot) (.ref C_BadNumber) = some false
  sub_BadLot_BadLot : PySem.W.subIn K (.ref C_BadLot) (.ref C_BadLot) = some true
  sub_BadNumber_ShelfError : PySem.W.subIn K (.ref C_BadNumber) (.ref C_ShelfError) = some true
  sub_BadLot_ShelfError : PySem.W.subIn K (.ref C_BadLot) (.ref C_ShelfError) = some true
  sub_TooMany_TooMany : PySem.W.subIn K (.ref C_TooMany) (.ref C_TooMany) = some true
  sub_TooMany_ShelfError : PySem.W.subIn K (.ref C_TooMany) (.ref C_ShelfError) = some true
  kit_Ratio_Ratio : PySem.W.kitOne K (.ref C_Ratio) (.ref C_Ratio) = some true
  kit_int_Ratio : PySem.W.kitOne K (.type "int") (.ref C_Ratio) = some false
  kit_Rule_Rule : PySem.W.kitOne K (.ref C_Rule) (.ref C_Rule) = some true
  kit_BadNumber_BadLot : PySem.W.kitOne K (.ref C_BadNumber) (.ref C_BadLot) = some false
  kit_BadLot_BadNumber : PySem.W.kitOne K (.ref C_BadLot) (.ref C_BadNumber) = some false
  kit_BadNumber_ValueError : PySem.W.kitOne K (.ref C_BadNumber) (.type "ValueError") = some true
  kit_BadLot_ValueError : PySem.W.kitOne K (.ref C_BadLot) (.type "ValueError") = some true
  kit_TooMany_ValueError : PySem.W.kitOne K (.ref C_TooMany) (.type "ValueError") = some true
  kit_TooMany_TooMany : PySem.W.kitOne K (.ref C_TooMany) (.ref C_TooMany) = some true
  kit_TooMany_BadNumber : PySem.W.kitOne K (.ref C_TooMany) (.ref C_BadNumber) = some false
  g_gcd : mg "gcd" = some (.builtin "math.gcd")
  g_MOST_THINGS : ∃ t, mg "MOST_THINGS" = some (.int 24 t)
theorem Txt.ec_BadNumber {K : PySem.W.Frag} {mg : Str → Option Value} {C_Rule C_Ratio C_BadNumber C_TooMany C_ZeroBottom C_BadLot C_ShelfError : Addr} (T : Txt K mg C_Rule C_Ratio C_BadNumber C_TooMany C_ZeroBottom C_BadLot C_ShelfError) : ExcC K C_BadNumber := ⟨T.ga_BadNumber, T.gg_BadNumber, T.b_BadNumber, T.hd_BadNumber, T.ha_BadNumber, T.hnc, T.htk, T.hm_BadNumber⟩
theorem Txt.ec_TooMany {K : PySem.W.Frag} {mg : Str → Option Value} {C_Rule C_Ratio C_BadNumber C_TooMany C_ZeroBottom C_BadLot C_ShelfError : Addr} (T : Txt K mg C_Rule C_Ratio C_BadNumber C_TooMany C_ZeroBottom C_BadLot C_ShelfError) : ExcC K C_TooMany := ⟨T.ga_TooMany, T.gg_TooMany, T.b_TooMany, T.hd_TooMany, T.ha_TooMany, T.hnc, T.htk, T.hm_TooMany⟩
theorem Txt.ec_ZeroBottom {K : PySem.W.Frag} {mg : Str → Option Value} {C_Rule C_Ratio C_BadNumber C_TooMany C_ZeroBottom C_BadLot C_ShelfError : Addr} (T : Txt K mg C_Rule C_Ratio C_BadNumber C_TooMany C_ZeroBottom C_BadLot C_ShelfError) : ExcC K C_ZeroBottom := ⟨T.ga_ZeroBottom, T.gg_ZeroBottom, T.b_ZeroBottom, T.hd_ZeroBottom, T.ha_ZeroBottom, T.hnc, T.htk, T.hm_ZeroBottom⟩
theorem Txt.ec_BadLot {K : PySem.W.Frag} {mg : Str → Option Value} {C_Rule C_Ratio C_BadNumber C_TooMany C_ZeroBottom C_BadLot C_ShelfError : Addr} (T : Txt K mg C_Rule C_Ratio C_BadNumber C_TooMany C_ZeroBottom C_BadLot C_ShelfError) : ExcC K C_BadLot := ⟨T.ga_BadLot, T.gg_BadLot, T.b_BadLot, T.hd_BadLot, T.ha_BadLot, T.hnc, T.htk, T.hm_BadLot⟩
theorem Txt.ec_ShelfError {K : PySem.W.Frag} {mg : Str → Option Value} {C_Rule C_Ratio C_BadNumber C_TooMany C_ZeroBottom C_BadLot C_ShelfError : Addr} (T : Txt K mg C_Rule C_Ratio C_BadNumber C_TooMany C_ZeroBottom C_BadLot C_ShelfError) : ExcC K C_ShelfError := ⟨T.ga_ShelfError, T.gg_ShelfError, T.b_ShelfError, T.hd_ShelfError, T.ha_ShelfError, T.hnc, T.htk, T.hm_ShelfError⟩
theorem Txt.exm_BadNumber_BadNumber {K : PySem.W.Frag} {mg : Str → Option Value} {C_Rule C_Ratio C_BadNumber C_TooMany C_ZeroBottom C_BadLot C_ShelfError : Addr} (T : Txt K mg C_Rule C_Ratio C_BadNumber C_TooMany C_ZeroBottom C_BadLot C_ShelfError) : PySem.W.exmOne K (.ref C_BadNumber) (.ref C_BadNumber) = some true := PySem.W.exm_ref T.b_BadNumber T.hd_BadNumber T.t_BadNumber T.sub_BadNumber_BadNumber
theorem Txt.exm_BadLot_BadNumber {K : PySem.W.Frag} {mg : Str → Option Value} {C_Rule C_Ratio C_BadNumber C_TooMany C_ZeroBottom C_BadLot C_ShelfError : Addr} (T : Txt K mg C_Rule C_Ratio C_BadNumber C_TooMany C_ZeroBottom C_BadLot C_ShelfError) : PySem.W.exmOne K (.ref C_BadLot) (.ref C_BadNumber) = some false := PySem.W.exm_ref T.b_BadNumber T.hd_BadNumber T.t_BadNumber T.sub_BadLot_BadNumber
theorem Txt.exm_BadLot_BadLot {K : PySem.W.Frag} {mg : Str → Option Value} {C_Rule C_Ratio C_BadNumber C_TooMany C_ZeroBottom C_BadLot C_ShelfError : Addr} (T : Txt K mg C_Rule C_Ratio C_BadNumber C_TooMany C_ZeroBottom C_BadLot C_ShelfError) : PySem.W.exmOne K (.ref C_BadLot) (.ref C_BadLot) = some true := PySem.W.exm_ref T.b_BadLot T.hd_BadLot T.t_BadLot T.sub_BadLot_BadLot
theorem Txt.exm_BadNumber_ShelfError {K : PySem.W.Frag} {mg : Str → Option Value} {C_Rule C_Ratio C_BadNumber C_TooMany C_ZeroBottom C_BadLot C_ShelfError : Addr} (T : Txt K mg C_Rule C_Ratio C_BadNumber C_TooMany C_ZeroBottom C_BadLot C_ShelfError) : PySem.W.exmOne K (.ref C_BadNumber) (.ref C_ShelfError) = some true := PySem.W.exm_ref T.b_ShelfError T.hd_ShelfError T.t_ShelfError T.sub_BadNumber_ShelfError
theorem Txt.exm_BadLot_ShelfError {K : PySem.W.Frag} {mg : Str → Option Value} {C_Rule C_Ratio C_BadNumber C_TooMany C_ZeroBottom C_BadLot C_ShelfError : Addr} (T : Txt K mg C_Rule C_Ratio C_BadNumber C_TooMany C_ZeroBottom C_BadLot C_ShelfError) : PySem.W.exmOne K (.ref C_BadLot) (.ref C_ShelfError) = some true := PySem.W.exm_ref T.b_ShelfError T.hd_ShelfError T.t_ShelfError T.sub_BadLot_ShelfError
theorem Txt.exm_TooMany_TooMany {K : PySem.W.Frag} {mg : Str → Option Value} {C_Rule C_Ratio C_BadNumber C_TooMany C_ZeroBottom C_BadLot C_ShelfError : Addr} (T : Txt K mg C_Rule C_Ratio C_BadNumber C_TooMany C_ZeroBottom C_BadLot C_ShelfError) : PySem.W.exmOne K (.ref C_TooMany) (.ref C_TooMany) = some true := PySem.W.exm_ref T.b_TooMany T.hd_TooMany T.t_TooMany T.sub_TooMany_TooMany
theorem Txt.exm_TooMany_ShelfError {K : PySem.W.Frag} {mg : Str → Option Value} {C_Rule C_Ratio C_BadNumber C_TooMany C_ZeroBottom C_BadLot C_ShelfError : Addr} (T : Txt K mg C_Rule C_Ratio C_BadNumber C_TooMany C_ZeroBottom C_BadLot C_ShelfError) : PySem.W.exmOne K (.ref C_TooMany) (.ref C_ShelfError) = some true := PySem.W.exm_ref T.b_ShelfError T.hd_ShelfError T.t_ShelfError T.sub_TooMany_ShelfError

/-- a def that is called by its name, with its promise -/
def Cal (P : Program) (w : World) (K : PySem.W.Frag) (mg : Str → Option Value) (base : Heap) (CX : CXT) (k : Nat) (x : Str) (ps : List Str) (sp : Sp) : Prop :=
  ∃ (f : Addr) (fd : FuncData), FnOk P w K mg base CX k f fd ps sp ∧ mg x = some (.ref f) ∧ PySem.W.keepIn K (.ref f) = true ∧ Binds K fd ps []
/-- an own class's __init__; dvs: what stands for the parameters that a short call leaves out -/
def CalI (P : Program) (w : World) (K : PySem.W.Frag) (mg : Str → Option Value) (base : Heap) (CX : CXT) (k : Nat) (C : Addr) (ps : List Str) (sp : Sp) (dvs : List V) : Prop :=
  ∃ (f : Addr) (fd : FuncData), FnOk P w K mg base CX k f fd ps sp ∧ Mk K C f ∧ Binds K fd ps [] ∧ ∃ ds, Vals dvs ds ∧ Binds K fd ps ds
/-- an own error's __init__ -/
def CalX (P : Program) (w : World) (K : PySem.W.Frag) (mg : Str → Option Value) (base : Heap) (CX : CXT) (k : Nat) (C : Addr) (ps : List Str) (sp : Sp) : Prop :=
  ∃ (f : Addr) (fd : FuncData), FnOk P w K mg base CX k f fd ps sp ∧ PySem.W.findIn K (.ref C) "__init__" = some (some (.ref f)) ∧ PySem.W.typeIn K (.ref f) = some (.type "function") ∧ Binds K fd ps []
/-- a method -/
def CalM (P : Program) (w : World) (K : PySem.W.Frag) (mg : Str → Option Value) (base : Heap) (CX : CXT) (k : Nat) (C : Addr) (m : Str) (ps : List Str) (sp : Sp) : Prop :=
  ∃ (f : Addr) (fd : FuncData), FnOk P w K mg base CX k f fd ps sp ∧ Meth K C m f ∧ Binds K fd ps []
section
variable {P : Program} {w : World} {K : PySem.W.Frag} {mg : Str → Option Value} {base : Heap}
def sp_BadNumber___init__ (C : Addr) : Sp := fun vs H Q _ => ∃ (a : Addr) (x y : V), vs = [.ref a, x, y] ∧ H a = some (exo a C none) ∧ ∀ dx, H dx = none → dx ≠ a → Q .non (errH H a C dx "what" "at" x y)
theorem ok_BadNumber___init__ {f : Addr} {fd : FuncData} {C_Rule C_Ratio C_BadNumber C_TooMany C_ZeroBottom C_BadLot C_ShelfError : Addr} (F : Fun K "__init__" "BadNumber.__init__" s_BadNumber___init__ f fd) (T : Txt K mg C_Rule C_Ratio C_BadNumber C_TooMany C_ZeroBottom C_BadLot C_ShelfError) : FnOk P w K mg base CX0 1 f fd ["self", "what", "at"] (sp_BadNumber___init__ C_BadNumber) := by
  refine F.ok sc_BadNumber___init__ (fun vs H Q E h => ?_) (fun cdv A outer s H vs Q E hr h => ?_)
  · obtain ⟨a, x, y, rfl, _⟩ := h
    rfl
  · obtain ⟨a, x, y, rfl, ha, q⟩ := h
    refine ⟨_, (pss_cons (ps_ost (pv 0) (pv 1))
      (pss_one (ps_ost (pv 0) (pv 2)))), ?_⟩
    refine ⟨_, rfl, _, rfl, a, C_BadNumber, rfl, T.ox_BadNumber, T.n_BadNumber_what, .inl ⟨ha, fun dx nd ne => ?_⟩⟩
    exact ⟨_, rfl, _, rfl, a, C_BadNumber, rfl, T.ox_BadNumber, T.n_BadNumber_at, .inr ⟨dx, _, upd_same, (upd_ne ne).trans upd_same, by show 1 ≤ 900; decide, q dx nd ne⟩⟩
def sp_TooMany___init__ (C : Addr) : Sp := fun vs H Q _ => ∃ (a : Addr) (x y : V), vs = [.ref a, x, y] ∧ H a = some (exo a C none) ∧ ∀ dx, H dx = none → dx ≠ a → Q .non (errH H a C dx "many" "most" x y)
theorem ok_TooMany___init__ {f : Addr} {fd : FuncData} {C_Rule C_Ratio C_BadNumber C_TooMany C_ZeroBottom C_BadLot C_ShelfError : Addr} (F : Fun K "__init__" "TooMany.__init__" s_TooMany___init__ f fd) (T : Txt K mg C_Rule C_Ratio C_BadNumber C_TooMany C_ZeroBottom C_BadLot C_ShelfError) : FnOk P w K mg base CX0 1 f fd ["self", "many", "most"] (sp_TooMany___init__ C_TooMany) := by
  refine F.ok sc_TooMany___init__ (fun vs H Q E h => ?_) (fun cdv A outer s H vs Q E hr h => ?_)
  · obtain ⟨a, x, y, rfl, _⟩ := h
    rfl
  · obtain ⟨a, x, y, rfl, ha, q⟩ := h
    refine ⟨_, (pss_cons (ps_ost (pv 0) (pv 1))
      (pss_one (ps_ost (pv 0) (pv 2)))), ?_⟩
    refine ⟨_, rfl, _, rfl, a, C_TooMany, rfl, T.ox_TooMany, T.n_TooMany_many, .inl ⟨ha, fun dx nd ne => ?_⟩⟩
    exact ⟨_, rfl, _, rfl, a, C_TooMany, rfl, T.ox_TooMany, T.n_TooMany_most, .inr ⟨dx, _, upd_same, (upd_ne ne).trans upd_same, by show 1 ≤ 900; decide, q dx nd ne⟩⟩
def sp_check_many (CT : Addr) : Sp := fun vs H Q E => ∃ m n : Int, vs = [.int m, .int n] ∧ (m > n → ∀ d, H d = none → E (.ref CT) (some d) (upd H d (.xd [("most", .int n), ("many", .int m)]))) ∧ (¬ m > n → Q .non H)
theorem ok_check_many {f : Addr} {fd : FuncData} {C_Rule C_Ratio C_BadNumber C_TooMany C_ZeroBottom C_BadLot C_ShelfError : Addr} (F : Fun K "check_many" "check_many" s_check_many f fd) (T : Txt K mg C_Rule C_Ratio C_BadNumber C_TooMany C_ZeroBottom C_BadLot C_ShelfError) (c_TooMany___init__ : CalX P w K mg base CX0 1 C_TooMany ["self", "many", "most"] (sp_TooMany___init__ C_TooMany)) : FnOk P w K mg base (L2.CX P w) 3 f fd ["many", "most"] (sp_check_many C_TooMany) := by
  refine F.okX sc_check_many (fun vs H Q E h => ?_) (fun cdv A outer s H vs Q E hr h => ?_)
  · obtain ⟨m, n, rfl, _⟩ := h
    rfl
  · obtain ⟨m, n, rfl, kE, q⟩ := h
    obtain ⟨f_TooMany___init__, fd_TooMany___init__, G_TooMany___init__, ic_TooMany___init__, ti_TooMany___init__, b_TooMany___init__⟩ := c_TooMany___init__
    refine ⟨_, (pss_one (ps_if (pt_cmpR op_gt (pv 0) (pv 1) (nomark _)) (pss_one (ps_raise rfl (takes_of rfl rfl rfl rfl) (pmk_oex T.ox_TooMany ic_TooMany___init__ ti_TooMany___init__ G_TooMany___init__ (hr.mono (by decide)) b_TooMany___init__ .nil pass0 (by exact rfl) T.g_TooMany (pa_cons (pv 0) (pa_cons (pv 1) pa_nil))))) pss_nil)), ?_⟩
    refine ⟨_, rfl, _, rfl, _, _, rfl, rfl, _, rfl, ite2 (fun e => ?_) (fun e => q fun z => e (decide_eq_true z))⟩
    exact ⟨_, rfl, _, rfl, (by show 2 ≤ 1000; decide), fun a na => ⟨a, _, _, rfl, upd_same, fun dx nd ne => raise2 (kE (of_decide_eq_true e)) na nd ne⟩⟩
def sp_check_length (CB : Addr) : Sp := fun vs H Q E => ∃ (w : Str) (l : Addr) (xs : List V) (m : Int), vs = [.str w, .ref l, .int m] ∧ H l = some (.lst xs) ∧ (¬ (xs.length : Int) = m → ∀ d, H d = none → E (.ref CB) (some d) (upd H d (.xd [("at", .non), ("what", .str w)]))) ∧ ((xs.length : Int) = m → Q .non H)
theorem ok_check_length {f : Addr} {fd : FuncData} {C_Rule C_Ratio C_BadNumber C_TooMany C_ZeroBottom C_BadLot C_ShelfError : Addr} (F : Fun K "check_length" "check_length" s_check_length f fd) (T : Txt K mg C_Rule C_Ratio C_BadNumber C_TooMany C_ZeroBottom C_BadLot C_ShelfError) (m_len : mg "len" = none) (c_BadNumber___init__ : CalX P w K mg base CX0 1 C_BadNumber ["self", "what", "at"] (sp_BadNumber___init__ C_BadNumber)) : FnOk P w K mg base (L2.CX P w) 3 f fd ["what", "items", "many"] (sp_check_length C_BadNumber) := by
  refine F.okX sc_check_length (fun vs H Q E h => ?_) (fun cdv A outer s H vs Q E hr h => ?_)
  · obtain ⟨w, l, xs, m, rfl, _⟩ := h
    rfl
  · obtain ⟨w, l, xs, m, rfl, hl, kE, q⟩ := h
    obtain ⟨f_BadNumber___init__, fd_BadNumber___init__, G_BadNumber___init__, ic_BadNumber___init__, ti_BadNumber___init__, b_BadNumber___init__⟩ := c_BadNumber___init__
    refine ⟨_, (pss_one (ps_if (pt_cmpR op_ne (pe_callB call_len_seq (by rfl) m_len (by decide +kernel) (pa_cons (pv 1) pa_nil)) (pv 2) (nomark _)) (pss_one (ps_raise rfl (takes_of rfl rfl rfl rfl) (pmk_oex T.ox_BadNumber ic_BadNumber___init__ ti_BadNumber___init__ G_BadNumber___init__ (hr.mono (by decide)) b_BadNumber___init__ .nil pass0 (by exact rfl) T.g_BadNumber (pa_cons (pv 0) (pa_cons pe_non pa_nil))))) pss_nil)), ?_⟩
    refine ⟨_, rfl, l, _, rfl, .inl (lst_l hl), _, rfl, rfl, _, rfl, ite2N (fun e => ?_) (fun e => q (V.int.inj e))⟩
    exact ⟨_, rfl, (by show 2 ≤ 1000; decide), fun a na => ⟨a, _, _, rfl, upd_same, fun dx nd ne => raise2 (kE fun z => e (congrArg V.int z)) na nd ne⟩⟩
def sp_check_each (K : PySem.W.Frag) (CB : Addr) : Sp := fun vs H Q E => ∃ (l : Addr) (w : Str) (ns : List Int) (b : Int), vs = [.str w, .ref l, .int b] ∧ H l = some (.lst (ns.map V.int)) ∧ ns.length ≤ 1000 ∧ (∀ k : Nat, lowAt b ns 0 = some k → ∀ H' d, Same H H' → H' d = some (.xd [("at", .int k), ("what", .str w)]) → E (.ref CB) (some d) H') ∧ (lowAt b ns 0 = none → ∀ H', Same H H' → Q .non H')
theorem ok_check_each {f : Addr} {fd : FuncData} {C_Rule C_Ratio C_BadNumber C_TooMany C_ZeroBottom C_BadLot C_ShelfError : Addr} (F : Fun K "check_each" "check_each" s_check_each f fd) (T : Txt K mg C_Rule C_Ratio C_BadNumber C_TooMany C_ZeroBottom C_BadLot C_ShelfError) (m_enumerate : mg "enumerate" = none) (c_BadNumber___init__ : CalX P w K mg base CX0 1 C_BadNumber ["self", "what", "at"] (sp_BadNumber___init__ C_BadNumber)) : FnOk P w K mg base (L2.CX P w) 3 f fd ["what", "numbers", "least"] (sp_check_each K C_BadNumber) := by
  refine F.okX sc_check_each (fun vs H Q E h => ?_) (fun cdv A outer s H vs Q E hr h => ?_)
  · obtain ⟨l, w, ns, b, rfl, _⟩ := h
    rfl
  · obtain ⟨l, w, ns, b, rfl, hl, hlen, kE, q⟩ := h
    obtain ⟨f_BadNumber___init__, fd_BadNumber___init__, G_BadNumber___init__, ic_BadNumber___init__, ti_BadNumber___init__, b_BadNumber___init__⟩ := c_BadNumber___init__
    refine ⟨_, (pss_one (ps_for (passes_of rfl) rfl (pi_enum (by rfl) m_enumerate (pa_cons (pv 1) pa_nil)) (pg_tup rfl (pgs_cons (pg_name (i := 3) sc_check_each.nd rfl (Or.inl rfl)) (pgs_cons (pg_name (i := 4) sc_check_each.nd rfl (Or.inl rfl)) pgs_nil)))
      (pss_one (ps_if (pt_cmpR op_lt (pv 4) (pv 2) (nomark _)) (pss_one (ps_raise rfl (takes_of rfl rfl rfl rfl) (pmk_oex T.ox_BadNumber ic_BadNumber___init__ ti_BadNumber___init__ G_BadNumber___init__ (hr.mono (by decide)) b_BadNumber___init__ .nil pass0 (by exact rfl) T.g_BadNumber (pa_cons (pv 0) (pa_cons (pv 3) pa_nil))))) pss_nil)))), ?_⟩
    refine ⟨_, rfl, l, _, rfl, lst_l hl, ?_⟩
    refine for_it (walk_enum (K := K) (a := l) (xs := ns.map V.int)) (fun i σ H2 => ∃ y1 y2 : Option V, σ = [some (.str w), some (.ref l), some (.int b), y1, y2] ∧ Same H H2 ∧ lowAt b ns 0 = lowAt b (ns.drop i) i) ⟨none, none, rfl, fun _ _ z => z, rfl⟩ ?_ ?_ ?_
    · rintro i σ H2 _ ⟨_, _, _, sx, _⟩
      exact lst_l (sx l _ hl)
    · rintro i x σ H2 H3 hi ⟨y1, y2, rfl, sx, hb⟩ ⟨tp, ix, nx, rfl, ntp, rfl, e1, e2⟩
      cases e1
      obtain ⟨n, rfl, hn⟩ := int_of e2
      rw [List.length_map] at hi
      refine ⟨tp, _, rfl, tup_t upd_same, rfl, _, _, rfl, _, _, rfl, rfl, ?_⟩
      have hd : ns.drop i = n :: ns.drop (i + 1) := by
        rw [List.drop_eq_getElem_cons hi]
        rw [List.getElem?_eq_getElem hi] at hn
        rw [Option.some.inj hn]
      refine ⟨_, rfl, _, rfl, _, _, rfl, rfl, _, rfl, ite2 (fun c => ?_) (fun c => ?_)⟩
      · have c := of_decide_eq_true c
        have hk : lowAt b ns 0 = some i := by
          rw [hb, hd]
          exact if_pos c
        exact ⟨_, rfl, _, rfl, (by show 2 ≤ 1000; decide), fun a na => ⟨a, _, _, rfl, upd_same, fun dx2 nd ne => raise2 (fun d nd => kE i hk _ _ ((sx.trans (same_upd ntp)).trans (same_upd nd)) upd_same) na nd ne⟩⟩
      · have c : ¬ n < b := fun z => c (decide_eq_true z)
        refine ⟨_, _, rfl, sx.trans (same_upd ntp), ?_⟩
        rw [hb, hd]
        exact if_neg c
    · rintro σ H2 ⟨y1, y2, rfl, sx, hb⟩
      rw [List.length_map, List.drop_length] at hb
      exact q hb H2 sx
def sp_check_prices (K : PySem.W.Frag) (CB : Addr) : Sp := fun vs H Q E => ∃ (l : Addr) (ps : List Int) (m : Int), vs = [.ref l, .int m] ∧ H l = some (.lst (ps.map V.int)) ∧ ps.length ≤ 1000 ∧ (¬ (ps.length : Int) = m → ∀ H' d, Same H H' → H' d = some (.xd [("at", .non), ("what", .str "prices")]) → E (.ref CB) (some d) H') ∧
  ((ps.length : Int) = m → ∀ k : Nat, negAt ps 0 = some k → ∀ H' d, Same H H' → H' d = some (.xd [("at", .int k), ("what", .str "prices")]) → E (.ref CB) (some d) H') ∧ ((ps.length : Int) = m → negAt ps 0 = none → ∀ H', Same H H' → Q .non H')
theorem ok_check_prices {f : Addr} {fd : FuncData} {C_Rule C_Ratio C_BadNumber C_TooMany C_ZeroBottom C_BadLot C_ShelfError : Addr} (F : Fun K "check_prices" "check_prices" s_check_prices f fd) (T : Txt K mg C_Rule C_Ratio C_BadNumber C_TooMany C_ZeroBottom C_BadLot C_ShelfError) (c_check_length : Cal P w K mg base (L2.CX P w) 3 "check_length" ["what", "items", "many"] (sp_check_length C_BadNumber)) (c_check_each : Cal P w K mg base (L2.CX P w) 3 "check_each" ["what", "numbers", "least"] (sp_check_each K C_BadNumber)) : FnOk P w K mg base (L2.CX P w) 4 f fd ["prices", "many"] (sp_check_prices K C_BadNumber) := by
  refine F.okX sc_check_prices (fun vs H Q E h => ?_) (fun cdv A outer s H vs Q E hr h => ?_)
  · obtain ⟨l, ps, m, rfl, _⟩ := h
    rfl
  · obtain ⟨l, ps, m, rfl, hl, hlen, kL, kE, q⟩ := h
    obtain ⟨f_check_length, fd_check_length, G_check_length, m_check_length, k_check_length, b_check_length⟩ := c_check_length
    obtain ⟨f_check_each, fd_check_each, G_check_each, m_check_each, k_check_each, b_check_each⟩ := c_check_each
    refine ⟨_, (pss_cons (ps_expr (pe_call G_check_length (hr.mono (by decide)) (by rfl) m_check_length k_check_length b_check_length .nil (passes_call (takes_of rfl rfl rfl rfl) (fun _ _ _ _ h => h)) (pa_cons pe_str (pa_cons (pv 0) (pa_cons (pv 1) pa_nil)))))
      (pss_one (ps_expr (pe_call G_check_each (hr.mono (by decide)) (by rfl) m_check_each k_check_each b_check_each .nil (passes_call (takes_of rfl rfl rfl rfl) (fun _ _ _ _ h => h)) (pa_cons pe_str (pa_cons (pv 0) (pa_cons pe_int pa_nil))))))), ?_⟩
    refine ⟨_, rfl, _, rfl, _, l, _, m, rfl, hl, fun e d nd => ?_, fun e => ?_⟩
    · rw [List.length_map] at e
      exact kL e _ d (same_upd nd) upd_same
    rw [List.length_map] at e
    exact ⟨_, rfl, l, _, ps, 0, rfl, hl, hlen, fun k hk H' d s hd => kE e k ((low_neg ps 0).symm.trans hk) H' d s hd, fun hb H' s => q e ((low_neg ps 0).symm.trans hb) H' s⟩
def sp_Rule___init__ (C CT : Addr) : Sp := fun vs H Q E => ∃ (p dx : Addr) (fs : List (Str × V)) (m : Int), vs = [.ref p, .int m] ∧ H p = some (.ins C dx fs) ∧ fs.length ≤ 900 ∧ (m > 24 → ∀ d, H d = none → E (.ref CT) (some d) (upd H d (.xd [("most", .int 24), ("many", .int m)]))) ∧ (¬ m > 24 → Q .non (upd H p (.ins C dx (putF "many" (.int m) fs))))
theorem ok_Rule___init__ {f : Addr} {fd : FuncData} {C_Rule C_Ratio C_BadNumber C_TooMany C_ZeroBottom C_BadLot C_ShelfError : Addr} (F : Fun K "__init__" "Rule.__init__" s_Rule___init__ f fd) (T : Txt K mg C_Rule C_Ratio C_BadNumber C_TooMany C_ZeroBottom C_BadLot C_ShelfError) (c_check_many : Cal P w K mg base (L2.CX P w) 3 "check_many" ["many", "most"] (sp_check_many C_TooMany)) : FnOk P w K mg base (L2.CX P w) 4 f fd ["self", "many"] (sp_Rule___init__ C_Rule C_TooMany) := by
  refine F.okX sc_Rule___init__ (fun vs H Q E h => ?_) (fun cdv A outer s H vs Q E hr h => ?_)
  · obtain ⟨p, dx, fs, m, rfl, _⟩ := h
    rfl
  · obtain ⟨p, dx, fs, m, rfl, hp, hl, kE, q⟩ := h
    obtain ⟨f_check_many, fd_check_many, G_check_many, m_check_many, k_check_many, b_check_many⟩ := c_check_many
    refine ⟨_, (pss_cons (ps_expr (pe_call G_check_many (hr.mono (by decide)) (by rfl) m_check_many k_check_many b_check_many .nil (passes_call (takes_of rfl rfl rfl rfl) (fun _ _ _ _ h => h)) (pa_cons (pv 1) (pa_cons (pe_glob (v := .int 24) (by rfl) T.g_MOST_THINGS.choose_spec ⟨_, rfl⟩) pa_nil))))
      (pss_one (ps_fld (pv 0) (pv 1) rfl))), ?_⟩
    refine ⟨_, rfl, m, 24, rfl, kE, fun e => ?_⟩
    exact ⟨_, rfl, _, rfl, p, C_Rule, dx, fs, rfl, hp, T.cl_Rule, T.n_Rule_many, by omega, q e⟩

/-- how a caller makes a plain rule that there is -/
theorem mk_r {C CT : Addr} {m : Int} {H : Hp} {G : Addr → Hp → Prop} {E : XK} (hm : ¬ m > 24) (k : ∀ x dx H', Same H H' → RAt C H' x dx m → G x H') :
    ∀ x dx, H x = none → H dx = none → dx ≠ x → sp_Rule___init__ C CT [.ref x, .int m] (upd (upd H dx (.own x)) x (.ins C dx [])) (fun v H2 => v = .non ∧ G x H2) E :=
  fun x dx nx nd _ => ⟨x, dx, [], m, rfl, upd_same, Nat.zero_le _, fun e => absurd e hm, fun _ => ⟨rfl, k x dx _ (fun b o e => by
    rw [upd_ne (ne_of_none e nx), upd_ne (ne_of_none e nx), upd_ne (ne_of_none e nd)]
    exact e) upd_same⟩⟩
def sp_check_lot (K : PySem.W.Frag) (CL : Addr) : Sp := fun vs H Q E => ∃ (l : Addr) (ns : List Int) (m : Int), vs = [.ref l, .int m] ∧ SqT K H l (ns.map V.int) ∧ (lotB ns (-1) m = false → E (.ref CL) none H) ∧ (lotB ns (-1) m = true → Q .non H)
theorem ok_check_lot {f : Addr} {fd : FuncData} {C_Rule C_Ratio C_BadNumber C_TooMany C_ZeroBottom C_BadLot C_ShelfError : Addr} (F : Fun K "check_lot" "check_lot" s_check_lot f fd) (T : Txt K mg C_Rule C_Ratio C_BadNumber C_TooMany C_ZeroBottom C_BadLot C_ShelfError) : FnOk P w K mg base (L2.CX P w) 1 f fd ["lot", "many"] (sp_check_lot K C_BadLot) := by
  refine F.okX sc_check_lot (fun vs H Q E h => ?_) (fun cdv A outer s H vs Q E hr h => ?_)
  · obtain ⟨l, ns, m, rfl, _⟩ := h
    rfl
  · obtain ⟨l, ns, m, rfl, hl, kE, q⟩ := h
    refine ⟨_, (pss_cons (ps_set (i := 2) sc_check_lot.nd rfl (Or.inl rfl) (pe_un un_neg pe_int))
      (pss_one (ps_for (passes_of rfl) rfl (pi_tup (pv 0)) (pg_name (i := 3) sc_check_lot.nd rfl (Or.inl rfl))
      (pss_cons (ps_if (PW.pt (pw_or (pt_cmpR op_le (pv 3) (pv 2) (nomark _)) (pw_or1 (pt_cmpR op_ge (pv 3) (pv 1) (nomark _))))) (pss_one (ps_raise rfl (takes_of rfl rfl rfl rfl) (pmk_own PySem.F.excBase_ValueError T.x_BadLot T.g_BadLot T.kc_BadLot (raises_own T.b_BadLot T.t_BadLot) (by exact rfl)))) pss_nil)
      (pss_one (ps_set (i := 2) sc_check_lot.nd rfl (Or.inl rfl) (pv 3))))))), ?_⟩
    refine ⟨1, rfl, ?_⟩
    refine ⟨_, rfl, l, rfl, ⟨_, hl⟩, for_tup (K := K) (a := l) (xs := ns.map V.int) (fun i σ H2 => ∃ (b : Int) (y : Option V), σ = [some (.ref l), some (.int m), some (.int b), y] ∧ H2 = H ∧ lotB ns (-1) m = lotB (ns.drop i) b m) ⟨-1, none, rfl, rfl, rfl⟩ (fun i σ H2 _ ⟨_, _, _, e, _⟩ => e ▸ hl) ?_ ?_⟩
    · rintro i x σ H2 hi ⟨b, y, rfl, rfl, hb⟩
      obtain ⟨n, rfl, hn⟩ := int_of hi
      have hd : ns.drop i = n :: ns.drop (i + 1) := by
        have lt : i < ns.length := (List.getElem?_eq_some_iff.mp hn).1
        rw [List.drop_eq_getElem_cons lt]
        rw [List.getElem?_eq_getElem lt] at hn
        rw [Option.some.inj hn]
      rw [hd] at hb
      refine ⟨_, rfl, _, rfl, _, _, rfl, rfl, _, rfl, ite2 (fun c => ?_) (fun c => ⟨_, rfl, _, rfl, _, _, rfl, rfl, _, rfl, ite2 (fun c2 => ?_) (fun c2 => ?_)⟩)⟩
      · exact kE (hb.trans (if_pos (.inl (of_decide_eq_true c))))
      · exact kE (hb.trans (if_pos (.inr (of_decide_eq_true c2))))
      · refine ⟨_, rfl, n, _, rfl, rfl, ?_⟩
        rw [hb]
        exact if_neg fun z => z.elim (fun z => c (decide_eq_true z)) fun z => c2 (decide_eq_true z)
    · rintro σ H2 ⟨b, y, rfl, rfl, hb⟩
      rw [List.length_map, List.drop_length] at hb
      exact q hb
/-- Ratio(t, b): ZeroBottom, or the fraction in lowest terms -/
def sp_Ratio___init__ (C CZ : Addr) : Sp := fun vs H Q E => ∃ (x dx : Addr) (t b : Int), vs = [.ref x, .int t, .int b] ∧ H x = some (.ins C dx []) ∧ (b ≠ 0 → Sm b) ∧ (b = 0 → E (.ref CZ) none H) ∧
  (b ≠ 0 → ∀ H', RatAt C H' x (nT t b) (nB t b) → (∀ c o, H c = some o → c ≠ x → H' c = some o) → Q .non H')

theorem ok_Ratio___init__ {f : Addr} {fd : FuncData} {C_Rule C_Ratio C_BadNumber C_TooMany C_ZeroBottom C_BadLot C_ShelfError : Addr} (F : FunD K "__init__" "Ratio.__init__" (defArgs s_Ratio___init__) (defBody s_Ratio___init__) (defScope s_Ratio___init__) [V.int 1] [] f fd) (T : Txt K mg C_Rule C_Ratio C_BadNumber C_TooMany C_ZeroBottom C_BadLot C_ShelfError) : FnOk P w K mg base (L2.CX P w) 1 f fd ["self", "top", "bottom"] (sp_Ratio___init__ C_Ratio C_ZeroBottom) := by
  refine FunD.ok (CX := (L2.CX P w)) F sc_Ratio___init__ (fun vs H Q E h => ?_) (fun cdv A outer s H vs Q E hr h => ?_)
  · obtain ⟨x, dx, t, b, rfl, _⟩ := h
    rfl
  · obtain ⟨x, dx, t, b, rfl, hx, hsm, kE, kQ⟩ := h
    refine ⟨_, (pss_cons (ps_if (pt_cmpR op_eq (pv 2) pe_int (nomark _)) (pss_one (ps_raise rfl (takes_of rfl rfl rfl rfl) (pmk_own PySem.F.excBase_ValueError T.x_ZeroBottom T.g_ZeroBottom T.kc_ZeroBottom (raises_own T.b_ZeroBottom T.t_ZeroBottom) (by exact rfl)))) pss_nil)
      (pss_cons (ps_set (i := 3) sc_Ratio___init__.nd rfl (Or.inl rfl) (pe_callBfun cr_gcd (by rfl) T.g_gcd (pa_cons (pv 1) (pa_cons (pv 2) pa_nil))))
      (Evl.pss_cut (ps_if (pt_cmpR op_lt (pv 2) pe_int (nomark _)) (pss_one (ps_set (i := 3) sc_Ratio___init__.nd rfl (Or.inl rfl) (pe_un un_neg (pv 3)))) pss_nil)
      (pss_cons (ps_fld (pv 0) (pe_op op_fdivWN (pv 1) (pv 3)) rfl)
      (pss_one (ps_fld (pv 0) (pe_op op_fdivWN (pv 2) (pv 3)) rfl)))))), ?_⟩
    refine ⟨_, rfl, rfl, _, rfl, ite2 (fun e => ?_) (fun e => ?_)⟩
    · have e := V.int.inj (of_decide_eq_true e)
      exact kE e
    · have hb : b ≠ 0 := fun z => e (decide_eq_true (congrArg V.int z))
      refine ⟨_, rfl, _, rfl, t, b, rfl, ?_⟩
      refine ⟨fun σ' H' => H' = H ∧ σ' = [some (.ref x), some (.int t), some (.int b), some (.int (rd t b))], ?_, ?_⟩
      · refine ⟨_, rfl, _, _, rfl, rfl, _, rfl, ite2 (fun e2 => ?_) (fun e2 => ?_)⟩
        · have e2 := of_decide_eq_true e2
          refine ⟨_, rfl, _, rfl, rfl, ?_⟩
          rw [show rd t b = -(rg t b) from if_pos e2]
          rfl
        · have e2 : ¬ b < 0 := fun z => e2 (decide_eq_true z)
          refine ⟨rfl, ?_⟩
          rw [show rd t b = rg t b from if_neg e2]
          rfl
      · rintro σ' H' ⟨rfl, rfl⟩
        refine ⟨_, rfl, _, rfl, t, rd t b, rfl, rfl, rd_div hb (hsm hb) t, _, rfl, x, C_Ratio, dx, [], rfl, hx, T.cl_Ratio, T.n_Ratio_top, (by show 0 < 1000; decide), ?_⟩
        refine ⟨_, rfl, _, rfl, b, rd t b, rfl, rfl, rd_div hb (hsm hb) b, _, rfl, x, C_Ratio, dx, _, rfl, upd_same, T.cl_Ratio, T.n_Ratio_bottom, (by show 1 < 1000; decide), ?_⟩
        refine kQ hb _ ⟨dx, Eq.trans upd_same (congrArg (fun q => some (HO.ins C_Ratio dx q)) (rF_new _ _))⟩ fun c o e hc => ?_
        rw [upd_ne hc, upd_ne hc]
        exact e

/-- how a caller makes a Ratio that there is -/
theorem mk_rat {C CZ : Addr} {t b : Int} {H : Hp} {G : Addr → Hp → Prop} {E : XK} (hb : b ≠ 0) (hs : Sm b) (k : ∀ x H', Same H H' → H x = none → RatAt C H' x (nT t b) (nB t b) → G x H') :
    ∀ x dx, H x = none → H dx = none → dx ≠ x → sp_Ratio___init__ C CZ [.ref x, .int t, .int b] (upd (upd H dx (.own x)) x (.ins C dx [])) (fun v H2 => v = .non ∧ G x H2) E :=
  fun x dx nx nd _ => ⟨x, dx, t, b, rfl, upd_same, fun _ => hs, fun z => absurd z hb, fun _ H' r kp => ⟨rfl, k x H' (Same.made nx nd kp) nx r⟩⟩
def sp__as_ratio (C : Addr) : Sp := fun vs H Q _ => ∃ (y : V) (T B : Int), vs = [y] ∧ NumAt C H y T B ∧ ∀ H' q, Same H H' → RatAt C H' q T B → Q (.ref q) H'
theorem ok__as_ratio {f : Addr} {fd : FuncData} {C_Rule C_Ratio C_BadNumber C_TooMany C_ZeroBottom C_BadLot C_ShelfError : Addr} (F : Fun K "_as_ratio" "_as_ratio" s__as_ratio f fd) (T : Txt K mg C_Rule C_Ratio C_BadNumber C_TooMany C_ZeroBottom C_BadLot C_ShelfError) (m_isinstance : mg "isinstance" = none) (c_Ratio___init__ : CalI P w K mg base (L2.CX P w) 1 C_Ratio ["self", "top", "bottom"] (sp_Ratio___init__ C_Ratio C_ZeroBottom) [V.int 1]) : FnOk P w K mg base CX0 3 f fd ["number"] (sp__as_ratio C_Ratio) := by
  refine F.ok sc__as_ratio (fun vs H Q E h => ?_) (fun cdv A outer s H vs Q E hr h => ?_)
  · obtain ⟨y, T1, B, rfl, _⟩ := h
    rfl
  · obtain ⟨y, T1, B, rfl, hy, q⟩ := h
    obtain ⟨f_Ratio___init__, fd_Ratio___init__, G_Ratio___init__, M_Ratio___init__, b_Ratio___init__, ds_Ratio___init__, vd_Ratio___init__, bd_Ratio___init__⟩ := c_Ratio___init__
    refine ⟨_, (pss_cons (ps_if (pt_val (pe_callB call_isi (by rfl) m_isinstance (by decide +kernel) (pa_cons (pv 0) (pa_cons (pe_glob (v := .ref C_Ratio) (by rfl) T.g_Ratio rfl) pa_nil)))) (pss_one (ps_ret (pv 0))) pss_nil)
      (pss_one (ps_ret (pe_make M_Ratio___init__ G_Ratio___init__ (hr.mono (by decide)) (by rfl) T.g_Ratio bd_Ratio___init__ vd_Ratio___init__ passL (pa_cons (pv 0) pa_nil))))), ?_⟩
    rcases hy with ⟨p, rfl, dx, hp⟩ | ⟨rfl, rfl⟩
    · refine ⟨.ref p, rfl, .ref p, .ref C_Ratio, .ref C_Ratio, .ref C_Ratio, true, rfl, .own C_Ratio, .base (.ins hp T.cl_Ratio T.ha_Ratio T.hnc T.htk T.hm_Ratio), T.kit_Ratio_Ratio, true, rfl, iteT ?_⟩
      exact ⟨_, rfl, q H p (Same.refl H) ⟨dx, hp⟩⟩
    · refine ⟨_, rfl, .int T1, .ref C_Ratio, .type "int", .ref C_Ratio, false, rfl, .own C_Ratio, .base (.int T1), T.kit_int_Ratio, false, rfl, iteF ?_⟩
      refine ⟨_, rfl, mk_rat (t := T1) (b := 1) (by decide) (sm_of (n := 1) (by decide)) fun x H5 e5 nx r => ?_⟩
      obtain ⟨e1, e2⟩ := low_uniq (by decide) (low (t := T1) (b := 1) (by decide)) (low_int T1)
      rw [e1, e2] at r
      exact q H5 x e5 r
def sp_Ratio___neg__ (C : Addr) : Sp := fun vs H Q _ => ∃ (p : Addr) (T1 B1 : Int), vs = [.ref p] ∧ RatAt C H p T1 B1 ∧ 0 < B1 ∧ Sm B1 ∧ ∀ H' r T B, Same H H' → RatAt C H' r T B → LowT (-T1) B1 T B → Q (.ref r) H'
theorem ok_Ratio___neg__ {f : Addr} {fd : FuncData} {C_Rule C_Ratio C_BadNumber C_TooMany C_ZeroBottom C_BadLot C_ShelfError : Addr} (F : Fun K "__neg__" "Ratio.__neg__" s_Ratio___neg__ f fd) (T : Txt K mg C_Rule C_Ratio C_BadNumber C_TooMany C_ZeroBottom C_BadLot C_ShelfError) (c_Ratio___init__ : CalI P w K mg base (L2.CX P w) 1 C_Ratio ["self", "top", "bottom"] (sp_Ratio___init__ C_Ratio C_ZeroBottom) [V.int 1]) : FnOk P w K mg base CX0 3 f fd ["self"] (sp_Ratio___neg__ C_Ratio) := by
  refine F.ok sc_Ratio___neg__ (fun vs H Q E h => ?_) (fun cdv A outer s H vs Q E hr h => ?_)
  · obtain ⟨p, T1, B1, rfl, _⟩ := h
    rfl
  · obtain ⟨p, T1, B1, rfl, ⟨dx, hp⟩, p1, s1, q⟩ := h
    obtain ⟨f_Ratio___init__, fd_Ratio___init__, G_Ratio___init__, M_Ratio___init__, b_Ratio___init__, ds_Ratio___init__, vd_Ratio___init__, bd_Ratio___init__⟩ := c_Ratio___init__
    refine ⟨_, (pss_one (ps_ret (pe_make M_Ratio___init__ G_Ratio___init__ (hr.mono (by decide)) (by rfl) T.g_Ratio b_Ratio___init__ .nil passL (pa_cons (pe_un un_neg (pe_fld (pv 0) rfl)) (pa_cons (pe_fld (pv 0) rfl) pa_nil))))), ?_⟩
    refine ⟨.ref p, rfl, p, C_Ratio, dx, _, _, rfl, hp, T.cl_Ratio, T.n_Ratio_top, rF_top T1 B1, T1, rfl, .ref p, rfl, p, C_Ratio, dx, _, _, rfl, hp, T.cl_Ratio, T.n_Ratio_bottom, rF_bot T1 B1, mk_rat (t := -T1) (b := B1) (by omega) s1 fun x H5 e5 nx r => ?_⟩
    exact q H5 x _ _ e5 r (low (by omega))
def sp_Ratio___add__ (C : Addr) : Sp := fun vs H Q _ => ∃ (p : Addr) (y : V) (T1 B1 T2 B2 : Int), vs = [.ref p, y] ∧ RatAt C H p T1 B1 ∧ NumAt C H y T2 B2 ∧ 0 < B1 ∧ 0 < B2 ∧ Sm T1 ∧ Sm B1 ∧ Sm T2 ∧ Sm B2 ∧ Sm (B1 * B2) ∧
  ∀ H' r T B, Same H H' → RatAt C H' r T B → LowT (T1 * B2 + T2 * B1) (B1 * B2) T B → Q (.ref r) H'
theorem ok_Ratio___add__ {f : Addr} {fd : FuncData} {C_Rule C_Ratio C_BadNumber C_TooMany C_ZeroBottom C_BadLot C_ShelfError : Addr} (F : Fun K "__add__" "Ratio.__add__" s_Ratio___add__ f fd) (T : Txt K mg C_Rule C_Ratio C_BadNumber C_TooMany C_ZeroBottom C_BadLot C_ShelfError) (c__as_ratio : Cal P w K mg base CX0 3 "_as_ratio" ["number"] (sp__as_ratio C_Ratio)) (c_Ratio___init__ : CalI P w K mg base (L2.CX P w) 1 C_Ratio ["self", "top", "bottom"] (sp_Ratio___init__ C_Ratio C_ZeroBottom) [V.int 1]) : FnOk P w K mg base CX0 4 f fd ["self", "other"] (sp_Ratio___add__ C_Ratio) := by
  refine F.ok sc_Ratio___add__ (fun vs H Q E h => ?_) (fun cdv A outer s H vs Q E hr h => ?_)
  · obtain ⟨p, y, T1, B1, T2, B2, rfl, _⟩ := h
    rfl
  · obtain ⟨p, y, T1, B1, T2, B2, rfl, hp, hy, p1, p2, s1, s2, s3, s4, s5, q⟩ := h
    obtain ⟨f__as_ratio, fd__as_ratio, G__as_ratio, m__as_ratio, k__as_ratio, b__as_ratio⟩ := c__as_ratio
    obtain ⟨f_Ratio___init__, fd_Ratio___init__, G_Ratio___init__, M_Ratio___init__, b_Ratio___init__, ds_Ratio___init__, vd_Ratio___init__, bd_Ratio___init__⟩ := c_Ratio___init__
    refine ⟨_, (pss_cons (ps_set (i := 2) sc_Ratio___add__.nd rfl (Or.inl rfl) (pe_call G__as_ratio (hr.mono (by decide)) (by rfl) m__as_ratio k__as_ratio b__as_ratio .nil pass0 (pa_cons (pv 1) pa_nil)))
      (pss_one (ps_ret (pe_make M_Ratio___init__ G_Ratio___init__ (hr.mono (by decide)) (by rfl) T.g_Ratio b_Ratio___init__ .nil passL (pa_cons (pe_op op_add (pe_op op_mulW (pe_fld (pv 0) rfl) (pe_fld (pv 2) rfl)) (pe_op op_mulW (pe_fld (pv 2) rfl) (pe_fld (pv 0) rfl))) (pa_cons (pe_op op_mulW (pe_fld (pv 0) rfl) (pe_fld (pv 2) rfl)) pa_nil)))))), ?_⟩
    refine ⟨y, rfl, y, T2, B2, rfl, hy, fun H1 z e1 rz => ?_⟩
    obtain ⟨dx, hp1⟩ := hp.same e1
    obtain ⟨dz, hz⟩ := rz
    have n0 : B1 * B2 ≠ 0 := Int.ne_of_gt (Int.mul_pos p1 p2)
    refine ⟨.ref p, rfl, p, C_Ratio, dx, _, _, rfl, hp1, T.cl_Ratio, T.n_Ratio_top, rF_top T1 B1, .ref z, rfl, z, C_Ratio, dz, _, _, rfl, hz, T.cl_Ratio, T.n_Ratio_bottom, rF_bot T2 B2, T1, B2, rfl, rfl, s1.mul s4, ?_⟩
    refine ⟨.ref z, rfl, z, C_Ratio, dz, _, _, rfl, hz, T.cl_Ratio, T.n_Ratio_top, rF_top T2 B2, .ref p, rfl, p, C_Ratio, dx, _, _, rfl, hp1, T.cl_Ratio, T.n_Ratio_bottom, rF_bot T1 B1, T2, B1, rfl, rfl, s3.mul s2, _, _, rfl, rfl, ?_⟩
    refine ⟨.ref p, rfl, p, C_Ratio, dx, _, _, rfl, hp1, T.cl_Ratio, T.n_Ratio_bottom, rF_bot T1 B1, .ref z, rfl, z, C_Ratio, dz, _, _, rfl, hz, T.cl_Ratio, T.n_Ratio_bottom, rF_bot T2 B2, B1, B2, rfl, rfl, s2.mul s4, ?_⟩
    exact mk_rat (t := T1 * B2 + T2 * B1) (b := B1 * B2) n0 s5 fun x H5 e5 nx r => q H5 x _ _ (e1.trans e5) r (low n0)

theorem sum_take1 {ns : List Int} {i : Nat} {n : Int} (h : ns[i]? = some n) : (ns.take (i + 1)).sum = (ns.take i).sum + n := by
  rw [List.take_add_one, h, List.sum_append]
  simp
/-- sum(rs, start=Ratio(0)): all items over one bottom d -/
theorem sum_rats {K : PySem.W.Frag} {C l x0 : Addr} {H : Hp} {rs : List Addr} {ns : List Int} {d : Int} {Q : VK} (d0 : 0 < d) (sd : Sm d) (sdd : Sm (d * d)) (sS : ∀ i, Sm ((ns.take i).sum)) (sN : ∀ n ∈ ns, Sm n) (hl : H l = some (.lst (rs.map V.ref))) (lr : rs.length = ns.length)
    (hr : ∀ (i : Nat) (r : Addr) (n : Int), rs[i]? = some r → ns[i]? = some n → ∃ T B, RatAt C H r T B ∧ LowT n d T B) (h0 : ∃ T B, RatAt C H x0 T B ∧ LowT 0 1 T B)
    (q : ∀ H' r T B, Same H H' → RatAt C H' r T B → LowT ns.sum d T B → Q (.ref r) H') : rSumO K C (sp_Ratio___add__ C) [.ref l] [.ref x0] H Q := by
  have dn : d ≠ 0 := by omega
  refine ⟨l, rs.map V.ref, .ref x0, fun i x H' => ∃ r T B, x = .ref r ∧ Same H H' ∧ RatAt C H' r T B ∧ LowT (ns.take i).sum d T B, rfl, rfl, ?_, ?_, ?_, ?_⟩
  · obtain ⟨T, B, r0, lo⟩ := h0
    exact ⟨x0, T, B, rfl, Same.refl H, r0, lo.to (by decide) dn (by rw [List.take_zero]; show 0 * d = 0 * 1; omega)⟩
  · rintro i x H' ⟨r, T, B, rfl, s, ra, lo⟩
    obtain ⟨dx, e⟩ := ra
    exact ⟨lst_l (s _ _ hl), r, dx, _, rfl, e⟩
  · rintro i x y H' ⟨r, T1, B1, rfl, s, ra, lo⟩ hy
    rw [List.getElem?_map] at hy
    obtain ⟨r2, e2, rfl⟩ : ∃ r2, rs[i]? = some r2 ∧ V.ref r2 = y := by
      cases e : rs[i]? with
      | none =>
        rw [e] at hy
        cases hy
      | some z =>
        rw [e] at hy
        exact ⟨z, rfl, Option.some.inj hy⟩
    have lt : i < ns.length := lr ▸ (List.getElem?_eq_some_iff.mp e2).1
    have en : ns[i]? = some ns[i] := List.getElem?_eq_getElem lt
    obtain ⟨T2, B2, rb, lo2⟩ := hr i r2 _ e2 en
    have rb2 := rb.same s
    obtain ⟨dy, ey⟩ := id rb2
    refine ⟨⟨r2, dy, _, rfl, ey⟩, ?_⟩
    have p1 := lo.pos
    have p2 := lo2.pos
    have n12 : B1 * B2 ≠ 0 := Int.ne_of_gt (Int.mul_pos p1 p2)
    refine ⟨r, .ref r2, T1, B1, T2, B2, rfl, ra, rb2.num, p1, p2, (sS i).le lo.leT, sd.le lo.leB, (sN _ (List.getElem_mem lt)).le lo2.leT, sd.le lo2.leB, sdd.le ?_, fun H2 r3 T B s2 r3a lo3 => ?_⟩
    · rw [Int.natAbs_mul, Int.natAbs_mul]
      exact Nat.mul_le_mul lo.leB lo2.leB
    · refine ⟨r3, T, B, rfl, s.trans s2, r3a, lo3.to n12 dn ?_⟩
      rw [sum_take1 en]
      have e1 := lo.eq
      have e2 := lo2.eq
      generalize (ns.take i).sum = S at e1 ⊢
      generalize ns[i] = n at e2 ⊢
      grind
  · rintro x H' ⟨r, T, B, rfl, s, ra, lo⟩
    rw [List.length_map, lr, List.take_length] at lo
    exact q H' r T B s ra lo
def sp_Ratio___rsub__ (C : Addr) : Sp := fun vs H Q _ => ∃ (p : Addr) (y : V) (T1 B1 T2 B2 : Int), vs = [.ref p, y] ∧ RatAt C H p T1 B1 ∧ NumAt C H y T2 B2 ∧ 0 < B1 ∧ 0 < B2 ∧ Sm T1 ∧ Sm B1 ∧ Sm T2 ∧ Sm B2 ∧ Sm (B1 * B2) ∧
  ∀ H' r T B, Same H H' → RatAt C H' r T B → LowT (T2 * B1 - T1 * B2) (B1 * B2) T B → Q (.ref r) H'
theorem ok_Ratio___rsub__ {f : Addr} {fd : FuncData} {C_Rule C_Ratio C_BadNumber C_TooMany C_ZeroBottom C_BadLot C_ShelfError : Addr} (F : Fun K "__rsub__" "Ratio.__rsub__" s_Ratio___rsub__ f fd) (T : Txt K mg C_Rule C_Ratio C_BadNumber C_TooMany C_ZeroBottom C_BadLot C_ShelfError) (c_Ratio___neg__ : CalM P w K mg base CX0 3 C_Ratio "__neg__" ["self"] (sp_Ratio___neg__ C_Ratio)) (c_Ratio___add__ : CalM P w K mg base CX0 4 C_Ratio "__add__" ["self", "other"] (sp_Ratio___add__ C_Ratio)) : FnOk P w K mg base CX0 5 f fd ["self", "other"] (sp_Ratio___rsub__ C_Ratio) := by
  refine F.ok sc_Ratio___rsub__ (fun vs H Q E h => ?_) (fun cdv A outer s H vs Q E hr h => ?_)
  · obtain ⟨p, y, T1, B1, T2, B2, rfl, _⟩ := h
    rfl
  · obtain ⟨p, y, T1, B1, T2, B2, rfl, hp, hy, p1, p2, s1, s2, s3, s4, s5, q⟩ := h
    obtain ⟨f_Ratio___neg__, fd_Ratio___neg__, G_Ratio___neg__, M_Ratio___neg__, b_Ratio___neg__⟩ := c_Ratio___neg__
    obtain ⟨f_Ratio___add__, fd_Ratio___add__, G_Ratio___add__, M_Ratio___add__, b_Ratio___add__⟩ := c_Ratio___add__
    refine ⟨_, (pss_one (ps_ret (pe_op (op_own_Add M_Ratio___add__ T.sf_Ratio T.rf_Ratio_add T.int_add T.si_Ratio G_Ratio___add__ (hr.mono (by decide)) b_Ratio___add__ pass0) (pe_un (un_own M_Ratio___neg__ G_Ratio___neg__ (hr.mono (by decide)) b_Ratio___neg__ pass0) (pv 0)) (pv 1)))), ?_⟩
    refine ⟨.ref p, rfl, hp.self, p, T1, B1, rfl, hp, p1, s2, fun H2 m T3 B3 e2 rm lo => ?_⟩
    have e3 := lo.eq
    have p3 := lo.pos
    have n3 : B3 * B2 ≠ 0 := Int.ne_of_gt (Int.mul_pos p3 p2)
    have n0 : B1 * B2 ≠ 0 := Int.ne_of_gt (Int.mul_pos p1 p2)
    have sT : Sm T3 := s1.le (by have := lo.leT; omega)
    have sB : Sm B3 := s2.le lo.leB
    have s53 : Sm (B3 * B2) := s5.le (by
      rw [Int.natAbs_mul, Int.natAbs_mul]
      exact Nat.mul_le_mul_right _ lo.leB)
    have hy2 := hy.same e2
    refine ⟨y, rfl, rm.self, hy2.arg, m, y, T3, B3, T2, B2, rfl, rm, hy2, p3, p2, sT, sB, s3, s4, s53, fun H3 r T4 B4 e4 rr lo2 => ?_⟩
    exact q H3 r T4 B4 (e2.trans e4) rr (lo2.to n3 n0 (by grind))
def sp_Ratio___mul__ (C : Addr) : Sp := fun vs H Q _ => ∃ (p : Addr) (y : V) (T1 B1 T2 B2 : Int), vs = [.ref p, y] ∧ RatAt C H p T1 B1 ∧ NumAt C H y T2 B2 ∧ 0 < B1 ∧ 0 < B2 ∧ Sm T1 ∧ Sm B1 ∧ Sm T2 ∧ Sm B2 ∧ Sm (B1 * B2) ∧
  ∀ H' r T B, Same H H' → RatAt C H' r T B → LowT (T1 * T2) (B1 * B2) T B → Q (.ref r) H'
theorem ok_Ratio___mul__ {f : Addr} {fd : FuncData} {C_Rule C_Ratio C_BadNumber C_TooMany C_ZeroBottom C_BadLot C_ShelfError : Addr} (F : Fun K "__mul__" "Ratio.__mul__" s_Ratio___mul__ f fd) (T : Txt K mg C_Rule C_Ratio C_BadNumber C_TooMany C_ZeroBottom C_BadLot C_ShelfError) (c__as_ratio : Cal P w K mg base CX0 3 "_as_ratio" ["number"] (sp__as_ratio C_Ratio)) (c_Ratio___init__ : CalI P w K mg base (L2.CX P w) 1 C_Ratio ["self", "top", "bottom"] (sp_Ratio___init__ C_Ratio C_ZeroBottom) [V.int 1]) : FnOk P w K mg base CX0 4 f fd ["self", "other"] (sp_Ratio___mul__ C_Ratio) := by
  refine F.ok sc_Ratio___mul__ (fun vs H Q E h => ?_) (fun cdv A outer s H vs Q E hr h => ?_)
  · obtain ⟨p, y, T1, B1, T2, B2, rfl, _⟩ := h
    rfl
  · obtain ⟨p, y, T1, B1, T2, B2, rfl, hp, hy, p1, p2, s1, s2, s3, s4, s5, q⟩ := h
    obtain ⟨f__as_ratio, fd__as_ratio, G__as_ratio, m__as_ratio, k__as_ratio, b__as_ratio⟩ := c__as_ratio
    obtain ⟨f_Ratio___init__, fd_Ratio___init__, G_Ratio___init__, M_Ratio___init__, b_Ratio___init__, ds_Ratio___init__, vd_Ratio___init__, bd_Ratio___init__⟩ := c_Ratio___init__
    refine ⟨_, (pss_cons (ps_set (i := 2) sc_Ratio___mul__.nd rfl (Or.inl rfl) (pe_call G__as_ratio (hr.mono (by decide)) (by rfl) m__as_ratio k__as_ratio b__as_ratio .nil pass0 (pa_cons (pv 1) pa_nil)))
      (pss_one (ps_ret (pe_make M_Ratio___init__ G_Ratio___init__ (hr.mono (by decide)) (by rfl) T.g_Ratio b_Ratio___init__ .nil passL (pa_cons (pe_op op_mulW (pe_fld (pv 0) rfl) (pe_fld (pv 2) rfl)) (pa_cons (pe_op op_mulW (pe_fld (pv 0) rfl) (pe_fld (pv 2) rfl)) pa_nil)))))), ?_⟩
    refine ⟨y, rfl, y, T2, B2, rfl, hy, fun H1 z e1 rz => ?_⟩
    obtain ⟨dx, hp1⟩ := hp.same e1
    obtain ⟨dz, hz⟩ := rz
    have n0 : B1 * B2 ≠ 0 := Int.ne_of_gt (Int.mul_pos p1 p2)
    refine ⟨.ref p, rfl, p, C_Ratio, dx, _, _, rfl, hp1, T.cl_Ratio, T.n_Ratio_top, rF_top T1 B1, .ref z, rfl, z, C_Ratio, dz, _, _, rfl, hz, T.cl_Ratio, T.n_Ratio_top, rF_top T2 B2, T1, T2, rfl, rfl, s1.mul s3, ?_⟩
    refine ⟨.ref p, rfl, p, C_Ratio, dx, _, _, rfl, hp1, T.cl_Ratio, T.n_Ratio_bottom, rF_bot T1 B1, .ref z, rfl, z, C_Ratio, dz, _, _, rfl, hz, T.cl_Ratio, T.n_Ratio_bottom, rF_bot T2 B2, B1, B2, rfl, rfl, s2.mul s4, ?_⟩
    exact mk_rat (t := T1 * T2) (b := B1 * B2) n0 s5 fun x H5 e5 nx r => q H5 x _ _ (e1.trans e5) r (low n0)
def sp_Rule_shares (C CR CL : Addr) : Sp := fun vs H Q E => ∃ (p l dx : Addr) (m : Nat) (ns : List Int), vs = [.ref p, .ref l] ∧ RAt C H p dx (m : Int) ∧ H l = some (.tup (ns.map V.int)) ∧ m ≤ 24 ∧ ns.length ≤ 1000 ∧ (lotB ns (-1) m = false → E (.ref CL) none H) ∧
  (lotB ns (-1) m = true → ∀ H' L (rs : List Addr), Same H H' → H L = none → H' L = some (.lst (rs.map V.ref)) → rs.length = m → (∀ (i : Nat) (r : Addr), rs[i]? = some r → RatAt CR H' r 0 1) → Q (.ref L) H')
theorem ok_Rule_shares {f : Addr} {fd : FuncData} {C_Rule C_Ratio C_BadNumber C_TooMany C_ZeroBottom C_BadLot C_ShelfError : Addr} (F : Fun K "shares" "Rule.shares" s_Rule_shares f fd) (T : Txt K mg C_Rule C_Ratio C_BadNumber C_TooMany C_ZeroBottom C_BadLot C_ShelfError) (m_range : mg "range" = none) (c_check_lot : Cal P w K mg base (L2.CX P w) 1 "check_lot" ["lot", "many"] (sp_check_lot K C_BadLot)) (c_Ratio___init__ : CalI P w K mg base (L2.CX P w) 1 C_Ratio ["self", "top", "bottom"] (sp_Ratio___init__ C_Ratio C_ZeroBottom) [V.int 1]) : FnOk P w K mg base (L2.CX P w) 3 f fd ["self", "lot"] (sp_Rule_shares C_Rule C_Ratio C_BadLot) := by
  refine F.okX sc_Rule_shares (fun vs H Q E h => ?_) (fun cdv A outer s H vs Q E hr h => ?_)
  · obtain ⟨p, l, dx, m, ns, rfl, _⟩ := h
    rfl
  · obtain ⟨p, l, dx, m, ns, rfl, hp, hl, hm, nl, kE, q⟩ := h
    obtain ⟨f_check_lot, fd_check_lot, G_check_lot, m_check_lot, k_check_lot, b_check_lot⟩ := c_check_lot
    obtain ⟨f_Ratio___init__, fd_Ratio___init__, G_Ratio___init__, M_Ratio___init__, b_Ratio___init__, ds_Ratio___init__, vd_Ratio___init__, bd_Ratio___init__⟩ := c_Ratio___init__
    refine ⟨_, (pss_cons (ps_expr (pe_call G_check_lot (hr.mono (by decide)) (by rfl) m_check_lot k_check_lot b_check_lot .nil (passes_call (takes_of rfl rfl rfl rfl) (fun _ _ _ _ h => h)) (pa_cons (pv 1) (pa_cons (pe_fld (pv 0) rfl) pa_nil))))
      (pss_one (ps_ret (pe_lc (own := [("thing", 2)]) (g := (gName 2)) (tt := tYes) rfl sc_Rule_shares.nd (pi_range1 (by rfl) m_range (pa_cons (pe_fld (pv 0) rfl) pa_nil)) (blkOk_by (own := [("thing", 2)]) (N := ["self", "lot", "thing"]) (sc := defScope s_Rule_shares) (by decide +kernel)) (fun _ _ _ _ _ => (pg_name (i := 2) sc_Rule_shares.nd rfl (Or.inl rfl))) (fun _ _ _ _ _ => pts_nil) (fun _ _ _ _ _ => (pe_make M_Ratio___init__ G_Ratio___init__ (hr.mono (by decide)) (by rfl) T.g_Ratio bd_Ratio___init__ vd_Ratio___init__ passL (pa_cons pe_int pa_nil))))))), ?_⟩
    refine ⟨_, rfl, _, rfl, p, C_Rule, dx, _, _, rfl, hp, T.cl_Rule, T.n_Rule_many, fR_many _, l, ns, _, rfl, tup_t hl, kE, fun ok => ?_⟩
    refine ⟨_, rfl, p, C_Rule, dx, _, _, rfl, hp, T.cl_Rule, T.n_Rule_many, fR_many _, _, rfl, by omega, by omega, ?_⟩
    rw [Int.toNat_natCast]
    refine fun L nL => lc_range (lo := 0) (n := m) (fun i H3 => ∃ rs : List Addr, Same H H3 ∧ H3 L = some (.lst (rs.map V.ref)) ∧ rs.length = i ∧ ∀ (j : Nat) (r : Addr), rs[j]? = some r → RatAt C_Ratio H3 r 0 1) ⟨[], same_upd nL, upd_same, rfl, fun j r h => by cases h⟩ ?_ ?_
    · rintro i H3 hi ⟨rs, s3, hL, lr, hr⟩
      refine ⟨rfl, ?_⟩
      refine lc_yes ?_
      refine iteT ?_
      refine mk_rat (t := 0) (b := 1) (by decide) (sm_of (n := 1) (by decide)) fun x H4 e4 nx rx => ?_
      obtain ⟨z1, z2⟩ := low_is (low (t := 0) (b := 1) (by decide))
      rw [z1, z2] at rx
      have hL4 := e4 _ _ hL
      have stay : ∀ {r : Addr} {T' B' : Int}, RatAt C_Ratio H4 r T' B' → RatAt C_Ratio (upd H4 L (.lst (rs.map V.ref ++ [V.ref x]))) r T' B' := fun {r T' B'} ⟨dx', e⟩ => ⟨dx', (upd_ne fun z => by
        rw [z, hL4] at e
        cases e).trans e⟩
      refine ⟨_, hL4, ?_, rs ++ [x], same_mut (s3.trans e4) nL, ?_, ?_, fun j r h => ?_⟩
      · rw [List.length_map]
        exact small1000 (by omega)
      · rw [upd_same, List.map_append]
        rfl
      · rw [List.length_append, lr]
        rfl
      · by_cases hj : j < rs.length
        · rw [List.getElem?_append_left hj] at h
          exact stay ((hr j r h).same e4)
        · rw [List.getElem?_append_right (by omega)] at h
          obtain ⟨k, hk⟩ : ∃ k, j - rs.length = k := ⟨_, rfl⟩
          rw [hk] at h
          cases k with
          | zero =>
            cases h
            exact stay rx
          | succ k => cases h
    · rintro H3 ⟨rs, s3, hL, lr, hr⟩
      exact q ok H3 L rs s3 nL hL lr hr
def sp_Rule_away (C CR CL : Addr) : Sp := fun vs H Q E => ∃ (p l dx : Addr) (m : Nat) (ns : List Int), vs = [.ref p, .ref l] ∧ RAt C H p dx (m : Int) ∧ H l = some (.tup (ns.map V.int)) ∧ m ≤ 24 ∧ ns.length ≤ 1000 ∧ (lotB ns (-1) m = false → E (.ref CL) none H) ∧
  (lotB ns (-1) m = true → ∀ H' r, Same H H' → RatAt CR H' r 1 1 → Q (.ref r) H')
theorem ok_Rule_away {f : Addr} {fd : FuncData} {C_Rule C_Ratio C_BadNumber C_TooMany C_ZeroBottom C_BadLot C_ShelfError : Addr} (F : Fun K "away" "Rule.away" s_Rule_away f fd) (T : Txt K mg C_Rule C_Ratio C_BadNumber C_TooMany C_ZeroBottom C_BadLot C_ShelfError) (m_sum : mg "sum" = none) (c_Rule_shares : CalM P w K mg base (L2.CX P w) 3 C_Rule "shares" ["self", "lot"] (sp_Rule_shares C_Rule C_Ratio C_BadLot)) (c_Ratio___init__ : CalI P w K mg base (L2.CX P w) 1 C_Ratio ["self", "top", "bottom"] (sp_Ratio___init__ C_Ratio C_ZeroBottom) [V.int 1]) (c_Ratio___add__ : CalM P w K mg base CX0 4 C_Ratio "__add__" ["self", "other"] (sp_Ratio___add__ C_Ratio)) (c_Ratio___rsub__ : CalM P w K mg base CX0 5 C_Ratio "__rsub__" ["self", "other"] (sp_Ratio___rsub__ C_Ratio)) : FnOk P w K mg base (L2.CX P w) 6 f fd ["self", "lot"] (sp_Rule_away C_Rule C_Ratio C_BadLot) := by
  refine F.okX sc_Rule_away (fun vs H Q E h => ?_) (fun cdv A outer s H vs Q E hr h => ?_)
  · obtain ⟨p, l, dx, m, ns, rfl, _⟩ := h
    rfl
  · obtain ⟨p, l, dx, m, ns, rfl, hp, hl, hm, nl, kE, q⟩ := h
    obtain ⟨f_Rule_shares, fd_Rule_shares, G_Rule_shares, M_Rule_shares, b_Rule_shares⟩ := c_Rule_shares
    obtain ⟨f_Ratio___init__, fd_Ratio___init__, G_Ratio___init__, M_Ratio___init__, b_Ratio___init__, ds_Ratio___init__, vd_Ratio___init__, bd_Ratio___init__⟩ := c_Ratio___init__
    obtain ⟨f_Ratio___add__, fd_Ratio___add__, G_Ratio___add__, M_Ratio___add__, b_Ratio___add__⟩ := c_Ratio___add__
    obtain ⟨f_Ratio___rsub__, fd_Ratio___rsub__, G_Ratio___rsub__, M_Ratio___rsub__, b_Ratio___rsub__⟩ := c_Ratio___rsub__
    refine ⟨_, (pss_one (ps_ret (pe_op (op_ref_Sub M_Ratio___rsub__ T.sf_Ratio T.of_Ratio_sub T.sr_Ratio G_Ratio___rsub__ (hr.mono (by decide)) b_Ratio___rsub__ pass0) pe_int (pe_callBK (cr_sumO T.sum_Ratio M_Ratio___add__ rfl (fun _ => pass0) G_Ratio___add__ (hr.mono (by decide)) b_Ratio___add__) (by rfl) m_sum (by decide +kernel) (pa_cons (pe_meth (pv 0) T.cl_Rule M_Rule_shares G_Rule_shares (hr.mono (by decide)) b_Rule_shares .nil (passes_call (takes_of rfl rfl rfl rfl) (fun _ _ _ _ h => h)) (pa_cons (pv 1) pa_nil)) pa_nil) (pk_cons (pe_make M_Ratio___init__ G_Ratio___init__ (hr.mono (by decide)) (by rfl) T.g_Ratio bd_Ratio___init__ vd_Ratio___init__ (passes_call (takes_of rfl rfl rfl rfl) (fun _ _ _ _ h => h)) (pa_cons pe_int pa_nil)) pk_nil))))), ?_⟩
    refine ⟨_, rfl, p, dx, _, rfl, hp, fR_shares _, .ref l, rfl, p, l, dx, m, ns, rfl, hp, hl, hm, nl, kE, fun ok H1 L rs s1 nL hL lr hr => ?_⟩
    refine mk_rat (t := 0) (b := 1) (by decide) (sm_of (n := 1) (by decide)) fun x0 H2 s2 nx r0 => ?_
    have one : Sm (1 : Int) := sm_of (n := 1) (by decide)
    have zs : ∀ i, ((List.replicate m (0 : Int)).take i).sum = 0 := fun i => by rw [List.take_replicate, zeros_sum]
    refine sum_rats (ns := List.replicate m 0) (d := 1) (by decide) one (by rw [Int.mul_one]; exact one) (fun i => by rw [zs i]; exact sm_of (n := 1) (by decide)) (fun n hn => by rw [(List.mem_replicate.mp hn).2]; exact sm_of (n := 1) (by decide)) (s2 _ _ hL) (by rw [lr, List.length_replicate]) (fun i r n hi hn => ?_) ⟨_, _, r0, low (by decide)⟩ fun H3 r T1 B1 s3 rr lo => ?_
    · have e := (List.mem_replicate.mp (List.mem_of_getElem? hn)).2
      rw [e]
      exact ⟨0, 1, (hr i r hi).same s2, low_int 0⟩
    rw [zeros_sum] at lo
    obtain ⟨rfl, rfl⟩ := low_is lo
    refine ⟨⟨1, rfl⟩, rr.self, r, .int 1, 0, 1, 1, 1, rfl, rr, .inr ⟨rfl, rfl⟩, by decide, by decide, sm_of (n := 1) (by decide), one, one, one, one, fun H4 z T2 B2 s4 rz lo2 => ?_⟩
    obtain ⟨rfl, rfl⟩ := low_is (t := 1) (lo2.to (by decide) (by decide) (by decide))
    exact q ok H4 z (((s1.trans s2).trans s3).trans s4) rz
def sp_Rule_worth (C CR CL CB : Addr) : Sp := fun vs H Q E => ∃ (p l P dx : Addr) (m : Nat) (ns ps : List Int), vs = [.ref p, .ref l, .ref P] ∧ RAt C H p dx (m : Int) ∧ H l = some (.tup (ns.map V.int)) ∧ m ≤ 24 ∧ ns.length ≤ 1000 ∧ H P = some (.lst (ps.map V.int)) ∧ ps.length ≤ 1000 ∧ (∀ p ∈ ps, p ≤ 10 ^ 18) ∧
  (¬ ps.length = m → ∀ H' d, Same H H' → H' d = some (.xd [("at", .non), ("what", .str "prices")]) → E (.ref CB) (some d) H') ∧
  (ps.length = m → ∀ k : Nat, negAt ps 0 = some k → ∀ H' d, Same H H' → H' d = some (.xd [("at", .int k), ("what", .str "prices")]) → E (.ref CB) (some d) H') ∧
  (ps.length = m → negAt ps 0 = none → lotB ns (-1) m = false → ∀ H', Same H H' → E (.ref CL) none H') ∧
  (ps.length = m → negAt ps 0 = none → lotB ns (-1) m = true → ∀ H' r, Same H H' → RatAt CR H' r 0 1 → Q (.ref r) H')
theorem ok_Rule_worth {f : Addr} {fd : FuncData} {C_Rule C_Ratio C_BadNumber C_TooMany C_ZeroBottom C_BadLot C_ShelfError : Addr} (F : Fun K "worth" "Rule.worth" s_Rule_worth f fd) (T : Txt K mg C_Rule C_Ratio C_BadNumber C_TooMany C_ZeroBottom C_BadLot C_ShelfError) (m_sum : mg "sum" = none) (c_check_prices : Cal P w K mg base (L2.CX P w) 4 "check_prices" ["prices", "many"] (sp_check_prices K C_BadNumber)) (c_Rule_shares : CalM P w K mg base (L2.CX P w) 3 C_Rule "shares" ["self", "lot"] (sp_Rule_shares C_Rule C_Ratio C_BadLot)) (c_Ratio___init__ : CalI P w K mg base (L2.CX P w) 1 C_Ratio ["self", "top", "bottom"] (sp_Ratio___init__ C_Ratio C_ZeroBottom) [V.int 1]) (c_Ratio___mul__ : CalM P w K mg base CX0 4 C_Ratio "__mul__" ["self", "other"] (sp_Ratio___mul__ C_Ratio)) (c_Ratio___add__ : CalM P w K mg base CX0 4 C_Ratio "__add__" ["self", "other"] (sp_Ratio___add__ C_Ratio)) : FnOk P w K mg base (L2.CX P w) 6 f fd ["self", "lot", "prices"] (sp_Rule_worth C_Rule C_Ratio C_BadLot C_BadNumber) := by
  refine F.okX sc_Rule_worth (fun vs H Q E h => ?_) (fun cdv A outer s H vs Q E hr h => ?_)
  · obtain ⟨p, l, P, dx, m, ns, ps, rfl, _⟩ := h
    rfl
  · obtain ⟨p, l, P, dx, m, ns, ps, rfl, hp, hl, hm, nl, hP, pl, bp, k1, k2, k3, q⟩ := h
    obtain ⟨f_check_prices, fd_check_prices, G_check_prices, m_check_prices, k_check_prices, b_check_prices⟩ := c_check_prices
    obtain ⟨f_Rule_shares, fd_Rule_shares, G_Rule_shares, M_Rule_shares, b_Rule_shares⟩ := c_Rule_shares
    obtain ⟨f_Ratio___init__, fd_Ratio___init__, G_Ratio___init__, M_Ratio___init__, b_Ratio___init__, ds_Ratio___init__, vd_Ratio___init__, bd_Ratio___init__⟩ := c_Ratio___init__
    obtain ⟨f_Ratio___mul__, fd_Ratio___mul__, G_Ratio___mul__, M_Ratio___mul__, b_Ratio___mul__⟩ := c_Ratio___mul__
    obtain ⟨f_Ratio___add__, fd_Ratio___add__, G_Ratio___add__, M_Ratio___add__, b_Ratio___add__⟩ := c_Ratio___add__
    refine ⟨_, (pss_cons (ps_expr (pe_call G_check_prices (hr.mono (by decide)) (by rfl) m_check_prices k_check_prices b_check_prices .nil (passes_call (takes_of rfl rfl rfl rfl) (fun _ _ _ _ h => h)) (pa_cons (pv 2) (pa_cons (pe_fld (pv 0) rfl) pa_nil))))
      (pss_cons (ps_set (i := 3) sc_Rule_worth.nd rfl (Or.inr rfl) (pe_meth (pv 0) T.cl_Rule M_Rule_shares G_Rule_shares (hr.mono (by decide)) b_Rule_shares .nil (passes_call (takes_of rfl rfl rfl rfl) (fun _ _ _ _ h => h)) (pa_cons (pv 1) pa_nil)))
      (pss_one (ps_ret (pe_callBK (cr_sumO T.sum_Ratio M_Ratio___add__ rfl (fun _ => pass0) G_Ratio___add__ (hr.mono (by decide)) b_Ratio___add__) (by rfl) m_sum (by decide +kernel) (pa_cons (pe_lc (own := [("thing", 4)]) (g := (gName 4)) (tt := tYes) rfl sc_Rule_worth.nd (pi_tup (pv 1)) (blkOk_by (own := [("thing", 4)]) (N := ["self", "lot", "prices", "shares", "thing"]) (sc := defScope s_Rule_worth) (by decide +kernel)) (fun _ _ _ _ _ => (pg_name (i := 4) sc_Rule_worth.nd rfl (Or.inl rfl))) (fun _ _ _ _ _ => pts_nil) (fun _ _ _ _ _ => (pe_op (op_own_Mult M_Ratio___mul__ T.sf_Ratio T.rf_Ratio_mul T.int_mul T.si_Ratio G_Ratio___mul__ (hr.mono (by decide)) b_Ratio___mul__ pass0) (pe_ix (r := rIxL K) ix_list (pv 3) (pv 4) (fun _ _ => rfl)) (pe_ix (r := rIxL K) ix_list (pv 2) (pv 4) (fun _ _ => rfl))))) pa_nil) (pk_cons (pe_make M_Ratio___init__ G_Ratio___init__ (hr.mono (by decide)) (by rfl) T.g_Ratio bd_Ratio___init__ vd_Ratio___init__ (passes_call (takes_of rfl rfl rfl rfl) (fun _ _ _ _ h => h)) (pa_cons pe_int pa_nil)) pk_nil)))))), ?_⟩
    refine ⟨_, rfl, _, rfl, p, C_Rule, dx, _, _, rfl, hp, T.cl_Rule, T.n_Rule_many, fR_many _, P, ps, _, rfl, hP, pl, fun e H' d s hd => k1 (fun z => e (by omega)) H' d s hd, fun e k hk H' d s hd => k2 (by omega) k hk H' d s hd, fun e hn H1 s1 => ?_⟩
    have e : ps.length = m := by omega
    have hp1 := hp.same s1
    refine ⟨_, rfl, p, dx, _, rfl, hp1, fR_shares _, _, rfl, p, l, dx, m, ns, rfl, hp1, s1 _ _ hl, hm, nl, fun bad => k3 e hn bad H1 s1, fun ok H2 L rs s2 nL hL lr hr => ?_⟩
    have inl := lotB_in ok
    have hp0 := negAt_nn hn
    have one : Sm (1 : Int) := sm_of (n := 1) (by decide)
    have nil : Sm (0 : Int) := sm_of (n := 1) (by decide)
    have s12 := s1.trans s2
    have hl2 := s12 _ _ hl
    have hP2 := s12 _ _ hP
    refine ⟨_, rfl, l, rfl, ⟨_, tup_t hl2⟩, fun D nD => lc_tup (K := K) (a := l) (xs := ns.map V.int) (fun i H3 => ∃ gs : List Addr, Same H2 H3 ∧ H3 D = some (.lst (gs.map V.ref)) ∧ gs.length = i ∧ ∀ (j : Nat) (r : Addr), gs[j]? = some r → RatAt C_Ratio H3 r 0 1) ⟨[], same_upd nD, upd_same, rfl, fun j r h => by cases h⟩ (fun i H3 _ ⟨_, s, _⟩ => tup_t (s _ _ hl2)) ?_ ?_⟩
    · rintro i x H3 hi ⟨gs, s3, hD, lg, hg⟩
      obtain ⟨n, rfl, hin⟩ := int_of hi
      have bn := inl n (List.mem_of_getElem? hin)
      obtain ⟨k, rfl⟩ : ∃ k : Nat, n = (k : Int) := ⟨n.toNat, by omega⟩
      have er : rs[k]? = some rs[k] := List.getElem?_eq_getElem (by omega)
      have vr : (rs.map V.ref)[k]? = some (.ref rs[k]) := by rw [List.getElem?_map, er]; rfl
      have ra := (hr k _ er).same s3
      refine ⟨rfl, ?_⟩
      refine lc_yes ?_
      refine iteT ?_
      refine ⟨_, rfl, _, rfl, L, _, _, _, rfl, rfl, lst_l (s3 _ _ hL), atI_nat vr, _, rfl, _, rfl, P, _, _, _, rfl, rfl, lst_l (s3 _ _ hP2), ws_at (by omega) (by omega), ra.self, .inr ⟨_, rfl⟩, ?_⟩
      have g0 := getD_n0 hp0 k
      have g1 := getD_le bp k
      rw [Int.toNat_natCast]
      refine ⟨rs[k], .int (ps.getD k 0), 0, 1, ps.getD k 0, 1, rfl, ra, .inr ⟨rfl, rfl⟩, by decide, by decide, nil, one, sm_36 g0 (by omega), one, one, fun H4 z T1 B1 s4 rz lz => ?_⟩
      obtain ⟨rfl, rfl⟩ := low_is (t := 0) (lz.to (by decide) (by decide) (by simp))
      have hD4 := s4 _ _ hD
      have stay : ∀ {r : Addr} {T' B' : Int}, RatAt C_Ratio H4 r T' B' → RatAt C_Ratio (upd H4 D (.lst (gs.map V.ref ++ [V.ref z]))) r T' B' := fun {r T' B'} ⟨dx', e⟩ => ⟨dx', (upd_ne fun z => by
        rw [z, hD4] at e
        cases e).trans e⟩
      refine ⟨_, hD4, ?_, gs ++ [z], same_mut (s3.trans s4) nD, ?_, ?_, fun j r h => ?_⟩
      · rw [List.length_map]
        have := (List.getElem?_eq_some_iff.mp hin).1
        exact small1000 (by omega)
      · rw [upd_same, List.map_append]
        rfl
      · rw [List.length_append, lg]
        rfl
      · by_cases hj : j < gs.length
        · rw [List.getElem?_append_left hj] at h
          exact stay ((hg j r h).same s4)
        · rw [List.getElem?_append_right (by omega)] at h
          obtain ⟨y, hy⟩ : ∃ y, j - gs.length = y := ⟨_, rfl⟩
          rw [hy] at h
          cases y with
          | zero =>
            cases h
            exact stay rz
          | succ y => cases h
    rintro H3 ⟨gs, s3, hD, lg, hg⟩
    rw [List.length_map] at lg
    refine mk_rat (t := 0) (b := 1) (by decide) (sm_of (n := 1) (by decide)) fun x0 H4 s4 nx r0 => ?_
    have zs : ∀ i, ((List.replicate ns.length (0 : Int)).take i).sum = 0 := fun i => by rw [List.take_replicate, zeros_sum]
    refine sum_rats (ns := List.replicate ns.length 0) (d := 1) (by decide) one (by rw [Int.mul_one]; exact one) (fun i => by rw [zs i]; exact nil) (fun n hn => by rw [(List.mem_replicate.mp hn).2]; exact nil) (s4 _ _ hD) (by rw [lg, List.length_replicate]) (fun i r n hi hn => ?_) ⟨_, _, r0, low (by decide)⟩ fun H5 r T1 B1 s5 rr lo => ?_
    · have e := (List.mem_replicate.mp (List.mem_of_getElem? hn)).2
      rw [e]
      exact ⟨0, 1, (hg i r hi).same s4, low_int 0⟩
    · rw [zeros_sum] at lo
      obtain ⟨rfl, rfl⟩ := low_is lo
      exact q e hn ok H5 r (((s12.trans s3).trans s4).trans s5) rr
def sp__law_cell (K : PySem.W.Frag) : Sp := fun vs H Q _ => ∃ (a : Addr) (ns : List Int) (j : Nat), vs = [.ref a, .int (j : Int)] ∧ SqL K H a (ns.map V.int) ∧ ∀ v : Int, Q (.int v) H
theorem ok__law_cell {f : Addr} {fd : FuncData} {C_Rule C_Ratio C_BadNumber C_TooMany C_ZeroBottom C_BadLot C_ShelfError : Addr} (F : Fun K "_law_cell" "_law_cell" s__law_cell f fd) (T : Txt K mg C_Rule C_Ratio C_BadNumber C_TooMany C_ZeroBottom C_BadLot C_ShelfError) (m_int : mg "int" = none) (m_len : mg "len" = none) : FnOk P w K mg base CX0 1 f fd ["_law_script", "_law_place"] (sp__law_cell K) := by
  refine F.ok sc__law_cell (fun vs H Q E h => ?_) (fun cdv A outer s H vs Q E hr h => ?_)
  · obtain ⟨a, ns, j, rfl, _⟩ := h
    rfl
  · obtain ⟨a, ns, j, rfl, hS, q⟩ := h
    refine ⟨_, (pss_cons (ps_if (pt_cmpR op_lt (pv 1) (pe_callB call_len_seq (by rfl) m_len (by decide +kernel) (pa_cons (pv 0) pa_nil)) (nomark _)) (pss_one (ps_ret (pe_callTy call_int1 (by rfl) m_int (by decide +kernel) (pa_cons (pe_ix ix_list (pv 0) (pv 1) (fun _ _ => rfl)) pa_nil)))) pss_nil)
      (pss_one (ps_ret pe_int))), ?_⟩
    refine ⟨_, rfl, .ref a, rfl, a, _, rfl, .inl hS, _, _, rfl, rfl, _, rfl, ite2 (fun e => ?_) (fun _ => q 0)⟩
    have hj : j < ns.length := by
      have e := of_decide_eq_true e
      rw [List.length_map] at e
      omega
    exact ⟨.ref a, rfl, .int (j : Int), rfl, a, _, _, _, rfl, rfl, hS, atI_nat (int_at (List.getElem?_eq_getElem hj)), .inl ⟨_, rfl, q _⟩⟩
def sp__law_draws (K : PySem.W.Frag) : Sp := fun vs H Q _ => ∃ (c : Int) (a : Addr) (ns : List Int), vs = [.int c, .ref a] ∧ SqL K H a (ns.map V.int) ∧ (∀ n ∈ ns, 0 < n ∧ n < 2 ^ 100) ∧ ns.length ≤ 1000 ∧
  ∀ ds H' p, Within ds ns → Same H H' → H p = none → H' p = some (.lst (ds.map V.int)) → Q (.ref p) H'

theorem ok__law_draws {f : Addr} {fd : FuncData} {C_Rule C_Ratio C_BadNumber C_TooMany C_ZeroBottom C_BadLot C_ShelfError : Addr} (F : Fun K "_law_draws" "_law_draws" s__law_draws f fd) (T : Txt K mg C_Rule C_Ratio C_BadNumber C_TooMany C_ZeroBottom C_BadLot C_ShelfError) (m_int : mg "int" = none) (m_len : mg "len" = none) (m_range : mg "range" = none) : FnOk P w K mg base CX0 1 f fd ["_law_cell_here", "_law_sizes"] (sp__law_draws K) := by
  refine F.ok sc__law_draws (fun vs H Q E h => ?_) (fun cdv A outer s H vs Q E hr h => ?_)
  · obtain ⟨c, a, ns, rfl, _⟩ := h
    rfl
  · obtain ⟨c, a, ns, rfl, hS, hn, hlen, q⟩ := h
    refine ⟨_, (pss_cons (ps_if (pt_cmpR op_eq (pv 0) pe_int (nomark _)) (pss_one (ps_ret (pe_lc (own := [("_law_size", 2)]) (g := (gName 2)) (tt := tYes) rfl sc__law_draws.nd (pi_list (pv 1)) (blkOk_by (own := [("_law_size", 2)]) (N := ["_law_cell_here", "_law_sizes", "_law_size", "_law_left", "_law_found", "_law_k", "_law_low", "_law_high"]) (sc := defScope s__law_draws) (by decide +kernel)) (fun _ _ _ _ _ => (pg_name (i := 2) sc__law_draws.nd rfl (Or.inl rfl))) (fun _ _ _ _ _ => pts_nil) (fun _ _ _ _ _ => pe_int)))) pss_nil)
      (pss_cons (ps_if (pt_cmpR op_ge (pv 0) (pe_op op_pow pe_int pe_int) (nomark _)) (pss_cons (ps_set (i := 3) sc__law_draws.nd rfl (Or.inl rfl) (pe_op op_sub (pv 0) (pe_op op_pow pe_int pe_int)))
      (pss_cons (ps_set (i := 4) sc__law_draws.nd rfl (Or.inl rfl) (pe_lst pa_nil))
      (pss_cons (ps_for PassesOwn.never rfl (pi_list (pv 1)) (pg_name (i := 2) sc__law_draws.nd rfl (Or.inl rfl))
      (pss_cons (ps_expr (pe_bm PySem.F.plainAttrs_list PySem.F.slot_list_append PySem.F.type_list_append mt_append (pv 4) (pa_cons (pe_op op_mod (pe_callTy call_int1 (by rfl) m_int (by decide +kernel) (pa_cons (pv 3) pa_nil)) (pv 2)) pa_nil)))
      (pss_one (ps_set (i := 3) sc__law_draws.nd rfl (Or.inl rfl) (pe_op op_fdivW (pv 3) (pv 2))))))
      (pss_one (ps_ret (pv 4)))))) pss_nil)
      (pss_cons (ps_set (i := 4) sc__law_draws.nd rfl (Or.inl rfl) (pe_lst pa_nil))
      (pss_cons (ps_for PassesOwn.never rfl (pi_range1 (by rfl) m_range (pa_cons (pe_callB call_len_seq (by rfl) m_len (by decide +kernel) (pa_cons (pv 1) pa_nil)) pa_nil)) (pg_name (i := 5) sc__law_draws.nd rfl (Or.inl rfl))
      (pss_cons (ps_set (i := 6) sc__law_draws.nd rfl (Or.inl rfl) (pe_op op_mod (pe_callTy call_int1 (by rfl) m_int (by decide +kernel) (pa_cons (pe_op op_add (pe_op op_mul (pv 0) pe_int) (pe_op op_mul (pe_op op_add (pv 5) pe_int) pe_int)) pa_nil)) pe_int))
      (pss_cons (ps_set (i := 6) sc__law_draws.nd rfl (Or.inl rfl) (pe_op op_mod (pe_callTy call_int1 (by rfl) m_int (by decide +kernel) (pa_cons (pe_op op_add (pe_op op_mul (pv 6) pe_int) (pe_op op_mul (pe_op op_add (pv 5) pe_int) pe_int)) pa_nil)) pe_int))
      (pss_cons (ps_set (i := 7) sc__law_draws.nd rfl (Or.inl rfl) (pe_op op_mod (pe_callTy call_int1 (by rfl) m_int (by decide +kernel) (pa_cons (pe_op op_add (pe_op op_mul (pv 0) pe_int) (pe_op op_mul (pe_op op_add (pv 5) pe_int) pe_int)) pa_nil)) pe_int))
      (pss_cons (ps_set (i := 7) sc__law_draws.nd rfl (Or.inl rfl) (pe_op op_mod (pe_callTy call_int1 (by rfl) m_int (by decide +kernel) (pa_cons (pe_op op_add (pe_op op_mul (pv 7) pe_int) (pv 6)) pa_nil)) pe_int))
      (pss_one (ps_expr (pe_bm PySem.F.plainAttrs_list PySem.F.slot_list_append PySem.F.type_list_append mt_append (pv 4) (pa_cons (pe_op op_mod (pe_callTy call_int1 (by rfl) m_int (by decide +kernel) (pa_cons (pe_op op_add (pe_op op_mul (pv 7) pe_int) (pv 6)) pa_nil)) (pe_ix ix_list (pv 1) (pv 5) (fun _ _ => rfl))) pa_nil)))))))))
      (pss_one (ps_ret (pv 4))))))), ?_⟩
    have small : ∀ {ds : List Int} {i : Nat}, Within ds (ns.take i) → (ds.map V.int).length < sizeLine := fun {ds i} w => by
      rw [List.length_map, w.len, List.length_take]
      exact small1000 (by omega)
    refine ⟨_, rfl, rfl, _, rfl, ite2 (fun _ => ?_) (fun _ => ?_)⟩
    · -- [0 for size in sizes]
      refine ⟨.ref a, rfl, a, rfl, ⟨_, hS⟩, fun D nD => lc_list (K := K) (a := a) (xs := ns.map V.int) (fun i H2 => ∃ ds : List Int, Same H H2 ∧ H2 D = some (.lst (ds.map V.int)) ∧ Within ds (ns.take i)) ⟨[], same_upd nD, upd_same, Within.zero ns⟩ (fun i H2 _ ⟨_, s, _⟩ => s.seq hS) ?_ ?_⟩
      · rintro i x H2 hi ⟨ds, s, hD, w⟩
        obtain ⟨n, rfl, hin⟩ := int_of hi
        refine ⟨rfl, ?_⟩
        refine lc_yes ?_
        refine iteT ?_
        exact ⟨_, hD, small w, ds ++ [0], same_mut s nD, by rw [upd_same, ← snoc_int], w.step hin (Int.le_refl 0) (hn n (List.mem_of_getElem? hin)).1⟩
      · rintro H2 ⟨ds, s, hD, w⟩
        rw [List.length_map] at w
        exact q ds H2 D w.full s nD hD
    refine ⟨_, rfl, 10, 18, rfl, rfl, ⟨by decide, by decide, by decide⟩, _, _, rfl, rfl, _, rfl, ite2 (fun _ => ?_) (fun _ => ?_)⟩
    · -- left = cell - 10 ** 18; found = []
      refine ⟨_, rfl, 10, 18, rfl, rfl, ⟨by decide, by decide, by decide⟩, _, _, rfl, rfl, ?_⟩
      refine ⟨Nat.zero_le _, fun o no => ?_⟩
      have s1 : Same H (upd H o (.lst [])) := same_upd no
      refine ⟨.ref a, rfl, a, rfl, ⟨_, s1.seq hS⟩, for_list (K := K) (a := a) (xs := ns.map V.int) (fun i σ H2 => ∃ (ds : List Int) (l : Int) (y : Option V), σ = [some (.int c), some (.ref a), y, some (.int l), some (.ref o), none, none, none] ∧ Same H H2 ∧ H2 o = some (.lst (ds.map V.int)) ∧ Within ds (ns.take i))
        ⟨[], _, none, rfl, s1, upd_same, Within.zero ns⟩ (fun i σ H2 _ ⟨_, _, _, _, s, _⟩ => s.seq hS) ?_ ?_⟩
      · rintro i x σ H2 hi ⟨ds, l, y, rfl, s, hD, w⟩
        obtain ⟨n, rfl, hin⟩ := int_of hi
        obtain ⟨n0, n1⟩ := hn n (List.mem_of_getElem? hin)
        refine ⟨.ref o, rfl, .inl ⟨rfl, _, lst_l hD⟩, _, rfl, .inl ⟨l, rfl, _, rfl, _, _, rfl, rfl, n0, o, _, _, rfl, rfl, hD, small w, ?_⟩⟩
        refine ⟨_, rfl, _, rfl, _, _, rfl, rfl, w_div n0 n1, ds ++ [l % n], _, _, rfl, same_mut s no, by rw [upd_same, ← snoc_int], w.step hin (Int.emod_nonneg _ (by omega)) (Int.emod_lt_of_pos _ n0)⟩
      · rintro σ H2 ⟨ds, l, y, rfl, s, hD, w⟩
        rw [List.length_map] at w
        exact ⟨_, rfl, q ds H2 o w.full s no hD⟩
    · refine ⟨Nat.zero_le _, fun o no => ?_⟩
      have s1 : Same H (upd H o (.lst [])) := same_upd no
      refine ⟨.ref a, rfl, a, _, rfl, .inl (s1.seq hS), _, rfl, ?_⟩
      rw [List.length_map]
      refine ⟨by omega, by omega, ?_⟩
      rw [Int.toNat_natCast]
      refine for_range (lo := 0) (n := ns.length) (fun i σ H2 => ∃ (ds : List Int) (y1 y2 y3 : Option V), σ = [some (.int c), some (.ref a), none, none, some (.ref o), y1, y2, y3] ∧ Same H H2 ∧ H2 o = some (.lst (ds.map V.int)) ∧ Within ds (ns.take i))
        ⟨[], none, none, none, rfl, s1, upd_same, Within.zero ns⟩ ?_ ?_
      · rintro i σ H2 hi ⟨ds, y1, y2, y3, rfl, s, hD, w⟩
        have hin : ns[i]? = some ns[i] := List.getElem?_eq_getElem hi
        obtain ⟨n0, n1⟩ := hn ns[i] (List.getElem_mem hi)
        refine ⟨_, rfl, _, _, rfl, rfl, .inr ⟨by decide, by decide⟩, _, rfl, _, _, rfl, rfl, _, _, rfl, rfl, .inr ⟨by decide, by decide⟩, _, _, rfl, rfl, .inl ⟨_, rfl, _, _, rfl, rfl, (show (0 : Int) < 2147483647 by decide), ?_⟩⟩
        refine ⟨_, rfl, _, _, rfl, rfl, .inr ⟨by decide, by decide⟩, _, rfl, _, _, rfl, rfl, _, _, rfl, rfl, .inr ⟨by decide, by decide⟩, _, _, rfl, rfl, .inl ⟨_, rfl, _, _, rfl, rfl, (show (0 : Int) < 2147483399 by decide), ?_⟩⟩
        refine ⟨_, rfl, _, _, rfl, rfl, .inr ⟨by decide, by decide⟩, _, rfl, _, _, rfl, rfl, _, _, rfl, rfl, .inr ⟨by decide, by decide⟩, _, _, rfl, rfl, .inl ⟨_, rfl, _, _, rfl, rfl, (show (0 : Int) < 2147483563 by decide), ?_⟩⟩
        refine ⟨_, rfl, _, _, rfl, rfl, .inr ⟨by decide, by decide⟩, _, rfl, _, _, rfl, rfl, .inl ⟨_, rfl, _, _, rfl, rfl, (show (0 : Int) < 2147483587 by decide), ?_⟩⟩
        refine ⟨.ref o, rfl, .inl ⟨rfl, _, lst_l hD⟩, _, rfl, _, _, rfl, rfl, .inr ⟨by decide, by decide⟩, _, rfl, _, _, rfl, rfl, .inl ⟨_, rfl, .ref a, rfl, .int (0 + (i : Int)), rfl, a, _, _, _, rfl, rfl, s.seq hS, at_of (Int.zero_add _) (int_at hin), _, _, rfl, rfl, n0, o, _, _, rfl, rfl, hD, small w, ?_⟩⟩
        exact ⟨ds ++ [_], _, _, _, rfl, same_mut s no, by rw [upd_same, ← snoc_int], w.step hin (Int.emod_nonneg _ (by omega)) (Int.emod_lt_of_pos _ n0)⟩
      · rintro σ H2 ⟨ds, y1, y2, y3, rfl, s, hD, w⟩
        exact ⟨_, rfl, q ds H2 o w.full s no hD⟩
def sp__law_wide (K : PySem.W.Frag) : Sp := fun vs H Q _ => ∃ (a : Addr) (ns : List Int), vs = [.ref a] ∧ SqL K H a (ns.map V.int) ∧ ∀ v : Int, Q (.int v) H
theorem ok__law_wide {f : Addr} {fd : FuncData} {C_Rule C_Ratio C_BadNumber C_TooMany C_ZeroBottom C_BadLot C_ShelfError : Addr} (F : Fun K "_law_wide" "_law_wide" s__law_wide f fd) (T : Txt K mg C_Rule C_Ratio C_BadNumber C_TooMany C_ZeroBottom C_BadLot C_ShelfError) : FnOk P w K mg base CX0 1 f fd ["_law_parts"] (sp__law_wide K) := by
  refine F.ok sc__law_wide (fun vs H Q E h => ?_) (fun cdv A outer s H vs Q E hr h => ?_)
  · obtain ⟨a, ns, rfl, _⟩ := h
    rfl
  · obtain ⟨a, ns, rfl, hS, q⟩ := h
    refine ⟨_, (pss_cons (ps_set (i := 1) sc__law_wide.nd rfl (Or.inl rfl) pe_int)
      (pss_cons (ps_for PassesOwn.never rfl (pi_list (pv 0)) (pg_name (i := 2) sc__law_wide.nd rfl (Or.inl rfl))
      (pss_one (ps_set (i := 1) sc__law_wide.nd rfl (Or.inl rfl) (pe_op op_add (pe_op op_mul (pv 1) (pe_op op_pow pe_int pe_int)) (pv 2)))))
      (pss_one (ps_ret (pv 1))))), ?_⟩
    refine ⟨.ref a, rfl, a, rfl, ⟨_, hS⟩, for_list (K := K) (a := a) (xs := ns.map V.int) (fun i σ H2 => ∃ (v : Int) (y : Option V), σ = [some (.ref a), some (.int v), y] ∧ H2 = H) ⟨0, none, rfl, rfl⟩ (fun i σ H2 _ ⟨_, _, _, e⟩ => e ▸ hS) ?_ ?_⟩
    · rintro i x σ H2 hi ⟨v, y, rfl, rfl⟩
      obtain ⟨n, rfl, hin⟩ := int_of hi
      exact ⟨_, rfl, 10, 15, rfl, rfl, ⟨by decide, by decide, by decide⟩, _, _, rfl, rfl, .inr (by decide), _, rfl, _, _, rfl, rfl, _, _, rfl, rfl⟩
    · rintro σ H2 ⟨v, y, rfl, rfl⟩
      exact ⟨_, rfl, q v⟩
def sp__law_row (K : PySem.W.Frag) : Sp := fun vs H Q _ => ∃ (c : Int) (m : Nat), vs = [.int c, .int (m : Int)] ∧ m ≤ 900 ∧ ∀ (ns : List Int) (H' : Hp) (p : Addr), ns.length = m → (∀ n ∈ ns, 0 ≤ n ∧ n < 10 ^ 18 - 1) → Same H H' → H p = none → H' p = some (.lst (ns.map V.int)) → Q (.ref p) H'

theorem ok__law_row {f : Addr} {fd : FuncData} {C_Rule C_Ratio C_BadNumber C_TooMany C_ZeroBottom C_BadLot C_ShelfError : Addr} (F : Fun K "_law_row" "_law_row" s__law_row f fd) (T : Txt K mg C_Rule C_Ratio C_BadNumber C_TooMany C_ZeroBottom C_BadLot C_ShelfError) (m_int : mg "int" = none) (m_range : mg "range" = none) (c__law_draws : Cal P w K mg base CX0 1 "_law_draws" ["_law_cell_here", "_law_sizes"] (sp__law_draws K)) : FnOk P w K mg base CX0 2 f fd ["_law_cell_here", "_law_count"] (sp__law_row K) := by
  refine F.ok sc__law_row (fun vs H Q E h => ?_) (fun cdv A outer s H vs Q E hr h => ?_)
  · obtain ⟨c, m, rfl, _⟩ := h
    rfl
  · obtain ⟨c, m, rfl, hm, q⟩ := h
    obtain ⟨f__law_draws, fd__law_draws, G__law_draws, m__law_draws, k__law_draws, b__law_draws⟩ := c__law_draws
    refine ⟨_, (pss_cons (ps_set (i := 2) sc__law_row.nd rfl (Or.inl rfl) (pe_call G__law_draws (hr.mono (by decide)) (by rfl) m__law_draws k__law_draws b__law_draws .nil pass0 (pa_cons (pv 0) (pa_cons (pe_op op_cat (pe_lst (pa_cons pe_int pa_nil)) (pe_lc (own := [("_law_k", 5)]) (g := (gName 5)) (tt := tYes) rfl sc__law_row.nd (pi_range1 (by rfl) m_range (pa_cons (pv 1) pa_nil)) (blkOk_by (own := [("_law_k", 5)]) (N := ["_law_cell_here", "_law_count", "_law_drawn", "_law_bound", "_law_value", "_law_k"]) (sc := defScope s__law_row) (by decide +kernel)) (fun _ _ _ _ _ => (pg_name (i := 5) sc__law_row.nd rfl (Or.inl rfl))) (fun _ _ _ _ _ => pts_nil) (fun _ _ _ _ _ => (pe_op op_pow pe_int pe_int)))) pa_nil))))
      (pss_cons (ps_set (i := 3) sc__law_row.nd rfl (Or.inr rfl) (pe_ix ix_list (pe_lst (pa_cons pe_int (pa_cons pe_int (pa_cons (pe_op op_pow pe_int pe_int) (pa_cons (pe_op op_sub (pe_op op_pow pe_int pe_int) pe_int) pa_nil))))) (pe_ix ix_list (pv 2) pe_int (fun _ _ => rfl)) (fun _ _ => rfl)))
      (pss_one (ps_ret (pe_lc (own := [("_law_value", 4)]) (g := (gName 4)) (tt := tYes) rfl sc__law_row.nd (pi_list (pe_slice sl_list (pv 2) (po_some pe_int) po_none)) (blkOk_by (own := [("_law_value", 4)]) (N := ["_law_cell_here", "_law_count", "_law_drawn", "_law_bound", "_law_value", "_law_k"]) (sc := defScope s__law_row) (by decide +kernel)) (fun _ _ _ _ _ => (pg_name (i := 4) sc__law_row.nd rfl (Or.inl rfl))) (fun _ _ _ _ _ => pts_nil) (fun _ _ _ _ _ => (pe_op op_mod (pe_callTy call_int1 (by rfl) m_int (by decide +kernel) (pa_cons (pv 4) pa_nil)) (pv 3)))))))), ?_⟩
    -- draws(cell, [4] + [10 ** 18 for k in range(count)])
    refine ⟨_, rfl, small1000 (by decide), fun p1 n1 => ?_⟩
    have s1 : Same H (upd H p1 (.lst [V.int 4])) := same_upd n1
    refine ⟨_, rfl, _, rfl, by omega, by omega, ?_⟩
    rw [Int.toNat_natCast]
    refine fun D nD => lc_range (lo := 0) (n := m) (fun i H2 => Same (upd H p1 (.lst [V.int 4])) H2 ∧ H2 D = some (.lst ((List.replicate i (10 ^ 18 : Int)).map V.int))) ⟨same_upd nD, upd_same⟩ ?_ ?_
    · rintro i H2 hi ⟨s, hD⟩
      refine ⟨rfl, ?_⟩
      refine lc_yes ?_
      refine iteT ?_
      refine ⟨10, 18, rfl, rfl, ⟨by decide, by decide, by decide⟩, _, hD, ?_, same_mut s nD, ?_⟩
      · rw [List.length_map, List.length_replicate]
        exact small1000 (by omega)
      · rw [upd_same, List.replicate_succ', ← snoc_int]
        rfl
    rintro H2 ⟨s2, hD⟩
    refine ⟨p1, D, _, _, rfl, rfl, s2 _ _ upd_same, hD, ?_, fun p3 n3 => ?_⟩
    · rw [List.length_map, List.length_replicate]
      exact Nat.le_of_lt (small1000 (by show 1 + m ≤ 1000; omega))
    have s3 : Same H (upd H2 p3 (.lst ((4 :: List.replicate m (10 ^ 18 : Int)).map V.int))) := (s1.trans s2).trans (same_upd n3)
    refine ⟨c, p3, 4 :: List.replicate m (10 ^ 18 : Int), rfl, lst_l upd_same, ?_, ?_, fun ds H4 d w s4 nd hd => ?_⟩
    · intro n hn
      rcases List.mem_cons.mp hn with rfl | hn
      · decide
      · rw [(List.mem_replicate.mp hn).2]
        exact big18
    · rw [List.length_cons, List.length_replicate]
      omega
    obtain ⟨d0, r, rfl, l0, u0, w⟩ := w.c
    have hr : r.length = m := by
      rw [w.len, List.length_replicate]
    have hL : SqL K H4 d ((d0 :: r).map V.int) := lst_l hd
    have sH : Same H H4 := s3.trans s4
    -- bound = [4, 30, 10 ** 9, 10 ** 18 - 1][drawn[0]]
    refine ⟨10, 9, rfl, rfl, ⟨by decide, by decide, by decide⟩, 10, 18, rfl, rfl, ⟨by decide, by decide, by decide⟩, _, _, rfl, rfl, small1000 (by decide), fun p5 n5 => ?_⟩
    obtain ⟨b, hb, b0, b1⟩ : ∃ b : Int, atI [V.int 4, V.int 30, V.int (10 ^ 9), V.int (10 ^ 18 - 1)] d0 = some (V.int b) ∧ 0 < b ∧ b ≤ 10 ^ 18 - 1 := by
      rcases (by omega : d0 = 0 ∨ d0 = 1 ∨ d0 = 2 ∨ d0 = 3) with rfl | rfl | rfl | rfl
      · exact ⟨4, rfl, by decide, by decide⟩
      · exact ⟨30, rfl, by decide, by decide⟩
      · exact ⟨10 ^ 9, rfl, by decide, by decide⟩
      · exact ⟨10 ^ 18 - 1, rfl, by decide, by decide⟩
    have s5 := same_upd (o := .lst [V.int 4, V.int 30, V.int (10 ^ 9), V.int (10 ^ 18 - 1)]) n5
    refine ⟨.ref d, rfl, d, _, _, .int d0, rfl, rfl, s5.seq hL, atI_nat (j := 0) rfl, p5, _, _, .int b, rfl, rfl, lst_l upd_same, hb, ?_⟩
    -- [int(value) % bound for value in drawn[1:]]
    refine ⟨.ref d, rfl, 1, rfl, d, _, rfl, s5.seq hL, fun p6 n6 => ?_⟩
    rw [cut_from1]
    have s6 := same_upd (o := .lst (((d0 :: r).map V.int).drop 1)) n6
    have sT : Same H _ := (sH.trans s5).trans s6
    refine ⟨p6, rfl, ⟨r.map V.int, lst_l upd_same⟩, fun D nD => lc_list (K := K) (a := p6) (xs := r.map V.int) (fun i H2 => Same (upd (upd H4 p5 (.lst [V.int 4, V.int 30, V.int (10 ^ 9), V.int (10 ^ 18 - 1)])) p6 (.lst (((d0 :: r).map V.int).drop 1))) H2 ∧ H2 D = some (.lst (((r.take i).map fun v => v % b).map V.int))) ⟨same_upd nD, upd_same⟩ (fun i H2 _ ⟨s, _⟩ => s.seq (lst_l upd_same)) ?_ ?_⟩
    · rintro i x H2 hi ⟨s, hD⟩
      obtain ⟨n, rfl, hin⟩ := int_of hi
      refine ⟨rfl, ?_⟩
      refine lc_yes ?_
      refine iteT ?_
      refine ⟨_, rfl, .inl ⟨n, rfl, _, rfl, _, _, rfl, rfl, b0, _, hD, ?_, same_mut s nD, ?_⟩⟩
      · rw [List.length_map, List.length_map, List.length_take]
        exact small1000 (by omega)
      · rw [upd_same, List.take_add_one, hin, List.map_append, List.map_append]
        rfl
    · rintro H2 ⟨s, hD⟩
      rw [List.length_map, List.take_length] at hD
      refine q (r.map fun v => v % b) H2 D (by rw [List.length_map, hr]) ?_ (sT.trans s) (sT.free nD) hD
      intro n hn
      obtain ⟨x, _, rfl⟩ := List.mem_map.mp hn
      have h1 := Int.emod_nonneg x (show b ≠ 0 by omega)
      have h2 := Int.emod_lt_of_pos x b0
      omega
def sp__law_lot : Sp := fun vs H Q _ => ∃ (b : Int) (m : Nat), vs = [.int b, .int (m : Int)] ∧ m ≤ 900 ∧ ∀ H' t (ns : List Int), Same H H' → H t = none → H' t = some (.tup (ns.map V.int)) → lotB ns (-1) m = true → ns.length ≤ m → Q (.ref t) H' 
theorem ok__law_lot {f : Addr} {fd : FuncData} {C_Rule C_Ratio C_BadNumber C_TooMany C_ZeroBottom C_BadLot C_ShelfError : Addr} (F : Fun K "_law_lot" "_law_lot" s__law_lot f fd) (T : Txt K mg C_Rule C_Ratio C_BadNumber C_TooMany C_ZeroBottom C_BadLot C_ShelfError) (m_int : mg "int" = none) (m_range : mg "range" = none) (m_tuple : mg "tuple" = none) : FnOk P w K mg base CX0 1 f fd ["_law_bits", "_law_many"] sp__law_lot := by
  refine F.ok sc__law_lot (fun vs H Q E h => ?_) (fun cdv A outer s H vs Q E hr h => ?_)
  · obtain ⟨b, m, rfl, _⟩ := h
    rfl
  · obtain ⟨b, m, rfl, hm, q⟩ := h
    refine ⟨_, (pss_cons (ps_set (i := 2) sc__law_lot.nd rfl (Or.inl rfl) (pe_lst pa_nil))
      (pss_cons (ps_set (i := 3) sc__law_lot.nd rfl (Or.inl rfl) (pe_callTy call_int1 (by rfl) m_int (by decide +kernel) (pa_cons (pv 0) pa_nil)))
      (pss_cons (ps_for PassesOwn.never rfl (pi_range1 (by rfl) m_range (pa_cons (pv 1) pa_nil)) (pg_name (i := 4) sc__law_lot.nd rfl (Or.inl rfl))
      (Evl.pss_cut (ps_if (pt_cmpR op_eq (pe_op op_mod (pv 3) pe_int) pe_int (nomark _)) (pss_one (ps_expr (pe_bm PySem.F.plainAttrs_list PySem.F.slot_list_append PySem.F.type_list_append mt_append (pv 2) (pa_cons (pv 4) pa_nil)))) pss_nil)
      (pss_one (ps_set (i := 3) sc__law_lot.nd rfl (Or.inl rfl) (pe_op op_fdivW (pv 3) pe_int)))))
      (pss_one (ps_ret (pe_callTy call_tuple_of (by rfl) m_tuple (by decide +kernel) (pa_cons (pv 2) pa_nil))))))), ?_⟩
    refine ⟨Nat.zero_le _, fun o no => ?_⟩
    refine ⟨_, rfl, .inl ⟨b, rfl, ?_⟩⟩
    refine ⟨_, rfl, _, rfl, by omega, by omega, ?_⟩
    rw [Int.toNat_natCast]
    refine for_range (lo := 0) (n := m) (fun i σ H2 => ∃ (ds : List Int) (l : Int) (y : Option V), σ = [some (.int b), some (.int (m : Int)), some (.ref o), some (.int l), y] ∧ Same H H2 ∧ H2 o = some (.lst (ds.map V.int)) ∧ lotB ds (-1) i = true ∧ ds.length ≤ i) ⟨[], b, none, rfl, same_upd no, upd_same, rfl, Nat.le_refl _⟩ ?_ ?_
    · rintro i σ H2 hi ⟨ds, l, y, rfl, s, hD, lo, ln⟩
      refine ⟨fun σ' H' => ∃ ds' : List Int, σ' = [some (.int b), some (.int (m : Int)), some (.ref o), some (.int l), some (.int (0 + (i : Int)))] ∧ Same H H' ∧ H' o = some (.lst (ds'.map V.int)) ∧ lotB ds' (-1) ((i + 1 : Nat) : Int) = true ∧ ds'.length ≤ i + 1, ?_, ?_⟩
      · refine ⟨_, rfl, _, _, rfl, rfl, (show (0 : Int) < 2 by decide), rfl, _, rfl, ite2 (fun _ => ?_) (fun _ => ?_)⟩
        · refine ⟨.ref o, rfl, .inl ⟨rfl, _, lst_l hD⟩, _, rfl, o, _, _, rfl, rfl, hD, ?_, ds ++ [0 + (i : Int)], rfl, same_mut s no, by rw [upd_same, ← snoc_int], ?_, ?_⟩
          · rw [List.length_map]
            exact small1000 (by omega)
          · rw [Int.zero_add]
            exact lotB_snoc lo (by omega)
          · rw [List.length_append]
            exact Nat.add_le_add_right ln 1
        · exact ⟨ds, rfl, s, hD, lotB_mono lo (by omega), by omega⟩
      · rintro σ' H' ⟨ds', rfl, s', hD', lo', ln'⟩
        exact ⟨_, rfl, _, _, rfl, rfl, w_div (by decide) (by decide), ds', _, _, rfl, s', hD', lo', ln'⟩
    · rintro σ H2 ⟨ds, l, y, rfl, s, hD, lo, ln⟩
      exact ⟨_, rfl, o, _, rfl, .inl ⟨lst_l hD, fun t nt => q _ t ds (s.trans (same_upd nt)) (s.free nt) upd_same lo ln⟩⟩
def sp__law_is_int : Sp := fun vs H Q _ => ∃ v : Int, vs = [.int v] ∧ Q (.bl true) H
theorem ok__law_is_int {f : Addr} {fd : FuncData} {C_Rule C_Ratio C_BadNumber C_TooMany C_ZeroBottom C_BadLot C_ShelfError : Addr} (F : Fun K "_law_is_int" "_law_is_int" s__law_is_int f fd) (T : Txt K mg C_Rule C_Ratio C_BadNumber C_TooMany C_ZeroBottom C_BadLot C_ShelfError) (m_bool : mg "bool" = none) (m_int : mg "int" = none) (m_isinstance : mg "isinstance" = none) : FnOk P w K mg base CX0 1 f fd ["_law_x"] sp__law_is_int := by
  refine F.ok sc__law_is_int (fun vs H Q E h => ?_) (fun cdv A outer s H vs Q E hr h => ?_)
  · obtain ⟨v, rfl, _⟩ := h
    rfl
  · obtain ⟨v, rfl, q⟩ := h
    refine ⟨_, (pss_one (ps_ret (pe_and (pe_callB call_isi (by rfl) m_isinstance (by decide +kernel) (pa_cons (pv 0) (pa_cons (pe_bltn (v := .ty "int") (by rfl) m_int (by decide +kernel) rfl) pa_nil))) (pe_one (pe_not (pe_callB call_isi (by rfl) m_isinstance (by decide +kernel) (pa_cons (pv 0) (pa_cons (pe_bltn (v := .ty "bool") (by rfl) m_bool (by decide +kernel) rfl) pa_nil)))))))), ?_⟩
    exact ⟨_, rfl, .int v, .ty "int", _, _, true, rfl, .ty "int", .base (.int v), kit_ty kI, true, rfl, iteT ⟨_, rfl, .int v, .ty "bool", _, _, false, rfl, .ty "bool", .base (.int v), kit_ty kB, false, rfl, q⟩⟩
def sp__law_same (C : Addr) : Sp := fun vs H Q _ => ∃ (p : Addr) (T B t b : Int), vs = [.ref p, .int t, .int b] ∧ RatAt C H p T B ∧ 0 < B ∧ T * b = t * B ∧ CMulW T b ∧ CMulW t B ∧ Q (.bl true) H
theorem ok__law_same {f : Addr} {fd : FuncData} {C_Rule C_Ratio C_BadNumber C_TooMany C_ZeroBottom C_BadLot C_ShelfError : Addr} (F : Fun K "_law_same" "_law_same" s__law_same f fd) (T : Txt K mg C_Rule C_Ratio C_BadNumber C_TooMany C_ZeroBottom C_BadLot C_ShelfError) (m_isinstance : mg "isinstance" = none) (c__law_is_int : Cal P w K mg base CX0 1 "_law_is_int" ["_law_x"] sp__law_is_int) : FnOk P w K mg base CX0 2 f fd ["_law_x", "_law_top", "_law_bottom"] (sp__law_same C_Ratio) := by
  refine F.ok sc__law_same (fun vs H Q E h => ?_) (fun cdv A outer s H vs Q E hr h => ?_)
  · obtain ⟨p, T1, B, t, b, rfl, _⟩ := h
    rfl
  · obtain ⟨p, T1, B, t, b, rfl, ⟨dx, hp⟩, pos, eq, m1, m2, q⟩ := h
    obtain ⟨f__law_is_int, fd__law_is_int, G__law_is_int, m__law_is_int, k__law_is_int, b__law_is_int⟩ := c__law_is_int
    refine ⟨_, (pss_cons (ps_if (pt_not (pt_val (pe_callB call_isi (by rfl) m_isinstance (by decide +kernel) (pa_cons (pv 0) (pa_cons (pe_glob (v := .ref C_Ratio) (by rfl) T.g_Ratio rfl) pa_nil))))) (pss_one (ps_ret pe_bl)) pss_nil)
      (pss_cons (ps_if (PW.pt (pw_or (pt_not (pt_val (pe_call G__law_is_int (hr.mono (by decide)) (by rfl) m__law_is_int k__law_is_int b__law_is_int .nil pass0 (pa_cons (pe_fld (pv 0) rfl) pa_nil)))) (pw_or (pt_not (pt_val (pe_call G__law_is_int (hr.mono (by decide)) (by rfl) m__law_is_int k__law_is_int b__law_is_int .nil pass0 (pa_cons (pe_fld (pv 0) rfl) pa_nil)))) (pw_or1 (pt_cmpR op_lt (pe_fld (pv 0) rfl) pe_int (nomark _)))))) (pss_one (ps_ret pe_bl)) pss_nil)
      (pss_one (ps_ret (pe_cmpR op_eq (pe_op op_mulW (pe_fld (pv 0) rfl) (pv 2)) (pe_op op_mulW (pv 1) (pe_fld (pv 0) rfl)) (nomark _)))))), ?_⟩
    refine ⟨.ref p, rfl, .ref p, .ref C_Ratio, .ref C_Ratio, .ref C_Ratio, true, rfl, .own C_Ratio, .base (.ins hp T.cl_Ratio T.ha_Ratio T.hnc T.htk T.hm_Ratio), T.kit_Ratio_Ratio, true, rfl, iteF ?_⟩
    refine ⟨.ref p, rfl, p, C_Ratio, dx, _, _, rfl, hp, T.cl_Ratio, T.n_Ratio_top, rF_top T1 B, T1, rfl, true, rfl, iteF ?_⟩
    refine ⟨.ref p, rfl, p, C_Ratio, dx, _, _, rfl, hp, T.cl_Ratio, T.n_Ratio_bottom, rF_bot T1 B, B, rfl, true, rfl, iteF ?_⟩
    refine ⟨.ref p, rfl, p, C_Ratio, dx, _, _, rfl, hp, T.cl_Ratio, T.n_Ratio_bottom, rF_bot T1 B, _, _, rfl, rfl, _, rfl, ?_⟩
    rw [decide_eq_false (show ¬ B < 1 by omega)]
    refine iteF ?_
    refine ⟨.ref p, rfl, p, C_Ratio, dx, _, _, rfl, hp, T.cl_Ratio, T.n_Ratio_top, rF_top T1 B, .int b, rfl, T1, b, rfl, rfl, m1, .int t, rfl, .ref p, rfl, p, C_Ratio, dx, _, _, rfl, hp, T.cl_Ratio, T.n_Ratio_bottom, rF_bot T1 B, t, B, rfl, rfl, m2, rfl, ?_⟩
    rw [decide_eq_true (congrArg V.int eq)]
    exact q
def sp__law_is_lot : Sp := fun vs H Q _ => ∃ (l : Addr) (ns : List Int) (m : Int), vs = [.ref l, .int m] ∧ H l = some (.tup (ns.map V.int)) ∧ ns.length ≤ 1000 ∧ Q (.bl (lotB ns (-1) m)) H
theorem ok__law_is_lot {f : Addr} {fd : FuncData} {C_Rule C_Ratio C_BadNumber C_TooMany C_ZeroBottom C_BadLot C_ShelfError : Addr} (F : Fun K "_law_is_lot" "_law_is_lot" s__law_is_lot f fd) (T : Txt K mg C_Rule C_Ratio C_BadNumber C_TooMany C_ZeroBottom C_BadLot C_ShelfError) (m_len : mg "len" = none) (m_range : mg "range" = none) : FnOk P w K mg base CX0 1 f fd ["_law_lot_here", "_law_many"] sp__law_is_lot := by
  refine F.ok sc__law_is_lot (fun vs H Q E h => ?_) (fun cdv A outer s H vs Q E hr h => ?_)
  · obtain ⟨l, ns, m, rfl, _⟩ := h
    rfl
  · obtain ⟨l, ns, m, rfl, hl, nl, q⟩ := h
    refine ⟨_, (pss_cons (ps_for PassesOwn.never rfl (pi_tup (pv 0)) (pg_name (i := 2) sc__law_is_lot.nd rfl (Or.inl rfl))
      (pss_one (ps_if (PW.pt (pw_or (pt_cmpR op_lt (pv 2) pe_int (nomark _)) (pw_or1 (pt_cmpR op_ge (pv 2) (pv 1) (nomark _))))) (pss_one (ps_ret pe_bl)) pss_nil)))
      (pss_cons (ps_for PassesOwn.never rfl (pi_range2 (by rfl) m_range (pa_cons pe_int (pa_cons (pe_callB call_len_seq (by rfl) m_len (by decide +kernel) (pa_cons (pv 0) pa_nil)) pa_nil))) (pg_name (i := 3) sc__law_is_lot.nd rfl (Or.inl rfl))
      (pss_one (ps_if (pt_cmpR op_le (pe_ix ix_tup (pv 0) (pv 3) (fun _ _ => rfl)) (pe_ix ix_tup (pv 0) (pe_op op_sub (pv 3) pe_int) (fun _ _ => rfl)) (nomark _)) (pss_one (ps_ret pe_bl)) pss_nil)))
      (pss_one (ps_ret pe_bl)))), ?_⟩
    have no : (lotB ns (-1) m = true → False) → Q (.bl false) H := fun h => by
      rw [lotB_no h] at q
      exact q
    refine ⟨_, rfl, l, rfl, ⟨_, tup_t hl⟩, for_tup (K := K) (a := l) (xs := ns.map V.int) (fun i σ H2 => ∃ (y : Option V), σ = [some (.ref l), some (.int m), y, none] ∧ H2 = H ∧ ∀ n ∈ ns.take i, -1 < n ∧ n < m) ⟨none, rfl, rfl, fun n h => by rw [List.take_zero] at h; cases h⟩ (fun i σ H2 _ ⟨_, _, e, _⟩ => e ▸ tup_t hl) ?_ ?_⟩
    · rintro i x σ H2 hi ⟨y, rfl, rfl, hb⟩
      obtain ⟨n, rfl, hin⟩ := int_of hi
      have mem := List.mem_of_getElem? hin
      refine ⟨_, rfl, _, _, rfl, rfl, _, rfl, ite2 (fun c => ?_) (fun c => ⟨_, rfl, _, rfl, _, _, rfl, rfl, _, rfl, ite2 (fun c2 => ?_) (fun c2 => ?_)⟩)⟩
      · have c := of_decide_eq_true c
        exact no fun h => by
          have := lotB_in h n mem
          omega
      · have c2 := of_decide_eq_true c2
        exact no fun h => by
          have := lotB_in h n mem
          omega
      · refine ⟨_, rfl, rfl, fun k hk => ?_⟩
        rw [List.take_add_one, hin] at hk
        rcases List.mem_append.mp hk with hk | hk
        · exact hb k hk
        · rw [List.mem_singleton.mp hk]
          have c : ¬ n < 0 := fun z => c (decide_eq_true z)
          have c2 : ¬ n ≥ m := fun z => c2 (decide_eq_true z)
          omega
    rintro σ H2 ⟨y, rfl, rfl, hb⟩
    rw [List.length_map, List.take_length] at hb
    refine ⟨_, rfl, l, _, rfl, .inr (tup_t hl), 1, _, rfl, ?_⟩
    rw [List.length_map]
    refine ⟨⟨by omega, by omega, by omega, by omega⟩, ?_⟩
    refine for_range (lo := 1) (n := ((ns.length : Int) - 1).toNat) (fun i σ H3 => ∃ (y2 : Option V), σ = [some (.ref l), some (.int m), y, y2] ∧ H3 = H2 ∧ ∀ k, 0 < k → k < i + 1 → (hk : k < ns.length) → ns[k - 1]'(by omega) < ns[k]) ⟨none, rfl, rfl, fun k h1 h2 => by omega⟩ ?_ ?_
    · rintro i σ H3 hi ⟨y2, rfl, rfl, hs⟩
      have lt : i + 1 < ns.length := by omega
      have h1 : ns[i + 1]? = some ns[i + 1] := List.getElem?_eq_getElem lt
      have h0 : ns[i]? = some ns[i] := List.getElem?_eq_getElem (by omega)
      refine ⟨_, rfl, _, rfl, l, _, _, _, rfl, rfl, tup_t hl, at_of (j := i + 1) (by omega) (int_at h1), _, rfl, _, rfl, _, _, rfl, rfl, l, _, _, _, rfl, rfl, tup_t hl, at_of (j := i) (by omega) (int_at h0), _, _, rfl, rfl, _, rfl, ite2 (fun c => ?_) (fun c => ?_)⟩
      · have c := of_decide_eq_true c
        refine no fun h => ?_
        have := List.pairwise_iff_getElem.mp (lotB_pw h) i (i + 1) (by omega) lt (by omega)
        omega
      · have c : ¬ ns[i + 1] ≤ ns[i] := fun z => c (decide_eq_true z)
        refine ⟨_, rfl, rfl, fun k k0 k1 hk => ?_⟩
        by_cases e : k = i + 1
        · subst e
          show ns[i + 1 - 1]'(by omega) < ns[i + 1]
          have e2 : ns[i + 1 - 1]'(by omega) = ns[i] := by congr 1
          rw [e2]
          omega
        · exact hs k k0 (by omega) hk
    · rintro σ H3 ⟨y2, rfl, rfl, hs⟩
      have ok : lotB ns (-1) m = true := lotB_iff.mpr ⟨hb, pw_steps fun k k0 hk => hs k k0 (by omega) hk⟩
      rw [ok] at q
      exact q
def sp__law_any_lot : Sp := fun vs H Q _ => ∃ (c : Int) (m : Nat), vs = [.int c, .int (m : Int)] ∧ m ≤ 24 ∧ ∀ H' t (ns : List Int), Same H H' → H' t = some (.tup (ns.map V.int)) → ns.length ≤ 100 → Q (.ref t) H' 
theorem ok__law_any_lot {f : Addr} {fd : FuncData} {C_Rule C_Ratio C_BadNumber C_TooMany C_ZeroBottom C_BadLot C_ShelfError : Addr} (F : Fun K "_law_any_lot" "_law_any_lot" s__law_any_lot f fd) (T : Txt K mg C_Rule C_Ratio C_BadNumber C_TooMany C_ZeroBottom C_BadLot C_ShelfError) (m_int : mg "int" = none) (m_len : mg "len" = none) (m_range : mg "range" = none) (m_tuple : mg "tuple" = none) (c__law_draws : Cal P w K mg base CX0 1 "_law_draws" ["_law_cell_here", "_law_sizes"] (sp__law_draws K)) (c__law_lot : Cal P w K mg base CX0 1 "_law_lot" ["_law_bits", "_law_many"] sp__law_lot) : FnOk P w K mg base CX0 2 f fd ["_law_cell_here", "_law_many"] sp__law_any_lot := by
  refine F.ok sc__law_any_lot (fun vs H Q E h => ?_) (fun cdv A outer s H vs Q E hr h => ?_)
  · obtain ⟨c, m, rfl, _⟩ := h
    rfl
  · obtain ⟨c, m, rfl, hm, q⟩ := h
    obtain ⟨f__law_draws, fd__law_draws, G__law_draws, m__law_draws, k__law_draws, b__law_draws⟩ := c__law_draws
    obtain ⟨f__law_lot, fd__law_lot, G__law_lot, m__law_lot, k__law_lot, b__law_lot⟩ := c__law_lot
    refine ⟨_, (pss_cons (ps_set (i := 2) sc__law_any_lot.nd rfl (Or.inl rfl) (pe_call G__law_draws (hr.mono (by decide)) (by rfl) m__law_draws k__law_draws b__law_draws .nil pass0 (pa_cons (pv 0) (pa_cons (pe_op op_cat (pe_lst (pa_cons pe_int (pa_cons pe_int (pa_cons pe_int (pa_cons pe_int (pa_cons pe_int pa_nil)))))) (pe_lc (own := [("_law_k", 5)]) (g := (gName 5)) (tt := tYes) rfl sc__law_any_lot.nd (pi_range1 (by rfl) m_range (pa_cons pe_int pa_nil)) (blkOk_by (own := [("_law_k", 5)]) (N := ["_law_cell_here", "_law_many", "_law_drawn", "_law_lot_here", "_law_place", "_law_k", "_law_number"]) (sc := defScope s__law_any_lot) (by decide +kernel)) (fun _ _ _ _ _ => (pg_name (i := 5) sc__law_any_lot.nd rfl (Or.inl rfl))) (fun _ _ _ _ _ => pts_nil) (fun _ _ _ _ _ => pe_int))) pa_nil))))
      (pss_cons (ps_set (i := 3) sc__law_any_lot.nd rfl (Or.inl rfl) (pe_call G__law_lot (hr.mono (by decide)) (by rfl) m__law_lot k__law_lot b__law_lot .nil pass0 (pa_cons (pe_ix ix_list (pv 2) pe_int (fun _ _ => rfl)) (pa_cons (pv 1) pa_nil))))
      (pss_cons (ps_set (i := 4) sc__law_any_lot.nd rfl (Or.inl rfl) (pe_op op_mod (pe_callTy call_int1 (by rfl) m_int (by decide +kernel) (pa_cons (pe_ix ix_list (pv 2) pe_int (fun _ _ => rfl)) pa_nil)) (pe_op op_add (pe_callB call_len_seq (by rfl) m_len (by decide +kernel) (pa_cons (pv 3) pa_nil)) pe_int)))
      (pss_cons (ps_if (pt_cmpR op_eq (pe_ix ix_list (pv 2) pe_int (fun _ _ => rfl)) pe_int (nomark _)) (pss_one (ps_ret (pe_callTy call_tuple_of (by rfl) m_tuple (by decide +kernel) (pa_cons (pe_lc (own := [("_law_number", 6)]) (g := (gName 6)) (tt := tYes) rfl sc__law_any_lot.nd (pi_list (pe_slice sl_list (pv 2) (po_some pe_int) (po_some (pe_op op_add pe_int (pe_ix ix_list (pv 2) pe_int (fun _ _ => rfl)))))) (blkOk_by (own := [("_law_number", 6)]) (N := ["_law_cell_here", "_law_many", "_law_drawn", "_law_lot_here", "_law_place", "_law_k", "_law_number"]) (sc := defScope s__law_any_lot) (by decide +kernel)) (fun _ _ _ _ _ => (pg_name (i := 6) sc__law_any_lot.nd rfl (Or.inl rfl))) (fun _ _ _ _ _ => pts_nil) (fun _ _ _ _ _ => (pe_op op_sub (pv 6) pe_int))) pa_nil)))) pss_nil)
      (pss_cons (ps_if (pt_cmpR op_eq (pe_ix ix_list (pv 2) pe_int (fun _ _ => rfl)) pe_int (nomark _)) (pss_one (ps_ret (pe_op op_catA (pe_op op_catA (pe_slice sl_tupA (pv 3) po_none (po_some (pv 4))) (pe_tup (pa_cons (pe_op op_sub (pe_ix ix_list (pv 2) pe_int (fun _ _ => rfl)) pe_int) pa_nil))) (pe_slice sl_tupA (pv 3) (po_some (pv 4)) po_none)))) pss_nil)
      (pss_cons (ps_if (pt_cmpR op_eq (pe_ix ix_list (pv 2) pe_int (fun _ _ => rfl)) pe_int (nomark _)) (pss_one (ps_ret (pe_revT (pv 3)))) pss_nil)
      (pss_cons (ps_if (pt_cmpR op_eq (pe_ix ix_list (pv 2) pe_int (fun _ _ => rfl)) pe_int (nomark _)) (pss_one (ps_ret (pe_op op_catA (pe_op op_catA (pe_slice sl_tupA (pv 3) po_none (po_some (pv 4))) (pe_slice sl_tupA (pe_slice sl_tupA (pv 3) po_none (po_some (pv 4))) (po_some (pe_un un_neg pe_int)) po_none)) (pe_slice sl_tupA (pv 3) (po_some (pv 4)) po_none)))) pss_nil)
      (pss_cons (ps_if (pt_cmpR op_eq (pe_ix ix_list (pv 2) pe_int (fun _ _ => rfl)) pe_int (nomark _)) (pss_one (ps_ret (pe_op op_catA (pv 3) (pe_tup (pa_cons (pv 1) pa_nil))))) pss_nil)
      (pss_one (ps_ret (pv 3))))))))))), ?_⟩
    refine ⟨_, rfl, (by show 5 ≤ sizeLine; decide), fun p1 np1 => ?_⟩
    have a1 := same_upd (o := .lst [V.int 6, V.int 16777216, V.int 7, V.int 24, V.int 30]) np1
    refine ⟨6, rfl, by decide, by decide, fun D2 nD2 => lc_range (lo := 0) (n := 6) (fun i H2 => Same (upd H p1 (.lst [V.int 6, V.int 16777216, V.int 7, V.int 24, V.int 30])) H2 ∧ H2 D2 = some (.lst ((List.replicate i (30 : Int)).map V.int))) ⟨same_upd nD2, upd_same⟩ ?_ ?_⟩
    · rintro i H2 hi ⟨s, hD⟩
      refine ⟨rfl, ?_⟩
      refine lc_yes ?_
      refine iteT ?_
      refine ⟨_, hD, ?_, same_mut s nD2, ?_⟩
      · rw [List.length_map, List.length_replicate]
        exact small1000 (by omega)
      · rw [upd_same, List.replicate_succ', ← snoc_int]
    rintro H2 ⟨s2, h2⟩

    refine ⟨p1, D2, _, _, rfl, rfl, s2 _ _ upd_same, h2, (by show 5 + 6 ≤ sizeLine; decide), fun p3 np3 => ?_⟩
    have a3 := (a1.trans s2).trans (same_upd (o := .lst ([6, 16777216, 7, 24, 30, 30, 30, 30, 30, 30, 30].map V.int)) np3)
    refine ⟨c, p3, [6, 16777216, 7, 24, 30, 30, 30, 30, 30, 30, 30], rfl, lst_l upd_same, by decide, by decide, fun ds H4 d w s4 nd hd => ?_⟩
    have s4 := a3.trans s4
    obtain ⟨x0, r0, rfl, l0, u0, w⟩ := w.c
    obtain ⟨x1, r1, rfl, l1, u1, w⟩ := w.c
    obtain ⟨x2, r2, rfl, l2, u2, w⟩ := w.c
    obtain ⟨x3, r3, rfl, l3, u3, w⟩ := w.c
    obtain ⟨x4, r4, rfl, l4, u4, w⟩ := w.c
    have lr4 : r4.length = 6 := w.len
    refine ⟨.ref d, rfl, d, _, _, _, rfl, rfl, lst_l hd, atI_nat (j := 1) rfl, _, rfl, x1, m, rfl, by omega, fun H5 l ls s5 fl hl ok ln => ?_⟩
    have D5 : SqL K H5 d ((x0 :: x1 :: x2 :: x3 :: x4 :: r4).map V.int) := lst_l (s5 _ _ hd)
    have s5 := s4.trans s5
    have IX0 : ∀ {H' : Hp}, Same H5 H' → SqL K H' d ((x0 :: x1 :: x2 :: x3 :: x4 :: r4).map V.int) := fun s => s.seq D5
    have big : (100 : Nat) ≤ sizeLine := by decide
    refine ⟨.ref d, rfl, d, _, _, _, rfl, rfl, D5, atI_nat (j := 3) rfl, .inl ⟨x3, rfl, _, rfl, l, _, rfl, .inr (tup_t hl), _, _, rfl, rfl, ?_⟩⟩
    rw [List.length_map]
    have lz : (0 : Int) < (ls.length : Int) + 1 := by omega
    refine ⟨_, _, rfl, rfl, lz, ?_⟩
    have cl : ∀ (lo hi : Option Int), ∃ zs : List Int, cutV (ls.map V.int) lo hi = zs.map V.int ∧ zs.length ≤ 24 := fun lo hi => by
      obtain ⟨ms, em, hm'⟩ := cut_map ls lo hi
      refine ⟨ms, em, ?_⟩
      have h := cutV_length (ls.map V.int) lo hi
      rw [em, List.length_map, List.length_map] at h
      omega
    refine ⟨.ref d, rfl, d, _, _, _, rfl, rfl, D5, atI_nat (j := 0) rfl, rfl, _, rfl, ite2 (fun _ => ?_) (fun _ => ?_)⟩
    · refine ⟨.ref d, rfl, 5, rfl, .ref d, rfl, d, _, _, _, rfl, rfl, D5, atI_nat (j := 2) rfl, _, _, rfl, rfl, _, rfl, d, _, rfl, D5, fun p6 np6 => ?_⟩
      obtain ⟨ms, em, _⟩ := cut_map (x0 :: x1 :: x2 :: x3 :: x4 :: r4) (some 5) (some (5 + x2))
      have lm : ms.length ≤ 11 := by
        have h := cutV_length ((x0 :: x1 :: x2 :: x3 :: x4 :: r4).map V.int) (some 5) (some (5 + x2))
        rw [em, List.length_map, List.length_map, List.length_cons, List.length_cons, List.length_cons, List.length_cons, List.length_cons] at h
        omega
      have h6 : upd H5 p6 (.lst (cutV ((x0 :: x1 :: x2 :: x3 :: x4 :: r4).map V.int) (some 5) (some (5 + x2)))) p6 = some (.lst (ms.map V.int)) := upd_same.trans (congrArg (fun q => some (HO.lst q)) em)
      have s6 := same_upd (o := .lst (cutV ((x0 :: x1 :: x2 :: x3 :: x4 :: r4).map V.int) (some 5) (some (5 + x2)))) np6
      generalize upd H5 p6 (.lst (cutV ((x0 :: x1 :: x2 :: x3 :: x4 :: r4).map V.int) (some 5) (some (5 + x2)))) = H6 at h6 s6 ⊢
      refine ⟨p6, rfl, ⟨_, lst_l h6⟩, fun E nE => lc_list (K := K) (a := p6) (xs := ms.map V.int) (fun i H7 => Same H6 H7 ∧ H7 E = some (.lst (((ms.take i).map fun n => n - 2).map V.int))) ⟨same_upd nE, upd_same⟩ (fun i H7 _ ⟨s, _⟩ => lst_l (s _ _ h6)) ?_ ?_⟩
      · rintro i x H7 hi ⟨s, hE⟩
        obtain ⟨n, rfl, hin⟩ := int_of hi
        refine ⟨rfl, ?_⟩
        refine lc_yes ?_
        refine iteT ?_
        refine ⟨_, rfl, _, _, rfl, rfl, _, hE, ?_, same_mut s nE, ?_⟩
        · rw [List.length_map, List.length_map, List.length_take]
          exact small1000 (by omega)
        · rw [upd_same, List.take_add_one, hin, List.map_append, List.map_append]
          rfl
      · rintro H7 ⟨s, hE⟩
        exact ⟨E, _, rfl, .inl ⟨lst_l hE, fun t nt => q _ t _ (((s5.trans s6).trans s).trans (same_upd nt)) upd_same (by rw [List.length_map, List.length_take]; omega)⟩⟩
    refine ⟨.ref d, rfl, d, _, _, _, rfl, rfl, D5, atI_nat (j := 0) rfl, rfl, _, rfl, ite2 (fun _ => ?_) (fun _ => ?_)⟩
    · refine ⟨_, rfl, _, rfl, _, rfl, ?_⟩
      dsimp only [tNoPart]
      refine sl_any hl fun H6 u6 s6 h6 => ?_
      obtain ⟨z6, e6, n6⟩ := cl none (some (x3 % ((ls.length : Int) + 1)))
      rw [e6] at h6
      refine ⟨.ref d, rfl, d, _, _, _, rfl, rfl, IX0 s6, atI_nat (j := 4) rfl, _, _, rfl, rfl, (by show 1 ≤ sizeLine; decide), fun u7 n7 => ?_⟩
      have s7 := same_upd (o := .tup [V.int (x4 - 2)]) n7
      refine cat_any (s7 _ _ h6) upd_same (Nat.le_trans (by rw [List.length_map]; show z6.length + 1 ≤ 100; omega) big) fun H8 u8 s8 h8 => ?_
      refine ⟨_, rfl, _, rfl, _, rfl, ?_⟩
      dsimp only [tNoPart]
      have s58 := (s6.trans s7).trans s8
      refine sl_any (s58 _ _ hl) fun H9 u9 s9 h9 => ?_
      obtain ⟨z9, e9, n9⟩ := cl (some (x3 % ((ls.length : Int) + 1))) none
      rw [e9] at h9
      refine cat_any (s9 _ _ h8) h9 (Nat.le_trans (by rw [List.length_append, List.length_map, List.length_map]; show z6.length + 1 + z9.length ≤ 100; omega) big) fun H10 u10 s10 h10 => ?_
      refine q H10 u10 (z6 ++ [x4 - 2] ++ z9) (((s5.trans s58).trans s9).trans s10) (by rw [h10, List.map_append, List.map_append]; rfl) (by rw [List.length_append, List.length_append]; show z6.length + 1 + z9.length ≤ 100; omega)
    refine ⟨.ref d, rfl, d, _, _, _, rfl, rfl, D5, atI_nat (j := 0) rfl, rfl, _, rfl, ite2 (fun _ => ?_) (fun _ => ?_)⟩
    · refine ⟨_, rfl, l, _, rfl, tup_t hl, fun t nt => q _ t ls.reverse (s5.trans (same_upd nt)) (by rw [upd_same, List.map_reverse]) (by rw [List.length_reverse]; omega)⟩
    refine ⟨.ref d, rfl, d, _, _, _, rfl, rfl, D5, atI_nat (j := 0) rfl, rfl, _, rfl, ite2 (fun _ => ?_) (fun _ => ?_)⟩
    · refine ⟨_, rfl, _, rfl, _, rfl, ?_⟩
      dsimp only [tNoPart]
      refine sl_any hl fun H6 u6 s6 h6 => ?_
      obtain ⟨z6, e6, n6⟩ := cl none (some (x3 % ((ls.length : Int) + 1)))
      rw [e6] at h6
      refine ⟨_, rfl, _, rfl, _, rfl, sl_any (s6 _ _ hl) fun H7 u7 s7 h7 => ?_⟩
      obtain ⟨z7, e7, n7⟩ := cl none (some (x3 % ((ls.length : Int) + 1)))
      rw [e7] at h7
      refine ⟨1, rfl, -1, rfl, ?_⟩
      dsimp only [tNoPart]
      refine sl_any h7 fun H8 u8 s8 h8 => ?_
      obtain ⟨z8, e8, _⟩ := cut_map z7 (some (-1)) none
      have n8 : z8.length ≤ 24 := by
        have h := cutV_length (z7.map V.int) (some (-1)) none
        rw [e8, List.length_map, List.length_map] at h
        omega
      rw [e8] at h8
      refine cat_any (s8 _ _ (s7 _ _ h6)) h8 (Nat.le_trans (by rw [List.length_map, List.length_map]; show z6.length + z8.length ≤ 100; omega) big) fun H9 u9 s9 h9 => ?_
      have s59 := ((s6.trans s7).trans s8).trans s9
      refine ⟨_, rfl, _, rfl, _, rfl, ?_⟩
      dsimp only [tNoPart]
      refine sl_any (s59 _ _ hl) fun H10 u10 s10 h10 => ?_
      obtain ⟨z10, e10, n10⟩ := cl (some (x3 % ((ls.length : Int) + 1))) none
      rw [e10] at h10
      refine cat_any (s10 _ _ h9) h10 (Nat.le_trans (by rw [List.length_append, List.length_map, List.length_map, List.length_map]; show z6.length + z8.length + z10.length ≤ 100; omega) big) fun H11 u11 s11 h11 => ?_
      refine q H11 u11 (z6 ++ z8 ++ z10) (((s5.trans s59).trans s10).trans s11) (by rw [h11, List.map_append, List.map_append]) (by rw [List.length_append, List.length_append]; omega)
    refine ⟨.ref d, rfl, d, _, _, _, rfl, rfl, D5, atI_nat (j := 0) rfl, rfl, _, rfl, ite2 (fun _ => ?_) (fun _ => ?_)⟩
    · refine ⟨_, rfl, _, rfl, (by show 1 ≤ sizeLine; decide), fun u7 n7 => ?_⟩
      have s7 := same_upd (o := .tup [V.int (m : Int)]) n7
      refine cat_any (s7 _ _ hl) upd_same (Nat.le_trans (by rw [List.length_map]; show ls.length + 1 ≤ 100; omega) big) fun H8 u8 s8 h8 => ?_
      exact q H8 u8 (ls ++ [(m : Int)]) ((s5.trans s7).trans s8) (by rw [h8, List.map_append]; rfl) (by rw [List.length_append]; show ls.length + 1 ≤ 100; omega)
    exact ⟨_, rfl, q H5 l ls s5 hl (by omega)⟩
def sp__law_any_prices : Sp := fun vs H Q _ => ∃ (c : Int) (w : Addr) (m : Nat) (x y z : Int), vs = [.int c, .ref w, .int (m : Int)] ∧ H w = some (.lst ([x, y, z].map V.int)) ∧ m ≤ 24 ∧ 0 ≤ z ∧ z < 10 ^ 18 ∧ ∀ H' P (ps : List Int), Same H H' → H' P = some (.lst (ps.map V.int)) → ps.length ≤ 30 → (∀ p ∈ ps, p ≤ 10 ^ 18) → Q (.ref P) H' 
theorem ok__law_any_prices {f : Addr} {fd : FuncData} {C_Rule C_Ratio C_BadNumber C_TooMany C_ZeroBottom C_BadLot C_ShelfError : Addr} (F : Fun K "_law_any_prices" "_law_any_prices" s__law_any_prices f fd) (T : Txt K mg C_Rule C_Ratio C_BadNumber C_TooMany C_ZeroBottom C_BadLot C_ShelfError) (m_int : mg "int" = none) (c__law_row : Cal P w K mg base CX0 2 "_law_row" ["_law_cell_here", "_law_count"] (sp__law_row K)) : FnOk P w K mg base CX0 3 f fd ["_law_cell_here", "_law_ways", "_law_many"] sp__law_any_prices := by
  refine F.ok sc__law_any_prices (fun vs H Q E h => ?_) (fun cdv A outer s H vs Q E hr h => ?_)
  · obtain ⟨c, w, m, x, y, z, rfl, _⟩ := h
    rfl
  · obtain ⟨c, w, m, x, y, z, rfl, hw, hm, z0, z1, q⟩ := h
    obtain ⟨f__law_row, fd__law_row, G__law_row, m__law_row, k__law_row, b__law_row⟩ := c__law_row
    refine ⟨_, (pss_cons (ps_set (i := 3) sc__law_any_prices.nd rfl (Or.inl rfl) (pe_call G__law_row (hr.mono (by decide)) (by rfl) m__law_row k__law_row b__law_row .nil pass0 (pa_cons (pv 0) (pa_cons (pv 2) pa_nil))))
      (pss_cons (ps_if (PW.pt (pw_and (pt_cmpR op_eq (pe_ix ix_list (pv 1) pe_int (fun _ _ => rfl)) pe_int (nomark _)) (pw_and1 (pt_cmpR op_gt (pv 2) pe_int (nomark _))))) (pss_one (ps_ret (pe_slice sl_list (pv 3) (po_some pe_int) po_none))) pss_nil)
      (pss_cons (ps_if (pt_cmpR op_eq (pe_ix ix_list (pv 1) pe_int (fun _ _ => rfl)) pe_int (nomark _)) (pss_one (ps_ret (pe_op op_cat (pv 3) (pe_lst (pa_cons (pe_ix ix_list (pv 1) pe_int (fun _ _ => rfl)) pa_nil))))) pss_nil)
      (Evl.pss_cut (ps_if (PW.pt (pw_and (pt_cmpR op_eq (pe_ix ix_list (pv 1) pe_int (fun _ _ => rfl)) pe_int (nomark _)) (pw_and1 (pt_cmpR op_gt (pv 2) pe_int (nomark _))))) (pss_one (ps_asg (pe_op op_sub (pe_un un_neg pe_int) (pe_ix ix_list (pv 1) pe_int (fun _ _ => rfl))) (pg_sub (pv 3) (pe_op op_mod (pe_callTy call_int1 (by rfl) m_int (by decide +kernel) (pa_cons (pe_ix ix_list (pv 1) pe_int (fun _ _ => rfl)) pa_nil)) (pv 2)) set_list))) pss_nil)
      (pss_one (ps_ret (pv 3))))))), ?_⟩
    refine ⟨_, rfl, _, rfl, c, m, rfl, by omega, fun rs H1 P lr br s1 nP hP => ?_⟩
    have bp : ∀ p ∈ rs, p ≤ 10 ^ 18 := fun p hp => by
      have := br p hp
      omega
    have hw1 := lst_l (K := K) (s1 _ _ hw)
    refine ⟨.ref w, rfl, w, _, _, _, rfl, rfl, hw1, atI_nat (j := 0) rfl, rfl, _, rfl, ite2 (fun _ => ⟨_, rfl, _, _, rfl, rfl, _, rfl, ite2 (fun _ => ?_) (fun _ => ?_)⟩) (fun _ => ?_)⟩
    · refine ⟨.ref P, rfl, 1, rfl, P, _, rfl, lst_l hP, fun p6 np6 => ?_⟩
      rw [cut_from1]
      exact q _ p6 (rs.drop 1) (s1.trans (same_upd np6)) (by rw [upd_same, List.map_drop]) (by rw [List.length_drop]; omega) fun p hp => bp p (List.mem_of_mem_drop hp)
    · refine ⟨.ref w, rfl, w, _, _, _, rfl, rfl, hw1, atI_nat (j := 0) rfl, rfl, _, rfl, ite2 (fun _ => ?_) (fun _ => ?_)⟩
      · refine ⟨_, rfl, .ref w, rfl, w, _, _, _, rfl, rfl, hw1, atI_nat (j := 2) rfl, (by show 1 ≤ sizeLine; decide), fun p2 np2 => ?_⟩
        have s2 := same_upd (o := .lst [V.int z]) np2
        refine ⟨P, p2, _, _, rfl, rfl, s2 _ _ hP, upd_same, (by rw [List.length_map]; show rs.length + 1 ≤ sizeLine; exact Nat.le_of_lt (small1000 (by omega))), fun p3 np3 => ?_⟩
        refine q _ p3 (rs ++ [z]) ((s1.trans s2).trans (same_upd np3)) (by rw [upd_same, List.map_append]; rfl) (by rw [List.length_append]; show rs.length + 1 ≤ 30; omega) fun p hp => ?_
        rcases List.mem_append.mp hp with hp | hp
        · exact bp p hp
        · rw [List.mem_singleton.mp hp]
          omega
      · refine ⟨fun σ' H' => ∃ ps : List Int, Same H H' ∧ H' P = some (.lst (ps.map V.int)) ∧ ps.length ≤ 30 ∧ (∀ p ∈ ps, p ≤ 10 ^ 18) ∧ σ' = [some (.int c), some (.ref w), some (.int (m : Int)), some (.ref P)], ?_, ?_⟩
        · refine ⟨.ref w, rfl, w, _, _, _, rfl, rfl, hw1, atI_nat (j := 0) rfl, rfl, _, rfl, ite2 (fun _ => ⟨_, rfl, _, _, rfl, rfl, _, rfl, ite2 (fun pos => ?_) (fun _ => ⟨rs, s1, hP, by omega, bp, rfl⟩)⟩) (fun _ => ⟨rs, s1, hP, by omega, bp, rfl⟩)⟩
          have pos : (m : Int) > 0 := of_decide_eq_true pos
          have j0 := Int.emod_nonneg y (show (m : Int) ≠ 0 by omega)
          have j1 := Int.emod_lt_of_pos y (show (0 : Int) < m by omega)
          refine ⟨1, rfl, .ref w, rfl, w, _, _, _, rfl, rfl, hw1, atI_nat (j := 2) rfl, _, _, rfl, rfl, _, rfl, .ref w, rfl, w, _, _, _, rfl, rfl, hw1, atI_nat (j := 1) rfl, .inl ⟨y, rfl, _, rfl, _, _, rfl, rfl, pos, P, _, _, (y % (m : Int)).toNat, rfl, rfl, hP, ?_, ?_⟩⟩
          · unfold ixN
            rw [if_pos j0, if_pos (by rw [List.length_map]; omega)]
          · refine ⟨rs.set (y % (m : Int)).toNat (-1 - z), same_mut s1 nP, by rw [upd_same, List.map_set], by rw [List.length_set]; omega, fun p hp => ?_, rfl⟩
            rcases List.mem_or_eq_of_mem_set hp with hp | rfl
            · exact bp p hp
            · omega
        rintro σ' H4 ⟨ps, s4, hP4, l5, bp4, rfl⟩
        exact ⟨_, rfl, q H4 P ps s4 hP4 l5 bp4⟩
    · refine ⟨.ref w, rfl, w, _, _, _, rfl, rfl, hw1, atI_nat (j := 0) rfl, rfl, _, rfl, ite2 (fun _ => ?_) (fun _ => ?_)⟩
      · refine ⟨_, rfl, .ref w, rfl, w, _, _, _, rfl, rfl, hw1, atI_nat (j := 2) rfl, (by show 1 ≤ sizeLine; decide), fun p2 np2 => ?_⟩
        have s2 := same_upd (o := .lst [V.int z]) np2
        refine ⟨P, p2, _, _, rfl, rfl, s2 _ _ hP, upd_same, (by rw [List.length_map]; show rs.length + 1 ≤ sizeLine; exact Nat.le_of_lt (small1000 (by omega))), fun p3 np3 => ?_⟩
        refine q _ p3 (rs ++ [z]) ((s1.trans s2).trans (same_upd np3)) (by rw [upd_same, List.map_append]; rfl) (by rw [List.length_append]; show rs.length + 1 ≤ 30; omega) fun p hp => ?_
        rcases List.mem_append.mp hp with hp | hp
        · exact bp p hp
        · rw [List.mem_singleton.mp hp]
          omega
      · refine ⟨fun σ' H' => ∃ ps : List Int, Same H H' ∧ H' P = some (.lst (ps.map V.int)) ∧ ps.length ≤ 30 ∧ (∀ p ∈ ps, p ≤ 10 ^ 18) ∧ σ' = [some (.int c), some (.ref w), some (.int (m : Int)), some (.ref P)], ?_, ?_⟩
        · refine ⟨.ref w, rfl, w, _, _, _, rfl, rfl, hw1, atI_nat (j := 0) rfl, rfl, _, rfl, ite2 (fun _ => ⟨_, rfl, _, _, rfl, rfl, _, rfl, ite2 (fun pos => ?_) (fun _ => ⟨rs, s1, hP, by omega, bp, rfl⟩)⟩) (fun _ => ⟨rs, s1, hP, by omega, bp, rfl⟩)⟩
          have pos : (m : Int) > 0 := of_decide_eq_true pos
          have j0 := Int.emod_nonneg y (show (m : Int) ≠ 0 by omega)
          have j1 := Int.emod_lt_of_pos y (show (0 : Int) < m by omega)
          refine ⟨1, rfl, .ref w, rfl, w, _, _, _, rfl, rfl, hw1, atI_nat (j := 2) rfl, _, _, rfl, rfl, _, rfl, .ref w, rfl, w, _, _, _, rfl, rfl, hw1, atI_nat (j := 1) rfl, .inl ⟨y, rfl, _, rfl, _, _, rfl, rfl, pos, P, _, _, (y % (m : Int)).toNat, rfl, rfl, hP, ?_, ?_⟩⟩
          · unfold ixN
            rw [if_pos j0, if_pos (by rw [List.length_map]; omega)]
          · refine ⟨rs.set (y % (m : Int)).toNat (-1 - z), same_mut s1 nP, by rw [upd_same, List.map_set], by rw [List.length_set]; omega, fun p hp => ?_, rfl⟩
            rcases List.mem_or_eq_of_mem_set hp with hp | rfl
            · exact bp p hp
            · omega
        rintro σ' H4 ⟨ps, s4, hP4, l5, bp4, rfl⟩
        exact ⟨_, rfl, q H4 P ps s4 hP4 l5 bp4⟩
def sp__law_made (C : Addr) : Sp := fun vs H Q _ => ∃ m : Int, vs = [.int m] ∧ (m > 24 → ∀ H' u, Same H H' → H' u = some (.tup [.str "many", .int m, .int 24, .bl false]) → Q (.ref u) H') ∧ (¬ m > 24 → ∀ H' u x dx, Same H H' → H' u = some (.tup [.str "made", .ref x]) → RAt C H' x dx m → Q (.ref u) H')
theorem ok__law_made {f : Addr} {fd : FuncData} {C_Rule C_Ratio C_BadNumber C_TooMany C_ZeroBottom C_BadLot C_ShelfError : Addr} (F : Fun K "_law_made" "_law_made" s__law_made f fd) (T : Txt K mg C_Rule C_Ratio C_BadNumber C_TooMany C_ZeroBottom C_BadLot C_ShelfError) (m_isinstance : mg "isinstance" = none) (c_Rule___init__ : CalI P w K mg base (L2.CX P w) 4 C_Rule ["self", "many"] (sp_Rule___init__ C_Rule C_TooMany) []) : FnOk P w K mg base CX0 6 f fd ["_law_many"] (sp__law_made C_Rule) := by
  refine F.ok sc__law_made (fun vs H Q E h => ?_) (fun cdv A outer s H vs Q E hr h => ?_)
  · obtain ⟨m, rfl, _⟩ := h
    rfl
  · obtain ⟨m, rfl, k1, k2⟩ := h
    obtain ⟨f_Rule___init__, fd_Rule___init__, G_Rule___init__, M_Rule___init__, b_Rule___init__, ds_Rule___init__, vd_Rule___init__, bd_Rule___init__⟩ := c_Rule___init__
    refine ⟨_, (pss_one (ps_try_as (i := 1) (Wout := fun _ _ _ _ => False) rfl rfl sc__law_made.nd rfl rfl ⟨rfl, by decide, Or.inl T.g_TooMany⟩ takes0
      (fun W pn xe tk _ => (pss_one (ps_ret (pe_tup (pa_cons pe_str (pa_cons (pe_makeS M_Rule___init__ G_Rule___init__ (hr.mono (by decide)) (by rfl) T.g_Rule b_Rule___init__ .nil (fun σ => passAt tk σ) (pa_cons (pv 0) pa_nil)) pa_nil))))))
      (fun a oe cls d pn hz hf => (pss_one (ps_ret (pe_tup (pa_cons pe_str (pa_cons (pe_xf T.xf_TooMany T.n_TooMany_many hz hf (pv 1)) (pa_cons (pe_xf T.xf_TooMany T.n_TooMany_most hz hf (pv 1)) (pa_cons (pe_callB (call_isY (K := K) hz hf) (by rfl) m_isinstance (by decide +kernel) (pa_cons (pv 1) (pa_cons (pe_glob (v := .ref C_BadNumber) (by rfl) T.g_BadNumber rfl) pa_nil))) pa_nil)))))))))), ?_⟩
    have sm : ∀ {x dx : Addr} {o : HO}, H x = none → H dx = none → Same H (upd (upd (upd H dx (.own x)) x (.ins C_Rule dx [])) x o) := fun {x dx o} nx nd b o' e => by
      rw [upd_ne (ne_of_none e nx), upd_ne (ne_of_none e nx), upd_ne (ne_of_none e nd)]
      exact e
    have sm0 : ∀ {x dx : Addr}, H x = none → H dx = none → Same H (upd (upd H dx (.own x)) x (.ins C_Rule dx [])) := fun {x dx} nx nd b o' e => by
      rw [upd_ne (ne_of_none e nx), upd_ne (ne_of_none e nd)]
      exact e
    refine ⟨_, rfl, fun x dx nx nd _ => ⟨x, dx, [], m, rfl, upd_same, Nat.zero_le _, fun e d nd2 => ?_, fun e => ?_⟩⟩
    · have s2 := (sm0 nx nd).trans (same_upd (o := .xd [("most", .int 24), ("many", .int m)]) nd2)
      refine ⟨true, T.exm_TooMany_TooMany, fun _ a0 na => ?_, fun z => Bool.noConfusion z⟩
      refine ⟨.ref a0, rfl, rfl, rfl, d, _, _, rfl, upd_same, by rfl, .ref a0, rfl, rfl, rfl, d, _, _, rfl, upd_same, by rfl, .ref a0, rfl, C_TooMany, T.ec_TooMany, rfl, .inr ⟨d, _, rfl, upd_same⟩, .ref C_BadNumber, .ref C_BadNumber, false, rfl, fun _ r => r, T.kit_TooMany_BadNumber, (by show 4 ≤ sizeLine; decide), fun u nu => k1 e _ u (s2.trans (same_upd nu)) upd_same⟩
    · exact ⟨rfl, (by show 2 ≤ sizeLine; decide), fun u nu => k2 e _ u x dx ((sm nx nd).trans (same_upd nu)) upd_same ((upd_ne (ne_of_none upd_same nu)).trans upd_same)⟩
def sp__law_made_base : Sp := fun vs H Q _ => ∃ m : Int, vs = [.int m] ∧ m > 24 ∧ ∀ H', Same H H' → Q (.bl true) H' 
theorem ok__law_made_base {f : Addr} {fd : FuncData} {C_Rule C_Ratio C_BadNumber C_TooMany C_ZeroBottom C_BadLot C_ShelfError : Addr} (F : Fun K "_law_made_base" "_law_made_base" s__law_made_base f fd) (T : Txt K mg C_Rule C_Ratio C_BadNumber C_TooMany C_ZeroBottom C_BadLot C_ShelfError) (m_ValueError : mg "ValueError" = none) (m_isinstance : mg "isinstance" = none) (c_Rule___init__ : CalI P w K mg base (L2.CX P w) 4 C_Rule ["self", "many"] (sp_Rule___init__ C_Rule C_TooMany) []) : FnOk P w K mg base CX0 6 f fd ["_law_many"] sp__law_made_base := by
  refine F.ok sc__law_made_base (fun vs H Q E h => ?_) (fun cdv A outer s H vs Q E hr h => ?_)
  · obtain ⟨m, rfl, _⟩ := h
    rfl
  · obtain ⟨m, rfl, hm, q⟩ := h
    obtain ⟨f_Rule___init__, fd_Rule___init__, G_Rule___init__, M_Rule___init__, b_Rule___init__, ds_Rule___init__, vd_Rule___init__, bd_Rule___init__⟩ := c_Rule___init__
    refine ⟨_, (pss_cons (ps_try_as (i := 1) (Wout := fun _ _ _ _ => False) rfl rfl sc__law_made_base.nd rfl rfl ⟨rfl, by decide, Or.inl T.g_ShelfError⟩ takes0
      (fun W pn xe tk _ => (pss_one (ps_expr (pe_makeS M_Rule___init__ G_Rule___init__ (hr.mono (by decide)) (by rfl) T.g_Rule b_Rule___init__ .nil (fun σ => passAt tk σ) (pa_cons (pv 0) pa_nil)))))
      (fun a oe cls d pn hz hf => (pss_one (ps_ret (pe_and (pe_callB (call_isY (K := K) hz hf) (by rfl) m_isinstance (by decide +kernel) (pa_cons (pv 1) (pa_cons (pe_bltn (v := .ty "ValueError") (by rfl) m_ValueError (by decide +kernel) rfl) pa_nil))) (pe_one (pe_callB (call_isY (K := K) hz hf) (by rfl) m_isinstance (by decide +kernel) (pa_cons (pv 1) (pa_cons (pe_glob (v := .ref C_TooMany) (by rfl) T.g_TooMany rfl) pa_nil)))))))))
      (pss_one (ps_ret pe_bl))), ?_⟩
    refine ⟨_, rfl, fun x dx nx nd _ => ⟨x, dx, [], m, rfl, upd_same, Nat.zero_le _, fun e d nd2 => ?_, fun e => absurd hm e⟩⟩
    have s1 : Same H (upd (upd H dx (.own x)) x (.ins C_Rule dx [])) := fun b o' e => by
      rw [upd_ne (ne_of_none e nx), upd_ne (ne_of_none e nd)]
      exact e
    have s2 := s1.trans (same_upd (o := .xd [("most", .int 24), ("many", .int m)]) nd2)
    refine ⟨true, T.exm_TooMany_ShelfError, fun _ a0 na => ?_, fun z => Bool.noConfusion z⟩
    refine ⟨.ref a0, rfl, C_TooMany, T.ec_TooMany, rfl, .inr ⟨d, _, rfl, upd_same⟩, .ty "ValueError", .type "ValueError", true, rfl, fun _ r => r, T.kit_TooMany_ValueError, true, rfl, iteT ?_⟩
    exact ⟨.ref a0, rfl, C_TooMany, T.ec_TooMany, rfl, .inr ⟨d, _, rfl, upd_same⟩, .ref C_TooMany, .ref C_TooMany, true, rfl, fun _ r => r, T.kit_TooMany_TooMany, q _ s2⟩
def sp__law_shares (C CR : Addr) : Sp := fun vs H Q _ => ∃ (p l dx : Addr) (m : Nat) (ns : List Int), vs = [.ref p, .ref l] ∧ RAt C H p dx (m : Int) ∧ H l = some (.tup (ns.map V.int)) ∧ m ≤ 24 ∧ ns.length ≤ 1000 ∧ (lotB ns (-1) m = false → ∀ H' u, Same H H' → H' u = some (.tup [.str "lot", .bl false]) → Q (.ref u) H') ∧
  (lotB ns (-1) m = true → ∀ H' u L (rs : List Addr), Same H H' → H L = none → H' u = some (.tup [.str "told", .ref L]) → H' L = some (.lst (rs.map V.ref)) → rs.length = m → (∀ (i : Nat) (r : Addr), rs[i]? = some r → RatAt CR H' r 0 1) → Q (.ref u) H')
theorem ok__law_shares {f : Addr} {fd : FuncData} {C_Rule C_Ratio C_BadNumber C_TooMany C_ZeroBottom C_BadLot C_ShelfError : Addr} (F : Fun K "_law_shares" "_law_shares" s__law_shares f fd) (T : Txt K mg C_Rule C_Ratio C_BadNumber C_TooMany C_ZeroBottom C_BadLot C_ShelfError) (m_isinstance : mg "isinstance" = none) (c_Rule_shares : CalM P w K mg base (L2.CX P w) 3 C_Rule "shares" ["self", "lot"] (sp_Rule_shares C_Rule C_Ratio C_BadLot)) : FnOk P w K mg base CX0 4 f fd ["_law_rule", "_law_lot_here"] (sp__law_shares C_Rule C_Ratio) := by
  refine F.ok sc__law_shares (fun vs H Q E h => ?_) (fun cdv A outer s H vs Q E hr h => ?_)
  · obtain ⟨p, l, dx, m, ns, rfl, _⟩ := h
    rfl
  · obtain ⟨p, l, dx, m, ns, rfl, hp, hl, hm, nl, kE, q⟩ := h
    obtain ⟨f_Rule_shares, fd_Rule_shares, G_Rule_shares, M_Rule_shares, b_Rule_shares⟩ := c_Rule_shares
    refine ⟨_, (pss_one (ps_try_as (i := 2) (Wout := fun _ _ _ _ => False) rfl rfl sc__law_shares.nd rfl rfl ⟨rfl, by decide, Or.inl T.g_BadLot⟩ takes0
      (fun W pn xe tk _ => (pss_one (ps_ret (pe_tup (pa_cons pe_str (pa_cons (pe_methT (pv 0) T.cl_Rule M_Rule_shares G_Rule_shares (hr.mono (by decide)) b_Rule_shares (fun σ => passAt tk σ) (pa_cons (pv 1) pa_nil)) pa_nil))))))
      (fun a oe cls d pn hz hf => (pss_one (ps_ret (pe_tup (pa_cons pe_str (pa_cons (pe_callB (call_isY (K := K) hz hf) (by rfl) m_isinstance (by decide +kernel) (pa_cons (pv 2) (pa_cons (pe_glob (v := .ref C_BadNumber) (by rfl) T.g_BadNumber rfl) pa_nil))) pa_nil)))))))), ?_⟩
    refine ⟨_, rfl, p, dx, _, rfl, hp, fR_shares _, _, rfl, p, l, dx, m, ns, rfl, hp, hl, hm, nl, fun bad => ?_, fun ok H' L rs s nL hL lr hr => ?_⟩
    · have kE := kE bad
      refine ⟨true, T.exm_BadLot_BadLot, fun _ a0 na => ?_, fun z => Bool.noConfusion z⟩
      exact ⟨.ref a0, rfl, C_BadLot, T.ec_BadLot, rfl, .inl rfl, .ref C_BadNumber, .ref C_BadNumber, false, rfl, fun _ r => r, T.kit_BadLot_BadNumber, (by show 2 ≤ sizeLine; decide), fun u nu => kE _ u (same_upd nu) upd_same⟩
    · exact ⟨(by show 2 ≤ sizeLine; decide), fun u nu => q ok _ u L rs (s.trans (same_upd nu)) nL upd_same (same_upd nu _ _ hL) lr fun i r h => (hr i r h).same (same_upd nu)⟩
def sp__law_away (C : Addr) : Sp := fun vs H Q _ => ∃ (p l dx : Addr) (m : Nat) (ns : List Int), vs = [.ref p, .ref l] ∧ RAt C H p dx (m : Int) ∧ H l = some (.tup (ns.map V.int)) ∧ m ≤ 24 ∧ ns.length ≤ 1000 ∧ lotB ns (-1) m = false ∧ ∀ H' u, Same H H' → H' u = some (.tup [.str "lot", .bl false]) → Q (.ref u) H' 
theorem ok__law_away {f : Addr} {fd : FuncData} {C_Rule C_Ratio C_BadNumber C_TooMany C_ZeroBottom C_BadLot C_ShelfError : Addr} (F : Fun K "_law_away" "_law_away" s__law_away f fd) (T : Txt K mg C_Rule C_Ratio C_BadNumber C_TooMany C_ZeroBottom C_BadLot C_ShelfError) (m_isinstance : mg "isinstance" = none) (c_Rule_away : CalM P w K mg base (L2.CX P w) 6 C_Rule "away" ["self", "lot"] (sp_Rule_away C_Rule C_Ratio C_BadLot)) : FnOk P w K mg base CX0 7 f fd ["_law_rule", "_law_lot_here"] (sp__law_away C_Rule) := by
  refine F.ok sc__law_away (fun vs H Q E h => ?_) (fun cdv A outer s H vs Q E hr h => ?_)
  · obtain ⟨p, l, dx, m, ns, rfl, _⟩ := h
    rfl
  · obtain ⟨p, l, dx, m, ns, rfl, hp, hl, hm, nl, bad, kE⟩ := h
    obtain ⟨f_Rule_away, fd_Rule_away, G_Rule_away, M_Rule_away, b_Rule_away⟩ := c_Rule_away
    refine ⟨_, (pss_one (ps_try_as (i := 2) (Wout := fun _ _ _ _ => False) rfl rfl sc__law_away.nd rfl rfl ⟨rfl, by decide, Or.inl T.g_BadLot⟩ takes0
      (fun W pn xe tk _ => (pss_one (ps_ret (pe_tup (pa_cons pe_str (pa_cons (pe_methT (pv 0) T.cl_Rule M_Rule_away G_Rule_away (hr.mono (by decide)) b_Rule_away (fun σ => passAt tk σ) (pa_cons (pv 1) pa_nil)) pa_nil))))))
      (fun a oe cls d pn hz hf => (pss_one (ps_ret (pe_tup (pa_cons pe_str (pa_cons (pe_callB (call_isY (K := K) hz hf) (by rfl) m_isinstance (by decide +kernel) (pa_cons (pv 2) (pa_cons (pe_glob (v := .ref C_BadNumber) (by rfl) T.g_BadNumber rfl) pa_nil))) pa_nil)))))))), ?_⟩
    refine ⟨_, rfl, p, dx, _, rfl, hp, fR_away _, _, rfl, p, l, dx, m, ns, rfl, hp, hl, hm, nl, fun _ => ?_, fun ok => (by
      rw [bad] at ok
      cases ok)⟩
    · refine ⟨true, T.exm_BadLot_BadLot, fun _ a0 na => ?_, fun z => Bool.noConfusion z⟩
      exact ⟨.ref a0, rfl, C_BadLot, T.ec_BadLot, rfl, .inl rfl, .ref C_BadNumber, .ref C_BadNumber, false, rfl, fun _ r => r, T.kit_BadLot_BadNumber, (by show 2 ≤ sizeLine; decide), fun u nu => kE _ u (same_upd nu) upd_same⟩
def sp__law_worth (C CR : Addr) : Sp := fun vs H Q _ => ∃ (p l P dx : Addr) (m : Nat) (ns ps : List Int), vs = [.ref p, .ref l, .ref P] ∧ RAt C H p dx (m : Int) ∧ H l = some (.tup (ns.map V.int)) ∧ m ≤ 24 ∧ ns.length ≤ 1000 ∧ H P = some (.lst (ps.map V.int)) ∧ ps.length ≤ 1000 ∧ (∀ p ∈ ps, p ≤ 10 ^ 18) ∧
  (¬ ps.length = m → ∀ H' u, Same H H' → H' u = some (.tup [.str "number", .str "prices", .non, .bl false]) → Q (.ref u) H') ∧
  (ps.length = m → ∀ k : Nat, negAt ps 0 = some k → ∀ H' u, Same H H' → H' u = some (.tup [.str "number", .str "prices", .int k, .bl false]) → Q (.ref u) H') ∧
  (ps.length = m → negAt ps 0 = none → lotB ns (-1) m = false → ∀ H' u, Same H H' → H' u = some (.tup [.str "lot", .bl false]) → Q (.ref u) H') ∧
  (ps.length = m → negAt ps 0 = none → lotB ns (-1) m = true → ∀ H' u r, Same H H' → H' u = some (.tup [.str "told", .ref r]) → RatAt CR H' r 0 1 → Q (.ref u) H')
theorem ok__law_worth {f : Addr} {fd : FuncData} {C_Rule C_Ratio C_BadNumber C_TooMany C_ZeroBottom C_BadLot C_ShelfError : Addr} (F : Fun K "_law_worth" "_law_worth" s__law_worth f fd) (T : Txt K mg C_Rule C_Ratio C_BadNumber C_TooMany C_ZeroBottom C_BadLot C_ShelfError) (m_isinstance : mg "isinstance" = none) (c_Rule_worth : CalM P w K mg base (L2.CX P w) 6 C_Rule "worth" ["self", "lot", "prices"] (sp_Rule_worth C_Rule C_Ratio C_BadLot C_BadNumber)) : FnOk P w K mg base CX0 7 f fd ["_law_rule", "_law_lot_here", "_law_prices"] (sp__law_worth C_Rule C_Ratio) := by
  refine F.ok sc__law_worth (fun vs H Q E h => ?_) (fun cdv A outer s H vs Q E hr h => ?_)
  · obtain ⟨p, l, P, dx, m, ns, ps, rfl, _⟩ := h
    rfl
  · obtain ⟨p, l, P, dx, m, ns, ps, rfl, hp, hl, hm, nl, hP, pl, bp, k1, k2, k3, q⟩ := h
    obtain ⟨f_Rule_worth, fd_Rule_worth, G_Rule_worth, M_Rule_worth, b_Rule_worth⟩ := c_Rule_worth
    refine ⟨_, (pss_one (ps_try_asM (out := fun _ _ _ _ => False) rfl rfl sc__law_worth.nd takes0
      (fun W pn xe tk _ => (pss_one (ps_ret (pe_tup (pa_cons pe_str (pa_cons (pe_methT (pv 0) T.cl_Rule M_Rule_worth G_Rule_worth (hr.mono (by decide)) b_Rule_worth (fun σ => passAt tk σ) (pa_cons (pv 1) (pa_cons (pv 2) pa_nil))) pa_nil))))))
      (.cons (i := 3) ⟨rfl, by decide, Or.inl T.g_BadNumber⟩ rfl rfl (fun a oe cls d pn hz hf => (pss_one (ps_ret (pe_tup (pa_cons pe_str (pa_cons (pe_xf T.xf_BadNumber T.n_BadNumber_what hz hf (pv 3)) (pa_cons (pe_xf T.xf_BadNumber T.n_BadNumber_at hz hf (pv 3)) (pa_cons (pe_callB (call_isY (K := K) hz hf) (by rfl) m_isinstance (by decide +kernel) (pa_cons (pv 3) (pa_cons (pe_glob (v := .ref C_BadLot) (by rfl) T.g_BadLot rfl) pa_nil))) pa_nil))))))))
      (.cons (i := 3) ⟨rfl, by decide, Or.inl T.g_BadLot⟩ rfl rfl (fun a oe cls d pn hz hf => (pss_one (ps_ret (pe_tup (pa_cons pe_str (pa_cons (pe_callB (call_isY (K := K) hz hf) (by rfl) m_isinstance (by decide +kernel) (pa_cons (pv 3) (pa_cons (pe_glob (v := .ref C_BadNumber) (by rfl) T.g_BadNumber rfl) pa_nil))) pa_nil))))))
      .nil)))), ?_⟩
    refine ⟨_, rfl, p, dx, _, rfl, hp, fR_worth _, _, rfl, _, rfl, p, l, P, dx, m, ns, ps, rfl, hp, hl, hm, nl, hP, pl, bp, fun e H' d s hd => ?_, fun e k hk H' d s hd => ?_, fun e hn bad H' s => ?_, fun e hn ok H' r s rr => ?_⟩
    · have k1 := k1 e
      exact ⟨true, T.exm_BadNumber_BadNumber, fun _ a0 na => ⟨.ref a0, rfl, rfl, rfl, d, _, _, rfl, hd, by rfl, .ref a0, rfl, rfl, rfl, d, _, _, rfl, hd, by rfl, .ref a0, rfl, C_BadNumber, T.ec_BadNumber, rfl, .inr ⟨d, _, rfl, hd⟩, .ref C_BadLot, .ref C_BadLot, false, rfl, fun _ r => r, T.kit_BadNumber_BadLot, (by show 4 ≤ sizeLine; decide), fun tt nt => k1 _ tt (s.trans (same_upd nt)) upd_same⟩, fun z => Bool.noConfusion z⟩
    · have k2 := k2 e k hk
      exact ⟨true, T.exm_BadNumber_BadNumber, fun _ a0 na => ⟨.ref a0, rfl, rfl, rfl, d, _, _, rfl, hd, by rfl, .ref a0, rfl, rfl, rfl, d, _, _, rfl, hd, by rfl, .ref a0, rfl, C_BadNumber, T.ec_BadNumber, rfl, .inr ⟨d, _, rfl, hd⟩, .ref C_BadLot, .ref C_BadLot, false, rfl, fun _ r => r, T.kit_BadNumber_BadLot, (by show 4 ≤ sizeLine; decide), fun tt nt => k2 _ tt (s.trans (same_upd nt)) upd_same⟩, fun z => Bool.noConfusion z⟩
    · refine ⟨false, T.exm_BadLot_BadNumber, fun z => Bool.noConfusion z, fun _ => ⟨true, T.exm_BadLot_BadLot, fun _ a0 na => ?_, fun z => Bool.noConfusion z⟩⟩
      exact ⟨.ref a0, rfl, C_BadLot, T.ec_BadLot, rfl, .inl rfl, .ref C_BadNumber, .ref C_BadNumber, false, rfl, fun _ r => r, T.kit_BadLot_BadNumber, (by show 2 ≤ sizeLine; decide), fun tt nt => k3 e hn bad _ tt (s.trans (same_upd nt)) upd_same⟩
    · exact ⟨(by show 2 ≤ sizeLine; decide), fun tt nt => q e hn ok _ tt r (s.trans (same_upd nt)) upd_same (rr.same (same_upd nt))⟩
def sp__law_base (C : Addr) : Sp := fun vs H Q _ => ∃ (p l P dx : Addr) (m : Nat) (ns ps : List Int), vs = [.ref p, .ref l, .ref P] ∧ RAt C H p dx (m : Int) ∧ H l = some (.tup (ns.map V.int)) ∧ m ≤ 24 ∧ ns.length ≤ 1000 ∧ H P = some (.lst (ps.map V.int)) ∧ ps.length ≤ 1000 ∧ (∀ p ∈ ps, p ≤ 10 ^ 18) ∧ (ps.length = m → negAt ps 0 = none → lotB ns (-1) m = false) ∧ ∀ H', Same H H' → Q (.bl true) H' 
theorem ok__law_base {f : Addr} {fd : FuncData} {C_Rule C_Ratio C_BadNumber C_TooMany C_ZeroBottom C_BadLot C_ShelfError : Addr} (F : Fun K "_law_base" "_law_base" s__law_base f fd) (T : Txt K mg C_Rule C_Ratio C_BadNumber C_TooMany C_ZeroBottom C_BadLot C_ShelfError) (m_ValueError : mg "ValueError" = none) (m_isinstance : mg "isinstance" = none) (c_Rule_worth : CalM P w K mg base (L2.CX P w) 6 C_Rule "worth" ["self", "lot", "prices"] (sp_Rule_worth C_Rule C_Ratio C_BadLot C_BadNumber)) : FnOk P w K mg base CX0 7 f fd ["_law_rule", "_law_lot_here", "_law_prices"] (sp__law_base C_Rule) := by
  refine F.ok sc__law_base (fun vs H Q E h => ?_) (fun cdv A outer s H vs Q E hr h => ?_)
  · obtain ⟨p, l, P, dx, m, ns, ps, rfl, _⟩ := h
    rfl
  · obtain ⟨p, l, P, dx, m, ns, ps, rfl, hp, hl, hm, nl, hP, pl, bp, no, q⟩ := h
    obtain ⟨f_Rule_worth, fd_Rule_worth, G_Rule_worth, M_Rule_worth, b_Rule_worth⟩ := c_Rule_worth
    refine ⟨_, (pss_cons (ps_try_as (i := 3) (Wout := fun _ _ _ _ => False) rfl rfl sc__law_base.nd rfl rfl ⟨rfl, by decide, Or.inl T.g_ShelfError⟩ takes0
      (fun W pn xe tk _ => (pss_one (ps_expr (pe_methT (pv 0) T.cl_Rule M_Rule_worth G_Rule_worth (hr.mono (by decide)) b_Rule_worth (fun σ => passAt tk σ) (pa_cons (pv 1) (pa_cons (pv 2) pa_nil))))))
      (fun a oe cls d pn hz hf => (pss_one (ps_ret (pe_callB (call_isY (K := K) hz hf) (by rfl) m_isinstance (by decide +kernel) (pa_cons (pv 3) (pa_cons (pe_bltn (v := .ty "ValueError") (by rfl) m_ValueError (by decide +kernel) rfl) pa_nil)))))))
      (pss_one (ps_ret pe_bl))), ?_⟩
    exact ⟨_, rfl, p, dx, _, rfl, hp, fR_worth _, _, rfl, _, rfl, p, l, P, dx, m, ns, ps, rfl, hp, hl, hm, nl, hP, pl, bp, fun e H' d s hd => ⟨true, T.exm_BadNumber_ShelfError, fun _ a0 na => ⟨.ref a0, rfl, C_BadNumber, T.ec_BadNumber, rfl, .inr ⟨d, _, rfl, hd⟩, .ty "ValueError", .type "ValueError", true, rfl, fun _ r => r, T.kit_BadNumber_ValueError, q _ s⟩, fun z => Bool.noConfusion z⟩, fun e k hk H' d s hd => ⟨true, T.exm_BadNumber_ShelfError, fun _ a0 na => ⟨.ref a0, rfl, C_BadNumber, T.ec_BadNumber, rfl, .inr ⟨d, _, rfl, hd⟩, .ty "ValueError", .type "ValueError", true, rfl, fun _ r => r, T.kit_BadNumber_ValueError, q _ s⟩, fun z => Bool.noConfusion z⟩, fun e hn bad H' s => ⟨true, T.exm_BadLot_ShelfError, fun _ a0 na => ⟨.ref a0, rfl, C_BadLot, T.ec_BadLot, rfl, .inl rfl, .ty "ValueError", .type "ValueError", true, rfl, fun _ r => r, T.kit_BadLot_ValueError, q _ s⟩, fun z => Bool.noConfusion z⟩, fun e hn ok => (by
      rw [no e hn] at ok
      cases ok)⟩
def sp__law_prices_place : Sp := fun vs H Q _ => ∃ (P : Addr) (ps : List Int) (m : Nat), vs = [.ref P, .int (m : Int)] ∧ H P = some (.lst (ps.map V.int)) ∧ m ≤ 900 ∧ Q (.int (placeOf ps m)) H
theorem ok__law_prices_place {f : Addr} {fd : FuncData} {C_Rule C_Ratio C_BadNumber C_TooMany C_ZeroBottom C_BadLot C_ShelfError : Addr} (F : Fun K "_law_prices_place" "_law_prices_place" s__law_prices_place f fd) (T : Txt K mg C_Rule C_Ratio C_BadNumber C_TooMany C_ZeroBottom C_BadLot C_ShelfError) (m_len : mg "len" = none) (m_range : mg "range" = none) : FnOk P w K mg base CX0 1 f fd ["_law_prices", "_law_many"] sp__law_prices_place := by
  refine F.ok sc__law_prices_place (fun vs H Q E h => ?_) (fun cdv A outer s H vs Q E hr h => ?_)
  · obtain ⟨P, ps, m, rfl, _⟩ := h
    rfl
  · obtain ⟨P, ps, m, rfl, hP, hm, q⟩ := h
    refine ⟨_, (pss_cons (ps_if (pt_cmpR op_ne (pe_callB call_len_seq (by rfl) m_len (by decide +kernel) (pa_cons (pv 0) pa_nil)) (pv 1) (nomark _)) (pss_one (ps_ret (pe_un un_neg pe_int))) pss_nil)
      (pss_cons (ps_for PassesOwn.never rfl (pi_range1 (by rfl) m_range (pa_cons (pv 1) pa_nil)) (pg_name (i := 2) sc__law_prices_place.nd rfl (Or.inl rfl))
      (pss_one (ps_if (pt_cmpR op_lt (pe_ix ix_list (pv 0) (pv 2) (fun _ _ => rfl)) pe_int (nomark _)) (pss_one (ps_ret (pv 2))) pss_nil)))
      (pss_one (ps_ret (pv 1))))), ?_⟩
    refine ⟨_, rfl, P, _, rfl, .inl (lst_l hP), _, rfl, rfl, _, rfl, ?_⟩
    rw [List.length_map]
    refine ite2N (fun e => ?_) (fun e => ?_)
    · have e : ¬ ps.length = m := fun z => e (by rw [z])
      rw [place_len e] at q
      exact ⟨1, rfl, q⟩
    have e : ps.length = m := by
      have := V.int.inj e
      omega
    refine ⟨_, rfl, _, rfl, by omega, by omega, ?_⟩
    rw [Int.toNat_natCast]
    refine for_range (lo := 0) (n := m) (fun i σ H2 => ∃ (y : Option V), σ = [some (.ref P), some (.int (m : Int)), y] ∧ H2 = H ∧ negAt ps 0 = negAt (ps.drop i) i) ⟨none, rfl, rfl, rfl⟩ ?_ ?_
    · rintro i σ H2 hi ⟨y, rfl, rfl, hb⟩
      have lt : i < ps.length := by omega
      have hin : ps[i]? = some ps[i] := List.getElem?_eq_getElem lt
      have hd : ps.drop i = ps[i] :: ps.drop (i + 1) := List.drop_eq_getElem_cons lt
      refine ⟨_, rfl, _, rfl, P, _, _, _, rfl, rfl, lst_l hP, at_of (Int.zero_add _) (int_at hin), _, _, rfl, rfl, _, rfl, ite2 (fun c => ?_) (fun c => ?_)⟩
      · have hk : negAt ps 0 = some i := by
          rw [hb, hd]
          exact if_pos (of_decide_eq_true c)
        rw [place_neg e hk] at q
        rw [Int.zero_add]
        exact ⟨_, rfl, q⟩
      · refine ⟨_, rfl, rfl, ?_⟩
        rw [hb, hd]
        exact if_neg fun z => c (decide_eq_true z)
    · rintro σ H2 ⟨y, rfl, rfl, hb⟩
      rw [← e, List.drop_length] at hb
      rw [place_ok e hb] at q
      exact ⟨_, rfl, q⟩
def sp__law_noughts (CR : Addr) : Sp := fun vs H Q _ => ∃ (L : Addr) (rs : List Addr) (m : Nat), vs = [.ref L, .int (m : Int)] ∧ H L = some (.lst (rs.map V.ref)) ∧ rs.length = m ∧ (∀ (i : Nat) (r : Addr), rs[i]? = some r → RatAt CR H r 0 1) ∧ Q (.bl true) H
theorem ok__law_noughts {f : Addr} {fd : FuncData} {C_Rule C_Ratio C_BadNumber C_TooMany C_ZeroBottom C_BadLot C_ShelfError : Addr} (F : Fun K "_law_noughts" "_law_noughts" s__law_noughts f fd) (T : Txt K mg C_Rule C_Ratio C_BadNumber C_TooMany C_ZeroBottom C_BadLot C_ShelfError) (m_isinstance : mg "isinstance" = none) (m_len : mg "len" = none) (m_list : mg "list" = none) (c__law_same : Cal P w K mg base CX0 2 "_law_same" ["_law_x", "_law_top", "_law_bottom"] (sp__law_same C_Ratio)) : FnOk P w K mg base CX0 3 f fd ["_law_row_here", "_law_many"] (sp__law_noughts C_Ratio) := by
  refine F.ok sc__law_noughts (fun vs H Q E h => ?_) (fun cdv A outer s H vs Q E hr h => ?_)
  · obtain ⟨L, rs, m, rfl, _⟩ := h
    rfl
  · obtain ⟨L, rs, m, rfl, hL, lr, hz, q⟩ := h
    obtain ⟨f__law_same, fd__law_same, G__law_same, m__law_same, k__law_same, b__law_same⟩ := c__law_same
    refine ⟨_, (pss_cons (ps_if (PW.pt (pw_or (pt_not (pt_val (pe_callB call_isi (by rfl) m_isinstance (by decide +kernel) (pa_cons (pv 0) (pa_cons (pe_bltn (v := .ty "list") (by rfl) m_list (by decide +kernel) rfl) pa_nil))))) (pw_or1 (pt_cmpR op_ne (pe_callB call_len_seq (by rfl) m_len (by decide +kernel) (pa_cons (pv 0) pa_nil)) (pv 1) (nomark _))))) (pss_one (ps_ret pe_bl)) pss_nil)
      (pss_cons (ps_for PassesOwn.never rfl (pi_list (pv 0)) (pg_name (i := 2) sc__law_noughts.nd rfl (Or.inl rfl))
      (pss_one (ps_if (pt_not (pt_val (pe_call G__law_same (hr.mono (by decide)) (by rfl) m__law_same k__law_same b__law_same .nil pass0 (pa_cons (pv 2) (pa_cons pe_int (pa_cons pe_int pa_nil)))))) (pss_one (ps_ret pe_bl)) pss_nil)))
      (pss_one (ps_ret pe_bl)))), ?_⟩
    refine ⟨_, rfl, .ref L, .ty "list", _, _, true, rfl, .ty "list", .base (.lst hL), kit_ty kL, true, rfl, iteF ?_⟩
    refine ⟨_, rfl, L, _, rfl, .inl (lst_l hL), _, rfl, rfl, _, rfl, iteNS (by rw [List.length_map, lr]) ?_⟩
    refine ⟨.ref L, rfl, L, rfl, ⟨_, lst_l hL⟩, for_list (K := K) (a := L) (xs := rs.map V.ref) (fun i σ H2 => ∃ (y : Option V), σ = [some (.ref L), some (.int (m : Int)), y] ∧ H2 = H) ⟨none, rfl, rfl⟩ (fun i σ H2 _ ⟨_, _, e⟩ => e ▸ lst_l hL) ?_ ?_⟩
    · rintro i x σ H2 hi ⟨y, rfl, rfl⟩
      rw [List.getElem?_map] at hi
      obtain ⟨r, er, rfl⟩ : ∃ r, rs[i]? = some r ∧ V.ref r = x := by
        cases e : rs[i]? with
        | none =>
          rw [e] at hi
          cases hi
        | some r =>
          rw [e] at hi
          exact ⟨r, rfl, Option.some.inj hi⟩
      exact ⟨_, rfl, r, 0, 1, 0, 1, rfl, hz i r er, by decide, rfl, (sm_of (b := 0) (n := 1) (by decide)).mul (sm_of (b := 1) (n := 1) (by decide)), (sm_of (b := 0) (n := 1) (by decide)).mul (sm_of (b := 1) (n := 1) (by decide)), true, rfl, iteF ⟨_, rfl, rfl⟩⟩
    · rintro σ H2 ⟨y, rfl, rfl⟩
      exact q
def sp__law_good_shares (C : Addr) : Sp := fun vs H Q _ => ∃ (p l dx : Addr) (m : Nat) (ns : List Int), vs = [.ref p, .ref l, .int (m : Int)] ∧ RAt C H p dx (m : Int) ∧ H l = some (.tup (ns.map V.int)) ∧ m ≤ 24 ∧ ns.length ≤ 1000 ∧ lotB ns (-1) m = true ∧ ∀ H', Same H H' → Q (.bl true) H' 
theorem ok__law_good_shares {f : Addr} {fd : FuncData} {C_Rule C_Ratio C_BadNumber C_TooMany C_ZeroBottom C_BadLot C_ShelfError : Addr} (F : Fun K "_law_good_shares" "_law_good_shares" s__law_good_shares f fd) (T : Txt K mg C_Rule C_Ratio C_BadNumber C_TooMany C_ZeroBottom C_BadLot C_ShelfError) (c_Rule_shares : CalM P w K mg base (L2.CX P w) 3 C_Rule "shares" ["self", "lot"] (sp_Rule_shares C_Rule C_Ratio C_BadLot)) (c_Rule_away : CalM P w K mg base (L2.CX P w) 6 C_Rule "away" ["self", "lot"] (sp_Rule_away C_Rule C_Ratio C_BadLot)) (c__law_shares : Cal P w K mg base CX0 4 "_law_shares" ["_law_rule", "_law_lot_here"] (sp__law_shares C_Rule C_Ratio)) (c__law_noughts : Cal P w K mg base CX0 3 "_law_noughts" ["_law_row_here", "_law_many"] (sp__law_noughts C_Ratio)) (c__law_same : Cal P w K mg base CX0 2 "_law_same" ["_law_x", "_law_top", "_law_bottom"] (sp__law_same C_Ratio)) : FnOk P w K mg base CX0 7 f fd ["_law_rule", "_law_lot_here", "_law_many"] (sp__law_good_shares C_Rule) := by
  refine F.ok sc__law_good_shares (fun vs H Q E h => ?_) (fun cdv A outer s H vs Q E hr h => ?_)
  · obtain ⟨p, l, dx, m, ns, rfl, _⟩ := h
    rfl
  · obtain ⟨p, l, dx, m, ns, rfl, hp, hl, hm, nl, ok, q⟩ := h
    obtain ⟨f_Rule_shares, fd_Rule_shares, G_Rule_shares, M_Rule_shares, b_Rule_shares⟩ := c_Rule_shares
    obtain ⟨f_Rule_away, fd_Rule_away, G_Rule_away, M_Rule_away, b_Rule_away⟩ := c_Rule_away
    obtain ⟨f__law_shares, fd__law_shares, G__law_shares, m__law_shares, k__law_shares, b__law_shares⟩ := c__law_shares
    obtain ⟨f__law_noughts, fd__law_noughts, G__law_noughts, m__law_noughts, k__law_noughts, b__law_noughts⟩ := c__law_noughts
    obtain ⟨f__law_same, fd__law_same, G__law_same, m__law_same, k__law_same, b__law_same⟩ := c__law_same
    refine ⟨_, (pss_cons (ps_set (i := 3) sc__law_good_shares.nd rfl (Or.inl rfl) (pe_call G__law_shares (hr.mono (by decide)) (by rfl) m__law_shares k__law_shares b__law_shares .nil pass0 (pa_cons (pv 0) (pa_cons (pv 1) pa_nil))))
      (pss_cons (ps_if (PW.pt (pw_or (pt_cmpR op_ne (pe_ix ix_tup (pv 3) pe_int (fun _ _ => rfl)) pe_str (nomark _)) (pw_or1 (pt_not (pt_val (pe_call G__law_noughts (hr.mono (by decide)) (by rfl) m__law_noughts k__law_noughts b__law_noughts .nil pass0 (pa_cons (pe_ix ix_tup (pv 3) pe_int (fun _ _ => rfl)) (pa_cons (pv 2) pa_nil)))))))) (pss_one (ps_ret pe_bl)) pss_nil)
      (pss_cons (ps_set (i := 4) sc__law_good_shares.nd rfl (Or.inl rfl) (pe_ix ix_tup (pv 3) pe_int (fun _ _ => rfl)))
      (pss_cons (ps_expr (pe_bm PySem.F.plainAttrs_list PySem.F.slot_list_append PySem.F.type_list_append mt_append (pv 4) (pa_cons pe_int pa_nil)))
      (Evl.pss_cut (ps_if (pt_cmpR op_gt (pv 2) pe_int (nomark _)) (pss_one (ps_asg pe_int (pg_sub (pv 4) pe_int set_list))) pss_nil)
      (pss_one (ps_ret (pe_and (pe_call G__law_noughts (hr.mono (by decide)) (by rfl) m__law_noughts k__law_noughts b__law_noughts .nil pass0 (pa_cons (pe_meth (pv 0) T.cl_Rule M_Rule_shares G_Rule_shares (hr.mono (by decide)) b_Rule_shares .nil passL (pa_cons (pv 1) pa_nil)) (pa_cons (pv 2) pa_nil))) (pe_one (pe_call G__law_same (hr.mono (by decide)) (by rfl) m__law_same k__law_same b__law_same .nil pass0 (pa_cons (pe_meth (pv 0) T.cl_Rule M_Rule_away G_Rule_away (hr.mono (by decide)) b_Rule_away .nil passL (pa_cons (pv 1) pa_nil)) (pa_cons pe_int (pa_cons pe_int pa_nil))))))))))))), ?_⟩
    have no : ∀ {P : Prop}, lotB ns (-1) m = false → P := fun {P} z => by
      rw [ok] at z
      cases z
    refine ⟨_, rfl, _, rfl, p, l, dx, m, ns, rfl, hp, hl, hm, nl, fun z => no z, fun _ H1 u L rs s1 nL hu hL lr hr => ?_⟩
    refine ⟨.ref u, rfl, u, _, _, _, rfl, rfl, tup_t hu, atI_nat (j := 0) rfl, rfl, _, rfl, iteNS rfl ?_⟩
    refine ⟨.ref u, rfl, u, _, _, _, rfl, rfl, tup_t hu, atI_nat (j := 1) rfl, _, rfl, L, rs, m, rfl, hL, lr, hr, true, rfl, iteF ?_⟩
    refine ⟨.ref u, rfl, u, _, _, _, rfl, rfl, tup_t hu, atI_nat (j := 1) rfl, ?_⟩
    refine ⟨.ref L, rfl, .inl ⟨rfl, _, lst_l hL⟩, L, _, _, rfl, rfl, hL, by rw [List.length_map]; exact small1000 (by omega), ?_⟩
    have s2 : Same H (upd H1 L (.lst (rs.map V.ref ++ [V.int 5]))) := same_mut s1 nL
    refine ⟨fun σ' H' => Same H H' ∧ σ' = [some (.ref p), some (.ref l), some (.int (m : Int)), some (.ref u), some (.ref L)], ?_, ?_⟩
    · refine ⟨_, rfl, _, _, rfl, rfl, _, rfl, ite2 (fun _ => ?_) (fun _ => ⟨s2, rfl⟩)⟩
      refine ⟨_, rfl, L, _, _, 0, rfl, rfl, upd_same, ?_, same_mut s2 nL, rfl⟩
      unfold ixN
      rw [if_pos (by decide), if_pos (by rw [List.length_append]; show (0 : Int) < _; simp)]
      rfl
    rintro σ' H3 ⟨s3, rfl⟩
    refine ⟨_, rfl, p, dx, _, rfl, hp.same s3, fR_shares _, _, rfl, p, l, dx, m, ns, rfl, hp.same s3, s3 _ _ hl, hm, nl, fun z => no z, fun _ H4 L2 rs2 s4 nL2 hL2 lr2 hr2 => ?_⟩
    refine ⟨_, rfl, L2, rs2, m, rfl, hL2, lr2, hr2, true, rfl, iteT ?_⟩
    have s34 := s3.trans s4
    refine ⟨_, rfl, p, dx, _, rfl, hp.same s34, fR_away _, _, rfl, p, l, dx, m, ns, rfl, hp.same s34, s34 _ _ hl, hm, nl, fun z => no z, fun _ H5 r s5 rr => ?_⟩
    exact ⟨r, 1, 1, 1, 1, rfl, rr, by decide, rfl, (sm_of (b := 1) (n := 1) (by decide)).mul (sm_of (b := 1) (n := 1) (by decide)), (sm_of (b := 1) (n := 1) (by decide)).mul (sm_of (b := 1) (n := 1) (by decide)), q H5 (s34.trans s5)⟩
def sp__law_good_refusal : Sp := fun vs H Q _ => ∃ (t : Addr) (x : V) (pl : Int), vs = [.ref t, .int pl] ∧ H t = some (.tup [.str "number", .str "prices", x, .bl false]) ∧ ((pl < 0 ∧ x = .non) ∨ (0 ≤ pl ∧ x = .int pl)) ∧ Q (.bl true) H
theorem ok__law_good_refusal {f : Addr} {fd : FuncData} {C_Rule C_Ratio C_BadNumber C_TooMany C_ZeroBottom C_BadLot C_ShelfError : Addr} (F : Fun K "_law_good_refusal" "_law_good_refusal" s__law_good_refusal f fd) (T : Txt K mg C_Rule C_Ratio C_BadNumber C_TooMany C_ZeroBottom C_BadLot C_ShelfError) (m_isinstance : mg "isinstance" = none) (m_str : mg "str" = none) (c__law_is_int : Cal P w K mg base CX0 1 "_law_is_int" ["_law_x"] sp__law_is_int) : FnOk P w K mg base CX0 2 f fd ["_law_told", "_law_place"] sp__law_good_refusal := by
  refine F.ok sc__law_good_refusal (fun vs H Q E h => ?_) (fun cdv A outer s H vs Q E hr h => ?_)
  · obtain ⟨t, x, pl, rfl, _⟩ := h
    rfl
  · obtain ⟨t, x, pl, rfl, ht, hx, q⟩ := h
    obtain ⟨f__law_is_int, fd__law_is_int, G__law_is_int, m__law_is_int, k__law_is_int, b__law_is_int⟩ := c__law_is_int
    refine ⟨_, (pss_cons (ps_if (PW.pt (pw_or (pt_cmpR op_ne (pe_ix ix_tup (pv 0) pe_int (fun _ _ => rfl)) pe_str (nomark _)) (pw_or (pt_not (pt_val (pe_callB call_isi (by rfl) m_isinstance (by decide +kernel) (pa_cons (pe_ix ix_tup (pv 0) pe_int (fun _ _ => rfl)) (pa_cons (pe_bltn (v := .ty "str") (by rfl) m_str (by decide +kernel) rfl) pa_nil))))) (pw_or (pt_cmpR op_ne (pe_ix ix_tup (pv 0) pe_int (fun _ _ => rfl)) pe_str (nomark _)) (pw_or1 (pt_cmpR op_notBl (pe_ix ix_tup (pv 0) pe_int (fun _ _ => rfl)) pe_bl (nomark _))))))) (pss_one (ps_ret pe_bl)) pss_nil)
      (pss_cons (ps_if (pt_cmpR op_lt (pv 1) pe_int (nomark _)) (pss_one (ps_ret (pe_cmpR op_isN (pe_ix ix_tup (pv 0) pe_int (fun _ _ => rfl)) pe_non (nomark _)))) pss_nil)
      (pss_one (ps_ret (pe_and (pe_call G__law_is_int (hr.mono (by decide)) (by rfl) m__law_is_int k__law_is_int b__law_is_int .nil pass0 (pa_cons (pe_ix ix_tup (pv 0) pe_int (fun _ _ => rfl)) pa_nil)) (pe_one (pe_cmpR op_eq (pe_ix ix_tup (pv 0) pe_int (fun _ _ => rfl)) (pv 1) (nomark _)))))))), ?_⟩
    refine ⟨.ref t, rfl, t, _, _, _, rfl, rfl, tup_t ht, atI_nat (j := 0) rfl, rfl, _, rfl, iteNS rfl ?_⟩
    refine ⟨.ref t, rfl, t, _, _, _, rfl, rfl, tup_t ht, atI_nat (j := 1) rfl, .str "prices", .ty "str", _, _, true, rfl, .ty "str", .base (.str _), kit_ty kSt, true, rfl, iteF ?_⟩
    refine ⟨.ref t, rfl, t, _, _, _, rfl, rfl, tup_t ht, atI_nat (j := 1) rfl, rfl, _, rfl, iteNS rfl ?_⟩
    refine ⟨.ref t, rfl, t, _, _, _, rfl, rfl, tup_t ht, atI_nat (j := 3) rfl, false, false, rfl, rfl, _, rfl, iteNS rfl ?_⟩
    rcases hx with ⟨c, rfl⟩ | ⟨c, rfl⟩
    · refine ⟨_, rfl, _, _, rfl, rfl, _, rfl, iteD c ?_⟩
      exact ⟨.ref t, rfl, t, _, _, _, rfl, rfl, tup_t ht, atI_nat (j := 2) rfl, rfl, q⟩
    · refine ⟨_, rfl, _, _, rfl, rfl, _, rfl, iteDF (by omega) ?_⟩
      refine ⟨.ref t, rfl, t, _, _, _, rfl, rfl, tup_t ht, atI_nat (j := 2) rfl, pl, rfl, true, rfl, iteT ?_⟩
      refine ⟨.ref t, rfl, t, _, _, _, rfl, rfl, tup_t ht, atI_nat (j := 2) rfl, _, rfl, rfl, ?_⟩
      rw [decide_eq_true rfl]
      exact q
def sp_law (K : PySem.W.Frag) : Sp := fun vs H Q _ => ∃ (a : Addr) (ns : List Int), vs = [.ref a] ∧ SqL K H a (ns.map V.int) ∧ ns.length ≤ 63 ∧ ∀ H', Q (.bl true) H'

theorem ok_law {f : Addr} {fd : FuncData} {C_Rule C_Ratio C_BadNumber C_TooMany C_ZeroBottom C_BadLot C_ShelfError : Addr} (F : Fun K "law" "law" s_law f fd) (T : Txt K mg C_Rule C_Ratio C_BadNumber C_TooMany C_ZeroBottom C_BadLot C_ShelfError) (m_int : mg "int" = none) (m_isinstance : mg "isinstance" = none) (m_list : mg "list" = none) (m_range : mg "range" = none) (m_tuple : mg "tuple" = none) (c_Rule_worth : CalM P w K mg base (L2.CX P w) 6 C_Rule "worth" ["self", "lot", "prices"] (sp_Rule_worth C_Rule C_Ratio C_BadLot C_BadNumber)) (c__law_cell : Cal P w K mg base CX0 1 "_law_cell" ["_law_script", "_law_place"] (sp__law_cell K)) (c__law_draws : Cal P w K mg base CX0 1 "_law_draws" ["_law_cell_here", "_law_sizes"] (sp__law_draws K)) (c__law_wide : Cal P w K mg base CX0 1 "_law_wide" ["_law_parts"] (sp__law_wide K)) (c__law_row : Cal P w K mg base CX0 2 "_law_row" ["_law_cell_here", "_law_count"] (sp__law_row K)) (c__law_is_int : Cal P w K mg base CX0 1 "_law_is_int" ["_law_x"] sp__law_is_int) (c__law_same : Cal P w K mg base CX0 2 "_law_same" ["_law_x", "_law_top", "_law_bottom"] (sp__law_same C_Ratio)) (c__law_is_lot : Cal P w K mg base CX0 1 "_law_is_lot" ["_law_lot_here", "_law_many"] sp__law_is_lot) (c__law_any_lot : Cal P w K mg base CX0 2 "_law_any_lot" ["_law_cell_here", "_law_many"] sp__law_any_lot) (c__law_any_prices : Cal P w K mg base CX0 3 "_law_any_prices" ["_law_cell_here", "_law_ways", "_law_many"] sp__law_any_prices) (c__law_made : Cal P w K mg base CX0 6 "_law_made" ["_law_many"] (sp__law_made C_Rule)) (c__law_made_base : Cal P w K mg base CX0 6 "_law_made_base" ["_law_many"] sp__law_made_base) (c__law_shares : Cal P w K mg base CX0 4 "_law_shares" ["_law_rule", "_law_lot_here"] (sp__law_shares C_Rule C_Ratio)) (c__law_away : Cal P w K mg base CX0 7 "_law_away" ["_law_rule", "_law_lot_here"] (sp__law_away C_Rule)) (c__law_worth : Cal P w K mg base CX0 7 "_law_worth" ["_law_rule", "_law_lot_here", "_law_prices"] (sp__law_worth C_Rule C_Ratio)) (c__law_base : Cal P w K mg base CX0 7 "_law_base" ["_law_rule", "_law_lot_here", "_law_prices"] (sp__law_base C_Rule)) (c__law_prices_place : Cal P w K mg base CX0 1 "_law_prices_place" ["_law_prices", "_law_many"] sp__law_prices_place) (c__law_good_shares : Cal P w K mg base CX0 7 "_law_good_shares" ["_law_rule", "_law_lot_here", "_law_many"] (sp__law_good_shares C_Rule)) (c__law_good_refusal : Cal P w K mg base CX0 2 "_law_good_refusal" ["_law_told", "_law_place"] sp__law_good_refusal) : FnOk P w K mg base CX0 8 f fd ["_law_script"] (sp_law K) := by
  refine F.ok sc_law (fun vs H Q E h => ?_) (fun cdv A outer s H vs Q E hr h => ?_)
  · obtain ⟨a, ns, rfl, _⟩ := h
    rfl
  · obtain ⟨a, ns, rfl, hS, hlen, q⟩ := h
    obtain ⟨f_Rule_worth, fd_Rule_worth, G_Rule_worth, M_Rule_worth, b_Rule_worth⟩ := c_Rule_worth
    obtain ⟨f__law_cell, fd__law_cell, G__law_cell, m__law_cell, k__law_cell, b__law_cell⟩ := c__law_cell
    obtain ⟨f__law_draws, fd__law_draws, G__law_draws, m__law_draws, k__law_draws, b__law_draws⟩ := c__law_draws
    obtain ⟨f__law_wide, fd__law_wide, G__law_wide, m__law_wide, k__law_wide, b__law_wide⟩ := c__law_wide
    obtain ⟨f__law_row, fd__law_row, G__law_row, m__law_row, k__law_row, b__law_row⟩ := c__law_row
    obtain ⟨f__law_is_int, fd__law_is_int, G__law_is_int, m__law_is_int, k__law_is_int, b__law_is_int⟩ := c__law_is_int
    obtain ⟨f__law_same, fd__law_same, G__law_same, m__law_same, k__law_same, b__law_same⟩ := c__law_same
    obtain ⟨f__law_is_lot, fd__law_is_lot, G__law_is_lot, m__law_is_lot, k__law_is_lot, b__law_is_lot⟩ := c__law_is_lot
    obtain ⟨f__law_any_lot, fd__law_any_lot, G__law_any_lot, m__law_any_lot, k__law_any_lot, b__law_any_lot⟩ := c__law_any_lot
    obtain ⟨f__law_any_prices, fd__law_any_prices, G__law_any_prices, m__law_any_prices, k__law_any_prices, b__law_any_prices⟩ := c__law_any_prices
    obtain ⟨f__law_made, fd__law_made, G__law_made, m__law_made, k__law_made, b__law_made⟩ := c__law_made
    obtain ⟨f__law_made_base, fd__law_made_base, G__law_made_base, m__law_made_base, k__law_made_base, b__law_made_base⟩ := c__law_made_base
    obtain ⟨f__law_shares, fd__law_shares, G__law_shares, m__law_shares, k__law_shares, b__law_shares⟩ := c__law_shares
    obtain ⟨f__law_away, fd__law_away, G__law_away, m__law_away, k__law_away, b__law_away⟩ := c__law_away
    obtain ⟨f__law_worth, fd__law_worth, G__law_worth, m__law_worth, k__law_worth, b__law_worth⟩ := c__law_worth
    obtain ⟨f__law_base, fd__law_base, G__law_base, m__law_base, k__law_base, b__law_base⟩ := c__law_base
    obtain ⟨f__law_prices_place, fd__law_prices_place, G__law_prices_place, m__law_prices_place, k__law_prices_place, b__law_prices_place⟩ := c__law_prices_place
    obtain ⟨f__law_good_shares, fd__law_good_shares, G__law_good_shares, m__law_good_shares, k__law_good_shares, b__law_good_shares⟩ := c__law_good_shares
    obtain ⟨f__law_good_refusal, fd__law_good_refusal, G__law_good_refusal, m__law_good_refusal, k__law_good_refusal, b__law_good_refusal⟩ := c__law_good_refusal
    refine ⟨_, (pss_cons (ps_set (i := 1) sc_law.nd rfl (Or.inl rfl) (pe_call G__law_draws (hr.mono (by decide)) (by rfl) m__law_draws k__law_draws b__law_draws .nil pass0 (pa_cons (pe_call G__law_cell (hr.mono (by decide)) (by rfl) m__law_cell k__law_cell b__law_cell .nil pass0 (pa_cons (pv 0) (pa_cons pe_int pa_nil))) (pa_cons (pe_lst (pa_cons pe_int (pa_cons pe_int pa_nil))) pa_nil))))
      (pss_cons (ps_set (i := 2) sc_law.nd rfl (Or.inl rfl) (pe_ix ix_list (pv 1) pe_int (fun _ _ => rfl)))
      (Evl.pss_cut (ps_if (pt_cmpR op_eq (pe_ix ix_list (pv 1) pe_int (fun _ _ => rfl)) pe_int (nomark _)) (pss_cons (ps_set (i := 3) sc_law.nd rfl (Or.inl rfl) (pe_call G__law_wide (hr.mono (by decide)) (by rfl) m__law_wide k__law_wide b__law_wide .nil pass0 (pa_cons (pe_call G__law_draws (hr.mono (by decide)) (by rfl) m__law_draws k__law_draws b__law_draws .nil pass0 (pa_cons (pe_call G__law_cell (hr.mono (by decide)) (by rfl) m__law_cell k__law_cell b__law_cell .nil pass0 (pa_cons (pv 0) (pa_cons pe_int pa_nil))) (pa_cons (pe_lc (own := [("_law_k", 16)]) (g := (gName 16)) (tt := tYes) rfl sc_law.nd (pi_range1 (by rfl) m_range (pa_cons pe_int pa_nil)) (blkOk_by (own := [("_law_k", 16)]) (N := ["_law_script", "_law_first", "_law_many", "_law_wide_here", "_law_told", "_law_made_here", "_law_rule", "_law_lot_here", "_law_prices", "_law_passed", "_law_good", "_law_shares_here", "_law_gone", "_law_place", "_law_every", "_law_thing", "_law_k"]) (sc := defScope s_law) (by decide +kernel)) (fun _ _ _ _ _ => (pg_name (i := 16) sc_law.nd rfl (Or.inl rfl))) (fun _ _ _ _ _ => pts_nil) (fun _ _ _ _ _ => (pe_op op_pow pe_int pe_int))) pa_nil))) pa_nil)))
      (pss_one (ps_set (i := 2) sc_law.nd rfl (Or.inl rfl) (pe_op op_add pe_int (pe_op op_mod (pe_callTy call_int1 (by rfl) m_int (by decide +kernel) (pa_cons (pv 3) pa_nil)) (pe_op op_sub (pe_op op_pow pe_int pe_int) pe_int)))))) pss_nil)
      (Evl.pss_cut (ps_if (pt_cmpR op_gt (pv 2) pe_int (nomark _)) (pss_cons (ps_set (i := 4) sc_law.nd rfl (Or.inl rfl) (pe_call G__law_made (hr.mono (by decide)) (by rfl) m__law_made k__law_made b__law_made .nil pass0 (pa_cons (pv 2) pa_nil)))
      (pss_cons (ps_if (PW.pt (pw_or (pt_cmpR op_ne (pe_ix ix_tup (pv 4) pe_int (fun _ _ => rfl)) pe_str (nomark _)) (pw_or (pt_not (pt_val (pe_call G__law_is_int (hr.mono (by decide)) (by rfl) m__law_is_int k__law_is_int b__law_is_int .nil pass0 (pa_cons (pe_ix ix_tup (pv 4) pe_int (fun _ _ => rfl)) pa_nil)))) (pw_or1 (pt_cmpR op_ne (pe_ix ix_tup (pv 4) pe_int (fun _ _ => rfl)) (pv 2) (nomark _)))))) (pss_one (ps_ret pe_bl)) pss_nil)
      (pss_cons (ps_if (PW.pt (pw_or (pt_not (pt_val (pe_call G__law_is_int (hr.mono (by decide)) (by rfl) m__law_is_int k__law_is_int b__law_is_int .nil pass0 (pa_cons (pe_ix ix_tup (pv 4) pe_int (fun _ _ => rfl)) pa_nil)))) (pw_or (pt_cmpR op_ne (pe_ix ix_tup (pv 4) pe_int (fun _ _ => rfl)) pe_int (nomark _)) (pw_or (pt_cmpR op_notBl (pe_ix ix_tup (pv 4) pe_int (fun _ _ => rfl)) pe_bl (nomark _)) (pw_or1 (pt_not (pt_val (pe_call G__law_made_base (hr.mono (by decide)) (by rfl) m__law_made_base k__law_made_base b__law_made_base .nil pass0 (pa_cons (pv 2) pa_nil))))))))) (pss_one (ps_ret pe_bl)) pss_nil)
      (pss_one (ps_set (i := 2) sc_law.nd rfl (Or.inl rfl) pe_int))))) pss_nil)
      (pss_cons (ps_set (i := 5) sc_law.nd rfl (Or.inl rfl) (pe_call G__law_made (hr.mono (by decide)) (by rfl) m__law_made k__law_made b__law_made .nil pass0 (pa_cons (pv 2) pa_nil)))
      (pss_cons (ps_if (PW.pt (pw_or (pt_cmpR op_ne (pe_ix ix_tup (pv 5) pe_int (fun _ _ => rfl)) pe_str (nomark _)) (pw_or1 (pt_not (pt_val (pe_callB call_isi (by rfl) m_isinstance (by decide +kernel) (pa_cons (pe_ix ix_tup (pv 5) pe_int (fun _ _ => rfl)) (pa_cons (pe_glob (v := .ref C_Rule) (by rfl) T.g_Rule rfl) pa_nil)))))))) (pss_one (ps_ret pe_bl)) pss_nil)
      (pss_cons (ps_set (i := 6) sc_law.nd rfl (Or.inl rfl) (pe_ix ix_tup (pv 5) pe_int (fun _ _ => rfl)))
      (pss_cons (ps_if (PW.pt (pw_or (pt_not (pt_val (pe_call G__law_is_int (hr.mono (by decide)) (by rfl) m__law_is_int k__law_is_int b__law_is_int .nil pass0 (pa_cons (pe_fld (pv 6) rfl) pa_nil)))) (pw_or1 (pt_cmpR op_ne (pe_fld (pv 6) rfl) (pv 2) (nomark _))))) (pss_one (ps_ret pe_bl)) pss_nil)
      (pss_cons (ps_set (i := 7) sc_law.nd rfl (Or.inl rfl) (pe_call G__law_any_lot (hr.mono (by decide)) (by rfl) m__law_any_lot k__law_any_lot b__law_any_lot .nil pass0 (pa_cons (pe_call G__law_cell (hr.mono (by decide)) (by rfl) m__law_cell k__law_cell b__law_cell .nil pass0 (pa_cons (pv 0) (pa_cons pe_int pa_nil))) (pa_cons (pv 2) pa_nil))))
      (pss_cons (ps_set (i := 8) sc_law.nd rfl (Or.inl rfl) (pe_call G__law_any_prices (hr.mono (by decide)) (by rfl) m__law_any_prices k__law_any_prices b__law_any_prices .nil pass0 (pa_cons (pe_call G__law_cell (hr.mono (by decide)) (by rfl) m__law_cell k__law_cell b__law_cell .nil pass0 (pa_cons (pv 0) (pa_cons pe_int pa_nil))) (pa_cons (pe_call G__law_draws (hr.mono (by decide)) (by rfl) m__law_draws k__law_draws b__law_draws .nil pass0 (pa_cons (pe_call G__law_cell (hr.mono (by decide)) (by rfl) m__law_cell k__law_cell b__law_cell .nil pass0 (pa_cons (pv 0) (pa_cons pe_int pa_nil))) (pa_cons (pe_lst (pa_cons pe_int (pa_cons pe_int (pa_cons (pe_op op_sub (pe_op op_pow pe_int pe_int) pe_int) pa_nil)))) pa_nil))) (pa_cons (pv 2) pa_nil)))))
      (pss_cons (ps_set (i := 9) sc_law.nd rfl (Or.inl rfl) (pe_callTy call_list_of (by rfl) m_list (by decide +kernel) (pa_cons (pv 8) pa_nil)))
      (Evl.pss_cut (ps_set (i := 4) sc_law.nd rfl (Or.inl rfl) (pe_call G__law_worth (hr.mono (by decide)) (by rfl) m__law_worth k__law_worth b__law_worth .nil pass0 (pa_cons (pv 6) (pa_cons (pv 7) (pa_cons (pv 9) pa_nil)))))
      (pss_cons (ps_if (pt_cmpR (op_neD hr.units) (pv 9) (pv 8) (nomark _)) (pss_one (ps_ret pe_bl)) pss_nil)
      (pss_cons (ps_set (i := 10) sc_law.nd rfl (Or.inl rfl) (pe_call G__law_is_lot (hr.mono (by decide)) (by rfl) m__law_is_lot k__law_is_lot b__law_is_lot .nil pass0 (pa_cons (pv 7) (pa_cons (pv 2) pa_nil))))
      (Evl.pss_cut (ps_if (PW.pt (pw_and (pt_val (pv 10)) (pw_and1 (pt_not (pt_val (pe_call G__law_good_shares (hr.mono (by decide)) (by rfl) m__law_good_shares k__law_good_shares b__law_good_shares .nil pass0 (pa_cons (pv 6) (pa_cons (pv 7) (pa_cons (pv 2) pa_nil))))))))) (pss_one (ps_ret pe_bl)) pss_nil)
      (Evl.pss_cut (ps_if (pt_not (pt_val (pv 10))) (pss_cons (ps_set (i := 11) sc_law.nd rfl (Or.inl rfl) (pe_call G__law_shares (hr.mono (by decide)) (by rfl) m__law_shares k__law_shares b__law_shares .nil pass0 (pa_cons (pv 6) (pa_cons (pv 7) pa_nil))))
      (pss_cons (ps_set (i := 12) sc_law.nd rfl (Or.inl rfl) (pe_call G__law_away (hr.mono (by decide)) (by rfl) m__law_away k__law_away b__law_away .nil pass0 (pa_cons (pv 6) (pa_cons (pv 7) pa_nil))))
      (pss_one (ps_if (PW.pt (pw_or (pt_cmpR op_ne (pe_ix ix_tup (pv 11) pe_int (fun _ _ => rfl)) pe_str (nomark _)) (pw_or (pt_cmpR op_notBl (pe_ix ix_tup (pv 11) pe_int (fun _ _ => rfl)) pe_bl (nomark _)) (pw_or (pt_cmpR op_ne (pe_ix ix_tup (pv 12) pe_int (fun _ _ => rfl)) pe_str (nomark _)) (pw_or1 (pt_cmpR op_notBl (pe_ix ix_tup (pv 12) pe_int (fun _ _ => rfl)) pe_bl (nomark _))))))) (pss_one (ps_ret pe_bl)) pss_nil)))) pss_nil)
      (pss_cons (ps_set (i := 13) sc_law.nd rfl (Or.inl rfl) (pe_call G__law_prices_place (hr.mono (by decide)) (by rfl) m__law_prices_place k__law_prices_place b__law_prices_place .nil pass0 (pa_cons (pv 8) (pa_cons (pv 2) pa_nil))))
      (Evl.pss_cut (ps_if (pt_cmpR op_lt (pv 13) (pv 2) (nomark _)) (pss_one (ps_if (PW.pt (pw_or (pt_not (pt_val (pe_call G__law_good_refusal (hr.mono (by decide)) (by rfl) m__law_good_refusal k__law_good_refusal b__law_good_refusal .nil pass0 (pa_cons (pv 4) (pa_cons (pv 13) pa_nil))))) (pw_or1 (pt_not (pt_val (pe_call G__law_base (hr.mono (by decide)) (by rfl) m__law_base k__law_base b__law_base .nil pass0 (pa_cons (pv 6) (pa_cons (pv 7) (pa_cons (pv 9) pa_nil))))))))) (pss_one (ps_ret pe_bl)) pss_nil)) (pss_one (ps_if (pt_val (pv 10)) (pss_one (ps_if (PW.pt (pw_or (pt_cmpR op_ne (pe_ix ix_tup (pv 4) pe_int (fun _ _ => rfl)) pe_str (nomark _)) (pw_or1 (pt_not (pt_val (pe_call G__law_same (hr.mono (by decide)) (by rfl) m__law_same k__law_same b__law_same .nil pass0 (pa_cons (pe_ix ix_tup (pv 4) pe_int (fun _ _ => rfl)) (pa_cons pe_int (pa_cons pe_int pa_nil))))))))) (pss_one (ps_ret pe_bl)) pss_nil)) (pss_one (ps_if (PW.pt (pw_or (pt_cmpR op_ne (pe_ix ix_tup (pv 4) pe_int (fun _ _ => rfl)) pe_str (nomark _)) (pw_or (pt_cmpR op_notBl (pe_ix ix_tup (pv 4) pe_int (fun _ _ => rfl)) pe_bl (nomark _)) (pw_or1 (pt_not (pt_val (pe_call G__law_base (hr.mono (by decide)) (by rfl) m__law_base k__law_base b__law_base .nil pass0 (pa_cons (pv 6) (pa_cons (pv 7) (pa_cons (pv 9) pa_nil)))))))))) (pss_one (ps_ret pe_bl)) pss_nil)))))
      (pss_cons (ps_set (i := 14) sc_law.nd rfl (Or.inl rfl) (pe_callTy call_tuple_of (by rfl) m_tuple (by decide +kernel) (pa_cons (pe_lc (own := [("_law_thing", 15)]) (g := (gName 15)) (tt := tYes) rfl sc_law.nd (pi_range1 (by rfl) m_range (pa_cons (pv 2) pa_nil)) (blkOk_by (own := [("_law_thing", 15)]) (N := ["_law_script", "_law_first", "_law_many", "_law_wide_here", "_law_told", "_law_made_here", "_law_rule", "_law_lot_here", "_law_prices", "_law_passed", "_law_good", "_law_shares_here", "_law_gone", "_law_place", "_law_every", "_law_thing", "_law_k"]) (sc := defScope s_law) (by decide +kernel)) (fun _ _ _ _ _ => (pg_name (i := 15) sc_law.nd rfl (Or.inl rfl))) (fun _ _ _ _ _ => pts_nil) (fun _ _ _ _ _ => (pv 15))) pa_nil)))
      (pss_cons (ps_if (pt_not (pt_val (pe_call G__law_good_shares (hr.mono (by decide)) (by rfl) m__law_good_shares k__law_good_shares b__law_good_shares .nil pass0 (pa_cons (pv 6) (pa_cons (pv 14) (pa_cons (pv 2) pa_nil)))))) (pss_one (ps_ret pe_bl)) pss_nil)
      (pss_one (ps_ret (pe_call G__law_same (hr.mono (by decide)) (by rfl) m__law_same k__law_same b__law_same .nil pass0 (pa_cons (pe_meth (pv 6) T.cl_Rule M_Rule_worth G_Rule_worth (hr.mono (by decide)) b_Rule_worth .nil passL (pa_cons (pv 14) (pa_cons (pe_call G__law_row (hr.mono (by decide)) (by rfl) m__law_row k__law_row b__law_row .nil pass0 (pa_cons (pe_call G__law_cell (hr.mono (by decide)) (by rfl) m__law_cell k__law_cell b__law_cell .nil pass0 (pa_cons (pv 0) (pa_cons pe_int pa_nil))) (pa_cons (pv 2) pa_nil))) pa_nil))) (pa_cons pe_int (pa_cons pe_int pa_nil)))))))))))))))))))))))))), ?_⟩
    refine ⟨.ref a, rfl, a, ns, 0, rfl, hS, fun c1 => ?_⟩
    refine ⟨(by show 2 ≤ sizeLine; decide), fun p1 np1 => ?_⟩
    refine ⟨c1, p1, [28, 8], rfl, lst_l upd_same, by decide, by decide, fun dsd1 H1 d1 wd1 s1 nd1 hd1 => ?_⟩
    have s1 : Same H H1 := (same_upd np1).trans s1
    have nd1 : H d1 = none := (same_upd np1).free nd1
    obtain ⟨x0, rx0, rfl, lx0, ux0, wd1⟩ := wd1.c
    obtain ⟨x1, rx1, rfl, lx1, ux1, wd1⟩ := wd1.c
    cases wd1.n
    have Ld1 : SqL K H1 d1 ([x0, x1].map V.int) := lst_l hd1
    refine ⟨.ref d1, rfl, d1, _, _, _, rfl, rfl, Ld1, atI_nat (j := 0) rfl, ?_⟩
    refine ⟨fun σ' H' => ∃ (M : Int) (y : Option V), 0 ≤ M ∧ Same H H' ∧ σ' = [some (.ref a), some (.ref d1), some (.int M), y, none, none, none, none, none, none, none, none, none, none, none, none, none], ?_, ?_⟩
    · refine ⟨.ref d1, rfl, d1, _, _, _, rfl, rfl, Ld1, atI_nat (j := 1) rfl, rfl, _, rfl, ite2 (fun _ => ?_) (fun _ => ⟨x0, none, lx0, s1, rfl⟩)⟩
      refine ⟨.ref a, rfl, a, ns, 4, rfl, s1.seq hS, fun c2 => ?_⟩
      refine ⟨4, rfl, by decide, by decide, fun D2 nD2 => lc_range (lo := 0) (n := 4) (fun i H2 => Same H1 H2 ∧ H2 D2 = some (.lst ((List.replicate i (1000000000000000 : Int)).map V.int))) ⟨same_upd nD2, upd_same⟩ ?_ ?_⟩
      · rintro i H2 hi ⟨s, hD⟩
        refine ⟨rfl, ?_⟩
        refine lc_yes ?_
        refine iteT ?_
        refine ⟨10, 15, rfl, rfl, ⟨by decide, by decide, by decide⟩, _, hD, ?_, same_mut s nD2, ?_⟩
        · rw [List.length_map, List.length_replicate]
          exact small1000 (by omega)
        · rw [upd_same, List.replicate_succ', ← snoc_int]
          rfl
      rintro H2 ⟨s2, h2⟩
      refine ⟨c2, D2, List.replicate 4 1000000000000000, rfl, lst_l h2, by decide, by decide, fun ps H3 d2 w2 s3 nd2 hd2 => ?_⟩
      refine ⟨d2, ps, rfl, lst_l hd2, fun v => ?_⟩
      refine ⟨_, rfl, .inl ⟨v, rfl, 10, 60, rfl, rfl, ⟨by decide, by decide, by decide⟩, _, _, rfl, rfl, _, _, rfl, rfl, (show (0 : Int) < 10 ^ 60 - 25 by decide), _, _, rfl, rfl, _, _, ?_, (s1.trans s2).trans s3, rfl⟩⟩
      have := Int.emod_nonneg v (show (10 : Int) ^ 60 - 25 ≠ 0 by decide)
      show 0 ≤ 25 + v % (10 ^ 60 - 25)
      omega
    rintro σ' H4 ⟨M, yw, M0, s4, rfl⟩
    refine ⟨fun σ' H' => ∃ (m : Nat) (y : Option V), m ≤ 24 ∧ Same H H' ∧ σ' = [some (.ref a), some (.ref d1), some (.int (m : Int)), yw, y, none, none, none, none, none, none, none, none, none, none, none, none], ?_, ?_⟩
    · refine ⟨_, rfl, _, _, rfl, rfl, _, rfl, ite2 (fun c => ?_) (fun c => ⟨M.toNat, none, ?_, s4, ?_⟩)⟩
      · have c := of_decide_eq_true c
        refine ⟨_, rfl, M, rfl, fun _ H5 u s5 hu => ?_, fun e => absurd c e⟩
        refine ⟨.ref u, rfl, u, _, _, _, rfl, rfl, tup_t hu, atI_nat (j := 0) rfl, rfl, _, rfl, iteNS rfl ?_⟩
        refine ⟨.ref u, rfl, u, _, _, _, rfl, rfl, tup_t hu, atI_nat (j := 1) rfl, M, rfl, true, rfl, iteF ?_⟩
        refine ⟨.ref u, rfl, u, _, _, _, rfl, rfl, tup_t hu, atI_nat (j := 1) rfl, _, rfl, rfl, _, rfl, iteNS rfl ?_⟩
        refine ⟨.ref u, rfl, u, _, _, _, rfl, rfl, tup_t hu, atI_nat (j := 2) rfl, 24, rfl, true, rfl, iteF ?_⟩
        refine ⟨.ref u, rfl, u, _, _, _, rfl, rfl, tup_t hu, atI_nat (j := 2) rfl, rfl, _, rfl, iteNS rfl ?_⟩
        refine ⟨.ref u, rfl, u, _, _, _, rfl, rfl, tup_t hu, atI_nat (j := 3) rfl, false, false, rfl, rfl, _, rfl, iteNS rfl ?_⟩
        refine ⟨_, rfl, M, rfl, c, fun H6 s6 => ⟨true, rfl, iteF ?_⟩⟩
        exact ⟨24, _, Nat.le_refl _, (s4.trans s5).trans s6, rfl⟩
      · have c : ¬ M > 24 := fun z => c (decide_eq_true z)
        omega
      · rw [Int.toNat_of_nonneg M0]
    rintro σ' H5 ⟨m, yt, hm, s5, rfl⟩
    refine ⟨_, rfl, (m : Int), rfl, fun e => absurd e (by omega), fun _ H6 u0 p dx s6 hu0 hp => ?_⟩
    refine ⟨.ref u0, rfl, u0, _, _, _, rfl, rfl, tup_t hu0, atI_nat (j := 0) rfl, rfl, _, rfl, iteNS rfl ?_⟩
    refine ⟨.ref u0, rfl, u0, _, _, _, rfl, rfl, tup_t hu0, atI_nat (j := 1) rfl, .ref p, .ref C_Rule, .ref C_Rule, .ref C_Rule, true, rfl, .own C_Rule, .base (.ins hp T.cl_Rule T.ha_Rule T.hnc T.htk T.hm_Rule), T.kit_Rule_Rule, true, rfl, iteF ?_⟩
    refine ⟨.ref u0, rfl, u0, _, _, _, rfl, rfl, tup_t hu0, atI_nat (j := 1) rfl, ?_⟩
    refine ⟨_, rfl, p, C_Rule, dx, _, _, rfl, hp, T.cl_Rule, T.n_Rule_many, fR_many _, (m : Int), rfl, true, rfl, iteF ?_⟩
    refine ⟨_, rfl, p, C_Rule, dx, _, _, rfl, hp, T.cl_Rule, T.n_Rule_many, fR_many _, _, rfl, rfl, _, rfl, iteNS rfl ?_⟩
    have sM := s5.trans s6
    clear s6 hu0
    refine ⟨.ref a, rfl, a, ns, 1, rfl, sM.seq hS, fun c9 => ?_⟩
    refine ⟨_, rfl, c9, m, rfl, hm, fun H6 l zs s6 hl lz => ?_⟩
    refine ⟨.ref a, rfl, a, ns, 2, rfl, (sM.trans s6).seq hS, fun c5 => ?_⟩
    refine ⟨.ref a, rfl, a, ns, 3, rfl, (sM.trans s6).seq hS, fun c6 => ?_⟩
    refine ⟨10, 18, rfl, rfl, ⟨by decide, by decide, by decide⟩, _, _, rfl, rfl, (by show 3 ≤ sizeLine; decide), fun p7 np7 => ?_⟩
    have s7 := same_upd (o := .lst ([6, 24, 10 ^ 18 - 1].map V.int)) np7
    refine ⟨c6, p7, [6, 24, 10 ^ 18 - 1], rfl, lst_l upd_same, by decide, by decide, fun ds7 H8 w8 wd8 s8 nd8 hd8 => ?_⟩
    have s8 : Same H6 H8 := s7.trans s8
    obtain ⟨v0, r0, rfl, lv0, uv0, wd8⟩ := wd8.c
    obtain ⟨v1, r1, rfl, lv1, uv1, wd8⟩ := wd8.c
    obtain ⟨v2, r2, rfl, lv2, uv2, wd8⟩ := wd8.c
    cases wd8.n
    refine ⟨_, rfl, c5, w8, m, v0, v1, v2, rfl, hd8, hm, lv2, by omega, fun H9 P ps s9 hP lp bp => ?_⟩
    refine ⟨.ref P, rfl, P, _, rfl, .inl (lst_l hP), fun lq nlq => ?_⟩
    have s10 := same_upd (o := .lst (ps.map V.int)) nlq
    have hlq : upd H9 lq (.lst (ps.map V.int)) lq = some (.lst (ps.map V.int)) := upd_same
    have s610 := (s8.trans s9).trans s10
    have hP10 := s10 _ _ hP
    generalize upd H9 lq (.lst (ps.map V.int)) = H10 at s10 hlq s610 hP10 ⊢
    have hl10 := s610 _ _ hl
    have hp10 := hp.same (s6.trans s610)
    have shp : ∀ vs : List Int, SeqAt.shaped (.list (vs.map PyData.int)) = true := fun vs => by
      unfold SeqAt.shaped
      rw [show (PyData.list (vs.map PyData.int)).canLay0 = true from lay_ints vs, depth_ints vs]
      rfl
    refine ⟨fun σ' H' => ∃ u : Addr, Same H10 H' ∧ ((placeOf ps m < (m : Int) ∧ ∃ x, H' u = some (.tup [.str "number", .str "prices", x, .bl false]) ∧ ((placeOf ps m < 0 ∧ x = .non) ∨ (0 ≤ placeOf ps m ∧ x = .int (placeOf ps m)))) ∨
      (goodP ps m ∧ lotB zs (-1) m = false ∧ H' u = some (.tup [.str "lot", .bl false])) ∨ (goodP ps m ∧ lotB zs (-1) m = true ∧ ∃ r, H' u = some (.tup [.str "told", .ref r]) ∧ RatAt C_Ratio H' r 0 1)) ∧ σ' = [some (.ref a), some (.ref d1), some (.int (m : Int)), yw, some (.ref u), some (.ref u0), some (.ref p), some (.ref l), some (.ref P), some (.ref lq), none, none, none, none, none, none, none], ?_, ?_⟩
    · refine ⟨_, rfl, _, rfl, _, rfl, p, l, lq, dx, m, zs, ps, rfl, hp10, hl10, hm, by omega, hlq, by omega, bp, fun e H' u s hu => ⟨u, s, .inl ?_, rfl⟩, fun e k hk H' u s hu => ⟨u, s, .inl ?_, rfl⟩, fun e hn bad H' u s hu => ⟨u, s, .inr (.inl ⟨⟨e, hn, place_ok e hn⟩, bad, hu⟩), rfl⟩, fun e hn okz H' u r s hu rr => ⟨u, s, .inr (.inr ⟨⟨e, hn, place_ok e hn⟩, okz, r, hu, rr⟩), rfl⟩⟩
      · have h := place_len e
        exact ⟨by omega, _, hu, .inl ⟨by omega, rfl⟩⟩
      · have h := place_neg e hk
        have lt := negAt_lt hk
        exact ⟨by omega, _, hu, .inr ⟨by omega, by rw [h]⟩⟩
    rintro σ' H11 ⟨u, s11, tell, rfl⟩
    have hP11 := s11 _ _ hP10
    have hlq11 := s11 _ _ hlq
    have hl11 := s11 _ _ hl10
    have hp11 := hp10.same s11
    refine ⟨_, rfl, _, rfl, _, _, dp_ints (lst_l hlq11), dp_ints (lst_l hP11), shp ps, shp ps, false, ?_, iteF ?_⟩
    · rw [SeqAt.eqv_refl _ (SeqAt.canLay_of_shaped (shp ps))]
      rfl
    refine ⟨_, rfl, _, rfl, l, zs, m, rfl, hl11, by omega, ?_⟩
    refine ⟨fun σ' H' => Same H11 H' ∧ σ' = [some (.ref a), some (.ref d1), some (.int (m : Int)), yw, some (.ref u), some (.ref u0), some (.ref p), some (.ref l), some (.ref P), some (.ref lq), some (.bl (lotB zs (-1) (m : Int))), none, none, none, none, none, none], ?_, ?_⟩
    · refine ⟨_, rfl, _, rfl, ite2 (fun g => ?_) (fun _ => ⟨Same.refl _, rfl⟩)⟩
      exact ⟨_, rfl, _, rfl, _, rfl, p, l, dx, m, zs, rfl, hp11, hl11, hm, by omega, g, fun H12 s12 => ⟨true, rfl, iteF ⟨s12, rfl⟩⟩⟩
    rintro σ' H12 ⟨s12, rfl⟩
    have hl12 := s12 _ _ hl11
    have hp12 := hp11.same s12
    refine ⟨fun σ' H' => ∃ (y1 y2 : Option V), Same H12 H' ∧ σ' = [some (.ref a), some (.ref d1), some (.int (m : Int)), yw, some (.ref u), some (.ref u0), some (.ref p), some (.ref l), some (.ref P), some (.ref lq), some (.bl (lotB zs (-1) (m : Int))), y1, y2, none, none, none, none], ?_, ?_⟩
    · refine ⟨_, rfl, _, rfl, ?_⟩
      cases g : lotB zs (-1) (m : Int) with
      | true => exact iteF ⟨none, none, Same.refl _, rfl⟩
      | false =>
        refine iteT ?_
        refine ⟨_, rfl, _, rfl, p, l, dx, m, zs, rfl, hp12, hl12, hm, by omega, fun _ H13 t1 s13 ht1 => ?_, fun ok => (by
          rw [g] at ok
          cases ok)⟩
        refine ⟨_, rfl, _, rfl, p, l, dx, m, zs, rfl, hp12.same s13, s13 _ _ hl12, hm, by omega, g, fun H14 t2 s14 ht2 => ?_⟩
        have ht1' := s14 _ _ ht1
        refine ⟨.ref t1, rfl, t1, _, _, _, rfl, rfl, tup_t ht1', atI_nat (j := 0) rfl, rfl, _, rfl, iteNS rfl ?_⟩
        refine ⟨.ref t1, rfl, t1, _, _, _, rfl, rfl, tup_t ht1', atI_nat (j := 1) rfl, false, false, rfl, rfl, _, rfl, iteNS rfl ?_⟩
        refine ⟨.ref t2, rfl, t2, _, _, _, rfl, rfl, tup_t ht2, atI_nat (j := 0) rfl, rfl, _, rfl, iteNS rfl ?_⟩
        exact ⟨.ref t2, rfl, t2, _, _, _, rfl, rfl, tup_t ht2, atI_nat (j := 1) rfl, false, false, rfl, rfl, _, rfl, iteNS rfl ⟨_, _, s13.trans s14, rfl⟩⟩
    rintro σ' H15 ⟨y1, y2, s15, rfl⟩
    have s1115 := s12.trans s15
    have hP15 := s1115 _ _ hP11
    have hlq15 := s1115 _ _ hlq11
    have hl15 := s1115 _ _ hl11
    have hp15 := hp11.same s1115
    refine ⟨_, rfl, _, rfl, P, ps, m, rfl, hP15, by omega, ?_⟩
    refine ⟨fun σ' H' => Same H15 H' ∧ σ' = [some (.ref a), some (.ref d1), some (.int (m : Int)), yw, some (.ref u), some (.ref u0), some (.ref p), some (.ref l), some (.ref P), some (.ref lq), some (.bl (lotB zs (-1) (m : Int))), y1, y2, some (.int (placeOf ps m)), none, none, none], ?_, ?_⟩
    · rcases tell with ⟨c, x, hu, hx⟩ | ⟨⟨e1, e2, e3⟩, c, hu⟩ | ⟨⟨e1, e2, e3⟩, c, r, hu, rr⟩
      · have no : ps.length = m → negAt ps 0 = none → lotB zs (-1) m = false := fun e hn => by
          have := place_ok (ps := ps) (m := m) e hn
          omega
        refine ⟨_, rfl, _, rfl, _, _, rfl, rfl, _, rfl, iteD c ?_⟩
        refine ⟨_, rfl, _, rfl, u, x, placeOf ps m, rfl, s1115 _ _ hu, hx, true, rfl, iteF ?_⟩
        exact ⟨_, rfl, _, rfl, _, rfl, p, l, lq, dx, m, zs, ps, rfl, hp15, hl15, hm, by omega, hlq15, by omega, bp, no, fun H16 s16 => ⟨true, rfl, iteF ⟨s16, rfl⟩⟩⟩
      · have hu' := s1115 _ _ hu
        refine ⟨_, rfl, _, rfl, _, _, rfl, rfl, _, rfl, iteDF (by omega) ?_⟩
        refine ⟨_, rfl, _, rfl, ?_⟩
        rw [c]
        refine iteF ?_
        refine ⟨.ref u, rfl, u, _, _, _, rfl, rfl, tup_t hu', atI_nat (j := 0) rfl, rfl, _, rfl, iteNS rfl ?_⟩
        refine ⟨.ref u, rfl, u, _, _, _, rfl, rfl, tup_t hu', atI_nat (j := 1) rfl, false, false, rfl, rfl, _, rfl, iteNS rfl ?_⟩
        exact ⟨_, rfl, _, rfl, _, rfl, p, l, lq, dx, m, zs, ps, rfl, hp15, hl15, hm, by omega, hlq15, by omega, bp, fun _ _ => c, fun H16 s16 => ⟨true, rfl, iteF ⟨s16, rfl⟩⟩⟩
      · have hu' := s1115 _ _ hu
        have rr' := rr.same s1115
        refine ⟨_, rfl, _, rfl, _, _, rfl, rfl, _, rfl, iteDF (by omega) ?_⟩
        refine ⟨_, rfl, _, rfl, ?_⟩
        rw [c]
        refine iteT ?_
        refine ⟨.ref u, rfl, u, _, _, _, rfl, rfl, tup_t hu', atI_nat (j := 0) rfl, rfl, _, rfl, iteNS rfl ?_⟩
        exact ⟨.ref u, rfl, u, _, _, _, rfl, rfl, tup_t hu', atI_nat (j := 1) rfl, r, 0, 1, 0, 1, rfl, rr', by decide, rfl, (sm_of (b := 0) (n := 1) (by decide)).mul (sm_of (b := 1) (n := 1) (by decide)), (sm_of (b := 0) (n := 1) (by decide)).mul (sm_of (b := 1) (n := 1) (by decide)), true, rfl, iteF ⟨Same.refl _, rfl⟩⟩
    rintro σ' H16 ⟨s16, rfl⟩
    have hp16 := hp15.same s16
    refine ⟨_, rfl, _, rfl, by omega, by omega, ?_⟩
    rw [Int.toNat_natCast]
    refine fun D nD => lc_range (lo := 0) (n := m) (fun i H3 => ∃ os : List Int, Same H16 H3 ∧ H3 D = some (.lst (os.map V.int)) ∧ lotB os (-1) i = true ∧ os.length ≤ i) ⟨[], same_upd nD, upd_same, rfl, Nat.le_refl _⟩ ?_ ?_
    · rintro i H3 hi ⟨os, s, hD, lo, lt⟩
      refine ⟨rfl, ?_⟩
      refine lc_yes ?_
      refine iteT ?_
      refine ⟨_, rfl, _, hD, ?_, os ++ [0 + (i : Int)], same_mut s nD, by rw [upd_same, ← snoc_int], ?_, ?_⟩
      · rw [List.length_map]
        exact small1000 (by omega)
      · rw [Int.zero_add]
        exact lotB_snoc lo (by omega)
      · rw [List.length_append]
        exact Nat.add_le_add_right lt 1
    rintro H17 ⟨os, s17, hD, ok2, lo2⟩
    refine ⟨D, _, rfl, .inl ⟨lst_l hD, fun o no => ?_⟩⟩
    have s18 := same_upd (o := .tup (os.map V.int)) no
    have ho : upd H17 o (.tup (os.map V.int)) o = some (.tup (os.map V.int)) := upd_same
    have s1618 := s17.trans s18
    generalize upd H17 o (.tup (os.map V.int)) = H18 at s18 ho s1618 ⊢
    have hp18 := hp16.same s1618
    have sZ : Same H H18 := (((((sM.trans s6).trans s610).trans s11).trans s1115).trans s16).trans s1618
    refine ⟨_, rfl, _, rfl, _, rfl, p, o, dx, m, os, rfl, hp18, ho, hm, by omega, ok2, fun H19 s19 => ⟨true, rfl, iteF ?_⟩⟩
    have hp19 := hp18.same s19
    refine ⟨_, rfl, p, dx, _, rfl, hp19, fR_worth _, _, rfl, .ref a, rfl, a, ns, 2, rfl, (sZ.trans s19).seq hS, fun c7 => ⟨_, rfl, c7, m, rfl, by omega, fun rs H20 P2 lr br s20 nP2 hP2 => ?_⟩⟩
    refine ⟨p, o, P2, dx, m, os, rs, rfl, hp19.same s20, s20 _ _ (s19 _ _ ho), hm, by omega, hP2, by omega, fun v hv => by have := br v hv; omega, fun e => absurd lr e, fun e k hk => (by
      rw [negAt_none fun v hv => (br v hv).1] at hk
      cases hk), fun e hn bad => (by
      rw [ok2] at bad
      cases bad), fun e hn okz H21 r s21 rr => ?_⟩
    exact ⟨r, 0, 1, 0, 1, rfl, rr, by decide, rfl, (sm_of (b := 0) (n := 1) (by decide)).mul (sm_of (b := 1) (n := 1) (by decide)), (sm_of (b := 0) (n := 1) (by decide)).mul (sm_of (b := 1) (n := 1) (by decide)), q _⟩

end
/-! ### what the top has written; the law's own head -/
theorem all_mk {l : PySem.W.OpenLaw} {w : World} {K : PySem.W.Frag} {h : Heap} {mg : Str → Option Value} {fa f1 f2 f3 f4 f5 f6 f7 f8 f9 f10 f11 f12 f13 f14 f15 f16 f17 f18 f19 f20 f21 f22 f23 f24 f25 f26 f27 f28 f29 f30 f31 f32 f33 f34 f35 f36 f37 f38 C_Rule C_Ratio C_BadNumber C_TooMany C_ZeroBottom C_BadLot C_ShelfError fx_rf_Ratio_add fx_of_Ratio_add fx_rf_Ratio_sub fx_of_Ratio_sub fx_rf_Ratio_mul fx_of_Ratio_mul : Addr} (X : K.In h) (G : h.Ns mainGlobals mg) (hfa : mg "law" = some (.ref fa))
    {od1 an1 od2 an2 od3 an3 od4 an4 od5 an5 od6 an6 od7 an7 od8 an8 od9 an9 od10 an10 od11 an11 od12 an12 od13 an13 od14 an14 od15 an15 od16 an16 od17 an17 od18 an18 od19 an19 od20 an20 od21 an21 od22 an22 od23 an23 od24 an24 od25 an25 od26 an26 od27 an27 od28 an28 od29 an29 od30 an30 od31 an31 od32 an32 od33 an33 od34 an34 od35 an35 od36 an36 od37 an37 od38 an38 : Option Addr} {sl1 sl2 sl3 sl4 sl5 sl6 sl7 sl8 sl9 sl10 sl11 sl12 sl13 sl14 sl15 sl16 sl17 sl18 sl19 sl20 sl21 sl22 sl23 sl24 sl25 sl26 sl27 sl28 sl29 sl30 sl31 sl32 sl33 sl34 sl35 sl36 sl37 sl38 : Array (Option Value)} {oc1 kV1 dc1 pm1 cd1 ct1 oc2 kV2 dc2 pm2 cd2 ct2 oc3 kV3 dc3 pm3 cd3 ct3 oc4 kV4 dc4 pm4 cd4 ct4 oc5 kV5 dc5 pm5 cd5 ct5 oc6 kV6 dc6 pm6 cd6 ct6 oc7 kV7 dc7 pm7 cd7 ct7 oc8 kV8 dc8 pm8 cd8 ct8 oc9 kV9 dc9 pm9 cd9 ct9 oc10 kV10 dc10 pm10 cd10 ct10 oc11 kV11 dc11 pm11 cd11 ct11 oc12 kV12 dc12 pm12 cd12 ct12 oc13 kV13 dc13 pm13 cd13 ct13 oc14 kV14 dc14 pm14 cd14 ct14 oc15 kV15 dc15 pm15 cd15 ct15 oc16 kV16 dc16 pm16 cd16 ct16 oc17 kV17 dc17 pm17 cd17 ct17 oc18 kV18 dc18 pm18 cd18 ct18 oc19 kV19 dc19 pm19 cd19 ct19 oc20 kV20 dc20 pm20 cd20 ct20 oc21 kV21 dc21 pm21 cd21 ct21 oc22 kV22 dc22 pm22 cd22 ct22 oc23 kV23 dc23 pm23 cd23 ct23 oc24 kV24 dc24 pm24 cd24 ct24 oc25 kV25 dc25 pm25 cd25 ct25 oc26 kV26 dc26 pm26 cd26 ct26 oc27 kV27 dc27 pm27 cd27 ct27 oc28 kV28 dc28 pm28 cd28 ct28 oc29 kV29 dc29 pm29 cd29 ct29 oc30 kV30 dc30 pm30 cd30 ct30 oc31 kV31 dc31 pm31 cd31 ct31 oc32 kV32 dc32 pm32 cd32 ct32 oc33 kV33 dc33 pm33 cd33 ct33 oc34 kV34 dc34 pm34 cd34 ct34 oc35 kV35 dc35 pm35 cd35 ct35 oc36 kV36 dc36 pm36 cd36 ct36 oc37 kV37 dc37 pm37 cd37 ct37 oc38 kV38 dc38 pm38 cd38 ct38 : Value} {tk_MOST_THINGS : Tok} {tT9 : Addr} {oT9 : Value} {dT9 : Option Addr} {nT9 : Nat} {sT9 : Array (Option Value)} {tq9_0 : Tok}
    (a_Rule : PySem.W.nsIn K mainGlobals "Rule" = some (some (.ref C_Rule)))
    (kc_Rule : PySem.W.keepIn K (.ref C_Rule) = true)
    (hd_Rule : PySem.W.hasDictIn K C_Rule = true)
    (ha_Rule : PySem.W.findIn K (.ref C_Rule) "__class__" = some (some (.builtin "object.__class__")))
    (hm_Rule : PySem.W.mroIn K C_Rule (.type "object") = some true)
    (pg_Rule : PySem.W.plainGet K C_Rule Str.empty = true)
    (po_Rule : PySem.W.plainOver K C_Rule = true)
    (sa_Rule : PySem.W.findIn K (.ref C_Rule) "__setattr__" = some (some (.builtin "object.__setattr__")))
    (mk_Rule : PySem.W.makesIn K C_Rule = true)
    (n_Rule_many : PySem.W.findIn K (.ref C_Rule) "many" = some none)
    (a_Ratio : PySem.W.nsIn K mainGlobals "Ratio" = some (some (.ref C_Ratio)))
    (kc_Ratio : PySem.W.keepIn K (.ref C_Ratio) = true)
    (hd_Ratio : PySem.W.hasDictIn K C_Ratio = true)
    (ha_Ratio : PySem.W.findIn K (.ref C_Ratio) "__class__" = some (some (.builtin "object.__class__")))
    (hm_Ratio : PySem.W.mroIn K C_Ratio (.type "object") = some true)
    (pg_Ratio : PySem.W.plainGet K C_Ratio Str.empty = true)
    (po_Ratio : PySem.W.plainOver K C_Ratio = true)
    (sa_Ratio : PySem.W.findIn K (.ref C_Ratio) "__setattr__" = some (some (.builtin "object.__setattr__")))
    (mk_Ratio : PySem.W.makesIn K C_Ratio = true)
    (n_Ratio_top : PySem.W.findIn K (.ref C_Ratio) "top" = some none)
    (n_Ratio_bottom : PySem.W.findIn K (.ref C_Ratio) "bottom" = some none)
    (ss_Ratio : PySem.W.subIn K (.ref C_Ratio) (.type "str") = some false)
    (sb_Ratio : PySem.W.subIn K (.ref C_Ratio) (.type "bytes") = some false)
    (sy_Ratio : PySem.W.subIn K (.ref C_Ratio) (.type "bytearray") = some false)
    (sf_Ratio : PySem.W.selfFirst K C_Ratio = true)
    (si_Ratio : PySem.W.subIn K (.type "int") (.ref C_Ratio) = some false)
    (sr_Ratio : PySem.W.subIn K (.ref C_Ratio) (.type "int") = some false)
    (rf_Ratio_add : PySem.W.findIn K (.ref C_Ratio) "__radd__" = some (some (.ref fx_rf_Ratio_add)))
    (of_Ratio_add : PySem.W.findIn K (.ref C_Ratio) "__add__" = some (some (.ref fx_of_Ratio_add)))
    (inta_add : PySem.W.findIn K (.type "int") "__add__" = some (some (.builtin "int.__add__")))
    (intr_add : PySem.W.findIn K (.type "int") "__radd__" = some (some (.builtin "int.__radd__")))
    (rf_Ratio_sub : PySem.W.findIn K (.ref C_Ratio) "__rsub__" = some (some (.ref fx_rf_Ratio_sub)))
    (of_Ratio_sub : PySem.W.findIn K (.ref C_Ratio) "__sub__" = some (some (.ref fx_of_Ratio_sub)))
    (inta_sub : PySem.W.findIn K (.type "int") "__sub__" = some (some (.builtin "int.__sub__")))
    (intr_sub : PySem.W.findIn K (.type "int") "__rsub__" = some (some (.builtin "int.__rsub__")))
    (rf_Ratio_mul : PySem.W.findIn K (.ref C_Ratio) "__rmul__" = some (some (.ref fx_rf_Ratio_mul)))
    (of_Ratio_mul : PySem.W.findIn K (.ref C_Ratio) "__mul__" = some (some (.ref fx_of_Ratio_mul)))
    (inta_mul : PySem.W.findIn K (.type "int") "__mul__" = some (some (.builtin "int.__mul__")))
    (intr_mul : PySem.W.findIn K (.type "int") "__rmul__" = some (some (.builtin "int.__rmul__")))
    (a_BadNumber : PySem.W.nsIn K mainGlobals "BadNumber" = some (some (.ref C_BadNumber)))
    (kc_BadNumber : PySem.W.keepIn K (.ref C_BadNumber) = true)
    (hd_BadNumber : PySem.W.hasDictIn K C_BadNumber = true)
    (ha_BadNumber : PySem.W.findIn K (.ref C_BadNumber) "__class__" = some (some (.builtin "object.__class__")))
    (hm_BadNumber : PySem.W.mroIn K C_BadNumber (.type "object") = some true)
    (b_BadNumber : PySem.W.subIn K (.ref C_BadNumber) (.type "BaseException") = some true)
    (t_BadNumber : PySem.W.typeIn K (.ref C_BadNumber) = some (.type "type"))
    (ga_BadNumber : PySem.W.findIn K (.ref C_BadNumber) "__getattribute__" = some (some (.builtin "BaseException.__getattribute__")))
    (gg_BadNumber : PySem.W.findIn K (.ref C_BadNumber) "__getattr__" = some none)
    (ol_BadNumber : K.lookup C_BadNumber = some (excClassObj nm_BadNumber q_BadNumber C_BadNumber N_BadNumber bs_BadNumber bm_BadNumber true sn_BadNumber sub_BadNumber ab_BadNumber col_BadNumber dd_BadNumber k0_BadNumber k1_BadNumber k2_BadNumber k3_BadNumber k5_BadNumber "ValueError.__new__"))
    (or_BadNumber : PySem.HandSPX.refsVE bm_BadNumber = true)
    (sa_BadNumber : PySem.W.findIn K (.ref C_BadNumber) "__setattr__" = some (some (.builtin "object.__setattr__")))
    (n_BadNumber_what : PySem.W.findIn K (.ref C_BadNumber) "what" = some none)
    (n_BadNumber_at : PySem.W.findIn K (.ref C_BadNumber) "at" = some none)
    (a_TooMany : PySem.W.nsIn K mainGlobals "TooMany" = some (some (.ref C_TooMany)))
    (kc_TooMany : PySem.W.keepIn K (.ref C_TooMany) = true)
    (hd_TooMany : PySem.W.hasDictIn K C_TooMany = true)
    (ha_TooMany : PySem.W.findIn K (.ref C_TooMany) "__class__" = some (some (.builtin "object.__class__")))
    (hm_TooMany : PySem.W.mroIn K C_TooMany (.type "object") = some true)
    (b_TooMany : PySem.W.subIn K (.ref C_TooMany) (.type "BaseException") = some true)
    (t_TooMany : PySem.W.typeIn K (.ref C_TooMany) = some (.type "type"))
    (ga_TooMany : PySem.W.findIn K (.ref C_TooMany) "__getattribute__" = some (some (.builtin "BaseException.__getattribute__")))
    (gg_TooMany : PySem.W.findIn K (.ref C_TooMany) "__getattr__" = some none)
    (ol_TooMany : K.lookup C_TooMany = some (excClassObj nm_TooMany q_TooMany C_TooMany N_TooMany bs_TooMany bm_TooMany true sn_TooMany sub_TooMany ab_TooMany col_TooMany dd_TooMany k0_TooMany k1_TooMany k2_TooMany k3_TooMany k5_TooMany "ValueError.__new__"))
    (or_TooMany : PySem.HandSPX.refsVE bm_TooMany = true)
    (sa_TooMany : PySem.W.findIn K (.ref C_TooMany) "__setattr__" = some (some (.builtin "object.__setattr__")))
    (n_TooMany_many : PySem.W.findIn K (.ref C_TooMany) "many" = some none)
    (n_TooMany_most : PySem.W.findIn K (.ref C_TooMany) "most" = some none)
    (a_ZeroBottom : PySem.W.nsIn K mainGlobals "ZeroBottom" = some (some (.ref C_ZeroBottom)))
    (kc_ZeroBottom : PySem.W.keepIn K (.ref C_ZeroBottom) = true)
    (hd_ZeroBottom : PySem.W.hasDictIn K C_ZeroBottom = true)
    (ha_ZeroBottom : PySem.W.findIn K (.ref C_ZeroBottom) "__class__" = some (some (.builtin "object.__class__")))
    (hm_ZeroBottom : PySem.W.mroIn K C_ZeroBottom (.type "object") = some true)
    (b_ZeroBottom : PySem.W.subIn K (.ref C_ZeroBottom) (.type "BaseException") = some true)
    (t_ZeroBottom : PySem.W.typeIn K (.ref C_ZeroBottom) = some (.type "type"))
    (ga_ZeroBottom : PySem.W.findIn K (.ref C_ZeroBottom) "__getattribute__" = some (some (.builtin "BaseException.__getattribute__")))
    (gg_ZeroBottom : PySem.W.findIn K (.ref C_ZeroBottom) "__getattr__" = some none)
    (x_ZeroBottom : PySem.W.excIn K C_ZeroBottom [.type "ValueError", .type "Exception", .type "BaseException", .type "object"] "ValueError.__new__" = true)
    (a_BadLot : PySem.W.nsIn K mainGlobals "BadLot" = some (some (.ref C_BadLot)))
    (kc_BadLot : PySem.W.keepIn K (.ref C_BadLot) = true)
    (hd_BadLot : PySem.W.hasDictIn K C_BadLot = true)
    (ha_BadLot : PySem.W.findIn K (.ref C_BadLot) "__class__" = some (some (.builtin "object.__class__")))
    (hm_BadLot : PySem.W.mroIn K C_BadLot (.type "object") = some true)
    (b_BadLot : PySem.W.subIn K (.ref C_BadLot) (.type "BaseException") = some true)
    (t_BadLot : PySem.W.typeIn K (.ref C_BadLot) = some (.type "type"))
    (ga_BadLot : PySem.W.findIn K (.ref C_BadLot) "__getattribute__" = some (some (.builtin "BaseException.__getattribute__")))
    (gg_BadLot : PySem.W.findIn K (.ref C_BadLot) "__getattr__" = some none)
    (x_BadLot : PySem.W.excIn K C_BadLot [.type "ValueError", .type "Exception", .type "BaseException", .type "object"] "ValueError.__new__" = true)
    (a_ShelfError : PySem.W.nsIn K mainGlobals "ShelfError" = some (some (.ref C_ShelfError)))
    (kc_ShelfError : PySem.W.keepIn K (.ref C_ShelfError) = true)
    (hd_ShelfError : PySem.W.hasDictIn K C_ShelfError = true)
    (ha_ShelfError : PySem.W.findIn K (.ref C_ShelfError) "__class__" = some (some (.builtin "object.__class__")))
    (hm_ShelfError : PySem.W.mroIn K C_ShelfError (.type "object") = some true)
    (b_ShelfError : PySem.W.subIn K (.ref C_ShelfError) (.type "BaseException") = some true)
    (t_ShelfError : PySem.W.typeIn K (.ref C_ShelfError) = some (.type "type"))
    (ga_ShelfError : PySem.W.findIn K (.ref C_ShelfError) "__getattribute__" = some (some (.builtin "BaseException.__getattribute__")))
    (gg_ShelfError : PySem.W.findIn K (.ref C_ShelfError) "__getattr__" = some none)
    (hnc : PySem.W.specialIn K (.builtin "object.__class__") "__get__" = some (some (.builtin "getset_descriptor.__get__")))
    (htk : PySem.W.takesIn K (.builtin "object.__class__") = some true)
    (sub_BadNumber_BadNumber : PySem.W.subIn K (.ref C_BadNumber) (.ref C_BadNumber) = some true)
    (sub_BadLot_BadNumber : PySem.W.subIn K (.ref C_BadLot) (.ref C_BadNumber) = some false)
    (sub_BadLot_BadLot : PySem.W.subIn K (.ref C_BadLot) (.ref C_BadLot) = some true)
    (sub_BadNumber_ShelfError : PySem.W.subIn K (.ref C_BadNumber) (.ref C_ShelfError) = some true)
    (sub_BadLot_ShelfError : PySem.W.subIn K (.ref C_BadLot) (.ref C_ShelfError) = some true)
    (sub_TooMany_TooMany : PySem.W.subIn K (.ref C_TooMany) (.ref C_TooMany) = some true)
    (sub_TooMany_ShelfError : PySem.W.subIn K (.ref C_TooMany) (.ref C_ShelfError) = some true)
    (kit_Ratio_Ratio : PySem.W.kitOne K (.ref C_Ratio) (.ref C_Ratio) = some true)
    (kit_int_Ratio : PySem.W.kitOne K (.type "int") (.ref C_Ratio) = some false)
    (kit_Rule_Rule : PySem.W.kitOne K (.ref C_Rule) (.ref C_Rule) = some true)
    (kit_BadNumber_BadLot : PySem.W.kitOne K (.ref C_BadNumber) (.ref C_BadLot) = some false)
    (kit_BadLot_BadNumber : PySem.W.kitOne K (.ref C_BadLot) (.ref C_BadNumber) = some false)
    (kit_BadNumber_ValueError : PySem.W.kitOne K (.ref C_BadNumber) (.type "ValueError") = some true)
    (kit_BadLot_ValueError : PySem.W.kitOne K (.ref C_BadLot) (.type "ValueError") = some true)
    (kit_TooMany_ValueError : PySem.W.kitOne K (.ref C_TooMany) (.type "ValueError") = some true)
    (kit_TooMany_TooMany : PySem.W.kitOne K (.ref C_TooMany) (.ref C_TooMany) = some true)
    (kit_TooMany_BadNumber : PySem.W.kitOne K (.ref C_TooMany) (.ref C_BadNumber) = some false)
    (a_gcd : PySem.W.nsIn K mainGlobals "gcd" = some (some (.builtin "math.gcd")))
    (a_MOST_THINGS : PySem.W.nsIn K mainGlobals "MOST_THINGS" = some (some (.int 24 tk_MOST_THINGS)))
    (a1 : PySem.W.findIn K (.ref C_BadNumber) "__init__" = some (some (.ref f1))) (i1 : PySem.W.isFn K (.ref f1) = true)
    (l1 : K.lookup f1 = some ⟨oc1, od1, .func (PySem.W.fnOf "__init__" "BadNumber.__init__" (defArgs s_BadNumber___init__) (defBody s_BadNumber___init__) (defScope s_BadNumber___init__) .none kV1 dc1 pm1 an1 cd1 ct1), sl1⟩)
    (c1 : PySem.W.codeIn K cd1 "BadNumber.__init__" = true) (k1 : PySem.W.keepIn K (.ref f1) = true)
    (a2 : PySem.W.findIn K (.ref C_TooMany) "__init__" = some (some (.ref f2))) (i2 : PySem.W.isFn K (.ref f2) = true)
    (l2 : K.lookup f2 = some ⟨oc2, od2, .func (PySem.W.fnOf "__init__" "TooMany.__init__" (defArgs s_TooMany___init__) (defBody s_TooMany___init__) (defScope s_TooMany___init__) .none kV2 dc2 pm2 an2 cd2 ct2), sl2⟩)
    (c2 : PySem.W.codeIn K cd2 "TooMany.__init__" = true) (k2 : PySem.W.keepIn K (.ref f2) = true)
    (a3 : PySem.W.nsIn K mainGlobals "check_many" = some (some (.ref f3)))
    (l3 : K.lookup f3 = some ⟨oc3, od3, .func (PySem.W.fnOf "check_many" "check_many" (defArgs s_check_many) (defBody s_check_many) (defScope s_check_many) .none kV3 dc3 pm3 an3 cd3 ct3), sl3⟩)
    (c3 : PySem.W.codeIn K cd3 "check_many" = true) (k3 : PySem.W.keepIn K (.ref f3) = true)
    (a4 : PySem.W.nsIn K mainGlobals "check_length" = some (some (.ref f4)))
    (l4 : K.lookup f4 = some ⟨oc4, od4, .func (PySem.W.fnOf "check_length" "check_length" (defArgs s_check_length) (defBody s_check_length) (defScope s_check_length) .none kV4 dc4 pm4 an4 cd4 ct4), sl4⟩)
    (c4 : PySem.W.codeIn K cd4 "check_length" = true) (k4 : PySem.W.keepIn K (.ref f4) = true)
    (a5 : PySem.W.nsIn K mainGlobals "check_each" = some (some (.ref f5)))
    (l5 : K.lookup f5 = some ⟨oc5, od5, .func (PySem.W.fnOf "check_each" "check_each" (defArgs s_check_each) (defBody s_check_each) (defScope s_check_each) .none kV5 dc5 pm5 an5 cd5 ct5), sl5⟩)
    (c5 : PySem.W.codeIn K cd5 "check_each" = true) (k5 : PySem.W.keepIn K (.ref f5) = true)
    (a6 : PySem.W.nsIn K mainGlobals "check_prices" = some (some (.ref f6)))
    (l6 : K.lookup f6 = some ⟨oc6, od6, .func (PySem.W.fnOf "check_prices" "check_prices" (defArgs s_check_prices) (defBody s_check_prices) (defScope s_check_prices) .none kV6 dc6 pm6 an6 cd6 ct6), sl6⟩)
    (c6 : PySem.W.codeIn K cd6 "check_prices" = true) (k6 : PySem.W.keepIn K (.ref f6) = true)
    (a7 : PySem.W.findIn K (.ref C_Rule) "__init__" = some (some (.ref f7))) (i7 : PySem.W.isFn K (.ref f7) = true)
    (l7 : K.lookup f7 = some ⟨oc7, od7, .func (PySem.W.fnOf "__init__" "Rule.__init__" (defArgs s_Rule___init__) (defBody s_Rule___init__) (defScope s_Rule___init__) .none kV7 dc7 pm7 an7 cd7 ct7), sl7⟩)
    (c7 : PySem.W.codeIn K cd7 "Rule.__init__" = true) (k7 : PySem.W.keepIn K (.ref f7) = true)
    (a8 : PySem.W.nsIn K mainGlobals "check_lot" = some (some (.ref f8)))
    (l8 : K.lookup f8 = some ⟨oc8, od8, .func (PySem.W.fnOf "check_lot" "check_lot" (defArgs s_check_lot) (defBody s_check_lot) (defScope s_check_lot) .none kV8 dc8 pm8 an8 cd8 ct8), sl8⟩)
    (c8 : PySem.W.codeIn K cd8 "check_lot" = true) (k8 : PySem.W.keepIn K (.ref f8) = true)
    (a9 : PySem.W.findIn K (.ref C_Ratio) "__init__" = some (some (.ref f9))) (i9 : PySem.W.isFn K (.ref f9) = true)
    (l9 : K.lookup f9 = some ⟨oc9, od9, .func (PySem.W.fnOf "__init__" "Ratio.__init__" (defArgs s_Ratio___init__) (defBody s_Ratio___init__) (defScope s_Ratio___init__) (.ref tT9) kV9 dc9 pm9 an9 cd9 ct9), sl9⟩)
    (lt9 : K.lookup tT9 = some ⟨oT9, dT9, .seq #[.int 1 tq9_0] nT9, sT9⟩)
    (c9 : PySem.W.codeIn K cd9 "Ratio.__init__" = true) (k9 : PySem.W.keepIn K (.ref f9) = true)
    (a10 : PySem.W.nsIn K mainGlobals "_as_ratio" = some (some (.ref f10)))
    (l10 : K.lookup f10 = some ⟨oc10, od10, .func (PySem.W.fnOf "_as_ratio" "_as_ratio" (defArgs s__as_ratio) (defBody s__as_ratio) (defScope s__as_ratio) .none kV10 dc10 pm10 an10 cd10 ct10), sl10⟩)
    (c10 : PySem.W.codeIn K cd10 "_as_ratio" = true) (k10 : PySem.W.keepIn K (.ref f10) = true)
    (a11 : PySem.W.findIn K (.ref C_Ratio) "__neg__" = some (some (.ref f11))) (i11 : PySem.W.isFn K (.ref f11) = true)
    (l11 : K.lookup f11 = some ⟨oc11, od11, .func (PySem.W.fnOf "__neg__" "Ratio.__neg__" (defArgs s_Ratio___neg__) (defBody s_Ratio___neg__) (defScope s_Ratio___neg__) .none kV11 dc11 pm11 an11 cd11 ct11), sl11⟩)
    (c11 : PySem.W.codeIn K cd11 "Ratio.__neg__" = true) (k11 : PySem.W.keepIn K (.ref f11) = true)
    (a12 : PySem.W.findIn K (.ref C_Ratio) "__add__" = some (some (.ref f12))) (i12 : PySem.W.isFn K (.ref f12) = true)
    (l12 : K.lookup f12 = some ⟨oc12, od12, .func (PySem.W.fnOf "__add__" "Ratio.__add__" (defArgs s_Ratio___add__) (defBody s_Ratio___add__) (defScope s_Ratio___add__) .none kV12 dc12 pm12 an12 cd12 ct12), sl12⟩)
    (c12 : PySem.W.codeIn K cd12 "Ratio.__add__" = true) (k12 : PySem.W.keepIn K (.ref f12) = true)
    (a13 : PySem.W.findIn K (.ref C_Ratio) "__rsub__" = some (some (.ref f13))) (i13 : PySem.W.isFn K (.ref f13) = true)
    (l13 : K.lookup f13 = some ⟨oc13, od13, .func (PySem.W.fnOf "__rsub__" "Ratio.__rsub__" (defArgs s_Ratio___rsub__) (defBody s_Ratio___rsub__) (defScope s_Ratio___rsub__) .none kV13 dc13 pm13 an13 cd13 ct13), sl13⟩)
    (c13 : PySem.W.codeIn K cd13 "Ratio.__rsub__" = true) (k13 : PySem.W.keepIn K (.ref f13) = true)
    (a14 : PySem.W.findIn K (.ref C_Ratio) "__mul__" = some (some (.ref f14))) (i14 : PySem.W.isFn K (.ref f14) = true)
    (l14 : K.lookup f14 = some ⟨oc14, od14, .func (PySem.W.fnOf "__mul__" "Ratio.__mul__" (defArgs s_Ratio___mul__) (defBody s_Ratio___mul__) (defScope s_Ratio___mul__) .none kV14 dc14 pm14 an14 cd14 ct14), sl14⟩)
    (c14 : PySem.W.codeIn K cd14 "Ratio.__mul__" = true) (k14 : PySem.W.keepIn K (.ref f14) = true)
    (a15 : PySem.W.findIn K (.ref C_Rule) "shares" = some (some (.ref f15))) (i15 : PySem.W.isFn K (.ref f15) = true)
    (l15 : K.lookup f15 = some ⟨oc15, od15, .func (PySem.W.fnOf "shares" "Rule.shares" (defArgs s_Rule_shares) (defBody s_Rule_shares) (defScope s_Rule_shares) .none kV15 dc15 pm15 an15 cd15 ct15), sl15⟩)
    (c15 : PySem.W.codeIn K cd15 "Rule.shares" = true) (k15 : PySem.W.keepIn K (.ref f15) = true)
    (a16 : PySem.W.findIn K (.ref C_Rule) "away" = some (some (.ref f16))) (i16 : PySem.W.isFn K (.ref f16) = true)
    (l16 : K.lookup f16 = some ⟨oc16, od16, .func (PySem.W.fnOf "away" "Rule.away" (defArgs s_Rule_away) (defBody s_Rule_away) (defScope s_Rule_away) .none kV16 dc16 pm16 an16 cd16 ct16), sl16⟩)
    (c16 : PySem.W.codeIn K cd16 "Rule.away" = true) (k16 : PySem.W.keepIn K (.ref f16) = true)
    (a17 : PySem.W.findIn K (.ref C_Rule) "worth" = some (some (.ref f17))) (i17 : PySem.W.isFn K (.ref f17) = true)
    (l17 : K.lookup f17 = some ⟨oc17, od17, .func (PySem.W.fnOf "worth" "Rule.worth" (defArgs s_Rule_worth) (defBody s_Rule_worth) (defScope s_Rule_worth) .none kV17 dc17 pm17 an17 cd17 ct17), sl17⟩)
    (c17 : PySem.W.codeIn K cd17 "Rule.worth" = true) (k17 : PySem.W.keepIn K (.ref f17) = true)
    (a18 : PySem.W.nsIn K mainGlobals "_law_cell" = some (some (.ref f18)))
    (l18 : K.lookup f18 = some ⟨oc18, od18, .func (PySem.W.fnOf "_law_cell" "_law_cell" (defArgs s__law_cell) (defBody s__law_cell) (defScope s__law_cell) .none kV18 dc18 pm18 an18 cd18 ct18), sl18⟩)
    (c18 : PySem.W.codeIn K cd18 "_law_cell" = true) (k18 : PySem.W.keepIn K (.ref f18) = true)
    (a19 : PySem.W.nsIn K mainGlobals "_law_draws" = some (some (.ref f19)))
    (l19 : K.lookup f19 = some ⟨oc19, od19, .func (PySem.W.fnOf "_law_draws" "_law_draws" (defArgs s__law_draws) (defBody s__law_draws) (defScope s__law_draws) .none kV19 dc19 pm19 an19 cd19 ct19), sl19⟩)
    (c19 : PySem.W.codeIn K cd19 "_law_draws" = true) (k19 : PySem.W.keepIn K (.ref f19) = true)
    (a20 : PySem.W.nsIn K mainGlobals "_law_wide" = some (some (.ref f20)))
    (l20 : K.lookup f20 = some ⟨oc20, od20, .func (PySem.W.fnOf "_law_wide" "_law_wide" (defArgs s__law_wide) (defBody s__law_wide) (defScope s__law_wide) .none kV20 dc20 pm20 an20 cd20 ct20), sl20⟩)
    (c20 : PySem.W.codeIn K cd20 "_law_wide" = true) (k20 : PySem.W.keepIn K (.ref f20) = true)
    (a21 : PySem.W.nsIn K mainGlobals "_law_row" = some (some (.ref f21)))
    (l21 : K.lookup f21 = some ⟨oc21, od21, .func (PySem.W.fnOf "_law_row" "_law_row" (defArgs s__law_row) (defBody s__law_row) (defScope s__law_row) .none kV21 dc21 pm21 an21 cd21 ct21), sl21⟩)
    (c21 : PySem.W.codeIn K cd21 "_law_row" = true) (k21 : PySem.W.keepIn K (.ref f21) = true)
    (a22 : PySem.W.nsIn K mainGlobals "_law_lot" = some (some (.ref f22)))
    (l22 : K.lookup f22 = some ⟨oc22, od22, .func (PySem.W.fnOf "_law_lot" "_law_lot" (defArgs s__law_lot) (defBody s__law_lot) (defScope s__law_lot) .none kV22 dc22 pm22 an22 cd22 ct22), sl22⟩)
    (c22 : PySem.W.codeIn K cd22 "_law_lot" = true) (k22 : PySem.W.keepIn K (.ref f22) = true)
    (a23 : PySem.W.nsIn K mainGlobals "_law_is_int" = some (some (.ref f23)))
    (l23 : K.lookup f23 = some ⟨oc23, od23, .func (PySem.W.fnOf "_law_is_int" "_law_is_int" (defArgs s__law_is_int) (defBody s__law_is_int) (defScope s__law_is_int) .none kV23 dc23 pm23 an23 cd23 ct23), sl23⟩)
    (c23 : PySem.W.codeIn K cd23 "_law_is_int" = true) (k23 : PySem.W.keepIn K (.ref f23) = true)
    (a24 : PySem.W.nsIn K mainGlobals "_law_same" = some (some (.ref f24)))
    (l24 : K.lookup f24 = some ⟨oc24, od24, .func (PySem.W.fnOf "_law_same" "_law_same" (defArgs s__law_same) (defBody s__law_same) (defScope s__law_same) .none kV24 dc24 pm24 an24 cd24 ct24), sl24⟩)
    (c24 : PySem.W.codeIn K cd24 "_law_same" = true) (k24 : PySem.W.keepIn K (.ref f24) = true)
    (a25 : PySem.W.nsIn K mainGlobals "_law_is_lot" = some (some (.ref f25)))
    (l25 : K.lookup f25 = some ⟨oc25, od25, .func (PySem.W.fnOf "_law_is_lot" "_law_is_lot" (defArgs s__law_is_lot) (defBody s__law_is_lot) (defScope s__law_is_lot) .none kV25 dc25 pm25 an25 cd25 ct25), sl25⟩)
    (c25 : PySem.W.codeIn K cd25 "_law_is_lot" = true) (k25 : PySem.W.keepIn K (.ref f25) = true)
    (a26 : PySem.W.nsIn K mainGlobals "_law_any_lot" = some (some (.ref f26)))
    (l26 : K.lookup f26 = some ⟨oc26, od26, .func (PySem.W.fnOf "_law_any_lot" "_law_any_lot" (defArgs s__law_any_lot) (defBody s__law_any_lot) (defScope s__law_any_lot) .none kV26 dc26 pm26 an26 cd26 ct26), sl26⟩)
    (c26 : PySem.W.codeIn K cd26 "_law_any_lot" = true) (k26 : PySem.W.keepIn K (.ref f26) = true)
    (a27 : PySem.W.nsIn K mainGlobals "_law_any_prices" = some (some (.ref f27)))
    (l27 : K.lookup f27 = some ⟨oc27, od27, .func (PySem.W.fnOf "_law_any_prices" "_law_any_prices" (defArgs s__law_any_prices) (defBody s__law_any_prices) (defScope s__law_any_prices) .none kV27 dc27 pm27 an27 cd27 ct27), sl27⟩)
    (c27 : PySem.W.codeIn K cd27 "_law_any_prices" = true) (k27 : PySem.W.keepIn K (.ref f27) = true)
    (a28 : PySem.W.nsIn K mainGlobals "_law_made" = some (some (.ref f28)))
    (l28 : K.lookup f28 = some ⟨oc28, od28, .func (PySem.W.fnOf "_law_made" "_law_made" (defArgs s__law_made) (defBody s__law_made) (defScope s__law_made) .none kV28 dc28 pm28 an28 cd28 ct28), sl28⟩)
    (c28 : PySem.W.codeIn K cd28 "_law_made" = true) (k28 : PySem.W.keepIn K (.ref f28) = true)
    (a29 : PySem.W.nsIn K mainGlobals "_law_made_base" = some (some (.ref f29)))
    (l29 : K.lookup f29 = some ⟨oc29, od29, .func (PySem.W.fnOf "_law_made_base" "_law_made_base" (defArgs s__law_made_base) (defBody s__law_made_base) (defScope s__law_made_base) .none kV29 dc29 pm29 an29 cd29 ct29), sl29⟩)
    (c29 : PySem.W.codeIn K cd29 "_law_made_base" = true) (k29 : PySem.W.keepIn K (.ref f29) = true)
    (a30 : PySem.W.nsIn K mainGlobals "_law_shares" = some (some (.ref f30)))
    (l30 : K.lookup f30 = some ⟨oc30, od30, .func (PySem.W.fnOf "_law_shares" "_law_shares" (defArgs s__law_shares) (defBody s__law_shares) (defScope s__law_shares) .none kV30 dc30 pm30 an30 cd30 ct30), sl30⟩)
    (c30 : PySem.W.codeIn K cd30 "_law_shares" = true) (k30 : PySem.W.keepIn K (.ref f30) = true)
    (a31 : PySem.W.nsIn K mainGlobals "_law_away" = some (some (.ref f31)))
    (l31 : K.lookup f31 = some ⟨oc31, od31, .func (PySem.W.fnOf "_law_away" "_law_away" (defArgs s__law_away) (defBody s__law_away) (defScope s__law_away) .none kV31 dc31 pm31 an31 cd31 ct31), sl31⟩)
    (c31 : PySem.W.codeIn K cd31 "_law_away" = true) (k31 : PySem.W.keepIn K (.ref f31) = true)
    (a32 : PySem.W.nsIn K mainGlobals "_law_worth" = some (some (.ref f32)))
    (l32 : K.lookup f32 = some ⟨oc32, od32, .func (PySem.W.fnOf "_law_worth" "_law_worth" (defArgs s__law_worth) (defBody s__law_worth) (defScope s__law_worth) .none kV32 dc32 pm32 an32 cd32 ct32), sl32⟩)
    (c32 : PySem.W.codeIn K cd32 "_law_worth" = true) (k32 : PySem.W.keepIn K (.ref f32) = true)
    (a33 : PySem.W.nsIn K mainGlobals "_law_base" = some (some (.ref f33)))
    (l33 : K.lookup f33 = some ⟨oc33, od33, .func (PySem.W.fnOf "_law_base" "_law_base" (defArgs s__law_base) (defBody s__law_base) (defScope s__law_base) .none kV33 dc33 pm33 an33 cd33 ct33), sl33⟩)
    (c33 : PySem.W.codeIn K cd33 "_law_base" = true) (k33 : PySem.W.keepIn K (.ref f33) = true)
    (a34 : PySem.W.nsIn K mainGlobals "_law_prices_place" = some (some (.ref f34)))
    (l34 : K.lookup f34 = some ⟨oc34, od34, .func (PySem.W.fnOf "_law_prices_place" "_law_prices_place" (defArgs s__law_prices_place) (defBody s__law_prices_place) (defScope s__law_prices_place) .none kV34 dc34 pm34 an34 cd34 ct34), sl34⟩)
    (c34 : PySem.W.codeIn K cd34 "_law_prices_place" = true) (k34 : PySem.W.keepIn K (.ref f34) = true)
    (a35 : PySem.W.nsIn K mainGlobals "_law_noughts" = some (some (.ref f35)))
    (l35 : K.lookup f35 = some ⟨oc35, od35, .func (PySem.W.fnOf "_law_noughts" "_law_noughts" (defArgs s__law_noughts) (defBody s__law_noughts) (defScope s__law_noughts) .none kV35 dc35 pm35 an35 cd35 ct35), sl35⟩)
    (c35 : PySem.W.codeIn K cd35 "_law_noughts" = true) (k35 : PySem.W.keepIn K (.ref f35) = true)
    (a36 : PySem.W.nsIn K mainGlobals "_law_good_shares" = some (some (.ref f36)))
    (l36 : K.lookup f36 = some ⟨oc36, od36, .func (PySem.W.fnOf "_law_good_shares" "_law_good_shares" (defArgs s__law_good_shares) (defBody s__law_good_shares) (defScope s__law_good_shares) .none kV36 dc36 pm36 an36 cd36 ct36), sl36⟩)
    (c36 : PySem.W.codeIn K cd36 "_law_good_shares" = true) (k36 : PySem.W.keepIn K (.ref f36) = true)
    (a37 : PySem.W.nsIn K mainGlobals "_law_good_refusal" = some (some (.ref f37)))
    (l37 : K.lookup f37 = some ⟨oc37, od37, .func (PySem.W.fnOf "_law_good_refusal" "_law_good_refusal" (defArgs s__law_good_refusal) (defBody s__law_good_refusal) (defScope s__law_good_refusal) .none kV37 dc37 pm37 an37 cd37 ct37), sl37⟩)
    (c37 : PySem.W.codeIn K cd37 "_law_good_refusal" = true) (k37 : PySem.W.keepIn K (.ref f37) = true)
    (a38 : PySem.W.nsIn K mainGlobals "law" = some (some (.ref f38)))
    (l38 : K.lookup f38 = some ⟨oc38, od38, .func (PySem.W.fnOf "law" "law" (defArgs s_law) (defBody s_law) (defScope s_law) .none kV38 dc38 pm38 an38 cd38 ct38), sl38⟩)
    (c38 : PySem.W.codeIn K cd38 "law" = true) (k38 : PySem.W.keepIn K (.ref f38) = true)
    (z_ValueError : PySem.W.nsIn K mainGlobals "ValueError" = some none)
    (z_bool : PySem.W.nsIn K mainGlobals "bool" = some none)
    (z_enumerate : PySem.W.nsIn K mainGlobals "enumerate" = some none)
    (z_int : PySem.W.nsIn K mainGlobals "int" = some none)
    (z_isinstance : PySem.W.nsIn K mainGlobals "isinstance" = some none)
    (z_len : PySem.W.nsIn K mainGlobals "len" = some none)
    (z_list : PySem.W.nsIn K mainGlobals "list" = some none)
    (z_range : PySem.W.nsIn K mainGlobals "range" = some none)
    (z_str : PySem.W.nsIn K mainGlobals "str" = some none)
    (z_sum : PySem.W.nsIn K mainGlobals "sum" = some none)
    (z_tuple : PySem.W.nsIn K mainGlobals "tuple" = some none) :
    ∃ fd : FuncData, (∀ (s : Shared) (v : Value), BindsTo s fd ⟨[v], []⟩ [("_law_script", v)]) ∧ ∀ base : Heap, K.In base → base.Ns mainGlobals mg → FnOk l.prog w K mg base CX0 8 fa fd ["_law_script"] (sp_law K) := by
  have e := hfa.symm.trans (PySem.W.mg_of X G a38)
  cases e
  have m_ValueError := PySem.W.mg_none_of X G z_ValueError
  have m_bool := PySem.W.mg_none_of X G z_bool
  have m_enumerate := PySem.W.mg_none_of X G z_enumerate
  have m_int := PySem.W.mg_none_of X G z_int
  have m_isinstance := PySem.W.mg_none_of X G z_isinstance
  have m_len := PySem.W.mg_none_of X G z_len
  have m_list := PySem.W.mg_none_of X G z_list
  have m_range := PySem.W.mg_none_of X G z_range
  have m_str := PySem.W.mg_none_of X G z_str
  have m_sum := PySem.W.mg_none_of X G z_sum
  have m_tuple := PySem.W.mg_none_of X G z_tuple
  have T : Txt K mg C_Rule C_Ratio C_BadNumber C_TooMany C_ZeroBottom C_BadLot C_ShelfError := ⟨PySem.W.mg_of X G a_Rule, kc_Rule, hd_Rule, ha_Rule, hm_Rule, ⟨pg_Rule, hd_Rule, po_Rule, sa_Rule⟩, mk_Rule, n_Rule_many, PySem.W.mg_of X G a_Ratio, kc_Ratio, hd_Ratio, ha_Ratio, hm_Ratio, ⟨pg_Ratio, hd_Ratio, po_Ratio, sa_Ratio⟩, mk_Ratio, n_Ratio_top, n_Ratio_bottom, ⟨ss_Ratio, sb_Ratio, sy_Ratio, sf_Ratio⟩, sf_Ratio, si_Ratio, sr_Ratio, ⟨_, rf_Ratio_add, .inr ⟨_, rfl⟩⟩, ⟨_, of_Ratio_add⟩, ⟨_, _, inta_add, intr_add⟩, ⟨_, rf_Ratio_sub, .inr ⟨_, rfl⟩⟩, ⟨_, of_Ratio_sub⟩, ⟨_, _, inta_sub, intr_sub⟩, ⟨_, rf_Ratio_mul, .inr ⟨_, rfl⟩⟩, ⟨_, of_Ratio_mul⟩, ⟨_, _, inta_mul, intr_mul⟩, PySem.W.mg_of X G a_BadNumber, kc_BadNumber, hd_BadNumber, ha_BadNumber, hm_BadNumber, b_BadNumber, t_BadNumber, ga_BadNumber, gg_BadNumber, ⟨⟨_, _, _, _, _, _, _, _, _, _, _, _, _, _, _, ol_BadNumber, or_BadNumber⟩, sa_BadNumber, b_BadNumber, t_BadNumber, kc_BadNumber⟩, ⟨ga_BadNumber, gg_BadNumber, b_BadNumber, hd_BadNumber⟩, n_BadNumber_what, n_BadNumber_at, PySem.W.mg_of X G a_TooMany, kc_TooMany, hd_TooMany, ha_TooMany, hm_TooMany, b_TooMany, t_TooMany, ga_TooMany, gg_TooMany, ⟨⟨_, _, _, _, _, _, _, _, _, _, _, _, _, _, _, ol_TooMany, or_TooMany⟩, sa_TooMany, b_TooMany, t_TooMany, kc_TooMany⟩, ⟨ga_TooMany, gg_TooMany, b_TooMany, hd_TooMany⟩, n_TooMany_many, n_TooMany_most, PySem.W.mg_of X G a_ZeroBottom, kc_ZeroBottom, hd_ZeroBottom, ha_ZeroBottom, hm_ZeroBottom, b_ZeroBottom, t_ZeroBottom, ga_ZeroBottom, gg_ZeroBottom, x_ZeroBottom, PySem.W.mg_of X G a_BadLot, kc_BadLot, hd_BadLot, ha_BadLot, hm_BadLot, b_BadLot, t_BadLot, ga_BadLot, gg_BadLot, x_BadLot, PySem.W.mg_of X G a_ShelfError, kc_ShelfError, hd_ShelfError, ha_ShelfError, hm_ShelfError, b_ShelfError, t_ShelfError, ga_ShelfError, gg_ShelfError, hnc, htk, sub_BadNumber_BadNumber, sub_BadLot_BadNumber, sub_BadLot_BadLot, sub_BadNumber_ShelfError, sub_BadLot_ShelfError, sub_TooMany_TooMany, sub_TooMany_ShelfError, kit_Ratio_Ratio, kit_int_Ratio, kit_Rule_Rule, kit_BadNumber_BadLot, kit_BadLot_BadNumber, kit_BadNumber_ValueError, kit_BadLot_ValueError, kit_TooMany_ValueError, kit_TooMany_TooMany, kit_TooMany_BadNumber, PySem.W.mg_of X G a_gcd, ⟨_, PySem.W.mg_of X G a_MOST_THINGS⟩⟩
  have F1 := fun_mk (st := s_BadNumber___init__) l1 c1 k1
  have b1 := F1.binds (ps := ["self", "what", "at"]) fun _ _ _ _ _ _ us hl => match us, hl with | [_, _, _], _ => rfl
  have F2 := fun_mk (st := s_TooMany___init__) l2 c2 k2
  have b2 := F2.binds (ps := ["self", "many", "most"]) fun _ _ _ _ _ _ us hl => match us, hl with | [_, _, _], _ => rfl
  have F3 := fun_mk (st := s_check_many) l3 c3 k3
  have b3 := F3.binds (ps := ["many", "most"]) fun _ _ _ _ _ _ us hl => match us, hl with | [_, _], _ => rfl
  have F4 := fun_mk (st := s_check_length) l4 c4 k4
  have b4 := F4.binds (ps := ["what", "items", "many"]) fun _ _ _ _ _ _ us hl => match us, hl with | [_, _, _], _ => rfl
  have F5 := fun_mk (st := s_check_each) l5 c5 k5
  have b5 := F5.binds (ps := ["what", "numbers", "least"]) fun _ _ _ _ _ _ us hl => match us, hl with | [_, _, _], _ => rfl
  have F6 := fun_mk (st := s_check_prices) l6 c6 k6
  have b6 := F6.binds (ps := ["prices", "many"]) fun _ _ _ _ _ _ us hl => match us, hl with | [_, _], _ => rfl
  have F7 := fun_mk (st := s_Rule___init__) l7 c7 k7
  have b7 := F7.binds (ps := ["self", "many"]) fun _ _ _ _ _ _ us hl => match us, hl with | [_, _], _ => rfl
  have F8 := fun_mk (st := s_check_lot) l8 c8 k8
  have b8 := F8.binds (ps := ["lot", "many"]) fun _ _ _ _ _ _ us hl => match us, hl with | [_, _], _ => rfl
  have F9 : FunD K "__init__" "Ratio.__init__" (defArgs s_Ratio___init__) (defBody s_Ratio___init__) (defScope s_Ratio___init__) [V.int 1] [] f9 _ := ⟨⟨oc9, od9, .ref tT9, kV9, dc9, pm9, an9, cd9, ct9, sl9, rfl, l9, c9, .inr ⟨List.cons_ne_nil _ _, tT9, _, [.int 1 tq9_0], nT9, rfl, lt9, rfl, (.cons ⟨_, rfl⟩ .nil)⟩, .inl rfl⟩, k9⟩
  obtain ⟨dn9, vn9, b9⟩ := F9.binds1 (ps := ["self", "top", "bottom"]) 3 1 (List.cons_ne_nil _ _) rfl fun _ _ _ _ _ _ _ us its hl hi => match us, its, hl, hi with | [_, _, _], [_], _, _ => ⟨_, rfl, rfl⟩
  cases vn9
  obtain ⟨dd9, vd9, bd9⟩ := F9.binds1 (ps := ["self", "top", "bottom"]) 2 0 (List.cons_ne_nil _ _) rfl fun _ _ _ _ _ _ _ us its hl hi => match us, its, hl, hi with | [_, _], [_], _, _ => ⟨_, rfl, rfl⟩
  have F10 := fun_mk (st := s__as_ratio) l10 c10 k10
  have b10 := F10.binds (ps := ["number"]) fun _ _ _ _ _ _ us hl => match us, hl with | [_], _ => rfl
  have F11 := fun_mk (st := s_Ratio___neg__) l11 c11 k11
  have b11 := F11.binds (ps := ["self"]) fun _ _ _ _ _ _ us hl => match us, hl with | [_], _ => rfl
  have F12 := fun_mk (st := s_Ratio___add__) l12 c12 k12
  have b12 := F12.binds (ps := ["self", "other"]) fun _ _ _ _ _ _ us hl => match us, hl with | [_, _], _ => rfl
  have F13 := fun_mk (st := s_Ratio___rsub__) l13 c13 k13
  have b13 := F13.binds (ps := ["self", "other"]) fun _ _ _ _ _ _ us hl => match us, hl with | [_, _], _ => rfl
  have F14 := fun_mk (st := s_Ratio___mul__) l14 c14 k14
  have b14 := F14.binds (ps := ["self", "other"]) fun _ _ _ _ _ _ us hl => match us, hl with | [_, _], _ => rfl
  have F15 := fun_mk (st := s_Rule_shares) l15 c15 k15
  have b15 := F15.binds (ps := ["self", "lot"]) fun _ _ _ _ _ _ us hl => match us, hl with | [_, _], _ => rfl
  have F16 := fun_mk (st := s_Rule_away) l16 c16 k16
  have b16 := F16.binds (ps := ["self", "lot"]) fun _ _ _ _ _ _ us hl => match us, hl with | [_, _], _ => rfl
  have F17 := fun_mk (st := s_Rule_worth) l17 c17 k17
  have b17 := F17.binds (ps := ["self", "lot", "prices"]) fun _ _ _ _ _ _ us hl => match us, hl with | [_, _, _], _ => rfl
  have F18 := fun_mk (st := s__law_cell) l18 c18 k18
  have b18 := F18.binds (ps := ["_law_script", "_law_place"]) fun _ _ _ _ _ _ us hl => match us, hl with | [_, _], _ => rfl
  have F19 := fun_mk (st := s__law_draws) l19 c19 k19
  have b19 := F19.binds (ps := ["_law_cell_here", "_law_sizes"]) fun _ _ _ _ _ _ us hl => match us, hl with | [_, _], _ => rfl
  have F20 := fun_mk (st := s__law_wide) l20 c20 k20
  have b20 := F20.binds (ps := ["_law_parts"]) fun _ _ _ _ _ _ us hl => match us, hl with | [_], _ => rfl
  have F21 := fun_mk (st := s__law_row) l21 c21 k21
  have b21 := F21.binds (ps := ["_law_cell_here", "_law_count"]) fun _ _ _ _ _ _ us hl => match us, hl with | [_, _], _ => rfl
  have F22 := fun_mk (st := s__law_lot) l22 c22 k22
  have b22 := F22.binds (ps := ["_law_bits", "_law_many"]) fun _ _ _ _ _ _ us hl => match us, hl with | [_, _], _ => rfl
  have F23 := fun_mk (st := s__law_is_int) l23 c23 k23
  have b23 := F23.binds (ps := ["_law_x"]) fun _ _ _ _ _ _ us hl => match us, hl with | [_], _ => rfl
  have F24 := fun_mk (st := s__law_same) l24 c24 k24
  have b24 := F24.binds (ps := ["_law_x", "_law_top", "_law_bottom"]) fun _ _ _ _ _ _ us hl => match us, hl with | [_, _, _], _ => rfl
  have F25 := fun_mk (st := s__law_is_lot) l25 c25 k25
  have b25 := F25.binds (ps := ["_law_lot_here", "_law_many"]) fun _ _ _ _ _ _ us hl => match us, hl with | [_, _], _ => rfl
  have F26 := fun_mk (st := s__law_any_lot) l26 c26 k26
  have b26 := F26.binds (ps := ["_law_cell_here", "_law_many"]) fun _ _ _ _ _ _ us hl => match us, hl with | [_, _], _ => rfl
  have F27 := fun_mk (st := s__law_any_prices) l27 c27 k27
  have b27 := F27.binds (ps := ["_law_cell_here", "_law_ways", "_law_many"]) fun _ _ _ _ _ _ us hl => match us, hl with | [_, _, _], _ => rfl
  have F28 := fun_mk (st := s__law_made) l28 c28 k28
  have b28 := F28.binds (ps := ["_law_many"]) fun _ _ _ _ _ _ us hl => match us, hl with | [_], _ => rfl
  have F29 := fun_mk (st := s__law_made_base) l29 c29 k29
  have b29 := F29.binds (ps := ["_law_many"]) fun _ _ _ _ _ _ us hl => match us, hl with | [_], _ => rfl
  have F30 := fun_mk (st := s__law_shares) l30 c30 k30
  have b30 := F30.binds (ps := ["_law_rule", "_law_lot_here"]) fun _ _ _ _ _ _ us hl => match us, hl with | [_, _], _ => rfl
  have F31 := fun_mk (st := s__law_away) l31 c31 k31
  have b31 := F31.binds (ps := ["_law_rule", "_law_lot_here"]) fun _ _ _ _ _ _ us hl => match us, hl with | [_, _], _ => rfl
  have F32 := fun_mk (st := s__law_worth) l32 c32 k32
  have b32 := F32.binds (ps := ["_law_rule", "_law_lot_here", "_law_prices"]) fun _ _ _ _ _ _ us hl => match us, hl with | [_, _, _], _ => rfl
  have F33 := fun_mk (st := s__law_base) l33 c33 k33
  have b33 := F33.binds (ps := ["_law_rule", "_law_lot_here", "_law_prices"]) fun _ _ _ _ _ _ us hl => match us, hl with | [_, _, _], _ => rfl
  have F34 := fun_mk (st := s__law_prices_place) l34 c34 k34
  have b34 := F34.binds (ps := ["_law_prices", "_law_many"]) fun _ _ _ _ _ _ us hl => match us, hl with | [_, _], _ => rfl
  have F35 := fun_mk (st := s__law_noughts) l35 c35 k35
  have b35 := F35.binds (ps := ["_law_row_here", "_law_many"]) fun _ _ _ _ _ _ us hl => match us, hl with | [_, _], _ => rfl
  have F36 := fun_mk (st := s__law_good_shares) l36 c36 k36
  have b36 := F36.binds (ps := ["_law_rule", "_law_lot_here", "_law_many"]) fun _ _ _ _ _ _ us hl => match us, hl with | [_, _, _], _ => rfl
  have F37 := fun_mk (st := s__law_good_refusal) l37 c37 k37
  have b37 := F37.binds (ps := ["_law_told", "_law_place"]) fun _ _ _ _ _ _ us hl => match us, hl with | [_, _], _ => rfl
  have F38 := fun_mk (st := s_law) l38 c38 k38
  refine ⟨PySem.W.fnOf "law" "law" (defArgs s_law) (defBody s_law) (defScope s_law) .none kV38 dc38 pm38 an38 cd38 ct38, fun s v => .of_eq rfl, fun base _ _ => ?_⟩
  have K_BadNumber___init__ : CalX l.prog w K mg base CX0 1 C_BadNumber ["self", "what", "at"] (sp_BadNumber___init__ C_BadNumber) := ⟨f1, _, ok_BadNumber___init__ F1 T, a1, beq_iff_eq.mp i1, b1⟩
  have K_TooMany___init__ : CalX l.prog w K mg base CX0 1 C_TooMany ["self", "many", "most"] (sp_TooMany___init__ C_TooMany) := ⟨f2, _, ok_TooMany___init__ F2 T, a2, beq_iff_eq.mp i2, b2⟩
  have K_check_many : Cal l.prog w K mg base (L2.CX l.prog w) 3 "check_many" ["many", "most"] (sp_check_many C_TooMany) := ⟨f3, _, ok_check_many F3 T K_TooMany___init__, PySem.W.mg_of X G a3, k3, b3⟩
  have K_check_length : Cal l.prog w K mg base (L2.CX l.prog w) 3 "check_length" ["what", "items", "many"] (sp_check_length C_BadNumber) := ⟨f4, _, ok_check_length F4 T m_len K_BadNumber___init__, PySem.W.mg_of X G a4, k4, b4⟩
  have K_check_each : Cal l.prog w K mg base (L2.CX l.prog w) 3 "check_each" ["what", "numbers", "least"] (sp_check_each K C_BadNumber) := ⟨f5, _, ok_check_each F5 T m_enumerate K_BadNumber___init__, PySem.W.mg_of X G a5, k5, b5⟩
  have K_check_prices : Cal l.prog w K mg base (L2.CX l.prog w) 4 "check_prices" ["prices", "many"] (sp_check_prices K C_BadNumber) := ⟨f6, _, ok_check_prices F6 T K_check_length K_check_each, PySem.W.mg_of X G a6, k6, b6⟩
  have K_Rule___init__ : CalI l.prog w K mg base (L2.CX l.prog w) 4 C_Rule ["self", "many"] (sp_Rule___init__ C_Rule C_TooMany) [] := ⟨f7, _, ok_Rule___init__ F7 T K_check_many, ⟨mk_Rule, a7, i7, kc_Rule⟩, b7, [], .nil, b7⟩
  have K_check_lot : Cal l.prog w K mg base (L2.CX l.prog w) 1 "check_lot" ["lot", "many"] (sp_check_lot K C_BadLot) := ⟨f8, _, ok_check_lot F8 T, PySem.W.mg_of X G a8, k8, b8⟩
  have K_Ratio___init__ : CalI l.prog w K mg base (L2.CX l.prog w) 1 C_Ratio ["self", "top", "bottom"] (sp_Ratio___init__ C_Ratio C_ZeroBottom) [V.int 1] := ⟨f9, _, ok_Ratio___init__ F9 T, ⟨mk_Ratio, a9, i9, kc_Ratio⟩, b9, dd9, vd9, bd9⟩
  have K__as_ratio : Cal l.prog w K mg base CX0 3 "_as_ratio" ["number"] (sp__as_ratio C_Ratio) := ⟨f10, _, ok__as_ratio F10 T m_isinstance K_Ratio___init__, PySem.W.mg_of X G a10, k10, b10⟩
  have K_Ratio___neg__ : CalM l.prog w K mg base CX0 3 C_Ratio "__neg__" ["self"] (sp_Ratio___neg__ C_Ratio) := ⟨f11, _, ok_Ratio___neg__ F11 T K_Ratio___init__, ⟨a11, i11, k11⟩, b11⟩
  have K_Ratio___add__ : CalM l.prog w K mg base CX0 4 C_Ratio "__add__" ["self", "other"] (sp_Ratio___add__ C_Ratio) := ⟨f12, _, ok_Ratio___add__ F12 T K__as_ratio K_Ratio___init__, ⟨a12, i12, k12⟩, b12⟩
  have K_Ratio___rsub__ : CalM l.prog w K mg base CX0 5 C_Ratio "__rsub__" ["self", "other"] (sp_Ratio___rsub__ C_Ratio) := ⟨f13, _, ok_Ratio___rsub__ F13 T K_Ratio___neg__ K_Ratio___add__, ⟨a13, i13, k13⟩, b13⟩
  have K_Ratio___mul__ : CalM l.prog w K mg base CX0 4 C_Ratio "__mul__" ["self", "other"] (sp_Ratio___mul__ C_Ratio) := ⟨f14, _, ok_Ratio___mul__ F14 T K__as_ratio K_Ratio___init__, ⟨a14, i14, k14⟩, b14⟩
  have K_Rule_shares : CalM l.prog w K mg base (L2.CX l.prog w) 3 C_Rule "shares" ["self", "lot"] (sp_Rule_shares C_Rule C_Ratio C_BadLot) := ⟨f15, _, ok_Rule_shares F15 T m_range K_check_lot K_Ratio___init__, ⟨a15, i15, k15⟩, b15⟩
  have K_Rule_away : CalM l.prog w K mg base (L2.CX l.prog w) 6 C_Rule "away" ["self", "lot"] (sp_Rule_away C_Rule C_Ratio C_BadLot) := ⟨f16, _, ok_Rule_away F16 T m_sum K_Rule_shares K_Ratio___init__ K_Ratio___add__ K_Ratio___rsub__, ⟨a16, i16, k16⟩, b16⟩
  have K_Rule_worth : CalM l.prog w K mg base (L2.CX l.prog w) 6 C_Rule "worth" ["self", "lot", "prices"] (sp_Rule_worth C_Rule C_Ratio C_BadLot C_BadNumber) := ⟨f17, _, ok_Rule_worth F17 T m_sum K_check_prices K_Rule_shares K_Ratio___init__ K_Ratio___mul__ K_Ratio___add__, ⟨a17, i17, k17⟩, b17⟩
  have K__law_cell : Cal l.prog w K mg base CX0 1 "_law_cell" ["_law_script", "_law_place"] (sp__law_cell K) := ⟨f18, _, ok__law_cell F18 T m_int m_len, PySem.W.mg_of X G a18, k18, b18⟩
  have K__law_draws : Cal l.prog w K mg base CX0 1 "_law_draws" ["_law_cell_here", "_law_sizes"] (sp__law_draws K) := ⟨f19, _, ok__law_draws F19 T m_int m_len m_range, PySem.W.mg_of X G a19, k19, b19⟩
  have K__law_wide : Cal l.prog w K mg base CX0 1 "_law_wide" ["_law_parts"] (sp__law_wide K) := ⟨f20, _, ok__law_wide F20 T, PySem.W.mg_of X G a20, k20, b20⟩
  have K__law_row : Cal l.prog w K mg base CX0 2 "_law_row" ["_law_cell_here", "_law_count"] (sp__law_row K) := ⟨f21, _, ok__law_row F21 T m_int m_range K__law_draws, PySem.W.mg_of X G a21, k21, b21⟩
  have K__law_lot : Cal l.prog w K mg base CX0 1 "_law_lot" ["_law_bits", "_law_many"] sp__law_lot := ⟨f22, _, ok__law_lot F22 T m_int m_range m_tuple, PySem.W.mg_of X G a22, k22, b22⟩
  have K__law_is_int : Cal l.prog w K mg base CX0 1 "_law_is_int" ["_law_x"] sp__law_is_int := ⟨f23, _, ok__law_is_int F23 T m_bool m_int m_isinstance, PySem.W.mg_of X G a23, k23, b23⟩
  have K__law_same : Cal l.prog w K mg base CX0 2 "_law_same" ["_law_x", "_law_top", "_law_bottom"] (sp__law_same C_Ratio) := ⟨f24, _, ok__law_same F24 T m_isinstance K__law_is_int, PySem.W.mg_of X G a24, k24, b24⟩
  have K__law_is_lot : Cal l.prog w K mg base CX0 1 "_law_is_lot" ["_law_lot_here", "_law_many"] sp__law_is_lot := ⟨f25, _, ok__law_is_lot F25 T m_len m_range, PySem.W.mg_of X G a25, k25, b25⟩
  have K__law_any_lot : Cal l.prog w K mg base CX0 2 "_law_any_lot" ["_law_cell_here", "_law_many"] sp__law_any_lot := ⟨f26, _, ok__law_any_lot F26 T m_int m_len m_range m_tuple K__law_draws K__law_lot, PySem.W.mg_of X G a26, k26, b26⟩
  have K__law_any_prices : Cal l.prog w K mg base CX0 3 "_law_any_prices" ["_law_cell_here", "_law_ways", "_law_many"] sp__law_any_prices := ⟨f27, _, ok__law_any_prices F27 T m_int K__law_row, PySem.W.mg_of X G a27, k27, b27⟩
  have K__law_made : Cal l.prog w K mg base CX0 6 "_law_made" ["_law_many"] (sp__law_made C_Rule) := ⟨f28, _, ok__law_made F28 T m_isinstance K_Rule___init__, PySem.W.mg_of X G a28, k28, b28⟩
  have K__law_made_base : Cal l.prog w K mg base CX0 6 "_law_made_base" ["_law_many"] sp__law_made_base := ⟨f29, _, ok__law_made_base F29 T m_ValueError m_isinstance K_Rule___init__, PySem.W.mg_of X G a29, k29, b29⟩
  have K__law_shares : Cal l.prog w K mg base CX0 4 "_law_shares" ["_law_rule", "_law_lot_here"] (sp__law_shares C_Rule C_Ratio) := ⟨f30, _, ok__law_shares F30 T m_isinstance K_Rule_shares, PySem.W.mg_of X G a30, k30, b30⟩
  have K__law_away : Cal l.prog w K mg base CX0 7 "_law_away" ["_law_rule", "_law_lot_here"] (sp__law_away C_Rule) := ⟨f31, _, ok__law_away F31 T m_isinstance K_Rule_away, PySem.W.mg_of X G a31, k31, b31⟩
  have K__law_worth : Cal l.prog w K mg base CX0 7 "_law_worth" ["_law_rule", "_law_lot_here", "_law_prices"] (sp__law_worth C_Rule C_Ratio) := ⟨f32, _, ok__law_worth F32 T m_isinstance K_Rule_worth, PySem.W.mg_of X G a32, k32, b32⟩
  have K__law_base : Cal l.prog w K mg base CX0 7 "_law_base" ["_law_rule", "_law_lot_here", "_law_prices"] (sp__law_base C_Rule) := ⟨f33, _, ok__law_base F33 T m_ValueError m_isinstance K_Rule_worth, PySem.W.mg_of X G a33, k33, b33⟩
  have K__law_prices_place : Cal l.prog w K mg base CX0 1 "_law_prices_place" ["_law_prices", "_law_many"] sp__law_prices_place := ⟨f34, _, ok__law_prices_place F34 T m_len m_range, PySem.W.mg_of X G a34, k34, b34⟩
  have K__law_noughts : Cal l.prog w K mg base CX0 3 "_law_noughts" ["_law_row_here", "_law_many"] (sp__law_noughts C_Ratio) := ⟨f35, _, ok__law_noughts F35 T m_isinstance m_len m_list K__law_same, PySem.W.mg_of X G a35, k35, b35⟩
  have K__law_good_shares : Cal l.prog w K mg base CX0 7 "_law_good_shares" ["_law_rule", "_law_lot_here", "_law_many"] (sp__law_good_shares C_Rule) := ⟨f36, _, ok__law_good_shares F36 T K_Rule_shares K_Rule_away K__law_shares K__law_noughts K__law_same, PySem.W.mg_of X G a36, k36, b36⟩
  have K__law_good_refusal : Cal l.prog w K mg base CX0 2 "_law_good_refusal" ["_law_told", "_law_place"] sp__law_good_refusal := ⟨f37, _, ok__law_good_refusal F37 T m_isinstance m_str K__law_is_int, PySem.W.mg_of X G a37, k37, b37⟩
  exact ok_law F38 T m_int m_isinstance m_list m_range m_tuple K_Rule_worth K__law_cell K__law_draws K__law_wide K__law_row K__law_is_int K__law_same K__law_is_lot K__law_any_lot K__law_any_prices K__law_made K__law_made_base K__law_shares K__law_away K__law_worth K__law_base K__law_prices_place K__law_good_shares K__law_good_refusal
end K14
open PySem PySem.W PyProof.Rows
set_option pp.maxSteps 400 in
set_option maxHeartbeats 0 in
theorem PySem.Challenge.cw_dearestshelf_k14_rule_takes_nothing_holds : PySem.Challenge.rw_dearestshelf_k14_rule_takes_nothing.Holds := by
  w_on; o_law; k_head; (case hw => w_witness2)
  k_fill
  refine L2.walk_of (l := PySem.Challenge.rw_dearestshelf_k14_rule_takes_nothing) (n := 63) (k := 8) (x := "_law_script") (CX := fun _ => L2.CX0) (sp := fun w => K14.sp_law _) rfl (by decide) rfl ⟨rfl, by decide, by decide⟩ (fun w h Y => PySem.W.kIn_of Y) ?F (fun _ _ a ns hl _ hS => ⟨a, ns, rfl, hS, hl, fun _ => rfl⟩) (fun _ _ _ _ _ h => h)
  case F =>
    intro w mg fa h KX G hmg
    refine' K14.all_mk KX G hmg ?a_Rule ?kc_Rule ?hd_Rule ?ha_Rule ?hm_Rule ?pg_Rule ?po_Rule ?sa_Rule ?mk_Rule ?n_Rule_many ?a_Ratio ?kc_Ratio ?hd_Ratio ?ha_Ratio ?hm_Ratio ?pg_Ratio ?po_Ratio ?sa_Ratio ?mk_Ratio ?n_Ratio_top ?n_Ratio_bottom ?ss_Ratio ?sb_Ratio ?sy_Ratio ?sf_Ratio ?si_Ratio ?sr_Ratio ?rf_Ratio_add ?of_Ratio_add ?inta_add ?intr_add ?rf_Ratio_sub ?of_Ratio_sub ?inta_sub ?intr_sub ?rf_Ratio_mul ?of_Ratio_mul ?inta_mul ?intr_mul ?a_BadNumber ?kc_BadNumber ?hd_BadNumber ?ha_BadNumber ?hm_BadNumber ?b_BadNumber ?t_BadNumber ?ga_BadNumber ?gg_BadNumber ?ol_BadNumber ?or_BadNumber ?sa_BadNumber ?n_BadNumber_what ?n_BadNumber_at ?a_TooMany ?kc_TooMany ?hd_TooMany ?ha_TooMany ?hm_TooMany ?b_TooMany ?t_TooMany ?ga_TooMany ?gg_TooMany ?ol_TooMany ?or_TooMany ?sa_TooMany ?n_TooMany_many ?n_TooMany_most ?a_ZeroBottom ?kc_ZeroBottom ?hd_ZeroBottom ?ha_ZeroBottom ?hm_ZeroBottom ?b_ZeroBottom ?t_ZeroBottom ?ga_ZeroBottom ?gg_ZeroBottom ?x_ZeroBottom ?a_BadLot ?kc_BadLot ?hd_BadLot ?ha_BadLot ?hm_BadLot ?b_BadLot ?t_BadLot ?ga_BadLot ?gg_BadLot ?x_BadLot ?a_ShelfError ?kc_ShelfError ?hd_ShelfError ?ha_ShelfError ?hm_ShelfError ?b_ShelfError ?t_ShelfError ?ga_ShelfError ?gg_ShelfError ?hnc ?htk ?sub_BadNumber_BadNumber ?sub_BadLot_BadNumber ?sub_BadLot_BadLot ?sub_BadNumber_ShelfError ?sub_BadLot_ShelfError ?sub_TooMany_TooMany ?sub_TooMany_ShelfError ?kit_Ratio_Ratio ?kit_int_Ratio ?kit_Rule_Rule ?kit_BadNumber_BadLot ?kit_BadLot_BadNumber ?kit_BadNumber_ValueError ?kit_BadLot_ValueError ?kit_TooMany_ValueError ?kit_TooMany_TooMany ?kit_TooMany_BadNumber ?a_gcd ?a_MOST_THINGS ?a1 ?i1 ?l1 ?c1 ?k1 ?a2 ?i2 ?l2 ?c2 ?k2 ?a3 ?l3 ?c3 ?k3 ?a4 ?l4 ?c4 ?k4 ?a5 ?l5 ?c5 ?k5 ?a6 ?l6 ?c6 ?k6 ?a7 ?i7 ?l7 ?c7 ?k7 ?a8 ?l8 ?c8 ?k8 ?a9 ?i9 ?l9 ?lt9 ?c9 ?k9 ?a10 ?l10 ?c10 ?k10 ?a11 ?i11 ?l11 ?c11 ?k11 ?a12 ?i12 ?l12 ?c12 ?k12 ?a13 ?i13 ?l13 ?c13 ?k13 ?a14 ?i14 ?l14 ?c14 ?k14 ?a15 ?i15 ?l15 ?c15 ?k15 ?a16 ?i16 ?l16 ?c16 ?k16 ?a17 ?i17 ?l17 ?c17 ?k17 ?a18 ?l18 ?c18 ?k18 ?a19 ?l19 ?c19 ?k19 ?a20 ?l20 ?c20 ?k20 ?a21 ?l21 ?c21 ?k21 ?a22 ?l22 ?c22 ?k22 ?a23 ?l23 ?c23 ?k23 ?a24 ?l24 ?c24 ?k24 ?a25 ?l25 ?c25 ?k25 ?a26 ?l26 ?c26 ?k26 ?a27 ?l27 ?c27 ?k27 ?a28 ?l28 ?c28 ?k28 ?a29 ?l29 ?c29 ?k29 ?a30 ?l30 ?c30 ?k30 ?a31 ?l31 ?c31 ?k31 ?a32 ?l32 ?c32 ?k32 ?a33 ?l33 ?c33 ?k33 ?a34 ?l34 ?c34 ?k34 ?a35 ?l35 ?c35 ?k35 ?a36 ?l36 ?c36 ?k36 ?a37 ?l37 ?c37 ?k37 ?a38 ?l38 ?c38 ?k38 ?z_ValueError ?z_bool ?z_enumerate ?z_int ?z_isinstance ?z_len ?z_list ?z_range ?z_str ?z_sum ?z_tuple
    (case a_Rule => k_is); (case kc_Rule => k_is); (case hd_Rule => k_is); (case ha_Rule => k_is); (case hm_Rule => k_is); (case pg_Rule => k_is); (case po_Rule => k_is); (case sa_Rule => k_is); (case mk_Rule => k_is); (case n_Rule_many => k_is); (case a_Ratio => k_is); (case kc_Ratio => k_is); (case hd_Ratio => k_is); (case ha_Ratio => k_is); (case hm_Ratio => k_is); (case pg_Ratio => k_is); (case po_Ratio => k_is); (case sa_Ratio => k_is); (case mk_Ratio => k_is); (case n_Ratio_top => k_is); (case n_Ratio_bottom => k_is); (case ss_Ratio => (first | k_is | decide +kernel)); (case sb_Ratio => (first | k_is | decide +kernel)); (case sy_Ratio => (first | k_is | decide +kernel)); (case sf_Ratio => k_is); (case si_Ratio => (first | k_is | decide +kernel)); (case sr_Ratio => (first | k_is | decide +kernel)); (case rf_Ratio_add => k_is); (case of_Ratio_add => k_is); (case inta_add => k_is); (case intr_add => k_is); (case rf_Ratio_sub => k_is); (case of_Ratio_sub => k_is); (case inta_sub => k_is); (case intr_sub => k_is); (case rf_Ratio_mul => k_is); (case of_Ratio_mul => k_is); (case inta_mul => k_is); (case intr_mul => k_is); (case a_BadNumber => k_is); (case kc_BadNumber => k_is); (case hd_BadNumber => k_is); (case ha_BadNumber => k_is); (case hm_BadNumber => k_is); (case b_BadNumber => k_is); (case t_BadNumber => k_is); (case ga_BadNumber => k_is); (case gg_BadNumber => k_is); (case ol_BadNumber => k_is); (case or_BadNumber => rfl); (case sa_BadNumber => k_is); (case n_BadNumber_what => k_is); (case n_BadNumber_at => k_is); (case a_TooMany => k_is); (case kc_TooMany => k_is); (case hd_TooMany => k_is); (case ha_TooMany => k_is); (case hm_TooMany => k_is); (case b_TooMany => k_is); (case t_TooMany => k_is); (case ga_TooMany => k_is); (case gg_TooMany => k_is); (case ol_TooMany => k_is); (case or_TooMany => rfl); (case sa_TooMany => k_is); (case n_TooMany_many => k_is); (case n_TooMany_most => k_is); (case a_ZeroBottom => k_is); (case kc_ZeroBottom => k_is); (case hd_ZeroBottom => k_is); (case ha_ZeroBottom => k_is); (case hm_ZeroBottom => k_is); (case b_ZeroBottom => k_is); (case t_ZeroBottom => k_is); (case ga_ZeroBottom => k_is); (case gg_ZeroBottom => k_is); (case x_ZeroBottom => k_exc); (case a_BadLot => k_is); (case kc_BadLot => k_is); (case hd_BadLot => k_is); (case ha_BadLot => k_is); (case hm_BadLot => k_is); (case b_BadLot => k_is); (case t_BadLot => k_is); (case ga_BadLot => k_is); (case gg_BadLot => k_is); (case x_BadLot => k_exc); (case a_ShelfError => k_is); (case kc_ShelfError => k_is); (case hd_ShelfError => k_is); (case ha_ShelfError => k_is); (case hm_ShelfError => k_is); (case b_ShelfError => k_is); (case t_ShelfError => k_is); (case ga_ShelfError => k_is); (case gg_ShelfError => k_is); (case hnc => k_is); (case htk => k_is); (case sub_BadNumber_BadNumber => (first | rfl | k_is)); (case sub_BadLot_BadNumber => (first | rfl | k_is)); (case sub_BadLot_BadLot => (first | rfl | k_is)); (case sub_BadNumber_ShelfError => (first | rfl | k_is)); (case sub_BadLot_ShelfError => (first | rfl | k_is)); (case sub_TooMany_TooMany => (first | rfl | k_is)); (case sub_TooMany_ShelfError => (first | rfl | k_is)); (case kit_Ratio_Ratio => kit_is); (case kit_int_Ratio => kit_is); (case kit_Rule_Rule => kit_is); (case kit_BadNumber_BadLot => kit_is); (case kit_BadLot_BadNumber => kit_is); (case kit_BadNumber_ValueError => kit_is); (case kit_BadLot_ValueError => kit_is); (case kit_TooMany_ValueError => kit_is); (case kit_TooMany_TooMany => kit_is); (case kit_TooMany_BadNumber => kit_is); (case a_gcd => k_is); (case a_MOST_THINGS => k_is); (case a1 => k_is); (case i1 => k_is); (case l1 => k_is); (case c1 => k_is); (case k1 => k_is); (case a2 => k_is); (case i2 => k_is); (case l2 => k_is); (case c2 => k_is); (case k2 => k_is); (case a3 => k_is); (case l3 => k_is); (case c3 => k_is); (case k3 => k_is); (case a4 => k_is); (case l4 => k_is); (case c4 => k_is); (case k4 => k_is); (case a5 => k_is); (case l5 => k_is); (case c5 => k_is); (case k5 => k_is); (case a6 => k_is); (case l6 => k_is); (case c6 => k_is); (case k6 => k_is); (case a7 => k_is); (case i7 => k_is); (case l7 => k_is); (case c7 => k_is); (case k7 => k_is); (case a8 => k_is); (case l8 => k_is); (case c8 => k_is); (case k8 => k_is); (case a9 => k_is); (case i9 => k_is); (case l9 => k_is); (case lt9 => k_is); (case c9 => k_is); (case k9 => k_is); (case a10 => k_is); (case l10 => k_is); (case c10 => k_is); (case k10 => k_is); (case a11 => k_is); (case i11 => k_is); (case l11 => k_is); (case c11 => k_is); (case k11 => k_is); (case a12 => k_is); (case i12 => k_is); (case l12 => k_is); (case c12 => k_is); (case k12 => k_is); (case a13 => k_is); (case i13 => k_is); (case l13 => k_is); (case c13 => k_is); (case k13 => k_is); (case a14 => k_is); (case i14 => k_is); (case l14 => k_is); (case c14 => k_is); (case k14 => k_is); (case a15 => k_is); (case i15 => k_is); (case l15 => k_is); (case c15 => k_is); (case k15 => k_is); (case a16 => k_is); (case i16 => k_is); (case l16 => k_is); (case c16 => k_is); (case k16 => k_is); (case a17 => k_is); (case i17 => k_is); (case l17 => k_is); (case c17 => k_is); (case k17 => k_is); (case a18 => k_is); (case l18 => k_is); (case c18 => k_is); (case k18 => k_is); (case a19 => k_is); (case l19 => k_is); (case c19 => k_is); (case k19 => k_is); (case a20 => k_is); (case l20 => k_is); (case c20 => k_is); (case k20 => k_is); (case a21 => k_is); (case l21 => k_is); (case c21 => k_is); (case k21 => k_is); (case a22 => k_is); (case l22 => k_is); (case c22 => k_is); (case k22 => k_is); (case a23 => k_is); (case l23 => k_is); (case c23 => k_is); (case k23 => k_is); (case a24 => k_is); (case l24 => k_is); (case c24 => k_is); (case k24 => k_is); (case a25 => k_is); (case l25 => k_is); (case c25 => k_is); (case k25 => k_is); (case a26 => k_is); (case l26 => k_is); (case c26 => k_is); (case k26 => k_is); (case a27 => k_is); (case l27 => k_is); (case c27 => k_is); (case k27 => k_is); (case a28 => k_is); (case l28 => k_is); (case c28 => k_is); (case k28 => k_is); (case a29 => k_is); (case l29 => k_is); (case c29 => k_is); (case k29 => k_is); (case a30 => k_is); (case l30 => k_is); (case c30 => k_is); (case k30 => k_is); (case a31 => k_is); (case l31 => k_is); (case c31 => k_is); (case k31 => k_is); (case a32 => k_is); (case l32 => k_is); (case c32 => k_is); (case k32 => k_is); (case a33 => k_is); (case l33 => k_is); (case c33 => k_is); (case k33 => k_is); (case a34 => k_is); (case l34 => k_is); (case c34 => k_is); (case k34 => k_is); (case a35 => k_is); (case l35 => k_is); (case c35 => k_is); (case k35 => k_is); (case a36 => k_is); (case l36 => k_is); (case c36 => k_is); (case k36 => k_is); (case a37 => k_is); (case l37 => k_is); (case c37 => k_is); (case k37 => k_is); (case a38 => k_is); (case l38 => k_is); (case c38 => k_is); (case k38 => k_is); (case z_ValueError => k_is); (case z_bool => k_is); (case z_enumerate => k_is); (case z_int => k_is); (case z_isinstance => k_is); (case z_len => k_is); (case z_list => k_is); (case z_range => k_is); (case z_str => k_is); (case z_sum => k_is); (case z_tuple => k_is)
