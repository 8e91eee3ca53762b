import PyProof.Rows.All
import Wide.All
import OpenK.AllK
import Wide.FinOn
import HandS.ForMost
import HandS.ForExc
import HandS.Wide
import HandS.IsInst
import HandS.More
import HandS.Conv
import HandS.Evl
import HandS.ExcIs
import HandS.Defaults
import HandS.ExcInit
import HandS.ExcField
import HandS.TryMany
import HandS.Nested
import HandS.ClsMeth
import HandS.Iter
import HandS.Walk
import HandS.Style
import HandS.ListEq
import KE.KSuper
import KE.RegKSuper
import KE.KExcIs
import KE.RegKIsAll
import HandS.OwnEq
import HandS.Gcd
import HandS.SortKw
import HandS.TupAny
import HandS.Star
import HandS.SetFor
import HandS.Set
import HandS.NoneIn
import KE.KUnpackStar
import PySem.Challenge.RW_dearestshelf_k24_tabled_shares
set_option Elab.async false
set_option linter.all false
set_option maxRecDepth 100000
set_option maxHeartbeats 8000000
set_option exponentiation.threshold 10000
namespace K24
open PySem PySem.Spec PyProof.Rows L2
def top (i : Nat) : Stmt := PySem.Challenge.pw_dearestshelf_k24_tabled_shares.main.body.getD i (.Pass ⟨0, 0, 0, 0⟩)
abbrev s_TooMany___init__ : Stmt := inClass (top 7) 0
theorem sc_TooMany___init__ : FnScope ["self", "many", "most"] ["self", "many", "most"] (defScope s_TooMany___init__) := ⟨rfl, rfl, rfl, by decide +kernel, rfl, by decide +kernel, by decide +kernel⟩
abbrev s_BadTable___init__ : Stmt := inClass (top 8) 0
theorem sc_BadTable___init__ : FnScope ["self", "at"] ["self", "at"] (defScope s_BadTable___init__) := ⟨rfl, rfl, rfl, by decide +kernel, rfl, by decide +kernel, by decide +kernel⟩
abbrev s_check_many : Stmt := top 10
theorem sc_check_many : FnScope ["many", "most"] ["many", "most"] (defScope s_check_many) := ⟨rfl, rfl, rfl, by decide +kernel, rfl, by decide +kernel, by decide +kernel⟩
abbrev s_Rule___init__ : Stmt := inClass (top 25) 0
theorem sc_Rule___init__ : FnScope ["self", "many"] ["self", "many"] (defScope s_Rule___init__) := ⟨rfl, rfl, rfl, by decide +kernel, rfl, by decide +kernel, by decide +kernel⟩
abbrev s_check_lot : Stmt := top 11
theorem sc_check_lot : FnScope ["lot", "many", "before", "thing"] ["lot", "many"] (defScope s_check_lot) := ⟨rfl, rfl, rfl, by decide +kernel, rfl, by decide +kernel, by decide +kernel⟩
abbrev s_lot_number : Stmt := top 14
theorem sc_lot_number : FnScope ["lot", "thing"] ["lot"] (defScope s_lot_number) := ⟨rfl, rfl, rfl, by decide +kernel, rfl, by decide +kernel, by decide +kernel⟩
abbrev s_lot_at : Stmt := top 15
theorem sc_lot_at : FnScope ["number", "many", "thing"] ["number", "many"] (defScope s_lot_at) := ⟨rfl, rfl, rfl, by decide +kernel, rfl, by decide +kernel, by decide +kernel⟩
abbrev s__fits : Stmt := top 29
theorem sc__fits : FnScope ["row", "lot", "total", "counts", "thing", "count"] ["row", "lot"] (defScope s__fits) := ⟨rfl, rfl, rfl, by decide +kernel, rfl, by decide +kernel, by decide +kernel⟩
abbrev s_common_divisor : Stmt := top 18
theorem sc_common_divisor : FnScope ["numbers", "divisor", "number"] ["numbers"] (defScope s_common_divisor) := ⟨rfl, rfl, rfl, by decide +kernel, rfl, by decide +kernel, by decide +kernel⟩
abbrev s__reduced_row : Stmt := top 30
theorem sc__reduced_row : FnScope ["row", "divisor", "item"] ["row"] (defScope s__reduced_row) := ⟨rfl, rfl, rfl, by decide +kernel, rfl, by decide +kernel, by decide +kernel⟩
abbrev s_Tabled___init__ : Stmt := inClass (top 28) 0
theorem sc_Tabled___init__ : NdefX.NScope ["self", "many", "rows", "__class__", "number", "row"] ["self", "many", "rows"] ["__class__"] (defScope s_Tabled___init__) := NdefX.nscope_by (by decide +kernel)
abbrev s_Ratio___init__ : Stmt := inClass (top 17) 0
theorem sc_Ratio___init__ : FnScope ["self", "top", "bottom", "divisor"] ["self", "top", "bottom"] (defScope s_Ratio___init__) := ⟨rfl, rfl, rfl, by decide +kernel, rfl, by decide +kernel, by decide +kernel⟩
abbrev s__as_ratio : Stmt := top 21
theorem sc__as_ratio : FnScope ["number"] ["number"] (defScope s__as_ratio) := ⟨rfl, rfl, rfl, by decide +kernel, rfl, by decide +kernel, by decide +kernel⟩
abbrev s_Ratio___neg__ : Stmt := inClass (top 17) 12
theorem sc_Ratio___neg__ : FnScope ["self"] ["self"] (defScope s_Ratio___neg__) := ⟨rfl, rfl, rfl, by decide +kernel, rfl, by decide +kernel, by decide +kernel⟩
abbrev s_Ratio___add__ : Stmt := inClass (top 17) 4
theorem sc_Ratio___add__ : FnScope ["self", "other", "addend"] ["self", "other"] (defScope s_Ratio___add__) := ⟨rfl, rfl, rfl, by decide +kernel, rfl, by decide +kernel, by decide +kernel⟩
abbrev s_Ratio___rsub__ : Stmt := inClass (top 17) 7
theorem sc_Ratio___rsub__ : FnScope ["self", "other"] ["self", "other"] (defScope s_Ratio___rsub__) := ⟨rfl, rfl, rfl, by decide +kernel, rfl, by decide +kernel, by decide +kernel⟩
abbrev s_Tabled_shares : Stmt := inClass (top 28) 3
theorem sc_Tabled_shares : FnScope ["self", "lot", "total", "counts", "count"] ["self", "lot"] (defScope s_Tabled_shares) := ⟨rfl, rfl, rfl, by decide +kernel, rfl, by decide +kernel, by decide +kernel⟩
abbrev s_Rule_away : Stmt := inClass (top 25) 2
theorem sc_Rule_away : FnScope ["self", "lot"] ["self", "lot"] (defScope s_Rule_away) := ⟨rfl, rfl, rfl, by decide +kernel, rfl, by decide +kernel, by decide +kernel⟩
abbrev s_Tabled___eq__ : Stmt := inClass (top 28) 2
theorem sc_Tabled___eq__ : FnScope ["self", "other"] ["self", "other"] (defScope s_Tabled___eq__) := ⟨rfl, rfl, rfl, by decide +kernel, rfl, by decide +kernel, by decide +kernel⟩
abbrev s__law_cell : Stmt := top 32
theorem sc__law_cell : FnScope ["_law_script", "_law_place"] ["_law_script", "_law_place"] (defScope s__law_cell) := ⟨rfl, rfl, rfl, by decide +kernel, rfl, by decide +kernel, by decide +kernel⟩
abbrev s__law_draws : Stmt := top 33
theorem sc__law_draws : FnScope ["_law_cell_here", "_law_sizes", "_law_size", "_law_left", "_law_found", "_law_k", "_law_low", "_law_high"] ["_law_cell_here", "_law_sizes"] (defScope s__law_draws) := ⟨rfl, rfl, rfl, by decide +kernel, rfl, by decide +kernel, by decide +kernel⟩
abbrev s__law_lot : Stmt := top 34
theorem sc__law_lot : FnScope ["_law_bits", "_law_many", "_law_found", "_law_left", "_law_thing"] ["_law_bits", "_law_many"] (defScope s__law_lot) := ⟨rfl, rfl, rfl, by decide +kernel, rfl, by decide +kernel, by decide +kernel⟩
abbrev s__law_power : Stmt := top 35
theorem sc__law_power : FnScope ["_law_many", "_law_power_here", "_law_k"] ["_law_many"] (defScope s__law_power) := ⟨rfl, rfl, rfl, by decide +kernel, rfl, by decide +kernel, by decide +kernel⟩
abbrev s__law_is_int : Stmt := top 36
theorem sc__law_is_int : FnScope ["_law_x"] ["_law_x"] (defScope s__law_is_int) := ⟨rfl, rfl, rfl, by decide +kernel, rfl, by decide +kernel, by decide +kernel⟩
abbrev s__law_same : Stmt := top 37
theorem sc__law_same : FnScope ["_law_x", "_law_top", "_law_bottom"] ["_law_x", "_law_top", "_law_bottom"] (defScope s__law_same) := ⟨rfl, rfl, rfl, by decide +kernel, rfl, by decide +kernel, by decide +kernel⟩
abbrev s__law_same_lot : Stmt := top 38
theorem sc__law_same_lot : FnScope ["_law_x", "_law_due", "_law_k"] ["_law_x", "_law_due"] (defScope s__law_same_lot) := ⟨rfl, rfl, rfl, by decide +kernel, rfl, by decide +kernel, by decide +kernel⟩
abbrev s__law_same_row : Stmt := top 39
theorem sc__law_same_row : FnScope ["_law_x", "_law_pairs", "_law_k"] ["_law_x", "_law_pairs"] (defScope s__law_same_row) := ⟨rfl, rfl, rfl, by decide +kernel, rfl, by decide +kernel, by decide +kernel⟩
abbrev s__law_pool : Stmt := top 40
theorem sc__law_pool : FnScope ["_law_low", "_law_high", "_law_pool_here", "_law_cell_here", "_law_drawn", "_law_bound", "_law_value", "_law_k"] ["_law_low", "_law_high"] (defScope s__law_pool) := ⟨rfl, rfl, rfl, by decide +kernel, rfl, by decide +kernel, by decide +kernel⟩
abbrev s__law_rows : Stmt := top 41
theorem sc__law_rows : FnScope ["_law_pool_here", "_law_many", "_law_size", "_law_rows_here", "_law_number", "_law_lot_here", "_law_part", "_law_counts", "_law_k", "_law_thing"] ["_law_pool_here", "_law_many"] (defScope s__law_rows) := ⟨rfl, rfl, rfl, by decide +kernel, rfl, by decide +kernel, by decide +kernel⟩
abbrev s__law_refuses : Stmt := top 48
theorem sc__law_refuses : FnScope ["_law_rule", "_law_lot_here", "_law_refused"] ["_law_rule", "_law_lot_here"] (defScope s__law_refuses) := ⟨rfl, rfl, rfl, by decide +kernel, rfl, by decide +kernel, by decide +kernel⟩
abbrev s__law_kept : Stmt := top 46
theorem sc__law_kept : FnScope ["_law_told", "_law_due", "_law_k"] ["_law_told", "_law_due"] (defScope s__law_kept) := ⟨rfl, rfl, rfl, by decide +kernel, rfl, by decide +kernel, by decide +kernel⟩
abbrev s__law_times_all : Stmt := top 42
theorem sc__law_times_all : FnScope ["_law_rows_here", "_law_factor", "_law_step", "_law_found", "_law_number", "_law_by", "_law_item"] ["_law_rows_here", "_law_factor", "_law_step"] (defScope s__law_times_all) := ⟨rfl, rfl, rfl, by decide +kernel, rfl, by decide +kernel, by decide +kernel⟩
abbrev s__law_changed : Stmt := top 43
theorem sc__law_changed : FnScope ["_law_rows_here", "_law_number", "_law_place", "_law_many", "_law_row", "_law_found", "_law_at", "_law_thing"] ["_law_rows_here", "_law_number", "_law_place", "_law_many"] (defScope s__law_changed) := ⟨rfl, rfl, rfl, by decide +kernel, rfl, by decide +kernel, by decide +kernel⟩
abbrev s__law_all_shares : Stmt := top 47
theorem sc__law_all_shares : FnScope ["_law_table", "_law_rows_here", "_law_many", "_law_number", "_law_row", "_law_lot_here", "_law_count"] ["_law_table", "_law_rows_here", "_law_many"] (defScope s__law_all_shares) := ⟨rfl, rfl, rfl, by decide +kernel, rfl, by decide +kernel, by decide +kernel⟩
abbrev s__law_gcd : Stmt := top 44
theorem sc__law_gcd : FnScope ["_law_a", "_law_b", "_law_k"] ["_law_a", "_law_b"] (defScope s__law_gcd) := ⟨rfl, rfl, rfl, by decide +kernel, rfl, by decide +kernel, by decide +kernel⟩
abbrev s__law_divided : Stmt := top 45
theorem sc__law_divided : FnScope ["_law_rows_here", "_law_found", "_law_row", "_law_shared", "_law_number"] ["_law_rows_here"] (defScope s__law_divided) := ⟨rfl, rfl, rfl, by decide +kernel, rfl, by decide +kernel, by decide +kernel⟩
abbrev s_law : Stmt := top 49
theorem sc_law : FnScope ["_law_script", "_law_drawn", "_law_many", "_law_pool_here", "_law_base", "_law_rows_here", "_law_wide", "_law_handed", "_law_table", "_law_other", "_law_due", "_law_wrong", "_law_told", "_law_alike", "_law_row", "_law_thing"] ["_law_script"] (defScope s_law) := ⟨rfl, rfl, rfl, by decide +kernel, rfl, by decide +kernel, by decide +kernel⟩

/-! ### mathematics of draws -/
def Within : List Int → List Int → Prop
  | [], [] => True
  | d :: ds, n :: ns => (0 ≤ d ∧ d < n) ∧ Within ds ns
  | _, _ => False
theorem Within.len : ∀ {ds ns : List Int}, Within ds ns → ds.length = ns.length
  | [], [], _ => rfl
  | _ :: ds, _ :: ns, h => by
    rw [List.length_cons, List.length_cons, Within.len h.2]
  | [], _ :: _, h => h.elim
  | _ :: _, [], h => h.elim
theorem Within.snoc : ∀ {ds ns : List Int} {d n : Int}, Within ds ns → 0 ≤ d → d < n → Within (ds ++ [d]) (ns ++ [n])
  | [], [], d, n, _, h0, h1 => ⟨⟨h0, h1⟩, True.intro⟩
  | _ :: ds, _ :: ns, d, n, h, h0, h1 => ⟨h.1, Within.snoc h.2 h0 h1⟩
  | [], _ :: _, _, _, h, _, _ => h.elim
  | _ :: _, [], _, _, h, _, _ => h.elim
theorem Within.step {ds ns : List Int} {d n : Int} {i : Nat} (h : Within ds (ns.take i)) (hi : ns[i]? = some n) (h0 : 0 ≤ d) (h1 : d < n) : Within (ds ++ [d]) (ns.take (i + 1)) := by
  rw [List.take_add_one, hi]
  exact h.snoc h0 h1
theorem Within.zero (ns : List Int) : Within [] (ns.take 0) := by
  rw [List.take_zero]
  exact True.intro
theorem Within.full {ds ns : List Int} (h : Within ds (ns.take ns.length)) : Within ds ns := by
  rw [List.take_length] at h
  exact h
theorem int_of {ns : List Int} {i : Nat} {x : V} (h : (ns.map V.int)[i]? = some x) : ∃ n, x = .int n ∧ ns[i]? = some n := by
  rw [List.getElem?_map] at h
  cases e : ns[i]? with
  | none =>
    rw [e] at h
    cases h
  | some z =>
    rw [e] at h
    exact ⟨z, (Option.some.inj h).symm, rfl⟩
theorem int_at {ns : List Int} {i : Nat} {n : Int} (h : ns[i]? = some n) : (ns.map V.int)[i]? = some (.int n) := by
  rw [List.getElem?_map, h]
  rfl
theorem snoc_int (ds : List Int) (d : Int) : ds.map V.int ++ [V.int d] = (ds ++ [d]).map V.int := by
  rw [List.map_append]
  rfl
theorem same_upd {H : Hp} {p : Addr} {o : HO} (h : H p = none) : Same H (upd H p o) := fun b x e => by
  rw [upd_ne (ne_of_none e h)]
  exact e
theorem same_mut {H H1 : Hp} {p : Addr} {o : HO} (s : Same H H1) (h : H p = none) : Same H (upd H1 p o) := fun b x e => by
  rw [upd_ne (ne_of_none e h)]
  exact s b x e
theorem same_tup {K : PySem.W.Frag} {H H' : Hp} {a : Addr} {xs : List V} (e : Same H H') (h : SqT K H a xs) : SqT K H' a xs := by
  rcases h with (h | ⟨o, h⟩) | h
  · exact .inl (.inl (e _ _ h))
  · exact .inl (.inr ⟨o, e _ _ h⟩)
  · exact .inr h
theorem w_div {j : Int} (h : 0 < j) (hb : j < 2 ^ 100) : CDivW 0 j := wide_div (b := 100) h (by omega) (by decide) (by decide)
theorem lst_l {K : PySem.W.Frag} {H : Hp} {a : Addr} {xs : List V} (h : H a = some (.lst xs)) : SqL K H a xs := .inl (.inl h)
theorem tup_t {K : PySem.W.Frag} {H : Hp} {a : Addr} {xs : List V} (h : H a = some (.tup xs)) : SqT K H a xs := .inl (.inl h)
theorem lc_yes {σ : L2.St} {H : Hp} {F : Bool → Hp → Prop} (h : F true H) : tYes σ H F := h
theorem Within.c {ds ns : List Int} {n : Int} (h : Within ds (n :: ns)) : ∃ d r, ds = d :: r ∧ 0 ≤ d ∧ d < n ∧ Within r ns := by
  cases ds with
  | nil => exact h.elim
  | cons d r => exact ⟨d, r, rfl, h.1.1, h.1.2, h.2⟩
theorem Within.n {ds : List Int} (h : Within ds []) : ds = [] := by
  cases ds with
  | nil => rfl
  | cons d r => exact h.elim
theorem kI : kitB "int" "int" = some true := by decide +kernel
theorem kB : kitB "int" "bool" = some false := by decide +kernel
theorem kT : kitB "tuple" "tuple" = some true := by decide +kernel

theorem cut_from (xs : List V) (k : Nat) : cutV xs (some (k : Int)) none = xs.drop k := by
  unfold cutV
  rw [HT.sIx_nat, HT.sIx_none]
  by_cases h : k ≤ xs.length
  · rw [Nat.min_eq_left h]
    exact List.take_of_length_le (by rw [List.length_drop]; exact Nat.le_refl _)
  · rw [Nat.min_eq_right (by omega), List.drop_of_length_le (Nat.le_refl _), List.drop_of_length_le (by omega), List.take_nil]
theorem cut_from1 (xs : List V) : cutV xs (some 1) none = xs.drop 1 := by
  unfold cutV
  rw [show HT.sIx xs.length 0 (some 1) = min 1 xs.length from HT.sIx_nat xs.length 0 1, HT.sIx_none]
  cases xs with
  | nil => rfl
  | cons x r =>
    rw [show min 1 (x :: r).length = 1 by
      rw [List.length_cons]
      omega]
    show (List.take ((x :: r).length - 1) r) = r
    rw [List.length_cons, Nat.add_sub_cancel]
    exact List.take_length
theorem big18 : (0 : Int) < 10 ^ 18 ∧ (10 : Int) ^ 18 < 2 ^ 100 := by decide
theorem cut_to (xs : List V) (k : Nat) : cutV xs none (some (k : Int)) = xs.take k := by
  unfold cutV
  rw [HT.sIx_none, HT.sIx_nat, List.drop_zero, Nat.sub_zero]
  by_cases h : k ≤ xs.length
  · rw [Nat.min_eq_left h]
  · rw [Nat.min_eq_right (by omega), List.take_of_length_le (Nat.le_refl _), List.take_of_length_le (by omega)]

theorem iteD {c A B : Prop} [Decidable c] (hc : c) (h : A) : if decide c = true then A else B := by
  rw [if_pos (decide_eq_true hc)]
  exact h
theorem iteDF {c A B : Prop} [Decidable c] (hc : ¬ c) (h : B) : if decide c = true then A else B := by
  rw [decide_eq_false hc]
  exact iteF h
/-! ### lowest terms -/
def rg (t b : Int) : Int := ((Nat.gcd t.natAbs b.natAbs : Nat) : Int)
def rd (t b : Int) : Int := if b < 0 then -(rg t b) else rg t b
def nT (t b : Int) : Int := t.fdiv (rd t b)
def nB (t b : Int) : Int := b.fdiv (rd t b)
/-- T over B is t over b in lowest terms -/
structure LowT (t b T B : Int) : Prop where
  pos : 0 < B
  eq : T * b = t * B
  leT : T.natAbs ≤ t.natAbs
  leB : B.natAbs ≤ b.natAbs
  cop : Nat.gcd T.natAbs B.natAbs = 1
theorem rg_pos {t b : Int} (h : b ≠ 0) : 0 < rg t b := by
  unfold rg
  have := Nat.gcd_pos_of_pos_right t.natAbs (Int.natAbs_pos.mpr h)
  omega
theorem rd_ne {t b : Int} (h : b ≠ 0) : rd t b ≠ 0 := by
  have := rg_pos (t := t) h
  unfold rd
  split <;> omega
theorem rd_abs (t b : Int) : (rd t b).natAbs = Nat.gcd t.natAbs b.natAbs := by
  unfold rd rg
  split <;> omega
theorem rd_dvd_t (t b : Int) : rd t b ∣ t := by
  rw [← Int.natAbs_dvd_natAbs, rd_abs]
  exact Nat.gcd_dvd_left ..
theorem rd_dvd_b (t b : Int) : rd t b ∣ b := by
  rw [← Int.natAbs_dvd_natAbs, rd_abs]
  exact Nat.gcd_dvd_right ..
theorem nT_mul {t b : Int} (h : b ≠ 0) : t = rd t b * nT t b := by
  obtain ⟨k, hk⟩ := rd_dvd_t t b
  have e : nT t b = k := by
    unfold nT
    conv => lhs; arg 1; rw [hk]
    exact Int.mul_fdiv_cancel_left k (rd_ne h)
  rw [e]
  exact hk
theorem nB_mul {t b : Int} (h : b ≠ 0) : b = rd t b * nB t b := by
  obtain ⟨k, hk⟩ := rd_dvd_b t b
  have e : nB t b = k := by
    unfold nB
    conv => lhs; arg 1; rw [hk]
    exact Int.mul_fdiv_cancel_left k (rd_ne h)
  rw [e]
  exact hk
theorem low {t b : Int} (h : b ≠ 0) : LowT t b (nT t b) (nB t b) := by
  have h1 := nT_mul (t := t) h
  have h2 := nB_mul (t := t) h
  have hg := rg_pos (t := t) h
  have hd := rd_ne (t := t) h
  have a1 : t.natAbs = (rd t b).natAbs * (nT t b).natAbs := by
    rw [← Int.natAbs_mul, ← h1]
  have a2 : b.natAbs = (rd t b).natAbs * (nB t b).natAbs := by
    rw [← Int.natAbs_mul, ← h2]
  have p : 0 < (rd t b).natAbs := Int.natAbs_pos.mpr hd
  refine ⟨?_, ?_, ?_, ?_, ?_⟩
  · by_cases hb : b < 0
    · have e : rd t b = -(rg t b) := if_pos hb
      rw [e] at h2
      by_cases hn : 0 < nB t b
      · exact hn
      · exfalso
        have : 0 ≤ -(rg t b) * nB t b := by
          rw [Int.neg_mul]
          have := Int.mul_nonneg (Int.le_of_lt hg) (show 0 ≤ -(nB t b) by omega)
          rw [Int.mul_neg] at this
          exact this
        omega
    · have e : rd t b = rg t b := if_neg hb
      rw [e] at h2
      by_cases hn : 0 < nB t b
      · exact hn
      · exfalso
        have := Int.mul_nonneg (Int.le_of_lt hg) (show 0 ≤ -(nB t b) by omega)
        rw [Int.mul_neg] at this
        omega
  · have e : nT t b * b = nT t b * (rd t b * nB t b) := congrArg (nT t b * ·) h2
    have e2 : t * nB t b = rd t b * nT t b * nB t b := congrArg (· * nB t b) h1
    rw [e, e2, ← Int.mul_assoc, Int.mul_comm (nT t b)]
  · rw [a1]
    exact Nat.le_mul_of_pos_left _ p
  · rw [a2]
    exact Nat.le_mul_of_pos_left _ p
  · have g := rd_abs t b
    rw [a1, a2, Nat.gcd_mul_left] at g
    have : (rd t b).natAbs * 1 = (rd t b).natAbs * Nat.gcd (nT t b).natAbs (nB t b).natAbs := by
      rw [Nat.mul_one]
      have e1 := congrArg Int.natAbs h1
      have e2 := congrArg Int.natAbs h2
      rw [Int.natAbs_mul] at e1 e2
      exact g
    exact (Nat.eq_of_mul_eq_mul_left p this).symm
theorem low_uniq {t b T B T' B' : Int} (hb : b ≠ 0) (h : LowT t b T B) (h' : LowT t b T' B') : T = T' ∧ B = B' := by
  have e : T * B' = T' * B := by
    have h1 : T * B' * b = T' * B * b := by
      have x1 : T * B' * b = (T * b) * B' := by rw [Int.mul_assoc, Int.mul_comm B', ← Int.mul_assoc]
      have x2 : T' * B * b = (T' * b) * B := by rw [Int.mul_assoc, Int.mul_comm B, ← Int.mul_assoc]
      rw [x1, x2, h.eq, h'.eq, Int.mul_assoc, Int.mul_assoc, Int.mul_comm B]
    exact Int.eq_of_mul_eq_mul_right hb h1
  have n : T.natAbs * B'.natAbs = T'.natAbs * B.natAbs := by
    rw [← Int.natAbs_mul, ← Int.natAbs_mul, e]
  have d1 : B.natAbs ∣ B'.natAbs := by
    have : B.natAbs ∣ T.natAbs * B'.natAbs := n ▸ Nat.dvd_mul_left ..
    exact (Nat.Coprime.symm h.cop).dvd_of_dvd_mul_left this
  have d2 : B'.natAbs ∣ B.natAbs := by
    have : B'.natAbs ∣ T'.natAbs * B.natAbs := n ▸ Nat.dvd_mul_left ..
    exact (Nat.Coprime.symm h'.cop).dvd_of_dvd_mul_left this
  have eb : B.natAbs = B'.natAbs := Nat.dvd_antisymm d1 d2
  have p := h.pos
  have p' := h'.pos
  have eB : B = B' := by omega
  subst eB
  exact ⟨Int.eq_of_mul_eq_mul_right (by omega) e, rfl⟩
/-! ### Euclid's turns -/
/-- ahead of turn i; g the greatest common divisor, the first product below 6 ^ m -/
structure Eu (g m i : Nat) (a b : Nat) : Prop where
  gc : Nat.gcd a b = g
  pot : (i = 0 ∧ a * b < 6 ^ m) ∨ (∃ j, i = 2 * j + 1 ∧ b ≤ a ∧ 0 < a ∧ a * b * 6 ^ j < 6 ^ m) ∨ (∃ j, i = 2 * j + 2 ∧ b ≤ a ∧ 0 < a ∧ (a + b) * a * 6 ^ j < 6 ^ m)
theorem eu_zero {g m i a : Nat} (h : Eu g m i a 0) : a = g := by
  have := h.gc
  rw [Nat.gcd_zero_right] at this
  exact this
theorem six_br {a b r : Nat} (h : b + r ≤ a) (hr : r ≤ b) : b * r * 6 ≤ (a + b) * a := by
  obtain ⟨c, rfl⟩ : ∃ c, b = r + c := ⟨b - r, by omega⟩
  have h1 : (r + c + r + (r + c)) * (r + c + r) ≤ (a + (r + c)) * a := Nat.mul_le_mul (by omega) h
  refine Nat.le_trans ?_ h1
  have e1 : (r + c) * r * 6 = 6 * (r * r) + 6 * (c * r) := by
    rw [Nat.add_mul]
    omega
  have e2 : (r + c + r + (r + c)) * (r + c + r) = 6 * (r * r) + 7 * (c * r) + 2 * (c * c) := by
    have : r + c + r + (r + c) = 3 * r + 2 * c := by omega
    rw [this]
    have : r + c + r = 2 * r + c := by omega
    rw [this, Nat.add_mul, Nat.mul_add, Nat.mul_add]
    have q1 : 3 * r * (2 * r) = 6 * (r * r) := by
      rw [Nat.mul_mul_mul_comm]
    have q2 : 3 * r * c = 3 * (c * r) := by
      rw [Nat.mul_assoc, Nat.mul_comm r c]
    have q3 : 2 * c * (2 * r) = 4 * (c * r) := by
      rw [Nat.mul_mul_mul_comm]
    have q4 : 2 * c * c = 2 * (c * c) := Nat.mul_assoc ..
    rw [q1, q2, q3, q4]
    omega
  omega
theorem eu_step {g m i a b : Nat} (h : Eu g m i a b) (hb : 0 < b) : Eu g m (i + 1) b (a % b) := by
  have hr : a % b < b := Nat.mod_lt a hb
  refine ⟨?_, ?_⟩
  · rw [← h.gc, Nat.gcd_comm a b, Nat.gcd_rec b a, Nat.gcd_comm]
  · rcases h.pot with ⟨rfl, p⟩ | ⟨j, rfl, hle, _, p⟩ | ⟨j, rfl, hle, _, p⟩
    · refine .inr (.inl ⟨0, by omega, by omega, hb, ?_⟩)
      rw [Nat.pow_zero, Nat.mul_one]
      refine Nat.lt_of_le_of_lt ?_ p
      rw [Nat.mul_comm]
      exact Nat.mul_le_mul_right _ (Nat.mod_le a b)
    · refine .inr (.inr ⟨j, by omega, by omega, hb, ?_⟩)
      refine Nat.lt_of_le_of_lt (Nat.mul_le_mul_right _ ?_) p
      have e := Nat.div_add_mod a b
      have q : 1 ≤ a / b := Nat.div_pos hle hb
      have : b * 1 ≤ b * (a / b) := Nat.mul_le_mul_left b q
      exact Nat.mul_le_mul (by omega) (Nat.le_refl b)
    · refine .inr (.inl ⟨j + 1, by omega, by omega, hb, ?_⟩)
      refine Nat.lt_of_le_of_lt ?_ p
      have e := Nat.div_add_mod a b
      have q : 1 ≤ a / b := Nat.div_pos hle hb
      have q2 : b * 1 ≤ b * (a / b) := Nat.mul_le_mul_left b q
      have s := six_br (a := a) (b := b) (r := a % b) (by omega) (by omega)
      rw [Nat.pow_succ, Nat.mul_comm (6 ^ j) 6, ← Nat.mul_assoc]
      exact Nat.mul_le_mul_right _ s
theorem eu_end {g m n a b : Nat} (h : Eu g m (2 * n + 2) a b) (hm : m ≤ n) : False := by
  rcases h.pot with ⟨h0, _⟩ | ⟨j, hj, _⟩ | ⟨j, hj, _, ha, p⟩
  · omega
  · omega
  · have e : j = n := by omega
    subst e
    have h1 : 1 * 6 ^ m ≤ (a + b) * a * 6 ^ j := Nat.mul_le_mul (Nat.mul_pos (by omega) ha) (Nat.pow_le_pow_right (by decide) hm)
    omega
open NdefX (NScope ncx startF CellsAt inv_startN)
open ClX (pin_new pin_at base_none unpinE)

/-! ### own classes and errors: rules that the layer lacks -/
section
variable {X : Cx}
/-- a field's read, its K by another name -/
theorem pe_fldK {K : PySem.W.Frag} {e : Expr} {f : Str} {pos : Pos} {ta : TE} (he : PE X e ta) (hb : attributeBase e f X.env (eval e X.env) = eval e X.env) (hK : X.K = K := by rfl) : PE X (.Attribute e f pos) (tFld K ta f) := by
  subst hK
  exact pe_fld he hb
/-- floor division by a divisor of either sign -/
def CDivWN (_ j : Int) : Prop := j ≠ 0 ∧ j.natAbs.log2 < 9000
theorem op_fdivWN : OpR X (binaryOp .FloorDiv) (rI CDivWN fun i j => .int (i.fdiv j)) := opI fun _ _ _ _ _ _ _ c k => floordiv_int c.1 k (.inl (PyProof.noPylong_of_log2 c.2))
/-- a new instance whose __init__ may let an error out, wished for at the slots that stand -/
theorem made_at {CX : CXT} {n : Nat} {g D : Addr} {gd : FuncData} {qs : List Str} {pr : Sp} {Ex : L2.St → XK} {us0 : List Value} {vs0 : List V} {pn : List (Addr × Obj)} {τ : L2.St} {H0 : Hp} {st : Shared} {W : VK} {as : List Value} {xs : List V}
    (MK : Mk X.K D g) (OK : FnOk X.prog X.w X.K X.mg X.base CX n g gd qs pr) (room : Room (n + 1) X.A) (bd : Binds X.K gd qs us0) (dv : Vals vs0 us0) (out : PassesAt CX X τ (Ex τ)) (J : Inv X pn τ H0 st) (rel : Vals xs as)
    (go : ∀ p q, H0 p = none → H0 q = none → q ≠ p → pr (.ref p :: (xs ++ vs0)) (upd (upd H0 q (.own p)) p (.ins D q [])) (fun v H2 => v = .non ∧ W (.ref p) H2) (Ex τ)) :
    wpAny (model X.prog X.w) X.A (call (.ref D) as) (EP X pn τ W) X.xe st := by
  have new1 := J.hok.fresh (Nat.le_succ st.heap.objs.size)
  have new2 := J.hok.fresh (Nat.le_refl st.heap.objs.size)
  have asked := go _ _ new1 new2 (Nat.ne_of_lt (Nat.lt_succ_self _))
  have J2 := Inv.made (C := D) J
  have rel2 : Vals (V.ref (st.heap.objs.size + 1) :: (xs ++ vs0)) (Value.ref (st.heap.objs.size + 1) :: (as ++ us0)) :=
    .cons rfl (rel.append dv)
  have len2 : (Value.ref (st.heap.objs.size + 1) :: as ++ us0).length = qs.length := (rel2.length.symm).trans (OK.len _ _ _ _ asked)
  have env2 := J2.env0.make D as []
  have bound := bd _ (Value.ref (st.heap.objs.size + 1) :: as) J2.kIn len2
  have ran := OK.run _ X.stack _ _ _ _ _ _ (Ex τ) (room.make D as []) env2 bound rel2 asked
  refine wpAny_call (make_map (f := g) J.kIn MK.makes MK.init (beq_iff_eq.mp MK.fn) (codeAny_mono ran ?_))
  rintro (e | fl) s' back
  · exact out pn _ _ e s' J2 back
  · cases fl with
    | ret u =>
      obtain ⟨v, H', J3, rv, rfl, w3⟩ := J2.after back
      exact ⟨rv, V.ref (st.heap.objs.size + 1), _, J3, rfl, w3⟩
    | next => exact back.elim
    | brk => exact back.elim
    | cont => exact back.elim
def tMakeS (D : Addr) (pr : Sp) (vs0 : List V) (Ex : L2.St → XK) (t : TA) : TE := fun τ H Q => t τ H fun xs H1 => ∀ p q, H1 p = none → H1 q = none → q ≠ p →
  pr (.ref p :: (xs ++ vs0)) (upd (upd H1 q (.own p)) p (.ins D q [])) (fun v H2 => v = .non ∧ Q (.ref p) H2) (Ex τ)
theorem pe_makeS {CX : CXT} {n : Nat} {g D : Addr} {gd : FuncData} {qs : List Str} {pr : Sp} {Ex : L2.St → XK} {us0 : List Value} {vs0 : List V} {x : Str} {p pos : Pos} {e : Expr} {es : List Expr} {t : TA}
    (MK : Mk X.K D g) (OK : FnOk X.prog X.w X.K X.mg X.base CX n g gd qs pr) (room : Room (n + 1) X.A) (gl : Gl X x) (at_ : X.mg x = some (.ref D)) (bd : Binds X.K gd qs us0) (dv : Vals vs0 us0) (out : ∀ τ, PassesAt CX X τ (Ex τ)) (args : PA X (e :: es) t)
    (plain : (x == ("__debug__" : Str)) = false := by decide) (first : starEach (e :: es) X.env = (false, eval e X.env) :: starEach es X.env := by rfl) (noStar : (backTo pos (starEach es X.env)).any (·.1) = false := by rfl) :
    PE X (.Call (.Name x p) (e :: es) [] pos) (tMakeS D pr vs0 Ex t) :=
  ⟨fun pn s τ H Q J h => wpAny_Call_Name_kw (ld_glob J gl at_ (PySem.W.callWith_K (h₀ := X.base) J.ok.mod.kin MK.kp (thn (args.run pos pn s τ H _ J h) fun _ _ ⟨_, _, J1, rel, go⟩ => ⟨J1.kIn, made_at MK OK room bd dv (out τ) J1 rel go⟩) first noStar) plain)⟩
/-- isinstance(e, c) in a suite, e the error that it holds (of an own class at D, without a dict of its own) -/
def rIsX (K : PySem.W.Frag) (a : Addr) (cls : Value) (d : Option Addr) : List V → Hp → VK → Prop := fun xs H Q => ∃ D : Addr, ExcC K D ∧ cls = .ref D ∧ d = none ∧ rIsE K D a xs H Q
theorem call_isX {K : PySem.W.Frag} {a : Addr} {cls : Value} {d : Option Addr} {oe : Obj} {pn : List (Addr × Obj)} (hz : Zc cls d oe) (hf : ∃ vs, oe.data = .fields vs) (hK : X.K = K := by rfl) :
    CallR (X.suite a ((a, oe) :: pn)) (.builtin "isinstance") (rIsX K a cls d) := by
  intro pins s σ H xs us Q I r h
  subst hK
  obtain ⟨D, ec, rfl, rfl, h⟩ := h
  exact call_isE ec hz hf pins s σ H xs us Q I r h
end
theorem lk_one {k : Str} {v : V} {r : List (Str × V)} : List.lookup k ((k, v) :: r) = some v := by
  simp [List.lookup]
theorem lk_two {k g : Str} {v : V} {r : List (Str × V)} (h : (k == g) = false) : List.lookup k ((g, v) :: r) = List.lookup k r := by
  simp only [List.lookup, h]

/-! ### super().__init__(e, ..) as a method's first statement -/
theorem inst_of' {X : Cx} {pins : List (Addr × Obj)} {σ : L2.St} {H : Hp} {s : Shared} {a C dx : Addr} {fs : List (Str × V)} (I : Inv X pins σ H s) (e : H a = some (.ins C dx fs)) :
    s.heap.get? a = some (PySem.W.instObj C dx) ∧ ∃ od, PySem.W.InstAt s.heap a (PySem.W.instObj C dx) C (some od) := by
  obtain ⟨mA, O, _⟩ := ins_get I.hok e
  obtain ⟨od, J, _⟩ := O.look
  exact ⟨O.obj, od, J⟩
/-- what the top has written of a class D above which super() looks, for an instance of the class C: the function g at the name -/
structure SupC (K : PySem.W.Frag) (mg : Str → Option Value) (C D cc cda g : Addr) (file : Str) : Prop where
  isD : ∃ cd, PySem.W.clsIn K D = some cd
  sub : PySem.W.mroIn K C (.ref D) = some true
  cell : ∃ cl cld csl, K.lookup cc = some ⟨cl, cld, .cell (some (.ref D)), csl⟩
  code : ∃ ccl cdd vs ccs tf, K.lookup cda = some ⟨ccl, cdd, .fields vs, ccs⟩ ∧ vs[2]? = some (.str file tf)
  sup : PySem.W.ks_superIn K C D "__init__" = some (some (.ref g))
  tg : PySem.W.typeIn K (.ref g) = some (.type "function")
  fg : PySem.W.fnIn K g = true
  opq : PySem.W.nsIn K cStatics "thirdparty.any" = some none
  nosup : mg "super" = none
section
variable {CX : CXT} {P : Program} {w : World} {K : PySem.W.Frag} {mg : Str → Option Value} {base : Heap} {k j : Nat} {f g cc cda C D : Addr} {name qual : Str} {params : Arguments} {scope : Scope} {dV kV doc pm ct oc : Value} {an od : Option Addr}
  {osl : Array (Option Value)} {N ps qs : List Str} {sp si : Sp} {gd : FuncData} {e : Expr} {es : List Expr} {rest : List Stmt} {p0 p1 p2 p3 p4 : Pos} {ar : Arg} {pl : Sem Bool}
abbrev supSt (p0 p1 p2 p3 p4 : Pos) (es : List Expr) : Stmt := .Expr (.Call (.Attribute (.Call (.Name "super" p0) [] [] p1) "__init__" p2) es [] p3) p4
theorem fn_super {file : Str} (lk : K.lookup f = some ⟨oc, od, .func (PySem.W.ksFn name qual params (supSt p0 p1 p2 p3 p4 (e :: es) :: rest) scope dV kV doc pm an (.ref cda) ct cc), osl⟩) (hcd : PySem.W.codeIn K (.ref cda) qual = true) (S : NScope N ps ["__class__"] scope)
    (SC : SupC K mg C D cc cda g file) (hfile : ((P.main.file : Str) == file) = true) (htop : (P.main.scope.names.lookup ("super" : Str)).isSome = false) (hpar : (params.posonlyargs ++ params.args).head? = some ar) (hN : N[0]? = some ar.arg) (hka : scope.names.lookup ar.arg = some .local)
    (hks : scope.names.lookup ("super" : Str) = some .globalImplicit) (hkc : scope.names.lookup ("__class__" : Str) = some .free)
    (len : ∀ vs H Q E, sp vs H Q E → vs.length = ps.length) (G : FnOk P w K mg base CX j g gd qs si) (bd : Binds K gd qs []) (hj : j ≤ k)
    (hi : ∀ L, interactive (PySem.W.ksEnv qual scope L f (.ref cda) cc) = false)
    (hsw : ∀ L, swapsWith (.Call (.Attribute (.Call (.Name "super" p0) [] [] p1) "__init__" p2) (e :: es) [] p3) none p4.line (PySem.W.ksEnv qual scope L f (.ref cda) cc) = pure false)
    (hev : ∀ L, eval (.Call (.Attribute (.Call (.Name "super" p0) [] [] p1) "__init__" p2) (e :: es) [] p3) (PySem.W.ksEnv qual scope L f (.ref cda) cc) = (do
      let ov ← attributeBase (.Call (.Name "super" p0) [] [] p1) "__init__" (PySem.W.ksEnv qual scope L f (.ref cda) cc) (eval (.Call (.Name "super" p0) [] [] p1) (PySem.W.ksEnv qual scope L f (.ref cda) cc))
      standAt p2.atName
      let (f', first) ← holding [ov] (getMethod ov "__init__" pl)
      callWith p3 f' first (backTo p3 (starEach (e :: es) (PySem.W.ksEnv qual scope L f (.ref cda) cc))) []))
    (hst : ∀ L, starEach (e :: es) (PySem.W.ksEnv qual scope L f (.ref cda) cc) = (false, eval e (PySem.W.ksEnv qual scope L f (.ref cda) cc)) :: starEach es (PySem.W.ksEnv qual scope L f (.ref cda) cc))
    (hpl : ∀ L, (backTo p3 (starEach es (PySem.W.ksEnv qual scope L f (.ref cda) cc))).any (·.1) = false)
    (hbody : ∀ (A : Around) (outer : List Env) (s : Shared) (H : Hp) (vs : List V) (Q : VK) (E : XK), Room k (A.deeper (PySem.W.ksEnv qual scope s.heap.objs.size f (.ref cda) cc)) → sp vs H Q E →
      ∃ (ta : TA) (tr : TS) (a dx : Addr) (fs : List (Str × V)) (us0 : List V) (Ei : XK),
        PA (ncx CX P w K mg base N ⟨name, qual, params, supSt p0 p1 p2 p3 p4 (e :: es) :: rest, scope, [("__class__", cc)], cda⟩ f A outer s H E) (e :: es) ta ∧
        PSs (ncx CX P w K mg base N ⟨name, qual, params, supSt p0 p1 p2 p3 p4 (e :: es) :: rest, scope, [("__class__", cc)], cda⟩ f A outer s H E) rest tr ∧
        Passes CX (ncx CX P w K mg base N ⟨name, qual, params, supSt p0 p1 p2 p3 p4 (e :: es) :: rest, scope, [("__class__", cc)], cda⟩ f A outer s H E) Ei ∧ vs = .ref a :: us0 ∧ H a = some (.ins C dx fs) ∧
        ta (startF N vs [none]) H (fun ws H1 => si (.ref a :: ws) H1 (fun _ H2 => tr { nx := fun _ H' => Q .non H', rt := Q } (startF N vs [none]) H2) Ei)) :
    FnOk P w K mg base CX (k + 1) f (PySem.W.ksFn name qual params (supSt p0 p1 p2 p3 p4 (e :: es) :: rest) scope dV kV doc pm an (.ref cda) ct cc) ps sp := by
  refine ⟨len, fun A outer s H args us vs Q E hr e0 hb r asked => ?_⟩
  have hl := len _ _ _ _ asked
  have kb : ∀ b o, base.get? b = some o → s.heap.get? b = some o := fun b o z => (e0.bs b o z).1
  have KX : K.In s.heap := e0.mod.kin.keeps kb
  have lim : s.heap.NoLimit := e0.mod.nolimit.keeps kb
  obtain ⟨cl, cld, csl, hcell⟩ := SC.cell
  obtain ⟨ccl, cdd, fv, ccs, tf, hcode, hfv⟩ := SC.code
  obtain ⟨cdD, hD⟩ := SC.isD
  have C0 : CellsAt [("__class__", cc)] ["__class__"] [none] s.heap H := by
    refine ⟨rfl, fun y c z => ?_, fun y z c h1 h2 => ?_, fun i y z => ?_⟩
    · have hc : c = cc := by
        simp only [List.lookup] at z
        split at z
        · exact (Option.some.inj z).symm
        · cases z
      subst hc
      exact ⟨(e0.bs _ _ (e0.mod.kin _ _ hcell)).2, _, _, KX _ _ hcell, rfl⟩
    · have one : ∀ {t : Str}, [(("__class__" : Str), cc)].lookup t = some c → t = "__class__" := fun {t} h => by
        simp only [List.lookup] at h
        split at h
        · exact beq_iff_eq.mp (by assumption)
        · cases h
      rw [one h1, one h2]
    · have hy : y = "__class__" := by
        cases i with
        | zero => simpa using z.symm
        | succ n => simp at z
      subst hy
      exact ⟨cc, rfl, fun v h => by cases i <;> simp at h⟩
  refine ks_codeAny_call_defAt (fd := PySem.W.ksFn name qual params (supSt p0 p1 p2 p3 p4 (e :: es) :: rest) scope dV kV doc pm an (.ref cda) ct cc) (body := supSt p0 p1 p2 p3 p4 (e :: es) :: rest) (binds := ps.zip us) hr.depth (KX _ _ lk) rfl lim (PySem.W.codeRec_of KX hcd) rfl hb S.nocell (fun ⟨n, _⟩ hy => S.par n (List.of_mem_zip hy).1) (fun h₁ hns kp => ?_) S.co S.gen S.kind
  obtain ⟨ta, tr, a, dx, fs, us0, Ei, hpa, hps, hpass, ev, ha, hq⟩ := hbody A outer s H vs Q E (hr.deeper _) asked
  subst ev
  have I : Inv (ncx CX P w K mg base N ⟨name, qual, params, supSt p0 p1 p2 p3 p4 (e :: es) :: rest, scope, [("__class__", cc)], cda⟩ f A outer s H E) [] (startF N (.ref a :: us0) [none]) H { s with heap := h₁, toks := s.toks + (ps.zip us).length } := inv_startN (F := ⟨name, qual, params, supSt p0 p1 p2 p3 p4 (e :: es) :: rest, scope, [("__class__", cc)], cda⟩) S hr.hd e0 hl r C0 hns kp
  generalize hX : ncx CX P w K mg base N ⟨name, qual, params, supSt p0 p1 p2 p3 p4 (e :: es) :: rest, scope, [("__class__", cc)], cda⟩ f A outer s H E = X at I hpa hps hpass
  have hXr := hX
  subst hX
  have rm := hr.deeper (PySem.W.ksEnv qual scope s.heap.objs.size f (.ref cda) cc)
  show PySem.wpAt (model P w) (A.deeper (PySem.W.ksEnv qual scope s.heap.objs.size f (.ref cda) cc)) (.func (supSt p0 p1 p2 p3 p4 (e :: es) :: rest) (PySem.W.ksEnv qual scope s.heap.objs.size f (.ref cda) cc)) (execs (supSt p0 p1 p2 p3 p4 (e :: es) :: rest) (PySem.W.ksEnv qual scope s.heap.objs.size f (.ref cda) cc)) _ _ _
  refine ks_wpAt_execs_cons (ks_wpAt_Expr_any (ks_wpAt_MethodCall (pl := pl) ?_ (hev _)) (hi _) (hsw _))
  have KI := I.kIn
  refine ks_wpAt_super_base (env := PySem.W.ksEnv qual scope s.heap.objs.size f (.ref cda) cc) hks hkc (by decide) rfl (KI _ _ lk) rfl hpar rfl (KI _ _ hcode) rfl hfv hfile htop ?_
  obtain ⟨mb, hb1, hb2⟩ := I.mod.blt
  refine PySem.W.ks_loadName_global S.kind hks (Calls.loadGlobal_builtin (env := PySem.W.ksEnv qual scope s.heap.objs.size f (.ref cda) cc) (I.mod.glob.keeps I.bk) SC.nosup (hb1.keeps I.bk) ((hb2 "super" (by decide)).trans (by rfl)) ⟨rfl, ?_⟩)
  refine wpAny_loadName_free S.kind hkc rfl ⟨_, KI _ _ hcell, rfl⟩ ?_
  obtain ⟨m, hn, hl'⟩ := I.loc
  obtain ⟨u, ru, lku⟩ := hl' 0 ar.arg (.ref a) hN rfl (.inl hka)
  cases (show u = Value.ref a from ru)
  have hmu : m ar.arg = some (.ref a) := by
    rcases lku with ⟨_, z⟩ | ⟨z, _⟩
    · exact z
    · have hk' : scope.names.lookup ar.arg = some .cell ∨ scope.names.lookup ar.arg = some .free := z
      rw [hka] at hk'
      rcases hk' with z | z <;> cases z
  refine wpAny_loadName_local S.kind hka hn hmu ?_
  obtain ⟨oD, hD1, hD2⟩ : ∃ oD, h₁.get? D = some oD ∧ oD.data = .cls cdD := by
    unfold PySem.W.clsIn at hD
    split at hD
    · rename_i c d cd' sl ho
      cases hD
      exact ⟨_, KI _ _ ho, rfl⟩
    · cases hD
  refine ks_wpAny_isType_cls hD1 hD2 (And.intro rfl ?_)
  obtain ⟨hoa, oda, J⟩ := inst_of' I ha
  refine ks_wpAny_call_super hD1 hD2 J.at_ J.cls (fun c z => ?_) (PySem.W.looks_mroIn KI SC.sub) (fun h2 e2 k2 => ?_)
  · have := J.no
    unfold PySem.W.notCls at this
    rw [z] at this
    exact Bool.noConfusion this
  have I2 := I.kept (h' := h2) (t' := s.toks + (ps.zip us).length) k2
  have K2 := I2.kIn
  obtain ⟨hoa2, oda2, J2⟩ := inst_of' I2 ha
  have sup := SC.sup
  unfold PySem.W.ks_superIn at sup
  cases hc : PySem.W.clsIn K C with
  | none => rw [hc] at sup; cases sup
  | some cdC =>
  rw [hc] at sup
  obtain ⟨og, hog, hogc⟩ : ∃ og, h2.get? g = some og ∧ og.cls = .type "function" := by
    have ht' : (K.lookup g).map (·.cls) = some (.type "function") := SC.tg
    cases z : K.lookup g with
    | none =>
      rw [z] at ht'
      cases ht'
    | some og =>
      rw [z] at ht'
      exact ⟨og, K2 _ _ z, Option.some.inj ht'⟩
  refine ks_wpAny_getMethod_super e2 (PySem.W.looks_opaque K2 SC.opq) (l₀ := cdC.mro) (fun A Q E s k q => wpAny_bind ((PySem.W.looks_clsIn K2 hc) A _ E s k (wpAny_pure q))) rfl K2 sup hog hogc (PySem.W.ks_ne K2 J2 hc) (by decide) ?_
  have I3 : Inv (ncx CX P w K mg base N ⟨name, qual, params, supSt p0 p1 p2 p3 p4 (e :: es) :: rest, scope, [("__class__", cc)], cda⟩ f A outer s H E) [(h2.objs.size, PySem.W.methodObj (.ref g) (.ref a))] (startF N (.ref a :: us0) [none]) H ⟨h2.push (PySem.W.methodObj (.ref g) (.ref a)), s.gens, s.drawn, s.toks + (ps.zip us).length + 1, s.os⟩ :=
    pin_new (s := ⟨h2, s.gens, s.drawn, s.toks + (ps.zip us).length, s.os⟩) I2 (fun _ _ z => Heap.get?_push_of_some _ z) (Nat.le_refl _) (Heap.get?_push_size h2 rfl) (fun v z => nomatch z)
  have hbq : base.get? h2.objs.size = none := base_none I2 (Nat.le_refl _)
  have hL : h2.objs.size ≠ s.heap.objs.size := (I3.pin (h2.objs.size, PySem.W.methodObj (.ref g) (.ref a)) (List.mem_append_right _ List.mem_cons_self)).2.2.1
  refine PySem.W.callWith_M (K := K) (h₀ := base) (first := []) e0.mod.kin (news_at hL hbq (pin_at I3)) List.mem_cons_self SC.fg ?_ (hst _) (hpl _)
  refine wpAny_mono (hpa.run p3 _ _ _ H _ I3 hq) (fun ws s4 h4 => ?_) fun _ _ z => z
  obtain ⟨vs4, H4, I4, r4, q4⟩ := h4
  refine ⟨⟨pin_at I4, I4.kIn⟩, ?_⟩
  have lenq : (Value.ref a :: ws).length = qs.length := by
    have z := G.len _ _ _ _ q4
    rw [← z, List.length_cons, List.length_cons, r4.length]
  have bound := bd s4 (Value.ref a :: ws) I4.kIn (by rw [List.append_nil]; exact lenq)
  rw [List.append_nil] at bound
  have rm' : Room k (A.deeper (PySem.W.ksEnv qual scope s.heap.objs.size f (.ref cda) cc)) := hr.deeper _
  refine wpAny_mono (Q := fun u s' => EP (ncx CX P w K mg base N ⟨name, qual, params, supSt p0 p1 p2 p3 p4 (e :: es) :: rest, scope, [("__class__", cc)], cda⟩ f A outer s H E) [(h2.objs.size, PySem.W.methodObj (.ref g) (.ref a))] (startF N (.ref a :: us0) [none]) (fun _ H2 => tr { nx := fun _ H' => Q .non H', rt := Q } (startF N (.ref a :: us0) [none]) H2) u s')
    (wpAny_call (PySem.W.method_call (pin_at I4) (codeAny_mono (G.run _ _ s4 H4 ⟨Value.ref a :: ws, []⟩ (Value.ref a :: ws) (.ref a :: vs4) _ Ei (rm'.mono hj) I4.env0 bound (.cons rfl r4) q4) fun rr s' back => ?_))) (fun u s5 h5 => ?_) fun _ _ z => z
  · cases rr with
    | error er => exact hpass _ _ _ _ er s' I4 back
    | ok fl =>
      cases fl with
      | ret u => exact I4.after back
      | next => exact back.elim
      | brk => exact back.elim
      | cont => exact back.elim
  · obtain ⟨v5, H5, I5, _, q5⟩ := unpinE h5
    refine PySem.wpAt_of_wpAny ?_
    refine wpAny_mono (hps.run [] _ _ H5 _ I5 q5) (fun fl s' hs => ?_) fun er s' hs => hs
    have last : ∀ {τ : L2.St} {G' : Hp} {x : V} {y : Value}, Inv (ncx CX P w K mg base N ⟨name, qual, params, supSt p0 p1 p2 p3 p4 (e :: es) :: rest, scope, [("__class__", cc)], cda⟩ f A outer s H E) [] τ G' s' → L2.RelV x y → Q x G' → CE outer P w H s Q y s' :=
      fun {_ G' x _} Z rel z => ⟨x, G', Z.os, Z.bare, Z.base, Z.hok, rel, z⟩
    cases fl with
    | next =>
      obtain ⟨_, _, Z, z⟩ := hs
      exact last (x := V.non) (y := Value.none) Z rfl z
    | ret y =>
      obtain ⟨_, _, _, Z, rel, z⟩ := hs
      exact last Z rel z
    | brk => exact hs.elim fun _ ⟨_, _, z⟩ => z.elim
    | cont => exact hs.elim fun _ ⟨_, _, z⟩ => z.elim
end
/-- such a method as the top has written it: cc the cell of its class, cda its code -/
def FunS (K : PySem.W.Frag) (name qual : Str) (st : Stmt) (cc cda f : Addr) (fd : FuncData) : Prop :=
  (∃ (oc : Value) (od : Option Addr) (kV doc pm : Value) (an : Option Addr) (ct : Value) (osl : Array (Option Value)), fd = PySem.W.ksFn name qual (defArgs st) (defBody st) (defScope st) .none kV doc pm an (.ref cda) ct cc ∧
    K.lookup f = some ⟨oc, od, .func fd, osl⟩ ∧ PySem.W.codeIn K (.ref cda) qual = true) ∧ PySem.W.keepIn K (.ref f) = true
theorem FunS.binds {K : PySem.W.Frag} {name qual : Str} {st : Stmt} {cc cda f : Addr} {fd : FuncData} {ps : List Str} (F : FunS K name qual st cc cda f fd)
    (h : ∀ (kV doc pm : Value) (an : Option Addr) (ct : Value) (us : List Value), us.length = ps.length → bindArgs (PySem.W.ksFn name qual (defArgs st) (defBody st) (defScope st) .none kV doc pm an (.ref cda) ct cc) ⟨us, []⟩ = pure (ps.zip us)) : Binds K fd ps [] := by
  obtain ⟨⟨oc, od, kV, doc, pm, an, ct, osl, rfl, _, _⟩, _⟩ := F
  exact .all (h kV doc pm an ct)

/-! ### isinstance of a caught error, with or without fields -/
section
variable {X : Cx}
def rIsY (K : PySem.W.Frag) (a : Addr) (cls : Value) (d : Option Addr) : List V → Hp → VK → Prop := fun xs H Q => ∃ D : Addr, ExcC K D ∧ cls = .ref D ∧ (d = none ∨ ∃ dd fs, d = some dd ∧ H dd = some (.xd fs)) ∧ rIsE K D a xs H Q
theorem call_isY {K : PySem.W.Frag} {a : Addr} {cls : Value} {d : Option Addr} {oe : Obj} {pn : List (Addr × Obj)} (hz : Zc cls d oe) (hf : ∃ vs, oe.data = .fields vs) (hK : X.K = K := by rfl) :
    CallR (X.suite a ((a, oe) :: pn)) (.builtin "isinstance") (rIsY K a cls d) := by
  intro pins s σ H xs us Q I r h
  subst hK
  obtain ⟨D, ec, rfl, hd, h⟩ := h
  rcases hd with rfl | ⟨dd, fs, rfl, hdd⟩
  · exact call_isE ec hz hf pins s σ H xs us Q I r h
  · obtain ⟨c, cv, b, rfl, same, known, q⟩ := h
    obtain ⟨w1, ws, rfl, r1, rs⟩ : ∃ w1 ws, us = w1 :: ws ∧ RelV (.ref a) w1 ∧ Vals [c] ws := by
      cases r with
      | cons p t => exact ⟨_, _, rfl, p, t⟩
    obtain ⟨w2, rfl, r2⟩ : ∃ w2, ws = [w2] ∧ RelV c w2 := by
      cases rs with
      | cons p t =>
        cases t
        exact ⟨_, rfl, p⟩
    cases (show w1 = Value.ref a from r1)
    cases same _ r2
    obtain ⟨there, _⟩ := I.pin (a, oe) (List.mem_append.mpr (.inl List.mem_cons_self))
    obtain ⟨vs, hv⟩ := hf
    obtain ⟨mA, ns, _⟩ := (show ObjOk X.prog X.w H s.heap dd (.xd fs) from I.hok dd _ hdd)
    obtain ⟨od, ho, _⟩ := lookIn_ns ns
    have J : PySem.W.InstAt s.heap a oe D (some od) := ⟨there, hz.1, by unfold PySem.W.notCls; rw [hv] <;> rfl, by rw [hz.2]; exact ho⟩
    have cl : (PySem.W.clsIn X.K D).isSome = true := by
      obtain ⟨cd, hc, _⟩ := PySem.W.any_some ec.hd
      rw [hc]
      rfl
    exact PySem.W.kia_one (PySem.W.kitx_exc cl ec.hg ec.hk ec.hs ec.ha ec.hn ec.ht ec.hm) I.kIn J known (fun z => nomatch z) fun tk => ⟨.bl b, H, I.kept (t' := tk) fun _ _ z => z, rfl, q⟩
end

/-! ### try with several «except C as n» -/
/-- what the clauses wish of an error, one after the other: class, the name's slot, the suite's reading -/
def wAsM (K : PySem.W.Frag) (out : WX) (D : Ends) : List (Value × Nat × (Addr → Value → Option Addr → TS)) → WX
  | [] => out
  | (c, i, t) :: more => fun cls d σ H => ∃ b, PySem.W.exmOne K cls c = some b ∧
      (b = true → ∀ a, H a = none → t a cls d { nx := fun σ' H' => D.nx (σ'.set i none) H', rt := D.rt, bk := fun σ' H' => D.bk (σ'.set i none) H', ct := fun σ' H' => D.ct (σ'.set i none) H' } (σ.set i (some (.ref a))) H) ∧
      (b = false → wAsM K out D more cls d σ H)
inductive ClausesOk (X : Cx) : List ExceptHandler → List (Value × Nat × (Addr → Value → Option Addr → TS)) → Prop
  | nil : ClausesOk X [] []
  | cons {x n : Str} {c : Value} {i : Nat} {t : Addr → Value → Option Addr → TS} {st : Stmt} {sts : List Stmt} {q q' : Pos} {hs : List ExceptHandler} {ls : List (Value × Nat × (Addr → Value → Option Addr → TS))} (known : Names X x c) (slot : X.N[i]? = some n)
      (lo : X.env.kindOf n = some .local) (suite : ∀ (a : Addr) (oe : Obj) (cls : Value) (d : Option Addr) (pn : List (Addr × Obj)), Zc cls d oe → (∃ vs, oe.data = .fields vs) → PSs (X.suite a ((a, oe) :: pn)) (st :: sts) (t a cls d))
      (more : ClausesOk X hs ls) : ClausesOk X (.ExceptHandler (some (.Name x q)) (some n) (st :: sts) q' :: hs) ((c, i, t) :: ls)
  | bare {x : Str} {c : Value} {i : Nat} {t : Addr → Value → Option Addr → TS} {st : Stmt} {sts : List Stmt} {q q' : Pos} {hs : List ExceptHandler} {ls : List (Value × Nat × (Addr → Value → Option Addr → TS))} (known : Names X x c) (off : X.N.length ≤ i)
      (suite : ∀ (a : Addr) (oe : Obj) (cls : Value) (d : Option Addr) (pn : List (Addr × Obj)), Zc cls d oe → (∃ vs, oe.data = .fields vs) → PSs (X.suite a ((a, oe) :: pn)) (st :: sts) (t a cls d))
      (more : ClausesOk X hs ls) : ClausesOk X (.ExceptHandler (some (.Name x q)) none (st :: sts) q' :: hs) ((c, i, t) :: ls)
section
variable {X : Cx} {body : List Stmt} {h1 : ExceptHandler} {hs : List ExceptHandler} {ls : List (Value × Nat × (Addr → Value → Option Addr → TS))} {pos : Pos} {tb : WX → TS} {out : WX}
theorem ps_try_asM (st : X.stack = X.env :: X.outer) (fr : X.env.frame = some X.env.locals) (nd : X.N.Nodup) (tk : Takes X out)
    (runs : ∀ (W : WX) (pn : List (Addr × Obj)) (xe : Value → Shared → Prop), Takes (X.tr pn xe) W → PassesOwn (model X.prog X.w) X.A X.env xe → PSs (X.tr pn xe) body (tb W))
    (cl : ClausesOk X (h1 :: hs) ls) : PS X (.Try body (h1 :: hs) [] [] pos) (fun D σ H => tb (wAsM X.K out D ls) D σ H) := by
  refine ⟨fun pins s σ H D I want => ?_⟩
  have ok := I.ok
  have frames : X.A.frames = some (X.env :: X.outer) := by rw [ok.frames, st]
  refine wpAny_Try_except ?_
  refine wpAny_mono ((runs (wAsM X.K out D ls) (X.pn ++ pins) (fun u t1 => wpAny (model X.prog X.w) X.A (noteFrame u X.env) (fun _ t2 => wpAny (model X.prog X.w) X.A (setFlight u none)
    (fun _ t3 => wpAny (model X.prog X.w) X.A (handleBy u X.env (h1 :: hs)) (SP X pins D) X.xe t3) X.xe t2) X.xe t1) (fun u t0 flown => ?_) PassesOwn.looking).run [] s σ H D (I.toTry _) want) (fun f t0 done => ?_) (fun _ _ y => y)
  · obtain ⟨a, B, sI, pins1, σ1, H1, cls, d, rfl, J0, bare, kept, sky, fresh, osE, agree, wish⟩ := flown
    have J : Inv X pins σ1 H1 sI := J0.ofTry ok
    have sky1 : Sky B (X.env :: X.outer) a (Zc cls d) X.env.locals t0.heap := st ▸ sky
    show wpAny (model X.prog X.w) X.A (noteFrame (.ref a) X.env) _ X.xe t0
    refine Sky.land Zc.steady frames fr sky1 fun g fl up => ?_
    obtain ⟨oe, vs, atE, zE, dataE⟩ := fl.there
    have outF : a ∉ frs (X.env :: X.outer) := fun mem => by
      obtain ⟨_, o, here, no⟩ := fl.2.2.1.mem mem
      cases atE.symm.trans here
      exact no _ dataE
    have nL : a ≠ X.env.locals := fun z => outF (List.mem_filterMap.mpr ⟨X.env, List.mem_cons_self, by rw [fr, z]⟩)
    have nF : a ∉ X.fs := fun mem => outF (by
      obtain ⟨e, m1, m2⟩ := List.mem_filterMap.mp mem
      exact List.mem_filterMap.mpr ⟨e, List.mem_cons_of_mem _ m1, m2⟩)
    have J1 : Inv X pins σ1 H1 { t0 with heap := g } := J.landed bare fl.1 (kept.trans up) osE agree
    have S1 := J1.suite atE dataE fresh nL nF
    have go : ∀ {hh : List ExceptHandler} {ll : List (Value × Nat × (Addr → Value → Option Addr → TS))}, ClausesOk X hh ll → wAsM X.K out D ll cls d σ1 H1 → wpAny (model X.prog X.w) X.A (handleBy (.ref a) X.env hh) (SP X pins D) X.xe { t0 with heap := g } := by
      intro hh ll cc
      induction cc with
      | nil =>
        intro fly
        refine wpAny_handleBy_nil ?_
        obtain ⟨_, _, _, o, ws, T, oT, ts, g1, g2, g3, g4, _⟩ := id fl
        unfold PySem.passOn
        refine wpAny_bind (wpAny_field g1 g3 g4 ?_)
        rw [if_neg (by simp : ¬ ((Value.ref T == Value.none) = true))]
        have on : wpAny (model X.prog X.w) X.A (setFlight (.ref a) X.env.frame) (fun _ t4 => wpAny (model X.prog X.w) X.A (throw (.ref a) : Sem Flow) (SP X pins D) X.xe t4) X.xe { t0 with heap := g } := by
          rw [fr]
          exact HandSPX.setFlight_upZ fl fun g' sky' up' => wpAny_throw (tk _ _ ⟨a, B, sI, pins, σ1, H1, cls, d, rfl, J, bare, (kept.trans up).trans up', .inr (.inr (by rw [st]; exact sky')), fresh, osE, agree, fly⟩)
        first
          | exact wpAny_bind (wpAny_pure (wpAny_bind on))
          | exact wpAny_bind on
      | @cons x n c i t b₀ bs q q' hs' ls' known slot lo suite more ih =>
        intro w1
        obtain ⟨b, asked, yes, no⟩ := w1
        refine wpAny_handleBy_cons (codeAny_handlers_test ?_) (fun z => by cases z)
        have typ : PySem.W.Looks (model X.prog X.w) g (typeOf (.ref a)) cls := fun _ _ _ _ k z => wpAny_typeOf_ref (k _ _ atE) (by rw [zE.1]; exact z)
        have name : ∀ {Q : Value → Shared → Prop} {E : Value → Shared → Prop}, Q c { t0 with heap := g } → wpAny (model X.prog X.w) (X.A.mark (some (.ref a))) (eval (.Name x q) X.env) Q E { t0 with heap := g } := fun {Q E} z => by
          obtain ⟨k1, k2, k3 | ⟨k3, k4, k5⟩⟩ := known
          · exact ld_glob (X := X.suite a ((a, oe) :: (X.pn ++ pins))) S1 k1 k3 z k2
          · exact ld_blt (X := X.suite a ((a, oe) :: (X.pn ++ pins))) S1 k1 k3 k4 z k5 k2
        refine name ((PySem.W.exm_one (M := model X.prog X.w) J1.kIn typ asked).here ?_)
        cases b with
        | false => exact ih (no rfl)
        | true =>
          refine codeAny_handlers_suite_as (HandSPX.lands_againZ fl fun g' fl' up' => ?_)
          obtain ⟨oe', ws, atE', zE', dataE'⟩ := fl'.there
          have J2 : Inv X pins σ1 H1 { t0 with heap := g' } := J.landed bare fl'.1 ((kept.trans up).trans up') osE agree
          have S2 := J2.suite atE' dataE' fresh nL nF
          refine store_ok (X := X.suite a ((a, oe') :: (X.pn ++ pins))) (v := .ref a) S2 nd slot (.inl lo) rfl (fun t5 S5 => ?_) (.inr lo)
          refine wpAny_mono ((suite a oe' cls d (X.pn ++ pins) zE' ⟨_, dataE'⟩).run [] t5 _ H1 _ S5 (yes rfl a fresh)) (fun f t6 done => ?_) (fun _ _ z => z.elim)
          have gone : ∀ {σ6 : L2.St} {H6 : Hp} {Q : Shared → Prop}, Inv (X.suite a ((a, oe') :: (X.pn ++ pins))) [] σ6 H6 t6 → (∀ t7, Inv X pins (σ6.set i none) H6 t7 → Q t7) →
              wpAny (model X.prog X.w) X.A (do bindName X.env n .none; unbindBehindTheSuite X.env n q') (fun _ t7 => Q t7) X.xe t6 := fun S6 z => gone_ok (S6.unsuite ok) nd slot lo z
          cases f with
          | ret u =>
            obtain ⟨v6, σ6, H6, S6, r6, q6⟩ := done
            exact gone S6 fun _ J7 => ⟨_, _, _, J7, r6, q6⟩
          | next =>
            obtain ⟨_, _, S6, q6⟩ := done
            exact gone S6 fun _ J7 => ⟨_, _, J7, q6⟩
          | brk =>
            obtain ⟨_, _, S6, q6⟩ := done
            exact gone S6 fun _ J7 => ⟨_, _, J7, q6⟩
          | cont =>
            obtain ⟨_, _, S6, q6⟩ := done
            exact gone S6 fun _ J7 => ⟨_, _, J7, q6⟩
      | @bare x c i t b₀ bs q q' hs' ls' known off suite more ih =>
        intro w1
        obtain ⟨b, asked, yes, no⟩ := w1
        refine wpAny_handleBy_cons (codeAny_handlers_test ?_) (fun z => by cases z)
        have typ : PySem.W.Looks (model X.prog X.w) g (typeOf (.ref a)) cls := fun _ _ _ _ k z => wpAny_typeOf_ref (k _ _ atE) (by rw [zE.1]; exact z)
        have name : ∀ {Q : Value → Shared → Prop} {E : Value → Shared → Prop}, Q c { t0 with heap := g } → wpAny (model X.prog X.w) (X.A.mark (some (.ref a))) (eval (.Name x q) X.env) Q E { t0 with heap := g } := fun {Q E} z => by
          obtain ⟨k1, k2, k3 | ⟨k3, k4, k5⟩⟩ := known
          · exact ld_glob (X := X.suite a ((a, oe) :: (X.pn ++ pins))) S1 k1 k3 z k2
          · exact ld_blt (X := X.suite a ((a, oe) :: (X.pn ++ pins))) S1 k1 k3 k4 z k5 k2
        refine name ((PySem.W.exm_one (M := model X.prog X.w) J1.kIn typ asked).here ?_)
        cases b with
        | false => exact ih (no rfl)
        | true =>
          refine codeAny_handlers_suite (HandSPX.lands_againZ fl fun g' fl' up' => ?_)
          obtain ⟨oe', ws, atE', zE', dataE'⟩ := fl'.there
          have J2 : Inv X pins σ1 H1 { t0 with heap := g' } := J.landed bare fl'.1 ((kept.trans up).trans up') osE agree
          have S2 := J2.suite atE' dataE' fresh nL nF
          have w2 := yes rfl a fresh
          have l1 : σ1.length = X.N.length := J2.len
          rw [List.set_eq_of_length_le (by omega)] at w2
          refine wpAny_mono ((suite a oe' cls d (X.pn ++ pins) zE' ⟨_, dataE'⟩).run [] _ _ H1 _ S2 w2) (fun f t6 done => ?_) (fun _ _ z => z.elim)
          have off6 : ∀ {σ6 : L2.St} {H6 : Hp}, Inv (X.suite a ((a, oe') :: (X.pn ++ pins))) [] σ6 H6 t6 → σ6.set i none = σ6 := fun {σ6 _} S6 => by
            have l6 : σ6.length = X.N.length := S6.len
            exact List.set_eq_of_length_le (by omega)
          cases f with
          | ret u =>
            obtain ⟨v6, σ6, H6, S6, r6, q6⟩ := done
            exact ⟨_, _, _, S6.unsuite ok, r6, q6⟩
          | next =>
            obtain ⟨σ6, H6, S6, q6⟩ := done
            have q6 : D.nx (σ6.set i none) H6 := q6
            rw [off6 S6] at q6
            exact ⟨_, _, S6.unsuite ok, q6⟩
          | brk =>
            obtain ⟨σ6, H6, S6, q6⟩ := done
            have q6 : D.bk (σ6.set i none) H6 := q6
            rw [off6 S6] at q6
            exact ⟨_, _, S6.unsuite ok, q6⟩
          | cont =>
            obtain ⟨σ6, H6, S6, q6⟩ := done
            have q6 : D.ct (σ6.set i none) H6 := q6
            rw [off6 S6] at q6
            exact ⟨_, _, S6.unsuite ok, q6⟩
    exact go cl wish
  · cases f with
    | ret u =>
      obtain ⟨v, _, _, J1, r1, q1⟩ := done
      exact ⟨v, _, _, J1.ofTry ok, r1, q1⟩
    | next =>
      obtain ⟨_, _, J1, q1⟩ := done
      exact wpAny_execs_nil ⟨_, _, J1.ofTry ok, q1⟩
    | brk =>
      obtain ⟨_, _, J1, q1⟩ := done
      exact ⟨_, _, J1.ofTry ok, q1⟩
    | cont =>
      obtain ⟨_, _, J1, q1⟩ := done
      exact ⟨_, _, J1.ofTry ok, q1⟩
end

/-! ### errors of two fields -/
/-- the heap behind C(x, y), where __init__ stores both -/
def errH (H : Hp) (a C dx : Addr) (f g : Str) (x y : V) : Hp := upd (upd (upd H dx (exd dx [(f, x)])) a (exo a C (some dx))) dx (exd dx [(g, y), (f, x)])
theorem raise2 {C : Addr} {f g : Str} {x y : V} {H : Hp} {Q : XK} (hq : ∀ d, H d = none → Q (.ref C) (some d) (upd H d (.xd [(g, y), (f, x)]))) {a dx : Addr} (na : H a = none) (nd : upd H a (exo a C none) dx = none) (ne : dx ≠ a) :
    V.non = .non ∧ ∃ (d : Addr) (fs : List (Str × V)), errH (upd H a (exo a C none)) a C dx f g x y a = some (exo a C (some d)) ∧ errH (upd H a (exo a C none)) a C dx f g x y d = some (exd d fs) ∧ H d = none ∧
      Q (.ref C) (some d) (upd (del (errH (upd H a (exo a C none)) a C dx f g x y) a) d (.xd fs)) := by
  rw [upd_ne ne] at nd
  refine ⟨rfl, dx, _, ?_, upd_same, nd, ?_⟩
  · unfold errH
    rw [upd_ne (Ne.symm ne), upd_same]
  · have e : upd (del (errH (upd H a (exo a C none)) a C dx f g x y) a) dx (.xd [(g, y), (f, x)]) = upd H dx (.xd [(g, y), (f, x)]) := by
      funext b
      by_cases h1 : b = dx
      · rw [h1, upd_same, upd_same]
      · rw [upd_ne h1, upd_ne h1]
        by_cases h2 : b = a
        · rw [h2, del_same, na]
        · rw [del_ne h2]
          unfold errH
          rw [upd_ne h1, upd_ne h2, upd_ne h1, upd_ne h2]
    rw [e]
    exact hq dx nd
/-- the first weight below 1, from place i on -/
def badAt : List Int → Nat → Option Nat
  | [], _ => none
  | n :: r, i => if n < 1 then some i else badAt r (i + 1)

/-- the fields of a Weighted -/
def fW (m aside : Int) (t : Addr) : List (Str × V) := putF "aside" (.int aside) (putF "weights" (.ref t) (putF "many" (.int m) []))
/-- nothing but the object at p is another -/
def SameX (p : Addr) (H H' : Hp) : Prop := ∀ b o, b ≠ p → H b = some o → H' b = some o
theorem SameX.trans {p : Addr} {H H' H2 : Hp} (h : SameX p H H') (k : SameX p H' H2) : SameX p H H2 := fun b o n z => k b o n (h b o n z)
theorem SameX.new {p : Addr} {H : Hp} {a : Addr} {o : HO} (n : H a = none) : SameX p H (upd H a o) := fun b u _ z => (upd_ne (ne_of_none z n)).trans z
theorem SameX.put {p : Addr} {H : Hp} {o : HO} : SameX p H (upd H p o) := fun b u n z => (upd_ne n).trans z

/-- the first number below b, from place i on -/
def lowAt (b : Int) : List Int → Nat → Option Nat
  | [], _ => none
  | n :: r, i => if n < b then some i else lowAt b r (i + 1)
theorem low_bad : ∀ (ns : List Int) (i : Nat), lowAt 1 ns i = badAt ns i
  | [], _ => rfl
  | n :: r, i => by
    unfold lowAt badAt
    rw [low_bad r (i + 1)]

theorem same_sx {p : Addr} {H H' : Hp} (h : Same H H') : SameX p H H' := fun b o _ z => h b o z
theorem dp_ints {K : PySem.W.Frag} {H : Hp} {a : Addr} {ns : List Int} (h : SqL K H a (ns.map V.int)) : Dp K H (.ref a) (.list (ns.map PyData.int)) := by
  refine .lst h ?_
  clear h
  induction ns with
  | nil => exact .nil
  | cons n r ih => exact .cons (.int n) ih
theorem depthAll_ints : ∀ ns : List Int, PyData.depthAll (ns.map PyData.int) = 0
  | [] => rfl
  | n :: r => by
    show max (PyData.depth (.int n)) (PyData.depthAll (r.map PyData.int)) = 0
    rw [depthAll_ints r]
    rfl
theorem depth_ints (ns : List Int) : PyData.depth (.list (ns.map PyData.int)) = 1 := by
  show PyData.depthAll (ns.map PyData.int) + 1 = 1
  rw [depthAll_ints]
theorem lay_ints : ∀ ns : List Int, PyData.canLayAll0 (ns.map PyData.int) = true
  | [] => rfl
  | _ :: r => (Bool.true_and _).trans (lay_ints r)
/-- what is due for these weights and this number -/
inductive Due | many (m : Nat) | num (k : Nat) | aside | made
def dueW (ns : List Int) (aside : Int) : Due := if ns.length > 24 then .many ns.length else match badAt ns 0 with
  | some k => .num k
  | none => if aside < 1 then .aside else .made
def Due.due : Due → List V
  | .many m => [.str "many", .int m, .int 24]
  | .num k => [.str "number", .str "weights", .int k]
  | .aside => [.str "number", .str "aside", .non]
  | .made => [.str "made", .int 0, .int 0]
def Due.told : Due → List V
  | .many m => [.str "many", .int m, .int 24, .bl false]
  | .num k => [.str "number", .str "weights", .int k, .bl false]
  | .aside => [.str "number", .str "aside", .non, .bl false]
  | .made => []
theorem due_many {ns : List Int} {a : Int} (h : ns.length > 24) : dueW ns a = .many ns.length := if_pos h
theorem due_num {ns : List Int} {a : Int} {k : Nat} (h : ¬ ns.length > 24) (hb : badAt ns 0 = some k) : dueW ns a = .num k := by
  unfold dueW
  rw [if_neg h, hb]
theorem due_aside {ns : List Int} {a : Int} (h : ¬ ns.length > 24) (hb : badAt ns 0 = none) (ha : a < 1) : dueW ns a = .aside := by
  unfold dueW
  rw [if_neg h, hb]
  exact if_pos ha
theorem due_made {ns : List Int} {a : Int} (h : ¬ ns.length > 24) (hb : badAt ns 0 = none) (ha : ¬ a < 1) : dueW ns a = .made := by
  unfold dueW
  rw [if_neg h, hb]
  exact if_neg ha
theorem sameX_made {C x dx : Addr} {H H' : Hp} (nx : H x = none) (nd : H dx = none) (k : SameX x (upd (upd H dx (.own x)) x (.ins C dx [])) H') : Same H H' := fun b o e => by
  have h1 : b ≠ x := ne_of_none e nx
  have h2 : b ≠ dx := ne_of_none e nd
  exact k b o h1 (by rw [upd_ne h1, upd_ne h2]; exact e)
theorem fW_weights (m a : Int) (t : Addr) : (fW m a t).lookup ("weights" : Str) = some (V.ref t) := by rfl
theorem fW_aside (m a : Int) (t : Addr) : (fW m a t).lookup ("aside" : Str) = some (V.int a) := by rfl

/-! ### a Ratio in the heap -/
def rF (T B : Int) : List (Str × V) := [("top", .int T), ("bottom", .int B)]
def RatAt (C : Addr) (H : Hp) (p : Addr) (T B : Int) : Prop := ∃ dx, H p = some (.ins C dx (rF T B))
theorem rF_top (T B : Int) : (rF T B).lookup ("top" : Str) = some (.int T) := lk_one
theorem rF_bot (T B : Int) : (rF T B).lookup ("bottom" : Str) = some (.int B) := (lk_two (by decide +kernel)).trans lk_one
theorem rF_new (T B : Int) : putF "bottom" (.int B) (putF "top" (.int T) []) = rF T B := by
  show (if ("top" : Str) = "bottom" then _ else _) = _
  rw [if_neg (by decide +kernel)]
  rfl
theorem RatAt.same {C : Addr} {H H' : Hp} {p : Addr} {T B : Int} (s : Same H H') (h : RatAt C H p T B) : RatAt C H' p T B := by
  obtain ⟨dx, h⟩ := h
  exact ⟨dx, s _ _ h⟩
/-- not too long to divide by -/
def Sm (b : Int) : Prop := ∃ n, 0 < n ∧ n ≤ 8000 ∧ b.natAbs < 2 ^ n
theorem sm_of {b : Int} {n : Nat} (h : b.natAbs < 2 ^ n) (h0 : 0 < n := by decide) (hn : n ≤ 8000 := by decide) : Sm b := ⟨n, h0, hn, h⟩
theorem Sm.le {a b : Int} (h : Sm b) (hl : a.natAbs ≤ b.natAbs) : Sm a := by
  obtain ⟨n, h0, h1, h2⟩ := h
  exact ⟨n, h0, h1, Nat.lt_of_le_of_lt hl h2⟩
theorem Sm.log {a : Int} (h : Sm a) : a.natAbs.log2 < 8000 := by
  obtain ⟨n, h0, h1, h2⟩ := h
  exact Nat.lt_of_lt_of_le (PySem.Flt.log2_lt_of h0 h2) h1
theorem Sm.mul {a b : Int} (h : Sm a) (h' : Sm b) : CMulW a b := by
  have x := h.log
  have y := h'.log
  unfold CMulW
  omega
theorem rd_div {t b : Int} (h : b ≠ 0) (hs : Sm b) (i : Int) : CDivWN i (rd t b) := by
  refine ⟨rd_ne h, ?_⟩
  have h1 : (rd t b).natAbs ≤ b.natAbs := by
    rw [rd_abs]
    exact Nat.gcd_le_right _ (Int.natAbs_pos.mpr h)
  exact Nat.lt_of_lt_of_le (hs.le h1).log (by decide)

/-! ### numbers: a Ratio or an int -/
def NumAt (C : Addr) (H : Hp) (y : V) (T B : Int) : Prop := (∃ q, y = .ref q ∧ RatAt C H q T B) ∨ (y = .int T ∧ B = 1)
theorem RatAt.num {C : Addr} {H : Hp} {p : Addr} {T B : Int} (h : RatAt C H p T B) : NumAt C H (.ref p) T B := .inl ⟨p, rfl, h⟩
theorem NumAt.same {C : Addr} {H H' : Hp} {y : V} {T B : Int} (s : Same H H') (h : NumAt C H y T B) : NumAt C H' y T B := by
  rcases h with ⟨q, e, r⟩ | h
  · exact .inl ⟨q, e, r.same s⟩
  · exact .inr h
/-- what the operator rules ask of the second operand -/
theorem NumAt.arg {C : Addr} {H : Hp} {y : V} {T B : Int} (h : NumAt C H y T B) : (∃ b dy gs, y = .ref b ∧ H b = some (.ins C dy gs)) ∨ ∃ n, y = .int n := by
  rcases h with ⟨q, rfl, dx, e⟩ | ⟨rfl, _⟩
  · exact .inl ⟨q, dx, _, rfl, e⟩
  · exact .inr ⟨T, rfl⟩
theorem RatAt.self {C : Addr} {H : Hp} {p : Addr} {T B : Int} (h : RatAt C H p T B) : ∃ a dx fs, (V.ref p : V) = .ref a ∧ H a = some (.ins C dx fs) := by
  obtain ⟨dx, e⟩ := h
  exact ⟨p, dx, _, rfl, e⟩
theorem low_any {t b T B : Int} (hb : b ≠ 0) (pos : 0 < B) (cop : Nat.gcd T.natAbs B.natAbs = 1) (eq : T * b = t * B) : LowT t b T B := by
  have n : T.natAbs * b.natAbs = t.natAbs * B.natAbs := by
    rw [← Int.natAbs_mul, ← Int.natAbs_mul, eq]
  have d1 : B.natAbs ∣ b.natAbs := by
    have : B.natAbs ∣ T.natAbs * b.natAbs := n ▸ Nat.dvd_mul_left ..
    exact (Nat.Coprime.symm cop).dvd_of_dvd_mul_left this
  have d2 : T.natAbs ∣ t.natAbs := by
    have : T.natAbs ∣ t.natAbs * B.natAbs := n ▸ Nat.dvd_mul_right ..
    exact Nat.Coprime.dvd_of_dvd_mul_right cop this
  refine ⟨pos, eq, ?_, Nat.le_of_dvd (Int.natAbs_pos.mpr hb) d1, cop⟩
  rcases Nat.eq_zero_or_pos t.natAbs with z | z
  · rw [z, Nat.zero_mul] at n
    rcases Nat.mul_eq_zero.mp n with h | h
    · omega
    · exact absurd h (by have := Int.natAbs_pos.mpr hb; omega)
  · exact Nat.le_of_dvd z d2
theorem low_int (n : Int) : LowT n 1 n 1 := ⟨by decide, rfl, Nat.le_refl _, Nat.le_refl _, by simp⟩
theorem LowT.to {t b t' b' T B : Int} (h : LowT t b T B) (hb : b ≠ 0) (hb' : b' ≠ 0) (e : t * b' = t' * b) : LowT t' b' T B := by
  refine low_any hb' h.pos h.cop ?_
  have q := h.eq
  have : b * (T * b') = b * (t' * B) := by grind
  exact Int.eq_of_mul_eq_mul_left hb this
/-! ### operators of an own class -/
section
variable {prog : Program} {w : World} {A : Around} {E : Value → Shared → Prop} {s : Shared} {K : PySem.W.Frag}
/-- an int's own operator declines an instance -/
theorem declines_bin {id nm : String} {name : Str} {g : Int → Int → Sem Fin} {n : Int} {t : Tok} {a C dx : Addr} {Q : Value → Shared → Prop} (ha : s.heap.get? a = some (PySem.W.instObj C dx)) (slot : Slot "int" name id)
    (entry : entryFor table id = some (Builtin.Int.intBinary nm g)) (args : argsOk id ⟨[.int n t, .ref a], []⟩) (h : Q .notImplemented s) :
    wpAny (model prog w) A (call (.builtin id) [.int n t, .ref a]) Q E s := by
  refine GQ.call_here slot (by first | exact rfl | trivial) entry args ?_
  have e1 : slotArgs nm 1 ⟨[.int n t, .ref a], []⟩ = pure (.int n t, [.ref a]) := rfl
  have e2 : Builtin.Int.intOfSelf (.int n t) = pure n := rfl
  unfold Builtin.Int.intBinary
  rw [e1]
  refine wpAny_bind (wpAny_pure ?_)
  dsimp only
  rw [e2]
  refine wpAny_bind (wpAny_pure ?_)
  refine wpAny_bind ?_
  show wpAny (model prog w) A.in1 (asInt? (.ref a)) _ _ s
  unfold asInt?
  refine wpAny_bind (wpAny_load ha ?_)
  refine wpAny_pure ?_
  refine wpAny_bind (wpAny_rule ?_)
  exact wpAny_pure h
end
section
variable {prog : Program} {w : World} {A : Around} {E : Value → Shared → Prop} {s : Shared} {K : PySem.W.Frag}
/-- n op a: the int's own operator declines, then a's reflected one is asked -/
theorem bin_refl {op : Operator} {id nm : String} {g : Int → Int → Sem Fin} {n : Int} {t : Tok} {a C dx f : Addr} {od : Option Obj} {Q : Value → Shared → Prop} (X : K.In s.heap) (ha : s.heap.get? a = some (PySem.W.instObj C dx)) (J : PySem.W.InstAt s.heap a (PySem.W.instObj C dx) C od)
    (first : PySem.W.selfFirst K C = true) (slot : Slot "int" (dunder op.info.2) id) (entry : entryFor table id = some (Builtin.Int.intBinary nm g)) (args : argsOk id ⟨[.int n t, .ref a], []⟩)
    (fillI : fillsNumberSlot (.type "int") op.info.2 = pure true) {f0 : Addr} (own : PySem.W.findIn K (.ref C) (dunder op.info.2) = some (some (.ref f0))) (sub : PySem.W.subIn K (.ref C) (.type "int") = some false)
    (hr : PySem.W.findIn K (.ref C) (dunderR op.info.2) = some (some (.ref f))) (hf : PySem.W.isFn K (.ref f) = true)
    (h : wpAny (model prog w) A (call (.ref f) [.ref a, .int n t]) (PySem.W.CmpBack Q) E s) : wpAny (model prog w) A (binaryOp op (.int n t) (.ref a)) Q E s := by
  obtain ⟨cd, rest, hcd, hm⟩ := PySem.W.ksp_first first
  have back := PySem.W.ksp_try X J hr hf h
  rcases hi : op.info with ⟨sym, nm'⟩
  rw [hi] at slot fillI own hr back
  dsimp only at slot fillI own hr back
  have f1 : PySem.W.Looks (model prog w) s.heap (fillsNumberSlot (.ref C) nm') true := PySem.W.fills_K X hcd hm own
  have ne : (Value.type "int" == Value.ref C) = false := Bool.eq_false_iff.mpr fun z => by cases beq_iff_eq.mp z
  unfold binaryOp
  refine wpAny_holding ?_
  simp only [hi]
  refine wpAny_bind ?_
  unfold binaryOp1
  refine wpAny_bind (wpAny_typeOf (T := "int") (by exact rfl) (wpAny_bind (J.type.here (wpAny_bind (wpAny_of_eq fillI ?_)))))
  simp only [ne, Bool.false_eq_true, if_false]
  refine wpAny_bind (f1.here ?_)
  simp only [Bool.and_self, if_true]
  refine wpAny_bind ((PySem.W.looks_subIn X sub).here ?_)
  have hpy : numberSlotInPython (.type "int") nm' = pure false := rfl
  simp only [Bool.false_eq_true, if_false, pure_bind, Bool.not_false, Bool.and_self, if_true, hpy]
  refine wpAny_bind (wpAny_tryMethod_declines (T := "int") (by exact rfl) slot (declines_bin ha slot entry args ⟨rfl, ?_⟩))
  dsimp only
  refine wpAny_bind (wpAny_mono back (fun r s' z => ?_) fun _ _ z => z)
  obtain ⟨v, rfl, q⟩ := z
  exact wpAny_bind (wpAny_rule (wpAny_pure (wpAny_pure q)))
end
section
variable {X : Cx} {CX : CXT} {k : Nat} {f C : Addr} {fd : FuncData} {ps : List Str} {sp : Sp} {ds : List Value} {E : XK}
theorem ep_back {pins : List (Addr × Obj)} {σ : L2.St} {Q : VK} {u : Value} {s' : Shared} (h : EP X pins σ Q u s') : PySem.W.CmpBack (EP X pins σ Q) u s' := by
  obtain ⟨v, H', J, r, q⟩ := h
  cases u <;> first
    | exact ⟨v, H', J, r, q⟩
    | (exfalso; cases v <;> first | (obtain ⟨_, z⟩ := r; cases z) | cases r)
/-- x op y by the class's own operator; y an instance of the class, or an int -/
def rOwn (C : Addr) (sp : Sp) (E : XK) : R2 := fun x y H Q => (∃ a dx fs, x = .ref a ∧ H a = some (.ins C dx fs)) ∧ ((∃ b dy gs, y = .ref b ∧ H b = some (.ins C dy gs)) ∨ ∃ n, y = .int n) ∧ sp [x, y] H Q E
/-- n op a by the class's reflected operator -/
def rRef (C : Addr) (sp : Sp) (E : XK) : R2 := fun x y H Q => (∃ n, x = .int n) ∧ (∃ a dx fs, y = .ref a ∧ H a = some (.ins C dx fs)) ∧ sp [y, x] H Q E
theorem inst_of {pins : List (Addr × Obj)} {σ : L2.St} {H : Hp} {s : Shared} {a C dx : Addr} {fs : List (Str × V)} (I : Inv X pins σ H s) (e : H a = some (.ins C dx fs)) :
    s.heap.get? a = some (PySem.W.instObj C dx) ∧ ∃ od, PySem.W.InstAt s.heap a (PySem.W.instObj C dx) C (some od) := by
  obtain ⟨mA, O, _⟩ := ins_get I.hok e
  obtain ⟨od, J, _⟩ := O.look
  exact ⟨O.obj, od, J⟩
theorem op_own {op : Operator} {fo ro rc : Option Value} (M : Meth X.K C (dunder op.info.2) f) (first : PySem.W.selfFirst X.K C = true) (hr : PySem.W.findIn X.K (.ref C) (dunderR op.info.2) = some rc) (hp : rc = none ∨ ∃ g : Addr, rc = some (.ref g))
    (h1 : PySem.W.findIn X.K (.type "int") (dunder op.info.2) = some fo) (h2 : PySem.W.findIn X.K (.type "int") (dunderR op.info.2) = some ro) (hsub : PySem.W.subIn X.K (.type "int") (.ref C) = some false)
    (G : FnOk X.prog X.w X.K X.mg X.base CX k f fd ps sp) (room : Room k X.A) (bd : Binds X.K fd ps []) (out : Passes CX X E) : OpR X (binaryOp op) (rOwn C sp E) := by
  intro pins s σ H x y v u Q I rx ry h
  obtain ⟨⟨a, dx, fs, rfl, ha⟩, hy, h⟩ := h
  cases (show v = Value.ref a from rx)
  obtain ⟨_, od, J⟩ := inst_of I ha
  obtain ⟨m, F⟩ := I.fr
  have ran : wpAny (model X.prog X.w) X.A (call (.ref f) [.ref a, u]) (PySem.W.CmpBack (EP X pins σ Q)) X.xe s :=
    wpAny_mono (run_fn (ds := []) G room bd .nil out I (.cons (show L2.RelV (.ref a) (.ref a) from rfl) (.cons ry .nil)) h) (fun _ _ z => ep_back z) fun _ _ z => z
  rcases hy with ⟨b, dy, gs, rfl, hb⟩ | ⟨n, rfl⟩
  · cases (show u = Value.ref b from ry)
    obtain ⟨_, od', J'⟩ := inst_of I hb
    exact PySem.W.binop_K F I.ok.mod.kin J J'.type first M.at_ M.fn ran
  · obtain ⟨t, rfl⟩ := (show ∃ t, u = Value.int n t from ry)
    exact PySem.W.ksp_binT F I.ok.mod.kin J (T := "int") rfl first M.at_ M.fn hr hp h1 h2 hsub ran
theorem op_ref {op : Operator} {id nm : String} {g : Int → Int → Sem Fin} {f0 : Addr} (M : Meth X.K C (dunderR op.info.2) f) (first : PySem.W.selfFirst X.K C = true) (own : PySem.W.findIn X.K (.ref C) (dunder op.info.2) = some (some (.ref f0)))
    (sub : PySem.W.subIn X.K (.ref C) (.type "int") = some false) (slot : Slot "int" (dunder op.info.2) id) (entry : entryFor table id = some (Builtin.Int.intBinary nm g)) (args : ∀ a b, argsOk id ⟨[a, b], []⟩) (fillI : fillsNumberSlot (.type "int") op.info.2 = pure true)
    (G : FnOk X.prog X.w X.K X.mg X.base CX k f fd ps sp) (room : Room k X.A) (bd : Binds X.K fd ps []) (out : Passes CX X E) : OpR X (binaryOp op) (rRef C sp E) := by
  intro pins s σ H x y v u Q I rx ry h
  obtain ⟨⟨n, rfl⟩, ⟨a, dx, fs, rfl, ha⟩, h⟩ := h
  cases (show u = Value.ref a from ry)
  obtain ⟨t, rfl⟩ := (show ∃ t, v = Value.int n t from rx)
  obtain ⟨ho, od, J⟩ := inst_of I ha
  have ran : wpAny (model X.prog X.w) X.A (call (.ref f) [.ref a, .int n t]) (PySem.W.CmpBack (EP X pins σ Q)) X.xe s :=
    wpAny_mono (run_fn (ds := []) G room bd .nil out I (.cons (show L2.RelV (.ref a) (.ref a) from rfl) (.cons rx .nil)) h) (fun _ _ z => ep_back z) fun _ _ z => z
  exact bin_refl I.kIn ho J first slot entry (args _ _) fillI own sub M.at_ M.fn ran
/-- -a -/
def rNeg (C : Addr) (sp : Sp) (E : XK) : V → Hp → VK → Prop := fun x H Q => (∃ a dx fs, x = .ref a ∧ H a = some (.ins C dx fs)) ∧ sp [x] H Q E
theorem un_own (M : Meth X.K C "__neg__" f) (G : FnOk X.prog X.w X.K X.mg X.base CX k f fd ps sp) (room : Room k X.A) (bd : Binds X.K fd ps []) (out : Passes CX X E) : UnR X (unaryOp .USub) (rNeg C sp E) := by
  intro pins s σ H x v Q I rx h
  obtain ⟨⟨a, dx, fs, rfl, ha⟩, h⟩ := h
  cases (show v = Value.ref a from rx)
  obtain ⟨_, od, J⟩ := inst_of I ha
  obtain ⟨m, F⟩ := I.fr
  exact PySem.W.ksp_neg F I.ok.mod.kin J M.at_ M.fn (run_fn (ds := []) G room bd .nil out I (.cons (show L2.RelV (.ref a) (.ref a) from rfl) .nil) h)
end
section
variable {X : Cx} {CX : CXT} {k : Nat} {f C : Addr} {fd : FuncData} {ps : List Str} {sp : Sp} {ds : List Value} {E : XK}
/-- abs(a) by the class's own -/
def rAbsO (C : Addr) (sp : Sp) (E : XK) : List V → Hp → VK → Prop := fun xs H Q => ∃ a dx fs, xs = [.ref a] ∧ H a = some (.ins C dx fs) ∧ sp [.ref a] H Q E
/-- a def called where the frames are X's, one room further in -/
theorem run_in {B : Around} {pins : List (Addr × Obj)} {σ : L2.St} {H : Hp} {s : Shared} {Q : VK} {us : List Value} {vs : List V} (G : FnOk X.prog X.w X.K X.mg X.base CX k f fd ps sp) (room : Room k B) (fr : B.frames = X.A.frames) (bd : Binds X.K fd ps []) (out : Passes CX X E)
    (I : Inv X pins σ H s) (rel : Vals vs us) (h : sp vs H Q E) : wpAny (model X.prog X.w) B (call (.ref f) us) (EP X pins σ Q) X.xe s := by
  have n : us.length = ps.length := rel.length.symm.trans (G.len _ _ _ _ h)
  have bound := bd s us I.kIn (by rw [List.append_nil]; exact n)
  rw [List.append_nil] at bound
  have env := I.env0
  refine wpAny_call (codeAny_mono (G.run B X.stack s H ⟨us, []⟩ us vs Q E room ⟨fr.trans env.frames, env.mod, env.bs, env.bsz, env.funs, env.frf, env.hok, env.bare⟩ bound rel h) ?_)
  rintro (e | fl) s' back
  · exact out pins σ H s e s' I back
  · cases fl with
    | ret u => exact I.after back
    | next => exact back.elim
    | brk => exact back.elim
    | cont => exact back.elim
theorem call_absO (M : Meth X.K C "__abs__" f) (G : FnOk X.prog X.w X.K X.mg X.base CX k f fd ps sp) (room : Room (k + 1) X.A) (bd : Binds X.K fd ps []) (out : Passes CX X E) : CallR X (.builtin "abs") (rAbsO C sp E) := by
  intro pins s σ H xs us Q I r h
  obtain ⟨a, dx, fs, rfl, ha, h⟩ := h
  obtain ⟨u, rfl, rx⟩ := vals1 r
  cases (show u = Value.ref a from rx)
  obtain ⟨_, od, J⟩ := inst_of I ha
  refine PySem.Calls.call_function_entry PyProof.Rows.kind_abs PyProof.Rows.plain_abs PyProof.Rows.entry_abs (PyProof.Rows.args_abs _) ?_
  unfold Builtin.«abs»
  refine wpAny_bind (m := oneArg "abs" _) (wpAny_pure ?_)
  refine wpAny_bind (PySem.W.special_fn I.kIn J M.at_ (beq_iff_eq.mp M.fn) ?_)
  refine wpAny_mono (run_in (B := X.A.in1) G room.in1 rfl bd out I (.cons (show L2.RelV (.ref a) (.ref a) from rfl) .nil) h) (fun v s' z => ?_) fun _ _ z => z
  exact wpAny_pure ⟨_, rfl, z⟩
end

/-! ### methods and operators that may let an error out, wished for at the slots that stand -/
section
variable {X : Cx} {CX : CXT} {k : Nat} {f C : Addr} {fd : FuncData} {ps : List Str} {sp : Sp} {Ex : L2.St → XK}
def tMethT (C : Addr) (m : Str) (sp : Sp) (Ex : L2.St → XK) (ta : TE) (t : TA) : TE := fun τ H Q => ta τ H fun x H1 => ∃ a dx fs, x = .ref a ∧ H1 a = some (.ins C dx fs) ∧ fs.lookup m = none ∧ t τ H1 fun vs H2 => sp (.ref a :: vs) H2 Q (Ex τ)
theorem pe_methT {pl : Sem Bool} {m : Str} {o e : Expr} {es : List Expr} {apos pos : Pos} {ta : TE} {t : TA} (ho : PE X o ta) (c : Cls X.K C) (M : Meth X.K C m f) (G : FnOk X.prog X.w X.K X.mg X.base CX k f fd ps sp) (room : Room k X.A) (bd : Binds X.K fd ps [])
    (out : ∀ τ, PassesAt CX X τ (Ex τ)) (args : PA X (e :: es) t) (hst : starEach (e :: es) X.env = (false, eval e X.env) :: starEach es X.env := by rfl) (hpl : (backTo pos (starEach es X.env)).any (·.1) = false := by rfl)
    (ht : eval (.Call (.Attribute o m apos) (e :: es) [] pos) X.env = (do
      let w0 ← eval o X.env
      standAt apos.atName
      let (fn, fst) ← holding [w0] (getMethod w0 m pl)
      callWith pos fn fst (backTo pos (starEach (e :: es) X.env)) (backToKw pos (keywordEach [] X.env))) := by rfl) :
    PE X (.Call (.Attribute o m apos) (e :: es) [] pos) (tMethT C m sp Ex ta t) := by
  refine ⟨fun pn st τ H Q J h => PySem.W.methodCall_KW (pl := pl) (thn (ho.run pn st τ H _ J h) ?_) ht⟩
  rintro u s1 ⟨x, H1, J1, rx, a, dx, fs, rfl, ea, l, go⟩
  cases (show u = Value.ref a from rx)
  refine getmeth_ok J1 ea c M l (PySem.W.callWith_K (first := [.ref a]) (h₀ := X.base) J1.ok.mod.kin M.kp (thn (args.run pos pn s1 τ H1 _ J1 go) ?_) hst hpl)
  rintro us s2 ⟨vs, H2, J2, r, go2⟩
  exact ⟨J2.kIn, run_fnS (us := .ref a :: us) (vs := .ref a :: vs) G room bd (out τ) J2 (.cons (show L2.RelV (.ref a) (.ref a) from rfl) r) go2⟩
end

/-- x op y by the class's own operator, in a try's body -/
def tOwnT (C : Addr) (sp : Sp) (Ex : L2.St → XK) (ta tb : TE) : TE := fun τ H Q => ta τ H fun x H1 => tb τ H1 fun y H2 => rOwn C sp (Ex τ) x y H2 Q
section
variable {X : Cx} {CX : CXT} {k : Nat} {f C : Addr} {fd : FuncData} {ps : List Str} {sp : Sp} {Ex : L2.St → XK}
theorem own_at {op : Operator} {fo ro rc : Option Value} (M : Meth X.K C (dunder op.info.2) f) (first : PySem.W.selfFirst X.K C = true) (hr : PySem.W.findIn X.K (.ref C) (dunderR op.info.2) = some rc) (hp : rc = none ∨ ∃ g : Addr, rc = some (.ref g))
    (h1 : PySem.W.findIn X.K (.type "int") (dunder op.info.2) = some fo) (h2 : PySem.W.findIn X.K (.type "int") (dunderR op.info.2) = some ro) (hsub : PySem.W.subIn X.K (.type "int") (.ref C) = some false)
    (G : FnOk X.prog X.w X.K X.mg X.base CX k f fd ps sp) (room : Room k X.A) (bd : Binds X.K fd ps []) {τ : L2.St} (out : PassesAt CX X τ (Ex τ)) {pins : List (Addr × Obj)} {s : Shared} {H : Hp} {x y : V} {v u : Value} {Q : VK}
    (I : Inv X pins τ H s) (rx : RelV x v) (ry : RelV y u) (h : rOwn C sp (Ex τ) x y H Q) : wpAny (model X.prog X.w) X.A (binaryOp op v u) (EP X pins τ Q) X.xe s := by
  obtain ⟨⟨a, dx, fs, rfl, ha⟩, hy, h⟩ := h
  cases (show v = Value.ref a from rx)
  obtain ⟨_, od, J⟩ := inst_of I ha
  obtain ⟨m, F⟩ := I.fr
  have ran : wpAny (model X.prog X.w) X.A (call (.ref f) [.ref a, u]) (PySem.W.CmpBack (EP X pins τ Q)) X.xe s :=
    wpAny_mono (run_fnS G room bd out I (.cons (show L2.RelV (.ref a) (.ref a) from rfl) (.cons ry .nil)) h) (fun _ _ z => ep_back z) fun _ _ z => z
  rcases hy with ⟨b, dy, gs, rfl, hb⟩ | ⟨n, rfl⟩
  · cases (show u = Value.ref b from ry)
    obtain ⟨_, od', J'⟩ := inst_of I hb
    exact PySem.W.binop_K F I.ok.mod.kin J J'.type first M.at_ M.fn ran
  · obtain ⟨t, rfl⟩ := (show ∃ t, u = Value.int n t from ry)
    exact PySem.W.ksp_binT F I.ok.mod.kin J (T := "int") rfl first M.at_ M.fn hr hp h1 h2 hsub ran
end

/-! ### the operators one by one -/
section
variable {X : Cx} {CX : CXT} {k : Nat} {f C : Addr} {fd : FuncData} {ps : List Str} {sp : Sp} {E : XK}
theorem d_add : dunder Operator.Add.info.2 = ("__add__" : Str) := by decide +kernel
theorem dR_add : dunderR Operator.Add.info.2 = ("__radd__" : Str) := by decide +kernel
theorem op_own_Add (M : Meth X.K C "__add__" f) (first : PySem.W.selfFirst X.K C = true) (hr : ∃ rc : Option Value, PySem.W.findIn X.K (.ref C) "__radd__" = some rc ∧ (rc = none ∨ ∃ g : Addr, rc = some (.ref g)))
    (hi : ∃ fo ro : Option Value, PySem.W.findIn X.K (.type "int") "__add__" = some fo ∧ PySem.W.findIn X.K (.type "int") "__radd__" = some ro) (hsub : PySem.W.subIn X.K (.type "int") (.ref C) = some false)
    (G : FnOk X.prog X.w X.K X.mg X.base CX k f fd ps sp) (room : Room k X.A) (bd : Binds X.K fd ps []) (out : Passes CX X E) : OpR X (binaryOp .Add) (rOwn C sp E) := by
  obtain ⟨rc, e1, e2⟩ := hr
  obtain ⟨fo, ro, e3, e4⟩ := hi
  exact op_own (op := .Add) (by rw [d_add]; exact M) first (by rw [dR_add]; exact e1) e2 (by rw [d_add]; exact e3) (by rw [dR_add]; exact e4) hsub G room bd out
theorem d_sub : dunder Operator.Sub.info.2 = ("__sub__" : Str) := by decide +kernel
theorem dR_sub : dunderR Operator.Sub.info.2 = ("__rsub__" : Str) := by decide +kernel
theorem op_own_Sub (M : Meth X.K C "__sub__" f) (first : PySem.W.selfFirst X.K C = true) (hr : ∃ rc : Option Value, PySem.W.findIn X.K (.ref C) "__rsub__" = some rc ∧ (rc = none ∨ ∃ g : Addr, rc = some (.ref g)))
    (hi : ∃ fo ro : Option Value, PySem.W.findIn X.K (.type "int") "__sub__" = some fo ∧ PySem.W.findIn X.K (.type "int") "__rsub__" = some ro) (hsub : PySem.W.subIn X.K (.type "int") (.ref C) = some false)
    (G : FnOk X.prog X.w X.K X.mg X.base CX k f fd ps sp) (room : Room k X.A) (bd : Binds X.K fd ps []) (out : Passes CX X E) : OpR X (binaryOp .Sub) (rOwn C sp E) := by
  obtain ⟨rc, e1, e2⟩ := hr
  obtain ⟨fo, ro, e3, e4⟩ := hi
  exact op_own (op := .Sub) (by rw [d_sub]; exact M) first (by rw [dR_sub]; exact e1) e2 (by rw [d_sub]; exact e3) (by rw [dR_sub]; exact e4) hsub G room bd out
theorem d_mul : dunder Operator.Mult.info.2 = ("__mul__" : Str) := by decide +kernel
theorem dR_mul : dunderR Operator.Mult.info.2 = ("__rmul__" : Str) := by decide +kernel
theorem op_own_Mult (M : Meth X.K C "__mul__" f) (first : PySem.W.selfFirst X.K C = true) (hr : ∃ rc : Option Value, PySem.W.findIn X.K (.ref C) "__rmul__" = some rc ∧ (rc = none ∨ ∃ g : Addr, rc = some (.ref g)))
    (hi : ∃ fo ro : Option Value, PySem.W.findIn X.K (.type "int") "__mul__" = some fo ∧ PySem.W.findIn X.K (.type "int") "__rmul__" = some ro) (hsub : PySem.W.subIn X.K (.type "int") (.ref C) = some false)
    (G : FnOk X.prog X.w X.K X.mg X.base CX k f fd ps sp) (room : Room k X.A) (bd : Binds X.K fd ps []) (out : Passes CX X E) : OpR X (binaryOp .Mult) (rOwn C sp E) := by
  obtain ⟨rc, e1, e2⟩ := hr
  obtain ⟨fo, ro, e3, e4⟩ := hi
  exact op_own (op := .Mult) (by rw [d_mul]; exact M) first (by rw [dR_mul]; exact e1) e2 (by rw [d_mul]; exact e3) (by rw [dR_mul]; exact e4) hsub G room bd out
theorem d_floordiv : dunder Operator.FloorDiv.info.2 = ("__floordiv__" : Str) := by decide +kernel
theorem dR_floordiv : dunderR Operator.FloorDiv.info.2 = ("__rfloordiv__" : Str) := by decide +kernel
theorem op_own_FloorDiv (M : Meth X.K C "__floordiv__" f) (first : PySem.W.selfFirst X.K C = true) (hr : ∃ rc : Option Value, PySem.W.findIn X.K (.ref C) "__rfloordiv__" = some rc ∧ (rc = none ∨ ∃ g : Addr, rc = some (.ref g)))
    (hi : ∃ fo ro : Option Value, PySem.W.findIn X.K (.type "int") "__floordiv__" = some fo ∧ PySem.W.findIn X.K (.type "int") "__rfloordiv__" = some ro) (hsub : PySem.W.subIn X.K (.type "int") (.ref C) = some false)
    (G : FnOk X.prog X.w X.K X.mg X.base CX k f fd ps sp) (room : Room k X.A) (bd : Binds X.K fd ps []) (out : Passes CX X E) : OpR X (binaryOp .FloorDiv) (rOwn C sp E) := by
  obtain ⟨rc, e1, e2⟩ := hr
  obtain ⟨fo, ro, e3, e4⟩ := hi
  exact op_own (op := .FloorDiv) (by rw [d_floordiv]; exact M) first (by rw [dR_floordiv]; exact e1) e2 (by rw [d_floordiv]; exact e3) (by rw [dR_floordiv]; exact e4) hsub G room bd out
theorem d_mod : dunder Operator.Mod.info.2 = ("__mod__" : Str) := by decide +kernel
theorem dR_mod : dunderR Operator.Mod.info.2 = ("__rmod__" : Str) := by decide +kernel
theorem op_own_Mod (M : Meth X.K C "__mod__" f) (first : PySem.W.selfFirst X.K C = true) (hr : ∃ rc : Option Value, PySem.W.findIn X.K (.ref C) "__rmod__" = some rc ∧ (rc = none ∨ ∃ g : Addr, rc = some (.ref g)))
    (hi : ∃ fo ro : Option Value, PySem.W.findIn X.K (.type "int") "__mod__" = some fo ∧ PySem.W.findIn X.K (.type "int") "__rmod__" = some ro) (hsub : PySem.W.subIn X.K (.type "int") (.ref C) = some false)
    (G : FnOk X.prog X.w X.K X.mg X.base CX k f fd ps sp) (room : Room k X.A) (bd : Binds X.K fd ps []) (out : Passes CX X E) : OpR X (binaryOp .Mod) (rOwn C sp E) := by
  obtain ⟨rc, e1, e2⟩ := hr
  obtain ⟨fo, ro, e3, e4⟩ := hi
  exact op_own (op := .Mod) (by rw [d_mod]; exact M) first (by rw [dR_mod]; exact e1) e2 (by rw [d_mod]; exact e3) (by rw [dR_mod]; exact e4) hsub G room bd out
theorem op_ref_Add (M : Meth X.K C "__radd__" f) (first : PySem.W.selfFirst X.K C = true) (own : ∃ f0 : Addr, PySem.W.findIn X.K (.ref C) "__add__" = some (some (.ref f0))) (hsub : PySem.W.subIn X.K (.ref C) (.type "int") = some false)
    (G : FnOk X.prog X.w X.K X.mg X.base CX k f fd ps sp) (room : Room k X.A) (bd : Binds X.K fd ps []) (out : Passes CX X E) : OpR X (binaryOp .Add) (rRef C sp E) := by
  obtain ⟨f0, e1⟩ := own
  exact op_ref (op := .Add) (by rw [dR_add]; exact M) first (by rw [d_add]; exact e1) hsub PySem.F.slot_int_add PySem.F.entry_int_add PySem.F.args_int_add_2 (by kernel_rfl) G room bd out
theorem op_ref_Sub (M : Meth X.K C "__rsub__" f) (first : PySem.W.selfFirst X.K C = true) (own : ∃ f0 : Addr, PySem.W.findIn X.K (.ref C) "__sub__" = some (some (.ref f0))) (hsub : PySem.W.subIn X.K (.ref C) (.type "int") = some false)
    (G : FnOk X.prog X.w X.K X.mg X.base CX k f fd ps sp) (room : Room k X.A) (bd : Binds X.K fd ps []) (out : Passes CX X E) : OpR X (binaryOp .Sub) (rRef C sp E) := by
  obtain ⟨f0, e1⟩ := own
  exact op_ref (op := .Sub) (by rw [dR_sub]; exact M) first (by rw [d_sub]; exact e1) hsub PySem.F.slot_int_sub PySem.F.entry_int_sub PySem.F.args_int_sub_2 (by kernel_rfl) G room bd out
theorem op_ref_Mult (M : Meth X.K C "__rmul__" f) (first : PySem.W.selfFirst X.K C = true) (own : ∃ f0 : Addr, PySem.W.findIn X.K (.ref C) "__mul__" = some (some (.ref f0))) (hsub : PySem.W.subIn X.K (.ref C) (.type "int") = some false)
    (G : FnOk X.prog X.w X.K X.mg X.base CX k f fd ps sp) (room : Room k X.A) (bd : Binds X.K fd ps []) (out : Passes CX X E) : OpR X (binaryOp .Mult) (rRef C sp E) := by
  obtain ⟨f0, e1⟩ := own
  exact op_ref (op := .Mult) (by rw [dR_mul]; exact M) first (by rw [d_mul]; exact e1) hsub PySem.F.slot_int_mul PySem.F.entry_int_mul PySem.F.args_int_mul_2 (by kernel_rfl) G room bd out
end
section
variable {X : Cx} {CX : CXT} {k : Nat} {f C : Addr} {fd : FuncData} {ps : List Str} {sp : Sp} {Ex : L2.St → XK} {a b : Expr} {ta tb : TE} {pos : Pos}
theorem pe_ownT_FloorDiv (M : Meth X.K C "__floordiv__" f) (first : PySem.W.selfFirst X.K C = true) (hr : ∃ rc : Option Value, PySem.W.findIn X.K (.ref C) "__rfloordiv__" = some rc ∧ (rc = none ∨ ∃ g : Addr, rc = some (.ref g)))
    (hi : ∃ fo ro : Option Value, PySem.W.findIn X.K (.type "int") "__floordiv__" = some fo ∧ PySem.W.findIn X.K (.type "int") "__rfloordiv__" = some ro) (hsub : PySem.W.subIn X.K (.type "int") (.ref C) = some false)
    (G : FnOk X.prog X.w X.K X.mg X.base CX k f fd ps sp) (room : Room k X.A) (bd : Binds X.K fd ps []) (out : ∀ τ, PassesAt CX X τ (Ex τ)) (ha : PE X a ta) (hb : PE X b tb) : PE X (.BinOp a .FloorDiv b pos) (tOwnT C sp Ex ta tb) := by
  obtain ⟨rc, e1, e2⟩ := hr
  obtain ⟨fo, ro, e3, e4⟩ := hi
  refine ⟨fun pn st τ H Q J h => wpAny_BinOp (binT ha hb J h fun v u s2 x y H2 J2 rx ry go => ?_)⟩
  exact own_at (op := .FloorDiv) (by rw [d_floordiv]; exact M) first (by rw [dR_floordiv]; exact e1) e2 (by rw [d_floordiv]; exact e3) (by rw [dR_floordiv]; exact e4) hsub G room bd (out τ) J2 rx ry go
theorem pe_ownT_Mod (M : Meth X.K C "__mod__" f) (first : PySem.W.selfFirst X.K C = true) (hr : ∃ rc : Option Value, PySem.W.findIn X.K (.ref C) "__rmod__" = some rc ∧ (rc = none ∨ ∃ g : Addr, rc = some (.ref g)))
    (hi : ∃ fo ro : Option Value, PySem.W.findIn X.K (.type "int") "__mod__" = some fo ∧ PySem.W.findIn X.K (.type "int") "__rmod__" = some ro) (hsub : PySem.W.subIn X.K (.type "int") (.ref C) = some false)
    (G : FnOk X.prog X.w X.K X.mg X.base CX k f fd ps sp) (room : Room k X.A) (bd : Binds X.K fd ps []) (out : ∀ τ, PassesAt CX X τ (Ex τ)) (ha : PE X a ta) (hb : PE X b tb) : PE X (.BinOp a .Mod b pos) (tOwnT C sp Ex ta tb) := by
  obtain ⟨rc, e1, e2⟩ := hr
  obtain ⟨fo, ro, e3, e4⟩ := hi
  refine ⟨fun pn st τ H Q J h => wpAny_BinOp (binT ha hb J h fun v u s2 x y H2 J2 rx ry go => ?_)⟩
  exact own_at (op := .Mod) (by rw [d_mod]; exact M) first (by rw [dR_mod]; exact e1) e2 (by rw [d_mod]; exact e3) (by rw [dR_mod]; exact e4) hsub G room bd (out τ) J2 rx ry go
end

/-! ### x op y where x is an int or an instance, y an instance (or, behind an instance, an int) -/
section
variable {X : Cx} {CX : CXT} {k j : Nat} {f g C : Addr} {fd gd : FuncData} {ps qs : List Str} {sp sq : Sp} {E : XK}
def rAny (C : Addr) (sp sq : Sp) (E : XK) : R2 := fun x y H Q => rOwn C sp E x y H Q ∨ rRef C sq E x y H Q
theorem op_any_Add (M : Meth X.K C "__add__" f) (N : Meth X.K C "__radd__" g) (first : PySem.W.selfFirst X.K C = true) (hi : ∃ fo ro : Option Value, PySem.W.findIn X.K (.type "int") "__add__" = some fo ∧ PySem.W.findIn X.K (.type "int") "__radd__" = some ro)
    (si : PySem.W.subIn X.K (.type "int") (.ref C) = some false) (sr : PySem.W.subIn X.K (.ref C) (.type "int") = some false) (G : FnOk X.prog X.w X.K X.mg X.base CX k f fd ps sp) (G2 : FnOk X.prog X.w X.K X.mg X.base CX j g gd qs sq)
    (room : Room k X.A) (room2 : Room j X.A) (bd : Binds X.K fd ps []) (bd2 : Binds X.K gd qs []) (out : Passes CX X E) : OpR X (binaryOp .Add) (rAny C sp sq E) := by
  intro pins s σ H x y v u Q I rx ry h
  rcases h with h | h
  · exact op_own_Add M first ⟨_, N.at_, .inr ⟨_, rfl⟩⟩ hi si G room bd out pins s σ H x y v u Q I rx ry h
  · exact op_ref_Add N first ⟨_, M.at_⟩ sr G2 room2 bd2 out pins s σ H x y v u Q I rx ry h
theorem op_any_Sub (M : Meth X.K C "__sub__" f) (N : Meth X.K C "__rsub__" g) (first : PySem.W.selfFirst X.K C = true) (hi : ∃ fo ro : Option Value, PySem.W.findIn X.K (.type "int") "__sub__" = some fo ∧ PySem.W.findIn X.K (.type "int") "__rsub__" = some ro)
    (si : PySem.W.subIn X.K (.type "int") (.ref C) = some false) (sr : PySem.W.subIn X.K (.ref C) (.type "int") = some false) (G : FnOk X.prog X.w X.K X.mg X.base CX k f fd ps sp) (G2 : FnOk X.prog X.w X.K X.mg X.base CX j g gd qs sq)
    (room : Room k X.A) (room2 : Room j X.A) (bd : Binds X.K fd ps []) (bd2 : Binds X.K gd qs []) (out : Passes CX X E) : OpR X (binaryOp .Sub) (rAny C sp sq E) := by
  intro pins s σ H x y v u Q I rx ry h
  rcases h with h | h
  · exact op_own_Sub M first ⟨_, N.at_, .inr ⟨_, rfl⟩⟩ hi si G room bd out pins s σ H x y v u Q I rx ry h
  · exact op_ref_Sub N first ⟨_, M.at_⟩ sr G2 room2 bd2 out pins s σ H x y v u Q I rx ry h
theorem op_any_Mult (M : Meth X.K C "__mul__" f) (N : Meth X.K C "__rmul__" g) (first : PySem.W.selfFirst X.K C = true) (hi : ∃ fo ro : Option Value, PySem.W.findIn X.K (.type "int") "__mul__" = some fo ∧ PySem.W.findIn X.K (.type "int") "__rmul__" = some ro)
    (si : PySem.W.subIn X.K (.type "int") (.ref C) = some false) (sr : PySem.W.subIn X.K (.ref C) (.type "int") = some false) (G : FnOk X.prog X.w X.K X.mg X.base CX k f fd ps sp) (G2 : FnOk X.prog X.w X.K X.mg X.base CX j g gd qs sq)
    (room : Room k X.A) (room2 : Room j X.A) (bd : Binds X.K fd ps []) (bd2 : Binds X.K gd qs []) (out : Passes CX X E) : OpR X (binaryOp .Mult) (rAny C sp sq E) := by
  intro pins s σ H x y v u Q I rx ry h
  rcases h with h | h
  · exact op_own_Mult M first ⟨_, N.at_, .inr ⟨_, rfl⟩⟩ hi si G room bd out pins s σ H x y v u Q I rx ry h
  · exact op_ref_Mult N first ⟨_, M.at_⟩ sr G2 room2 bd2 out pins s σ H x y v u Q I rx ry h
end

/-! ### sum(xs, start=x) of own instances -/
theorem args_sumk (a v : Value) : argsOk "sum" ⟨[a], [(Str.ofString "start", v)]⟩ := by unfold argsOk; kernel_rfl
section
variable {prog : Program} {w : World} {A : Around} {E : Value → Shared → Prop} {s : Shared}
/-- a built-in with keywords that goes on by itself -/
theorem call_tree_kw {id : String} {b : Builtin} {args : List Value} {kw : List (Str × Value)} {Q : Value → Shared → Prop} (hk : builtinKind id = none) (hp : plainId id = true)
    (hb : entryFor table id = some b) (ha : argsOk id ⟨args, kw⟩)
    (hc : wpAny (model prog w) A.in1 (b ⟨args, kw⟩) (fun fin s' => match fin with
      | .done f => (match (Except.ok f : Result) with | .ok (.ret v) => Q v s' | .ok _ => False | .error e => E e s')
      | .again c' => c'.quiet = true ∧ codeAny (model prog w) A c' (fun r s' => match r with | .ok (.ret v) => Q v s' | .ok _ => False | .error e => E e s') s') E s) :
    wpAny (model prog w) A (call (.builtin id) args kw) Q E s := by
  refine wpAny_call (codeAny_call_builtin hp hb ?_)
  simp only [checkBuiltinCall, hk]
  cases hsig : Manifest.signature? id with
  | none => exact wpAny_pure hc
  | some sig =>
    simp only [argsOk, hsig] at ha
    have h2 : Bind.checkArgs id sig ⟨args, kw⟩ = pure () := ha
    show wpAny _ A.in1 (Bind.checkArgs id sig ⟨args, kw⟩) _ _ s
    rw [h2]; exact wpAny_pure hc
end
/-- what the top has written of a class whose instances are added up -/
structure SumC (K : PySem.W.Frag) (C : Addr) : Prop where
  str : PySem.W.subIn K (.ref C) (.type "str") = some false
  byt : PySem.W.subIn K (.ref C) (.type "bytes") = some false
  bya : PySem.W.subIn K (.ref C) (.type "bytearray") = some false
  fst : PySem.W.selfFirst K C = true
/-- sum(xs, start=x0); Iv: what holds of the sum by the number of items that are in it -/
def rSumO (K : PySem.W.Frag) (C : Addr) (sp : Sp) : List V → List V → Hp → VK → Prop := fun vs zs H Q => ∃ (l : Addr) (xs : List V) (x0 : V) (Iv : Nat → V → Hp → Prop), vs = [.ref l] ∧ zs = [x0] ∧ Iv 0 x0 H ∧
  (∀ i x H', Iv i x H' → SqL K H' l xs ∧ ∃ a dx fs, x = .ref a ∧ H' a = some (.ins C dx fs)) ∧
  (∀ i x y H', Iv i x H' → xs[i]? = some y → (∃ b dy gs, y = .ref b ∧ H' b = some (.ins C dy gs)) ∧ sp [x, y] H' (fun z H2 => Iv (i + 1) z H2) E0) ∧ (∀ x H', Iv xs.length x H' → Q x H')
section
variable {X : Cx} {CX : CXT} {k : Nat} {f C : Addr} {fd : FuncData} {ps : List Str} {sp : Sp}
/-- what of an object that stands beside the frame does not change -/
def Beside (X : Cx) (pins : List (Addr × Obj)) (b : Addr) : Prop := b ≠ X.env.locals ∧ b ∉ X.fs ∧ (b ∈ X.ex ∨ X.s_0.heap.objs.size ≤ b) ∧ (∀ x c, X.env.cells.lookup x = some c → c ≠ b) ∧ ∀ p ∈ X.pn ++ pins, p.1 ≠ b
theorem Beside.of_new {pins : List (Addr × Obj)} {σ : L2.St} {H : Hp} {s : Shared} {b : Addr} (I : Inv X pins σ H s) (hb : s.heap.objs.size ≤ b) : Beside X pins b := (I.fpOk hb (I.hok.fresh hb)).2
theorem inv_beside {pins : List (Addr × Obj)} {σ : L2.St} {H : Hp} {s : Shared} {b : Addr} {h' : Heap} {t' : Nat} (I : Inv X pins σ H s) (B : Beside X pins b) (n : H b = none) (k : ∀ c o, c ≠ b → s.heap.get? c = some o → h'.get? c = some o) :
    Inv X pins σ H { s with heap := h', toks := t' } := I.turned k n B.1 B.2.2.1 B.2.2.2.1 B.2.2.2.2
theorem pin_two {pins : List (Addr × Obj)} {σ : L2.St} {H : Hp} {s : Shared} {a b : Addr} {oa ob : Obj} (I : Inv X pins σ H s) (ha : s.heap.get? a = some oa) (hb : s.heap.get? b = some ob) (na : H a = none) (nb : H b = none) (Ba : Beside X pins a) (Bb : Beside X pins b) (ca : ∀ v, oa.data ≠ .cell v) (cb : ∀ v, ob.data ≠ .cell v) :
    Inv X ((a, oa) :: (b, ob) :: pins) σ H s := by
  refine I.pins_of fun p hp => ?_
  rcases List.mem_cons.mp hp with e | e
  · subst e
    exact ⟨ha, na, Ba.1, Ba.2.1, ca⟩
  rcases List.mem_cons.mp e with e | e
  · subst e
    exact ⟨hb, nb, Bb.1, Bb.2.1, cb⟩
  · exact I.pin p (List.mem_append_right _ e)
/-- x + y where the frames are X's and nothing is raised -/
theorem add_in {B : Around} {E : Value → Shared → Prop} {pins : List (Addr × Obj)} {σ : L2.St} {H : Hp} {s : Shared} {Q : VK} {a b dx dy : Addr} {fs gs : List (Str × V)} (M : Meth X.K C "__add__" f) (first : PySem.W.selfFirst X.K C = true)
    (out : ∀ E, Passes CX (X.wish E) E0) (G : FnOk X.prog X.w X.K X.mg X.base CX k f fd ps sp) (room : Room k B) (fr : B.frames = X.A.frames) (bd : Binds X.K fd ps []) (I : Inv X pins σ H s) (ha : H a = some (.ins C dx fs)) (hb : H b = some (.ins C dy gs)) (h : sp [.ref a, .ref b] H Q E0) :
    wpAny (model X.prog X.w) B (binaryOp .Add (.ref a) (.ref b)) (EP X pins σ Q) E s := by
  obtain ⟨_, od, J⟩ := inst_of I ha
  obtain ⟨_, od', J'⟩ := inst_of I hb
  obtain ⟨m, F⟩ := I.fr
  have ran : wpAny (model X.prog X.w) B (call (.ref f) [.ref a, .ref b]) (PySem.W.CmpBack (EP X pins σ Q)) E s :=
    wpAny_mono (run_in (X := X.wish E) (B := B) G room fr bd (out E) (I.wish E) (.cons (show L2.RelV (.ref a) (.ref a) from rfl) (.cons (show L2.RelV (.ref b) (.ref b) from rfl) .nil)) h)
      (fun _ _ ⟨v, H', J, r, q⟩ => ep_back ⟨v, H', J.unwish, r, q⟩) fun _ _ z => z
  exact PySem.W.binop_K F I.ok.mod.kin J J'.type first (by rw [d_add]; exact M.at_) M.fn ran
theorem sum_go {B : Around} {pins : List (Addr × Obj)} {σ : L2.St} {l it S : Addr} {xs : List V} {Iv : Nat → V → Hp → Prop} {Q : VK} {R : Result → Shared → Prop} (M : Meth X.K C "__add__" f) (first : PySem.W.selfFirst X.K C = true) (hh : B.handled = none)
    (out : ∀ E, Passes CX (X.wish E) E0) (G : FnOk X.prog X.w X.K X.mg X.base CX k f fd ps sp) (room : Room k B.in1) (fr : B.frames = X.A.frames) (bd : Binds X.K fd ps []) (Bi : Beside X pins it) (BS : Beside X pins S) (ne : it ≠ S)
    (inv : ∀ i x H', Iv i x H' → SqL X.K H' l xs ∧ ∃ a dx fs, x = .ref a ∧ H' a = some (.ins C dx fs))
    (step : ∀ i x y H', Iv i x H' → xs[i]? = some y → (∃ b dy gs, y = .ref b ∧ H' b = some (.ins C dy gs)) ∧ sp [x, y] H' (fun z H2 => Iv (i + 1) z H2) E0) (last : ∀ x H', Iv xs.length x H' → Q x H')
    (hR : ∀ u s', EP X pins σ Q u s' → R (.ok (.ret u)) s') :
    ∀ (m i : Nat) (s : Shared) (H : Hp) (x : V) (v : Value) (c : Nat), xs.length - i = m → i ≤ xs.length → Inv X pins σ H s → s.heap.IsListIter it l i → H it = none → H S = none → s.heap.get? S = some { cls := .type "list", dict := none, data := .seq #[v] c, slots := #[] } →
      Iv i x H → RelV x v → codeAny (model X.prog X.w) B (.builtin "sum.loop" ⟨[.ref it, .ref S, rawInt 2, rawInt 0], []⟩) R s := by
  intro m
  induction m with
  | zero =>
    intro i s H x v c hm hi I st ni nS hS iv rv
    obtain ⟨hl, a, dx, fs, rfl, ha⟩ := inv i x H iv
    obtain ⟨its, rvs, p, hz⟩ := I.list hl
    cases (show v = Value.ref a from rv)
    have e : i = xs.length := by omega
    subst e
    refine codeAny_builtin F.entry_sum_loop ?_
    rw [Around.under_plainId F.plain_sum_loop _]
    show wpAny _ B.in1 (seqItems? (.ref S) >>= _) _ _ s
    refine wpAny_bind (wpAny_seqItems hS rfl ?_)
    show wpAny _ B.in1 (tryCatch (pyNext (.ref it)) _ >>= _) _ _ s
    have hlen := rvs.length
    refine wpAny_bind (wpAny_tryCatch (wpAny_pyNext_list_end hh st p.isList (by simp; omega) fun h' eb => ?_))
    exact wpAny_pure (hR _ _ ⟨.ref a, H, inv_beside (t' := s.toks) I Bi ni fun b o hb e => eb b o hb e, rfl, last _ _ iv⟩)
  | succ m ih =>
    intro i s H x v c hm hi I st ni nS hS iv rv
    obtain ⟨hl, a, dx, fs, rfl, ha⟩ := inv i x H iv
    obtain ⟨its, rvs, p, hz⟩ := I.list hl
    cases (show v = Value.ref a from rv)
    have lt : i < xs.length := by omega
    obtain ⟨y, hy⟩ : ∃ y, xs[i]? = some y := ⟨_, List.getElem?_eq_getElem lt⟩
    obtain ⟨u, hu, ru⟩ := rvs.get hy
    obtain ⟨⟨b, dy, gs, rfl, hb⟩, go⟩ := step i _ y H iv hy
    cases (show u = Value.ref b from ru)
    refine codeAny_builtin F.entry_sum_loop ?_
    rw [Around.under_plainId F.plain_sum_loop _]
    show wpAny _ B.in1 (seqItems? (.ref S) >>= _) _ _ s
    refine wpAny_bind (wpAny_seqItems hS rfl ?_)
    show wpAny _ B.in1 (tryCatch (pyNext (.ref it)) _ >>= _) _ _ s
    refine wpAny_bind (wpAny_tryCatch (wpAny_pyNext_list_item st p.isList (x := .ref b) (by simpa using hu) fun h' st' sb => ?_))
    show wpAny _ B.in1 ((holding [Value.ref b] (binaryOp .Add (.ref a) (.ref b))).attempt >>= _) _ _ _
    have I1 : Inv X pins σ H { s with heap := h' } := inv_beside (t' := s.toks) I Bi ni fun b o hb e => (sb.2 b hb).trans e
    have hS1 : h'.get? S = some { cls := .type "list", dict := none, data := .seq #[Value.ref a] c, slots := #[] } := (sb.2 S (Ne.symm ne)).trans hS
    obtain ⟨oi, hoi, hci, hdi⟩ := id st'
    have I2 := pin_two I1 hoi hS1 ni nS Bi BS (fun v z => by rw [hdi] at z; cases z) (fun v z => by cases z)
    refine wpAny_bind (wpAny_attempt (wpAny_holding (wpAny_mono (add_in M first out G room fr bd I2 ha hb go) (fun z s3 back => ?_) fun _ _ z => z)))
    obtain ⟨zv, H3, I3, rz, iv3⟩ := back
    have hi3 := pin_at I3
    have n3 := ClX.pin_un I3
    have I4 := ClX.unpin I3
    have hS3 := pin_at I4
    have nS3 := ClX.pin_un I4
    have I5 := ClX.unpin I4
    have it3 : s3.heap.IsListIter it l (i + 1) := ⟨oi, hi3, hci, hdi⟩
    show wpAny _ B.in1 (updateSeq S (fun _ => #[z]) >>= _) _ _ _
    refine wpAny_bind (wpAny_updateSeq hS3 rfl ?_)
    have hS4 := Heap.get?_update_self (Obj.mapSeq fun _ => #[z]) hS3 rfl
    refine wpAny_bind (wpAny_letGo ?_)
    refine wpAny_bind (wpAny_updateSeq hS4 rfl (wpAny_pure ⟨plainId_quiet F.plain_sum_loop _, ?_⟩))
    have kp : ∀ b o, b ≠ S → s3.heap.get? b = some o → ((s3.heap.update S (Obj.mapSeq fun _ => #[z])).update S (Obj.mapSeq fun _ => #[z])).get? b = some o := fun b o hb e =>
      (Heap.get?_update_other _ _ (Ne.symm hb)).trans ((Heap.get?_update_other _ _ (Ne.symm hb)).trans e)
    have I6 := inv_beside (t' := s3.toks) I5 BS nS3 kp
    exact ih (i + 1) _ H3 zv z _ (by omega) lt I6 ⟨oi, kp it oi ne hi3, hci, hdi⟩ n3 nS3 (Heap.get?_update_self _ hS4 rfl) iv3 rz
/-- sum(xs, start=x0) of instances of a class with an own __add__ -/
theorem cr_sumO (S : SumC X.K C) (M : Meth X.K C "__add__" f) (hc : X.calm = true) (out : ∀ E, Passes CX (X.wish E) E0) (G : FnOk X.prog X.w X.K X.mg X.base CX k f fd ps sp) (room : Room (k + 1) X.A) (bd : Binds X.K fd ps []) : CallRK X (.builtin "sum") [Str.ofString "start"] (rSumO X.K C sp) := by
  intro pins s σ H vs zs us ws Q I r rz h
  obtain ⟨l, xs, x0, Iv, rfl, rfl, iv0, inv, step, last⟩ := h
  obtain rfl := Vals.ref1 r
  obtain ⟨w1, rfl, e1⟩ := vals1 rz
  obtain ⟨hl, a, dx, fs, rfl, ha⟩ := inv 0 x0 H iv0
  cases (show w1 = Value.ref a from e1)
  obtain ⟨its, rvs, p, hz⟩ := I.list hl
  show wpAny _ _ (call (.builtin "sum") [.ref l] [(Str.ofString "start", .ref a)]) _ _ _
  refine call_tree_kw F.kind_sum F.plain_sum F.entry_sum (args_sumk _ _) ?_
  unfold Builtin.«sum»
  simp only [List.length_cons, List.length_nil]
  rw [if_neg (by decide)]
  refine wpAny_bind (wpAny_of_eq (show Builtin.Builtins.bindParams "sum" ["start"] 0 ⟨[], [(Str.ofString "start", Value.ref a)]⟩ = pure [some (Value.ref a)] from by kernel_rfl) ?_)
  refine wpAny_bind (wpAny_pyIter_list p.isList ?_)
  have I1 : Inv X pins σ H { s with heap := s.heap.push { cls := .type "list_iterator", data := .fields #[.ref l, .int 0 0] } } := I.kept (t' := s.toks) fun b o e => Heap.get?_push_of_some _ e
  obtain ⟨_, od, J⟩ := inst_of I1 ha
  refine wpAny_bind (wpAny_pure ?_)
  simp only [List.forIn_cons, List.forIn_nil]
  refine wpAny_bind (wpAny_bind (wpAny_bind ((show PySem.W.Looks (model X.prog X.w) _ (isInstance (.ref a) (.type "str")) false from J.type.andThen (PySem.W.looks_subIn I1.kIn S.str)).here ?_)))
  simp only [Bool.false_eq_true, if_false]
  refine wpAny_pure (wpAny_bind (wpAny_bind ((show PySem.W.Looks (model X.prog X.w) _ (isInstance (.ref a) (.type "bytes")) false from J.type.andThen (PySem.W.looks_subIn I1.kIn S.byt)).here ?_)))
  simp only [Bool.false_eq_true, if_false]
  refine wpAny_pure (wpAny_bind (wpAny_bind ((show PySem.W.Looks (model X.prog X.w) _ (isInstance (.ref a) (.type "bytearray")) false from J.type.andThen (PySem.W.looks_subIn I1.kIn S.bya)).here ?_)))
  simp only [Bool.false_eq_true, if_false]
  refine wpAny_pure (wpAny_pure ?_)
  refine wpAny_bind (wpAny_newObj_type ?_)
  have sz : (s.heap.push { cls := .type "list_iterator", data := .fields #[.ref l, .int 0 0] }).objs.size = s.heap.objs.size + 1 := size_push' _ _
  have Bi := Beside.of_new I (Nat.le_refl s.heap.objs.size)
  have BS := Beside.of_new I (b := s.heap.objs.size + 1) (Nat.le_succ _)
  have n1 := I.hok.fresh (Nat.le_refl s.heap.objs.size)
  have n2 := I.hok.fresh (Nat.le_succ s.heap.objs.size)
  refine wpAny_pure ⟨plainId_quiet F.plain_sum_loop _, ?_⟩
  rw [show (s.heap.push { cls := .type "list_iterator", data := .fields #[.ref l, .int 0 0] }).objs.size = s.heap.objs.size + 1 from sz]
  refine sum_go (Q := Q) (Iv := Iv) M S.fst (I.ok.hd hc) out G room.in1 rfl bd Bi BS (Nat.ne_of_lt (Nat.lt_succ_self _)) inv step last (fun u s' z => z) xs.length 0 _ H (.ref a) (.ref a) 0 (by omega) (Nat.zero_le _)
    (I1.kept (t' := s.toks) fun b o e => Heap.get?_push_of_some _ e) ⟨_, Heap.get?_push_of_some _ (Heap.get?_push_size _ rfl), rfl, rfl⟩ n1 n2 ?_ iv0 rfl
  show ((s.heap.push { cls := .type "list_iterator", data := .fields #[.ref l, .int 0 0] }).push ({ cls := .type "list", dict := none, data := .seq #[Value.ref a] 0, slots := #[] } : Obj)).get? (s.heap.objs.size + 1) = _
  rw [← sz]
  exact Heap.get?_push_size _ rfl
end

/-! ### t[::-1] of a tuple -/
section
variable {prog : Program} {w : World} {A : Around} {E : Value → Shared → Prop} {s : Shared}
theorem places_rev (n : Nat) : Builtin.Slice.slicePlaces ((n : Int) - 1) (-1) (-1) = n := by
  unfold Builtin.Slice.slicePlaces
  have h1 : ¬ ((-1 : Int) > 0) := by omega
  have h2 : (- -1 : Int) = 1 := by decide
  simp only [h1, if_false, h2, Int.ediv_one]
  split <;> omega
theorem sliceApplied_rev {sl : Addr} {vl vu vs : Value} {n : Nat} {Q : Int × Int × Nat → Shared → Prop} (hs : s.heap.IsSliceOf sl vl vu vs) (pl : IsPart vl none) (pu : IsPart vu none) (ps : IsPart vs (some (-1)))
    (h : Q ((n : Int) - 1, -1, n) s) : wpAny (model prog w) A (Builtin.Slice.sliceApplied (.ref sl) (pure (n : Int))) Q E s := by
  obtain ⟨os, hos, hcs, hds⟩ := id hs
  unfold Builtin.Slice.sliceApplied Builtin.Slice.sliceFields
  refine wpAny_bind (wpAny_bind (wpAny_field hos hds (x := vl) rfl (wpAny_bind (wpAny_field hos hds (x := vu) rfl (wpAny_bind (wpAny_field hos hds (x := vs) rfl (wpAny_pure ?_)))))))
  refine wpAny_bind (HT.slicePart_ ps ?_)
  show wpAny _ _ (if ((-1 : Int) == 0) = true then _ else _) _ _ s
  rw [if_neg (by decide)]
  refine wpAny_bind (HT.slicePart_ pl (wpAny_bind (HT.slicePart_ pu (wpAny_bind (wpAny_pure ?_)))))
  show wpAny _ _ (pure ((n : Int) - 1, (-1 : Int), Builtin.Slice.slicePlaces ((n : Int) - 1) (-1) (-1))) _ _ s
  rw [places_rev]
  exact wpAny_pure h
theorem fm_congr {α β : Type} {f g : α → Option β} : ∀ {l : List α}, (∀ x ∈ l, f x = g x) → l.filterMap f = l.filterMap g
  | [], _ => rfl
  | x :: r, h => by
    rw [List.filterMap_cons, List.filterMap_cons, h x List.mem_cons_self, fm_congr fun y hy => h y (List.mem_cons_of_mem _ hy)]
theorem pick_rev (xs : Array Value) : ((List.range xs.size).filterMap fun (m : Nat) => xs[((xs.size : Int) - 1 + (m : Int) * -1).toNat]?).toArray = xs.toList.reverse.toArray := by
  have e : (List.range xs.size).filterMap (fun (m : Nat) => xs[((xs.size : Int) - 1 + (m : Int) * -1).toNat]?) = ((List.range xs.size).map fun k => xs.size - 1 - k).filterMap (xs[·]?) := by
    rw [List.filterMap_map]
    refine fm_congr ?_
    intro m hm
    have := List.mem_range.mp hm
    show xs[((xs.size : Int) - 1 + (m : Int) * -1).toNat]? = xs[xs.size - 1 - m]?
    congr 1
    omega
  rw [e, PySem.W.krv_range, List.filterMap_reverse, PySem.W.krv_all]
theorem getItem_tuple_rev {t sl : Addr} {items : Array Value} {vl vu vs : Value} {Q : Value → Shared → Prop} (ht : IsTup s.heap t items) (hs : s.heap.IsSliceOf sl vl vu vs) (pl : IsPart vl none) (pu : IsPart vu none) (ps : IsPart vs (some (-1)))
    (h : Q (.ref s.heap.objs.size) { s with heap := s.heap.push { cls := .type "tuple", data := .seq items.toList.reverse.toArray } }) (hsz : items.size ≤ sizeLine) : wpAny (model prog w) A (getItem (.ref t) (.ref sl)) Q E s := by
  have htake : sizeOk (.seq items.toList.reverse.toArray) := by
    show items.toList.reverse.toArray.size ≤ sizeLine
    rw [List.size_toArray, List.length_reverse, Array.length_toList]
    exact hsz
  obtain ⟨os, hos, hcs, hds⟩ := id hs
  have hTs : s.TypeIs (.ref sl) "slice" := ⟨os, hos, hcs⟩
  unfold getItem
  try with_reducible refine wpAny_holding ?_
  first | refine wpAny_bind (wpAny_pure ?_) | skip
  refine wpAny_bind (wpAny_sequenceKey ht.typeIs (by decide) ?_)
  refine wpAny_bind (wpAny_callSpecial?_slot (name := Str.ofString "__getitem__") ht.typeIs PyProof.Rows.slot_tuple_getitem
    (wpAny_call_entry PyProof.Rows.slot_tuple_getitem ht.typeIs entry_tuple_getitem ?_ (args_tuple_getitem _ _)))
  show wpAny _ _ (Builtin.Tuple.tupleItemsOf (.ref t) >>= _) _ _ s
  refine wpAny_bind (tupleItemsOf_ ht ?_)
  refine wpAny_bind (wpAny_typeOf hTs ?_)
  rw [if_pos (by decide)]
  refine wpAny_bind (sliceApplied_rev hs pl pu ps ?_)
  have hno : ¬ ((((items.size : Int) - 1) == 0 && (-1 : Int) == 1 && items.size == items.size) = true) := by
    intro q
    rw [Bool.and_eq_true, Bool.and_eq_true] at q
    exact absurd q.1.2 (by decide)
  show wpAny _ _ (if (((items.size : Int) - 1) == 0 && (-1 : Int) == 1 && items.size == items.size) = true then _ else _) _ _ s
  rw [if_neg hno, pick_rev]
  first
    | exact wpAny_bind (m := Builtin.Tuple.tupleExact _) (wpAny_newObj_type (wpAny_pure ⟨_, rfl, wpAny_pure h⟩) htake)
    | exact wpAny_bind (m := Builtin.Tuple.tupleExact _) (wpAny_newObj_type (wpAny_bind (wpAny_pure (wpAny_pure ⟨_, rfl, wpAny_pure h⟩))) htake)
    | exact wpAny_bind (wpAny_bind (m := Builtin.Tuple.tupleExact _) (wpAny_newObj_type (wpAny_pure (wpAny_pure ⟨_, rfl, wpAny_pure h⟩)) htake))
    | exact wpAny_bind (wpAny_bind (m := Builtin.Tuple.tupleExact _) (wpAny_newObj_type (wpAny_pure ⟨_, rfl, wpAny_pure h⟩) htake))
end
section
variable {X : Cx}
def tRevT (K : PySem.W.Frag) (te : TE) : TE := fun σ H Q => te σ H fun x H1 => ∃ a xs, x = .ref a ∧ SqT K H1 a xs ∧ ∀ p, H1 p = none → Q (.ref p) (upd H1 p (.tup xs.reverse))
theorem pe_revT {e : Expr} {te : TE} {k : Nat} {p1 p2 p3 pos : Pos} (he : PE X e te) : PE X (.Subscript e (.Slice none none (some (.UnaryOp .USub (.Constant (.int 1) k p1) p2)) p3) pos) (tRevT X.K te) := by
  refine ⟨fun pins s σ H Q I h => ?_⟩
  refine Subscript_ (thn (he.run pins s σ H _ I h) fun v s1 ⟨x, H1, I1, r1, q1⟩ => ?_)
  obtain ⟨a, xs, ex, hx, q⟩ := q1
  subst ex
  cases r1
  have hst : PO X (some (.UnaryOp .USub (.Constant (.int 1) k p1) p2)) (tPart (tUn (rU fun i => .int (-i)) (tC (.int 1)))) := po_some (pe_un un_neg pe_int)
  refine wpAny_Slice (thn (po_none.run pins s1 σ H1 (fun o H2 => o = none ∧ H2 = H1) I1 ⟨rfl, rfl⟩) fun vl s2 ⟨l, H2, I2, pl, el, e2⟩ => ?_)
  subst el e2
  refine thn (po_none.run pins s2 σ H2 (fun o H3 => o = none ∧ H3 = H2) I2 ⟨rfl, rfl⟩) fun vu s3 ⟨u, H3, I3, pu, eu, e3⟩ => ?_
  subst eu e3
  refine thn (hst.run pins s3 σ H3 (fun o H4 => o = some (-1) ∧ H4 = H3) I3 ⟨1, rfl, -1, rfl, rfl, rfl⟩) fun vs s4 ⟨o, H4, I4, ps, eo, e4⟩ => ?_
  subst eo e4
  have I5 : Inv X pins σ H4 { s4 with heap := s4.heap.push { cls := .type "slice", data := .fields #[vl, vu, vs] } } := I4.kept (t' := s4.toks) fun b ob q => Heap.get?_push_of_some _ q
  obtain ⟨its, r, ht, hz⟩ := I5.tuple hx
  have hlen := r.length
  show wpAny (model X.prog X.w) X.A (subscriptTail e (.Slice none none (some (.UnaryOp .USub (.Constant (.int 1) k p1) p2)) p3) (.ref a) (.ref s4.heap.objs.size)) (EP X pins σ Q) X.xe { s4 with heap := s4.heap.push { cls := .type "slice", data := .fields #[vl, vu, vs] } }
  refine tail_any (ops := [.ref a, .ref s4.heap.objs.size]) ht.typeIs PyProof.Rows.slot_tuple_getitem.lookup ?_ (by with_unfolding_all rfl)
  refine getItem_tuple_rev ht (Heap.IsSliceOf.new _ vl vu vs) pl pu ps ?_ (by rw [List.size_toArray]; omega)
  refine ⟨.ref _, _, I5.laid (t' := s4.toks) (o := .tup xs.reverse) (fun b ob q => Heap.get?_push_of_some _ q) (Nat.le_refl _) ?_, rfl, q _ (I5.hok.fresh (Nat.le_refl _))⟩
  exact ⟨by rw [List.length_reverse]; exact hz, _, r.reverse, IsTup.new _ _⟩
end

/-- a lot: ascending, from 0 on, below m -/
def lotB : List Int → Int → Int → Bool
  | [], _, _ => true
  | n :: r, b, m => if n ≤ b ∨ n ≥ m then false else lotB r n m

theorem fW_many (m a : Int) (t : Addr) : (fW m a t).lookup ("many" : Str) = some (V.int m) := by rfl

theorem lotB_in : ∀ {ns : List Int} {b m : Int}, lotB ns b m = true → ∀ n ∈ ns, b < n ∧ n < m
  | [], _, _, _, _, h => by cases h
  | x :: r, b, m, e, n, h => by
    by_cases c : x ≤ b ∨ x ≥ m
    · rw [show lotB (x :: r) b m = false from if_pos c] at e
      cases e
    · rw [show lotB (x :: r) b m = lotB r x m from if_neg c] at e
      rcases List.mem_cons.mp h with rfl | h
      · omega
      · have := lotB_in e n h
        omega
/-- the sum of the weights of a lot -/
def wSum (ws ns : List Int) : Int := (ns.map fun n => ws.getD n.toNat 0).sum
def wAt (ws ns : List Int) (i : Nat) : Int := if inV (.int (i : Int)) (ns.map V.int) = true then ws.getD i 0 else 0
theorem ws_at {ws : List Int} {n : Int} (h0 : 0 ≤ n) (h1 : n < ws.length) : atI (ws.map V.int) n = some (.int (ws.getD n.toNat 0)) := by
  obtain ⟨k, rfl⟩ : ∃ k : Nat, n = (k : Int) := ⟨n.toNat, by omega⟩
  have lt : k < ws.length := by omega
  refine atI_nat (int_at ?_)
  rw [Int.toNat_natCast, List.getD_eq_getElem?_getD, List.getElem?_eq_getElem lt]
  rfl
theorem ints_flat (ns : List Int) : (ns.map V.int).all flatV = true := by
  rw [List.all_eq_true]
  intro x hx
  obtain ⟨n, _, rfl⟩ := List.mem_map.mp hx
  rfl

theorem fW_shares (m a : Int) (t : Addr) : (fW m a t).lookup ("shares" : Str) = none := by rfl
theorem fW_away (m a : Int) (t : Addr) : (fW m a t).lookup ("away" : Str) = none := by rfl
theorem inV_int {n : Int} {ns : List Int} : inV (.int n) (ns.map V.int) = true ↔ n ∈ ns := by
  unfold inV
  rw [List.any_eq_true]
  constructor
  · rintro ⟨x, hx, e⟩
    obtain ⟨m, hm, rfl⟩ := List.mem_map.mp hx
    have e : decide (m = n) = true := by
      first | exact e | (simpa [eqV] using e)
    rw [← of_decide_eq_true e]
    exact hm
  · intro h
    refine ⟨.int n, List.mem_map.mpr ⟨n, h, rfl⟩, ?_⟩
    first | exact decide_eq_true rfl | simp [eqV]
/-- the values of f at the things of a lot, the others 0 -/
def hitF (f : Nat → Int) (ns : List Int) (i : Nat) : Int := if inV (.int (i : Int)) (ns.map V.int) = true then f i else 0
theorem lot_sum (f : Nat → Int) : ∀ (k : Nat) (b : Int) (lo : Nat) (ns : List Int) (m : Int), (lo : Int) = b + 1 → m - (lo : Int) = (k : Int) → lotB ns b m = true → ((List.range' lo k).map (hitF f ns)).sum = (ns.map fun n => f n.toNat).sum
  | 0, b, lo, ns, m, hb, hk, h => by
    cases ns with
    | nil => rfl
    | cons n r =>
      have := lotB_in h n List.mem_cons_self
      omega
  | k + 1, b, lo, ns, m, hb, hk, h => by
    rw [List.range'_succ, List.map_cons, List.sum_cons]
    cases ns with
    | nil =>
      rw [show hitF f [] lo = 0 from rfl, lot_sum f k (b + 1) (lo + 1) [] m (by omega) (by omega) rfl]
      rfl
    | cons n r =>
      by_cases c : n = (lo : Int)
      · have hn := lotB_in h n List.mem_cons_self
        have hr : lotB r n m = true := by
          have e : lotB (n :: r) b m = lotB r n m := if_neg (by omega)
          rw [← e]
          exact h
        have ih := lot_sum f k n (lo + 1) r m (by omega) (by omega) hr
        have same : (List.range' (lo + 1) k).map (hitF f (n :: r)) = (List.range' (lo + 1) k).map (hitF f r) := by
          apply List.map_congr_left
          intro i hi
          have hi := (List.mem_range'_1.mp hi).1
          unfold hitF
          have e : inV (.int (i : Int)) ((n :: r).map V.int) = inV (.int (i : Int)) (r.map V.int) := by
            rw [Bool.eq_iff_iff, inV_int, inV_int, List.mem_cons]
            constructor
            · rintro (z | z)
              · omega
              · exact z
            · exact .inr
          rw [e]
        rw [same, ih, List.map_cons, List.sum_cons]
        congr 1
        unfold hitF
        rw [if_pos (inV_int.mpr (by rw [c]; exact List.mem_cons_self)), c, Int.toNat_natCast]
      · have hn := lotB_in h n List.mem_cons_self
        have hr : lotB (n :: r) (b + 1) m = true := by
          have e : lotB (n :: r) b m = lotB r n m := if_neg (by omega)
          rw [e] at h
          exact (if_neg (by omega)).trans h
        rw [lot_sum f k (b + 1) (lo + 1) (n :: r) m (by omega) (by omega) hr]
        have z : hitF f (n :: r) lo = 0 := by
          unfold hitF
          refine if_neg fun y => ?_
          have y := inV_int.mp y
          have := lotB_in hr _ y
          omega
        rw [z, Int.zero_add]
theorem wAt_sum {ws ns : List Int} (h : lotB ns (-1) ws.length = true) : ((List.range ws.length).map (wAt ws ns)).sum = wSum ws ns := by
  rw [List.range_eq_range']
  exact lot_sum (fun i => ws.getD i 0) ws.length (-1) 0 ns ws.length rfl (by omega) h
theorem getD_nn {ws : List Int} (h : ∀ w ∈ ws, 1 ≤ w) (i : Nat) : 0 ≤ ws.getD i 0 := by
  rw [List.getD_eq_getElem?_getD]
  cases e : ws[i]? with
  | none => exact Int.le_refl 0
  | some w =>
    have := h w (List.mem_of_getElem? e)
    show 0 ≤ w
    omega
theorem wAt_nn {ws ns : List Int} (h : ∀ w ∈ ws, 1 ≤ w) (i : Nat) : 0 ≤ wAt ws ns i := by
  unfold wAt
  split
  · exact getD_nn h i
  · exact Int.le_refl 0
theorem sum_nn : ∀ {l : List Int}, (∀ x ∈ l, 0 ≤ x) → 0 ≤ l.sum
  | [], _ => Int.le_refl 0
  | x :: r, h => by
    rw [List.sum_cons]
    have := h x List.mem_cons_self
    have := sum_nn fun y hy => h y (List.mem_cons_of_mem _ hy)
    omega
theorem take_le {l : List Int} (h : ∀ x ∈ l, 0 ≤ x) (i : Nat) : 0 ≤ (l.take i).sum ∧ (l.take i).sum ≤ l.sum := by
  have a := sum_nn fun x hx => h x (List.mem_of_mem_take (i := i) hx)
  have b := sum_nn fun x hx => h x (List.mem_of_mem_drop (i := i) hx)
  have e : (l.take i).sum + (l.drop i).sum = l.sum := by
    rw [← List.sum_append, List.take_append_drop]
  omega
theorem mem_le {l : List Int} (h : ∀ x ∈ l, 0 ≤ x) : ∀ x ∈ l, x ≤ l.sum := by
  induction l with
  | nil =>
    intro x hx
    cases hx
  | cons y r ih =>
    intro x hx
    have hr : ∀ z ∈ r, 0 ≤ z := fun z hz => h z (List.mem_cons_of_mem _ hz)
    have := sum_nn hr
    have := h y List.mem_cons_self
    rw [List.sum_cons]
    rcases List.mem_cons.mp hx with rfl | hx
    · omega
    · have := ih hr x hx
      omega

theorem kL : kitB "list" "list" = some true := by decide +kernel
theorem lotB_mono : ∀ {ns : List Int} {b m m' : Int}, lotB ns b m = true → m ≤ m' → lotB ns b m' = true
  | [], _, _, _, _, _ => rfl
  | n :: r, b, m, m', h, le => by
    have hn := lotB_in h n List.mem_cons_self
    have e : lotB (n :: r) b m = lotB r n m := if_neg (by omega)
    rw [e] at h
    exact (if_neg (by omega)).trans (lotB_mono h le)
theorem lotB_snoc : ∀ {ns : List Int} {b m : Int}, lotB ns b m = true → b < m → lotB (ns ++ [m]) b (m + 1) = true
  | [], b, m, _, lt => (if_neg (by omega) : lotB [m] b (m + 1) = lotB [] m (m + 1)).trans rfl
  | n :: r, b, m, h, lt => by
    have hn := lotB_in h n List.mem_cons_self
    have e : lotB (n :: r) b m = lotB r n m := if_neg (by omega)
    rw [e] at h
    exact (if_neg (by omega)).trans (lotB_snoc h hn.2)
theorem lotB_pw : ∀ {ns : List Int} {b m : Int}, lotB ns b m = true → ns.Pairwise (· < ·)
  | [], _, _, _ => .nil
  | n :: r, b, m, h => by
    have hn := lotB_in h n List.mem_cons_self
    have e : lotB (n :: r) b m = lotB r n m := if_neg (by omega)
    rw [e] at h
    exact .cons (fun x hx => (lotB_in h x hx).1) (lotB_pw h)
theorem lotB_no {ns : List Int} {b m : Int} (h : lotB ns b m = true → False) : lotB ns b m = false := by
  cases e : lotB ns b m with
  | true => exact (h e).elim
  | false => rfl
theorem wSum_snoc (ws ns : List Int) {i : Nat} {n : Int} (h : ns[i]? = some n) : wSum ws (ns.take (i + 1)) = wSum ws (ns.take i) + ws.getD n.toNat 0 := by
  unfold wSum
  rw [List.take_add_one, h, List.map_append, List.sum_append]
  simp

/-- what of a rule by weights stands in the heap -/
def WAt (C : Addr) (H : Hp) (p dx t : Addr) (ws : List Int) (b : Int) : Prop := H p = some (.ins C dx (fW ws.length b t)) ∧ H t = some (.tup (ws.map V.int))
theorem WAt.same {C : Addr} {H H' : Hp} {p dx t : Addr} {ws : List Int} {b : Int} (s : Same H H') (h : WAt C H p dx t ws b) : WAt C H' p dx t ws b := ⟨s _ _ h.1, s _ _ h.2⟩
/-- a due pair of thing j: its weight over the total, or 0 over 1 -/
def DueAt (H : Hp) (ws ns : List Int) (d : Int) (j : Nat) (t : Addr) : Prop := ∃ n e : Int, H t = some (.tup [.int n, .int e]) ∧ ((n = wAt ws ns j ∧ e = d) ∨ (wAt ws ns j = 0 ∧ n = 0 ∧ e = 1))
theorem DueAt.same {H H' : Hp} {ws ns : List Int} {d : Int} {j : Nat} {t : Addr} (s : Same H H') (h : DueAt H ws ns d j t) : DueAt H' ws ns d j t := by
  obtain ⟨n, e, h, k⟩ := h
  exact ⟨n, e, s _ _ h, k⟩
theorem wSum_nn {ws ns : List Int} (hw : ∀ w ∈ ws, 1 ≤ w) (ok : lotB ns (-1) ws.length = true) : 0 ≤ wSum ws ns ∧ ∀ j, j < ws.length → 0 ≤ wAt ws ns j ∧ wAt ws ns j ≤ wSum ws ns := by
  have nn : ∀ x ∈ (List.range ws.length).map (wAt ws ns), 0 ≤ x := fun x hx => by
    obtain ⟨i, _, rfl⟩ := List.mem_map.mp hx
    exact wAt_nn hw i
  have es := wAt_sum ok
  refine ⟨es ▸ sum_nn nn, fun j hj => ⟨wAt_nn hw j, es ▸ mem_le nn _ (List.mem_map.mpr ⟨j, List.mem_range.mpr hj, rfl⟩)⟩⟩
def lotOf (b : Int) : Nat → List Int
  | 0 => []
  | m + 1 => lotOf b m ++ (if b / 2 ^ m % 2 = 1 then [(m : Int)] else [])
def powSum (l : List Int) : Int := (l.map fun t => 1 * (2 : Int) ^ t.toNat).sum
theorem powSum_append (a b : List Int) : powSum (a ++ b) = powSum a + powSum b := by
  unfold powSum
  rw [List.map_append, List.sum_append]
theorem two_pos (m : Nat) : (0 : Int) < 2 ^ m := Int.pow_pos (by decide)
theorem half (b : Int) (m : Nat) : b / 2 ^ m / 2 = b / 2 ^ (m + 1) := by
  rw [Int.ediv_ediv_of_nonneg (Int.le_of_lt (two_pos m)), ← Int.pow_succ]
theorem powSum_lotOf (b : Int) : ∀ m : Nat, powSum (lotOf b m) = b % 2 ^ m
  | 0 => by
    show (0 : Int) = b % 1
    omega
  | m + 1 => by
    show powSum (lotOf b m ++ _) = _
    rw [powSum_append, powSum_lotOf b m]
    have e1 : (2 : Int) ^ (m + 1) = 2 ^ m * 2 := Int.pow_succ ..
    have e2 := Int.mul_ediv_add_emod b (2 ^ m)
    have e3 := Int.mul_ediv_add_emod b (2 ^ (m + 1))
    have e4 : b / 2 ^ (m + 1) = b / 2 ^ m / 2 := (half b m).symm
    have e5 := Int.emod_add_mul_ediv (b / 2 ^ m) 2
    have e6 : b % 2 ^ (m + 1) = b % 2 ^ m + 2 ^ m * (b / 2 ^ m % 2) := by
      have h1 : 2 ^ m * (b / 2 ^ m % 2 + 2 * (b / 2 ^ m / 2)) = 2 ^ m * (b / 2 ^ m) := by rw [e5]
      rw [Int.mul_add, ← Int.mul_assoc, ← e1, ← e4] at h1
      omega
    rw [e6]
    have h2 := Int.emod_two_eq (b / 2 ^ m)
    rcases h2 with h2 | h2
    · rw [h2, if_neg (by decide)]
      show _ + (0 : Int) = _
      omega
    · rw [h2, if_pos rfl]
      show _ + ((1 : Int) * 2 ^ ((m : Int)).toNat + 0) = _
      rw [Int.toNat_natCast]
      omega
theorem bit_mod (b : Int) {i m : Nat} (h : i < m) : (b % 2 ^ m) / 2 ^ i % 2 = b / 2 ^ i % 2 := by
  have e2 := Int.mul_ediv_add_emod b (2 ^ m)
  have e3 : (2 : Int) ^ m = 2 ^ i * (2 * 2 ^ (m - i - 1)) := by
    rw [← Int.mul_assoc, ← Int.pow_succ, ← Int.pow_add]
    congr 1
    omega
  have e4 : b = b % 2 ^ m + 2 ^ i * (2 * (2 ^ (m - i - 1) * (b / 2 ^ m))) := by
    have e5 : 2 ^ i * (2 * (2 ^ (m - i - 1) * (b / 2 ^ m))) = 2 ^ m * (b / 2 ^ m) := by
      generalize b / 2 ^ m = q
      rw [e3]
      simp only [Int.mul_assoc]
    omega
  conv => rhs; rw [e4]
  rw [Int.add_mul_ediv_left _ _ (Int.ne_of_gt (two_pos i)), Int.add_mul_emod_self_left]
theorem lotOf_mod (b : Int) {m : Nat} : ∀ {k : Nat}, k ≤ m → lotOf (b % 2 ^ m) k = lotOf b k
  | 0, _ => rfl
  | k + 1, h => by
    show lotOf (b % 2 ^ m) k ++ _ = lotOf b k ++ _
    rw [lotOf_mod b (Nat.le_of_succ_le h), bit_mod b h]
theorem lotOf_more (b : Int) (m : Nat) : lotOf (b % 2 ^ m) (m + 1) = lotOf b m := by
  show lotOf (b % 2 ^ m) m ++ _ = lotOf b m
  rw [lotOf_mod b (Nat.le_refl m), Int.ediv_eq_zero_of_lt (Int.emod_nonneg _ (Int.ne_of_gt (two_pos m))) (Int.emod_lt_of_pos _ (two_pos m)), if_neg (by decide), List.append_nil]
theorem lotOf_len (b : Int) : ∀ m : Nat, (lotOf b m).length ≤ m
  | 0 => Nat.le_refl 0
  | m + 1 => by
    show (lotOf b m ++ _).length ≤ _
    have h := lotOf_len b m
    rw [List.length_append]
    split <;> simp <;> omega
theorem lotOf_mem (b : Int) : ∀ {m : Nat} {t : Int}, t ∈ lotOf b m → 0 ≤ t ∧ t < m
  | 0, _, h => by cases h
  | m + 1, t, h => by
    rcases List.mem_append.mp h with h | h
    · have := lotOf_mem b h
      omega
    · split at h
      · have := List.mem_singleton.mp h
        omega
      · cases h
theorem lotOf_asc (b : Int) : ∀ m : Nat, (lotOf b m).Pairwise (· < ·)
  | 0 => List.Pairwise.nil
  | m + 1 => by
    refine List.pairwise_append.mpr ⟨lotOf_asc b m, ?_, fun x hx y hy => ?_⟩
    · split
      · exact List.pairwise_singleton ..
      · exact List.Pairwise.nil
    · split at hy
      · have := List.mem_singleton.mp hy
        have := lotOf_mem b hx
        omega
      · cases hy
theorem bit_one (x : Int) : Builtin.bitAnd x 1 = x % 2 := by
  have h := PySem.W.kbt_mask x 1
  exact h

/-! ### super().m(e, ..) in a method's own block, anywhere: statements that know the code they stand in -/
structure PEA (X : Cx) (c : Code) (e : Expr) (t : TE) : Prop where
  run : ∀ (pins : List (Addr × Obj)) (s : Shared) (σ : L2.St) (H : Hp) (Q : VK), Inv X pins σ H s → t σ H Q → PySem.wpAt (model X.prog X.w) X.A c (eval e X.env) (EP X pins σ Q) X.xe s
structure PSA (X : Cx) (c : Code) (st : Stmt) (t : TS) : Prop where
  run : ∀ (pins : List (Addr × Obj)) (s : Shared) (σ : L2.St) (H : Hp) (D : Ends), Inv X pins σ H s → t D σ H → PySem.wpAt (model X.prog X.w) X.A c (exec st X.env) (SP X pins D) X.xe s
structure PSAs (X : Cx) (c : Code) (st : List Stmt) (t : TS) : Prop where
  run : ∀ (pins : List (Addr × Obj)) (s : Shared) (σ : L2.St) (H : Hp) (D : Ends), Inv X pins σ H s → t D σ H → PySem.wpAt (model X.prog X.w) X.A c (execs st X.env) (SP X pins D) X.xe s
section
variable {X : Cx} {c : Code} {e b : Expr} {rest' : List Expr} {st : Stmt} {rest : List Stmt} {t u : TS} {te tb : TE} {pos : Pos}
theorem pea_pe (h : PE X e te) : PEA X c e te := ⟨fun pins s σ H Q I q => PySem.wpAt_of_wpAny (h.run pins s σ H Q I q)⟩
theorem psa_ps (h : PS X st t) : PSA X c st t := ⟨fun pins s σ H D I q => PySem.wpAt_of_wpAny (h.run pins s σ H D I q)⟩
theorem psas_pss (h : PSs X rest t) : PSAs X c rest t := ⟨fun pins s σ H D I q => PySem.wpAt_of_wpAny (h.run pins s σ H D I q)⟩
theorem psas_cons (h1 : PSA X c st t) (h2 : PSAs X c rest u) : PSAs X c (st :: rest) (tSeq t u) := by
  refine ⟨fun pins s σ H D I h => ?_⟩
  refine ks_wpAt_execs_cons (ks_wpAt_mono (h1.run pins s σ H { D with nx := u D } I h) (fun f s1 q => ?_) fun _ _ x => x)
  cases f with
  | next =>
    obtain ⟨σ', H', I', q⟩ := q
    exact h2.run pins s1 σ' H' D I' q
  | ret v => exact q
  | brk => exact q
  | cont => exact q
theorem psas_one (h : PSA X c st t) : PSAs X c [st] t := by
  refine ⟨fun pins s σ H D I q => ?_⟩
  refine ks_wpAt_execs_cons (ks_wpAt_mono (h.run pins s σ H D I q) (fun f s1 q => ?_) fun _ _ x => x)
  cases f with
  | next => exact PySem.wpAt_of_wpAny (wpAny_execs_nil q)
  | ret v => exact q
  | brk => exact q
  | cont => exact q
theorem psa_expr (he : PEA X c e te) (hi : interactive X.env = false := by rfl) (hs : swapsWith e none pos.line X.env = pure false := by rfl) : PSA X c (.Expr e pos) (tDrop te) := by
  refine ⟨fun pins s σ H D I h => ?_⟩
  exact ks_wpAt_Expr_any (ks_wpAt_mono (he.run pins s σ H _ I h) (fun v s1 ⟨x, H1, I1, r1, q1⟩ => ⟨σ, H1, I1, q1⟩) fun _ _ x => x) hi hs
theorem psa_ret (he : PEA X c e te) : PSA X c (.Return (some e) pos) (tRet te) := by
  refine ⟨fun pins s σ H D I h => ?_⟩
  exact ks_wpAt_Return_some (ks_wpAt_mono (he.run pins s σ H _ I h) (fun v s1 ⟨x, H1, I1, r1, q1⟩ => ⟨x, σ, H1, I1, r1, q1⟩) fun _ _ x => x)
theorem psa_set {i : Nat} {x : Str} {pos' : Pos} (hN : X.N.Nodup) (hi : X.N[i]? = some x) (hx : Loc X.env.scope x) (he : PEA X c e te) (hs : swapsWith e (some (.Name x pos')) pos.line X.env = pure false := by rfl) (hf : X.fn x = true ∨ X.env.scope.names.lookup x = some .local := by first | exact .inl rfl | exact .inr rfl | assumption) :
    PSA X c (.Assign [.Name x pos'] e pos) (tAsg te (gName i)) := by
  refine ⟨fun pins s σ H D I h => ?_⟩
  refine ks_wpAt_Assign_Name (ks_wpAt_mono (he.run pins s σ H _ I h) (fun v s1 ⟨y, H1, I1, r1, q1⟩ => ?_) fun _ _ x => x) hs
  exact store_ok I1 hN hi hx r1 (fun s2 I2 => ⟨_, H1, I2, q1⟩) hf
/-- super().m(..) and more -/
theorem pea_and (ha : PEA X c e te) (hb : PE X (.BoolOp .And (b :: rest') pos) tb) : PEA X c (.BoolOp .And (e :: b :: rest') pos) (tAndV te tb) := by
  refine ⟨fun pins s σ H Q I h => ?_⟩
  show PySem.wpAt _ X.A c (do
    let v ← eval e X.env
    standAt pos
    let d ← holding [v] (truthy v)
    match BoolOp.And, d with
    | .And, false | .Or, true => pure v
    | _, _ => boolOp pos .And (eval b X.env :: evalEach rest' X.env)) _ _ s
  refine PySem.wpAt_bind (ks_wpAt_mono (ha.run pins s σ H _ I h) (fun v s1 ⟨x, H1, I1, r1, q1⟩ => ?_) fun _ _ x => x)
  obtain ⟨d, rfl, q1⟩ := q1
  cases r1
  refine PySem.wpAt_of_wpAny (wpAny_bind (wpAny_standAt (wpAny_bind (wpAny_holding (wpAny_truthy_bool ?_)))))
  cases d with
  | true => exact hb.run pins s1 σ H1 Q I1 q1
  | false => exact wpAny_pure ⟨.bl false, H1, I1, rfl, q1⟩
end
/-- what the top has written of a class D above which super() looks, for an instance of the class C: the function g at the name m -/
structure SupM (K : PySem.W.Frag) (mg : Str → Option Value) (C D cc cda g : Addr) (m file : Str) : Prop where
  isD : ∃ cd, PySem.W.clsIn K D = some cd
  sub : PySem.W.mroIn K C (.ref D) = some true
  cell : ∃ cl cld csl, K.lookup cc = some ⟨cl, cld, .cell (some (.ref D)), csl⟩
  code : ∃ ccl cdd vs ccs tf, K.lookup cda = some ⟨ccl, cdd, .fields vs, ccs⟩ ∧ vs[2]? = some (.str file tf)
  sup : PySem.W.ks_superIn K C D m = some (some (.ref g))
  tg : PySem.W.typeIn K (.ref g) = some (.type "function")
  fg : PySem.W.fnIn K g = true
  opq : PySem.W.nsIn K cStatics "thirdparty.any" = some none
  nosup : mg "super" = none
def tSuper (C : Addr) (si : Sp) (Ei : XK) (ta : TA) : TE := fun σ H Q => ∃ (a dx : Addr) (fs : List (Str × V)), σ[0]? = some (some (.ref a)) ∧ H a = some (.ins C dx fs) ∧ ta σ H fun ws H1 => si (.ref a :: ws) H1 Q Ei
theorem pea_super {CX : CXT} {X : Cx} {body : List Stmt} {f g cc cda C D : Addr} {fd0 gd : FuncData} {oc : Value} {od : Option Addr} {osl : Array (Option Value)} {qs : List Str} {si : Sp} {Ei : XK} {e : Expr} {es : List Expr} {m file : Str} {p0 p1 p2 p3 : Pos} {ar : Arg} {pl : Sem Bool} {ta : TA} {j : Nat}
    (lk : X.K.lookup f = some ⟨oc, od, .func fd0, osl⟩) (SC : SupM X.K X.mg C D cc cda g m file) (hfile : ((X.prog.main.file : Str) == file) = true) (htop : (X.prog.main.scope.names.lookup ("super" : Str)).isSome = false) (hpar : (fd0.params.posonlyargs ++ fd0.params.args).head? = some ar) (hN : X.N[0]? = some ar.arg)
    (hkind : X.env.scope.kind = .function) (hka : X.env.scope.names.lookup ar.arg = some .local) (hks : X.env.scope.names.lookup ("super" : Str) = some .globalImplicit) (hkc : X.env.scope.names.lookup ("__class__" : Str) = some .free) (hfu : X.env.func = some f) (hco : X.env.code = .ref cda) (hcl : X.env.cells.lookup ("__class__" : Str) = some cc) (hgl : X.env.globals = mainGlobals) (hbn : X.env.builtins = builtinsNs)
    (G : FnOk X.prog X.w X.K X.mg X.base CX j g gd qs si) (bd : Binds X.K gd qs []) (hr : Room j X.A) (hpass : Passes CX X Ei) (hpa : PA X (e :: es) ta) (hm : (m == ("__class__" : Str)) = false)
    (hev : eval (.Call (.Attribute (.Call (.Name "super" p0) [] [] p1) m p2) (e :: es) [] p3) X.env = (do
      let ov ← attributeBase (.Call (.Name "super" p0) [] [] p1) m X.env (eval (.Call (.Name "super" p0) [] [] p1) X.env)
      standAt p2.atName
      let (f', first) ← holding [ov] (getMethod ov m pl)
      callWith p3 f' first (backTo p3 (starEach (e :: es) X.env)) []))
    (hst : starEach (e :: es) X.env = (false, eval e X.env) :: starEach es X.env) (hpl : (backTo p3 (starEach es X.env)).any (·.1) = false) :
    PEA X (.func body X.env) (.Call (.Attribute (.Call (.Name "super" p0) [] [] p1) m p2) (e :: es) [] p3) (tSuper C si Ei ta) := by
  refine ⟨fun pins s σ H Q I h => ?_⟩
  obtain ⟨a, dx, fs, h0, ha, hq⟩ := h
  obtain ⟨cl, cld, csl, hcell⟩ := SC.cell
  obtain ⟨ccl, cdd, fv, ccs, tf, hcode, hfv⟩ := SC.code
  obtain ⟨cdD, hD⟩ := SC.isD
  refine ks_wpAt_MethodCall (pl := pl) ?_ hev
  have KI := I.kIn
  refine ks_wpAt_super_base hks hkc hm hfu (KI _ _ lk) rfl hpar hco (KI _ _ hcode) rfl hfv hfile htop ?_
  obtain ⟨mb, hb1, hb2⟩ := I.mod.blt
  refine PySem.W.ks_loadName_global hkind hks (Calls.loadGlobal_builtin (env := X.env) (mg := X.mg) (by rw [hgl]; exact I.mod.glob.keeps I.bk) SC.nosup (by rw [hbn]; exact hb1.keeps I.bk) ((hb2 "super" (by decide)).trans (by rfl)) ⟨rfl, ?_⟩)
  refine wpAny_loadName_free hkind hkc hcl ⟨_, KI _ _ hcell, rfl⟩ ?_
  obtain ⟨mm, hn, hl'⟩ := I.loc
  obtain ⟨u, ru, lku⟩ := hl' 0 ar.arg (.ref a) hN h0 (.inl hka)
  cases (show u = Value.ref a from ru)
  have hmu : mm ar.arg = some (.ref a) := by
    rcases lku with ⟨_, z⟩ | ⟨z, _⟩
    · exact z
    · have hk' : X.env.scope.names.lookup ar.arg = some .cell ∨ X.env.scope.names.lookup ar.arg = some .free := z
      rw [hka] at hk'
      rcases hk' with z | z <;> cases z
  refine wpAny_loadName_local hkind hka hn hmu ?_
  obtain ⟨oD, hD1, hD2⟩ : ∃ oD, s.heap.get? D = some oD ∧ oD.data = .cls cdD := by
    unfold PySem.W.clsIn at hD
    split at hD
    · rename_i c d cd' sl ho
      cases hD
      exact ⟨_, KI _ _ ho, rfl⟩
    · cases hD
  obtain ⟨hh, gg, dd, tt, oo⟩ := s
  refine ks_wpAny_isType_cls hD1 hD2 (And.intro rfl ?_)
  obtain ⟨hoa, oda, J⟩ := inst_of' I ha
  refine ks_wpAny_call_super hD1 hD2 J.at_ J.cls (fun c z => ?_) (PySem.W.looks_mroIn KI SC.sub) (fun h2 e2 k2 => ?_)
  · have := J.no
    unfold PySem.W.notCls at this
    rw [z] at this
    exact Bool.noConfusion this
  have I2 := I.kept (h' := h2) (t' := tt) k2
  have K2 := I2.kIn
  obtain ⟨hoa2, oda2, J2⟩ := inst_of' I2 ha
  have sup := SC.sup
  unfold PySem.W.ks_superIn at sup
  cases hc : PySem.W.clsIn X.K C with
  | none => rw [hc] at sup; cases sup
  | some cdC =>
  rw [hc] at sup
  obtain ⟨og, hog, hogc⟩ : ∃ og, h2.get? g = some og ∧ og.cls = .type "function" := by
    have ht' : (X.K.lookup g).map (·.cls) = some (.type "function") := SC.tg
    cases z : X.K.lookup g with
    | none =>
      rw [z] at ht'
      cases ht'
    | some og =>
      rw [z] at ht'
      exact ⟨og, K2 _ _ z, Option.some.inj ht'⟩
  refine ks_wpAny_getMethod_super e2 (PySem.W.looks_opaque K2 SC.opq) (l₀ := cdC.mro) (fun A Q E s k q => wpAny_bind ((PySem.W.looks_clsIn K2 hc) A _ E s k (wpAny_pure q))) rfl K2 sup hog hogc (PySem.W.ks_ne K2 J2 hc) hm ?_
  have I3 : Inv X ((h2.objs.size, PySem.W.methodObj (.ref g) (.ref a)) :: pins) σ H ⟨h2.push (PySem.W.methodObj (.ref g) (.ref a)), gg, dd, tt + 1, oo⟩ :=
    pin_new (s := ⟨h2, gg, dd, tt, oo⟩) I2 (fun _ _ z => Heap.get?_push_of_some _ z) (Nat.le_refl _) (Heap.get?_push_size h2 rfl) (fun v z => nomatch z)
  have hbq : X.base.get? h2.objs.size = none := base_none I2 (Nat.le_refl _)
  have hL : h2.objs.size ≠ X.env.locals := (I3.pin (h2.objs.size, PySem.W.methodObj (.ref g) (.ref a)) (List.mem_append_right _ List.mem_cons_self)).2.2.1
  refine PySem.W.callWith_M (K := X.K) (h₀ := X.base) (first := []) I.mod.kin (news_at hL hbq (pin_at I3)) List.mem_cons_self SC.fg ?_ hst hpl
  refine wpAny_mono (hpa.run p3 _ _ _ H _ I3 hq) (fun ws s4 h4 => ?_) fun _ _ z => z
  obtain ⟨vs4, H4, I4, r4, q4⟩ := h4
  refine ⟨⟨pin_at I4, I4.kIn⟩, ?_⟩
  have lenq : (Value.ref a :: ws).length = qs.length := by
    have z := G.len _ _ _ _ q4
    rw [← z, List.length_cons, List.length_cons, r4.length]
  have bound := bd s4 (Value.ref a :: ws) I4.kIn (by rw [List.append_nil]; exact lenq)
  rw [List.append_nil] at bound
  refine wpAny_mono (Q := fun u s' => EP X ((h2.objs.size, PySem.W.methodObj (.ref g) (.ref a)) :: pins) σ Q u s')
    (wpAny_call (PySem.W.method_call (pin_at I4) (codeAny_mono (G.run _ _ s4 H4 ⟨Value.ref a :: ws, []⟩ (Value.ref a :: ws) (.ref a :: vs4) _ Ei hr I4.env0 bound (.cons rfl r4) q4) fun rr s' back => ?_))) (fun u s5 h5 => unpinE h5) fun _ _ z => z
  cases rr with
  | error er => exact hpass _ _ _ _ er s' I4 back
  | ok fl =>
    cases fl with
    | ret u => exact I4.after back
    | next => exact back.elim
    | brk => exact back.elim
    | cont => exact back.elim
/-- a method whose block says super() somewhere -/
theorem fn_at {CX : CXT} {P : Program} {w : World} {K : PySem.W.Frag} {mg : Str → Option Value} {base : Heap} {k : Nat} {f cc cda : Addr} {name qual : Str} {params : Arguments} {scope : Scope} {dV kV doc pm ct oc : Value} {an od : Option Addr}
    {osl : Array (Option Value)} {N ps : List Str} {sp : Sp} {body : List Stmt} {D : Addr} (lk : K.lookup f = some ⟨oc, od, .func (PySem.W.ksFn name qual params body scope dV kV doc pm an (.ref cda) ct cc), osl⟩) (hcd : PySem.W.codeIn K (.ref cda) qual = true) (S : NScope N ps ["__class__"] scope)
    (cell : ∃ cl cld csl, K.lookup cc = some ⟨cl, cld, .cell (some (.ref D)), csl⟩) (len : ∀ vs H Q E, sp vs H Q E → vs.length = ps.length)
    (hbody : ∀ (A : Around) (outer : List Env) (s : Shared) (H : Hp) (vs : List V) (Q : VK) (E : XK), Room k (A.deeper (PySem.W.ksEnv qual scope s.heap.objs.size f (.ref cda) cc)) → sp vs H Q E →
      ∃ t, PSAs (ncx CX P w K mg base N ⟨name, qual, params, body, scope, [("__class__", cc)], cda⟩ f A outer s H E) (.func body (PySem.W.ksEnv qual scope s.heap.objs.size f (.ref cda) cc)) body t ∧ t { nx := fun _ H' => Q .non H', rt := Q } (startF N vs [none]) H) :
    FnOk P w K mg base CX (k + 1) f (PySem.W.ksFn name qual params body scope dV kV doc pm an (.ref cda) ct cc) ps sp := by
  refine ⟨len, fun A outer s H args us vs Q E hr e0 hb r asked => ?_⟩
  have hl := len _ _ _ _ asked
  have kb : ∀ b o, base.get? b = some o → s.heap.get? b = some o := fun b o z => (e0.bs b o z).1
  have KX : K.In s.heap := e0.mod.kin.keeps kb
  have lim : s.heap.NoLimit := e0.mod.nolimit.keeps kb
  obtain ⟨cl, cld, csl, hcell⟩ := cell
  have C0 : CellsAt [("__class__", cc)] ["__class__"] [none] s.heap H := by
    refine ⟨rfl, fun y c z => ?_, fun y z c h1 h2 => ?_, fun i y z => ?_⟩
    · have hc : c = cc := by
        simp only [List.lookup] at z
        split at z
        · exact (Option.some.inj z).symm
        · cases z
      subst hc
      exact ⟨(e0.bs _ _ (e0.mod.kin _ _ hcell)).2, _, _, KX _ _ hcell, rfl⟩
    · have one : ∀ {t : Str}, [(("__class__" : Str), cc)].lookup t = some c → t = "__class__" := fun {t} h => by
        simp only [List.lookup] at h
        split at h
        · exact beq_iff_eq.mp (by assumption)
        · cases h
      rw [one h1, one h2]
    · have hy : y = "__class__" := by
        cases i with
        | zero => simpa using z.symm
        | succ n => simp at z
      subst hy
      exact ⟨cc, rfl, fun v h => by cases i <;> simp at h⟩
  refine ks_codeAny_call_defAt (fd := PySem.W.ksFn name qual params body scope dV kV doc pm an (.ref cda) ct cc) (body := body) (binds := ps.zip us) hr.depth (KX _ _ lk) rfl lim (PySem.W.codeRec_of KX hcd) rfl hb S.nocell (fun ⟨n, _⟩ hy => S.par n (List.of_mem_zip hy).1) (fun h₁ hns kp => ?_) S.co S.gen S.kind
  obtain ⟨t, hps, hq⟩ := hbody A outer s H vs Q E (hr.deeper _) asked
  have I : Inv (ncx CX P w K mg base N ⟨name, qual, params, body, scope, [("__class__", cc)], cda⟩ f A outer s H E) [] (startF N vs [none]) H { s with heap := h₁, toks := s.toks + (ps.zip us).length } := inv_startN (F := ⟨name, qual, params, body, scope, [("__class__", cc)], cda⟩) S hr.hd e0 hl r C0 hns kp
  refine ks_wpAt_mono (hps.run [] _ _ H _ I hq) (fun fl s' hs => ?_) fun er s' hs => hs
  have last : ∀ {τ : L2.St} {G' : Hp} {x : V} {y : Value}, Inv (ncx CX P w K mg base N ⟨name, qual, params, body, scope, [("__class__", cc)], cda⟩ f A outer s H E) [] τ G' s' → L2.RelV x y → Q x G' → CE outer P w H s Q y s' :=
    fun {_ G' x _} Z rel z => ⟨x, G', Z.os, Z.bare, Z.base, Z.hok, rel, z⟩
  cases fl with
  | next =>
    obtain ⟨_, _, Z, z⟩ := hs
    exact last (x := V.non) (y := Value.none) Z rfl z
  | ret y =>
    obtain ⟨_, _, _, Z, rel, z⟩ := hs
    exact last Z rel z
  | brk => exact hs.elim fun _ ⟨_, _, z⟩ => z.elim
  | cont => exact hs.elim fun _ ⟨_, _, z⟩ => z.elim
/-- tuple(x) within a comprehension: its reading without the context -/
def rTupOf (K : PySem.W.Frag) : List V → Hp → VK → Prop := fun xs H Q => ∃ p ys, xs = [V.ref p] ∧ ((SqL K H p ys ∧ ∀ l, H l = none → Q (.ref l) (upd H l (.tup ys))) ∨ (SqT K H p ys ∧ Q (.ref p) H))

/-! ### first, *rest = a list -/
section
open PySem PySem.Spec PySem.W PySem.Calls PyProof.Rows
variable {prog : Program} {w : World} {A : Around} {E : Value → Shared → Prop} {s : Shared}
theorem star_items {l : Addr} {items : Array Value} {y : Value} {ys : List Value} {Q : List Value → Shared → Prop} (hl : s.heap.IsList l items) (hh : A.handled = none) (e : items.toList = y :: ys) (hz : ys.length ≤ 1000)
    (h : ∀ (h' : Heap) (tk : Nat), (∀ b o, s.heap.get? b = some o → h'.get? b = some o) → Q [y, .ref h'.objs.size] { s with heap := h'.push { cls := .type "list", data := .seq ys.toArray }, toks := tk }) : wpAny (model prog w) A (unpackItems (.ref l) 2 (some 1)) Q E s := by
  have sz : items.size = ys.length + 1 := by
    rw [← Array.length_toList, e, List.length_cons]
  have hlt : l ≠ s.heap.objs.size := by
    obtain ⟨o, ho, _⟩ := hl
    exact Nat.ne_of_lt (Heap.lt_size ho)
  unfold unpackItems
  refine wpAny_bind ?_
  unfold notIterableAtAll
  refine wpAny_bind (wpAny_specialOf hl.typeIs slot_list_iter.lookup (wpAny_pure ?_))
  simp only [Bool.false_eq_true, if_false]
  refine wpAny_bind (wpAny_holding (wpAny_pyIter_list hl ?_))
  refine wpAny_bind (wpAny_holding (kun_draw hlt 1 0 _ _ ⟨_, Heap.get?_push_size _ rfl, rfl, rfl⟩ (hl.push _) (by omega) fun h1 it1 sb => ?_))
  have hl1 : h1.IsList l items := (hl.push _).extBut sb.extBut hlt
  have li : s.heap.objs.size < h1.objs.size := by
    obtain ⟨o, ho, _⟩ := it1
    exact Heap.lt_size ho
  have ll : l < h1.objs.size := by
    obtain ⟨o, ho, _⟩ := hl1
    exact Heap.lt_size ho
  rw [List.drop_zero, e]
  show wpAny _ _ (if (1 : Nat) < 1 then _ else _) _ _ _
  rw [if_neg (by decide)]
  refine wpAny_bind (wpAny_holding (kun_collect (s := { s with heap := h1 }) (T := "list_iterator") (.inr (.inr (.inl rfl))) (Walks.list (A := A.in1) hh s.heap.objs.size l hlt items) (fun j u st => st.1.typeIs) (k := 1) (by omega) ⟨it1, hl1⟩ li ll (fun h2 tk hk => ?_) (by rw [sizeLine_eq]; omega)))
  rw [e]
  show wpAny _ _ (if ys.length < 0 then _ else _) _ _ _
  rw [if_neg (Nat.not_lt_zero _)]
  show wpAny _ _ (newList (ys.take ys.length) >>= fun d => pure ([y] ++ [d] ++ ys.drop ys.length)) _ _ _
  rw [List.take_length, List.drop_length]
  refine wpAny_bind (wpAny_newList (wpAny_pure ?_) (by rw [sizeLine_eq]; omega))
  exact h h2 tk fun b o q => hk b o (Nat.ne_of_lt (Heap.lt_size q)) (sb.extBut b o (Nat.ne_of_lt (Heap.lt_size q)) (Heap.get?_push_of_some _ q))
theorem star_itemsT {l : Addr} {items : Array Value} {y : Value} {ys : List Value} {Q : List Value → Shared → Prop} (hl : IsTup s.heap l items) (hh : A.handled = none) (e : items.toList = y :: ys) (hz : ys.length ≤ 1000)
    (h : ∀ (h' : Heap) (tk : Nat), (∀ b o, s.heap.get? b = some o → h'.get? b = some o) → Q [y, .ref h'.objs.size] { s with heap := h'.push { cls := .type "list", data := .seq ys.toArray }, toks := tk }) : wpAny (model prog w) A (unpackItems (.ref l) 2 (some 1)) Q E s := by
  have sz : items.size = ys.length + 1 := by
    rw [← Array.length_toList, e, List.length_cons]
  have hlt : l ≠ s.heap.objs.size := by
    obtain ⟨o, ho, _⟩ := hl
    exact Nat.ne_of_lt (Heap.lt_size ho)
  unfold unpackItems
  refine wpAny_bind ?_
  unfold notIterableAtAll
  refine wpAny_bind (wpAny_specialOf hl.typeIs slot_tuple_iter.lookup (wpAny_pure ?_))
  simp only [Bool.false_eq_true, if_false]
  refine wpAny_bind (wpAny_holding (iter_tuple hl ?_))
  refine wpAny_bind (wpAny_holding (draw_tuple hlt 1 0 _ _ ⟨_, Heap.get?_push_size _ rfl, rfl, rfl⟩ (hl.push _) (by omega) fun h1 it1 sb => ?_))
  have hl1 : IsTup h1 l items := (hl.push _).extBut sb.extBut hlt
  have li : s.heap.objs.size < h1.objs.size := by
    obtain ⟨o, ho, _⟩ := it1
    exact Heap.lt_size ho
  have ll : l < h1.objs.size := by
    obtain ⟨o, ho, _⟩ := hl1
    exact Heap.lt_size ho
  rw [List.drop_zero, e]
  show wpAny _ _ (if (1 : Nat) < 1 then _ else _) _ _ _
  rw [if_neg (by decide)]
  refine wpAny_bind (wpAny_holding (kun_collect (s := { s with heap := h1 }) (T := "tuple_iterator") (.inr (.inr (.inr rfl))) (Walks.tuple (A := A.in1) hh s.heap.objs.size l hlt items) (fun j u st => st.1.typeIs) (k := 1) (by omega) ⟨it1, hl1⟩ li ll (fun h2 tk hk => ?_) (by rw [sizeLine_eq]; omega)))
  rw [e]
  show wpAny _ _ (if ys.length < 0 then _ else _) _ _ _
  rw [if_neg (Nat.not_lt_zero _)]
  show wpAny _ _ (newList (ys.take ys.length) >>= fun d => pure ([y] ++ [d] ++ ys.drop ys.length)) _ _ _
  rw [List.take_length, List.drop_length]
  refine wpAny_bind (wpAny_newList (wpAny_pure ?_) (by rw [sizeLine_eq]; omega))
  exact h h2 tk fun b o q => hk b o (Nat.ne_of_lt (Heap.lt_size q)) (sb.extBut b o (Nat.ne_of_lt (Heap.lt_size q)) (Heap.get?_push_of_some _ q))
end
section
variable {X : Cx} {pos : Pos}
def gSt1 (K : PySem.W.Frag) (t u : TG) : TG := fun v σ H Q => ∃ (a : Addr) (x : V) (xs : List V), v = .ref a ∧ SqL K H a (x :: xs) ∧ xs.length ≤ 1000 ∧ ∀ D, H D = none → t x σ (upd H D (.lst xs)) fun σ' H' => u (.ref D) σ' H' Q
theorem pg_st1 {e1 e2 : Expr} {p2 : Pos} {k : Nat} {t u : TG} (hc : X.calm = true) (h1 : PG X e1 t) (h2 : PG X e2 u)
    (hs : assignEach [e1, .Starred e2 p2] X.env = [(false, assign e1 X.env), (true, assign e2 X.env)] := by rfl) : PG X (.Tuple [e1, .Starred e2 p2] k pos) (gSt1 X.K t u) := by
  refine ⟨fun pins s σ H v uv Q I r hw => ?_⟩
  obtain ⟨a, x, xs, ea, hq, hx, hw⟩ := hw
  subst ea
  cases r
  obtain ⟨its, rv, pl, hz⟩ := I.list hq
  have hl : s.heap.IsList a its.toArray := pl.isList
  cases rv with
  | @cons _ y _ ys ry rys =>
    have ln := rys.length
    rw [PyProof.Rows.assign_Tuple]
    refine wpAny_bind (wpAny_standAt ?_)
    unfold unpack
    rw [hs]
    refine wpAny_bind (wpAny_holding (star_items (y := y) (ys := ys) hl (I.ok.hd hc) rfl (by omega) fun h' tk kp => ?_))
    have J : Inv X pins σ H { s with heap := h', toks := tk } := I.kept (t' := tk) kp
    have fr := J.hok.fresh (Nat.le_refl _)
    have J2 : Inv X pins σ (upd H h'.objs.size (.lst xs)) { s with heap := h'.push { cls := .type "list", data := .seq ys.toArray }, toks := tk } :=
      J.laid (t' := tk) (fun b o q => Heap.get?_push_of_some _ q) (Nat.le_refl _) (show ObjOk X.prog X.w _ _ _ (.lst xs) from ⟨Nat.le_trans hx (by decide), ys, 0, rys, Heap.get?_push_size _ rfl⟩)
    refine assignInOrder_cons (thn (h1.run pins _ σ _ x y _ J2 ry (hw _ fr)) fun _ s1 ⟨σ1, H1, I1, q1⟩ => ?_)
    exact assignInOrder_cons (thn (h2.run pins _ σ1 H1 (.ref h'.objs.size) _ Q I1 rfl q1) fun _ s2 ⟨σ2, H2, I2, q2⟩ => assignInOrder_nil ⟨σ2, H2, I2, q2⟩)
def gSt1T (K : PySem.W.Frag) (t u : TG) : TG := fun v σ H Q => ∃ (a : Addr) (x : V) (xs : List V), v = .ref a ∧ SqT K H a (x :: xs) ∧ xs.length ≤ 1000 ∧ ∀ D, H D = none → t x σ (upd H D (.lst xs)) fun σ' H' => u (.ref D) σ' H' Q
theorem pg_st1T {e1 e2 : Expr} {p2 : Pos} {k : Nat} {t u : TG} (hc : X.calm = true) (h1 : PG X e1 t) (h2 : PG X e2 u)
    (hs : assignEach [e1, .Starred e2 p2] X.env = [(false, assign e1 X.env), (true, assign e2 X.env)] := by rfl) : PG X (.Tuple [e1, .Starred e2 p2] k pos) (gSt1T X.K t u) := by
  refine ⟨fun pins s σ H v uv Q I r hw => ?_⟩
  obtain ⟨a, x, xs, ea, hq, hx, hw⟩ := hw
  subst ea
  cases r
  obtain ⟨its, rv, hl, hz⟩ := I.tuple hq
  cases rv with
  | @cons _ y _ ys ry rys =>
    have ln := rys.length
    rw [PyProof.Rows.assign_Tuple]
    refine wpAny_bind (wpAny_standAt ?_)
    unfold unpack
    rw [hs]
    refine wpAny_bind (wpAny_holding (star_itemsT (y := y) (ys := ys) hl (I.ok.hd hc) rfl (by omega) fun h' tk kp => ?_))
    have J : Inv X pins σ H { s with heap := h', toks := tk } := I.kept (t' := tk) kp
    have fr := J.hok.fresh (Nat.le_refl _)
    have J2 : Inv X pins σ (upd H h'.objs.size (.lst xs)) { s with heap := h'.push { cls := .type "list", data := .seq ys.toArray }, toks := tk } :=
      J.laid (t' := tk) (fun b o q => Heap.get?_push_of_some _ q) (Nat.le_refl _) (show ObjOk X.prog X.w _ _ _ (.lst xs) from ⟨Nat.le_trans hx (by decide), ys, 0, rys, Heap.get?_push_size _ rfl⟩)
    refine assignInOrder_cons (thn (h1.run pins _ σ _ x y _ J2 ry (hw _ fr)) fun _ s1 ⟨σ1, H1, I1, q1⟩ => ?_)
    exact assignInOrder_cons (thn (h2.run pins _ σ1 H1 (.ref h'.objs.size) _ Q I1 rfl q1) fun _ s2 ⟨σ2, H2, I2, q2⟩ => assignInOrder_nil ⟨σ2, H2, I2, q2⟩)
end
/-! ### errors of one field -/
def errH1 (H : Hp) (a C dx : Addr) (f : Str) (x : V) : Hp := upd (upd H dx (exd dx [(f, x)])) a (exo a C (some dx))
theorem raise1 {C : Addr} {f : Str} {x : V} {H : Hp} {Q : XK} (hq : ∀ d, H d = none → Q (.ref C) (some d) (upd H d (.xd [(f, x)]))) {a dx : Addr} (na : H a = none) (nd : upd H a (exo a C none) dx = none) (ne : dx ≠ a) :
    V.non = .non ∧ ∃ (d : Addr) (fs : List (Str × V)), errH1 (upd H a (exo a C none)) a C dx f x a = some (exo a C (some d)) ∧ errH1 (upd H a (exo a C none)) a C dx f x d = some (exd d fs) ∧ H d = none ∧
      Q (.ref C) (some d) (upd (del (errH1 (upd H a (exo a C none)) a C dx f x) a) d (.xd fs)) := by
  rw [upd_ne ne] at nd
  refine ⟨rfl, dx, [(f, x)], ?_, ?_, nd, ?_⟩
  · unfold errH1
    rw [upd_same]
  · unfold errH1
    rw [upd_ne ne, upd_same]
  · have e : upd (del (errH1 (upd H a (exo a C none)) a C dx f x) a) dx (.xd [(f, x)]) = upd H dx (.xd [(f, x)]) := by
      funext b
      by_cases h1 : b = dx
      · rw [h1, upd_same, upd_same]
      · rw [upd_ne h1, upd_ne h1]
        by_cases h2 : b = a
        · rw [h2, del_same, na]
        · rw [del_ne h2]
          unfold errH1
          rw [upd_ne h2, upd_ne h1, upd_ne h2]
    rw [e]
    exact hq dx nd
/-- a list of wishes -/
def Good (ns : List Int) : Prop := ns.Nodup ∧ ∀ n ∈ ns, 0 ≤ n
theorem made1 {H : Hp} {x dx C : Addr} (nx : H x = none) (nd : H dx = none) : Same H (upd (upd H dx (.own x)) x (.ins C dx [])) := fun b o e => by
  rw [upd_ne (ne_of_none e nx), upd_ne (ne_of_none e nd)]
  exact e
theorem drop_cons {ns : List Int} {i : Nat} {n : Int} (h : ns[i]? = some n) : ns.drop i = n :: ns.drop (i + 1) := by
  have lt : i < ns.length := (List.getElem?_eq_some_iff.mp h).1
  rw [List.drop_eq_getElem_cons lt]
  rw [List.getElem?_eq_getElem lt] at h
  rw [Option.some.inj h]
/-- the naturals as whole numbers -/
def cz (l : List Nat) : List Int := l.map fun n : Nat => (n : Int)
theorem cz_len (l : List Nat) : (cz l).length = l.length := List.length_map _
theorem czv_len (l : List Nat) : ((cz l).map V.int).length = l.length := (List.length_map _).trans (cz_len l)
theorem cz_at {l : List Nat} {i n : Nat} (h : l[i]? = some n) : ((cz l).map V.int)[i]? = some (.int (n : Int)) := by
  unfold cz
  rw [List.getElem?_map, List.getElem?_map, h]
  rfl
theorem cz_of {l : List Nat} {i : Nat} {x : V} (h : ((cz l).map V.int)[i]? = some x) : ∃ n : Nat, x = .int (n : Int) ∧ l[i]? = some n := by
  unfold cz at h
  rw [List.getElem?_map, List.getElem?_map] at h
  cases e : l[i]? with
  | none =>
    rw [e] at h
    cases h
  | some n =>
    rw [e] at h
    exact ⟨n, (Option.some.inj h).symm, rfl⟩
theorem to_cz : ∀ (l : List Int), (∀ n ∈ l, 1 ≤ n ∧ n ≤ 10 ^ 18) → ∃ q : List Nat, cz q = l ∧ q.length = l.length ∧ ∀ n ∈ q, 0 < n ∧ n ≤ 10 ^ 18
  | [], _ => ⟨[], rfl, rfl, fun _ h => by cases h⟩
  | n :: r, h => by
    obtain ⟨q, e, el, hq⟩ := to_cz r fun m hm => h m (List.mem_cons_of_mem _ hm)
    obtain ⟨h1, h2⟩ := h n List.mem_cons_self
    refine ⟨n.toNat :: q, ?_, by rw [List.length_cons, List.length_cons, el], fun m hm => ?_⟩
    · show ((n.toNat : Nat) : Int) :: cz q = n :: r
      rw [e, Int.toNat_of_nonneg (by omega)]
    · rcases List.mem_cons.mp hm with rfl | hm
      · omega
      · exact hq m hm
theorem big9 : (0 : Int) < 10 ^ 9 - 1 ∧ (10 : Int) ^ 9 - 1 < 2 ^ 100 := by decide
theorem cz_take (q : List Nat) (m : Nat) : ((cz q).map V.int).take m = (cz (q.take m)).map V.int := by
  unfold cz
  rw [List.map_take, List.map_take]
/-- the greatest common divisor of all -/
def gl (l : List Nat) : Nat := l.foldl Nat.gcd 0
theorem foldl_dvd (l : List Nat) : ∀ a, l.foldl Nat.gcd a ∣ a ∧ ∀ n ∈ l, l.foldl Nat.gcd a ∣ n := by
  induction l with
  | nil => exact fun a => ⟨Nat.dvd_refl a, fun _ h => by cases h⟩
  | cons x r ih =>
    intro a
    obtain ⟨h1, h2⟩ := ih (Nat.gcd a x)
    refine ⟨Nat.dvd_trans h1 (Nat.gcd_dvd_left a x), fun n hn => ?_⟩
    rcases List.mem_cons.mp hn with rfl | hn
    · exact Nat.dvd_trans h1 (Nat.gcd_dvd_right a _)
    · exact h2 n hn
theorem gl_dvd {l : List Nat} {n : Nat} (h : n ∈ l) : gl l ∣ n := (foldl_dvd l 0).2 n h
theorem foldl_div (g : Nat) (hg : 0 < g) (l : List Nat) : ∀ a, g ∣ a → (∀ n ∈ l, g ∣ n) → (l.map (· / g)).foldl Nat.gcd (a / g) = l.foldl Nat.gcd a / g := by
  induction l with
  | nil => exact fun _ _ _ => rfl
  | cons x r ih =>
    intro a ha hl
    show (r.map (· / g)).foldl Nat.gcd (Nat.gcd (a / g) (x / g)) = r.foldl Nat.gcd (Nat.gcd a x) / g
    rw [Nat.gcd_div ha (hl x List.mem_cons_self)]
    exact ih _ (Nat.dvd_gcd ha (hl x List.mem_cons_self)) fun n hn => hl n (List.mem_cons_of_mem _ hn)
theorem gl_div {l : List Nat} (h : 0 < gl l) : gl (l.map (· / gl l)) = 1 := by
  have e := foldl_div (gl l) h l 0 (Nat.dvd_zero _) fun n hn => gl_dvd hn
  rw [Nat.zero_div] at e
  exact e.trans (Nat.div_self h)
theorem gl_pos {a : Nat} {l : List Nat} (h : 0 < a) : 0 < gl (a :: l) := Nat.pos_of_dvd_of_pos (gl_dvd List.mem_cons_self) h
theorem gl_snoc (l : List Nat) (n : Nat) : gl (l ++ [n]) = Nat.gcd (gl l) n := by
  unfold gl
  rw [List.foldl_append]
  rfl

theorem ite2N {c A B : Prop} [Decidable c] (h1 : ¬ c → A) (h2 : c → B) : if (!decide c) = true then A else B := by
  by_cases h : c
  · rw [decide_eq_true h]
    exact iteF (h2 h)
  · rw [decide_eq_false h]
    exact iteT (h1 h)
/-- counts of a row: none below 0, none above 0 of a thing that is not in the lot -/
def cntB (ls : List Int) : List Int → Nat → Bool
  | [], _ => true
  | c :: r, j => if c < 0 then false else if c > 0 ∧ ¬ inV (.int (j : Int)) (ls.map V.int) = true then false else cntB ls r (j + 1)
def fitR (ls : List Int) (t : Int) (cs : List Int) : Bool := cntB ls cs 0 && (decide (t ≥ 1) && decide (cs.sum ≤ t))
/-- a row of the right length and form -/
def rowOk (m n : Nat) : List Int → Bool
  | [] => false
  | t :: cs => decide (cs.length = m) && fitR (lotOf n m) t cs
def badT (m : Nat) : List (List Int) → Nat → Option Nat
  | [], _ => none
  | r :: rs, i => if rowOk m i r = true then badT m rs (i + 1) else some i
inductive DueT | many (m : Int) | table | row (k : Nat) | made
/-- what is due for these rows -/
def dueT (m : Nat) (rows : List (List Int)) : DueT := if m > 6 then .many m else if rows.length ≠ 2 ^ m then .table else
  match badT m rows 0 with
  | some k => .row k
  | none => .made
/-- rows in the heap -/
def RowsL (H : Hp) (us : List Addr) (rows : List (List Int)) : Prop := us.length = rows.length ∧ ∀ (i : Nat) (u : Addr) (r : List Int), us[i]? = some u → rows[i]? = some r → H u = some (.lst (r.map V.int))
theorem RowsL.same {H H' : Hp} {us : List Addr} {rows : List (List Int)} (s : Same H H') (h : RowsL H us rows) : RowsL H' us rows := ⟨h.1, fun i u r h1 h2 => s _ _ (h.2 i u r h1 h2)⟩
theorem RowsL.sx {p C dx : Addr} {fs : List (Str × V)} {H H' : Hp} {us : List Addr} {rows : List (List Int)} (hp : H p = some (.ins C dx fs)) (s : SameX p H H') (h : RowsL H us rows) : RowsL H' us rows := ⟨h.1, fun i u r h1 h2 => by
  have e := h.2 i u r h1 h2
  exact s _ _ (fun z => by
    rw [z, hp] at e
    cases e) e⟩
theorem dropT {l : List (List Int)} {i : Nat} {n : List Int} (h : l[i]? = some n) : l.drop i = n :: l.drop (i + 1) := by
  have lt : i < l.length := (List.getElem?_eq_some_iff.mp h).1
  rw [List.drop_eq_getElem_cons lt]
  rw [List.getElem?_eq_getElem lt] at h
  rw [Option.some.inj h]
theorem lst_sx {p C dx y : Addr} {fs : List (Str × V)} {H H' : Hp} {xs : List V} (hp : H p = some (.ins C dx fs)) (s : SameX p H H') (h : H y = some (.lst xs)) : H' y = some (.lst xs) := s _ _ (fun z => by
  rw [z, hp] at h
  cases h) h
theorem cntB_pos {ls : List Int} : ∀ {cs : List Int} {j : Nat}, cntB ls cs j = true → ∀ c ∈ cs, 0 ≤ c
  | [], _, _, _, h => by cases h
  | x :: r, j, e, c, h => by
    unfold cntB at e
    split at e
    · cases e
    · split at e
      · cases e
      · rcases List.mem_cons.mp h with rfl | h
        · omega
        · exact cntB_pos e c h
theorem badT_ok {m : Nat} {r : List Int} {rs : List (List Int)} {i : Nat} (h : rowOk m i r = true) : badT m (r :: rs) i = badT m rs (i + 1) := (show badT m (r :: rs) i = if rowOk m i r = true then badT m rs (i + 1) else some i from rfl).trans (if_pos h)
theorem badT_no {m : Nat} {r : List Int} {rs : List (List Int)} {i : Nat} (h : ¬ rowOk m i r = true) : badT m (r :: rs) i = some i := (show badT m (r :: rs) i = if rowOk m i r = true then badT m rs (i + 1) else some i from rfl).trans (if_neg h)

theorem rowOk_cz {m n : Nat} {t : Int} {cs : List Int} (h : rowOk m n (t :: cs) = true) : cs.length = m ∧ fitR (lotOf n m) t cs = true := by
  have h : (decide (cs.length = m) && fitR (lotOf n m) t cs) = true := h
  rw [Bool.and_eq_true] at h
  exact ⟨of_decide_eq_true h.1, h.2⟩
theorem row_nats {m n : Nat} {r : List Int} (h : rowOk m n r = true) : ∃ (b : Nat) (ws : List Nat), r = cz (b :: ws) ∧ 0 < b ∧ ws.length = m := by
  cases r with
  | nil => cases h
  | cons t cs =>
    obtain ⟨h1, h2⟩ := rowOk_cz h
    unfold fitR at h2
    rw [Bool.and_eq_true, Bool.and_eq_true] at h2
    have t1 : t ≥ 1 := of_decide_eq_true h2.2.1
    have pos := cntB_pos h2.1
    refine ⟨t.toNat, cs.map Int.toNat, ?_, by omega, by rw [List.length_map]; exact h1⟩
    show t :: cs = ((t.toNat : Nat) : Int) :: (cs.map Int.toNat).map fun n : Nat => (n : Int)
    rw [Int.toNat_of_nonneg (by omega), List.map_map]
    congr 1
    refine (List.map_id cs).symm.trans (List.map_congr_left fun c hc => ?_)
    show c = ((c.toNat : Nat) : Int)
    rw [Int.toNat_of_nonneg (pos c hc)]
theorem badT_all {m : Nat} : ∀ {rows : List (List Int)} {i : Nat}, badT m rows i = none → ∀ (j : Nat) (r : List Int), rows[j]? = some r → rowOk m (i + j) r = true
  | [], _, _, j, r, h => by cases h
  | x :: rs, i, e, j, r, h => by
    by_cases c : rowOk m i x = true
    · rw [badT_ok c] at e
      cases j with
      | zero =>
        cases h
        exact c
      | succ j =>
        have := badT_all e j r h
        rw [show i + (j + 1) = i + 1 + j by omega]
        exact this
    · rw [badT_no c] at e
      cases e
theorem dueT_many {m : Nat} {rows : List (List Int)} (h : m > 6) : dueT m rows = .many m := if_pos h
theorem dueT_table {m : Nat} {rows : List (List Int)} (h : ¬ m > 6) (k : rows.length ≠ 2 ^ m) : dueT m rows = .table := by
  unfold dueT
  rw [if_neg h]
  exact if_pos k
theorem dueT_rest {m : Nat} {rows : List (List Int)} (h : ¬ m > 6) (k : rows.length = 2 ^ m) : dueT m rows = (match badT m rows 0 with
  | some k => .row k
  | none => .made) := by
  unfold dueT
  rw [if_neg h, if_neg fun z => z k]

/-- a row divided by its greatest common divisor -/
def divd (l : List Nat) : List Nat := l.map (· / gl l)
/-- a row of whole numbers from 0 on, divided -/
def divI (r : List Int) : List Int := cz (divd (r.map Int.toNat))
theorem divI_cz (l : List Nat) : divI (cz l) = cz (divd l) := by
  unfold divI
  congr 2
  unfold cz
  rw [List.map_map]
  exact (List.map_congr_left fun n _ => Int.toNat_natCast n).trans (List.map_id l)
def fT (m : Int) (t : Addr) : List (Str × V) := putF "rows" (.ref t) (putF "many" (.int m) [])
theorem fT_many (m : Int) (t : Addr) : (fT m t).lookup ("many" : Str) = some (V.int m) := by rfl
theorem fT_rows (m : Int) (t : Addr) : (fT m t).lookup ("rows" : Str) = some (V.ref t) := by rfl
theorem fT_shares (m : Int) (t : Addr) : (fT m t).lookup ("shares" : Str) = none := by rfl
theorem fT_away (m : Int) (t : Addr) : (fT m t).lookup ("away" : Str) = none := by rfl
/-- rows as tuples -/
def RowsT (H : Hp) (us : List Addr) (rows : List (List Int)) : Prop := us.length = rows.length ∧ ∀ (i : Nat) (u : Addr) (r : List Int), us[i]? = some u → rows[i]? = some r → H u = some (.tup (r.map V.int))
theorem RowsT.same {H H' : Hp} {us : List Addr} {rows : List (List Int)} (s : Same H H') (h : RowsT H us rows) : RowsT H' us rows := ⟨h.1, fun i u r h1 h2 => s _ _ (h.2 i u r h1 h2)⟩
/-- a rule by a table -/
def TAt (C : Addr) (H : Hp) (p : Addr) (m : Int) (rows : List (List Int)) : Prop := ∃ (dx t : Addr) (us : List Addr), H p = some (.ins C dx (fT m t)) ∧ H t = some (.tup (us.map V.ref)) ∧ RowsT H us rows
theorem TAt.same {C : Addr} {H H' : Hp} {p : Addr} {m : Int} {rows : List (List Int)} (s : Same H H') (h : TAt C H p m rows) : TAt C H' p m rows := by
  obtain ⟨dx, t, us, h1, h2, h3⟩ := h
  exact ⟨dx, t, us, s _ _ h1, s _ _ h2, h3.same s⟩
theorem RowsT.snoc {H : Hp} {us : List Addr} {rows : List (List Int)} {u : Addr} {r : List Int} (h : RowsT H us rows) (k : H u = some (.tup (r.map V.int))) : RowsT H (us ++ [u]) (rows ++ [r]) := by
  refine ⟨by rw [List.length_append, List.length_append, h.1]; rfl, fun j v x h1 h2 => ?_⟩
  by_cases hj : j < us.length
  · rw [List.getElem?_append_left hj] at h1
    rw [List.getElem?_append_left (by have := h.1; omega)] at h2
    exact h.2 j v x h1 h2
  · rw [List.getElem?_append_right (by omega)] at h1
    rw [List.getElem?_append_right (by have := h.1; omega)] at h2
    obtain ⟨n, hn⟩ : ∃ n, j - us.length = n := ⟨_, rfl⟩
    rw [← h.1, hn] at h2
    rw [hn] at h1
    cases n with
    | zero =>
      cases h1
      cases h2
      exact k
    | succ n => cases h1
theorem RowsT.put {H : Hp} {D : Addr} {xs : List V} {o : HO} {us : List Addr} {rows : List (List Int)} (hD : H D = some (.lst xs)) (h : RowsT H us rows) : RowsT (upd H D o) us rows := ⟨h.1, fun i u r h1 h2 => by
  have e := h.2 i u r h1 h2
  exact (upd_ne fun z => by
    rw [z, hD] at e
    cases e).trans e⟩
theorem RowsT.sx {p C dx : Addr} {fs : List (Str × V)} {H H' : Hp} {us : List Addr} {rows : List (List Int)} (hp : H p = some (.ins C dx fs)) (s : SameX p H H') (h : RowsT H us rows) : RowsT H' us rows := ⟨h.1, fun i u r h1 h2 => by
  have e := h.2 i u r h1 h2
  exact s _ _ (fun z => by
    rw [z, hp] at e
    cases e) e⟩

theorem big16 : (0 : Int) < 10 ^ 16 ∧ (10 : Int) ^ 16 < 2 ^ 100 := by decide

theorem sum_bnd {B : Int} : ∀ {l : List Int}, (∀ x ∈ l, 0 ≤ x ∧ x ≤ B) → 0 ≤ l.sum ∧ l.sum ≤ (l.length : Int) * B
  | [], _ => ⟨Int.le_refl _, by rw [List.length_nil]; show (0 : Int) ≤ 0 * B; omega⟩
  | x :: r, h => by
    have h1 := h x List.mem_cons_self
    have h2 := sum_bnd fun y hy => h y (List.mem_cons_of_mem _ hy)
    rw [List.sum_cons, List.length_cons, Int.natCast_add, Int.add_mul]
    constructor <;> omega
theorem cntB_of {ls : List Int} : ∀ {cs : List Int} {j : Nat}, (∀ (k : Nat) (c : Int), cs[k]? = some c → 0 ≤ c ∧ (0 < c → inV (.int ((j + k : Nat) : Int)) (ls.map V.int) = true)) → cntB ls cs j = true
  | [], _, _ => rfl
  | c :: r, j, h => by
    have h0 := h 0 c rfl
    rw [show cntB ls (c :: r) j = if c < 0 then false else if c > 0 ∧ ¬ inV (.int (j : Int)) (ls.map V.int) = true then false else cntB ls r (j + 1) from rfl, if_neg (by omega), if_neg fun z => z.2 (h0.2 z.1)]
    refine cntB_of fun k x hk => ?_
    have := h (k + 1) x hk
    rw [show j + 1 + k = j + (k + 1) by omega]
    exact this
theorem RowsL.snoc {H : Hp} {us : List Addr} {rows : List (List Int)} {u : Addr} {r : List Int} (h : RowsL H us rows) (k : H u = some (.lst (r.map V.int))) : RowsL H (us ++ [u]) (rows ++ [r]) := by
  refine ⟨by rw [List.length_append, List.length_append, h.1]; rfl, fun j v x h1 h2 => ?_⟩
  by_cases hj : j < us.length
  · rw [List.getElem?_append_left hj] at h1
    rw [List.getElem?_append_left (by have := h.1; omega)] at h2
    exact h.2 j v x h1 h2
  · rw [List.getElem?_append_right (by omega)] at h1
    rw [List.getElem?_append_right (by have := h.1; omega)] at h2
    obtain ⟨n, hn⟩ : ∃ n, j - us.length = n := ⟨_, rfl⟩
    rw [← h.1, hn] at h2
    rw [hn] at h1
    cases n with
    | zero =>
      cases h1
      cases h2
      exact k
    | succ n => cases h1
/-- a list that is changed is none of the rows -/
theorem RowsL.put {H : Hp} {D : Addr} {o : HO} {us : List Addr} {rows : List (List Int)} (hD : D ∉ us) (h : RowsL H us rows) : RowsL (upd H D o) us rows := ⟨h.1, fun i u r h1 h2 => (upd_ne fun z => hD (by rw [← z]; exact List.mem_of_getElem? h1)).trans (h.2 i u r h1 h2)⟩
theorem RowsL.live {H : Hp} {us : List Addr} {rows : List (List Int)} {D : Addr} (h : RowsL H us rows) (n : H D = none) : D ∉ us := fun m => by
  obtain ⟨i, hi⟩ := List.getElem?_of_mem m
  have li := (List.getElem?_eq_some_iff.mp hi).1
  have := h.2 i D _ hi (List.getElem?_eq_getElem (by have := h.1; omega))
  rw [n] at this
  cases this

/-- each row times its factor -/
def times (fs : List Int) (rows : List (List Int)) : List (List Int) := List.zipWith (fun f r => r.map (f * ·)) fs rows
theorem times_snoc {fs : List Int} {rows : List (List Int)} (h : fs.length = rows.length) (x : Int) (r : List Int) : times (fs ++ [x]) (rows ++ [r]) = times fs rows ++ [r.map (x * ·)] := by
  unfold times
  rw [List.zipWith_append h]
  rfl

theorem lotB_of : ∀ {ns : List Int} {b m : Int}, ns.Pairwise (· < ·) → (∀ x ∈ ns, b < x ∧ x < m) → lotB ns b m = true
  | [], _, _, _, _ => rfl
  | n :: r, b, m, h, k => by
    have hn := k n List.mem_cons_self
    obtain ⟨h1, h2⟩ := List.pairwise_cons.mp h
    exact (if_neg (by omega) : lotB (n :: r) b m = lotB r n m).trans (lotB_of h2 fun x hx => ⟨h1 x hx, (k x (List.mem_cons_of_mem _ hx)).2⟩)
theorem lotOf_lot (b : Int) (m : Nat) : lotB (lotOf b m) (-1) m = true := lotB_of (lotOf_asc b m) fun x hx => by
  have := lotOf_mem b hx
  omega
theorem cz_sum_div {g : Nat} : ∀ {ws : List Nat}, (∀ w ∈ ws, g ∣ w) → (cz ws).sum = (g : Int) * (cz (ws.map (· / g))).sum
  | [], _ => by show (0 : Int) = g * 0; omega
  | w :: r, h => by
    have h1 := Nat.mul_div_cancel' (h w List.mem_cons_self)
    have ih := cz_sum_div (ws := r) fun v hv => h v (List.mem_cons_of_mem _ hv)
    show (w : Int) + (cz r).sum = (g : Int) * (((w / g : Nat) : Int) + (cz (r.map (· / g))).sum)
    rw [Int.mul_add, ← ih]
    congr 1
    exact_mod_cast h1.symm
theorem cz_pos (l : List Nat) : ∀ x ∈ cz l, 0 ≤ x := fun x hx => by
  unfold cz at hx
  obtain ⟨n, _, rfl⟩ := List.mem_map.mp hx
  omega

theorem set_ints (ps : List Int) (j : Nat) (v : Int) : (ps.map V.int).set j (.int v) = (ps.set j v).map V.int := by rw [List.map_set]
theorem ixn_at {j m : Nat} (h : j < m) : ixN m (j : Int) = some j := by
  unfold ixN
  rw [if_pos (by omega), if_pos (by omega), Int.toNat_natCast]
theorem cntB_at {ls : List Int} : ∀ {cs : List Int} {j : Nat}, cntB ls cs j = true → ∀ (k : Nat) (c : Int), cs[k]? = some c → 0 ≤ c ∧ (0 < c → inV (.int ((j + k : Nat) : Int)) (ls.map V.int) = true)
  | [], _, _, _, _, h => by cases h
  | x :: r, j, e, k, c, h => by
    unfold cntB at e
    split at e
    · cases e
    · split at e
      · cases e
      · cases k with
        | zero =>
          cases h
          refine ⟨by omega, fun p => ?_⟩
          rename_i z
          exact Classical.byContradiction fun y => z ⟨p, y⟩
        | succ k =>
          have := cntB_at e k c h
          rw [show j + 1 + k = j + (k + 1) by omega] at this
          exact this
theorem rowOk_iff {m n : Nat} {t : Int} {cs : List Int} : rowOk m n (t :: cs) = true ↔ cs.length = m ∧ (∀ (k : Nat) (c : Int), cs[k]? = some c → 0 ≤ c ∧ (0 < c → inV (.int (k : Int)) ((lotOf n m).map V.int) = true)) ∧ 1 ≤ t ∧ cs.sum ≤ t := by
  constructor
  · intro h
    obtain ⟨h1, h2⟩ := rowOk_cz h
    unfold fitR at h2
    rw [Bool.and_eq_true, Bool.and_eq_true] at h2
    refine ⟨h1, fun k c hk => ?_, of_decide_eq_true h2.2.1, of_decide_eq_true h2.2.2⟩
    have := cntB_at h2.1 k c hk
    rw [Nat.zero_add] at this
    exact this
  · rintro ⟨h1, h2, h3, h4⟩
    show (decide (cs.length = m) && fitR (lotOf n m) t cs) = true
    unfold fitR
    rw [decide_eq_true h1, decide_eq_true (show t ≥ 1 from h3), decide_eq_true h4, cntB_of fun k c hk => by
      rw [Nat.zero_add]
      exact h2 k c hk]
    rfl
theorem sum_mulI (f : Int) : ∀ cs : List Int, (cs.map (f * ·)).sum = f * cs.sum
  | [] => by show (0 : Int) = f * 0; omega
  | c :: r => by
    show f * c + (r.map (f * ·)).sum = f * (c + r.sum)
    rw [sum_mulI f r, Int.mul_add]
theorem sum_set1 : ∀ {cs : List Int} {k : Nat} {c : Int}, cs[k]? = some c → (cs.set k (c + 1)).sum = cs.sum + 1
  | [], _, _, h => by cases h
  | x :: r, 0, c, h => by
    have e : x = c := Option.some.inj h
    subst e
    show x + 1 + r.sum = x + r.sum + 1
    omega
  | x :: r, k + 1, c, h => by
    show x + (r.set k (c + 1)).sum = x + r.sum + 1
    rw [sum_set1 (show r[k]? = some c from h)]
    omega
theorem rowOk_mul {m n : Nat} {f : Int} (hf : 1 ≤ f) {r : List Int} (h : rowOk m n r = true) : rowOk m n (r.map (f * ·)) = true := by
  cases r with
  | nil => cases h
  | cons t cs =>
    obtain ⟨h1, h2, h3, h4⟩ := rowOk_iff.mp h
    refine rowOk_iff.mpr ⟨by rw [List.length_map]; exact h1, fun k c hk => ?_, ?_, ?_⟩
    · rw [List.getElem?_map] at hk
      cases hc : cs[k]? with
      | none =>
        rw [hc] at hk
        cases hk
      | some x =>
        rw [hc] at hk
        cases hk
        obtain ⟨p, q⟩ := h2 k x hc
        refine ⟨Int.mul_nonneg (by omega) p, fun z => q ?_⟩
        rcases (by omega : x = 0 ∨ 0 < x) with rfl | y
        · have : f * 0 = 0 := Int.mul_zero f
          have z : 0 < f * 0 := z
          omega
        · exact y
    · have := Int.mul_le_mul_of_nonneg_right hf (show 0 ≤ t by omega)
      show 1 ≤ f * t
      omega
    · rw [sum_mulI]
      exact Int.mul_le_mul_of_nonneg_left h4 (by omega)
theorem rowOk_top {m n : Nat} {t : Int} {cs : List Int} (h : rowOk m n (t :: cs) = true) : rowOk m n ((t + 1) :: cs) = true := by
  obtain ⟨h1, h2, h3, h4⟩ := rowOk_iff.mp h
  exact rowOk_iff.mpr ⟨h1, h2, by omega, by omega⟩
theorem rowOk_put {m n k : Nat} {t c : Int} {cs : List Int} (h : rowOk m n (t :: cs) = true) (hk : cs[k]? = some c) (i : inV (.int (k : Int)) ((lotOf n m).map V.int) = true) : rowOk m n ((t + 1) :: cs.set k (c + 1)) = true := by
  obtain ⟨h1, h2, h3, h4⟩ := rowOk_iff.mp h
  refine rowOk_iff.mpr ⟨by rw [List.length_set]; exact h1, fun j x hj => ?_, by omega, by rw [sum_set1 hk]; omega⟩
  by_cases e : k = j
  · subst e
    rw [List.getElem?_set_self (List.getElem?_eq_some_iff.mp hk).1] at hj
    cases hj
    have := (h2 k c hk).1
    exact ⟨by omega, fun _ => i⟩
  · rw [List.getElem?_set_ne e] at hj
    exact h2 j x hj
theorem gl_mul (g : Nat) (l : List Nat) : gl (l.map (g * ·)) = g * gl l := by
  have : ∀ (l : List Nat) (a : Nat), (l.map (g * ·)).foldl Nat.gcd (g * a) = g * l.foldl Nat.gcd a := by
    intro l
    induction l with
    | nil => exact fun _ => rfl
    | cons x r ih =>
      intro a
      show (r.map (g * ·)).foldl Nat.gcd (Nat.gcd (g * a) (g * x)) = g * r.foldl Nat.gcd (Nat.gcd a x)
      rw [Nat.gcd_mul_left, ih]
  exact this l 0
theorem divd_mul {g : Nat} (hg : 0 < g) (l : List Nat) : divd (l.map (g * ·)) = divd l := by
  unfold divd
  rw [gl_mul, List.map_map]
  exact List.map_congr_left fun n _ => Nat.mul_div_mul_left _ _ hg
theorem divI_mul {f : Int} (hf : 1 ≤ f) (l : List Nat) : divI ((cz l).map (f * ·)) = divI (cz l) := by
  obtain ⟨g, rfl⟩ : ∃ g : Nat, f = (g : Int) := ⟨f.toNat, by omega⟩
  have e : (cz l).map ((g : Int) * ·) = cz (l.map (g * ·)) := by
    unfold cz
    rw [List.map_map, List.map_map]
    exact List.map_congr_left fun n _ => (Int.natCast_mul g n).symm
  rw [e, divI_cz, divI_cz, divd_mul (by omega)]
theorem times_at {fs : List Int} {rows : List (List Int)} {i : Nat} {r : List Int} (h : (times fs rows)[i]? = some r) : ∃ f w, fs[i]? = some f ∧ rows[i]? = some w ∧ r = w.map (f * ·) := by
  unfold times at h
  rw [List.getElem?_zipWith] at h
  cases hf : fs[i]? with
  | none =>
    rw [hf] at h
    cases h
  | some f =>
    cases hw : rows[i]? with
    | none =>
      rw [hf, hw] at h
      cases h
    | some w =>
      rw [hf, hw] at h
      cases h
      exact ⟨f, w, rfl, rfl, rfl⟩
theorem times_len {fs : List Int} {rows : List (List Int)} (l : fs.length = rows.length) : (times fs rows).length = rows.length := by
  unfold times
  rw [List.length_zipWith]
  omega
theorem times_ok {m : Nat} {fs : List Int} {rows : List (List Int)} (b : ∀ x ∈ fs, 1 ≤ x ∧ x ≤ 6) (ok : ∀ (i : Nat) (r : List Int), rows[i]? = some r → rowOk m i r = true) : ∀ (i : Nat) (r : List Int), (times fs rows)[i]? = some r → rowOk m i r = true := fun i r h => by
  obtain ⟨f, w, h1, h2, rfl⟩ := times_at h
  exact rowOk_mul (b f (List.mem_of_getElem? h1)).1 (ok i w h2)
theorem times_bd {n : Nat} {B : Int} {fs : List Int} {rows : List (List Int)} (b : ∀ x ∈ fs, 1 ≤ x ∧ x ≤ 6) (bd : ∀ r ∈ rows, r.length = n ∧ ∀ x ∈ r, 0 ≤ x ∧ x ≤ B) : ∀ r ∈ times fs rows, r.length = n ∧ ∀ x ∈ r, 0 ≤ x ∧ x ≤ 6 * B := fun r h => by
  obtain ⟨i, hi⟩ := List.getElem?_of_mem h
  obtain ⟨f, w, h1, h2, rfl⟩ := times_at hi
  obtain ⟨l, k⟩ := bd w (List.mem_of_getElem? h2)
  have f6 := b f (List.mem_of_getElem? h1)
  refine ⟨by rw [List.length_map]; exact l, fun x hx => ?_⟩
  obtain ⟨y, hy, rfl⟩ := List.mem_map.mp hx
  obtain ⟨y0, yB⟩ := k y hy
  refine ⟨Int.mul_nonneg (by omega) y0, ?_⟩
  have h1 := Int.mul_le_mul_of_nonneg_right f6.2 y0
  show f * y ≤ 6 * B
  omega
theorem times_divI {fs : List Int} {rows : List (List Int)} (l : fs.length = rows.length) (b : ∀ x ∈ fs, 1 ≤ x ∧ x ≤ 6) (z : ∀ r ∈ rows, ∃ w, r = cz w) : (times fs rows).map divI = rows.map divI := by
  apply List.ext_getElem?
  intro i
  rw [List.getElem?_map, List.getElem?_map]
  by_cases hi : i < rows.length
  · have hi2 : i < (times fs rows).length := by
      rw [times_len l]
      exact hi
    have h1 : (times fs rows)[i]? = some (times fs rows)[i] := List.getElem?_eq_getElem hi2
    obtain ⟨f, w, h2, h3, e⟩ := times_at h1
    rw [h1, h3, e]
    obtain ⟨v, rfl⟩ := z w (List.mem_of_getElem? h3)
    exact congrArg some (divI_mul (b f (List.mem_of_getElem? h2)).1 v)
  · rw [List.getElem?_eq_none (by rw [times_len l]; omega), List.getElem?_eq_none (by omega)]
theorem dec_consI {α : Type} [DecidableEq α] (x y : α) (xs ys : List α) : (decide (x = y) && decide (xs = ys)) = decide (x :: xs = y :: ys) := by
  rw [← Bool.decide_and]
  exact decide_eq_decide.mpr ⟨fun ⟨a, b⟩ => by rw [a, b], fun h => by cases h; exact ⟨rfl, rfl⟩⟩
theorem ints_eqv : ∀ ns ms : List Int, PyData.eqvAll (ns.map PyData.int) (ms.map PyData.int) = decide (ns = ms)
  | [], [] => rfl
  | [], _ :: _ => rfl
  | _ :: _, [] => rfl
  | n :: ns, m :: ms => by
    show (PyData.eqv (.int n) (.int m) && PyData.eqvAll (ns.map PyData.int) (ms.map PyData.int)) = _
    rw [ints_eqv ns ms, show PyData.eqv (.int n) (.int m) = decide (n = m) from rfl, dec_consI]
theorem rowsL_eqv : ∀ xs ys : List (List Int), PyData.eqvAll (xs.map fun ws => .list (ws.map PyData.int)) (ys.map fun ws => .list (ws.map PyData.int)) = decide (xs = ys)
  | [], [] => rfl
  | [], _ :: _ => rfl
  | _ :: _, [] => rfl
  | n :: ns, m :: ms => by
    show (PyData.eqvAll (n.map PyData.int) (m.map PyData.int) && PyData.eqvAll (ns.map fun ws => .list (ws.map PyData.int)) (ms.map fun ws => .list (ws.map PyData.int))) = _
    rw [rowsL_eqv ns ms, ints_eqv, dec_consI]
theorem rowsT_eqv : ∀ xs ys : List (List Int), PyData.eqvAll (xs.map fun ws => .tuple (ws.map PyData.int)) (ys.map fun ws => .tuple (ws.map PyData.int)) = decide (xs = ys)
  | [], [] => rfl
  | [], _ :: _ => rfl
  | _ :: _, [] => rfl
  | n :: ns, m :: ms => by
    show (PyData.eqvAll (n.map PyData.int) (m.map PyData.int) && PyData.eqvAll (ns.map fun ws => .tuple (ws.map PyData.int)) (ms.map fun ws => .tuple (ws.map PyData.int))) = _
    rw [rowsT_eqv ns ms, ints_eqv, dec_consI]
theorem eqv_L (xs ys : List (List Int)) : PyData.eqv (.list (xs.map fun ws => .list (ws.map PyData.int))) (.list (ys.map fun ws => .list (ws.map PyData.int))) = decide (xs = ys) := rowsL_eqv xs ys
theorem eqv_T (xs ys : List (List Int)) : PyData.eqv (.tuple (xs.map fun ws => .tuple (ws.map PyData.int))) (.tuple (ys.map fun ws => .tuple (ws.map PyData.int))) = decide (xs = ys) := rowsT_eqv xs ys
theorem RowsL.setU {H : Hp} {us : List Addr} {rows : List (List Int)} {k : Nat} {u : Addr} {r : List Int} (h : RowsL H us rows) (nd : us.Nodup) (hu : us[k]? = some u) : RowsL (upd H u (.lst (r.map V.int))) us (rows.set k r) := by
  have lk := (List.getElem?_eq_some_iff.mp hu).1
  refine ⟨by rw [List.length_set]; exact h.1, fun j v x h1 h2 => ?_⟩
  by_cases e : k = j
  · subst e
    rw [List.getElem?_set_self (by have := h.1; omega)] at h2
    cases h2
    rw [hu] at h1
    cases h1
    exact upd_same
  · rw [List.getElem?_set_ne e] at h2
    have ne : v ≠ u := fun z => by
      subst z
      exact e ((List.getElem?_inj lk nd).mp (hu.trans h1.symm))
    exact (upd_ne ne).trans (h.2 j v x h1 h2)
def rListOf (K : PySem.W.Frag) : List V → Hp → VK → Prop := fun xs H Q => ∃ p ys, xs = [V.ref p] ∧ (SqL K H p ys ∨ SqT K H p ys) ∧ ∀ l, H l = none → Q (.ref l) (upd H l (.lst ys))

theorem RowsL.uncons {H : Hp} {r : Addr} {rs : List Addr} {w : List Int} {rws : List (List Int)} (h : RowsL H (r :: rs) (w :: rws)) : H r = some (.lst (w.map V.int)) ∧ RowsL H rs rws := ⟨h.2 0 r w rfl rfl, Nat.succ.inj h.1, fun i u ws h1 h2 => h.2 (i + 1) u ws h1 h2⟩
theorem dp_all {K : PySem.W.Frag} {H : Hp} : ∀ {rs : List Addr} {rws : List (List Int)}, RowsL H rs rws → DpAll K H (rs.map V.ref) (rws.map fun ws => .list (ws.map PyData.int))
  | [], [], _ => .nil
  | [], _ :: _, h => by cases h.1
  | _ :: _, [], h => by cases h.1
  | r :: rs, w :: rws, h => .cons (dp_ints (lst_l h.uncons.1)) (dp_all h.uncons.2)
theorem lay_rows : ∀ rws : List (List Int), PyData.canLayAll0 (rws.map fun ws => .list (ws.map PyData.int)) = true
  | [] => rfl
  | w :: r => by
    show ((PyData.list (w.map PyData.int)).canLay0 && PyData.canLayAll0 (r.map fun ws => .list (ws.map PyData.int))) = true
    rw [lay_rows r, show (PyData.list (w.map PyData.int)).canLay0 = true from lay_ints w]
    rfl
theorem depth_rows : ∀ rws : List (List Int), PyData.depthAll (rws.map fun ws => .list (ws.map PyData.int)) ≤ 1
  | [] => Nat.zero_le _
  | w :: r => by
    show max (PyData.depth (.list (w.map PyData.int))) (PyData.depthAll (r.map fun ws => .list (ws.map PyData.int))) ≤ 1
    rw [depth_ints w]
    exact Nat.max_le.mpr ⟨Nat.le_refl _, depth_rows r⟩
theorem sh_ints (ns : List Int) : SeqAt.shaped (.list (ns.map PyData.int)) = true := by
  unfold SeqAt.shaped
  rw [show (PyData.list (ns.map PyData.int)).canLay0 = true from lay_ints ns, depth_ints ns]
  rfl
theorem sh_rows (rws : List (List Int)) : SeqAt.shaped (.list (rws.map fun ws => .list (ws.map PyData.int))) = true := by
  unfold SeqAt.shaped
  rw [show (PyData.list (rws.map fun ws => .list (ws.map PyData.int))).canLay0 = true from lay_rows rws]
  have : PyData.depth (.list (rws.map fun ws => .list (ws.map PyData.int))) ≤ 64 := by
    show PyData.depthAll _ + 1 ≤ 64
    have := depth_rows rws
    omega
  rw [decide_eq_true this]
  rfl
theorem RowsL.drop1 {H : Hp} {us : List Addr} {rows : List (List Int)} (h : RowsL H us rows) : RowsL H (us.drop 1) (rows.drop 1) := ⟨by rw [List.length_drop, List.length_drop, h.1], fun i u r h1 h2 => by
  rw [List.getElem?_drop] at h1 h2
  exact h.2 _ u r h1 h2⟩
theorem dp_tints {K : PySem.W.Frag} {H : Hp} {a : Addr} {ns : List Int} (h : SqT K H a (ns.map V.int)) : Dp K H (.ref a) (.tuple (ns.map PyData.int)) := by
  refine .tup h ?_
  clear h
  induction ns with
  | nil => exact .nil
  | cons n r ih => exact .cons (.int n) ih

theorem RowsT.uncons {H : Hp} {r : Addr} {rs : List Addr} {w : List Int} {rws : List (List Int)} (h : RowsT H (r :: rs) (w :: rws)) : H r = some (.tup (w.map V.int)) ∧ RowsT H rs rws := ⟨h.2 0 r w rfl rfl, Nat.succ.inj h.1, fun i u ws h1 h2 => h.2 (i + 1) u ws h1 h2⟩
theorem dp_allT {K : PySem.W.Frag} {H : Hp} : ∀ {rs : List Addr} {rws : List (List Int)}, RowsT H rs rws → DpAll K H (rs.map V.ref) (rws.map fun ws => .tuple (ws.map PyData.int))
  | [], [], _ => .nil
  | [], _ :: _, h => by cases h.1
  | _ :: _, [], h => by cases h.1
  | r :: rs, w :: rws, h => .cons (dp_tints (tup_t h.uncons.1)) (dp_allT h.uncons.2)
theorem lay_rowsT : ∀ rws : List (List Int), PyData.canLayAll0 (rws.map fun ws => .tuple (ws.map PyData.int)) = true
  | [] => rfl
  | w :: r => by
    show ((PyData.tuple (w.map PyData.int)).canLay0 && PyData.canLayAll0 (r.map fun ws => .tuple (ws.map PyData.int))) = true
    rw [lay_rowsT r, show (PyData.tuple (w.map PyData.int)).canLay0 = true from lay_ints w]
    rfl
theorem depth_rowsT : ∀ rws : List (List Int), PyData.depthAll (rws.map fun ws => .tuple (ws.map PyData.int)) ≤ 1
  | [] => Nat.zero_le _
  | w :: r => by
    show max (PyData.depth (.tuple (w.map PyData.int))) (PyData.depthAll (r.map fun ws => .tuple (ws.map PyData.int))) ≤ 1
    rw [show PyData.depth (.tuple (w.map PyData.int)) = 1 from depth_ints w]
    exact Nat.max_le.mpr ⟨Nat.le_refl _, depth_rowsT r⟩
theorem sh_rowsT (rws : List (List Int)) : SeqAt.shaped (.tuple (rws.map fun ws => .tuple (ws.map PyData.int))) = true := by
  unfold SeqAt.shaped
  rw [show (PyData.tuple (rws.map fun ws => .tuple (ws.map PyData.int))).canLay0 = true from lay_rowsT rws]
  have : PyData.depth (.tuple (rws.map fun ws => .tuple (ws.map PyData.int))) ≤ 64 := by
    show PyData.depthAll _ + 1 ≤ 64
    have := depth_rowsT rws
    omega
  rw [decide_eq_true this]
  rfl
/-! ### comparisons of an own class -/
section
variable {prog : Program} {w : World} {A : Around} {E : Value → Shared → Prop} {s : Shared} {K : PySem.W.Frag}
/-- n op a: the int's own comparison declines, then a's mirrored one is asked -/
theorem cmp_refl {op : CmpOp} {id nm : String} {g : Int → Int → Sem Fin} {n : Int} {t : Tok} {a C dx f : Addr} {od : Option Obj} {Q : Value → Shared → Prop} (hu : A.units < cLine) (X : K.In s.heap) (ha : s.heap.get? a = some (PySem.W.instObj C dx))
    (J : PySem.W.InstAt s.heap a (PySem.W.instObj C dx) C od) (slot : Slot "int" (cmpInfo op).2.1 id) (entry : entryFor table id = some (Builtin.Int.intBinary nm g)) (args : argsOk id ⟨[.int n t, .ref a], []⟩) (sub : PySem.W.subIn K (.ref C) (.type "int") = some false)
    (hr : PySem.W.findIn K (.ref C) (cmpInfo op).2.2 = some (some (.ref f))) (hf : PySem.W.isFn K (.ref f) = true) (one : oneThing? op (.int n t) (.ref a) = none)
    (h : wpAny (model prog w) A (call (.ref f) [.ref a, .int n t]) (PySem.W.CmpBack Q) E s) : wpAny (model prog w) A (richCompare op (.int n t) (.ref a)) Q E s := by
  have back : wpAny (model prog w) A (tryCompare (.ref a) (cmpInfo op).2.2 (.int n t)) (fun r s' => ∃ v, r = some v ∧ Q v s') E s := by
    unfold tryCompare
    refine wpAny_bind (PySem.W.ifBound_K X J hr hf (wpAny_mono h (fun v s' z => ?_) fun _ _ z => z))
    cases v <;> first
      | exact z.elim
      | exact wpAny_pure ⟨_, rfl, z⟩
  rcases hi : cmpInfo op with ⟨sym, fw, bw⟩
  rw [hi] at slot back
  dsimp only at slot back
  have ne : (Value.type "int" != Value.ref C) = true := by
    rw [bne, Bool.not_eq_true']
    exact Bool.eq_false_iff.mpr fun z => by cases beq_iff_eq.mp z
  unfold richCompare
  simp only [one, hi]
  refine wpAny_holding (wpAny_bind (wpAny_cRoomFor hu ?_))
  refine wpAny_bind (wpAny_typeOf (T := "int") (by exact rfl) (wpAny_bind (J.type.here ?_)))
  simp only [ne, if_true]
  refine wpAny_bind ((PySem.W.looks_subIn X sub).here ?_)
  simp only [Bool.false_eq_true, if_false, Bool.not_false, if_true]
  refine wpAny_bind (wpAny_tryCompare_declines (T := "int") (by exact rfl) slot (declines_bin ha slot entry args ⟨rfl, ?_⟩))
  dsimp only
  refine wpAny_bind (wpAny_mono back (fun r s' z => ?_) fun _ _ z => z)
  obtain ⟨v, rfl, q⟩ := z
  exact wpAny_pure q
end
section
variable {X : Cx} {CX : CXT} {k j : Nat} {f g C : Addr} {fd gd : FuncData} {ps qs : List Str} {sp sq : Sp} {E : XK}
/-- x op y by the class's comparison, or, where x is an int, by the mirrored one -/
def rCmp (C : Addr) (sp sq : Sp) (E : XK) : R2 := fun x y H Q => rOwn C sp E x y H Q ∨ rRef C sq E x y H Q
theorem op_cmp {op : CmpOp} {id nm : String} {gg : Int → Int → Sem Fin} (M : Meth X.K C (cmpInfo op).2.1 f) (N : Meth X.K C (cmpInfo op).2.2 g) (si : PySem.W.subIn X.K (.type "int") (.ref C) = some false) (sr : PySem.W.subIn X.K (.ref C) (.type "int") = some false)
    (slot : Slot "int" (cmpInfo op).2.1 id) (entry : entryFor table id = some (Builtin.Int.intBinary nm gg)) (args : ∀ a b, argsOk id ⟨[a, b], []⟩) (one : ∀ n t a, oneThing? op (.int n t) (.ref a) = none)
    (is : ∀ a b : Value, compareOp op a b = richCompare op a b)
    (G : FnOk X.prog X.w X.K X.mg X.base CX k f fd ps sp) (G2 : FnOk X.prog X.w X.K X.mg X.base CX j g gd qs sq) (room : Room k X.A) (room2 : Room j X.A) (bd : Binds X.K fd ps []) (bd2 : Binds X.K gd qs []) (out : Passes CX X E) : OpR X (compareOp op) (rCmp C sp sq E) := by
  intro pins s σ H x y v u Q I rx ry h
  rw [is]
  obtain ⟨m, F⟩ := I.fr
  rcases h with ⟨⟨a, dx, fs, rfl, ha⟩, hy, h⟩ | ⟨⟨n, rfl⟩, ⟨a, dx, fs, rfl, ha⟩, h⟩
  · cases (show v = Value.ref a from rx)
    obtain ⟨_, od, J⟩ := inst_of I ha
    have ran : wpAny (model X.prog X.w) X.A (call (.ref f) [.ref a, u]) (PySem.W.CmpBack (EP X pins σ Q)) X.xe s :=
      wpAny_mono (run_fn (ds := []) G room bd .nil out I (.cons (show L2.RelV (.ref a) (.ref a) from rfl) (.cons ry .nil)) h) (fun _ _ z => ep_back z) fun _ _ z => z
    rcases hy with ⟨b, dy, gs, rfl, hb⟩ | ⟨n, rfl⟩
    · cases (show u = Value.ref b from ry)
      obtain ⟨_, od', J'⟩ := inst_of I hb
      exact PySem.W.cmp_K room.units0 F I.ok.mod.kin J J'.type (by unfold PySem.W.notFirst; rw [beq_self_eq_true]; rfl) M.at_ M.fn ran
    · obtain ⟨t, rfl⟩ := (show ∃ t, u = Value.int n t from ry)
      exact PySem.W.cmp_K (tb := .type "int") room.units0 F I.ok.mod.kin J (PySem.W.Looks.of_pure rfl) (by unfold PySem.W.notFirst; rw [si]; simp) M.at_ M.fn ran
  · cases (show u = Value.ref a from ry)
    obtain ⟨t, rfl⟩ := (show ∃ t, v = Value.int n t from rx)
    obtain ⟨ho, od, J⟩ := inst_of I ha
    have ran : wpAny (model X.prog X.w) X.A (call (.ref g) [.ref a, .int n t]) (PySem.W.CmpBack (EP X pins σ Q)) X.xe s :=
      wpAny_mono (run_fn (ds := []) G2 room2 bd2 .nil out I (.cons (show L2.RelV (.ref a) (.ref a) from rfl) (.cons rx .nil)) h) (fun _ _ z => ep_back z) fun _ _ z => z
    exact cmp_refl room.units0 I.kIn ho J slot entry (args _ _) sr N.at_ N.fn (one n t a) ran
theorem dc_lt : (cmpInfo .Lt).2.1 = ("__lt__" : Str) := by decide +kernel
theorem dm_lt : (cmpInfo .Lt).2.2 = ("__gt__" : Str) := by decide +kernel
theorem op_cmp_Lt (M : Meth X.K C "__lt__" f) (N : Meth X.K C "__gt__" g) (si : PySem.W.subIn X.K (.type "int") (.ref C) = some false) (sr : PySem.W.subIn X.K (.ref C) (.type "int") = some false)
    (G : FnOk X.prog X.w X.K X.mg X.base CX k f fd ps sp) (G2 : FnOk X.prog X.w X.K X.mg X.base CX j g gd qs sq) (room : Room k X.A) (room2 : Room j X.A) (bd : Binds X.K fd ps []) (bd2 : Binds X.K gd qs []) (out : Passes CX X E) : OpR X (compareOp .Lt) (rCmp C sp sq E) :=
  op_cmp (op := .Lt) (by rw [dc_lt]; exact M) (by rw [dm_lt]; exact N) si sr PySem.F.slot_int_lt PySem.F.entry_int_lt PySem.F.args_int_lt_2 (fun _ _ _ => by rfl) (fun _ _ => rfl) G G2 room room2 bd bd2 out
theorem dc_le : (cmpInfo .LtE).2.1 = ("__le__" : Str) := by decide +kernel
theorem dm_le : (cmpInfo .LtE).2.2 = ("__ge__" : Str) := by decide +kernel
theorem op_cmp_LtE (M : Meth X.K C "__le__" f) (N : Meth X.K C "__ge__" g) (si : PySem.W.subIn X.K (.type "int") (.ref C) = some false) (sr : PySem.W.subIn X.K (.ref C) (.type "int") = some false)
    (G : FnOk X.prog X.w X.K X.mg X.base CX k f fd ps sp) (G2 : FnOk X.prog X.w X.K X.mg X.base CX j g gd qs sq) (room : Room k X.A) (room2 : Room j X.A) (bd : Binds X.K fd ps []) (bd2 : Binds X.K gd qs []) (out : Passes CX X E) : OpR X (compareOp .LtE) (rCmp C sp sq E) :=
  op_cmp (op := .LtE) (by rw [dc_le]; exact M) (by rw [dm_le]; exact N) si sr PySem.F.slot_int_le PySem.F.entry_int_le PySem.F.args_int_le_2 (fun _ _ _ => by rfl) (fun _ _ => rfl) G G2 room room2 bd bd2 out
theorem dc_gt : (cmpInfo .Gt).2.1 = ("__gt__" : Str) := by decide +kernel
theorem dm_gt : (cmpInfo .Gt).2.2 = ("__lt__" : Str) := by decide +kernel
theorem op_cmp_Gt (M : Meth X.K C "__gt__" f) (N : Meth X.K C "__lt__" g) (si : PySem.W.subIn X.K (.type "int") (.ref C) = some false) (sr : PySem.W.subIn X.K (.ref C) (.type "int") = some false)
    (G : FnOk X.prog X.w X.K X.mg X.base CX k f fd ps sp) (G2 : FnOk X.prog X.w X.K X.mg X.base CX j g gd qs sq) (room : Room k X.A) (room2 : Room j X.A) (bd : Binds X.K fd ps []) (bd2 : Binds X.K gd qs []) (out : Passes CX X E) : OpR X (compareOp .Gt) (rCmp C sp sq E) :=
  op_cmp (op := .Gt) (by rw [dc_gt]; exact M) (by rw [dm_gt]; exact N) si sr PySem.F.slot_int_gt PySem.F.entry_int_gt PySem.F.args_int_gt_2 (fun _ _ _ => by rfl) (fun _ _ => rfl) G G2 room room2 bd bd2 out
theorem dc_ge : (cmpInfo .GtE).2.1 = ("__ge__" : Str) := by decide +kernel
theorem dm_ge : (cmpInfo .GtE).2.2 = ("__le__" : Str) := by decide +kernel
theorem op_cmp_GtE (M : Meth X.K C "__ge__" f) (N : Meth X.K C "__le__" g) (si : PySem.W.subIn X.K (.type "int") (.ref C) = some false) (sr : PySem.W.subIn X.K (.ref C) (.type "int") = some false)
    (G : FnOk X.prog X.w X.K X.mg X.base CX k f fd ps sp) (G2 : FnOk X.prog X.w X.K X.mg X.base CX j g gd qs sq) (room : Room k X.A) (room2 : Room j X.A) (bd : Binds X.K fd ps []) (bd2 : Binds X.K gd qs []) (out : Passes CX X E) : OpR X (compareOp .GtE) (rCmp C sp sq E) :=
  op_cmp (op := .GtE) (by rw [dc_ge]; exact M) (by rw [dm_ge]; exact N) si sr PySem.F.slot_int_ge PySem.F.entry_int_ge PySem.F.args_int_ge_2 (fun _ _ _ => by rfl) (fun _ _ => rfl) G G2 room room2 bd bd2 out
theorem dc_eq : (cmpInfo .Eq).2.1 = ("__eq__" : Str) := by decide +kernel
theorem dm_eq : (cmpInfo .Eq).2.2 = ("__eq__" : Str) := by decide +kernel
theorem op_cmp_Eq (M : Meth X.K C "__eq__" f) (N : Meth X.K C "__eq__" g) (si : PySem.W.subIn X.K (.type "int") (.ref C) = some false) (sr : PySem.W.subIn X.K (.ref C) (.type "int") = some false)
    (G : FnOk X.prog X.w X.K X.mg X.base CX k f fd ps sp) (G2 : FnOk X.prog X.w X.K X.mg X.base CX j g gd qs sq) (room : Room k X.A) (room2 : Room j X.A) (bd : Binds X.K fd ps []) (bd2 : Binds X.K gd qs []) (out : Passes CX X E) : OpR X (compareOp .Eq) (rCmp C sp sq E) :=
  op_cmp (op := .Eq) (by rw [dc_eq]; exact M) (by rw [dm_eq]; exact N) si sr PySem.F.slot_int_eq PySem.F.entry_int_eq PySem.F.args_int_eq_2 (fun _ _ _ => by rfl) (fun _ _ => rfl) G G2 room room2 bd bd2 out
end

/-! ### bool(a) by the class's own -/
section
variable {prog : Program} {w : World}
theorem bool_new_in (x : Value) : MeetsIn prog w (Builtin.«bool.__new__» ⟨[.type "bool", x], []⟩) (fun A R s => wpAny (model prog w) A.in1 (truthy x) (fun b s' => R (.ok (.ret (.bool b))) s') (fun e s' => R (.error e) s') s) :=
  .of_wp fun A R s h => by
    obtain ⟨hp, g, d, tk, os⟩ := s
    have f1 := F.conv_sub_bool
    repeat (any_goals (first
      | assumption
      | (with_reducible refine wpAny_mono h (fun b s' z => ?_) fun _ _ z => z)
      | wp_step))
    all_goals first
      | exact ⟨_, rfl, z⟩
      | skip
end
section
variable {X : Cx} {CX : CXT} {k : Nat} {f C : Addr} {fd : FuncData} {ps : List Str} {sp : Sp} {E : XK}
def rBoolO (C : Addr) (sp : Sp) (E : XK) : List V → Hp → VK → Prop := fun xs H Q => ∃ a dx fs, xs = [.ref a] ∧ H a = some (.ins C dx fs) ∧ sp [.ref a] H (fun v H' => ∃ b, v = .bl b ∧ Q (.bl b) H') E
theorem call_boolO (M : Meth X.K C "__bool__" f) (G : FnOk X.prog X.w X.K X.mg X.base CX k f fd ps sp) (room : Room (k + 2) X.A) (bd : Binds X.K fd ps []) (out : Passes CX X E) : CallR X (.type "bool") (rBoolO C sp E) := by
  intro pins s σ H xs us Q I r h
  obtain ⟨a, dx, fs, rfl, ha, h⟩ := h
  obtain ⟨u, rfl, rx⟩ := vals1 r
  cases (show u = Value.ref a from rx)
  obtain ⟨_, od, J⟩ := inst_of I ha
  obtain ⟨m, F⟩ := I.fr
  refine callType_newIn PySem.F.called_bool PySem.F.newNe_bool (PySem.F.typeCall_bool_1 _) (PySem.F.newCall_bool_1 _) (fun obj => PySem.F.args_object_init_2 obj _) PySem.F.entry_bool_new (bool_new_in (.ref a)) ?_
  refine PySem.W.truthy_K F I.ok.mod.kin J M.at_ M.fn (wpAny_mono (run_in (B := X.A.in1.in1) G (room.in1.in1) rfl bd out I (.cons (show L2.RelV (.ref a) (.ref a) from rfl) .nil) h) (fun v s' z => ?_) fun _ _ z => z)
  obtain ⟨v', H', I', rv, b, rfl, q⟩ := z
  cases (show v = Value.bool b from rv)
  exact ⟨rfl, .bl b, H', I', rfl, q⟩
end
theorem badT_none {m : Nat} : ∀ {rows : List (List Int)} {i : Nat}, (∀ (j : Nat) (r : List Int), rows[j]? = some r → rowOk m (i + j) r = true) → badT m rows i = none
  | [], _, _ => rfl
  | x :: rs, i, h => by
    have h0 := h 0 x rfl
    rw [Nat.add_zero] at h0
    rw [badT_ok h0]
    refine badT_none fun j r hj => ?_
    have := h (j + 1) r hj
    rw [show i + 1 + j = i + (j + 1) by omega]
    exact this
theorem made_all {m : Nat} {rows : List (List Int)} (hm : m ≤ 6) (l : rows.length = 2 ^ m) (h : ∀ (j : Nat) (r : List Int), rows[j]? = some r → rowOk m j r = true) : dueT m rows = .made := by
  rw [dueT_rest (by omega) l, badT_none fun j r hj => by
    rw [Nat.zero_add]
    exact h j r hj]

theorem TAt.put {C D p : Addr} {H : Hp} {xs : List V} {o : HO} {m : Int} {rows : List (List Int)} (hD : H D = some (.lst xs)) (h : TAt C H p m rows) : TAt C (upd H D o) p m rows := by
  obtain ⟨dx, t, us, h1, h2, h3⟩ := h
  have n1 : p ≠ D := fun z => by
    rw [z, hD] at h1
    cases h1
  have n2 : t ≠ D := fun z => by
    rw [z, hD] at h2
    cases h2
  exact ⟨dx, t, us, (upd_ne n1).trans h1, (upd_ne n2).trans h2, h3.put hD⟩
/-- good rows, none of whose numbers is too large -/
def GoodR (m : Nat) (B : Int) (rs : List (List Int)) : Prop := rs.length = 2 ^ m ∧ (∀ (i : Nat) (r : List Int), rs[i]? = some r → rowOk m i r = true) ∧ ∀ r ∈ rs, r.length = m + 1 ∧ ∀ x ∈ r, 0 ≤ x ∧ x ≤ B
theorem GoodR.le {m : Nat} {B C : Int} {rs : List (List Int)} (h : B ≤ C) (g : GoodR m B rs) : GoodR m C rs := ⟨g.1, g.2.1, fun r hr => ⟨(g.2.2 r hr).1, fun x hx => by
  have := (g.2.2 r hr).2 x hx
  omega⟩⟩
theorem GoodR.nats {m : Nat} {B : Int} {rs : List (List Int)} (g : GoodR m B rs) : ∀ r ∈ rs, ∃ w, r = cz w := fun r hr => by
  obtain ⟨i, hi⟩ := List.getElem?_of_mem hr
  obtain ⟨b, ws, e, _⟩ := row_nats (g.2.1 i r hi)
  exact ⟨_, e⟩
theorem GoodR.form {m : Nat} {B : Int} {rs : List (List Int)} (hm : m ≤ 60) (hB : B ≤ 10 ^ 19) (g : GoodR m B rs) : ∀ r ∈ rs, ∃ (b : Nat) (ws : List Nat), r = cz (b :: ws) ∧ 0 < b ∧ (∀ w ∈ b :: ws, w ≤ 10 ^ 19) ∧ ws.length ≤ 60 := fun r hr => by
  obtain ⟨i, hi⟩ := List.getElem?_of_mem hr
  obtain ⟨b, ws, e, b0, wl⟩ := row_nats (g.2.1 i r hi)
  refine ⟨b, ws, e, b0, fun w hw => ?_, by omega⟩
  have := ((g.2.2 r hr).2 (w : Int) (by
    rw [e]
    exact List.mem_map.mpr ⟨w, hw, rfl⟩)).2
  omega
theorem GoodR.wide {m : Nat} {B : Int} {rs : List (List Int)} (hm : m ≤ 6) (hB : B ≤ 10 ^ 19) (g : GoodR m B rs) : ∀ r ∈ rs, r.length ≤ 60 ∧ ∀ x ∈ r, x < 2 ^ 90 := fun r hr => by
  obtain ⟨h1, h2⟩ := g.2.2 r hr
  refine ⟨by omega, fun x hx => ?_⟩
  have := h2 x hx
  omega
theorem GoodR.mul {m : Nat} {B : Int} {fs : List Int} {rs : List (List Int)} (l : fs.length = rs.length) (b : ∀ x ∈ fs, 1 ≤ x ∧ x ≤ 6) (g : GoodR m B rs) : GoodR m (6 * B) (times fs rs) := ⟨(times_len l).trans g.1, times_ok b g.2.1, times_bd b g.2.2⟩
theorem lotOf_0 : ∀ m : Nat, lotOf 0 m = []
  | 0 => rfl
  | m + 1 => by
    show lotOf 0 m ++ (if (0 : Int) / 2 ^ m % 2 = 1 then [(m : Int)] else []) = []
    rw [lotOf_0 m, Int.zero_ediv, if_neg (by decide)]
    rfl
theorem row0 {m : Nat} {B : Int} {rs : List (List Int)} (hB : B ≤ 10 ^ 19) (g : GoodR m B rs) : ∃ (t : Int) (cs : List Int), (rs.map divI)[0]? = some (t :: cs) ∧ 0 < t ∧ Sm t ∧ cs.length = m ∧ ∀ c ∈ cs, c = 0 := by
  have l : 0 < rs.length := by
    rw [g.1]
    exact Nat.pow_pos (by decide)
  have h0 : rs[0]? = some rs[0] := List.getElem?_eq_getElem l
  have bd := g.2.2 _ (List.mem_of_getElem? h0)
  have ok := g.2.1 0 _ h0
  obtain ⟨b, ws, e, b0, wl⟩ := row_nats ok
  rw [e] at ok
  obtain ⟨_, h2, _, _⟩ := rowOk_iff.mp (show rowOk m 0 ((b : Int) :: cz ws) = true from ok)
  have gp : 0 < gl (b :: ws) := gl_pos b0
  refine ⟨((b / gl (b :: ws) : Nat) : Int), cz (ws.map (· / gl (b :: ws))), ?_, ?_, ?_, ?_, fun c hc => ?_⟩
  · rw [List.getElem?_map, h0, e]
    exact congrArg some (divI_cz (b :: ws))
  · have := Nat.div_pos (Nat.le_of_dvd b0 (gl_dvd (l := b :: ws) List.mem_cons_self)) gp
    omega
  · have h1 : b / gl (b :: ws) ≤ b := Nat.div_le_self _ _
    have h3 := (bd.2 (b : Int) (by rw [e]; exact List.mem_cons_self)).2
    exact sm_of (n := 70) (by
      have : b / gl (b :: ws) ≤ 10 ^ 19 := by omega
      exact Nat.lt_of_le_of_lt this (by decide))
  · rw [cz_len, List.length_map]
    exact wl
  · unfold cz at hc
    obtain ⟨n, hn, rfl⟩ := List.mem_map.mp hc
    obtain ⟨w, hw, rfl⟩ := List.mem_map.mp hn
    obtain ⟨k, hk⟩ := List.getElem?_of_mem hw
    have z := (h2 k (w : Int) (by
      unfold cz
      rw [List.getElem?_map, hk]
      rfl)).2
    rcases Nat.eq_zero_or_pos w with rfl | p
    · rw [Nat.zero_div]
      rfl
    · have := z (by omega)
      rw [show ((0 : Nat) : Int) = 0 from rfl, lotOf_0] at this
      cases this
/-- what the top has written of the classes -/
structure Txt (K : PySem.W.Frag) (mg : Str → Option Value) (C_Tabled C_Ratio C_TooMany C_BadTable C_ZeroBottom C_BadLot : Addr) : Prop where
  g_Tabled : mg "Tabled" = some (.ref C_Tabled)
  kc_Tabled : PySem.W.keepIn K (.ref C_Tabled) = true
  hd_Tabled : PySem.W.hasDictIn K C_Tabled = true
  ha_Tabled : PySem.W.findIn K (.ref C_Tabled) "__class__" = some (some (.builtin "object.__class__"))
  hm_Tabled : PySem.W.mroIn K C_Tabled (.type "object") = some true
  cl_Tabled : Cls K C_Tabled
  mk_Tabled : PySem.W.makesIn K C_Tabled = true
  n_Tabled_many : NoAttr K C_Tabled "many"
  n_Tabled_rows : NoAttr K C_Tabled "rows"
  sf_Tabled : PySem.W.selfFirst K C_Tabled = true
  si_Tabled : PySem.W.subIn K (.type "int") (.ref C_Tabled) = some false
  sr_Tabled : PySem.W.subIn K (.ref C_Tabled) (.type "int") = some false
  g_Ratio : mg "Ratio" = some (.ref C_Ratio)
  kc_Ratio : PySem.W.keepIn K (.ref C_Ratio) = true
  hd_Ratio : PySem.W.hasDictIn K C_Ratio = true
  ha_Ratio : PySem.W.findIn K (.ref C_Ratio) "__class__" = some (some (.builtin "object.__class__"))
  hm_Ratio : PySem.W.mroIn K C_Ratio (.type "object") = some true
  cl_Ratio : Cls K C_Ratio
  mk_Ratio : PySem.W.makesIn K C_Ratio = true
  n_Ratio_top : NoAttr K C_Ratio "top"
  n_Ratio_bottom : NoAttr K C_Ratio "bottom"
  sum_Ratio : SumC K C_Ratio
  sf_Ratio : PySem.W.selfFirst K C_Ratio = true
  si_Ratio : PySem.W.subIn K (.type "int") (.ref C_Ratio) = some false
  sr_Ratio : PySem.W.subIn K (.ref C_Ratio) (.type "int") = some false
  rf_Ratio_add : ∃ rc : Option Value, PySem.W.findIn K (.ref C_Ratio) "__radd__" = some rc ∧ (rc = none ∨ ∃ g : Addr, rc = some (.ref g))
  of_Ratio_add : ∃ f0 : Addr, PySem.W.findIn K (.ref C_Ratio) "__add__" = some (some (.ref f0))
  int_add : ∃ fo ro : Option Value, PySem.W.findIn K (.type "int") "__add__" = some fo ∧ PySem.W.findIn K (.type "int") "__radd__" = some ro
  rf_Ratio_sub : ∃ rc : Option Value, PySem.W.findIn K (.ref C_Ratio) "__rsub__" = some rc ∧ (rc = none ∨ ∃ g : Addr, rc = some (.ref g))
  of_Ratio_sub : ∃ f0 : Addr, PySem.W.findIn K (.ref C_Ratio) "__sub__" = some (some (.ref f0))
  int_sub : ∃ fo ro : Option Value, PySem.W.findIn K (.type "int") "__sub__" = some fo ∧ PySem.W.findIn K (.type "int") "__rsub__" = some ro
  g_TooMany : mg "TooMany" = some (.ref C_TooMany)
  kc_TooMany : PySem.W.keepIn K (.ref C_TooMany) = true
  hd_TooMany : PySem.W.hasDictIn K C_TooMany = true
  ha_TooMany : PySem.W.findIn K (.ref C_TooMany) "__class__" = some (some (.builtin "object.__class__"))
  hm_TooMany : PySem.W.mroIn K C_TooMany (.type "object") = some true
  b_TooMany : PySem.W.subIn K (.ref C_TooMany) (.type "BaseException") = some true
  t_TooMany : PySem.W.typeIn K (.ref C_TooMany) = some (.type "type")
  ga_TooMany : PySem.W.findIn K (.ref C_TooMany) "__getattribute__" = some (some (.builtin "BaseException.__getattribute__"))
  gg_TooMany : PySem.W.findIn K (.ref C_TooMany) "__getattr__" = some none
  ox_TooMany : OexC K C_TooMany
  xf_TooMany : XfC K C_TooMany
  n_TooMany_many : PySem.W.findIn K (.ref C_TooMany) "many" = some none
  n_TooMany_most : PySem.W.findIn K (.ref C_TooMany) "most" = some none
  g_BadTable : mg "BadTable" = some (.ref C_BadTable)
  kc_BadTable : PySem.W.keepIn K (.ref C_BadTable) = true
  hd_BadTable : PySem.W.hasDictIn K C_BadTable = true
  ha_BadTable : PySem.W.findIn K (.ref C_BadTable) "__class__" = some (some (.builtin "object.__class__"))
  hm_BadTable : PySem.W.mroIn K C_BadTable (.type "object") = some true
  b_BadTable : PySem.W.subIn K (.ref C_BadTable) (.type "BaseException") = some true
  t_BadTable : PySem.W.typeIn K (.ref C_BadTable) = some (.type "type")
  ga_BadTable : PySem.W.findIn K (.ref C_BadTable) "__getattribute__" = some (some (.builtin "BaseException.__getattribute__"))
  gg_BadTable : PySem.W.findIn K (.ref C_BadTable) "__getattr__" = some none
  ox_BadTable : OexC K C_BadTable
  xf_BadTable : XfC K C_BadTable
  n_BadTable_at : PySem.W.findIn K (.ref C_BadTable) "at" = some none
  g_ZeroBottom : mg "ZeroBottom" = some (.ref C_ZeroBottom)
  kc_ZeroBottom : PySem.W.keepIn K (.ref C_ZeroBottom) = true
  hd_ZeroBottom : PySem.W.hasDictIn K C_ZeroBottom = true
  ha_ZeroBottom : PySem.W.findIn K (.ref C_ZeroBottom) "__class__" = some (some (.builtin "object.__class__"))
  hm_ZeroBottom : PySem.W.mroIn K C_ZeroBottom (.type "object") = some true
  b_ZeroBottom : PySem.W.subIn K (.ref C_ZeroBottom) (.type "BaseException") = some true
  t_ZeroBottom : PySem.W.typeIn K (.ref C_ZeroBottom) = some (.type "type")
  ga_ZeroBottom : PySem.W.findIn K (.ref C_ZeroBottom) "__getattribute__" = some (some (.builtin "BaseException.__getattribute__"))
  gg_ZeroBottom : PySem.W.findIn K (.ref C_ZeroBottom) "__getattr__" = some none
  x_ZeroBottom : PySem.W.excIn K C_ZeroBottom [.type "ValueError", .type "Exception", .type "BaseException", .type "object"] "ValueError.__new__" = true
  g_BadLot : mg "BadLot" = some (.ref C_BadLot)
  kc_BadLot : PySem.W.keepIn K (.ref C_BadLot) = true
  hd_BadLot : PySem.W.hasDictIn K C_BadLot = true
  ha_BadLot : PySem.W.findIn K (.ref C_BadLot) "__class__" = some (some (.builtin "object.__class__"))
  hm_BadLot : PySem.W.mroIn K C_BadLot (.type "object") = some true
  b_BadLot : PySem.W.subIn K (.ref C_BadLot) (.type "BaseException") = some true
  t_BadLot : PySem.W.typeIn K (.ref C_BadLot) = some (.type "type")
  ga_BadLot : PySem.W.findIn K (.ref C_BadLot) "__getattribute__" = some (some (.builtin "BaseException.__getattribute__"))
  gg_BadLot : PySem.W.findIn K (.ref C_BadLot) "__getattr__" = some none
  x_BadLot : PySem.W.excIn K C_BadLot [.type "ValueError", .type "Exception", .type "BaseException", .type "object"] "ValueError.__new__" = true
  hnc : PySem.W.specialIn K (.builtin "object.__class__") "__get__" = some (some (.builtin "getset_descriptor.__get__"))
  htk : PySem.W.takesIn K (.builtin "object.__class__") = some true
  sub_BadLot_BadLot : PySem.W.subIn K (.ref C_BadLot) (.ref C_BadLot) = some true
  kit_Ratio_Ratio : PySem.W.kitOne K (.ref C_Ratio) (.ref C_Ratio) = some true
  kit_int_Ratio : PySem.W.kitOne K (.type "int") (.ref C_Ratio) = some false
  kit_Tabled_Tabled : PySem.W.kitOne K (.ref C_Tabled) (.ref C_Tabled) = some true
  g_gcd : mg "gcd" = some (.builtin "math.gcd")
  g_MOST_THINGS : ∃ t, mg "MOST_THINGS" = some (.int 24 t)
  g_MOST_TABLED_THINGS : ∃ t, mg "MOST_TABLED_THINGS" = some (.int 6 t)
theorem Txt.ec_TooMany {K : PySem.W.Frag} {mg : Str → Option Value} {C_Tabled C_Ratio C_TooMany C_BadTable C_ZeroBottom C_BadLot : Addr} (T : Txt K mg C_Tabled C_Ratio C_TooMany C_BadTable C_ZeroBottom C_BadLot) : ExcC K C_TooMany := ⟨T.ga_TooMany, T.gg_TooMany, T.b_TooMany, T.hd_TooMany, T.ha_TooMany, T.hnc, T.htk, T.hm_TooMany⟩
theorem Txt.ec_BadTable {K : PySem.W.Frag} {mg : Str → Option Value} {C_Tabled C_Ratio C_TooMany C_BadTable C_ZeroBottom C_BadLot : Addr} (T : Txt K mg C_Tabled C_Ratio C_TooMany C_BadTable C_ZeroBottom C_BadLot) : ExcC K C_BadTable := ⟨T.ga_BadTable, T.gg_BadTable, T.b_BadTable, T.hd_BadTable, T.ha_BadTable, T.hnc, T.htk, T.hm_BadTable⟩
theorem Txt.ec_ZeroBottom {K : PySem.W.Frag} {mg : Str → Option Value} {C_Tabled C_Ratio C_TooMany C_BadTable C_ZeroBottom C_BadLot : Addr} (T : Txt K mg C_Tabled C_Ratio C_TooMany C_BadTable C_ZeroBottom C_BadLot) : ExcC K C_ZeroBottom := ⟨T.ga_ZeroBottom, T.gg_ZeroBottom, T.b_ZeroBottom, T.hd_ZeroBottom, T.ha_ZeroBottom, T.hnc, T.htk, T.hm_ZeroBottom⟩
theorem Txt.ec_BadLot {K : PySem.W.Frag} {mg : Str → Option Value} {C_Tabled C_Ratio C_TooMany C_BadTable C_ZeroBottom C_BadLot : Addr} (T : Txt K mg C_Tabled C_Ratio C_TooMany C_BadTable C_ZeroBottom C_BadLot) : ExcC K C_BadLot := ⟨T.ga_BadLot, T.gg_BadLot, T.b_BadLot, T.hd_BadLot, T.ha_BadLot, T.hnc, T.htk, T.hm_BadLot⟩
theorem Txt.exm_BadLot_BadLot {K : PySem.W.Frag} {mg : Str → Option Value} {C_Tabled C_Ratio C_TooMany C_BadTable C_ZeroBottom C_BadLot : Addr} (T : Txt K mg C_Tabled C_Ratio C_TooMany C_BadTable C_ZeroBottom C_BadLot) : PySem.W.exmOne K (.ref C_BadLot) (.ref C_BadLot) = some true := PySem.W.exm_ref T.b_BadLot T.hd_BadLot T.t_BadLot T.sub_BadLot_BadLot

/-- a def that is called by its name, with its promise -/
def Cal (P : Program) (w : World) (K : PySem.W.Frag) (mg : Str → Option Value) (base : Heap) (CX : CXT) (k : Nat) (x : Str) (ps : List Str) (sp : Sp) : Prop :=
  ∃ (f : Addr) (fd : FuncData), FnOk P w K mg base CX k f fd ps sp ∧ mg x = some (.ref f) ∧ PySem.W.keepIn K (.ref f) = true ∧ Binds K fd ps []
/-- an own class's __init__; dvs: what stands for the parameters that a short call leaves out -/
def CalI (P : Program) (w : World) (K : PySem.W.Frag) (mg : Str → Option Value) (base : Heap) (CX : CXT) (k : Nat) (C : Addr) (ps : List Str) (sp : Sp) (dvs : List V) : Prop :=
  ∃ (f : Addr) (fd : FuncData), FnOk P w K mg base CX k f fd ps sp ∧ Mk K C f ∧ Binds K fd ps [] ∧ ∃ ds, Vals dvs ds ∧ Binds K fd ps ds
/-- an own error's __init__ -/
def CalX (P : Program) (w : World) (K : PySem.W.Frag) (mg : Str → Option Value) (base : Heap) (CX : CXT) (k : Nat) (C : Addr) (ps : List Str) (sp : Sp) : Prop :=
  ∃ (f : Addr) (fd : FuncData), FnOk P w K mg base CX k f fd ps sp ∧ PySem.W.findIn K (.ref C) "__init__" = some (some (.ref f)) ∧ PySem.W.typeIn K (.ref f) = some (.type "function") ∧ Binds K fd ps []
/-- a method -/
def CalM (P : Program) (w : World) (K : PySem.W.Frag) (mg : Str → Option Value) (base : Heap) (CX : CXT) (k : Nat) (C : Addr) (m : Str) (ps : List Str) (sp : Sp) : Prop :=
  ∃ (f : Addr) (fd : FuncData), FnOk P w K mg base CX k f fd ps sp ∧ Meth K C m f ∧ Binds K fd ps []
section
variable {P : Program} {w : World} {K : PySem.W.Frag} {mg : Str → Option Value} {base : Heap}
def sp_TooMany___init__ (C : Addr) : Sp := fun vs H Q _ => ∃ (a : Addr) (x y : V), vs = [.ref a, x, y] ∧ H a = some (exo a C none) ∧ ∀ dx, H dx = none → dx ≠ a → Q .non (errH H a C dx "many" "most" x y)
theorem ok_TooMany___init__ {f : Addr} {fd : FuncData} {C_Tabled C_Ratio C_TooMany C_BadTable C_ZeroBottom C_BadLot : Addr} (F : Fun K "__init__" "TooMany.__init__" s_TooMany___init__ f fd) (T : Txt K mg C_Tabled C_Ratio C_TooMany C_BadTable C_ZeroBottom C_BadLot) : FnOk P w K mg base CX0 1 f fd ["self", "many", "most"] (sp_TooMany___init__ C_TooMany) := by
  refine F.ok sc_TooMany___init__ (fun vs H Q E h => ?_) (fun cdv A outer s H vs Q E hr h => ?_)
  · obtain ⟨a, x, y, rfl, _⟩ := h
    rfl
  · obtain ⟨a, x, y, rfl, ha, q⟩ := h
    refine ⟨_, (pss_cons (ps_ost (pv 0) (pv 1))
      (pss_one (ps_ost (pv 0) (pv 2)))), ?_⟩
    refine ⟨_, rfl, _, rfl, a, C_TooMany, rfl, T.ox_TooMany, T.n_TooMany_many, .inl ⟨ha, fun dx nd ne => ?_⟩⟩
    exact ⟨_, rfl, _, rfl, a, C_TooMany, rfl, T.ox_TooMany, T.n_TooMany_most, .inr ⟨dx, _, upd_same, (upd_ne ne).trans upd_same, by show 1 ≤ 900; decide, q dx nd ne⟩⟩
def sp_BadTable___init__ (C : Addr) : Sp := fun vs H Q _ => ∃ (a : Addr) (x : V), vs = [.ref a, x] ∧ H a = some (exo a C none) ∧ ∀ dx, H dx = none → dx ≠ a → Q .non (errH1 H a C dx "at" x)
theorem ok_BadTable___init__ {f : Addr} {fd : FuncData} {C_Tabled C_Ratio C_TooMany C_BadTable C_ZeroBottom C_BadLot : Addr} (F : Fun K "__init__" "BadTable.__init__" s_BadTable___init__ f fd) (T : Txt K mg C_Tabled C_Ratio C_TooMany C_BadTable C_ZeroBottom C_BadLot) : FnOk P w K mg base CX0 1 f fd ["self", "at"] (sp_BadTable___init__ C_BadTable) := by
  refine F.ok sc_BadTable___init__ (fun vs H Q E h => ?_) (fun cdv A outer s H vs Q E hr h => ?_)
  · obtain ⟨a, x, rfl, _⟩ := h
    rfl
  · obtain ⟨a, x, rfl, ha, q⟩ := h
    refine ⟨_, (pss_one (ps_ost (pv 0) (pv 1))), ?_⟩
    exact ⟨_, rfl, _, rfl, a, C_BadTable, rfl, T.ox_BadTable, T.n_BadTable_at, .inl ⟨ha, fun dx nd ne => q dx nd ne⟩⟩
def sp_check_many (CT : Addr) : Sp := fun vs H Q E => ∃ m n : Int, vs = [.int m, .int n] ∧ (m > n → ∀ d, H d = none → E (.ref CT) (some d) (upd H d (.xd [("most", .int n), ("many", .int m)]))) ∧ (¬ m > n → Q .non H)
theorem ok_check_many {f : Addr} {fd : FuncData} {C_Tabled C_Ratio C_TooMany C_BadTable C_ZeroBottom C_BadLot : Addr} (F : Fun K "check_many" "check_many" s_check_many f fd) (T : Txt K mg C_Tabled C_Ratio C_TooMany C_BadTable C_ZeroBottom C_BadLot) (c_TooMany___init__ : CalX P w K mg base CX0 1 C_TooMany ["self", "many", "most"] (sp_TooMany___init__ C_TooMany)) : FnOk P w K mg base (L2.CX P w) 3 f fd ["many", "most"] (sp_check_many C_TooMany) := by
  refine F.okX sc_check_many (fun vs H Q E h => ?_) (fun cdv A outer s H vs Q E hr h => ?_)
  · obtain ⟨m, n, rfl, _⟩ := h
    rfl
  · obtain ⟨m, n, rfl, kE, q⟩ := h
    obtain ⟨f_TooMany___init__, fd_TooMany___init__, G_TooMany___init__, ic_TooMany___init__, ti_TooMany___init__, b_TooMany___init__⟩ := c_TooMany___init__
    refine ⟨_, (pss_one (ps_if (pt_cmpR op_gt (pv 0) (pv 1) (nomark _)) (pss_one (ps_raise rfl (takes_of rfl rfl rfl rfl) (pmk_oex T.ox_TooMany ic_TooMany___init__ ti_TooMany___init__ G_TooMany___init__ (hr.mono (by decide)) b_TooMany___init__ .nil pass0 (by exact rfl) T.g_TooMany (pa_cons (pv 0) (pa_cons (pv 1) pa_nil))))) pss_nil)), ?_⟩
    refine ⟨_, rfl, _, rfl, _, _, rfl, rfl, _, rfl, ite2 (fun e => ?_) (fun e => q fun z => e (decide_eq_true z))⟩
    exact ⟨_, rfl, _, rfl, (by show 2 ≤ 1000; decide), fun a na => ⟨a, _, _, rfl, upd_same, fun dx nd ne => raise2 (kE (of_decide_eq_true e)) na nd ne⟩⟩
def sp_Rule___init__ (C CT : Addr) : Sp := fun vs H Q E => ∃ (p dx : Addr) (fs : List (Str × V)) (m : Int), vs = [.ref p, .int m] ∧ H p = some (.ins C dx fs) ∧ fs.length ≤ 900 ∧ (m > 24 → ∀ d, H d = none → E (.ref CT) (some d) (upd H d (.xd [("most", .int 24), ("many", .int m)]))) ∧ (¬ m > 24 → Q .non (upd H p (.ins C dx (putF "many" (.int m) fs))))
theorem ok_Rule___init__ {f : Addr} {fd : FuncData} {C_Tabled C_Ratio C_TooMany C_BadTable C_ZeroBottom C_BadLot : Addr} (F : Fun K "__init__" "Rule.__init__" s_Rule___init__ f fd) (T : Txt K mg C_Tabled C_Ratio C_TooMany C_BadTable C_ZeroBottom C_BadLot) (c_check_many : Cal P w K mg base (L2.CX P w) 3 "check_many" ["many", "most"] (sp_check_many C_TooMany)) : FnOk P w K mg base (L2.CX P w) 4 f fd ["self", "many"] (sp_Rule___init__ C_Tabled C_TooMany) := by
  refine F.okX sc_Rule___init__ (fun vs H Q E h => ?_) (fun cdv A outer s H vs Q E hr h => ?_)
  · obtain ⟨p, dx, fs, m, rfl, _⟩ := h
    rfl
  · obtain ⟨p, dx, fs, m, rfl, hp, hl, kE, q⟩ := h
    obtain ⟨f_check_many, fd_check_many, G_check_many, m_check_many, k_check_many, b_check_many⟩ := c_check_many
    refine ⟨_, (pss_cons (ps_expr (pe_call G_check_many (hr.mono (by decide)) (by rfl) m_check_many k_check_many b_check_many .nil (passes_call (takes_of rfl rfl rfl rfl) (fun _ _ _ _ h => h)) (pa_cons (pv 1) (pa_cons (pe_glob (v := .int 24) (by rfl) T.g_MOST_THINGS.choose_spec ⟨_, rfl⟩) pa_nil))))
      (pss_one (ps_fld (pv 0) (pv 1) rfl))), ?_⟩
    refine ⟨_, rfl, m, 24, rfl, kE, fun e => ?_⟩
    exact ⟨_, rfl, _, rfl, p, C_Tabled, dx, fs, rfl, hp, T.cl_Tabled, T.n_Tabled_many, by omega, q e⟩
def sp_check_lot (K : PySem.W.Frag) (CL : Addr) : Sp := fun vs H Q E => ∃ (l : Addr) (ns : List Int) (m : Int), vs = [.ref l, .int m] ∧ SqT K H l (ns.map V.int) ∧ (lotB ns (-1) m = false → E (.ref CL) none H) ∧ (lotB ns (-1) m = true → Q .non H)
theorem ok_check_lot {f : Addr} {fd : FuncData} {C_Tabled C_Ratio C_TooMany C_BadTable C_ZeroBottom C_BadLot : Addr} (F : Fun K "check_lot" "check_lot" s_check_lot f fd) (T : Txt K mg C_Tabled C_Ratio C_TooMany C_BadTable C_ZeroBottom C_BadLot) : FnOk P w K mg base (L2.CX P w) 1 f fd ["lot", "many"] (sp_check_lot K C_BadLot) := by
  refine F.okX sc_check_lot (fun vs H Q E h => ?_) (fun cdv A outer s H vs Q E hr h => ?_)
  · obtain ⟨l, ns, m, rfl, _⟩ := h
    rfl
  · obtain ⟨l, ns, m, rfl, hl, kE, q⟩ := h
    refine ⟨_, (pss_cons (ps_set (i := 2) sc_check_lot.nd rfl (Or.inl rfl) (pe_un un_neg pe_int))
      (pss_one (ps_for (passes_of rfl) rfl (pi_tup (pv 0)) (pg_name (i := 3) sc_check_lot.nd rfl (Or.inl rfl))
      (pss_cons (ps_if (PW.pt (pw_or (pt_cmpR op_le (pv 3) (pv 2) (nomark _)) (pw_or1 (pt_cmpR op_ge (pv 3) (pv 1) (nomark _))))) (pss_one (ps_raise rfl (takes_of rfl rfl rfl rfl) (pmk_own PySem.F.excBase_ValueError T.x_BadLot T.g_BadLot T.kc_BadLot (raises_own T.b_BadLot T.t_BadLot) (by exact rfl)))) pss_nil)
      (pss_one (ps_set (i := 2) sc_check_lot.nd rfl (Or.inl rfl) (pv 3))))))), ?_⟩
    refine ⟨1, rfl, ?_⟩
    refine ⟨_, rfl, l, rfl, ⟨_, hl⟩, for_tup (K := K) (a := l) (xs := ns.map V.int) (fun i σ H2 => ∃ (b : Int) (y : Option V), σ = [some (.ref l), some (.int m), some (.int b), y] ∧ H2 = H ∧ lotB ns (-1) m = lotB (ns.drop i) b m) ⟨-1, none, rfl, rfl, rfl⟩ (fun i σ H2 _ ⟨_, _, _, e, _⟩ => e ▸ hl) ?_ ?_⟩
    · rintro i x σ H2 hi ⟨b, y, rfl, rfl, hb⟩
      obtain ⟨n, rfl, hn⟩ := int_of hi
      have hd : ns.drop i = n :: ns.drop (i + 1) := by
        have lt : i < ns.length := (List.getElem?_eq_some_iff.mp hn).1
        rw [List.drop_eq_getElem_cons lt]
        rw [List.getElem?_eq_getElem lt] at hn
        rw [Option.some.inj hn]
      rw [hd] at hb
      refine ⟨_, rfl, _, rfl, _, _, rfl, rfl, _, rfl, ite2 (fun c => ?_) (fun c => ⟨_, rfl, _, rfl, _, _, rfl, rfl, _, rfl, ite2 (fun c2 => ?_) (fun c2 => ?_)⟩)⟩
      · exact kE (hb.trans (if_pos (.inl (of_decide_eq_true c))))
      · exact kE (hb.trans (if_pos (.inr (of_decide_eq_true c2))))
      · refine ⟨_, rfl, n, _, rfl, rfl, ?_⟩
        rw [hb]
        exact if_neg fun z => z.elim (fun z => c (decide_eq_true z)) fun z => c2 (decide_eq_true z)
    · rintro σ H2 ⟨b, y, rfl, rfl, hb⟩
      rw [List.length_map, List.drop_length] at hb
      exact q hb
def sp_lot_number (K : PySem.W.Frag) : Sp := fun vs H Q _ => ∃ (a : Addr) (ns : List Int), vs = [.ref a] ∧ SqT K H a (ns.map V.int) ∧ ns.length ≤ 1000 ∧ (∀ t ∈ ns, 0 ≤ t ∧ t < 100000) ∧ ∀ H', Same H H' → Q (.int (powSum ns)) H'

theorem ok_lot_number {f : Addr} {fd : FuncData} {C_Tabled C_Ratio C_TooMany C_BadTable C_ZeroBottom C_BadLot : Addr} (F : Fun K "lot_number" "lot_number" s_lot_number f fd) (T : Txt K mg C_Tabled C_Ratio C_TooMany C_BadTable C_ZeroBottom C_BadLot) (m_sum : mg "sum" = none) : FnOk P w K mg base CX0 1 f fd ["lot"] (sp_lot_number K) := by
  refine F.ok sc_lot_number (fun vs H Q E h => ?_) (fun cdv A outer s H vs Q E hr h => ?_)
  · obtain ⟨a, ns, rfl, _⟩ := h
    rfl
  · obtain ⟨a, ns, rfl, hS, hlen, hn, q⟩ := h
    refine ⟨_, (pss_one (ps_ret (pe_callB (cr_sum rfl) (by rfl) m_sum (by decide +kernel) (pa_cons (pe_lc (own := [("thing", 1)]) (g := (gName 1)) (tt := tYes) rfl sc_lot_number.nd (pi_tup (pv 0)) (blkOk_by (own := [("thing", 1)]) (N := ["lot", "thing"]) (sc := defScope s_lot_number) (by decide +kernel)) (fun _ _ _ _ _ => (pg_name (i := 1) sc_lot_number.nd rfl (Or.inl rfl))) (fun _ _ _ _ _ => pts_nil) (fun _ _ _ _ _ => (pe_op op_shl pe_int (pv 1)))) pa_nil)))), ?_⟩
    refine ⟨.ref a, rfl, a, rfl, ⟨_, hS⟩, fun D nD => lc_tup (K := K) (a := a) (xs := ns.map V.int) (fun i H2 => Same H H2 ∧ H2 D = some (.lst (((ns.take i).map fun t => (1 : Int) * 2 ^ t.toNat).map V.int))) ⟨same_upd nD, upd_same⟩ (fun i H2 _ ⟨s, _⟩ => same_tup s hS) ?_ ?_⟩
    · rintro i x H2 hi ⟨s, hD⟩
      obtain ⟨n, rfl, hin⟩ := int_of hi
      obtain ⟨n0, n1⟩ := hn n (List.mem_of_getElem? hin)
      refine ⟨rfl, ?_⟩
      refine lc_yes ?_
      refine iteT ?_
      refine ⟨_, rfl, 1, n, rfl, rfl, ⟨n0, by omega, by decide⟩, _, hD, ?_, same_mut s nD, ?_⟩
      · rw [List.length_map, List.length_map, List.length_take]
        exact small1000 (by omega)
      · rw [upd_same, List.take_add_one, hin, List.map_append, List.map_append]
        rfl
    · rintro H2 ⟨s, hD⟩
      rw [List.length_map, List.take_length] at hD
      exact ⟨D, _, rfl, lst_l hD, q H2 s⟩
def sp_lot_at (K : PySem.W.Frag) : Sp := fun vs H Q _ => ∃ (b : Int) (m : Nat), vs = [.int b, .int (m : Int)] ∧ m ≤ 1000 ∧ ∀ H' p, Same H H' → H p = none → H' p = some (.tup ((lotOf b m).map V.int)) → Q (.ref p) H'

theorem ok_lot_at {f : Addr} {fd : FuncData} {C_Tabled C_Ratio C_TooMany C_BadTable C_ZeroBottom C_BadLot : Addr} (F : Fun K "lot_at" "lot_at" s_lot_at f fd) (T : Txt K mg C_Tabled C_Ratio C_TooMany C_BadTable C_ZeroBottom C_BadLot) (m_range : mg "range" = none) (m_tuple : mg "tuple" = none) : FnOk P w K mg base CX0 1 f fd ["number", "many"] (sp_lot_at K) := by
  refine F.ok sc_lot_at (fun vs H Q E h => ?_) (fun cdv A outer s H vs Q E hr h => ?_)
  · obtain ⟨b, m, rfl, _⟩ := h
    rfl
  · obtain ⟨b, m, rfl, hm, q⟩ := h
    refine ⟨_, (pss_one (ps_ret (pe_callTy call_tuple_of (by rfl) m_tuple (by decide +kernel) (pa_cons (pe_lc (own := [("thing", 2)]) (g := (gName 2)) rfl sc_lot_at.nd (pi_range1 (by rfl) m_range (pa_cons (pv 1) pa_nil)) (blkOk_by (own := [("thing", 2)]) (N := ["number", "many", "thing"]) (sc := defScope s_lot_at) (by decide +kernel)) (fun _ _ _ _ _ => (pg_name (i := 2) sc_lot_at.nd rfl (Or.inl rfl))) (fun _ _ _ _ _ => (pts_one (pt_cmpR op_eq (pe_op op_and (pe_op op_shr (pv 0) (pv 2)) pe_int) pe_int (nomark _)))) (fun _ _ _ _ _ => (pv 2))) pa_nil)))), ?_⟩
    refine ⟨_, rfl, _, rfl, by omega, by omega, ?_⟩
    rw [Int.toNat_natCast]
    refine fun D nD => lc_range (lo := 0) (n := m) (fun i H2 => Same H H2 ∧ H2 D = some (.lst ((lotOf b i).map V.int))) ⟨same_upd nD, upd_same⟩ ?_ ?_
    · rintro i H2 hi ⟨s, hD⟩
      refine ⟨rfl, ?_⟩
      refine ⟨_, rfl, _, rfl, b, _, rfl, rfl, (by show (0 : Int) ≤ 0 + (i : Int); omega), _, _, rfl, rfl, rfl, _, rfl, ?_⟩
      have ez : Builtin.bitAnd (b / 2 ^ (0 + (i : Int)).toNat) 1 = b / 2 ^ i % 2 := by
        rw [bit_one, Int.zero_add, Int.toNat_natCast]
      refine ite2 (fun e => ?_) (fun e => ?_)
      · have e : b / 2 ^ i % 2 = 1 := ez.symm.trans (V.int.inj (of_decide_eq_true e))
        refine ⟨_, rfl, _, hD, ?_, same_mut s nD, ?_⟩
        · rw [List.length_map]
          exact small1000 (Nat.le_trans (lotOf_len b i) (by omega))
        · rw [upd_same]
          show _ = some (HO.lst ((lotOf b i ++ (if b / 2 ^ i % 2 = 1 then [(i : Int)] else [])).map V.int))
          rw [if_pos e, ← snoc_int, Int.zero_add]
      · have e : ¬ b / 2 ^ i % 2 = 1 := fun z => e (decide_eq_true (congrArg V.int (ez.trans z)))
        refine ⟨s, ?_⟩
        show _ = some (HO.lst ((lotOf b i ++ (if b / 2 ^ i % 2 = 1 then [(i : Int)] else [])).map V.int))
        rw [if_neg e, List.append_nil]
        exact hD
    · rintro H2 ⟨s, hD⟩
      exact ⟨D, _, rfl, .inl ⟨lst_l hD, fun p np => q _ p (same_mut s (s.free np)) (s.free np) upd_same⟩⟩
def sp__fits (K : PySem.W.Frag) : Sp := fun vs H Q _ => ∃ (r l : Addr) (t : Int) (cs ls : List Int), vs = [.ref r, .ref l] ∧ H r = some (.lst ((t :: cs).map V.int)) ∧ H l = some (.tup (ls.map V.int)) ∧ cs.length ≤ 900 ∧ ∀ H', Same H H' → Q (.bl (fitR ls t cs)) H' 
theorem ok__fits {f : Addr} {fd : FuncData} {C_Tabled C_Ratio C_TooMany C_BadTable C_ZeroBottom C_BadLot : Addr} (F : Fun K "_fits" "_fits" s__fits f fd) (T : Txt K mg C_Tabled C_Ratio C_TooMany C_BadTable C_ZeroBottom C_BadLot) (m_enumerate : mg "enumerate" = none) (m_sum : mg "sum" = none) : FnOk P w K mg base CX0 1 f fd ["row", "lot"] (sp__fits K) := by
  refine F.ok sc__fits (fun vs H Q E h => ?_) (fun cdv A outer s H vs Q E hr h => ?_)
  · obtain ⟨r, l, t, cs, ls, rfl, _⟩ := h
    rfl
  · obtain ⟨r, l, t, cs, ls, rfl, hr, hl, cl, q⟩ := h
    refine ⟨_, (pss_cons (ps_asg (pv 0) (pg_st1 rfl (pg_name (i := 2) sc__fits.nd rfl (Or.inl rfl)) (pg_name (i := 3) sc__fits.nd rfl (Or.inl rfl))))
      (pss_cons (ps_for PassesOwn.never rfl (pi_enum (by rfl) m_enumerate (pa_cons (pv 3) pa_nil)) (pg_tup rfl (pgs_cons (pg_name (i := 4) sc__fits.nd rfl (Or.inl rfl)) (pgs_cons (pg_name (i := 5) sc__fits.nd rfl (Or.inl rfl)) pgs_nil)))
      (pss_one (ps_if (PW.pt (pw_or (pt_cmpR op_lt (pv 5) pe_int (nomark _)) (pw_or1 (PW.pt (pw_and (pt_cmpR op_gt (pv 5) pe_int (nomark _)) (pw_and1 (pt_cmpR op_notIn_seq (pv 4) (pv 1) (by rfl)))))))) (pss_one (ps_ret pe_bl)) pss_nil)))
      (pss_one (ps_ret (pe_and (pe_cmpR op_ge (pv 2) pe_int (nomark _)) (pe_one (pe_cmpR op_le (pe_callB (cr_sum rfl) (by rfl) m_sum (by decide +kernel) (pa_cons (pv 3) pa_nil)) (pv 2) (nomark _)))))))), ?_⟩
    refine ⟨_, rfl, r, .int t, cs.map V.int, rfl, lst_l hr, by rw [List.length_map]; omega, fun D nD => ?_⟩
    have s1 := same_upd (o := .lst (cs.map V.int)) nD
    have hD : upd H D (.lst (cs.map V.int)) D = some (.lst (cs.map V.int)) := upd_same
    have hl1 := s1 _ _ hl
    generalize upd H D (.lst (cs.map V.int)) = H1 at s1 hD hl1 ⊢
    refine ⟨_, rfl, D, _, rfl, lst_l hD, ?_⟩
    refine for_it (walk_enum (K := K) (a := D) (xs := cs.map V.int)) (fun i σ H2 => ∃ y1 y2 : Option V, σ = [some (.ref r), some (.ref l), some (.int t), some (.ref D), y1, y2] ∧ Same H1 H2 ∧ cntB ls cs 0 = cntB ls (cs.drop i) i) ⟨none, none, rfl, Same.refl _, rfl⟩ ?_ ?_ ?_
    · rintro i σ H2 _ ⟨_, _, _, sx, _⟩
      exact lst_l (sx D _ hD)
    · rintro i x σ H2 H3 hi ⟨y1, y2, rfl, sx, hb⟩ ⟨tp, ix, nx, rfl, ntp, rfl, e1, e2⟩
      cases e1
      have e2 : (cs.map V.int)[i]? = some nx := e2
      obtain ⟨c, rfl, hc⟩ := int_of e2
      rw [drop_cons hc] at hb
      have s3 := sx.trans (same_upd (o := .tup [V.int i, V.int c]) ntp)
      refine ⟨tp, _, rfl, tup_t upd_same, rfl, _, _, rfl, _, _, rfl, rfl, ?_⟩
      generalize upd H2 tp (.tup [V.int i, V.int c]) = H3 at s3 ⊢
      have bad : cntB ls cs 0 = false → Q (.bl false) H3 := fun e => by
        have : fitR ls t cs = false := by
          unfold fitR
          rw [e]
          rfl
        exact this ▸ q H3 (s1.trans s3)
      refine ⟨_, rfl, _, _, rfl, rfl, _, rfl, ite2 (fun c1 => ?_) (fun c1 => ⟨_, rfl, _, _, rfl, rfl, _, rfl, ite2 (fun c2 => ⟨_, rfl, _, rfl, l, _, rfl, .inr (tup_t (s3 _ _ hl1)), rfl, ints_flat ls, _, rfl, ite2 (fun c3 => ?_) (fun c3 => ?_)⟩) (fun c2 => ?_)⟩)⟩
      · have c1 : c < 0 := of_decide_eq_true c1
        refine bad (hb.trans ?_)
        unfold cntB
        exact if_pos c1
      · have c1 : ¬ c < 0 := fun z => c1 (decide_eq_true z)
        have c2 : c > 0 := of_decide_eq_true c2
        have c3 : ¬ inV (.int (i : Int)) (ls.map V.int) = true := fun z => by
          rw [z] at c3
          cases c3
        refine bad (hb.trans ?_)
        unfold cntB
        rw [if_neg c1, if_pos ⟨c2, c3⟩]
      · have c1 : ¬ c < 0 := fun z => c1 (decide_eq_true z)
        have c3 : inV (.int (i : Int)) (ls.map V.int) = true := by
          cases z : inV (.int (i : Int)) (ls.map V.int) with
          | true => rfl
          | false => exact absurd (by rw [z]; rfl) c3
        refine ⟨_, _, rfl, s3, hb.trans ?_⟩
        rw [show cntB ls (c :: cs.drop (i + 1)) i = if c < 0 then false else if c > 0 ∧ ¬ inV (.int (i : Int)) (ls.map V.int) = true then false else cntB ls (cs.drop (i + 1)) (i + 1) from rfl, if_neg c1, if_neg fun z => z.2 c3]
      · have c1 : ¬ c < 0 := fun z => c1 (decide_eq_true z)
        have c2 : ¬ c > 0 := fun z => c2 (decide_eq_true z)
        refine ⟨_, _, rfl, s3, hb.trans ?_⟩
        rw [show cntB ls (c :: cs.drop (i + 1)) i = if c < 0 then false else if c > 0 ∧ ¬ inV (.int (i : Int)) (ls.map V.int) = true then false else cntB ls (cs.drop (i + 1)) (i + 1) from rfl, if_neg c1, if_neg fun z => c2 z.1]
    · rintro σ H2 ⟨y1, y2, rfl, sx, hb⟩
      rw [List.length_map, List.drop_length] at hb
      have hb : cntB ls cs 0 = true := hb
      have e : fitR ls t cs = (decide (t ≥ 1) && decide (cs.sum ≤ t)) := by
        unfold fitR
        rw [hb, Bool.true_and]
      have q := q H2 (s1.trans sx)
      rw [e] at q
      refine ⟨_, rfl, _, _, rfl, rfl, _, rfl, ite2 (fun c => ?_) (fun c => ?_)⟩
      · rw [decide_eq_true (of_decide_eq_true c), Bool.true_and] at q
        exact ⟨_, rfl, D, _, rfl, lst_l (sx _ _ hD), _, rfl, _, _, rfl, rfl, q⟩
      · rw [decide_eq_false (fun z => c (decide_eq_true z)), Bool.false_and] at q
        exact q
def sp_common_divisor (K : PySem.W.Frag) : Sp := fun vs H Q _ => ∃ (a : Addr) (l : List Nat), vs = [.ref a] ∧ H a = some (.lst ((cz l).map V.int)) ∧ Q (.int (gl l : Nat)) H
theorem ok_common_divisor {f : Addr} {fd : FuncData} {C_Tabled C_Ratio C_TooMany C_BadTable C_ZeroBottom C_BadLot : Addr} (F : Fun K "common_divisor" "common_divisor" s_common_divisor f fd) (T : Txt K mg C_Tabled C_Ratio C_TooMany C_BadTable C_ZeroBottom C_BadLot) : FnOk P w K mg base CX0 1 f fd ["numbers"] (sp_common_divisor K) := by
  refine F.ok sc_common_divisor (fun vs H Q E h => ?_) (fun cdv A outer s H vs Q E hr h => ?_)
  · obtain ⟨a, l, rfl, _⟩ := h
    rfl
  · obtain ⟨a, l, rfl, hl, q⟩ := h
    refine ⟨_, (pss_cons (ps_set (i := 1) sc_common_divisor.nd rfl (Or.inl rfl) pe_int)
      (pss_cons (ps_for PassesOwn.never rfl (pi_list (pv 0)) (pg_name (i := 2) sc_common_divisor.nd rfl (Or.inl rfl))
      (pss_one (ps_set (i := 1) sc_common_divisor.nd rfl (Or.inl rfl) (pe_callBfun cr_gcd (by rfl) T.g_gcd (pa_cons (pv 1) (pa_cons (pv 2) pa_nil))))))
      (pss_one (ps_ret (pv 1))))), ?_⟩
    refine ⟨_, rfl, a, rfl, ⟨_, lst_l hl⟩, for_list (K := K) (a := a) (xs := (cz l).map V.int) (fun i σ H2 => ∃ y : Option V, σ = [some (.ref a), some (.int (gl (l.take i) : Nat)), y] ∧ H2 = H) ⟨none, rfl, rfl⟩ (fun i σ H2 _ ⟨_, _, e⟩ => e ▸ lst_l hl) ?_ ?_⟩
    · rintro i x σ H2 hi ⟨y, rfl, rfl⟩
      obtain ⟨n, rfl, hn⟩ := cz_of hi
      refine ⟨_, rfl, _, rfl, _, _, rfl, some (.int (n : Int)), ?_, rfl⟩
      rw [List.take_add_one, hn]
      show _ = [some (V.ref a), some (V.int (gl (l.take i ++ [n]) : Nat)), some (V.int (n : Int))]
      rw [gl_snoc]
      rfl
    · rintro σ H2 ⟨y, rfl, rfl⟩
      rw [czv_len, List.take_length]
      exact ⟨_, rfl, q⟩
def sp__reduced_row (K : PySem.W.Frag) : Sp := fun vs H Q _ => ∃ (r : Addr) (b : Nat) (ws : List Nat), vs = [.ref r] ∧ H r = some (.lst ((cz (b :: ws)).map V.int)) ∧ ws.length ≤ 900 ∧ 0 < b ∧ b < 2 ^ 90 ∧ ∀ H' t, Same H H' → H' t = some (.tup ((cz (divd (b :: ws))).map V.int)) → Q (.ref t) H' 
theorem ok__reduced_row {f : Addr} {fd : FuncData} {C_Tabled C_Ratio C_TooMany C_BadTable C_ZeroBottom C_BadLot : Addr} (F : Fun K "_reduced_row" "_reduced_row" s__reduced_row f fd) (T : Txt K mg C_Tabled C_Ratio C_TooMany C_BadTable C_ZeroBottom C_BadLot) (m_tuple : mg "tuple" = none) (c_common_divisor : Cal P w K mg base CX0 1 "common_divisor" ["numbers"] (sp_common_divisor K)) : FnOk P w K mg base CX0 2 f fd ["row"] (sp__reduced_row K) := by
  refine F.ok sc__reduced_row (fun vs H Q E h => ?_) (fun cdv A outer s H vs Q E hr h => ?_)
  · obtain ⟨r, b, ws, rfl, _⟩ := h
    rfl
  · obtain ⟨r, b, ws, rfl, hrw, wl, b0, b1, q⟩ := h
    obtain ⟨f_common_divisor, fd_common_divisor, G_common_divisor, m_common_divisor, k_common_divisor, b_common_divisor⟩ := c_common_divisor
    refine ⟨_, (pss_cons (ps_set (i := 1) sc__reduced_row.nd rfl (Or.inr rfl) (pe_call G_common_divisor (hr.mono (by decide)) (by rfl) m_common_divisor k_common_divisor b_common_divisor .nil pass0 (pa_cons (pv 0) pa_nil)))
      (pss_one (ps_ret (pe_callTy call_tuple_of (by rfl) m_tuple (by decide +kernel) (pa_cons (pe_lc (own := [("item", 2)]) (g := (gName 2)) (tt := tYes) rfl sc__reduced_row.nd (pi_list (pv 0)) (blkOk_by (own := [("item", 2)]) (N := ["row", "divisor", "item"]) (sc := defScope s__reduced_row) (by decide +kernel)) (fun _ _ _ _ _ => (pg_name (i := 2) sc__reduced_row.nd rfl (Or.inl rfl))) (fun _ _ _ _ _ => pts_nil) (fun _ _ _ _ _ => (pe_op op_fdivW (pv 2) (pv 1)))) pa_nil))))), ?_⟩
    refine ⟨_, rfl, r, b :: ws, rfl, hrw, ?_⟩
    have gp : 0 < gl (b :: ws) := gl_pos b0
    have gb : gl (b :: ws) ≤ b := Nat.le_of_dvd b0 (gl_dvd List.mem_cons_self)
    unfold divd at q
    generalize gl (b :: ws) = g at gp gb q
    have g0 : (0 : Int) < (g : Int) := by omega
    have g1 : (g : Int) < 2 ^ 100 := by
      have : g < 2 ^ 90 := Nat.lt_of_le_of_lt gb b1
      omega
    refine ⟨_, rfl, r, rfl, ⟨_, lst_l hrw⟩, fun D nD => lc_list (K := K) (a := r) (xs := (cz (b :: ws)).map V.int) (fun i H2 => Same H H2 ∧ H2 D = some (.lst ((cz (((b :: ws).take i).map (· / g))).map V.int))) ⟨same_upd nD, upd_same⟩ (fun i H2 _ ⟨s, _⟩ => lst_l (s _ _ hrw)) ?_ ?_⟩
    · rintro i x H2 hi ⟨s, hD⟩
      obtain ⟨n, rfl, hin⟩ := cz_of hi
      have il := (List.getElem?_eq_some_iff.mp hin).1
      rw [List.length_cons] at il
      refine ⟨rfl, ?_⟩
      refine lc_yes ?_
      refine iteT ?_
      refine ⟨_, rfl, _, rfl, _, _, rfl, rfl, w_div g0 g1, _, hD, ?_, same_mut s nD, ?_⟩
      · rw [czv_len, List.length_map, List.length_take]
        exact small1000 (by omega)
      · rw [upd_same, List.take_add_one, hin, List.map_append]
        unfold cz
        rw [List.map_append, List.map_append]
        rfl
    · rintro H2 ⟨s, hD⟩
      rw [czv_len, List.take_length] at hD
      exact ⟨D, _, rfl, .inl ⟨lst_l hD, fun t nt => q _ t (s.trans (same_upd nt)) upd_same⟩⟩
def sp_Tabled___init__ (C CT CB : Addr) : Sp := fun vs H Q E => ∃ (p dx L : Addr) (us : List Addr) (rows : List (List Int)) (m : Nat), vs = [.ref p, .int (m : Int), .ref L] ∧ H p = some (.ins C dx []) ∧ H L = some (.lst (us.map V.ref)) ∧ RowsL H us rows ∧ us.length ≤ 900 ∧ (∀ r ∈ rows, r.length ≤ 60 ∧ ∀ x ∈ r, x < 2 ^ 90) ∧
  (∀ n, dueT m rows = .many n → ∀ H' d, SameX p H H' → H' d = some (.xd [("most", .int 6), ("many", .int n)]) → E (.ref CT) (some d) H') ∧ (dueT m rows = .table → ∀ H' d, SameX p H H' → H' d = some (.xd [("at", .non)]) → E (.ref CB) (some d) H') ∧
  (∀ k, dueT m rows = .row k → ∀ H' d, SameX p H H' → H' d = some (.xd [("at", .int (k : Int))]) → E (.ref CB) (some d) H') ∧ (dueT m rows = .made → ∀ H', SameX p H H' → TAt C H' p m (rows.map divI) → Q .non H')
theorem ok_Tabled___init__ {f cc cda g_Rule : Addr} {fd : FuncData} {file : Str} {C_Tabled C_Ratio C_TooMany C_BadTable C_ZeroBottom C_BadLot : Addr} (F : FunS K "__init__" "Tabled.__init__" s_Tabled___init__ cc cda f fd) (SC : SupC K mg C_Tabled C_Tabled cc cda g_Rule file) (hfile : ((P.main.file : Str) == file) = true) (htop : (P.main.scope.names.lookup ("super" : Str)).isSome = false) (T : Txt K mg C_Tabled C_Ratio C_TooMany C_BadTable C_ZeroBottom C_BadLot) (m_enumerate : mg "enumerate" = none) (m_len : mg "len" = none) (m_tuple : mg "tuple" = none) (c_check_many : Cal P w K mg base (L2.CX P w) 3 "check_many" ["many", "most"] (sp_check_many C_TooMany)) (c_Rule___init__ : ∃ fd : FuncData, FnOk P w K mg base (L2.CX P w) 4 g_Rule fd ["self", "many"] (sp_Rule___init__ C_Tabled C_TooMany) ∧ Binds K fd ["self", "many"] []) (c_lot_at : Cal P w K mg base CX0 1 "lot_at" ["number", "many"] (sp_lot_at K)) (c__fits : Cal P w K mg base CX0 1 "_fits" ["row", "lot"] (sp__fits K)) (c__reduced_row : Cal P w K mg base CX0 2 "_reduced_row" ["row"] (sp__reduced_row K)) (c_BadTable___init__ : CalX P w K mg base CX0 1 C_BadTable ["self", "at"] (sp_BadTable___init__ C_BadTable)) : FnOk P w K mg base (L2.CX P w) 5 f fd ["self", "many", "rows"] (sp_Tabled___init__ C_Tabled C_TooMany C_BadTable) := by
  obtain ⟨f_check_many, fd_check_many, G_check_many, m_check_many, k_check_many, b_check_many⟩ := c_check_many
  obtain ⟨fd_Rule___init__, G_Rule___init__, b_Rule___init__⟩ := c_Rule___init__
  obtain ⟨f_lot_at, fd_lot_at, G_lot_at, m_lot_at, k_lot_at, b_lot_at⟩ := c_lot_at
  obtain ⟨f__fits, fd__fits, G__fits, m__fits, k__fits, b__fits⟩ := c__fits
  obtain ⟨f__reduced_row, fd__reduced_row, G__reduced_row, m__reduced_row, k__reduced_row, b__reduced_row⟩ := c__reduced_row
  obtain ⟨f_BadTable___init__, fd_BadTable___init__, G_BadTable___init__, ic_BadTable___init__, ti_BadTable___init__, b_BadTable___init__⟩ := c_BadTable___init__
  obtain ⟨⟨oc, od, kV, doc, pm, an, ct, osl, rfl, lk, hcd⟩, _⟩ := F
  refine fn_at (D := C_Tabled) lk hcd sc_Tabled___init__ SC.cell (fun vs H Q E h => ?_) (fun A outer s H vs Q E hr h => ?_)
  · obtain ⟨p, dx, L, us, rows, m, rfl, _⟩ := h
    rfl
  · obtain ⟨p, dx, L, us, rows, m, rfl, hp, hL, row, ul, lw, kM, kT, kR, q⟩ := h
    refine ⟨_, (psas_cons (psa_ps (ps_expr (pe_call G_check_many (hr.mono (by decide)) (by rfl) m_check_many k_check_many b_check_many .nil (passes_call (takes_of rfl rfl rfl rfl) (fun _ _ _ _ h => h)) (pa_cons (pv 1) (pa_cons (pe_glob (v := .int 6) (by rfl) T.g_MOST_TABLED_THINGS.choose_spec ⟨_, rfl⟩) pa_nil)))))
      (psas_cons (psa_expr (pea_super lk ⟨SC.isD, SC.sub, SC.cell, SC.code, SC.sup, SC.tg, SC.fg, SC.opq, SC.nosup⟩ hfile htop rfl rfl rfl rfl rfl rfl rfl rfl rfl rfl rfl G_Rule___init__ b_Rule___init__ (hr.mono (by decide)) (passes_call (takes_of rfl rfl rfl rfl) (fun _ _ _ _ h => h)) (pa_cons (pv 1) pa_nil) rfl rfl rfl rfl))
      (psas_pss (pss_cons (ps_if (pt_cmpR op_ne (pe_callB call_len_seq (by rfl) m_len (by decide +kernel) (pa_cons (pv 2) pa_nil)) (pe_op op_shl pe_int (pv 1)) (nomark _)) (pss_one (ps_raise rfl (takes_of rfl rfl rfl rfl) (pmk_oex T.ox_BadTable ic_BadTable___init__ ti_BadTable___init__ G_BadTable___init__ (hr.mono (by decide)) b_BadTable___init__ .nil pass0 (by exact rfl) T.g_BadTable (pa_cons pe_non pa_nil)))) pss_nil)
      (pss_cons (ps_for (passes_of rfl) rfl (pi_enum (by rfl) m_enumerate (pa_cons (pv 2) pa_nil)) (pg_tup rfl (pgs_cons (pg_name (i := 4) sc_Tabled___init__.nd rfl (Or.inl rfl)) (pgs_cons (pg_name (i := 5) sc_Tabled___init__.nd rfl (Or.inl rfl)) pgs_nil)))
      (pss_one (ps_if (PW.pt (pw_or (pt_cmpR op_ne (pe_callB call_len_seq (by rfl) m_len (by decide +kernel) (pa_cons (pv 5) pa_nil)) (pe_op op_add (pv 1) pe_int) (nomark _)) (pw_or1 (pt_not (pt_val (pe_call G__fits (hr.mono (by decide)) (by rfl) m__fits k__fits b__fits .nil pass0 (pa_cons (pv 5) (pa_cons (pe_call G_lot_at (hr.mono (by decide)) (by rfl) m_lot_at k_lot_at b_lot_at .nil pass0 (pa_cons (pv 4) (pa_cons (pv 1) pa_nil))) pa_nil)))))))) (pss_one (ps_raise rfl (takes_of rfl rfl rfl rfl) (pmk_oex T.ox_BadTable ic_BadTable___init__ ti_BadTable___init__ G_BadTable___init__ (hr.mono (by decide)) b_BadTable___init__ .nil pass0 (by exact rfl) T.g_BadTable (pa_cons (pv 4) pa_nil)))) pss_nil)))
      (pss_one (ps_fld (pv 0) (pe_callTy call_tuple_of (by rfl) m_tuple (by decide +kernel) (pa_cons (pe_lc (own := [("row", 5)]) (g := (gName 5)) (tt := tYes) rfl sc_Tabled___init__.nd (pi_list (pv 2)) (blkOk_by (own := [("row", 5)]) (N := ["self", "many", "rows", "__class__", "number", "row"]) (sc := defScope s_Tabled___init__) (by decide +kernel)) (fun _ _ _ _ _ => (pg_name (i := 5) sc_Tabled___init__.nd rfl (Or.inl rfl))) (fun _ _ _ _ _ => pts_nil) (fun _ _ _ _ _ => (pe_call G__reduced_row (hr.mono (by decide)) (by rfl) m__reduced_row k__reduced_row b__reduced_row .nil pass0 (pa_cons (pv 5) pa_nil)))) pa_nil)) rfl))))))), ?_⟩
    refine ⟨_, rfl, (m : Int), 6, rfl, fun e d nd => kM m (dueT_many (by omega)) _ d (SameX.new nd) upd_same, fun e6 => ?_⟩
    have e6 : ¬ m > 6 := by omega
    refine ⟨p, dx, [], rfl, hp, _, rfl, p, dx, [], (m : Int), rfl, hp, Nat.zero_le _, fun e d nd => absurd e (by omega), fun e24 => ?_⟩
    have x1 : SameX p H (upd H p (.ins C_Tabled dx (putF "many" (.int (m : Int)) []))) := SameX.put
    have hp1 : upd H p (.ins C_Tabled dx (putF "many" (.int (m : Int)) [])) p = some (.ins C_Tabled dx (putF "many" (.int (m : Int)) [])) := upd_same
    generalize upd H p (.ins C_Tabled dx (putF "many" (.int (m : Int)) [])) = H1 at x1 hp1 ⊢
    have hL1 := lst_sx hp x1 hL
    have row1 := row.sx hp x1
    have rl := row.1
    refine ⟨_, rfl, L, _, rfl, .inl (lst_l hL1), _, rfl, 1, (m : Int), rfl, rfl, ⟨by omega, by omega, by decide⟩, rfl, _, rfl, ite2N (fun c => ?_) (fun c => ?_)⟩
    · have c2 : rows.length ≠ 2 ^ m := fun z => c (congrArg V.int (by
        rw [List.length_map, rl, z, Int.toNat_natCast, Int.one_mul]
        exact Int.natCast_pow 2 m))
      exact ⟨(by show 1 ≤ 1000; decide), fun a na => ⟨a, _, rfl, upd_same, fun dx2 nd ne => raise1 (fun d nd => kT (dueT_table e6 c2) _ _ (x1.trans (same_sx ((same_upd nd)))) upd_same) na nd ne⟩⟩
    have c := V.int.inj c
    rw [List.length_map, rl, Int.toNat_natCast, Int.one_mul] at c
    have c2 : rows.length = 2 ^ m := by
      have : ((2 ^ m : Nat) : Int) = 2 ^ m := Int.natCast_pow 2 m
      omega
    have dr := dueT_rest e6 c2
    refine ⟨_, rfl, L, _, rfl, lst_l hL1, ?_⟩
    refine for_it (walk_enum (K := K) (a := L) (xs := us.map V.ref)) (fun i σ H2 => ∃ y1 y2 : Option V, σ = [some (.ref p), some (.int (m : Int)), some (.ref L), none, y1, y2] ∧ Same H1 H2 ∧ badT m rows 0 = badT m (rows.drop i) i) ⟨none, none, rfl, Same.refl _, rfl⟩ ?_ ?_ ?_
    · rintro i σ H2 _ ⟨_, _, _, sx, _⟩
      exact lst_l (sx L _ hL1)
    · rintro i x σ H2 H3 hi ⟨y1, y2, rfl, sx, hb⟩ ⟨tp, ix, nx, rfl, ntp, rfl, e1, e2⟩
      cases e1
      rw [List.length_map] at hi
      have h1 : us[i]? = some us[i] := List.getElem?_eq_getElem hi
      have h2 : rows[i]? = some rows[i] := List.getElem?_eq_getElem (by omega)
      have e2 : (us.map V.ref)[i]? = some nx := e2
      rw [List.getElem?_map, h1] at e2
      cases e2
      have hd := dropT h2
      have s3 := sx.trans (same_upd (o := .tup [V.int i, V.ref us[i]]) ntp)
      have hu := s3 _ _ (row1.2 i _ _ h1 h2)
      have l60 := (lw _ (List.mem_of_getElem? h2)).1
      generalize rows[i] = r at hu hd h2 l60
      rw [hd] at hb
      refine ⟨tp, _, rfl, tup_t upd_same, rfl, _, _, rfl, _, _, rfl, rfl, ?_⟩
      generalize upd H2 tp (.tup [V.int i, V.ref us[i]]) = H3 at s3 hu ⊢
      refine ⟨_, rfl, us[i], _, rfl, .inl (lst_l hu), _, rfl, _, _, rfl, rfl, rfl, _, rfl, ite2N (fun c => ?_) (fun c => ?_)⟩
      · have no : ¬ rowOk m i r = true := fun z => c (congrArg V.int (by
          obtain ⟨b, ws, rfl, _, lw⟩ := row_nats z
          rw [czv_len, List.length_cons, lw]
          rfl))
        exact ⟨_, rfl, (by show 1 ≤ 1000; decide), fun a na => ⟨a, _, rfl, upd_same, fun dx2 nd ne => raise1 (fun d nd => kR i (by rw [dr, hb, badT_no no]) _ _ (x1.trans (same_sx (s3.trans (same_upd nd)))) upd_same) na nd ne⟩⟩
      have c := V.int.inj c
      rw [List.length_map] at c
      obtain ⟨t, cs, rfl⟩ : ∃ t cs, r = t :: cs := by
        cases r with
        | nil =>
          rw [List.length_nil] at c
          omega
        | cons t cs => exact ⟨t, cs, rfl⟩
      rw [List.length_cons] at c
      have cl : cs.length = m := by omega
      refine ⟨_, rfl, _, rfl, _, rfl, (i : Int), m, rfl, by omega, fun H4 l s4 nl hl => ?_⟩
      refine ⟨us[i], l, t, cs, lotOf i m, rfl, s4 _ _ hu, hl, by omega, fun H5 s5 => ?_⟩
      have s35 := (s3.trans s4).trans s5
      have ro : rowOk m i (t :: cs) = fitR (lotOf i m) t cs := by
        show (decide (cs.length = m) && fitR (lotOf i m) t cs) = _
        rw [decide_eq_true cl, Bool.true_and]
      cases e : fitR (lotOf i m) t cs with
      | true =>
        exact ⟨true, rfl, iteF ⟨_, _, rfl, s35, by rw [hb, badT_ok (ro.trans e)]⟩⟩
      | false =>
        have no : ¬ rowOk m i (t :: cs) = true := fun z => by
          rw [ro, e] at z
          cases z
        refine ⟨false, rfl, iteT ?_⟩
        exact ⟨_, rfl, (by show 1 ≤ 1000; decide), fun a na => ⟨a, _, rfl, upd_same, fun dx2 nd ne => raise1 (fun d nd => kR i (by rw [dr, hb, badT_no no]) _ _ (x1.trans (same_sx (s35.trans (same_upd nd)))) upd_same) na nd ne⟩⟩
    · rintro σ H2 ⟨y1, y2, rfl, sx, hb⟩
      rw [List.length_map, rl, List.drop_length] at hb
      have mk : dueT m rows = .made := by rw [dr, hb]; rfl
      have all := badT_all (hb.trans rfl)
      have hL2 := sx _ _ hL1
      have row2 := row1.same sx
      refine ⟨_, rfl, L, rfl, ⟨_, lst_l hL2⟩, fun D nD => lc_list (K := K) (a := L) (xs := us.map V.ref) (fun i H7 => ∃ zs : List Addr, Same H2 H7 ∧ H7 D = some (.lst (zs.map V.ref)) ∧ zs.length = i ∧ RowsT H7 zs ((rows.take i).map divI)) ⟨[], same_upd nD, upd_same, rfl, ⟨rfl, fun i u r h => by cases h⟩⟩ (fun i H7 _ ⟨_, s, _⟩ => lst_l (s _ _ hL2)) ?_ ?_⟩
      · rintro i x H7 hi ⟨zs, s7, hD, lz, rz⟩
        have i1 : i < us.length := by
          have := (List.getElem?_eq_some_iff.mp hi).1
          rw [List.length_map] at this
          exact this
        have h1 : us[i]? = some us[i] := List.getElem?_eq_getElem i1
        have h2 : rows[i]? = some rows[i] := List.getElem?_eq_getElem (by omega)
        rw [List.getElem?_map, h1] at hi
        cases hi
        have hu := s7 _ _ (row2.2 i _ _ h1 h2)
        have bnd := lw _ (List.mem_of_getElem? h2)
        obtain ⟨b, ws, e, b0, wl⟩ := row_nats (all i _ h2)
        rw [e] at hu bnd
        have b1 : b < 2 ^ 90 := by
          have := bnd.2 (b : Int) (by unfold cz; exact List.mem_map.mpr ⟨b, List.mem_cons_self, rfl⟩)
          omega
        refine ⟨rfl, ?_⟩
        refine lc_yes ?_
        refine iteT ?_
        refine ⟨_, rfl, us[i], b, ws, rfl, hu, by omega, b0, b1, fun H8 t s8 ht8 => ?_⟩
        have hD8 := s8 _ _ hD
        refine ⟨_, hD8, ?_, zs ++ [t], same_mut (s7.trans s8) nD, ?_, ?_, ?_⟩
        · rw [List.length_map]
          exact small1000 (by omega)
        · rw [upd_same, List.map_append]
          rfl
        · rw [List.length_append, lz]
          rfl
        · rw [List.take_add_one, h2, List.map_append]
          refine RowsT.put hD8 (RowsT.snoc (rz.same s8) ?_)
          rw [e, divI_cz]
          exact ht8
      · rintro H7 ⟨zs, s7, hD, lz, rz⟩
        rw [List.length_map, rl, List.take_length] at rz
        refine ⟨D, _, rfl, .inl ⟨lst_l hD, fun t nt => ?_⟩⟩
        have s8 := (sx.trans s7).trans (same_upd (o := .tup (zs.map V.ref)) nt)
        have hp7 := s8 _ _ hp1
        have pt : t ≠ p := fun z => by
          rw [z, s7 _ _ (sx _ _ hp1)] at nt
          cases nt
        refine ⟨_, rfl, p, C_Tabled, dx, _, rfl, hp7, T.cl_Tabled, T.n_Tabled_rows, (by show 1 < 1000; decide), ?_⟩
        have x9 : SameX p (upd H7 t (.tup (zs.map V.ref))) (upd (upd H7 t (.tup (zs.map V.ref))) p (.ins C_Tabled dx (fT m t))) := SameX.put
        exact q mk _ ((x1.trans (same_sx s8)).trans x9) ⟨dx, t, zs, upd_same, x9 _ _ pt upd_same, (rz.same (same_upd nt)).sx hp7 x9⟩
/-- Ratio(t, b): ZeroBottom, or the fraction in lowest terms -/
def sp_Ratio___init__ (C CZ : Addr) : Sp := fun vs H Q E => ∃ (x dx : Addr) (t b : Int), vs = [.ref x, .int t, .int b] ∧ H x = some (.ins C dx []) ∧ (b ≠ 0 → Sm b) ∧ (b = 0 → E (.ref CZ) none H) ∧
  (b ≠ 0 → ∀ H', RatAt C H' x (nT t b) (nB t b) → (∀ c o, H c = some o → c ≠ x → H' c = some o) → Q .non H')

theorem ok_Ratio___init__ {f : Addr} {fd : FuncData} {C_Tabled C_Ratio C_TooMany C_BadTable C_ZeroBottom C_BadLot : Addr} (F : FunD K "__init__" "Ratio.__init__" (defArgs s_Ratio___init__) (defBody s_Ratio___init__) (defScope s_Ratio___init__) [V.int 1] [] f fd) (T : Txt K mg C_Tabled C_Ratio C_TooMany C_BadTable C_ZeroBottom C_BadLot) : FnOk P w K mg base (L2.CX P w) 1 f fd ["self", "top", "bottom"] (sp_Ratio___init__ C_Ratio C_ZeroBottom) := by
  refine FunD.ok (CX := (L2.CX P w)) F sc_Ratio___init__ (fun vs H Q E h => ?_) (fun cdv A outer s H vs Q E hr h => ?_)
  · obtain ⟨x, dx, t, b, rfl, _⟩ := h
    rfl
  · obtain ⟨x, dx, t, b, rfl, hx, hsm, kE, kQ⟩ := h
    refine ⟨_, (pss_cons (ps_if (pt_cmpR op_eq (pv 2) pe_int (nomark _)) (pss_one (ps_raise rfl (takes_of rfl rfl rfl rfl) (pmk_own PySem.F.excBase_ValueError T.x_ZeroBottom T.g_ZeroBottom T.kc_ZeroBottom (raises_own T.b_ZeroBottom T.t_ZeroBottom) (by exact rfl)))) pss_nil)
      (pss_cons (ps_set (i := 3) sc_Ratio___init__.nd rfl (Or.inl rfl) (pe_callBfun cr_gcd (by rfl) T.g_gcd (pa_cons (pv 1) (pa_cons (pv 2) pa_nil))))
      (Evl.pss_cut (ps_if (pt_cmpR op_lt (pv 2) pe_int (nomark _)) (pss_one (ps_set (i := 3) sc_Ratio___init__.nd rfl (Or.inl rfl) (pe_un un_neg (pv 3)))) pss_nil)
      (pss_cons (ps_fld (pv 0) (pe_op op_fdivWN (pv 1) (pv 3)) rfl)
      (pss_one (ps_fld (pv 0) (pe_op op_fdivWN (pv 2) (pv 3)) rfl)))))), ?_⟩
    refine ⟨_, rfl, rfl, _, rfl, ite2 (fun e => ?_) (fun e => ?_)⟩
    · have e := V.int.inj (of_decide_eq_true e)
      exact kE e
    · have hb : b ≠ 0 := fun z => e (decide_eq_true (congrArg V.int z))
      refine ⟨_, rfl, _, rfl, t, b, rfl, ?_⟩
      refine ⟨fun σ' H' => H' = H ∧ σ' = [some (.ref x), some (.int t), some (.int b), some (.int (rd t b))], ?_, ?_⟩
      · refine ⟨_, rfl, _, _, rfl, rfl, _, rfl, ite2 (fun e2 => ?_) (fun e2 => ?_)⟩
        · have e2 := of_decide_eq_true e2
          refine ⟨_, rfl, _, rfl, rfl, ?_⟩
          rw [show rd t b = -(rg t b) from if_pos e2]
          rfl
        · have e2 : ¬ b < 0 := fun z => e2 (decide_eq_true z)
          refine ⟨rfl, ?_⟩
          rw [show rd t b = rg t b from if_neg e2]
          rfl
      · rintro σ' H' ⟨rfl, rfl⟩
        refine ⟨_, rfl, _, rfl, t, rd t b, rfl, rfl, rd_div hb (hsm hb) t, _, rfl, x, C_Ratio, dx, [], rfl, hx, T.cl_Ratio, T.n_Ratio_top, (by show 0 < 1000; decide), ?_⟩
        refine ⟨_, rfl, _, rfl, b, rd t b, rfl, rfl, rd_div hb (hsm hb) b, _, rfl, x, C_Ratio, dx, _, rfl, upd_same, T.cl_Ratio, T.n_Ratio_bottom, (by show 1 < 1000; decide), ?_⟩
        refine kQ hb _ ⟨dx, Eq.trans upd_same (congrArg (fun q => some (HO.ins C_Ratio dx q)) (rF_new _ _))⟩ fun c o e hc => ?_
        rw [upd_ne hc, upd_ne hc]
        exact e

/-- how a caller makes a Ratio that there is -/
theorem mk_rat {C CZ : Addr} {t b : Int} {H : Hp} {G : Addr → Hp → Prop} {E : XK} (hb : b ≠ 0) (hs : Sm b) (k : ∀ x H', Same H H' → H x = none → RatAt C H' x (nT t b) (nB t b) → G x H') :
    ∀ x dx, H x = none → H dx = none → dx ≠ x → sp_Ratio___init__ C CZ [.ref x, .int t, .int b] (upd (upd H dx (.own x)) x (.ins C dx [])) (fun v H2 => v = .non ∧ G x H2) E :=
  fun x dx nx nd _ => ⟨x, dx, t, b, rfl, upd_same, fun _ => hs, fun z => absurd z hb, fun _ H' r kp => ⟨rfl, k x H' (Same.made nx nd kp) nx r⟩⟩
def sp__as_ratio (C : Addr) : Sp := fun vs H Q _ => ∃ (y : V) (T B : Int), vs = [y] ∧ NumAt C H y T B ∧ ∀ H' q, Same H H' → RatAt C H' q T B → Q (.ref q) H'
theorem ok__as_ratio {f : Addr} {fd : FuncData} {C_Tabled C_Ratio C_TooMany C_BadTable C_ZeroBottom C_BadLot : Addr} (F : Fun K "_as_ratio" "_as_ratio" s__as_ratio f fd) (T : Txt K mg C_Tabled C_Ratio C_TooMany C_BadTable C_ZeroBottom C_BadLot) (m_isinstance : mg "isinstance" = none) (c_Ratio___init__ : CalI P w K mg base (L2.CX P w) 1 C_Ratio ["self", "top", "bottom"] (sp_Ratio___init__ C_Ratio C_ZeroBottom) [V.int 1]) : FnOk P w K mg base CX0 3 f fd ["number"] (sp__as_ratio C_Ratio) := by
  refine F.ok sc__as_ratio (fun vs H Q E h => ?_) (fun cdv A outer s H vs Q E hr h => ?_)
  · obtain ⟨y, T1, B, rfl, _⟩ := h
    rfl
  · obtain ⟨y, T1, B, rfl, hy, q⟩ := h
    obtain ⟨f_Ratio___init__, fd_Ratio___init__, G_Ratio___init__, M_Ratio___init__, b_Ratio___init__, ds_Ratio___init__, vd_Ratio___init__, bd_Ratio___init__⟩ := c_Ratio___init__
    refine ⟨_, (pss_cons (ps_if (pt_val (pe_callB call_isi (by rfl) m_isinstance (by decide +kernel) (pa_cons (pv 0) (pa_cons (pe_glob (v := .ref C_Ratio) (by rfl) T.g_Ratio rfl) pa_nil)))) (pss_one (ps_ret (pv 0))) pss_nil)
      (pss_one (ps_ret (pe_make M_Ratio___init__ G_Ratio___init__ (hr.mono (by decide)) (by rfl) T.g_Ratio bd_Ratio___init__ vd_Ratio___init__ passL (pa_cons (pv 0) pa_nil))))), ?_⟩
    rcases hy with ⟨p, rfl, dx, hp⟩ | ⟨rfl, rfl⟩
    · refine ⟨.ref p, rfl, .ref p, .ref C_Ratio, .ref C_Ratio, .ref C_Ratio, true, rfl, .own C_Ratio, .base (.ins hp T.cl_Ratio T.ha_Ratio T.hnc T.htk T.hm_Ratio), T.kit_Ratio_Ratio, true, rfl, iteT ?_⟩
      exact ⟨_, rfl, q H p (Same.refl H) ⟨dx, hp⟩⟩
    · refine ⟨_, rfl, .int T1, .ref C_Ratio, .type "int", .ref C_Ratio, false, rfl, .own C_Ratio, .base (.int T1), T.kit_int_Ratio, false, rfl, iteF ?_⟩
      refine ⟨_, rfl, mk_rat (t := T1) (b := 1) (by decide) (sm_of (n := 1) (by decide)) fun x H5 e5 nx r => ?_⟩
      obtain ⟨e1, e2⟩ := low_uniq (by decide) (low (t := T1) (b := 1) (by decide)) (low_int T1)
      rw [e1, e2] at r
      exact q H5 x e5 r
def sp_Ratio___neg__ (C : Addr) : Sp := fun vs H Q _ => ∃ (p : Addr) (T1 B1 : Int), vs = [.ref p] ∧ RatAt C H p T1 B1 ∧ 0 < B1 ∧ Sm B1 ∧ ∀ H' r T B, Same H H' → RatAt C H' r T B → LowT (-T1) B1 T B → Q (.ref r) H'
theorem ok_Ratio___neg__ {f : Addr} {fd : FuncData} {C_Tabled C_Ratio C_TooMany C_BadTable C_ZeroBottom C_BadLot : Addr} (F : Fun K "__neg__" "Ratio.__neg__" s_Ratio___neg__ f fd) (T : Txt K mg C_Tabled C_Ratio C_TooMany C_BadTable C_ZeroBottom C_BadLot) (c_Ratio___init__ : CalI P w K mg base (L2.CX P w) 1 C_Ratio ["self", "top", "bottom"] (sp_Ratio___init__ C_Ratio C_ZeroBottom) [V.int 1]) : FnOk P w K mg base CX0 3 f fd ["self"] (sp_Ratio___neg__ C_Ratio) := by
  refine F.ok sc_Ratio___neg__ (fun vs H Q E h => ?_) (fun cdv A outer s H vs Q E hr h => ?_)
  · obtain ⟨p, T1, B1, rfl, _⟩ := h
    rfl
  · obtain ⟨p, T1, B1, rfl, ⟨dx, hp⟩, p1, s1, q⟩ := h
    obtain ⟨f_Ratio___init__, fd_Ratio___init__, G_Ratio___init__, M_Ratio___init__, b_Ratio___init__, ds_Ratio___init__, vd_Ratio___init__, bd_Ratio___init__⟩ := c_Ratio___init__
    refine ⟨_, (pss_one (ps_ret (pe_make M_Ratio___init__ G_Ratio___init__ (hr.mono (by decide)) (by rfl) T.g_Ratio b_Ratio___init__ .nil passL (pa_cons (pe_un un_neg (pe_fld (pv 0) rfl)) (pa_cons (pe_fld (pv 0) rfl) pa_nil))))), ?_⟩
    refine ⟨.ref p, rfl, p, C_Ratio, dx, _, _, rfl, hp, T.cl_Ratio, T.n_Ratio_top, rF_top T1 B1, T1, rfl, .ref p, rfl, p, C_Ratio, dx, _, _, rfl, hp, T.cl_Ratio, T.n_Ratio_bottom, rF_bot T1 B1, mk_rat (t := -T1) (b := B1) (by omega) s1 fun x H5 e5 nx r => ?_⟩
    exact q H5 x _ _ e5 r (low (by omega))
def sp_Ratio___add__ (C : Addr) : Sp := fun vs H Q _ => ∃ (p : Addr) (y : V) (T1 B1 T2 B2 : Int), vs = [.ref p, y] ∧ RatAt C H p T1 B1 ∧ NumAt C H y T2 B2 ∧ 0 < B1 ∧ 0 < B2 ∧ Sm T1 ∧ Sm B1 ∧ Sm T2 ∧ Sm B2 ∧ Sm (B1 * B2) ∧
  ∀ H' r T B, Same H H' → RatAt C H' r T B → LowT (T1 * B2 + T2 * B1) (B1 * B2) T B → Q (.ref r) H'
theorem ok_Ratio___add__ {f : Addr} {fd : FuncData} {C_Tabled C_Ratio C_TooMany C_BadTable C_ZeroBottom C_BadLot : Addr} (F : Fun K "__add__" "Ratio.__add__" s_Ratio___add__ f fd) (T : Txt K mg C_Tabled C_Ratio C_TooMany C_BadTable C_ZeroBottom C_BadLot) (c__as_ratio : Cal P w K mg base CX0 3 "_as_ratio" ["number"] (sp__as_ratio C_Ratio)) (c_Ratio___init__ : CalI P w K mg base (L2.CX P w) 1 C_Ratio ["self", "top", "bottom"] (sp_Ratio___init__ C_Ratio C_ZeroBottom) [V.int 1]) : FnOk P w K mg base CX0 4 f fd ["self", "other"] (sp_Ratio___add__ C_Ratio) := by
  refine F.ok sc_Ratio___add__ (fun vs H Q E h => ?_) (fun cdv A outer s H vs Q E hr h => ?_)
  · obtain ⟨p, y, T1, B1, T2, B2, rfl, _⟩ := h
    rfl
  · obtain ⟨p, y, T1, B1, T2, B2, rfl, hp, hy, p1, p2, s1, s2, s3, s4, s5, q⟩ := h
    obtain ⟨f__as_ratio, fd__as_ratio, G__as_ratio, m__as_ratio, k__as_ratio, b__as_ratio⟩ := c__as_ratio
    obtain ⟨f_Ratio___init__, fd_Ratio___init__, G_Ratio___init__, M_Ratio___init__, b_Ratio___init__, ds_Ratio___init__, vd_Ratio___init__, bd_Ratio___init__⟩ := c_Ratio___init__
    refine ⟨_, (pss_cons (ps_set (i := 2) sc_Ratio___add__.nd rfl (Or.inl rfl) (pe_call G__as_ratio (hr.mono (by decide)) (by rfl) m__as_ratio k__as_ratio b__as_ratio .nil pass0 (pa_cons (pv 1) pa_nil)))
      (pss_one (ps_ret (pe_make M_Ratio___init__ G_Ratio___init__ (hr.mono (by decide)) (by rfl) T.g_Ratio b_Ratio___init__ .nil passL (pa_cons (pe_op op_add (pe_op op_mulW (pe_fld (pv 0) rfl) (pe_fld (pv 2) rfl)) (pe_op op_mulW (pe_fld (pv 2) rfl) (pe_fld (pv 0) rfl))) (pa_cons (pe_op op_mulW (pe_fld (pv 0) rfl) (pe_fld (pv 2) rfl)) pa_nil)))))), ?_⟩
    refine ⟨y, rfl, y, T2, B2, rfl, hy, fun H1 z e1 rz => ?_⟩
    obtain ⟨dx, hp1⟩ := hp.same e1
    obtain ⟨dz, hz⟩ := rz
    have n0 : B1 * B2 ≠ 0 := Int.ne_of_gt (Int.mul_pos p1 p2)
    refine ⟨.ref p, rfl, p, C_Ratio, dx, _, _, rfl, hp1, T.cl_Ratio, T.n_Ratio_top, rF_top T1 B1, .ref z, rfl, z, C_Ratio, dz, _, _, rfl, hz, T.cl_Ratio, T.n_Ratio_bottom, rF_bot T2 B2, T1, B2, rfl, rfl, s1.mul s4, ?_⟩
    refine ⟨.ref z, rfl, z, C_Ratio, dz, _, _, rfl, hz, T.cl_Ratio, T.n_Ratio_top, rF_top T2 B2, .ref p, rfl, p, C_Ratio, dx, _, _, rfl, hp1, T.cl_Ratio, T.n_Ratio_bottom, rF_bot T1 B1, T2, B1, rfl, rfl, s3.mul s2, _, _, rfl, rfl, ?_⟩
    refine ⟨.ref p, rfl, p, C_Ratio, dx, _, _, rfl, hp1, T.cl_Ratio, T.n_Ratio_bottom, rF_bot T1 B1, .ref z, rfl, z, C_Ratio, dz, _, _, rfl, hz, T.cl_Ratio, T.n_Ratio_bottom, rF_bot T2 B2, B1, B2, rfl, rfl, s2.mul s4, ?_⟩
    exact mk_rat (t := T1 * B2 + T2 * B1) (b := B1 * B2) n0 s5 fun x H5 e5 nx r => q H5 x _ _ (e1.trans e5) r (low n0)

theorem sum_take1 {ns : List Int} {i : Nat} {n : Int} (h : ns[i]? = some n) : (ns.take (i + 1)).sum = (ns.take i).sum + n := by
  rw [List.take_add_one, h, List.sum_append]
  simp
/-- sum(rs, start=Ratio(0)): all items over one bottom d -/
theorem sum_rats {K : PySem.W.Frag} {C l x0 : Addr} {H : Hp} {rs : List Addr} {ns : List Int} {d : Int} {Q : VK} (d0 : 0 < d) (sd : Sm d) (sdd : Sm (d * d)) (sS : ∀ i, Sm ((ns.take i).sum)) (sN : ∀ n ∈ ns, Sm n) (hl : H l = some (.lst (rs.map V.ref))) (lr : rs.length = ns.length)
    (hr : ∀ (i : Nat) (r : Addr) (n : Int), rs[i]? = some r → ns[i]? = some n → ∃ T B, RatAt C H r T B ∧ LowT n d T B) (h0 : ∃ T B, RatAt C H x0 T B ∧ LowT 0 1 T B)
    (q : ∀ H' r T B, Same H H' → RatAt C H' r T B → LowT ns.sum d T B → Q (.ref r) H') : rSumO K C (sp_Ratio___add__ C) [.ref l] [.ref x0] H Q := by
  have dn : d ≠ 0 := by omega
  refine ⟨l, rs.map V.ref, .ref x0, fun i x H' => ∃ r T B, x = .ref r ∧ Same H H' ∧ RatAt C H' r T B ∧ LowT (ns.take i).sum d T B, rfl, rfl, ?_, ?_, ?_, ?_⟩
  · obtain ⟨T, B, r0, lo⟩ := h0
    exact ⟨x0, T, B, rfl, Same.refl H, r0, lo.to (by decide) dn (by rw [List.take_zero]; show 0 * d = 0 * 1; omega)⟩
  · rintro i x H' ⟨r, T, B, rfl, s, ra, lo⟩
    obtain ⟨dx, e⟩ := ra
    exact ⟨lst_l (s _ _ hl), r, dx, _, rfl, e⟩
  · rintro i x y H' ⟨r, T1, B1, rfl, s, ra, lo⟩ hy
    rw [List.getElem?_map] at hy
    obtain ⟨r2, e2, rfl⟩ : ∃ r2, rs[i]? = some r2 ∧ V.ref r2 = y := by
      cases e : rs[i]? with
      | none =>
        rw [e] at hy
        cases hy
      | some z =>
        rw [e] at hy
        exact ⟨z, rfl, Option.some.inj hy⟩
    have lt : i < ns.length := lr ▸ (List.getElem?_eq_some_iff.mp e2).1
    have en : ns[i]? = some ns[i] := List.getElem?_eq_getElem lt
    obtain ⟨T2, B2, rb, lo2⟩ := hr i r2 _ e2 en
    have rb2 := rb.same s
    obtain ⟨dy, ey⟩ := id rb2
    refine ⟨⟨r2, dy, _, rfl, ey⟩, ?_⟩
    have p1 := lo.pos
    have p2 := lo2.pos
    have n12 : B1 * B2 ≠ 0 := Int.ne_of_gt (Int.mul_pos p1 p2)
    refine ⟨r, .ref r2, T1, B1, T2, B2, rfl, ra, rb2.num, p1, p2, (sS i).le lo.leT, sd.le lo.leB, (sN _ (List.getElem_mem lt)).le lo2.leT, sd.le lo2.leB, sdd.le ?_, fun H2 r3 T B s2 r3a lo3 => ?_⟩
    · rw [Int.natAbs_mul, Int.natAbs_mul]
      exact Nat.mul_le_mul lo.leB lo2.leB
    · refine ⟨r3, T, B, rfl, s.trans s2, r3a, lo3.to n12 dn ?_⟩
      rw [sum_take1 en]
      have e1 := lo.eq
      have e2 := lo2.eq
      generalize (ns.take i).sum = S at e1 ⊢
      generalize ns[i] = n at e2 ⊢
      grind
  · rintro x H' ⟨r, T, B, rfl, s, ra, lo⟩
    rw [List.length_map, lr, List.take_length] at lo
    exact q H' r T B s ra lo
def sp_Ratio___rsub__ (C : Addr) : Sp := fun vs H Q _ => ∃ (p : Addr) (y : V) (T1 B1 T2 B2 : Int), vs = [.ref p, y] ∧ RatAt C H p T1 B1 ∧ NumAt C H y T2 B2 ∧ 0 < B1 ∧ 0 < B2 ∧ Sm T1 ∧ Sm B1 ∧ Sm T2 ∧ Sm B2 ∧ Sm (B1 * B2) ∧
  ∀ H' r T B, Same H H' → RatAt C H' r T B → LowT (T2 * B1 - T1 * B2) (B1 * B2) T B → Q (.ref r) H'
theorem ok_Ratio___rsub__ {f : Addr} {fd : FuncData} {C_Tabled C_Ratio C_TooMany C_BadTable C_ZeroBottom C_BadLot : Addr} (F : Fun K "__rsub__" "Ratio.__rsub__" s_Ratio___rsub__ f fd) (T : Txt K mg C_Tabled C_Ratio C_TooMany C_BadTable C_ZeroBottom C_BadLot) (c_Ratio___neg__ : CalM P w K mg base CX0 3 C_Ratio "__neg__" ["self"] (sp_Ratio___neg__ C_Ratio)) (c_Ratio___add__ : CalM P w K mg base CX0 4 C_Ratio "__add__" ["self", "other"] (sp_Ratio___add__ C_Ratio)) : FnOk P w K mg base CX0 5 f fd ["self", "other"] (sp_Ratio___rsub__ C_Ratio) := by
  refine F.ok sc_Ratio___rsub__ (fun vs H Q E h => ?_) (fun cdv A outer s H vs Q E hr h => ?_)
  · obtain ⟨p, y, T1, B1, T2, B2, rfl, _⟩ := h
    rfl
  · obtain ⟨p, y, T1, B1, T2, B2, rfl, hp, hy, p1, p2, s1, s2, s3, s4, s5, q⟩ := h
    obtain ⟨f_Ratio___neg__, fd_Ratio___neg__, G_Ratio___neg__, M_Ratio___neg__, b_Ratio___neg__⟩ := c_Ratio___neg__
    obtain ⟨f_Ratio___add__, fd_Ratio___add__, G_Ratio___add__, M_Ratio___add__, b_Ratio___add__⟩ := c_Ratio___add__
    refine ⟨_, (pss_one (ps_ret (pe_op (op_own_Add M_Ratio___add__ T.sf_Ratio T.rf_Ratio_add T.int_add T.si_Ratio G_Ratio___add__ (hr.mono (by decide)) b_Ratio___add__ pass0) (pe_un (un_own M_Ratio___neg__ G_Ratio___neg__ (hr.mono (by decide)) b_Ratio___neg__ pass0) (pv 0)) (pv 1)))), ?_⟩
    refine ⟨.ref p, rfl, hp.self, p, T1, B1, rfl, hp, p1, s2, fun H2 m T3 B3 e2 rm lo => ?_⟩
    have e3 := lo.eq
    have p3 := lo.pos
    have n3 : B3 * B2 ≠ 0 := Int.ne_of_gt (Int.mul_pos p3 p2)
    have n0 : B1 * B2 ≠ 0 := Int.ne_of_gt (Int.mul_pos p1 p2)
    have sT : Sm T3 := s1.le (by have := lo.leT; omega)
    have sB : Sm B3 := s2.le lo.leB
    have s53 : Sm (B3 * B2) := s5.le (by
      rw [Int.natAbs_mul, Int.natAbs_mul]
      exact Nat.mul_le_mul_right _ lo.leB)
    have hy2 := hy.same e2
    refine ⟨y, rfl, rm.self, hy2.arg, m, y, T3, B3, T2, B2, rfl, rm, hy2, p3, p2, sT, sB, s3, s4, s53, fun H3 r T4 B4 e4 rr lo2 => ?_⟩
    exact q H3 r T4 B4 (e2.trans e4) rr (lo2.to n3 n0 (by grind))
def sp_Tabled_shares (K : PySem.W.Frag) (C CR CL : Addr) : Sp := fun vs H Q E => ∃ (p l : Addr) (rows : List (List Int)) (ns : List Int) (m : Nat), vs = [.ref p, .ref l] ∧ TAt C H p m rows ∧ H l = some (.tup (ns.map V.int)) ∧ m ≤ 24 ∧ ns.length ≤ 1000 ∧
  (lotB ns (-1) m = false → E (.ref CL) none H) ∧ (lotB ns (-1) m = true → ∃ (k : Nat) (t : Int) (cs : List Int), powSum ns = (k : Int) ∧ rows[k]? = some (t :: cs) ∧ t ≠ 0 ∧ Sm t ∧ cs.length ≤ 900 ∧ ∀ H' L (rs : List Addr), Same H H' → H L = none → H' L = some (.lst (rs.map V.ref)) → rs.length = cs.length →
    (∀ (i : Nat) (r : Addr) (c : Int), rs[i]? = some r → cs[i]? = some c → RatAt CR H' r (nT c t) (nB c t)) → Q (.ref L) H')
theorem ok_Tabled_shares {f : Addr} {fd : FuncData} {C_Tabled C_Ratio C_TooMany C_BadTable C_ZeroBottom C_BadLot : Addr} (F : Fun K "shares" "Tabled.shares" s_Tabled_shares f fd) (T : Txt K mg C_Tabled C_Ratio C_TooMany C_BadTable C_ZeroBottom C_BadLot) (c_check_lot : Cal P w K mg base (L2.CX P w) 1 "check_lot" ["lot", "many"] (sp_check_lot K C_BadLot)) (c_lot_number : Cal P w K mg base CX0 1 "lot_number" ["lot"] (sp_lot_number K)) (c_Ratio___init__ : CalI P w K mg base (L2.CX P w) 1 C_Ratio ["self", "top", "bottom"] (sp_Ratio___init__ C_Ratio C_ZeroBottom) [V.int 1]) : FnOk P w K mg base (L2.CX P w) 3 f fd ["self", "lot"] (sp_Tabled_shares K C_Tabled C_Ratio C_BadLot) := by
  refine F.okX sc_Tabled_shares (fun vs H Q E h => ?_) (fun cdv A outer s H vs Q E hr h => ?_)
  · obtain ⟨p, l, rows, ns, m, rfl, _⟩ := h
    rfl
  · obtain ⟨p, l, rows, ns, m, rfl, ⟨dx, tw, us, hp, htw, row⟩, hl, hm, nl, kE, q⟩ := h
    obtain ⟨f_check_lot, fd_check_lot, G_check_lot, m_check_lot, k_check_lot, b_check_lot⟩ := c_check_lot
    obtain ⟨f_lot_number, fd_lot_number, G_lot_number, m_lot_number, k_lot_number, b_lot_number⟩ := c_lot_number
    obtain ⟨f_Ratio___init__, fd_Ratio___init__, G_Ratio___init__, M_Ratio___init__, b_Ratio___init__, ds_Ratio___init__, vd_Ratio___init__, bd_Ratio___init__⟩ := c_Ratio___init__
    refine ⟨_, (pss_cons (ps_expr (pe_call G_check_lot (hr.mono (by decide)) (by rfl) m_check_lot k_check_lot b_check_lot .nil (passes_call (takes_of rfl rfl rfl rfl) (fun _ _ _ _ h => h)) (pa_cons (pv 1) (pa_cons (pe_fld (pv 0) rfl) pa_nil))))
      (pss_cons (ps_asg (pe_ix ix_tup (pe_fld (pv 0) rfl) (pe_call G_lot_number (hr.mono (by decide)) (by rfl) m_lot_number k_lot_number b_lot_number .nil pass0 (pa_cons (pv 1) pa_nil)) (fun _ _ => rfl)) (pg_st1T rfl (pg_name (i := 2) sc_Tabled_shares.nd rfl (Or.inr rfl)) (pg_name (i := 3) sc_Tabled_shares.nd rfl (Or.inl rfl))))
      (pss_one (ps_ret (pe_lc (own := [("count", 4)]) (g := (gName 4)) (tt := tYes) rfl sc_Tabled_shares.nd (pi_list (pv 3)) (blkOk_by (own := [("count", 4)]) (N := ["self", "lot", "total", "counts", "count"]) (sc := defScope s_Tabled_shares) (by decide +kernel)) (fun _ _ _ _ _ => (pg_name (i := 4) sc_Tabled_shares.nd rfl (Or.inl rfl))) (fun _ _ _ _ _ => pts_nil) (fun _ _ _ _ _ => (pe_make M_Ratio___init__ G_Ratio___init__ (hr.mono (by decide)) (by rfl) T.g_Ratio b_Ratio___init__ .nil passL (pa_cons (pv 4) (pa_cons (pv 2) pa_nil))))))))), ?_⟩
    refine ⟨_, rfl, _, rfl, p, C_Tabled, dx, _, _, rfl, hp, T.cl_Tabled, T.n_Tabled_many, fT_many _ _, l, ns, _, rfl, tup_t hl, kE, fun ok => ?_⟩
    obtain ⟨k, t, cs, ek, gk, t0, sm, cl, q⟩ := q ok
    have inl := lotB_in ok
    have lk := (List.getElem?_eq_some_iff.mp gk).1
    obtain ⟨u, gu⟩ : ∃ u, us[k]? = some u := ⟨_, List.getElem?_eq_getElem (by have := row.1; omega)⟩
    have hu := row.2 k _ _ gu gk
    refine ⟨_, rfl, p, C_Tabled, dx, _, _, rfl, hp, T.cl_Tabled, T.n_Tabled_rows, fT_rows _ _, _, rfl, l, ns, rfl, tup_t hl, nl, fun x hx => by have := inl x hx; omega, fun H1 s1 => ?_⟩
    refine ⟨tw, _, _, .ref u, rfl, rfl, tup_t (s1 _ _ htw), at_of ek (by rw [List.getElem?_map, gu]; rfl), ?_⟩
    refine ⟨u, .int t, cs.map V.int, rfl, tup_t (s1 _ _ hu), by rw [List.length_map]; omega, fun D nD => ?_⟩
    have s2 := s1.trans (same_upd (o := .lst (cs.map V.int)) nD)
    have hD : upd H1 D (.lst (cs.map V.int)) D = some (.lst (cs.map V.int)) := upd_same
    generalize upd H1 D (.lst (cs.map V.int)) = H2 at s2 hD ⊢
    refine ⟨_, rfl, D, rfl, ⟨_, lst_l hD⟩, fun L nL => lc_list (K := K) (a := D) (xs := cs.map V.int) (fun i H4 => ∃ rs : List Addr, Same H2 H4 ∧ H4 L = some (.lst (rs.map V.ref)) ∧ rs.length = i ∧ ∀ (j : Nat) (r : Addr) (c : Int), rs[j]? = some r → cs[j]? = some c → RatAt C_Ratio H4 r (nT c t) (nB c t)) ⟨[], same_upd nL, upd_same, rfl, fun j r c h => by cases h⟩ (fun i H4 _ ⟨_, s, _⟩ => lst_l (s _ _ hD)) ?_ ?_⟩
    · rintro i x H4 hi ⟨rs, s4, hL, lr, hr⟩
      obtain ⟨c, rfl, hic⟩ := int_of hi
      have il := (List.getElem?_eq_some_iff.mp hic).1
      refine ⟨rfl, ?_⟩
      refine lc_yes ?_
      refine iteT ?_
      refine ⟨_, rfl, _, rfl, mk_rat t0 sm fun x H5 e5 nx rx => ?_⟩
      have hL5 := e5 _ _ hL
      have stay : ∀ {r : Addr} {T' B' : Int}, RatAt C_Ratio H5 r T' B' → RatAt C_Ratio (upd H5 L (.lst (rs.map V.ref ++ [V.ref x]))) r T' B' := fun {r T' B'} ⟨dx', e⟩ => ⟨dx', (upd_ne fun z => by
        rw [z, hL5] at e
        cases e).trans e⟩
      refine ⟨_, hL5, ?_, rs ++ [x], same_mut (s4.trans e5) nL, ?_, ?_, fun j r c2 h hc2 => ?_⟩
      · rw [List.length_map]
        exact small1000 (by omega)
      · rw [upd_same, List.map_append]
        rfl
      · rw [List.length_append, lr]
        rfl
      · by_cases hj : j < rs.length
        · rw [List.getElem?_append_left hj] at h
          exact stay ((hr j r c2 h hc2).same e5)
        · rw [List.getElem?_append_right (by omega)] at h
          obtain ⟨n, hn⟩ : ∃ n, j - rs.length = n := ⟨_, rfl⟩
          rw [hn] at h
          cases n with
          | zero =>
            have : j = i := by omega
            subst this
            cases h
            rw [hic] at hc2
            cases hc2
            exact stay rx
          | succ n => cases h
    · rintro H4 ⟨rs, s4, hL, lr, hr⟩
      rw [List.length_map] at lr
      exact q H4 L rs (s2.trans s4) (s2.free nL) hL lr hr
def sp_Rule_away (K : PySem.W.Frag) (C CR CL : Addr) : Sp := fun vs H Q E => ∃ (p l : Addr) (rows : List (List Int)) (ns : List Int) (m : Nat), vs = [.ref p, .ref l] ∧ TAt C H p m rows ∧ H l = some (.tup (ns.map V.int)) ∧ m ≤ 24 ∧ ns.length ≤ 1000 ∧
  (lotB ns (-1) m = false → E (.ref CL) none H) ∧ (lotB ns (-1) m = true → ∃ (k : Nat) (t : Int) (cs : List Int), powSum ns = (k : Int) ∧ rows[k]? = some (t :: cs) ∧ 0 < t ∧ Sm (t * t) ∧ (∀ c ∈ cs, 0 ≤ c) ∧ cs.sum ≤ t ∧ cs.length ≤ 900 ∧ ∀ H' r T B, Same H H' → RatAt CR H' r T B → LowT (t - cs.sum) t T B → Q (.ref r) H')
theorem ok_Rule_away {f : Addr} {fd : FuncData} {C_Tabled C_Ratio C_TooMany C_BadTable C_ZeroBottom C_BadLot : Addr} (F : Fun K "away" "Rule.away" s_Rule_away f fd) (T : Txt K mg C_Tabled C_Ratio C_TooMany C_BadTable C_ZeroBottom C_BadLot) (m_sum : mg "sum" = none) (c_Tabled_shares : CalM P w K mg base (L2.CX P w) 3 C_Tabled "shares" ["self", "lot"] (sp_Tabled_shares K C_Tabled C_Ratio C_BadLot)) (c_Ratio___init__ : CalI P w K mg base (L2.CX P w) 1 C_Ratio ["self", "top", "bottom"] (sp_Ratio___init__ C_Ratio C_ZeroBottom) [V.int 1]) (c_Ratio___add__ : CalM P w K mg base CX0 4 C_Ratio "__add__" ["self", "other"] (sp_Ratio___add__ C_Ratio)) (c_Ratio___rsub__ : CalM P w K mg base CX0 5 C_Ratio "__rsub__" ["self", "other"] (sp_Ratio___rsub__ C_Ratio)) : FnOk P w K mg base (L2.CX P w) 6 f fd ["self", "lot"] (sp_Rule_away K C_Tabled C_Ratio C_BadLot) := by
  refine F.okX sc_Rule_away (fun vs H Q E h => ?_) (fun cdv A outer s H vs Q E hr h => ?_)
  · obtain ⟨p, l, rows, ns, m, rfl, _⟩ := h
    rfl
  · obtain ⟨p, l, rows, ns, m, rfl, la, hl, hm, nl, kE, q⟩ := h
    obtain ⟨f_Tabled_shares, fd_Tabled_shares, G_Tabled_shares, M_Tabled_shares, b_Tabled_shares⟩ := c_Tabled_shares
    obtain ⟨f_Ratio___init__, fd_Ratio___init__, G_Ratio___init__, M_Ratio___init__, b_Ratio___init__, ds_Ratio___init__, vd_Ratio___init__, bd_Ratio___init__⟩ := c_Ratio___init__
    obtain ⟨f_Ratio___add__, fd_Ratio___add__, G_Ratio___add__, M_Ratio___add__, b_Ratio___add__⟩ := c_Ratio___add__
    obtain ⟨f_Ratio___rsub__, fd_Ratio___rsub__, G_Ratio___rsub__, M_Ratio___rsub__, b_Ratio___rsub__⟩ := c_Ratio___rsub__
    refine ⟨_, (pss_one (ps_ret (pe_op (op_ref_Sub M_Ratio___rsub__ T.sf_Ratio T.of_Ratio_sub T.sr_Ratio G_Ratio___rsub__ (hr.mono (by decide)) b_Ratio___rsub__ pass0) pe_int (pe_callBK (cr_sumO T.sum_Ratio M_Ratio___add__ rfl (fun _ => pass0) G_Ratio___add__ (hr.mono (by decide)) b_Ratio___add__) (by rfl) m_sum (by decide +kernel) (pa_cons (pe_meth (pv 0) T.cl_Tabled M_Tabled_shares G_Tabled_shares (hr.mono (by decide)) b_Tabled_shares .nil (passes_call (takes_of rfl rfl rfl rfl) (fun _ _ _ _ h => h)) (pa_cons (pv 1) pa_nil)) pa_nil) (pk_cons (pe_make M_Ratio___init__ G_Ratio___init__ (hr.mono (by decide)) (by rfl) T.g_Ratio bd_Ratio___init__ vd_Ratio___init__ (passes_call (takes_of rfl rfl rfl rfl) (fun _ _ _ _ h => h)) (pa_cons pe_int pa_nil)) pk_nil))))), ?_⟩
    obtain ⟨dx, tw, us, hp, htw, row⟩ := id la
    refine ⟨_, rfl, p, dx, _, rfl, hp, fT_shares _ _, .ref l, rfl, p, l, rows, ns, m, rfl, la, hl, hm, nl, kE, fun ok => ?_⟩
    obtain ⟨k, d, cs, ek, gk, d0, smm, nn, sle, cl, q⟩ := q ok
    have s0 : 0 ≤ cs.sum := sum_nn nn
    have sd : Sm d := smm.le (by
      rw [Int.natAbs_mul]
      exact Nat.le_mul_of_pos_right _ (by omega))
    refine ⟨k, d, cs, ek, gk, by omega, sd, cl, fun H1 L rs s1 nL hL lr hr => ?_⟩
    refine mk_rat (t := 0) (b := 1) (by decide) (sm_of (n := 1) (by decide)) fun x0 H2 s2 nx r0 => ?_
    have hL2 := s2 _ _ hL
    refine sum_rats (ns := cs) (d := d) d0 sd smm (fun i => sd.le ?_) (fun n hn => sd.le ?_) hL2 (by rw [lr]) (fun i r n hi hn => ?_) ⟨_, _, r0, low (by decide)⟩ fun H3 r T1 B1 s3 rr lo => ?_
    · have := take_le nn i
      omega
    · have h1 := nn n hn
      have h2 := mem_le nn n hn
      omega
    · exact ⟨_, _, (hr i r n hi hn).same s2, low (by omega)⟩
    have n0 : d ≠ 0 := by omega
    refine ⟨⟨1, rfl⟩, rr.self, r, .int 1, T1, B1, 1, 1, rfl, rr, .inr ⟨rfl, rfl⟩, lo.pos, by decide, sd.le (Nat.le_trans lo.leT (by omega)), sd.le lo.leB, sm_of (n := 1) (by decide), sm_of (n := 1) (by decide), by rw [Int.mul_one]; exact sd.le lo.leB, fun H4 z T2 B2 s4 rz lo2 => ?_⟩
    refine q H4 z T2 B2 (((s1.trans s2).trans s3).trans s4) rz (lo2.to (by have := lo.pos; omega) n0 ?_)
    have e1 := lo.eq
    generalize cs.sum = S at e1 ⊢
    grind
def sp_Tabled___eq__ (C : Addr) : Sp := fun vs H Q _ => ∃ (p y : Addr) (m w : Int) (r1 r2 : List (List Int)), vs = [.ref p, .ref y] ∧ TAt C H p m r1 ∧ TAt C H y w r2 ∧ Q (.bl (decide (m = w) && decide (r1 = r2))) H
theorem ok_Tabled___eq__ {f : Addr} {fd : FuncData} {C_Tabled C_Ratio C_TooMany C_BadTable C_ZeroBottom C_BadLot : Addr} (F : Fun K "__eq__" "Tabled.__eq__" s_Tabled___eq__ f fd) (T : Txt K mg C_Tabled C_Ratio C_TooMany C_BadTable C_ZeroBottom C_BadLot) (m_isinstance : mg "isinstance" = none) : FnOk P w K mg base CX0 1 f fd ["self", "other"] (sp_Tabled___eq__ C_Tabled) := by
  refine F.ok sc_Tabled___eq__ (fun vs H Q E h => ?_) (fun cdv A outer s H vs Q E hr h => ?_)
  · obtain ⟨p, y, m, w, r1, r2, rfl, _⟩ := h
    rfl
  · obtain ⟨p, y, m, w, r1, r2, rfl, ⟨d1, t1, u1, hp, ht1, row1⟩, ⟨d2, t2, u2, hy, ht2, row2⟩, q⟩ := h
    refine ⟨_, (pss_one (ps_ret (pe_and (pe_callB call_isi (by rfl) m_isinstance (by decide +kernel) (pa_cons (pv 1) (pa_cons (pe_glob (v := .ref C_Tabled) (by rfl) T.g_Tabled rfl) pa_nil))) (pe_and (pe_cmpR op_eq (pe_fld (pv 0) rfl) (pe_fld (pv 1) rfl) (nomark _)) (pe_one (pe_cmpR (op_eqD hr.units) (pe_fld (pv 0) rfl) (pe_fld (pv 1) rfl) (nomark _))))))), ?_⟩
    have dI : ∀ {i j : Int}, decide (V.int i = V.int j) = decide (i = j) := fun {i j} => decide_eq_decide.mpr ⟨fun z => V.int.inj z, fun z => congrArg V.int z⟩
    refine ⟨.ref y, rfl, .ref y, .ref C_Tabled, .ref C_Tabled, .ref C_Tabled, true, rfl, .own C_Tabled, .base (.ins hy T.cl_Tabled T.ha_Tabled T.hnc T.htk T.hm_Tabled), T.kit_Tabled_Tabled, true, rfl, iteT ?_⟩
    refine ⟨.ref p, rfl, p, C_Tabled, d1, _, _, rfl, hp, T.cl_Tabled, T.n_Tabled_many, fT_many _ _, .ref y, rfl, y, C_Tabled, d2, _, _, rfl, hy, T.cl_Tabled, T.n_Tabled_many, fT_many _ _, rfl, _, rfl, ?_⟩
    rw [dI]
    by_cases e : m = w
    · rw [decide_eq_true e] at q ⊢
      refine iteT ⟨.ref p, rfl, p, C_Tabled, d1, _, _, rfl, hp, T.cl_Tabled, T.n_Tabled_rows, fT_rows _ _, .ref y, rfl, y, C_Tabled, d2, _, _, rfl, hy, T.cl_Tabled, T.n_Tabled_rows, fT_rows _ _, ?_⟩
      refine ⟨_, _, .tup (tup_t ht1) (dp_allT row1), .tup (tup_t ht2) (dp_allT row2), sh_rowsT _, sh_rowsT _, ?_⟩
      rw [eqv_T]
      exact q
    · rw [decide_eq_false e] at q ⊢
      exact iteF q
def sp__law_cell (K : PySem.W.Frag) : Sp := fun vs H Q _ => ∃ (a : Addr) (ns : List Int) (j : Nat), vs = [.ref a, .int (j : Int)] ∧ SqL K H a (ns.map V.int) ∧ ∀ v : Int, Q (.int v) H
theorem ok__law_cell {f : Addr} {fd : FuncData} {C_Tabled C_Ratio C_TooMany C_BadTable C_ZeroBottom C_BadLot : Addr} (F : Fun K "_law_cell" "_law_cell" s__law_cell f fd) (T : Txt K mg C_Tabled C_Ratio C_TooMany C_BadTable C_ZeroBottom C_BadLot) (m_int : mg "int" = none) (m_len : mg "len" = none) : FnOk P w K mg base CX0 1 f fd ["_law_script", "_law_place"] (sp__law_cell K) := by
  refine F.ok sc__law_cell (fun vs H Q E h => ?_) (fun cdv A outer s H vs Q E hr h => ?_)
  · obtain ⟨a, ns, j, rfl, _⟩ := h
    rfl
  · obtain ⟨a, ns, j, rfl, hS, q⟩ := h
    refine ⟨_, (pss_cons (ps_if (pt_cmpR op_lt (pv 1) (pe_callB call_len_seq (by rfl) m_len (by decide +kernel) (pa_cons (pv 0) pa_nil)) (nomark _)) (pss_one (ps_ret (pe_callTy call_int1 (by rfl) m_int (by decide +kernel) (pa_cons (pe_ix ix_list (pv 0) (pv 1) (fun _ _ => rfl)) pa_nil)))) pss_nil)
      (pss_one (ps_ret pe_int))), ?_⟩
    refine ⟨_, rfl, .ref a, rfl, a, _, rfl, .inl hS, _, _, rfl, rfl, _, rfl, ite2 (fun e => ?_) (fun _ => q 0)⟩
    have hj : j < ns.length := by
      have e := of_decide_eq_true e
      rw [List.length_map] at e
      omega
    exact ⟨.ref a, rfl, .int (j : Int), rfl, a, _, _, _, rfl, rfl, hS, atI_nat (int_at (List.getElem?_eq_getElem hj)), .inl ⟨_, rfl, q _⟩⟩
def sp__law_draws (K : PySem.W.Frag) : Sp := fun vs H Q _ => ∃ (c : Int) (a : Addr) (ns : List Int), vs = [.int c, .ref a] ∧ SqL K H a (ns.map V.int) ∧ (∀ n ∈ ns, 0 < n ∧ n < 2 ^ 100) ∧ ns.length ≤ 1000 ∧
  ∀ ds H' p, Within ds ns → Same H H' → H p = none → H' p = some (.lst (ds.map V.int)) → Q (.ref p) H'

theorem ok__law_draws {f : Addr} {fd : FuncData} {C_Tabled C_Ratio C_TooMany C_BadTable C_ZeroBottom C_BadLot : Addr} (F : Fun K "_law_draws" "_law_draws" s__law_draws f fd) (T : Txt K mg C_Tabled C_Ratio C_TooMany C_BadTable C_ZeroBottom C_BadLot) (m_int : mg "int" = none) (m_len : mg "len" = none) (m_range : mg "range" = none) : FnOk P w K mg base CX0 1 f fd ["_law_cell_here", "_law_sizes"] (sp__law_draws K) := by
  refine F.ok sc__law_draws (fun vs H Q E h => ?_) (fun cdv A outer s H vs Q E hr h => ?_)
  · obtain ⟨c, a, ns, rfl, _⟩ := h
    rfl
  · obtain ⟨c, a, ns, rfl, hS, hn, hlen, q⟩ := h
    refine ⟨_, (pss_cons (ps_if (pt_cmpR op_eq (pv 0) pe_int (nomark _)) (pss_one (ps_ret (pe_lc (own := [("_law_size", 2)]) (g := (gName 2)) (tt := tYes) rfl sc__law_draws.nd (pi_list (pv 1)) (blkOk_by (own := [("_law_size", 2)]) (N := ["_law_cell_here", "_law_sizes", "_law_size", "_law_left", "_law_found", "_law_k", "_law_low", "_law_high"]) (sc := defScope s__law_draws) (by decide +kernel)) (fun _ _ _ _ _ => (pg_name (i := 2) sc__law_draws.nd rfl (Or.inl rfl))) (fun _ _ _ _ _ => pts_nil) (fun _ _ _ _ _ => pe_int)))) pss_nil)
      (pss_cons (ps_if (pt_cmpR op_ge (pv 0) (pe_op op_pow pe_int pe_int) (nomark _)) (pss_cons (ps_set (i := 3) sc__law_draws.nd rfl (Or.inl rfl) (pe_op op_sub (pv 0) (pe_op op_pow pe_int pe_int)))
      (pss_cons (ps_set (i := 4) sc__law_draws.nd rfl (Or.inl rfl) (pe_lst pa_nil))
      (pss_cons (ps_for PassesOwn.never rfl (pi_list (pv 1)) (pg_name (i := 2) sc__law_draws.nd rfl (Or.inl rfl))
      (pss_cons (ps_expr (pe_bm PySem.F.plainAttrs_list PySem.F.slot_list_append PySem.F.type_list_append mt_append (pv 4) (pa_cons (pe_op op_mod (pe_callTy call_int1 (by rfl) m_int (by decide +kernel) (pa_cons (pv 3) pa_nil)) (pv 2)) pa_nil)))
      (pss_one (ps_set (i := 3) sc__law_draws.nd rfl (Or.inl rfl) (pe_op op_fdivW (pv 3) (pv 2))))))
      (pss_one (ps_ret (pv 4)))))) pss_nil)
      (pss_cons (ps_set (i := 4) sc__law_draws.nd rfl (Or.inl rfl) (pe_lst pa_nil))
      (pss_cons (ps_for PassesOwn.never rfl (pi_range1 (by rfl) m_range (pa_cons (pe_callB call_len_seq (by rfl) m_len (by decide +kernel) (pa_cons (pv 1) pa_nil)) pa_nil)) (pg_name (i := 5) sc__law_draws.nd rfl (Or.inl rfl))
      (pss_cons (ps_set (i := 6) sc__law_draws.nd rfl (Or.inl rfl) (pe_op op_mod (pe_callTy call_int1 (by rfl) m_int (by decide +kernel) (pa_cons (pe_op op_add (pe_op op_mul (pv 0) pe_int) (pe_op op_mul (pe_op op_add (pv 5) pe_int) pe_int)) pa_nil)) pe_int))
      (pss_cons (ps_set (i := 6) sc__law_draws.nd rfl (Or.inl rfl) (pe_op op_mod (pe_callTy call_int1 (by rfl) m_int (by decide +kernel) (pa_cons (pe_op op_add (pe_op op_mul (pv 6) pe_int) (pe_op op_mul (pe_op op_add (pv 5) pe_int) pe_int)) pa_nil)) pe_int))
      (pss_cons (ps_set (i := 7) sc__law_draws.nd rfl (Or.inl rfl) (pe_op op_mod (pe_callTy call_int1 (by rfl) m_int (by decide +kernel) (pa_cons (pe_op op_add (pe_op op_mul (pv 0) pe_int) (pe_op op_mul (pe_op op_add (pv 5) pe_int) pe_int)) pa_nil)) pe_int))
      (pss_cons (ps_set (i := 7) sc__law_draws.nd rfl (Or.inl rfl) (pe_op op_mod (pe_callTy call_int1 (by rfl) m_int (by decide +kernel) (pa_cons (pe_op op_add (pe_op op_mul (pv 7) pe_int) (pv 6)) pa_nil)) pe_int))
      (pss_one (ps_expr (pe_bm PySem.F.plainAttrs_list PySem.F.slot_list_append PySem.F.type_list_append mt_append (pv 4) (pa_cons (pe_op op_mod (pe_callTy call_int1 (by rfl) m_int (by decide +kernel) (pa_cons (pe_op op_add (pe_op op_mul (pv 7) pe_int) (pv 6)) pa_nil)) (pe_ix ix_list (pv 1) (pv 5) (fun _ _ => rfl))) pa_nil)))))))))
      (pss_one (ps_ret (pv 4))))))), ?_⟩
    have small : ∀ {ds : List Int} {i : Nat}, Within ds (ns.take i) → (ds.map V.int).length < sizeLine := fun {ds i} w => by
      rw [List.length_map, w.len, List.length_take]
      exact small1000 (by omega)
    refine ⟨_, rfl, rfl, _, rfl, ite2 (fun _ => ?_) (fun _ => ?_)⟩
    · -- [0 for size in sizes]
      refine ⟨.ref a, rfl, a, rfl, ⟨_, hS⟩, fun D nD => lc_list (K := K) (a := a) (xs := ns.map V.int) (fun i H2 => ∃ ds : List Int, Same H H2 ∧ H2 D = some (.lst (ds.map V.int)) ∧ Within ds (ns.take i)) ⟨[], same_upd nD, upd_same, Within.zero ns⟩ (fun i H2 _ ⟨_, s, _⟩ => s.seq hS) ?_ ?_⟩
      · rintro i x H2 hi ⟨ds, s, hD, w⟩
        obtain ⟨n, rfl, hin⟩ := int_of hi
        refine ⟨rfl, ?_⟩
        refine lc_yes ?_
        refine iteT ?_
        exact ⟨_, hD, small w, ds ++ [0], same_mut s nD, by rw [upd_same, ← snoc_int], w.step hin (Int.le_refl 0) (hn n (List.mem_of_getElem? hin)).1⟩
      · rintro H2 ⟨ds, s, hD, w⟩
        rw [List.length_map] at w
        exact q ds H2 D w.full s nD hD
    refine ⟨_, rfl, 10, 18, rfl, rfl, ⟨by decide, by decide, by decide⟩, _, _, rfl, rfl, _, rfl, ite2 (fun _ => ?_) (fun _ => ?_)⟩
    · -- left = cell - 10 ** 18; found = []
      refine ⟨_, rfl, 10, 18, rfl, rfl, ⟨by decide, by decide, by decide⟩, _, _, rfl, rfl, ?_⟩
      refine ⟨Nat.zero_le _, fun o no => ?_⟩
      have s1 : Same H (upd H o (.lst [])) := same_upd no
      refine ⟨.ref a, rfl, a, rfl, ⟨_, s1.seq hS⟩, for_list (K := K) (a := a) (xs := ns.map V.int) (fun i σ H2 => ∃ (ds : List Int) (l : Int) (y : Option V), σ = [some (.int c), some (.ref a), y, some (.int l), some (.ref o), none, none, none] ∧ Same H H2 ∧ H2 o = some (.lst (ds.map V.int)) ∧ Within ds (ns.take i))
        ⟨[], _, none, rfl, s1, upd_same, Within.zero ns⟩ (fun i σ H2 _ ⟨_, _, _, _, s, _⟩ => s.seq hS) ?_ ?_⟩
      · rintro i x σ H2 hi ⟨ds, l, y, rfl, s, hD, w⟩
        obtain ⟨n, rfl, hin⟩ := int_of hi
        obtain ⟨n0, n1⟩ := hn n (List.mem_of_getElem? hin)
        refine ⟨.ref o, rfl, .inl ⟨rfl, _, lst_l hD⟩, _, rfl, .inl ⟨l, rfl, _, rfl, _, _, rfl, rfl, n0, o, _, _, rfl, rfl, hD, small w, ?_⟩⟩
        refine ⟨_, rfl, _, rfl, _, _, rfl, rfl, w_div n0 n1, ds ++ [l % n], _, _, rfl, same_mut s no, by rw [upd_same, ← snoc_int], w.step hin (Int.emod_nonneg _ (by omega)) (Int.emod_lt_of_pos _ n0)⟩
      · rintro σ H2 ⟨ds, l, y, rfl, s, hD, w⟩
        rw [List.length_map] at w
        exact ⟨_, rfl, q ds H2 o w.full s no hD⟩
    · refine ⟨Nat.zero_le _, fun o no => ?_⟩
      have s1 : Same H (upd H o (.lst [])) := same_upd no
      refine ⟨.ref a, rfl, a, _, rfl, .inl (s1.seq hS), _, rfl, ?_⟩
      rw [List.length_map]
      refine ⟨by omega, by omega, ?_⟩
      rw [Int.toNat_natCast]
      refine for_range (lo := 0) (n := ns.length) (fun i σ H2 => ∃ (ds : List Int) (y1 y2 y3 : Option V), σ = [some (.int c), some (.ref a), none, none, some (.ref o), y1, y2, y3] ∧ Same H H2 ∧ H2 o = some (.lst (ds.map V.int)) ∧ Within ds (ns.take i))
        ⟨[], none, none, none, rfl, s1, upd_same, Within.zero ns⟩ ?_ ?_
      · rintro i σ H2 hi ⟨ds, y1, y2, y3, rfl, s, hD, w⟩
        have hin : ns[i]? = some ns[i] := List.getElem?_eq_getElem hi
        obtain ⟨n0, n1⟩ := hn ns[i] (List.getElem_mem hi)
        refine ⟨_, rfl, _, _, rfl, rfl, .inr ⟨by decide, by decide⟩, _, rfl, _, _, rfl, rfl, _, _, rfl, rfl, .inr ⟨by decide, by decide⟩, _, _, rfl, rfl, .inl ⟨_, rfl, _, _, rfl, rfl, (show (0 : Int) < 2147483647 by decide), ?_⟩⟩
        refine ⟨_, rfl, _, _, rfl, rfl, .inr ⟨by decide, by decide⟩, _, rfl, _, _, rfl, rfl, _, _, rfl, rfl, .inr ⟨by decide, by decide⟩, _, _, rfl, rfl, .inl ⟨_, rfl, _, _, rfl, rfl, (show (0 : Int) < 2147483399 by decide), ?_⟩⟩
        refine ⟨_, rfl, _, _, rfl, rfl, .inr ⟨by decide, by decide⟩, _, rfl, _, _, rfl, rfl, _, _, rfl, rfl, .inr ⟨by decide, by decide⟩, _, _, rfl, rfl, .inl ⟨_, rfl, _, _, rfl, rfl, (show (0 : Int) < 2147483563 by decide), ?_⟩⟩
        refine ⟨_, rfl, _, _, rfl, rfl, .inr ⟨by decide, by decide⟩, _, rfl, _, _, rfl, rfl, .inl ⟨_, rfl, _, _, rfl, rfl, (show (0 : Int) < 2147483587 by decide), ?_⟩⟩
        refine ⟨.ref o, rfl, .inl ⟨rfl, _, lst_l hD⟩, _, rfl, _, _, rfl, rfl, .inr ⟨by decide, by decide⟩, _, rfl, _, _, rfl, rfl, .inl ⟨_, rfl, .ref a, rfl, .int (0 + (i : Int)), rfl, a, _, _, _, rfl, rfl, s.seq hS, at_of (Int.zero_add _) (int_at hin), _, _, rfl, rfl, n0, o, _, _, rfl, rfl, hD, small w, ?_⟩⟩
        exact ⟨ds ++ [_], _, _, _, rfl, same_mut s no, by rw [upd_same, ← snoc_int], w.step hin (Int.emod_nonneg _ (by omega)) (Int.emod_lt_of_pos _ n0)⟩
      · rintro σ H2 ⟨ds, y1, y2, y3, rfl, s, hD, w⟩
        exact ⟨_, rfl, q ds H2 o w.full s no hD⟩
def sp__law_lot (K : PySem.W.Frag) : Sp := fun vs H Q _ => ∃ (b : Int) (m : Nat), vs = [.int b, .int (m : Int)] ∧ m ≤ 1000 ∧ ∀ H' p, Same H H' → H p = none → H' p = some (.tup ((lotOf b m).map V.int)) → Q (.ref p) H'

theorem ok__law_lot {f : Addr} {fd : FuncData} {C_Tabled C_Ratio C_TooMany C_BadTable C_ZeroBottom C_BadLot : Addr} (F : Fun K "_law_lot" "_law_lot" s__law_lot f fd) (T : Txt K mg C_Tabled C_Ratio C_TooMany C_BadTable C_ZeroBottom C_BadLot) (m_int : mg "int" = none) (m_range : mg "range" = none) (m_tuple : mg "tuple" = none) : FnOk P w K mg base CX0 1 f fd ["_law_bits", "_law_many"] (sp__law_lot K) := by
  refine F.ok sc__law_lot (fun vs H Q E h => ?_) (fun cdv A outer s H vs Q E hr h => ?_)
  · obtain ⟨b, m, rfl, _⟩ := h
    rfl
  · obtain ⟨b, m, rfl, hm, q⟩ := h
    refine ⟨_, (pss_cons (ps_set (i := 2) sc__law_lot.nd rfl (Or.inl rfl) (pe_lst pa_nil))
      (pss_cons (ps_set (i := 3) sc__law_lot.nd rfl (Or.inl rfl) (pe_callTy call_int1 (by rfl) m_int (by decide +kernel) (pa_cons (pv 0) pa_nil)))
      (pss_cons (ps_for PassesOwn.never rfl (pi_range1 (by rfl) m_range (pa_cons (pv 1) pa_nil)) (pg_name (i := 4) sc__law_lot.nd rfl (Or.inl rfl))
      (Evl.pss_cut (ps_if (pt_cmpR op_eq (pe_op op_mod (pv 3) pe_int) pe_int (nomark _)) (pss_one (ps_expr (pe_bm PySem.F.plainAttrs_list PySem.F.slot_list_append PySem.F.type_list_append mt_append (pv 2) (pa_cons (pv 4) pa_nil)))) pss_nil)
      (pss_one (ps_set (i := 3) sc__law_lot.nd rfl (Or.inl rfl) (pe_op op_fdivW (pv 3) pe_int)))))
      (pss_one (ps_ret (pe_callTy call_tuple_of (by rfl) m_tuple (by decide +kernel) (pa_cons (pv 2) pa_nil))))))), ?_⟩
    refine ⟨Nat.zero_le _, fun o no => ?_⟩
    refine ⟨_, rfl, .inl ⟨b, rfl, ?_⟩⟩
    refine ⟨_, rfl, _, rfl, by omega, by omega, ?_⟩
    rw [Int.toNat_natCast]
    refine for_range (lo := 0) (n := m) (fun i σ H2 => ∃ (y : Option V), σ = [some (.int b), some (.int (m : Int)), some (.ref o), some (.int (b / 2 ^ i)), y] ∧ Same H H2 ∧ H2 o = some (.lst ((lotOf b i).map V.int))) ⟨none, ?_, same_upd no, upd_same⟩ ?_ ?_
    · show [some (V.int b), some (V.int (m : Int)), some (V.ref o), some (V.int b), none] = [some (V.int b), some (V.int (m : Int)), some (V.ref o), some (V.int (b / 1)), none]
      rw [Int.ediv_one]
    · rintro i σ H2 hi ⟨y, rfl, s, hD⟩
      have hl : ((lotOf b i).map V.int).length < sizeLine := by
        rw [List.length_map]
        exact small1000 (Nat.le_trans (lotOf_len b i) (by omega))
      refine ⟨fun σ' H' => σ' = [some (.int b), some (.int (m : Int)), some (.ref o), some (.int (b / 2 ^ i)), some (.int (0 + (i : Int)))] ∧ Same H H' ∧ H' o = some (.lst ((lotOf b (i + 1)).map V.int)), ?_, ?_⟩
      · refine ⟨_, rfl, _, _, rfl, rfl, (show (0 : Int) < 2 by decide), rfl, _, rfl, ite2 (fun e => ?_) (fun e => ?_)⟩
        · have e : b / 2 ^ i % 2 = 1 := V.int.inj (of_decide_eq_true e)
          refine ⟨.ref o, rfl, .inl ⟨rfl, _, lst_l hD⟩, _, rfl, o, _, _, rfl, rfl, hD, hl, rfl, same_mut s no, ?_⟩
          rw [upd_same]
          show _ = some (HO.lst ((lotOf b i ++ (if b / 2 ^ i % 2 = 1 then [(i : Int)] else [])).map V.int))
          rw [if_pos e, ← snoc_int, Int.zero_add]
        · have e : ¬ b / 2 ^ i % 2 = 1 := fun z => e (decide_eq_true (congrArg V.int z))
          refine ⟨rfl, s, ?_⟩
          show _ = some (HO.lst ((lotOf b i ++ (if b / 2 ^ i % 2 = 1 then [(i : Int)] else [])).map V.int))
          rw [if_neg e, List.append_nil]
          exact hD
      · rintro σ' H' ⟨rfl, s', hD'⟩
        refine ⟨_, rfl, _, _, rfl, rfl, ⟨by decide, by decide⟩, some (.int (0 + (i : Int))), ?_, s', hD'⟩
        dsimp only
        rw [half]
        rfl
    · rintro σ H2 ⟨y, rfl, s, hD⟩
      exact ⟨.ref o, rfl, o, _, rfl, .inl ⟨lst_l hD, fun p np => q _ p (same_mut s (s.free np)) (s.free np) upd_same⟩⟩
def sp__law_power : Sp := fun vs H Q _ => ∃ m : Nat, vs = [.int (m : Int)] ∧ m < 100000 ∧ Q (.int (2 ^ m)) H
theorem ok__law_power {f : Addr} {fd : FuncData} {C_Tabled C_Ratio C_TooMany C_BadTable C_ZeroBottom C_BadLot : Addr} (F : Fun K "_law_power" "_law_power" s__law_power f fd) (T : Txt K mg C_Tabled C_Ratio C_TooMany C_BadTable C_ZeroBottom C_BadLot) (m_range : mg "range" = none) : FnOk P w K mg base CX0 1 f fd ["_law_many"] sp__law_power := by
  refine F.ok sc__law_power (fun vs H Q E h => ?_) (fun cdv A outer s H vs Q E hr h => ?_)
  · obtain ⟨m, rfl, _⟩ := h
    rfl
  · obtain ⟨m, rfl, hm, q⟩ := h
    refine ⟨_, (pss_cons (ps_set (i := 1) sc__law_power.nd rfl (Or.inl rfl) pe_int)
      (pss_cons (ps_for PassesOwn.never rfl (pi_range1 (by rfl) m_range (pa_cons (pv 0) pa_nil)) (pg_name (i := 2) sc__law_power.nd rfl (Or.inl rfl))
      (pss_one (ps_set (i := 1) sc__law_power.nd rfl (Or.inl rfl) (pe_op op_mul (pv 1) pe_int))))
      (pss_one (ps_ret (pv 1))))), ?_⟩
    refine ⟨_, rfl, _, rfl, by omega, by omega, ?_⟩
    rw [Int.toNat_natCast]
    refine for_range (lo := 0) (n := m) (fun i σ H2 => ∃ (y : Option V), σ = [some (.int (m : Int)), some (.int (2 ^ i)), y] ∧ H2 = H) ⟨none, rfl, rfl⟩ ?_ ?_
    · rintro i σ H2 hi ⟨y, rfl, rfl⟩
      refine ⟨_, rfl, _, _, rfl, rfl, .inr (by decide), some (.int (0 + (i : Int))), ?_, rfl⟩
      rw [Int.pow_succ]
      rfl
    · rintro σ H2 ⟨y, rfl, rfl⟩
      exact ⟨_, rfl, q⟩
def sp__law_is_int : Sp := fun vs H Q _ => ∃ v : Int, vs = [.int v] ∧ Q (.bl true) H
theorem ok__law_is_int {f : Addr} {fd : FuncData} {C_Tabled C_Ratio C_TooMany C_BadTable C_ZeroBottom C_BadLot : Addr} (F : Fun K "_law_is_int" "_law_is_int" s__law_is_int f fd) (T : Txt K mg C_Tabled C_Ratio C_TooMany C_BadTable C_ZeroBottom C_BadLot) (m_bool : mg "bool" = none) (m_int : mg "int" = none) (m_isinstance : mg "isinstance" = none) : FnOk P w K mg base CX0 1 f fd ["_law_x"] sp__law_is_int := by
  refine F.ok sc__law_is_int (fun vs H Q E h => ?_) (fun cdv A outer s H vs Q E hr h => ?_)
  · obtain ⟨v, rfl, _⟩ := h
    rfl
  · obtain ⟨v, rfl, q⟩ := h
    refine ⟨_, (pss_one (ps_ret (pe_and (pe_callB call_isi (by rfl) m_isinstance (by decide +kernel) (pa_cons (pv 0) (pa_cons (pe_bltn (v := .ty "int") (by rfl) m_int (by decide +kernel) rfl) pa_nil))) (pe_one (pe_not (pe_callB call_isi (by rfl) m_isinstance (by decide +kernel) (pa_cons (pv 0) (pa_cons (pe_bltn (v := .ty "bool") (by rfl) m_bool (by decide +kernel) rfl) pa_nil)))))))), ?_⟩
    exact ⟨_, rfl, .int v, .ty "int", _, _, true, rfl, .ty "int", .base (.int v), kit_ty kI, true, rfl, iteT ⟨_, rfl, .int v, .ty "bool", _, _, false, rfl, .ty "bool", .base (.int v), kit_ty kB, false, rfl, q⟩⟩
def sp__law_same (C : Addr) : Sp := fun vs H Q _ => ∃ (p : Addr) (T B t b : Int), vs = [.ref p, .int t, .int b] ∧ RatAt C H p T B ∧ 0 < B ∧ T * b = t * B ∧ CMulW T b ∧ CMulW t B ∧ Q (.bl true) H
theorem ok__law_same {f : Addr} {fd : FuncData} {C_Tabled C_Ratio C_TooMany C_BadTable C_ZeroBottom C_BadLot : Addr} (F : Fun K "_law_same" "_law_same" s__law_same f fd) (T : Txt K mg C_Tabled C_Ratio C_TooMany C_BadTable C_ZeroBottom C_BadLot) (m_isinstance : mg "isinstance" = none) (c__law_is_int : Cal P w K mg base CX0 1 "_law_is_int" ["_law_x"] sp__law_is_int) : FnOk P w K mg base CX0 2 f fd ["_law_x", "_law_top", "_law_bottom"] (sp__law_same C_Ratio) := by
  refine F.ok sc__law_same (fun vs H Q E h => ?_) (fun cdv A outer s H vs Q E hr h => ?_)
  · obtain ⟨p, T1, B, t, b, rfl, _⟩ := h
    rfl
  · obtain ⟨p, T1, B, t, b, rfl, ⟨dx, hp⟩, pos, eq, m1, m2, q⟩ := h
    obtain ⟨f__law_is_int, fd__law_is_int, G__law_is_int, m__law_is_int, k__law_is_int, b__law_is_int⟩ := c__law_is_int
    refine ⟨_, (pss_cons (ps_if (pt_not (pt_val (pe_callB call_isi (by rfl) m_isinstance (by decide +kernel) (pa_cons (pv 0) (pa_cons (pe_glob (v := .ref C_Ratio) (by rfl) T.g_Ratio rfl) pa_nil))))) (pss_one (ps_ret pe_bl)) pss_nil)
      (pss_cons (ps_if (PW.pt (pw_or (pt_not (pt_val (pe_call G__law_is_int (hr.mono (by decide)) (by rfl) m__law_is_int k__law_is_int b__law_is_int .nil pass0 (pa_cons (pe_fld (pv 0) rfl) pa_nil)))) (pw_or (pt_not (pt_val (pe_call G__law_is_int (hr.mono (by decide)) (by rfl) m__law_is_int k__law_is_int b__law_is_int .nil pass0 (pa_cons (pe_fld (pv 0) rfl) pa_nil)))) (pw_or1 (pt_cmpR op_lt (pe_fld (pv 0) rfl) pe_int (nomark _)))))) (pss_one (ps_ret pe_bl)) pss_nil)
      (pss_one (ps_ret (pe_cmpR op_eq (pe_op op_mulW (pe_fld (pv 0) rfl) (pv 2)) (pe_op op_mulW (pv 1) (pe_fld (pv 0) rfl)) (nomark _)))))), ?_⟩
    refine ⟨.ref p, rfl, .ref p, .ref C_Ratio, .ref C_Ratio, .ref C_Ratio, true, rfl, .own C_Ratio, .base (.ins hp T.cl_Ratio T.ha_Ratio T.hnc T.htk T.hm_Ratio), T.kit_Ratio_Ratio, true, rfl, iteF ?_⟩
    refine ⟨.ref p, rfl, p, C_Ratio, dx, _, _, rfl, hp, T.cl_Ratio, T.n_Ratio_top, rF_top T1 B, T1, rfl, true, rfl, iteF ?_⟩
    refine ⟨.ref p, rfl, p, C_Ratio, dx, _, _, rfl, hp, T.cl_Ratio, T.n_Ratio_bottom, rF_bot T1 B, B, rfl, true, rfl, iteF ?_⟩
    refine ⟨.ref p, rfl, p, C_Ratio, dx, _, _, rfl, hp, T.cl_Ratio, T.n_Ratio_bottom, rF_bot T1 B, _, _, rfl, rfl, _, rfl, ?_⟩
    rw [decide_eq_false (show ¬ B < 1 by omega)]
    refine iteF ?_
    refine ⟨.ref p, rfl, p, C_Ratio, dx, _, _, rfl, hp, T.cl_Ratio, T.n_Ratio_top, rF_top T1 B, .int b, rfl, T1, b, rfl, rfl, m1, .int t, rfl, .ref p, rfl, p, C_Ratio, dx, _, _, rfl, hp, T.cl_Ratio, T.n_Ratio_bottom, rF_bot T1 B, t, B, rfl, rfl, m2, rfl, ?_⟩
    rw [decide_eq_true (congrArg V.int eq)]
    exact q
def sp__law_same_lot (K : PySem.W.Frag) : Sp := fun vs H Q _ => ∃ (a b : Addr) (ns : List Int), vs = [.ref a, .ref b] ∧ H a = some (.tup (ns.map V.int)) ∧ SqL K H b (ns.map V.int) ∧ ns.length ≤ 1000 ∧ Q (.bl true) H
theorem ok__law_same_lot {f : Addr} {fd : FuncData} {C_Tabled C_Ratio C_TooMany C_BadTable C_ZeroBottom C_BadLot : Addr} (F : Fun K "_law_same_lot" "_law_same_lot" s__law_same_lot f fd) (T : Txt K mg C_Tabled C_Ratio C_TooMany C_BadTable C_ZeroBottom C_BadLot) (m_isinstance : mg "isinstance" = none) (m_len : mg "len" = none) (m_range : mg "range" = none) (m_tuple : mg "tuple" = none) (c__law_is_int : Cal P w K mg base CX0 1 "_law_is_int" ["_law_x"] sp__law_is_int) : FnOk P w K mg base CX0 2 f fd ["_law_x", "_law_due"] (sp__law_same_lot K) := by
  refine F.ok sc__law_same_lot (fun vs H Q E h => ?_) (fun cdv A outer s H vs Q E hr h => ?_)
  · obtain ⟨a, b, ns, rfl, _⟩ := h
    rfl
  · obtain ⟨a, b, ns, rfl, hA, hB, hlen, q⟩ := h
    obtain ⟨f__law_is_int, fd__law_is_int, G__law_is_int, m__law_is_int, k__law_is_int, b__law_is_int⟩ := c__law_is_int
    refine ⟨_, (pss_cons (ps_if (PW.pt (pw_or (pt_not (pt_val (pe_callB call_isi (by rfl) m_isinstance (by decide +kernel) (pa_cons (pv 0) (pa_cons (pe_bltn (v := .ty "tuple") (by rfl) m_tuple (by decide +kernel) rfl) pa_nil))))) (pw_or1 (pt_cmpR op_ne (pe_callB call_len_seq (by rfl) m_len (by decide +kernel) (pa_cons (pv 0) pa_nil)) (pe_callB call_len_seq (by rfl) m_len (by decide +kernel) (pa_cons (pv 1) pa_nil)) (nomark _))))) (pss_one (ps_ret pe_bl)) pss_nil)
      (pss_cons (ps_for PassesOwn.never rfl (pi_range1 (by rfl) m_range (pa_cons (pe_callB call_len_seq (by rfl) m_len (by decide +kernel) (pa_cons (pv 1) pa_nil)) pa_nil)) (pg_name (i := 2) sc__law_same_lot.nd rfl (Or.inl rfl))
      (pss_one (ps_if (PW.pt (pw_or (pt_not (pt_val (pe_call G__law_is_int (hr.mono (by decide)) (by rfl) m__law_is_int k__law_is_int b__law_is_int .nil pass0 (pa_cons (pe_ix ix_tup (pv 0) (pv 2) (fun _ _ => rfl)) pa_nil)))) (pw_or1 (pt_cmpR op_ne (pe_ix ix_tup (pv 0) (pv 2) (fun _ _ => rfl)) (pe_ix ix_list (pv 1) (pv 2) (fun _ _ => rfl)) (nomark _))))) (pss_one (ps_ret pe_bl)) pss_nil)))
      (pss_one (ps_ret pe_bl)))), ?_⟩
    have hA' : SqT K H a (ns.map V.int) := tup_t hA
    refine ⟨_, rfl, .ref a, .ty "tuple", _, _, true, rfl, .ty "tuple", .base (.tup hA), kit_ty kT, true, rfl, iteF ?_⟩
    refine ⟨.ref a, rfl, a, _, rfl, .inr hA', .ref b, rfl, b, _, rfl, .inl hB, rfl, _, rfl, iteNS rfl ?_⟩
    refine ⟨.ref b, rfl, b, _, rfl, .inl hB, _, rfl, ?_⟩
    rw [List.length_map]
    refine ⟨by omega, by omega, ?_⟩
    rw [Int.toNat_natCast]
    refine for_range (lo := 0) (n := ns.length) (fun i σ H2 => ∃ (y : Option V), σ = [some (.ref a), some (.ref b), y] ∧ H2 = H) ⟨none, rfl, rfl⟩ ?_ ?_
    · rintro i σ H2 hi ⟨y, rfl, rfl⟩
      have hin : (ns.map V.int)[i]? = some (.int ns[i]) := int_at (List.getElem?_eq_getElem hi)
      refine ⟨.ref a, rfl, .int (0 + (i : Int)), rfl, a, _, _, _, rfl, rfl, hA', at_of (Int.zero_add _) hin, ns[i], rfl, true, rfl, iteF ?_⟩
      refine ⟨.ref a, rfl, .int (0 + (i : Int)), rfl, a, _, _, _, rfl, rfl, hA', at_of (Int.zero_add _) hin, .ref b, rfl, .int (0 + (i : Int)), rfl, b, _, _, _, rfl, rfl, hB, at_of (Int.zero_add _) hin, rfl, _, rfl, iteNS rfl ?_⟩
      exact ⟨_, rfl, rfl⟩
    · rintro σ H2 ⟨y, rfl, rfl⟩
      exact q
/-- a Ratio and a pair that says the same fraction -/
def Alike (C : Addr) (H : Hp) (r t : Addr) : Prop := ∃ T B n d : Int, RatAt C H r T B ∧ H t = some (.tup [.int n, .int d]) ∧ 0 < B ∧ T * d = n * B ∧ CMulW T d ∧ CMulW n B
def sp__law_same_row (C : Addr) : Sp := fun vs H Q _ => ∃ (L P : Addr) (rs ts : List Addr), vs = [.ref L, .ref P] ∧ H L = some (.lst (rs.map V.ref)) ∧ H P = some (.lst (ts.map V.ref)) ∧ rs.length = ts.length ∧ ts.length ≤ 900 ∧ (∀ (i : Nat) (r t : Addr), rs[i]? = some r → ts[i]? = some t → Alike C H r t) ∧ Q (.bl true) H
theorem ok__law_same_row {f : Addr} {fd : FuncData} {C_Tabled C_Ratio C_TooMany C_BadTable C_ZeroBottom C_BadLot : Addr} (F : Fun K "_law_same_row" "_law_same_row" s__law_same_row f fd) (T : Txt K mg C_Tabled C_Ratio C_TooMany C_BadTable C_ZeroBottom C_BadLot) (m_isinstance : mg "isinstance" = none) (m_len : mg "len" = none) (m_list : mg "list" = none) (m_range : mg "range" = none) (c__law_same : Cal P w K mg base CX0 2 "_law_same" ["_law_x", "_law_top", "_law_bottom"] (sp__law_same C_Ratio)) : FnOk P w K mg base CX0 3 f fd ["_law_x", "_law_pairs"] (sp__law_same_row C_Ratio) := by
  refine F.ok sc__law_same_row (fun vs H Q E h => ?_) (fun cdv A outer s H vs Q E hr h => ?_)
  · obtain ⟨L, P, rs, ts, rfl, _⟩ := h
    rfl
  · obtain ⟨L, P, rs, ts, rfl, hL, hP, ll, lt, al, q⟩ := h
    obtain ⟨f__law_same, fd__law_same, G__law_same, m__law_same, k__law_same, b__law_same⟩ := c__law_same
    refine ⟨_, (pss_cons (ps_if (PW.pt (pw_or (pt_not (pt_val (pe_callB call_isi (by rfl) m_isinstance (by decide +kernel) (pa_cons (pv 0) (pa_cons (pe_bltn (v := .ty "list") (by rfl) m_list (by decide +kernel) rfl) pa_nil))))) (pw_or1 (pt_cmpR op_ne (pe_callB call_len_seq (by rfl) m_len (by decide +kernel) (pa_cons (pv 0) pa_nil)) (pe_callB call_len_seq (by rfl) m_len (by decide +kernel) (pa_cons (pv 1) pa_nil)) (nomark _))))) (pss_one (ps_ret pe_bl)) pss_nil)
      (pss_cons (ps_for PassesOwn.never rfl (pi_range1 (by rfl) m_range (pa_cons (pe_callB call_len_seq (by rfl) m_len (by decide +kernel) (pa_cons (pv 1) pa_nil)) pa_nil)) (pg_name (i := 2) sc__law_same_row.nd rfl (Or.inl rfl))
      (pss_one (ps_if (pt_not (pt_val (pe_call G__law_same (hr.mono (by decide)) (by rfl) m__law_same k__law_same b__law_same .nil pass0 (pa_cons (pe_ix ix_list (pv 0) (pv 2) (fun _ _ => rfl)) (pa_cons (pe_ix ix_tup (pe_ix ix_list (pv 1) (pv 2) (fun _ _ => rfl)) pe_int (fun _ _ => rfl)) (pa_cons (pe_ix ix_tup (pe_ix ix_list (pv 1) (pv 2) (fun _ _ => rfl)) pe_int (fun _ _ => rfl)) pa_nil)))))) (pss_one (ps_ret pe_bl)) pss_nil)))
      (pss_one (ps_ret pe_bl)))), ?_⟩
    refine ⟨_, rfl, .ref L, .ty "list", _, _, true, rfl, .ty "list", .base (.lst hL), kit_ty kL, true, rfl, iteF ?_⟩
    refine ⟨.ref L, rfl, L, _, rfl, .inl (lst_l hL), .ref P, rfl, P, _, rfl, .inl (lst_l hP), ?_, _, rfl, iteNS (by rw [List.length_map, List.length_map, ll]) ?_⟩
    · rfl
    refine ⟨.ref P, rfl, P, _, rfl, .inl (lst_l hP), _, rfl, ?_⟩
    rw [List.length_map]
    refine ⟨by omega, by omega, ?_⟩
    rw [Int.toNat_natCast]
    refine for_range (lo := 0) (n := ts.length) (fun i σ H2 => ∃ (y : Option V), σ = [some (.ref L), some (.ref P), y] ∧ H2 = H) ⟨none, rfl, rfl⟩ ?_ ?_
    · rintro i σ H2 hi ⟨y, rfl, rfl⟩
      have h1 : rs[i]? = some rs[i] := List.getElem?_eq_getElem (by omega)
      have h2 : ts[i]? = some ts[i] := List.getElem?_eq_getElem hi
      obtain ⟨T1, B, n, d, ra, ht, pos, eq, m1, m2⟩ := al i _ _ h1 h2
      have v1 : (rs.map V.ref)[i]? = some (.ref rs[i]) := by rw [List.getElem?_map, h1]; rfl
      have v2 : (ts.map V.ref)[i]? = some (.ref ts[i]) := by rw [List.getElem?_map, h2]; rfl
      refine ⟨.ref L, rfl, .int (0 + (i : Int)), rfl, L, _, _, _, rfl, rfl, lst_l hL, at_of (Int.zero_add _) v1, ?_⟩
      refine ⟨.ref P, rfl, .int (0 + (i : Int)), rfl, P, _, _, _, rfl, rfl, lst_l hP, at_of (Int.zero_add _) v2, ts[i], _, _, _, rfl, rfl, tup_t ht, atI_nat (j := 0) rfl, ?_⟩
      refine ⟨.ref P, rfl, .int (0 + (i : Int)), rfl, P, _, _, _, rfl, rfl, lst_l hP, at_of (Int.zero_add _) v2, ts[i], _, _, _, rfl, rfl, tup_t ht, atI_nat (j := 1) rfl, ?_⟩
      exact ⟨rs[i], T1, B, n, d, rfl, ra, pos, eq, m1, m2, true, rfl, iteF ⟨_, rfl, rfl⟩⟩
    · rintro σ H2 ⟨y, rfl, rfl⟩
      exact q
def sp__law_pool (K : PySem.W.Frag) : Sp := fun vs H Q _ => ∃ a b : Int, vs = [.int a, .int b] ∧ ∀ H' p (ns : List Int), Same H H' → H' p = some (.lst (ns.map V.int)) → ns.length = 80 → (∀ n ∈ ns, 0 ≤ n ∧ n < 10 ^ 16) → Q (.ref p) H' 
theorem ok__law_pool {f : Addr} {fd : FuncData} {C_Tabled C_Ratio C_TooMany C_BadTable C_ZeroBottom C_BadLot : Addr} (F : Fun K "_law_pool" "_law_pool" s__law_pool f fd) (T : Txt K mg C_Tabled C_Ratio C_TooMany C_BadTable C_ZeroBottom C_BadLot) (m_int : mg "int" = none) (m_range : mg "range" = none) (c__law_draws : Cal P w K mg base CX0 1 "_law_draws" ["_law_cell_here", "_law_sizes"] (sp__law_draws K)) : FnOk P w K mg base CX0 2 f fd ["_law_low", "_law_high"] (sp__law_pool K) := by
  refine F.ok sc__law_pool (fun vs H Q E h => ?_) (fun cdv A outer s H vs Q E hr h => ?_)
  · obtain ⟨a, b, rfl, _⟩ := h
    rfl
  · obtain ⟨a, b, rfl, q⟩ := h
    obtain ⟨f__law_draws, fd__law_draws, G__law_draws, m__law_draws, k__law_draws, b__law_draws⟩ := c__law_draws
    refine ⟨_, (pss_cons (ps_set (i := 2) sc__law_pool.nd rfl (Or.inl rfl) (pe_lst pa_nil))
      (pss_cons (ps_for PassesOwn.never rfl (pi_list (pe_lst (pa_cons (pv 0) (pa_cons (pv 1) pa_nil)))) (pg_name (i := 3) sc__law_pool.nd rfl (Or.inl rfl))
      (pss_cons (ps_set (i := 4) sc__law_pool.nd rfl (Or.inl rfl) (pe_call G__law_draws (hr.mono (by decide)) (by rfl) m__law_draws k__law_draws b__law_draws .nil pass0 (pa_cons (pv 3) (pa_cons (pe_op op_cat (pe_lst (pa_cons pe_int pa_nil)) (pe_lc (own := [("_law_k", 7)]) (g := (gName 7)) (tt := tYes) rfl sc__law_pool.nd (pi_range1 (by rfl) m_range (pa_cons pe_int pa_nil)) (blkOk_by (own := [("_law_k", 7)]) (N := ["_law_low", "_law_high", "_law_pool_here", "_law_cell_here", "_law_drawn", "_law_bound", "_law_value", "_law_k"]) (sc := defScope s__law_pool) (by decide +kernel)) (fun _ _ _ _ _ => (pg_name (i := 7) sc__law_pool.nd rfl (Or.inl rfl))) (fun _ _ _ _ _ => pts_nil) (fun _ _ _ _ _ => (pe_op op_pow pe_int pe_int)))) pa_nil))))
      (pss_cons (ps_set (i := 5) sc__law_pool.nd rfl (Or.inr rfl) (pe_ix ix_list (pe_lst (pa_cons pe_int (pa_cons pe_int (pa_cons pe_int (pa_cons (pe_op op_pow pe_int pe_int) pa_nil))))) (pe_ix ix_list (pv 4) pe_int (fun _ _ => rfl)) (fun _ _ => rfl)))
      (pss_one (ps_expr (pe_bm PySem.F.plainAttrs_list PySem.F.slot_list_extend PySem.F.type_list_extend mt_extend (pv 2) (pa_cons (pe_lc (own := [("_law_value", 6)]) (g := (gName 6)) (tt := tYes) rfl sc__law_pool.nd (pi_list (pe_slice sl_list (pv 4) (po_some pe_int) po_none)) (blkOk_by (own := [("_law_value", 6)]) (N := ["_law_low", "_law_high", "_law_pool_here", "_law_cell_here", "_law_drawn", "_law_bound", "_law_value", "_law_k"]) (sc := defScope s__law_pool) (by decide +kernel)) (fun _ _ _ _ _ => (pg_name (i := 6) sc__law_pool.nd rfl (Or.inl rfl))) (fun _ _ _ _ _ => pts_nil) (fun _ _ _ _ _ => (pe_op op_mod (pe_callTy call_int1 (by rfl) m_int (by decide +kernel) (pa_cons (pv 6) pa_nil)) (pv 5)))) pa_nil)))))))
      (pss_one (ps_ret (pv 2))))), ?_⟩
    refine ⟨Nat.zero_le _, fun o no => ?_⟩
    have so := same_upd (o := .lst []) no
    have ho : upd H o (.lst []) o = some (.lst (([] : List Int).map V.int)) := upd_same
    generalize upd H o (.lst []) = H0 at so ho ⊢
    refine ⟨_, rfl, _, rfl, (by show 2 ≤ sizeLine; decide), fun z nz => ?_⟩
    have sz := same_upd (o := .lst [V.int a, V.int b]) nz
    have hz : upd H0 z (.lst [V.int a, V.int b]) z = some (.lst [V.int a, V.int b]) := upd_same
    have zo : z ≠ o := fun y => by
      rw [y, ho] at nz
      cases nz
    have ho := sz _ _ ho
    have so := so.trans sz
    generalize upd H0 z (.lst [V.int a, V.int b]) = H1 at so hz ho sz ⊢
    refine ⟨z, rfl, ⟨_, lst_l hz⟩, for_list (K := K) (a := z) (xs := [V.int a, V.int b]) (fun i σ H2 => ∃ (ns : List Int) (y1 y2 y3 : Option V), σ = [some (.int a), some (.int b), some (.ref o), y1, y2, y3, none, none] ∧ Same H H2 ∧ H2 z = some (.lst [V.int a, V.int b]) ∧ H2 o = some (.lst (ns.map V.int)) ∧ ns.length = 40 * i ∧ ∀ n ∈ ns, 0 ≤ n ∧ n < 10 ^ 16) ⟨[], none, none, none, rfl, so, hz, ho, rfl, fun n h => absurd h (by simp)⟩ (fun i σ H2 _ ⟨_, _, _, _, _, _, h, _⟩ => lst_l h) ?_ ?_⟩
    · rintro i x σ H2 hi ⟨ns, y1, y2, y3, rfl, s2, hz, ho, ln, bn⟩
      have i2 := (List.getElem?_eq_some_iff.mp hi).1
      have i2 : i < 2 := i2
      obtain ⟨c, rfl⟩ : ∃ c, x = .int c := by
        have hx := List.mem_of_getElem? hi
        rcases List.mem_cons.mp hx with rfl | hx
        · exact ⟨a, rfl⟩
        · exact ⟨b, List.mem_singleton.mp hx⟩
      refine ⟨_, rfl, small1000 (by decide), fun p1 n1 => ?_⟩
      have s1 := same_upd (o := .lst [V.int 4]) n1
      have hp1 : upd H2 p1 (.lst [V.int 4]) p1 = some (.lst [V.int 4]) := upd_same
      generalize upd H2 p1 (.lst [V.int 4]) = Hp at s1 hp1 ⊢
      refine ⟨40, rfl, by decide, by decide, fun D nD => lc_range (lo := 0) (n := 40) (fun i H2 => Same Hp H2 ∧ H2 D = some (.lst ((List.replicate i (10000000000000000 : Int)).map V.int))) ⟨same_upd nD, upd_same⟩ ?_ ?_⟩
      · rintro i H2 hi ⟨s, hD⟩
        refine ⟨rfl, ?_⟩
        refine lc_yes ?_
        refine iteT ?_
        refine ⟨10, 16, rfl, rfl, ⟨by decide, by decide, by decide⟩, _, hD, ?_, same_mut s nD, ?_⟩
        · rw [List.length_map, List.length_replicate]
          exact small1000 (by omega)
        · rw [upd_same, List.replicate_succ', ← snoc_int]
          rfl
      rintro H3 ⟨s3, hD⟩

      refine ⟨p1, D, _, _, rfl, rfl, s3 _ _ hp1, hD, (by show 1 + 40 ≤ sizeLine; decide), fun p3 n3 => ?_⟩
      have s3 := (s1.trans s3).trans (same_upd (o := .lst ((4 :: List.replicate 40 (10 ^ 16 : Int)).map V.int)) n3)
      refine ⟨c, p3, 4 :: List.replicate 40 (10 ^ 16 : Int), rfl, lst_l upd_same, ?_, ?_, fun ds H4 d w s4 nd hd => ?_⟩
      · intro n hn
        rcases List.mem_cons.mp hn with rfl | hn
        · decide
        · rw [(List.mem_replicate.mp hn).2]
          exact big16
      · rw [List.length_cons, List.length_replicate]
        decide
      obtain ⟨d0, r, rfl, l0, u0, w⟩ := w.c
      have hrl : r.length = 40 := by
        rw [w.len, List.length_replicate]
      have sH := s3.trans s4
      refine ⟨10, 16, rfl, rfl, ⟨by decide, by decide, by decide⟩, (by show 4 ≤ sizeLine; decide), fun p5 n5 => ?_⟩
      obtain ⟨bd, hb, b0, b1⟩ : ∃ bd : Int, atI [V.int 2, V.int 6, V.int 1000, V.int (10 ^ 16)] d0 = some (V.int bd) ∧ 0 < bd ∧ bd ≤ 10 ^ 16 := by
        rcases (by omega : d0 = 0 ∨ d0 = 1 ∨ d0 = 2 ∨ d0 = 3) with rfl | rfl | rfl | rfl
        · exact ⟨2, rfl, by decide, by decide⟩
        · exact ⟨6, rfl, by decide, by decide⟩
        · exact ⟨1000, rfl, by decide, by decide⟩
        · exact ⟨10 ^ 16, rfl, by decide, by decide⟩
      have s5 := same_upd (o := .lst [V.int 2, V.int 6, V.int 1000, V.int (10 ^ 16)]) n5
      refine ⟨.ref d, rfl, d, _, _, .int d0, rfl, rfl, lst_l (s5 _ _ hd), atI_nat (j := 0) rfl, p5, _, _, .int bd, rfl, rfl, lst_l upd_same, hb, ?_⟩
      have s25 := sH.trans s5
      have ho5 := s25 _ _ ho
      have hz5 := s25 _ _ hz
      have hd5 := s5 _ _ hd
      refine ⟨.ref o, rfl, .inl ⟨rfl, _, lst_l ho5⟩, ?_⟩
      refine ⟨.ref d, rfl, 1, rfl, d, _, rfl, lst_l hd5, fun p6 n6 => ?_⟩
      rw [cut_from1]
      have s6 := same_upd (o := .lst (((d0 :: r).map V.int).drop 1)) n6
      refine ⟨p6, rfl, ⟨r.map V.int, lst_l upd_same⟩, fun E nE => lc_list (K := K) (a := p6) (xs := r.map V.int) (fun i H7 => Same H4 H7 ∧ H7 p6 = some (.lst (((d0 :: r).map V.int).drop 1)) ∧ H7 E = some (.lst (((r.take i).map fun v => v % bd).map V.int))) ⟨(s5.trans s6).trans (same_upd nE), same_upd nE _ _ upd_same, upd_same⟩ (fun i H7 _ ⟨_, h, _⟩ => lst_l h) ?_ ?_⟩
      · rintro j x H7 hj ⟨s, h6, hE⟩
        have nE4 : H4 E = none := (s5.trans s6).free nE
        have n6E : p6 ≠ E := fun y => by
          rw [← y, upd_same] at nE
          cases nE
        obtain ⟨n, rfl, hjn⟩ := int_of hj
        refine ⟨rfl, ?_⟩
        refine lc_yes ?_
        refine iteT ?_
        refine ⟨_, rfl, .inl ⟨n, rfl, _, rfl, _, _, rfl, rfl, b0, _, hE, ?_, same_mut s nE4, (upd_ne n6E).trans h6, ?_⟩⟩
        · rw [List.length_map, List.length_map, List.length_take]
          exact small1000 (by omega)
        · rw [upd_same, List.take_add_one, hjn, List.map_append, List.map_append]
          rfl
      · rintro H7 ⟨s7, h6, hE⟩
        rw [List.length_map, List.take_length] at hE
        have s27 := sH.trans s7
        have ho7 := s27 _ _ ho
        have hz7 := s27 _ _ hz
        refine ⟨o, E, _, _, rfl, rfl, ho7, hE, ?_, ns ++ r.map fun v => v % bd, _, _, _, rfl, ?_, ?_, ?_, ?_, fun n hn => ?_⟩
        · rw [List.length_map, List.length_map, List.length_map]
          exact Nat.le_of_lt (small1000 (by omega))
        · exact same_mut (s2.trans s27) no
        · exact (upd_ne zo).trans hz7
        · rw [upd_same, List.map_append]
        · rw [List.length_append, List.length_map]
          omega
        · rcases List.mem_append.mp hn with hn | hn
          · exact bn n hn
          · obtain ⟨v, _, rfl⟩ := List.mem_map.mp hn
            have h1 := Int.emod_nonneg v (show bd ≠ 0 by omega)
            have h2 := Int.emod_lt_of_pos v b0
            omega
    · rintro σ H2 ⟨ns, y1, y2, y3, rfl, s2, hz, ho, ln, bn⟩
      exact ⟨_, rfl, q H2 o ns s2 ho ln bn⟩
def sp__law_rows (K : PySem.W.Frag) : Sp := fun vs H Q _ => ∃ (P : Addr) (ns : List Int) (m : Nat), vs = [.ref P, .int (m : Int)] ∧ H P = some (.lst (ns.map V.int)) ∧ ns.length = 80 ∧ (∀ n ∈ ns, 0 ≤ n ∧ n < 10 ^ 16) ∧ m ≤ 6 ∧
  ∀ H' L us rows, Same H H' → H' L = some (.lst (us.map V.ref)) → RowsL H' us rows → rows.length = 2 ^ m → (∀ (i : Nat) (r : List Int), rows[i]? = some r → rowOk m i r = true) → (∀ r ∈ rows, r.length = m + 1 ∧ ∀ x ∈ r, 0 ≤ x ∧ x ≤ 10 ^ 17) → Q (.ref L) H' 
theorem ok__law_rows {f : Addr} {fd : FuncData} {C_Tabled C_Ratio C_TooMany C_BadTable C_ZeroBottom C_BadLot : Addr} (F : Fun K "_law_rows" "_law_rows" s__law_rows f fd) (T : Txt K mg C_Tabled C_Ratio C_TooMany C_BadTable C_ZeroBottom C_BadLot) (m_int : mg "int" = none) (m_max : mg "max" = none) (m_range : mg "range" = none) (m_sum : mg "sum" = none) (c__law_power : Cal P w K mg base CX0 1 "_law_power" ["_law_many"] sp__law_power) (c__law_lot : Cal P w K mg base CX0 1 "_law_lot" ["_law_bits", "_law_many"] (sp__law_lot K)) : FnOk P w K mg base CX0 2 f fd ["_law_pool_here", "_law_many"] (sp__law_rows K) := by
  refine F.ok sc__law_rows (fun vs H Q E h => ?_) (fun cdv A outer s H vs Q E hr h => ?_)
  · obtain ⟨P, ns, m, rfl, _⟩ := h
    rfl
  · obtain ⟨P, ns, m, rfl, hP, nl, bn, hm, q⟩ := h
    obtain ⟨f__law_power, fd__law_power, G__law_power, m__law_power, k__law_power, b__law_power⟩ := c__law_power
    obtain ⟨f__law_lot, fd__law_lot, G__law_lot, m__law_lot, k__law_lot, b__law_lot⟩ := c__law_lot
    refine ⟨_, (pss_cons (ps_set (i := 2) sc__law_rows.nd rfl (Or.inr rfl) (pe_op op_add (pv 1) pe_int))
      (pss_cons (ps_set (i := 3) sc__law_rows.nd rfl (Or.inl rfl) (pe_lst pa_nil))
      (pss_cons (ps_for PassesOwn.never rfl (pi_range1 (by rfl) m_range (pa_cons (pe_call G__law_power (hr.mono (by decide)) (by rfl) m__law_power k__law_power b__law_power .nil pass0 (pa_cons (pv 1) pa_nil)) pa_nil)) (pg_name (i := 4) sc__law_rows.nd rfl (Or.inr rfl))
      (pss_cons (ps_set (i := 5) sc__law_rows.nd rfl (Or.inr rfl) (pe_call G__law_lot (hr.mono (by decide)) (by rfl) m__law_lot k__law_lot b__law_lot .nil pass0 (pa_cons (pv 4) (pa_cons (pv 1) pa_nil))))
      (pss_cons (ps_set (i := 6) sc__law_rows.nd rfl (Or.inr rfl) (pe_lc (own := [("_law_k", 8)]) (g := (gName 8)) (tt := tYes) rfl sc__law_rows.nd (pi_range1 (by rfl) m_range (pa_cons (pv 2) pa_nil)) (blkOk_by (own := [("_law_k", 8)]) (N := ["_law_pool_here", "_law_many", "_law_size", "_law_rows_here", "_law_number", "_law_lot_here", "_law_part", "_law_counts", "_law_k", "_law_thing"]) (sc := defScope s__law_rows) (by decide +kernel)) (fun _ _ _ _ _ => (pg_name (i := 8) sc__law_rows.nd rfl (Or.inl rfl))) (fun _ _ _ _ _ => pts_nil) (fun _ _ _ _ _ => (pe_ix (r := rIxL K) ix_list (pv 0) (pe_op op_mod (pe_callTy call_int1 (by rfl) m_int (by decide +kernel) (pa_cons (pe_op op_add (pe_op op_mul (pv 4) (pv 2)) (pv 8)) pa_nil)) pe_int) (fun _ _ => rfl)))))
      (pss_cons (ps_setLc (i := 7) (own := [("_law_thing", 9)]) (g := (gName 9)) (tt := tYes) rfl sc__law_rows.nd rfl rfl (sw_true rfl rfl rfl (by decide +kernel)) (pi_range1 (by rfl) m_range (pa_cons (pv 1) pa_nil)) (blkOk_by (own := [("_law_thing", 9)]) (N := ["_law_pool_here", "_law_many", "_law_size", "_law_rows_here", "_law_number", "_law_lot_here", "_law_part", "_law_counts", "_law_k", "_law_thing"]) (sc := defScope s__law_rows) (by decide +kernel)) (fun _ _ _ _ _ => (pg_name (i := 9) sc__law_rows.nd rfl (Or.inl rfl))) (fun _ _ _ _ _ => pts_nil) (fun _ _ _ _ _ => (pe_op op_mul (pe_ix (r := rIxL K) ix_list (pv 6) (pe_op op_add (pv 9) pe_int) (fun _ _ => rfl)) (pe_callTy call_int1 (by rfl) m_int (by decide +kernel) (pa_cons (pe_cmpR (r := rIn K false) op_in_seq (pv 9) (pv 5) (by rfl)) pa_nil)))))
      (pss_one (ps_expr (pe_bm PySem.F.plainAttrs_list PySem.F.slot_list_append PySem.F.type_list_append mt_append (pv 3) (pa_cons (pe_op op_cat (pe_lst (pa_cons (pe_callB (call_max2 rfl) (by rfl) m_max (by decide +kernel) (pa_cons pe_int (pa_cons (pe_op op_add (pe_ix ix_list (pv 6) pe_int (fun _ _ => rfl)) (pe_callB (cr_sum rfl) (by rfl) m_sum (by decide +kernel) (pa_cons (pv 7) pa_nil))) pa_nil))) pa_nil)) (pv 7)) pa_nil))))))))
      (pss_one (ps_ret (pv 3)))))), ?_⟩
    refine ⟨_, rfl, _, _, rfl, rfl, ?_⟩
    refine ⟨Nat.zero_le _, fun o no => ?_⟩
    have so := same_upd (o := .lst []) no
    have ho : upd H o (.lst []) o = some (.lst (([] : List Addr).map V.ref)) := upd_same
    generalize upd H o (.lst []) = H0 at so ho ⊢
    have p64 : 2 ^ m ≤ 64 := Nat.pow_le_pow_right (by decide) hm
    refine ⟨_, rfl, m, rfl, by omega, ?_⟩
    rw [show (2 : Int) ^ m = ((2 ^ m : Nat) : Int) from (Int.natCast_pow 2 m).symm]
    generalize 2 ^ m = N at p64 q ⊢
    refine ⟨_, rfl, by omega, by omega, ?_⟩
    rw [Int.toNat_natCast]
    refine for_range (lo := 0) (n := N) (fun i σ H2 => ∃ (us : List Addr) (rows : List (List Int)) (y1 y2 y3 y4 : Option V), σ = [some (.ref P), some (.int (m : Int)), some (.int ((m : Int) + 1)), some (.ref o), y1, y2, y3, y4, none, none] ∧ Same H H2 ∧ H2 o = some (.lst (us.map V.ref)) ∧ us.length = i ∧ o ∉ us ∧ RowsL H2 us rows ∧ (∀ (j : Nat) (r : List Int), rows[j]? = some r → rowOk m j r = true) ∧ (∀ r ∈ rows, r.length = m + 1 ∧ ∀ x ∈ r, 0 ≤ x ∧ x ≤ 10 ^ 17)) ⟨[], [], none, none, none, none, rfl, so, ho, rfl, by simp, ⟨rfl, fun i u r h => by cases h⟩, (fun j r h => by cases h), fun r h => absurd h (by simp)⟩ ?_ ?_
    · rintro i σ H2 hi ⟨us, rows, y1, y2, y3, y4, rfl, s2, ho, lu, ou, row, ok, bd⟩
      refine ⟨_, rfl, _, rfl, (i : Int), m, by rw [Int.zero_add]; rfl, by omega, fun H3 l s3 nlx hl => ?_⟩
      have s23 := s2.trans s3
      have hP3 := s23 _ _ hP
      refine ⟨_, rfl, _, rfl, by omega, by omega, ?_⟩
      rw [show ((m : Int) + 1).toNat = m + 1 by omega]
      refine fun D nD => lc_range (lo := 0) (n := m + 1) (fun j H4 => ∃ ps : List Int, Same H3 H4 ∧ H4 D = some (.lst (ps.map V.int)) ∧ ps.length = j ∧ ∀ x ∈ ps, 0 ≤ x ∧ x < 10 ^ 16) ⟨[], same_upd nD, upd_same, rfl, fun x h => absurd h (by simp)⟩ ?_ ?_
      · rintro j H4 hj ⟨ps, s4, hD, lp, bp⟩
        refine ⟨rfl, ?_⟩
        refine lc_yes ?_
        refine iteT ?_
        have mul : CMul (0 + (i : Int)) ((m : Int) + 1) := .inl ⟨by omega, by omega⟩
        have e0 := Int.emod_nonneg ((0 + (i : Int)) * ((m : Int) + 1) + (0 + (j : Int))) (show (80 : Int) ≠ 0 by decide)
        have e1 := Int.emod_lt_of_pos ((0 + (i : Int)) * ((m : Int) + 1) + (0 + (j : Int))) (show (0 : Int) < 80 by decide)
        obtain ⟨k, hk⟩ : ∃ k : Nat, ((0 + (i : Int)) * ((m : Int) + 1) + (0 + (j : Int))) % 80 = (k : Int) := ⟨_, (Int.toNat_of_nonneg e0).symm⟩
        have gk : ns[k]? = some ns[k] := List.getElem?_eq_getElem (by omega)
        refine ⟨_, rfl, _, rfl, _, rfl, _, _, rfl, rfl, mul, _, rfl, _, _, rfl, rfl, .inl ⟨_, rfl, _, _, rfl, rfl, (show (0 : Int) < 80 by decide), P, _, _, .int ns[k], rfl, rfl, lst_l (s4 _ _ hP3), at_of hk (int_at gk), _, hD, ?_, ps ++ [ns[k]], same_mut s4 nD, by rw [upd_same, ← snoc_int], ?_, ?_⟩⟩
        · rw [List.length_map]
          exact small1000 (by omega)
        · rw [List.length_append, lp]
          rfl
        · intro x hx
          rcases List.mem_append.mp hx with hx | hx
          · exact bp x hx
          · rw [List.mem_singleton.mp hx]
            exact bn _ (List.mem_of_getElem? gk)
      rintro H4 ⟨ps, s4, hD, lp, bp⟩
      have hl4 := s4 _ _ hl
      refine ⟨_, rfl, _, rfl, by omega, by omega, ?_⟩
      rw [Int.toNat_natCast]
      refine fun F nF => lc_range (lo := 0) (n := m) (fun j H5 => ∃ cs : List Int, Same H4 H5 ∧ H5 F = some (.lst (cs.map V.int)) ∧ cs.length = j ∧ ∀ (k : Nat) (c : Int), cs[k]? = some c → 0 ≤ c ∧ c ≤ 10 ^ 16 ∧ (0 < c → inV (.int (k : Int)) ((lotOf i m).map V.int) = true)) ⟨[], same_upd nF, upd_same, rfl, fun k c h => by cases h⟩ ?_ ?_
      · rintro j H5 hj ⟨cs, s5, hF, lc, bc⟩
        refine ⟨rfl, ?_⟩
        refine lc_yes ?_
        refine iteT ?_
        have gj : ps[j + 1]? = some ps[j + 1] := List.getElem?_eq_getElem (by omega)
        have bj := bp _ (List.mem_of_getElem? gj)
        refine ⟨_, rfl, _, rfl, _, _, rfl, rfl, D, _, _, .int ps[j + 1], rfl, rfl, lst_l (s5 _ _ hD), at_of (j := j + 1) (by omega) (int_at gj), ?_⟩
        generalize ps[j + 1] = c at bj
        refine ⟨_, rfl, _, rfl, l, _, rfl, .inr (tup_t (s5 _ _ hl4)), rfl, ints_flat _, .inr ⟨_, rfl, ?_⟩⟩
        have done : ∀ b : Bool, (b = true → inV (.int (j : Int)) ((lotOf i m).map V.int) = true) → ∃ acc, H5 F = some (.lst acc) ∧ acc.length < sizeLine ∧ ∃ cs' : List Int, Same H4 (upd H5 F (.lst (acc ++ [V.int (c * if b = true then 1 else 0)]))) ∧ upd H5 F (.lst (acc ++ [V.int (c * if b = true then 1 else 0)])) F = some (.lst (cs'.map V.int)) ∧ cs'.length = j + 1 ∧ ∀ (k : Nat) (x : Int), cs'[k]? = some x → 0 ≤ x ∧ x ≤ 10 ^ 16 ∧ (0 < x → inV (.int (k : Int)) ((lotOf i m).map V.int) = true) := by
          intro b hb
          refine ⟨_, hF, ?_, cs ++ [c * if b = true then 1 else 0], same_mut s5 nF, by rw [upd_same, ← snoc_int], ?_, fun k x hk => ?_⟩
          · rw [List.length_map]
            exact small1000 (by omega)
          · rw [List.length_append, lc]
            rfl
          · by_cases lk : k < cs.length
            · rw [List.getElem?_append_left lk] at hk
              exact bc k x hk
            · rw [List.getElem?_append_right (by omega)] at hk
              obtain ⟨n, hn⟩ : ∃ n, k - cs.length = n := ⟨_, rfl⟩
              rw [hn] at hk
              cases n with
              | zero =>
                have : k = j := by omega
                subst this
                cases hk
                cases b with
                | true => exact ⟨by show 0 ≤ c * 1; omega, by show c * 1 ≤ 10 ^ 16; omega, fun _ => hb rfl⟩
                | false => exact ⟨by show 0 ≤ c * 0; omega, by show c * 0 ≤ 10 ^ 16; omega, fun z => absurd z (by show ¬ 0 < c * 0; omega)⟩
              | succ n => cases hk
        have fin := done (inV (.int (0 + (i : Int) - (i : Int) + (j : Int))) ((lotOf i m).map V.int)) (fun z => by rw [show 0 + (i : Int) - (i : Int) + (j : Int) = (j : Int) by omega] at z; exact z)
        rw [show 0 + (i : Int) - (i : Int) + (j : Int) = 0 + (j : Int) by omega] at fin
        have sml : ∀ b : Bool, CMul c (if b = true then 1 else 0) := fun b => .inr (by cases b <;> decide)
        exact ⟨_, _, rfl, rfl, sml _, fin⟩
      rintro H5 ⟨cs, s5, hF, lc, bc⟩
      have hD5 := s5 _ _ hD
      have s25 := (s23.trans s4).trans s5
      have s35 := (s3.trans s4).trans s5
      have ho5 := s35 _ _ ho
      have g0 : ps[0]? = some ps[0] := List.getElem?_eq_getElem (by omega)
      have b0 := bp _ (List.mem_of_getElem? g0)
      generalize ps[0] = p0 at g0 b0
      have bs := sum_bnd (B := 10 ^ 16) fun x hx => by
        obtain ⟨k, hk⟩ := List.getElem?_of_mem hx
        have := bc k x hk
        exact ⟨this.1, this.2.1⟩
      rw [lc] at bs
      have bs2 : (m : Int) * 10 ^ 16 ≤ 6 * 10 ^ 16 := Int.mul_le_mul_of_nonneg_right (by omega) (by decide)
      refine ⟨_, rfl, .inl ⟨rfl, _, lst_l ho5⟩, ?_⟩
      refine ⟨_, rfl, D, _, _, _, rfl, rfl, lst_l hD5, atI_nat (int_at g0), _, rfl, F, _, rfl, lst_l hF, _, _, rfl, rfl, _, _, rfl, (by show 1 ≤ sizeLine; decide), fun p np => ?_⟩
      obtain ⟨hd, ehd, h1, h2, h3⟩ : ∃ hd : Int, (if p0 + cs.sum > 1 then p0 + cs.sum else 1) = hd ∧ 1 ≤ hd ∧ cs.sum ≤ hd ∧ hd ≤ 10 ^ 17 := by
        by_cases c : p0 + cs.sum > 1
        · exact ⟨_, if_pos c, by omega, by omega, by omega⟩
        · exact ⟨_, if_neg c, by omega, by omega, by omega⟩
      rw [ehd]
      have sp := same_upd (o := .lst [V.int hd]) np
      refine ⟨_, rfl, p, F, _, _, rfl, rfl, upd_same, sp _ _ hF, ?_, fun u nu => ?_⟩
      · rw [List.length_map]
        exact Nat.le_of_lt (small1000 (by show 1 + cs.length ≤ 1000; omega))
      have su := same_upd (o := .lst ([V.int hd] ++ cs.map V.int)) nu
      have s57 := sp.trans su
      have ho7 := s57 _ _ ho5
      refine ⟨o, _, _, rfl, rfl, ho7, by rw [List.length_map]; exact small1000 (by omega), us ++ [u], rows ++ [hd :: cs], _, _, _, _, rfl, same_mut (s25.trans s57) no, by rw [upd_same, List.map_append]; rfl, by rw [List.length_append, lu]; rfl, ?_, ?_, fun j r hj => ?_, fun r hr2 => ?_⟩
      · intro z
        rcases List.mem_append.mp z with z | z
        · exact ou z
        · rw [← List.mem_singleton.mp z, sp _ _ ho5] at nu
          cases nu
      · refine RowsL.put (fun z => ?_) (RowsL.snoc (row.same (s35.trans s57)) (by rw [upd_same]; rfl))
        rcases List.mem_append.mp z with z | z
        · exact ou z
        · rw [← List.mem_singleton.mp z, sp _ _ ho5] at nu
          cases nu
      · by_cases lj : j < rows.length
        · rw [List.getElem?_append_left lj] at hj
          exact ok j r hj
        · rw [List.getElem?_append_right (by omega)] at hj
          obtain ⟨n, hn⟩ : ∃ n, j - rows.length = n := ⟨_, rfl⟩
          rw [hn] at hj
          cases n with
          | zero =>
            have : j = i := by
              have := row.1
              omega
            subst this
            cases hj
            show (decide (cs.length = m) && (cntB (lotOf j m) cs 0 && (decide (hd ≥ 1) && decide (cs.sum ≤ hd)))) = true
            rw [decide_eq_true lc, decide_eq_true (show hd ≥ 1 from h1), decide_eq_true h2, cntB_of (ls := lotOf j m) fun k c hk => by
              have := bc k c hk
              rw [Nat.zero_add]
              exact ⟨this.1, this.2.2⟩]
            rfl
          | succ n => cases hj
      · rcases List.mem_append.mp hr2 with hr2 | hr2
        · exact bd r hr2
        · rw [List.mem_singleton.mp hr2]
          refine ⟨by rw [List.length_cons, lc], fun x hx => ?_⟩
          rcases List.mem_cons.mp hx with rfl | hx
          · exact ⟨by omega, h3⟩
          · obtain ⟨k, hk⟩ := List.getElem?_of_mem hx
            have := bc k x hk
            omega
    · rintro σ H2 ⟨us, rows, y1, y2, y3, y4, rfl, s2, ho, lu, ou, row, ok, bd⟩
      exact ⟨_, rfl, q H2 o us rows s2 ho row (by have := row.1; omega) ok bd⟩
def sp__law_refuses (C : Addr) : Sp := fun vs H Q _ => ∃ (p l : Addr) (rows : List (List Int)) (ns : List Int) (m : Nat), vs = [.ref p, .ref l] ∧ TAt C H p m rows ∧ H l = some (.tup (ns.map V.int)) ∧ m ≤ 24 ∧ ns.length ≤ 1000 ∧ lotB ns (-1) m = false ∧ Q (.bl true) H
theorem ok__law_refuses {f : Addr} {fd : FuncData} {C_Tabled C_Ratio C_TooMany C_BadTable C_ZeroBottom C_BadLot : Addr} (F : Fun K "_law_refuses" "_law_refuses" s__law_refuses f fd) (T : Txt K mg C_Tabled C_Ratio C_TooMany C_BadTable C_ZeroBottom C_BadLot) (c_Tabled_shares : CalM P w K mg base (L2.CX P w) 3 C_Tabled "shares" ["self", "lot"] (sp_Tabled_shares K C_Tabled C_Ratio C_BadLot)) (c_Rule_away : CalM P w K mg base (L2.CX P w) 6 C_Tabled "away" ["self", "lot"] (sp_Rule_away K C_Tabled C_Ratio C_BadLot)) : FnOk P w K mg base CX0 7 f fd ["_law_rule", "_law_lot_here"] (sp__law_refuses C_Tabled) := by
  refine F.ok sc__law_refuses (fun vs H Q E h => ?_) (fun cdv A outer s H vs Q E hr h => ?_)
  · obtain ⟨p, l, rows, ns, m, rfl, _⟩ := h
    rfl
  · obtain ⟨p, l, rows, ns, m, rfl, la, hl, hm, nl, bad, q⟩ := h
    obtain ⟨f_Tabled_shares, fd_Tabled_shares, G_Tabled_shares, M_Tabled_shares, b_Tabled_shares⟩ := c_Tabled_shares
    obtain ⟨f_Rule_away, fd_Rule_away, G_Rule_away, M_Rule_away, b_Rule_away⟩ := c_Rule_away
    refine ⟨_, (pss_cons (ps_set (i := 2) sc__law_refuses.nd rfl (Or.inl rfl) pe_bl)
      (pss_cons (ps_try_only (Wout := fun _ _ _ _ => False) rfl rfl ⟨rfl, by decide, Or.inl T.g_BadLot⟩ takes0
      (fun W pn xe tk _ => (pss_one (ps_expr (pe_methT (pv 0) T.cl_Tabled M_Tabled_shares G_Tabled_shares (hr.mono (by decide)) b_Tabled_shares (fun σ => passAt tk σ) (pa_cons (pv 1) pa_nil)))))
      (fun a oe cls d pn hz hf => (pss_one (ps_set (i := 2) sc__law_refuses.nd rfl (Or.inl rfl) pe_bl))))
      (pss_cons (ps_if (pt_not (pt_val (pv 2))) (pss_one (ps_ret pe_bl)) pss_nil)
      (pss_cons (ps_try_only (Wout := fun _ _ _ _ => False) rfl rfl ⟨rfl, by decide, Or.inl T.g_BadLot⟩ takes0
      (fun W pn xe tk _ => (pss_one (ps_expr (pe_methT (pv 0) T.cl_Tabled M_Rule_away G_Rule_away (hr.mono (by decide)) b_Rule_away (fun σ => passAt tk σ) (pa_cons (pv 1) pa_nil)))))
      (fun a oe cls d pn hz hf => (pss_one (ps_ret pe_bl))))
      (pss_one (ps_ret pe_bl)))))), ?_⟩
    have no : ∀ {P : Prop}, lotB ns (-1) m = true → P := fun {P} z => by
      rw [bad] at z
      cases z
    obtain ⟨dx, tw, us, hp, htw, row⟩ := id la
    refine ⟨_, rfl, p, dx, _, rfl, hp, fT_shares _ _, _, rfl, p, l, rows, ns, m, rfl, la, hl, hm, nl, fun _ => ?_, fun z => no z⟩
    refine ⟨true, T.exm_BadLot_BadLot, fun _ a0 na => ?_, fun z => Bool.noConfusion z⟩
    refine ⟨_, rfl, true, rfl, iteF ?_⟩
    refine ⟨_, rfl, p, dx, _, rfl, hp, fT_away _ _, _, rfl, p, l, rows, ns, m, rfl, la, hl, hm, nl, fun _ => ?_, fun z => no z⟩
    exact ⟨true, T.exm_BadLot_BadLot, fun _ a1 na1 => q, fun z => Bool.noConfusion z⟩
def sp__law_kept : Sp := fun vs H Q _ => ∃ (t L : Addr) (zs us : List Addr) (rows : List (List Int)), vs = [.ref t, .ref L] ∧ H t = some (.tup (zs.map V.ref)) ∧ RowsT H zs rows ∧ H L = some (.lst (us.map V.ref)) ∧ RowsL H us rows ∧ us.length ≤ 900 ∧ (∀ r ∈ rows, r.length ≤ 60) ∧ Q (.bl true) H
theorem ok__law_kept {f : Addr} {fd : FuncData} {C_Tabled C_Ratio C_TooMany C_BadTable C_ZeroBottom C_BadLot : Addr} (F : Fun K "_law_kept" "_law_kept" s__law_kept f fd) (T : Txt K mg C_Tabled C_Ratio C_TooMany C_BadTable C_ZeroBottom C_BadLot) (m_isinstance : mg "isinstance" = none) (m_len : mg "len" = none) (m_range : mg "range" = none) (m_tuple : mg "tuple" = none) (c__law_same_lot : Cal P w K mg base CX0 2 "_law_same_lot" ["_law_x", "_law_due"] (sp__law_same_lot K)) : FnOk P w K mg base CX0 3 f fd ["_law_told", "_law_due"] sp__law_kept := by
  refine F.ok sc__law_kept (fun vs H Q E h => ?_) (fun cdv A outer s H vs Q E hr h => ?_)
  · obtain ⟨t, L, zs, us, rows, rfl, _⟩ := h
    rfl
  · obtain ⟨t, L, zs, us, rows, rfl, ht, rowZ, hL, row, ul, lw, q⟩ := h
    obtain ⟨f__law_same_lot, fd__law_same_lot, G__law_same_lot, m__law_same_lot, k__law_same_lot, b__law_same_lot⟩ := c__law_same_lot
    refine ⟨_, (pss_cons (ps_if (PW.pt (pw_or (pt_not (pt_val (pe_callB call_isi (by rfl) m_isinstance (by decide +kernel) (pa_cons (pv 0) (pa_cons (pe_bltn (v := .ty "tuple") (by rfl) m_tuple (by decide +kernel) rfl) pa_nil))))) (pw_or1 (pt_cmpR op_ne (pe_callB call_len_seq (by rfl) m_len (by decide +kernel) (pa_cons (pv 0) pa_nil)) (pe_callB call_len_seq (by rfl) m_len (by decide +kernel) (pa_cons (pv 1) pa_nil)) (nomark _))))) (pss_one (ps_ret pe_bl)) pss_nil)
      (pss_cons (ps_for PassesOwn.never rfl (pi_range1 (by rfl) m_range (pa_cons (pe_callB call_len_seq (by rfl) m_len (by decide +kernel) (pa_cons (pv 1) pa_nil)) pa_nil)) (pg_name (i := 2) sc__law_kept.nd rfl (Or.inl rfl))
      (pss_one (ps_if (pt_not (pt_val (pe_call G__law_same_lot (hr.mono (by decide)) (by rfl) m__law_same_lot k__law_same_lot b__law_same_lot .nil pass0 (pa_cons (pe_ix ix_tup (pv 0) (pv 2) (fun _ _ => rfl)) (pa_cons (pe_ix ix_list (pv 1) (pv 2) (fun _ _ => rfl)) pa_nil))))) (pss_one (ps_ret pe_bl)) pss_nil)))
      (pss_one (ps_ret pe_bl)))), ?_⟩
    have rl := row.1
    have rz := rowZ.1
    refine ⟨_, rfl, .ref t, .ty "tuple", _, _, true, rfl, .ty "tuple", .base (.tup ht), kit_ty kT, true, rfl, iteF ?_⟩
    refine ⟨_, rfl, t, _, rfl, .inr (tup_t ht), _, rfl, L, _, rfl, .inl (lst_l hL), rfl, _, rfl, iteNS (by rw [List.length_map, List.length_map]; exact congrArg V.int (by omega)) ?_⟩
    refine ⟨_, rfl, L, _, rfl, .inl (lst_l hL), _, rfl, ?_⟩
    rw [List.length_map]
    refine ⟨by omega, by omega, ?_⟩
    rw [Int.toNat_natCast]
    refine for_range (lo := 0) (n := us.length) (fun i σ H2 => ∃ y1 : Option V, σ = [some (.ref t), some (.ref L), y1] ∧ H2 = H) ⟨none, rfl, rfl⟩ ?_ ?_
    · rintro i σ H2 hi ⟨y1, rfl, rfl⟩
      have h1 : us[i]? = some us[i] := List.getElem?_eq_getElem hi
      have h2 : rows[i]? = some rows[i] := List.getElem?_eq_getElem (by omega)
      have v1 : (us.map V.ref)[i]? = some (.ref us[i]) := by rw [List.getElem?_map, h1]; rfl
      have z1 : zs[i]? = some zs[i] := List.getElem?_eq_getElem (by omega)
      have v2 : (zs.map V.ref)[i]? = some (.ref zs[i]) := by rw [List.getElem?_map, z1]; rfl
      have hu := row.2 i _ _ h1 h2
      have hz := rowZ.2 i _ _ z1 h2
      have l60 := lw _ (List.mem_of_getElem? h2)
      refine ⟨_, rfl, _, rfl, t, _, _, _, rfl, rfl, tup_t ht, at_of (Int.zero_add _) v2, ?_⟩
      refine ⟨_, rfl, _, rfl, L, _, _, _, rfl, rfl, lst_l hL, at_of (Int.zero_add _) v1, ?_⟩
      exact ⟨zs[i], us[i], rows[i], rfl, hz, lst_l hu, by omega, true, rfl, iteF ⟨_, rfl, rfl⟩⟩
    · rintro σ H2 ⟨y1, rfl, rfl⟩
      exact q
def sp__law_times_all (K : PySem.W.Frag) : Sp := fun vs H Q _ => ∃ (L : Addr) (us : List Addr) (rows : List (List Int)) (f st : Int), vs = [.ref L, .int f, .int st] ∧ H L = some (.lst (us.map V.ref)) ∧ RowsL H us rows ∧ us.length ≤ 900 ∧ (∀ r ∈ rows, r.length ≤ 60) ∧
  ∀ H' N (zs : List Addr) (fs : List Int), Same H H' → H N = none → H' N = some (.lst (zs.map V.ref)) → N ∉ zs → fs.length = rows.length → (∀ x ∈ fs, 1 ≤ x ∧ x ≤ 6) → RowsL H' zs (times fs rows) → Q (.ref N) H' 
theorem ok__law_times_all {f : Addr} {fd : FuncData} {C_Tabled C_Ratio C_TooMany C_BadTable C_ZeroBottom C_BadLot : Addr} (F : Fun K "_law_times_all" "_law_times_all" s__law_times_all f fd) (T : Txt K mg C_Tabled C_Ratio C_TooMany C_BadTable C_ZeroBottom C_BadLot) (m_int : mg "int" = none) (m_len : mg "len" = none) (m_range : mg "range" = none) : FnOk P w K mg base CX0 1 f fd ["_law_rows_here", "_law_factor", "_law_step"] (sp__law_times_all K) := by
  refine F.ok sc__law_times_all (fun vs H Q E h => ?_) (fun cdv A outer s H vs Q E hr h => ?_)
  · obtain ⟨L, us, rows, f, st, rfl, _⟩ := h
    rfl
  · obtain ⟨L, us, rows, f, st, rfl, hL, row, ul, lw, q⟩ := h
    refine ⟨_, (pss_cons (ps_set (i := 3) sc__law_times_all.nd rfl (Or.inl rfl) (pe_lst pa_nil))
      (pss_cons (ps_for PassesOwn.never rfl (pi_range1 (by rfl) m_range (pa_cons (pe_callB call_len_seq (by rfl) m_len (by decide +kernel) (pa_cons (pv 0) pa_nil)) pa_nil)) (pg_name (i := 4) sc__law_times_all.nd rfl (Or.inl rfl))
      (pss_cons (ps_set (i := 5) sc__law_times_all.nd rfl (Or.inr rfl) (pe_op op_add pe_int (pe_op op_mod (pe_callTy call_int1 (by rfl) m_int (by decide +kernel) (pa_cons (pe_op op_add (pv 1) (pe_op op_mul (pv 2) (pv 4))) pa_nil)) pe_int)))
      (pss_one (ps_expr (pe_bm PySem.F.plainAttrs_list PySem.F.slot_list_append PySem.F.type_list_append mt_append (pv 3) (pa_cons (pe_lc (own := [("_law_item", 6)]) (g := (gName 6)) (tt := tYes) rfl sc__law_times_all.nd (pi_list (pe_ix ix_list (pv 0) (pv 4) (fun _ _ => rfl))) (blkOk_by (own := [("_law_item", 6)]) (N := ["_law_rows_here", "_law_factor", "_law_step", "_law_found", "_law_number", "_law_by", "_law_item"]) (sc := defScope s__law_times_all) (by decide +kernel)) (fun _ _ _ _ _ => (pg_name (i := 6) sc__law_times_all.nd rfl (Or.inl rfl))) (fun _ _ _ _ _ => pts_nil) (fun _ _ _ _ _ => (pe_op op_mul (pv 5) (pv 6)))) pa_nil))))))
      (pss_one (ps_ret (pv 3))))), ?_⟩
    have rl := row.1
    refine ⟨Nat.zero_le _, fun o no => ?_⟩
    have so := same_upd (o := .lst []) no
    have ho : upd H o (.lst []) o = some (.lst (([] : List Addr).map V.ref)) := upd_same
    generalize upd H o (.lst []) = H0 at so ho ⊢
    refine ⟨_, rfl, L, _, rfl, .inl (lst_l (so _ _ hL)), _, rfl, ?_⟩
    rw [List.length_map]
    refine ⟨by omega, by omega, ?_⟩
    rw [Int.toNat_natCast]
    refine for_range (lo := 0) (n := us.length) (fun i σ H2 => ∃ (zs : List Addr) (fs : List Int) (y1 y2 : Option V), σ = [some (.ref L), some (.int f), some (.int st), some (.ref o), y1, y2, none] ∧ Same H H2 ∧ H2 o = some (.lst (zs.map V.ref)) ∧ zs.length = i ∧ fs.length = i ∧ o ∉ zs ∧ (∀ x ∈ fs, 1 ≤ x ∧ x ≤ 6) ∧ RowsL H2 zs (times fs (rows.take i))) ⟨[], [], none, none, rfl, so, ho, rfl, rfl, (by simp), (fun x h => absurd h (by simp)), ⟨rfl, fun i u r h => by cases h⟩⟩ ?_ ?_
    · rintro i σ H2 hi ⟨zs, fs, y1, y2, rfl, s2, ho, lz, lf, oz, bf, rz⟩
      have h1 : us[i]? = some us[i] := List.getElem?_eq_getElem hi
      have h2 : rows[i]? = some rows[i] := List.getElem?_eq_getElem (by omega)
      have v1 : (us.map V.ref)[i]? = some (.ref us[i]) := by rw [List.getElem?_map, h1]; rfl
      have hu := s2 _ _ (row.2 i _ _ h1 h2)
      have l60 := lw _ (List.mem_of_getElem? h2)
      have tk : rows.take (i + 1) = rows.take i ++ [rows[i]] := by
        rw [List.take_add_one, h2]
        rfl
      generalize rows[i] = r at hu l60 tk
      have e0 := Int.emod_nonneg (f + st * (0 + (i : Int))) (show (6 : Int) ≠ 0 by decide)
      have e1 := Int.emod_lt_of_pos (f + st * (0 + (i : Int))) (show (0 : Int) < 6 by decide)
      refine ⟨_, rfl, _, rfl, _, rfl, _, _, rfl, rfl, .inr ⟨by omega, by omega⟩, _, _, rfl, rfl, .inl ⟨_, rfl, _, _, rfl, rfl, (show (0 : Int) < 6 by decide), _, _, rfl, rfl, ?_⟩⟩
      obtain ⟨x, hx, x1, x6⟩ : ∃ x : Int, 1 + (f + st * (0 + (i : Int))) % 6 = x ∧ 1 ≤ x ∧ x ≤ 6 := ⟨_, rfl, by omega, by omega⟩
      refine ⟨_, rfl, .inl ⟨rfl, _, lst_l ho⟩, ?_⟩
      refine ⟨_, rfl, _, rfl, L, _, _, .ref us[i], rfl, rfl, lst_l (s2 _ _ hL), at_of (Int.zero_add _) v1, us[i], rfl, ⟨_, lst_l hu⟩, fun D nD => lc_list (K := K) (a := us[i]) (xs := r.map V.int) (fun j H3 => Same H2 H3 ∧ H3 D = some (.lst (((r.take j).map (x * ·)).map V.int))) ⟨same_upd nD, upd_same⟩ (fun j H3 _ ⟨s, _⟩ => lst_l (s _ _ hu)) ?_ ?_⟩
      · rintro j y H3 hj ⟨s, hD⟩
        obtain ⟨n, rfl, hjn⟩ := int_of hj
        refine ⟨rfl, ?_⟩
        refine lc_yes ?_
        refine iteT ?_
        refine ⟨_, rfl, _, rfl, 1 + (f + st * (0 + (i : Int))) % 6, n, rfl, rfl, .inl ⟨by omega, by omega⟩, _, hD, ?_, same_mut s nD, ?_⟩
        · rw [List.length_map, List.length_map, List.length_take]
          exact small1000 (by omega)
        · rw [upd_same, List.take_add_one, hjn, List.map_append, List.map_append, hx]
          rfl
      rintro H3 ⟨s3, hD⟩
      rw [List.length_map, List.take_length] at hD
      have nd : o ∉ zs ++ [D] := fun z => by
        rcases List.mem_append.mp z with z | z
        · exact oz z
        · rw [← List.mem_singleton.mp z, ho] at nD
          cases nD
      refine ⟨o, _, _, rfl, rfl, s3 _ _ ho, by rw [List.length_map]; exact small1000 (by omega), zs ++ [D], fs ++ [x], _, _, rfl, same_mut (s2.trans s3) no, by rw [upd_same, List.map_append]; rfl, by rw [List.length_append, lz]; rfl, by rw [List.length_append, lf]; rfl, nd, fun y hy => ?_, ?_⟩
      · rcases List.mem_append.mp hy with hy | hy
        · exact bf y hy
        · rw [List.mem_singleton.mp hy]
          exact ⟨x1, x6⟩
      · rw [tk, times_snoc (by rw [List.length_take]; omega)]
        exact RowsL.put nd (RowsL.snoc (rz.same s3) hD)
    · rintro σ H2 ⟨zs, fs, y1, y2, rfl, s2, ho, lz, lf, oz, bf, rz⟩
      rw [rl, List.take_length] at rz
      exact ⟨_, rfl, q H2 o zs fs s2 no ho oz (by omega) bf rz⟩
def sp__law_changed (K : PySem.W.Frag) : Sp := fun vs H Q _ => ∃ (L : Addr) (us : List Addr) (rows : List (List Int)) (nb pl B : Int) (m : Nat), vs = [.ref L, .int nb, .int pl, .int (m : Int)] ∧ H L = some (.lst (us.map V.ref)) ∧ RowsL H us rows ∧ rows.length = 2 ^ m ∧ m ≤ 6 ∧ (∀ (i : Nat) (r : List Int), rows[i]? = some r → rowOk m i r = true) ∧ (∀ r ∈ rows, r.length = m + 1 ∧ ∀ x ∈ r, 0 ≤ x ∧ x ≤ B) ∧
  ∀ H' N (zs : List Addr) (rs : List (List Int)), Same H H' → H' N = some (.lst (zs.map V.ref)) → RowsL H' zs rs → rs.length = 2 ^ m → (∀ (i : Nat) (r : List Int), rs[i]? = some r → rowOk m i r = true) → (∀ r ∈ rs, r.length = m + 1 ∧ ∀ x ∈ r, 0 ≤ x ∧ x ≤ B + 1) → Q (.ref N) H' 
theorem ok__law_changed {f : Addr} {fd : FuncData} {C_Tabled C_Ratio C_TooMany C_BadTable C_ZeroBottom C_BadLot : Addr} (F : Fun K "_law_changed" "_law_changed" s__law_changed f fd) (T : Txt K mg C_Tabled C_Ratio C_TooMany C_BadTable C_ZeroBottom C_BadLot) (m_int : mg "int" = none) (m_len : mg "len" = none) (m_list : mg "list" = none) (c__law_lot : Cal P w K mg base CX0 1 "_law_lot" ["_law_bits", "_law_many"] (sp__law_lot K)) : FnOk P w K mg base CX0 2 f fd ["_law_rows_here", "_law_number", "_law_place", "_law_many"] (sp__law_changed K) := by
  refine F.ok sc__law_changed (fun vs H Q E h => ?_) (fun cdv A outer s H vs Q E hr h => ?_)
  · obtain ⟨L, us, rows, nb, pl, B, m, rfl, _⟩ := h
    rfl
  · obtain ⟨L, us, rows, nb, pl, B, m, rfl, hL, row, rl, hm, ok, bd, q⟩ := h
    obtain ⟨f__law_lot, fd__law_lot, G__law_lot, m__law_lot, k__law_lot, b__law_lot⟩ := c__law_lot
    refine ⟨_, (pss_cons (ps_setLc (i := 5) (own := [("_law_row", 4)]) (g := (gName 4)) (tt := tYes) rfl sc__law_changed.nd rfl rfl (sw_true rfl rfl rfl (by decide +kernel)) (pi_list (pv 0)) (blkOk_by (own := [("_law_row", 4)]) (N := ["_law_rows_here", "_law_number", "_law_place", "_law_many", "_law_row", "_law_found", "_law_at", "_law_thing"]) (sc := defScope s__law_changed) (by decide +kernel)) (fun _ _ _ _ _ => (pg_name (i := 4) sc__law_changed.nd rfl (Or.inl rfl))) (fun _ _ _ _ _ => pts_nil) (fun _ _ _ _ _ => (pe_callTy (T := "list") (r := rListOf K) call_list_of (by rfl) m_list (by decide +kernel) (pa_cons (pv 4) pa_nil))))
      (pss_cons (ps_set (i := 6) sc__law_changed.nd rfl (Or.inl rfl) (pe_op op_mod (pe_callTy call_int1 (by rfl) m_int (by decide +kernel) (pa_cons (pv 1) pa_nil)) (pe_callB call_len_seq (by rfl) m_len (by decide +kernel) (pa_cons (pv 0) pa_nil))))
      (pss_cons (ps_set (i := 7) sc__law_changed.nd rfl (Or.inl rfl) (pe_op op_sub (pe_op op_mod (pe_callTy call_int1 (by rfl) m_int (by decide +kernel) (pa_cons (pv 2) pa_nil)) (pe_op op_add (pv 3) pe_int)) pe_int))
      (pss_cons (ps_set (i := 4) sc__law_changed.nd rfl (Or.inl rfl) (pe_ix ix_list (pv 5) (pv 6) (fun _ _ => rfl)))
      (pss_cons (ps_asg (pe_op op_add (pe_ix ix_list (pv 4) pe_int (fun _ _ => rfl)) pe_int) (pg_sub (pv 4) pe_int set_list))
      (Evl.pss_cut (ps_if (pt_cmpR op_in_seq (pv 7) (pe_call G__law_lot (hr.mono (by decide)) (by rfl) m__law_lot k__law_lot b__law_lot .nil pass0 (pa_cons (pv 6) (pa_cons (pv 3) pa_nil))) (by rfl)) (pss_one (ps_asg (pe_op op_add (pe_ix ix_list (pv 4) (pe_op op_add (pv 7) pe_int) (fun _ _ => rfl)) pe_int) (pg_sub (pv 4) (pe_op op_add (pv 7) pe_int) set_list))) pss_nil)
      (pss_one (ps_ret (pv 5))))))))), ?_⟩
    have lu0 := row.1
    have p64 : 2 ^ m ≤ 64 := Nat.pow_le_pow_right (by decide) hm
    have p1 : 0 < 2 ^ m := Nat.pow_pos (by decide)
    refine ⟨_, rfl, L, rfl, ⟨_, lst_l hL⟩, fun D nD => lc_list (K := K) (a := L) (xs := us.map V.ref) (fun i H7 => ∃ vs0 : List Addr, Same H H7 ∧ H7 D = some (.lst (vs0.map V.ref)) ∧ vs0.length = i ∧ D ∉ vs0 ∧ vs0.Nodup ∧ (∀ z ∈ vs0, H z = none) ∧ RowsL H7 vs0 (rows.take i)) ⟨[], same_upd nD, upd_same, rfl, (by simp), List.nodup_nil, (fun z hz => absurd hz (by simp)), ⟨rfl, fun i u r h => by cases h⟩⟩ (fun i H7 _ ⟨_, s, _⟩ => lst_l (s _ _ hL)) ?_ ?_⟩
    · rintro i x H7 hi ⟨vs0, s, hR, lu, ou, nd0, fr0, rw0⟩
      have i1 : i < us.length := by
        have := (List.getElem?_eq_some_iff.mp hi).1
        rw [List.length_map] at this
        exact this
      have h1 : us[i]? = some us[i] := List.getElem?_eq_getElem i1
      have h2 : rows[i]? = some rows[i] := List.getElem?_eq_getElem (by have := (row).1; omega)
      rw [List.getElem?_map, h1] at hi
      cases hi
      have hu := s _ _ ((row).2 i _ _ h1 h2)
      refine ⟨rfl, ?_⟩
      refine lc_yes ?_
      refine iteT ?_
      refine ⟨_, rfl, us[i], _, rfl, .inl (lst_l hu), fun v nv => ?_⟩
      have sv := same_upd (o := .lst (rows[i].map V.int)) nv
      have hR7 := sv _ _ hR
      have no : D ∉ vs0 ++ [v] := fun z => by
        rcases List.mem_append.mp z with z | z
        · exact ou z
        · rw [← List.mem_singleton.mp z, hR] at nv
          cases nv
      have nv0 : v ∉ vs0 := fun z => by
        obtain ⟨k, hk⟩ := List.getElem?_of_mem z
        have kl := (List.getElem?_eq_some_iff.mp hk).1
        have e := rw0.2 k v _ hk (List.getElem?_eq_getElem (by have := rw0.1; omega))
        rw [e] at nv
        cases nv
      have nd1 : (vs0 ++ [v]).Nodup := List.nodup_append.mpr ⟨nd0, by simp, fun x hx y hy => by
        rw [List.mem_singleton.mp hy]
        exact fun z => nv0 (z ▸ hx)⟩
      have fr1 : ∀ z ∈ vs0 ++ [v], H z = none := fun z hz => by
        rcases List.mem_append.mp hz with hz | hz
        · exact fr0 z hz
        · rw [List.mem_singleton.mp hz]
          exact s.free nv
      refine ⟨_, hR7, ?_, vs0 ++ [v], same_mut (s.trans sv) nD, ?_, ?_, no, nd1, fr1, ?_⟩
      · rw [List.length_map]
        exact small1000 (by omega)
      · rw [upd_same, List.map_append]
        rfl
      · rw [List.length_append, lu]
        rfl
      · rw [List.take_add_one, h2]
        exact RowsL.put no (RowsL.snoc (rw0.same sv) upd_same)
    rintro H1 ⟨vs, s1, hD, lvs, oD, ndD, frD, rowD⟩
    rw [List.length_map, show us.length = rows.length from (row).1, List.take_length] at rowD
    rw [List.length_map] at lvs

    have j0 := Int.emod_nonneg nb (show (us.length : Int) ≠ 0 by omega)
    have j1 := Int.emod_lt_of_pos nb (show (0 : Int) < (us.length : Int) by omega)
    obtain ⟨j, hj⟩ : ∃ j : Nat, nb % (us.length : Int) = (j : Int) := ⟨(nb % (us.length : Int)).toNat, by omega⟩
    refine ⟨_, rfl, .inl ⟨nb, rfl, _, rfl, L, _, rfl, .inl (lst_l (s1 _ _ hL)), ?_⟩⟩
    rw [List.length_map]
    refine ⟨_, _, rfl, rfl, (show (0 : Int) < (us.length : Int) by omega), ?_⟩
    refine ⟨_, rfl, .inl ⟨pl, rfl, _, rfl, _, _, rfl, rfl, _, _, rfl, rfl, (show (0 : Int) < (m : Int) + 1 by omega), _, _, rfl, rfl, ?_⟩⟩
    have k0 := Int.emod_nonneg pl (show (m : Int) + 1 ≠ 0 by omega)
    have k1 := Int.emod_lt_of_pos pl (show (0 : Int) < (m : Int) + 1 by omega)
    obtain ⟨th, hth⟩ : ∃ th : Int, pl % ((m : Int) + 1) - 1 = th := ⟨_, rfl⟩
    dsimp only
    rw [hth, hj]
    have jl : j < vs.length := by omega
    have e1 : vs[j]? = some vs[j] := List.getElem?_eq_getElem jl
    have e2 : rows[j]? = some rows[j] := List.getElem?_eq_getElem (by have := rowD.1; omega)
    have v1 : (vs.map V.ref)[j]? = some (.ref vs[j]) := by rw [List.getElem?_map, e1]; rfl
    have hu := rowD.2 j _ _ e1 e2
    have bdr := bd _ (List.mem_of_getElem? e2)
    have okj := ok j _ e2
    have oDj : D ≠ vs[j] := fun z => oD (z ▸ List.mem_of_getElem? e1)
    generalize vs[j] = u at e1 v1 hu oDj
    generalize rows[j] = rw1 at e2 hu bdr okj
    obtain ⟨t, cs, rfl⟩ : ∃ t cs, rw1 = t :: cs := by
      obtain ⟨b, ws, e, _⟩ := row_nats okj
      exact ⟨_, _, e⟩
    have bt := bdr.2 t List.mem_cons_self
    have lcs : cs.length = m := by
      have := bdr.1
      rw [List.length_cons] at this
      omega
    have frU : ∀ o, Same H (upd H1 u o) := fun o => same_mut s1 (frD u (List.mem_of_getElem? e1))
    refine ⟨_, rfl, _, rfl, D, _, _, .ref u, rfl, rfl, lst_l hD, atI_nat v1, ?_⟩
    refine ⟨_, rfl, u, _, _, _, rfl, rfl, lst_l hu, atI_nat (j := 0) rfl, _, _, rfl, rfl, _, rfl, u, _, _, 0, rfl, rfl, hu, ixn_at (j := 0) (by rw [List.length_map, List.length_cons]; omega), ?_⟩
    rw [show ((t :: cs).map V.int).set 0 (V.int (t + 1)) = ((t + 1) :: cs).map V.int from rfl]
    have row2 := rowD.setU ndD e1 (r := (t + 1) :: cs)
    have s2 := frU (.lst (((t + 1) :: cs).map V.int))
    have hD2 : upd H1 u (.lst (((t + 1) :: cs).map V.int)) D = some (.lst (vs.map V.ref)) := (upd_ne oDj).trans hD
    have hu2 : upd H1 u (.lst (((t + 1) :: cs).map V.int)) u = some (.lst (((t + 1) :: cs).map V.int)) := upd_same
    have fu : H u = none := frD u (List.mem_of_getElem? e1)
    generalize upd H1 u (.lst (((t + 1) :: cs).map V.int)) = H2 at row2 s2 hD2 hu2 ⊢
    have good : ∀ r', rowOk m j r' = true → r'.length = m + 1 → (∀ x ∈ r', 0 ≤ x ∧ x ≤ B + 1) → (rows.set j r').length = 2 ^ m ∧ (∀ (i : Nat) (r : List Int), (rows.set j r')[i]? = some r → rowOk m i r = true) ∧ ∀ r ∈ rows.set j r', r.length = m + 1 ∧ ∀ x ∈ r, 0 ≤ x ∧ x ≤ B + 1 := fun r' h1 h2 h3 => by
      refine ⟨by rw [List.length_set]; exact rl, fun i r hi => ?_, fun r hr => ?_⟩
      · by_cases e : j = i
        · subst e
          rw [List.getElem?_set_self (List.getElem?_eq_some_iff.mp e2).1] at hi
          cases hi
          exact h1
        · rw [List.getElem?_set_ne e] at hi
          exact ok i r hi
      · rcases List.mem_or_eq_of_mem_set hr with hr | hr
        · obtain ⟨l, k⟩ := bd r hr
          exact ⟨l, fun x hx => by have := k x hx; omega⟩
        · rw [hr]
          exact ⟨h2, h3⟩
    refine ⟨fun σ' H' => ∃ rs, σ' = [some (.ref L), some (.int nb), some (.int pl), some (.int (m : Int)), some (.ref u), some (.ref D), some (.int (j : Int)), some (.int th)] ∧ Same H H' ∧ H' D = some (.lst (vs.map V.ref)) ∧ RowsL H' vs rs ∧ rs.length = 2 ^ m ∧ (∀ (i : Nat) (r : List Int), rs[i]? = some r → rowOk m i r = true) ∧ ∀ r ∈ rs, r.length = m + 1 ∧ ∀ x ∈ r, 0 ≤ x ∧ x ≤ B + 1, ?_, ?_⟩
    · refine ⟨_, rfl, _, rfl, _, rfl, (j : Int), m, rfl, by omega, fun H3 l s3 nl hl => ?_⟩
      have hu3 := s3 _ _ hu2
      refine ⟨l, _, rfl, .inr (tup_t hl), rfl, ints_flat _, _, rfl, ite2 (fun c => ?_) (fun c => ?_)⟩
      · have inl : th ∈ lotOf (j : Int) m := inV_int.mp c
        have tb := lotOf_mem _ inl
        obtain ⟨k, rfl⟩ : ∃ k : Nat, th = (k : Int) := ⟨th.toNat, by omega⟩
        obtain ⟨y, hy⟩ : ∃ y, cs[k]? = some y := ⟨_, List.getElem?_eq_getElem (by omega)⟩
        have hy1 : ((t + 1) :: cs)[k + 1]? = some y := hy
        refine ⟨_, rfl, _, rfl, _, _, rfl, rfl, u, _, _, .int y, rfl, rfl, lst_l hu3, at_of (j := k + 1) (by omega) (int_at hy1), _, _, rfl, rfl, ?_⟩
        refine ⟨_, rfl, _, rfl, _, _, rfl, rfl, u, _, _, k + 1, rfl, rfl, hu3, ?_, ?_⟩
        · rw [show (k : Int) + 1 = ((k + 1 : Nat) : Int) by omega]
          exact ixn_at (by rw [List.length_map, List.length_cons]; omega)
        have e5 : (((t + 1) :: cs).map V.int).set (k + 1) (V.int (y + 1)) = ((t + 1) :: cs.set k (y + 1)).map V.int := set_ints _ _ _
        rw [e5]
        have row3 := (row2.same s3).setU ndD e1 (r := (t + 1) :: cs.set k (y + 1))
        rw [List.set_set] at row3
        have by0 := bdr.2 y (List.mem_cons_of_mem _ (List.mem_of_getElem? hy))
        exact ⟨rows.set j ((t + 1) :: cs.set k (y + 1)), rfl, same_mut (s2.trans s3) fu, (upd_ne oDj).trans (s3 _ _ hD2), row3, good _ (rowOk_put okj hy c) (by rw [List.length_cons, List.length_set, lcs]) fun x hx => by
          rcases List.mem_cons.mp hx with rfl | hx
          · omega
          · rcases List.mem_or_eq_of_mem_set hx with hx | rfl
            · have := bdr.2 x (List.mem_cons_of_mem _ hx)
              omega
            · omega⟩
      · exact ⟨_, rfl, s2.trans s3, s3 _ _ hD2, row2.same s3, good _ (rowOk_top okj) (by rw [List.length_cons, lcs]) fun x hx => by
          rcases List.mem_cons.mp hx with rfl | hx
          · omega
          · have := bdr.2 x (List.mem_cons_of_mem _ hx)
            omega⟩
    rintro σ' H9 ⟨rs, rfl, s9, hD9, row9, l9, ok9, bd9⟩
    exact ⟨_, rfl, q H9 D vs rs s9 hD9 row9 l9 ok9 bd9⟩

def sp__law_all_shares (C : Addr) : Sp := fun vs H Q _ => ∃ (p L : Addr) (us : List Addr) (rows : List (List Int)) (m : Nat), vs = [.ref p, .ref L, .int (m : Int)] ∧ TAt C H p m (rows.map divI) ∧ H L = some (.lst (us.map V.ref)) ∧ RowsL H us rows ∧ rows.length = 2 ^ m ∧ m ≤ 6 ∧ (∀ (i : Nat) (r : List Int), rows[i]? = some r → rowOk m i r = true) ∧ (∀ r ∈ rows, ∀ x ∈ r, x ≤ 10 ^ 19) ∧
  ∀ H', Same H H' → Q (.bl true) H' 
theorem ok__law_all_shares {f : Addr} {fd : FuncData} {C_Tabled C_Ratio C_TooMany C_BadTable C_ZeroBottom C_BadLot : Addr} (F : Fun K "_law_all_shares" "_law_all_shares" s__law_all_shares f fd) (T : Txt K mg C_Tabled C_Ratio C_TooMany C_BadTable C_ZeroBottom C_BadLot) (m_len : mg "len" = none) (m_range : mg "range" = none) (m_sum : mg "sum" = none) (c__law_lot : Cal P w K mg base CX0 1 "_law_lot" ["_law_bits", "_law_many"] (sp__law_lot K)) (c_Tabled_shares : CalM P w K mg base (L2.CX P w) 3 C_Tabled "shares" ["self", "lot"] (sp_Tabled_shares K C_Tabled C_Ratio C_BadLot)) (c_Rule_away : CalM P w K mg base (L2.CX P w) 6 C_Tabled "away" ["self", "lot"] (sp_Rule_away K C_Tabled C_Ratio C_BadLot)) (c__law_same : Cal P w K mg base CX0 2 "_law_same" ["_law_x", "_law_top", "_law_bottom"] (sp__law_same C_Ratio)) (c__law_same_row : Cal P w K mg base CX0 3 "_law_same_row" ["_law_x", "_law_pairs"] (sp__law_same_row C_Ratio)) : FnOk P w K mg base CX0 7 f fd ["_law_table", "_law_rows_here", "_law_many"] (sp__law_all_shares C_Tabled) := by
  refine F.ok sc__law_all_shares (fun vs H Q E h => ?_) (fun cdv A outer s H vs Q E hr h => ?_)
  · obtain ⟨p, L, us, rows, m, rfl, _⟩ := h
    rfl
  · obtain ⟨p, L, us, rows, m, rfl, la, hL, row, lrw, hm, ok, bd, q⟩ := h
    obtain ⟨f__law_lot, fd__law_lot, G__law_lot, m__law_lot, k__law_lot, b__law_lot⟩ := c__law_lot
    obtain ⟨f_Tabled_shares, fd_Tabled_shares, G_Tabled_shares, M_Tabled_shares, b_Tabled_shares⟩ := c_Tabled_shares
    obtain ⟨f_Rule_away, fd_Rule_away, G_Rule_away, M_Rule_away, b_Rule_away⟩ := c_Rule_away
    obtain ⟨f__law_same, fd__law_same, G__law_same, m__law_same, k__law_same, b__law_same⟩ := c__law_same
    obtain ⟨f__law_same_row, fd__law_same_row, G__law_same_row, m__law_same_row, k__law_same_row, b__law_same_row⟩ := c__law_same_row
    refine ⟨_, (pss_cons (ps_for PassesOwn.never rfl (pi_range1 (by rfl) m_range (pa_cons (pe_callB call_len_seq (by rfl) m_len (by decide +kernel) (pa_cons (pv 1) pa_nil)) pa_nil)) (pg_name (i := 3) sc__law_all_shares.nd rfl (Or.inl rfl))
      (pss_cons (ps_set (i := 4) sc__law_all_shares.nd rfl (Or.inr rfl) (pe_ix ix_list (pv 1) (pv 3) (fun _ _ => rfl)))
      (pss_cons (ps_set (i := 5) sc__law_all_shares.nd rfl (Or.inl rfl) (pe_call G__law_lot (hr.mono (by decide)) (by rfl) m__law_lot k__law_lot b__law_lot .nil pass0 (pa_cons (pv 3) (pa_cons (pv 2) pa_nil))))
      (pss_cons (ps_if (pt_not (pt_val (pe_call G__law_same_row (hr.mono (by decide)) (by rfl) m__law_same_row k__law_same_row b__law_same_row .nil pass0 (pa_cons (pe_meth (pv 0) T.cl_Tabled M_Tabled_shares G_Tabled_shares (hr.mono (by decide)) b_Tabled_shares .nil passL (pa_cons (pv 5) pa_nil)) (pa_cons (pe_lc (own := [("_law_count", 6)]) (g := (gName 6)) (tt := tYes) rfl sc__law_all_shares.nd (pi_list (pe_slice sl_list (pv 4) (po_some pe_int) po_none)) (blkOk_by (own := [("_law_count", 6)]) (N := ["_law_table", "_law_rows_here", "_law_many", "_law_number", "_law_row", "_law_lot_here", "_law_count"]) (sc := defScope s__law_all_shares) (by decide +kernel)) (fun _ _ _ _ _ => (pg_name (i := 6) sc__law_all_shares.nd rfl (Or.inl rfl))) (fun _ _ _ _ _ => pts_nil) (fun _ _ _ _ _ => (pe_tup (pa_cons (pv 6) (pa_cons (pe_ix (r := rIxL K) ix_list (pv 4) pe_int (fun _ _ => rfl)) pa_nil))))) pa_nil))))) (pss_one (ps_ret pe_bl)) pss_nil)
      (pss_one (ps_if (pt_not (pt_val (pe_call G__law_same (hr.mono (by decide)) (by rfl) m__law_same k__law_same b__law_same .nil pass0 (pa_cons (pe_meth (pv 0) T.cl_Tabled M_Rule_away G_Rule_away (hr.mono (by decide)) b_Rule_away .nil passL (pa_cons (pv 5) pa_nil)) (pa_cons (pe_op op_sub (pe_ix ix_list (pv 4) pe_int (fun _ _ => rfl)) (pe_callB (cr_sum rfl) (by rfl) m_sum (by decide +kernel) (pa_cons (pe_slice sl_list (pv 4) (po_some pe_int) po_none) pa_nil))) (pa_cons (pe_ix ix_list (pv 4) pe_int (fun _ _ => rfl)) pa_nil)))))) (pss_one (ps_ret pe_bl)) pss_nil))))))
      (pss_one (ps_ret pe_bl))), ?_⟩
    have rl := row.1
    have p64 : 2 ^ m ≤ 64 := Nat.pow_le_pow_right (by decide) hm
    refine ⟨_, rfl, L, _, rfl, .inl (lst_l hL), _, rfl, ?_⟩
    rw [List.length_map]
    refine ⟨by omega, by omega, ?_⟩
    rw [Int.toNat_natCast]
    refine for_range (lo := 0) (n := us.length) (fun i σ H2 => ∃ (y1 y2 y3 : Option V), σ = [some (.ref p), some (.ref L), some (.int (m : Int)), y1, y2, y3, none] ∧ Same H H2) ⟨none, none, none, rfl, Same.refl _⟩ ?_ ?_
    · rintro i σ H2 hi ⟨y1, y2, y3, rfl, s2⟩
      have h1 : us[i]? = some us[i] := List.getElem?_eq_getElem hi
      have h2 : rows[i]? = some rows[i] := List.getElem?_eq_getElem (by omega)
      have v1 : (us.map V.ref)[i]? = some (.ref us[i]) := by rw [List.getElem?_map, h1]; rfl
      have hu := s2 _ _ (row.2 i _ _ h1 h2)
      have bdi := bd _ (List.mem_of_getElem? h2)
      obtain ⟨b, ws, er, b0, wl⟩ := row_nats (ok i _ h2)
      obtain ⟨_, fit⟩ := rowOk_cz (m := m) (n := i) (t := (b : Int)) (cs := cz ws) (by have z := ok i _ h2; rw [er] at z; exact z)
      have hsum : (cz ws).sum ≤ (b : Int) := by
        unfold fitR at fit
        rw [Bool.and_eq_true, Bool.and_eq_true] at fit
        exact of_decide_eq_true fit.2.2
      have gdr : (rows.map divI)[i]? = some (cz (divd (b :: ws))) := by rw [List.getElem?_map, h2, er, ← divI_cz]; rfl
      have hb19 : (b : Int) ≤ 10 ^ 19 := bdi b (by rw [er]; exact List.mem_cons_self)
      rw [er] at hu
      have hu : H2 us[i] = some (.lst (((b : Int) :: cz ws).map V.int)) := hu
      generalize us[i] = u at h1 v1 hu
      have gp : 0 < gl (b :: ws) := gl_pos b0
      have gd : ∀ w ∈ b :: ws, gl (b :: ws) ∣ w := fun w hw => gl_dvd hw
      unfold divd at gdr
      generalize gl (b :: ws) = g at gp gd gdr
      have gdr : (rows.map divI)[i]? = some (((b / g : Nat) : Int) :: cz (ws.map (· / g))) := gdr
      have eb : (b : Int) = (g : Int) * ((b / g : Nat) : Int) := by exact_mod_cast (Nat.mul_div_cancel' (gd b List.mem_cons_self)).symm
      have es := cz_sum_div (g := g) (ws := ws) fun w hw => gd w (List.mem_cons_of_mem _ hw)
      have tp0 : 0 < b / g := Nat.div_pos (Nat.le_of_dvd b0 (gd b List.mem_cons_self)) gp
      have tle : b / g ≤ b := Nat.div_le_self _ _
      have pn := cz_pos (ws.map (· / g))
      have sb : Sm (b : Int) := sm_of (n := 70) (by
        have : (b : Int).natAbs ≤ 10 ^ 19 := by omega
        exact Nat.lt_of_le_of_lt this (by decide))
      have st : Sm ((b / g : Nat) : Int) := sb.le (by omega)
      have snn := sum_nn pn
      have sle : (cz (ws.map (· / g))).sum ≤ ((b / g : Nat) : Int) := by
        rw [es, eb] at hsum
        exact Int.le_of_mul_le_mul_left hsum (by omega)
      have smm : Sm (((b / g : Nat) : Int) * ((b / g : Nat) : Int)) := sm_of (n := 200) (by
        rw [Int.natAbs_mul]
        have : (((b / g : Nat) : Int)).natAbs ≤ 10 ^ 19 := by omega
        exact Nat.lt_of_le_of_lt (Nat.mul_le_mul this this) (by decide))
      have wle : ∀ (j : Nat) (n c : Int), (cz ws)[j]? = some n → (cz (ws.map (· / g)))[j]? = some c → n = g * c ∧ 0 ≤ n ∧ n ≤ b ∧ 0 ≤ c ∧ c ≤ ((b / g : Nat) : Int) := fun j n c h3 h4 => by
        have m1 := List.mem_of_getElem? h3
        have m2 := List.mem_of_getElem? h4
        have a1 := cz_pos ws n m1
        have a2 := mem_le (cz_pos ws) n m1
        have a3 := pn c m2
        have a4 := mem_le pn c m2
        refine ⟨?_, a1, by omega, a3, by omega⟩
        unfold cz at h3 h4
        rw [List.getElem?_map] at h3 h4
        rw [List.getElem?_map] at h4
        cases hw : ws[j]? with
        | none =>
          rw [hw] at h3
          cases h3
        | some w =>
          rw [hw] at h3 h4
          cases h3
          cases h4
          show ((w : Nat) : Int) = (g : Int) * ((w / g : Nat) : Int)
          exact_mod_cast (Nat.mul_div_cancel' (gd w (List.mem_cons_of_mem _ (List.mem_of_getElem? hw)))).symm
      refine ⟨_, rfl, _, rfl, L, _, _, .ref u, rfl, rfl, lst_l (s2 _ _ hL), at_of (Int.zero_add _) v1, ?_⟩
      refine ⟨_, rfl, _, rfl, (i : Int), m, by rw [Int.zero_add]; rfl, by omega, fun H3 l s3 nlx hl => ?_⟩
      have okl := lotOf_lot (i : Int) m
      have no : ∀ {Z : Prop}, lotB (lotOf (i : Int) m) (-1) m = false → Z := fun {Z} z => by
        rw [okl] at z
        cases z
      have ek : powSum (lotOf (i : Int) m) = (i : Int) := by
        rw [powSum_lotOf]
        refine Int.emod_eq_of_lt (by omega) ?_
        have : ((2 ^ m : Nat) : Int) = 2 ^ m := Int.natCast_pow 2 m
        omega
      have lol := lotOf_len (i : Int) m
      have s23 := s2.trans s3
      have la3 := la.same s23
      obtain ⟨dx, tw, vs, hp, htw, roww⟩ := id la3
      have hu3 := s3 _ _ hu
      refine ⟨_, rfl, p, dx, _, rfl, hp, fT_shares _ _, _, rfl, p, l, rows.map divI, lotOf i m, m, rfl, la3, hl, by omega, by omega, fun z => no z, fun _ => ⟨i, _, _, ek, gdr, by omega, st, by rw [cz_len, List.length_map]; omega, fun H4 M rs s4 nM hM lr hr => ?_⟩⟩
      have hu4 := s4 _ _ hu3
      refine ⟨.ref u, rfl, 1, rfl, u, _, rfl, lst_l hu4, fun S nS => ?_⟩
      rw [show cutV (((b : Int) :: cz ws).map V.int) (some 1) none = (cz ws).map V.int from cut_from1 _]
      have s5 := same_upd (o := .lst ((cz ws).map V.int)) nS
      have hS : upd H4 S (.lst ((cz ws).map V.int)) S = some (.lst ((cz ws).map V.int)) := upd_same
      have hu5 := s5 _ _ hu4
      have hM5 := s5 _ _ hM
      generalize upd H4 S (.lst ((cz ws).map V.int)) = H5 at s5 hS hu5 hM5 ⊢
      refine ⟨S, rfl, ⟨_, lst_l hS⟩, fun G nG => lc_list (K := K) (a := S) (xs := (cz ws).map V.int) (fun j H6 => ∃ ts : List Addr, Same H5 H6 ∧ H6 G = some (.lst (ts.map V.ref)) ∧ ts.length = j ∧ ∀ (k : Nat) (t : Addr) (n : Int), ts[k]? = some t → (cz ws)[k]? = some n → H6 t = some (.tup [.int n, .int (b : Int)])) ⟨[], same_upd nG, upd_same, rfl, fun k t n h => by cases h⟩ (fun j H6 _ ⟨_, s, _⟩ => lst_l (s _ _ hS)) ?_ ?_⟩
      · rintro j x H6 hj ⟨ts, s, hG, lt, du⟩
        obtain ⟨n, rfl, hjn⟩ := int_of hj
        have jl := (List.getElem?_eq_some_iff.mp hjn).1
        rw [cz_len] at jl
        refine ⟨rfl, ?_⟩
        refine lc_yes ?_
        refine iteT ?_
        refine ⟨_, rfl, .ref u, rfl, u, _, _, _, rfl, rfl, lst_l (s _ _ hu5), atI_nat (j := 0) rfl, (by show 2 ≤ sizeLine; decide), fun tp np => ?_⟩
        have hG6 := same_upd (o := .tup [.int n, .int (b : Int)]) np _ _ hG
        have stay : ∀ (t : Addr) (vs : List V), upd H6 tp (.tup [.int n, .int (b : Int)]) t = some (.tup vs) → upd (upd H6 tp (.tup [.int n, .int (b : Int)])) G (.lst (ts.map V.ref ++ [V.ref tp])) t = some (.tup vs) := fun t vs e => (upd_ne fun z => by
          rw [z, hG6] at e
          cases e).trans e
        refine ⟨_, hG6, ?_, ts ++ [tp], same_mut (s.trans (same_upd np)) nG, ?_, ?_, fun k t n2 h hn2 => ?_⟩
        · rw [List.length_map]
          exact small1000 (by omega)
        · rw [upd_same, List.map_append]
          rfl
        · rw [List.length_append, lt]
          rfl
        · by_cases hk : k < ts.length
          · rw [List.getElem?_append_left hk] at h
            exact stay _ _ (same_upd np _ _ (du k t n2 h hn2))
          · rw [List.getElem?_append_right (by omega)] at h
            obtain ⟨c, hc⟩ : ∃ c, k - ts.length = c := ⟨_, rfl⟩
            rw [hc] at h
            cases c with
            | zero =>
              have : k = j := by omega
              subst this
              cases h
              rw [hjn] at hn2
              cases hn2
              exact stay _ _ upd_same
            | succ c => cases h
      rintro H6 ⟨ts, s6, hG, lt, du⟩
      rw [List.length_map, cz_len] at lt
      rw [cz_len, List.length_map] at lr
      refine ⟨M, G, rs, ts, rfl, s6 _ _ hM5, hG, by omega, by omega, fun j r t hr1 ht1 => ?_, true, rfl, iteF ?_⟩
      · have jl : j < ws.length := lt ▸ (List.getElem?_eq_some_iff.mp ht1).1
        obtain ⟨n, g3⟩ : ∃ n, (cz ws)[j]? = some n := ⟨_, List.getElem?_eq_getElem (by rw [cz_len]; exact jl)⟩
        obtain ⟨c, g4⟩ : ∃ c, (cz (ws.map (· / g)))[j]? = some c := ⟨_, List.getElem?_eq_getElem (by rw [cz_len, List.length_map]; exact jl)⟩
        obtain ⟨e, n0, nb, c0, ct⟩ := wle j n c g3 g4
        have lo := low (t := c) (b := ((b / g : Nat) : Int)) (by omega)
        refine ⟨_, _, n, b, ((hr j r c hr1 g4).same s5).same s6, du j t n ht1 g3, lo.pos, ?_, ((st.le (a := c) (by omega)).le lo.leT).mul sb, (sb.le (a := n) (by omega)).mul (st.le lo.leB)⟩
        have e1 := lo.eq
        rw [e, eb]
        generalize ((b / g : Nat) : Int) = d at e1 ⊢
        grind
      have s36 := (s4.trans s5).trans s6
      have la6 := la3.same s36
      obtain ⟨dx6, tw6, vs6, hp6, htw6, roww6⟩ := id la6
      refine ⟨_, rfl, p, dx6, _, rfl, hp6, fT_away _ _, _, rfl, p, l, rows.map divI, lotOf i m, m, rfl, la6, s36 _ _ hl, by omega, by omega, fun z => no z, fun _ => ⟨i, _, _, ek, gdr, by omega, smm, pn, sle, by rw [cz_len, List.length_map]; omega, fun H7 r T1 B1 s7 ra lo => ?_⟩⟩
      have hu7 := s7 _ _ (s6 _ _ hu5)
      refine ⟨.ref u, rfl, u, _, _, _, rfl, rfl, lst_l hu7, atI_nat (j := 0) rfl, ?_⟩
      refine ⟨.ref u, rfl, 1, rfl, u, _, rfl, lst_l hu7, fun S2 nS2 => ?_⟩
      rw [show cutV (((b : Int) :: cz ws).map V.int) (some 1) none = (cz ws).map V.int from cut_from1 _]
      have s8 := same_upd (o := .lst ((cz ws).map V.int)) nS2
      refine ⟨S2, cz ws, rfl, lst_l upd_same, _, _, rfl, rfl, .ref u, rfl, u, _, _, _, rfl, rfl, lst_l (s8 _ _ hu7), atI_nat (j := 0) rfl, ?_⟩
      refine ⟨r, T1, B1, (b : Int) - (cz ws).sum, (b : Int), rfl, ra.same s8, lo.pos, ?_, ((st.le (a := ((b / g : Nat) : Int) - (cz (ws.map (· / g))).sum) (by omega)).le lo.leT).mul sb, (sb.le (a := (b : Int) - (cz ws).sum) (by have := sum_nn (cz_pos ws); omega)).mul (st.le lo.leB), true, rfl, iteF ⟨_, _, _, rfl, ((s23.trans s36).trans s7).trans s8⟩⟩
      have e1 := lo.eq
      rw [es, eb]
      generalize ((b / g : Nat) : Int) = d at e1 ⊢
      generalize (cz (ws.map (· / g))).sum = S3 at e1 ⊢
      grind
    · rintro σ H2 ⟨y1, y2, y3, rfl, s2⟩
      exact q H2 s2
def sp__law_gcd : Sp := fun vs H Q _ => ∃ a b : Nat, vs = [.int (a : Int), .int (b : Int)] ∧ a * b < 6 ^ 90 ∧ Q (.int ((Nat.gcd a b : Nat) : Int)) H
theorem ok__law_gcd {f : Addr} {fd : FuncData} {C_Tabled C_Ratio C_TooMany C_BadTable C_ZeroBottom C_BadLot : Addr} (F : Fun K "_law_gcd" "_law_gcd" s__law_gcd f fd) (T : Txt K mg C_Tabled C_Ratio C_TooMany C_BadTable C_ZeroBottom C_BadLot) (m_int : mg "int" = none) (m_range : mg "range" = none) : FnOk P w K mg base CX0 1 f fd ["_law_a", "_law_b"] sp__law_gcd := by
  refine F.ok sc__law_gcd (fun vs H Q E h => ?_) (fun cdv A outer s H vs Q E hr h => ?_)
  · obtain ⟨a, b, rfl, _⟩ := h
    rfl
  · obtain ⟨a, b, rfl, hab, q⟩ := h
    refine ⟨_, (pss_cons (ps_for PassesOwn.never rfl (pi_range1 (by rfl) m_range (pa_cons pe_int pa_nil)) (pg_name (i := 2) sc__law_gcd.nd rfl (Or.inl rfl))
      (pss_cons (ps_if (pt_cmpR op_eq (pv 1) pe_int (nomark _)) (pss_one ps_break) pss_nil)
      (pss_one (ps_par (i := 0) (j := 1) rfl sc__law_gcd.nd rfl rfl (by decide) rfl rfl (pa_cons (pv 1) (pa_cons (pe_op op_mod (pe_callTy call_int1 (by rfl) m_int (by decide +kernel) (pa_cons (pv 0) pa_nil)) (pv 1)) pa_nil)) rfl))))
      (pss_one (ps_ret (pv 0)))), ?_⟩
    refine ⟨400, rfl, by decide, by decide, ?_⟩
    refine for_range (lo := 0) (n := 400) (fun i σ H2 => ∃ (x y : Nat) (r : Option V), σ = [some (.int (x : Int)), some (.int (y : Int)), r] ∧ Eu (Nat.gcd a b) 90 i x y ∧ H2 = H) ⟨a, b, none, rfl, ⟨rfl, .inl ⟨rfl, hab⟩⟩, rfl⟩ ?_ ?_
    · rintro i σ H2 hi ⟨x, y, r, rfl, eu, rfl⟩
      refine ⟨_, rfl, rfl, _, rfl, ite2 (fun e => ?_) (fun e => ?_)⟩
      · have e : y = 0 := by
          have := V.int.inj (of_decide_eq_true e)
          omega
        subst e
        rw [← eu_zero eu] at q
        exact ⟨_, rfl, q⟩
      · have e : 0 < y := by
          rcases Nat.eq_zero_or_pos y with z | z
          · subst z
            exact absurd rfl (fun z => e (decide_eq_true z))
          · exact z
        exact ⟨_, rfl, _, rfl, .inl ⟨(x : Int), rfl, _, rfl, (x : Int), (y : Int), rfl, rfl, (show (0 : Int) < (y : Int) by omega), _, _, rfl, y, x % y, _, rfl, eu_step eu e, rfl⟩⟩
    · rintro σ H2 ⟨x, y, r, rfl, eu, rfl⟩
      exact (eu_end (n := 199) eu (by decide)).elim
def sp__law_divided (K : PySem.W.Frag) : Sp := fun vs H Q _ => ∃ (L : Addr) (us : List Addr) (rows : List (List Int)), vs = [.ref L] ∧ H L = some (.lst (us.map V.ref)) ∧ RowsL H us rows ∧ us.length ≤ 900 ∧ (∀ r ∈ rows, ∃ (b : Nat) (ws : List Nat), r = cz (b :: ws) ∧ 0 < b ∧ (∀ w ∈ b :: ws, w ≤ 10 ^ 19) ∧ ws.length ≤ 60) ∧
  ∀ H' N (zs : List Addr), Same H H' → H N = none → H' N = some (.lst (zs.map V.ref)) → N ∉ zs → RowsL H' zs (rows.map divI) → Q (.ref N) H' 
theorem ok__law_divided {f : Addr} {fd : FuncData} {C_Tabled C_Ratio C_TooMany C_BadTable C_ZeroBottom C_BadLot : Addr} (F : Fun K "_law_divided" "_law_divided" s__law_divided f fd) (T : Txt K mg C_Tabled C_Ratio C_TooMany C_BadTable C_ZeroBottom C_BadLot) (c__law_gcd : Cal P w K mg base CX0 1 "_law_gcd" ["_law_a", "_law_b"] sp__law_gcd) : FnOk P w K mg base CX0 2 f fd ["_law_rows_here"] (sp__law_divided K) := by
  refine F.ok sc__law_divided (fun vs H Q E h => ?_) (fun cdv A outer s H vs Q E hr h => ?_)
  · obtain ⟨L, us, rows, rfl, _⟩ := h
    rfl
  · obtain ⟨L, us, rows, rfl, hL, row, ul, fm, q⟩ := h
    obtain ⟨f__law_gcd, fd__law_gcd, G__law_gcd, m__law_gcd, k__law_gcd, b__law_gcd⟩ := c__law_gcd
    refine ⟨_, (pss_cons (ps_set (i := 1) sc__law_divided.nd rfl (Or.inl rfl) (pe_lst pa_nil))
      (pss_cons (ps_for PassesOwn.never rfl (pi_list (pv 0)) (pg_name (i := 2) sc__law_divided.nd rfl (Or.inl rfl))
      (pss_cons (ps_set (i := 3) sc__law_divided.nd rfl (Or.inr rfl) pe_int)
      (pss_cons (ps_for PassesOwn.never rfl (pi_list (pv 2)) (pg_name (i := 4) sc__law_divided.nd rfl (Or.inl rfl))
      (pss_one (ps_set (i := 3) sc__law_divided.nd rfl (Or.inr rfl) (pe_call G__law_gcd (hr.mono (by decide)) (by rfl) m__law_gcd k__law_gcd b__law_gcd .nil pass0 (pa_cons (pv 3) (pa_cons (pv 4) pa_nil))))))
      (pss_one (ps_expr (pe_bm PySem.F.plainAttrs_list PySem.F.slot_list_append PySem.F.type_list_append mt_append (pv 1) (pa_cons (pe_lc (own := [("_law_number", 4)]) (g := (gName 4)) (tt := tYes) rfl sc__law_divided.nd (pi_list (pv 2)) (blkOk_by (own := [("_law_number", 4)]) (N := ["_law_rows_here", "_law_found", "_law_row", "_law_shared", "_law_number"]) (sc := defScope s__law_divided) (by decide +kernel)) (fun _ _ _ _ _ => (pg_name (i := 4) sc__law_divided.nd rfl (Or.inl rfl))) (fun _ _ _ _ _ => pts_nil) (fun _ _ _ _ _ => (pe_op op_fdivW (pv 4) (pv 3)))) pa_nil)))))))
      (pss_one (ps_ret (pv 1))))), ?_⟩
    have rl := row.1
    refine ⟨Nat.zero_le _, fun o no => ?_⟩
    have so := same_upd (o := .lst []) no
    have ho : upd H o (.lst []) o = some (.lst (([] : List Addr).map V.ref)) := upd_same
    generalize upd H o (.lst []) = H0 at so ho ⊢
    refine ⟨_, rfl, L, rfl, ⟨_, lst_l (so _ _ hL)⟩, for_list (K := K) (a := L) (xs := us.map V.ref) (fun i σ H2 => ∃ (zs : List Addr) (y1 y2 y3 : Option V), σ = [some (.ref L), some (.ref o), y1, y2, y3] ∧ Same H H2 ∧ H2 o = some (.lst (zs.map V.ref)) ∧ zs.length = i ∧ o ∉ zs ∧ RowsL H2 zs ((rows.take i).map divI)) ⟨[], none, none, none, rfl, so, ho, rfl, (by simp), ⟨rfl, fun i u r h => by cases h⟩⟩ (fun i σ H2 _ ⟨_, _, _, _, _, s, _⟩ => lst_l (s _ _ hL)) ?_ ?_⟩
    · rintro i x σ H2 hi ⟨zs, y1, y2, y3, rfl, s2, ho, lz, oz, rz⟩
      have i1 : i < us.length := by
        have := (List.getElem?_eq_some_iff.mp hi).1
        rw [List.length_map] at this
        exact this
      have h1 : us[i]? = some us[i] := List.getElem?_eq_getElem i1
      have h2 : rows[i]? = some rows[i] := List.getElem?_eq_getElem (by omega)
      rw [List.getElem?_map, h1] at hi
      cases hi
      have hu := s2 _ _ (row.2 i _ _ h1 h2)
      obtain ⟨b, ws, er, b0, bw, wl⟩ := fm _ (List.mem_of_getElem? h2)
      have tk : (rows.take (i + 1)).map divI = (rows.take i).map divI ++ [cz (divd (b :: ws))] := by
        rw [List.take_add_one, h2, List.map_append, er, ← divI_cz]
        rfl
      rw [er] at hu
      generalize us[i] = u at h1 hu
      have gle : ∀ j, gl ((b :: ws).take j) ≤ 10 ^ 19 := fun j => by
        cases j with
        | zero => exact Nat.zero_le _
        | succ j =>
          rw [List.take_succ_cons]
          exact Nat.le_trans (Nat.le_of_dvd b0 (gl_dvd List.mem_cons_self)) (bw b List.mem_cons_self)
      refine ⟨_, rfl, u, rfl, ⟨_, lst_l hu⟩, for_list (K := K) (a := u) (xs := (cz (b :: ws)).map V.int) (fun j σ H3 => ∃ (y : Option V), σ = [some (.ref L), some (.ref o), some (.ref u), some (.int (gl ((b :: ws).take j) : Nat)), y] ∧ H3 = H2) ⟨y3, rfl, rfl⟩ (fun j σ H3 _ ⟨_, _, e⟩ => e ▸ lst_l hu) ?_ ?_⟩
      · rintro j x σ H3 hj ⟨y, rfl, rfl⟩
        obtain ⟨n, rfl, hn⟩ := cz_of hj
        have bn := bw n (List.mem_of_getElem? hn)
        refine ⟨_, rfl, _, rfl, gl ((b :: ws).take j), n, rfl, Nat.lt_of_le_of_lt (Nat.mul_le_mul (gle j) bn) (by decide), some (.int (n : Int)), ?_, rfl⟩
        rw [List.take_add_one, hn]
        show _ = [some (V.ref L), some (V.ref o), some (V.ref u), some (V.int (gl ((b :: ws).take j ++ [n]) : Nat)), some (V.int (n : Int))]
        rw [gl_snoc]
        rfl
      rintro σ H3 ⟨y, rfl, rfl⟩
      rw [czv_len, List.take_length]
      have gp : 0 < gl (b :: ws) := gl_pos b0
      have g19 : gl (b :: ws) ≤ 10 ^ 19 := Nat.le_trans (Nat.le_of_dvd b0 (gl_dvd List.mem_cons_self)) (bw b List.mem_cons_self)
      unfold divd at tk
      generalize gl (b :: ws) = g at gp g19 tk
      have g0 : (0 : Int) < (g : Int) := by omega
      have g1 : (g : Int) < 2 ^ 100 := by omega
      refine ⟨_, rfl, .inl ⟨rfl, _, lst_l ho⟩, ?_⟩
      refine ⟨_, rfl, u, rfl, ⟨_, lst_l hu⟩, fun D nD => lc_list (K := K) (a := u) (xs := (cz (b :: ws)).map V.int) (fun j H4 => Same H3 H4 ∧ H4 D = some (.lst ((cz (((b :: ws).take j).map (· / g))).map V.int))) ⟨same_upd nD, upd_same⟩ (fun j H4 _ ⟨s, _⟩ => lst_l (s _ _ hu)) ?_ ?_⟩
      · rintro j x H4 hj ⟨s, hD⟩
        obtain ⟨n, rfl, hn⟩ := cz_of hj
        refine ⟨rfl, ?_⟩
        refine lc_yes ?_
        refine iteT ?_
        refine ⟨_, rfl, _, rfl, _, _, rfl, rfl, w_div g0 g1, _, hD, ?_, same_mut s nD, ?_⟩
        · rw [czv_len, List.length_map, List.length_take, List.length_cons]
          exact small1000 (by omega)
        · rw [upd_same, List.take_add_one, hn, List.map_append]
          unfold cz
          rw [List.map_append, List.map_append]
          rfl
      rintro H4 ⟨s4, hD⟩
      rw [czv_len, List.take_length] at hD
      have nd : o ∉ zs ++ [D] := fun z => by
        rcases List.mem_append.mp z with z | z
        · exact oz z
        · rw [← List.mem_singleton.mp z, ho] at nD
          cases nD
      refine ⟨o, _, _, rfl, rfl, s4 _ _ ho, by rw [List.length_map]; exact small1000 (by omega), zs ++ [D], _, _, _, rfl, same_mut (s2.trans s4) no, by rw [upd_same, List.map_append]; rfl, by rw [List.length_append, lz]; rfl, nd, ?_⟩
      rw [tk]
      exact RowsL.put nd (RowsL.snoc (rz.same s4) hD)
    · rintro σ H2 ⟨zs, y1, y2, y3, rfl, s2, ho, lz, oz, rz⟩
      rw [List.length_map, rl, List.take_length] at rz
      exact ⟨_, rfl, q H2 o zs s2 no ho oz rz⟩
def sp_law (K : PySem.W.Frag) : Sp := fun vs H Q _ => ∃ (a : Addr) (ns : List Int), vs = [.ref a] ∧ SqL K H a (ns.map V.int) ∧ ns.length ≤ 63 ∧ ∀ H', Q (.bl true) H'

theorem ok_law {f : Addr} {fd : FuncData} {C_Tabled C_Ratio C_TooMany C_BadTable C_ZeroBottom C_BadLot : Addr} (F : Fun K "law" "law" s_law f fd) (T : Txt K mg C_Tabled C_Ratio C_TooMany C_BadTable C_ZeroBottom C_BadLot) (m_bool : mg "bool" = none) (m_list : mg "list" = none) (m_range : mg "range" = none) (c__law_cell : Cal P w K mg base CX0 1 "_law_cell" ["_law_script", "_law_place"] (sp__law_cell K)) (c__law_draws : Cal P w K mg base CX0 1 "_law_draws" ["_law_cell_here", "_law_sizes"] (sp__law_draws K)) (c__law_pool : Cal P w K mg base CX0 2 "_law_pool" ["_law_low", "_law_high"] (sp__law_pool K)) (c__law_rows : Cal P w K mg base CX0 2 "_law_rows" ["_law_pool_here", "_law_many"] (sp__law_rows K)) (c__law_times_all : Cal P w K mg base CX0 1 "_law_times_all" ["_law_rows_here", "_law_factor", "_law_step"] (sp__law_times_all K)) (c__law_changed : Cal P w K mg base CX0 2 "_law_changed" ["_law_rows_here", "_law_number", "_law_place", "_law_many"] (sp__law_changed K)) (c__law_is_int : Cal P w K mg base CX0 1 "_law_is_int" ["_law_x"] sp__law_is_int) (c__law_divided : Cal P w K mg base CX0 2 "_law_divided" ["_law_rows_here"] (sp__law_divided K)) (c__law_kept : Cal P w K mg base CX0 3 "_law_kept" ["_law_told", "_law_due"] sp__law_kept) (c__law_all_shares : Cal P w K mg base CX0 7 "_law_all_shares" ["_law_table", "_law_rows_here", "_law_many"] (sp__law_all_shares C_Tabled)) (c__law_refuses : Cal P w K mg base CX0 7 "_law_refuses" ["_law_rule", "_law_lot_here"] (sp__law_refuses C_Tabled)) (c__law_same_row : Cal P w K mg base CX0 3 "_law_same_row" ["_law_x", "_law_pairs"] (sp__law_same_row C_Ratio)) (c_Tabled___init__ : CalI P w K mg base (L2.CX P w) 5 C_Tabled ["self", "many", "rows"] (sp_Tabled___init__ C_Tabled C_TooMany C_BadTable) []) (c_Tabled_shares : CalM P w K mg base (L2.CX P w) 3 C_Tabled "shares" ["self", "lot"] (sp_Tabled_shares K C_Tabled C_Ratio C_BadLot)) (c_Tabled___eq__ : CalM P w K mg base CX0 1 C_Tabled "__eq__" ["self", "other"] (sp_Tabled___eq__ C_Tabled)) : FnOk P w K mg base CX0 8 f fd ["_law_script"] (sp_law K) := by
  refine F.ok sc_law (fun vs H Q E h => ?_) (fun cdv A outer s H vs Q E hr h => ?_)
  · obtain ⟨a, ns, rfl, _⟩ := h
    rfl
  · obtain ⟨a, ns, rfl, hS, hlen, q⟩ := h
    obtain ⟨f__law_cell, fd__law_cell, G__law_cell, m__law_cell, k__law_cell, b__law_cell⟩ := c__law_cell
    obtain ⟨f__law_draws, fd__law_draws, G__law_draws, m__law_draws, k__law_draws, b__law_draws⟩ := c__law_draws
    obtain ⟨f__law_pool, fd__law_pool, G__law_pool, m__law_pool, k__law_pool, b__law_pool⟩ := c__law_pool
    obtain ⟨f__law_rows, fd__law_rows, G__law_rows, m__law_rows, k__law_rows, b__law_rows⟩ := c__law_rows
    obtain ⟨f__law_times_all, fd__law_times_all, G__law_times_all, m__law_times_all, k__law_times_all, b__law_times_all⟩ := c__law_times_all
    obtain ⟨f__law_changed, fd__law_changed, G__law_changed, m__law_changed, k__law_changed, b__law_changed⟩ := c__law_changed
    obtain ⟨f__law_is_int, fd__law_is_int, G__law_is_int, m__law_is_int, k__law_is_int, b__law_is_int⟩ := c__law_is_int
    obtain ⟨f__law_divided, fd__law_divided, G__law_divided, m__law_divided, k__law_divided, b__law_divided⟩ := c__law_divided
    obtain ⟨f__law_kept, fd__law_kept, G__law_kept, m__law_kept, k__law_kept, b__law_kept⟩ := c__law_kept
    obtain ⟨f__law_all_shares, fd__law_all_shares, G__law_all_shares, m__law_all_shares, k__law_all_shares, b__law_all_shares⟩ := c__law_all_shares
    obtain ⟨f__law_refuses, fd__law_refuses, G__law_refuses, m__law_refuses, k__law_refuses, b__law_refuses⟩ := c__law_refuses
    obtain ⟨f__law_same_row, fd__law_same_row, G__law_same_row, m__law_same_row, k__law_same_row, b__law_same_row⟩ := c__law_same_row
    obtain ⟨f_Tabled___init__, fd_Tabled___init__, G_Tabled___init__, M_Tabled___init__, b_Tabled___init__, ds_Tabled___init__, vd_Tabled___init__, bd_Tabled___init__⟩ := c_Tabled___init__
    obtain ⟨f_Tabled_shares, fd_Tabled_shares, G_Tabled_shares, M_Tabled_shares, b_Tabled_shares⟩ := c_Tabled_shares
    obtain ⟨f_Tabled___eq__, fd_Tabled___eq__, G_Tabled___eq__, M_Tabled___eq__, b_Tabled___eq__⟩ := c_Tabled___eq__
    refine ⟨_, (pss_cons (ps_set (i := 1) sc_law.nd rfl (Or.inl rfl) (pe_call G__law_draws (hr.mono (by decide)) (by rfl) m__law_draws k__law_draws b__law_draws .nil pass0 (pa_cons (pe_call G__law_cell (hr.mono (by decide)) (by rfl) m__law_cell k__law_cell b__law_cell .nil pass0 (pa_cons (pv 0) (pa_cons pe_int pa_nil))) (pa_cons (pe_lst (pa_cons pe_int (pa_cons pe_int (pa_cons pe_int (pa_cons pe_int (pa_cons pe_int pa_nil)))))) pa_nil))))
      (pss_cons (ps_set (i := 2) sc_law.nd rfl (Or.inl rfl) (pe_ix ix_list (pv 1) pe_int (fun _ _ => rfl)))
      (pss_cons (ps_set (i := 3) sc_law.nd rfl (Or.inl rfl) (pe_call G__law_pool (hr.mono (by decide)) (by rfl) m__law_pool k__law_pool b__law_pool .nil pass0 (pa_cons (pe_call G__law_cell (hr.mono (by decide)) (by rfl) m__law_cell k__law_cell b__law_cell .nil pass0 (pa_cons (pv 0) (pa_cons pe_int pa_nil))) (pa_cons (pe_call G__law_cell (hr.mono (by decide)) (by rfl) m__law_cell k__law_cell b__law_cell .nil pass0 (pa_cons (pv 0) (pa_cons pe_int pa_nil))) pa_nil))))
      (pss_cons (ps_set (i := 4) sc_law.nd rfl (Or.inl rfl) (pe_call G__law_rows (hr.mono (by decide)) (by rfl) m__law_rows k__law_rows b__law_rows .nil pass0 (pa_cons (pv 3) (pa_cons (pv 2) pa_nil))))
      (pss_cons (ps_set (i := 5) sc_law.nd rfl (Or.inl rfl) (pe_call G__law_times_all (hr.mono (by decide)) (by rfl) m__law_times_all k__law_times_all b__law_times_all .nil pass0 (pa_cons (pv 4) (pa_cons (pe_ix ix_list (pv 1) pe_int (fun _ _ => rfl)) (pa_cons pe_int pa_nil)))))
      (pss_cons (ps_set (i := 6) sc_law.nd rfl (Or.inl rfl) (pv 2))
      (Evl.pss_cut (ps_if (pt_cmpR op_eq (pe_ix ix_list (pv 1) pe_int (fun _ _ => rfl)) pe_int (nomark _)) (pss_one (ps_set (i := 4) sc_law.nd rfl (Or.inl rfl) (pe_call G__law_changed (hr.mono (by decide)) (by rfl) m__law_changed k__law_changed b__law_changed .nil pass0 (pa_cons (pv 4) (pa_cons (pe_ix ix_list (pv 1) pe_int (fun _ _ => rfl)) (pa_cons (pe_ix ix_list (pv 1) pe_int (fun _ _ => rfl)) (pa_cons (pv 2) pa_nil))))))) pss_nil)
      (Evl.pss_cut (ps_if (pt_cmpR op_eq (pe_ix ix_list (pv 1) pe_int (fun _ _ => rfl)) pe_int (nomark _)) (pss_one (ps_set (i := 4) sc_law.nd rfl (Or.inl rfl) (pe_call G__law_rows (hr.mono (by decide)) (by rfl) m__law_rows k__law_rows b__law_rows .nil pass0 (pa_cons (pe_call G__law_pool (hr.mono (by decide)) (by rfl) m__law_pool k__law_pool b__law_pool .nil pass0 (pa_cons (pe_call G__law_cell (hr.mono (by decide)) (by rfl) m__law_cell k__law_cell b__law_cell .nil pass0 (pa_cons (pv 0) (pa_cons pe_int pa_nil))) (pa_cons (pe_call G__law_cell (hr.mono (by decide)) (by rfl) m__law_cell k__law_cell b__law_cell .nil pass0 (pa_cons (pv 0) (pa_cons pe_int pa_nil))) pa_nil))) (pa_cons (pv 2) pa_nil))))) pss_nil)
      (Evl.pss_cut (ps_if (pt_cmpR op_eq (pe_ix ix_list (pv 1) pe_int (fun _ _ => rfl)) pe_int (nomark _)) (pss_cons (ps_set (i := 6) sc_law.nd rfl (Or.inl rfl) (pe_ix ix_list (pe_lst (pa_cons pe_int (pa_cons pe_int (pa_cons pe_int (pa_cons pe_int (pa_cons pe_int (pa_cons pe_int (pa_cons pe_int pa_nil)))))))) (pv 2) (fun _ _ => rfl)))
      (pss_one (ps_set (i := 4) sc_law.nd rfl (Or.inl rfl) (pe_call G__law_rows (hr.mono (by decide)) (by rfl) m__law_rows k__law_rows b__law_rows .nil pass0 (pa_cons (pv 3) (pa_cons (pv 6) pa_nil)))))) pss_nil)
      (pss_cons (ps_setLc (i := 7) (own := [("_law_row", 14)]) (g := (gName 14)) (tt := tYes) rfl sc_law.nd rfl rfl (sw_true rfl rfl rfl (by decide +kernel)) (pi_list (pv 5)) (blkOk_by (own := [("_law_row", 14)]) (N := ["_law_script", "_law_drawn", "_law_many", "_law_pool_here", "_law_base", "_law_rows_here", "_law_wide", "_law_handed", "_law_table", "_law_other", "_law_due", "_law_wrong", "_law_told", "_law_alike", "_law_row", "_law_thing"]) (sc := defScope s_law) (by decide +kernel)) (fun _ _ _ _ _ => (pg_name (i := 14) sc_law.nd rfl (Or.inl rfl))) (fun _ _ _ _ _ => pts_nil) (fun _ _ _ _ _ => (pe_callTy (T := "list") (r := rListOf K) call_list_of (by rfl) m_list (by decide +kernel) (pa_cons (pv 14) pa_nil))))
      (pss_cons (ps_set (i := 8) sc_law.nd rfl (Or.inl rfl) (pe_make M_Tabled___init__ G_Tabled___init__ (hr.mono (by decide)) (by rfl) T.g_Tabled b_Tabled___init__ .nil passL (pa_cons (pv 2) (pa_cons (pv 7) pa_nil))))
      (pss_cons (ps_set (i := 9) sc_law.nd rfl (Or.inl rfl) (pe_make M_Tabled___init__ G_Tabled___init__ (hr.mono (by decide)) (by rfl) T.g_Tabled b_Tabled___init__ .nil passL (pa_cons (pv 6) (pa_cons (pe_call G__law_times_all (hr.mono (by decide)) (by rfl) m__law_times_all k__law_times_all b__law_times_all .nil pass0 (pa_cons (pv 4) (pa_cons (pe_op op_add (pe_ix ix_list (pv 1) pe_int (fun _ _ => rfl)) pe_int) (pa_cons pe_int pa_nil)))) pa_nil))))
      (pss_cons (ps_if (PW.pt (pw_or (pt_cmpR (op_neD hr.units) (pv 7) (pv 5) (nomark _)) (pw_or (pt_not (pt_val (pe_call G__law_is_int (hr.mono (by decide)) (by rfl) m__law_is_int k__law_is_int b__law_is_int .nil pass0 (pa_cons (pe_fld (pv 8) rfl) pa_nil)))) (pw_or1 (pt_cmpR op_ne (pe_fld (pv 8) rfl) (pv 2) (nomark _)))))) (pss_one (ps_ret pe_bl)) pss_nil)
      (pss_cons (ps_asg (pe_op op_add (pe_ix ix_list (pe_ix ix_list (pv 7) pe_int (fun _ _ => rfl)) pe_int (fun _ _ => rfl)) pe_int) (pg_sub (pe_ix ix_list (pv 7) pe_int (fun _ _ => rfl)) pe_int set_list))
      (pss_cons (ps_expr (pe_bm PySem.F.plainAttrs_list PySem.F.slot_list_append PySem.F.type_list_append mt_append (pv 7) (pa_cons (pe_lst (pa_cons pe_int pa_nil)) pa_nil)))
      (pss_cons (ps_set (i := 10) sc_law.nd rfl (Or.inl rfl) (pe_call G__law_divided (hr.mono (by decide)) (by rfl) m__law_divided k__law_divided b__law_divided .nil pass0 (pa_cons (pv 5) pa_nil)))
      (pss_cons (ps_if (PW.pt (pw_or (pt_not (pt_val (pe_call G__law_kept (hr.mono (by decide)) (by rfl) m__law_kept k__law_kept b__law_kept .nil pass0 (pa_cons (pe_fld (pv 8) rfl) (pa_cons (pv 10) pa_nil))))) (pw_or1 (pt_not (pt_val (pe_call G__law_all_shares (hr.mono (by decide)) (by rfl) m__law_all_shares k__law_all_shares b__law_all_shares .nil pass0 (pa_cons (pv 8) (pa_cons (pv 5) (pa_cons (pv 2) pa_nil))))))))) (pss_one (ps_ret pe_bl)) pss_nil)
      (pss_cons (ps_for PassesOwn.never rfl (pi_list (pe_lst (pa_cons (pe_tup (pa_cons (pv 2) pa_nil)) (pa_cons (pe_tup (pa_cons (pe_un un_neg pe_int) pa_nil)) (pa_cons (pe_tup (pa_cons pe_int (pa_cons pe_int pa_nil))) (pa_cons (pe_tup (pa_cons pe_int (pa_cons pe_int pa_nil))) pa_nil)))))) (pg_name (i := 11) sc_law.nd rfl (Or.inl rfl))
      (pss_one (ps_if (pt_not (pt_val (pe_call G__law_refuses (hr.mono (by decide)) (by rfl) m__law_refuses k__law_refuses b__law_refuses .nil pass0 (pa_cons (pv 8) (pa_cons (pv 11) pa_nil))))) (pss_one (ps_ret pe_bl)) pss_nil)))
      (pss_cons (ps_set (i := 12) sc_law.nd rfl (Or.inl rfl) (pe_meth (pv 8) T.cl_Tabled M_Tabled_shares G_Tabled_shares (hr.mono (by decide)) b_Tabled_shares .nil passL (pa_cons (pe_tup pa_nil) pa_nil)))
      (pss_cons (ps_expr (pe_bm PySem.F.plainAttrs_list PySem.F.slot_list_append PySem.F.type_list_append mt_append (pv 12) (pa_cons pe_int pa_nil)))
      (pss_cons (ps_asg pe_int (pg_sub (pv 12) pe_int set_list))
      (Evl.pss_cut (ps_set (i := 13) sc_law.nd rfl (Or.inl rfl) (pe_and (pe_cmpR op_eq (pv 6) (pv 2) (nomark _)) (pe_one (pe_cmpR (op_eqD hr.units) (pv 10) (pe_call G__law_divided (hr.mono (by decide)) (by rfl) m__law_divided k__law_divided b__law_divided .nil pass0 (pa_cons (pv 4) pa_nil)) (nomark _)))))
      (pss_cons (ps_if (PW.pt (pw_or (pt_not (pt_val (pe_call G__law_same_row (hr.mono (by decide)) (by rfl) m__law_same_row k__law_same_row b__law_same_row .nil pass0 (pa_cons (pe_meth (pv 8) T.cl_Tabled M_Tabled_shares G_Tabled_shares (hr.mono (by decide)) b_Tabled_shares .nil passL (pa_cons (pe_tup pa_nil) pa_nil)) (pa_cons (pe_lc (own := [("_law_thing", 15)]) (g := (gName 15)) (tt := tYes) rfl sc_law.nd (pi_range1 (by rfl) m_range (pa_cons (pv 2) pa_nil)) (blkOk_by (own := [("_law_thing", 15)]) (N := ["_law_script", "_law_drawn", "_law_many", "_law_pool_here", "_law_base", "_law_rows_here", "_law_wide", "_law_handed", "_law_table", "_law_other", "_law_due", "_law_wrong", "_law_told", "_law_alike", "_law_row", "_law_thing"]) (sc := defScope s_law) (by decide +kernel)) (fun _ _ _ _ _ => (pg_name (i := 15) sc_law.nd rfl (Or.inl rfl))) (fun _ _ _ _ _ => pts_nil) (fun _ _ _ _ _ => (pe_tup (pa_cons pe_int (pa_cons pe_int pa_nil))))) pa_nil))))) (pw_or1 (pt_not (pt_val (pe_callTy call_bool1 (by rfl) m_bool (by decide +kernel) (pa_cons (pe_cmpR (op_cmp_Eq M_Tabled___eq__ M_Tabled___eq__ T.si_Tabled T.sr_Tabled G_Tabled___eq__ G_Tabled___eq__ (hr.mono (by decide)) (hr.mono (by decide)) b_Tabled___eq__ b_Tabled___eq__ pass0) (pv 8) (pv 8) (nomark _)) pa_nil))))))) (pss_one (ps_ret pe_bl)) pss_nil)
      (pss_one (ps_ret (pe_and (pe_cmpR op_eq (pe_callTy call_bool1 (by rfl) m_bool (by decide +kernel) (pa_cons (pe_cmpR (op_cmp_Eq M_Tabled___eq__ M_Tabled___eq__ T.si_Tabled T.sr_Tabled G_Tabled___eq__ G_Tabled___eq__ (hr.mono (by decide)) (hr.mono (by decide)) b_Tabled___eq__ b_Tabled___eq__ pass0) (pv 8) (pv 9) (nomark _)) pa_nil)) (pv 13) (nomark _)) (pe_one (pe_cmpR op_eq (pe_callTy call_bool1 (by rfl) m_bool (by decide +kernel) (pa_cons (pe_cmpR (op_cmp_Eq M_Tabled___eq__ M_Tabled___eq__ T.si_Tabled T.sr_Tabled G_Tabled___eq__ G_Tabled___eq__ (hr.mono (by decide)) (hr.mono (by decide)) b_Tabled___eq__ b_Tabled___eq__ pass0) (pv 9) (pv 8) (nomark _)) pa_nil)) (pv 13) (nomark _))))))))))))))))))))))))))))), ?_⟩
    refine ⟨.ref a, rfl, a, ns, 0, rfl, hS, fun c1 => ?_⟩
    refine ⟨(by show 5 ≤ sizeLine; decide), fun p1 np1 => ?_⟩
    refine ⟨c1, p1, [7, 6, 4, 64, 7], rfl, lst_l upd_same, by decide, by decide, fun dsd1 H1 d1 wd1 s1 nd1 hd1 => ?_⟩
    have s1 : Same H H1 := (same_upd np1).trans s1
    have nd1 : H d1 = none := (same_upd np1).free nd1
    obtain ⟨x0, rx0, rfl, lx0, ux0, wd1⟩ := wd1.c
    obtain ⟨x1, rx1, rfl, lx1, ux1, wd1⟩ := wd1.c
    obtain ⟨x2, rx2, rfl, lx2, ux2, wd1⟩ := wd1.c
    obtain ⟨x3, rx3, rfl, lx3, ux3, wd1⟩ := wd1.c
    obtain ⟨x4, rx4, rfl, lx4, ux4, wd1⟩ := wd1.c
    cases wd1.n
    have Ld1 : SqL K H1 d1 ([x0, x1, x2, x3, x4].map V.int) := lst_l hd1
    obtain ⟨m, rfl⟩ : ∃ m : Nat, x0 = (m : Int) := ⟨x0.toNat, by omega⟩
    have hm : m ≤ 6 := by omega
    refine ⟨.ref d1, rfl, d1, _, _, _, rfl, rfl, Ld1, atI_nat (j := 0) rfl, ?_⟩
    refine ⟨.ref a, rfl, a, ns, 1, rfl, s1.seq hS, fun c2 => ?_⟩
    refine ⟨.ref a, rfl, a, ns, 2, rfl, s1.seq hS, fun c3 => ?_⟩
    refine ⟨c2, c3, rfl, fun H2 P pn s2 hP pl pb => ?_⟩
    refine ⟨_, rfl, _, rfl, P, pn, m, rfl, hP, pl, pb, hm, fun H3 B bus brs s3 hB rowB lB okB bdB => ?_⟩
    have p64 : 2 ^ m ≤ 64 := Nat.pow_le_pow_right (by decide) hm
    have p1 : 0 < 2 ^ m := Nat.pow_pos (by decide)
    have goodB : GoodR m (10 ^ 17) brs := ⟨lB, okB, bdB⟩
    have lb : bus.length = brs.length := rowB.1
    have s13 := (s1.trans s2).trans s3
    have hd3 := (s2.trans s3) _ _ hd1
    have hP3 := s3 _ _ hP
    refine ⟨_, rfl, .ref d1, rfl, d1, _, _, _, rfl, rfl, (lst_l hd3), atI_nat (j := 1) rfl, B, bus, brs, x1, 1, rfl, hB, rowB, by omega, fun r hr => by have := (bdB r hr).1; omega, fun H4 R us fs s4 nR hR oR lf bf rowR => ?_⟩
    have goodR := goodB.mul lf bf
    have dvR := times_divI lf bf goodB.nats
    generalize times fs brs = rows at rowR goodR dvR
    have lur : us.length = rows.length := rowR.1
    have lrm := goodR.1
    have hd4 := s4 _ _ hd3
    have hP4 := s4 _ _ hP3
    have s14 := s13.trans s4
    refine ⟨_, rfl, ?_⟩
    refine ⟨fun σ' H' => ∃ (B' : Addr) (cus : List Addr) (crs : List (List Int)), σ' = [some (.ref a), some (.ref d1), some (.int (m : Int)), some (.ref P), some (.ref B'), some (.ref R), some (.int (m : Int)), none, none, none, none, none, none, none, none, none] ∧ Same H4 H' ∧ H' B' = some (.lst (cus.map V.ref)) ∧ RowsL H' cus crs ∧ GoodR m (10 ^ 17 + 1) crs, ?_, ?_⟩
    · refine ⟨.ref d1, rfl, d1, _, _, _, rfl, rfl, (lst_l hd4), atI_nat (j := 2) rfl, rfl, _, rfl, ite2 (fun c => ?_) (fun c => ⟨B, bus, brs, rfl, Same.refl _, s4 _ _ hB, rowB.same s4, goodB.le (by decide)⟩)⟩
      exact ⟨_, rfl, .ref d1, rfl, d1, _, _, _, rfl, rfl, (lst_l hd4), atI_nat (j := 3) rfl, .ref d1, rfl, d1, _, _, _, rfl, rfl, (lst_l hd4), atI_nat (j := 4) rfl, _, rfl, B, bus, brs, x3, x4, 10 ^ 17, m, rfl, s4 _ _ hB, rowB.same s4, lB, hm, okB, bdB, fun H5 N zs rs s5 hN rowN lN okN bdN => ⟨N, zs, rs, rfl, s5, hN, rowN, lN, okN, bdN⟩⟩
    rintro σ' H5 ⟨B1, cus1, crs1, rfl, s45, hB1, rowC1, goodC1⟩
    refine ⟨fun σ' H' => ∃ (B' : Addr) (cus : List Addr) (crs : List (List Int)), σ' = [some (.ref a), some (.ref d1), some (.int (m : Int)), some (.ref P), some (.ref B'), some (.ref R), some (.int (m : Int)), none, none, none, none, none, none, none, none, none] ∧ Same H4 H' ∧ H' B' = some (.lst (cus.map V.ref)) ∧ RowsL H' cus crs ∧ GoodR m (10 ^ 17 + 1) crs, ?_, ?_⟩
    · refine ⟨.ref d1, rfl, d1, _, _, _, rfl, rfl, (lst_l (s45 _ _ hd4)), atI_nat (j := 2) rfl, rfl, _, rfl, ite2 (fun c => ?_) (fun c => ⟨B1, cus1, crs1, rfl, s45, hB1, rowC1, goodC1⟩)⟩
      refine ⟨.ref a, rfl, a, ns, 3, rfl, (s14.trans s45).seq hS, fun c4 => ⟨.ref a, rfl, a, ns, 4, rfl, (s14.trans s45).seq hS, fun c5 => ⟨c4, c5, rfl, fun H6 P2 pn2 s6 hP2 pl2 pb2 => ?_⟩⟩⟩
      exact ⟨_, rfl, P2, pn2, m, rfl, hP2, pl2, pb2, hm, fun H7 N zs rs s7 hN rowN lN okN bdN => ⟨N, zs, rs, rfl, (s45.trans s6).trans s7, hN, rowN, GoodR.le (by decide) ⟨lN, okN, bdN⟩⟩⟩
    clear hB1 rowC1 goodC1 s45
    rintro σ' H6 ⟨B1, cus1, crs1, rfl, s46, hB1, rowC1, goodC1⟩
    refine ⟨fun σ' H' => ∃ (B' : Addr) (cus : List Addr) (crs : List (List Int)) (w : Nat), σ' = [some (.ref a), some (.ref d1), some (.int (m : Int)), some (.ref P), some (.ref B'), some (.ref R), some (.int (w : Int)), none, none, none, none, none, none, none, none, none] ∧ w ≤ 6 ∧ Same H4 H' ∧ H' B' = some (.lst (cus.map V.ref)) ∧ RowsL H' cus crs ∧ GoodR w (10 ^ 17 + 1) crs, ?_, ?_⟩
    · refine ⟨.ref d1, rfl, d1, _, _, _, rfl, rfl, (lst_l (s46 _ _ hd4)), atI_nat (j := 2) rfl, rfl, _, rfl, ite2 (fun c => ?_) (fun c => ⟨B1, cus1, crs1, m, rfl, hm, s46, hB1, rowC1, goodC1⟩)⟩
      refine ⟨(by show 7 ≤ sizeLine; decide), fun p3 n3 => ?_⟩
      obtain ⟨w, hw, w6⟩ : ∃ w : Nat, atI [V.int 1, V.int 2, V.int 3, V.int 4, V.int 5, V.int 6, V.int 5] (m : Int) = some (.int (w : Int)) ∧ w ≤ 6 := by
        rcases (by omega : m = 0 ∨ m = 1 ∨ m = 2 ∨ m = 3 ∨ m = 4 ∨ m = 5 ∨ m = 6) with rfl | rfl | rfl | rfl | rfl | rfl | rfl
        · exact ⟨1, rfl, by decide⟩
        · exact ⟨2, rfl, by decide⟩
        · exact ⟨3, rfl, by decide⟩
        · exact ⟨4, rfl, by decide⟩
        · exact ⟨5, rfl, by decide⟩
        · exact ⟨6, rfl, by decide⟩
        · exact ⟨5, rfl, by decide⟩
      have s7 := same_upd (o := .lst [V.int 1, V.int 2, V.int 3, V.int 4, V.int 5, V.int 6, V.int 5]) n3
      refine ⟨_, rfl, p3, _, _, .int (w : Int), rfl, rfl, lst_l upd_same, hw, ?_⟩
      exact ⟨_, rfl, _, rfl, P, pn, w, rfl, s7 _ _ (s46 _ _ hP4), pl, pb, w6, fun H7 N zs rs s8 hN rowN lN okN bdN => ⟨N, zs, rs, w, rfl, w6, (s46.trans s7).trans s8, hN, rowN, GoodR.le (by decide) ⟨lN, okN, bdN⟩⟩⟩
    clear hB1 rowC1 goodC1 s46
    rintro σ' H8 ⟨B2, cus, crs, w, rfl, w6, s48, hB2, rowC, goodC⟩
    have hR8 := s48 _ _ hR
    have row8 := rowR.same s48
    have q64 : 2 ^ w ≤ 64 := Nat.pow_le_pow_right (by decide) w6
    have lcu : cus.length = crs.length := rowC.1
    have lcm := goodC.1
    refine ⟨_, rfl, R, rfl, ⟨_, lst_l hR8⟩, fun D nD => lc_list (K := K) (a := R) (xs := us.map V.ref) (fun i H7 => ∃ vs0 : List Addr, Same H8 H7 ∧ H7 D = some (.lst (vs0.map V.ref)) ∧ vs0.length = i ∧ D ∉ vs0 ∧ (∀ z ∈ vs0, H8 z = none) ∧ RowsL H7 vs0 (rows.take i)) ⟨[], same_upd nD, upd_same, rfl, (by simp), (fun z hz => absurd hz (by simp)), ⟨rfl, fun i u r h => by cases h⟩⟩ (fun i H7 _ ⟨_, s, _⟩ => lst_l (s _ _ hR8)) ?_ ?_⟩
    · rintro i x H7 hi ⟨vs0, s, hR, lu, ou, nd0, rw0⟩
      have i1 : i < us.length := by
        have := (List.getElem?_eq_some_iff.mp hi).1
        rw [List.length_map] at this
        exact this
      have h1 : us[i]? = some us[i] := List.getElem?_eq_getElem i1
      have h2 : rows[i]? = some rows[i] := List.getElem?_eq_getElem (by have := (row8).1; omega)
      rw [List.getElem?_map, h1] at hi
      cases hi
      have hu := s _ _ ((row8).2 i _ _ h1 h2)
      refine ⟨rfl, ?_⟩
      refine lc_yes ?_
      refine iteT ?_
      refine ⟨_, rfl, us[i], _, rfl, .inl (lst_l hu), fun v nv => ?_⟩
      have sv := same_upd (o := .lst (rows[i].map V.int)) nv
      have hR7 := sv _ _ hR
      have no : D ∉ vs0 ++ [v] := fun z => by
        rcases List.mem_append.mp z with z | z
        · exact ou z
        · rw [← List.mem_singleton.mp z, hR] at nv
          cases nv
      have nd1 : ∀ z ∈ vs0 ++ [v], H8 z = none := fun z hz => by
        rcases List.mem_append.mp hz with hz | hz
        · exact nd0 z hz
        · rw [List.mem_singleton.mp hz]
          exact s.free nv
      refine ⟨_, hR7, ?_, vs0 ++ [v], same_mut (s.trans sv) nD, ?_, ?_, no, nd1, ?_⟩
      · rw [List.length_map]
        exact small1000 (by omega)
      · rw [upd_same, List.map_append]
        rfl
      · rw [List.length_append, lu]
        rfl
      · rw [List.take_add_one, h2]
        exact RowsL.put no (RowsL.snoc (rw0.same sv) upd_same)
    rintro H9 ⟨vs, s9, hD, lvs, oD, frD, rowD⟩
    rw [List.length_map, show us.length = rows.length from (row8).1, List.take_length] at rowD
    rw [List.length_map] at lvs

    have lvd : vs.length = rows.length := rowD.1
    refine ⟨_, rfl, _, rfl, fun x dx nx ndx _ => ⟨x, dx, D, vs, rows, m, rfl, upd_same, made1 nx ndx _ _ hD, (rowD).same (made1 nx ndx), by omega, goodR.wide (by omega) (by decide), fun n e => absurd ((made_all (by omega) goodR.1 goodR.2.1).symm.trans e) (by simp), fun e => absurd ((made_all (by omega) goodR.1 goodR.2.1).symm.trans e) (by simp), fun n e => absurd ((made_all (by omega) goodR.1 goodR.2.1).symm.trans e) (by simp), fun _ H10 sx la => ⟨rfl, ?_⟩⟩⟩
    have s910 := sameX_made nx ndx sx
    have s810 := s9.trans s910
    have hd10 := s810 _ _ (s48 _ _ hd4)
    refine ⟨_, rfl, _, rfl, .ref d1, rfl, d1, _, _, _, rfl, rfl, (lst_l hd10), atI_nat (j := 1) rfl, _, _, rfl, rfl, B2, cus, crs, x1 + 1, 2, rfl, s810 _ _ hB2, rowC.same s810, by omega, fun r hr => by have := (goodC.2.2 r hr).1; omega, fun H11 T2 ts fs2 s11 nT hT oT lf2 bf2 rowT => ?_⟩
    have goodT := goodC.mul lf2 bf2
    have dvT := times_divI lf2 bf2 goodC.nats
    generalize times fs2 crs = trs at rowT goodT dvT
    have lut : ts.length = trs.length := rowT.1
    have ltm := goodT.1
    refine fun y dy ny ndy _ => ⟨y, dy, T2, ts, trs, w, rfl, upd_same, made1 ny ndy _ _ hT, (rowT).same (made1 ny ndy), by omega, goodT.wide (by omega) (by decide), fun n e => absurd ((made_all (by omega) goodT.1 goodT.2.1).symm.trans e) (by simp), fun e => absurd ((made_all (by omega) goodT.1 goodT.2.1).symm.trans e) (by simp), fun n e => absurd ((made_all (by omega) goodT.1 goodT.2.1).symm.trans e) (by simp), fun _ H12 sx2 lay => ⟨rfl, ?_⟩⟩
    rw [dvT] at lay
    have s1012 := s11.trans (sameX_made ny ndy sx2)
    have la12 := la.same s1012
    have s912 := s910.trans s1012
    have s812 := s810.trans s1012
    have hD12 := s912 _ _ hD
    have rowD12 := rowD.same s912
    have hR12 := s812 _ _ hR8
    have row12 := row8.same s812
    clear la hd10 sx sx2
    refine ⟨_, rfl, _, rfl, _, _, .lst (lst_l hD12) (dp_all rowD12), .lst (lst_l hR12) (dp_all row12), sh_rows _, sh_rows _, false, ?_, iteF ?_⟩
    · rw [SeqAt.eqv_refl _ (SeqAt.canLay_of_shaped (sh_rows _))]
      rfl
    obtain ⟨dx2, tw, tvs, hx, htw, roww⟩ := id la12
    refine ⟨.ref x, rfl, x, C_Tabled, dx2, _, _, rfl, hx, T.cl_Tabled, T.n_Tabled_many, fT_many _ _, (m : Int), rfl, true, rfl, iteF ?_⟩
    refine ⟨.ref x, rfl, x, C_Tabled, dx2, _, _, rfl, hx, T.cl_Tabled, T.n_Tabled_many, fT_many _ _, _, rfl, rfl, _, rfl, iteNS rfl ?_⟩
    clear hx htw roww
    -- the rows handed in are changed
    obtain ⟨z, hz0⟩ : ∃ z, vs[0]? = some z := ⟨_, List.getElem?_eq_getElem (by omega)⟩
    obtain ⟨t0, tr, hr0⟩ : ∃ t tr, rows[0]? = some (t :: tr) := by
      have h0 : rows[0]? = some rows[0] := List.getElem?_eq_getElem (by omega)
      obtain ⟨b, ws, e, _⟩ := row_nats (goodR.2.1 0 _ h0)
      exact ⟨_, _, h0.trans (congrArg some e)⟩
    have hz12 := rowD12.2 0 z _ hz0 hr0
    have v0 : (vs.map V.ref)[0]? = some (.ref z) := by rw [List.getElem?_map, hz0]; rfl
    have Dz : D ≠ z := fun e => oD (e ▸ List.mem_of_getElem? hz0)
    have fz := frD z (List.mem_of_getElem? hz0)
    refine ⟨.ref D, rfl, D, _, _, .ref z, rfl, rfl, lst_l hD12, atI_nat v0, z, _, _, .int t0, rfl, rfl, lst_l hz12, atI_nat (j := 0) rfl, _, _, rfl, rfl, .ref D, rfl, D, _, _, .ref z, rfl, rfl, lst_l hD12, atI_nat v0, z, _, _, 0, rfl, rfl, hz12, ixn_at (j := 0) (by rw [List.length_map, List.length_cons]; omega), ?_⟩
    have la13 := TAt.put (o := .lst (((t0 :: tr).map V.int).set 0 (V.int (t0 + 1)))) hz12 la12
    have lay13 := TAt.put (o := .lst (((t0 :: tr).map V.int).set 0 (V.int (t0 + 1)))) hz12 lay
    have s813 := same_mut (o := .lst (((t0 :: tr).map V.int).set 0 (V.int (t0 + 1)))) s812 fz
    have hD13 : upd H12 z (.lst (((t0 :: tr).map V.int).set 0 (V.int (t0 + 1)))) D = some (.lst (vs.map V.ref)) := (upd_ne Dz).trans hD12
    generalize upd H12 z (.lst (((t0 :: tr).map V.int).set 0 (V.int (t0 + 1)))) = H13 at la13 lay13 s813 hD13 ⊢
    clear la12 lay hz12 hD12 rowD12 hR12 row12 s812 s912 s1012
    refine ⟨_, rfl, .inl ⟨rfl, _, lst_l hD13⟩, ?_⟩
    refine ⟨(by show 1 ≤ sizeLine; decide), fun v1 nv1 => ?_⟩
    have sv1 := same_upd (o := .lst [V.int 1]) nv1
    have hD14 := sv1 _ _ hD13
    have la14 := la13.same sv1
    have lay14 := lay13.same sv1
    have s814 := s813.trans sv1
    generalize upd H13 v1 (.lst [V.int 1]) = H14 at hD14 la14 lay14 s814 ⊢
    refine ⟨D, _, _, rfl, rfl, hD14, by rw [List.length_map]; exact small1000 (by omega), ?_⟩
    have la15 := TAt.put (o := .lst (vs.map V.ref ++ [V.ref v1])) hD14 la14
    have lay15 := TAt.put (o := .lst (vs.map V.ref ++ [V.ref v1])) hD14 lay14
    have s815 := same_mut (o := .lst (vs.map V.ref ++ [V.ref v1])) s814 nD
    generalize upd H14 D (.lst (vs.map V.ref ++ [V.ref v1])) = H15 at la15 lay15 s815 ⊢
    clear la13 lay13 la14 lay14 s813 s814 hD13 hD14
    have hR15 := s815 _ _ hR8
    have row15 := row8.same s815
    refine ⟨_, rfl, R, us, rows, rfl, hR15, row15, by omega, goodR.form (by omega) (by decide), fun H16 E es s16 nE hE oE rowE => ?_⟩
    have la16 := la15.same s16
    have lay16 := lay15.same s16
    have s816 := s815.trans s16
    have hR16 := s816 _ _ hR8
    have row16 := row8.same s816
    obtain ⟨dx3, tw3, tvs3, hx3, htw3, roww3⟩ := id la16
    have led : es.length = (rows.map divI).length := rowE.1
    rw [List.length_map] at led
    refine ⟨.ref x, rfl, x, C_Tabled, dx3, _, _, rfl, hx3, T.cl_Tabled, T.n_Tabled_rows, fT_rows _ _, _, rfl, tw3, E, tvs3, es, rows.map divI, rfl, htw3, roww3, hE, rowE, by omega, fun r hr => ?_, true, rfl, iteF ?_⟩
    · obtain ⟨r', hr', rfl⟩ := List.mem_map.mp hr
      have h1 := (goodR.2.2 r' hr').1
      unfold divI divd
      rw [cz_len, List.length_map, List.length_map]
      omega
    refine ⟨_, rfl, _, rfl, _, rfl, x, R, us, rows, m, rfl, la16, hR16, row16, lrm, hm, goodR.2.1, fun r hr x hx => by have := ((goodR.2.2 r hr).2 x hx).2; omega, fun H17 s17 => ⟨true, rfl, iteF ?_⟩⟩
    have la17 := la16.same s17
    have lay17 := lay16.same s17
    have s817 := s816.trans s17
    have hE17 := s17 _ _ hE
    have rowE17 := rowE.same s17
    clear hx3 htw3 roww3 la15 lay15 la16 lay16 s815 s816
    -- what is no lot
    refine ⟨_, rfl, (by show 1 ≤ sizeLine; decide), fun b1 nb1 => ?_⟩
    refine ⟨1, rfl, (by show 1 ≤ sizeLine; decide), fun b2 nb2 => ?_⟩
    refine ⟨(by show 2 ≤ sizeLine; decide), fun b3 nb3 => ?_⟩
    refine ⟨(by show 2 ≤ sizeLine; decide), fun b4 nb4 => ?_⟩
    refine ⟨(by show 4 ≤ sizeLine; decide), fun q4 nq4 => ?_⟩
    have s18 := same_upd (o := .tup [V.int (m : Int)]) nb1
    have s19 := same_upd (o := .tup [V.int (-1)]) nb2
    have s20 := same_upd (o := .tup [V.int 0, V.int 0]) nb3
    have s21 := same_upd (o := .tup [V.int 1, V.int 0]) nb4
    have s22 := same_upd (o := .lst [V.ref b1, V.ref b2, V.ref b3, V.ref b4]) nq4
    have k1 := s22 _ _ (s21 _ _ (s20 _ _ (s19 _ _ (upd_same (H := H17) (a := b1) (o := .tup [V.int (m : Int)])))))
    have k2 := s22 _ _ (s21 _ _ (s20 _ _ (upd_same (H := upd H17 b1 (.tup [V.int (m : Int)])) (a := b2) (o := .tup [V.int (-1)]))))
    have k3 := s22 _ _ (s21 _ _ (upd_same (H := upd (upd H17 b1 (.tup [V.int (m : Int)])) b2 (.tup [V.int (-1)])) (a := b3) (o := .tup [V.int 0, V.int 0])))
    have k4 := s22 _ _ (upd_same (H := upd (upd (upd H17 b1 (.tup [V.int (m : Int)])) b2 (.tup [V.int (-1)])) b3 (.tup [V.int 0, V.int 0])) (a := b4) (o := .tup [V.int 1, V.int 0]))
    have hq4 : upd (upd (upd (upd (upd H17 b1 (.tup [V.int (m : Int)])) b2 (.tup [V.int (-1)])) b3 (.tup [V.int 0, V.int 0])) b4 (.tup [V.int 1, V.int 0])) q4 (.lst [V.ref b1, V.ref b2, V.ref b3, V.ref b4]) q4 = some (.lst [V.ref b1, V.ref b2, V.ref b3, V.ref b4]) := upd_same
    have s1722 := (((s18.trans s19).trans s20).trans s21).trans s22
    generalize upd (upd (upd (upd (upd H17 b1 (.tup [V.int (m : Int)])) b2 (.tup [V.int (-1)])) b3 (.tup [V.int 0, V.int 0])) b4 (.tup [V.int 1, V.int 0])) q4 (.lst [V.ref b1, V.ref b2, V.ref b3, V.ref b4]) = H22 at k1 k2 k3 k4 hq4 s1722 ⊢
    have la22 := la17.same s1722
    have lay22 := lay17.same s1722
    have s822 := s817.trans s1722
    have hE22 := s1722 _ _ hE17
    have rowE22 := rowE17.same s1722
    clear la17 lay17 s817 hE17 rowE17
    refine ⟨q4, rfl, ⟨_, lst_l hq4⟩, for_list (K := K) (a := q4) (xs := [V.ref b1, V.ref b2, V.ref b3, V.ref b4]) (fun i σ H2 => ∃ (y2 : Option V), σ = [some (.ref a), some (.ref d1), some (.int (m : Int)), some (.ref P), some (.ref B2), some (.ref R), some (.int (w : Int)), some (.ref D), some (.ref x), some (.ref y), some (.ref E), y2, none, none, none, none] ∧ H2 = H22) ⟨none, rfl, rfl⟩ (fun i σ H2 _ ⟨_, _, e⟩ => e ▸ lst_l hq4) ?_ ?_⟩
    · rintro i vx σ H2 hi ⟨y2, rfl, rfl⟩
      obtain ⟨u, zs, rfl, hu, bad, lz2⟩ : ∃ (u : Addr) (zs : List Int), V.ref u = vx ∧ H2 u = some (.tup (zs.map V.int)) ∧ lotB zs (-1) (m : Int) = false ∧ zs.length ≤ 1000 := by
        have hx := List.mem_of_getElem? hi
        rcases List.mem_cons.mp hx with rfl | hx
        · refine ⟨b1, [(m : Int)], rfl, k1, lotB_no fun e => ?_, by show 1 ≤ 1000; decide⟩
          have := lotB_in e (m : Int) List.mem_cons_self
          omega
        rcases List.mem_cons.mp hx with rfl | hx
        · refine ⟨b2, [-1], rfl, k2, lotB_no fun e => ?_, by show 1 ≤ 1000; decide⟩
          have := lotB_in e (-1) List.mem_cons_self
          omega
        rcases List.mem_cons.mp hx with rfl | hx
        · exact ⟨b3, [0, 0], rfl, k3, lotB_no fun e => absurd (lotB_pw e) (by decide), by show 2 ≤ 1000; decide⟩
        · rw [List.mem_singleton.mp hx]
          exact ⟨b4, [1, 0], rfl, k4, lotB_no fun e => absurd (lotB_pw e) (by decide), by show 2 ≤ 1000; decide⟩
      exact ⟨_, rfl, _, rfl, x, u, rows.map divI, zs, m, rfl, la22, hu, by omega, lz2, bad, true, rfl, iteF ⟨_, rfl, rfl⟩⟩
    rintro σ H2 ⟨y2, rfl, rfl⟩
    -- a list given out is changed
    obtain ⟨t1, cs1, g1, t1p, smt, lc1, zc1⟩ := row0 (by decide) goodR
    have shr : ∀ {H3 : Hp}, TAt C_Tabled H3 x (m : Int) (rows.map divI) → ∃ (dx : Addr) (fs : List (Str × V)), H3 x = some (.ins C_Tabled dx fs) ∧ fs.lookup ("shares" : Str) = none := fun {H3} ⟨dx, t, us, h, _⟩ => ⟨dx, _, h, fT_shares _ _⟩
    obtain ⟨dx4, fs4, hx4, no4⟩ := shr la22
    refine ⟨_, rfl, x, dx4, _, rfl, hx4, no4, (by show 0 ≤ sizeLine; decide), fun et net => ?_⟩
    have se := same_upd (o := .tup []) net
    refine ⟨x, et, rows.map divI, [], m, rfl, la22.same se, upd_same, by omega, by decide, fun z => (by cases z), fun _ => ⟨0, t1, cs1, rfl, g1, by omega, smt, by omega, fun H23 L1 rs1 s23 nL hL lrs hrs => ?_⟩⟩
    refine ⟨_, rfl, .inl ⟨rfl, _, lst_l hL⟩, L1, _, _, rfl, rfl, hL, by rw [List.length_map]; exact small1000 (by omega), ?_⟩
    refine ⟨_, rfl, L1, _, _, 0, rfl, rfl, upd_same, ?_, ?_⟩
    · exact ixn_at (j := 0) (by rw [List.length_append]; show 0 < _ + 1; omega)
    have sf : Same H2 _ := se.trans (same_mut (same_mut (o := HO.lst (rs1.map V.ref ++ [V.int 0])) s23 nL) (o := HO.lst ((rs1.map V.ref ++ [V.int 0]).set 0 (V.int 0))) nL)
    have laf := la22.same sf
    have layf := lay22.same sf
    have s8f := s822.trans sf
    have hEf := sf _ _ hE22
    have rowEf := rowE22.same sf
    generalize upd (upd H23 L1 (HO.lst (rs1.map V.ref ++ [V.int 0]))) L1 (HO.lst ((rs1.map V.ref ++ [V.int 0]).set 0 (V.int 0))) = Hf at laf layf s8f hEf rowEf ⊢
    -- are the two tables alike?
    refine ⟨fun σ' H' => σ' = [some (.ref a), some (.ref d1), some (.int (m : Int)), some (.ref P), some (.ref B2), some (.ref R), some (.int (w : Int)), some (.ref D), some (.ref x), some (.ref y), some (.ref E), y2, some (.ref L1), some (.bl (decide ((w : Int) = (m : Int)) && decide (rows.map divI = crs.map divI))), none, none] ∧ Same Hf H', ?_, ?_⟩
    · refine ⟨_, rfl, _, rfl, rfl, _, rfl, ?_⟩
      have dI : ∀ {i j : Int}, decide (V.int i = V.int j) = decide (i = j) := fun {i j} => decide_eq_decide.mpr ⟨fun z => V.int.inj z, fun z => congrArg V.int z⟩
      rw [dI]
      by_cases e : (w : Int) = (m : Int)
      · rw [decide_eq_true e]
        refine iteT ⟨_, rfl, _, rfl, B2, cus, crs, rfl, s8f _ _ hB2, rowC.same s8f, by omega, goodC.form (by omega) (by decide), fun H24 E2 es2 s24 nE2 hE2 oE2 rowE2 => ?_⟩
        refine ⟨_, _, .lst (lst_l (s24 _ _ hEf)) (dp_all (rowEf.same s24)), .lst (lst_l hE2) (dp_all rowE2), sh_rows _, sh_rows _, ?_⟩
        rw [eqv_L]
        exact ⟨rfl, s24⟩
      · rw [decide_eq_false e]
        exact iteF ⟨rfl, Same.refl _⟩
    rintro σ' H25 ⟨rfl, s25⟩
    have la25 := laf.same s25
    have lay25 := layf.same s25
    clear laf layf hEf rowEf hE22 rowE22 la22 lay22
    obtain ⟨dx5, fs5, hx5, no5⟩ := shr la25
    refine ⟨_, rfl, x, dx5, _, rfl, hx5, no5, (by show 0 ≤ sizeLine; decide), fun et2 net2 => ?_⟩
    have se2 := same_upd (o := .tup []) net2
    refine ⟨x, et2, rows.map divI, [], m, rfl, la25.same se2, upd_same, by omega, by decide, fun z => (by cases z), fun _ => ⟨0, t1, cs1, rfl, g1, by omega, smt, by omega, fun H26 L2 rs2 s26 nL2 hL2 lrs2 hrs2 => ?_⟩⟩
    refine ⟨_, rfl, _, rfl, by omega, by omega, ?_⟩
    rw [Int.toNat_natCast]
    refine fun G nG => lc_range (lo := 0) (n := m) (fun i H27 => ∃ us2 : List Addr, Same H26 H27 ∧ H27 G = some (.lst (us2.map V.ref)) ∧ us2.length = i ∧ ∀ u ∈ us2, H27 u = some (.tup [.int 0, .int 1])) ⟨[], same_upd nG, upd_same, rfl, fun u h => absurd h (by simp)⟩ ?_ ?_
    · rintro i H27 hi ⟨us2, s27, hG, lu2, du⟩
      refine ⟨rfl, ?_⟩
      refine lc_yes ?_
      refine iteT ?_
      refine ⟨(by show 2 ≤ sizeLine; decide), fun tp np => ?_⟩
      have stp := same_upd (o := .tup [V.int 0, V.int 1]) np
      have hG7 := stp _ _ hG
      have stay : ∀ u, upd H27 tp (.tup [V.int 0, V.int 1]) u = some (.tup [V.int 0, V.int 1]) → upd (upd H27 tp (.tup [V.int 0, V.int 1])) G (.lst (us2.map V.ref ++ [V.ref tp])) u = some (.tup [V.int 0, V.int 1]) := fun u e => (upd_ne fun z => by
        rw [z, hG7] at e
        cases e).trans e
      refine ⟨_, hG7, ?_, us2 ++ [tp], same_mut (s27.trans stp) nG, ?_, ?_, fun u hu => ?_⟩
      · rw [List.length_map]
        exact small1000 (by omega)
      · rw [upd_same, List.map_append]
        rfl
      · rw [List.length_append, lu2]
        rfl
      · rcases List.mem_append.mp hu with hu | hu
        · exact stay u (stp _ _ (du u hu))
        · rw [List.mem_singleton.mp hu]
          exact stay _ upd_same
    rintro H27 ⟨us2, s27, hG, lu2, du⟩
    refine ⟨L2, G, rs2, us2, rfl, s27 _ _ hL2, hG, by omega, by omega, fun j r t hr1 ht1 => ?_, true, rfl, iteF ?_⟩
    · have jl : j < rs2.length := (List.getElem?_eq_some_iff.mp hr1).1
      obtain ⟨c, gc⟩ : ∃ c, cs1[j]? = some c := ⟨_, List.getElem?_eq_getElem (by omega)⟩
      have c0 := zc1 c (List.mem_of_getElem? gc)
      subst c0
      have lo := low (t := 0) (b := t1) (by omega)
      refine ⟨_, _, 0, 1, (hrs2 j r 0 hr1 gc).same s27, du t (List.mem_of_getElem? ht1), lo.pos, ?_, ((smt.le (a := 0) (by omega)).le lo.leT).mul (sm_of (n := 1) (by decide)), (sm_of (n := 1) (by decide)).mul (smt.le lo.leB)⟩
      have e1 := lo.eq
      rw [Int.zero_mul] at e1
      rcases Int.mul_eq_zero.mp e1 with e2 | e2
      · rw [e2, Int.zero_mul, Int.zero_mul]
      · omega
    have s2527 := (se2.trans s26).trans s27
    have la27 := la25.same s2527
    have lay27 := lay25.same s2527
    clear la25 lay25
    obtain ⟨dx6, fs6, hx6, _⟩ := shr la27
    obtain ⟨dy6, ty6, uy6, hy6, _⟩ := id lay27
    refine ⟨_, rfl, _, rfl, .inl ⟨⟨x, dx6, _, rfl, hx6⟩, .inl ⟨x, dx6, _, rfl, hx6⟩, x, x, m, m, _, _, rfl, la27, la27, .inr ⟨_, rfl, true, ?_, iteF ?_⟩⟩⟩
    · rw [decide_eq_true rfl, decide_eq_true rfl]
      rfl
    have w1 : (decide ((m : Int) = (w : Int)) && decide (rows.map divI = crs.map divI)) = (decide ((w : Int) = (m : Int)) && decide (rows.map divI = crs.map divI)) := congrArg (· && _) (decide_eq_decide.mpr ⟨Eq.symm, Eq.symm⟩)
    have w2 : (decide ((w : Int) = (m : Int)) && decide (crs.map divI = rows.map divI)) = (decide ((w : Int) = (m : Int)) && decide (rows.map divI = crs.map divI)) := congrArg (_ && ·) (decide_eq_decide.mpr ⟨Eq.symm, Eq.symm⟩)
    refine ⟨_, rfl, _, rfl, .inl ⟨⟨x, dx6, _, rfl, hx6⟩, .inl ⟨y, dy6, _, rfl, hy6⟩, x, y, m, w, _, _, rfl, la27, lay27, .inr ⟨_, rfl, _, rfl, rfl, _, rfl, iteD (congrArg V.bl w1) ?_⟩⟩⟩
    refine ⟨_, rfl, _, rfl, .inl ⟨⟨y, dy6, _, rfl, hy6⟩, .inl ⟨x, dx6, _, rfl, hx6⟩, y, x, w, m, _, _, rfl, lay27, la27, .inr ⟨_, rfl, _, rfl, rfl, ?_⟩⟩⟩
    show Q (.bl (decide (V.bl _ = V.bl _))) _
    rw [decide_eq_true (congrArg V.bl w2)]
    exact q _

end
/-! ### what the top has written; the law's own head -/
theorem all_mk {l : PySem.W.OpenLaw} {w : World} {K : PySem.W.Frag} {h : Heap} {mg : Str → Option Value} {fa f1 f2 f3 f4 f5 f6 f7 f8 f9 f10 f11 f12 f13 f14 f15 f16 f17 f18 f19 f20 f21 f22 f23 f24 f25 f26 f27 f28 f29 f30 f31 f32 f33 f34 f35 f36 f37 C_Tabled C_Ratio C_TooMany C_BadTable C_ZeroBottom C_BadLot fx_rf_Ratio_add fx_of_Ratio_add fx_rf_Ratio_sub fx_of_Ratio_sub : Addr} (X : K.In h) (G : h.Ns mainGlobals mg) (hfa : mg "law" = some (.ref fa))
    {od1 an1 od2 an2 od3 an3 od4 an4 od5 an5 od6 an6 od7 an7 od8 an8 od9 an9 od10 an10 od11 an11 od12 an12 od13 an13 od14 an14 od15 an15 od16 an16 od17 an17 od18 an18 od19 an19 od20 an20 od21 an21 od22 an22 od23 an23 od24 an24 od25 an25 od26 an26 od27 an27 od28 an28 od29 an29 od30 an30 od31 an31 od32 an32 od33 an33 od34 an34 od35 an35 od36 an36 od37 an37 : Option Addr} {sl1 sl2 sl3 sl4 sl5 sl6 sl7 sl8 sl9 sl10 sl11 sl12 sl13 sl14 sl15 sl16 sl17 sl18 sl19 sl20 sl21 sl22 sl23 sl24 sl25 sl26 sl27 sl28 sl29 sl30 sl31 sl32 sl33 sl34 sl35 sl36 sl37 : Array (Option Value)} {oc1 kV1 dc1 pm1 cd1 ct1 oc2 kV2 dc2 pm2 cd2 ct2 oc3 kV3 dc3 pm3 cd3 ct3 oc4 kV4 dc4 pm4 cd4 ct4 oc5 kV5 dc5 pm5 cd5 ct5 oc6 kV6 dc6 pm6 cd6 ct6 oc7 kV7 dc7 pm7 cd7 ct7 oc8 kV8 dc8 pm8 cd8 ct8 oc9 kV9 dc9 pm9 cd9 ct9 oc10 kV10 dc10 pm10 cd10 ct10 oc11 kV11 dc11 pm11 ct11 oc12 kV12 dc12 pm12 cd12 ct12 oc13 kV13 dc13 pm13 cd13 ct13 oc14 kV14 dc14 pm14 cd14 ct14 oc15 kV15 dc15 pm15 cd15 ct15 oc16 kV16 dc16 pm16 cd16 ct16 oc17 kV17 dc17 pm17 cd17 ct17 oc18 kV18 dc18 pm18 cd18 ct18 oc19 kV19 dc19 pm19 cd19 ct19 oc20 kV20 dc20 pm20 cd20 ct20 oc21 kV21 dc21 pm21 cd21 ct21 oc22 kV22 dc22 pm22 cd22 ct22 oc23 kV23 dc23 pm23 cd23 ct23 oc24 kV24 dc24 pm24 cd24 ct24 oc25 kV25 dc25 pm25 cd25 ct25 oc26 kV26 dc26 pm26 cd26 ct26 oc27 kV27 dc27 pm27 cd27 ct27 oc28 kV28 dc28 pm28 cd28 ct28 oc29 kV29 dc29 pm29 cd29 ct29 oc30 kV30 dc30 pm30 cd30 ct30 oc31 kV31 dc31 pm31 cd31 ct31 oc32 kV32 dc32 pm32 cd32 ct32 oc33 kV33 dc33 pm33 cd33 ct33 oc34 kV34 dc34 pm34 cd34 ct34 oc35 kV35 dc35 pm35 cd35 ct35 oc36 kV36 dc36 pm36 cd36 ct36 oc37 kV37 dc37 pm37 cd37 ct37 : Value} {tk_MOST_THINGS : Tok} {tk_MOST_TABLED_THINGS : Tok} {cc11 cda11 : Addr} {cl11 ccl11 : Value} {cld11 cdd11 : Option Addr} {csl11 ccs11 : Array (Option Value)} {vs11 : Array Value} {fi11 : Str} {tf11 : Tok} {cdW11 : ClassData} {tT12 : Addr} {oT12 : Value} {dT12 : Option Addr} {nT12 : Nat} {sT12 : Array (Option Value)} {tq12_0 : Tok}
    (a_Tabled : PySem.W.nsIn K mainGlobals "Tabled" = some (some (.ref C_Tabled)))
    (kc_Tabled : PySem.W.keepIn K (.ref C_Tabled) = true)
    (hd_Tabled : PySem.W.hasDictIn K C_Tabled = true)
    (ha_Tabled : PySem.W.findIn K (.ref C_Tabled) "__class__" = some (some (.builtin "object.__class__")))
    (hm_Tabled : PySem.W.mroIn K C_Tabled (.type "object") = some true)
    (pg_Tabled : PySem.W.plainGet K C_Tabled Str.empty = true)
    (po_Tabled : PySem.W.plainOver K C_Tabled = true)
    (sa_Tabled : PySem.W.findIn K (.ref C_Tabled) "__setattr__" = some (some (.builtin "object.__setattr__")))
    (mk_Tabled : PySem.W.makesIn K C_Tabled = true)
    (n_Tabled_many : PySem.W.findIn K (.ref C_Tabled) "many" = some none)
    (n_Tabled_rows : PySem.W.findIn K (.ref C_Tabled) "rows" = some none)
    (sf_Tabled : PySem.W.selfFirst K C_Tabled = true)
    (si_Tabled : PySem.W.subIn K (.type "int") (.ref C_Tabled) = some false)
    (sr_Tabled : PySem.W.subIn K (.ref C_Tabled) (.type "int") = some false)
    (a_Ratio : PySem.W.nsIn K mainGlobals "Ratio" = some (some (.ref C_Ratio)))
    (kc_Ratio : PySem.W.keepIn K (.ref C_Ratio) = true)
    (hd_Ratio : PySem.W.hasDictIn K C_Ratio = true)
    (ha_Ratio : PySem.W.findIn K (.ref C_Ratio) "__class__" = some (some (.builtin "object.__class__")))
    (hm_Ratio : PySem.W.mroIn K C_Ratio (.type "object") = some true)
    (pg_Ratio : PySem.W.plainGet K C_Ratio Str.empty = true)
    (po_Ratio : PySem.W.plainOver K C_Ratio = true)
    (sa_Ratio : PySem.W.findIn K (.ref C_Ratio) "__setattr__" = some (some (.builtin "object.__setattr__")))
    (mk_Ratio : PySem.W.makesIn K C_Ratio = true)
    (n_Ratio_top : PySem.W.findIn K (.ref C_Ratio) "top" = some none)
    (n_Ratio_bottom : PySem.W.findIn K (.ref C_Ratio) "bottom" = some none)
    (ss_Ratio : PySem.W.subIn K (.ref C_Ratio) (.type "str") = some false)
    (sb_Ratio : PySem.W.subIn K (.ref C_Ratio) (.type "bytes") = some false)
    (sy_Ratio : PySem.W.subIn K (.ref C_Ratio) (.type "bytearray") = some false)
    (sf_Ratio : PySem.W.selfFirst K C_Ratio = true)
    (si_Ratio : PySem.W.subIn K (.type "int") (.ref C_Ratio) = some false)
    (sr_Ratio : PySem.W.subIn K (.ref C_Ratio) (.type "int") = some false)
    (rf_Ratio_add : PySem.W.findIn K (.ref C_Ratio) "__radd__" = some (some (.ref fx_rf_Ratio_add)))
    (of_Ratio_add : PySem.W.findIn K (.ref C_Ratio) "__add__" = some (some (.ref fx_of_Ratio_add)))
    (inta_add : PySem.W.findIn K (.type "int") "__add__" = some (some (.builtin "int.__add__")))
    (intr_add : PySem.W.findIn K (.type "int") "__radd__" = some (some (.builtin "int.__radd__")))
    (rf_Ratio_sub : PySem.W.findIn K (.ref C_Ratio) "__rsub__" = some (some (.ref fx_rf_Ratio_sub)))
    (of_Ratio_sub : PySem.W.findIn K (.ref C_Ratio) "__sub__" = some (some (.ref fx_of_Ratio_sub)))
    (inta_sub : PySem.W.findIn K (.type "int") "__sub__" = some (some (.builtin "int.__sub__")))
    (intr_sub : PySem.W.findIn K (.type "int") "__rsub__" = some (some (.builtin "int.__rsub__")))
    (a_TooMany : PySem.W.nsIn K mainGlobals "TooMany" = some (some (.ref C_TooMany)))
    (kc_TooMany : PySem.W.keepIn K (.ref C_TooMany) = true)
    (hd_TooMany : PySem.W.hasDictIn K C_TooMany = true)
    (ha_TooMany : PySem.W.findIn K (.ref C_TooMany) "__class__" = some (some (.builtin "object.__class__")))
    (hm_TooMany : PySem.W.mroIn K C_TooMany (.type "object") = some true)
    (b_TooMany : PySem.W.subIn K (.ref C_TooMany) (.type "BaseException") = some true)
    (t_TooMany : PySem.W.typeIn K (.ref C_TooMany) = some (.type "type"))
    (ga_TooMany : PySem.W.findIn K (.ref C_TooMany) "__getattribute__" = some (some (.builtin "BaseException.__getattribute__")))
    (gg_TooMany : PySem.W.findIn K (.ref C_TooMany) "__getattr__" = some none)
    (ol_TooMany : K.lookup C_TooMany = some (excClassObj nm_TooMany q_TooMany C_TooMany N_TooMany bs_TooMany bm_TooMany true sn_TooMany sub_TooMany ab_TooMany col_TooMany dd_TooMany k0_TooMany k1_TooMany k2_TooMany k3_TooMany k5_TooMany "ValueError.__new__"))
    (or_TooMany : PySem.HandSPX.refsVE bm_TooMany = true)
    (sa_TooMany : PySem.W.findIn K (.ref C_TooMany) "__setattr__" = some (some (.builtin "object.__setattr__")))
    (n_TooMany_many : PySem.W.findIn K (.ref C_TooMany) "many" = some none)
    (n_TooMany_most : PySem.W.findIn K (.ref C_TooMany) "most" = some none)
    (a_BadTable : PySem.W.nsIn K mainGlobals "BadTable" = some (some (.ref C_BadTable)))
    (kc_BadTable : PySem.W.keepIn K (.ref C_BadTable) = true)
    (hd_BadTable : PySem.W.hasDictIn K C_BadTable = true)
    (ha_BadTable : PySem.W.findIn K (.ref C_BadTable) "__class__" = some (some (.builtin "object.__class__")))
    (hm_BadTable : PySem.W.mroIn K C_BadTable (.type "object") = some true)
    (b_BadTable : PySem.W.subIn K (.ref C_BadTable) (.type "BaseException") = some true)
    (t_BadTable : PySem.W.typeIn K (.ref C_BadTable) = some (.type "type"))
    (ga_BadTable : PySem.W.findIn K (.ref C_BadTable) "__getattribute__" = some (some (.builtin "BaseException.__getattribute__")))
    (gg_BadTable : PySem.W.findIn K (.ref C_BadTable) "__getattr__" = some none)
    (ol_BadTable : K.lookup C_BadTable = some (excClassObj nm_BadTable q_BadTable C_BadTable N_BadTable bs_BadTable bm_BadTable true sn_BadTable sub_BadTable ab_BadTable col_BadTable dd_BadTable k0_BadTable k1_BadTable k2_BadTable k3_BadTable k5_BadTable "ValueError.__new__"))
    (or_BadTable : PySem.HandSPX.refsVE bm_BadTable = true)
    (sa_BadTable : PySem.W.findIn K (.ref C_BadTable) "__setattr__" = some (some (.builtin "object.__setattr__")))
    (n_BadTable_at : PySem.W.findIn K (.ref C_BadTable) "at" = some none)
    (a_ZeroBottom : PySem.W.nsIn K mainGlobals "ZeroBottom" = some (some (.ref C_ZeroBottom)))
    (kc_ZeroBottom : PySem.W.keepIn K (.ref C_ZeroBottom) = true)
    (hd_ZeroBottom : PySem.W.hasDictIn K C_ZeroBottom = true)
    (ha_ZeroBottom : PySem.W.findIn K (.ref C_ZeroBottom) "__class__" = some (some (.builtin "object.__class__")))
    (hm_ZeroBottom : PySem.W.mroIn K C_ZeroBottom (.type "object") = some true)
    (b_ZeroBottom : PySem.W.subIn K (.ref C_ZeroBottom) (.type "BaseException") = some true)
    (t_ZeroBottom : PySem.W.typeIn K (.ref C_ZeroBottom) = some (.type "type"))
    (ga_ZeroBottom : PySem.W.findIn K (.ref C_ZeroBottom) "__getattribute__" = some (some (.builtin "BaseException.__getattribute__")))
    (gg_ZeroBottom : PySem.W.findIn K (.ref C_ZeroBottom) "__getattr__" = some none)
    (x_ZeroBottom : PySem.W.excIn K C_ZeroBottom [.type "ValueError", .type "Exception", .type "BaseException", .type "object"] "ValueError.__new__" = true)
    (a_BadLot : PySem.W.nsIn K mainGlobals "BadLot" = some (some (.ref C_BadLot)))
    (kc_BadLot : PySem.W.keepIn K (.ref C_BadLot) = true)
    (hd_BadLot : PySem.W.hasDictIn K C_BadLot = true)
    (ha_BadLot : PySem.W.findIn K (.ref C_BadLot) "__class__" = some (some (.builtin "object.__class__")))
    (hm_BadLot : PySem.W.mroIn K C_BadLot (.type "object") = some true)
    (b_BadLot : PySem.W.subIn K (.ref C_BadLot) (.type "BaseException") = some true)
    (t_BadLot : PySem.W.typeIn K (.ref C_BadLot) = some (.type "type"))
    (ga_BadLot : PySem.W.findIn K (.ref C_BadLot) "__getattribute__" = some (some (.builtin "BaseException.__getattribute__")))
    (gg_BadLot : PySem.W.findIn K (.ref C_BadLot) "__getattr__" = some none)
    (x_BadLot : PySem.W.excIn K C_BadLot [.type "ValueError", .type "Exception", .type "BaseException", .type "object"] "ValueError.__new__" = true)
    (hnc : PySem.W.specialIn K (.builtin "object.__class__") "__get__" = some (some (.builtin "getset_descriptor.__get__")))
    (htk : PySem.W.takesIn K (.builtin "object.__class__") = some true)
    (sub_BadLot_BadLot : PySem.W.subIn K (.ref C_BadLot) (.ref C_BadLot) = some true)
    (kit_Ratio_Ratio : PySem.W.kitOne K (.ref C_Ratio) (.ref C_Ratio) = some true)
    (kit_int_Ratio : PySem.W.kitOne K (.type "int") (.ref C_Ratio) = some false)
    (kit_Tabled_Tabled : PySem.W.kitOne K (.ref C_Tabled) (.ref C_Tabled) = some true)
    (a_gcd : PySem.W.nsIn K mainGlobals "gcd" = some (some (.builtin "math.gcd")))
    (a_MOST_THINGS : PySem.W.nsIn K mainGlobals "MOST_THINGS" = some (some (.int 24 tk_MOST_THINGS)))
    (a_MOST_TABLED_THINGS : PySem.W.nsIn K mainGlobals "MOST_TABLED_THINGS" = some (some (.int 6 tk_MOST_TABLED_THINGS)))
    (a1 : PySem.W.findIn K (.ref C_TooMany) "__init__" = some (some (.ref f1))) (i1 : PySem.W.isFn K (.ref f1) = true)
    (l1 : K.lookup f1 = some ⟨oc1, od1, .func (PySem.W.fnOf "__init__" "TooMany.__init__" (defArgs s_TooMany___init__) (defBody s_TooMany___init__) (defScope s_TooMany___init__) .none kV1 dc1 pm1 an1 cd1 ct1), sl1⟩)
    (c1 : PySem.W.codeIn K cd1 "TooMany.__init__" = true) (k1 : PySem.W.keepIn K (.ref f1) = true)
    (a2 : PySem.W.findIn K (.ref C_BadTable) "__init__" = some (some (.ref f2))) (i2 : PySem.W.isFn K (.ref f2) = true)
    (l2 : K.lookup f2 = some ⟨oc2, od2, .func (PySem.W.fnOf "__init__" "BadTable.__init__" (defArgs s_BadTable___init__) (defBody s_BadTable___init__) (defScope s_BadTable___init__) .none kV2 dc2 pm2 an2 cd2 ct2), sl2⟩)
    (c2 : PySem.W.codeIn K cd2 "BadTable.__init__" = true) (k2 : PySem.W.keepIn K (.ref f2) = true)
    (a3 : PySem.W.nsIn K mainGlobals "check_many" = some (some (.ref f3)))
    (l3 : K.lookup f3 = some ⟨oc3, od3, .func (PySem.W.fnOf "check_many" "check_many" (defArgs s_check_many) (defBody s_check_many) (defScope s_check_many) .none kV3 dc3 pm3 an3 cd3 ct3), sl3⟩)
    (c3 : PySem.W.codeIn K cd3 "check_many" = true) (k3 : PySem.W.keepIn K (.ref f3) = true)
    (sg4 : PySem.W.ks_superIn K C_Tabled C_Tabled "__init__" = some (some (.ref f4)))
    (l4 : K.lookup f4 = some ⟨oc4, od4, .func (PySem.W.fnOf "__init__" "Rule.__init__" (defArgs s_Rule___init__) (defBody s_Rule___init__) (defScope s_Rule___init__) .none kV4 dc4 pm4 an4 cd4 ct4), sl4⟩)
    (c4 : PySem.W.codeIn K cd4 "Rule.__init__" = true) (k4 : PySem.W.keepIn K (.ref f4) = true)
    (a5 : PySem.W.nsIn K mainGlobals "check_lot" = some (some (.ref f5)))
    (l5 : K.lookup f5 = some ⟨oc5, od5, .func (PySem.W.fnOf "check_lot" "check_lot" (defArgs s_check_lot) (defBody s_check_lot) (defScope s_check_lot) .none kV5 dc5 pm5 an5 cd5 ct5), sl5⟩)
    (c5 : PySem.W.codeIn K cd5 "check_lot" = true) (k5 : PySem.W.keepIn K (.ref f5) = true)
    (a6 : PySem.W.nsIn K mainGlobals "lot_number" = some (some (.ref f6)))
    (l6 : K.lookup f6 = some ⟨oc6, od6, .func (PySem.W.fnOf "lot_number" "lot_number" (defArgs s_lot_number) (defBody s_lot_number) (defScope s_lot_number) .none kV6 dc6 pm6 an6 cd6 ct6), sl6⟩)
    (c6 : PySem.W.codeIn K cd6 "lot_number" = true) (k6 : PySem.W.keepIn K (.ref f6) = true)
    (a7 : PySem.W.nsIn K mainGlobals "lot_at" = some (some (.ref f7)))
    (l7 : K.lookup f7 = some ⟨oc7, od7, .func (PySem.W.fnOf "lot_at" "lot_at" (defArgs s_lot_at) (defBody s_lot_at) (defScope s_lot_at) .none kV7 dc7 pm7 an7 cd7 ct7), sl7⟩)
    (c7 : PySem.W.codeIn K cd7 "lot_at" = true) (k7 : PySem.W.keepIn K (.ref f7) = true)
    (a8 : PySem.W.nsIn K mainGlobals "_fits" = some (some (.ref f8)))
    (l8 : K.lookup f8 = some ⟨oc8, od8, .func (PySem.W.fnOf "_fits" "_fits" (defArgs s__fits) (defBody s__fits) (defScope s__fits) .none kV8 dc8 pm8 an8 cd8 ct8), sl8⟩)
    (c8 : PySem.W.codeIn K cd8 "_fits" = true) (k8 : PySem.W.keepIn K (.ref f8) = true)
    (a9 : PySem.W.nsIn K mainGlobals "common_divisor" = some (some (.ref f9)))
    (l9 : K.lookup f9 = some ⟨oc9, od9, .func (PySem.W.fnOf "common_divisor" "common_divisor" (defArgs s_common_divisor) (defBody s_common_divisor) (defScope s_common_divisor) .none kV9 dc9 pm9 an9 cd9 ct9), sl9⟩)
    (c9 : PySem.W.codeIn K cd9 "common_divisor" = true) (k9 : PySem.W.keepIn K (.ref f9) = true)
    (a10 : PySem.W.nsIn K mainGlobals "_reduced_row" = some (some (.ref f10)))
    (l10 : K.lookup f10 = some ⟨oc10, od10, .func (PySem.W.fnOf "_reduced_row" "_reduced_row" (defArgs s__reduced_row) (defBody s__reduced_row) (defScope s__reduced_row) .none kV10 dc10 pm10 an10 cd10 ct10), sl10⟩)
    (c10 : PySem.W.codeIn K cd10 "_reduced_row" = true) (k10 : PySem.W.keepIn K (.ref f10) = true)
    (sa11 : PySem.W.clsIn K C_Tabled = some cdW11)
    (sb11 : PySem.W.mroIn K C_Tabled (.ref C_Tabled) = some true)
    (a11 : PySem.W.findIn K (.ref C_Tabled) "__init__" = some (some (.ref f11))) (i11 : PySem.W.isFn K (.ref f11) = true)
    (l11 : K.lookup f11 = some ⟨oc11, od11, .func (PySem.W.ksFn "__init__" "Tabled.__init__" (defArgs s_Tabled___init__) (defBody s_Tabled___init__) (defScope s_Tabled___init__) .none kV11 dc11 pm11 an11 (.ref cda11) ct11 cc11), sl11⟩)
    (c11 : PySem.W.codeIn K (.ref cda11) "Tabled.__init__" = true) (k11 : PySem.W.keepIn K (.ref f11) = true)
    (sc11 : K.lookup cc11 = some ⟨cl11, cld11, .cell (some (.ref C_Tabled)), csl11⟩)
    (sd11 : K.lookup cda11 = some ⟨ccl11, cdd11, .fields vs11, ccs11⟩)
    (se11 : vs11[2]? = some (.str fi11 tf11))
    (sh11 : PySem.W.typeIn K (.ref f4) = some (.type "function"))
    (si11 : PySem.W.fnIn K f4 = true)
    (sj11 : PySem.W.nsIn K cStatics "thirdparty.any" = some none)
    (sk11 : PySem.W.nsIn K mainGlobals "super" = some none)
    (sl_11 : ((l.prog.main.file : Str) == fi11) = true)
    (sm11 : (l.prog.main.scope.names.lookup ("super" : Str)).isSome = false)
    (a12 : PySem.W.findIn K (.ref C_Ratio) "__init__" = some (some (.ref f12))) (i12 : PySem.W.isFn K (.ref f12) = true)
    (l12 : K.lookup f12 = some ⟨oc12, od12, .func (PySem.W.fnOf "__init__" "Ratio.__init__" (defArgs s_Ratio___init__) (defBody s_Ratio___init__) (defScope s_Ratio___init__) (.ref tT12) kV12 dc12 pm12 an12 cd12 ct12), sl12⟩)
    (lt12 : K.lookup tT12 = some ⟨oT12, dT12, .seq #[.int 1 tq12_0] nT12, sT12⟩)
    (c12 : PySem.W.codeIn K cd12 "Ratio.__init__" = true) (k12 : PySem.W.keepIn K (.ref f12) = true)
    (a13 : PySem.W.nsIn K mainGlobals "_as_ratio" = some (some (.ref f13)))
    (l13 : K.lookup f13 = some ⟨oc13, od13, .func (PySem.W.fnOf "_as_ratio" "_as_ratio" (defArgs s__as_ratio) (defBody s__as_ratio) (defScope s__as_ratio) .none kV13 dc13 pm13 an13 cd13 ct13), sl13⟩)
    (c13 : PySem.W.codeIn K cd13 "_as_ratio" = true) (k13 : PySem.W.keepIn K (.ref f13) = true)
    (a14 : PySem.W.findIn K (.ref C_Ratio) "__neg__" = some (some (.ref f14))) (i14 : PySem.W.isFn K (.ref f14) = true)
    (l14 : K.lookup f14 = some ⟨oc14, od14, .func (PySem.W.fnOf "__neg__" "Ratio.__neg__" (defArgs s_Ratio___neg__) (defBody s_Ratio___neg__) (defScope s_Ratio___neg__) .none kV14 dc14 pm14 an14 cd14 ct14), sl14⟩)
    (c14 : PySem.W.codeIn K cd14 "Ratio.__neg__" = true) (k14 : PySem.W.keepIn K (.ref f14) = true)
    (a15 : PySem.W.findIn K (.ref C_Ratio) "__add__" = some (some (.ref f15))) (i15 : PySem.W.isFn K (.ref f15) = true)
    (l15 : K.lookup f15 = some ⟨oc15, od15, .func (PySem.W.fnOf "__add__" "Ratio.__add__" (defArgs s_Ratio___add__) (defBody s_Ratio___add__) (defScope s_Ratio___add__) .none kV15 dc15 pm15 an15 cd15 ct15), sl15⟩)
    (c15 : PySem.W.codeIn K cd15 "Ratio.__add__" = true) (k15 : PySem.W.keepIn K (.ref f15) = true)
    (a16 : PySem.W.findIn K (.ref C_Ratio) "__rsub__" = some (some (.ref f16))) (i16 : PySem.W.isFn K (.ref f16) = true)
    (l16 : K.lookup f16 = some ⟨oc16, od16, .func (PySem.W.fnOf "__rsub__" "Ratio.__rsub__" (defArgs s_Ratio___rsub__) (defBody s_Ratio___rsub__) (defScope s_Ratio___rsub__) .none kV16 dc16 pm16 an16 cd16 ct16), sl16⟩)
    (c16 : PySem.W.codeIn K cd16 "Ratio.__rsub__" = true) (k16 : PySem.W.keepIn K (.ref f16) = true)
    (a17 : PySem.W.findIn K (.ref C_Tabled) "shares" = some (some (.ref f17))) (i17 : PySem.W.isFn K (.ref f17) = true)
    (l17 : K.lookup f17 = some ⟨oc17, od17, .func (PySem.W.fnOf "shares" "Tabled.shares" (defArgs s_Tabled_shares) (defBody s_Tabled_shares) (defScope s_Tabled_shares) .none kV17 dc17 pm17 an17 cd17 ct17), sl17⟩)
    (c17 : PySem.W.codeIn K cd17 "Tabled.shares" = true) (k17 : PySem.W.keepIn K (.ref f17) = true)
    (a18 : PySem.W.findIn K (.ref C_Tabled) "away" = some (some (.ref f18))) (i18 : PySem.W.isFn K (.ref f18) = true)
    (l18 : K.lookup f18 = some ⟨oc18, od18, .func (PySem.W.fnOf "away" "Rule.away" (defArgs s_Rule_away) (defBody s_Rule_away) (defScope s_Rule_away) .none kV18 dc18 pm18 an18 cd18 ct18), sl18⟩)
    (c18 : PySem.W.codeIn K cd18 "Rule.away" = true) (k18 : PySem.W.keepIn K (.ref f18) = true)
    (a19 : PySem.W.findIn K (.ref C_Tabled) "__eq__" = some (some (.ref f19))) (i19 : PySem.W.isFn K (.ref f19) = true)
    (l19 : K.lookup f19 = some ⟨oc19, od19, .func (PySem.W.fnOf "__eq__" "Tabled.__eq__" (defArgs s_Tabled___eq__) (defBody s_Tabled___eq__) (defScope s_Tabled___eq__) .none kV19 dc19 pm19 an19 cd19 ct19), sl19⟩)
    (c19 : PySem.W.codeIn K cd19 "Tabled.__eq__" = true) (k19 : PySem.W.keepIn K (.ref f19) = true)
    (a20 : PySem.W.nsIn K mainGlobals "_law_cell" = some (some (.ref f20)))
    (l20 : K.lookup f20 = some ⟨oc20, od20, .func (PySem.W.fnOf "_law_cell" "_law_cell" (defArgs s__law_cell) (defBody s__law_cell) (defScope s__law_cell) .none kV20 dc20 pm20 an20 cd20 ct20), sl20⟩)
    (c20 : PySem.W.codeIn K cd20 "_law_cell" = true) (k20 : PySem.W.keepIn K (.ref f20) = true)
    (a21 : PySem.W.nsIn K mainGlobals "_law_draws" = some (some (.ref f21)))
    (l21 : K.lookup f21 = some ⟨oc21, od21, .func (PySem.W.fnOf "_law_draws" "_law_draws" (defArgs s__law_draws) (defBody s__law_draws) (defScope s__law_draws) .none kV21 dc21 pm21 an21 cd21 ct21), sl21⟩)
    (c21 : PySem.W.codeIn K cd21 "_law_draws" = true) (k21 : PySem.W.keepIn K (.ref f21) = true)
    (a22 : PySem.W.nsIn K mainGlobals "_law_lot" = some (some (.ref f22)))
    (l22 : K.lookup f22 = some ⟨oc22, od22, .func (PySem.W.fnOf "_law_lot" "_law_lot" (defArgs s__law_lot) (defBody s__law_lot) (defScope s__law_lot) .none kV22 dc22 pm22 an22 cd22 ct22), sl22⟩)
    (c22 : PySem.W.codeIn K cd22 "_law_lot" = true) (k22 : PySem.W.keepIn K (.ref f22) = true)
    (a23 : PySem.W.nsIn K mainGlobals "_law_power" = some (some (.ref f23)))
    (l23 : K.lookup f23 = some ⟨oc23, od23, .func (PySem.W.fnOf "_law_power" "_law_power" (defArgs s__law_power) (defBody s__law_power) (defScope s__law_power) .none kV23 dc23 pm23 an23 cd23 ct23), sl23⟩)
    (c23 : PySem.W.codeIn K cd23 "_law_power" = true) (k23 : PySem.W.keepIn K (.ref f23) = true)
    (a24 : PySem.W.nsIn K mainGlobals "_law_is_int" = some (some (.ref f24)))
    (l24 : K.lookup f24 = some ⟨oc24, od24, .func (PySem.W.fnOf "_law_is_int" "_law_is_int" (defArgs s__law_is_int) (defBody s__law_is_int) (defScope s__law_is_int) .none kV24 dc24 pm24 an24 cd24 ct24), sl24⟩)
    (c24 : PySem.W.codeIn K cd24 "_law_is_int" = true) (k24 : PySem.W.keepIn K (.ref f24) = true)
    (a25 : PySem.W.nsIn K mainGlobals "_law_same" = some (some (.ref f25)))
    (l25 : K.lookup f25 = some ⟨oc25, od25, .func (PySem.W.fnOf "_law_same" "_law_same" (defArgs s__law_same) (defBody s__law_same) (defScope s__law_same) .none kV25 dc25 pm25 an25 cd25 ct25), sl25⟩)
    (c25 : PySem.W.codeIn K cd25 "_law_same" = true) (k25 : PySem.W.keepIn K (.ref f25) = true)
    (a26 : PySem.W.nsIn K mainGlobals "_law_same_lot" = some (some (.ref f26)))
    (l26 : K.lookup f26 = some ⟨oc26, od26, .func (PySem.W.fnOf "_law_same_lot" "_law_same_lot" (defArgs s__law_same_lot) (defBody s__law_same_lot) (defScope s__law_same_lot) .none kV26 dc26 pm26 an26 cd26 ct26), sl26⟩)
    (c26 : PySem.W.codeIn K cd26 "_law_same_lot" = true) (k26 : PySem.W.keepIn K (.ref f26) = true)
    (a27 : PySem.W.nsIn K mainGlobals "_law_same_row" = some (some (.ref f27)))
    (l27 : K.lookup f27 = some ⟨oc27, od27, .func (PySem.W.fnOf "_law_same_row" "_law_same_row" (defArgs s__law_same_row) (defBody s__law_same_row) (defScope s__law_same_row) .none kV27 dc27 pm27 an27 cd27 ct27), sl27⟩)
    (c27 : PySem.W.codeIn K cd27 "_law_same_row" = true) (k27 : PySem.W.keepIn K (.ref f27) = true)
    (a28 : PySem.W.nsIn K mainGlobals "_law_pool" = some (some (.ref f28)))
    (l28 : K.lookup f28 = some ⟨oc28, od28, .func (PySem.W.fnOf "_law_pool" "_law_pool" (defArgs s__law_pool) (defBody s__law_pool) (defScope s__law_pool) .none kV28 dc28 pm28 an28 cd28 ct28), sl28⟩)
    (c28 : PySem.W.codeIn K cd28 "_law_pool" = true) (k28 : PySem.W.keepIn K (.ref f28) = true)
    (a29 : PySem.W.nsIn K mainGlobals "_law_rows" = some (some (.ref f29)))
    (l29 : K.lookup f29 = some ⟨oc29, od29, .func (PySem.W.fnOf "_law_rows" "_law_rows" (defArgs s__law_rows) (defBody s__law_rows) (defScope s__law_rows) .none kV29 dc29 pm29 an29 cd29 ct29), sl29⟩)
    (c29 : PySem.W.codeIn K cd29 "_law_rows" = true) (k29 : PySem.W.keepIn K (.ref f29) = true)
    (a30 : PySem.W.nsIn K mainGlobals "_law_refuses" = some (some (.ref f30)))
    (l30 : K.lookup f30 = some ⟨oc30, od30, .func (PySem.W.fnOf "_law_refuses" "_law_refuses" (defArgs s__law_refuses) (defBody s__law_refuses) (defScope s__law_refuses) .none kV30 dc30 pm30 an30 cd30 ct30), sl30⟩)
    (c30 : PySem.W.codeIn K cd30 "_law_refuses" = true) (k30 : PySem.W.keepIn K (.ref f30) = true)
    (a31 : PySem.W.nsIn K mainGlobals "_law_kept" = some (some (.ref f31)))
    (l31 : K.lookup f31 = some ⟨oc31, od31, .func (PySem.W.fnOf "_law_kept" "_law_kept" (defArgs s__law_kept) (defBody s__law_kept) (defScope s__law_kept) .none kV31 dc31 pm31 an31 cd31 ct31), sl31⟩)
    (c31 : PySem.W.codeIn K cd31 "_law_kept" = true) (k31 : PySem.W.keepIn K (.ref f31) = true)
    (a32 : PySem.W.nsIn K mainGlobals "_law_times_all" = some (some (.ref f32)))
    (l32 : K.lookup f32 = some ⟨oc32, od32, .func (PySem.W.fnOf "_law_times_all" "_law_times_all" (defArgs s__law_times_all) (defBody s__law_times_all) (defScope s__law_times_all) .none kV32 dc32 pm32 an32 cd32 ct32), sl32⟩)
    (c32 : PySem.W.codeIn K cd32 "_law_times_all" = true) (k32 : PySem.W.keepIn K (.ref f32) = true)
    (a33 : PySem.W.nsIn K mainGlobals "_law_changed" = some (some (.ref f33)))
    (l33 : K.lookup f33 = some ⟨oc33, od33, .func (PySem.W.fnOf "_law_changed" "_law_changed" (defArgs s__law_changed) (defBody s__law_changed) (defScope s__law_changed) .none kV33 dc33 pm33 an33 cd33 ct33), sl33⟩)
    (c33 : PySem.W.codeIn K cd33 "_law_changed" = true) (k33 : PySem.W.keepIn K (.ref f33) = true)
    (a34 : PySem.W.nsIn K mainGlobals "_law_all_shares" = some (some (.ref f34)))
    (l34 : K.lookup f34 = some ⟨oc34, od34, .func (PySem.W.fnOf "_law_all_shares" "_law_all_shares" (defArgs s__law_all_shares) (defBody s__law_all_shares) (defScope s__law_all_shares) .none kV34 dc34 pm34 an34 cd34 ct34), sl34⟩)
    (c34 : PySem.W.codeIn K cd34 "_law_all_shares" = true) (k34 : PySem.W.keepIn K (.ref f34) = true)
    (a35 : PySem.W.nsIn K mainGlobals "_law_gcd" = some (some (.ref f35)))
    (l35 : K.lookup f35 = some ⟨oc35, od35, .func (PySem.W.fnOf "_law_gcd" "_law_gcd" (defArgs s__law_gcd) (defBody s__law_gcd) (defScope s__law_gcd) .none kV35 dc35 pm35 an35 cd35 ct35), sl35⟩)
    (c35 : PySem.W.codeIn K cd35 "_law_gcd" = true) (k35 : PySem.W.keepIn K (.ref f35) = true)
    (a36 : PySem.W.nsIn K mainGlobals "_law_divided" = some (some (.ref f36)))
    (l36 : K.lookup f36 = some ⟨oc36, od36, .func (PySem.W.fnOf "_law_divided" "_law_divided" (defArgs s__law_divided) (defBody s__law_divided) (defScope s__law_divided) .none kV36 dc36 pm36 an36 cd36 ct36), sl36⟩)
    (c36 : PySem.W.codeIn K cd36 "_law_divided" = true) (k36 : PySem.W.keepIn K (.ref f36) = true)
    (a37 : PySem.W.nsIn K mainGlobals "law" = some (some (.ref f37)))
    (l37 : K.lookup f37 = some ⟨oc37, od37, .func (PySem.W.fnOf "law" "law" (defArgs s_law) (defBody s_law) (defScope s_law) .none kV37 dc37 pm37 an37 cd37 ct37), sl37⟩)
    (c37 : PySem.W.codeIn K cd37 "law" = true) (k37 : PySem.W.keepIn K (.ref f37) = true)
    (z_bool : PySem.W.nsIn K mainGlobals "bool" = some none)
    (z_enumerate : PySem.W.nsIn K mainGlobals "enumerate" = some none)
    (z_int : PySem.W.nsIn K mainGlobals "int" = some none)
    (z_isinstance : PySem.W.nsIn K mainGlobals "isinstance" = some none)
    (z_len : PySem.W.nsIn K mainGlobals "len" = some none)
    (z_list : PySem.W.nsIn K mainGlobals "list" = some none)
    (z_max : PySem.W.nsIn K mainGlobals "max" = some none)
    (z_range : PySem.W.nsIn K mainGlobals "range" = some none)
    (z_sum : PySem.W.nsIn K mainGlobals "sum" = some none)
    (z_tuple : PySem.W.nsIn K mainGlobals "tuple" = some none) :
    ∃ fd : FuncData, (∀ (s : Shared) (v : Value), BindsTo s fd ⟨[v], []⟩ [("_law_script", v)]) ∧ ∀ base : Heap, K.In base → base.Ns mainGlobals mg → FnOk l.prog w K mg base CX0 8 fa fd ["_law_script"] (sp_law K) := by
  have e := hfa.symm.trans (PySem.W.mg_of X G a37)
  cases e
  have m_bool := PySem.W.mg_none_of X G z_bool
  have m_enumerate := PySem.W.mg_none_of X G z_enumerate
  have m_int := PySem.W.mg_none_of X G z_int
  have m_isinstance := PySem.W.mg_none_of X G z_isinstance
  have m_len := PySem.W.mg_none_of X G z_len
  have m_list := PySem.W.mg_none_of X G z_list
  have m_max := PySem.W.mg_none_of X G z_max
  have m_range := PySem.W.mg_none_of X G z_range
  have m_sum := PySem.W.mg_none_of X G z_sum
  have m_tuple := PySem.W.mg_none_of X G z_tuple
  have T : Txt K mg C_Tabled C_Ratio C_TooMany C_BadTable C_ZeroBottom C_BadLot := ⟨PySem.W.mg_of X G a_Tabled, kc_Tabled, hd_Tabled, ha_Tabled, hm_Tabled, ⟨pg_Tabled, hd_Tabled, po_Tabled, sa_Tabled⟩, mk_Tabled, n_Tabled_many, n_Tabled_rows, sf_Tabled, si_Tabled, sr_Tabled, PySem.W.mg_of X G a_Ratio, kc_Ratio, hd_Ratio, ha_Ratio, hm_Ratio, ⟨pg_Ratio, hd_Ratio, po_Ratio, sa_Ratio⟩, mk_Ratio, n_Ratio_top, n_Ratio_bottom, ⟨ss_Ratio, sb_Ratio, sy_Ratio, sf_Ratio⟩, sf_Ratio, si_Ratio, sr_Ratio, ⟨_, rf_Ratio_add, .inr ⟨_, rfl⟩⟩, ⟨_, of_Ratio_add⟩, ⟨_, _, inta_add, intr_add⟩, ⟨_, rf_Ratio_sub, .inr ⟨_, rfl⟩⟩, ⟨_, of_Ratio_sub⟩, ⟨_, _, inta_sub, intr_sub⟩, PySem.W.mg_of X G a_TooMany, kc_TooMany, hd_TooMany, ha_TooMany, hm_TooMany, b_TooMany, t_TooMany, ga_TooMany, gg_TooMany, ⟨⟨_, _, _, _, _, _, _, _, _, _, _, _, _, _, _, ol_TooMany, or_TooMany⟩, sa_TooMany, b_TooMany, t_TooMany, kc_TooMany⟩, ⟨ga_TooMany, gg_TooMany, b_TooMany, hd_TooMany⟩, n_TooMany_many, n_TooMany_most, PySem.W.mg_of X G a_BadTable, kc_BadTable, hd_BadTable, ha_BadTable, hm_BadTable, b_BadTable, t_BadTable, ga_BadTable, gg_BadTable, ⟨⟨_, _, _, _, _, _, _, _, _, _, _, _, _, _, _, ol_BadTable, or_BadTable⟩, sa_BadTable, b_BadTable, t_BadTable, kc_BadTable⟩, ⟨ga_BadTable, gg_BadTable, b_BadTable, hd_BadTable⟩, n_BadTable_at, PySem.W.mg_of X G a_ZeroBottom, kc_ZeroBottom, hd_ZeroBottom, ha_ZeroBottom, hm_ZeroBottom, b_ZeroBottom, t_ZeroBottom, ga_ZeroBottom, gg_ZeroBottom, x_ZeroBottom, PySem.W.mg_of X G a_BadLot, kc_BadLot, hd_BadLot, ha_BadLot, hm_BadLot, b_BadLot, t_BadLot, ga_BadLot, gg_BadLot, x_BadLot, hnc, htk, sub_BadLot_BadLot, kit_Ratio_Ratio, kit_int_Ratio, kit_Tabled_Tabled, PySem.W.mg_of X G a_gcd, ⟨_, PySem.W.mg_of X G a_MOST_THINGS⟩, ⟨_, PySem.W.mg_of X G a_MOST_TABLED_THINGS⟩⟩
  have F1 := fun_mk (st := s_TooMany___init__) l1 c1 k1
  have b1 := F1.binds (ps := ["self", "many", "most"]) fun _ _ _ _ _ _ us hl => match us, hl with | [_, _, _], _ => rfl
  have F2 := fun_mk (st := s_BadTable___init__) l2 c2 k2
  have b2 := F2.binds (ps := ["self", "at"]) fun _ _ _ _ _ _ us hl => match us, hl with | [_, _], _ => rfl
  have F3 := fun_mk (st := s_check_many) l3 c3 k3
  have b3 := F3.binds (ps := ["many", "most"]) fun _ _ _ _ _ _ us hl => match us, hl with | [_, _], _ => rfl
  have F4 := fun_mk (st := s_Rule___init__) l4 c4 k4
  have b4 := F4.binds (ps := ["self", "many"]) fun _ _ _ _ _ _ us hl => match us, hl with | [_, _], _ => rfl
  have F5 := fun_mk (st := s_check_lot) l5 c5 k5
  have b5 := F5.binds (ps := ["lot", "many"]) fun _ _ _ _ _ _ us hl => match us, hl with | [_, _], _ => rfl
  have F6 := fun_mk (st := s_lot_number) l6 c6 k6
  have b6 := F6.binds (ps := ["lot"]) fun _ _ _ _ _ _ us hl => match us, hl with | [_], _ => rfl
  have F7 := fun_mk (st := s_lot_at) l7 c7 k7
  have b7 := F7.binds (ps := ["number", "many"]) fun _ _ _ _ _ _ us hl => match us, hl with | [_, _], _ => rfl
  have F8 := fun_mk (st := s__fits) l8 c8 k8
  have b8 := F8.binds (ps := ["row", "lot"]) fun _ _ _ _ _ _ us hl => match us, hl with | [_, _], _ => rfl
  have F9 := fun_mk (st := s_common_divisor) l9 c9 k9
  have b9 := F9.binds (ps := ["numbers"]) fun _ _ _ _ _ _ us hl => match us, hl with | [_], _ => rfl
  have F10 := fun_mk (st := s__reduced_row) l10 c10 k10
  have b10 := F10.binds (ps := ["row"]) fun _ _ _ _ _ _ us hl => match us, hl with | [_], _ => rfl
  have F11 : FunS K "__init__" "Tabled.__init__" s_Tabled___init__ cc11 cda11 f11 _ := ⟨⟨oc11, od11, kV11, dc11, pm11, an11, ct11, sl11, rfl, l11, c11⟩, k11⟩
  have b11 := F11.binds (ps := ["self", "many", "rows"]) fun _ _ _ _ _ us hl => match us, hl with | [_, _, _], _ => rfl
  have S11 : SupC K mg C_Tabled C_Tabled cc11 cda11 f4 fi11 := ⟨⟨_, sa11⟩, sb11, ⟨_, _, _, sc11⟩, ⟨_, _, _, _, _, sd11, se11⟩, sg4, sh11, si11, sj11, PySem.W.mg_none_of X G sk11⟩
  have F12 : FunD K "__init__" "Ratio.__init__" (defArgs s_Ratio___init__) (defBody s_Ratio___init__) (defScope s_Ratio___init__) [V.int 1] [] f12 _ := ⟨⟨oc12, od12, .ref tT12, kV12, dc12, pm12, an12, cd12, ct12, sl12, rfl, l12, c12, .inr ⟨List.cons_ne_nil _ _, tT12, _, [.int 1 tq12_0], nT12, rfl, lt12, rfl, (.cons ⟨_, rfl⟩ .nil)⟩, .inl rfl⟩, k12⟩
  obtain ⟨dn12, vn12, b12⟩ := F12.binds1 (ps := ["self", "top", "bottom"]) 3 1 (List.cons_ne_nil _ _) rfl fun _ _ _ _ _ _ _ us its hl hi => match us, its, hl, hi with | [_, _, _], [_], _, _ => ⟨_, rfl, rfl⟩
  cases vn12
  obtain ⟨dd12, vd12, bd12⟩ := F12.binds1 (ps := ["self", "top", "bottom"]) 2 0 (List.cons_ne_nil _ _) rfl fun _ _ _ _ _ _ _ us its hl hi => match us, its, hl, hi with | [_, _], [_], _, _ => ⟨_, rfl, rfl⟩
  have F13 := fun_mk (st := s__as_ratio) l13 c13 k13
  have b13 := F13.binds (ps := ["number"]) fun _ _ _ _ _ _ us hl => match us, hl with | [_], _ => rfl
  have F14 := fun_mk (st := s_Ratio___neg__) l14 c14 k14
  have b14 := F14.binds (ps := ["self"]) fun _ _ _ _ _ _ us hl => match us, hl with | [_], _ => rfl
  have F15 := fun_mk (st := s_Ratio___add__) l15 c15 k15
  have b15 := F15.binds (ps := ["self", "other"]) fun _ _ _ _ _ _ us hl => match us, hl with | [_, _], _ => rfl
  have F16 := fun_mk (st := s_Ratio___rsub__) l16 c16 k16
  have b16 := F16.binds (ps := ["self", "other"]) fun _ _ _ _ _ _ us hl => match us, hl with | [_, _], _ => rfl
  have F17 := fun_mk (st := s_Tabled_shares) l17 c17 k17
  have b17 := F17.binds (ps := ["self", "lot"]) fun _ _ _ _ _ _ us hl => match us, hl with | [_, _], _ => rfl
  have F18 := fun_mk (st := s_Rule_away) l18 c18 k18
  have b18 := F18.binds (ps := ["self", "lot"]) fun _ _ _ _ _ _ us hl => match us, hl with | [_, _], _ => rfl
  have F19 := fun_mk (st := s_Tabled___eq__) l19 c19 k19
  have b19 := F19.binds (ps := ["self", "other"]) fun _ _ _ _ _ _ us hl => match us, hl with | [_, _], _ => rfl
  have F20 := fun_mk (st := s__law_cell) l20 c20 k20
  have b20 := F20.binds (ps := ["_law_script", "_law_place"]) fun _ _ _ _ _ _ us hl => match us, hl with | [_, _], _ => rfl
  have F21 := fun_mk (st := s__law_draws) l21 c21 k21
  have b21 := F21.binds (ps := ["_law_cell_here", "_law_sizes"]) fun _ _ _ _ _ _ us hl => match us, hl with | [_, _], _ => rfl
  have F22 := fun_mk (st := s__law_lot) l22 c22 k22
  have b22 := F22.binds (ps := ["_law_bits", "_law_many"]) fun _ _ _ _ _ _ us hl => match us, hl with | [_, _], _ => rfl
  have F23 := fun_mk (st := s__law_power) l23 c23 k23
  have b23 := F23.binds (ps := ["_law_many"]) fun _ _ _ _ _ _ us hl => match us, hl with | [_], _ => rfl
  have F24 := fun_mk (st := s__law_is_int) l24 c24 k24
  have b24 := F24.binds (ps := ["_law_x"]) fun _ _ _ _ _ _ us hl => match us, hl with | [_], _ => rfl
  have F25 := fun_mk (st := s__law_same) l25 c25 k25
  have b25 := F25.binds (ps := ["_law_x", "_law_top", "_law_bottom"]) fun _ _ _ _ _ _ us hl => match us, hl with | [_, _, _], _ => rfl
  have F26 := fun_mk (st := s__law_same_lot) l26 c26 k26
  have b26 := F26.binds (ps := ["_law_x", "_law_due"]) fun _ _ _ _ _ _ us hl => match us, hl with | [_, _], _ => rfl
  have F27 := fun_mk (st := s__law_same_row) l27 c27 k27
  have b27 := F27.binds (ps := ["_law_x", "_law_pairs"]) fun _ _ _ _ _ _ us hl => match us, hl with | [_, _], _ => rfl
  have F28 := fun_mk (st := s__law_pool) l28 c28 k28
  have b28 := F28.binds (ps := ["_law_low", "_law_high"]) fun _ _ _ _ _ _ us hl => match us, hl with | [_, _], _ => rfl
  have F29 := fun_mk (st := s__law_rows) l29 c29 k29
  have b29 := F29.binds (ps := ["_law_pool_here", "_law_many"]) fun _ _ _ _ _ _ us hl => match us, hl with | [_, _], _ => rfl
  have F30 := fun_mk (st := s__law_refuses) l30 c30 k30
  have b30 := F30.binds (ps := ["_law_rule", "_law_lot_here"]) fun _ _ _ _ _ _ us hl => match us, hl with | [_, _], _ => rfl
  have F31 := fun_mk (st := s__law_kept) l31 c31 k31
  have b31 := F31.binds (ps := ["_law_told", "_law_due"]) fun _ _ _ _ _ _ us hl => match us, hl with | [_, _], _ => rfl
  have F32 := fun_mk (st := s__law_times_all) l32 c32 k32
  have b32 := F32.binds (ps := ["_law_rows_here", "_law_factor", "_law_step"]) fun _ _ _ _ _ _ us hl => match us, hl with | [_, _, _], _ => rfl
  have F33 := fun_mk (st := s__law_changed) l33 c33 k33
  have b33 := F33.binds (ps := ["_law_rows_here", "_law_number", "_law_place", "_law_many"]) fun _ _ _ _ _ _ us hl => match us, hl with | [_, _, _, _], _ => rfl
  have F34 := fun_mk (st := s__law_all_shares) l34 c34 k34
  have b34 := F34.binds (ps := ["_law_table", "_law_rows_here", "_law_many"]) fun _ _ _ _ _ _ us hl => match us, hl with | [_, _, _], _ => rfl
  have F35 := fun_mk (st := s__law_gcd) l35 c35 k35
  have b35 := F35.binds (ps := ["_law_a", "_law_b"]) fun _ _ _ _ _ _ us hl => match us, hl with | [_, _], _ => rfl
  have F36 := fun_mk (st := s__law_divided) l36 c36 k36
  have b36 := F36.binds (ps := ["_law_rows_here"]) fun _ _ _ _ _ _ us hl => match us, hl with | [_], _ => rfl
  have F37 := fun_mk (st := s_law) l37 c37 k37
  refine ⟨PySem.W.fnOf "law" "law" (defArgs s_law) (defBody s_law) (defScope s_law) .none kV37 dc37 pm37 an37 cd37 ct37, fun s v => .of_eq rfl, fun base _ _ => ?_⟩
  have K_TooMany___init__ : CalX l.prog w K mg base CX0 1 C_TooMany ["self", "many", "most"] (sp_TooMany___init__ C_TooMany) := ⟨f1, _, ok_TooMany___init__ F1 T, a1, beq_iff_eq.mp i1, b1⟩
  have K_BadTable___init__ : CalX l.prog w K mg base CX0 1 C_BadTable ["self", "at"] (sp_BadTable___init__ C_BadTable) := ⟨f2, _, ok_BadTable___init__ F2 T, a2, beq_iff_eq.mp i2, b2⟩
  have K_check_many : Cal l.prog w K mg base (L2.CX l.prog w) 3 "check_many" ["many", "most"] (sp_check_many C_TooMany) := ⟨f3, _, ok_check_many F3 T K_TooMany___init__, PySem.W.mg_of X G a3, k3, b3⟩
  have K_Rule___init__ : ∃ fd : FuncData, FnOk l.prog w K mg base (L2.CX l.prog w) 4 f4 fd ["self", "many"] (sp_Rule___init__ C_Tabled C_TooMany) ∧ Binds K fd ["self", "many"] [] := ⟨_, ok_Rule___init__ F4 T K_check_many, b4⟩
  have K_check_lot : Cal l.prog w K mg base (L2.CX l.prog w) 1 "check_lot" ["lot", "many"] (sp_check_lot K C_BadLot) := ⟨f5, _, ok_check_lot F5 T, PySem.W.mg_of X G a5, k5, b5⟩
  have K_lot_number : Cal l.prog w K mg base CX0 1 "lot_number" ["lot"] (sp_lot_number K) := ⟨f6, _, ok_lot_number F6 T m_sum, PySem.W.mg_of X G a6, k6, b6⟩
  have K_lot_at : Cal l.prog w K mg base CX0 1 "lot_at" ["number", "many"] (sp_lot_at K) := ⟨f7, _, ok_lot_at F7 T m_range m_tuple, PySem.W.mg_of X G a7, k7, b7⟩
  have K__fits : Cal l.prog w K mg base CX0 1 "_fits" ["row", "lot"] (sp__fits K) := ⟨f8, _, ok__fits F8 T m_enumerate m_sum, PySem.W.mg_of X G a8, k8, b8⟩
  have K_common_divisor : Cal l.prog w K mg base CX0 1 "common_divisor" ["numbers"] (sp_common_divisor K) := ⟨f9, _, ok_common_divisor F9 T, PySem.W.mg_of X G a9, k9, b9⟩
  have K__reduced_row : Cal l.prog w K mg base CX0 2 "_reduced_row" ["row"] (sp__reduced_row K) := ⟨f10, _, ok__reduced_row F10 T m_tuple K_common_divisor, PySem.W.mg_of X G a10, k10, b10⟩
  have K_Tabled___init__ : CalI l.prog w K mg base (L2.CX l.prog w) 5 C_Tabled ["self", "many", "rows"] (sp_Tabled___init__ C_Tabled C_TooMany C_BadTable) [] := ⟨f11, _, ok_Tabled___init__ F11 S11 sl_11 sm11 T m_enumerate m_len m_tuple K_check_many K_Rule___init__ K_lot_at K__fits K__reduced_row K_BadTable___init__, ⟨mk_Tabled, a11, i11, kc_Tabled⟩, b11, [], .nil, b11⟩
  have K_Ratio___init__ : CalI l.prog w K mg base (L2.CX l.prog w) 1 C_Ratio ["self", "top", "bottom"] (sp_Ratio___init__ C_Ratio C_ZeroBottom) [V.int 1] := ⟨f12, _, ok_Ratio___init__ F12 T, ⟨mk_Ratio, a12, i12, kc_Ratio⟩, b12, dd12, vd12, bd12⟩
  have K__as_ratio : Cal l.prog w K mg base CX0 3 "_as_ratio" ["number"] (sp__as_ratio C_Ratio) := ⟨f13, _, ok__as_ratio F13 T m_isinstance K_Ratio___init__, PySem.W.mg_of X G a13, k13, b13⟩
  have K_Ratio___neg__ : CalM l.prog w K mg base CX0 3 C_Ratio "__neg__" ["self"] (sp_Ratio___neg__ C_Ratio) := ⟨f14, _, ok_Ratio___neg__ F14 T K_Ratio___init__, ⟨a14, i14, k14⟩, b14⟩
  have K_Ratio___add__ : CalM l.prog w K mg base CX0 4 C_Ratio "__add__" ["self", "other"] (sp_Ratio___add__ C_Ratio) := ⟨f15, _, ok_Ratio___add__ F15 T K__as_ratio K_Ratio___init__, ⟨a15, i15, k15⟩, b15⟩
  have K_Ratio___rsub__ : CalM l.prog w K mg base CX0 5 C_Ratio "__rsub__" ["self", "other"] (sp_Ratio___rsub__ C_Ratio) := ⟨f16, _, ok_Ratio___rsub__ F16 T K_Ratio___neg__ K_Ratio___add__, ⟨a16, i16, k16⟩, b16⟩
  have K_Tabled_shares : CalM l.prog w K mg base (L2.CX l.prog w) 3 C_Tabled "shares" ["self", "lot"] (sp_Tabled_shares K C_Tabled C_Ratio C_BadLot) := ⟨f17, _, ok_Tabled_shares F17 T K_check_lot K_lot_number K_Ratio___init__, ⟨a17, i17, k17⟩, b17⟩
  have K_Rule_away : CalM l.prog w K mg base (L2.CX l.prog w) 6 C_Tabled "away" ["self", "lot"] (sp_Rule_away K C_Tabled C_Ratio C_BadLot) := ⟨f18, _, ok_Rule_away F18 T m_sum K_Tabled_shares K_Ratio___init__ K_Ratio___add__ K_Ratio___rsub__, ⟨a18, i18, k18⟩, b18⟩
  have K_Tabled___eq__ : CalM l.prog w K mg base CX0 1 C_Tabled "__eq__" ["self", "other"] (sp_Tabled___eq__ C_Tabled) := ⟨f19, _, ok_Tabled___eq__ F19 T m_isinstance, ⟨a19, i19, k19⟩, b19⟩
  have K__law_cell : Cal l.prog w K mg base CX0 1 "_law_cell" ["_law_script", "_law_place"] (sp__law_cell K) := ⟨f20, _, ok__law_cell F20 T m_int m_len, PySem.W.mg_of X G a20, k20, b20⟩
  have K__law_draws : Cal l.prog w K mg base CX0 1 "_law_draws" ["_law_cell_here", "_law_sizes"] (sp__law_draws K) := ⟨f21, _, ok__law_draws F21 T m_int m_len m_range, PySem.W.mg_of X G a21, k21, b21⟩
  have K__law_lot : Cal l.prog w K mg base CX0 1 "_law_lot" ["_law_bits", "_law_many"] (sp__law_lot K) := ⟨f22, _, ok__law_lot F22 T m_int m_range m_tuple, PySem.W.mg_of X G a22, k22, b22⟩
  have K__law_power : Cal l.prog w K mg base CX0 1 "_law_power" ["_law_many"] sp__law_power := ⟨f23, _, ok__law_power F23 T m_range, PySem.W.mg_of X G a23, k23, b23⟩
  have K__law_is_int : Cal l.prog w K mg base CX0 1 "_law_is_int" ["_law_x"] sp__law_is_int := ⟨f24, _, ok__law_is_int F24 T m_bool m_int m_isinstance, PySem.W.mg_of X G a24, k24, b24⟩
  have K__law_same : Cal l.prog w K mg base CX0 2 "_law_same" ["_law_x", "_law_top", "_law_bottom"] (sp__law_same C_Ratio) := ⟨f25, _, ok__law_same F25 T m_isinstance K__law_is_int, PySem.W.mg_of X G a25, k25, b25⟩
  have K__law_same_lot : Cal l.prog w K mg base CX0 2 "_law_same_lot" ["_law_x", "_law_due"] (sp__law_same_lot K) := ⟨f26, _, ok__law_same_lot F26 T m_isinstance m_len m_range m_tuple K__law_is_int, PySem.W.mg_of X G a26, k26, b26⟩
  have K__law_same_row : Cal l.prog w K mg base CX0 3 "_law_same_row" ["_law_x", "_law_pairs"] (sp__law_same_row C_Ratio) := ⟨f27, _, ok__law_same_row F27 T m_isinstance m_len m_list m_range K__law_same, PySem.W.mg_of X G a27, k27, b27⟩
  have K__law_pool : Cal l.prog w K mg base CX0 2 "_law_pool" ["_law_low", "_law_high"] (sp__law_pool K) := ⟨f28, _, ok__law_pool F28 T m_int m_range K__law_draws, PySem.W.mg_of X G a28, k28, b28⟩
  have K__law_rows : Cal l.prog w K mg base CX0 2 "_law_rows" ["_law_pool_here", "_law_many"] (sp__law_rows K) := ⟨f29, _, ok__law_rows F29 T m_int m_max m_range m_sum K__law_power K__law_lot, PySem.W.mg_of X G a29, k29, b29⟩
  have K__law_refuses : Cal l.prog w K mg base CX0 7 "_law_refuses" ["_law_rule", "_law_lot_here"] (sp__law_refuses C_Tabled) := ⟨f30, _, ok__law_refuses F30 T K_Tabled_shares K_Rule_away, PySem.W.mg_of X G a30, k30, b30⟩
  have K__law_kept : Cal l.prog w K mg base CX0 3 "_law_kept" ["_law_told", "_law_due"] sp__law_kept := ⟨f31, _, ok__law_kept F31 T m_isinstance m_len m_range m_tuple K__law_same_lot, PySem.W.mg_of X G a31, k31, b31⟩
  have K__law_times_all : Cal l.prog w K mg base CX0 1 "_law_times_all" ["_law_rows_here", "_law_factor", "_law_step"] (sp__law_times_all K) := ⟨f32, _, ok__law_times_all F32 T m_int m_len m_range, PySem.W.mg_of X G a32, k32, b32⟩
  have K__law_changed : Cal l.prog w K mg base CX0 2 "_law_changed" ["_law_rows_here", "_law_number", "_law_place", "_law_many"] (sp__law_changed K) := ⟨f33, _, ok__law_changed F33 T m_int m_len m_list K__law_lot, PySem.W.mg_of X G a33, k33, b33⟩
  have K__law_all_shares : Cal l.prog w K mg base CX0 7 "_law_all_shares" ["_law_table", "_law_rows_here", "_law_many"] (sp__law_all_shares C_Tabled) := ⟨f34, _, ok__law_all_shares F34 T m_len m_range m_sum K__law_lot K_Tabled_shares K_Rule_away K__law_same K__law_same_row, PySem.W.mg_of X G a34, k34, b34⟩
  have K__law_gcd : Cal l.prog w K mg base CX0 1 "_law_gcd" ["_law_a", "_law_b"] sp__law_gcd := ⟨f35, _, ok__law_gcd F35 T m_int m_range, PySem.W.mg_of X G a35, k35, b35⟩
  have K__law_divided : Cal l.prog w K mg base CX0 2 "_law_divided" ["_law_rows_here"] (sp__law_divided K) := ⟨f36, _, ok__law_divided F36 T K__law_gcd, PySem.W.mg_of X G a36, k36, b36⟩
  exact ok_law F37 T m_bool m_list m_range K__law_cell K__law_draws K__law_pool K__law_rows K__law_times_all K__law_changed K__law_is_int K__law_divided K__law_kept K__law_all_shares K__law_refuses K__law_same_row K_Tabled___init__ K_Tabled_shares K_Tabled___eq__
end K24
open PySem PySem.W PyProof.Rows
set_option pp.maxSteps 400 in
set_option maxHeartbeats 0 in
theorem PySem.Challenge.cw_dearestshelf_k24_tabled_shares_holds : PySem.Challenge.rw_dearestshelf_k24_tabled_shares.Holds := by
  w_on; o_law; k_head; (case hw => w_witness2)
  k_fill
  refine L2.walk_of (l := PySem.Challenge.rw_dearestshelf_k24_tabled_shares) (n := 63) (k := 8) (x := "_law_script") (CX := fun _ => L2.CX0) (sp := fun w => K24.sp_law _) rfl (by decide) rfl ⟨rfl, by decide, by decide⟩ (fun w h Y => PySem.W.kIn_of Y) ?F (fun _ _ a ns hl _ hS => ⟨a, ns, rfl, hS, hl, fun _ => rfl⟩) (fun _ _ _ _ _ h => h)
  case F =>
    intro w mg fa h KX G hmg
    refine' K24.all_mk KX G hmg ?a_Tabled ?kc_Tabled ?hd_Tabled ?ha_Tabled ?hm_Tabled ?pg_Tabled ?po_Tabled ?sa_Tabled ?mk_Tabled ?n_Tabled_many ?n_Tabled_rows ?sf_Tabled ?si_Tabled ?sr_Tabled ?a_Ratio ?kc_Ratio ?hd_Ratio ?ha_Ratio ?hm_Ratio ?pg_Ratio ?po_Ratio ?sa_Ratio ?mk_Ratio ?n_Ratio_top ?n_Ratio_bottom ?ss_Ratio ?sb_Ratio ?sy_Ratio ?sf_Ratio ?si_Ratio ?sr_Ratio ?rf_Ratio_add ?of_Ratio_add ?inta_add ?intr_add ?rf_Ratio_sub ?of_Ratio_sub ?inta_sub ?intr_sub ?a_TooMany ?kc_TooMany ?hd_TooMany ?ha_TooMany ?hm_TooMany ?b_TooMany ?t_TooMany ?ga_TooMany ?gg_TooMany ?ol_TooMany ?or_TooMany ?sa_TooMany ?n_TooMany_many ?n_TooMany_most ?a_BadTable ?kc_BadTable ?hd_BadTable ?ha_BadTable ?hm_BadTable ?b_BadTable ?t_BadTable ?ga_BadTable ?gg_BadTable ?ol_BadTable ?or_BadTable ?sa_BadTable ?n_BadTable_at ?a_ZeroBottom ?kc_ZeroBottom ?hd_ZeroBottom ?ha_ZeroBottom ?hm_ZeroBottom ?b_ZeroBottom ?t_ZeroBottom ?ga_ZeroBottom ?gg_ZeroBottom ?x_ZeroBottom ?a_BadLot ?kc_BadLot ?hd_BadLot ?ha_BadLot ?hm_BadLot ?b_BadLot ?t_BadLot ?ga_BadLot ?gg_BadLot ?x_BadLot ?hnc ?htk ?sub_BadLot_BadLot ?kit_Ratio_Ratio ?kit_int_Ratio ?kit_Tabled_Tabled ?a_gcd ?a_MOST_THINGS ?a_MOST_TABLED_THINGS ?a1 ?i1 ?l1 ?c1 ?k1 ?a2 ?i2 ?l2 ?c2 ?k2 ?a3 ?l3 ?c3 ?k3 ?sg4 ?l4 ?c4 ?k4 ?a5 ?l5 ?c5 ?k5 ?a6 ?l6 ?c6 ?k6 ?a7 ?l7 ?c7 ?k7 ?a8 ?l8 ?c8 ?k8 ?a9 ?l9 ?c9 ?k9 ?a10 ?l10 ?c10 ?k10 ?sa11 ?sb11 ?a11 ?i11 ?l11 ?c11 ?k11 ?sc11 ?sd11 ?se11 ?sh11 ?si11 ?sj11 ?sk11 ?sl_11 ?sm11 ?a12 ?i12 ?l12 ?lt12 ?c12 ?k12 ?a13 ?l13 ?c13 ?k13 ?a14 ?i14 ?l14 ?c14 ?k14 ?a15 ?i15 ?l15 ?c15 ?k15 ?a16 ?i16 ?l16 ?c16 ?k16 ?a17 ?i17 ?l17 ?c17 ?k17 ?a18 ?i18 ?l18 ?c18 ?k18 ?a19 ?i19 ?l19 ?c19 ?k19 ?a20 ?l20 ?c20 ?k20 ?a21 ?l21 ?c21 ?k21 ?a22 ?l22 ?c22 ?k22 ?a23 ?l23 ?c23 ?k23 ?a24 ?l24 ?c24 ?k24 ?a25 ?l25 ?c25 ?k25 ?a26 ?l26 ?c26 ?k26 ?a27 ?l27 ?c27 ?k27 ?a28 ?l28 ?c28 ?k28 ?a29 ?l29 ?c29 ?k29 ?a30 ?l30 ?c30 ?k30 ?a31 ?l31 ?c31 ?k31 ?a32 ?l32 ?c32 ?k32 ?a33 ?l33 ?c33 ?k33 ?a34 ?l34 ?c34 ?k34 ?a35 ?l35 ?c35 ?k35 ?a36 ?l36 ?c36 ?k36 ?a37 ?l37 ?c37 ?k37 ?z_bool ?z_enumerate ?z_int ?z_isinstance ?z_len ?z_list ?z_max ?z_range ?z_sum ?z_tuple
    (case a_Tabled => k_is); (case kc_Tabled => k_is); (case hd_Tabled => k_is); (case ha_Tabled => k_is); (case hm_Tabled => k_is); (case pg_Tabled => k_is); (case po_Tabled => k_is); (case sa_Tabled => k_is); (case mk_Tabled => k_is); (case n_Tabled_many => k_is); (case n_Tabled_rows => k_is); (case sf_Tabled => k_is); (case si_Tabled => (first | k_is | decide +kernel)); (case sr_Tabled => (first | k_is | decide +kernel)); (case a_Ratio => k_is); (case kc_Ratio => k_is); (case hd_Ratio => k_is); (case ha_Ratio => k_is); (case hm_Ratio => k_is); (case pg_Ratio => k_is); (case po_Ratio => k_is); (case sa_Ratio => k_is); (case mk_Ratio => k_is); (case n_Ratio_top => k_is); (case n_Ratio_bottom => k_is); (case ss_Ratio => (first | k_is | decide +kernel)); (case sb_Ratio => (first | k_is | decide +kernel)); (case sy_Ratio => (first | k_is | decide +kernel)); (case sf_Ratio => k_is); (case si_Ratio => (first | k_is | decide +kernel)); (case sr_Ratio => (first | k_is | decide +kernel)); (case rf_Ratio_add => k_is); (case of_Ratio_add => k_is); (case inta_add => k_is); (case intr_add => k_is); (case rf_Ratio_sub => k_is); (case of_Ratio_sub => k_is); (case inta_sub => k_is); (case intr_sub => k_is); (case a_TooMany => k_is); (case kc_TooMany => k_is); (case hd_TooMany => k_is); (case ha_TooMany => k_is); (case hm_TooMany => k_is); (case b_TooMany => k_is); (case t_TooMany => k_is); (case ga_TooMany => k_is); (case gg_TooMany => k_is); (case ol_TooMany => k_is); (case or_TooMany => rfl); (case sa_TooMany => k_is); (case n_TooMany_many => k_is); (case n_TooMany_most => k_is); (case a_BadTable => k_is); (case kc_BadTable => k_is); (case hd_BadTable => k_is); (case ha_BadTable => k_is); (case hm_BadTable => k_is); (case b_BadTable => k_is); (case t_BadTable => k_is); (case ga_BadTable => k_is); (case gg_BadTable => k_is); (case ol_BadTable => k_is); (case or_BadTable => rfl); (case sa_BadTable => k_is); (case n_BadTable_at => k_is); (case a_ZeroBottom => k_is); (case kc_ZeroBottom => k_is); (case hd_ZeroBottom => k_is); (case ha_ZeroBottom => k_is); (case hm_ZeroBottom => k_is); (case b_ZeroBottom => k_is); (case t_ZeroBottom => k_is); (case ga_ZeroBottom => k_is); (case gg_ZeroBottom => k_is); (case x_ZeroBottom => k_exc); (case a_BadLot => k_is); (case kc_BadLot => k_is); (case hd_BadLot => k_is); (case ha_BadLot => k_is); (case hm_BadLot => k_is); (case b_BadLot => k_is); (case t_BadLot => k_is); (case ga_BadLot => k_is); (case gg_BadLot => k_is); (case x_BadLot => k_exc); (case hnc => k_is); (case htk => k_is); (case sub_BadLot_BadLot => (first | rfl | k_is)); (case kit_Ratio_Ratio => kit_is); (case kit_int_Ratio => kit_is); (case kit_Tabled_Tabled => kit_is); (case a_gcd => k_is); (case a_MOST_THINGS => k_is); (case a_MOST_TABLED_THINGS => k_is); (case a1 => k_is); (case i1 => k_is); (case l1 => k_is); (case c1 => k_is); (case k1 => k_is); (case a2 => k_is); (case i2 => k_is); (case l2 => k_is); (case c2 => k_is); (case k2 => k_is); (case a3 => k_is); (case l3 => k_is); (case c3 => k_is); (case k3 => k_is); (case sg4 => ks_is); (case l4 => k_is); (case c4 => k_is); (case k4 => k_is); (case a5 => k_is); (case l5 => k_is); (case c5 => k_is); (case k5 => k_is); (case a6 => k_is); (case l6 => k_is); (case c6 => k_is); (case k6 => k_is); (case a7 => k_is); (case l7 => k_is); (case c7 => k_is); (case k7 => k_is); (case a8 => k_is); (case l8 => k_is); (case c8 => k_is); (case k8 => k_is); (case a9 => k_is); (case l9 => k_is); (case c9 => k_is); (case k9 => k_is); (case a10 => k_is); (case l10 => k_is); (case c10 => k_is); (case k10 => k_is); (case sa11 => k_is); (case sb11 => k_is); (case a11 => k_is); (case i11 => k_is); (case l11 => k_is); (case c11 => k_is); (case k11 => k_is); (case sc11 => k_is); (case sd11 => k_is); (case se11 => rfl); (case sh11 => k_is); (case si11 => k_is); (case sj11 => k_is); (case sk11 => k_is); (case sl_11 => (first | rfl | decide +kernel)); (case sm11 => (first | rfl | decide +kernel)); (case a12 => k_is); (case i12 => k_is); (case l12 => k_is); (case lt12 => k_is); (case c12 => k_is); (case k12 => k_is); (case a13 => k_is); (case l13 => k_is); (case c13 => k_is); (case k13 => k_is); (case a14 => k_is); (case i14 => k_is); (case l14 => k_is); (case c14 => k_is); (case k14 => k_is); (case a15 => k_is); (case i15 => k_is); (case l15 => k_is); (case c15 => k_is); (case k15 => k_is); (case a16 => k_is); (case i16 => k_is); (case l16 => k_is); (case c16 => k_is); (case k16 => k_is); (case a17 => k_is); (case i17 => k_is); (case l17 => k_is); (case c17 => k_is); (case k17 => k_is); (case a18 => k_is); (case i18 => k_is); (case l18 => k_is); (case c18 => k_is); (case k18 => k_is); (case a19 => k_is); (case i19 => k_is); (case l19 => k_is); (case c19 => k_is); (case k19 => k_is); (case a20 => k_is); (case l20 => k_is); (case c20 => k_is); (case k20 => k_is); (case a21 => k_is); (case l21 => k_is); (case c21 => k_is); (case k21 => k_is); (case a22 => k_is); (case l22 => k_is); (case c22 => k_is); (case k22 => k_is); (case a23 => k_is); (case l23 => k_is); (case c23 => k_is); (case k23 => k_is); (case a24 => k_is); (case l24 => k_is); (case c24 => k_is); (case k24 => k_is); (case a25 => k_is); (case l25 => k_is); (case c25 => k_is); (case k25 => k_is); (case a26 => k_is); (case l26 => k_is); (case c26 => k_is); (case k26 => k_is); (case a27 => k_is); (case l27 => k_is); (case c27 => k_is); (case k27 => k_is); (case a28 => k_is); (case l28 => k_is); (case c28 => k_is); (case k28 => k_is); (case a29 => k_is); (case l29 => k_is); (case c29 => k_is); (case k29 => k_is); (case a30 => k_is); (case l30 => k_is); (case c30 => k_is); (case k30 => k_is); (case a31 => k_is); (case l31 => k_is); (case c31 => k_is); (case k31 => k_is); (case a32 => k_is); (case l32 => k_is); (case c32 => k_is); (case k32 => k_is); (case a33 => k_is); (case l33 => k_is); (case c33 => k_is); (case k33 => k_is); (case a34 => k_is); (case l34 => k_is); (case c34 => k_is); (case k34 => k_is); (case a35 => k_is); (case l35 => k_is); (case c35 => k_is); (case k35 => k_is); (case a36 => k_is); (case l36 => k_is); (case c36 => k_is); (case k36 => k_is); (case a37 => k_is); (case l37 => k_is); (case c37 => k_is); (case k37 => k_is); (case z_bool => k_is); (case z_enumerate => k_is); (case z_int => k_is); (case z_isinstance => k_is); (case z_len => k_is); (case z_list => k_is); (case z_max => k_is); (case z_range => k_is); (case z_sum => k_is); (case z_tuple => k_is)
