import PyProof.Rows.All
import Wide.All
import OpenK.AllK
import Wide.FinOn
import HandS.ForMost
import HandS.ForExc
import HandS.Wide
import HandS.IsInst
import HandS.More
import HandS.Conv
import HandS.Evl
import HandS.ExcIs
import HandS.Defaults
import HandS.ExcInit
import HandS.ExcField
import HandS.TryMany
import HandS.Nested
import HandS.ClsMeth
import HandS.Iter
import HandS.Walk
import HandS.Style
import HandS.ListEq
import KE.KSuper
import KE.RegKSuper
import KE.KExcIs
import KE.RegKIsAll
import HandS.OwnEq
import HandS.Gcd
import HandS.SortKw
import HandS.TupAny
import KE.SortKeyHeap
import KE.SortData
import HandS.MakeKwOnly
import PySem.Challenge.RW_dearestshelf_k59_season_refusals
set_option Elab.async false
set_option linter.all false
set_option maxRecDepth 100000
set_option maxHeartbeats 8000000
set_option exponentiation.threshold 10000
namespace K59
open PySem PySem.Spec PyProof.Rows L2
def top (i : Nat) : Stmt := PySem.Challenge.pw_dearestshelf_k59_season_refusals.main.body.getD i (.Pass ⟨0, 0, 0, 0⟩)
abbrev s_BadNumber___init__ : Stmt := inClass (top 7) 0
theorem sc_BadNumber___init__ : FnScope ["self", "what", "at"] ["self", "what", "at"] (defScope s_BadNumber___init__) := ⟨rfl, rfl, rfl, by decide +kernel, rfl, by decide +kernel, by decide +kernel⟩
abbrev s_TooMany___init__ : Stmt := inClass (top 8) 0
theorem sc_TooMany___init__ : FnScope ["self", "many", "most"] ["self", "many", "most"] (defScope s_TooMany___init__) := ⟨rfl, rfl, rfl, by decide +kernel, rfl, by decide +kernel, by decide +kernel⟩
abbrev s_check_many : Stmt := top 10
theorem sc_check_many : FnScope ["many", "most"] ["many", "most"] (defScope s_check_many) := ⟨rfl, rfl, rfl, by decide +kernel, rfl, by decide +kernel, by decide +kernel⟩
abbrev s_check_length : Stmt := top 12
theorem sc_check_length : FnScope ["what", "items", "many"] ["what", "items", "many"] (defScope s_check_length) := ⟨rfl, rfl, rfl, by decide +kernel, rfl, by decide +kernel, by decide +kernel⟩
abbrev s_check_each : Stmt := top 13
theorem sc_check_each : FnScope ["what", "numbers", "least", "at", "number"] ["what", "numbers", "least"] (defScope s_check_each) := ⟨rfl, rfl, rfl, by decide +kernel, rfl, by decide +kernel, by decide +kernel⟩
abbrev s_check_prices : Stmt := top 11
theorem sc_check_prices : FnScope ["prices", "many"] ["prices", "many"] (defScope s_check_prices) := ⟨rfl, rfl, rfl, by decide +kernel, rfl, by decide +kernel, by decide +kernel⟩
abbrev s_check_least : Stmt := top 14
theorem sc_check_least : FnScope ["what", "number", "least"] ["what", "number", "least"] (defScope s_check_least) := ⟨rfl, rfl, rfl, by decide +kernel, rfl, by decide +kernel, by decide +kernel⟩
abbrev s_check_aside : Stmt := top 16
theorem sc_check_aside : FnScope ["aside"] ["aside"] (defScope s_check_aside) := ⟨rfl, rfl, rfl, by decide +kernel, rfl, by decide +kernel, by decide +kernel⟩
abbrev s_check_up_to : Stmt := top 15
theorem sc_check_up_to : FnScope ["what", "number", "most"] ["what", "number", "most"] (defScope s_check_up_to) := ⟨rfl, rfl, rfl, by decide +kernel, rfl, by decide +kernel, by decide +kernel⟩
abbrev s_Rule___init__ : Stmt := inClass (top 36) 0
theorem sc_Rule___init__ : FnScope ["self", "many"] ["self", "many"] (defScope s_Rule___init__) := ⟨rfl, rfl, rfl, by decide +kernel, rfl, by decide +kernel, by decide +kernel⟩
abbrev s_Weighted___init__ : Stmt := inClass (top 38) 0
theorem sc_Weighted___init__ : NdefX.NScope ["self", "weights", "aside", "__class__"] ["self", "weights", "aside"] ["__class__"] (defScope s_Weighted___init__) := NdefX.nscope_by (by decide +kernel)
abbrev s_Ratio___init__ : Stmt := inClass (top 24) 0
theorem sc_Ratio___init__ : FnScope ["self", "top", "bottom", "divisor"] ["self", "top", "bottom"] (defScope s_Ratio___init__) := ⟨rfl, rfl, rfl, by decide +kernel, rfl, by decide +kernel, by decide +kernel⟩
abbrev s__as_ratio : Stmt := top 25
theorem sc__as_ratio : FnScope ["number"] ["number"] (defScope s__as_ratio) := ⟨rfl, rfl, rfl, by decide +kernel, rfl, by decide +kernel, by decide +kernel⟩
abbrev s__gap : Stmt := top 26
theorem sc__gap : FnScope ["ratio", "other", "subtrahend"] ["ratio", "other"] (defScope s__gap) := ⟨rfl, rfl, rfl, by decide +kernel, rfl, by decide +kernel, by decide +kernel⟩
abbrev s_Ratio___lt__ : Stmt := inClass (top 24) 16
theorem sc_Ratio___lt__ : FnScope ["self", "other"] ["self", "other"] (defScope s_Ratio___lt__) := ⟨rfl, rfl, rfl, by decide +kernel, rfl, by decide +kernel, by decide +kernel⟩
abbrev s_Ratio___gt__ : Stmt := inClass (top 24) 18
theorem sc_Ratio___gt__ : FnScope ["self", "other"] ["self", "other"] (defScope s_Ratio___gt__) := ⟨rfl, rfl, rfl, by decide +kernel, rfl, by decide +kernel, by decide +kernel⟩
abbrev s_Ratio___neg__ : Stmt := inClass (top 24) 12
theorem sc_Ratio___neg__ : FnScope ["self"] ["self"] (defScope s_Ratio___neg__) := ⟨rfl, rfl, rfl, by decide +kernel, rfl, by decide +kernel, by decide +kernel⟩
abbrev s_Ratio___add__ : Stmt := inClass (top 24) 4
theorem sc_Ratio___add__ : FnScope ["self", "other", "addend"] ["self", "other"] (defScope s_Ratio___add__) := ⟨rfl, rfl, rfl, by decide +kernel, rfl, by decide +kernel, by decide +kernel⟩
abbrev s_Ratio___sub__ : Stmt := inClass (top 24) 6
theorem sc_Ratio___sub__ : FnScope ["self", "other"] ["self", "other"] (defScope s_Ratio___sub__) := ⟨rfl, rfl, rfl, by decide +kernel, rfl, by decide +kernel, by decide +kernel⟩
abbrev s_Ratio___mul__ : Stmt := inClass (top 24) 8
theorem sc_Ratio___mul__ : FnScope ["self", "other", "factor"] ["self", "other"] (defScope s_Ratio___mul__) := ⟨rfl, rfl, rfl, by decide +kernel, rfl, by decide +kernel, by decide +kernel⟩
abbrev s_Ratio_over : Stmt := inClass (top 24) 2
theorem sc_Ratio_over : FnScope ["self", "other", "divisor"] ["self", "other"] (defScope s_Ratio_over) := ⟨rfl, rfl, rfl, by decide +kernel, rfl, by decide +kernel, by decide +kernel⟩
abbrev s_dearest_order : Stmt := top 21
theorem sc_dearest_order : FnScope ["prices", "order", "thing", "at"] ["prices"] (defScope s_dearest_order) := ⟨rfl, rfl, rfl, by decide +kernel, rfl, by decide +kernel, by decide +kernel⟩
abbrev s__bar : Stmt := top 32
theorem sc__bar : FnScope ["margin", "rule", "prices", "bar", "brought", "total", "thing"] ["margin", "rule", "prices"] (defScope s__bar) := ⟨rfl, rfl, rfl, by decide +kernel, rfl, by decide +kernel, by decide +kernel⟩
abbrev s__worths_before : Stmt := top 31
theorem sc__worths_before : FnScope ["worths", "rule", "prices", "before", "fewer", "same"] ["worths", "rule", "prices"] (defScope s__worths_before) := ⟨rfl, rfl, rfl, by decide +kernel, rfl, by decide +kernel, by decide +kernel⟩
abbrev s_Season___init__ : Stmt := inClass (top 30) 0
theorem sc_Season___init__ : FnScope ["self", "rule", "prices", "seats", "buyers", "_"] ["self", "rule", "prices", "seats", "buyers"] (defScope s_Season___init__) := ⟨rfl, rfl, rfl, by decide +kernel, rfl, by decide +kernel, by decide +kernel⟩
abbrev s_Season__check : Stmt := inClass (top 30) 4
theorem sc_Season__check : FnScope ["self", "s", "b"] ["self", "s", "b"] (defScope s_Season__check) := ⟨rfl, rfl, rfl, by decide +kernel, rfl, by decide +kernel, by decide +kernel⟩
abbrev s_Season_worth : Stmt := inClass (top 30) 1
theorem sc_Season_worth : FnScope ["self", "s", "b", "found"] ["self", "s", "b"] (defScope s_Season_worth) := ⟨rfl, rfl, rfl, by decide +kernel, rfl, by decide +kernel, by decide +kernel⟩
abbrev s_Season_bar : Stmt := inClass (top 30) 2
theorem sc_Season_bar : FnScope ["self", "s", "b"] ["self", "s", "b"] (defScope s_Season_bar) := ⟨rfl, rfl, rfl, by decide +kernel, rfl, by decide +kernel, by decide +kernel⟩
abbrev s_Season_lot_to_show : Stmt := inClass (top 30) 3
theorem sc_Season_lot_to_show : FnScope ["self", "s", "b", "bar", "thing"] ["self", "s", "b"] (defScope s_Season_lot_to_show) := ⟨rfl, rfl, rfl, by decide +kernel, rfl, by decide +kernel, by decide +kernel⟩
abbrev s__law_cell : Stmt := top 40
theorem sc__law_cell : FnScope ["_law_script", "_law_place"] ["_law_script", "_law_place"] (defScope s__law_cell) := ⟨rfl, rfl, rfl, by decide +kernel, rfl, by decide +kernel, by decide +kernel⟩
abbrev s__law_draws : Stmt := top 41
theorem sc__law_draws : FnScope ["_law_cell_here", "_law_sizes", "_law_size", "_law_left", "_law_found", "_law_k", "_law_low", "_law_high"] ["_law_cell_here", "_law_sizes"] (defScope s__law_draws) := ⟨rfl, rfl, rfl, by decide +kernel, rfl, by decide +kernel, by decide +kernel⟩
abbrev s__law_is_int : Stmt := top 42
theorem sc__law_is_int : FnScope ["_law_x"] ["_law_x"] (defScope s__law_is_int) := ⟨rfl, rfl, rfl, by decide +kernel, rfl, by decide +kernel, by decide +kernel⟩
abbrev s__law_same : Stmt := top 43
theorem sc__law_same : FnScope ["_law_x", "_law_top", "_law_bottom"] ["_law_x", "_law_top", "_law_bottom"] (defScope s__law_same) := ⟨rfl, rfl, rfl, by decide +kernel, rfl, by decide +kernel, by decide +kernel⟩
abbrev s__law_same_lot : Stmt := top 44
theorem sc__law_same_lot : FnScope ["_law_x", "_law_due_here", "_law_k"] ["_law_x", "_law_due_here"] (defScope s__law_same_lot) := ⟨rfl, rfl, rfl, by decide +kernel, rfl, by decide +kernel, by decide +kernel⟩
abbrev s__law_refused : Stmt := top 45
theorem sc__law_refused : FnScope ["_law_answer", "_law_due_here", "_law_k"] ["_law_answer", "_law_due_here"] (defScope s__law_refused) := ⟨rfl, rfl, rfl, by decide +kernel, rfl, by decide +kernel, by decide +kernel⟩
abbrev s__law_near_or_far : Stmt := top 46
theorem sc__law_near_or_far : FnScope ["_law_kind", "_law_near", "_law_sign", "_law_far"] ["_law_kind", "_law_near", "_law_sign", "_law_far"] (defScope s__law_near_or_far) := ⟨rfl, rfl, rfl, by decide +kernel, rfl, by decide +kernel, by decide +kernel⟩
abbrev s__law_prices : Stmt := top 47
theorem sc__law_prices : FnScope ["_law_way", "_law_places", "_law_row", "_law_prices_here", "_law_place"] ["_law_way", "_law_places", "_law_row"] (defScope s__law_prices) := ⟨rfl, rfl, rfl, by decide +kernel, rfl, by decide +kernel, by decide +kernel⟩
abbrev s__law_due : Stmt := top 48
theorem sc__law_due : FnScope ["_law_prices_here", "_law_many", "_law_chairs", "_law_come", "_law_at"] ["_law_prices_here", "_law_many", "_law_chairs", "_law_come"] (defScope s__law_due) := ⟨rfl, rfl, rfl, by decide +kernel, rfl, by decide +kernel, by decide +kernel⟩
abbrev s__law_opened : Stmt := top 49
theorem sc__law_opened : FnScope ["_law_rule", "_law_prices_here", "_law_chairs", "_law_come", "e"] ["_law_rule", "_law_prices_here", "_law_chairs", "_law_come"] (defScope s__law_opened) := ⟨rfl, rfl, rfl, by decide +kernel, rfl, by decide +kernel, by decide +kernel⟩
abbrev s__law_opened_by_base : Stmt := top 50
theorem sc__law_opened_by_base : FnScope ["_law_rule", "_law_prices_here", "_law_chairs", "_law_come", "e"] ["_law_rule", "_law_prices_here", "_law_chairs", "_law_come"] (defScope s__law_opened_by_base) := ⟨rfl, rfl, rfl, by decide +kernel, rfl, by decide +kernel, by decide +kernel⟩
abbrev s__law_asked : Stmt := top 51
theorem sc__law_asked : FnScope ["_law_season", "_law_way", "_law_s", "_law_b", "e"] ["_law_season", "_law_way", "_law_s", "_law_b"] (defScope s__law_asked) := ⟨rfl, rfl, rfl, by decide +kernel, rfl, by decide +kernel, by decide +kernel⟩
abbrev s__law_asked_by_base : Stmt := top 52
theorem sc__law_asked_by_base : FnScope ["_law_season", "_law_way", "_law_s", "_law_b", "e"] ["_law_season", "_law_way", "_law_s", "_law_b"] (defScope s__law_asked_by_base) := ⟨rfl, rfl, rfl, by decide +kernel, rfl, by decide +kernel, by decide +kernel⟩
abbrev s__law_nothing : Stmt := top 53
theorem sc__law_nothing : FnScope ["_law_answer", "_law_way"] ["_law_answer", "_law_way"] (defScope s__law_nothing) := ⟨rfl, rfl, rfl, by decide +kernel, rfl, by decide +kernel, by decide +kernel⟩
abbrev s__law_fields : Stmt := top 54
theorem sc__law_fields : FnScope ["_law_season", "_law_weights", "_law_apart", "_law_prices_here", "_law_chairs", "_law_come"] ["_law_season", "_law_weights", "_law_apart", "_law_prices_here", "_law_chairs", "_law_come"] (defScope s__law_fields) := ⟨rfl, rfl, rfl, by decide +kernel, rfl, by decide +kernel, by decide +kernel⟩
abbrev s_law : Stmt := top 55
theorem sc_law : FnScope ["_law_script", "_law_drawn", "_law_asked_here", "_law_row", "_law_many", "_law_weights", "_law_apart", "_law_prices_here", "_law_chairs", "_law_come", "_law_s", "_law_b", "_law_rule", "_law_passed", "_law_due_here", "_law_answer", "_law_season", "_law_way", "_law_number"] ["_law_script"] (defScope s_law) := ⟨rfl, rfl, rfl, by decide +kernel, rfl, by decide +kernel, by decide +kernel⟩

/-! ### mathematics of draws -/
def Within : List Int → List Int → Prop
  | [], [] => True
  | d :: ds, n :: ns => (0 ≤ d ∧ d < n) ∧ Within ds ns
  | _, _ => False
theorem Within.len : ∀ {ds ns : List Int}, Within ds ns → ds.length = ns.length
  | [], [], _ => rfl
  | _ :: ds, _ :: ns, h => by
    rw [List.length_cons, List.length_cons, Within.len h.2]
  | [], _ :: _, h => h.elim
  | _ :: _, [], h => h.elim
theorem Within.snoc : ∀ {ds ns : List Int} {d n : Int}, Within ds ns → 0 ≤ d → d < n → Within (ds ++ [d]) (ns ++ [n])
  | [], [], d, n, _, h0, h1 => ⟨⟨h0, h1⟩, True.intro⟩
  | _ :: ds, _ :: ns, d, n, h, h0, h1 => ⟨h.1, Within.snoc h.2 h0 h1⟩
  | [], _ :: _, _, _, h, _, _ => h.elim
  | _ :: _, [], _, _, h, _, _ => h.elim
theorem Within.step {ds ns : List Int} {d n : Int} {i : Nat} (h : Within ds (ns.take i)) (hi : ns[i]? = some n) (h0 : 0 ≤ d) (h1 : d < n) : Within (ds ++ [d]) (ns.take (i + 1)) := by
  rw [List.take_add_one, hi]
  exact h.snoc h0 h1
theorem Within.zero (ns : List Int) : Within [] (ns.take 0) := by
  rw [List.take_zero]
  exact True.intro
theorem Within.full {ds ns : List Int} (h : Within ds (ns.take ns.length)) : Within ds ns := by
  rw [List.take_length] at h
  exact h
theorem int_of {ns : List Int} {i : Nat} {x : V} (h : (ns.map V.int)[i]? = some x) : ∃ n, x = .int n ∧ ns[i]? = some n := by
  rw [List.getElem?_map] at h
  cases e : ns[i]? with
  | none =>
    rw [e] at h
    cases h
  | some z =>
    rw [e] at h
    exact ⟨z, (Option.some.inj h).symm, rfl⟩
theorem int_at {ns : List Int} {i : Nat} {n : Int} (h : ns[i]? = some n) : (ns.map V.int)[i]? = some (.int n) := by
  rw [List.getElem?_map, h]
  rfl
theorem snoc_int (ds : List Int) (d : Int) : ds.map V.int ++ [V.int d] = (ds ++ [d]).map V.int := by
  rw [List.map_append]
  rfl
theorem same_upd {H : Hp} {p : Addr} {o : HO} (h : H p = none) : Same H (upd H p o) := fun b x e => by
  rw [upd_ne (ne_of_none e h)]
  exact e
theorem same_mut {H H1 : Hp} {p : Addr} {o : HO} (s : Same H H1) (h : H p = none) : Same H (upd H1 p o) := fun b x e => by
  rw [upd_ne (ne_of_none e h)]
  exact s b x e
theorem same_tup {K : PySem.W.Frag} {H H' : Hp} {a : Addr} {xs : List V} (e : Same H H') (h : SqT K H a xs) : SqT K H' a xs := by
  rcases h with (h | ⟨o, h⟩) | h
  · exact .inl (.inl (e _ _ h))
  · exact .inl (.inr ⟨o, e _ _ h⟩)
  · exact .inr h
theorem w_div {j : Int} (h : 0 < j) (hb : j < 2 ^ 100) : CDivW 0 j := wide_div (b := 100) h (by omega) (by decide) (by decide)
theorem lst_l {K : PySem.W.Frag} {H : Hp} {a : Addr} {xs : List V} (h : H a = some (.lst xs)) : SqL K H a xs := .inl (.inl h)
theorem tup_t {K : PySem.W.Frag} {H : Hp} {a : Addr} {xs : List V} (h : H a = some (.tup xs)) : SqT K H a xs := .inl (.inl h)
theorem lc_yes {σ : L2.St} {H : Hp} {F : Bool → Hp → Prop} (h : F true H) : tYes σ H F := h
theorem Within.c {ds ns : List Int} {n : Int} (h : Within ds (n :: ns)) : ∃ d r, ds = d :: r ∧ 0 ≤ d ∧ d < n ∧ Within r ns := by
  cases ds with
  | nil => exact h.elim
  | cons d r => exact ⟨d, r, rfl, h.1.1, h.1.2, h.2⟩
theorem Within.n {ds : List Int} (h : Within ds []) : ds = [] := by
  cases ds with
  | nil => rfl
  | cons d r => exact h.elim
theorem kI : kitB "int" "int" = some true := by decide +kernel
theorem kB : kitB "int" "bool" = some false := by decide +kernel
theorem kT : kitB "tuple" "tuple" = some true := by decide +kernel

theorem cut_from (xs : List V) (k : Nat) : cutV xs (some (k : Int)) none = xs.drop k := by
  unfold cutV
  rw [HT.sIx_nat, HT.sIx_none]
  by_cases h : k ≤ xs.length
  · rw [Nat.min_eq_left h]
    exact List.take_of_length_le (by rw [List.length_drop]; exact Nat.le_refl _)
  · rw [Nat.min_eq_right (by omega), List.drop_of_length_le (Nat.le_refl _), List.drop_of_length_le (by omega), List.take_nil]
theorem cut_from1 (xs : List V) : cutV xs (some 1) none = xs.drop 1 := by
  unfold cutV
  rw [show HT.sIx xs.length 0 (some 1) = min 1 xs.length from HT.sIx_nat xs.length 0 1, HT.sIx_none]
  cases xs with
  | nil => rfl
  | cons x r =>
    rw [show min 1 (x :: r).length = 1 by
      rw [List.length_cons]
      omega]
    show (List.take ((x :: r).length - 1) r) = r
    rw [List.length_cons, Nat.add_sub_cancel]
    exact List.take_length
theorem big18 : (0 : Int) < 10 ^ 18 ∧ (10 : Int) ^ 18 < 2 ^ 100 := by decide
theorem cut_to (xs : List V) (k : Nat) : cutV xs none (some (k : Int)) = xs.take k := by
  unfold cutV
  rw [HT.sIx_none, HT.sIx_nat, List.drop_zero, Nat.sub_zero]
  by_cases h : k ≤ xs.length
  · rw [Nat.min_eq_left h]
  · rw [Nat.min_eq_right (by omega), List.take_of_length_le (Nat.le_refl _), List.take_of_length_le (by omega)]

theorem iteD {c A B : Prop} [Decidable c] (hc : c) (h : A) : if decide c = true then A else B := by
  rw [if_pos (decide_eq_true hc)]
  exact h
theorem iteDF {c A B : Prop} [Decidable c] (hc : ¬ c) (h : B) : if decide c = true then A else B := by
  rw [decide_eq_false hc]
  exact iteF h
/-! ### lowest terms -/
def rg (t b : Int) : Int := ((Nat.gcd t.natAbs b.natAbs : Nat) : Int)
def rd (t b : Int) : Int := if b < 0 then -(rg t b) else rg t b
def nT (t b : Int) : Int := t.fdiv (rd t b)
def nB (t b : Int) : Int := b.fdiv (rd t b)
/-- T over B is t over b in lowest terms -/
structure LowT (t b T B : Int) : Prop where
  pos : 0 < B
  eq : T * b = t * B
  leT : T.natAbs ≤ t.natAbs
  leB : B.natAbs ≤ b.natAbs
  cop : Nat.gcd T.natAbs B.natAbs = 1
theorem rg_pos {t b : Int} (h : b ≠ 0) : 0 < rg t b := by
  unfold rg
  have := Nat.gcd_pos_of_pos_right t.natAbs (Int.natAbs_pos.mpr h)
  omega
theorem rd_ne {t b : Int} (h : b ≠ 0) : rd t b ≠ 0 := by
  have := rg_pos (t := t) h
  unfold rd
  split <;> omega
theorem rd_abs (t b : Int) : (rd t b).natAbs = Nat.gcd t.natAbs b.natAbs := by
  unfold rd rg
  split <;> omega
theorem rd_dvd_t (t b : Int) : rd t b ∣ t := by
  rw [← Int.natAbs_dvd_natAbs, rd_abs]
  exact Nat.gcd_dvd_left ..
theorem rd_dvd_b (t b : Int) : rd t b ∣ b := by
  rw [← Int.natAbs_dvd_natAbs, rd_abs]
  exact Nat.gcd_dvd_right ..
theorem nT_mul {t b : Int} (h : b ≠ 0) : t = rd t b * nT t b := by
  obtain ⟨k, hk⟩ := rd_dvd_t t b
  have e : nT t b = k := by
    unfold nT
    conv => lhs; arg 1; rw [hk]
    exact Int.mul_fdiv_cancel_left k (rd_ne h)
  rw [e]
  exact hk
theorem nB_mul {t b : Int} (h : b ≠ 0) : b = rd t b * nB t b := by
  obtain ⟨k, hk⟩ := rd_dvd_b t b
  have e : nB t b = k := by
    unfold nB
    conv => lhs; arg 1; rw [hk]
    exact Int.mul_fdiv_cancel_left k (rd_ne h)
  rw [e]
  exact hk
theorem low {t b : Int} (h : b ≠ 0) : LowT t b (nT t b) (nB t b) := by
  have h1 := nT_mul (t := t) h
  have h2 := nB_mul (t := t) h
  have hg := rg_pos (t := t) h
  have hd := rd_ne (t := t) h
  have a1 : t.natAbs = (rd t b).natAbs * (nT t b).natAbs := by
    rw [← Int.natAbs_mul, ← h1]
  have a2 : b.natAbs = (rd t b).natAbs * (nB t b).natAbs := by
    rw [← Int.natAbs_mul, ← h2]
  have p : 0 < (rd t b).natAbs := Int.natAbs_pos.mpr hd
  refine ⟨?_, ?_, ?_, ?_, ?_⟩
  · by_cases hb : b < 0
    · have e : rd t b = -(rg t b) := if_pos hb
      rw [e] at h2
      by_cases hn : 0 < nB t b
      · exact hn
      · exfalso
        have : 0 ≤ -(rg t b) * nB t b := by
          rw [Int.neg_mul]
          have := Int.mul_nonneg (Int.le_of_lt hg) (show 0 ≤ -(nB t b) by omega)
          rw [Int.mul_neg] at this
          exact this
        omega
    · have e : rd t b = rg t b := if_neg hb
      rw [e] at h2
      by_cases hn : 0 < nB t b
      · exact hn
      · exfalso
        have := Int.mul_nonneg (Int.le_of_lt hg) (show 0 ≤ -(nB t b) by omega)
        rw [Int.mul_neg] at this
        omega
  · have e : nT t b * b = nT t b * (rd t b * nB t b) := congrArg (nT t b * ·) h2
    have e2 : t * nB t b = rd t b * nT t b * nB t b := congrArg (· * nB t b) h1
    rw [e, e2, ← Int.mul_assoc, Int.mul_comm (nT t b)]
  · rw [a1]
    exact Nat.le_mul_of_pos_left _ p
  · rw [a2]
    exact Nat.le_mul_of_pos_left _ p
  · have g := rd_abs t b
    rw [a1, a2, Nat.gcd_mul_left] at g
    have : (rd t b).natAbs * 1 = (rd t b).natAbs * Nat.gcd (nT t b).natAbs (nB t b).natAbs := by
      rw [Nat.mul_one]
      have e1 := congrArg Int.natAbs h1
      have e2 := congrArg Int.natAbs h2
      rw [Int.natAbs_mul] at e1 e2
      exact g
    exact (Nat.eq_of_mul_eq_mul_left p this).symm
theorem low_uniq {t b T B T' B' : Int} (hb : b ≠ 0) (h : LowT t b T B) (h' : LowT t b T' B') : T = T' ∧ B = B' := by
  have e : T * B' = T' * B := by
    have h1 : T * B' * b = T' * B * b := by
      have x1 : T * B' * b = (T * b) * B' := by rw [Int.mul_assoc, Int.mul_comm B', ← Int.mul_assoc]
      have x2 : T' * B * b = (T' * b) * B := by rw [Int.mul_assoc, Int.mul_comm B, ← Int.mul_assoc]
      rw [x1, x2, h.eq, h'.eq, Int.mul_assoc, Int.mul_assoc, Int.mul_comm B]
    exact Int.eq_of_mul_eq_mul_right hb h1
  have n : T.natAbs * B'.natAbs = T'.natAbs * B.natAbs := by
    rw [← Int.natAbs_mul, ← Int.natAbs_mul, e]
  have d1 : B.natAbs ∣ B'.natAbs := by
    have : B.natAbs ∣ T.natAbs * B'.natAbs := n ▸ Nat.dvd_mul_left ..
    exact (Nat.Coprime.symm h.cop).dvd_of_dvd_mul_left this
  have d2 : B'.natAbs ∣ B.natAbs := by
    have : B'.natAbs ∣ T'.natAbs * B.natAbs := n ▸ Nat.dvd_mul_left ..
    exact (Nat.Coprime.symm h'.cop).dvd_of_dvd_mul_left this
  have eb : B.natAbs = B'.natAbs := Nat.dvd_antisymm d1 d2
  have p := h.pos
  have p' := h'.pos
  have eB : B = B' := by omega
  subst eB
  exact ⟨Int.eq_of_mul_eq_mul_right (by omega) e, rfl⟩
/-! ### Euclid's turns -/
/-- ahead of turn i; g the greatest common divisor, the first product below 6 ^ m -/
structure Eu (g m i : Nat) (a b : Nat) : Prop where
  gc : Nat.gcd a b = g
  pot : (i = 0 ∧ a * b < 6 ^ m) ∨ (∃ j, i = 2 * j + 1 ∧ b ≤ a ∧ 0 < a ∧ a * b * 6 ^ j < 6 ^ m) ∨ (∃ j, i = 2 * j + 2 ∧ b ≤ a ∧ 0 < a ∧ (a + b) * a * 6 ^ j < 6 ^ m)
theorem eu_zero {g m i a : Nat} (h : Eu g m i a 0) : a = g := by
  have := h.gc
  rw [Nat.gcd_zero_right] at this
  exact this
theorem six_br {a b r : Nat} (h : b + r ≤ a) (hr : r ≤ b) : b * r * 6 ≤ (a + b) * a := by
  obtain ⟨c, rfl⟩ : ∃ c, b = r + c := ⟨b - r, by omega⟩
  have h1 : (r + c + r + (r + c)) * (r + c + r) ≤ (a + (r + c)) * a := Nat.mul_le_mul (by omega) h
  refine Nat.le_trans ?_ h1
  have e1 : (r + c) * r * 6 = 6 * (r * r) + 6 * (c * r) := by
    rw [Nat.add_mul]
    omega
  have e2 : (r + c + r + (r + c)) * (r + c + r) = 6 * (r * r) + 7 * (c * r) + 2 * (c * c) := by
    have : r + c + r + (r + c) = 3 * r + 2 * c := by omega
    rw [this]
    have : r + c + r = 2 * r + c := by omega
    rw [this, Nat.add_mul, Nat.mul_add, Nat.mul_add]
    have q1 : 3 * r * (2 * r) = 6 * (r * r) := by
      rw [Nat.mul_mul_mul_comm]
    have q2 : 3 * r * c = 3 * (c * r) := by
      rw [Nat.mul_assoc, Nat.mul_comm r c]
    have q3 : 2 * c * (2 * r) = 4 * (c * r) := by
      rw [Nat.mul_mul_mul_comm]
    have q4 : 2 * c * c = 2 * (c * c) := Nat.mul_assoc ..
    rw [q1, q2, q3, q4]
    omega
  omega
theorem eu_step {g m i a b : Nat} (h : Eu g m i a b) (hb : 0 < b) : Eu g m (i + 1) b (a % b) := by
  have hr : a % b < b := Nat.mod_lt a hb
  refine ⟨?_, ?_⟩
  · rw [← h.gc, Nat.gcd_comm a b, Nat.gcd_rec b a, Nat.gcd_comm]
  · rcases h.pot with ⟨rfl, p⟩ | ⟨j, rfl, hle, _, p⟩ | ⟨j, rfl, hle, _, p⟩
    · refine .inr (.inl ⟨0, by omega, by omega, hb, ?_⟩)
      rw [Nat.pow_zero, Nat.mul_one]
      refine Nat.lt_of_le_of_lt ?_ p
      rw [Nat.mul_comm]
      exact Nat.mul_le_mul_right _ (Nat.mod_le a b)
    · refine .inr (.inr ⟨j, by omega, by omega, hb, ?_⟩)
      refine Nat.lt_of_le_of_lt (Nat.mul_le_mul_right _ ?_) p
      have e := Nat.div_add_mod a b
      have q : 1 ≤ a / b := Nat.div_pos hle hb
      have : b * 1 ≤ b * (a / b) := Nat.mul_le_mul_left b q
      exact Nat.mul_le_mul (by omega) (Nat.le_refl b)
    · refine .inr (.inl ⟨j + 1, by omega, by omega, hb, ?_⟩)
      refine Nat.lt_of_le_of_lt ?_ p
      have e := Nat.div_add_mod a b
      have q : 1 ≤ a / b := Nat.div_pos hle hb
      have q2 : b * 1 ≤ b * (a / b) := Nat.mul_le_mul_left b q
      have s := six_br (a := a) (b := b) (r := a % b) (by omega) (by omega)
      rw [Nat.pow_succ, Nat.mul_comm (6 ^ j) 6, ← Nat.mul_assoc]
      exact Nat.mul_le_mul_right _ s
theorem eu_end {g m n a b : Nat} (h : Eu g m (2 * n + 2) a b) (hm : m ≤ n) : False := by
  rcases h.pot with ⟨h0, _⟩ | ⟨j, hj, _⟩ | ⟨j, hj, _, ha, p⟩
  · omega
  · omega
  · have e : j = n := by omega
    subst e
    have h1 : 1 * 6 ^ m ≤ (a + b) * a * 6 ^ j := Nat.mul_le_mul (Nat.mul_pos (by omega) ha) (Nat.pow_le_pow_right (by decide) hm)
    omega
open NdefX (NScope ncx startF CellsAt inv_startN)
open ClX (pin_new pin_at base_none unpinE)

/-! ### own classes and errors: rules that the layer lacks -/
section
variable {X : Cx}
/-- a field's read, its K by another name -/
theorem pe_fldK {K : PySem.W.Frag} {e : Expr} {f : Str} {pos : Pos} {ta : TE} (he : PE X e ta) (hb : attributeBase e f X.env (eval e X.env) = eval e X.env) (hK : X.K = K := by rfl) : PE X (.Attribute e f pos) (tFld K ta f) := by
  subst hK
  exact pe_fld he hb
/-- floor division by a divisor of either sign -/
def CDivWN (_ j : Int) : Prop := j ≠ 0 ∧ j.natAbs.log2 < 9000
theorem op_fdivWN : OpR X (binaryOp .FloorDiv) (rI CDivWN fun i j => .int (i.fdiv j)) := opI fun _ _ _ _ _ _ _ c k => floordiv_int c.1 k (.inl (PyProof.noPylong_of_log2 c.2))
/-- a new instance whose __init__ may let an error out, wished for at the slots that stand -/
theorem made_at {CX : CXT} {n : Nat} {g D : Addr} {gd : FuncData} {qs : List Str} {pr : Sp} {Ex : L2.St → XK} {us0 : List Value} {vs0 : List V} {pn : List (Addr × Obj)} {τ : L2.St} {H0 : Hp} {st : Shared} {W : VK} {as : List Value} {xs : List V}
    (MK : Mk X.K D g) (OK : FnOk X.prog X.w X.K X.mg X.base CX n g gd qs pr) (room : Room (n + 1) X.A) (bd : Binds X.K gd qs us0) (dv : Vals vs0 us0) (out : PassesAt CX X τ (Ex τ)) (J : Inv X pn τ H0 st) (rel : Vals xs as)
    (go : ∀ p q, H0 p = none → H0 q = none → q ≠ p → pr (.ref p :: (xs ++ vs0)) (upd (upd H0 q (.own p)) p (.ins D q [])) (fun v H2 => v = .non ∧ W (.ref p) H2) (Ex τ)) :
    wpAny (model X.prog X.w) X.A (call (.ref D) as) (EP X pn τ W) X.xe st := by
  have new1 := J.hok.fresh (Nat.le_succ st.heap.objs.size)
  have new2 := J.hok.fresh (Nat.le_refl st.heap.objs.size)
  have asked := go _ _ new1 new2 (Nat.ne_of_lt (Nat.lt_succ_self _))
  have J2 := Inv.made (C := D) J
  have rel2 : Vals (V.ref (st.heap.objs.size + 1) :: (xs ++ vs0)) (Value.ref (st.heap.objs.size + 1) :: (as ++ us0)) :=
    .cons rfl (rel.append dv)
  have len2 : (Value.ref (st.heap.objs.size + 1) :: as ++ us0).length = qs.length := (rel2.length.symm).trans (OK.len _ _ _ _ asked)
  have env2 := J2.env0.make D as []
  have bound := bd _ (Value.ref (st.heap.objs.size + 1) :: as) J2.kIn len2
  have ran := OK.run _ X.stack _ _ _ _ _ _ (Ex τ) (room.make D as []) env2 bound rel2 asked
  refine wpAny_call (make_map (f := g) J.kIn MK.makes MK.init (beq_iff_eq.mp MK.fn) (codeAny_mono ran ?_))
  rintro (e | fl) s' back
  · exact out pn _ _ e s' J2 back
  · cases fl with
    | ret u =>
      obtain ⟨v, H', J3, rv, rfl, w3⟩ := J2.after back
      exact ⟨rv, V.ref (st.heap.objs.size + 1), _, J3, rfl, w3⟩
    | next => exact back.elim
    | brk => exact back.elim
    | cont => exact back.elim
def tMakeS (D : Addr) (pr : Sp) (vs0 : List V) (Ex : L2.St → XK) (t : TA) : TE := fun τ H Q => t τ H fun xs H1 => ∀ p q, H1 p = none → H1 q = none → q ≠ p →
  pr (.ref p :: (xs ++ vs0)) (upd (upd H1 q (.own p)) p (.ins D q [])) (fun v H2 => v = .non ∧ Q (.ref p) H2) (Ex τ)
theorem pe_makeS {CX : CXT} {n : Nat} {g D : Addr} {gd : FuncData} {qs : List Str} {pr : Sp} {Ex : L2.St → XK} {us0 : List Value} {vs0 : List V} {x : Str} {p pos : Pos} {e : Expr} {es : List Expr} {t : TA}
    (MK : Mk X.K D g) (OK : FnOk X.prog X.w X.K X.mg X.base CX n g gd qs pr) (room : Room (n + 1) X.A) (gl : Gl X x) (at_ : X.mg x = some (.ref D)) (bd : Binds X.K gd qs us0) (dv : Vals vs0 us0) (out : ∀ τ, PassesAt CX X τ (Ex τ)) (args : PA X (e :: es) t)
    (plain : (x == ("__debug__" : Str)) = false := by decide) (first : starEach (e :: es) X.env = (false, eval e X.env) :: starEach es X.env := by rfl) (noStar : (backTo pos (starEach es X.env)).any (·.1) = false := by rfl) :
    PE X (.Call (.Name x p) (e :: es) [] pos) (tMakeS D pr vs0 Ex t) :=
  ⟨fun pn s τ H Q J h => wpAny_Call_Name_kw (ld_glob J gl at_ (PySem.W.callWith_K (h₀ := X.base) J.ok.mod.kin MK.kp (thn (args.run pos pn s τ H _ J h) fun _ _ ⟨_, _, J1, rel, go⟩ => ⟨J1.kIn, made_at MK OK room bd dv (out τ) J1 rel go⟩) first noStar) plain)⟩
/-- isinstance(e, c) in a suite, e the error that it holds (of an own class at D, without a dict of its own) -/
def rIsX (K : PySem.W.Frag) (a : Addr) (cls : Value) (d : Option Addr) : List V → Hp → VK → Prop := fun xs H Q => ∃ D : Addr, ExcC K D ∧ cls = .ref D ∧ d = none ∧ rIsE K D a xs H Q
theorem call_isX {K : PySem.W.Frag} {a : Addr} {cls : Value} {d : Option Addr} {oe : Obj} {pn : List (Addr × Obj)} (hz : Zc cls d oe) (hf : ∃ vs, oe.data = .fields vs) (hK : X.K = K := by rfl) :
    CallR (X.suite a ((a, oe) :: pn)) (.builtin "isinstance") (rIsX K a cls d) := by
  intro pins s σ H xs us Q I r h
  subst hK
  obtain ⟨D, ec, rfl, rfl, h⟩ := h
  exact call_isE ec hz hf pins s σ H xs us Q I r h
end
theorem lk_one {k : Str} {v : V} {r : List (Str × V)} : List.lookup k ((k, v) :: r) = some v := by
  simp [List.lookup]
theorem lk_two {k g : Str} {v : V} {r : List (Str × V)} (h : (k == g) = false) : List.lookup k ((g, v) :: r) = List.lookup k r := by
  simp only [List.lookup, h]

/-! ### super().__init__(e, ..) as a method's first statement -/
theorem inst_of' {X : Cx} {pins : List (Addr × Obj)} {σ : L2.St} {H : Hp} {s : Shared} {a C dx : Addr} {fs : List (Str × V)} (I : Inv X pins σ H s) (e : H a = some (.ins C dx fs)) :
    s.heap.get? a = some (PySem.W.instObj C dx) ∧ ∃ od, PySem.W.InstAt s.heap a (PySem.W.instObj C dx) C (some od) := by
  obtain ⟨mA, O, _⟩ := ins_get I.hok e
  obtain ⟨od, J, _⟩ := O.look
  exact ⟨O.obj, od, J⟩
/-- what the top has written of a class D above which super() looks, for an instance of the class C: the function g at the name -/
structure SupC (K : PySem.W.Frag) (mg : Str → Option Value) (C D cc cda g : Addr) (file : Str) : Prop where
  isD : ∃ cd, PySem.W.clsIn K D = some cd
  sub : PySem.W.mroIn K C (.ref D) = some true
  cell : ∃ cl cld csl, K.lookup cc = some ⟨cl, cld, .cell (some (.ref D)), csl⟩
  code : ∃ ccl cdd vs ccs tf, K.lookup cda = some ⟨ccl, cdd, .fields vs, ccs⟩ ∧ vs[2]? = some (.str file tf)
  sup : PySem.W.ks_superIn K C D "__init__" = some (some (.ref g))
  tg : PySem.W.typeIn K (.ref g) = some (.type "function")
  fg : PySem.W.fnIn K g = true
  opq : PySem.W.nsIn K cStatics "thirdparty.any" = some none
  nosup : mg "super" = none
section
variable {CX : CXT} {P : Program} {w : World} {K : PySem.W.Frag} {mg : Str → Option Value} {base : Heap} {k j : Nat} {f g cc cda C D : Addr} {name qual : Str} {params : Arguments} {scope : Scope} {dV kV doc pm ct oc : Value} {an od : Option Addr}
  {osl : Array (Option Value)} {N ps qs : List Str} {sp si : Sp} {gd : FuncData} {e : Expr} {es : List Expr} {rest : List Stmt} {p0 p1 p2 p3 p4 : Pos} {ar : Arg} {pl : Sem Bool}
abbrev supSt (p0 p1 p2 p3 p4 : Pos) (es : List Expr) : Stmt := .Expr (.Call (.Attribute (.Call (.Name "super" p0) [] [] p1) "__init__" p2) es [] p3) p4
theorem fn_super {file : Str} (lk : K.lookup f = some ⟨oc, od, .func (PySem.W.ksFn name qual params (supSt p0 p1 p2 p3 p4 (e :: es) :: rest) scope dV kV doc pm an (.ref cda) ct cc), osl⟩) (hcd : PySem.W.codeIn K (.ref cda) qual = true) (S : NScope N ps ["__class__"] scope)
    (SC : SupC K mg C D cc cda g file) (hfile : ((P.main.file : Str) == file) = true) (htop : (P.main.scope.names.lookup ("super" : Str)).isSome = false) (hpar : (params.posonlyargs ++ params.args).head? = some ar) (hN : N[0]? = some ar.arg) (hka : scope.names.lookup ar.arg = some .local)
    (hks : scope.names.lookup ("super" : Str) = some .globalImplicit) (hkc : scope.names.lookup ("__class__" : Str) = some .free)
    (len : ∀ vs H Q E, sp vs H Q E → vs.length = ps.length) (G : FnOk P w K mg base CX j g gd qs si) (bd : Binds K gd qs []) (hj : j ≤ k)
    (hi : ∀ L, interactive (PySem.W.ksEnv qual scope L f (.ref cda) cc) = false)
    (hsw : ∀ L, swapsWith (.Call (.Attribute (.Call (.Name "super" p0) [] [] p1) "__init__" p2) (e :: es) [] p3) none p4.line (PySem.W.ksEnv qual scope L f (.ref cda) cc) = pure false)
    (hev : ∀ L, eval (.Call (.Attribute (.Call (.Name "super" p0) [] [] p1) "__init__" p2) (e :: es) [] p3) (PySem.W.ksEnv qual scope L f (.ref cda) cc) = (do
      let ov ← attributeBase (.Call (.Name "super" p0) [] [] p1) "__init__" (PySem.W.ksEnv qual scope L f (.ref cda) cc) (eval (.Call (.Name "super" p0) [] [] p1) (PySem.W.ksEnv qual scope L f (.ref cda) cc))
      standAt p2.atName
      let (f', first) ← holding [ov] (getMethod ov "__init__" pl)
      callWith p3 f' first (backTo p3 (starEach (e :: es) (PySem.W.ksEnv qual scope L f (.ref cda) cc))) []))
    (hst : ∀ L, starEach (e :: es) (PySem.W.ksEnv qual scope L f (.ref cda) cc) = (false, eval e (PySem.W.ksEnv qual scope L f (.ref cda) cc)) :: starEach es (PySem.W.ksEnv qual scope L f (.ref cda) cc))
    (hpl : ∀ L, (backTo p3 (starEach es (PySem.W.ksEnv qual scope L f (.ref cda) cc))).any (·.1) = false)
    (hbody : ∀ (A : Around) (outer : List Env) (s : Shared) (H : Hp) (vs : List V) (Q : VK) (E : XK), Room k (A.deeper (PySem.W.ksEnv qual scope s.heap.objs.size f (.ref cda) cc)) → sp vs H Q E →
      ∃ (ta : TA) (tr : TS) (a dx : Addr) (fs : List (Str × V)) (us0 : List V) (Ei : XK),
        PA (ncx CX P w K mg base N ⟨name, qual, params, supSt p0 p1 p2 p3 p4 (e :: es) :: rest, scope, [("__class__", cc)], cda⟩ f A outer s H E) (e :: es) ta ∧
        PSs (ncx CX P w K mg base N ⟨name, qual, params, supSt p0 p1 p2 p3 p4 (e :: es) :: rest, scope, [("__class__", cc)], cda⟩ f A outer s H E) rest tr ∧
        Passes CX (ncx CX P w K mg base N ⟨name, qual, params, supSt p0 p1 p2 p3 p4 (e :: es) :: rest, scope, [("__class__", cc)], cda⟩ f A outer s H E) Ei ∧ vs = .ref a :: us0 ∧ H a = some (.ins C dx fs) ∧
        ta (startF N vs [none]) H (fun ws H1 => si (.ref a :: ws) H1 (fun _ H2 => tr { nx := fun _ H' => Q .non H', rt := Q } (startF N vs [none]) H2) Ei)) :
    FnOk P w K mg base CX (k + 1) f (PySem.W.ksFn name qual params (supSt p0 p1 p2 p3 p4 (e :: es) :: rest) scope dV kV doc pm an (.ref cda) ct cc) ps sp := by
  refine ⟨len, fun A outer s H args us vs Q E hr e0 hb r asked => ?_⟩
  have hl := len _ _ _ _ asked
  have kb : ∀ b o, base.get? b = some o → s.heap.get? b = some o := fun b o z => (e0.bs b o z).1
  have KX : K.In s.heap := e0.mod.kin.keeps kb
  have lim : s.heap.NoLimit := e0.mod.nolimit.keeps kb
  obtain ⟨cl, cld, csl, hcell⟩ := SC.cell
  obtain ⟨ccl, cdd, fv, ccs, tf, hcode, hfv⟩ := SC.code
  obtain ⟨cdD, hD⟩ := SC.isD
  have C0 : CellsAt [("__class__", cc)] ["__class__"] [none] s.heap H := by
    refine ⟨rfl, fun y c z => ?_, fun y z c h1 h2 => ?_, fun i y z => ?_⟩
    · have hc : c = cc := by
        simp only [List.lookup] at z
        split at z
        · exact (Option.some.inj z).symm
        · cases z
      subst hc
      exact ⟨(e0.bs _ _ (e0.mod.kin _ _ hcell)).2, _, _, KX _ _ hcell, rfl⟩
    · have one : ∀ {t : Str}, [(("__class__" : Str), cc)].lookup t = some c → t = "__class__" := fun {t} h => by
        simp only [List.lookup] at h
        split at h
        · exact beq_iff_eq.mp (by assumption)
        · cases h
      rw [one h1, one h2]
    · have hy : y = "__class__" := by
        cases i with
        | zero => simpa using z.symm
        | succ n => simp at z
      subst hy
      exact ⟨cc, rfl, fun v h => by cases i <;> simp at h⟩
  refine ks_codeAny_call_defAt (fd := PySem.W.ksFn name qual params (supSt p0 p1 p2 p3 p4 (e :: es) :: rest) scope dV kV doc pm an (.ref cda) ct cc) (body := supSt p0 p1 p2 p3 p4 (e :: es) :: rest) (binds := ps.zip us) hr.depth (KX _ _ lk) rfl lim (PySem.W.codeRec_of KX hcd) rfl hb S.nocell (fun ⟨n, _⟩ hy => S.par n (List.of_mem_zip hy).1) (fun h₁ hns kp => ?_) S.co S.gen S.kind
  obtain ⟨ta, tr, a, dx, fs, us0, Ei, hpa, hps, hpass, ev, ha, hq⟩ := hbody A outer s H vs Q E (hr.deeper _) asked
  subst ev
  have I : Inv (ncx CX P w K mg base N ⟨name, qual, params, supSt p0 p1 p2 p3 p4 (e :: es) :: rest, scope, [("__class__", cc)], cda⟩ f A outer s H E) [] (startF N (.ref a :: us0) [none]) H { s with heap := h₁, toks := s.toks + (ps.zip us).length } := inv_startN (F := ⟨name, qual, params, supSt p0 p1 p2 p3 p4 (e :: es) :: rest, scope, [("__class__", cc)], cda⟩) S hr.hd e0 hl r C0 hns kp
  generalize hX : ncx CX P w K mg base N ⟨name, qual, params, supSt p0 p1 p2 p3 p4 (e :: es) :: rest, scope, [("__class__", cc)], cda⟩ f A outer s H E = X at I hpa hps hpass
  have hXr := hX
  subst hX
  have rm := hr.deeper (PySem.W.ksEnv qual scope s.heap.objs.size f (.ref cda) cc)
  show PySem.wpAt (model P w) (A.deeper (PySem.W.ksEnv qual scope s.heap.objs.size f (.ref cda) cc)) (.func (supSt p0 p1 p2 p3 p4 (e :: es) :: rest) (PySem.W.ksEnv qual scope s.heap.objs.size f (.ref cda) cc)) (execs (supSt p0 p1 p2 p3 p4 (e :: es) :: rest) (PySem.W.ksEnv qual scope s.heap.objs.size f (.ref cda) cc)) _ _ _
  refine ks_wpAt_execs_cons (ks_wpAt_Expr_any (ks_wpAt_MethodCall (pl := pl) ?_ (hev _)) (hi _) (hsw _))
  have KI := I.kIn
  refine ks_wpAt_super_base (env := PySem.W.ksEnv qual scope s.heap.objs.size f (.ref cda) cc) hks hkc (by decide) rfl (KI _ _ lk) rfl hpar rfl (KI _ _ hcode) rfl hfv hfile htop ?_
  obtain ⟨mb, hb1, hb2⟩ := I.mod.blt
  refine PySem.W.ks_loadName_global S.kind hks (Calls.loadGlobal_builtin (env := PySem.W.ksEnv qual scope s.heap.objs.size f (.ref cda) cc) (I.mod.glob.keeps I.bk) SC.nosup (hb1.keeps I.bk) ((hb2 "super" (by decide)).trans (by rfl)) ⟨rfl, ?_⟩)
  refine wpAny_loadName_free S.kind hkc rfl ⟨_, KI _ _ hcell, rfl⟩ ?_
  obtain ⟨m, hn, hl'⟩ := I.loc
  obtain ⟨u, ru, lku⟩ := hl' 0 ar.arg (.ref a) hN rfl (.inl hka)
  cases (show u = Value.ref a from ru)
  have hmu : m ar.arg = some (.ref a) := by
    rcases lku with ⟨_, z⟩ | ⟨z, _⟩
    · exact z
    · have hk' : scope.names.lookup ar.arg = some .cell ∨ scope.names.lookup ar.arg = some .free := z
      rw [hka] at hk'
      rcases hk' with z | z <;> cases z
  refine wpAny_loadName_local S.kind hka hn hmu ?_
  obtain ⟨oD, hD1, hD2⟩ : ∃ oD, h₁.get? D = some oD ∧ oD.data = .cls cdD := by
    unfold PySem.W.clsIn at hD
    split at hD
    · rename_i c d cd' sl ho
      cases hD
      exact ⟨_, KI _ _ ho, rfl⟩
    · cases hD
  refine ks_wpAny_isType_cls hD1 hD2 (And.intro rfl ?_)
  obtain ⟨hoa, oda, J⟩ := inst_of' I ha
  refine ks_wpAny_call_super hD1 hD2 J.at_ J.cls (fun c z => ?_) (PySem.W.looks_mroIn KI SC.sub) (fun h2 e2 k2 => ?_)
  · have := J.no
    unfold PySem.W.notCls at this
    rw [z] at this
    exact Bool.noConfusion this
  have I2 := I.kept (h' := h2) (t' := s.toks + (ps.zip us).length) k2
  have K2 := I2.kIn
  obtain ⟨hoa2, oda2, J2⟩ := inst_of' I2 ha
  have sup := SC.sup
  unfold PySem.W.ks_superIn at sup
  cases hc : PySem.W.clsIn K C with
  | none => rw [hc] at sup; cases sup
  | some cdC =>
  rw [hc] at sup
  obtain ⟨og, hog, hogc⟩ : ∃ og, h2.get? g = some og ∧ og.cls = .type "function" := by
    have ht' : (K.lookup g).map (·.cls) = some (.type "function") := SC.tg
    cases z : K.lookup g with
    | none =>
      rw [z] at ht'
      cases ht'
    | some og =>
      rw [z] at ht'
      exact ⟨og, K2 _ _ z, Option.some.inj ht'⟩
  refine ks_wpAny_getMethod_super e2 (PySem.W.looks_opaque K2 SC.opq) (l₀ := cdC.mro) (fun A Q E s k q => wpAny_bind ((PySem.W.looks_clsIn K2 hc) A _ E s k (wpAny_pure q))) rfl K2 sup hog hogc (PySem.W.ks_ne K2 J2 hc) (by decide) ?_
  have I3 : Inv (ncx CX P w K mg base N ⟨name, qual, params, supSt p0 p1 p2 p3 p4 (e :: es) :: rest, scope, [("__class__", cc)], cda⟩ f A outer s H E) [(h2.objs.size, PySem.W.methodObj (.ref g) (.ref a))] (startF N (.ref a :: us0) [none]) H ⟨h2.push (PySem.W.methodObj (.ref g) (.ref a)), s.gens, s.drawn, s.toks + (ps.zip us).length + 1, s.os⟩ :=
    pin_new (s := ⟨h2, s.gens, s.drawn, s.toks + (ps.zip us).length, s.os⟩) I2 (fun _ _ z => Heap.get?_push_of_some _ z) (Nat.le_refl _) (Heap.get?_push_size h2 rfl) (fun v z => nomatch z)
  have hbq : base.get? h2.objs.size = none := base_none I2 (Nat.le_refl _)
  have hL : h2.objs.size ≠ s.heap.objs.size := (I3.pin (h2.objs.size, PySem.W.methodObj (.ref g) (.ref a)) (List.mem_append_right _ List.mem_cons_self)).2.2.1
  refine PySem.W.callWith_M (K := K) (h₀ := base) (first := []) e0.mod.kin (news_at hL hbq (pin_at I3)) List.mem_cons_self SC.fg ?_ (hst _) (hpl _)
  refine wpAny_mono (hpa.run p3 _ _ _ H _ I3 hq) (fun ws s4 h4 => ?_) fun _ _ z => z
  obtain ⟨vs4, H4, I4, r4, q4⟩ := h4
  refine ⟨⟨pin_at I4, I4.kIn⟩, ?_⟩
  have lenq : (Value.ref a :: ws).length = qs.length := by
    have z := G.len _ _ _ _ q4
    rw [← z, List.length_cons, List.length_cons, r4.length]
  have bound := bd s4 (Value.ref a :: ws) I4.kIn (by rw [List.append_nil]; exact lenq)
  rw [List.append_nil] at bound
  have rm' : Room k (A.deeper (PySem.W.ksEnv qual scope s.heap.objs.size f (.ref cda) cc)) := hr.deeper _
  refine wpAny_mono (Q := fun u s' => EP (ncx CX P w K mg base N ⟨name, qual, params, supSt p0 p1 p2 p3 p4 (e :: es) :: rest, scope, [("__class__", cc)], cda⟩ f A outer s H E) [(h2.objs.size, PySem.W.methodObj (.ref g) (.ref a))] (startF N (.ref a :: us0) [none]) (fun _ H2 => tr { nx := fun _ H' => Q .non H', rt := Q } (startF N (.ref a :: us0) [none]) H2) u s')
    (wpAny_call (PySem.W.method_call (pin_at I4) (codeAny_mono (G.run _ _ s4 H4 ⟨Value.ref a :: ws, []⟩ (Value.ref a :: ws) (.ref a :: vs4) _ Ei (rm'.mono hj) I4.env0 bound (.cons rfl r4) q4) fun rr s' back => ?_))) (fun u s5 h5 => ?_) fun _ _ z => z
  · cases rr with
    | error er => exact hpass _ _ _ _ er s' I4 back
    | ok fl =>
      cases fl with
      | ret u => exact I4.after back
      | next => exact back.elim
      | brk => exact back.elim
      | cont => exact back.elim
  · obtain ⟨v5, H5, I5, _, q5⟩ := unpinE h5
    refine PySem.wpAt_of_wpAny ?_
    refine wpAny_mono (hps.run [] _ _ H5 _ I5 q5) (fun fl s' hs => ?_) fun er s' hs => hs
    have last : ∀ {τ : L2.St} {G' : Hp} {x : V} {y : Value}, Inv (ncx CX P w K mg base N ⟨name, qual, params, supSt p0 p1 p2 p3 p4 (e :: es) :: rest, scope, [("__class__", cc)], cda⟩ f A outer s H E) [] τ G' s' → L2.RelV x y → Q x G' → CE outer P w H s Q y s' :=
      fun {_ G' x _} Z rel z => ⟨x, G', Z.os, Z.bare, Z.base, Z.hok, rel, z⟩
    cases fl with
    | next =>
      obtain ⟨_, _, Z, z⟩ := hs
      exact last (x := V.non) (y := Value.none) Z rfl z
    | ret y =>
      obtain ⟨_, _, _, Z, rel, z⟩ := hs
      exact last Z rel z
    | brk => exact hs.elim fun _ ⟨_, _, z⟩ => z.elim
    | cont => exact hs.elim fun _ ⟨_, _, z⟩ => z.elim
end
/-- such a method as the top has written it: cc the cell of its class, cda its code -/
def FunS (K : PySem.W.Frag) (name qual : Str) (st : Stmt) (cc cda f : Addr) (fd : FuncData) : Prop :=
  (∃ (oc : Value) (od : Option Addr) (kV doc pm : Value) (an : Option Addr) (ct : Value) (osl : Array (Option Value)), fd = PySem.W.ksFn name qual (defArgs st) (defBody st) (defScope st) .none kV doc pm an (.ref cda) ct cc ∧
    K.lookup f = some ⟨oc, od, .func fd, osl⟩ ∧ PySem.W.codeIn K (.ref cda) qual = true) ∧ PySem.W.keepIn K (.ref f) = true
theorem FunS.binds {K : PySem.W.Frag} {name qual : Str} {st : Stmt} {cc cda f : Addr} {fd : FuncData} {ps : List Str} (F : FunS K name qual st cc cda f fd)
    (h : ∀ (kV doc pm : Value) (an : Option Addr) (ct : Value) (us : List Value), us.length = ps.length → bindArgs (PySem.W.ksFn name qual (defArgs st) (defBody st) (defScope st) .none kV doc pm an (.ref cda) ct cc) ⟨us, []⟩ = pure (ps.zip us)) : Binds K fd ps [] := by
  obtain ⟨⟨oc, od, kV, doc, pm, an, ct, osl, rfl, _, _⟩, _⟩ := F
  exact .all (h kV doc pm an ct)

/-! ### isinstance of a caught error, with or without fields -/
section
variable {X : Cx}
def rIsY (K : PySem.W.Frag) (a : Addr) (cls : Value) (d : Option Addr) : List V → Hp → VK → Prop := fun xs H Q => ∃ D : Addr, ExcC K D ∧ cls = .ref D ∧ (d = none ∨ ∃ dd fs, d = some dd ∧ H dd = some (.xd fs)) ∧ rIsE K D a xs H Q
theorem call_isY {K : PySem.W.Frag} {a : Addr} {cls : Value} {d : Option Addr} {oe : Obj} {pn : List (Addr × Obj)} (hz : Zc cls d oe) (hf : ∃ vs, oe.data = .fields vs) (hK : X.K = K := by rfl) :
    CallR (X.suite a ((a, oe) :: pn)) (.builtin "isinstance") (rIsY K a cls d) := by
  intro pins s σ H xs us Q I r h
  subst hK
  obtain ⟨D, ec, rfl, hd, h⟩ := h
  rcases hd with rfl | ⟨dd, fs, rfl, hdd⟩
  · exact call_isE ec hz hf pins s σ H xs us Q I r h
  · obtain ⟨c, cv, b, rfl, same, known, q⟩ := h
    obtain ⟨w1, ws, rfl, r1, rs⟩ : ∃ w1 ws, us = w1 :: ws ∧ RelV (.ref a) w1 ∧ Vals [c] ws := by
      cases r with
      | cons p t => exact ⟨_, _, rfl, p, t⟩
    obtain ⟨w2, rfl, r2⟩ : ∃ w2, ws = [w2] ∧ RelV c w2 := by
      cases rs with
      | cons p t =>
        cases t
        exact ⟨_, rfl, p⟩
    cases (show w1 = Value.ref a from r1)
    cases same _ r2
    obtain ⟨there, _⟩ := I.pin (a, oe) (List.mem_append.mpr (.inl List.mem_cons_self))
    obtain ⟨vs, hv⟩ := hf
    obtain ⟨mA, ns, _⟩ := (show ObjOk X.prog X.w H s.heap dd (.xd fs) from I.hok dd _ hdd)
    obtain ⟨od, ho, _⟩ := lookIn_ns ns
    have J : PySem.W.InstAt s.heap a oe D (some od) := ⟨there, hz.1, by unfold PySem.W.notCls; rw [hv] <;> rfl, by rw [hz.2]; exact ho⟩
    have cl : (PySem.W.clsIn X.K D).isSome = true := by
      obtain ⟨cd, hc, _⟩ := PySem.W.any_some ec.hd
      rw [hc]
      rfl
    exact PySem.W.kia_one (PySem.W.kitx_exc cl ec.hg ec.hk ec.hs ec.ha ec.hn ec.ht ec.hm) I.kIn J known (fun z => nomatch z) fun tk => ⟨.bl b, H, I.kept (t' := tk) fun _ _ z => z, rfl, q⟩
end

/-! ### try with several «except C as n» -/
/-- what the clauses wish of an error, one after the other: class, the name's slot, the suite's reading -/
def wAsM (K : PySem.W.Frag) (out : WX) (D : Ends) : List (Value × Nat × (Addr → Value → Option Addr → TS)) → WX
  | [] => out
  | (c, i, t) :: more => fun cls d σ H => ∃ b, PySem.W.exmOne K cls c = some b ∧
      (b = true → ∀ a, H a = none → t a cls d { nx := fun σ' H' => D.nx (σ'.set i none) H', rt := D.rt, bk := fun σ' H' => D.bk (σ'.set i none) H', ct := fun σ' H' => D.ct (σ'.set i none) H' } (σ.set i (some (.ref a))) H) ∧
      (b = false → wAsM K out D more cls d σ H)
inductive ClausesOk (X : Cx) : List ExceptHandler → List (Value × Nat × (Addr → Value → Option Addr → TS)) → Prop
  | nil : ClausesOk X [] []
  | cons {x n : Str} {c : Value} {i : Nat} {t : Addr → Value → Option Addr → TS} {st : Stmt} {sts : List Stmt} {q q' : Pos} {hs : List ExceptHandler} {ls : List (Value × Nat × (Addr → Value → Option Addr → TS))} (known : Names X x c) (slot : X.N[i]? = some n)
      (lo : X.env.kindOf n = some .local) (suite : ∀ (a : Addr) (oe : Obj) (cls : Value) (d : Option Addr) (pn : List (Addr × Obj)), Zc cls d oe → (∃ vs, oe.data = .fields vs) → PSs (X.suite a ((a, oe) :: pn)) (st :: sts) (t a cls d))
      (more : ClausesOk X hs ls) : ClausesOk X (.ExceptHandler (some (.Name x q)) (some n) (st :: sts) q' :: hs) ((c, i, t) :: ls)
  | bare {x : Str} {c : Value} {i : Nat} {t : Addr → Value → Option Addr → TS} {st : Stmt} {sts : List Stmt} {q q' : Pos} {hs : List ExceptHandler} {ls : List (Value × Nat × (Addr → Value → Option Addr → TS))} (known : Names X x c) (off : X.N.length ≤ i)
      (suite : ∀ (a : Addr) (oe : Obj) (cls : Value) (d : Option Addr) (pn : List (Addr × Obj)), Zc cls d oe → (∃ vs, oe.data = .fields vs) → PSs (X.suite a ((a, oe) :: pn)) (st :: sts) (t a cls d))
      (more : ClausesOk X hs ls) : ClausesOk X (.ExceptHandler (some (.Name x q)) none (st :: sts) q' :: hs) ((c, i, t) :: ls)
section
variable {X : Cx} {body : List Stmt} {h1 : ExceptHandler} {hs : List ExceptHandler} {ls : List (Value × Nat × (Addr → Value → Option Addr → TS))} {pos : Pos} {tb : WX → TS} {out : WX}
theorem ps_try_asM (st : X.stack = X.env :: X.outer) (fr : X.env.frame = some X.env.locals) (nd : X.N.Nodup) (tk : Takes X out)
    (runs : ∀ (W : WX) (pn : List (Addr × Obj)) (xe : Value → Shared → Prop), Takes (X.tr pn xe) W → PassesOwn (model X.prog X.w) X.A X.env xe → PSs (X.tr pn xe) body (tb W))
    (cl : ClausesOk X (h1 :: hs) ls) : PS X (.Try body (h1 :: hs) [] [] pos) (fun D σ H => tb (wAsM X.K out D ls) D σ H) := by
  refine ⟨fun pins s σ H D I want => ?_⟩
  have ok := I.ok
  have frames : X.A.frames = some (X.env :: X.outer) := by rw [ok.frames, st]
  refine wpAny_Try_except ?_
  refine wpAny_mono ((runs (wAsM X.K out D ls) (X.pn ++ pins) (fun u t1 => wpAny (model X.prog X.w) X.A (noteFrame u X.env) (fun _ t2 => wpAny (model X.prog X.w) X.A (setFlight u none)
    (fun _ t3 => wpAny (model X.prog X.w) X.A (handleBy u X.env (h1 :: hs)) (SP X pins D) X.xe t3) X.xe t2) X.xe t1) (fun u t0 flown => ?_) PassesOwn.looking).run [] s σ H D (I.toTry _) want) (fun f t0 done => ?_) (fun _ _ y => y)
  · obtain ⟨a, B, sI, pins1, σ1, H1, cls, d, rfl, J0, bare, kept, sky, fresh, osE, agree, wish⟩ := flown
    have J : Inv X pins σ1 H1 sI := J0.ofTry ok
    have sky1 : Sky B (X.env :: X.outer) a (Zc cls d) X.env.locals t0.heap := st ▸ sky
    show wpAny (model X.prog X.w) X.A (noteFrame (.ref a) X.env) _ X.xe t0
    refine Sky.land Zc.steady frames fr sky1 fun g fl up => ?_
    obtain ⟨oe, vs, atE, zE, dataE⟩ := fl.there
    have outF : a ∉ frs (X.env :: X.outer) := fun mem => by
      obtain ⟨_, o, here, no⟩ := fl.2.2.1.mem mem
      cases atE.symm.trans here
      exact no _ dataE
    have nL : a ≠ X.env.locals := fun z => outF (List.mem_filterMap.mpr ⟨X.env, List.mem_cons_self, by rw [fr, z]⟩)
    have nF : a ∉ X.fs := fun mem => outF (by
      obtain ⟨e, m1, m2⟩ := List.mem_filterMap.mp mem
      exact List.mem_filterMap.mpr ⟨e, List.mem_cons_of_mem _ m1, m2⟩)
    have J1 : Inv X pins σ1 H1 { t0 with heap := g } := J.landed bare fl.1 (kept.trans up) osE agree
    have S1 := J1.suite atE dataE fresh nL nF
    have go : ∀ {hh : List ExceptHandler} {ll : List (Value × Nat × (Addr → Value → Option Addr → TS))}, ClausesOk X hh ll → wAsM X.K out D ll cls d σ1 H1 → wpAny (model X.prog X.w) X.A (handleBy (.ref a) X.env hh) (SP X pins D) X.xe { t0 with heap := g } := by
      intro hh ll cc
      induction cc with
      | nil =>
        intro fly
        refine wpAny_handleBy_nil ?_
        obtain ⟨_, _, _, o, ws, T, oT, ts, g1, g2, g3, g4, _⟩ := id fl
        unfold PySem.passOn
        refine wpAny_bind (wpAny_field g1 g3 g4 ?_)
        rw [if_neg (by simp : ¬ ((Value.ref T == Value.none) = true))]
        have on : wpAny (model X.prog X.w) X.A (setFlight (.ref a) X.env.frame) (fun _ t4 => wpAny (model X.prog X.w) X.A (throw (.ref a) : Sem Flow) (SP X pins D) X.xe t4) X.xe { t0 with heap := g } := by
          rw [fr]
          exact HandSPX.setFlight_upZ fl fun g' sky' up' => wpAny_throw (tk _ _ ⟨a, B, sI, pins, σ1, H1, cls, d, rfl, J, bare, (kept.trans up).trans up', .inr (.inr (by rw [st]; exact sky')), fresh, osE, agree, fly⟩)
        first
          | exact wpAny_bind (wpAny_pure (wpAny_bind on))
          | exact wpAny_bind on
      | @cons x n c i t b₀ bs q q' hs' ls' known slot lo suite more ih =>
        intro w1
        obtain ⟨b, asked, yes, no⟩ := w1
        refine wpAny_handleBy_cons (codeAny_handlers_test ?_) (fun z => by cases z)
        have typ : PySem.W.Looks (model X.prog X.w) g (typeOf (.ref a)) cls := fun _ _ _ _ k z => wpAny_typeOf_ref (k _ _ atE) (by rw [zE.1]; exact z)
        have name : ∀ {Q : Value → Shared → Prop} {E : Value → Shared → Prop}, Q c { t0 with heap := g } → wpAny (model X.prog X.w) (X.A.mark (some (.ref a))) (eval (.Name x q) X.env) Q E { t0 with heap := g } := fun {Q E} z => by
          obtain ⟨k1, k2, k3 | ⟨k3, k4, k5⟩⟩ := known
          · exact ld_glob (X := X.suite a ((a, oe) :: (X.pn ++ pins))) S1 k1 k3 z k2
          · exact ld_blt (X := X.suite a ((a, oe) :: (X.pn ++ pins))) S1 k1 k3 k4 z k5 k2
        refine name ((PySem.W.exm_one (M := model X.prog X.w) J1.kIn typ asked).here ?_)
        cases b with
        | false => exact ih (no rfl)
        | true =>
          refine codeAny_handlers_suite_as (HandSPX.lands_againZ fl fun g' fl' up' => ?_)
          obtain ⟨oe', ws, atE', zE', dataE'⟩ := fl'.there
          have J2 : Inv X pins σ1 H1 { t0 with heap := g' } := J.landed bare fl'.1 ((kept.trans up).trans up') osE agree
          have S2 := J2.suite atE' dataE' fresh nL nF
          refine store_ok (X := X.suite a ((a, oe') :: (X.pn ++ pins))) (v := .ref a) S2 nd slot (.inl lo) rfl (fun t5 S5 => ?_) (.inr lo)
          refine wpAny_mono ((suite a oe' cls d (X.pn ++ pins) zE' ⟨_, dataE'⟩).run [] t5 _ H1 _ S5 (yes rfl a fresh)) (fun f t6 done => ?_) (fun _ _ z => z.elim)
          have gone : ∀ {σ6 : L2.St} {H6 : Hp} {Q : Shared → Prop}, Inv (X.suite a ((a, oe') :: (X.pn ++ pins))) [] σ6 H6 t6 → (∀ t7, Inv X pins (σ6.set i none) H6 t7 → Q t7) →
              wpAny (model X.prog X.w) X.A (do bindName X.env n .none; unbindBehindTheSuite X.env n q') (fun _ t7 => Q t7) X.xe t6 := fun S6 z => gone_ok (S6.unsuite ok) nd slot lo z
          cases f with
          | ret u =>
            obtain ⟨v6, σ6, H6, S6, r6, q6⟩ := done
            exact gone S6 fun _ J7 => ⟨_, _, _, J7, r6, q6⟩
          | next =>
            obtain ⟨_, _, S6, q6⟩ := done
            exact gone S6 fun _ J7 => ⟨_, _, J7, q6⟩
          | brk =>
            obtain ⟨_, _, S6, q6⟩ := done
            exact gone S6 fun _ J7 => ⟨_, _, J7, q6⟩
          | cont =>
            obtain ⟨_, _, S6, q6⟩ := done
            exact gone S6 fun _ J7 => ⟨_, _, J7, q6⟩
      | @bare x c i t b₀ bs q q' hs' ls' known off suite more ih =>
        intro w1
        obtain ⟨b, asked, yes, no⟩ := w1
        refine wpAny_handleBy_cons (codeAny_handlers_test ?_) (fun z => by cases z)
        have typ : PySem.W.Looks (model X.prog X.w) g (typeOf (.ref a)) cls := fun _ _ _ _ k z => wpAny_typeOf_ref (k _ _ atE) (by rw [zE.1]; exact z)
        have name : ∀ {Q : Value → Shared → Prop} {E : Value → Shared → Prop}, Q c { t0 with heap := g } → wpAny (model X.prog X.w) (X.A.mark (some (.ref a))) (eval (.Name x q) X.env) Q E { t0 with heap := g } := fun {Q E} z => by
          obtain ⟨k1, k2, k3 | ⟨k3, k4, k5⟩⟩ := known
          · exact ld_glob (X := X.suite a ((a, oe) :: (X.pn ++ pins))) S1 k1 k3 z k2
          · exact ld_blt (X := X.suite a ((a, oe) :: (X.pn ++ pins))) S1 k1 k3 k4 z k5 k2
        refine name ((PySem.W.exm_one (M := model X.prog X.w) J1.kIn typ asked).here ?_)
        cases b with
        | false => exact ih (no rfl)
        | true =>
          refine codeAny_handlers_suite (HandSPX.lands_againZ fl fun g' fl' up' => ?_)
          obtain ⟨oe', ws, atE', zE', dataE'⟩ := fl'.there
          have J2 : Inv X pins σ1 H1 { t0 with heap := g' } := J.landed bare fl'.1 ((kept.trans up).trans up') osE agree
          have S2 := J2.suite atE' dataE' fresh nL nF
          have w2 := yes rfl a fresh
          have l1 : σ1.length = X.N.length := J2.len
          rw [List.set_eq_of_length_le (by omega)] at w2
          refine wpAny_mono ((suite a oe' cls d (X.pn ++ pins) zE' ⟨_, dataE'⟩).run [] _ _ H1 _ S2 w2) (fun f t6 done => ?_) (fun _ _ z => z.elim)
          have off6 : ∀ {σ6 : L2.St} {H6 : Hp}, Inv (X.suite a ((a, oe') :: (X.pn ++ pins))) [] σ6 H6 t6 → σ6.set i none = σ6 := fun {σ6 _} S6 => by
            have l6 : σ6.length = X.N.length := S6.len
            exact List.set_eq_of_length_le (by omega)
          cases f with
          | ret u =>
            obtain ⟨v6, σ6, H6, S6, r6, q6⟩ := done
            exact ⟨_, _, _, S6.unsuite ok, r6, q6⟩
          | next =>
            obtain ⟨σ6, H6, S6, q6⟩ := done
            have q6 : D.nx (σ6.set i none) H6 := q6
            rw [off6 S6] at q6
            exact ⟨_, _, S6.unsuite ok, q6⟩
          | brk =>
            obtain ⟨σ6, H6, S6, q6⟩ := done
            have q6 : D.bk (σ6.set i none) H6 := q6
            rw [off6 S6] at q6
            exact ⟨_, _, S6.unsuite ok, q6⟩
          | cont =>
            obtain ⟨σ6, H6, S6, q6⟩ := done
            have q6 : D.ct (σ6.set i none) H6 := q6
            rw [off6 S6] at q6
            exact ⟨_, _, S6.unsuite ok, q6⟩
    exact go cl wish
  · cases f with
    | ret u =>
      obtain ⟨v, _, _, J1, r1, q1⟩ := done
      exact ⟨v, _, _, J1.ofTry ok, r1, q1⟩
    | next =>
      obtain ⟨_, _, J1, q1⟩ := done
      exact wpAny_execs_nil ⟨_, _, J1.ofTry ok, q1⟩
    | brk =>
      obtain ⟨_, _, J1, q1⟩ := done
      exact ⟨_, _, J1.ofTry ok, q1⟩
    | cont =>
      obtain ⟨_, _, J1, q1⟩ := done
      exact ⟨_, _, J1.ofTry ok, q1⟩
end

/-! ### errors of two fields -/
/-- the heap behind C(x, y), where __init__ stores both -/
def errH (H : Hp) (a C dx : Addr) (f g : Str) (x y : V) : Hp := upd (upd (upd H dx (exd dx [(f, x)])) a (exo a C (some dx))) dx (exd dx [(g, y), (f, x)])
theorem raise2 {C : Addr} {f g : Str} {x y : V} {H : Hp} {Q : XK} (hq : ∀ d, H d = none → Q (.ref C) (some d) (upd H d (.xd [(g, y), (f, x)]))) {a dx : Addr} (na : H a = none) (nd : upd H a (exo a C none) dx = none) (ne : dx ≠ a) :
    V.non = .non ∧ ∃ (d : Addr) (fs : List (Str × V)), errH (upd H a (exo a C none)) a C dx f g x y a = some (exo a C (some d)) ∧ errH (upd H a (exo a C none)) a C dx f g x y d = some (exd d fs) ∧ H d = none ∧
      Q (.ref C) (some d) (upd (del (errH (upd H a (exo a C none)) a C dx f g x y) a) d (.xd fs)) := by
  rw [upd_ne ne] at nd
  refine ⟨rfl, dx, _, ?_, upd_same, nd, ?_⟩
  · unfold errH
    rw [upd_ne (Ne.symm ne), upd_same]
  · have e : upd (del (errH (upd H a (exo a C none)) a C dx f g x y) a) dx (.xd [(g, y), (f, x)]) = upd H dx (.xd [(g, y), (f, x)]) := by
      funext b
      by_cases h1 : b = dx
      · rw [h1, upd_same, upd_same]
      · rw [upd_ne h1, upd_ne h1]
        by_cases h2 : b = a
        · rw [h2, del_same, na]
        · rw [del_ne h2]
          unfold errH
          rw [upd_ne h1, upd_ne h2, upd_ne h1, upd_ne h2]
    rw [e]
    exact hq dx nd
/-- the first weight below 1, from place i on -/
def badAt : List Int → Nat → Option Nat
  | [], _ => none
  | n :: r, i => if n < 1 then some i else badAt r (i + 1)

/-- the fields of a Weighted -/
def fW (m aside : Int) (t : Addr) : List (Str × V) := putF "aside" (.int aside) (putF "weights" (.ref t) (putF "many" (.int m) []))
/-- nothing but the object at p is another -/
def SameX (p : Addr) (H H' : Hp) : Prop := ∀ b o, b ≠ p → H b = some o → H' b = some o
theorem SameX.trans {p : Addr} {H H' H2 : Hp} (h : SameX p H H') (k : SameX p H' H2) : SameX p H H2 := fun b o n z => k b o n (h b o n z)
theorem SameX.new {p : Addr} {H : Hp} {a : Addr} {o : HO} (n : H a = none) : SameX p H (upd H a o) := fun b u _ z => (upd_ne (ne_of_none z n)).trans z
theorem SameX.put {p : Addr} {H : Hp} {o : HO} : SameX p H (upd H p o) := fun b u n z => (upd_ne n).trans z

/-- the first number below b, from place i on -/
def lowAt (b : Int) : List Int → Nat → Option Nat
  | [], _ => none
  | n :: r, i => if n < b then some i else lowAt b r (i + 1)
theorem low_bad : ∀ (ns : List Int) (i : Nat), lowAt 1 ns i = badAt ns i
  | [], _ => rfl
  | n :: r, i => by
    unfold lowAt badAt
    rw [low_bad r (i + 1)]

theorem same_sx {p : Addr} {H H' : Hp} (h : Same H H') : SameX p H H' := fun b o _ z => h b o z
theorem dp_ints {K : PySem.W.Frag} {H : Hp} {a : Addr} {ns : List Int} (h : SqL K H a (ns.map V.int)) : Dp K H (.ref a) (.list (ns.map PyData.int)) := by
  refine .lst h ?_
  clear h
  induction ns with
  | nil => exact .nil
  | cons n r ih => exact .cons (.int n) ih
theorem depthAll_ints : ∀ ns : List Int, PyData.depthAll (ns.map PyData.int) = 0
  | [] => rfl
  | n :: r => by
    show max (PyData.depth (.int n)) (PyData.depthAll (r.map PyData.int)) = 0
    rw [depthAll_ints r]
    rfl
theorem depth_ints (ns : List Int) : PyData.depth (.list (ns.map PyData.int)) = 1 := by
  show PyData.depthAll (ns.map PyData.int) + 1 = 1
  rw [depthAll_ints]
theorem lay_ints : ∀ ns : List Int, PyData.canLayAll0 (ns.map PyData.int) = true
  | [] => rfl
  | _ :: r => (Bool.true_and _).trans (lay_ints r)
/-- what is due for these weights and this number -/
inductive Due | many (m : Nat) | num (k : Nat) | aside | made
def dueW (ns : List Int) (aside : Int) : Due := if ns.length > 24 then .many ns.length else match badAt ns 0 with
  | some k => .num k
  | none => if aside < 1 then .aside else .made
def Due.due : Due → List V
  | .many m => [.str "many", .int m, .int 24]
  | .num k => [.str "number", .str "weights", .int k]
  | .aside => [.str "number", .str "aside", .non]
  | .made => [.str "made", .int 0, .int 0]
def Due.told : Due → List V
  | .many m => [.str "many", .int m, .int 24, .bl false]
  | .num k => [.str "number", .str "weights", .int k, .bl false]
  | .aside => [.str "number", .str "aside", .non, .bl false]
  | .made => []
theorem due_many {ns : List Int} {a : Int} (h : ns.length > 24) : dueW ns a = .many ns.length := if_pos h
theorem due_num {ns : List Int} {a : Int} {k : Nat} (h : ¬ ns.length > 24) (hb : badAt ns 0 = some k) : dueW ns a = .num k := by
  unfold dueW
  rw [if_neg h, hb]
theorem due_aside {ns : List Int} {a : Int} (h : ¬ ns.length > 24) (hb : badAt ns 0 = none) (ha : a < 1) : dueW ns a = .aside := by
  unfold dueW
  rw [if_neg h, hb]
  exact if_pos ha
theorem due_made {ns : List Int} {a : Int} (h : ¬ ns.length > 24) (hb : badAt ns 0 = none) (ha : ¬ a < 1) : dueW ns a = .made := by
  unfold dueW
  rw [if_neg h, hb]
  exact if_neg ha
theorem sameX_made {C x dx : Addr} {H H' : Hp} (nx : H x = none) (nd : H dx = none) (k : SameX x (upd (upd H dx (.own x)) x (.ins C dx [])) H') : Same H H' := fun b o e => by
  have h1 : b ≠ x := ne_of_none e nx
  have h2 : b ≠ dx := ne_of_none e nd
  exact k b o h1 (by rw [upd_ne h1, upd_ne h2]; exact e)
theorem fW_weights (m a : Int) (t : Addr) : (fW m a t).lookup ("weights" : Str) = some (V.ref t) := by rfl
theorem fW_aside (m a : Int) (t : Addr) : (fW m a t).lookup ("aside" : Str) = some (V.int a) := by rfl

/-! ### a Ratio in the heap -/
def rF (T B : Int) : List (Str × V) := [("top", .int T), ("bottom", .int B)]
def RatAt (C : Addr) (H : Hp) (p : Addr) (T B : Int) : Prop := ∃ dx, H p = some (.ins C dx (rF T B))
theorem rF_top (T B : Int) : (rF T B).lookup ("top" : Str) = some (.int T) := lk_one
theorem rF_bot (T B : Int) : (rF T B).lookup ("bottom" : Str) = some (.int B) := (lk_two (by decide +kernel)).trans lk_one
theorem rF_new (T B : Int) : putF "bottom" (.int B) (putF "top" (.int T) []) = rF T B := by
  show (if ("top" : Str) = "bottom" then _ else _) = _
  rw [if_neg (by decide +kernel)]
  rfl
theorem RatAt.same {C : Addr} {H H' : Hp} {p : Addr} {T B : Int} (s : Same H H') (h : RatAt C H p T B) : RatAt C H' p T B := by
  obtain ⟨dx, h⟩ := h
  exact ⟨dx, s _ _ h⟩
/-- not too long to divide by -/
def Sm (b : Int) : Prop := ∃ n, 0 < n ∧ n ≤ 8000 ∧ b.natAbs < 2 ^ n
theorem sm_of {b : Int} {n : Nat} (h : b.natAbs < 2 ^ n) (h0 : 0 < n := by decide) (hn : n ≤ 8000 := by decide) : Sm b := ⟨n, h0, hn, h⟩
theorem Sm.le {a b : Int} (h : Sm b) (hl : a.natAbs ≤ b.natAbs) : Sm a := by
  obtain ⟨n, h0, h1, h2⟩ := h
  exact ⟨n, h0, h1, Nat.lt_of_le_of_lt hl h2⟩
theorem Sm.log {a : Int} (h : Sm a) : a.natAbs.log2 < 8000 := by
  obtain ⟨n, h0, h1, h2⟩ := h
  exact Nat.lt_of_lt_of_le (PySem.Flt.log2_lt_of h0 h2) h1
theorem Sm.mul {a b : Int} (h : Sm a) (h' : Sm b) : CMulW a b := by
  have x := h.log
  have y := h'.log
  unfold CMulW
  omega
theorem rd_div {t b : Int} (h : b ≠ 0) (hs : Sm b) (i : Int) : CDivWN i (rd t b) := by
  refine ⟨rd_ne h, ?_⟩
  have h1 : (rd t b).natAbs ≤ b.natAbs := by
    rw [rd_abs]
    exact Nat.gcd_le_right _ (Int.natAbs_pos.mpr h)
  exact Nat.lt_of_lt_of_le (hs.le h1).log (by decide)

/-! ### numbers: a Ratio or an int -/
def NumAt (C : Addr) (H : Hp) (y : V) (T B : Int) : Prop := (∃ q, y = .ref q ∧ RatAt C H q T B) ∨ (y = .int T ∧ B = 1)
theorem RatAt.num {C : Addr} {H : Hp} {p : Addr} {T B : Int} (h : RatAt C H p T B) : NumAt C H (.ref p) T B := .inl ⟨p, rfl, h⟩
theorem NumAt.same {C : Addr} {H H' : Hp} {y : V} {T B : Int} (s : Same H H') (h : NumAt C H y T B) : NumAt C H' y T B := by
  rcases h with ⟨q, e, r⟩ | h
  · exact .inl ⟨q, e, r.same s⟩
  · exact .inr h
/-- what the operator rules ask of the second operand -/
theorem NumAt.arg {C : Addr} {H : Hp} {y : V} {T B : Int} (h : NumAt C H y T B) : (∃ b dy gs, y = .ref b ∧ H b = some (.ins C dy gs)) ∨ ∃ n, y = .int n := by
  rcases h with ⟨q, rfl, dx, e⟩ | ⟨rfl, _⟩
  · exact .inl ⟨q, dx, _, rfl, e⟩
  · exact .inr ⟨T, rfl⟩
theorem RatAt.self {C : Addr} {H : Hp} {p : Addr} {T B : Int} (h : RatAt C H p T B) : ∃ a dx fs, (V.ref p : V) = .ref a ∧ H a = some (.ins C dx fs) := by
  obtain ⟨dx, e⟩ := h
  exact ⟨p, dx, _, rfl, e⟩
theorem low_any {t b T B : Int} (hb : b ≠ 0) (pos : 0 < B) (cop : Nat.gcd T.natAbs B.natAbs = 1) (eq : T * b = t * B) : LowT t b T B := by
  have n : T.natAbs * b.natAbs = t.natAbs * B.natAbs := by
    rw [← Int.natAbs_mul, ← Int.natAbs_mul, eq]
  have d1 : B.natAbs ∣ b.natAbs := by
    have : B.natAbs ∣ T.natAbs * b.natAbs := n ▸ Nat.dvd_mul_left ..
    exact (Nat.Coprime.symm cop).dvd_of_dvd_mul_left this
  have d2 : T.natAbs ∣ t.natAbs := by
    have : T.natAbs ∣ t.natAbs * B.natAbs := n ▸ Nat.dvd_mul_right ..
    exact Nat.Coprime.dvd_of_dvd_mul_right cop this
  refine ⟨pos, eq, ?_, Nat.le_of_dvd (Int.natAbs_pos.mpr hb) d1, cop⟩
  rcases Nat.eq_zero_or_pos t.natAbs with z | z
  · rw [z, Nat.zero_mul] at n
    rcases Nat.mul_eq_zero.mp n with h | h
    · omega
    · exact absurd h (by have := Int.natAbs_pos.mpr hb; omega)
  · exact Nat.le_of_dvd z d2
theorem low_int (n : Int) : LowT n 1 n 1 := ⟨by decide, rfl, Nat.le_refl _, Nat.le_refl _, by simp⟩
theorem LowT.to {t b t' b' T B : Int} (h : LowT t b T B) (hb : b ≠ 0) (hb' : b' ≠ 0) (e : t * b' = t' * b) : LowT t' b' T B := by
  refine low_any hb' h.pos h.cop ?_
  have q := h.eq
  have : b * (T * b') = b * (t' * B) := by grind
  exact Int.eq_of_mul_eq_mul_left hb this
/-! ### operators of an own class -/
section
variable {prog : Program} {w : World} {A : Around} {E : Value → Shared → Prop} {s : Shared} {K : PySem.W.Frag}
/-- an int's own operator declines an instance -/
theorem declines_bin {id nm : String} {name : Str} {g : Int → Int → Sem Fin} {n : Int} {t : Tok} {a C dx : Addr} {Q : Value → Shared → Prop} (ha : s.heap.get? a = some (PySem.W.instObj C dx)) (slot : Slot "int" name id)
    (entry : entryFor table id = some (Builtin.Int.intBinary nm g)) (args : argsOk id ⟨[.int n t, .ref a], []⟩) (h : Q .notImplemented s) :
    wpAny (model prog w) A (call (.builtin id) [.int n t, .ref a]) Q E s := by
  refine GQ.call_here slot (by first | exact rfl | trivial) entry args ?_
  have e1 : slotArgs nm 1 ⟨[.int n t, .ref a], []⟩ = pure (.int n t, [.ref a]) := rfl
  have e2 : Builtin.Int.intOfSelf (.int n t) = pure n := rfl
  unfold Builtin.Int.intBinary
  rw [e1]
  refine wpAny_bind (wpAny_pure ?_)
  dsimp only
  rw [e2]
  refine wpAny_bind (wpAny_pure ?_)
  refine wpAny_bind ?_
  show wpAny (model prog w) A.in1 (asInt? (.ref a)) _ _ s
  unfold asInt?
  refine wpAny_bind (wpAny_load ha ?_)
  refine wpAny_pure ?_
  refine wpAny_bind (wpAny_rule ?_)
  exact wpAny_pure h
end
section
variable {prog : Program} {w : World} {A : Around} {E : Value → Shared → Prop} {s : Shared} {K : PySem.W.Frag}
/-- n op a: the int's own operator declines, then a's reflected one is asked -/
theorem bin_refl {op : Operator} {id nm : String} {g : Int → Int → Sem Fin} {n : Int} {t : Tok} {a C dx f : Addr} {od : Option Obj} {Q : Value → Shared → Prop} (X : K.In s.heap) (ha : s.heap.get? a = some (PySem.W.instObj C dx)) (J : PySem.W.InstAt s.heap a (PySem.W.instObj C dx) C od)
    (first : PySem.W.selfFirst K C = true) (slot : Slot "int" (dunder op.info.2) id) (entry : entryFor table id = some (Builtin.Int.intBinary nm g)) (args : argsOk id ⟨[.int n t, .ref a], []⟩)
    (fillI : fillsNumberSlot (.type "int") op.info.2 = pure true) {f0 : Addr} (own : PySem.W.findIn K (.ref C) (dunder op.info.2) = some (some (.ref f0))) (sub : PySem.W.subIn K (.ref C) (.type "int") = some false)
    (hr : PySem.W.findIn K (.ref C) (dunderR op.info.2) = some (some (.ref f))) (hf : PySem.W.isFn K (.ref f) = true)
    (h : wpAny (model prog w) A (call (.ref f) [.ref a, .int n t]) (PySem.W.CmpBack Q) E s) : wpAny (model prog w) A (binaryOp op (.int n t) (.ref a)) Q E s := by
  obtain ⟨cd, rest, hcd, hm⟩ := PySem.W.ksp_first first
  have back := PySem.W.ksp_try X J hr hf h
  rcases hi : op.info with ⟨sym, nm'⟩
  rw [hi] at slot fillI own hr back
  dsimp only at slot fillI own hr back
  have f1 : PySem.W.Looks (model prog w) s.heap (fillsNumberSlot (.ref C) nm') true := PySem.W.fills_K X hcd hm own
  have ne : (Value.type "int" == Value.ref C) = false := Bool.eq_false_iff.mpr fun z => by cases beq_iff_eq.mp z
  unfold binaryOp
  refine wpAny_holding ?_
  simp only [hi]
  refine wpAny_bind ?_
  unfold binaryOp1
  refine wpAny_bind (wpAny_typeOf (T := "int") (by exact rfl) (wpAny_bind (J.type.here (wpAny_bind (wpAny_of_eq fillI ?_)))))
  simp only [ne, Bool.false_eq_true, if_false]
  refine wpAny_bind (f1.here ?_)
  simp only [Bool.and_self, if_true]
  refine wpAny_bind ((PySem.W.looks_subIn X sub).here ?_)
  have hpy : numberSlotInPython (.type "int") nm' = pure false := rfl
  simp only [Bool.false_eq_true, if_false, pure_bind, Bool.not_false, Bool.and_self, if_true, hpy]
  refine wpAny_bind (wpAny_tryMethod_declines (T := "int") (by exact rfl) slot (declines_bin ha slot entry args ⟨rfl, ?_⟩))
  dsimp only
  refine wpAny_bind (wpAny_mono back (fun r s' z => ?_) fun _ _ z => z)
  obtain ⟨v, rfl, q⟩ := z
  exact wpAny_bind (wpAny_rule (wpAny_pure (wpAny_pure q)))
end
section
variable {X : Cx} {CX : CXT} {k : Nat} {f C : Addr} {fd : FuncData} {ps : List Str} {sp : Sp} {ds : List Value} {E : XK}
theorem ep_back {pins : List (Addr × Obj)} {σ : L2.St} {Q : VK} {u : Value} {s' : Shared} (h : EP X pins σ Q u s') : PySem.W.CmpBack (EP X pins σ Q) u s' := by
  obtain ⟨v, H', J, r, q⟩ := h
  cases u <;> first
    | exact ⟨v, H', J, r, q⟩
    | (exfalso; cases v <;> first | (obtain ⟨_, z⟩ := r; cases z) | cases r)
/-- x op y by the class's own operator; y an instance of the class, or an int -/
def rOwn (C : Addr) (sp : Sp) (E : XK) : R2 := fun x y H Q => (∃ a dx fs, x = .ref a ∧ H a = some (.ins C dx fs)) ∧ ((∃ b dy gs, y = .ref b ∧ H b = some (.ins C dy gs)) ∨ ∃ n, y = .int n) ∧ sp [x, y] H Q E
/-- n op a by the class's reflected operator -/
def rRef (C : Addr) (sp : Sp) (E : XK) : R2 := fun x y H Q => (∃ n, x = .int n) ∧ (∃ a dx fs, y = .ref a ∧ H a = some (.ins C dx fs)) ∧ sp [y, x] H Q E
theorem inst_of {pins : List (Addr × Obj)} {σ : L2.St} {H : Hp} {s : Shared} {a C dx : Addr} {fs : List (Str × V)} (I : Inv X pins σ H s) (e : H a = some (.ins C dx fs)) :
    s.heap.get? a = some (PySem.W.instObj C dx) ∧ ∃ od, PySem.W.InstAt s.heap a (PySem.W.instObj C dx) C (some od) := by
  obtain ⟨mA, O, _⟩ := ins_get I.hok e
  obtain ⟨od, J, _⟩ := O.look
  exact ⟨O.obj, od, J⟩
theorem op_own {op : Operator} {fo ro rc : Option Value} (M : Meth X.K C (dunder op.info.2) f) (first : PySem.W.selfFirst X.K C = true) (hr : PySem.W.findIn X.K (.ref C) (dunderR op.info.2) = some rc) (hp : rc = none ∨ ∃ g : Addr, rc = some (.ref g))
    (h1 : PySem.W.findIn X.K (.type "int") (dunder op.info.2) = some fo) (h2 : PySem.W.findIn X.K (.type "int") (dunderR op.info.2) = some ro) (hsub : PySem.W.subIn X.K (.type "int") (.ref C) = some false)
    (G : FnOk X.prog X.w X.K X.mg X.base CX k f fd ps sp) (room : Room k X.A) (bd : Binds X.K fd ps []) (out : Passes CX X E) : OpR X (binaryOp op) (rOwn C sp E) := by
  intro pins s σ H x y v u Q I rx ry h
  obtain ⟨⟨a, dx, fs, rfl, ha⟩, hy, h⟩ := h
  cases (show v = Value.ref a from rx)
  obtain ⟨_, od, J⟩ := inst_of I ha
  obtain ⟨m, F⟩ := I.fr
  have ran : wpAny (model X.prog X.w) X.A (call (.ref f) [.ref a, u]) (PySem.W.CmpBack (EP X pins σ Q)) X.xe s :=
    wpAny_mono (run_fn (ds := []) G room bd .nil out I (.cons (show L2.RelV (.ref a) (.ref a) from rfl) (.cons ry .nil)) h) (fun _ _ z => ep_back z) fun _ _ z => z
  rcases hy with ⟨b, dy, gs, rfl, hb⟩ | ⟨n, rfl⟩
  · cases (show u = Value.ref b from ry)
    obtain ⟨_, od', J'⟩ := inst_of I hb
    exact PySem.W.binop_K F I.ok.mod.kin J J'.type first M.at_ M.fn ran
  · obtain ⟨t, rfl⟩ := (show ∃ t, u = Value.int n t from ry)
    exact PySem.W.ksp_binT F I.ok.mod.kin J (T := "int") rfl first M.at_ M.fn hr hp h1 h2 hsub ran
theorem op_ref {op : Operator} {id nm : String} {g : Int → Int → Sem Fin} {f0 : Addr} (M : Meth X.K C (dunderR op.info.2) f) (first : PySem.W.selfFirst X.K C = true) (own : PySem.W.findIn X.K (.ref C) (dunder op.info.2) = some (some (.ref f0)))
    (sub : PySem.W.subIn X.K (.ref C) (.type "int") = some false) (slot : Slot "int" (dunder op.info.2) id) (entry : entryFor table id = some (Builtin.Int.intBinary nm g)) (args : ∀ a b, argsOk id ⟨[a, b], []⟩) (fillI : fillsNumberSlot (.type "int") op.info.2 = pure true)
    (G : FnOk X.prog X.w X.K X.mg X.base CX k f fd ps sp) (room : Room k X.A) (bd : Binds X.K fd ps []) (out : Passes CX X E) : OpR X (binaryOp op) (rRef C sp E) := by
  intro pins s σ H x y v u Q I rx ry h
  obtain ⟨⟨n, rfl⟩, ⟨a, dx, fs, rfl, ha⟩, h⟩ := h
  cases (show u = Value.ref a from ry)
  obtain ⟨t, rfl⟩ := (show ∃ t, v = Value.int n t from rx)
  obtain ⟨ho, od, J⟩ := inst_of I ha
  have ran : wpAny (model X.prog X.w) X.A (call (.ref f) [.ref a, .int n t]) (PySem.W.CmpBack (EP X pins σ Q)) X.xe s :=
    wpAny_mono (run_fn (ds := []) G room bd .nil out I (.cons (show L2.RelV (.ref a) (.ref a) from rfl) (.cons rx .nil)) h) (fun _ _ z => ep_back z) fun _ _ z => z
  exact bin_refl I.kIn ho J first slot entry (args _ _) fillI own sub M.at_ M.fn ran
/-- -a -/
def rNeg (C : Addr) (sp : Sp) (E : XK) : V → Hp → VK → Prop := fun x H Q => (∃ a dx fs, x = .ref a ∧ H a = some (.ins C dx fs)) ∧ sp [x] H Q E
theorem un_own (M : Meth X.K C "__neg__" f) (G : FnOk X.prog X.w X.K X.mg X.base CX k f fd ps sp) (room : Room k X.A) (bd : Binds X.K fd ps []) (out : Passes CX X E) : UnR X (unaryOp .USub) (rNeg C sp E) := by
  intro pins s σ H x v Q I rx h
  obtain ⟨⟨a, dx, fs, rfl, ha⟩, h⟩ := h
  cases (show v = Value.ref a from rx)
  obtain ⟨_, od, J⟩ := inst_of I ha
  obtain ⟨m, F⟩ := I.fr
  exact PySem.W.ksp_neg F I.ok.mod.kin J M.at_ M.fn (run_fn (ds := []) G room bd .nil out I (.cons (show L2.RelV (.ref a) (.ref a) from rfl) .nil) h)
end
section
variable {X : Cx} {CX : CXT} {k : Nat} {f C : Addr} {fd : FuncData} {ps : List Str} {sp : Sp} {ds : List Value} {E : XK}
/-- abs(a) by the class's own -/
def rAbsO (C : Addr) (sp : Sp) (E : XK) : List V → Hp → VK → Prop := fun xs H Q => ∃ a dx fs, xs = [.ref a] ∧ H a = some (.ins C dx fs) ∧ sp [.ref a] H Q E
/-- a def called where the frames are X's, one room further in -/
theorem run_in {B : Around} {pins : List (Addr × Obj)} {σ : L2.St} {H : Hp} {s : Shared} {Q : VK} {us : List Value} {vs : List V} (G : FnOk X.prog X.w X.K X.mg X.base CX k f fd ps sp) (room : Room k B) (fr : B.frames = X.A.frames) (bd : Binds X.K fd ps []) (out : Passes CX X E)
    (I : Inv X pins σ H s) (rel : Vals vs us) (h : sp vs H Q E) : wpAny (model X.prog X.w) B (call (.ref f) us) (EP X pins σ Q) X.xe s := by
  have n : us.length = ps.length := rel.length.symm.trans (G.len _ _ _ _ h)
  have bound := bd s us I.kIn (by rw [List.append_nil]; exact n)
  rw [List.append_nil] at bound
  have env := I.env0
  refine wpAny_call (codeAny_mono (G.run B X.stack s H ⟨us, []⟩ us vs Q E room ⟨fr.trans env.frames, env.mod, env.bs, env.bsz, env.funs, env.frf, env.hok, env.bare⟩ bound rel h) ?_)
  rintro (e | fl) s' back
  · exact out pins σ H s e s' I back
  · cases fl with
    | ret u => exact I.after back
    | next => exact back.elim
    | brk => exact back.elim
    | cont => exact back.elim
theorem call_absO (M : Meth X.K C "__abs__" f) (G : FnOk X.prog X.w X.K X.mg X.base CX k f fd ps sp) (room : Room (k + 1) X.A) (bd : Binds X.K fd ps []) (out : Passes CX X E) : CallR X (.builtin "abs") (rAbsO C sp E) := by
  intro pins s σ H xs us Q I r h
  obtain ⟨a, dx, fs, rfl, ha, h⟩ := h
  obtain ⟨u, rfl, rx⟩ := vals1 r
  cases (show u = Value.ref a from rx)
  obtain ⟨_, od, J⟩ := inst_of I ha
  refine PySem.Calls.call_function_entry PyProof.Rows.kind_abs PyProof.Rows.plain_abs PyProof.Rows.entry_abs (PyProof.Rows.args_abs _) ?_
  unfold Builtin.«abs»
  refine wpAny_bind (m := oneArg "abs" _) (wpAny_pure ?_)
  refine wpAny_bind (PySem.W.special_fn I.kIn J M.at_ (beq_iff_eq.mp M.fn) ?_)
  refine wpAny_mono (run_in (B := X.A.in1) G room.in1 rfl bd out I (.cons (show L2.RelV (.ref a) (.ref a) from rfl) .nil) h) (fun v s' z => ?_) fun _ _ z => z
  exact wpAny_pure ⟨_, rfl, z⟩
end

/-! ### methods and operators that may let an error out, wished for at the slots that stand -/
section
variable {X : Cx} {CX : CXT} {k : Nat} {f C : Addr} {fd : FuncData} {ps : List Str} {sp : Sp} {Ex : L2.St → XK}
def tMethT (C : Addr) (m : Str) (sp : Sp) (Ex : L2.St → XK) (ta : TE) (t : TA) : TE := fun τ H Q => ta τ H fun x H1 => ∃ a dx fs, x = .ref a ∧ H1 a = some (.ins C dx fs) ∧ fs.lookup m = none ∧ t τ H1 fun vs H2 => sp (.ref a :: vs) H2 Q (Ex τ)
theorem pe_methT {pl : Sem Bool} {m : Str} {o e : Expr} {es : List Expr} {apos pos : Pos} {ta : TE} {t : TA} (ho : PE X o ta) (c : Cls X.K C) (M : Meth X.K C m f) (G : FnOk X.prog X.w X.K X.mg X.base CX k f fd ps sp) (room : Room k X.A) (bd : Binds X.K fd ps [])
    (out : ∀ τ, PassesAt CX X τ (Ex τ)) (args : PA X (e :: es) t) (hst : starEach (e :: es) X.env = (false, eval e X.env) :: starEach es X.env := by rfl) (hpl : (backTo pos (starEach es X.env)).any (·.1) = false := by rfl)
    (ht : eval (.Call (.Attribute o m apos) (e :: es) [] pos) X.env = (do
      let w0 ← eval o X.env
      standAt apos.atName
      let (fn, fst) ← holding [w0] (getMethod w0 m pl)
      callWith pos fn fst (backTo pos (starEach (e :: es) X.env)) (backToKw pos (keywordEach [] X.env))) := by rfl) :
    PE X (.Call (.Attribute o m apos) (e :: es) [] pos) (tMethT C m sp Ex ta t) := by
  refine ⟨fun pn st τ H Q J h => PySem.W.methodCall_KW (pl := pl) (thn (ho.run pn st τ H _ J h) ?_) ht⟩
  rintro u s1 ⟨x, H1, J1, rx, a, dx, fs, rfl, ea, l, go⟩
  cases (show u = Value.ref a from rx)
  refine getmeth_ok J1 ea c M l (PySem.W.callWith_K (first := [.ref a]) (h₀ := X.base) J1.ok.mod.kin M.kp (thn (args.run pos pn s1 τ H1 _ J1 go) ?_) hst hpl)
  rintro us s2 ⟨vs, H2, J2, r, go2⟩
  exact ⟨J2.kIn, run_fnS (us := .ref a :: us) (vs := .ref a :: vs) G room bd (out τ) J2 (.cons (show L2.RelV (.ref a) (.ref a) from rfl) r) go2⟩
end

/-- x op y by the class's own operator, in a try's body -/
def tOwnT (C : Addr) (sp : Sp) (Ex : L2.St → XK) (ta tb : TE) : TE := fun τ H Q => ta τ H fun x H1 => tb τ H1 fun y H2 => rOwn C sp (Ex τ) x y H2 Q
section
variable {X : Cx} {CX : CXT} {k : Nat} {f C : Addr} {fd : FuncData} {ps : List Str} {sp : Sp} {Ex : L2.St → XK}
theorem own_at {op : Operator} {fo ro rc : Option Value} (M : Meth X.K C (dunder op.info.2) f) (first : PySem.W.selfFirst X.K C = true) (hr : PySem.W.findIn X.K (.ref C) (dunderR op.info.2) = some rc) (hp : rc = none ∨ ∃ g : Addr, rc = some (.ref g))
    (h1 : PySem.W.findIn X.K (.type "int") (dunder op.info.2) = some fo) (h2 : PySem.W.findIn X.K (.type "int") (dunderR op.info.2) = some ro) (hsub : PySem.W.subIn X.K (.type "int") (.ref C) = some false)
    (G : FnOk X.prog X.w X.K X.mg X.base CX k f fd ps sp) (room : Room k X.A) (bd : Binds X.K fd ps []) {τ : L2.St} (out : PassesAt CX X τ (Ex τ)) {pins : List (Addr × Obj)} {s : Shared} {H : Hp} {x y : V} {v u : Value} {Q : VK}
    (I : Inv X pins τ H s) (rx : RelV x v) (ry : RelV y u) (h : rOwn C sp (Ex τ) x y H Q) : wpAny (model X.prog X.w) X.A (binaryOp op v u) (EP X pins τ Q) X.xe s := by
  obtain ⟨⟨a, dx, fs, rfl, ha⟩, hy, h⟩ := h
  cases (show v = Value.ref a from rx)
  obtain ⟨_, od, J⟩ := inst_of I ha
  obtain ⟨m, F⟩ := I.fr
  have ran : wpAny (model X.prog X.w) X.A (call (.ref f) [.ref a, u]) (PySem.W.CmpBack (EP X pins τ Q)) X.xe s :=
    wpAny_mono (run_fnS G room bd out I (.cons (show L2.RelV (.ref a) (.ref a) from rfl) (.cons ry .nil)) h) (fun _ _ z => ep_back z) fun _ _ z => z
  rcases hy with ⟨b, dy, gs, rfl, hb⟩ | ⟨n, rfl⟩
  · cases (show u = Value.ref b from ry)
    obtain ⟨_, od', J'⟩ := inst_of I hb
    exact PySem.W.binop_K F I.ok.mod.kin J J'.type first M.at_ M.fn ran
  · obtain ⟨t, rfl⟩ := (show ∃ t, u = Value.int n t from ry)
    exact PySem.W.ksp_binT F I.ok.mod.kin J (T := "int") rfl first M.at_ M.fn hr hp h1 h2 hsub ran
end

/-! ### the operators one by one -/
section
variable {X : Cx} {CX : CXT} {k : Nat} {f C : Addr} {fd : FuncData} {ps : List Str} {sp : Sp} {E : XK}
theorem d_add : dunder Operator.Add.info.2 = ("__add__" : Str) := by decide +kernel
theorem dR_add : dunderR Operator.Add.info.2 = ("__radd__" : Str) := by decide +kernel
theorem op_own_Add (M : Meth X.K C "__add__" f) (first : PySem.W.selfFirst X.K C = true) (hr : ∃ rc : Option Value, PySem.W.findIn X.K (.ref C) "__radd__" = some rc ∧ (rc = none ∨ ∃ g : Addr, rc = some (.ref g)))
    (hi : ∃ fo ro : Option Value, PySem.W.findIn X.K (.type "int") "__add__" = some fo ∧ PySem.W.findIn X.K (.type "int") "__radd__" = some ro) (hsub : PySem.W.subIn X.K (.type "int") (.ref C) = some false)
    (G : FnOk X.prog X.w X.K X.mg X.base CX k f fd ps sp) (room : Room k X.A) (bd : Binds X.K fd ps []) (out : Passes CX X E) : OpR X (binaryOp .Add) (rOwn C sp E) := by
  obtain ⟨rc, e1, e2⟩ := hr
  obtain ⟨fo, ro, e3, e4⟩ := hi
  exact op_own (op := .Add) (by rw [d_add]; exact M) first (by rw [dR_add]; exact e1) e2 (by rw [d_add]; exact e3) (by rw [dR_add]; exact e4) hsub G room bd out
theorem d_sub : dunder Operator.Sub.info.2 = ("__sub__" : Str) := by decide +kernel
theorem dR_sub : dunderR Operator.Sub.info.2 = ("__rsub__" : Str) := by decide +kernel
theorem op_own_Sub (M : Meth X.K C "__sub__" f) (first : PySem.W.selfFirst X.K C = true) (hr : ∃ rc : Option Value, PySem.W.findIn X.K (.ref C) "__rsub__" = some rc ∧ (rc = none ∨ ∃ g : Addr, rc = some (.ref g)))
    (hi : ∃ fo ro : Option Value, PySem.W.findIn X.K (.type "int") "__sub__" = some fo ∧ PySem.W.findIn X.K (.type "int") "__rsub__" = some ro) (hsub : PySem.W.subIn X.K (.type "int") (.ref C) = some false)
    (G : FnOk X.prog X.w X.K X.mg X.base CX k f fd ps sp) (room : Room k X.A) (bd : Binds X.K fd ps []) (out : Passes CX X E) : OpR X (binaryOp .Sub) (rOwn C sp E) := by
  obtain ⟨rc, e1, e2⟩ := hr
  obtain ⟨fo, ro, e3, e4⟩ := hi
  exact op_own (op := .Sub) (by rw [d_sub]; exact M) first (by rw [dR_sub]; exact e1) e2 (by rw [d_sub]; exact e3) (by rw [dR_sub]; exact e4) hsub G room bd out
theorem d_mul : dunder Operator.Mult.info.2 = ("__mul__" : Str) := by decide +kernel
theorem dR_mul : dunderR Operator.Mult.info.2 = ("__rmul__" : Str) := by decide +kernel
theorem op_own_Mult (M : Meth X.K C "__mul__" f) (first : PySem.W.selfFirst X.K C = true) (hr : ∃ rc : Option Value, PySem.W.findIn X.K (.ref C) "__rmul__" = some rc ∧ (rc = none ∨ ∃ g : Addr, rc = some (.ref g)))
    (hi : ∃ fo ro : Option Value, PySem.W.findIn X.K (.type "int") "__mul__" = some fo ∧ PySem.W.findIn X.K (.type "int") "__rmul__" = some ro) (hsub : PySem.W.subIn X.K (.type "int") (.ref C) = some false)
    (G : FnOk X.prog X.w X.K X.mg X.base CX k f fd ps sp) (room : Room k X.A) (bd : Binds X.K fd ps []) (out : Passes CX X E) : OpR X (binaryOp .Mult) (rOwn C sp E) := by
  obtain ⟨rc, e1, e2⟩ := hr
  obtain ⟨fo, ro, e3, e4⟩ := hi
  exact op_own (op := .Mult) (by rw [d_mul]; exact M) first (by rw [dR_mul]; exact e1) e2 (by rw [d_mul]; exact e3) (by rw [dR_mul]; exact e4) hsub G room bd out
theorem d_floordiv : dunder Operator.FloorDiv.info.2 = ("__floordiv__" : Str) := by decide +kernel
theorem dR_floordiv : dunderR Operator.FloorDiv.info.2 = ("__rfloordiv__" : Str) := by decide +kernel
theorem op_own_FloorDiv (M : Meth X.K C "__floordiv__" f) (first : PySem.W.selfFirst X.K C = true) (hr : ∃ rc : Option Value, PySem.W.findIn X.K (.ref C) "__rfloordiv__" = some rc ∧ (rc = none ∨ ∃ g : Addr, rc = some (.ref g)))
    (hi : ∃ fo ro : Option Value, PySem.W.findIn X.K (.type "int") "__floordiv__" = some fo ∧ PySem.W.findIn X.K (.type "int") "__rfloordiv__" = some ro) (hsub : PySem.W.subIn X.K (.type "int") (.ref C) = some false)
    (G : FnOk X.prog X.w X.K X.mg X.base CX k f fd ps sp) (room : Room k X.A) (bd : Binds X.K fd ps []) (out : Passes CX X E) : OpR X (binaryOp .FloorDiv) (rOwn C sp E) := by
  obtain ⟨rc, e1, e2⟩ := hr
  obtain ⟨fo, ro, e3, e4⟩ := hi
  exact op_own (op := .FloorDiv) (by rw [d_floordiv]; exact M) first (by rw [dR_floordiv]; exact e1) e2 (by rw [d_floordiv]; exact e3) (by rw [dR_floordiv]; exact e4) hsub G room bd out
theorem d_mod : dunder Operator.Mod.info.2 = ("__mod__" : Str) := by decide +kernel
theorem dR_mod : dunderR Operator.Mod.info.2 = ("__rmod__" : Str) := by decide +kernel
theorem op_own_Mod (M : Meth X.K C "__mod__" f) (first : PySem.W.selfFirst X.K C = true) (hr : ∃ rc : Option Value, PySem.W.findIn X.K (.ref C) "__rmod__" = some rc ∧ (rc = none ∨ ∃ g : Addr, rc = some (.ref g)))
    (hi : ∃ fo ro : Option Value, PySem.W.findIn X.K (.type "int") "__mod__" = some fo ∧ PySem.W.findIn X.K (.type "int") "__rmod__" = some ro) (hsub : PySem.W.subIn X.K (.type "int") (.ref C) = some false)
    (G : FnOk X.prog X.w X.K X.mg X.base CX k f fd ps sp) (room : Room k X.A) (bd : Binds X.K fd ps []) (out : Passes CX X E) : OpR X (binaryOp .Mod) (rOwn C sp E) := by
  obtain ⟨rc, e1, e2⟩ := hr
  obtain ⟨fo, ro, e3, e4⟩ := hi
  exact op_own (op := .Mod) (by rw [d_mod]; exact M) first (by rw [dR_mod]; exact e1) e2 (by rw [d_mod]; exact e3) (by rw [dR_mod]; exact e4) hsub G room bd out
theorem op_ref_Add (M : Meth X.K C "__radd__" f) (first : PySem.W.selfFirst X.K C = true) (own : ∃ f0 : Addr, PySem.W.findIn X.K (.ref C) "__add__" = some (some (.ref f0))) (hsub : PySem.W.subIn X.K (.ref C) (.type "int") = some false)
    (G : FnOk X.prog X.w X.K X.mg X.base CX k f fd ps sp) (room : Room k X.A) (bd : Binds X.K fd ps []) (out : Passes CX X E) : OpR X (binaryOp .Add) (rRef C sp E) := by
  obtain ⟨f0, e1⟩ := own
  exact op_ref (op := .Add) (by rw [dR_add]; exact M) first (by rw [d_add]; exact e1) hsub PySem.F.slot_int_add PySem.F.entry_int_add PySem.F.args_int_add_2 (by kernel_rfl) G room bd out
theorem op_ref_Sub (M : Meth X.K C "__rsub__" f) (first : PySem.W.selfFirst X.K C = true) (own : ∃ f0 : Addr, PySem.W.findIn X.K (.ref C) "__sub__" = some (some (.ref f0))) (hsub : PySem.W.subIn X.K (.ref C) (.type "int") = some false)
    (G : FnOk X.prog X.w X.K X.mg X.base CX k f fd ps sp) (room : Room k X.A) (bd : Binds X.K fd ps []) (out : Passes CX X E) : OpR X (binaryOp .Sub) (rRef C sp E) := by
  obtain ⟨f0, e1⟩ := own
  exact op_ref (op := .Sub) (by rw [dR_sub]; exact M) first (by rw [d_sub]; exact e1) hsub PySem.F.slot_int_sub PySem.F.entry_int_sub PySem.F.args_int_sub_2 (by kernel_rfl) G room bd out
theorem op_ref_Mult (M : Meth X.K C "__rmul__" f) (first : PySem.W.selfFirst X.K C = true) (own : ∃ f0 : Addr, PySem.W.findIn X.K (.ref C) "__mul__" = some (some (.ref f0))) (hsub : PySem.W.subIn X.K (.ref C) (.type "int") = some false)
    (G : FnOk X.prog X.w X.K X.mg X.base CX k f fd ps sp) (room : Room k X.A) (bd : Binds X.K fd ps []) (out : Passes CX X E) : OpR X (binaryOp .Mult) (rRef C sp E) := by
  obtain ⟨f0, e1⟩ := own
  exact op_ref (op := .Mult) (by rw [dR_mul]; exact M) first (by rw [d_mul]; exact e1) hsub PySem.F.slot_int_mul PySem.F.entry_int_mul PySem.F.args_int_mul_2 (by kernel_rfl) G room bd out
end
section
variable {X : Cx} {CX : CXT} {k : Nat} {f C : Addr} {fd : FuncData} {ps : List Str} {sp : Sp} {Ex : L2.St → XK} {a b : Expr} {ta tb : TE} {pos : Pos}
theorem pe_ownT_FloorDiv (M : Meth X.K C "__floordiv__" f) (first : PySem.W.selfFirst X.K C = true) (hr : ∃ rc : Option Value, PySem.W.findIn X.K (.ref C) "__rfloordiv__" = some rc ∧ (rc = none ∨ ∃ g : Addr, rc = some (.ref g)))
    (hi : ∃ fo ro : Option Value, PySem.W.findIn X.K (.type "int") "__floordiv__" = some fo ∧ PySem.W.findIn X.K (.type "int") "__rfloordiv__" = some ro) (hsub : PySem.W.subIn X.K (.type "int") (.ref C) = some false)
    (G : FnOk X.prog X.w X.K X.mg X.base CX k f fd ps sp) (room : Room k X.A) (bd : Binds X.K fd ps []) (out : ∀ τ, PassesAt CX X τ (Ex τ)) (ha : PE X a ta) (hb : PE X b tb) : PE X (.BinOp a .FloorDiv b pos) (tOwnT C sp Ex ta tb) := by
  obtain ⟨rc, e1, e2⟩ := hr
  obtain ⟨fo, ro, e3, e4⟩ := hi
  refine ⟨fun pn st τ H Q J h => wpAny_BinOp (binT ha hb J h fun v u s2 x y H2 J2 rx ry go => ?_)⟩
  exact own_at (op := .FloorDiv) (by rw [d_floordiv]; exact M) first (by rw [dR_floordiv]; exact e1) e2 (by rw [d_floordiv]; exact e3) (by rw [dR_floordiv]; exact e4) hsub G room bd (out τ) J2 rx ry go
theorem pe_ownT_Mod (M : Meth X.K C "__mod__" f) (first : PySem.W.selfFirst X.K C = true) (hr : ∃ rc : Option Value, PySem.W.findIn X.K (.ref C) "__rmod__" = some rc ∧ (rc = none ∨ ∃ g : Addr, rc = some (.ref g)))
    (hi : ∃ fo ro : Option Value, PySem.W.findIn X.K (.type "int") "__mod__" = some fo ∧ PySem.W.findIn X.K (.type "int") "__rmod__" = some ro) (hsub : PySem.W.subIn X.K (.type "int") (.ref C) = some false)
    (G : FnOk X.prog X.w X.K X.mg X.base CX k f fd ps sp) (room : Room k X.A) (bd : Binds X.K fd ps []) (out : ∀ τ, PassesAt CX X τ (Ex τ)) (ha : PE X a ta) (hb : PE X b tb) : PE X (.BinOp a .Mod b pos) (tOwnT C sp Ex ta tb) := by
  obtain ⟨rc, e1, e2⟩ := hr
  obtain ⟨fo, ro, e3, e4⟩ := hi
  refine ⟨fun pn st τ H Q J h => wpAny_BinOp (binT ha hb J h fun v u s2 x y H2 J2 rx ry go => ?_)⟩
  exact own_at (op := .Mod) (by rw [d_mod]; exact M) first (by rw [dR_mod]; exact e1) e2 (by rw [d_mod]; exact e3) (by rw [dR_mod]; exact e4) hsub G room bd (out τ) J2 rx ry go
end

/-! ### x op y where x is an int or an instance, y an instance (or, behind an instance, an int) -/
section
variable {X : Cx} {CX : CXT} {k j : Nat} {f g C : Addr} {fd gd : FuncData} {ps qs : List Str} {sp sq : Sp} {E : XK}
def rAny (C : Addr) (sp sq : Sp) (E : XK) : R2 := fun x y H Q => rOwn C sp E x y H Q ∨ rRef C sq E x y H Q
theorem op_any_Add (M : Meth X.K C "__add__" f) (N : Meth X.K C "__radd__" g) (first : PySem.W.selfFirst X.K C = true) (hi : ∃ fo ro : Option Value, PySem.W.findIn X.K (.type "int") "__add__" = some fo ∧ PySem.W.findIn X.K (.type "int") "__radd__" = some ro)
    (si : PySem.W.subIn X.K (.type "int") (.ref C) = some false) (sr : PySem.W.subIn X.K (.ref C) (.type "int") = some false) (G : FnOk X.prog X.w X.K X.mg X.base CX k f fd ps sp) (G2 : FnOk X.prog X.w X.K X.mg X.base CX j g gd qs sq)
    (room : Room k X.A) (room2 : Room j X.A) (bd : Binds X.K fd ps []) (bd2 : Binds X.K gd qs []) (out : Passes CX X E) : OpR X (binaryOp .Add) (rAny C sp sq E) := by
  intro pins s σ H x y v u Q I rx ry h
  rcases h with h | h
  · exact op_own_Add M first ⟨_, N.at_, .inr ⟨_, rfl⟩⟩ hi si G room bd out pins s σ H x y v u Q I rx ry h
  · exact op_ref_Add N first ⟨_, M.at_⟩ sr G2 room2 bd2 out pins s σ H x y v u Q I rx ry h
theorem op_any_Sub (M : Meth X.K C "__sub__" f) (N : Meth X.K C "__rsub__" g) (first : PySem.W.selfFirst X.K C = true) (hi : ∃ fo ro : Option Value, PySem.W.findIn X.K (.type "int") "__sub__" = some fo ∧ PySem.W.findIn X.K (.type "int") "__rsub__" = some ro)
    (si : PySem.W.subIn X.K (.type "int") (.ref C) = some false) (sr : PySem.W.subIn X.K (.ref C) (.type "int") = some false) (G : FnOk X.prog X.w X.K X.mg X.base CX k f fd ps sp) (G2 : FnOk X.prog X.w X.K X.mg X.base CX j g gd qs sq)
    (room : Room k X.A) (room2 : Room j X.A) (bd : Binds X.K fd ps []) (bd2 : Binds X.K gd qs []) (out : Passes CX X E) : OpR X (binaryOp .Sub) (rAny C sp sq E) := by
  intro pins s σ H x y v u Q I rx ry h
  rcases h with h | h
  · exact op_own_Sub M first ⟨_, N.at_, .inr ⟨_, rfl⟩⟩ hi si G room bd out pins s σ H x y v u Q I rx ry h
  · exact op_ref_Sub N first ⟨_, M.at_⟩ sr G2 room2 bd2 out pins s σ H x y v u Q I rx ry h
theorem op_any_Mult (M : Meth X.K C "__mul__" f) (N : Meth X.K C "__rmul__" g) (first : PySem.W.selfFirst X.K C = true) (hi : ∃ fo ro : Option Value, PySem.W.findIn X.K (.type "int") "__mul__" = some fo ∧ PySem.W.findIn X.K (.type "int") "__rmul__" = some ro)
    (si : PySem.W.subIn X.K (.type "int") (.ref C) = some false) (sr : PySem.W.subIn X.K (.ref C) (.type "int") = some false) (G : FnOk X.prog X.w X.K X.mg X.base CX k f fd ps sp) (G2 : FnOk X.prog X.w X.K X.mg X.base CX j g gd qs sq)
    (room : Room k X.A) (room2 : Room j X.A) (bd : Binds X.K fd ps []) (bd2 : Binds X.K gd qs []) (out : Passes CX X E) : OpR X (binaryOp .Mult) (rAny C sp sq E) := by
  intro pins s σ H x y v u Q I rx ry h
  rcases h with h | h
  · exact op_own_Mult M first ⟨_, N.at_, .inr ⟨_, rfl⟩⟩ hi si G room bd out pins s σ H x y v u Q I rx ry h
  · exact op_ref_Mult N first ⟨_, M.at_⟩ sr G2 room2 bd2 out pins s σ H x y v u Q I rx ry h
end

/-! ### sum(xs, start=x) of own instances -/
theorem args_sumk (a v : Value) : argsOk "sum" ⟨[a], [(Str.ofString "start", v)]⟩ := by unfold argsOk; kernel_rfl
section
variable {prog : Program} {w : World} {A : Around} {E : Value → Shared → Prop} {s : Shared}
/-- a built-in with keywords that goes on by itself -/
theorem call_tree_kw {id : String} {b : Builtin} {args : List Value} {kw : List (Str × Value)} {Q : Value → Shared → Prop} (hk : builtinKind id = none) (hp : plainId id = true)
    (hb : entryFor table id = some b) (ha : argsOk id ⟨args, kw⟩)
    (hc : wpAny (model prog w) A.in1 (b ⟨args, kw⟩) (fun fin s' => match fin with
      | .done f => (match (Except.ok f : Result) with | .ok (.ret v) => Q v s' | .ok _ => False | .error e => E e s')
      | .again c' => c'.quiet = true ∧ codeAny (model prog w) A c' (fun r s' => match r with | .ok (.ret v) => Q v s' | .ok _ => False | .error e => E e s') s') E s) :
    wpAny (model prog w) A (call (.builtin id) args kw) Q E s := by
  refine wpAny_call (codeAny_call_builtin hp hb ?_)
  simp only [checkBuiltinCall, hk]
  cases hsig : Manifest.signature? id with
  | none => exact wpAny_pure hc
  | some sig =>
    simp only [argsOk, hsig] at ha
    have h2 : Bind.checkArgs id sig ⟨args, kw⟩ = pure () := ha
    show wpAny _ A.in1 (Bind.checkArgs id sig ⟨args, kw⟩) _ _ s
    rw [h2]; exact wpAny_pure hc
end
/-- what the top has written of a class whose instances are added up -/
structure SumC (K : PySem.W.Frag) (C : Addr) : Prop where
  str : PySem.W.subIn K (.ref C) (.type "str") = some false
  byt : PySem.W.subIn K (.ref C) (.type "bytes") = some false
  bya : PySem.W.subIn K (.ref C) (.type "bytearray") = some false
  fst : PySem.W.selfFirst K C = true
/-- sum(xs, start=x0); Iv: what holds of the sum by the number of items that are in it -/
def rSumO (K : PySem.W.Frag) (C : Addr) (sp : Sp) : List V → List V → Hp → VK → Prop := fun vs zs H Q => ∃ (l : Addr) (xs : List V) (x0 : V) (Iv : Nat → V → Hp → Prop), vs = [.ref l] ∧ zs = [x0] ∧ Iv 0 x0 H ∧
  (∀ i x H', Iv i x H' → SqL K H' l xs ∧ ∃ a dx fs, x = .ref a ∧ H' a = some (.ins C dx fs)) ∧
  (∀ i x y H', Iv i x H' → xs[i]? = some y → (∃ b dy gs, y = .ref b ∧ H' b = some (.ins C dy gs)) ∧ sp [x, y] H' (fun z H2 => Iv (i + 1) z H2) E0) ∧ (∀ x H', Iv xs.length x H' → Q x H')
section
variable {X : Cx} {CX : CXT} {k : Nat} {f C : Addr} {fd : FuncData} {ps : List Str} {sp : Sp}
/-- what of an object that stands beside the frame does not change -/
def Beside (X : Cx) (pins : List (Addr × Obj)) (b : Addr) : Prop := b ≠ X.env.locals ∧ b ∉ X.fs ∧ (b ∈ X.ex ∨ X.s_0.heap.objs.size ≤ b) ∧ (∀ x c, X.env.cells.lookup x = some c → c ≠ b) ∧ ∀ p ∈ X.pn ++ pins, p.1 ≠ b
theorem Beside.of_new {pins : List (Addr × Obj)} {σ : L2.St} {H : Hp} {s : Shared} {b : Addr} (I : Inv X pins σ H s) (hb : s.heap.objs.size ≤ b) : Beside X pins b := (I.fpOk hb (I.hok.fresh hb)).2
theorem inv_beside {pins : List (Addr × Obj)} {σ : L2.St} {H : Hp} {s : Shared} {b : Addr} {h' : Heap} {t' : Nat} (I : Inv X pins σ H s) (B : Beside X pins b) (n : H b = none) (k : ∀ c o, c ≠ b → s.heap.get? c = some o → h'.get? c = some o) :
    Inv X pins σ H { s with heap := h', toks := t' } := I.turned k n B.1 B.2.2.1 B.2.2.2.1 B.2.2.2.2
theorem pin_two {pins : List (Addr × Obj)} {σ : L2.St} {H : Hp} {s : Shared} {a b : Addr} {oa ob : Obj} (I : Inv X pins σ H s) (ha : s.heap.get? a = some oa) (hb : s.heap.get? b = some ob) (na : H a = none) (nb : H b = none) (Ba : Beside X pins a) (Bb : Beside X pins b) (ca : ∀ v, oa.data ≠ .cell v) (cb : ∀ v, ob.data ≠ .cell v) :
    Inv X ((a, oa) :: (b, ob) :: pins) σ H s := by
  refine I.pins_of fun p hp => ?_
  rcases List.mem_cons.mp hp with e | e
  · subst e
    exact ⟨ha, na, Ba.1, Ba.2.1, ca⟩
  rcases List.mem_cons.mp e with e | e
  · subst e
    exact ⟨hb, nb, Bb.1, Bb.2.1, cb⟩
  · exact I.pin p (List.mem_append_right _ e)
/-- x + y where the frames are X's and nothing is raised -/
theorem add_in {B : Around} {E : Value → Shared → Prop} {pins : List (Addr × Obj)} {σ : L2.St} {H : Hp} {s : Shared} {Q : VK} {a b dx dy : Addr} {fs gs : List (Str × V)} (M : Meth X.K C "__add__" f) (first : PySem.W.selfFirst X.K C = true)
    (out : ∀ E, Passes CX (X.wish E) E0) (G : FnOk X.prog X.w X.K X.mg X.base CX k f fd ps sp) (room : Room k B) (fr : B.frames = X.A.frames) (bd : Binds X.K fd ps []) (I : Inv X pins σ H s) (ha : H a = some (.ins C dx fs)) (hb : H b = some (.ins C dy gs)) (h : sp [.ref a, .ref b] H Q E0) :
    wpAny (model X.prog X.w) B (binaryOp .Add (.ref a) (.ref b)) (EP X pins σ Q) E s := by
  obtain ⟨_, od, J⟩ := inst_of I ha
  obtain ⟨_, od', J'⟩ := inst_of I hb
  obtain ⟨m, F⟩ := I.fr
  have ran : wpAny (model X.prog X.w) B (call (.ref f) [.ref a, .ref b]) (PySem.W.CmpBack (EP X pins σ Q)) E s :=
    wpAny_mono (run_in (X := X.wish E) (B := B) G room fr bd (out E) (I.wish E) (.cons (show L2.RelV (.ref a) (.ref a) from rfl) (.cons (show L2.RelV (.ref b) (.ref b) from rfl) .nil)) h)
      (fun _ _ ⟨v, H', J, r, q⟩ => ep_back ⟨v, H', J.unwish, r, q⟩) fun _ _ z => z
  exact PySem.W.binop_K F I.ok.mod.kin J J'.type first (by rw [d_add]; exact M.at_) M.fn ran
theorem sum_go {B : Around} {pins : List (Addr × Obj)} {σ : L2.St} {l it S : Addr} {xs : List V} {Iv : Nat → V → Hp → Prop} {Q : VK} {R : Result → Shared → Prop} (M : Meth X.K C "__add__" f) (first : PySem.W.selfFirst X.K C = true) (hh : B.handled = none)
    (out : ∀ E, Passes CX (X.wish E) E0) (G : FnOk X.prog X.w X.K X.mg X.base CX k f fd ps sp) (room : Room k B.in1) (fr : B.frames = X.A.frames) (bd : Binds X.K fd ps []) (Bi : Beside X pins it) (BS : Beside X pins S) (ne : it ≠ S)
    (inv : ∀ i x H', Iv i x H' → SqL X.K H' l xs ∧ ∃ a dx fs, x = .ref a ∧ H' a = some (.ins C dx fs))
    (step : ∀ i x y H', Iv i x H' → xs[i]? = some y → (∃ b dy gs, y = .ref b ∧ H' b = some (.ins C dy gs)) ∧ sp [x, y] H' (fun z H2 => Iv (i + 1) z H2) E0) (last : ∀ x H', Iv xs.length x H' → Q x H')
    (hR : ∀ u s', EP X pins σ Q u s' → R (.ok (.ret u)) s') :
    ∀ (m i : Nat) (s : Shared) (H : Hp) (x : V) (v : Value) (c : Nat), xs.length - i = m → i ≤ xs.length → Inv X pins σ H s → s.heap.IsListIter it l i → H it = none → H S = none → s.heap.get? S = some { cls := .type "list", dict := none, data := .seq #[v] c, slots := #[] } →
      Iv i x H → RelV x v → codeAny (model X.prog X.w) B (.builtin "sum.loop" ⟨[.ref it, .ref S, rawInt 2, rawInt 0], []⟩) R s := by
  intro m
  induction m with
  | zero =>
    intro i s H x v c hm hi I st ni nS hS iv rv
    obtain ⟨hl, a, dx, fs, rfl, ha⟩ := inv i x H iv
    obtain ⟨its, rvs, p, hz⟩ := I.list hl
    cases (show v = Value.ref a from rv)
    have e : i = xs.length := by omega
    subst e
    refine codeAny_builtin F.entry_sum_loop ?_
    rw [Around.under_plainId F.plain_sum_loop _]
    show wpAny _ B.in1 (seqItems? (.ref S) >>= _) _ _ s
    refine wpAny_bind (wpAny_seqItems hS rfl ?_)
    show wpAny _ B.in1 (tryCatch (pyNext (.ref it)) _ >>= _) _ _ s
    have hlen := rvs.length
    refine wpAny_bind (wpAny_tryCatch (wpAny_pyNext_list_end hh st p.isList (by simp; omega) fun h' eb => ?_))
    exact wpAny_pure (hR _ _ ⟨.ref a, H, inv_beside (t' := s.toks) I Bi ni fun b o hb e => eb b o hb e, rfl, last _ _ iv⟩)
  | succ m ih =>
    intro i s H x v c hm hi I st ni nS hS iv rv
    obtain ⟨hl, a, dx, fs, rfl, ha⟩ := inv i x H iv
    obtain ⟨its, rvs, p, hz⟩ := I.list hl
    cases (show v = Value.ref a from rv)
    have lt : i < xs.length := by omega
    obtain ⟨y, hy⟩ : ∃ y, xs[i]? = some y := ⟨_, List.getElem?_eq_getElem lt⟩
    obtain ⟨u, hu, ru⟩ := rvs.get hy
    obtain ⟨⟨b, dy, gs, rfl, hb⟩, go⟩ := step i _ y H iv hy
    cases (show u = Value.ref b from ru)
    refine codeAny_builtin F.entry_sum_loop ?_
    rw [Around.under_plainId F.plain_sum_loop _]
    show wpAny _ B.in1 (seqItems? (.ref S) >>= _) _ _ s
    refine wpAny_bind (wpAny_seqItems hS rfl ?_)
    show wpAny _ B.in1 (tryCatch (pyNext (.ref it)) _ >>= _) _ _ s
    refine wpAny_bind (wpAny_tryCatch (wpAny_pyNext_list_item st p.isList (x := .ref b) (by simpa using hu) fun h' st' sb => ?_))
    show wpAny _ B.in1 ((holding [Value.ref b] (binaryOp .Add (.ref a) (.ref b))).attempt >>= _) _ _ _
    have I1 : Inv X pins σ H { s with heap := h' } := inv_beside (t' := s.toks) I Bi ni fun b o hb e => (sb.2 b hb).trans e
    have hS1 : h'.get? S = some { cls := .type "list", dict := none, data := .seq #[Value.ref a] c, slots := #[] } := (sb.2 S (Ne.symm ne)).trans hS
    obtain ⟨oi, hoi, hci, hdi⟩ := id st'
    have I2 := pin_two I1 hoi hS1 ni nS Bi BS (fun v z => by rw [hdi] at z; cases z) (fun v z => by cases z)
    refine wpAny_bind (wpAny_attempt (wpAny_holding (wpAny_mono (add_in M first out G room fr bd I2 ha hb go) (fun z s3 back => ?_) fun _ _ z => z)))
    obtain ⟨zv, H3, I3, rz, iv3⟩ := back
    have hi3 := pin_at I3
    have n3 := ClX.pin_un I3
    have I4 := ClX.unpin I3
    have hS3 := pin_at I4
    have nS3 := ClX.pin_un I4
    have I5 := ClX.unpin I4
    have it3 : s3.heap.IsListIter it l (i + 1) := ⟨oi, hi3, hci, hdi⟩
    show wpAny _ B.in1 (updateSeq S (fun _ => #[z]) >>= _) _ _ _
    refine wpAny_bind (wpAny_updateSeq hS3 rfl ?_)
    have hS4 := Heap.get?_update_self (Obj.mapSeq fun _ => #[z]) hS3 rfl
    refine wpAny_bind (wpAny_letGo ?_)
    refine wpAny_bind (wpAny_updateSeq hS4 rfl (wpAny_pure ⟨plainId_quiet F.plain_sum_loop _, ?_⟩))
    have kp : ∀ b o, b ≠ S → s3.heap.get? b = some o → ((s3.heap.update S (Obj.mapSeq fun _ => #[z])).update S (Obj.mapSeq fun _ => #[z])).get? b = some o := fun b o hb e =>
      (Heap.get?_update_other _ _ (Ne.symm hb)).trans ((Heap.get?_update_other _ _ (Ne.symm hb)).trans e)
    have I6 := inv_beside (t' := s3.toks) I5 BS nS3 kp
    exact ih (i + 1) _ H3 zv z _ (by omega) lt I6 ⟨oi, kp it oi ne hi3, hci, hdi⟩ n3 nS3 (Heap.get?_update_self _ hS4 rfl) iv3 rz
/-- sum(xs, start=x0) of instances of a class with an own __add__ -/
theorem cr_sumO (S : SumC X.K C) (M : Meth X.K C "__add__" f) (hc : X.calm = true) (out : ∀ E, Passes CX (X.wish E) E0) (G : FnOk X.prog X.w X.K X.mg X.base CX k f fd ps sp) (room : Room (k + 1) X.A) (bd : Binds X.K fd ps []) : CallRK X (.builtin "sum") [Str.ofString "start"] (rSumO X.K C sp) := by
  intro pins s σ H vs zs us ws Q I r rz h
  obtain ⟨l, xs, x0, Iv, rfl, rfl, iv0, inv, step, last⟩ := h
  obtain rfl := Vals.ref1 r
  obtain ⟨w1, rfl, e1⟩ := vals1 rz
  obtain ⟨hl, a, dx, fs, rfl, ha⟩ := inv 0 x0 H iv0
  cases (show w1 = Value.ref a from e1)
  obtain ⟨its, rvs, p, hz⟩ := I.list hl
  show wpAny _ _ (call (.builtin "sum") [.ref l] [(Str.ofString "start", .ref a)]) _ _ _
  refine call_tree_kw F.kind_sum F.plain_sum F.entry_sum (args_sumk _ _) ?_
  unfold Builtin.«sum»
  simp only [List.length_cons, List.length_nil]
  rw [if_neg (by decide)]
  refine wpAny_bind (wpAny_of_eq (show Builtin.Builtins.bindParams "sum" ["start"] 0 ⟨[], [(Str.ofString "start", Value.ref a)]⟩ = pure [some (Value.ref a)] from by kernel_rfl) ?_)
  refine wpAny_bind (wpAny_pyIter_list p.isList ?_)
  have I1 : Inv X pins σ H { s with heap := s.heap.push { cls := .type "list_iterator", data := .fields #[.ref l, .int 0 0] } } := I.kept (t' := s.toks) fun b o e => Heap.get?_push_of_some _ e
  obtain ⟨_, od, J⟩ := inst_of I1 ha
  refine wpAny_bind (wpAny_pure ?_)
  simp only [List.forIn_cons, List.forIn_nil]
  refine wpAny_bind (wpAny_bind (wpAny_bind ((show PySem.W.Looks (model X.prog X.w) _ (isInstance (.ref a) (.type "str")) false from J.type.andThen (PySem.W.looks_subIn I1.kIn S.str)).here ?_)))
  simp only [Bool.false_eq_true, if_false]
  refine wpAny_pure (wpAny_bind (wpAny_bind ((show PySem.W.Looks (model X.prog X.w) _ (isInstance (.ref a) (.type "bytes")) false from J.type.andThen (PySem.W.looks_subIn I1.kIn S.byt)).here ?_)))
  simp only [Bool.false_eq_true, if_false]
  refine wpAny_pure (wpAny_bind (wpAny_bind ((show PySem.W.Looks (model X.prog X.w) _ (isInstance (.ref a) (.type "bytearray")) false from J.type.andThen (PySem.W.looks_subIn I1.kIn S.bya)).here ?_)))
  simp only [Bool.false_eq_true, if_false]
  refine wpAny_pure (wpAny_pure ?_)
  refine wpAny_bind (wpAny_newObj_type ?_)
  have sz : (s.heap.push { cls := .type "list_iterator", data := .fields #[.ref l, .int 0 0] }).objs.size = s.heap.objs.size + 1 := size_push' _ _
  have Bi := Beside.of_new I (Nat.le_refl s.heap.objs.size)
  have BS := Beside.of_new I (b := s.heap.objs.size + 1) (Nat.le_succ _)
  have n1 := I.hok.fresh (Nat.le_refl s.heap.objs.size)
  have n2 := I.hok.fresh (Nat.le_succ s.heap.objs.size)
  refine wpAny_pure ⟨plainId_quiet F.plain_sum_loop _, ?_⟩
  rw [show (s.heap.push { cls := .type "list_iterator", data := .fields #[.ref l, .int 0 0] }).objs.size = s.heap.objs.size + 1 from sz]
  refine sum_go (Q := Q) (Iv := Iv) M S.fst (I.ok.hd hc) out G room.in1 rfl bd Bi BS (Nat.ne_of_lt (Nat.lt_succ_self _)) inv step last (fun u s' z => z) xs.length 0 _ H (.ref a) (.ref a) 0 (by omega) (Nat.zero_le _)
    (I1.kept (t' := s.toks) fun b o e => Heap.get?_push_of_some _ e) ⟨_, Heap.get?_push_of_some _ (Heap.get?_push_size _ rfl), rfl, rfl⟩ n1 n2 ?_ iv0 rfl
  show ((s.heap.push { cls := .type "list_iterator", data := .fields #[.ref l, .int 0 0] }).push ({ cls := .type "list", dict := none, data := .seq #[Value.ref a] 0, slots := #[] } : Obj)).get? (s.heap.objs.size + 1) = _
  rw [← sz]
  exact Heap.get?_push_size _ rfl
end

/-! ### t[::-1] of a tuple -/
section
variable {prog : Program} {w : World} {A : Around} {E : Value → Shared → Prop} {s : Shared}
theorem places_rev (n : Nat) : Builtin.Slice.slicePlaces ((n : Int) - 1) (-1) (-1) = n := by
  unfold Builtin.Slice.slicePlaces
  have h1 : ¬ ((-1 : Int) > 0) := by omega
  have h2 : (- -1 : Int) = 1 := by decide
  simp only [h1, if_false, h2, Int.ediv_one]
  split <;> omega
theorem sliceApplied_rev {sl : Addr} {vl vu vs : Value} {n : Nat} {Q : Int × Int × Nat → Shared → Prop} (hs : s.heap.IsSliceOf sl vl vu vs) (pl : IsPart vl none) (pu : IsPart vu none) (ps : IsPart vs (some (-1)))
    (h : Q ((n : Int) - 1, -1, n) s) : wpAny (model prog w) A (Builtin.Slice.sliceApplied (.ref sl) (pure (n : Int))) Q E s := by
  obtain ⟨os, hos, hcs, hds⟩ := id hs
  unfold Builtin.Slice.sliceApplied Builtin.Slice.sliceFields
  refine wpAny_bind (wpAny_bind (wpAny_field hos hds (x := vl) rfl (wpAny_bind (wpAny_field hos hds (x := vu) rfl (wpAny_bind (wpAny_field hos hds (x := vs) rfl (wpAny_pure ?_)))))))
  refine wpAny_bind (HT.slicePart_ ps ?_)
  show wpAny _ _ (if ((-1 : Int) == 0) = true then _ else _) _ _ s
  rw [if_neg (by decide)]
  refine wpAny_bind (HT.slicePart_ pl (wpAny_bind (HT.slicePart_ pu (wpAny_bind (wpAny_pure ?_)))))
  show wpAny _ _ (pure ((n : Int) - 1, (-1 : Int), Builtin.Slice.slicePlaces ((n : Int) - 1) (-1) (-1))) _ _ s
  rw [places_rev]
  exact wpAny_pure h
theorem fm_congr {α β : Type} {f g : α → Option β} : ∀ {l : List α}, (∀ x ∈ l, f x = g x) → l.filterMap f = l.filterMap g
  | [], _ => rfl
  | x :: r, h => by
    rw [List.filterMap_cons, List.filterMap_cons, h x List.mem_cons_self, fm_congr fun y hy => h y (List.mem_cons_of_mem _ hy)]
theorem pick_rev (xs : Array Value) : ((List.range xs.size).filterMap fun (m : Nat) => xs[((xs.size : Int) - 1 + (m : Int) * -1).toNat]?).toArray = xs.toList.reverse.toArray := by
  have e : (List.range xs.size).filterMap (fun (m : Nat) => xs[((xs.size : Int) - 1 + (m : Int) * -1).toNat]?) = ((List.range xs.size).map fun k => xs.size - 1 - k).filterMap (xs[·]?) := by
    rw [List.filterMap_map]
    refine fm_congr ?_
    intro m hm
    have := List.mem_range.mp hm
    show xs[((xs.size : Int) - 1 + (m : Int) * -1).toNat]? = xs[xs.size - 1 - m]?
    congr 1
    omega
  rw [e, PySem.W.krv_range, List.filterMap_reverse, PySem.W.krv_all]
theorem getItem_tuple_rev {t sl : Addr} {items : Array Value} {vl vu vs : Value} {Q : Value → Shared → Prop} (ht : IsTup s.heap t items) (hs : s.heap.IsSliceOf sl vl vu vs) (pl : IsPart vl none) (pu : IsPart vu none) (ps : IsPart vs (some (-1)))
    (h : Q (.ref s.heap.objs.size) { s with heap := s.heap.push { cls := .type "tuple", data := .seq items.toList.reverse.toArray } }) (hsz : items.size ≤ sizeLine) : wpAny (model prog w) A (getItem (.ref t) (.ref sl)) Q E s := by
  have htake : sizeOk (.seq items.toList.reverse.toArray) := by
    show items.toList.reverse.toArray.size ≤ sizeLine
    rw [List.size_toArray, List.length_reverse, Array.length_toList]
    exact hsz
  obtain ⟨os, hos, hcs, hds⟩ := id hs
  have hTs : s.TypeIs (.ref sl) "slice" := ⟨os, hos, hcs⟩
  unfold getItem
  try with_reducible refine wpAny_holding ?_
  first | refine wpAny_bind (wpAny_pure ?_) | skip
  refine wpAny_bind (wpAny_sequenceKey ht.typeIs (by decide) ?_)
  refine wpAny_bind (wpAny_callSpecial?_slot (name := Str.ofString "__getitem__") ht.typeIs PyProof.Rows.slot_tuple_getitem
    (wpAny_call_entry PyProof.Rows.slot_tuple_getitem ht.typeIs entry_tuple_getitem ?_ (args_tuple_getitem _ _)))
  show wpAny _ _ (Builtin.Tuple.tupleItemsOf (.ref t) >>= _) _ _ s
  refine wpAny_bind (tupleItemsOf_ ht ?_)
  refine wpAny_bind (wpAny_typeOf hTs ?_)
  rw [if_pos (by decide)]
  refine wpAny_bind (sliceApplied_rev hs pl pu ps ?_)
  have hno : ¬ ((((items.size : Int) - 1) == 0 && (-1 : Int) == 1 && items.size == items.size) = true) := by
    intro q
    rw [Bool.and_eq_true, Bool.and_eq_true] at q
    exact absurd q.1.2 (by decide)
  show wpAny _ _ (if (((items.size : Int) - 1) == 0 && (-1 : Int) == 1 && items.size == items.size) = true then _ else _) _ _ s
  rw [if_neg hno, pick_rev]
  first
    | exact wpAny_bind (m := Builtin.Tuple.tupleExact _) (wpAny_newObj_type (wpAny_pure ⟨_, rfl, wpAny_pure h⟩) htake)
    | exact wpAny_bind (m := Builtin.Tuple.tupleExact _) (wpAny_newObj_type (wpAny_bind (wpAny_pure (wpAny_pure ⟨_, rfl, wpAny_pure h⟩))) htake)
    | exact wpAny_bind (wpAny_bind (m := Builtin.Tuple.tupleExact _) (wpAny_newObj_type (wpAny_pure (wpAny_pure ⟨_, rfl, wpAny_pure h⟩)) htake))
    | exact wpAny_bind (wpAny_bind (m := Builtin.Tuple.tupleExact _) (wpAny_newObj_type (wpAny_pure ⟨_, rfl, wpAny_pure h⟩) htake))
end
section
variable {X : Cx}
def tRevT (K : PySem.W.Frag) (te : TE) : TE := fun σ H Q => te σ H fun x H1 => ∃ a xs, x = .ref a ∧ SqT K H1 a xs ∧ ∀ p, H1 p = none → Q (.ref p) (upd H1 p (.tup xs.reverse))
theorem pe_revT {e : Expr} {te : TE} {k : Nat} {p1 p2 p3 pos : Pos} (he : PE X e te) : PE X (.Subscript e (.Slice none none (some (.UnaryOp .USub (.Constant (.int 1) k p1) p2)) p3) pos) (tRevT X.K te) := by
  refine ⟨fun pins s σ H Q I h => ?_⟩
  refine Subscript_ (thn (he.run pins s σ H _ I h) fun v s1 ⟨x, H1, I1, r1, q1⟩ => ?_)
  obtain ⟨a, xs, ex, hx, q⟩ := q1
  subst ex
  cases r1
  have hst : PO X (some (.UnaryOp .USub (.Constant (.int 1) k p1) p2)) (tPart (tUn (rU fun i => .int (-i)) (tC (.int 1)))) := po_some (pe_un un_neg pe_int)
  refine wpAny_Slice (thn (po_none.run pins s1 σ H1 (fun o H2 => o = none ∧ H2 = H1) I1 ⟨rfl, rfl⟩) fun vl s2 ⟨l, H2, I2, pl, el, e2⟩ => ?_)
  subst el e2
  refine thn (po_none.run pins s2 σ H2 (fun o H3 => o = none ∧ H3 = H2) I2 ⟨rfl, rfl⟩) fun vu s3 ⟨u, H3, I3, pu, eu, e3⟩ => ?_
  subst eu e3
  refine thn (hst.run pins s3 σ H3 (fun o H4 => o = some (-1) ∧ H4 = H3) I3 ⟨1, rfl, -1, rfl, rfl, rfl⟩) fun vs s4 ⟨o, H4, I4, ps, eo, e4⟩ => ?_
  subst eo e4
  have I5 : Inv X pins σ H4 { s4 with heap := s4.heap.push { cls := .type "slice", data := .fields #[vl, vu, vs] } } := I4.kept (t' := s4.toks) fun b ob q => Heap.get?_push_of_some _ q
  obtain ⟨its, r, ht, hz⟩ := I5.tuple hx
  have hlen := r.length
  show wpAny (model X.prog X.w) X.A (subscriptTail e (.Slice none none (some (.UnaryOp .USub (.Constant (.int 1) k p1) p2)) p3) (.ref a) (.ref s4.heap.objs.size)) (EP X pins σ Q) X.xe { s4 with heap := s4.heap.push { cls := .type "slice", data := .fields #[vl, vu, vs] } }
  refine tail_any (ops := [.ref a, .ref s4.heap.objs.size]) ht.typeIs PyProof.Rows.slot_tuple_getitem.lookup ?_ (by with_unfolding_all rfl)
  refine getItem_tuple_rev ht (Heap.IsSliceOf.new _ vl vu vs) pl pu ps ?_ (by rw [List.size_toArray]; omega)
  refine ⟨.ref _, _, I5.laid (t' := s4.toks) (o := .tup xs.reverse) (fun b ob q => Heap.get?_push_of_some _ q) (Nat.le_refl _) ?_, rfl, q _ (I5.hok.fresh (Nat.le_refl _))⟩
  exact ⟨by rw [List.length_reverse]; exact hz, _, r.reverse, IsTup.new _ _⟩
end

/-- a lot: ascending, from 0 on, below m -/
def lotB : List Int → Int → Int → Bool
  | [], _, _ => true
  | n :: r, b, m => if n ≤ b ∨ n ≥ m then false else lotB r n m

theorem fW_many (m a : Int) (t : Addr) : (fW m a t).lookup ("many" : Str) = some (V.int m) := by rfl

theorem lotB_in : ∀ {ns : List Int} {b m : Int}, lotB ns b m = true → ∀ n ∈ ns, b < n ∧ n < m
  | [], _, _, _, _, h => by cases h
  | x :: r, b, m, e, n, h => by
    by_cases c : x ≤ b ∨ x ≥ m
    · rw [show lotB (x :: r) b m = false from if_pos c] at e
      cases e
    · rw [show lotB (x :: r) b m = lotB r x m from if_neg c] at e
      rcases List.mem_cons.mp h with rfl | h
      · omega
      · have := lotB_in e n h
        omega
/-- the sum of the weights of a lot -/
def wSum (ws ns : List Int) : Int := (ns.map fun n => ws.getD n.toNat 0).sum
def wAt (ws ns : List Int) (i : Nat) : Int := if inV (.int (i : Int)) (ns.map V.int) = true then ws.getD i 0 else 0
theorem ws_at {ws : List Int} {n : Int} (h0 : 0 ≤ n) (h1 : n < ws.length) : atI (ws.map V.int) n = some (.int (ws.getD n.toNat 0)) := by
  obtain ⟨k, rfl⟩ : ∃ k : Nat, n = (k : Int) := ⟨n.toNat, by omega⟩
  have lt : k < ws.length := by omega
  refine atI_nat (int_at ?_)
  rw [Int.toNat_natCast, List.getD_eq_getElem?_getD, List.getElem?_eq_getElem lt]
  rfl
theorem ints_flat (ns : List Int) : (ns.map V.int).all flatV = true := by
  rw [List.all_eq_true]
  intro x hx
  obtain ⟨n, _, rfl⟩ := List.mem_map.mp hx
  rfl

theorem fW_shares (m a : Int) (t : Addr) : (fW m a t).lookup ("shares" : Str) = none := by rfl
theorem fW_away (m a : Int) (t : Addr) : (fW m a t).lookup ("away" : Str) = none := by rfl
theorem inV_int {n : Int} {ns : List Int} : inV (.int n) (ns.map V.int) = true ↔ n ∈ ns := by
  unfold inV
  rw [List.any_eq_true]
  constructor
  · rintro ⟨x, hx, e⟩
    obtain ⟨m, hm, rfl⟩ := List.mem_map.mp hx
    have e : decide (m = n) = true := by
      first | exact e | (simpa [eqV] using e)
    rw [← of_decide_eq_true e]
    exact hm
  · intro h
    refine ⟨.int n, List.mem_map.mpr ⟨n, h, rfl⟩, ?_⟩
    first | exact decide_eq_true rfl | simp [eqV]
/-- the values of f at the things of a lot, the others 0 -/
def hitF (f : Nat → Int) (ns : List Int) (i : Nat) : Int := if inV (.int (i : Int)) (ns.map V.int) = true then f i else 0
theorem lot_sum (f : Nat → Int) : ∀ (k : Nat) (b : Int) (lo : Nat) (ns : List Int) (m : Int), (lo : Int) = b + 1 → m - (lo : Int) = (k : Int) → lotB ns b m = true → ((List.range' lo k).map (hitF f ns)).sum = (ns.map fun n => f n.toNat).sum
  | 0, b, lo, ns, m, hb, hk, h => by
    cases ns with
    | nil => rfl
    | cons n r =>
      have := lotB_in h n List.mem_cons_self
      omega
  | k + 1, b, lo, ns, m, hb, hk, h => by
    rw [List.range'_succ, List.map_cons, List.sum_cons]
    cases ns with
    | nil =>
      rw [show hitF f [] lo = 0 from rfl, lot_sum f k (b + 1) (lo + 1) [] m (by omega) (by omega) rfl]
      rfl
    | cons n r =>
      by_cases c : n = (lo : Int)
      · have hn := lotB_in h n List.mem_cons_self
        have hr : lotB r n m = true := by
          have e : lotB (n :: r) b m = lotB r n m := if_neg (by omega)
          rw [← e]
          exact h
        have ih := lot_sum f k n (lo + 1) r m (by omega) (by omega) hr
        have same : (List.range' (lo + 1) k).map (hitF f (n :: r)) = (List.range' (lo + 1) k).map (hitF f r) := by
          apply List.map_congr_left
          intro i hi
          have hi := (List.mem_range'_1.mp hi).1
          unfold hitF
          have e : inV (.int (i : Int)) ((n :: r).map V.int) = inV (.int (i : Int)) (r.map V.int) := by
            rw [Bool.eq_iff_iff, inV_int, inV_int, List.mem_cons]
            constructor
            · rintro (z | z)
              · omega
              · exact z
            · exact .inr
          rw [e]
        rw [same, ih, List.map_cons, List.sum_cons]
        congr 1
        unfold hitF
        rw [if_pos (inV_int.mpr (by rw [c]; exact List.mem_cons_self)), c, Int.toNat_natCast]
      · have hn := lotB_in h n List.mem_cons_self
        have hr : lotB (n :: r) (b + 1) m = true := by
          have e : lotB (n :: r) b m = lotB r n m := if_neg (by omega)
          rw [e] at h
          exact (if_neg (by omega)).trans h
        rw [lot_sum f k (b + 1) (lo + 1) (n :: r) m (by omega) (by omega) hr]
        have z : hitF f (n :: r) lo = 0 := by
          unfold hitF
          refine if_neg fun y => ?_
          have y := inV_int.mp y
          have := lotB_in hr _ y
          omega
        rw [z, Int.zero_add]
theorem wAt_sum {ws ns : List Int} (h : lotB ns (-1) ws.length = true) : ((List.range ws.length).map (wAt ws ns)).sum = wSum ws ns := by
  rw [List.range_eq_range']
  exact lot_sum (fun i => ws.getD i 0) ws.length (-1) 0 ns ws.length rfl (by omega) h
theorem getD_nn {ws : List Int} (h : ∀ w ∈ ws, 1 ≤ w) (i : Nat) : 0 ≤ ws.getD i 0 := by
  rw [List.getD_eq_getElem?_getD]
  cases e : ws[i]? with
  | none => exact Int.le_refl 0
  | some w =>
    have := h w (List.mem_of_getElem? e)
    show 0 ≤ w
    omega
theorem wAt_nn {ws ns : List Int} (h : ∀ w ∈ ws, 1 ≤ w) (i : Nat) : 0 ≤ wAt ws ns i := by
  unfold wAt
  split
  · exact getD_nn h i
  · exact Int.le_refl 0
theorem sum_nn : ∀ {l : List Int}, (∀ x ∈ l, 0 ≤ x) → 0 ≤ l.sum
  | [], _ => Int.le_refl 0
  | x :: r, h => by
    rw [List.sum_cons]
    have := h x List.mem_cons_self
    have := sum_nn fun y hy => h y (List.mem_cons_of_mem _ hy)
    omega
theorem take_le {l : List Int} (h : ∀ x ∈ l, 0 ≤ x) (i : Nat) : 0 ≤ (l.take i).sum ∧ (l.take i).sum ≤ l.sum := by
  have a := sum_nn fun x hx => h x (List.mem_of_mem_take (i := i) hx)
  have b := sum_nn fun x hx => h x (List.mem_of_mem_drop (i := i) hx)
  have e : (l.take i).sum + (l.drop i).sum = l.sum := by
    rw [← List.sum_append, List.take_append_drop]
  omega
theorem mem_le {l : List Int} (h : ∀ x ∈ l, 0 ≤ x) : ∀ x ∈ l, x ≤ l.sum := by
  induction l with
  | nil =>
    intro x hx
    cases hx
  | cons y r ih =>
    intro x hx
    have hr : ∀ z ∈ r, 0 ≤ z := fun z hz => h z (List.mem_cons_of_mem _ hz)
    have := sum_nn hr
    have := h y List.mem_cons_self
    rw [List.sum_cons]
    rcases List.mem_cons.mp hx with rfl | hx
    · omega
    · have := ih hr x hx
      omega

theorem kL : kitB "list" "list" = some true := by decide +kernel
theorem lotB_mono : ∀ {ns : List Int} {b m m' : Int}, lotB ns b m = true → m ≤ m' → lotB ns b m' = true
  | [], _, _, _, _, _ => rfl
  | n :: r, b, m, m', h, le => by
    have hn := lotB_in h n List.mem_cons_self
    have e : lotB (n :: r) b m = lotB r n m := if_neg (by omega)
    rw [e] at h
    exact (if_neg (by omega)).trans (lotB_mono h le)
theorem lotB_snoc : ∀ {ns : List Int} {b m : Int}, lotB ns b m = true → b < m → lotB (ns ++ [m]) b (m + 1) = true
  | [], b, m, _, lt => (if_neg (by omega) : lotB [m] b (m + 1) = lotB [] m (m + 1)).trans rfl
  | n :: r, b, m, h, lt => by
    have hn := lotB_in h n List.mem_cons_self
    have e : lotB (n :: r) b m = lotB r n m := if_neg (by omega)
    rw [e] at h
    exact (if_neg (by omega)).trans (lotB_snoc h hn.2)
theorem lotB_pw : ∀ {ns : List Int} {b m : Int}, lotB ns b m = true → ns.Pairwise (· < ·)
  | [], _, _, _ => .nil
  | n :: r, b, m, h => by
    have hn := lotB_in h n List.mem_cons_self
    have e : lotB (n :: r) b m = lotB r n m := if_neg (by omega)
    rw [e] at h
    exact .cons (fun x hx => (lotB_in h x hx).1) (lotB_pw h)
theorem lotB_no {ns : List Int} {b m : Int} (h : lotB ns b m = true → False) : lotB ns b m = false := by
  cases e : lotB ns b m with
  | true => exact (h e).elim
  | false => rfl
theorem wSum_snoc (ws ns : List Int) {i : Nat} {n : Int} (h : ns[i]? = some n) : wSum ws (ns.take (i + 1)) = wSum ws (ns.take i) + ws.getD n.toNat 0 := by
  unfold wSum
  rw [List.take_add_one, h, List.map_append, List.sum_append]
  simp

/-- what of a rule by weights stands in the heap -/
def WAt (C : Addr) (H : Hp) (p dx t : Addr) (ws : List Int) (b : Int) : Prop := H p = some (.ins C dx (fW ws.length b t)) ∧ H t = some (.tup (ws.map V.int))
theorem WAt.same {C : Addr} {H H' : Hp} {p dx t : Addr} {ws : List Int} {b : Int} (s : Same H H') (h : WAt C H p dx t ws b) : WAt C H' p dx t ws b := ⟨s _ _ h.1, s _ _ h.2⟩
theorem wSum_nn {ws ns : List Int} (hw : ∀ w ∈ ws, 1 ≤ w) (ok : lotB ns (-1) ws.length = true) : 0 ≤ wSum ws ns ∧ ∀ j, j < ws.length → 0 ≤ wAt ws ns j ∧ wAt ws ns j ≤ wSum ws ns := by
  have nn : ∀ x ∈ (List.range ws.length).map (wAt ws ns), 0 ≤ x := fun x hx => by
    obtain ⟨i, _, rfl⟩ := List.mem_map.mp hx
    exact wAt_nn hw i
  have es := wAt_sum ok
  refine ⟨es ▸ sum_nn nn, fun j hj => ⟨wAt_nn hw j, es ▸ mem_le nn _ (List.mem_map.mpr ⟨j, List.mem_range.mpr hj, rfl⟩)⟩⟩
theorem cat_any {K : PySem.W.Frag} {a b : Addr} {xs ys : List V} {H : Hp} {Q : VK} (ha : H a = some (.tup xs)) (hb : H b = some (.tup ys)) (hz : xs.length + ys.length ≤ sizeLine) (q : ∀ H' p, Same H H' → H' p = some (.tup (xs ++ ys)) → Q (.ref p) H') : rCatA K (.ref a) (.ref b) H Q := by
  refine ⟨a, b, xs, ys, rfl, rfl, tup_t ha, tup_t hb, hz, fun e => ?_, fun _ e => ?_, fun _ _ p np => q _ p (same_upd np) upd_same⟩
  · subst e
    exact q H b (Same.refl H) hb
  · subst e
    exact q H a (Same.refl H) (ha.trans (by rw [List.append_nil]))
theorem sl_any {K : PySem.W.Frag} {a : Addr} {xs : List V} {lo hi : Option Int} {H : Hp} {Q : VK} (ha : H a = some (.tup xs)) (q : ∀ H' p, Same H H' → H' p = some (.tup (cutV xs lo hi)) → Q (.ref p) H') : rSlA K (.ref a) lo hi H Q := by
  refine ⟨a, xs, rfl, tup_t ha, fun e => q H a (Same.refl H) (ha.trans ?_), fun _ p np => q _ p (same_upd np) upd_same⟩
  unfold cutV
  rw [e.1, e.2, List.drop_zero, Nat.sub_zero, List.take_length]
theorem wSum_le {ws : List Int} : ∀ (ns : List Int), (∀ w ∈ ws, w ≤ 10 ^ 18) → wSum ws ns ≤ (ns.length : Int) * 10 ^ 18
  | [], _ => by
    unfold wSum
    simp
  | n :: r, h => by
    have ih := wSum_le r h
    have g : ws.getD n.toNat 0 ≤ 10 ^ 18 := by
      rw [List.getD_eq_getElem?_getD]
      cases e : ws[n.toNat]? with
      | none => decide
      | some w => exact h w (List.mem_of_getElem? e)
    have e : wSum ws (n :: r) = ws.getD n.toNat 0 + wSum ws r := rfl
    rw [e, List.length_cons]
    have : (((r.length + 1 : Nat) : Int)) * 10 ^ 18 = (r.length : Int) * 10 ^ 18 + 10 ^ 18 := by
      rw [Int.natCast_add, Int.add_mul]
      rfl
    omega

theorem fW_worth (m a : Int) (t : Addr) : (fW m a t).lookup ("worth" : Str) = none := by rfl
theorem iteND {c A B : Prop} [Decidable c] (h : ¬ c) (a : A) : if (!decide c) = true then A else B := by
  rw [decide_eq_false h]
  exact iteT a
theorem ite2N {c A B : Prop} [Decidable c] (h1 : ¬ c → A) (h2 : c → B) : if (!decide c) = true then A else B := by
  by_cases h : c
  · rw [decide_eq_true h]
    exact iteF (h2 h)
  · rw [decide_eq_false h]
    exact iteT (h1 h)
/-- the first price below 0, from place i on -/
def negAt : List Int → Nat → Option Nat
  | [], _ => none
  | n :: r, i => if n < 0 then some i else negAt r (i + 1)
theorem negAt_nn : ∀ {ps : List Int} {i : Nat}, negAt ps i = none → ∀ p ∈ ps, 0 ≤ p
  | [], _, _, _, h => by cases h
  | n :: r, i, h, p, hp => by
    by_cases c : n < 0
    · rw [show negAt (n :: r) i = some i from if_pos c] at h
      cases h
    · rw [show negAt (n :: r) i = negAt r (i + 1) from if_neg c] at h
      rcases List.mem_cons.mp hp with rfl | hp
      · omega
      · exact negAt_nn h p hp
theorem negAt_none : ∀ {ps : List Int} {i : Nat}, (∀ p ∈ ps, 0 ≤ p) → negAt ps i = none
  | [], _, _ => rfl
  | n :: r, i, h => by
    have := h n List.mem_cons_self
    exact (if_neg (by omega)).trans (negAt_none fun m hm => h m (List.mem_cons_of_mem _ hm))
theorem negAt_lt : ∀ {ps : List Int} {i k : Nat}, negAt ps i = some k → k < i + ps.length
  | [], _, _, h => by cases h
  | n :: r, i, k, h => by
    rw [List.length_cons]
    by_cases c : n < 0
    · rw [show negAt (n :: r) i = some i from if_pos c] at h
      cases h
      omega
    · rw [show negAt (n :: r) i = negAt r (i + 1) from if_neg c] at h
      have := negAt_lt h
      omega
theorem cross1 {T d W B P : Int} (h : T * d = W * B) : T * P * d = W * P * (B * 1) := by grind
/-- the sum of weight times price over a lot -/
def vSum (ws ps ns : List Int) : Int := (ns.map fun n => ws.getD n.toNat 0 * ps.getD n.toNat 0).sum
theorem vSum_snoc (ws ps ns : List Int) {i : Nat} {n : Int} (h : ns[i]? = some n) : vSum ws ps (ns.take (i + 1)) = vSum ws ps (ns.take i) + ws.getD n.toNat 0 * ps.getD n.toNat 0 := by
  unfold vSum
  rw [List.take_add_one, h, List.map_append, List.sum_append]
  simp
structure Fine (ws : List Int) (b : Int) (ps : List Int) : Prop where
  wl : ws.length ≤ 24
  w1 : ∀ w ∈ ws, 1 ≤ w
  w2 : ∀ w ∈ ws, w ≤ 10 ^ 18
  b1 : 0 < b
  b2 : b ≤ 10 ^ 18
  p2 : ∀ p ∈ ps, p ≤ 10 ^ 18
theorem getD_le {ws : List Int} (h : ∀ w ∈ ws, w ≤ 10 ^ 18) (i : Nat) : ws.getD i 0 ≤ 10 ^ 18 := by
  rw [List.getD_eq_getElem?_getD]
  cases e : ws[i]? with
  | none => decide
  | some w => exact h w (List.mem_of_getElem? e)
theorem getD_n0 {ws : List Int} (h : ∀ w ∈ ws, 0 ≤ w) (i : Nat) : 0 ≤ ws.getD i 0 := by
  rw [List.getD_eq_getElem?_getD]
  cases e : ws[i]? with
  | none => exact Int.le_refl 0
  | some w => exact h w (List.mem_of_getElem? e)
theorem mul_36 {a b : Int} (a0 : 0 ≤ a) (a1 : a ≤ 10 ^ 18) (b0 : 0 ≤ b) (b1 : b ≤ 10 ^ 18) : 0 ≤ a * b ∧ a * b ≤ 10 ^ 36 := by
  refine ⟨Int.mul_nonneg a0 b0, ?_⟩
  have := Int.mul_le_mul a1 b1 b0 (by decide)
  omega
theorem sum_bd {c : Int} : ∀ {l : List Int}, (∀ x ∈ l, 0 ≤ x ∧ x ≤ c) → l.sum ≤ (l.length : Int) * c
  | [], _ => by simp
  | x :: r, h => by
    have h1 := h x List.mem_cons_self
    have h2 := sum_bd fun y hy => h y (List.mem_cons_of_mem _ hy)
    rw [List.sum_cons, List.length_cons, Int.natCast_add, Int.add_mul]
    show x + r.sum ≤ (r.length : Int) * c + 1 * c
    omega
theorem items_bd {ws ps ns : List Int} (hw0 : ∀ w ∈ ws, 1 ≤ w) (hw1 : ∀ w ∈ ws, w ≤ 10 ^ 18) (hp0 : ∀ p ∈ ps, 0 ≤ p) (hp1 : ∀ p ∈ ps, p ≤ 10 ^ 18) : ∀ x ∈ ns.map fun n => ws.getD n.toNat 0 * ps.getD n.toNat 0, 0 ≤ x ∧ x ≤ 10 ^ 36 := fun x hx => by
  obtain ⟨n, _, rfl⟩ := List.mem_map.mp hx
  exact mul_36 (getD_n0 (fun w h => by have := hw0 w h; omega) _) (getD_le hw1 _) (getD_n0 hp0 _) (getD_le hp1 _)
theorem sm_36 {x : Int} (h0 : 0 ≤ x) (h1 : x ≤ 1000 * 10 ^ 36) : Sm x := sm_of (n := 200) (by
  have : x.natAbs ≤ 1000 * 10 ^ 36 := by omega
  exact Nat.lt_of_le_of_lt this (by decide))
theorem sm_sq {d : Int} (h0 : 0 ≤ d) (h : d ≤ 1001 * 10 ^ 18) : Sm (d * d) := by
  refine sm_of (n := 200) ?_
  rw [Int.natAbs_mul]
  have : d.natAbs ≤ 1001 * 10 ^ 18 := by omega
  exact Nat.lt_of_le_of_lt (Nat.mul_le_mul this this) (by decide)

theorem low_neg : ∀ (ns : List Int) (i : Nat), lowAt 0 ns i = negAt ns i
  | [], _ => rfl
  | n :: r, i => by
    unfold lowAt negAt
    rw [low_neg r (i + 1)]
/-! ### comparisons of an own class -/
section
variable {prog : Program} {w : World} {A : Around} {E : Value → Shared → Prop} {s : Shared} {K : PySem.W.Frag}
/-- n op a: the int's own comparison declines, then a's mirrored one is asked -/
theorem cmp_refl {op : CmpOp} {id nm : String} {g : Int → Int → Sem Fin} {n : Int} {t : Tok} {a C dx f : Addr} {od : Option Obj} {Q : Value → Shared → Prop} (hu : A.units < cLine) (X : K.In s.heap) (ha : s.heap.get? a = some (PySem.W.instObj C dx))
    (J : PySem.W.InstAt s.heap a (PySem.W.instObj C dx) C od) (slot : Slot "int" (cmpInfo op).2.1 id) (entry : entryFor table id = some (Builtin.Int.intBinary nm g)) (args : argsOk id ⟨[.int n t, .ref a], []⟩) (sub : PySem.W.subIn K (.ref C) (.type "int") = some false)
    (hr : PySem.W.findIn K (.ref C) (cmpInfo op).2.2 = some (some (.ref f))) (hf : PySem.W.isFn K (.ref f) = true) (one : oneThing? op (.int n t) (.ref a) = none)
    (h : wpAny (model prog w) A (call (.ref f) [.ref a, .int n t]) (PySem.W.CmpBack Q) E s) : wpAny (model prog w) A (richCompare op (.int n t) (.ref a)) Q E s := by
  have back : wpAny (model prog w) A (tryCompare (.ref a) (cmpInfo op).2.2 (.int n t)) (fun r s' => ∃ v, r = some v ∧ Q v s') E s := by
    unfold tryCompare
    refine wpAny_bind (PySem.W.ifBound_K X J hr hf (wpAny_mono h (fun v s' z => ?_) fun _ _ z => z))
    cases v <;> first
      | exact z.elim
      | exact wpAny_pure ⟨_, rfl, z⟩
  rcases hi : cmpInfo op with ⟨sym, fw, bw⟩
  rw [hi] at slot back
  dsimp only at slot back
  have ne : (Value.type "int" != Value.ref C) = true := by
    rw [bne, Bool.not_eq_true']
    exact Bool.eq_false_iff.mpr fun z => by cases beq_iff_eq.mp z
  unfold richCompare
  simp only [one, hi]
  refine wpAny_holding (wpAny_bind (wpAny_cRoomFor hu ?_))
  refine wpAny_bind (wpAny_typeOf (T := "int") (by exact rfl) (wpAny_bind (J.type.here ?_)))
  simp only [ne, if_true]
  refine wpAny_bind ((PySem.W.looks_subIn X sub).here ?_)
  simp only [Bool.false_eq_true, if_false, Bool.not_false, if_true]
  refine wpAny_bind (wpAny_tryCompare_declines (T := "int") (by exact rfl) slot (declines_bin ha slot entry args ⟨rfl, ?_⟩))
  dsimp only
  refine wpAny_bind (wpAny_mono back (fun r s' z => ?_) fun _ _ z => z)
  obtain ⟨v, rfl, q⟩ := z
  exact wpAny_pure q
end
section
variable {X : Cx} {CX : CXT} {k j : Nat} {f g C : Addr} {fd gd : FuncData} {ps qs : List Str} {sp sq : Sp} {E : XK}
/-- x op y by the class's comparison, or, where x is an int, by the mirrored one -/
def rCmp (C : Addr) (sp sq : Sp) (E : XK) : R2 := fun x y H Q => rOwn C sp E x y H Q ∨ rRef C sq E x y H Q
theorem op_cmp {op : CmpOp} {id nm : String} {gg : Int → Int → Sem Fin} (M : Meth X.K C (cmpInfo op).2.1 f) (N : Meth X.K C (cmpInfo op).2.2 g) (si : PySem.W.subIn X.K (.type "int") (.ref C) = some false) (sr : PySem.W.subIn X.K (.ref C) (.type "int") = some false)
    (slot : Slot "int" (cmpInfo op).2.1 id) (entry : entryFor table id = some (Builtin.Int.intBinary nm gg)) (args : ∀ a b, argsOk id ⟨[a, b], []⟩) (one : ∀ n t a, oneThing? op (.int n t) (.ref a) = none)
    (is : ∀ a b : Value, compareOp op a b = richCompare op a b)
    (G : FnOk X.prog X.w X.K X.mg X.base CX k f fd ps sp) (G2 : FnOk X.prog X.w X.K X.mg X.base CX j g gd qs sq) (room : Room k X.A) (room2 : Room j X.A) (bd : Binds X.K fd ps []) (bd2 : Binds X.K gd qs []) (out : Passes CX X E) : OpR X (compareOp op) (rCmp C sp sq E) := by
  intro pins s σ H x y v u Q I rx ry h
  rw [is]
  obtain ⟨m, F⟩ := I.fr
  rcases h with ⟨⟨a, dx, fs, rfl, ha⟩, hy, h⟩ | ⟨⟨n, rfl⟩, ⟨a, dx, fs, rfl, ha⟩, h⟩
  · cases (show v = Value.ref a from rx)
    obtain ⟨_, od, J⟩ := inst_of I ha
    have ran : wpAny (model X.prog X.w) X.A (call (.ref f) [.ref a, u]) (PySem.W.CmpBack (EP X pins σ Q)) X.xe s :=
      wpAny_mono (run_fn (ds := []) G room bd .nil out I (.cons (show L2.RelV (.ref a) (.ref a) from rfl) (.cons ry .nil)) h) (fun _ _ z => ep_back z) fun _ _ z => z
    rcases hy with ⟨b, dy, gs, rfl, hb⟩ | ⟨n, rfl⟩
    · cases (show u = Value.ref b from ry)
      obtain ⟨_, od', J'⟩ := inst_of I hb
      exact PySem.W.cmp_K room.units0 F I.ok.mod.kin J J'.type (by unfold PySem.W.notFirst; rw [beq_self_eq_true]; rfl) M.at_ M.fn ran
    · obtain ⟨t, rfl⟩ := (show ∃ t, u = Value.int n t from ry)
      exact PySem.W.cmp_K (tb := .type "int") room.units0 F I.ok.mod.kin J (PySem.W.Looks.of_pure rfl) (by unfold PySem.W.notFirst; rw [si]; simp) M.at_ M.fn ran
  · cases (show u = Value.ref a from ry)
    obtain ⟨t, rfl⟩ := (show ∃ t, v = Value.int n t from rx)
    obtain ⟨ho, od, J⟩ := inst_of I ha
    have ran : wpAny (model X.prog X.w) X.A (call (.ref g) [.ref a, .int n t]) (PySem.W.CmpBack (EP X pins σ Q)) X.xe s :=
      wpAny_mono (run_fn (ds := []) G2 room2 bd2 .nil out I (.cons (show L2.RelV (.ref a) (.ref a) from rfl) (.cons rx .nil)) h) (fun _ _ z => ep_back z) fun _ _ z => z
    exact cmp_refl room.units0 I.kIn ho J slot entry (args _ _) sr N.at_ N.fn (one n t a) ran
theorem dc_lt : (cmpInfo .Lt).2.1 = ("__lt__" : Str) := by decide +kernel
theorem dm_lt : (cmpInfo .Lt).2.2 = ("__gt__" : Str) := by decide +kernel
theorem op_cmp_Lt (M : Meth X.K C "__lt__" f) (N : Meth X.K C "__gt__" g) (si : PySem.W.subIn X.K (.type "int") (.ref C) = some false) (sr : PySem.W.subIn X.K (.ref C) (.type "int") = some false)
    (G : FnOk X.prog X.w X.K X.mg X.base CX k f fd ps sp) (G2 : FnOk X.prog X.w X.K X.mg X.base CX j g gd qs sq) (room : Room k X.A) (room2 : Room j X.A) (bd : Binds X.K fd ps []) (bd2 : Binds X.K gd qs []) (out : Passes CX X E) : OpR X (compareOp .Lt) (rCmp C sp sq E) :=
  op_cmp (op := .Lt) (by rw [dc_lt]; exact M) (by rw [dm_lt]; exact N) si sr PySem.F.slot_int_lt PySem.F.entry_int_lt PySem.F.args_int_lt_2 (fun _ _ _ => by rfl) (fun _ _ => rfl) G G2 room room2 bd bd2 out
theorem dc_le : (cmpInfo .LtE).2.1 = ("__le__" : Str) := by decide +kernel
theorem dm_le : (cmpInfo .LtE).2.2 = ("__ge__" : Str) := by decide +kernel
theorem op_cmp_LtE (M : Meth X.K C "__le__" f) (N : Meth X.K C "__ge__" g) (si : PySem.W.subIn X.K (.type "int") (.ref C) = some false) (sr : PySem.W.subIn X.K (.ref C) (.type "int") = some false)
    (G : FnOk X.prog X.w X.K X.mg X.base CX k f fd ps sp) (G2 : FnOk X.prog X.w X.K X.mg X.base CX j g gd qs sq) (room : Room k X.A) (room2 : Room j X.A) (bd : Binds X.K fd ps []) (bd2 : Binds X.K gd qs []) (out : Passes CX X E) : OpR X (compareOp .LtE) (rCmp C sp sq E) :=
  op_cmp (op := .LtE) (by rw [dc_le]; exact M) (by rw [dm_le]; exact N) si sr PySem.F.slot_int_le PySem.F.entry_int_le PySem.F.args_int_le_2 (fun _ _ _ => by rfl) (fun _ _ => rfl) G G2 room room2 bd bd2 out
theorem dc_gt : (cmpInfo .Gt).2.1 = ("__gt__" : Str) := by decide +kernel
theorem dm_gt : (cmpInfo .Gt).2.2 = ("__lt__" : Str) := by decide +kernel
theorem op_cmp_Gt (M : Meth X.K C "__gt__" f) (N : Meth X.K C "__lt__" g) (si : PySem.W.subIn X.K (.type "int") (.ref C) = some false) (sr : PySem.W.subIn X.K (.ref C) (.type "int") = some false)
    (G : FnOk X.prog X.w X.K X.mg X.base CX k f fd ps sp) (G2 : FnOk X.prog X.w X.K X.mg X.base CX j g gd qs sq) (room : Room k X.A) (room2 : Room j X.A) (bd : Binds X.K fd ps []) (bd2 : Binds X.K gd qs []) (out : Passes CX X E) : OpR X (compareOp .Gt) (rCmp C sp sq E) :=
  op_cmp (op := .Gt) (by rw [dc_gt]; exact M) (by rw [dm_gt]; exact N) si sr PySem.F.slot_int_gt PySem.F.entry_int_gt PySem.F.args_int_gt_2 (fun _ _ _ => by rfl) (fun _ _ => rfl) G G2 room room2 bd bd2 out
theorem dc_ge : (cmpInfo .GtE).2.1 = ("__ge__" : Str) := by decide +kernel
theorem dm_ge : (cmpInfo .GtE).2.2 = ("__le__" : Str) := by decide +kernel
theorem op_cmp_GtE (M : Meth X.K C "__ge__" f) (N : Meth X.K C "__le__" g) (si : PySem.W.subIn X.K (.type "int") (.ref C) = some false) (sr : PySem.W.subIn X.K (.ref C) (.type "int") = some false)
    (G : FnOk X.prog X.w X.K X.mg X.base CX k f fd ps sp) (G2 : FnOk X.prog X.w X.K X.mg X.base CX j g gd qs sq) (room : Room k X.A) (room2 : Room j X.A) (bd : Binds X.K fd ps []) (bd2 : Binds X.K gd qs []) (out : Passes CX X E) : OpR X (compareOp .GtE) (rCmp C sp sq E) :=
  op_cmp (op := .GtE) (by rw [dc_ge]; exact M) (by rw [dm_ge]; exact N) si sr PySem.F.slot_int_ge PySem.F.entry_int_ge PySem.F.args_int_ge_2 (fun _ _ _ => by rfl) (fun _ _ => rfl) G G2 room room2 bd bd2 out
theorem dc_eq : (cmpInfo .Eq).2.1 = ("__eq__" : Str) := by decide +kernel
theorem dm_eq : (cmpInfo .Eq).2.2 = ("__eq__" : Str) := by decide +kernel
theorem op_cmp_Eq (M : Meth X.K C "__eq__" f) (N : Meth X.K C "__eq__" g) (si : PySem.W.subIn X.K (.type "int") (.ref C) = some false) (sr : PySem.W.subIn X.K (.ref C) (.type "int") = some false)
    (G : FnOk X.prog X.w X.K X.mg X.base CX k f fd ps sp) (G2 : FnOk X.prog X.w X.K X.mg X.base CX j g gd qs sq) (room : Room k X.A) (room2 : Room j X.A) (bd : Binds X.K fd ps []) (bd2 : Binds X.K gd qs []) (out : Passes CX X E) : OpR X (compareOp .Eq) (rCmp C sp sq E) :=
  op_cmp (op := .Eq) (by rw [dc_eq]; exact M) (by rw [dm_eq]; exact N) si sr PySem.F.slot_int_eq PySem.F.entry_int_eq PySem.F.args_int_eq_2 (fun _ _ _ => by rfl) (fun _ _ => rfl) G G2 room room2 bd bd2 out
end

/-! ### bool(a) by the class's own -/
section
variable {prog : Program} {w : World}
theorem bool_new_in (x : Value) : MeetsIn prog w (Builtin.«bool.__new__» ⟨[.type "bool", x], []⟩) (fun A R s => wpAny (model prog w) A.in1 (truthy x) (fun b s' => R (.ok (.ret (.bool b))) s') (fun e s' => R (.error e) s') s) :=
  .of_wp fun A R s h => by
    obtain ⟨hp, g, d, tk, os⟩ := s
    have f1 := F.conv_sub_bool
    repeat (any_goals (first
      | assumption
      | (with_reducible refine wpAny_mono h (fun b s' z => ?_) fun _ _ z => z)
      | wp_step))
    all_goals first
      | exact ⟨_, rfl, z⟩
      | skip
end
section
variable {X : Cx} {CX : CXT} {k : Nat} {f C : Addr} {fd : FuncData} {ps : List Str} {sp : Sp} {E : XK}
def rBoolO (C : Addr) (sp : Sp) (E : XK) : List V → Hp → VK → Prop := fun xs H Q => ∃ a dx fs, xs = [.ref a] ∧ H a = some (.ins C dx fs) ∧ sp [.ref a] H (fun v H' => ∃ b, v = .bl b ∧ Q (.bl b) H') E
theorem call_boolO (M : Meth X.K C "__bool__" f) (G : FnOk X.prog X.w X.K X.mg X.base CX k f fd ps sp) (room : Room (k + 2) X.A) (bd : Binds X.K fd ps []) (out : Passes CX X E) : CallR X (.type "bool") (rBoolO C sp E) := by
  intro pins s σ H xs us Q I r h
  obtain ⟨a, dx, fs, rfl, ha, h⟩ := h
  obtain ⟨u, rfl, rx⟩ := vals1 r
  cases (show u = Value.ref a from rx)
  obtain ⟨_, od, J⟩ := inst_of I ha
  obtain ⟨m, F⟩ := I.fr
  refine callType_newIn PySem.F.called_bool PySem.F.newNe_bool (PySem.F.typeCall_bool_1 _) (PySem.F.newCall_bool_1 _) (fun obj => PySem.F.args_object_init_2 obj _) PySem.F.entry_bool_new (bool_new_in (.ref a)) ?_
  refine PySem.W.truthy_K F I.ok.mod.kin J M.at_ M.fn (wpAny_mono (run_in (B := X.A.in1.in1) G (room.in1.in1) rfl bd out I (.cons (show L2.RelV (.ref a) (.ref a) from rfl) .nil) h) (fun v s' z => ?_) fun _ _ z => z)
  obtain ⟨v', H', I', rv, b, rfl, q⟩ := z
  cases (show v = Value.bool b from rv)
  exact ⟨rfl, .bl b, H', I', rfl, q⟩
end

def nv (os : List Nat) : List V := (os.map fun (t : Nat) => (t : Int)).map V.int
theorem nv_at {os : List Nat} {i t : Nat} (h : os[i]? = some t) : (nv os)[i]? = some (.int (t : Int)) := by
  unfold nv
  rw [List.getElem?_map, List.getElem?_map, h]
  rfl
theorem nv_of {os : List Nat} {i : Nat} {x : V} (h : (nv os)[i]? = some x) : ∃ t : Nat, x = .int (t : Int) ∧ os[i]? = some t := by
  unfold nv at h
  obtain ⟨n, rfl, h2⟩ := int_of h
  rw [List.getElem?_map] at h2
  cases e : os[i]? with
  | none =>
    rw [e] at h2
    cases h2
  | some t =>
    rw [e] at h2
    exact ⟨t, by rw [← Option.some.inj h2], rfl⟩
theorem nv_len (os : List Nat) : (nv os).length = os.length := by
  unfold nv
  rw [List.length_map, List.length_map]
theorem nv_ins (os : List Nat) (k i : Nat) : (nv os).take k ++ [V.int (i : Int)] ++ (nv os).drop k = nv (os.take k ++ [i] ++ os.drop k) := by
  unfold nv
  simp only [List.map_append, List.map_take, List.map_drop, List.map_cons, List.map_nil]
theorem nv_flat (os : List Nat) : (nv os).all flatV = true := by
  rw [List.all_eq_true]
  intro x hx
  unfold nv at hx
  obtain ⟨n, _, rfl⟩ := List.mem_map.mp hx
  rfl
theorem nv_in {os : List Nat} {t : Nat} (h : t ∈ os) : inV (.int (t : Int)) (nv os) = true := by
  unfold inV
  rw [List.any_eq_true]
  refine ⟨.int (t : Int), ?_, ?_⟩
  · unfold nv
    exact List.mem_map.mpr ⟨(t : Int), List.mem_map.mpr ⟨t, h, rfl⟩, rfl⟩
  · show ((t : Int) == (t : Int)) = true
    exact beq_self_eq_true _
def pr (ns : List Int) (t : Nat) : Int := ns.getD t 0
theorem pr_at {ns : List Int} {t : Nat} (h : t < ns.length) : ns[t]? = some (pr ns t) := by
  unfold pr
  rw [List.getD_eq_getElem?_getD, List.getElem?_eq_getElem h]
  rfl
/-- the order that is asked: falling by price, of equal ones the lower first -/
def Dear (p : Nat → Int) (a b : Nat) : Prop := p b < p a ∨ (p a = p b ∧ a < b)
theorem dear_insert {p : Nat → Int} {os : List Nat} {i k : Nat} (hp : os.Pairwise (Dear p)) (hr : ∀ x ∈ os, x < i) (hd : ∀ j x, k ≤ j → os[j]? = some x → p x < p i)
    (hb : k = 0 ∨ ∃ y, os[k - 1]? = some y ∧ ¬ p y < p i) : (os.take k ++ [i] ++ os.drop k).Pairwise (Dear p) := by
  have hpp := hp
  rw [List.pairwise_iff_getElem] at hpp
  have h1 : (os.take k).Pairwise (Dear p) := hp.sublist (List.take_sublist k os)
  have h2 : (os.drop k).Pairwise (Dear p) := hp.sublist (List.drop_sublist k os)
  have h3 : ∀ x ∈ os.take k, Dear p x i := fun x hx => by
    obtain ⟨j, hj, e⟩ := List.mem_iff_getElem.mp hx
    rw [List.length_take] at hj
    have hj1 : j < os.length := by omega
    have hjk : j < k := by omega
    have e1 : os[j] = x := by
      rw [← e, List.getElem_take]
    have hxi : x < i := hr x (e1 ▸ List.getElem_mem hj1)
    rcases hb with hb | ⟨y, hy, hn⟩
    · omega
    · obtain ⟨g, ey⟩ := List.getElem?_eq_some_iff.mp hy
      have hxy : p y ≤ p x := by
        by_cases hjk1 : j = k - 1
        · subst hjk1
          rw [e1] at ey
          rw [ey]
          exact Int.le_refl _
        · have := hpp j (k - 1) hj1 g (by omega)
          rw [e1, ey] at this
          unfold Dear at this
          omega
      unfold Dear
      omega
  have h4 : ∀ x ∈ os.drop k, Dear p i x := fun x hx => by
    obtain ⟨j, hj, e⟩ := List.mem_iff_getElem.mp hx
    rw [List.length_drop] at hj
    have e1 : os[k + j]? = some x := by
      rw [← e, List.getElem_drop]
      exact List.getElem?_eq_getElem (by omega)
    exact .inl (hd (k + j) x (by omega) e1)
  have h5 : ∀ x ∈ os.take k, ∀ z ∈ os.drop k, Dear p x z := fun x hx z hz => by
    have a := h3 x hx
    have b := h4 z hz
    unfold Dear at *
    omega
  rw [List.append_assoc]
  refine List.pairwise_append.mpr ⟨h1, List.pairwise_append.mpr ⟨List.pairwise_singleton .., h2, fun x hx z hz => ?_⟩, fun x hx z hz => ?_⟩
  · rw [List.mem_singleton.mp hx]
    exact h4 z hz
  · rcases List.mem_append.mp hz with hz | hz
    · rw [List.mem_singleton.mp hz]
      exact h3 x hx
    · exact h5 x hx z hz
theorem perm_insert {os : List Nat} {i k : Nat} (h : os.Perm (List.range i)) : (os.take k ++ [i] ++ os.drop k).Perm (List.range (i + 1)) := by
  rw [List.range_succ]
  have h1 : (os.take k ++ [i] ++ os.drop k).Perm (os ++ [i]) := by
    have h2 : (os.take k ++ ([i] ++ os.drop k)).Perm (os.take k ++ (os.drop k ++ [i])) := List.Perm.append_left _ List.perm_append_comm
    rw [List.append_assoc]
    refine h2.trans ?_
    rw [← List.append_assoc, List.take_append_drop]
  exact h1.trans (h.append_right [i])
def lotOf (b : Int) : Nat → List Int
  | 0 => []
  | m + 1 => lotOf b m ++ (if b / 2 ^ m % 2 = 1 then [(m : Int)] else [])
def powSum (l : List Int) : Int := (l.map fun t => 1 * (2 : Int) ^ t.toNat).sum
theorem powSum_append (a b : List Int) : powSum (a ++ b) = powSum a + powSum b := by
  unfold powSum
  rw [List.map_append, List.sum_append]
theorem two_pos (m : Nat) : (0 : Int) < 2 ^ m := Int.pow_pos (by decide)
theorem half (b : Int) (m : Nat) : b / 2 ^ m / 2 = b / 2 ^ (m + 1) := by
  rw [Int.ediv_ediv_of_nonneg (Int.le_of_lt (two_pos m)), ← Int.pow_succ]
theorem powSum_lotOf (b : Int) : ∀ m : Nat, powSum (lotOf b m) = b % 2 ^ m
  | 0 => by
    show (0 : Int) = b % 1
    omega
  | m + 1 => by
    show powSum (lotOf b m ++ _) = _
    rw [powSum_append, powSum_lotOf b m]
    have e1 : (2 : Int) ^ (m + 1) = 2 ^ m * 2 := Int.pow_succ ..
    have e2 := Int.mul_ediv_add_emod b (2 ^ m)
    have e3 := Int.mul_ediv_add_emod b (2 ^ (m + 1))
    have e4 : b / 2 ^ (m + 1) = b / 2 ^ m / 2 := (half b m).symm
    have e5 := Int.emod_add_mul_ediv (b / 2 ^ m) 2
    have e6 : b % 2 ^ (m + 1) = b % 2 ^ m + 2 ^ m * (b / 2 ^ m % 2) := by
      have h1 : 2 ^ m * (b / 2 ^ m % 2 + 2 * (b / 2 ^ m / 2)) = 2 ^ m * (b / 2 ^ m) := by rw [e5]
      rw [Int.mul_add, ← Int.mul_assoc, ← e1, ← e4] at h1
      omega
    rw [e6]
    have h2 := Int.emod_two_eq (b / 2 ^ m)
    rcases h2 with h2 | h2
    · rw [h2, if_neg (by decide)]
      show _ + (0 : Int) = _
      omega
    · rw [h2, if_pos rfl]
      show _ + ((1 : Int) * 2 ^ ((m : Int)).toNat + 0) = _
      rw [Int.toNat_natCast]
      omega
theorem bit_mod (b : Int) {i m : Nat} (h : i < m) : (b % 2 ^ m) / 2 ^ i % 2 = b / 2 ^ i % 2 := by
  have e2 := Int.mul_ediv_add_emod b (2 ^ m)
  have e3 : (2 : Int) ^ m = 2 ^ i * (2 * 2 ^ (m - i - 1)) := by
    rw [← Int.mul_assoc, ← Int.pow_succ, ← Int.pow_add]
    congr 1
    omega
  have e4 : b = b % 2 ^ m + 2 ^ i * (2 * (2 ^ (m - i - 1) * (b / 2 ^ m))) := by
    have e5 : 2 ^ i * (2 * (2 ^ (m - i - 1) * (b / 2 ^ m))) = 2 ^ m * (b / 2 ^ m) := by
      generalize b / 2 ^ m = q
      rw [e3]
      simp only [Int.mul_assoc]
    omega
  conv => rhs; rw [e4]
  rw [Int.add_mul_ediv_left _ _ (Int.ne_of_gt (two_pos i)), Int.add_mul_emod_self_left]
theorem lotOf_mod (b : Int) {m : Nat} : ∀ {k : Nat}, k ≤ m → lotOf (b % 2 ^ m) k = lotOf b k
  | 0, _ => rfl
  | k + 1, h => by
    show lotOf (b % 2 ^ m) k ++ _ = lotOf b k ++ _
    rw [lotOf_mod b (Nat.le_of_succ_le h), bit_mod b h]
theorem lotOf_more (b : Int) (m : Nat) : lotOf (b % 2 ^ m) (m + 1) = lotOf b m := by
  show lotOf (b % 2 ^ m) m ++ _ = lotOf b m
  rw [lotOf_mod b (Nat.le_refl m), Int.ediv_eq_zero_of_lt (Int.emod_nonneg _ (Int.ne_of_gt (two_pos m))) (Int.emod_lt_of_pos _ (two_pos m)), if_neg (by decide), List.append_nil]
theorem lotOf_len (b : Int) : ∀ m : Nat, (lotOf b m).length ≤ m
  | 0 => Nat.le_refl 0
  | m + 1 => by
    show (lotOf b m ++ _).length ≤ _
    have h := lotOf_len b m
    rw [List.length_append]
    split <;> simp <;> omega
theorem lotOf_mem (b : Int) : ∀ {m : Nat} {t : Int}, t ∈ lotOf b m → 0 ≤ t ∧ t < m
  | 0, _, h => by cases h
  | m + 1, t, h => by
    rcases List.mem_append.mp h with h | h
    · have := lotOf_mem b h
      omega
    · split at h
      · have := List.mem_singleton.mp h
        omega
      · cases h
theorem lotOf_asc (b : Int) : ∀ m : Nat, (lotOf b m).Pairwise (· < ·)
  | 0 => List.Pairwise.nil
  | m + 1 => by
    refine List.pairwise_append.mpr ⟨lotOf_asc b m, ?_, fun x hx y hy => ?_⟩
    · split
      · exact List.pairwise_singleton ..
      · exact List.Pairwise.nil
    · split at hy
      · have := List.mem_singleton.mp hy
        have := lotOf_mem b hx
        omega
      · cases hy
theorem bit_one (x : Int) : Builtin.bitAnd x 1 = x % 2 := by
  have h := PySem.W.kbt_mask x 1
  exact h

/-! ### sorted(t, key=int), t a tuple of ints -/
section
variable {prog : Program} {w : World} {A : Around} {E : Value → Shared → Prop} {s : Shared}
/-- the items of a tuple as a list, with the heap as it then stands -/
theorem collect_tup {Q : List Value → Shared → Prop} (it : Addr) {o : Obj} {items : Array Value} {n : Nat} (ho : s.heap.get? it = some o) (hc : o.cls = .type "tuple") (hd : o.data = .seq items n)
    (hQ : Q items.toList { s with heap := (s.heap.push { cls := .type "list", data := .seq ([] : List Value).toArray }).update s.heap.objs.size (Obj.mapSeq (· ++ items)) }) (hsz : items.size ≤ sizeLine) :
    wpAny (model prog w) A (collect (.ref it)) Q E s := by
  unfold collect
  refine wpAny_bind (wpAny_runValue (codeAny_builtin F.entry_proto_collect ?_))
  rw [Around.under_plainId F.plain_proto_collect _]
  show wpAny _ A.in1 (newList [] >>= fun l => again (.builtin "list.__iadd__" ⟨[l, .ref it], []⟩)) _ _ s
  refine wpAny_bind (wpAny_newObj_type (wpAny_pure ⟨plainId_quiet F.plain_list_iadd _, codeAny_builtin F.entry_list_iadd ?_⟩))
  rw [Around.under_plainId F.plain_list_iadd _]
  show wpAny _ A.in1 (Builtin.List.listExtendWith (.ref s.heap.objs.size) (.ref it) (.ref s.heap.objs.size)) _ _ _
  have new : (s.heap.push { cls := .type "list", data := .seq ([] : List Value).toArray }).get? s.heap.objs.size = some { cls := .type "list", data := .seq #[] 0 } := Heap.get?_push_size _ rfl
  have grown := Heap.get?_update_self (Obj.mapSeq (· ++ items)) new rfl
  have last : wpAny (model prog w) A (match Value.ref s.heap.objs.size with
      | Value.ref a => do
        match (← load a).data with
          | Data.seq xs _ => pure xs.toList
          | _ => unsupported "internal:collect"
      | _ => unsupported "internal:collect") Q E { s with heap := (s.heap.push { cls := .type "list", data := .seq ([] : List Value).toArray }).update s.heap.objs.size (Obj.mapSeq (· ++ items)) } := by
    show wpAny _ A (load s.heap.objs.size >>= _) _ _ _
    refine wpAny_bind (wpAny_load grown (wpAny_pure ?_))
    show Q ((#[] : Array Value) ++ items).toList _
    rw [show ((#[] : Array Value) ++ items).toList = items.toList by simp]
    exact hQ
  refine wpAny_mono (wpAny_extend_seq (hsz := hsz) (A := A) (R := fun r s' => r = .ok (.ret (.ref s.heap.objs.size)) ∧ s' = { s with heap := (s.heap.push { cls := .type "list", data := .seq ([] : List Value).toArray }).update s.heap.objs.size (Obj.mapSeq (· ++ items)) })
    (s := { s with heap := s.heap.push { cls := .type "list", data := .seq ([] : List Value).toArray } }) _ it _ 0 (.inr rfl) new (Heap.get?_push_of_some _ ho) hc hd ⟨rfl, rfl⟩) (fun fin s' h => ?_) fun e s' h => absurd h.1 (by simp)
  cases fin with
  | done f =>
    obtain ⟨e, rfl⟩ := h
    cases e
    exact last
  | again c' =>
    refine ⟨h.1, codeAny_mono h.2 fun r s'' back => ?_⟩
    obtain ⟨rfl, rfl⟩ := back
    exact last
theorem type_key (a : Addr) (T : String) : Builtin.«list.sort» ⟨[.ref a], [(Str.ofString "key", .type T)]⟩ = PyProof.Rows.ksk_tree a (.type T) false := rfl
theorem sorted_tup_int {t : Addr} {vs : List Value} {ns : List Int} {Q : Value → Shared → Prop} (ht : IsTup s.heap t vs.toArray) (iv : PyProof.Rows.IntsAre vs ns) (hL : ns.length ≤ sizeLine) (hu : A.units + 3 < cLine)
    (h : ∀ out c h' tk p, s.heap.objs.size ≤ p → (∀ b o, s.heap.get? b = some o → h'.get? b = some o) → h'.get? p = some (seqObj "list" (List.toArray out) c) → PyProof.Rows.IntsAre out (ns.mergeSort fun a b => decide (a ≤ b)) → Q (.ref p) { s with heap := h', toks := tk }) :
    wpAny (model prog w) A (call (.builtin "sorted") [.ref t] [(Str.ofString "key", .type "int")]) Q E s := by
  have e : PySem.W.EachIs (fun (v : Value) (n : Int) => ∃ tk, v = .int n tk) vs ns := by
    clear ht h hL
    induction iv with
    | nil => exact .nil
    | cons n tk _ ih => exact .cons ⟨tk, rfl⟩ ih
  have back : ∀ {out : List Value} {ms : List Int}, PySem.W.EachIs (fun (v : Value) (n : Int) => ∃ tk, v = .int n tk) out ms → PyProof.Rows.IntsAre out ms := by
    intro out ms q
    induction q with
    | nil => exact .nil
    | cons r _ ih =>
      obtain ⟨tk, rfl⟩ := r
      exact .cons _ _ ih
  have hl : vs.length ≤ sizeLine := by rw [e.length]; exact hL
  obtain ⟨o, ho, hc, n, hd⟩ := id ht
  refine call_function_entry_kw kind_sorted plain_sorted entry_sorted (PyProof.Rows.ksk_s1 _ _) ?_
  unfold Builtin.«sorted»
  refine wpAny_bind (m := checkCount "sorted" 1 1 _) (wpAny_pure ?_)
  refine wpAny_bind (collect_tup t ho hc hd ?_ (by rw [List.size_toArray]; exact hl))
  have k1 : ∀ b u, s.heap.get? b = some u → ((s.heap.push { cls := .type "list", data := .seq ([] : List Value).toArray }).update s.heap.objs.size (Obj.mapSeq (· ++ vs.toArray))).get? b = some u := fun b u q =>
    (Heap.get?_update_other _ _ (Nat.ne_of_gt (Heap.lt_size q))).trans (Heap.get?_push_of_some _ q)
  have le : s.heap.objs.size ≤ ((s.heap.push { cls := .type "list", data := .seq ([] : List Value).toArray }).update s.heap.objs.size (Obj.mapSeq (· ++ vs.toArray))).objs.size := by
    rw [Heap.size_update, size_push']
    exact Nat.le_succ _
  generalize (s.heap.push { cls := .type "list", data := .seq ([] : List Value).toArray }).update s.heap.objs.size (Obj.mapSeq (· ++ vs.toArray)) = h1 at k1 le ⊢
  rw [show vs.toArray.toList = vs from by simp]
  refine wpAny_bind (wpAny_newList ?_ hl)
  have atp : (h1.push { cls := .type "list", data := .seq vs.toArray }).get? h1.objs.size = some (seqObj "list" vs.toArray 0) := Heap.get?_push_size _ rfl
  have old : ∀ b o, s.heap.get? b = some o → b ≠ h1.objs.size ∧ (h1.push { cls := .type "list", data := .seq vs.toArray }).get? b = some o := fun b o q => ⟨Nat.ne_of_lt (Heap.lt_size (k1 b o q)), Heap.get?_push_of_some _ (k1 b o q)⟩
  refine wpAny_bind (wpAny_holding (wpAny_call_entry_kw slot_list_sort ⟨_, atp, rfl⟩ entry_list_sort ?_ (PyProof.Rows.ksk_l1 _ _)))
  show wpAny (model prog w) A.in1.in1 (Builtin.«list.sort» ⟨[.ref h1.objs.size], [(Str.ofString "key", .type "int")]⟩) _ _ _
  rw [type_key]
  refine PySem.W.keyH_tree (kz := ns.map fun n => PyData.int n) (s := { s with heap := h1.push { cls := .type "list", data := .seq vs.toArray } }) atp (by rw [List.length_map]; exact e.length.symm) hl (PySem.W.AllAlike.of (enc := fun n => PyData.int n) fun _ _ => by simp [PySem.W.alike]) (PySem.W.Sortable.others (enc := fun n => PyData.int n) fun b => ⟨(fun z => by cases z), fun xs z => by cases z⟩)
    (PySem.W.bound_map (enc := fun n : Int => PyData.int n) (A := A.in1.in1) fun x _ => by show A.units + 2 + 0 < cLine; omega)
    (PySem.W.keyH_turns (s := { s with heap := h1.push { cls := .type "list", data := .seq vs.toArray } }) e fun v x hR hx h tk kp => ?_) fun h' tk out c kp hD ko => ⟨_, rfl, ?_⟩
  · obtain ⟨t', rfl⟩ := hR
    exact call_int_int ⟨h, tk, rfl, fun _ _ q => q, .int _ _⟩
  · have eo := PySem.W.keyedOut_each (R := fun (v : Value) (n : Int) => ∃ tk, v = .int n tk) (fun n : Int => PyData.int n) ko e
    rw [show PySem.W.dataLe false (fun n : Int => PyData.int n) = fun a b => decide (a ≤ b) from PySem.W.dataLe_int fun n => n] at eo
    exact wpAny_pure ⟨_, rfl, h out c h' tk _ le (fun b o q => kp b o (old b o q).1 (old b o q).2) hD (back eo)⟩
end
def rSortedInt (K : PySem.W.Frag) : List V → List V → Hp → VK → Prop := fun vs zs H Q => ∃ (t : Addr) (ns : List Int), vs = [.ref t] ∧ zs = [.ty "int"] ∧ SqT K H t (ns.map V.int) ∧ ns.length ≤ 1000 ∧ ∀ p, H p = none → Q (.ref p) (upd H p (.lst ((ns.mergeSort fun a b => decide (a ≤ b)).map V.int)))
theorem cr_sortedInt {X : Cx} (hu : X.A.units + 64 < cLine) : CallRK X (.builtin "sorted") [Str.ofString "key"] (rSortedInt X.K) := by
  intro pins s σ H vs zs us ws Q I r rz h
  obtain ⟨t, ns, rfl, rfl, hq, nl, q⟩ := h
  obtain rfl := Vals.ref1 r
  obtain ⟨w1, rfl, e1⟩ := vals1 rz
  obtain rfl : w1 = Value.type "int" := e1
  obtain ⟨its, rv, pl, hz⟩ := I.tuple hq
  have iv : PyProof.Rows.IntsAre its ns := by simpa using rv.ints
  refine sorted_tup_int pl iv (by rw [List.length_map] at hz; exact hz) (by omega) fun out c h' tk p hp k hD io => ?_
  have hlen : ((ns.mergeSort fun a b => decide (a ≤ b)).map V.int).length ≤ sizeLine := by
    rw [List.length_map, List.length_mergeSort]
    exact Nat.le_of_lt (small1000 (by omega))
  exact ⟨.ref p, _, I.laid (t' := tk) (o := .lst ((ns.mergeSort fun a b => decide (a ≤ b)).map V.int)) k hp ⟨hlen, out, c, vals_of_ints io, hD⟩, rfl, q p (I.hok.fresh hp)⟩
theorem cut_map (ps : List Int) (lo hi : Option Int) : ∃ ms : List Int, cutV (ps.map V.int) lo hi = ms.map V.int ∧ ∀ m ∈ ms, m ∈ ps := by
  unfold cutV
  refine ⟨(ps.drop (HT.sIx (ps.map V.int).length 0 lo)).take (HT.sIx (ps.map V.int).length (ps.map V.int).length hi - HT.sIx (ps.map V.int).length 0 lo), ?_, fun m hm => ?_⟩
  · rw [List.map_take, List.map_drop]
  · exact List.mem_of_mem_drop (List.mem_of_mem_take hm)
theorem within_rep {ds : List Int} {n : Nat} {b : Int} (h : Within ds (List.replicate n b)) : ∀ d ∈ ds, 0 ≤ d ∧ d < b := by
  induction n generalizing ds with
  | zero =>
    cases h.n
    intro d hd
    cases hd
  | succ n ih =>
    obtain ⟨d, r, rfl, h0, h1, w⟩ := Within.c (show Within ds (b :: List.replicate n b) from h)
    intro x hx
    rcases List.mem_cons.mp hx with rfl | hx
    · exact ⟨h0, h1⟩
    · exact ih w x hx
theorem five {α : Type} {xs : List α} (h : xs.length = 5) : ∃ a b c d e, xs = [a, b, c, d, e] := by
  rcases xs with _ | ⟨a, _ | ⟨b, _ | ⟨c, _ | ⟨d, _ | ⟨e, _ | ⟨f, r⟩⟩⟩⟩⟩⟩ <;> simp at h
  exact ⟨a, b, c, d, e, rfl⟩
theorem map_erase : ∀ (ls : List Int) (k : Nat), (ls.map V.int).eraseIdx k = (ls.eraseIdx k).map V.int
  | [], k => by cases k <;> rfl
  | n :: r, 0 => rfl
  | n :: r, k + 1 => by
    show V.int n :: (r.map V.int).eraseIdx k = _
    rw [map_erase r k]
    rfl
/-- the first k of an order, ascending -/
def firstK (os : List Int) (k : Int) : List Int := (os.take k.toNat).mergeSort fun a b => decide (a ≤ b)
theorem firstK_len (os : List Int) (k : Int) : (firstK os k).length ≤ os.length := by
  unfold firstK
  rw [List.length_mergeSort, List.length_take]
  exact Nat.min_le_right _ _
theorem perm_sumI {l k : List Int} (h : l.Perm k) : l.sum = k.sum := by
  induction h with
  | nil => rfl
  | cons x _ ih =>
    rw [List.sum_cons, List.sum_cons, ih]
  | swap x y r =>
    rw [List.sum_cons, List.sum_cons, List.sum_cons, List.sum_cons]
    omega
  | trans _ _ a b => exact a.trans b
/-- what lies above 0 -/
def ups (l : List Int) : Int := (l.map fun x => max 0 x).sum
theorem ups_nn : ∀ l : List Int, 0 ≤ ups l
  | [] => Int.le_refl _
  | x :: r => by
    have := ups_nn r
    show 0 ≤ max 0 x + ups r
    omega
theorem take_ups : ∀ (l : List Int) (j : Nat), (l.take j).sum ≤ ups l
  | l, 0 => by
    rw [List.take_zero]
    exact ups_nn l
  | [], _ + 1 => Int.le_refl _
  | x :: r, j + 1 => by
    have := take_ups r j
    show x + (r.take j).sum ≤ max 0 x + ups r
    omega
theorem ups_low : ∀ {l : List Int}, (∀ x ∈ l, x ≤ 0) → ups l = 0
  | [], _ => rfl
  | x :: r, h => by
    have h1 := h x List.mem_cons_self
    have h2 := ups_low fun y hy => h y (List.mem_cons_of_mem _ hy)
    show max 0 x + ups r = 0
    omega
/-- behind one that isn't above 0 there is none above 0 -/
def Falls (l : List Int) : Prop := l.Pairwise fun x y => 0 < y → 0 < x
/-- how many are above 0 -/
def hi (l : List Int) : Nat := l.countP fun x => decide (0 < x)
theorem hi_cons (x : Int) (r : List Int) : hi (x :: r) = hi r + if 0 < x then 1 else 0 := by
  unfold hi
  rw [List.countP_cons]
  by_cases h : 0 < x
  · rw [if_pos h, if_pos (decide_eq_true h)]
  · rw [if_neg h, if_neg (by rw [decide_eq_false h]; exact Bool.false_ne_true)]
theorem falls_low {x : Int} {r : List Int} (h : Falls (x :: r)) (k : ¬ 0 < x) : ∀ y ∈ x :: r, y ≤ 0 := fun y hy => by
  rcases List.mem_cons.mp hy with rfl | hy
  · omega
  · have := (List.pairwise_cons.mp h).1 y hy
    rcases (by omega : y ≤ 0 ∨ 0 < y) with z | z
    · exact z
    · exact absurd (this z) k
theorem hi_low : ∀ {l : List Int}, (∀ x ∈ l, x ≤ 0) → hi l = 0
  | [], _ => rfl
  | x :: r, h => by
    have h1 := h x List.mem_cons_self
    rw [hi_cons, hi_low fun y hy => h y (List.mem_cons_of_mem _ hy), if_neg (by omega)]
theorem take_hi : ∀ {l : List Int}, Falls l → (l.take (hi l)).sum = ups l
  | [], _ => rfl
  | x :: r, h => by
    by_cases k : 0 < x
    · rw [hi_cons, if_pos k]
      have := take_hi (List.pairwise_cons.mp h).2
      show x + (r.take (hi r)).sum = max 0 x + ups r
      omega
    · have lo := falls_low h k
      rw [hi_low lo, ups_low lo]
      rfl
theorem take_lt : ∀ {l : List Int} {j : Nat}, Falls l → j < hi l → (l.take j).sum < ups l
  | [], _, _, h => by cases h
  | x :: r, j, h, hj => by
    by_cases k : 0 < x
    · rw [hi_cons, if_pos k] at hj
      cases j with
      | zero =>
        have := ups_nn r
        show (0 : Int) < max 0 x + ups r
        omega
      | succ j =>
        have := take_lt (List.pairwise_cons.mp h).2 (show j < hi r by omega)
        show x + (r.take j).sum < max 0 x + ups r
        omega
    · rw [hi_low (falls_low h k)] at hj
      cases hj
theorem hi_le (l : List Int) : hi l ≤ l.length := List.countP_le_length
/-- the first prefix that reaches the bound is the one of those above 0 -/
theorem best_prefix {l : List Int} {k : Nat} {M : Int} (f : Falls l) (all : ∀ j ≤ l.length, (l.take j).sum ≤ M) (at_ : (l.take k).sum = M) (low : ∀ j < k, (l.take j).sum < M) : ups l = M ∧ k = hi l := by
  have h1 := all (hi l) (hi_le l)
  rw [take_hi f] at h1
  have h2 := take_ups l k
  have e : ups l = M := by omega
  refine ⟨e, ?_⟩
  rcases Nat.lt_trichotomy k (hi l) with z | z | z
  · have := take_lt f z
    omega
  · exact z
  · have := low _ z
    rw [take_hi f] at this
    omega
/-- what a thing brings above the rate T over B -/
def fz (ws ps : List Int) (T B : Int) (t : Nat) : Int := ws.getD t 0 * (ps.getD t 0 * B - T)
theorem fz_pos {ws ps : List Int} {T B : Int} {t : Nat} (h : 1 ≤ ws.getD t 0) : 0 < fz ws ps T B t ↔ T < ps.getD t 0 * B := by
  unfold fz
  constructor
  · intro z
    rcases (by omega : ps.getD t 0 * B - T ≤ 0 ∨ 0 < ps.getD t 0 * B - T) with y | y
    · have := Int.mul_le_mul_of_nonneg_left y (show 0 ≤ ws.getD t 0 by omega)
      rw [Int.mul_zero] at this
      omega
    · omega
  · intro z
    exact Int.mul_pos (by omega) (by omega)
/-- the things dearer than T over B -/
def dearT (ws ps : List Int) (T B : Int) : List Nat := (List.range ws.length).filter fun t => decide (T < ps.getD t 0 * B)
def allF (ws ps : List Int) (T B : Int) : List Int := (List.range ws.length).map (fz ws ps T B)
theorem vw_sum (ws ps : List Int) (T B : Int) : ∀ os : List Nat, vSum ws ps (os.map fun (t : Nat) => (t : Int)) * B - T * wSum ws (os.map fun (t : Nat) => (t : Int)) = (os.map (fz ws ps T B)).sum
  | [] => by
    unfold vSum wSum
    show (0 : Int) * B - T * 0 = 0
    rw [Int.zero_mul, Int.mul_zero]
    rfl
  | t :: r => by
    have ih := vw_sum ws ps T B r
    have e1 : vSum ws ps ((t :: r).map fun (t : Nat) => (t : Int)) = ws.getD t 0 * ps.getD t 0 + vSum ws ps (r.map fun (t : Nat) => (t : Int)) := by
      unfold vSum
      rw [List.map_cons, List.map_cons, List.sum_cons, Int.toNat_natCast]
    have e2 : wSum ws ((t :: r).map fun (t : Nat) => (t : Int)) = ws.getD t 0 + wSum ws (r.map fun (t : Nat) => (t : Int)) := by
      unfold wSum
      rw [List.map_cons, List.map_cons, List.sum_cons, Int.toNat_natCast]
    rw [e1, e2, List.map_cons, List.sum_cons, ← ih]
    unfold fz
    generalize vSum ws ps (r.map fun (t : Nat) => (t : Int)) = a
    generalize wSum ws (r.map fun (t : Nat) => (t : Int)) = c
    grind
theorem vSum_perm {ws ps a b : List Int} (h : a.Perm b) : vSum ws ps a = vSum ws ps b := perm_sumI (h.map _)
theorem wSum_perm {ws a b : List Int} (h : a.Perm b) : wSum ws a = wSum ws b := perm_sumI (h.map _)
theorem filter_ups (F : Nat → Int) (P : Nat → Bool) (h : ∀ t, P t = decide (0 < F t)) : ∀ l : List Nat, ((l.filter P).map F).sum = ups (l.map F)
  | [] => rfl
  | t :: r => by
    have ih := filter_ups F P h r
    by_cases k : 0 < F t
    · rw [List.filter_cons_of_pos (by rw [h t]; exact decide_eq_true k)]
      show F t + ((r.filter P).map F).sum = max 0 (F t) + ups (r.map F)
      omega
    · rw [List.filter_cons_of_neg (by rw [h t, decide_eq_false k]; exact Bool.false_ne_true)]
      show ((r.filter P).map F).sum = max 0 (F t) + ups (r.map F)
      omega
theorem lotOf_ups (F : Nat → Int) (b : Int) : ∀ m : Nat, ((lotOf b m).map fun n => F n.toNat).sum ≤ ups ((List.range m).map F)
  | 0 => Int.le_refl _
  | m + 1 => by
    have ih := lotOf_ups F b m
    have e : ups ((List.range (m + 1)).map F) = ups ((List.range m).map F) + max 0 (F m) := by
      unfold ups
      rw [List.range_succ, List.map_append, List.map_append, List.sum_append]
      congr 1
      show max 0 (F m) + 0 = _
      omega
    rw [e]
    show ((lotOf b m ++ (if b / 2 ^ m % 2 = 1 then [(m : Int)] else [])).map _).sum ≤ _
    rw [List.map_append, List.sum_append]
    split
    · show _ + (F ((m : Int)).toNat + 0) ≤ _
      rw [Int.toNat_natCast]
      omega
    · show _ + 0 ≤ _
      omega
/-- z = T over B is the best worth, brought by the k dearest things -/
structure BestK (ws ps : List Int) (b T B : Int) (k : Nat) : Prop where
  B0 : 0 < B
  T0 : 0 ≤ T
  Tb : T ≤ 10 ^ 39
  Bb : B ≤ 10 ^ 21
  pap : ups (allF ws ps T B) = b * T
  cnt : k = (dearT ws ps T B).length
theorem BestK.dear_at {ws ps : List Int} {b T B : Int} {k : Nat} (h : BestK ws ps b T B k) (w1 : ∀ w ∈ ws, 1 ≤ w) : vSum ws ps ((dearT ws ps T B).map fun (t : Nat) => (t : Int)) * B = T * (b + wSum ws ((dearT ws ps T B).map fun (t : Nat) => (t : Int))) := by
  have e := vw_sum ws ps T B (dearT ws ps T B)
  have e2 : ((dearT ws ps T B).map (fz ws ps T B)).sum = ups (allF ws ps T B) := by
    unfold dearT allF
    have : ∀ l : List Nat, (∀ t ∈ l, t < ws.length) → ((l.filter fun t => decide (T < ps.getD t 0 * B)).map (fz ws ps T B)).sum = ups (l.map (fz ws ps T B)) := by
      intro l
      induction l with
      | nil => exact fun _ => rfl
      | cons t r ih =>
        intro hl
        have ih := ih fun x hx => hl x (List.mem_cons_of_mem _ hx)
        have wt : 1 ≤ ws.getD t 0 := by
          have lt := hl t List.mem_cons_self
          rw [List.getD_eq_getElem?_getD, List.getElem?_eq_getElem lt]
          exact w1 _ (List.getElem_mem lt)
        by_cases k : T < ps.getD t 0 * B
        · rw [List.filter_cons_of_pos (p := fun t => decide (T < ps.getD t 0 * B)) (decide_eq_true k)]
          have := (fz_pos (ps := ps) (T := T) (B := B) wt).mpr k
          show fz ws ps T B t + (List.map _ _).sum = max 0 (fz ws ps T B t) + ups _
          omega
        · rw [List.filter_cons_of_neg (p := fun t => decide (T < ps.getD t 0 * B)) (by rw [decide_eq_false k]; exact Bool.false_ne_true)]
          have : ¬ 0 < fz ws ps T B t := fun z => k ((fz_pos wt).mp z)
          show (List.map _ _).sum = max 0 (fz ws ps T B t) + ups _
          omega
    exact this _ fun t ht => List.mem_range.mp ht
  rw [e2, h.pap] at e
  rw [Int.mul_add]
  have : b * T = T * b := Int.mul_comm _ _
  omega
theorem BestK.lot_le {ws ps : List Int} {b T B : Int} {k : Nat} (h : BestK ws ps b T B k) (c : Int) : vSum ws ps (lotOf c ws.length) * B ≤ T * (b + wSum ws (lotOf c ws.length)) := by
  have e := lotOf_ups (fz ws ps T B) c ws.length
  have p := h.pap
  unfold allF at p
  rw [p] at e
  have v := vw_sum ws ps T B ((lotOf c ws.length).map Int.toNat)
  have back : ((lotOf c ws.length).map Int.toNat).map (fun (t : Nat) => (t : Int)) = lotOf c ws.length := by
    rw [List.map_map]
    exact (List.map_congr_left fun n hn => Int.toNat_of_nonneg (lotOf_mem c hn).1).trans (List.map_id _)
  rw [back, List.map_map] at v
  have v : vSum ws ps (lotOf c ws.length) * B - T * wSum ws (lotOf c ws.length) = ((lotOf c ws.length).map fun n => fz ws ps T B n.toNat).sum := v
  rw [Int.mul_add]
  have : b * T = T * b := Int.mul_comm _ _
  omega
theorem falls_of {ws ps : List Int} {T B : Int} {os : List Nat} (w1 : ∀ w ∈ ws, 1 ≤ w) (B0 : 0 < B) (pm : os.Perm (List.range ws.length)) (pw : os.Pairwise (Dear (pr ps))) : Falls (os.map (fz ws ps T B)) := by
  unfold Falls
  rw [List.pairwise_map]
  have mem : ∀ t ∈ os, 1 ≤ ws.getD t 0 := fun t ht => by
    have lt := List.mem_range.mp (pm.mem_iff.mp ht)
    rw [List.getD_eq_getElem?_getD, List.getElem?_eq_getElem lt]
    exact w1 _ (List.getElem_mem lt)
  refine List.Pairwise.imp_of_mem (fun {x y} hx hy d z => ?_) pw
  have z := (fz_pos (mem y hy)).mp z
  refine (fz_pos (mem x hx)).mpr ?_
  have le : pr ps y ≤ pr ps x := by
    unfold Dear at d
    omega
  have := Int.mul_le_mul_of_nonneg_right le (show 0 ≤ B by omega)
  unfold pr at this
  omega
theorem hi_dear {ws ps : List Int} {T B : Int} {os : List Nat} (w1 : ∀ w ∈ ws, 1 ≤ w) (pm : os.Perm (List.range ws.length)) : hi (os.map (fz ws ps T B)) = (dearT ws ps T B).length := by
  unfold hi dearT
  rw [List.countP_map, ← List.countP_eq_length_filter, pm.countP_eq]
  refine List.countP_congr fun t ht => ?_
  have lt := List.mem_range.mp ht
  have wt : 1 ≤ ws.getD t 0 := by
    rw [List.getD_eq_getElem?_getD, List.getElem?_eq_getElem lt]
    exact w1 _ (List.getElem_mem lt)
  show decide (0 < fz ws ps T B t) = true ↔ decide (T < ps.getD t 0 * B) = true
  rw [decide_eq_true_iff, decide_eq_true_iff]
  exact fz_pos wt
theorem ups_perm {ws ps : List Int} {T B : Int} {os : List Nat} (pm : os.Perm (List.range ws.length)) : ups (os.map (fz ws ps T B)) = ups (allF ws ps T B) := perm_sumI ((pm.map _).map _)
/-- a prefix of a falling order against the best worth -/
theorem BestK.gap {ws ps : List Int} {b T B : Int} {k : Nat} (h : BestK ws ps b T B k) (w1 : ∀ w ∈ ws, 1 ≤ w) {os : List Nat} (pm : os.Perm (List.range ws.length)) (pw : os.Pairwise (Dear (pr ps))) (j : Nat) {V W : Int} (hV : V = vSum ws ps ((os.take j).map fun (t : Nat) => (t : Int))) (hW : W = wSum ws ((os.take j).map fun (t : Nat) => (t : Int))) :
    0 ≤ T * (b + W) - V * B ∧ (j < k → T * (b + W) - V * B ≠ 0) ∧ (j = k → T * (b + W) - V * B = 0) := by
  have f := falls_of (T := T) (B := B) w1 h.B0 pm pw
  have e := vw_sum ws ps T B (os.take j)
  rw [← hV, ← hW] at e
  have u := ups_perm (ps := ps) (T := T) (B := B) pm
  have hk := hi_dear (ps := ps) (T := T) (B := B) w1 pm
  rw [← h.cnt] at hk
  rw [h.pap] at u
  have e1 := take_ups (os.map (fz ws ps T B)) j
  rw [← List.map_take, ← e, u] at e1
  have c : b * T = T * b := Int.mul_comm _ _
  have g : T * (b + W) - V * B = T * b - (V * B - T * W) := by
    rw [Int.mul_add]
    omega
  refine ⟨by omega, fun z => ?_, fun z => ?_⟩
  · have e2 := take_lt f (show j < hi (os.map (fz ws ps T B)) by omega)
    rw [← List.map_take, ← e, u] at e2
    omega
  · have e2 := take_hi f
    rw [hk, ← z, ← List.map_take, ← e, u] at e2
    omega
/-- the first greatest worth of the prefixes of a falling order is the best -/
theorem best_of {ws ps : List Int} {b T B : Int} {k : Nat} (w1 : ∀ w ∈ ws, 1 ≤ w) (B0 : 0 < B) (T0 : 0 ≤ T) (Tb : T ≤ 10 ^ 39) (Bb : B ≤ 10 ^ 21) {os : List Nat} (pm : os.Perm (List.range ws.length)) (pw : os.Pairwise (Dear (pr ps)))
    (all : ∀ j ≤ ws.length, vSum ws ps ((os.take j).map fun (t : Nat) => (t : Int)) * B ≤ T * (b + wSum ws ((os.take j).map fun (t : Nat) => (t : Int))))
    (at_ : vSum ws ps ((os.take k).map fun (t : Nat) => (t : Int)) * B = T * (b + wSum ws ((os.take k).map fun (t : Nat) => (t : Int))))
    (low : ∀ j < k, vSum ws ps ((os.take j).map fun (t : Nat) => (t : Int)) * B < T * (b + wSum ws ((os.take j).map fun (t : Nat) => (t : Int)))) : BestK ws ps b T B k := by
  have f := falls_of (T := T) (B := B) w1 B0 pm pw
  have ol : os.length = ws.length := by rw [pm.length_eq, List.length_range]
  have c : b * T = T * b := Int.mul_comm _ _
  obtain ⟨e, hk⟩ := best_prefix (l := os.map (fz ws ps T B)) (k := k) (M := b * T) f (fun j hj => by
      rw [List.length_map] at hj
      have z := all j (by omega)
      rw [← List.map_take, ← vw_sum]
      rw [Int.mul_add] at z
      omega) (by
      rw [← List.map_take, ← vw_sum]
      have z := at_
      rw [Int.mul_add] at z
      omega) (fun j hj => by
      have z := low j hj
      rw [← List.map_take, ← vw_sum]
      rw [Int.mul_add] at z
      omega)
  exact ⟨B0, T0, Tb, Bb, (ups_perm pm).symm.trans e, hk.trans (hi_dear w1 pm)⟩
theorem ups_if : ∀ l : List Int, (l.map fun x => if x > 0 then x else 0).sum = ups l
  | [] => rfl
  | x :: r => by
    have ih := ups_if r
    show (if x > 0 then x else 0) + (r.map fun x => if x > 0 then x else 0).sum = max 0 x + ups r
    rw [ih]
    by_cases h : x > 0
    · rw [if_pos h]
      omega
    · rw [if_neg h]
      omega
theorem ups_mono {F G : Nat → Int} {c d : Int} (c0 : 0 ≤ c) (d0 : 0 ≤ d) : ∀ {l : List Nat}, (∀ t ∈ l, F t * c ≤ G t * d) → ups (l.map F) * c ≤ ups (l.map G) * d
  | [], _ => by
    show (0 : Int) * c ≤ 0 * d
    rw [Int.zero_mul, Int.zero_mul]
    exact Int.le_refl _
  | t :: r, h => by
    have ih := ups_mono c0 d0 fun x hx => h x (List.mem_cons_of_mem _ hx)
    have h0 := h t List.mem_cons_self
    show (max 0 (F t) + ups (r.map F)) * c ≤ (max 0 (G t) + ups (r.map G)) * d
    rw [Int.add_mul, Int.add_mul]
    have h1 : max 0 (F t) * c ≤ max 0 (G t) * d := by
      rcases (by omega : F t ≤ 0 ∨ 0 < F t) with z | z
      · rw [show max 0 (F t) = 0 by omega, Int.zero_mul]
        exact Int.mul_nonneg (by omega) d0
      · rw [show max 0 (F t) = F t by omega]
        rcases (by omega : G t ≤ 0 ∨ 0 < G t) with y | y
        · rw [show max 0 (G t) = 0 by omega, Int.zero_mul]
          have := Int.mul_le_mul_of_nonneg_right y d0
          rw [Int.zero_mul] at this
          omega
        · rw [show max 0 (G t) = G t by omega]
          exact h0
    omega
theorem BestK.not_above {ws ps : List Int} {b T B T2 B2 : Int} {k k2 : Nat} (b0 : 0 < b) (w0 : ∀ w ∈ ws, 0 ≤ w) (h : BestK ws ps b T B k) (g : BestK ws ps b T2 B2 k2) : T2 * B ≤ T * B2 := by
  have B0 := h.B0
  have B1 := g.B0
  rcases (by omega : T2 * B ≤ T * B2 ∨ T * B2 ≤ T2 * B) with z | z
  · exact z
  · have m := ups_mono (F := fz ws ps T2 B2) (G := fz ws ps T B) (c := B) (d := B2) (by omega) (by omega) (l := List.range ws.length) fun t ht => by
      unfold fz
      have wt : 0 ≤ ws.getD t 0 := by
        rw [List.getD_eq_getElem?_getD, List.getElem?_eq_getElem (List.mem_range.mp ht)]
        exact w0 _ (List.getElem_mem _)
      have e : (ps.getD t 0 * B2 - T2) * B ≤ (ps.getD t 0 * B - T) * B2 := by
        have : ps.getD t 0 * B2 * B = ps.getD t 0 * B * B2 := by grind
        rw [Int.sub_mul, Int.sub_mul]
        omega
      have := Int.mul_le_mul_of_nonneg_left e wt
      rw [Int.mul_assoc, Int.mul_assoc]
      exact this
    have p1 := h.pap
    have p2 := g.pap
    unfold allF at p1 p2
    rw [p1, p2, Int.mul_assoc, Int.mul_assoc] at m
    exact Int.le_of_mul_le_mul_left m b0
/-- there is one best worth only -/
theorem BestK.one {ws ps : List Int} {b T B T2 B2 : Int} {k k2 : Nat} (b0 : 0 < b) (w1 : ∀ w ∈ ws, 1 ≤ w) (h : BestK ws ps b T B k) (g : BestK ws ps b T2 B2 k2) : T2 * B = T * B2 ∧ k2 = k := by
  have w0 : ∀ w ∈ ws, 0 ≤ w := fun w hw => by
    have := w1 w hw
    omega
  have e : T2 * B = T * B2 := by
    have h1 := BestK.not_above b0 w0 h g
    have h2 := BestK.not_above b0 w0 g h
    omega
  refine ⟨e, ?_⟩
  rw [h.cnt, g.cnt]
  unfold dearT
  have B0 := h.B0
  have B1 := g.B0
  have : ∀ t : Nat, decide (T2 < ps.getD t 0 * B2) = decide (T < ps.getD t 0 * B) := fun t => by
    refine decide_eq_decide.mpr ⟨fun z => ?_, fun z => ?_⟩
    · have h1 := Int.mul_lt_mul_of_pos_right z B0
      have h2 : ps.getD t 0 * B2 * B = ps.getD t 0 * B * B2 := by grind
      rw [e, h2] at h1
      exact Int.lt_of_mul_lt_mul_right h1 (by omega)
    · have h1 := Int.mul_lt_mul_of_pos_right z B1
      have h2 : ps.getD t 0 * B * B2 = ps.getD t 0 * B2 * B := by grind
      rw [← e, h2] at h1
      exact Int.lt_of_mul_lt_mul_right h1 (by omega)
  exact congrArg List.length (congrArg (fun P => List.filter P (List.range ws.length)) (funext this))
theorem firstK_mem {os : List Int} {k n : Int} : n ∈ firstK os k ↔ n ∈ os.take k.toNat := (List.mergeSort_perm _ _).mem_iff
theorem lotB_of : ∀ {ns : List Int} {b m : Int}, ns.Pairwise (· < ·) → (∀ x ∈ ns, b < x ∧ x < m) → lotB ns b m = true
  | [], _, _, _, _ => rfl
  | n :: r, b, m, h, k => by
    have hn := k n List.mem_cons_self
    obtain ⟨h1, h2⟩ := List.pairwise_cons.mp h
    exact (if_neg (by omega) : lotB (n :: r) b m = lotB r n m).trans (lotB_of h2 fun x hx => ⟨h1 x hx, (k x (List.mem_cons_of_mem _ hx)).2⟩)

theorem first_perm (os : List Int) (k : Int) : (firstK os k).Perm (os.take k.toNat) := List.mergeSort_perm _ _
/-- the first k of an order as a lot -/
theorem first_lot {m : Nat} {os : List Nat} (pm : os.Perm (List.range m)) (k : Int) : lotB (firstK (os.map fun (t : Nat) => (t : Int)) k) (-1) (m : Int) = true := by
  have nd : (os.map fun (t : Nat) => (t : Int)).Nodup := List.Pairwise.map _ (fun a b h => by
    intro z
    exact h (Int.ofNat.inj z)) (pm.nodup_iff.mpr List.nodup_range)
  have h1 : (firstK (os.map fun (t : Nat) => (t : Int)) k).Pairwise fun a b => decide (a ≤ b) = true := List.pairwise_mergeSort (fun a b c h1 h2 => by
    have h1 := of_decide_eq_true h1
    have h2 := of_decide_eq_true h2
    exact decide_eq_true (by omega)) (fun a b => by
    rcases Int.le_total a b with h | h
    · rw [decide_eq_true h]
      rfl
    · rw [decide_eq_true h, Bool.or_true]) _
  have h2 : (firstK (os.map fun (t : Nat) => (t : Int)) k).Nodup := (first_perm _ _).nodup_iff.mpr ((List.take_sublist _ _).nodup nd)
  refine lotB_of ?_ fun x hx => ?_
  · have h3 := h1.and h2
    exact h3.imp fun {a b} h => by
      have := of_decide_eq_true h.1
      have := h.2
      omega
  · have hx := (first_perm _ _).mem_iff.mp hx
    obtain ⟨t, ht, rfl⟩ := List.mem_map.mp (List.mem_of_mem_take hx)
    have := List.mem_range.mp (pm.mem_iff.mp ht)
    omega
theorem first_take {ws ps : List Int} (os : List Nat) (j : Nat) : vSum ws ps (firstK (os.map fun (t : Nat) => (t : Int)) (j : Int)) = vSum ws ps ((os.take j).map fun (t : Nat) => (t : Int)) ∧ wSum ws (firstK (os.map fun (t : Nat) => (t : Int)) (j : Int)) = wSum ws ((os.take j).map fun (t : Nat) => (t : Int)) := by
  have h := first_perm (os.map fun (t : Nat) => (t : Int)) (j : Int)
  rw [Int.toNat_natCast, ← List.map_take] at h
  exact ⟨vSum_perm h, wSum_perm h⟩
theorem better {V D T B T' B' : Int} (D0 : 0 < D) (B0 : 0 < B) (B1 : 0 < B') (h : V * B ≤ T * D) (g : T * B' < T' * B) : V * B' < T' * D := by
  rcases Int.lt_or_le (V * B') (T' * D) with z | z
  · exact z
  · have h1 := Int.mul_le_mul_of_nonneg_right h (show 0 ≤ B' by omega)
    have h2 := Int.mul_lt_mul_of_pos_right g D0
    have h3 := Int.mul_le_mul_of_nonneg_right z (show 0 ≤ B by omega)
    have e1 : V * B * B' = V * B' * B := by grind
    have e2 : T * D * B' = T * B' * D := by grind
    have e3 : T' * B * D = T' * D * B := by grind
    omega
theorem worse {V D T B T' B' : Int} (D0 : 0 < D) (B1 : 0 < B') (e : T' * D = V * B') (g : T' * B ≤ T * B') : V * B ≤ T * D := by
  have h2 := Int.mul_le_mul_of_nonneg_right g (show 0 ≤ D by omega)
  have e1 : T' * B * D = V * B * B' := by
    have : T' * B * D = T' * D * B := by grind
    rw [this, e]
    grind
  have e2 : T * B' * D = T * D * B' := by grind
  rw [e1, e2] at h2
  exact Int.le_of_mul_le_mul_right h2 B1
theorem sm_60 {x : Int} (h : x.natAbs ≤ 10 ^ 60) : Sm x := sm_of (n := 300) (Nat.lt_of_le_of_lt h (by decide))
theorem low_01 {T B : Int} (h : LowT 0 1 T B) : T = 0 ∧ B = 1 := by
  have h1 := h.eq
  have h2 := h.pos
  have h3 := h.leB
  rw [Int.zero_mul, Int.mul_one] at h1
  exact ⟨h1, by omega⟩
theorem vw_bd {ws ps : List Int} {b : Int} (fi : Fine ws b ps) (hp0 : ∀ p ∈ ps, 0 ≤ p) {ns : List Int} (nl : ns.length ≤ 24) : 0 ≤ vSum ws ps ns ∧ vSum ws ps ns ≤ 24 * 10 ^ 36 ∧ 0 ≤ wSum ws ns ∧ wSum ws ns ≤ 24 * 10 ^ 18 := by
  have bd := items_bd (ns := ns) fi.w1 fi.w2 hp0 fi.p2
  have tot := sum_bd bd
  rw [List.length_map] at tot
  have t2 : (ns.length : Int) * 10 ^ 36 ≤ 24 * 10 ^ 36 := Int.mul_le_mul_of_nonneg_right (by omega) (by decide)
  have S1 := wSum_le ns fi.w2
  have S2 : (ns.length : Int) * 10 ^ 18 ≤ 24 * 10 ^ 18 := Int.mul_le_mul_of_nonneg_right (by omega) (by decide)
  refine ⟨sum_nn fun x hx => (bd x hx).1, by unfold vSum; omega, ?_, by omega⟩
  unfold wSum
  exact sum_nn fun x hx => by
    obtain ⟨n, _, rfl⟩ := List.mem_map.mp hx
    exact getD_nn fi.w1 _

/-- the things dearer than T over B, of the first i -/
def dearU (ps : List Int) (T B : Int) (i : Nat) : List Int := ((List.range i).filter fun t => decide (T < ps.getD t 0 * B)).map fun (t : Nat) => (t : Int)
theorem dearU_all (ws ps : List Int) (T B : Int) : dearU ps T B ws.length = (dearT ws ps T B).map fun (t : Nat) => (t : Int) := rfl
theorem dearU_next (ps : List Int) (T B : Int) (i : Nat) : dearU ps T B (i + 1) = dearU ps T B i ++ if T < ps.getD i 0 * B then [(i : Int)] else [] := by
  unfold dearU
  rw [List.range_succ, List.filter_append, List.map_append]
  congr 1
  by_cases h : T < ps.getD i 0 * B
  · rw [if_pos h, List.filter_cons_of_pos (p := fun t => decide (T < ps.getD t 0 * B)) (decide_eq_true h)]
    rfl
  · rw [if_neg h, List.filter_cons_of_neg (p := fun t => decide (T < ps.getD t 0 * B)) (by rw [decide_eq_false h]; exact Bool.false_ne_true)]
    rfl
theorem dearU_len (ps : List Int) (T B : Int) (i : Nat) : (dearU ps T B i).length ≤ i := by
  unfold dearU
  rw [List.length_map]
  have := List.length_filter_le (fun t => decide (T < ps.getD t 0 * B)) (List.range i)
  rw [List.length_range] at this
  exact this
theorem fW_best_dearest (m a : Int) (t : Addr) : (fW m a t).lookup ("best_dearest" : Str) = none := by rfl
theorem fW_best (m a : Int) (t : Addr) : (fW m a t).lookup ("best" : Str) = none := by rfl

/-- over a list or a tuple -/
theorem pi_Q {X : Cx} {tg e : Expr} {te : TE} (he : PE X e te) : PI X tg e (fun σ H R => te σ H fun v H1 => ∃ a, v = V.ref a ∧ (((∃ xs, SqL X.K H1 a xs) ∧ R (Itl X.K a) H1) ∨ ((∃ xs, SqT X.K H1 a xs) ∧ R (Itt X.K a) H1))) := by
  refine ⟨fun ps t τ G R J h => thn (he.run ps t τ G _ J h) ?_⟩
  rintro v t2 ⟨x, G1, J1, rx, a, rfl, q⟩
  cases (show v = Value.ref a from rx)
  rcases q with ⟨⟨xs, hq⟩, q⟩ | ⟨⟨xs, hq⟩, q⟩
  · obtain ⟨its, _, pl, _⟩ := J1.list hq
    exact wpAny_pyIter_list pl.isList (pi_one J1 _ (turn_list a _) ⟨_, Heap.get?_push_size _ rfl, rfl, rfl⟩ q)
  · obtain ⟨its, _, pl, _⟩ := J1.tuple hq
    exact wpAny_pyIter_tuple (show t2.heap.IsTuple a its.toArray from pl) (pi_one J1 _ (turn_tuple a _) ⟨_, Heap.get?_push_size _ rfl, rfl, rfl⟩ q)
theorem set_ints (ps : List Int) (j : Nat) (v : Int) : (ps.map V.int).set j (.int v) = (ps.set j v).map V.int := by rw [List.map_set]
theorem ixn_at {j m : Nat} (h : j < m) : ixN m (j : Int) = some j := by
  unfold ixN
  rw [if_pos (by omega), if_pos (by omega), Int.toNat_natCast]
theorem sh_ints (ns : List Int) : SeqAt.shaped (.list (ns.map PyData.int)) = true := by
  unfold SeqAt.shaped
  rw [show (PyData.list (ns.map PyData.int)).canLay0 = true from lay_ints ns, depth_ints ns]
  rfl

theorem sh_prices : SeqAt.shaped (.list [PyData.str ("prices" : Str), PyData.none]) = true := by decide +kernel
theorem negAt_set : ∀ {ps : List Int} {i k : Nat} {v : Int}, (∀ p ∈ ps, 0 ≤ p) → k < ps.length → v < 0 → negAt (ps.set k v) i = some (i + k)
  | [], _, _, _, _, h, _ => absurd h (by simp)
  | p :: r, i, 0, v, _, _, hv => by
    rw [List.set_cons_zero]
    unfold negAt
    rw [if_pos hv]
    rfl
  | p :: r, i, k + 1, v, hn, h, hv => by
    rw [List.set_cons_succ]
    unfold negAt
    have := hn p List.mem_cons_self
    rw [if_neg (by omega), negAt_set (fun q hq => hn q (List.mem_cons_of_mem _ hq)) (by rw [List.length_cons] at h; omega) hv]
    congr 1
    omega
/-! ### the bar: what the things above it bring is what the margin lacks -/
def wO (ws : List Int) (l : List Nat) : Int := (l.map fun t => ws.getD t 0).sum
def vO (ws ps : List Int) (l : List Nat) : Int := (l.map fun t => ws.getD t 0 * ps.getD t 0).sum
theorem sum_snoc (l : List Int) (x : Int) : (l ++ [x]).sum = l.sum + x := by
  rw [List.sum_append, List.sum_cons, List.sum_nil]
  omega
theorem wO_snoc (ws : List Int) (l : List Nat) (t : Nat) : wO ws (l ++ [t]) = wO ws l + ws.getD t 0 := by
  unfold wO
  rw [List.map_append]
  exact sum_snoc _ _
theorem vO_snoc (ws ps : List Int) (l : List Nat) (t : Nat) : vO ws ps (l ++ [t]) = vO ws ps l + ws.getD t 0 * ps.getD t 0 := by
  unfold vO
  rw [List.map_append]
  exact sum_snoc _ _
theorem fz_sum (ws ps : List Int) (T B : Int) : ∀ l : List Nat, (l.map (fz ws ps T B)).sum = B * vO ws ps l - T * wO ws l
  | [] => by
    show (0 : Int) = B * 0 - T * 0
    omega
  | t :: r => by
    have h := fz_sum ws ps T B r
    have e1 : vO ws ps (t :: r) = ws.getD t 0 * ps.getD t 0 + vO ws ps r := rfl
    have e2 : wO ws (t :: r) = ws.getD t 0 + wO ws r := rfl
    rw [List.map_cons, List.sum_cons, h, e1, e2]
    unfold fz
    grind
theorem ups_pos : ∀ {l : List Int}, (∀ x ∈ l, 0 ≤ x) → ups l = l.sum
  | [], _ => rfl
  | x :: r, h => by
    have h1 := h x List.mem_cons_self
    have h2 := ups_pos fun y hy => h y (List.mem_cons_of_mem _ hy)
    show max 0 x + ups r = x + r.sum
    omega
theorem ups_snoc1 (l : List Int) (x : Int) : ups (l ++ [x]) = ups l + max 0 x := by
  unfold ups
  rw [List.map_append]
  exact sum_snoc _ _
theorem ups_scale {c : Int} (c0 : 0 ≤ c) : ∀ l : List Int, ups (l.map fun x => c * x) = c * ups l
  | [] => by
    show (0 : Int) = c * 0
    omega
  | x :: r => by
    have h := ups_scale c0 r
    show max 0 (c * x) + ups (r.map fun x => c * x) = c * (max 0 x + ups r)
    rw [h, Int.mul_add]
    rcases Int.le_total 0 x with z | z
    · have := Int.mul_nonneg c0 z
      rw [Int.max_eq_right z, Int.max_eq_right this]
    · have := Int.mul_nonneg c0 (show 0 ≤ -x by omega)
      rw [Int.mul_neg] at this
      rw [Int.max_eq_left z, Int.max_eq_left (by omega)]
      omega
theorem fz_scale (ws ps : List Int) (c T B : Int) (t : Nat) : fz ws ps (c * T) (c * B) t = c * fz ws ps T B t := by
  unfold fz
  grind
theorem allF_scale {c : Int} (c0 : 0 ≤ c) (ws ps : List Int) (T B : Int) : ups (allF ws ps (c * T) (c * B)) = c * ups (allF ws ps T B) := by
  unfold allF
  rw [← ups_scale c0, List.map_map]
  congr 1
  exact List.map_congr_left fun t _ => fz_scale ws ps c T B t
structure BarAt (ws ps : List Int) (a m D : Int) (os : List Nat) (k : Nat) (S Z : Int) : Prop where
  Zp : ∃ j, j ≤ k ∧ Z = a + wO ws (os.take j)
  Z0 : a ≤ Z
  S0 : 0 ≤ S
  Sb : S ≤ 10 ^ 18 * (Z - a)
  eq : ups ((os.take k).map (fz ws ps (m * a + D * S) (D * Z))) = a * (m * a + D * S - m * Z)
  alt : (S = vO ws ps (os.take k) ∧ Z = a + wO ws (os.take k) ∧ ∀ t ∈ os.take k, m * a + D * S ≤ ps.getD t 0 * (D * Z)) ∨ (∀ t ∈ os.drop k, ps.getD t 0 * (D * Z) ≤ m * a + D * S)
theorem bar_zero (ws ps : List Int) (a m D : Int) (os : List Nat) : BarAt ws ps a m D os 0 0 a :=
  ⟨⟨0, Nat.le_refl _, (Int.add_zero _).symm⟩, Int.le_refl _, Int.le_refl _, by omega, by
    show (0 : Int) = a * (m * a + D * 0 - m * a)
    rw [Int.mul_zero, show m * a + 0 - m * a = 0 by omega, Int.mul_zero], .inl ⟨rfl, (Int.add_zero _).symm, fun t h => absurd h (by simp)⟩⟩
section
variable {ws ps : List Int} {a m D S Z : Int} {os : List Nat} {k t : Nat}
theorem take_next (h : os[k]? = some t) : os.take (k + 1) = os.take k ++ [t] := by
  rw [List.take_succ, h]
  rfl
theorem drop_next (h : os[k]? = some t) : os.drop k = t :: os.drop (k + 1) := by
  obtain ⟨hk, e⟩ := List.getElem?_eq_some_iff.mp h
  rw [List.drop_eq_getElem_cons hk, e]
theorem bar_no (D0 : 0 < D) (a0 : 0 < a) (w0 : ∀ t, 0 ≤ ws.getD t 0) (h : BarAt ws ps a m D os k S Z) (g : os[k]? = some t) (so : os.Pairwise fun i j => ps.getD j 0 ≤ ps.getD i 0) (c : ps.getD t 0 * (D * Z) ≤ m * a + D * S) : BarAt ws ps a m D os (k + 1) S Z := by
  obtain ⟨⟨j, hj, ej⟩, Z0, S0, Sb, eq, _⟩ := h
  refine ⟨⟨j, by omega, ej⟩, Z0, S0, Sb, ?_, .inr fun u hu => ?_⟩
  · rw [take_next g, List.map_append, List.map_cons, List.map_nil, ups_snoc1, eq]
    have : fz ws ps (m * a + D * S) (D * Z) t ≤ 0 := by
      unfold fz
      have := Int.mul_nonneg (w0 t) (show 0 ≤ m * a + D * S - ps.getD t 0 * (D * Z) by omega)
      have e : ws.getD t 0 * (m * a + D * S - ps.getD t 0 * (D * Z)) = - (ws.getD t 0 * (ps.getD t 0 * (D * Z) - (m * a + D * S))) := by grind
      omega
    omega
  · have hd := drop_next g
    have sd : (os.drop k).Pairwise fun i j => ps.getD j 0 ≤ ps.getD i 0 := so.sublist (List.drop_sublist _ _)
    rw [hd] at sd
    have le := (List.pairwise_cons.mp sd).1 u hu
    have DZ : 0 ≤ D * Z := Int.mul_nonneg (by omega) (by omega)
    have := Int.mul_le_mul_of_nonneg_right le DZ
    omega
theorem bar_yes (D0 : 0 < D) (a0 : 0 < a) (w0 : ∀ t, 0 ≤ ws.getD t 0) (p0 : 0 ≤ ps.getD t 0) (p1 : ps.getD t 0 ≤ 10 ^ 18) (h : BarAt ws ps a m D os k S Z) (g : os[k]? = some t) (so : os.Pairwise fun i j => ps.getD j 0 ≤ ps.getD i 0)
    (c : m * a + D * S < ps.getD t 0 * (D * Z)) : BarAt ws ps a m D os (k + 1) (S + ws.getD t 0 * ps.getD t 0) (Z + ws.getD t 0) := by
  obtain ⟨⟨j, hj, ej⟩, Z0, S0, Sb, eq, alt⟩ := h
  rcases alt with ⟨eS, eZ, up⟩ | low
  · have wt := w0 t
    have tk := take_next g
    have S1 : S + ws.getD t 0 * ps.getD t 0 = vO ws ps (os.take (k + 1)) := by rw [tk, vO_snoc, ← eS]
    have Z1 : Z + ws.getD t 0 = a + wO ws (os.take (k + 1)) := by
      rw [tk, wO_snoc, eZ]
      omega
    have wp : 0 ≤ ws.getD t 0 * ps.getD t 0 := Int.mul_nonneg wt p0
    have wp2 := Int.mul_le_mul_of_nonneg_left p1 wt
    have up2 : ∀ u ∈ os.take (k + 1), m * a + D * (S + ws.getD t 0 * ps.getD t 0) ≤ ps.getD u 0 * (D * (Z + ws.getD t 0)) := fun u hu => by
      have e1 : ps.getD u 0 * (D * (Z + ws.getD t 0)) = ps.getD u 0 * (D * Z) + D * (ws.getD t 0 * ps.getD u 0) := by grind
      have e2 : D * (S + ws.getD t 0 * ps.getD t 0) = D * S + D * (ws.getD t 0 * ps.getD t 0) := Int.mul_add _ _ _
      rw [e1, e2]
      rw [tk] at hu
      rcases List.mem_append.mp hu with hu | hu
      · have h1 := up u hu
        have le : ps.getD t 0 ≤ ps.getD u 0 := by
          have sd : (os.take (k + 1)).Pairwise fun i j => ps.getD j 0 ≤ ps.getD i 0 := so.sublist (List.take_sublist _ _)
          rw [tk] at sd
          exact (List.pairwise_append.mp sd).2.2 u hu t (List.mem_singleton.mpr rfl)
        have := Int.mul_le_mul_of_nonneg_left (Int.mul_le_mul_of_nonneg_left le wt) (show 0 ≤ D by omega)
        omega
      · rw [List.mem_singleton.mp hu]
        omega
    refine ⟨⟨k + 1, Nat.le_refl _, Z1⟩, by omega, by omega, by rw [Int.mul_comm] at wp2; rw [show (10 : Int) ^ 18 * (Z + ws.getD t 0 - a) = 10 ^ 18 * (Z - a) + 10 ^ 18 * ws.getD t 0 by omega]; rw [Int.mul_comm (ps.getD t 0)] at wp2; omega, ?_, .inl ⟨S1, Z1, up2⟩⟩
    rw [ups_pos, fz_sum, ← S1, show wO ws (os.take (k + 1)) = Z + ws.getD t 0 - a by omega]
    · generalize S + ws.getD t 0 * ps.getD t 0 = S'
      generalize Z + ws.getD t 0 = Z'
      grind
    · intro x hx
      obtain ⟨u, hu, rfl⟩ := List.mem_map.mp hx
      have := up2 u hu
      exact Int.mul_nonneg (w0 u) (by omega)
  · rw [drop_next g] at low
    have := low t List.mem_cons_self
    omega
/-- the whole: N over D * Z is the bar of the margin m over D -/
theorem bar_end (h : BarAt ws ps a m D os k S Z) (hk : k = os.length) (pm : os.Perm (List.range ws.length)) : ups (allF ws ps (m * a + D * S) (D * Z)) = a * (m * a + D * S - m * Z) := by
  have e := h.eq
  rw [hk, List.take_length, ups_perm pm] at e
  exact e
end
/-! ### the order of the things, the totals that may stand below -/
def Ord (ps : List Int) (os : List Nat) : Prop := os.Perm (List.range ps.length) ∧ os.Pairwise (Dear (pr ps))
theorem ord_one {ps : List Int} {os os' : List Nat} (h : Ord ps os) (h' : Ord ps os') : os = os' :=
  (h.1.trans h'.1.symm).eq_of_pairwise (fun a b _ _ h1 h2 => by
    rcases h1 with h1 | h1 <;> rcases h2 with h2 | h2 <;> omega) h.2 h'.2
theorem ord_falls {ps : List Int} {os : List Nat} (h : Ord ps os) : os.Pairwise fun i j => ps.getD j 0 ≤ ps.getD i 0 :=
  h.2.imp fun {i j} c => by
    have e : ∀ t, pr ps t = ps.getD t 0 := fun _ => rfl
    rcases c with c | c
    · rw [e, e] at c
      omega
    · have := c.1
      rw [e, e] at this
      omega
def ZOf (ws : List Int) (a : Int) (os : List Nat) (z : Int) : Prop := ∃ j, z = a + wO ws (os.take j)
theorem wO_nn {ws : List Int} (w0 : ∀ t, 0 ≤ ws.getD t 0) : ∀ l : List Nat, 0 ≤ wO ws l
  | [] => Int.le_refl _
  | t :: r => by
    have h1 := wO_nn w0 r
    have h2 := w0 t
    show 0 ≤ ws.getD t 0 + wO ws r
    omega
theorem wO_le {ws : List Int} (w2 : ∀ t, ws.getD t 0 ≤ 10 ^ 18) : ∀ l : List Nat, wO ws l ≤ 10 ^ 18 * (l.length : Int)
  | [] => Int.le_refl _
  | t :: r => by
    have h1 := wO_le w2 r
    have h2 := w2 t
    show ws.getD t 0 + wO ws r ≤ 10 ^ 18 * ((r.length + 1 : Nat) : Int)
    omega
/-- a season's worths over one bottom -/
structure Grid (ws ps : List Int) (a D : Int) (X : Nat → Nat → Int) (S n : Nat) : Prop where
  D0 : 0 < D
  z0 : ∀ i, X 0 i = 0
  zs : ∀ b, X b 0 = 0
  st : ∀ b i, b < n → i < S → ups (allF ws ps (X (b + 1) (i + 1) - X b i) D) = a * (X (b + 1) (i + 1) - X b (i + 1))
theorem mul_pos_cancel {a x : Int} (a0 : 0 < a) (h : 0 ≤ a * x) : 0 ≤ x := by
  rcases Int.lt_or_le x 0 with z | z
  · have := Int.mul_lt_mul_of_pos_left z a0
    omega
  · exact z
/-- no price is above: nothing is above -/
theorem ups_none {ws ps : List Int} {T B : Int} (w0 : ∀ t, 0 ≤ ws.getD t 0) (h : ∀ t, ps.getD t 0 * B ≤ T) : ups (allF ws ps T B) = 0 := by
  refine ups_low fun x hx => ?_
  obtain ⟨t, _, rfl⟩ := List.mem_map.mp hx
  unfold fz
  have h1 := h t
  have := Int.mul_nonneg (w0 t) (show 0 ≤ T - ps.getD t 0 * B by omega)
  have e : ws.getD t 0 * (T - ps.getD t 0 * B) = - (ws.getD t 0 * (ps.getD t 0 * B - T)) := by grind
  omega
/-- one step: between what is left and the greatest price more -/
theorem step_bd {ws ps : List Int} {a D x0 x1 y V : Int} (a0 : 0 < a) (D0 : 0 < D) (w0 : ∀ t, 0 ≤ ws.getD t 0) (p2 : ∀ t, ps.getD t 0 ≤ V) (e : ups (allF ws ps (y - x0) D) = a * (y - x1)) : x1 ≤ y ∧ (y ≤ x1 ∨ y ≤ x0 + V * D) := by
  have n := ups_nn (allF ws ps (y - x0) D)
  rw [e] at n
  have g := mul_pos_cancel a0 n
  refine ⟨by omega, ?_⟩
  rcases Int.lt_or_le (x0 + V * D) y with z | z
  · refine .inl ?_
    have u := ups_none (ps := ps) (T := y - x0) (B := D) w0 fun t => by
      have := Int.mul_le_mul_of_nonneg_right (p2 t) (show 0 ≤ D by omega)
      omega
    rw [e] at u
    rcases Int.mul_eq_zero.mp u with h | h <;> omega
  · exact .inr z
theorem Grid.bd {ws ps : List Int} {a D V : Int} {X : Nat → Nat → Int} {S n : Nat} (g : Grid ws ps a D X S n) (a0 : 0 < a) (V0 : 0 ≤ V) (w0 : ∀ t, 0 ≤ ws.getD t 0) (p2 : ∀ t, ps.getD t 0 ≤ V) : ∀ b i, b ≤ n → i ≤ S → 0 ≤ X b i ∧ X b i ≤ (b : Int) * (V * D)
  | 0, i, _, _ => by
    rw [g.z0 i]
    omega
  | b + 1, 0, _, _ => by
    rw [g.zs]
    have := Int.mul_nonneg (show 0 ≤ ((b + 1 : Nat) : Int) by omega) (Int.mul_nonneg V0 (show 0 ≤ D by have := g.D0; omega))
    omega
  | b + 1, i + 1, hb, hi => by
    have h1 := Grid.bd g a0 V0 w0 p2 b i (by omega) (by omega)
    have h2 := Grid.bd g a0 V0 w0 p2 b (i + 1) (by omega) (by omega)
    have h3 := step_bd a0 g.D0 w0 p2 (g.st b i (by omega) (by omega))
    have VD := Int.mul_nonneg V0 (show 0 ≤ D by have := g.D0; omega)
    have e : ((b + 1 : Nat) : Int) * (V * D) = (b : Int) * (V * D) + V * D := by
      rw [show ((b + 1 : Nat) : Int) = (b : Int) + 1 by omega, Int.add_mul, Int.one_mul]
    rw [e]
    omega
/-- the next row over a new bottom -/
theorem Grid.next {ws ps : List Int} {a D E : Int} {X : Nat → Nat → Int} {S n : Nat} {y z : Nat → Int} (g : Grid ws ps a D X S n) (E0 : 0 < E) (z0 : ∀ i < S, 0 < z i) (ze : ∀ i < S, ∃ e, E = z i * e)
    (st : ∀ i < S, ups (allF ws ps (y i - z i * X n i) (D * z i)) = a * (y i - z i * X n (i + 1))) :
    ∃ X', Grid ws ps a (D * E) X' S (n + 1) ∧ (∀ b i, b ≤ n → X' b i = E * X b i) ∧ X' (n + 1) 0 = 0 ∧ ∀ i < S, ∀ e, E = z i * e → X' (n + 1) (i + 1) = y i * e := by
  refine ⟨fun b i => if b ≤ n then E * X b i else match i with | 0 => 0 | i + 1 => if i < S then y i * (E / z i) else 0, ⟨Int.mul_pos g.D0 E0, fun i => ?_, fun b => ?_, fun b i hb hi => ?_⟩, fun b i hb => if_pos hb, if_neg (by omega), fun i hi e he => ?_⟩
  · rw [if_pos (Nat.zero_le _), g.z0, Int.mul_zero]
  · show (if b ≤ n then E * X b 0 else 0) = 0
    rw [g.zs, Int.mul_zero]
    split <;> rfl
  · show ups (allF ws ps ((if b + 1 ≤ n then E * X (b + 1) (i + 1) else if i < S then y i * (E / z i) else 0) - (if b ≤ n then E * X b i else _)) (D * E)) = a * ((if b + 1 ≤ n then E * X (b + 1) (i + 1) else if i < S then y i * (E / z i) else 0) - if b ≤ n then E * X b (i + 1) else if i < S then _ else 0)
    rw [if_pos (show b ≤ n by omega), if_pos (show b ≤ n by omega)]
    by_cases h : b + 1 ≤ n
    · rw [if_pos h, ← Int.mul_sub, Int.mul_comm D E, allF_scale (by omega), g.st b i (by omega) hi]
      grind
    · rw [if_neg h, if_pos hi]
      obtain rfl : b = n := by omega
      obtain ⟨e, he⟩ := ze i hi
      have zi := z0 i hi
      have ed : E / z i = e := by rw [he, Int.mul_ediv_cancel_left _ (by omega)]
      have e0 : 0 ≤ e := by
        rcases Int.lt_or_le e 0 with c | c
        · have := Int.mul_lt_mul_of_pos_left c zi
          omega
        · exact c
      rw [ed, show y i * e - E * X b i = e * (y i - z i * X b i) by rw [he]; grind, show D * E = e * (D * z i) by rw [he]; grind, allF_scale e0, st i hi, he]
      grind
  · show (if n + 1 ≤ n then _ else if i < S then y i * (E / z i) else 0) = _
    have zi := z0 i hi
    rw [if_neg (by omega), if_pos hi, he, Int.mul_ediv_cancel_left _ (by omega)]

def fS (r tp L : Addr) (s n : Int) : List (Str × V) := putF "_worths" (.ref L) (putF "buyers" (.int n) (putF "seats" (.int s) (putF "prices" (.ref tp) (putF "rule" (.ref r) []))))
theorem fS_rule (r tp L : Addr) (s n : Int) : (fS r tp L s n).lookup ("rule" : Str) = some (V.ref r) := by rfl
theorem fS_prices (r tp L : Addr) (s n : Int) : (fS r tp L s n).lookup ("prices" : Str) = some (V.ref tp) := by rfl
theorem fS_seats (r tp L : Addr) (s n : Int) : (fS r tp L s n).lookup ("seats" : Str) = some (V.int s) := by rfl
theorem fS_buyers (r tp L : Addr) (s n : Int) : (fS r tp L s n).lookup ("buyers" : Str) = some (V.int n) := by rfl
theorem fS__worths (r tp L : Addr) (s n : Int) : (fS r tp L s n).lookup ("_worths" : Str) = some (V.ref L) := by rfl
theorem fS_worth (r tp L : Addr) (s n : Int) : (fS r tp L s n).lookup ("worth" : Str) = none := by rfl
theorem fS_bar (r tp L : Addr) (s n : Int) : (fS r tp L s n).lookup ("bar" : Str) = none := by rfl
theorem fS_lot_to_show (r tp L : Addr) (s n : Int) : (fS r tp L s n).lookup ("lot_to_show" : Str) = none := by rfl
theorem fS__check (r tp L : Addr) (s n : Int) : (fS r tp L s n).lookup ("_check" : Str) = none := by rfl
/-- what a season asks of its rule and prices -/
structure FineS (ws : List Int) (a : Int) (ps : List Int) : Prop where
  f : Fine ws a ps
  len : ps.length = ws.length
  nn : ∀ p ∈ ps, 0 ≤ p
theorem FineS.w0 {ws ps : List Int} {a : Int} (f : FineS ws a ps) (t : Nat) : 0 ≤ ws.getD t 0 := getD_nn f.f.w1 t
theorem FineS.p0 {ws ps : List Int} {a : Int} (f : FineS ws a ps) (t : Nat) : 0 ≤ ps.getD t 0 := getD_n0 f.nn t
theorem FineS.w2 {ws ps : List Int} {a : Int} (f : FineS ws a ps) (t : Nat) : ws.getD t 0 ≤ 10 ^ 18 := getD_le f.f.w2 t
theorem FineS.p2 {ws ps : List Int} {a : Int} (f : FineS ws a ps) (t : Nat) : ps.getD t 0 ≤ 10 ^ 18 := getD_le f.f.p2 t
/-- a fraction in the heap that is x over D -/
def RatD (C : Addr) (H : Hp) (q : Addr) (x D : Int) : Prop := ∃ T B, RatAt C H q T B ∧ LowT x D T B
theorem RatD.same {C : Addr} {H H' : Hp} {q : Addr} {x D : Int} (s : Same H H') (h : RatD C H q x D) : RatD C H' q x D := by
  obtain ⟨T, B, h1, h2⟩ := h
  exact ⟨T, B, h1.same s, h2⟩
/-- a row of worths over D -/
def RowD (C : Addr) (H : Hp) (l : Addr) (S : Nat) (x : Nat → Int) (D : Int) : Prop := ∃ rs : List Addr, H l = some (.lst (rs.map V.ref)) ∧ rs.length = S + 1 ∧ ∀ i q, rs[i]? = some q → RatD C H q (x i) D
theorem RowD.same {C : Addr} {H H' : Hp} {l : Addr} {S : Nat} {x : Nat → Int} {D : Int} (s : Same H H') (h : RowD C H l S x D) : RowD C H' l S x D := by
  obtain ⟨rs, h1, h2, h3⟩ := h
  exact ⟨rs, s _ _ h1, h2, fun i q e => (h3 i q e).same s⟩
/-- not too long: the bottom of a season's worths -/
def BigD (D : Int) : Prop := 0 < D ∧ D ≤ 2 ^ 3760
theorem sm_pow {x D : Int} {k n : Nat} (hD : D ≤ 2 ^ n) (D0 : 0 ≤ D) (hx : (x.natAbs : Int) ≤ 2 ^ k * D) (h : k + n < 7999) : Sm x := by
  refine ⟨k + n + 1, by omega, by omega, ?_⟩
  have h1 : (2 : Int) ^ k * D ≤ 2 ^ k * 2 ^ n := Int.mul_le_mul_of_nonneg_left hD (Int.le_of_lt (Int.pow_pos (by decide)))
  rw [← Int.pow_add] at h1
  have h2 : (x.natAbs : Int) ≤ 2 ^ (k + n) := Int.le_trans hx h1
  have h3 : x.natAbs ≤ 2 ^ (k + n) := by
    have e : ((2 ^ (k + n) : Nat) : Int) = (2 : Int) ^ (k + n) := by
      rw [Int.natCast_pow]
      rfl
    rw [← e] at h2
    exact Int.ofNat_le.mp h2
  exact Nat.lt_of_le_of_lt h3 (Nat.pow_lt_pow_right (by decide) (by omega))
theorem RatD.int {C : Addr} {H : Hp} {q : Addr} {D : Int} (D0 : 0 < D) (h : RatAt C H q 0 1) : RatD C H q 0 D := ⟨0, 1, h, (low_int 0).to (by decide) (by omega) (by omega)⟩
theorem RatD.to {C : Addr} {H : Hp} {q : Addr} {x D x' D' : Int} (h : RatD C H q x D) (D0 : 0 < D) (D1 : 0 < D') (e : x * D' = x' * D) : RatD C H q x' D' := by
  obtain ⟨T, B, h1, h2⟩ := h
  exact ⟨T, B, h1, h2.to (by omega) (by omega) e⟩

theorem natAbs_le {x c D : Int} (h : (x.natAbs : Int) ≤ c * D) (D0 : 0 ≤ D) {c' : Int} (hc : c ≤ c') : (x.natAbs : Int) ≤ c' * D := Int.le_trans h (Int.mul_le_mul_of_nonneg_right hc D0)
theorem lt_of_eq {T Y N B p : Int} (e : T * Y = N * B) (B0 : 0 < B) (Y0 : 0 < Y) : T < p * B ↔ N < p * Y := by
  have e1 : p * B * Y = p * Y * B := by grind
  constructor
  · intro h
    have := Int.mul_lt_mul_of_pos_right h Y0
    rw [e, e1] at this
    exact Int.lt_of_mul_lt_mul_right this (Int.le_of_lt B0)
  · intro h
    have := Int.mul_lt_mul_of_pos_right h B0
    rw [← e, ← e1] at this
    exact Int.lt_of_mul_lt_mul_right this (Int.le_of_lt Y0)
theorem bar_bd {ws ps : List Int} {a m D S Z : Int} {os : List Nat} {k : Nat} (h : BarAt ws ps a m D os k S Z) (fi : FineS ws a ps) (ol : os.length = ps.length) (D0 : 0 < D) (bm : (m.natAbs : Int) ≤ 2 ^ 70 * D) :
    Z ≤ 25 * 10 ^ 18 ∧ ((m * a + D * S).natAbs : Int) ≤ 2 ^ 140 * D ∧ ((D * Z).natAbs : Int) ≤ 2 ^ 65 * D := by
  obtain ⟨⟨j, _, ej⟩, Z0, S0, Sb, _, _⟩ := h
  have a1 := fi.f.b1
  have a2 := fi.f.b2
  have wl := fi.f.wl
  have el := fi.len
  have h1 := wO_le fi.w2 (os.take j)
  have h2 : (os.take j).length ≤ 24 := by
    rw [List.length_take]
    omega
  have zb : Z ≤ 25 * 10 ^ 18 := by omega
  have sb : S ≤ 25 * 10 ^ 36 := by omega
  have m1 := Int.mul_le_mul_of_nonneg_right (show m ≤ 2 ^ 70 * D by omega) (show 0 ≤ a by omega)
  have m2 := Int.mul_le_mul_of_nonneg_right (show -(2 ^ 70 * D) ≤ m by omega) (show 0 ≤ a by omega)
  have m3 := Int.mul_le_mul_of_nonneg_left a2 (show 0 ≤ 2 ^ 70 * D by omega)
  have d1 := Int.mul_le_mul_of_nonneg_left sb (show 0 ≤ D by omega)
  have d2 := Int.mul_nonneg (show 0 ≤ D by omega) S0
  have d3 := Int.mul_le_mul_of_nonneg_left zb (show 0 ≤ D by omega)
  have d4 := Int.mul_nonneg (show 0 ≤ D by omega) (show 0 ≤ Z by omega)
  refine ⟨zb, by rw [Int.neg_mul] at m2; omega, by omega⟩
theorem Ord.len {ps : List Int} {os : List Nat} (h : Ord ps os) : os.length = ps.length := by rw [h.1.length_eq, List.length_range]

theorem RatD.put {C : Addr} {H : Hp} {q l : Addr} {x D : Int} {xs : List V} {o : HO} (hl : H l = some (.lst xs)) (h : RatD C H q x D) : RatD C (upd H l o) q x D := by
  obtain ⟨T, B, ⟨dx, h1⟩, h2⟩ := h
  refine ⟨T, B, ⟨dx, (upd_ne fun z => ?_).trans h1⟩, h2⟩
  rw [z, hl] at h1
  cases h1
/-- one new worth: y over D * z, as the bar tells -/
def CellS (CR : Addr) (H : Hp) (ws ps : List Int) (a D : Int) (x : Nat → Int) (j : Nat) (c : Addr × Int × Int) : Prop :=
  RatD CR H c.1 c.2.1 (D * c.2.2) ∧ ∃ os S, Ord ps os ∧ BarAt ws ps a (x (j + 1) - x j) D os os.length S c.2.2 ∧ c.2.1 = x j * c.2.2 + ((x (j + 1) - x j) * a + D * S)
theorem ref_of {rs : List Addr} {i : Nat} {v : V} (h : (rs.map V.ref)[i]? = some v) : ∃ f, v = .ref f ∧ rs[i]? = some f := by
  rw [List.getElem?_map] at h
  obtain ⟨f, hf, rfl⟩ := Option.map_eq_some_iff.mp h
  exact ⟨f, rfl, hf⟩
theorem CellS.same {CR : Addr} {H H' : Hp} {ws ps : List Int} {a D : Int} {x : Nat → Int} {j : Nat} {c : Addr × Int × Int} (s : Same H H') (h : CellS CR H ws ps a D x j c) : CellS CR H' ws ps a D x j c := ⟨h.1.same s, h.2⟩
theorem CellS.put {CR : Addr} {H : Hp} {ws ps : List Int} {a D : Int} {x : Nat → Int} {j : Nat} {c : Addr × Int × Int} {l : Addr} {xs : List V} {o : HO} (hl : H l = some (.lst xs)) (h : CellS CR H ws ps a D x j c) : CellS CR (upd H l o) ws ps a D x j c := ⟨h.1.put hl, h.2⟩
theorem sq_D {D : Int} (h : BigD D) : D * D ≤ 2 ^ 7520 := by
  have h1 := Int.mul_le_mul h.2 h.2 (by have := h.1; omega) (Int.le_of_lt (Int.pow_pos (by decide)))
  rw [← Int.pow_add] at h1
  exact h1

/-- whatever totals a row has, they go into one number up to X0 -/
def LcmB (ws : List Int) (a : Int) (ps : List Int) (S : Nat) (X0 : Int) : Prop := ∀ zs : List Int, zs.length = S → (∀ z ∈ zs, ∃ os, Ord ps os ∧ ZOf ws a os z) → ∃ E, 0 < E ∧ E ≤ X0 ∧ ∀ z ∈ zs, ∃ e, E = z * e
def RowsD (CR : Addr) (H : Hp) (L : Addr) (S n : Nat) (X : Nat → Nat → Int) (D : Int) : Prop := ∃ rows : List Addr, H L = some (.lst (rows.map V.ref)) ∧ rows.length = n + 1 ∧ ∀ b l, rows[b]? = some l → l ≠ L ∧ RowD CR H l S (X b) D
theorem RowsD.same {CR : Addr} {H H' : Hp} {L : Addr} {S n : Nat} {X : Nat → Nat → Int} {D : Int} (s : Same H H') (h : RowsD CR H L S n X D) : RowsD CR H' L S n X D := by
  obtain ⟨rows, h1, h2, h3⟩ := h
  exact ⟨rows, s _ _ h1, h2, fun b l e => ⟨(h3 b l e).1, (h3 b l e).2.same s⟩⟩
theorem RowD.put {C : Addr} {H : Hp} {l L : Addr} {S : Nat} {x : Nat → Int} {D : Int} {xs : List V} {o : HO} (hL : H L = some (.lst xs)) (ne : l ≠ L) (h : RowD C H l S x D) : RowD C (upd H L o) l S x D := by
  obtain ⟨rs, h1, h2, h3⟩ := h
  exact ⟨rs, (upd_ne ne).trans h1, h2, fun i q e => (h3 i q e).put hL⟩
theorem RowD.to {C : Addr} {H : Hp} {l : Addr} {S : Nat} {x x' : Nat → Int} {D D' : Int} (h : RowD C H l S x D) (D0 : 0 < D) (D1 : 0 < D') (e : ∀ i ≤ S, x i * D' = x' i * D) : RowD C H l S x' D' := by
  obtain ⟨rs, h1, h2, h3⟩ := h
  exact ⟨rs, h1, h2, fun i q g => (h3 i q g).to D0 D1 (e i (by have := (List.getElem?_eq_some_iff.mp g).1; omega))⟩
/-- a season in the heap -/
structure SeaAt (CS CR CW : Addr) (H : Hp) (p cx r dr tr tp L : Addr) (ws : List Int) (a : Int) (ps : List Int) (S n : Nat) (D : Int) (X : Nat → Nat → Int) : Prop where
  hp : H p = some (.ins CS cx (fS r tp L S n))
  w : WAt CW H r dr tr ws a
  ht : H tp = some (.tup (ps.map V.int))
  rows : RowsD CR H L S n X D
  grid : Grid ws ps a D X S n
  big : BigD D
theorem SeaAt.same {CS CR CW : Addr} {H H' : Hp} {p cx r dr tr tp L : Addr} {ws : List Int} {a : Int} {ps : List Int} {S n : Nat} {D : Int} {X : Nat → Nat → Int} (s : Same H H') (h : SeaAt CS CR CW H p cx r dr tr tp L ws a ps S n D X) : SeaAt CS CR CW H' p cx r dr tr tp L ws a ps S n D X :=
  ⟨s _ _ h.hp, h.w.same s, s _ _ h.ht, h.rows.same s, h.grid, h.big⟩
theorem same_of_sx {p : Addr} {H H' : Hp} (s : SameX p H H') (n : H p = none) : Same H H' := fun b o e => s b o (fun z => by rw [z, n] at e; cases e) e

theorem WAt.sx {C CS : Addr} {H H' : Hp} {p cx r dr tr : Addr} {ws : List Int} {a : Int} (hp : H p = some (.ins CS cx [])) (s : SameX p H H') (w : WAt C H r dr tr ws a) : WAt C H' r dr tr ws a := by
  refine ⟨s _ _ (fun z => ?_) w.1, s _ _ (fun z => ?_) w.2⟩
  · have := w.1
    rw [z, hp] at this
    have := congrArg (fun o => match o with | some (HO.ins _ _ fs) => fs.length | _ => 0) this
    exact absurd this (by show ¬ (0 = 3); decide)
  · have := w.2
    rw [z, hp] at this
    cases this
theorem sx_at {L b : Addr} {H H' : Hp} {xs : List V} {o : HO} (hL : H L = some (.lst xs)) (s : SameX L H H') (no : ∀ ys, o ≠ .lst ys) (hb : H b = some o) : H' b = some o :=
  s b o (fun z => by
    rw [z, hL] at hb
    exact no xs (Option.some.inj hb).symm) hb
theorem WAt.sxL {C L : Addr} {H H' : Hp} {r dr tr : Addr} {ws : List Int} {a : Int} {xs : List V} (hL : H L = some (.lst xs)) (s : SameX L H H') (w : WAt C H r dr tr ws a) : WAt C H' r dr tr ws a :=
  ⟨sx_at hL s (fun _ z => by cases z) w.1, sx_at hL s (fun _ z => by cases z) w.2⟩
theorem pow_up {X : Int} (h : 1 ≤ X) {m n : Nat} (l : m ≤ n) : X ^ m ≤ X ^ n := by
  obtain ⟨k, rfl⟩ : ∃ k, n = m + k := ⟨n - m, by omega⟩
  rw [Int.pow_add]
  have h1 : 1 ≤ X ^ k := by
    have : ∀ k : Nat, 1 ≤ X ^ k := fun k => by
      induction k with
      | zero =>
        rw [Int.pow_zero]
        exact Int.le_refl _
      | succ k ih =>
        rw [Int.pow_succ]
        have := Int.mul_le_mul ih h (by decide) (by omega)
        omega
    exact this k
  have h2 : 0 ≤ X ^ m := Int.le_of_lt (Int.pow_pos (by omega))
  have := Int.mul_le_mul_of_nonneg_left h1 h2
  omega

theorem season_next {CR : Addr} {H : Hp} {ws ps : List Int} {a D X0 : Int} {X : Nat → Nat → Int} {S i : Nat} {cs : List (Addr × Int × Int)} (gr : Grid ws ps a D X S i) (fi : FineS ws a ps) (ls : cs.length = S) (hc : ∀ j c, cs[j]? = some c → CellS CR H ws ps a D (X i) j c)
    (lc : LcmB ws a ps S X0) (x1 : 1 ≤ X0) (Dx : D ≤ X0 ^ i) : ∃ E X', 0 < E ∧ Grid ws ps a (D * E) X' S (i + 1) ∧ D * E ≤ X0 ^ (i + 1) ∧ (∀ b j, b ≤ i → X' b j = E * X b j) ∧ X' (i + 1) 0 = 0 ∧ ∀ j c, cs[j]? = some c → RatD CR H c.1 (X' (i + 1) (j + 1)) (D * E) := by
  have a1 := fi.f.b1
  have D0 := gr.D0
  obtain ⟨E, E0, E1, hE⟩ := lc (cs.map fun c => c.2.2) (by rw [List.length_map, ls]) fun z hz => by
    obtain ⟨c, hcm, rfl⟩ := List.mem_map.mp hz
    obtain ⟨j, hj, rfl⟩ := List.mem_iff_getElem.mp hcm
    obtain ⟨_, os, S', od, ba, _⟩ := hc j _ (List.getElem?_eq_getElem hj)
    obtain ⟨k, _, hk⟩ := ba.Zp
    exact ⟨os, od, k, hk⟩
  have at_ : ∀ j < S, ∃ c, cs[j]? = some c ∧ cs.getD j (0, 0, 0) = c := fun j hj => ⟨cs[j], List.getElem?_eq_getElem (by omega), by rw [List.getD_eq_getElem?_getD, List.getElem?_eq_getElem (by omega)]; rfl⟩
  have ze : ∀ j < S, ∃ e, E = (cs.getD j (0, 0, 0)).2.2 * e := fun j hj => by
    obtain ⟨c, h1, h2⟩ := at_ j hj
    rw [h2]
    exact hE _ (List.mem_map.mpr ⟨c, List.mem_of_getElem? h1, rfl⟩)
  obtain ⟨X', g', old, n0, nw⟩ := gr.next (y := fun j => (cs.getD j (0, 0, 0)).2.1) (z := fun j => (cs.getD j (0, 0, 0)).2.2) E0 (fun j hj => by
    obtain ⟨c, h1, h2⟩ := at_ j hj
    obtain ⟨_, os, S', od, ba, _⟩ := hc j c h1
    show 0 < (cs.getD j (0, 0, 0)).2.2
    rw [h2]
    have := ba.Z0
    omega) ze (fun j hj => by
    obtain ⟨c, h1, h2⟩ := at_ j hj
    obtain ⟨_, os, S', od, ba, ey⟩ := hc j c h1
    show ups (allF ws ps ((cs.getD j (0, 0, 0)).2.1 - (cs.getD j (0, 0, 0)).2.2 * X i j) (D * (cs.getD j (0, 0, 0)).2.2)) = a * ((cs.getD j (0, 0, 0)).2.1 - (cs.getD j (0, 0, 0)).2.2 * X i (j + 1))
    rw [h2, ey]
    have be := bar_end ba rfl (by rw [← fi.len]; exact od.1)
    rw [show X i j * c.2.2 + ((X i (j + 1) - X i j) * a + D * S') - c.2.2 * X i j = (X i (j + 1) - X i j) * a + D * S' by grind, be]
    grind)
  refine ⟨E, X', E0, g', ?_, old, n0, fun j c h1 => ?_⟩
  · rw [Int.pow_succ]
    exact Int.mul_le_mul Dx E1 (by omega) (Int.le_of_lt (Int.pow_pos (by omega)))
  · have hj : j < S := by
      have := (List.getElem?_eq_some_iff.mp h1).1
      omega
    obtain ⟨c', h1', h2⟩ := at_ j hj
    obtain rfl : c' = c := Option.some.inj (h1'.symm.trans h1)
    obtain ⟨rd, os, S', od, ba, _⟩ := hc j _ h1
    obtain ⟨e, he⟩ := ze j hj
    have nw := nw j hj e he
    rw [h2] at he
    have Z0 := ba.Z0
    refine rd.to (Int.mul_pos D0 (by omega)) (Int.mul_pos D0 E0) ?_
    rw [nw]
    show c'.2.1 * (D * E) = (cs.getD j (0, 0, 0)).2.1 * e * (D * c'.2.2)
    rw [h2, he]
    grind

theorem RowsD.at_ {CR : Addr} {H : Hp} {L : Addr} {S n : Nat} {X : Nat → Nat → Int} {D : Int} (h : RowsD CR H L S n X D) {b s : Nat} (hb : b ≤ n) (hs : s ≤ S) : ∃ (rows : List Addr) (l : Addr) (rs : List Addr) (q : Addr), H L = some (.lst (rows.map V.ref)) ∧ (rows.map V.ref)[b]? = some (.ref l) ∧ H l = some (.lst (rs.map V.ref)) ∧ (rs.map V.ref)[s]? = some (.ref q) ∧ RatD CR H q (X b s) D := by
  obtain ⟨rows, h1, h2, h3⟩ := h
  have e1 : rows[b]? = some rows[b] := List.getElem?_eq_getElem (by omega)
  obtain ⟨_, rs, h4, h5, h6⟩ := h3 b _ e1
  have e2 : rs[s]? = some rs[s] := List.getElem?_eq_getElem (by omega)
  exact ⟨rows, _, rs, _, h1, by rw [List.getElem?_map, e1]; rfl, h4, by rw [List.getElem?_map, e2]; rfl, h6 s _ e2⟩
theorem BigD.sm {D x c : Int} (h : BigD D) (hx : (x.natAbs : Int) ≤ c * D) (hc : c ≤ 2 ^ 200) : Sm x := sm_pow (n := 3760) (k := 200) h.2 (by have := h.1; omega) (natAbs_le hx (by have := h.1; omega) hc) (by decide)
theorem BigD.sm2 {D x c : Int} (h : BigD D) (hx : (x.natAbs : Int) ≤ c * (D * D)) (hc : c ≤ 2 ^ 200) : Sm x := sm_pow (n := 7520) (k := 200) (sq_D h) (Int.mul_nonneg (by have := h.1; omega) (by have := h.1; omega)) (natAbs_le hx (Int.mul_nonneg (by have := h.1; omega) (by have := h.1; omega)) hc) (by decide)
theorem SeaAt.bd {CS CR CW : Addr} {H : Hp} {p cx r dr tr tp L : Addr} {ws : List Int} {a : Int} {ps : List Int} {S n : Nat} {D : Int} {X : Nat → Nat → Int} (h : SeaAt CS CR CW H p cx r dr tr tp L ws a ps S n D X) (fi : FineS ws a ps) (hn : n ≤ 12) {b i : Nat} (hb : b ≤ n) (hi : i ≤ S) : 0 ≤ X b i ∧ X b i ≤ 2 ^ 68 * D := by
  have := h.grid.bd fi.f.b1 (show (0 : Int) ≤ 10 ^ 18 by decide) fi.w0 fi.p2 b i hb hi
  have D0 := h.big.1
  have h2 := Int.mul_le_mul_of_nonneg_right (show (b : Int) ≤ 12 by omega) (show 0 ≤ 10 ^ 18 * D by omega)
  omega

/-! ### bars move with the margins -/
theorem ups_anti {ws ps : List Int} {x1 x2 D : Int} (w0 : ∀ t, 0 ≤ ws.getD t 0) (h : x1 ≤ x2) : ups (allF ws ps x2 D) ≤ ups (allF ws ps x1 D) := by
  unfold allF
  have := ups_mono (F := fz ws ps x2 D) (G := fz ws ps x1 D) (c := 1) (d := 1) (by decide) (by decide) (l := List.range ws.length) fun t _ => by
    unfold fz
    have := Int.mul_le_mul_of_nonneg_left (show ps.getD t 0 * D - x2 ≤ ps.getD t 0 * D - x1 by omega) (w0 t)
    omega
  omega
theorem beta {ws ps : List Int} {a D x1 x2 m1 m2 : Int} (a0 : 0 < a) (w0 : ∀ t, 0 ≤ ws.getD t 0) (h1 : ups (allF ws ps x1 D) = a * (x1 - m1)) (h2 : ups (allF ws ps x2 D) = a * (x2 - m2)) (hm : m1 ≤ m2) : x1 ≤ x2 ∧ x2 - x1 ≤ m2 - m1 := by
  have key : ∀ {u v : Int}, a * u ≤ a * v → u ≤ v := fun h => Int.le_of_mul_le_mul_left h a0
  have le : x1 ≤ x2 := by
    rcases Int.lt_or_le x2 x1 with z | z
    · have := ups_anti (ps := ps) (D := D) w0 (Int.le_of_lt z)
      rw [h1, h2] at this
      have := key this
      omega
    · exact z
  have := ups_anti (ps := ps) (D := D) w0 le
  rw [h1, h2] at this
  have := key this
  exact ⟨le, by omega⟩
/-- the margin of seat i + 1 with b buyers -/
structure Margins (X : Nat → Nat → Int) (V D : Int) (S b : Nat) : Prop where
  nn : ∀ i, i < S → 0 ≤ X b (i + 1) - X b i
  falls : ∀ i, i + 1 < S → X b (i + 1 + 1) - X b (i + 1) ≤ X b (i + 1) - X b i
  top : ∀ i, i < S → X b (i + 1) - X b i ≤ V * D
theorem Grid.margins {ws ps : List Int} {a D V : Int} {X : Nat → Nat → Int} {S n : Nat} (g : Grid ws ps a D X S n) (a0 : 0 < a) (V0 : 0 ≤ V) (w0 : ∀ t, 0 ≤ ws.getD t 0) (p2 : ∀ t, ps.getD t 0 ≤ V) : ∀ b, b ≤ n → Margins X V D S b ∧ (b < n → ∀ i, i < S → X b (i + 1) - X b i ≤ X (b + 1) (i + 1) - X (b + 1) i ∧ X (b + 1) (i + 1) - X (b + 1) i ≤ X (b + 1) (i + 1) - X b i) := by
  have D0 := g.D0
  have VD := Int.mul_nonneg V0 (Int.le_of_lt D0)
  have step : ∀ b, b < n → Margins X V D S b → (∀ i, i < S → X b (i + 1) - X b i ≤ X (b + 1) (i + 1) - X (b + 1) i ∧ X (b + 1) (i + 1) - X (b + 1) i ≤ X (b + 1) (i + 1) - X b i ∧ X (b + 1) (i + 1) - X (b + 1) i ≤ V * D ∧ (∀ j, i = j + 1 → X (b + 1) (i + 1) - X (b + 1) i ≤ X b (j + 1) - X b j)) := fun b hb m i hi => by
    have s1 := g.st b i hb hi
    have d1 := step_bd a0 D0 w0 p2 s1
    cases i with
    | zero =>
      have z1 := g.zs (b + 1)
      have z2 := g.zs b
      have t := m.top 0 hi
      exact ⟨by omega, by omega, by omega, fun j h => absurd h (by omega)⟩
    | succ j =>
      have s0 := g.st b j hb (by omega)
      have d0 := step_bd a0 D0 w0 p2 s0
      have fl := m.falls j hi
      have e0 : a * (X (b + 1) (j + 1) - X b (j + 1)) = a * ((X (b + 1) (j + 1) - X b j) - (X b (j + 1) - X b j)) := by rw [show X (b + 1) (j + 1) - X b j - (X b (j + 1) - X b j) = X (b + 1) (j + 1) - X b (j + 1) by omega]
      have e1 : a * (X (b + 1) (j + 1 + 1) - X b (j + 1 + 1)) = a * ((X (b + 1) (j + 1 + 1) - X b (j + 1)) - (X b (j + 1 + 1) - X b (j + 1))) := by rw [show X (b + 1) (j + 1 + 1) - X b (j + 1) - (X b (j + 1 + 1) - X b (j + 1)) = X (b + 1) (j + 1 + 1) - X b (j + 1 + 1) by omega]
      have be := beta a0 w0 (s1.trans e1) (s0.trans e0) fl
      have t := m.top j (by omega)
      exact ⟨by omega, by omega, by omega, fun j' h => by
        obtain rfl : j = j' := by omega
        omega⟩
  intro b
  induction b with
  | zero =>
    intro _
    have m0 : Margins X V D S 0 := ⟨fun i _ => by rw [g.z0, g.z0]; omega, fun i _ => by rw [g.z0, g.z0, g.z0]; omega, fun i _ => by rw [g.z0, g.z0]; omega⟩
    exact ⟨m0, fun h i hi => ⟨(step 0 h m0 i hi).1, (step 0 h m0 i hi).2.1⟩⟩
  | succ b ih =>
    intro hb
    obtain ⟨m, up⟩ := ih (by omega)
    have st := step b (by omega) m
    have m1 : Margins X V D S (b + 1) := ⟨fun i hi => by
      have h1 := (st i hi).1
      have h2 := m.nn i hi
      omega, fun i hi => by
      have h1 := (st (i + 1) hi).2.2.2 i rfl
      have h2 := (st i (by omega)).1
      omega, fun i hi => (st i hi).2.2.1⟩
    exact ⟨m1, fun h i hi => ⟨(step (b + 1) h m1 i hi).1, (step (b + 1) h m1 i hi).2.1⟩⟩
/-- a bound that omega does not look into -/
def Ab (x c D : Int) : Prop := (x.natAbs : Int) ≤ c * D
structure LowB (x D T B : Int) : Prop where
  pos : 0 < B
  eq : T * D = x * B
  tb : Ab T (2 ^ 68) D
  bb : Ab B 1 D
  sT : Sm T
  sB : Sm B
theorem LowT.b {x D T B : Int} (l : LowT x D T B) (bD : BigD D) (hx : (x.natAbs : Int) ≤ 2 ^ 68 * D) : LowB x D T B := by
  have h1 := l.leT
  have h2 := l.leB
  have D0 := bD.1
  have t : (T.natAbs : Int) ≤ 2 ^ 68 * D := by omega
  have b : (B.natAbs : Int) ≤ 1 * D := by omega
  exact ⟨l.pos, l.eq, t, b, bD.sm t (by decide), bD.sm b (by decide)⟩
theorem Ab.mul {x y c d D : Int} (h1 : Ab x c D) (h2 : Ab y d D) (c0 : 0 ≤ c) (d0 : 0 ≤ d) (D0 : 0 < D) : Ab (x * y) (c * d) (D * D) := by
  unfold Ab
  rw [Int.natAbs_mul, Int.natCast_mul]
  have := Int.mul_le_mul h1 h2 (by omega) (Int.mul_nonneg c0 (Int.le_of_lt D0))
  have e : c * D * (d * D) = c * d * (D * D) := by grind
  omega
theorem Ab.mul1 {x y c d D : Int} (h1 : (x.natAbs : Int) ≤ c) (h2 : Ab y d D) (c0 : 0 ≤ c) (d0 : 0 ≤ d) (D0 : 0 < D) : Ab (x * y) (c * d) D := by
  unfold Ab
  rw [Int.natAbs_mul, Int.natCast_mul, Int.mul_assoc]
  exact Int.mul_le_mul h1 h2 (by omega) c0
theorem Ab.sub {x y c d D : Int} (h1 : Ab x c D) (h2 : Ab y d D) : Ab (x - y) (c + d) D := by
  unfold Ab at *
  rw [Int.add_mul]
  omega
theorem Ab.add {x y c d D : Int} (h1 : Ab x c D) (h2 : Ab y d D) : Ab (x + y) (c + d) D := by
  unfold Ab at *
  rw [Int.add_mul]
  omega
theorem Ab.s1 {x c D : Int} (h : Ab x c D) (bD : BigD D) (hc : c ≤ 2 ^ 200 := by decide) : Sm x := bD.sm h hc
theorem Ab.s2 {x c D : Int} (h : Ab x c (D * D)) (bD : BigD D) (hc : c ≤ 2 ^ 200 := by decide) : Sm x := bD.sm2 h hc

theorem le_of_over {D x y T1 B1 T2 B2 : Int} (h1 : T1 * D = x * B1) (h2 : T2 * D = y * B2) (D0 : 0 < D) (p1 : 0 < B1) (p2 : 0 < B2) (h : x ≤ y) : T1 * B2 ≤ T2 * B1 := by
  refine Int.le_of_mul_le_mul_left (a := D) ?_ D0
  have e1 : D * (T1 * B2) = T1 * D * B2 := by grind
  have e2 : D * (T2 * B1) = T2 * D * B1 := by grind
  rw [e1, e2, h1, h2]
  have := Int.mul_le_mul_of_nonneg_right h (Int.le_of_lt (Int.mul_pos p1 p2))
  have e3 : x * B1 * B2 = x * (B1 * B2) := by grind
  have e4 : y * B2 * B1 = y * (B1 * B2) := by grind
  omega
section
variable {X : Cx}
/-! ### an own class with keyword-only parameters, made where errors are caught -/
def tMkKey (D : Addr) (np nk : Nat) (pr : Sp) (mix : List V → List V → List V) (Ex : L2.St → XK) (t u : TA) : TE := fun τ H Q => t τ H fun xs H1 => u τ H1 fun ys H2 => xs.length = np ∧ ys.length = nk ∧ ∀ p q, H2 p = none → H2 q = none → q ≠ p →
  pr (mix (.ref p :: xs) ys) (upd (upd H2 q (.own p)) p (.ins D q [])) (fun v H3 => v = .non ∧ Q (.ref p) H3) (Ex τ)
theorem made_key {CX : CXT} {n np : Nat} {g D : Addr} {gd : FuncData} {qs ks : List Str} {pr : Sp} {Ex : L2.St → XK} {mx : List Value → List Value → List Value} {mix : List V → List V → List V} {pn : List (Addr × Obj)} {τ : L2.St} {H0 : Hp} {st : Shared} {W : VK} {as bs : List Value} {xs ys : List V}
    (MK : Mk X.K D g) (OK : FnOk X.prog X.w X.K X.mg X.base CX n g gd qs pr) (room : Room (n + 1) X.A) (bd : KBn X.K gd qs (np + 1) ks mx mix) (out : PassesAt CX X τ (Ex τ)) (J : Inv X pn τ H0 st) (rel : Vals xs as) (rel2 : Vals ys bs) (lx : xs.length = np) (ly : ys.length = ks.length)
    (go : ∀ p q, H0 p = none → H0 q = none → q ≠ p → pr (mix (.ref p :: xs) ys) (upd (upd H0 q (.own p)) p (.ins D q [])) (fun v H2 => v = .non ∧ W (.ref p) H2) (Ex τ)) :
    wpAny (model X.prog X.w) X.A (call (.ref D) as (ks.zip bs)) (EP X pn τ W) X.xe st := by
  have new1 := J.hok.fresh (Nat.le_succ st.heap.objs.size)
  have new2 := J.hok.fresh (Nat.le_refl st.heap.objs.size)
  have asked := go _ _ new1 new2 (Nat.ne_of_lt (Nat.lt_succ_self _))
  have J2 := Inv.made (C := D) J
  have rel1 : Vals (V.ref (st.heap.objs.size + 1) :: xs) (Value.ref (st.heap.objs.size + 1) :: as) := .cons rfl rel
  have len1 : (Value.ref (st.heap.objs.size + 1) :: as).length = np + 1 := (rel1.length.symm).trans (congrArg Nat.succ lx)
  have bound := bd.to _ (Value.ref (st.heap.objs.size + 1) :: as) bs J2.kIn len1 (rel2.length.symm.trans ly)
  have ran := OK.run _ X.stack _ _ ⟨Value.ref (st.heap.objs.size + 1) :: as, ks.zip bs⟩ (mx (Value.ref (st.heap.objs.size + 1) :: as) bs) _ _ (Ex τ) (room.make D as (ks.zip bs)) (J2.env0.make D as (ks.zip bs)) bound (bd.rel rel1 rel2) asked
  refine wpAny_call (make_map (f := g) J.kIn MK.makes MK.init (beq_iff_eq.mp MK.fn) (codeAny_mono ran ?_))
  rintro (e | fl) s' back
  · exact out pn _ _ e s' J2 back
  · cases fl with
    | ret u =>
      obtain ⟨v, H', J3, rv, rfl, w3⟩ := J2.after back
      exact ⟨rv, V.ref (st.heap.objs.size + 1), _, J3, rfl, w3⟩
    | next => exact back.elim
    | brk => exact back.elim
    | cont => exact back.elim
theorem pe_mkKey {CX : CXT} {n np : Nat} {g D : Addr} {gd : FuncData} {qs ks : List Str} {pr : Sp} {Ex : L2.St → XK} {mx : List Value → List Value → List Value} {mix : List V → List V → List V} {x : Str} {p pos : Pos} {e : Expr} {es : List Expr} {kws : List Keyword} {t u : TA}
    (MK : Mk X.K D g) (OK : FnOk X.prog X.w X.K X.mg X.base CX n g gd qs pr) (room : Room (n + 1) X.A) (gl : Gl X x) (at_ : X.mg x = some (.ref D)) (bd : KBn X.K gd qs (np + 1) ks mx mix) (out : ∀ τ, PassesAt CX X τ (Ex τ)) (args : PA X (e :: es) t) (keys : PK X kws u)
    (named : (backToKw pos (keywordEach kws X.env)).all (·.1.isSome) = true := by rfl) (names : (backToKw pos (keywordEach kws X.env)).filterMap (·.1) = ks := by rfl) (plain : (x == ("__debug__" : Str)) = false := by decide)
    (first : starEach (e :: es) X.env = (false, eval e X.env) :: starEach es X.env := by rfl) (noStar : ((backTo pos (starEach (e :: es) X.env)).any (·.1) || (backToKw pos (keywordEach kws X.env)).any (·.1.isNone)) = false := by rfl) :
    PE X (.Call (.Name x p) (e :: es) kws pos) (tMkKey D np ks.length pr mix Ex t u) := by
  refine ⟨fun pn s τ H Q J h => wpAny_Call_Name_kw (ld_glob J gl at_ (PySem.W.callWith_KW (h₀ := X.base) J.ok.mod.kin MK.kp named (thn (args.run pos pn s τ H _ J h) fun as s1 ⟨xs, H1, J1, rel, go⟩ => ?_) noStar first) plain)⟩
  refine thn (keys.run pos pn s1 τ H1 _ J1 go) fun bs s2 ⟨ys, H2, J2, rel2, lx, ly, go2⟩ => ⟨J2.kIn, ?_⟩
  rw [names]
  exact made_key MK OK room bd (out τ) J2 rel rel2 lx ly go2
end

/-- what is due for these prices, seats and buyers -/
def dueS (ps : List Int) (m : Nat) (s n : Int) : Option (Str × V) := if ps.length = m then (match negAt ps 0 with
  | some k => some (("prices" : Str), V.int (k : Int))
  | none => if s < 0 ∨ 12 < s then some (("seats" : Str), V.non) else if n < 0 ∨ 12 < n then some (("buyers" : Str), V.non) else none) else some (("prices" : Str), V.non)
theorem dueS_len {ps : List Int} {m : Nat} {s n : Int} (h : ¬ ps.length = m) : dueS ps m s n = some (("prices" : Str), V.non) := if_neg h
theorem dueS_neg {ps : List Int} {m k : Nat} {s n : Int} (h : ps.length = m) (hk : negAt ps 0 = some k) : dueS ps m s n = some (("prices" : Str), V.int (k : Int)) := by
  unfold dueS
  rw [if_pos h, hk]
theorem dueS_s {ps : List Int} {m : Nat} {s n : Int} (h : ps.length = m) (hk : negAt ps 0 = none) (hs : s < 0 ∨ 12 < s) : dueS ps m s n = some (("seats" : Str), V.non) := by
  unfold dueS
  rw [if_pos h, hk]
  exact if_pos hs
theorem dueS_n {ps : List Int} {m : Nat} {s n : Int} (h : ps.length = m) (hk : negAt ps 0 = none) (hs : ¬ (s < 0 ∨ 12 < s)) (hn : n < 0 ∨ 12 < n) : dueS ps m s n = some (("buyers" : Str), V.non) := by
  unfold dueS
  rw [if_pos h, hk]
  exact (if_neg hs).trans (if_pos hn)
theorem dueS_no {ps : List Int} {m : Nat} {s n : Int} (h : ps.length = m) (hk : negAt ps 0 = none) (hs : ¬ (s < 0 ∨ 12 < s)) (hn : ¬ (n < 0 ∨ 12 < n)) : dueS ps m s n = none := by
  unfold dueS
  rw [if_pos h, hk]
  exact (if_neg hs).trans (if_neg hn)
theorem dueS_ok {ps : List Int} {m : Nat} {s n : Int} (h : dueS ps m s n = none) : ps.length = m ∧ negAt ps 0 = none ∧ ¬ (s < 0 ∨ 12 < s) ∧ ¬ (n < 0 ∨ 12 < n) := by
  by_cases h1 : ps.length = m
  · cases h2 : negAt ps 0 with
    | some k =>
      rw [dueS_neg h1 h2] at h
      cases h
    | none =>
      by_cases h3 : s < 0 ∨ 12 < s
      · rw [dueS_s h1 h2 h3] at h
        cases h
      · by_cases h4 : n < 0 ∨ 12 < n
        · rw [dueS_n h1 h2 h3 h4] at h
          cases h
        · exact ⟨h1, rfl, h3, h4⟩
  · rw [dueS_len h1] at h
    cases h
/-- what is due for the asked numbers -/
def dueA (S n : Nat) (s b : Int) : Option Str := if s < 0 ∨ (S : Int) < s then some "seats" else if b < 0 ∨ (n : Int) < b then some "buyers" else none
theorem dueA_s {S n : Nat} {s b : Int} (h : s < 0 ∨ (S : Int) < s) : dueA S n s b = some "seats" := if_pos h
theorem dueA_b {S n : Nat} {s b : Int} (h : ¬ (s < 0 ∨ (S : Int) < s)) (h2 : b < 0 ∨ (n : Int) < b) : dueA S n s b = some "buyers" := (if_neg h).trans (if_pos h2)
theorem dueA_no {S n : Nat} {s b : Int} (h : ¬ (s < 0 ∨ (S : Int) < s)) (h2 : ¬ (b < 0 ∨ (n : Int) < b)) : dueA S n s b = none := (if_neg h).trans (if_neg h2)
theorem dueA_ok {S n : Nat} {s b : Int} (h : dueA S n s b = none) : ¬ (s < 0 ∨ (S : Int) < s) ∧ ¬ (b < 0 ∨ (n : Int) < b) := by
  by_cases h1 : s < 0 ∨ (S : Int) < s
  · rw [dueA_s h1] at h
    cases h
  · by_cases h2 : b < 0 ∨ (n : Int) < b
    · rw [dueA_b h1 h2] at h
      cases h
    · exact ⟨h1, h2⟩
theorem kSt : kitB "str" "str" = some true := by decide +kernel
theorem kIS : kitB "int" "str" = some false := by decide +kernel

def dueT : Option (Str × V) → List V
  | none => [.str "made"]
  | some (w, a) => [.str "number", .str w, a]
theorem dueS_x {ps : List Int} {m : Nat} {s n : Int} {w : Str} {x : V} (h : dueS ps m s n = some (w, x)) : x = .non ∨ ∃ n, x = .int n := by
  by_cases h1 : ps.length = m
  · cases h2 : negAt ps 0 with
    | some k =>
      rw [dueS_neg h1 h2] at h
      exact .inr ⟨_, (congrArg Prod.snd (Option.some.inj h)).symm⟩
    | none =>
      by_cases h3 : s < 0 ∨ 12 < s
      · rw [dueS_s h1 h2 h3] at h
        exact .inl (congrArg Prod.snd (Option.some.inj h)).symm
      · by_cases h4 : n < 0 ∨ 12 < n
        · rw [dueS_n h1 h2 h3 h4] at h
          exact .inl (congrArg Prod.snd (Option.some.inj h)).symm
        · rw [dueS_no h1 h2 h3 h4] at h
          cases h
  · rw [dueS_len h1] at h
    exact .inl (congrArg Prod.snd (Option.some.inj h)).symm

/-- nothing is told: no worth, no bar, the empty lot -/
def NoD (CR : Addr) (H : Hp) (w : Nat) (x : V) : Prop := (w = 0 ∧ ∃ q B, x = .ref q ∧ RatAt CR H q 0 B ∧ 0 < B ∧ Sm B) ∨ (w = 1 ∧ x = .non) ∨ (w = 2 ∧ ∃ t, x = .ref t ∧ H t = some (.tup []))
theorem NoD.same {CR : Addr} {H H' : Hp} {w : Nat} {x : V} (s : Same H H') (h : NoD CR H w x) : NoD CR H' w x := by
  rcases h with ⟨e, q, B, h1, h2, h3⟩ | h | ⟨e, t, h1, h2⟩
  · exact .inl ⟨e, q, B, h1, h2.same s, h3⟩
  · exact .inr (.inl h)
  · exact .inr (.inr ⟨e, t, h1, s _ _ h2⟩)

/-- what is due for a question, as a tuple -/
def dueU : Option Str → List V
  | none => [.str "told"]
  | some w => [.str "number", .str w, .non]
theorem cut_24 (x0 x1 x2 x3 x4 x5 x6 x7 x8 x9 x10 x11 : Int) : cutV ([x0, x1, x2, x3, x4, x5, x6, x7, x8, x9, x10, x11].map V.int) (some 2) (some 4) = [x2, x3].map V.int := rfl
theorem cut_47 (z0 z1 z2 z3 z4 z5 z6 : Int) {m : Nat} (h : m ≤ 3) : cutV ([z0, z1, z2, z3, z4, z5, z6].map V.int) (some 4) (some (4 + (m : Int))) = ([z4, z5, z6].take m).map V.int := by
  rcases (by omega : m = 0 ∨ m = 1 ∨ m = 2 ∨ m = 3) with rfl | rfl | rfl | rfl <;> rfl
theorem RatAt.put59 {C : Addr} {H : Hp} {q E : Addr} {T B : Int} {xs : List V} {o : HO} (hE : H E = some (.lst xs)) (h : RatAt C H q T B) : RatAt C (upd H E o) q T B := by
  obtain ⟨dx, h⟩ := h
  refine ⟨dx, (upd_ne fun z => ?_).trans h⟩
  rw [z, hE] at h
  cases h
/-- a list of numbers is none of a season's lists -/
theorem ne_ints {H : Hp} {l E : Addr} {rs : List Addr} {ps : List Int} (hE : H E = some (.lst (ps.map V.int))) (hl : H l = some (.lst (rs.map V.ref))) (h : 0 < rs.length) : l ≠ E := fun z => by
  rw [z, hE] at hl
  have e : ps.map V.int = rs.map V.ref := HO.lst.inj (Option.some.inj hl)
  cases rs with
  | nil => cases h
  | cons r rs =>
    cases ps with
    | nil => cases e
    | cons p ps =>
      rw [List.map_cons, List.map_cons] at e
      exact V.noConfusion (List.cons.inj e).1
theorem SeaAt.put {CS CR CW : Addr} {H : Hp} {p cx r dr tr tp L E : Addr} {ws : List Int} {a : Int} {ps qs : List Int} {S n : Nat} {D : Int} {X : Nat → Nat → Int} {o : HO} (hE : H E = some (.lst (qs.map V.int))) (h : SeaAt CS CR CW H p cx r dr tr tp L ws a ps S n D X) : SeaAt CS CR CW (upd H E o) p cx r dr tr tp L ws a ps S n D X := by
  refine ⟨?_, ⟨?_, ?_⟩, ?_, ?_, h.grid, h.big⟩
  · refine (upd_ne fun z => ?_).trans h.hp
    have := h.hp
    rw [z, hE] at this
    cases this
  · refine (upd_ne fun z => ?_).trans h.w.1
    have := h.w.1
    rw [z, hE] at this
    cases this
  · refine (upd_ne fun z => ?_).trans h.w.2
    have := h.w.2
    rw [z, hE] at this
    cases this
  · refine (upd_ne fun z => ?_).trans h.ht
    have := h.ht
    rw [z, hE] at this
    cases this
  · obtain ⟨rows, h1, h2, h3⟩ := h.rows
    refine ⟨rows, (upd_ne (ne_ints hE h1 (by omega))).trans h1, h2, fun b l e => ⟨(h3 b l e).1, ?_⟩⟩
    obtain ⟨rs, k1, k2, k3⟩ := (h3 b l e).2
    exact RowD.put hE (ne_ints hE k1 (by omega)) ⟨rs, k1, k2, k3⟩
/-- what the top has written of the classes -/
structure Txt (K : PySem.W.Frag) (mg : Str → Option Value) (C_Weighted C_Ratio C_BadNumber C_TooMany C_ZeroBottom C_BadLot C_Season C_ShelfError : Addr) : Prop where
  g_Weighted : mg "Weighted" = some (.ref C_Weighted)
  kc_Weighted : PySem.W.keepIn K (.ref C_Weighted) = true
  hd_Weighted : PySem.W.hasDictIn K C_Weighted = true
  ha_Weighted : PySem.W.findIn K (.ref C_Weighted) "__class__" = some (some (.builtin "object.__class__"))
  hm_Weighted : PySem.W.mroIn K C_Weighted (.type "object") = some true
  cl_Weighted : Cls K C_Weighted
  mk_Weighted : PySem.W.makesIn K C_Weighted = true
  n_Weighted_many : NoAttr K C_Weighted "many"
  n_Weighted_weights : NoAttr K C_Weighted "weights"
  n_Weighted_aside : NoAttr K C_Weighted "aside"
  g_Ratio : mg "Ratio" = some (.ref C_Ratio)
  kc_Ratio : PySem.W.keepIn K (.ref C_Ratio) = true
  hd_Ratio : PySem.W.hasDictIn K C_Ratio = true
  ha_Ratio : PySem.W.findIn K (.ref C_Ratio) "__class__" = some (some (.builtin "object.__class__"))
  hm_Ratio : PySem.W.mroIn K C_Ratio (.type "object") = some true
  cl_Ratio : Cls K C_Ratio
  mk_Ratio : PySem.W.makesIn K C_Ratio = true
  n_Ratio_top : NoAttr K C_Ratio "top"
  n_Ratio_bottom : NoAttr K C_Ratio "bottom"
  sum_Ratio : SumC K C_Ratio
  sf_Ratio : PySem.W.selfFirst K C_Ratio = true
  si_Ratio : PySem.W.subIn K (.type "int") (.ref C_Ratio) = some false
  sr_Ratio : PySem.W.subIn K (.ref C_Ratio) (.type "int") = some false
  rf_Ratio_add : ∃ rc : Option Value, PySem.W.findIn K (.ref C_Ratio) "__radd__" = some rc ∧ (rc = none ∨ ∃ g : Addr, rc = some (.ref g))
  of_Ratio_add : ∃ f0 : Addr, PySem.W.findIn K (.ref C_Ratio) "__add__" = some (some (.ref f0))
  int_add : ∃ fo ro : Option Value, PySem.W.findIn K (.type "int") "__add__" = some fo ∧ PySem.W.findIn K (.type "int") "__radd__" = some ro
  rf_Ratio_sub : ∃ rc : Option Value, PySem.W.findIn K (.ref C_Ratio) "__rsub__" = some rc ∧ (rc = none ∨ ∃ g : Addr, rc = some (.ref g))
  of_Ratio_sub : ∃ f0 : Addr, PySem.W.findIn K (.ref C_Ratio) "__sub__" = some (some (.ref f0))
  int_sub : ∃ fo ro : Option Value, PySem.W.findIn K (.type "int") "__sub__" = some fo ∧ PySem.W.findIn K (.type "int") "__rsub__" = some ro
  rf_Ratio_mul : ∃ rc : Option Value, PySem.W.findIn K (.ref C_Ratio) "__rmul__" = some rc ∧ (rc = none ∨ ∃ g : Addr, rc = some (.ref g))
  of_Ratio_mul : ∃ f0 : Addr, PySem.W.findIn K (.ref C_Ratio) "__mul__" = some (some (.ref f0))
  int_mul : ∃ fo ro : Option Value, PySem.W.findIn K (.type "int") "__mul__" = some fo ∧ PySem.W.findIn K (.type "int") "__rmul__" = some ro
  g_BadNumber : mg "BadNumber" = some (.ref C_BadNumber)
  kc_BadNumber : PySem.W.keepIn K (.ref C_BadNumber) = true
  hd_BadNumber : PySem.W.hasDictIn K C_BadNumber = true
  ha_BadNumber : PySem.W.findIn K (.ref C_BadNumber) "__class__" = some (some (.builtin "object.__class__"))
  hm_BadNumber : PySem.W.mroIn K C_BadNumber (.type "object") = some true
  b_BadNumber : PySem.W.subIn K (.ref C_BadNumber) (.type "BaseException") = some true
  t_BadNumber : PySem.W.typeIn K (.ref C_BadNumber) = some (.type "type")
  ga_BadNumber : PySem.W.findIn K (.ref C_BadNumber) "__getattribute__" = some (some (.builtin "BaseException.__getattribute__"))
  gg_BadNumber : PySem.W.findIn K (.ref C_BadNumber) "__getattr__" = some none
  ox_BadNumber : OexC K C_BadNumber
  xf_BadNumber : XfC K C_BadNumber
  n_BadNumber_what : PySem.W.findIn K (.ref C_BadNumber) "what" = some none
  n_BadNumber_at : PySem.W.findIn K (.ref C_BadNumber) "at" = some none
  g_TooMany : mg "TooMany" = some (.ref C_TooMany)
  kc_TooMany : PySem.W.keepIn K (.ref C_TooMany) = true
  hd_TooMany : PySem.W.hasDictIn K C_TooMany = true
  ha_TooMany : PySem.W.findIn K (.ref C_TooMany) "__class__" = some (some (.builtin "object.__class__"))
  hm_TooMany : PySem.W.mroIn K C_TooMany (.type "object") = some true
  b_TooMany : PySem.W.subIn K (.ref C_TooMany) (.type "BaseException") = some true
  t_TooMany : PySem.W.typeIn K (.ref C_TooMany) = some (.type "type")
  ga_TooMany : PySem.W.findIn K (.ref C_TooMany) "__getattribute__" = some (some (.builtin "BaseException.__getattribute__"))
  gg_TooMany : PySem.W.findIn K (.ref C_TooMany) "__getattr__" = some none
  ox_TooMany : OexC K C_TooMany
  xf_TooMany : XfC K C_TooMany
  n_TooMany_many : PySem.W.findIn K (.ref C_TooMany) "many" = some none
  n_TooMany_most : PySem.W.findIn K (.ref C_TooMany) "most" = some none
  g_ZeroBottom : mg "ZeroBottom" = some (.ref C_ZeroBottom)
  kc_ZeroBottom : PySem.W.keepIn K (.ref C_ZeroBottom) = true
  hd_ZeroBottom : PySem.W.hasDictIn K C_ZeroBottom = true
  ha_ZeroBottom : PySem.W.findIn K (.ref C_ZeroBottom) "__class__" = some (some (.builtin "object.__class__"))
  hm_ZeroBottom : PySem.W.mroIn K C_ZeroBottom (.type "object") = some true
  b_ZeroBottom : PySem.W.subIn K (.ref C_ZeroBottom) (.type "BaseException") = some true
  t_ZeroBottom : PySem.W.typeIn K (.ref C_ZeroBottom) = some (.type "type")
  ga_ZeroBottom : PySem.W.findIn K (.ref C_ZeroBottom) "__getattribute__" = some (some (.builtin "BaseException.__getattribute__"))
  gg_ZeroBottom : PySem.W.findIn K (.ref C_ZeroBottom) "__getattr__" = some none
  x_ZeroBottom : PySem.W.excIn K C_ZeroBottom [.type "ValueError", .type "Exception", .type "BaseException", .type "object"] "ValueError.__new__" = true
  g_BadLot : mg "BadLot" = some (.ref C_BadLot)
  kc_BadLot : PySem.W.keepIn K (.ref C_BadLot) = true
  hd_BadLot : PySem.W.hasDictIn K C_BadLot = true
  ha_BadLot : PySem.W.findIn K (.ref C_BadLot) "__class__" = some (some (.builtin "object.__class__"))
  hm_BadLot : PySem.W.mroIn K C_BadLot (.type "object") = some true
  b_BadLot : PySem.W.subIn K (.ref C_BadLot) (.type "BaseException") = some true
  t_BadLot : PySem.W.typeIn K (.ref C_BadLot) = some (.type "type")
  ga_BadLot : PySem.W.findIn K (.ref C_BadLot) "__getattribute__" = some (some (.builtin "BaseException.__getattribute__"))
  gg_BadLot : PySem.W.findIn K (.ref C_BadLot) "__getattr__" = some none
  x_BadLot : PySem.W.excIn K C_BadLot [.type "ValueError", .type "Exception", .type "BaseException", .type "object"] "ValueError.__new__" = true
  g_Season : mg "Season" = some (.ref C_Season)
  kc_Season : PySem.W.keepIn K (.ref C_Season) = true
  hd_Season : PySem.W.hasDictIn K C_Season = true
  ha_Season : PySem.W.findIn K (.ref C_Season) "__class__" = some (some (.builtin "object.__class__"))
  hm_Season : PySem.W.mroIn K C_Season (.type "object") = some true
  cl_Season : Cls K C_Season
  mk_Season : PySem.W.makesIn K C_Season = true
  n_Season_rule : NoAttr K C_Season "rule"
  n_Season_prices : NoAttr K C_Season "prices"
  n_Season_seats : NoAttr K C_Season "seats"
  n_Season_buyers : NoAttr K C_Season "buyers"
  n_Season__worths : NoAttr K C_Season "_worths"
  g_ShelfError : mg "ShelfError" = some (.ref C_ShelfError)
  kc_ShelfError : PySem.W.keepIn K (.ref C_ShelfError) = true
  hd_ShelfError : PySem.W.hasDictIn K C_ShelfError = true
  ha_ShelfError : PySem.W.findIn K (.ref C_ShelfError) "__class__" = some (some (.builtin "object.__class__"))
  hm_ShelfError : PySem.W.mroIn K C_ShelfError (.type "object") = some true
  b_ShelfError : PySem.W.subIn K (.ref C_ShelfError) (.type "BaseException") = some true
  t_ShelfError : PySem.W.typeIn K (.ref C_ShelfError) = some (.type "type")
  ga_ShelfError : PySem.W.findIn K (.ref C_ShelfError) "__getattribute__" = some (some (.builtin "BaseException.__getattribute__"))
  gg_ShelfError : PySem.W.findIn K (.ref C_ShelfError) "__getattr__" = some none
  hnc : PySem.W.specialIn K (.builtin "object.__class__") "__get__" = some (some (.builtin "getset_descriptor.__get__"))
  htk : PySem.W.takesIn K (.builtin "object.__class__") = some true
  sub_BadNumber_BadNumber : PySem.W.subIn K (.ref C_BadNumber) (.ref C_BadNumber) = some true
  sub_BadNumber_ShelfError : PySem.W.subIn K (.ref C_BadNumber) (.ref C_ShelfError) = some true
  kit_Ratio_Ratio : PySem.W.kitOne K (.ref C_Ratio) (.ref C_Ratio) = some true
  kit_int_Ratio : PySem.W.kitOne K (.type "int") (.ref C_Ratio) = some false
  kit_BadNumber_TooMany : PySem.W.kitOne K (.ref C_BadNumber) (.ref C_TooMany) = some false
  kit_BadNumber_BadLot : PySem.W.kitOne K (.ref C_BadNumber) (.ref C_BadLot) = some false
  kit_BadNumber_ValueError : PySem.W.kitOne K (.ref C_BadNumber) (.type "ValueError") = some true
  kit_BadNumber_BadNumber : PySem.W.kitOne K (.ref C_BadNumber) (.ref C_BadNumber) = some true
  kit_Season_Season : PySem.W.kitOne K (.ref C_Season) (.ref C_Season) = some true
  kit_Weighted_Weighted : PySem.W.kitOne K (.ref C_Weighted) (.ref C_Weighted) = some true
  g_gcd : mg "gcd" = some (.builtin "math.gcd")
  g_MOST_THINGS : ∃ t, mg "MOST_THINGS" = some (.int 24 t)
  g_MOST_SEATS : ∃ t, mg "MOST_SEATS" = some (.int 12 t)
  g_MOST_BUYERS : ∃ t, mg "MOST_BUYERS" = some (.int 12 t)
theorem Txt.ec_BadNumber {K : PySem.W.Frag} {mg : Str → Option Value} {C_Weighted C_Ratio C_BadNumber C_TooMany C_ZeroBottom C_BadLot C_Season C_ShelfError : Addr} (T : Txt K mg C_Weighted C_Ratio C_BadNumber C_TooMany C_ZeroBottom C_BadLot C_Season C_ShelfError) : ExcC K C_BadNumber := ⟨T.ga_BadNumber, T.gg_BadNumber, T.b_BadNumber, T.hd_BadNumber, T.ha_BadNumber, T.hnc, T.htk, T.hm_BadNumber⟩
theorem Txt.ec_TooMany {K : PySem.W.Frag} {mg : Str → Option Value} {C_Weighted C_Ratio C_BadNumber C_TooMany C_ZeroBottom C_BadLot C_Season C_ShelfError : Addr} (T : Txt K mg C_Weighted C_Ratio C_BadNumber C_TooMany C_ZeroBottom C_BadLot C_Season C_ShelfError) : ExcC K C_TooMany := ⟨T.ga_TooMany, T.gg_TooMany, T.b_TooMany, T.hd_TooMany, T.ha_TooMany, T.hnc, T.htk, T.hm_TooMany⟩
theorem Txt.ec_ZeroBottom {K : PySem.W.Frag} {mg : Str → Option Value} {C_Weighted C_Ratio C_BadNumber C_TooMany C_ZeroBottom C_BadLot C_Season C_ShelfError : Addr} (T : Txt K mg C_Weighted C_Ratio C_BadNumber C_TooMany C_ZeroBottom C_BadLot C_Season C_ShelfError) : ExcC K C_ZeroBottom := ⟨T.ga_ZeroBottom, T.gg_ZeroBottom, T.b_ZeroBottom, T.hd_ZeroBottom, T.ha_ZeroBottom, T.hnc, T.htk, T.hm_ZeroBottom⟩
theorem Txt.ec_BadLot {K : PySem.W.Frag} {mg : Str → Option Value} {C_Weighted C_Ratio C_BadNumber C_TooMany C_ZeroBottom C_BadLot C_Season C_ShelfError : Addr} (T : Txt K mg C_Weighted C_Ratio C_BadNumber C_TooMany C_ZeroBottom C_BadLot C_Season C_ShelfError) : ExcC K C_BadLot := ⟨T.ga_BadLot, T.gg_BadLot, T.b_BadLot, T.hd_BadLot, T.ha_BadLot, T.hnc, T.htk, T.hm_BadLot⟩
theorem Txt.ec_ShelfError {K : PySem.W.Frag} {mg : Str → Option Value} {C_Weighted C_Ratio C_BadNumber C_TooMany C_ZeroBottom C_BadLot C_Season C_ShelfError : Addr} (T : Txt K mg C_Weighted C_Ratio C_BadNumber C_TooMany C_ZeroBottom C_BadLot C_Season C_ShelfError) : ExcC K C_ShelfError := ⟨T.ga_ShelfError, T.gg_ShelfError, T.b_ShelfError, T.hd_ShelfError, T.ha_ShelfError, T.hnc, T.htk, T.hm_ShelfError⟩
theorem Txt.exm_BadNumber_BadNumber {K : PySem.W.Frag} {mg : Str → Option Value} {C_Weighted C_Ratio C_BadNumber C_TooMany C_ZeroBottom C_BadLot C_Season C_ShelfError : Addr} (T : Txt K mg C_Weighted C_Ratio C_BadNumber C_TooMany C_ZeroBottom C_BadLot C_Season C_ShelfError) : PySem.W.exmOne K (.ref C_BadNumber) (.ref C_BadNumber) = some true := PySem.W.exm_ref T.b_BadNumber T.hd_BadNumber T.t_BadNumber T.sub_BadNumber_BadNumber
theorem Txt.exm_BadNumber_ShelfError {K : PySem.W.Frag} {mg : Str → Option Value} {C_Weighted C_Ratio C_BadNumber C_TooMany C_ZeroBottom C_BadLot C_Season C_ShelfError : Addr} (T : Txt K mg C_Weighted C_Ratio C_BadNumber C_TooMany C_ZeroBottom C_BadLot C_Season C_ShelfError) : PySem.W.exmOne K (.ref C_BadNumber) (.ref C_ShelfError) = some true := PySem.W.exm_ref T.b_ShelfError T.hd_ShelfError T.t_ShelfError T.sub_BadNumber_ShelfError

/-- a def that is called by its name, with its promise -/
def Cal (P : Program) (w : World) (K : PySem.W.Frag) (mg : Str → Option Value) (base : Heap) (CX : CXT) (k : Nat) (x : Str) (ps : List Str) (sp : Sp) : Prop :=
  ∃ (f : Addr) (fd : FuncData), FnOk P w K mg base CX k f fd ps sp ∧ mg x = some (.ref f) ∧ PySem.W.keepIn K (.ref f) = true ∧ Binds K fd ps []
/-- an own class's __init__; dvs: what stands for the parameters that a short call leaves out -/
def CalI (P : Program) (w : World) (K : PySem.W.Frag) (mg : Str → Option Value) (base : Heap) (CX : CXT) (k : Nat) (C : Addr) (ps : List Str) (sp : Sp) (dvs : List V) : Prop :=
  ∃ (f : Addr) (fd : FuncData), FnOk P w K mg base CX k f fd ps sp ∧ Mk K C f ∧ Binds K fd ps [] ∧ ∃ ds, Vals dvs ds ∧ Binds K fd ps ds
/-- an own error's __init__ -/
def CalX (P : Program) (w : World) (K : PySem.W.Frag) (mg : Str → Option Value) (base : Heap) (CX : CXT) (k : Nat) (C : Addr) (ps : List Str) (sp : Sp) : Prop :=
  ∃ (f : Addr) (fd : FuncData), FnOk P w K mg base CX k f fd ps sp ∧ PySem.W.findIn K (.ref C) "__init__" = some (some (.ref f)) ∧ PySem.W.typeIn K (.ref f) = some (.type "function") ∧ Binds K fd ps []
/-- a promise for one of several classes -/
theorem sup_for {P : Program} {w : World} {K : PySem.W.Frag} {mg : Str → Option Value} {base : Heap} {CX : CXT} {k : Nat} {f : Addr} {ps : List Str} {sp : Addr → Sp} {CL : List Addr} {C : Addr} (m : C ∈ CL) (h : ∃ fd : FuncData, FnOk P w K mg base CX k f fd ps (fun vs H Q E => ∃ C, C ∈ CL ∧ sp C vs H Q E) ∧ Binds K fd ps []) :
    ∃ fd : FuncData, FnOk P w K mg base CX k f fd ps (sp C) ∧ Binds K fd ps [] := by
  obtain ⟨fd, G, b⟩ := h
  exact ⟨fd, ⟨fun vs H Q E z => G.len vs H Q E ⟨C, m, z⟩, fun A outer s H args us vs Q E hr e0 hb r z => G.run A outer s H args us vs Q E hr e0 hb r ⟨C, m, z⟩⟩, b⟩
theorem init_for {P : Program} {w : World} {K : PySem.W.Frag} {mg : Str → Option Value} {base : Heap} {CX : CXT} {k : Nat} {f : Addr} {ps : List Str} {sp : Addr → Sp} {CL : List Addr} {C : Addr} (m : C ∈ CL) (h : ∃ fd : FuncData, FnOk P w K mg base CX k f fd ps (fun vs H Q E => ∃ C, C ∈ CL ∧ sp C vs H Q E) ∧ Binds K fd ps []) (M : Mk K C f) :
    CalI P w K mg base CX k C ps (sp C) [] := by
  obtain ⟨fd, G, b⟩ := sup_for m h
  exact ⟨f, fd, G, M, b, [], .nil, b⟩
/-- what is left over is a new tuple -/
def spStar (sp : Sp) (n : Nat) : Sp := fun vs H Q E => ∃ ws rest, vs = ws ++ rest ∧ ws.length = n ∧ rest.length ≤ sizeLine ∧ ∀ p, H p = none → sp (ws ++ [V.ref p]) (upd H p (.tup rest)) Q E
/-- a method -/
def CalM (P : Program) (w : World) (K : PySem.W.Frag) (mg : Str → Option Value) (base : Heap) (CX : CXT) (k : Nat) (C : Addr) (m : Str) (ps : List Str) (sp : Sp) : Prop :=
  ∃ (f : Addr) (fd : FuncData), FnOk P w K mg base CX k f fd ps sp ∧ Meth K C m f ∧ Binds K fd ps []
section
variable {P : Program} {w : World} {K : PySem.W.Frag} {mg : Str → Option Value} {base : Heap}
def sp_BadNumber___init__ (C : Addr) : Sp := fun vs H Q _ => ∃ (a : Addr) (x y : V), vs = [.ref a, x, y] ∧ H a = some (exo a C none) ∧ ∀ dx, H dx = none → dx ≠ a → Q .non (errH H a C dx "what" "at" x y)
theorem ok_BadNumber___init__ {f : Addr} {fd : FuncData} {C_Weighted C_Ratio C_BadNumber C_TooMany C_ZeroBottom C_BadLot C_Season C_ShelfError : Addr} (F : Fun K "__init__" "BadNumber.__init__" s_BadNumber___init__ f fd) (T : Txt K mg C_Weighted C_Ratio C_BadNumber C_TooMany C_ZeroBottom C_BadLot C_Season C_ShelfError) : FnOk P w K mg base CX0 1 f fd ["self", "what", "at"] (sp_BadNumber___init__ C_BadNumber) := by
  refine F.ok sc_BadNumber___init__ (fun vs H Q E h => ?_) (fun cdv A outer s H vs Q E hr h => ?_)
  · obtain ⟨a, x, y, rfl, _⟩ := h
    rfl
  · obtain ⟨a, x, y, rfl, ha, q⟩ := h
    refine ⟨_, (pss_cons (ps_ost (pv 0) (pv 1))
      (pss_one (ps_ost (pv 0) (pv 2)))), ?_⟩
    refine ⟨_, rfl, _, rfl, a, C_BadNumber, rfl, T.ox_BadNumber, T.n_BadNumber_what, .inl ⟨ha, fun dx nd ne => ?_⟩⟩
    exact ⟨_, rfl, _, rfl, a, C_BadNumber, rfl, T.ox_BadNumber, T.n_BadNumber_at, .inr ⟨dx, _, upd_same, (upd_ne ne).trans upd_same, by show 1 ≤ 900; decide, q dx nd ne⟩⟩
def sp_TooMany___init__ (C : Addr) : Sp := fun vs H Q _ => ∃ (a : Addr) (x y : V), vs = [.ref a, x, y] ∧ H a = some (exo a C none) ∧ ∀ dx, H dx = none → dx ≠ a → Q .non (errH H a C dx "many" "most" x y)
theorem ok_TooMany___init__ {f : Addr} {fd : FuncData} {C_Weighted C_Ratio C_BadNumber C_TooMany C_ZeroBottom C_BadLot C_Season C_ShelfError : Addr} (F : Fun K "__init__" "TooMany.__init__" s_TooMany___init__ f fd) (T : Txt K mg C_Weighted C_Ratio C_BadNumber C_TooMany C_ZeroBottom C_BadLot C_Season C_ShelfError) : FnOk P w K mg base CX0 1 f fd ["self", "many", "most"] (sp_TooMany___init__ C_TooMany) := by
  refine F.ok sc_TooMany___init__ (fun vs H Q E h => ?_) (fun cdv A outer s H vs Q E hr h => ?_)
  · obtain ⟨a, x, y, rfl, _⟩ := h
    rfl
  · obtain ⟨a, x, y, rfl, ha, q⟩ := h
    refine ⟨_, (pss_cons (ps_ost (pv 0) (pv 1))
      (pss_one (ps_ost (pv 0) (pv 2)))), ?_⟩
    refine ⟨_, rfl, _, rfl, a, C_TooMany, rfl, T.ox_TooMany, T.n_TooMany_many, .inl ⟨ha, fun dx nd ne => ?_⟩⟩
    exact ⟨_, rfl, _, rfl, a, C_TooMany, rfl, T.ox_TooMany, T.n_TooMany_most, .inr ⟨dx, _, upd_same, (upd_ne ne).trans upd_same, by show 1 ≤ 900; decide, q dx nd ne⟩⟩
def sp_check_many (CT : Addr) : Sp := fun vs H Q E => ∃ m n : Int, vs = [.int m, .int n] ∧ (m > n → ∀ d, H d = none → E (.ref CT) (some d) (upd H d (.xd [("most", .int n), ("many", .int m)]))) ∧ (¬ m > n → Q .non H)
theorem ok_check_many {f : Addr} {fd : FuncData} {C_Weighted C_Ratio C_BadNumber C_TooMany C_ZeroBottom C_BadLot C_Season C_ShelfError : Addr} (F : Fun K "check_many" "check_many" s_check_many f fd) (T : Txt K mg C_Weighted C_Ratio C_BadNumber C_TooMany C_ZeroBottom C_BadLot C_Season C_ShelfError) (c_TooMany___init__ : CalX P w K mg base CX0 1 C_TooMany ["self", "many", "most"] (sp_TooMany___init__ C_TooMany)) : FnOk P w K mg base (L2.CX P w) 3 f fd ["many", "most"] (sp_check_many C_TooMany) := by
  refine F.okX sc_check_many (fun vs H Q E h => ?_) (fun cdv A outer s H vs Q E hr h => ?_)
  · obtain ⟨m, n, rfl, _⟩ := h
    rfl
  · obtain ⟨m, n, rfl, kE, q⟩ := h
    obtain ⟨f_TooMany___init__, fd_TooMany___init__, G_TooMany___init__, ic_TooMany___init__, ti_TooMany___init__, b_TooMany___init__⟩ := c_TooMany___init__
    refine ⟨_, (pss_one (ps_if (pt_cmpR op_gt (pv 0) (pv 1) (nomark _)) (pss_one (ps_raise rfl (takes_of rfl rfl rfl rfl) (pmk_oex T.ox_TooMany ic_TooMany___init__ ti_TooMany___init__ G_TooMany___init__ (hr.mono (by decide)) b_TooMany___init__ .nil pass0 (by exact rfl) T.g_TooMany (pa_cons (pv 0) (pa_cons (pv 1) pa_nil))))) pss_nil)), ?_⟩
    refine ⟨_, rfl, _, rfl, _, _, rfl, rfl, _, rfl, ite2 (fun e => ?_) (fun e => q fun z => e (decide_eq_true z))⟩
    exact ⟨_, rfl, _, rfl, (by show 2 ≤ 1000; decide), fun a na => ⟨a, _, _, rfl, upd_same, fun dx nd ne => raise2 (kE (of_decide_eq_true e)) na nd ne⟩⟩
def sp_check_length (CB : Addr) : Sp := fun vs H Q E => ∃ (w : Str) (l : Addr) (xs : List V) (m : Int), vs = [.str w, .ref l, .int m] ∧ H l = some (.lst xs) ∧ (¬ (xs.length : Int) = m → ∀ d, H d = none → E (.ref CB) (some d) (upd H d (.xd [("at", .non), ("what", .str w)]))) ∧ ((xs.length : Int) = m → Q .non H)
theorem ok_check_length {f : Addr} {fd : FuncData} {C_Weighted C_Ratio C_BadNumber C_TooMany C_ZeroBottom C_BadLot C_Season C_ShelfError : Addr} (F : Fun K "check_length" "check_length" s_check_length f fd) (T : Txt K mg C_Weighted C_Ratio C_BadNumber C_TooMany C_ZeroBottom C_BadLot C_Season C_ShelfError) (m_len : mg "len" = none) (c_BadNumber___init__ : CalX P w K mg base CX0 1 C_BadNumber ["self", "what", "at"] (sp_BadNumber___init__ C_BadNumber)) : FnOk P w K mg base (L2.CX P w) 3 f fd ["what", "items", "many"] (sp_check_length C_BadNumber) := by
  refine F.okX sc_check_length (fun vs H Q E h => ?_) (fun cdv A outer s H vs Q E hr h => ?_)
  · obtain ⟨w, l, xs, m, rfl, _⟩ := h
    rfl
  · obtain ⟨w, l, xs, m, rfl, hl, kE, q⟩ := h
    obtain ⟨f_BadNumber___init__, fd_BadNumber___init__, G_BadNumber___init__, ic_BadNumber___init__, ti_BadNumber___init__, b_BadNumber___init__⟩ := c_BadNumber___init__
    refine ⟨_, (pss_one (ps_if (pt_cmpR op_ne (pe_callB call_len_seq (by rfl) m_len (by decide +kernel) (pa_cons (pv 1) pa_nil)) (pv 2) (nomark _)) (pss_one (ps_raise rfl (takes_of rfl rfl rfl rfl) (pmk_oex T.ox_BadNumber ic_BadNumber___init__ ti_BadNumber___init__ G_BadNumber___init__ (hr.mono (by decide)) b_BadNumber___init__ .nil pass0 (by exact rfl) T.g_BadNumber (pa_cons (pv 0) (pa_cons pe_non pa_nil))))) pss_nil)), ?_⟩
    refine ⟨_, rfl, l, _, rfl, .inl (lst_l hl), _, rfl, rfl, _, rfl, ite2N (fun e => ?_) (fun e => q (V.int.inj e))⟩
    exact ⟨_, rfl, (by show 2 ≤ 1000; decide), fun a na => ⟨a, _, _, rfl, upd_same, fun dx nd ne => raise2 (kE fun z => e (congrArg V.int z)) na nd ne⟩⟩
def sp_check_each (K : PySem.W.Frag) (CB : Addr) : Sp := fun vs H Q E => ∃ (l : Addr) (w : Str) (ns : List Int) (b : Int), vs = [.str w, .ref l, .int b] ∧ H l = some (.lst (ns.map V.int)) ∧ ns.length ≤ 1000 ∧ (∀ k : Nat, lowAt b ns 0 = some k → ∀ H' d, Same H H' → H' d = some (.xd [("at", .int k), ("what", .str w)]) → E (.ref CB) (some d) H') ∧ (lowAt b ns 0 = none → ∀ H', Same H H' → Q .non H')
theorem ok_check_each {f : Addr} {fd : FuncData} {C_Weighted C_Ratio C_BadNumber C_TooMany C_ZeroBottom C_BadLot C_Season C_ShelfError : Addr} (F : Fun K "check_each" "check_each" s_check_each f fd) (T : Txt K mg C_Weighted C_Ratio C_BadNumber C_TooMany C_ZeroBottom C_BadLot C_Season C_ShelfError) (m_enumerate : mg "enumerate" = none) (c_BadNumber___init__ : CalX P w K mg base CX0 1 C_BadNumber ["self", "what", "at"] (sp_BadNumber___init__ C_BadNumber)) : FnOk P w K mg base (L2.CX P w) 3 f fd ["what", "numbers", "least"] (sp_check_each K C_BadNumber) := by
  refine F.okX sc_check_each (fun vs H Q E h => ?_) (fun cdv A outer s H vs Q E hr h => ?_)
  · obtain ⟨l, w, ns, b, rfl, _⟩ := h
    rfl
  · obtain ⟨l, w, ns, b, rfl, hl, hlen, kE, q⟩ := h
    obtain ⟨f_BadNumber___init__, fd_BadNumber___init__, G_BadNumber___init__, ic_BadNumber___init__, ti_BadNumber___init__, b_BadNumber___init__⟩ := c_BadNumber___init__
    refine ⟨_, (pss_one (ps_for (passes_of rfl) rfl (pi_enum (by rfl) m_enumerate (pa_cons (pv 1) pa_nil)) (pg_tup rfl (pgs_cons (pg_name (i := 3) sc_check_each.nd rfl (Or.inl rfl)) (pgs_cons (pg_name (i := 4) sc_check_each.nd rfl (Or.inl rfl)) pgs_nil)))
      (pss_one (ps_if (pt_cmpR op_lt (pv 4) (pv 2) (nomark _)) (pss_one (ps_raise rfl (takes_of rfl rfl rfl rfl) (pmk_oex T.ox_BadNumber ic_BadNumber___init__ ti_BadNumber___init__ G_BadNumber___init__ (hr.mono (by decide)) b_BadNumber___init__ .nil pass0 (by exact rfl) T.g_BadNumber (pa_cons (pv 0) (pa_cons (pv 3) pa_nil))))) pss_nil)))), ?_⟩
    refine ⟨_, rfl, l, _, rfl, lst_l hl, ?_⟩
    refine for_it (walk_enum (K := K) (a := l) (xs := ns.map V.int)) (fun i σ H2 => ∃ y1 y2 : Option V, σ = [some (.str w), some (.ref l), some (.int b), y1, y2] ∧ Same H H2 ∧ lowAt b ns 0 = lowAt b (ns.drop i) i) ⟨none, none, rfl, fun _ _ z => z, rfl⟩ ?_ ?_ ?_
    · rintro i σ H2 _ ⟨_, _, _, sx, _⟩
      exact lst_l (sx l _ hl)
    · rintro i x σ H2 H3 hi ⟨y1, y2, rfl, sx, hb⟩ ⟨tp, ix, nx, rfl, ntp, rfl, e1, e2⟩
      cases e1
      obtain ⟨n, rfl, hn⟩ := int_of e2
      rw [List.length_map] at hi
      refine ⟨tp, _, rfl, tup_t upd_same, rfl, _, _, rfl, _, _, rfl, rfl, ?_⟩
      have hd : ns.drop i = n :: ns.drop (i + 1) := by
        rw [List.drop_eq_getElem_cons hi]
        rw [List.getElem?_eq_getElem hi] at hn
        rw [Option.some.inj hn]
      refine ⟨_, rfl, _, rfl, _, _, rfl, rfl, _, rfl, ite2 (fun c => ?_) (fun c => ?_)⟩
      · have c := of_decide_eq_true c
        have hk : lowAt b ns 0 = some i := by
          rw [hb, hd]
          exact if_pos c
        exact ⟨_, rfl, _, rfl, (by show 2 ≤ 1000; decide), fun a na => ⟨a, _, _, rfl, upd_same, fun dx2 nd ne => raise2 (fun d nd => kE i hk _ _ ((sx.trans (same_upd ntp)).trans (same_upd nd)) upd_same) na nd ne⟩⟩
      · have c : ¬ n < b := fun z => c (decide_eq_true z)
        refine ⟨_, _, rfl, sx.trans (same_upd ntp), ?_⟩
        rw [hb, hd]
        exact if_neg c
    · rintro σ H2 ⟨y1, y2, rfl, sx, hb⟩
      rw [List.length_map, List.drop_length] at hb
      exact q hb H2 sx
def sp_check_prices (K : PySem.W.Frag) (CB : Addr) : Sp := fun vs H Q E => ∃ (l : Addr) (ps : List Int) (m : Int), vs = [.ref l, .int m] ∧ H l = some (.lst (ps.map V.int)) ∧ ps.length ≤ 1000 ∧ (¬ (ps.length : Int) = m → ∀ H' d, Same H H' → H' d = some (.xd [("at", .non), ("what", .str "prices")]) → E (.ref CB) (some d) H') ∧
  ((ps.length : Int) = m → ∀ k : Nat, negAt ps 0 = some k → ∀ H' d, Same H H' → H' d = some (.xd [("at", .int k), ("what", .str "prices")]) → E (.ref CB) (some d) H') ∧ ((ps.length : Int) = m → negAt ps 0 = none → ∀ H', Same H H' → Q .non H')
theorem ok_check_prices {f : Addr} {fd : FuncData} {C_Weighted C_Ratio C_BadNumber C_TooMany C_ZeroBottom C_BadLot C_Season C_ShelfError : Addr} (F : Fun K "check_prices" "check_prices" s_check_prices f fd) (T : Txt K mg C_Weighted C_Ratio C_BadNumber C_TooMany C_ZeroBottom C_BadLot C_Season C_ShelfError) (c_check_length : Cal P w K mg base (L2.CX P w) 3 "check_length" ["what", "items", "many"] (sp_check_length C_BadNumber)) (c_check_each : Cal P w K mg base (L2.CX P w) 3 "check_each" ["what", "numbers", "least"] (sp_check_each K C_BadNumber)) : FnOk P w K mg base (L2.CX P w) 4 f fd ["prices", "many"] (sp_check_prices K C_BadNumber) := by
  refine F.okX sc_check_prices (fun vs H Q E h => ?_) (fun cdv A outer s H vs Q E hr h => ?_)
  · obtain ⟨l, ps, m, rfl, _⟩ := h
    rfl
  · obtain ⟨l, ps, m, rfl, hl, hlen, kL, kE, q⟩ := h
    obtain ⟨f_check_length, fd_check_length, G_check_length, m_check_length, k_check_length, b_check_length⟩ := c_check_length
    obtain ⟨f_check_each, fd_check_each, G_check_each, m_check_each, k_check_each, b_check_each⟩ := c_check_each
    refine ⟨_, (pss_cons (ps_expr (pe_call G_check_length (hr.mono (by decide)) (by rfl) m_check_length k_check_length b_check_length .nil (passes_call (takes_of rfl rfl rfl rfl) (fun _ _ _ _ h => h)) (pa_cons pe_str (pa_cons (pv 0) (pa_cons (pv 1) pa_nil)))))
      (pss_one (ps_expr (pe_call G_check_each (hr.mono (by decide)) (by rfl) m_check_each k_check_each b_check_each .nil (passes_call (takes_of rfl rfl rfl rfl) (fun _ _ _ _ h => h)) (pa_cons pe_str (pa_cons (pv 0) (pa_cons pe_int pa_nil))))))), ?_⟩
    refine ⟨_, rfl, _, rfl, _, l, _, m, rfl, hl, fun e d nd => ?_, fun e => ?_⟩
    · rw [List.length_map] at e
      exact kL e _ d (same_upd nd) upd_same
    rw [List.length_map] at e
    exact ⟨_, rfl, l, _, ps, 0, rfl, hl, hlen, fun k hk H' d s hd => kE e k ((low_neg ps 0).symm.trans hk) H' d s hd, fun hb H' s => q e ((low_neg ps 0).symm.trans hb) H' s⟩
def sp_check_least (CB : Addr) : Sp := fun vs H Q E => ∃ (w : Str) (n b : Int), vs = [.str w, .int n, .int b] ∧ (n < b → ∀ d, H d = none → E (.ref CB) (some d) (upd H d (.xd [("at", .non), ("what", .str w)]))) ∧ (¬ n < b → Q .non H)
theorem ok_check_least {f : Addr} {fd : FuncData} {C_Weighted C_Ratio C_BadNumber C_TooMany C_ZeroBottom C_BadLot C_Season C_ShelfError : Addr} (F : Fun K "check_least" "check_least" s_check_least f fd) (T : Txt K mg C_Weighted C_Ratio C_BadNumber C_TooMany C_ZeroBottom C_BadLot C_Season C_ShelfError) (c_BadNumber___init__ : CalX P w K mg base CX0 1 C_BadNumber ["self", "what", "at"] (sp_BadNumber___init__ C_BadNumber)) : FnOk P w K mg base (L2.CX P w) 3 f fd ["what", "number", "least"] (sp_check_least C_BadNumber) := by
  refine F.okX sc_check_least (fun vs H Q E h => ?_) (fun cdv A outer s H vs Q E hr h => ?_)
  · obtain ⟨w, n, b, rfl, _⟩ := h
    rfl
  · obtain ⟨w, n, b, rfl, kE, q⟩ := h
    obtain ⟨f_BadNumber___init__, fd_BadNumber___init__, G_BadNumber___init__, ic_BadNumber___init__, ti_BadNumber___init__, b_BadNumber___init__⟩ := c_BadNumber___init__
    refine ⟨_, (pss_one (ps_if (pt_cmpR op_lt (pv 1) (pv 2) (nomark _)) (pss_one (ps_raise rfl (takes_of rfl rfl rfl rfl) (pmk_oex T.ox_BadNumber ic_BadNumber___init__ ti_BadNumber___init__ G_BadNumber___init__ (hr.mono (by decide)) b_BadNumber___init__ .nil pass0 (by exact rfl) T.g_BadNumber (pa_cons (pv 0) (pa_cons pe_non pa_nil))))) pss_nil)), ?_⟩
    refine ⟨_, rfl, _, rfl, _, _, rfl, rfl, _, rfl, ite2 (fun e => ?_) (fun e => q fun z => e (decide_eq_true z))⟩
    exact ⟨_, rfl, (by show 2 ≤ 1000; decide), fun a na => ⟨a, _, _, rfl, upd_same, fun dx nd ne => raise2 (kE (of_decide_eq_true e)) na nd ne⟩⟩
def sp_check_aside (CB : Addr) : Sp := fun vs H Q E => ∃ n : Int, vs = [.int n] ∧ (n < 1 → ∀ d, H d = none → E (.ref CB) (some d) (upd H d (.xd [("at", .non), ("what", .str "aside")]))) ∧ (¬ n < 1 → Q .non H)
theorem ok_check_aside {f : Addr} {fd : FuncData} {C_Weighted C_Ratio C_BadNumber C_TooMany C_ZeroBottom C_BadLot C_Season C_ShelfError : Addr} (F : Fun K "check_aside" "check_aside" s_check_aside f fd) (T : Txt K mg C_Weighted C_Ratio C_BadNumber C_TooMany C_ZeroBottom C_BadLot C_Season C_ShelfError) (c_check_least : Cal P w K mg base (L2.CX P w) 3 "check_least" ["what", "number", "least"] (sp_check_least C_BadNumber)) : FnOk P w K mg base (L2.CX P w) 4 f fd ["aside"] (sp_check_aside C_BadNumber) := by
  refine F.okX sc_check_aside (fun vs H Q E h => ?_) (fun cdv A outer s H vs Q E hr h => ?_)
  · obtain ⟨n, rfl, _⟩ := h
    rfl
  · obtain ⟨n, rfl, kE, q⟩ := h
    obtain ⟨f_check_least, fd_check_least, G_check_least, m_check_least, k_check_least, b_check_least⟩ := c_check_least
    refine ⟨_, (pss_one (ps_expr (pe_call G_check_least (hr.mono (by decide)) (by rfl) m_check_least k_check_least b_check_least .nil (passes_call (takes_of rfl rfl rfl rfl) (fun _ _ _ _ h => h)) (pa_cons pe_str (pa_cons (pv 0) (pa_cons pe_int pa_nil)))))), ?_⟩
    exact ⟨_, rfl, _, n, 1, rfl, kE, q⟩
def sp_check_up_to (CB : Addr) : Sp := fun vs H Q E => ∃ (w : Str) (n m : Int), vs = [.str w, .int n, .int m] ∧ ((n < 0 ∨ m < n) → ∀ d, H d = none → E (.ref CB) (some d) (upd H d (.xd [("at", .non), ("what", .str w)]))) ∧ (0 ≤ n → n ≤ m → Q .non H)
theorem ok_check_up_to {f : Addr} {fd : FuncData} {C_Weighted C_Ratio C_BadNumber C_TooMany C_ZeroBottom C_BadLot C_Season C_ShelfError : Addr} (F : Fun K "check_up_to" "check_up_to" s_check_up_to f fd) (T : Txt K mg C_Weighted C_Ratio C_BadNumber C_TooMany C_ZeroBottom C_BadLot C_Season C_ShelfError) (c_BadNumber___init__ : CalX P w K mg base CX0 1 C_BadNumber ["self", "what", "at"] (sp_BadNumber___init__ C_BadNumber)) : FnOk P w K mg base (L2.CX P w) 3 f fd ["what", "number", "most"] (sp_check_up_to C_BadNumber) := by
  refine F.okX sc_check_up_to (fun vs H Q E h => ?_) (fun cdv A outer s H vs Q E hr h => ?_)
  · obtain ⟨w, n, m, rfl, _⟩ := h
    rfl
  · obtain ⟨w, n, m, rfl, kE, q⟩ := h
    obtain ⟨f_BadNumber___init__, fd_BadNumber___init__, G_BadNumber___init__, ic_BadNumber___init__, ti_BadNumber___init__, b_BadNumber___init__⟩ := c_BadNumber___init__
    refine ⟨_, (pss_one (ps_if (PW.pt (pw_or (pt_cmpR op_lt (pv 1) pe_int (nomark _)) (pw_or1 (pt_cmpR op_gt (pv 1) (pv 2) (nomark _))))) (pss_one (ps_raise rfl (takes_of rfl rfl rfl rfl) (pmk_oex T.ox_BadNumber ic_BadNumber___init__ ti_BadNumber___init__ G_BadNumber___init__ (hr.mono (by decide)) b_BadNumber___init__ .nil pass0 (by exact rfl) T.g_BadNumber (pa_cons (pv 0) (pa_cons pe_non pa_nil))))) pss_nil)), ?_⟩
    refine ⟨_, rfl, _, _, rfl, rfl, _, rfl, ite2 (fun c => ?_) (fun c => ⟨_, rfl, _, rfl, _, _, rfl, rfl, _, rfl, ite2 (fun c2 => ?_) (fun c2 => ?_)⟩)⟩
    · exact ⟨_, rfl, (by show 2 ≤ 1000; decide), fun a na => ⟨a, _, _, rfl, upd_same, fun dx nd ne => raise2 (kE (.inl (of_decide_eq_true c))) na nd ne⟩⟩
    · exact ⟨_, rfl, (by show 2 ≤ 1000; decide), fun a na => ⟨a, _, _, rfl, upd_same, fun dx nd ne => raise2 (kE (.inr (of_decide_eq_true c2))) na nd ne⟩⟩
    · have c : ¬ n < 0 := fun z => c (decide_eq_true z)
      have c2 : ¬ n > m := fun z => c2 (decide_eq_true z)
      exact q (by omega) (by omega)
def sp_Rule___init__ (C CT : Addr) : Sp := fun vs H Q E => ∃ (p dx : Addr) (fs : List (Str × V)) (m : Int), vs = [.ref p, .int m] ∧ H p = some (.ins C dx fs) ∧ fs.length ≤ 900 ∧ (m > 24 → ∀ d, H d = none → E (.ref CT) (some d) (upd H d (.xd [("most", .int 24), ("many", .int m)]))) ∧ (¬ m > 24 → Q .non (upd H p (.ins C dx (putF "many" (.int m) fs))))
theorem ok_Rule___init__ {f : Addr} {fd : FuncData} {C_Weighted C_Ratio C_BadNumber C_TooMany C_ZeroBottom C_BadLot C_Season C_ShelfError : Addr} (F : Fun K "__init__" "Rule.__init__" s_Rule___init__ f fd) (T : Txt K mg C_Weighted C_Ratio C_BadNumber C_TooMany C_ZeroBottom C_BadLot C_Season C_ShelfError) (c_check_many : Cal P w K mg base (L2.CX P w) 3 "check_many" ["many", "most"] (sp_check_many C_TooMany)) : FnOk P w K mg base (L2.CX P w) 4 f fd ["self", "many"] (sp_Rule___init__ C_Weighted C_TooMany) := by
  refine F.okX sc_Rule___init__ (fun vs H Q E h => ?_) (fun cdv A outer s H vs Q E hr h => ?_)
  · obtain ⟨p, dx, fs, m, rfl, _⟩ := h
    rfl
  · obtain ⟨p, dx, fs, m, rfl, hp, hl, kE, q⟩ := h
    obtain ⟨f_check_many, fd_check_many, G_check_many, m_check_many, k_check_many, b_check_many⟩ := c_check_many
    refine ⟨_, (pss_cons (ps_expr (pe_call G_check_many (hr.mono (by decide)) (by rfl) m_check_many k_check_many b_check_many .nil (passes_call (takes_of rfl rfl rfl rfl) (fun _ _ _ _ h => h)) (pa_cons (pv 1) (pa_cons (pe_glob (v := .int 24) (by rfl) T.g_MOST_THINGS.choose_spec ⟨_, rfl⟩) pa_nil))))
      (pss_one (ps_fld (pv 0) (pv 1) rfl))), ?_⟩
    refine ⟨_, rfl, m, 24, rfl, kE, fun e => ?_⟩
    exact ⟨_, rfl, _, rfl, p, C_Weighted, dx, fs, rfl, hp, T.cl_Weighted, T.n_Weighted_many, by omega, q e⟩
/-- what a Weighted wishes of its ends: the errors, the made one -/
structure MadeW (C CT CB p dx : Addr) (ns : List Int) (aside : Int) (H : Hp) (Q : VK) (E : XK) : Prop where
  t : ns.length > 24 → ∀ H' d, SameX p H H' → H' d = some (.xd [("most", .int 24), ("many", .int ns.length)]) → E (.ref CT) (some d) H'
  b : ¬ ns.length > 24 → ∀ k : Nat, badAt ns 0 = some k → ∀ H' d, SameX p H H' → H' d = some (.xd [("at", .int k), ("what", .str "weights")]) → E (.ref CB) (some d) H'
  a : ¬ ns.length > 24 → badAt ns 0 = none → aside < 1 → ∀ H' d, SameX p H H' → H' d = some (.xd [("at", .non), ("what", .str "aside")]) → E (.ref CB) (some d) H'
  m : ¬ ns.length > 24 → badAt ns 0 = none → ¬ aside < 1 → ∀ H' t, SameX p H H' → H' p = some (.ins C dx (fW ns.length aside t)) → H' t = some (.tup (ns.map V.int)) → Q .non H'
def sp_Weighted___init__ (K : PySem.W.Frag) (C CT CB : Addr) : Sp := fun vs H Q E => ∃ (p dx l : Addr) (ns : List Int) (aside : Int), vs = [.ref p, .ref l, .int aside] ∧ H p = some (.ins C dx []) ∧ H l = some (.lst (ns.map V.int)) ∧ ns.length ≤ 1000 ∧ MadeW C CT CB p dx ns aside H Q E
theorem ok_Weighted___init__ {f cc cda g_Rule : Addr} {fd : FuncData} {file : Str} {C_Weighted C_Ratio C_BadNumber C_TooMany C_ZeroBottom C_BadLot C_Season C_ShelfError : Addr} (F : FunS K "__init__" "Weighted.__init__" s_Weighted___init__ cc cda f fd) (SC : SupC K mg C_Weighted C_Weighted cc cda g_Rule file) (hfile : ((P.main.file : Str) == file) = true) (htop : (P.main.scope.names.lookup ("super" : Str)).isSome = false) (T : Txt K mg C_Weighted C_Ratio C_BadNumber C_TooMany C_ZeroBottom C_BadLot C_Season C_ShelfError) (m_len : mg "len" = none) (m_tuple : mg "tuple" = none) (c_Rule___init__ : ∃ fd : FuncData, FnOk P w K mg base (L2.CX P w) 4 g_Rule fd ["self", "many"] (sp_Rule___init__ C_Weighted C_TooMany) ∧ Binds K fd ["self", "many"] []) (c_check_each : Cal P w K mg base (L2.CX P w) 3 "check_each" ["what", "numbers", "least"] (sp_check_each K C_BadNumber)) (c_check_aside : Cal P w K mg base (L2.CX P w) 4 "check_aside" ["aside"] (sp_check_aside C_BadNumber)) : FnOk P w K mg base (L2.CX P w) 5 f fd ["self", "weights", "aside"] (sp_Weighted___init__ K C_Weighted C_TooMany C_BadNumber) := by
  obtain ⟨fd_Rule___init__, G_Rule___init__, b_Rule___init__⟩ := c_Rule___init__
  obtain ⟨f_check_each, fd_check_each, G_check_each, m_check_each, k_check_each, b_check_each⟩ := c_check_each
  obtain ⟨f_check_aside, fd_check_aside, G_check_aside, m_check_aside, k_check_aside, b_check_aside⟩ := c_check_aside
  obtain ⟨⟨oc, od, kV, doc, pm, an, ct, osl, rfl, lk, hcd⟩, _⟩ := F
  refine fn_super (C := C_Weighted) lk hcd sc_Weighted___init__ SC hfile htop rfl rfl rfl rfl rfl (fun vs H Q E h => ?_) G_Rule___init__ b_Rule___init__ (by decide) (fun _ => rfl) (fun _ => rfl) (fun _ => rfl) (fun _ => rfl) (fun _ => rfl) (fun A outer s H vs Q E hr h => ?_)
  · obtain ⟨p, dx, l, ns, aside, rfl, _⟩ := h
    rfl
  · obtain ⟨p, dx, l, ns, aside, rfl, hp, hl, hlen, W⟩ := h
    refine ⟨_, _, p, dx, [], _, E, (pa_cons (pe_callB call_len_seq (by rfl) m_len (by decide +kernel) (pa_cons (pv 1) pa_nil)) pa_nil), (pss_cons (ps_expr (pe_call G_check_each (hr.mono (by decide)) (by rfl) m_check_each k_check_each b_check_each .nil (passes_call (takes_of rfl rfl rfl rfl) (fun _ _ _ _ h => h)) (pa_cons pe_str (pa_cons (pv 1) (pa_cons pe_int pa_nil)))))
      (pss_cons (ps_expr (pe_call G_check_aside (hr.mono (by decide)) (by rfl) m_check_aside k_check_aside b_check_aside .nil (passes_call (takes_of rfl rfl rfl rfl) (fun _ _ _ _ h => h)) (pa_cons (pv 2) pa_nil)))
      (pss_cons (ps_fld (pv 0) (pe_callTy call_tuple_of (by rfl) m_tuple (by decide +kernel) (pa_cons (pv 1) pa_nil)) rfl)
      (pss_one (ps_fld (pv 0) (pv 2) rfl))))), passes_call (takes_of rfl rfl rfl rfl) (fun _ _ _ _ h => h), rfl, hp, ?_⟩
    have pl : l ≠ p := fun z => by
      rw [z, hp] at hl
      cases hl
    refine ⟨_, rfl, l, _, rfl, .inl (lst_l hl), ?_⟩
    rw [List.length_map]
    refine ⟨p, dx, [], (ns.length : Int), rfl, hp, Nat.zero_le _, fun e d nd => W.t (by omega) _ _ (SameX.new nd) upd_same, fun e => ?_⟩
    have e0 : ¬ ns.length > 24 := fun z => e (by omega)
    have hl1 := (upd_ne (o := .ins C_Weighted dx (putF "many" (.int ns.length) [])) pl).trans hl
    refine ⟨_, rfl, l, _, ns, 1, rfl, hl1, hlen, fun k hk H' d s' hd => W.b e0 k ((low_bad ns 0).symm.trans hk) _ _ (SameX.put.trans (same_sx s')) hd, fun hb H2 s2 => ?_⟩
    have hb := (low_bad ns 0).symm.trans hb
    have hp2 := s2 _ _ (upd_same (H := H) (a := p) (o := .ins C_Weighted dx (putF "many" (.int ns.length) [])))
    have hl2 := s2 _ _ hl1
    have sx := SameX.put.trans (same_sx s2)
    refine ⟨_, rfl, aside, rfl, fun c d nd => W.a e0 hb c _ _ (sx.trans (SameX.new nd)) upd_same, fun c => ?_⟩
    refine ⟨_, rfl, l, _, rfl, .inl ⟨lst_l hl2, fun t nt => ?_⟩⟩
    have hp3 := (upd_ne (o := .tup (ns.map V.int)) (ne_of_none hp2 nt)).trans hp2
    have pt : t ≠ p := fun z => by
      rw [z, hp2] at nt
      cases nt
    refine ⟨_, rfl, p, C_Weighted, dx, _, rfl, hp3, T.cl_Weighted, T.n_Weighted_weights, (by show 1 < 1000; decide), ?_⟩
    refine ⟨_, rfl, _, rfl, p, C_Weighted, dx, _, rfl, upd_same, T.cl_Weighted, T.n_Weighted_aside, (by show 2 < 1000; decide), ?_⟩
    refine W.m e0 hb c _ t (((sx.trans (SameX.new nt)).trans SameX.put).trans SameX.put) upd_same ?_
    rw [upd_ne pt, upd_ne pt, upd_same]

theorem badAt_none : ∀ {ns : List Int} {i : Nat}, (∀ n ∈ ns, 1 ≤ n) → badAt ns i = none
  | [], _, _ => rfl
  | n :: r, i, h => by
    have := h n List.mem_cons_self
    exact (if_neg (by omega)).trans (badAt_none fun m hm => h m (List.mem_cons_of_mem _ hm))
/-- how a caller makes a rule by weights that there is -/
theorem mk_w {K : PySem.W.Frag} {C CT CB l : Addr} {ws : List Int} {b : Int} {H : Hp} {G : Addr → Hp → Prop} {E : XK} (hl : H l = some (.lst (ws.map V.int))) (wl : ws.length ≤ 24) (hw : ∀ w ∈ ws, 1 ≤ w) (b0 : 0 < b)
    (k : ∀ x dx t H', Same H H' → H x = none → WAt C H' x dx t ws b → G x H') :
    ∀ x dx, H x = none → H dx = none → dx ≠ x → sp_Weighted___init__ K C CT CB [.ref x, .ref l, .int b] (upd (upd H dx (.own x)) x (.ins C dx [])) (fun v H2 => v = .non ∧ G x H2) E :=
  fun x dx nx nd _ => ⟨x, dx, l, ws, b, rfl, upd_same, (upd_ne (ne_of_none hl nx)).trans ((upd_ne (ne_of_none hl nd)).trans hl), by omega,
    ⟨fun e => absurd e (by omega), fun _ j hj => (by
      rw [badAt_none hw] at hj
      cases hj), fun _ _ c => absurd c (by omega), fun _ _ _ H' t sx hx ht => ⟨rfl, k x dx t H' (sameX_made nx nd sx) nx ⟨hx, ht⟩⟩⟩⟩
/-- Ratio(t, b): ZeroBottom, or the fraction in lowest terms -/
def sp_Ratio___init__ (C CZ : Addr) : Sp := fun vs H Q E => ∃ (x dx : Addr) (t b : Int), vs = [.ref x, .int t, .int b] ∧ H x = some (.ins C dx []) ∧ (b ≠ 0 → Sm b) ∧ (b = 0 → E (.ref CZ) none H) ∧
  (b ≠ 0 → ∀ H', RatAt C H' x (nT t b) (nB t b) → (∀ c o, H c = some o → c ≠ x → H' c = some o) → Q .non H')

theorem ok_Ratio___init__ {f : Addr} {fd : FuncData} {C_Weighted C_Ratio C_BadNumber C_TooMany C_ZeroBottom C_BadLot C_Season C_ShelfError : Addr} (F : FunD K "__init__" "Ratio.__init__" (defArgs s_Ratio___init__) (defBody s_Ratio___init__) (defScope s_Ratio___init__) [V.int 1] [] f fd) (T : Txt K mg C_Weighted C_Ratio C_BadNumber C_TooMany C_ZeroBottom C_BadLot C_Season C_ShelfError) : FnOk P w K mg base (L2.CX P w) 1 f fd ["self", "top", "bottom"] (sp_Ratio___init__ C_Ratio C_ZeroBottom) := by
  refine FunD.ok (CX := (L2.CX P w)) F sc_Ratio___init__ (fun vs H Q E h => ?_) (fun cdv A outer s H vs Q E hr h => ?_)
  · obtain ⟨x, dx, t, b, rfl, _⟩ := h
    rfl
  · obtain ⟨x, dx, t, b, rfl, hx, hsm, kE, kQ⟩ := h
    refine ⟨_, (pss_cons (ps_if (pt_cmpR op_eq (pv 2) pe_int (nomark _)) (pss_one (ps_raise rfl (takes_of rfl rfl rfl rfl) (pmk_own PySem.F.excBase_ValueError T.x_ZeroBottom T.g_ZeroBottom T.kc_ZeroBottom (raises_own T.b_ZeroBottom T.t_ZeroBottom) (by exact rfl)))) pss_nil)
      (pss_cons (ps_set (i := 3) sc_Ratio___init__.nd rfl (Or.inl rfl) (pe_callBfun cr_gcd (by rfl) T.g_gcd (pa_cons (pv 1) (pa_cons (pv 2) pa_nil))))
      (Evl.pss_cut (ps_if (pt_cmpR op_lt (pv 2) pe_int (nomark _)) (pss_one (ps_set (i := 3) sc_Ratio___init__.nd rfl (Or.inl rfl) (pe_un un_neg (pv 3)))) pss_nil)
      (pss_cons (ps_fld (pv 0) (pe_op op_fdivWN (pv 1) (pv 3)) rfl)
      (pss_one (ps_fld (pv 0) (pe_op op_fdivWN (pv 2) (pv 3)) rfl)))))), ?_⟩
    refine ⟨_, rfl, rfl, _, rfl, ite2 (fun e => ?_) (fun e => ?_)⟩
    · have e := V.int.inj (of_decide_eq_true e)
      exact kE e
    · have hb : b ≠ 0 := fun z => e (decide_eq_true (congrArg V.int z))
      refine ⟨_, rfl, _, rfl, t, b, rfl, ?_⟩
      refine ⟨fun σ' H' => H' = H ∧ σ' = [some (.ref x), some (.int t), some (.int b), some (.int (rd t b))], ?_, ?_⟩
      · refine ⟨_, rfl, _, _, rfl, rfl, _, rfl, ite2 (fun e2 => ?_) (fun e2 => ?_)⟩
        · have e2 := of_decide_eq_true e2
          refine ⟨_, rfl, _, rfl, rfl, ?_⟩
          rw [show rd t b = -(rg t b) from if_pos e2]
          rfl
        · have e2 : ¬ b < 0 := fun z => e2 (decide_eq_true z)
          refine ⟨rfl, ?_⟩
          rw [show rd t b = rg t b from if_neg e2]
          rfl
      · rintro σ' H' ⟨rfl, rfl⟩
        refine ⟨_, rfl, _, rfl, t, rd t b, rfl, rfl, rd_div hb (hsm hb) t, _, rfl, x, C_Ratio, dx, [], rfl, hx, T.cl_Ratio, T.n_Ratio_top, (by show 0 < 1000; decide), ?_⟩
        refine ⟨_, rfl, _, rfl, b, rd t b, rfl, rfl, rd_div hb (hsm hb) b, _, rfl, x, C_Ratio, dx, _, rfl, upd_same, T.cl_Ratio, T.n_Ratio_bottom, (by show 1 < 1000; decide), ?_⟩
        refine kQ hb _ ⟨dx, Eq.trans upd_same (congrArg (fun q => some (HO.ins C_Ratio dx q)) (rF_new _ _))⟩ fun c o e hc => ?_
        rw [upd_ne hc, upd_ne hc]
        exact e

/-- how a caller makes a Ratio that there is -/
theorem mk_rat {C CZ : Addr} {t b : Int} {H : Hp} {G : Addr → Hp → Prop} {E : XK} (hb : b ≠ 0) (hs : Sm b) (k : ∀ x H', Same H H' → H x = none → RatAt C H' x (nT t b) (nB t b) → G x H') :
    ∀ x dx, H x = none → H dx = none → dx ≠ x → sp_Ratio___init__ C CZ [.ref x, .int t, .int b] (upd (upd H dx (.own x)) x (.ins C dx [])) (fun v H2 => v = .non ∧ G x H2) E :=
  fun x dx nx nd _ => ⟨x, dx, t, b, rfl, upd_same, fun _ => hs, fun z => absurd z hb, fun _ H' r kp => ⟨rfl, k x H' (Same.made nx nd kp) nx r⟩⟩
def sp__as_ratio (C : Addr) : Sp := fun vs H Q _ => ∃ (y : V) (T B : Int), vs = [y] ∧ NumAt C H y T B ∧ ∀ H' q, Same H H' → RatAt C H' q T B → Q (.ref q) H'
theorem ok__as_ratio {f : Addr} {fd : FuncData} {C_Weighted C_Ratio C_BadNumber C_TooMany C_ZeroBottom C_BadLot C_Season C_ShelfError : Addr} (F : Fun K "_as_ratio" "_as_ratio" s__as_ratio f fd) (T : Txt K mg C_Weighted C_Ratio C_BadNumber C_TooMany C_ZeroBottom C_BadLot C_Season C_ShelfError) (m_isinstance : mg "isinstance" = none) (c_Ratio___init__ : CalI P w K mg base (L2.CX P w) 1 C_Ratio ["self", "top", "bottom"] (sp_Ratio___init__ C_Ratio C_ZeroBottom) [V.int 1]) : FnOk P w K mg base CX0 3 f fd ["number"] (sp__as_ratio C_Ratio) := by
  refine F.ok sc__as_ratio (fun vs H Q E h => ?_) (fun cdv A outer s H vs Q E hr h => ?_)
  · obtain ⟨y, T1, B, rfl, _⟩ := h
    rfl
  · obtain ⟨y, T1, B, rfl, hy, q⟩ := h
    obtain ⟨f_Ratio___init__, fd_Ratio___init__, G_Ratio___init__, M_Ratio___init__, b_Ratio___init__, ds_Ratio___init__, vd_Ratio___init__, bd_Ratio___init__⟩ := c_Ratio___init__
    refine ⟨_, (pss_cons (ps_if (pt_val (pe_callB call_isi (by rfl) m_isinstance (by decide +kernel) (pa_cons (pv 0) (pa_cons (pe_glob (v := .ref C_Ratio) (by rfl) T.g_Ratio rfl) pa_nil)))) (pss_one (ps_ret (pv 0))) pss_nil)
      (pss_one (ps_ret (pe_make M_Ratio___init__ G_Ratio___init__ (hr.mono (by decide)) (by rfl) T.g_Ratio bd_Ratio___init__ vd_Ratio___init__ passL (pa_cons (pv 0) pa_nil))))), ?_⟩
    rcases hy with ⟨p, rfl, dx, hp⟩ | ⟨rfl, rfl⟩
    · refine ⟨.ref p, rfl, .ref p, .ref C_Ratio, .ref C_Ratio, .ref C_Ratio, true, rfl, .own C_Ratio, .base (.ins hp T.cl_Ratio T.ha_Ratio T.hnc T.htk T.hm_Ratio), T.kit_Ratio_Ratio, true, rfl, iteT ?_⟩
      exact ⟨_, rfl, q H p (Same.refl H) ⟨dx, hp⟩⟩
    · refine ⟨_, rfl, .int T1, .ref C_Ratio, .type "int", .ref C_Ratio, false, rfl, .own C_Ratio, .base (.int T1), T.kit_int_Ratio, false, rfl, iteF ?_⟩
      refine ⟨_, rfl, mk_rat (t := T1) (b := 1) (by decide) (sm_of (n := 1) (by decide)) fun x H5 e5 nx r => ?_⟩
      obtain ⟨e1, e2⟩ := low_uniq (by decide) (low (t := T1) (b := 1) (by decide)) (low_int T1)
      rw [e1, e2] at r
      exact q H5 x e5 r
def sp__gap (C : Addr) : Sp := fun vs H Q _ => ∃ (p : Addr) (y : V) (T1 B1 T2 B2 : Int), vs = [.ref p, y] ∧ RatAt C H p T1 B1 ∧ NumAt C H y T2 B2 ∧ Sm T1 ∧ Sm B1 ∧ Sm T2 ∧ Sm B2 ∧ ∀ H', Same H H' → Q (.int (T1 * B2 - T2 * B1)) H'
theorem ok__gap {f : Addr} {fd : FuncData} {C_Weighted C_Ratio C_BadNumber C_TooMany C_ZeroBottom C_BadLot C_Season C_ShelfError : Addr} (F : Fun K "_gap" "_gap" s__gap f fd) (T : Txt K mg C_Weighted C_Ratio C_BadNumber C_TooMany C_ZeroBottom C_BadLot C_Season C_ShelfError) (c__as_ratio : Cal P w K mg base CX0 3 "_as_ratio" ["number"] (sp__as_ratio C_Ratio)) : FnOk P w K mg base CX0 4 f fd ["ratio", "other"] (sp__gap C_Ratio) := by
  refine F.ok sc__gap (fun vs H Q E h => ?_) (fun cdv A outer s H vs Q E hr h => ?_)
  · obtain ⟨p, y, T1, B1, T2, B2, rfl, _⟩ := h
    rfl
  · obtain ⟨p, y, T1, B1, T2, B2, rfl, hp, hy, s1, s2, s3, s4, q⟩ := h
    obtain ⟨f__as_ratio, fd__as_ratio, G__as_ratio, m__as_ratio, k__as_ratio, b__as_ratio⟩ := c__as_ratio
    refine ⟨_, (pss_cons (ps_set (i := 2) sc__gap.nd rfl (Or.inl rfl) (pe_call G__as_ratio (hr.mono (by decide)) (by rfl) m__as_ratio k__as_ratio b__as_ratio .nil pass0 (pa_cons (pv 1) pa_nil)))
      (pss_one (ps_ret (pe_op op_sub (pe_op op_mulW (pe_fld (pv 0) rfl) (pe_fld (pv 2) rfl)) (pe_op op_mulW (pe_fld (pv 2) rfl) (pe_fld (pv 0) rfl)))))), ?_⟩
    refine ⟨y, rfl, y, T2, B2, rfl, hy, fun H1 z e1 rz => ?_⟩
    obtain ⟨dx, hp1⟩ := hp.same e1
    obtain ⟨dz, hz⟩ := rz
    refine ⟨.ref p, rfl, p, C_Ratio, dx, _, _, rfl, hp1, T.cl_Ratio, T.n_Ratio_top, rF_top T1 B1, .ref z, rfl, z, C_Ratio, dz, _, _, rfl, hz, T.cl_Ratio, T.n_Ratio_bottom, rF_bot T2 B2, T1, B2, rfl, rfl, s1.mul s4, ?_⟩
    exact ⟨.ref z, rfl, z, C_Ratio, dz, _, _, rfl, hz, T.cl_Ratio, T.n_Ratio_top, rF_top T2 B2, .ref p, rfl, p, C_Ratio, dx, _, _, rfl, hp1, T.cl_Ratio, T.n_Ratio_bottom, rF_bot T1 B1, T2, B1, rfl, rfl, s3.mul s2, _, _, rfl, rfl, q H1 e1⟩
def sp_Ratio___lt__ (C : Addr) : Sp := fun vs H Q _ => ∃ (p : Addr) (y : V) (T1 B1 T2 B2 : Int), vs = [.ref p, y] ∧ RatAt C H p T1 B1 ∧ NumAt C H y T2 B2 ∧ Sm T1 ∧ Sm B1 ∧ Sm T2 ∧ Sm B2 ∧ ∀ H', Same H H' → Q (.bl (decide (T1 * B2 < T2 * B1))) H'
theorem ok_Ratio___lt__ {f : Addr} {fd : FuncData} {C_Weighted C_Ratio C_BadNumber C_TooMany C_ZeroBottom C_BadLot C_Season C_ShelfError : Addr} (F : Fun K "__lt__" "Ratio.__lt__" s_Ratio___lt__ f fd) (T : Txt K mg C_Weighted C_Ratio C_BadNumber C_TooMany C_ZeroBottom C_BadLot C_Season C_ShelfError) (c__gap : Cal P w K mg base CX0 4 "_gap" ["ratio", "other"] (sp__gap C_Ratio)) : FnOk P w K mg base CX0 5 f fd ["self", "other"] (sp_Ratio___lt__ C_Ratio) := by
  refine F.ok sc_Ratio___lt__ (fun vs H Q E h => ?_) (fun cdv A outer s H vs Q E hr h => ?_)
  · obtain ⟨p, y, T1, B1, T2, B2, rfl, _⟩ := h
    rfl
  · obtain ⟨p, y, T1, B1, T2, B2, rfl, hp, hy, s1, s2, s3, s4, q⟩ := h
    obtain ⟨f__gap, fd__gap, G__gap, m__gap, k__gap, b__gap⟩ := c__gap
    refine ⟨_, (pss_one (ps_ret (pe_cmpR op_lt (pe_call G__gap (hr.mono (by decide)) (by rfl) m__gap k__gap b__gap .nil pass0 (pa_cons (pv 0) (pa_cons (pv 1) pa_nil))) pe_int (nomark _)))), ?_⟩
    refine ⟨.ref p, rfl, y, rfl, p, y, T1, B1, T2, B2, rfl, hp, hy, s1, s2, s3, s4, fun H1 e1 => ⟨_, _, rfl, rfl, ?_⟩⟩
    have e : decide (T1 * B2 - T2 * B1 < 0) = decide (T1 * B2 < T2 * B1) := decide_eq_decide.mpr (by omega)
    have h := q H1 e1
    rw [← e] at h
    exact h
def sp_Ratio___gt__ (C : Addr) : Sp := fun vs H Q _ => ∃ (p : Addr) (y : V) (T1 B1 T2 B2 : Int), vs = [.ref p, y] ∧ RatAt C H p T1 B1 ∧ NumAt C H y T2 B2 ∧ Sm T1 ∧ Sm B1 ∧ Sm T2 ∧ Sm B2 ∧ ∀ H', Same H H' → Q (.bl (decide (T1 * B2 > T2 * B1))) H'
theorem ok_Ratio___gt__ {f : Addr} {fd : FuncData} {C_Weighted C_Ratio C_BadNumber C_TooMany C_ZeroBottom C_BadLot C_Season C_ShelfError : Addr} (F : Fun K "__gt__" "Ratio.__gt__" s_Ratio___gt__ f fd) (T : Txt K mg C_Weighted C_Ratio C_BadNumber C_TooMany C_ZeroBottom C_BadLot C_Season C_ShelfError) (c__gap : Cal P w K mg base CX0 4 "_gap" ["ratio", "other"] (sp__gap C_Ratio)) : FnOk P w K mg base CX0 5 f fd ["self", "other"] (sp_Ratio___gt__ C_Ratio) := by
  refine F.ok sc_Ratio___gt__ (fun vs H Q E h => ?_) (fun cdv A outer s H vs Q E hr h => ?_)
  · obtain ⟨p, y, T1, B1, T2, B2, rfl, _⟩ := h
    rfl
  · obtain ⟨p, y, T1, B1, T2, B2, rfl, hp, hy, s1, s2, s3, s4, q⟩ := h
    obtain ⟨f__gap, fd__gap, G__gap, m__gap, k__gap, b__gap⟩ := c__gap
    refine ⟨_, (pss_one (ps_ret (pe_cmpR op_gt (pe_call G__gap (hr.mono (by decide)) (by rfl) m__gap k__gap b__gap .nil pass0 (pa_cons (pv 0) (pa_cons (pv 1) pa_nil))) pe_int (nomark _)))), ?_⟩
    refine ⟨.ref p, rfl, y, rfl, p, y, T1, B1, T2, B2, rfl, hp, hy, s1, s2, s3, s4, fun H1 e1 => ⟨_, _, rfl, rfl, ?_⟩⟩
    have e : decide (0 < T1 * B2 - T2 * B1) = decide (T1 * B2 > T2 * B1) := decide_eq_decide.mpr (by omega)
    have h := q H1 e1
    rw [← e] at h
    exact h
def sp_Ratio___neg__ (C : Addr) : Sp := fun vs H Q _ => ∃ (p : Addr) (T1 B1 : Int), vs = [.ref p] ∧ RatAt C H p T1 B1 ∧ 0 < B1 ∧ Sm B1 ∧ ∀ H' r T B, Same H H' → RatAt C H' r T B → LowT (-T1) B1 T B → Q (.ref r) H'
theorem ok_Ratio___neg__ {f : Addr} {fd : FuncData} {C_Weighted C_Ratio C_BadNumber C_TooMany C_ZeroBottom C_BadLot C_Season C_ShelfError : Addr} (F : Fun K "__neg__" "Ratio.__neg__" s_Ratio___neg__ f fd) (T : Txt K mg C_Weighted C_Ratio C_BadNumber C_TooMany C_ZeroBottom C_BadLot C_Season C_ShelfError) (c_Ratio___init__ : CalI P w K mg base (L2.CX P w) 1 C_Ratio ["self", "top", "bottom"] (sp_Ratio___init__ C_Ratio C_ZeroBottom) [V.int 1]) : FnOk P w K mg base CX0 3 f fd ["self"] (sp_Ratio___neg__ C_Ratio) := by
  refine F.ok sc_Ratio___neg__ (fun vs H Q E h => ?_) (fun cdv A outer s H vs Q E hr h => ?_)
  · obtain ⟨p, T1, B1, rfl, _⟩ := h
    rfl
  · obtain ⟨p, T1, B1, rfl, ⟨dx, hp⟩, p1, s1, q⟩ := h
    obtain ⟨f_Ratio___init__, fd_Ratio___init__, G_Ratio___init__, M_Ratio___init__, b_Ratio___init__, ds_Ratio___init__, vd_Ratio___init__, bd_Ratio___init__⟩ := c_Ratio___init__
    refine ⟨_, (pss_one (ps_ret (pe_make M_Ratio___init__ G_Ratio___init__ (hr.mono (by decide)) (by rfl) T.g_Ratio b_Ratio___init__ .nil passL (pa_cons (pe_un un_neg (pe_fld (pv 0) rfl)) (pa_cons (pe_fld (pv 0) rfl) pa_nil))))), ?_⟩
    refine ⟨.ref p, rfl, p, C_Ratio, dx, _, _, rfl, hp, T.cl_Ratio, T.n_Ratio_top, rF_top T1 B1, T1, rfl, .ref p, rfl, p, C_Ratio, dx, _, _, rfl, hp, T.cl_Ratio, T.n_Ratio_bottom, rF_bot T1 B1, mk_rat (t := -T1) (b := B1) (by omega) s1 fun x H5 e5 nx r => ?_⟩
    exact q H5 x _ _ e5 r (low (by omega))
def sp_Ratio___add__ (C : Addr) : Sp := fun vs H Q _ => ∃ (p : Addr) (y : V) (T1 B1 T2 B2 : Int), vs = [.ref p, y] ∧ RatAt C H p T1 B1 ∧ NumAt C H y T2 B2 ∧ 0 < B1 ∧ 0 < B2 ∧ Sm T1 ∧ Sm B1 ∧ Sm T2 ∧ Sm B2 ∧ Sm (B1 * B2) ∧
  ∀ H' r T B, Same H H' → RatAt C H' r T B → LowT (T1 * B2 + T2 * B1) (B1 * B2) T B → Q (.ref r) H'
theorem ok_Ratio___add__ {f : Addr} {fd : FuncData} {C_Weighted C_Ratio C_BadNumber C_TooMany C_ZeroBottom C_BadLot C_Season C_ShelfError : Addr} (F : Fun K "__add__" "Ratio.__add__" s_Ratio___add__ f fd) (T : Txt K mg C_Weighted C_Ratio C_BadNumber C_TooMany C_ZeroBottom C_BadLot C_Season C_ShelfError) (c__as_ratio : Cal P w K mg base CX0 3 "_as_ratio" ["number"] (sp__as_ratio C_Ratio)) (c_Ratio___init__ : CalI P w K mg base (L2.CX P w) 1 C_Ratio ["self", "top", "bottom"] (sp_Ratio___init__ C_Ratio C_ZeroBottom) [V.int 1]) : FnOk P w K mg base CX0 4 f fd ["self", "other"] (sp_Ratio___add__ C_Ratio) := by
  refine F.ok sc_Ratio___add__ (fun vs H Q E h => ?_) (fun cdv A outer s H vs Q E hr h => ?_)
  · obtain ⟨p, y, T1, B1, T2, B2, rfl, _⟩ := h
    rfl
  · obtain ⟨p, y, T1, B1, T2, B2, rfl, hp, hy, p1, p2, s1, s2, s3, s4, s5, q⟩ := h
    obtain ⟨f__as_ratio, fd__as_ratio, G__as_ratio, m__as_ratio, k__as_ratio, b__as_ratio⟩ := c__as_ratio
    obtain ⟨f_Ratio___init__, fd_Ratio___init__, G_Ratio___init__, M_Ratio___init__, b_Ratio___init__, ds_Ratio___init__, vd_Ratio___init__, bd_Ratio___init__⟩ := c_Ratio___init__
    refine ⟨_, (pss_cons (ps_set (i := 2) sc_Ratio___add__.nd rfl (Or.inl rfl) (pe_call G__as_ratio (hr.mono (by decide)) (by rfl) m__as_ratio k__as_ratio b__as_ratio .nil pass0 (pa_cons (pv 1) pa_nil)))
      (pss_one (ps_ret (pe_make M_Ratio___init__ G_Ratio___init__ (hr.mono (by decide)) (by rfl) T.g_Ratio b_Ratio___init__ .nil passL (pa_cons (pe_op op_add (pe_op op_mulW (pe_fld (pv 0) rfl) (pe_fld (pv 2) rfl)) (pe_op op_mulW (pe_fld (pv 2) rfl) (pe_fld (pv 0) rfl))) (pa_cons (pe_op op_mulW (pe_fld (pv 0) rfl) (pe_fld (pv 2) rfl)) pa_nil)))))), ?_⟩
    refine ⟨y, rfl, y, T2, B2, rfl, hy, fun H1 z e1 rz => ?_⟩
    obtain ⟨dx, hp1⟩ := hp.same e1
    obtain ⟨dz, hz⟩ := rz
    have n0 : B1 * B2 ≠ 0 := Int.ne_of_gt (Int.mul_pos p1 p2)
    refine ⟨.ref p, rfl, p, C_Ratio, dx, _, _, rfl, hp1, T.cl_Ratio, T.n_Ratio_top, rF_top T1 B1, .ref z, rfl, z, C_Ratio, dz, _, _, rfl, hz, T.cl_Ratio, T.n_Ratio_bottom, rF_bot T2 B2, T1, B2, rfl, rfl, s1.mul s4, ?_⟩
    refine ⟨.ref z, rfl, z, C_Ratio, dz, _, _, rfl, hz, T.cl_Ratio, T.n_Ratio_top, rF_top T2 B2, .ref p, rfl, p, C_Ratio, dx, _, _, rfl, hp1, T.cl_Ratio, T.n_Ratio_bottom, rF_bot T1 B1, T2, B1, rfl, rfl, s3.mul s2, _, _, rfl, rfl, ?_⟩
    refine ⟨.ref p, rfl, p, C_Ratio, dx, _, _, rfl, hp1, T.cl_Ratio, T.n_Ratio_bottom, rF_bot T1 B1, .ref z, rfl, z, C_Ratio, dz, _, _, rfl, hz, T.cl_Ratio, T.n_Ratio_bottom, rF_bot T2 B2, B1, B2, rfl, rfl, s2.mul s4, ?_⟩
    exact mk_rat (t := T1 * B2 + T2 * B1) (b := B1 * B2) n0 s5 fun x H5 e5 nx r => q H5 x _ _ (e1.trans e5) r (low n0)

theorem sum_take1 {ns : List Int} {i : Nat} {n : Int} (h : ns[i]? = some n) : (ns.take (i + 1)).sum = (ns.take i).sum + n := by
  rw [List.take_add_one, h, List.sum_append]
  simp
/-- sum(rs, start=Ratio(0)): all items over one bottom d -/
theorem sum_rats {K : PySem.W.Frag} {C l x0 : Addr} {H : Hp} {rs : List Addr} {ns : List Int} {d : Int} {Q : VK} (d0 : 0 < d) (sd : Sm d) (sdd : Sm (d * d)) (sS : ∀ i, Sm ((ns.take i).sum)) (sN : ∀ n ∈ ns, Sm n) (hl : H l = some (.lst (rs.map V.ref))) (lr : rs.length = ns.length)
    (hr : ∀ (i : Nat) (r : Addr) (n : Int), rs[i]? = some r → ns[i]? = some n → ∃ T B, RatAt C H r T B ∧ LowT n d T B) (h0 : ∃ T B, RatAt C H x0 T B ∧ LowT 0 1 T B)
    (q : ∀ H' r T B, Same H H' → RatAt C H' r T B → LowT ns.sum d T B → Q (.ref r) H') : rSumO K C (sp_Ratio___add__ C) [.ref l] [.ref x0] H Q := by
  have dn : d ≠ 0 := by omega
  refine ⟨l, rs.map V.ref, .ref x0, fun i x H' => ∃ r T B, x = .ref r ∧ Same H H' ∧ RatAt C H' r T B ∧ LowT (ns.take i).sum d T B, rfl, rfl, ?_, ?_, ?_, ?_⟩
  · obtain ⟨T, B, r0, lo⟩ := h0
    exact ⟨x0, T, B, rfl, Same.refl H, r0, lo.to (by decide) dn (by rw [List.take_zero]; show 0 * d = 0 * 1; omega)⟩
  · rintro i x H' ⟨r, T, B, rfl, s, ra, lo⟩
    obtain ⟨dx, e⟩ := ra
    exact ⟨lst_l (s _ _ hl), r, dx, _, rfl, e⟩
  · rintro i x y H' ⟨r, T1, B1, rfl, s, ra, lo⟩ hy
    rw [List.getElem?_map] at hy
    obtain ⟨r2, e2, rfl⟩ : ∃ r2, rs[i]? = some r2 ∧ V.ref r2 = y := by
      cases e : rs[i]? with
      | none =>
        rw [e] at hy
        cases hy
      | some z =>
        rw [e] at hy
        exact ⟨z, rfl, Option.some.inj hy⟩
    have lt : i < ns.length := lr ▸ (List.getElem?_eq_some_iff.mp e2).1
    have en : ns[i]? = some ns[i] := List.getElem?_eq_getElem lt
    obtain ⟨T2, B2, rb, lo2⟩ := hr i r2 _ e2 en
    have rb2 := rb.same s
    obtain ⟨dy, ey⟩ := id rb2
    refine ⟨⟨r2, dy, _, rfl, ey⟩, ?_⟩
    have p1 := lo.pos
    have p2 := lo2.pos
    have n12 : B1 * B2 ≠ 0 := Int.ne_of_gt (Int.mul_pos p1 p2)
    refine ⟨r, .ref r2, T1, B1, T2, B2, rfl, ra, rb2.num, p1, p2, (sS i).le lo.leT, sd.le lo.leB, (sN _ (List.getElem_mem lt)).le lo2.leT, sd.le lo2.leB, sdd.le ?_, fun H2 r3 T B s2 r3a lo3 => ?_⟩
    · rw [Int.natAbs_mul, Int.natAbs_mul]
      exact Nat.mul_le_mul lo.leB lo2.leB
    · refine ⟨r3, T, B, rfl, s.trans s2, r3a, lo3.to n12 dn ?_⟩
      rw [sum_take1 en]
      have e1 := lo.eq
      have e2 := lo2.eq
      generalize (ns.take i).sum = S at e1 ⊢
      generalize ns[i] = n at e2 ⊢
      grind
  · rintro x H' ⟨r, T, B, rfl, s, ra, lo⟩
    rw [List.length_map, lr, List.take_length] at lo
    exact q H' r T B s ra lo
def sp_Ratio___sub__ (C : Addr) : Sp := fun vs H Q _ => ∃ (p : Addr) (y : V) (T1 B1 T2 B2 : Int), vs = [.ref p, y] ∧ RatAt C H p T1 B1 ∧ NumAt C H y T2 B2 ∧ 0 < B1 ∧ 0 < B2 ∧ Sm T1 ∧ Sm B1 ∧ Sm T2 ∧ Sm B2 ∧ Sm (B1 * B2) ∧
  ∀ H' r T B, Same H H' → RatAt C H' r T B → LowT (T1 * B2 - T2 * B1) (B1 * B2) T B → Q (.ref r) H'
theorem ok_Ratio___sub__ {f : Addr} {fd : FuncData} {C_Weighted C_Ratio C_BadNumber C_TooMany C_ZeroBottom C_BadLot C_Season C_ShelfError : Addr} (F : Fun K "__sub__" "Ratio.__sub__" s_Ratio___sub__ f fd) (T : Txt K mg C_Weighted C_Ratio C_BadNumber C_TooMany C_ZeroBottom C_BadLot C_Season C_ShelfError) (c__as_ratio : Cal P w K mg base CX0 3 "_as_ratio" ["number"] (sp__as_ratio C_Ratio)) (c_Ratio___neg__ : CalM P w K mg base CX0 3 C_Ratio "__neg__" ["self"] (sp_Ratio___neg__ C_Ratio)) (c_Ratio___add__ : CalM P w K mg base CX0 4 C_Ratio "__add__" ["self", "other"] (sp_Ratio___add__ C_Ratio)) : FnOk P w K mg base CX0 5 f fd ["self", "other"] (sp_Ratio___sub__ C_Ratio) := by
  refine F.ok sc_Ratio___sub__ (fun vs H Q E h => ?_) (fun cdv A outer s H vs Q E hr h => ?_)
  · obtain ⟨p, y, T1, B1, T2, B2, rfl, _⟩ := h
    rfl
  · obtain ⟨p, y, T1, B1, T2, B2, rfl, hp, hy, p1, p2, s1, s2, s3, s4, s5, q⟩ := h
    obtain ⟨f__as_ratio, fd__as_ratio, G__as_ratio, m__as_ratio, k__as_ratio, b__as_ratio⟩ := c__as_ratio
    obtain ⟨f_Ratio___neg__, fd_Ratio___neg__, G_Ratio___neg__, M_Ratio___neg__, b_Ratio___neg__⟩ := c_Ratio___neg__
    obtain ⟨f_Ratio___add__, fd_Ratio___add__, G_Ratio___add__, M_Ratio___add__, b_Ratio___add__⟩ := c_Ratio___add__
    refine ⟨_, (pss_one (ps_ret (pe_op (op_own_Add M_Ratio___add__ T.sf_Ratio T.rf_Ratio_add T.int_add T.si_Ratio G_Ratio___add__ (hr.mono (by decide)) b_Ratio___add__ pass0) (pv 0) (pe_un (un_own M_Ratio___neg__ G_Ratio___neg__ (hr.mono (by decide)) b_Ratio___neg__ pass0) (pe_call G__as_ratio (hr.mono (by decide)) (by rfl) m__as_ratio k__as_ratio b__as_ratio .nil pass0 (pa_cons (pv 1) pa_nil)))))), ?_⟩
    refine ⟨.ref p, rfl, y, rfl, y, T2, B2, rfl, hy, fun H1 z e1 rz => ?_⟩
    refine ⟨rz.self, z, T2, B2, rfl, rz, p2, s4, fun H2 m T3 B3 e2 rm lo => ?_⟩
    have h1 := (hp.same e1).same e2
    have e3 := lo.eq
    have p3 := lo.pos
    have n3 : B1 * B3 ≠ 0 := Int.ne_of_gt (Int.mul_pos p1 p3)
    have n0 : B1 * B2 ≠ 0 := Int.ne_of_gt (Int.mul_pos p1 p2)
    have sT : Sm T3 := s3.le (by have := lo.leT; omega)
    have sB : Sm B3 := s4.le lo.leB
    have s53 : Sm (B1 * B3) := s5.le (by
      rw [Int.natAbs_mul, Int.natAbs_mul]
      exact Nat.mul_le_mul_left _ lo.leB)
    refine ⟨h1.self, rm.num.arg, p, .ref m, T1, B1, T3, B3, rfl, h1, rm.num, p1, p3, s1, s2, sT, sB, s53, fun H3 r T4 B4 e4 rr lo2 => ?_⟩
    exact q H3 r T4 B4 ((e1.trans e2).trans e4) rr (lo2.to n3 n0 (by grind))
def sp_Ratio___mul__ (C : Addr) : Sp := fun vs H Q _ => ∃ (p : Addr) (y : V) (T1 B1 T2 B2 : Int), vs = [.ref p, y] ∧ RatAt C H p T1 B1 ∧ NumAt C H y T2 B2 ∧ 0 < B1 ∧ 0 < B2 ∧ Sm T1 ∧ Sm B1 ∧ Sm T2 ∧ Sm B2 ∧ Sm (B1 * B2) ∧
  ∀ H' r T B, Same H H' → RatAt C H' r T B → LowT (T1 * T2) (B1 * B2) T B → Q (.ref r) H'
theorem ok_Ratio___mul__ {f : Addr} {fd : FuncData} {C_Weighted C_Ratio C_BadNumber C_TooMany C_ZeroBottom C_BadLot C_Season C_ShelfError : Addr} (F : Fun K "__mul__" "Ratio.__mul__" s_Ratio___mul__ f fd) (T : Txt K mg C_Weighted C_Ratio C_BadNumber C_TooMany C_ZeroBottom C_BadLot C_Season C_ShelfError) (c__as_ratio : Cal P w K mg base CX0 3 "_as_ratio" ["number"] (sp__as_ratio C_Ratio)) (c_Ratio___init__ : CalI P w K mg base (L2.CX P w) 1 C_Ratio ["self", "top", "bottom"] (sp_Ratio___init__ C_Ratio C_ZeroBottom) [V.int 1]) : FnOk P w K mg base CX0 4 f fd ["self", "other"] (sp_Ratio___mul__ C_Ratio) := by
  refine F.ok sc_Ratio___mul__ (fun vs H Q E h => ?_) (fun cdv A outer s H vs Q E hr h => ?_)
  · obtain ⟨p, y, T1, B1, T2, B2, rfl, _⟩ := h
    rfl
  · obtain ⟨p, y, T1, B1, T2, B2, rfl, hp, hy, p1, p2, s1, s2, s3, s4, s5, q⟩ := h
    obtain ⟨f__as_ratio, fd__as_ratio, G__as_ratio, m__as_ratio, k__as_ratio, b__as_ratio⟩ := c__as_ratio
    obtain ⟨f_Ratio___init__, fd_Ratio___init__, G_Ratio___init__, M_Ratio___init__, b_Ratio___init__, ds_Ratio___init__, vd_Ratio___init__, bd_Ratio___init__⟩ := c_Ratio___init__
    refine ⟨_, (pss_cons (ps_set (i := 2) sc_Ratio___mul__.nd rfl (Or.inl rfl) (pe_call G__as_ratio (hr.mono (by decide)) (by rfl) m__as_ratio k__as_ratio b__as_ratio .nil pass0 (pa_cons (pv 1) pa_nil)))
      (pss_one (ps_ret (pe_make M_Ratio___init__ G_Ratio___init__ (hr.mono (by decide)) (by rfl) T.g_Ratio b_Ratio___init__ .nil passL (pa_cons (pe_op op_mulW (pe_fld (pv 0) rfl) (pe_fld (pv 2) rfl)) (pa_cons (pe_op op_mulW (pe_fld (pv 0) rfl) (pe_fld (pv 2) rfl)) pa_nil)))))), ?_⟩
    refine ⟨y, rfl, y, T2, B2, rfl, hy, fun H1 z e1 rz => ?_⟩
    obtain ⟨dx, hp1⟩ := hp.same e1
    obtain ⟨dz, hz⟩ := rz
    have n0 : B1 * B2 ≠ 0 := Int.ne_of_gt (Int.mul_pos p1 p2)
    refine ⟨.ref p, rfl, p, C_Ratio, dx, _, _, rfl, hp1, T.cl_Ratio, T.n_Ratio_top, rF_top T1 B1, .ref z, rfl, z, C_Ratio, dz, _, _, rfl, hz, T.cl_Ratio, T.n_Ratio_top, rF_top T2 B2, T1, T2, rfl, rfl, s1.mul s3, ?_⟩
    refine ⟨.ref p, rfl, p, C_Ratio, dx, _, _, rfl, hp1, T.cl_Ratio, T.n_Ratio_bottom, rF_bot T1 B1, .ref z, rfl, z, C_Ratio, dz, _, _, rfl, hz, T.cl_Ratio, T.n_Ratio_bottom, rF_bot T2 B2, B1, B2, rfl, rfl, s2.mul s4, ?_⟩
    exact mk_rat (t := T1 * T2) (b := B1 * B2) n0 s5 fun x H5 e5 nx r => q H5 x _ _ (e1.trans e5) r (low n0)
def sp_Ratio_over (C CZ : Addr) : Sp := fun vs H Q E => ∃ (p : Addr) (y : V) (T1 B1 T2 B2 : Int), vs = [.ref p, y] ∧ RatAt C H p T1 B1 ∧ NumAt C H y T2 B2 ∧ 0 < B1 ∧ 0 < B2 ∧ Sm T1 ∧ Sm B1 ∧ Sm T2 ∧ Sm B2 ∧ Sm (B1 * T2) ∧
  (T2 = 0 → ∀ H', Same H H' → E (.ref CZ) none H') ∧ (T2 ≠ 0 → ∀ H' r T B, Same H H' → RatAt C H' r T B → LowT (T1 * B2) (B1 * T2) T B → Q (.ref r) H')
theorem ok_Ratio_over {f : Addr} {fd : FuncData} {C_Weighted C_Ratio C_BadNumber C_TooMany C_ZeroBottom C_BadLot C_Season C_ShelfError : Addr} (F : Fun K "over" "Ratio.over" s_Ratio_over f fd) (T : Txt K mg C_Weighted C_Ratio C_BadNumber C_TooMany C_ZeroBottom C_BadLot C_Season C_ShelfError) (c__as_ratio : Cal P w K mg base CX0 3 "_as_ratio" ["number"] (sp__as_ratio C_Ratio)) (c_Ratio___init__ : CalI P w K mg base (L2.CX P w) 1 C_Ratio ["self", "top", "bottom"] (sp_Ratio___init__ C_Ratio C_ZeroBottom) [V.int 1]) : FnOk P w K mg base (L2.CX P w) 4 f fd ["self", "other"] (sp_Ratio_over C_Ratio C_ZeroBottom) := by
  refine F.okX sc_Ratio_over (fun vs H Q E h => ?_) (fun cdv A outer s H vs Q E hr h => ?_)
  · obtain ⟨p, y, T1, B1, T2, B2, rfl, _⟩ := h
    rfl
  · obtain ⟨p, y, T1, B1, T2, B2, rfl, hp, hy, p1, p2, s1, s2, s3, s4, s5, kE, kQ⟩ := h
    obtain ⟨f__as_ratio, fd__as_ratio, G__as_ratio, m__as_ratio, k__as_ratio, b__as_ratio⟩ := c__as_ratio
    obtain ⟨f_Ratio___init__, fd_Ratio___init__, G_Ratio___init__, M_Ratio___init__, b_Ratio___init__, ds_Ratio___init__, vd_Ratio___init__, bd_Ratio___init__⟩ := c_Ratio___init__
    refine ⟨_, (pss_cons (ps_set (i := 2) sc_Ratio_over.nd rfl (Or.inl rfl) (pe_call G__as_ratio (hr.mono (by decide)) (by rfl) m__as_ratio k__as_ratio b__as_ratio .nil pass0 (pa_cons (pv 1) pa_nil)))
      (pss_one (ps_ret (pe_make M_Ratio___init__ G_Ratio___init__ (hr.mono (by decide)) (by rfl) T.g_Ratio b_Ratio___init__ .nil (passes_call (takes_of rfl rfl rfl rfl) (fun _ _ _ _ h => h)) (pa_cons (pe_op op_mulW (pe_fld (pv 0) rfl) (pe_fld (pv 2) rfl)) (pa_cons (pe_op op_mulW (pe_fld (pv 0) rfl) (pe_fld (pv 2) rfl)) pa_nil)))))), ?_⟩
    refine ⟨y, rfl, y, T2, B2, rfl, hy, fun H1 z e1 rz => ?_⟩
    obtain ⟨dx, hp1⟩ := hp.same e1
    obtain ⟨dz, hz⟩ := rz
    refine ⟨.ref p, rfl, p, C_Ratio, dx, _, _, rfl, hp1, T.cl_Ratio, T.n_Ratio_top, rF_top T1 B1, .ref z, rfl, z, C_Ratio, dz, _, _, rfl, hz, T.cl_Ratio, T.n_Ratio_bottom, rF_bot T2 B2, T1, B2, rfl, rfl, s1.mul s4, ?_⟩
    refine ⟨.ref p, rfl, p, C_Ratio, dx, _, _, rfl, hp1, T.cl_Ratio, T.n_Ratio_bottom, rF_bot T1 B1, .ref z, rfl, z, C_Ratio, dz, _, _, rfl, hz, T.cl_Ratio, T.n_Ratio_top, rF_top T2 B2, B1, T2, rfl, rfl, s2.mul s3, ?_⟩
    refine fun x dx nx nd _ => ⟨x, dx, T1 * B2, B1 * T2, rfl, upd_same, fun _ => s5, fun hb => ?_, fun hb H' r kp => ⟨rfl, ?_⟩⟩
    · have hz2 : T2 = 0 := (Int.mul_eq_zero.mp hb).resolve_left (by omega)
      refine kE hz2 _ (e1.trans fun c o e => ?_)
      rw [upd_ne (ne_of_none e nx), upd_ne (ne_of_none e nd)]
      exact e
    · have hz2 : T2 ≠ 0 := fun z => hb (by rw [z, Int.mul_zero])
      exact kQ hz2 H' x _ _ (e1.trans (Same.made nx nd kp)) r (low hb)
def sp_dearest_order (K : PySem.W.Frag) : Sp := fun vs H Q _ => ∃ (a : Addr) (ns : List Int), vs = [.ref a] ∧ (SqL K H a (ns.map V.int) ∨ H a = some (.tup (ns.map V.int))) ∧ ns.length ≤ 900 ∧
  ∀ (os : List Nat) (H' : Hp) (p : Addr), os.Perm (List.range ns.length) → os.Pairwise (Dear (pr ns)) → Same H H' → H p = none → H' p = some (.tup (nv os)) → Q (.ref p) H'

theorem ok_dearest_order {f : Addr} {fd : FuncData} {C_Weighted C_Ratio C_BadNumber C_TooMany C_ZeroBottom C_BadLot C_Season C_ShelfError : Addr} (F : Fun K "dearest_order" "dearest_order" s_dearest_order f fd) (T : Txt K mg C_Weighted C_Ratio C_BadNumber C_TooMany C_ZeroBottom C_BadLot C_Season C_ShelfError) (m_len : mg "len" = none) (m_range : mg "range" = none) (m_tuple : mg "tuple" = none) : FnOk P w K mg base CX0 1 f fd ["prices"] (sp_dearest_order K) := by
  refine F.ok sc_dearest_order (fun vs H Q E h => ?_) (fun cdv A outer s H vs Q E hr h => ?_)
  · obtain ⟨a, ns, rfl, _⟩ := h
    rfl
  · obtain ⟨a, ns, rfl, hS, hlen, q⟩ := h
    refine ⟨_, (pss_cons (ps_set (i := 1) sc_dearest_order.nd rfl (Or.inl rfl) (pe_lst pa_nil))
      (pss_cons (ps_for PassesOwn.never rfl (pi_range1 (by rfl) m_range (pa_cons (pe_callB call_len_seq (by rfl) m_len (by decide +kernel) (pa_cons (pv 0) pa_nil)) pa_nil)) (pg_name (i := 2) sc_dearest_order.nd rfl (Or.inl rfl))
      (pss_cons (ps_set (i := 3) sc_dearest_order.nd rfl (Or.inl rfl) (pe_callB call_len_seq (by rfl) m_len (by decide +kernel) (pa_cons (pv 1) pa_nil)))
      (pss_cons (ps_while PassesOwn.never (PW.pt (pw_and (pt_cmpR op_gt (pv 3) pe_int (nomark _)) (pw_and1 (pt_cmpR op_lt (pe_ix ix_seq (pv 0) (pe_ix ix_list (pv 1) (pe_op op_sub (pv 3) pe_int) (fun _ _ => rfl)) (fun _ _ => rfl)) (pe_ix ix_seq (pv 0) (pv 2) (fun _ _ => rfl)) (nomark _))))) (pss_one (ps_set (i := 3) sc_dearest_order.nd rfl (Or.inl rfl) (pe_op op_sub (pv 3) pe_int))))
      (pss_one (ps_expr (pe_bm PySem.F.plainAttrs_list PySem.F.slot_list_insert PySem.F.type_list_insert mt_insert (pv 1) (pa_cons (pv 3) (pa_cons (pv 2) pa_nil))))))))
      (pss_one (ps_ret (pe_callTy call_tuple_of (by rfl) m_tuple (by decide +kernel) (pa_cons (pv 1) pa_nil)))))), ?_⟩
    rcases hS with hS | hS
    · refine ⟨Nat.zero_le _, fun o no => ?_⟩
      have s1 : Same H (upd H o (.lst [])) := same_upd no
      refine ⟨.ref a, rfl, a, _, rfl, .inl (s1.seq hS), _, rfl, ?_⟩
      rw [List.length_map]
      refine ⟨by omega, by omega, ?_⟩
      rw [Int.toNat_natCast]
      refine for_range (lo := 0) (n := ns.length) (fun i σ H2 => ∃ (os : List Nat) (y1 y2 : Option V), σ = [some (.ref a), some (.ref o), y1, y2] ∧ os.Perm (List.range i) ∧ os.Pairwise (Dear (pr ns)) ∧ Same H H2 ∧ H2 o = some (.lst (nv os))) ⟨[], none, none, rfl, List.Perm.refl _, List.Pairwise.nil, s1, upd_same⟩ ?_ ?_
      · rintro i σ H2 hi ⟨os, y1, y2, rfl, hp, hw, s, hD⟩
        have hol : os.length = i := by
          rw [hp.length_eq, List.length_range]
        have hlt : ∀ x ∈ os, x < i := fun x hx => List.mem_range.mp (hp.mem_iff.mp hx)
        have hL : SqL K H2 o (nv os) := lst_l hD
        have hA : SqL K H2 a (ns.map V.int) := s.seq hS
        -- at = len(order)
        refine ⟨.ref o, rfl, o, _, rfl, .inl hL, ?_⟩
        rw [nv_len]
        -- while at > 0 and prices[order[at - 1]] < prices[thing]
        refine ⟨fun m σ H3 => H3 = H2 ∧ m ≤ os.length ∧ (∀ j x, m ≤ j → os[j]? = some x → pr ns x < pr ns i) ∧ σ = [some (.ref a), some (.ref o), some (.int (0 + (i : Int))), some (.int (m : Int))], ⟨os.length, rfl, Nat.le_refl _, fun j x hj hx => ?_, rfl⟩, ?_⟩
        · have := (List.getElem?_eq_some_iff.mp hx).1
          omega
        · rintro m σ H3 ⟨rfl, hm, hall, rfl⟩
          have fin : ∀ (hb : m = 0 ∨ ∃ y, os[m - 1]? = some y ∧ ¬ pr ns y < pr ns i), ∃ (os' : List Nat) (y1 y2 : Option V), [some (V.ref a), some (V.ref o), some (V.int (0 + (i : Int))), some (V.int (m : Int))] = [some (.ref a), some (.ref o), y1, y2] ∧ os'.Perm (List.range (i + 1)) ∧ os'.Pairwise (Dear (pr ns)) ∧ Same H (upd H3 o (.lst ((nv os).take (m : Int).toNat ++ [V.int (0 + (i : Int))] ++ (nv os).drop (m : Int).toNat))) ∧ (upd H3 o (.lst ((nv os).take (m : Int).toNat ++ [V.int (0 + (i : Int))] ++ (nv os).drop (m : Int).toNat))) o = some (.lst (nv os')) := fun hb =>
            ⟨os.take m ++ [i] ++ os.drop m, _, _, rfl, perm_insert hp, dear_insert hw hlt hall hb, same_mut s no, by rw [upd_same, Int.toNat_natCast, Int.zero_add, nv_ins]⟩
          refine ⟨_, rfl, _, _, rfl, rfl, _, rfl, ite2 (fun e => ?_) (fun e => ?_)⟩
          · have hm0 : 0 < m := by
              have := of_decide_eq_true e
              omega
            obtain ⟨x, hx⟩ : ∃ x, os[m - 1]? = some x := ⟨os[m - 1], List.getElem?_eq_getElem (by omega)⟩
            have hxi : x < i := hlt x (List.mem_of_getElem? hx)
            refine ⟨.ref a, rfl, .ref o, rfl, _, rfl, _, _, rfl, rfl, o, _, _, _, rfl, rfl, hL, at_of (j := m - 1) (by omega) (nv_at hx), .inl ⟨a, _, _, _, rfl, rfl, hA, atI_nat (int_at (pr_at (by omega))),
              .ref a, rfl, .int (0 + (i : Int)), rfl, .inl ⟨a, _, _, _, rfl, rfl, hA, at_of (Int.zero_add _) (int_at (pr_at hi)), _, _, rfl, rfl, _, rfl, ite2 (fun e2 => ?_) (fun e2 => ?_)⟩⟩⟩
            · have e2 := of_decide_eq_true e2
              refine ⟨fun σ' H' => H' = H3 ∧ σ' = [some (.ref a), some (.ref o), some (.int (0 + (i : Int))), some (.int (((m - 1 : Nat) : Nat) : Int))], fun σ' H' h => ⟨m - 1, by omega, h.1, by omega, fun j y hj hy => ?_, h.2⟩, ?_⟩
              · by_cases hjm : j = m - 1
                · subst hjm
                  rw [hx] at hy
                  cases hy
                  exact e2
                · exact hall j y (by omega) hy
              · refine ⟨_, rfl, _, _, rfl, rfl, rfl, ?_⟩
                rw [show (((m - 1 : Nat) : Nat) : Int) = (m : Int) - 1 by omega]
                rfl
            · have e2 : ¬ pr ns x < pr ns i := fun z => e2 (decide_eq_true z)
              refine ⟨.ref o, rfl, .inl ⟨rfl, _, hL⟩, _, rfl, _, rfl, o, _, _, _, rfl, rfl, hD, ?_, by omega, by omega, fin (.inr ⟨x, hx, e2⟩)⟩
              rw [nv_len]
              exact small1000 (by omega)
          · have hm0 : m = 0 := by
              have : ¬ (0 : Int) < (m : Int) := fun z => e (decide_eq_true z)
              omega
            refine ⟨.ref o, rfl, .inl ⟨rfl, _, hL⟩, _, rfl, _, rfl, o, _, _, _, rfl, rfl, hD, ?_, by omega, by omega, fin (.inl hm0)⟩
            rw [nv_len]
            exact small1000 (by omega)
      · rintro σ H2 ⟨os, y1, y2, rfl, hp, hw, s, hD⟩
        exact ⟨.ref o, rfl, o, _, rfl, .inl ⟨lst_l hD, fun p np => q os _ p hp hw (same_mut s (s.free np)) (s.free np) upd_same⟩⟩
    · refine ⟨Nat.zero_le _, fun o no => ?_⟩
      have s1 : Same H (upd H o (.lst [])) := same_upd no
      refine ⟨.ref a, rfl, a, _, rfl, .inr (tup_t (s1 _ _ hS)), _, rfl, ?_⟩
      rw [List.length_map]
      refine ⟨by omega, by omega, ?_⟩
      rw [Int.toNat_natCast]
      refine for_range (lo := 0) (n := ns.length) (fun i σ H2 => ∃ (os : List Nat) (y1 y2 : Option V), σ = [some (.ref a), some (.ref o), y1, y2] ∧ os.Perm (List.range i) ∧ os.Pairwise (Dear (pr ns)) ∧ Same H H2 ∧ H2 o = some (.lst (nv os))) ⟨[], none, none, rfl, List.Perm.refl _, List.Pairwise.nil, s1, upd_same⟩ ?_ ?_
      · rintro i σ H2 hi ⟨os, y1, y2, rfl, hp, hw, s, hD⟩
        have hol : os.length = i := by
          rw [hp.length_eq, List.length_range]
        have hlt : ∀ x ∈ os, x < i := fun x hx => List.mem_range.mp (hp.mem_iff.mp hx)
        have hL : SqL K H2 o (nv os) := lst_l hD
        have hA : SqT K H2 a (ns.map V.int) := tup_t (s _ _ hS)
        -- at = len(order)
        refine ⟨.ref o, rfl, o, _, rfl, .inl hL, ?_⟩
        rw [nv_len]
        -- while at > 0 and prices[order[at - 1]] < prices[thing]
        refine ⟨fun m σ H3 => H3 = H2 ∧ m ≤ os.length ∧ (∀ j x, m ≤ j → os[j]? = some x → pr ns x < pr ns i) ∧ σ = [some (.ref a), some (.ref o), some (.int (0 + (i : Int))), some (.int (m : Int))], ⟨os.length, rfl, Nat.le_refl _, fun j x hj hx => ?_, rfl⟩, ?_⟩
        · have := (List.getElem?_eq_some_iff.mp hx).1
          omega
        · rintro m σ H3 ⟨rfl, hm, hall, rfl⟩
          have fin : ∀ (hb : m = 0 ∨ ∃ y, os[m - 1]? = some y ∧ ¬ pr ns y < pr ns i), ∃ (os' : List Nat) (y1 y2 : Option V), [some (V.ref a), some (V.ref o), some (V.int (0 + (i : Int))), some (V.int (m : Int))] = [some (.ref a), some (.ref o), y1, y2] ∧ os'.Perm (List.range (i + 1)) ∧ os'.Pairwise (Dear (pr ns)) ∧ Same H (upd H3 o (.lst ((nv os).take (m : Int).toNat ++ [V.int (0 + (i : Int))] ++ (nv os).drop (m : Int).toNat))) ∧ (upd H3 o (.lst ((nv os).take (m : Int).toNat ++ [V.int (0 + (i : Int))] ++ (nv os).drop (m : Int).toNat))) o = some (.lst (nv os')) := fun hb =>
            ⟨os.take m ++ [i] ++ os.drop m, _, _, rfl, perm_insert hp, dear_insert hw hlt hall hb, same_mut s no, by rw [upd_same, Int.toNat_natCast, Int.zero_add, nv_ins]⟩
          refine ⟨_, rfl, _, _, rfl, rfl, _, rfl, ite2 (fun e => ?_) (fun e => ?_)⟩
          · have hm0 : 0 < m := by
              have := of_decide_eq_true e
              omega
            obtain ⟨x, hx⟩ : ∃ x, os[m - 1]? = some x := ⟨os[m - 1], List.getElem?_eq_getElem (by omega)⟩
            have hxi : x < i := hlt x (List.mem_of_getElem? hx)
            refine ⟨.ref a, rfl, .ref o, rfl, _, rfl, _, _, rfl, rfl, o, _, _, _, rfl, rfl, hL, at_of (j := m - 1) (by omega) (nv_at hx), .inr <| .inl ⟨a, _, _, _, rfl, rfl, hA, atI_nat (int_at (pr_at (by omega))),
              .ref a, rfl, .int (0 + (i : Int)), rfl, .inr <| .inl ⟨a, _, _, _, rfl, rfl, hA, at_of (Int.zero_add _) (int_at (pr_at hi)), _, _, rfl, rfl, _, rfl, ite2 (fun e2 => ?_) (fun e2 => ?_)⟩⟩⟩
            · have e2 := of_decide_eq_true e2
              refine ⟨fun σ' H' => H' = H3 ∧ σ' = [some (.ref a), some (.ref o), some (.int (0 + (i : Int))), some (.int (((m - 1 : Nat) : Nat) : Int))], fun σ' H' h => ⟨m - 1, by omega, h.1, by omega, fun j y hj hy => ?_, h.2⟩, ?_⟩
              · by_cases hjm : j = m - 1
                · subst hjm
                  rw [hx] at hy
                  cases hy
                  exact e2
                · exact hall j y (by omega) hy
              · refine ⟨_, rfl, _, _, rfl, rfl, rfl, ?_⟩
                rw [show (((m - 1 : Nat) : Nat) : Int) = (m : Int) - 1 by omega]
                rfl
            · have e2 : ¬ pr ns x < pr ns i := fun z => e2 (decide_eq_true z)
              refine ⟨.ref o, rfl, .inl ⟨rfl, _, hL⟩, _, rfl, _, rfl, o, _, _, _, rfl, rfl, hD, ?_, by omega, by omega, fin (.inr ⟨x, hx, e2⟩)⟩
              rw [nv_len]
              exact small1000 (by omega)
          · have hm0 : m = 0 := by
              have : ¬ (0 : Int) < (m : Int) := fun z => e (decide_eq_true z)
              omega
            refine ⟨.ref o, rfl, .inl ⟨rfl, _, hL⟩, _, rfl, _, rfl, o, _, _, _, rfl, rfl, hD, ?_, by omega, by omega, fin (.inl hm0)⟩
            rw [nv_len]
            exact small1000 (by omega)
      · rintro σ H2 ⟨os, y1, y2, rfl, hp, hw, s, hD⟩
        exact ⟨.ref o, rfl, o, _, rfl, .inl ⟨lst_l hD, fun p np => q os _ p hp hw (same_mut s (s.free np)) (s.free np) upd_same⟩⟩
def sp__bar (CR CW : Addr) : Sp := fun vs H Q _ => ∃ (g r dr tr tp : Addr) (ws ps : List Int) (a m D : Int), vs = [.ref g, .ref r, .ref tp] ∧ RatD CR H g m D ∧ WAt CW H r dr tr ws a ∧ H tp = some (.tup (ps.map V.int)) ∧ FineS ws a ps ∧ BigD D ∧ (m.natAbs : Int) ≤ 2 ^ 70 * D ∧
  ∀ H' q os S Z, Same H H' → Ord ps os → BarAt ws ps a m D os os.length S Z → RatD CR H' q (m * a + D * S) (D * Z) → Q (.ref q) H'
theorem ok__bar {f : Addr} {fd : FuncData} {C_Weighted C_Ratio C_BadNumber C_TooMany C_ZeroBottom C_BadLot C_Season C_ShelfError : Addr} (F : Fun K "_bar" "_bar" s__bar f fd) (T : Txt K mg C_Weighted C_Ratio C_BadNumber C_TooMany C_ZeroBottom C_BadLot C_Season C_ShelfError) (c_dearest_order : Cal P w K mg base CX0 1 "dearest_order" ["prices"] (sp_dearest_order K)) (c_Ratio___mul__ : CalM P w K mg base CX0 4 C_Ratio "__mul__" ["self", "other"] (sp_Ratio___mul__ C_Ratio)) (c_Ratio___add__ : CalM P w K mg base CX0 4 C_Ratio "__add__" ["self", "other"] (sp_Ratio___add__ C_Ratio)) (c_Ratio_over : CalM P w K mg base (L2.CX P w) 4 C_Ratio "over" ["self", "other"] (sp_Ratio_over C_Ratio C_ZeroBottom)) (c_Ratio___gt__ : CalM P w K mg base CX0 5 C_Ratio "__gt__" ["self", "other"] (sp_Ratio___gt__ C_Ratio)) (c_Ratio___lt__ : CalM P w K mg base CX0 5 C_Ratio "__lt__" ["self", "other"] (sp_Ratio___lt__ C_Ratio)) : FnOk P w K mg base CX0 6 f fd ["margin", "rule", "prices"] (sp__bar C_Ratio C_Weighted) := by
  refine F.ok sc__bar (fun vs H Q E h => ?_) (fun cdv A outer s H vs Q E hr h => ?_)
  · obtain ⟨g, r, dr, tr, tp, ws, ps, a, m, D, rfl, _⟩ := h
    rfl
  · obtain ⟨g, r, dr, tr, tp, ws, ps, a, m, D, rfl, hg, w, htp, fi, bD, bm, q⟩ := h
    obtain ⟨f_dearest_order, fd_dearest_order, G_dearest_order, m_dearest_order, k_dearest_order, b_dearest_order⟩ := c_dearest_order
    obtain ⟨f_Ratio___mul__, fd_Ratio___mul__, G_Ratio___mul__, M_Ratio___mul__, b_Ratio___mul__⟩ := c_Ratio___mul__
    obtain ⟨f_Ratio___add__, fd_Ratio___add__, G_Ratio___add__, M_Ratio___add__, b_Ratio___add__⟩ := c_Ratio___add__
    obtain ⟨f_Ratio_over, fd_Ratio_over, G_Ratio_over, M_Ratio_over, b_Ratio_over⟩ := c_Ratio_over
    obtain ⟨f_Ratio___gt__, fd_Ratio___gt__, G_Ratio___gt__, M_Ratio___gt__, b_Ratio___gt__⟩ := c_Ratio___gt__
    obtain ⟨f_Ratio___lt__, fd_Ratio___lt__, G_Ratio___lt__, M_Ratio___lt__, b_Ratio___lt__⟩ := c_Ratio___lt__
    refine ⟨_, (pss_cons (ps_set (i := 3) sc__bar.nd rfl (Or.inl rfl) (pv 0))
      (pss_cons (ps_set (i := 4) sc__bar.nd rfl (Or.inl rfl) (pe_op (op_own_Mult M_Ratio___mul__ T.sf_Ratio T.rf_Ratio_mul T.int_mul T.si_Ratio G_Ratio___mul__ (hr.mono (by decide)) b_Ratio___mul__ pass0) (pv 0) (pe_fld (pv 1) rfl)))
      (pss_cons (ps_set (i := 5) sc__bar.nd rfl (Or.inl rfl) (pe_fld (pv 1) rfl))
      (pss_cons (ps_for PassesOwn.never rfl (pi_tup (pe_call G_dearest_order (hr.mono (by decide)) (by rfl) m_dearest_order k_dearest_order b_dearest_order .nil pass0 (pa_cons (pv 2) pa_nil))) (pg_name (i := 6) sc__bar.nd rfl (Or.inl rfl))
      (pss_one (ps_if (pt_cmpR (op_cmp_Gt M_Ratio___gt__ M_Ratio___lt__ T.si_Ratio T.sr_Ratio G_Ratio___gt__ G_Ratio___lt__ (hr.mono (by decide)) (hr.mono (by decide)) b_Ratio___gt__ b_Ratio___lt__ pass0) (pe_ix ix_tup (pv 2) (pv 6) (fun _ _ => rfl)) (pv 3) (nomark _)) (pss_cons (ps_set (i := 4) sc__bar.nd rfl (Or.inl rfl) (pe_op (op_own_Add M_Ratio___add__ T.sf_Ratio T.rf_Ratio_add T.int_add T.si_Ratio G_Ratio___add__ (hr.mono (by decide)) b_Ratio___add__ pass0) (pv 4) (pe_op op_mulW (pe_ix ix_tup (pe_fld (pv 1) rfl) (pv 6) (fun _ _ => rfl)) (pe_ix ix_tup (pv 2) (pv 6) (fun _ _ => rfl)))))
      (pss_cons (ps_set (i := 5) sc__bar.nd rfl (Or.inl rfl) (pe_op op_add (pv 5) (pe_ix ix_tup (pe_fld (pv 1) rfl) (pv 6) (fun _ _ => rfl))))
      (pss_one (ps_set (i := 3) sc__bar.nd rfl (Or.inl rfl) (pe_meth (pv 4) T.cl_Ratio M_Ratio_over G_Ratio_over (hr.mono (by decide)) b_Ratio_over .nil passL (pa_cons (pv 5) pa_nil)))))) pss_nil)))
      (pss_one (ps_ret (pv 3))))))), ?_⟩
    obtain ⟨T0, B0, rg, lg⟩ := id hg
    obtain ⟨D0, D1⟩ := id bD
    have a1 := fi.f.b1
    have a2 := fi.f.b2
    have lT := lg.leT
    have lB := lg.leB
    have pB := lg.pos
    have one : Sm 1 := sm_of (n := 1) (by decide)
    have sD : ∀ x c : Int, (x.natAbs : Int) ≤ c * D → c ≤ 2 ^ 200 → Sm x := fun x c h hc => sm_pow (n := 3760) (k := 200) D1 (by omega) (natAbs_le h (by omega) hc) (by decide)
    have sa : Sm a := sm_36 (by omega) (by omega)
    have sT : Sm T0 := sD T0 (2 ^ 70) (by omega) (by decide)
    have sB : Sm B0 := sD B0 1 (by omega) (by decide)
    refine ⟨_, rfl, _, rfl, _, rfl, r, C_Weighted, dr, _, _, rfl, w.1, T.cl_Weighted, T.n_Weighted_aside, fW_aside _ _ _, rg.self, .inr ⟨_, rfl⟩, g, .int a, T0, B0, a, 1, rfl, rg, .inr ⟨rfl, rfl⟩, pB, by decide, sT, sB, sa, one, by rw [Int.mul_one]; exact sB, fun H1 y0 T1 B1 s1 rr1 lo1 => ?_⟩
    have w1 := w.same s1
    have hy0 : RatD C_Ratio H1 y0 (m * a + D * 0) D := ⟨T1, B1, rr1, lo1.to (by omega) (by omega) (by have := lg.eq; grind)⟩
    refine ⟨_, rfl, r, C_Weighted, dr, _, _, rfl, w1.1, T.cl_Weighted, T.n_Weighted_aside, fW_aside _ _ _, ?_⟩
    refine ⟨_, rfl, tp, ps, rfl, .inr (s1 _ _ htp), by have := fi.f.wl; have := fi.len; omega, fun os H2 o pm pw s2 no ho => ?_⟩
    have od : Ord ps os := ⟨pm, pw⟩
    have so := ord_falls od
    have ol := od.len
    have s12 := s1.trans s2
    refine ⟨o, rfl, ⟨_, tup_t ho⟩, for_tup (K := K) (a := o) (xs := nv os) (fun i σ H3 => ∃ (x y : Addr) (S Z : Int) (yt : Option V), σ = [some (.ref g), some (.ref r), some (.ref tp), some (.ref x), some (.ref y), some (.int Z), yt] ∧ Same H2 H3 ∧ BarAt ws ps a m D os i S Z ∧ RatD C_Ratio H3 x (m * a + D * S) (D * Z) ∧ RatD C_Ratio H3 y (m * a + D * S) D) ?_ (fun i σ H3 _ ⟨_, _, _, _, _, _, s, _⟩ => tup_t (s _ _ ho)) ?_ ?_⟩
    · exact ⟨g, y0, 0, a, none, rfl, Same.refl _, bar_zero ws ps a m D os, (hg.same s12).to D0 (Int.mul_pos D0 a1) (by grind), hy0.same s2⟩
    · rintro i v σ H3 hi ⟨x, y, S, Z, yt, rfl, s3, ba, ⟨Tx, Bx, rx, lx⟩, ⟨Ty, By, ry, ly⟩⟩
      obtain ⟨t, rfl, ht⟩ := nv_of hi
      have tl : t < ps.length := List.mem_range.mp (pm.mem_iff.mp (List.mem_of_getElem? ht))
      have s13 := s12.trans s3
      have w3 := w.same s13
      have tw : t < ws.length := by have := fi.len; omega
      have gp : ps[t]? = some (ps.getD t 0) := by
        rw [List.getD_eq_getElem?_getD, List.getElem?_eq_getElem tl]
        rfl
      have gw : ws[t]? = some (ws.getD t 0) := by
        rw [List.getD_eq_getElem?_getD, List.getElem?_eq_getElem tw]
        rfl
      have p0 := fi.p0 t
      have p2 := fi.p2 t
      have w0 := fi.w0 t
      have w2 := fi.w2 t
      obtain ⟨Zb, Nb, DZb⟩ := bar_bd ba fi ol D0 bm
      have Z0 := ba.Z0
      have DZ0 : 0 < D * Z := Int.mul_pos D0 (by omega)
      have sTx : Sm Tx := sD Tx (2 ^ 140) (by have := lx.leT; omega) (by decide)
      have sBx : Sm Bx := sD Bx (2 ^ 65) (by have := lx.leB; omega) (by decide)
      have sTy : Sm Ty := sD Ty (2 ^ 140) (by have := ly.leT; omega) (by decide)
      have sBy : Sm By := sD By 1 (by have := ly.leB; omega) (by decide)
      have sp : Sm (ps.getD t 0) := sm_36 p0 (by omega)
      have sw : Sm (ws.getD t 0) := sm_36 w0 (by omega)
      have wp0 := Int.mul_nonneg w0 p0
      have wp2 : ws.getD t 0 * ps.getD t 0 ≤ 10 ^ 36 := by
        have h1 := Int.mul_le_mul w2 p2 p0 (by decide)
        omega
      have swp : Sm (ws.getD t 0 * ps.getD t 0) := sm_36 wp0 (by omega)
      refine ⟨_, rfl, _, rfl, tp, _, _, .int (ps.getD t 0), rfl, rfl, tup_t (s13 _ _ htp), atI_nat (int_at gp), _, rfl, .inr ⟨⟨_, rfl⟩, rx.self, x, .int (ps.getD t 0), Tx, Bx, ps.getD t 0, 1, rfl, rx, .inr ⟨rfl, rfl⟩, sTx, sBx, sp, one, fun H4 s4 => ⟨_, rfl, ite2 (fun c => ?_) (fun c => ?_)⟩⟩⟩
      · have c : Tx * 1 < ps.getD t 0 * Bx := of_decide_eq_true c
        have cN := (lt_of_eq lx.eq lx.pos DZ0).mp (show Tx < ps.getD t 0 * Bx by omega)
        have s14 := s13.trans s4
        have w4 := w.same s14
        have ry4 := ry.same s4
        have bn := bar_yes D0 a1 fi.w0 p0 p2 ba ht so cN
        refine ⟨_, rfl, _, rfl, r, C_Weighted, dr, _, _, rfl, w4.1, T.cl_Weighted, T.n_Weighted_weights, fW_weights _ _ _, _, rfl, tr, _, _, .int (ws.getD t 0), rfl, rfl, tup_t w4.2, atI_nat (int_at gw), _, rfl, _, rfl, tp, _, _, .int (ps.getD t 0), rfl, rfl, tup_t (s14 _ _ htp), atI_nat (int_at gp), _, _, rfl, rfl, sw.mul sp, ry4.self, .inr ⟨_, rfl⟩, y, .int (ws.getD t 0 * ps.getD t 0), Ty, By, ws.getD t 0 * ps.getD t 0, 1, rfl, ry4, .inr ⟨rfl, rfl⟩, ly.pos, by decide, sTy, sBy, swp, one, by rw [Int.mul_one]; exact sBy, fun H5 y' T5 B5 s5 rr5 lo5 => ?_⟩
        have l5 : LowT (m * a + D * (S + ws.getD t 0 * ps.getD t 0)) D T5 B5 := lo5.to (by have := ly.pos; omega) (by omega) (by have := ly.eq; grind)
        have w5 := w4.same s5
        refine ⟨_, rfl, _, rfl, r, C_Weighted, dr, _, _, rfl, w5.1, T.cl_Weighted, T.n_Weighted_weights, fW_weights _ _ _, _, rfl, tr, _, _, .int (ws.getD t 0), rfl, rfl, tup_t w5.2, atI_nat (int_at gw), _, _, rfl, rfl, ?_⟩
        dsimp only
        generalize hZ : Z + ws.getD t 0 = Z' at bn
        generalize hS : S + ws.getD t 0 * ps.getD t 0 = S' at bn l5
        obtain ⟨Zb', Nb', DZb'⟩ := bar_bd bn fi ol D0 bm
        have Z0' := bn.Z0
        obtain ⟨dy, hy5⟩ := id rr5
        have sT5 : Sm T5 := sD T5 (2 ^ 140) (by have := l5.leT; omega) (by decide)
        have sB5 : Sm B5 := sD B5 1 (by have := l5.leB; omega) (by decide)
        have sZ : Sm Z' := sm_36 (by omega) (by omega)
        have sBZ : Sm (B5 * Z') := sD _ (2 ^ 65) (by
          have h1 := l5.leB
          have h2 := l5.pos
          have h3 := Int.mul_le_mul (show B5 ≤ D by omega) Zb' (by omega) (by omega)
          have h4 := Int.mul_nonneg (show 0 ≤ B5 by omega) (show 0 ≤ Z' by omega)
          omega) (by decide)
        refine ⟨_, rfl, y', dy, _, rfl, hy5, rfl, _, rfl, y', .int Z', T5, B5, Z', 1, rfl, rr5, .inr ⟨rfl, rfl⟩, l5.pos, by decide, sT5, sB5, sZ, one, sBZ, fun z => absurd z (by omega), fun _ H6 x' T6 B6 s6 rr6 lo6 => ?_⟩
        have l6 : LowT (m * a + D * S') (D * Z') T6 B6 := lo6.to (by have := Int.mul_pos l5.pos (show 0 < Z' by omega); omega) (by have := Int.mul_pos D0 (show 0 < Z' by omega); omega) (by have := l5.eq; grind)
        exact ⟨x', y', S', Z', _, rfl, ((s3.trans s4).trans s5).trans s6, bn, ⟨T6, B6, rr6, l6⟩, ⟨T5, B5, rr5.same s6, l5⟩⟩
      · have c : ¬ Tx * 1 < ps.getD t 0 * Bx := fun z => c (decide_eq_true z)
        have cN : ¬ m * a + D * S < ps.getD t 0 * (D * Z) := fun z => c (by have := (lt_of_eq (p := ps.getD t 0) lx.eq lx.pos DZ0).mpr z; omega)
        exact ⟨x, y, S, Z, _, rfl, s3.trans s4, bar_no D0 a1 fi.w0 ba ht so (by omega), ⟨Tx, Bx, rx.same s4, lx⟩, ⟨Ty, By, ry.same s4, ly⟩⟩
    · rintro σ H3 ⟨x, y, S, Z, yt, rfl, s3, ba, rx, ry⟩
      refine ⟨_, rfl, q H3 x os S Z (s12.trans s3) od ?_ rx⟩
      rwa [nv_len] at ba
def sp__worths_before (CR CW : Addr) : Sp := fun vs H Q _ => ∃ (l r dr tr tp : Addr) (ws ps : List Int) (a D : Int) (S : Nat) (x : Nat → Int), vs = [.ref l, .ref r, .ref tp] ∧ RowD CR H l S x D ∧ WAt CW H r dr tr ws a ∧ H tp = some (.tup (ps.map V.int)) ∧ FineS ws a ps ∧ BigD D ∧ S ≤ 12 ∧ (∀ i ≤ S, 0 ≤ x i ∧ x i ≤ 2 ^ 68 * D) ∧
  ∀ H' L x0 (cs : List (Addr × Int × Int)), Same H H' → H L = none → H' L = some (.lst (V.ref x0 :: cs.map fun c => V.ref c.1)) → RatAt CR H' x0 0 1 → cs.length = S → (∀ j c, cs[j]? = some c → CellS CR H' ws ps a D x j c) → Q (.ref L) H'
theorem ok__worths_before {f : Addr} {fd : FuncData} {C_Weighted C_Ratio C_BadNumber C_TooMany C_ZeroBottom C_BadLot C_Season C_ShelfError : Addr} (F : Fun K "_worths_before" "_worths_before" s__worths_before f fd) (T : Txt K mg C_Weighted C_Ratio C_BadNumber C_TooMany C_ZeroBottom C_BadLot C_Season C_ShelfError) (m_zip : mg "zip" = none) (c_Ratio___init__ : CalI P w K mg base (L2.CX P w) 1 C_Ratio ["self", "top", "bottom"] (sp_Ratio___init__ C_Ratio C_ZeroBottom) [V.int 1]) (c_Ratio___add__ : CalM P w K mg base CX0 4 C_Ratio "__add__" ["self", "other"] (sp_Ratio___add__ C_Ratio)) (c_Ratio___sub__ : CalM P w K mg base CX0 5 C_Ratio "__sub__" ["self", "other"] (sp_Ratio___sub__ C_Ratio)) (c__bar : Cal P w K mg base CX0 6 "_bar" ["margin", "rule", "prices"] (sp__bar C_Ratio C_Weighted)) : FnOk P w K mg base CX0 7 f fd ["worths", "rule", "prices"] (sp__worths_before C_Ratio C_Weighted) := by
  refine F.ok sc__worths_before (fun vs H Q E h => ?_) (fun cdv A outer s H vs Q E hr h => ?_)
  · obtain ⟨l, r, dr, tr, tp, ws, ps, a, D, S, x, rfl, _⟩ := h
    rfl
  · obtain ⟨l, r, dr, tr, tp, ws, ps, a, D, S, x, rfl, ⟨rs, hl, lr, hrow⟩, w, htp, fi, bD, S12, bx, q⟩ := h
    obtain ⟨f_Ratio___init__, fd_Ratio___init__, G_Ratio___init__, M_Ratio___init__, b_Ratio___init__, ds_Ratio___init__, vd_Ratio___init__, bd_Ratio___init__⟩ := c_Ratio___init__
    obtain ⟨f_Ratio___add__, fd_Ratio___add__, G_Ratio___add__, M_Ratio___add__, b_Ratio___add__⟩ := c_Ratio___add__
    obtain ⟨f_Ratio___sub__, fd_Ratio___sub__, G_Ratio___sub__, M_Ratio___sub__, b_Ratio___sub__⟩ := c_Ratio___sub__
    obtain ⟨f__bar, fd__bar, G__bar, m__bar, k__bar, b__bar⟩ := c__bar
    refine ⟨_, (pss_cons (ps_set (i := 3) sc__worths_before.nd rfl (Or.inl rfl) (pe_lst (pa_cons (pe_make M_Ratio___init__ G_Ratio___init__ (hr.mono (by decide)) (by rfl) T.g_Ratio bd_Ratio___init__ vd_Ratio___init__ passL (pa_cons pe_int pa_nil)) pa_nil)))
      (pss_cons (ps_for PassesOwn.never rfl (pi_zip (by rfl) m_zip (pa_cons (pv 0) (pa_cons (pe_slice sl_list (pv 0) (po_some pe_int) po_none) pa_nil))) (pg_tup rfl (pgs_cons (pg_name (i := 4) sc__worths_before.nd rfl (Or.inl rfl)) (pgs_cons (pg_name (i := 5) sc__worths_before.nd rfl (Or.inl rfl)) pgs_nil)))
      (pss_one (ps_expr (pe_bm PySem.F.plainAttrs_list PySem.F.slot_list_append PySem.F.type_list_append mt_append (pv 3) (pa_cons (pe_op (op_own_Add M_Ratio___add__ T.sf_Ratio T.rf_Ratio_add T.int_add T.si_Ratio G_Ratio___add__ (hr.mono (by decide)) b_Ratio___add__ pass0) (pv 4) (pe_call G__bar (hr.mono (by decide)) (by rfl) m__bar k__bar b__bar .nil pass0 (pa_cons (pe_op (op_own_Sub M_Ratio___sub__ T.sf_Ratio T.rf_Ratio_sub T.int_sub T.si_Ratio G_Ratio___sub__ (hr.mono (by decide)) b_Ratio___sub__ pass0) (pv 5) (pv 4)) (pa_cons (pv 1) (pa_cons (pv 2) pa_nil))))) pa_nil)))))
      (pss_one (ps_ret (pv 3))))), ?_⟩
    obtain ⟨D0, D1⟩ := id bD
    have a1 := fi.f.b1
    have a2 := fi.f.b2
    have one : Sm 1 := sm_of (n := 1) (by decide)
    have sD : ∀ x c : Int, (x.natAbs : Int) ≤ c * D → c ≤ 2 ^ 200 → Sm x := fun x c h hc => sm_pow (n := 3760) (k := 200) D1 (by omega) (natAbs_le h (by omega) hc) (by decide)
    have sDD : ∀ x c : Int, (x.natAbs : Int) ≤ c * (D * D) → c ≤ 2 ^ 200 → Sm x := fun x c h hc => sm_pow (n := 7520) (k := 200) (sq_D bD) (Int.mul_nonneg (by omega) (by omega)) (natAbs_le h (Int.mul_nonneg (by omega) (by omega)) hc) (by decide)
    refine mk_rat (t := 0) (b := 1) (by decide) (sm_of (n := 1) (by decide)) fun x0 H1 s1 nx r0 => ?_
    obtain ⟨T0, B0, r0, lo0⟩ : ∃ T0 B0, RatAt C_Ratio H1 x0 T0 B0 ∧ LowT 0 1 T0 B0 := ⟨_, _, r0, low (by decide)⟩
    obtain ⟨rfl, rfl⟩ := low_01 lo0
    refine ⟨(by show 1 ≤ sizeLine; decide), fun bl nbl => ?_⟩
    have s2 := same_upd (o := .lst [V.ref x0]) nbl
    have hbl : upd H1 bl (.lst [V.ref x0]) bl = some (.lst [V.ref x0]) := upd_same
    have hl2 := s2 _ _ (s1 _ _ hl)
    refine ⟨_, rfl, _, rfl, 1, rfl, ?_⟩
    refine ⟨l, _, rfl, lst_l hl2, fun u nu => ?_⟩
    rw [cut_from1]
    have s3 := same_upd (o := .lst ((rs.map V.ref).drop 1)) nu
    have hu := upd_same (H := upd H1 bl (.lst [V.ref x0])) (a := u) (o := HO.lst ((rs.map V.ref).drop 1))
    have hbl3 := s3 _ _ hbl
    have hl3 := s3 _ _ hl2
    have ne : u ≠ bl := fun z => by
      rw [z, hbl] at nu
      cases nu
    have nl : bl ≠ l := fun z => by
      rw [z] at nbl
      rw [s1 _ _ hl] at nbl
      cases nbl
    have hn : S = min (rs.map V.ref).length ((rs.map V.ref).drop 1).length := by
      rw [List.length_drop, List.length_map]
      omega
    have s12 := s1.trans s2
    have s13 : Same H1 (upd (upd H1 bl (.lst [V.ref x0])) u (.lst ((rs.map V.ref).drop 1))) := s2.trans s3
    generalize upd (upd H1 bl (.lst [V.ref x0])) u (.lst ((rs.map V.ref).drop 1)) = H2 at hu hbl3 hl3 s13 ⊢
    refine ⟨l, u, _, _, rfl, lst_l hl3, lst_l hu, ?_⟩
    refine for_it (walk_zip (K := K) (a := l) (b := u) hn) (fun i σ H3 => ∃ (cs : List (Addr × Int × Int)) (y1 y2 : Option V), σ = [some (.ref l), some (.ref r), some (.ref tp), some (.ref bl), y1, y2] ∧ Same H1 H3 ∧ H3 u = some (.lst ((rs.map V.ref).drop 1)) ∧ H3 bl = some (.lst (V.ref x0 :: cs.map fun c => V.ref c.1)) ∧ cs.length = i ∧ ∀ j c, cs[j]? = some c → CellS C_Ratio H3 ws ps a D x j c) ?_ ?_ ?_ ?_
    · exact ⟨[], none, none, rfl, s13, hu, hbl3, rfl, fun j c h => absurd h (by simp)⟩
    · exact fun i σ H3 _ ⟨_, _, _, _, s, hu3, _⟩ => ⟨lst_l (s _ _ (s1 _ _ hl)), lst_l hu3⟩
    · rintro i v σ H3 H4 hi ⟨cs, y1, y2, rfl, s3, hu3, hb3, lc, hc⟩ ⟨tu, v1, v2, rfl, nt, rfl, e1, e2⟩
      change ((rs.map V.ref).drop 1)[i]? = some v2 at e2
      rw [List.getElem?_drop] at e2
      obtain ⟨f0, rfl, hf⟩ := ref_of e1
      obtain ⟨g0, rfl, hg⟩ := ref_of e2
      have s4 := same_upd (o := .tup [V.ref f0, V.ref g0]) nt
      have rf0 := hrow i f0 hf
      have rg0 := hrow (1 + i) g0 hg
      rw [Nat.add_comm 1 i] at rg0
      have bf := bx i (by omega)
      have bg := bx (i + 1) (by omega)
      refine ⟨tu, _, rfl, tup_t upd_same, rfl, _, _, rfl, _, _, rfl, rfl, ?_⟩
      have hb4 := s4 _ _ hb3
      have hu4 := s4 _ _ hu3
      have s14 := s3.trans s4
      have s04 := s1.trans s14
      generalize upd H3 tu (.tup [V.ref f0, V.ref g0]) = H4 at hb4 hu4 s4 s14 s04 ⊢
      obtain ⟨Tf, Bf, rf, lf⟩ := rf0.same s04
      obtain ⟨Tg, Bg, rg, lg⟩ := rg0.same s04
      have sTf : Sm Tf := sD Tf (2 ^ 68) (by have := lf.leT; omega) (by decide)
      have sBf : Sm Bf := sD Bf 1 (by have := lf.leB; omega) (by decide)
      have sTg : Sm Tg := sD Tg (2 ^ 68) (by have := lg.leT; omega) (by decide)
      have sBg : Sm Bg := sD Bg 1 (by have := lg.leB; omega) (by decide)
      have pf := lf.pos
      have pg := lg.pos
      have sgf : Sm (Bg * Bf) := sDD _ 1 (by
        have h1 := lf.leB
        have h2 := lg.leB
        have h3 := Int.mul_le_mul (show Bg ≤ D by omega) (show Bf ≤ D by omega) (by omega) (by omega)
        have h4 := Int.mul_nonneg (show 0 ≤ Bg by omega) (show 0 ≤ Bf by omega)
        omega) (by decide)
      refine ⟨.ref bl, rfl, .inl ⟨rfl, _, lst_l hb4⟩, _, rfl, _, rfl, _, rfl, rg.self, rf.num.arg, g0, .ref f0, Tg, Bg, Tf, Bf, rfl, rg, rf.num, pg, pf, sTg, sBg, sTf, sBf, sgf, fun H5 m0 T5 B5 s5 r5 lo5 => ?_⟩
      have l5 : LowT (x (i + 1) - x i) D T5 B5 := lo5.to (by have := Int.mul_pos pg pf; omega) (by omega) (by have h1 := lf.eq; have h2 := lg.eq; grind)
      have s05 := s04.trans s5
      refine ⟨_, rfl, _, rfl, m0, r, dr, tr, tp, ws, ps, a, x (i + 1) - x i, D, rfl, ⟨T5, B5, r5, l5⟩, w.same (s1.trans (s14.trans s5)), (s1.trans (s14.trans s5)) _ _ htp, fi, bD, by omega, fun H6 q6 os S6 Z s6 od ba hq6 => ?_⟩
      obtain ⟨Zb, Nb, DZb⟩ := bar_bd ba fi od.len D0 (by omega)
      have Z0 := ba.Z0
      have DZ0 : 0 < D * Z := Int.mul_pos D0 (by omega)
      obtain ⟨Tq, Bq, r6, l6⟩ := id hq6
      have pq := l6.pos
      have rf6 := (rf.same s5).same s6
      have sTq : Sm Tq := sD Tq (2 ^ 140) (by have := l6.leT; omega) (by decide)
      have sBq : Sm Bq := sD Bq (2 ^ 65) (by have := l6.leB; omega) (by decide)
      have sfq : Sm (Bf * Bq) := sDD _ (2 ^ 65) (by
        have h1 := lf.leB
        have h2 := l6.leB
        have h3 := Int.mul_le_mul (show Bf ≤ D by omega) (show Bq ≤ 2 ^ 65 * D by omega) (by omega) (by omega)
        have h4 := Int.mul_nonneg (show 0 ≤ Bf by omega) (show 0 ≤ Bq by omega)
        have h5 : D * (2 ^ 65 * D) = 2 ^ 65 * (D * D) := by grind
        omega) (by decide)
      refine ⟨rf6.self, r6.num.arg, f0, .ref q6, Tf, Bf, Tq, Bq, rfl, rf6, r6.num, pf, pq, sTf, sBf, sTq, sBq, sfq, fun H7 z7 T7 B7 s7 r7 lo7 => ?_⟩
      have l7 : LowT (x i * Z + ((x (i + 1) - x i) * a + D * S6)) (D * Z) T7 B7 := lo7.to (by have := Int.mul_pos pf pq; omega) (by omega) (by have h1 := lf.eq; have h2 := l6.eq; grind)
      have s47 := (s5.trans s6).trans s7
      have hb7 := s47 _ _ hb4
      refine ⟨bl, _, .ref z7, rfl, rfl, hb7, ?_, cs ++ [(z7, x i * Z + ((x (i + 1) - x i) * a + D * S6), Z)], some (.ref f0), some (.ref g0), rfl, ?_, ?_, ?_, ?_, fun j c hj => ?_⟩
      · rw [List.length_cons, List.length_map]
        exact small1000 (by omega)
      · exact same_mut (s14.trans s47) nbl
      · rw [upd_ne ne]
        exact s47 _ _ hu4
      · rw [upd_same, List.map_append]
        rfl
      · rw [List.length_append, lc]
        rfl
      · rcases Nat.lt_or_ge j cs.length with z | z
        · rw [List.getElem?_append_left z] at hj
          exact ((hc j c hj).same (s4.trans s47)).put hb7
        · rw [List.getElem?_append_right z] at hj
          obtain rfl : j = i := by
            have := (List.getElem?_eq_some_iff.mp hj).1
            rw [List.length_singleton] at this
            omega
          rw [lc, Nat.sub_self] at hj
          obtain rfl := Option.some.inj hj
          exact CellS.put hb7 ⟨⟨T7, B7, r7, l7⟩, os, S6, od, ba, rfl⟩
    · rintro σ H3 ⟨cs, y1, y2, rfl, s3, hu3, hb3, lc, hc⟩
      exact ⟨_, rfl, q H3 bl x0 cs (s1.trans s3) (s1.free nbl) hb3 (r0.same s3) lc hc⟩
def sp_Season___init__ (CS CR CW CB : Addr) : Sp := fun vs H Q E => (∃ (p cx r dr tr P : Addr) (ws ps : List Int) (a : Int) (S N : Nat) (X0 : Int), vs = [.ref p, .ref r, .ref P, .int (S : Int), .int (N : Int)] ∧ H p = some (.ins CS cx []) ∧ WAt CW H r dr tr ws a ∧ H P = some (.lst (ps.map V.int)) ∧ FineS ws a ps ∧ S ≤ 12 ∧ N ≤ 12 ∧ LcmB ws a ps S X0 ∧ 1 ≤ X0 ∧ X0 ^ N ≤ 2 ^ 3760 ∧
  ∀ H' tp L D X, SameX p H H' → SeaAt CS CR CW H' p cx r dr tr tp L ws a ps S N D X → Q .non H')
  ∨ (∃ (p cx r dr tr P : Addr) (ws ps : List Int) (a s n : Int), vs = [.ref p, .ref r, .ref P, .int s, .int n] ∧ H p = some (.ins CS cx []) ∧ WAt CW H r dr tr ws a ∧ H P = some (.lst (ps.map V.int)) ∧ ps.length ≤ 1000 ∧ ws.length ≤ 24 ∧ dueS ps ws.length s n ≠ none ∧ ∀ wh at_, dueS ps ws.length s n = some (wh, at_) → ∀ H' d, SameX p H H' → H' d = some (.xd [("at", at_), ("what", .str wh)]) → E (.ref CB) (some d) H')
theorem ok_Season___init__ {f : Addr} {fd : FuncData} {C_Weighted C_Ratio C_BadNumber C_TooMany C_ZeroBottom C_BadLot C_Season C_ShelfError : Addr} (F : Fun K "__init__" "Season.__init__" s_Season___init__ f fd) (T : Txt K mg C_Weighted C_Ratio C_BadNumber C_TooMany C_ZeroBottom C_BadLot C_Season C_ShelfError) (m_range : mg "range" = none) (m_tuple : mg "tuple" = none) (c_check_prices : Cal P w K mg base (L2.CX P w) 4 "check_prices" ["prices", "many"] (sp_check_prices K C_BadNumber)) (c_check_up_to : Cal P w K mg base (L2.CX P w) 3 "check_up_to" ["what", "number", "most"] (sp_check_up_to C_BadNumber)) (c_Ratio___init__ : CalI P w K mg base (L2.CX P w) 1 C_Ratio ["self", "top", "bottom"] (sp_Ratio___init__ C_Ratio C_ZeroBottom) [V.int 1]) (c__worths_before : Cal P w K mg base CX0 7 "_worths_before" ["worths", "rule", "prices"] (sp__worths_before C_Ratio C_Weighted)) : FnOk P w K mg base (L2.CX P w) 8 f fd ["self", "rule", "prices", "seats", "buyers"] (sp_Season___init__ C_Season C_Ratio C_Weighted C_BadNumber) := by
  refine F.okX sc_Season___init__ (fun vs H Q E h => ?_) (fun cdv A outer s H vs Q E hr h => ?_)
  · obtain ⟨_, _, _, _, _, _, _, _, _, _, _, _, rfl, _⟩ | ⟨_, _, _, _, _, _, _, _, _, _, _, rfl, _⟩ := h
    all_goals rfl
  · obtain h := h
    obtain ⟨f_check_prices, fd_check_prices, G_check_prices, m_check_prices, k_check_prices, b_check_prices⟩ := c_check_prices
    obtain ⟨f_check_up_to, fd_check_up_to, G_check_up_to, m_check_up_to, k_check_up_to, b_check_up_to⟩ := c_check_up_to
    obtain ⟨f_Ratio___init__, fd_Ratio___init__, G_Ratio___init__, M_Ratio___init__, b_Ratio___init__, ds_Ratio___init__, vd_Ratio___init__, bd_Ratio___init__⟩ := c_Ratio___init__
    obtain ⟨f__worths_before, fd__worths_before, G__worths_before, m__worths_before, k__worths_before, b__worths_before⟩ := c__worths_before
    refine ⟨_, (pss_cons (ps_expr (pe_call G_check_prices (hr.mono (by decide)) (by rfl) m_check_prices k_check_prices b_check_prices .nil (passes_call (takes_of rfl rfl rfl rfl) (fun _ _ _ _ h => h)) (pa_cons (pv 2) (pa_cons (pe_fld (pv 1) rfl) pa_nil))))
      (pss_cons (ps_expr (pe_call G_check_up_to (hr.mono (by decide)) (by rfl) m_check_up_to k_check_up_to b_check_up_to .nil (passes_call (takes_of rfl rfl rfl rfl) (fun _ _ _ _ h => h)) (pa_cons pe_str (pa_cons (pv 3) (pa_cons (pe_glob (v := .int 12) (by rfl) T.g_MOST_SEATS.choose_spec ⟨_, rfl⟩) pa_nil)))))
      (pss_cons (ps_expr (pe_call G_check_up_to (hr.mono (by decide)) (by rfl) m_check_up_to k_check_up_to b_check_up_to .nil (passes_call (takes_of rfl rfl rfl rfl) (fun _ _ _ _ h => h)) (pa_cons pe_str (pa_cons (pv 4) (pa_cons (pe_glob (v := .int 12) (by rfl) T.g_MOST_BUYERS.choose_spec ⟨_, rfl⟩) pa_nil)))))
      (pss_cons (ps_fld (pv 0) (pv 1) rfl)
      (pss_cons (ps_fld (pv 0) (pe_callTy call_tuple_of (by rfl) m_tuple (by decide +kernel) (pa_cons (pv 2) pa_nil)) rfl)
      (pss_cons (ps_fld (pv 0) (pv 3) rfl)
      (pss_cons (ps_fld (pv 0) (pv 4) rfl)
      (pss_cons (ps_fld (pv 0) (pe_lst (pa_cons (pe_op op_rep (pe_lst (pa_cons (pe_make M_Ratio___init__ G_Ratio___init__ (hr.mono (by decide)) (by rfl) T.g_Ratio bd_Ratio___init__ vd_Ratio___init__ (passes_call (takes_of rfl rfl rfl rfl) (fun _ _ _ _ h => h)) (pa_cons pe_int pa_nil)) pa_nil)) (pe_op op_add (pv 3) pe_int)) pa_nil)) rfl)
      (pss_one (ps_for (passes_of rfl) rfl (pi_range1 (by rfl) m_range (pa_cons (pv 4) pa_nil)) (pg_name (i := 5) sc_Season___init__.nd rfl (Or.inl rfl))
      (pss_one (ps_expr (pe_bm PySem.F.plainAttrs_list PySem.F.slot_list_append PySem.F.type_list_append mt_append (pe_fld (pv 0) rfl) (pa_cons (pe_call G__worths_before (hr.mono (by decide)) (by rfl) m__worths_before k__worths_before b__worths_before .nil pass0 (pa_cons (pe_ix ix_list (pe_fld (pv 0) rfl) (pe_un un_neg pe_int) (fun _ _ => rfl)) (pa_cons (pv 1) (pa_cons (pe_fld (pv 0) rfl) pa_nil)))) pa_nil)))))))))))))), ?_⟩
    rcases h with ⟨p, cx, r, dr, tr, P1, ws, ps, a, S, N, X0, rfl, hp, w, hP, fi, S12, N12, lc, x1, x2, q⟩ | ⟨p, cx, r, dr, tr, P1, ws, ps, a, s, n, rfl, hp, w, hP, pl, wl, no, kE⟩
    · have wl := fi.f.wl
      have el := fi.len
      have hn := negAt_none (i := 0) fi.nn
      refine ⟨_, rfl, _, rfl, r, C_Weighted, dr, _, _, rfl, w.1, T.cl_Weighted, T.n_Weighted_many, fW_many _ _ _, P1, ps, _, rfl, hP, by omega, fun e => absurd (by omega) e, fun _ k hk => absurd (hn.symm.trans hk) (by simp), fun _ _ H1 s1 => ?_⟩
      refine ⟨_, rfl, "seats", (S : Int), 12, rfl, fun h => absurd h (by omega), fun _ _ => ?_⟩
      refine ⟨_, rfl, "buyers", (N : Int), 12, rfl, fun h => absurd h (by omega), fun _ _ => ?_⟩
      have hp1 := s1 _ _ hp
      have rp : P1 ≠ p := fun z => by
        rw [z, hp] at hP
        cases hP
      refine ⟨_, rfl, _, rfl, p, C_Season, cx, _, rfl, hp1, T.cl_Season, T.n_Season_rule, (by show 0 < 1000; decide), ?_⟩
      have x1' : SameX p H (upd H1 p (.ins C_Season cx (putF "rule" (.ref r) []))) := (same_sx s1).trans SameX.put
      have hp2 : upd H1 p (.ins C_Season cx (putF "rule" (.ref r) [])) p = some (.ins C_Season cx (putF "rule" (.ref r) [])) := upd_same
      generalize upd H1 p (.ins C_Season cx (putF "rule" (.ref r) [])) = H2 at x1' hp2 ⊢
      refine ⟨_, rfl, P1, _, rfl, .inl ⟨lst_l (x1' _ _ rp hP), fun tp ntp => ?_⟩⟩
      have ne : tp ≠ p := fun z => by
        rw [z, hp2] at ntp
        cases ntp
      refine ⟨_, rfl, p, C_Season, cx, _, rfl, (upd_ne (Ne.symm ne)).trans hp2, T.cl_Season, T.n_Season_prices, (by show 1 < 1000; decide), ?_⟩
      refine ⟨_, rfl, _, rfl, p, C_Season, cx, _, rfl, upd_same, T.cl_Season, T.n_Season_seats, (by show 2 < 1000; decide), ?_⟩
      refine ⟨_, rfl, _, rfl, p, C_Season, cx, _, rfl, upd_same, T.cl_Season, T.n_Season_buyers, (by show 3 < 1000; decide), ?_⟩
      have x2' := x1'.trans (SameX.new (o := .tup (ps.map V.int)) ntp)
      have ht2 : upd H2 tp (.tup (ps.map V.int)) tp = some (.tup (ps.map V.int)) := upd_same
      generalize upd H2 tp (.tup (ps.map V.int)) = H3 at x2' ht2 ⊢
      have e4 : putF "buyers" (V.int (N : Int)) (putF "seats" (.int (S : Int)) (putF "prices" (.ref tp) (putF "rule" (.ref r) []))) = putF "buyers" (V.int (N : Int)) (putF "seats" (.int (S : Int)) (putF "prices" (.ref tp) (putF "rule" (.ref r) []))) := rfl
      obtain ⟨F4, eF4⟩ : ∃ F4, putF "buyers" (V.int (N : Int)) (putF "seats" (.int (S : Int)) (putF "prices" (.ref tp) (putF "rule" (.ref r) []))) = F4 := ⟨_, rfl⟩
      rw [eF4]
      obtain ⟨H4, eH4⟩ : ∃ H4, upd (upd (upd H3 p (.ins C_Season cx (putF "prices" (.ref tp) (putF "rule" (.ref r) [])))) p (.ins C_Season cx (putF "seats" (.int (S : Int)) (putF "prices" (.ref tp) (putF "rule" (.ref r) []))))) p (.ins C_Season cx F4) = H4 := ⟨_, rfl⟩
      have x4' : SameX p H H4 := by
        rw [← eH4]
        exact ((x2'.trans SameX.put).trans SameX.put).trans SameX.put
      have ht4 : H4 tp = some (.tup (ps.map V.int)) := by rw [← eH4, upd_ne ne, upd_ne ne, upd_ne ne, ht2]
      have hp4 : H4 p = some (.ins C_Season cx F4) := by rw [← eH4, upd_same]
      rw [eH4]
      clear eH4 hp2 x1' ht2 x2' hp1 s1 ntp e4
      have w4 := w.sx hp x4'
      refine mk_rat (t := 0) (b := 1) (by decide) (sm_of (n := 1) (by decide)) fun x0 H5 s5 nx r0 => ?_
      obtain ⟨T0, B0, r0, lo0⟩ : ∃ T0 B0, RatAt C_Ratio H5 x0 T0 B0 ∧ LowT 0 1 T0 B0 := ⟨_, _, r0, low (by decide)⟩
      obtain ⟨rfl, rfl⟩ := low_01 lo0
      refine ⟨(by show 1 ≤ sizeLine; decide), fun b1 nb1 => ?_⟩
      have s6 := same_upd (o := .lst [V.ref x0]) nb1
      have hb1 : upd H5 b1 (.lst [V.ref x0]) b1 = some (.lst [V.ref x0]) := upd_same
      generalize upd H5 b1 (.lst [V.ref x0]) = H6 at s6 hb1 ⊢
      refine ⟨_, rfl, _, _, rfl, rfl, b1, (S : Int) + 1, _, rfl, rfl, hb1, by omega, by omega, ?_, fun b2 nb2 => ?_⟩
      · show 1 * ((S : Int) + 1).toNat ≤ sizeLine
        exact Nat.le_of_lt (small1000 (by omega))
      have er : (List.replicate ((S : Int) + 1).toNat [V.ref x0]).flatten = (List.replicate (S + 1) x0).map V.ref := by
        rw [List.flatten_replicate_singleton, List.map_replicate, show ((S : Int) + 1).toNat = S + 1 by omega]
      rw [er]
      have s7 := same_upd (o := .lst ((List.replicate (S + 1) x0).map V.ref)) nb2
      have hb2 : upd H6 b2 (.lst ((List.replicate (S + 1) x0).map V.ref)) b2 = some (.lst ((List.replicate (S + 1) x0).map V.ref)) := upd_same
      generalize upd H6 b2 (.lst ((List.replicate (S + 1) x0).map V.ref)) = H7 at s7 hb2 ⊢
      refine ⟨(by show 1 ≤ sizeLine; decide), fun L nL => ?_⟩
      have s8 := same_upd (o := .lst [V.ref b2]) nL
      have hL : upd H7 L (.lst [V.ref b2]) L = some (.lst [V.ref b2]) := upd_same
      have bL : b2 ≠ L := fun z => by
        rw [← z, hb2] at nL
        cases nL
      have s47 := (s5.trans s6).trans s7
      generalize upd H7 L (.lst [V.ref b2]) = H8 at s8 hL ⊢
      have s48 := s47.trans s8
      have pL : p ≠ L := fun z => by
        rw [← z, s47 _ _ hp4] at nL
        cases nL
      refine ⟨_, rfl, p, C_Season, cx, _, rfl, s48 _ _ hp4, T.cl_Season, T.n_Season__worths, ?_, ?_⟩
      · rw [← eF4]
        show 4 < 1000
        decide
      obtain ⟨H9, eH9⟩ : ∃ H9, upd H8 p (.ins C_Season cx (putF "_worths" (.ref L) F4)) = H9 := ⟨_, rfl⟩
      have hp9 : H9 p = some (.ins C_Season cx (fS r tp L S N)) := by
        rw [← eH9, upd_same, ← eF4]
        rfl
      have hL9 : H9 L = some (.lst [V.ref b2]) := by rw [← eH9, upd_ne (Ne.symm pL), hL]
      have ht9 : H9 tp = some (.tup (ps.map V.int)) := by rw [← eH9, upd_ne ne, s48 _ _ ht4]
      have w9 : WAt C_Weighted H9 r dr tr ws a := by
        rw [← eH9]
        exact w.sx hp ((x4'.trans (same_sx s48)).trans SameX.put)
      have fin : ∀ H3, SameX L H9 H3 → SameX p H H3 := fun H3 s b o nb hb => by
        have h7 := s47 _ _ (x4' b o nb hb)
        have h9 : H9 b = some o := by rw [← eH9, upd_ne nb, s8 _ _ h7]
        exact s b o (ne_of_none h7 nL) h9
      have row0 : RowsD C_Ratio H9 L S 0 (fun _ _ => 0) 1 := by
        refine ⟨[b2], hL9, rfl, fun b l hb => ?_⟩
        obtain rfl : l = b2 := by
          cases b with
          | zero => exact (Option.some.inj hb).symm
          | succ b => cases hb
        have n1 : l ≠ p := fun z => by
          have h := s8 _ _ hb2
          rw [z, s48 _ _ hp4] at h
          cases h
        refine ⟨bL, List.replicate (S + 1) x0, by rw [← eH9, upd_ne n1, s8 _ _ hb2], List.length_replicate .., fun i q hq => ?_⟩
        obtain rfl : q = x0 := List.eq_of_mem_replicate (List.mem_of_getElem? hq)
        have r8 := r0.same ((s6.trans s7).trans s8)
        obtain ⟨dq, hq8⟩ := r8
        have n2 : q ≠ p := fun z => by
          have h := hq8
          rw [z, s48 _ _ hp4] at h
          have := congrArg (fun o => match o with | some (HO.ins _ _ fs) => fs.length | _ => 0) h
          rw [← eF4] at this
          exact absurd this (by show ¬ (4 = 2); decide)
        exact ⟨0, 1, ⟨dq, by rw [← eH9, upd_ne n2, hq8]⟩, low_int 0⟩
      rw [eH9]
      clear eH9 s8 hL hb2 s7 hb1 s6 r0 nx s5 nb1 nb2 s48 er
      have wl0 := fi.w0
      refine ⟨_, rfl, _, rfl, by omega, by omega, ?_⟩
      rw [Int.toNat_natCast]
      refine for_range (lo := 0) (n := N) (fun i σ H3 => ∃ (D : Int) (X : Nat → Nat → Int) (y : Option V), σ = [some (.ref p), some (.ref r), some (.ref P1), some (.int (S : Int)), some (.int (N : Int)), y] ∧ SameX L H9 H3 ∧ RowsD C_Ratio H3 L S i X D ∧ Grid ws ps a D X S i ∧ D ≤ X0 ^ i) ?_ ?_ ?_
      · exact ⟨1, fun _ _ => 0, none, rfl, fun b o _ h => h, row0, ⟨by decide, fun _ => rfl, fun _ => rfl, fun b i h => absurd h (by omega)⟩, by rw [Int.pow_zero]; exact Int.le_refl _⟩
      · rintro i σ H3 hi ⟨D, X, y, rfl, sx, rw3, gr, Dx⟩
        have hp3 := sx p _ pL hp9
        have w3 := w9.sxL hL9 sx
        have ht3 := sx_at hL9 sx (fun _ z => by cases z) ht9
        have D0 := gr.D0
        obtain ⟨rows, hL3, lr, hr3⟩ := rw3
        obtain ⟨r0, l, rfl⟩ : ∃ r0 l, rows = r0 ++ [l] := by
          rcases List.eq_nil_or_concat rows with z | ⟨r0, l, z⟩
          · rw [z] at lr
            exact absurd lr (by simp)
          · exact ⟨r0, l, by rw [z, List.concat_eq_append]⟩
        have lr0 : r0.length = i := by
          rw [List.length_append] at lr
          exact Nat.add_right_cancel lr
        obtain ⟨nl, rd⟩ := hr3 i l (by rw [List.getElem?_append_right (by omega), lr0, Nat.sub_self]; rfl)
        have bx : ∀ j ≤ S, 0 ≤ X i j ∧ X i j ≤ 2 ^ 68 * D := fun j hj => by
          have := gr.bd fi.f.b1 (show (0 : Int) ≤ 10 ^ 18 by decide) fi.w0 fi.p2 i j (Nat.le_refl _) hj
          have h2 := Int.mul_le_mul_of_nonneg_right (show (i : Int) ≤ 12 by omega) (show 0 ≤ 10 ^ 18 * D by omega)
          omega
        have bD : BigD D := ⟨D0, Int.le_trans Dx (Int.le_trans (pow_up x1 (by omega)) x2)⟩
        refine ⟨_, rfl, p, C_Season, cx, _, _, rfl, hp3, T.cl_Season, T.n_Season__worths, fS__worths _ _ _ _ _, .inl ⟨rfl, _, lst_l hL3⟩, _, rfl, p, C_Season, cx, _, _, rfl, hp3, T.cl_Season, T.n_Season__worths, fS__worths _ _ _ _ _, 1, rfl, L, _, _, .ref l, rfl, rfl, lst_l hL3, by rw [List.map_append]; exact atI_last _ _, _, rfl, _, rfl, p, C_Season, cx, _, _, rfl, hp3, T.cl_Season, T.n_Season_prices, fS_prices _ _ _ _ _, l, r, dr, tr, tp, ws, ps, a, D, S, X i, rfl, rd, w3, ht3, fi, bD, S12, bx, fun H4 L' x0' cs s4 nL' hL' r0' lcs hc => ?_⟩
        obtain ⟨E, X', E0, g', Dx', old, n0, nw⟩ := season_next gr fi lcs hc lc x1 Dx
        have hL4 := s4 _ _ hL3
        have DE0 : 0 < D * E := Int.mul_pos D0 E0
        have nLL : L' ≠ L := fun z => by
          rw [z, hL3] at nL'
          cases nL'
        refine ⟨L, _, .ref L', rfl, rfl, hL4, ?_, D * E, X', _, rfl, (sx.trans (same_sx s4)).trans SameX.put, ⟨(r0 ++ [l]) ++ [L'], ?_, ?_, fun b q hb => ?_⟩, g', Dx'⟩
        · rw [List.length_map, lr]
          exact small1000 (by omega)
        · rw [upd_same, List.map_append (l₁ := r0 ++ [l])]
          rfl
        · rw [List.length_append, lr]
          rfl
        · rcases Nat.lt_or_ge b (r0 ++ [l]).length with z | z
          · rw [List.getElem?_append_left z] at hb
            obtain ⟨h1, h2⟩ := hr3 b q hb
            refine ⟨h1, ((h2.same s4).put hL4 h1).to D0 DE0 fun j hj => ?_⟩
            rw [old b j (by omega)]
            grind
          · rw [List.getElem?_append_right z] at hb
            obtain rfl : b = i + 1 := by
              have := (List.getElem?_eq_some_iff.mp hb).1
              rw [List.length_singleton] at this
              omega
            rw [lr, Nat.sub_self] at hb
            obtain rfl : L' = q := Option.some.inj hb
            refine ⟨nLL, RowD.put hL4 nLL ⟨x0' :: cs.map fun c => c.1, ?_, ?_, fun j q hq => ?_⟩⟩
            · rw [hL', List.map_cons, List.map_map]
              rfl
            · rw [List.length_cons, List.length_map, lcs]
            · cases j with
              | zero =>
                obtain rfl : x0' = q := Option.some.inj hq
                rw [n0]
                exact RatD.int DE0 r0'
              | succ j =>
                rw [List.getElem?_cons_succ, List.getElem?_map] at hq
                obtain ⟨c, h1, rfl⟩ := Option.map_eq_some_iff.mp hq
                exact nw j c h1
      · rintro σ H3 ⟨D, X, y, rfl, sx, rw3, gr, Dx⟩
        exact q H3 tp L D X (fin H3 sx) ⟨sx p _ pL hp9, w9.sxL hL9 sx, sx_at hL9 sx (fun _ z => by cases z) ht9, rw3, gr, gr.D0, Int.le_trans Dx x2⟩
    · refine ⟨_, rfl, _, rfl, r, C_Weighted, dr, _, _, rfl, w.1, T.cl_Weighted, T.n_Weighted_many, fW_many _ _ _, P1, ps, _, rfl, hP, pl, fun e H' d s hd => kE _ _ (dueS_len (fun z => e (by omega))) H' d (same_sx s) hd, fun e k hk H' d s hd => kE _ _ (dueS_neg (by omega) hk) H' d (same_sx s) hd, fun e hn H1 s1 => ?_⟩
      have e : ps.length = ws.length := by omega
      refine ⟨_, rfl, "seats", s, 12, rfl, fun h d nd => kE _ _ (dueS_s e hn h) _ d ((same_sx s1).trans (SameX.new nd)) upd_same, fun h1 h2 => ?_⟩
      exact ⟨_, rfl, "buyers", n, 12, rfl, fun h d nd => kE _ _ (dueS_n e hn (by omega) h) _ d ((same_sx s1).trans (SameX.new nd)) upd_same, fun h3 h4 => absurd (dueS_no e hn (by omega) (by omega)) no⟩

theorem mk_sea {CS CR CW CB r dr tr P : Addr} {ws ps : List Int} {a : Int} {S N : Nat} {X0 : Int} {H : Hp} {G : Addr → Hp → Prop} {E : XK} (w : WAt CW H r dr tr ws a) (hP : H P = some (.lst (ps.map V.int))) (fi : FineS ws a ps) (S12 : S ≤ 12) (N12 : N ≤ 12) (lc : LcmB ws a ps S X0) (x1 : 1 ≤ X0) (x2 : X0 ^ N ≤ 2 ^ 3760)
    (k : ∀ x cx tp L D X H', Same H H' → SeaAt CS CR CW H' x cx r dr tr tp L ws a ps S N D X → G x H') :
    ∀ x dx, H x = none → H dx = none → dx ≠ x → sp_Season___init__ CS CR CW CB [.ref x, .ref r, .ref P, .int (S : Int), .int (N : Int)] (upd (upd H dx (.own x)) x (.ins CS dx [])) (fun v H2 => v = .non ∧ G x H2) E :=
  fun x dx nx nd _ => by
    have s0 : Same H (upd (upd H dx (.own x)) x (.ins CS dx [])) := fun b o e => by
      rw [upd_ne (ne_of_none e nx), upd_ne (ne_of_none e nd)]
      exact e
    exact .inl ⟨x, dx, r, dr, tr, P, ws, ps, a, S, N, X0, rfl, upd_same, w.same s0, s0 _ _ hP, fi, S12, N12, lc, x1, x2, fun H' tp L D X sx sa => ⟨rfl, k x dx tp L D X H' (sameX_made nx nd sx) sa⟩⟩
def prodL : List Int → Int
  | [] => 1
  | z :: r => z * prodL r
theorem prodL_bd {B : Int} : ∀ {zs : List Int}, (∀ z ∈ zs, 1 ≤ z ∧ z ≤ B) → 1 ≤ prodL zs ∧ prodL zs ≤ B ^ zs.length ∧ ∀ z ∈ zs, ∃ e, prodL zs = z * e
  | [], _ => ⟨Int.le_refl _, by
    show (1 : Int) ≤ B ^ 0
    rw [Int.pow_zero]
    exact Int.le_refl _, fun z h => by cases h⟩
  | x :: r, h => by
    obtain ⟨h1, h2, h3⟩ := prodL_bd fun z hz => h z (List.mem_cons_of_mem _ hz)
    obtain ⟨x1, x2⟩ := h x List.mem_cons_self
    refine ⟨?_, ?_, fun z hz => ?_⟩
    · have := Int.mul_le_mul x1 h1 (by decide) (by omega)
      show 1 ≤ x * prodL r
      omega
    · show x * prodL r ≤ B ^ (r.length + 1)
      rw [Int.pow_succ, Int.mul_comm]
      exact Int.mul_le_mul h2 x2 (by omega) (Int.le_of_lt (Int.pow_pos (by omega)))
    · rcases List.mem_cons.mp hz with rfl | hz
      · exact ⟨prodL r, rfl⟩
      · obtain ⟨e, he⟩ := h3 z hz
        refine ⟨x * e, ?_⟩
        show x * prodL r = z * (x * e)
        rw [he]
        grind
theorem z_bd {ws ps : List Int} {a z : Int} {os : List Nat} {m : Nat} (fi : FineS ws a ps) (hm : ws.length ≤ m) (od : Ord ps os) (h : ZOf ws a os z) : 1 ≤ z ∧ z ≤ 10 ^ 18 + 10 ^ 18 * (m : Int) := by
  obtain ⟨j, rfl⟩ := h
  have h1 := wO_le fi.w2 (os.take j)
  have h2 := wO_nn fi.w0 (os.take j)
  have h3 : (os.take j).length ≤ m := by
    rw [List.length_take, od.len, fi.len]
    omega
  have a1 := fi.f.b1
  have a2 := fi.f.b2
  have h4 := Int.mul_le_mul_of_nonneg_left (show ((os.take j).length : Int) ≤ (m : Int) by omega) (show (0 : Int) ≤ 10 ^ 18 by decide)
  omega
/-- few seats -/
theorem lcm_few {ws ps : List Int} {a : Int} {S : Nat} (fi : FineS ws a ps) (hS : S ≤ 4) : LcmB ws a ps S (390625 * 10 ^ 72) := fun zs lz hz => by
  have bd : ∀ z ∈ zs, 1 ≤ z ∧ z ≤ 25 * 10 ^ 18 := fun z h => by
    obtain ⟨os, od, zo⟩ := hz z h
    have := z_bd (m := 24) fi fi.f.wl od zo
    omega
  obtain ⟨h1, h2, h3⟩ := prodL_bd bd
  refine ⟨prodL zs, by omega, Int.le_trans h2 (Int.le_trans (pow_up (by decide) (show zs.length ≤ 4 by omega)) (by decide)), h3⟩
/-- few things -/
theorem lcm_small {ws ps : List Int} {a : Int} {S : Nat} (fi : FineS ws a ps) (hm : ws.length ≤ 4) : LcmB ws a ps S (3125 * 10 ^ 90) := fun zs lz hz => by
  cases zs with
  | nil => exact ⟨1, by decide, by decide, fun z h => by cases h⟩
  | cons z0 r =>
    obtain ⟨os, od, _⟩ := hz z0 List.mem_cons_self
    have bd : ∀ z ∈ [a + wO ws (os.take 0), a + wO ws (os.take 1), a + wO ws (os.take 2), a + wO ws (os.take 3), a + wO ws (os.take 4)], 1 ≤ z ∧ z ≤ 5 * 10 ^ 18 := fun z h => by
      have : ∃ j, z = a + wO ws (os.take j) := by
        rcases List.mem_cons.mp h with rfl | h
        · exact ⟨0, rfl⟩
        rcases List.mem_cons.mp h with rfl | h
        · exact ⟨1, rfl⟩
        rcases List.mem_cons.mp h with rfl | h
        · exact ⟨2, rfl⟩
        rcases List.mem_cons.mp h with rfl | h
        · exact ⟨3, rfl⟩
        · exact ⟨4, List.mem_singleton.mp h⟩
      have := z_bd (m := 4) fi hm od this
      omega
    obtain ⟨h1, h2, h3⟩ := prodL_bd bd
    refine ⟨_, by omega, Int.le_trans h2 (by show (5 * 10 ^ 18 : Int) ^ 5 ≤ _; decide), fun z h => ?_⟩
    obtain ⟨os', od', j, rfl⟩ := hz z h
    obtain rfl := ord_one od od'
    refine h3 _ ?_
    have ol : os.length ≤ 4 := by
      rw [od.len, fi.len]
      exact hm
    rcases (by omega : j = 0 ∨ j = 1 ∨ j = 2 ∨ j = 3 ∨ 4 ≤ j) with rfl | rfl | rfl | rfl | hj
    · exact List.mem_cons_self
    · exact List.mem_cons_of_mem _ List.mem_cons_self
    · exact List.mem_cons_of_mem _ (List.mem_cons_of_mem _ List.mem_cons_self)
    · exact List.mem_cons_of_mem _ (List.mem_cons_of_mem _ (List.mem_cons_of_mem _ List.mem_cons_self))
    · rw [show os.take j = os.take 4 by rw [List.take_of_length_le (show os.length ≤ j by omega), List.take_of_length_le ol]]
      exact List.mem_cons_of_mem _ (List.mem_cons_of_mem _ (List.mem_cons_of_mem _ (List.mem_cons_of_mem _ List.mem_cons_self)))
theorem big_pow {A n k : Nat} (h : A ^ n ≤ 2 ^ 3760) (hk : k ≤ n) (A1 : 1 ≤ A) : ((A : Nat) : Int) ^ k ≤ 2 ^ 3760 := by
  refine Int.le_trans (pow_up (by omega) hk) ?_
  rw [← Int.natCast_pow, show (2 : Int) ^ 3760 = ((2 ^ 3760 : Nat) : Int) by rw [Int.natCast_pow]; rfl]
  exact Int.ofNat_le.mpr h
theorem few_pow {k : Nat} (hk : k ≤ 4) : (390625 * 10 ^ 72 : Int) ^ k ≤ 2 ^ 3760 := big_pow (A := 390625 * 10 ^ 72) (n := 4) (by decide +kernel) hk (by decide +kernel)
theorem small_pow {k : Nat} (hk : k ≤ 12) : (3125 * 10 ^ 90 : Int) ^ k ≤ 2 ^ 3760 := big_pow (A := 3125 * 10 ^ 90) (n := 12) (by decide +kernel) hk (by decide +kernel)
def sp_Season__check (CS CR CW CB : Addr) : Sp := fun vs H Q E => (∃ (p cx r dr tr tp L : Addr) (ws : List Int) (a : Int) (ps : List Int) (S n : Nat) (D : Int) (X : Nat → Nat → Int) (s b : Nat), vs = [.ref p, .int (s : Int), .int (b : Int)] ∧ SeaAt CS CR CW H p cx r dr tr tp L ws a ps S n D X ∧ FineS ws a ps ∧ n ≤ 12 ∧ s ≤ S ∧ b ≤ n ∧ Q .non H)
  ∨ (∃ (p cx r dr tr tp L : Addr) (ws : List Int) (a : Int) (ps : List Int) (S n : Nat) (D : Int) (X : Nat → Nat → Int) (s b : Int), vs = [.ref p, .int s, .int b] ∧ SeaAt CS CR CW H p cx r dr tr tp L ws a ps S n D X ∧ dueA S n s b ≠ none ∧ ∀ wh, dueA S n s b = some wh → ∀ H' d, Same H H' → H' d = some (.xd [("at", .non), ("what", .str wh)]) → E (.ref CB) (some d) H')
theorem ok_Season__check {f : Addr} {fd : FuncData} {C_Weighted C_Ratio C_BadNumber C_TooMany C_ZeroBottom C_BadLot C_Season C_ShelfError : Addr} (F : Fun K "_check" "Season._check" s_Season__check f fd) (T : Txt K mg C_Weighted C_Ratio C_BadNumber C_TooMany C_ZeroBottom C_BadLot C_Season C_ShelfError) (c_check_up_to : Cal P w K mg base (L2.CX P w) 3 "check_up_to" ["what", "number", "most"] (sp_check_up_to C_BadNumber)) : FnOk P w K mg base (L2.CX P w) 4 f fd ["self", "s", "b"] (sp_Season__check C_Season C_Ratio C_Weighted C_BadNumber) := by
  refine F.okX sc_Season__check (fun vs H Q E h => ?_) (fun cdv A outer s H vs Q E hr h => ?_)
  · obtain ⟨_, _, _, _, _, _, _, _, _, _, _, _, _, _, _, _, rfl, _⟩ | ⟨_, _, _, _, _, _, _, _, _, _, _, _, _, _, _, _, rfl, _⟩ := h
    all_goals rfl
  · obtain h := h
    obtain ⟨f_check_up_to, fd_check_up_to, G_check_up_to, m_check_up_to, k_check_up_to, b_check_up_to⟩ := c_check_up_to
    refine ⟨_, (pss_cons (ps_expr (pe_call G_check_up_to (hr.mono (by decide)) (by rfl) m_check_up_to k_check_up_to b_check_up_to .nil (passes_call (takes_of rfl rfl rfl rfl) (fun _ _ _ _ h => h)) (pa_cons pe_str (pa_cons (pv 1) (pa_cons (pe_fld (pv 0) rfl) pa_nil)))))
      (pss_one (ps_expr (pe_call G_check_up_to (hr.mono (by decide)) (by rfl) m_check_up_to k_check_up_to b_check_up_to .nil (passes_call (takes_of rfl rfl rfl rfl) (fun _ _ _ _ h => h)) (pa_cons pe_str (pa_cons (pv 2) (pa_cons (pe_fld (pv 0) rfl) pa_nil))))))), ?_⟩
    rcases h with ⟨p, cx, r, dr, tr, tp, L, ws, a, ps, S, n, D, X, s0, b0, rfl, sa, fi, n12, hs0, hb0, q⟩ | ⟨p, cx, r, dr, tr, tp, L, ws, a, ps, S, n, D, X, s, b, rfl, sa, no, kE⟩
    · refine ⟨_, rfl, _, rfl, p, C_Season, cx, _, _, rfl, sa.hp, T.cl_Season, T.n_Season_seats, fS_seats _ _ _ _ _, "seats", (s0 : Int), (S : Int), rfl, fun h => absurd h (by omega), fun _ _ => ?_⟩
      exact ⟨_, rfl, _, rfl, p, C_Season, cx, _, _, rfl, sa.hp, T.cl_Season, T.n_Season_buyers, fS_buyers _ _ _ _ _, "buyers", (b0 : Int), (n : Int), rfl, fun h => absurd h (by omega), fun _ _ => q⟩
    · refine ⟨_, rfl, _, rfl, p, C_Season, cx, _, _, rfl, sa.hp, T.cl_Season, T.n_Season_seats, fS_seats _ _ _ _ _, "seats", s, (S : Int), rfl, fun h d nd => kE _ (dueA_s h) _ d (same_upd nd) upd_same, fun h1 h2 => ?_⟩
      exact ⟨_, rfl, _, rfl, p, C_Season, cx, _, _, rfl, sa.hp, T.cl_Season, T.n_Season_buyers, fS_buyers _ _ _ _ _, "buyers", b, (n : Int), rfl, fun h d nd => kE _ (dueA_b (by omega) h) _ d (same_upd nd) upd_same, fun h3 h4 => absurd (dueA_no (by omega) (by omega)) no⟩
def sp_Season_worth (CS CR CW CB : Addr) : Sp := fun vs H Q E => (∃ (p cx r dr tr tp L : Addr) (ws : List Int) (a : Int) (ps : List Int) (S n : Nat) (D : Int) (X : Nat → Nat → Int) (s b : Nat), vs = [.ref p, .int (s : Int), .int (b : Int)] ∧ SeaAt CS CR CW H p cx r dr tr tp L ws a ps S n D X ∧ FineS ws a ps ∧ n ≤ 12 ∧ s ≤ S ∧ b ≤ n ∧ ∀ H' q, Same H H' → RatD CR H' q (X b s) D → Q (.ref q) H')
  ∨ (∃ (p cx r dr tr tp L : Addr) (ws : List Int) (a : Int) (ps : List Int) (S n : Nat) (D : Int) (X : Nat → Nat → Int) (s b : Int), vs = [.ref p, .int s, .int b] ∧ SeaAt CS CR CW H p cx r dr tr tp L ws a ps S n D X ∧ dueA S n s b ≠ none ∧ ∀ wh, dueA S n s b = some wh → ∀ H' d, Same H H' → H' d = some (.xd [("at", .non), ("what", .str wh)]) → E (.ref CB) (some d) H')
theorem ok_Season_worth {f : Addr} {fd : FuncData} {C_Weighted C_Ratio C_BadNumber C_TooMany C_ZeroBottom C_BadLot C_Season C_ShelfError : Addr} (F : Fun K "worth" "Season.worth" s_Season_worth f fd) (T : Txt K mg C_Weighted C_Ratio C_BadNumber C_TooMany C_ZeroBottom C_BadLot C_Season C_ShelfError) (c_Season__check : CalM P w K mg base (L2.CX P w) 4 C_Season "_check" ["self", "s", "b"] (sp_Season__check C_Season C_Ratio C_Weighted C_BadNumber)) (c_Ratio___init__ : CalI P w K mg base (L2.CX P w) 1 C_Ratio ["self", "top", "bottom"] (sp_Ratio___init__ C_Ratio C_ZeroBottom) [V.int 1]) : FnOk P w K mg base (L2.CX P w) 5 f fd ["self", "s", "b"] (sp_Season_worth C_Season C_Ratio C_Weighted C_BadNumber) := by
  refine F.okX sc_Season_worth (fun vs H Q E h => ?_) (fun cdv A outer s H vs Q E hr h => ?_)
  · obtain ⟨_, _, _, _, _, _, _, _, _, _, _, _, _, _, _, _, rfl, _⟩ | ⟨_, _, _, _, _, _, _, _, _, _, _, _, _, _, _, _, rfl, _⟩ := h
    all_goals rfl
  · obtain h := h
    obtain ⟨f_Season__check, fd_Season__check, G_Season__check, M_Season__check, b_Season__check⟩ := c_Season__check
    obtain ⟨f_Ratio___init__, fd_Ratio___init__, G_Ratio___init__, M_Ratio___init__, b_Ratio___init__, ds_Ratio___init__, vd_Ratio___init__, bd_Ratio___init__⟩ := c_Ratio___init__
    refine ⟨_, (pss_cons (ps_expr (pe_meth (pv 0) T.cl_Season M_Season__check G_Season__check (hr.mono (by decide)) b_Season__check .nil (passes_call (takes_of rfl rfl rfl rfl) (fun _ _ _ _ h => h)) (pa_cons (pv 1) (pa_cons (pv 2) pa_nil))))
      (pss_cons (ps_set (i := 3) sc_Season_worth.nd rfl (Or.inl rfl) (pe_ix ix_list (pe_ix ix_list (pe_fld (pv 0) rfl) (pv 2) (fun _ _ => rfl)) (pv 1) (fun _ _ => rfl)))
      (pss_one (ps_ret (pe_make M_Ratio___init__ G_Ratio___init__ (hr.mono (by decide)) (by rfl) T.g_Ratio b_Ratio___init__ .nil (passes_call (takes_of rfl rfl rfl rfl) (fun _ _ _ _ h => h)) (pa_cons (pe_fld (pv 3) rfl) (pa_cons (pe_fld (pv 3) rfl) pa_nil))))))), ?_⟩
    rcases h with ⟨p, cx, r, dr, tr, tp, L, ws, a, ps, S, n, D, X, s0, b0, rfl, sa, fi, n12, hs0, hb0, q⟩ | ⟨p, cx, r, dr, tr, tp, L, ws, a, ps, S, n, D, X, s, b, rfl, sa, no, kE⟩
    · refine ⟨_, rfl, p, cx, _, rfl, sa.hp, fS__check _ _ _ _ _, _, rfl, _, rfl, .inl ⟨p, cx, r, dr, tr, tp, L, ws, a, ps, S, n, D, X, s0, b0, rfl, sa, fi, n12, hs0, hb0, ?_⟩⟩
      obtain ⟨rows, l, rs, z, h1, h2, h3, h4, h5⟩ := sa.rows.at_ hb0 hs0
      obtain ⟨Tz, Bz, rz, lz⟩ := id h5
      obtain ⟨dz, hz⟩ := id rz
      have D0 := sa.big.1
      have sB : Sm Bz := sa.big.sm (c := 1) (by have := lz.leB; have := lz.pos; omega) (by decide)
      have pz := lz.pos
      refine ⟨_, rfl, p, C_Season, cx, _, _, rfl, sa.hp, T.cl_Season, T.n_Season__worths, fS__worths _ _ _ _ _, _, rfl, L, _, _, _, rfl, rfl, lst_l h1, atI_nat h2, _, rfl, l, _, _, _, rfl, rfl, lst_l h3, atI_nat h4, ?_⟩
      refine ⟨_, rfl, z, C_Ratio, dz, _, _, rfl, hz, T.cl_Ratio, T.n_Ratio_top, rF_top Tz Bz, _, rfl, z, C_Ratio, dz, _, _, rfl, hz, T.cl_Ratio, T.n_Ratio_bottom, rF_bot Tz Bz, ?_⟩
      refine mk_rat (t := Tz) (b := Bz) (by omega) sB fun x0 H5 s5 nx r0 => ?_
      exact q H5 x0 s5 ⟨_, _, r0, (low (by omega)).to (by omega) (by omega) lz.eq⟩
    · exact ⟨_, rfl, p, cx, _, rfl, sa.hp, fS__check _ _ _ _ _, _, rfl, _, rfl, .inr ⟨p, cx, r, dr, tr, tp, L, ws, a, ps, S, n, D, X, s, b, rfl, sa, no, kE⟩⟩
def sp_Season_bar (CS CR CW CB : Addr) : Sp := fun vs H Q E => (∃ (p cx r dr tr tp L : Addr) (ws : List Int) (a : Int) (ps : List Int) (S n : Nat) (D : Int) (X : Nat → Nat → Int) (s b : Nat), vs = [.ref p, .int (s : Int), .int (b : Int)] ∧ SeaAt CS CR CW H p cx r dr tr tp L ws a ps S n D X ∧ FineS ws a ps ∧ n ≤ 12 ∧ s ≤ S ∧ b ≤ n ∧ ((s = 0 ∨ b = 0) → Q .non H) ∧ (∀ s' b', s = s' + 1 → b = b' + 1 → ∀ H' q, Same H H' → RatD CR H' q (X b s - X b' s') D → Q (.ref q) H'))
  ∨ (∃ (p cx r dr tr tp L : Addr) (ws : List Int) (a : Int) (ps : List Int) (S n : Nat) (D : Int) (X : Nat → Nat → Int) (s b : Int), vs = [.ref p, .int s, .int b] ∧ SeaAt CS CR CW H p cx r dr tr tp L ws a ps S n D X ∧ dueA S n s b ≠ none ∧ ∀ wh, dueA S n s b = some wh → ∀ H' d, Same H H' → H' d = some (.xd [("at", .non), ("what", .str wh)]) → E (.ref CB) (some d) H')
theorem ok_Season_bar {f : Addr} {fd : FuncData} {C_Weighted C_Ratio C_BadNumber C_TooMany C_ZeroBottom C_BadLot C_Season C_ShelfError : Addr} (F : Fun K "bar" "Season.bar" s_Season_bar f fd) (T : Txt K mg C_Weighted C_Ratio C_BadNumber C_TooMany C_ZeroBottom C_BadLot C_Season C_ShelfError) (c_Season__check : CalM P w K mg base (L2.CX P w) 4 C_Season "_check" ["self", "s", "b"] (sp_Season__check C_Season C_Ratio C_Weighted C_BadNumber)) (c_Ratio___sub__ : CalM P w K mg base CX0 5 C_Ratio "__sub__" ["self", "other"] (sp_Ratio___sub__ C_Ratio)) : FnOk P w K mg base (L2.CX P w) 6 f fd ["self", "s", "b"] (sp_Season_bar C_Season C_Ratio C_Weighted C_BadNumber) := by
  refine F.okX sc_Season_bar (fun vs H Q E h => ?_) (fun cdv A outer s H vs Q E hr h => ?_)
  · obtain ⟨_, _, _, _, _, _, _, _, _, _, _, _, _, _, _, _, rfl, _⟩ | ⟨_, _, _, _, _, _, _, _, _, _, _, _, _, _, _, _, rfl, _⟩ := h
    all_goals rfl
  · obtain h := h
    obtain ⟨f_Season__check, fd_Season__check, G_Season__check, M_Season__check, b_Season__check⟩ := c_Season__check
    obtain ⟨f_Ratio___sub__, fd_Ratio___sub__, G_Ratio___sub__, M_Ratio___sub__, b_Ratio___sub__⟩ := c_Ratio___sub__
    refine ⟨_, (pss_cons (ps_expr (pe_meth (pv 0) T.cl_Season M_Season__check G_Season__check (hr.mono (by decide)) b_Season__check .nil (passes_call (takes_of rfl rfl rfl rfl) (fun _ _ _ _ h => h)) (pa_cons (pv 1) (pa_cons (pv 2) pa_nil))))
      (pss_cons (ps_if (PW.pt (pw_or (pt_cmpR op_eq (pv 1) pe_int (nomark _)) (pw_or1 (pt_cmpR op_eq (pv 2) pe_int (nomark _))))) (pss_one (ps_ret pe_non)) pss_nil)
      (pss_one (ps_ret (pe_op (op_own_Sub M_Ratio___sub__ T.sf_Ratio T.rf_Ratio_sub T.int_sub T.si_Ratio G_Ratio___sub__ (hr.mono (by decide)) b_Ratio___sub__ pass0) (pe_ix ix_list (pe_ix ix_list (pe_fld (pv 0) rfl) (pv 2) (fun _ _ => rfl)) (pv 1) (fun _ _ => rfl)) (pe_ix ix_list (pe_ix ix_list (pe_fld (pv 0) rfl) (pe_op op_sub (pv 2) pe_int) (fun _ _ => rfl)) (pe_op op_sub (pv 1) pe_int) (fun _ _ => rfl))))))), ?_⟩
    rcases h with ⟨p, cx, r, dr, tr, tp, L, ws, a, ps, S, n, D, X, s0, b0, rfl, sa, fi, n12, hs0, hb0, q0, q⟩ | ⟨p, cx, r, dr, tr, tp, L, ws, a, ps, S, n, D, X, s, b, rfl, sa, no, kE⟩
    · refine ⟨_, rfl, p, cx, _, rfl, sa.hp, fS__check _ _ _ _ _, _, rfl, _, rfl, .inl ⟨p, cx, r, dr, tr, tp, L, ws, a, ps, S, n, D, X, s0, b0, rfl, sa, fi, n12, hs0, hb0, ?_⟩⟩
      refine ⟨_, rfl, rfl, _, rfl, ite2 (fun e => q0 (.inl (by have := V.int.inj (of_decide_eq_true e); omega))) (fun e1 => ?_)⟩
      refine ⟨_, rfl, rfl, _, rfl, ite2 (fun e => q0 (.inr (by have := V.int.inj (of_decide_eq_true e); omega))) (fun e2 => ?_)⟩
      have n1 : s0 ≠ 0 := fun z => e1 (decide_eq_true (by rw [z]; rfl))
      have n2 : b0 ≠ 0 := fun z => e2 (decide_eq_true (by rw [z]; rfl))
      obtain ⟨s', rfl⟩ : ∃ s', s0 = s' + 1 := ⟨s0 - 1, by omega⟩
      obtain ⟨b', rfl⟩ : ∃ b', b0 = b' + 1 := ⟨b0 - 1, by omega⟩
      obtain ⟨rows, l, rs, z, h1, h2, h3, h4, h5⟩ := sa.rows.at_ hb0 hs0
      obtain ⟨rows', l', rs', z', h1', h2', h3', h4', h5'⟩ := sa.rows.at_ (b := b') (s := s') (by omega) (by omega)
      obtain ⟨Tz, Bz, rz, lz⟩ := id h5
      obtain ⟨Ty, By, ry, ly⟩ := id h5'
      have D0 := sa.big.1
      have bz := sa.bd fi n12 hb0 hs0
      have by_ := sa.bd fi n12 (show b' ≤ n by omega) (show s' ≤ S by omega)
      have pz := lz.pos
      have py := ly.pos
      have Lz := lz.leB
      have Ly := ly.leB
      have sTz : Sm Tz := sa.big.sm (c := 2 ^ 68) (by have := lz.leT; omega) (by decide)
      have sTy : Sm Ty := sa.big.sm (c := 2 ^ 68) (by have := ly.leT; omega) (by decide)
      have sBz : Sm Bz := sa.big.sm (c := 1) (by omega) (by decide)
      have sBy : Sm By := sa.big.sm (c := 1) (by omega) (by decide)
      have szy : Sm (Bz * By) := sa.big.sm2 (c := 1) (by
        have h3 := Int.mul_le_mul (show Bz ≤ D by omega) (show By ≤ D by omega) (by omega) (by omega)
        have h4 := Int.mul_nonneg (show 0 ≤ Bz by omega) (show 0 ≤ By by omega)
        omega) (by decide)
      refine ⟨_, rfl, p, C_Season, cx, _, _, rfl, sa.hp, T.cl_Season, T.n_Season__worths, fS__worths _ _ _ _ _, _, rfl, L, _, _, _, rfl, rfl, lst_l h1, atI_nat h2, _, rfl, l, _, _, _, rfl, rfl, lst_l h3, atI_nat h4, ?_⟩
      refine ⟨_, rfl, p, C_Season, cx, _, _, rfl, sa.hp, T.cl_Season, T.n_Season__worths, fS__worths _ _ _ _ _, _, rfl, _, _, rfl, rfl, L, _, _, _, rfl, rfl, lst_l h1', at_of (j := b') (by omega) h2', _, rfl, _, _, rfl, rfl, l', _, _, _, rfl, rfl, lst_l h3', at_of (j := s') (by omega) h4', ?_⟩
      refine ⟨rz.self, ry.num.arg, z, .ref z', Tz, Bz, Ty, By, rfl, rz, ry.num, pz, py, sTz, sBz, sTy, sBy, szy, fun H5 q5 T5 B5 s5 r5 lo5 => ?_⟩
      refine q s' b' rfl rfl H5 q5 s5 ⟨T5, B5, r5, lo5.to (by have := Int.mul_pos pz py; omega) (by omega) ?_⟩
      have h1 := lz.eq
      have h2 := ly.eq
      grind
    · exact ⟨_, rfl, p, cx, _, rfl, sa.hp, fS__check _ _ _ _ _, _, rfl, _, rfl, .inr ⟨p, cx, r, dr, tr, tp, L, ws, a, ps, S, n, D, X, s, b, rfl, sa, no, kE⟩⟩
def sp_Season_lot_to_show (CS CR CW CB : Addr) : Sp := fun vs H Q E => (∃ (p cx r dr tr tp L : Addr) (ws : List Int) (a : Int) (ps : List Int) (S n : Nat) (D : Int) (X : Nat → Nat → Int) (s b : Nat), vs = [.ref p, .int (s : Int), .int (b : Int)] ∧ SeaAt CS CR CW H p cx r dr tr tp L ws a ps S n D X ∧ FineS ws a ps ∧ n ≤ 12 ∧ s ≤ S ∧ b ≤ n ∧ ((s = 0 ∨ b = 0) → ∀ H' u, Same H H' → H' u = some (.tup []) → Q (.ref u) H') ∧ (∀ s' b', s = s' + 1 → b = b' + 1 → ∀ H' u, Same H H' → H' u = some (.tup (((dearT ws ps (X b s - X b' s') D).map fun (t : Nat) => (t : Int)).map V.int)) → Q (.ref u) H'))
  ∨ (∃ (p cx r dr tr tp L : Addr) (ws : List Int) (a : Int) (ps : List Int) (S n : Nat) (D : Int) (X : Nat → Nat → Int) (s b : Int), vs = [.ref p, .int s, .int b] ∧ SeaAt CS CR CW H p cx r dr tr tp L ws a ps S n D X ∧ dueA S n s b ≠ none ∧ ∀ wh, dueA S n s b = some wh → ∀ H' d, Same H H' → H' d = some (.xd [("at", .non), ("what", .str wh)]) → E (.ref CB) (some d) H')
theorem ok_Season_lot_to_show {f : Addr} {fd : FuncData} {C_Weighted C_Ratio C_BadNumber C_TooMany C_ZeroBottom C_BadLot C_Season C_ShelfError : Addr} (F : Fun K "lot_to_show" "Season.lot_to_show" s_Season_lot_to_show f fd) (T : Txt K mg C_Weighted C_Ratio C_BadNumber C_TooMany C_ZeroBottom C_BadLot C_Season C_ShelfError) (m_range : mg "range" = none) (m_tuple : mg "tuple" = none) (c_Season_bar : CalM P w K mg base (L2.CX P w) 6 C_Season "bar" ["self", "s", "b"] (sp_Season_bar C_Season C_Ratio C_Weighted C_BadNumber)) (c_Ratio___gt__ : CalM P w K mg base CX0 5 C_Ratio "__gt__" ["self", "other"] (sp_Ratio___gt__ C_Ratio)) (c_Ratio___lt__ : CalM P w K mg base CX0 5 C_Ratio "__lt__" ["self", "other"] (sp_Ratio___lt__ C_Ratio)) : FnOk P w K mg base (L2.CX P w) 7 f fd ["self", "s", "b"] (sp_Season_lot_to_show C_Season C_Ratio C_Weighted C_BadNumber) := by
  refine F.okX sc_Season_lot_to_show (fun vs H Q E h => ?_) (fun cdv A outer s H vs Q E hr h => ?_)
  · obtain ⟨_, _, _, _, _, _, _, _, _, _, _, _, _, _, _, _, rfl, _⟩ | ⟨_, _, _, _, _, _, _, _, _, _, _, _, _, _, _, _, rfl, _⟩ := h
    all_goals rfl
  · obtain h := h
    obtain ⟨f_Season_bar, fd_Season_bar, G_Season_bar, M_Season_bar, b_Season_bar⟩ := c_Season_bar
    obtain ⟨f_Ratio___gt__, fd_Ratio___gt__, G_Ratio___gt__, M_Ratio___gt__, b_Ratio___gt__⟩ := c_Ratio___gt__
    obtain ⟨f_Ratio___lt__, fd_Ratio___lt__, G_Ratio___lt__, M_Ratio___lt__, b_Ratio___lt__⟩ := c_Ratio___lt__
    refine ⟨_, (pss_cons (ps_set (i := 3) sc_Season_lot_to_show.nd rfl (Or.inr rfl) (pe_meth (pv 0) T.cl_Season M_Season_bar G_Season_bar (hr.mono (by decide)) b_Season_bar .nil (passes_call (takes_of rfl rfl rfl rfl) (fun _ _ _ _ h => h)) (pa_cons (pv 1) (pa_cons (pv 2) pa_nil))))
      (pss_cons (ps_if (pt_cmpR op_isN (pv 3) pe_non (nomark _)) (pss_one (ps_ret (pe_tup pa_nil))) pss_nil)
      (pss_one (ps_ret (pe_callTy call_tuple_of (by rfl) m_tuple (by decide +kernel) (pa_cons (pe_lc (own := [("thing", 4)]) (g := (gName 4)) rfl sc_Season_lot_to_show.nd (pi_range1 (by rfl) m_range (pa_cons (pe_fld (pe_fld (pv 0) rfl) rfl) pa_nil)) (blkOk_by (own := [("thing", 4)]) (N := ["self", "s", "b", "bar", "thing"]) (sc := defScope s_Season_lot_to_show) (by decide +kernel)) (fun _ _ _ _ _ => (pg_name (i := 4) sc_Season_lot_to_show.nd rfl (Or.inl rfl))) (fun _ _ _ _ _ => (pts_one (pt_cmpR (op_cmp_Gt M_Ratio___gt__ M_Ratio___lt__ T.si_Ratio T.sr_Ratio G_Ratio___gt__ G_Ratio___lt__ (hr.mono (by decide)) (hr.mono (by decide)) b_Ratio___gt__ b_Ratio___lt__ pass0) (pe_ix (r := rIxT K) ix_tup (pe_fldK (K := K) (pv 0) rfl) (pv 4) (fun _ _ => rfl)) (pv 3) (nomark _)))) (fun _ _ _ _ _ => (pv 4))) pa_nil)))))), ?_⟩
    rcases h with ⟨p, cx, r, dr, tr, tp, L, ws, a, ps, S, n, D, X, s0, b0, rfl, sa, fi, n12, hs0, hb0, q0, q⟩ | ⟨p, cx, r, dr, tr, tp, L, ws, a, ps, S, n, D, X, s, b, rfl, sa, no, kE⟩
    · refine ⟨_, rfl, p, cx, _, rfl, sa.hp, fS_bar _ _ _ _ _, _, rfl, _, rfl, .inl ⟨p, cx, r, dr, tr, tp, L, ws, a, ps, S, n, D, X, s0, b0, rfl, sa, fi, n12, hs0, hb0, fun e => ?_, fun s' b' es eb H1 q1 s1 r1 => ?_⟩⟩
      · refine ⟨_, rfl, rfl, _, rfl, iteD rfl ?_⟩
        exact ⟨(by show 0 ≤ sizeLine; decide), fun u nu => q0 e _ u (same_upd nu) upd_same⟩
      refine ⟨_, rfl, rfl, _, rfl, iteDF (fun z => by cases z) ?_⟩
      have sa1 := sa.same s1
      have wl := fi.f.wl
      have el := fi.len
      have D0 := sa.big.1
      subst es eb
      have bz := sa.bd fi n12 hb0 hs0
      have by_ := sa.bd fi n12 (show b' ≤ n by omega) (show s' ≤ S by omega)
      obtain ⟨Tq, Bq, rq, lq⟩ := r1
      have sTq : Sm Tq := sa.big.sm (c := 2 ^ 68) (by have := lq.leT; omega) (by decide)
      have sBq : Sm Bq := sa.big.sm (c := 1) (by have := lq.leB; have := lq.pos; omega) (by decide)
      have q := q s' b' rfl rfl
      generalize X (b' + 1) (s' + 1) - X b' s' = x at lq q
      refine ⟨_, rfl, p, C_Season, cx, _, _, rfl, sa1.hp, T.cl_Season, T.n_Season_rule, fS_rule _ _ _ _ _, r, C_Weighted, dr, _, _, rfl, sa1.w.1, T.cl_Weighted, T.n_Weighted_many, fW_many _ _ _, _, rfl, by omega, by omega, ?_⟩
      rw [Int.toNat_natCast]
      refine fun D9 nD => lc_range (lo := 0) (n := ws.length) (fun i H3 => Same H1 H3 ∧ H3 D9 = some (.lst ((dearU ps x D i).map V.int))) ⟨same_upd nD, upd_same⟩ ?_ ?_
      · rintro i H3 hi ⟨s3, hD⟩
        have sa3 := sa1.same s3
        have ra3 := rq.same s3
        have p0 := fi.p0 i
        have p1 := fi.p2 i
        refine ⟨rfl, ?_⟩
        refine ⟨_, rfl, p, C_Season, cx, _, _, rfl, sa3.hp, T.cl_Season, T.n_Season_prices, fS_prices _ _ _ _ _, _, rfl, tp, _, _, .int (ps.getD i 0), rfl, rfl, tup_t sa3.ht, ?_, ?_⟩
        · have := ws_at (ws := ps) (n := 0 + (i : Int)) (by omega) (by omega)
          rw [show (0 + (i : Int)).toNat = i by omega] at this
          exact this
        refine ⟨_, rfl, .inr ⟨⟨_, rfl⟩, ra3.self, q1, .int (ps.getD i 0), Tq, Bq, ps.getD i 0, 1, rfl, ra3, .inr ⟨rfl, rfl⟩, sTq, sBq, sm_36 p0 (by omega), sm_of (n := 1) (by decide), fun H4 s4 => ⟨_, rfl, ite2 (fun c => ?_) (fun c => ?_)⟩⟩⟩
        · have c : Tq * 1 < ps.getD i 0 * Bq := of_decide_eq_true c
          have cN := (lt_of_eq (p := ps.getD i 0) lq.eq lq.pos D0).mp (by omega)
          refine ⟨_, rfl, _, s4 _ _ hD, ?_, same_mut (s3.trans s4) nD, ?_⟩
          · rw [List.length_map]
            have := dearU_len ps x D i
            exact small1000 (by omega)
          · rw [upd_same, dearU_next, if_pos cN, Int.zero_add, List.map_append]
            rfl
        · have c : ¬ Tq * 1 < ps.getD i 0 * Bq := fun z => c (decide_eq_true z)
          have cN : ¬ x < ps.getD i 0 * D := fun z => c (by have := (lt_of_eq (p := ps.getD i 0) lq.eq lq.pos D0).mpr z; omega)
          refine ⟨s3.trans s4, ?_⟩
          rw [s4 _ _ hD, dearU_next, if_neg cN, List.append_nil]
      · rintro H3 ⟨s3, hD⟩
        refine ⟨D9, _, rfl, .inl ⟨lst_l hD, fun l nl => ?_⟩⟩
        exact q _ l ((s1.trans s3).trans (same_upd nl)) upd_same
    · exact ⟨_, rfl, p, cx, _, rfl, sa.hp, fS_bar _ _ _ _ _, _, rfl, _, rfl, .inr ⟨p, cx, r, dr, tr, tp, L, ws, a, ps, S, n, D, X, s, b, rfl, sa, no, kE⟩⟩
def sp__law_cell (K : PySem.W.Frag) : Sp := fun vs H Q _ => ∃ (a : Addr) (ns : List Int) (j : Nat), vs = [.ref a, .int (j : Int)] ∧ SqL K H a (ns.map V.int) ∧ ∀ v : Int, Q (.int v) H
theorem ok__law_cell {f : Addr} {fd : FuncData} {C_Weighted C_Ratio C_BadNumber C_TooMany C_ZeroBottom C_BadLot C_Season C_ShelfError : Addr} (F : Fun K "_law_cell" "_law_cell" s__law_cell f fd) (T : Txt K mg C_Weighted C_Ratio C_BadNumber C_TooMany C_ZeroBottom C_BadLot C_Season C_ShelfError) (m_int : mg "int" = none) (m_len : mg "len" = none) : FnOk P w K mg base CX0 1 f fd ["_law_script", "_law_place"] (sp__law_cell K) := by
  refine F.ok sc__law_cell (fun vs H Q E h => ?_) (fun cdv A outer s H vs Q E hr h => ?_)
  · obtain ⟨a, ns, j, rfl, _⟩ := h
    rfl
  · obtain ⟨a, ns, j, rfl, hS, q⟩ := h
    refine ⟨_, (pss_cons (ps_if (pt_cmpR op_lt (pv 1) (pe_callB call_len_seq (by rfl) m_len (by decide +kernel) (pa_cons (pv 0) pa_nil)) (nomark _)) (pss_one (ps_ret (pe_callTy call_int1 (by rfl) m_int (by decide +kernel) (pa_cons (pe_ix ix_list (pv 0) (pv 1) (fun _ _ => rfl)) pa_nil)))) pss_nil)
      (pss_one (ps_ret pe_int))), ?_⟩
    refine ⟨_, rfl, .ref a, rfl, a, _, rfl, .inl hS, _, _, rfl, rfl, _, rfl, ite2 (fun e => ?_) (fun _ => q 0)⟩
    have hj : j < ns.length := by
      have e := of_decide_eq_true e
      rw [List.length_map] at e
      omega
    exact ⟨.ref a, rfl, .int (j : Int), rfl, a, _, _, _, rfl, rfl, hS, atI_nat (int_at (List.getElem?_eq_getElem hj)), .inl ⟨_, rfl, q _⟩⟩
def sp__law_draws (K : PySem.W.Frag) : Sp := fun vs H Q _ => ∃ (c : Int) (a : Addr) (ns : List Int), vs = [.int c, .ref a] ∧ SqL K H a (ns.map V.int) ∧ (∀ n ∈ ns, 0 < n ∧ n < 2 ^ 100) ∧ ns.length ≤ 1000 ∧
  ∀ ds H' p, Within ds ns → Same H H' → H p = none → H' p = some (.lst (ds.map V.int)) → Q (.ref p) H'

theorem ok__law_draws {f : Addr} {fd : FuncData} {C_Weighted C_Ratio C_BadNumber C_TooMany C_ZeroBottom C_BadLot C_Season C_ShelfError : Addr} (F : Fun K "_law_draws" "_law_draws" s__law_draws f fd) (T : Txt K mg C_Weighted C_Ratio C_BadNumber C_TooMany C_ZeroBottom C_BadLot C_Season C_ShelfError) (m_int : mg "int" = none) (m_len : mg "len" = none) (m_range : mg "range" = none) : FnOk P w K mg base CX0 1 f fd ["_law_cell_here", "_law_sizes"] (sp__law_draws K) := by
  refine F.ok sc__law_draws (fun vs H Q E h => ?_) (fun cdv A outer s H vs Q E hr h => ?_)
  · obtain ⟨c, a, ns, rfl, _⟩ := h
    rfl
  · obtain ⟨c, a, ns, rfl, hS, hn, hlen, q⟩ := h
    refine ⟨_, (pss_cons (ps_if (pt_cmpR op_eq (pv 0) pe_int (nomark _)) (pss_one (ps_ret (pe_lc (own := [("_law_size", 2)]) (g := (gName 2)) (tt := tYes) rfl sc__law_draws.nd (pi_list (pv 1)) (blkOk_by (own := [("_law_size", 2)]) (N := ["_law_cell_here", "_law_sizes", "_law_size", "_law_left", "_law_found", "_law_k", "_law_low", "_law_high"]) (sc := defScope s__law_draws) (by decide +kernel)) (fun _ _ _ _ _ => (pg_name (i := 2) sc__law_draws.nd rfl (Or.inl rfl))) (fun _ _ _ _ _ => pts_nil) (fun _ _ _ _ _ => pe_int)))) pss_nil)
      (pss_cons (ps_if (pt_cmpR op_ge (pv 0) (pe_op op_pow pe_int pe_int) (nomark _)) (pss_cons (ps_set (i := 3) sc__law_draws.nd rfl (Or.inl rfl) (pe_op op_sub (pv 0) (pe_op op_pow pe_int pe_int)))
      (pss_cons (ps_set (i := 4) sc__law_draws.nd rfl (Or.inl rfl) (pe_lst pa_nil))
      (pss_cons (ps_for PassesOwn.never rfl (pi_list (pv 1)) (pg_name (i := 2) sc__law_draws.nd rfl (Or.inl rfl))
      (pss_cons (ps_expr (pe_bm PySem.F.plainAttrs_list PySem.F.slot_list_append PySem.F.type_list_append mt_append (pv 4) (pa_cons (pe_op op_mod (pe_callTy call_int1 (by rfl) m_int (by decide +kernel) (pa_cons (pv 3) pa_nil)) (pv 2)) pa_nil)))
      (pss_one (ps_set (i := 3) sc__law_draws.nd rfl (Or.inl rfl) (pe_op op_fdivW (pv 3) (pv 2))))))
      (pss_one (ps_ret (pv 4)))))) pss_nil)
      (pss_cons (ps_set (i := 4) sc__law_draws.nd rfl (Or.inl rfl) (pe_lst pa_nil))
      (pss_cons (ps_for PassesOwn.never rfl (pi_range1 (by rfl) m_range (pa_cons (pe_callB call_len_seq (by rfl) m_len (by decide +kernel) (pa_cons (pv 1) pa_nil)) pa_nil)) (pg_name (i := 5) sc__law_draws.nd rfl (Or.inl rfl))
      (pss_cons (ps_set (i := 6) sc__law_draws.nd rfl (Or.inl rfl) (pe_op op_mod (pe_callTy call_int1 (by rfl) m_int (by decide +kernel) (pa_cons (pe_op op_add (pe_op op_mul (pv 0) pe_int) (pe_op op_mul (pe_op op_add (pv 5) pe_int) pe_int)) pa_nil)) pe_int))
      (pss_cons (ps_set (i := 6) sc__law_draws.nd rfl (Or.inl rfl) (pe_op op_mod (pe_callTy call_int1 (by rfl) m_int (by decide +kernel) (pa_cons (pe_op op_add (pe_op op_mul (pv 6) pe_int) (pe_op op_mul (pe_op op_add (pv 5) pe_int) pe_int)) pa_nil)) pe_int))
      (pss_cons (ps_set (i := 7) sc__law_draws.nd rfl (Or.inl rfl) (pe_op op_mod (pe_callTy call_int1 (by rfl) m_int (by decide +kernel) (pa_cons (pe_op op_add (pe_op op_mul (pv 0) pe_int) (pe_op op_mul (pe_op op_add (pv 5) pe_int) pe_int)) pa_nil)) pe_int))
      (pss_cons (ps_set (i := 7) sc__law_draws.nd rfl (Or.inl rfl) (pe_op op_mod (pe_callTy call_int1 (by rfl) m_int (by decide +kernel) (pa_cons (pe_op op_add (pe_op op_mul (pv 7) pe_int) (pv 6)) pa_nil)) pe_int))
      (pss_one (ps_expr (pe_bm PySem.F.plainAttrs_list PySem.F.slot_list_append PySem.F.type_list_append mt_append (pv 4) (pa_cons (pe_op op_mod (pe_callTy call_int1 (by rfl) m_int (by decide +kernel) (pa_cons (pe_op op_add (pe_op op_mul (pv 7) pe_int) (pv 6)) pa_nil)) (pe_ix ix_list (pv 1) (pv 5) (fun _ _ => rfl))) pa_nil)))))))))
      (pss_one (ps_ret (pv 4))))))), ?_⟩
    have small : ∀ {ds : List Int} {i : Nat}, Within ds (ns.take i) → (ds.map V.int).length < sizeLine := fun {ds i} w => by
      rw [List.length_map, w.len, List.length_take]
      exact small1000 (by omega)
    refine ⟨_, rfl, rfl, _, rfl, ite2 (fun _ => ?_) (fun _ => ?_)⟩
    · -- [0 for size in sizes]
      refine ⟨.ref a, rfl, a, rfl, ⟨_, hS⟩, fun D nD => lc_list (K := K) (a := a) (xs := ns.map V.int) (fun i H2 => ∃ ds : List Int, Same H H2 ∧ H2 D = some (.lst (ds.map V.int)) ∧ Within ds (ns.take i)) ⟨[], same_upd nD, upd_same, Within.zero ns⟩ (fun i H2 _ ⟨_, s, _⟩ => s.seq hS) ?_ ?_⟩
      · rintro i x H2 hi ⟨ds, s, hD, w⟩
        obtain ⟨n, rfl, hin⟩ := int_of hi
        refine ⟨rfl, ?_⟩
        refine lc_yes ?_
        refine iteT ?_
        exact ⟨_, hD, small w, ds ++ [0], same_mut s nD, by rw [upd_same, ← snoc_int], w.step hin (Int.le_refl 0) (hn n (List.mem_of_getElem? hin)).1⟩
      · rintro H2 ⟨ds, s, hD, w⟩
        rw [List.length_map] at w
        exact q ds H2 D w.full s nD hD
    refine ⟨_, rfl, 10, 18, rfl, rfl, ⟨by decide, by decide, by decide⟩, _, _, rfl, rfl, _, rfl, ite2 (fun _ => ?_) (fun _ => ?_)⟩
    · -- left = cell - 10 ** 18; found = []
      refine ⟨_, rfl, 10, 18, rfl, rfl, ⟨by decide, by decide, by decide⟩, _, _, rfl, rfl, ?_⟩
      refine ⟨Nat.zero_le _, fun o no => ?_⟩
      have s1 : Same H (upd H o (.lst [])) := same_upd no
      refine ⟨.ref a, rfl, a, rfl, ⟨_, s1.seq hS⟩, for_list (K := K) (a := a) (xs := ns.map V.int) (fun i σ H2 => ∃ (ds : List Int) (l : Int) (y : Option V), σ = [some (.int c), some (.ref a), y, some (.int l), some (.ref o), none, none, none] ∧ Same H H2 ∧ H2 o = some (.lst (ds.map V.int)) ∧ Within ds (ns.take i))
        ⟨[], _, none, rfl, s1, upd_same, Within.zero ns⟩ (fun i σ H2 _ ⟨_, _, _, _, s, _⟩ => s.seq hS) ?_ ?_⟩
      · rintro i x σ H2 hi ⟨ds, l, y, rfl, s, hD, w⟩
        obtain ⟨n, rfl, hin⟩ := int_of hi
        obtain ⟨n0, n1⟩ := hn n (List.mem_of_getElem? hin)
        refine ⟨.ref o, rfl, .inl ⟨rfl, _, lst_l hD⟩, _, rfl, .inl ⟨l, rfl, _, rfl, _, _, rfl, rfl, n0, o, _, _, rfl, rfl, hD, small w, ?_⟩⟩
        refine ⟨_, rfl, _, rfl, _, _, rfl, rfl, w_div n0 n1, ds ++ [l % n], _, _, rfl, same_mut s no, by rw [upd_same, ← snoc_int], w.step hin (Int.emod_nonneg _ (by omega)) (Int.emod_lt_of_pos _ n0)⟩
      · rintro σ H2 ⟨ds, l, y, rfl, s, hD, w⟩
        rw [List.length_map] at w
        exact ⟨_, rfl, q ds H2 o w.full s no hD⟩
    · refine ⟨Nat.zero_le _, fun o no => ?_⟩
      have s1 : Same H (upd H o (.lst [])) := same_upd no
      refine ⟨.ref a, rfl, a, _, rfl, .inl (s1.seq hS), _, rfl, ?_⟩
      rw [List.length_map]
      refine ⟨by omega, by omega, ?_⟩
      rw [Int.toNat_natCast]
      refine for_range (lo := 0) (n := ns.length) (fun i σ H2 => ∃ (ds : List Int) (y1 y2 y3 : Option V), σ = [some (.int c), some (.ref a), none, none, some (.ref o), y1, y2, y3] ∧ Same H H2 ∧ H2 o = some (.lst (ds.map V.int)) ∧ Within ds (ns.take i))
        ⟨[], none, none, none, rfl, s1, upd_same, Within.zero ns⟩ ?_ ?_
      · rintro i σ H2 hi ⟨ds, y1, y2, y3, rfl, s, hD, w⟩
        have hin : ns[i]? = some ns[i] := List.getElem?_eq_getElem hi
        obtain ⟨n0, n1⟩ := hn ns[i] (List.getElem_mem hi)
        refine ⟨_, rfl, _, _, rfl, rfl, .inr ⟨by decide, by decide⟩, _, rfl, _, _, rfl, rfl, _, _, rfl, rfl, .inr ⟨by decide, by decide⟩, _, _, rfl, rfl, .inl ⟨_, rfl, _, _, rfl, rfl, (show (0 : Int) < 2147483647 by decide), ?_⟩⟩
        refine ⟨_, rfl, _, _, rfl, rfl, .inr ⟨by decide, by decide⟩, _, rfl, _, _, rfl, rfl, _, _, rfl, rfl, .inr ⟨by decide, by decide⟩, _, _, rfl, rfl, .inl ⟨_, rfl, _, _, rfl, rfl, (show (0 : Int) < 2147483399 by decide), ?_⟩⟩
        refine ⟨_, rfl, _, _, rfl, rfl, .inr ⟨by decide, by decide⟩, _, rfl, _, _, rfl, rfl, _, _, rfl, rfl, .inr ⟨by decide, by decide⟩, _, _, rfl, rfl, .inl ⟨_, rfl, _, _, rfl, rfl, (show (0 : Int) < 2147483563 by decide), ?_⟩⟩
        refine ⟨_, rfl, _, _, rfl, rfl, .inr ⟨by decide, by decide⟩, _, rfl, _, _, rfl, rfl, .inl ⟨_, rfl, _, _, rfl, rfl, (show (0 : Int) < 2147483587 by decide), ?_⟩⟩
        refine ⟨.ref o, rfl, .inl ⟨rfl, _, lst_l hD⟩, _, rfl, _, _, rfl, rfl, .inr ⟨by decide, by decide⟩, _, rfl, _, _, rfl, rfl, .inl ⟨_, rfl, .ref a, rfl, .int (0 + (i : Int)), rfl, a, _, _, _, rfl, rfl, s.seq hS, at_of (Int.zero_add _) (int_at hin), _, _, rfl, rfl, n0, o, _, _, rfl, rfl, hD, small w, ?_⟩⟩
        exact ⟨ds ++ [_], _, _, _, rfl, same_mut s no, by rw [upd_same, ← snoc_int], w.step hin (Int.emod_nonneg _ (by omega)) (Int.emod_lt_of_pos _ n0)⟩
      · rintro σ H2 ⟨ds, y1, y2, y3, rfl, s, hD, w⟩
        exact ⟨_, rfl, q ds H2 o w.full s no hD⟩
def sp__law_is_int : Sp := fun vs H Q _ => ∃ v : Int, vs = [.int v] ∧ Q (.bl true) H
theorem ok__law_is_int {f : Addr} {fd : FuncData} {C_Weighted C_Ratio C_BadNumber C_TooMany C_ZeroBottom C_BadLot C_Season C_ShelfError : Addr} (F : Fun K "_law_is_int" "_law_is_int" s__law_is_int f fd) (T : Txt K mg C_Weighted C_Ratio C_BadNumber C_TooMany C_ZeroBottom C_BadLot C_Season C_ShelfError) (m_bool : mg "bool" = none) (m_int : mg "int" = none) (m_isinstance : mg "isinstance" = none) : FnOk P w K mg base CX0 1 f fd ["_law_x"] sp__law_is_int := by
  refine F.ok sc__law_is_int (fun vs H Q E h => ?_) (fun cdv A outer s H vs Q E hr h => ?_)
  · obtain ⟨v, rfl, _⟩ := h
    rfl
  · obtain ⟨v, rfl, q⟩ := h
    refine ⟨_, (pss_one (ps_ret (pe_and (pe_callB call_isi (by rfl) m_isinstance (by decide +kernel) (pa_cons (pv 0) (pa_cons (pe_bltn (v := .ty "int") (by rfl) m_int (by decide +kernel) rfl) pa_nil))) (pe_one (pe_not (pe_callB call_isi (by rfl) m_isinstance (by decide +kernel) (pa_cons (pv 0) (pa_cons (pe_bltn (v := .ty "bool") (by rfl) m_bool (by decide +kernel) rfl) pa_nil)))))))), ?_⟩
    exact ⟨_, rfl, .int v, .ty "int", _, _, true, rfl, .ty "int", .base (.int v), kit_ty kI, true, rfl, iteT ⟨_, rfl, .int v, .ty "bool", _, _, false, rfl, .ty "bool", .base (.int v), kit_ty kB, false, rfl, q⟩⟩
def sp__law_same (C : Addr) : Sp := fun vs H Q _ => ∃ (p : Addr) (T B t b : Int), vs = [.ref p, .int t, .int b] ∧ RatAt C H p T B ∧ 0 < B ∧ T * b = t * B ∧ CMulW T b ∧ CMulW t B ∧ Q (.bl true) H
theorem ok__law_same {f : Addr} {fd : FuncData} {C_Weighted C_Ratio C_BadNumber C_TooMany C_ZeroBottom C_BadLot C_Season C_ShelfError : Addr} (F : Fun K "_law_same" "_law_same" s__law_same f fd) (T : Txt K mg C_Weighted C_Ratio C_BadNumber C_TooMany C_ZeroBottom C_BadLot C_Season C_ShelfError) (m_isinstance : mg "isinstance" = none) (c__law_is_int : Cal P w K mg base CX0 1 "_law_is_int" ["_law_x"] sp__law_is_int) : FnOk P w K mg base CX0 2 f fd ["_law_x", "_law_top", "_law_bottom"] (sp__law_same C_Ratio) := by
  refine F.ok sc__law_same (fun vs H Q E h => ?_) (fun cdv A outer s H vs Q E hr h => ?_)
  · obtain ⟨p, T1, B, t, b, rfl, _⟩ := h
    rfl
  · obtain ⟨p, T1, B, t, b, rfl, ⟨dx, hp⟩, pos, eq, m1, m2, q⟩ := h
    obtain ⟨f__law_is_int, fd__law_is_int, G__law_is_int, m__law_is_int, k__law_is_int, b__law_is_int⟩ := c__law_is_int
    refine ⟨_, (pss_cons (ps_if (pt_not (pt_val (pe_callB call_isi (by rfl) m_isinstance (by decide +kernel) (pa_cons (pv 0) (pa_cons (pe_glob (v := .ref C_Ratio) (by rfl) T.g_Ratio rfl) pa_nil))))) (pss_one (ps_ret pe_bl)) pss_nil)
      (pss_cons (ps_if (PW.pt (pw_or (pt_not (pt_val (pe_call G__law_is_int (hr.mono (by decide)) (by rfl) m__law_is_int k__law_is_int b__law_is_int .nil pass0 (pa_cons (pe_fld (pv 0) rfl) pa_nil)))) (pw_or (pt_not (pt_val (pe_call G__law_is_int (hr.mono (by decide)) (by rfl) m__law_is_int k__law_is_int b__law_is_int .nil pass0 (pa_cons (pe_fld (pv 0) rfl) pa_nil)))) (pw_or1 (pt_cmpR op_lt (pe_fld (pv 0) rfl) pe_int (nomark _)))))) (pss_one (ps_ret pe_bl)) pss_nil)
      (pss_one (ps_ret (pe_cmpR op_eq (pe_op op_mulW (pe_fld (pv 0) rfl) (pv 2)) (pe_op op_mulW (pv 1) (pe_fld (pv 0) rfl)) (nomark _)))))), ?_⟩
    refine ⟨.ref p, rfl, .ref p, .ref C_Ratio, .ref C_Ratio, .ref C_Ratio, true, rfl, .own C_Ratio, .base (.ins hp T.cl_Ratio T.ha_Ratio T.hnc T.htk T.hm_Ratio), T.kit_Ratio_Ratio, true, rfl, iteF ?_⟩
    refine ⟨.ref p, rfl, p, C_Ratio, dx, _, _, rfl, hp, T.cl_Ratio, T.n_Ratio_top, rF_top T1 B, T1, rfl, true, rfl, iteF ?_⟩
    refine ⟨.ref p, rfl, p, C_Ratio, dx, _, _, rfl, hp, T.cl_Ratio, T.n_Ratio_bottom, rF_bot T1 B, B, rfl, true, rfl, iteF ?_⟩
    refine ⟨.ref p, rfl, p, C_Ratio, dx, _, _, rfl, hp, T.cl_Ratio, T.n_Ratio_bottom, rF_bot T1 B, _, _, rfl, rfl, _, rfl, ?_⟩
    rw [decide_eq_false (show ¬ B < 1 by omega)]
    refine iteF ?_
    refine ⟨.ref p, rfl, p, C_Ratio, dx, _, _, rfl, hp, T.cl_Ratio, T.n_Ratio_top, rF_top T1 B, .int b, rfl, T1, b, rfl, rfl, m1, .int t, rfl, .ref p, rfl, p, C_Ratio, dx, _, _, rfl, hp, T.cl_Ratio, T.n_Ratio_bottom, rF_bot T1 B, t, B, rfl, rfl, m2, rfl, ?_⟩
    rw [decide_eq_true (congrArg V.int eq)]
    exact q
def sp__law_same_lot (K : PySem.W.Frag) : Sp := fun vs H Q _ => ∃ (a b : Addr) (ns : List Int), vs = [.ref a, .ref b] ∧ H a = some (.tup (ns.map V.int)) ∧ (SqL K H b (ns.map V.int) ∨ SqT K H b (ns.map V.int)) ∧ ns.length ≤ 1000 ∧ Q (.bl true) H
theorem ok__law_same_lot {f : Addr} {fd : FuncData} {C_Weighted C_Ratio C_BadNumber C_TooMany C_ZeroBottom C_BadLot C_Season C_ShelfError : Addr} (F : Fun K "_law_same_lot" "_law_same_lot" s__law_same_lot f fd) (T : Txt K mg C_Weighted C_Ratio C_BadNumber C_TooMany C_ZeroBottom C_BadLot C_Season C_ShelfError) (m_isinstance : mg "isinstance" = none) (m_len : mg "len" = none) (m_range : mg "range" = none) (m_tuple : mg "tuple" = none) (c__law_is_int : Cal P w K mg base CX0 1 "_law_is_int" ["_law_x"] sp__law_is_int) : FnOk P w K mg base CX0 2 f fd ["_law_x", "_law_due_here"] (sp__law_same_lot K) := by
  refine F.ok sc__law_same_lot (fun vs H Q E h => ?_) (fun cdv A outer s H vs Q E hr h => ?_)
  · obtain ⟨a, b, ns, rfl, _⟩ := h
    rfl
  · obtain ⟨a, b, ns, rfl, hA, hB, hlen, q⟩ := h
    obtain ⟨f__law_is_int, fd__law_is_int, G__law_is_int, m__law_is_int, k__law_is_int, b__law_is_int⟩ := c__law_is_int
    refine ⟨_, (pss_cons (ps_if (PW.pt (pw_or (pt_not (pt_val (pe_callB call_isi (by rfl) m_isinstance (by decide +kernel) (pa_cons (pv 0) (pa_cons (pe_bltn (v := .ty "tuple") (by rfl) m_tuple (by decide +kernel) rfl) pa_nil))))) (pw_or1 (pt_cmpR op_ne (pe_callB call_len_seq (by rfl) m_len (by decide +kernel) (pa_cons (pv 0) pa_nil)) (pe_callB call_len_seq (by rfl) m_len (by decide +kernel) (pa_cons (pv 1) pa_nil)) (nomark _))))) (pss_one (ps_ret pe_bl)) pss_nil)
      (pss_cons (ps_for PassesOwn.never rfl (pi_range1 (by rfl) m_range (pa_cons (pe_callB call_len_seq (by rfl) m_len (by decide +kernel) (pa_cons (pv 1) pa_nil)) pa_nil)) (pg_name (i := 2) sc__law_same_lot.nd rfl (Or.inl rfl))
      (pss_one (ps_if (PW.pt (pw_or (pt_not (pt_val (pe_call G__law_is_int (hr.mono (by decide)) (by rfl) m__law_is_int k__law_is_int b__law_is_int .nil pass0 (pa_cons (pe_ix ix_tup (pv 0) (pv 2) (fun _ _ => rfl)) pa_nil)))) (pw_or1 (pt_cmpR op_ne (pe_ix ix_tup (pv 0) (pv 2) (fun _ _ => rfl)) (pe_ix ix_seq (pv 1) (pv 2) (fun _ _ => rfl)) (nomark _))))) (pss_one (ps_ret pe_bl)) pss_nil)))
      (pss_one (ps_ret pe_bl)))), ?_⟩
    have hA' : SqT K H a (ns.map V.int) := tup_t hA
    rcases hB with hB | hB
    · refine ⟨_, rfl, .ref a, .ty "tuple", _, _, true, rfl, .ty "tuple", .base (.tup hA), kit_ty kT, true, rfl, iteF ?_⟩
      refine ⟨.ref a, rfl, a, _, rfl, .inr hA', .ref b, rfl, b, _, rfl, .inl hB, rfl, _, rfl, iteNS rfl ?_⟩
      refine ⟨.ref b, rfl, b, _, rfl, .inl hB, _, rfl, ?_⟩
      rw [List.length_map]
      refine ⟨by omega, by omega, ?_⟩
      rw [Int.toNat_natCast]
      refine for_range (lo := 0) (n := ns.length) (fun i σ H2 => ∃ (y : Option V), σ = [some (.ref a), some (.ref b), y] ∧ H2 = H) ⟨none, rfl, rfl⟩ ?_ ?_
      · rintro i σ H2 hi ⟨y, rfl, rfl⟩
        have hin : (ns.map V.int)[i]? = some (.int ns[i]) := int_at (List.getElem?_eq_getElem hi)
        refine ⟨.ref a, rfl, .int (0 + (i : Int)), rfl, a, _, _, _, rfl, rfl, hA', at_of (Int.zero_add _) hin, ns[i], rfl, true, rfl, iteF ?_⟩
        refine ⟨.ref a, rfl, .int (0 + (i : Int)), rfl, a, _, _, _, rfl, rfl, hA', at_of (Int.zero_add _) hin, .ref b, rfl, .int (0 + (i : Int)), rfl, .inl ⟨b, _, _, _, rfl, rfl, hB, at_of (Int.zero_add _) hin, rfl, _, rfl, iteNS rfl ?_⟩⟩
        exact ⟨_, rfl, rfl⟩
      · rintro σ H2 ⟨y, rfl, rfl⟩
        exact q
    · refine ⟨_, rfl, .ref a, .ty "tuple", _, _, true, rfl, .ty "tuple", .base (.tup hA), kit_ty kT, true, rfl, iteF ?_⟩
      refine ⟨.ref a, rfl, a, _, rfl, .inr hA', .ref b, rfl, b, _, rfl, .inr hB, rfl, _, rfl, iteNS rfl ?_⟩
      refine ⟨.ref b, rfl, b, _, rfl, .inr hB, _, rfl, ?_⟩
      rw [List.length_map]
      refine ⟨by omega, by omega, ?_⟩
      rw [Int.toNat_natCast]
      refine for_range (lo := 0) (n := ns.length) (fun i σ H2 => ∃ (y : Option V), σ = [some (.ref a), some (.ref b), y] ∧ H2 = H) ⟨none, rfl, rfl⟩ ?_ ?_
      · rintro i σ H2 hi ⟨y, rfl, rfl⟩
        have hin : (ns.map V.int)[i]? = some (.int ns[i]) := int_at (List.getElem?_eq_getElem hi)
        refine ⟨.ref a, rfl, .int (0 + (i : Int)), rfl, a, _, _, _, rfl, rfl, hA', at_of (Int.zero_add _) hin, ns[i], rfl, true, rfl, iteF ?_⟩
        refine ⟨.ref a, rfl, .int (0 + (i : Int)), rfl, a, _, _, _, rfl, rfl, hA', at_of (Int.zero_add _) hin, .ref b, rfl, .int (0 + (i : Int)), rfl, .inr <| .inl ⟨b, _, _, _, rfl, rfl, hB, at_of (Int.zero_add _) hin, rfl, _, rfl, iteNS rfl ?_⟩⟩
        exact ⟨_, rfl, rfl⟩
      · rintro σ H2 ⟨y, rfl, rfl⟩
        exact q
def sp__law_refused : Sp := fun vs H Q _ => ∃ (t u : Addr) (wh : Str) (x : V), vs = [.ref t, .ref u] ∧ H t = some (.tup [.str "number", .str wh, x]) ∧ H u = some (.tup [.str "number", .str wh, x]) ∧ (x = .non ∨ ∃ n, x = .int n) ∧ Q (.bl true) H
theorem ok__law_refused {f : Addr} {fd : FuncData} {C_Weighted C_Ratio C_BadNumber C_TooMany C_ZeroBottom C_BadLot C_Season C_ShelfError : Addr} (F : Fun K "_law_refused" "_law_refused" s__law_refused f fd) (T : Txt K mg C_Weighted C_Ratio C_BadNumber C_TooMany C_ZeroBottom C_BadLot C_Season C_ShelfError) (m_isinstance : mg "isinstance" = none) (m_len : mg "len" = none) (m_range : mg "range" = none) (m_str : mg "str" = none) (c__law_is_int : Cal P w K mg base CX0 1 "_law_is_int" ["_law_x"] sp__law_is_int) : FnOk P w K mg base CX0 2 f fd ["_law_answer", "_law_due_here"] (sp__law_refused) := by
  refine F.ok sc__law_refused (fun vs H Q E h => ?_) (fun cdv A outer s H vs Q E hr h => ?_)
  · obtain ⟨t, u, wh, x, rfl, _⟩ := h
    rfl
  · obtain ⟨t, u, wh, x, rfl, ht, hu, hx, q⟩ := h
    obtain ⟨f__law_is_int, fd__law_is_int, G__law_is_int, m__law_is_int, k__law_is_int, b__law_is_int⟩ := c__law_is_int
    refine ⟨_, (pss_cons (ps_if (pt_cmpR op_ne (pe_callB call_len_seq (by rfl) m_len (by decide +kernel) (pa_cons (pv 0) pa_nil)) (pe_callB call_len_seq (by rfl) m_len (by decide +kernel) (pa_cons (pv 1) pa_nil)) (nomark _)) (pss_one (ps_ret pe_bl)) pss_nil)
      (pss_cons (ps_for PassesOwn.never rfl (pi_range1 (by rfl) m_range (pa_cons (pe_callB call_len_seq (by rfl) m_len (by decide +kernel) (pa_cons (pv 1) pa_nil)) pa_nil)) (pg_name (i := 2) sc__law_refused.nd rfl (Or.inl rfl))
      (pss_one (ps_if (pt_cmpR op_isN (pe_ix ix_tup (pv 1) (pv 2) (fun _ _ => rfl)) pe_non (nomark _)) (pss_one (ps_if (pt_cmpR op_notN (pe_ix ix_tup (pv 0) (pv 2) (fun _ _ => rfl)) pe_non (nomark _)) (pss_one (ps_ret pe_bl)) pss_nil)) (pss_one (ps_if (pt_val (pe_callB call_isi (by rfl) m_isinstance (by decide +kernel) (pa_cons (pe_ix ix_tup (pv 1) (pv 2) (fun _ _ => rfl)) (pa_cons (pe_bltn (v := .ty "str") (by rfl) m_str (by decide +kernel) rfl) pa_nil)))) (pss_one (ps_if (PW.pt (pw_or (pt_not (pt_val (pe_callB call_isi (by rfl) m_isinstance (by decide +kernel) (pa_cons (pe_ix ix_tup (pv 0) (pv 2) (fun _ _ => rfl)) (pa_cons (pe_bltn (v := .ty "str") (by rfl) m_str (by decide +kernel) rfl) pa_nil))))) (pw_or1 (pt_cmpR op_ne (pe_ix ix_tup (pv 0) (pv 2) (fun _ _ => rfl)) (pe_ix ix_tup (pv 1) (pv 2) (fun _ _ => rfl)) (nomark _))))) (pss_one (ps_ret pe_bl)) pss_nil)) (pss_one (ps_if (PW.pt (pw_or (pt_not (pt_val (pe_call G__law_is_int (hr.mono (by decide)) (by rfl) m__law_is_int k__law_is_int b__law_is_int .nil pass0 (pa_cons (pe_ix ix_tup (pv 0) (pv 2) (fun _ _ => rfl)) pa_nil)))) (pw_or1 (pt_cmpR op_ne (pe_ix ix_tup (pv 0) (pv 2) (fun _ _ => rfl)) (pe_ix ix_tup (pv 1) (pv 2) (fun _ _ => rfl)) (nomark _))))) (pss_one (ps_ret pe_bl)) pss_nil)))))))
      (pss_one (ps_ret pe_bl)))), ?_⟩
    have kd : ∀ (i : Nat) (v : V), [V.str "number", .str wh, x][i]? = some v → (∃ s, v = .str s) ∨ v = .non ∨ ∃ n, v = .int n := fun i v e => by
      rcases (by omega : i = 0 ∨ i = 1 ∨ i = 2 ∨ 3 ≤ i) with rfl | rfl | rfl | h
      · exact .inl ⟨_, (Option.some.inj e).symm⟩
      · exact .inl ⟨_, (Option.some.inj e).symm⟩
      · obtain rfl := Option.some.inj e
        exact .inr hx
      · rw [List.getElem?_eq_none (by show 3 ≤ i; exact h)] at e
        cases e
    refine ⟨.ref t, rfl, t, _, rfl, .inr (tup_t ht), .ref u, rfl, u, _, rfl, .inr (tup_t hu), rfl, _, rfl, iteNS rfl ?_⟩
    refine ⟨.ref u, rfl, u, _, rfl, .inr (tup_t hu), _, rfl, (by show -2 ^ 62 ≤ ((3 : Nat) : Int); decide), (by show ((3 : Nat) : Int) < 2 ^ 62; decide), ?_⟩
    refine for_range (lo := 0) (n := 3) (fun i σ H2 => ∃ (y : Option V), σ = [some (.ref t), some (.ref u), y] ∧ H2 = H) ⟨none, rfl, rfl⟩ ?_ ?_
    · rintro i σ H2 hi ⟨y, rfl, rfl⟩
      obtain ⟨v, g⟩ : ∃ v, [V.str "number", .str wh, x][i]? = some v := ⟨_, List.getElem?_eq_getElem (by show i < 3; exact hi)⟩
      rcases kd i v g with ⟨s, rfl⟩ | rfl | ⟨n, rfl⟩
      · refine ⟨.ref u, rfl, .int (0 + (i : Int)), rfl, u, _, _, _, rfl, rfl, tup_t hu, at_of (Int.zero_add _) g, rfl, _, rfl, iteDF (fun z => by cases z) ?_⟩
        refine ⟨.ref u, rfl, .int (0 + (i : Int)), rfl, u, _, _, _, rfl, rfl, tup_t hu, at_of (Int.zero_add _) g, .str s, .ty "str", _, _, true, rfl, .ty "str", .base (.str _), kit_ty kSt, true, rfl, iteT ?_⟩
        refine ⟨.ref t, rfl, .int (0 + (i : Int)), rfl, t, _, _, _, rfl, rfl, tup_t ht, at_of (Int.zero_add _) g, .str s, .ty "str", _, _, true, rfl, .ty "str", .base (.str _), kit_ty kSt, true, rfl, iteF ?_⟩
        exact ⟨.ref t, rfl, .int (0 + (i : Int)), rfl, t, _, _, _, rfl, rfl, tup_t ht, at_of (Int.zero_add _) g, .ref u, rfl, .int (0 + (i : Int)), rfl, u, _, _, _, rfl, rfl, tup_t hu, at_of (Int.zero_add _) g, rfl, _, rfl, iteNS rfl ⟨_, rfl, rfl⟩⟩
      · refine ⟨.ref u, rfl, .int (0 + (i : Int)), rfl, u, _, _, _, rfl, rfl, tup_t hu, at_of (Int.zero_add _) g, rfl, _, rfl, iteD rfl ?_⟩
        exact ⟨.ref t, rfl, .int (0 + (i : Int)), rfl, t, _, _, _, rfl, rfl, tup_t ht, at_of (Int.zero_add _) g, rfl, _, rfl, iteNS rfl ⟨_, rfl, rfl⟩⟩
      · refine ⟨.ref u, rfl, .int (0 + (i : Int)), rfl, u, _, _, _, rfl, rfl, tup_t hu, at_of (Int.zero_add _) g, rfl, _, rfl, iteDF (fun z => by cases z) ?_⟩
        refine ⟨.ref u, rfl, .int (0 + (i : Int)), rfl, u, _, _, _, rfl, rfl, tup_t hu, at_of (Int.zero_add _) g, .int n, .ty "str", _, _, false, rfl, .ty "str", .base (.int _), kit_ty kIS, false, rfl, iteF ?_⟩
        refine ⟨.ref t, rfl, .int (0 + (i : Int)), rfl, t, _, _, _, rfl, rfl, tup_t ht, at_of (Int.zero_add _) g, n, rfl, true, rfl, iteF ?_⟩
        exact ⟨.ref t, rfl, .int (0 + (i : Int)), rfl, t, _, _, _, rfl, rfl, tup_t ht, at_of (Int.zero_add _) g, .ref u, rfl, .int (0 + (i : Int)), rfl, u, _, _, _, rfl, rfl, tup_t hu, at_of (Int.zero_add _) g, rfl, _, rfl, iteNS rfl ⟨_, rfl, rfl⟩⟩
    · rintro σ H2 ⟨y, rfl, rfl⟩
      exact q
def sp__law_near_or_far : Sp := fun vs H Q _ => ∃ (k n s f : Int), vs = [.int k, .int n, .int s, .int f] ∧ ∀ v : Int, Q (.int v) H
theorem ok__law_near_or_far {f : Addr} {fd : FuncData} {C_Weighted C_Ratio C_BadNumber C_TooMany C_ZeroBottom C_BadLot C_Season C_ShelfError : Addr} (F : Fun K "_law_near_or_far" "_law_near_or_far" s__law_near_or_far f fd) (T : Txt K mg C_Weighted C_Ratio C_BadNumber C_TooMany C_ZeroBottom C_BadLot C_Season C_ShelfError) : FnOk P w K mg base CX0 1 f fd ["_law_kind", "_law_near", "_law_sign", "_law_far"] (sp__law_near_or_far) := by
  refine F.ok sc__law_near_or_far (fun vs H Q E h => ?_) (fun cdv A outer s H vs Q E hr h => ?_)
  · obtain ⟨k, n, s, f9, rfl, _⟩ := h
    rfl
  · obtain ⟨k, n, s, f9, rfl, q⟩ := h
    refine ⟨_, (pss_cons (ps_if (pt_cmpR op_lt (pv 0) pe_int (nomark _)) (pss_one (ps_ret (pe_op op_sub (pv 1) pe_int))) pss_nil)
      (pss_cons (ps_if (pt_cmpR op_eq (pv 2) pe_int (nomark _)) (pss_one (ps_ret (pe_un un_neg (pv 3)))) pss_nil)
      (pss_one (ps_ret (pv 3))))), ?_⟩
    refine ⟨_, rfl, _, _, rfl, rfl, _, rfl, ite2 (fun _ => ?_) (fun _ => ?_)⟩
    · exact ⟨_, rfl, _, _, rfl, rfl, q _⟩
    refine ⟨_, rfl, rfl, _, rfl, ite2 (fun _ => ?_) (fun _ => ?_)⟩
    · exact ⟨_, rfl, _, rfl, q _⟩
    · exact ⟨_, rfl, q _⟩
def sp__law_prices : Sp := fun vs H Q _ => ∃ (w a b : Int) (l r : Addr) (rs : List Int), vs = [.int w, .ref l, .ref r] ∧ H l = some (.lst ([a, b].map V.int)) ∧ H r = some (.lst (rs.map V.int)) ∧ rs.length ≤ 3 ∧ 0 ≤ a ∧ 0 ≤ b ∧ (∀ p ∈ rs, p ≤ 10 ^ 18) ∧ ∀ H' P (ps : List Int), Same H H' → H P = none → H' P = some (.lst (ps.map V.int)) → ps.length ≤ 4 → (∀ p ∈ ps, p ≤ 10 ^ 18) → Q (.ref P) H'
theorem ok__law_prices {f : Addr} {fd : FuncData} {C_Weighted C_Ratio C_BadNumber C_TooMany C_ZeroBottom C_BadLot C_Season C_ShelfError : Addr} (F : Fun K "_law_prices" "_law_prices" s__law_prices f fd) (T : Txt K mg C_Weighted C_Ratio C_BadNumber C_TooMany C_ZeroBottom C_BadLot C_Season C_ShelfError) (m_int : mg "int" = none) (m_len : mg "len" = none) (m_list : mg "list" = none) : FnOk P w K mg base CX0 1 f fd ["_law_way", "_law_places", "_law_row"] (sp__law_prices) := by
  refine F.ok sc__law_prices (fun vs H Q E h => ?_) (fun cdv A outer s H vs Q E hr h => ?_)
  · obtain ⟨w, a, b, l, r, rs, rfl, _⟩ := h
    rfl
  · obtain ⟨w, a, b, l, r, rs, rfl, hl, hr, lr, a0, b0, br, q⟩ := h
    refine ⟨_, (pss_cons (ps_set (i := 3) sc__law_prices.nd rfl (Or.inl rfl) (pe_callTy call_list_of (by rfl) m_list (by decide +kernel) (pa_cons (pv 2) pa_nil)))
      (Evl.pss_cut (ps_if (PW.pt (pw_or (pt_cmpR op_eq (pv 0) pe_int (nomark _)) (pw_or1 (PW.pt (pw_and (pt_cmpR op_eq (pv 0) pe_int (nomark _)) (pw_and1 (pt_cmpR op_eq (pe_callB call_len_seq (by rfl) m_len (by decide +kernel) (pa_cons (pv 2) pa_nil)) pe_int (nomark _)))))))) (pss_one (ps_expr (pe_bm PySem.F.plainAttrs_list PySem.F.slot_list_append PySem.F.type_list_append mt_append (pv 3) (pa_cons pe_int pa_nil)))) (pss_one (ps_if (pt_cmpR op_eq (pv 0) pe_int (nomark _)) (pss_one (ps_expr (pe_bm0 PySem.F.plainAttrs_list PySem.F.slot_list_pop PySem.F.type_list_pop mt_pop (pv 3)))) (pss_one (ps_if (PW.pt (pw_and (pt_cmpR op_eq (pv 0) pe_int (nomark _)) (pw_and1 (pt_cmpR op_gt (pe_callB call_len_seq (by rfl) m_len (by decide +kernel) (pa_cons (pv 2) pa_nil)) pe_int (nomark _))))) (pss_one (ps_for PassesOwn.never rfl (pi_list (pv 1)) (pg_name (i := 4) sc__law_prices.nd rfl (Or.inl rfl))
      (pss_one (ps_asg (pe_op op_sub (pe_un un_neg pe_int) (pv 4)) (pg_sub (pv 3) (pe_op op_mod (pe_callTy call_int1 (by rfl) m_int (by decide +kernel) (pa_cons (pv 4) pa_nil)) (pe_callB call_len_seq (by rfl) m_len (by decide +kernel) (pa_cons (pv 2) pa_nil))) set_list))))) pss_nil)))))
      (pss_one (ps_ret (pv 3))))), ?_⟩
    refine ⟨.ref r, rfl, r, _, rfl, .inl (lst_l hr), fun P nP => ?_⟩
    have s1 := same_upd (o := .lst (rs.map V.int)) nP
    have hP := upd_same (H := H) (a := P) (o := HO.lst (rs.map V.int))
    generalize upd H P (.lst (rs.map V.int)) = H1 at s1 hP ⊢
    refine ⟨fun σ' H' => ∃ ps : List Int, Same H H' ∧ H' P = some (.lst (ps.map V.int)) ∧ ps.length ≤ 4 ∧ (∀ p ∈ ps, p ≤ 10 ^ 18) ∧ ∃ y, σ' = [some (.int w), some (.ref l), some (.ref r), some (.ref P), y], ?_, ?_⟩
    · have nrP : r ≠ P := fun z => by
        rw [z, nP] at hr
        cases hr
      have hr1 := s1 _ _ hr
      have ll : (rs.map V.int).length = rs.length := List.length_map ..
      refine ⟨_, rfl, rfl, _, rfl, ite2 (fun _ => iteT ⟨.ref P, rfl, .inl ⟨rfl, _, lst_l hP⟩, P, _, _, rfl, rfl, hP, by rw [List.length_map]; exact small1000 (by omega), rs ++ [3], same_mut s1 nP, by rw [upd_same, ← snoc_int], by rw [List.length_append]; show rs.length + 1 ≤ 4; omega, fun p hp => by
        rcases List.mem_append.mp hp with hp | hp
        · exact br p hp
        · rw [List.mem_singleton.mp hp]
          decide, _, rfl⟩) (fun _ => ⟨_, rfl, rfl, _, rfl, ite2 (fun e6 => ⟨.ref r, rfl, r, _, rfl, .inl (lst_l hr1), rfl, _, rfl, ite2 (fun _ => ⟨.ref P, rfl, .inl ⟨rfl, _, lst_l hP⟩, P, _, _, rfl, rfl, hP, by rw [List.length_map]; exact small1000 (by omega), rs ++ [3], same_mut s1 nP, by rw [upd_same, ← snoc_int], by rw [List.length_append]; show rs.length + 1 ≤ 4; omega, fun p hp => by
        rcases List.mem_append.mp hp with hp | hp
        · exact br p hp
        · rw [List.mem_singleton.mp hp]
          decide, _, rfl⟩) (fun z0 => ⟨_, rfl, rfl, _, rfl, ite2 (fun _ => ?_) (fun n6 => absurd e6 n6)⟩)⟩) (fun n6 => iteF ⟨_, rfl, rfl, _, rfl, ite2 (fun e6 => absurd e6 n6) (fun _ => ?_)⟩)⟩)⟩
      · have lt : 0 < rs.length := by
          rcases Nat.eq_zero_or_pos rs.length with h | h
          · exact absurd (decide_eq_true (by rw [ll, h]; rfl)) z0
          · exact h
        refine ⟨.ref P, rfl, .inl ⟨rfl, _, lst_l hP⟩, P, _, .int rs[rs.length - 1], rfl, rfl, hP, ?_, rs.dropLast, same_mut s1 nP, by rw [upd_same, List.map_dropLast], ?_, fun p hp => br p (by
          rw [List.dropLast_eq_take] at hp
          exact List.mem_of_mem_take hp), _, rfl⟩
        · rw [List.length_map]
          exact int_at (List.getElem?_eq_getElem (by omega))
        · rw [List.length_dropLast]
          omega
      refine ⟨_, rfl, rfl, _, rfl, ite2 (fun _ => ⟨.ref r, rfl, r, _, rfl, .inl (lst_l hr1), _, _, rfl, rfl, _, rfl, ite2 (fun pos => ?_) (fun _ => ⟨rs, s1, hP, by omega, br, _, rfl⟩)⟩) (fun _ => iteF ⟨rs, s1, hP, by omega, br, _, rfl⟩)⟩
      have pos : 0 < ((rs.map V.int).length : Int) := of_decide_eq_true pos
      have hl1 := s1 _ _ hl
      refine ⟨.ref l, rfl, l, rfl, ⟨_, lst_l hl1⟩, for_list (K := K) (a := l) (xs := [a, b].map V.int) (fun i σ H3 => ∃ (ps : List Int) (y : Option V), σ = [some (.int w), some (.ref l), some (.ref r), some (.ref P), y] ∧ Same H H3 ∧ H3 P = some (.lst (ps.map V.int)) ∧ ps.length = rs.length ∧ ∀ p ∈ ps, p ≤ 10 ^ 18) ⟨rs, none, rfl, s1, hP, rfl, br⟩ (fun i H3 σ _ ⟨_, _, _, s, _⟩ => lst_l (s _ _ hl)) ?_ ?_⟩
      · rintro i x σ H3 hi ⟨ps, y, rfl, s3, hP3, lp, bp⟩
        obtain ⟨n, rfl, hin⟩ := int_of hi
        have n0 : 0 ≤ n := by
          rcases List.mem_cons.mp (List.mem_of_getElem? hin) with rfl | h
          · exact a0
          · rw [List.mem_singleton.mp h]
            exact b0
        have j0 := Int.emod_nonneg n (show ((rs.map V.int).length : Int) ≠ 0 by omega)
        have j1 := Int.emod_lt_of_pos n pos
        refine ⟨1, rfl, _, rfl, _, _, rfl, rfl, _, rfl, _, rfl, .inl ⟨n, rfl, .ref r, rfl, r, _, rfl, .inl (lst_l (s3 _ _ hr)), _, _, rfl, rfl, pos, P, _, _, (n % ((rs.map V.int).length : Int)).toNat, rfl, rfl, hP3, ?_, ?_⟩⟩
        · unfold ixN
          rw [if_pos j0, if_pos (by rw [List.length_map (as := ps)]; omega)]
        · refine ⟨ps.set (n % ((rs.map V.int).length : Int)).toNat (-1 - n), _, rfl, same_mut s3 nP, by rw [upd_same, List.map_set], by rw [List.length_set]; exact lp, fun p hp => ?_⟩
          rcases List.mem_or_eq_of_mem_set hp with hp | rfl
          · exact bp p hp
          · omega
      · rintro σ H3 ⟨ps, y, rfl, s3, hP3, lp, bp⟩
        exact ⟨ps, s3, hP3, by omega, bp, _, rfl⟩
    rintro σ' H2 ⟨ps, s2, hP2, lp, bp, y, rfl⟩
    exact ⟨_, rfl, q H2 P ps s2 nP hP2 lp bp⟩
def sp__law_due : Sp := fun vs H Q _ => ∃ (P : Addr) (ps : List Int) (m : Nat) (s n : Int), vs = [.ref P, .int (m : Int), .int s, .int n] ∧ H P = some (.lst (ps.map V.int)) ∧ m ≤ 900 ∧ ∀ H' u, Same H H' → H' u = some (.tup (dueT (dueS ps m s n))) → Q (.ref u) H'
theorem ok__law_due {f : Addr} {fd : FuncData} {C_Weighted C_Ratio C_BadNumber C_TooMany C_ZeroBottom C_BadLot C_Season C_ShelfError : Addr} (F : Fun K "_law_due" "_law_due" s__law_due f fd) (T : Txt K mg C_Weighted C_Ratio C_BadNumber C_TooMany C_ZeroBottom C_BadLot C_Season C_ShelfError) (m_len : mg "len" = none) (m_range : mg "range" = none) : FnOk P w K mg base CX0 1 f fd ["_law_prices_here", "_law_many", "_law_chairs", "_law_come"] (sp__law_due) := by
  refine F.ok sc__law_due (fun vs H Q E h => ?_) (fun cdv A outer s H vs Q E hr h => ?_)
  · obtain ⟨P, ps, m, s, n, rfl, _⟩ := h
    rfl
  · obtain ⟨P, ps, m, s, n, rfl, hP, hm, q⟩ := h
    refine ⟨_, (pss_cons (ps_if (pt_cmpR op_ne (pe_callB call_len_seq (by rfl) m_len (by decide +kernel) (pa_cons (pv 0) pa_nil)) (pv 1) (nomark _)) (pss_one (ps_ret (pe_tup (pa_cons pe_str (pa_cons pe_str (pa_cons pe_non pa_nil)))))) pss_nil)
      (pss_cons (ps_for PassesOwn.never rfl (pi_range1 (by rfl) m_range (pa_cons (pv 1) pa_nil)) (pg_name (i := 4) sc__law_due.nd rfl (Or.inl rfl))
      (pss_one (ps_if (pt_cmpR op_lt (pe_ix ix_list (pv 0) (pv 4) (fun _ _ => rfl)) pe_int (nomark _)) (pss_one (ps_ret (pe_tup (pa_cons pe_str (pa_cons pe_str (pa_cons (pv 4) pa_nil)))))) pss_nil)))
      (pss_cons (ps_if (PW.pt (pw_or (pt_cmpR op_lt (pv 2) pe_int (nomark _)) (pw_or1 (pt_cmpR op_gt (pv 2) pe_int (nomark _))))) (pss_one (ps_ret (pe_tup (pa_cons pe_str (pa_cons pe_str (pa_cons pe_non pa_nil)))))) pss_nil)
      (pss_cons (ps_if (PW.pt (pw_or (pt_cmpR op_lt (pv 3) pe_int (nomark _)) (pw_or1 (pt_cmpR op_gt (pv 3) pe_int (nomark _))))) (pss_one (ps_ret (pe_tup (pa_cons pe_str (pa_cons pe_str (pa_cons pe_non pa_nil)))))) pss_nil)
      (pss_one (ps_ret (pe_tup (pa_cons pe_str pa_nil)))))))), ?_⟩
    refine ⟨_, rfl, P, _, rfl, .inl (lst_l hP), _, rfl, rfl, _, rfl, ?_⟩
    rw [List.length_map]
    refine ite2N (fun e => ?_) (fun e => ?_)
    · have e : ¬ ps.length = m := fun z => e (by rw [z])
      rw [dueS_len e] at q
      exact ⟨(by show 3 ≤ sizeLine; decide), fun u nu => q _ u (same_upd nu) upd_same⟩
    have e : ps.length = m := by
      have := V.int.inj e
      omega
    refine ⟨_, rfl, _, rfl, by omega, by omega, ?_⟩
    rw [Int.toNat_natCast]
    refine for_range (lo := 0) (n := m) (fun i σ H2 => ∃ (y : Option V), σ = [some (.ref P), some (.int (m : Int)), some (.int s), some (.int n), y] ∧ H2 = H ∧ negAt ps 0 = negAt (ps.drop i) i) ⟨none, rfl, rfl, rfl⟩ ?_ ?_
    · rintro i σ H2 hi ⟨y, rfl, rfl, hb⟩
      have lt : i < ps.length := by omega
      have hin : ps[i]? = some ps[i] := List.getElem?_eq_getElem lt
      have hd : ps.drop i = ps[i] :: ps.drop (i + 1) := List.drop_eq_getElem_cons lt
      refine ⟨_, rfl, _, rfl, P, _, _, _, rfl, rfl, lst_l hP, at_of (Int.zero_add _) (int_at hin), _, _, rfl, rfl, _, rfl, ite2 (fun c => ?_) (fun c => ?_)⟩
      · have hk : negAt ps 0 = some i := by
          rw [hb, hd]
          exact if_pos (of_decide_eq_true c)
        rw [dueS_neg e hk] at q
        rw [Int.zero_add]
        exact ⟨_, rfl, (by show 3 ≤ sizeLine; decide), fun u nu => q _ u (same_upd nu) upd_same⟩
      · refine ⟨_, rfl, rfl, ?_⟩
        rw [hb, hd]
        exact if_neg fun z => c (decide_eq_true z)
    · rintro σ H2 ⟨y, rfl, rfl, hb⟩
      rw [← e, List.drop_length] at hb
      have hb : negAt ps 0 = none := hb
      have RET : ∀ {w a}, dueS ps m s n = some (w, a) → ∀ H' u, Same H2 H' → H' u = some (.tup [.str "number", .str w, a]) → Q (.ref u) H' := fun e H' u s h => q H' u s (by rw [e]; exact h)
      refine ⟨_, rfl, _, _, rfl, rfl, _, rfl, ite2 (fun c => iteT ?_) (fun c => ⟨_, rfl, _, _, rfl, rfl, _, rfl, ite2 (fun c2 => ?_) (fun c2 => ?_)⟩)⟩
      · exact ⟨(by show 3 ≤ sizeLine; decide), fun u nu => RET (dueS_s e hb (.inl (of_decide_eq_true c))) _ u (same_upd nu) upd_same⟩
      · exact ⟨(by show 3 ≤ sizeLine; decide), fun u nu => RET (dueS_s e hb (.inr (of_decide_eq_true c2))) _ u (same_upd nu) upd_same⟩
      have c : ¬ s < 0 := fun z => c (decide_eq_true z)
      have c2 : ¬ s > 12 := fun z => c2 (decide_eq_true z)
      refine ⟨_, rfl, _, _, rfl, rfl, _, rfl, ite2 (fun c3 => iteT ?_) (fun c3 => ⟨_, rfl, _, _, rfl, rfl, _, rfl, ite2 (fun c4 => ?_) (fun c4 => ?_)⟩)⟩
      · exact ⟨(by show 3 ≤ sizeLine; decide), fun u nu => RET (dueS_n e hb (by omega) (.inl (of_decide_eq_true c3))) _ u (same_upd nu) upd_same⟩
      · exact ⟨(by show 3 ≤ sizeLine; decide), fun u nu => RET (dueS_n e hb (by omega) (.inr (of_decide_eq_true c4))) _ u (same_upd nu) upd_same⟩
      have c3 : ¬ n < 0 := fun z => c3 (decide_eq_true z)
      have c4 : ¬ n > 12 := fun z => c4 (decide_eq_true z)
      rw [dueS_no e hb (by omega) (by omega)] at q
      exact ⟨(by show 1 ≤ sizeLine; decide), fun u nu => q _ u (same_upd nu) upd_same⟩
def sp__law_opened (CS CR CW : Addr) : Sp := fun vs H Q _ => ∃ (r dr tr P : Addr) (ws ps : List Int) (a s n : Int), vs = [.ref r, .ref P, .int s, .int n] ∧ WAt CW H r dr tr ws a ∧ H P = some (.lst (ps.map V.int)) ∧ Fine ws a ps ∧ ws.length ≤ 4 ∧ ps.length ≤ 1000 ∧ (∀ wh at_, dueS ps ws.length s n = some (wh, at_) → ∀ H' u, Same H H' → H' u = some (.tup [.str "number", .str wh, at_]) → Q (.ref u) H') ∧
  (dueS ps ws.length s n = none → ∀ (S N : Nat), s = (S : Int) → n = (N : Int) → S ≤ 12 → N ≤ 12 → FineS ws a ps → ∀ H' u x cx tp L D X, Same H H' → H' u = some (.tup [.str "made", .ref x]) → SeaAt CS CR CW H' x cx r dr tr tp L ws a ps S N D X → Q (.ref u) H')
theorem ok__law_opened {f : Addr} {fd : FuncData} {C_Weighted C_Ratio C_BadNumber C_TooMany C_ZeroBottom C_BadLot C_Season C_ShelfError : Addr} (F : Fun K "_law_opened" "_law_opened" s__law_opened f fd) (T : Txt K mg C_Weighted C_Ratio C_BadNumber C_TooMany C_ZeroBottom C_BadLot C_Season C_ShelfError) (c_Season___init__ : ∃ (f : Addr) (fd : FuncData), FnOk P w K mg base (L2.CX P w) 8 f fd ["self", "rule", "prices", "seats", "buyers"] (sp_Season___init__ C_Season C_Ratio C_Weighted C_BadNumber) ∧ Mk K C_Season f ∧ KBn K fd ["self", "rule", "prices", "seats", "buyers"] 3 ["seats", "buyers"] (fun us ws => us ++ ws) (fun vs zs => vs ++ zs)) : FnOk P w K mg base CX0 10 f fd ["_law_rule", "_law_prices_here", "_law_chairs", "_law_come"] (sp__law_opened C_Season C_Ratio C_Weighted) := by
  refine F.ok sc__law_opened (fun vs H Q E h => ?_) (fun cdv A outer s H vs Q E hr h => ?_)
  · obtain ⟨r, dr, tr, P, ws, ps, a, s, n, rfl, _⟩ := h
    rfl
  · obtain ⟨r, dr, tr, P, ws, ps, a, s, n, rfl, w, hP, fi, w4, pl, kE, q⟩ := h
    obtain ⟨f_Season___init__, fd_Season___init__, G_Season___init__, M_Season___init__, kb_Season___init__⟩ := c_Season___init__
    refine ⟨_, (pss_one (ps_try_as (i := 4) (Wout := fun _ _ _ _ => False) rfl rfl sc__law_opened.nd rfl rfl ⟨rfl, by decide, Or.inl T.g_BadNumber⟩ takes0
      (fun W pn xe tk _ => (pss_one (ps_ret (pe_tup (pa_cons pe_str (pa_cons (pe_mkKey (np := 2) M_Season___init__ G_Season___init__ (hr.mono (by decide)) (by rfl) T.g_Season kb_Season___init__ (fun σ => passAt tk σ) (pa_cons (pv 0) (pa_cons (pv 1) pa_nil)) (pk_cons (pv 2) (pk_cons (pv 3) pk_nil))) pa_nil))))))
      (fun a oe cls d pn hz hf => (pss_one (ps_ret (pe_tup (pa_cons pe_str (pa_cons (pe_xf T.xf_BadNumber T.n_BadNumber_what hz hf (pv 4)) (pa_cons (pe_xf T.xf_BadNumber T.n_BadNumber_at hz hf (pv 4)) pa_nil))))))))), ?_⟩
    have wl := fi.wl
    cases hdue : dueS ps ws.length s n with
    | some wa =>
      refine ⟨_, rfl, _, rfl, _, rfl, _, rfl, rfl, rfl, fun x dx nx nd ne => ?_⟩
      have s0 : Same H (upd (upd H dx (.own x)) x (.ins C_Season dx [])) := fun b o e => by
        rw [upd_ne (ne_of_none e nx), upd_ne (ne_of_none e nd)]
        exact e
      refine .inr ⟨x, dx, r, dr, tr, P, ws, ps, a, s, n, rfl, upd_same, w.same s0, s0 _ _ hP, pl, wl, by rw [hdue]; exact Option.some_ne_none _, fun wh at_ e H' d sx hd => ?_⟩
      have kE := kE wh at_ e
      have sd := sameX_made nx nd sx
      exact ⟨true, T.exm_BadNumber_BadNumber, fun _ a0 na => ⟨.ref a0, rfl, rfl, rfl, d, _, _, rfl, hd, by rfl, .ref a0, rfl, rfl, rfl, d, _, _, rfl, hd, by rfl, (by show 3 ≤ sizeLine; decide), fun tt nt => kE _ tt (sd.trans (same_upd nt)) upd_same⟩, fun z => Bool.noConfusion z⟩
    | none =>
      obtain ⟨e1, e2, e3, e4⟩ := dueS_ok hdue
      obtain ⟨S, rfl⟩ : ∃ m : Nat, s = (m : Int) := ⟨s.toNat, by omega⟩
      obtain ⟨N, rfl⟩ : ∃ m : Nat, n = (m : Int) := ⟨n.toNat, by omega⟩
      have fs : FineS ws a ps := ⟨fi, e1, negAt_nn e2⟩
      refine ⟨_, rfl, _, rfl, _, rfl, _, rfl, rfl, rfl, mk_sea (S := S) (N := N) w hP fs (by omega) (by omega) (lcm_small fs w4) (by decide) (small_pow (by omega)) fun z cx tp L D X H1 s1 sa => ?_⟩
      exact ⟨(by show 2 ≤ sizeLine; decide), fun u nu => q hdue S N rfl rfl (by omega) (by omega) fs _ u z cx tp L D X (s1.trans (same_upd nu)) upd_same (sa.same (same_upd nu))⟩
def sp__law_opened_by_base (CS CR CW : Addr) : Sp := fun vs H Q _ => ∃ (r dr tr P : Addr) (ws ps : List Int) (a s n : Int), vs = [.ref r, .ref P, .int s, .int n] ∧ WAt CW H r dr tr ws a ∧ H P = some (.lst (ps.map V.int)) ∧ Fine ws a ps ∧ ws.length ≤ 4 ∧ ps.length ≤ 1000 ∧ dueS ps ws.length s n ≠ none ∧ ∀ H', Same H H' → Q (.bl true) H'
theorem ok__law_opened_by_base {f : Addr} {fd : FuncData} {C_Weighted C_Ratio C_BadNumber C_TooMany C_ZeroBottom C_BadLot C_Season C_ShelfError : Addr} (F : Fun K "_law_opened_by_base" "_law_opened_by_base" s__law_opened_by_base f fd) (T : Txt K mg C_Weighted C_Ratio C_BadNumber C_TooMany C_ZeroBottom C_BadLot C_Season C_ShelfError) (m_ValueError : mg "ValueError" = none) (m_isinstance : mg "isinstance" = none) (c_Season___init__ : ∃ (f : Addr) (fd : FuncData), FnOk P w K mg base (L2.CX P w) 8 f fd ["self", "rule", "prices", "seats", "buyers"] (sp_Season___init__ C_Season C_Ratio C_Weighted C_BadNumber) ∧ Mk K C_Season f ∧ KBn K fd ["self", "rule", "prices", "seats", "buyers"] 3 ["seats", "buyers"] (fun us ws => us ++ ws) (fun vs zs => vs ++ zs)) : FnOk P w K mg base CX0 10 f fd ["_law_rule", "_law_prices_here", "_law_chairs", "_law_come"] (sp__law_opened_by_base C_Season C_Ratio C_Weighted) := by
  refine F.ok sc__law_opened_by_base (fun vs H Q E h => ?_) (fun cdv A outer s H vs Q E hr h => ?_)
  · obtain ⟨r, dr, tr, P, ws, ps, a, s, n, rfl, _⟩ := h
    rfl
  · obtain ⟨r, dr, tr, P, ws, ps, a, s, n, rfl, w, hP, fi, w4, pl, no, q⟩ := h
    obtain ⟨f_Season___init__, fd_Season___init__, G_Season___init__, M_Season___init__, kb_Season___init__⟩ := c_Season___init__
    refine ⟨_, (pss_cons (ps_try_as (i := 4) (Wout := fun _ _ _ _ => False) rfl rfl sc__law_opened_by_base.nd rfl rfl ⟨rfl, by decide, Or.inl T.g_ShelfError⟩ takes0
      (fun W pn xe tk _ => (pss_one (ps_expr (pe_mkKey (np := 2) M_Season___init__ G_Season___init__ (hr.mono (by decide)) (by rfl) T.g_Season kb_Season___init__ (fun σ => passAt tk σ) (pa_cons (pv 0) (pa_cons (pv 1) pa_nil)) (pk_cons (pv 2) (pk_cons (pv 3) pk_nil))))))
      (fun a oe cls d pn hz hf => (pss_cons (ps_if (PW.pt (pw_or (pt_val (pe_callB (call_isY (K := K) hz hf) (by rfl) m_isinstance (by decide +kernel) (pa_cons (pv 4) (pa_cons (pe_glob (v := .ref C_TooMany) (by rfl) T.g_TooMany rfl) pa_nil)))) (pw_or1 (pt_val (pe_callB (call_isY (K := K) hz hf) (by rfl) m_isinstance (by decide +kernel) (pa_cons (pv 4) (pa_cons (pe_glob (v := .ref C_BadLot) (by rfl) T.g_BadLot rfl) pa_nil))))))) (pss_one (ps_ret pe_bl)) pss_nil)
      (pss_one (ps_ret (pe_and (pe_callB (call_isY (K := K) hz hf) (by rfl) m_isinstance (by decide +kernel) (pa_cons (pv 4) (pa_cons (pe_bltn (v := .ty "ValueError") (by rfl) m_ValueError (by decide +kernel) rfl) pa_nil))) (pe_one (pe_callB (call_isY (K := K) hz hf) (by rfl) m_isinstance (by decide +kernel) (pa_cons (pv 4) (pa_cons (pe_glob (v := .ref C_BadNumber) (by rfl) T.g_BadNumber rfl) pa_nil))))))))))
      (pss_one (ps_ret pe_bl))), ?_⟩
    refine ⟨_, rfl, _, rfl, _, rfl, _, rfl, rfl, rfl, fun x dx nx nd ne => ?_⟩
    have s0 : Same H (upd (upd H dx (.own x)) x (.ins C_Season dx [])) := fun b o e => by
      rw [upd_ne (ne_of_none e nx), upd_ne (ne_of_none e nd)]
      exact e
    have wl := fi.wl
    refine .inr ⟨x, dx, r, dr, tr, P, ws, ps, a, s, n, rfl, upd_same, w.same s0, s0 _ _ hP, pl, wl, no, fun wh at_ e H' d sx hd => ?_⟩
    have sd := sameX_made nx nd sx
    exact ⟨true, T.exm_BadNumber_ShelfError, fun _ a0 na => ⟨.ref a0, rfl, C_BadNumber, T.ec_BadNumber, rfl, .inr ⟨d, _, rfl, hd⟩, .ref C_TooMany, .ref C_TooMany, false, rfl, fun _ r => r, T.kit_BadNumber_TooMany, false, rfl, iteF ⟨.ref a0, rfl, C_BadNumber, T.ec_BadNumber, rfl, .inr ⟨d, _, rfl, hd⟩, .ref C_BadLot, .ref C_BadLot, false, rfl, fun _ r => r, T.kit_BadNumber_BadLot, false, rfl, iteF ⟨.ref a0, rfl, C_BadNumber, T.ec_BadNumber, rfl, .inr ⟨d, _, rfl, hd⟩, .ty "ValueError", .type "ValueError", true, rfl, fun _ r => r, T.kit_BadNumber_ValueError, true, rfl, iteT ⟨.ref a0, rfl, C_BadNumber, T.ec_BadNumber, rfl, .inr ⟨d, _, rfl, hd⟩, .ref C_BadNumber, .ref C_BadNumber, true, rfl, fun _ r => r, T.kit_BadNumber_BadNumber, q _ sd⟩⟩⟩⟩, fun z => Bool.noConfusion z⟩
def sp__law_asked (CS CR CW : Addr) : Sp := fun vs H Q _ => ∃ (p cx r dr tr tp L : Addr) (ws : List Int) (a : Int) (ps : List Int) (S n : Nat) (D : Int) (X : Nat → Nat → Int) (s b : Int) (w : Nat), vs = [.ref p, .int (w : Int), .int s, .int b] ∧ w ≤ 2 ∧ SeaAt CS CR CW H p cx r dr tr tp L ws a ps S n D X ∧ FineS ws a ps ∧ n ≤ 12 ∧ (∀ wh, dueA S n s b = some wh → ∀ H' u, Same H H' → H' u = some (.tup [.str "number", .str wh, .non]) → Q (.ref u) H') ∧
  (dueA S n s b = none → ∀ H' u x, Same H H' → H' u = some (.tup [.str "told", x]) → ((s = 0 ∨ b = 0) → NoD CR H' w x) → Q (.ref u) H')
theorem ok__law_asked {f : Addr} {fd : FuncData} {C_Weighted C_Ratio C_BadNumber C_TooMany C_ZeroBottom C_BadLot C_Season C_ShelfError : Addr} (F : Fun K "_law_asked" "_law_asked" s__law_asked f fd) (T : Txt K mg C_Weighted C_Ratio C_BadNumber C_TooMany C_ZeroBottom C_BadLot C_Season C_ShelfError) (c_Season_worth : CalM P w K mg base (L2.CX P w) 5 C_Season "worth" ["self", "s", "b"] (sp_Season_worth C_Season C_Ratio C_Weighted C_BadNumber)) (c_Season_bar : CalM P w K mg base (L2.CX P w) 6 C_Season "bar" ["self", "s", "b"] (sp_Season_bar C_Season C_Ratio C_Weighted C_BadNumber)) (c_Season_lot_to_show : CalM P w K mg base (L2.CX P w) 7 C_Season "lot_to_show" ["self", "s", "b"] (sp_Season_lot_to_show C_Season C_Ratio C_Weighted C_BadNumber)) : FnOk P w K mg base CX0 8 f fd ["_law_season", "_law_way", "_law_s", "_law_b"] (sp__law_asked C_Season C_Ratio C_Weighted) := by
  refine F.ok sc__law_asked (fun vs H Q E h => ?_) (fun cdv A outer s H vs Q E hr h => ?_)
  · obtain ⟨p, cx, r, dr, tr, tp, L, ws, a, ps, S, n, D, X, s, b, w, rfl, _⟩ := h
    rfl
  · obtain ⟨p, cx, r, dr, tr, tp, L, ws, a, ps, S, n, D, X, s, b, w, rfl, w2, sa, fi, n12, kE, q⟩ := h
    obtain ⟨f_Season_worth, fd_Season_worth, G_Season_worth, M_Season_worth, b_Season_worth⟩ := c_Season_worth
    obtain ⟨f_Season_bar, fd_Season_bar, G_Season_bar, M_Season_bar, b_Season_bar⟩ := c_Season_bar
    obtain ⟨f_Season_lot_to_show, fd_Season_lot_to_show, G_Season_lot_to_show, M_Season_lot_to_show, b_Season_lot_to_show⟩ := c_Season_lot_to_show
    refine ⟨_, (pss_one (ps_try_as (i := 4) (Wout := fun _ _ _ _ => False) rfl rfl sc__law_asked.nd rfl rfl ⟨rfl, by decide, Or.inl T.g_BadNumber⟩ takes0
      (fun W pn xe tk _ => (pss_cons (ps_if (pt_cmpR op_eq (pv 1) pe_int (nomark _)) (pss_one (ps_ret (pe_tup (pa_cons pe_str (pa_cons (pe_methT (pv 0) T.cl_Season M_Season_worth G_Season_worth (hr.mono (by decide)) b_Season_worth (fun σ => passAt tk σ) (pa_cons (pv 2) (pa_cons (pv 3) pa_nil))) pa_nil))))) pss_nil)
      (pss_cons (ps_if (pt_cmpR op_eq (pv 1) pe_int (nomark _)) (pss_one (ps_ret (pe_tup (pa_cons pe_str (pa_cons (pe_methT (pv 0) T.cl_Season M_Season_bar G_Season_bar (hr.mono (by decide)) b_Season_bar (fun σ => passAt tk σ) (pa_cons (pv 2) (pa_cons (pv 3) pa_nil))) pa_nil))))) pss_nil)
      (pss_one (ps_ret (pe_tup (pa_cons pe_str (pa_cons (pe_methT (pv 0) T.cl_Season M_Season_lot_to_show G_Season_lot_to_show (hr.mono (by decide)) b_Season_lot_to_show (fun σ => passAt tk σ) (pa_cons (pv 2) (pa_cons (pv 3) pa_nil))) pa_nil))))))))
      (fun a oe cls d pn hz hf => (pss_one (ps_ret (pe_tup (pa_cons pe_str (pa_cons (pe_xf T.xf_BadNumber T.n_BadNumber_what hz hf (pv 4)) (pa_cons (pe_xf T.xf_BadNumber T.n_BadNumber_at hz hf (pv 4)) pa_nil))))))))), ?_⟩
    cases hd0 : dueA S n s b with
    | some wa =>
      refine ⟨_, rfl, rfl, _, rfl, ite2 (fun _ => ?_) (fun _ => ⟨_, rfl, rfl, _, rfl, ite2 (fun _ => ?_) (fun _ => ?_)⟩)⟩
      · refine ⟨_, rfl, p, cx, _, rfl, sa.hp, fS_worth _ _ _ _ _, _, rfl, _, rfl, .inr ⟨p, cx, r, dr, tr, tp, L, ws, a, ps, S, n, D, X, s, b, rfl, sa, by rw [hd0]; exact Option.some_ne_none _, fun wh e H' d sd hd => ?_⟩⟩
        have kE := kE wh e
        exact ⟨true, T.exm_BadNumber_BadNumber, fun _ a0 na => ⟨.ref a0, rfl, rfl, rfl, d, _, _, rfl, hd, by rfl, .ref a0, rfl, rfl, rfl, d, _, _, rfl, hd, by rfl, (by show 3 ≤ sizeLine; decide), fun tt nt => kE _ tt (sd.trans (same_upd nt)) upd_same⟩, fun z => Bool.noConfusion z⟩
      · refine ⟨_, rfl, p, cx, _, rfl, sa.hp, fS_bar _ _ _ _ _, _, rfl, _, rfl, .inr ⟨p, cx, r, dr, tr, tp, L, ws, a, ps, S, n, D, X, s, b, rfl, sa, by rw [hd0]; exact Option.some_ne_none _, fun wh e H' d sd hd => ?_⟩⟩
        have kE := kE wh e
        exact ⟨true, T.exm_BadNumber_BadNumber, fun _ a0 na => ⟨.ref a0, rfl, rfl, rfl, d, _, _, rfl, hd, by rfl, .ref a0, rfl, rfl, rfl, d, _, _, rfl, hd, by rfl, (by show 3 ≤ sizeLine; decide), fun tt nt => kE _ tt (sd.trans (same_upd nt)) upd_same⟩, fun z => Bool.noConfusion z⟩
      · refine ⟨_, rfl, p, cx, _, rfl, sa.hp, fS_lot_to_show _ _ _ _ _, _, rfl, _, rfl, .inr ⟨p, cx, r, dr, tr, tp, L, ws, a, ps, S, n, D, X, s, b, rfl, sa, by rw [hd0]; exact Option.some_ne_none _, fun wh e H' d sd hd => ?_⟩⟩
        have kE := kE wh e
        exact ⟨true, T.exm_BadNumber_BadNumber, fun _ a0 na => ⟨.ref a0, rfl, rfl, rfl, d, _, _, rfl, hd, by rfl, .ref a0, rfl, rfl, rfl, d, _, _, rfl, hd, by rfl, (by show 3 ≤ sizeLine; decide), fun tt nt => kE _ tt (sd.trans (same_upd nt)) upd_same⟩, fun z => Bool.noConfusion z⟩
    | none =>
      obtain ⟨e1, e2⟩ := dueA_ok hd0
      obtain ⟨s0, rfl⟩ : ∃ m : Nat, s = (m : Int) := ⟨s.toNat, by omega⟩
      obtain ⟨b0, rfl⟩ : ∃ m : Nat, b = (m : Int) := ⟨b.toNat, by omega⟩
      have hs0 : s0 ≤ S := by omega
      have hb0 : b0 ≤ n := by omega
      have q := q hd0
      have D0 := sa.big.1
      have kz := sa.bd fi n12 hb0 hs0
      refine ⟨_, rfl, rfl, _, rfl, ite2 (fun c => ?_) (fun c => ⟨_, rfl, rfl, _, rfl, ite2 (fun c2 => ?_) (fun c2 => ?_)⟩)⟩
      · have c := V.int.inj (of_decide_eq_true c)
        refine ⟨_, rfl, p, cx, _, rfl, sa.hp, fS_worth _ _ _ _ _, _, rfl, _, rfl, .inl ⟨p, cx, r, dr, tr, tp, L, ws, a, ps, S, n, D, X, s0, b0, rfl, sa, fi, n12, hs0, hb0, fun H1 q1 s1 r1 => ?_⟩⟩
        refine ⟨(by show 2 ≤ sizeLine; decide), fun u nu => q _ u _ (s1.trans (same_upd nu)) upd_same fun z => .inl ⟨by omega, ?_⟩⟩
        obtain ⟨T1, B1, rr, ll⟩ := r1
        have x0 : X b0 s0 = 0 := by
          rcases z with z | z
          · rw [show s0 = 0 by omega]
            exact sa.grid.zs _
          · rw [show b0 = 0 by omega]
            exact sa.grid.z0 _
        have ll := ll.b sa.big (by omega)
        have e := ll.eq
        rw [x0, Int.zero_mul] at e
        have T0 : T1 = 0 := by
          rcases Int.mul_eq_zero.mp e with h | h
          · exact h
          · omega
        subst T0
        exact ⟨q1, B1, rfl, rr.same (same_upd nu), ll.pos, ll.sB⟩
      · have c2 := V.int.inj (of_decide_eq_true c2)
        refine ⟨_, rfl, p, cx, _, rfl, sa.hp, fS_bar _ _ _ _ _, _, rfl, _, rfl, .inl ⟨p, cx, r, dr, tr, tp, L, ws, a, ps, S, n, D, X, s0, b0, rfl, sa, fi, n12, hs0, hb0, fun z => ?_, fun s' b' es eb H1 q1 s1 r1 => ?_⟩⟩
        · exact ⟨(by show 2 ≤ sizeLine; decide), fun u nu => q _ u _ (same_upd nu) upd_same fun _ => .inr (.inl ⟨by omega, rfl⟩)⟩
        · exact ⟨(by show 2 ≤ sizeLine; decide), fun u nu => q _ u _ (s1.trans (same_upd nu)) upd_same fun z => absurd z (by omega)⟩
      · have c : ¬ (w : Int) = 0 := fun z => c (decide_eq_true (congrArg V.int z))
        have c2 : ¬ (w : Int) = 1 := fun z => c2 (decide_eq_true (congrArg V.int z))
        refine ⟨_, rfl, p, cx, _, rfl, sa.hp, fS_lot_to_show _ _ _ _ _, _, rfl, _, rfl, .inl ⟨p, cx, r, dr, tr, tp, L, ws, a, ps, S, n, D, X, s0, b0, rfl, sa, fi, n12, hs0, hb0, fun z H1 u1 s1 hu => ?_, fun s' b' es eb H1 u1 s1 hu => ?_⟩⟩
        · exact ⟨(by show 2 ≤ sizeLine; decide), fun u nu => q _ u _ (s1.trans (same_upd nu)) upd_same fun _ => .inr (.inr ⟨by omega, u1, rfl, same_upd nu _ _ hu⟩)⟩
        · exact ⟨(by show 2 ≤ sizeLine; decide), fun u nu => q _ u _ (s1.trans (same_upd nu)) upd_same fun z => absurd z (by omega)⟩
def sp__law_asked_by_base (CS CR CW : Addr) : Sp := fun vs H Q _ => ∃ (p cx r dr tr tp L : Addr) (ws : List Int) (a : Int) (ps : List Int) (S n : Nat) (D : Int) (X : Nat → Nat → Int) (s b : Int) (w : Nat), vs = [.ref p, .int (w : Int), .int s, .int b] ∧ w ≤ 2 ∧ SeaAt CS CR CW H p cx r dr tr tp L ws a ps S n D X ∧ FineS ws a ps ∧ n ≤ 12 ∧ dueA S n s b ≠ none ∧ ∀ H', Same H H' → Q (.bl true) H'
theorem ok__law_asked_by_base {f : Addr} {fd : FuncData} {C_Weighted C_Ratio C_BadNumber C_TooMany C_ZeroBottom C_BadLot C_Season C_ShelfError : Addr} (F : Fun K "_law_asked_by_base" "_law_asked_by_base" s__law_asked_by_base f fd) (T : Txt K mg C_Weighted C_Ratio C_BadNumber C_TooMany C_ZeroBottom C_BadLot C_Season C_ShelfError) (m_ValueError : mg "ValueError" = none) (m_isinstance : mg "isinstance" = none) (c_Season_worth : CalM P w K mg base (L2.CX P w) 5 C_Season "worth" ["self", "s", "b"] (sp_Season_worth C_Season C_Ratio C_Weighted C_BadNumber)) (c_Season_bar : CalM P w K mg base (L2.CX P w) 6 C_Season "bar" ["self", "s", "b"] (sp_Season_bar C_Season C_Ratio C_Weighted C_BadNumber)) (c_Season_lot_to_show : CalM P w K mg base (L2.CX P w) 7 C_Season "lot_to_show" ["self", "s", "b"] (sp_Season_lot_to_show C_Season C_Ratio C_Weighted C_BadNumber)) : FnOk P w K mg base CX0 8 f fd ["_law_season", "_law_way", "_law_s", "_law_b"] (sp__law_asked_by_base C_Season C_Ratio C_Weighted) := by
  refine F.ok sc__law_asked_by_base (fun vs H Q E h => ?_) (fun cdv A outer s H vs Q E hr h => ?_)
  · obtain ⟨p, cx, r, dr, tr, tp, L, ws, a, ps, S, n, D, X, s, b, w, rfl, _⟩ := h
    rfl
  · obtain ⟨p, cx, r, dr, tr, tp, L, ws, a, ps, S, n, D, X, s, b, w, rfl, w2, sa, fi, n12, no, q⟩ := h
    obtain ⟨f_Season_worth, fd_Season_worth, G_Season_worth, M_Season_worth, b_Season_worth⟩ := c_Season_worth
    obtain ⟨f_Season_bar, fd_Season_bar, G_Season_bar, M_Season_bar, b_Season_bar⟩ := c_Season_bar
    obtain ⟨f_Season_lot_to_show, fd_Season_lot_to_show, G_Season_lot_to_show, M_Season_lot_to_show, b_Season_lot_to_show⟩ := c_Season_lot_to_show
    refine ⟨_, (pss_cons (ps_try_as (i := 4) (Wout := fun _ _ _ _ => False) rfl rfl sc__law_asked_by_base.nd rfl rfl ⟨rfl, by decide, Or.inl T.g_ShelfError⟩ takes0
      (fun W pn xe tk _ => (Evl.pss_cut (ps_if (pt_cmpR op_eq (pv 1) pe_int (nomark _)) (pss_one (ps_expr (pe_methT (pv 0) T.cl_Season M_Season_worth G_Season_worth (hr.mono (by decide)) b_Season_worth (fun σ => passAt tk σ) (pa_cons (pv 2) (pa_cons (pv 3) pa_nil))))) pss_nil)
      (Evl.pss_cut (ps_if (pt_cmpR op_eq (pv 1) pe_int (nomark _)) (pss_one (ps_expr (pe_methT (pv 0) T.cl_Season M_Season_bar G_Season_bar (hr.mono (by decide)) b_Season_bar (fun σ => passAt tk σ) (pa_cons (pv 2) (pa_cons (pv 3) pa_nil))))) pss_nil)
      (pss_one (ps_if (pt_cmpR op_eq (pv 1) pe_int (nomark _)) (pss_one (ps_expr (pe_methT (pv 0) T.cl_Season M_Season_lot_to_show G_Season_lot_to_show (hr.mono (by decide)) b_Season_lot_to_show (fun σ => passAt tk σ) (pa_cons (pv 2) (pa_cons (pv 3) pa_nil))))) pss_nil)))))
      (fun a oe cls d pn hz hf => (pss_cons (ps_if (PW.pt (pw_or (pt_val (pe_callB (call_isY (K := K) hz hf) (by rfl) m_isinstance (by decide +kernel) (pa_cons (pv 4) (pa_cons (pe_glob (v := .ref C_TooMany) (by rfl) T.g_TooMany rfl) pa_nil)))) (pw_or1 (pt_val (pe_callB (call_isY (K := K) hz hf) (by rfl) m_isinstance (by decide +kernel) (pa_cons (pv 4) (pa_cons (pe_glob (v := .ref C_BadLot) (by rfl) T.g_BadLot rfl) pa_nil))))))) (pss_one (ps_ret pe_bl)) pss_nil)
      (pss_one (ps_ret (pe_and (pe_callB (call_isY (K := K) hz hf) (by rfl) m_isinstance (by decide +kernel) (pa_cons (pv 4) (pa_cons (pe_bltn (v := .ty "ValueError") (by rfl) m_ValueError (by decide +kernel) rfl) pa_nil))) (pe_one (pe_callB (call_isY (K := K) hz hf) (by rfl) m_isinstance (by decide +kernel) (pa_cons (pv 4) (pa_cons (pe_glob (v := .ref C_BadNumber) (by rfl) T.g_BadNumber rfl) pa_nil))))))))))
      (pss_one (ps_ret pe_bl))), ?_⟩
    obtain ⟨wa, hd0⟩ : ∃ wa, dueA S n s b = some wa := Option.ne_none_iff_exists'.mp no
    refine ⟨fun σ' H' => w ≠ 0 ∧ H = H' ∧ σ' = [some (.ref p), some (.int (w : Int)), some (.int s), some (.int b), none], ?_, ?_⟩
    · refine ⟨_, rfl, rfl, _, rfl, ite2 (fun _ => ?_) (fun c => ⟨fun z => c (decide_eq_true (by rw [z]; rfl)), rfl, rfl⟩)⟩
      refine ⟨_, rfl, p, cx, _, rfl, sa.hp, fS_worth _ _ _ _ _, _, rfl, _, rfl, .inr ⟨p, cx, r, dr, tr, tp, L, ws, a, ps, S, n, D, X, s, b, rfl, sa, by rw [hd0]; exact Option.some_ne_none _, fun wh e H' d sd hd => ?_⟩⟩
      exact ⟨true, T.exm_BadNumber_ShelfError, fun _ a0 na => ⟨.ref a0, rfl, C_BadNumber, T.ec_BadNumber, rfl, .inr ⟨d, _, rfl, hd⟩, .ref C_TooMany, .ref C_TooMany, false, rfl, fun _ r => r, T.kit_BadNumber_TooMany, false, rfl, iteF ⟨.ref a0, rfl, C_BadNumber, T.ec_BadNumber, rfl, .inr ⟨d, _, rfl, hd⟩, .ref C_BadLot, .ref C_BadLot, false, rfl, fun _ r => r, T.kit_BadNumber_BadLot, false, rfl, iteF ⟨.ref a0, rfl, C_BadNumber, T.ec_BadNumber, rfl, .inr ⟨d, _, rfl, hd⟩, .ty "ValueError", .type "ValueError", true, rfl, fun _ r => r, T.kit_BadNumber_ValueError, true, rfl, iteT ⟨.ref a0, rfl, C_BadNumber, T.ec_BadNumber, rfl, .inr ⟨d, _, rfl, hd⟩, .ref C_BadNumber, .ref C_BadNumber, true, rfl, fun _ r => r, T.kit_BadNumber_BadNumber, q _ sd⟩⟩⟩⟩, fun z => Bool.noConfusion z⟩
    rintro σ' H' ⟨c0, rfl, rfl⟩
    refine ⟨fun σ' H' => w ≠ 1 ∧ H = H' ∧ σ' = [some (.ref p), some (.int (w : Int)), some (.int s), some (.int b), none], ?_, ?_⟩
    · refine ⟨_, rfl, rfl, _, rfl, ite2 (fun _ => ?_) (fun c => ⟨fun z => c (decide_eq_true (by rw [z]; rfl)), rfl, rfl⟩)⟩
      refine ⟨_, rfl, p, cx, _, rfl, sa.hp, fS_bar _ _ _ _ _, _, rfl, _, rfl, .inr ⟨p, cx, r, dr, tr, tp, L, ws, a, ps, S, n, D, X, s, b, rfl, sa, by rw [hd0]; exact Option.some_ne_none _, fun wh e H' d sd hd => ?_⟩⟩
      exact ⟨true, T.exm_BadNumber_ShelfError, fun _ a0 na => ⟨.ref a0, rfl, C_BadNumber, T.ec_BadNumber, rfl, .inr ⟨d, _, rfl, hd⟩, .ref C_TooMany, .ref C_TooMany, false, rfl, fun _ r => r, T.kit_BadNumber_TooMany, false, rfl, iteF ⟨.ref a0, rfl, C_BadNumber, T.ec_BadNumber, rfl, .inr ⟨d, _, rfl, hd⟩, .ref C_BadLot, .ref C_BadLot, false, rfl, fun _ r => r, T.kit_BadNumber_BadLot, false, rfl, iteF ⟨.ref a0, rfl, C_BadNumber, T.ec_BadNumber, rfl, .inr ⟨d, _, rfl, hd⟩, .ty "ValueError", .type "ValueError", true, rfl, fun _ r => r, T.kit_BadNumber_ValueError, true, rfl, iteT ⟨.ref a0, rfl, C_BadNumber, T.ec_BadNumber, rfl, .inr ⟨d, _, rfl, hd⟩, .ref C_BadNumber, .ref C_BadNumber, true, rfl, fun _ r => r, T.kit_BadNumber_BadNumber, q _ sd⟩⟩⟩⟩, fun z => Bool.noConfusion z⟩
    rintro σ' H' ⟨c1, rfl, rfl⟩
    refine ⟨_, rfl, rfl, _, rfl, ite2 (fun _ => ?_) (fun c => absurd (decide_eq_true (by rw [show w = 2 by omega]; rfl)) c)⟩
    refine ⟨_, rfl, p, cx, _, rfl, sa.hp, fS_lot_to_show _ _ _ _ _, _, rfl, _, rfl, .inr ⟨p, cx, r, dr, tr, tp, L, ws, a, ps, S, n, D, X, s, b, rfl, sa, by rw [hd0]; exact Option.some_ne_none _, fun wh e H' d sd hd => ?_⟩⟩
    exact ⟨true, T.exm_BadNumber_ShelfError, fun _ a0 na => ⟨.ref a0, rfl, C_BadNumber, T.ec_BadNumber, rfl, .inr ⟨d, _, rfl, hd⟩, .ref C_TooMany, .ref C_TooMany, false, rfl, fun _ r => r, T.kit_BadNumber_TooMany, false, rfl, iteF ⟨.ref a0, rfl, C_BadNumber, T.ec_BadNumber, rfl, .inr ⟨d, _, rfl, hd⟩, .ref C_BadLot, .ref C_BadLot, false, rfl, fun _ r => r, T.kit_BadNumber_BadLot, false, rfl, iteF ⟨.ref a0, rfl, C_BadNumber, T.ec_BadNumber, rfl, .inr ⟨d, _, rfl, hd⟩, .ty "ValueError", .type "ValueError", true, rfl, fun _ r => r, T.kit_BadNumber_ValueError, true, rfl, iteT ⟨.ref a0, rfl, C_BadNumber, T.ec_BadNumber, rfl, .inr ⟨d, _, rfl, hd⟩, .ref C_BadNumber, .ref C_BadNumber, true, rfl, fun _ r => r, T.kit_BadNumber_BadNumber, q _ sd⟩⟩⟩⟩, fun z => Bool.noConfusion z⟩
def sp__law_nothing (CR : Addr) : Sp := fun vs H Q _ => ∃ (u : Addr) (x : V) (w : Nat), vs = [.ref u, .int (w : Int)] ∧ H u = some (.tup [.str "told", x]) ∧ NoD CR H w x ∧ Q (.bl true) H
theorem ok__law_nothing {f : Addr} {fd : FuncData} {C_Weighted C_Ratio C_BadNumber C_TooMany C_ZeroBottom C_BadLot C_Season C_ShelfError : Addr} (F : Fun K "_law_nothing" "_law_nothing" s__law_nothing f fd) (T : Txt K mg C_Weighted C_Ratio C_BadNumber C_TooMany C_ZeroBottom C_BadLot C_Season C_ShelfError) (m_isinstance : mg "isinstance" = none) (m_len : mg "len" = none) (m_tuple : mg "tuple" = none) (c__law_same : Cal P w K mg base CX0 2 "_law_same" ["_law_x", "_law_top", "_law_bottom"] (sp__law_same C_Ratio)) : FnOk P w K mg base CX0 3 f fd ["_law_answer", "_law_way"] (sp__law_nothing C_Ratio) := by
  refine F.ok sc__law_nothing (fun vs H Q E h => ?_) (fun cdv A outer s H vs Q E hr h => ?_)
  · obtain ⟨u, x, w, rfl, _⟩ := h
    rfl
  · obtain ⟨u, x, w, rfl, hu, nd, q⟩ := h
    obtain ⟨f__law_same, fd__law_same, G__law_same, m__law_same, k__law_same, b__law_same⟩ := c__law_same
    refine ⟨_, (pss_cons (ps_if (PW.pt (pw_or (pt_cmpR op_ne (pe_callB call_len_seq (by rfl) m_len (by decide +kernel) (pa_cons (pv 0) pa_nil)) pe_int (nomark _)) (pw_or1 (pt_cmpR op_ne (pe_ix ix_tup (pv 0) pe_int (fun _ _ => rfl)) pe_str (nomark _))))) (pss_one (ps_ret pe_bl)) pss_nil)
      (pss_cons (ps_if (pt_cmpR op_eq (pv 1) pe_int (nomark _)) (pss_one (ps_ret (pe_call G__law_same (hr.mono (by decide)) (by rfl) m__law_same k__law_same b__law_same .nil pass0 (pa_cons (pe_ix ix_tup (pv 0) pe_int (fun _ _ => rfl)) (pa_cons pe_int (pa_cons pe_int pa_nil)))))) pss_nil)
      (pss_cons (ps_if (pt_cmpR op_eq (pv 1) pe_int (nomark _)) (pss_one (ps_ret (pe_cmpR op_isN (pe_ix ix_tup (pv 0) pe_int (fun _ _ => rfl)) pe_non (nomark _)))) pss_nil)
      (pss_one (ps_ret (pe_and (pe_callB call_isi (by rfl) m_isinstance (by decide +kernel) (pa_cons (pe_ix ix_tup (pv 0) pe_int (fun _ _ => rfl)) (pa_cons (pe_bltn (v := .ty "tuple") (by rfl) m_tuple (by decide +kernel) rfl) pa_nil))) (pe_one (pe_cmpR op_eq (pe_callB call_len_seq (by rfl) m_len (by decide +kernel) (pa_cons (pe_ix ix_tup (pv 0) pe_int (fun _ _ => rfl)) pa_nil)) pe_int (nomark _))))))))), ?_⟩
    have one : Sm 1 := sm_of (n := 1) (by decide)
    have zero : Sm 0 := sm_of (n := 1) (by decide)
    refine ⟨.ref u, rfl, u, _, rfl, .inr (tup_t hu), rfl, _, rfl, iteNS rfl ?_⟩
    refine ⟨.ref u, rfl, u, _, _, _, rfl, rfl, tup_t hu, atI_nat (j := 0) rfl, rfl, _, rfl, iteNS rfl ?_⟩
    rcases nd with ⟨rfl, z, B, rfl, rz, pz, sz⟩ | ⟨rfl, rfl⟩ | ⟨rfl, t, rfl, ht⟩
    · refine ⟨_, rfl, rfl, _, rfl, iteD rfl ?_⟩
      exact ⟨.ref u, rfl, u, _, _, _, rfl, rfl, tup_t hu, atI_nat (j := 1) rfl, z, 0, B, 0, 1, rfl, rz, pz, by omega, zero.mul one, zero.mul sz, q⟩
    · refine ⟨_, rfl, rfl, _, rfl, iteDF (fun z => by cases z) ⟨_, rfl, rfl, _, rfl, iteD rfl ?_⟩⟩
      exact ⟨.ref u, rfl, u, _, _, _, rfl, rfl, tup_t hu, atI_nat (j := 1) rfl, rfl, q⟩
    · refine ⟨_, rfl, rfl, _, rfl, iteDF (fun z => by cases z) ⟨_, rfl, rfl, _, rfl, iteDF (fun z => by cases z) ?_⟩⟩
      exact ⟨.ref u, rfl, u, _, _, _, rfl, rfl, tup_t hu, atI_nat (j := 1) rfl, .ref t, .ty "tuple", _, _, true, rfl, .ty "tuple", .base (.tup ht), kit_ty kT, true, rfl, iteT ⟨.ref u, rfl, u, _, _, _, rfl, rfl, tup_t hu, atI_nat (j := 1) rfl, t, _, rfl, .inr (tup_t ht), rfl, q⟩⟩
def sp__law_fields (CS CR CW : Addr) : Sp := fun vs H Q _ => ∃ (p cx r dr tr tp L W P : Addr) (ws : List Int) (a : Int) (ps : List Int) (S n : Nat) (D : Int) (X : Nat → Nat → Int), vs = [.ref p, .ref W, .int a, .ref P, .int (S : Int), .int (n : Int)] ∧ SeaAt CS CR CW H p cx r dr tr tp L ws a ps S n D X ∧ FineS ws a ps ∧ H W = some (.lst (ws.map V.int)) ∧ H P = some (.lst (ps.map V.int)) ∧ ∀ H', Same H H' → Q (.bl true) H'
theorem ok__law_fields {f : Addr} {fd : FuncData} {C_Weighted C_Ratio C_BadNumber C_TooMany C_ZeroBottom C_BadLot C_Season C_ShelfError : Addr} (F : Fun K "_law_fields" "_law_fields" s__law_fields f fd) (T : Txt K mg C_Weighted C_Ratio C_BadNumber C_TooMany C_ZeroBottom C_BadLot C_Season C_ShelfError) (m_isinstance : mg "isinstance" = none) (c__law_same_lot : Cal P w K mg base CX0 2 "_law_same_lot" ["_law_x", "_law_due_here"] (sp__law_same_lot K)) : FnOk P w K mg base CX0 3 f fd ["_law_season", "_law_weights", "_law_apart", "_law_prices_here", "_law_chairs", "_law_come"] (sp__law_fields C_Season C_Ratio C_Weighted) := by
  refine F.ok sc__law_fields (fun vs H Q E h => ?_) (fun cdv A outer s H vs Q E hr h => ?_)
  · obtain ⟨p, cx, r, dr, tr, tp, L, W, P, ws, a, ps, S, n, D, X, rfl, _⟩ := h
    rfl
  · obtain ⟨p, cx, r, dr, tr, tp, L, W, P, ws, a, ps, S, n, D, X, rfl, sa, fi, hW, hP, q⟩ := h
    obtain ⟨f__law_same_lot, fd__law_same_lot, G__law_same_lot, m__law_same_lot, k__law_same_lot, b__law_same_lot⟩ := c__law_same_lot
    refine ⟨_, (pss_cons (ps_if (PW.pt (pw_or (pt_not (pt_val (pe_callB call_isi (by rfl) m_isinstance (by decide +kernel) (pa_cons (pv 0) (pa_cons (pe_glob (v := .ref C_Season) (by rfl) T.g_Season rfl) pa_nil))))) (pw_or1 (pt_not (pt_val (pe_callB call_isi (by rfl) m_isinstance (by decide +kernel) (pa_cons (pe_fld (pv 0) rfl) (pa_cons (pe_glob (v := .ref C_Weighted) (by rfl) T.g_Weighted rfl) pa_nil)))))))) (pss_one (ps_ret pe_bl)) pss_nil)
      (pss_cons (ps_if (PW.pt (pw_or (pt_not (pt_val (pe_call G__law_same_lot (hr.mono (by decide)) (by rfl) m__law_same_lot k__law_same_lot b__law_same_lot .nil pass0 (pa_cons (pe_fld (pe_fld (pv 0) rfl) rfl) (pa_cons (pv 1) pa_nil))))) (pw_or1 (pt_not (pt_val (pe_call G__law_same_lot (hr.mono (by decide)) (by rfl) m__law_same_lot k__law_same_lot b__law_same_lot .nil pass0 (pa_cons (pe_tup (pa_cons (pe_fld (pe_fld (pv 0) rfl) rfl) pa_nil)) (pa_cons (pe_tup (pa_cons (pv 2) pa_nil)) pa_nil)))))))) (pss_one (ps_ret pe_bl)) pss_nil)
      (pss_one (ps_ret (pe_and (pe_call G__law_same_lot (hr.mono (by decide)) (by rfl) m__law_same_lot k__law_same_lot b__law_same_lot .nil pass0 (pa_cons (pe_fld (pv 0) rfl) (pa_cons (pv 3) pa_nil))) (pe_one (pe_call G__law_same_lot (hr.mono (by decide)) (by rfl) m__law_same_lot k__law_same_lot b__law_same_lot .nil pass0 (pa_cons (pe_tup (pa_cons (pe_fld (pv 0) rfl) (pa_cons (pe_fld (pv 0) rfl) pa_nil))) (pa_cons (pe_tup (pa_cons (pv 4) (pa_cons (pv 5) pa_nil))) pa_nil))))))))), ?_⟩
    refine ⟨_, rfl, .ref p, .ref C_Season, .ref C_Season, .ref C_Season, true, rfl, .own C_Season, .base (.ins sa.hp T.cl_Season T.ha_Season T.hnc T.htk T.hm_Season), T.kit_Season_Season, true, rfl, iteF ?_⟩
    refine ⟨_, rfl, p, C_Season, cx, _, _, rfl, sa.hp, T.cl_Season, T.n_Season_rule, fS_rule _ _ _ _ _, .ref r, .ref C_Weighted, .ref C_Weighted, .ref C_Weighted, true, rfl, .own C_Weighted, .base (.ins sa.w.1 T.cl_Weighted T.ha_Weighted T.hnc T.htk T.hm_Weighted), T.kit_Weighted_Weighted, true, rfl, iteF ?_⟩
    have wl := fi.f.wl
    have pl := fi.len
    refine ⟨_, rfl, p, C_Season, cx, _, _, rfl, sa.hp, T.cl_Season, T.n_Season_rule, fS_rule _ _ _ _ _, r, C_Weighted, dr, _, _, rfl, sa.w.1, T.cl_Weighted, T.n_Weighted_weights, fW_weights _ _ _, _, rfl, tr, W, ws, rfl, sa.w.2, .inl (lst_l hW), by omega, true, rfl, iteF ?_⟩
    refine ⟨_, rfl, p, C_Season, cx, _, _, rfl, sa.hp, T.cl_Season, T.n_Season_rule, fS_rule _ _ _ _ _, r, C_Weighted, dr, _, _, rfl, sa.w.1, T.cl_Weighted, T.n_Weighted_aside, fW_aside _ _ _, (by show 1 ≤ sizeLine; decide), fun u1 nu1 => ⟨_, rfl, (by show 1 ≤ sizeLine; decide), fun u2 nu2 => ?_⟩⟩
    have s1 := same_upd (o := .tup [V.int a]) nu1
    have s2 := same_upd (o := .tup [V.int a]) nu2
    have h1 := s2 _ _ (upd_same (H := H) (a := u1) (o := .tup [V.int a]))
    refine ⟨u1, u2, [a], rfl, h1, .inr (tup_t upd_same), (by show 1 ≤ 1000; decide), true, rfl, iteF ?_⟩
    have s12 := s1.trans s2
    have sa2 := sa.same s12
    have hP2 := s12 _ _ hP
    generalize upd (upd H u1 (.tup [V.int a])) u2 (.tup [V.int a]) = H2 at s12 sa2 hP2 ⊢
    refine ⟨_, rfl, p, C_Season, cx, _, _, rfl, sa2.hp, T.cl_Season, T.n_Season_prices, fS_prices _ _ _ _ _, _, rfl, tp, P, ps, rfl, sa2.ht, .inl (lst_l hP2), by omega, true, rfl, iteT ?_⟩
    refine ⟨_, rfl, p, C_Season, cx, _, _, rfl, sa2.hp, T.cl_Season, T.n_Season_seats, fS_seats _ _ _ _ _, _, rfl, p, C_Season, cx, _, _, rfl, sa2.hp, T.cl_Season, T.n_Season_buyers, fS_buyers _ _ _ _ _, (by show 2 ≤ sizeLine; decide), fun u3 nu3 => ⟨_, rfl, _, rfl, (by show 2 ≤ sizeLine; decide), fun u4 nu4 => ?_⟩⟩
    have s3 := same_upd (o := .tup [V.int (S : Int), V.int (n : Int)]) nu3
    have s4 := same_upd (o := .tup [V.int (S : Int), V.int (n : Int)]) nu4
    have h3 := s4 _ _ (upd_same (H := H2) (a := u3) (o := .tup [V.int (S : Int), V.int (n : Int)]))
    exact ⟨u3, u4, [(S : Int), (n : Int)], rfl, h3, .inr (tup_t upd_same), (by show 2 ≤ 1000; decide), q _ (s12.trans (s3.trans s4))⟩
def sp_law (K : PySem.W.Frag) : Sp := fun vs H Q _ => ∃ (a : Addr) (ns : List Int), vs = [.ref a] ∧ SqL K H a (ns.map V.int) ∧ ns.length ≤ 63 ∧ ∀ H', Q (.bl true) H'

theorem ok_law {f : Addr} {fd : FuncData} {C_Weighted C_Ratio C_BadNumber C_TooMany C_ZeroBottom C_BadLot C_Season C_ShelfError : Addr} (F : Fun K "law" "law" s_law f fd) (T : Txt K mg C_Weighted C_Ratio C_BadNumber C_TooMany C_ZeroBottom C_BadLot C_Season C_ShelfError) (m_len : mg "len" = none) (m_list : mg "list" = none) (m_range : mg "range" = none) (c_Weighted___init__ : CalI P w K mg base (L2.CX P w) 5 C_Weighted ["self", "weights", "aside"] (sp_Weighted___init__ K C_Weighted C_TooMany C_BadNumber) []) (c__law_cell : Cal P w K mg base CX0 1 "_law_cell" ["_law_script", "_law_place"] (sp__law_cell K)) (c__law_draws : Cal P w K mg base CX0 1 "_law_draws" ["_law_cell_here", "_law_sizes"] (sp__law_draws K)) (c__law_refused : Cal P w K mg base CX0 2 "_law_refused" ["_law_answer", "_law_due_here"] (sp__law_refused)) (c__law_near_or_far : Cal P w K mg base CX0 1 "_law_near_or_far" ["_law_kind", "_law_near", "_law_sign", "_law_far"] (sp__law_near_or_far)) (c__law_prices : Cal P w K mg base CX0 1 "_law_prices" ["_law_way", "_law_places", "_law_row"] (sp__law_prices)) (c__law_due : Cal P w K mg base CX0 1 "_law_due" ["_law_prices_here", "_law_many", "_law_chairs", "_law_come"] (sp__law_due)) (c__law_opened : Cal P w K mg base CX0 10 "_law_opened" ["_law_rule", "_law_prices_here", "_law_chairs", "_law_come"] (sp__law_opened C_Season C_Ratio C_Weighted)) (c__law_opened_by_base : Cal P w K mg base CX0 10 "_law_opened_by_base" ["_law_rule", "_law_prices_here", "_law_chairs", "_law_come"] (sp__law_opened_by_base C_Season C_Ratio C_Weighted)) (c__law_asked : Cal P w K mg base CX0 8 "_law_asked" ["_law_season", "_law_way", "_law_s", "_law_b"] (sp__law_asked C_Season C_Ratio C_Weighted)) (c__law_asked_by_base : Cal P w K mg base CX0 8 "_law_asked_by_base" ["_law_season", "_law_way", "_law_s", "_law_b"] (sp__law_asked_by_base C_Season C_Ratio C_Weighted)) (c__law_nothing : Cal P w K mg base CX0 3 "_law_nothing" ["_law_answer", "_law_way"] (sp__law_nothing C_Ratio)) (c__law_fields : Cal P w K mg base CX0 3 "_law_fields" ["_law_season", "_law_weights", "_law_apart", "_law_prices_here", "_law_chairs", "_law_come"] (sp__law_fields C_Season C_Ratio C_Weighted)) : FnOk P w K mg base CX0 11 f fd ["_law_script"] (sp_law K) := by
  refine F.ok sc_law (fun vs H Q E h => ?_) (fun cdv A outer s H vs Q E hr h => ?_)
  · obtain ⟨a, ns, rfl, _⟩ := h
    rfl
  · obtain ⟨a, ns, rfl, hS, hlen, q⟩ := h
    obtain ⟨f_Weighted___init__, fd_Weighted___init__, G_Weighted___init__, M_Weighted___init__, b_Weighted___init__, ds_Weighted___init__, vd_Weighted___init__, bd_Weighted___init__⟩ := c_Weighted___init__
    obtain ⟨f__law_cell, fd__law_cell, G__law_cell, m__law_cell, k__law_cell, b__law_cell⟩ := c__law_cell
    obtain ⟨f__law_draws, fd__law_draws, G__law_draws, m__law_draws, k__law_draws, b__law_draws⟩ := c__law_draws
    obtain ⟨f__law_refused, fd__law_refused, G__law_refused, m__law_refused, k__law_refused, b__law_refused⟩ := c__law_refused
    obtain ⟨f__law_near_or_far, fd__law_near_or_far, G__law_near_or_far, m__law_near_or_far, k__law_near_or_far, b__law_near_or_far⟩ := c__law_near_or_far
    obtain ⟨f__law_prices, fd__law_prices, G__law_prices, m__law_prices, k__law_prices, b__law_prices⟩ := c__law_prices
    obtain ⟨f__law_due, fd__law_due, G__law_due, m__law_due, k__law_due, b__law_due⟩ := c__law_due
    obtain ⟨f__law_opened, fd__law_opened, G__law_opened, m__law_opened, k__law_opened, b__law_opened⟩ := c__law_opened
    obtain ⟨f__law_opened_by_base, fd__law_opened_by_base, G__law_opened_by_base, m__law_opened_by_base, k__law_opened_by_base, b__law_opened_by_base⟩ := c__law_opened_by_base
    obtain ⟨f__law_asked, fd__law_asked, G__law_asked, m__law_asked, k__law_asked, b__law_asked⟩ := c__law_asked
    obtain ⟨f__law_asked_by_base, fd__law_asked_by_base, G__law_asked_by_base, m__law_asked_by_base, k__law_asked_by_base, b__law_asked_by_base⟩ := c__law_asked_by_base
    obtain ⟨f__law_nothing, fd__law_nothing, G__law_nothing, m__law_nothing, k__law_nothing, b__law_nothing⟩ := c__law_nothing
    obtain ⟨f__law_fields, fd__law_fields, G__law_fields, m__law_fields, k__law_fields, b__law_fields⟩ := c__law_fields
    refine ⟨_, (pss_cons (ps_set (i := 1) sc_law.nd rfl (Or.inl rfl) (pe_call G__law_draws (hr.mono (by decide)) (by rfl) m__law_draws k__law_draws b__law_draws .nil pass0 (pa_cons (pe_call G__law_cell (hr.mono (by decide)) (by rfl) m__law_cell k__law_cell b__law_cell .nil pass0 (pa_cons (pv 0) (pa_cons pe_int pa_nil))) (pa_cons (pe_lst (pa_cons pe_int (pa_cons pe_int (pa_cons pe_int (pa_cons pe_int (pa_cons pe_int (pa_cons pe_int (pa_cons pe_int (pa_cons (pe_op op_pow pe_int pe_int) (pa_cons pe_int (pa_cons pe_int (pa_cons pe_int (pa_cons (pe_op op_pow pe_int pe_int) pa_nil))))))))))))) pa_nil))))
      (pss_cons (ps_set (i := 2) sc_law.nd rfl (Or.inl rfl) (pe_call G__law_draws (hr.mono (by decide)) (by rfl) m__law_draws k__law_draws b__law_draws .nil pass0 (pa_cons (pe_call G__law_cell (hr.mono (by decide)) (by rfl) m__law_cell k__law_cell b__law_cell .nil pass0 (pa_cons (pv 0) (pa_cons pe_int pa_nil))) (pa_cons (pe_lst (pa_cons pe_int (pa_cons pe_int (pa_cons pe_int (pa_cons (pe_op op_pow pe_int pe_int) (pa_cons pe_int (pa_cons pe_int (pa_cons pe_int (pa_cons (pe_op op_pow pe_int pe_int) pa_nil))))))))) pa_nil))))
      (pss_cons (ps_set (i := 3) sc_law.nd rfl (Or.inl rfl) (pe_call G__law_draws (hr.mono (by decide)) (by rfl) m__law_draws k__law_draws b__law_draws .nil pass0 (pa_cons (pe_call G__law_cell (hr.mono (by decide)) (by rfl) m__law_cell k__law_cell b__law_cell .nil pass0 (pa_cons (pv 0) (pa_cons pe_int pa_nil))) (pa_cons (pe_lst (pa_cons pe_int (pa_cons pe_int (pa_cons pe_int (pa_cons pe_int (pa_cons pe_int (pa_cons pe_int (pa_cons pe_int pa_nil)))))))) pa_nil))))
      (pss_cons (ps_set (i := 4) sc_law.nd rfl (Or.inl rfl) (pe_ix ix_list (pv 1) pe_int (fun _ _ => rfl)))
      (pss_cons (ps_setLc (i := 5) (own := [("_law_number", 18)]) (g := (gName 18)) (tt := tYes) rfl sc_law.nd rfl rfl (sw_true rfl rfl rfl (by decide +kernel)) (pi_list (pe_slice sl_list (pv 3) po_none (po_some (pv 4)))) (blkOk_by (own := [("_law_number", 18)]) (N := ["_law_script", "_law_drawn", "_law_asked_here", "_law_row", "_law_many", "_law_weights", "_law_apart", "_law_prices_here", "_law_chairs", "_law_come", "_law_s", "_law_b", "_law_rule", "_law_passed", "_law_due_here", "_law_answer", "_law_season", "_law_way", "_law_number"]) (sc := defScope s_law) (by decide +kernel)) (fun _ _ _ _ _ => (pg_name (i := 18) sc_law.nd rfl (Or.inl rfl))) (fun _ _ _ _ _ => pts_nil) (fun _ _ _ _ _ => (pe_op op_add pe_int (pv 18))))
      (pss_cons (ps_set (i := 6) sc_law.nd rfl (Or.inl rfl) (pe_op op_add pe_int (pe_ix ix_list (pv 3) pe_int (fun _ _ => rfl))))
      (pss_cons (ps_set (i := 7) sc_law.nd rfl (Or.inl rfl) (pe_call G__law_prices (hr.mono (by decide)) (by rfl) m__law_prices k__law_prices b__law_prices .nil pass0 (pa_cons (pe_ix ix_list (pv 1) pe_int (fun _ _ => rfl)) (pa_cons (pe_slice sl_list (pv 1) (po_some pe_int) (po_some pe_int)) (pa_cons (pe_slice sl_list (pv 3) (po_some pe_int) (po_some (pe_op op_add pe_int (pv 4)))) pa_nil)))))
      (pss_cons (ps_set (i := 8) sc_law.nd rfl (Or.inl rfl) (pe_call G__law_near_or_far (hr.mono (by decide)) (by rfl) m__law_near_or_far k__law_near_or_far b__law_near_or_far .nil pass0 (pa_cons (pe_ix ix_list (pv 1) pe_int (fun _ _ => rfl)) (pa_cons (pe_ix ix_list (pv 1) pe_int (fun _ _ => rfl)) (pa_cons (pe_ix ix_list (pv 1) pe_int (fun _ _ => rfl)) (pa_cons (pe_ix ix_list (pv 1) pe_int (fun _ _ => rfl)) pa_nil))))))
      (pss_cons (ps_set (i := 9) sc_law.nd rfl (Or.inl rfl) (pe_call G__law_near_or_far (hr.mono (by decide)) (by rfl) m__law_near_or_far k__law_near_or_far b__law_near_or_far .nil pass0 (pa_cons (pe_ix ix_list (pv 1) pe_int (fun _ _ => rfl)) (pa_cons (pe_ix ix_list (pv 1) pe_int (fun _ _ => rfl)) (pa_cons (pe_ix ix_list (pv 1) pe_int (fun _ _ => rfl)) (pa_cons (pe_ix ix_list (pv 1) pe_int (fun _ _ => rfl)) pa_nil))))))
      (pss_cons (ps_set (i := 10) sc_law.nd rfl (Or.inl rfl) (pe_call G__law_near_or_far (hr.mono (by decide)) (by rfl) m__law_near_or_far k__law_near_or_far b__law_near_or_far .nil pass0 (pa_cons (pe_ix ix_list (pv 2) pe_int (fun _ _ => rfl)) (pa_cons (pe_ix ix_list (pv 2) pe_int (fun _ _ => rfl)) (pa_cons (pe_ix ix_list (pv 2) pe_int (fun _ _ => rfl)) (pa_cons (pe_ix ix_list (pv 2) pe_int (fun _ _ => rfl)) pa_nil))))))
      (pss_cons (ps_set (i := 11) sc_law.nd rfl (Or.inl rfl) (pe_call G__law_near_or_far (hr.mono (by decide)) (by rfl) m__law_near_or_far k__law_near_or_far b__law_near_or_far .nil pass0 (pa_cons (pe_ix ix_list (pv 2) pe_int (fun _ _ => rfl)) (pa_cons (pe_ix ix_list (pv 2) pe_int (fun _ _ => rfl)) (pa_cons (pe_ix ix_list (pv 2) pe_int (fun _ _ => rfl)) (pa_cons (pe_ix ix_list (pv 2) pe_int (fun _ _ => rfl)) pa_nil))))))
      (pss_cons (ps_set (i := 12) sc_law.nd rfl (Or.inl rfl) (pe_make M_Weighted___init__ G_Weighted___init__ (hr.mono (by decide)) (by rfl) T.g_Weighted b_Weighted___init__ .nil passL (pa_cons (pe_callTy call_list_of (by rfl) m_list (by decide +kernel) (pa_cons (pv 5) pa_nil)) (pa_cons (pv 6) pa_nil))))
      (pss_cons (ps_set (i := 13) sc_law.nd rfl (Or.inl rfl) (pe_callTy call_list_of (by rfl) m_list (by decide +kernel) (pa_cons (pv 7) pa_nil)))
      (Evl.pss_cut (ps_set (i := 14) sc_law.nd rfl (Or.inl rfl) (pe_call G__law_due (hr.mono (by decide)) (by rfl) m__law_due k__law_due b__law_due .nil pass0 (pa_cons (pv 7) (pa_cons (pv 4) (pa_cons (pv 8) (pa_cons (pv 9) pa_nil))))))
      (pss_cons (ps_set (i := 15) sc_law.nd rfl (Or.inl rfl) (pe_call G__law_opened (hr.mono (by decide)) (by rfl) m__law_opened k__law_opened b__law_opened .nil pass0 (pa_cons (pv 12) (pa_cons (pv 13) (pa_cons (pv 8) (pa_cons (pv 9) pa_nil))))))
      (pss_cons (ps_if (pt_cmpR (op_neD hr.units) (pv 13) (pv 7) (nomark _)) (pss_one (ps_ret pe_bl)) pss_nil)
      (pss_cons (ps_if (pt_cmpR op_eq (pe_ix ix_tup (pv 14) pe_int (fun _ _ => rfl)) pe_str (nomark _)) (pss_one (ps_ret (pe_and (pe_call G__law_refused (hr.mono (by decide)) (by rfl) m__law_refused k__law_refused b__law_refused .nil pass0 (pa_cons (pv 15) (pa_cons (pv 14) pa_nil))) (pe_one (pe_call G__law_opened_by_base (hr.mono (by decide)) (by rfl) m__law_opened_by_base k__law_opened_by_base b__law_opened_by_base .nil pass0 (pa_cons (pv 12) (pa_cons (pv 13) (pa_cons (pv 8) (pa_cons (pv 9) pa_nil))))))))) pss_nil)
      (pss_cons (ps_if (PW.pt (pw_or (pt_cmpR op_ne (pe_callB call_len_seq (by rfl) m_len (by decide +kernel) (pa_cons (pv 15) pa_nil)) pe_int (nomark _)) (pw_or1 (pt_cmpR op_ne (pe_ix ix_tup (pv 15) pe_int (fun _ _ => rfl)) pe_str (nomark _))))) (pss_one (ps_ret pe_bl)) pss_nil)
      (pss_cons (ps_set (i := 16) sc_law.nd rfl (Or.inl rfl) (pe_ix ix_tup (pv 15) pe_int (fun _ _ => rfl)))
      (pss_cons (ps_expr (pe_bm PySem.F.plainAttrs_list PySem.F.slot_list_append PySem.F.type_list_append mt_append (pv 13) (pa_cons pe_int pa_nil)))
      (pss_cons (ps_asg (pe_op op_add (pe_ix ix_list (pv 13) pe_int (fun _ _ => rfl)) pe_int) (pg_sub (pv 13) pe_int set_list))
      (pss_cons (ps_if (pt_not (pt_val (pe_call G__law_fields (hr.mono (by decide)) (by rfl) m__law_fields k__law_fields b__law_fields .nil pass0 (pa_cons (pv 16) (pa_cons (pv 5) (pa_cons (pv 6) (pa_cons (pv 7) (pa_cons (pv 8) (pa_cons (pv 9) pa_nil))))))))) (pss_one (ps_ret pe_bl)) pss_nil)
      (pss_cons (ps_set (i := 14) sc_law.nd rfl (Or.inl rfl) (pe_tup (pa_cons pe_str pa_nil)))
      (Evl.pss_cut (ps_if (PW.pt (pw_or (pt_cmpR op_lt (pv 10) pe_int (nomark _)) (pw_or1 (pt_cmpR op_gt (pv 10) (pv 8) (nomark _))))) (pss_one (ps_set (i := 14) sc_law.nd rfl (Or.inl rfl) (pe_tup (pa_cons pe_str (pa_cons pe_str (pa_cons pe_non pa_nil)))))) (pss_one (ps_if (PW.pt (pw_or (pt_cmpR op_lt (pv 11) pe_int (nomark _)) (pw_or1 (pt_cmpR op_gt (pv 11) (pv 9) (nomark _))))) (pss_one (ps_set (i := 14) sc_law.nd rfl (Or.inl rfl) (pe_tup (pa_cons pe_str (pa_cons pe_str (pa_cons pe_non pa_nil)))))) pss_nil)))
      (pss_cons (ps_for PassesOwn.never rfl (pi_range1 (by rfl) m_range (pa_cons pe_int pa_nil)) (pg_name (i := 17) sc_law.nd rfl (Or.inl rfl))
      (pss_cons (ps_set (i := 15) sc_law.nd rfl (Or.inl rfl) (pe_call G__law_asked (hr.mono (by decide)) (by rfl) m__law_asked k__law_asked b__law_asked .nil pass0 (pa_cons (pv 16) (pa_cons (pv 17) (pa_cons (pv 10) (pa_cons (pv 11) pa_nil))))))
      (pss_cons (ps_if (PW.pt (pw_and (pt_cmpR op_eq (pe_ix ix_tup (pv 14) pe_int (fun _ _ => rfl)) pe_str (nomark _)) (pw_and1 (pt_cmpR op_ne (pe_ix ix_tup (pv 15) pe_int (fun _ _ => rfl)) pe_str (nomark _))))) (pss_one (ps_ret pe_bl)) pss_nil)
      (Evl.pss_cut (ps_if (PW.pt (pw_and (pt_cmpR op_eq (pe_ix ix_tup (pv 14) pe_int (fun _ _ => rfl)) pe_str (nomark _)) (pw_and (pt_cmpR op_eq (pe_op op_mul (pv 10) (pv 11)) pe_int (nomark _)) (pw_and1 (pt_not (pt_val (pe_call G__law_nothing (hr.mono (by decide)) (by rfl) m__law_nothing k__law_nothing b__law_nothing .nil pass0 (pa_cons (pv 15) (pa_cons (pv 17) pa_nil))))))))) (pss_one (ps_ret pe_bl)) pss_nil)
      (pss_cons (ps_if (PW.pt (pw_and (pt_cmpR op_eq (pe_ix ix_tup (pv 14) pe_int (fun _ _ => rfl)) pe_str (nomark _)) (pw_and1 (pt_not (pt_val (pe_call G__law_refused (hr.mono (by decide)) (by rfl) m__law_refused k__law_refused b__law_refused .nil pass0 (pa_cons (pv 15) (pa_cons (pv 14) pa_nil)))))))) (pss_one (ps_ret pe_bl)) pss_nil)
      (pss_cons (ps_if (PW.pt (pw_and (pt_cmpR op_eq (pe_ix ix_tup (pv 14) pe_int (fun _ _ => rfl)) pe_str (nomark _)) (pw_and1 (pt_not (pt_val (pe_call G__law_asked_by_base (hr.mono (by decide)) (by rfl) m__law_asked_by_base k__law_asked_by_base b__law_asked_by_base .nil pass0 (pa_cons (pv 16) (pa_cons (pv 17) (pa_cons (pv 10) (pa_cons (pv 11) pa_nil)))))))))) (pss_one (ps_ret pe_bl)) pss_nil)
      (pss_cons (ps_if (pt_not (pt_val (pe_call G__law_nothing (hr.mono (by decide)) (by rfl) m__law_nothing k__law_nothing b__law_nothing .nil pass0 (pa_cons (pe_call G__law_asked (hr.mono (by decide)) (by rfl) m__law_asked k__law_asked b__law_asked .nil pass0 (pa_cons (pv 16) (pa_cons (pv 17) (pa_cons pe_int (pa_cons (pv 9) pa_nil))))) (pa_cons (pv 17) pa_nil))))) (pss_one (ps_ret pe_bl)) pss_nil)
      (pss_one (ps_if (pt_not (pt_val (pe_call G__law_nothing (hr.mono (by decide)) (by rfl) m__law_nothing k__law_nothing b__law_nothing .nil pass0 (pa_cons (pe_call G__law_asked (hr.mono (by decide)) (by rfl) m__law_asked k__law_asked b__law_asked .nil pass0 (pa_cons (pv 16) (pa_cons (pv 17) (pa_cons (pv 8) (pa_cons pe_int pa_nil))))) (pa_cons (pv 17) pa_nil))))) (pss_one (ps_ret pe_bl)) pss_nil)))))))))
      (pss_one (ps_ret (pe_call G__law_fields (hr.mono (by decide)) (by rfl) m__law_fields k__law_fields b__law_fields .nil pass0 (pa_cons (pv 16) (pa_cons (pv 5) (pa_cons (pv 6) (pa_cons (pv 7) (pa_cons (pv 8) (pa_cons (pv 9) pa_nil)))))))))))))))))))))))))))))))))), ?_⟩
    refine ⟨.ref a, rfl, a, ns, 0, rfl, hS, fun c1 => ?_⟩
    refine ⟨10, 18, rfl, rfl, ⟨by decide, by decide, by decide⟩, 10, 18, rfl, rfl, ⟨by decide, by decide, by decide⟩, (by show 12 ≤ sizeLine; decide), fun p1 np1 => ?_⟩
    refine ⟨c1, p1, [4, 8, 6, 6, 5, 15, 2, 1000000000000000000, 5, 15, 2, 1000000000000000000], rfl, lst_l upd_same, by decide, by decide, fun dsd1 H1 d1 wd1 s1 nd1 hd1 => ?_⟩
    have s1 : Same H H1 := (same_upd np1).trans s1
    have nd1 : H d1 = none := (same_upd np1).free nd1
    obtain ⟨x0, rx0, rfl, lx0, ux0, wd1⟩ := wd1.c
    obtain ⟨x1, rx1, rfl, lx1, ux1, wd1⟩ := wd1.c
    obtain ⟨x2, rx2, rfl, lx2, ux2, wd1⟩ := wd1.c
    obtain ⟨x3, rx3, rfl, lx3, ux3, wd1⟩ := wd1.c
    obtain ⟨x4, rx4, rfl, lx4, ux4, wd1⟩ := wd1.c
    obtain ⟨x5, rx5, rfl, lx5, ux5, wd1⟩ := wd1.c
    obtain ⟨x6, rx6, rfl, lx6, ux6, wd1⟩ := wd1.c
    obtain ⟨x7, rx7, rfl, lx7, ux7, wd1⟩ := wd1.c
    obtain ⟨x8, rx8, rfl, lx8, ux8, wd1⟩ := wd1.c
    obtain ⟨x9, rx9, rfl, lx9, ux9, wd1⟩ := wd1.c
    obtain ⟨x10, rx10, rfl, lx10, ux10, wd1⟩ := wd1.c
    obtain ⟨x11, rx11, rfl, lx11, ux11, wd1⟩ := wd1.c
    cases wd1.n
    have Ld1 : SqL K H1 d1 ([x0, x1, x2, x3, x4, x5, x6, x7, x8, x9, x10, x11].map V.int) := lst_l hd1
    refine ⟨.ref a, rfl, a, ns, 1, rfl, (s1.seq hS), fun c2 => ?_⟩
    refine ⟨10, 18, rfl, rfl, ⟨by decide, by decide, by decide⟩, 10, 18, rfl, rfl, ⟨by decide, by decide, by decide⟩, (by show 8 ≤ sizeLine; decide), fun p2 np2 => ?_⟩
    refine ⟨c2, p2, [5, 16, 2, 1000000000000000000, 5, 16, 2, 1000000000000000000], rfl, lst_l upd_same, by decide, by decide, fun dsd2 H2 d2 wd2 s2 nd2 hd2 => ?_⟩
    have s2 : Same H1 H2 := (same_upd np2).trans s2
    have nd2 : H1 d2 = none := (same_upd np2).free nd2
    obtain ⟨y0, ry0, rfl, ly0, uy0, wd2⟩ := wd2.c
    obtain ⟨y1, ry1, rfl, ly1, uy1, wd2⟩ := wd2.c
    obtain ⟨y2, ry2, rfl, ly2, uy2, wd2⟩ := wd2.c
    obtain ⟨y3, ry3, rfl, ly3, uy3, wd2⟩ := wd2.c
    obtain ⟨y4, ry4, rfl, ly4, uy4, wd2⟩ := wd2.c
    obtain ⟨y5, ry5, rfl, ly5, uy5, wd2⟩ := wd2.c
    obtain ⟨y6, ry6, rfl, ly6, uy6, wd2⟩ := wd2.c
    obtain ⟨y7, ry7, rfl, ly7, uy7, wd2⟩ := wd2.c
    cases wd2.n
    have Ld2 : SqL K H2 d2 ([y0, y1, y2, y3, y4, y5, y6, y7].map V.int) := lst_l hd2
    refine ⟨.ref a, rfl, a, ns, 2, rfl, ((s1.trans s2).seq hS), fun c3 => ?_⟩
    refine ⟨(by show 7 ≤ sizeLine; decide), fun p3 np3 => ?_⟩
    refine ⟨c3, p3, [9, 9, 9, 9, 10, 10, 10], rfl, lst_l upd_same, by decide, by decide, fun dsd3 H3 d3 wd3 s3 nd3 hd3 => ?_⟩
    have s3 : Same H2 H3 := (same_upd np3).trans s3
    have nd3 : H2 d3 = none := (same_upd np3).free nd3
    obtain ⟨z0, rz0, rfl, lz0, uz0, wd3⟩ := wd3.c
    obtain ⟨z1, rz1, rfl, lz1, uz1, wd3⟩ := wd3.c
    obtain ⟨z2, rz2, rfl, lz2, uz2, wd3⟩ := wd3.c
    obtain ⟨z3, rz3, rfl, lz3, uz3, wd3⟩ := wd3.c
    obtain ⟨z4, rz4, rfl, lz4, uz4, wd3⟩ := wd3.c
    obtain ⟨z5, rz5, rfl, lz5, uz5, wd3⟩ := wd3.c
    obtain ⟨z6, rz6, rfl, lz6, uz6, wd3⟩ := wd3.c
    cases wd3.n
    have Ld3 : SqL K H3 d3 ([z0, z1, z2, z3, z4, z5, z6].map V.int) := lst_l hd3
    have La := (s2.trans s3).seq Ld1
    have Lb := s3.seq Ld2
    have bz : ∀ n ∈ [z0, z1, z2, z3, z4, z5, z6], 0 ≤ n ∧ n < 10 := fun n hn => by
      simp only [List.mem_cons, List.not_mem_nil, or_false] at hn
      rcases hn with rfl | rfl | rfl | rfl | rfl | rfl | rfl <;> omega
    obtain ⟨m, rfl⟩ : ∃ m : Nat, x0 = (m : Int) := ⟨x0.toNat, by omega⟩
    have m3 : m ≤ 3 := by omega
    refine ⟨.ref d1, rfl, d1, _, _, _, rfl, rfl, La, atI_nat (j := 0) rfl, ?_⟩
    refine ⟨.ref d3, rfl, _, rfl, (m : Int), rfl, d3, _, rfl, Ld3, fun W0 nW0 => ?_⟩
    rw [show cutV ([z0, z1, z2, z3, z4, z5, z6].map V.int) none (some (m : Int)) = ([z0, z1, z2, z3, z4, z5, z6].take m).map V.int from (cut_to _ m).trans (List.map_take).symm]
    have s4 := same_upd (o := .lst (([z0, z1, z2, z3, z4, z5, z6].take m).map V.int)) nW0
    have hW0 : upd H3 W0 (.lst (([z0, z1, z2, z3, z4, z5, z6].take m).map V.int)) W0 = some (.lst (([z0, z1, z2, z3, z4, z5, z6].take m).map V.int)) := upd_same
    generalize upd H3 W0 (.lst (([z0, z1, z2, z3, z4, z5, z6].take m).map V.int)) = H4 at s4 hW0 ⊢
    refine ⟨W0, rfl, ⟨_, lst_l hW0⟩, fun W nW => lc_list (K := K) (a := W0) (xs := ([z0, z1, z2, z3, z4, z5, z6].take m).map V.int) (fun i H' => Same H4 H' ∧ H' W = some (.lst (((([z0, z1, z2, z3, z4, z5, z6].take m).take i).map fun n => 1 + n).map V.int))) ⟨same_upd nW, upd_same⟩ (fun i H' _ ⟨s, _⟩ => lst_l (s _ _ hW0)) ?_ ?_⟩
    · rintro i x H' hi ⟨s, hD⟩
      obtain ⟨n, rfl, hin⟩ := int_of hi
      refine ⟨rfl, ?_⟩
      refine lc_yes ?_
      refine iteT ?_
      refine ⟨_, rfl, _, _, rfl, rfl, _, hD, ?_, same_mut s nW, ?_⟩
      · rw [List.length_map, List.length_map, List.length_take, List.length_take]
        exact small1000 (by omega)
      · rw [upd_same, List.take_add_one, hin, List.map_append, List.map_append]
        rfl
    rintro H5 ⟨s5, hW⟩
    rw [List.length_map, List.take_length] at hW
    have s35 := s4.trans s5
    obtain ⟨ws, ews⟩ : ∃ ws, ws = ([z0, z1, z2, z3, z4, z5, z6].take m).map fun n => 1 + n := ⟨_, rfl⟩
    have wl : ws.length = m := by
      rw [ews, List.length_map, List.length_take]
      show min m 7 = m
      omega
    have bw : ∀ w ∈ ws, 1 ≤ w ∧ w ≤ 10 ^ 18 := fun w hw => by
      rw [ews] at hw
      obtain ⟨n, hn, rfl⟩ := List.mem_map.mp hw
      have := bz n (List.mem_of_mem_take hn)
      omega
    rw [← ews] at hW
    clear ews hW0 nW nW0 s4 s5
    have Lc := s35.seq Ld3
    have La := s35.seq La
    have Lb := s35.seq Lb
    refine ⟨.ref d3, rfl, d3, _, _, _, rfl, rfl, Lc, atI_nat (j := 3) rfl, _, _, rfl, rfl, ?_⟩
    dsimp only
    obtain ⟨ap, eap⟩ : ∃ ap, ap = 1 + z3 := ⟨_, rfl⟩
    rw [← eap]
    refine ⟨.ref d1, rfl, d1, _, _, _, rfl, rfl, La, atI_nat (j := 1) rfl, .ref d1, rfl, 2, rfl, 4, rfl, d1, _, rfl, La, fun l nl => ?_⟩
    rw [cut_24]
    refine ⟨.ref d3, rfl, 4, rfl, _, rfl, _, _, rfl, rfl, (4 + (m : Int)), rfl, d3, _, rfl, (same_upd nl).seq Lc, fun rl nrl => ?_⟩
    rw [cut_47 z0 z1 z2 z3 z4 z5 z6 m3]
    have s6 := same_upd (o := .lst ([x2, x3].map V.int)) nl
    have s7 := same_upd (o := .lst (([z4, z5, z6].take m).map V.int)) nrl
    have hl := s7 _ _ (upd_same (H := H5) (a := l) (o := .lst ([x2, x3].map V.int)))
    have hrl := upd_same (H := upd H5 l (.lst ([x2, x3].map V.int))) (a := rl) (o := .lst (([z4, z5, z6].take m).map V.int))
    refine ⟨x1, x2, x3, l, rl, [z4, z5, z6].take m, rfl, hl, hrl, ?_, lx2, lx3, fun p hp => ?_, fun H8 P ps s8 nP hP lp bp => ?_⟩
    · rw [List.length_take]
      exact Nat.le_trans (Nat.min_le_left _ _) m3
    · have hp := List.mem_of_mem_take hp
      have := bz p (List.mem_cons_of_mem _ (List.mem_cons_of_mem _ (List.mem_cons_of_mem _ (List.mem_cons_of_mem _ hp))))
      omega
    have s58 := (s6.trans s7).trans s8
    clear hl hrl s6 s7 s8 nrl nl nP
    have hW := s58 _ _ hW
    have La := s58.seq La
    have Lb := s58.seq Lb
    have fi : Fine ws ap ps := ⟨by omega, fun w h => (bw w h).1, fun w h => (bw w h).2, by omega, by omega, bp⟩
    clear bw bz Lc
    refine ⟨.ref d1, rfl, d1, _, _, _, rfl, rfl, La, atI_nat (j := 4) rfl, .ref d1, rfl, d1, _, _, _, rfl, rfl, La, atI_nat (j := 5) rfl, .ref d1, rfl, d1, _, _, _, rfl, rfl, La, atI_nat (j := 6) rfl, .ref d1, rfl, d1, _, _, _, rfl, rfl, La, atI_nat (j := 7) rfl, _, _, _, _, rfl, fun v1 => ?_⟩
    refine ⟨.ref d1, rfl, d1, _, _, _, rfl, rfl, La, atI_nat (j := 8) rfl, .ref d1, rfl, d1, _, _, _, rfl, rfl, La, atI_nat (j := 9) rfl, .ref d1, rfl, d1, _, _, _, rfl, rfl, La, atI_nat (j := 10) rfl, .ref d1, rfl, d1, _, _, _, rfl, rfl, La, atI_nat (j := 11) rfl, _, _, _, _, rfl, fun v2 => ?_⟩
    refine ⟨.ref d2, rfl, d2, _, _, _, rfl, rfl, Lb, atI_nat (j := 0) rfl, .ref d2, rfl, d2, _, _, _, rfl, rfl, Lb, atI_nat (j := 1) rfl, .ref d2, rfl, d2, _, _, _, rfl, rfl, Lb, atI_nat (j := 2) rfl, .ref d2, rfl, d2, _, _, _, rfl, rfl, Lb, atI_nat (j := 3) rfl, _, _, _, _, rfl, fun sv => ?_⟩
    refine ⟨.ref d2, rfl, d2, _, _, _, rfl, rfl, Lb, atI_nat (j := 4) rfl, .ref d2, rfl, d2, _, _, _, rfl, rfl, Lb, atI_nat (j := 5) rfl, .ref d2, rfl, d2, _, _, _, rfl, rfl, Lb, atI_nat (j := 6) rfl, .ref d2, rfl, d2, _, _, _, rfl, rfl, Lb, atI_nat (j := 7) rfl, _, _, _, _, rfl, fun bv => ?_⟩
    refine ⟨.ref W, rfl, W, _, rfl, .inl (lst_l hW), fun lw nlw => ?_⟩
    have s9 := same_upd (o := .lst (ws.map V.int)) nlw
    have hlw : upd H8 lw (.lst (ws.map V.int)) lw = some (.lst (ws.map V.int)) := upd_same
    generalize upd H8 lw (.lst (ws.map V.int)) = H9 at s9 hlw ⊢
    refine ⟨_, rfl, mk_w hlw (by omega) fi.w1 (by have := fi.b1; omega) fun rp dr tr H10 s10 np w => ?_⟩
    have s8x := s9.trans s10
    have hW := s8x _ _ hW
    have hP := s8x _ _ hP
    refine ⟨.ref P, rfl, P, _, rfl, .inl (lst_l hP), fun lq nlq => ?_⟩
    have s11 := same_upd (o := .lst (ps.map V.int)) nlq
    have hlq : upd H10 lq (.lst (ps.map V.int)) lq = some (.lst (ps.map V.int)) := upd_same
    have nW : W ≠ lq := ne_of_none hW nlq
    have nP : P ≠ lq := ne_of_none hP nlq
    have hW := s11 _ _ hW
    have hP := s11 _ _ hP
    have w := w.same s11
    generalize upd H10 lq (.lst (ps.map V.int)) = H11 at s11 hlq hW hP w ⊢
    refine ⟨fun σ' H' => ∃ u, Same H11 H' ∧ H' u = some (.tup (dueT (dueS ps ws.length v1 v2))) ∧ σ' = [some (.ref a), some (.ref d1), some (.ref d2), some (.ref d3), some (.int (m : Int)), some (.ref W), some (.int ap), some (.ref P), some (.int v1), some (.int v2), some (.int sv), some (.int bv), some (.ref rp), some (.ref lq), some (.ref u), none, none, none, none], ?_, ?_⟩
    · refine ⟨_, rfl, _, rfl, _, rfl, _, rfl, P, ps, m, v1, v2, rfl, hP, by omega, fun H12 u s12 hu => ?_⟩
      exact ⟨u, s12, by rw [wl]; exact hu, rfl⟩
    rintro σ' H12 ⟨u, s12, hu, rfl⟩
    have hW := s12 _ _ hW
    have hP := s12 _ _ hP
    have hlq := s12 _ _ hlq
    have w := w.same s12
    clear s11 s12 s8x s9 s10 hlw nlq nlw s58 s35 La Lb s1 s2 s3 Ld1 Ld2 Ld3 hd1 hd2 hd3
    refine ⟨_, rfl, _, rfl, _, rfl, _, rfl, rp, dr, tr, lq, ws, ps, ap, v1, v2, rfl, w, hlq, fi, by omega, by omega, fun wh at_ e H13 v s13 hv => ?_, fun e S N es en S12 N12 fs H13 v z cx tp L D X s13 hv sa => ?_⟩
    · rw [e] at hu
      have hu := s13 _ _ hu
      have hu : H13 u = some (.tup [.str "number", .str wh, at_]) := hu
      refine ⟨_, rfl, _, rfl, _, _, dp_ints (lst_l (s13 _ _ hlq)), dp_ints (lst_l (s13 _ _ hP)), sh_ints _, sh_ints _, false, (by rw [SeqAt.eqv_refl _ (SeqAt.canLay_of_shaped (sh_ints _))]; rfl), iteF ?_⟩
      refine ⟨.ref u, rfl, u, _, _, _, rfl, rfl, tup_t hu, atI_nat (j := 0) rfl, rfl, _, rfl, iteD rfl ?_⟩
      exact ⟨_, rfl, _, rfl, v, u, wh, at_, rfl, hv, hu, dueS_x e, true, rfl, iteT ⟨_, rfl, _, rfl, _, rfl, _, rfl, rp, dr, tr, lq, ws, ps, ap, v1, v2, rfl, w.same s13, s13 _ _ hlq, fi, by omega, by omega, by rw [e]; exact Option.some_ne_none _, fun H14 s14 => q _⟩⟩
    rw [e] at hu
    have hu := s13 _ _ hu
    have hu : H13 u = some (.tup [.str "made"]) := hu
    have hlq := s13 _ _ hlq
    have hW := s13 _ _ hW
    have hP := s13 _ _ hP
    clear s13
    refine ⟨_, rfl, _, rfl, _, _, dp_ints (lst_l hlq), dp_ints (lst_l hP), sh_ints _, sh_ints _, false, (by rw [SeqAt.eqv_refl _ (SeqAt.canLay_of_shaped (sh_ints _))]; rfl), iteF ?_⟩
    refine ⟨.ref u, rfl, u, _, _, _, rfl, rfl, tup_t hu, atI_nat (j := 0) rfl, rfl, _, rfl, iteDF (fun z => by cases z) ?_⟩
    refine ⟨.ref v, rfl, v, _, rfl, .inr (tup_t hv), rfl, _, rfl, iteNS rfl ?_⟩
    refine ⟨.ref v, rfl, v, _, _, _, rfl, rfl, tup_t hv, atI_nat (j := 0) rfl, rfl, _, rfl, iteNS rfl ?_⟩
    refine ⟨.ref v, rfl, v, _, _, _, rfl, rfl, tup_t hv, atI_nat (j := 1) rfl, ?_⟩
    subst es en
    have pl := fs.len
    obtain ⟨q0, hq0⟩ : ∃ q0, (ps ++ [7])[0]? = some q0 := ⟨_, List.getElem?_eq_getElem (by rw [List.length_append]; show 0 < ps.length + 1; omega)⟩
    refine ⟨.ref lq, rfl, .inl ⟨rfl, _, lst_l hlq⟩, lq, _, _, rfl, rfl, hlq, by rw [List.length_map]; exact small1000 (by omega), ?_⟩
    have hl2 : upd H13 lq (.lst (ps.map V.int ++ [V.int 7])) lq = some (.lst ((ps ++ [7]).map V.int)) := by rw [upd_same, ← snoc_int]
    have sa := sa.put (o := .lst (ps.map V.int ++ [V.int 7])) hlq
    have hW := (upd_ne (H := H13) (o := .lst (ps.map V.int ++ [V.int 7])) nW).trans hW
    have hP := (upd_ne (H := H13) (o := .lst (ps.map V.int ++ [V.int 7])) nP).trans hP
    generalize upd H13 lq (.lst (ps.map V.int ++ [V.int 7])) = H14 at hl2 sa hW hP ⊢
    clear hu hv hlq w
    refine ⟨.ref lq, rfl, lq, _, _, .int q0, rfl, rfl, lst_l hl2, atI_nat (j := 0) (int_at hq0), _, _, rfl, rfl, ?_⟩
    have ix0 : ixN ((ps ++ [7]).map V.int).length 0 = some 0 := by
      unfold ixN
      rw [List.length_map, List.length_append, if_pos (Int.le_refl _), if_pos (by show (0 : Int) < ((ps.length + 1 : Nat) : Int); omega)]
      rfl
    refine ⟨_, rfl, lq, _, _, 0, rfl, rfl, hl2, ix0, ?_⟩
    have sa := sa.put (o := .lst (((ps ++ [7]).map V.int).set 0 (.int (q0 + 1)))) hl2
    have hW := (upd_ne (H := H14) (o := .lst (((ps ++ [7]).map V.int).set 0 (.int (q0 + 1)))) nW).trans hW
    have hP := (upd_ne (H := H14) (o := .lst (((ps ++ [7]).map V.int).set 0 (.int (q0 + 1)))) nP).trans hP
    generalize upd H14 lq (.lst (((ps ++ [7]).map V.int).set 0 (.int (q0 + 1)))) = H15 at sa hW hP ⊢
    clear hl2 ix0 hq0 nW nP
    refine ⟨_, rfl, _, rfl, _, rfl, _, rfl, _, rfl, _, rfl, z, cx, rp, dr, tr, tp, L, W, P, ws, ap, ps, S, N, D, X, rfl, sa, fs, hW, hP, fun H16 s16 => ⟨true, rfl, iteF ?_⟩⟩
    have sa := sa.same s16
    have hW := s16 _ _ hW
    have hP := s16 _ _ hP
    refine ⟨(by show 1 ≤ sizeLine; decide), fun u2 nu2 => ?_⟩
    have s17 := same_upd (o := .tup [V.str "told"]) nu2
    have hu2 : upd H16 u2 (.tup [V.str "told"]) u2 = some (.tup [V.str "told"]) := upd_same
    have sa := sa.same s17
    have hW := s17 _ _ hW
    have hP := s17 _ _ hP
    generalize upd H16 u2 (.tup [V.str "told"]) = H17 at hu2 sa hW hP ⊢
    clear s16 s17
    refine ⟨fun σ' H' => ∃ u3, Same H17 H' ∧ H' u3 = some (.tup (dueU (dueA S N sv bv))) ∧ σ' = [some (.ref a), some (.ref d1), some (.ref d2), some (.ref d3), some (.int (m : Int)), some (.ref W), some (.int ap), some (.ref P), some (.int (S : Int)), some (.int (N : Int)), some (.int sv), some (.int bv), some (.ref rp), some (.ref lq), some (.ref u3), some (.ref v), some (.ref z), none, none], ?_, ?_⟩
    · have RET : ∀ {w : Str}, dueA S N sv bv = some w → ∀ (H' : Hp) (u : Addr), Same H17 H' → H' u = some (.tup [.str "number", .str w, .non]) → ∃ u3, Same H17 H' ∧ H' u3 = some (.tup (dueU (dueA S N sv bv))) ∧ V.ref u = V.ref u3 := fun e H' u s h => ⟨u, s, by rw [e]; exact h, rfl⟩
      refine ⟨_, rfl, _, _, rfl, rfl, _, rfl, ite2 (fun c => iteT ?_) (fun c => ⟨_, rfl, _, rfl, _, _, rfl, rfl, _, rfl, ite2 (fun c2 => ?_) (fun c2 => ?_)⟩)⟩
      · exact ⟨(by show 3 ≤ sizeLine; decide), fun u nu => ⟨u, same_upd nu, by rw [dueA_s (.inl (of_decide_eq_true c))]; exact upd_same, rfl⟩⟩
      · exact ⟨(by show 3 ≤ sizeLine; decide), fun u nu => ⟨u, same_upd nu, by rw [dueA_s (.inr (of_decide_eq_true c2))]; exact upd_same, rfl⟩⟩
      have c : ¬ sv < 0 := fun z => c (decide_eq_true z)
      have c2 : ¬ sv > (S : Int) := fun z => c2 (decide_eq_true z)
      refine ⟨_, rfl, _, _, rfl, rfl, _, rfl, ite2 (fun c3 => iteT ?_) (fun c3 => ⟨_, rfl, _, rfl, _, _, rfl, rfl, _, rfl, ite2 (fun c4 => ?_) (fun c4 => ?_)⟩)⟩
      · exact ⟨(by show 3 ≤ sizeLine; decide), fun u nu => ⟨u, same_upd nu, by rw [dueA_b (by omega) (.inl (of_decide_eq_true c3))]; exact upd_same, rfl⟩⟩
      · exact ⟨(by show 3 ≤ sizeLine; decide), fun u nu => ⟨u, same_upd nu, by rw [dueA_b (by omega) (.inr (of_decide_eq_true c4))]; exact upd_same, rfl⟩⟩
      have c3 : ¬ bv < 0 := fun z => c3 (decide_eq_true z)
      have c4 : ¬ bv > (N : Int) := fun z => c4 (decide_eq_true z)
      exact ⟨u2, Same.refl _, by rw [dueA_no (by omega) (by omega)]; exact hu2, rfl⟩
    rintro σ' H18 ⟨u3, s18, hu3, rfl⟩
    have sa := sa.same s18
    have hW := s18 _ _ hW
    have hP := s18 _ _ hP
    clear hu2 s18
    refine ⟨3, rfl, by decide, by decide, ?_⟩
    refine for_range (lo := 0) (n := 3) (fun i σ H2 => ∃ (y1 y2 : Option V), σ = [some (.ref a), some (.ref d1), some (.ref d2), some (.ref d3), some (.int (m : Int)), some (.ref W), some (.int ap), some (.ref P), some (.int (S : Int)), some (.int (N : Int)), some (.int sv), some (.int bv), some (.ref rp), some (.ref lq), some (.ref u3), y2, some (.ref z), y1, none] ∧ Same H18 H2) ⟨_, _, rfl, Same.refl _⟩ ?_ ?_
    · rintro i σ H2 hi ⟨y1, y2, rfl, s2⟩
      have sa2 := sa.same s2
      have hu3 := s2 _ _ hu3
      refine ⟨_, rfl, _, rfl, _, rfl, _, rfl, z, cx, rp, dr, tr, tp, L, ws, ap, ps, S, N, D, X, sv, bv, i, (by show [V.ref z, V.int (0 + (i : Int)), V.int sv, V.int bv] = _; rw [Int.zero_add]), by omega, sa2, fs, N12, fun wh e H3 v3 s3 hv3 => ?_, fun e H3 v3 x9 s3 hv3 nd => ?_⟩
      · rw [e] at hu3
        have hu3 := s3 _ _ hu3
        have hu3 : H3 u3 = some (.tup [.str "number", .str wh, .non]) := hu3
        refine ⟨.ref u3, rfl, u3, _, _, _, rfl, rfl, tup_t hu3, atI_nat (j := 0) rfl, rfl, _, rfl, iteDF (fun z => by cases z) (iteF ?_)⟩
        refine ⟨fun σ' H' => H3 = H' ∧ σ' = [some (.ref a), some (.ref d1), some (.ref d2), some (.ref d3), some (.int (m : Int)), some (.ref W), some (.int ap), some (.ref P), some (.int (S : Int)), some (.int (N : Int)), some (.int sv), some (.int bv), some (.ref rp), some (.ref lq), some (.ref u3), some (.ref v3), some (.ref z), some (.int (0 + (i : Int))), none], ⟨.ref u3, rfl, u3, _, _, _, rfl, rfl, tup_t hu3, atI_nat (j := 0) rfl, rfl, _, rfl, iteDF (fun z => by cases z) (iteF ⟨rfl, rfl⟩)⟩, ?_⟩
        rintro σ' H' ⟨rfl, rfl⟩
        refine ⟨.ref u3, rfl, u3, _, _, _, rfl, rfl, tup_t hu3, atI_nat (j := 0) rfl, rfl, _, rfl, iteD rfl ⟨_, rfl, _, rfl, v3, u3, wh, .non, rfl, hv3, hu3, .inl rfl, true, rfl, iteF ?_⟩⟩
        refine ⟨.ref u3, rfl, u3, _, _, _, rfl, rfl, tup_t hu3, atI_nat (j := 0) rfl, rfl, _, rfl, iteD rfl ⟨_, rfl, _, rfl, _, rfl, _, rfl, z, cx, rp, dr, tr, tp, L, ws, ap, ps, S, N, D, X, sv, bv, i, (by show [V.ref z, V.int (0 + (i : Int)), V.int sv, V.int bv] = _; rw [Int.zero_add]), by omega, sa2.same s3, fs, N12, by rw [e]; exact Option.some_ne_none _, fun H4 s4 => ⟨true, rfl, iteF ?_⟩⟩⟩
        have s24 := s3.trans s4
        have sa4 := sa2.same s24
        refine ⟨_, rfl, _, rfl, _, rfl, z, cx, rp, dr, tr, tp, L, ws, ap, ps, S, N, D, X, 0, (N : Int), i, (by show [V.ref z, V.int (0 + (i : Int)), V.int 0, V.int (N : Int)] = _; rw [Int.zero_add]), by omega, sa4, fs, N12, fun wh e => absurd (e.symm.trans (dueA_no (by omega) (by omega))) (Option.some_ne_none _), fun _ H5 v5 x5 s5 hv5 nd5 => ?_⟩
        refine ⟨_, rfl, v5, x5, i, (by show [V.ref v5, V.int (0 + (i : Int))] = _; rw [Int.zero_add]), hv5, nd5 (.inl rfl), true, rfl, iteF ?_⟩
        refine ⟨_, rfl, _, rfl, _, rfl, z, cx, rp, dr, tr, tp, L, ws, ap, ps, S, N, D, X, (S : Int), 0, i, (by show [V.ref z, V.int (0 + (i : Int)), V.int (S : Int), V.int 0] = _; rw [Int.zero_add]), by omega, sa4.same s5, fs, N12, fun wh e => absurd (e.symm.trans (dueA_no (by omega) (by omega))) (Option.some_ne_none _), fun _ H6 v6 x6 s6 hv6 nd6 => ?_⟩
        exact ⟨_, rfl, v6, x6, i, (by show [V.ref v6, V.int (0 + (i : Int))] = _; rw [Int.zero_add]), hv6, nd6 (.inr rfl), true, rfl, iteF ⟨_, _, rfl, ((s2.trans s24).trans s5).trans s6⟩⟩
      · rw [e] at hu3
        have hu3 := s3 _ _ hu3
        have hu3 : H3 u3 = some (.tup [.str "told"]) := hu3
        obtain ⟨d1', d2'⟩ := dueA_ok e
        refine ⟨.ref u3, rfl, u3, _, _, _, rfl, rfl, tup_t hu3, atI_nat (j := 0) rfl, rfl, _, rfl, iteD rfl ⟨.ref v3, rfl, v3, _, _, _, rfl, rfl, tup_t hv3, atI_nat (j := 0) rfl, rfl, _, rfl, iteNS rfl ?_⟩⟩
        refine ⟨fun σ' H' => H3 = H' ∧ σ' = [some (.ref a), some (.ref d1), some (.ref d2), some (.ref d3), some (.int (m : Int)), some (.ref W), some (.int ap), some (.ref P), some (.int (S : Int)), some (.int (N : Int)), some (.int sv), some (.int bv), some (.ref rp), some (.ref lq), some (.ref u3), some (.ref v3), some (.ref z), some (.int (0 + (i : Int))), none], ⟨.ref u3, rfl, u3, _, _, _, rfl, rfl, tup_t hu3, atI_nat (j := 0) rfl, rfl, _, rfl, iteD rfl ⟨_, rfl, _, rfl, _, _, rfl, rfl, .inl ⟨by omega, by omega⟩, rfl, _, rfl, ite2 (fun c => ?_) (fun _ => iteF ⟨rfl, rfl⟩)⟩⟩, ?_⟩
        · have c : sv * bv = 0 := V.int.inj (of_decide_eq_true c)
          exact ⟨_, rfl, _, rfl, v3, x9, i, (by show [V.ref v3, V.int (0 + (i : Int))] = _; rw [Int.zero_add]), hv3, nd (Int.mul_eq_zero.mp c), true, rfl, iteF ⟨rfl, rfl⟩⟩
        rintro σ' H' ⟨rfl, rfl⟩
        refine ⟨.ref u3, rfl, u3, _, _, _, rfl, rfl, tup_t hu3, atI_nat (j := 0) rfl, rfl, _, rfl, iteDF (fun z => by cases z) (iteF ?_)⟩
        refine ⟨.ref u3, rfl, u3, _, _, _, rfl, rfl, tup_t hu3, atI_nat (j := 0) rfl, rfl, _, rfl, iteDF (fun z => by cases z) (iteF ?_)⟩
        have s24 := s3
        have sa4 := sa2.same s24
        refine ⟨_, rfl, _, rfl, _, rfl, z, cx, rp, dr, tr, tp, L, ws, ap, ps, S, N, D, X, 0, (N : Int), i, (by show [V.ref z, V.int (0 + (i : Int)), V.int 0, V.int (N : Int)] = _; rw [Int.zero_add]), by omega, sa4, fs, N12, fun wh e => absurd (e.symm.trans (dueA_no (by omega) (by omega))) (Option.some_ne_none _), fun _ H5 v5 x5 s5 hv5 nd5 => ?_⟩
        refine ⟨_, rfl, v5, x5, i, (by show [V.ref v5, V.int (0 + (i : Int))] = _; rw [Int.zero_add]), hv5, nd5 (.inl rfl), true, rfl, iteF ?_⟩
        refine ⟨_, rfl, _, rfl, _, rfl, z, cx, rp, dr, tr, tp, L, ws, ap, ps, S, N, D, X, (S : Int), 0, i, (by show [V.ref z, V.int (0 + (i : Int)), V.int (S : Int), V.int 0] = _; rw [Int.zero_add]), by omega, sa4.same s5, fs, N12, fun wh e => absurd (e.symm.trans (dueA_no (by omega) (by omega))) (Option.some_ne_none _), fun _ H6 v6 x6 s6 hv6 nd6 => ?_⟩
        exact ⟨_, rfl, v6, x6, i, (by show [V.ref v6, V.int (0 + (i : Int))] = _; rw [Int.zero_add]), hv6, nd6 (.inr rfl), true, rfl, iteF ⟨_, _, rfl, ((s2.trans s24).trans s5).trans s6⟩⟩
    rintro σ H2 ⟨y1, y2, rfl, s2⟩
    exact ⟨_, rfl, _, rfl, _, rfl, _, rfl, _, rfl, _, rfl, z, cx, rp, dr, tr, tp, L, W, P, ws, ap, ps, S, N, D, X, rfl, sa.same s2, fs, s2 _ _ hW, s2 _ _ hP, fun H3 s3 => q _⟩
end
/-! ### what the top has written; the law's own head -/
theorem all_mk {l : PySem.W.OpenLaw} {w : World} {K : PySem.W.Frag} {h : Heap} {mg : Str → Option Value} {fa f1 f2 f3 f4 f5 f6 f7 f8 f9 f10 f11 f12 f13 f14 f15 f16 f17 f18 f19 f20 f21 f22 f23 f24 f25 f26 f27 f28 f29 f30 f31 f32 f33 f34 f35 f36 f37 f38 f39 f40 f41 f42 f43 f44 f45 C_Weighted C_Ratio C_BadNumber C_TooMany C_ZeroBottom C_BadLot C_Season C_ShelfError fx_rf_Ratio_add fx_of_Ratio_add fx_rf_Ratio_sub fx_of_Ratio_sub fx_rf_Ratio_mul fx_of_Ratio_mul : Addr} (X : K.In h) (G : h.Ns mainGlobals mg) (hfa : mg "law" = some (.ref fa))
    {od1 an1 od2 an2 od3 an3 od4 an4 od5 an5 od6 an6 od7 an7 od8 an8 od9 an9 od10 an10 od11 an11 od12 an12 od13 an13 od14 an14 od15 an15 od16 an16 od17 an17 od18 an18 od19 an19 od20 an20 od21 an21 od22 an22 od23 an23 od24 an24 od25 an25 od26 an26 od27 an27 od28 an28 od29 an29 od30 an30 od31 an31 od32 an32 od33 an33 od34 an34 od35 an35 od36 an36 od37 an37 od38 an38 od39 an39 od40 an40 od41 an41 od42 an42 od43 an43 od44 an44 od45 an45 : Option Addr} {sl1 sl2 sl3 sl4 sl5 sl6 sl7 sl8 sl9 sl10 sl11 sl12 sl13 sl14 sl15 sl16 sl17 sl18 sl19 sl20 sl21 sl22 sl23 sl24 sl25 sl26 sl27 sl28 sl29 sl30 sl31 sl32 sl33 sl34 sl35 sl36 sl37 sl38 sl39 sl40 sl41 sl42 sl43 sl44 sl45 : Array (Option Value)} {oc1 kV1 dc1 pm1 cd1 ct1 oc2 kV2 dc2 pm2 cd2 ct2 oc3 kV3 dc3 pm3 cd3 ct3 oc4 kV4 dc4 pm4 cd4 ct4 oc5 kV5 dc5 pm5 cd5 ct5 oc6 kV6 dc6 pm6 cd6 ct6 oc7 kV7 dc7 pm7 cd7 ct7 oc8 kV8 dc8 pm8 cd8 ct8 oc9 kV9 dc9 pm9 cd9 ct9 oc10 kV10 dc10 pm10 cd10 ct10 oc11 kV11 dc11 pm11 ct11 oc12 kV12 dc12 pm12 cd12 ct12 oc13 kV13 dc13 pm13 cd13 ct13 oc14 kV14 dc14 pm14 cd14 ct14 oc15 kV15 dc15 pm15 cd15 ct15 oc16 kV16 dc16 pm16 cd16 ct16 oc17 kV17 dc17 pm17 cd17 ct17 oc18 kV18 dc18 pm18 cd18 ct18 oc19 kV19 dc19 pm19 cd19 ct19 oc20 kV20 dc20 pm20 cd20 ct20 oc21 kV21 dc21 pm21 cd21 ct21 oc22 kV22 dc22 pm22 cd22 ct22 oc23 kV23 dc23 pm23 cd23 ct23 oc24 kV24 dc24 pm24 cd24 ct24 oc25 kV25 dc25 pm25 cd25 ct25 oc26 kV26 dc26 pm26 cd26 ct26 oc27 kV27 dc27 pm27 cd27 ct27 oc28 kV28 dc28 pm28 cd28 ct28 oc29 kV29 dc29 pm29 cd29 ct29 oc30 kV30 dc30 pm30 cd30 ct30 oc31 kV31 dc31 pm31 cd31 ct31 oc32 kV32 dc32 pm32 cd32 ct32 oc33 kV33 dc33 pm33 cd33 ct33 oc34 kV34 dc34 pm34 cd34 ct34 oc35 kV35 dc35 pm35 cd35 ct35 oc36 kV36 dc36 pm36 cd36 ct36 oc37 kV37 dc37 pm37 cd37 ct37 oc38 kV38 dc38 pm38 cd38 ct38 oc39 kV39 dc39 pm39 cd39 ct39 oc40 kV40 dc40 pm40 cd40 ct40 oc41 kV41 dc41 pm41 cd41 ct41 oc42 kV42 dc42 pm42 cd42 ct42 oc43 kV43 dc43 pm43 cd43 ct43 oc44 kV44 dc44 pm44 cd44 ct44 oc45 kV45 dc45 pm45 cd45 ct45 : Value} {tk_MOST_THINGS : Tok} {tk_MOST_SEATS : Tok} {tk_MOST_BUYERS : Tok} {cc11 cda11 : Addr} {cl11 ccl11 : Value} {cld11 cdd11 : Option Addr} {csl11 ccs11 : Array (Option Value)} {vs11 : Array Value} {fi11 : Str} {tf11 : Tok} {cdW11 : ClassData} {tT12 : Addr} {oT12 : Value} {dT12 : Option Addr} {nT12 : Nat} {sT12 : Array (Option Value)} {tq12_0 : Tok}
    (a_Weighted : PySem.W.nsIn K mainGlobals "Weighted" = some (some (.ref C_Weighted)))
    (kc_Weighted : PySem.W.keepIn K (.ref C_Weighted) = true)
    (hd_Weighted : PySem.W.hasDictIn K C_Weighted = true)
    (ha_Weighted : PySem.W.findIn K (.ref C_Weighted) "__class__" = some (some (.builtin "object.__class__")))
    (hm_Weighted : PySem.W.mroIn K C_Weighted (.type "object") = some true)
    (pg_Weighted : PySem.W.plainGet K C_Weighted Str.empty = true)
    (po_Weighted : PySem.W.plainOver K C_Weighted = true)
    (sa_Weighted : PySem.W.findIn K (.ref C_Weighted) "__setattr__" = some (some (.builtin "object.__setattr__")))
    (mk_Weighted : PySem.W.makesIn K C_Weighted = true)
    (n_Weighted_many : PySem.W.findIn K (.ref C_Weighted) "many" = some none)
    (n_Weighted_weights : PySem.W.findIn K (.ref C_Weighted) "weights" = some none)
    (n_Weighted_aside : PySem.W.findIn K (.ref C_Weighted) "aside" = some none)
    (a_Ratio : PySem.W.nsIn K mainGlobals "Ratio" = some (some (.ref C_Ratio)))
    (kc_Ratio : PySem.W.keepIn K (.ref C_Ratio) = true)
    (hd_Ratio : PySem.W.hasDictIn K C_Ratio = true)
    (ha_Ratio : PySem.W.findIn K (.ref C_Ratio) "__class__" = some (some (.builtin "object.__class__")))
    (hm_Ratio : PySem.W.mroIn K C_Ratio (.type "object") = some true)
    (pg_Ratio : PySem.W.plainGet K C_Ratio Str.empty = true)
    (po_Ratio : PySem.W.plainOver K C_Ratio = true)
    (sa_Ratio : PySem.W.findIn K (.ref C_Ratio) "__setattr__" = some (some (.builtin "object.__setattr__")))
    (mk_Ratio : PySem.W.makesIn K C_Ratio = true)
    (n_Ratio_top : PySem.W.findIn K (.ref C_Ratio) "top" = some none)
    (n_Ratio_bottom : PySem.W.findIn K (.ref C_Ratio) "bottom" = some none)
    (ss_Ratio : PySem.W.subIn K (.ref C_Ratio) (.type "str") = some false)
    (sb_Ratio : PySem.W.subIn K (.ref C_Ratio) (.type "bytes") = some false)
    (sy_Ratio : PySem.W.subIn K (.ref C_Ratio) (.type "bytearray") = some false)
    (sf_Ratio : PySem.W.selfFirst K C_Ratio = true)
    (si_Ratio : PySem.W.subIn K (.type "int") (.ref C_Ratio) = some false)
    (sr_Ratio : PySem.W.subIn K (.ref C_Ratio) (.type "int") = some false)
    (rf_Ratio_add : PySem.W.findIn K (.ref C_Ratio) "__radd__" = some (some (.ref fx_rf_Ratio_add)))
    (of_Ratio_add : PySem.W.findIn K (.ref C_Ratio) "__add__" = some (some (.ref fx_of_Ratio_add)))
    (inta_add : PySem.W.findIn K (.type "int") "__add__" = some (some (.builtin "int.__add__")))
    (intr_add : PySem.W.findIn K (.type "int") "__radd__" = some (some (.builtin "int.__radd__")))
    (rf_Ratio_sub : PySem.W.findIn K (.ref C_Ratio) "__rsub__" = some (some (.ref fx_rf_Ratio_sub)))
    (of_Ratio_sub : PySem.W.findIn K (.ref C_Ratio) "__sub__" = some (some (.ref fx_of_Ratio_sub)))
    (inta_sub : PySem.W.findIn K (.type "int") "__sub__" = some (some (.builtin "int.__sub__")))
    (intr_sub : PySem.W.findIn K (.type "int") "__rsub__" = some (some (.builtin "int.__rsub__")))
    (rf_Ratio_mul : PySem.W.findIn K (.ref C_Ratio) "__rmul__" = some (some (.ref fx_rf_Ratio_mul)))
    (of_Ratio_mul : PySem.W.findIn K (.ref C_Ratio) "__mul__" = some (some (.ref fx_of_Ratio_mul)))
    (inta_mul : PySem.W.findIn K (.type "int") "__mul__" = some (some (.builtin "int.__mul__")))
    (intr_mul : PySem.W.findIn K (.type "int") "__rmul__" = some (some (.builtin "int.__rmul__")))
    (a_BadNumber : PySem.W.nsIn K mainGlobals "BadNumber" = some (some (.ref C_BadNumber)))
    (kc_BadNumber : PySem.W.keepIn K (.ref C_BadNumber) = true)
    (hd_BadNumber : PySem.W.hasDictIn K C_BadNumber = true)
    (ha_BadNumber : PySem.W.findIn K (.ref C_BadNumber) "__class__" = some (some (.builtin "object.__class__")))
    (hm_BadNumber : PySem.W.mroIn K C_BadNumber (.type "object") = some true)
    (b_BadNumber : PySem.W.subIn K (.ref C_BadNumber) (.type "BaseException") = some true)
    (t_BadNumber : PySem.W.typeIn K (.ref C_BadNumber) = some (.type "type"))
    (ga_BadNumber : PySem.W.findIn K (.ref C_BadNumber) "__getattribute__" = some (some (.builtin "BaseException.__getattribute__")))
    (gg_BadNumber : PySem.W.findIn K (.ref C_BadNumber) "__getattr__" = some none)
    (ol_BadNumber : K.lookup C_BadNumber = some (excClassObj nm_BadNumber q_BadNumber C_BadNumber N_BadNumber bs_BadNumber bm_BadNumber true sn_BadNumber sub_BadNumber ab_BadNumber col_BadNumber dd_BadNumber k0_BadNumber k1_BadNumber k2_BadNumber k3_BadNumber k5_BadNumber "ValueError.__new__"))
    (or_BadNumber : PySem.HandSPX.refsVE bm_BadNumber = true)
    (sa_BadNumber : PySem.W.findIn K (.ref C_BadNumber) "__setattr__" = some (some (.builtin "object.__setattr__")))
    (n_BadNumber_what : PySem.W.findIn K (.ref C_BadNumber) "what" = some none)
    (n_BadNumber_at : PySem.W.findIn K (.ref C_BadNumber) "at" = some none)
    (a_TooMany : PySem.W.nsIn K mainGlobals "TooMany" = some (some (.ref C_TooMany)))
    (kc_TooMany : PySem.W.keepIn K (.ref C_TooMany) = true)
    (hd_TooMany : PySem.W.hasDictIn K C_TooMany = true)
    (ha_TooMany : PySem.W.findIn K (.ref C_TooMany) "__class__" = some (some (.builtin "object.__class__")))
    (hm_TooMany : PySem.W.mroIn K C_TooMany (.type "object") = some true)
    (b_TooMany : PySem.W.subIn K (.ref C_TooMany) (.type "BaseException") = some true)
    (t_TooMany : PySem.W.typeIn K (.ref C_TooMany) = some (.type "type"))
    (ga_TooMany : PySem.W.findIn K (.ref C_TooMany) "__getattribute__" = some (some (.builtin "BaseException.__getattribute__")))
    (gg_TooMany : PySem.W.findIn K (.ref C_TooMany) "__getattr__" = some none)
    (ol_TooMany : K.lookup C_TooMany = some (excClassObj nm_TooMany q_TooMany C_TooMany N_TooMany bs_TooMany bm_TooMany true sn_TooMany sub_TooMany ab_TooMany col_TooMany dd_TooMany k0_TooMany k1_TooMany k2_TooMany k3_TooMany k5_TooMany "ValueError.__new__"))
    (or_TooMany : PySem.HandSPX.refsVE bm_TooMany = true)
    (sa_TooMany : PySem.W.findIn K (.ref C_TooMany) "__setattr__" = some (some (.builtin "object.__setattr__")))
    (n_TooMany_many : PySem.W.findIn K (.ref C_TooMany) "many" = some none)
    (n_TooMany_most : PySem.W.findIn K (.ref C_TooMany) "most" = some none)
    (a_ZeroBottom : PySem.W.nsIn K mainGlobals "ZeroBottom" = some (some (.ref C_ZeroBottom)))
    (kc_ZeroBottom : PySem.W.keepIn K (.ref C_ZeroBottom) = true)
    (hd_ZeroBottom : PySem.W.hasDictIn K C_ZeroBottom = true)
    (ha_ZeroBottom : PySem.W.findIn K (.ref C_ZeroBottom) "__class__" = some (some (.builtin "object.__class__")))
    (hm_ZeroBottom : PySem.W.mroIn K C_ZeroBottom (.type "object") = some true)
    (b_ZeroBottom : PySem.W.subIn K (.ref C_ZeroBottom) (.type "BaseException") = some true)
    (t_ZeroBottom : PySem.W.typeIn K (.ref C_ZeroBottom) = some (.type "type"))
    (ga_ZeroBottom : PySem.W.findIn K (.ref C_ZeroBottom) "__getattribute__" = some (some (.builtin "BaseException.__getattribute__")))
    (gg_ZeroBottom : PySem.W.findIn K (.ref C_ZeroBottom) "__getattr__" = some none)
    (x_ZeroBottom : PySem.W.excIn K C_ZeroBottom [.type "ValueError", .type "Exception", .type "BaseException", .type "object"] "ValueError.__new__" = true)
    (a_BadLot : PySem.W.nsIn K mainGlobals "BadLot" = some (some (.ref C_BadLot)))
    (kc_BadLot : PySem.W.keepIn K (.ref C_BadLot) = true)
    (hd_BadLot : PySem.W.hasDictIn K C_BadLot = true)
    (ha_BadLot : PySem.W.findIn K (.ref C_BadLot) "__class__" = some (some (.builtin "object.__class__")))
    (hm_BadLot : PySem.W.mroIn K C_BadLot (.type "object") = some true)
    (b_BadLot : PySem.W.subIn K (.ref C_BadLot) (.type "BaseException") = some true)
    (t_BadLot : PySem.W.typeIn K (.ref C_BadLot) = some (.type "type"))
    (ga_BadLot : PySem.W.findIn K (.ref C_BadLot) "__getattribute__" = some (some (.builtin "BaseException.__getattribute__")))
    (gg_BadLot : PySem.W.findIn K (.ref C_BadLot) "__getattr__" = some none)
    (x_BadLot : PySem.W.excIn K C_BadLot [.type "ValueError", .type "Exception", .type "BaseException", .type "object"] "ValueError.__new__" = true)
    (a_Season : PySem.W.nsIn K mainGlobals "Season" = some (some (.ref C_Season)))
    (kc_Season : PySem.W.keepIn K (.ref C_Season) = true)
    (hd_Season : PySem.W.hasDictIn K C_Season = true)
    (ha_Season : PySem.W.findIn K (.ref C_Season) "__class__" = some (some (.builtin "object.__class__")))
    (hm_Season : PySem.W.mroIn K C_Season (.type "object") = some true)
    (pg_Season : PySem.W.plainGet K C_Season Str.empty = true)
    (po_Season : PySem.W.plainOver K C_Season = true)
    (sa_Season : PySem.W.findIn K (.ref C_Season) "__setattr__" = some (some (.builtin "object.__setattr__")))
    (mk_Season : PySem.W.makesIn K C_Season = true)
    (n_Season_rule : PySem.W.findIn K (.ref C_Season) "rule" = some none)
    (n_Season_prices : PySem.W.findIn K (.ref C_Season) "prices" = some none)
    (n_Season_seats : PySem.W.findIn K (.ref C_Season) "seats" = some none)
    (n_Season_buyers : PySem.W.findIn K (.ref C_Season) "buyers" = some none)
    (n_Season__worths : PySem.W.findIn K (.ref C_Season) "_worths" = some none)
    (a_ShelfError : PySem.W.nsIn K mainGlobals "ShelfError" = some (some (.ref C_ShelfError)))
    (kc_ShelfError : PySem.W.keepIn K (.ref C_ShelfError) = true)
    (hd_ShelfError : PySem.W.hasDictIn K C_ShelfError = true)
    (ha_ShelfError : PySem.W.findIn K (.ref C_ShelfError) "__class__" = some (some (.builtin "object.__class__")))
    (hm_ShelfError : PySem.W.mroIn K C_ShelfError (.type "object") = some true)
    (b_ShelfError : PySem.W.subIn K (.ref C_ShelfError) (.type "BaseException") = some true)
    (t_ShelfError : PySem.W.typeIn K (.ref C_ShelfError) = some (.type "type"))
    (ga_ShelfError : PySem.W.findIn K (.ref C_ShelfError) "__getattribute__" = some (some (.builtin "BaseException.__getattribute__")))
    (gg_ShelfError : PySem.W.findIn K (.ref C_ShelfError) "__getattr__" = some none)
    (hnc : PySem.W.specialIn K (.builtin "object.__class__") "__get__" = some (some (.builtin "getset_descriptor.__get__")))
    (htk : PySem.W.takesIn K (.builtin "object.__class__") = some true)
    (sub_BadNumber_BadNumber : PySem.W.subIn K (.ref C_BadNumber) (.ref C_BadNumber) = some true)
    (sub_BadNumber_ShelfError : PySem.W.subIn K (.ref C_BadNumber) (.ref C_ShelfError) = some true)
    (kit_Ratio_Ratio : PySem.W.kitOne K (.ref C_Ratio) (.ref C_Ratio) = some true)
    (kit_int_Ratio : PySem.W.kitOne K (.type "int") (.ref C_Ratio) = some false)
    (kit_BadNumber_TooMany : PySem.W.kitOne K (.ref C_BadNumber) (.ref C_TooMany) = some false)
    (kit_BadNumber_BadLot : PySem.W.kitOne K (.ref C_BadNumber) (.ref C_BadLot) = some false)
    (kit_BadNumber_ValueError : PySem.W.kitOne K (.ref C_BadNumber) (.type "ValueError") = some true)
    (kit_BadNumber_BadNumber : PySem.W.kitOne K (.ref C_BadNumber) (.ref C_BadNumber) = some true)
    (kit_Season_Season : PySem.W.kitOne K (.ref C_Season) (.ref C_Season) = some true)
    (kit_Weighted_Weighted : PySem.W.kitOne K (.ref C_Weighted) (.ref C_Weighted) = some true)
    (a_gcd : PySem.W.nsIn K mainGlobals "gcd" = some (some (.builtin "math.gcd")))
    (a_MOST_THINGS : PySem.W.nsIn K mainGlobals "MOST_THINGS" = some (some (.int 24 tk_MOST_THINGS)))
    (a_MOST_SEATS : PySem.W.nsIn K mainGlobals "MOST_SEATS" = some (some (.int 12 tk_MOST_SEATS)))
    (a_MOST_BUYERS : PySem.W.nsIn K mainGlobals "MOST_BUYERS" = some (some (.int 12 tk_MOST_BUYERS)))
    (a1 : PySem.W.findIn K (.ref C_BadNumber) "__init__" = some (some (.ref f1))) (i1 : PySem.W.isFn K (.ref f1) = true)
    (l1 : K.lookup f1 = some ⟨oc1, od1, .func (PySem.W.fnOf "__init__" "BadNumber.__init__" (defArgs s_BadNumber___init__) (defBody s_BadNumber___init__) (defScope s_BadNumber___init__) .none kV1 dc1 pm1 an1 cd1 ct1), sl1⟩)
    (c1 : PySem.W.codeIn K cd1 "BadNumber.__init__" = true) (k1 : PySem.W.keepIn K (.ref f1) = true)
    (a2 : PySem.W.findIn K (.ref C_TooMany) "__init__" = some (some (.ref f2))) (i2 : PySem.W.isFn K (.ref f2) = true)
    (l2 : K.lookup f2 = some ⟨oc2, od2, .func (PySem.W.fnOf "__init__" "TooMany.__init__" (defArgs s_TooMany___init__) (defBody s_TooMany___init__) (defScope s_TooMany___init__) .none kV2 dc2 pm2 an2 cd2 ct2), sl2⟩)
    (c2 : PySem.W.codeIn K cd2 "TooMany.__init__" = true) (k2 : PySem.W.keepIn K (.ref f2) = true)
    (a3 : PySem.W.nsIn K mainGlobals "check_many" = some (some (.ref f3)))
    (l3 : K.lookup f3 = some ⟨oc3, od3, .func (PySem.W.fnOf "check_many" "check_many" (defArgs s_check_many) (defBody s_check_many) (defScope s_check_many) .none kV3 dc3 pm3 an3 cd3 ct3), sl3⟩)
    (c3 : PySem.W.codeIn K cd3 "check_many" = true) (k3 : PySem.W.keepIn K (.ref f3) = true)
    (a4 : PySem.W.nsIn K mainGlobals "check_length" = some (some (.ref f4)))
    (l4 : K.lookup f4 = some ⟨oc4, od4, .func (PySem.W.fnOf "check_length" "check_length" (defArgs s_check_length) (defBody s_check_length) (defScope s_check_length) .none kV4 dc4 pm4 an4 cd4 ct4), sl4⟩)
    (c4 : PySem.W.codeIn K cd4 "check_length" = true) (k4 : PySem.W.keepIn K (.ref f4) = true)
    (a5 : PySem.W.nsIn K mainGlobals "check_each" = some (some (.ref f5)))
    (l5 : K.lookup f5 = some ⟨oc5, od5, .func (PySem.W.fnOf "check_each" "check_each" (defArgs s_check_each) (defBody s_check_each) (defScope s_check_each) .none kV5 dc5 pm5 an5 cd5 ct5), sl5⟩)
    (c5 : PySem.W.codeIn K cd5 "check_each" = true) (k5 : PySem.W.keepIn K (.ref f5) = true)
    (a6 : PySem.W.nsIn K mainGlobals "check_prices" = some (some (.ref f6)))
    (l6 : K.lookup f6 = some ⟨oc6, od6, .func (PySem.W.fnOf "check_prices" "check_prices" (defArgs s_check_prices) (defBody s_check_prices) (defScope s_check_prices) .none kV6 dc6 pm6 an6 cd6 ct6), sl6⟩)
    (c6 : PySem.W.codeIn K cd6 "check_prices" = true) (k6 : PySem.W.keepIn K (.ref f6) = true)
    (a7 : PySem.W.nsIn K mainGlobals "check_least" = some (some (.ref f7)))
    (l7 : K.lookup f7 = some ⟨oc7, od7, .func (PySem.W.fnOf "check_least" "check_least" (defArgs s_check_least) (defBody s_check_least) (defScope s_check_least) .none kV7 dc7 pm7 an7 cd7 ct7), sl7⟩)
    (c7 : PySem.W.codeIn K cd7 "check_least" = true) (k7 : PySem.W.keepIn K (.ref f7) = true)
    (a8 : PySem.W.nsIn K mainGlobals "check_aside" = some (some (.ref f8)))
    (l8 : K.lookup f8 = some ⟨oc8, od8, .func (PySem.W.fnOf "check_aside" "check_aside" (defArgs s_check_aside) (defBody s_check_aside) (defScope s_check_aside) .none kV8 dc8 pm8 an8 cd8 ct8), sl8⟩)
    (c8 : PySem.W.codeIn K cd8 "check_aside" = true) (k8 : PySem.W.keepIn K (.ref f8) = true)
    (a9 : PySem.W.nsIn K mainGlobals "check_up_to" = some (some (.ref f9)))
    (l9 : K.lookup f9 = some ⟨oc9, od9, .func (PySem.W.fnOf "check_up_to" "check_up_to" (defArgs s_check_up_to) (defBody s_check_up_to) (defScope s_check_up_to) .none kV9 dc9 pm9 an9 cd9 ct9), sl9⟩)
    (c9 : PySem.W.codeIn K cd9 "check_up_to" = true) (k9 : PySem.W.keepIn K (.ref f9) = true)
    (sg10_Weighted : PySem.W.ks_superIn K C_Weighted C_Weighted "__init__" = some (some (.ref f10)))
    (l10 : K.lookup f10 = some ⟨oc10, od10, .func (PySem.W.fnOf "__init__" "Rule.__init__" (defArgs s_Rule___init__) (defBody s_Rule___init__) (defScope s_Rule___init__) .none kV10 dc10 pm10 an10 cd10 ct10), sl10⟩)
    (c10 : PySem.W.codeIn K cd10 "Rule.__init__" = true) (k10 : PySem.W.keepIn K (.ref f10) = true)
    (sa11 : PySem.W.clsIn K C_Weighted = some cdW11)
    (sb11 : PySem.W.mroIn K C_Weighted (.ref C_Weighted) = some true)
    (a11 : PySem.W.findIn K (.ref C_Weighted) "__init__" = some (some (.ref f11))) (i11 : PySem.W.isFn K (.ref f11) = true)
    (l11 : K.lookup f11 = some ⟨oc11, od11, .func (PySem.W.ksFn "__init__" "Weighted.__init__" (defArgs s_Weighted___init__) (defBody s_Weighted___init__) (defScope s_Weighted___init__) .none kV11 dc11 pm11 an11 (.ref cda11) ct11 cc11), sl11⟩)
    (c11 : PySem.W.codeIn K (.ref cda11) "Weighted.__init__" = true) (k11 : PySem.W.keepIn K (.ref f11) = true)
    (sc11 : K.lookup cc11 = some ⟨cl11, cld11, .cell (some (.ref C_Weighted)), csl11⟩)
    (sd11 : K.lookup cda11 = some ⟨ccl11, cdd11, .fields vs11, ccs11⟩)
    (se11 : vs11[2]? = some (.str fi11 tf11))
    (sh11 : PySem.W.typeIn K (.ref f10) = some (.type "function"))
    (si11 : PySem.W.fnIn K f10 = true)
    (sj11 : PySem.W.nsIn K cStatics "thirdparty.any" = some none)
    (sk11 : PySem.W.nsIn K mainGlobals "super" = some none)
    (sl_11 : ((l.prog.main.file : Str) == fi11) = true)
    (sm11 : (l.prog.main.scope.names.lookup ("super" : Str)).isSome = false)
    (a12 : PySem.W.findIn K (.ref C_Ratio) "__init__" = some (some (.ref f12))) (i12 : PySem.W.isFn K (.ref f12) = true)
    (l12 : K.lookup f12 = some ⟨oc12, od12, .func (PySem.W.fnOf "__init__" "Ratio.__init__" (defArgs s_Ratio___init__) (defBody s_Ratio___init__) (defScope s_Ratio___init__) (.ref tT12) kV12 dc12 pm12 an12 cd12 ct12), sl12⟩)
    (lt12 : K.lookup tT12 = some ⟨oT12, dT12, .seq #[.int 1 tq12_0] nT12, sT12⟩)
    (c12 : PySem.W.codeIn K cd12 "Ratio.__init__" = true) (k12 : PySem.W.keepIn K (.ref f12) = true)
    (a13 : PySem.W.nsIn K mainGlobals "_as_ratio" = some (some (.ref f13)))
    (l13 : K.lookup f13 = some ⟨oc13, od13, .func (PySem.W.fnOf "_as_ratio" "_as_ratio" (defArgs s__as_ratio) (defBody s__as_ratio) (defScope s__as_ratio) .none kV13 dc13 pm13 an13 cd13 ct13), sl13⟩)
    (c13 : PySem.W.codeIn K cd13 "_as_ratio" = true) (k13 : PySem.W.keepIn K (.ref f13) = true)
    (a14 : PySem.W.nsIn K mainGlobals "_gap" = some (some (.ref f14)))
    (l14 : K.lookup f14 = some ⟨oc14, od14, .func (PySem.W.fnOf "_gap" "_gap" (defArgs s__gap) (defBody s__gap) (defScope s__gap) .none kV14 dc14 pm14 an14 cd14 ct14), sl14⟩)
    (c14 : PySem.W.codeIn K cd14 "_gap" = true) (k14 : PySem.W.keepIn K (.ref f14) = true)
    (a15 : PySem.W.findIn K (.ref C_Ratio) "__lt__" = some (some (.ref f15))) (i15 : PySem.W.isFn K (.ref f15) = true)
    (l15 : K.lookup f15 = some ⟨oc15, od15, .func (PySem.W.fnOf "__lt__" "Ratio.__lt__" (defArgs s_Ratio___lt__) (defBody s_Ratio___lt__) (defScope s_Ratio___lt__) .none kV15 dc15 pm15 an15 cd15 ct15), sl15⟩)
    (c15 : PySem.W.codeIn K cd15 "Ratio.__lt__" = true) (k15 : PySem.W.keepIn K (.ref f15) = true)
    (a16 : PySem.W.findIn K (.ref C_Ratio) "__gt__" = some (some (.ref f16))) (i16 : PySem.W.isFn K (.ref f16) = true)
    (l16 : K.lookup f16 = some ⟨oc16, od16, .func (PySem.W.fnOf "__gt__" "Ratio.__gt__" (defArgs s_Ratio___gt__) (defBody s_Ratio___gt__) (defScope s_Ratio___gt__) .none kV16 dc16 pm16 an16 cd16 ct16), sl16⟩)
    (c16 : PySem.W.codeIn K cd16 "Ratio.__gt__" = true) (k16 : PySem.W.keepIn K (.ref f16) = true)
    (a17 : PySem.W.findIn K (.ref C_Ratio) "__neg__" = some (some (.ref f17))) (i17 : PySem.W.isFn K (.ref f17) = true)
    (l17 : K.lookup f17 = some ⟨oc17, od17, .func (PySem.W.fnOf "__neg__" "Ratio.__neg__" (defArgs s_Ratio___neg__) (defBody s_Ratio___neg__) (defScope s_Ratio___neg__) .none kV17 dc17 pm17 an17 cd17 ct17), sl17⟩)
    (c17 : PySem.W.codeIn K cd17 "Ratio.__neg__" = true) (k17 : PySem.W.keepIn K (.ref f17) = true)
    (a18 : PySem.W.findIn K (.ref C_Ratio) "__add__" = some (some (.ref f18))) (i18 : PySem.W.isFn K (.ref f18) = true)
    (l18 : K.lookup f18 = some ⟨oc18, od18, .func (PySem.W.fnOf "__add__" "Ratio.__add__" (defArgs s_Ratio___add__) (defBody s_Ratio___add__) (defScope s_Ratio___add__) .none kV18 dc18 pm18 an18 cd18 ct18), sl18⟩)
    (c18 : PySem.W.codeIn K cd18 "Ratio.__add__" = true) (k18 : PySem.W.keepIn K (.ref f18) = true)
    (a19 : PySem.W.findIn K (.ref C_Ratio) "__sub__" = some (some (.ref f19))) (i19 : PySem.W.isFn K (.ref f19) = true)
    (l19 : K.lookup f19 = some ⟨oc19, od19, .func (PySem.W.fnOf "__sub__" "Ratio.__sub__" (defArgs s_Ratio___sub__) (defBody s_Ratio___sub__) (defScope s_Ratio___sub__) .none kV19 dc19 pm19 an19 cd19 ct19), sl19⟩)
    (c19 : PySem.W.codeIn K cd19 "Ratio.__sub__" = true) (k19 : PySem.W.keepIn K (.ref f19) = true)
    (a20 : PySem.W.findIn K (.ref C_Ratio) "__mul__" = some (some (.ref f20))) (i20 : PySem.W.isFn K (.ref f20) = true)
    (l20 : K.lookup f20 = some ⟨oc20, od20, .func (PySem.W.fnOf "__mul__" "Ratio.__mul__" (defArgs s_Ratio___mul__) (defBody s_Ratio___mul__) (defScope s_Ratio___mul__) .none kV20 dc20 pm20 an20 cd20 ct20), sl20⟩)
    (c20 : PySem.W.codeIn K cd20 "Ratio.__mul__" = true) (k20 : PySem.W.keepIn K (.ref f20) = true)
    (a21 : PySem.W.findIn K (.ref C_Ratio) "over" = some (some (.ref f21))) (i21 : PySem.W.isFn K (.ref f21) = true)
    (l21 : K.lookup f21 = some ⟨oc21, od21, .func (PySem.W.fnOf "over" "Ratio.over" (defArgs s_Ratio_over) (defBody s_Ratio_over) (defScope s_Ratio_over) .none kV21 dc21 pm21 an21 cd21 ct21), sl21⟩)
    (c21 : PySem.W.codeIn K cd21 "Ratio.over" = true) (k21 : PySem.W.keepIn K (.ref f21) = true)
    (a22 : PySem.W.nsIn K mainGlobals "dearest_order" = some (some (.ref f22)))
    (l22 : K.lookup f22 = some ⟨oc22, od22, .func (PySem.W.fnOf "dearest_order" "dearest_order" (defArgs s_dearest_order) (defBody s_dearest_order) (defScope s_dearest_order) .none kV22 dc22 pm22 an22 cd22 ct22), sl22⟩)
    (c22 : PySem.W.codeIn K cd22 "dearest_order" = true) (k22 : PySem.W.keepIn K (.ref f22) = true)
    (a23 : PySem.W.nsIn K mainGlobals "_bar" = some (some (.ref f23)))
    (l23 : K.lookup f23 = some ⟨oc23, od23, .func (PySem.W.fnOf "_bar" "_bar" (defArgs s__bar) (defBody s__bar) (defScope s__bar) .none kV23 dc23 pm23 an23 cd23 ct23), sl23⟩)
    (c23 : PySem.W.codeIn K cd23 "_bar" = true) (k23 : PySem.W.keepIn K (.ref f23) = true)
    (a24 : PySem.W.nsIn K mainGlobals "_worths_before" = some (some (.ref f24)))
    (l24 : K.lookup f24 = some ⟨oc24, od24, .func (PySem.W.fnOf "_worths_before" "_worths_before" (defArgs s__worths_before) (defBody s__worths_before) (defScope s__worths_before) .none kV24 dc24 pm24 an24 cd24 ct24), sl24⟩)
    (c24 : PySem.W.codeIn K cd24 "_worths_before" = true) (k24 : PySem.W.keepIn K (.ref f24) = true)
    (a25 : PySem.W.findIn K (.ref C_Season) "__init__" = some (some (.ref f25))) (i25 : PySem.W.isFn K (.ref f25) = true)
    (l25 : K.lookup f25 = some ⟨oc25, od25, .func (PySem.W.fnOf "__init__" "Season.__init__" (defArgs s_Season___init__) (defBody s_Season___init__) (defScope s_Season___init__) .none kV25 dc25 pm25 an25 cd25 ct25), sl25⟩)
    (c25 : PySem.W.codeIn K cd25 "Season.__init__" = true) (k25 : PySem.W.keepIn K (.ref f25) = true)
    (a26 : PySem.W.findIn K (.ref C_Season) "_check" = some (some (.ref f26))) (i26 : PySem.W.isFn K (.ref f26) = true)
    (l26 : K.lookup f26 = some ⟨oc26, od26, .func (PySem.W.fnOf "_check" "Season._check" (defArgs s_Season__check) (defBody s_Season__check) (defScope s_Season__check) .none kV26 dc26 pm26 an26 cd26 ct26), sl26⟩)
    (c26 : PySem.W.codeIn K cd26 "Season._check" = true) (k26 : PySem.W.keepIn K (.ref f26) = true)
    (a27 : PySem.W.findIn K (.ref C_Season) "worth" = some (some (.ref f27))) (i27 : PySem.W.isFn K (.ref f27) = true)
    (l27 : K.lookup f27 = some ⟨oc27, od27, .func (PySem.W.fnOf "worth" "Season.worth" (defArgs s_Season_worth) (defBody s_Season_worth) (defScope s_Season_worth) .none kV27 dc27 pm27 an27 cd27 ct27), sl27⟩)
    (c27 : PySem.W.codeIn K cd27 "Season.worth" = true) (k27 : PySem.W.keepIn K (.ref f27) = true)
    (a28 : PySem.W.findIn K (.ref C_Season) "bar" = some (some (.ref f28))) (i28 : PySem.W.isFn K (.ref f28) = true)
    (l28 : K.lookup f28 = some ⟨oc28, od28, .func (PySem.W.fnOf "bar" "Season.bar" (defArgs s_Season_bar) (defBody s_Season_bar) (defScope s_Season_bar) .none kV28 dc28 pm28 an28 cd28 ct28), sl28⟩)
    (c28 : PySem.W.codeIn K cd28 "Season.bar" = true) (k28 : PySem.W.keepIn K (.ref f28) = true)
    (a29 : PySem.W.findIn K (.ref C_Season) "lot_to_show" = some (some (.ref f29))) (i29 : PySem.W.isFn K (.ref f29) = true)
    (l29 : K.lookup f29 = some ⟨oc29, od29, .func (PySem.W.fnOf "lot_to_show" "Season.lot_to_show" (defArgs s_Season_lot_to_show) (defBody s_Season_lot_to_show) (defScope s_Season_lot_to_show) .none kV29 dc29 pm29 an29 cd29 ct29), sl29⟩)
    (c29 : PySem.W.codeIn K cd29 "Season.lot_to_show" = true) (k29 : PySem.W.keepIn K (.ref f29) = true)
    (a30 : PySem.W.nsIn K mainGlobals "_law_cell" = some (some (.ref f30)))
    (l30 : K.lookup f30 = some ⟨oc30, od30, .func (PySem.W.fnOf "_law_cell" "_law_cell" (defArgs s__law_cell) (defBody s__law_cell) (defScope s__law_cell) .none kV30 dc30 pm30 an30 cd30 ct30), sl30⟩)
    (c30 : PySem.W.codeIn K cd30 "_law_cell" = true) (k30 : PySem.W.keepIn K (.ref f30) = true)
    (a31 : PySem.W.nsIn K mainGlobals "_law_draws" = some (some (.ref f31)))
    (l31 : K.lookup f31 = some ⟨oc31, od31, .func (PySem.W.fnOf "_law_draws" "_law_draws" (defArgs s__law_draws) (defBody s__law_draws) (defScope s__law_draws) .none kV31 dc31 pm31 an31 cd31 ct31), sl31⟩)
    (c31 : PySem.W.codeIn K cd31 "_law_draws" = true) (k31 : PySem.W.keepIn K (.ref f31) = true)
    (a32 : PySem.W.nsIn K mainGlobals "_law_is_int" = some (some (.ref f32)))
    (l32 : K.lookup f32 = some ⟨oc32, od32, .func (PySem.W.fnOf "_law_is_int" "_law_is_int" (defArgs s__law_is_int) (defBody s__law_is_int) (defScope s__law_is_int) .none kV32 dc32 pm32 an32 cd32 ct32), sl32⟩)
    (c32 : PySem.W.codeIn K cd32 "_law_is_int" = true) (k32 : PySem.W.keepIn K (.ref f32) = true)
    (a33 : PySem.W.nsIn K mainGlobals "_law_same" = some (some (.ref f33)))
    (l33 : K.lookup f33 = some ⟨oc33, od33, .func (PySem.W.fnOf "_law_same" "_law_same" (defArgs s__law_same) (defBody s__law_same) (defScope s__law_same) .none kV33 dc33 pm33 an33 cd33 ct33), sl33⟩)
    (c33 : PySem.W.codeIn K cd33 "_law_same" = true) (k33 : PySem.W.keepIn K (.ref f33) = true)
    (a34 : PySem.W.nsIn K mainGlobals "_law_same_lot" = some (some (.ref f34)))
    (l34 : K.lookup f34 = some ⟨oc34, od34, .func (PySem.W.fnOf "_law_same_lot" "_law_same_lot" (defArgs s__law_same_lot) (defBody s__law_same_lot) (defScope s__law_same_lot) .none kV34 dc34 pm34 an34 cd34 ct34), sl34⟩)
    (c34 : PySem.W.codeIn K cd34 "_law_same_lot" = true) (k34 : PySem.W.keepIn K (.ref f34) = true)
    (a35 : PySem.W.nsIn K mainGlobals "_law_refused" = some (some (.ref f35)))
    (l35 : K.lookup f35 = some ⟨oc35, od35, .func (PySem.W.fnOf "_law_refused" "_law_refused" (defArgs s__law_refused) (defBody s__law_refused) (defScope s__law_refused) .none kV35 dc35 pm35 an35 cd35 ct35), sl35⟩)
    (c35 : PySem.W.codeIn K cd35 "_law_refused" = true) (k35 : PySem.W.keepIn K (.ref f35) = true)
    (a36 : PySem.W.nsIn K mainGlobals "_law_near_or_far" = some (some (.ref f36)))
    (l36 : K.lookup f36 = some ⟨oc36, od36, .func (PySem.W.fnOf "_law_near_or_far" "_law_near_or_far" (defArgs s__law_near_or_far) (defBody s__law_near_or_far) (defScope s__law_near_or_far) .none kV36 dc36 pm36 an36 cd36 ct36), sl36⟩)
    (c36 : PySem.W.codeIn K cd36 "_law_near_or_far" = true) (k36 : PySem.W.keepIn K (.ref f36) = true)
    (a37 : PySem.W.nsIn K mainGlobals "_law_prices" = some (some (.ref f37)))
    (l37 : K.lookup f37 = some ⟨oc37, od37, .func (PySem.W.fnOf "_law_prices" "_law_prices" (defArgs s__law_prices) (defBody s__law_prices) (defScope s__law_prices) .none kV37 dc37 pm37 an37 cd37 ct37), sl37⟩)
    (c37 : PySem.W.codeIn K cd37 "_law_prices" = true) (k37 : PySem.W.keepIn K (.ref f37) = true)
    (a38 : PySem.W.nsIn K mainGlobals "_law_due" = some (some (.ref f38)))
    (l38 : K.lookup f38 = some ⟨oc38, od38, .func (PySem.W.fnOf "_law_due" "_law_due" (defArgs s__law_due) (defBody s__law_due) (defScope s__law_due) .none kV38 dc38 pm38 an38 cd38 ct38), sl38⟩)
    (c38 : PySem.W.codeIn K cd38 "_law_due" = true) (k38 : PySem.W.keepIn K (.ref f38) = true)
    (a39 : PySem.W.nsIn K mainGlobals "_law_opened" = some (some (.ref f39)))
    (l39 : K.lookup f39 = some ⟨oc39, od39, .func (PySem.W.fnOf "_law_opened" "_law_opened" (defArgs s__law_opened) (defBody s__law_opened) (defScope s__law_opened) .none kV39 dc39 pm39 an39 cd39 ct39), sl39⟩)
    (c39 : PySem.W.codeIn K cd39 "_law_opened" = true) (k39 : PySem.W.keepIn K (.ref f39) = true)
    (a40 : PySem.W.nsIn K mainGlobals "_law_opened_by_base" = some (some (.ref f40)))
    (l40 : K.lookup f40 = some ⟨oc40, od40, .func (PySem.W.fnOf "_law_opened_by_base" "_law_opened_by_base" (defArgs s__law_opened_by_base) (defBody s__law_opened_by_base) (defScope s__law_opened_by_base) .none kV40 dc40 pm40 an40 cd40 ct40), sl40⟩)
    (c40 : PySem.W.codeIn K cd40 "_law_opened_by_base" = true) (k40 : PySem.W.keepIn K (.ref f40) = true)
    (a41 : PySem.W.nsIn K mainGlobals "_law_asked" = some (some (.ref f41)))
    (l41 : K.lookup f41 = some ⟨oc41, od41, .func (PySem.W.fnOf "_law_asked" "_law_asked" (defArgs s__law_asked) (defBody s__law_asked) (defScope s__law_asked) .none kV41 dc41 pm41 an41 cd41 ct41), sl41⟩)
    (c41 : PySem.W.codeIn K cd41 "_law_asked" = true) (k41 : PySem.W.keepIn K (.ref f41) = true)
    (a42 : PySem.W.nsIn K mainGlobals "_law_asked_by_base" = some (some (.ref f42)))
    (l42 : K.lookup f42 = some ⟨oc42, od42, .func (PySem.W.fnOf "_law_asked_by_base" "_law_asked_by_base" (defArgs s__law_asked_by_base) (defBody s__law_asked_by_base) (defScope s__law_asked_by_base) .none kV42 dc42 pm42 an42 cd42 ct42), sl42⟩)
    (c42 : PySem.W.codeIn K cd42 "_law_asked_by_base" = true) (k42 : PySem.W.keepIn K (.ref f42) = true)
    (a43 : PySem.W.nsIn K mainGlobals "_law_nothing" = some (some (.ref f43)))
    (l43 : K.lookup f43 = some ⟨oc43, od43, .func (PySem.W.fnOf "_law_nothing" "_law_nothing" (defArgs s__law_nothing) (defBody s__law_nothing) (defScope s__law_nothing) .none kV43 dc43 pm43 an43 cd43 ct43), sl43⟩)
    (c43 : PySem.W.codeIn K cd43 "_law_nothing" = true) (k43 : PySem.W.keepIn K (.ref f43) = true)
    (a44 : PySem.W.nsIn K mainGlobals "_law_fields" = some (some (.ref f44)))
    (l44 : K.lookup f44 = some ⟨oc44, od44, .func (PySem.W.fnOf "_law_fields" "_law_fields" (defArgs s__law_fields) (defBody s__law_fields) (defScope s__law_fields) .none kV44 dc44 pm44 an44 cd44 ct44), sl44⟩)
    (c44 : PySem.W.codeIn K cd44 "_law_fields" = true) (k44 : PySem.W.keepIn K (.ref f44) = true)
    (a45 : PySem.W.nsIn K mainGlobals "law" = some (some (.ref f45)))
    (l45 : K.lookup f45 = some ⟨oc45, od45, .func (PySem.W.fnOf "law" "law" (defArgs s_law) (defBody s_law) (defScope s_law) .none kV45 dc45 pm45 an45 cd45 ct45), sl45⟩)
    (c45 : PySem.W.codeIn K cd45 "law" = true) (k45 : PySem.W.keepIn K (.ref f45) = true)
    (z_ValueError : PySem.W.nsIn K mainGlobals "ValueError" = some none)
    (z_bool : PySem.W.nsIn K mainGlobals "bool" = some none)
    (z_enumerate : PySem.W.nsIn K mainGlobals "enumerate" = some none)
    (z_int : PySem.W.nsIn K mainGlobals "int" = some none)
    (z_isinstance : PySem.W.nsIn K mainGlobals "isinstance" = some none)
    (z_len : PySem.W.nsIn K mainGlobals "len" = some none)
    (z_list : PySem.W.nsIn K mainGlobals "list" = some none)
    (z_range : PySem.W.nsIn K mainGlobals "range" = some none)
    (z_str : PySem.W.nsIn K mainGlobals "str" = some none)
    (z_tuple : PySem.W.nsIn K mainGlobals "tuple" = some none)
    (z_zip : PySem.W.nsIn K mainGlobals "zip" = some none) :
    ∃ fd : FuncData, (∀ (s : Shared) (v : Value), BindsTo s fd ⟨[v], []⟩ [("_law_script", v)]) ∧ ∀ base : Heap, K.In base → base.Ns mainGlobals mg → FnOk l.prog w K mg base CX0 11 fa fd ["_law_script"] (sp_law K) := by
  have e := hfa.symm.trans (PySem.W.mg_of X G a45)
  cases e
  have m_ValueError := PySem.W.mg_none_of X G z_ValueError
  have m_bool := PySem.W.mg_none_of X G z_bool
  have m_enumerate := PySem.W.mg_none_of X G z_enumerate
  have m_int := PySem.W.mg_none_of X G z_int
  have m_isinstance := PySem.W.mg_none_of X G z_isinstance
  have m_len := PySem.W.mg_none_of X G z_len
  have m_list := PySem.W.mg_none_of X G z_list
  have m_range := PySem.W.mg_none_of X G z_range
  have m_str := PySem.W.mg_none_of X G z_str
  have m_tuple := PySem.W.mg_none_of X G z_tuple
  have m_zip := PySem.W.mg_none_of X G z_zip
  have T : Txt K mg C_Weighted C_Ratio C_BadNumber C_TooMany C_ZeroBottom C_BadLot C_Season C_ShelfError := ⟨PySem.W.mg_of X G a_Weighted, kc_Weighted, hd_Weighted, ha_Weighted, hm_Weighted, ⟨pg_Weighted, hd_Weighted, po_Weighted, sa_Weighted⟩, mk_Weighted, n_Weighted_many, n_Weighted_weights, n_Weighted_aside, PySem.W.mg_of X G a_Ratio, kc_Ratio, hd_Ratio, ha_Ratio, hm_Ratio, ⟨pg_Ratio, hd_Ratio, po_Ratio, sa_Ratio⟩, mk_Ratio, n_Ratio_top, n_Ratio_bottom, ⟨ss_Ratio, sb_Ratio, sy_Ratio, sf_Ratio⟩, sf_Ratio, si_Ratio, sr_Ratio, ⟨_, rf_Ratio_add, .inr ⟨_, rfl⟩⟩, ⟨_, of_Ratio_add⟩, ⟨_, _, inta_add, intr_add⟩, ⟨_, rf_Ratio_sub, .inr ⟨_, rfl⟩⟩, ⟨_, of_Ratio_sub⟩, ⟨_, _, inta_sub, intr_sub⟩, ⟨_, rf_Ratio_mul, .inr ⟨_, rfl⟩⟩, ⟨_, of_Ratio_mul⟩, ⟨_, _, inta_mul, intr_mul⟩, PySem.W.mg_of X G a_BadNumber, kc_BadNumber, hd_BadNumber, ha_BadNumber, hm_BadNumber, b_BadNumber, t_BadNumber, ga_BadNumber, gg_BadNumber, ⟨⟨_, _, _, _, _, _, _, _, _, _, _, _, _, _, _, ol_BadNumber, or_BadNumber⟩, sa_BadNumber, b_BadNumber, t_BadNumber, kc_BadNumber⟩, ⟨ga_BadNumber, gg_BadNumber, b_BadNumber, hd_BadNumber⟩, n_BadNumber_what, n_BadNumber_at, PySem.W.mg_of X G a_TooMany, kc_TooMany, hd_TooMany, ha_TooMany, hm_TooMany, b_TooMany, t_TooMany, ga_TooMany, gg_TooMany, ⟨⟨_, _, _, _, _, _, _, _, _, _, _, _, _, _, _, ol_TooMany, or_TooMany⟩, sa_TooMany, b_TooMany, t_TooMany, kc_TooMany⟩, ⟨ga_TooMany, gg_TooMany, b_TooMany, hd_TooMany⟩, n_TooMany_many, n_TooMany_most, PySem.W.mg_of X G a_ZeroBottom, kc_ZeroBottom, hd_ZeroBottom, ha_ZeroBottom, hm_ZeroBottom, b_ZeroBottom, t_ZeroBottom, ga_ZeroBottom, gg_ZeroBottom, x_ZeroBottom, PySem.W.mg_of X G a_BadLot, kc_BadLot, hd_BadLot, ha_BadLot, hm_BadLot, b_BadLot, t_BadLot, ga_BadLot, gg_BadLot, x_BadLot, PySem.W.mg_of X G a_Season, kc_Season, hd_Season, ha_Season, hm_Season, ⟨pg_Season, hd_Season, po_Season, sa_Season⟩, mk_Season, n_Season_rule, n_Season_prices, n_Season_seats, n_Season_buyers, n_Season__worths, PySem.W.mg_of X G a_ShelfError, kc_ShelfError, hd_ShelfError, ha_ShelfError, hm_ShelfError, b_ShelfError, t_ShelfError, ga_ShelfError, gg_ShelfError, hnc, htk, sub_BadNumber_BadNumber, sub_BadNumber_ShelfError, kit_Ratio_Ratio, kit_int_Ratio, kit_BadNumber_TooMany, kit_BadNumber_BadLot, kit_BadNumber_ValueError, kit_BadNumber_BadNumber, kit_Season_Season, kit_Weighted_Weighted, PySem.W.mg_of X G a_gcd, ⟨_, PySem.W.mg_of X G a_MOST_THINGS⟩, ⟨_, PySem.W.mg_of X G a_MOST_SEATS⟩, ⟨_, PySem.W.mg_of X G a_MOST_BUYERS⟩⟩
  have F1 := fun_mk (st := s_BadNumber___init__) l1 c1 k1
  have b1 := F1.binds (ps := ["self", "what", "at"]) fun _ _ _ _ _ _ us hl => match us, hl with | [_, _, _], _ => rfl
  have F2 := fun_mk (st := s_TooMany___init__) l2 c2 k2
  have b2 := F2.binds (ps := ["self", "many", "most"]) fun _ _ _ _ _ _ us hl => match us, hl with | [_, _, _], _ => rfl
  have F3 := fun_mk (st := s_check_many) l3 c3 k3
  have b3 := F3.binds (ps := ["many", "most"]) fun _ _ _ _ _ _ us hl => match us, hl with | [_, _], _ => rfl
  have F4 := fun_mk (st := s_check_length) l4 c4 k4
  have b4 := F4.binds (ps := ["what", "items", "many"]) fun _ _ _ _ _ _ us hl => match us, hl with | [_, _, _], _ => rfl
  have F5 := fun_mk (st := s_check_each) l5 c5 k5
  have b5 := F5.binds (ps := ["what", "numbers", "least"]) fun _ _ _ _ _ _ us hl => match us, hl with | [_, _, _], _ => rfl
  have F6 := fun_mk (st := s_check_prices) l6 c6 k6
  have b6 := F6.binds (ps := ["prices", "many"]) fun _ _ _ _ _ _ us hl => match us, hl with | [_, _], _ => rfl
  have F7 := fun_mk (st := s_check_least) l7 c7 k7
  have b7 := F7.binds (ps := ["what", "number", "least"]) fun _ _ _ _ _ _ us hl => match us, hl with | [_, _, _], _ => rfl
  have F8 := fun_mk (st := s_check_aside) l8 c8 k8
  have b8 := F8.binds (ps := ["aside"]) fun _ _ _ _ _ _ us hl => match us, hl with | [_], _ => rfl
  have F9 := fun_mk (st := s_check_up_to) l9 c9 k9
  have b9 := F9.binds (ps := ["what", "number", "most"]) fun _ _ _ _ _ _ us hl => match us, hl with | [_, _, _], _ => rfl
  have F10 := fun_mk (st := s_Rule___init__) l10 c10 k10
  have b10 := F10.binds (ps := ["self", "many"]) fun _ _ _ _ _ _ us hl => match us, hl with | [_, _], _ => rfl
  have F11 : FunS K "__init__" "Weighted.__init__" s_Weighted___init__ cc11 cda11 f11 _ := ⟨⟨oc11, od11, kV11, dc11, pm11, an11, ct11, sl11, rfl, l11, c11⟩, k11⟩
  have b11 := F11.binds (ps := ["self", "weights", "aside"]) fun _ _ _ _ _ us hl => match us, hl with | [_, _, _], _ => rfl
  have S11 : SupC K mg C_Weighted C_Weighted cc11 cda11 f10 fi11 := ⟨⟨_, sa11⟩, sb11, ⟨_, _, _, sc11⟩, ⟨_, _, _, _, _, sd11, se11⟩, sg10_Weighted, sh11, si11, sj11, PySem.W.mg_none_of X G sk11⟩
  have F12 : FunD K "__init__" "Ratio.__init__" (defArgs s_Ratio___init__) (defBody s_Ratio___init__) (defScope s_Ratio___init__) [V.int 1] [] f12 _ := ⟨⟨oc12, od12, .ref tT12, kV12, dc12, pm12, an12, cd12, ct12, sl12, rfl, l12, c12, .inr ⟨List.cons_ne_nil _ _, tT12, _, [.int 1 tq12_0], nT12, rfl, lt12, rfl, (.cons ⟨_, rfl⟩ .nil)⟩, .inl rfl⟩, k12⟩
  obtain ⟨dn12, vn12, b12⟩ := F12.binds1 (ps := ["self", "top", "bottom"]) 3 1 (List.cons_ne_nil _ _) rfl fun _ _ _ _ _ _ _ us its hl hi => match us, its, hl, hi with | [_, _, _], [_], _, _ => ⟨_, rfl, rfl⟩
  cases vn12
  obtain ⟨dd12, vd12, bd12⟩ := F12.binds1 (ps := ["self", "top", "bottom"]) 2 0 (List.cons_ne_nil _ _) rfl fun _ _ _ _ _ _ _ us its hl hi => match us, its, hl, hi with | [_, _], [_], _, _ => ⟨_, rfl, rfl⟩
  have F13 := fun_mk (st := s__as_ratio) l13 c13 k13
  have b13 := F13.binds (ps := ["number"]) fun _ _ _ _ _ _ us hl => match us, hl with | [_], _ => rfl
  have F14 := fun_mk (st := s__gap) l14 c14 k14
  have b14 := F14.binds (ps := ["ratio", "other"]) fun _ _ _ _ _ _ us hl => match us, hl with | [_, _], _ => rfl
  have F15 := fun_mk (st := s_Ratio___lt__) l15 c15 k15
  have b15 := F15.binds (ps := ["self", "other"]) fun _ _ _ _ _ _ us hl => match us, hl with | [_, _], _ => rfl
  have F16 := fun_mk (st := s_Ratio___gt__) l16 c16 k16
  have b16 := F16.binds (ps := ["self", "other"]) fun _ _ _ _ _ _ us hl => match us, hl with | [_, _], _ => rfl
  have F17 := fun_mk (st := s_Ratio___neg__) l17 c17 k17
  have b17 := F17.binds (ps := ["self"]) fun _ _ _ _ _ _ us hl => match us, hl with | [_], _ => rfl
  have F18 := fun_mk (st := s_Ratio___add__) l18 c18 k18
  have b18 := F18.binds (ps := ["self", "other"]) fun _ _ _ _ _ _ us hl => match us, hl with | [_, _], _ => rfl
  have F19 := fun_mk (st := s_Ratio___sub__) l19 c19 k19
  have b19 := F19.binds (ps := ["self", "other"]) fun _ _ _ _ _ _ us hl => match us, hl with | [_, _], _ => rfl
  have F20 := fun_mk (st := s_Ratio___mul__) l20 c20 k20
  have b20 := F20.binds (ps := ["self", "other"]) fun _ _ _ _ _ _ us hl => match us, hl with | [_, _], _ => rfl
  have F21 := fun_mk (st := s_Ratio_over) l21 c21 k21
  have b21 := F21.binds (ps := ["self", "other"]) fun _ _ _ _ _ _ us hl => match us, hl with | [_, _], _ => rfl
  have F22 := fun_mk (st := s_dearest_order) l22 c22 k22
  have b22 := F22.binds (ps := ["prices"]) fun _ _ _ _ _ _ us hl => match us, hl with | [_], _ => rfl
  have F23 := fun_mk (st := s__bar) l23 c23 k23
  have b23 := F23.binds (ps := ["margin", "rule", "prices"]) fun _ _ _ _ _ _ us hl => match us, hl with | [_, _, _], _ => rfl
  have F24 := fun_mk (st := s__worths_before) l24 c24 k24
  have b24 := F24.binds (ps := ["worths", "rule", "prices"]) fun _ _ _ _ _ _ us hl => match us, hl with | [_, _, _], _ => rfl
  have F25 := fun_mk (st := s_Season___init__) l25 c25 k25
  have F26 := fun_mk (st := s_Season__check) l26 c26 k26
  have b26 := F26.binds (ps := ["self", "s", "b"]) fun _ _ _ _ _ _ us hl => match us, hl with | [_, _, _], _ => rfl
  have F27 := fun_mk (st := s_Season_worth) l27 c27 k27
  have b27 := F27.binds (ps := ["self", "s", "b"]) fun _ _ _ _ _ _ us hl => match us, hl with | [_, _, _], _ => rfl
  have F28 := fun_mk (st := s_Season_bar) l28 c28 k28
  have b28 := F28.binds (ps := ["self", "s", "b"]) fun _ _ _ _ _ _ us hl => match us, hl with | [_, _, _], _ => rfl
  have F29 := fun_mk (st := s_Season_lot_to_show) l29 c29 k29
  have b29 := F29.binds (ps := ["self", "s", "b"]) fun _ _ _ _ _ _ us hl => match us, hl with | [_, _, _], _ => rfl
  have F30 := fun_mk (st := s__law_cell) l30 c30 k30
  have b30 := F30.binds (ps := ["_law_script", "_law_place"]) fun _ _ _ _ _ _ us hl => match us, hl with | [_, _], _ => rfl
  have F31 := fun_mk (st := s__law_draws) l31 c31 k31
  have b31 := F31.binds (ps := ["_law_cell_here", "_law_sizes"]) fun _ _ _ _ _ _ us hl => match us, hl with | [_, _], _ => rfl
  have F32 := fun_mk (st := s__law_is_int) l32 c32 k32
  have b32 := F32.binds (ps := ["_law_x"]) fun _ _ _ _ _ _ us hl => match us, hl with | [_], _ => rfl
  have F33 := fun_mk (st := s__law_same) l33 c33 k33
  have b33 := F33.binds (ps := ["_law_x", "_law_top", "_law_bottom"]) fun _ _ _ _ _ _ us hl => match us, hl with | [_, _, _], _ => rfl
  have F34 := fun_mk (st := s__law_same_lot) l34 c34 k34
  have b34 := F34.binds (ps := ["_law_x", "_law_due_here"]) fun _ _ _ _ _ _ us hl => match us, hl with | [_, _], _ => rfl
  have F35 := fun_mk (st := s__law_refused) l35 c35 k35
  have b35 := F35.binds (ps := ["_law_answer", "_law_due_here"]) fun _ _ _ _ _ _ us hl => match us, hl with | [_, _], _ => rfl
  have F36 := fun_mk (st := s__law_near_or_far) l36 c36 k36
  have b36 := F36.binds (ps := ["_law_kind", "_law_near", "_law_sign", "_law_far"]) fun _ _ _ _ _ _ us hl => match us, hl with | [_, _, _, _], _ => rfl
  have F37 := fun_mk (st := s__law_prices) l37 c37 k37
  have b37 := F37.binds (ps := ["_law_way", "_law_places", "_law_row"]) fun _ _ _ _ _ _ us hl => match us, hl with | [_, _, _], _ => rfl
  have F38 := fun_mk (st := s__law_due) l38 c38 k38
  have b38 := F38.binds (ps := ["_law_prices_here", "_law_many", "_law_chairs", "_law_come"]) fun _ _ _ _ _ _ us hl => match us, hl with | [_, _, _, _], _ => rfl
  have F39 := fun_mk (st := s__law_opened) l39 c39 k39
  have b39 := F39.binds (ps := ["_law_rule", "_law_prices_here", "_law_chairs", "_law_come"]) fun _ _ _ _ _ _ us hl => match us, hl with | [_, _, _, _], _ => rfl
  have F40 := fun_mk (st := s__law_opened_by_base) l40 c40 k40
  have b40 := F40.binds (ps := ["_law_rule", "_law_prices_here", "_law_chairs", "_law_come"]) fun _ _ _ _ _ _ us hl => match us, hl with | [_, _, _, _], _ => rfl
  have F41 := fun_mk (st := s__law_asked) l41 c41 k41
  have b41 := F41.binds (ps := ["_law_season", "_law_way", "_law_s", "_law_b"]) fun _ _ _ _ _ _ us hl => match us, hl with | [_, _, _, _], _ => rfl
  have F42 := fun_mk (st := s__law_asked_by_base) l42 c42 k42
  have b42 := F42.binds (ps := ["_law_season", "_law_way", "_law_s", "_law_b"]) fun _ _ _ _ _ _ us hl => match us, hl with | [_, _, _, _], _ => rfl
  have F43 := fun_mk (st := s__law_nothing) l43 c43 k43
  have b43 := F43.binds (ps := ["_law_answer", "_law_way"]) fun _ _ _ _ _ _ us hl => match us, hl with | [_, _], _ => rfl
  have F44 := fun_mk (st := s__law_fields) l44 c44 k44
  have b44 := F44.binds (ps := ["_law_season", "_law_weights", "_law_apart", "_law_prices_here", "_law_chairs", "_law_come"]) fun _ _ _ _ _ _ us hl => match us, hl with | [_, _, _, _, _, _], _ => rfl
  have F45 := fun_mk (st := s_law) l45 c45 k45
  refine ⟨PySem.W.fnOf "law" "law" (defArgs s_law) (defBody s_law) (defScope s_law) .none kV45 dc45 pm45 an45 cd45 ct45, fun s v => .of_eq rfl, fun base _ _ => ?_⟩
  have K_BadNumber___init__ : CalX l.prog w K mg base CX0 1 C_BadNumber ["self", "what", "at"] (sp_BadNumber___init__ C_BadNumber) := ⟨f1, _, ok_BadNumber___init__ F1 T, a1, beq_iff_eq.mp i1, b1⟩
  have K_TooMany___init__ : CalX l.prog w K mg base CX0 1 C_TooMany ["self", "many", "most"] (sp_TooMany___init__ C_TooMany) := ⟨f2, _, ok_TooMany___init__ F2 T, a2, beq_iff_eq.mp i2, b2⟩
  have K_check_many : Cal l.prog w K mg base (L2.CX l.prog w) 3 "check_many" ["many", "most"] (sp_check_many C_TooMany) := ⟨f3, _, ok_check_many F3 T K_TooMany___init__, PySem.W.mg_of X G a3, k3, b3⟩
  have K_check_length : Cal l.prog w K mg base (L2.CX l.prog w) 3 "check_length" ["what", "items", "many"] (sp_check_length C_BadNumber) := ⟨f4, _, ok_check_length F4 T m_len K_BadNumber___init__, PySem.W.mg_of X G a4, k4, b4⟩
  have K_check_each : Cal l.prog w K mg base (L2.CX l.prog w) 3 "check_each" ["what", "numbers", "least"] (sp_check_each K C_BadNumber) := ⟨f5, _, ok_check_each F5 T m_enumerate K_BadNumber___init__, PySem.W.mg_of X G a5, k5, b5⟩
  have K_check_prices : Cal l.prog w K mg base (L2.CX l.prog w) 4 "check_prices" ["prices", "many"] (sp_check_prices K C_BadNumber) := ⟨f6, _, ok_check_prices F6 T K_check_length K_check_each, PySem.W.mg_of X G a6, k6, b6⟩
  have K_check_least : Cal l.prog w K mg base (L2.CX l.prog w) 3 "check_least" ["what", "number", "least"] (sp_check_least C_BadNumber) := ⟨f7, _, ok_check_least F7 T K_BadNumber___init__, PySem.W.mg_of X G a7, k7, b7⟩
  have K_check_aside : Cal l.prog w K mg base (L2.CX l.prog w) 4 "check_aside" ["aside"] (sp_check_aside C_BadNumber) := ⟨f8, _, ok_check_aside F8 T K_check_least, PySem.W.mg_of X G a8, k8, b8⟩
  have K_check_up_to : Cal l.prog w K mg base (L2.CX l.prog w) 3 "check_up_to" ["what", "number", "most"] (sp_check_up_to C_BadNumber) := ⟨f9, _, ok_check_up_to F9 T K_BadNumber___init__, PySem.W.mg_of X G a9, k9, b9⟩
  have K_Rule___init__ : ∃ fd : FuncData, FnOk l.prog w K mg base (L2.CX l.prog w) 4 f10 fd ["self", "many"] (sp_Rule___init__ C_Weighted C_TooMany) ∧ Binds K fd ["self", "many"] [] := ⟨_, ok_Rule___init__ F10 T K_check_many, b10⟩
  have K_Weighted___init__ : CalI l.prog w K mg base (L2.CX l.prog w) 5 C_Weighted ["self", "weights", "aside"] (sp_Weighted___init__ K C_Weighted C_TooMany C_BadNumber) [] := ⟨f11, _, ok_Weighted___init__ F11 S11 sl_11 sm11 T m_len m_tuple K_Rule___init__ K_check_each K_check_aside, ⟨mk_Weighted, a11, i11, kc_Weighted⟩, b11, [], .nil, b11⟩
  have K_Ratio___init__ : CalI l.prog w K mg base (L2.CX l.prog w) 1 C_Ratio ["self", "top", "bottom"] (sp_Ratio___init__ C_Ratio C_ZeroBottom) [V.int 1] := ⟨f12, _, ok_Ratio___init__ F12 T, ⟨mk_Ratio, a12, i12, kc_Ratio⟩, b12, dd12, vd12, bd12⟩
  have K__as_ratio : Cal l.prog w K mg base CX0 3 "_as_ratio" ["number"] (sp__as_ratio C_Ratio) := ⟨f13, _, ok__as_ratio F13 T m_isinstance K_Ratio___init__, PySem.W.mg_of X G a13, k13, b13⟩
  have K__gap : Cal l.prog w K mg base CX0 4 "_gap" ["ratio", "other"] (sp__gap C_Ratio) := ⟨f14, _, ok__gap F14 T K__as_ratio, PySem.W.mg_of X G a14, k14, b14⟩
  have K_Ratio___lt__ : CalM l.prog w K mg base CX0 5 C_Ratio "__lt__" ["self", "other"] (sp_Ratio___lt__ C_Ratio) := ⟨f15, _, ok_Ratio___lt__ F15 T K__gap, ⟨a15, i15, k15⟩, b15⟩
  have K_Ratio___gt__ : CalM l.prog w K mg base CX0 5 C_Ratio "__gt__" ["self", "other"] (sp_Ratio___gt__ C_Ratio) := ⟨f16, _, ok_Ratio___gt__ F16 T K__gap, ⟨a16, i16, k16⟩, b16⟩
  have K_Ratio___neg__ : CalM l.prog w K mg base CX0 3 C_Ratio "__neg__" ["self"] (sp_Ratio___neg__ C_Ratio) := ⟨f17, _, ok_Ratio___neg__ F17 T K_Ratio___init__, ⟨a17, i17, k17⟩, b17⟩
  have K_Ratio___add__ : CalM l.prog w K mg base CX0 4 C_Ratio "__add__" ["self", "other"] (sp_Ratio___add__ C_Ratio) := ⟨f18, _, ok_Ratio___add__ F18 T K__as_ratio K_Ratio___init__, ⟨a18, i18, k18⟩, b18⟩
  have K_Ratio___sub__ : CalM l.prog w K mg base CX0 5 C_Ratio "__sub__" ["self", "other"] (sp_Ratio___sub__ C_Ratio) := ⟨f19, _, ok_Ratio___sub__ F19 T K__as_ratio K_Ratio___neg__ K_Ratio___add__, ⟨a19, i19, k19⟩, b19⟩
  have K_Ratio___mul__ : CalM l.prog w K mg base CX0 4 C_Ratio "__mul__" ["self", "other"] (sp_Ratio___mul__ C_Ratio) := ⟨f20, _, ok_Ratio___mul__ F20 T K__as_ratio K_Ratio___init__, ⟨a20, i20, k20⟩, b20⟩
  have K_Ratio_over : CalM l.prog w K mg base (L2.CX l.prog w) 4 C_Ratio "over" ["self", "other"] (sp_Ratio_over C_Ratio C_ZeroBottom) := ⟨f21, _, ok_Ratio_over F21 T K__as_ratio K_Ratio___init__, ⟨a21, i21, k21⟩, b21⟩
  have K_dearest_order : Cal l.prog w K mg base CX0 1 "dearest_order" ["prices"] (sp_dearest_order K) := ⟨f22, _, ok_dearest_order F22 T m_len m_range m_tuple, PySem.W.mg_of X G a22, k22, b22⟩
  have K__bar : Cal l.prog w K mg base CX0 6 "_bar" ["margin", "rule", "prices"] (sp__bar C_Ratio C_Weighted) := ⟨f23, _, ok__bar F23 T K_dearest_order K_Ratio___mul__ K_Ratio___add__ K_Ratio_over K_Ratio___gt__ K_Ratio___lt__, PySem.W.mg_of X G a23, k23, b23⟩
  have K__worths_before : Cal l.prog w K mg base CX0 7 "_worths_before" ["worths", "rule", "prices"] (sp__worths_before C_Ratio C_Weighted) := ⟨f24, _, ok__worths_before F24 T m_zip K_Ratio___init__ K_Ratio___add__ K_Ratio___sub__ K__bar, PySem.W.mg_of X G a24, k24, b24⟩
  have K_Season___init__ : ∃ (f : Addr) (fd : FuncData), FnOk l.prog w K mg base (L2.CX l.prog w) 8 f fd ["self", "rule", "prices", "seats", "buyers"] (sp_Season___init__ C_Season C_Ratio C_Weighted C_BadNumber) ∧ Mk K C_Season f ∧ KBn K fd ["self", "rule", "prices", "seats", "buyers"] 3 ["seats", "buyers"] (fun us ws => us ++ ws) (fun vs zs => vs ++ zs) := ⟨f25, _, ok_Season___init__ F25 T m_range m_tuple K_check_prices K_check_up_to K_Ratio___init__ K__worths_before, ⟨mk_Season, a25, i25, kc_Season⟩, ⟨fun s us ws X l1 l2 => match us, ws, l1, l2 with | [_, _, _], [_, _], _, _ => .of_eq rfl, fun r1 r2 => r1.append r2⟩⟩
  have K_Season__check : CalM l.prog w K mg base (L2.CX l.prog w) 4 C_Season "_check" ["self", "s", "b"] (sp_Season__check C_Season C_Ratio C_Weighted C_BadNumber) := ⟨f26, _, ok_Season__check F26 T K_check_up_to, ⟨a26, i26, k26⟩, b26⟩
  have K_Season_worth : CalM l.prog w K mg base (L2.CX l.prog w) 5 C_Season "worth" ["self", "s", "b"] (sp_Season_worth C_Season C_Ratio C_Weighted C_BadNumber) := ⟨f27, _, ok_Season_worth F27 T K_Season__check K_Ratio___init__, ⟨a27, i27, k27⟩, b27⟩
  have K_Season_bar : CalM l.prog w K mg base (L2.CX l.prog w) 6 C_Season "bar" ["self", "s", "b"] (sp_Season_bar C_Season C_Ratio C_Weighted C_BadNumber) := ⟨f28, _, ok_Season_bar F28 T K_Season__check K_Ratio___sub__, ⟨a28, i28, k28⟩, b28⟩
  have K_Season_lot_to_show : CalM l.prog w K mg base (L2.CX l.prog w) 7 C_Season "lot_to_show" ["self", "s", "b"] (sp_Season_lot_to_show C_Season C_Ratio C_Weighted C_BadNumber) := ⟨f29, _, ok_Season_lot_to_show F29 T m_range m_tuple K_Season_bar K_Ratio___gt__ K_Ratio___lt__, ⟨a29, i29, k29⟩, b29⟩
  have K__law_cell : Cal l.prog w K mg base CX0 1 "_law_cell" ["_law_script", "_law_place"] (sp__law_cell K) := ⟨f30, _, ok__law_cell F30 T m_int m_len, PySem.W.mg_of X G a30, k30, b30⟩
  have K__law_draws : Cal l.prog w K mg base CX0 1 "_law_draws" ["_law_cell_here", "_law_sizes"] (sp__law_draws K) := ⟨f31, _, ok__law_draws F31 T m_int m_len m_range, PySem.W.mg_of X G a31, k31, b31⟩
  have K__law_is_int : Cal l.prog w K mg base CX0 1 "_law_is_int" ["_law_x"] sp__law_is_int := ⟨f32, _, ok__law_is_int F32 T m_bool m_int m_isinstance, PySem.W.mg_of X G a32, k32, b32⟩
  have K__law_same : Cal l.prog w K mg base CX0 2 "_law_same" ["_law_x", "_law_top", "_law_bottom"] (sp__law_same C_Ratio) := ⟨f33, _, ok__law_same F33 T m_isinstance K__law_is_int, PySem.W.mg_of X G a33, k33, b33⟩
  have K__law_same_lot : Cal l.prog w K mg base CX0 2 "_law_same_lot" ["_law_x", "_law_due_here"] (sp__law_same_lot K) := ⟨f34, _, ok__law_same_lot F34 T m_isinstance m_len m_range m_tuple K__law_is_int, PySem.W.mg_of X G a34, k34, b34⟩
  have K__law_refused : Cal l.prog w K mg base CX0 2 "_law_refused" ["_law_answer", "_law_due_here"] (sp__law_refused) := ⟨f35, _, ok__law_refused F35 T m_isinstance m_len m_range m_str K__law_is_int, PySem.W.mg_of X G a35, k35, b35⟩
  have K__law_near_or_far : Cal l.prog w K mg base CX0 1 "_law_near_or_far" ["_law_kind", "_law_near", "_law_sign", "_law_far"] (sp__law_near_or_far) := ⟨f36, _, ok__law_near_or_far F36 T, PySem.W.mg_of X G a36, k36, b36⟩
  have K__law_prices : Cal l.prog w K mg base CX0 1 "_law_prices" ["_law_way", "_law_places", "_law_row"] (sp__law_prices) := ⟨f37, _, ok__law_prices F37 T m_int m_len m_list, PySem.W.mg_of X G a37, k37, b37⟩
  have K__law_due : Cal l.prog w K mg base CX0 1 "_law_due" ["_law_prices_here", "_law_many", "_law_chairs", "_law_come"] (sp__law_due) := ⟨f38, _, ok__law_due F38 T m_len m_range, PySem.W.mg_of X G a38, k38, b38⟩
  have K__law_opened : Cal l.prog w K mg base CX0 10 "_law_opened" ["_law_rule", "_law_prices_here", "_law_chairs", "_law_come"] (sp__law_opened C_Season C_Ratio C_Weighted) := ⟨f39, _, ok__law_opened F39 T K_Season___init__, PySem.W.mg_of X G a39, k39, b39⟩
  have K__law_opened_by_base : Cal l.prog w K mg base CX0 10 "_law_opened_by_base" ["_law_rule", "_law_prices_here", "_law_chairs", "_law_come"] (sp__law_opened_by_base C_Season C_Ratio C_Weighted) := ⟨f40, _, ok__law_opened_by_base F40 T m_ValueError m_isinstance K_Season___init__, PySem.W.mg_of X G a40, k40, b40⟩
  have K__law_asked : Cal l.prog w K mg base CX0 8 "_law_asked" ["_law_season", "_law_way", "_law_s", "_law_b"] (sp__law_asked C_Season C_Ratio C_Weighted) := ⟨f41, _, ok__law_asked F41 T K_Season_worth K_Season_bar K_Season_lot_to_show, PySem.W.mg_of X G a41, k41, b41⟩
  have K__law_asked_by_base : Cal l.prog w K mg base CX0 8 "_law_asked_by_base" ["_law_season", "_law_way", "_law_s", "_law_b"] (sp__law_asked_by_base C_Season C_Ratio C_Weighted) := ⟨f42, _, ok__law_asked_by_base F42 T m_ValueError m_isinstance K_Season_worth K_Season_bar K_Season_lot_to_show, PySem.W.mg_of X G a42, k42, b42⟩
  have K__law_nothing : Cal l.prog w K mg base CX0 3 "_law_nothing" ["_law_answer", "_law_way"] (sp__law_nothing C_Ratio) := ⟨f43, _, ok__law_nothing F43 T m_isinstance m_len m_tuple K__law_same, PySem.W.mg_of X G a43, k43, b43⟩
  have K__law_fields : Cal l.prog w K mg base CX0 3 "_law_fields" ["_law_season", "_law_weights", "_law_apart", "_law_prices_here", "_law_chairs", "_law_come"] (sp__law_fields C_Season C_Ratio C_Weighted) := ⟨f44, _, ok__law_fields F44 T m_isinstance K__law_same_lot, PySem.W.mg_of X G a44, k44, b44⟩
  exact ok_law F45 T m_len m_list m_range K_Weighted___init__ K__law_cell K__law_draws K__law_refused K__law_near_or_far K__law_prices K__law_due K__law_opened K__law_opened_by_base K__law_asked K__law_asked_by_base K__law_nothing K__law_fields
end K59
open PySem PySem.W PyProof.Rows
set_option pp.maxSteps 400 in
set_option maxHeartbeats 0 in
theorem PySem.Challenge.cw_dearestshelf_k59_season_refusals_holds : PySem.Challenge.rw_dearestshelf_k59_season_refusals.Holds := by
  w_on; o_law; k_head; (case hw => w_witness2)
  k_fill
  refine L2.walk_of (l := PySem.Challenge.rw_dearestshelf_k59_season_refusals) (n := 63) (k := 11) (x := "_law_script") (CX := fun _ => L2.CX0) (sp := fun w => K59.sp_law _) rfl (by decide) rfl ⟨rfl, by decide, by decide⟩ (fun w h Y => PySem.W.kIn_of Y) ?F (fun _ _ a ns hl _ hS => ⟨a, ns, rfl, hS, hl, fun _ => rfl⟩) (fun _ _ _ _ _ h => h)
  case F =>
    intro w mg fa h KX G hmg
    refine' K59.all_mk KX G hmg ?a_Weighted ?kc_Weighted ?hd_Weighted ?ha_Weighted ?hm_Weighted ?pg_Weighted ?po_Weighted ?sa_Weighted ?mk_Weighted ?n_Weighted_many ?n_Weighted_weights ?n_Weighted_aside ?a_Ratio ?kc_Ratio ?hd_Ratio ?ha_Ratio ?hm_Ratio ?pg_Ratio ?po_Ratio ?sa_Ratio ?mk_Ratio ?n_Ratio_top ?n_Ratio_bottom ?ss_Ratio ?sb_Ratio ?sy_Ratio ?sf_Ratio ?si_Ratio ?sr_Ratio ?rf_Ratio_add ?of_Ratio_add ?inta_add ?intr_add ?rf_Ratio_sub ?of_Ratio_sub ?inta_sub ?intr_sub ?rf_Ratio_mul ?of_Ratio_mul ?inta_mul ?intr_mul ?a_BadNumber ?kc_BadNumber ?hd_BadNumber ?ha_BadNumber ?hm_BadNumber ?b_BadNumber ?t_BadNumber ?ga_BadNumber ?gg_BadNumber ?ol_BadNumber ?or_BadNumber ?sa_BadNumber ?n_BadNumber_what ?n_BadNumber_at ?a_TooMany ?kc_TooMany ?hd_TooMany ?ha_TooMany ?hm_TooMany ?b_TooMany ?t_TooMany ?ga_TooMany ?gg_TooMany ?ol_TooMany ?or_TooMany ?sa_TooMany ?n_TooMany_many ?n_TooMany_most ?a_ZeroBottom ?kc_ZeroBottom ?hd_ZeroBottom ?ha_ZeroBottom ?hm_ZeroBottom ?b_ZeroBottom ?t_ZeroBottom ?ga_ZeroBottom ?gg_ZeroBottom ?x_ZeroBottom ?a_BadLot ?kc_BadLot ?hd_BadLot ?ha_BadLot ?hm_BadLot ?b_BadLot ?t_BadLot ?ga_BadLot ?gg_BadLot ?x_BadLot ?a_Season ?kc_Season ?hd_Season ?ha_Season ?hm_Season ?pg_Season ?po_Season ?sa_Season ?mk_Season ?n_Season_rule ?n_Season_prices ?n_Season_seats ?n_Season_buyers ?n_Season__worths ?a_ShelfError ?kc_ShelfError ?hd_ShelfError ?ha_ShelfError ?hm_ShelfError ?b_ShelfError ?t_ShelfError ?ga_ShelfError ?gg_ShelfError ?hnc ?htk ?sub_BadNumber_BadNumber ?sub_BadNumber_ShelfError ?kit_Ratio_Ratio ?kit_int_Ratio ?kit_BadNumber_TooMany ?kit_BadNumber_BadLot ?kit_BadNumber_ValueError ?kit_BadNumber_BadNumber ?kit_Season_Season ?kit_Weighted_Weighted ?a_gcd ?a_MOST_THINGS ?a_MOST_SEATS ?a_MOST_BUYERS ?a1 ?i1 ?l1 ?c1 ?k1 ?a2 ?i2 ?l2 ?c2 ?k2 ?a3 ?l3 ?c3 ?k3 ?a4 ?l4 ?c4 ?k4 ?a5 ?l5 ?c5 ?k5 ?a6 ?l6 ?c6 ?k6 ?a7 ?l7 ?c7 ?k7 ?a8 ?l8 ?c8 ?k8 ?a9 ?l9 ?c9 ?k9 ?sg10_Weighted ?l10 ?c10 ?k10 ?sa11 ?sb11 ?a11 ?i11 ?l11 ?c11 ?k11 ?sc11 ?sd11 ?se11 ?sh11 ?si11 ?sj11 ?sk11 ?sl_11 ?sm11 ?a12 ?i12 ?l12 ?lt12 ?c12 ?k12 ?a13 ?l13 ?c13 ?k13 ?a14 ?l14 ?c14 ?k14 ?a15 ?i15 ?l15 ?c15 ?k15 ?a16 ?i16 ?l16 ?c16 ?k16 ?a17 ?i17 ?l17 ?c17 ?k17 ?a18 ?i18 ?l18 ?c18 ?k18 ?a19 ?i19 ?l19 ?c19 ?k19 ?a20 ?i20 ?l20 ?c20 ?k20 ?a21 ?i21 ?l21 ?c21 ?k21 ?a22 ?l22 ?c22 ?k22 ?a23 ?l23 ?c23 ?k23 ?a24 ?l24 ?c24 ?k24 ?a25 ?i25 ?l25 ?c25 ?k25 ?a26 ?i26 ?l26 ?c26 ?k26 ?a27 ?i27 ?l27 ?c27 ?k27 ?a28 ?i28 ?l28 ?c28 ?k28 ?a29 ?i29 ?l29 ?c29 ?k29 ?a30 ?l30 ?c30 ?k30 ?a31 ?l31 ?c31 ?k31 ?a32 ?l32 ?c32 ?k32 ?a33 ?l33 ?c33 ?k33 ?a34 ?l34 ?c34 ?k34 ?a35 ?l35 ?c35 ?k35 ?a36 ?l36 ?c36 ?k36 ?a37 ?l37 ?c37 ?k37 ?a38 ?l38 ?c38 ?k38 ?a39 ?l39 ?c39 ?k39 ?a40 ?l40 ?c40 ?k40 ?a41 ?l41 ?c41 ?k41 ?a42 ?l42 ?c42 ?k42 ?a43 ?l43 ?c43 ?k43 ?a44 ?l44 ?c44 ?k44 ?a45 ?l45 ?c45 ?k45 ?z_ValueError ?z_bool ?z_enumerate ?z_int ?z_isinstance ?z_len ?z_list ?z_range ?z_str ?z_tuple ?z_zip
    (case a_Weighted => k_is); (case kc_Weighted => k_is); (case hd_Weighted => k_is); (case ha_Weighted => k_is); (case hm_Weighted => k_is); (case pg_Weighted => k_is); (case po_Weighted => k_is); (case sa_Weighted => k_is); (case mk_Weighted => k_is); (case n_Weighted_many => k_is); (case n_Weighted_weights => k_is); (case n_Weighted_aside => k_is); (case a_Ratio => k_is); (case kc_Ratio => k_is); (case hd_Ratio => k_is); (case ha_Ratio => k_is); (case hm_Ratio => k_is); (case pg_Ratio => k_is); (case po_Ratio => k_is); (case sa_Ratio => k_is); (case mk_Ratio => k_is); (case n_Ratio_top => k_is); (case n_Ratio_bottom => k_is); (case ss_Ratio => (first | k_is | decide +kernel)); (case sb_Ratio => (first | k_is | decide +kernel)); (case sy_Ratio => (first | k_is | decide +kernel)); (case sf_Ratio => k_is); (case si_Ratio => (first | k_is | decide +kernel)); (case sr_Ratio => (first | k_is | decide +kernel)); (case rf_Ratio_add => k_is); (case of_Ratio_add => k_is); (case inta_add => k_is); (case intr_add => k_is); (case rf_Ratio_sub => k_is); (case of_Ratio_sub => k_is); (case inta_sub => k_is); (case intr_sub => k_is); (case rf_Ratio_mul => k_is); (case of_Ratio_mul => k_is); (case inta_mul => k_is); (case intr_mul => k_is); (case a_BadNumber => k_is); (case kc_BadNumber => k_is); (case hd_BadNumber => k_is); (case ha_BadNumber => k_is); (case hm_BadNumber => k_is); (case b_BadNumber => k_is); (case t_BadNumber => k_is); (case ga_BadNumber => k_is); (case gg_BadNumber => k_is); (case ol_BadNumber => k_is); (case or_BadNumber => rfl); (case sa_BadNumber => k_is); (case n_BadNumber_what => k_is); (case n_BadNumber_at => k_is); (case a_TooMany => k_is); (case kc_TooMany => k_is); (case hd_TooMany => k_is); (case ha_TooMany => k_is); (case hm_TooMany => k_is); (case b_TooMany => k_is); (case t_TooMany => k_is); (case ga_TooMany => k_is); (case gg_TooMany => k_is); (case ol_TooMany => k_is); (case or_TooMany => rfl); (case sa_TooMany => k_is); (case n_TooMany_many => k_is); (case n_TooMany_most => k_is); (case a_ZeroBottom => k_is); (case kc_ZeroBottom => k_is); (case hd_ZeroBottom => k_is); (case ha_ZeroBottom => k_is); (case hm_ZeroBottom => k_is); (case b_ZeroBottom => k_is); (case t_ZeroBottom => k_is); (case ga_ZeroBottom => k_is); (case gg_ZeroBottom => k_is); (case x_ZeroBottom => k_exc); (case a_BadLot => k_is); (case kc_BadLot => k_is); (case hd_BadLot => k_is); (case ha_BadLot => k_is); (case hm_BadLot => k_is); (case b_BadLot => k_is); (case t_BadLot => k_is); (case ga_BadLot => k_is); (case gg_BadLot => k_is); (case x_BadLot => k_exc); (case a_Season => k_is); (case kc_Season => k_is); (case hd_Season => k_is); (case ha_Season => k_is); (case hm_Season => k_is); (case pg_Season => k_is); (case po_Season => k_is); (case sa_Season => k_is); (case mk_Season => k_is); (case n_Season_rule => k_is); (case n_Season_prices => k_is); (case n_Season_seats => k_is); (case n_Season_buyers => k_is); (case n_Season__worths => k_is); (case a_ShelfError => k_is); (case kc_ShelfError => k_is); (case hd_ShelfError => k_is); (case ha_ShelfError => k_is); (case hm_ShelfError => k_is); (case b_ShelfError => k_is); (case t_ShelfError => k_is); (case ga_ShelfError => k_is); (case gg_ShelfError => k_is); (case hnc => k_is); (case htk => k_is); (case sub_BadNumber_BadNumber => (first | rfl | k_is)); (case sub_BadNumber_ShelfError => (first | rfl | k_is)); (case kit_Ratio_Ratio => kit_is); (case kit_int_Ratio => kit_is); (case kit_BadNumber_TooMany => kit_is); (case kit_BadNumber_BadLot => kit_is); (case kit_BadNumber_ValueError => kit_is); (case kit_BadNumber_BadNumber => kit_is); (case kit_Season_Season => kit_is); (case kit_Weighted_Weighted => kit_is); (case a_gcd => k_is); (case a_MOST_THINGS => k_is); (case a_MOST_SEATS => k_is); (case a_MOST_BUYERS => k_is); (case a1 => k_is); (case i1 => k_is); (case l1 => k_is); (case c1 => k_is); (case k1 => k_is); (case a2 => k_is); (case i2 => k_is); (case l2 => k_is); (case c2 => k_is); (case k2 => k_is); (case a3 => k_is); (case l3 => k_is); (case c3 => k_is); (case k3 => k_is); (case a4 => k_is); (case l4 => k_is); (case c4 => k_is); (case k4 => k_is); (case a5 => k_is); (case l5 => k_is); (case c5 => k_is); (case k5 => k_is); (case a6 => k_is); (case l6 => k_is); (case c6 => k_is); (case k6 => k_is); (case a7 => k_is); (case l7 => k_is); (case c7 => k_is); (case k7 => k_is); (case a8 => k_is); (case l8 => k_is); (case c8 => k_is); (case k8 => k_is); (case a9 => k_is); (case l9 => k_is); (case c9 => k_is); (case k9 => k_is); (case sg10_Weighted => ks_is); (case l10 => k_is); (case c10 => k_is); (case k10 => k_is); (case sa11 => k_is); (case sb11 => k_is); (case a11 => k_is); (case i11 => k_is); (case l11 => k_is); (case c11 => k_is); (case k11 => k_is); (case sc11 => k_is); (case sd11 => k_is); (case se11 => rfl); (case sh11 => k_is); (case si11 => k_is); (case sj11 => k_is); (case sk11 => k_is); (case sl_11 => (first | rfl | decide +kernel)); (case sm11 => (first | rfl | decide +kernel)); (case a12 => k_is); (case i12 => k_is); (case l12 => k_is); (case lt12 => k_is); (case c12 => k_is); (case k12 => k_is); (case a13 => k_is); (case l13 => k_is); (case c13 => k_is); (case k13 => k_is); (case a14 => k_is); (case l14 => k_is); (case c14 => k_is); (case k14 => k_is); (case a15 => k_is); (case i15 => k_is); (case l15 => k_is); (case c15 => k_is); (case k15 => k_is); (case a16 => k_is); (case i16 => k_is); (case l16 => k_is); (case c16 => k_is); (case k16 => k_is); (case a17 => k_is); (case i17 => k_is); (case l17 => k_is); (case c17 => k_is); (case k17 => k_is); (case a18 => k_is); (case i18 => k_is); (case l18 => k_is); (case c18 => k_is); (case k18 => k_is); (case a19 => k_is); (case i19 => k_is); (case l19 => k_is); (case c19 => k_is); (case k19 => k_is); (case a20 => k_is); (case i20 => k_is); (case l20 => k_is); (case c20 => k_is); (case k20 => k_is); (case a21 => k_is); (case i21 => k_is); (case l21 => k_is); (case c21 => k_is); (case k21 => k_is); (case a22 => k_is); (case l22 => k_is); (case c22 => k_is); (case k22 => k_is); (case a23 => k_is); (case l23 => k_is); (case c23 => k_is); (case k23 => k_is); (case a24 => k_is); (case l24 => k_is); (case c24 => k_is); (case k24 => k_is); (case a25 => k_is); (case i25 => k_is); (case l25 => k_is); (case c25 => k_is); (case k25 => k_is); (case a26 => k_is); (case i26 => k_is); (case l26 => k_is); (case c26 => k_is); (case k26 => k_is); (case a27 => k_is); (case i27 => k_is); (case l27 => k_is); (case c27 => k_is); (case k27 => k_is); (case a28 => k_is); (case i28 => k_is); (case l28 => k_is); (case c28 => k_is); (case k28 => k_is); (case a29 => k_is); (case i29 => k_is); (case l29 => k_is); (case c29 => k_is); (case k29 => k_is); (case a30 => k_is); (case l30 => k_is); (case c30 => k_is); (case k30 => k_is); (case a31 => k_is); (case l31 => k_is); (case c31 => k_is); (case k31 => k_is); (case a32 => k_is); (case l32 => k_is); (case c32 => k_is); (case k32 => k_is); (case a33 => k_is); (case l33 => k_is); (case c33 => k_is); (case k33 => k_is); (case a34 => k_is); (case l34 => k_is); (case c34 => k_is); (case k34 => k_is); (case a35 => k_is); (case l35 => k_is); (case c35 => k_is); (case k35 => k_is); (case a36 => k_is); (case l36 => k_is); (case c36 => k_is); (case k36 => k_is); (case a37 => k_is); (case l37 => k_is); (case c37 => k_is); (case k37 => k_is); (case a38 => k_is); (case l38 => k_is); (case c38 => k_is); (case k38 => k_is); (case a39 => k_is); (case l39 => k_is); (case c39 => k_is); (case k39 => k_is); (case a40 => k_is); (case l40 => k_is); (case c40 => k_is); (case k40 => k_is); (case a41 => k_is); (case l41 => k_is); (case c41 => k_is); (case k41 => k_is); (case a42 => k_is); (case l42 => k_is); (case c42 => k_is); (case k42 => k_is); (case a43 => k_is); (case l43 => k_is); (case c43 => k_is); (case k43 => k_is); (case a44 => k_is); (case l44 => k_is); (case c44 => k_is); (case k44 => k_is); (case a45 => k_is); (case l45 => k_is); (case c45 => k_is); (case k45 => k_is); (case z_ValueError => k_is); (case z_bool => k_is); (case z_enumerate => k_is); (case z_int => k_is); (case z_isinstance => k_is); (case z_len => k_is); (case z_list => k_is); (case z_range => k_is); (case z_str => k_is); (case z_tuple => k_is); (case z_zip => k_is)
