import PyProof.Rows.All
import Wide.All
import OpenK.AllK
import Wide.FinOn
import HandS.ForMost
import HandS.ForExc
import HandS.Wide
import HandS.IsInst
import HandS.More
import HandS.Conv
import HandS.Evl
import HandS.ExcIs
import HandS.Defaults
import HandS.ExcInit
import HandS.ExcField
import HandS.TryMany
import HandS.Nested
import HandS.ClsMeth
import HandS.Iter
import HandS.Walk
import HandS.Style
import HandS.ListEq
import KE.KSuper
import KE.RegKSuper
import KE.KExcIs
import KE.RegKIsAll
import HandS.OwnEq
import HandS.Gcd
import HandS.SortKw
import HandS.TupAny
import HandS.Star
import HandS.SetFor
import HandS.Set
import PySem.Challenge.RW_dearestshelf_k20_listed_shares
set_option Elab.async false
set_option linter.all false
set_option maxRecDepth 100000
set_option maxHeartbeats 8000000
set_option exponentiation.threshold 10000
namespace K20
open PySem PySem.Spec PyProof.Rows L2
def top (i : Nat) : Stmt := PySem.Challenge.pw_dearestshelf_k20_listed_shares.main.body.getD i (.Pass ⟨0, 0, 0, 0⟩)
abbrev s_BadNumber___init__ : Stmt := inClass (top 8) 0
theorem sc_BadNumber___init__ : FnScope ["self", "what", "at"] ["self", "what", "at"] (defScope s_BadNumber___init__) := ⟨rfl, rfl, rfl, by decide +kernel, rfl, by decide +kernel, by decide +kernel⟩
abbrev s_TooMany___init__ : Stmt := inClass (top 9) 0
theorem sc_TooMany___init__ : FnScope ["self", "many", "most"] ["self", "many", "most"] (defScope s_TooMany___init__) := ⟨rfl, rfl, rfl, by decide +kernel, rfl, by decide +kernel, by decide +kernel⟩
abbrev s_BadWish___init__ : Stmt := inClass (top 10) 0
theorem sc_BadWish___init__ : FnScope ["self", "at"] ["self", "at"] (defScope s_BadWish___init__) := ⟨rfl, rfl, rfl, by decide +kernel, rfl, by decide +kernel, by decide +kernel⟩
abbrev s_check_many : Stmt := top 12
theorem sc_check_many : FnScope ["many", "most"] ["many", "most"] (defScope s_check_many) := ⟨rfl, rfl, rfl, by decide +kernel, rfl, by decide +kernel, by decide +kernel⟩
abbrev s_Rule___init__ : Stmt := inClass (top 20) 0
theorem sc_Rule___init__ : FnScope ["self", "many"] ["self", "many"] (defScope s_Rule___init__) := ⟨rfl, rfl, rfl, by decide +kernel, rfl, by decide +kernel, by decide +kernel⟩
abbrev s_check_lot : Stmt := top 13
theorem sc_check_lot : FnScope ["lot", "many", "before", "thing"] ["lot", "many"] (defScope s_check_lot) := ⟨rfl, rfl, rfl, by decide +kernel, rfl, by decide +kernel, by decide +kernel⟩
abbrev s__can_be_wished : Stmt := top 22
theorem sc__can_be_wished : FnScope ["things", "thing"] ["things"] (defScope s__can_be_wished) := ⟨rfl, rfl, rfl, by decide +kernel, rfl, by decide +kernel, by decide +kernel⟩
abbrev s__first_wish : Stmt := top 23
theorem sc__first_wish : FnScope ["things", "lot", "thing"] ["things", "lot"] (defScope s__first_wish) := ⟨rfl, rfl, rfl, by decide +kernel, rfl, by decide +kernel, by decide +kernel⟩
abbrev s_Listed___init__ : Stmt := inClass (top 21) 0
abbrev s_Ratio___init__ : Stmt := inClass (top 15) 0
theorem sc_Ratio___init__ : FnScope ["self", "top", "bottom", "divisor"] ["self", "top", "bottom"] (defScope s_Ratio___init__) := ⟨rfl, rfl, rfl, by decide +kernel, rfl, by decide +kernel, by decide +kernel⟩
abbrev s__as_ratio : Stmt := top 16
theorem sc__as_ratio : FnScope ["number"] ["number"] (defScope s__as_ratio) := ⟨rfl, rfl, rfl, by decide +kernel, rfl, by decide +kernel, by decide +kernel⟩
abbrev s_Ratio___neg__ : Stmt := inClass (top 15) 12
theorem sc_Ratio___neg__ : FnScope ["self"] ["self"] (defScope s_Ratio___neg__) := ⟨rfl, rfl, rfl, by decide +kernel, rfl, by decide +kernel, by decide +kernel⟩
abbrev s_Ratio___add__ : Stmt := inClass (top 15) 4
theorem sc_Ratio___add__ : FnScope ["self", "other", "addend"] ["self", "other"] (defScope s_Ratio___add__) := ⟨rfl, rfl, rfl, by decide +kernel, rfl, by decide +kernel, by decide +kernel⟩
abbrev s_Ratio___rsub__ : Stmt := inClass (top 15) 7
theorem sc_Ratio___rsub__ : FnScope ["self", "other"] ["self", "other"] (defScope s_Ratio___rsub__) := ⟨rfl, rfl, rfl, by decide +kernel, rfl, by decide +kernel, by decide +kernel⟩
abbrev s_Listed_shares : Stmt := inClass (top 21) 1
theorem sc_Listed_shares : FnScope ["self", "lot", "taken", "buyers", "things", "thing", "everyone", "count"] ["self", "lot"] (defScope s_Listed_shares) := ⟨rfl, rfl, rfl, by decide +kernel, rfl, by decide +kernel, by decide +kernel⟩
abbrev s_Rule_away : Stmt := inClass (top 20) 2
theorem sc_Rule_away : FnScope ["self", "lot"] ["self", "lot"] (defScope s_Rule_away) := ⟨rfl, rfl, rfl, by decide +kernel, rfl, by decide +kernel, by decide +kernel⟩
abbrev s__law_cell : Stmt := top 25
theorem sc__law_cell : FnScope ["_law_script", "_law_place"] ["_law_script", "_law_place"] (defScope s__law_cell) := ⟨rfl, rfl, rfl, by decide +kernel, rfl, by decide +kernel, by decide +kernel⟩
abbrev s__law_draws : Stmt := top 26
theorem sc__law_draws : FnScope ["_law_cell_here", "_law_sizes", "_law_size", "_law_left", "_law_found", "_law_k", "_law_low", "_law_high"] ["_law_cell_here", "_law_sizes"] (defScope s__law_draws) := ⟨rfl, rfl, rfl, by decide +kernel, rfl, by decide +kernel, by decide +kernel⟩
abbrev s__law_row : Stmt := top 27
theorem sc__law_row : FnScope ["_law_cell_here", "_law_count", "_law_drawn", "_law_bound", "_law_value", "_law_k"] ["_law_cell_here", "_law_count"] (defScope s__law_row) := ⟨rfl, rfl, rfl, by decide +kernel, rfl, by decide +kernel, by decide +kernel⟩
abbrev s__law_ups : Stmt := top 28
theorem sc__law_ups : FnScope ["_law_row_here", "_law_number"] ["_law_row_here"] (defScope s__law_ups) := ⟨rfl, rfl, rfl, by decide +kernel, rfl, by decide +kernel, by decide +kernel⟩
abbrev s__law_lot : Stmt := top 29
theorem sc__law_lot : FnScope ["_law_bits", "_law_many", "_law_found", "_law_left", "_law_thing"] ["_law_bits", "_law_many"] (defScope s__law_lot) := ⟨rfl, rfl, rfl, by decide +kernel, rfl, by decide +kernel, by decide +kernel⟩
abbrev s__law_shuffled : Stmt := top 30
theorem sc__law_shuffled : FnScope ["_law_places", "_law_things", "_law_left", "_law_found", "_law_place"] ["_law_places", "_law_things"] (defScope s__law_shuffled) := ⟨rfl, rfl, rfl, by decide +kernel, rfl, by decide +kernel, by decide +kernel⟩
abbrev s__law_is_int : Stmt := top 31
theorem sc__law_is_int : FnScope ["_law_x"] ["_law_x"] (defScope s__law_is_int) := ⟨rfl, rfl, rfl, by decide +kernel, rfl, by decide +kernel, by decide +kernel⟩
abbrev s__law_same : Stmt := top 32
theorem sc__law_same : FnScope ["_law_x", "_law_top", "_law_bottom"] ["_law_x", "_law_top", "_law_bottom"] (defScope s__law_same) := ⟨rfl, rfl, rfl, by decide +kernel, rfl, by decide +kernel, by decide +kernel⟩
abbrev s__law_same_lot : Stmt := top 33
theorem sc__law_same_lot : FnScope ["_law_x", "_law_due", "_law_k"] ["_law_x", "_law_due"] (defScope s__law_same_lot) := ⟨rfl, rfl, rfl, by decide +kernel, rfl, by decide +kernel, by decide +kernel⟩
abbrev s__law_same_row : Stmt := top 34
theorem sc__law_same_row : FnScope ["_law_x", "_law_pairs", "_law_k"] ["_law_x", "_law_pairs"] (defScope s__law_same_row) := ⟨rfl, rfl, rfl, by decide +kernel, rfl, by decide +kernel, by decide +kernel⟩
abbrev s__law_list : Stmt := top 35
theorem sc__law_list : FnScope ["_law_cell_here", "_law_many", "_law_drawn", "_law_things", "_law_thing", "_law_k"] ["_law_cell_here", "_law_many"] (defScope s__law_list) := ⟨rfl, rfl, rfl, by decide +kernel, rfl, by decide +kernel, by decide +kernel⟩
abbrev s__law_shown : Stmt := top 36
theorem sc__law_shown : FnScope ["_law_drawn", "_law_many", "_law_first", "_law_second", "_law_thing"] ["_law_drawn", "_law_many"] (defScope s__law_shown) := ⟨rfl, rfl, rfl, by decide +kernel, rfl, by decide +kernel, by decide +kernel⟩
abbrev s__law_takers : Stmt := top 37
theorem sc__law_takers : FnScope ["_law_pairs", "_law_lot_here", "_law_thing", "_law_total", "_law_pair", "_law_place"] ["_law_pairs", "_law_lot_here", "_law_thing"] (defScope s__law_takers) := ⟨rfl, rfl, rfl, by decide +kernel, rfl, by decide +kernel, by decide +kernel⟩
abbrev s__law_good : Stmt := top 38
theorem sc__law_good : FnScope ["_law_rule", "_law_pairs", "_law_many", "_law_lot_here", "_law_everyone", "_law_counts", "_law_thing", "_law_pair", "_law_count"] ["_law_rule", "_law_pairs", "_law_many", "_law_lot_here"] (defScope s__law_good) := ⟨rfl, rfl, rfl, by decide +kernel, rfl, by decide +kernel, by decide +kernel⟩
abbrev s__law_refuses : Stmt := top 39
theorem sc__law_refuses : FnScope ["_law_rule", "_law_lot_here", "_law_refused"] ["_law_rule", "_law_lot_here"] (defScope s__law_refuses) := ⟨rfl, rfl, rfl, by decide +kernel, rfl, by decide +kernel, by decide +kernel⟩
abbrev s__law_kept : Stmt := top 40
theorem sc__law_kept : FnScope ["_law_told", "_law_pairs", "_law_k", "_law_pair"] ["_law_told", "_law_pairs"] (defScope s__law_kept) := ⟨rfl, rfl, rfl, by decide +kernel, rfl, by decide +kernel, by decide +kernel⟩
abbrev s_law : Stmt := top 41
theorem sc_law : FnScope ["_law_script", "_law_drawn", "_law_many", "_law_buyers", "_law_pairs", "_law_lot_here", "_law_rest", "_law_handed", "_law_rule", "_law_other", "_law_shown_here", "_law_wrong", "_law_told", "_law_k", "_law_thing"] ["_law_script"] (defScope s_law) := ⟨rfl, rfl, rfl, by decide +kernel, rfl, by decide +kernel, by decide +kernel⟩

/-! ### mathematics of draws -/
def Within : List Int → List Int → Prop
  | [], [] => True
  | d :: ds, n :: ns => (0 ≤ d ∧ d < n) ∧ Within ds ns
  | _, _ => False
theorem Within.len : ∀ {ds ns : List Int}, Within ds ns → ds.length = ns.length
  | [], [], _ => rfl
  | _ :: ds, _ :: ns, h => by
    rw [List.length_cons, List.length_cons, Within.len h.2]
  | [], _ :: _, h => h.elim
  | _ :: _, [], h => h.elim
theorem Within.snoc : ∀ {ds ns : List Int} {d n : Int}, Within ds ns → 0 ≤ d → d < n → Within (ds ++ [d]) (ns ++ [n])
  | [], [], d, n, _, h0, h1 => ⟨⟨h0, h1⟩, True.intro⟩
  | _ :: ds, _ :: ns, d, n, h, h0, h1 => ⟨h.1, Within.snoc h.2 h0 h1⟩
  | [], _ :: _, _, _, h, _, _ => h.elim
  | _ :: _, [], _, _, h, _, _ => h.elim
theorem Within.step {ds ns : List Int} {d n : Int} {i : Nat} (h : Within ds (ns.take i)) (hi : ns[i]? = some n) (h0 : 0 ≤ d) (h1 : d < n) : Within (ds ++ [d]) (ns.take (i + 1)) := by
  rw [List.take_add_one, hi]
  exact h.snoc h0 h1
theorem Within.zero (ns : List Int) : Within [] (ns.take 0) := by
  rw [List.take_zero]
  exact True.intro
theorem Within.full {ds ns : List Int} (h : Within ds (ns.take ns.length)) : Within ds ns := by
  rw [List.take_length] at h
  exact h
theorem int_of {ns : List Int} {i : Nat} {x : V} (h : (ns.map V.int)[i]? = some x) : ∃ n, x = .int n ∧ ns[i]? = some n := by
  rw [List.getElem?_map] at h
  cases e : ns[i]? with
  | none =>
    rw [e] at h
    cases h
  | some z =>
    rw [e] at h
    exact ⟨z, (Option.some.inj h).symm, rfl⟩
theorem int_at {ns : List Int} {i : Nat} {n : Int} (h : ns[i]? = some n) : (ns.map V.int)[i]? = some (.int n) := by
  rw [List.getElem?_map, h]
  rfl
theorem snoc_int (ds : List Int) (d : Int) : ds.map V.int ++ [V.int d] = (ds ++ [d]).map V.int := by
  rw [List.map_append]
  rfl
theorem same_upd {H : Hp} {p : Addr} {o : HO} (h : H p = none) : Same H (upd H p o) := fun b x e => by
  rw [upd_ne (ne_of_none e h)]
  exact e
theorem same_mut {H H1 : Hp} {p : Addr} {o : HO} (s : Same H H1) (h : H p = none) : Same H (upd H1 p o) := fun b x e => by
  rw [upd_ne (ne_of_none e h)]
  exact s b x e
theorem same_tup {K : PySem.W.Frag} {H H' : Hp} {a : Addr} {xs : List V} (e : Same H H') (h : SqT K H a xs) : SqT K H' a xs := by
  rcases h with (h | ⟨o, h⟩) | h
  · exact .inl (.inl (e _ _ h))
  · exact .inl (.inr ⟨o, e _ _ h⟩)
  · exact .inr h
theorem w_div {j : Int} (h : 0 < j) (hb : j < 2 ^ 100) : CDivW 0 j := wide_div (b := 100) h (by omega) (by decide) (by decide)
theorem lst_l {K : PySem.W.Frag} {H : Hp} {a : Addr} {xs : List V} (h : H a = some (.lst xs)) : SqL K H a xs := .inl (.inl h)
theorem tup_t {K : PySem.W.Frag} {H : Hp} {a : Addr} {xs : List V} (h : H a = some (.tup xs)) : SqT K H a xs := .inl (.inl h)
theorem lc_yes {σ : L2.St} {H : Hp} {F : Bool → Hp → Prop} (h : F true H) : tYes σ H F := h
theorem Within.c {ds ns : List Int} {n : Int} (h : Within ds (n :: ns)) : ∃ d r, ds = d :: r ∧ 0 ≤ d ∧ d < n ∧ Within r ns := by
  cases ds with
  | nil => exact h.elim
  | cons d r => exact ⟨d, r, rfl, h.1.1, h.1.2, h.2⟩
theorem Within.n {ds : List Int} (h : Within ds []) : ds = [] := by
  cases ds with
  | nil => rfl
  | cons d r => exact h.elim
theorem kI : kitB "int" "int" = some true := by decide +kernel
theorem kB : kitB "int" "bool" = some false := by decide +kernel
theorem kT : kitB "tuple" "tuple" = some true := by decide +kernel

theorem cut_from (xs : List V) (k : Nat) : cutV xs (some (k : Int)) none = xs.drop k := by
  unfold cutV
  rw [HT.sIx_nat, HT.sIx_none]
  by_cases h : k ≤ xs.length
  · rw [Nat.min_eq_left h]
    exact List.take_of_length_le (by rw [List.length_drop]; exact Nat.le_refl _)
  · rw [Nat.min_eq_right (by omega), List.drop_of_length_le (Nat.le_refl _), List.drop_of_length_le (by omega), List.take_nil]
theorem cut_from1 (xs : List V) : cutV xs (some 1) none = xs.drop 1 := by
  unfold cutV
  rw [show HT.sIx xs.length 0 (some 1) = min 1 xs.length from HT.sIx_nat xs.length 0 1, HT.sIx_none]
  cases xs with
  | nil => rfl
  | cons x r =>
    rw [show min 1 (x :: r).length = 1 by
      rw [List.length_cons]
      omega]
    show (List.take ((x :: r).length - 1) r) = r
    rw [List.length_cons, Nat.add_sub_cancel]
    exact List.take_length
theorem big18 : (0 : Int) < 10 ^ 18 ∧ (10 : Int) ^ 18 < 2 ^ 100 := by decide
theorem cut_to (xs : List V) (k : Nat) : cutV xs none (some (k : Int)) = xs.take k := by
  unfold cutV
  rw [HT.sIx_none, HT.sIx_nat, List.drop_zero, Nat.sub_zero]
  by_cases h : k ≤ xs.length
  · rw [Nat.min_eq_left h]
  · rw [Nat.min_eq_right (by omega), List.take_of_length_le (Nat.le_refl _), List.take_of_length_le (by omega)]

theorem iteD {c A B : Prop} [Decidable c] (hc : c) (h : A) : if decide c = true then A else B := by
  rw [if_pos (decide_eq_true hc)]
  exact h
theorem iteDF {c A B : Prop} [Decidable c] (hc : ¬ c) (h : B) : if decide c = true then A else B := by
  rw [decide_eq_false hc]
  exact iteF h
/-! ### lowest terms -/
def rg (t b : Int) : Int := ((Nat.gcd t.natAbs b.natAbs : Nat) : Int)
def rd (t b : Int) : Int := if b < 0 then -(rg t b) else rg t b
def nT (t b : Int) : Int := t.fdiv (rd t b)
def nB (t b : Int) : Int := b.fdiv (rd t b)
/-- T over B is t over b in lowest terms -/
structure LowT (t b T B : Int) : Prop where
  pos : 0 < B
  eq : T * b = t * B
  leT : T.natAbs ≤ t.natAbs
  leB : B.natAbs ≤ b.natAbs
  cop : Nat.gcd T.natAbs B.natAbs = 1
theorem rg_pos {t b : Int} (h : b ≠ 0) : 0 < rg t b := by
  unfold rg
  have := Nat.gcd_pos_of_pos_right t.natAbs (Int.natAbs_pos.mpr h)
  omega
theorem rd_ne {t b : Int} (h : b ≠ 0) : rd t b ≠ 0 := by
  have := rg_pos (t := t) h
  unfold rd
  split <;> omega
theorem rd_abs (t b : Int) : (rd t b).natAbs = Nat.gcd t.natAbs b.natAbs := by
  unfold rd rg
  split <;> omega
theorem rd_dvd_t (t b : Int) : rd t b ∣ t := by
  rw [← Int.natAbs_dvd_natAbs, rd_abs]
  exact Nat.gcd_dvd_left ..
theorem rd_dvd_b (t b : Int) : rd t b ∣ b := by
  rw [← Int.natAbs_dvd_natAbs, rd_abs]
  exact Nat.gcd_dvd_right ..
theorem nT_mul {t b : Int} (h : b ≠ 0) : t = rd t b * nT t b := by
  obtain ⟨k, hk⟩ := rd_dvd_t t b
  have e : nT t b = k := by
    unfold nT
    conv => lhs; arg 1; rw [hk]
    exact Int.mul_fdiv_cancel_left k (rd_ne h)
  rw [e]
  exact hk
theorem nB_mul {t b : Int} (h : b ≠ 0) : b = rd t b * nB t b := by
  obtain ⟨k, hk⟩ := rd_dvd_b t b
  have e : nB t b = k := by
    unfold nB
    conv => lhs; arg 1; rw [hk]
    exact Int.mul_fdiv_cancel_left k (rd_ne h)
  rw [e]
  exact hk
theorem low {t b : Int} (h : b ≠ 0) : LowT t b (nT t b) (nB t b) := by
  have h1 := nT_mul (t := t) h
  have h2 := nB_mul (t := t) h
  have hg := rg_pos (t := t) h
  have hd := rd_ne (t := t) h
  have a1 : t.natAbs = (rd t b).natAbs * (nT t b).natAbs := by
    rw [← Int.natAbs_mul, ← h1]
  have a2 : b.natAbs = (rd t b).natAbs * (nB t b).natAbs := by
    rw [← Int.natAbs_mul, ← h2]
  have p : 0 < (rd t b).natAbs := Int.natAbs_pos.mpr hd
  refine ⟨?_, ?_, ?_, ?_, ?_⟩
  · by_cases hb : b < 0
    · have e : rd t b = -(rg t b) := if_pos hb
      rw [e] at h2
      by_cases hn : 0 < nB t b
      · exact hn
      · exfalso
        have : 0 ≤ -(rg t b) * nB t b := by
          rw [Int.neg_mul]
          have := Int.mul_nonneg (Int.le_of_lt hg) (show 0 ≤ -(nB t b) by omega)
          rw [Int.mul_neg] at this
          exact this
        omega
    · have e : rd t b = rg t b := if_neg hb
      rw [e] at h2
      by_cases hn : 0 < nB t b
      · exact hn
      · exfalso
        have := Int.mul_nonneg (Int.le_of_lt hg) (show 0 ≤ -(nB t b) by omega)
        rw [Int.mul_neg] at this
        omega
  · have e : nT t b * b = nT t b * (rd t b * nB t b) := congrArg (nT t b * ·) h2
    have e2 : t * nB t b = rd t b * nT t b * nB t b := congrArg (· * nB t b) h1
    rw [e, e2, ← Int.mul_assoc, Int.mul_comm (nT t b)]
  · rw [a1]
    exact Nat.le_mul_of_pos_left _ p
  · rw [a2]
    exact Nat.le_mul_of_pos_left _ p
  · have g := rd_abs t b
    rw [a1, a2, Nat.gcd_mul_left] at g
    have : (rd t b).natAbs * 1 = (rd t b).natAbs * Nat.gcd (nT t b).natAbs (nB t b).natAbs := by
      rw [Nat.mul_one]
      have e1 := congrArg Int.natAbs h1
      have e2 := congrArg Int.natAbs h2
      rw [Int.natAbs_mul] at e1 e2
      exact g
    exact (Nat.eq_of_mul_eq_mul_left p this).symm
theorem low_uniq {t b T B T' B' : Int} (hb : b ≠ 0) (h : LowT t b T B) (h' : LowT t b T' B') : T = T' ∧ B = B' := by
  have e : T * B' = T' * B := by
    have h1 : T * B' * b = T' * B * b := by
      have x1 : T * B' * b = (T * b) * B' := by rw [Int.mul_assoc, Int.mul_comm B', ← Int.mul_assoc]
      have x2 : T' * B * b = (T' * b) * B := by rw [Int.mul_assoc, Int.mul_comm B, ← Int.mul_assoc]
      rw [x1, x2, h.eq, h'.eq, Int.mul_assoc, Int.mul_assoc, Int.mul_comm B]
    exact Int.eq_of_mul_eq_mul_right hb h1
  have n : T.natAbs * B'.natAbs = T'.natAbs * B.natAbs := by
    rw [← Int.natAbs_mul, ← Int.natAbs_mul, e]
  have d1 : B.natAbs ∣ B'.natAbs := by
    have : B.natAbs ∣ T.natAbs * B'.natAbs := n ▸ Nat.dvd_mul_left ..
    exact (Nat.Coprime.symm h.cop).dvd_of_dvd_mul_left this
  have d2 : B'.natAbs ∣ B.natAbs := by
    have : B'.natAbs ∣ T'.natAbs * B.natAbs := n ▸ Nat.dvd_mul_left ..
    exact (Nat.Coprime.symm h'.cop).dvd_of_dvd_mul_left this
  have eb : B.natAbs = B'.natAbs := Nat.dvd_antisymm d1 d2
  have p := h.pos
  have p' := h'.pos
  have eB : B = B' := by omega
  subst eB
  exact ⟨Int.eq_of_mul_eq_mul_right (by omega) e, rfl⟩
/-! ### Euclid's turns -/
/-- ahead of turn i; g the greatest common divisor, the first product below 6 ^ m -/
structure Eu (g m i : Nat) (a b : Nat) : Prop where
  gc : Nat.gcd a b = g
  pot : (i = 0 ∧ a * b < 6 ^ m) ∨ (∃ j, i = 2 * j + 1 ∧ b ≤ a ∧ 0 < a ∧ a * b * 6 ^ j < 6 ^ m) ∨ (∃ j, i = 2 * j + 2 ∧ b ≤ a ∧ 0 < a ∧ (a + b) * a * 6 ^ j < 6 ^ m)
theorem eu_zero {g m i a : Nat} (h : Eu g m i a 0) : a = g := by
  have := h.gc
  rw [Nat.gcd_zero_right] at this
  exact this
theorem six_br {a b r : Nat} (h : b + r ≤ a) (hr : r ≤ b) : b * r * 6 ≤ (a + b) * a := by
  obtain ⟨c, rfl⟩ : ∃ c, b = r + c := ⟨b - r, by omega⟩
  have h1 : (r + c + r + (r + c)) * (r + c + r) ≤ (a + (r + c)) * a := Nat.mul_le_mul (by omega) h
  refine Nat.le_trans ?_ h1
  have e1 : (r + c) * r * 6 = 6 * (r * r) + 6 * (c * r) := by
    rw [Nat.add_mul]
    omega
  have e2 : (r + c + r + (r + c)) * (r + c + r) = 6 * (r * r) + 7 * (c * r) + 2 * (c * c) := by
    have : r + c + r + (r + c) = 3 * r + 2 * c := by omega
    rw [this]
    have : r + c + r = 2 * r + c := by omega
    rw [this, Nat.add_mul, Nat.mul_add, Nat.mul_add]
    have q1 : 3 * r * (2 * r) = 6 * (r * r) := by
      rw [Nat.mul_mul_mul_comm]
    have q2 : 3 * r * c = 3 * (c * r) := by
      rw [Nat.mul_assoc, Nat.mul_comm r c]
    have q3 : 2 * c * (2 * r) = 4 * (c * r) := by
      rw [Nat.mul_mul_mul_comm]
    have q4 : 2 * c * c = 2 * (c * c) := Nat.mul_assoc ..
    rw [q1, q2, q3, q4]
    omega
  omega
theorem eu_step {g m i a b : Nat} (h : Eu g m i a b) (hb : 0 < b) : Eu g m (i + 1) b (a % b) := by
  have hr : a % b < b := Nat.mod_lt a hb
  refine ⟨?_, ?_⟩
  · rw [← h.gc, Nat.gcd_comm a b, Nat.gcd_rec b a, Nat.gcd_comm]
  · rcases h.pot with ⟨rfl, p⟩ | ⟨j, rfl, hle, _, p⟩ | ⟨j, rfl, hle, _, p⟩
    · refine .inr (.inl ⟨0, by omega, by omega, hb, ?_⟩)
      rw [Nat.pow_zero, Nat.mul_one]
      refine Nat.lt_of_le_of_lt ?_ p
      rw [Nat.mul_comm]
      exact Nat.mul_le_mul_right _ (Nat.mod_le a b)
    · refine .inr (.inr ⟨j, by omega, by omega, hb, ?_⟩)
      refine Nat.lt_of_le_of_lt (Nat.mul_le_mul_right _ ?_) p
      have e := Nat.div_add_mod a b
      have q : 1 ≤ a / b := Nat.div_pos hle hb
      have : b * 1 ≤ b * (a / b) := Nat.mul_le_mul_left b q
      exact Nat.mul_le_mul (by omega) (Nat.le_refl b)
    · refine .inr (.inl ⟨j + 1, by omega, by omega, hb, ?_⟩)
      refine Nat.lt_of_le_of_lt ?_ p
      have e := Nat.div_add_mod a b
      have q : 1 ≤ a / b := Nat.div_pos hle hb
      have q2 : b * 1 ≤ b * (a / b) := Nat.mul_le_mul_left b q
      have s := six_br (a := a) (b := b) (r := a % b) (by omega) (by omega)
      rw [Nat.pow_succ, Nat.mul_comm (6 ^ j) 6, ← Nat.mul_assoc]
      exact Nat.mul_le_mul_right _ s
theorem eu_end {g m n a b : Nat} (h : Eu g m (2 * n + 2) a b) (hm : m ≤ n) : False := by
  rcases h.pot with ⟨h0, _⟩ | ⟨j, hj, _⟩ | ⟨j, hj, _, ha, p⟩
  · omega
  · omega
  · have e : j = n := by omega
    subst e
    have h1 : 1 * 6 ^ m ≤ (a + b) * a * 6 ^ j := Nat.mul_le_mul (Nat.mul_pos (by omega) ha) (Nat.pow_le_pow_right (by decide) hm)
    omega
open NdefX (NScope ncx startF CellsAt inv_startN)
open ClX (pin_new pin_at base_none unpinE)

/-! ### own classes and errors: rules that the layer lacks -/
section
variable {X : Cx}
/-- a field's read, its K by another name -/
theorem pe_fldK {K : PySem.W.Frag} {e : Expr} {f : Str} {pos : Pos} {ta : TE} (he : PE X e ta) (hb : attributeBase e f X.env (eval e X.env) = eval e X.env) (hK : X.K = K := by rfl) : PE X (.Attribute e f pos) (tFld K ta f) := by
  subst hK
  exact pe_fld he hb
/-- floor division by a divisor of either sign -/
def CDivWN (_ j : Int) : Prop := j ≠ 0 ∧ j.natAbs.log2 < 9000
theorem op_fdivWN : OpR X (binaryOp .FloorDiv) (rI CDivWN fun i j => .int (i.fdiv j)) := opI fun _ _ _ _ _ _ _ c k => floordiv_int c.1 k (.inl (PyProof.noPylong_of_log2 c.2))
/-- a new instance whose __init__ may let an error out, wished for at the slots that stand -/
theorem made_at {CX : CXT} {n : Nat} {g D : Addr} {gd : FuncData} {qs : List Str} {pr : Sp} {Ex : L2.St → XK} {us0 : List Value} {vs0 : List V} {pn : List (Addr × Obj)} {τ : L2.St} {H0 : Hp} {st : Shared} {W : VK} {as : List Value} {xs : List V}
    (MK : Mk X.K D g) (OK : FnOk X.prog X.w X.K X.mg X.base CX n g gd qs pr) (room : Room (n + 1) X.A) (bd : Binds X.K gd qs us0) (dv : Vals vs0 us0) (out : PassesAt CX X τ (Ex τ)) (J : Inv X pn τ H0 st) (rel : Vals xs as)
    (go : ∀ p q, H0 p = none → H0 q = none → q ≠ p → pr (.ref p :: (xs ++ vs0)) (upd (upd H0 q (.own p)) p (.ins D q [])) (fun v H2 => v = .non ∧ W (.ref p) H2) (Ex τ)) :
    wpAny (model X.prog X.w) X.A (call (.ref D) as) (EP X pn τ W) X.xe st := by
  have new1 := J.hok.fresh (Nat.le_succ st.heap.objs.size)
  have new2 := J.hok.fresh (Nat.le_refl st.heap.objs.size)
  have asked := go _ _ new1 new2 (Nat.ne_of_lt (Nat.lt_succ_self _))
  have J2 := Inv.made (C := D) J
  have rel2 : Vals (V.ref (st.heap.objs.size + 1) :: (xs ++ vs0)) (Value.ref (st.heap.objs.size + 1) :: (as ++ us0)) :=
    .cons rfl (rel.append dv)
  have len2 : (Value.ref (st.heap.objs.size + 1) :: as ++ us0).length = qs.length := (rel2.length.symm).trans (OK.len _ _ _ _ asked)
  have env2 := J2.env0.make D as []
  have bound := bd _ (Value.ref (st.heap.objs.size + 1) :: as) J2.kIn len2
  have ran := OK.run _ X.stack _ _ _ _ _ _ (Ex τ) (room.make D as []) env2 bound rel2 asked
  refine wpAny_call (make_map (f := g) J.kIn MK.makes MK.init (beq_iff_eq.mp MK.fn) (codeAny_mono ran ?_))
  rintro (e | fl) s' back
  · exact out pn _ _ e s' J2 back
  · cases fl with
    | ret u =>
      obtain ⟨v, H', J3, rv, rfl, w3⟩ := J2.after back
      exact ⟨rv, V.ref (st.heap.objs.size + 1), _, J3, rfl, w3⟩
    | next => exact back.elim
    | brk => exact back.elim
    | cont => exact back.elim
def tMakeS (D : Addr) (pr : Sp) (vs0 : List V) (Ex : L2.St → XK) (t : TA) : TE := fun τ H Q => t τ H fun xs H1 => ∀ p q, H1 p = none → H1 q = none → q ≠ p →
  pr (.ref p :: (xs ++ vs0)) (upd (upd H1 q (.own p)) p (.ins D q [])) (fun v H2 => v = .non ∧ Q (.ref p) H2) (Ex τ)
theorem pe_makeS {CX : CXT} {n : Nat} {g D : Addr} {gd : FuncData} {qs : List Str} {pr : Sp} {Ex : L2.St → XK} {us0 : List Value} {vs0 : List V} {x : Str} {p pos : Pos} {e : Expr} {es : List Expr} {t : TA}
    (MK : Mk X.K D g) (OK : FnOk X.prog X.w X.K X.mg X.base CX n g gd qs pr) (room : Room (n + 1) X.A) (gl : Gl X x) (at_ : X.mg x = some (.ref D)) (bd : Binds X.K gd qs us0) (dv : Vals vs0 us0) (out : ∀ τ, PassesAt CX X τ (Ex τ)) (args : PA X (e :: es) t)
    (plain : (x == ("__debug__" : Str)) = false := by decide) (first : starEach (e :: es) X.env = (false, eval e X.env) :: starEach es X.env := by rfl) (noStar : (backTo pos (starEach es X.env)).any (·.1) = false := by rfl) :
    PE X (.Call (.Name x p) (e :: es) [] pos) (tMakeS D pr vs0 Ex t) :=
  ⟨fun pn s τ H Q J h => wpAny_Call_Name_kw (ld_glob J gl at_ (PySem.W.callWith_K (h₀ := X.base) J.ok.mod.kin MK.kp (thn (args.run pos pn s τ H _ J h) fun _ _ ⟨_, _, J1, rel, go⟩ => ⟨J1.kIn, made_at MK OK room bd dv (out τ) J1 rel go⟩) first noStar) plain)⟩
/-- isinstance(e, c) in a suite, e the error that it holds (of an own class at D, without a dict of its own) -/
def rIsX (K : PySem.W.Frag) (a : Addr) (cls : Value) (d : Option Addr) : List V → Hp → VK → Prop := fun xs H Q => ∃ D : Addr, ExcC K D ∧ cls = .ref D ∧ d = none ∧ rIsE K D a xs H Q
theorem call_isX {K : PySem.W.Frag} {a : Addr} {cls : Value} {d : Option Addr} {oe : Obj} {pn : List (Addr × Obj)} (hz : Zc cls d oe) (hf : ∃ vs, oe.data = .fields vs) (hK : X.K = K := by rfl) :
    CallR (X.suite a ((a, oe) :: pn)) (.builtin "isinstance") (rIsX K a cls d) := by
  intro pins s σ H xs us Q I r h
  subst hK
  obtain ⟨D, ec, rfl, rfl, h⟩ := h
  exact call_isE ec hz hf pins s σ H xs us Q I r h
end
theorem lk_one {k : Str} {v : V} {r : List (Str × V)} : List.lookup k ((k, v) :: r) = some v := by
  simp [List.lookup]
theorem lk_two {k g : Str} {v : V} {r : List (Str × V)} (h : (k == g) = false) : List.lookup k ((g, v) :: r) = List.lookup k r := by
  simp only [List.lookup, h]

/-! ### super().__init__(e, ..) as a method's first statement -/
theorem inst_of' {X : Cx} {pins : List (Addr × Obj)} {σ : L2.St} {H : Hp} {s : Shared} {a C dx : Addr} {fs : List (Str × V)} (I : Inv X pins σ H s) (e : H a = some (.ins C dx fs)) :
    s.heap.get? a = some (PySem.W.instObj C dx) ∧ ∃ od, PySem.W.InstAt s.heap a (PySem.W.instObj C dx) C (some od) := by
  obtain ⟨mA, O, _⟩ := ins_get I.hok e
  obtain ⟨od, J, _⟩ := O.look
  exact ⟨O.obj, od, J⟩
/-- what the top has written of a class D above which super() looks, for an instance of the class C: the function g at the name -/
structure SupC (K : PySem.W.Frag) (mg : Str → Option Value) (C D cc cda g : Addr) (file : Str) : Prop where
  isD : ∃ cd, PySem.W.clsIn K D = some cd
  sub : PySem.W.mroIn K C (.ref D) = some true
  cell : ∃ cl cld csl, K.lookup cc = some ⟨cl, cld, .cell (some (.ref D)), csl⟩
  code : ∃ ccl cdd vs ccs tf, K.lookup cda = some ⟨ccl, cdd, .fields vs, ccs⟩ ∧ vs[2]? = some (.str file tf)
  sup : PySem.W.ks_superIn K C D "__init__" = some (some (.ref g))
  tg : PySem.W.typeIn K (.ref g) = some (.type "function")
  fg : PySem.W.fnIn K g = true
  opq : PySem.W.nsIn K cStatics "thirdparty.any" = some none
  nosup : mg "super" = none
section
variable {CX : CXT} {P : Program} {w : World} {K : PySem.W.Frag} {mg : Str → Option Value} {base : Heap} {k j : Nat} {f g cc cda C D : Addr} {name qual : Str} {params : Arguments} {scope : Scope} {dV kV doc pm ct oc : Value} {an od : Option Addr}
  {osl : Array (Option Value)} {N ps qs : List Str} {sp si : Sp} {gd : FuncData} {e : Expr} {es : List Expr} {rest : List Stmt} {p0 p1 p2 p3 p4 : Pos} {ar : Arg} {pl : Sem Bool}
abbrev supSt (p0 p1 p2 p3 p4 : Pos) (es : List Expr) : Stmt := .Expr (.Call (.Attribute (.Call (.Name "super" p0) [] [] p1) "__init__" p2) es [] p3) p4
theorem fn_super {file : Str} (lk : K.lookup f = some ⟨oc, od, .func (PySem.W.ksFn name qual params (supSt p0 p1 p2 p3 p4 (e :: es) :: rest) scope dV kV doc pm an (.ref cda) ct cc), osl⟩) (hcd : PySem.W.codeIn K (.ref cda) qual = true) (S : NScope N ps ["__class__"] scope)
    (SC : SupC K mg C D cc cda g file) (hfile : ((P.main.file : Str) == file) = true) (htop : (P.main.scope.names.lookup ("super" : Str)).isSome = false) (hpar : (params.posonlyargs ++ params.args).head? = some ar) (hN : N[0]? = some ar.arg) (hka : scope.names.lookup ar.arg = some .local)
    (hks : scope.names.lookup ("super" : Str) = some .globalImplicit) (hkc : scope.names.lookup ("__class__" : Str) = some .free)
    (len : ∀ vs H Q E, sp vs H Q E → vs.length = ps.length) (G : FnOk P w K mg base CX j g gd qs si) (bd : Binds K gd qs []) (hj : j ≤ k)
    (hi : ∀ L, interactive (PySem.W.ksEnv qual scope L f (.ref cda) cc) = false)
    (hsw : ∀ L, swapsWith (.Call (.Attribute (.Call (.Name "super" p0) [] [] p1) "__init__" p2) (e :: es) [] p3) none p4.line (PySem.W.ksEnv qual scope L f (.ref cda) cc) = pure false)
    (hev : ∀ L, eval (.Call (.Attribute (.Call (.Name "super" p0) [] [] p1) "__init__" p2) (e :: es) [] p3) (PySem.W.ksEnv qual scope L f (.ref cda) cc) = (do
      let ov ← attributeBase (.Call (.Name "super" p0) [] [] p1) "__init__" (PySem.W.ksEnv qual scope L f (.ref cda) cc) (eval (.Call (.Name "super" p0) [] [] p1) (PySem.W.ksEnv qual scope L f (.ref cda) cc))
      standAt p2.atName
      let (f', first) ← holding [ov] (getMethod ov "__init__" pl)
      callWith p3 f' first (backTo p3 (starEach (e :: es) (PySem.W.ksEnv qual scope L f (.ref cda) cc))) []))
    (hst : ∀ L, starEach (e :: es) (PySem.W.ksEnv qual scope L f (.ref cda) cc) = (false, eval e (PySem.W.ksEnv qual scope L f (.ref cda) cc)) :: starEach es (PySem.W.ksEnv qual scope L f (.ref cda) cc))
    (hpl : ∀ L, (backTo p3 (starEach es (PySem.W.ksEnv qual scope L f (.ref cda) cc))).any (·.1) = false)
    (hbody : ∀ (A : Around) (outer : List Env) (s : Shared) (H : Hp) (vs : List V) (Q : VK) (E : XK), Room k (A.deeper (PySem.W.ksEnv qual scope s.heap.objs.size f (.ref cda) cc)) → sp vs H Q E →
      ∃ (ta : TA) (tr : TS) (a dx : Addr) (fs : List (Str × V)) (us0 : List V) (Ei : XK),
        PA (ncx CX P w K mg base N ⟨name, qual, params, supSt p0 p1 p2 p3 p4 (e :: es) :: rest, scope, [("__class__", cc)], cda⟩ f A outer s H E) (e :: es) ta ∧
        PSs (ncx CX P w K mg base N ⟨name, qual, params, supSt p0 p1 p2 p3 p4 (e :: es) :: rest, scope, [("__class__", cc)], cda⟩ f A outer s H E) rest tr ∧
        Passes CX (ncx CX P w K mg base N ⟨name, qual, params, supSt p0 p1 p2 p3 p4 (e :: es) :: rest, scope, [("__class__", cc)], cda⟩ f A outer s H E) Ei ∧ vs = .ref a :: us0 ∧ H a = some (.ins C dx fs) ∧
        ta (startF N vs [none]) H (fun ws H1 => si (.ref a :: ws) H1 (fun _ H2 => tr { nx := fun _ H' => Q .non H', rt := Q } (startF N vs [none]) H2) Ei)) :
    FnOk P w K mg base CX (k + 1) f (PySem.W.ksFn name qual params (supSt p0 p1 p2 p3 p4 (e :: es) :: rest) scope dV kV doc pm an (.ref cda) ct cc) ps sp := by
  refine ⟨len, fun A outer s H args us vs Q E hr e0 hb r asked => ?_⟩
  have hl := len _ _ _ _ asked
  have kb : ∀ b o, base.get? b = some o → s.heap.get? b = some o := fun b o z => (e0.bs b o z).1
  have KX : K.In s.heap := e0.mod.kin.keeps kb
  have lim : s.heap.NoLimit := e0.mod.nolimit.keeps kb
  obtain ⟨cl, cld, csl, hcell⟩ := SC.cell
  obtain ⟨ccl, cdd, fv, ccs, tf, hcode, hfv⟩ := SC.code
  obtain ⟨cdD, hD⟩ := SC.isD
  have C0 : CellsAt [("__class__", cc)] ["__class__"] [none] s.heap H := by
    refine ⟨rfl, fun y c z => ?_, fun y z c h1 h2 => ?_, fun i y z => ?_⟩
    · have hc : c = cc := by
        simp only [List.lookup] at z
        split at z
        · exact (Option.some.inj z).symm
        · cases z
      subst hc
      exact ⟨(e0.bs _ _ (e0.mod.kin _ _ hcell)).2, _, _, KX _ _ hcell, rfl⟩
    · have one : ∀ {t : Str}, [(("__class__" : Str), cc)].lookup t = some c → t = "__class__" := fun {t} h => by
        simp only [List.lookup] at h
        split at h
        · exact beq_iff_eq.mp (by assumption)
        · cases h
      rw [one h1, one h2]
    · have hy : y = "__class__" := by
        cases i with
        | zero => simpa using z.symm
        | succ n => simp at z
      subst hy
      exact ⟨cc, rfl, fun v h => by cases i <;> simp at h⟩
  refine ks_codeAny_call_defAt (fd := PySem.W.ksFn name qual params (supSt p0 p1 p2 p3 p4 (e :: es) :: rest) scope dV kV doc pm an (.ref cda) ct cc) (body := supSt p0 p1 p2 p3 p4 (e :: es) :: rest) (binds := ps.zip us) hr.depth (KX _ _ lk) rfl lim (PySem.W.codeRec_of KX hcd) rfl hb S.nocell (fun ⟨n, _⟩ hy => S.par n (List.of_mem_zip hy).1) (fun h₁ hns kp => ?_) S.co S.gen S.kind
  obtain ⟨ta, tr, a, dx, fs, us0, Ei, hpa, hps, hpass, ev, ha, hq⟩ := hbody A outer s H vs Q E (hr.deeper _) asked
  subst ev
  have I : Inv (ncx CX P w K mg base N ⟨name, qual, params, supSt p0 p1 p2 p3 p4 (e :: es) :: rest, scope, [("__class__", cc)], cda⟩ f A outer s H E) [] (startF N (.ref a :: us0) [none]) H { s with heap := h₁, toks := s.toks + (ps.zip us).length } := inv_startN (F := ⟨name, qual, params, supSt p0 p1 p2 p3 p4 (e :: es) :: rest, scope, [("__class__", cc)], cda⟩) S hr.hd e0 hl r C0 hns kp
  generalize hX : ncx CX P w K mg base N ⟨name, qual, params, supSt p0 p1 p2 p3 p4 (e :: es) :: rest, scope, [("__class__", cc)], cda⟩ f A outer s H E = X at I hpa hps hpass
  have hXr := hX
  subst hX
  have rm := hr.deeper (PySem.W.ksEnv qual scope s.heap.objs.size f (.ref cda) cc)
  show PySem.wpAt (model P w) (A.deeper (PySem.W.ksEnv qual scope s.heap.objs.size f (.ref cda) cc)) (.func (supSt p0 p1 p2 p3 p4 (e :: es) :: rest) (PySem.W.ksEnv qual scope s.heap.objs.size f (.ref cda) cc)) (execs (supSt p0 p1 p2 p3 p4 (e :: es) :: rest) (PySem.W.ksEnv qual scope s.heap.objs.size f (.ref cda) cc)) _ _ _
  refine ks_wpAt_execs_cons (ks_wpAt_Expr_any (ks_wpAt_MethodCall (pl := pl) ?_ (hev _)) (hi _) (hsw _))
  have KI := I.kIn
  refine ks_wpAt_super_base (env := PySem.W.ksEnv qual scope s.heap.objs.size f (.ref cda) cc) hks hkc (by decide) rfl (KI _ _ lk) rfl hpar rfl (KI _ _ hcode) rfl hfv hfile htop ?_
  obtain ⟨mb, hb1, hb2⟩ := I.mod.blt
  refine PySem.W.ks_loadName_global S.kind hks (Calls.loadGlobal_builtin (env := PySem.W.ksEnv qual scope s.heap.objs.size f (.ref cda) cc) (I.mod.glob.keeps I.bk) SC.nosup (hb1.keeps I.bk) ((hb2 "super" (by decide)).trans (by rfl)) ⟨rfl, ?_⟩)
  refine wpAny_loadName_free S.kind hkc rfl ⟨_, KI _ _ hcell, rfl⟩ ?_
  obtain ⟨m, hn, hl'⟩ := I.loc
  obtain ⟨u, ru, lku⟩ := hl' 0 ar.arg (.ref a) hN rfl (.inl hka)
  cases (show u = Value.ref a from ru)
  have hmu : m ar.arg = some (.ref a) := by
    rcases lku with ⟨_, z⟩ | ⟨z, _⟩
    · exact z
    · have hk' : scope.names.lookup ar.arg = some .cell ∨ scope.names.lookup ar.arg = some .free := z
      rw [hka] at hk'
      rcases hk' with z | z <;> cases z
  refine wpAny_loadName_local S.kind hka hn hmu ?_
  obtain ⟨oD, hD1, hD2⟩ : ∃ oD, h₁.get? D = some oD ∧ oD.data = .cls cdD := by
    unfold PySem.W.clsIn at hD
    split at hD
    · rename_i c d cd' sl ho
      cases hD
      exact ⟨_, KI _ _ ho, rfl⟩
    · cases hD
  refine ks_wpAny_isType_cls hD1 hD2 (And.intro rfl ?_)
  obtain ⟨hoa, oda, J⟩ := inst_of' I ha
  refine ks_wpAny_call_super hD1 hD2 J.at_ J.cls (fun c z => ?_) (PySem.W.looks_mroIn KI SC.sub) (fun h2 e2 k2 => ?_)
  · have := J.no
    unfold PySem.W.notCls at this
    rw [z] at this
    exact Bool.noConfusion this
  have I2 := I.kept (h' := h2) (t' := s.toks + (ps.zip us).length) k2
  have K2 := I2.kIn
  obtain ⟨hoa2, oda2, J2⟩ := inst_of' I2 ha
  have sup := SC.sup
  unfold PySem.W.ks_superIn at sup
  cases hc : PySem.W.clsIn K C with
  | none => rw [hc] at sup; cases sup
  | some cdC =>
  rw [hc] at sup
  obtain ⟨og, hog, hogc⟩ : ∃ og, h2.get? g = some og ∧ og.cls = .type "function" := by
    have ht' : (K.lookup g).map (·.cls) = some (.type "function") := SC.tg
    cases z : K.lookup g with
    | none =>
      rw [z] at ht'
      cases ht'
    | some og =>
      rw [z] at ht'
      exact ⟨og, K2 _ _ z, Option.some.inj ht'⟩
  refine ks_wpAny_getMethod_super e2 (PySem.W.looks_opaque K2 SC.opq) (l₀ := cdC.mro) (fun A Q E s k q => wpAny_bind ((PySem.W.looks_clsIn K2 hc) A _ E s k (wpAny_pure q))) rfl K2 sup hog hogc (PySem.W.ks_ne K2 J2 hc) (by decide) ?_
  have I3 : Inv (ncx CX P w K mg base N ⟨name, qual, params, supSt p0 p1 p2 p3 p4 (e :: es) :: rest, scope, [("__class__", cc)], cda⟩ f A outer s H E) [(h2.objs.size, PySem.W.methodObj (.ref g) (.ref a))] (startF N (.ref a :: us0) [none]) H ⟨h2.push (PySem.W.methodObj (.ref g) (.ref a)), s.gens, s.drawn, s.toks + (ps.zip us).length + 1, s.os⟩ :=
    pin_new (s := ⟨h2, s.gens, s.drawn, s.toks + (ps.zip us).length, s.os⟩) I2 (fun _ _ z => Heap.get?_push_of_some _ z) (Nat.le_refl _) (Heap.get?_push_size h2 rfl) (fun v z => nomatch z)
  have hbq : base.get? h2.objs.size = none := base_none I2 (Nat.le_refl _)
  have hL : h2.objs.size ≠ s.heap.objs.size := (I3.pin (h2.objs.size, PySem.W.methodObj (.ref g) (.ref a)) (List.mem_append_right _ List.mem_cons_self)).2.2.1
  refine PySem.W.callWith_M (K := K) (h₀ := base) (first := []) e0.mod.kin (news_at hL hbq (pin_at I3)) List.mem_cons_self SC.fg ?_ (hst _) (hpl _)
  refine wpAny_mono (hpa.run p3 _ _ _ H _ I3 hq) (fun ws s4 h4 => ?_) fun _ _ z => z
  obtain ⟨vs4, H4, I4, r4, q4⟩ := h4
  refine ⟨⟨pin_at I4, I4.kIn⟩, ?_⟩
  have lenq : (Value.ref a :: ws).length = qs.length := by
    have z := G.len _ _ _ _ q4
    rw [← z, List.length_cons, List.length_cons, r4.length]
  have bound := bd s4 (Value.ref a :: ws) I4.kIn (by rw [List.append_nil]; exact lenq)
  rw [List.append_nil] at bound
  have rm' : Room k (A.deeper (PySem.W.ksEnv qual scope s.heap.objs.size f (.ref cda) cc)) := hr.deeper _
  refine wpAny_mono (Q := fun u s' => EP (ncx CX P w K mg base N ⟨name, qual, params, supSt p0 p1 p2 p3 p4 (e :: es) :: rest, scope, [("__class__", cc)], cda⟩ f A outer s H E) [(h2.objs.size, PySem.W.methodObj (.ref g) (.ref a))] (startF N (.ref a :: us0) [none]) (fun _ H2 => tr { nx := fun _ H' => Q .non H', rt := Q } (startF N (.ref a :: us0) [none]) H2) u s')
    (wpAny_call (PySem.W.method_call (pin_at I4) (codeAny_mono (G.run _ _ s4 H4 ⟨Value.ref a :: ws, []⟩ (Value.ref a :: ws) (.ref a :: vs4) _ Ei (rm'.mono hj) I4.env0 bound (.cons rfl r4) q4) fun rr s' back => ?_))) (fun u s5 h5 => ?_) fun _ _ z => z
  · cases rr with
    | error er => exact hpass _ _ _ _ er s' I4 back
    | ok fl =>
      cases fl with
      | ret u => exact I4.after back
      | next => exact back.elim
      | brk => exact back.elim
      | cont => exact back.elim
  · obtain ⟨v5, H5, I5, _, q5⟩ := unpinE h5
    refine PySem.wpAt_of_wpAny ?_
    refine wpAny_mono (hps.run [] _ _ H5 _ I5 q5) (fun fl s' hs => ?_) fun er s' hs => hs
    have last : ∀ {τ : L2.St} {G' : Hp} {x : V} {y : Value}, Inv (ncx CX P w K mg base N ⟨name, qual, params, supSt p0 p1 p2 p3 p4 (e :: es) :: rest, scope, [("__class__", cc)], cda⟩ f A outer s H E) [] τ G' s' → L2.RelV x y → Q x G' → CE outer P w H s Q y s' :=
      fun {_ G' x _} Z rel z => ⟨x, G', Z.os, Z.bare, Z.base, Z.hok, rel, z⟩
    cases fl with
    | next =>
      obtain ⟨_, _, Z, z⟩ := hs
      exact last (x := V.non) (y := Value.none) Z rfl z
    | ret y =>
      obtain ⟨_, _, _, Z, rel, z⟩ := hs
      exact last Z rel z
    | brk => exact hs.elim fun _ ⟨_, _, z⟩ => z.elim
    | cont => exact hs.elim fun _ ⟨_, _, z⟩ => z.elim
end
/-- such a method as the top has written it: cc the cell of its class, cda its code -/
def FunS (K : PySem.W.Frag) (name qual : Str) (st : Stmt) (cc cda f : Addr) (fd : FuncData) : Prop :=
  (∃ (oc : Value) (od : Option Addr) (kV doc pm : Value) (an : Option Addr) (ct : Value) (osl : Array (Option Value)), fd = PySem.W.ksFn name qual (defArgs st) (defBody st) (defScope st) .none kV doc pm an (.ref cda) ct cc ∧
    K.lookup f = some ⟨oc, od, .func fd, osl⟩ ∧ PySem.W.codeIn K (.ref cda) qual = true) ∧ PySem.W.keepIn K (.ref f) = true
theorem FunS.binds {K : PySem.W.Frag} {name qual : Str} {st : Stmt} {cc cda f : Addr} {fd : FuncData} {ps : List Str} (F : FunS K name qual st cc cda f fd)
    (h : ∀ (kV doc pm : Value) (an : Option Addr) (ct : Value) (us : List Value), us.length = ps.length → bindArgs (PySem.W.ksFn name qual (defArgs st) (defBody st) (defScope st) .none kV doc pm an (.ref cda) ct cc) ⟨us, []⟩ = pure (ps.zip us)) : Binds K fd ps [] := by
  obtain ⟨⟨oc, od, kV, doc, pm, an, ct, osl, rfl, _, _⟩, _⟩ := F
  exact .all (h kV doc pm an ct)

/-! ### isinstance of a caught error, with or without fields -/
section
variable {X : Cx}
def rIsY (K : PySem.W.Frag) (a : Addr) (cls : Value) (d : Option Addr) : List V → Hp → VK → Prop := fun xs H Q => ∃ D : Addr, ExcC K D ∧ cls = .ref D ∧ (d = none ∨ ∃ dd fs, d = some dd ∧ H dd = some (.xd fs)) ∧ rIsE K D a xs H Q
theorem call_isY {K : PySem.W.Frag} {a : Addr} {cls : Value} {d : Option Addr} {oe : Obj} {pn : List (Addr × Obj)} (hz : Zc cls d oe) (hf : ∃ vs, oe.data = .fields vs) (hK : X.K = K := by rfl) :
    CallR (X.suite a ((a, oe) :: pn)) (.builtin "isinstance") (rIsY K a cls d) := by
  intro pins s σ H xs us Q I r h
  subst hK
  obtain ⟨D, ec, rfl, hd, h⟩ := h
  rcases hd with rfl | ⟨dd, fs, rfl, hdd⟩
  · exact call_isE ec hz hf pins s σ H xs us Q I r h
  · obtain ⟨c, cv, b, rfl, same, known, q⟩ := h
    obtain ⟨w1, ws, rfl, r1, rs⟩ : ∃ w1 ws, us = w1 :: ws ∧ RelV (.ref a) w1 ∧ Vals [c] ws := by
      cases r with
      | cons p t => exact ⟨_, _, rfl, p, t⟩
    obtain ⟨w2, rfl, r2⟩ : ∃ w2, ws = [w2] ∧ RelV c w2 := by
      cases rs with
      | cons p t =>
        cases t
        exact ⟨_, rfl, p⟩
    cases (show w1 = Value.ref a from r1)
    cases same _ r2
    obtain ⟨there, _⟩ := I.pin (a, oe) (List.mem_append.mpr (.inl List.mem_cons_self))
    obtain ⟨vs, hv⟩ := hf
    obtain ⟨mA, ns, _⟩ := (show ObjOk X.prog X.w H s.heap dd (.xd fs) from I.hok dd _ hdd)
    obtain ⟨od, ho, _⟩ := lookIn_ns ns
    have J : PySem.W.InstAt s.heap a oe D (some od) := ⟨there, hz.1, by unfold PySem.W.notCls; rw [hv] <;> rfl, by rw [hz.2]; exact ho⟩
    have cl : (PySem.W.clsIn X.K D).isSome = true := by
      obtain ⟨cd, hc, _⟩ := PySem.W.any_some ec.hd
      rw [hc]
      rfl
    exact PySem.W.kia_one (PySem.W.kitx_exc cl ec.hg ec.hk ec.hs ec.ha ec.hn ec.ht ec.hm) I.kIn J known (fun z => nomatch z) fun tk => ⟨.bl b, H, I.kept (t' := tk) fun _ _ z => z, rfl, q⟩
end

/-! ### try with several «except C as n» -/
/-- what the clauses wish of an error, one after the other: class, the name's slot, the suite's reading -/
def wAsM (K : PySem.W.Frag) (out : WX) (D : Ends) : List (Value × Nat × (Addr → Value → Option Addr → TS)) → WX
  | [] => out
  | (c, i, t) :: more => fun cls d σ H => ∃ b, PySem.W.exmOne K cls c = some b ∧
      (b = true → ∀ a, H a = none → t a cls d { nx := fun σ' H' => D.nx (σ'.set i none) H', rt := D.rt, bk := fun σ' H' => D.bk (σ'.set i none) H', ct := fun σ' H' => D.ct (σ'.set i none) H' } (σ.set i (some (.ref a))) H) ∧
      (b = false → wAsM K out D more cls d σ H)
inductive ClausesOk (X : Cx) : List ExceptHandler → List (Value × Nat × (Addr → Value → Option Addr → TS)) → Prop
  | nil : ClausesOk X [] []
  | cons {x n : Str} {c : Value} {i : Nat} {t : Addr → Value → Option Addr → TS} {st : Stmt} {sts : List Stmt} {q q' : Pos} {hs : List ExceptHandler} {ls : List (Value × Nat × (Addr → Value → Option Addr → TS))} (known : Names X x c) (slot : X.N[i]? = some n)
      (lo : X.env.kindOf n = some .local) (suite : ∀ (a : Addr) (oe : Obj) (cls : Value) (d : Option Addr) (pn : List (Addr × Obj)), Zc cls d oe → (∃ vs, oe.data = .fields vs) → PSs (X.suite a ((a, oe) :: pn)) (st :: sts) (t a cls d))
      (more : ClausesOk X hs ls) : ClausesOk X (.ExceptHandler (some (.Name x q)) (some n) (st :: sts) q' :: hs) ((c, i, t) :: ls)
  | bare {x : Str} {c : Value} {i : Nat} {t : Addr → Value → Option Addr → TS} {st : Stmt} {sts : List Stmt} {q q' : Pos} {hs : List ExceptHandler} {ls : List (Value × Nat × (Addr → Value → Option Addr → TS))} (known : Names X x c) (off : X.N.length ≤ i)
      (suite : ∀ (a : Addr) (oe : Obj) (cls : Value) (d : Option Addr) (pn : List (Addr × Obj)), Zc cls d oe → (∃ vs, oe.data = .fields vs) → PSs (X.suite a ((a, oe) :: pn)) (st :: sts) (t a cls d))
      (more : ClausesOk X hs ls) : ClausesOk X (.ExceptHandler (some (.Name x q)) none (st :: sts) q' :: hs) ((c, i, t) :: ls)
section
variable {X : Cx} {body : List Stmt} {h1 : ExceptHandler} {hs : List ExceptHandler} {ls : List (Value × Nat × (Addr → Value → Option Addr → TS))} {pos : Pos} {tb : WX → TS} {out : WX}
theorem ps_try_asM (st : X.stack = X.env :: X.outer) (fr : X.env.frame = some X.env.locals) (nd : X.N.Nodup) (tk : Takes X out)
    (runs : ∀ (W : WX) (pn : List (Addr × Obj)) (xe : Value → Shared → Prop), Takes (X.tr pn xe) W → PassesOwn (model X.prog X.w) X.A X.env xe → PSs (X.tr pn xe) body (tb W))
    (cl : ClausesOk X (h1 :: hs) ls) : PS X (.Try body (h1 :: hs) [] [] pos) (fun D σ H => tb (wAsM X.K out D ls) D σ H) := by
  refine ⟨fun pins s σ H D I want => ?_⟩
  have ok := I.ok
  have frames : X.A.frames = some (X.env :: X.outer) := by rw [ok.frames, st]
  refine wpAny_Try_except ?_
  refine wpAny_mono ((runs (wAsM X.K out D ls) (X.pn ++ pins) (fun u t1 => wpAny (model X.prog X.w) X.A (noteFrame u X.env) (fun _ t2 => wpAny (model X.prog X.w) X.A (setFlight u none)
    (fun _ t3 => wpAny (model X.prog X.w) X.A (handleBy u X.env (h1 :: hs)) (SP X pins D) X.xe t3) X.xe t2) X.xe t1) (fun u t0 flown => ?_) PassesOwn.looking).run [] s σ H D (I.toTry _) want) (fun f t0 done => ?_) (fun _ _ y => y)
  · obtain ⟨a, B, sI, pins1, σ1, H1, cls, d, rfl, J0, bare, kept, sky, fresh, osE, agree, wish⟩ := flown
    have J : Inv X pins σ1 H1 sI := J0.ofTry ok
    have sky1 : Sky B (X.env :: X.outer) a (Zc cls d) X.env.locals t0.heap := st ▸ sky
    show wpAny (model X.prog X.w) X.A (noteFrame (.ref a) X.env) _ X.xe t0
    refine Sky.land Zc.steady frames fr sky1 fun g fl up => ?_
    obtain ⟨oe, vs, atE, zE, dataE⟩ := fl.there
    have outF : a ∉ frs (X.env :: X.outer) := fun mem => by
      obtain ⟨_, o, here, no⟩ := fl.2.2.1.mem mem
      cases atE.symm.trans here
      exact no _ dataE
    have nL : a ≠ X.env.locals := fun z => outF (List.mem_filterMap.mpr ⟨X.env, List.mem_cons_self, by rw [fr, z]⟩)
    have nF : a ∉ X.fs := fun mem => outF (by
      obtain ⟨e, m1, m2⟩ := List.mem_filterMap.mp mem
      exact List.mem_filterMap.mpr ⟨e, List.mem_cons_of_mem _ m1, m2⟩)
    have J1 : Inv X pins σ1 H1 { t0 with heap := g } := J.landed bare fl.1 (kept.trans up) osE agree
    have S1 := J1.suite atE dataE fresh nL nF
    have go : ∀ {hh : List ExceptHandler} {ll : List (Value × Nat × (Addr → Value → Option Addr → TS))}, ClausesOk X hh ll → wAsM X.K out D ll cls d σ1 H1 → wpAny (model X.prog X.w) X.A (handleBy (.ref a) X.env hh) (SP X pins D) X.xe { t0 with heap := g } := by
      intro hh ll cc
      induction cc with
      | nil =>
        intro fly
        refine wpAny_handleBy_nil ?_
        obtain ⟨_, _, _, o, ws, T, oT, ts, g1, g2, g3, g4, _⟩ := id fl
        unfold PySem.passOn
        refine wpAny_bind (wpAny_field g1 g3 g4 ?_)
        rw [if_neg (by simp : ¬ ((Value.ref T == Value.none) = true))]
        have on : wpAny (model X.prog X.w) X.A (setFlight (.ref a) X.env.frame) (fun _ t4 => wpAny (model X.prog X.w) X.A (throw (.ref a) : Sem Flow) (SP X pins D) X.xe t4) X.xe { t0 with heap := g } := by
          rw [fr]
          exact HandSPX.setFlight_upZ fl fun g' sky' up' => wpAny_throw (tk _ _ ⟨a, B, sI, pins, σ1, H1, cls, d, rfl, J, bare, (kept.trans up).trans up', .inr (.inr (by rw [st]; exact sky')), fresh, osE, agree, fly⟩)
        first
          | exact wpAny_bind (wpAny_pure (wpAny_bind on))
          | exact wpAny_bind on
      | @cons x n c i t b₀ bs q q' hs' ls' known slot lo suite more ih =>
        intro w1
        obtain ⟨b, asked, yes, no⟩ := w1
        refine wpAny_handleBy_cons (codeAny_handlers_test ?_) (fun z => by cases z)
        have typ : PySem.W.Looks (model X.prog X.w) g (typeOf (.ref a)) cls := fun _ _ _ _ k z => wpAny_typeOf_ref (k _ _ atE) (by rw [zE.1]; exact z)
        have name : ∀ {Q : Value → Shared → Prop} {E : Value → Shared → Prop}, Q c { t0 with heap := g } → wpAny (model X.prog X.w) (X.A.mark (some (.ref a))) (eval (.Name x q) X.env) Q E { t0 with heap := g } := fun {Q E} z => by
          obtain ⟨k1, k2, k3 | ⟨k3, k4, k5⟩⟩ := known
          · exact ld_glob (X := X.suite a ((a, oe) :: (X.pn ++ pins))) S1 k1 k3 z k2
          · exact ld_blt (X := X.suite a ((a, oe) :: (X.pn ++ pins))) S1 k1 k3 k4 z k5 k2
        refine name ((PySem.W.exm_one (M := model X.prog X.w) J1.kIn typ asked).here ?_)
        cases b with
        | false => exact ih (no rfl)
        | true =>
          refine codeAny_handlers_suite_as (HandSPX.lands_againZ fl fun g' fl' up' => ?_)
          obtain ⟨oe', ws, atE', zE', dataE'⟩ := fl'.there
          have J2 : Inv X pins σ1 H1 { t0 with heap := g' } := J.landed bare fl'.1 ((kept.trans up).trans up') osE agree
          have S2 := J2.suite atE' dataE' fresh nL nF
          refine store_ok (X := X.suite a ((a, oe') :: (X.pn ++ pins))) (v := .ref a) S2 nd slot (.inl lo) rfl (fun t5 S5 => ?_) (.inr lo)
          refine wpAny_mono ((suite a oe' cls d (X.pn ++ pins) zE' ⟨_, dataE'⟩).run [] t5 _ H1 _ S5 (yes rfl a fresh)) (fun f t6 done => ?_) (fun _ _ z => z.elim)
          have gone : ∀ {σ6 : L2.St} {H6 : Hp} {Q : Shared → Prop}, Inv (X.suite a ((a, oe') :: (X.pn ++ pins))) [] σ6 H6 t6 → (∀ t7, Inv X pins (σ6.set i none) H6 t7 → Q t7) →
              wpAny (model X.prog X.w) X.A (do bindName X.env n .none; unbindBehindTheSuite X.env n q') (fun _ t7 => Q t7) X.xe t6 := fun S6 z => gone_ok (S6.unsuite ok) nd slot lo z
          cases f with
          | ret u =>
            obtain ⟨v6, σ6, H6, S6, r6, q6⟩ := done
            exact gone S6 fun _ J7 => ⟨_, _, _, J7, r6, q6⟩
          | next =>
            obtain ⟨_, _, S6, q6⟩ := done
            exact gone S6 fun _ J7 => ⟨_, _, J7, q6⟩
          | brk =>
            obtain ⟨_, _, S6, q6⟩ := done
            exact gone S6 fun _ J7 => ⟨_, _, J7, q6⟩
          | cont =>
            obtain ⟨_, _, S6, q6⟩ := done
            exact gone S6 fun _ J7 => ⟨_, _, J7, q6⟩
      | @bare x c i t b₀ bs q q' hs' ls' known off suite more ih =>
        intro w1
        obtain ⟨b, asked, yes, no⟩ := w1
        refine wpAny_handleBy_cons (codeAny_handlers_test ?_) (fun z => by cases z)
        have typ : PySem.W.Looks (model X.prog X.w) g (typeOf (.ref a)) cls := fun _ _ _ _ k z => wpAny_typeOf_ref (k _ _ atE) (by rw [zE.1]; exact z)
        have name : ∀ {Q : Value → Shared → Prop} {E : Value → Shared → Prop}, Q c { t0 with heap := g } → wpAny (model X.prog X.w) (X.A.mark (some (.ref a))) (eval (.Name x q) X.env) Q E { t0 with heap := g } := fun {Q E} z => by
          obtain ⟨k1, k2, k3 | ⟨k3, k4, k5⟩⟩ := known
          · exact ld_glob (X := X.suite a ((a, oe) :: (X.pn ++ pins))) S1 k1 k3 z k2
          · exact ld_blt (X := X.suite a ((a, oe) :: (X.pn ++ pins))) S1 k1 k3 k4 z k5 k2
        refine name ((PySem.W.exm_one (M := model X.prog X.w) J1.kIn typ asked).here ?_)
        cases b with
        | false => exact ih (no rfl)
        | true =>
          refine codeAny_handlers_suite (HandSPX.lands_againZ fl fun g' fl' up' => ?_)
          obtain ⟨oe', ws, atE', zE', dataE'⟩ := fl'.there
          have J2 : Inv X pins σ1 H1 { t0 with heap := g' } := J.landed bare fl'.1 ((kept.trans up).trans up') osE agree
          have S2 := J2.suite atE' dataE' fresh nL nF
          have w2 := yes rfl a fresh
          have l1 : σ1.length = X.N.length := J2.len
          rw [List.set_eq_of_length_le (by omega)] at w2
          refine wpAny_mono ((suite a oe' cls d (X.pn ++ pins) zE' ⟨_, dataE'⟩).run [] _ _ H1 _ S2 w2) (fun f t6 done => ?_) (fun _ _ z => z.elim)
          have off6 : ∀ {σ6 : L2.St} {H6 : Hp}, Inv (X.suite a ((a, oe') :: (X.pn ++ pins))) [] σ6 H6 t6 → σ6.set i none = σ6 := fun {σ6 _} S6 => by
            have l6 : σ6.length = X.N.length := S6.len
            exact List.set_eq_of_length_le (by omega)
          cases f with
          | ret u =>
            obtain ⟨v6, σ6, H6, S6, r6, q6⟩ := done
            exact ⟨_, _, _, S6.unsuite ok, r6, q6⟩
          | next =>
            obtain ⟨σ6, H6, S6, q6⟩ := done
            have q6 : D.nx (σ6.set i none) H6 := q6
            rw [off6 S6] at q6
            exact ⟨_, _, S6.unsuite ok, q6⟩
          | brk =>
            obtain ⟨σ6, H6, S6, q6⟩ := done
            have q6 : D.bk (σ6.set i none) H6 := q6
            rw [off6 S6] at q6
            exact ⟨_, _, S6.unsuite ok, q6⟩
          | cont =>
            obtain ⟨σ6, H6, S6, q6⟩ := done
            have q6 : D.ct (σ6.set i none) H6 := q6
            rw [off6 S6] at q6
            exact ⟨_, _, S6.unsuite ok, q6⟩
    exact go cl wish
  · cases f with
    | ret u =>
      obtain ⟨v, _, _, J1, r1, q1⟩ := done
      exact ⟨v, _, _, J1.ofTry ok, r1, q1⟩
    | next =>
      obtain ⟨_, _, J1, q1⟩ := done
      exact wpAny_execs_nil ⟨_, _, J1.ofTry ok, q1⟩
    | brk =>
      obtain ⟨_, _, J1, q1⟩ := done
      exact ⟨_, _, J1.ofTry ok, q1⟩
    | cont =>
      obtain ⟨_, _, J1, q1⟩ := done
      exact ⟨_, _, J1.ofTry ok, q1⟩
end

/-! ### errors of two fields -/
/-- the heap behind C(x, y), where __init__ stores both -/
def errH (H : Hp) (a C dx : Addr) (f g : Str) (x y : V) : Hp := upd (upd (upd H dx (exd dx [(f, x)])) a (exo a C (some dx))) dx (exd dx [(g, y), (f, x)])
theorem raise2 {C : Addr} {f g : Str} {x y : V} {H : Hp} {Q : XK} (hq : ∀ d, H d = none → Q (.ref C) (some d) (upd H d (.xd [(g, y), (f, x)]))) {a dx : Addr} (na : H a = none) (nd : upd H a (exo a C none) dx = none) (ne : dx ≠ a) :
    V.non = .non ∧ ∃ (d : Addr) (fs : List (Str × V)), errH (upd H a (exo a C none)) a C dx f g x y a = some (exo a C (some d)) ∧ errH (upd H a (exo a C none)) a C dx f g x y d = some (exd d fs) ∧ H d = none ∧
      Q (.ref C) (some d) (upd (del (errH (upd H a (exo a C none)) a C dx f g x y) a) d (.xd fs)) := by
  rw [upd_ne ne] at nd
  refine ⟨rfl, dx, _, ?_, upd_same, nd, ?_⟩
  · unfold errH
    rw [upd_ne (Ne.symm ne), upd_same]
  · have e : upd (del (errH (upd H a (exo a C none)) a C dx f g x y) a) dx (.xd [(g, y), (f, x)]) = upd H dx (.xd [(g, y), (f, x)]) := by
      funext b
      by_cases h1 : b = dx
      · rw [h1, upd_same, upd_same]
      · rw [upd_ne h1, upd_ne h1]
        by_cases h2 : b = a
        · rw [h2, del_same, na]
        · rw [del_ne h2]
          unfold errH
          rw [upd_ne h1, upd_ne h2, upd_ne h1, upd_ne h2]
    rw [e]
    exact hq dx nd
/-- the first weight below 1, from place i on -/
def badAt : List Int → Nat → Option Nat
  | [], _ => none
  | n :: r, i => if n < 1 then some i else badAt r (i + 1)

/-- the fields of a Weighted -/
def fW (m aside : Int) (t : Addr) : List (Str × V) := putF "aside" (.int aside) (putF "weights" (.ref t) (putF "many" (.int m) []))
/-- nothing but the object at p is another -/
def SameX (p : Addr) (H H' : Hp) : Prop := ∀ b o, b ≠ p → H b = some o → H' b = some o
theorem SameX.trans {p : Addr} {H H' H2 : Hp} (h : SameX p H H') (k : SameX p H' H2) : SameX p H H2 := fun b o n z => k b o n (h b o n z)
theorem SameX.new {p : Addr} {H : Hp} {a : Addr} {o : HO} (n : H a = none) : SameX p H (upd H a o) := fun b u _ z => (upd_ne (ne_of_none z n)).trans z
theorem SameX.put {p : Addr} {H : Hp} {o : HO} : SameX p H (upd H p o) := fun b u n z => (upd_ne n).trans z

/-- the first number below b, from place i on -/
def lowAt (b : Int) : List Int → Nat → Option Nat
  | [], _ => none
  | n :: r, i => if n < b then some i else lowAt b r (i + 1)
theorem low_bad : ∀ (ns : List Int) (i : Nat), lowAt 1 ns i = badAt ns i
  | [], _ => rfl
  | n :: r, i => by
    unfold lowAt badAt
    rw [low_bad r (i + 1)]

theorem same_sx {p : Addr} {H H' : Hp} (h : Same H H') : SameX p H H' := fun b o _ z => h b o z
theorem dp_ints {K : PySem.W.Frag} {H : Hp} {a : Addr} {ns : List Int} (h : SqL K H a (ns.map V.int)) : Dp K H (.ref a) (.list (ns.map PyData.int)) := by
  refine .lst h ?_
  clear h
  induction ns with
  | nil => exact .nil
  | cons n r ih => exact .cons (.int n) ih
theorem depthAll_ints : ∀ ns : List Int, PyData.depthAll (ns.map PyData.int) = 0
  | [] => rfl
  | n :: r => by
    show max (PyData.depth (.int n)) (PyData.depthAll (r.map PyData.int)) = 0
    rw [depthAll_ints r]
    rfl
theorem depth_ints (ns : List Int) : PyData.depth (.list (ns.map PyData.int)) = 1 := by
  show PyData.depthAll (ns.map PyData.int) + 1 = 1
  rw [depthAll_ints]
theorem lay_ints : ∀ ns : List Int, PyData.canLayAll0 (ns.map PyData.int) = true
  | [] => rfl
  | _ :: r => (Bool.true_and _).trans (lay_ints r)
/-- what is due for these weights and this number -/
inductive Due | many (m : Nat) | num (k : Nat) | aside | made
def dueW (ns : List Int) (aside : Int) : Due := if ns.length > 24 then .many ns.length else match badAt ns 0 with
  | some k => .num k
  | none => if aside < 1 then .aside else .made
def Due.due : Due → List V
  | .many m => [.str "many", .int m, .int 24]
  | .num k => [.str "number", .str "weights", .int k]
  | .aside => [.str "number", .str "aside", .non]
  | .made => [.str "made", .int 0, .int 0]
def Due.told : Due → List V
  | .many m => [.str "many", .int m, .int 24, .bl false]
  | .num k => [.str "number", .str "weights", .int k, .bl false]
  | .aside => [.str "number", .str "aside", .non, .bl false]
  | .made => []
theorem due_many {ns : List Int} {a : Int} (h : ns.length > 24) : dueW ns a = .many ns.length := if_pos h
theorem due_num {ns : List Int} {a : Int} {k : Nat} (h : ¬ ns.length > 24) (hb : badAt ns 0 = some k) : dueW ns a = .num k := by
  unfold dueW
  rw [if_neg h, hb]
theorem due_aside {ns : List Int} {a : Int} (h : ¬ ns.length > 24) (hb : badAt ns 0 = none) (ha : a < 1) : dueW ns a = .aside := by
  unfold dueW
  rw [if_neg h, hb]
  exact if_pos ha
theorem due_made {ns : List Int} {a : Int} (h : ¬ ns.length > 24) (hb : badAt ns 0 = none) (ha : ¬ a < 1) : dueW ns a = .made := by
  unfold dueW
  rw [if_neg h, hb]
  exact if_neg ha
theorem sameX_made {C x dx : Addr} {H H' : Hp} (nx : H x = none) (nd : H dx = none) (k : SameX x (upd (upd H dx (.own x)) x (.ins C dx [])) H') : Same H H' := fun b o e => by
  have h1 : b ≠ x := ne_of_none e nx
  have h2 : b ≠ dx := ne_of_none e nd
  exact k b o h1 (by rw [upd_ne h1, upd_ne h2]; exact e)
theorem fW_weights (m a : Int) (t : Addr) : (fW m a t).lookup ("weights" : Str) = some (V.ref t) := by rfl
theorem fW_aside (m a : Int) (t : Addr) : (fW m a t).lookup ("aside" : Str) = some (V.int a) := by rfl

/-! ### a Ratio in the heap -/
def rF (T B : Int) : List (Str × V) := [("top", .int T), ("bottom", .int B)]
def RatAt (C : Addr) (H : Hp) (p : Addr) (T B : Int) : Prop := ∃ dx, H p = some (.ins C dx (rF T B))
theorem rF_top (T B : Int) : (rF T B).lookup ("top" : Str) = some (.int T) := lk_one
theorem rF_bot (T B : Int) : (rF T B).lookup ("bottom" : Str) = some (.int B) := (lk_two (by decide +kernel)).trans lk_one
theorem rF_new (T B : Int) : putF "bottom" (.int B) (putF "top" (.int T) []) = rF T B := by
  show (if ("top" : Str) = "bottom" then _ else _) = _
  rw [if_neg (by decide +kernel)]
  rfl
theorem RatAt.same {C : Addr} {H H' : Hp} {p : Addr} {T B : Int} (s : Same H H') (h : RatAt C H p T B) : RatAt C H' p T B := by
  obtain ⟨dx, h⟩ := h
  exact ⟨dx, s _ _ h⟩
/-- not too long to divide by -/
def Sm (b : Int) : Prop := ∃ n, 0 < n ∧ n ≤ 8000 ∧ b.natAbs < 2 ^ n
theorem sm_of {b : Int} {n : Nat} (h : b.natAbs < 2 ^ n) (h0 : 0 < n := by decide) (hn : n ≤ 8000 := by decide) : Sm b := ⟨n, h0, hn, h⟩
theorem Sm.le {a b : Int} (h : Sm b) (hl : a.natAbs ≤ b.natAbs) : Sm a := by
  obtain ⟨n, h0, h1, h2⟩ := h
  exact ⟨n, h0, h1, Nat.lt_of_le_of_lt hl h2⟩
theorem Sm.log {a : Int} (h : Sm a) : a.natAbs.log2 < 8000 := by
  obtain ⟨n, h0, h1, h2⟩ := h
  exact Nat.lt_of_lt_of_le (PySem.Flt.log2_lt_of h0 h2) h1
theorem Sm.mul {a b : Int} (h : Sm a) (h' : Sm b) : CMulW a b := by
  have x := h.log
  have y := h'.log
  unfold CMulW
  omega
theorem rd_div {t b : Int} (h : b ≠ 0) (hs : Sm b) (i : Int) : CDivWN i (rd t b) := by
  refine ⟨rd_ne h, ?_⟩
  have h1 : (rd t b).natAbs ≤ b.natAbs := by
    rw [rd_abs]
    exact Nat.gcd_le_right _ (Int.natAbs_pos.mpr h)
  exact Nat.lt_of_lt_of_le (hs.le h1).log (by decide)

/-! ### numbers: a Ratio or an int -/
def NumAt (C : Addr) (H : Hp) (y : V) (T B : Int) : Prop := (∃ q, y = .ref q ∧ RatAt C H q T B) ∨ (y = .int T ∧ B = 1)
theorem RatAt.num {C : Addr} {H : Hp} {p : Addr} {T B : Int} (h : RatAt C H p T B) : NumAt C H (.ref p) T B := .inl ⟨p, rfl, h⟩
theorem NumAt.same {C : Addr} {H H' : Hp} {y : V} {T B : Int} (s : Same H H') (h : NumAt C H y T B) : NumAt C H' y T B := by
  rcases h with ⟨q, e, r⟩ | h
  · exact .inl ⟨q, e, r.same s⟩
  · exact .inr h
/-- what the operator rules ask of the second operand -/
theorem NumAt.arg {C : Addr} {H : Hp} {y : V} {T B : Int} (h : NumAt C H y T B) : (∃ b dy gs, y = .ref b ∧ H b = some (.ins C dy gs)) ∨ ∃ n, y = .int n := by
  rcases h with ⟨q, rfl, dx, e⟩ | ⟨rfl, _⟩
  · exact .inl ⟨q, dx, _, rfl, e⟩
  · exact .inr ⟨T, rfl⟩
theorem RatAt.self {C : Addr} {H : Hp} {p : Addr} {T B : Int} (h : RatAt C H p T B) : ∃ a dx fs, (V.ref p : V) = .ref a ∧ H a = some (.ins C dx fs) := by
  obtain ⟨dx, e⟩ := h
  exact ⟨p, dx, _, rfl, e⟩
theorem low_any {t b T B : Int} (hb : b ≠ 0) (pos : 0 < B) (cop : Nat.gcd T.natAbs B.natAbs = 1) (eq : T * b = t * B) : LowT t b T B := by
  have n : T.natAbs * b.natAbs = t.natAbs * B.natAbs := by
    rw [← Int.natAbs_mul, ← Int.natAbs_mul, eq]
  have d1 : B.natAbs ∣ b.natAbs := by
    have : B.natAbs ∣ T.natAbs * b.natAbs := n ▸ Nat.dvd_mul_left ..
    exact (Nat.Coprime.symm cop).dvd_of_dvd_mul_left this
  have d2 : T.natAbs ∣ t.natAbs := by
    have : T.natAbs ∣ t.natAbs * B.natAbs := n ▸ Nat.dvd_mul_right ..
    exact Nat.Coprime.dvd_of_dvd_mul_right cop this
  refine ⟨pos, eq, ?_, Nat.le_of_dvd (Int.natAbs_pos.mpr hb) d1, cop⟩
  rcases Nat.eq_zero_or_pos t.natAbs with z | z
  · rw [z, Nat.zero_mul] at n
    rcases Nat.mul_eq_zero.mp n with h | h
    · omega
    · exact absurd h (by have := Int.natAbs_pos.mpr hb; omega)
  · exact Nat.le_of_dvd z d2
theorem low_int (n : Int) : LowT n 1 n 1 := ⟨by decide, rfl, Nat.le_refl _, Nat.le_refl _, by simp⟩
theorem LowT.to {t b t' b' T B : Int} (h : LowT t b T B) (hb : b ≠ 0) (hb' : b' ≠ 0) (e : t * b' = t' * b) : LowT t' b' T B := by
  refine low_any hb' h.pos h.cop ?_
  have q := h.eq
  have : b * (T * b') = b * (t' * B) := by grind
  exact Int.eq_of_mul_eq_mul_left hb this
/-! ### operators of an own class -/
section
variable {prog : Program} {w : World} {A : Around} {E : Value → Shared → Prop} {s : Shared} {K : PySem.W.Frag}
/-- an int's own operator declines an instance -/
theorem declines_bin {id nm : String} {name : Str} {g : Int → Int → Sem Fin} {n : Int} {t : Tok} {a C dx : Addr} {Q : Value → Shared → Prop} (ha : s.heap.get? a = some (PySem.W.instObj C dx)) (slot : Slot "int" name id)
    (entry : entryFor table id = some (Builtin.Int.intBinary nm g)) (args : argsOk id ⟨[.int n t, .ref a], []⟩) (h : Q .notImplemented s) :
    wpAny (model prog w) A (call (.builtin id) [.int n t, .ref a]) Q E s := by
  refine GQ.call_here slot (by first | exact rfl | trivial) entry args ?_
  have e1 : slotArgs nm 1 ⟨[.int n t, .ref a], []⟩ = pure (.int n t, [.ref a]) := rfl
  have e2 : Builtin.Int.intOfSelf (.int n t) = pure n := rfl
  unfold Builtin.Int.intBinary
  rw [e1]
  refine wpAny_bind (wpAny_pure ?_)
  dsimp only
  rw [e2]
  refine wpAny_bind (wpAny_pure ?_)
  refine wpAny_bind ?_
  show wpAny (model prog w) A.in1 (asInt? (.ref a)) _ _ s
  unfold asInt?
  refine wpAny_bind (wpAny_load ha ?_)
  refine wpAny_pure ?_
  refine wpAny_bind (wpAny_rule ?_)
  exact wpAny_pure h
end
section
variable {prog : Program} {w : World} {A : Around} {E : Value → Shared → Prop} {s : Shared} {K : PySem.W.Frag}
/-- n op a: the int's own operator declines, then a's reflected one is asked -/
theorem bin_refl {op : Operator} {id nm : String} {g : Int → Int → Sem Fin} {n : Int} {t : Tok} {a C dx f : Addr} {od : Option Obj} {Q : Value → Shared → Prop} (X : K.In s.heap) (ha : s.heap.get? a = some (PySem.W.instObj C dx)) (J : PySem.W.InstAt s.heap a (PySem.W.instObj C dx) C od)
    (first : PySem.W.selfFirst K C = true) (slot : Slot "int" (dunder op.info.2) id) (entry : entryFor table id = some (Builtin.Int.intBinary nm g)) (args : argsOk id ⟨[.int n t, .ref a], []⟩)
    (fillI : fillsNumberSlot (.type "int") op.info.2 = pure true) {f0 : Addr} (own : PySem.W.findIn K (.ref C) (dunder op.info.2) = some (some (.ref f0))) (sub : PySem.W.subIn K (.ref C) (.type "int") = some false)
    (hr : PySem.W.findIn K (.ref C) (dunderR op.info.2) = some (some (.ref f))) (hf : PySem.W.isFn K (.ref f) = true)
    (h : wpAny (model prog w) A (call (.ref f) [.ref a, .int n t]) (PySem.W.CmpBack Q) E s) : wpAny (model prog w) A (binaryOp op (.int n t) (.ref a)) Q E s := by
  obtain ⟨cd, rest, hcd, hm⟩ := PySem.W.ksp_first first
  have back := PySem.W.ksp_try X J hr hf h
  rcases hi : op.info with ⟨sym, nm'⟩
  rw [hi] at slot fillI own hr back
  dsimp only at slot fillI own hr back
  have f1 : PySem.W.Looks (model prog w) s.heap (fillsNumberSlot (.ref C) nm') true := PySem.W.fills_K X hcd hm own
  have ne : (Value.type "int" == Value.ref C) = false := Bool.eq_false_iff.mpr fun z => by cases beq_iff_eq.mp z
  unfold binaryOp
  refine wpAny_holding ?_
  simp only [hi]
  refine wpAny_bind ?_
  unfold binaryOp1
  refine wpAny_bind (wpAny_typeOf (T := "int") (by exact rfl) (wpAny_bind (J.type.here (wpAny_bind (wpAny_of_eq fillI ?_)))))
  simp only [ne, Bool.false_eq_true, if_false]
  refine wpAny_bind (f1.here ?_)
  simp only [Bool.and_self, if_true]
  refine wpAny_bind ((PySem.W.looks_subIn X sub).here ?_)
  have hpy : numberSlotInPython (.type "int") nm' = pure false := rfl
  simp only [Bool.false_eq_true, if_false, pure_bind, Bool.not_false, Bool.and_self, if_true, hpy]
  refine wpAny_bind (wpAny_tryMethod_declines (T := "int") (by exact rfl) slot (declines_bin ha slot entry args ⟨rfl, ?_⟩))
  dsimp only
  refine wpAny_bind (wpAny_mono back (fun r s' z => ?_) fun _ _ z => z)
  obtain ⟨v, rfl, q⟩ := z
  exact wpAny_bind (wpAny_rule (wpAny_pure (wpAny_pure q)))
end
section
variable {X : Cx} {CX : CXT} {k : Nat} {f C : Addr} {fd : FuncData} {ps : List Str} {sp : Sp} {ds : List Value} {E : XK}
theorem ep_back {pins : List (Addr × Obj)} {σ : L2.St} {Q : VK} {u : Value} {s' : Shared} (h : EP X pins σ Q u s') : PySem.W.CmpBack (EP X pins σ Q) u s' := by
  obtain ⟨v, H', J, r, q⟩ := h
  cases u <;> first
    | exact ⟨v, H', J, r, q⟩
    | (exfalso; cases v <;> first | (obtain ⟨_, z⟩ := r; cases z) | cases r)
/-- x op y by the class's own operator; y an instance of the class, or an int -/
def rOwn (C : Addr) (sp : Sp) (E : XK) : R2 := fun x y H Q => (∃ a dx fs, x = .ref a ∧ H a = some (.ins C dx fs)) ∧ ((∃ b dy gs, y = .ref b ∧ H b = some (.ins C dy gs)) ∨ ∃ n, y = .int n) ∧ sp [x, y] H Q E
/-- n op a by the class's reflected operator -/
def rRef (C : Addr) (sp : Sp) (E : XK) : R2 := fun x y H Q => (∃ n, x = .int n) ∧ (∃ a dx fs, y = .ref a ∧ H a = some (.ins C dx fs)) ∧ sp [y, x] H Q E
theorem inst_of {pins : List (Addr × Obj)} {σ : L2.St} {H : Hp} {s : Shared} {a C dx : Addr} {fs : List (Str × V)} (I : Inv X pins σ H s) (e : H a = some (.ins C dx fs)) :
    s.heap.get? a = some (PySem.W.instObj C dx) ∧ ∃ od, PySem.W.InstAt s.heap a (PySem.W.instObj C dx) C (some od) := by
  obtain ⟨mA, O, _⟩ := ins_get I.hok e
  obtain ⟨od, J, _⟩ := O.look
  exact ⟨O.obj, od, J⟩
theorem op_own {op : Operator} {fo ro rc : Option Value} (M : Meth X.K C (dunder op.info.2) f) (first : PySem.W.selfFirst X.K C = true) (hr : PySem.W.findIn X.K (.ref C) (dunderR op.info.2) = some rc) (hp : rc = none ∨ ∃ g : Addr, rc = some (.ref g))
    (h1 : PySem.W.findIn X.K (.type "int") (dunder op.info.2) = some fo) (h2 : PySem.W.findIn X.K (.type "int") (dunderR op.info.2) = some ro) (hsub : PySem.W.subIn X.K (.type "int") (.ref C) = some false)
    (G : FnOk X.prog X.w X.K X.mg X.base CX k f fd ps sp) (room : Room k X.A) (bd : Binds X.K fd ps []) (out : Passes CX X E) : OpR X (binaryOp op) (rOwn C sp E) := by
  intro pins s σ H x y v u Q I rx ry h
  obtain ⟨⟨a, dx, fs, rfl, ha⟩, hy, h⟩ := h
  cases (show v = Value.ref a from rx)
  obtain ⟨_, od, J⟩ := inst_of I ha
  obtain ⟨m, F⟩ := I.fr
  have ran : wpAny (model X.prog X.w) X.A (call (.ref f) [.ref a, u]) (PySem.W.CmpBack (EP X pins σ Q)) X.xe s :=
    wpAny_mono (run_fn (ds := []) G room bd .nil out I (.cons (show L2.RelV (.ref a) (.ref a) from rfl) (.cons ry .nil)) h) (fun _ _ z => ep_back z) fun _ _ z => z
  rcases hy with ⟨b, dy, gs, rfl, hb⟩ | ⟨n, rfl⟩
  · cases (show u = Value.ref b from ry)
    obtain ⟨_, od', J'⟩ := inst_of I hb
    exact PySem.W.binop_K F I.ok.mod.kin J J'.type first M.at_ M.fn ran
  · obtain ⟨t, rfl⟩ := (show ∃ t, u = Value.int n t from ry)
    exact PySem.W.ksp_binT F I.ok.mod.kin J (T := "int") rfl first M.at_ M.fn hr hp h1 h2 hsub ran
theorem op_ref {op : Operator} {id nm : String} {g : Int → Int → Sem Fin} {f0 : Addr} (M : Meth X.K C (dunderR op.info.2) f) (first : PySem.W.selfFirst X.K C = true) (own : PySem.W.findIn X.K (.ref C) (dunder op.info.2) = some (some (.ref f0)))
    (sub : PySem.W.subIn X.K (.ref C) (.type "int") = some false) (slot : Slot "int" (dunder op.info.2) id) (entry : entryFor table id = some (Builtin.Int.intBinary nm g)) (args : ∀ a b, argsOk id ⟨[a, b], []⟩) (fillI : fillsNumberSlot (.type "int") op.info.2 = pure true)
    (G : FnOk X.prog X.w X.K X.mg X.base CX k f fd ps sp) (room : Room k X.A) (bd : Binds X.K fd ps []) (out : Passes CX X E) : OpR X (binaryOp op) (rRef C sp E) := by
  intro pins s σ H x y v u Q I rx ry h
  obtain ⟨⟨n, rfl⟩, ⟨a, dx, fs, rfl, ha⟩, h⟩ := h
  cases (show u = Value.ref a from ry)
  obtain ⟨t, rfl⟩ := (show ∃ t, v = Value.int n t from rx)
  obtain ⟨ho, od, J⟩ := inst_of I ha
  have ran : wpAny (model X.prog X.w) X.A (call (.ref f) [.ref a, .int n t]) (PySem.W.CmpBack (EP X pins σ Q)) X.xe s :=
    wpAny_mono (run_fn (ds := []) G room bd .nil out I (.cons (show L2.RelV (.ref a) (.ref a) from rfl) (.cons rx .nil)) h) (fun _ _ z => ep_back z) fun _ _ z => z
  exact bin_refl I.kIn ho J first slot entry (args _ _) fillI own sub M.at_ M.fn ran
/-- -a -/
def rNeg (C : Addr) (sp : Sp) (E : XK) : V → Hp → VK → Prop := fun x H Q => (∃ a dx fs, x = .ref a ∧ H a = some (.ins C dx fs)) ∧ sp [x] H Q E
theorem un_own (M : Meth X.K C "__neg__" f) (G : FnOk X.prog X.w X.K X.mg X.base CX k f fd ps sp) (room : Room k X.A) (bd : Binds X.K fd ps []) (out : Passes CX X E) : UnR X (unaryOp .USub) (rNeg C sp E) := by
  intro pins s σ H x v Q I rx h
  obtain ⟨⟨a, dx, fs, rfl, ha⟩, h⟩ := h
  cases (show v = Value.ref a from rx)
  obtain ⟨_, od, J⟩ := inst_of I ha
  obtain ⟨m, F⟩ := I.fr
  exact PySem.W.ksp_neg F I.ok.mod.kin J M.at_ M.fn (run_fn (ds := []) G room bd .nil out I (.cons (show L2.RelV (.ref a) (.ref a) from rfl) .nil) h)
end
section
variable {X : Cx} {CX : CXT} {k : Nat} {f C : Addr} {fd : FuncData} {ps : List Str} {sp : Sp} {ds : List Value} {E : XK}
/-- abs(a) by the class's own -/
def rAbsO (C : Addr) (sp : Sp) (E : XK) : List V → Hp → VK → Prop := fun xs H Q => ∃ a dx fs, xs = [.ref a] ∧ H a = some (.ins C dx fs) ∧ sp [.ref a] H Q E
/-- a def called where the frames are X's, one room further in -/
theorem run_in {B : Around} {pins : List (Addr × Obj)} {σ : L2.St} {H : Hp} {s : Shared} {Q : VK} {us : List Value} {vs : List V} (G : FnOk X.prog X.w X.K X.mg X.base CX k f fd ps sp) (room : Room k B) (fr : B.frames = X.A.frames) (bd : Binds X.K fd ps []) (out : Passes CX X E)
    (I : Inv X pins σ H s) (rel : Vals vs us) (h : sp vs H Q E) : wpAny (model X.prog X.w) B (call (.ref f) us) (EP X pins σ Q) X.xe s := by
  have n : us.length = ps.length := rel.length.symm.trans (G.len _ _ _ _ h)
  have bound := bd s us I.kIn (by rw [List.append_nil]; exact n)
  rw [List.append_nil] at bound
  have env := I.env0
  refine wpAny_call (codeAny_mono (G.run B X.stack s H ⟨us, []⟩ us vs Q E room ⟨fr.trans env.frames, env.mod, env.bs, env.bsz, env.funs, env.frf, env.hok, env.bare⟩ bound rel h) ?_)
  rintro (e | fl) s' back
  · exact out pins σ H s e s' I back
  · cases fl with
    | ret u => exact I.after back
    | next => exact back.elim
    | brk => exact back.elim
    | cont => exact back.elim
theorem call_absO (M : Meth X.K C "__abs__" f) (G : FnOk X.prog X.w X.K X.mg X.base CX k f fd ps sp) (room : Room (k + 1) X.A) (bd : Binds X.K fd ps []) (out : Passes CX X E) : CallR X (.builtin "abs") (rAbsO C sp E) := by
  intro pins s σ H xs us Q I r h
  obtain ⟨a, dx, fs, rfl, ha, h⟩ := h
  obtain ⟨u, rfl, rx⟩ := vals1 r
  cases (show u = Value.ref a from rx)
  obtain ⟨_, od, J⟩ := inst_of I ha
  refine PySem.Calls.call_function_entry PyProof.Rows.kind_abs PyProof.Rows.plain_abs PyProof.Rows.entry_abs (PyProof.Rows.args_abs _) ?_
  unfold Builtin.«abs»
  refine wpAny_bind (m := oneArg "abs" _) (wpAny_pure ?_)
  refine wpAny_bind (PySem.W.special_fn I.kIn J M.at_ (beq_iff_eq.mp M.fn) ?_)
  refine wpAny_mono (run_in (B := X.A.in1) G room.in1 rfl bd out I (.cons (show L2.RelV (.ref a) (.ref a) from rfl) .nil) h) (fun v s' z => ?_) fun _ _ z => z
  exact wpAny_pure ⟨_, rfl, z⟩
end

/-! ### methods and operators that may let an error out, wished for at the slots that stand -/
section
variable {X : Cx} {CX : CXT} {k : Nat} {f C : Addr} {fd : FuncData} {ps : List Str} {sp : Sp} {Ex : L2.St → XK}
def tMethT (C : Addr) (m : Str) (sp : Sp) (Ex : L2.St → XK) (ta : TE) (t : TA) : TE := fun τ H Q => ta τ H fun x H1 => ∃ a dx fs, x = .ref a ∧ H1 a = some (.ins C dx fs) ∧ fs.lookup m = none ∧ t τ H1 fun vs H2 => sp (.ref a :: vs) H2 Q (Ex τ)
theorem pe_methT {pl : Sem Bool} {m : Str} {o e : Expr} {es : List Expr} {apos pos : Pos} {ta : TE} {t : TA} (ho : PE X o ta) (c : Cls X.K C) (M : Meth X.K C m f) (G : FnOk X.prog X.w X.K X.mg X.base CX k f fd ps sp) (room : Room k X.A) (bd : Binds X.K fd ps [])
    (out : ∀ τ, PassesAt CX X τ (Ex τ)) (args : PA X (e :: es) t) (hst : starEach (e :: es) X.env = (false, eval e X.env) :: starEach es X.env := by rfl) (hpl : (backTo pos (starEach es X.env)).any (·.1) = false := by rfl)
    (ht : eval (.Call (.Attribute o m apos) (e :: es) [] pos) X.env = (do
      let w0 ← eval o X.env
      standAt apos.atName
      let (fn, fst) ← holding [w0] (getMethod w0 m pl)
      callWith pos fn fst (backTo pos (starEach (e :: es) X.env)) (backToKw pos (keywordEach [] X.env))) := by rfl) :
    PE X (.Call (.Attribute o m apos) (e :: es) [] pos) (tMethT C m sp Ex ta t) := by
  refine ⟨fun pn st τ H Q J h => PySem.W.methodCall_KW (pl := pl) (thn (ho.run pn st τ H _ J h) ?_) ht⟩
  rintro u s1 ⟨x, H1, J1, rx, a, dx, fs, rfl, ea, l, go⟩
  cases (show u = Value.ref a from rx)
  refine getmeth_ok J1 ea c M l (PySem.W.callWith_K (first := [.ref a]) (h₀ := X.base) J1.ok.mod.kin M.kp (thn (args.run pos pn s1 τ H1 _ J1 go) ?_) hst hpl)
  rintro us s2 ⟨vs, H2, J2, r, go2⟩
  exact ⟨J2.kIn, run_fnS (us := .ref a :: us) (vs := .ref a :: vs) G room bd (out τ) J2 (.cons (show L2.RelV (.ref a) (.ref a) from rfl) r) go2⟩
end

/-- x op y by the class's own operator, in a try's body -/
def tOwnT (C : Addr) (sp : Sp) (Ex : L2.St → XK) (ta tb : TE) : TE := fun τ H Q => ta τ H fun x H1 => tb τ H1 fun y H2 => rOwn C sp (Ex τ) x y H2 Q
section
variable {X : Cx} {CX : CXT} {k : Nat} {f C : Addr} {fd : FuncData} {ps : List Str} {sp : Sp} {Ex : L2.St → XK}
theorem own_at {op : Operator} {fo ro rc : Option Value} (M : Meth X.K C (dunder op.info.2) f) (first : PySem.W.selfFirst X.K C = true) (hr : PySem.W.findIn X.K (.ref C) (dunderR op.info.2) = some rc) (hp : rc = none ∨ ∃ g : Addr, rc = some (.ref g))
    (h1 : PySem.W.findIn X.K (.type "int") (dunder op.info.2) = some fo) (h2 : PySem.W.findIn X.K (.type "int") (dunderR op.info.2) = some ro) (hsub : PySem.W.subIn X.K (.type "int") (.ref C) = some false)
    (G : FnOk X.prog X.w X.K X.mg X.base CX k f fd ps sp) (room : Room k X.A) (bd : Binds X.K fd ps []) {τ : L2.St} (out : PassesAt CX X τ (Ex τ)) {pins : List (Addr × Obj)} {s : Shared} {H : Hp} {x y : V} {v u : Value} {Q : VK}
    (I : Inv X pins τ H s) (rx : RelV x v) (ry : RelV y u) (h : rOwn C sp (Ex τ) x y H Q) : wpAny (model X.prog X.w) X.A (binaryOp op v u) (EP X pins τ Q) X.xe s := by
  obtain ⟨⟨a, dx, fs, rfl, ha⟩, hy, h⟩ := h
  cases (show v = Value.ref a from rx)
  obtain ⟨_, od, J⟩ := inst_of I ha
  obtain ⟨m, F⟩ := I.fr
  have ran : wpAny (model X.prog X.w) X.A (call (.ref f) [.ref a, u]) (PySem.W.CmpBack (EP X pins τ Q)) X.xe s :=
    wpAny_mono (run_fnS G room bd out I (.cons (show L2.RelV (.ref a) (.ref a) from rfl) (.cons ry .nil)) h) (fun _ _ z => ep_back z) fun _ _ z => z
  rcases hy with ⟨b, dy, gs, rfl, hb⟩ | ⟨n, rfl⟩
  · cases (show u = Value.ref b from ry)
    obtain ⟨_, od', J'⟩ := inst_of I hb
    exact PySem.W.binop_K F I.ok.mod.kin J J'.type first M.at_ M.fn ran
  · obtain ⟨t, rfl⟩ := (show ∃ t, u = Value.int n t from ry)
    exact PySem.W.ksp_binT F I.ok.mod.kin J (T := "int") rfl first M.at_ M.fn hr hp h1 h2 hsub ran
end

/-! ### the operators one by one -/
section
variable {X : Cx} {CX : CXT} {k : Nat} {f C : Addr} {fd : FuncData} {ps : List Str} {sp : Sp} {E : XK}
theorem d_add : dunder Operator.Add.info.2 = ("__add__" : Str) := by decide +kernel
theorem dR_add : dunderR Operator.Add.info.2 = ("__radd__" : Str) := by decide +kernel
theorem op_own_Add (M : Meth X.K C "__add__" f) (first : PySem.W.selfFirst X.K C = true) (hr : ∃ rc : Option Value, PySem.W.findIn X.K (.ref C) "__radd__" = some rc ∧ (rc = none ∨ ∃ g : Addr, rc = some (.ref g)))
    (hi : ∃ fo ro : Option Value, PySem.W.findIn X.K (.type "int") "__add__" = some fo ∧ PySem.W.findIn X.K (.type "int") "__radd__" = some ro) (hsub : PySem.W.subIn X.K (.type "int") (.ref C) = some false)
    (G : FnOk X.prog X.w X.K X.mg X.base CX k f fd ps sp) (room : Room k X.A) (bd : Binds X.K fd ps []) (out : Passes CX X E) : OpR X (binaryOp .Add) (rOwn C sp E) := by
  obtain ⟨rc, e1, e2⟩ := hr
  obtain ⟨fo, ro, e3, e4⟩ := hi
  exact op_own (op := .Add) (by rw [d_add]; exact M) first (by rw [dR_add]; exact e1) e2 (by rw [d_add]; exact e3) (by rw [dR_add]; exact e4) hsub G room bd out
theorem d_sub : dunder Operator.Sub.info.2 = ("__sub__" : Str) := by decide +kernel
theorem dR_sub : dunderR Operator.Sub.info.2 = ("__rsub__" : Str) := by decide +kernel
theorem op_own_Sub (M : Meth X.K C "__sub__" f) (first : PySem.W.selfFirst X.K C = true) (hr : ∃ rc : Option Value, PySem.W.findIn X.K (.ref C) "__rsub__" = some rc ∧ (rc = none ∨ ∃ g : Addr, rc = some (.ref g)))
    (hi : ∃ fo ro : Option Value, PySem.W.findIn X.K (.type "int") "__sub__" = some fo ∧ PySem.W.findIn X.K (.type "int") "__rsub__" = some ro) (hsub : PySem.W.subIn X.K (.type "int") (.ref C) = some false)
    (G : FnOk X.prog X.w X.K X.mg X.base CX k f fd ps sp) (room : Room k X.A) (bd : Binds X.K fd ps []) (out : Passes CX X E) : OpR X (binaryOp .Sub) (rOwn C sp E) := by
  obtain ⟨rc, e1, e2⟩ := hr
  obtain ⟨fo, ro, e3, e4⟩ := hi
  exact op_own (op := .Sub) (by rw [d_sub]; exact M) first (by rw [dR_sub]; exact e1) e2 (by rw [d_sub]; exact e3) (by rw [dR_sub]; exact e4) hsub G room bd out
theorem d_mul : dunder Operator.Mult.info.2 = ("__mul__" : Str) := by decide +kernel
theorem dR_mul : dunderR Operator.Mult.info.2 = ("__rmul__" : Str) := by decide +kernel
theorem op_own_Mult (M : Meth X.K C "__mul__" f) (first : PySem.W.selfFirst X.K C = true) (hr : ∃ rc : Option Value, PySem.W.findIn X.K (.ref C) "__rmul__" = some rc ∧ (rc = none ∨ ∃ g : Addr, rc = some (.ref g)))
    (hi : ∃ fo ro : Option Value, PySem.W.findIn X.K (.type "int") "__mul__" = some fo ∧ PySem.W.findIn X.K (.type "int") "__rmul__" = some ro) (hsub : PySem.W.subIn X.K (.type "int") (.ref C) = some false)
    (G : FnOk X.prog X.w X.K X.mg X.base CX k f fd ps sp) (room : Room k X.A) (bd : Binds X.K fd ps []) (out : Passes CX X E) : OpR X (binaryOp .Mult) (rOwn C sp E) := by
  obtain ⟨rc, e1, e2⟩ := hr
  obtain ⟨fo, ro, e3, e4⟩ := hi
  exact op_own (op := .Mult) (by rw [d_mul]; exact M) first (by rw [dR_mul]; exact e1) e2 (by rw [d_mul]; exact e3) (by rw [dR_mul]; exact e4) hsub G room bd out
theorem d_floordiv : dunder Operator.FloorDiv.info.2 = ("__floordiv__" : Str) := by decide +kernel
theorem dR_floordiv : dunderR Operator.FloorDiv.info.2 = ("__rfloordiv__" : Str) := by decide +kernel
theorem op_own_FloorDiv (M : Meth X.K C "__floordiv__" f) (first : PySem.W.selfFirst X.K C = true) (hr : ∃ rc : Option Value, PySem.W.findIn X.K (.ref C) "__rfloordiv__" = some rc ∧ (rc = none ∨ ∃ g : Addr, rc = some (.ref g)))
    (hi : ∃ fo ro : Option Value, PySem.W.findIn X.K (.type "int") "__floordiv__" = some fo ∧ PySem.W.findIn X.K (.type "int") "__rfloordiv__" = some ro) (hsub : PySem.W.subIn X.K (.type "int") (.ref C) = some false)
    (G : FnOk X.prog X.w X.K X.mg X.base CX k f fd ps sp) (room : Room k X.A) (bd : Binds X.K fd ps []) (out : Passes CX X E) : OpR X (binaryOp .FloorDiv) (rOwn C sp E) := by
  obtain ⟨rc, e1, e2⟩ := hr
  obtain ⟨fo, ro, e3, e4⟩ := hi
  exact op_own (op := .FloorDiv) (by rw [d_floordiv]; exact M) first (by rw [dR_floordiv]; exact e1) e2 (by rw [d_floordiv]; exact e3) (by rw [dR_floordiv]; exact e4) hsub G room bd out
theorem d_mod : dunder Operator.Mod.info.2 = ("__mod__" : Str) := by decide +kernel
theorem dR_mod : dunderR Operator.Mod.info.2 = ("__rmod__" : Str) := by decide +kernel
theorem op_own_Mod (M : Meth X.K C "__mod__" f) (first : PySem.W.selfFirst X.K C = true) (hr : ∃ rc : Option Value, PySem.W.findIn X.K (.ref C) "__rmod__" = some rc ∧ (rc = none ∨ ∃ g : Addr, rc = some (.ref g)))
    (hi : ∃ fo ro : Option Value, PySem.W.findIn X.K (.type "int") "__mod__" = some fo ∧ PySem.W.findIn X.K (.type "int") "__rmod__" = some ro) (hsub : PySem.W.subIn X.K (.type "int") (.ref C) = some false)
    (G : FnOk X.prog X.w X.K X.mg X.base CX k f fd ps sp) (room : Room k X.A) (bd : Binds X.K fd ps []) (out : Passes CX X E) : OpR X (binaryOp .Mod) (rOwn C sp E) := by
  obtain ⟨rc, e1, e2⟩ := hr
  obtain ⟨fo, ro, e3, e4⟩ := hi
  exact op_own (op := .Mod) (by rw [d_mod]; exact M) first (by rw [dR_mod]; exact e1) e2 (by rw [d_mod]; exact e3) (by rw [dR_mod]; exact e4) hsub G room bd out
theorem op_ref_Add (M : Meth X.K C "__radd__" f) (first : PySem.W.selfFirst X.K C = true) (own : ∃ f0 : Addr, PySem.W.findIn X.K (.ref C) "__add__" = some (some (.ref f0))) (hsub : PySem.W.subIn X.K (.ref C) (.type "int") = some false)
    (G : FnOk X.prog X.w X.K X.mg X.base CX k f fd ps sp) (room : Room k X.A) (bd : Binds X.K fd ps []) (out : Passes CX X E) : OpR X (binaryOp .Add) (rRef C sp E) := by
  obtain ⟨f0, e1⟩ := own
  exact op_ref (op := .Add) (by rw [dR_add]; exact M) first (by rw [d_add]; exact e1) hsub PySem.F.slot_int_add PySem.F.entry_int_add PySem.F.args_int_add_2 (by kernel_rfl) G room bd out
theorem op_ref_Sub (M : Meth X.K C "__rsub__" f) (first : PySem.W.selfFirst X.K C = true) (own : ∃ f0 : Addr, PySem.W.findIn X.K (.ref C) "__sub__" = some (some (.ref f0))) (hsub : PySem.W.subIn X.K (.ref C) (.type "int") = some false)
    (G : FnOk X.prog X.w X.K X.mg X.base CX k f fd ps sp) (room : Room k X.A) (bd : Binds X.K fd ps []) (out : Passes CX X E) : OpR X (binaryOp .Sub) (rRef C sp E) := by
  obtain ⟨f0, e1⟩ := own
  exact op_ref (op := .Sub) (by rw [dR_sub]; exact M) first (by rw [d_sub]; exact e1) hsub PySem.F.slot_int_sub PySem.F.entry_int_sub PySem.F.args_int_sub_2 (by kernel_rfl) G room bd out
theorem op_ref_Mult (M : Meth X.K C "__rmul__" f) (first : PySem.W.selfFirst X.K C = true) (own : ∃ f0 : Addr, PySem.W.findIn X.K (.ref C) "__mul__" = some (some (.ref f0))) (hsub : PySem.W.subIn X.K (.ref C) (.type "int") = some false)
    (G : FnOk X.prog X.w X.K X.mg X.base CX k f fd ps sp) (room : Room k X.A) (bd : Binds X.K fd ps []) (out : Passes CX X E) : OpR X (binaryOp .Mult) (rRef C sp E) := by
  obtain ⟨f0, e1⟩ := own
  exact op_ref (op := .Mult) (by rw [dR_mul]; exact M) first (by rw [d_mul]; exact e1) hsub PySem.F.slot_int_mul PySem.F.entry_int_mul PySem.F.args_int_mul_2 (by kernel_rfl) G room bd out
end
section
variable {X : Cx} {CX : CXT} {k : Nat} {f C : Addr} {fd : FuncData} {ps : List Str} {sp : Sp} {Ex : L2.St → XK} {a b : Expr} {ta tb : TE} {pos : Pos}
theorem pe_ownT_FloorDiv (M : Meth X.K C "__floordiv__" f) (first : PySem.W.selfFirst X.K C = true) (hr : ∃ rc : Option Value, PySem.W.findIn X.K (.ref C) "__rfloordiv__" = some rc ∧ (rc = none ∨ ∃ g : Addr, rc = some (.ref g)))
    (hi : ∃ fo ro : Option Value, PySem.W.findIn X.K (.type "int") "__floordiv__" = some fo ∧ PySem.W.findIn X.K (.type "int") "__rfloordiv__" = some ro) (hsub : PySem.W.subIn X.K (.type "int") (.ref C) = some false)
    (G : FnOk X.prog X.w X.K X.mg X.base CX k f fd ps sp) (room : Room k X.A) (bd : Binds X.K fd ps []) (out : ∀ τ, PassesAt CX X τ (Ex τ)) (ha : PE X a ta) (hb : PE X b tb) : PE X (.BinOp a .FloorDiv b pos) (tOwnT C sp Ex ta tb) := by
  obtain ⟨rc, e1, e2⟩ := hr
  obtain ⟨fo, ro, e3, e4⟩ := hi
  refine ⟨fun pn st τ H Q J h => wpAny_BinOp (binT ha hb J h fun v u s2 x y H2 J2 rx ry go => ?_)⟩
  exact own_at (op := .FloorDiv) (by rw [d_floordiv]; exact M) first (by rw [dR_floordiv]; exact e1) e2 (by rw [d_floordiv]; exact e3) (by rw [dR_floordiv]; exact e4) hsub G room bd (out τ) J2 rx ry go
theorem pe_ownT_Mod (M : Meth X.K C "__mod__" f) (first : PySem.W.selfFirst X.K C = true) (hr : ∃ rc : Option Value, PySem.W.findIn X.K (.ref C) "__rmod__" = some rc ∧ (rc = none ∨ ∃ g : Addr, rc = some (.ref g)))
    (hi : ∃ fo ro : Option Value, PySem.W.findIn X.K (.type "int") "__mod__" = some fo ∧ PySem.W.findIn X.K (.type "int") "__rmod__" = some ro) (hsub : PySem.W.subIn X.K (.type "int") (.ref C) = some false)
    (G : FnOk X.prog X.w X.K X.mg X.base CX k f fd ps sp) (room : Room k X.A) (bd : Binds X.K fd ps []) (out : ∀ τ, PassesAt CX X τ (Ex τ)) (ha : PE X a ta) (hb : PE X b tb) : PE X (.BinOp a .Mod b pos) (tOwnT C sp Ex ta tb) := by
  obtain ⟨rc, e1, e2⟩ := hr
  obtain ⟨fo, ro, e3, e4⟩ := hi
  refine ⟨fun pn st τ H Q J h => wpAny_BinOp (binT ha hb J h fun v u s2 x y H2 J2 rx ry go => ?_)⟩
  exact own_at (op := .Mod) (by rw [d_mod]; exact M) first (by rw [dR_mod]; exact e1) e2 (by rw [d_mod]; exact e3) (by rw [dR_mod]; exact e4) hsub G room bd (out τ) J2 rx ry go
end

/-! ### x op y where x is an int or an instance, y an instance (or, behind an instance, an int) -/
section
variable {X : Cx} {CX : CXT} {k j : Nat} {f g C : Addr} {fd gd : FuncData} {ps qs : List Str} {sp sq : Sp} {E : XK}
def rAny (C : Addr) (sp sq : Sp) (E : XK) : R2 := fun x y H Q => rOwn C sp E x y H Q ∨ rRef C sq E x y H Q
theorem op_any_Add (M : Meth X.K C "__add__" f) (N : Meth X.K C "__radd__" g) (first : PySem.W.selfFirst X.K C = true) (hi : ∃ fo ro : Option Value, PySem.W.findIn X.K (.type "int") "__add__" = some fo ∧ PySem.W.findIn X.K (.type "int") "__radd__" = some ro)
    (si : PySem.W.subIn X.K (.type "int") (.ref C) = some false) (sr : PySem.W.subIn X.K (.ref C) (.type "int") = some false) (G : FnOk X.prog X.w X.K X.mg X.base CX k f fd ps sp) (G2 : FnOk X.prog X.w X.K X.mg X.base CX j g gd qs sq)
    (room : Room k X.A) (room2 : Room j X.A) (bd : Binds X.K fd ps []) (bd2 : Binds X.K gd qs []) (out : Passes CX X E) : OpR X (binaryOp .Add) (rAny C sp sq E) := by
  intro pins s σ H x y v u Q I rx ry h
  rcases h with h | h
  · exact op_own_Add M first ⟨_, N.at_, .inr ⟨_, rfl⟩⟩ hi si G room bd out pins s σ H x y v u Q I rx ry h
  · exact op_ref_Add N first ⟨_, M.at_⟩ sr G2 room2 bd2 out pins s σ H x y v u Q I rx ry h
theorem op_any_Sub (M : Meth X.K C "__sub__" f) (N : Meth X.K C "__rsub__" g) (first : PySem.W.selfFirst X.K C = true) (hi : ∃ fo ro : Option Value, PySem.W.findIn X.K (.type "int") "__sub__" = some fo ∧ PySem.W.findIn X.K (.type "int") "__rsub__" = some ro)
    (si : PySem.W.subIn X.K (.type "int") (.ref C) = some false) (sr : PySem.W.subIn X.K (.ref C) (.type "int") = some false) (G : FnOk X.prog X.w X.K X.mg X.base CX k f fd ps sp) (G2 : FnOk X.prog X.w X.K X.mg X.base CX j g gd qs sq)
    (room : Room k X.A) (room2 : Room j X.A) (bd : Binds X.K fd ps []) (bd2 : Binds X.K gd qs []) (out : Passes CX X E) : OpR X (binaryOp .Sub) (rAny C sp sq E) := by
  intro pins s σ H x y v u Q I rx ry h
  rcases h with h | h
  · exact op_own_Sub M first ⟨_, N.at_, .inr ⟨_, rfl⟩⟩ hi si G room bd out pins s σ H x y v u Q I rx ry h
  · exact op_ref_Sub N first ⟨_, M.at_⟩ sr G2 room2 bd2 out pins s σ H x y v u Q I rx ry h
theorem op_any_Mult (M : Meth X.K C "__mul__" f) (N : Meth X.K C "__rmul__" g) (first : PySem.W.selfFirst X.K C = true) (hi : ∃ fo ro : Option Value, PySem.W.findIn X.K (.type "int") "__mul__" = some fo ∧ PySem.W.findIn X.K (.type "int") "__rmul__" = some ro)
    (si : PySem.W.subIn X.K (.type "int") (.ref C) = some false) (sr : PySem.W.subIn X.K (.ref C) (.type "int") = some false) (G : FnOk X.prog X.w X.K X.mg X.base CX k f fd ps sp) (G2 : FnOk X.prog X.w X.K X.mg X.base CX j g gd qs sq)
    (room : Room k X.A) (room2 : Room j X.A) (bd : Binds X.K fd ps []) (bd2 : Binds X.K gd qs []) (out : Passes CX X E) : OpR X (binaryOp .Mult) (rAny C sp sq E) := by
  intro pins s σ H x y v u Q I rx ry h
  rcases h with h | h
  · exact op_own_Mult M first ⟨_, N.at_, .inr ⟨_, rfl⟩⟩ hi si G room bd out pins s σ H x y v u Q I rx ry h
  · exact op_ref_Mult N first ⟨_, M.at_⟩ sr G2 room2 bd2 out pins s σ H x y v u Q I rx ry h
end

/-! ### sum(xs, start=x) of own instances -/
theorem args_sumk (a v : Value) : argsOk "sum" ⟨[a], [(Str.ofString "start", v)]⟩ := by unfold argsOk; kernel_rfl
section
variable {prog : Program} {w : World} {A : Around} {E : Value → Shared → Prop} {s : Shared}
/-- a built-in with keywords that goes on by itself -/
theorem call_tree_kw {id : String} {b : Builtin} {args : List Value} {kw : List (Str × Value)} {Q : Value → Shared → Prop} (hk : builtinKind id = none) (hp : plainId id = true)
    (hb : entryFor table id = some b) (ha : argsOk id ⟨args, kw⟩)
    (hc : wpAny (model prog w) A.in1 (b ⟨args, kw⟩) (fun fin s' => match fin with
      | .done f => (match (Except.ok f : Result) with | .ok (.ret v) => Q v s' | .ok _ => False | .error e => E e s')
      | .again c' => c'.quiet = true ∧ codeAny (model prog w) A c' (fun r s' => match r with | .ok (.ret v) => Q v s' | .ok _ => False | .error e => E e s') s') E s) :
    wpAny (model prog w) A (call (.builtin id) args kw) Q E s := by
  refine wpAny_call (codeAny_call_builtin hp hb ?_)
  simp only [checkBuiltinCall, hk]
  cases hsig : Manifest.signature? id with
  | none => exact wpAny_pure hc
  | some sig =>
    simp only [argsOk, hsig] at ha
    have h2 : Bind.checkArgs id sig ⟨args, kw⟩ = pure () := ha
    show wpAny _ A.in1 (Bind.checkArgs id sig ⟨args, kw⟩) _ _ s
    rw [h2]; exact wpAny_pure hc
end
/-- what the top has written of a class whose instances are added up -/
structure SumC (K : PySem.W.Frag) (C : Addr) : Prop where
  str : PySem.W.subIn K (.ref C) (.type "str") = some false
  byt : PySem.W.subIn K (.ref C) (.type "bytes") = some false
  bya : PySem.W.subIn K (.ref C) (.type "bytearray") = some false
  fst : PySem.W.selfFirst K C = true
/-- sum(xs, start=x0); Iv: what holds of the sum by the number of items that are in it -/
def rSumO (K : PySem.W.Frag) (C : Addr) (sp : Sp) : List V → List V → Hp → VK → Prop := fun vs zs H Q => ∃ (l : Addr) (xs : List V) (x0 : V) (Iv : Nat → V → Hp → Prop), vs = [.ref l] ∧ zs = [x0] ∧ Iv 0 x0 H ∧
  (∀ i x H', Iv i x H' → SqL K H' l xs ∧ ∃ a dx fs, x = .ref a ∧ H' a = some (.ins C dx fs)) ∧
  (∀ i x y H', Iv i x H' → xs[i]? = some y → (∃ b dy gs, y = .ref b ∧ H' b = some (.ins C dy gs)) ∧ sp [x, y] H' (fun z H2 => Iv (i + 1) z H2) E0) ∧ (∀ x H', Iv xs.length x H' → Q x H')
section
variable {X : Cx} {CX : CXT} {k : Nat} {f C : Addr} {fd : FuncData} {ps : List Str} {sp : Sp}
/-- what of an object that stands beside the frame does not change -/
def Beside (X : Cx) (pins : List (Addr × Obj)) (b : Addr) : Prop := b ≠ X.env.locals ∧ b ∉ X.fs ∧ (b ∈ X.ex ∨ X.s_0.heap.objs.size ≤ b) ∧ (∀ x c, X.env.cells.lookup x = some c → c ≠ b) ∧ ∀ p ∈ X.pn ++ pins, p.1 ≠ b
theorem Beside.of_new {pins : List (Addr × Obj)} {σ : L2.St} {H : Hp} {s : Shared} {b : Addr} (I : Inv X pins σ H s) (hb : s.heap.objs.size ≤ b) : Beside X pins b := (I.fpOk hb (I.hok.fresh hb)).2
theorem inv_beside {pins : List (Addr × Obj)} {σ : L2.St} {H : Hp} {s : Shared} {b : Addr} {h' : Heap} {t' : Nat} (I : Inv X pins σ H s) (B : Beside X pins b) (n : H b = none) (k : ∀ c o, c ≠ b → s.heap.get? c = some o → h'.get? c = some o) :
    Inv X pins σ H { s with heap := h', toks := t' } := I.turned k n B.1 B.2.2.1 B.2.2.2.1 B.2.2.2.2
theorem pin_two {pins : List (Addr × Obj)} {σ : L2.St} {H : Hp} {s : Shared} {a b : Addr} {oa ob : Obj} (I : Inv X pins σ H s) (ha : s.heap.get? a = some oa) (hb : s.heap.get? b = some ob) (na : H a = none) (nb : H b = none) (Ba : Beside X pins a) (Bb : Beside X pins b) (ca : ∀ v, oa.data ≠ .cell v) (cb : ∀ v, ob.data ≠ .cell v) :
    Inv X ((a, oa) :: (b, ob) :: pins) σ H s := by
  refine I.pins_of fun p hp => ?_
  rcases List.mem_cons.mp hp with e | e
  · subst e
    exact ⟨ha, na, Ba.1, Ba.2.1, ca⟩
  rcases List.mem_cons.mp e with e | e
  · subst e
    exact ⟨hb, nb, Bb.1, Bb.2.1, cb⟩
  · exact I.pin p (List.mem_append_right _ e)
/-- x + y where the frames are X's and nothing is raised -/
theorem add_in {B : Around} {E : Value → Shared → Prop} {pins : List (Addr × Obj)} {σ : L2.St} {H : Hp} {s : Shared} {Q : VK} {a b dx dy : Addr} {fs gs : List (Str × V)} (M : Meth X.K C "__add__" f) (first : PySem.W.selfFirst X.K C = true)
    (out : ∀ E, Passes CX (X.wish E) E0) (G : FnOk X.prog X.w X.K X.mg X.base CX k f fd ps sp) (room : Room k B) (fr : B.frames = X.A.frames) (bd : Binds X.K fd ps []) (I : Inv X pins σ H s) (ha : H a = some (.ins C dx fs)) (hb : H b = some (.ins C dy gs)) (h : sp [.ref a, .ref b] H Q E0) :
    wpAny (model X.prog X.w) B (binaryOp .Add (.ref a) (.ref b)) (EP X pins σ Q) E s := by
  obtain ⟨_, od, J⟩ := inst_of I ha
  obtain ⟨_, od', J'⟩ := inst_of I hb
  obtain ⟨m, F⟩ := I.fr
  have ran : wpAny (model X.prog X.w) B (call (.ref f) [.ref a, .ref b]) (PySem.W.CmpBack (EP X pins σ Q)) E s :=
    wpAny_mono (run_in (X := X.wish E) (B := B) G room fr bd (out E) (I.wish E) (.cons (show L2.RelV (.ref a) (.ref a) from rfl) (.cons (show L2.RelV (.ref b) (.ref b) from rfl) .nil)) h)
      (fun _ _ ⟨v, H', J, r, q⟩ => ep_back ⟨v, H', J.unwish, r, q⟩) fun _ _ z => z
  exact PySem.W.binop_K F I.ok.mod.kin J J'.type first (by rw [d_add]; exact M.at_) M.fn ran
theorem sum_go {B : Around} {pins : List (Addr × Obj)} {σ : L2.St} {l it S : Addr} {xs : List V} {Iv : Nat → V → Hp → Prop} {Q : VK} {R : Result → Shared → Prop} (M : Meth X.K C "__add__" f) (first : PySem.W.selfFirst X.K C = true) (hh : B.handled = none)
    (out : ∀ E, Passes CX (X.wish E) E0) (G : FnOk X.prog X.w X.K X.mg X.base CX k f fd ps sp) (room : Room k B.in1) (fr : B.frames = X.A.frames) (bd : Binds X.K fd ps []) (Bi : Beside X pins it) (BS : Beside X pins S) (ne : it ≠ S)
    (inv : ∀ i x H', Iv i x H' → SqL X.K H' l xs ∧ ∃ a dx fs, x = .ref a ∧ H' a = some (.ins C dx fs))
    (step : ∀ i x y H', Iv i x H' → xs[i]? = some y → (∃ b dy gs, y = .ref b ∧ H' b = some (.ins C dy gs)) ∧ sp [x, y] H' (fun z H2 => Iv (i + 1) z H2) E0) (last : ∀ x H', Iv xs.length x H' → Q x H')
    (hR : ∀ u s', EP X pins σ Q u s' → R (.ok (.ret u)) s') :
    ∀ (m i : Nat) (s : Shared) (H : Hp) (x : V) (v : Value) (c : Nat), xs.length - i = m → i ≤ xs.length → Inv X pins σ H s → s.heap.IsListIter it l i → H it = none → H S = none → s.heap.get? S = some { cls := .type "list", dict := none, data := .seq #[v] c, slots := #[] } →
      Iv i x H → RelV x v → codeAny (model X.prog X.w) B (.builtin "sum.loop" ⟨[.ref it, .ref S, rawInt 2, rawInt 0], []⟩) R s := by
  intro m
  induction m with
  | zero =>
    intro i s H x v c hm hi I st ni nS hS iv rv
    obtain ⟨hl, a, dx, fs, rfl, ha⟩ := inv i x H iv
    obtain ⟨its, rvs, p, hz⟩ := I.list hl
    cases (show v = Value.ref a from rv)
    have e : i = xs.length := by omega
    subst e
    refine codeAny_builtin F.entry_sum_loop ?_
    rw [Around.under_plainId F.plain_sum_loop _]
    show wpAny _ B.in1 (seqItems? (.ref S) >>= _) _ _ s
    refine wpAny_bind (wpAny_seqItems hS rfl ?_)
    show wpAny _ B.in1 (tryCatch (pyNext (.ref it)) _ >>= _) _ _ s
    have hlen := rvs.length
    refine wpAny_bind (wpAny_tryCatch (wpAny_pyNext_list_end hh st p.isList (by simp; omega) fun h' eb => ?_))
    exact wpAny_pure (hR _ _ ⟨.ref a, H, inv_beside (t' := s.toks) I Bi ni fun b o hb e => eb b o hb e, rfl, last _ _ iv⟩)
  | succ m ih =>
    intro i s H x v c hm hi I st ni nS hS iv rv
    obtain ⟨hl, a, dx, fs, rfl, ha⟩ := inv i x H iv
    obtain ⟨its, rvs, p, hz⟩ := I.list hl
    cases (show v = Value.ref a from rv)
    have lt : i < xs.length := by omega
    obtain ⟨y, hy⟩ : ∃ y, xs[i]? = some y := ⟨_, List.getElem?_eq_getElem lt⟩
    obtain ⟨u, hu, ru⟩ := rvs.get hy
    obtain ⟨⟨b, dy, gs, rfl, hb⟩, go⟩ := step i _ y H iv hy
    cases (show u = Value.ref b from ru)
    refine codeAny_builtin F.entry_sum_loop ?_
    rw [Around.under_plainId F.plain_sum_loop _]
    show wpAny _ B.in1 (seqItems? (.ref S) >>= _) _ _ s
    refine wpAny_bind (wpAny_seqItems hS rfl ?_)
    show wpAny _ B.in1 (tryCatch (pyNext (.ref it)) _ >>= _) _ _ s
    refine wpAny_bind (wpAny_tryCatch (wpAny_pyNext_list_item st p.isList (x := .ref b) (by simpa using hu) fun h' st' sb => ?_))
    show wpAny _ B.in1 ((holding [Value.ref b] (binaryOp .Add (.ref a) (.ref b))).attempt >>= _) _ _ _
    have I1 : Inv X pins σ H { s with heap := h' } := inv_beside (t' := s.toks) I Bi ni fun b o hb e => (sb.2 b hb).trans e
    have hS1 : h'.get? S = some { cls := .type "list", dict := none, data := .seq #[Value.ref a] c, slots := #[] } := (sb.2 S (Ne.symm ne)).trans hS
    obtain ⟨oi, hoi, hci, hdi⟩ := id st'
    have I2 := pin_two I1 hoi hS1 ni nS Bi BS (fun v z => by rw [hdi] at z; cases z) (fun v z => by cases z)
    refine wpAny_bind (wpAny_attempt (wpAny_holding (wpAny_mono (add_in M first out G room fr bd I2 ha hb go) (fun z s3 back => ?_) fun _ _ z => z)))
    obtain ⟨zv, H3, I3, rz, iv3⟩ := back
    have hi3 := pin_at I3
    have n3 := ClX.pin_un I3
    have I4 := ClX.unpin I3
    have hS3 := pin_at I4
    have nS3 := ClX.pin_un I4
    have I5 := ClX.unpin I4
    have it3 : s3.heap.IsListIter it l (i + 1) := ⟨oi, hi3, hci, hdi⟩
    show wpAny _ B.in1 (updateSeq S (fun _ => #[z]) >>= _) _ _ _
    refine wpAny_bind (wpAny_updateSeq hS3 rfl ?_)
    have hS4 := Heap.get?_update_self (Obj.mapSeq fun _ => #[z]) hS3 rfl
    refine wpAny_bind (wpAny_letGo ?_)
    refine wpAny_bind (wpAny_updateSeq hS4 rfl (wpAny_pure ⟨plainId_quiet F.plain_sum_loop _, ?_⟩))
    have kp : ∀ b o, b ≠ S → s3.heap.get? b = some o → ((s3.heap.update S (Obj.mapSeq fun _ => #[z])).update S (Obj.mapSeq fun _ => #[z])).get? b = some o := fun b o hb e =>
      (Heap.get?_update_other _ _ (Ne.symm hb)).trans ((Heap.get?_update_other _ _ (Ne.symm hb)).trans e)
    have I6 := inv_beside (t' := s3.toks) I5 BS nS3 kp
    exact ih (i + 1) _ H3 zv z _ (by omega) lt I6 ⟨oi, kp it oi ne hi3, hci, hdi⟩ n3 nS3 (Heap.get?_update_self _ hS4 rfl) iv3 rz
/-- sum(xs, start=x0) of instances of a class with an own __add__ -/
theorem cr_sumO (S : SumC X.K C) (M : Meth X.K C "__add__" f) (hc : X.calm = true) (out : ∀ E, Passes CX (X.wish E) E0) (G : FnOk X.prog X.w X.K X.mg X.base CX k f fd ps sp) (room : Room (k + 1) X.A) (bd : Binds X.K fd ps []) : CallRK X (.builtin "sum") [Str.ofString "start"] (rSumO X.K C sp) := by
  intro pins s σ H vs zs us ws Q I r rz h
  obtain ⟨l, xs, x0, Iv, rfl, rfl, iv0, inv, step, last⟩ := h
  obtain rfl := Vals.ref1 r
  obtain ⟨w1, rfl, e1⟩ := vals1 rz
  obtain ⟨hl, a, dx, fs, rfl, ha⟩ := inv 0 x0 H iv0
  cases (show w1 = Value.ref a from e1)
  obtain ⟨its, rvs, p, hz⟩ := I.list hl
  show wpAny _ _ (call (.builtin "sum") [.ref l] [(Str.ofString "start", .ref a)]) _ _ _
  refine call_tree_kw F.kind_sum F.plain_sum F.entry_sum (args_sumk _ _) ?_
  unfold Builtin.«sum»
  simp only [List.length_cons, List.length_nil]
  rw [if_neg (by decide)]
  refine wpAny_bind (wpAny_of_eq (show Builtin.Builtins.bindParams "sum" ["start"] 0 ⟨[], [(Str.ofString "start", Value.ref a)]⟩ = pure [some (Value.ref a)] from by kernel_rfl) ?_)
  refine wpAny_bind (wpAny_pyIter_list p.isList ?_)
  have I1 : Inv X pins σ H { s with heap := s.heap.push { cls := .type "list_iterator", data := .fields #[.ref l, .int 0 0] } } := I.kept (t' := s.toks) fun b o e => Heap.get?_push_of_some _ e
  obtain ⟨_, od, J⟩ := inst_of I1 ha
  refine wpAny_bind (wpAny_pure ?_)
  simp only [List.forIn_cons, List.forIn_nil]
  refine wpAny_bind (wpAny_bind (wpAny_bind ((show PySem.W.Looks (model X.prog X.w) _ (isInstance (.ref a) (.type "str")) false from J.type.andThen (PySem.W.looks_subIn I1.kIn S.str)).here ?_)))
  simp only [Bool.false_eq_true, if_false]
  refine wpAny_pure (wpAny_bind (wpAny_bind ((show PySem.W.Looks (model X.prog X.w) _ (isInstance (.ref a) (.type "bytes")) false from J.type.andThen (PySem.W.looks_subIn I1.kIn S.byt)).here ?_)))
  simp only [Bool.false_eq_true, if_false]
  refine wpAny_pure (wpAny_bind (wpAny_bind ((show PySem.W.Looks (model X.prog X.w) _ (isInstance (.ref a) (.type "bytearray")) false from J.type.andThen (PySem.W.looks_subIn I1.kIn S.bya)).here ?_)))
  simp only [Bool.false_eq_true, if_false]
  refine wpAny_pure (wpAny_pure ?_)
  refine wpAny_bind (wpAny_newObj_type ?_)
  have sz : (s.heap.push { cls := .type "list_iterator", data := .fields #[.ref l, .int 0 0] }).objs.size = s.heap.objs.size + 1 := size_push' _ _
  have Bi := Beside.of_new I (Nat.le_refl s.heap.objs.size)
  have BS := Beside.of_new I (b := s.heap.objs.size + 1) (Nat.le_succ _)
  have n1 := I.hok.fresh (Nat.le_refl s.heap.objs.size)
  have n2 := I.hok.fresh (Nat.le_succ s.heap.objs.size)
  refine wpAny_pure ⟨plainId_quiet F.plain_sum_loop _, ?_⟩
  rw [show (s.heap.push { cls := .type "list_iterator", data := .fields #[.ref l, .int 0 0] }).objs.size = s.heap.objs.size + 1 from sz]
  refine sum_go (Q := Q) (Iv := Iv) M S.fst (I.ok.hd hc) out G room.in1 rfl bd Bi BS (Nat.ne_of_lt (Nat.lt_succ_self _)) inv step last (fun u s' z => z) xs.length 0 _ H (.ref a) (.ref a) 0 (by omega) (Nat.zero_le _)
    (I1.kept (t' := s.toks) fun b o e => Heap.get?_push_of_some _ e) ⟨_, Heap.get?_push_of_some _ (Heap.get?_push_size _ rfl), rfl, rfl⟩ n1 n2 ?_ iv0 rfl
  show ((s.heap.push { cls := .type "list_iterator", data := .fields #[.ref l, .int 0 0] }).push ({ cls := .type "list", dict := none, data := .seq #[Value.ref a] 0, slots := #[] } : Obj)).get? (s.heap.objs.size + 1) = _
  rw [← sz]
  exact Heap.get?_push_size _ rfl
end

/-! ### t[::-1] of a tuple -/
section
variable {prog : Program} {w : World} {A : Around} {E : Value → Shared → Prop} {s : Shared}
theorem places_rev (n : Nat) : Builtin.Slice.slicePlaces ((n : Int) - 1) (-1) (-1) = n := by
  unfold Builtin.Slice.slicePlaces
  have h1 : ¬ ((-1 : Int) > 0) := by omega
  have h2 : (- -1 : Int) = 1 := by decide
  simp only [h1, if_false, h2, Int.ediv_one]
  split <;> omega
theorem sliceApplied_rev {sl : Addr} {vl vu vs : Value} {n : Nat} {Q : Int × Int × Nat → Shared → Prop} (hs : s.heap.IsSliceOf sl vl vu vs) (pl : IsPart vl none) (pu : IsPart vu none) (ps : IsPart vs (some (-1)))
    (h : Q ((n : Int) - 1, -1, n) s) : wpAny (model prog w) A (Builtin.Slice.sliceApplied (.ref sl) (pure (n : Int))) Q E s := by
  obtain ⟨os, hos, hcs, hds⟩ := id hs
  unfold Builtin.Slice.sliceApplied Builtin.Slice.sliceFields
  refine wpAny_bind (wpAny_bind (wpAny_field hos hds (x := vl) rfl (wpAny_bind (wpAny_field hos hds (x := vu) rfl (wpAny_bind (wpAny_field hos hds (x := vs) rfl (wpAny_pure ?_)))))))
  refine wpAny_bind (HT.slicePart_ ps ?_)
  show wpAny _ _ (if ((-1 : Int) == 0) = true then _ else _) _ _ s
  rw [if_neg (by decide)]
  refine wpAny_bind (HT.slicePart_ pl (wpAny_bind (HT.slicePart_ pu (wpAny_bind (wpAny_pure ?_)))))
  show wpAny _ _ (pure ((n : Int) - 1, (-1 : Int), Builtin.Slice.slicePlaces ((n : Int) - 1) (-1) (-1))) _ _ s
  rw [places_rev]
  exact wpAny_pure h
theorem fm_congr {α β : Type} {f g : α → Option β} : ∀ {l : List α}, (∀ x ∈ l, f x = g x) → l.filterMap f = l.filterMap g
  | [], _ => rfl
  | x :: r, h => by
    rw [List.filterMap_cons, List.filterMap_cons, h x List.mem_cons_self, fm_congr fun y hy => h y (List.mem_cons_of_mem _ hy)]
theorem pick_rev (xs : Array Value) : ((List.range xs.size).filterMap fun (m : Nat) => xs[((xs.size : Int) - 1 + (m : Int) * -1).toNat]?).toArray = xs.toList.reverse.toArray := by
  have e : (List.range xs.size).filterMap (fun (m : Nat) => xs[((xs.size : Int) - 1 + (m : Int) * -1).toNat]?) = ((List.range xs.size).map fun k => xs.size - 1 - k).filterMap (xs[·]?) := by
    rw [List.filterMap_map]
    refine fm_congr ?_
    intro m hm
    have := List.mem_range.mp hm
    show xs[((xs.size : Int) - 1 + (m : Int) * -1).toNat]? = xs[xs.size - 1 - m]?
    congr 1
    omega
  rw [e, PySem.W.krv_range, List.filterMap_reverse, PySem.W.krv_all]
theorem getItem_tuple_rev {t sl : Addr} {items : Array Value} {vl vu vs : Value} {Q : Value → Shared → Prop} (ht : IsTup s.heap t items) (hs : s.heap.IsSliceOf sl vl vu vs) (pl : IsPart vl none) (pu : IsPart vu none) (ps : IsPart vs (some (-1)))
    (h : Q (.ref s.heap.objs.size) { s with heap := s.heap.push { cls := .type "tuple", data := .seq items.toList.reverse.toArray } }) (hsz : items.size ≤ sizeLine) : wpAny (model prog w) A (getItem (.ref t) (.ref sl)) Q E s := by
  have htake : sizeOk (.seq items.toList.reverse.toArray) := by
    show items.toList.reverse.toArray.size ≤ sizeLine
    rw [List.size_toArray, List.length_reverse, Array.length_toList]
    exact hsz
  obtain ⟨os, hos, hcs, hds⟩ := id hs
  have hTs : s.TypeIs (.ref sl) "slice" := ⟨os, hos, hcs⟩
  unfold getItem
  try with_reducible refine wpAny_holding ?_
  first | refine wpAny_bind (wpAny_pure ?_) | skip
  refine wpAny_bind (wpAny_sequenceKey ht.typeIs (by decide) ?_)
  refine wpAny_bind (wpAny_callSpecial?_slot (name := Str.ofString "__getitem__") ht.typeIs PyProof.Rows.slot_tuple_getitem
    (wpAny_call_entry PyProof.Rows.slot_tuple_getitem ht.typeIs entry_tuple_getitem ?_ (args_tuple_getitem _ _)))
  show wpAny _ _ (Builtin.Tuple.tupleItemsOf (.ref t) >>= _) _ _ s
  refine wpAny_bind (tupleItemsOf_ ht ?_)
  refine wpAny_bind (wpAny_typeOf hTs ?_)
  rw [if_pos (by decide)]
  refine wpAny_bind (sliceApplied_rev hs pl pu ps ?_)
  have hno : ¬ ((((items.size : Int) - 1) == 0 && (-1 : Int) == 1 && items.size == items.size) = true) := by
    intro q
    rw [Bool.and_eq_true, Bool.and_eq_true] at q
    exact absurd q.1.2 (by decide)
  show wpAny _ _ (if (((items.size : Int) - 1) == 0 && (-1 : Int) == 1 && items.size == items.size) = true then _ else _) _ _ s
  rw [if_neg hno, pick_rev]
  first
    | exact wpAny_bind (m := Builtin.Tuple.tupleExact _) (wpAny_newObj_type (wpAny_pure ⟨_, rfl, wpAny_pure h⟩) htake)
    | exact wpAny_bind (m := Builtin.Tuple.tupleExact _) (wpAny_newObj_type (wpAny_bind (wpAny_pure (wpAny_pure ⟨_, rfl, wpAny_pure h⟩))) htake)
    | exact wpAny_bind (wpAny_bind (m := Builtin.Tuple.tupleExact _) (wpAny_newObj_type (wpAny_pure (wpAny_pure ⟨_, rfl, wpAny_pure h⟩)) htake))
    | exact wpAny_bind (wpAny_bind (m := Builtin.Tuple.tupleExact _) (wpAny_newObj_type (wpAny_pure ⟨_, rfl, wpAny_pure h⟩) htake))
end
section
variable {X : Cx}
def tRevT (K : PySem.W.Frag) (te : TE) : TE := fun σ H Q => te σ H fun x H1 => ∃ a xs, x = .ref a ∧ SqT K H1 a xs ∧ ∀ p, H1 p = none → Q (.ref p) (upd H1 p (.tup xs.reverse))
theorem pe_revT {e : Expr} {te : TE} {k : Nat} {p1 p2 p3 pos : Pos} (he : PE X e te) : PE X (.Subscript e (.Slice none none (some (.UnaryOp .USub (.Constant (.int 1) k p1) p2)) p3) pos) (tRevT X.K te) := by
  refine ⟨fun pins s σ H Q I h => ?_⟩
  refine Subscript_ (thn (he.run pins s σ H _ I h) fun v s1 ⟨x, H1, I1, r1, q1⟩ => ?_)
  obtain ⟨a, xs, ex, hx, q⟩ := q1
  subst ex
  cases r1
  have hst : PO X (some (.UnaryOp .USub (.Constant (.int 1) k p1) p2)) (tPart (tUn (rU fun i => .int (-i)) (tC (.int 1)))) := po_some (pe_un un_neg pe_int)
  refine wpAny_Slice (thn (po_none.run pins s1 σ H1 (fun o H2 => o = none ∧ H2 = H1) I1 ⟨rfl, rfl⟩) fun vl s2 ⟨l, H2, I2, pl, el, e2⟩ => ?_)
  subst el e2
  refine thn (po_none.run pins s2 σ H2 (fun o H3 => o = none ∧ H3 = H2) I2 ⟨rfl, rfl⟩) fun vu s3 ⟨u, H3, I3, pu, eu, e3⟩ => ?_
  subst eu e3
  refine thn (hst.run pins s3 σ H3 (fun o H4 => o = some (-1) ∧ H4 = H3) I3 ⟨1, rfl, -1, rfl, rfl, rfl⟩) fun vs s4 ⟨o, H4, I4, ps, eo, e4⟩ => ?_
  subst eo e4
  have I5 : Inv X pins σ H4 { s4 with heap := s4.heap.push { cls := .type "slice", data := .fields #[vl, vu, vs] } } := I4.kept (t' := s4.toks) fun b ob q => Heap.get?_push_of_some _ q
  obtain ⟨its, r, ht, hz⟩ := I5.tuple hx
  have hlen := r.length
  show wpAny (model X.prog X.w) X.A (subscriptTail e (.Slice none none (some (.UnaryOp .USub (.Constant (.int 1) k p1) p2)) p3) (.ref a) (.ref s4.heap.objs.size)) (EP X pins σ Q) X.xe { s4 with heap := s4.heap.push { cls := .type "slice", data := .fields #[vl, vu, vs] } }
  refine tail_any (ops := [.ref a, .ref s4.heap.objs.size]) ht.typeIs PyProof.Rows.slot_tuple_getitem.lookup ?_ (by with_unfolding_all rfl)
  refine getItem_tuple_rev ht (Heap.IsSliceOf.new _ vl vu vs) pl pu ps ?_ (by rw [List.size_toArray]; omega)
  refine ⟨.ref _, _, I5.laid (t' := s4.toks) (o := .tup xs.reverse) (fun b ob q => Heap.get?_push_of_some _ q) (Nat.le_refl _) ?_, rfl, q _ (I5.hok.fresh (Nat.le_refl _))⟩
  exact ⟨by rw [List.length_reverse]; exact hz, _, r.reverse, IsTup.new _ _⟩
end

/-- a lot: ascending, from 0 on, below m -/
def lotB : List Int → Int → Int → Bool
  | [], _, _ => true
  | n :: r, b, m => if n ≤ b ∨ n ≥ m then false else lotB r n m

theorem fW_many (m a : Int) (t : Addr) : (fW m a t).lookup ("many" : Str) = some (V.int m) := by rfl

theorem lotB_in : ∀ {ns : List Int} {b m : Int}, lotB ns b m = true → ∀ n ∈ ns, b < n ∧ n < m
  | [], _, _, _, _, h => by cases h
  | x :: r, b, m, e, n, h => by
    by_cases c : x ≤ b ∨ x ≥ m
    · rw [show lotB (x :: r) b m = false from if_pos c] at e
      cases e
    · rw [show lotB (x :: r) b m = lotB r x m from if_neg c] at e
      rcases List.mem_cons.mp h with rfl | h
      · omega
      · have := lotB_in e n h
        omega
/-- the sum of the weights of a lot -/
def wSum (ws ns : List Int) : Int := (ns.map fun n => ws.getD n.toNat 0).sum
def wAt (ws ns : List Int) (i : Nat) : Int := if inV (.int (i : Int)) (ns.map V.int) = true then ws.getD i 0 else 0
theorem ws_at {ws : List Int} {n : Int} (h0 : 0 ≤ n) (h1 : n < ws.length) : atI (ws.map V.int) n = some (.int (ws.getD n.toNat 0)) := by
  obtain ⟨k, rfl⟩ : ∃ k : Nat, n = (k : Int) := ⟨n.toNat, by omega⟩
  have lt : k < ws.length := by omega
  refine atI_nat (int_at ?_)
  rw [Int.toNat_natCast, List.getD_eq_getElem?_getD, List.getElem?_eq_getElem lt]
  rfl
theorem ints_flat (ns : List Int) : (ns.map V.int).all flatV = true := by
  rw [List.all_eq_true]
  intro x hx
  obtain ⟨n, _, rfl⟩ := List.mem_map.mp hx
  rfl

theorem fW_shares (m a : Int) (t : Addr) : (fW m a t).lookup ("shares" : Str) = none := by rfl
theorem fW_away (m a : Int) (t : Addr) : (fW m a t).lookup ("away" : Str) = none := by rfl
theorem inV_int {n : Int} {ns : List Int} : inV (.int n) (ns.map V.int) = true ↔ n ∈ ns := by
  unfold inV
  rw [List.any_eq_true]
  constructor
  · rintro ⟨x, hx, e⟩
    obtain ⟨m, hm, rfl⟩ := List.mem_map.mp hx
    have e : decide (m = n) = true := by
      first | exact e | (simpa [eqV] using e)
    rw [← of_decide_eq_true e]
    exact hm
  · intro h
    refine ⟨.int n, List.mem_map.mpr ⟨n, h, rfl⟩, ?_⟩
    first | exact decide_eq_true rfl | simp [eqV]
/-- the values of f at the things of a lot, the others 0 -/
def hitF (f : Nat → Int) (ns : List Int) (i : Nat) : Int := if inV (.int (i : Int)) (ns.map V.int) = true then f i else 0
theorem lot_sum (f : Nat → Int) : ∀ (k : Nat) (b : Int) (lo : Nat) (ns : List Int) (m : Int), (lo : Int) = b + 1 → m - (lo : Int) = (k : Int) → lotB ns b m = true → ((List.range' lo k).map (hitF f ns)).sum = (ns.map fun n => f n.toNat).sum
  | 0, b, lo, ns, m, hb, hk, h => by
    cases ns with
    | nil => rfl
    | cons n r =>
      have := lotB_in h n List.mem_cons_self
      omega
  | k + 1, b, lo, ns, m, hb, hk, h => by
    rw [List.range'_succ, List.map_cons, List.sum_cons]
    cases ns with
    | nil =>
      rw [show hitF f [] lo = 0 from rfl, lot_sum f k (b + 1) (lo + 1) [] m (by omega) (by omega) rfl]
      rfl
    | cons n r =>
      by_cases c : n = (lo : Int)
      · have hn := lotB_in h n List.mem_cons_self
        have hr : lotB r n m = true := by
          have e : lotB (n :: r) b m = lotB r n m := if_neg (by omega)
          rw [← e]
          exact h
        have ih := lot_sum f k n (lo + 1) r m (by omega) (by omega) hr
        have same : (List.range' (lo + 1) k).map (hitF f (n :: r)) = (List.range' (lo + 1) k).map (hitF f r) := by
          apply List.map_congr_left
          intro i hi
          have hi := (List.mem_range'_1.mp hi).1
          unfold hitF
          have e : inV (.int (i : Int)) ((n :: r).map V.int) = inV (.int (i : Int)) (r.map V.int) := by
            rw [Bool.eq_iff_iff, inV_int, inV_int, List.mem_cons]
            constructor
            · rintro (z | z)
              · omega
              · exact z
            · exact .inr
          rw [e]
        rw [same, ih, List.map_cons, List.sum_cons]
        congr 1
        unfold hitF
        rw [if_pos (inV_int.mpr (by rw [c]; exact List.mem_cons_self)), c, Int.toNat_natCast]
      · have hn := lotB_in h n List.mem_cons_self
        have hr : lotB (n :: r) (b + 1) m = true := by
          have e : lotB (n :: r) b m = lotB r n m := if_neg (by omega)
          rw [e] at h
          exact (if_neg (by omega)).trans h
        rw [lot_sum f k (b + 1) (lo + 1) (n :: r) m (by omega) (by omega) hr]
        have z : hitF f (n :: r) lo = 0 := by
          unfold hitF
          refine if_neg fun y => ?_
          have y := inV_int.mp y
          have := lotB_in hr _ y
          omega
        rw [z, Int.zero_add]
theorem wAt_sum {ws ns : List Int} (h : lotB ns (-1) ws.length = true) : ((List.range ws.length).map (wAt ws ns)).sum = wSum ws ns := by
  rw [List.range_eq_range']
  exact lot_sum (fun i => ws.getD i 0) ws.length (-1) 0 ns ws.length rfl (by omega) h
theorem getD_nn {ws : List Int} (h : ∀ w ∈ ws, 1 ≤ w) (i : Nat) : 0 ≤ ws.getD i 0 := by
  rw [List.getD_eq_getElem?_getD]
  cases e : ws[i]? with
  | none => exact Int.le_refl 0
  | some w =>
    have := h w (List.mem_of_getElem? e)
    show 0 ≤ w
    omega
theorem wAt_nn {ws ns : List Int} (h : ∀ w ∈ ws, 1 ≤ w) (i : Nat) : 0 ≤ wAt ws ns i := by
  unfold wAt
  split
  · exact getD_nn h i
  · exact Int.le_refl 0
theorem sum_nn : ∀ {l : List Int}, (∀ x ∈ l, 0 ≤ x) → 0 ≤ l.sum
  | [], _ => Int.le_refl 0
  | x :: r, h => by
    rw [List.sum_cons]
    have := h x List.mem_cons_self
    have := sum_nn fun y hy => h y (List.mem_cons_of_mem _ hy)
    omega
theorem take_le {l : List Int} (h : ∀ x ∈ l, 0 ≤ x) (i : Nat) : 0 ≤ (l.take i).sum ∧ (l.take i).sum ≤ l.sum := by
  have a := sum_nn fun x hx => h x (List.mem_of_mem_take (i := i) hx)
  have b := sum_nn fun x hx => h x (List.mem_of_mem_drop (i := i) hx)
  have e : (l.take i).sum + (l.drop i).sum = l.sum := by
    rw [← List.sum_append, List.take_append_drop]
  omega
theorem mem_le {l : List Int} (h : ∀ x ∈ l, 0 ≤ x) : ∀ x ∈ l, x ≤ l.sum := by
  induction l with
  | nil =>
    intro x hx
    cases hx
  | cons y r ih =>
    intro x hx
    have hr : ∀ z ∈ r, 0 ≤ z := fun z hz => h z (List.mem_cons_of_mem _ hz)
    have := sum_nn hr
    have := h y List.mem_cons_self
    rw [List.sum_cons]
    rcases List.mem_cons.mp hx with rfl | hx
    · omega
    · have := ih hr x hx
      omega

theorem kL : kitB "list" "list" = some true := by decide +kernel
theorem lotB_mono : ∀ {ns : List Int} {b m m' : Int}, lotB ns b m = true → m ≤ m' → lotB ns b m' = true
  | [], _, _, _, _, _ => rfl
  | n :: r, b, m, m', h, le => by
    have hn := lotB_in h n List.mem_cons_self
    have e : lotB (n :: r) b m = lotB r n m := if_neg (by omega)
    rw [e] at h
    exact (if_neg (by omega)).trans (lotB_mono h le)
theorem lotB_snoc : ∀ {ns : List Int} {b m : Int}, lotB ns b m = true → b < m → lotB (ns ++ [m]) b (m + 1) = true
  | [], b, m, _, lt => (if_neg (by omega) : lotB [m] b (m + 1) = lotB [] m (m + 1)).trans rfl
  | n :: r, b, m, h, lt => by
    have hn := lotB_in h n List.mem_cons_self
    have e : lotB (n :: r) b m = lotB r n m := if_neg (by omega)
    rw [e] at h
    exact (if_neg (by omega)).trans (lotB_snoc h hn.2)
theorem lotB_pw : ∀ {ns : List Int} {b m : Int}, lotB ns b m = true → ns.Pairwise (· < ·)
  | [], _, _, _ => .nil
  | n :: r, b, m, h => by
    have hn := lotB_in h n List.mem_cons_self
    have e : lotB (n :: r) b m = lotB r n m := if_neg (by omega)
    rw [e] at h
    exact .cons (fun x hx => (lotB_in h x hx).1) (lotB_pw h)
theorem lotB_no {ns : List Int} {b m : Int} (h : lotB ns b m = true → False) : lotB ns b m = false := by
  cases e : lotB ns b m with
  | true => exact (h e).elim
  | false => rfl
theorem wSum_snoc (ws ns : List Int) {i : Nat} {n : Int} (h : ns[i]? = some n) : wSum ws (ns.take (i + 1)) = wSum ws (ns.take i) + ws.getD n.toNat 0 := by
  unfold wSum
  rw [List.take_add_one, h, List.map_append, List.sum_append]
  simp

/-- what of a rule by weights stands in the heap -/
def WAt (C : Addr) (H : Hp) (p dx t : Addr) (ws : List Int) (b : Int) : Prop := H p = some (.ins C dx (fW ws.length b t)) ∧ H t = some (.tup (ws.map V.int))
theorem WAt.same {C : Addr} {H H' : Hp} {p dx t : Addr} {ws : List Int} {b : Int} (s : Same H H') (h : WAt C H p dx t ws b) : WAt C H' p dx t ws b := ⟨s _ _ h.1, s _ _ h.2⟩
/-- a due pair of thing j: its weight over the total, or 0 over 1 -/
def DueAt (H : Hp) (ws ns : List Int) (d : Int) (j : Nat) (t : Addr) : Prop := ∃ n e : Int, H t = some (.tup [.int n, .int e]) ∧ ((n = wAt ws ns j ∧ e = d) ∨ (wAt ws ns j = 0 ∧ n = 0 ∧ e = 1))
theorem DueAt.same {H H' : Hp} {ws ns : List Int} {d : Int} {j : Nat} {t : Addr} (s : Same H H') (h : DueAt H ws ns d j t) : DueAt H' ws ns d j t := by
  obtain ⟨n, e, h, k⟩ := h
  exact ⟨n, e, s _ _ h, k⟩
theorem wSum_nn {ws ns : List Int} (hw : ∀ w ∈ ws, 1 ≤ w) (ok : lotB ns (-1) ws.length = true) : 0 ≤ wSum ws ns ∧ ∀ j, j < ws.length → 0 ≤ wAt ws ns j ∧ wAt ws ns j ≤ wSum ws ns := by
  have nn : ∀ x ∈ (List.range ws.length).map (wAt ws ns), 0 ≤ x := fun x hx => by
    obtain ⟨i, _, rfl⟩ := List.mem_map.mp hx
    exact wAt_nn hw i
  have es := wAt_sum ok
  refine ⟨es ▸ sum_nn nn, fun j hj => ⟨wAt_nn hw j, es ▸ mem_le nn _ (List.mem_map.mpr ⟨j, List.mem_range.mpr hj, rfl⟩)⟩⟩

/-! ### super().m(e, ..) in a method's own block, anywhere: statements that know the code they stand in -/
structure PEA (X : Cx) (c : Code) (e : Expr) (t : TE) : Prop where
  run : ∀ (pins : List (Addr × Obj)) (s : Shared) (σ : L2.St) (H : Hp) (Q : VK), Inv X pins σ H s → t σ H Q → PySem.wpAt (model X.prog X.w) X.A c (eval e X.env) (EP X pins σ Q) X.xe s
structure PSA (X : Cx) (c : Code) (st : Stmt) (t : TS) : Prop where
  run : ∀ (pins : List (Addr × Obj)) (s : Shared) (σ : L2.St) (H : Hp) (D : Ends), Inv X pins σ H s → t D σ H → PySem.wpAt (model X.prog X.w) X.A c (exec st X.env) (SP X pins D) X.xe s
structure PSAs (X : Cx) (c : Code) (st : List Stmt) (t : TS) : Prop where
  run : ∀ (pins : List (Addr × Obj)) (s : Shared) (σ : L2.St) (H : Hp) (D : Ends), Inv X pins σ H s → t D σ H → PySem.wpAt (model X.prog X.w) X.A c (execs st X.env) (SP X pins D) X.xe s
section
variable {X : Cx} {c : Code} {e b : Expr} {rest' : List Expr} {st : Stmt} {rest : List Stmt} {t u : TS} {te tb : TE} {pos : Pos}
theorem pea_pe (h : PE X e te) : PEA X c e te := ⟨fun pins s σ H Q I q => PySem.wpAt_of_wpAny (h.run pins s σ H Q I q)⟩
theorem psa_ps (h : PS X st t) : PSA X c st t := ⟨fun pins s σ H D I q => PySem.wpAt_of_wpAny (h.run pins s σ H D I q)⟩
theorem psas_pss (h : PSs X rest t) : PSAs X c rest t := ⟨fun pins s σ H D I q => PySem.wpAt_of_wpAny (h.run pins s σ H D I q)⟩
theorem psas_cons (h1 : PSA X c st t) (h2 : PSAs X c rest u) : PSAs X c (st :: rest) (tSeq t u) := by
  refine ⟨fun pins s σ H D I h => ?_⟩
  refine ks_wpAt_execs_cons (ks_wpAt_mono (h1.run pins s σ H { D with nx := u D } I h) (fun f s1 q => ?_) fun _ _ x => x)
  cases f with
  | next =>
    obtain ⟨σ', H', I', q⟩ := q
    exact h2.run pins s1 σ' H' D I' q
  | ret v => exact q
  | brk => exact q
  | cont => exact q
theorem psas_one (h : PSA X c st t) : PSAs X c [st] t := by
  refine ⟨fun pins s σ H D I q => ?_⟩
  refine ks_wpAt_execs_cons (ks_wpAt_mono (h.run pins s σ H D I q) (fun f s1 q => ?_) fun _ _ x => x)
  cases f with
  | next => exact PySem.wpAt_of_wpAny (wpAny_execs_nil q)
  | ret v => exact q
  | brk => exact q
  | cont => exact q
theorem psa_expr (he : PEA X c e te) (hi : interactive X.env = false := by rfl) (hs : swapsWith e none pos.line X.env = pure false := by rfl) : PSA X c (.Expr e pos) (tDrop te) := by
  refine ⟨fun pins s σ H D I h => ?_⟩
  exact ks_wpAt_Expr_any (ks_wpAt_mono (he.run pins s σ H _ I h) (fun v s1 ⟨x, H1, I1, r1, q1⟩ => ⟨σ, H1, I1, q1⟩) fun _ _ x => x) hi hs
theorem psa_ret (he : PEA X c e te) : PSA X c (.Return (some e) pos) (tRet te) := by
  refine ⟨fun pins s σ H D I h => ?_⟩
  exact ks_wpAt_Return_some (ks_wpAt_mono (he.run pins s σ H _ I h) (fun v s1 ⟨x, H1, I1, r1, q1⟩ => ⟨x, σ, H1, I1, r1, q1⟩) fun _ _ x => x)
theorem psa_set {i : Nat} {x : Str} {pos' : Pos} (hN : X.N.Nodup) (hi : X.N[i]? = some x) (hx : Loc X.env.scope x) (he : PEA X c e te) (hs : swapsWith e (some (.Name x pos')) pos.line X.env = pure false := by rfl) (hf : X.fn x = true ∨ X.env.scope.names.lookup x = some .local := by first | exact .inl rfl | exact .inr rfl | assumption) :
    PSA X c (.Assign [.Name x pos'] e pos) (tAsg te (gName i)) := by
  refine ⟨fun pins s σ H D I h => ?_⟩
  refine ks_wpAt_Assign_Name (ks_wpAt_mono (he.run pins s σ H _ I h) (fun v s1 ⟨y, H1, I1, r1, q1⟩ => ?_) fun _ _ x => x) hs
  exact store_ok I1 hN hi hx r1 (fun s2 I2 => ⟨_, H1, I2, q1⟩) hf
/-- super().m(..) and more -/
theorem pea_and (ha : PEA X c e te) (hb : PE X (.BoolOp .And (b :: rest') pos) tb) : PEA X c (.BoolOp .And (e :: b :: rest') pos) (tAndV te tb) := by
  refine ⟨fun pins s σ H Q I h => ?_⟩
  show PySem.wpAt _ X.A c (do
    let v ← eval e X.env
    standAt pos
    let d ← holding [v] (truthy v)
    match BoolOp.And, d with
    | .And, false | .Or, true => pure v
    | _, _ => boolOp pos .And (eval b X.env :: evalEach rest' X.env)) _ _ s
  refine PySem.wpAt_bind (ks_wpAt_mono (ha.run pins s σ H _ I h) (fun v s1 ⟨x, H1, I1, r1, q1⟩ => ?_) fun _ _ x => x)
  obtain ⟨d, rfl, q1⟩ := q1
  cases r1
  refine PySem.wpAt_of_wpAny (wpAny_bind (wpAny_standAt (wpAny_bind (wpAny_holding (wpAny_truthy_bool ?_)))))
  cases d with
  | true => exact hb.run pins s1 σ H1 Q I1 q1
  | false => exact wpAny_pure ⟨.bl false, H1, I1, rfl, q1⟩
end
/-- what the top has written of a class D above which super() looks, for an instance of the class C: the function g at the name m -/
structure SupM (K : PySem.W.Frag) (mg : Str → Option Value) (C D cc cda g : Addr) (m file : Str) : Prop where
  isD : ∃ cd, PySem.W.clsIn K D = some cd
  sub : PySem.W.mroIn K C (.ref D) = some true
  cell : ∃ cl cld csl, K.lookup cc = some ⟨cl, cld, .cell (some (.ref D)), csl⟩
  code : ∃ ccl cdd vs ccs tf, K.lookup cda = some ⟨ccl, cdd, .fields vs, ccs⟩ ∧ vs[2]? = some (.str file tf)
  sup : PySem.W.ks_superIn K C D m = some (some (.ref g))
  tg : PySem.W.typeIn K (.ref g) = some (.type "function")
  fg : PySem.W.fnIn K g = true
  opq : PySem.W.nsIn K cStatics "thirdparty.any" = some none
  nosup : mg "super" = none
def tSuper (C : Addr) (si : Sp) (Ei : XK) (ta : TA) : TE := fun σ H Q => ∃ (a dx : Addr) (fs : List (Str × V)), σ[0]? = some (some (.ref a)) ∧ H a = some (.ins C dx fs) ∧ ta σ H fun ws H1 => si (.ref a :: ws) H1 Q Ei
theorem pea_super {CX : CXT} {X : Cx} {body : List Stmt} {f g cc cda C D : Addr} {fd0 gd : FuncData} {oc : Value} {od : Option Addr} {osl : Array (Option Value)} {qs : List Str} {si : Sp} {Ei : XK} {e : Expr} {es : List Expr} {m file : Str} {p0 p1 p2 p3 : Pos} {ar : Arg} {pl : Sem Bool} {ta : TA} {j : Nat}
    (lk : X.K.lookup f = some ⟨oc, od, .func fd0, osl⟩) (SC : SupM X.K X.mg C D cc cda g m file) (hfile : ((X.prog.main.file : Str) == file) = true) (htop : (X.prog.main.scope.names.lookup ("super" : Str)).isSome = false) (hpar : (fd0.params.posonlyargs ++ fd0.params.args).head? = some ar) (hN : X.N[0]? = some ar.arg)
    (hkind : X.env.scope.kind = .function) (hka : X.env.scope.names.lookup ar.arg = some .local) (hks : X.env.scope.names.lookup ("super" : Str) = some .globalImplicit) (hkc : X.env.scope.names.lookup ("__class__" : Str) = some .free) (hfu : X.env.func = some f) (hco : X.env.code = .ref cda) (hcl : X.env.cells.lookup ("__class__" : Str) = some cc) (hgl : X.env.globals = mainGlobals) (hbn : X.env.builtins = builtinsNs)
    (G : FnOk X.prog X.w X.K X.mg X.base CX j g gd qs si) (bd : Binds X.K gd qs []) (hr : Room j X.A) (hpass : Passes CX X Ei) (hpa : PA X (e :: es) ta) (hm : (m == ("__class__" : Str)) = false)
    (hev : eval (.Call (.Attribute (.Call (.Name "super" p0) [] [] p1) m p2) (e :: es) [] p3) X.env = (do
      let ov ← attributeBase (.Call (.Name "super" p0) [] [] p1) m X.env (eval (.Call (.Name "super" p0) [] [] p1) X.env)
      standAt p2.atName
      let (f', first) ← holding [ov] (getMethod ov m pl)
      callWith p3 f' first (backTo p3 (starEach (e :: es) X.env)) []))
    (hst : starEach (e :: es) X.env = (false, eval e X.env) :: starEach es X.env) (hpl : (backTo p3 (starEach es X.env)).any (·.1) = false) :
    PEA X (.func body X.env) (.Call (.Attribute (.Call (.Name "super" p0) [] [] p1) m p2) (e :: es) [] p3) (tSuper C si Ei ta) := by
  refine ⟨fun pins s σ H Q I h => ?_⟩
  obtain ⟨a, dx, fs, h0, ha, hq⟩ := h
  obtain ⟨cl, cld, csl, hcell⟩ := SC.cell
  obtain ⟨ccl, cdd, fv, ccs, tf, hcode, hfv⟩ := SC.code
  obtain ⟨cdD, hD⟩ := SC.isD
  refine ks_wpAt_MethodCall (pl := pl) ?_ hev
  have KI := I.kIn
  refine ks_wpAt_super_base hks hkc hm hfu (KI _ _ lk) rfl hpar hco (KI _ _ hcode) rfl hfv hfile htop ?_
  obtain ⟨mb, hb1, hb2⟩ := I.mod.blt
  refine PySem.W.ks_loadName_global hkind hks (Calls.loadGlobal_builtin (env := X.env) (mg := X.mg) (by rw [hgl]; exact I.mod.glob.keeps I.bk) SC.nosup (by rw [hbn]; exact hb1.keeps I.bk) ((hb2 "super" (by decide)).trans (by rfl)) ⟨rfl, ?_⟩)
  refine wpAny_loadName_free hkind hkc hcl ⟨_, KI _ _ hcell, rfl⟩ ?_
  obtain ⟨mm, hn, hl'⟩ := I.loc
  obtain ⟨u, ru, lku⟩ := hl' 0 ar.arg (.ref a) hN h0 (.inl hka)
  cases (show u = Value.ref a from ru)
  have hmu : mm ar.arg = some (.ref a) := by
    rcases lku with ⟨_, z⟩ | ⟨z, _⟩
    · exact z
    · have hk' : X.env.scope.names.lookup ar.arg = some .cell ∨ X.env.scope.names.lookup ar.arg = some .free := z
      rw [hka] at hk'
      rcases hk' with z | z <;> cases z
  refine wpAny_loadName_local hkind hka hn hmu ?_
  obtain ⟨oD, hD1, hD2⟩ : ∃ oD, s.heap.get? D = some oD ∧ oD.data = .cls cdD := by
    unfold PySem.W.clsIn at hD
    split at hD
    · rename_i c d cd' sl ho
      cases hD
      exact ⟨_, KI _ _ ho, rfl⟩
    · cases hD
  obtain ⟨hh, gg, dd, tt, oo⟩ := s
  refine ks_wpAny_isType_cls hD1 hD2 (And.intro rfl ?_)
  obtain ⟨hoa, oda, J⟩ := inst_of' I ha
  refine ks_wpAny_call_super hD1 hD2 J.at_ J.cls (fun c z => ?_) (PySem.W.looks_mroIn KI SC.sub) (fun h2 e2 k2 => ?_)
  · have := J.no
    unfold PySem.W.notCls at this
    rw [z] at this
    exact Bool.noConfusion this
  have I2 := I.kept (h' := h2) (t' := tt) k2
  have K2 := I2.kIn
  obtain ⟨hoa2, oda2, J2⟩ := inst_of' I2 ha
  have sup := SC.sup
  unfold PySem.W.ks_superIn at sup
  cases hc : PySem.W.clsIn X.K C with
  | none => rw [hc] at sup; cases sup
  | some cdC =>
  rw [hc] at sup
  obtain ⟨og, hog, hogc⟩ : ∃ og, h2.get? g = some og ∧ og.cls = .type "function" := by
    have ht' : (X.K.lookup g).map (·.cls) = some (.type "function") := SC.tg
    cases z : X.K.lookup g with
    | none =>
      rw [z] at ht'
      cases ht'
    | some og =>
      rw [z] at ht'
      exact ⟨og, K2 _ _ z, Option.some.inj ht'⟩
  refine ks_wpAny_getMethod_super e2 (PySem.W.looks_opaque K2 SC.opq) (l₀ := cdC.mro) (fun A Q E s k q => wpAny_bind ((PySem.W.looks_clsIn K2 hc) A _ E s k (wpAny_pure q))) rfl K2 sup hog hogc (PySem.W.ks_ne K2 J2 hc) hm ?_
  have I3 : Inv X ((h2.objs.size, PySem.W.methodObj (.ref g) (.ref a)) :: pins) σ H ⟨h2.push (PySem.W.methodObj (.ref g) (.ref a)), gg, dd, tt + 1, oo⟩ :=
    pin_new (s := ⟨h2, gg, dd, tt, oo⟩) I2 (fun _ _ z => Heap.get?_push_of_some _ z) (Nat.le_refl _) (Heap.get?_push_size h2 rfl) (fun v z => nomatch z)
  have hbq : X.base.get? h2.objs.size = none := base_none I2 (Nat.le_refl _)
  have hL : h2.objs.size ≠ X.env.locals := (I3.pin (h2.objs.size, PySem.W.methodObj (.ref g) (.ref a)) (List.mem_append_right _ List.mem_cons_self)).2.2.1
  refine PySem.W.callWith_M (K := X.K) (h₀ := X.base) (first := []) I.mod.kin (news_at hL hbq (pin_at I3)) List.mem_cons_self SC.fg ?_ hst hpl
  refine wpAny_mono (hpa.run p3 _ _ _ H _ I3 hq) (fun ws s4 h4 => ?_) fun _ _ z => z
  obtain ⟨vs4, H4, I4, r4, q4⟩ := h4
  refine ⟨⟨pin_at I4, I4.kIn⟩, ?_⟩
  have lenq : (Value.ref a :: ws).length = qs.length := by
    have z := G.len _ _ _ _ q4
    rw [← z, List.length_cons, List.length_cons, r4.length]
  have bound := bd s4 (Value.ref a :: ws) I4.kIn (by rw [List.append_nil]; exact lenq)
  rw [List.append_nil] at bound
  refine wpAny_mono (Q := fun u s' => EP X ((h2.objs.size, PySem.W.methodObj (.ref g) (.ref a)) :: pins) σ Q u s')
    (wpAny_call (PySem.W.method_call (pin_at I4) (codeAny_mono (G.run _ _ s4 H4 ⟨Value.ref a :: ws, []⟩ (Value.ref a :: ws) (.ref a :: vs4) _ Ei hr I4.env0 bound (.cons rfl r4) q4) fun rr s' back => ?_))) (fun u s5 h5 => unpinE h5) fun _ _ z => z
  cases rr with
  | error er => exact hpass _ _ _ _ er s' I4 back
  | ok fl =>
    cases fl with
    | ret u => exact I4.after back
    | next => exact back.elim
    | brk => exact back.elim
    | cont => exact back.elim
/-- a method whose block says super() somewhere -/
theorem fn_at {CX : CXT} {P : Program} {w : World} {K : PySem.W.Frag} {mg : Str → Option Value} {base : Heap} {k : Nat} {f cc cda : Addr} {name qual : Str} {params : Arguments} {scope : Scope} {dV kV doc pm ct oc : Value} {an od : Option Addr}
    {osl : Array (Option Value)} {N ps : List Str} {sp : Sp} {body : List Stmt} {D : Addr} (lk : K.lookup f = some ⟨oc, od, .func (PySem.W.ksFn name qual params body scope dV kV doc pm an (.ref cda) ct cc), osl⟩) (hcd : PySem.W.codeIn K (.ref cda) qual = true) (S : NScope N ps ["__class__"] scope)
    (cell : ∃ cl cld csl, K.lookup cc = some ⟨cl, cld, .cell (some (.ref D)), csl⟩) (len : ∀ vs H Q E, sp vs H Q E → vs.length = ps.length)
    (hbody : ∀ (A : Around) (outer : List Env) (s : Shared) (H : Hp) (vs : List V) (Q : VK) (E : XK), Room k (A.deeper (PySem.W.ksEnv qual scope s.heap.objs.size f (.ref cda) cc)) → sp vs H Q E →
      ∃ t, PSAs (ncx CX P w K mg base N ⟨name, qual, params, body, scope, [("__class__", cc)], cda⟩ f A outer s H E) (.func body (PySem.W.ksEnv qual scope s.heap.objs.size f (.ref cda) cc)) body t ∧ t { nx := fun _ H' => Q .non H', rt := Q } (startF N vs [none]) H) :
    FnOk P w K mg base CX (k + 1) f (PySem.W.ksFn name qual params body scope dV kV doc pm an (.ref cda) ct cc) ps sp := by
  refine ⟨len, fun A outer s H args us vs Q E hr e0 hb r asked => ?_⟩
  have hl := len _ _ _ _ asked
  have kb : ∀ b o, base.get? b = some o → s.heap.get? b = some o := fun b o z => (e0.bs b o z).1
  have KX : K.In s.heap := e0.mod.kin.keeps kb
  have lim : s.heap.NoLimit := e0.mod.nolimit.keeps kb
  obtain ⟨cl, cld, csl, hcell⟩ := cell
  have C0 : CellsAt [("__class__", cc)] ["__class__"] [none] s.heap H := by
    refine ⟨rfl, fun y c z => ?_, fun y z c h1 h2 => ?_, fun i y z => ?_⟩
    · have hc : c = cc := by
        simp only [List.lookup] at z
        split at z
        · exact (Option.some.inj z).symm
        · cases z
      subst hc
      exact ⟨(e0.bs _ _ (e0.mod.kin _ _ hcell)).2, _, _, KX _ _ hcell, rfl⟩
    · have one : ∀ {t : Str}, [(("__class__" : Str), cc)].lookup t = some c → t = "__class__" := fun {t} h => by
        simp only [List.lookup] at h
        split at h
        · exact beq_iff_eq.mp (by assumption)
        · cases h
      rw [one h1, one h2]
    · have hy : y = "__class__" := by
        cases i with
        | zero => simpa using z.symm
        | succ n => simp at z
      subst hy
      exact ⟨cc, rfl, fun v h => by cases i <;> simp at h⟩
  refine ks_codeAny_call_defAt (fd := PySem.W.ksFn name qual params body scope dV kV doc pm an (.ref cda) ct cc) (body := body) (binds := ps.zip us) hr.depth (KX _ _ lk) rfl lim (PySem.W.codeRec_of KX hcd) rfl hb S.nocell (fun ⟨n, _⟩ hy => S.par n (List.of_mem_zip hy).1) (fun h₁ hns kp => ?_) S.co S.gen S.kind
  obtain ⟨t, hps, hq⟩ := hbody A outer s H vs Q E (hr.deeper _) asked
  have I : Inv (ncx CX P w K mg base N ⟨name, qual, params, body, scope, [("__class__", cc)], cda⟩ f A outer s H E) [] (startF N vs [none]) H { s with heap := h₁, toks := s.toks + (ps.zip us).length } := inv_startN (F := ⟨name, qual, params, body, scope, [("__class__", cc)], cda⟩) S hr.hd e0 hl r C0 hns kp
  refine ks_wpAt_mono (hps.run [] _ _ H _ I hq) (fun fl s' hs => ?_) fun er s' hs => hs
  have last : ∀ {τ : L2.St} {G' : Hp} {x : V} {y : Value}, Inv (ncx CX P w K mg base N ⟨name, qual, params, body, scope, [("__class__", cc)], cda⟩ f A outer s H E) [] τ G' s' → L2.RelV x y → Q x G' → CE outer P w H s Q y s' :=
    fun {_ G' x _} Z rel z => ⟨x, G', Z.os, Z.bare, Z.base, Z.hok, rel, z⟩
  cases fl with
  | next =>
    obtain ⟨_, _, Z, z⟩ := hs
    exact last (x := V.non) (y := Value.none) Z rfl z
  | ret y =>
    obtain ⟨_, _, _, Z, rel, z⟩ := hs
    exact last Z rel z
  | brk => exact hs.elim fun _ ⟨_, _, z⟩ => z.elim
  | cont => exact hs.elim fun _ ⟨_, _, z⟩ => z.elim
/-- tuple(x) within a comprehension: its reading without the context -/
def rTupOf (K : PySem.W.Frag) : List V → Hp → VK → Prop := fun xs H Q => ∃ p ys, xs = [V.ref p] ∧ ((SqL K H p ys ∧ ∀ l, H l = none → Q (.ref l) (upd H l (.tup ys))) ∨ (SqT K H p ys ∧ Q (.ref p) H))

/-! ### a method's frame that has own cells beside the captured cell __class__ -/
theorem cells_acc : ∀ (ns : List (Str × NameKind)) (n : Nat) (acc : List (Str × Addr)), PySem.cellsFrom n ns acc = PySem.cellsFrom n ns [] ++ acc
  | [], _, _ => rfl
  | (x, k) :: r, n, acc => by
    unfold PySem.cellsFrom
    by_cases h : (k == NameKind.cell) = true
    · rw [if_pos h, if_pos h, cells_acc r (n + 1) ((x, n) :: acc), cells_acc r (n + 1) [(x, n)], List.append_assoc]
      rfl
    · rw [if_neg h, if_neg h, cells_acc r n acc]
/-- the own cells bear names of the kind cell -/
theorem cells_mem : ∀ (ns : List (Str × NameKind)) (n : Nat) (x : Str) (c : Addr), (x, c) ∈ PySem.cellsFrom n ns [] → (x, c) ∈ ([] : List (Str × Addr)) ∨ (x, NameKind.cell) ∈ ns
  | [], _, _, _, h => .inl h
  | (y, k) :: r, n, x, c, h => by
    unfold PySem.cellsFrom at h
    by_cases e : (k == NameKind.cell) = true
    · rw [if_pos e, cells_acc] at h
      rcases List.mem_append.mp h with h | h
      · exact (cells_mem r (n + 1) x c h).imp id fun z => List.mem_cons_of_mem _ z
      · rw [List.mem_singleton] at h
        cases h
        rw [beq_iff_eq.mp e]
        exact .inr List.mem_cons_self
    · rw [if_neg e] at h
      exact (cells_mem r n x c h).imp id fun z => List.mem_cons_of_mem _ z
/-- a stored name: the own cells alone are looked at -/
theorem put_own {M : Model} {A : Around} {E : Value → Shared → Prop} {s₀ s : Shared} {m cm : Str → Option Value} {env : Env} {own : List (Str × Addr)} {n : Str} {v : Value} {Q : Unit → Shared → Prop} (hk : env.scope.kind = .function) (x : PySem.InCallC s₀ env.locals m own cm s)
    (hl : env.kindOf n = some .local ∨ (env.kindOf n = some .cell ∧ ∃ c, env.cells.lookup n = some c ∧ own.lookup n = some c))
    (next : ∀ s', PySem.InCallC s₀ env.locals (if env.kindOf n = some .local then fun y => if y = n then some v else m y else m) own (if env.kindOf n = some .local then cm else fun y => if y = n then some v else cm y) s' → Q () s') : wpAny M A (storeName env n v) Q E s := by
  rcases hl with hl | ⟨hl, c, h1, h2⟩
  · rw [if_pos hl, if_pos hl] at next
    have hp : ((env.scope.kind == .class) || (env.scope.kind == .module && env.locals != env.globals)) = false := by rw [hk]; rfl
    have e : storeName env n v = storeName { env with cells := own } n v := (storeName_local hl hp v).trans (storeName_local (env := { env with cells := own }) hl hp v).symm
    rw [e]
    exact PySem.stLC (env := { env with cells := own }) x hk hl next
  · have nl : ¬ env.kindOf n = some .local := by rw [hl]; decide
    rw [if_neg nl, if_neg nl] at next
    have e : storeName env n v = storeName { env with cells := own } n v := by
      have k2 : Env.kindOf { env with cells := own } n = some .cell := hl
      have q1 : (some NameKind.cell == some NameKind.globalImplicit) = false := rfl
      have q2 : (ScopeKind.function == ScopeKind.class) = false := rfl
      unfold storeName PySem.cellOf
      simp only [hl, k2, hk, q1, q2, h1, h2, Bool.false_and, Bool.false_eq_true, if_false]
    rw [e]
    exact PySem.stCC (env := { env with cells := own }) x hk hl h2 next
theorem bind_own {M : Model} {A : Around} {E : Value → Shared → Prop} {s₀ : Shared} {env : Env} {own : List (Str × Addr)} (f : Str × Value → PUnit → Sem (ForInStep PUnit)) (hf : ∀ n v u, f (n, v) u = (do storeName env n v; pure (.yield ⟨⟩))) (hk : env.scope.kind = .function) :
    ∀ (bs : List (Str × Value)) (m cm : Str → Option Value) (s : Shared) (Q : PUnit → Shared → Prop), PySem.InCallC s₀ env.locals m own cm s → (∀ b ∈ bs, env.kindOf b.1 = some .local ∨ (env.kindOf b.1 = some .cell ∧ ∃ c, env.cells.lookup b.1 = some c ∧ own.lookup b.1 = some c)) →
      (∀ s', PySem.InCallC s₀ env.locals (PySem.bindL env.kindOf bs m) own (PySem.bindC env.kindOf bs cm) s' → Q ⟨⟩ s') → wpAny M A (forIn bs ⟨⟩ f) Q E s
  | [], _, _, s, _, x, _, go => by
    rw [List.forIn_nil]
    exact wpAny_pure (go s x)
  | b :: r, m, cm, s, Q, x, ok, go => by
    obtain ⟨n, v⟩ := b
    rw [List.forIn_cons, hf]
    refine wpAny_bind (wpAny_bind (put_own hk x (ok (n, v) List.mem_cons_self) fun s' x' => wpAny_pure ?_))
    exact bind_own f hf hk r _ _ s' Q x' (fun b hb => ok b (List.mem_cons_of_mem _ hb)) go
/-- the frame's environment -/
abbrev envM (qual : Str) (scope : Scope) (L f cda cc : Addr) : Env := PySem.newEnv scope L mainGlobals (PySem.cellsFrom (L + 1) scope.names [(("__class__" : Str), cc)]) (qual ++ ".<locals>.") (some f) (.ref cda) none builtinsNs
theorem env_own {M : Model} {A : Around} {E : Value → Shared → Prop} {s : Shared} {scope : Scope} {cl : List (Str × Addr)} {bs : List (Str × Value)} {qual : Str} {func : Option Addr} {code : Value} {gl bn : Addr} {Q : Env → Shared → Prop} (hk : scope.kind = .function)
    (ok : ∀ b ∈ bs, scope.names.lookup b.1 = some .local ∨ scope.names.lookup b.1 = some .cell)
    (go : ∀ env, env = PySem.newEnv scope s.heap.objs.size gl (PySem.cellsFrom (s.heap.objs.size + 1) scope.names cl) qual func code none bn → ∀ s', PySem.InCallC s s.heap.objs.size (PySem.bindL env.kindOf bs fun _ => none) (PySem.cellsFrom (s.heap.objs.size + 1) scope.names []) (PySem.bindC env.kindOf bs fun _ => none) s' → Q env s') :
    wpAny M A (newFunctionEnv scope gl cl bs qual func code none bn) Q E s := by
  unfold newFunctionEnv
  simp only [Option.isSome_none, Bool.false_eq_true, if_false]
  refine wpAny_bind (wpAny_alloc (wpAny_bind (PySem.wpAny_layCells _ (fun x k cs => ?_) scope.names cl _ _ ?_)))
  · cases h : k == NameKind.cell <;> simp [h]
  have z : ({ s with heap := s.heap.push { cls := .type "frame", data := .dict #[] } } : Shared).heap.objs.size = s.heap.objs.size + 1 := Heap.size_push ..
  have fine := PySem.cellsFrom_ok scope.names (s.heap.push { cls := .type "frame", data := .dict #[] }) (s.heap.objs.size + 1) [] ⟨fun _ _ h => (nomatch h), List.Pairwise.nil⟩ (by rw [Heap.size_push]; omega)
  rw [Heap.size_push] at fine
  rw [z]
  have x0 : PySem.InCallC s s.heap.objs.size (fun _ => none) (PySem.cellsFrom (s.heap.objs.size + 1) scope.names []) (fun _ => none) { s with heap := PySem.pushCells (s.heap.push { cls := .type "frame", data := .dict #[] }) scope.names } :=
    ⟨⟨⟨_, _, rfl⟩, (Heap.Ns.new s.heap (.type "frame")).keeps (PySem.pushCells_keeps _ _), fun b o e => PySem.pushCells_keeps _ _ b o (Heap.get?_push_of_some _ e), Nat.le_refl _⟩, fun n c h => (fine.empty n c (PySem.mem_of_lookup h)).1, fine.apart, fun n c h => (fine.empty n c h).2⟩
  refine wpAny_bind (bind_own (s₀ := s) (env := PySem.newEnv scope s.heap.objs.size gl (PySem.cellsFrom (s.heap.objs.size + 1) scope.names cl) qual func code none bn) _ (fun _ _ _ => rfl) hk bs _ _ _ _ x0 (fun b hb => ?_) fun s' x' => wpAny_pure (go _ rfl s' x'))
  rcases ok b hb with h | h
  · exact .inl h
  · obtain ⟨c, hc⟩ := cell_has (n := s.heap.objs.size + 1) h
    refine .inr ⟨h, c, ?_, hc⟩
    show (PySem.cellsFrom _ _ _).lookup _ = _
    rw [cells_acc, List.lookup_append, hc]
    rfl
/-- a method's names: the parameters first, then __class__ -/
structure MScope (N ps : List Str) (sc : Scope) : Prop where
  kind : sc.kind = .function
  co : sc.isCoroutine = false
  gen : sc.isGenerator = false
  nd : N.Nodup
  pre : N.take (ps.length + 1) = ps ++ [("__class__" : Str)]
  par : ∀ x ∈ ps, sc.names.lookup x = some .local ∨ sc.names.lookup x = some .cell
  free : ∀ y ∈ sc.names, y.2 = .free → y.1 = ("__class__" : Str)
  frk : sc.names.lookup ("__class__" : Str) = some .free
  own : (("__class__" : Str), NameKind.cell) ∉ sc.names
def mscB (N ps : List Str) (sc : Scope) : Bool :=
  decide (sc.kind = .function) && (!sc.isCoroutine && (!sc.isGenerator && (decide N.Nodup && (decide (N.take (ps.length + 1) = ps ++ [("__class__" : Str)]) && (ps.all (fun x => decide (sc.names.lookup x = some .local) || decide (sc.names.lookup x = some .cell)) && (sc.names.all (fun y => !decide (y.2 = .free) || decide (y.1 = ("__class__" : Str))) && (decide (sc.names.lookup ("__class__" : Str) = some .free) && decide ((("__class__" : Str), NameKind.cell) ∉ sc.names))))))))
theorem mscope_by {N ps : List Str} {sc : Scope} (h : mscB N ps sc = true) : MScope N ps sc := by
  unfold mscB at h
  simp only [Bool.and_eq_true, Bool.not_eq_true', decide_eq_true_eq, List.all_eq_true, Bool.or_eq_true, decide_eq_false_iff_not] at h
  obtain ⟨a, b, c, d, e, f, g, i, j⟩ := h
  exact ⟨a, b, c, d, e, f, fun y hy z => (g y hy).elim (fun k => absurd z k) id, i, j⟩
/-- the context of such a method's body -/
def mcx (CX : CXT) (P : Program) (w : World) (K : PySem.W.Frag) (mg : Str → Option Value) (base : Heap) (N : List Str) (qual : Str) (scope : Scope) (cda cc f : Addr) (A : Around) (outer : List Env) (s : Shared) (H : Hp) (E : XK) : Cx where
  prog := P
  w := w
  K := K
  mg := mg
  base := base
  A := A.deeper (envM qual scope s.heap.objs.size f cda cc)
  N := N
  s_0 := s
  H_0 := H
  env := envM qual scope s.heap.objs.size f cda cc
  outer := outer
  stack := envM qual scope s.heap.objs.size f cda cc :: outer
  ex := []
  calm := true
  fn := fun x => x != ("__class__" : Str)
  pn := []
  xe := fun e s' => wpAny (model P w) (A.deeper (envM qual scope s.heap.objs.size f cda cc)) (leaving (envM qual scope s.heap.objs.size f cda cc) e) (fun _ s'' => CX outer H s E e s'') (fun e' s'' => CX outer H s E e' s'') s'
section
variable {CX : CXT} {P : Program} {w : World} {K : PySem.W.Frag} {mg : Str → Option Value} {base : Heap} {N ps : List Str} {qual : Str} {scope : Scope} {cda cc f : Addr} {A : Around} {outer : List Env} {s s1 : Shared} {H : Hp} {E : XK} {us : List Value} {vs : List V}
theorem inv_startM (S : MScope N ps scope) (hd : A.handled = none) (e0 : Env0 P w K mg base A outer s H) (hl : vs.length = ps.length) (r : Vals vs us) (hcc : H cc = none) {w0 : Option Value} (hc0 : base.IsCell cc w0)
    (x : PySem.InCallC s s.heap.objs.size (PySem.bindL (envM qual scope s.heap.objs.size f cda cc).kindOf (ps.zip us) fun _ => none) (PySem.cellsFrom (s.heap.objs.size + 1) scope.names []) (PySem.bindC (envM qual scope s.heap.objs.size f cda cc).kindOf (ps.zip us) fun _ => none) s1) :
    Inv (mcx CX P w K mg base N qual scope cda cc f A outer s H E) [] (startF N vs [none]) H s1 := by
  have hpl : ps.length + 1 ≤ N.length := by
    have q := congrArg List.length S.pre
    rw [List.length_take, List.length_append] at q
    have : ([("__class__" : Str)] : List Str).length = 1 := rfl
    omega
  obtain ⟨h1, tk, rfl, hk⟩ := x.done
  obtain ⟨oc, hoc, hdc⟩ := hc0
  have hcs : s.heap.get? cc = some oc := (e0.bs _ _ hoc).1
  have ltc : cc < s.heap.objs.size := Heap.lt_size hcs
  have noA : ∀ b : Addr, b ∉ (mcx CX P w K mg base N qual scope cda cc f A outer s H E).ex := fun b z => absurd (show b ∈ ([] : List Addr) from z) (by simp)
  have split : ∀ {y : Str} {c : Addr}, (mcx CX P w K mg base N qual scope cda cc f A outer s H E).env.cells.lookup y = some c → (PySem.cellsFrom (s.heap.objs.size + 1) scope.names []).lookup y = some c ∨ (y = ("__class__" : Str) ∧ c = cc) := fun {y c} h => by
    have h : (PySem.cellsFrom (s.heap.objs.size + 1) scope.names [(("__class__" : Str), cc)]).lookup y = some c := h
    rw [cells_acc, List.lookup_append] at h
    cases e : (PySem.cellsFrom (s.heap.objs.size + 1) scope.names []).lookup y with
    | some c' =>
      rw [e] at h
      exact .inl h
    | none =>
      rw [e] at h
      simp only [List.lookup, Option.none_or] at h
      split at h
      · rename_i q
        exact .inr ⟨beq_iff_eq.mp q, (Option.some.inj h).symm⟩
      · cases h
  have ownlt : ∀ {y : Str} {c : Addr}, (PySem.cellsFrom (s.heap.objs.size + 1) scope.names []).lookup y = some c → s.heap.objs.size < c := fun {y c} h => x.above y c (PySem.mem_of_lookup h)
  have ofOwn : ∀ {y : Str} {c : Addr}, (PySem.cellsFrom (s.heap.objs.size + 1) scope.names []).lookup y = some c → (PySem.cellsFrom (s.heap.objs.size + 1) scope.names [(("__class__" : Str), cc)]).lookup y = some c := fun {y c} h => by
    rw [cells_acc, List.lookup_append, h]
    rfl
  have noOwn : (PySem.cellsFrom (s.heap.objs.size + 1) scope.names []).lookup ("__class__" : Str) = none := by
    cases e : (PySem.cellsFrom (s.heap.objs.size + 1) scope.names []).lookup ("__class__" : Str) with
    | none => rfl
    | some c =>
      have q := cells_mem scope.names _ _ _ (PySem.mem_of_lookup e)
      exact q.elim (fun z => absurd z (by simp)) fun z => absurd z S.own
  refine ⟨⟨e0.mod, S.kind, rfl, rfl, Nat.le_refl _, fun y z c h1 h2 => ?_, fun y hy => ?_, fun y c hy h => ?_, fun _ => hd, Around.frames_deeper e0.frames, .inr ⟨rfl, rfl⟩, fun b z => absurd z (noA b), e0.bs, e0.bsz, fun b _ _ => noA b, fun b z => absurd z (noA b), e0.funs, e0.frf⟩,
    rfl, e0.bare, Un.kept hk, ⟨_, x.toInCall.ns, fun i y v h1 h2 h3 => ?_⟩, fun y c h => ?_, e0.hok.fresh (Nat.le_refl _), fun y c h => ?_, fun p hp => absurd (show p ∈ ([] : List (Addr × Obj)) ++ [] from hp) (by simp), e0.hok.kept hk, ?_⟩
  · rcases split h1 with a | ⟨a, b⟩
    · rcases split h2 with a' | ⟨a', b'⟩
      · exact PySem.name_of_addr x.apart (PySem.mem_of_lookup a) (PySem.mem_of_lookup a')
      · exact absurd (Nat.lt_trans (ownlt a) (b'.symm ▸ ltc)) (Nat.lt_irrefl _)
    · rcases split h2 with a' | ⟨a', b'⟩
      · exact absurd (Nat.lt_trans (ownlt a') (b.symm ▸ ltc)) (Nat.lt_irrefl _)
      · rw [a, a']
  · have hy : scope.names.lookup y = some .cell ∨ scope.names.lookup y = some .free := hy
    rcases hy with hy | hy
    · obtain ⟨c, hc⟩ := cell_has (n := s.heap.objs.size + 1) hy
      exact ⟨c, ofOwn hc⟩
    · have e : y = ("__class__" : Str) := S.free _ (PySem.mem_of_lookup hy) rfl
      refine ⟨cc, ?_⟩
      show (PySem.cellsFrom (s.heap.objs.size + 1) scope.names [(("__class__" : Str), cc)]).lookup y = _
      rw [cells_acc, List.lookup_append, e, noOwn]
      rfl
  · rcases split h with a | ⟨a, _⟩
    · exact Nat.le_of_lt (ownlt a)
    · rw [a] at hy
      exact absurd hy (by show ¬ ((("__class__" : Str) != ("__class__" : Str)) = true); decide)
  · have clen : vs.length = ps.length := hl
    unfold startF at h2
    have e1 : N[i]? = some y := h1
    by_cases c1 : i < ps.length
    · have hq : (ps ++ [("__class__" : Str)])[i]? = some y := by
        rw [← S.pre, List.getElem?_take_of_lt (by omega)]
        exact e1
      rw [List.getElem?_append_left c1] at hq
      rw [List.getElem?_append_left (by rw [List.length_map]; omega), List.getElem?_map] at h2
      obtain ⟨a, ha, hav⟩ : ∃ a, vs[i]? = some a ∧ a = v := by
        cases e : vs[i]? with
        | none =>
          rw [e] at h2
          cases h2
        | some a =>
          rw [e] at h2
          cases h2
          exact ⟨_, rfl, rfl⟩
      subst hav
      obtain ⟨u, hu, rv⟩ := r.get ha
      have ndP : ps.Nodup := by
        have q := S.nd.sublist (List.take_sublist (ps.length + 1) N)
        rw [S.pre] at q
        exact (List.nodup_append.mp q).1
      refine ⟨u, rv, ?_⟩
      rcases S.par y (List.mem_of_getElem? hq) with k | k
      · exact .inl ⟨k, bindL_get ndP hq hu k⟩
      · obtain ⟨c, e⟩ := cell_has (n := s.heap.objs.size + 1) k
        refine .inr ⟨.inl k, c, ofOwn e, ?_⟩
        have q := x.cell y c e
        rw [bindC_get ndP hq hu (by show scope.names.lookup y ≠ _; rw [k]; decide)] at q
        exact q
    · exfalso
      rw [List.getElem?_append_right (by rw [List.length_map]; omega), List.length_map] at h2
      obtain ⟨j, hj⟩ : ∃ j, i - vs.length = j := ⟨_, rfl⟩
      rw [hj] at h2
      cases j with
      | zero => cases h2
      | succ j =>
        have h2 : (List.replicate (N.length - vs.length - 1) (none : Option V))[j]? = some (some v) := h2
        rw [List.getElem?_replicate] at h2
        split at h2 <;> cases h2
  · rcases split h with a | ⟨_, b⟩
    · exact ⟨_, x.cell y c a⟩
    · rw [b]
      exact ⟨w0, oc, hk _ _ hcs, hdc⟩
  · rcases split h with a | ⟨_, b⟩
    · exact e0.hok.fresh (Nat.le_of_lt (ownlt a))
    · rw [b]
      exact hcc
  · unfold startF
    show _ = N.length
    rw [List.length_append, List.length_append, List.length_map, List.length_replicate]
    have : ([none] : List (Option V)).length = 1 := rfl
    omega
end
/-- a method whose block says super() somewhere, with own cells -/
theorem fn_atC {CX : CXT} {P : Program} {w : World} {K : PySem.W.Frag} {mg : Str → Option Value} {base : Heap} {k : Nat} {f cc cda : Addr} {name qual : Str} {params : Arguments} {scope : Scope} {dV kV doc pm ct oc : Value} {an od : Option Addr}
    {osl : Array (Option Value)} {N ps : List Str} {sp : Sp} {body : List Stmt} {D : Addr} (lk : K.lookup f = some ⟨oc, od, .func (PySem.W.ksFn name qual params body scope dV kV doc pm an (.ref cda) ct cc), osl⟩) (hcd : PySem.W.codeIn K (.ref cda) qual = true) (S : MScope N ps scope)
    (cell : ∃ cl cld csl, K.lookup cc = some ⟨cl, cld, .cell (some (.ref D)), csl⟩) (len : ∀ vs H Q E, sp vs H Q E → vs.length = ps.length)
    (hbody : ∀ (A : Around) (outer : List Env) (s : Shared) (H : Hp) (vs : List V) (Q : VK) (E : XK), Room k (A.deeper (envM qual scope s.heap.objs.size f cda cc)) → sp vs H Q E →
      ∃ t, PSAs (mcx CX P w K mg base N qual scope cda cc f A outer s H E) (.func body (envM qual scope s.heap.objs.size f cda cc)) body t ∧ t { nx := fun _ H' => Q .non H', rt := Q } (startF N vs [none]) H) :
    FnOk P w K mg base CX (k + 1) f (PySem.W.ksFn name qual params body scope dV kV doc pm an (.ref cda) ct cc) ps sp := by
  refine ⟨len, fun A outer s H args us vs Q E hr e0 hb r asked => ?_⟩
  have kb : ∀ b o, base.get? b = some o → s.heap.get? b = some o := fun b o z => (e0.bs b o z).1
  have KX : K.In s.heap := e0.mod.kin.keeps kb
  have lim : s.heap.NoLimit := e0.mod.nolimit.keeps kb
  obtain ⟨cl, cld, csl, hcell⟩ := cell
  have cellB : base.IsCell cc (some (.ref D)) := ⟨_, e0.mod.kin _ _ hcell, rfl⟩
  refine codeAny_call_function (fd := PySem.W.ksFn name qual params body scope dV kV doc pm an (.ref cda) ct cc) (body := body) hr.depth (KX _ _ lk) rfl S.co S.gen rfl (PySem.W.codeRec_of KX hcd) (hb _ _ _ _ ?_)
  refine env_own S.kind (fun b hy => S.par b.1 (List.of_mem_zip hy).1) fun env he s1 x => ?_
  subst he
  refine ⟨lim.keeps x.toInCall.keep, PySem.ks_codeAny_funcAt ?_⟩
  obtain ⟨t, hps, hq⟩ := hbody A outer s H vs Q E (hr.deeper _) asked
  have I : Inv (mcx CX P w K mg base N qual scope cda cc f A outer s H E) [] (startF N vs [none]) H s1 := inv_startM S hr.hd e0 (len _ _ _ _ asked) r (e0.bs _ _ (e0.mod.kin _ _ hcell)).2 cellB x
  refine ks_wpAt_mono (hps.run [] _ _ H _ I hq) (fun fl s' hs => ?_) fun er s' hs => hs
  have last : ∀ {τ : L2.St} {G' : Hp} {y : V} {v : Value}, Inv (mcx CX P w K mg base N qual scope cda cc f A outer s H E) [] τ G' s' → L2.RelV y v → Q y G' → CE outer P w H s Q v s' :=
    fun {_ G' y _} Z rel z => ⟨y, G', Z.os, Z.bare, Z.base, Z.hok, rel, z⟩
  cases fl with
  | next => exact hs.elim fun _ ⟨_, Z, z⟩ => last (y := V.non) (v := Value.none) Z rfl z
  | ret y => exact hs.elim fun _ ⟨_, _, Z, rel, z⟩ => last Z rel z
  | brk => exact hs.elim fun _ ⟨_, _, z⟩ => z.elim
  | cont => exact hs.elim fun _ ⟨_, _, z⟩ => z.elim

/-! ### len(set(t)), t a tuple of ints that may hold one twice -/
theorem len_le_mem : ∀ (ns ks : List Int), ks.Nodup → (∀ k ∈ ks, k ∈ ns) → ks.length ≤ ns.length
  | [], ks, _, h => by
    cases ks with
    | nil => exact Nat.le_refl _
    | cons k r => exact absurd (h k List.mem_cons_self) (by simp)
  | n :: r, ks, nd, h => by
    by_cases hn : n ∈ ks
    · have h1 := len_le_mem r (ks.erase n) (nd.erase n) fun k hk => by
        have hk2 := (List.Nodup.mem_erase_iff nd).mp hk
        rcases List.mem_cons.mp (h k hk2.2) with e | e
        · exact absurd e hk2.1
        · exact e
      have h2 := List.length_erase_of_mem hn
      rw [List.length_cons]
      omega
    · have h1 := len_le_mem r ks nd fun k hk => by
        rcases List.mem_cons.mp (h k hk) with e | e
        · exact absurd (e ▸ hk) hn
        · exact e
      rw [List.length_cons]
      omega
theorem twice_of : ∀ {ns : List Int}, ¬ ns.Nodup → ∃ ms : List Int, ms.length + 1 = ns.length ∧ ∀ k ∈ ns, k ∈ ms
  | [], h => absurd List.Pairwise.nil h
  | n :: r, h => by
    by_cases hn : n ∈ r
    · exact ⟨r, rfl, fun k hk => by
        rcases List.mem_cons.mp hk with e | e
        · exact e ▸ hn
        · exact e⟩
    · obtain ⟨ms, l, hm⟩ := twice_of (ns := r) fun nd => h (List.nodup_cons.mpr ⟨hn, nd⟩)
      refine ⟨n :: ms, by rw [List.length_cons, List.length_cons, l], fun k hk => ?_⟩
      rcases List.mem_cons.mp hk with e | e
      · exact e ▸ List.mem_cons_self
      · exact List.mem_cons_of_mem _ (hm k e)
theorem count_nodup {ns ks : List Int} (nd : ks.Nodup) (hm : ∀ k, k ∈ ns ↔ k ∈ ks) : ks.length ≤ ns.length ∧ (ks.length = ns.length ↔ ns.Nodup) := by
  have h1 := len_le_mem ns ks nd fun k hk => (hm k).mpr hk
  refine ⟨h1, fun e => ?_, fun nn => Nat.le_antisymm h1 (len_le_mem ks ns nn fun k hk => (hm k).mp hk)⟩
  by_cases c : ns.Nodup
  · exact c
  · obtain ⟨ms, l, hms⟩ := twice_of c
    have := len_le_mem ms ks nd fun k hk => hms k ((hm k).mpr hk)
    omega
section
variable {X : Cx}
def tLenSetT (K : PySem.W.Frag) (ta : TE) : TE := fun σ H Q => ta σ H fun x H1 => ∃ (t : Addr) (ns : List Int), x = V.ref t ∧ SqT K H1 t (ns.map V.int) ∧ ns.length < 64 ∧ ∀ c : Nat, (c = ns.length ↔ ns.Nodup) → Q (.int c) H1
theorem pe_lenSetT {a : Expr} {ta : TE} {p p2 q pos : Pos} (hc : X.calm = true) (hg : Gl X "len") (hm : X.mg "len" = none) (hg2 : Gl X "set") (hm2 : X.mg "set" = none) (ha : PE X a ta)
    (na : starEach [a] X.env = (false, eval a X.env) :: starEach [] X.env := by rfl) : PE X (.Call (.Name "len" p) [.Call (.Name "set" p2) [a] [] q] [] pos) (tLenSetT X.K ta) := by
  refine ⟨fun pins s σ H Q I h => ?_⟩
  refine Call_ (ld_blt I hg hm PySem.boot_len ?_)
  refine PyProof.Rows.callWith_builtin1 (PyProof.Rows.args_cons ?_ rfl) rfl rfl
  refine Call_ (ld_blt I hg2 hm2 PyProof.Rows.boot_set ?_)
  refine PyProof.Rows.callWith_type1 (PyProof.Rows.args_cons (thn (ha.run pins s σ H _ I h) fun v s1 ⟨x, H1, I1, r1, q1⟩ => PyProof.Rows.args_nil ?_) na) na rfl
  obtain ⟨t, ns, rfl, hq, h1, q1⟩ := q1
  cases r1
  obtain ⟨its, r, pl, hz⟩ := I1.tuple hq
  have hi : PyProof.Rows.IntsAre its.toArray.toList ns := by simpa using r.ints
  refine call_set_tupI ns (I1.ok.hd hc) (show s1.heap.IsTuple t its.toArray from pl) hi (by unfold scanBound; omega) fun h' tk c R1 hcn k => ?_
  refine PyProof.Rows.args_nil ?_
  obtain ⟨o, es, ep, tt, ho, hex, hdt, g, nd, hm2, hb, hf, hn, hr, hl2⟩ := R1
  have I2 : Inv X pins σ H1 { s1 with heap := h', toks := tk } := I1.kept fun b o e => k b o e
  have cn := count_nodup (ns := ns) nd fun k => (decide_eq_true_iff (p := k ∈ ns)).symm.trans (hm2 k)
  rw [List.length_map, Array.length_toList] at cn
  have sz : es.size ≤ ns.length := cn.1
  refine call_len_set ho hex hdt hf (by omega) ⟨.int es.size, H1, I2.tok _, ⟨_, rfl⟩, q1 es.size cn.2⟩
end
/-! ### errors of one field -/
def errH1 (H : Hp) (a C dx : Addr) (f : Str) (x : V) : Hp := upd (upd H dx (exd dx [(f, x)])) a (exo a C (some dx))
theorem raise1 {C : Addr} {f : Str} {x : V} {H : Hp} {Q : XK} (hq : ∀ d, H d = none → Q (.ref C) (some d) (upd H d (.xd [(f, x)]))) {a dx : Addr} (na : H a = none) (nd : upd H a (exo a C none) dx = none) (ne : dx ≠ a) :
    V.non = .non ∧ ∃ (d : Addr) (fs : List (Str × V)), errH1 (upd H a (exo a C none)) a C dx f x a = some (exo a C (some d)) ∧ errH1 (upd H a (exo a C none)) a C dx f x d = some (exd d fs) ∧ H d = none ∧
      Q (.ref C) (some d) (upd (del (errH1 (upd H a (exo a C none)) a C dx f x) a) d (.xd fs)) := by
  rw [upd_ne ne] at nd
  refine ⟨rfl, dx, [(f, x)], ?_, ?_, nd, ?_⟩
  · unfold errH1
    rw [upd_same]
  · unfold errH1
    rw [upd_ne ne, upd_same]
  · have e : upd (del (errH1 (upd H a (exo a C none)) a C dx f x) a) dx (.xd [(f, x)]) = upd H dx (.xd [(f, x)]) := by
      funext b
      by_cases h1 : b = dx
      · rw [h1, upd_same, upd_same]
      · rw [upd_ne h1, upd_ne h1]
        by_cases h2 : b = a
        · rw [h2, del_same, na]
        · rw [del_ne h2]
          unfold errH1
          rw [upd_ne h2, upd_ne h1, upd_ne h2]
    rw [e]
    exact hq dx nd
/-- a list of wishes -/
def Good (ns : List Int) : Prop := ns.Nodup ∧ ∀ n ∈ ns, 0 ≤ n
def wishV : List Int → List Int → V
  | [], _ => .non
  | n :: r, ls => if inV (.int n) (ls.map V.int) = true then .int n else wishV r ls
theorem wish_cases : ∀ (ns ls : List Int), wishV ns ls = .non ∨ ∃ n, wishV ns ls = .int n
  | [], _ => .inl rfl
  | n :: r, ls => by
    unfold wishV
    split
    · exact .inr ⟨n, rfl⟩
    · exact wish_cases r ls
theorem made1 {H : Hp} {x dx C : Addr} (nx : H x = none) (nd : H dx = none) : Same H (upd (upd H dx (.own x)) x (.ins C dx [])) := fun b o e => by
  rw [upd_ne (ne_of_none e nx), upd_ne (ne_of_none e nd)]
  exact e
theorem map_erase : ∀ (ls : List Int) (k : Nat), (ls.map V.int).eraseIdx k = (ls.eraseIdx k).map V.int
  | [], k => by cases k <;> rfl
  | n :: r, 0 => rfl
  | n :: r, k + 1 => by
    show V.int n :: (r.map V.int).eraseIdx k = _
    rw [map_erase r k]
    rfl
theorem drop_cons {ns : List Int} {i : Nat} {n : Int} (h : ns[i]? = some n) : ns.drop i = n :: ns.drop (i + 1) := by
  have lt : i < ns.length := (List.getElem?_eq_some_iff.mp h).1
  rw [List.drop_eq_getElem_cons lt]
  rw [List.getElem?_eq_getElem lt] at h
  rw [Option.some.inj h]
theorem good_iff_all {ns : List Int} : (ns.Nodup ∧ (ns.map fun n => decide (n ≥ 0)).all id = true) ↔ Good ns := by
  unfold Good
  rw [List.all_eq_true]
  constructor
  · rintro ⟨h1, h2⟩
    refine ⟨h1, fun n hn => ?_⟩
    have := h2 _ (List.mem_map.mpr ⟨n, hn, rfl⟩)
    exact of_decide_eq_true this
  · rintro ⟨h1, h2⟩
    refine ⟨h1, fun b hb => ?_⟩
    obtain ⟨n, hn, rfl⟩ := List.mem_map.mp hb
    exact decide_eq_true (h2 n hn)
theorem ite2N {c A B : Prop} [Decidable c] (h1 : ¬ c → A) (h2 : c → B) : if (!decide c) = true then A else B := by
  by_cases h : c
  · rw [decide_eq_true h]
    exact iteF (h2 h)
  · rw [decide_eq_false h]
    exact iteT (h1 h)
/-- the first price below 0, from place i on -/
def negAt : List Int → Nat → Option Nat
  | [], _ => none
  | n :: r, i => if n < 0 then some i else negAt r (i + 1)

instance (ns : List Int) : Decidable (Good ns) := by unfold Good; infer_instance
/-- a list of wishes in the heap: how many buyers, their things -/
def PairW (H : Hp) (u : Addr) (w : Int × List Int) : Prop := ∃ l, H u = some (.tup [.int w.1, .ref l]) ∧ H l = some (.tup (w.2.map V.int))
theorem PairW.same {H H' : Hp} {u : Addr} {w : Int × List Int} (s : Same H H') (h : PairW H u w) : PairW H' u w := by
  obtain ⟨l, h1, h2⟩ := h
  exact ⟨l, s _ _ h1, s _ _ h2⟩
def RowW (H : Hp) (us : List Addr) (pw : List (Int × List Int)) : Prop := us.length = pw.length ∧ ∀ (i : Nat) (u : Addr) (w : Int × List Int), us[i]? = some u → pw[i]? = some w → PairW H u w
theorem RowW.same {H H' : Hp} {us : List Addr} {pw : List (Int × List Int)} (s : Same H H') (h : RowW H us pw) : RowW H' us pw := ⟨h.1, fun i u w h1 h2 => (h.2 i u w h1 h2).same s⟩
theorem RowW.sx {p C dx : Addr} {fs : List (Str × V)} {H H' : Hp} {us : List Addr} {pw : List (Int × List Int)} (hp : H p = some (.ins C dx fs)) (s : SameX p H H') (h : RowW H us pw) : RowW H' us pw := ⟨h.1, fun i u w h1 h2 => by
  obtain ⟨l, e1, e2⟩ := h.2 i u w h1 h2
  refine ⟨l, s _ _ (fun z => ?_) e1, s _ _ (fun z => ?_) e2⟩
  · rw [z, hp] at e1
    cases e1
  · rw [z, hp] at e2
    cases e2⟩
/-- a list of wishes for things below m -/
def FitW (m : Int) (ns : List Int) : Prop := Good ns ∧ ∀ n ∈ ns, n < m
instance (m : Int) (ns : List Int) : Decidable (FitW m ns) := by unfold FitW; infer_instance
/-- the first wrong pair, from pair i on: by its buyers, or by its things -/
def badL (m : Int) : List (Int × List Int) → Nat → Option (Bool × Nat)
  | [], _ => none
  | w :: r, i => if w.1 < 1 then some (true, i) else if ¬ FitW m w.2 then some (false, i) else badL m r (i + 1)
theorem badL_num {m : Int} {w : Int × List Int} {r : List (Int × List Int)} {i : Nat} (h : w.1 < 1) : badL m (w :: r) i = some (true, i) := by
  unfold badL
  exact if_pos h
theorem badL_wish {m : Int} {w : Int × List Int} {r : List (Int × List Int)} {i : Nat} (h : ¬ w.1 < 1) (k : ¬ FitW m w.2) : badL m (w :: r) i = some (false, i) := by
  unfold badL
  rw [if_neg h]
  exact if_pos k
theorem badL_next {m : Int} {w : Int × List Int} {r : List (Int × List Int)} {i : Nat} (h : ¬ w.1 < 1) (k : FitW m w.2) : badL m (w :: r) i = badL m r (i + 1) := by
  rw [show badL m (w :: r) i = if w.1 < 1 then some (true, i) else if ¬ FitW m w.2 then some (false, i) else badL m r (i + 1) from rfl, if_neg h, if_neg fun z => z k]
inductive DueL | many (m : Int) | none | num (k : Nat) | wish (k : Nat) | made
/-- what is due for these pairs -/
def dueL (m : Int) (pw : List (Int × List Int)) : DueL := if m > 24 then .many m else if pw.length = 0 then .none else
  match badL m pw 0 with
  | some (true, k) => .num k
  | some (false, k) => .wish k
  | .none => .made
theorem dueL_many {m : Int} {pw : List (Int × List Int)} (h : m > 24) : dueL m pw = .many m := if_pos h
theorem dueL_none {m : Int} {pw : List (Int × List Int)} (h : ¬ m > 24) (k : pw.length = 0) : dueL m pw = .none := by
  unfold dueL
  rw [if_neg h]
  exact if_pos k
theorem dueL_rest {m : Int} {pw : List (Int × List Int)} (h : ¬ m > 24) (k : ¬ pw.length = 0) : dueL m pw = (match badL m pw 0 with
  | some (true, k) => .num k
  | some (false, k) => .wish k
  | .none => .made) := by
  unfold dueL
  rw [if_neg h, if_neg k]
def fL (m : Int) (t : Addr) : List (Str × V) := putF "wishes" (.ref t) (putF "many" (.int m) [])
theorem fL_many (m : Int) (t : Addr) : (fL m t).lookup ("many" : Str) = some (V.int m) := by rfl
theorem fL_wishes (m : Int) (t : Addr) : (fL m t).lookup ("wishes" : Str) = some (V.ref t) := by rfl
/-- a rule of lists of wishes -/
def LAt (C : Addr) (H : Hp) (p : Addr) (m : Int) (pw : List (Int × List Int)) : Prop := ∃ (dx t : Addr) (us : List Addr), H p = some (.ins C dx (fL m t)) ∧ H t = some (.tup (us.map V.ref)) ∧ RowW H us pw
theorem LAt.same {C : Addr} {H H' : Hp} {p : Addr} {m : Int} {pw : List (Int × List Int)} (s : Same H H') (h : LAt C H p m pw) : LAt C H' p m pw := by
  obtain ⟨dx, t, us, h1, h2, h3⟩ := h
  exact ⟨dx, t, us, s _ _ h1, s _ _ h2, h3.same s⟩
theorem drop_pair {l : List (Int × List Int)} {i : Nat} {n : Int × List Int} (h : l[i]? = some n) : l.drop i = n :: l.drop (i + 1) := by
  have lt : i < l.length := (List.getElem?_eq_some_iff.mp h).1
  rw [List.drop_eq_getElem_cons lt]
  rw [List.getElem?_eq_getElem lt] at h
  rw [Option.some.inj h]
theorem ge_any {m : Int} {ns : List Int} : (ns.map fun n => decide (n ≥ m)).any id = false ↔ ∀ n ∈ ns, n < m := by
  rw [List.any_map, List.any_eq_false]
  constructor
  · intro h n hn
    have := h n hn
    simp at this
    exact this
  · intro h n hn
    have := h n hn
    simp
    exact this
theorem lst_sx {p C dx y : Addr} {fs : List (Str × V)} {H H' : Hp} {xs : List V} (hp : H p = some (.ins C dx fs)) (s : SameX p H H') (h : H y = some (.lst xs)) : H' y = some (.lst xs) := s _ _ (fun z => by
  rw [z, hp] at h
  cases h) h

theorem erase_perm : ∀ {ls : List Int} {k : Nat} (h : k < ls.length), ([ls[k]] ++ ls.eraseIdx k).Perm ls
  | x :: r, 0, h => List.Perm.refl _
  | x :: r, k + 1, h => by
    have hk : k < r.length := by simpa using h
    show (r[k]'hk :: x :: r.eraseIdx k).Perm (x :: r)
    exact (List.Perm.swap _ _ _).trans ((erase_perm (ls := r) (k := k) hk).cons x)

theorem fL_shares (m : Int) (t : Addr) : (fL m t).lookup ("shares" : Str) = none := by rfl
theorem fL_away (m : Int) (t : Addr) : (fL m t).lookup ("away" : Str) = none := by rfl
/-- how many take thing i -/
def tkW (pw : List (Int × List Int)) (ns : List Int) (i : Nat) : Int := (pw.map fun w => if wishV w.2 ns = .int (i : Int) then w.1 else 0).sum
def evW (pw : List (Int × List Int)) : Int := (pw.map Prod.fst).sum
/-- pairs that a rule takes -/
structure FineW (m : Int) (pw : List (Int × List Int)) : Prop where
  l0 : 0 < pw.length
  l1 : pw.length ≤ 10
  b1 : ∀ w ∈ pw, 1 ≤ w.1
  b2 : ∀ w ∈ pw, w.1 ≤ 10 ^ 18
  f : ∀ w ∈ pw, FitW m w.2
  n : ∀ w ∈ pw, w.2.length < 64
theorem badL_none {m : Int} : ∀ {pw : List (Int × List Int)} {i : Nat}, (∀ w ∈ pw, 1 ≤ w.1 ∧ FitW m w.2) → badL m pw i = none
  | [], _, _ => rfl
  | w :: r, i, h => by
    have hw := h w List.mem_cons_self
    rw [badL_next (by omega) hw.2]
    exact badL_none fun v hv => h v (List.mem_cons_of_mem _ hv)
theorem FineW.made {m : Int} {pw : List (Int × List Int)} (h : FineW m pw) (hm : m ≤ 24) : dueL m pw = .made := by
  rw [dueL_rest (by omega) (by have := h.l0; omega), badL_none fun w hw => ⟨h.b1 w hw, h.f w hw⟩]
theorem wish_in : ∀ {ns ls : List Int} {n : Int}, wishV ns ls = .int n → n ∈ ns ∧ n ∈ ls
  | [], _, _, h => by cases h
  | k :: r, ls, n, h => by
    unfold wishV at h
    split at h
    · rename_i c
      cases h
      exact ⟨List.mem_cons_self, inV_int.mp c⟩
    · have := wish_in h
      exact ⟨List.mem_cons_of_mem _ this.1, this.2⟩
theorem tkW_snoc (pw : List (Int × List Int)) (ns : List Int) {j : Nat} {w : Int × List Int} (h : pw[j]? = some w) (i : Nat) : tkW (pw.take (j + 1)) ns i = tkW (pw.take j) ns i + if wishV w.2 ns = .int (i : Int) then w.1 else 0 := by
  unfold tkW
  rw [List.take_add_one, h, List.map_append, List.sum_append]
  simp
theorem evW_pos {m : Int} {pw : List (Int × List Int)} (h : FineW m pw) : 0 < evW pw ∧ evW pw ≤ 10 * 10 ^ 18 := by
  obtain ⟨l0, l1, b1, b2, _, _⟩ := h
  have up : ∀ {pw : List (Int × List Int)}, (∀ w ∈ pw, 1 ≤ w.1) → (∀ w ∈ pw, w.1 ≤ 10 ^ 18) → (pw.length : Int) ≤ evW pw ∧ evW pw ≤ (pw.length : Int) * 10 ^ 18 := fun {pw} => by
    induction pw with
    | nil =>
      intro _ _
      exact ⟨Int.le_refl _, Int.le_refl _⟩
    | cons w r ih =>
      intro c1 c2
      obtain ⟨i1, i2⟩ := ih (fun v hv => c1 v (List.mem_cons_of_mem _ hv)) (fun v hv => c2 v (List.mem_cons_of_mem _ hv))
      have a1 := c1 w List.mem_cons_self
      have a2 := c2 w List.mem_cons_self
      have e : evW (w :: r) = w.1 + evW r := rfl
      rw [e, List.length_cons]
      constructor <;> omega
  have := up b1 b2
  constructor <;> omega
theorem tkW_nn {pw : List (Int × List Int)} (h : ∀ w ∈ pw, 1 ≤ w.1) (ns : List Int) (i : Nat) : 0 ≤ tkW pw ns i := by
  refine sum_nn fun x hx => ?_
  obtain ⟨w, hw, rfl⟩ := List.mem_map.mp hx
  have := h w hw
  split <;> omega
theorem hit_le (v : V) (b : Int) (hb : 0 ≤ b) : ∀ m : Nat, ((List.range m).map fun i : Nat => if v = .int (i : Int) then b else 0).sum ≤ b ∧ ((∀ i : Nat, i < m → v ≠ .int (i : Int)) → ((List.range m).map fun i : Nat => if v = .int (i : Int) then b else 0).sum = 0)
  | 0 => ⟨hb, fun _ => rfl⟩
  | m + 1 => by
    obtain ⟨h1, h2⟩ := hit_le v b hb m
    rw [List.range_succ, List.map_append, List.sum_append]
    have e : (([m].map fun i : Nat => if v = .int (i : Int) then b else 0).sum : Int) = if v = .int (m : Int) then b else 0 := by simp
    rw [e]
    by_cases c : v = .int (m : Int)
    · have z := h2 fun i hi e2 => by
        rw [c] at e2
        have := V.int.inj e2
        omega
      rw [z, if_pos c]
      exact ⟨by omega, fun n => absurd c (n m (by omega))⟩
    · rw [if_neg c]
      exact ⟨by omega, fun n => by rw [h2 fun i hi => n i (by omega)]; rfl⟩
theorem tk_sum {pw : List (Int × List Int)} (h : ∀ w ∈ pw, 1 ≤ w.1) (ns : List Int) (m : Nat) : ((List.range m).map (tkW pw ns)).sum ≤ evW pw := by
  induction pw with
  | nil =>
    have : (List.range m).map (tkW [] ns) = List.replicate m 0 := by
      refine List.eq_replicate_iff.mpr ⟨by rw [List.length_map, List.length_range], fun b hb => ?_⟩
      obtain ⟨i, _, rfl⟩ := List.mem_map.mp hb
      rfl
    rw [this]
    have z : ∀ n : Nat, (List.replicate n (0 : Int)).sum = 0 := fun n => by
      induction n with
      | zero => rfl
      | succ n ih => rw [List.replicate_succ, List.sum_cons, ih]; rfl
    rw [z]
    exact Int.le_refl _
  | cons w r ih =>
    have ih := ih fun v hv => h v (List.mem_cons_of_mem _ hv)
    have hw := h w List.mem_cons_self
    have e : ∀ m : Nat, ((List.range m).map (tkW (w :: r) ns)).sum = ((List.range m).map fun i : Nat => if wishV w.2 ns = .int (i : Int) then w.1 else 0).sum + ((List.range m).map (tkW r ns)).sum := fun m => by
      induction m with
      | zero => rfl
      | succ m ih =>
        rw [List.range_succ, List.map_append, List.map_append, List.map_append, List.sum_append, List.sum_append, List.sum_append, ih]
        have t : tkW (w :: r) ns m = (if wishV w.2 ns = .int (m : Int) then w.1 else 0) + tkW r ns m := rfl
        simp only [List.map_cons, List.map_nil, List.sum_cons, List.sum_nil, t]
        omega
    rw [e]
    have := (hit_le (wishV w.2 ns) w.1 (by omega) m).1
    have e2 : evW (w :: r) = w.1 + evW r := rfl
    rw [e2]
    omega

theorem ixn_at {j m : Nat} (h : j < m) : ixN m (j : Int) = some j := by
  unfold ixN
  rw [if_pos (by omega), if_pos (by omega), Int.toNat_natCast]
theorem set_ints (ps : List Int) (j : Nat) (v : Int) : (ps.map V.int).set j (.int v) = (ps.set j v).map V.int := by rw [List.map_set]
theorem iteND {c A B : Prop} [Decidable c] (h : ¬ c) (a : A) : if (!decide c) = true then A else B := by
  rw [decide_eq_false h]
  exact iteT a

theorem fit_take {m : Nat} {fs : List Int} (h : fs.Perm ((List.range m).map fun j : Nat => (j : Int))) {j : Nat} : FitW m (fs.take j) := by
  have nd : fs.Nodup := by
    refine h.nodup_iff.mpr ?_
    refine List.nodup_range.map (f := fun j : Nat => (j : Int)) fun a b ne e => ne (by
      have : (a : Int) = b := e
      omega)
  have inr : ∀ x ∈ fs, 0 ≤ x ∧ x < (m : Int) := fun x hx => by
    obtain ⟨k, hk, rfl⟩ := List.mem_map.mp (h.mem_iff.mp hx)
    have := List.mem_range.mp hk
    constructor <;> omega
  exact ⟨⟨nd.sublist (List.take_sublist _ _), fun x hx => (inr x (List.mem_of_mem_take hx)).1⟩, fun x hx => (inr x (List.mem_of_mem_take hx)).2⟩
theorem lotB_low : ∀ {ns : List Int} {b b' m : Int}, b' ≤ b → lotB ns b m = true → lotB ns b' m = true
  | [], _, _, _, _, _ => rfl
  | n :: r, b, b', m, le, h => by
    have hn := lotB_in h n List.mem_cons_self
    have e : lotB (n :: r) b m = lotB r n m := if_neg (by omega)
    rw [e] at h
    exact (if_neg (by omega)).trans h
theorem lotB_filter (p : Int → Bool) : ∀ {ns : List Int} {b m : Int}, lotB ns b m = true → lotB (ns.filter p) b m = true
  | [], _, _, _ => rfl
  | n :: r, b, m, h => by
    have hn := lotB_in h n List.mem_cons_self
    have e : lotB (n :: r) b m = lotB r n m := if_neg (by omega)
    rw [e] at h
    have ih := lotB_filter p h
    rw [List.filter_cons]
    split
    · exact (if_neg (by omega) : lotB (n :: r.filter p) b m = lotB (r.filter p) n m).trans ih
    · exact lotB_low (by omega) ih
theorem lotB_one {x m : Int} (h0 : 0 ≤ x) (h1 : x < m) : lotB [x] (-1) m = true := (if_neg (by omega) : lotB [x] (-1) m = lotB [] x m).trans rfl

theorem wish_skip {ws ls : List Int} {j : Nat} {n : Int} (h : ws[j]? = some n) (k : ¬ inV (.int n) (ls.map V.int) = true) : wishV (ws.drop j) ls = wishV (ws.drop (j + 1)) ls := by
  have lt : j < ws.length := (List.getElem?_eq_some_iff.mp h).1
  rw [List.getElem?_eq_getElem lt] at h
  rw [List.drop_eq_getElem_cons lt, Option.some.inj h]
  show wishV (n :: ws.drop (j + 1)) ls = _
  rw [wishV]
  exact if_neg k
theorem wish_take {ws ls : List Int} {j : Nat} {n : Int} (h : ws[j]? = some n) (k : inV (.int n) (ls.map V.int) = true) : wishV (ws.drop j) ls = .int n := by
  have lt : j < ws.length := (List.getElem?_eq_some_iff.mp h).1
  rw [List.getElem?_eq_getElem lt] at h
  rw [List.drop_eq_getElem_cons lt, Option.some.inj h]
  show wishV (n :: ws.drop (j + 1)) ls = _
  rw [wishV]
  exact if_pos k
theorem cat_any {K : PySem.W.Frag} {a b : Addr} {xs ys : List V} {H : Hp} {Q : VK} (ha : H a = some (.tup xs)) (hb : H b = some (.tup ys)) (hz : xs.length + ys.length ≤ sizeLine) (q : ∀ H' p, Same H H' → H' p = some (.tup (xs ++ ys)) → Q (.ref p) H') : rCatA K (.ref a) (.ref b) H Q := by
  refine ⟨a, b, xs, ys, rfl, rfl, tup_t ha, tup_t hb, hz, fun e => ?_, fun _ e => ?_, fun _ _ p np => q _ p (same_upd np) upd_same⟩
  · subst e
    exact q H b (Same.refl H) hb
  · subst e
    exact q H a (Same.refl H) (ha.trans (by rw [List.append_nil]))
theorem dp_tints {K : PySem.W.Frag} {H : Hp} {a : Addr} {ns : List Int} (h : SqT K H a (ns.map V.int)) : Dp K H (.ref a) (.tuple (ns.map PyData.int)) := by
  refine .tup h ?_
  clear h
  induction ns with
  | nil => exact .nil
  | cons n r ih => exact .cons (.int n) ih
abbrev wD (w : Int × List Int) : PyData := .tuple [.int w.1, .tuple (w.2.map PyData.int)]
theorem dp_pair {K : PySem.W.Frag} {H : Hp} {u : Addr} {w : Int × List Int} (h : PairW H u w) : Dp K H (.ref u) (wD w) := by
  obtain ⟨l, hu, hl⟩ := h
  exact .tup (tup_t hu) (.cons (.int _) (.cons (dp_tints (tup_t hl)) .nil))
theorem RowW.uncons {H : Hp} {r : Addr} {rs : List Addr} {w : Int × List Int} {pw : List (Int × List Int)} (h : RowW H (r :: rs) (w :: pw)) : PairW H r w ∧ RowW H rs pw := ⟨h.2 0 r w rfl rfl, Nat.succ.inj h.1, fun i u ws h1 h2 => h.2 (i + 1) u ws h1 h2⟩
theorem dp_pairs {K : PySem.W.Frag} {H : Hp} : ∀ {rs : List Addr} {pw : List (Int × List Int)}, RowW H rs pw → DpAll K H (rs.map V.ref) (pw.map wD)
  | [], [], _ => .nil
  | [], _ :: _, h => by cases h.1
  | _ :: _, [], h => by cases h.1
  | r :: rs, w :: pw, h => .cons (dp_pair h.uncons.1) (dp_pairs h.uncons.2)
theorem lay_pairs : ∀ pw : List (Int × List Int), PyData.canLayAll0 (pw.map wD) = true
  | [] => rfl
  | w :: r => by
    show ((wD w).canLay0 && PyData.canLayAll0 (r.map wD)) = true
    rw [lay_pairs r, show (wD w).canLay0 = (true && (PyData.canLayAll0 (w.2.map PyData.int) && true)) from rfl, lay_ints]
    rfl
theorem depth_pairs : ∀ pw : List (Int × List Int), PyData.depthAll (pw.map wD) ≤ 2
  | [] => Nat.zero_le _
  | w :: r => by
    show max (PyData.depth (wD w)) (PyData.depthAll (r.map wD)) ≤ 2
    refine Nat.max_le.mpr ⟨?_, depth_pairs r⟩
    show max 0 (max (PyData.depthAll (w.2.map PyData.int) + 1) 0) + 1 ≤ 2
    rw [depthAll_ints]
    decide
theorem sh_pairs (pw : List (Int × List Int)) : SeqAt.shaped (.list (pw.map wD)) = true := by
  unfold SeqAt.shaped
  rw [show (PyData.list (pw.map wD)).canLay0 = true from lay_pairs pw]
  have : PyData.depth (.list (pw.map wD)) ≤ 64 := by
    show PyData.depthAll _ + 1 ≤ 64
    have := depth_pairs pw
    omega
  rw [decide_eq_true this]
  rfl
theorem PairW.put {H : Hp} {D u : Addr} {xs : List V} {o : HO} {w : Int × List Int} (hD : H D = some (.lst xs)) (h : PairW H u w) : PairW (upd H D o) u w := by
  obtain ⟨l, h1, h2⟩ := h
  have n1 : u ≠ D := fun z => by
    rw [z, hD] at h1
    cases h1
  have n2 : l ≠ D := fun z => by
    rw [z, hD] at h2
    cases h2
  exact ⟨l, (upd_ne n1).trans h1, (upd_ne n2).trans h2⟩
theorem RowW.put {H : Hp} {D : Addr} {xs : List V} {o : HO} {us : List Addr} {pw : List (Int × List Int)} (hD : H D = some (.lst xs)) (h : RowW H us pw) : RowW (upd H D o) us pw := ⟨h.1, fun i u w h1 h2 => (h.2 i u w h1 h2).put hD⟩
theorem RowW.snoc {H : Hp} {us : List Addr} {pw : List (Int × List Int)} {u : Addr} {w : Int × List Int} (h : RowW H us pw) (k : PairW H u w) : RowW H (us ++ [u]) (pw ++ [w]) := by
  refine ⟨by rw [List.length_append, List.length_append, h.1]; rfl, fun j r v h1 h2 => ?_⟩
  by_cases hj : j < us.length
  · rw [List.getElem?_append_left hj] at h1
    rw [List.getElem?_append_left (by have := h.1; omega)] at h2
    exact h.2 j r v h1 h2
  · rw [List.getElem?_append_right (by omega)] at h1
    rw [List.getElem?_append_right (by have := h.1; omega)] at h2
    obtain ⟨n, hn⟩ : ∃ n, j - us.length = n := ⟨_, rfl⟩
    rw [← h.1, hn] at h2
    rw [hn] at h1
    cases n with
    | zero =>
      cases h1
      cases h2
      exact k
    | succ n => cases h1

theorem RowW.one {H : Hp} {u : Addr} {w : Int × List Int} (k : PairW H u w) : RowW H [u] [w] := ⟨rfl, fun i v x h1 h2 => by
  cases i with
  | zero =>
    cases h1
    cases h2
    exact k
  | succ i => cases h1⟩
theorem LAt.put {C D p : Addr} {H : Hp} {xs : List V} {o : HO} {m : Int} {pw : List (Int × List Int)} (hD : H D = some (.lst xs)) (h : LAt C H p m pw) : LAt C (upd H D o) p m pw := by
  obtain ⟨dx, t, us, h1, h2, h3⟩ := h
  have n1 : p ≠ D := fun z => by
    rw [z, hD] at h1
    cases h1
  have n2 : t ≠ D := fun z => by
    rw [z, hD] at h2
    cases h2
  exact ⟨dx, t, us, (upd_ne n1).trans h1, (upd_ne n2).trans h2, h3.put hD⟩
theorem FineW.one (m : Nat) : FineW m [(1, [])] where
  l0 := by decide
  l1 := by decide
  b1 := fun w h => by
    rw [List.mem_singleton.mp h]
    decide
  b2 := fun w h => by
    rw [List.mem_singleton.mp h]
    decide
  f := fun w h => by
    rw [List.mem_singleton.mp h]
    exact ⟨⟨List.nodup_nil, fun n h => absurd h (by simp)⟩, fun n h => absurd h (by simp)⟩
  n := fun w h => by
    rw [List.mem_singleton.mp h]
    decide
/-- what the top has written of the classes -/
structure Txt (K : PySem.W.Frag) (mg : Str → Option Value) (C_Listed C_Ratio C_BadNumber C_TooMany C_BadWish C_NoBuyers C_ZeroBottom C_BadLot : Addr) : Prop where
  g_Listed : mg "Listed" = some (.ref C_Listed)
  kc_Listed : PySem.W.keepIn K (.ref C_Listed) = true
  hd_Listed : PySem.W.hasDictIn K C_Listed = true
  ha_Listed : PySem.W.findIn K (.ref C_Listed) "__class__" = some (some (.builtin "object.__class__"))
  hm_Listed : PySem.W.mroIn K C_Listed (.type "object") = some true
  cl_Listed : Cls K C_Listed
  mk_Listed : PySem.W.makesIn K C_Listed = true
  n_Listed_many : NoAttr K C_Listed "many"
  n_Listed_wishes : NoAttr K C_Listed "wishes"
  g_Ratio : mg "Ratio" = some (.ref C_Ratio)
  kc_Ratio : PySem.W.keepIn K (.ref C_Ratio) = true
  hd_Ratio : PySem.W.hasDictIn K C_Ratio = true
  ha_Ratio : PySem.W.findIn K (.ref C_Ratio) "__class__" = some (some (.builtin "object.__class__"))
  hm_Ratio : PySem.W.mroIn K C_Ratio (.type "object") = some true
  cl_Ratio : Cls K C_Ratio
  mk_Ratio : PySem.W.makesIn K C_Ratio = true
  n_Ratio_top : NoAttr K C_Ratio "top"
  n_Ratio_bottom : NoAttr K C_Ratio "bottom"
  sum_Ratio : SumC K C_Ratio
  sf_Ratio : PySem.W.selfFirst K C_Ratio = true
  si_Ratio : PySem.W.subIn K (.type "int") (.ref C_Ratio) = some false
  sr_Ratio : PySem.W.subIn K (.ref C_Ratio) (.type "int") = some false
  rf_Ratio_add : ∃ rc : Option Value, PySem.W.findIn K (.ref C_Ratio) "__radd__" = some rc ∧ (rc = none ∨ ∃ g : Addr, rc = some (.ref g))
  of_Ratio_add : ∃ f0 : Addr, PySem.W.findIn K (.ref C_Ratio) "__add__" = some (some (.ref f0))
  int_add : ∃ fo ro : Option Value, PySem.W.findIn K (.type "int") "__add__" = some fo ∧ PySem.W.findIn K (.type "int") "__radd__" = some ro
  rf_Ratio_sub : ∃ rc : Option Value, PySem.W.findIn K (.ref C_Ratio) "__rsub__" = some rc ∧ (rc = none ∨ ∃ g : Addr, rc = some (.ref g))
  of_Ratio_sub : ∃ f0 : Addr, PySem.W.findIn K (.ref C_Ratio) "__sub__" = some (some (.ref f0))
  int_sub : ∃ fo ro : Option Value, PySem.W.findIn K (.type "int") "__sub__" = some fo ∧ PySem.W.findIn K (.type "int") "__rsub__" = some ro
  g_BadNumber : mg "BadNumber" = some (.ref C_BadNumber)
  kc_BadNumber : PySem.W.keepIn K (.ref C_BadNumber) = true
  hd_BadNumber : PySem.W.hasDictIn K C_BadNumber = true
  ha_BadNumber : PySem.W.findIn K (.ref C_BadNumber) "__class__" = some (some (.builtin "object.__class__"))
  hm_BadNumber : PySem.W.mroIn K C_BadNumber (.type "object") = some true
  b_BadNumber : PySem.W.subIn K (.ref C_BadNumber) (.type "BaseException") = some true
  t_BadNumber : PySem.W.typeIn K (.ref C_BadNumber) = some (.type "type")
  ga_BadNumber : PySem.W.findIn K (.ref C_BadNumber) "__getattribute__" = some (some (.builtin "BaseException.__getattribute__"))
  gg_BadNumber : PySem.W.findIn K (.ref C_BadNumber) "__getattr__" = some none
  ox_BadNumber : OexC K C_BadNumber
  xf_BadNumber : XfC K C_BadNumber
  n_BadNumber_what : PySem.W.findIn K (.ref C_BadNumber) "what" = some none
  n_BadNumber_at : PySem.W.findIn K (.ref C_BadNumber) "at" = some none
  g_TooMany : mg "TooMany" = some (.ref C_TooMany)
  kc_TooMany : PySem.W.keepIn K (.ref C_TooMany) = true
  hd_TooMany : PySem.W.hasDictIn K C_TooMany = true
  ha_TooMany : PySem.W.findIn K (.ref C_TooMany) "__class__" = some (some (.builtin "object.__class__"))
  hm_TooMany : PySem.W.mroIn K C_TooMany (.type "object") = some true
  b_TooMany : PySem.W.subIn K (.ref C_TooMany) (.type "BaseException") = some true
  t_TooMany : PySem.W.typeIn K (.ref C_TooMany) = some (.type "type")
  ga_TooMany : PySem.W.findIn K (.ref C_TooMany) "__getattribute__" = some (some (.builtin "BaseException.__getattribute__"))
  gg_TooMany : PySem.W.findIn K (.ref C_TooMany) "__getattr__" = some none
  ox_TooMany : OexC K C_TooMany
  xf_TooMany : XfC K C_TooMany
  n_TooMany_many : PySem.W.findIn K (.ref C_TooMany) "many" = some none
  n_TooMany_most : PySem.W.findIn K (.ref C_TooMany) "most" = some none
  g_BadWish : mg "BadWish" = some (.ref C_BadWish)
  kc_BadWish : PySem.W.keepIn K (.ref C_BadWish) = true
  hd_BadWish : PySem.W.hasDictIn K C_BadWish = true
  ha_BadWish : PySem.W.findIn K (.ref C_BadWish) "__class__" = some (some (.builtin "object.__class__"))
  hm_BadWish : PySem.W.mroIn K C_BadWish (.type "object") = some true
  b_BadWish : PySem.W.subIn K (.ref C_BadWish) (.type "BaseException") = some true
  t_BadWish : PySem.W.typeIn K (.ref C_BadWish) = some (.type "type")
  ga_BadWish : PySem.W.findIn K (.ref C_BadWish) "__getattribute__" = some (some (.builtin "BaseException.__getattribute__"))
  gg_BadWish : PySem.W.findIn K (.ref C_BadWish) "__getattr__" = some none
  ox_BadWish : OexC K C_BadWish
  xf_BadWish : XfC K C_BadWish
  n_BadWish_at : PySem.W.findIn K (.ref C_BadWish) "at" = some none
  g_NoBuyers : mg "NoBuyers" = some (.ref C_NoBuyers)
  kc_NoBuyers : PySem.W.keepIn K (.ref C_NoBuyers) = true
  hd_NoBuyers : PySem.W.hasDictIn K C_NoBuyers = true
  ha_NoBuyers : PySem.W.findIn K (.ref C_NoBuyers) "__class__" = some (some (.builtin "object.__class__"))
  hm_NoBuyers : PySem.W.mroIn K C_NoBuyers (.type "object") = some true
  b_NoBuyers : PySem.W.subIn K (.ref C_NoBuyers) (.type "BaseException") = some true
  t_NoBuyers : PySem.W.typeIn K (.ref C_NoBuyers) = some (.type "type")
  ga_NoBuyers : PySem.W.findIn K (.ref C_NoBuyers) "__getattribute__" = some (some (.builtin "BaseException.__getattribute__"))
  gg_NoBuyers : PySem.W.findIn K (.ref C_NoBuyers) "__getattr__" = some none
  x_NoBuyers : PySem.W.excIn K C_NoBuyers [.type "ValueError", .type "Exception", .type "BaseException", .type "object"] "ValueError.__new__" = true
  g_ZeroBottom : mg "ZeroBottom" = some (.ref C_ZeroBottom)
  kc_ZeroBottom : PySem.W.keepIn K (.ref C_ZeroBottom) = true
  hd_ZeroBottom : PySem.W.hasDictIn K C_ZeroBottom = true
  ha_ZeroBottom : PySem.W.findIn K (.ref C_ZeroBottom) "__class__" = some (some (.builtin "object.__class__"))
  hm_ZeroBottom : PySem.W.mroIn K C_ZeroBottom (.type "object") = some true
  b_ZeroBottom : PySem.W.subIn K (.ref C_ZeroBottom) (.type "BaseException") = some true
  t_ZeroBottom : PySem.W.typeIn K (.ref C_ZeroBottom) = some (.type "type")
  ga_ZeroBottom : PySem.W.findIn K (.ref C_ZeroBottom) "__getattribute__" = some (some (.builtin "BaseException.__getattribute__"))
  gg_ZeroBottom : PySem.W.findIn K (.ref C_ZeroBottom) "__getattr__" = some none
  x_ZeroBottom : PySem.W.excIn K C_ZeroBottom [.type "ValueError", .type "Exception", .type "BaseException", .type "object"] "ValueError.__new__" = true
  g_BadLot : mg "BadLot" = some (.ref C_BadLot)
  kc_BadLot : PySem.W.keepIn K (.ref C_BadLot) = true
  hd_BadLot : PySem.W.hasDictIn K C_BadLot = true
  ha_BadLot : PySem.W.findIn K (.ref C_BadLot) "__class__" = some (some (.builtin "object.__class__"))
  hm_BadLot : PySem.W.mroIn K C_BadLot (.type "object") = some true
  b_BadLot : PySem.W.subIn K (.ref C_BadLot) (.type "BaseException") = some true
  t_BadLot : PySem.W.typeIn K (.ref C_BadLot) = some (.type "type")
  ga_BadLot : PySem.W.findIn K (.ref C_BadLot) "__getattribute__" = some (some (.builtin "BaseException.__getattribute__"))
  gg_BadLot : PySem.W.findIn K (.ref C_BadLot) "__getattr__" = some none
  x_BadLot : PySem.W.excIn K C_BadLot [.type "ValueError", .type "Exception", .type "BaseException", .type "object"] "ValueError.__new__" = true
  hnc : PySem.W.specialIn K (.builtin "object.__class__") "__get__" = some (some (.builtin "getset_descriptor.__get__"))
  htk : PySem.W.takesIn K (.builtin "object.__class__") = some true
  sub_BadLot_BadLot : PySem.W.subIn K (.ref C_BadLot) (.ref C_BadLot) = some true
  kit_Ratio_Ratio : PySem.W.kitOne K (.ref C_Ratio) (.ref C_Ratio) = some true
  kit_int_Ratio : PySem.W.kitOne K (.type "int") (.ref C_Ratio) = some false
  g_gcd : mg "gcd" = some (.builtin "math.gcd")
  g_MOST_THINGS : ∃ t, mg "MOST_THINGS" = some (.int 24 t)
theorem Txt.ec_BadNumber {K : PySem.W.Frag} {mg : Str → Option Value} {C_Listed C_Ratio C_BadNumber C_TooMany C_BadWish C_NoBuyers C_ZeroBottom C_BadLot : Addr} (T : Txt K mg C_Listed C_Ratio C_BadNumber C_TooMany C_BadWish C_NoBuyers C_ZeroBottom C_BadLot) : ExcC K C_BadNumber := ⟨T.ga_BadNumber, T.gg_BadNumber, T.b_BadNumber, T.hd_BadNumber, T.ha_BadNumber, T.hnc, T.htk, T.hm_BadNumber⟩
theorem Txt.ec_TooMany {K : PySem.W.Frag} {mg : Str → Option Value} {C_Listed C_Ratio C_BadNumber C_TooMany C_BadWish C_NoBuyers C_ZeroBottom C_BadLot : Addr} (T : Txt K mg C_Listed C_Ratio C_BadNumber C_TooMany C_BadWish C_NoBuyers C_ZeroBottom C_BadLot) : ExcC K C_TooMany := ⟨T.ga_TooMany, T.gg_TooMany, T.b_TooMany, T.hd_TooMany, T.ha_TooMany, T.hnc, T.htk, T.hm_TooMany⟩
theorem Txt.ec_BadWish {K : PySem.W.Frag} {mg : Str → Option Value} {C_Listed C_Ratio C_BadNumber C_TooMany C_BadWish C_NoBuyers C_ZeroBottom C_BadLot : Addr} (T : Txt K mg C_Listed C_Ratio C_BadNumber C_TooMany C_BadWish C_NoBuyers C_ZeroBottom C_BadLot) : ExcC K C_BadWish := ⟨T.ga_BadWish, T.gg_BadWish, T.b_BadWish, T.hd_BadWish, T.ha_BadWish, T.hnc, T.htk, T.hm_BadWish⟩
theorem Txt.ec_NoBuyers {K : PySem.W.Frag} {mg : Str → Option Value} {C_Listed C_Ratio C_BadNumber C_TooMany C_BadWish C_NoBuyers C_ZeroBottom C_BadLot : Addr} (T : Txt K mg C_Listed C_Ratio C_BadNumber C_TooMany C_BadWish C_NoBuyers C_ZeroBottom C_BadLot) : ExcC K C_NoBuyers := ⟨T.ga_NoBuyers, T.gg_NoBuyers, T.b_NoBuyers, T.hd_NoBuyers, T.ha_NoBuyers, T.hnc, T.htk, T.hm_NoBuyers⟩
theorem Txt.ec_ZeroBottom {K : PySem.W.Frag} {mg : Str → Option Value} {C_Listed C_Ratio C_BadNumber C_TooMany C_BadWish C_NoBuyers C_ZeroBottom C_BadLot : Addr} (T : Txt K mg C_Listed C_Ratio C_BadNumber C_TooMany C_BadWish C_NoBuyers C_ZeroBottom C_BadLot) : ExcC K C_ZeroBottom := ⟨T.ga_ZeroBottom, T.gg_ZeroBottom, T.b_ZeroBottom, T.hd_ZeroBottom, T.ha_ZeroBottom, T.hnc, T.htk, T.hm_ZeroBottom⟩
theorem Txt.ec_BadLot {K : PySem.W.Frag} {mg : Str → Option Value} {C_Listed C_Ratio C_BadNumber C_TooMany C_BadWish C_NoBuyers C_ZeroBottom C_BadLot : Addr} (T : Txt K mg C_Listed C_Ratio C_BadNumber C_TooMany C_BadWish C_NoBuyers C_ZeroBottom C_BadLot) : ExcC K C_BadLot := ⟨T.ga_BadLot, T.gg_BadLot, T.b_BadLot, T.hd_BadLot, T.ha_BadLot, T.hnc, T.htk, T.hm_BadLot⟩
theorem Txt.exm_BadLot_BadLot {K : PySem.W.Frag} {mg : Str → Option Value} {C_Listed C_Ratio C_BadNumber C_TooMany C_BadWish C_NoBuyers C_ZeroBottom C_BadLot : Addr} (T : Txt K mg C_Listed C_Ratio C_BadNumber C_TooMany C_BadWish C_NoBuyers C_ZeroBottom C_BadLot) : PySem.W.exmOne K (.ref C_BadLot) (.ref C_BadLot) = some true := PySem.W.exm_ref T.b_BadLot T.hd_BadLot T.t_BadLot T.sub_BadLot_BadLot

/-- a def that is called by its name, with its promise -/
def Cal (P : Program) (w : World) (K : PySem.W.Frag) (mg : Str → Option Value) (base : Heap) (CX : CXT) (k : Nat) (x : Str) (ps : List Str) (sp : Sp) : Prop :=
  ∃ (f : Addr) (fd : FuncData), FnOk P w K mg base CX k f fd ps sp ∧ mg x = some (.ref f) ∧ PySem.W.keepIn K (.ref f) = true ∧ Binds K fd ps []
/-- an own class's __init__; dvs: what stands for the parameters that a short call leaves out -/
def CalI (P : Program) (w : World) (K : PySem.W.Frag) (mg : Str → Option Value) (base : Heap) (CX : CXT) (k : Nat) (C : Addr) (ps : List Str) (sp : Sp) (dvs : List V) : Prop :=
  ∃ (f : Addr) (fd : FuncData), FnOk P w K mg base CX k f fd ps sp ∧ Mk K C f ∧ Binds K fd ps [] ∧ ∃ ds, Vals dvs ds ∧ Binds K fd ps ds
/-- an own error's __init__ -/
def CalX (P : Program) (w : World) (K : PySem.W.Frag) (mg : Str → Option Value) (base : Heap) (CX : CXT) (k : Nat) (C : Addr) (ps : List Str) (sp : Sp) : Prop :=
  ∃ (f : Addr) (fd : FuncData), FnOk P w K mg base CX k f fd ps sp ∧ PySem.W.findIn K (.ref C) "__init__" = some (some (.ref f)) ∧ PySem.W.typeIn K (.ref f) = some (.type "function") ∧ Binds K fd ps []
/-- a method -/
def CalM (P : Program) (w : World) (K : PySem.W.Frag) (mg : Str → Option Value) (base : Heap) (CX : CXT) (k : Nat) (C : Addr) (m : Str) (ps : List Str) (sp : Sp) : Prop :=
  ∃ (f : Addr) (fd : FuncData), FnOk P w K mg base CX k f fd ps sp ∧ Meth K C m f ∧ Binds K fd ps []
section
variable {P : Program} {w : World} {K : PySem.W.Frag} {mg : Str → Option Value} {base : Heap}
def sp_BadNumber___init__ (C : Addr) : Sp := fun vs H Q _ => ∃ (a : Addr) (x y : V), vs = [.ref a, x, y] ∧ H a = some (exo a C none) ∧ ∀ dx, H dx = none → dx ≠ a → Q .non (errH H a C dx "what" "at" x y)
theorem ok_BadNumber___init__ {f : Addr} {fd : FuncData} {C_Listed C_Ratio C_BadNumber C_TooMany C_BadWish C_NoBuyers C_ZeroBottom C_BadLot : Addr} (F : Fun K "__init__" "BadNumber.__init__" s_BadNumber___init__ f fd) (T : Txt K mg C_Listed C_Ratio C_BadNumber C_TooMany C_BadWish C_NoBuyers C_ZeroBottom C_BadLot) : FnOk P w K mg base CX0 1 f fd ["self", "what", "at"] (sp_BadNumber___init__ C_BadNumber) := by
  refine F.ok sc_BadNumber___init__ (fun vs H Q E h => ?_) (fun cdv A outer s H vs Q E hr h => ?_)
  · obtain ⟨a, x, y, rfl, _⟩ := h
    rfl
  · obtain ⟨a, x, y, rfl, ha, q⟩ := h
    refine ⟨_, (pss_cons (ps_ost (pv 0) (pv 1))
      (pss_one (ps_ost (pv 0) (pv 2)))), ?_⟩
    refine ⟨_, rfl, _, rfl, a, C_BadNumber, rfl, T.ox_BadNumber, T.n_BadNumber_what, .inl ⟨ha, fun dx nd ne => ?_⟩⟩
    exact ⟨_, rfl, _, rfl, a, C_BadNumber, rfl, T.ox_BadNumber, T.n_BadNumber_at, .inr ⟨dx, _, upd_same, (upd_ne ne).trans upd_same, by show 1 ≤ 900; decide, q dx nd ne⟩⟩
def sp_TooMany___init__ (C : Addr) : Sp := fun vs H Q _ => ∃ (a : Addr) (x y : V), vs = [.ref a, x, y] ∧ H a = some (exo a C none) ∧ ∀ dx, H dx = none → dx ≠ a → Q .non (errH H a C dx "many" "most" x y)
theorem ok_TooMany___init__ {f : Addr} {fd : FuncData} {C_Listed C_Ratio C_BadNumber C_TooMany C_BadWish C_NoBuyers C_ZeroBottom C_BadLot : Addr} (F : Fun K "__init__" "TooMany.__init__" s_TooMany___init__ f fd) (T : Txt K mg C_Listed C_Ratio C_BadNumber C_TooMany C_BadWish C_NoBuyers C_ZeroBottom C_BadLot) : FnOk P w K mg base CX0 1 f fd ["self", "many", "most"] (sp_TooMany___init__ C_TooMany) := by
  refine F.ok sc_TooMany___init__ (fun vs H Q E h => ?_) (fun cdv A outer s H vs Q E hr h => ?_)
  · obtain ⟨a, x, y, rfl, _⟩ := h
    rfl
  · obtain ⟨a, x, y, rfl, ha, q⟩ := h
    refine ⟨_, (pss_cons (ps_ost (pv 0) (pv 1))
      (pss_one (ps_ost (pv 0) (pv 2)))), ?_⟩
    refine ⟨_, rfl, _, rfl, a, C_TooMany, rfl, T.ox_TooMany, T.n_TooMany_many, .inl ⟨ha, fun dx nd ne => ?_⟩⟩
    exact ⟨_, rfl, _, rfl, a, C_TooMany, rfl, T.ox_TooMany, T.n_TooMany_most, .inr ⟨dx, _, upd_same, (upd_ne ne).trans upd_same, by show 1 ≤ 900; decide, q dx nd ne⟩⟩
def sp_BadWish___init__ (C : Addr) : Sp := fun vs H Q _ => ∃ (a : Addr) (x : V), vs = [.ref a, x] ∧ H a = some (exo a C none) ∧ ∀ dx, H dx = none → dx ≠ a → Q .non (errH1 H a C dx "at" x)
theorem ok_BadWish___init__ {f : Addr} {fd : FuncData} {C_Listed C_Ratio C_BadNumber C_TooMany C_BadWish C_NoBuyers C_ZeroBottom C_BadLot : Addr} (F : Fun K "__init__" "BadWish.__init__" s_BadWish___init__ f fd) (T : Txt K mg C_Listed C_Ratio C_BadNumber C_TooMany C_BadWish C_NoBuyers C_ZeroBottom C_BadLot) : FnOk P w K mg base CX0 1 f fd ["self", "at"] (sp_BadWish___init__ C_BadWish) := by
  refine F.ok sc_BadWish___init__ (fun vs H Q E h => ?_) (fun cdv A outer s H vs Q E hr h => ?_)
  · obtain ⟨a, x, rfl, _⟩ := h
    rfl
  · obtain ⟨a, x, rfl, ha, q⟩ := h
    refine ⟨_, (pss_one (ps_ost (pv 0) (pv 1))), ?_⟩
    exact ⟨_, rfl, _, rfl, a, C_BadWish, rfl, T.ox_BadWish, T.n_BadWish_at, .inl ⟨ha, fun dx nd ne => q dx nd ne⟩⟩
def sp_check_many (CT : Addr) : Sp := fun vs H Q E => ∃ m n : Int, vs = [.int m, .int n] ∧ (m > n → ∀ d, H d = none → E (.ref CT) (some d) (upd H d (.xd [("most", .int n), ("many", .int m)]))) ∧ (¬ m > n → Q .non H)
theorem ok_check_many {f : Addr} {fd : FuncData} {C_Listed C_Ratio C_BadNumber C_TooMany C_BadWish C_NoBuyers C_ZeroBottom C_BadLot : Addr} (F : Fun K "check_many" "check_many" s_check_many f fd) (T : Txt K mg C_Listed C_Ratio C_BadNumber C_TooMany C_BadWish C_NoBuyers C_ZeroBottom C_BadLot) (c_TooMany___init__ : CalX P w K mg base CX0 1 C_TooMany ["self", "many", "most"] (sp_TooMany___init__ C_TooMany)) : FnOk P w K mg base (L2.CX P w) 3 f fd ["many", "most"] (sp_check_many C_TooMany) := by
  refine F.okX sc_check_many (fun vs H Q E h => ?_) (fun cdv A outer s H vs Q E hr h => ?_)
  · obtain ⟨m, n, rfl, _⟩ := h
    rfl
  · obtain ⟨m, n, rfl, kE, q⟩ := h
    obtain ⟨f_TooMany___init__, fd_TooMany___init__, G_TooMany___init__, ic_TooMany___init__, ti_TooMany___init__, b_TooMany___init__⟩ := c_TooMany___init__
    refine ⟨_, (pss_one (ps_if (pt_cmpR op_gt (pv 0) (pv 1) (nomark _)) (pss_one (ps_raise rfl (takes_of rfl rfl rfl rfl) (pmk_oex T.ox_TooMany ic_TooMany___init__ ti_TooMany___init__ G_TooMany___init__ (hr.mono (by decide)) b_TooMany___init__ .nil pass0 (by exact rfl) T.g_TooMany (pa_cons (pv 0) (pa_cons (pv 1) pa_nil))))) pss_nil)), ?_⟩
    refine ⟨_, rfl, _, rfl, _, _, rfl, rfl, _, rfl, ite2 (fun e => ?_) (fun e => q fun z => e (decide_eq_true z))⟩
    exact ⟨_, rfl, _, rfl, (by show 2 ≤ 1000; decide), fun a na => ⟨a, _, _, rfl, upd_same, fun dx nd ne => raise2 (kE (of_decide_eq_true e)) na nd ne⟩⟩
def sp_Rule___init__ (C CT : Addr) : Sp := fun vs H Q E => ∃ (p dx : Addr) (fs : List (Str × V)) (m : Int), vs = [.ref p, .int m] ∧ H p = some (.ins C dx fs) ∧ fs.length ≤ 900 ∧ (m > 24 → ∀ d, H d = none → E (.ref CT) (some d) (upd H d (.xd [("most", .int 24), ("many", .int m)]))) ∧ (¬ m > 24 → Q .non (upd H p (.ins C dx (putF "many" (.int m) fs))))
theorem ok_Rule___init__ {f : Addr} {fd : FuncData} {C_Listed C_Ratio C_BadNumber C_TooMany C_BadWish C_NoBuyers C_ZeroBottom C_BadLot : Addr} (F : Fun K "__init__" "Rule.__init__" s_Rule___init__ f fd) (T : Txt K mg C_Listed C_Ratio C_BadNumber C_TooMany C_BadWish C_NoBuyers C_ZeroBottom C_BadLot) (c_check_many : Cal P w K mg base (L2.CX P w) 3 "check_many" ["many", "most"] (sp_check_many C_TooMany)) : FnOk P w K mg base (L2.CX P w) 4 f fd ["self", "many"] (sp_Rule___init__ C_Listed C_TooMany) := by
  refine F.okX sc_Rule___init__ (fun vs H Q E h => ?_) (fun cdv A outer s H vs Q E hr h => ?_)
  · obtain ⟨p, dx, fs, m, rfl, _⟩ := h
    rfl
  · obtain ⟨p, dx, fs, m, rfl, hp, hl, kE, q⟩ := h
    obtain ⟨f_check_many, fd_check_many, G_check_many, m_check_many, k_check_many, b_check_many⟩ := c_check_many
    refine ⟨_, (pss_cons (ps_expr (pe_call G_check_many (hr.mono (by decide)) (by rfl) m_check_many k_check_many b_check_many .nil (passes_call (takes_of rfl rfl rfl rfl) (fun _ _ _ _ h => h)) (pa_cons (pv 1) (pa_cons (pe_glob (v := .int 24) (by rfl) T.g_MOST_THINGS.choose_spec ⟨_, rfl⟩) pa_nil))))
      (pss_one (ps_fld (pv 0) (pv 1) rfl))), ?_⟩
    refine ⟨_, rfl, m, 24, rfl, kE, fun e => ?_⟩
    exact ⟨_, rfl, _, rfl, p, C_Listed, dx, fs, rfl, hp, T.cl_Listed, T.n_Listed_many, by omega, q e⟩
def sp_check_lot (K : PySem.W.Frag) (CL : Addr) : Sp := fun vs H Q E => ∃ (l : Addr) (ns : List Int) (m : Int), vs = [.ref l, .int m] ∧ SqT K H l (ns.map V.int) ∧ (lotB ns (-1) m = false → E (.ref CL) none H) ∧ (lotB ns (-1) m = true → Q .non H)
theorem ok_check_lot {f : Addr} {fd : FuncData} {C_Listed C_Ratio C_BadNumber C_TooMany C_BadWish C_NoBuyers C_ZeroBottom C_BadLot : Addr} (F : Fun K "check_lot" "check_lot" s_check_lot f fd) (T : Txt K mg C_Listed C_Ratio C_BadNumber C_TooMany C_BadWish C_NoBuyers C_ZeroBottom C_BadLot) : FnOk P w K mg base (L2.CX P w) 1 f fd ["lot", "many"] (sp_check_lot K C_BadLot) := by
  refine F.okX sc_check_lot (fun vs H Q E h => ?_) (fun cdv A outer s H vs Q E hr h => ?_)
  · obtain ⟨l, ns, m, rfl, _⟩ := h
    rfl
  · obtain ⟨l, ns, m, rfl, hl, kE, q⟩ := h
    refine ⟨_, (pss_cons (ps_set (i := 2) sc_check_lot.nd rfl (Or.inl rfl) (pe_un un_neg pe_int))
      (pss_one (ps_for (passes_of rfl) rfl (pi_tup (pv 0)) (pg_name (i := 3) sc_check_lot.nd rfl (Or.inl rfl))
      (pss_cons (ps_if (PW.pt (pw_or (pt_cmpR op_le (pv 3) (pv 2) (nomark _)) (pw_or1 (pt_cmpR op_ge (pv 3) (pv 1) (nomark _))))) (pss_one (ps_raise rfl (takes_of rfl rfl rfl rfl) (pmk_own PySem.F.excBase_ValueError T.x_BadLot T.g_BadLot T.kc_BadLot (raises_own T.b_BadLot T.t_BadLot) (by exact rfl)))) pss_nil)
      (pss_one (ps_set (i := 2) sc_check_lot.nd rfl (Or.inl rfl) (pv 3))))))), ?_⟩
    refine ⟨1, rfl, ?_⟩
    refine ⟨_, rfl, l, rfl, ⟨_, hl⟩, for_tup (K := K) (a := l) (xs := ns.map V.int) (fun i σ H2 => ∃ (b : Int) (y : Option V), σ = [some (.ref l), some (.int m), some (.int b), y] ∧ H2 = H ∧ lotB ns (-1) m = lotB (ns.drop i) b m) ⟨-1, none, rfl, rfl, rfl⟩ (fun i σ H2 _ ⟨_, _, _, e, _⟩ => e ▸ hl) ?_ ?_⟩
    · rintro i x σ H2 hi ⟨b, y, rfl, rfl, hb⟩
      obtain ⟨n, rfl, hn⟩ := int_of hi
      have hd : ns.drop i = n :: ns.drop (i + 1) := by
        have lt : i < ns.length := (List.getElem?_eq_some_iff.mp hn).1
        rw [List.drop_eq_getElem_cons lt]
        rw [List.getElem?_eq_getElem lt] at hn
        rw [Option.some.inj hn]
      rw [hd] at hb
      refine ⟨_, rfl, _, rfl, _, _, rfl, rfl, _, rfl, ite2 (fun c => ?_) (fun c => ⟨_, rfl, _, rfl, _, _, rfl, rfl, _, rfl, ite2 (fun c2 => ?_) (fun c2 => ?_)⟩)⟩
      · exact kE (hb.trans (if_pos (.inl (of_decide_eq_true c))))
      · exact kE (hb.trans (if_pos (.inr (of_decide_eq_true c2))))
      · refine ⟨_, rfl, n, _, rfl, rfl, ?_⟩
        rw [hb]
        exact if_neg fun z => z.elim (fun z => c (decide_eq_true z)) fun z => c2 (decide_eq_true z)
    · rintro σ H2 ⟨b, y, rfl, rfl, hb⟩
      rw [List.length_map, List.drop_length] at hb
      exact q hb
def sp__can_be_wished : Sp := fun vs H Q _ => ∃ (t : Addr) (ns : List Int), vs = [.ref t] ∧ H t = some (.tup (ns.map V.int)) ∧ ns.length < 64 ∧ (Good ns → ∀ H', Same H H' → Q (.bl true) H') ∧ (¬ Good ns → ∀ H', Same H H' → Q (.bl false) H')
theorem ok__can_be_wished {f : Addr} {fd : FuncData} {C_Listed C_Ratio C_BadNumber C_TooMany C_BadWish C_NoBuyers C_ZeroBottom C_BadLot : Addr} (F : Fun K "_can_be_wished" "_can_be_wished" s__can_be_wished f fd) (T : Txt K mg C_Listed C_Ratio C_BadNumber C_TooMany C_BadWish C_NoBuyers C_ZeroBottom C_BadLot) (m_all : mg "all" = none) (m_len : mg "len" = none) (m_set : mg "set" = none) : FnOk P w K mg base CX0 1 f fd ["things"] sp__can_be_wished := by
  refine F.ok sc__can_be_wished (fun vs H Q E h => ?_) (fun cdv A outer s H vs Q E hr h => ?_)
  · obtain ⟨t, ns, rfl, _⟩ := h
    rfl
  · obtain ⟨t, ns, rfl, ht, nl, qt, qf⟩ := h
    refine ⟨_, (pss_one (ps_ret (pe_and (pe_cmpR op_eq (pe_lenSetT rfl (by rfl) m_len (by rfl) m_set (pv 0)) (pe_callB call_len_seq (by rfl) m_len (by decide +kernel) (pa_cons (pv 0) pa_nil)) (nomark _)) (pe_one (pe_callB (cr_all rfl) (by rfl) m_all (by decide +kernel) (pa_cons (pe_lc (own := [("thing", 1)]) (g := (gName 1)) (tt := tYes) rfl sc__can_be_wished.nd (pi_tup (pv 0)) (blkOk_by (own := [("thing", 1)]) (N := ["things", "thing"]) (sc := defScope s__can_be_wished) (by decide +kernel)) (fun _ _ _ _ _ => (pg_name (i := 1) sc__can_be_wished.nd rfl (Or.inl rfl))) (fun _ _ _ _ _ => pts_nil) (fun _ _ _ _ _ => (pe_cmpR op_ge (pv 1) pe_int (nomark _)))) pa_nil)))))), ?_⟩
    refine ⟨_, rfl, t, ns, rfl, tup_t ht, nl, fun c hc => ?_⟩
    refine ⟨_, rfl, t, _, rfl, .inr (tup_t ht), rfl, _, rfl, ?_⟩
    rw [List.length_map]
    refine ite2 (fun e => ?_) (fun e => ?_)
    · have nd : ns.Nodup := hc.mp (by
        have := V.int.inj (of_decide_eq_true e)
        omega)
      refine ⟨_, rfl, t, rfl, ⟨_, tup_t ht⟩, fun D nD => lc_tup (K := K) (a := t) (xs := ns.map V.int) (fun i H2 => Same H H2 ∧ H2 D = some (.lst (((ns.take i).map fun n => decide (n ≥ 0)).map V.bl))) ⟨same_upd nD, upd_same⟩ (fun i H2 _ ⟨s, _⟩ => tup_t (s _ _ ht)) ?_ ?_⟩
      · rintro i x H2 hi ⟨s, hD⟩
        obtain ⟨n, rfl, hin⟩ := int_of hi
        refine ⟨rfl, ?_⟩
        refine lc_yes ?_
        refine iteT ?_
        refine ⟨_, rfl, _, _, rfl, rfl, _, hD, ?_, same_mut s nD, ?_⟩
        · rw [List.length_map, List.length_map, List.length_take]
          exact small1000 (by omega)
        · rw [upd_same, List.take_add_one, hin, List.map_append, List.map_append]
          rfl
      · rintro H2 ⟨s, hD⟩
        rw [List.length_map, List.take_length] at hD
        refine ⟨D, _, rfl, lst_l hD, ?_⟩
        cases e2 : (ns.map fun n => decide (n ≥ 0)).all id with
        | true => exact qt (good_iff_all.mp ⟨nd, e2⟩) H2 s
        | false => exact qf (fun g => by
            have := (good_iff_all.mpr g).2
            rw [e2] at this
            cases this) H2 s
    · have nn : ¬ ns.Nodup := fun nd => e (by
        rw [hc.mpr nd]
        exact decide_eq_true rfl)
      exact qf (fun g => nn g.1) H (Same.refl H)
def sp__first_wish : Sp := fun vs H Q _ => ∃ (t l : Addr) (ns ls : List Int), vs = [.ref t, .ref l] ∧ H t = some (.tup (ns.map V.int)) ∧ H l = some (.tup (ls.map V.int)) ∧ Q (wishV ns ls) H
theorem ok__first_wish {f : Addr} {fd : FuncData} {C_Listed C_Ratio C_BadNumber C_TooMany C_BadWish C_NoBuyers C_ZeroBottom C_BadLot : Addr} (F : Fun K "_first_wish" "_first_wish" s__first_wish f fd) (T : Txt K mg C_Listed C_Ratio C_BadNumber C_TooMany C_BadWish C_NoBuyers C_ZeroBottom C_BadLot) : FnOk P w K mg base CX0 1 f fd ["things", "lot"] sp__first_wish := by
  refine F.ok sc__first_wish (fun vs H Q E h => ?_) (fun cdv A outer s H vs Q E hr h => ?_)
  · obtain ⟨t, l, ns, ls, rfl, _⟩ := h
    rfl
  · obtain ⟨t, l, ns, ls, rfl, ht, hl, q⟩ := h
    refine ⟨_, (pss_cons (ps_for PassesOwn.never rfl (pi_tup (pv 0)) (pg_name (i := 2) sc__first_wish.nd rfl (Or.inl rfl))
      (pss_one (ps_if (pt_cmpR op_in_seq (pv 2) (pv 1) (by rfl)) (pss_one (ps_ret (pv 2))) pss_nil)))
      (pss_one (ps_ret pe_non))), ?_⟩
    refine ⟨_, rfl, t, rfl, ⟨_, tup_t ht⟩, for_tup (K := K) (a := t) (xs := ns.map V.int) (fun i σ H2 => ∃ (y : Option V), σ = [some (.ref t), some (.ref l), y] ∧ H2 = H ∧ wishV ns ls = wishV (ns.drop i) ls) ⟨none, rfl, rfl, rfl⟩ (fun i σ H2 _ ⟨_, _, e, _⟩ => e ▸ tup_t ht) ?_ ?_⟩
    · rintro i x σ H2 hi ⟨y, rfl, rfl, hb⟩
      obtain ⟨n, rfl, hin⟩ := int_of hi
      rw [drop_cons hin] at hb
      refine ⟨_, rfl, _, rfl, ⟨l, _, rfl, .inr (tup_t hl), rfl, ints_flat ls, _, rfl, ite2 (fun c => ?_) (fun c => ?_)⟩⟩
      · have e : wishV ns ls = .int n := hb.trans (if_pos c)
        rw [e] at q
        exact ⟨_, rfl, q⟩
      · exact ⟨_, rfl, rfl, hb.trans (if_neg c)⟩
    · rintro σ H2 ⟨y, rfl, rfl, hb⟩
      rw [List.length_map, List.drop_length] at hb
      rw [show wishV ns ls = .non from hb] at q
      exact q
def sp_Listed___init__ (C CT CN CB CW : Addr) : Sp := fun vs H Q E => ∃ (p dx L : Addr) (us : List Addr) (pw : List (Int × List Int)) (m : Int), vs = [.ref p, .int m, .ref L] ∧ H p = some (.ins C dx []) ∧ H L = some (.lst (us.map V.ref)) ∧ RowW H us pw ∧ us.length ≤ 900 ∧ (∀ w ∈ pw, w.2.length < 64) ∧
  (∀ n, dueL m pw = .many n → ∀ H' d, SameX p H H' → H' d = some (.xd [("most", .int 24), ("many", .int n)]) → E (.ref CT) (some d) H') ∧ (dueL m pw = .none → ∀ H', SameX p H H' → E (.ref CN) none H') ∧
  (∀ k, dueL m pw = .num k → ∀ H' d, SameX p H H' → H' d = some (.xd [("at", .int (k : Int)), ("what", .str "buyers")]) → E (.ref CB) (some d) H') ∧ (∀ k, dueL m pw = .wish k → ∀ H' d, SameX p H H' → H' d = some (.xd [("at", .int (k : Int))]) → E (.ref CW) (some d) H') ∧
  (dueL m pw = .made → ∀ H', SameX p H H' → LAt C H' p m pw → Q .non H')
theorem sc_Listed___init__ : MScope ["self", "many", "wishes", "__class__", "number", "buyers", "things", "thing"] ["self", "many", "wishes"] (defScope s_Listed___init__) := mscope_by (by decide +kernel)
theorem ok_Listed___init__ {f cc cda g_Rule : Addr} {fd : FuncData} {file : Str} {C_Listed C_Ratio C_BadNumber C_TooMany C_BadWish C_NoBuyers C_ZeroBottom C_BadLot : Addr} (F : FunS K "__init__" "Listed.__init__" s_Listed___init__ cc cda f fd) (SC : SupC K mg C_Listed C_Listed cc cda g_Rule file) (hfile : ((P.main.file : Str) == file) = true) (htop : (P.main.scope.names.lookup ("super" : Str)).isSome = false) (T : Txt K mg C_Listed C_Ratio C_BadNumber C_TooMany C_BadWish C_NoBuyers C_ZeroBottom C_BadLot) (m_any : mg "any" = none) (m_enumerate : mg "enumerate" = none) (m_len : mg "len" = none) (m_tuple : mg "tuple" = none) (c_Rule___init__ : ∃ fd : FuncData, FnOk P w K mg base (L2.CX P w) 4 g_Rule fd ["self", "many"] (sp_Rule___init__ C_Listed C_TooMany) ∧ Binds K fd ["self", "many"] []) (c__can_be_wished : Cal P w K mg base CX0 1 "_can_be_wished" ["things"] sp__can_be_wished) (c_BadNumber___init__ : CalX P w K mg base CX0 1 C_BadNumber ["self", "what", "at"] (sp_BadNumber___init__ C_BadNumber)) (c_BadWish___init__ : CalX P w K mg base CX0 1 C_BadWish ["self", "at"] (sp_BadWish___init__ C_BadWish)) : FnOk P w K mg base (L2.CX P w) 5 f fd ["self", "many", "wishes"] (sp_Listed___init__ C_Listed C_TooMany C_NoBuyers C_BadNumber C_BadWish) := by
  obtain ⟨fd_Rule___init__, G_Rule___init__, b_Rule___init__⟩ := c_Rule___init__
  obtain ⟨f__can_be_wished, fd__can_be_wished, G__can_be_wished, m__can_be_wished, k__can_be_wished, b__can_be_wished⟩ := c__can_be_wished
  obtain ⟨f_BadNumber___init__, fd_BadNumber___init__, G_BadNumber___init__, ic_BadNumber___init__, ti_BadNumber___init__, b_BadNumber___init__⟩ := c_BadNumber___init__
  obtain ⟨f_BadWish___init__, fd_BadWish___init__, G_BadWish___init__, ic_BadWish___init__, ti_BadWish___init__, b_BadWish___init__⟩ := c_BadWish___init__
  obtain ⟨⟨oc, od, kV, doc, pm, an, ct, osl, rfl, lk, hcd⟩, _⟩ := F
  refine fn_atC (D := C_Listed) lk hcd sc_Listed___init__ SC.cell (fun vs H Q E h => ?_) (fun A outer s H vs Q E hr h => ?_)
  · obtain ⟨p, dx, L, us, pw, m, rfl, _⟩ := h
    rfl
  · obtain ⟨p, dx, L, us, pw, m, rfl, hp, hL, row, ul, lw, kM, kN, kB, kW, q⟩ := h
    refine ⟨_, (psas_cons (psa_expr (pea_super lk ⟨SC.isD, SC.sub, SC.cell, SC.code, SC.sup, SC.tg, SC.fg, SC.opq, SC.nosup⟩ hfile htop rfl rfl rfl rfl rfl rfl rfl rfl rfl rfl rfl G_Rule___init__ b_Rule___init__ (hr.mono (by decide)) (passes_call (takes_of rfl rfl rfl rfl) (fun _ _ _ _ h => h)) (pa_cons (pv 1) pa_nil) rfl rfl rfl rfl))
      (psas_pss (pss_cons (ps_if (pt_cmpR op_eq (pe_callB call_len_seq (by rfl) m_len (by decide +kernel) (pa_cons (pv 2) pa_nil)) pe_int (nomark _)) (pss_one (ps_raise rfl (takes_of rfl rfl rfl rfl) (pmk_own PySem.F.excBase_ValueError T.x_NoBuyers T.g_NoBuyers T.kc_NoBuyers (raises_own T.b_NoBuyers T.t_NoBuyers) (by exact rfl)))) pss_nil)
      (pss_cons (ps_for (passes_of rfl) rfl (pi_enum (by rfl) m_enumerate (pa_cons (pv 2) pa_nil)) (pg_tup rfl (pgs_cons (pg_name (i := 4) sc_Listed___init__.nd rfl (Or.inl rfl)) (pgs_cons (pg_tup rfl (pgs_cons (pg_name (i := 5) sc_Listed___init__.nd rfl (Or.inl rfl)) (pgs_cons (pg_name (i := 6) sc_Listed___init__.nd rfl (Or.inl rfl)) pgs_nil))) pgs_nil)))
      (pss_cons (ps_if (pt_cmpR op_lt (pv 5) pe_int (nomark _)) (pss_one (ps_raise rfl (takes_of rfl rfl rfl rfl) (pmk_oex T.ox_BadNumber ic_BadNumber___init__ ti_BadNumber___init__ G_BadNumber___init__ (hr.mono (by decide)) b_BadNumber___init__ .nil pass0 (by exact rfl) T.g_BadNumber (pa_cons pe_str (pa_cons (pv 4) pa_nil))))) pss_nil)
      (pss_one (ps_if (PW.pt (pw_or (pt_not (pt_val (pe_call G__can_be_wished (hr.mono (by decide)) (by rfl) m__can_be_wished k__can_be_wished b__can_be_wished .nil pass0 (pa_cons (pv 6) pa_nil)))) (pw_or1 (pt_val (pe_callB (cr_any rfl) (by rfl) m_any (by decide +kernel) (pa_cons (pe_lc (own := [("thing", 7)]) (g := (gName 7)) (tt := tYes) rfl sc_Listed___init__.nd (pi_tup (pv 6)) (blkOk_by (own := [("thing", 7)]) (N := ["self", "many", "wishes", "__class__", "number", "buyers", "things", "thing"]) (sc := defScope s_Listed___init__) (by decide +kernel)) (fun _ _ _ _ _ => (pg_name (i := 7) sc_Listed___init__.nd rfl (Or.inl rfl))) (fun _ _ _ _ _ => pts_nil) (fun _ _ _ _ _ => (pe_cmpR op_ge (pv 7) (pv 1) (nomark _)))) pa_nil)))))) (pss_one (ps_raise rfl (takes_of rfl rfl rfl rfl) (pmk_oex T.ox_BadWish ic_BadWish___init__ ti_BadWish___init__ G_BadWish___init__ (hr.mono (by decide)) b_BadWish___init__ .nil pass0 (by exact rfl) T.g_BadWish (pa_cons (pv 4) pa_nil)))) pss_nil))))
      (pss_one (ps_fld (pv 0) (pe_callTy call_tuple_of (by rfl) m_tuple (by decide +kernel) (pa_cons (pe_lc (own := [("buyers", 5), ("things", 6)]) (g := (gTup K 2 (gCons (gName 5) (gCons (gName 6) gNil)))) (tt := tYes) rfl sc_Listed___init__.nd (pi_list (pv 2)) (blkOk_by (own := [("buyers", 5), ("things", 6)]) (N := ["self", "many", "wishes", "__class__", "number", "buyers", "things", "thing"]) (sc := defScope s_Listed___init__) (by decide +kernel)) (fun _ _ _ _ _ => (pg_tup rfl (pgs_cons (pg_name (i := 5) sc_Listed___init__.nd rfl (Or.inl rfl)) (pgs_cons (pg_name (i := 6) sc_Listed___init__.nd rfl (Or.inl rfl)) pgs_nil)))) (fun _ _ _ _ _ => pts_nil) (fun _ _ _ _ _ => (pe_tup (pa_cons (pv 5) (pa_cons (pe_callTy (T := "tuple") (r := rTupOf K) call_tuple_of (by rfl) m_tuple (by decide +kernel) (pa_cons (pv 6) pa_nil)) pa_nil))))) pa_nil)) rfl)))))), ?_⟩
    refine ⟨p, dx, [], rfl, hp, _, rfl, p, dx, [], m, rfl, hp, Nat.zero_le _, fun e d nd => kM m (dueL_many e) _ d (SameX.new nd) upd_same, fun e24 => ?_⟩
    have x1 : SameX p H (upd H p (.ins C_Listed dx (putF "many" (.int m) []))) := SameX.put
    have hp1 : upd H p (.ins C_Listed dx (putF "many" (.int m) [])) p = some (.ins C_Listed dx (putF "many" (.int m) [])) := upd_same
    generalize upd H p (.ins C_Listed dx (putF "many" (.int m) [])) = H1 at x1 hp1 ⊢
    have hL1 := lst_sx hp x1 hL
    have row1 := row.sx hp x1
    have rl := row.1
    refine ⟨_, rfl, L, _, rfl, .inl (lst_l hL1), rfl, _, rfl, ite2 (fun c => ?_) (fun c => ?_)⟩
    · have c := V.int.inj (of_decide_eq_true c)
      rw [List.length_map] at c
      exact kN (dueL_none e24 (by omega)) _ x1
    have c0 : ¬ pw.length = 0 := fun z => c (decide_eq_true (congrArg V.int (by rw [List.length_map]; omega)))
    have dr := dueL_rest (pw := pw) e24 c0
    refine ⟨_, rfl, L, _, rfl, lst_l hL1, ?_⟩
    refine for_it (walk_enum (K := K) (a := L) (xs := us.map V.ref)) (fun i σ H2 => ∃ y1 y2 y3 : Option V, σ = [some (.ref p), some (.int m), some (.ref L), none, y1, y2, y3, none] ∧ Same H1 H2 ∧ badL m pw 0 = badL m (pw.drop i) i) ⟨none, none, none, rfl, Same.refl _, rfl⟩ ?_ ?_ ?_
    · rintro i σ H2 _ ⟨_, _, _, _, sx, _⟩
      exact lst_l (sx L _ hL1)
    · rintro i x σ H2 H3 hi ⟨y1, y2, y3, rfl, sx, hb⟩ ⟨tp, ix, nx, rfl, ntp, rfl, e1, e2⟩
      cases e1
      rw [List.length_map] at hi
      have h1 : us[i]? = some us[i] := List.getElem?_eq_getElem hi
      have h2 : pw[i]? = some pw[i] := List.getElem?_eq_getElem (by omega)
      have e2 : (us.map V.ref)[i]? = some nx := e2
      rw [List.getElem?_map, h1] at e2
      cases e2
      have hd := drop_pair h2
      have s3 := sx.trans (same_upd (o := .tup [V.int i, V.ref us[i]]) ntp)
      obtain ⟨l, hu, hl⟩ := (row1.2 i _ _ h1 h2).same s3
      have l64 := lw _ (List.mem_of_getElem? h2)
      generalize pw[i] = w at hu hl hd h2 l64
      obtain ⟨b, ns⟩ := w
      have l64 : ns.length < 64 := l64
      rw [hd] at hb
      refine ⟨tp, _, rfl, tup_t upd_same, rfl, _, _, rfl, _, _, rfl, us[i], _, rfl, tup_t hu, rfl, _, _, rfl, _, _, rfl, rfl, rfl, ?_⟩
      generalize upd H2 tp (.tup [V.int i, V.ref us[i]]) = H3 at s3 hu hl ⊢
      refine ⟨_, rfl, _, _, rfl, rfl, _, rfl, ite2 (fun c => ?_) (fun c => ?_)⟩
      · have c : b < 1 := of_decide_eq_true c
        exact ⟨_, rfl, (by show 2 ≤ 1000; decide), fun a na => ⟨a, _, _, rfl, upd_same, fun dx2 nd ne => raise2 (fun d nd => kB i (by rw [dr, hb, badL_num c]) _ _ (x1.trans (same_sx (s3.trans (same_upd nd)))) upd_same) na nd ne⟩⟩
      have c : ¬ b < 1 := fun z => c (decide_eq_true z)
      refine ⟨_, rfl, l, ns, rfl, hl, l64, fun g H4 s4 => ⟨true, rfl, iteF ?_⟩, fun g H4 s4 => ⟨false, rfl, iteT ?_⟩⟩
      · have hl4 := s4 _ _ hl
        have s34 := s3.trans s4
        refine ⟨_, rfl, l, rfl, ⟨_, tup_t hl4⟩, fun D nD => lc_tup (K := K) (a := l) (xs := ns.map V.int) (fun i H5 => Same H4 H5 ∧ H5 D = some (.lst (((ns.take i).map fun n => decide (n ≥ m)).map V.bl))) ⟨same_upd nD, upd_same⟩ (fun i H5 _ ⟨s, _⟩ => tup_t (s _ _ hl4)) ?_ ?_⟩
        · rintro j x H5 hj ⟨s, hD⟩
          obtain ⟨n, rfl, hjn⟩ := int_of hj
          refine ⟨rfl, ?_⟩
          refine lc_yes ?_
          refine iteT ?_
          refine ⟨_, rfl, _, rfl, _, _, rfl, rfl, _, hD, ?_, same_mut s nD, ?_⟩
          · rw [List.length_map, List.length_map, List.length_take]
            exact small1000 (by omega)
          · rw [upd_same, List.take_add_one, hjn, List.map_append, List.map_append]
            rfl
        · rintro H5 ⟨s, hD⟩
          rw [List.length_map, List.take_length] at hD
          refine ⟨D, _, rfl, lst_l hD, _, rfl, ite2 (fun c2 => ?_) (fun c2 => ?_)⟩
          · have nf : ¬ FitW m ns := fun z => by
              rw [ge_any.mpr z.2] at c2
              cases c2
            exact ⟨_, rfl, (by show 1 ≤ 1000; decide), fun a na => ⟨a, _, rfl, upd_same, fun dx2 nd ne => raise1 (fun d nd => kW i (by rw [dr, hb, badL_wish c nf]) _ _ (x1.trans (same_sx ((s34.trans s).trans (same_upd nd)))) upd_same) na nd ne⟩⟩
          · have ft : FitW m ns := ⟨g, ge_any.mp (by
              cases e : (ns.map fun n => decide (n ≥ m)).any id with
              | false => rfl
              | true => exact absurd e c2)⟩
            exact ⟨_, _, _, rfl, s34.trans s, by rw [hb, badL_next c ft]⟩
      · exact ⟨_, rfl, (by show 1 ≤ 1000; decide), fun a na => ⟨a, _, rfl, upd_same, fun dx2 nd ne => raise1 (fun d nd => kW i (by rw [dr, hb, badL_wish c (fun z => g z.1)]) _ _ (x1.trans (same_sx ((s3.trans s4).trans (same_upd nd)))) upd_same) na nd ne⟩⟩
    · rintro σ H2 ⟨y1, y2, y3, rfl, sx, hb⟩
      rw [List.length_map, rl, List.drop_length] at hb
      have mk : dueL m pw = .made := by rw [dr, hb]; rfl
      have hL2 := sx _ _ hL1
      have row2 := row1.same sx
      refine ⟨_, rfl, L, rfl, ⟨_, lst_l hL2⟩, fun D nD => lc_list (K := K) (a := L) (xs := us.map V.ref) (fun i H7 => ∃ zs : List Addr, Same H2 H7 ∧ H7 D = some (.lst (zs.map V.ref)) ∧ zs.length = i ∧ ∀ (j : Nat) (u : Addr) (w : Int × List Int), zs[j]? = some u → pw[j]? = some w → PairW H7 u w) ⟨[], same_upd nD, upd_same, rfl, fun j u ws h => by cases h⟩ (fun i H7 _ ⟨_, s, _⟩ => lst_l (s _ _ hL2)) ?_ ?_⟩
      · rintro i x H7 hi ⟨zs, s7, hD, lz, hz⟩
        have i1 : i < us.length := by
          have := (List.getElem?_eq_some_iff.mp hi).1
          rw [List.length_map] at this
          exact this
        have h1 : us[i]? = some us[i] := List.getElem?_eq_getElem i1
        have h2 : pw[i]? = some pw[i] := List.getElem?_eq_getElem (by omega)
        rw [List.getElem?_map, h1] at hi
        cases hi
        obtain ⟨l, hu, hl⟩ := (row2.2 i _ _ h1 h2).same s7
        refine ⟨us[i], _, rfl, tup_t hu, rfl, _, _, rfl, _, _, rfl, rfl, rfl, ?_⟩
        refine lc_yes ?_
        refine iteT ?_
        refine ⟨_, rfl, _, rfl, l, _, rfl, .inr ⟨tup_t hl, (by show 2 ≤ sizeLine; decide), fun u nu => ?_⟩⟩
        have ne : D ≠ u := ne_of_none hD nu
        refine ⟨_, (upd_ne ne).trans hD, ?_, zs ++ [u], same_mut (s7.trans (same_upd nu)) nD, ?_, ?_, fun j v w h hw => ?_⟩
        · rw [List.length_map]
          exact small1000 (by omega)
        · rw [upd_same, List.map_append]
          rfl
        · rw [List.length_append, lz]
          rfl
        · have lD : l ≠ D := fun z => by
            rw [z, hD] at hl
            cases hl
          by_cases hj : j < zs.length
          · rw [List.getElem?_append_left hj] at h
            obtain ⟨l2, a1, a2⟩ := hz j v w h hw
            have n1 : v ≠ D := fun z => by
              rw [z, hD] at a1
              cases a1
            have n2 : l2 ≠ D := fun z => by
              rw [z, hD] at a2
              cases a2
            exact ⟨l2, by rw [upd_ne n1, upd_ne (ne_of_none a1 nu)]; exact a1, by rw [upd_ne n2, upd_ne (ne_of_none a2 nu)]; exact a2⟩
          · rw [List.getElem?_append_right (by omega)] at h
            obtain ⟨k, hk⟩ : ∃ k, j - zs.length = k := ⟨_, rfl⟩
            rw [hk] at h
            cases k with
            | zero =>
              have : j = i := by omega
              subst this
              cases h
              rw [h2] at hw
              cases hw
              exact ⟨l, by rw [upd_ne (Ne.symm ne), upd_same], by rw [upd_ne lD, upd_ne (ne_of_none hl nu)]; exact hl⟩
            | succ k => cases h
      · rintro H7 ⟨zs, s7, hD, lz, hz⟩
        rw [List.length_map] at lz
        refine ⟨D, _, rfl, .inl ⟨lst_l hD, fun t nt => ?_⟩⟩
        have hp7 := s7 _ _ (sx _ _ hp1)
        have s8 := (sx.trans s7).trans (same_upd (o := .tup (zs.map V.ref)) nt)
        have pt : t ≠ p := fun z => by
          rw [z, hp7] at nt
          cases nt
        refine ⟨_, rfl, p, C_Listed, dx, _, rfl, (upd_ne (Ne.symm pt)).trans hp7, T.cl_Listed, T.n_Listed_wishes, (by show 1 < 1000; decide), ?_⟩
        have x9 : SameX p (upd H7 t (.tup (zs.map V.ref))) (upd (upd H7 t (.tup (zs.map V.ref))) p (.ins C_Listed dx (fL m t))) := SameX.put
        refine q mk _ ((x1.trans (same_sx s8)).trans x9) ⟨dx, t, zs, upd_same, x9 _ _ pt upd_same, by omega, fun j u w h hw => ?_⟩
        obtain ⟨l2, a1, a2⟩ := (hz j u w h hw).same (same_upd (o := .tup (zs.map V.ref)) nt)
        refine ⟨l2, x9 _ _ (fun z => ?_) a1, x9 _ _ (fun z => ?_) a2⟩
        · rw [z, (upd_ne (Ne.symm pt)).trans hp7] at a1
          cases a1
        · rw [z, (upd_ne (Ne.symm pt)).trans hp7] at a2
          cases a2
/-- Ratio(t, b): ZeroBottom, or the fraction in lowest terms -/
def sp_Ratio___init__ (C CZ : Addr) : Sp := fun vs H Q E => ∃ (x dx : Addr) (t b : Int), vs = [.ref x, .int t, .int b] ∧ H x = some (.ins C dx []) ∧ (b ≠ 0 → Sm b) ∧ (b = 0 → E (.ref CZ) none H) ∧
  (b ≠ 0 → ∀ H', RatAt C H' x (nT t b) (nB t b) → (∀ c o, H c = some o → c ≠ x → H' c = some o) → Q .non H')

theorem ok_Ratio___init__ {f : Addr} {fd : FuncData} {C_Listed C_Ratio C_BadNumber C_TooMany C_BadWish C_NoBuyers C_ZeroBottom C_BadLot : Addr} (F : FunD K "__init__" "Ratio.__init__" (defArgs s_Ratio___init__) (defBody s_Ratio___init__) (defScope s_Ratio___init__) [V.int 1] [] f fd) (T : Txt K mg C_Listed C_Ratio C_BadNumber C_TooMany C_BadWish C_NoBuyers C_ZeroBottom C_BadLot) : FnOk P w K mg base (L2.CX P w) 1 f fd ["self", "top", "bottom"] (sp_Ratio___init__ C_Ratio C_ZeroBottom) := by
  refine FunD.ok (CX := (L2.CX P w)) F sc_Ratio___init__ (fun vs H Q E h => ?_) (fun cdv A outer s H vs Q E hr h => ?_)
  · obtain ⟨x, dx, t, b, rfl, _⟩ := h
    rfl
  · obtain ⟨x, dx, t, b, rfl, hx, hsm, kE, kQ⟩ := h
    refine ⟨_, (pss_cons (ps_if (pt_cmpR op_eq (pv 2) pe_int (nomark _)) (pss_one (ps_raise rfl (takes_of rfl rfl rfl rfl) (pmk_own PySem.F.excBase_ValueError T.x_ZeroBottom T.g_ZeroBottom T.kc_ZeroBottom (raises_own T.b_ZeroBottom T.t_ZeroBottom) (by exact rfl)))) pss_nil)
      (pss_cons (ps_set (i := 3) sc_Ratio___init__.nd rfl (Or.inl rfl) (pe_callBfun cr_gcd (by rfl) T.g_gcd (pa_cons (pv 1) (pa_cons (pv 2) pa_nil))))
      (Evl.pss_cut (ps_if (pt_cmpR op_lt (pv 2) pe_int (nomark _)) (pss_one (ps_set (i := 3) sc_Ratio___init__.nd rfl (Or.inl rfl) (pe_un un_neg (pv 3)))) pss_nil)
      (pss_cons (ps_fld (pv 0) (pe_op op_fdivWN (pv 1) (pv 3)) rfl)
      (pss_one (ps_fld (pv 0) (pe_op op_fdivWN (pv 2) (pv 3)) rfl)))))), ?_⟩
    refine ⟨_, rfl, rfl, _, rfl, ite2 (fun e => ?_) (fun e => ?_)⟩
    · have e := V.int.inj (of_decide_eq_true e)
      exact kE e
    · have hb : b ≠ 0 := fun z => e (decide_eq_true (congrArg V.int z))
      refine ⟨_, rfl, _, rfl, t, b, rfl, ?_⟩
      refine ⟨fun σ' H' => H' = H ∧ σ' = [some (.ref x), some (.int t), some (.int b), some (.int (rd t b))], ?_, ?_⟩
      · refine ⟨_, rfl, _, _, rfl, rfl, _, rfl, ite2 (fun e2 => ?_) (fun e2 => ?_)⟩
        · have e2 := of_decide_eq_true e2
          refine ⟨_, rfl, _, rfl, rfl, ?_⟩
          rw [show rd t b = -(rg t b) from if_pos e2]
          rfl
        · have e2 : ¬ b < 0 := fun z => e2 (decide_eq_true z)
          refine ⟨rfl, ?_⟩
          rw [show rd t b = rg t b from if_neg e2]
          rfl
      · rintro σ' H' ⟨rfl, rfl⟩
        refine ⟨_, rfl, _, rfl, t, rd t b, rfl, rfl, rd_div hb (hsm hb) t, _, rfl, x, C_Ratio, dx, [], rfl, hx, T.cl_Ratio, T.n_Ratio_top, (by show 0 < 1000; decide), ?_⟩
        refine ⟨_, rfl, _, rfl, b, rd t b, rfl, rfl, rd_div hb (hsm hb) b, _, rfl, x, C_Ratio, dx, _, rfl, upd_same, T.cl_Ratio, T.n_Ratio_bottom, (by show 1 < 1000; decide), ?_⟩
        refine kQ hb _ ⟨dx, Eq.trans upd_same (congrArg (fun q => some (HO.ins C_Ratio dx q)) (rF_new _ _))⟩ fun c o e hc => ?_
        rw [upd_ne hc, upd_ne hc]
        exact e

/-- how a caller makes a Ratio that there is -/
theorem mk_rat {C CZ : Addr} {t b : Int} {H : Hp} {G : Addr → Hp → Prop} {E : XK} (hb : b ≠ 0) (hs : Sm b) (k : ∀ x H', Same H H' → H x = none → RatAt C H' x (nT t b) (nB t b) → G x H') :
    ∀ x dx, H x = none → H dx = none → dx ≠ x → sp_Ratio___init__ C CZ [.ref x, .int t, .int b] (upd (upd H dx (.own x)) x (.ins C dx [])) (fun v H2 => v = .non ∧ G x H2) E :=
  fun x dx nx nd _ => ⟨x, dx, t, b, rfl, upd_same, fun _ => hs, fun z => absurd z hb, fun _ H' r kp => ⟨rfl, k x H' (Same.made nx nd kp) nx r⟩⟩
def sp__as_ratio (C : Addr) : Sp := fun vs H Q _ => ∃ (y : V) (T B : Int), vs = [y] ∧ NumAt C H y T B ∧ ∀ H' q, Same H H' → RatAt C H' q T B → Q (.ref q) H'
theorem ok__as_ratio {f : Addr} {fd : FuncData} {C_Listed C_Ratio C_BadNumber C_TooMany C_BadWish C_NoBuyers C_ZeroBottom C_BadLot : Addr} (F : Fun K "_as_ratio" "_as_ratio" s__as_ratio f fd) (T : Txt K mg C_Listed C_Ratio C_BadNumber C_TooMany C_BadWish C_NoBuyers C_ZeroBottom C_BadLot) (m_isinstance : mg "isinstance" = none) (c_Ratio___init__ : CalI P w K mg base (L2.CX P w) 1 C_Ratio ["self", "top", "bottom"] (sp_Ratio___init__ C_Ratio C_ZeroBottom) [V.int 1]) : FnOk P w K mg base CX0 3 f fd ["number"] (sp__as_ratio C_Ratio) := by
  refine F.ok sc__as_ratio (fun vs H Q E h => ?_) (fun cdv A outer s H vs Q E hr h => ?_)
  · obtain ⟨y, T1, B, rfl, _⟩ := h
    rfl
  · obtain ⟨y, T1, B, rfl, hy, q⟩ := h
    obtain ⟨f_Ratio___init__, fd_Ratio___init__, G_Ratio___init__, M_Ratio___init__, b_Ratio___init__, ds_Ratio___init__, vd_Ratio___init__, bd_Ratio___init__⟩ := c_Ratio___init__
    refine ⟨_, (pss_cons (ps_if (pt_val (pe_callB call_isi (by rfl) m_isinstance (by decide +kernel) (pa_cons (pv 0) (pa_cons (pe_glob (v := .ref C_Ratio) (by rfl) T.g_Ratio rfl) pa_nil)))) (pss_one (ps_ret (pv 0))) pss_nil)
      (pss_one (ps_ret (pe_make M_Ratio___init__ G_Ratio___init__ (hr.mono (by decide)) (by rfl) T.g_Ratio bd_Ratio___init__ vd_Ratio___init__ passL (pa_cons (pv 0) pa_nil))))), ?_⟩
    rcases hy with ⟨p, rfl, dx, hp⟩ | ⟨rfl, rfl⟩
    · refine ⟨.ref p, rfl, .ref p, .ref C_Ratio, .ref C_Ratio, .ref C_Ratio, true, rfl, .own C_Ratio, .base (.ins hp T.cl_Ratio T.ha_Ratio T.hnc T.htk T.hm_Ratio), T.kit_Ratio_Ratio, true, rfl, iteT ?_⟩
      exact ⟨_, rfl, q H p (Same.refl H) ⟨dx, hp⟩⟩
    · refine ⟨_, rfl, .int T1, .ref C_Ratio, .type "int", .ref C_Ratio, false, rfl, .own C_Ratio, .base (.int T1), T.kit_int_Ratio, false, rfl, iteF ?_⟩
      refine ⟨_, rfl, mk_rat (t := T1) (b := 1) (by decide) (sm_of (n := 1) (by decide)) fun x H5 e5 nx r => ?_⟩
      obtain ⟨e1, e2⟩ := low_uniq (by decide) (low (t := T1) (b := 1) (by decide)) (low_int T1)
      rw [e1, e2] at r
      exact q H5 x e5 r
def sp_Ratio___neg__ (C : Addr) : Sp := fun vs H Q _ => ∃ (p : Addr) (T1 B1 : Int), vs = [.ref p] ∧ RatAt C H p T1 B1 ∧ 0 < B1 ∧ Sm B1 ∧ ∀ H' r T B, Same H H' → RatAt C H' r T B → LowT (-T1) B1 T B → Q (.ref r) H'
theorem ok_Ratio___neg__ {f : Addr} {fd : FuncData} {C_Listed C_Ratio C_BadNumber C_TooMany C_BadWish C_NoBuyers C_ZeroBottom C_BadLot : Addr} (F : Fun K "__neg__" "Ratio.__neg__" s_Ratio___neg__ f fd) (T : Txt K mg C_Listed C_Ratio C_BadNumber C_TooMany C_BadWish C_NoBuyers C_ZeroBottom C_BadLot) (c_Ratio___init__ : CalI P w K mg base (L2.CX P w) 1 C_Ratio ["self", "top", "bottom"] (sp_Ratio___init__ C_Ratio C_ZeroBottom) [V.int 1]) : FnOk P w K mg base CX0 3 f fd ["self"] (sp_Ratio___neg__ C_Ratio) := by
  refine F.ok sc_Ratio___neg__ (fun vs H Q E h => ?_) (fun cdv A outer s H vs Q E hr h => ?_)
  · obtain ⟨p, T1, B1, rfl, _⟩ := h
    rfl
  · obtain ⟨p, T1, B1, rfl, ⟨dx, hp⟩, p1, s1, q⟩ := h
    obtain ⟨f_Ratio___init__, fd_Ratio___init__, G_Ratio___init__, M_Ratio___init__, b_Ratio___init__, ds_Ratio___init__, vd_Ratio___init__, bd_Ratio___init__⟩ := c_Ratio___init__
    refine ⟨_, (pss_one (ps_ret (pe_make M_Ratio___init__ G_Ratio___init__ (hr.mono (by decide)) (by rfl) T.g_Ratio b_Ratio___init__ .nil passL (pa_cons (pe_un un_neg (pe_fld (pv 0) rfl)) (pa_cons (pe_fld (pv 0) rfl) pa_nil))))), ?_⟩
    refine ⟨.ref p, rfl, p, C_Ratio, dx, _, _, rfl, hp, T.cl_Ratio, T.n_Ratio_top, rF_top T1 B1, T1, rfl, .ref p, rfl, p, C_Ratio, dx, _, _, rfl, hp, T.cl_Ratio, T.n_Ratio_bottom, rF_bot T1 B1, mk_rat (t := -T1) (b := B1) (by omega) s1 fun x H5 e5 nx r => ?_⟩
    exact q H5 x _ _ e5 r (low (by omega))
def sp_Ratio___add__ (C : Addr) : Sp := fun vs H Q _ => ∃ (p : Addr) (y : V) (T1 B1 T2 B2 : Int), vs = [.ref p, y] ∧ RatAt C H p T1 B1 ∧ NumAt C H y T2 B2 ∧ 0 < B1 ∧ 0 < B2 ∧ Sm T1 ∧ Sm B1 ∧ Sm T2 ∧ Sm B2 ∧ Sm (B1 * B2) ∧
  ∀ H' r T B, Same H H' → RatAt C H' r T B → LowT (T1 * B2 + T2 * B1) (B1 * B2) T B → Q (.ref r) H'
theorem ok_Ratio___add__ {f : Addr} {fd : FuncData} {C_Listed C_Ratio C_BadNumber C_TooMany C_BadWish C_NoBuyers C_ZeroBottom C_BadLot : Addr} (F : Fun K "__add__" "Ratio.__add__" s_Ratio___add__ f fd) (T : Txt K mg C_Listed C_Ratio C_BadNumber C_TooMany C_BadWish C_NoBuyers C_ZeroBottom C_BadLot) (c__as_ratio : Cal P w K mg base CX0 3 "_as_ratio" ["number"] (sp__as_ratio C_Ratio)) (c_Ratio___init__ : CalI P w K mg base (L2.CX P w) 1 C_Ratio ["self", "top", "bottom"] (sp_Ratio___init__ C_Ratio C_ZeroBottom) [V.int 1]) : FnOk P w K mg base CX0 4 f fd ["self", "other"] (sp_Ratio___add__ C_Ratio) := by
  refine F.ok sc_Ratio___add__ (fun vs H Q E h => ?_) (fun cdv A outer s H vs Q E hr h => ?_)
  · obtain ⟨p, y, T1, B1, T2, B2, rfl, _⟩ := h
    rfl
  · obtain ⟨p, y, T1, B1, T2, B2, rfl, hp, hy, p1, p2, s1, s2, s3, s4, s5, q⟩ := h
    obtain ⟨f__as_ratio, fd__as_ratio, G__as_ratio, m__as_ratio, k__as_ratio, b__as_ratio⟩ := c__as_ratio
    obtain ⟨f_Ratio___init__, fd_Ratio___init__, G_Ratio___init__, M_Ratio___init__, b_Ratio___init__, ds_Ratio___init__, vd_Ratio___init__, bd_Ratio___init__⟩ := c_Ratio___init__
    refine ⟨_, (pss_cons (ps_set (i := 2) sc_Ratio___add__.nd rfl (Or.inl rfl) (pe_call G__as_ratio (hr.mono (by decide)) (by rfl) m__as_ratio k__as_ratio b__as_ratio .nil pass0 (pa_cons (pv 1) pa_nil)))
      (pss_one (ps_ret (pe_make M_Ratio___init__ G_Ratio___init__ (hr.mono (by decide)) (by rfl) T.g_Ratio b_Ratio___init__ .nil passL (pa_cons (pe_op op_add (pe_op op_mulW (pe_fld (pv 0) rfl) (pe_fld (pv 2) rfl)) (pe_op op_mulW (pe_fld (pv 2) rfl) (pe_fld (pv 0) rfl))) (pa_cons (pe_op op_mulW (pe_fld (pv 0) rfl) (pe_fld (pv 2) rfl)) pa_nil)))))), ?_⟩
    refine ⟨y, rfl, y, T2, B2, rfl, hy, fun H1 z e1 rz => ?_⟩
    obtain ⟨dx, hp1⟩ := hp.same e1
    obtain ⟨dz, hz⟩ := rz
    have n0 : B1 * B2 ≠ 0 := Int.ne_of_gt (Int.mul_pos p1 p2)
    refine ⟨.ref p, rfl, p, C_Ratio, dx, _, _, rfl, hp1, T.cl_Ratio, T.n_Ratio_top, rF_top T1 B1, .ref z, rfl, z, C_Ratio, dz, _, _, rfl, hz, T.cl_Ratio, T.n_Ratio_bottom, rF_bot T2 B2, T1, B2, rfl, rfl, s1.mul s4, ?_⟩
    refine ⟨.ref z, rfl, z, C_Ratio, dz, _, _, rfl, hz, T.cl_Ratio, T.n_Ratio_top, rF_top T2 B2, .ref p, rfl, p, C_Ratio, dx, _, _, rfl, hp1, T.cl_Ratio, T.n_Ratio_bottom, rF_bot T1 B1, T2, B1, rfl, rfl, s3.mul s2, _, _, rfl, rfl, ?_⟩
    refine ⟨.ref p, rfl, p, C_Ratio, dx, _, _, rfl, hp1, T.cl_Ratio, T.n_Ratio_bottom, rF_bot T1 B1, .ref z, rfl, z, C_Ratio, dz, _, _, rfl, hz, T.cl_Ratio, T.n_Ratio_bottom, rF_bot T2 B2, B1, B2, rfl, rfl, s2.mul s4, ?_⟩
    exact mk_rat (t := T1 * B2 + T2 * B1) (b := B1 * B2) n0 s5 fun x H5 e5 nx r => q H5 x _ _ (e1.trans e5) r (low n0)

theorem sum_take1 {ns : List Int} {i : Nat} {n : Int} (h : ns[i]? = some n) : (ns.take (i + 1)).sum = (ns.take i).sum + n := by
  rw [List.take_add_one, h, List.sum_append]
  simp
/-- sum(rs, start=Ratio(0)): all items over one bottom d -/
theorem sum_rats {K : PySem.W.Frag} {C l x0 : Addr} {H : Hp} {rs : List Addr} {ns : List Int} {d : Int} {Q : VK} (d0 : 0 < d) (sd : Sm d) (sdd : Sm (d * d)) (sS : ∀ i, Sm ((ns.take i).sum)) (sN : ∀ n ∈ ns, Sm n) (hl : H l = some (.lst (rs.map V.ref))) (lr : rs.length = ns.length)
    (hr : ∀ (i : Nat) (r : Addr) (n : Int), rs[i]? = some r → ns[i]? = some n → ∃ T B, RatAt C H r T B ∧ LowT n d T B) (h0 : ∃ T B, RatAt C H x0 T B ∧ LowT 0 1 T B)
    (q : ∀ H' r T B, Same H H' → RatAt C H' r T B → LowT ns.sum d T B → Q (.ref r) H') : rSumO K C (sp_Ratio___add__ C) [.ref l] [.ref x0] H Q := by
  have dn : d ≠ 0 := by omega
  refine ⟨l, rs.map V.ref, .ref x0, fun i x H' => ∃ r T B, x = .ref r ∧ Same H H' ∧ RatAt C H' r T B ∧ LowT (ns.take i).sum d T B, rfl, rfl, ?_, ?_, ?_, ?_⟩
  · obtain ⟨T, B, r0, lo⟩ := h0
    exact ⟨x0, T, B, rfl, Same.refl H, r0, lo.to (by decide) dn (by rw [List.take_zero]; show 0 * d = 0 * 1; omega)⟩
  · rintro i x H' ⟨r, T, B, rfl, s, ra, lo⟩
    obtain ⟨dx, e⟩ := ra
    exact ⟨lst_l (s _ _ hl), r, dx, _, rfl, e⟩
  · rintro i x y H' ⟨r, T1, B1, rfl, s, ra, lo⟩ hy
    rw [List.getElem?_map] at hy
    obtain ⟨r2, e2, rfl⟩ : ∃ r2, rs[i]? = some r2 ∧ V.ref r2 = y := by
      cases e : rs[i]? with
      | none =>
        rw [e] at hy
        cases hy
      | some z =>
        rw [e] at hy
        exact ⟨z, rfl, Option.some.inj hy⟩
    have lt : i < ns.length := lr ▸ (List.getElem?_eq_some_iff.mp e2).1
    have en : ns[i]? = some ns[i] := List.getElem?_eq_getElem lt
    obtain ⟨T2, B2, rb, lo2⟩ := hr i r2 _ e2 en
    have rb2 := rb.same s
    obtain ⟨dy, ey⟩ := id rb2
    refine ⟨⟨r2, dy, _, rfl, ey⟩, ?_⟩
    have p1 := lo.pos
    have p2 := lo2.pos
    have n12 : B1 * B2 ≠ 0 := Int.ne_of_gt (Int.mul_pos p1 p2)
    refine ⟨r, .ref r2, T1, B1, T2, B2, rfl, ra, rb2.num, p1, p2, (sS i).le lo.leT, sd.le lo.leB, (sN _ (List.getElem_mem lt)).le lo2.leT, sd.le lo2.leB, sdd.le ?_, fun H2 r3 T B s2 r3a lo3 => ?_⟩
    · rw [Int.natAbs_mul, Int.natAbs_mul]
      exact Nat.mul_le_mul lo.leB lo2.leB
    · refine ⟨r3, T, B, rfl, s.trans s2, r3a, lo3.to n12 dn ?_⟩
      rw [sum_take1 en]
      have e1 := lo.eq
      have e2 := lo2.eq
      generalize (ns.take i).sum = S at e1 ⊢
      generalize ns[i] = n at e2 ⊢
      grind
  · rintro x H' ⟨r, T, B, rfl, s, ra, lo⟩
    rw [List.length_map, lr, List.take_length] at lo
    exact q H' r T B s ra lo
def sp_Ratio___rsub__ (C : Addr) : Sp := fun vs H Q _ => ∃ (p : Addr) (y : V) (T1 B1 T2 B2 : Int), vs = [.ref p, y] ∧ RatAt C H p T1 B1 ∧ NumAt C H y T2 B2 ∧ 0 < B1 ∧ 0 < B2 ∧ Sm T1 ∧ Sm B1 ∧ Sm T2 ∧ Sm B2 ∧ Sm (B1 * B2) ∧
  ∀ H' r T B, Same H H' → RatAt C H' r T B → LowT (T2 * B1 - T1 * B2) (B1 * B2) T B → Q (.ref r) H'
theorem ok_Ratio___rsub__ {f : Addr} {fd : FuncData} {C_Listed C_Ratio C_BadNumber C_TooMany C_BadWish C_NoBuyers C_ZeroBottom C_BadLot : Addr} (F : Fun K "__rsub__" "Ratio.__rsub__" s_Ratio___rsub__ f fd) (T : Txt K mg C_Listed C_Ratio C_BadNumber C_TooMany C_BadWish C_NoBuyers C_ZeroBottom C_BadLot) (c_Ratio___neg__ : CalM P w K mg base CX0 3 C_Ratio "__neg__" ["self"] (sp_Ratio___neg__ C_Ratio)) (c_Ratio___add__ : CalM P w K mg base CX0 4 C_Ratio "__add__" ["self", "other"] (sp_Ratio___add__ C_Ratio)) : FnOk P w K mg base CX0 5 f fd ["self", "other"] (sp_Ratio___rsub__ C_Ratio) := by
  refine F.ok sc_Ratio___rsub__ (fun vs H Q E h => ?_) (fun cdv A outer s H vs Q E hr h => ?_)
  · obtain ⟨p, y, T1, B1, T2, B2, rfl, _⟩ := h
    rfl
  · obtain ⟨p, y, T1, B1, T2, B2, rfl, hp, hy, p1, p2, s1, s2, s3, s4, s5, q⟩ := h
    obtain ⟨f_Ratio___neg__, fd_Ratio___neg__, G_Ratio___neg__, M_Ratio___neg__, b_Ratio___neg__⟩ := c_Ratio___neg__
    obtain ⟨f_Ratio___add__, fd_Ratio___add__, G_Ratio___add__, M_Ratio___add__, b_Ratio___add__⟩ := c_Ratio___add__
    refine ⟨_, (pss_one (ps_ret (pe_op (op_own_Add M_Ratio___add__ T.sf_Ratio T.rf_Ratio_add T.int_add T.si_Ratio G_Ratio___add__ (hr.mono (by decide)) b_Ratio___add__ pass0) (pe_un (un_own M_Ratio___neg__ G_Ratio___neg__ (hr.mono (by decide)) b_Ratio___neg__ pass0) (pv 0)) (pv 1)))), ?_⟩
    refine ⟨.ref p, rfl, hp.self, p, T1, B1, rfl, hp, p1, s2, fun H2 m T3 B3 e2 rm lo => ?_⟩
    have e3 := lo.eq
    have p3 := lo.pos
    have n3 : B3 * B2 ≠ 0 := Int.ne_of_gt (Int.mul_pos p3 p2)
    have n0 : B1 * B2 ≠ 0 := Int.ne_of_gt (Int.mul_pos p1 p2)
    have sT : Sm T3 := s1.le (by have := lo.leT; omega)
    have sB : Sm B3 := s2.le lo.leB
    have s53 : Sm (B3 * B2) := s5.le (by
      rw [Int.natAbs_mul, Int.natAbs_mul]
      exact Nat.mul_le_mul_right _ lo.leB)
    have hy2 := hy.same e2
    refine ⟨y, rfl, rm.self, hy2.arg, m, y, T3, B3, T2, B2, rfl, rm, hy2, p3, p2, sT, sB, s3, s4, s53, fun H3 r T4 B4 e4 rr lo2 => ?_⟩
    exact q H3 r T4 B4 (e2.trans e4) rr (lo2.to n3 n0 (by grind))
def sp_Listed_shares (K : PySem.W.Frag) (C CR CL : Addr) : Sp := fun vs H Q E => ∃ (p l : Addr) (pw : List (Int × List Int)) (ns : List Int) (m : Nat), vs = [.ref p, .ref l] ∧ LAt C H p m pw ∧ H l = some (.tup (ns.map V.int)) ∧ m ≤ 24 ∧ ns.length ≤ 1000 ∧ FineW m pw ∧
  (lotB ns (-1) m = false → E (.ref CL) none H) ∧ (lotB ns (-1) m = true → ∀ H' L (rs : List Addr), Same H H' → H L = none → H' L = some (.lst (rs.map V.ref)) → rs.length = m →
    (∀ (i : Nat) (r : Addr), rs[i]? = some r → RatAt CR H' r (nT (tkW pw ns i) (evW pw)) (nB (tkW pw ns i) (evW pw))) → Q (.ref L) H')
theorem ok_Listed_shares {f : Addr} {fd : FuncData} {C_Listed C_Ratio C_BadNumber C_TooMany C_BadWish C_NoBuyers C_ZeroBottom C_BadLot : Addr} (F : Fun K "shares" "Listed.shares" s_Listed_shares f fd) (T : Txt K mg C_Listed C_Ratio C_BadNumber C_TooMany C_BadWish C_NoBuyers C_ZeroBottom C_BadLot) (m_sum : mg "sum" = none) (c_check_lot : Cal P w K mg base (L2.CX P w) 1 "check_lot" ["lot", "many"] (sp_check_lot K C_BadLot)) (c__first_wish : Cal P w K mg base CX0 1 "_first_wish" ["things", "lot"] sp__first_wish) (c_Ratio___init__ : CalI P w K mg base (L2.CX P w) 1 C_Ratio ["self", "top", "bottom"] (sp_Ratio___init__ C_Ratio C_ZeroBottom) [V.int 1]) : FnOk P w K mg base (L2.CX P w) 3 f fd ["self", "lot"] (sp_Listed_shares K C_Listed C_Ratio C_BadLot) := by
  refine F.okX sc_Listed_shares (fun vs H Q E h => ?_) (fun cdv A outer s H vs Q E hr h => ?_)
  · obtain ⟨p, l, pw, ns, m, rfl, _⟩ := h
    rfl
  · obtain ⟨p, l, pw, ns, m, rfl, ⟨dx, t, us, hp, ht, row⟩, hl, hm, nl, fine, kE, q⟩ := h
    obtain ⟨f_check_lot, fd_check_lot, G_check_lot, m_check_lot, k_check_lot, b_check_lot⟩ := c_check_lot
    obtain ⟨f__first_wish, fd__first_wish, G__first_wish, m__first_wish, k__first_wish, b__first_wish⟩ := c__first_wish
    obtain ⟨f_Ratio___init__, fd_Ratio___init__, G_Ratio___init__, M_Ratio___init__, b_Ratio___init__, ds_Ratio___init__, vd_Ratio___init__, bd_Ratio___init__⟩ := c_Ratio___init__
    refine ⟨_, (pss_cons (ps_expr (pe_call G_check_lot (hr.mono (by decide)) (by rfl) m_check_lot k_check_lot b_check_lot .nil (passes_call (takes_of rfl rfl rfl rfl) (fun _ _ _ _ h => h)) (pa_cons (pv 1) (pa_cons (pe_fld (pv 0) rfl) pa_nil))))
      (pss_cons (ps_set (i := 2) sc_Listed_shares.nd rfl (Or.inl rfl) (pe_op op_rep (pe_lst (pa_cons pe_int pa_nil)) (pe_fld (pv 0) rfl)))
      (pss_cons (ps_for (passes_of rfl) rfl (pi_tup (pe_fld (pv 0) rfl)) (pg_tup rfl (pgs_cons (pg_name (i := 3) sc_Listed_shares.nd rfl (Or.inl rfl)) (pgs_cons (pg_name (i := 4) sc_Listed_shares.nd rfl (Or.inl rfl)) pgs_nil)))
      (pss_cons (ps_set (i := 5) sc_Listed_shares.nd rfl (Or.inl rfl) (pe_call G__first_wish (hr.mono (by decide)) (by rfl) m__first_wish k__first_wish b__first_wish .nil pass0 (pa_cons (pv 4) (pa_cons (pv 1) pa_nil))))
      (pss_one (ps_if (pt_cmpR op_notN (pv 5) pe_non (nomark _)) (pss_one (ps_asg (pe_op op_add (pe_ix ix_list (pv 2) (pv 5) (fun _ _ => rfl)) (pv 3)) (pg_sub (pv 2) (pv 5) set_list))) pss_nil))))
      (pss_cons (ps_set (i := 6) sc_Listed_shares.nd rfl (Or.inr rfl) (pe_callB (cr_sum rfl) (by rfl) m_sum (by decide +kernel) (pa_cons (pe_lc (own := [("buyers", 3), ("things", 4)]) (g := (gTup K 2 (gCons (gName 3) (gCons (gName 4) gNil)))) (tt := tYes) rfl sc_Listed_shares.nd (pi_tup (pe_fld (pv 0) rfl)) (blkOk_by (own := [("buyers", 3), ("things", 4)]) (N := ["self", "lot", "taken", "buyers", "things", "thing", "everyone", "count"]) (sc := defScope s_Listed_shares) (by decide +kernel)) (fun _ _ _ _ _ => (pg_tup rfl (pgs_cons (pg_name (i := 3) sc_Listed_shares.nd rfl (Or.inl rfl)) (pgs_cons (pg_name (i := 4) sc_Listed_shares.nd rfl (Or.inl rfl)) pgs_nil)))) (fun _ _ _ _ _ => pts_nil) (fun _ _ _ _ _ => (pv 3))) pa_nil)))
      (pss_one (ps_ret (pe_lc (own := [("count", 7)]) (g := (gName 7)) (tt := tYes) rfl sc_Listed_shares.nd (pi_list (pv 2)) (blkOk_by (own := [("count", 7)]) (N := ["self", "lot", "taken", "buyers", "things", "thing", "everyone", "count"]) (sc := defScope s_Listed_shares) (by decide +kernel)) (fun _ _ _ _ _ => (pg_name (i := 7) sc_Listed_shares.nd rfl (Or.inl rfl))) (fun _ _ _ _ _ => pts_nil) (fun _ _ _ _ _ => (pe_make M_Ratio___init__ G_Ratio___init__ (hr.mono (by decide)) (by rfl) T.g_Ratio b_Ratio___init__ .nil passL (pa_cons (pv 7) (pa_cons (pv 6) pa_nil))))))))))), ?_⟩
    refine ⟨_, rfl, _, rfl, p, C_Listed, dx, _, _, rfl, hp, T.cl_Listed, T.n_Listed_many, fL_many _ _, l, ns, _, rfl, tup_t hl, kE, fun ok => ?_⟩
    have q := q ok
    have rl := row.1
    have ul : us.length ≤ 10 := by
      have := fine.l1
      omega
    refine ⟨small1000 (by decide), fun p0 n0 => ?_⟩
    have s0 := same_upd (o := .lst [V.int 0]) n0
    refine ⟨_, rfl, p, C_Listed, dx, _, _, rfl, (s0 _ _ hp), T.cl_Listed, T.n_Listed_many, fL_many _ _, p0, (m : Int), _, rfl, rfl, upd_same, by omega, by omega, by rw [Int.toNat_natCast]; exact Nat.le_of_lt (small1000 (by show 1 * m ≤ 1000; omega)), fun T1 nTT => ?_⟩
    have e0 : (List.replicate (m : Int).toNat [V.int 0]).flatten = ((List.range m).map (tkW (pw.take 0) ns)).map V.int := by
      rw [Int.toNat_natCast, List.flatten_replicate_singleton]
      refine Eq.symm (List.eq_replicate_iff.mpr ⟨by rw [List.length_map, List.length_map, List.length_range], fun b hb => ?_⟩)
      obtain ⟨i, hi, rfl⟩ := List.mem_map.mp hb
      obtain ⟨j, hj, rfl⟩ := List.mem_map.mp hi
      rfl
    rw [e0]
    have nTH : H T1 = none := s0.free nTT
    have s1 := s0.trans (same_upd (o := .lst (((List.range m).map (tkW (pw.take 0) ns)).map V.int)) nTT)
    refine ⟨_, rfl, p, C_Listed, dx, _, _, rfl, (s1 _ _ hp), T.cl_Listed, T.n_Listed_wishes, fL_wishes _ _, t, rfl, ⟨_, tup_t (s1 _ _ ht)⟩, for_tup (K := K) (a := t) (xs := us.map V.ref) (fun i σ H2 => ∃ y1 y2 y3 : Option V, σ = [some (.ref p), some (.ref l), some (.ref T1), y1, y2, y3, none, none] ∧ Same H H2 ∧ H2 T1 = some (.lst (((List.range m).map (tkW (pw.take i) ns)).map V.int))) ⟨none, none, none, rfl, s1, upd_same⟩ (fun i σ H2 _ ⟨_, _, _, _, s, _⟩ => tup_t (s _ _ ht)) ?_ ?_⟩
    · rintro i x σ H2 hi ⟨y1, y2, y3, rfl, s2, hT⟩
      have i1 : i < us.length := by
        have := (List.getElem?_eq_some_iff.mp hi).1
        rw [List.length_map] at this
        exact this
      have h1 : us[i]? = some us[i] := List.getElem?_eq_getElem i1
      have h2 : pw[i]? = some pw[i] := List.getElem?_eq_getElem (by omega)
      rw [List.getElem?_map, h1] at hi
      cases hi
      obtain ⟨l2, hu, hl2⟩ := (row.2 i _ _ h1 h2).same s2
      have mem := List.mem_of_getElem? h2
      refine ⟨us[i], _, rfl, tup_t hu, rfl, _, _, rfl, _, _, rfl, rfl, ?_⟩
      refine ⟨_, rfl, _, rfl, l2, l, pw[i].2, ns, rfl, hl2, s2 _ _ hl, ?_⟩
      have next := tkW_snoc pw ns h2
      rcases wish_cases pw[i].2 ns with e | ⟨n, e⟩
      · rw [e]
        have same : (List.range m).map (tkW (pw.take (i + 1)) ns) = (List.range m).map (tkW (pw.take i) ns) := by
          apply List.map_congr_left
          intro j _
          rw [next, if_neg (by rw [e]; exact fun z => V.noConfusion z), Int.add_zero]
        rw [← same] at hT
        exact ⟨_, rfl, rfl, _, rfl, iteNS rfl ⟨_, _, _, rfl, s2, hT⟩⟩
      · have hn := wish_in e
        have n0 := (fine.f _ mem).1.2 n hn.1
        have n1 := (fine.f _ mem).2 n hn.1
        obtain ⟨k, rfl⟩ : ∃ k : Nat, n = (k : Int) := ⟨n.toNat, by omega⟩
        rw [e]
        have gk : ((List.range m).map (tkW (pw.take i) ns))[k]? = some (tkW (pw.take i) ns k) := by rw [List.getElem?_map, List.getElem?_range (by omega)]; rfl
        refine ⟨_, rfl, rfl, _, rfl, iteND (fun z => by cases z) ?_⟩
        refine ⟨_, rfl, _, rfl, T1, _, _, _, rfl, rfl, lst_l hT, atI_nat (int_at gk), _, rfl, _, _, rfl, rfl, _, rfl, _, rfl, T1, _, _, k, rfl, rfl, hT, ?_, ?_⟩
        · rw [List.length_map, List.length_map, List.length_range]
          exact ixn_at (by omega)
        refine ⟨_, _, _, rfl, same_mut s2 nTH, ?_⟩
        rw [upd_same, set_ints]
        refine congrArg some (congrArg HO.lst (congrArg (List.map V.int) ?_))
        refine List.ext_getElem? fun j => ?_
        by_cases ej : k = j
        · subst ej
          rw [List.getElem?_set_self (by rw [List.length_map, List.length_range]; omega), List.getElem?_map, List.getElem?_range (by omega)]
          show some _ = some _
          rw [next, if_pos e]
        · rw [List.getElem?_set_ne ej, List.getElem?_map, List.getElem?_map]
          by_cases lj : j < m
          · rw [List.getElem?_range lj]
            show some _ = some _
            rw [next, if_neg (by rw [e]; exact fun z => ej (by have := V.int.inj z; omega)), Int.add_zero]
          · rw [List.getElem?_eq_none (by rw [List.length_range]; omega)]
            rfl
    rintro σ H2 ⟨y1, y2, y3, rfl, s2, hT⟩
    rw [List.length_map, rl, List.take_length] at hT
    have hp2 := s2 _ _ hp
    have ht2 := s2 _ _ ht
    have row2 := row.same s2
    refine ⟨_, rfl, p, C_Listed, dx, _, _, rfl, hp2, T.cl_Listed, T.n_Listed_wishes, fL_wishes _ _, t, rfl, ⟨_, tup_t ht2⟩, fun D nD => lc_tup (K := K) (a := t) (xs := us.map V.ref) (fun i H3 => Same H2 H3 ∧ H3 D = some (.lst (((pw.take i).map Prod.fst).map V.int))) ⟨same_upd nD, upd_same⟩ (fun i H3 _ ⟨s, _⟩ => tup_t (s _ _ ht2)) ?_ ?_⟩
    · rintro i x H3 hi ⟨s3, hD⟩
      have i1 : i < us.length := by
        have := (List.getElem?_eq_some_iff.mp hi).1
        rw [List.length_map] at this
        exact this
      have h1 : us[i]? = some us[i] := List.getElem?_eq_getElem i1
      have h2 : pw[i]? = some pw[i] := List.getElem?_eq_getElem (by omega)
      rw [List.getElem?_map, h1] at hi
      cases hi
      obtain ⟨l2, hu, hl2⟩ := (row2.2 i _ _ h1 h2).same s3
      refine ⟨us[i], _, rfl, tup_t hu, rfl, _, _, rfl, _, _, rfl, rfl, rfl, ?_⟩
      refine lc_yes ?_
      refine iteT ?_
      refine ⟨_, rfl, _, hD, ?_, same_mut s3 nD, ?_⟩
      · rw [List.length_map, List.length_map, List.length_take]
        exact small1000 (by omega)
      · rw [upd_same, List.take_add_one, h2, List.map_append, List.map_append]
        rfl
    rintro H3 ⟨s3, hD⟩
    rw [List.length_map, rl, List.take_length] at hD
    obtain ⟨ev0, ev1⟩ := evW_pos fine
    have sm : Sm (evW pw) := sm_of (n := 70) (by
      have : (evW pw).natAbs ≤ 10 * 10 ^ 18 := by omega
      exact Nat.lt_of_le_of_lt this (by decide))
    have hT3 := s3 _ _ hT
    refine ⟨D, _, rfl, lst_l hD, ?_⟩
    refine ⟨_, rfl, T1, rfl, ⟨_, lst_l hT3⟩, fun L nL => lc_list (K := K) (a := T1) (xs := ((List.range m).map (tkW pw ns)).map V.int) (fun i H4 => ∃ rs : List Addr, Same H3 H4 ∧ H4 L = some (.lst (rs.map V.ref)) ∧ rs.length = i ∧ ∀ (j : Nat) (r : Addr), rs[j]? = some r → RatAt C_Ratio H4 r (nT (tkW pw ns j) (evW pw)) (nB (tkW pw ns j) (evW pw))) ⟨[], same_upd nL, upd_same, rfl, fun j r h => by cases h⟩ (fun i H4 _ ⟨_, s, _⟩ => lst_l (s _ _ hT3)) ?_ ?_⟩
    · rintro i x H4 hi ⟨rs, s4, hL, lr, hr⟩
      obtain ⟨c, rfl, hic⟩ := int_of hi
      have im : i < m := by
        have := (List.getElem?_eq_some_iff.mp hic).1
        rw [List.length_map, List.length_range] at this
        exact this
      rw [List.getElem?_map, List.getElem?_range im] at hic
      cases hic
      refine ⟨rfl, ?_⟩
      refine lc_yes ?_
      refine iteT ?_
      refine ⟨_, rfl, _, rfl, mk_rat (show evW pw ≠ 0 by omega) sm fun x H5 e5 nx rx => ?_⟩
      have hL5 := e5 _ _ hL
      have stay : ∀ {r : Addr} {T' B' : Int}, RatAt C_Ratio H5 r T' B' → RatAt C_Ratio (upd H5 L (.lst (rs.map V.ref ++ [V.ref x]))) r T' B' := fun {r T' B'} ⟨dx', e⟩ => ⟨dx', (upd_ne fun z => by
        rw [z, hL5] at e
        cases e).trans e⟩
      refine ⟨_, hL5, ?_, rs ++ [x], same_mut (s4.trans e5) nL, ?_, ?_, fun j r h => ?_⟩
      · rw [List.length_map]
        exact small1000 (by omega)
      · rw [upd_same, List.map_append]
        rfl
      · rw [List.length_append, lr]
        rfl
      · by_cases hj : j < rs.length
        · rw [List.getElem?_append_left hj] at h
          exact stay ((hr j r h).same e5)
        · rw [List.getElem?_append_right (by omega)] at h
          obtain ⟨k, hk⟩ : ∃ k, j - rs.length = k := ⟨_, rfl⟩
          rw [hk] at h
          cases k with
          | zero =>
            have : j = i := by omega
            subst this
            cases h
            exact stay rx
          | succ k => cases h
    · rintro H4 ⟨rs, s4, hL, lr, hr⟩
      rw [List.length_map, List.length_map, List.length_range] at lr
      exact q H4 L rs ((s2.trans s3).trans s4) ((s2.trans s3).free nL) hL lr hr
/-- all that are taken -/
def allW (pw : List (Int × List Int)) (ns : List Int) (m : Nat) : Int := ((List.range m).map (tkW pw ns)).sum
def sp_Rule_away (K : PySem.W.Frag) (C CR CL : Addr) : Sp := fun vs H Q E => ∃ (p l : Addr) (pw : List (Int × List Int)) (ns : List Int) (m : Nat), vs = [.ref p, .ref l] ∧ LAt C H p m pw ∧ H l = some (.tup (ns.map V.int)) ∧ m ≤ 24 ∧ ns.length ≤ 1000 ∧ FineW m pw ∧
  (lotB ns (-1) m = false → E (.ref CL) none H) ∧ (lotB ns (-1) m = true → ∀ H' r T B, Same H H' → RatAt CR H' r T B → LowT (evW pw - allW pw ns m) (evW pw) T B → Q (.ref r) H')
theorem ok_Rule_away {f : Addr} {fd : FuncData} {C_Listed C_Ratio C_BadNumber C_TooMany C_BadWish C_NoBuyers C_ZeroBottom C_BadLot : Addr} (F : Fun K "away" "Rule.away" s_Rule_away f fd) (T : Txt K mg C_Listed C_Ratio C_BadNumber C_TooMany C_BadWish C_NoBuyers C_ZeroBottom C_BadLot) (m_sum : mg "sum" = none) (c_Listed_shares : CalM P w K mg base (L2.CX P w) 3 C_Listed "shares" ["self", "lot"] (sp_Listed_shares K C_Listed C_Ratio C_BadLot)) (c_Ratio___init__ : CalI P w K mg base (L2.CX P w) 1 C_Ratio ["self", "top", "bottom"] (sp_Ratio___init__ C_Ratio C_ZeroBottom) [V.int 1]) (c_Ratio___add__ : CalM P w K mg base CX0 4 C_Ratio "__add__" ["self", "other"] (sp_Ratio___add__ C_Ratio)) (c_Ratio___rsub__ : CalM P w K mg base CX0 5 C_Ratio "__rsub__" ["self", "other"] (sp_Ratio___rsub__ C_Ratio)) : FnOk P w K mg base (L2.CX P w) 6 f fd ["self", "lot"] (sp_Rule_away K C_Listed C_Ratio C_BadLot) := by
  refine F.okX sc_Rule_away (fun vs H Q E h => ?_) (fun cdv A outer s H vs Q E hr h => ?_)
  · obtain ⟨p, l, pw, ns, m, rfl, _⟩ := h
    rfl
  · obtain ⟨p, l, pw, ns, m, rfl, la, hl, hm, nl, fine, kE, q⟩ := h
    obtain ⟨f_Listed_shares, fd_Listed_shares, G_Listed_shares, M_Listed_shares, b_Listed_shares⟩ := c_Listed_shares
    obtain ⟨f_Ratio___init__, fd_Ratio___init__, G_Ratio___init__, M_Ratio___init__, b_Ratio___init__, ds_Ratio___init__, vd_Ratio___init__, bd_Ratio___init__⟩ := c_Ratio___init__
    obtain ⟨f_Ratio___add__, fd_Ratio___add__, G_Ratio___add__, M_Ratio___add__, b_Ratio___add__⟩ := c_Ratio___add__
    obtain ⟨f_Ratio___rsub__, fd_Ratio___rsub__, G_Ratio___rsub__, M_Ratio___rsub__, b_Ratio___rsub__⟩ := c_Ratio___rsub__
    refine ⟨_, (pss_one (ps_ret (pe_op (op_ref_Sub M_Ratio___rsub__ T.sf_Ratio T.of_Ratio_sub T.sr_Ratio G_Ratio___rsub__ (hr.mono (by decide)) b_Ratio___rsub__ pass0) pe_int (pe_callBK (cr_sumO T.sum_Ratio M_Ratio___add__ rfl (fun _ => pass0) G_Ratio___add__ (hr.mono (by decide)) b_Ratio___add__) (by rfl) m_sum (by decide +kernel) (pa_cons (pe_meth (pv 0) T.cl_Listed M_Listed_shares G_Listed_shares (hr.mono (by decide)) b_Listed_shares .nil (passes_call (takes_of rfl rfl rfl rfl) (fun _ _ _ _ h => h)) (pa_cons (pv 1) pa_nil)) pa_nil) (pk_cons (pe_make M_Ratio___init__ G_Ratio___init__ (hr.mono (by decide)) (by rfl) T.g_Ratio bd_Ratio___init__ vd_Ratio___init__ (passes_call (takes_of rfl rfl rfl rfl) (fun _ _ _ _ h => h)) (pa_cons pe_int pa_nil)) pk_nil))))), ?_⟩
    obtain ⟨dx, t, us, hp, ht, row⟩ := id la
    refine ⟨_, rfl, p, dx, _, rfl, hp, fL_shares _ _, .ref l, rfl, p, l, pw, ns, m, rfl, la, hl, hm, nl, fine, kE, fun ok H1 L rs s1 nL hL lr hr => ?_⟩
    have q := q ok
    obtain ⟨d0, d1⟩ := evW_pos fine
    have es : ((List.range m).map (tkW pw ns)).sum = allW pw ns m := rfl
    have nn : ∀ x ∈ (List.range m).map (tkW pw ns), 0 ≤ x := fun x hx => by
      obtain ⟨i, _, rfl⟩ := List.mem_map.mp hx
      exact tkW_nn fine.b1 ns i
    have s0 : 0 ≤ allW pw ns m := es ▸ sum_nn nn
    have sle : allW pw ns m ≤ evW pw := tk_sum fine.b1 ns m
    generalize hd : evW pw = d at q d0 d1 sle hr
    have smm : Sm (d * d) := sm_of (n := 200) (by
      rw [Int.natAbs_mul]
      have : d.natAbs ≤ 10 * 10 ^ 18 := by omega
      exact Nat.lt_of_le_of_lt (Nat.mul_le_mul this this) (by decide))
    have sd : Sm d := smm.le (by
      rw [Int.natAbs_mul]
      exact Nat.le_mul_of_pos_right _ (by omega))
    refine mk_rat (t := 0) (b := 1) (by decide) (sm_of (n := 1) (by decide)) fun x0 H2 s2 nx r0 => ?_
    have hL2 := s2 _ _ hL
    refine sum_rats (ns := (List.range m).map (tkW pw ns)) (d := d) d0 sd smm (fun i => sd.le ?_) (fun n hn => sd.le ?_) hL2 (by rw [lr, List.length_map, List.length_range]) (fun i r n hi hn => ?_) ⟨_, _, r0, low (by decide)⟩ fun H3 r T1 B1 s3 rr lo => ?_
    · have := take_le nn i
      omega
    · have h1 := nn n hn
      have h2 := mem_le nn n hn
      omega
    · have e := hr i r hi
      rw [List.getElem?_map] at hn
      have lt : i < m := lr ▸ (List.getElem?_eq_some_iff.mp hi).1
      rw [List.getElem?_range lt] at hn
      cases hn
      exact ⟨_, _, e.same s2, low (by omega)⟩
    rw [es] at lo
    have n0 : d ≠ 0 := by omega
    refine ⟨⟨1, rfl⟩, rr.self, r, .int 1, T1, B1, 1, 1, rfl, rr, .inr ⟨rfl, rfl⟩, lo.pos, by decide, sd.le (Nat.le_trans lo.leT (by omega)), sd.le lo.leB, sm_of (n := 1) (by decide), sm_of (n := 1) (by decide), by rw [Int.mul_one]; exact sd.le lo.leB, fun H4 z T2 B2 s4 rz lo2 => ?_⟩
    refine q H4 z T2 B2 (((s1.trans s2).trans s3).trans s4) rz (lo2.to (by have := lo.pos; omega) n0 ?_)
    have e1 := lo.eq
    generalize allW pw ns m = S at e1 ⊢
    grind
def sp__law_cell (K : PySem.W.Frag) : Sp := fun vs H Q _ => ∃ (a : Addr) (ns : List Int) (j : Nat), vs = [.ref a, .int (j : Int)] ∧ SqL K H a (ns.map V.int) ∧ ∀ v : Int, Q (.int v) H
theorem ok__law_cell {f : Addr} {fd : FuncData} {C_Listed C_Ratio C_BadNumber C_TooMany C_BadWish C_NoBuyers C_ZeroBottom C_BadLot : Addr} (F : Fun K "_law_cell" "_law_cell" s__law_cell f fd) (T : Txt K mg C_Listed C_Ratio C_BadNumber C_TooMany C_BadWish C_NoBuyers C_ZeroBottom C_BadLot) (m_int : mg "int" = none) (m_len : mg "len" = none) : FnOk P w K mg base CX0 1 f fd ["_law_script", "_law_place"] (sp__law_cell K) := by
  refine F.ok sc__law_cell (fun vs H Q E h => ?_) (fun cdv A outer s H vs Q E hr h => ?_)
  · obtain ⟨a, ns, j, rfl, _⟩ := h
    rfl
  · obtain ⟨a, ns, j, rfl, hS, q⟩ := h
    refine ⟨_, (pss_cons (ps_if (pt_cmpR op_lt (pv 1) (pe_callB call_len_seq (by rfl) m_len (by decide +kernel) (pa_cons (pv 0) pa_nil)) (nomark _)) (pss_one (ps_ret (pe_callTy call_int1 (by rfl) m_int (by decide +kernel) (pa_cons (pe_ix ix_list (pv 0) (pv 1) (fun _ _ => rfl)) pa_nil)))) pss_nil)
      (pss_one (ps_ret pe_int))), ?_⟩
    refine ⟨_, rfl, .ref a, rfl, a, _, rfl, .inl hS, _, _, rfl, rfl, _, rfl, ite2 (fun e => ?_) (fun _ => q 0)⟩
    have hj : j < ns.length := by
      have e := of_decide_eq_true e
      rw [List.length_map] at e
      omega
    exact ⟨.ref a, rfl, .int (j : Int), rfl, a, _, _, _, rfl, rfl, hS, atI_nat (int_at (List.getElem?_eq_getElem hj)), .inl ⟨_, rfl, q _⟩⟩
def sp__law_draws (K : PySem.W.Frag) : Sp := fun vs H Q _ => ∃ (c : Int) (a : Addr) (ns : List Int), vs = [.int c, .ref a] ∧ SqL K H a (ns.map V.int) ∧ (∀ n ∈ ns, 0 < n ∧ n < 2 ^ 100) ∧ ns.length ≤ 1000 ∧
  ∀ ds H' p, Within ds ns → Same H H' → H p = none → H' p = some (.lst (ds.map V.int)) → Q (.ref p) H'

theorem ok__law_draws {f : Addr} {fd : FuncData} {C_Listed C_Ratio C_BadNumber C_TooMany C_BadWish C_NoBuyers C_ZeroBottom C_BadLot : Addr} (F : Fun K "_law_draws" "_law_draws" s__law_draws f fd) (T : Txt K mg C_Listed C_Ratio C_BadNumber C_TooMany C_BadWish C_NoBuyers C_ZeroBottom C_BadLot) (m_int : mg "int" = none) (m_len : mg "len" = none) (m_range : mg "range" = none) : FnOk P w K mg base CX0 1 f fd ["_law_cell_here", "_law_sizes"] (sp__law_draws K) := by
  refine F.ok sc__law_draws (fun vs H Q E h => ?_) (fun cdv A outer s H vs Q E hr h => ?_)
  · obtain ⟨c, a, ns, rfl, _⟩ := h
    rfl
  · obtain ⟨c, a, ns, rfl, hS, hn, hlen, q⟩ := h
    refine ⟨_, (pss_cons (ps_if (pt_cmpR op_eq (pv 0) pe_int (nomark _)) (pss_one (ps_ret (pe_lc (own := [("_law_size", 2)]) (g := (gName 2)) (tt := tYes) rfl sc__law_draws.nd (pi_list (pv 1)) (blkOk_by (own := [("_law_size", 2)]) (N := ["_law_cell_here", "_law_sizes", "_law_size", "_law_left", "_law_found", "_law_k", "_law_low", "_law_high"]) (sc := defScope s__law_draws) (by decide +kernel)) (fun _ _ _ _ _ => (pg_name (i := 2) sc__law_draws.nd rfl (Or.inl rfl))) (fun _ _ _ _ _ => pts_nil) (fun _ _ _ _ _ => pe_int)))) pss_nil)
      (pss_cons (ps_if (pt_cmpR op_ge (pv 0) (pe_op op_pow pe_int pe_int) (nomark _)) (pss_cons (ps_set (i := 3) sc__law_draws.nd rfl (Or.inl rfl) (pe_op op_sub (pv 0) (pe_op op_pow pe_int pe_int)))
      (pss_cons (ps_set (i := 4) sc__law_draws.nd rfl (Or.inl rfl) (pe_lst pa_nil))
      (pss_cons (ps_for PassesOwn.never rfl (pi_list (pv 1)) (pg_name (i := 2) sc__law_draws.nd rfl (Or.inl rfl))
      (pss_cons (ps_expr (pe_bm PySem.F.plainAttrs_list PySem.F.slot_list_append PySem.F.type_list_append mt_append (pv 4) (pa_cons (pe_op op_mod (pe_callTy call_int1 (by rfl) m_int (by decide +kernel) (pa_cons (pv 3) pa_nil)) (pv 2)) pa_nil)))
      (pss_one (ps_set (i := 3) sc__law_draws.nd rfl (Or.inl rfl) (pe_op op_fdivW (pv 3) (pv 2))))))
      (pss_one (ps_ret (pv 4)))))) pss_nil)
      (pss_cons (ps_set (i := 4) sc__law_draws.nd rfl (Or.inl rfl) (pe_lst pa_nil))
      (pss_cons (ps_for PassesOwn.never rfl (pi_range1 (by rfl) m_range (pa_cons (pe_callB call_len_seq (by rfl) m_len (by decide +kernel) (pa_cons (pv 1) pa_nil)) pa_nil)) (pg_name (i := 5) sc__law_draws.nd rfl (Or.inl rfl))
      (pss_cons (ps_set (i := 6) sc__law_draws.nd rfl (Or.inl rfl) (pe_op op_mod (pe_callTy call_int1 (by rfl) m_int (by decide +kernel) (pa_cons (pe_op op_add (pe_op op_mul (pv 0) pe_int) (pe_op op_mul (pe_op op_add (pv 5) pe_int) pe_int)) pa_nil)) pe_int))
      (pss_cons (ps_set (i := 6) sc__law_draws.nd rfl (Or.inl rfl) (pe_op op_mod (pe_callTy call_int1 (by rfl) m_int (by decide +kernel) (pa_cons (pe_op op_add (pe_op op_mul (pv 6) pe_int) (pe_op op_mul (pe_op op_add (pv 5) pe_int) pe_int)) pa_nil)) pe_int))
      (pss_cons (ps_set (i := 7) sc__law_draws.nd rfl (Or.inl rfl) (pe_op op_mod (pe_callTy call_int1 (by rfl) m_int (by decide +kernel) (pa_cons (pe_op op_add (pe_op op_mul (pv 0) pe_int) (pe_op op_mul (pe_op op_add (pv 5) pe_int) pe_int)) pa_nil)) pe_int))
      (pss_cons (ps_set (i := 7) sc__law_draws.nd rfl (Or.inl rfl) (pe_op op_mod (pe_callTy call_int1 (by rfl) m_int (by decide +kernel) (pa_cons (pe_op op_add (pe_op op_mul (pv 7) pe_int) (pv 6)) pa_nil)) pe_int))
      (pss_one (ps_expr (pe_bm PySem.F.plainAttrs_list PySem.F.slot_list_append PySem.F.type_list_append mt_append (pv 4) (pa_cons (pe_op op_mod (pe_callTy call_int1 (by rfl) m_int (by decide +kernel) (pa_cons (pe_op op_add (pe_op op_mul (pv 7) pe_int) (pv 6)) pa_nil)) (pe_ix ix_list (pv 1) (pv 5) (fun _ _ => rfl))) pa_nil)))))))))
      (pss_one (ps_ret (pv 4))))))), ?_⟩
    have small : ∀ {ds : List Int} {i : Nat}, Within ds (ns.take i) → (ds.map V.int).length < sizeLine := fun {ds i} w => by
      rw [List.length_map, w.len, List.length_take]
      exact small1000 (by omega)
    refine ⟨_, rfl, rfl, _, rfl, ite2 (fun _ => ?_) (fun _ => ?_)⟩
    · -- [0 for size in sizes]
      refine ⟨.ref a, rfl, a, rfl, ⟨_, hS⟩, fun D nD => lc_list (K := K) (a := a) (xs := ns.map V.int) (fun i H2 => ∃ ds : List Int, Same H H2 ∧ H2 D = some (.lst (ds.map V.int)) ∧ Within ds (ns.take i)) ⟨[], same_upd nD, upd_same, Within.zero ns⟩ (fun i H2 _ ⟨_, s, _⟩ => s.seq hS) ?_ ?_⟩
      · rintro i x H2 hi ⟨ds, s, hD, w⟩
        obtain ⟨n, rfl, hin⟩ := int_of hi
        refine ⟨rfl, ?_⟩
        refine lc_yes ?_
        refine iteT ?_
        exact ⟨_, hD, small w, ds ++ [0], same_mut s nD, by rw [upd_same, ← snoc_int], w.step hin (Int.le_refl 0) (hn n (List.mem_of_getElem? hin)).1⟩
      · rintro H2 ⟨ds, s, hD, w⟩
        rw [List.length_map] at w
        exact q ds H2 D w.full s nD hD
    refine ⟨_, rfl, 10, 18, rfl, rfl, ⟨by decide, by decide, by decide⟩, _, _, rfl, rfl, _, rfl, ite2 (fun _ => ?_) (fun _ => ?_)⟩
    · -- left = cell - 10 ** 18; found = []
      refine ⟨_, rfl, 10, 18, rfl, rfl, ⟨by decide, by decide, by decide⟩, _, _, rfl, rfl, ?_⟩
      refine ⟨Nat.zero_le _, fun o no => ?_⟩
      have s1 : Same H (upd H o (.lst [])) := same_upd no
      refine ⟨.ref a, rfl, a, rfl, ⟨_, s1.seq hS⟩, for_list (K := K) (a := a) (xs := ns.map V.int) (fun i σ H2 => ∃ (ds : List Int) (l : Int) (y : Option V), σ = [some (.int c), some (.ref a), y, some (.int l), some (.ref o), none, none, none] ∧ Same H H2 ∧ H2 o = some (.lst (ds.map V.int)) ∧ Within ds (ns.take i))
        ⟨[], _, none, rfl, s1, upd_same, Within.zero ns⟩ (fun i σ H2 _ ⟨_, _, _, _, s, _⟩ => s.seq hS) ?_ ?_⟩
      · rintro i x σ H2 hi ⟨ds, l, y, rfl, s, hD, w⟩
        obtain ⟨n, rfl, hin⟩ := int_of hi
        obtain ⟨n0, n1⟩ := hn n (List.mem_of_getElem? hin)
        refine ⟨.ref o, rfl, .inl ⟨rfl, _, lst_l hD⟩, _, rfl, .inl ⟨l, rfl, _, rfl, _, _, rfl, rfl, n0, o, _, _, rfl, rfl, hD, small w, ?_⟩⟩
        refine ⟨_, rfl, _, rfl, _, _, rfl, rfl, w_div n0 n1, ds ++ [l % n], _, _, rfl, same_mut s no, by rw [upd_same, ← snoc_int], w.step hin (Int.emod_nonneg _ (by omega)) (Int.emod_lt_of_pos _ n0)⟩
      · rintro σ H2 ⟨ds, l, y, rfl, s, hD, w⟩
        rw [List.length_map] at w
        exact ⟨_, rfl, q ds H2 o w.full s no hD⟩
    · refine ⟨Nat.zero_le _, fun o no => ?_⟩
      have s1 : Same H (upd H o (.lst [])) := same_upd no
      refine ⟨.ref a, rfl, a, _, rfl, .inl (s1.seq hS), _, rfl, ?_⟩
      rw [List.length_map]
      refine ⟨by omega, by omega, ?_⟩
      rw [Int.toNat_natCast]
      refine for_range (lo := 0) (n := ns.length) (fun i σ H2 => ∃ (ds : List Int) (y1 y2 y3 : Option V), σ = [some (.int c), some (.ref a), none, none, some (.ref o), y1, y2, y3] ∧ Same H H2 ∧ H2 o = some (.lst (ds.map V.int)) ∧ Within ds (ns.take i))
        ⟨[], none, none, none, rfl, s1, upd_same, Within.zero ns⟩ ?_ ?_
      · rintro i σ H2 hi ⟨ds, y1, y2, y3, rfl, s, hD, w⟩
        have hin : ns[i]? = some ns[i] := List.getElem?_eq_getElem hi
        obtain ⟨n0, n1⟩ := hn ns[i] (List.getElem_mem hi)
        refine ⟨_, rfl, _, _, rfl, rfl, .inr ⟨by decide, by decide⟩, _, rfl, _, _, rfl, rfl, _, _, rfl, rfl, .inr ⟨by decide, by decide⟩, _, _, rfl, rfl, .inl ⟨_, rfl, _, _, rfl, rfl, (show (0 : Int) < 2147483647 by decide), ?_⟩⟩
        refine ⟨_, rfl, _, _, rfl, rfl, .inr ⟨by decide, by decide⟩, _, rfl, _, _, rfl, rfl, _, _, rfl, rfl, .inr ⟨by decide, by decide⟩, _, _, rfl, rfl, .inl ⟨_, rfl, _, _, rfl, rfl, (show (0 : Int) < 2147483399 by decide), ?_⟩⟩
        refine ⟨_, rfl, _, _, rfl, rfl, .inr ⟨by decide, by decide⟩, _, rfl, _, _, rfl, rfl, _, _, rfl, rfl, .inr ⟨by decide, by decide⟩, _, _, rfl, rfl, .inl ⟨_, rfl, _, _, rfl, rfl, (show (0 : Int) < 2147483563 by decide), ?_⟩⟩
        refine ⟨_, rfl, _, _, rfl, rfl, .inr ⟨by decide, by decide⟩, _, rfl, _, _, rfl, rfl, .inl ⟨_, rfl, _, _, rfl, rfl, (show (0 : Int) < 2147483587 by decide), ?_⟩⟩
        refine ⟨.ref o, rfl, .inl ⟨rfl, _, lst_l hD⟩, _, rfl, _, _, rfl, rfl, .inr ⟨by decide, by decide⟩, _, rfl, _, _, rfl, rfl, .inl ⟨_, rfl, .ref a, rfl, .int (0 + (i : Int)), rfl, a, _, _, _, rfl, rfl, s.seq hS, at_of (Int.zero_add _) (int_at hin), _, _, rfl, rfl, n0, o, _, _, rfl, rfl, hD, small w, ?_⟩⟩
        exact ⟨ds ++ [_], _, _, _, rfl, same_mut s no, by rw [upd_same, ← snoc_int], w.step hin (Int.emod_nonneg _ (by omega)) (Int.emod_lt_of_pos _ n0)⟩
      · rintro σ H2 ⟨ds, y1, y2, y3, rfl, s, hD, w⟩
        exact ⟨_, rfl, q ds H2 o w.full s no hD⟩
def sp__law_row (K : PySem.W.Frag) : Sp := fun vs H Q _ => ∃ (c : Int) (m : Nat), vs = [.int c, .int (m : Int)] ∧ m ≤ 900 ∧ ∀ (ns : List Int) (H' : Hp) (p : Addr), ns.length = m → (∀ n ∈ ns, 0 ≤ n ∧ n < 10 ^ 18 - 1) → Same H H' → H p = none → H' p = some (.lst (ns.map V.int)) → Q (.ref p) H'

theorem ok__law_row {f : Addr} {fd : FuncData} {C_Listed C_Ratio C_BadNumber C_TooMany C_BadWish C_NoBuyers C_ZeroBottom C_BadLot : Addr} (F : Fun K "_law_row" "_law_row" s__law_row f fd) (T : Txt K mg C_Listed C_Ratio C_BadNumber C_TooMany C_BadWish C_NoBuyers C_ZeroBottom C_BadLot) (m_int : mg "int" = none) (m_range : mg "range" = none) (c__law_draws : Cal P w K mg base CX0 1 "_law_draws" ["_law_cell_here", "_law_sizes"] (sp__law_draws K)) : FnOk P w K mg base CX0 2 f fd ["_law_cell_here", "_law_count"] (sp__law_row K) := by
  refine F.ok sc__law_row (fun vs H Q E h => ?_) (fun cdv A outer s H vs Q E hr h => ?_)
  · obtain ⟨c, m, rfl, _⟩ := h
    rfl
  · obtain ⟨c, m, rfl, hm, q⟩ := h
    obtain ⟨f__law_draws, fd__law_draws, G__law_draws, m__law_draws, k__law_draws, b__law_draws⟩ := c__law_draws
    refine ⟨_, (pss_cons (ps_set (i := 2) sc__law_row.nd rfl (Or.inl rfl) (pe_call G__law_draws (hr.mono (by decide)) (by rfl) m__law_draws k__law_draws b__law_draws .nil pass0 (pa_cons (pv 0) (pa_cons (pe_op op_cat (pe_lst (pa_cons pe_int pa_nil)) (pe_lc (own := [("_law_k", 5)]) (g := (gName 5)) (tt := tYes) rfl sc__law_row.nd (pi_range1 (by rfl) m_range (pa_cons (pv 1) pa_nil)) (blkOk_by (own := [("_law_k", 5)]) (N := ["_law_cell_here", "_law_count", "_law_drawn", "_law_bound", "_law_value", "_law_k"]) (sc := defScope s__law_row) (by decide +kernel)) (fun _ _ _ _ _ => (pg_name (i := 5) sc__law_row.nd rfl (Or.inl rfl))) (fun _ _ _ _ _ => pts_nil) (fun _ _ _ _ _ => (pe_op op_pow pe_int pe_int)))) pa_nil))))
      (pss_cons (ps_set (i := 3) sc__law_row.nd rfl (Or.inr rfl) (pe_ix ix_list (pe_lst (pa_cons pe_int (pa_cons pe_int (pa_cons (pe_op op_pow pe_int pe_int) (pa_cons (pe_op op_sub (pe_op op_pow pe_int pe_int) pe_int) pa_nil))))) (pe_ix ix_list (pv 2) pe_int (fun _ _ => rfl)) (fun _ _ => rfl)))
      (pss_one (ps_ret (pe_lc (own := [("_law_value", 4)]) (g := (gName 4)) (tt := tYes) rfl sc__law_row.nd (pi_list (pe_slice sl_list (pv 2) (po_some pe_int) po_none)) (blkOk_by (own := [("_law_value", 4)]) (N := ["_law_cell_here", "_law_count", "_law_drawn", "_law_bound", "_law_value", "_law_k"]) (sc := defScope s__law_row) (by decide +kernel)) (fun _ _ _ _ _ => (pg_name (i := 4) sc__law_row.nd rfl (Or.inl rfl))) (fun _ _ _ _ _ => pts_nil) (fun _ _ _ _ _ => (pe_op op_mod (pe_callTy call_int1 (by rfl) m_int (by decide +kernel) (pa_cons (pv 4) pa_nil)) (pv 3)))))))), ?_⟩
    -- draws(cell, [4] + [10 ** 18 for k in range(count)])
    refine ⟨_, rfl, small1000 (by decide), fun p1 n1 => ?_⟩
    have s1 : Same H (upd H p1 (.lst [V.int 4])) := same_upd n1
    refine ⟨_, rfl, _, rfl, by omega, by omega, ?_⟩
    rw [Int.toNat_natCast]
    refine fun D nD => lc_range (lo := 0) (n := m) (fun i H2 => Same (upd H p1 (.lst [V.int 4])) H2 ∧ H2 D = some (.lst ((List.replicate i (10 ^ 18 : Int)).map V.int))) ⟨same_upd nD, upd_same⟩ ?_ ?_
    · rintro i H2 hi ⟨s, hD⟩
      refine ⟨rfl, ?_⟩
      refine lc_yes ?_
      refine iteT ?_
      refine ⟨10, 18, rfl, rfl, ⟨by decide, by decide, by decide⟩, _, hD, ?_, same_mut s nD, ?_⟩
      · rw [List.length_map, List.length_replicate]
        exact small1000 (by omega)
      · rw [upd_same, List.replicate_succ', ← snoc_int]
        rfl
    rintro H2 ⟨s2, hD⟩
    refine ⟨p1, D, _, _, rfl, rfl, s2 _ _ upd_same, hD, ?_, fun p3 n3 => ?_⟩
    · rw [List.length_map, List.length_replicate]
      exact Nat.le_of_lt (small1000 (by show 1 + m ≤ 1000; omega))
    have s3 : Same H (upd H2 p3 (.lst ((4 :: List.replicate m (10 ^ 18 : Int)).map V.int))) := (s1.trans s2).trans (same_upd n3)
    refine ⟨c, p3, 4 :: List.replicate m (10 ^ 18 : Int), rfl, lst_l upd_same, ?_, ?_, fun ds H4 d w s4 nd hd => ?_⟩
    · intro n hn
      rcases List.mem_cons.mp hn with rfl | hn
      · decide
      · rw [(List.mem_replicate.mp hn).2]
        exact big18
    · rw [List.length_cons, List.length_replicate]
      omega
    obtain ⟨d0, r, rfl, l0, u0, w⟩ := w.c
    have hr : r.length = m := by
      rw [w.len, List.length_replicate]
    have hL : SqL K H4 d ((d0 :: r).map V.int) := lst_l hd
    have sH : Same H H4 := s3.trans s4
    -- bound = [4, 30, 10 ** 9, 10 ** 18 - 1][drawn[0]]
    refine ⟨10, 9, rfl, rfl, ⟨by decide, by decide, by decide⟩, 10, 18, rfl, rfl, ⟨by decide, by decide, by decide⟩, _, _, rfl, rfl, small1000 (by decide), fun p5 n5 => ?_⟩
    obtain ⟨b, hb, b0, b1⟩ : ∃ b : Int, atI [V.int 4, V.int 30, V.int (10 ^ 9), V.int (10 ^ 18 - 1)] d0 = some (V.int b) ∧ 0 < b ∧ b ≤ 10 ^ 18 - 1 := by
      rcases (by omega : d0 = 0 ∨ d0 = 1 ∨ d0 = 2 ∨ d0 = 3) with rfl | rfl | rfl | rfl
      · exact ⟨4, rfl, by decide, by decide⟩
      · exact ⟨30, rfl, by decide, by decide⟩
      · exact ⟨10 ^ 9, rfl, by decide, by decide⟩
      · exact ⟨10 ^ 18 - 1, rfl, by decide, by decide⟩
    have s5 := same_upd (o := .lst [V.int 4, V.int 30, V.int (10 ^ 9), V.int (10 ^ 18 - 1)]) n5
    refine ⟨.ref d, rfl, d, _, _, .int d0, rfl, rfl, s5.seq hL, atI_nat (j := 0) rfl, p5, _, _, .int b, rfl, rfl, lst_l upd_same, hb, ?_⟩
    -- [int(value) % bound for value in drawn[1:]]
    refine ⟨.ref d, rfl, 1, rfl, d, _, rfl, s5.seq hL, fun p6 n6 => ?_⟩
    rw [cut_from1]
    have s6 := same_upd (o := .lst (((d0 :: r).map V.int).drop 1)) n6
    have sT : Same H _ := (sH.trans s5).trans s6
    refine ⟨p6, rfl, ⟨r.map V.int, lst_l upd_same⟩, fun D nD => lc_list (K := K) (a := p6) (xs := r.map V.int) (fun i H2 => Same (upd (upd H4 p5 (.lst [V.int 4, V.int 30, V.int (10 ^ 9), V.int (10 ^ 18 - 1)])) p6 (.lst (((d0 :: r).map V.int).drop 1))) H2 ∧ H2 D = some (.lst (((r.take i).map fun v => v % b).map V.int))) ⟨same_upd nD, upd_same⟩ (fun i H2 _ ⟨s, _⟩ => s.seq (lst_l upd_same)) ?_ ?_⟩
    · rintro i x H2 hi ⟨s, hD⟩
      obtain ⟨n, rfl, hin⟩ := int_of hi
      refine ⟨rfl, ?_⟩
      refine lc_yes ?_
      refine iteT ?_
      refine ⟨_, rfl, .inl ⟨n, rfl, _, rfl, _, _, rfl, rfl, b0, _, hD, ?_, same_mut s nD, ?_⟩⟩
      · rw [List.length_map, List.length_map, List.length_take]
        exact small1000 (by omega)
      · rw [upd_same, List.take_add_one, hin, List.map_append, List.map_append]
        rfl
    · rintro H2 ⟨s, hD⟩
      rw [List.length_map, List.take_length] at hD
      refine q (r.map fun v => v % b) H2 D (by rw [List.length_map, hr]) ?_ (sT.trans s) (sT.free nD) hD
      intro n hn
      obtain ⟨x, _, rfl⟩ := List.mem_map.mp hn
      have h1 := Int.emod_nonneg x (show b ≠ 0 by omega)
      have h2 := Int.emod_lt_of_pos x b0
      omega
def sp__law_ups (K : PySem.W.Frag) : Sp := fun vs H Q _ => ∃ (a : Addr) (ns : List Int), vs = [.ref a] ∧ H a = some (.lst (ns.map V.int)) ∧ ns.length ≤ 1000 ∧ ∀ H' p, Same H H' → H p = none → H' p = some (.lst ((ns.map fun n => 1 + n).map V.int)) → Q (.ref p) H' 
theorem ok__law_ups {f : Addr} {fd : FuncData} {C_Listed C_Ratio C_BadNumber C_TooMany C_BadWish C_NoBuyers C_ZeroBottom C_BadLot : Addr} (F : Fun K "_law_ups" "_law_ups" s__law_ups f fd) (T : Txt K mg C_Listed C_Ratio C_BadNumber C_TooMany C_BadWish C_NoBuyers C_ZeroBottom C_BadLot) : FnOk P w K mg base CX0 1 f fd ["_law_row_here"] (sp__law_ups K) := by
  refine F.ok sc__law_ups (fun vs H Q E h => ?_) (fun cdv A outer s H vs Q E hr h => ?_)
  · obtain ⟨a, ns, rfl, _⟩ := h
    rfl
  · obtain ⟨a, ns, rfl, hl, hlen, q⟩ := h
    refine ⟨_, (pss_one (ps_ret (pe_lc (own := [("_law_number", 1)]) (g := (gName 1)) (tt := tYes) rfl sc__law_ups.nd (pi_list (pv 0)) (blkOk_by (own := [("_law_number", 1)]) (N := ["_law_row_here", "_law_number"]) (sc := defScope s__law_ups) (by decide +kernel)) (fun _ _ _ _ _ => (pg_name (i := 1) sc__law_ups.nd rfl (Or.inl rfl))) (fun _ _ _ _ _ => pts_nil) (fun _ _ _ _ _ => (pe_op op_add pe_int (pv 1)))))), ?_⟩
    refine ⟨.ref a, rfl, a, rfl, ⟨_, lst_l hl⟩, fun D nD => lc_list (K := K) (a := a) (xs := ns.map V.int) (fun i H2 => Same H H2 ∧ H2 D = some (.lst (((ns.take i).map fun n => 1 + n).map V.int))) ⟨same_upd nD, upd_same⟩ (fun i H2 _ ⟨s, _⟩ => lst_l (s _ _ hl)) ?_ ?_⟩
    · rintro i x H2 hi ⟨s, hD⟩
      obtain ⟨n, rfl, hin⟩ := int_of hi
      refine ⟨rfl, ?_⟩
      refine lc_yes ?_
      refine iteT ?_
      refine ⟨_, rfl, _, _, rfl, rfl, _, hD, ?_, same_mut s nD, ?_⟩
      · rw [List.length_map, List.length_map, List.length_take]
        exact small1000 (by omega)
      · rw [upd_same, List.take_add_one, hin, List.map_append, List.map_append]
        rfl
    · rintro H2 ⟨s, hD⟩
      rw [List.length_map, List.take_length] at hD
      exact q H2 D s nD hD
def sp__law_lot : Sp := fun vs H Q _ => ∃ (b : Int) (m : Nat), vs = [.int b, .int (m : Int)] ∧ m ≤ 900 ∧ ∀ H' t (ns : List Int), Same H H' → H t = none → H' t = some (.tup (ns.map V.int)) → lotB ns (-1) m = true → ns.length ≤ m → Q (.ref t) H' 
theorem ok__law_lot {f : Addr} {fd : FuncData} {C_Listed C_Ratio C_BadNumber C_TooMany C_BadWish C_NoBuyers C_ZeroBottom C_BadLot : Addr} (F : Fun K "_law_lot" "_law_lot" s__law_lot f fd) (T : Txt K mg C_Listed C_Ratio C_BadNumber C_TooMany C_BadWish C_NoBuyers C_ZeroBottom C_BadLot) (m_int : mg "int" = none) (m_range : mg "range" = none) (m_tuple : mg "tuple" = none) : FnOk P w K mg base CX0 1 f fd ["_law_bits", "_law_many"] sp__law_lot := by
  refine F.ok sc__law_lot (fun vs H Q E h => ?_) (fun cdv A outer s H vs Q E hr h => ?_)
  · obtain ⟨b, m, rfl, _⟩ := h
    rfl
  · obtain ⟨b, m, rfl, hm, q⟩ := h
    refine ⟨_, (pss_cons (ps_set (i := 2) sc__law_lot.nd rfl (Or.inl rfl) (pe_lst pa_nil))
      (pss_cons (ps_set (i := 3) sc__law_lot.nd rfl (Or.inl rfl) (pe_callTy call_int1 (by rfl) m_int (by decide +kernel) (pa_cons (pv 0) pa_nil)))
      (pss_cons (ps_for PassesOwn.never rfl (pi_range1 (by rfl) m_range (pa_cons (pv 1) pa_nil)) (pg_name (i := 4) sc__law_lot.nd rfl (Or.inl rfl))
      (Evl.pss_cut (ps_if (pt_cmpR op_eq (pe_op op_mod (pv 3) pe_int) pe_int (nomark _)) (pss_one (ps_expr (pe_bm PySem.F.plainAttrs_list PySem.F.slot_list_append PySem.F.type_list_append mt_append (pv 2) (pa_cons (pv 4) pa_nil)))) pss_nil)
      (pss_one (ps_set (i := 3) sc__law_lot.nd rfl (Or.inl rfl) (pe_op op_fdivW (pv 3) pe_int)))))
      (pss_one (ps_ret (pe_callTy call_tuple_of (by rfl) m_tuple (by decide +kernel) (pa_cons (pv 2) pa_nil))))))), ?_⟩
    refine ⟨Nat.zero_le _, fun o no => ?_⟩
    refine ⟨_, rfl, .inl ⟨b, rfl, ?_⟩⟩
    refine ⟨_, rfl, _, rfl, by omega, by omega, ?_⟩
    rw [Int.toNat_natCast]
    refine for_range (lo := 0) (n := m) (fun i σ H2 => ∃ (ds : List Int) (l : Int) (y : Option V), σ = [some (.int b), some (.int (m : Int)), some (.ref o), some (.int l), y] ∧ Same H H2 ∧ H2 o = some (.lst (ds.map V.int)) ∧ lotB ds (-1) i = true ∧ ds.length ≤ i) ⟨[], b, none, rfl, same_upd no, upd_same, rfl, Nat.le_refl _⟩ ?_ ?_
    · rintro i σ H2 hi ⟨ds, l, y, rfl, s, hD, lo, ln⟩
      refine ⟨fun σ' H' => ∃ ds' : List Int, σ' = [some (.int b), some (.int (m : Int)), some (.ref o), some (.int l), some (.int (0 + (i : Int)))] ∧ Same H H' ∧ H' o = some (.lst (ds'.map V.int)) ∧ lotB ds' (-1) ((i + 1 : Nat) : Int) = true ∧ ds'.length ≤ i + 1, ?_, ?_⟩
      · refine ⟨_, rfl, _, _, rfl, rfl, (show (0 : Int) < 2 by decide), rfl, _, rfl, ite2 (fun _ => ?_) (fun _ => ?_)⟩
        · refine ⟨.ref o, rfl, .inl ⟨rfl, _, lst_l hD⟩, _, rfl, o, _, _, rfl, rfl, hD, ?_, ds ++ [0 + (i : Int)], rfl, same_mut s no, by rw [upd_same, ← snoc_int], ?_, ?_⟩
          · rw [List.length_map]
            exact small1000 (by omega)
          · rw [Int.zero_add]
            exact lotB_snoc lo (by omega)
          · rw [List.length_append]
            exact Nat.add_le_add_right ln 1
        · exact ⟨ds, rfl, s, hD, lotB_mono lo (by omega), by omega⟩
      · rintro σ' H' ⟨ds', rfl, s', hD', lo', ln'⟩
        exact ⟨_, rfl, _, _, rfl, rfl, w_div (by decide) (by decide), ds', _, _, rfl, s', hD', lo', ln'⟩
    · rintro σ H2 ⟨ds, l, y, rfl, s, hD, lo, ln⟩
      exact ⟨_, rfl, o, _, rfl, .inl ⟨lst_l hD, fun t nt => q _ t ds (s.trans (same_upd nt)) (s.free nt) upd_same lo ln⟩⟩
def sp__law_shuffled (K : PySem.W.Frag) : Sp := fun vs H Q _ => ∃ (a b : Addr) (ps ns : List Int), vs = [.ref a, .ref b] ∧ H a = some (.lst (ps.map V.int)) ∧ H b = some (.lst (ns.map V.int)) ∧ ps.length = ns.length ∧ ns.length ≤ 900 ∧ ∀ H' p (fs : List Int), Same H H' → H' p = some (.lst (fs.map V.int)) → fs.Perm ns → Q (.ref p) H' 
theorem ok__law_shuffled {f : Addr} {fd : FuncData} {C_Listed C_Ratio C_BadNumber C_TooMany C_BadWish C_NoBuyers C_ZeroBottom C_BadLot : Addr} (F : Fun K "_law_shuffled" "_law_shuffled" s__law_shuffled f fd) (T : Txt K mg C_Listed C_Ratio C_BadNumber C_TooMany C_BadWish C_NoBuyers C_ZeroBottom C_BadLot) (m_int : mg "int" = none) (m_len : mg "len" = none) (m_list : mg "list" = none) : FnOk P w K mg base CX0 1 f fd ["_law_places", "_law_things"] (sp__law_shuffled K) := by
  refine F.ok sc__law_shuffled (fun vs H Q E h => ?_) (fun cdv A outer s H vs Q E hr h => ?_)
  · obtain ⟨a, b, ps, ns, rfl, _⟩ := h
    rfl
  · obtain ⟨a, b, ps, ns, rfl, ha, hb, pl, nl, q⟩ := h
    refine ⟨_, (pss_cons (ps_set (i := 2) sc__law_shuffled.nd rfl (Or.inl rfl) (pe_callTy call_list_of (by rfl) m_list (by decide +kernel) (pa_cons (pv 1) pa_nil)))
      (pss_cons (ps_set (i := 3) sc__law_shuffled.nd rfl (Or.inl rfl) (pe_lst pa_nil))
      (pss_cons (ps_for PassesOwn.never rfl (pi_list (pv 0)) (pg_name (i := 4) sc__law_shuffled.nd rfl (Or.inl rfl))
      (pss_one (ps_if (pt_cmpR op_gt (pe_callB call_len_seq (by rfl) m_len (by decide +kernel) (pa_cons (pv 2) pa_nil)) pe_int (nomark _)) (pss_one (ps_expr (pe_bm PySem.F.plainAttrs_list PySem.F.slot_list_append PySem.F.type_list_append mt_append (pv 3) (pa_cons (pe_bm PySem.F.plainAttrs_list PySem.F.slot_list_pop PySem.F.type_list_pop mt_popAt (pv 2) (pa_cons (pe_op op_mod (pe_callTy call_int1 (by rfl) m_int (by decide +kernel) (pa_cons (pv 4) pa_nil)) (pe_callB call_len_seq (by rfl) m_len (by decide +kernel) (pa_cons (pv 2) pa_nil))) pa_nil)) pa_nil)))) pss_nil)))
      (pss_one (ps_ret (pv 3)))))), ?_⟩
    refine ⟨_, rfl, b, _, rfl, .inl (lst_l hb), fun L nL => ?_⟩
    have s1 := same_upd (o := .lst (ns.map V.int)) nL
    refine ⟨Nat.zero_le _, fun o no => ?_⟩
    have no' : H o = none := s1.free no
    have oL : L ≠ o := fun z => by
      rw [← z, upd_same] at no
      cases no
    refine ⟨.ref a, rfl, a, rfl, ⟨_, lst_l ((s1.trans (same_upd no)) _ _ ha)⟩, for_list (K := K) (a := a) (xs := ps.map V.int) (fun i σ H2 => ∃ (ls fs : List Int) (y : Option V), σ = [some (.ref a), some (.ref b), some (.ref L), some (.ref o), y] ∧ Same H H2 ∧ H2 L = some (.lst (ls.map V.int)) ∧ H2 o = some (.lst (fs.map V.int)) ∧ ls.length + i = ns.length ∧ (fs ++ ls).Perm ns)
      ⟨ns, [], none, rfl, s1.trans (same_upd no), (upd_ne oL).trans upd_same, upd_same, rfl, List.Perm.refl _⟩ (fun i σ H2 _ ⟨_, _, _, _, s, _⟩ => lst_l (s _ _ ha)) ?_ ?_⟩
    · rintro i x σ H2 hi ⟨ls, fs, y, rfl, s, hL, ho, ll, pf⟩
      obtain ⟨v, rfl, hin⟩ := int_of hi
      have il := (List.getElem?_eq_some_iff.mp hin).1
      refine ⟨_, rfl, L, _, rfl, .inl (lst_l hL), _, _, rfl, rfl, _, rfl, ite2 (fun c => ?_) (fun c => ?_)⟩
      · have j0 := Int.emod_nonneg v (show (ls.length : Int) ≠ 0 by omega)
        have j1 := Int.emod_lt_of_pos v (show (0 : Int) < ls.length by omega)
        obtain ⟨k, hk⟩ : ∃ k : Nat, v % (ls.length : Int) = (k : Int) := ⟨(v % (ls.length : Int)).toNat, by omega⟩
        have kl : k < ls.length := by omega
        have lf := pf.length_eq
        rw [List.length_append] at lf
        refine ⟨.ref o, rfl, .inl ⟨rfl, _, lst_l ho⟩, .ref L, rfl, .inl ⟨rfl, _, lst_l hL⟩, _, rfl, .inl ⟨v, rfl, .ref L, rfl, L, _, rfl, .inl (lst_l hL), ?_⟩⟩
        rw [List.length_map]
        refine ⟨_, _, rfl, rfl, by omega, ?_⟩
        refine ⟨L, _, _, k, .int ls[k], rfl, rfl, hL, by show -(2 ^ 63) ≤ v % (ls.length : Int); omega, by show v % (ls.length : Int) < 2 ^ 63; omega, ?_, int_at (List.getElem?_eq_getElem kl), ?_⟩
        · rw [List.length_map]
          show seqIndex? (v % (ls.length : Int)) ls.length = some k
          rw [hk]
          unfold seqIndex?
          simp
          omega
        have ho2 : upd H2 L (.lst ((ls.map V.int).eraseIdx k)) o = some (.lst (fs.map V.int)) := (upd_ne (Ne.symm oL)).trans ho
        refine ⟨o, _, _, rfl, rfl, ho2, ?_, ls.eraseIdx k, fs ++ [ls[k]], _, rfl, same_mut (same_mut s nL) no', ?_, ?_, ?_, ?_⟩
        · rw [List.length_map]
          exact small1000 (by omega)
        · rw [upd_ne oL, upd_same, map_erase]
        · rw [upd_same, ← snoc_int]
        · rw [List.length_eraseIdx, if_pos kl]
          omega
        · rw [List.append_assoc]
          refine (List.Perm.append_left fs ?_).trans pf
          exact erase_perm kl
      · exfalso
        refine c (decide_eq_true ?_)
        rw [List.length_map]
        omega
    · rintro σ H2 ⟨ls, fs, y, rfl, s, hL, ho, ll, pf⟩
      rw [List.length_map] at ll
      have e : ls = [] := List.eq_nil_of_length_eq_zero (by omega)
      rw [e, List.append_nil] at pf
      exact ⟨_, rfl, q H2 o fs s ho pf⟩
def sp__law_is_int : Sp := fun vs H Q _ => ∃ v : Int, vs = [.int v] ∧ Q (.bl true) H
theorem ok__law_is_int {f : Addr} {fd : FuncData} {C_Listed C_Ratio C_BadNumber C_TooMany C_BadWish C_NoBuyers C_ZeroBottom C_BadLot : Addr} (F : Fun K "_law_is_int" "_law_is_int" s__law_is_int f fd) (T : Txt K mg C_Listed C_Ratio C_BadNumber C_TooMany C_BadWish C_NoBuyers C_ZeroBottom C_BadLot) (m_bool : mg "bool" = none) (m_int : mg "int" = none) (m_isinstance : mg "isinstance" = none) : FnOk P w K mg base CX0 1 f fd ["_law_x"] sp__law_is_int := by
  refine F.ok sc__law_is_int (fun vs H Q E h => ?_) (fun cdv A outer s H vs Q E hr h => ?_)
  · obtain ⟨v, rfl, _⟩ := h
    rfl
  · obtain ⟨v, rfl, q⟩ := h
    refine ⟨_, (pss_one (ps_ret (pe_and (pe_callB call_isi (by rfl) m_isinstance (by decide +kernel) (pa_cons (pv 0) (pa_cons (pe_bltn (v := .ty "int") (by rfl) m_int (by decide +kernel) rfl) pa_nil))) (pe_one (pe_not (pe_callB call_isi (by rfl) m_isinstance (by decide +kernel) (pa_cons (pv 0) (pa_cons (pe_bltn (v := .ty "bool") (by rfl) m_bool (by decide +kernel) rfl) pa_nil)))))))), ?_⟩
    exact ⟨_, rfl, .int v, .ty "int", _, _, true, rfl, .ty "int", .base (.int v), kit_ty kI, true, rfl, iteT ⟨_, rfl, .int v, .ty "bool", _, _, false, rfl, .ty "bool", .base (.int v), kit_ty kB, false, rfl, q⟩⟩
def sp__law_same (C : Addr) : Sp := fun vs H Q _ => ∃ (p : Addr) (T B t b : Int), vs = [.ref p, .int t, .int b] ∧ RatAt C H p T B ∧ 0 < B ∧ T * b = t * B ∧ CMulW T b ∧ CMulW t B ∧ Q (.bl true) H
theorem ok__law_same {f : Addr} {fd : FuncData} {C_Listed C_Ratio C_BadNumber C_TooMany C_BadWish C_NoBuyers C_ZeroBottom C_BadLot : Addr} (F : Fun K "_law_same" "_law_same" s__law_same f fd) (T : Txt K mg C_Listed C_Ratio C_BadNumber C_TooMany C_BadWish C_NoBuyers C_ZeroBottom C_BadLot) (m_isinstance : mg "isinstance" = none) (c__law_is_int : Cal P w K mg base CX0 1 "_law_is_int" ["_law_x"] sp__law_is_int) : FnOk P w K mg base CX0 2 f fd ["_law_x", "_law_top", "_law_bottom"] (sp__law_same C_Ratio) := by
  refine F.ok sc__law_same (fun vs H Q E h => ?_) (fun cdv A outer s H vs Q E hr h => ?_)
  · obtain ⟨p, T1, B, t, b, rfl, _⟩ := h
    rfl
  · obtain ⟨p, T1, B, t, b, rfl, ⟨dx, hp⟩, pos, eq, m1, m2, q⟩ := h
    obtain ⟨f__law_is_int, fd__law_is_int, G__law_is_int, m__law_is_int, k__law_is_int, b__law_is_int⟩ := c__law_is_int
    refine ⟨_, (pss_cons (ps_if (pt_not (pt_val (pe_callB call_isi (by rfl) m_isinstance (by decide +kernel) (pa_cons (pv 0) (pa_cons (pe_glob (v := .ref C_Ratio) (by rfl) T.g_Ratio rfl) pa_nil))))) (pss_one (ps_ret pe_bl)) pss_nil)
      (pss_cons (ps_if (PW.pt (pw_or (pt_not (pt_val (pe_call G__law_is_int (hr.mono (by decide)) (by rfl) m__law_is_int k__law_is_int b__law_is_int .nil pass0 (pa_cons (pe_fld (pv 0) rfl) pa_nil)))) (pw_or (pt_not (pt_val (pe_call G__law_is_int (hr.mono (by decide)) (by rfl) m__law_is_int k__law_is_int b__law_is_int .nil pass0 (pa_cons (pe_fld (pv 0) rfl) pa_nil)))) (pw_or1 (pt_cmpR op_lt (pe_fld (pv 0) rfl) pe_int (nomark _)))))) (pss_one (ps_ret pe_bl)) pss_nil)
      (pss_one (ps_ret (pe_cmpR op_eq (pe_op op_mulW (pe_fld (pv 0) rfl) (pv 2)) (pe_op op_mulW (pv 1) (pe_fld (pv 0) rfl)) (nomark _)))))), ?_⟩
    refine ⟨.ref p, rfl, .ref p, .ref C_Ratio, .ref C_Ratio, .ref C_Ratio, true, rfl, .own C_Ratio, .base (.ins hp T.cl_Ratio T.ha_Ratio T.hnc T.htk T.hm_Ratio), T.kit_Ratio_Ratio, true, rfl, iteF ?_⟩
    refine ⟨.ref p, rfl, p, C_Ratio, dx, _, _, rfl, hp, T.cl_Ratio, T.n_Ratio_top, rF_top T1 B, T1, rfl, true, rfl, iteF ?_⟩
    refine ⟨.ref p, rfl, p, C_Ratio, dx, _, _, rfl, hp, T.cl_Ratio, T.n_Ratio_bottom, rF_bot T1 B, B, rfl, true, rfl, iteF ?_⟩
    refine ⟨.ref p, rfl, p, C_Ratio, dx, _, _, rfl, hp, T.cl_Ratio, T.n_Ratio_bottom, rF_bot T1 B, _, _, rfl, rfl, _, rfl, ?_⟩
    rw [decide_eq_false (show ¬ B < 1 by omega)]
    refine iteF ?_
    refine ⟨.ref p, rfl, p, C_Ratio, dx, _, _, rfl, hp, T.cl_Ratio, T.n_Ratio_top, rF_top T1 B, .int b, rfl, T1, b, rfl, rfl, m1, .int t, rfl, .ref p, rfl, p, C_Ratio, dx, _, _, rfl, hp, T.cl_Ratio, T.n_Ratio_bottom, rF_bot T1 B, t, B, rfl, rfl, m2, rfl, ?_⟩
    rw [decide_eq_true (congrArg V.int eq)]
    exact q
def sp__law_same_lot (K : PySem.W.Frag) : Sp := fun vs H Q _ => ∃ (a b : Addr) (ns : List Int), vs = [.ref a, .ref b] ∧ H a = some (.tup (ns.map V.int)) ∧ SqT K H b (ns.map V.int) ∧ ns.length ≤ 1000 ∧ Q (.bl true) H
theorem ok__law_same_lot {f : Addr} {fd : FuncData} {C_Listed C_Ratio C_BadNumber C_TooMany C_BadWish C_NoBuyers C_ZeroBottom C_BadLot : Addr} (F : Fun K "_law_same_lot" "_law_same_lot" s__law_same_lot f fd) (T : Txt K mg C_Listed C_Ratio C_BadNumber C_TooMany C_BadWish C_NoBuyers C_ZeroBottom C_BadLot) (m_isinstance : mg "isinstance" = none) (m_len : mg "len" = none) (m_range : mg "range" = none) (m_tuple : mg "tuple" = none) (c__law_is_int : Cal P w K mg base CX0 1 "_law_is_int" ["_law_x"] sp__law_is_int) : FnOk P w K mg base CX0 2 f fd ["_law_x", "_law_due"] (sp__law_same_lot K) := by
  refine F.ok sc__law_same_lot (fun vs H Q E h => ?_) (fun cdv A outer s H vs Q E hr h => ?_)
  · obtain ⟨a, b, ns, rfl, _⟩ := h
    rfl
  · obtain ⟨a, b, ns, rfl, hA, hB, hlen, q⟩ := h
    obtain ⟨f__law_is_int, fd__law_is_int, G__law_is_int, m__law_is_int, k__law_is_int, b__law_is_int⟩ := c__law_is_int
    refine ⟨_, (pss_cons (ps_if (PW.pt (pw_or (pt_not (pt_val (pe_callB call_isi (by rfl) m_isinstance (by decide +kernel) (pa_cons (pv 0) (pa_cons (pe_bltn (v := .ty "tuple") (by rfl) m_tuple (by decide +kernel) rfl) pa_nil))))) (pw_or1 (pt_cmpR op_ne (pe_callB call_len_seq (by rfl) m_len (by decide +kernel) (pa_cons (pv 0) pa_nil)) (pe_callB call_len_seq (by rfl) m_len (by decide +kernel) (pa_cons (pv 1) pa_nil)) (nomark _))))) (pss_one (ps_ret pe_bl)) pss_nil)
      (pss_cons (ps_for PassesOwn.never rfl (pi_range1 (by rfl) m_range (pa_cons (pe_callB call_len_seq (by rfl) m_len (by decide +kernel) (pa_cons (pv 1) pa_nil)) pa_nil)) (pg_name (i := 2) sc__law_same_lot.nd rfl (Or.inl rfl))
      (pss_one (ps_if (PW.pt (pw_or (pt_not (pt_val (pe_call G__law_is_int (hr.mono (by decide)) (by rfl) m__law_is_int k__law_is_int b__law_is_int .nil pass0 (pa_cons (pe_ix ix_tup (pv 0) (pv 2) (fun _ _ => rfl)) pa_nil)))) (pw_or1 (pt_cmpR op_ne (pe_ix ix_tup (pv 0) (pv 2) (fun _ _ => rfl)) (pe_ix ix_tup (pv 1) (pv 2) (fun _ _ => rfl)) (nomark _))))) (pss_one (ps_ret pe_bl)) pss_nil)))
      (pss_one (ps_ret pe_bl)))), ?_⟩
    have hA' : SqT K H a (ns.map V.int) := tup_t hA
    refine ⟨_, rfl, .ref a, .ty "tuple", _, _, true, rfl, .ty "tuple", .base (.tup hA), kit_ty kT, true, rfl, iteF ?_⟩
    refine ⟨.ref a, rfl, a, _, rfl, .inr hA', .ref b, rfl, b, _, rfl, .inr hB, rfl, _, rfl, iteNS rfl ?_⟩
    refine ⟨.ref b, rfl, b, _, rfl, .inr hB, _, rfl, ?_⟩
    rw [List.length_map]
    refine ⟨by omega, by omega, ?_⟩
    rw [Int.toNat_natCast]
    refine for_range (lo := 0) (n := ns.length) (fun i σ H2 => ∃ (y : Option V), σ = [some (.ref a), some (.ref b), y] ∧ H2 = H) ⟨none, rfl, rfl⟩ ?_ ?_
    · rintro i σ H2 hi ⟨y, rfl, rfl⟩
      have hin : (ns.map V.int)[i]? = some (.int ns[i]) := int_at (List.getElem?_eq_getElem hi)
      refine ⟨.ref a, rfl, .int (0 + (i : Int)), rfl, a, _, _, _, rfl, rfl, hA', at_of (Int.zero_add _) hin, ns[i], rfl, true, rfl, iteF ?_⟩
      refine ⟨.ref a, rfl, .int (0 + (i : Int)), rfl, a, _, _, _, rfl, rfl, hA', at_of (Int.zero_add _) hin, .ref b, rfl, .int (0 + (i : Int)), rfl, b, _, _, _, rfl, rfl, hB, at_of (Int.zero_add _) hin, rfl, _, rfl, iteNS rfl ?_⟩
      exact ⟨_, rfl, rfl⟩
    · rintro σ H2 ⟨y, rfl, rfl⟩
      exact q
/-- a Ratio and a pair that says the same fraction -/
def Alike (C : Addr) (H : Hp) (r t : Addr) : Prop := ∃ T B n d : Int, RatAt C H r T B ∧ H t = some (.tup [.int n, .int d]) ∧ 0 < B ∧ T * d = n * B ∧ CMulW T d ∧ CMulW n B
def sp__law_same_row (C : Addr) : Sp := fun vs H Q _ => ∃ (L P : Addr) (rs ts : List Addr), vs = [.ref L, .ref P] ∧ H L = some (.lst (rs.map V.ref)) ∧ H P = some (.lst (ts.map V.ref)) ∧ rs.length = ts.length ∧ ts.length ≤ 900 ∧ (∀ (i : Nat) (r t : Addr), rs[i]? = some r → ts[i]? = some t → Alike C H r t) ∧ Q (.bl true) H
theorem ok__law_same_row {f : Addr} {fd : FuncData} {C_Listed C_Ratio C_BadNumber C_TooMany C_BadWish C_NoBuyers C_ZeroBottom C_BadLot : Addr} (F : Fun K "_law_same_row" "_law_same_row" s__law_same_row f fd) (T : Txt K mg C_Listed C_Ratio C_BadNumber C_TooMany C_BadWish C_NoBuyers C_ZeroBottom C_BadLot) (m_isinstance : mg "isinstance" = none) (m_len : mg "len" = none) (m_list : mg "list" = none) (m_range : mg "range" = none) (c__law_same : Cal P w K mg base CX0 2 "_law_same" ["_law_x", "_law_top", "_law_bottom"] (sp__law_same C_Ratio)) : FnOk P w K mg base CX0 3 f fd ["_law_x", "_law_pairs"] (sp__law_same_row C_Ratio) := by
  refine F.ok sc__law_same_row (fun vs H Q E h => ?_) (fun cdv A outer s H vs Q E hr h => ?_)
  · obtain ⟨L, P, rs, ts, rfl, _⟩ := h
    rfl
  · obtain ⟨L, P, rs, ts, rfl, hL, hP, ll, lt, al, q⟩ := h
    obtain ⟨f__law_same, fd__law_same, G__law_same, m__law_same, k__law_same, b__law_same⟩ := c__law_same
    refine ⟨_, (pss_cons (ps_if (PW.pt (pw_or (pt_not (pt_val (pe_callB call_isi (by rfl) m_isinstance (by decide +kernel) (pa_cons (pv 0) (pa_cons (pe_bltn (v := .ty "list") (by rfl) m_list (by decide +kernel) rfl) pa_nil))))) (pw_or1 (pt_cmpR op_ne (pe_callB call_len_seq (by rfl) m_len (by decide +kernel) (pa_cons (pv 0) pa_nil)) (pe_callB call_len_seq (by rfl) m_len (by decide +kernel) (pa_cons (pv 1) pa_nil)) (nomark _))))) (pss_one (ps_ret pe_bl)) pss_nil)
      (pss_cons (ps_for PassesOwn.never rfl (pi_range1 (by rfl) m_range (pa_cons (pe_callB call_len_seq (by rfl) m_len (by decide +kernel) (pa_cons (pv 1) pa_nil)) pa_nil)) (pg_name (i := 2) sc__law_same_row.nd rfl (Or.inl rfl))
      (pss_one (ps_if (pt_not (pt_val (pe_call G__law_same (hr.mono (by decide)) (by rfl) m__law_same k__law_same b__law_same .nil pass0 (pa_cons (pe_ix ix_list (pv 0) (pv 2) (fun _ _ => rfl)) (pa_cons (pe_ix ix_tup (pe_ix ix_list (pv 1) (pv 2) (fun _ _ => rfl)) pe_int (fun _ _ => rfl)) (pa_cons (pe_ix ix_tup (pe_ix ix_list (pv 1) (pv 2) (fun _ _ => rfl)) pe_int (fun _ _ => rfl)) pa_nil)))))) (pss_one (ps_ret pe_bl)) pss_nil)))
      (pss_one (ps_ret pe_bl)))), ?_⟩
    refine ⟨_, rfl, .ref L, .ty "list", _, _, true, rfl, .ty "list", .base (.lst hL), kit_ty kL, true, rfl, iteF ?_⟩
    refine ⟨.ref L, rfl, L, _, rfl, .inl (lst_l hL), .ref P, rfl, P, _, rfl, .inl (lst_l hP), ?_, _, rfl, iteNS (by rw [List.length_map, List.length_map, ll]) ?_⟩
    · rfl
    refine ⟨.ref P, rfl, P, _, rfl, .inl (lst_l hP), _, rfl, ?_⟩
    rw [List.length_map]
    refine ⟨by omega, by omega, ?_⟩
    rw [Int.toNat_natCast]
    refine for_range (lo := 0) (n := ts.length) (fun i σ H2 => ∃ (y : Option V), σ = [some (.ref L), some (.ref P), y] ∧ H2 = H) ⟨none, rfl, rfl⟩ ?_ ?_
    · rintro i σ H2 hi ⟨y, rfl, rfl⟩
      have h1 : rs[i]? = some rs[i] := List.getElem?_eq_getElem (by omega)
      have h2 : ts[i]? = some ts[i] := List.getElem?_eq_getElem hi
      obtain ⟨T1, B, n, d, ra, ht, pos, eq, m1, m2⟩ := al i _ _ h1 h2
      have v1 : (rs.map V.ref)[i]? = some (.ref rs[i]) := by rw [List.getElem?_map, h1]; rfl
      have v2 : (ts.map V.ref)[i]? = some (.ref ts[i]) := by rw [List.getElem?_map, h2]; rfl
      refine ⟨.ref L, rfl, .int (0 + (i : Int)), rfl, L, _, _, _, rfl, rfl, lst_l hL, at_of (Int.zero_add _) v1, ?_⟩
      refine ⟨.ref P, rfl, .int (0 + (i : Int)), rfl, P, _, _, _, rfl, rfl, lst_l hP, at_of (Int.zero_add _) v2, ts[i], _, _, _, rfl, rfl, tup_t ht, atI_nat (j := 0) rfl, ?_⟩
      refine ⟨.ref P, rfl, .int (0 + (i : Int)), rfl, P, _, _, _, rfl, rfl, lst_l hP, at_of (Int.zero_add _) v2, ts[i], _, _, _, rfl, rfl, tup_t ht, atI_nat (j := 1) rfl, ?_⟩
      exact ⟨rs[i], T1, B, n, d, rfl, ra, pos, eq, m1, m2, true, rfl, iteF ⟨_, rfl, rfl⟩⟩
    · rintro σ H2 ⟨y, rfl, rfl⟩
      exact q
def sp__law_list (K : PySem.W.Frag) : Sp := fun vs H Q _ => ∃ (c : Int) (m : Nat), vs = [.int c, .int (m : Int)] ∧ m ≤ 24 ∧ ∀ H' t (ns : List Int), Same H H' → H' t = some (.tup (ns.map V.int)) → FitW m ns → ns.length ≤ 24 → Q (.ref t) H' 
theorem ok__law_list {f : Addr} {fd : FuncData} {C_Listed C_Ratio C_BadNumber C_TooMany C_BadWish C_NoBuyers C_ZeroBottom C_BadLot : Addr} (F : Fun K "_law_list" "_law_list" s__law_list f fd) (T : Txt K mg C_Listed C_Ratio C_BadNumber C_TooMany C_BadWish C_NoBuyers C_ZeroBottom C_BadLot) (m_range : mg "range" = none) (m_tuple : mg "tuple" = none) (c__law_draws : Cal P w K mg base CX0 1 "_law_draws" ["_law_cell_here", "_law_sizes"] (sp__law_draws K)) (c__law_shuffled : Cal P w K mg base CX0 1 "_law_shuffled" ["_law_places", "_law_things"] (sp__law_shuffled K)) : FnOk P w K mg base CX0 2 f fd ["_law_cell_here", "_law_many"] (sp__law_list K) := by
  refine F.ok sc__law_list (fun vs H Q E h => ?_) (fun cdv A outer s H vs Q E hr h => ?_)
  · obtain ⟨c, m, rfl, _⟩ := h
    rfl
  · obtain ⟨c, m, rfl, hm, q⟩ := h
    obtain ⟨f__law_draws, fd__law_draws, G__law_draws, m__law_draws, k__law_draws, b__law_draws⟩ := c__law_draws
    obtain ⟨f__law_shuffled, fd__law_shuffled, G__law_shuffled, m__law_shuffled, k__law_shuffled, b__law_shuffled⟩ := c__law_shuffled
    refine ⟨_, (pss_cons (ps_set (i := 2) sc__law_list.nd rfl (Or.inl rfl) (pe_call G__law_draws (hr.mono (by decide)) (by rfl) m__law_draws k__law_draws b__law_draws .nil pass0 (pa_cons (pv 0) (pa_cons (pe_op op_cat (pe_lst (pa_cons (pe_op op_add (pv 1) pe_int) pa_nil)) (pe_lc (own := [("_law_k", 5)]) (g := (gName 5)) (tt := tYes) rfl sc__law_list.nd (pi_range1 (by rfl) m_range (pa_cons (pv 1) pa_nil)) (blkOk_by (own := [("_law_k", 5)]) (N := ["_law_cell_here", "_law_many", "_law_drawn", "_law_things", "_law_thing", "_law_k"]) (sc := defScope s__law_list) (by decide +kernel)) (fun _ _ _ _ _ => (pg_name (i := 5) sc__law_list.nd rfl (Or.inl rfl))) (fun _ _ _ _ _ => pts_nil) (fun _ _ _ _ _ => (pe_op op_sub (pv 1) (pv 5))))) pa_nil))))
      (pss_cons (ps_set (i := 3) sc__law_list.nd rfl (Or.inl rfl) (pe_call G__law_shuffled (hr.mono (by decide)) (by rfl) m__law_shuffled k__law_shuffled b__law_shuffled .nil pass0 (pa_cons (pe_slice sl_list (pv 2) (po_some pe_int) po_none) (pa_cons (pe_lc (own := [("_law_thing", 4)]) (g := (gName 4)) (tt := tYes) rfl sc__law_list.nd (pi_range1 (by rfl) m_range (pa_cons (pv 1) pa_nil)) (blkOk_by (own := [("_law_thing", 4)]) (N := ["_law_cell_here", "_law_many", "_law_drawn", "_law_things", "_law_thing", "_law_k"]) (sc := defScope s__law_list) (by decide +kernel)) (fun _ _ _ _ _ => (pg_name (i := 4) sc__law_list.nd rfl (Or.inl rfl))) (fun _ _ _ _ _ => pts_nil) (fun _ _ _ _ _ => (pv 4))) pa_nil))))
      (pss_one (ps_ret (pe_callTy call_tuple_of (by rfl) m_tuple (by decide +kernel) (pa_cons (pe_slice sl_list (pv 3) po_none (po_some (pe_ix ix_list (pv 2) pe_int (fun _ _ => rfl)))) pa_nil)))))), ?_⟩
    refine ⟨_, rfl, _, rfl, _, _, rfl, rfl, small1000 (by decide), fun p1 n1 => ?_⟩
    have s1 := same_upd (o := .lst [V.int ((m : Int) + 1)]) n1
    refine ⟨_, rfl, _, rfl, by omega, by omega, ?_⟩
    rw [Int.toNat_natCast]
    refine fun D nD => lc_range (lo := 0) (n := m) (fun i H2 => Same (upd H p1 (.lst [V.int ((m : Int) + 1)])) H2 ∧ H2 D = some (.lst (((List.range i).map fun j : Nat => (m : Int) - (j : Int)).map V.int))) ⟨same_upd nD, upd_same⟩ ?_ ?_
    · rintro i H2 hi ⟨s, hD⟩
      refine ⟨rfl, ?_⟩
      refine lc_yes ?_
      refine iteT ?_
      refine ⟨_, rfl, _, rfl, _, _, rfl, rfl, _, hD, ?_, same_mut s nD, ?_⟩
      · rw [List.length_map, List.length_map, List.length_range]
        exact small1000 (by omega)
      · rw [upd_same, List.range_succ, List.map_append, List.map_append, Int.zero_add]
        rfl
    rintro H2 ⟨s2, hD⟩
    refine ⟨p1, D, _, _, rfl, rfl, s2 _ _ upd_same, hD, ?_, fun p3 n3 => ?_⟩
    · rw [List.length_map, List.length_map, List.length_range]
      exact Nat.le_of_lt (small1000 (by show 1 + m ≤ 1000; omega))
    have s3 : Same H (upd H2 p3 (.lst ((((m : Int) + 1) :: (List.range m).map fun j : Nat => (m : Int) - (j : Int)).map V.int))) := (s1.trans s2).trans (same_upd n3)
    refine ⟨_, p3, ((m : Int) + 1) :: (List.range m).map fun j : Nat => (m : Int) - (j : Int), rfl, lst_l upd_same, ?_, ?_, fun ds H4 d w s4 nd hd => ?_⟩
    · intro n hn
      rcases List.mem_cons.mp hn with rfl | hn
      · constructor <;> omega
      · obtain ⟨j, hj, rfl⟩ := List.mem_map.mp hn
        have := List.mem_range.mp hj
        constructor <;> omega
    · rw [List.length_cons, List.length_map, List.length_range]
      omega
    obtain ⟨d0, r, rfl, l0, u0, w⟩ := w.c
    have hr : r.length = m := by
      rw [w.len, List.length_map, List.length_range]
    have sH : Same H H4 := s3.trans s4
    refine ⟨.ref d, rfl, 1, rfl, d, _, rfl, lst_l hd, fun p6 n6 => ?_⟩
    rw [cut_from1]
    have s6 := sH.trans (same_upd (o := .lst (((d0 :: r).map V.int).drop 1)) n6)
    refine ⟨_, rfl, _, rfl, by omega, by omega, ?_⟩
    rw [Int.toNat_natCast]
    refine fun D2 nD2 => lc_range (lo := 0) (n := m) (fun i H7 => Same (upd H4 p6 (.lst (((d0 :: r).map V.int).drop 1))) H7 ∧ H7 D2 = some (.lst (((List.range i).map fun j : Nat => (j : Int)).map V.int))) ⟨same_upd nD2, upd_same⟩ ?_ ?_
    · rintro i H7 hi ⟨s, hD⟩
      refine ⟨rfl, ?_⟩
      refine lc_yes ?_
      refine iteT ?_
      refine ⟨_, rfl, _, hD, ?_, same_mut s nD2, ?_⟩
      · rw [List.length_map, List.length_map, List.length_range]
        exact small1000 (by omega)
      · rw [upd_same, List.range_succ, List.map_append, List.map_append, Int.zero_add]
        rfl
    rintro H7 ⟨s7, hD2⟩
    refine ⟨p6, D2, r, _, rfl, s7 _ _ upd_same, hD2, by rw [List.length_map, List.length_range]; exact hr, by rw [List.length_map, List.length_range]; omega, fun H8 p8 fs s8 hp8 lf => ?_⟩
    obtain ⟨j, rfl⟩ : ∃ j : Nat, d0 = (j : Int) := ⟨d0.toNat, by omega⟩
    have hd8 := s8 _ _ (s7 _ _ (same_upd n6 _ _ hd))
    refine ⟨_, rfl, .ref d, rfl, d, _, _, _, rfl, rfl, lst_l hd8, atI_nat (j := 0) rfl, (j : Int), rfl, p8, _, rfl, lst_l hp8, fun p9 n9 => ?_⟩
    rw [cut_to, ← List.map_take]
    refine ⟨p9, _, rfl, .inl ⟨lst_l upd_same, fun t nt => ?_⟩⟩
    refine q _ t (fs.take j) (((s6.trans s7).trans s8).trans ((same_upd n9).trans (same_upd nt))) upd_same (fit_take lf) ?_
    rw [List.length_take]
    have := lf.length_eq
    rw [List.length_map, List.length_range] at this
    omega
def sp__law_shown (K : PySem.W.Frag) : Sp := fun vs H Q _ => ∃ (d : Addr) (x0 x1 x2 x3 x4 : Int) (m : Nat), vs = [.ref d, .int (m : Int)] ∧ H d = some (.lst ([x0, x1, x2, x3, x4].map V.int)) ∧ m ≤ 24 ∧ ∀ H' t (ns : List Int), Same H H' → H' t = some (.tup (ns.map V.int)) → lotB ns (-1) m = true → ns.length ≤ 24 → Q (.ref t) H' 
theorem ok__law_shown {f : Addr} {fd : FuncData} {C_Listed C_Ratio C_BadNumber C_TooMany C_BadWish C_NoBuyers C_ZeroBottom C_BadLot : Addr} (F : Fun K "_law_shown" "_law_shown" s__law_shown f fd) (T : Txt K mg C_Listed C_Ratio C_BadNumber C_TooMany C_BadWish C_NoBuyers C_ZeroBottom C_BadLot) (m_int : mg "int" = none) (m_tuple : mg "tuple" = none) (c__law_lot : Cal P w K mg base CX0 1 "_law_lot" ["_law_bits", "_law_many"] sp__law_lot) : FnOk P w K mg base CX0 2 f fd ["_law_drawn", "_law_many"] (sp__law_shown K) := by
  refine F.ok sc__law_shown (fun vs H Q E h => ?_) (fun cdv A outer s H vs Q E hr h => ?_)
  · obtain ⟨d, x0, x1, x2, x3, x4, m, rfl, _⟩ := h
    rfl
  · obtain ⟨d, x0, x1, x2, x3, x4, m, rfl, hd, hm, q⟩ := h
    obtain ⟨f__law_lot, fd__law_lot, G__law_lot, m__law_lot, k__law_lot, b__law_lot⟩ := c__law_lot
    refine ⟨_, (pss_cons (ps_set (i := 2) sc__law_shown.nd rfl (Or.inl rfl) (pe_call G__law_lot (hr.mono (by decide)) (by rfl) m__law_lot k__law_lot b__law_lot .nil pass0 (pa_cons (pe_ix ix_list (pv 0) pe_int (fun _ _ => rfl)) (pa_cons (pv 1) pa_nil))))
      (pss_cons (ps_set (i := 3) sc__law_shown.nd rfl (Or.inr rfl) (pe_call G__law_lot (hr.mono (by decide)) (by rfl) m__law_lot k__law_lot b__law_lot .nil pass0 (pa_cons (pe_ix ix_list (pv 0) pe_int (fun _ _ => rfl)) (pa_cons (pv 1) pa_nil))))
      (pss_cons (ps_if (pt_cmpR op_eq (pe_ix ix_list (pv 0) pe_int (fun _ _ => rfl)) pe_int (nomark _)) (pss_one (ps_ret (pe_callTy call_tuple_of (by rfl) m_tuple (by decide +kernel) (pa_cons (pe_lc (own := [("_law_thing", 4)]) (g := (gName 4)) rfl sc__law_shown.nd (pi_tup (pv 2)) (blkOk_by (own := [("_law_thing", 4)]) (N := ["_law_drawn", "_law_many", "_law_first", "_law_second", "_law_thing"]) (sc := defScope s__law_shown) (by decide +kernel)) (fun _ _ _ _ _ => (pg_name (i := 4) sc__law_shown.nd rfl (Or.inl rfl))) (fun _ _ _ _ _ => (pts_one (pt_cmpR (r := rIn K false) op_in_seq (pv 4) (pv 3) (by rfl)))) (fun _ _ _ _ _ => (pv 4))) pa_nil)))) pss_nil)
      (pss_cons (ps_if (PW.pt (pw_and (pt_cmpR op_eq (pe_ix ix_list (pv 0) pe_int (fun _ _ => rfl)) pe_int (nomark _)) (pw_and1 (pt_cmpR op_gt (pv 1) pe_int (nomark _))))) (pss_one (ps_ret (pe_tup (pa_cons (pe_op op_mod (pe_callTy call_int1 (by rfl) m_int (by decide +kernel) (pa_cons (pe_ix ix_list (pv 0) pe_int (fun _ _ => rfl)) pa_nil)) (pv 1)) pa_nil)))) pss_nil)
      (pss_one (ps_ret (pv 2))))))), ?_⟩
    refine ⟨.ref d, rfl, d, _, _, _, rfl, rfl, lst_l hd, atI_nat (j := 3) rfl, ?_⟩
    refine ⟨_, rfl, x3, m, rfl, by omega, fun H1 t1 n1 s1 f1 ht1 ok1 l1 => ?_⟩
    have hd1 := s1 _ _ hd
    refine ⟨.ref d, rfl, d, _, _, _, rfl, rfl, lst_l hd1, atI_nat (j := 4) rfl, ?_⟩
    refine ⟨_, rfl, x4, m, rfl, by omega, fun H2 t2 n2 s2 f2 ht2 ok2 l2 => ?_⟩
    have hd2 := s2 _ _ hd1
    have ht12 := s2 _ _ ht1
    have s12 := s1.trans s2
    refine ⟨.ref d, rfl, d, _, _, _, rfl, rfl, lst_l hd2, atI_nat (j := 2) rfl, rfl, _, rfl, ite2 (fun _ => ?_) (fun _ => ?_)⟩
    · refine ⟨_, rfl, t1, rfl, ⟨_, tup_t ht12⟩, fun D nD => lc_tup (K := K) (a := t1) (xs := n1.map V.int) (fun i H3 => Same H2 H3 ∧ H3 D = some (.lst (((n1.take i).filter fun n => inV (.int n) (n2.map V.int)).map V.int))) ⟨same_upd nD, upd_same⟩ (fun i H3 _ ⟨s, _⟩ => tup_t (s _ _ ht12)) ?_ ?_⟩
      · rintro i x H3 hi ⟨s, hD⟩
        obtain ⟨n, rfl, hin⟩ := int_of hi
        refine ⟨rfl, ?_⟩
        have step : (n1.take (i + 1)).filter (fun n => inV (.int n) (n2.map V.int)) = (n1.take i).filter (fun n => inV (.int n) (n2.map V.int)) ++ [n].filter (fun n => inV (.int n) (n2.map V.int)) := by
          rw [List.take_add_one, hin, List.filter_append]
          rfl
        refine ⟨_, rfl, _, rfl, t2, _, rfl, .inr (tup_t (s _ _ ht2)), rfl, ints_flat n2, _, rfl, ite2 (fun c => ?_) (fun c => ?_)⟩
        · have c : inV (.int n) (n2.map V.int) = true := c
          refine ⟨_, rfl, _, hD, ?_, same_mut s nD, ?_⟩
          · have := List.length_filter_le (fun n => inV (.int n) (n2.map V.int)) (n1.take i)
            rw [List.length_take] at this
            rw [List.length_map]
            exact small1000 (by omega)
          · rw [upd_same, step, List.filter_cons_of_pos (by exact c), List.map_append]
            rfl
        · have c : ¬ inV (.int n) (n2.map V.int) = true := c
          rw [step, List.filter_cons_of_neg (by exact c), List.filter_nil, List.append_nil]
          exact ⟨s, hD⟩
      · rintro H3 ⟨s, hD⟩
        rw [List.length_map, List.take_length] at hD
        refine ⟨D, _, rfl, .inl ⟨lst_l hD, fun t nt => ?_⟩⟩
        refine q _ t _ ((s12.trans s).trans (same_upd nt)) upd_same (lotB_filter _ ok1) ?_
        have := List.length_filter_le (fun n => inV (.int n) (n2.map V.int)) n1
        omega
    · refine ⟨.ref d, rfl, d, _, _, _, rfl, rfl, lst_l hd2, atI_nat (j := 2) rfl, rfl, _, rfl, ite2 (fun _ => ⟨_, rfl, _, _, rfl, rfl, _, rfl, ite2 (fun c => ?_) (fun _ => ⟨_, rfl, q H2 t1 n1 s12 ht12 ok1 (by omega)⟩)⟩) (fun _ => iteF ⟨_, rfl, q H2 t1 n1 s12 ht12 ok1 (by omega)⟩)⟩
      have c : (0 : Int) < (m : Int) := by
        have := of_decide_eq_true c
        omega
      refine ⟨.ref d, rfl, d, _, _, _, rfl, rfl, lst_l hd2, atI_nat (j := 4) rfl, .inl ⟨x4, rfl, _, rfl, _, _, rfl, rfl, c, ?_⟩⟩
      have e0 := Int.emod_nonneg x4 (show (m : Int) ≠ 0 by omega)
      have e1 := Int.emod_lt_of_pos x4 c
      exact ⟨(by show 1 ≤ sizeLine; decide), fun t nt => q _ t [x4 % (m : Int)] (s12.trans (same_upd nt)) upd_same (lotB_one e0 e1) (by show 1 ≤ 24; decide)⟩
def sp__law_takers : Sp := fun vs H Q _ => ∃ (P l : Addr) (us : List Addr) (pw : List (Int × List Int)) (ns : List Int) (k : Nat), vs = [.ref P, .ref l, .int (k : Int)] ∧ H P = some (.lst (us.map V.ref)) ∧ RowW H us pw ∧ H l = some (.tup (ns.map V.int)) ∧ Q (.int (tkW pw ns k)) H
theorem ok__law_takers {f : Addr} {fd : FuncData} {C_Listed C_Ratio C_BadNumber C_TooMany C_BadWish C_NoBuyers C_ZeroBottom C_BadLot : Addr} (F : Fun K "_law_takers" "_law_takers" s__law_takers f fd) (T : Txt K mg C_Listed C_Ratio C_BadNumber C_TooMany C_BadWish C_NoBuyers C_ZeroBottom C_BadLot) (m_len : mg "len" = none) : FnOk P w K mg base CX0 1 f fd ["_law_pairs", "_law_lot_here", "_law_thing"] sp__law_takers := by
  refine F.ok sc__law_takers (fun vs H Q E h => ?_) (fun cdv A outer s H vs Q E hr h => ?_)
  · obtain ⟨P, l, us, pw, ns, k, rfl, _⟩ := h
    rfl
  · obtain ⟨P, l, us, pw, ns, k, rfl, hP, row, hl, q⟩ := h
    refine ⟨_, (pss_cons (ps_set (i := 3) sc__law_takers.nd rfl (Or.inl rfl) pe_int)
      (pss_cons (ps_for PassesOwn.never rfl (pi_list (pv 0)) (pg_name (i := 4) sc__law_takers.nd rfl (Or.inl rfl))
      (pss_cons (ps_set (i := 5) sc__law_takers.nd rfl (Or.inl rfl) pe_int)
      (pss_cons (ps_while PassesOwn.never (PW.pt (pw_and (pt_cmpR op_lt (pv 5) (pe_callB call_len_seq (by rfl) m_len (by decide +kernel) (pa_cons (pe_ix ix_tup (pv 4) pe_int (fun _ _ => rfl)) pa_nil)) (nomark _)) (pw_and1 (pt_cmpR op_notIn_seq (pe_ix ix_tup (pe_ix ix_tup (pv 4) pe_int (fun _ _ => rfl)) (pv 5) (fun _ _ => rfl)) (pv 1) (by rfl))))) (pss_one (ps_set (i := 5) sc__law_takers.nd rfl (Or.inl rfl) (pe_op op_add (pv 5) pe_int))))
      (pss_one (ps_if (PW.pt (pw_and (pt_cmpR op_lt (pv 5) (pe_callB call_len_seq (by rfl) m_len (by decide +kernel) (pa_cons (pe_ix ix_tup (pv 4) pe_int (fun _ _ => rfl)) pa_nil)) (nomark _)) (pw_and1 (pt_cmpR op_eq (pe_ix ix_tup (pe_ix ix_tup (pv 4) pe_int (fun _ _ => rfl)) (pv 5) (fun _ _ => rfl)) (pv 2) (nomark _))))) (pss_one (ps_set (i := 3) sc__law_takers.nd rfl (Or.inl rfl) (pe_op op_add (pv 3) (pe_ix ix_tup (pv 4) pe_int (fun _ _ => rfl))))) pss_nil)))))
      (pss_one (ps_ret (pv 3))))), ?_⟩
    have rl := row.1
    refine ⟨_, rfl, P, rfl, ⟨_, lst_l hP⟩, for_list (K := K) (a := P) (xs := us.map V.ref) (fun i σ H2 => ∃ y1 y2 : Option V, σ = [some (.ref P), some (.ref l), some (.int (k : Int)), some (.int (tkW (pw.take i) ns k)), y1, y2] ∧ H2 = H) ⟨none, none, rfl, rfl⟩ (fun i σ H2 _ ⟨_, _, _, e⟩ => e ▸ lst_l hP) ?_ ?_⟩
    · rintro i x σ H2 hi ⟨y1, y2, rfl, rfl⟩
      have i1 : i < us.length := by
        have := (List.getElem?_eq_some_iff.mp hi).1
        rw [List.length_map] at this
        exact this
      have h1 : us[i]? = some us[i] := List.getElem?_eq_getElem i1
      have h2 : pw[i]? = some pw[i] := List.getElem?_eq_getElem (by omega)
      rw [List.getElem?_map, h1] at hi
      cases hi
      obtain ⟨l2, hu, hl2⟩ := row.2 i _ _ h1 h2
      have next := tkW_snoc pw ns h2 k
      generalize us[i] = u at hu
      generalize pw[i] = w at hu hl2 next
      obtain ⟨b, ws⟩ := w
      have hu : H2 u = some (.tup [.int b, .ref l2]) := hu
      have hl2 : H2 l2 = some (.tup (ws.map V.int)) := hl2
      have next : tkW (pw.take (i + 1)) ns k = tkW (pw.take i) ns k + if wishV ws ns = .int (k : Int) then b else 0 := next
      refine ⟨fun m σ H3 => ∃ j : Nat, j + m = ws.length ∧ H3 = H2 ∧ wishV ws ns = wishV (ws.drop j) ns ∧ σ = [some (.ref P), some (.ref l), some (.int (k : Int)), some (.int (tkW (pw.take i) ns k)), some (.ref u), some (.int (j : Int))], ⟨ws.length, 0, Nat.zero_add _, rfl, rfl, rfl⟩, ?_⟩
      rintro m σ H3 ⟨j, jm, rfl, hw, rfl⟩
      refine ⟨_, rfl, .ref u, rfl, u, _, _, _, rfl, rfl, tup_t hu, atI_nat (j := 1) rfl, l2, _, rfl, .inr (tup_t hl2), _, _, rfl, rfl, _, rfl, ite2 (fun e => ?_) (fun e => ?_)⟩
      · have lt : j < ws.length := by
          have := of_decide_eq_true e
          rw [List.length_map] at this
          omega
        have hn : ws[j]? = some ws[j] := List.getElem?_eq_getElem lt
        refine ⟨.ref u, rfl, u, _, _, _, rfl, rfl, tup_t hu, atI_nat (j := 1) rfl, _, rfl, l2, _, _, _, rfl, rfl, tup_t hl2, atI_nat (int_at hn), _, rfl, l, _, rfl, .inr (tup_t hl), rfl, ints_flat ns, _, rfl, ite2 (fun c => ?_) (fun c => ?_)⟩
        · have c : ¬ inV (.int ws[j]) (ns.map V.int) = true := fun z => by
            rw [z] at c
            cases c
          refine ⟨fun σ' H' => H' = H3 ∧ σ' = [some (.ref P), some (.ref l), some (.int (k : Int)), some (.int (tkW (pw.take i) ns k)), some (.ref u), some (.int ((j + 1 : Nat) : Int))], fun σ' H' h => ⟨m - 1, by omega, j + 1, by omega, h.1, hw.trans (wish_skip hn c), h.2⟩, ?_⟩
          exact ⟨_, rfl, _, _, rfl, rfl, rfl, rfl⟩
        · have c : inV (.int ws[j]) (ns.map V.int) = true := by
            cases z : inV (.int ws[j]) (ns.map V.int) with
            | true => rfl
            | false => exact absurd (by rw [z]; rfl) c
          have hw := hw.trans (wish_take hn c)
          refine ⟨_, rfl, .ref u, rfl, u, _, _, _, rfl, rfl, tup_t hu, atI_nat (j := 1) rfl, l2, _, rfl, .inr (tup_t hl2), _, _, rfl, rfl, _, rfl, ite2 (fun _ => ?_) (fun z => absurd e z)⟩
          refine ⟨.ref u, rfl, u, _, _, _, rfl, rfl, tup_t hu, atI_nat (j := 1) rfl, _, rfl, l2, _, _, _, rfl, rfl, tup_t hl2, atI_nat (int_at hn), _, rfl, rfl, _, rfl, ite2 (fun c2 => ?_) (fun c2 => ?_)⟩
          · have c2 : V.int ws[j] = V.int (k : Int) := of_decide_eq_true c2
            rw [hw, if_pos c2] at next
            exact ⟨_, rfl, .ref u, rfl, u, _, _, _, rfl, rfl, tup_t hu, atI_nat (j := 0) rfl, _, _, rfl, rfl, _, _, by rw [next]; rfl, rfl⟩
          · have c2 : ¬ V.int ws[j] = V.int (k : Int) := fun z => c2 (decide_eq_true z)
            rw [hw, if_neg c2, Int.add_zero] at next
            exact ⟨_, _, by rw [next], rfl⟩
      · refine ⟨_, rfl, .ref u, rfl, u, _, _, _, rfl, rfl, tup_t hu, atI_nat (j := 1) rfl, l2, _, rfl, .inr (tup_t hl2), _, _, rfl, rfl, _, rfl, ite2 (fun z => absurd z e) (fun _ => ?_)⟩
        have ge : ws.length ≤ j := Nat.le_of_not_lt fun z => e (decide_eq_true (by
          rw [List.length_map]
          exact Int.ofNat_lt.mpr z))
        rw [List.drop_eq_nil_of_le ge] at hw
        rw [hw, if_neg (fun z => by cases z), Int.add_zero] at next
        exact ⟨_, _, by rw [next], rfl⟩
    · rintro σ H2 ⟨y1, y2, rfl, rfl⟩
      rw [List.length_map, rl, List.take_length]
      exact ⟨_, rfl, q⟩
def sp__law_good (C : Addr) : Sp := fun vs H Q _ => ∃ (p P l : Addr) (us : List Addr) (pw : List (Int × List Int)) (ns : List Int) (m : Nat), vs = [.ref p, .ref P, .int (m : Int), .ref l] ∧ LAt C H p m pw ∧ H P = some (.lst (us.map V.ref)) ∧ RowW H us pw ∧ H l = some (.tup (ns.map V.int)) ∧ lotB ns (-1) m = true ∧ m ≤ 24 ∧ ns.length ≤ 1000 ∧ FineW m pw ∧ ∀ H', Same H H' → Q (.bl true) H' 
theorem ok__law_good {f : Addr} {fd : FuncData} {C_Listed C_Ratio C_BadNumber C_TooMany C_BadWish C_NoBuyers C_ZeroBottom C_BadLot : Addr} (F : Fun K "_law_good" "_law_good" s__law_good f fd) (T : Txt K mg C_Listed C_Ratio C_BadNumber C_TooMany C_BadWish C_NoBuyers C_ZeroBottom C_BadLot) (m_range : mg "range" = none) (m_sum : mg "sum" = none) (c__law_takers : Cal P w K mg base CX0 1 "_law_takers" ["_law_pairs", "_law_lot_here", "_law_thing"] sp__law_takers) (c_Listed_shares : CalM P w K mg base (L2.CX P w) 3 C_Listed "shares" ["self", "lot"] (sp_Listed_shares K C_Listed C_Ratio C_BadLot)) (c_Rule_away : CalM P w K mg base (L2.CX P w) 6 C_Listed "away" ["self", "lot"] (sp_Rule_away K C_Listed C_Ratio C_BadLot)) (c__law_same : Cal P w K mg base CX0 2 "_law_same" ["_law_x", "_law_top", "_law_bottom"] (sp__law_same C_Ratio)) (c__law_same_row : Cal P w K mg base CX0 3 "_law_same_row" ["_law_x", "_law_pairs"] (sp__law_same_row C_Ratio)) : FnOk P w K mg base CX0 7 f fd ["_law_rule", "_law_pairs", "_law_many", "_law_lot_here"] (sp__law_good C_Listed) := by
  refine F.ok sc__law_good (fun vs H Q E h => ?_) (fun cdv A outer s H vs Q E hr h => ?_)
  · obtain ⟨p, P, l, us, pw, ns, m, rfl, _⟩ := h
    rfl
  · obtain ⟨p, P, l, us, pw, ns, m, rfl, la, hP, row, hl, ok, hm, nl, fine, q⟩ := h
    obtain ⟨f__law_takers, fd__law_takers, G__law_takers, m__law_takers, k__law_takers, b__law_takers⟩ := c__law_takers
    obtain ⟨f_Listed_shares, fd_Listed_shares, G_Listed_shares, M_Listed_shares, b_Listed_shares⟩ := c_Listed_shares
    obtain ⟨f_Rule_away, fd_Rule_away, G_Rule_away, M_Rule_away, b_Rule_away⟩ := c_Rule_away
    obtain ⟨f__law_same, fd__law_same, G__law_same, m__law_same, k__law_same, b__law_same⟩ := c__law_same
    obtain ⟨f__law_same_row, fd__law_same_row, G__law_same_row, m__law_same_row, k__law_same_row, b__law_same_row⟩ := c__law_same_row
    refine ⟨_, (pss_cons (ps_set (i := 4) sc__law_good.nd rfl (Or.inr rfl) (pe_callB (cr_sum rfl) (by rfl) m_sum (by decide +kernel) (pa_cons (pe_lc (own := [("_law_pair", 7)]) (g := (gName 7)) (tt := tYes) rfl sc__law_good.nd (pi_list (pv 1)) (blkOk_by (own := [("_law_pair", 7)]) (N := ["_law_rule", "_law_pairs", "_law_many", "_law_lot_here", "_law_everyone", "_law_counts", "_law_thing", "_law_pair", "_law_count"]) (sc := defScope s__law_good) (by decide +kernel)) (fun _ _ _ _ _ => (pg_name (i := 7) sc__law_good.nd rfl (Or.inl rfl))) (fun _ _ _ _ _ => pts_nil) (fun _ _ _ _ _ => (pe_ix (r := rIxT K) ix_tup (pv 7) pe_int (fun _ _ => rfl)))) pa_nil)))
      (pss_cons (ps_setLc (i := 5) (own := [("_law_thing", 6)]) (g := (gName 6)) (tt := tYes) rfl sc__law_good.nd rfl rfl (sw_true rfl rfl rfl (by decide +kernel)) (pi_range1 (by rfl) m_range (pa_cons (pv 2) pa_nil)) (blkOk_by (own := [("_law_thing", 6)]) (N := ["_law_rule", "_law_pairs", "_law_many", "_law_lot_here", "_law_everyone", "_law_counts", "_law_thing", "_law_pair", "_law_count"]) (sc := defScope s__law_good) (by decide +kernel)) (fun _ _ _ _ _ => (pg_name (i := 6) sc__law_good.nd rfl (Or.inl rfl))) (fun _ _ _ _ _ => pts_nil) (fun _ _ _ _ _ => (pe_call G__law_takers (hr.mono (by decide)) (by rfl) m__law_takers k__law_takers b__law_takers .nil pass0 (pa_cons (pv 1) (pa_cons (pv 3) (pa_cons (pv 6) pa_nil))))))
      (pss_cons (ps_if (pt_not (pt_val (pe_call G__law_same_row (hr.mono (by decide)) (by rfl) m__law_same_row k__law_same_row b__law_same_row .nil pass0 (pa_cons (pe_meth (pv 0) T.cl_Listed M_Listed_shares G_Listed_shares (hr.mono (by decide)) b_Listed_shares .nil passL (pa_cons (pv 3) pa_nil)) (pa_cons (pe_lc (own := [("_law_count", 8)]) (g := (gName 8)) (tt := tYes) rfl sc__law_good.nd (pi_list (pv 5)) (blkOk_by (own := [("_law_count", 8)]) (N := ["_law_rule", "_law_pairs", "_law_many", "_law_lot_here", "_law_everyone", "_law_counts", "_law_thing", "_law_pair", "_law_count"]) (sc := defScope s__law_good) (by decide +kernel)) (fun _ _ _ _ _ => (pg_name (i := 8) sc__law_good.nd rfl (Or.inl rfl))) (fun _ _ _ _ _ => pts_nil) (fun _ _ _ _ _ => (pe_tup (pa_cons (pv 8) (pa_cons (pv 4) pa_nil))))) pa_nil))))) (pss_one (ps_ret pe_bl)) pss_nil)
      (pss_one (ps_ret (pe_call G__law_same (hr.mono (by decide)) (by rfl) m__law_same k__law_same b__law_same .nil pass0 (pa_cons (pe_meth (pv 0) T.cl_Listed M_Rule_away G_Rule_away (hr.mono (by decide)) b_Rule_away .nil passL (pa_cons (pv 3) pa_nil)) (pa_cons (pe_op op_sub (pv 4) (pe_callB (cr_sum rfl) (by rfl) m_sum (by decide +kernel) (pa_cons (pv 5) pa_nil))) (pa_cons (pv 4) pa_nil))))))))), ?_⟩
    have rl := row.1
    have f1 := fine.l1
    obtain ⟨d0, d1⟩ := evW_pos fine
    have sd : Sm (evW pw) := sm_of (n := 70) (by
      have : (evW pw).natAbs ≤ 10 * 10 ^ 18 := by omega
      exact Nat.lt_of_le_of_lt this (by decide))
    have nn : ∀ x ∈ (List.range m).map (tkW pw ns), 0 ≤ x := fun x hx => by
      obtain ⟨i, _, rfl⟩ := List.mem_map.mp hx
      exact tkW_nn fine.b1 ns i
    have es : ((List.range m).map (tkW pw ns)).sum = allW pw ns m := rfl
    have s0 : 0 ≤ allW pw ns m := es ▸ sum_nn nn
    have sle : allW pw ns m ≤ evW pw := tk_sum fine.b1 ns m
    have tle : ∀ j, j < m → 0 ≤ tkW pw ns j ∧ tkW pw ns j ≤ evW pw := fun j hj => by
      have h : tkW pw ns j ∈ (List.range m).map (tkW pw ns) := List.mem_map.mpr ⟨j, List.mem_range.mpr hj, rfl⟩
      have h1 := nn _ h
      have h2 := mem_le nn (tkW pw ns j) h
      exact ⟨h1, by omega⟩
    have no : ∀ {Z : Prop}, lotB ns (-1) m = false → Z := fun {Z} z => by
      rw [ok] at z
      cases z
    refine ⟨_, rfl, P, rfl, ⟨_, lst_l hP⟩, fun D nD => lc_list (K := K) (a := P) (xs := us.map V.ref) (fun i H1 => Same H H1 ∧ H1 D = some (.lst (((pw.take i).map Prod.fst).map V.int))) ⟨same_upd nD, upd_same⟩ (fun i H1 _ ⟨s, _⟩ => lst_l (s _ _ hP)) ?_ ?_⟩
    · rintro i x H1 hi ⟨s, hD⟩
      have i1 : i < us.length := by
        have := (List.getElem?_eq_some_iff.mp hi).1
        rw [List.length_map] at this
        exact this
      have h1 : us[i]? = some us[i] := List.getElem?_eq_getElem i1
      have h2 : pw[i]? = some pw[i] := List.getElem?_eq_getElem (by omega)
      rw [List.getElem?_map, h1] at hi
      cases hi
      obtain ⟨l2, hu, hl2⟩ := (row.2 i _ _ h1 h2).same s
      refine ⟨rfl, ?_⟩
      refine lc_yes ?_
      refine iteT ?_
      refine ⟨_, rfl, us[i], _, _, _, rfl, rfl, tup_t hu, atI_nat (j := 0) rfl, _, hD, ?_, same_mut s nD, ?_⟩
      · rw [List.length_map, List.length_map, List.length_take]
        exact small1000 (by omega)
      · rw [upd_same, List.take_add_one, h2, List.map_append, List.map_append]
        rfl
    rintro H1 ⟨s1, hD⟩
    rw [List.length_map, rl, List.take_length] at hD
    refine ⟨D, _, rfl, lst_l hD, ?_⟩
    have hP1 := s1 _ _ hP
    have row1 := row.same s1
    have hl1 := s1 _ _ hl
    refine ⟨_, rfl, _, rfl, by omega, by omega, ?_⟩
    rw [Int.toNat_natCast]
    refine fun N nN => lc_range (lo := 0) (n := m) (fun i H2 => Same H1 H2 ∧ H2 N = some (.lst (((List.range i).map (tkW pw ns)).map V.int))) ⟨same_upd nN, upd_same⟩ ?_ ?_
    · rintro i H2 hi ⟨s, hN⟩
      refine ⟨rfl, ?_⟩
      refine lc_yes ?_
      refine iteT ?_
      refine ⟨_, rfl, _, rfl, _, rfl, P, l, us, pw, ns, i, by rw [Int.zero_add]; rfl, s _ _ hP1, row1.same s, s _ _ hl1, _, hN, ?_, same_mut s nN, ?_⟩
      · rw [List.length_map, List.length_map, List.length_range]
        exact small1000 (by omega)
      · rw [upd_same, List.range_succ, List.map_append, List.map_append]
        rfl
    rintro H2 ⟨s2, hN⟩
    have s12 := s1.trans s2
    have la2 := la.same s12
    obtain ⟨dx, tw, vs, hp, htw, roww⟩ := id la2
    refine ⟨_, rfl, p, dx, _, rfl, hp, fL_shares _ _, _, rfl, p, l, pw, ns, m, rfl, la2, s12 _ _ hl, hm, nl, fine, fun z => no z, fun _ H3 L rs s3 nL hL lr hr => ?_⟩
    have hN3 := s3 _ _ hN
    refine ⟨_, rfl, N, rfl, ⟨_, lst_l hN3⟩, fun G nG => lc_list (K := K) (a := N) (xs := ((List.range m).map (tkW pw ns)).map V.int) (fun i H4 => ∃ ts : List Addr, Same H3 H4 ∧ H4 G = some (.lst (ts.map V.ref)) ∧ ts.length = i ∧ ∀ (j : Nat) (t : Addr), ts[j]? = some t → H4 t = some (.tup [.int (tkW pw ns j), .int (evW pw)])) ⟨[], same_upd nG, upd_same, rfl, fun j t h => by cases h⟩ (fun i H4 _ ⟨_, s, _⟩ => lst_l (s _ _ hN3)) ?_ ?_⟩
    · rintro i x H4 hi ⟨ts, s, hG, lt, du⟩
      obtain ⟨c, rfl, hic⟩ := int_of hi
      have im : i < m := by
        have := (List.getElem?_eq_some_iff.mp hic).1
        rw [List.length_map, List.length_range] at this
        exact this
      rw [List.getElem?_map, List.getElem?_range im] at hic
      cases hic
      refine ⟨rfl, ?_⟩
      refine lc_yes ?_
      refine iteT ?_
      refine ⟨_, rfl, _, rfl, (by show 2 ≤ sizeLine; decide), fun tp np => ?_⟩
      have hG5 := same_upd (o := .tup [.int (tkW pw ns i), .int (evW pw)]) np _ _ hG
      have stay : ∀ (t : Addr) (vs : List V), upd H4 tp (.tup [.int (tkW pw ns i), .int (evW pw)]) t = some (.tup vs) → upd (upd H4 tp (.tup [.int (tkW pw ns i), .int (evW pw)])) G (.lst (ts.map V.ref ++ [V.ref tp])) t = some (.tup vs) := fun t vs e => (upd_ne fun z => by
        rw [z, hG5] at e
        cases e).trans e
      refine ⟨_, hG5, ?_, ts ++ [tp], same_mut (s.trans (same_upd np)) nG, ?_, ?_, fun j t h => ?_⟩
      · rw [List.length_map]
        exact small1000 (by omega)
      · rw [upd_same, List.map_append]
        rfl
      · rw [List.length_append, lt]
        rfl
      · by_cases hj : j < ts.length
        · rw [List.getElem?_append_left hj] at h
          exact stay _ _ (same_upd np _ _ (du j t h))
        · rw [List.getElem?_append_right (by omega)] at h
          obtain ⟨k, hk⟩ : ∃ k, j - ts.length = k := ⟨_, rfl⟩
          rw [hk] at h
          cases k with
          | zero =>
            have : j = i := by omega
            subst this
            cases h
            exact stay _ _ upd_same
          | succ k => cases h
    rintro H4 ⟨ts, s4, hG, lt, du⟩
    rw [List.length_map, List.length_map, List.length_range] at lt
    refine ⟨L, G, rs, ts, rfl, s4 _ _ hL, hG, by omega, by omega, fun i r t hi ht => ?_, true, rfl, iteF ?_⟩
    · have im : i < m := lt ▸ (List.getElem?_eq_some_iff.mp ht).1
      have lo := low (t := tkW pw ns i) (b := evW pw) (by omega)
      have b1 := tle i im
      have sn : Sm (tkW pw ns i) := sd.le (by omega)
      exact ⟨_, _, _, _, (hr i r hi).same s4, du i t ht, lo.pos, lo.eq, (sn.le lo.leT).mul sd, sn.mul (sd.le lo.leB)⟩
    have s24 := s3.trans s4
    have la4 := la2.same s24
    obtain ⟨dx4, tw4, vs4, hp4, htw4, roww4⟩ := id la4
    refine ⟨_, rfl, p, dx4, _, rfl, hp4, fL_away _ _, _, rfl, p, l, pw, ns, m, rfl, la4, s24 _ _ (s12 _ _ hl), hm, nl, fine, fun z => no z, fun _ H5 r T1 B1 s5 ra lo => ?_⟩
    refine ⟨_, rfl, _, rfl, N, _, rfl, lst_l (s5 _ _ (s4 _ _ hN3)), _, _, rfl, rfl, _, rfl, r, T1, B1, evW pw - allW pw ns m, evW pw, rfl, ra, lo.pos, lo.eq, (sd.le (Nat.le_trans lo.leT (by omega))).mul sd, (sd.le (a := evW pw - allW pw ns m) (by omega)).mul (sd.le lo.leB), ?_⟩
    exact q H5 ((s12.trans s24).trans s5)
def sp__law_refuses (C : Addr) : Sp := fun vs H Q _ => ∃ (p l : Addr) (pw : List (Int × List Int)) (ns : List Int) (m : Nat), vs = [.ref p, .ref l] ∧ LAt C H p m pw ∧ H l = some (.tup (ns.map V.int)) ∧ lotB ns (-1) m = false ∧ m ≤ 24 ∧ ns.length ≤ 1000 ∧ FineW m pw ∧ Q (.bl true) H
theorem ok__law_refuses {f : Addr} {fd : FuncData} {C_Listed C_Ratio C_BadNumber C_TooMany C_BadWish C_NoBuyers C_ZeroBottom C_BadLot : Addr} (F : Fun K "_law_refuses" "_law_refuses" s__law_refuses f fd) (T : Txt K mg C_Listed C_Ratio C_BadNumber C_TooMany C_BadWish C_NoBuyers C_ZeroBottom C_BadLot) (c_Listed_shares : CalM P w K mg base (L2.CX P w) 3 C_Listed "shares" ["self", "lot"] (sp_Listed_shares K C_Listed C_Ratio C_BadLot)) (c_Rule_away : CalM P w K mg base (L2.CX P w) 6 C_Listed "away" ["self", "lot"] (sp_Rule_away K C_Listed C_Ratio C_BadLot)) : FnOk P w K mg base CX0 7 f fd ["_law_rule", "_law_lot_here"] (sp__law_refuses C_Listed) := by
  refine F.ok sc__law_refuses (fun vs H Q E h => ?_) (fun cdv A outer s H vs Q E hr h => ?_)
  · obtain ⟨p, l, pw, ns, m, rfl, _⟩ := h
    rfl
  · obtain ⟨p, l, pw, ns, m, rfl, la, hl, bad, hm, nl, fine, q⟩ := h
    obtain ⟨f_Listed_shares, fd_Listed_shares, G_Listed_shares, M_Listed_shares, b_Listed_shares⟩ := c_Listed_shares
    obtain ⟨f_Rule_away, fd_Rule_away, G_Rule_away, M_Rule_away, b_Rule_away⟩ := c_Rule_away
    refine ⟨_, (pss_cons (ps_set (i := 2) sc__law_refuses.nd rfl (Or.inl rfl) pe_bl)
      (pss_cons (ps_try_only (Wout := fun _ _ _ _ => False) rfl rfl ⟨rfl, by decide, Or.inl T.g_BadLot⟩ takes0
      (fun W pn xe tk _ => (pss_one (ps_expr (pe_methT (pv 0) T.cl_Listed M_Listed_shares G_Listed_shares (hr.mono (by decide)) b_Listed_shares (fun σ => passAt tk σ) (pa_cons (pv 1) pa_nil)))))
      (fun a oe cls d pn hz hf => (pss_one (ps_set (i := 2) sc__law_refuses.nd rfl (Or.inl rfl) pe_bl))))
      (pss_cons (ps_if (pt_not (pt_val (pv 2))) (pss_one (ps_ret pe_bl)) pss_nil)
      (pss_cons (ps_try_only (Wout := fun _ _ _ _ => False) rfl rfl ⟨rfl, by decide, Or.inl T.g_BadLot⟩ takes0
      (fun W pn xe tk _ => (pss_one (ps_expr (pe_methT (pv 0) T.cl_Listed M_Rule_away G_Rule_away (hr.mono (by decide)) b_Rule_away (fun σ => passAt tk σ) (pa_cons (pv 1) pa_nil)))))
      (fun a oe cls d pn hz hf => (pss_one (ps_ret pe_bl))))
      (pss_one (ps_ret pe_bl)))))), ?_⟩
    have no : ∀ {P : Prop}, lotB ns (-1) m = true → P := fun {P} z => by
      rw [bad] at z
      cases z
    obtain ⟨dx, tw, vs, hp, htw, roww⟩ := id la
    refine ⟨_, rfl, p, dx, _, rfl, hp, fL_shares _ _, _, rfl, p, l, pw, ns, m, rfl, la, hl, hm, nl, fine, fun _ => ?_, fun z => no z⟩
    refine ⟨true, T.exm_BadLot_BadLot, fun _ a0 na => ?_, fun z => Bool.noConfusion z⟩
    refine ⟨_, rfl, true, rfl, iteF ?_⟩
    refine ⟨_, rfl, p, dx, _, rfl, hp, fL_away _ _, _, rfl, p, l, pw, ns, m, rfl, la, hl, hm, nl, fine, fun _ => ?_, fun z => no z⟩
    exact ⟨true, T.exm_BadLot_BadLot, fun _ a1 na1 => q, fun z => Bool.noConfusion z⟩
def sp__law_kept : Sp := fun vs H Q _ => ∃ (t L : Addr) (zs us : List Addr) (pw : List (Int × List Int)), vs = [.ref t, .ref L] ∧ H t = some (.tup (zs.map V.ref)) ∧ RowW H zs pw ∧ H L = some (.lst (us.map V.ref)) ∧ RowW H us pw ∧ us.length ≤ 900 ∧ (∀ w ∈ pw, w.2.length < 64) ∧ Q (.bl true) H
theorem ok__law_kept {f : Addr} {fd : FuncData} {C_Listed C_Ratio C_BadNumber C_TooMany C_BadWish C_NoBuyers C_ZeroBottom C_BadLot : Addr} (F : Fun K "_law_kept" "_law_kept" s__law_kept f fd) (T : Txt K mg C_Listed C_Ratio C_BadNumber C_TooMany C_BadWish C_NoBuyers C_ZeroBottom C_BadLot) (m_isinstance : mg "isinstance" = none) (m_len : mg "len" = none) (m_range : mg "range" = none) (m_tuple : mg "tuple" = none) (c__law_is_int : Cal P w K mg base CX0 1 "_law_is_int" ["_law_x"] sp__law_is_int) (c__law_same_lot : Cal P w K mg base CX0 2 "_law_same_lot" ["_law_x", "_law_due"] (sp__law_same_lot K)) : FnOk P w K mg base CX0 3 f fd ["_law_told", "_law_pairs"] sp__law_kept := by
  refine F.ok sc__law_kept (fun vs H Q E h => ?_) (fun cdv A outer s H vs Q E hr h => ?_)
  · obtain ⟨t, L, zs, us, pw, rfl, _⟩ := h
    rfl
  · obtain ⟨t, L, zs, us, pw, rfl, ht, rowZ, hL, row, ul, lw, q⟩ := h
    obtain ⟨f__law_is_int, fd__law_is_int, G__law_is_int, m__law_is_int, k__law_is_int, b__law_is_int⟩ := c__law_is_int
    obtain ⟨f__law_same_lot, fd__law_same_lot, G__law_same_lot, m__law_same_lot, k__law_same_lot, b__law_same_lot⟩ := c__law_same_lot
    refine ⟨_, (pss_cons (ps_if (PW.pt (pw_or (pt_not (pt_val (pe_callB call_isi (by rfl) m_isinstance (by decide +kernel) (pa_cons (pv 0) (pa_cons (pe_bltn (v := .ty "tuple") (by rfl) m_tuple (by decide +kernel) rfl) pa_nil))))) (pw_or1 (pt_cmpR op_ne (pe_callB call_len_seq (by rfl) m_len (by decide +kernel) (pa_cons (pv 0) pa_nil)) (pe_callB call_len_seq (by rfl) m_len (by decide +kernel) (pa_cons (pv 1) pa_nil)) (nomark _))))) (pss_one (ps_ret pe_bl)) pss_nil)
      (pss_cons (ps_for PassesOwn.never rfl (pi_range1 (by rfl) m_range (pa_cons (pe_callB call_len_seq (by rfl) m_len (by decide +kernel) (pa_cons (pv 1) pa_nil)) pa_nil)) (pg_name (i := 2) sc__law_kept.nd rfl (Or.inl rfl))
      (pss_cons (ps_set (i := 3) sc__law_kept.nd rfl (Or.inl rfl) (pe_ix ix_tup (pv 0) (pv 2) (fun _ _ => rfl)))
      (pss_cons (ps_if (PW.pt (pw_or (pt_not (pt_val (pe_callB call_isi (by rfl) m_isinstance (by decide +kernel) (pa_cons (pv 3) (pa_cons (pe_bltn (v := .ty "tuple") (by rfl) m_tuple (by decide +kernel) rfl) pa_nil))))) (pw_or (pt_cmpR op_ne (pe_callB call_len_seq (by rfl) m_len (by decide +kernel) (pa_cons (pv 3) pa_nil)) pe_int (nomark _)) (pw_or1 (pt_not (pt_val (pe_call G__law_is_int (hr.mono (by decide)) (by rfl) m__law_is_int k__law_is_int b__law_is_int .nil pass0 (pa_cons (pe_ix ix_tup (pv 3) pe_int (fun _ _ => rfl)) pa_nil)))))))) (pss_one (ps_ret pe_bl)) pss_nil)
      (pss_one (ps_if (PW.pt (pw_or (pt_cmpR op_ne (pe_ix ix_tup (pv 3) pe_int (fun _ _ => rfl)) (pe_ix ix_tup (pe_ix ix_list (pv 1) (pv 2) (fun _ _ => rfl)) pe_int (fun _ _ => rfl)) (nomark _)) (pw_or1 (pt_not (pt_val (pe_call G__law_same_lot (hr.mono (by decide)) (by rfl) m__law_same_lot k__law_same_lot b__law_same_lot .nil pass0 (pa_cons (pe_ix ix_tup (pv 3) pe_int (fun _ _ => rfl)) (pa_cons (pe_ix ix_tup (pe_ix ix_list (pv 1) (pv 2) (fun _ _ => rfl)) pe_int (fun _ _ => rfl)) pa_nil)))))))) (pss_one (ps_ret pe_bl)) pss_nil)))))
      (pss_one (ps_ret pe_bl)))), ?_⟩
    have rl := row.1
    have rz := rowZ.1
    refine ⟨_, rfl, .ref t, .ty "tuple", _, _, true, rfl, .ty "tuple", .base (.tup ht), kit_ty kT, true, rfl, iteF ?_⟩
    refine ⟨_, rfl, t, _, rfl, .inr (tup_t ht), _, rfl, L, _, rfl, .inl (lst_l hL), rfl, _, rfl, iteNS (by rw [List.length_map, List.length_map]; exact congrArg V.int (by omega)) ?_⟩
    refine ⟨_, rfl, L, _, rfl, .inl (lst_l hL), _, rfl, ?_⟩
    rw [List.length_map]
    refine ⟨by omega, by omega, ?_⟩
    rw [Int.toNat_natCast]
    refine for_range (lo := 0) (n := us.length) (fun i σ H2 => ∃ y1 y2 : Option V, σ = [some (.ref t), some (.ref L), y1, y2] ∧ H2 = H) ⟨none, none, rfl, rfl⟩ ?_ ?_
    · rintro i σ H2 hi ⟨y1, y2, rfl, rfl⟩
      have h1 : us[i]? = some us[i] := List.getElem?_eq_getElem hi
      have h2 : pw[i]? = some pw[i] := List.getElem?_eq_getElem (by omega)
      have v1 : (us.map V.ref)[i]? = some (.ref us[i]) := by rw [List.getElem?_map, h1]; rfl
      have z1 : zs[i]? = some zs[i] := List.getElem?_eq_getElem (by omega)
      have v2 : (zs.map V.ref)[i]? = some (.ref zs[i]) := by rw [List.getElem?_map, z1]; rfl
      obtain ⟨l, hu, hl⟩ := row.2 i _ _ h1 h2
      obtain ⟨l2, hz, hl2⟩ := rowZ.2 i _ _ z1 h2
      have l64 := lw _ (List.mem_of_getElem? h2)
      refine ⟨_, rfl, _, rfl, t, _, _, _, rfl, rfl, tup_t ht, at_of (Int.zero_add _) v2, ?_⟩
      refine ⟨_, rfl, .ref zs[i], .ty "tuple", _, _, true, rfl, .ty "tuple", .base (.tup hz), kit_ty kT, true, rfl, iteF ?_⟩
      refine ⟨_, rfl, zs[i], _, rfl, .inr (tup_t hz), rfl, _, rfl, iteNS rfl ?_⟩
      refine ⟨_, rfl, zs[i], _, _, _, rfl, rfl, tup_t hz, atI_nat (j := 0) rfl, _, rfl, true, rfl, iteF ?_⟩
      refine ⟨_, rfl, zs[i], _, _, _, rfl, rfl, tup_t hz, atI_nat (j := 0) rfl, _, rfl, _, rfl, L, _, _, _, rfl, rfl, lst_l hL, at_of (Int.zero_add _) v1, us[i], _, _, _, rfl, rfl, tup_t hu, atI_nat (j := 0) rfl, rfl, _, rfl, iteNS rfl ?_⟩
      refine ⟨_, rfl, zs[i], _, _, _, rfl, rfl, tup_t hz, atI_nat (j := 1) rfl, _, rfl, _, rfl, L, _, _, _, rfl, rfl, lst_l hL, at_of (Int.zero_add _) v1, us[i], _, _, _, rfl, rfl, tup_t hu, atI_nat (j := 1) rfl, l2, l, pw[i].2, rfl, hl2, tup_t hl, by omega, true, rfl, iteF ?_⟩
      exact ⟨_, _, rfl, rfl⟩
    · rintro σ H2 ⟨y1, y2, rfl, rfl⟩
      exact q
def sp_law (K : PySem.W.Frag) : Sp := fun vs H Q _ => ∃ (a : Addr) (ns : List Int), vs = [.ref a] ∧ SqL K H a (ns.map V.int) ∧ ns.length ≤ 63 ∧ ∀ H', Q (.bl true) H'

theorem ok_law {f : Addr} {fd : FuncData} {C_Listed C_Ratio C_BadNumber C_TooMany C_BadWish C_NoBuyers C_ZeroBottom C_BadLot : Addr} (F : Fun K "law" "law" s_law f fd) (T : Txt K mg C_Listed C_Ratio C_BadNumber C_TooMany C_BadWish C_NoBuyers C_ZeroBottom C_BadLot) (m_len : mg "len" = none) (m_list : mg "list" = none) (m_range : mg "range" = none) (m_tuple : mg "tuple" = none) (c__law_cell : Cal P w K mg base CX0 1 "_law_cell" ["_law_script", "_law_place"] (sp__law_cell K)) (c__law_draws : Cal P w K mg base CX0 1 "_law_draws" ["_law_cell_here", "_law_sizes"] (sp__law_draws K)) (c__law_row : Cal P w K mg base CX0 2 "_law_row" ["_law_cell_here", "_law_count"] (sp__law_row K)) (c__law_ups : Cal P w K mg base CX0 1 "_law_ups" ["_law_row_here"] (sp__law_ups K)) (c__law_list : Cal P w K mg base CX0 2 "_law_list" ["_law_cell_here", "_law_many"] (sp__law_list K)) (c__law_shown : Cal P w K mg base CX0 2 "_law_shown" ["_law_drawn", "_law_many"] (sp__law_shown K)) (c__law_is_int : Cal P w K mg base CX0 1 "_law_is_int" ["_law_x"] sp__law_is_int) (c__law_good : Cal P w K mg base CX0 7 "_law_good" ["_law_rule", "_law_pairs", "_law_many", "_law_lot_here"] (sp__law_good C_Listed)) (c__law_refuses : Cal P w K mg base CX0 7 "_law_refuses" ["_law_rule", "_law_lot_here"] (sp__law_refuses C_Listed)) (c__law_kept : Cal P w K mg base CX0 3 "_law_kept" ["_law_told", "_law_pairs"] sp__law_kept) (c_Listed___init__ : CalI P w K mg base (L2.CX P w) 5 C_Listed ["self", "many", "wishes"] (sp_Listed___init__ C_Listed C_TooMany C_NoBuyers C_BadNumber C_BadWish) []) (c_Listed_shares : CalM P w K mg base (L2.CX P w) 3 C_Listed "shares" ["self", "lot"] (sp_Listed_shares K C_Listed C_Ratio C_BadLot)) : FnOk P w K mg base CX0 8 f fd ["_law_script"] (sp_law K) := by
  refine F.ok sc_law (fun vs H Q E h => ?_) (fun cdv A outer s H vs Q E hr h => ?_)
  · obtain ⟨a, ns, rfl, _⟩ := h
    rfl
  · obtain ⟨a, ns, rfl, hS, hlen, q⟩ := h
    obtain ⟨f__law_cell, fd__law_cell, G__law_cell, m__law_cell, k__law_cell, b__law_cell⟩ := c__law_cell
    obtain ⟨f__law_draws, fd__law_draws, G__law_draws, m__law_draws, k__law_draws, b__law_draws⟩ := c__law_draws
    obtain ⟨f__law_row, fd__law_row, G__law_row, m__law_row, k__law_row, b__law_row⟩ := c__law_row
    obtain ⟨f__law_ups, fd__law_ups, G__law_ups, m__law_ups, k__law_ups, b__law_ups⟩ := c__law_ups
    obtain ⟨f__law_list, fd__law_list, G__law_list, m__law_list, k__law_list, b__law_list⟩ := c__law_list
    obtain ⟨f__law_shown, fd__law_shown, G__law_shown, m__law_shown, k__law_shown, b__law_shown⟩ := c__law_shown
    obtain ⟨f__law_is_int, fd__law_is_int, G__law_is_int, m__law_is_int, k__law_is_int, b__law_is_int⟩ := c__law_is_int
    obtain ⟨f__law_good, fd__law_good, G__law_good, m__law_good, k__law_good, b__law_good⟩ := c__law_good
    obtain ⟨f__law_refuses, fd__law_refuses, G__law_refuses, m__law_refuses, k__law_refuses, b__law_refuses⟩ := c__law_refuses
    obtain ⟨f__law_kept, fd__law_kept, G__law_kept, m__law_kept, k__law_kept, b__law_kept⟩ := c__law_kept
    obtain ⟨f_Listed___init__, fd_Listed___init__, G_Listed___init__, M_Listed___init__, b_Listed___init__, ds_Listed___init__, vd_Listed___init__, bd_Listed___init__⟩ := c_Listed___init__
    obtain ⟨f_Listed_shares, fd_Listed_shares, G_Listed_shares, M_Listed_shares, b_Listed_shares⟩ := c_Listed_shares
    refine ⟨_, (pss_cons (ps_set (i := 1) sc_law.nd rfl (Or.inl rfl) (pe_call G__law_draws (hr.mono (by decide)) (by rfl) m__law_draws k__law_draws b__law_draws .nil pass0 (pa_cons (pe_call G__law_cell (hr.mono (by decide)) (by rfl) m__law_cell k__law_cell b__law_cell .nil pass0 (pa_cons (pv 0) (pa_cons pe_int pa_nil))) (pa_cons (pe_lst (pa_cons pe_int (pa_cons pe_int (pa_cons pe_int (pa_cons pe_int (pa_cons pe_int pa_nil)))))) pa_nil))))
      (pss_cons (ps_set (i := 2) sc_law.nd rfl (Or.inr rfl) (pe_ix ix_list (pv 1) pe_int (fun _ _ => rfl)))
      (pss_cons (ps_set (i := 3) sc_law.nd rfl (Or.inr rfl) (pe_call G__law_ups (hr.mono (by decide)) (by rfl) m__law_ups k__law_ups b__law_ups .nil pass0 (pa_cons (pe_call G__law_row (hr.mono (by decide)) (by rfl) m__law_row k__law_row b__law_row .nil pass0 (pa_cons (pe_call G__law_cell (hr.mono (by decide)) (by rfl) m__law_cell k__law_cell b__law_cell .nil pass0 (pa_cons (pv 0) (pa_cons pe_int pa_nil))) (pa_cons (pe_op op_add (pe_ix ix_list (pv 1) pe_int (fun _ _ => rfl)) pe_int) pa_nil))) pa_nil)))
      (pss_cons (ps_setLc (i := 4) (own := [("_law_k", 13)]) (g := (gName 13)) (tt := tYes) rfl sc_law.nd rfl rfl (sw_true rfl rfl rfl (by decide +kernel)) (pi_range1 (by rfl) m_range (pa_cons (pe_callB call_len_seq (by rfl) m_len (by decide +kernel) (pa_cons (pv 3) pa_nil)) pa_nil)) (blkOk_by (own := [("_law_k", 13)]) (N := ["_law_script", "_law_drawn", "_law_many", "_law_buyers", "_law_pairs", "_law_lot_here", "_law_rest", "_law_handed", "_law_rule", "_law_other", "_law_shown_here", "_law_wrong", "_law_told", "_law_k", "_law_thing"]) (sc := defScope s_law) (by decide +kernel)) (fun _ _ _ _ _ => (pg_name (i := 13) sc_law.nd rfl (Or.inl rfl))) (fun _ _ _ _ _ => pts_nil) (fun _ _ _ _ _ => (pe_tup (pa_cons (pe_ix (r := rIxL K) ix_list (pv 3) (pv 13) (fun _ _ => rfl)) (pa_cons (pe_call G__law_list (hr.mono (by decide)) (by rfl) m__law_list k__law_list b__law_list .nil pass0 (pa_cons (pe_call G__law_cell (hr.mono (by decide)) (by rfl) m__law_cell k__law_cell b__law_cell .nil pass0 (pa_cons (pv 0) (pa_cons (pe_op op_add pe_int (pv 13)) pa_nil))) (pa_cons (pv 2) pa_nil))) pa_nil)))))
      (pss_cons (ps_set (i := 5) sc_law.nd rfl (Or.inr rfl) (pe_call G__law_shown (hr.mono (by decide)) (by rfl) m__law_shown k__law_shown b__law_shown .nil pass0 (pa_cons (pv 1) (pa_cons (pv 2) pa_nil))))
      (pss_cons (ps_set (i := 6) sc_law.nd rfl (Or.inl rfl) (pe_callTy call_tuple_of (by rfl) m_tuple (by decide +kernel) (pa_cons (pe_lc (own := [("_law_thing", 14)]) (g := (gName 14)) rfl sc_law.nd (pi_range1 (by rfl) m_range (pa_cons (pv 2) pa_nil)) (blkOk_by (own := [("_law_thing", 14)]) (N := ["_law_script", "_law_drawn", "_law_many", "_law_buyers", "_law_pairs", "_law_lot_here", "_law_rest", "_law_handed", "_law_rule", "_law_other", "_law_shown_here", "_law_wrong", "_law_told", "_law_k", "_law_thing"]) (sc := defScope s_law) (by decide +kernel)) (fun _ _ _ _ _ => (pg_name (i := 14) sc_law.nd rfl (Or.inl rfl))) (fun _ _ _ _ _ => (pts_one (pt_cmpR (r := rIn K true) op_notIn_seq (pv 14) (pv 5) (by rfl)))) (fun _ _ _ _ _ => (pv 14))) pa_nil)))
      (pss_cons (ps_set (i := 7) sc_law.nd rfl (Or.inl rfl) (pe_callTy call_list_of (by rfl) m_list (by decide +kernel) (pa_cons (pv 4) pa_nil)))
      (pss_cons (ps_set (i := 8) sc_law.nd rfl (Or.inl rfl) (pe_make M_Listed___init__ G_Listed___init__ (hr.mono (by decide)) (by rfl) T.g_Listed b_Listed___init__ .nil passL (pa_cons (pv 2) (pa_cons (pv 7) pa_nil))))
      (pss_cons (ps_set (i := 9) sc_law.nd rfl (Or.inl rfl) (pe_make M_Listed___init__ G_Listed___init__ (hr.mono (by decide)) (by rfl) T.g_Listed b_Listed___init__ .nil passL (pa_cons (pv 2) (pa_cons (pe_lst (pa_cons (pe_tup (pa_cons pe_int (pa_cons (pe_tup pa_nil) pa_nil))) pa_nil)) pa_nil))))
      (pss_cons (ps_if (PW.pt (pw_or (pt_cmpR (op_neD hr.units) (pv 7) (pv 4) (nomark _)) (pw_or (pt_not (pt_val (pe_call G__law_is_int (hr.mono (by decide)) (by rfl) m__law_is_int k__law_is_int b__law_is_int .nil pass0 (pa_cons (pe_fld (pv 8) rfl) pa_nil)))) (pw_or1 (pt_cmpR op_ne (pe_fld (pv 8) rfl) (pv 2) (nomark _)))))) (pss_one (ps_ret pe_bl)) pss_nil)
      (pss_cons (ps_for PassesOwn.never rfl (pi_list (pe_lst (pa_cons (pv 5) (pa_cons (pv 6) (pa_cons (pv 5) pa_nil))))) (pg_name (i := 10) sc_law.nd rfl (Or.inl rfl))
      (pss_one (ps_if (PW.pt (pw_or (pt_not (pt_val (pe_call G__law_good (hr.mono (by decide)) (by rfl) m__law_good k__law_good b__law_good .nil pass0 (pa_cons (pv 8) (pa_cons (pv 4) (pa_cons (pv 2) (pa_cons (pv 10) pa_nil))))))) (pw_or1 (pt_not (pt_val (pe_call G__law_good (hr.mono (by decide)) (by rfl) m__law_good k__law_good b__law_good .nil pass0 (pa_cons (pv 9) (pa_cons (pe_lst (pa_cons (pe_tup (pa_cons pe_int (pa_cons (pe_tup pa_nil) pa_nil))) pa_nil)) (pa_cons (pv 2) (pa_cons (pv 10) pa_nil)))))))))) (pss_one (ps_ret pe_bl)) pss_nil)))
      (pss_cons (ps_for PassesOwn.never rfl (pi_list (pe_lst (pa_cons (pe_op op_catA (pv 5) (pe_tup (pa_cons (pv 2) pa_nil))) (pa_cons (pe_op op_catA (pe_tup (pa_cons (pe_un un_neg pe_int) pa_nil)) (pv 5)) (pa_cons (pe_tup (pa_cons pe_int (pa_cons pe_int pa_nil))) (pa_cons (pe_tup (pa_cons pe_int (pa_cons pe_int pa_nil))) pa_nil)))))) (pg_name (i := 11) sc_law.nd rfl (Or.inl rfl))
      (pss_one (ps_if (pt_not (pt_val (pe_call G__law_refuses (hr.mono (by decide)) (by rfl) m__law_refuses k__law_refuses b__law_refuses .nil pass0 (pa_cons (pv 8) (pa_cons (pv 11) pa_nil))))) (pss_one (ps_ret pe_bl)) pss_nil)))
      (pss_cons (ps_expr (pe_bm PySem.F.plainAttrs_list PySem.F.slot_list_append PySem.F.type_list_append mt_append (pv 7) (pa_cons (pe_tup (pa_cons pe_int (pa_cons (pe_tup pa_nil) pa_nil))) pa_nil)))
      (pss_cons (ps_asg (pe_tup (pa_cons pe_int (pa_cons (pe_tup pa_nil) pa_nil))) (pg_sub (pv 7) pe_int set_list))
      (pss_cons (ps_set (i := 12) sc_law.nd rfl (Or.inl rfl) (pe_meth (pv 8) T.cl_Listed M_Listed_shares G_Listed_shares (hr.mono (by decide)) b_Listed_shares .nil passL (pa_cons (pv 5) pa_nil)))
      (pss_cons (ps_expr (pe_bm PySem.F.plainAttrs_list PySem.F.slot_list_append PySem.F.type_list_append mt_append (pv 12) (pa_cons pe_int pa_nil)))
      (pss_cons (ps_asg pe_int (pg_sub (pv 12) pe_int set_list))
      (pss_one (ps_ret (pe_and (pe_call G__law_kept (hr.mono (by decide)) (by rfl) m__law_kept k__law_kept b__law_kept .nil pass0 (pa_cons (pe_fld (pv 8) rfl) (pa_cons (pv 4) pa_nil))) (pe_one (pe_call G__law_good (hr.mono (by decide)) (by rfl) m__law_good k__law_good b__law_good .nil pass0 (pa_cons (pv 8) (pa_cons (pv 4) (pa_cons (pv 2) (pa_cons (pv 5) pa_nil)))))))))))))))))))))))))), ?_⟩
    refine ⟨.ref a, rfl, a, ns, 0, rfl, hS, fun c1 => ?_⟩
    refine ⟨(by show 5 ≤ sizeLine; decide), fun p1 np1 => ?_⟩
    refine ⟨c1, p1, [25, 6, 3, 16777216, 16777216], rfl, lst_l upd_same, by decide, by decide, fun dsd1 H1 d1 wd1 s1 nd1 hd1 => ?_⟩
    have s1 : Same H H1 := (same_upd np1).trans s1
    have nd1 : H d1 = none := (same_upd np1).free nd1
    obtain ⟨x0, rx0, rfl, lx0, ux0, wd1⟩ := wd1.c
    obtain ⟨x1, rx1, rfl, lx1, ux1, wd1⟩ := wd1.c
    obtain ⟨x2, rx2, rfl, lx2, ux2, wd1⟩ := wd1.c
    obtain ⟨x3, rx3, rfl, lx3, ux3, wd1⟩ := wd1.c
    obtain ⟨x4, rx4, rfl, lx4, ux4, wd1⟩ := wd1.c
    cases wd1.n
    have Ld1 : SqL K H1 d1 ([x0, x1, x2, x3, x4].map V.int) := lst_l hd1
    obtain ⟨m, rfl⟩ : ∃ m : Nat, x0 = (m : Int) := ⟨x0.toNat, by omega⟩
    have hm : m ≤ 24 := by omega
    have hm2 : (m : Int) ≤ 24 := by omega
    obtain ⟨n1, rfl⟩ : ∃ n : Nat, x1 = (n : Int) := ⟨x1.toNat, by omega⟩
    refine ⟨.ref d1, rfl, d1, _, _, _, rfl, rfl, Ld1, atI_nat (j := 0) rfl, ?_⟩
    refine ⟨.ref a, rfl, a, ns, 1, rfl, s1.seq hS, fun c2 => ⟨.ref d1, rfl, d1, _, _, _, rfl, rfl, Ld1, atI_nat (j := 1) rfl, _, _, rfl, rfl, c2, n1 + 1, rfl, by omega, fun rs H3 d3 lr br s3 nd3 hd3 => ?_⟩⟩
    refine ⟨d3, rs, rfl, hd3, by omega, fun H4 B s4 nB hB => ?_⟩
    have s14 := (s1.trans s3).trans s4
    have hd4 := s4 _ _ (s3 _ _ hd1)
    have bl : (rs.map fun n => 1 + n).length = n1 + 1 := by rw [List.length_map, lr]
    have bq : ∀ n ∈ rs.map fun n => 1 + n, 1 ≤ n ∧ n ≤ 10 ^ 18 := fun n hn => by
      obtain ⟨v, hv, rfl⟩ := List.mem_map.mp hn
      have := br v hv
      omega
    generalize (rs.map fun n => 1 + n) = qs at hB bl bq
    refine ⟨_, rfl, B, _, rfl, .inl (lst_l hB), _, rfl, ?_⟩
    rw [List.length_map]
    refine ⟨by omega, by omega, ?_⟩
    rw [Int.toNat_natCast]
    refine fun P nP => lc_range (lo := 0) (n := qs.length) (fun i H5 => ∃ (us : List Addr) (pw : List (Int × List Int)), Same H4 H5 ∧ H5 P = some (.lst (us.map V.ref)) ∧ us.length = i ∧ RowW H5 us pw ∧ ∀ w ∈ pw, 1 ≤ w.1 ∧ w.1 ≤ 10 ^ 18 ∧ FitW m w.2 ∧ w.2.length ≤ 24) ⟨[], [], same_upd nP, upd_same, rfl, ⟨rfl, fun i u w h => by cases h⟩, fun w h => absurd h (by simp)⟩ ?_ ?_
    · rintro i H5 hi ⟨us, pw, s5, hP, lu, row, lw⟩
      have g1 : qs[i]? = some qs[i] := List.getElem?_eq_getElem hi
      refine ⟨rfl, ?_⟩
      refine lc_yes ?_
      refine iteT ?_
      refine ⟨_, rfl, _, rfl, B, _, _, _, rfl, rfl, lst_l (s5 _ _ hB), at_of (Int.zero_add _) (int_at g1), ?_⟩
      refine ⟨.ref a, rfl, _, rfl, _, _, rfl, rfl, a, ns, 2 + i, congrArg (fun z => [V.ref a, V.int z]) (by omega), (s14.trans s5).seq hS, fun c3 => ⟨_, rfl, c3, m, rfl, hm, fun H6 t zs s6 ht fit lz => ⟨(by show 2 ≤ sizeLine; decide), fun u nu => ?_⟩⟩⟩
      have hP6 := s6 _ _ hP
      have hP7 := same_upd (o := .tup [V.int qs[i], V.ref t]) nu _ _ hP6
      refine ⟨_, hP7, ?_, us ++ [u], pw ++ [(qs[i], zs)], same_mut ((s5.trans s6).trans (same_upd nu)) nP, ?_, ?_, ?_, fun w hw => ?_⟩
      · rw [List.length_map]
        exact small1000 (by omega)
      · rw [upd_same, List.map_append]
        rfl
      · rw [List.length_append, lu]
        rfl
      · exact (RowW.snoc ((row.same s6).same (same_upd nu)) ⟨t, upd_same, same_upd nu _ _ ht⟩).put hP7
      · rcases List.mem_append.mp hw with hw | hw
        · exact lw w hw
        · rw [List.mem_singleton.mp hw]
          have := bq _ (List.mem_of_getElem? g1)
          exact ⟨this.1, this.2, fit, lz⟩
    rintro H5 ⟨us, pw, s5, hP, lu, row, lw⟩
    have rl := row.1
    have fine : FineW m pw := ⟨by omega, by omega, fun w h => (lw w h).1, fun w h => (lw w h).2.1, fun w h => (lw w h).2.2.1, fun w h => by have := (lw w h).2.2.2; omega⟩
    have s15 := s14.trans s5
    have hd5 := s5 _ _ hd4
    refine ⟨_, rfl, _, rfl, d1, (m : Int), (n1 : Int), x2, x3, x4, m, rfl, hd5, hm, fun H6 l ls s6 hl ok ln => ?_⟩
    have hP6 := s6 _ _ hP
    have row6 := row.same s6
    clear hP row hd5 hd4
    refine ⟨_, rfl, _, rfl, by omega, by omega, ?_⟩
    rw [Int.toNat_natCast]
    refine fun D nD => lc_range (lo := 0) (n := m) (fun i H7 => ∃ os : List Int, Same H6 H7 ∧ H7 D = some (.lst (os.map V.int)) ∧ lotB os (-1) i = true ∧ os.length ≤ i) ⟨[], same_upd nD, upd_same, rfl, Nat.le_refl _⟩ ?_ ?_
    · rintro i H7 hi ⟨os, s, hD, lo, lt⟩
      refine ⟨rfl, ?_⟩
      refine ⟨_, rfl, _, rfl, l, _, rfl, .inr (tup_t (s _ _ hl)), rfl, ints_flat ls, _, rfl, ite2 (fun _ => ?_) (fun _ => ?_)⟩
      · refine ⟨_, rfl, _, hD, ?_, os ++ [0 + (i : Int)], same_mut s nD, by rw [upd_same, ← snoc_int], ?_, ?_⟩
        · rw [List.length_map]
          exact small1000 (by omega)
        · rw [Int.zero_add]
          exact lotB_snoc lo (by omega)
        · rw [List.length_append]
          exact Nat.add_le_add_right lt 1
      · exact ⟨os, s, hD, lotB_mono lo (by omega), by omega⟩
    rintro H7 ⟨os, s7, hD, ok2, lo2⟩
    refine ⟨D, _, rfl, .inl ⟨lst_l hD, fun o no => ?_⟩⟩
    have s8 := s7.trans (same_upd (o := .tup (os.map V.int)) no)
    have ho : upd H7 o (.tup (os.map V.int)) o = some (.tup (os.map V.int)) := upd_same
    have hl8 := s8 _ _ hl
    have hP8 := s8 _ _ hP6
    have row8 := row6.same s8
    generalize upd H7 o (.tup (os.map V.int)) = H8 at s8 ho hl8 hP8 row8 ⊢
    refine ⟨_, rfl, P, _, rfl, .inl (lst_l hP8), fun g ng => ?_⟩
    have s9 := same_upd (o := .lst (us.map V.ref)) ng
    have hg9 : upd H8 g (.lst (us.map V.ref)) g = some (.lst (us.map V.ref)) := upd_same
    have row9 := row8.same s9
    generalize upd H8 g (.lst (us.map V.ref)) = H9 at s9 hg9 row9 ⊢
    refine ⟨_, rfl, _, rfl, fun r dr nr ndr _ => ⟨r, dr, g, us, pw, (m : Int), rfl, upd_same, made1 nr ndr _ _ hg9, (row9).same (made1 nr ndr), by omega, fine.n, fun n e => absurd ((fine.made hm2).symm.trans e) (by simp), fun e => absurd ((fine.made hm2).symm.trans e) (by simp), fun n e => absurd ((fine.made hm2).symm.trans e) (by simp), fun n e => absurd ((fine.made hm2).symm.trans e) (by simp), fun _ H10 sx la => ⟨rfl, ?_⟩⟩⟩
    have s10 := sameX_made nr ndr sx
    have s810 := s9.trans s10
    have hg10 := s10 _ _ hg9
    refine ⟨_, rfl, (by show 0 ≤ sizeLine; decide), fun et net => ?_⟩
    refine ⟨(by show 2 ≤ sizeLine; decide), fun u1 nu1 => ?_⟩
    refine ⟨(by show 1 ≤ sizeLine; decide), fun g1 ng1 => ?_⟩
    have p1 : PairW (upd (upd (upd H10 et (.tup [])) u1 (.tup [V.int 1, V.ref et])) g1 (.lst [V.ref u1])) u1 (1, []) := PairW.same (same_upd ng1) ⟨et, upd_same, same_upd nu1 _ _ upd_same⟩
    have hg1 : upd (upd (upd H10 et (.tup [])) u1 (.tup [V.int 1, V.ref et])) g1 (.lst [V.ref u1]) g1 = some (.lst ([u1].map V.ref)) := upd_same
    have s11 : Same H10 (upd (upd (upd H10 et (.tup [])) u1 (.tup [V.int 1, V.ref et])) g1 (.lst [V.ref u1])) := ((same_upd net).trans (same_upd nu1)).trans (same_upd ng1)
    generalize upd (upd (upd H10 et (.tup [])) u1 (.tup [V.int 1, V.ref et])) g1 (.lst [V.ref u1]) = H11 at p1 hg1 s11 ⊢
    have f1 := FineW.one m
    refine fun z dz nz ndz _ => ⟨z, dz, g1, [u1], [(1, [])], (m : Int), rfl, upd_same, made1 nz ndz _ _ hg1, (RowW.one p1).same (made1 nz ndz), by show 1 ≤ 900; decide, f1.n, fun n e => absurd ((f1.made hm2).symm.trans e) (by simp), fun e => absurd ((f1.made hm2).symm.trans e) (by simp), fun n e => absurd ((f1.made hm2).symm.trans e) (by simp), fun n e => absurd ((f1.made hm2).symm.trans e) (by simp), fun _ H12 sx2 lz => ⟨rfl, ?_⟩⟩
    have s12 := s11.trans (sameX_made nz ndz sx2)
    have la12 := la.same s12
    have s812 := s810.trans s12
    have hg12 := s12 _ _ hg10
    have hP12 := s812 _ _ hP8
    have row12 := row8.same s812
    have hl12 := s812 _ _ hl8
    have ho12 := s812 _ _ ho
    refine ⟨_, rfl, _, rfl, _, _, .lst (lst_l hg12) (dp_pairs row12), .lst (lst_l hP12) (dp_pairs row12), sh_pairs _, sh_pairs _, false, ?_, iteF ?_⟩
    · rw [SeqAt.eqv_refl _ (SeqAt.canLay_of_shaped (sh_pairs _))]
      rfl
    obtain ⟨dx2, tw, vs, hx, htw, roww⟩ := id la12
    refine ⟨_, rfl, r, C_Listed, dx2, _, _, rfl, hx, T.cl_Listed, T.n_Listed_many, fL_many _ _, (m : Int), rfl, true, rfl, iteF ?_⟩
    refine ⟨_, rfl, r, C_Listed, dx2, _, _, rfl, hx, T.cl_Listed, T.n_Listed_many, fL_many _ _, _, rfl, rfl, _, rfl, iteNS rfl ?_⟩
    refine ⟨_, rfl, _, rfl, _, rfl, (by show 3 ≤ sizeLine; decide), fun q3 nq3 => ?_⟩
    have s13 := same_upd (o := .lst [V.ref l, V.ref o, V.ref l]) nq3
    refine ⟨q3, rfl, ⟨_, lst_l upd_same⟩, for_list (K := K) (a := q3) (xs := [V.ref l, V.ref o, V.ref l]) (fun i σ H2 => ∃ (y : Option V), σ = [some (.ref a), some (.ref d1), some (.int (m : Int)), some (.ref B), some (.ref P), some (.ref l), some (.ref o), some (.ref g), some (.ref r), some (.ref z), y, none, none, none, none] ∧ Same (upd H12 q3 (.lst [V.ref l, V.ref o, V.ref l])) H2) ⟨none, rfl, Same.refl _⟩ (fun i σ H2 _ ⟨_, _, s⟩ => lst_l (s _ _ upd_same)) ?_ ?_⟩
    · rintro i x σ H2 hi ⟨y, rfl, s⟩
      have s122 := s13.trans s
      obtain ⟨u, zs, rfl, hu, okz, lz2⟩ : ∃ (u : Addr) (zs : List Int), V.ref u = x ∧ H2 u = some (.tup (zs.map V.int)) ∧ lotB zs (-1) (m : Int) = true ∧ zs.length ≤ 1000 := by
        have hx := List.mem_of_getElem? hi
        rcases List.mem_cons.mp hx with rfl | hx
        · exact ⟨l, ls, rfl, s122 _ _ hl12, ok, by omega⟩
        rcases List.mem_cons.mp hx with rfl | hx
        · exact ⟨o, os, rfl, s122 _ _ ho12, ok2, by omega⟩
        · rw [List.mem_singleton.mp hx]
          exact ⟨l, ls, rfl, s122 _ _ hl12, ok, by omega⟩
      refine ⟨_, rfl, _, rfl, _, rfl, _, rfl, r, P, u, us, pw, zs, m, rfl, la12.same s122, s122 _ _ hP12, row12.same s122, hu, okz, hm, lz2, fine, fun H26 s26 => ⟨true, rfl, iteF ?_⟩⟩
      refine ⟨_, rfl, (by show 0 ≤ sizeLine; decide), fun et2 net2 => ?_⟩
      refine ⟨(by show 2 ≤ sizeLine; decide), fun u2 nu2 => ?_⟩
      refine ⟨(by show 1 ≤ sizeLine; decide), fun g2 ng2 => ?_⟩
      have p2 : PairW (upd (upd (upd H26 et2 (.tup [])) u2 (.tup [V.int 1, V.ref et2])) g2 (.lst [V.ref u2])) u2 (1, []) := PairW.same (same_upd ng2) ⟨et2, upd_same, same_upd nu2 _ _ upd_same⟩
      have s27 : Same H26 (upd (upd (upd H26 et2 (.tup [])) u2 (.tup [V.int 1, V.ref et2])) g2 (.lst [V.ref u2])) := ((same_upd net2).trans (same_upd nu2)).trans (same_upd ng2)
      have s2627 := s26.trans s27
      exact ⟨_, rfl, _, rfl, z, g2, u, [u2], [(1, [])], zs, m, rfl, lz.same (s122.trans s2627), upd_same, RowW.one p2, s2627 _ _ hu, okz, hm, lz2, f1, fun H28 s28 => ⟨true, rfl, iteF ⟨_, rfl, s.trans (s2627.trans s28)⟩⟩⟩
    rintro σ H13 ⟨y, rfl, s⟩
    have s1213 := s13.trans s
    have la13 := la12.same s1213
    have s813 := s812.trans s1213
    have hg13 := s1213 _ _ hg12
    have hl13 := s1213 _ _ hl12
    clear s s13 s1213 nq3 hx htw roww lz p1 hg1
    -- what is no lot
    refine ⟨_, rfl, _, rfl, (by show 1 ≤ sizeLine; decide), fun tm ntm => ?_⟩
    have s14 := same_upd (o := .tup [V.int (m : Int)]) ntm
    refine cat_any (s14 _ _ hl13) upd_same (by rw [List.length_map]; show ls.length + 1 ≤ sizeLine; exact Nat.le_of_lt (small1000 (by omega))) fun H16 b1 s16 hb1 => ?_
    refine ⟨1, rfl, (by show 1 ≤ sizeLine; decide), fun tn ntn => ?_⟩
    have s17 := same_upd (o := .tup [V.int (-1)]) ntn
    have s1317 := (s14.trans s16).trans s17
    refine ⟨_, rfl, cat_any upd_same (s1317 _ _ hl13) (by rw [List.length_map]; show 1 + ls.length ≤ sizeLine; exact Nat.le_of_lt (small1000 (by omega))) fun H18 b2 s18 hb2 => ?_⟩
    refine ⟨(by show 2 ≤ sizeLine; decide), fun b3 nb3 => ?_⟩
    refine ⟨(by show 2 ≤ sizeLine; decide), fun b4 nb4 => ?_⟩
    refine ⟨(by show 4 ≤ sizeLine; decide), fun q4 nq4 => ?_⟩
    have s19 := same_upd (o := .tup [V.int 0, V.int 0]) nb3
    have s20 := same_upd (o := .tup [V.int 1, V.int 0]) nb4
    have s21 := same_upd (o := .lst [V.ref b1, V.ref b2, V.ref b3, V.ref b4]) nq4
    have hq4 : upd (upd (upd H18 b3 (.tup [V.int 0, V.int 0])) b4 (.tup [V.int 1, V.int 0])) q4 (.lst [V.ref b1, V.ref b2, V.ref b3, V.ref b4]) q4 = some (.lst ([V.ref b1, V.ref b2, V.ref b3, V.ref b4])) := upd_same
    have s1821 := (s19.trans s20).trans s21
    have s1321 := (s1317.trans s18).trans s1821
    have k1 := s1821 _ _ (s18 _ _ (s17 _ _ hb1))
    have k2 := s1821 _ _ hb2
    have k3 := s21 _ _ (s20 _ _ (upd_same (H := H18) (a := b3) (o := .tup [V.int 0, V.int 0])))
    have k4 := s21 _ _ (upd_same (H := upd H18 b3 (.tup [V.int 0, V.int 0])) (a := b4) (o := .tup [V.int 1, V.int 0]))
    generalize upd (upd (upd H18 b3 (.tup [V.int 0, V.int 0])) b4 (.tup [V.int 1, V.int 0])) q4 (.lst [V.ref b1, V.ref b2, V.ref b3, V.ref b4]) = H21 at s1321 k1 k2 k3 k4 hq4 ⊢
    have la21 := la13.same s1321
    refine ⟨q4, rfl, ⟨_, lst_l hq4⟩, for_list (K := K) (a := q4) (xs := [V.ref b1, V.ref b2, V.ref b3, V.ref b4]) (fun i σ H2 => ∃ (y2 : Option V), σ = [some (.ref a), some (.ref d1), some (.int (m : Int)), some (.ref B), some (.ref P), some (.ref l), some (.ref o), some (.ref g), some (.ref r), some (.ref z), y, y2, none, none, none] ∧ H2 = H21) ⟨none, rfl, rfl⟩ (fun i σ H2 _ ⟨_, _, e⟩ => e ▸ lst_l hq4) ?_ ?_⟩
    · rintro i x σ H2 hi ⟨y2, rfl, rfl⟩
      obtain ⟨u, zs, rfl, hu, bad, lz2⟩ : ∃ (u : Addr) (zs : List Int), V.ref u = x ∧ H2 u = some (.tup (zs.map V.int)) ∧ lotB zs (-1) (m : Int) = false ∧ zs.length ≤ 1000 := by
        have hx := List.mem_of_getElem? hi
        rcases List.mem_cons.mp hx with rfl | hx
        · refine ⟨b1, ls ++ [(m : Int)], rfl, by rw [List.map_append]; exact k1, lotB_no fun e => ?_, by rw [List.length_append]; show ls.length + 1 ≤ 1000; omega⟩
          have := lotB_in e (m : Int) (List.mem_append_right _ List.mem_cons_self)
          omega
        rcases List.mem_cons.mp hx with rfl | hx
        · refine ⟨b2, -1 :: ls, rfl, k2, lotB_no fun e => ?_, by rw [List.length_cons]; omega⟩
          have := lotB_in e (-1) List.mem_cons_self
          omega
        rcases List.mem_cons.mp hx with rfl | hx
        · exact ⟨b3, [0, 0], rfl, k3, lotB_no fun e => absurd (lotB_pw e) (by decide), by show 2 ≤ 1000; decide⟩
        · rw [List.mem_singleton.mp hx]
          exact ⟨b4, [1, 0], rfl, k4, lotB_no fun e => absurd (lotB_pw e) (by decide), by show 2 ≤ 1000; decide⟩
      exact ⟨_, rfl, _, rfl, r, u, pw, zs, m, rfl, la21, hu, bad, hm, lz2, fine, true, rfl, iteF ⟨_, rfl, rfl⟩⟩
    rintro σ H2 ⟨y2, rfl, rfl⟩
    have s821 := s813.trans s1321
    have hg21 := s1321 _ _ hg13
    -- the list handed in is changed
    refine ⟨_, rfl, .inl ⟨rfl, _, lst_l hg21⟩, ?_⟩
    refine ⟨(by show 0 ≤ sizeLine; decide), fun e1 ne1 => ?_⟩
    refine ⟨(by show 2 ≤ sizeLine; decide), fun v1 nv1 => ?_⟩
    have sa := (same_upd (o := .tup []) ne1).trans (same_upd (o := .tup [V.int 7, V.ref e1]) nv1)
    have hga := sa _ _ hg21
    have laa := la21.same sa
    have s8a := s821.trans sa
    generalize upd (upd H2 e1 (.tup [])) v1 (.tup [V.int 7, V.ref e1]) = Ha at hga laa s8a ⊢
    refine ⟨g, _, _, rfl, rfl, hga, by rw [List.length_map]; exact small1000 (by omega), ?_⟩
    have lab := laa.put (o := .lst (us.map V.ref ++ [V.ref v1])) hga
    have s8b := same_mut (o := .lst (us.map V.ref ++ [V.ref v1])) s8a ng
    have hgb : upd Ha g (.lst (us.map V.ref ++ [V.ref v1])) g = some (.lst (us.map V.ref ++ [V.ref v1])) := upd_same
    generalize upd Ha g (.lst (us.map V.ref ++ [V.ref v1])) = Hb at lab s8b hgb ⊢
    refine ⟨(by show 0 ≤ sizeLine; decide), fun e2 ne2 => ?_⟩
    refine ⟨(by show 2 ≤ sizeLine; decide), fun v2 nv2 => ?_⟩
    have sc := (same_upd (o := .tup []) ne2).trans (same_upd (o := .tup [V.int 3, V.ref e2]) nv2)
    have hgc := sc _ _ hgb
    have lac := lab.same sc
    have s8c := s8b.trans sc
    generalize upd (upd Hb e2 (.tup [])) v2 (.tup [V.int 3, V.ref e2]) = Hc at hgc lac s8c ⊢
    refine ⟨_, rfl, g, _, _, 0, rfl, rfl, hgc, ?_, ?_⟩
    · unfold ixN
      rw [if_pos (by decide), if_pos (by rw [List.length_append]; show (0 : Int) < _; simp)]
      rfl
    have lad := lac.put (o := .lst ((us.map V.ref ++ [V.ref v1]).set 0 (V.ref v2))) hgc
    have s8d := same_mut (o := .lst ((us.map V.ref ++ [V.ref v1]).set 0 (V.ref v2))) s8c ng
    generalize upd Hc g (.lst ((us.map V.ref ++ [V.ref v1]).set 0 (V.ref v2))) = Hd at lad s8d ⊢
    -- so is a list given out
    obtain ⟨dx3, tw3, vs3, hx3, htw3, roww3⟩ := id lad
    refine ⟨_, rfl, r, dx3, _, rfl, hx3, fL_shares _ _, _, rfl, r, l, pw, ls, m, rfl, lad, s8d _ _ hl8, hm, by omega, fine, fun z => (by rw [ok] at z; cases z), fun _ He L1 rs1 se nL hL lrs hrs => ?_⟩
    refine ⟨_, rfl, .inl ⟨rfl, _, lst_l hL⟩, L1, _, _, rfl, rfl, hL, by rw [List.length_map]; exact small1000 (by omega), ?_⟩
    refine ⟨_, rfl, L1, _, _, 0, rfl, rfl, upd_same, ?_, ?_⟩
    · unfold ixN
      rw [if_pos (by decide), if_pos (by rw [List.length_append]; show (0 : Int) < _; simp)]
      rfl
    have sf : Same Hd _ := same_mut (same_mut (o := HO.lst (rs1.map V.ref ++ [V.int 0])) se nL) (o := HO.lst ((rs1.map V.ref ++ [V.int 0]).set 0 (V.int 0))) nL
    have laf := lad.same sf
    have s8f := s8d.trans sf
    generalize upd (upd He L1 (HO.lst (rs1.map V.ref ++ [V.int 0]))) L1 (HO.lst ((rs1.map V.ref ++ [V.int 0]).set 0 (V.int 0))) = Hf at laf s8f ⊢
    obtain ⟨dx4, tw4, vs4, hx4, htw4, roww4⟩ := id laf
    refine ⟨_, rfl, r, C_Listed, dx4, _, _, rfl, hx4, T.cl_Listed, T.n_Listed_wishes, fL_wishes _ _, _, rfl, tw4, P, vs4, us, pw, rfl, htw4, roww4, s8f _ _ hP8, row8.same s8f, by omega, fine.n, true, rfl, iteT ?_⟩
    exact ⟨_, rfl, _, rfl, _, rfl, _, rfl, r, P, l, us, pw, ls, m, rfl, laf, s8f _ _ hP8, row8.same s8f, s8f _ _ hl8, ok, hm, by omega, fine, fun Hg sg => q _⟩
end
/-! ### what the top has written; the law's own head -/
theorem all_mk {l : PySem.W.OpenLaw} {w : World} {K : PySem.W.Frag} {h : Heap} {mg : Str → Option Value} {fa f1 f2 f3 f4 f5 f6 f7 f8 f9 f10 f11 f12 f13 f14 f15 f16 f17 f18 f19 f20 f21 f22 f23 f24 f25 f26 f27 f28 f29 f30 f31 f32 f33 C_Listed C_Ratio C_BadNumber C_TooMany C_BadWish C_NoBuyers C_ZeroBottom C_BadLot fx_rf_Ratio_add fx_of_Ratio_add fx_rf_Ratio_sub fx_of_Ratio_sub : Addr} (X : K.In h) (G : h.Ns mainGlobals mg) (hfa : mg "law" = some (.ref fa))
    {od1 an1 od2 an2 od3 an3 od4 an4 od5 an5 od6 an6 od7 an7 od8 an8 od9 an9 od10 an10 od11 an11 od12 an12 od13 an13 od14 an14 od15 an15 od16 an16 od17 an17 od18 an18 od19 an19 od20 an20 od21 an21 od22 an22 od23 an23 od24 an24 od25 an25 od26 an26 od27 an27 od28 an28 od29 an29 od30 an30 od31 an31 od32 an32 od33 an33 : Option Addr} {sl1 sl2 sl3 sl4 sl5 sl6 sl7 sl8 sl9 sl10 sl11 sl12 sl13 sl14 sl15 sl16 sl17 sl18 sl19 sl20 sl21 sl22 sl23 sl24 sl25 sl26 sl27 sl28 sl29 sl30 sl31 sl32 sl33 : Array (Option Value)} {oc1 kV1 dc1 pm1 cd1 ct1 oc2 kV2 dc2 pm2 cd2 ct2 oc3 kV3 dc3 pm3 cd3 ct3 oc4 kV4 dc4 pm4 cd4 ct4 oc5 kV5 dc5 pm5 cd5 ct5 oc6 kV6 dc6 pm6 cd6 ct6 oc7 kV7 dc7 pm7 cd7 ct7 oc8 kV8 dc8 pm8 cd8 ct8 oc9 kV9 dc9 pm9 ct9 oc10 kV10 dc10 pm10 cd10 ct10 oc11 kV11 dc11 pm11 cd11 ct11 oc12 kV12 dc12 pm12 cd12 ct12 oc13 kV13 dc13 pm13 cd13 ct13 oc14 kV14 dc14 pm14 cd14 ct14 oc15 kV15 dc15 pm15 cd15 ct15 oc16 kV16 dc16 pm16 cd16 ct16 oc17 kV17 dc17 pm17 cd17 ct17 oc18 kV18 dc18 pm18 cd18 ct18 oc19 kV19 dc19 pm19 cd19 ct19 oc20 kV20 dc20 pm20 cd20 ct20 oc21 kV21 dc21 pm21 cd21 ct21 oc22 kV22 dc22 pm22 cd22 ct22 oc23 kV23 dc23 pm23 cd23 ct23 oc24 kV24 dc24 pm24 cd24 ct24 oc25 kV25 dc25 pm25 cd25 ct25 oc26 kV26 dc26 pm26 cd26 ct26 oc27 kV27 dc27 pm27 cd27 ct27 oc28 kV28 dc28 pm28 cd28 ct28 oc29 kV29 dc29 pm29 cd29 ct29 oc30 kV30 dc30 pm30 cd30 ct30 oc31 kV31 dc31 pm31 cd31 ct31 oc32 kV32 dc32 pm32 cd32 ct32 oc33 kV33 dc33 pm33 cd33 ct33 : Value} {tk_MOST_THINGS : Tok} {cc9 cda9 : Addr} {cl9 ccl9 : Value} {cld9 cdd9 : Option Addr} {csl9 ccs9 : Array (Option Value)} {vs9 : Array Value} {fi9 : Str} {tf9 : Tok} {cdW9 : ClassData} {tT10 : Addr} {oT10 : Value} {dT10 : Option Addr} {nT10 : Nat} {sT10 : Array (Option Value)} {tq10_0 : Tok}
    (a_Listed : PySem.W.nsIn K mainGlobals "Listed" = some (some (.ref C_Listed)))
    (kc_Listed : PySem.W.keepIn K (.ref C_Listed) = true)
    (hd_Listed : PySem.W.hasDictIn K C_Listed = true)
    (ha_Listed : PySem.W.findIn K (.ref C_Listed) "__class__" = some (some (.builtin "object.__class__")))
    (hm_Listed : PySem.W.mroIn K C_Listed (.type "object") = some true)
    (pg_Listed : PySem.W.plainGet K C_Listed Str.empty = true)
    (po_Listed : PySem.W.plainOver K C_Listed = true)
    (sa_Listed : PySem.W.findIn K (.ref C_Listed) "__setattr__" = some (some (.builtin "object.__setattr__")))
    (mk_Listed : PySem.W.makesIn K C_Listed = true)
    (n_Listed_many : PySem.W.findIn K (.ref C_Listed) "many" = some none)
    (n_Listed_wishes : PySem.W.findIn K (.ref C_Listed) "wishes" = some none)
    (a_Ratio : PySem.W.nsIn K mainGlobals "Ratio" = some (some (.ref C_Ratio)))
    (kc_Ratio : PySem.W.keepIn K (.ref C_Ratio) = true)
    (hd_Ratio : PySem.W.hasDictIn K C_Ratio = true)
    (ha_Ratio : PySem.W.findIn K (.ref C_Ratio) "__class__" = some (some (.builtin "object.__class__")))
    (hm_Ratio : PySem.W.mroIn K C_Ratio (.type "object") = some true)
    (pg_Ratio : PySem.W.plainGet K C_Ratio Str.empty = true)
    (po_Ratio : PySem.W.plainOver K C_Ratio = true)
    (sa_Ratio : PySem.W.findIn K (.ref C_Ratio) "__setattr__" = some (some (.builtin "object.__setattr__")))
    (mk_Ratio : PySem.W.makesIn K C_Ratio = true)
    (n_Ratio_top : PySem.W.findIn K (.ref C_Ratio) "top" = some none)
    (n_Ratio_bottom : PySem.W.findIn K (.ref C_Ratio) "bottom" = some none)
    (ss_Ratio : PySem.W.subIn K (.ref C_Ratio) (.type "str") = some false)
    (sb_Ratio : PySem.W.subIn K (.ref C_Ratio) (.type "bytes") = some false)
    (sy_Ratio : PySem.W.subIn K (.ref C_Ratio) (.type "bytearray") = some false)
    (sf_Ratio : PySem.W.selfFirst K C_Ratio = true)
    (si_Ratio : PySem.W.subIn K (.type "int") (.ref C_Ratio) = some false)
    (sr_Ratio : PySem.W.subIn K (.ref C_Ratio) (.type "int") = some false)
    (rf_Ratio_add : PySem.W.findIn K (.ref C_Ratio) "__radd__" = some (some (.ref fx_rf_Ratio_add)))
    (of_Ratio_add : PySem.W.findIn K (.ref C_Ratio) "__add__" = some (some (.ref fx_of_Ratio_add)))
    (inta_add : PySem.W.findIn K (.type "int") "__add__" = some (some (.builtin "int.__add__")))
    (intr_add : PySem.W.findIn K (.type "int") "__radd__" = some (some (.builtin "int.__radd__")))
    (rf_Ratio_sub : PySem.W.findIn K (.ref C_Ratio) "__rsub__" = some (some (.ref fx_rf_Ratio_sub)))
    (of_Ratio_sub : PySem.W.findIn K (.ref C_Ratio) "__sub__" = some (some (.ref fx_of_Ratio_sub)))
    (inta_sub : PySem.W.findIn K (.type "int") "__sub__" = some (some (.builtin "int.__sub__")))
    (intr_sub : PySem.W.findIn K (.type "int") "__rsub__" = some (some (.builtin "int.__rsub__")))
    (a_BadNumber : PySem.W.nsIn K mainGlobals "BadNumber" = some (some (.ref C_BadNumber)))
    (kc_BadNumber : PySem.W.keepIn K (.ref C_BadNumber) = true)
    (hd_BadNumber : PySem.W.hasDictIn K C_BadNumber = true)
    (ha_BadNumber : PySem.W.findIn K (.ref C_BadNumber) "__class__" = some (some (.builtin "object.__class__")))
    (hm_BadNumber : PySem.W.mroIn K C_BadNumber (.type "object") = some true)
    (b_BadNumber : PySem.W.subIn K (.ref C_BadNumber) (.type "BaseException") = some true)
    (t_BadNumber : PySem.W.typeIn K (.ref C_BadNumber) = some (.type "type"))
    (ga_BadNumber : PySem.W.findIn K (.ref C_BadNumber) "__getattribute__" = some (some (.builtin "BaseException.__getattribute__")))
    (gg_BadNumber : PySem.W.findIn K (.ref C_BadNumber) "__getattr__" = some none)
    (ol_BadNumber : K.lookup C_BadNumber = some (excClassObj nm_BadNumber q_BadNumber C_BadNumber N_BadNumber bs_BadNumber bm_BadNumber true sn_BadNumber sub_BadNumber ab_BadNumber col_BadNumber dd_BadNumber k0_BadNumber k1_BadNumber k2_BadNumber k3_BadNumber k5_BadNumber "ValueError.__new__"))
    (or_BadNumber : PySem.HandSPX.refsVE bm_BadNumber = true)
    (sa_BadNumber : PySem.W.findIn K (.ref C_BadNumber) "__setattr__" = some (some (.builtin "object.__setattr__")))
    (n_BadNumber_what : PySem.W.findIn K (.ref C_BadNumber) "what" = some none)
    (n_BadNumber_at : PySem.W.findIn K (.ref C_BadNumber) "at" = some none)
    (a_TooMany : PySem.W.nsIn K mainGlobals "TooMany" = some (some (.ref C_TooMany)))
    (kc_TooMany : PySem.W.keepIn K (.ref C_TooMany) = true)
    (hd_TooMany : PySem.W.hasDictIn K C_TooMany = true)
    (ha_TooMany : PySem.W.findIn K (.ref C_TooMany) "__class__" = some (some (.builtin "object.__class__")))
    (hm_TooMany : PySem.W.mroIn K C_TooMany (.type "object") = some true)
    (b_TooMany : PySem.W.subIn K (.ref C_TooMany) (.type "BaseException") = some true)
    (t_TooMany : PySem.W.typeIn K (.ref C_TooMany) = some (.type "type"))
    (ga_TooMany : PySem.W.findIn K (.ref C_TooMany) "__getattribute__" = some (some (.builtin "BaseException.__getattribute__")))
    (gg_TooMany : PySem.W.findIn K (.ref C_TooMany) "__getattr__" = some none)
    (ol_TooMany : K.lookup C_TooMany = some (excClassObj nm_TooMany q_TooMany C_TooMany N_TooMany bs_TooMany bm_TooMany true sn_TooMany sub_TooMany ab_TooMany col_TooMany dd_TooMany k0_TooMany k1_TooMany k2_TooMany k3_TooMany k5_TooMany "ValueError.__new__"))
    (or_TooMany : PySem.HandSPX.refsVE bm_TooMany = true)
    (sa_TooMany : PySem.W.findIn K (.ref C_TooMany) "__setattr__" = some (some (.builtin "object.__setattr__")))
    (n_TooMany_many : PySem.W.findIn K (.ref C_TooMany) "many" = some none)
    (n_TooMany_most : PySem.W.findIn K (.ref C_TooMany) "most" = some none)
    (a_BadWish : PySem.W.nsIn K mainGlobals "BadWish" = some (some (.ref C_BadWish)))
    (kc_BadWish : PySem.W.keepIn K (.ref C_BadWish) = true)
    (hd_BadWish : PySem.W.hasDictIn K C_BadWish = true)
    (ha_BadWish : PySem.W.findIn K (.ref C_BadWish) "__class__" = some (some (.builtin "object.__class__")))
    (hm_BadWish : PySem.W.mroIn K C_BadWish (.type "object") = some true)
    (b_BadWish : PySem.W.subIn K (.ref C_BadWish) (.type "BaseException") = some true)
    (t_BadWish : PySem.W.typeIn K (.ref C_BadWish) = some (.type "type"))
    (ga_BadWish : PySem.W.findIn K (.ref C_BadWish) "__getattribute__" = some (some (.builtin "BaseException.__getattribute__")))
    (gg_BadWish : PySem.W.findIn K (.ref C_BadWish) "__getattr__" = some none)
    (ol_BadWish : K.lookup C_BadWish = some (excClassObj nm_BadWish q_BadWish C_BadWish N_BadWish bs_BadWish bm_BadWish true sn_BadWish sub_BadWish ab_BadWish col_BadWish dd_BadWish k0_BadWish k1_BadWish k2_BadWish k3_BadWish k5_BadWish "ValueError.__new__"))
    (or_BadWish : PySem.HandSPX.refsVE bm_BadWish = true)
    (sa_BadWish : PySem.W.findIn K (.ref C_BadWish) "__setattr__" = some (some (.builtin "object.__setattr__")))
    (n_BadWish_at : PySem.W.findIn K (.ref C_BadWish) "at" = some none)
    (a_NoBuyers : PySem.W.nsIn K mainGlobals "NoBuyers" = some (some (.ref C_NoBuyers)))
    (kc_NoBuyers : PySem.W.keepIn K (.ref C_NoBuyers) = true)
    (hd_NoBuyers : PySem.W.hasDictIn K C_NoBuyers = true)
    (ha_NoBuyers : PySem.W.findIn K (.ref C_NoBuyers) "__class__" = some (some (.builtin "object.__class__")))
    (hm_NoBuyers : PySem.W.mroIn K C_NoBuyers (.type "object") = some true)
    (b_NoBuyers : PySem.W.subIn K (.ref C_NoBuyers) (.type "BaseException") = some true)
    (t_NoBuyers : PySem.W.typeIn K (.ref C_NoBuyers) = some (.type "type"))
    (ga_NoBuyers : PySem.W.findIn K (.ref C_NoBuyers) "__getattribute__" = some (some (.builtin "BaseException.__getattribute__")))
    (gg_NoBuyers : PySem.W.findIn K (.ref C_NoBuyers) "__getattr__" = some none)
    (x_NoBuyers : PySem.W.excIn K C_NoBuyers [.type "ValueError", .type "Exception", .type "BaseException", .type "object"] "ValueError.__new__" = true)
    (a_ZeroBottom : PySem.W.nsIn K mainGlobals "ZeroBottom" = some (some (.ref C_ZeroBottom)))
    (kc_ZeroBottom : PySem.W.keepIn K (.ref C_ZeroBottom) = true)
    (hd_ZeroBottom : PySem.W.hasDictIn K C_ZeroBottom = true)
    (ha_ZeroBottom : PySem.W.findIn K (.ref C_ZeroBottom) "__class__" = some (some (.builtin "object.__class__")))
    (hm_ZeroBottom : PySem.W.mroIn K C_ZeroBottom (.type "object") = some true)
    (b_ZeroBottom : PySem.W.subIn K (.ref C_ZeroBottom) (.type "BaseException") = some true)
    (t_ZeroBottom : PySem.W.typeIn K (.ref C_ZeroBottom) = some (.type "type"))
    (ga_ZeroBottom : PySem.W.findIn K (.ref C_ZeroBottom) "__getattribute__" = some (some (.builtin "BaseException.__getattribute__")))
    (gg_ZeroBottom : PySem.W.findIn K (.ref C_ZeroBottom) "__getattr__" = some none)
    (x_ZeroBottom : PySem.W.excIn K C_ZeroBottom [.type "ValueError", .type "Exception", .type "BaseException", .type "object"] "ValueError.__new__" = true)
    (a_BadLot : PySem.W.nsIn K mainGlobals "BadLot" = some (some (.ref C_BadLot)))
    (kc_BadLot : PySem.W.keepIn K (.ref C_BadLot) = true)
    (hd_BadLot : PySem.W.hasDictIn K C_BadLot = true)
    (ha_BadLot : PySem.W.findIn K (.ref C_BadLot) "__class__" = some (some (.builtin "object.__class__")))
    (hm_BadLot : PySem.W.mroIn K C_BadLot (.type "object") = some true)
    (b_BadLot : PySem.W.subIn K (.ref C_BadLot) (.type "BaseException") = some true)
    (t_BadLot : PySem.W.typeIn K (.ref C_BadLot) = some (.type "type"))
    (ga_BadLot : PySem.W.findIn K (.ref C_BadLot) "__getattribute__" = some (some (.builtin "BaseException.__getattribute__")))
    (gg_BadLot : PySem.W.findIn K (.ref C_BadLot) "__getattr__" = some none)
    (x_BadLot : PySem.W.excIn K C_BadLot [.type "ValueError", .type "Exception", .type "BaseException", .type "object"] "ValueError.__new__" = true)
    (hnc : PySem.W.specialIn K (.builtin "object.__class__") "__get__" = some (some (.builtin "getset_descriptor.__get__")))
    (htk : PySem.W.takesIn K (.builtin "object.__class__") = some true)
    (sub_BadLot_BadLot : PySem.W.subIn K (.ref C_BadLot) (.ref C_BadLot) = some true)
    (kit_Ratio_Ratio : PySem.W.kitOne K (.ref C_Ratio) (.ref C_Ratio) = some true)
    (kit_int_Ratio : PySem.W.kitOne K (.type "int") (.ref C_Ratio) = some false)
    (a_gcd : PySem.W.nsIn K mainGlobals "gcd" = some (some (.builtin "math.gcd")))
    (a_MOST_THINGS : PySem.W.nsIn K mainGlobals "MOST_THINGS" = some (some (.int 24 tk_MOST_THINGS)))
    (a1 : PySem.W.findIn K (.ref C_BadNumber) "__init__" = some (some (.ref f1))) (i1 : PySem.W.isFn K (.ref f1) = true)
    (l1 : K.lookup f1 = some ⟨oc1, od1, .func (PySem.W.fnOf "__init__" "BadNumber.__init__" (defArgs s_BadNumber___init__) (defBody s_BadNumber___init__) (defScope s_BadNumber___init__) .none kV1 dc1 pm1 an1 cd1 ct1), sl1⟩)
    (c1 : PySem.W.codeIn K cd1 "BadNumber.__init__" = true) (k1 : PySem.W.keepIn K (.ref f1) = true)
    (a2 : PySem.W.findIn K (.ref C_TooMany) "__init__" = some (some (.ref f2))) (i2 : PySem.W.isFn K (.ref f2) = true)
    (l2 : K.lookup f2 = some ⟨oc2, od2, .func (PySem.W.fnOf "__init__" "TooMany.__init__" (defArgs s_TooMany___init__) (defBody s_TooMany___init__) (defScope s_TooMany___init__) .none kV2 dc2 pm2 an2 cd2 ct2), sl2⟩)
    (c2 : PySem.W.codeIn K cd2 "TooMany.__init__" = true) (k2 : PySem.W.keepIn K (.ref f2) = true)
    (a3 : PySem.W.findIn K (.ref C_BadWish) "__init__" = some (some (.ref f3))) (i3 : PySem.W.isFn K (.ref f3) = true)
    (l3 : K.lookup f3 = some ⟨oc3, od3, .func (PySem.W.fnOf "__init__" "BadWish.__init__" (defArgs s_BadWish___init__) (defBody s_BadWish___init__) (defScope s_BadWish___init__) .none kV3 dc3 pm3 an3 cd3 ct3), sl3⟩)
    (c3 : PySem.W.codeIn K cd3 "BadWish.__init__" = true) (k3 : PySem.W.keepIn K (.ref f3) = true)
    (a4 : PySem.W.nsIn K mainGlobals "check_many" = some (some (.ref f4)))
    (l4 : K.lookup f4 = some ⟨oc4, od4, .func (PySem.W.fnOf "check_many" "check_many" (defArgs s_check_many) (defBody s_check_many) (defScope s_check_many) .none kV4 dc4 pm4 an4 cd4 ct4), sl4⟩)
    (c4 : PySem.W.codeIn K cd4 "check_many" = true) (k4 : PySem.W.keepIn K (.ref f4) = true)
    (sg5 : PySem.W.ks_superIn K C_Listed C_Listed "__init__" = some (some (.ref f5)))
    (l5 : K.lookup f5 = some ⟨oc5, od5, .func (PySem.W.fnOf "__init__" "Rule.__init__" (defArgs s_Rule___init__) (defBody s_Rule___init__) (defScope s_Rule___init__) .none kV5 dc5 pm5 an5 cd5 ct5), sl5⟩)
    (c5 : PySem.W.codeIn K cd5 "Rule.__init__" = true) (k5 : PySem.W.keepIn K (.ref f5) = true)
    (a6 : PySem.W.nsIn K mainGlobals "check_lot" = some (some (.ref f6)))
    (l6 : K.lookup f6 = some ⟨oc6, od6, .func (PySem.W.fnOf "check_lot" "check_lot" (defArgs s_check_lot) (defBody s_check_lot) (defScope s_check_lot) .none kV6 dc6 pm6 an6 cd6 ct6), sl6⟩)
    (c6 : PySem.W.codeIn K cd6 "check_lot" = true) (k6 : PySem.W.keepIn K (.ref f6) = true)
    (a7 : PySem.W.nsIn K mainGlobals "_can_be_wished" = some (some (.ref f7)))
    (l7 : K.lookup f7 = some ⟨oc7, od7, .func (PySem.W.fnOf "_can_be_wished" "_can_be_wished" (defArgs s__can_be_wished) (defBody s__can_be_wished) (defScope s__can_be_wished) .none kV7 dc7 pm7 an7 cd7 ct7), sl7⟩)
    (c7 : PySem.W.codeIn K cd7 "_can_be_wished" = true) (k7 : PySem.W.keepIn K (.ref f7) = true)
    (a8 : PySem.W.nsIn K mainGlobals "_first_wish" = some (some (.ref f8)))
    (l8 : K.lookup f8 = some ⟨oc8, od8, .func (PySem.W.fnOf "_first_wish" "_first_wish" (defArgs s__first_wish) (defBody s__first_wish) (defScope s__first_wish) .none kV8 dc8 pm8 an8 cd8 ct8), sl8⟩)
    (c8 : PySem.W.codeIn K cd8 "_first_wish" = true) (k8 : PySem.W.keepIn K (.ref f8) = true)
    (sa9 : PySem.W.clsIn K C_Listed = some cdW9)
    (sb9 : PySem.W.mroIn K C_Listed (.ref C_Listed) = some true)
    (a9 : PySem.W.findIn K (.ref C_Listed) "__init__" = some (some (.ref f9))) (i9 : PySem.W.isFn K (.ref f9) = true)
    (l9 : K.lookup f9 = some ⟨oc9, od9, .func (PySem.W.ksFn "__init__" "Listed.__init__" (defArgs s_Listed___init__) (defBody s_Listed___init__) (defScope s_Listed___init__) .none kV9 dc9 pm9 an9 (.ref cda9) ct9 cc9), sl9⟩)
    (c9 : PySem.W.codeIn K (.ref cda9) "Listed.__init__" = true) (k9 : PySem.W.keepIn K (.ref f9) = true)
    (sc9 : K.lookup cc9 = some ⟨cl9, cld9, .cell (some (.ref C_Listed)), csl9⟩)
    (sd9 : K.lookup cda9 = some ⟨ccl9, cdd9, .fields vs9, ccs9⟩)
    (se9 : vs9[2]? = some (.str fi9 tf9))
    (sh9 : PySem.W.typeIn K (.ref f5) = some (.type "function"))
    (si9 : PySem.W.fnIn K f5 = true)
    (sj9 : PySem.W.nsIn K cStatics "thirdparty.any" = some none)
    (sk9 : PySem.W.nsIn K mainGlobals "super" = some none)
    (sl_9 : ((l.prog.main.file : Str) == fi9) = true)
    (sm9 : (l.prog.main.scope.names.lookup ("super" : Str)).isSome = false)
    (a10 : PySem.W.findIn K (.ref C_Ratio) "__init__" = some (some (.ref f10))) (i10 : PySem.W.isFn K (.ref f10) = true)
    (l10 : K.lookup f10 = some ⟨oc10, od10, .func (PySem.W.fnOf "__init__" "Ratio.__init__" (defArgs s_Ratio___init__) (defBody s_Ratio___init__) (defScope s_Ratio___init__) (.ref tT10) kV10 dc10 pm10 an10 cd10 ct10), sl10⟩)
    (lt10 : K.lookup tT10 = some ⟨oT10, dT10, .seq #[.int 1 tq10_0] nT10, sT10⟩)
    (c10 : PySem.W.codeIn K cd10 "Ratio.__init__" = true) (k10 : PySem.W.keepIn K (.ref f10) = true)
    (a11 : PySem.W.nsIn K mainGlobals "_as_ratio" = some (some (.ref f11)))
    (l11 : K.lookup f11 = some ⟨oc11, od11, .func (PySem.W.fnOf "_as_ratio" "_as_ratio" (defArgs s__as_ratio) (defBody s__as_ratio) (defScope s__as_ratio) .none kV11 dc11 pm11 an11 cd11 ct11), sl11⟩)
    (c11 : PySem.W.codeIn K cd11 "_as_ratio" = true) (k11 : PySem.W.keepIn K (.ref f11) = true)
    (a12 : PySem.W.findIn K (.ref C_Ratio) "__neg__" = some (some (.ref f12))) (i12 : PySem.W.isFn K (.ref f12) = true)
    (l12 : K.lookup f12 = some ⟨oc12, od12, .func (PySem.W.fnOf "__neg__" "Ratio.__neg__" (defArgs s_Ratio___neg__) (defBody s_Ratio___neg__) (defScope s_Ratio___neg__) .none kV12 dc12 pm12 an12 cd12 ct12), sl12⟩)
    (c12 : PySem.W.codeIn K cd12 "Ratio.__neg__" = true) (k12 : PySem.W.keepIn K (.ref f12) = true)
    (a13 : PySem.W.findIn K (.ref C_Ratio) "__add__" = some (some (.ref f13))) (i13 : PySem.W.isFn K (.ref f13) = true)
    (l13 : K.lookup f13 = some ⟨oc13, od13, .func (PySem.W.fnOf "__add__" "Ratio.__add__" (defArgs s_Ratio___add__) (defBody s_Ratio___add__) (defScope s_Ratio___add__) .none kV13 dc13 pm13 an13 cd13 ct13), sl13⟩)
    (c13 : PySem.W.codeIn K cd13 "Ratio.__add__" = true) (k13 : PySem.W.keepIn K (.ref f13) = true)
    (a14 : PySem.W.findIn K (.ref C_Ratio) "__rsub__" = some (some (.ref f14))) (i14 : PySem.W.isFn K (.ref f14) = true)
    (l14 : K.lookup f14 = some ⟨oc14, od14, .func (PySem.W.fnOf "__rsub__" "Ratio.__rsub__" (defArgs s_Ratio___rsub__) (defBody s_Ratio___rsub__) (defScope s_Ratio___rsub__) .none kV14 dc14 pm14 an14 cd14 ct14), sl14⟩)
    (c14 : PySem.W.codeIn K cd14 "Ratio.__rsub__" = true) (k14 : PySem.W.keepIn K (.ref f14) = true)
    (a15 : PySem.W.findIn K (.ref C_Listed) "shares" = some (some (.ref f15))) (i15 : PySem.W.isFn K (.ref f15) = true)
    (l15 : K.lookup f15 = some ⟨oc15, od15, .func (PySem.W.fnOf "shares" "Listed.shares" (defArgs s_Listed_shares) (defBody s_Listed_shares) (defScope s_Listed_shares) .none kV15 dc15 pm15 an15 cd15 ct15), sl15⟩)
    (c15 : PySem.W.codeIn K cd15 "Listed.shares" = true) (k15 : PySem.W.keepIn K (.ref f15) = true)
    (a16 : PySem.W.findIn K (.ref C_Listed) "away" = some (some (.ref f16))) (i16 : PySem.W.isFn K (.ref f16) = true)
    (l16 : K.lookup f16 = some ⟨oc16, od16, .func (PySem.W.fnOf "away" "Rule.away" (defArgs s_Rule_away) (defBody s_Rule_away) (defScope s_Rule_away) .none kV16 dc16 pm16 an16 cd16 ct16), sl16⟩)
    (c16 : PySem.W.codeIn K cd16 "Rule.away" = true) (k16 : PySem.W.keepIn K (.ref f16) = true)
    (a17 : PySem.W.nsIn K mainGlobals "_law_cell" = some (some (.ref f17)))
    (l17 : K.lookup f17 = some ⟨oc17, od17, .func (PySem.W.fnOf "_law_cell" "_law_cell" (defArgs s__law_cell) (defBody s__law_cell) (defScope s__law_cell) .none kV17 dc17 pm17 an17 cd17 ct17), sl17⟩)
    (c17 : PySem.W.codeIn K cd17 "_law_cell" = true) (k17 : PySem.W.keepIn K (.ref f17) = true)
    (a18 : PySem.W.nsIn K mainGlobals "_law_draws" = some (some (.ref f18)))
    (l18 : K.lookup f18 = some ⟨oc18, od18, .func (PySem.W.fnOf "_law_draws" "_law_draws" (defArgs s__law_draws) (defBody s__law_draws) (defScope s__law_draws) .none kV18 dc18 pm18 an18 cd18 ct18), sl18⟩)
    (c18 : PySem.W.codeIn K cd18 "_law_draws" = true) (k18 : PySem.W.keepIn K (.ref f18) = true)
    (a19 : PySem.W.nsIn K mainGlobals "_law_row" = some (some (.ref f19)))
    (l19 : K.lookup f19 = some ⟨oc19, od19, .func (PySem.W.fnOf "_law_row" "_law_row" (defArgs s__law_row) (defBody s__law_row) (defScope s__law_row) .none kV19 dc19 pm19 an19 cd19 ct19), sl19⟩)
    (c19 : PySem.W.codeIn K cd19 "_law_row" = true) (k19 : PySem.W.keepIn K (.ref f19) = true)
    (a20 : PySem.W.nsIn K mainGlobals "_law_ups" = some (some (.ref f20)))
    (l20 : K.lookup f20 = some ⟨oc20, od20, .func (PySem.W.fnOf "_law_ups" "_law_ups" (defArgs s__law_ups) (defBody s__law_ups) (defScope s__law_ups) .none kV20 dc20 pm20 an20 cd20 ct20), sl20⟩)
    (c20 : PySem.W.codeIn K cd20 "_law_ups" = true) (k20 : PySem.W.keepIn K (.ref f20) = true)
    (a21 : PySem.W.nsIn K mainGlobals "_law_lot" = some (some (.ref f21)))
    (l21 : K.lookup f21 = some ⟨oc21, od21, .func (PySem.W.fnOf "_law_lot" "_law_lot" (defArgs s__law_lot) (defBody s__law_lot) (defScope s__law_lot) .none kV21 dc21 pm21 an21 cd21 ct21), sl21⟩)
    (c21 : PySem.W.codeIn K cd21 "_law_lot" = true) (k21 : PySem.W.keepIn K (.ref f21) = true)
    (a22 : PySem.W.nsIn K mainGlobals "_law_shuffled" = some (some (.ref f22)))
    (l22 : K.lookup f22 = some ⟨oc22, od22, .func (PySem.W.fnOf "_law_shuffled" "_law_shuffled" (defArgs s__law_shuffled) (defBody s__law_shuffled) (defScope s__law_shuffled) .none kV22 dc22 pm22 an22 cd22 ct22), sl22⟩)
    (c22 : PySem.W.codeIn K cd22 "_law_shuffled" = true) (k22 : PySem.W.keepIn K (.ref f22) = true)
    (a23 : PySem.W.nsIn K mainGlobals "_law_is_int" = some (some (.ref f23)))
    (l23 : K.lookup f23 = some ⟨oc23, od23, .func (PySem.W.fnOf "_law_is_int" "_law_is_int" (defArgs s__law_is_int) (defBody s__law_is_int) (defScope s__law_is_int) .none kV23 dc23 pm23 an23 cd23 ct23), sl23⟩)
    (c23 : PySem.W.codeIn K cd23 "_law_is_int" = true) (k23 : PySem.W.keepIn K (.ref f23) = true)
    (a24 : PySem.W.nsIn K mainGlobals "_law_same" = some (some (.ref f24)))
    (l24 : K.lookup f24 = some ⟨oc24, od24, .func (PySem.W.fnOf "_law_same" "_law_same" (defArgs s__law_same) (defBody s__law_same) (defScope s__law_same) .none kV24 dc24 pm24 an24 cd24 ct24), sl24⟩)
    (c24 : PySem.W.codeIn K cd24 "_law_same" = true) (k24 : PySem.W.keepIn K (.ref f24) = true)
    (a25 : PySem.W.nsIn K mainGlobals "_law_same_lot" = some (some (.ref f25)))
    (l25 : K.lookup f25 = some ⟨oc25, od25, .func (PySem.W.fnOf "_law_same_lot" "_law_same_lot" (defArgs s__law_same_lot) (defBody s__law_same_lot) (defScope s__law_same_lot) .none kV25 dc25 pm25 an25 cd25 ct25), sl25⟩)
    (c25 : PySem.W.codeIn K cd25 "_law_same_lot" = true) (k25 : PySem.W.keepIn K (.ref f25) = true)
    (a26 : PySem.W.nsIn K mainGlobals "_law_same_row" = some (some (.ref f26)))
    (l26 : K.lookup f26 = some ⟨oc26, od26, .func (PySem.W.fnOf "_law_same_row" "_law_same_row" (defArgs s__law_same_row) (defBody s__law_same_row) (defScope s__law_same_row) .none kV26 dc26 pm26 an26 cd26 ct26), sl26⟩)
    (c26 : PySem.W.codeIn K cd26 "_law_same_row" = true) (k26 : PySem.W.keepIn K (.ref f26) = true)
    (a27 : PySem.W.nsIn K mainGlobals "_law_list" = some (some (.ref f27)))
    (l27 : K.lookup f27 = some ⟨oc27, od27, .func (PySem.W.fnOf "_law_list" "_law_list" (defArgs s__law_list) (defBody s__law_list) (defScope s__law_list) .none kV27 dc27 pm27 an27 cd27 ct27), sl27⟩)
    (c27 : PySem.W.codeIn K cd27 "_law_list" = true) (k27 : PySem.W.keepIn K (.ref f27) = true)
    (a28 : PySem.W.nsIn K mainGlobals "_law_shown" = some (some (.ref f28)))
    (l28 : K.lookup f28 = some ⟨oc28, od28, .func (PySem.W.fnOf "_law_shown" "_law_shown" (defArgs s__law_shown) (defBody s__law_shown) (defScope s__law_shown) .none kV28 dc28 pm28 an28 cd28 ct28), sl28⟩)
    (c28 : PySem.W.codeIn K cd28 "_law_shown" = true) (k28 : PySem.W.keepIn K (.ref f28) = true)
    (a29 : PySem.W.nsIn K mainGlobals "_law_takers" = some (some (.ref f29)))
    (l29 : K.lookup f29 = some ⟨oc29, od29, .func (PySem.W.fnOf "_law_takers" "_law_takers" (defArgs s__law_takers) (defBody s__law_takers) (defScope s__law_takers) .none kV29 dc29 pm29 an29 cd29 ct29), sl29⟩)
    (c29 : PySem.W.codeIn K cd29 "_law_takers" = true) (k29 : PySem.W.keepIn K (.ref f29) = true)
    (a30 : PySem.W.nsIn K mainGlobals "_law_good" = some (some (.ref f30)))
    (l30 : K.lookup f30 = some ⟨oc30, od30, .func (PySem.W.fnOf "_law_good" "_law_good" (defArgs s__law_good) (defBody s__law_good) (defScope s__law_good) .none kV30 dc30 pm30 an30 cd30 ct30), sl30⟩)
    (c30 : PySem.W.codeIn K cd30 "_law_good" = true) (k30 : PySem.W.keepIn K (.ref f30) = true)
    (a31 : PySem.W.nsIn K mainGlobals "_law_refuses" = some (some (.ref f31)))
    (l31 : K.lookup f31 = some ⟨oc31, od31, .func (PySem.W.fnOf "_law_refuses" "_law_refuses" (defArgs s__law_refuses) (defBody s__law_refuses) (defScope s__law_refuses) .none kV31 dc31 pm31 an31 cd31 ct31), sl31⟩)
    (c31 : PySem.W.codeIn K cd31 "_law_refuses" = true) (k31 : PySem.W.keepIn K (.ref f31) = true)
    (a32 : PySem.W.nsIn K mainGlobals "_law_kept" = some (some (.ref f32)))
    (l32 : K.lookup f32 = some ⟨oc32, od32, .func (PySem.W.fnOf "_law_kept" "_law_kept" (defArgs s__law_kept) (defBody s__law_kept) (defScope s__law_kept) .none kV32 dc32 pm32 an32 cd32 ct32), sl32⟩)
    (c32 : PySem.W.codeIn K cd32 "_law_kept" = true) (k32 : PySem.W.keepIn K (.ref f32) = true)
    (a33 : PySem.W.nsIn K mainGlobals "law" = some (some (.ref f33)))
    (l33 : K.lookup f33 = some ⟨oc33, od33, .func (PySem.W.fnOf "law" "law" (defArgs s_law) (defBody s_law) (defScope s_law) .none kV33 dc33 pm33 an33 cd33 ct33), sl33⟩)
    (c33 : PySem.W.codeIn K cd33 "law" = true) (k33 : PySem.W.keepIn K (.ref f33) = true)
    (z_all : PySem.W.nsIn K mainGlobals "all" = some none)
    (z_any : PySem.W.nsIn K mainGlobals "any" = some none)
    (z_bool : PySem.W.nsIn K mainGlobals "bool" = some none)
    (z_enumerate : PySem.W.nsIn K mainGlobals "enumerate" = some none)
    (z_int : PySem.W.nsIn K mainGlobals "int" = some none)
    (z_isinstance : PySem.W.nsIn K mainGlobals "isinstance" = some none)
    (z_len : PySem.W.nsIn K mainGlobals "len" = some none)
    (z_list : PySem.W.nsIn K mainGlobals "list" = some none)
    (z_range : PySem.W.nsIn K mainGlobals "range" = some none)
    (z_set : PySem.W.nsIn K mainGlobals "set" = some none)
    (z_sum : PySem.W.nsIn K mainGlobals "sum" = some none)
    (z_tuple : PySem.W.nsIn K mainGlobals "tuple" = some none) :
    ∃ fd : FuncData, (∀ (s : Shared) (v : Value), BindsTo s fd ⟨[v], []⟩ [("_law_script", v)]) ∧ ∀ base : Heap, K.In base → base.Ns mainGlobals mg → FnOk l.prog w K mg base CX0 8 fa fd ["_law_script"] (sp_law K) := by
  have e := hfa.symm.trans (PySem.W.mg_of X G a33)
  cases e
  have m_all := PySem.W.mg_none_of X G z_all
  have m_any := PySem.W.mg_none_of X G z_any
  have m_bool := PySem.W.mg_none_of X G z_bool
  have m_enumerate := PySem.W.mg_none_of X G z_enumerate
  have m_int := PySem.W.mg_none_of X G z_int
  have m_isinstance := PySem.W.mg_none_of X G z_isinstance
  have m_len := PySem.W.mg_none_of X G z_len
  have m_list := PySem.W.mg_none_of X G z_list
  have m_range := PySem.W.mg_none_of X G z_range
  have m_set := PySem.W.mg_none_of X G z_set
  have m_sum := PySem.W.mg_none_of X G z_sum
  have m_tuple := PySem.W.mg_none_of X G z_tuple
  have T : Txt K mg C_Listed C_Ratio C_BadNumber C_TooMany C_BadWish C_NoBuyers C_ZeroBottom C_BadLot := ⟨PySem.W.mg_of X G a_Listed, kc_Listed, hd_Listed, ha_Listed, hm_Listed, ⟨pg_Listed, hd_Listed, po_Listed, sa_Listed⟩, mk_Listed, n_Listed_many, n_Listed_wishes, PySem.W.mg_of X G a_Ratio, kc_Ratio, hd_Ratio, ha_Ratio, hm_Ratio, ⟨pg_Ratio, hd_Ratio, po_Ratio, sa_Ratio⟩, mk_Ratio, n_Ratio_top, n_Ratio_bottom, ⟨ss_Ratio, sb_Ratio, sy_Ratio, sf_Ratio⟩, sf_Ratio, si_Ratio, sr_Ratio, ⟨_, rf_Ratio_add, .inr ⟨_, rfl⟩⟩, ⟨_, of_Ratio_add⟩, ⟨_, _, inta_add, intr_add⟩, ⟨_, rf_Ratio_sub, .inr ⟨_, rfl⟩⟩, ⟨_, of_Ratio_sub⟩, ⟨_, _, inta_sub, intr_sub⟩, PySem.W.mg_of X G a_BadNumber, kc_BadNumber, hd_BadNumber, ha_BadNumber, hm_BadNumber, b_BadNumber, t_BadNumber, ga_BadNumber, gg_BadNumber, ⟨⟨_, _, _, _, _, _, _, _, _, _, _, _, _, _, _, ol_BadNumber, or_BadNumber⟩, sa_BadNumber, b_BadNumber, t_BadNumber, kc_BadNumber⟩, ⟨ga_BadNumber, gg_BadNumber, b_BadNumber, hd_BadNumber⟩, n_BadNumber_what, n_BadNumber_at, PySem.W.mg_of X G a_TooMany, kc_TooMany, hd_TooMany, ha_TooMany, hm_TooMany, b_TooMany, t_TooMany, ga_TooMany, gg_TooMany, ⟨⟨_, _, _, _, _, _, _, _, _, _, _, _, _, _, _, ol_TooMany, or_TooMany⟩, sa_TooMany, b_TooMany, t_TooMany, kc_TooMany⟩, ⟨ga_TooMany, gg_TooMany, b_TooMany, hd_TooMany⟩, n_TooMany_many, n_TooMany_most, PySem.W.mg_of X G a_BadWish, kc_BadWish, hd_BadWish, ha_BadWish, hm_BadWish, b_BadWish, t_BadWish, ga_BadWish, gg_BadWish, ⟨⟨_, _, _, _, _, _, _, _, _, _, _, _, _, _, _, ol_BadWish, or_BadWish⟩, sa_BadWish, b_BadWish, t_BadWish, kc_BadWish⟩, ⟨ga_BadWish, gg_BadWish, b_BadWish, hd_BadWish⟩, n_BadWish_at, PySem.W.mg_of X G a_NoBuyers, kc_NoBuyers, hd_NoBuyers, ha_NoBuyers, hm_NoBuyers, b_NoBuyers, t_NoBuyers, ga_NoBuyers, gg_NoBuyers, x_NoBuyers, PySem.W.mg_of X G a_ZeroBottom, kc_ZeroBottom, hd_ZeroBottom, ha_ZeroBottom, hm_ZeroBottom, b_ZeroBottom, t_ZeroBottom, ga_ZeroBottom, gg_ZeroBottom, x_ZeroBottom, PySem.W.mg_of X G a_BadLot, kc_BadLot, hd_BadLot, ha_BadLot, hm_BadLot, b_BadLot, t_BadLot, ga_BadLot, gg_BadLot, x_BadLot, hnc, htk, sub_BadLot_BadLot, kit_Ratio_Ratio, kit_int_Ratio, PySem.W.mg_of X G a_gcd, ⟨_, PySem.W.mg_of X G a_MOST_THINGS⟩⟩
  have F1 := fun_mk (st := s_BadNumber___init__) l1 c1 k1
  have b1 := F1.binds (ps := ["self", "what", "at"]) fun _ _ _ _ _ _ us hl => match us, hl with | [_, _, _], _ => rfl
  have F2 := fun_mk (st := s_TooMany___init__) l2 c2 k2
  have b2 := F2.binds (ps := ["self", "many", "most"]) fun _ _ _ _ _ _ us hl => match us, hl with | [_, _, _], _ => rfl
  have F3 := fun_mk (st := s_BadWish___init__) l3 c3 k3
  have b3 := F3.binds (ps := ["self", "at"]) fun _ _ _ _ _ _ us hl => match us, hl with | [_, _], _ => rfl
  have F4 := fun_mk (st := s_check_many) l4 c4 k4
  have b4 := F4.binds (ps := ["many", "most"]) fun _ _ _ _ _ _ us hl => match us, hl with | [_, _], _ => rfl
  have F5 := fun_mk (st := s_Rule___init__) l5 c5 k5
  have b5 := F5.binds (ps := ["self", "many"]) fun _ _ _ _ _ _ us hl => match us, hl with | [_, _], _ => rfl
  have F6 := fun_mk (st := s_check_lot) l6 c6 k6
  have b6 := F6.binds (ps := ["lot", "many"]) fun _ _ _ _ _ _ us hl => match us, hl with | [_, _], _ => rfl
  have F7 := fun_mk (st := s__can_be_wished) l7 c7 k7
  have b7 := F7.binds (ps := ["things"]) fun _ _ _ _ _ _ us hl => match us, hl with | [_], _ => rfl
  have F8 := fun_mk (st := s__first_wish) l8 c8 k8
  have b8 := F8.binds (ps := ["things", "lot"]) fun _ _ _ _ _ _ us hl => match us, hl with | [_, _], _ => rfl
  have F9 : FunS K "__init__" "Listed.__init__" s_Listed___init__ cc9 cda9 f9 _ := ⟨⟨oc9, od9, kV9, dc9, pm9, an9, ct9, sl9, rfl, l9, c9⟩, k9⟩
  have b9 := F9.binds (ps := ["self", "many", "wishes"]) fun _ _ _ _ _ us hl => match us, hl with | [_, _, _], _ => rfl
  have S9 : SupC K mg C_Listed C_Listed cc9 cda9 f5 fi9 := ⟨⟨_, sa9⟩, sb9, ⟨_, _, _, sc9⟩, ⟨_, _, _, _, _, sd9, se9⟩, sg5, sh9, si9, sj9, PySem.W.mg_none_of X G sk9⟩
  have F10 : FunD K "__init__" "Ratio.__init__" (defArgs s_Ratio___init__) (defBody s_Ratio___init__) (defScope s_Ratio___init__) [V.int 1] [] f10 _ := ⟨⟨oc10, od10, .ref tT10, kV10, dc10, pm10, an10, cd10, ct10, sl10, rfl, l10, c10, .inr ⟨List.cons_ne_nil _ _, tT10, _, [.int 1 tq10_0], nT10, rfl, lt10, rfl, (.cons ⟨_, rfl⟩ .nil)⟩, .inl rfl⟩, k10⟩
  obtain ⟨dn10, vn10, b10⟩ := F10.binds1 (ps := ["self", "top", "bottom"]) 3 1 (List.cons_ne_nil _ _) rfl fun _ _ _ _ _ _ _ us its hl hi => match us, its, hl, hi with | [_, _, _], [_], _, _ => ⟨_, rfl, rfl⟩
  cases vn10
  obtain ⟨dd10, vd10, bd10⟩ := F10.binds1 (ps := ["self", "top", "bottom"]) 2 0 (List.cons_ne_nil _ _) rfl fun _ _ _ _ _ _ _ us its hl hi => match us, its, hl, hi with | [_, _], [_], _, _ => ⟨_, rfl, rfl⟩
  have F11 := fun_mk (st := s__as_ratio) l11 c11 k11
  have b11 := F11.binds (ps := ["number"]) fun _ _ _ _ _ _ us hl => match us, hl with | [_], _ => rfl
  have F12 := fun_mk (st := s_Ratio___neg__) l12 c12 k12
  have b12 := F12.binds (ps := ["self"]) fun _ _ _ _ _ _ us hl => match us, hl with | [_], _ => rfl
  have F13 := fun_mk (st := s_Ratio___add__) l13 c13 k13
  have b13 := F13.binds (ps := ["self", "other"]) fun _ _ _ _ _ _ us hl => match us, hl with | [_, _], _ => rfl
  have F14 := fun_mk (st := s_Ratio___rsub__) l14 c14 k14
  have b14 := F14.binds (ps := ["self", "other"]) fun _ _ _ _ _ _ us hl => match us, hl with | [_, _], _ => rfl
  have F15 := fun_mk (st := s_Listed_shares) l15 c15 k15
  have b15 := F15.binds (ps := ["self", "lot"]) fun _ _ _ _ _ _ us hl => match us, hl with | [_, _], _ => rfl
  have F16 := fun_mk (st := s_Rule_away) l16 c16 k16
  have b16 := F16.binds (ps := ["self", "lot"]) fun _ _ _ _ _ _ us hl => match us, hl with | [_, _], _ => rfl
  have F17 := fun_mk (st := s__law_cell) l17 c17 k17
  have b17 := F17.binds (ps := ["_law_script", "_law_place"]) fun _ _ _ _ _ _ us hl => match us, hl with | [_, _], _ => rfl
  have F18 := fun_mk (st := s__law_draws) l18 c18 k18
  have b18 := F18.binds (ps := ["_law_cell_here", "_law_sizes"]) fun _ _ _ _ _ _ us hl => match us, hl with | [_, _], _ => rfl
  have F19 := fun_mk (st := s__law_row) l19 c19 k19
  have b19 := F19.binds (ps := ["_law_cell_here", "_law_count"]) fun _ _ _ _ _ _ us hl => match us, hl with | [_, _], _ => rfl
  have F20 := fun_mk (st := s__law_ups) l20 c20 k20
  have b20 := F20.binds (ps := ["_law_row_here"]) fun _ _ _ _ _ _ us hl => match us, hl with | [_], _ => rfl
  have F21 := fun_mk (st := s__law_lot) l21 c21 k21
  have b21 := F21.binds (ps := ["_law_bits", "_law_many"]) fun _ _ _ _ _ _ us hl => match us, hl with | [_, _], _ => rfl
  have F22 := fun_mk (st := s__law_shuffled) l22 c22 k22
  have b22 := F22.binds (ps := ["_law_places", "_law_things"]) fun _ _ _ _ _ _ us hl => match us, hl with | [_, _], _ => rfl
  have F23 := fun_mk (st := s__law_is_int) l23 c23 k23
  have b23 := F23.binds (ps := ["_law_x"]) fun _ _ _ _ _ _ us hl => match us, hl with | [_], _ => rfl
  have F24 := fun_mk (st := s__law_same) l24 c24 k24
  have b24 := F24.binds (ps := ["_law_x", "_law_top", "_law_bottom"]) fun _ _ _ _ _ _ us hl => match us, hl with | [_, _, _], _ => rfl
  have F25 := fun_mk (st := s__law_same_lot) l25 c25 k25
  have b25 := F25.binds (ps := ["_law_x", "_law_due"]) fun _ _ _ _ _ _ us hl => match us, hl with | [_, _], _ => rfl
  have F26 := fun_mk (st := s__law_same_row) l26 c26 k26
  have b26 := F26.binds (ps := ["_law_x", "_law_pairs"]) fun _ _ _ _ _ _ us hl => match us, hl with | [_, _], _ => rfl
  have F27 := fun_mk (st := s__law_list) l27 c27 k27
  have b27 := F27.binds (ps := ["_law_cell_here", "_law_many"]) fun _ _ _ _ _ _ us hl => match us, hl with | [_, _], _ => rfl
  have F28 := fun_mk (st := s__law_shown) l28 c28 k28
  have b28 := F28.binds (ps := ["_law_drawn", "_law_many"]) fun _ _ _ _ _ _ us hl => match us, hl with | [_, _], _ => rfl
  have F29 := fun_mk (st := s__law_takers) l29 c29 k29
  have b29 := F29.binds (ps := ["_law_pairs", "_law_lot_here", "_law_thing"]) fun _ _ _ _ _ _ us hl => match us, hl with | [_, _, _], _ => rfl
  have F30 := fun_mk (st := s__law_good) l30 c30 k30
  have b30 := F30.binds (ps := ["_law_rule", "_law_pairs", "_law_many", "_law_lot_here"]) fun _ _ _ _ _ _ us hl => match us, hl with | [_, _, _, _], _ => rfl
  have F31 := fun_mk (st := s__law_refuses) l31 c31 k31
  have b31 := F31.binds (ps := ["_law_rule", "_law_lot_here"]) fun _ _ _ _ _ _ us hl => match us, hl with | [_, _], _ => rfl
  have F32 := fun_mk (st := s__law_kept) l32 c32 k32
  have b32 := F32.binds (ps := ["_law_told", "_law_pairs"]) fun _ _ _ _ _ _ us hl => match us, hl with | [_, _], _ => rfl
  have F33 := fun_mk (st := s_law) l33 c33 k33
  refine ⟨PySem.W.fnOf "law" "law" (defArgs s_law) (defBody s_law) (defScope s_law) .none kV33 dc33 pm33 an33 cd33 ct33, fun s v => .of_eq rfl, fun base _ _ => ?_⟩
  have K_BadNumber___init__ : CalX l.prog w K mg base CX0 1 C_BadNumber ["self", "what", "at"] (sp_BadNumber___init__ C_BadNumber) := ⟨f1, _, ok_BadNumber___init__ F1 T, a1, beq_iff_eq.mp i1, b1⟩
  have K_TooMany___init__ : CalX l.prog w K mg base CX0 1 C_TooMany ["self", "many", "most"] (sp_TooMany___init__ C_TooMany) := ⟨f2, _, ok_TooMany___init__ F2 T, a2, beq_iff_eq.mp i2, b2⟩
  have K_BadWish___init__ : CalX l.prog w K mg base CX0 1 C_BadWish ["self", "at"] (sp_BadWish___init__ C_BadWish) := ⟨f3, _, ok_BadWish___init__ F3 T, a3, beq_iff_eq.mp i3, b3⟩
  have K_check_many : Cal l.prog w K mg base (L2.CX l.prog w) 3 "check_many" ["many", "most"] (sp_check_many C_TooMany) := ⟨f4, _, ok_check_many F4 T K_TooMany___init__, PySem.W.mg_of X G a4, k4, b4⟩
  have K_Rule___init__ : ∃ fd : FuncData, FnOk l.prog w K mg base (L2.CX l.prog w) 4 f5 fd ["self", "many"] (sp_Rule___init__ C_Listed C_TooMany) ∧ Binds K fd ["self", "many"] [] := ⟨_, ok_Rule___init__ F5 T K_check_many, b5⟩
  have K_check_lot : Cal l.prog w K mg base (L2.CX l.prog w) 1 "check_lot" ["lot", "many"] (sp_check_lot K C_BadLot) := ⟨f6, _, ok_check_lot F6 T, PySem.W.mg_of X G a6, k6, b6⟩
  have K__can_be_wished : Cal l.prog w K mg base CX0 1 "_can_be_wished" ["things"] sp__can_be_wished := ⟨f7, _, ok__can_be_wished F7 T m_all m_len m_set, PySem.W.mg_of X G a7, k7, b7⟩
  have K__first_wish : Cal l.prog w K mg base CX0 1 "_first_wish" ["things", "lot"] sp__first_wish := ⟨f8, _, ok__first_wish F8 T, PySem.W.mg_of X G a8, k8, b8⟩
  have K_Listed___init__ : CalI l.prog w K mg base (L2.CX l.prog w) 5 C_Listed ["self", "many", "wishes"] (sp_Listed___init__ C_Listed C_TooMany C_NoBuyers C_BadNumber C_BadWish) [] := ⟨f9, _, ok_Listed___init__ F9 S9 sl_9 sm9 T m_any m_enumerate m_len m_tuple K_Rule___init__ K__can_be_wished K_BadNumber___init__ K_BadWish___init__, ⟨mk_Listed, a9, i9, kc_Listed⟩, b9, [], .nil, b9⟩
  have K_Ratio___init__ : CalI l.prog w K mg base (L2.CX l.prog w) 1 C_Ratio ["self", "top", "bottom"] (sp_Ratio___init__ C_Ratio C_ZeroBottom) [V.int 1] := ⟨f10, _, ok_Ratio___init__ F10 T, ⟨mk_Ratio, a10, i10, kc_Ratio⟩, b10, dd10, vd10, bd10⟩
  have K__as_ratio : Cal l.prog w K mg base CX0 3 "_as_ratio" ["number"] (sp__as_ratio C_Ratio) := ⟨f11, _, ok__as_ratio F11 T m_isinstance K_Ratio___init__, PySem.W.mg_of X G a11, k11, b11⟩
  have K_Ratio___neg__ : CalM l.prog w K mg base CX0 3 C_Ratio "__neg__" ["self"] (sp_Ratio___neg__ C_Ratio) := ⟨f12, _, ok_Ratio___neg__ F12 T K_Ratio___init__, ⟨a12, i12, k12⟩, b12⟩
  have K_Ratio___add__ : CalM l.prog w K mg base CX0 4 C_Ratio "__add__" ["self", "other"] (sp_Ratio___add__ C_Ratio) := ⟨f13, _, ok_Ratio___add__ F13 T K__as_ratio K_Ratio___init__, ⟨a13, i13, k13⟩, b13⟩
  have K_Ratio___rsub__ : CalM l.prog w K mg base CX0 5 C_Ratio "__rsub__" ["self", "other"] (sp_Ratio___rsub__ C_Ratio) := ⟨f14, _, ok_Ratio___rsub__ F14 T K_Ratio___neg__ K_Ratio___add__, ⟨a14, i14, k14⟩, b14⟩
  have K_Listed_shares : CalM l.prog w K mg base (L2.CX l.prog w) 3 C_Listed "shares" ["self", "lot"] (sp_Listed_shares K C_Listed C_Ratio C_BadLot) := ⟨f15, _, ok_Listed_shares F15 T m_sum K_check_lot K__first_wish K_Ratio___init__, ⟨a15, i15, k15⟩, b15⟩
  have K_Rule_away : CalM l.prog w K mg base (L2.CX l.prog w) 6 C_Listed "away" ["self", "lot"] (sp_Rule_away K C_Listed C_Ratio C_BadLot) := ⟨f16, _, ok_Rule_away F16 T m_sum K_Listed_shares K_Ratio___init__ K_Ratio___add__ K_Ratio___rsub__, ⟨a16, i16, k16⟩, b16⟩
  have K__law_cell : Cal l.prog w K mg base CX0 1 "_law_cell" ["_law_script", "_law_place"] (sp__law_cell K) := ⟨f17, _, ok__law_cell F17 T m_int m_len, PySem.W.mg_of X G a17, k17, b17⟩
  have K__law_draws : Cal l.prog w K mg base CX0 1 "_law_draws" ["_law_cell_here", "_law_sizes"] (sp__law_draws K) := ⟨f18, _, ok__law_draws F18 T m_int m_len m_range, PySem.W.mg_of X G a18, k18, b18⟩
  have K__law_row : Cal l.prog w K mg base CX0 2 "_law_row" ["_law_cell_here", "_law_count"] (sp__law_row K) := ⟨f19, _, ok__law_row F19 T m_int m_range K__law_draws, PySem.W.mg_of X G a19, k19, b19⟩
  have K__law_ups : Cal l.prog w K mg base CX0 1 "_law_ups" ["_law_row_here"] (sp__law_ups K) := ⟨f20, _, ok__law_ups F20 T, PySem.W.mg_of X G a20, k20, b20⟩
  have K__law_lot : Cal l.prog w K mg base CX0 1 "_law_lot" ["_law_bits", "_law_many"] sp__law_lot := ⟨f21, _, ok__law_lot F21 T m_int m_range m_tuple, PySem.W.mg_of X G a21, k21, b21⟩
  have K__law_shuffled : Cal l.prog w K mg base CX0 1 "_law_shuffled" ["_law_places", "_law_things"] (sp__law_shuffled K) := ⟨f22, _, ok__law_shuffled F22 T m_int m_len m_list, PySem.W.mg_of X G a22, k22, b22⟩
  have K__law_is_int : Cal l.prog w K mg base CX0 1 "_law_is_int" ["_law_x"] sp__law_is_int := ⟨f23, _, ok__law_is_int F23 T m_bool m_int m_isinstance, PySem.W.mg_of X G a23, k23, b23⟩
  have K__law_same : Cal l.prog w K mg base CX0 2 "_law_same" ["_law_x", "_law_top", "_law_bottom"] (sp__law_same C_Ratio) := ⟨f24, _, ok__law_same F24 T m_isinstance K__law_is_int, PySem.W.mg_of X G a24, k24, b24⟩
  have K__law_same_lot : Cal l.prog w K mg base CX0 2 "_law_same_lot" ["_law_x", "_law_due"] (sp__law_same_lot K) := ⟨f25, _, ok__law_same_lot F25 T m_isinstance m_len m_range m_tuple K__law_is_int, PySem.W.mg_of X G a25, k25, b25⟩
  have K__law_same_row : Cal l.prog w K mg base CX0 3 "_law_same_row" ["_law_x", "_law_pairs"] (sp__law_same_row C_Ratio) := ⟨f26, _, ok__law_same_row F26 T m_isinstance m_len m_list m_range K__law_same, PySem.W.mg_of X G a26, k26, b26⟩
  have K__law_list : Cal l.prog w K mg base CX0 2 "_law_list" ["_law_cell_here", "_law_many"] (sp__law_list K) := ⟨f27, _, ok__law_list F27 T m_range m_tuple K__law_draws K__law_shuffled, PySem.W.mg_of X G a27, k27, b27⟩
  have K__law_shown : Cal l.prog w K mg base CX0 2 "_law_shown" ["_law_drawn", "_law_many"] (sp__law_shown K) := ⟨f28, _, ok__law_shown F28 T m_int m_tuple K__law_lot, PySem.W.mg_of X G a28, k28, b28⟩
  have K__law_takers : Cal l.prog w K mg base CX0 1 "_law_takers" ["_law_pairs", "_law_lot_here", "_law_thing"] sp__law_takers := ⟨f29, _, ok__law_takers F29 T m_len, PySem.W.mg_of X G a29, k29, b29⟩
  have K__law_good : Cal l.prog w K mg base CX0 7 "_law_good" ["_law_rule", "_law_pairs", "_law_many", "_law_lot_here"] (sp__law_good C_Listed) := ⟨f30, _, ok__law_good F30 T m_range m_sum K__law_takers K_Listed_shares K_Rule_away K__law_same K__law_same_row, PySem.W.mg_of X G a30, k30, b30⟩
  have K__law_refuses : Cal l.prog w K mg base CX0 7 "_law_refuses" ["_law_rule", "_law_lot_here"] (sp__law_refuses C_Listed) := ⟨f31, _, ok__law_refuses F31 T K_Listed_shares K_Rule_away, PySem.W.mg_of X G a31, k31, b31⟩
  have K__law_kept : Cal l.prog w K mg base CX0 3 "_law_kept" ["_law_told", "_law_pairs"] sp__law_kept := ⟨f32, _, ok__law_kept F32 T m_isinstance m_len m_range m_tuple K__law_is_int K__law_same_lot, PySem.W.mg_of X G a32, k32, b32⟩
  exact ok_law F33 T m_len m_list m_range m_tuple K__law_cell K__law_draws K__law_row K__law_ups K__law_list K__law_shown K__law_is_int K__law_good K__law_refuses K__law_kept K_Listed___init__ K_Listed_shares
end K20
open PySem PySem.W PyProof.Rows
set_option pp.maxSteps 400 in
set_option maxHeartbeats 0 in
theorem PySem.Challenge.cw_dearestshelf_k20_listed_shares_holds : PySem.Challenge.rw_dearestshelf_k20_listed_shares.Holds := by
  w_on; o_law; k_head; (case hw => w_witness2)
  k_fill
  refine L2.walk_of (l := PySem.Challenge.rw_dearestshelf_k20_listed_shares) (n := 63) (k := 8) (x := "_law_script") (CX := fun _ => L2.CX0) (sp := fun w => K20.sp_law _) rfl (by decide) rfl ⟨rfl, by decide, by decide⟩ (fun w h Y => PySem.W.kIn_of Y) ?F (fun _ _ a ns hl _ hS => ⟨a, ns, rfl, hS, hl, fun _ => rfl⟩) (fun _ _ _ _ _ h => h)
  case F =>
    intro w mg fa h KX G hmg
    refine' K20.all_mk KX G hmg ?a_Listed ?kc_Listed ?hd_Listed ?ha_Listed ?hm_Listed ?pg_Listed ?po_Listed ?sa_Listed ?mk_Listed ?n_Listed_many ?n_Listed_wishes ?a_Ratio ?kc_Ratio ?hd_Ratio ?ha_Ratio ?hm_Ratio ?pg_Ratio ?po_Ratio ?sa_Ratio ?mk_Ratio ?n_Ratio_top ?n_Ratio_bottom ?ss_Ratio ?sb_Ratio ?sy_Ratio ?sf_Ratio ?si_Ratio ?sr_Ratio ?rf_Ratio_add ?of_Ratio_add ?inta_add ?intr_add ?rf_Ratio_sub ?of_Ratio_sub ?inta_sub ?intr_sub ?a_BadNumber ?kc_BadNumber ?hd_BadNumber ?ha_BadNumber ?hm_BadNumber ?b_BadNumber ?t_BadNumber ?ga_BadNumber ?gg_BadNumber ?ol_BadNumber ?or_BadNumber ?sa_BadNumber ?n_BadNumber_what ?n_BadNumber_at ?a_TooMany ?kc_TooMany ?hd_TooMany ?ha_TooMany ?hm_TooMany ?b_TooMany ?t_TooMany ?ga_TooMany ?gg_TooMany ?ol_TooMany ?or_TooMany ?sa_TooMany ?n_TooMany_many ?n_TooMany_most ?a_BadWish ?kc_BadWish ?hd_BadWish ?ha_BadWish ?hm_BadWish ?b_BadWish ?t_BadWish ?ga_BadWish ?gg_BadWish ?ol_BadWish ?or_BadWish ?sa_BadWish ?n_BadWish_at ?a_NoBuyers ?kc_NoBuyers ?hd_NoBuyers ?ha_NoBuyers ?hm_NoBuyers ?b_NoBuyers ?t_NoBuyers ?ga_NoBuyers ?gg_NoBuyers ?x_NoBuyers ?a_ZeroBottom ?kc_ZeroBottom ?hd_ZeroBottom ?ha_ZeroBottom ?hm_ZeroBottom ?b_ZeroBottom ?t_ZeroBottom ?ga_ZeroBottom ?gg_ZeroBottom ?x_ZeroBottom ?a_BadLot ?kc_BadLot ?hd_BadLot ?ha_BadLot ?hm_BadLot ?b_BadLot ?t_BadLot ?ga_BadLot ?gg_BadLot ?x_BadLot ?hnc ?htk ?sub_BadLot_BadLot ?kit_Ratio_Ratio ?kit_int_Ratio ?a_gcd ?a_MOST_THINGS ?a1 ?i1 ?l1 ?c1 ?k1 ?a2 ?i2 ?l2 ?c2 ?k2 ?a3 ?i3 ?l3 ?c3 ?k3 ?a4 ?l4 ?c4 ?k4 ?sg5 ?l5 ?c5 ?k5 ?a6 ?l6 ?c6 ?k6 ?a7 ?l7 ?c7 ?k7 ?a8 ?l8 ?c8 ?k8 ?sa9 ?sb9 ?a9 ?i9 ?l9 ?c9 ?k9 ?sc9 ?sd9 ?se9 ?sh9 ?si9 ?sj9 ?sk9 ?sl_9 ?sm9 ?a10 ?i10 ?l10 ?lt10 ?c10 ?k10 ?a11 ?l11 ?c11 ?k11 ?a12 ?i12 ?l12 ?c12 ?k12 ?a13 ?i13 ?l13 ?c13 ?k13 ?a14 ?i14 ?l14 ?c14 ?k14 ?a15 ?i15 ?l15 ?c15 ?k15 ?a16 ?i16 ?l16 ?c16 ?k16 ?a17 ?l17 ?c17 ?k17 ?a18 ?l18 ?c18 ?k18 ?a19 ?l19 ?c19 ?k19 ?a20 ?l20 ?c20 ?k20 ?a21 ?l21 ?c21 ?k21 ?a22 ?l22 ?c22 ?k22 ?a23 ?l23 ?c23 ?k23 ?a24 ?l24 ?c24 ?k24 ?a25 ?l25 ?c25 ?k25 ?a26 ?l26 ?c26 ?k26 ?a27 ?l27 ?c27 ?k27 ?a28 ?l28 ?c28 ?k28 ?a29 ?l29 ?c29 ?k29 ?a30 ?l30 ?c30 ?k30 ?a31 ?l31 ?c31 ?k31 ?a32 ?l32 ?c32 ?k32 ?a33 ?l33 ?c33 ?k33 ?z_all ?z_any ?z_bool ?z_enumerate ?z_int ?z_isinstance ?z_len ?z_list ?z_range ?z_set ?z_sum ?z_tuple
    (case a_Listed => k_is); (case kc_Listed => k_is); (case hd_Listed => k_is); (case ha_Listed => k_is); (case hm_Listed => k_is); (case pg_Listed => k_is); (case po_Listed => k_is); (case sa_Listed => k_is); (case mk_Listed => k_is); (case n_Listed_many => k_is); (case n_Listed_wishes => k_is); (case a_Ratio => k_is); (case kc_Ratio => k_is); (case hd_Ratio => k_is); (case ha_Ratio => k_is); (case hm_Ratio => k_is); (case pg_Ratio => k_is); (case po_Ratio => k_is); (case sa_Ratio => k_is); (case mk_Ratio => k_is); (case n_Ratio_top => k_is); (case n_Ratio_bottom => k_is); (case ss_Ratio => (first | k_is | decide +kernel)); (case sb_Ratio => (first | k_is | decide +kernel)); (case sy_Ratio => (first | k_is | decide +kernel)); (case sf_Ratio => k_is); (case si_Ratio => (first | k_is | decide +kernel)); (case sr_Ratio => (first | k_is | decide +kernel)); (case rf_Ratio_add => k_is); (case of_Ratio_add => k_is); (case inta_add => k_is); (case intr_add => k_is); (case rf_Ratio_sub => k_is); (case of_Ratio_sub => k_is); (case inta_sub => k_is); (case intr_sub => k_is); (case a_BadNumber => k_is); (case kc_BadNumber => k_is); (case hd_BadNumber => k_is); (case ha_BadNumber => k_is); (case hm_BadNumber => k_is); (case b_BadNumber => k_is); (case t_BadNumber => k_is); (case ga_BadNumber => k_is); (case gg_BadNumber => k_is); (case ol_BadNumber => k_is); (case or_BadNumber => rfl); (case sa_BadNumber => k_is); (case n_BadNumber_what => k_is); (case n_BadNumber_at => k_is); (case a_TooMany => k_is); (case kc_TooMany => k_is); (case hd_TooMany => k_is); (case ha_TooMany => k_is); (case hm_TooMany => k_is); (case b_TooMany => k_is); (case t_TooMany => k_is); (case ga_TooMany => k_is); (case gg_TooMany => k_is); (case ol_TooMany => k_is); (case or_TooMany => rfl); (case sa_TooMany => k_is); (case n_TooMany_many => k_is); (case n_TooMany_most => k_is); (case a_BadWish => k_is); (case kc_BadWish => k_is); (case hd_BadWish => k_is); (case ha_BadWish => k_is); (case hm_BadWish => k_is); (case b_BadWish => k_is); (case t_BadWish => k_is); (case ga_BadWish => k_is); (case gg_BadWish => k_is); (case ol_BadWish => k_is); (case or_BadWish => rfl); (case sa_BadWish => k_is); (case n_BadWish_at => k_is); (case a_NoBuyers => k_is); (case kc_NoBuyers => k_is); (case hd_NoBuyers => k_is); (case ha_NoBuyers => k_is); (case hm_NoBuyers => k_is); (case b_NoBuyers => k_is); (case t_NoBuyers => k_is); (case ga_NoBuyers => k_is); (case gg_NoBuyers => k_is); (case x_NoBuyers => k_exc); (case a_ZeroBottom => k_is); (case kc_ZeroBottom => k_is); (case hd_ZeroBottom => k_is); (case ha_ZeroBottom => k_is); (case hm_ZeroBottom => k_is); (case b_ZeroBottom => k_is); (case t_ZeroBottom => k_is); (case ga_ZeroBottom => k_is); (case gg_ZeroBottom => k_is); (case x_ZeroBottom => k_exc); (case a_BadLot => k_is); (case kc_BadLot => k_is); (case hd_BadLot => k_is); (case ha_BadLot => k_is); (case hm_BadLot => k_is); (case b_BadLot => k_is); (case t_BadLot => k_is); (case ga_BadLot => k_is); (case gg_BadLot => k_is); (case x_BadLot => k_exc); (case hnc => k_is); (case htk => k_is); (case sub_BadLot_BadLot => (first | rfl | k_is)); (case kit_Ratio_Ratio => kit_is); (case kit_int_Ratio => kit_is); (case a_gcd => k_is); (case a_MOST_THINGS => k_is); (case a1 => k_is); (case i1 => k_is); (case l1 => k_is); (case c1 => k_is); (case k1 => k_is); (case a2 => k_is); (case i2 => k_is); (case l2 => k_is); (case c2 => k_is); (case k2 => k_is); (case a3 => k_is); (case i3 => k_is); (case l3 => k_is); (case c3 => k_is); (case k3 => k_is); (case a4 => k_is); (case l4 => k_is); (case c4 => k_is); (case k4 => k_is); (case sg5 => ks_is); (case l5 => k_is); (case c5 => k_is); (case k5 => k_is); (case a6 => k_is); (case l6 => k_is); (case c6 => k_is); (case k6 => k_is); (case a7 => k_is); (case l7 => k_is); (case c7 => k_is); (case k7 => k_is); (case a8 => k_is); (case l8 => k_is); (case c8 => k_is); (case k8 => k_is); (case sa9 => k_is); (case sb9 => k_is); (case a9 => k_is); (case i9 => k_is); (case l9 => k_is); (case c9 => k_is); (case k9 => k_is); (case sc9 => k_is); (case sd9 => k_is); (case se9 => rfl); (case sh9 => k_is); (case si9 => k_is); (case sj9 => k_is); (case sk9 => k_is); (case sl_9 => (first | rfl | decide +kernel)); (case sm9 => (first | rfl | decide +kernel)); (case a10 => k_is); (case i10 => k_is); (case l10 => k_is); (case lt10 => k_is); (case c10 => k_is); (case k10 => k_is); (case a11 => k_is); (case l11 => k_is); (case c11 => k_is); (case k11 => k_is); (case a12 => k_is); (case i12 => k_is); (case l12 => k_is); (case c12 => k_is); (case k12 => k_is); (case a13 => k_is); (case i13 => k_is); (case l13 => k_is); (case c13 => k_is); (case k13 => k_is); (case a14 => k_is); (case i14 => k_is); (case l14 => k_is); (case c14 => k_is); (case k14 => k_is); (case a15 => k_is); (case i15 => k_is); (case l15 => k_is); (case c15 => k_is); (case k15 => k_is); (case a16 => k_is); (case i16 => k_is); (case l16 => k_is); (case c16 => k_is); (case k16 => k_is); (case a17 => k_is); (case l17 => k_is); (case c17 => k_is); (case k17 => k_is); (case a18 => k_is); (case l18 => k_is); (case c18 => k_is); (case k18 => k_is); (case a19 => k_is); (case l19 => k_is); (case c19 => k_is); (case k19 => k_is); (case a20 => k_is); (case l20 => k_is); (case c20 => k_is); (case k20 => k_is); (case a21 => k_is); (case l21 => k_is); (case c21 => k_is); (case k21 => k_is); (case a22 => k_is); (case l22 => k_is); (case c22 => k_is); (case k22 => k_is); (case a23 => k_is); (case l23 => k_is); (case c23 => k_is); (case k23 => k_is); (case a24 => k_is); (case l24 => k_is); (case c24 => k_is); (case k24 => k_is); (case a25 => k_is); (case l25 => k_is); (case c25 => k_is); (case k25 => k_is); (case a26 => k_is); (case l26 => k_is); (case c26 => k_is); (case k26 => k_is); (case a27 => k_is); (case l27 => k_is); (case c27 => k_is); (case k27 => k_is); (case a28 => k_is); (case l28 => k_is); (case c28 => k_is); (case k28 => k_is); (case a29 => k_is); (case l29 => k_is); (case c29 => k_is); (case k29 => k_is); (case a30 => k_is); (case l30 => k_is); (case c30 => k_is); (case k30 => k_is); (case a31 => k_is); (case l31 => k_is); (case c31 => k_is); (case k31 => k_is); (case a32 => k_is); (case l32 => k_is); (case c32 => k_is); (case k32 => k_is); (case a33 => k_is); (case l33 => k_is); (case c33 => k_is); (case k33 => k_is); (case z_all => k_is); (case z_any => k_is); (case z_bool => k_is); (case z_enumerate => k_is); (case z_int => k_is); (case z_isinstance => k_is); (case z_len => k_is); (case z_list => k_is); (case z_range => k_is); (case z_set => k_is); (case z_sum => k_is); (case z_tuple => k_is)
