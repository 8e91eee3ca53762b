import PyProof.Rows.All
import Wide.All
import OpenK.AllK
import Wide.FinOn
import HandS.ForMost
import HandS.ForExc
import HandS.Wide
import HandS.IsInst
import HandS.More
import HandS.Conv
import HandS.Evl
import HandS.Gcd
import HandS.ExcIs
import HandS.Defaults
import HandS.ExcInit
import HandS.Style
import KE.RegKIsAll
import HandS.OwnEq
import PySem.Challenge.RW_dearestshelf_k08_whole_ratio_chains
set_option Elab.async false
set_option linter.all false
set_option maxRecDepth 100000
set_option maxHeartbeats 8000000
set_option exponentiation.threshold 10000
namespace K08
open PySem PySem.Spec PyProof.Rows L2
def top (i : Nat) : Stmt := PySem.Challenge.pw_dearestshelf_k08_whole_ratio_chains.main.body.getD i (.Pass ⟨0, 0, 0, 0⟩)
abbrev s_Ratio___init__ : Stmt := inClass (top 6) 0
theorem sc_Ratio___init__ : FnScope ["self", "top", "bottom", "divisor"] ["self", "top", "bottom"] (defScope s_Ratio___init__) := ⟨rfl, rfl, rfl, by decide +kernel, rfl, by decide +kernel, by decide +kernel⟩
abbrev s__as_ratio : Stmt := top 7
theorem sc__as_ratio : FnScope ["number"] ["number"] (defScope s__as_ratio) := ⟨rfl, rfl, rfl, by decide +kernel, rfl, by decide +kernel, by decide +kernel⟩
abbrev s_Ratio_over : Stmt := inClass (top 6) 2
theorem sc_Ratio_over : FnScope ["self", "other", "divisor"] ["self", "other"] (defScope s_Ratio_over) := ⟨rfl, rfl, rfl, by decide +kernel, rfl, by decide +kernel, by decide +kernel⟩
abbrev s_Ratio___neg__ : Stmt := inClass (top 6) 12
theorem sc_Ratio___neg__ : FnScope ["self"] ["self"] (defScope s_Ratio___neg__) := ⟨rfl, rfl, rfl, by decide +kernel, rfl, by decide +kernel, by decide +kernel⟩
abbrev s_Ratio___abs__ : Stmt := inClass (top 6) 13
theorem sc_Ratio___abs__ : FnScope ["self"] ["self"] (defScope s_Ratio___abs__) := ⟨rfl, rfl, rfl, by decide +kernel, rfl, by decide +kernel, by decide +kernel⟩
abbrev s_Ratio___add__ : Stmt := inClass (top 6) 4
theorem sc_Ratio___add__ : FnScope ["self", "other", "addend"] ["self", "other"] (defScope s_Ratio___add__) := ⟨rfl, rfl, rfl, by decide +kernel, rfl, by decide +kernel, by decide +kernel⟩
abbrev s_Ratio___radd__ : Stmt := inClass (top 6) 5
theorem sc_Ratio___radd__ : FnScope ["self", "other"] ["self", "other"] (defScope s_Ratio___radd__) := ⟨rfl, rfl, rfl, by decide +kernel, rfl, by decide +kernel, by decide +kernel⟩
abbrev s_Ratio___sub__ : Stmt := inClass (top 6) 6
theorem sc_Ratio___sub__ : FnScope ["self", "other"] ["self", "other"] (defScope s_Ratio___sub__) := ⟨rfl, rfl, rfl, by decide +kernel, rfl, by decide +kernel, by decide +kernel⟩
abbrev s_Ratio___rsub__ : Stmt := inClass (top 6) 7
theorem sc_Ratio___rsub__ : FnScope ["self", "other"] ["self", "other"] (defScope s_Ratio___rsub__) := ⟨rfl, rfl, rfl, by decide +kernel, rfl, by decide +kernel, by decide +kernel⟩
abbrev s_Ratio___mul__ : Stmt := inClass (top 6) 8
theorem sc_Ratio___mul__ : FnScope ["self", "other", "factor"] ["self", "other"] (defScope s_Ratio___mul__) := ⟨rfl, rfl, rfl, by decide +kernel, rfl, by decide +kernel, by decide +kernel⟩
abbrev s_Ratio___rmul__ : Stmt := inClass (top 6) 9
theorem sc_Ratio___rmul__ : FnScope ["self", "other"] ["self", "other"] (defScope s_Ratio___rmul__) := ⟨rfl, rfl, rfl, by decide +kernel, rfl, by decide +kernel, by decide +kernel⟩
abbrev s_Ratio___floordiv__ : Stmt := inClass (top 6) 10
theorem sc_Ratio___floordiv__ : FnScope ["self", "other", "quotient"] ["self", "other"] (defScope s_Ratio___floordiv__) := ⟨rfl, rfl, rfl, by decide +kernel, rfl, by decide +kernel, by decide +kernel⟩
abbrev s_Ratio___mod__ : Stmt := inClass (top 6) 11
theorem sc_Ratio___mod__ : FnScope ["self", "other"] ["self", "other"] (defScope s_Ratio___mod__) := ⟨rfl, rfl, rfl, by decide +kernel, rfl, by decide +kernel, by decide +kernel⟩
abbrev s__law_cell : Stmt := top 10
theorem sc__law_cell : FnScope ["_law_script", "_law_place"] ["_law_script", "_law_place"] (defScope s__law_cell) := ⟨rfl, rfl, rfl, by decide +kernel, rfl, by decide +kernel, by decide +kernel⟩
abbrev s__law_draws : Stmt := top 11
theorem sc__law_draws : FnScope ["_law_cell_here", "_law_sizes", "_law_size", "_law_left", "_law_found", "_law_k", "_law_low", "_law_high"] ["_law_cell_here", "_law_sizes"] (defScope s__law_draws) := ⟨rfl, rfl, rfl, by decide +kernel, rfl, by decide +kernel, by decide +kernel⟩
abbrev s__law_is_int : Stmt := top 12
theorem sc__law_is_int : FnScope ["_law_x"] ["_law_x"] (defScope s__law_is_int) := ⟨rfl, rfl, rfl, by decide +kernel, rfl, by decide +kernel, by decide +kernel⟩
abbrev s__law_gcd : Stmt := top 13
theorem sc__law_gcd : FnScope ["_law_a", "_law_b", "_law_turn", "_law_rest"] ["_law_a", "_law_b"] (defScope s__law_gcd) := ⟨rfl, rfl, rfl, by decide +kernel, rfl, by decide +kernel, by decide +kernel⟩
abbrev s__law_lowest : Stmt := top 14
theorem sc__law_lowest : FnScope ["_law_x", "_law_top", "_law_bottom"] ["_law_x", "_law_top", "_law_bottom"] (defScope s__law_lowest) := ⟨rfl, rfl, rfl, by decide +kernel, rfl, by decide +kernel, by decide +kernel⟩
abbrev s__law_floor : Stmt := top 15
theorem sc__law_floor : FnScope ["_law_top", "_law_bottom"] ["_law_top", "_law_bottom"] (defScope s__law_floor) := ⟨rfl, rfl, rfl, by decide +kernel, rfl, by decide +kernel, by decide +kernel⟩
abbrev s__law_due : Stmt := top 16
theorem sc__law_due : FnScope ["_law_t", "_law_b", "_law_kind", "_law_p", "_law_q"] ["_law_t", "_law_b", "_law_kind", "_law_p", "_law_q"] (defScope s__law_due) := ⟨rfl, rfl, rfl, by decide +kernel, rfl, by decide +kernel, by decide +kernel⟩
abbrev s__law_did : Stmt := top 17
theorem sc__law_did : FnScope ["_law_x", "_law_kind", "_law_y"] ["_law_x", "_law_kind", "_law_y"] (defScope s__law_did) := ⟨rfl, rfl, rfl, by decide +kernel, rfl, by decide +kernel, by decide +kernel⟩
abbrev s__law_pair : Stmt := top 18
theorem sc__law_pair : FnScope ["_law_size", "_law_top", "_law_bottom", "_law_sign", "_law_bound", "_law_value"] ["_law_size", "_law_top", "_law_bottom", "_law_sign"] (defScope s__law_pair) := ⟨rfl, rfl, rfl, by decide +kernel, rfl, by decide +kernel, by decide +kernel⟩
abbrev s_law : Stmt := top 19
theorem sc_law : FnScope ["_law_script", "_law_first", "_law_start", "_law_x", "_law_k", "_law_drawn", "_law_kind", "_law_pair_here", "_law_p", "_law_q", "_law_due_here"] ["_law_script"] (defScope s_law) := ⟨rfl, rfl, rfl, by decide +kernel, rfl, by decide +kernel, by decide +kernel⟩

/-! ### mathematics of draws -/
def Within : List Int → List Int → Prop
  | [], [] => True
  | d :: ds, n :: ns => (0 ≤ d ∧ d < n) ∧ Within ds ns
  | _, _ => False
theorem Within.len : ∀ {ds ns : List Int}, Within ds ns → ds.length = ns.length
  | [], [], _ => rfl
  | _ :: ds, _ :: ns, h => by
    rw [List.length_cons, List.length_cons, Within.len h.2]
  | [], _ :: _, h => h.elim
  | _ :: _, [], h => h.elim
theorem Within.snoc : ∀ {ds ns : List Int} {d n : Int}, Within ds ns → 0 ≤ d → d < n → Within (ds ++ [d]) (ns ++ [n])
  | [], [], d, n, _, h0, h1 => ⟨⟨h0, h1⟩, True.intro⟩
  | _ :: ds, _ :: ns, d, n, h, h0, h1 => ⟨h.1, Within.snoc h.2 h0 h1⟩
  | [], _ :: _, _, _, h, _, _ => h.elim
  | _ :: _, [], _, _, h, _, _ => h.elim
theorem Within.step {ds ns : List Int} {d n : Int} {i : Nat} (h : Within ds (ns.take i)) (hi : ns[i]? = some n) (h0 : 0 ≤ d) (h1 : d < n) : Within (ds ++ [d]) (ns.take (i + 1)) := by
  rw [List.take_add_one, hi]
  exact h.snoc h0 h1
theorem Within.zero (ns : List Int) : Within [] (ns.take 0) := by
  rw [List.take_zero]
  exact True.intro
theorem Within.full {ds ns : List Int} (h : Within ds (ns.take ns.length)) : Within ds ns := by
  rw [List.take_length] at h
  exact h
theorem int_of {ns : List Int} {i : Nat} {x : V} (h : (ns.map V.int)[i]? = some x) : ∃ n, x = .int n ∧ ns[i]? = some n := by
  rw [List.getElem?_map] at h
  cases e : ns[i]? with
  | none =>
    rw [e] at h
    cases h
  | some z =>
    rw [e] at h
    exact ⟨z, (Option.some.inj h).symm, rfl⟩
theorem int_at {ns : List Int} {i : Nat} {n : Int} (h : ns[i]? = some n) : (ns.map V.int)[i]? = some (.int n) := by
  rw [List.getElem?_map, h]
  rfl
theorem snoc_int (ds : List Int) (d : Int) : ds.map V.int ++ [V.int d] = (ds ++ [d]).map V.int := by
  rw [List.map_append]
  rfl
theorem same_upd {H : Hp} {p : Addr} {o : HO} (h : H p = none) : Same H (upd H p o) := fun b x e => by
  rw [upd_ne (ne_of_none e h)]
  exact e
theorem same_mut {H H1 : Hp} {p : Addr} {o : HO} (s : Same H H1) (h : H p = none) : Same H (upd H1 p o) := fun b x e => by
  rw [upd_ne (ne_of_none e h)]
  exact s b x e
theorem same_tup {K : PySem.W.Frag} {H H' : Hp} {a : Addr} {xs : List V} (e : Same H H') (h : SqT K H a xs) : SqT K H' a xs := by
  rcases h with (h | ⟨o, h⟩) | h
  · exact .inl (.inl (e _ _ h))
  · exact .inl (.inr ⟨o, e _ _ h⟩)
  · exact .inr h
theorem w_div {j : Int} (h : 0 < j) (hb : j < 2 ^ 100) : CDivW 0 j := wide_div (b := 100) h (by omega) (by decide) (by decide)
theorem lst_l {K : PySem.W.Frag} {H : Hp} {a : Addr} {xs : List V} (h : H a = some (.lst xs)) : SqL K H a xs := .inl (.inl h)
theorem tup_t {K : PySem.W.Frag} {H : Hp} {a : Addr} {xs : List V} (h : H a = some (.tup xs)) : SqT K H a xs := .inl (.inl h)
theorem lc_yes {σ : L2.St} {H : Hp} {F : Bool → Hp → Prop} (h : F true H) : tYes σ H F := h
theorem Within.c {ds ns : List Int} {n : Int} (h : Within ds (n :: ns)) : ∃ d r, ds = d :: r ∧ 0 ≤ d ∧ d < n ∧ Within r ns := by
  cases ds with
  | nil => exact h.elim
  | cons d r => exact ⟨d, r, rfl, h.1.1, h.1.2, h.2⟩
theorem Within.n {ds : List Int} (h : Within ds []) : ds = [] := by
  cases ds with
  | nil => rfl
  | cons d r => exact h.elim
theorem kI : kitB "int" "int" = some true := by decide +kernel
theorem kB : kitB "int" "bool" = some false := by decide +kernel
theorem kT : kitB "tuple" "tuple" = some true := by decide +kernel

theorem cut_from (xs : List V) (k : Nat) : cutV xs (some (k : Int)) none = xs.drop k := by
  unfold cutV
  rw [HT.sIx_nat, HT.sIx_none]
  by_cases h : k ≤ xs.length
  · rw [Nat.min_eq_left h]
    exact List.take_of_length_le (by rw [List.length_drop]; exact Nat.le_refl _)
  · rw [Nat.min_eq_right (by omega), List.drop_of_length_le (Nat.le_refl _), List.drop_of_length_le (by omega), List.take_nil]
theorem cut_from1 (xs : List V) : cutV xs (some 1) none = xs.drop 1 := by
  unfold cutV
  rw [show HT.sIx xs.length 0 (some 1) = min 1 xs.length from HT.sIx_nat xs.length 0 1, HT.sIx_none]
  cases xs with
  | nil => rfl
  | cons x r =>
    rw [show min 1 (x :: r).length = 1 by
      rw [List.length_cons]
      omega]
    show (List.take ((x :: r).length - 1) r) = r
    rw [List.length_cons, Nat.add_sub_cancel]
    exact List.take_length
theorem big18 : (0 : Int) < 10 ^ 18 ∧ (10 : Int) ^ 18 < 2 ^ 100 := by decide
theorem cut_to (xs : List V) (k : Nat) : cutV xs none (some (k : Int)) = xs.take k := by
  unfold cutV
  rw [HT.sIx_none, HT.sIx_nat, List.drop_zero, Nat.sub_zero]
  by_cases h : k ≤ xs.length
  · rw [Nat.min_eq_left h]
  · rw [Nat.min_eq_right (by omega), List.take_of_length_le (Nat.le_refl _), List.take_of_length_le (by omega)]

theorem iteD {c A B : Prop} [Decidable c] (hc : c) (h : A) : if decide c = true then A else B := by
  rw [if_pos (decide_eq_true hc)]
  exact h
theorem iteDF {c A B : Prop} [Decidable c] (hc : ¬ c) (h : B) : if decide c = true then A else B := by
  rw [decide_eq_false hc]
  exact iteF h
/-! ### lowest terms -/
def rg (t b : Int) : Int := ((Nat.gcd t.natAbs b.natAbs : Nat) : Int)
def rd (t b : Int) : Int := if b < 0 then -(rg t b) else rg t b
def nT (t b : Int) : Int := t.fdiv (rd t b)
def nB (t b : Int) : Int := b.fdiv (rd t b)
/-- T over B is t over b in lowest terms -/
structure LowT (t b T B : Int) : Prop where
  pos : 0 < B
  eq : T * b = t * B
  leT : T.natAbs ≤ t.natAbs
  leB : B.natAbs ≤ b.natAbs
  cop : Nat.gcd T.natAbs B.natAbs = 1
theorem rg_pos {t b : Int} (h : b ≠ 0) : 0 < rg t b := by
  unfold rg
  have := Nat.gcd_pos_of_pos_right t.natAbs (Int.natAbs_pos.mpr h)
  omega
theorem rd_ne {t b : Int} (h : b ≠ 0) : rd t b ≠ 0 := by
  have := rg_pos (t := t) h
  unfold rd
  split <;> omega
theorem rd_abs (t b : Int) : (rd t b).natAbs = Nat.gcd t.natAbs b.natAbs := by
  unfold rd rg
  split <;> omega
theorem rd_dvd_t (t b : Int) : rd t b ∣ t := by
  rw [← Int.natAbs_dvd_natAbs, rd_abs]
  exact Nat.gcd_dvd_left ..
theorem rd_dvd_b (t b : Int) : rd t b ∣ b := by
  rw [← Int.natAbs_dvd_natAbs, rd_abs]
  exact Nat.gcd_dvd_right ..
theorem nT_mul {t b : Int} (h : b ≠ 0) : t = rd t b * nT t b := by
  obtain ⟨k, hk⟩ := rd_dvd_t t b
  have e : nT t b = k := by
    unfold nT
    conv => lhs; arg 1; rw [hk]
    exact Int.mul_fdiv_cancel_left k (rd_ne h)
  rw [e]
  exact hk
theorem nB_mul {t b : Int} (h : b ≠ 0) : b = rd t b * nB t b := by
  obtain ⟨k, hk⟩ := rd_dvd_b t b
  have e : nB t b = k := by
    unfold nB
    conv => lhs; arg 1; rw [hk]
    exact Int.mul_fdiv_cancel_left k (rd_ne h)
  rw [e]
  exact hk
theorem low {t b : Int} (h : b ≠ 0) : LowT t b (nT t b) (nB t b) := by
  have h1 := nT_mul (t := t) h
  have h2 := nB_mul (t := t) h
  have hg := rg_pos (t := t) h
  have hd := rd_ne (t := t) h
  have a1 : t.natAbs = (rd t b).natAbs * (nT t b).natAbs := by
    rw [← Int.natAbs_mul, ← h1]
  have a2 : b.natAbs = (rd t b).natAbs * (nB t b).natAbs := by
    rw [← Int.natAbs_mul, ← h2]
  have p : 0 < (rd t b).natAbs := Int.natAbs_pos.mpr hd
  refine ⟨?_, ?_, ?_, ?_, ?_⟩
  · by_cases hb : b < 0
    · have e : rd t b = -(rg t b) := if_pos hb
      rw [e] at h2
      by_cases hn : 0 < nB t b
      · exact hn
      · exfalso
        have : 0 ≤ -(rg t b) * nB t b := by
          rw [Int.neg_mul]
          have := Int.mul_nonneg (Int.le_of_lt hg) (show 0 ≤ -(nB t b) by omega)
          rw [Int.mul_neg] at this
          exact this
        omega
    · have e : rd t b = rg t b := if_neg hb
      rw [e] at h2
      by_cases hn : 0 < nB t b
      · exact hn
      · exfalso
        have := Int.mul_nonneg (Int.le_of_lt hg) (show 0 ≤ -(nB t b) by omega)
        rw [Int.mul_neg] at this
        omega
  · have e : nT t b * b = nT t b * (rd t b * nB t b) := congrArg (nT t b * ·) h2
    have e2 : t * nB t b = rd t b * nT t b * nB t b := congrArg (· * nB t b) h1
    rw [e, e2, ← Int.mul_assoc, Int.mul_comm (nT t b)]
  · rw [a1]
    exact Nat.le_mul_of_pos_left _ p
  · rw [a2]
    exact Nat.le_mul_of_pos_left _ p
  · have g := rd_abs t b
    rw [a1, a2, Nat.gcd_mul_left] at g
    have : (rd t b).natAbs * 1 = (rd t b).natAbs * Nat.gcd (nT t b).natAbs (nB t b).natAbs := by
      rw [Nat.mul_one]
      have e1 := congrArg Int.natAbs h1
      have e2 := congrArg Int.natAbs h2
      rw [Int.natAbs_mul] at e1 e2
      exact g
    exact (Nat.eq_of_mul_eq_mul_left p this).symm
theorem low_uniq {t b T B T' B' : Int} (hb : b ≠ 0) (h : LowT t b T B) (h' : LowT t b T' B') : T = T' ∧ B = B' := by
  have e : T * B' = T' * B := by
    have h1 : T * B' * b = T' * B * b := by
      have x1 : T * B' * b = (T * b) * B' := by rw [Int.mul_assoc, Int.mul_comm B', ← Int.mul_assoc]
      have x2 : T' * B * b = (T' * b) * B := by rw [Int.mul_assoc, Int.mul_comm B, ← Int.mul_assoc]
      rw [x1, x2, h.eq, h'.eq, Int.mul_assoc, Int.mul_assoc, Int.mul_comm B]
    exact Int.eq_of_mul_eq_mul_right hb h1
  have n : T.natAbs * B'.natAbs = T'.natAbs * B.natAbs := by
    rw [← Int.natAbs_mul, ← Int.natAbs_mul, e]
  have d1 : B.natAbs ∣ B'.natAbs := by
    have : B.natAbs ∣ T.natAbs * B'.natAbs := n ▸ Nat.dvd_mul_left ..
    exact (Nat.Coprime.symm h.cop).dvd_of_dvd_mul_left this
  have d2 : B'.natAbs ∣ B.natAbs := by
    have : B'.natAbs ∣ T'.natAbs * B.natAbs := n ▸ Nat.dvd_mul_left ..
    exact (Nat.Coprime.symm h'.cop).dvd_of_dvd_mul_left this
  have eb : B.natAbs = B'.natAbs := Nat.dvd_antisymm d1 d2
  have p := h.pos
  have p' := h'.pos
  have eB : B = B' := by omega
  subst eB
  exact ⟨Int.eq_of_mul_eq_mul_right (by omega) e, rfl⟩
/-! ### Euclid's turns -/
/-- ahead of turn i; g the greatest common divisor, the first product below 6 ^ m -/
structure Eu (g m i : Nat) (a b : Nat) : Prop where
  gc : Nat.gcd a b = g
  pot : (i = 0 ∧ a * b < 6 ^ m) ∨ (∃ j, i = 2 * j + 1 ∧ b ≤ a ∧ 0 < a ∧ a * b * 6 ^ j < 6 ^ m) ∨ (∃ j, i = 2 * j + 2 ∧ b ≤ a ∧ 0 < a ∧ (a + b) * a * 6 ^ j < 6 ^ m)
theorem eu_zero {g m i a : Nat} (h : Eu g m i a 0) : a = g := by
  have := h.gc
  rw [Nat.gcd_zero_right] at this
  exact this
theorem six_br {a b r : Nat} (h : b + r ≤ a) (hr : r ≤ b) : b * r * 6 ≤ (a + b) * a := by
  obtain ⟨c, rfl⟩ : ∃ c, b = r + c := ⟨b - r, by omega⟩
  have h1 : (r + c + r + (r + c)) * (r + c + r) ≤ (a + (r + c)) * a := Nat.mul_le_mul (by omega) h
  refine Nat.le_trans ?_ h1
  have e1 : (r + c) * r * 6 = 6 * (r * r) + 6 * (c * r) := by
    rw [Nat.add_mul]
    omega
  have e2 : (r + c + r + (r + c)) * (r + c + r) = 6 * (r * r) + 7 * (c * r) + 2 * (c * c) := by
    have : r + c + r + (r + c) = 3 * r + 2 * c := by omega
    rw [this]
    have : r + c + r = 2 * r + c := by omega
    rw [this, Nat.add_mul, Nat.mul_add, Nat.mul_add]
    have q1 : 3 * r * (2 * r) = 6 * (r * r) := by
      rw [Nat.mul_mul_mul_comm]
    have q2 : 3 * r * c = 3 * (c * r) := by
      rw [Nat.mul_assoc, Nat.mul_comm r c]
    have q3 : 2 * c * (2 * r) = 4 * (c * r) := by
      rw [Nat.mul_mul_mul_comm]
    have q4 : 2 * c * c = 2 * (c * c) := Nat.mul_assoc ..
    rw [q1, q2, q3, q4]
    omega
  omega
theorem eu_step {g m i a b : Nat} (h : Eu g m i a b) (hb : 0 < b) : Eu g m (i + 1) b (a % b) := by
  have hr : a % b < b := Nat.mod_lt a hb
  refine ⟨?_, ?_⟩
  · rw [← h.gc, Nat.gcd_comm a b, Nat.gcd_rec b a, Nat.gcd_comm]
  · rcases h.pot with ⟨rfl, p⟩ | ⟨j, rfl, hle, _, p⟩ | ⟨j, rfl, hle, _, p⟩
    · refine .inr (.inl ⟨0, by omega, by omega, hb, ?_⟩)
      rw [Nat.pow_zero, Nat.mul_one]
      refine Nat.lt_of_le_of_lt ?_ p
      rw [Nat.mul_comm]
      exact Nat.mul_le_mul_right _ (Nat.mod_le a b)
    · refine .inr (.inr ⟨j, by omega, by omega, hb, ?_⟩)
      refine Nat.lt_of_le_of_lt (Nat.mul_le_mul_right _ ?_) p
      have e := Nat.div_add_mod a b
      have q : 1 ≤ a / b := Nat.div_pos hle hb
      have : b * 1 ≤ b * (a / b) := Nat.mul_le_mul_left b q
      exact Nat.mul_le_mul (by omega) (Nat.le_refl b)
    · refine .inr (.inl ⟨j + 1, by omega, by omega, hb, ?_⟩)
      refine Nat.lt_of_le_of_lt ?_ p
      have e := Nat.div_add_mod a b
      have q : 1 ≤ a / b := Nat.div_pos hle hb
      have q2 : b * 1 ≤ b * (a / b) := Nat.mul_le_mul_left b q
      have s := six_br (a := a) (b := b) (r := a % b) (by omega) (by omega)
      rw [Nat.pow_succ, Nat.mul_comm (6 ^ j) 6, ← Nat.mul_assoc]
      exact Nat.mul_le_mul_right _ s
theorem eu_end {g m n a b : Nat} (h : Eu g m (2 * n + 2) a b) (hm : m ≤ n) : False := by
  rcases h.pot with ⟨h0, _⟩ | ⟨j, hj, _⟩ | ⟨j, hj, _, ha, p⟩
  · omega
  · omega
  · have e : j = n := by omega
    subst e
    have h1 : 1 * 6 ^ m ≤ (a + b) * a * 6 ^ j := Nat.mul_le_mul (Nat.mul_pos (by omega) ha) (Nat.pow_le_pow_right (by decide) hm)
    omega

/-! ### own classes and errors: rules that the layer lacks -/
section
variable {X : Cx}
/-- a field's read, its K by another name -/
theorem pe_fldK {K : PySem.W.Frag} {e : Expr} {f : Str} {pos : Pos} {ta : TE} (he : PE X e ta) (hb : attributeBase e f X.env (eval e X.env) = eval e X.env) (hK : X.K = K := by rfl) : PE X (.Attribute e f pos) (tFld K ta f) := by
  subst hK
  exact pe_fld he hb
/-- floor division by a divisor of either sign -/
def CDivWN (_ j : Int) : Prop := j ≠ 0 ∧ j.natAbs.log2 < 9000
theorem op_fdivWN : OpR X (binaryOp .FloorDiv) (rI CDivWN fun i j => .int (i.fdiv j)) := opI fun _ _ _ _ _ _ _ c k => floordiv_int c.1 k (.inl (PyProof.noPylong_of_log2 c.2))
/-- a new instance whose __init__ may let an error out, wished for at the slots that stand -/
theorem made_at {CX : CXT} {n : Nat} {g D : Addr} {gd : FuncData} {qs : List Str} {pr : Sp} {Ex : L2.St → XK} {us0 : List Value} {vs0 : List V} {pn : List (Addr × Obj)} {τ : L2.St} {H0 : Hp} {st : Shared} {W : VK} {as : List Value} {xs : List V}
    (MK : Mk X.K D g) (OK : FnOk X.prog X.w X.K X.mg X.base CX n g gd qs pr) (room : Room (n + 1) X.A) (bd : Binds X.K gd qs us0) (dv : Vals vs0 us0) (out : PassesAt CX X τ (Ex τ)) (J : Inv X pn τ H0 st) (rel : Vals xs as)
    (go : ∀ p q, H0 p = none → H0 q = none → q ≠ p → pr (.ref p :: (xs ++ vs0)) (upd (upd H0 q (.own p)) p (.ins D q [])) (fun v H2 => v = .non ∧ W (.ref p) H2) (Ex τ)) :
    wpAny (model X.prog X.w) X.A (call (.ref D) as) (EP X pn τ W) X.xe st := by
  have new1 := J.hok.fresh (Nat.le_succ st.heap.objs.size)
  have new2 := J.hok.fresh (Nat.le_refl st.heap.objs.size)
  have asked := go _ _ new1 new2 (Nat.ne_of_lt (Nat.lt_succ_self _))
  have J2 := Inv.made (C := D) J
  have rel2 : Vals (V.ref (st.heap.objs.size + 1) :: (xs ++ vs0)) (Value.ref (st.heap.objs.size + 1) :: (as ++ us0)) :=
    .cons rfl (rel.append dv)
  have len2 : (Value.ref (st.heap.objs.size + 1) :: as ++ us0).length = qs.length := (rel2.length.symm).trans (OK.len _ _ _ _ asked)
  have env2 := J2.env0.make D as []
  have bound := bd _ (Value.ref (st.heap.objs.size + 1) :: as) J2.kIn len2
  have ran := OK.run _ X.stack _ _ _ _ _ _ (Ex τ) (room.make D as []) env2 bound rel2 asked
  refine wpAny_call (make_map (f := g) J.kIn MK.makes MK.init (beq_iff_eq.mp MK.fn) (codeAny_mono ran ?_))
  rintro (e | fl) s' back
  · exact out pn _ _ e s' J2 back
  · cases fl with
    | ret u =>
      obtain ⟨v, H', J3, rv, rfl, w3⟩ := J2.after back
      exact ⟨rv, V.ref (st.heap.objs.size + 1), _, J3, rfl, w3⟩
    | next => exact back.elim
    | brk => exact back.elim
    | cont => exact back.elim
def tMakeS (D : Addr) (pr : Sp) (vs0 : List V) (Ex : L2.St → XK) (t : TA) : TE := fun τ H Q => t τ H fun xs H1 => ∀ p q, H1 p = none → H1 q = none → q ≠ p →
  pr (.ref p :: (xs ++ vs0)) (upd (upd H1 q (.own p)) p (.ins D q [])) (fun v H2 => v = .non ∧ Q (.ref p) H2) (Ex τ)
theorem pe_makeS {CX : CXT} {n : Nat} {g D : Addr} {gd : FuncData} {qs : List Str} {pr : Sp} {Ex : L2.St → XK} {us0 : List Value} {vs0 : List V} {x : Str} {p pos : Pos} {e : Expr} {es : List Expr} {t : TA}
    (MK : Mk X.K D g) (OK : FnOk X.prog X.w X.K X.mg X.base CX n g gd qs pr) (room : Room (n + 1) X.A) (gl : Gl X x) (at_ : X.mg x = some (.ref D)) (bd : Binds X.K gd qs us0) (dv : Vals vs0 us0) (out : ∀ τ, PassesAt CX X τ (Ex τ)) (args : PA X (e :: es) t)
    (hdb : (x == ("__debug__" : Str)) = false := by decide) (he : starEach (e :: es) X.env = (false, eval e X.env) :: starEach es X.env := by rfl) (hpl : (backTo pos (starEach es X.env)).any (·.1) = false := by rfl) :
    PE X (.Call (.Name x p) (e :: es) [] pos) (tMakeS D pr vs0 Ex t) :=
  ⟨fun pn s τ H Q J h => wpAny_Call_Name_kw (ld_glob J gl at_ (PySem.W.callWith_K (h₀ := X.base) J.ok.mod.kin MK.kp (thn (args.run pos pn s τ H _ J h) fun _ _ ⟨_, _, J1, rel, go⟩ => ⟨J1.kIn, made_at MK OK room bd dv (out τ) J1 rel go⟩) he hpl) hdb)⟩
/-- isinstance(e, c) in a suite, e the error that it holds (of an own class at D, without a dict of its own) -/
def rIsX (K : PySem.W.Frag) (a : Addr) (cls : Value) (d : Option Addr) : List V → Hp → VK → Prop := fun xs H Q => ∃ D : Addr, ExcC K D ∧ cls = .ref D ∧ d = none ∧ rIsE K D a xs H Q
theorem call_isX {K : PySem.W.Frag} {a : Addr} {cls : Value} {d : Option Addr} {oe : Obj} {pn : List (Addr × Obj)} (hz : Zc cls d oe) (hf : ∃ vs, oe.data = .fields vs) (hK : X.K = K := by rfl) :
    CallR (X.suite a ((a, oe) :: pn)) (.builtin "isinstance") (rIsX K a cls d) := by
  intro pins s σ H xs us Q I r h
  subst hK
  obtain ⟨D, ec, rfl, rfl, h⟩ := h
  exact call_isE ec hz hf pins s σ H xs us Q I r h
end
theorem lk_one {k : Str} {v : V} {r : List (Str × V)} : List.lookup k ((k, v) :: r) = some v := by
  simp [List.lookup]
theorem lk_two {k g : Str} {v : V} {r : List (Str × V)} (h : (k == g) = false) : List.lookup k ((g, v) :: r) = List.lookup k r := by
  simp only [List.lookup, h]

/-! ### a Ratio in the heap -/
def rF (T B : Int) : List (Str × V) := [("top", .int T), ("bottom", .int B)]
def RatAt (C : Addr) (H : Hp) (p : Addr) (T B : Int) : Prop := ∃ dx, H p = some (.ins C dx (rF T B))
theorem rF_top (T B : Int) : (rF T B).lookup ("top" : Str) = some (.int T) := lk_one
theorem rF_bot (T B : Int) : (rF T B).lookup ("bottom" : Str) = some (.int B) := (lk_two (by decide +kernel)).trans lk_one
theorem rF_new (T B : Int) : putF "bottom" (.int B) (putF "top" (.int T) []) = rF T B := by
  show (if ("top" : Str) = "bottom" then _ else _) = _
  rw [if_neg (by decide +kernel)]
  rfl
theorem RatAt.same {C : Addr} {H H' : Hp} {p : Addr} {T B : Int} (s : Same H H') (h : RatAt C H p T B) : RatAt C H' p T B := by
  obtain ⟨dx, h⟩ := h
  exact ⟨dx, s _ _ h⟩
/-- not too long to divide by -/
def Sm (b : Int) : Prop := ∃ n, 0 < n ∧ n ≤ 8000 ∧ b.natAbs < 2 ^ n
theorem sm_of {b : Int} {n : Nat} (h : b.natAbs < 2 ^ n) (h0 : 0 < n := by decide) (hn : n ≤ 8000 := by decide) : Sm b := ⟨n, h0, hn, h⟩
theorem Sm.le {a b : Int} (h : Sm b) (hl : a.natAbs ≤ b.natAbs) : Sm a := by
  obtain ⟨n, h0, h1, h2⟩ := h
  exact ⟨n, h0, h1, Nat.lt_of_le_of_lt hl h2⟩
theorem Sm.log {a : Int} (h : Sm a) : a.natAbs.log2 < 8000 := by
  obtain ⟨n, h0, h1, h2⟩ := h
  exact Nat.lt_of_lt_of_le (PySem.Flt.log2_lt_of h0 h2) h1
theorem Sm.mul {a b : Int} (h : Sm a) (h' : Sm b) : CMulW a b := by
  have x := h.log
  have y := h'.log
  unfold CMulW
  omega
theorem rd_div {t b : Int} (h : b ≠ 0) (hs : Sm b) (i : Int) : CDivWN i (rd t b) := by
  refine ⟨rd_ne h, ?_⟩
  have h1 : (rd t b).natAbs ≤ b.natAbs := by
    rw [rd_abs]
    exact Nat.gcd_le_right _ (Int.natAbs_pos.mpr h)
  exact Nat.lt_of_lt_of_le (hs.le h1).log (by decide)

/-! ### numbers: a Ratio or an int -/
def NumAt (C : Addr) (H : Hp) (y : V) (T B : Int) : Prop := (∃ q, y = .ref q ∧ RatAt C H q T B) ∨ (y = .int T ∧ B = 1)
theorem RatAt.num {C : Addr} {H : Hp} {p : Addr} {T B : Int} (h : RatAt C H p T B) : NumAt C H (.ref p) T B := .inl ⟨p, rfl, h⟩
theorem NumAt.same {C : Addr} {H H' : Hp} {y : V} {T B : Int} (s : Same H H') (h : NumAt C H y T B) : NumAt C H' y T B := by
  rcases h with ⟨q, e, r⟩ | h
  · exact .inl ⟨q, e, r.same s⟩
  · exact .inr h
/-- what the operator rules ask of the second operand -/
theorem NumAt.arg {C : Addr} {H : Hp} {y : V} {T B : Int} (h : NumAt C H y T B) : (∃ b dy gs, y = .ref b ∧ H b = some (.ins C dy gs)) ∨ ∃ n, y = .int n := by
  rcases h with ⟨q, rfl, dx, e⟩ | ⟨rfl, _⟩
  · exact .inl ⟨q, dx, _, rfl, e⟩
  · exact .inr ⟨T, rfl⟩
theorem RatAt.self {C : Addr} {H : Hp} {p : Addr} {T B : Int} (h : RatAt C H p T B) : ∃ a dx fs, (V.ref p : V) = .ref a ∧ H a = some (.ins C dx fs) := by
  obtain ⟨dx, e⟩ := h
  exact ⟨p, dx, _, rfl, e⟩
theorem low_any {t b T B : Int} (hb : b ≠ 0) (pos : 0 < B) (cop : Nat.gcd T.natAbs B.natAbs = 1) (eq : T * b = t * B) : LowT t b T B := by
  have n : T.natAbs * b.natAbs = t.natAbs * B.natAbs := by
    rw [← Int.natAbs_mul, ← Int.natAbs_mul, eq]
  have d1 : B.natAbs ∣ b.natAbs := by
    have : B.natAbs ∣ T.natAbs * b.natAbs := n ▸ Nat.dvd_mul_left ..
    exact (Nat.Coprime.symm cop).dvd_of_dvd_mul_left this
  have d2 : T.natAbs ∣ t.natAbs := by
    have : T.natAbs ∣ t.natAbs * B.natAbs := n ▸ Nat.dvd_mul_right ..
    exact Nat.Coprime.dvd_of_dvd_mul_right cop this
  refine ⟨pos, eq, ?_, Nat.le_of_dvd (Int.natAbs_pos.mpr hb) d1, cop⟩
  rcases Nat.eq_zero_or_pos t.natAbs with z | z
  · rw [z, Nat.zero_mul] at n
    rcases Nat.mul_eq_zero.mp n with h | h
    · omega
    · exact absurd h (by have := Int.natAbs_pos.mpr hb; omega)
  · exact Nat.le_of_dvd z d2
theorem low_int (n : Int) : LowT n 1 n 1 := ⟨by decide, rfl, Nat.le_refl _, Nat.le_refl _, by simp⟩
theorem LowT.to {t b t' b' T B : Int} (h : LowT t b T B) (hb : b ≠ 0) (hb' : b' ≠ 0) (e : t * b' = t' * b) : LowT t' b' T B := by
  refine low_any hb' h.pos h.cop ?_
  have q := h.eq
  have : b * (T * b') = b * (t' * B) := by grind
  exact Int.eq_of_mul_eq_mul_left hb this
/-! ### operators of an own class -/
section
variable {prog : Program} {w : World} {A : Around} {E : Value → Shared → Prop} {s : Shared} {K : PySem.W.Frag}
/-- an int's own operator declines an instance -/
theorem declines_bin {id nm : String} {name : Str} {g : Int → Int → Sem Fin} {n : Int} {t : Tok} {a C dx : Addr} {Q : Value → Shared → Prop} (ha : s.heap.get? a = some (PySem.W.instObj C dx)) (slot : Slot "int" name id)
    (entry : entryFor table id = some (Builtin.Int.intBinary nm g)) (args : argsOk id ⟨[.int n t, .ref a], []⟩) (h : Q .notImplemented s) :
    wpAny (model prog w) A (call (.builtin id) [.int n t, .ref a]) Q E s := by
  refine GQ.call_here slot (by first | exact rfl | trivial) entry args ?_
  have e1 : slotArgs nm 1 ⟨[.int n t, .ref a], []⟩ = pure (.int n t, [.ref a]) := rfl
  have e2 : Builtin.Int.intOfSelf (.int n t) = pure n := rfl
  unfold Builtin.Int.intBinary
  rw [e1]
  refine wpAny_bind (wpAny_pure ?_)
  dsimp only
  rw [e2]
  refine wpAny_bind (wpAny_pure ?_)
  refine wpAny_bind ?_
  show wpAny (model prog w) A.in1 (asInt? (.ref a)) _ _ s
  unfold asInt?
  refine wpAny_bind (wpAny_load ha ?_)
  refine wpAny_pure ?_
  refine wpAny_bind (wpAny_rule ?_)
  exact wpAny_pure h
end
section
variable {prog : Program} {w : World} {A : Around} {E : Value → Shared → Prop} {s : Shared} {K : PySem.W.Frag}
/-- n op a: the int's own operator declines, then a's reflected one is asked -/
theorem bin_refl {op : Operator} {id nm : String} {g : Int → Int → Sem Fin} {n : Int} {t : Tok} {a C dx f : Addr} {od : Option Obj} {Q : Value → Shared → Prop} (X : K.In s.heap) (ha : s.heap.get? a = some (PySem.W.instObj C dx)) (J : PySem.W.InstAt s.heap a (PySem.W.instObj C dx) C od)
    (first : PySem.W.selfFirst K C = true) (slot : Slot "int" (dunder op.info.2) id) (entry : entryFor table id = some (Builtin.Int.intBinary nm g)) (args : argsOk id ⟨[.int n t, .ref a], []⟩)
    (fillI : fillsNumberSlot (.type "int") op.info.2 = pure true) {f0 : Addr} (own : PySem.W.findIn K (.ref C) (dunder op.info.2) = some (some (.ref f0))) (sub : PySem.W.subIn K (.ref C) (.type "int") = some false)
    (hr : PySem.W.findIn K (.ref C) (dunderR op.info.2) = some (some (.ref f))) (hf : PySem.W.isFn K (.ref f) = true)
    (h : wpAny (model prog w) A (call (.ref f) [.ref a, .int n t]) (PySem.W.CmpBack Q) E s) : wpAny (model prog w) A (binaryOp op (.int n t) (.ref a)) Q E s := by
  obtain ⟨cd, rest, hcd, hm⟩ := PySem.W.ksp_first first
  have back := PySem.W.ksp_try X J hr hf h
  rcases hi : op.info with ⟨sym, nm'⟩
  rw [hi] at slot fillI own hr back
  dsimp only at slot fillI own hr back
  have f1 : PySem.W.Looks (model prog w) s.heap (fillsNumberSlot (.ref C) nm') true := PySem.W.fills_K X hcd hm own
  have ne : (Value.type "int" == Value.ref C) = false := Bool.eq_false_iff.mpr fun z => by cases beq_iff_eq.mp z
  unfold binaryOp
  refine wpAny_holding ?_
  simp only [hi]
  refine wpAny_bind ?_
  unfold binaryOp1
  refine wpAny_bind (wpAny_typeOf (T := "int") (by exact rfl) (wpAny_bind (J.type.here (wpAny_bind (wpAny_of_eq fillI ?_)))))
  simp only [ne, Bool.false_eq_true, if_false]
  refine wpAny_bind (f1.here ?_)
  simp only [Bool.and_self, if_true]
  refine wpAny_bind ((PySem.W.looks_subIn X sub).here ?_)
  have hpy : numberSlotInPython (.type "int") nm' = pure false := rfl
  simp only [Bool.false_eq_true, if_false, pure_bind, Bool.not_false, Bool.and_self, if_true, hpy]
  refine wpAny_bind (wpAny_tryMethod_declines (T := "int") (by exact rfl) slot (declines_bin ha slot entry args ⟨rfl, ?_⟩))
  dsimp only
  refine wpAny_bind (wpAny_mono back (fun r s' z => ?_) fun _ _ z => z)
  obtain ⟨v, rfl, q⟩ := z
  exact wpAny_bind (wpAny_rule (wpAny_pure (wpAny_pure q)))
end
section
variable {X : Cx} {CX : CXT} {k : Nat} {f C : Addr} {fd : FuncData} {ps : List Str} {sp : Sp} {ds : List Value} {E : XK}
theorem ep_back {pins : List (Addr × Obj)} {σ : L2.St} {Q : VK} {u : Value} {s' : Shared} (h : EP X pins σ Q u s') : PySem.W.CmpBack (EP X pins σ Q) u s' := by
  obtain ⟨v, H', J, r, q⟩ := h
  cases u <;> first
    | exact ⟨v, H', J, r, q⟩
    | (exfalso; cases v <;> first | (obtain ⟨_, z⟩ := r; cases z) | cases r)
/-- x op y by the class's own operator; y an instance of the class, or an int -/
def rOwn (C : Addr) (sp : Sp) (E : XK) : R2 := fun x y H Q => (∃ a dx fs, x = .ref a ∧ H a = some (.ins C dx fs)) ∧ ((∃ b dy gs, y = .ref b ∧ H b = some (.ins C dy gs)) ∨ ∃ n, y = .int n) ∧ sp [x, y] H Q E
/-- n op a by the class's reflected operator -/
def rRef (C : Addr) (sp : Sp) (E : XK) : R2 := fun x y H Q => (∃ n, x = .int n) ∧ (∃ a dx fs, y = .ref a ∧ H a = some (.ins C dx fs)) ∧ sp [y, x] H Q E
theorem inst_of {pins : List (Addr × Obj)} {σ : L2.St} {H : Hp} {s : Shared} {a C dx : Addr} {fs : List (Str × V)} (I : Inv X pins σ H s) (e : H a = some (.ins C dx fs)) :
    s.heap.get? a = some (PySem.W.instObj C dx) ∧ ∃ od, PySem.W.InstAt s.heap a (PySem.W.instObj C dx) C (some od) := by
  obtain ⟨mA, O, _⟩ := ins_get I.hok e
  obtain ⟨od, J, _⟩ := O.look
  exact ⟨O.obj, od, J⟩
theorem op_own {op : Operator} {fo ro rc : Option Value} (M : Meth X.K C (dunder op.info.2) f) (first : PySem.W.selfFirst X.K C = true) (hr : PySem.W.findIn X.K (.ref C) (dunderR op.info.2) = some rc) (hp : rc = none ∨ ∃ g : Addr, rc = some (.ref g))
    (h1 : PySem.W.findIn X.K (.type "int") (dunder op.info.2) = some fo) (h2 : PySem.W.findIn X.K (.type "int") (dunderR op.info.2) = some ro) (hsub : PySem.W.subIn X.K (.type "int") (.ref C) = some false)
    (G : FnOk X.prog X.w X.K X.mg X.base CX k f fd ps sp) (room : Room k X.A) (bd : Binds X.K fd ps []) (out : Passes CX X E) : OpR X (binaryOp op) (rOwn C sp E) := by
  intro pins s σ H x y v u Q I rx ry h
  obtain ⟨⟨a, dx, fs, rfl, ha⟩, hy, h⟩ := h
  cases (show v = Value.ref a from rx)
  obtain ⟨_, od, J⟩ := inst_of I ha
  obtain ⟨m, F⟩ := I.fr
  have ran : wpAny (model X.prog X.w) X.A (call (.ref f) [.ref a, u]) (PySem.W.CmpBack (EP X pins σ Q)) X.xe s :=
    wpAny_mono (run_fn (ds := []) G room bd .nil out I (.cons (show L2.RelV (.ref a) (.ref a) from rfl) (.cons ry .nil)) h) (fun _ _ z => ep_back z) fun _ _ z => z
  rcases hy with ⟨b, dy, gs, rfl, hb⟩ | ⟨n, rfl⟩
  · cases (show u = Value.ref b from ry)
    obtain ⟨_, od', J'⟩ := inst_of I hb
    exact PySem.W.binop_K F I.ok.mod.kin J J'.type first M.at_ M.fn ran
  · obtain ⟨t, rfl⟩ := (show ∃ t, u = Value.int n t from ry)
    exact PySem.W.ksp_binT F I.ok.mod.kin J (T := "int") rfl first M.at_ M.fn hr hp h1 h2 hsub ran
theorem op_ref {op : Operator} {id nm : String} {g : Int → Int → Sem Fin} {f0 : Addr} (M : Meth X.K C (dunderR op.info.2) f) (first : PySem.W.selfFirst X.K C = true) (own : PySem.W.findIn X.K (.ref C) (dunder op.info.2) = some (some (.ref f0)))
    (sub : PySem.W.subIn X.K (.ref C) (.type "int") = some false) (slot : Slot "int" (dunder op.info.2) id) (entry : entryFor table id = some (Builtin.Int.intBinary nm g)) (args : ∀ a b, argsOk id ⟨[a, b], []⟩) (fillI : fillsNumberSlot (.type "int") op.info.2 = pure true)
    (G : FnOk X.prog X.w X.K X.mg X.base CX k f fd ps sp) (room : Room k X.A) (bd : Binds X.K fd ps []) (out : Passes CX X E) : OpR X (binaryOp op) (rRef C sp E) := by
  intro pins s σ H x y v u Q I rx ry h
  obtain ⟨⟨n, rfl⟩, ⟨a, dx, fs, rfl, ha⟩, h⟩ := h
  cases (show u = Value.ref a from ry)
  obtain ⟨t, rfl⟩ := (show ∃ t, v = Value.int n t from rx)
  obtain ⟨ho, od, J⟩ := inst_of I ha
  have ran : wpAny (model X.prog X.w) X.A (call (.ref f) [.ref a, .int n t]) (PySem.W.CmpBack (EP X pins σ Q)) X.xe s :=
    wpAny_mono (run_fn (ds := []) G room bd .nil out I (.cons (show L2.RelV (.ref a) (.ref a) from rfl) (.cons rx .nil)) h) (fun _ _ z => ep_back z) fun _ _ z => z
  exact bin_refl I.kIn ho J first slot entry (args _ _) fillI own sub M.at_ M.fn ran
/-- -a -/
def rNeg (C : Addr) (sp : Sp) (E : XK) : V → Hp → VK → Prop := fun x H Q => (∃ a dx fs, x = .ref a ∧ H a = some (.ins C dx fs)) ∧ sp [x] H Q E
theorem un_own (M : Meth X.K C "__neg__" f) (G : FnOk X.prog X.w X.K X.mg X.base CX k f fd ps sp) (room : Room k X.A) (bd : Binds X.K fd ps []) (out : Passes CX X E) : UnR X (unaryOp .USub) (rNeg C sp E) := by
  intro pins s σ H x v Q I rx h
  obtain ⟨⟨a, dx, fs, rfl, ha⟩, h⟩ := h
  cases (show v = Value.ref a from rx)
  obtain ⟨_, od, J⟩ := inst_of I ha
  obtain ⟨m, F⟩ := I.fr
  exact PySem.W.ksp_neg F I.ok.mod.kin J M.at_ M.fn (run_fn (ds := []) G room bd .nil out I (.cons (show L2.RelV (.ref a) (.ref a) from rfl) .nil) h)
end
section
variable {X : Cx} {CX : CXT} {k : Nat} {f C : Addr} {fd : FuncData} {ps : List Str} {sp : Sp} {ds : List Value} {E : XK}
/-- abs(a) by the class's own -/
def rAbsO (C : Addr) (sp : Sp) (E : XK) : List V → Hp → VK → Prop := fun xs H Q => ∃ a dx fs, xs = [.ref a] ∧ H a = some (.ins C dx fs) ∧ sp [.ref a] H Q E
/-- a def called where the frames are X's, one room further in -/
theorem run_in {B : Around} {pins : List (Addr × Obj)} {σ : L2.St} {H : Hp} {s : Shared} {Q : VK} {us : List Value} {vs : List V} (G : FnOk X.prog X.w X.K X.mg X.base CX k f fd ps sp) (room : Room k B) (fr : B.frames = X.A.frames) (bd : Binds X.K fd ps []) (out : Passes CX X E)
    (I : Inv X pins σ H s) (rel : Vals vs us) (h : sp vs H Q E) : wpAny (model X.prog X.w) B (call (.ref f) us) (EP X pins σ Q) X.xe s := by
  have n : us.length = ps.length := rel.length.symm.trans (G.len _ _ _ _ h)
  have bound := bd s us I.kIn (by rw [List.append_nil]; exact n)
  rw [List.append_nil] at bound
  have env := I.env0
  refine wpAny_call (codeAny_mono (G.run B X.stack s H ⟨us, []⟩ us vs Q E room ⟨fr.trans env.frames, env.mod, env.bs, env.bsz, env.funs, env.frf, env.hok, env.bare⟩ bound rel h) ?_)
  rintro (e | fl) s' back
  · exact out pins σ H s e s' I back
  · cases fl with
    | ret u => exact I.after back
    | next => exact back.elim
    | brk => exact back.elim
    | cont => exact back.elim
theorem call_absO (M : Meth X.K C "__abs__" f) (G : FnOk X.prog X.w X.K X.mg X.base CX k f fd ps sp) (room : Room (k + 1) X.A) (bd : Binds X.K fd ps []) (out : Passes CX X E) : CallR X (.builtin "abs") (rAbsO C sp E) := by
  intro pins s σ H xs us Q I r h
  obtain ⟨a, dx, fs, rfl, ha, h⟩ := h
  obtain ⟨u, rfl, rx⟩ := vals1 r
  cases (show u = Value.ref a from rx)
  obtain ⟨_, od, J⟩ := inst_of I ha
  refine PySem.Calls.call_function_entry PyProof.Rows.kind_abs PyProof.Rows.plain_abs PyProof.Rows.entry_abs (PyProof.Rows.args_abs _) ?_
  unfold Builtin.«abs»
  refine wpAny_bind (m := oneArg "abs" _) (wpAny_pure ?_)
  refine wpAny_bind (PySem.W.special_fn I.kIn J M.at_ (beq_iff_eq.mp M.fn) ?_)
  refine wpAny_mono (run_in (B := X.A.in1) G room.in1 rfl bd out I (.cons (show L2.RelV (.ref a) (.ref a) from rfl) .nil) h) (fun v s' z => ?_) fun _ _ z => z
  exact wpAny_pure ⟨_, rfl, z⟩
end

/-! ### methods and operators that may let an error out, wished for at the slots that stand -/
section
variable {X : Cx} {CX : CXT} {k : Nat} {f C : Addr} {fd : FuncData} {ps : List Str} {sp : Sp} {Ex : L2.St → XK}
def tMethT (C : Addr) (m : Str) (sp : Sp) (Ex : L2.St → XK) (ta : TE) (t : TA) : TE := fun τ H Q => ta τ H fun x H1 => ∃ a dx fs, x = .ref a ∧ H1 a = some (.ins C dx fs) ∧ fs.lookup m = none ∧ t τ H1 fun vs H2 => sp (.ref a :: vs) H2 Q (Ex τ)
theorem pe_methT {pl : Sem Bool} {m : Str} {o e : Expr} {es : List Expr} {apos pos : Pos} {ta : TE} {t : TA} (ho : PE X o ta) (c : Cls X.K C) (M : Meth X.K C m f) (G : FnOk X.prog X.w X.K X.mg X.base CX k f fd ps sp) (room : Room k X.A) (bd : Binds X.K fd ps [])
    (out : ∀ τ, PassesAt CX X τ (Ex τ)) (args : PA X (e :: es) t) (hst : starEach (e :: es) X.env = (false, eval e X.env) :: starEach es X.env := by rfl) (hpl : (backTo pos (starEach es X.env)).any (·.1) = false := by rfl)
    (ht : eval (.Call (.Attribute o m apos) (e :: es) [] pos) X.env = (do
      let w0 ← eval o X.env
      standAt apos.atName
      let (fn, fst) ← holding [w0] (getMethod w0 m pl)
      callWith pos fn fst (backTo pos (starEach (e :: es) X.env)) (backToKw pos (keywordEach [] X.env))) := by rfl) :
    PE X (.Call (.Attribute o m apos) (e :: es) [] pos) (tMethT C m sp Ex ta t) := by
  refine ⟨fun pn st τ H Q J h => PySem.W.methodCall_KW (pl := pl) (thn (ho.run pn st τ H _ J h) ?_) ht⟩
  rintro u s1 ⟨x, H1, J1, rx, a, dx, fs, rfl, ea, l, go⟩
  cases (show u = Value.ref a from rx)
  refine getmeth_ok J1 ea c M l (PySem.W.callWith_K (first := [.ref a]) (h₀ := X.base) J1.ok.mod.kin M.kp (thn (args.run pos pn s1 τ H1 _ J1 go) ?_) hst hpl)
  rintro us s2 ⟨vs, H2, J2, r, go2⟩
  exact ⟨J2.kIn, run_fnS (us := .ref a :: us) (vs := .ref a :: vs) G room bd (out τ) J2 (.cons (show L2.RelV (.ref a) (.ref a) from rfl) r) go2⟩
end

/-- x op y by the class's own operator, in a try's body -/
def tOwnT (C : Addr) (sp : Sp) (Ex : L2.St → XK) (ta tb : TE) : TE := fun τ H Q => ta τ H fun x H1 => tb τ H1 fun y H2 => rOwn C sp (Ex τ) x y H2 Q
section
variable {X : Cx} {CX : CXT} {k : Nat} {f C : Addr} {fd : FuncData} {ps : List Str} {sp : Sp} {Ex : L2.St → XK}
theorem own_at {op : Operator} {fo ro rc : Option Value} (M : Meth X.K C (dunder op.info.2) f) (first : PySem.W.selfFirst X.K C = true) (hr : PySem.W.findIn X.K (.ref C) (dunderR op.info.2) = some rc) (hp : rc = none ∨ ∃ g : Addr, rc = some (.ref g))
    (h1 : PySem.W.findIn X.K (.type "int") (dunder op.info.2) = some fo) (h2 : PySem.W.findIn X.K (.type "int") (dunderR op.info.2) = some ro) (hsub : PySem.W.subIn X.K (.type "int") (.ref C) = some false)
    (G : FnOk X.prog X.w X.K X.mg X.base CX k f fd ps sp) (room : Room k X.A) (bd : Binds X.K fd ps []) {τ : L2.St} (out : PassesAt CX X τ (Ex τ)) {pins : List (Addr × Obj)} {s : Shared} {H : Hp} {x y : V} {v u : Value} {Q : VK}
    (I : Inv X pins τ H s) (rx : RelV x v) (ry : RelV y u) (h : rOwn C sp (Ex τ) x y H Q) : wpAny (model X.prog X.w) X.A (binaryOp op v u) (EP X pins τ Q) X.xe s := by
  obtain ⟨⟨a, dx, fs, rfl, ha⟩, hy, h⟩ := h
  cases (show v = Value.ref a from rx)
  obtain ⟨_, od, J⟩ := inst_of I ha
  obtain ⟨m, F⟩ := I.fr
  have ran : wpAny (model X.prog X.w) X.A (call (.ref f) [.ref a, u]) (PySem.W.CmpBack (EP X pins τ Q)) X.xe s :=
    wpAny_mono (run_fnS G room bd out I (.cons (show L2.RelV (.ref a) (.ref a) from rfl) (.cons ry .nil)) h) (fun _ _ z => ep_back z) fun _ _ z => z
  rcases hy with ⟨b, dy, gs, rfl, hb⟩ | ⟨n, rfl⟩
  · cases (show u = Value.ref b from ry)
    obtain ⟨_, od', J'⟩ := inst_of I hb
    exact PySem.W.binop_K F I.ok.mod.kin J J'.type first M.at_ M.fn ran
  · obtain ⟨t, rfl⟩ := (show ∃ t, u = Value.int n t from ry)
    exact PySem.W.ksp_binT F I.ok.mod.kin J (T := "int") rfl first M.at_ M.fn hr hp h1 h2 hsub ran
end

/-! ### the operators one by one -/
section
variable {X : Cx} {CX : CXT} {k : Nat} {f C : Addr} {fd : FuncData} {ps : List Str} {sp : Sp} {E : XK}
theorem d_add : dunder Operator.Add.info.2 = ("__add__" : Str) := by decide +kernel
theorem dR_add : dunderR Operator.Add.info.2 = ("__radd__" : Str) := by decide +kernel
theorem op_own_Add (M : Meth X.K C "__add__" f) (first : PySem.W.selfFirst X.K C = true) (hr : ∃ rc : Option Value, PySem.W.findIn X.K (.ref C) "__radd__" = some rc ∧ (rc = none ∨ ∃ g : Addr, rc = some (.ref g)))
    (hi : ∃ fo ro : Option Value, PySem.W.findIn X.K (.type "int") "__add__" = some fo ∧ PySem.W.findIn X.K (.type "int") "__radd__" = some ro) (hsub : PySem.W.subIn X.K (.type "int") (.ref C) = some false)
    (G : FnOk X.prog X.w X.K X.mg X.base CX k f fd ps sp) (room : Room k X.A) (bd : Binds X.K fd ps []) (out : Passes CX X E) : OpR X (binaryOp .Add) (rOwn C sp E) := by
  obtain ⟨rc, e1, e2⟩ := hr
  obtain ⟨fo, ro, e3, e4⟩ := hi
  exact op_own (op := .Add) (by rw [d_add]; exact M) first (by rw [dR_add]; exact e1) e2 (by rw [d_add]; exact e3) (by rw [dR_add]; exact e4) hsub G room bd out
theorem d_sub : dunder Operator.Sub.info.2 = ("__sub__" : Str) := by decide +kernel
theorem dR_sub : dunderR Operator.Sub.info.2 = ("__rsub__" : Str) := by decide +kernel
theorem op_own_Sub (M : Meth X.K C "__sub__" f) (first : PySem.W.selfFirst X.K C = true) (hr : ∃ rc : Option Value, PySem.W.findIn X.K (.ref C) "__rsub__" = some rc ∧ (rc = none ∨ ∃ g : Addr, rc = some (.ref g)))
    (hi : ∃ fo ro : Option Value, PySem.W.findIn X.K (.type "int") "__sub__" = some fo ∧ PySem.W.findIn X.K (.type "int") "__rsub__" = some ro) (hsub : PySem.W.subIn X.K (.type "int") (.ref C) = some false)
    (G : FnOk X.prog X.w X.K X.mg X.base CX k f fd ps sp) (room : Room k X.A) (bd : Binds X.K fd ps []) (out : Passes CX X E) : OpR X (binaryOp .Sub) (rOwn C sp E) := by
  obtain ⟨rc, e1, e2⟩ := hr
  obtain ⟨fo, ro, e3, e4⟩ := hi
  exact op_own (op := .Sub) (by rw [d_sub]; exact M) first (by rw [dR_sub]; exact e1) e2 (by rw [d_sub]; exact e3) (by rw [dR_sub]; exact e4) hsub G room bd out
theorem d_mul : dunder Operator.Mult.info.2 = ("__mul__" : Str) := by decide +kernel
theorem dR_mul : dunderR Operator.Mult.info.2 = ("__rmul__" : Str) := by decide +kernel
theorem op_own_Mult (M : Meth X.K C "__mul__" f) (first : PySem.W.selfFirst X.K C = true) (hr : ∃ rc : Option Value, PySem.W.findIn X.K (.ref C) "__rmul__" = some rc ∧ (rc = none ∨ ∃ g : Addr, rc = some (.ref g)))
    (hi : ∃ fo ro : Option Value, PySem.W.findIn X.K (.type "int") "__mul__" = some fo ∧ PySem.W.findIn X.K (.type "int") "__rmul__" = some ro) (hsub : PySem.W.subIn X.K (.type "int") (.ref C) = some false)
    (G : FnOk X.prog X.w X.K X.mg X.base CX k f fd ps sp) (room : Room k X.A) (bd : Binds X.K fd ps []) (out : Passes CX X E) : OpR X (binaryOp .Mult) (rOwn C sp E) := by
  obtain ⟨rc, e1, e2⟩ := hr
  obtain ⟨fo, ro, e3, e4⟩ := hi
  exact op_own (op := .Mult) (by rw [d_mul]; exact M) first (by rw [dR_mul]; exact e1) e2 (by rw [d_mul]; exact e3) (by rw [dR_mul]; exact e4) hsub G room bd out
theorem d_floordiv : dunder Operator.FloorDiv.info.2 = ("__floordiv__" : Str) := by decide +kernel
theorem dR_floordiv : dunderR Operator.FloorDiv.info.2 = ("__rfloordiv__" : Str) := by decide +kernel
theorem op_own_FloorDiv (M : Meth X.K C "__floordiv__" f) (first : PySem.W.selfFirst X.K C = true) (hr : ∃ rc : Option Value, PySem.W.findIn X.K (.ref C) "__rfloordiv__" = some rc ∧ (rc = none ∨ ∃ g : Addr, rc = some (.ref g)))
    (hi : ∃ fo ro : Option Value, PySem.W.findIn X.K (.type "int") "__floordiv__" = some fo ∧ PySem.W.findIn X.K (.type "int") "__rfloordiv__" = some ro) (hsub : PySem.W.subIn X.K (.type "int") (.ref C) = some false)
    (G : FnOk X.prog X.w X.K X.mg X.base CX k f fd ps sp) (room : Room k X.A) (bd : Binds X.K fd ps []) (out : Passes CX X E) : OpR X (binaryOp .FloorDiv) (rOwn C sp E) := by
  obtain ⟨rc, e1, e2⟩ := hr
  obtain ⟨fo, ro, e3, e4⟩ := hi
  exact op_own (op := .FloorDiv) (by rw [d_floordiv]; exact M) first (by rw [dR_floordiv]; exact e1) e2 (by rw [d_floordiv]; exact e3) (by rw [dR_floordiv]; exact e4) hsub G room bd out
theorem d_mod : dunder Operator.Mod.info.2 = ("__mod__" : Str) := by decide +kernel
theorem dR_mod : dunderR Operator.Mod.info.2 = ("__rmod__" : Str) := by decide +kernel
theorem op_own_Mod (M : Meth X.K C "__mod__" f) (first : PySem.W.selfFirst X.K C = true) (hr : ∃ rc : Option Value, PySem.W.findIn X.K (.ref C) "__rmod__" = some rc ∧ (rc = none ∨ ∃ g : Addr, rc = some (.ref g)))
    (hi : ∃ fo ro : Option Value, PySem.W.findIn X.K (.type "int") "__mod__" = some fo ∧ PySem.W.findIn X.K (.type "int") "__rmod__" = some ro) (hsub : PySem.W.subIn X.K (.type "int") (.ref C) = some false)
    (G : FnOk X.prog X.w X.K X.mg X.base CX k f fd ps sp) (room : Room k X.A) (bd : Binds X.K fd ps []) (out : Passes CX X E) : OpR X (binaryOp .Mod) (rOwn C sp E) := by
  obtain ⟨rc, e1, e2⟩ := hr
  obtain ⟨fo, ro, e3, e4⟩ := hi
  exact op_own (op := .Mod) (by rw [d_mod]; exact M) first (by rw [dR_mod]; exact e1) e2 (by rw [d_mod]; exact e3) (by rw [dR_mod]; exact e4) hsub G room bd out
theorem op_ref_Add (M : Meth X.K C "__radd__" f) (first : PySem.W.selfFirst X.K C = true) (own : ∃ f0 : Addr, PySem.W.findIn X.K (.ref C) "__add__" = some (some (.ref f0))) (hsub : PySem.W.subIn X.K (.ref C) (.type "int") = some false)
    (G : FnOk X.prog X.w X.K X.mg X.base CX k f fd ps sp) (room : Room k X.A) (bd : Binds X.K fd ps []) (out : Passes CX X E) : OpR X (binaryOp .Add) (rRef C sp E) := by
  obtain ⟨f0, e1⟩ := own
  exact op_ref (op := .Add) (by rw [dR_add]; exact M) first (by rw [d_add]; exact e1) hsub PySem.F.slot_int_add PySem.F.entry_int_add PySem.F.args_int_add_2 (by kernel_rfl) G room bd out
theorem op_ref_Sub (M : Meth X.K C "__rsub__" f) (first : PySem.W.selfFirst X.K C = true) (own : ∃ f0 : Addr, PySem.W.findIn X.K (.ref C) "__sub__" = some (some (.ref f0))) (hsub : PySem.W.subIn X.K (.ref C) (.type "int") = some false)
    (G : FnOk X.prog X.w X.K X.mg X.base CX k f fd ps sp) (room : Room k X.A) (bd : Binds X.K fd ps []) (out : Passes CX X E) : OpR X (binaryOp .Sub) (rRef C sp E) := by
  obtain ⟨f0, e1⟩ := own
  exact op_ref (op := .Sub) (by rw [dR_sub]; exact M) first (by rw [d_sub]; exact e1) hsub PySem.F.slot_int_sub PySem.F.entry_int_sub PySem.F.args_int_sub_2 (by kernel_rfl) G room bd out
theorem op_ref_Mult (M : Meth X.K C "__rmul__" f) (first : PySem.W.selfFirst X.K C = true) (own : ∃ f0 : Addr, PySem.W.findIn X.K (.ref C) "__mul__" = some (some (.ref f0))) (hsub : PySem.W.subIn X.K (.ref C) (.type "int") = some false)
    (G : FnOk X.prog X.w X.K X.mg X.base CX k f fd ps sp) (room : Room k X.A) (bd : Binds X.K fd ps []) (out : Passes CX X E) : OpR X (binaryOp .Mult) (rRef C sp E) := by
  obtain ⟨f0, e1⟩ := own
  exact op_ref (op := .Mult) (by rw [dR_mul]; exact M) first (by rw [d_mul]; exact e1) hsub PySem.F.slot_int_mul PySem.F.entry_int_mul PySem.F.args_int_mul_2 (by kernel_rfl) G room bd out
end
section
variable {X : Cx} {CX : CXT} {k : Nat} {f C : Addr} {fd : FuncData} {ps : List Str} {sp : Sp} {Ex : L2.St → XK} {a b : Expr} {ta tb : TE} {pos : Pos}
theorem pe_ownT_FloorDiv (M : Meth X.K C "__floordiv__" f) (first : PySem.W.selfFirst X.K C = true) (hr : ∃ rc : Option Value, PySem.W.findIn X.K (.ref C) "__rfloordiv__" = some rc ∧ (rc = none ∨ ∃ g : Addr, rc = some (.ref g)))
    (hi : ∃ fo ro : Option Value, PySem.W.findIn X.K (.type "int") "__floordiv__" = some fo ∧ PySem.W.findIn X.K (.type "int") "__rfloordiv__" = some ro) (hsub : PySem.W.subIn X.K (.type "int") (.ref C) = some false)
    (G : FnOk X.prog X.w X.K X.mg X.base CX k f fd ps sp) (room : Room k X.A) (bd : Binds X.K fd ps []) (out : ∀ τ, PassesAt CX X τ (Ex τ)) (ha : PE X a ta) (hb : PE X b tb) : PE X (.BinOp a .FloorDiv b pos) (tOwnT C sp Ex ta tb) := by
  obtain ⟨rc, e1, e2⟩ := hr
  obtain ⟨fo, ro, e3, e4⟩ := hi
  refine ⟨fun pn st τ H Q J h => wpAny_BinOp (binT ha hb J h fun v u s2 x y H2 J2 rx ry go => ?_)⟩
  exact own_at (op := .FloorDiv) (by rw [d_floordiv]; exact M) first (by rw [dR_floordiv]; exact e1) e2 (by rw [d_floordiv]; exact e3) (by rw [dR_floordiv]; exact e4) hsub G room bd (out τ) J2 rx ry go
theorem pe_ownT_Mod (M : Meth X.K C "__mod__" f) (first : PySem.W.selfFirst X.K C = true) (hr : ∃ rc : Option Value, PySem.W.findIn X.K (.ref C) "__rmod__" = some rc ∧ (rc = none ∨ ∃ g : Addr, rc = some (.ref g)))
    (hi : ∃ fo ro : Option Value, PySem.W.findIn X.K (.type "int") "__mod__" = some fo ∧ PySem.W.findIn X.K (.type "int") "__rmod__" = some ro) (hsub : PySem.W.subIn X.K (.type "int") (.ref C) = some false)
    (G : FnOk X.prog X.w X.K X.mg X.base CX k f fd ps sp) (room : Room k X.A) (bd : Binds X.K fd ps []) (out : ∀ τ, PassesAt CX X τ (Ex τ)) (ha : PE X a ta) (hb : PE X b tb) : PE X (.BinOp a .Mod b pos) (tOwnT C sp Ex ta tb) := by
  obtain ⟨rc, e1, e2⟩ := hr
  obtain ⟨fo, ro, e3, e4⟩ := hi
  refine ⟨fun pn st τ H Q J h => wpAny_BinOp (binT ha hb J h fun v u s2 x y H2 J2 rx ry go => ?_)⟩
  exact own_at (op := .Mod) (by rw [d_mod]; exact M) first (by rw [dR_mod]; exact e1) e2 (by rw [d_mod]; exact e3) (by rw [dR_mod]; exact e4) hsub G room bd (out τ) J2 rx ry go
end

/-! ### x op y where x is an int or an instance, y an instance (or, behind an instance, an int) -/
section
variable {X : Cx} {CX : CXT} {k j : Nat} {f g C : Addr} {fd gd : FuncData} {ps qs : List Str} {sp sq : Sp} {E : XK}
def rAny (C : Addr) (sp sq : Sp) (E : XK) : R2 := fun x y H Q => rOwn C sp E x y H Q ∨ rRef C sq E x y H Q
theorem op_any_Add (M : Meth X.K C "__add__" f) (N : Meth X.K C "__radd__" g) (first : PySem.W.selfFirst X.K C = true) (hi : ∃ fo ro : Option Value, PySem.W.findIn X.K (.type "int") "__add__" = some fo ∧ PySem.W.findIn X.K (.type "int") "__radd__" = some ro)
    (si : PySem.W.subIn X.K (.type "int") (.ref C) = some false) (sr : PySem.W.subIn X.K (.ref C) (.type "int") = some false) (G : FnOk X.prog X.w X.K X.mg X.base CX k f fd ps sp) (G2 : FnOk X.prog X.w X.K X.mg X.base CX j g gd qs sq)
    (room : Room k X.A) (room2 : Room j X.A) (bd : Binds X.K fd ps []) (bd2 : Binds X.K gd qs []) (out : Passes CX X E) : OpR X (binaryOp .Add) (rAny C sp sq E) := by
  intro pins s σ H x y v u Q I rx ry h
  rcases h with h | h
  · exact op_own_Add M first ⟨_, N.at_, .inr ⟨_, rfl⟩⟩ hi si G room bd out pins s σ H x y v u Q I rx ry h
  · exact op_ref_Add N first ⟨_, M.at_⟩ sr G2 room2 bd2 out pins s σ H x y v u Q I rx ry h
theorem op_any_Sub (M : Meth X.K C "__sub__" f) (N : Meth X.K C "__rsub__" g) (first : PySem.W.selfFirst X.K C = true) (hi : ∃ fo ro : Option Value, PySem.W.findIn X.K (.type "int") "__sub__" = some fo ∧ PySem.W.findIn X.K (.type "int") "__rsub__" = some ro)
    (si : PySem.W.subIn X.K (.type "int") (.ref C) = some false) (sr : PySem.W.subIn X.K (.ref C) (.type "int") = some false) (G : FnOk X.prog X.w X.K X.mg X.base CX k f fd ps sp) (G2 : FnOk X.prog X.w X.K X.mg X.base CX j g gd qs sq)
    (room : Room k X.A) (room2 : Room j X.A) (bd : Binds X.K fd ps []) (bd2 : Binds X.K gd qs []) (out : Passes CX X E) : OpR X (binaryOp .Sub) (rAny C sp sq E) := by
  intro pins s σ H x y v u Q I rx ry h
  rcases h with h | h
  · exact op_own_Sub M first ⟨_, N.at_, .inr ⟨_, rfl⟩⟩ hi si G room bd out pins s σ H x y v u Q I rx ry h
  · exact op_ref_Sub N first ⟨_, M.at_⟩ sr G2 room2 bd2 out pins s σ H x y v u Q I rx ry h
theorem op_any_Mult (M : Meth X.K C "__mul__" f) (N : Meth X.K C "__rmul__" g) (first : PySem.W.selfFirst X.K C = true) (hi : ∃ fo ro : Option Value, PySem.W.findIn X.K (.type "int") "__mul__" = some fo ∧ PySem.W.findIn X.K (.type "int") "__rmul__" = some ro)
    (si : PySem.W.subIn X.K (.type "int") (.ref C) = some false) (sr : PySem.W.subIn X.K (.ref C) (.type "int") = some false) (G : FnOk X.prog X.w X.K X.mg X.base CX k f fd ps sp) (G2 : FnOk X.prog X.w X.K X.mg X.base CX j g gd qs sq)
    (room : Room k X.A) (room2 : Room j X.A) (bd : Binds X.K fd ps []) (bd2 : Binds X.K gd qs []) (out : Passes CX X E) : OpR X (binaryOp .Mult) (rAny C sp sq E) := by
  intro pins s σ H x y v u Q I rx ry h
  rcases h with h | h
  · exact op_own_Mult M first ⟨_, N.at_, .inr ⟨_, rfl⟩⟩ hi si G room bd out pins s σ H x y v u Q I rx ry h
  · exact op_ref_Mult N first ⟨_, M.at_⟩ sr G2 room2 bd2 out pins s σ H x y v u Q I rx ry h
end

/-! ### the drawn numbers -/
theorem cut_map (ps : List Int) (lo hi : Option Int) : ∃ ms : List Int, cutV (ps.map V.int) lo hi = ms.map V.int ∧ ∀ m ∈ ms, m ∈ ps := by
  unfold cutV
  refine ⟨(ps.drop (HT.sIx (ps.map V.int).length 0 lo)).take (HT.sIx (ps.map V.int).length (ps.map V.int).length hi - HT.sIx (ps.map V.int).length 0 lo), ?_, fun m hm => ?_⟩
  · rw [List.map_take, List.map_drop]
  · exact List.mem_of_mem_drop (List.mem_of_mem_take hm)
theorem within_rep {ds : List Int} {n : Nat} {b : Int} (h : Within ds (List.replicate n b)) : ∀ d ∈ ds, 0 ≤ d ∧ d < b := by
  induction n generalizing ds with
  | zero =>
    cases h.n
    intro d hd
    cases hd
  | succ n ih =>
    obtain ⟨d, r, rfl, h0, h1, w⟩ := Within.c (show Within ds (b :: List.replicate n b) from h)
    intro x hx
    rcases List.mem_cons.mp hx with rfl | hx
    · exact ⟨h0, h1⟩
    · exact ih w x hx
theorem five {α : Type} {xs : List α} (h : xs.length = 5) : ∃ a b c d e, xs = [a, b, c, d, e] := by
  rcases xs with _ | ⟨a, _ | ⟨b, _ | ⟨c, _ | ⟨d, _ | ⟨e, _ | ⟨f, r⟩⟩⟩⟩⟩⟩ <;> simp at h
  exact ⟨a, b, c, d, e, rfl⟩
theorem sm60 {t : Int} (h : t.natAbs < 10 ^ 60) : Sm t := sm_of (n := 200) (Nat.lt_trans h (by decide))
theorem sm120 {t : Int} (h : t.natAbs ≤ 10 ^ 120) : Sm t := sm_of (n := 400) (Nat.lt_of_le_of_lt h (by decide))
theorem p120 {a b : Int} (h : a.natAbs < 10 ^ 60) (h' : b.natAbs < 10 ^ 60) : (a * b).natAbs ≤ 10 ^ 120 := by
  rw [Int.natAbs_mul]
  exact Nat.le_trans (Nat.mul_le_mul (Nat.le_of_lt h) (Nat.le_of_lt h')) (by decide)

def RowOk (C : Addr) (H : Hp) (v : V) : Prop := ∃ (tp r : Addr) (t b T B : Int), v = .ref tp ∧ H tp = some (.tup [.ref r, .int t, .int b]) ∧ RatAt C H r T B ∧ LowT t b T B ∧ t.natAbs ≤ 2 * 10 ^ 120 ∧ b.natAbs ≤ 10 ^ 120 ∧ 0 ≤ b
theorem RowOk.keep {C : Addr} {H H' : Hp} {v : V} (k : ∀ c o, H c = some o → (∀ xs, o ≠ .lst xs) → H' c = some o) (h : RowOk C H v) : RowOk C H' v := by
  obtain ⟨tp, r, t, b, T, B, e, h1, ⟨dx, h2⟩, rest⟩ := h
  exact ⟨tp, r, t, b, T, B, e, k _ _ h1 (fun xs z => by cases z), ⟨dx, k _ _ h2 (fun xs z => by cases z)⟩, rest⟩
structure Mid (C one two L : Addr) (T1 B1 T2 B2 : Int) (n : Nat) (H : Hp) (xs : List V) : Prop where
  at_ : H L = some (.lst xs)
  len : xs.length = n
  all : ∀ v ∈ xs, RowOk C H v
  o : RatAt C H one T1 B1
  t : RatAt C H two T2 B2
theorem row_add {C one two L : Addr} {T1 B1 T2 B2 : Int} {n : Nat} {H Hr : Hp} {xs : List V} {r p : Addr} {t b T B : Int} (m : Mid C one two L T1 B1 T2 B2 n H xs) (e : Same H Hr) (rr : RatAt C Hr r T B) (np : Hr p = none) (lo : LowT t b T B)
    (ht : t.natAbs ≤ 2 * 10 ^ 120) (hb : b.natAbs ≤ 10 ^ 120) (h0 : 0 ≤ b) : Mid C one two L T1 B1 T2 B2 (n + 1) (upd (upd Hr p (.tup [.ref r, .int t, .int b])) L (.lst (xs ++ [.ref p]))) (xs ++ [.ref p]) := by
  have hL := e _ _ m.at_
  have k : ∀ c o, Hr c = some o → (∀ xs, o ≠ .lst xs) → (upd (upd Hr p (.tup [.ref r, .int t, .int b])) L (.lst (xs ++ [.ref p]))) c = some o := fun c o hc ho => by
    have h1 : c ≠ L := fun z => by
      rw [z, hL] at hc
      cases hc
      exact ho _ rfl
    rw [upd_ne h1, upd_ne (ne_of_none hc np)]
    exact hc
  refine ⟨upd_same, ?_, fun v hv => ?_, ?_, ?_⟩
  · rw [List.length_append, m.len]
    rfl
  · rcases List.mem_append.mp hv with hv | hv
    · exact (m.all v hv).keep fun c o hc ho => k c o (e c o hc) ho
    · obtain ⟨dx, hr⟩ := rr
      have pL : p ≠ L := fun z => by
        rw [z, hL] at np
        cases np
      exact ⟨p, r, t, b, T, B, List.mem_singleton.mp hv, by rw [upd_ne pL, upd_same], ⟨dx, k _ _ hr fun xs z => by cases z⟩, lo, ht, hb, h0⟩
  · obtain ⟨dx, h⟩ := m.o
    exact ⟨dx, k _ _ (e _ _ h) fun xs z => by cases z⟩
  · obtain ⟨dx, h⟩ := m.t
    exact ⟨dx, k _ _ (e _ _ h) fun xs z => by cases z⟩
theorem sum120 {a b c d : Int} (h1 : a.natAbs < 10 ^ 60) (h2 : b.natAbs < 10 ^ 60) (h3 : c.natAbs < 10 ^ 60) (h4 : d.natAbs < 10 ^ 60) : (a * b + c * d).natAbs ≤ 2 * 10 ^ 120 ∧ (a * b - c * d).natAbs ≤ 2 * 10 ^ 120 := by
  have x := p120 h1 h2
  have y := p120 h3 h4
  omega
theorem sum60 {a c d : Int} (h1 : a.natAbs < 10 ^ 60) (h3 : c.natAbs < 10 ^ 60) (h4 : d.natAbs < 10 ^ 60) : (a + c * d).natAbs ≤ 2 * 10 ^ 120 ∧ (a - c * d).natAbs ≤ 2 * 10 ^ 120 ∧ (c * d - a).natAbs ≤ 2 * 10 ^ 120 := by
  have y := p120 h3 h4
  have : (10 : Nat) ^ 60 ≤ 10 ^ 120 := by decide
  omega

theorem RatAt.ins {C : Addr} {H : Hp} {p : Addr} {T B : Int} (h : RatAt C H p T B) : H p = some (.ins C (h.choose) (rF T B)) := h.choose_spec
theorem abs_eq {T B t b : Int} (h : T * b = t * B) (hb : 0 < b) (hB : 0 < B) : (if T < 0 then -T else T) * b = (if t < 0 then -t else t) * B := by
  by_cases h1 : T < 0
  · have h2 : t < 0 := by
      by_cases z : t < 0
      · exact z
      · have := Int.mul_nonneg (show 0 ≤ t by omega) (Int.le_of_lt hB)
        have := Int.mul_neg_of_neg_of_pos h1 hb
        omega
    rw [if_pos h1, if_pos h2]
    grind
  · have h2 : ¬ t < 0 := fun z => by
      have := Int.mul_neg_of_neg_of_pos z hB
      have := Int.mul_nonneg (show 0 ≤ T by omega) (Int.le_of_lt hb)
      omega
    rw [if_neg h1, if_neg h2]
    exact h

theorem rF_no (T B : Int) {m : Str} (h1 : (m == ("top" : Str)) = false) (h2 : (m == ("bottom" : Str)) = false) : (rF T B).lookup m = none := (lk_two h1).trans ((lk_two h2).trans rfl)
/-- two numbers of a quotient, small enough -/
structure Two (C : Addr) (H : Hp) (p : Addr) (y : V) (T1 B1 T2 B2 : Int) : Prop where
  a : RatAt C H p T1 B1
  b : NumAt C H y T2 B2
  p1 : 0 < B1
  p2 : 0 < B2
  s1 : T1.natAbs < 10 ^ 60
  s2 : B1.natAbs < 10 ^ 60
  s3 : T2.natAbs < 10 ^ 60
  s4 : B2.natAbs < 10 ^ 60
theorem Two.same {C : Addr} {H H' : Hp} {p : Addr} {y : V} {T1 B1 T2 B2 : Int} (s : Same H H') (h : Two C H p y T1 B1 T2 B2) : Two C H' p y T1 B1 T2 B2 := ⟨h.a.same s, h.b.same s, h.p1, h.p2, h.s1, h.s2, h.s3, h.s4⟩
/-! ### the due numbers -/
def flo (t b : Int) : Int := if b < 0 then (-t) / (-b) else t / b
def dueN (t b k p q : Int) : Int × Int :=
  if k = 0 then (t * q + p * b, b * q) else if k = 1 then (t * q - p * b, b * q) else if k = 2 then (p * b - t * q, b * q) else if k = 3 then (t * p, b * q)
  else if k = 4 then (if p < 0 then (-t * q, -b * p) else (t * q, b * p)) else if k = 5 then (t * q - p * b * flo (t * q) (b * p), b * q) else if k = 6 then (flo (t * q) (b * p), 1)
  else if k = 7 then (-t, b) else (if t < 0 then -t else t, b)
theorem flo_spec {t b : Int} (h : b ≠ 0) : ∃ r, t = b * flo t b + r ∧ r.natAbs < b.natAbs := by
  unfold flo
  split
  · have e := Int.mul_ediv_add_emod (-t) (-b)
    have h0 := Int.emod_nonneg (-t) (show -b ≠ 0 by omega)
    have h1 := Int.emod_lt_of_pos (-t) (show 0 < -b by omega)
    refine ⟨-((-t) % (-b)), ?_, by omega⟩
    rw [Int.neg_mul] at e
    omega
  · have e := Int.mul_ediv_add_emod t b
    have h0 := Int.emod_nonneg t h
    have h1 := Int.emod_lt_of_pos t (show 0 < b by omega)
    exact ⟨t % b, by omega, by omega⟩
/-- the floor of a number is that of its lowest terms -/
theorem flo_low {t b T B : Int} (h : b ≠ 0) (lo : LowT t b T B) : flo t b = T / B := by
  have hB := lo.pos
  have he := lo.eq
  unfold flo
  split
  · have e1 : T * (-b) = (-t) * B := by grind
    have : (-t) / (-b) = T / B := by
      have h1 : (-t) * B / ((-b) * B) = (-t) / (-b) := Int.mul_ediv_mul_of_pos_left _ _ hB
      have h2 : T * (-b) / (B * (-b)) = T / B := Int.mul_ediv_mul_of_pos_left _ _ (by omega)
      rw [← h1, ← h2, e1, Int.mul_comm (-b) B]
    exact this
  · have h1 : t * B / (b * B) = t / b := Int.mul_ediv_mul_of_pos_left _ _ hB
    have h2 : T * b / (B * b) = T / B := Int.mul_ediv_mul_of_pos_left _ _ (by omega)
    rw [← h1, ← h2, he, Int.mul_comm b B]
theorem flo_le (t b : Int) : (flo t b).natAbs ≤ t.natAbs := by
  unfold flo
  split
  · have := Int.natAbs_ediv_le_natAbs (-t) (-b)
    omega
  · exact Int.natAbs_ediv_le_natAbs t b
/-- how great the numbers get: S bounds the fields, n the numbers passed in -/
theorem due_le {t b k p q : Int} {S n : Nat} (ht : t.natAbs ≤ S) (hb : b.natAbs ≤ S) (hp : p.natAbs ≤ n) (hq : q.natAbs ≤ n) (hn : 1 ≤ n) (hq0 : 0 < q) (hb0 : 0 < b) (hS : 1 ≤ S) (hpk : 4 ≤ k → k ≤ 6 → p ≠ 0) :
    (dueN t b k p q).1.natAbs ≤ 2 * (S * n) ∧ (dueN t b k p q).2.natAbs ≤ S * n ∧ 0 < (dueN t b k p q).2 := by
  have a1 : (t * q).natAbs ≤ S * n := by rw [Int.natAbs_mul]; exact Nat.mul_le_mul ht hq
  have a2 : (p * b).natAbs ≤ S * n := by rw [Int.natAbs_mul, Nat.mul_comm]; exact Nat.mul_le_mul hb hp
  have a3 : (b * q).natAbs ≤ S * n := by rw [Int.natAbs_mul]; exact Nat.mul_le_mul hb hq
  have a4 : (t * p).natAbs ≤ S * n := by rw [Int.natAbs_mul]; exact Nat.mul_le_mul ht hp
  have a5 : (b * p).natAbs ≤ S * n := by rw [Int.natAbs_mul]; exact Nat.mul_le_mul hb hp
  have c1 : 0 < b * q := Int.mul_pos hb0 hq0
  have s1 : S ≤ S * n := Nat.le_mul_of_pos_right _ hn
  have s2 : 1 ≤ S * n := Nat.le_trans hS s1
  unfold dueN
  by_cases k0 : k = 0
  · rw [if_pos k0]
    exact ⟨by show (t * q + p * b).natAbs ≤ _; omega, a3, c1⟩
  rw [if_neg k0]
  by_cases k1 : k = 1
  · rw [if_pos k1]
    exact ⟨by show (t * q - p * b).natAbs ≤ _; omega, a3, c1⟩
  rw [if_neg k1]
  by_cases k2 : k = 2
  · rw [if_pos k2]
    exact ⟨by show (p * b - t * q).natAbs ≤ _; omega, a3, c1⟩
  rw [if_neg k2]
  by_cases k3 : k = 3
  · rw [if_pos k3]
    exact ⟨by show (t * p).natAbs ≤ _; omega, a3, c1⟩
  rw [if_neg k3]
  by_cases k4 : k = 4
  · rw [if_pos k4]
    have hp0 := hpk (by omega) (by omega)
    split
    · have : 0 < -b * p := by
        have := Int.mul_pos hb0 (show 0 < -p by omega)
        grind
      have e : -b * p = -(b * p) := by grind
      have e2 : -t * q = -(t * q) := by grind
      exact ⟨by show (-t * q).natAbs ≤ _; omega, by show (-b * p).natAbs ≤ _; omega, this⟩
    · have : 0 < b * p := Int.mul_pos hb0 (by omega)
      exact ⟨by show (t * q).natAbs ≤ _; omega, a5, this⟩
  rw [if_neg k4]
  by_cases k5 : k = 5
  · rw [if_pos k5]
    have hp0 := hpk (by omega) (by omega)
    obtain ⟨r, e, hr⟩ := flo_spec (t := t * q) (b := b * p) (fun z => by
      rcases Int.mul_eq_zero.mp z with z | z
      · omega
      · exact hp0 z)
    have e2 : t * q - p * b * flo (t * q) (b * p) = r := by
      have : p * b * flo (t * q) (b * p) = b * p * flo (t * q) (b * p) := by grind
      omega
    exact ⟨by show (t * q - p * b * flo (t * q) (b * p)).natAbs ≤ _; rw [e2]; omega, a3, c1⟩
  rw [if_neg k5]
  by_cases k6 : k = 6
  · rw [if_pos k6]
    have := flo_le (t * q) (b * p)
    exact ⟨by show (flo (t * q) (b * p)).natAbs ≤ _; omega, s2, (show (0 : Int) < 1 by decide)⟩
  rw [if_neg k6]
  by_cases k7 : k = 7
  · rw [if_pos k7]
    exact ⟨by show (-t).natAbs ≤ _; omega, by show b.natAbs ≤ _; omega, hb0⟩
  rw [if_neg k7]
  exact ⟨by show (if t < 0 then -t else t).natAbs ≤ _; split <;> omega, by show b.natAbs ≤ _; omega, hb0⟩
/-- the fields' bound behind i operations -/
def Sn : Nat → Nat
  | 0 => 10 ^ 20
  | i + 1 => 2 * (Sn i * 10 ^ 20)
theorem Sn_eq : ∀ i, Sn i = 2 ^ i * 10 ^ (20 * (i + 1))
  | 0 => rfl
  | i + 1 => by
    show 2 * (Sn i * 10 ^ 20) = _
    rw [Sn_eq i, show 20 * (i + 1 + 1) = 20 * (i + 1) + 20 by omega, Nat.pow_add 10, Nat.pow_succ 2]
    generalize 2 ^ i = x
    generalize 10 ^ (20 * (i + 1)) = y
    grind
theorem Sn_mono {i j : Nat} (h : i ≤ j) : Sn i ≤ Sn j := by
  rw [Sn_eq, Sn_eq]
  exact Nat.mul_le_mul (Nat.pow_le_pow_right (by decide) h) (Nat.pow_le_pow_right (by decide) (by omega))
theorem Sn_pos (i : Nat) : 1 ≤ Sn i := by
  rw [Sn_eq]
  exact Nat.mul_pos (Nat.pow_pos (by decide)) (Nat.pow_pos (by decide))

theorem smB {x : Int} (h : x.natAbs ≤ 10 ^ 300) : Sm x := sm_of (n := 1000) (Nat.lt_of_le_of_lt h (by decide))
theorem smP {x y : Int} (h : x.natAbs ≤ 10 ^ 300) (h' : y.natAbs ≤ 10 ^ 300) : Sm (x * y) := by
  refine sm_of (n := 2000) ?_
  rw [Int.natAbs_mul]
  exact Nat.lt_of_le_of_lt (Nat.mul_le_mul h h') (by decide)
theorem smP3 {x y z : Int} (h : x.natAbs ≤ 10 ^ 300) (h' : y.natAbs ≤ 10 ^ 300) (h2 : z.natAbs ≤ 10 ^ 300) : Sm (x * (y * z)) := by
  refine sm_of (n := 3000) ?_
  rw [Int.natAbs_mul, Int.natAbs_mul]
  exact Nat.lt_of_le_of_lt (Nat.mul_le_mul h (Nat.mul_le_mul h' h2)) (by decide)
theorem due1 {t b p q : Int} : dueN t b 0 p q = (t * q + p * b, b * q) := rfl
/-- the numbers at hand: x's fields, and y of the value p over q -/
structure At (C : Addr) (H : Hp) (xp : Addr) (y : V) (t b p q P R : Int) : Prop where
  x : RatAt C H xp t b
  y : NumAt C H y P R
  b0 : 0 < b
  q0 : 0 < q
  R0 : 0 < R
  e : P * q = p * R
  zt : t.natAbs ≤ 10 ^ 300
  zb : b.natAbs ≤ 10 ^ 300
  zp : p.natAbs ≤ 10 ^ 300
  zq : q.natAbs ≤ 10 ^ 300
  zP : P.natAbs ≤ 10 ^ 300
  zR : R.natAbs ≤ 10 ^ 300

theorem sn300 {i : Nat} (h : i ≤ 12) : Sn i ≤ 10 ^ 300 := Nat.le_trans (Sn_mono h) (by rw [Sn_eq]; decide)
theorem sn_prod {i : Nat} (h : i ≤ 10) {x y : Nat} (hx : x ≤ Sn i) (hy : y ≤ Sn i) : x * y < 6 ^ 598 := by
  have h1 := Nat.le_trans hx (Sn_mono h)
  have h2 := Nat.le_trans hy (Sn_mono h)
  refine Nat.lt_of_le_of_lt (Nat.mul_le_mul h1 h2) ?_
  rw [Sn_eq]
  decide
theorem Sn_step (i : Nat) : Sn (i + 1) = 2 * (Sn i * 10 ^ 20) := rfl
/-- what the top has written of the classes -/
structure Txt (K : PySem.W.Frag) (mg : Str → Option Value) (C_Ratio C_ZeroBottom : Addr) : Prop where
  g_Ratio : mg "Ratio" = some (.ref C_Ratio)
  kc_Ratio : PySem.W.keepIn K (.ref C_Ratio) = true
  hd_Ratio : PySem.W.hasDictIn K C_Ratio = true
  ha_Ratio : PySem.W.findIn K (.ref C_Ratio) "__class__" = some (some (.builtin "object.__class__"))
  hm_Ratio : PySem.W.mroIn K C_Ratio (.type "object") = some true
  cl_Ratio : Cls K C_Ratio
  mk_Ratio : PySem.W.makesIn K C_Ratio = true
  n_Ratio_top : NoAttr K C_Ratio "top"
  n_Ratio_bottom : NoAttr K C_Ratio "bottom"
  sf_Ratio : PySem.W.selfFirst K C_Ratio = true
  si_Ratio : PySem.W.subIn K (.type "int") (.ref C_Ratio) = some false
  sr_Ratio : PySem.W.subIn K (.ref C_Ratio) (.type "int") = some false
  rf_Ratio_add : ∃ rc : Option Value, PySem.W.findIn K (.ref C_Ratio) "__radd__" = some rc ∧ (rc = none ∨ ∃ g : Addr, rc = some (.ref g))
  of_Ratio_add : ∃ f0 : Addr, PySem.W.findIn K (.ref C_Ratio) "__add__" = some (some (.ref f0))
  int_add : ∃ fo ro : Option Value, PySem.W.findIn K (.type "int") "__add__" = some fo ∧ PySem.W.findIn K (.type "int") "__radd__" = some ro
  rf_Ratio_sub : ∃ rc : Option Value, PySem.W.findIn K (.ref C_Ratio) "__rsub__" = some rc ∧ (rc = none ∨ ∃ g : Addr, rc = some (.ref g))
  of_Ratio_sub : ∃ f0 : Addr, PySem.W.findIn K (.ref C_Ratio) "__sub__" = some (some (.ref f0))
  int_sub : ∃ fo ro : Option Value, PySem.W.findIn K (.type "int") "__sub__" = some fo ∧ PySem.W.findIn K (.type "int") "__rsub__" = some ro
  rf_Ratio_mul : ∃ rc : Option Value, PySem.W.findIn K (.ref C_Ratio) "__rmul__" = some rc ∧ (rc = none ∨ ∃ g : Addr, rc = some (.ref g))
  of_Ratio_mul : ∃ f0 : Addr, PySem.W.findIn K (.ref C_Ratio) "__mul__" = some (some (.ref f0))
  int_mul : ∃ fo ro : Option Value, PySem.W.findIn K (.type "int") "__mul__" = some fo ∧ PySem.W.findIn K (.type "int") "__rmul__" = some ro
  rf_Ratio_floordiv : ∃ rc : Option Value, PySem.W.findIn K (.ref C_Ratio) "__rfloordiv__" = some rc ∧ (rc = none ∨ ∃ g : Addr, rc = some (.ref g))
  of_Ratio_floordiv : ∃ f0 : Addr, PySem.W.findIn K (.ref C_Ratio) "__floordiv__" = some (some (.ref f0))
  int_floordiv : ∃ fo ro : Option Value, PySem.W.findIn K (.type "int") "__floordiv__" = some fo ∧ PySem.W.findIn K (.type "int") "__rfloordiv__" = some ro
  rf_Ratio_mod : ∃ rc : Option Value, PySem.W.findIn K (.ref C_Ratio) "__rmod__" = some rc ∧ (rc = none ∨ ∃ g : Addr, rc = some (.ref g))
  of_Ratio_mod : ∃ f0 : Addr, PySem.W.findIn K (.ref C_Ratio) "__mod__" = some (some (.ref f0))
  int_mod : ∃ fo ro : Option Value, PySem.W.findIn K (.type "int") "__mod__" = some fo ∧ PySem.W.findIn K (.type "int") "__rmod__" = some ro
  g_ZeroBottom : mg "ZeroBottom" = some (.ref C_ZeroBottom)
  kc_ZeroBottom : PySem.W.keepIn K (.ref C_ZeroBottom) = true
  hd_ZeroBottom : PySem.W.hasDictIn K C_ZeroBottom = true
  ha_ZeroBottom : PySem.W.findIn K (.ref C_ZeroBottom) "__class__" = some (some (.builtin "object.__class__"))
  hm_ZeroBottom : PySem.W.mroIn K C_ZeroBottom (.type "object") = some true
  b_ZeroBottom : PySem.W.subIn K (.ref C_ZeroBottom) (.type "BaseException") = some true
  t_ZeroBottom : PySem.W.typeIn K (.ref C_ZeroBottom) = some (.type "type")
  ga_ZeroBottom : PySem.W.findIn K (.ref C_ZeroBottom) "__getattribute__" = some (some (.builtin "BaseException.__getattribute__"))
  gg_ZeroBottom : PySem.W.findIn K (.ref C_ZeroBottom) "__getattr__" = some none
  x_ZeroBottom : PySem.W.excIn K C_ZeroBottom [.type "ValueError", .type "Exception", .type "BaseException", .type "object"] "ValueError.__new__" = true
  hnc : PySem.W.specialIn K (.builtin "object.__class__") "__get__" = some (some (.builtin "getset_descriptor.__get__"))
  htk : PySem.W.takesIn K (.builtin "object.__class__") = some true
  kit_Ratio_Ratio : PySem.W.kitOne K (.ref C_Ratio) (.ref C_Ratio) = some true
  kit_int_Ratio : PySem.W.kitOne K (.type "int") (.ref C_Ratio) = some false
  g_gcd : mg "gcd" = some (.builtin "math.gcd")
theorem Txt.ec_ZeroBottom {K : PySem.W.Frag} {mg : Str → Option Value} {C_Ratio C_ZeroBottom : Addr} (T : Txt K mg C_Ratio C_ZeroBottom) : ExcC K C_ZeroBottom := ⟨T.ga_ZeroBottom, T.gg_ZeroBottom, T.b_ZeroBottom, T.hd_ZeroBottom, T.ha_ZeroBottom, T.hnc, T.htk, T.hm_ZeroBottom⟩

/-- a def that is called by its name, with its promise -/
def Cal (P : Program) (w : World) (K : PySem.W.Frag) (mg : Str → Option Value) (base : Heap) (CX : CXT) (k : Nat) (x : Str) (ps : List Str) (sp : Sp) : Prop :=
  ∃ (f : Addr) (fd : FuncData), FnOk P w K mg base CX k f fd ps sp ∧ mg x = some (.ref f) ∧ PySem.W.keepIn K (.ref f) = true ∧ Binds K fd ps []
/-- an own class's __init__; dvs: what stands for the parameters that a short call leaves out -/
def CalI (P : Program) (w : World) (K : PySem.W.Frag) (mg : Str → Option Value) (base : Heap) (CX : CXT) (k : Nat) (C : Addr) (ps : List Str) (sp : Sp) (dvs : List V) : Prop :=
  ∃ (f : Addr) (fd : FuncData), FnOk P w K mg base CX k f fd ps sp ∧ Mk K C f ∧ Binds K fd ps [] ∧ ∃ ds, Vals dvs ds ∧ Binds K fd ps ds
/-- a method -/
def CalM (P : Program) (w : World) (K : PySem.W.Frag) (mg : Str → Option Value) (base : Heap) (CX : CXT) (k : Nat) (C : Addr) (m : Str) (ps : List Str) (sp : Sp) : Prop :=
  ∃ (f : Addr) (fd : FuncData), FnOk P w K mg base CX k f fd ps sp ∧ Meth K C m f ∧ Binds K fd ps []
section
variable {P : Program} {w : World} {K : PySem.W.Frag} {mg : Str → Option Value} {base : Heap}
/-- Ratio(t, b): ZeroBottom, or the fraction in lowest terms -/
def sp_Ratio___init__ (C CZ : Addr) : Sp := fun vs H Q E => ∃ (x dx : Addr) (t b : Int), vs = [.ref x, .int t, .int b] ∧ H x = some (.ins C dx []) ∧ (b ≠ 0 → Sm b) ∧ (b = 0 → E (.ref CZ) none H) ∧
  (b ≠ 0 → ∀ H', RatAt C H' x (nT t b) (nB t b) → (∀ c o, H c = some o → c ≠ x → H' c = some o) → Q .non H')

theorem ok_Ratio___init__ {f : Addr} {fd : FuncData} {C_Ratio C_ZeroBottom : Addr} (F : FunD K "__init__" "Ratio.__init__" (defArgs s_Ratio___init__) (defBody s_Ratio___init__) (defScope s_Ratio___init__) [V.int 1] [] f fd) (T : Txt K mg C_Ratio C_ZeroBottom) : FnOk P w K mg base (L2.CX P w) 1 f fd ["self", "top", "bottom"] (sp_Ratio___init__ C_Ratio C_ZeroBottom) := by
  refine FunD.ok (CX := (L2.CX P w)) F sc_Ratio___init__ (fun vs H Q E h => ?_) (fun cdv A outer s H vs Q E hr h => ?_)
  · obtain ⟨x, dx, t, b, rfl, _⟩ := h
    rfl
  · obtain ⟨x, dx, t, b, rfl, hx, hsm, kE, kQ⟩ := h
    refine ⟨_, (pss_cons (ps_if (pt_cmpR op_eq (pv 2) pe_int (nomark _)) (pss_one (ps_raise rfl (takes_of rfl rfl rfl rfl) (pmk_own PySem.F.excBase_ValueError T.x_ZeroBottom T.g_ZeroBottom T.kc_ZeroBottom (raises_own T.b_ZeroBottom T.t_ZeroBottom) (by exact rfl)))) pss_nil)
      (pss_cons (ps_set (i := 3) sc_Ratio___init__.nd rfl (Or.inl rfl) (pe_callBfun cr_gcd (by rfl) T.g_gcd (pa_cons (pv 1) (pa_cons (pv 2) pa_nil))))
      (Evl.pss_cut (ps_if (pt_cmpR op_lt (pv 2) pe_int (nomark _)) (pss_one (ps_set (i := 3) sc_Ratio___init__.nd rfl (Or.inl rfl) (pe_un un_neg (pv 3)))) pss_nil)
      (pss_cons (ps_fld (pv 0) (pe_op op_fdivWN (pv 1) (pv 3)) rfl)
      (pss_one (ps_fld (pv 0) (pe_op op_fdivWN (pv 2) (pv 3)) rfl)))))), ?_⟩
    refine ⟨_, rfl, rfl, _, rfl, ite2 (fun e => ?_) (fun e => ?_)⟩
    · have e := V.int.inj (of_decide_eq_true e)
      exact kE e
    · have hb : b ≠ 0 := fun z => e (decide_eq_true (congrArg V.int z))
      refine ⟨_, rfl, _, rfl, t, b, rfl, ?_⟩
      refine ⟨fun σ' H' => H' = H ∧ σ' = [some (.ref x), some (.int t), some (.int b), some (.int (rd t b))], ?_, ?_⟩
      · refine ⟨_, rfl, _, _, rfl, rfl, _, rfl, ite2 (fun e2 => ?_) (fun e2 => ?_)⟩
        · have e2 := of_decide_eq_true e2
          refine ⟨_, rfl, _, rfl, rfl, ?_⟩
          rw [show rd t b = -(rg t b) from if_pos e2]
          rfl
        · have e2 : ¬ b < 0 := fun z => e2 (decide_eq_true z)
          refine ⟨rfl, ?_⟩
          rw [show rd t b = rg t b from if_neg e2]
          rfl
      · rintro σ' H' ⟨rfl, rfl⟩
        refine ⟨_, rfl, _, rfl, t, rd t b, rfl, rfl, rd_div hb (hsm hb) t, _, rfl, x, C_Ratio, dx, [], rfl, hx, T.cl_Ratio, T.n_Ratio_top, (by show 0 < 1000; decide), ?_⟩
        refine ⟨_, rfl, _, rfl, b, rd t b, rfl, rfl, rd_div hb (hsm hb) b, _, rfl, x, C_Ratio, dx, _, rfl, upd_same, T.cl_Ratio, T.n_Ratio_bottom, (by show 1 < 1000; decide), ?_⟩
        refine kQ hb _ ⟨dx, Eq.trans upd_same (congrArg (fun q => some (HO.ins C_Ratio dx q)) (rF_new _ _))⟩ fun c o e hc => ?_
        rw [upd_ne hc, upd_ne hc]
        exact e

/-- how a caller makes a Ratio that there is -/
theorem mk_rat {C CZ : Addr} {t b : Int} {H : Hp} {G : Addr → Hp → Prop} {E : XK} (hb : b ≠ 0) (hs : Sm b) (k : ∀ x H', Same H H' → H x = none → RatAt C H' x (nT t b) (nB t b) → G x H') :
    ∀ x dx, H x = none → H dx = none → dx ≠ x → sp_Ratio___init__ C CZ [.ref x, .int t, .int b] (upd (upd H dx (.own x)) x (.ins C dx [])) (fun v H2 => v = .non ∧ G x H2) E :=
  fun x dx nx nd _ => ⟨x, dx, t, b, rfl, upd_same, fun _ => hs, fun z => absurd z hb, fun _ H' r kp => ⟨rfl, k x H' (Same.made nx nd kp) nx r⟩⟩
def sp__as_ratio (C : Addr) : Sp := fun vs H Q _ => ∃ (y : V) (T B : Int), vs = [y] ∧ NumAt C H y T B ∧ ∀ H' q, Same H H' → RatAt C H' q T B → Q (.ref q) H'
theorem ok__as_ratio {f : Addr} {fd : FuncData} {C_Ratio C_ZeroBottom : Addr} (F : Fun K "_as_ratio" "_as_ratio" s__as_ratio f fd) (T : Txt K mg C_Ratio C_ZeroBottom) (m_isinstance : mg "isinstance" = none) (c_Ratio___init__ : CalI P w K mg base (L2.CX P w) 1 C_Ratio ["self", "top", "bottom"] (sp_Ratio___init__ C_Ratio C_ZeroBottom) [V.int 1]) : FnOk P w K mg base CX0 3 f fd ["number"] (sp__as_ratio C_Ratio) := by
  refine F.ok sc__as_ratio (fun vs H Q E h => ?_) (fun cdv A outer s H vs Q E hr h => ?_)
  · obtain ⟨y, T1, B, rfl, _⟩ := h
    rfl
  · obtain ⟨y, T1, B, rfl, hy, q⟩ := h
    obtain ⟨f_Ratio___init__, fd_Ratio___init__, G_Ratio___init__, M_Ratio___init__, b_Ratio___init__, ds_Ratio___init__, vd_Ratio___init__, bd_Ratio___init__⟩ := c_Ratio___init__
    refine ⟨_, (pss_cons (ps_if (pt_val (pe_callB call_isi (by rfl) m_isinstance (by decide +kernel) (pa_cons (pv 0) (pa_cons (pe_glob (v := .ref C_Ratio) (by rfl) T.g_Ratio rfl) pa_nil)))) (pss_one (ps_ret (pv 0))) pss_nil)
      (pss_one (ps_ret (pe_make M_Ratio___init__ G_Ratio___init__ (hr.mono (by decide)) (by rfl) T.g_Ratio bd_Ratio___init__ vd_Ratio___init__ passL (pa_cons (pv 0) pa_nil))))), ?_⟩
    rcases hy with ⟨p, rfl, dx, hp⟩ | ⟨rfl, rfl⟩
    · refine ⟨.ref p, rfl, .ref p, .ref C_Ratio, .ref C_Ratio, .ref C_Ratio, true, rfl, .own C_Ratio, .base (.ins hp T.cl_Ratio T.ha_Ratio T.hnc T.htk T.hm_Ratio), T.kit_Ratio_Ratio, true, rfl, iteT ?_⟩
      exact ⟨_, rfl, q H p (Same.refl H) ⟨dx, hp⟩⟩
    · refine ⟨_, rfl, .int T1, .ref C_Ratio, .type "int", .ref C_Ratio, false, rfl, .own C_Ratio, .base (.int T1), T.kit_int_Ratio, false, rfl, iteF ?_⟩
      refine ⟨_, rfl, mk_rat (t := T1) (b := 1) (by decide) (sm_of (n := 1) (by decide)) fun x H5 e5 nx r => ?_⟩
      obtain ⟨e1, e2⟩ := low_uniq (by decide) (low (t := T1) (b := 1) (by decide)) (low_int T1)
      rw [e1, e2] at r
      exact q H5 x e5 r
def sp_Ratio_over (C CZ : Addr) : Sp := fun vs H Q E => ∃ (p : Addr) (y : V) (T1 B1 T2 B2 : Int), vs = [.ref p, y] ∧ RatAt C H p T1 B1 ∧ NumAt C H y T2 B2 ∧ 0 < B1 ∧ 0 < B2 ∧ Sm T1 ∧ Sm B1 ∧ Sm T2 ∧ Sm B2 ∧ Sm (B1 * T2) ∧
  (T2 = 0 → ∀ H', Same H H' → E (.ref CZ) none H') ∧ (T2 ≠ 0 → ∀ H' r T B, Same H H' → RatAt C H' r T B → LowT (T1 * B2) (B1 * T2) T B → Q (.ref r) H')
theorem ok_Ratio_over {f : Addr} {fd : FuncData} {C_Ratio C_ZeroBottom : Addr} (F : Fun K "over" "Ratio.over" s_Ratio_over f fd) (T : Txt K mg C_Ratio C_ZeroBottom) (c__as_ratio : Cal P w K mg base CX0 3 "_as_ratio" ["number"] (sp__as_ratio C_Ratio)) (c_Ratio___init__ : CalI P w K mg base (L2.CX P w) 1 C_Ratio ["self", "top", "bottom"] (sp_Ratio___init__ C_Ratio C_ZeroBottom) [V.int 1]) : FnOk P w K mg base (L2.CX P w) 4 f fd ["self", "other"] (sp_Ratio_over C_Ratio C_ZeroBottom) := by
  refine F.okX sc_Ratio_over (fun vs H Q E h => ?_) (fun cdv A outer s H vs Q E hr h => ?_)
  · obtain ⟨p, y, T1, B1, T2, B2, rfl, _⟩ := h
    rfl
  · obtain ⟨p, y, T1, B1, T2, B2, rfl, hp, hy, p1, p2, s1, s2, s3, s4, s5, kE, kQ⟩ := h
    obtain ⟨f__as_ratio, fd__as_ratio, G__as_ratio, m__as_ratio, k__as_ratio, b__as_ratio⟩ := c__as_ratio
    obtain ⟨f_Ratio___init__, fd_Ratio___init__, G_Ratio___init__, M_Ratio___init__, b_Ratio___init__, ds_Ratio___init__, vd_Ratio___init__, bd_Ratio___init__⟩ := c_Ratio___init__
    refine ⟨_, (pss_cons (ps_set (i := 2) sc_Ratio_over.nd rfl (Or.inl rfl) (pe_call G__as_ratio (hr.mono (by decide)) (by rfl) m__as_ratio k__as_ratio b__as_ratio .nil pass0 (pa_cons (pv 1) pa_nil)))
      (pss_one (ps_ret (pe_make M_Ratio___init__ G_Ratio___init__ (hr.mono (by decide)) (by rfl) T.g_Ratio b_Ratio___init__ .nil (passes_call (takes_of rfl rfl rfl rfl) (fun _ _ _ _ h => h)) (pa_cons (pe_op op_mulW (pe_fld (pv 0) rfl) (pe_fld (pv 2) rfl)) (pa_cons (pe_op op_mulW (pe_fld (pv 0) rfl) (pe_fld (pv 2) rfl)) pa_nil)))))), ?_⟩
    refine ⟨y, rfl, y, T2, B2, rfl, hy, fun H1 z e1 rz => ?_⟩
    obtain ⟨dx, hp1⟩ := hp.same e1
    obtain ⟨dz, hz⟩ := rz
    refine ⟨.ref p, rfl, p, C_Ratio, dx, _, _, rfl, hp1, T.cl_Ratio, T.n_Ratio_top, rF_top T1 B1, .ref z, rfl, z, C_Ratio, dz, _, _, rfl, hz, T.cl_Ratio, T.n_Ratio_bottom, rF_bot T2 B2, T1, B2, rfl, rfl, s1.mul s4, ?_⟩
    refine ⟨.ref p, rfl, p, C_Ratio, dx, _, _, rfl, hp1, T.cl_Ratio, T.n_Ratio_bottom, rF_bot T1 B1, .ref z, rfl, z, C_Ratio, dz, _, _, rfl, hz, T.cl_Ratio, T.n_Ratio_top, rF_top T2 B2, B1, T2, rfl, rfl, s2.mul s3, ?_⟩
    refine fun x dx nx nd _ => ⟨x, dx, T1 * B2, B1 * T2, rfl, upd_same, fun _ => s5, fun hb => ?_, fun hb H' r kp => ⟨rfl, ?_⟩⟩
    · have hz2 : T2 = 0 := (Int.mul_eq_zero.mp hb).resolve_left (by omega)
      refine kE hz2 _ (e1.trans fun c o e => ?_)
      rw [upd_ne (ne_of_none e nx), upd_ne (ne_of_none e nd)]
      exact e
    · have hz2 : T2 ≠ 0 := fun z => hb (by rw [z, Int.mul_zero])
      exact kQ hz2 H' x _ _ (e1.trans (Same.made nx nd kp)) r (low hb)
def sp_Ratio___neg__ (C : Addr) : Sp := fun vs H Q _ => ∃ (p : Addr) (T1 B1 : Int), vs = [.ref p] ∧ RatAt C H p T1 B1 ∧ 0 < B1 ∧ Sm B1 ∧ ∀ H' r T B, Same H H' → RatAt C H' r T B → LowT (-T1) B1 T B → Q (.ref r) H'
theorem ok_Ratio___neg__ {f : Addr} {fd : FuncData} {C_Ratio C_ZeroBottom : Addr} (F : Fun K "__neg__" "Ratio.__neg__" s_Ratio___neg__ f fd) (T : Txt K mg C_Ratio C_ZeroBottom) (c_Ratio___init__ : CalI P w K mg base (L2.CX P w) 1 C_Ratio ["self", "top", "bottom"] (sp_Ratio___init__ C_Ratio C_ZeroBottom) [V.int 1]) : FnOk P w K mg base CX0 3 f fd ["self"] (sp_Ratio___neg__ C_Ratio) := by
  refine F.ok sc_Ratio___neg__ (fun vs H Q E h => ?_) (fun cdv A outer s H vs Q E hr h => ?_)
  · obtain ⟨p, T1, B1, rfl, _⟩ := h
    rfl
  · obtain ⟨p, T1, B1, rfl, ⟨dx, hp⟩, p1, s1, q⟩ := h
    obtain ⟨f_Ratio___init__, fd_Ratio___init__, G_Ratio___init__, M_Ratio___init__, b_Ratio___init__, ds_Ratio___init__, vd_Ratio___init__, bd_Ratio___init__⟩ := c_Ratio___init__
    refine ⟨_, (pss_one (ps_ret (pe_make M_Ratio___init__ G_Ratio___init__ (hr.mono (by decide)) (by rfl) T.g_Ratio b_Ratio___init__ .nil passL (pa_cons (pe_un un_neg (pe_fld (pv 0) rfl)) (pa_cons (pe_fld (pv 0) rfl) pa_nil))))), ?_⟩
    refine ⟨.ref p, rfl, p, C_Ratio, dx, _, _, rfl, hp, T.cl_Ratio, T.n_Ratio_top, rF_top T1 B1, T1, rfl, .ref p, rfl, p, C_Ratio, dx, _, _, rfl, hp, T.cl_Ratio, T.n_Ratio_bottom, rF_bot T1 B1, mk_rat (t := -T1) (b := B1) (by omega) s1 fun x H5 e5 nx r => ?_⟩
    exact q H5 x _ _ e5 r (low (by omega))
def sp_Ratio___abs__ (C : Addr) : Sp := fun vs H Q _ => ∃ (p : Addr) (T1 B1 : Int), vs = [.ref p] ∧ RatAt C H p T1 B1 ∧ 0 < B1 ∧ Sm B1 ∧ ∀ H' r T B, Same H H' → RatAt C H' r T B → LowT (if T1 < 0 then -T1 else T1) B1 T B → Q (.ref r) H'
theorem ok_Ratio___abs__ {f : Addr} {fd : FuncData} {C_Ratio C_ZeroBottom : Addr} (F : Fun K "__abs__" "Ratio.__abs__" s_Ratio___abs__ f fd) (T : Txt K mg C_Ratio C_ZeroBottom) (m_abs : mg "abs" = none) (c_Ratio___init__ : CalI P w K mg base (L2.CX P w) 1 C_Ratio ["self", "top", "bottom"] (sp_Ratio___init__ C_Ratio C_ZeroBottom) [V.int 1]) : FnOk P w K mg base CX0 3 f fd ["self"] (sp_Ratio___abs__ C_Ratio) := by
  refine F.ok sc_Ratio___abs__ (fun vs H Q E h => ?_) (fun cdv A outer s H vs Q E hr h => ?_)
  · obtain ⟨p, T1, B1, rfl, _⟩ := h
    rfl
  · obtain ⟨p, T1, B1, rfl, ⟨dx, hp⟩, p1, s1, q⟩ := h
    obtain ⟨f_Ratio___init__, fd_Ratio___init__, G_Ratio___init__, M_Ratio___init__, b_Ratio___init__, ds_Ratio___init__, vd_Ratio___init__, bd_Ratio___init__⟩ := c_Ratio___init__
    refine ⟨_, (pss_one (ps_ret (pe_make M_Ratio___init__ G_Ratio___init__ (hr.mono (by decide)) (by rfl) T.g_Ratio b_Ratio___init__ .nil passL (pa_cons (pe_callB call_abs (by rfl) m_abs (by decide +kernel) (pa_cons (pe_fld (pv 0) rfl) pa_nil)) (pa_cons (pe_fld (pv 0) rfl) pa_nil))))), ?_⟩
    refine ⟨.ref p, rfl, p, C_Ratio, dx, _, _, rfl, hp, T.cl_Ratio, T.n_Ratio_top, rF_top T1 B1, T1, rfl, .ref p, rfl, p, C_Ratio, dx, _, _, rfl, hp, T.cl_Ratio, T.n_Ratio_bottom, rF_bot T1 B1, mk_rat (t := if T1 < 0 then -T1 else T1) (b := B1) (by omega) s1 fun x H5 e5 nx r => ?_⟩
    exact q H5 x _ _ e5 r (low (by omega))
def sp_Ratio___add__ (C : Addr) : Sp := fun vs H Q _ => ∃ (p : Addr) (y : V) (T1 B1 T2 B2 : Int), vs = [.ref p, y] ∧ RatAt C H p T1 B1 ∧ NumAt C H y T2 B2 ∧ 0 < B1 ∧ 0 < B2 ∧ Sm T1 ∧ Sm B1 ∧ Sm T2 ∧ Sm B2 ∧ Sm (B1 * B2) ∧
  ∀ H' r T B, Same H H' → RatAt C H' r T B → LowT (T1 * B2 + T2 * B1) (B1 * B2) T B → Q (.ref r) H'
theorem ok_Ratio___add__ {f : Addr} {fd : FuncData} {C_Ratio C_ZeroBottom : Addr} (F : Fun K "__add__" "Ratio.__add__" s_Ratio___add__ f fd) (T : Txt K mg C_Ratio C_ZeroBottom) (c__as_ratio : Cal P w K mg base CX0 3 "_as_ratio" ["number"] (sp__as_ratio C_Ratio)) (c_Ratio___init__ : CalI P w K mg base (L2.CX P w) 1 C_Ratio ["self", "top", "bottom"] (sp_Ratio___init__ C_Ratio C_ZeroBottom) [V.int 1]) : FnOk P w K mg base CX0 4 f fd ["self", "other"] (sp_Ratio___add__ C_Ratio) := by
  refine F.ok sc_Ratio___add__ (fun vs H Q E h => ?_) (fun cdv A outer s H vs Q E hr h => ?_)
  · obtain ⟨p, y, T1, B1, T2, B2, rfl, _⟩ := h
    rfl
  · obtain ⟨p, y, T1, B1, T2, B2, rfl, hp, hy, p1, p2, s1, s2, s3, s4, s5, q⟩ := h
    obtain ⟨f__as_ratio, fd__as_ratio, G__as_ratio, m__as_ratio, k__as_ratio, b__as_ratio⟩ := c__as_ratio
    obtain ⟨f_Ratio___init__, fd_Ratio___init__, G_Ratio___init__, M_Ratio___init__, b_Ratio___init__, ds_Ratio___init__, vd_Ratio___init__, bd_Ratio___init__⟩ := c_Ratio___init__
    refine ⟨_, (pss_cons (ps_set (i := 2) sc_Ratio___add__.nd rfl (Or.inl rfl) (pe_call G__as_ratio (hr.mono (by decide)) (by rfl) m__as_ratio k__as_ratio b__as_ratio .nil pass0 (pa_cons (pv 1) pa_nil)))
      (pss_one (ps_ret (pe_make M_Ratio___init__ G_Ratio___init__ (hr.mono (by decide)) (by rfl) T.g_Ratio b_Ratio___init__ .nil passL (pa_cons (pe_op op_add (pe_op op_mulW (pe_fld (pv 0) rfl) (pe_fld (pv 2) rfl)) (pe_op op_mulW (pe_fld (pv 2) rfl) (pe_fld (pv 0) rfl))) (pa_cons (pe_op op_mulW (pe_fld (pv 0) rfl) (pe_fld (pv 2) rfl)) pa_nil)))))), ?_⟩
    refine ⟨y, rfl, y, T2, B2, rfl, hy, fun H1 z e1 rz => ?_⟩
    obtain ⟨dx, hp1⟩ := hp.same e1
    obtain ⟨dz, hz⟩ := rz
    have n0 : B1 * B2 ≠ 0 := Int.ne_of_gt (Int.mul_pos p1 p2)
    refine ⟨.ref p, rfl, p, C_Ratio, dx, _, _, rfl, hp1, T.cl_Ratio, T.n_Ratio_top, rF_top T1 B1, .ref z, rfl, z, C_Ratio, dz, _, _, rfl, hz, T.cl_Ratio, T.n_Ratio_bottom, rF_bot T2 B2, T1, B2, rfl, rfl, s1.mul s4, ?_⟩
    refine ⟨.ref z, rfl, z, C_Ratio, dz, _, _, rfl, hz, T.cl_Ratio, T.n_Ratio_top, rF_top T2 B2, .ref p, rfl, p, C_Ratio, dx, _, _, rfl, hp1, T.cl_Ratio, T.n_Ratio_bottom, rF_bot T1 B1, T2, B1, rfl, rfl, s3.mul s2, _, _, rfl, rfl, ?_⟩
    refine ⟨.ref p, rfl, p, C_Ratio, dx, _, _, rfl, hp1, T.cl_Ratio, T.n_Ratio_bottom, rF_bot T1 B1, .ref z, rfl, z, C_Ratio, dz, _, _, rfl, hz, T.cl_Ratio, T.n_Ratio_bottom, rF_bot T2 B2, B1, B2, rfl, rfl, s2.mul s4, ?_⟩
    exact mk_rat (t := T1 * B2 + T2 * B1) (b := B1 * B2) n0 s5 fun x H5 e5 nx r => q H5 x _ _ (e1.trans e5) r (low n0)
def sp_Ratio___radd__ (C : Addr) : Sp := fun vs H Q _ => ∃ (p : Addr) (y : V) (T1 B1 T2 B2 : Int), vs = [.ref p, y] ∧ RatAt C H p T1 B1 ∧ NumAt C H y T2 B2 ∧ 0 < B1 ∧ 0 < B2 ∧ Sm T1 ∧ Sm B1 ∧ Sm T2 ∧ Sm B2 ∧ Sm (B1 * B2) ∧
  ∀ H' r T B, Same H H' → RatAt C H' r T B → LowT (T1 * B2 + T2 * B1) (B1 * B2) T B → Q (.ref r) H'
theorem ok_Ratio___radd__ {f : Addr} {fd : FuncData} {C_Ratio C_ZeroBottom : Addr} (F : Fun K "__radd__" "Ratio.__radd__" s_Ratio___radd__ f fd) (T : Txt K mg C_Ratio C_ZeroBottom) (c_Ratio___add__ : CalM P w K mg base CX0 4 C_Ratio "__add__" ["self", "other"] (sp_Ratio___add__ C_Ratio)) : FnOk P w K mg base CX0 5 f fd ["self", "other"] (sp_Ratio___radd__ C_Ratio) := by
  refine F.ok sc_Ratio___radd__ (fun vs H Q E h => ?_) (fun cdv A outer s H vs Q E hr h => ?_)
  · obtain ⟨p, y, T1, B1, T2, B2, rfl, _⟩ := h
    rfl
  · obtain ⟨p, y, T1, B1, T2, B2, rfl, hp, hy, p1, p2, s1, s2, s3, s4, s5, q⟩ := h
    obtain ⟨f_Ratio___add__, fd_Ratio___add__, G_Ratio___add__, M_Ratio___add__, b_Ratio___add__⟩ := c_Ratio___add__
    refine ⟨_, (pss_one (ps_ret (pe_op (op_own_Add M_Ratio___add__ T.sf_Ratio T.rf_Ratio_add T.int_add T.si_Ratio G_Ratio___add__ (hr.mono (by decide)) b_Ratio___add__ pass0) (pv 0) (pv 1)))), ?_⟩
    exact ⟨.ref p, rfl, y, rfl, hp.self, hy.arg, p, y, T1, B1, T2, B2, rfl, hp, hy, p1, p2, s1, s2, s3, s4, s5, q⟩
def sp_Ratio___sub__ (C : Addr) : Sp := fun vs H Q _ => ∃ (p : Addr) (y : V) (T1 B1 T2 B2 : Int), vs = [.ref p, y] ∧ RatAt C H p T1 B1 ∧ NumAt C H y T2 B2 ∧ 0 < B1 ∧ 0 < B2 ∧ Sm T1 ∧ Sm B1 ∧ Sm T2 ∧ Sm B2 ∧ Sm (B1 * B2) ∧
  ∀ H' r T B, Same H H' → RatAt C H' r T B → LowT (T1 * B2 - T2 * B1) (B1 * B2) T B → Q (.ref r) H'
theorem ok_Ratio___sub__ {f : Addr} {fd : FuncData} {C_Ratio C_ZeroBottom : Addr} (F : Fun K "__sub__" "Ratio.__sub__" s_Ratio___sub__ f fd) (T : Txt K mg C_Ratio C_ZeroBottom) (c__as_ratio : Cal P w K mg base CX0 3 "_as_ratio" ["number"] (sp__as_ratio C_Ratio)) (c_Ratio___neg__ : CalM P w K mg base CX0 3 C_Ratio "__neg__" ["self"] (sp_Ratio___neg__ C_Ratio)) (c_Ratio___add__ : CalM P w K mg base CX0 4 C_Ratio "__add__" ["self", "other"] (sp_Ratio___add__ C_Ratio)) : FnOk P w K mg base CX0 5 f fd ["self", "other"] (sp_Ratio___sub__ C_Ratio) := by
  refine F.ok sc_Ratio___sub__ (fun vs H Q E h => ?_) (fun cdv A outer s H vs Q E hr h => ?_)
  · obtain ⟨p, y, T1, B1, T2, B2, rfl, _⟩ := h
    rfl
  · obtain ⟨p, y, T1, B1, T2, B2, rfl, hp, hy, p1, p2, s1, s2, s3, s4, s5, q⟩ := h
    obtain ⟨f__as_ratio, fd__as_ratio, G__as_ratio, m__as_ratio, k__as_ratio, b__as_ratio⟩ := c__as_ratio
    obtain ⟨f_Ratio___neg__, fd_Ratio___neg__, G_Ratio___neg__, M_Ratio___neg__, b_Ratio___neg__⟩ := c_Ratio___neg__
    obtain ⟨f_Ratio___add__, fd_Ratio___add__, G_Ratio___add__, M_Ratio___add__, b_Ratio___add__⟩ := c_Ratio___add__
    refine ⟨_, (pss_one (ps_ret (pe_op (op_own_Add M_Ratio___add__ T.sf_Ratio T.rf_Ratio_add T.int_add T.si_Ratio G_Ratio___add__ (hr.mono (by decide)) b_Ratio___add__ pass0) (pv 0) (pe_un (un_own M_Ratio___neg__ G_Ratio___neg__ (hr.mono (by decide)) b_Ratio___neg__ pass0) (pe_call G__as_ratio (hr.mono (by decide)) (by rfl) m__as_ratio k__as_ratio b__as_ratio .nil pass0 (pa_cons (pv 1) pa_nil)))))), ?_⟩
    refine ⟨.ref p, rfl, y, rfl, y, T2, B2, rfl, hy, fun H1 z e1 rz => ?_⟩
    refine ⟨rz.self, z, T2, B2, rfl, rz, p2, s4, fun H2 m T3 B3 e2 rm lo => ?_⟩
    have h1 := (hp.same e1).same e2
    have e3 := lo.eq
    have p3 := lo.pos
    have n3 : B1 * B3 ≠ 0 := Int.ne_of_gt (Int.mul_pos p1 p3)
    have n0 : B1 * B2 ≠ 0 := Int.ne_of_gt (Int.mul_pos p1 p2)
    have sT : Sm T3 := s3.le (by have := lo.leT; omega)
    have sB : Sm B3 := s4.le lo.leB
    have s53 : Sm (B1 * B3) := s5.le (by
      rw [Int.natAbs_mul, Int.natAbs_mul]
      exact Nat.mul_le_mul_left _ lo.leB)
    refine ⟨h1.self, rm.num.arg, p, .ref m, T1, B1, T3, B3, rfl, h1, rm.num, p1, p3, s1, s2, sT, sB, s53, fun H3 r T4 B4 e4 rr lo2 => ?_⟩
    exact q H3 r T4 B4 ((e1.trans e2).trans e4) rr (lo2.to n3 n0 (by grind))
def sp_Ratio___rsub__ (C : Addr) : Sp := fun vs H Q _ => ∃ (p : Addr) (y : V) (T1 B1 T2 B2 : Int), vs = [.ref p, y] ∧ RatAt C H p T1 B1 ∧ NumAt C H y T2 B2 ∧ 0 < B1 ∧ 0 < B2 ∧ Sm T1 ∧ Sm B1 ∧ Sm T2 ∧ Sm B2 ∧ Sm (B1 * B2) ∧
  ∀ H' r T B, Same H H' → RatAt C H' r T B → LowT (T2 * B1 - T1 * B2) (B1 * B2) T B → Q (.ref r) H'
theorem ok_Ratio___rsub__ {f : Addr} {fd : FuncData} {C_Ratio C_ZeroBottom : Addr} (F : Fun K "__rsub__" "Ratio.__rsub__" s_Ratio___rsub__ f fd) (T : Txt K mg C_Ratio C_ZeroBottom) (c_Ratio___neg__ : CalM P w K mg base CX0 3 C_Ratio "__neg__" ["self"] (sp_Ratio___neg__ C_Ratio)) (c_Ratio___add__ : CalM P w K mg base CX0 4 C_Ratio "__add__" ["self", "other"] (sp_Ratio___add__ C_Ratio)) : FnOk P w K mg base CX0 5 f fd ["self", "other"] (sp_Ratio___rsub__ C_Ratio) := by
  refine F.ok sc_Ratio___rsub__ (fun vs H Q E h => ?_) (fun cdv A outer s H vs Q E hr h => ?_)
  · obtain ⟨p, y, T1, B1, T2, B2, rfl, _⟩ := h
    rfl
  · obtain ⟨p, y, T1, B1, T2, B2, rfl, hp, hy, p1, p2, s1, s2, s3, s4, s5, q⟩ := h
    obtain ⟨f_Ratio___neg__, fd_Ratio___neg__, G_Ratio___neg__, M_Ratio___neg__, b_Ratio___neg__⟩ := c_Ratio___neg__
    obtain ⟨f_Ratio___add__, fd_Ratio___add__, G_Ratio___add__, M_Ratio___add__, b_Ratio___add__⟩ := c_Ratio___add__
    refine ⟨_, (pss_one (ps_ret (pe_op (op_own_Add M_Ratio___add__ T.sf_Ratio T.rf_Ratio_add T.int_add T.si_Ratio G_Ratio___add__ (hr.mono (by decide)) b_Ratio___add__ pass0) (pe_un (un_own M_Ratio___neg__ G_Ratio___neg__ (hr.mono (by decide)) b_Ratio___neg__ pass0) (pv 0)) (pv 1)))), ?_⟩
    refine ⟨.ref p, rfl, hp.self, p, T1, B1, rfl, hp, p1, s2, fun H2 m T3 B3 e2 rm lo => ?_⟩
    have e3 := lo.eq
    have p3 := lo.pos
    have n3 : B3 * B2 ≠ 0 := Int.ne_of_gt (Int.mul_pos p3 p2)
    have n0 : B1 * B2 ≠ 0 := Int.ne_of_gt (Int.mul_pos p1 p2)
    have sT : Sm T3 := s1.le (by have := lo.leT; omega)
    have sB : Sm B3 := s2.le lo.leB
    have s53 : Sm (B3 * B2) := s5.le (by
      rw [Int.natAbs_mul, Int.natAbs_mul]
      exact Nat.mul_le_mul_right _ lo.leB)
    have hy2 := hy.same e2
    refine ⟨y, rfl, rm.self, hy2.arg, m, y, T3, B3, T2, B2, rfl, rm, hy2, p3, p2, sT, sB, s3, s4, s53, fun H3 r T4 B4 e4 rr lo2 => ?_⟩
    exact q H3 r T4 B4 (e2.trans e4) rr (lo2.to n3 n0 (by grind))
def sp_Ratio___mul__ (C : Addr) : Sp := fun vs H Q _ => ∃ (p : Addr) (y : V) (T1 B1 T2 B2 : Int), vs = [.ref p, y] ∧ RatAt C H p T1 B1 ∧ NumAt C H y T2 B2 ∧ 0 < B1 ∧ 0 < B2 ∧ Sm T1 ∧ Sm B1 ∧ Sm T2 ∧ Sm B2 ∧ Sm (B1 * B2) ∧
  ∀ H' r T B, Same H H' → RatAt C H' r T B → LowT (T1 * T2) (B1 * B2) T B → Q (.ref r) H'
theorem ok_Ratio___mul__ {f : Addr} {fd : FuncData} {C_Ratio C_ZeroBottom : Addr} (F : Fun K "__mul__" "Ratio.__mul__" s_Ratio___mul__ f fd) (T : Txt K mg C_Ratio C_ZeroBottom) (c__as_ratio : Cal P w K mg base CX0 3 "_as_ratio" ["number"] (sp__as_ratio C_Ratio)) (c_Ratio___init__ : CalI P w K mg base (L2.CX P w) 1 C_Ratio ["self", "top", "bottom"] (sp_Ratio___init__ C_Ratio C_ZeroBottom) [V.int 1]) : FnOk P w K mg base CX0 4 f fd ["self", "other"] (sp_Ratio___mul__ C_Ratio) := by
  refine F.ok sc_Ratio___mul__ (fun vs H Q E h => ?_) (fun cdv A outer s H vs Q E hr h => ?_)
  · obtain ⟨p, y, T1, B1, T2, B2, rfl, _⟩ := h
    rfl
  · obtain ⟨p, y, T1, B1, T2, B2, rfl, hp, hy, p1, p2, s1, s2, s3, s4, s5, q⟩ := h
    obtain ⟨f__as_ratio, fd__as_ratio, G__as_ratio, m__as_ratio, k__as_ratio, b__as_ratio⟩ := c__as_ratio
    obtain ⟨f_Ratio___init__, fd_Ratio___init__, G_Ratio___init__, M_Ratio___init__, b_Ratio___init__, ds_Ratio___init__, vd_Ratio___init__, bd_Ratio___init__⟩ := c_Ratio___init__
    refine ⟨_, (pss_cons (ps_set (i := 2) sc_Ratio___mul__.nd rfl (Or.inl rfl) (pe_call G__as_ratio (hr.mono (by decide)) (by rfl) m__as_ratio k__as_ratio b__as_ratio .nil pass0 (pa_cons (pv 1) pa_nil)))
      (pss_one (ps_ret (pe_make M_Ratio___init__ G_Ratio___init__ (hr.mono (by decide)) (by rfl) T.g_Ratio b_Ratio___init__ .nil passL (pa_cons (pe_op op_mulW (pe_fld (pv 0) rfl) (pe_fld (pv 2) rfl)) (pa_cons (pe_op op_mulW (pe_fld (pv 0) rfl) (pe_fld (pv 2) rfl)) pa_nil)))))), ?_⟩
    refine ⟨y, rfl, y, T2, B2, rfl, hy, fun H1 z e1 rz => ?_⟩
    obtain ⟨dx, hp1⟩ := hp.same e1
    obtain ⟨dz, hz⟩ := rz
    have n0 : B1 * B2 ≠ 0 := Int.ne_of_gt (Int.mul_pos p1 p2)
    refine ⟨.ref p, rfl, p, C_Ratio, dx, _, _, rfl, hp1, T.cl_Ratio, T.n_Ratio_top, rF_top T1 B1, .ref z, rfl, z, C_Ratio, dz, _, _, rfl, hz, T.cl_Ratio, T.n_Ratio_top, rF_top T2 B2, T1, T2, rfl, rfl, s1.mul s3, ?_⟩
    refine ⟨.ref p, rfl, p, C_Ratio, dx, _, _, rfl, hp1, T.cl_Ratio, T.n_Ratio_bottom, rF_bot T1 B1, .ref z, rfl, z, C_Ratio, dz, _, _, rfl, hz, T.cl_Ratio, T.n_Ratio_bottom, rF_bot T2 B2, B1, B2, rfl, rfl, s2.mul s4, ?_⟩
    exact mk_rat (t := T1 * T2) (b := B1 * B2) n0 s5 fun x H5 e5 nx r => q H5 x _ _ (e1.trans e5) r (low n0)
def sp_Ratio___rmul__ (C : Addr) : Sp := fun vs H Q _ => ∃ (p : Addr) (y : V) (T1 B1 T2 B2 : Int), vs = [.ref p, y] ∧ RatAt C H p T1 B1 ∧ NumAt C H y T2 B2 ∧ 0 < B1 ∧ 0 < B2 ∧ Sm T1 ∧ Sm B1 ∧ Sm T2 ∧ Sm B2 ∧ Sm (B1 * B2) ∧
  ∀ H' r T B, Same H H' → RatAt C H' r T B → LowT (T1 * T2) (B1 * B2) T B → Q (.ref r) H'
theorem ok_Ratio___rmul__ {f : Addr} {fd : FuncData} {C_Ratio C_ZeroBottom : Addr} (F : Fun K "__rmul__" "Ratio.__rmul__" s_Ratio___rmul__ f fd) (T : Txt K mg C_Ratio C_ZeroBottom) (c_Ratio___mul__ : CalM P w K mg base CX0 4 C_Ratio "__mul__" ["self", "other"] (sp_Ratio___mul__ C_Ratio)) : FnOk P w K mg base CX0 5 f fd ["self", "other"] (sp_Ratio___rmul__ C_Ratio) := by
  refine F.ok sc_Ratio___rmul__ (fun vs H Q E h => ?_) (fun cdv A outer s H vs Q E hr h => ?_)
  · obtain ⟨p, y, T1, B1, T2, B2, rfl, _⟩ := h
    rfl
  · obtain ⟨p, y, T1, B1, T2, B2, rfl, hp, hy, p1, p2, s1, s2, s3, s4, s5, q⟩ := h
    obtain ⟨f_Ratio___mul__, fd_Ratio___mul__, G_Ratio___mul__, M_Ratio___mul__, b_Ratio___mul__⟩ := c_Ratio___mul__
    refine ⟨_, (pss_one (ps_ret (pe_op (op_own_Mult M_Ratio___mul__ T.sf_Ratio T.rf_Ratio_mul T.int_mul T.si_Ratio G_Ratio___mul__ (hr.mono (by decide)) b_Ratio___mul__ pass0) (pv 0) (pv 1)))), ?_⟩
    exact ⟨.ref p, rfl, y, rfl, hp.self, hy.arg, p, y, T1, B1, T2, B2, rfl, hp, hy, p1, p2, s1, s2, s3, s4, s5, q⟩
def sp_Ratio___floordiv__ (C CZ : Addr) : Sp := fun vs H Q E => ∃ (p : Addr) (y : V) (T1 B1 T2 B2 : Int), vs = [.ref p, y] ∧ RatAt C H p T1 B1 ∧ NumAt C H y T2 B2 ∧ 0 < B1 ∧ 0 < B2 ∧ Sm T1 ∧ Sm B1 ∧ Sm T2 ∧ Sm B2 ∧ Sm (B1 * T2) ∧
  (T2 = 0 → ∀ H', Same H H' → E (.ref CZ) none H') ∧ (T2 ≠ 0 → ∀ H' T B, Same H H' → LowT (T1 * B2) (B1 * T2) T B → Q (.int (T / B)) H')
theorem ok_Ratio___floordiv__ {f : Addr} {fd : FuncData} {C_Ratio C_ZeroBottom : Addr} (F : Fun K "__floordiv__" "Ratio.__floordiv__" s_Ratio___floordiv__ f fd) (T : Txt K mg C_Ratio C_ZeroBottom) (c_Ratio_over : CalM P w K mg base (L2.CX P w) 4 C_Ratio "over" ["self", "other"] (sp_Ratio_over C_Ratio C_ZeroBottom)) : FnOk P w K mg base (L2.CX P w) 5 f fd ["self", "other"] (sp_Ratio___floordiv__ C_Ratio C_ZeroBottom) := by
  refine F.okX sc_Ratio___floordiv__ (fun vs H Q E h => ?_) (fun cdv A outer s H vs Q E hr h => ?_)
  · obtain ⟨p, y, T1, B1, T2, B2, rfl, _⟩ := h
    rfl
  · obtain ⟨p, y, T1, B1, T2, B2, rfl, hp, hy, p1, p2, s1, s2, s3, s4, s5, kE, kQ⟩ := h
    obtain ⟨f_Ratio_over, fd_Ratio_over, G_Ratio_over, M_Ratio_over, b_Ratio_over⟩ := c_Ratio_over
    refine ⟨_, (pss_cons (ps_set (i := 2) sc_Ratio___floordiv__.nd rfl (Or.inl rfl) (pe_meth (pv 0) T.cl_Ratio M_Ratio_over G_Ratio_over (hr.mono (by decide)) b_Ratio_over .nil (passes_call (takes_of rfl rfl rfl rfl) (fun _ _ _ _ h => h)) (pa_cons (pv 1) pa_nil)))
      (pss_one (ps_ret (pe_op op_fdivW (pe_fld (pv 2) rfl) (pe_fld (pv 2) rfl))))), ?_⟩
    obtain ⟨dx, hp0⟩ := id hp
    refine ⟨.ref p, rfl, p, dx, _, rfl, hp0, rF_no _ _ (by decide +kernel) (by decide +kernel), y, rfl, p, y, T1, B1, T2, B2, rfl, hp, hy, p1, p2, s1, s2, s3, s4, s5, kE, fun h0 H' r T3 B3 e1 rr lo => ?_⟩
    obtain ⟨dr, hr'⟩ := rr
    refine ⟨.ref r, rfl, r, C_Ratio, dr, _, _, rfl, hr', T.cl_Ratio, T.n_Ratio_top, rF_top T3 B3, .ref r, rfl, r, C_Ratio, dr, _, _, rfl, hr', T.cl_Ratio, T.n_Ratio_bottom, rF_bot T3 B3, T3, B3, rfl, rfl, ⟨lo.pos, ?_⟩, kQ h0 H' T3 B3 e1 lo⟩
    exact Nat.lt_of_lt_of_le (s5.le lo.leB).log (by decide)
def sp_Ratio___mod__ (C CZ : Addr) : Sp := fun vs H Q E => ∃ (p : Addr) (y : V) (T1 B1 T2 B2 : Int), vs = [.ref p, y] ∧ RatAt C H p T1 B1 ∧ NumAt C H y T2 B2 ∧ 0 < B1 ∧ 0 < B2 ∧ Sm T1 ∧ Sm B1 ∧ Sm T2 ∧ Sm B2 ∧ Sm (B1 * T2) ∧ Sm (T1 * B2) ∧ Sm (B1 * B2) ∧ Sm (T2 * (T1 * B2)) ∧
  (T2 = 0 → ∀ H', Same H H' → E (.ref CZ) none H') ∧ (T2 ≠ 0 → ∀ H' r T B Tq Bq, Same H H' → RatAt C H' r T B → LowT (T1 * B2) (B1 * T2) Tq Bq → LowT (T1 * B2 - T2 * (Tq / Bq) * B1) (B1 * B2) T B → Q (.ref r) H')
theorem ok_Ratio___mod__ {f : Addr} {fd : FuncData} {C_Ratio C_ZeroBottom : Addr} (F : Fun K "__mod__" "Ratio.__mod__" s_Ratio___mod__ f fd) (T : Txt K mg C_Ratio C_ZeroBottom) (c__as_ratio : Cal P w K mg base CX0 3 "_as_ratio" ["number"] (sp__as_ratio C_Ratio)) (c_Ratio___floordiv__ : CalM P w K mg base (L2.CX P w) 5 C_Ratio "__floordiv__" ["self", "other"] (sp_Ratio___floordiv__ C_Ratio C_ZeroBottom)) (c_Ratio___mul__ : CalM P w K mg base CX0 4 C_Ratio "__mul__" ["self", "other"] (sp_Ratio___mul__ C_Ratio)) (c_Ratio___sub__ : CalM P w K mg base CX0 5 C_Ratio "__sub__" ["self", "other"] (sp_Ratio___sub__ C_Ratio)) : FnOk P w K mg base (L2.CX P w) 6 f fd ["self", "other"] (sp_Ratio___mod__ C_Ratio C_ZeroBottom) := by
  refine F.okX sc_Ratio___mod__ (fun vs H Q E h => ?_) (fun cdv A outer s H vs Q E hr h => ?_)
  · obtain ⟨p, y, T1, B1, T2, B2, rfl, _⟩ := h
    rfl
  · obtain ⟨p, y, T1, B1, T2, B2, rfl, hp, hy, p1, p2, s1, s2, s3, s4, s5, s6, s7, s8, kE, kQ⟩ := h
    obtain ⟨f__as_ratio, fd__as_ratio, G__as_ratio, m__as_ratio, k__as_ratio, b__as_ratio⟩ := c__as_ratio
    obtain ⟨f_Ratio___floordiv__, fd_Ratio___floordiv__, G_Ratio___floordiv__, M_Ratio___floordiv__, b_Ratio___floordiv__⟩ := c_Ratio___floordiv__
    obtain ⟨f_Ratio___mul__, fd_Ratio___mul__, G_Ratio___mul__, M_Ratio___mul__, b_Ratio___mul__⟩ := c_Ratio___mul__
    obtain ⟨f_Ratio___sub__, fd_Ratio___sub__, G_Ratio___sub__, M_Ratio___sub__, b_Ratio___sub__⟩ := c_Ratio___sub__
    refine ⟨_, (pss_one (ps_ret (pe_op (op_own_Sub M_Ratio___sub__ T.sf_Ratio T.rf_Ratio_sub T.int_sub T.si_Ratio G_Ratio___sub__ (hr.mono (by decide)) b_Ratio___sub__ pass0) (pv 0) (pe_op (op_own_Mult M_Ratio___mul__ T.sf_Ratio T.rf_Ratio_mul T.int_mul T.si_Ratio G_Ratio___mul__ (hr.mono (by decide)) b_Ratio___mul__ pass0) (pe_call G__as_ratio (hr.mono (by decide)) (by rfl) m__as_ratio k__as_ratio b__as_ratio .nil pass0 (pa_cons (pv 1) pa_nil)) (pe_op (op_own_FloorDiv M_Ratio___floordiv__ T.sf_Ratio T.rf_Ratio_floordiv T.int_floordiv T.si_Ratio G_Ratio___floordiv__ (hr.mono (by decide)) b_Ratio___floordiv__ (passes_call (takes_of rfl rfl rfl rfl) (fun _ _ _ _ h => h))) (pv 0) (pv 1)))))), ?_⟩
    refine ⟨.ref p, rfl, y, rfl, y, T2, B2, rfl, hy, fun H1 z e1 rz => ?_⟩
    refine ⟨.ref p, rfl, y, rfl, (hp.same e1).self, (hy.same e1).arg, p, y, T1, B1, T2, B2, rfl, hp.same e1, hy.same e1, p1, p2, s1, s2, s3, s4, s5, fun h0 H' e2 => kE h0 H' (e1.trans e2), fun h0 H2 Tq Bq e2 lq => ?_⟩
    have sq : (Tq / Bq).natAbs ≤ Tq.natAbs := by
      have h1 := lq.pos
      have h2 := Int.natAbs_ediv_le_natAbs Tq Bq
      exact h2
    have sQ : Sm (Tq / Bq) := s6.le (Nat.le_trans sq lq.leT)
    have one1 : Sm (1 : Int) := sm_of (n := 1) (by decide)
    refine ⟨(rz.same e2).self, .inr ⟨_, rfl⟩, z, .int (Tq / Bq), T2, B2, Tq / Bq, 1, rfl, rz.same e2, .inr ⟨rfl, rfl⟩, p2, by decide, s3, s4, sQ, one1, by rw [Int.mul_one]; exact s4, fun H3 m T3 B3 e3 rm lm => ?_⟩
    have eT := (e1.trans e2).trans e3
    have n2 : B2 * 1 ≠ 0 := by omega
    have n0 : B1 * B2 ≠ 0 := Int.ne_of_gt (Int.mul_pos p1 p2)
    have p3 := lm.pos
    have n3 : B1 * B3 ≠ 0 := Int.ne_of_gt (Int.mul_pos p1 p3)
    have sT3 : Sm T3 := s8.le (Nat.le_trans lm.leT (by
      rw [Int.natAbs_mul, Int.natAbs_mul]
      exact Nat.mul_le_mul_left _ (Nat.le_trans sq lq.leT)))
    have lb : B3.natAbs ≤ B2.natAbs := by
      have := lm.leB
      rw [Int.mul_one] at this
      exact this
    have s9 : Sm (B1 * B3) := s7.le (by
      rw [Int.natAbs_mul, Int.natAbs_mul]
      exact Nat.mul_le_mul_left _ lb)
    have q3 := lm.eq
    refine ⟨(hp.same eT).self, rm.num.arg, p, .ref m, T1, B1, T3, B3, rfl, hp.same eT, rm.num, p1, p3, s1, s2, sT3, s4.le lb, s9, fun H4 r T4 B4 e4 rr lr => ?_⟩
    refine kQ h0 H4 r T4 B4 Tq Bq (eT.trans e4) rr lq (lr.to n3 n0 ?_)
    generalize Tq / Bq = qq at q3 ⊢
    grind
def sp__law_cell (K : PySem.W.Frag) : Sp := fun vs H Q _ => ∃ (a : Addr) (ns : List Int) (j : Nat), vs = [.ref a, .int (j : Int)] ∧ SqL K H a (ns.map V.int) ∧ ∀ v : Int, Q (.int v) H
theorem ok__law_cell {f : Addr} {fd : FuncData} {C_Ratio C_ZeroBottom : Addr} (F : Fun K "_law_cell" "_law_cell" s__law_cell f fd) (T : Txt K mg C_Ratio C_ZeroBottom) (m_int : mg "int" = none) (m_len : mg "len" = none) : FnOk P w K mg base CX0 1 f fd ["_law_script", "_law_place"] (sp__law_cell K) := by
  refine F.ok sc__law_cell (fun vs H Q E h => ?_) (fun cdv A outer s H vs Q E hr h => ?_)
  · obtain ⟨a, ns, j, rfl, _⟩ := h
    rfl
  · obtain ⟨a, ns, j, rfl, hS, q⟩ := h
    refine ⟨_, (pss_cons (ps_if (pt_cmpR op_lt (pv 1) (pe_callB call_len_seq (by rfl) m_len (by decide +kernel) (pa_cons (pv 0) pa_nil)) (nomark _)) (pss_one (ps_ret (pe_callTy call_int1 (by rfl) m_int (by decide +kernel) (pa_cons (pe_ix ix_list (pv 0) (pv 1) (fun _ _ => rfl)) pa_nil)))) pss_nil)
      (pss_one (ps_ret pe_int))), ?_⟩
    refine ⟨_, rfl, .ref a, rfl, a, _, rfl, .inl hS, _, _, rfl, rfl, _, rfl, ite2 (fun e => ?_) (fun _ => q 0)⟩
    have hj : j < ns.length := by
      have e := of_decide_eq_true e
      rw [List.length_map] at e
      omega
    exact ⟨.ref a, rfl, .int (j : Int), rfl, a, _, _, _, rfl, rfl, hS, atI_nat (int_at (List.getElem?_eq_getElem hj)), .inl ⟨_, rfl, q _⟩⟩
def sp__law_draws (K : PySem.W.Frag) : Sp := fun vs H Q _ => ∃ (c : Int) (a : Addr) (ns : List Int), vs = [.int c, .ref a] ∧ SqL K H a (ns.map V.int) ∧ (∀ n ∈ ns, 0 < n ∧ n < 2 ^ 100) ∧ ns.length ≤ 1000 ∧
  ∀ ds H' p, Within ds ns → Same H H' → H p = none → H' p = some (.lst (ds.map V.int)) → Q (.ref p) H'

theorem ok__law_draws {f : Addr} {fd : FuncData} {C_Ratio C_ZeroBottom : Addr} (F : Fun K "_law_draws" "_law_draws" s__law_draws f fd) (T : Txt K mg C_Ratio C_ZeroBottom) (m_int : mg "int" = none) (m_len : mg "len" = none) (m_range : mg "range" = none) : FnOk P w K mg base CX0 1 f fd ["_law_cell_here", "_law_sizes"] (sp__law_draws K) := by
  refine F.ok sc__law_draws (fun vs H Q E h => ?_) (fun cdv A outer s H vs Q E hr h => ?_)
  · obtain ⟨c, a, ns, rfl, _⟩ := h
    rfl
  · obtain ⟨c, a, ns, rfl, hS, hn, hlen, q⟩ := h
    refine ⟨_, (pss_cons (ps_if (pt_cmpR op_eq (pv 0) pe_int (nomark _)) (pss_one (ps_ret (pe_lc (own := [("_law_size", 2)]) (g := gName 2) (tt := tYes) rfl sc__law_draws.nd (pi_list (pv 1)) (blkOk_by (own := [("_law_size", 2)]) (N := ["_law_cell_here", "_law_sizes", "_law_size", "_law_left", "_law_found", "_law_k", "_law_low", "_law_high"]) (sc := defScope s__law_draws) (by decide +kernel)) (fun _ _ _ _ _ => (pg_name (i := 2) sc__law_draws.nd rfl (Or.inl rfl))) (fun _ _ _ _ _ => pts_nil) (fun _ _ _ _ _ => pe_int)))) pss_nil)
      (pss_cons (ps_if (pt_cmpR op_ge (pv 0) (pe_op op_pow pe_int pe_int) (nomark _)) (pss_cons (ps_set (i := 3) sc__law_draws.nd rfl (Or.inl rfl) (pe_op op_sub (pv 0) (pe_op op_pow pe_int pe_int)))
      (pss_cons (ps_set (i := 4) sc__law_draws.nd rfl (Or.inl rfl) (pe_lst pa_nil))
      (pss_cons (ps_for PassesOwn.never rfl (pi_list (pv 1)) (pg_name (i := 2) sc__law_draws.nd rfl (Or.inl rfl))
      (pss_cons (ps_expr (pe_bm PySem.F.plainAttrs_list PySem.F.slot_list_append PySem.F.type_list_append mt_append (pv 4) (pa_cons (pe_op op_mod (pe_callTy call_int1 (by rfl) m_int (by decide +kernel) (pa_cons (pv 3) pa_nil)) (pv 2)) pa_nil)))
      (pss_one (ps_set (i := 3) sc__law_draws.nd rfl (Or.inl rfl) (pe_op op_fdivW (pv 3) (pv 2))))))
      (pss_one (ps_ret (pv 4)))))) pss_nil)
      (pss_cons (ps_set (i := 4) sc__law_draws.nd rfl (Or.inl rfl) (pe_lst pa_nil))
      (pss_cons (ps_for PassesOwn.never rfl (pi_range1 (by rfl) m_range (pa_cons (pe_callB call_len_seq (by rfl) m_len (by decide +kernel) (pa_cons (pv 1) pa_nil)) pa_nil)) (pg_name (i := 5) sc__law_draws.nd rfl (Or.inl rfl))
      (pss_cons (ps_set (i := 6) sc__law_draws.nd rfl (Or.inl rfl) (pe_op op_mod (pe_callTy call_int1 (by rfl) m_int (by decide +kernel) (pa_cons (pe_op op_add (pe_op op_mul (pv 0) pe_int) (pe_op op_mul (pe_op op_add (pv 5) pe_int) pe_int)) pa_nil)) pe_int))
      (pss_cons (ps_set (i := 6) sc__law_draws.nd rfl (Or.inl rfl) (pe_op op_mod (pe_callTy call_int1 (by rfl) m_int (by decide +kernel) (pa_cons (pe_op op_add (pe_op op_mul (pv 6) pe_int) (pe_op op_mul (pe_op op_add (pv 5) pe_int) pe_int)) pa_nil)) pe_int))
      (pss_cons (ps_set (i := 7) sc__law_draws.nd rfl (Or.inl rfl) (pe_op op_mod (pe_callTy call_int1 (by rfl) m_int (by decide +kernel) (pa_cons (pe_op op_add (pe_op op_mul (pv 0) pe_int) (pe_op op_mul (pe_op op_add (pv 5) pe_int) pe_int)) pa_nil)) pe_int))
      (pss_cons (ps_set (i := 7) sc__law_draws.nd rfl (Or.inl rfl) (pe_op op_mod (pe_callTy call_int1 (by rfl) m_int (by decide +kernel) (pa_cons (pe_op op_add (pe_op op_mul (pv 7) pe_int) (pv 6)) pa_nil)) pe_int))
      (pss_one (ps_expr (pe_bm PySem.F.plainAttrs_list PySem.F.slot_list_append PySem.F.type_list_append mt_append (pv 4) (pa_cons (pe_op op_mod (pe_callTy call_int1 (by rfl) m_int (by decide +kernel) (pa_cons (pe_op op_add (pe_op op_mul (pv 7) pe_int) (pv 6)) pa_nil)) (pe_ix ix_list (pv 1) (pv 5) (fun _ _ => rfl))) pa_nil)))))))))
      (pss_one (ps_ret (pv 4))))))), ?_⟩
    have small : ∀ {ds : List Int} {i : Nat}, Within ds (ns.take i) → (ds.map V.int).length < sizeLine := fun {ds i} w => by
      rw [List.length_map, w.len, List.length_take]
      exact small1000 (by omega)
    refine ⟨_, rfl, rfl, _, rfl, ite2 (fun _ => ?_) (fun _ => ?_)⟩
    · -- [0 for size in sizes]
      refine ⟨.ref a, rfl, a, rfl, ⟨_, hS⟩, fun D nD => lc_list (K := K) (a := a) (xs := ns.map V.int) (fun i H2 => ∃ ds : List Int, Same H H2 ∧ H2 D = some (.lst (ds.map V.int)) ∧ Within ds (ns.take i)) ⟨[], same_upd nD, upd_same, Within.zero ns⟩ (fun i H2 _ ⟨_, s, _⟩ => s.seq hS) ?_ ?_⟩
      · rintro i x H2 hi ⟨ds, s, hD, w⟩
        obtain ⟨n, rfl, hin⟩ := int_of hi
        refine ⟨rfl, ?_⟩
        refine lc_yes ?_
        refine iteT ?_
        exact ⟨_, hD, small w, ds ++ [0], same_mut s nD, by rw [upd_same, ← snoc_int], w.step hin (Int.le_refl 0) (hn n (List.mem_of_getElem? hin)).1⟩
      · rintro H2 ⟨ds, s, hD, w⟩
        rw [List.length_map] at w
        exact q ds H2 D w.full s nD hD
    refine ⟨_, rfl, 10, 18, rfl, rfl, ⟨by decide, by decide, by decide⟩, _, _, rfl, rfl, _, rfl, ite2 (fun _ => ?_) (fun _ => ?_)⟩
    · -- left = cell - 10 ** 18; found = []
      refine ⟨_, rfl, 10, 18, rfl, rfl, ⟨by decide, by decide, by decide⟩, _, _, rfl, rfl, ?_⟩
      refine ⟨Nat.zero_le _, fun o no => ?_⟩
      have s1 : Same H (upd H o (.lst [])) := same_upd no
      refine ⟨.ref a, rfl, a, rfl, ⟨_, s1.seq hS⟩, for_list (K := K) (a := a) (xs := ns.map V.int) (fun i σ H2 => ∃ (ds : List Int) (l : Int) (y : Option V), σ = [some (.int c), some (.ref a), y, some (.int l), some (.ref o), none, none, none] ∧ Same H H2 ∧ H2 o = some (.lst (ds.map V.int)) ∧ Within ds (ns.take i))
        ⟨[], _, none, rfl, s1, upd_same, Within.zero ns⟩ (fun i σ H2 _ ⟨_, _, _, _, s, _⟩ => s.seq hS) ?_ ?_⟩
      · rintro i x σ H2 hi ⟨ds, l, y, rfl, s, hD, w⟩
        obtain ⟨n, rfl, hin⟩ := int_of hi
        obtain ⟨n0, n1⟩ := hn n (List.mem_of_getElem? hin)
        refine ⟨.ref o, rfl, .inl ⟨rfl, _, lst_l hD⟩, _, rfl, .inl ⟨l, rfl, _, rfl, _, _, rfl, rfl, n0, o, _, _, rfl, rfl, hD, small w, ?_⟩⟩
        refine ⟨_, rfl, _, rfl, _, _, rfl, rfl, w_div n0 n1, ds ++ [l % n], _, _, rfl, same_mut s no, by rw [upd_same, ← snoc_int], w.step hin (Int.emod_nonneg _ (by omega)) (Int.emod_lt_of_pos _ n0)⟩
      · rintro σ H2 ⟨ds, l, y, rfl, s, hD, w⟩
        rw [List.length_map] at w
        exact ⟨_, rfl, q ds H2 o w.full s no hD⟩
    · refine ⟨Nat.zero_le _, fun o no => ?_⟩
      have s1 : Same H (upd H o (.lst [])) := same_upd no
      refine ⟨.ref a, rfl, a, _, rfl, .inl (s1.seq hS), _, rfl, ?_⟩
      rw [List.length_map]
      refine ⟨by omega, by omega, ?_⟩
      rw [Int.toNat_natCast]
      refine for_range (lo := 0) (n := ns.length) (fun i σ H2 => ∃ (ds : List Int) (y1 y2 y3 : Option V), σ = [some (.int c), some (.ref a), none, none, some (.ref o), y1, y2, y3] ∧ Same H H2 ∧ H2 o = some (.lst (ds.map V.int)) ∧ Within ds (ns.take i))
        ⟨[], none, none, none, rfl, s1, upd_same, Within.zero ns⟩ ?_ ?_
      · rintro i σ H2 hi ⟨ds, y1, y2, y3, rfl, s, hD, w⟩
        have hin : ns[i]? = some ns[i] := List.getElem?_eq_getElem hi
        obtain ⟨n0, n1⟩ := hn ns[i] (List.getElem_mem hi)
        refine ⟨_, rfl, _, _, rfl, rfl, .inr ⟨by decide, by decide⟩, _, rfl, _, _, rfl, rfl, _, _, rfl, rfl, .inr ⟨by decide, by decide⟩, _, _, rfl, rfl, .inl ⟨_, rfl, _, _, rfl, rfl, (show (0 : Int) < 2147483647 by decide), ?_⟩⟩
        refine ⟨_, rfl, _, _, rfl, rfl, .inr ⟨by decide, by decide⟩, _, rfl, _, _, rfl, rfl, _, _, rfl, rfl, .inr ⟨by decide, by decide⟩, _, _, rfl, rfl, .inl ⟨_, rfl, _, _, rfl, rfl, (show (0 : Int) < 2147483399 by decide), ?_⟩⟩
        refine ⟨_, rfl, _, _, rfl, rfl, .inr ⟨by decide, by decide⟩, _, rfl, _, _, rfl, rfl, _, _, rfl, rfl, .inr ⟨by decide, by decide⟩, _, _, rfl, rfl, .inl ⟨_, rfl, _, _, rfl, rfl, (show (0 : Int) < 2147483563 by decide), ?_⟩⟩
        refine ⟨_, rfl, _, _, rfl, rfl, .inr ⟨by decide, by decide⟩, _, rfl, _, _, rfl, rfl, .inl ⟨_, rfl, _, _, rfl, rfl, (show (0 : Int) < 2147483587 by decide), ?_⟩⟩
        refine ⟨.ref o, rfl, .inl ⟨rfl, _, lst_l hD⟩, _, rfl, _, _, rfl, rfl, .inr ⟨by decide, by decide⟩, _, rfl, _, _, rfl, rfl, .inl ⟨_, rfl, .ref a, rfl, .int (0 + (i : Int)), rfl, a, _, _, _, rfl, rfl, s.seq hS, at_of (Int.zero_add _) (int_at hin), _, _, rfl, rfl, n0, o, _, _, rfl, rfl, hD, small w, ?_⟩⟩
        exact ⟨ds ++ [_], _, _, _, rfl, same_mut s no, by rw [upd_same, ← snoc_int], w.step hin (Int.emod_nonneg _ (by omega)) (Int.emod_lt_of_pos _ n0)⟩
      · rintro σ H2 ⟨ds, y1, y2, y3, rfl, s, hD, w⟩
        exact ⟨_, rfl, q ds H2 o w.full s no hD⟩
def sp__law_is_int : Sp := fun vs H Q _ => ∃ v : Int, vs = [.int v] ∧ Q (.bl true) H
theorem ok__law_is_int {f : Addr} {fd : FuncData} {C_Ratio C_ZeroBottom : Addr} (F : Fun K "_law_is_int" "_law_is_int" s__law_is_int f fd) (T : Txt K mg C_Ratio C_ZeroBottom) (m_bool : mg "bool" = none) (m_int : mg "int" = none) (m_isinstance : mg "isinstance" = none) : FnOk P w K mg base CX0 1 f fd ["_law_x"] sp__law_is_int := by
  refine F.ok sc__law_is_int (fun vs H Q E h => ?_) (fun cdv A outer s H vs Q E hr h => ?_)
  · obtain ⟨v, rfl, _⟩ := h
    rfl
  · obtain ⟨v, rfl, q⟩ := h
    refine ⟨_, (pss_one (ps_ret (pe_and (pe_callB call_isi (by rfl) m_isinstance (by decide +kernel) (pa_cons (pv 0) (pa_cons (pe_bltn (v := .ty "int") (by rfl) m_int (by decide +kernel) rfl) pa_nil))) (pe_one (pe_not (pe_callB call_isi (by rfl) m_isinstance (by decide +kernel) (pa_cons (pv 0) (pa_cons (pe_bltn (v := .ty "bool") (by rfl) m_bool (by decide +kernel) rfl) pa_nil)))))))), ?_⟩
    exact ⟨_, rfl, .int v, .ty "int", _, _, true, rfl, .ty "int", .base (.int v), kit_ty kI, true, rfl, iteT ⟨_, rfl, .int v, .ty "bool", _, _, false, rfl, .ty "bool", .base (.int v), kit_ty kB, false, rfl, q⟩⟩
def sp__law_gcd : Sp := fun vs H Q _ => ∃ a b : Nat, vs = [.int (a : Int), .int (b : Int)] ∧ a * b < 6 ^ 598 ∧ Q (.int ((Nat.gcd a b : Nat) : Int)) H
theorem ok__law_gcd {f : Addr} {fd : FuncData} {C_Ratio C_ZeroBottom : Addr} (F : Fun K "_law_gcd" "_law_gcd" s__law_gcd f fd) (T : Txt K mg C_Ratio C_ZeroBottom) (m_int : mg "int" = none) (m_range : mg "range" = none) : FnOk P w K mg base CX0 1 f fd ["_law_a", "_law_b"] sp__law_gcd := by
  refine F.ok sc__law_gcd (fun vs H Q E h => ?_) (fun cdv A outer s H vs Q E hr h => ?_)
  · obtain ⟨a, b, rfl, _⟩ := h
    rfl
  · obtain ⟨a, b, rfl, hab, q⟩ := h
    refine ⟨_, (pss_cons (ps_for PassesOwn.never rfl (pi_range1 (by rfl) m_range (pa_cons pe_int pa_nil)) (pg_name (i := 2) sc__law_gcd.nd rfl (Or.inl rfl))
      (pss_cons (ps_if (pt_cmpR op_eq (pv 1) pe_int (nomark _)) (pss_one (ps_ret (pv 0))) pss_nil)
      (pss_cons (ps_set (i := 3) sc__law_gcd.nd rfl (Or.inl rfl) (pe_op op_mod (pe_callTy call_int1 (by rfl) m_int (by decide +kernel) (pa_cons (pv 0) pa_nil)) (pv 1)))
      (pss_cons (ps_set (i := 0) sc__law_gcd.nd rfl (Or.inl rfl) (pv 1))
      (pss_one (ps_set (i := 1) sc__law_gcd.nd rfl (Or.inl rfl) (pv 3)))))))
      (pss_one (ps_ret pe_int))), ?_⟩
    refine ⟨1200, rfl, by decide, by decide, ?_⟩
    refine for_range (lo := 0) (n := 1200) (fun i σ H2 => ∃ (x y : Nat) (t r : Option V), σ = [some (.int (x : Int)), some (.int (y : Int)), t, r] ∧ Eu (Nat.gcd a b) 598 i x y ∧ H2 = H) ⟨a, b, none, none, rfl, ⟨rfl, .inl ⟨rfl, hab⟩⟩, rfl⟩ ?_ ?_
    · rintro i σ H2 hi ⟨x, y, t, r, rfl, eu, rfl⟩
      refine ⟨_, rfl, rfl, _, rfl, ite2 (fun e => ?_) (fun e => ?_)⟩
      · have e : y = 0 := by
          have := V.int.inj (of_decide_eq_true e)
          omega
        subst e
        rw [← eu_zero eu] at q
        exact ⟨_, rfl, q⟩
      · have e : 0 < y := by
          rcases Nat.eq_zero_or_pos y with z | z
          · subst z
            exact absurd rfl (fun z => e (decide_eq_true z))
          · exact z
        exact ⟨_, rfl, .inl ⟨(x : Int), rfl, _, rfl, (x : Int), (y : Int), rfl, rfl, (show (0 : Int) < (y : Int) by omega), _, rfl, _, rfl, y, x % y, _, _, rfl, eu_step eu e, rfl⟩⟩
    · rintro σ H2 ⟨x, y, t, r, rfl, eu, rfl⟩
      exact (eu_end (n := 599) eu (by decide)).elim
def sp__law_lowest (C : Addr) : Sp := fun vs H Q _ => ∃ (p : Addr) (t b T B : Int), vs = [.ref p, .int t, .int b] ∧ RatAt C H p T B ∧ LowT t b T B ∧ Sm t ∧ Sm b ∧ T.natAbs * B.natAbs < 6 ^ 598 ∧ 0 ≤ b ∧ Q (.bl true) H
theorem ok__law_lowest {f : Addr} {fd : FuncData} {C_Ratio C_ZeroBottom : Addr} (F : Fun K "_law_lowest" "_law_lowest" s__law_lowest f fd) (T : Txt K mg C_Ratio C_ZeroBottom) (m_abs : mg "abs" = none) (m_isinstance : mg "isinstance" = none) (c__law_is_int : Cal P w K mg base CX0 1 "_law_is_int" ["_law_x"] sp__law_is_int) (c__law_gcd : Cal P w K mg base CX0 1 "_law_gcd" ["_law_a", "_law_b"] sp__law_gcd) : FnOk P w K mg base CX0 2 f fd ["_law_x", "_law_top", "_law_bottom"] (sp__law_lowest C_Ratio) := by
  refine F.ok sc__law_lowest (fun vs H Q E h => ?_) (fun cdv A outer s H vs Q E hr h => ?_)
  · obtain ⟨p, t, b, T1, B, rfl, _⟩ := h
    rfl
  · obtain ⟨p, t, b, T1, B, rfl, ⟨dx, hp⟩, lo, st, sb, hm, b0, q⟩ := h
    obtain ⟨f__law_is_int, fd__law_is_int, G__law_is_int, m__law_is_int, k__law_is_int, b__law_is_int⟩ := c__law_is_int
    obtain ⟨f__law_gcd, fd__law_gcd, G__law_gcd, m__law_gcd, k__law_gcd, b__law_gcd⟩ := c__law_gcd
    refine ⟨_, (pss_cons (ps_if (pt_not (pt_val (pe_callB call_isi (by rfl) m_isinstance (by decide +kernel) (pa_cons (pv 0) (pa_cons (pe_glob (v := .ref C_Ratio) (by rfl) T.g_Ratio rfl) pa_nil))))) (pss_one (ps_ret pe_bl)) pss_nil)
      (pss_cons (ps_if (PW.pt (pw_or (pt_not (pt_val (pe_call G__law_is_int (hr.mono (by decide)) (by rfl) m__law_is_int k__law_is_int b__law_is_int .nil pass0 (pa_cons (pe_fld (pv 0) rfl) pa_nil)))) (pw_or (pt_not (pt_val (pe_call G__law_is_int (hr.mono (by decide)) (by rfl) m__law_is_int k__law_is_int b__law_is_int .nil pass0 (pa_cons (pe_fld (pv 0) rfl) pa_nil)))) (pw_or1 (pt_cmpR op_lt (pe_fld (pv 0) rfl) pe_int (nomark _)))))) (pss_one (ps_ret pe_bl)) pss_nil)
      (pss_cons (ps_if (PW.pt (pw_or (pt_cmpR op_ne (pe_op op_mulW (pe_fld (pv 0) rfl) (pv 2)) (pe_op op_mulW (pv 1) (pe_fld (pv 0) rfl)) (nomark _)) (pw_or (pt_cmpR op_gt (pe_callB call_abs (by rfl) m_abs (by decide +kernel) (pa_cons (pe_fld (pv 0) rfl) pa_nil)) (pe_callB call_abs (by rfl) m_abs (by decide +kernel) (pa_cons (pv 1) pa_nil)) (nomark _)) (pw_or1 (pt_cmpR op_gt (pe_fld (pv 0) rfl) (pv 2) (nomark _)))))) (pss_one (ps_ret pe_bl)) pss_nil)
      (pss_one (ps_ret (pe_cmpR op_eq (pe_call G__law_gcd (hr.mono (by decide)) (by rfl) m__law_gcd k__law_gcd b__law_gcd .nil pass0 (pa_cons (pe_callB call_abs (by rfl) m_abs (by decide +kernel) (pa_cons (pe_fld (pv 0) rfl) pa_nil)) (pa_cons (pe_fld (pv 0) rfl) pa_nil))) pe_int (nomark _))))))), ?_⟩
    have sT : Sm T1 := st.le lo.leT
    have sB : Sm B := sb.le lo.leB
    have eB : ((B.natAbs : Nat) : Int) = B := Int.natAbs_of_nonneg (Int.le_of_lt lo.pos)
    refine ⟨.ref p, rfl, .ref p, .ref C_Ratio, .ref C_Ratio, .ref C_Ratio, true, rfl, .own C_Ratio, .base (.ins hp T.cl_Ratio T.ha_Ratio T.hnc T.htk T.hm_Ratio), T.kit_Ratio_Ratio, true, rfl, iteF ?_⟩
    refine ⟨.ref p, rfl, p, C_Ratio, dx, _, _, rfl, hp, T.cl_Ratio, T.n_Ratio_top, rF_top T1 B, T1, rfl, true, rfl, iteF ?_⟩
    refine ⟨.ref p, rfl, p, C_Ratio, dx, _, _, rfl, hp, T.cl_Ratio, T.n_Ratio_bottom, rF_bot T1 B, B, rfl, true, rfl, iteF ?_⟩
    refine ⟨.ref p, rfl, p, C_Ratio, dx, _, _, rfl, hp, T.cl_Ratio, T.n_Ratio_bottom, rF_bot T1 B, _, _, rfl, rfl, _, rfl, ?_⟩
    rw [decide_eq_false (show ¬ B < 1 by have := lo.pos; omega)]
    refine iteF ?_
    refine ⟨.ref p, rfl, p, C_Ratio, dx, _, _, rfl, hp, T.cl_Ratio, T.n_Ratio_top, rF_top T1 B, .int b, rfl, T1, b, rfl, rfl, sT.mul sb, .int t, rfl, .ref p, rfl, p, C_Ratio, dx, _, _, rfl, hp, T.cl_Ratio, T.n_Ratio_bottom, rF_bot T1 B, t, B, rfl, rfl, st.mul sB, rfl, _, rfl, iteNS (congrArg V.int lo.eq) ?_⟩
    refine ⟨.ref p, rfl, p, C_Ratio, dx, _, _, rfl, hp, T.cl_Ratio, T.n_Ratio_top, rF_top T1 B, T1, rfl, .int t, rfl, t, rfl, _, _, rfl, rfl, _, rfl, ?_⟩
    rw [decide_eq_false (show ¬ (if t < 0 then -t else t) < (if T1 < 0 then -T1 else T1) by have := lo.leT; split <;> split <;> omega)]
    refine iteF ?_
    refine ⟨.ref p, rfl, p, C_Ratio, dx, _, _, rfl, hp, T.cl_Ratio, T.n_Ratio_bottom, rF_bot T1 B, .int b, rfl, _, _, rfl, rfl, _, rfl, ?_⟩
    rw [decide_eq_false (show ¬ b < B by have := lo.leB; omega)]
    refine iteF ?_
    refine ⟨.ref p, rfl, p, C_Ratio, dx, _, _, rfl, hp, T.cl_Ratio, T.n_Ratio_top, rF_top T1 B, T1, rfl, .ref p, rfl, p, C_Ratio, dx, _, _, rfl, hp, T.cl_Ratio, T.n_Ratio_bottom, rF_bot T1 B, T1.natAbs, B.natAbs, ?_, hm, rfl, ?_⟩
    · rw [eB, show ((T1.natAbs : Nat) : Int) = (if T1 < 0 then -T1 else T1) by split <;> omega]
      exact rfl
    · rw [lo.cop]
      exact q
def sp__law_floor : Sp := fun vs H Q _ => ∃ t b : Int, vs = [.int t, .int b] ∧ b ≠ 0 ∧ Sm b ∧ Q (.int (flo t b)) H
theorem ok__law_floor {f : Addr} {fd : FuncData} {C_Ratio C_ZeroBottom : Addr} (F : Fun K "_law_floor" "_law_floor" s__law_floor f fd) (T : Txt K mg C_Ratio C_ZeroBottom) : FnOk P w K mg base CX0 1 f fd ["_law_top", "_law_bottom"] sp__law_floor := by
  refine F.ok sc__law_floor (fun vs H Q E h => ?_) (fun cdv A outer s H vs Q E hr h => ?_)
  · obtain ⟨t, b, rfl, _⟩ := h
    rfl
  · obtain ⟨t, b, rfl, hb, sb, q⟩ := h
    refine ⟨_, (pss_cons (ps_if (pt_cmpR op_lt (pv 1) pe_int (nomark _)) (pss_one (ps_ret (pe_op op_fdivW (pe_un un_neg (pv 0)) (pe_un un_neg (pv 1))))) pss_nil)
      (pss_one (ps_ret (pe_op op_fdivW (pv 0) (pv 1))))), ?_⟩
    have lg : ∀ {x : Int}, x.natAbs ≤ b.natAbs → x.natAbs.log2 < 9000 := fun h => Nat.lt_of_lt_of_le (sb.le h).log (by decide)
    refine ⟨_, rfl, _, _, rfl, rfl, _, rfl, ite2 (fun e => ?_) (fun e => ?_)⟩
    · have e := of_decide_eq_true e
      rw [show flo t b = (-t) / (-b) from if_pos e] at q
      exact ⟨_, rfl, t, rfl, _, rfl, b, rfl, -t, -b, rfl, rfl, ⟨by omega, lg (by omega)⟩, q⟩
    · have e : ¬ b < 0 := fun z => e (decide_eq_true z)
      rw [show flo t b = t / b from if_neg e] at q
      exact ⟨_, rfl, _, rfl, t, b, rfl, rfl, ⟨by omega, lg (Nat.le_refl _)⟩, q⟩
def sp__law_due : Sp := fun vs H Q _ => ∃ t b k p q : Int, vs = [.int t, .int b, .int k, .int p, .int q] ∧ 0 < b ∧ 0 < q ∧ t.natAbs ≤ 10 ^ 300 ∧ b.natAbs ≤ 10 ^ 300 ∧ p.natAbs ≤ 10 ^ 300 ∧ q.natAbs ≤ 10 ^ 300 ∧ (4 ≤ k → k ≤ 6 → p ≠ 0) ∧
  ∀ H' u, Same H H' → H' u = some (.tup [.int (dueN t b k p q).1, .int (dueN t b k p q).2]) → Q (.ref u) H' 
theorem ok__law_due {f : Addr} {fd : FuncData} {C_Ratio C_ZeroBottom : Addr} (F : Fun K "_law_due" "_law_due" s__law_due f fd) (T : Txt K mg C_Ratio C_ZeroBottom) (m_abs : mg "abs" = none) (c__law_floor : Cal P w K mg base CX0 1 "_law_floor" ["_law_top", "_law_bottom"] sp__law_floor) : FnOk P w K mg base CX0 2 f fd ["_law_t", "_law_b", "_law_kind", "_law_p", "_law_q"] sp__law_due := by
  refine F.ok sc__law_due (fun vs H Q E h => ?_) (fun cdv A outer s H vs Q E hr h => ?_)
  · obtain ⟨t, b, k, p, qq, rfl, _⟩ := h
    rfl
  · obtain ⟨t, b, k, p, qq, rfl, b0, hq0, zt, zb, zp, zq, hpk, q⟩ := h
    obtain ⟨f__law_floor, fd__law_floor, G__law_floor, m__law_floor, k__law_floor, b__law_floor⟩ := c__law_floor
    refine ⟨_, (pss_cons (ps_if (pt_cmpR op_eq (pv 2) pe_int (nomark _)) (pss_one (ps_ret (pe_tup (pa_cons (pe_op op_add (pe_op op_mulW (pv 0) (pv 4)) (pe_op op_mulW (pv 3) (pv 1))) (pa_cons (pe_op op_mulW (pv 1) (pv 4)) pa_nil))))) pss_nil)
      (pss_cons (ps_if (pt_cmpR op_eq (pv 2) pe_int (nomark _)) (pss_one (ps_ret (pe_tup (pa_cons (pe_op op_sub (pe_op op_mulW (pv 0) (pv 4)) (pe_op op_mulW (pv 3) (pv 1))) (pa_cons (pe_op op_mulW (pv 1) (pv 4)) pa_nil))))) pss_nil)
      (pss_cons (ps_if (pt_cmpR op_eq (pv 2) pe_int (nomark _)) (pss_one (ps_ret (pe_tup (pa_cons (pe_op op_sub (pe_op op_mulW (pv 3) (pv 1)) (pe_op op_mulW (pv 0) (pv 4))) (pa_cons (pe_op op_mulW (pv 1) (pv 4)) pa_nil))))) pss_nil)
      (pss_cons (ps_if (pt_cmpR op_eq (pv 2) pe_int (nomark _)) (pss_one (ps_ret (pe_tup (pa_cons (pe_op op_mulW (pv 0) (pv 3)) (pa_cons (pe_op op_mulW (pv 1) (pv 4)) pa_nil))))) pss_nil)
      (pss_cons (ps_if (PW.pt (pw_and (pt_cmpR op_eq (pv 2) pe_int (nomark _)) (pw_and1 (pt_cmpR op_lt (pv 3) pe_int (nomark _))))) (pss_one (ps_ret (pe_tup (pa_cons (pe_op op_mulW (pe_un un_neg (pv 0)) (pv 4)) (pa_cons (pe_op op_mulW (pe_un un_neg (pv 1)) (pv 3)) pa_nil))))) pss_nil)
      (pss_cons (ps_if (pt_cmpR op_eq (pv 2) pe_int (nomark _)) (pss_one (ps_ret (pe_tup (pa_cons (pe_op op_mulW (pv 0) (pv 4)) (pa_cons (pe_op op_mulW (pv 1) (pv 3)) pa_nil))))) pss_nil)
      (pss_cons (ps_if (pt_cmpR op_eq (pv 2) pe_int (nomark _)) (pss_one (ps_ret (pe_tup (pa_cons (pe_op op_sub (pe_op op_mulW (pv 0) (pv 4)) (pe_op op_mulW (pe_op op_mulW (pv 3) (pv 1)) (pe_call G__law_floor (hr.mono (by decide)) (by rfl) m__law_floor k__law_floor b__law_floor .nil pass0 (pa_cons (pe_op op_mulW (pv 0) (pv 4)) (pa_cons (pe_op op_mulW (pv 1) (pv 3)) pa_nil))))) (pa_cons (pe_op op_mulW (pv 1) (pv 4)) pa_nil))))) pss_nil)
      (pss_cons (ps_if (pt_cmpR op_eq (pv 2) pe_int (nomark _)) (pss_one (ps_ret (pe_tup (pa_cons (pe_call G__law_floor (hr.mono (by decide)) (by rfl) m__law_floor k__law_floor b__law_floor .nil pass0 (pa_cons (pe_op op_mulW (pv 0) (pv 4)) (pa_cons (pe_op op_mulW (pv 1) (pv 3)) pa_nil))) (pa_cons pe_int pa_nil))))) pss_nil)
      (pss_cons (ps_if (pt_cmpR op_eq (pv 2) pe_int (nomark _)) (pss_one (ps_ret (pe_tup (pa_cons (pe_un un_neg (pv 0)) (pa_cons (pv 1) pa_nil))))) pss_nil)
      (pss_one (ps_ret (pe_tup (pa_cons (pe_callB call_abs (by rfl) m_abs (by decide +kernel) (pa_cons (pv 0) pa_nil)) (pa_cons (pv 1) pa_nil)))))))))))))), ?_⟩
    refine ⟨_, rfl, rfl, _, rfl, ite2 (fun e => ?_) (fun e0 => ?_)⟩
    · have e := V.int.inj (of_decide_eq_true e)
      subst e
      refine ⟨_, rfl, _, rfl, _, _, rfl, rfl, (smB zt).mul (smB zq), _, rfl, _, rfl, _, _, rfl, rfl, (smB zp).mul (smB zb), _, _, rfl, rfl, _, rfl, _, rfl, _, _, rfl, rfl, (smB zb).mul (smB zq), (by show 2 ≤ sizeLine; decide), fun t5 n5 => q _ t5 (same_upd n5) ?_⟩
      exact upd_same
    have e0 : k ≠ 0 := fun z => e0 (decide_eq_true (congrArg V.int z))
    refine ⟨_, rfl, rfl, _, rfl, ite2 (fun e => ?_) (fun e1 => ?_)⟩
    · have e := V.int.inj (of_decide_eq_true e)
      subst e
      refine ⟨_, rfl, _, rfl, _, _, rfl, rfl, (smB zt).mul (smB zq), _, rfl, _, rfl, _, _, rfl, rfl, (smB zp).mul (smB zb), _, _, rfl, rfl, _, rfl, _, rfl, _, _, rfl, rfl, (smB zb).mul (smB zq), (by show 2 ≤ sizeLine; decide), fun t5 n5 => q _ t5 (same_upd n5) ?_⟩
      exact upd_same
    have e1 : k ≠ 1 := fun z => e1 (decide_eq_true (congrArg V.int z))
    refine ⟨_, rfl, rfl, _, rfl, ite2 (fun e => ?_) (fun e2 => ?_)⟩
    · have e := V.int.inj (of_decide_eq_true e)
      subst e
      refine ⟨_, rfl, _, rfl, _, _, rfl, rfl, (smB zp).mul (smB zb), _, rfl, _, rfl, _, _, rfl, rfl, (smB zt).mul (smB zq), _, _, rfl, rfl, _, rfl, _, rfl, _, _, rfl, rfl, (smB zb).mul (smB zq), (by show 2 ≤ sizeLine; decide), fun t5 n5 => q _ t5 (same_upd n5) ?_⟩
      exact upd_same
    have e2 : k ≠ 2 := fun z => e2 (decide_eq_true (congrArg V.int z))
    refine ⟨_, rfl, rfl, _, rfl, ite2 (fun e => ?_) (fun e3 => ?_)⟩
    · have e := V.int.inj (of_decide_eq_true e)
      subst e
      refine ⟨_, rfl, _, rfl, _, _, rfl, rfl, (smB zt).mul (smB zp), _, rfl, _, rfl, _, _, rfl, rfl, (smB zb).mul (smB zq), (by show 2 ≤ sizeLine; decide), fun t5 n5 => q _ t5 (same_upd n5) ?_⟩
      exact upd_same
    have e3 : k ≠ 3 := fun z => e3 (decide_eq_true (congrArg V.int z))
    refine ⟨_, rfl, rfl, _, rfl, ite2 (fun e => ?_) (fun e4 => ?_)⟩
    · have e := V.int.inj (of_decide_eq_true e)
      subst e
      refine ⟨_, rfl, _, _, rfl, rfl, _, rfl, ite2 (fun e => ?_) (fun e => ?_)⟩
      · have e := of_decide_eq_true e
        refine ⟨_, rfl, t, rfl, _, rfl, _, _, rfl, rfl, (smB (x := -t) (by omega)).mul (smB zq), _, rfl, b, rfl, _, rfl, _, _, rfl, rfl, (smB (x := -b) (by omega)).mul (smB zp), (by show 2 ≤ sizeLine; decide), fun t5 n5 => q _ t5 (same_upd n5) ?_⟩
        rw [show dueN t b 4 p qq = (if p < 0 then (-t * qq, -b * p) else (t * qq, b * p)) from rfl, if_pos e]
        exact upd_same
      · have e : ¬ p < 0 := fun z => e (decide_eq_true z)
        refine ⟨_, rfl, rfl, _, rfl, iteD rfl ?_⟩
        refine ⟨_, rfl, _, rfl, _, _, rfl, rfl, (smB zt).mul (smB zq), _, rfl, _, rfl, _, _, rfl, rfl, (smB zb).mul (smB zp), (by show 2 ≤ sizeLine; decide), fun t5 n5 => q _ t5 (same_upd n5) ?_⟩
        rw [show dueN t b 4 p qq = (if p < 0 then (-t * qq, -b * p) else (t * qq, b * p)) from rfl, if_neg e]
        exact upd_same
    have e4 : k ≠ 4 := fun z => e4 (decide_eq_true (congrArg V.int z))
    refine iteF ?_
    refine ⟨_, rfl, rfl, _, rfl, iteDF (fun z => e4 (V.int.inj z)) ?_⟩
    have nb : ∀ {z : Int}, p ≠ 0 → b * p ≠ 0 := fun hp z => by
      rcases Int.mul_eq_zero.mp z with z | z
      · omega
      · exact hp z
    refine ⟨_, rfl, rfl, _, rfl, ite2 (fun e => ?_) (fun e5 => ?_)⟩
    · have e := V.int.inj (of_decide_eq_true e)
      subst e
      have lf : Sm (flo (t * qq) (b * p)) := (smP zt zq).le (flo_le _ _)
      refine ⟨_, rfl, _, rfl, _, _, rfl, rfl, (smB zt).mul (smB zq), _, rfl, _, rfl, _, _, rfl, rfl, (smB zp).mul (smB zb), _, rfl, _, rfl, _, _, rfl, rfl, (smB zt).mul (smB zq), _, rfl, _, rfl, _, _, rfl, rfl, (smB zb).mul (smB zp), t * qq, b * p, rfl, nb (z := 0) (hpk (by decide) (by decide)), smP zb zp, _, _, rfl, rfl, (smP zp zb).mul lf, _, _, rfl, rfl, _, rfl, _, rfl, _, _, rfl, rfl, (smB zb).mul (smB zq), (by show 2 ≤ sizeLine; decide), fun t5 n5 => q _ t5 (same_upd n5) ?_⟩
      exact upd_same
    have e5 : k ≠ 5 := fun z => e5 (decide_eq_true (congrArg V.int z))
    refine ⟨_, rfl, rfl, _, rfl, ite2 (fun e => ?_) (fun e6 => ?_)⟩
    · have e := V.int.inj (of_decide_eq_true e)
      subst e
      refine ⟨_, rfl, _, rfl, _, _, rfl, rfl, (smB zt).mul (smB zq), _, rfl, _, rfl, _, _, rfl, rfl, (smB zb).mul (smB zp), t * qq, b * p, rfl, nb (z := 0) (hpk (by decide) (by decide)), smP zb zp, (by show 2 ≤ sizeLine; decide), fun t5 n5 => q _ t5 (same_upd n5) ?_⟩
      exact upd_same
    have e6 : k ≠ 6 := fun z => e6 (decide_eq_true (congrArg V.int z))
    refine ⟨_, rfl, rfl, _, rfl, ite2 (fun e => ?_) (fun e7 => ?_)⟩
    · have e := V.int.inj (of_decide_eq_true e)
      subst e
      refine ⟨_, rfl, t, rfl, _, rfl, (by show 2 ≤ sizeLine; decide), fun t5 n5 => q _ t5 (same_upd n5) ?_⟩
      exact upd_same
    have e7 : k ≠ 7 := fun z => e7 (decide_eq_true (congrArg V.int z))
    refine ⟨_, rfl, t, rfl, _, rfl, (by show 2 ≤ sizeLine; decide), fun t5 n5 => q _ t5 (same_upd n5) ?_⟩
    unfold dueN
    rw [if_neg e0, if_neg e1, if_neg e2, if_neg e3, if_neg e4, if_neg e5, if_neg e6, if_neg e7]
    exact upd_same
def sp__law_did (C : Addr) : Sp := fun vs H Q _ => ∃ (x : Addr) (y : V) (t b k p qq P R : Int), vs = [.ref x, .int k, y] ∧ At C H x y t b p qq P R ∧ (4 ≤ k → k ≤ 6 → p ≠ 0) ∧
  ∀ H' r T B, Same H H' → RatAt C H' r T B → LowT (dueN t b k p qq).1 (dueN t b k p qq).2 T B → Q (.ref r) H' 
theorem ok__law_did {f : Addr} {fd : FuncData} {C_Ratio C_ZeroBottom : Addr} (F : Fun K "_law_did" "_law_did" s__law_did f fd) (T : Txt K mg C_Ratio C_ZeroBottom) (m_abs : mg "abs" = none) (c_Ratio___init__ : CalI P w K mg base (L2.CX P w) 1 C_Ratio ["self", "top", "bottom"] (sp_Ratio___init__ C_Ratio C_ZeroBottom) [V.int 1]) (c_Ratio_over : CalM P w K mg base (L2.CX P w) 4 C_Ratio "over" ["self", "other"] (sp_Ratio_over C_Ratio C_ZeroBottom)) (c_Ratio___neg__ : CalM P w K mg base CX0 3 C_Ratio "__neg__" ["self"] (sp_Ratio___neg__ C_Ratio)) (c_Ratio___abs__ : CalM P w K mg base CX0 3 C_Ratio "__abs__" ["self"] (sp_Ratio___abs__ C_Ratio)) (c_Ratio___add__ : CalM P w K mg base CX0 4 C_Ratio "__add__" ["self", "other"] (sp_Ratio___add__ C_Ratio)) (c_Ratio___radd__ : CalM P w K mg base CX0 5 C_Ratio "__radd__" ["self", "other"] (sp_Ratio___radd__ C_Ratio)) (c_Ratio___sub__ : CalM P w K mg base CX0 5 C_Ratio "__sub__" ["self", "other"] (sp_Ratio___sub__ C_Ratio)) (c_Ratio___rsub__ : CalM P w K mg base CX0 5 C_Ratio "__rsub__" ["self", "other"] (sp_Ratio___rsub__ C_Ratio)) (c_Ratio___mul__ : CalM P w K mg base CX0 4 C_Ratio "__mul__" ["self", "other"] (sp_Ratio___mul__ C_Ratio)) (c_Ratio___rmul__ : CalM P w K mg base CX0 5 C_Ratio "__rmul__" ["self", "other"] (sp_Ratio___rmul__ C_Ratio)) (c_Ratio___floordiv__ : CalM P w K mg base (L2.CX P w) 5 C_Ratio "__floordiv__" ["self", "other"] (sp_Ratio___floordiv__ C_Ratio C_ZeroBottom)) (c_Ratio___mod__ : CalM P w K mg base (L2.CX P w) 6 C_Ratio "__mod__" ["self", "other"] (sp_Ratio___mod__ C_Ratio C_ZeroBottom)) : FnOk P w K mg base CX0 7 f fd ["_law_x", "_law_kind", "_law_y"] (sp__law_did C_Ratio) := by
  refine F.ok sc__law_did (fun vs H Q E h => ?_) (fun cdv A outer s H vs Q E hr h => ?_)
  · obtain ⟨x, y, t, b, k, p, qq, P, R, rfl, _⟩ := h
    rfl
  · obtain ⟨x, y, t, b, k, p, qq, P, R, rfl, w, hpk, q⟩ := h
    obtain ⟨f_Ratio___init__, fd_Ratio___init__, G_Ratio___init__, M_Ratio___init__, b_Ratio___init__, ds_Ratio___init__, vd_Ratio___init__, bd_Ratio___init__⟩ := c_Ratio___init__
    obtain ⟨f_Ratio_over, fd_Ratio_over, G_Ratio_over, M_Ratio_over, b_Ratio_over⟩ := c_Ratio_over
    obtain ⟨f_Ratio___neg__, fd_Ratio___neg__, G_Ratio___neg__, M_Ratio___neg__, b_Ratio___neg__⟩ := c_Ratio___neg__
    obtain ⟨f_Ratio___abs__, fd_Ratio___abs__, G_Ratio___abs__, M_Ratio___abs__, b_Ratio___abs__⟩ := c_Ratio___abs__
    obtain ⟨f_Ratio___add__, fd_Ratio___add__, G_Ratio___add__, M_Ratio___add__, b_Ratio___add__⟩ := c_Ratio___add__
    obtain ⟨f_Ratio___radd__, fd_Ratio___radd__, G_Ratio___radd__, M_Ratio___radd__, b_Ratio___radd__⟩ := c_Ratio___radd__
    obtain ⟨f_Ratio___sub__, fd_Ratio___sub__, G_Ratio___sub__, M_Ratio___sub__, b_Ratio___sub__⟩ := c_Ratio___sub__
    obtain ⟨f_Ratio___rsub__, fd_Ratio___rsub__, G_Ratio___rsub__, M_Ratio___rsub__, b_Ratio___rsub__⟩ := c_Ratio___rsub__
    obtain ⟨f_Ratio___mul__, fd_Ratio___mul__, G_Ratio___mul__, M_Ratio___mul__, b_Ratio___mul__⟩ := c_Ratio___mul__
    obtain ⟨f_Ratio___rmul__, fd_Ratio___rmul__, G_Ratio___rmul__, M_Ratio___rmul__, b_Ratio___rmul__⟩ := c_Ratio___rmul__
    obtain ⟨f_Ratio___floordiv__, fd_Ratio___floordiv__, G_Ratio___floordiv__, M_Ratio___floordiv__, b_Ratio___floordiv__⟩ := c_Ratio___floordiv__
    obtain ⟨f_Ratio___mod__, fd_Ratio___mod__, G_Ratio___mod__, M_Ratio___mod__, b_Ratio___mod__⟩ := c_Ratio___mod__
    refine ⟨_, (pss_cons (ps_if (pt_cmpR op_eq (pv 1) pe_int (nomark _)) (pss_one (ps_ret (pe_op (op_any_Add M_Ratio___add__ M_Ratio___radd__ T.sf_Ratio T.int_add T.si_Ratio T.sr_Ratio G_Ratio___add__ G_Ratio___radd__ (hr.mono (by decide)) (hr.mono (by decide)) b_Ratio___add__ b_Ratio___radd__ pass0) (pv 2) (pv 0)))) pss_nil)
      (pss_cons (ps_if (pt_cmpR op_eq (pv 1) pe_int (nomark _)) (pss_one (ps_ret (pe_op (op_own_Sub M_Ratio___sub__ T.sf_Ratio T.rf_Ratio_sub T.int_sub T.si_Ratio G_Ratio___sub__ (hr.mono (by decide)) b_Ratio___sub__ pass0) (pv 0) (pv 2)))) pss_nil)
      (pss_cons (ps_if (pt_cmpR op_eq (pv 1) pe_int (nomark _)) (pss_one (ps_ret (pe_op (op_any_Sub M_Ratio___sub__ M_Ratio___rsub__ T.sf_Ratio T.int_sub T.si_Ratio T.sr_Ratio G_Ratio___sub__ G_Ratio___rsub__ (hr.mono (by decide)) (hr.mono (by decide)) b_Ratio___sub__ b_Ratio___rsub__ pass0) (pv 2) (pv 0)))) pss_nil)
      (pss_cons (ps_if (pt_cmpR op_eq (pv 1) pe_int (nomark _)) (pss_one (ps_ret (pe_op (op_any_Mult M_Ratio___mul__ M_Ratio___rmul__ T.sf_Ratio T.int_mul T.si_Ratio T.sr_Ratio G_Ratio___mul__ G_Ratio___rmul__ (hr.mono (by decide)) (hr.mono (by decide)) b_Ratio___mul__ b_Ratio___rmul__ pass0) (pv 2) (pv 0)))) pss_nil)
      (pss_cons (ps_if (pt_cmpR op_eq (pv 1) pe_int (nomark _)) (pss_one (ps_ret (pe_meth (pv 0) T.cl_Ratio M_Ratio_over G_Ratio_over (hr.mono (by decide)) b_Ratio_over .nil passL (pa_cons (pv 2) pa_nil)))) pss_nil)
      (pss_cons (ps_if (pt_cmpR op_eq (pv 1) pe_int (nomark _)) (pss_one (ps_ret (pe_op (op_own_Mod M_Ratio___mod__ T.sf_Ratio T.rf_Ratio_mod T.int_mod T.si_Ratio G_Ratio___mod__ (hr.mono (by decide)) b_Ratio___mod__ passL) (pv 0) (pv 2)))) pss_nil)
      (pss_cons (ps_if (pt_cmpR op_eq (pv 1) pe_int (nomark _)) (pss_one (ps_ret (pe_make M_Ratio___init__ G_Ratio___init__ (hr.mono (by decide)) (by rfl) T.g_Ratio bd_Ratio___init__ vd_Ratio___init__ passL (pa_cons (pe_op (op_own_FloorDiv M_Ratio___floordiv__ T.sf_Ratio T.rf_Ratio_floordiv T.int_floordiv T.si_Ratio G_Ratio___floordiv__ (hr.mono (by decide)) b_Ratio___floordiv__ passL) (pv 0) (pv 2)) pa_nil)))) pss_nil)
      (pss_cons (ps_if (pt_cmpR op_eq (pv 1) pe_int (nomark _)) (pss_one (ps_ret (pe_un (un_own M_Ratio___neg__ G_Ratio___neg__ (hr.mono (by decide)) b_Ratio___neg__ pass0) (pv 0)))) pss_nil)
      (pss_one (ps_ret (pe_callB (call_absO M_Ratio___abs__ G_Ratio___abs__ (hr.mono (by decide)) b_Ratio___abs__ pass0) (by rfl) m_abs (by decide +kernel) (pa_cons (pv 0) pa_nil)))))))))))), ?_⟩
    have we := w.e
    have b0 := w.b0
    have q0 := w.q0
    have R0 := w.R0
    have nbR : b * R ≠ 0 := Int.ne_of_gt (Int.mul_pos b0 R0)
    have nRb : R * b ≠ 0 := Int.ne_of_gt (Int.mul_pos R0 b0)
    have nb1 : b * 1 ≠ 0 := by omega
    have nbq : b * qq ≠ 0 := Int.ne_of_gt (Int.mul_pos b0 q0)
    have Pp : P = 0 ↔ p = 0 := ⟨fun z => by
      rw [z, Int.zero_mul] at we
      exact (Int.mul_eq_zero.mp we.symm).resolve_right (by omega), fun z => by
      rw [z, Int.zero_mul] at we
      exact (Int.mul_eq_zero.mp we).resolve_right (by omega)⟩
    refine ⟨_, rfl, rfl, _, rfl, ite2 (fun e => ?_) (fun e0 => ?_)⟩
    · have e := V.int.inj (of_decide_eq_true e)
      subst e
      rcases id w.y with ⟨yp, rfl, ry⟩ | ⟨rfl, rfl⟩
      · refine ⟨.ref yp, rfl, .ref x, rfl, .inl ⟨ry.self, w.x.num.arg, yp, .ref x, P, R, t, b, rfl, ry, w.x.num, w.R0, w.b0, smB w.zP, smB w.zR, smB w.zt, smB w.zb, smP w.zR w.zb, fun H' r T1 B1 es rr lo => q H' r T1 B1 es rr (lo.to (t' := t * qq + p * b) (b' := b * qq) nRb nbq (by grind))⟩⟩
      · refine ⟨.int P, rfl, .ref x, rfl, .inr ⟨⟨P, rfl⟩, w.x.self, x, .int P, t, b, P, 1, rfl, w.x, .inr ⟨rfl, rfl⟩, w.b0, by decide, smB w.zt, smB w.zb, smB w.zP, smB w.zR, smP w.zb w.zR, fun H' r T1 B1 es rr lo => q H' r T1 B1 es rr (lo.to (t' := t * qq + p * b) (b' := b * qq) nb1 nbq (by grind))⟩⟩
    have e0 : k ≠ 0 := fun z => e0 (decide_eq_true (congrArg V.int z))
    refine ⟨_, rfl, rfl, _, rfl, ite2 (fun e => ?_) (fun e1 => ?_)⟩
    · have e := V.int.inj (of_decide_eq_true e)
      subst e
      exact ⟨.ref x, rfl, y, rfl, w.x.self, w.y.arg, x, y, t, b, P, R, rfl, w.x, w.y, w.b0, w.R0, smB w.zt, smB w.zb, smB w.zP, smB w.zR, smP w.zb w.zR, fun H' r T1 B1 es rr lo => q H' r T1 B1 es rr (lo.to (t' := t * qq - p * b) (b' := b * qq) nbR nbq (by grind))⟩
    have e1 : k ≠ 1 := fun z => e1 (decide_eq_true (congrArg V.int z))
    refine ⟨_, rfl, rfl, _, rfl, ite2 (fun e => ?_) (fun e2 => ?_)⟩
    · have e := V.int.inj (of_decide_eq_true e)
      subst e
      rcases id w.y with ⟨yp, rfl, ry⟩ | ⟨rfl, rfl⟩
      · refine ⟨.ref yp, rfl, .ref x, rfl, .inl ⟨ry.self, w.x.num.arg, yp, .ref x, P, R, t, b, rfl, ry, w.x.num, w.R0, w.b0, smB w.zP, smB w.zR, smB w.zt, smB w.zb, smP w.zR w.zb, fun H' r T1 B1 es rr lo => q H' r T1 B1 es rr (lo.to (t' := p * b - t * qq) (b' := b * qq) nRb nbq (by grind))⟩⟩
      · refine ⟨.int P, rfl, .ref x, rfl, .inr ⟨⟨P, rfl⟩, w.x.self, x, .int P, t, b, P, 1, rfl, w.x, .inr ⟨rfl, rfl⟩, w.b0, by decide, smB w.zt, smB w.zb, smB w.zP, smB w.zR, smP w.zb w.zR, fun H' r T1 B1 es rr lo => q H' r T1 B1 es rr (lo.to (t' := p * b - t * qq) (b' := b * qq) nb1 nbq (by grind))⟩⟩
    have e2 : k ≠ 2 := fun z => e2 (decide_eq_true (congrArg V.int z))
    refine ⟨_, rfl, rfl, _, rfl, ite2 (fun e => ?_) (fun e3 => ?_)⟩
    · have e := V.int.inj (of_decide_eq_true e)
      subst e
      rcases id w.y with ⟨yp, rfl, ry⟩ | ⟨rfl, rfl⟩
      · refine ⟨.ref yp, rfl, .ref x, rfl, .inl ⟨ry.self, w.x.num.arg, yp, .ref x, P, R, t, b, rfl, ry, w.x.num, w.R0, w.b0, smB w.zP, smB w.zR, smB w.zt, smB w.zb, smP w.zR w.zb, fun H' r T1 B1 es rr lo => q H' r T1 B1 es rr (lo.to (t' := t * p) (b' := b * qq) nRb nbq (by grind))⟩⟩
      · refine ⟨.int P, rfl, .ref x, rfl, .inr ⟨⟨P, rfl⟩, w.x.self, x, .int P, t, b, P, 1, rfl, w.x, .inr ⟨rfl, rfl⟩, w.b0, by decide, smB w.zt, smB w.zb, smB w.zP, smB w.zR, smP w.zb w.zR, fun H' r T1 B1 es rr lo => q H' r T1 B1 es rr (lo.to (t' := t * p) (b' := b * qq) nb1 nbq (by grind))⟩⟩
    have e3 : k ≠ 3 := fun z => e3 (decide_eq_true (congrArg V.int z))
    refine ⟨_, rfl, rfl, _, rfl, ite2 (fun e => ?_) (fun e4 => ?_)⟩
    · have e := V.int.inj (of_decide_eq_true e)
      subst e
      have hp0 := hpk (by decide) (by decide)
      have hP : P ≠ 0 := fun z => hp0 (Pp.mp z)
      have nbP : b * P ≠ 0 := fun z => by
        rcases Int.mul_eq_zero.mp z with z | z
        · omega
        · exact hP z
      have nbp : b * p ≠ 0 := fun z => by
        rcases Int.mul_eq_zero.mp z with z | z
        · omega
        · exact hp0 z
      obtain ⟨dx, hx⟩ := id w.x
      refine ⟨.ref x, rfl, x, dx, _, rfl, hx, rF_no _ _ (by decide +kernel) (by decide +kernel), y, rfl, x, y, t, b, P, R, rfl, w.x, w.y, w.b0, w.R0, smB w.zt, smB w.zb, smB w.zP, smB w.zR, smP w.zb w.zP, fun z => absurd z hP, fun _ H' r T1 B1 es rr lo => q H' r T1 B1 es rr ?_⟩
      rw [show dueN t b 4 p qq = (if p < 0 then (-t * qq, -b * p) else (t * qq, b * p)) from rfl]
      by_cases hn : p < 0
      · rw [if_pos hn]
        exact lo.to (t' := -t * qq) (b' := -b * p) nbP (by rw [Int.neg_mul]; omega) (by grind)
      · rw [if_neg hn]
        exact lo.to (t' := t * qq) (b' := b * p) nbP nbp (by grind)
    have e4 : k ≠ 4 := fun z => e4 (decide_eq_true (congrArg V.int z))
    refine ⟨_, rfl, rfl, _, rfl, ite2 (fun e => ?_) (fun e5 => ?_)⟩
    · have e := V.int.inj (of_decide_eq_true e)
      subst e
      have hp0 := hpk (by decide) (by decide)
      have hP : P ≠ 0 := fun z => hp0 (Pp.mp z)
      have nbP : b * P ≠ 0 := fun z => by
        rcases Int.mul_eq_zero.mp z with z | z
        · omega
        · exact hP z
      have nbp : b * p ≠ 0 := fun z => by
        rcases Int.mul_eq_zero.mp z with z | z
        · omega
        · exact hp0 z
      refine ⟨.ref x, rfl, y, rfl, w.x.self, w.y.arg, x, y, t, b, P, R, rfl, w.x, w.y, w.b0, w.R0, smB w.zt, smB w.zb, smB w.zP, smB w.zR, smP w.zb w.zP, smP w.zt w.zR, smP w.zb w.zR, smP3 w.zP w.zt w.zR, fun z => absurd z hP, fun _ H' r T1 B1 Tq Bq es rr lq lo => q H' r T1 B1 es rr ?_⟩
      have lq2 := lq.to (t' := t * qq) (b' := b * p) nbP nbp (by grind)
      have fe := flo_low nbp lq2
      show LowT (t * qq - p * b * flo (t * qq) (b * p)) (b * qq) T1 B1
      rw [fe]
      generalize Tq / Bq = ff at lo ⊢
      exact lo.to nbR nbq (by grind)
    have e5 : k ≠ 5 := fun z => e5 (decide_eq_true (congrArg V.int z))
    refine ⟨_, rfl, rfl, _, rfl, ite2 (fun e => ?_) (fun e6 => ?_)⟩
    · have e := V.int.inj (of_decide_eq_true e)
      subst e
      have hp0 := hpk (by decide) (by decide)
      have hP : P ≠ 0 := fun z => hp0 (Pp.mp z)
      have nbP : b * P ≠ 0 := fun z => by
        rcases Int.mul_eq_zero.mp z with z | z
        · omega
        · exact hP z
      have nbp : b * p ≠ 0 := fun z => by
        rcases Int.mul_eq_zero.mp z with z | z
        · omega
        · exact hp0 z
      refine ⟨.ref x, rfl, y, rfl, w.x.self, w.y.arg, x, y, t, b, P, R, rfl, w.x, w.y, w.b0, w.R0, smB w.zt, smB w.zb, smB w.zP, smB w.zR, smP w.zb w.zP, fun z => absurd z hP, fun _ H' Tq Bq es lq => ?_⟩
      refine mk_rat (t := Tq / Bq) (b := 1) (by decide) (sm_of (n := 1) (by decide)) fun r H2 e2 nx rr => ?_
      have lq2 := lq.to (t' := t * qq) (b' := b * p) nbP nbp (by grind)
      have fe := flo_low nbp lq2
      refine q H2 r _ _ (es.trans e2) rr ?_
      show LowT (flo (t * qq) (b * p)) 1 _ _
      rw [fe]
      exact low (by decide)
    have e6 : k ≠ 6 := fun z => e6 (decide_eq_true (congrArg V.int z))
    refine ⟨_, rfl, rfl, _, rfl, ite2 (fun e => ?_) (fun e7 => ?_)⟩
    · have e := V.int.inj (of_decide_eq_true e)
      subst e
      exact ⟨.ref x, rfl, w.x.self, x, t, b, rfl, w.x, b0, smB w.zb, fun H' r T1 B1 es rr lo => q H' r T1 B1 es rr lo⟩
    have e7 : k ≠ 7 := fun z => e7 (decide_eq_true (congrArg V.int z))
    refine ⟨.ref x, rfl, x, _, _, rfl, w.x.ins, x, t, b, rfl, w.x, b0, smB w.zb, fun H' r T1 B1 es rr lo => q H' r T1 B1 es rr ?_⟩
    unfold dueN
    rw [if_neg e0, if_neg e1, if_neg e2, if_neg e3, if_neg e4, if_neg e5, if_neg e6, if_neg e7]
    exact lo
def sp__law_pair : Sp := fun vs H Q _ => ∃ s t b g : Int, vs = [.int s, .int t, .int b, .int g] ∧ 0 ≤ s ∧ s < 4 ∧ ∀ v w H' u, v.natAbs ≤ 10 ^ 20 → 0 < w → w.natAbs ≤ 10 ^ 20 → Same H H' → H' u = some (.tup [.int v, .int w]) → Q (.ref u) H' 
theorem ok__law_pair {f : Addr} {fd : FuncData} {C_Ratio C_ZeroBottom : Addr} (F : Fun K "_law_pair" "_law_pair" s__law_pair f fd) (T : Txt K mg C_Ratio C_ZeroBottom) (m_int : mg "int" = none) (m_max : mg "max" = none) : FnOk P w K mg base CX0 1 f fd ["_law_size", "_law_top", "_law_bottom", "_law_sign"] sp__law_pair := by
  refine F.ok sc__law_pair (fun vs H Q E h => ?_) (fun cdv A outer s H vs Q E hr h => ?_)
  · obtain ⟨s5, t, b, g, rfl, _⟩ := h
    rfl
  · obtain ⟨s5, t, b, g, rfl, s0, s4, q⟩ := h
    refine ⟨_, (pss_cons (ps_set (i := 4) sc__law_pair.nd rfl (Or.inl rfl) (pe_ix ix_list (pe_lst (pa_cons pe_int (pa_cons pe_int (pa_cons (pe_op op_pow pe_int pe_int) (pa_cons (pe_op op_pow pe_int pe_int) pa_nil))))) (pv 0) (fun _ _ => rfl)))
      (pss_cons (ps_set (i := 5) sc__law_pair.nd rfl (Or.inl rfl) (pe_op op_mod (pe_callTy call_int1 (by rfl) m_int (by decide +kernel) (pa_cons (pv 1) pa_nil)) (pv 4)))
      (Evl.pss_cut (ps_if (pt_cmpR op_eq (pv 3) pe_int (nomark _)) (pss_one (ps_set (i := 5) sc__law_pair.nd rfl (Or.inl rfl) (pe_un un_neg (pv 5)))) pss_nil)
      (pss_one (ps_ret (pe_tup (pa_cons (pv 5) (pa_cons (pe_callB (call_max2 rfl) (by rfl) m_max (by decide +kernel) (pa_cons pe_int (pa_cons (pe_op op_mod (pe_callTy call_int1 (by rfl) m_int (by decide +kernel) (pa_cons (pv 2) pa_nil)) (pv 4)) pa_nil))) pa_nil)))))))), ?_⟩
    refine ⟨10, 9, rfl, rfl, ⟨by decide, by decide, by decide⟩, 10, 20, rfl, rfl, ⟨by decide, by decide, by decide⟩, (by show 4 ≤ sizeLine; decide), fun p1 n1 => ?_⟩
    obtain ⟨bd, hbd, b0, b1⟩ : ∃ z : Int, atI [V.int 4, V.int 30, V.int (10 ^ 9), V.int (10 ^ 20)] s5 = some (V.int z) ∧ 0 < z ∧ z ≤ 10 ^ 20 := by
      rcases (by omega : s5 = 0 ∨ s5 = 1 ∨ s5 = 2 ∨ s5 = 3) with rfl | rfl | rfl | rfl
      · exact ⟨4, rfl, by decide, by decide⟩
      · exact ⟨30, rfl, by decide, by decide⟩
      · exact ⟨10 ^ 9, rfl, by decide, by decide⟩
      · exact ⟨10 ^ 20, rfl, by decide, by decide⟩
    have s1 := same_upd (o := .lst [V.int 4, V.int 30, V.int (10 ^ 9), V.int (10 ^ 20)]) n1
    refine ⟨_, rfl, p1, _, _, .int bd, rfl, rfl, lst_l upd_same, hbd, ?_⟩
    refine ⟨_, rfl, .inl ⟨t, rfl, _, rfl, t, bd, rfl, rfl, b0, ?_⟩⟩
    have m0 := Int.emod_nonneg t (show bd ≠ 0 by omega)
    have m1 := Int.emod_lt_of_pos t b0
    have k0 := Int.emod_nonneg b (show bd ≠ 0 by omega)
    have k1 := Int.emod_lt_of_pos b b0
    refine ⟨fun σ' H' => ∃ v : Int, v.natAbs ≤ 10 ^ 20 ∧ H' = upd H p1 (.lst [V.int 4, V.int 30, V.int (10 ^ 9), V.int (10 ^ 20)]) ∧ σ' = [some (.int s5), some (.int t), some (.int b), some (.int g), some (.int bd), some (.int v)], ?_, ?_⟩
    · refine ⟨_, rfl, rfl, _, rfl, ite2 (fun _ => ?_) (fun _ => ⟨t % bd, by omega, rfl, rfl⟩)⟩
      exact ⟨_, rfl, _, rfl, -(t % bd), by omega, rfl, rfl⟩
    rintro σ' H' ⟨v, hv, rfl, rfl⟩
    refine ⟨_, rfl, _, rfl, .inl ⟨b, rfl, _, rfl, b, bd, rfl, rfl, b0, 1, b % bd, rfl, (by show 2 ≤ sizeLine; decide), fun u nu => ?_⟩⟩
    refine q v (if b % bd > 1 then b % bd else 1) _ u hv (by split <;> omega) (by split <;> omega) (s1.trans (same_upd nu)) ?_
    exact upd_same
def sp_law (K : PySem.W.Frag) : Sp := fun vs H Q _ => ∃ (a : Addr) (ns : List Int), vs = [.ref a] ∧ SqL K H a (ns.map V.int) ∧ ns.length ≤ 63 ∧ ∀ H', Q (.bl true) H'

theorem ok_law {f : Addr} {fd : FuncData} {C_Ratio C_ZeroBottom : Addr} (F : Fun K "law" "law" s_law f fd) (T : Txt K mg C_Ratio C_ZeroBottom) (m_range : mg "range" = none) (c_Ratio___init__ : CalI P w K mg base (L2.CX P w) 1 C_Ratio ["self", "top", "bottom"] (sp_Ratio___init__ C_Ratio C_ZeroBottom) [V.int 1]) (c__law_cell : Cal P w K mg base CX0 1 "_law_cell" ["_law_script", "_law_place"] (sp__law_cell K)) (c__law_draws : Cal P w K mg base CX0 1 "_law_draws" ["_law_cell_here", "_law_sizes"] (sp__law_draws K)) (c__law_pair : Cal P w K mg base CX0 1 "_law_pair" ["_law_size", "_law_top", "_law_bottom", "_law_sign"] sp__law_pair) (c__law_lowest : Cal P w K mg base CX0 2 "_law_lowest" ["_law_x", "_law_top", "_law_bottom"] (sp__law_lowest C_Ratio)) (c__law_due : Cal P w K mg base CX0 2 "_law_due" ["_law_t", "_law_b", "_law_kind", "_law_p", "_law_q"] sp__law_due) (c__law_did : Cal P w K mg base CX0 7 "_law_did" ["_law_x", "_law_kind", "_law_y"] (sp__law_did C_Ratio)) : FnOk P w K mg base CX0 8 f fd ["_law_script"] (sp_law K) := by
  refine F.ok sc_law (fun vs H Q E h => ?_) (fun cdv A outer s H vs Q E hr h => ?_)
  · obtain ⟨a, ns, rfl, _⟩ := h
    rfl
  · obtain ⟨a, ns, rfl, hS, hlen, q⟩ := h
    obtain ⟨f_Ratio___init__, fd_Ratio___init__, G_Ratio___init__, M_Ratio___init__, b_Ratio___init__, ds_Ratio___init__, vd_Ratio___init__, bd_Ratio___init__⟩ := c_Ratio___init__
    obtain ⟨f__law_cell, fd__law_cell, G__law_cell, m__law_cell, k__law_cell, b__law_cell⟩ := c__law_cell
    obtain ⟨f__law_draws, fd__law_draws, G__law_draws, m__law_draws, k__law_draws, b__law_draws⟩ := c__law_draws
    obtain ⟨f__law_pair, fd__law_pair, G__law_pair, m__law_pair, k__law_pair, b__law_pair⟩ := c__law_pair
    obtain ⟨f__law_lowest, fd__law_lowest, G__law_lowest, m__law_lowest, k__law_lowest, b__law_lowest⟩ := c__law_lowest
    obtain ⟨f__law_due, fd__law_due, G__law_due, m__law_due, k__law_due, b__law_due⟩ := c__law_due
    obtain ⟨f__law_did, fd__law_did, G__law_did, m__law_did, k__law_did, b__law_did⟩ := c__law_did
    refine ⟨_, (pss_cons (ps_set (i := 1) sc_law.nd rfl (Or.inl rfl) (pe_call G__law_draws (hr.mono (by decide)) (by rfl) m__law_draws k__law_draws b__law_draws .nil pass0 (pa_cons (pe_call G__law_cell (hr.mono (by decide)) (by rfl) m__law_cell k__law_cell b__law_cell .nil pass0 (pa_cons (pv 0) (pa_cons pe_int pa_nil))) (pa_cons (pe_lst (pa_cons pe_int (pa_cons pe_int (pa_cons pe_int (pa_cons (pe_op op_pow pe_int pe_int) (pa_cons (pe_op op_pow pe_int pe_int) pa_nil)))))) pa_nil))))
      (pss_cons (ps_set (i := 2) sc_law.nd rfl (Or.inl rfl) (pe_call G__law_pair (hr.mono (by decide)) (by rfl) m__law_pair k__law_pair b__law_pair .nil pass0 (pa_cons (pe_ix ix_list (pv 1) pe_int (fun _ _ => rfl)) (pa_cons (pe_ix ix_list (pv 1) pe_int (fun _ _ => rfl)) (pa_cons (pe_ix ix_list (pv 1) pe_int (fun _ _ => rfl)) (pa_cons (pe_ix ix_list (pv 1) pe_int (fun _ _ => rfl)) pa_nil))))))
      (pss_cons (ps_set (i := 3) sc_law.nd rfl (Or.inl rfl) (pe_make M_Ratio___init__ G_Ratio___init__ (hr.mono (by decide)) (by rfl) T.g_Ratio b_Ratio___init__ .nil passL (pa_cons (pe_ix ix_tup (pv 2) pe_int (fun _ _ => rfl)) (pa_cons (pe_ix ix_tup (pv 2) pe_int (fun _ _ => rfl)) pa_nil))))
      (pss_cons (ps_if (pt_not (pt_val (pe_call G__law_lowest (hr.mono (by decide)) (by rfl) m__law_lowest k__law_lowest b__law_lowest .nil pass0 (pa_cons (pv 3) (pa_cons (pe_ix ix_tup (pv 2) pe_int (fun _ _ => rfl)) (pa_cons (pe_ix ix_tup (pv 2) pe_int (fun _ _ => rfl)) pa_nil)))))) (pss_one (ps_ret pe_bl)) pss_nil)
      (pss_cons (ps_for PassesOwn.never rfl (pi_range1 (by rfl) m_range (pa_cons (pe_ix ix_list (pv 1) pe_int (fun _ _ => rfl)) pa_nil)) (pg_name (i := 4) sc_law.nd rfl (Or.inl rfl))
      (pss_cons (ps_set (i := 5) sc_law.nd rfl (Or.inl rfl) (pe_call G__law_draws (hr.mono (by decide)) (by rfl) m__law_draws k__law_draws b__law_draws .nil pass0 (pa_cons (pe_call G__law_cell (hr.mono (by decide)) (by rfl) m__law_cell k__law_cell b__law_cell .nil pass0 (pa_cons (pv 0) (pa_cons (pe_op op_add pe_int (pv 4)) pa_nil))) (pa_cons (pe_lst (pa_cons pe_int (pa_cons pe_int (pa_cons pe_int (pa_cons pe_int (pa_cons (pe_op op_pow pe_int pe_int) (pa_cons (pe_op op_pow pe_int pe_int) pa_nil))))))) pa_nil))))
      (pss_cons (ps_set (i := 6) sc_law.nd rfl (Or.inl rfl) (pe_ix ix_list (pv 5) pe_int (fun _ _ => rfl)))
      (pss_cons (ps_set (i := 7) sc_law.nd rfl (Or.inl rfl) (pe_call G__law_pair (hr.mono (by decide)) (by rfl) m__law_pair k__law_pair b__law_pair .nil pass0 (pa_cons (pe_ix ix_list (pv 5) pe_int (fun _ _ => rfl)) (pa_cons (pe_ix ix_list (pv 5) pe_int (fun _ _ => rfl)) (pa_cons (pe_ix ix_list (pv 5) pe_int (fun _ _ => rfl)) (pa_cons (pe_ix ix_list (pv 5) pe_int (fun _ _ => rfl)) pa_nil))))))
      (pss_cons (ps_set (i := 8) sc_law.nd rfl (Or.inl rfl) (pe_ix ix_tup (pv 7) pe_int (fun _ _ => rfl)))
      (pss_cons (ps_set (i := 9) sc_law.nd rfl (Or.inl rfl) (pe_ix ix_tup (pv 7) pe_int (fun _ _ => rfl)))
      (Evl.pss_cut (ps_if (PW.pt (pw_and (pt_cmpR op_eq (pv 8) pe_int (nomark _)) (pw_and (pt_cmpR op_ge (pv 6) pe_int (nomark _)) (pw_and1 (pt_cmpR op_le (pv 6) pe_int (nomark _)))))) (pss_one (ps_set (i := 8) sc_law.nd rfl (Or.inl rfl) pe_int)) pss_nil)
      (Evl.pss_cut (ps_if (pt_cmpR op_eq (pe_ix ix_list (pv 5) pe_int (fun _ _ => rfl)) pe_int (nomark _)) (pss_cons (ps_set (i := 10) sc_law.nd rfl (Or.inl rfl) (pe_call G__law_due (hr.mono (by decide)) (by rfl) m__law_due k__law_due b__law_due .nil pass0 (pa_cons (pe_fld (pv 3) rfl) (pa_cons (pe_fld (pv 3) rfl) (pa_cons (pv 6) (pa_cons (pv 8) (pa_cons pe_int pa_nil)))))))
      (pss_one (ps_set (i := 3) sc_law.nd rfl (Or.inl rfl) (pe_call G__law_did (hr.mono (by decide)) (by rfl) m__law_did k__law_did b__law_did .nil pass0 (pa_cons (pv 3) (pa_cons (pv 6) (pa_cons (pv 8) pa_nil))))))) (pss_cons (ps_set (i := 10) sc_law.nd rfl (Or.inl rfl) (pe_call G__law_due (hr.mono (by decide)) (by rfl) m__law_due k__law_due b__law_due .nil pass0 (pa_cons (pe_fld (pv 3) rfl) (pa_cons (pe_fld (pv 3) rfl) (pa_cons (pv 6) (pa_cons (pv 8) (pa_cons (pv 9) pa_nil)))))))
      (pss_one (ps_set (i := 3) sc_law.nd rfl (Or.inl rfl) (pe_call G__law_did (hr.mono (by decide)) (by rfl) m__law_did k__law_did b__law_did .nil pass0 (pa_cons (pv 3) (pa_cons (pv 6) (pa_cons (pe_make M_Ratio___init__ G_Ratio___init__ (hr.mono (by decide)) (by rfl) T.g_Ratio b_Ratio___init__ .nil passL (pa_cons (pv 8) (pa_cons (pv 9) pa_nil))) pa_nil))))))))
      (pss_one (ps_if (pt_not (pt_val (pe_call G__law_lowest (hr.mono (by decide)) (by rfl) m__law_lowest k__law_lowest b__law_lowest .nil pass0 (pa_cons (pv 3) (pa_cons (pe_ix ix_tup (pv 10) pe_int (fun _ _ => rfl)) (pa_cons (pe_ix ix_tup (pv 10) pe_int (fun _ _ => rfl)) pa_nil)))))) (pss_one (ps_ret pe_bl)) pss_nil))))))))))
      (pss_one (ps_ret pe_bl))))))), ?_⟩
    refine ⟨.ref a, rfl, a, ns, 0, rfl, hS, fun c1 => ?_⟩
    refine ⟨10, 20, rfl, rfl, ⟨by decide, by decide, by decide⟩, 10, 20, rfl, rfl, ⟨by decide, by decide, by decide⟩, (by show 5 ≤ sizeLine; decide), fun p1 np1 => ?_⟩
    refine ⟨c1, p1, [11, 2, 4, 100000000000000000000, 100000000000000000000], rfl, lst_l upd_same, by decide, by decide, fun dsd1 H1 d1 wd1 s1 nd1 hd1 => ?_⟩
    have s1 : Same H H1 := (same_upd np1).trans s1
    have nd1 : H d1 = none := (same_upd np1).free nd1
    obtain ⟨x0, rx0, rfl, lx0, ux0, wd1⟩ := wd1.c
    obtain ⟨x1, rx1, rfl, lx1, ux1, wd1⟩ := wd1.c
    obtain ⟨x2, rx2, rfl, lx2, ux2, wd1⟩ := wd1.c
    obtain ⟨x3, rx3, rfl, lx3, ux3, wd1⟩ := wd1.c
    obtain ⟨x4, rx4, rfl, lx4, ux4, wd1⟩ := wd1.c
    cases wd1.n
    have Ld1 : SqL K H1 d1 ([x0, x1, x2, x3, x4].map V.int) := lst_l hd1
    refine ⟨.ref d1, rfl, d1, _, _, _, rfl, rfl, Ld1, atI_nat (j := 2) rfl, .ref d1, rfl, d1, _, _, _, rfl, rfl, Ld1, atI_nat (j := 3) rfl, .ref d1, rfl, d1, _, _, _, rfl, rfl, Ld1, atI_nat (j := 4) rfl, .ref d1, rfl, d1, _, _, _, rfl, rfl, Ld1, atI_nat (j := 1) rfl, x2, x3, x4, x1, rfl, lx2, ux2, fun v w2 H2 u hv hw hw2 e2 hu => ?_⟩
    have tu : ∀ {j : Nat} {z : V}, [V.int v, V.int w2][j]? = some z → True := fun _ => True.intro
    refine ⟨.ref u, rfl, u, _, _, _, rfl, rfl, tup_t hu, atI_nat (j := 0) rfl, .ref u, rfl, u, _, _, _, rfl, rfl, tup_t hu, atI_nat (j := 1) rfl, ?_⟩
    have nw : w2 ≠ 0 := by omega
    have z300 : ∀ {z : Int}, z.natAbs ≤ 10 ^ 20 → z.natAbs ≤ 10 ^ 300 := fun h => Nat.le_trans h (by decide)
    refine mk_rat (t := v) (b := w2) nw (smB (z300 hw2)) fun x H3 e3 nx ro => ?_
    have lo1 := low (t := v) (b := w2) nw
    generalize nT v w2 = T1 at lo1 ro
    generalize nB v w2 = B1 at lo1 ro
    have hu3 := e3 _ _ hu
    have S0 : Sn 0 = 10 ^ 20 := rfl
    have b1 : T1.natAbs ≤ Sn 0 := Nat.le_trans lo1.leT hv
    have b2 : B1.natAbs ≤ Sn 0 := Nat.le_trans lo1.leB hw2
    refine ⟨.ref x, rfl, .ref u, rfl, u, _, _, _, rfl, rfl, tup_t hu3, atI_nat (j := 0) rfl, .ref u, rfl, u, _, _, _, rfl, rfl, tup_t hu3, atI_nat (j := 1) rfl, x, v, w2, T1, B1, rfl, ro, lo1, smB (z300 hv), smB (z300 hw2), sn_prod (Nat.zero_le 10) b1 b2, by omega, true, rfl, iteF ?_⟩
    have G1 : SqL K H3 d1 ([x0, x1, x2, x3, x4].map V.int) := e3.seq (e2.seq Ld1)
    have sH : Same H H3 := (s1.trans e2).trans e3
    refine ⟨.ref d1, rfl, d1, _, _, _, rfl, rfl, G1, atI_nat (j := 0) rfl, x0, rfl, by omega, by omega, ?_⟩
    refine for_range (lo := 0) (n := x0.toNat) (fun i σ H4 => ∃ (x : Addr) (t b : Int) (yk ydrawn ykind ypairhere yp yq yduehere : Option V), σ = [some (.ref a), some (.ref d1), some (.ref u), some (.ref x), yk, ydrawn, ykind, ypairhere, yp, yq, yduehere] ∧ Same H3 H4 ∧ RatAt C_Ratio H4 x t b ∧ 0 < b ∧ t.natAbs ≤ Sn i ∧ b.natAbs ≤ Sn i) ⟨x, T1, B1, none, none, none, none, none, none, none, rfl, Same.refl _, ro, lo1.pos, b1, b2⟩ ?_ ?_
    · clear ro
      rintro i σ H4 hi ⟨x, t, b, yk, ydrawn, ykind, ypairhere, yp, yq, yduehere, rfl, s4, ro, b0, bt, bb⟩
      have hi10 : i ≤ 9 := by omega
      have t300 : t.natAbs ≤ 10 ^ 300 := Nat.le_trans bt (sn300 (by omega))
      have b300 : b.natAbs ≤ 10 ^ 300 := Nat.le_trans bb (sn300 (by omega))
      refine ⟨.ref a, rfl, _, rfl, _, _, rfl, rfl, a, ns, 1 + i, congrArg (fun z => [V.ref a, V.int z]) (by omega), s4.seq (sH.seq hS), fun c2 => ?_⟩
      refine ⟨10, 20, rfl, rfl, ⟨by decide, by decide, by decide⟩, 10, 20, rfl, rfl, ⟨by decide, by decide, by decide⟩, (by show 6 ≤ sizeLine; decide), fun p5 n5 => ?_⟩
      refine ⟨c2, p5, [9, 2, 2, 4, 100000000000000000000, 100000000000000000000], rfl, lst_l upd_same, by decide, by decide, fun ds H5 d2 w5 s5 nd5 hd5 => ?_⟩
      have s5 : Same H4 H5 := (same_upd n5).trans s5
      obtain ⟨y0, ry0, rfl, ly0, uy0, w5⟩ := w5.c
      obtain ⟨y1, ry1, rfl, ly1, uy1, w5⟩ := w5.c
      obtain ⟨y2, ry2, rfl, ly2, uy2, w5⟩ := w5.c
      obtain ⟨y3, ry3, rfl, ly3, uy3, w5⟩ := w5.c
      obtain ⟨y4, ry4, rfl, ly4, uy4, w5⟩ := w5.c
      obtain ⟨y5, ry5, rfl, ly5, uy5, w5⟩ := w5.c
      cases w5.n
      have Ld2 : SqL K H5 d2 ([y0, y1, y2, y3, y4, y5].map V.int) := lst_l hd5
      refine ⟨.ref d2, rfl, d2, _, _, _, rfl, rfl, Ld2, atI_nat (j := 0) rfl, ?_⟩
      refine ⟨.ref d2, rfl, d2, _, _, _, rfl, rfl, Ld2, atI_nat (j := 3) rfl, .ref d2, rfl, d2, _, _, _, rfl, rfl, Ld2, atI_nat (j := 4) rfl, .ref d2, rfl, d2, _, _, _, rfl, rfl, Ld2, atI_nat (j := 5) rfl, .ref d2, rfl, d2, _, _, _, rfl, rfl, Ld2, atI_nat (j := 2) rfl, y3, y4, y5, y2, rfl, ly3, uy3, fun p w6 H6 u2 hp hw6 hw7 e6 hu2 => ?_⟩
      refine ⟨.ref u2, rfl, u2, _, _, _, rfl, rfl, tup_t hu2, atI_nat (j := 0) rfl, ?_⟩
      refine ⟨.ref u2, rfl, u2, _, _, _, rfl, rfl, tup_t hu2, atI_nat (j := 1) rfl, ?_⟩
      have G2 : SqL K H6 d2 ([y0, y1, y2, y3, y4, y5].map V.int) := e6.seq Ld2
      have s6 := (s4.trans s5).trans e6
      have ro6 := (ro.same s5).same e6
      -- if p == 0 and 4 <= kind <= 6: p = 1
      refine ⟨fun σ' H' => ∃ p : Int, p.natAbs ≤ 10 ^ 20 ∧ (4 ≤ y0 → y0 ≤ 6 → p ≠ 0) ∧ H6 = H' ∧ σ' = [some (.ref a), some (.ref d1), some (.ref u), some (.ref x), some (.int (0 + (i : Int))), some (.ref d2), some (.int y0), some (.ref u2), some (.int p), some (.int w6), yduehere], ?_, ?_⟩
      · refine ⟨_, rfl, rfl, _, rfl, ite2 (fun e => ?_) (fun e => iteF ⟨p, hp, fun _ _ z => e (decide_eq_true (congrArg V.int z)), rfl, rfl⟩)⟩
        refine ⟨_, rfl, _, _, rfl, rfl, _, rfl, ite2 (fun e2 => ?_) (fun e2 => iteF ⟨p, hp, fun z _ => absurd (decide_eq_true z) e2, rfl, rfl⟩)⟩
        refine ⟨_, rfl, _, _, rfl, rfl, _, rfl, ite2 (fun e3 => ?_) (fun e3 => ⟨p, hp, fun _ z => absurd (decide_eq_true z) e3, rfl, rfl⟩)⟩
        exact ⟨1, by decide, fun _ _ => by decide, rfl, rfl⟩
      rintro σ' H' ⟨p, hp, hpk, rfl, rfl⟩
      obtain ⟨dx, hx6⟩ := id ro6
      have p300 := z300 hp
      have q300 := z300 hw7
      have one300 : (1 : Int).natAbs ≤ 10 ^ 300 := by decide
      refine ⟨fun σ' H' => ∃ (x' ud : Addr) (t' b' dt db : Int), Same H3 H' ∧ RatAt C_Ratio H' x' t' b' ∧ LowT dt db t' b' ∧ H' ud = some (.tup [.int dt, .int db]) ∧ dt.natAbs ≤ Sn (i + 1) ∧ db.natAbs ≤ Sn (i + 1) ∧ 0 < db ∧ σ' = [some (.ref a), some (.ref d1), some (.ref u), some (.ref x'), some (.int (0 + (i : Int))), some (.ref d2), some (.int y0), some (.ref u2), some (.int p), some (.int w6), some (.ref ud)], ?_, ?_⟩
      · refine ⟨.ref d2, rfl, d2, _, _, _, rfl, rfl, G2, atI_nat (j := 1) rfl, rfl, _, rfl, ite2 (fun _ => ?_) (fun _ => ?_)⟩
        · have dl := due_le (k := y0) bt bb hp (show (1 : Int).natAbs ≤ 10 ^ 20 by decide) (by decide) (by decide) b0 (Sn_pos i) hpk
          refine ⟨.ref x, rfl, x, C_Ratio, dx, _, _, rfl, hx6, T.cl_Ratio, T.n_Ratio_top, rF_top t b, .ref x, rfl, x, C_Ratio, dx, _, _, rfl, hx6, T.cl_Ratio, T.n_Ratio_bottom, rF_bot t b, _, rfl, _, rfl, t, b, y0, p, 1, rfl, b0, by decide, t300, b300, p300, one300, hpk, fun H7 ud e7 hud => ?_⟩
          have wt : At C_Ratio H7 x (.int p) t b p 1 p 1 := ⟨ro6.same e7, .inr ⟨rfl, rfl⟩, b0, by decide, by decide, rfl, t300, b300, p300, one300, p300, one300⟩
          refine ⟨.ref x, rfl, _, rfl, _, rfl, x, .int p, t, b, y0, p, 1, p, 1, rfl, wt, hpk, fun H8 x' t' b' e8 rr lo => ?_⟩
          exact ⟨x', ud, t', b', _, _, (s6.trans e7).trans e8, rr, lo, e8 _ _ hud, dl.1, Nat.le_trans dl.2.1 (by rw [Sn_step]; omega), dl.2.2, rfl⟩
        · have dl := due_le (k := y0) bt bb hp hw7 (by decide) hw6 b0 (Sn_pos i) hpk
          refine ⟨.ref x, rfl, x, C_Ratio, dx, _, _, rfl, hx6, T.cl_Ratio, T.n_Ratio_top, rF_top t b, .ref x, rfl, x, C_Ratio, dx, _, _, rfl, hx6, T.cl_Ratio, T.n_Ratio_bottom, rF_bot t b, _, rfl, _, rfl, _, rfl, t, b, y0, p, w6, rfl, b0, hw6, t300, b300, p300, q300, hpk, fun H7 ud e7 hud => ?_⟩
          refine ⟨.ref x, rfl, _, rfl, _, rfl, _, rfl, mk_rat (t := p) (b := w6) (by omega) (smB q300) fun yp H8 e8 ny ry => ?_⟩
          have loy := low (t := p) (b := w6) (by omega)
          generalize nT p w6 = P at loy ry
          generalize nB p w6 = R at loy ry
          have wt : At C_Ratio H8 x (.ref yp) t b p w6 P R := ⟨(ro6.same e7).same e8, ry.num, b0, hw6, loy.pos, loy.eq, t300, b300, p300, q300, Nat.le_trans loy.leT p300, Nat.le_trans loy.leB q300⟩
          refine ⟨x, .ref yp, t, b, y0, p, w6, P, R, rfl, wt, hpk, fun H9 x' t' b' e9 rr lo => ?_⟩
          exact ⟨x', ud, t', b', _, _, ((s6.trans e7).trans e8).trans e9, rr, lo, e9 _ _ (e8 _ _ hud), dl.1, Nat.le_trans dl.2.1 (by rw [Sn_step]; omega), dl.2.2, rfl⟩
      rintro σ' H7 ⟨x', ud, t', b', dt, db, s7, rr, lo, hud, bd1, bd2, db0, rfl⟩
      have st : Sm dt := smB (Nat.le_trans bd1 (sn300 (by omega)))
      have sb : Sm db := smB (Nat.le_trans bd2 (sn300 (by omega)))
      have bt' : t'.natAbs ≤ Sn (i + 1) := Nat.le_trans lo.leT bd1
      have bb' : b'.natAbs ≤ Sn (i + 1) := Nat.le_trans lo.leB bd2
      refine ⟨.ref x', rfl, .ref ud, rfl, ud, _, _, _, rfl, rfl, tup_t hud, atI_nat (j := 0) rfl, .ref ud, rfl, ud, _, _, _, rfl, rfl, tup_t hud, atI_nat (j := 1) rfl, x', dt, db, t', b', rfl, rr, lo, st, sb, sn_prod (by omega) bt' bb', by omega, true, rfl, iteF ?_⟩
      exact ⟨x', t', b', _, _, _, _, _, _, _, rfl, s7, rr, lo.pos, bt', bb'⟩
    · rintro σ H4 ⟨x, t, b, yk, ydrawn, ykind, ypairhere, yp, yq, yduehere, rfl, _⟩
      exact q _
end
/-! ### what the top has written; the law's own head -/
theorem all_mk {l : PySem.W.OpenLaw} {w : World} {K : PySem.W.Frag} {h : Heap} {mg : Str → Option Value} {fa f1 f2 f3 f4 f5 f6 f7 f8 f9 f10 f11 f12 f13 f14 f15 f16 f17 f18 f19 f20 f21 f22 f23 C_Ratio C_ZeroBottom fx_rf_Ratio_add fx_of_Ratio_add fx_rf_Ratio_sub fx_of_Ratio_sub fx_rf_Ratio_mul fx_of_Ratio_mul fx_of_Ratio_floordiv fx_of_Ratio_mod : Addr} (X : K.In h) (G : h.Ns mainGlobals mg) (hfa : mg "law" = some (.ref fa))
    {od1 an1 od2 an2 od3 an3 od4 an4 od5 an5 od6 an6 od7 an7 od8 an8 od9 an9 od10 an10 od11 an11 od12 an12 od13 an13 od14 an14 od15 an15 od16 an16 od17 an17 od18 an18 od19 an19 od20 an20 od21 an21 od22 an22 od23 an23 : Option Addr} {sl1 sl2 sl3 sl4 sl5 sl6 sl7 sl8 sl9 sl10 sl11 sl12 sl13 sl14 sl15 sl16 sl17 sl18 sl19 sl20 sl21 sl22 sl23 : Array (Option Value)} {oc1 kV1 dc1 pm1 cd1 ct1 oc2 kV2 dc2 pm2 cd2 ct2 oc3 kV3 dc3 pm3 cd3 ct3 oc4 kV4 dc4 pm4 cd4 ct4 oc5 kV5 dc5 pm5 cd5 ct5 oc6 kV6 dc6 pm6 cd6 ct6 oc7 kV7 dc7 pm7 cd7 ct7 oc8 kV8 dc8 pm8 cd8 ct8 oc9 kV9 dc9 pm9 cd9 ct9 oc10 kV10 dc10 pm10 cd10 ct10 oc11 kV11 dc11 pm11 cd11 ct11 oc12 kV12 dc12 pm12 cd12 ct12 oc13 kV13 dc13 pm13 cd13 ct13 oc14 kV14 dc14 pm14 cd14 ct14 oc15 kV15 dc15 pm15 cd15 ct15 oc16 kV16 dc16 pm16 cd16 ct16 oc17 kV17 dc17 pm17 cd17 ct17 oc18 kV18 dc18 pm18 cd18 ct18 oc19 kV19 dc19 pm19 cd19 ct19 oc20 kV20 dc20 pm20 cd20 ct20 oc21 kV21 dc21 pm21 cd21 ct21 oc22 kV22 dc22 pm22 cd22 ct22 oc23 kV23 dc23 pm23 cd23 ct23 : Value} {tT1 : Addr} {oT1 : Value} {dT1 : Option Addr} {nT1 : Nat} {sT1 : Array (Option Value)} {tq1_0 : Tok}
    (a_Ratio : PySem.W.nsIn K mainGlobals "Ratio" = some (some (.ref C_Ratio)))
    (kc_Ratio : PySem.W.keepIn K (.ref C_Ratio) = true)
    (hd_Ratio : PySem.W.hasDictIn K C_Ratio = true)
    (ha_Ratio : PySem.W.findIn K (.ref C_Ratio) "__class__" = some (some (.builtin "object.__class__")))
    (hm_Ratio : PySem.W.mroIn K C_Ratio (.type "object") = some true)
    (pg_Ratio : PySem.W.plainGet K C_Ratio Str.empty = true)
    (po_Ratio : PySem.W.plainOver K C_Ratio = true)
    (sa_Ratio : PySem.W.findIn K (.ref C_Ratio) "__setattr__" = some (some (.builtin "object.__setattr__")))
    (mk_Ratio : PySem.W.makesIn K C_Ratio = true)
    (n_Ratio_top : PySem.W.findIn K (.ref C_Ratio) "top" = some none)
    (n_Ratio_bottom : PySem.W.findIn K (.ref C_Ratio) "bottom" = some none)
    (sf_Ratio : PySem.W.selfFirst K C_Ratio = true)
    (si_Ratio : PySem.W.subIn K (.type "int") (.ref C_Ratio) = some false)
    (sr_Ratio : PySem.W.subIn K (.ref C_Ratio) (.type "int") = some false)
    (rf_Ratio_add : PySem.W.findIn K (.ref C_Ratio) "__radd__" = some (some (.ref fx_rf_Ratio_add)))
    (of_Ratio_add : PySem.W.findIn K (.ref C_Ratio) "__add__" = some (some (.ref fx_of_Ratio_add)))
    (inta_add : PySem.W.findIn K (.type "int") "__add__" = some (some (.builtin "int.__add__")))
    (intr_add : PySem.W.findIn K (.type "int") "__radd__" = some (some (.builtin "int.__radd__")))
    (rf_Ratio_sub : PySem.W.findIn K (.ref C_Ratio) "__rsub__" = some (some (.ref fx_rf_Ratio_sub)))
    (of_Ratio_sub : PySem.W.findIn K (.ref C_Ratio) "__sub__" = some (some (.ref fx_of_Ratio_sub)))
    (inta_sub : PySem.W.findIn K (.type "int") "__sub__" = some (some (.builtin "int.__sub__")))
    (intr_sub : PySem.W.findIn K (.type "int") "__rsub__" = some (some (.builtin "int.__rsub__")))
    (rf_Ratio_mul : PySem.W.findIn K (.ref C_Ratio) "__rmul__" = some (some (.ref fx_rf_Ratio_mul)))
    (of_Ratio_mul : PySem.W.findIn K (.ref C_Ratio) "__mul__" = some (some (.ref fx_of_Ratio_mul)))
    (inta_mul : PySem.W.findIn K (.type "int") "__mul__" = some (some (.builtin "int.__mul__")))
    (intr_mul : PySem.W.findIn K (.type "int") "__rmul__" = some (some (.builtin "int.__rmul__")))
    (rf_Ratio_floordiv : PySem.W.findIn K (.ref C_Ratio) "__rfloordiv__" = some none)
    (of_Ratio_floordiv : PySem.W.findIn K (.ref C_Ratio) "__floordiv__" = some (some (.ref fx_of_Ratio_floordiv)))
    (inta_floordiv : PySem.W.findIn K (.type "int") "__floordiv__" = some (some (.builtin "int.__floordiv__")))
    (intr_floordiv : PySem.W.findIn K (.type "int") "__rfloordiv__" = some (some (.builtin "int.__rfloordiv__")))
    (rf_Ratio_mod : PySem.W.findIn K (.ref C_Ratio) "__rmod__" = some none)
    (of_Ratio_mod : PySem.W.findIn K (.ref C_Ratio) "__mod__" = some (some (.ref fx_of_Ratio_mod)))
    (inta_mod : PySem.W.findIn K (.type "int") "__mod__" = some (some (.builtin "int.__mod__")))
    (intr_mod : PySem.W.findIn K (.type "int") "__rmod__" = some (some (.builtin "int.__rmod__")))
    (a_ZeroBottom : PySem.W.nsIn K mainGlobals "ZeroBottom" = some (some (.ref C_ZeroBottom)))
    (kc_ZeroBottom : PySem.W.keepIn K (.ref C_ZeroBottom) = true)
    (hd_ZeroBottom : PySem.W.hasDictIn K C_ZeroBottom = true)
    (ha_ZeroBottom : PySem.W.findIn K (.ref C_ZeroBottom) "__class__" = some (some (.builtin "object.__class__")))
    (hm_ZeroBottom : PySem.W.mroIn K C_ZeroBottom (.type "object") = some true)
    (b_ZeroBottom : PySem.W.subIn K (.ref C_ZeroBottom) (.type "BaseException") = some true)
    (t_ZeroBottom : PySem.W.typeIn K (.ref C_ZeroBottom) = some (.type "type"))
    (ga_ZeroBottom : PySem.W.findIn K (.ref C_ZeroBottom) "__getattribute__" = some (some (.builtin "BaseException.__getattribute__")))
    (gg_ZeroBottom : PySem.W.findIn K (.ref C_ZeroBottom) "__getattr__" = some none)
    (x_ZeroBottom : PySem.W.excIn K C_ZeroBottom [.type "ValueError", .type "Exception", .type "BaseException", .type "object"] "ValueError.__new__" = true)
    (hnc : PySem.W.specialIn K (.builtin "object.__class__") "__get__" = some (some (.builtin "getset_descriptor.__get__")))
    (htk : PySem.W.takesIn K (.builtin "object.__class__") = some true)
    (kit_Ratio_Ratio : PySem.W.kitOne K (.ref C_Ratio) (.ref C_Ratio) = some true)
    (kit_int_Ratio : PySem.W.kitOne K (.type "int") (.ref C_Ratio) = some false)
    (a_gcd : PySem.W.nsIn K mainGlobals "gcd" = some (some (.builtin "math.gcd")))
    (a1 : PySem.W.findIn K (.ref C_Ratio) "__init__" = some (some (.ref f1))) (i1 : PySem.W.isFn K (.ref f1) = true)
    (l1 : K.lookup f1 = some ⟨oc1, od1, .func (PySem.W.fnOf "__init__" "Ratio.__init__" (defArgs s_Ratio___init__) (defBody s_Ratio___init__) (defScope s_Ratio___init__) (.ref tT1) kV1 dc1 pm1 an1 cd1 ct1), sl1⟩)
    (lt1 : K.lookup tT1 = some ⟨oT1, dT1, .seq #[.int 1 tq1_0] nT1, sT1⟩)
    (c1 : PySem.W.codeIn K cd1 "Ratio.__init__" = true) (k1 : PySem.W.keepIn K (.ref f1) = true)
    (a2 : PySem.W.nsIn K mainGlobals "_as_ratio" = some (some (.ref f2)))
    (l2 : K.lookup f2 = some ⟨oc2, od2, .func (PySem.W.fnOf "_as_ratio" "_as_ratio" (defArgs s__as_ratio) (defBody s__as_ratio) (defScope s__as_ratio) .none kV2 dc2 pm2 an2 cd2 ct2), sl2⟩)
    (c2 : PySem.W.codeIn K cd2 "_as_ratio" = true) (k2 : PySem.W.keepIn K (.ref f2) = true)
    (a3 : PySem.W.findIn K (.ref C_Ratio) "over" = some (some (.ref f3))) (i3 : PySem.W.isFn K (.ref f3) = true)
    (l3 : K.lookup f3 = some ⟨oc3, od3, .func (PySem.W.fnOf "over" "Ratio.over" (defArgs s_Ratio_over) (defBody s_Ratio_over) (defScope s_Ratio_over) .none kV3 dc3 pm3 an3 cd3 ct3), sl3⟩)
    (c3 : PySem.W.codeIn K cd3 "Ratio.over" = true) (k3 : PySem.W.keepIn K (.ref f3) = true)
    (a4 : PySem.W.findIn K (.ref C_Ratio) "__neg__" = some (some (.ref f4))) (i4 : PySem.W.isFn K (.ref f4) = true)
    (l4 : K.lookup f4 = some ⟨oc4, od4, .func (PySem.W.fnOf "__neg__" "Ratio.__neg__" (defArgs s_Ratio___neg__) (defBody s_Ratio___neg__) (defScope s_Ratio___neg__) .none kV4 dc4 pm4 an4 cd4 ct4), sl4⟩)
    (c4 : PySem.W.codeIn K cd4 "Ratio.__neg__" = true) (k4 : PySem.W.keepIn K (.ref f4) = true)
    (a5 : PySem.W.findIn K (.ref C_Ratio) "__abs__" = some (some (.ref f5))) (i5 : PySem.W.isFn K (.ref f5) = true)
    (l5 : K.lookup f5 = some ⟨oc5, od5, .func (PySem.W.fnOf "__abs__" "Ratio.__abs__" (defArgs s_Ratio___abs__) (defBody s_Ratio___abs__) (defScope s_Ratio___abs__) .none kV5 dc5 pm5 an5 cd5 ct5), sl5⟩)
    (c5 : PySem.W.codeIn K cd5 "Ratio.__abs__" = true) (k5 : PySem.W.keepIn K (.ref f5) = true)
    (a6 : PySem.W.findIn K (.ref C_Ratio) "__add__" = some (some (.ref f6))) (i6 : PySem.W.isFn K (.ref f6) = true)
    (l6 : K.lookup f6 = some ⟨oc6, od6, .func (PySem.W.fnOf "__add__" "Ratio.__add__" (defArgs s_Ratio___add__) (defBody s_Ratio___add__) (defScope s_Ratio___add__) .none kV6 dc6 pm6 an6 cd6 ct6), sl6⟩)
    (c6 : PySem.W.codeIn K cd6 "Ratio.__add__" = true) (k6 : PySem.W.keepIn K (.ref f6) = true)
    (a7 : PySem.W.findIn K (.ref C_Ratio) "__radd__" = some (some (.ref f7))) (i7 : PySem.W.isFn K (.ref f7) = true)
    (l7 : K.lookup f7 = some ⟨oc7, od7, .func (PySem.W.fnOf "__radd__" "Ratio.__radd__" (defArgs s_Ratio___radd__) (defBody s_Ratio___radd__) (defScope s_Ratio___radd__) .none kV7 dc7 pm7 an7 cd7 ct7), sl7⟩)
    (c7 : PySem.W.codeIn K cd7 "Ratio.__radd__" = true) (k7 : PySem.W.keepIn K (.ref f7) = true)
    (a8 : PySem.W.findIn K (.ref C_Ratio) "__sub__" = some (some (.ref f8))) (i8 : PySem.W.isFn K (.ref f8) = true)
    (l8 : K.lookup f8 = some ⟨oc8, od8, .func (PySem.W.fnOf "__sub__" "Ratio.__sub__" (defArgs s_Ratio___sub__) (defBody s_Ratio___sub__) (defScope s_Ratio___sub__) .none kV8 dc8 pm8 an8 cd8 ct8), sl8⟩)
    (c8 : PySem.W.codeIn K cd8 "Ratio.__sub__" = true) (k8 : PySem.W.keepIn K (.ref f8) = true)
    (a9 : PySem.W.findIn K (.ref C_Ratio) "__rsub__" = some (some (.ref f9))) (i9 : PySem.W.isFn K (.ref f9) = true)
    (l9 : K.lookup f9 = some ⟨oc9, od9, .func (PySem.W.fnOf "__rsub__" "Ratio.__rsub__" (defArgs s_Ratio___rsub__) (defBody s_Ratio___rsub__) (defScope s_Ratio___rsub__) .none kV9 dc9 pm9 an9 cd9 ct9), sl9⟩)
    (c9 : PySem.W.codeIn K cd9 "Ratio.__rsub__" = true) (k9 : PySem.W.keepIn K (.ref f9) = true)
    (a10 : PySem.W.findIn K (.ref C_Ratio) "__mul__" = some (some (.ref f10))) (i10 : PySem.W.isFn K (.ref f10) = true)
    (l10 : K.lookup f10 = some ⟨oc10, od10, .func (PySem.W.fnOf "__mul__" "Ratio.__mul__" (defArgs s_Ratio___mul__) (defBody s_Ratio___mul__) (defScope s_Ratio___mul__) .none kV10 dc10 pm10 an10 cd10 ct10), sl10⟩)
    (c10 : PySem.W.codeIn K cd10 "Ratio.__mul__" = true) (k10 : PySem.W.keepIn K (.ref f10) = true)
    (a11 : PySem.W.findIn K (.ref C_Ratio) "__rmul__" = some (some (.ref f11))) (i11 : PySem.W.isFn K (.ref f11) = true)
    (l11 : K.lookup f11 = some ⟨oc11, od11, .func (PySem.W.fnOf "__rmul__" "Ratio.__rmul__" (defArgs s_Ratio___rmul__) (defBody s_Ratio___rmul__) (defScope s_Ratio___rmul__) .none kV11 dc11 pm11 an11 cd11 ct11), sl11⟩)
    (c11 : PySem.W.codeIn K cd11 "Ratio.__rmul__" = true) (k11 : PySem.W.keepIn K (.ref f11) = true)
    (a12 : PySem.W.findIn K (.ref C_Ratio) "__floordiv__" = some (some (.ref f12))) (i12 : PySem.W.isFn K (.ref f12) = true)
    (l12 : K.lookup f12 = some ⟨oc12, od12, .func (PySem.W.fnOf "__floordiv__" "Ratio.__floordiv__" (defArgs s_Ratio___floordiv__) (defBody s_Ratio___floordiv__) (defScope s_Ratio___floordiv__) .none kV12 dc12 pm12 an12 cd12 ct12), sl12⟩)
    (c12 : PySem.W.codeIn K cd12 "Ratio.__floordiv__" = true) (k12 : PySem.W.keepIn K (.ref f12) = true)
    (a13 : PySem.W.findIn K (.ref C_Ratio) "__mod__" = some (some (.ref f13))) (i13 : PySem.W.isFn K (.ref f13) = true)
    (l13 : K.lookup f13 = some ⟨oc13, od13, .func (PySem.W.fnOf "__mod__" "Ratio.__mod__" (defArgs s_Ratio___mod__) (defBody s_Ratio___mod__) (defScope s_Ratio___mod__) .none kV13 dc13 pm13 an13 cd13 ct13), sl13⟩)
    (c13 : PySem.W.codeIn K cd13 "Ratio.__mod__" = true) (k13 : PySem.W.keepIn K (.ref f13) = true)
    (a14 : PySem.W.nsIn K mainGlobals "_law_cell" = some (some (.ref f14)))
    (l14 : K.lookup f14 = some ⟨oc14, od14, .func (PySem.W.fnOf "_law_cell" "_law_cell" (defArgs s__law_cell) (defBody s__law_cell) (defScope s__law_cell) .none kV14 dc14 pm14 an14 cd14 ct14), sl14⟩)
    (c14 : PySem.W.codeIn K cd14 "_law_cell" = true) (k14 : PySem.W.keepIn K (.ref f14) = true)
    (a15 : PySem.W.nsIn K mainGlobals "_law_draws" = some (some (.ref f15)))
    (l15 : K.lookup f15 = some ⟨oc15, od15, .func (PySem.W.fnOf "_law_draws" "_law_draws" (defArgs s__law_draws) (defBody s__law_draws) (defScope s__law_draws) .none kV15 dc15 pm15 an15 cd15 ct15), sl15⟩)
    (c15 : PySem.W.codeIn K cd15 "_law_draws" = true) (k15 : PySem.W.keepIn K (.ref f15) = true)
    (a16 : PySem.W.nsIn K mainGlobals "_law_is_int" = some (some (.ref f16)))
    (l16 : K.lookup f16 = some ⟨oc16, od16, .func (PySem.W.fnOf "_law_is_int" "_law_is_int" (defArgs s__law_is_int) (defBody s__law_is_int) (defScope s__law_is_int) .none kV16 dc16 pm16 an16 cd16 ct16), sl16⟩)
    (c16 : PySem.W.codeIn K cd16 "_law_is_int" = true) (k16 : PySem.W.keepIn K (.ref f16) = true)
    (a17 : PySem.W.nsIn K mainGlobals "_law_gcd" = some (some (.ref f17)))
    (l17 : K.lookup f17 = some ⟨oc17, od17, .func (PySem.W.fnOf "_law_gcd" "_law_gcd" (defArgs s__law_gcd) (defBody s__law_gcd) (defScope s__law_gcd) .none kV17 dc17 pm17 an17 cd17 ct17), sl17⟩)
    (c17 : PySem.W.codeIn K cd17 "_law_gcd" = true) (k17 : PySem.W.keepIn K (.ref f17) = true)
    (a18 : PySem.W.nsIn K mainGlobals "_law_lowest" = some (some (.ref f18)))
    (l18 : K.lookup f18 = some ⟨oc18, od18, .func (PySem.W.fnOf "_law_lowest" "_law_lowest" (defArgs s__law_lowest) (defBody s__law_lowest) (defScope s__law_lowest) .none kV18 dc18 pm18 an18 cd18 ct18), sl18⟩)
    (c18 : PySem.W.codeIn K cd18 "_law_lowest" = true) (k18 : PySem.W.keepIn K (.ref f18) = true)
    (a19 : PySem.W.nsIn K mainGlobals "_law_floor" = some (some (.ref f19)))
    (l19 : K.lookup f19 = some ⟨oc19, od19, .func (PySem.W.fnOf "_law_floor" "_law_floor" (defArgs s__law_floor) (defBody s__law_floor) (defScope s__law_floor) .none kV19 dc19 pm19 an19 cd19 ct19), sl19⟩)
    (c19 : PySem.W.codeIn K cd19 "_law_floor" = true) (k19 : PySem.W.keepIn K (.ref f19) = true)
    (a20 : PySem.W.nsIn K mainGlobals "_law_due" = some (some (.ref f20)))
    (l20 : K.lookup f20 = some ⟨oc20, od20, .func (PySem.W.fnOf "_law_due" "_law_due" (defArgs s__law_due) (defBody s__law_due) (defScope s__law_due) .none kV20 dc20 pm20 an20 cd20 ct20), sl20⟩)
    (c20 : PySem.W.codeIn K cd20 "_law_due" = true) (k20 : PySem.W.keepIn K (.ref f20) = true)
    (a21 : PySem.W.nsIn K mainGlobals "_law_did" = some (some (.ref f21)))
    (l21 : K.lookup f21 = some ⟨oc21, od21, .func (PySem.W.fnOf "_law_did" "_law_did" (defArgs s__law_did) (defBody s__law_did) (defScope s__law_did) .none kV21 dc21 pm21 an21 cd21 ct21), sl21⟩)
    (c21 : PySem.W.codeIn K cd21 "_law_did" = true) (k21 : PySem.W.keepIn K (.ref f21) = true)
    (a22 : PySem.W.nsIn K mainGlobals "_law_pair" = some (some (.ref f22)))
    (l22 : K.lookup f22 = some ⟨oc22, od22, .func (PySem.W.fnOf "_law_pair" "_law_pair" (defArgs s__law_pair) (defBody s__law_pair) (defScope s__law_pair) .none kV22 dc22 pm22 an22 cd22 ct22), sl22⟩)
    (c22 : PySem.W.codeIn K cd22 "_law_pair" = true) (k22 : PySem.W.keepIn K (.ref f22) = true)
    (a23 : PySem.W.nsIn K mainGlobals "law" = some (some (.ref f23)))
    (l23 : K.lookup f23 = some ⟨oc23, od23, .func (PySem.W.fnOf "law" "law" (defArgs s_law) (defBody s_law) (defScope s_law) .none kV23 dc23 pm23 an23 cd23 ct23), sl23⟩)
    (c23 : PySem.W.codeIn K cd23 "law" = true) (k23 : PySem.W.keepIn K (.ref f23) = true)
    (z_abs : PySem.W.nsIn K mainGlobals "abs" = some none)
    (z_bool : PySem.W.nsIn K mainGlobals "bool" = some none)
    (z_int : PySem.W.nsIn K mainGlobals "int" = some none)
    (z_isinstance : PySem.W.nsIn K mainGlobals "isinstance" = some none)
    (z_len : PySem.W.nsIn K mainGlobals "len" = some none)
    (z_max : PySem.W.nsIn K mainGlobals "max" = some none)
    (z_range : PySem.W.nsIn K mainGlobals "range" = some none) :
    ∃ fd : FuncData, (∀ (s : Shared) (v : Value), BindsTo s fd ⟨[v], []⟩ [("_law_script", v)]) ∧ ∀ base : Heap, K.In base → base.Ns mainGlobals mg → FnOk l.prog w K mg base CX0 8 fa fd ["_law_script"] (sp_law K) := by
  have e := hfa.symm.trans (PySem.W.mg_of X G a23)
  cases e
  have m_abs := PySem.W.mg_none_of X G z_abs
  have m_bool := PySem.W.mg_none_of X G z_bool
  have m_int := PySem.W.mg_none_of X G z_int
  have m_isinstance := PySem.W.mg_none_of X G z_isinstance
  have m_len := PySem.W.mg_none_of X G z_len
  have m_max := PySem.W.mg_none_of X G z_max
  have m_range := PySem.W.mg_none_of X G z_range
  have T : Txt K mg C_Ratio C_ZeroBottom := ⟨PySem.W.mg_of X G a_Ratio, kc_Ratio, hd_Ratio, ha_Ratio, hm_Ratio, ⟨pg_Ratio, hd_Ratio, po_Ratio, sa_Ratio⟩, mk_Ratio, n_Ratio_top, n_Ratio_bottom, sf_Ratio, si_Ratio, sr_Ratio, ⟨_, rf_Ratio_add, .inr ⟨_, rfl⟩⟩, ⟨_, of_Ratio_add⟩, ⟨_, _, inta_add, intr_add⟩, ⟨_, rf_Ratio_sub, .inr ⟨_, rfl⟩⟩, ⟨_, of_Ratio_sub⟩, ⟨_, _, inta_sub, intr_sub⟩, ⟨_, rf_Ratio_mul, .inr ⟨_, rfl⟩⟩, ⟨_, of_Ratio_mul⟩, ⟨_, _, inta_mul, intr_mul⟩, ⟨_, rf_Ratio_floordiv, .inl rfl⟩, ⟨_, of_Ratio_floordiv⟩, ⟨_, _, inta_floordiv, intr_floordiv⟩, ⟨_, rf_Ratio_mod, .inl rfl⟩, ⟨_, of_Ratio_mod⟩, ⟨_, _, inta_mod, intr_mod⟩, PySem.W.mg_of X G a_ZeroBottom, kc_ZeroBottom, hd_ZeroBottom, ha_ZeroBottom, hm_ZeroBottom, b_ZeroBottom, t_ZeroBottom, ga_ZeroBottom, gg_ZeroBottom, x_ZeroBottom, hnc, htk, kit_Ratio_Ratio, kit_int_Ratio, PySem.W.mg_of X G a_gcd⟩
  have F1 : FunD K "__init__" "Ratio.__init__" (defArgs s_Ratio___init__) (defBody s_Ratio___init__) (defScope s_Ratio___init__) [V.int 1] [] f1 _ := ⟨⟨oc1, od1, .ref tT1, kV1, dc1, pm1, an1, cd1, ct1, sl1, rfl, l1, c1, .inr ⟨List.cons_ne_nil _ _, tT1, _, [.int 1 tq1_0], nT1, rfl, lt1, rfl, (.cons ⟨_, rfl⟩ .nil)⟩, .inl rfl⟩, k1⟩
  obtain ⟨dn1, vn1, b1⟩ := F1.binds1 (ps := ["self", "top", "bottom"]) 3 1 (List.cons_ne_nil _ _) rfl fun _ _ _ _ _ _ _ us its hl hi => match us, its, hl, hi with | [_, _, _], [_], _, _ => ⟨_, rfl, rfl⟩
  cases vn1
  obtain ⟨dd1, vd1, bd1⟩ := F1.binds1 (ps := ["self", "top", "bottom"]) 2 0 (List.cons_ne_nil _ _) rfl fun _ _ _ _ _ _ _ us its hl hi => match us, its, hl, hi with | [_, _], [_], _, _ => ⟨_, rfl, rfl⟩
  have F2 := fun_mk (st := s__as_ratio) l2 c2 k2
  have b2 := F2.binds (ps := ["number"]) fun _ _ _ _ _ _ us hl => match us, hl with | [_], _ => rfl
  have F3 := fun_mk (st := s_Ratio_over) l3 c3 k3
  have b3 := F3.binds (ps := ["self", "other"]) fun _ _ _ _ _ _ us hl => match us, hl with | [_, _], _ => rfl
  have F4 := fun_mk (st := s_Ratio___neg__) l4 c4 k4
  have b4 := F4.binds (ps := ["self"]) fun _ _ _ _ _ _ us hl => match us, hl with | [_], _ => rfl
  have F5 := fun_mk (st := s_Ratio___abs__) l5 c5 k5
  have b5 := F5.binds (ps := ["self"]) fun _ _ _ _ _ _ us hl => match us, hl with | [_], _ => rfl
  have F6 := fun_mk (st := s_Ratio___add__) l6 c6 k6
  have b6 := F6.binds (ps := ["self", "other"]) fun _ _ _ _ _ _ us hl => match us, hl with | [_, _], _ => rfl
  have F7 := fun_mk (st := s_Ratio___radd__) l7 c7 k7
  have b7 := F7.binds (ps := ["self", "other"]) fun _ _ _ _ _ _ us hl => match us, hl with | [_, _], _ => rfl
  have F8 := fun_mk (st := s_Ratio___sub__) l8 c8 k8
  have b8 := F8.binds (ps := ["self", "other"]) fun _ _ _ _ _ _ us hl => match us, hl with | [_, _], _ => rfl
  have F9 := fun_mk (st := s_Ratio___rsub__) l9 c9 k9
  have b9 := F9.binds (ps := ["self", "other"]) fun _ _ _ _ _ _ us hl => match us, hl with | [_, _], _ => rfl
  have F10 := fun_mk (st := s_Ratio___mul__) l10 c10 k10
  have b10 := F10.binds (ps := ["self", "other"]) fun _ _ _ _ _ _ us hl => match us, hl with | [_, _], _ => rfl
  have F11 := fun_mk (st := s_Ratio___rmul__) l11 c11 k11
  have b11 := F11.binds (ps := ["self", "other"]) fun _ _ _ _ _ _ us hl => match us, hl with | [_, _], _ => rfl
  have F12 := fun_mk (st := s_Ratio___floordiv__) l12 c12 k12
  have b12 := F12.binds (ps := ["self", "other"]) fun _ _ _ _ _ _ us hl => match us, hl with | [_, _], _ => rfl
  have F13 := fun_mk (st := s_Ratio___mod__) l13 c13 k13
  have b13 := F13.binds (ps := ["self", "other"]) fun _ _ _ _ _ _ us hl => match us, hl with | [_, _], _ => rfl
  have F14 := fun_mk (st := s__law_cell) l14 c14 k14
  have b14 := F14.binds (ps := ["_law_script", "_law_place"]) fun _ _ _ _ _ _ us hl => match us, hl with | [_, _], _ => rfl
  have F15 := fun_mk (st := s__law_draws) l15 c15 k15
  have b15 := F15.binds (ps := ["_law_cell_here", "_law_sizes"]) fun _ _ _ _ _ _ us hl => match us, hl with | [_, _], _ => rfl
  have F16 := fun_mk (st := s__law_is_int) l16 c16 k16
  have b16 := F16.binds (ps := ["_law_x"]) fun _ _ _ _ _ _ us hl => match us, hl with | [_], _ => rfl
  have F17 := fun_mk (st := s__law_gcd) l17 c17 k17
  have b17 := F17.binds (ps := ["_law_a", "_law_b"]) fun _ _ _ _ _ _ us hl => match us, hl with | [_, _], _ => rfl
  have F18 := fun_mk (st := s__law_lowest) l18 c18 k18
  have b18 := F18.binds (ps := ["_law_x", "_law_top", "_law_bottom"]) fun _ _ _ _ _ _ us hl => match us, hl with | [_, _, _], _ => rfl
  have F19 := fun_mk (st := s__law_floor) l19 c19 k19
  have b19 := F19.binds (ps := ["_law_top", "_law_bottom"]) fun _ _ _ _ _ _ us hl => match us, hl with | [_, _], _ => rfl
  have F20 := fun_mk (st := s__law_due) l20 c20 k20
  have b20 := F20.binds (ps := ["_law_t", "_law_b", "_law_kind", "_law_p", "_law_q"]) fun _ _ _ _ _ _ us hl => match us, hl with | [_, _, _, _, _], _ => rfl
  have F21 := fun_mk (st := s__law_did) l21 c21 k21
  have b21 := F21.binds (ps := ["_law_x", "_law_kind", "_law_y"]) fun _ _ _ _ _ _ us hl => match us, hl with | [_, _, _], _ => rfl
  have F22 := fun_mk (st := s__law_pair) l22 c22 k22
  have b22 := F22.binds (ps := ["_law_size", "_law_top", "_law_bottom", "_law_sign"]) fun _ _ _ _ _ _ us hl => match us, hl with | [_, _, _, _], _ => rfl
  have F23 := fun_mk (st := s_law) l23 c23 k23
  refine ⟨PySem.W.fnOf "law" "law" (defArgs s_law) (defBody s_law) (defScope s_law) .none kV23 dc23 pm23 an23 cd23 ct23, fun s v => .of_eq rfl, fun base _ _ => ?_⟩
  have K_Ratio___init__ : CalI l.prog w K mg base (L2.CX l.prog w) 1 C_Ratio ["self", "top", "bottom"] (sp_Ratio___init__ C_Ratio C_ZeroBottom) [V.int 1] := ⟨f1, _, ok_Ratio___init__ F1 T, ⟨mk_Ratio, a1, i1, kc_Ratio⟩, b1, dd1, vd1, bd1⟩
  have K__as_ratio : Cal l.prog w K mg base CX0 3 "_as_ratio" ["number"] (sp__as_ratio C_Ratio) := ⟨f2, _, ok__as_ratio F2 T m_isinstance K_Ratio___init__, PySem.W.mg_of X G a2, k2, b2⟩
  have K_Ratio_over : CalM l.prog w K mg base (L2.CX l.prog w) 4 C_Ratio "over" ["self", "other"] (sp_Ratio_over C_Ratio C_ZeroBottom) := ⟨f3, _, ok_Ratio_over F3 T K__as_ratio K_Ratio___init__, ⟨a3, i3, k3⟩, b3⟩
  have K_Ratio___neg__ : CalM l.prog w K mg base CX0 3 C_Ratio "__neg__" ["self"] (sp_Ratio___neg__ C_Ratio) := ⟨f4, _, ok_Ratio___neg__ F4 T K_Ratio___init__, ⟨a4, i4, k4⟩, b4⟩
  have K_Ratio___abs__ : CalM l.prog w K mg base CX0 3 C_Ratio "__abs__" ["self"] (sp_Ratio___abs__ C_Ratio) := ⟨f5, _, ok_Ratio___abs__ F5 T m_abs K_Ratio___init__, ⟨a5, i5, k5⟩, b5⟩
  have K_Ratio___add__ : CalM l.prog w K mg base CX0 4 C_Ratio "__add__" ["self", "other"] (sp_Ratio___add__ C_Ratio) := ⟨f6, _, ok_Ratio___add__ F6 T K__as_ratio K_Ratio___init__, ⟨a6, i6, k6⟩, b6⟩
  have K_Ratio___radd__ : CalM l.prog w K mg base CX0 5 C_Ratio "__radd__" ["self", "other"] (sp_Ratio___radd__ C_Ratio) := ⟨f7, _, ok_Ratio___radd__ F7 T K_Ratio___add__, ⟨a7, i7, k7⟩, b7⟩
  have K_Ratio___sub__ : CalM l.prog w K mg base CX0 5 C_Ratio "__sub__" ["self", "other"] (sp_Ratio___sub__ C_Ratio) := ⟨f8, _, ok_Ratio___sub__ F8 T K__as_ratio K_Ratio___neg__ K_Ratio___add__, ⟨a8, i8, k8⟩, b8⟩
  have K_Ratio___rsub__ : CalM l.prog w K mg base CX0 5 C_Ratio "__rsub__" ["self", "other"] (sp_Ratio___rsub__ C_Ratio) := ⟨f9, _, ok_Ratio___rsub__ F9 T K_Ratio___neg__ K_Ratio___add__, ⟨a9, i9, k9⟩, b9⟩
  have K_Ratio___mul__ : CalM l.prog w K mg base CX0 4 C_Ratio "__mul__" ["self", "other"] (sp_Ratio___mul__ C_Ratio) := ⟨f10, _, ok_Ratio___mul__ F10 T K__as_ratio K_Ratio___init__, ⟨a10, i10, k10⟩, b10⟩
  have K_Ratio___rmul__ : CalM l.prog w K mg base CX0 5 C_Ratio "__rmul__" ["self", "other"] (sp_Ratio___rmul__ C_Ratio) := ⟨f11, _, ok_Ratio___rmul__ F11 T K_Ratio___mul__, ⟨a11, i11, k11⟩, b11⟩
  have K_Ratio___floordiv__ : CalM l.prog w K mg base (L2.CX l.prog w) 5 C_Ratio "__floordiv__" ["self", "other"] (sp_Ratio___floordiv__ C_Ratio C_ZeroBottom) := ⟨f12, _, ok_Ratio___floordiv__ F12 T K_Ratio_over, ⟨a12, i12, k12⟩, b12⟩
  have K_Ratio___mod__ : CalM l.prog w K mg base (L2.CX l.prog w) 6 C_Ratio "__mod__" ["self", "other"] (sp_Ratio___mod__ C_Ratio C_ZeroBottom) := ⟨f13, _, ok_Ratio___mod__ F13 T K__as_ratio K_Ratio___floordiv__ K_Ratio___mul__ K_Ratio___sub__, ⟨a13, i13, k13⟩, b13⟩
  have K__law_cell : Cal l.prog w K mg base CX0 1 "_law_cell" ["_law_script", "_law_place"] (sp__law_cell K) := ⟨f14, _, ok__law_cell F14 T m_int m_len, PySem.W.mg_of X G a14, k14, b14⟩
  have K__law_draws : Cal l.prog w K mg base CX0 1 "_law_draws" ["_law_cell_here", "_law_sizes"] (sp__law_draws K) := ⟨f15, _, ok__law_draws F15 T m_int m_len m_range, PySem.W.mg_of X G a15, k15, b15⟩
  have K__law_is_int : Cal l.prog w K mg base CX0 1 "_law_is_int" ["_law_x"] sp__law_is_int := ⟨f16, _, ok__law_is_int F16 T m_bool m_int m_isinstance, PySem.W.mg_of X G a16, k16, b16⟩
  have K__law_gcd : Cal l.prog w K mg base CX0 1 "_law_gcd" ["_law_a", "_law_b"] sp__law_gcd := ⟨f17, _, ok__law_gcd F17 T m_int m_range, PySem.W.mg_of X G a17, k17, b17⟩
  have K__law_lowest : Cal l.prog w K mg base CX0 2 "_law_lowest" ["_law_x", "_law_top", "_law_bottom"] (sp__law_lowest C_Ratio) := ⟨f18, _, ok__law_lowest F18 T m_abs m_isinstance K__law_is_int K__law_gcd, PySem.W.mg_of X G a18, k18, b18⟩
  have K__law_floor : Cal l.prog w K mg base CX0 1 "_law_floor" ["_law_top", "_law_bottom"] sp__law_floor := ⟨f19, _, ok__law_floor F19 T, PySem.W.mg_of X G a19, k19, b19⟩
  have K__law_due : Cal l.prog w K mg base CX0 2 "_law_due" ["_law_t", "_law_b", "_law_kind", "_law_p", "_law_q"] sp__law_due := ⟨f20, _, ok__law_due F20 T m_abs K__law_floor, PySem.W.mg_of X G a20, k20, b20⟩
  have K__law_did : Cal l.prog w K mg base CX0 7 "_law_did" ["_law_x", "_law_kind", "_law_y"] (sp__law_did C_Ratio) := ⟨f21, _, ok__law_did F21 T m_abs K_Ratio___init__ K_Ratio_over K_Ratio___neg__ K_Ratio___abs__ K_Ratio___add__ K_Ratio___radd__ K_Ratio___sub__ K_Ratio___rsub__ K_Ratio___mul__ K_Ratio___rmul__ K_Ratio___floordiv__ K_Ratio___mod__, PySem.W.mg_of X G a21, k21, b21⟩
  have K__law_pair : Cal l.prog w K mg base CX0 1 "_law_pair" ["_law_size", "_law_top", "_law_bottom", "_law_sign"] sp__law_pair := ⟨f22, _, ok__law_pair F22 T m_int m_max, PySem.W.mg_of X G a22, k22, b22⟩
  exact ok_law F23 T m_range K_Ratio___init__ K__law_cell K__law_draws K__law_pair K__law_lowest K__law_due K__law_did
end K08
open PySem PySem.W PyProof.Rows
set_option maxHeartbeats 0 in
theorem PySem.Challenge.cw_dearestshelf_k08_whole_ratio_chains_holds : PySem.Challenge.rw_dearestshelf_k08_whole_ratio_chains.Holds := by
  w_on; o_law; k_head; (case hw => w_witness2)
  k_fill
  refine L2.walk_of (l := PySem.Challenge.rw_dearestshelf_k08_whole_ratio_chains) (n := 63) (k := 8) (x := "_law_script") (CX := fun _ => L2.CX0) (sp := fun w => K08.sp_law _) rfl (by decide) rfl ⟨rfl, by decide, by decide⟩ (fun w h Y => PySem.W.kIn_of Y) ?F (fun _ _ a ns hl _ hS => ⟨a, ns, rfl, hS, hl, fun _ => rfl⟩) (fun _ _ _ _ _ h => h)
  case F =>
    intro w mg fa h KX G hmg
    refine' K08.all_mk KX G hmg ?a_Ratio ?kc_Ratio ?hd_Ratio ?ha_Ratio ?hm_Ratio ?pg_Ratio ?po_Ratio ?sa_Ratio ?mk_Ratio ?n_Ratio_top ?n_Ratio_bottom ?sf_Ratio ?si_Ratio ?sr_Ratio ?rf_Ratio_add ?of_Ratio_add ?inta_add ?intr_add ?rf_Ratio_sub ?of_Ratio_sub ?inta_sub ?intr_sub ?rf_Ratio_mul ?of_Ratio_mul ?inta_mul ?intr_mul ?rf_Ratio_floordiv ?of_Ratio_floordiv ?inta_floordiv ?intr_floordiv ?rf_Ratio_mod ?of_Ratio_mod ?inta_mod ?intr_mod ?a_ZeroBottom ?kc_ZeroBottom ?hd_ZeroBottom ?ha_ZeroBottom ?hm_ZeroBottom ?b_ZeroBottom ?t_ZeroBottom ?ga_ZeroBottom ?gg_ZeroBottom ?x_ZeroBottom ?hnc ?htk ?kit_Ratio_Ratio ?kit_int_Ratio ?a_gcd ?a1 ?i1 ?l1 ?lt1 ?c1 ?k1 ?a2 ?l2 ?c2 ?k2 ?a3 ?i3 ?l3 ?c3 ?k3 ?a4 ?i4 ?l4 ?c4 ?k4 ?a5 ?i5 ?l5 ?c5 ?k5 ?a6 ?i6 ?l6 ?c6 ?k6 ?a7 ?i7 ?l7 ?c7 ?k7 ?a8 ?i8 ?l8 ?c8 ?k8 ?a9 ?i9 ?l9 ?c9 ?k9 ?a10 ?i10 ?l10 ?c10 ?k10 ?a11 ?i11 ?l11 ?c11 ?k11 ?a12 ?i12 ?l12 ?c12 ?k12 ?a13 ?i13 ?l13 ?c13 ?k13 ?a14 ?l14 ?c14 ?k14 ?a15 ?l15 ?c15 ?k15 ?a16 ?l16 ?c16 ?k16 ?a17 ?l17 ?c17 ?k17 ?a18 ?l18 ?c18 ?k18 ?a19 ?l19 ?c19 ?k19 ?a20 ?l20 ?c20 ?k20 ?a21 ?l21 ?c21 ?k21 ?a22 ?l22 ?c22 ?k22 ?a23 ?l23 ?c23 ?k23 ?z_abs ?z_bool ?z_int ?z_isinstance ?z_len ?z_max ?z_range
    (case a_Ratio => k_is); (case kc_Ratio => k_is); (case hd_Ratio => k_is); (case ha_Ratio => k_is); (case hm_Ratio => k_is); (case pg_Ratio => k_is); (case po_Ratio => k_is); (case sa_Ratio => k_is); (case mk_Ratio => k_is); (case n_Ratio_top => k_is); (case n_Ratio_bottom => k_is); (case sf_Ratio => k_is); (case si_Ratio => (first | k_is | decide +kernel)); (case sr_Ratio => (first | k_is | decide +kernel)); (case rf_Ratio_add => k_is); (case of_Ratio_add => k_is); (case inta_add => k_is); (case intr_add => k_is); (case rf_Ratio_sub => k_is); (case of_Ratio_sub => k_is); (case inta_sub => k_is); (case intr_sub => k_is); (case rf_Ratio_mul => k_is); (case of_Ratio_mul => k_is); (case inta_mul => k_is); (case intr_mul => k_is); (case rf_Ratio_floordiv => k_is); (case of_Ratio_floordiv => k_is); (case inta_floordiv => k_is); (case intr_floordiv => k_is); (case rf_Ratio_mod => k_is); (case of_Ratio_mod => k_is); (case inta_mod => k_is); (case intr_mod => k_is); (case a_ZeroBottom => k_is); (case kc_ZeroBottom => k_is); (case hd_ZeroBottom => k_is); (case ha_ZeroBottom => k_is); (case hm_ZeroBottom => k_is); (case b_ZeroBottom => k_is); (case t_ZeroBottom => k_is); (case ga_ZeroBottom => k_is); (case gg_ZeroBottom => k_is); (case x_ZeroBottom => k_exc); (case hnc => k_is); (case htk => k_is); (case kit_Ratio_Ratio => kit_is); (case kit_int_Ratio => kit_is); (case a_gcd => k_is); (case a1 => k_is); (case i1 => k_is); (case l1 => k_is); (case lt1 => k_is); (case c1 => k_is); (case k1 => k_is); (case a2 => k_is); (case l2 => k_is); (case c2 => k_is); (case k2 => k_is); (case a3 => k_is); (case i3 => k_is); (case l3 => k_is); (case c3 => k_is); (case k3 => k_is); (case a4 => k_is); (case i4 => k_is); (case l4 => k_is); (case c4 => k_is); (case k4 => k_is); (case a5 => k_is); (case i5 => k_is); (case l5 => k_is); (case c5 => k_is); (case k5 => k_is); (case a6 => k_is); (case i6 => k_is); (case l6 => k_is); (case c6 => k_is); (case k6 => k_is); (case a7 => k_is); (case i7 => k_is); (case l7 => k_is); (case c7 => k_is); (case k7 => k_is); (case a8 => k_is); (case i8 => k_is); (case l8 => k_is); (case c8 => k_is); (case k8 => k_is); (case a9 => k_is); (case i9 => k_is); (case l9 => k_is); (case c9 => k_is); (case k9 => k_is); (case a10 => k_is); (case i10 => k_is); (case l10 => k_is); (case c10 => k_is); (case k10 => k_is); (case a11 => k_is); (case i11 => k_is); (case l11 => k_is); (case c11 => k_is); (case k11 => k_is); (case a12 => k_is); (case i12 => k_is); (case l12 => k_is); (case c12 => k_is); (case k12 => k_is); (case a13 => k_is); (case i13 => k_is); (case l13 => k_is); (case c13 => k_is); (case k13 => k_is); (case a14 => k_is); (case l14 => k_is); (case c14 => k_is); (case k14 => k_is); (case a15 => k_is); (case l15 => k_is); (case c15 => k_is); (case k15 => k_is); (case a16 => k_is); (case l16 => k_is); (case c16 => k_is); (case k16 => k_is); (case a17 => k_is); (case l17 => k_is); (case c17 => k_is); (case k17 => k_is); (case a18 => k_is); (case l18 => k_is); (case c18 => k_is); (case k18 => k_is); (case a19 => k_is); (case l19 => k_is); (case c19 => k_is); (case k19 => k_is); (case a20 => k_is); (case l20 => k_is); (case c20 => k_is); (case k20 => k_is); (case a21 => k_is); (case l21 => k_is); (case c21 => k_is); (case k21 => k_is); (case a22 => k_is); (case l22 => k_is); (case c22 => k_is); (case k22 => k_is); (case a23 => k_is); (case l23 => k_is); (case c23 => k_is); (case k23 => k_is); (case z_abs => k_is); (case z_bool => k_is); (case z_int => k_is); (case z_isinstance => k_is); (case z_len => k_is); (case z_max => k_is); (case z_range => k_is)
