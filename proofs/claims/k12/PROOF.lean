import PyProof.Rows.All
import Wide.All
import OpenK.AllK
import Wide.FinOn
import HandS.ForMost
import HandS.Wide
import HandS.IsInst
import HandS.More
import HandS.Conv
import HandS.Evl
import PySem.Challenge.RW_dearestshelf_k12_dearest_order
set_option Elab.async false
set_option linter.all false
set_option maxRecDepth 100000
set_option maxHeartbeats 8000000
namespace K12
open PySem PySem.Spec PyProof.Rows L2
def top (i : Nat) : Stmt := PySem.Challenge.pw_dearestshelf_k12_dearest_order.main.body.getD i (.Pass ⟨0, 0, 0, 0⟩)
abbrev s_dearest_order : Stmt := top 1
theorem sc_dearest_order : FnScope ["prices", "order", "thing", "at"] ["prices"] (defScope s_dearest_order) := ⟨rfl, rfl, rfl, by decide +kernel, rfl, by decide +kernel, by decide +kernel⟩
abbrev s__law_cell : Stmt := top 3
theorem sc__law_cell : FnScope ["_law_script", "_law_place"] ["_law_script", "_law_place"] (defScope s__law_cell) := ⟨rfl, rfl, rfl, by decide +kernel, rfl, by decide +kernel, by decide +kernel⟩
abbrev s__law_draws : Stmt := top 4
theorem sc__law_draws : FnScope ["_law_cell_here", "_law_sizes", "_law_size", "_law_left", "_law_found", "_law_k", "_law_low", "_law_high"] ["_law_cell_here", "_law_sizes"] (defScope s__law_draws) := ⟨rfl, rfl, rfl, by decide +kernel, rfl, by decide +kernel, by decide +kernel⟩
abbrev s__law_row : Stmt := top 5
theorem sc__law_row : FnScope ["_law_cell_here", "_law_count", "_law_drawn", "_law_bound", "_law_value", "_law_k"] ["_law_cell_here", "_law_count"] (defScope s__law_row) := ⟨rfl, rfl, rfl, by decide +kernel, rfl, by decide +kernel, by decide +kernel⟩
abbrev s__law_is_int : Stmt := top 6
theorem sc__law_is_int : FnScope ["_law_x"] ["_law_x"] (defScope s__law_is_int) := ⟨rfl, rfl, rfl, by decide +kernel, rfl, by decide +kernel, by decide +kernel⟩
abbrev s__law_right : Stmt := top 7
theorem sc__law_right : FnScope ["_law_order", "_law_prices", "_law_thing", "_law_k", "_law_before"] ["_law_order", "_law_prices"] (defScope s__law_right) := ⟨rfl, rfl, rfl, by decide +kernel, rfl, by decide +kernel, by decide +kernel⟩
abbrev s_law : Stmt := top 8
theorem sc_law : FnScope ["_law_script", "_law_ways", "_law_many", "_law_prices", "_law_place", "_law_passed", "_law_k"] ["_law_script"] (defScope s_law) := ⟨rfl, rfl, rfl, by decide +kernel, rfl, by decide +kernel, by decide +kernel⟩

/-! ### mathematics of draws -/
def Within : List Int → List Int → Prop
  | [], [] => True
  | d :: ds, n :: ns => (0 ≤ d ∧ d < n) ∧ Within ds ns
  | _, _ => False
theorem Within.len : ∀ {ds ns : List Int}, Within ds ns → ds.length = ns.length
  | [], [], _ => rfl
  | _ :: ds, _ :: ns, h => by
    rw [List.length_cons, List.length_cons, Within.len h.2]
  | [], _ :: _, h => h.elim
  | _ :: _, [], h => h.elim
theorem Within.snoc : ∀ {ds ns : List Int} {d n : Int}, Within ds ns → 0 ≤ d → d < n → Within (ds ++ [d]) (ns ++ [n])
  | [], [], d, n, _, h0, h1 => ⟨⟨h0, h1⟩, True.intro⟩
  | _ :: ds, _ :: ns, d, n, h, h0, h1 => ⟨h.1, Within.snoc h.2 h0 h1⟩
  | [], _ :: _, _, _, h, _, _ => h.elim
  | _ :: _, [], _, _, h, _, _ => h.elim
theorem Within.step {ds ns : List Int} {d n : Int} {i : Nat} (h : Within ds (ns.take i)) (hi : ns[i]? = some n) (h0 : 0 ≤ d) (h1 : d < n) : Within (ds ++ [d]) (ns.take (i + 1)) := by
  rw [List.take_add_one, hi]
  exact h.snoc h0 h1
theorem Within.zero (ns : List Int) : Within [] (ns.take 0) := by
  rw [List.take_zero]
  exact True.intro
theorem Within.full {ds ns : List Int} (h : Within ds (ns.take ns.length)) : Within ds ns := by
  rw [List.take_length] at h
  exact h
theorem int_of {ns : List Int} {i : Nat} {x : V} (h : (ns.map V.int)[i]? = some x) : ∃ n, x = .int n ∧ ns[i]? = some n := by
  rw [List.getElem?_map] at h
  cases e : ns[i]? with
  | none =>
    rw [e] at h
    cases h
  | some z =>
    rw [e] at h
    exact ⟨z, (Option.some.inj h).symm, rfl⟩
theorem int_at {ns : List Int} {i : Nat} {n : Int} (h : ns[i]? = some n) : (ns.map V.int)[i]? = some (.int n) := by
  rw [List.getElem?_map, h]
  rfl
theorem snoc_int (ds : List Int) (d : Int) : ds.map V.int ++ [V.int d] = (ds ++ [d]).map V.int := by
  rw [List.map_append]
  rfl
theorem same_upd {H : Hp} {p : Addr} {o : HO} (h : H p = none) : Same H (upd H p o) := fun b x e => by
  rw [upd_ne (ne_of_none e h)]
  exact e
theorem same_mut {H H1 : Hp} {p : Addr} {o : HO} (s : Same H H1) (h : H p = none) : Same H (upd H1 p o) := fun b x e => by
  rw [upd_ne (ne_of_none e h)]
  exact s b x e
theorem same_tup {K : PySem.W.Frag} {H H' : Hp} {a : Addr} {xs : List V} (e : Same H H') (h : SqT K H a xs) : SqT K H' a xs := by
  rcases h with (h | ⟨o, h⟩) | h
  · exact .inl (.inl (e _ _ h))
  · exact .inl (.inr ⟨o, e _ _ h⟩)
  · exact .inr h
theorem w_div {j : Int} (h : 0 < j) (hb : j < 2 ^ 100) : CDivW 0 j := wide_div (b := 100) h (by omega) (by decide) (by decide)
theorem lst_l {K : PySem.W.Frag} {H : Hp} {a : Addr} {xs : List V} (h : H a = some (.lst xs)) : SqL K H a xs := .inl (.inl h)
theorem tup_t {K : PySem.W.Frag} {H : Hp} {a : Addr} {xs : List V} (h : H a = some (.tup xs)) : SqT K H a xs := .inl (.inl h)
theorem lc_yes {σ : L2.St} {H : Hp} {F : Bool → Hp → Prop} (h : F true H) : tYes σ H F := h
theorem Within.c {ds ns : List Int} {n : Int} (h : Within ds (n :: ns)) : ∃ d r, ds = d :: r ∧ 0 ≤ d ∧ d < n ∧ Within r ns := by
  cases ds with
  | nil => exact h.elim
  | cons d r => exact ⟨d, r, rfl, h.1.1, h.1.2, h.2⟩
theorem Within.n {ds : List Int} (h : Within ds []) : ds = [] := by
  cases ds with
  | nil => rfl
  | cons d r => exact h.elim
theorem kI : kitB "int" "int" = some true := by decide +kernel
theorem kB : kitB "int" "bool" = some false := by decide +kernel
theorem kT : kitB "tuple" "tuple" = some true := by decide +kernel

theorem cut_from1 (xs : List V) : cutV xs (some 1) none = xs.drop 1 := by
  unfold cutV
  rw [show HT.sIx xs.length 0 (some 1) = min 1 xs.length from HT.sIx_nat xs.length 0 1, HT.sIx_none]
  cases xs with
  | nil => rfl
  | cons x r =>
    rw [show min 1 (x :: r).length = 1 by
      rw [List.length_cons]
      omega]
    show (List.take ((x :: r).length - 1) r) = r
    rw [List.length_cons, Nat.add_sub_cancel]
    exact List.take_length
theorem big18 : (0 : Int) < 10 ^ 18 ∧ (10 : Int) ^ 18 < 2 ^ 100 := by decide
theorem cut_to (xs : List V) (k : Nat) : cutV xs none (some (k : Int)) = xs.take k := by
  unfold cutV
  rw [HT.sIx_none, HT.sIx_nat, List.drop_zero, Nat.sub_zero]
  by_cases h : k ≤ xs.length
  · rw [Nat.min_eq_left h]
  · rw [Nat.min_eq_right (by omega), List.take_of_length_le (Nat.le_refl _), List.take_of_length_le (by omega)]
/-- the order that is asked: falling by price, of equal ones the lower first -/
def Dear (p : Nat → Int) (a b : Nat) : Prop := p b < p a ∨ (p a = p b ∧ a < b)
theorem dear_insert {p : Nat → Int} {os : List Nat} {i k : Nat} (hp : os.Pairwise (Dear p)) (hr : ∀ x ∈ os, x < i) (hd : ∀ j x, k ≤ j → os[j]? = some x → p x < p i)
    (hb : k = 0 ∨ ∃ y, os[k - 1]? = some y ∧ ¬ p y < p i) : (os.take k ++ [i] ++ os.drop k).Pairwise (Dear p) := by
  have hpp := hp
  rw [List.pairwise_iff_getElem] at hpp
  have h1 : (os.take k).Pairwise (Dear p) := hp.sublist (List.take_sublist k os)
  have h2 : (os.drop k).Pairwise (Dear p) := hp.sublist (List.drop_sublist k os)
  have h3 : ∀ x ∈ os.take k, Dear p x i := fun x hx => by
    obtain ⟨j, hj, e⟩ := List.mem_iff_getElem.mp hx
    rw [List.length_take] at hj
    have hj1 : j < os.length := by omega
    have hjk : j < k := by omega
    have e1 : os[j] = x := by
      rw [← e, List.getElem_take]
    have hxi : x < i := hr x (e1 ▸ List.getElem_mem hj1)
    rcases hb with hb | ⟨y, hy, hn⟩
    · omega
    · obtain ⟨g, ey⟩ := List.getElem?_eq_some_iff.mp hy
      have hxy : p y ≤ p x := by
        by_cases hjk1 : j = k - 1
        · subst hjk1
          rw [e1] at ey
          rw [ey]
          exact Int.le_refl _
        · have := hpp j (k - 1) hj1 g (by omega)
          rw [e1, ey] at this
          unfold Dear at this
          omega
      unfold Dear
      omega
  have h4 : ∀ x ∈ os.drop k, Dear p i x := fun x hx => by
    obtain ⟨j, hj, e⟩ := List.mem_iff_getElem.mp hx
    rw [List.length_drop] at hj
    have e1 : os[k + j]? = some x := by
      rw [← e, List.getElem_drop]
      exact List.getElem?_eq_getElem (by omega)
    exact .inl (hd (k + j) x (by omega) e1)
  have h5 : ∀ x ∈ os.take k, ∀ z ∈ os.drop k, Dear p x z := fun x hx z hz => by
    have a := h3 x hx
    have b := h4 z hz
    unfold Dear at *
    omega
  rw [List.append_assoc]
  refine List.pairwise_append.mpr ⟨h1, List.pairwise_append.mpr ⟨List.pairwise_singleton .., h2, fun x hx z hz => ?_⟩, fun x hx z hz => ?_⟩
  · rw [List.mem_singleton.mp hx]
    exact h4 z hz
  · rcases List.mem_append.mp hz with hz | hz
    · rw [List.mem_singleton.mp hz]
      exact h3 x hx
    · exact h5 x hx z hz
theorem perm_insert {os : List Nat} {i k : Nat} (h : os.Perm (List.range i)) : (os.take k ++ [i] ++ os.drop k).Perm (List.range (i + 1)) := by
  rw [List.range_succ]
  have h1 : (os.take k ++ [i] ++ os.drop k).Perm (os ++ [i]) := by
    have h2 : (os.take k ++ ([i] ++ os.drop k)).Perm (os.take k ++ (os.drop k ++ [i])) := List.Perm.append_left _ List.perm_append_comm
    rw [List.append_assoc]
    refine h2.trans ?_
    rw [← List.append_assoc, List.take_append_drop]
  exact h1.trans (h.append_right [i])

def nv (os : List Nat) : List V := (os.map fun (t : Nat) => (t : Int)).map V.int
theorem nv_at {os : List Nat} {i t : Nat} (h : os[i]? = some t) : (nv os)[i]? = some (.int (t : Int)) := by
  unfold nv
  rw [List.getElem?_map, List.getElem?_map, h]
  rfl
theorem nv_of {os : List Nat} {i : Nat} {x : V} (h : (nv os)[i]? = some x) : ∃ t : Nat, x = .int (t : Int) ∧ os[i]? = some t := by
  unfold nv at h
  obtain ⟨n, rfl, h2⟩ := int_of h
  rw [List.getElem?_map] at h2
  cases e : os[i]? with
  | none =>
    rw [e] at h2
    cases h2
  | some t =>
    rw [e] at h2
    exact ⟨t, by rw [← Option.some.inj h2], rfl⟩
theorem nv_len (os : List Nat) : (nv os).length = os.length := by
  unfold nv
  rw [List.length_map, List.length_map]
theorem nv_ins (os : List Nat) (k i : Nat) : (nv os).take k ++ [V.int (i : Int)] ++ (nv os).drop k = nv (os.take k ++ [i] ++ os.drop k) := by
  unfold nv
  simp only [List.map_append, List.map_take, List.map_drop, List.map_cons, List.map_nil]
theorem nv_flat (os : List Nat) : (nv os).all flatV = true := by
  rw [List.all_eq_true]
  intro x hx
  unfold nv at hx
  obtain ⟨n, _, rfl⟩ := List.mem_map.mp hx
  rfl
theorem nv_in {os : List Nat} {t : Nat} (h : t ∈ os) : inV (.int (t : Int)) (nv os) = true := by
  unfold inV
  rw [List.any_eq_true]
  refine ⟨.int (t : Int), ?_, ?_⟩
  · unfold nv
    exact List.mem_map.mpr ⟨(t : Int), List.mem_map.mpr ⟨t, h, rfl⟩, rfl⟩
  · show ((t : Int) == (t : Int)) = true
    exact beq_self_eq_true _
def pr (ns : List Int) (t : Nat) : Int := ns.getD t 0
theorem pr_at {ns : List Int} {t : Nat} (h : t < ns.length) : ns[t]? = some (pr ns t) := by
  unfold pr
  rw [List.getD_eq_getElem?_getD, List.getElem?_eq_getElem h]
  rfl
theorem dp_ints {K : PySem.W.Frag} {H : Hp} {a : Addr} {ns : List Int} (h : SqL K H a (ns.map V.int)) : Dp K H (.ref a) (.list (ns.map PyData.int)) := by
  refine .lst h ?_
  clear h
  induction ns with
  | nil => exact .nil
  | cons n r ih => exact .cons (.int n) ih
theorem depthAll_ints : ∀ ns : List Int, PyData.depthAll (ns.map PyData.int) = 0
  | [] => rfl
  | n :: r => by
    show max (PyData.depth (.int n)) (PyData.depthAll (r.map PyData.int)) = 0
    rw [depthAll_ints r]
    rfl
theorem depth_ints (ns : List Int) : PyData.depth (.list (ns.map PyData.int)) = 1 := by
  show PyData.depthAll (ns.map PyData.int) + 1 = 1
  rw [depthAll_ints]
theorem lay_ints : ∀ ns : List Int, PyData.canLayAll0 (ns.map PyData.int) = true
  | [] => rfl
  | n :: r => by
    show ((PyData.int n).canLay0 && PyData.canLayAll0 (r.map PyData.int)) = true
    rw [lay_ints r]
    rfl

/-- a def that is called by its name, with its promise -/
def Cal (P : Program) (w : World) (K : PySem.W.Frag) (mg : Str → Option Value) (base : Heap) (k : Nat) (x : Str) (ps : List Str) (sp : Sp) : Prop :=
  ∃ (f : Addr) (fd : FuncData), FnOk P w K mg base CX0 k f fd ps sp ∧ mg x = some (.ref f) ∧ PySem.W.keepIn K (.ref f) = true ∧ Binds K fd ps []
section
variable {P : Program} {w : World} {K : PySem.W.Frag} {mg : Str → Option Value} {base : Heap}
def sp_dearest_order (K : PySem.W.Frag) : Sp := fun vs H Q _ => ∃ (a : Addr) (ns : List Int), vs = [.ref a] ∧ SqL K H a (ns.map V.int) ∧ ns.length ≤ 900 ∧
  ∀ (os : List Nat) (H' : Hp) (p : Addr), os.Perm (List.range ns.length) → os.Pairwise (Dear (pr ns)) → Same H H' → H p = none → H' p = some (.tup (nv os)) → Q (.ref p) H'

theorem ok_dearest_order {f : Addr} {fd : FuncData} (F : Fun K "dearest_order" "dearest_order" s_dearest_order f fd) (m_len : mg "len" = none) (m_range : mg "range" = none) (m_tuple : mg "tuple" = none) : FnOk P w K mg base CX0 1 f fd ["prices"] (sp_dearest_order K) := by
  refine F.ok sc_dearest_order (fun vs H Q E h => ?_) (fun cdv A outer s H vs Q E hr h => ?_)
  · obtain ⟨a, ns, rfl, _⟩ := h
    rfl
  · obtain ⟨a, ns, rfl, hS, hlen, q⟩ := h
    refine ⟨_, (pss_cons (ps_set (i := 1) sc_dearest_order.nd rfl (Or.inl rfl) (pe_lst pa_nil))
      (pss_cons (ps_for PassesOwn.never rfl (pi_range1 (by rfl) m_range (pa_cons (pe_callB call_len_seq (by rfl) m_len (by decide +kernel) (pa_cons (pv 0) pa_nil)) pa_nil)) (pg_name (i := 2) sc_dearest_order.nd rfl (Or.inl rfl))
      (pss_cons (ps_set (i := 3) sc_dearest_order.nd rfl (Or.inl rfl) (pe_callB call_len_seq (by rfl) m_len (by decide +kernel) (pa_cons (pv 1) pa_nil)))
      (pss_cons (ps_while PassesOwn.never (PW.pt (pw_and (pt_cmpR op_gt (pv 3) pe_int (nomark _)) (pw_and1 (pt_cmpR op_lt (pe_ix ix_list (pv 0) (pe_ix ix_list (pv 1) (pe_op op_sub (pv 3) pe_int) (fun _ _ => rfl)) (fun _ _ => rfl)) (pe_ix ix_list (pv 0) (pv 2) (fun _ _ => rfl)) (nomark _))))) (pss_one (ps_set (i := 3) sc_dearest_order.nd rfl (Or.inl rfl) (pe_op op_sub (pv 3) pe_int))))
      (pss_one (ps_expr (pe_bm PySem.F.plainAttrs_list PySem.F.slot_list_insert PySem.F.type_list_insert mt_insert (pv 1) (pa_cons (pv 3) (pa_cons (pv 2) pa_nil))))))))
      (pss_one (ps_ret (pe_callTy call_tuple_of (by rfl) m_tuple (by decide +kernel) (pa_cons (pv 1) pa_nil)))))), ?_⟩
    refine ⟨Nat.zero_le _, fun o no => ?_⟩
    have s1 : Same H (upd H o (.lst [])) := same_upd no
    refine ⟨.ref a, rfl, a, _, rfl, .inl (s1.seq hS), _, rfl, ?_⟩
    rw [List.length_map]
    refine ⟨by omega, by omega, ?_⟩
    rw [Int.toNat_natCast]
    refine for_range (lo := 0) (n := ns.length) (fun i σ H2 => ∃ (os : List Nat) (y1 y2 : Option V), σ = [some (.ref a), some (.ref o), y1, y2] ∧ os.Perm (List.range i) ∧ os.Pairwise (Dear (pr ns)) ∧ Same H H2 ∧ H2 o = some (.lst (nv os))) ⟨[], none, none, rfl, List.Perm.refl _, List.Pairwise.nil, s1, upd_same⟩ ?_ ?_
    · rintro i σ H2 hi ⟨os, y1, y2, rfl, hp, hw, s, hD⟩
      have hol : os.length = i := by
        rw [hp.length_eq, List.length_range]
      have hlt : ∀ x ∈ os, x < i := fun x hx => List.mem_range.mp (hp.mem_iff.mp hx)
      have hL : SqL K H2 o (nv os) := lst_l hD
      have hA : SqL K H2 a (ns.map V.int) := s.seq hS
      -- at = len(order)
      refine ⟨.ref o, rfl, o, _, rfl, .inl hL, ?_⟩
      rw [nv_len]
      -- while at > 0 and prices[order[at - 1]] < prices[thing]
      refine ⟨fun m σ H3 => H3 = H2 ∧ m ≤ os.length ∧ (∀ j x, m ≤ j → os[j]? = some x → pr ns x < pr ns i) ∧ σ = [some (.ref a), some (.ref o), some (.int (0 + (i : Int))), some (.int (m : Int))], ⟨os.length, rfl, Nat.le_refl _, fun j x hj hx => ?_, rfl⟩, ?_⟩
      · have := (List.getElem?_eq_some_iff.mp hx).1
        omega
      · rintro m σ H3 ⟨rfl, hm, hall, rfl⟩
        have fin : ∀ (hb : m = 0 ∨ ∃ y, os[m - 1]? = some y ∧ ¬ pr ns y < pr ns i), ∃ (os' : List Nat) (y1 y2 : Option V), [some (V.ref a), some (V.ref o), some (V.int (0 + (i : Int))), some (V.int (m : Int))] = [some (.ref a), some (.ref o), y1, y2] ∧ os'.Perm (List.range (i + 1)) ∧ os'.Pairwise (Dear (pr ns)) ∧ Same H (upd H3 o (.lst ((nv os).take (m : Int).toNat ++ [V.int (0 + (i : Int))] ++ (nv os).drop (m : Int).toNat))) ∧ (upd H3 o (.lst ((nv os).take (m : Int).toNat ++ [V.int (0 + (i : Int))] ++ (nv os).drop (m : Int).toNat))) o = some (.lst (nv os')) := fun hb =>
          ⟨os.take m ++ [i] ++ os.drop m, _, _, rfl, perm_insert hp, dear_insert hw hlt hall hb, same_mut s no, by rw [upd_same, Int.toNat_natCast, Int.zero_add, nv_ins]⟩
        refine ⟨_, rfl, _, _, rfl, rfl, _, rfl, ite2 (fun e => ?_) (fun e => ?_)⟩
        · have hm0 : 0 < m := by
            have := of_decide_eq_true e
            omega
          obtain ⟨x, hx⟩ : ∃ x, os[m - 1]? = some x := ⟨os[m - 1], List.getElem?_eq_getElem (by omega)⟩
          have hxi : x < i := hlt x (List.mem_of_getElem? hx)
          refine ⟨.ref a, rfl, .ref o, rfl, _, rfl, _, _, rfl, rfl, o, _, _, _, rfl, rfl, hL, at_of (j := m - 1) (by omega) (nv_at hx), a, _, _, _, rfl, rfl, hA, atI_nat (int_at (pr_at (by omega))),
            .ref a, rfl, .int (0 + (i : Int)), rfl, a, _, _, _, rfl, rfl, hA, at_of (Int.zero_add _) (int_at (pr_at hi)), _, _, rfl, rfl, _, rfl, ite2 (fun e2 => ?_) (fun e2 => ?_)⟩
          · have e2 := of_decide_eq_true e2
            refine ⟨fun σ' H' => H' = H3 ∧ σ' = [some (.ref a), some (.ref o), some (.int (0 + (i : Int))), some (.int (((m - 1 : Nat) : Nat) : Int))], fun σ' H' h => ⟨m - 1, by omega, h.1, by omega, fun j y hj hy => ?_, h.2⟩, ?_⟩
            · by_cases hjm : j = m - 1
              · subst hjm
                rw [hx] at hy
                cases hy
                exact e2
              · exact hall j y (by omega) hy
            · refine ⟨_, rfl, _, _, rfl, rfl, rfl, ?_⟩
              rw [show (((m - 1 : Nat) : Nat) : Int) = (m : Int) - 1 by omega]
              rfl
          · have e2 : ¬ pr ns x < pr ns i := fun z => e2 (decide_eq_true z)
            refine ⟨.ref o, rfl, .inl ⟨rfl, _, hL⟩, _, rfl, _, rfl, o, _, _, _, rfl, rfl, hD, ?_, by omega, by omega, fin (.inr ⟨x, hx, e2⟩)⟩
            rw [nv_len]
            exact small1000 (by omega)
        · have hm0 : m = 0 := by
            have : ¬ (0 : Int) < (m : Int) := fun z => e (decide_eq_true z)
            omega
          refine ⟨.ref o, rfl, .inl ⟨rfl, _, hL⟩, _, rfl, _, rfl, o, _, _, _, rfl, rfl, hD, ?_, by omega, by omega, fin (.inl hm0)⟩
          rw [nv_len]
          exact small1000 (by omega)
    · rintro σ H2 ⟨os, y1, y2, rfl, hp, hw, s, hD⟩
      exact ⟨.ref o, rfl, o, _, rfl, .inl ⟨lst_l hD, fun p np => q os _ p hp hw (same_mut s (s.free np)) (s.free np) upd_same⟩⟩
def sp__law_cell (K : PySem.W.Frag) : Sp := fun vs H Q _ => ∃ (a : Addr) (ns : List Int) (j : Nat), vs = [.ref a, .int (j : Int)] ∧ SqL K H a (ns.map V.int) ∧ ∀ v : Int, Q (.int v) H
theorem ok__law_cell {f : Addr} {fd : FuncData} (F : Fun K "_law_cell" "_law_cell" s__law_cell f fd) (m_int : mg "int" = none) (m_len : mg "len" = none) : FnOk P w K mg base CX0 1 f fd ["_law_script", "_law_place"] (sp__law_cell K) := by
  refine F.ok sc__law_cell (fun vs H Q E h => ?_) (fun cdv A outer s H vs Q E hr h => ?_)
  · obtain ⟨a, ns, j, rfl, _⟩ := h
    rfl
  · obtain ⟨a, ns, j, rfl, hS, q⟩ := h
    refine ⟨_, (pss_cons (ps_if (pt_cmpR op_lt (pv 1) (pe_callB call_len_seq (by rfl) m_len (by decide +kernel) (pa_cons (pv 0) pa_nil)) (nomark _)) (pss_one (ps_ret (pe_callTy call_int1 (by rfl) m_int (by decide +kernel) (pa_cons (pe_ix ix_list (pv 0) (pv 1) (fun _ _ => rfl)) pa_nil)))) pss_nil)
      (pss_one (ps_ret pe_int))), ?_⟩
    refine ⟨_, rfl, .ref a, rfl, a, _, rfl, .inl hS, _, _, rfl, rfl, _, rfl, ite2 (fun e => ?_) (fun _ => q 0)⟩
    have hj : j < ns.length := by
      have e := of_decide_eq_true e
      rw [List.length_map] at e
      omega
    exact ⟨.ref a, rfl, .int (j : Int), rfl, a, _, _, _, rfl, rfl, hS, atI_nat (int_at (List.getElem?_eq_getElem hj)), .inl ⟨_, rfl, q _⟩⟩
def sp__law_draws (K : PySem.W.Frag) : Sp := fun vs H Q _ => ∃ (c : Int) (a : Addr) (ns : List Int), vs = [.int c, .ref a] ∧ SqL K H a (ns.map V.int) ∧ (∀ n ∈ ns, 0 < n ∧ n < 2 ^ 100) ∧ ns.length ≤ 1000 ∧
  ∀ ds H' p, Within ds ns → Same H H' → H p = none → H' p = some (.lst (ds.map V.int)) → Q (.ref p) H'

theorem ok__law_draws {f : Addr} {fd : FuncData} (F : Fun K "_law_draws" "_law_draws" s__law_draws f fd) (m_int : mg "int" = none) (m_len : mg "len" = none) (m_range : mg "range" = none) : FnOk P w K mg base CX0 1 f fd ["_law_cell_here", "_law_sizes"] (sp__law_draws K) := by
  refine F.ok sc__law_draws (fun vs H Q E h => ?_) (fun cdv A outer s H vs Q E hr h => ?_)
  · obtain ⟨c, a, ns, rfl, _⟩ := h
    rfl
  · obtain ⟨c, a, ns, rfl, hS, hn, hlen, q⟩ := h
    refine ⟨_, (pss_cons (ps_if (pt_cmpR op_eq (pv 0) pe_int (nomark _)) (pss_one (ps_ret (pe_lc (own := [("_law_size", 2)]) (g := gName 2) (tt := tYes) rfl sc__law_draws.nd (pi_list (pv 1)) (blkOk_by (own := [("_law_size", 2)]) (N := ["_law_cell_here", "_law_sizes", "_law_size", "_law_left", "_law_found", "_law_k", "_law_low", "_law_high"]) (sc := defScope s__law_draws) (by decide +kernel)) (fun _ _ _ _ _ => (pg_name (i := 2) sc__law_draws.nd rfl (Or.inl rfl))) (fun _ _ _ _ _ => pts_nil) (fun _ _ _ _ _ => pe_int)))) pss_nil)
      (pss_cons (ps_if (pt_cmpR op_ge (pv 0) (pe_op op_pow pe_int pe_int) (nomark _)) (pss_cons (ps_set (i := 3) sc__law_draws.nd rfl (Or.inl rfl) (pe_op op_sub (pv 0) (pe_op op_pow pe_int pe_int)))
      (pss_cons (ps_set (i := 4) sc__law_draws.nd rfl (Or.inl rfl) (pe_lst pa_nil))
      (pss_cons (ps_for PassesOwn.never rfl (pi_list (pv 1)) (pg_name (i := 2) sc__law_draws.nd rfl (Or.inl rfl))
      (pss_cons (ps_expr (pe_bm PySem.F.plainAttrs_list PySem.F.slot_list_append PySem.F.type_list_append mt_append (pv 4) (pa_cons (pe_op op_mod (pe_callTy call_int1 (by rfl) m_int (by decide +kernel) (pa_cons (pv 3) pa_nil)) (pv 2)) pa_nil)))
      (pss_one (ps_set (i := 3) sc__law_draws.nd rfl (Or.inl rfl) (pe_op op_fdivW (pv 3) (pv 2))))))
      (pss_one (ps_ret (pv 4)))))) pss_nil)
      (pss_cons (ps_set (i := 4) sc__law_draws.nd rfl (Or.inl rfl) (pe_lst pa_nil))
      (pss_cons (ps_for PassesOwn.never rfl (pi_range1 (by rfl) m_range (pa_cons (pe_callB call_len_seq (by rfl) m_len (by decide +kernel) (pa_cons (pv 1) pa_nil)) pa_nil)) (pg_name (i := 5) sc__law_draws.nd rfl (Or.inl rfl))
      (pss_cons (ps_set (i := 6) sc__law_draws.nd rfl (Or.inl rfl) (pe_op op_mod (pe_callTy call_int1 (by rfl) m_int (by decide +kernel) (pa_cons (pe_op op_add (pe_op op_mul (pv 0) pe_int) (pe_op op_mul (pe_op op_add (pv 5) pe_int) pe_int)) pa_nil)) pe_int))
      (pss_cons (ps_set (i := 6) sc__law_draws.nd rfl (Or.inl rfl) (pe_op op_mod (pe_callTy call_int1 (by rfl) m_int (by decide +kernel) (pa_cons (pe_op op_add (pe_op op_mul (pv 6) pe_int) (pe_op op_mul (pe_op op_add (pv 5) pe_int) pe_int)) pa_nil)) pe_int))
      (pss_cons (ps_set (i := 7) sc__law_draws.nd rfl (Or.inl rfl) (pe_op op_mod (pe_callTy call_int1 (by rfl) m_int (by decide +kernel) (pa_cons (pe_op op_add (pe_op op_mul (pv 0) pe_int) (pe_op op_mul (pe_op op_add (pv 5) pe_int) pe_int)) pa_nil)) pe_int))
      (pss_cons (ps_set (i := 7) sc__law_draws.nd rfl (Or.inl rfl) (pe_op op_mod (pe_callTy call_int1 (by rfl) m_int (by decide +kernel) (pa_cons (pe_op op_add (pe_op op_mul (pv 7) pe_int) (pv 6)) pa_nil)) pe_int))
      (pss_one (ps_expr (pe_bm PySem.F.plainAttrs_list PySem.F.slot_list_append PySem.F.type_list_append mt_append (pv 4) (pa_cons (pe_op op_mod (pe_callTy call_int1 (by rfl) m_int (by decide +kernel) (pa_cons (pe_op op_add (pe_op op_mul (pv 7) pe_int) (pv 6)) pa_nil)) (pe_ix ix_list (pv 1) (pv 5) (fun _ _ => rfl))) pa_nil)))))))))
      (pss_one (ps_ret (pv 4))))))), ?_⟩
    have small : ∀ {ds : List Int} {i : Nat}, Within ds (ns.take i) → (ds.map V.int).length < sizeLine := fun {ds i} w => by
      rw [List.length_map, w.len, List.length_take]
      exact small1000 (by omega)
    refine ⟨_, rfl, rfl, _, rfl, ite2 (fun _ => ?_) (fun _ => ?_)⟩
    · -- [0 for size in sizes]
      refine ⟨.ref a, rfl, a, rfl, ⟨_, hS⟩, fun D nD => lc_list (K := K) (a := a) (xs := ns.map V.int) (fun i H2 => ∃ ds : List Int, Same H H2 ∧ H2 D = some (.lst (ds.map V.int)) ∧ Within ds (ns.take i)) ⟨[], same_upd nD, upd_same, Within.zero ns⟩ (fun i H2 _ ⟨_, s, _⟩ => s.seq hS) ?_ ?_⟩
      · rintro i x H2 hi ⟨ds, s, hD, w⟩
        obtain ⟨n, rfl, hin⟩ := int_of hi
        refine ⟨rfl, ?_⟩
        refine lc_yes ?_
        refine iteT ?_
        exact ⟨_, hD, small w, ds ++ [0], same_mut s nD, by rw [upd_same, ← snoc_int], w.step hin (Int.le_refl 0) (hn n (List.mem_of_getElem? hin)).1⟩
      · rintro H2 ⟨ds, s, hD, w⟩
        rw [List.length_map] at w
        exact q ds H2 D w.full s nD hD
    refine ⟨_, rfl, 10, 18, rfl, rfl, ⟨by decide, by decide, by decide⟩, _, _, rfl, rfl, _, rfl, ite2 (fun _ => ?_) (fun _ => ?_)⟩
    · -- left = cell - 10 ** 18; found = []
      refine ⟨_, rfl, 10, 18, rfl, rfl, ⟨by decide, by decide, by decide⟩, _, _, rfl, rfl, ?_⟩
      refine ⟨Nat.zero_le _, fun o no => ?_⟩
      have s1 : Same H (upd H o (.lst [])) := same_upd no
      refine ⟨.ref a, rfl, a, rfl, ⟨_, s1.seq hS⟩, for_list (K := K) (a := a) (xs := ns.map V.int) (fun i σ H2 => ∃ (ds : List Int) (l : Int) (y : Option V), σ = [some (.int c), some (.ref a), y, some (.int l), some (.ref o), none, none, none] ∧ Same H H2 ∧ H2 o = some (.lst (ds.map V.int)) ∧ Within ds (ns.take i))
        ⟨[], _, none, rfl, s1, upd_same, Within.zero ns⟩ (fun i σ H2 _ ⟨_, _, _, _, s, _⟩ => s.seq hS) ?_ ?_⟩
      · rintro i x σ H2 hi ⟨ds, l, y, rfl, s, hD, w⟩
        obtain ⟨n, rfl, hin⟩ := int_of hi
        obtain ⟨n0, n1⟩ := hn n (List.mem_of_getElem? hin)
        refine ⟨.ref o, rfl, .inl ⟨rfl, _, lst_l hD⟩, _, rfl, .inl ⟨l, rfl, _, rfl, _, _, rfl, rfl, n0, o, _, _, rfl, rfl, hD, small w, ?_⟩⟩
        refine ⟨_, rfl, _, rfl, _, _, rfl, rfl, w_div n0 n1, ds ++ [l % n], _, _, rfl, same_mut s no, by rw [upd_same, ← snoc_int], w.step hin (Int.emod_nonneg _ (by omega)) (Int.emod_lt_of_pos _ n0)⟩
      · rintro σ H2 ⟨ds, l, y, rfl, s, hD, w⟩
        rw [List.length_map] at w
        exact ⟨_, rfl, q ds H2 o w.full s no hD⟩
    · refine ⟨Nat.zero_le _, fun o no => ?_⟩
      have s1 : Same H (upd H o (.lst [])) := same_upd no
      refine ⟨.ref a, rfl, a, _, rfl, .inl (s1.seq hS), _, rfl, ?_⟩
      rw [List.length_map]
      refine ⟨by omega, by omega, ?_⟩
      rw [Int.toNat_natCast]
      refine for_range (lo := 0) (n := ns.length) (fun i σ H2 => ∃ (ds : List Int) (y1 y2 y3 : Option V), σ = [some (.int c), some (.ref a), none, none, some (.ref o), y1, y2, y3] ∧ Same H H2 ∧ H2 o = some (.lst (ds.map V.int)) ∧ Within ds (ns.take i))
        ⟨[], none, none, none, rfl, s1, upd_same, Within.zero ns⟩ ?_ ?_
      · rintro i σ H2 hi ⟨ds, y1, y2, y3, rfl, s, hD, w⟩
        have hin : ns[i]? = some ns[i] := List.getElem?_eq_getElem hi
        obtain ⟨n0, n1⟩ := hn ns[i] (List.getElem_mem hi)
        refine ⟨_, rfl, _, _, rfl, rfl, .inr ⟨by decide, by decide⟩, _, rfl, _, _, rfl, rfl, _, _, rfl, rfl, .inr ⟨by decide, by decide⟩, _, _, rfl, rfl, .inl ⟨_, rfl, _, _, rfl, rfl, (show (0 : Int) < 2147483647 by decide), ?_⟩⟩
        refine ⟨_, rfl, _, _, rfl, rfl, .inr ⟨by decide, by decide⟩, _, rfl, _, _, rfl, rfl, _, _, rfl, rfl, .inr ⟨by decide, by decide⟩, _, _, rfl, rfl, .inl ⟨_, rfl, _, _, rfl, rfl, (show (0 : Int) < 2147483399 by decide), ?_⟩⟩
        refine ⟨_, rfl, _, _, rfl, rfl, .inr ⟨by decide, by decide⟩, _, rfl, _, _, rfl, rfl, _, _, rfl, rfl, .inr ⟨by decide, by decide⟩, _, _, rfl, rfl, .inl ⟨_, rfl, _, _, rfl, rfl, (show (0 : Int) < 2147483563 by decide), ?_⟩⟩
        refine ⟨_, rfl, _, _, rfl, rfl, .inr ⟨by decide, by decide⟩, _, rfl, _, _, rfl, rfl, .inl ⟨_, rfl, _, _, rfl, rfl, (show (0 : Int) < 2147483587 by decide), ?_⟩⟩
        refine ⟨.ref o, rfl, .inl ⟨rfl, _, lst_l hD⟩, _, rfl, _, _, rfl, rfl, .inr ⟨by decide, by decide⟩, _, rfl, _, _, rfl, rfl, .inl ⟨_, rfl, .ref a, rfl, .int (0 + (i : Int)), rfl, a, _, _, _, rfl, rfl, s.seq hS, at_of (Int.zero_add _) (int_at hin), _, _, rfl, rfl, n0, o, _, _, rfl, rfl, hD, small w, ?_⟩⟩
        exact ⟨ds ++ [_], _, _, _, rfl, same_mut s no, by rw [upd_same, ← snoc_int], w.step hin (Int.emod_nonneg _ (by omega)) (Int.emod_lt_of_pos _ n0)⟩
      · rintro σ H2 ⟨ds, y1, y2, y3, rfl, s, hD, w⟩
        exact ⟨_, rfl, q ds H2 o w.full s no hD⟩
def sp__law_row (K : PySem.W.Frag) : Sp := fun vs H Q _ => ∃ (c : Int) (m : Nat), vs = [.int c, .int (m : Int)] ∧ m ≤ 900 ∧ ∀ (ns : List Int) (H' : Hp) (p : Addr), ns.length = m → (∀ n ∈ ns, 0 ≤ n ∧ n < 10 ^ 18 - 1) → Same H H' → H p = none → H' p = some (.lst (ns.map V.int)) → Q (.ref p) H'

theorem ok__law_row {f : Addr} {fd : FuncData} (F : Fun K "_law_row" "_law_row" s__law_row f fd) (m_int : mg "int" = none) (m_range : mg "range" = none) (c__law_draws : Cal P w K mg base 1 "_law_draws" ["_law_cell_here", "_law_sizes"] (sp__law_draws K)) : FnOk P w K mg base CX0 2 f fd ["_law_cell_here", "_law_count"] (sp__law_row K) := by
  refine F.ok sc__law_row (fun vs H Q E h => ?_) (fun cdv A outer s H vs Q E hr h => ?_)
  · obtain ⟨c, m, rfl, _⟩ := h
    rfl
  · obtain ⟨c, m, rfl, hm, q⟩ := h
    obtain ⟨f__law_draws, fd__law_draws, G__law_draws, m__law_draws, k__law_draws, b__law_draws⟩ := c__law_draws
    refine ⟨_, (pss_cons (ps_set (i := 2) sc__law_row.nd rfl (Or.inl rfl) (pe_call G__law_draws (hr.mono (by decide)) (by rfl) m__law_draws k__law_draws b__law_draws .nil pass0 (pa_cons (pv 0) (pa_cons (pe_op op_cat (pe_lst (pa_cons pe_int pa_nil)) (pe_lc (own := [("_law_k", 5)]) (g := gName 5) (tt := tYes) rfl sc__law_row.nd (pi_range1 (by rfl) m_range (pa_cons (pv 1) pa_nil)) (blkOk_by (own := [("_law_k", 5)]) (N := ["_law_cell_here", "_law_count", "_law_drawn", "_law_bound", "_law_value", "_law_k"]) (sc := defScope s__law_row) (by decide +kernel)) (fun _ _ _ _ _ => (pg_name (i := 5) sc__law_row.nd rfl (Or.inl rfl))) (fun _ _ _ _ _ => pts_nil) (fun _ _ _ _ _ => (pe_op op_pow pe_int pe_int)))) pa_nil))))
      (pss_cons (ps_set (i := 3) sc__law_row.nd rfl (Or.inr rfl) (pe_ix ix_list (pe_lst (pa_cons pe_int (pa_cons pe_int (pa_cons (pe_op op_pow pe_int pe_int) (pa_cons (pe_op op_sub (pe_op op_pow pe_int pe_int) pe_int) pa_nil))))) (pe_ix ix_list (pv 2) pe_int (fun _ _ => rfl)) (fun _ _ => rfl)))
      (pss_one (ps_ret (pe_lc (own := [("_law_value", 4)]) (g := gName 4) (tt := tYes) rfl sc__law_row.nd (pi_list (pe_slice sl_list (pv 2) (po_some pe_int) po_none)) (blkOk_by (own := [("_law_value", 4)]) (N := ["_law_cell_here", "_law_count", "_law_drawn", "_law_bound", "_law_value", "_law_k"]) (sc := defScope s__law_row) (by decide +kernel)) (fun _ _ _ _ _ => (pg_name (i := 4) sc__law_row.nd rfl (Or.inl rfl))) (fun _ _ _ _ _ => pts_nil) (fun _ _ _ _ _ => (pe_op op_mod (pe_callTy call_int1 (by rfl) m_int (by decide +kernel) (pa_cons (pv 4) pa_nil)) (pv 3)))))))), ?_⟩
    -- draws(cell, [4] + [10 ** 18 for k in range(count)])
    refine ⟨_, rfl, small1000 (by decide), fun p1 n1 => ?_⟩
    have s1 : Same H (upd H p1 (.lst [V.int 4])) := same_upd n1
    refine ⟨_, rfl, _, rfl, by omega, by omega, ?_⟩
    rw [Int.toNat_natCast]
    refine fun D nD => lc_range (lo := 0) (n := m) (fun i H2 => Same (upd H p1 (.lst [V.int 4])) H2 ∧ H2 D = some (.lst ((List.replicate i (10 ^ 18 : Int)).map V.int))) ⟨same_upd nD, upd_same⟩ ?_ ?_
    · rintro i H2 hi ⟨s, hD⟩
      refine ⟨rfl, ?_⟩
      refine lc_yes ?_
      refine iteT ?_
      refine ⟨10, 18, rfl, rfl, ⟨by decide, by decide, by decide⟩, _, hD, ?_, same_mut s nD, ?_⟩
      · rw [List.length_map, List.length_replicate]
        exact small1000 (by omega)
      · rw [upd_same, List.replicate_succ', ← snoc_int]
        rfl
    rintro H2 ⟨s2, hD⟩
    refine ⟨p1, D, _, _, rfl, rfl, s2 _ _ upd_same, hD, ?_, fun p3 n3 => ?_⟩
    · rw [List.length_map, List.length_replicate]
      exact Nat.le_of_lt (small1000 (by show 1 + m ≤ 1000; omega))
    have s3 : Same H (upd H2 p3 (.lst ((4 :: List.replicate m (10 ^ 18 : Int)).map V.int))) := (s1.trans s2).trans (same_upd n3)
    refine ⟨c, p3, 4 :: List.replicate m (10 ^ 18 : Int), rfl, lst_l upd_same, ?_, ?_, fun ds H4 d w s4 nd hd => ?_⟩
    · intro n hn
      rcases List.mem_cons.mp hn with rfl | hn
      · decide
      · rw [(List.mem_replicate.mp hn).2]
        exact big18
    · rw [List.length_cons, List.length_replicate]
      omega
    obtain ⟨d0, r, rfl, l0, u0, w⟩ := w.c
    have hr : r.length = m := by
      rw [w.len, List.length_replicate]
    have hL : SqL K H4 d ((d0 :: r).map V.int) := lst_l hd
    have sH : Same H H4 := s3.trans s4
    -- bound = [4, 30, 10 ** 9, 10 ** 18 - 1][drawn[0]]
    refine ⟨10, 9, rfl, rfl, ⟨by decide, by decide, by decide⟩, 10, 18, rfl, rfl, ⟨by decide, by decide, by decide⟩, _, _, rfl, rfl, small1000 (by decide), fun p5 n5 => ?_⟩
    obtain ⟨b, hb, b0, b1⟩ : ∃ b : Int, atI [V.int 4, V.int 30, V.int (10 ^ 9), V.int (10 ^ 18 - 1)] d0 = some (V.int b) ∧ 0 < b ∧ b ≤ 10 ^ 18 - 1 := by
      rcases (by omega : d0 = 0 ∨ d0 = 1 ∨ d0 = 2 ∨ d0 = 3) with rfl | rfl | rfl | rfl
      · exact ⟨4, rfl, by decide, by decide⟩
      · exact ⟨30, rfl, by decide, by decide⟩
      · exact ⟨10 ^ 9, rfl, by decide, by decide⟩
      · exact ⟨10 ^ 18 - 1, rfl, by decide, by decide⟩
    have s5 := same_upd (o := .lst [V.int 4, V.int 30, V.int (10 ^ 9), V.int (10 ^ 18 - 1)]) n5
    refine ⟨.ref d, rfl, d, _, _, .int d0, rfl, rfl, s5.seq hL, atI_nat (j := 0) rfl, p5, _, _, .int b, rfl, rfl, lst_l upd_same, hb, ?_⟩
    -- [int(value) % bound for value in drawn[1:]]
    refine ⟨.ref d, rfl, 1, rfl, d, _, rfl, s5.seq hL, fun p6 n6 => ?_⟩
    rw [cut_from1]
    have s6 := same_upd (o := .lst (((d0 :: r).map V.int).drop 1)) n6
    have sT : Same H _ := (sH.trans s5).trans s6
    refine ⟨p6, rfl, ⟨r.map V.int, lst_l upd_same⟩, fun D nD => lc_list (K := K) (a := p6) (xs := r.map V.int) (fun i H2 => Same (upd (upd H4 p5 (.lst [V.int 4, V.int 30, V.int (10 ^ 9), V.int (10 ^ 18 - 1)])) p6 (.lst (((d0 :: r).map V.int).drop 1))) H2 ∧ H2 D = some (.lst (((r.take i).map fun v => v % b).map V.int))) ⟨same_upd nD, upd_same⟩ (fun i H2 _ ⟨s, _⟩ => s.seq (lst_l upd_same)) ?_ ?_⟩
    · rintro i x H2 hi ⟨s, hD⟩
      obtain ⟨n, rfl, hin⟩ := int_of hi
      refine ⟨rfl, ?_⟩
      refine lc_yes ?_
      refine iteT ?_
      refine ⟨_, rfl, .inl ⟨n, rfl, _, rfl, _, _, rfl, rfl, b0, _, hD, ?_, same_mut s nD, ?_⟩⟩
      · rw [List.length_map, List.length_map, List.length_take]
        exact small1000 (by omega)
      · rw [upd_same, List.take_add_one, hin, List.map_append, List.map_append]
        rfl
    · rintro H2 ⟨s, hD⟩
      rw [List.length_map, List.take_length] at hD
      refine q (r.map fun v => v % b) H2 D (by rw [List.length_map, hr]) ?_ (sT.trans s) (sT.free nD) hD
      intro n hn
      obtain ⟨x, _, rfl⟩ := List.mem_map.mp hn
      have h1 := Int.emod_nonneg x (show b ≠ 0 by omega)
      have h2 := Int.emod_lt_of_pos x b0
      omega
def sp__law_is_int : Sp := fun vs H Q _ => ∃ v : Int, vs = [.int v] ∧ Q (.bl true) H
theorem ok__law_is_int {f : Addr} {fd : FuncData} (F : Fun K "_law_is_int" "_law_is_int" s__law_is_int f fd) (m_bool : mg "bool" = none) (m_int : mg "int" = none) (m_isinstance : mg "isinstance" = none) : FnOk P w K mg base CX0 1 f fd ["_law_x"] sp__law_is_int := by
  refine F.ok sc__law_is_int (fun vs H Q E h => ?_) (fun cdv A outer s H vs Q E hr h => ?_)
  · obtain ⟨v, rfl, _⟩ := h
    rfl
  · obtain ⟨v, rfl, q⟩ := h
    refine ⟨_, (pss_one (ps_ret (pe_and (pe_callB call_isi (by rfl) m_isinstance (by decide +kernel) (pa_cons (pv 0) (pa_cons (pe_bltn (v := .ty "int") (by rfl) m_int (by decide +kernel) rfl) pa_nil))) (pe_one (pe_not (pe_callB call_isi (by rfl) m_isinstance (by decide +kernel) (pa_cons (pv 0) (pa_cons (pe_bltn (v := .ty "bool") (by rfl) m_bool (by decide +kernel) rfl) pa_nil)))))))), ?_⟩
    exact ⟨_, rfl, .int v, .ty "int", _, _, true, rfl, .ty "int", .base (.int v), kit_ty kI, true, rfl, iteT ⟨_, rfl, .int v, .ty "bool", _, _, false, rfl, .ty "bool", .base (.int v), kit_ty kB, false, rfl, q⟩⟩
def sp__law_right (K : PySem.W.Frag) : Sp := fun vs H Q _ => ∃ (o a : Addr) (os : List Nat) (ns : List Int), vs = [.ref o, .ref a] ∧ H o = some (.tup (nv os)) ∧ SqL K H a (ns.map V.int) ∧ ns.length ≤ 900 ∧ os.Perm (List.range ns.length) ∧ os.Pairwise (Dear (pr ns)) ∧ Q (.bl true) H

theorem ok__law_right {f : Addr} {fd : FuncData} (F : Fun K "_law_right" "_law_right" s__law_right f fd) (m_isinstance : mg "isinstance" = none) (m_len : mg "len" = none) (m_range : mg "range" = none) (m_tuple : mg "tuple" = none) (c__law_is_int : Cal P w K mg base 1 "_law_is_int" ["_law_x"] sp__law_is_int) : FnOk P w K mg base CX0 2 f fd ["_law_order", "_law_prices"] (sp__law_right K) := by
  refine F.ok sc__law_right (fun vs H Q E h => ?_) (fun cdv A outer s H vs Q E hr h => ?_)
  · obtain ⟨o, a, os, ns, rfl, _⟩ := h
    rfl
  · obtain ⟨o, a, os, ns, rfl, hO, hS, hlen, hp, hw, q⟩ := h
    obtain ⟨f__law_is_int, fd__law_is_int, G__law_is_int, m__law_is_int, k__law_is_int, b__law_is_int⟩ := c__law_is_int
    refine ⟨_, (pss_cons (ps_if (PW.pt (pw_or (pt_not (pt_val (pe_callB call_isi (by rfl) m_isinstance (by decide +kernel) (pa_cons (pv 0) (pa_cons (pe_bltn (v := .ty "tuple") (by rfl) m_tuple (by decide +kernel) rfl) pa_nil))))) (pw_or1 (pt_cmpR op_ne (pe_callB call_len_seq (by rfl) m_len (by decide +kernel) (pa_cons (pv 0) pa_nil)) (pe_callB call_len_seq (by rfl) m_len (by decide +kernel) (pa_cons (pv 1) pa_nil)) (nomark _))))) (pss_one (ps_ret pe_bl)) pss_nil)
      (pss_cons (ps_for PassesOwn.never rfl (pi_tup (pv 0)) (pg_name (i := 2) sc__law_right.nd rfl (Or.inl rfl))
      (pss_one (ps_if (pt_not (pt_val (pe_call G__law_is_int (hr.mono (by decide)) (by rfl) m__law_is_int k__law_is_int b__law_is_int .nil pass0 (pa_cons (pv 2) pa_nil)))) (pss_one (ps_ret pe_bl)) pss_nil)))
      (pss_cons (ps_for PassesOwn.never rfl (pi_range1 (by rfl) m_range (pa_cons (pe_callB call_len_seq (by rfl) m_len (by decide +kernel) (pa_cons (pv 1) pa_nil)) pa_nil)) (pg_name (i := 2) sc__law_right.nd rfl (Or.inl rfl))
      (pss_one (ps_if (pt_cmpR op_notIn_seq (pv 2) (pv 0) (by rfl)) (pss_one (ps_ret pe_bl)) pss_nil)))
      (pss_cons (ps_for PassesOwn.never rfl (pi_range2 (by rfl) m_range (pa_cons pe_int (pa_cons (pe_callB call_len_seq (by rfl) m_len (by decide +kernel) (pa_cons (pv 0) pa_nil)) pa_nil))) (pg_name (i := 3) sc__law_right.nd rfl (Or.inl rfl))
      (pss_cons (ps_set (i := 4) sc__law_right.nd rfl (Or.inl rfl) (pe_ix ix_list (pv 1) (pe_ix ix_tup (pv 0) (pe_op op_sub (pv 3) pe_int) (fun _ _ => rfl)) (fun _ _ => rfl)))
      (pss_one (ps_if (PW.pt (pw_or (pt_cmpR op_lt (pv 4) (pe_ix ix_list (pv 1) (pe_ix ix_tup (pv 0) (pv 3) (fun _ _ => rfl)) (fun _ _ => rfl)) (nomark _)) (pw_or1 (PW.pt (pw_and (pt_cmpR op_eq (pv 4) (pe_ix ix_list (pv 1) (pe_ix ix_tup (pv 0) (pv 3) (fun _ _ => rfl)) (fun _ _ => rfl)) (nomark _)) (pw_and1 (pt_cmpR op_gt (pe_ix ix_tup (pv 0) (pe_op op_sub (pv 3) pe_int) (fun _ _ => rfl)) (pe_ix ix_tup (pv 0) (pv 3) (fun _ _ => rfl)) (nomark _)))))))) (pss_one (ps_ret pe_bl)) pss_nil))))
      (pss_one (ps_ret pe_bl)))))), ?_⟩
    have hT : SqT K H o (nv os) := tup_t hO
    have hol : os.length = ns.length := by
      rw [hp.length_eq, List.length_range]
    refine ⟨_, rfl, .ref o, .ty "tuple", _, _, true, rfl, .ty "tuple", .base (.tup hO), kit_ty kT, true, rfl, iteF ?_⟩
    refine ⟨.ref o, rfl, o, _, rfl, .inr hT, .ref a, rfl, a, _, rfl, .inl hS, rfl, _, rfl, iteNS (by rw [nv_len, List.length_map, hol]) ?_⟩
    refine ⟨.ref o, rfl, o, rfl, ⟨_, hT⟩, for_tup (K := K) (a := o) (xs := nv os) (fun i σ H2 => ∃ (y1 y2 y3 : Option V), σ = [some (.ref o), some (.ref a), y1, y2, y3] ∧ H2 = H) ⟨none, none, none, rfl, rfl⟩ (fun i σ H2 _ ⟨_, _, _, _, e⟩ => e ▸ hT) ?_ ?_⟩
    · rintro i x σ H2 hi ⟨y1, y2, y3, rfl, rfl⟩
      obtain ⟨t, rfl, ht⟩ := nv_of hi
      exact ⟨_, rfl, _, rfl, true, rfl, iteF ⟨_, _, _, rfl, rfl⟩⟩
    rintro σ H2 ⟨y1, y2, y3, rfl, rfl⟩
    refine ⟨.ref a, rfl, a, _, rfl, .inl hS, _, rfl, ?_⟩
    rw [List.length_map]
    refine ⟨by omega, by omega, ?_⟩
    rw [Int.toNat_natCast]
    refine for_range (lo := 0) (n := ns.length) (fun i σ H3 => ∃ (y1 y2 y3 : Option V), σ = [some (.ref o), some (.ref a), y1, y2, y3] ∧ H3 = H2) ⟨_, _, _, rfl, rfl⟩ ?_ ?_
    · rintro i σ H3 hi ⟨y1, y2, y3, rfl, rfl⟩
      refine ⟨.int (0 + (i : Int)), rfl, .ref o, rfl, o, _, rfl, .inr hT, rfl, nv_flat os, _, rfl, ?_⟩
      rw [Int.zero_add, nv_in (hp.mem_iff.mpr (List.mem_range.mpr hi))]
      exact iteF ⟨_, _, _, rfl, rfl⟩
    rintro σ H3 ⟨y1, y2, y3, rfl, rfl⟩
    refine ⟨.ref o, rfl, o, _, rfl, .inr hT, 1, _, rfl, ?_⟩
    rw [nv_len]
    refine ⟨by omega, ?_⟩
    refine for_range (lo := 1) (n := ((os.length : Int) - 1).toNat) (fun i σ H4 => ∃ (y1 y2 y3 : Option V), σ = [some (.ref o), some (.ref a), y1, y2, y3] ∧ H4 = H3) ⟨_, _, _, rfl, rfl⟩ ?_ ?_
    · rintro i σ H4 hi ⟨y1, y2, y3, rfl, rfl⟩
      have h1 : i < os.length := by omega
      have h2 : i + 1 < os.length := by omega
      have g1 : os[i]? = some os[i] := List.getElem?_eq_getElem h1
      have g2 : os[i + 1]? = some os[i + 1] := List.getElem?_eq_getElem h2
      have m1 : os[i] < ns.length := List.mem_range.mp (hp.mem_iff.mp (List.getElem_mem h1))
      have m2 : os[i + 1] < ns.length := List.mem_range.mp (hp.mem_iff.mp (List.getElem_mem h2))
      have hd : Dear (pr ns) os[i] os[i + 1] := List.pairwise_iff_getElem.mp hw i (i + 1) h1 h2 (by omega)
      refine ⟨.ref a, rfl, .ref o, rfl, _, rfl, _, _, rfl, rfl, o, _, _, _, rfl, rfl, hT, at_of (j := i) (by omega) (nv_at g1), a, _, _, _, rfl, rfl, hS, atI_nat (int_at (pr_at m1)), ?_⟩
      refine ⟨_, rfl, .ref a, rfl, .ref o, rfl, .int (1 + (i : Int)), rfl, o, _, _, _, rfl, rfl, hT, at_of (j := i + 1) (by omega) (nv_at g2), a, _, _, _, rfl, rfl, hS, atI_nat (int_at (pr_at m2)), _, _, rfl, rfl, _, rfl, ite2 (fun e => ?_) (fun e => ?_)⟩
      · have e := of_decide_eq_true e
        unfold Dear at hd
        omega
      · refine ⟨_, rfl, .ref a, rfl, .ref o, rfl, .int (1 + (i : Int)), rfl, o, _, _, _, rfl, rfl, hT, at_of (j := i + 1) (by omega) (nv_at g2), a, _, _, _, rfl, rfl, hS, atI_nat (int_at (pr_at m2)), rfl, _, rfl, ite2 (fun e2 => ?_) (fun e2 => ?_)⟩
        · have e2 := V.int.inj (of_decide_eq_true e2)
          refine ⟨.ref o, rfl, _, rfl, _, _, rfl, rfl, o, _, _, _, rfl, rfl, hT, at_of (j := i) (by omega) (nv_at g1), .ref o, rfl, .int (1 + (i : Int)), rfl, o, _, _, _, rfl, rfl, hT, at_of (j := i + 1) (by omega) (nv_at g2), _, _, rfl, rfl, _, rfl, ite2 (fun e3 => ?_) (fun e3 => ?_)⟩
          · have e3 := of_decide_eq_true e3
            unfold Dear at hd
            omega
          · exact ⟨_, _, _, rfl, rfl⟩
        · exact iteF ⟨_, _, _, rfl, rfl⟩
    rintro σ H4 ⟨y1, y2, y3, rfl, rfl⟩
    exact q
def sp_law (K : PySem.W.Frag) : Sp := fun vs H Q _ => ∃ (a : Addr) (ns : List Int), vs = [.ref a] ∧ SqL K H a (ns.map V.int) ∧ ns.length ≤ 63 ∧ ∀ H', Q (.bl true) H'

theorem ok_law {f : Addr} {fd : FuncData} (F : Fun K "law" "law" s_law f fd) (m_int : mg "int" = none) (m_list : mg "list" = none) (m_range : mg "range" = none) (c_dearest_order : Cal P w K mg base 1 "dearest_order" ["prices"] (sp_dearest_order K)) (c__law_cell : Cal P w K mg base 1 "_law_cell" ["_law_script", "_law_place"] (sp__law_cell K)) (c__law_draws : Cal P w K mg base 1 "_law_draws" ["_law_cell_here", "_law_sizes"] (sp__law_draws K)) (c__law_row : Cal P w K mg base 2 "_law_row" ["_law_cell_here", "_law_count"] (sp__law_row K)) (c__law_right : Cal P w K mg base 2 "_law_right" ["_law_order", "_law_prices"] (sp__law_right K)) : FnOk P w K mg base CX0 3 f fd ["_law_script"] (sp_law K) := by
  refine F.ok sc_law (fun vs H Q E h => ?_) (fun cdv A outer s H vs Q E hr h => ?_)
  · obtain ⟨a, ns, rfl, _⟩ := h
    rfl
  · obtain ⟨a, ns, rfl, hS, hlen, q⟩ := h
    obtain ⟨f_dearest_order, fd_dearest_order, G_dearest_order, m_dearest_order, k_dearest_order, b_dearest_order⟩ := c_dearest_order
    obtain ⟨f__law_cell, fd__law_cell, G__law_cell, m__law_cell, k__law_cell, b__law_cell⟩ := c__law_cell
    obtain ⟨f__law_draws, fd__law_draws, G__law_draws, m__law_draws, k__law_draws, b__law_draws⟩ := c__law_draws
    obtain ⟨f__law_row, fd__law_row, G__law_row, m__law_row, k__law_row, b__law_row⟩ := c__law_row
    obtain ⟨f__law_right, fd__law_right, G__law_right, m__law_right, k__law_right, b__law_right⟩ := c__law_right
    refine ⟨_, (pss_cons (ps_set (i := 1) sc_law.nd rfl (Or.inl rfl) (pe_call G__law_draws (hr.mono (by decide)) (by rfl) m__law_draws k__law_draws b__law_draws .nil pass0 (pa_cons (pe_call G__law_cell (hr.mono (by decide)) (by rfl) m__law_cell k__law_cell b__law_cell .nil pass0 (pa_cons (pv 0) (pa_cons pe_int pa_nil))) (pa_cons (pe_lst (pa_cons pe_int (pa_cons pe_int (pa_cons pe_int (pa_cons pe_int (pa_cons pe_int pa_nil)))))) pa_nil))))
      (pss_cons (ps_set (i := 2) sc_law.nd rfl (Or.inl rfl) (pe_ix ix_list (pv 1) pe_int (fun _ _ => rfl)))
      (Evl.pss_cut (ps_if (pt_cmpR op_eq (pe_ix ix_list (pv 1) pe_int (fun _ _ => rfl)) pe_int (nomark _)) (pss_one (ps_set (i := 2) sc_law.nd rfl (Or.inl rfl) (pe_ix ix_list (pv 1) pe_int (fun _ _ => rfl)))) pss_nil)
      (pss_cons (ps_set (i := 3) sc_law.nd rfl (Or.inr rfl) (pe_call G__law_row (hr.mono (by decide)) (by rfl) m__law_row k__law_row b__law_row .nil pass0 (pa_cons (pe_call G__law_cell (hr.mono (by decide)) (by rfl) m__law_cell k__law_cell b__law_cell .nil pass0 (pa_cons (pv 0) (pa_cons pe_int pa_nil))) (pa_cons (pv 2) pa_nil))))
      (Evl.pss_cut (ps_if (PW.pt (pw_and (pt_cmpR op_eq (pe_ix ix_list (pv 1) pe_int (fun _ _ => rfl)) pe_int (nomark _)) (pw_and1 (pt_cmpR op_gt (pv 2) pe_int (nomark _))))) (pss_cons (ps_set (i := 4) sc_law.nd rfl (Or.inr rfl) (pe_op op_mod (pe_callTy call_int1 (by rfl) m_int (by decide +kernel) (pa_cons (pe_ix ix_list (pv 1) pe_int (fun _ _ => rfl)) pa_nil)) (pv 2)))
      (pss_one (ps_set (i := 3) sc_law.nd rfl (Or.inr rfl) (pe_op op_cat (pe_slice sl_list (pv 3) po_none (po_some (pv 4))) (pe_lc (own := [("_law_k", 6)]) (g := gName 6) (tt := tYes) rfl sc_law.nd (pi_range1 (by rfl) m_range (pa_cons (pe_op op_sub (pv 2) (pv 4)) pa_nil)) (blkOk_by (own := [("_law_k", 6)]) (N := ["_law_script", "_law_ways", "_law_many", "_law_prices", "_law_place", "_law_passed", "_law_k"]) (sc := defScope s_law) (by decide +kernel)) (fun _ _ _ _ _ => (pg_name (i := 6) sc_law.nd rfl (Or.inl rfl))) (fun _ _ _ _ _ => pts_nil) (fun _ _ _ _ _ => (pe_ix (r := rIxL K) ix_list (pv 3) (pv 4) (fun _ _ => rfl)))))))) pss_nil)
      (pss_cons (ps_set (i := 5) sc_law.nd rfl (Or.inl rfl) (pe_callTy call_list_of (by rfl) m_list (by decide +kernel) (pa_cons (pv 3) pa_nil)))
      (pss_cons (ps_if (pt_not (pt_val (pe_call G__law_right (hr.mono (by decide)) (by rfl) m__law_right k__law_right b__law_right .nil pass0 (pa_cons (pe_call G_dearest_order (hr.mono (by decide)) (by rfl) m_dearest_order k_dearest_order b_dearest_order .nil pass0 (pa_cons (pv 5) pa_nil)) (pa_cons (pv 3) pa_nil))))) (pss_one (ps_ret pe_bl)) pss_nil)
      (pss_one (ps_ret (pe_and (pe_cmpR (op_eqD hr.units) (pv 5) (pv 3) (nomark _)) (pe_one (pe_call G__law_right (hr.mono (by decide)) (by rfl) m__law_right k__law_right b__law_right .nil pass0 (pa_cons (pe_call G_dearest_order (hr.mono (by decide)) (by rfl) m_dearest_order k_dearest_order b_dearest_order .nil pass0 (pa_cons (pv 5) pa_nil)) (pa_cons (pv 3) pa_nil)))))))))))))), ?_⟩
    refine ⟨.ref a, rfl, a, ns, 0, rfl, hS, fun c1 => ⟨small1000 (by decide), fun p1 n1 => ?_⟩⟩
    refine ⟨c1, p1, [4, 61, 7, 3, 60], rfl, lst_l upd_same, by decide, by decide, fun ds H1 d1 w s1 nd1 hd1 => ?_⟩
    obtain ⟨x0, r0, rfl, l0, u0, w⟩ := w.c
    obtain ⟨x1, r1, rfl, l1, u1, w⟩ := w.c
    obtain ⟨x2, r2, rfl, l2, u2, w⟩ := w.c
    obtain ⟨x3, r3, rfl, l3, u3, w⟩ := w.c
    obtain ⟨x4, r4, rfl, l4, u4, w⟩ := w.c
    cases w.n
    have s1 : Same H H1 := (same_upd n1).trans s1
    have nd1 : H d1 = none := (same_upd n1).free nd1
    have hL : SqL K H1 d1 ([x0, x1, x2, x3, x4].map V.int) := lst_l hd1
    refine ⟨.ref d1, rfl, d1, _, _, _, rfl, rfl, hL, atI_nat (j := 2) rfl, ?_⟩
    refine ⟨fun σ' H' => ∃ m : Nat, m ≤ 60 ∧ H' = H1 ∧ σ' = [some (.ref a), some (.ref d1), some (.int (m : Int)), none, none, none, none], ?_, ?_⟩
    · refine ⟨.ref d1, rfl, d1, _, _, _, rfl, rfl, hL, atI_nat (j := 0) rfl, rfl, _, rfl, ite2 (fun _ => ?_) (fun _ => ?_)⟩
      · refine ⟨.ref d1, rfl, d1, _, _, _, rfl, rfl, hL, atI_nat (j := 1) rfl, x1.toNat, by omega, rfl, ?_⟩
        rw [Int.toNat_of_nonneg l1]
        rfl
      · refine ⟨x2.toNat, by omega, rfl, ?_⟩
        rw [Int.toNat_of_nonneg l2]
        rfl
    rintro σ' H' ⟨m, hm, rfl, rfl⟩
    -- prices = row(cell(script, 1), many)
    refine ⟨.ref a, rfl, a, ns, 1, rfl, s1.seq hS, fun c2 => ⟨_, rfl, c2, m, rfl, by omega, fun ps H2 d2 hps bps s2 nd2 hd2 => ?_⟩⟩
    have hL2 : SqL K H2 d1 ([x0, x1, x2, x3, x4].map V.int) := s2.seq hL
    have hP : SqL K H2 d2 (ps.map V.int) := lst_l hd2
    refine ⟨fun σ' H'' => ∃ (p : Addr) (qs : List Int) (y : Option V), qs.length ≤ 60 ∧ Same H2 H'' ∧ SqL K H'' p (qs.map V.int) ∧ σ' = [some (.ref a), some (.ref d1), some (.int (m : Int)), some (.ref p), y, none, none], ?_, ?_⟩
    · refine ⟨.ref d1, rfl, d1, _, _, _, rfl, rfl, hL2, atI_nat (j := 3) rfl, rfl, _, rfl, ite2 (fun e => ?_) (fun e => iteF ?_)⟩
      · refine ⟨_, rfl, _, _, rfl, rfl, _, rfl, ite2 (fun e2 => ?_) (fun e2 => ?_)⟩
        · have hm0 := of_decide_eq_true e2
          refine ⟨.ref d1, rfl, d1, _, _, _, rfl, rfl, hL2, atI_nat (j := 4) rfl, .inl ⟨x4, rfl, _, rfl, _, _, rfl, rfl, hm0, ?_⟩⟩
          obtain ⟨k, hk⟩ : ∃ k : Nat, x4 % (m : Int) = (k : Int) := ⟨(x4 % (m : Int)).toNat, by
            have := Int.emod_nonneg x4 (show (m : Int) ≠ 0 by omega)
            omega⟩
          have hkm : k < m := by
            have := Int.emod_lt_of_pos x4 hm0
            omega
          dsimp only
          rw [hk]
          refine ⟨.ref d2, rfl, _, rfl, _, rfl, d2, _, rfl, hP, fun p3 n3 => ?_⟩
          rw [cut_to]
          have s3 := same_upd (o := .lst ((ps.map V.int).take k)) n3
          refine ⟨_, rfl, _, rfl, _, _, rfl, rfl, (m : Int) - (k : Int), rfl, by omega, by omega, ?_⟩
          rw [show ((m : Int) - (k : Int)).toNat = m - k by omega]
          have hin : ps[k]? = some ps[k] := List.getElem?_eq_getElem (by omega)
          refine fun D nD => lc_range (lo := 0) (n := m - k) (fun i H3 => Same (upd H2 p3 (.lst ((ps.map V.int).take k))) H3 ∧ H3 D = some (.lst ((List.replicate i ps[k]).map V.int))) ⟨same_upd nD, upd_same⟩ ?_ ?_
          · rintro i H3 hi ⟨s, hD⟩
            refine ⟨rfl, ?_⟩
            refine lc_yes ?_
            refine iteT ?_
            refine ⟨.ref d2, rfl, _, rfl, d2, _, _, _, rfl, rfl, s.seq (s3.seq hP), atI_nat (int_at hin), _, hD, ?_, same_mut s nD, ?_⟩
            · rw [List.length_map, List.length_replicate]
              exact small1000 (by omega)
            · rw [upd_same, List.replicate_succ', ← snoc_int]
          · rintro H3 ⟨s, hD⟩
            refine ⟨p3, D, _, _, rfl, rfl, s _ _ upd_same, hD, ?_, fun p4 n4 => ?_⟩
            · rw [List.length_take, List.length_map, List.length_map, List.length_replicate]
              exact Nat.le_of_lt (small1000 (by omega))
            · refine ⟨p4, ps.take k ++ List.replicate (m - k) ps[k], some (.int (k : Int)), ?_, (s3.trans s).trans (same_upd n4), ?_, rfl⟩
              · rw [List.length_append, List.length_take, List.length_replicate]
                omega
              · rw [List.map_append, List.map_take]
                exact lst_l upd_same
        · exact ⟨d2, ps, none, by omega, Same.refl _, hP, rfl⟩
      · exact ⟨d2, ps, none, by omega, Same.refl _, hP, rfl⟩
    rintro σ' H'' ⟨p, qs, y, hq, s4, hQ, rfl⟩
    -- passed = list(prices)
    refine ⟨.ref p, rfl, p, _, rfl, .inl hQ, fun p5 n5 => ?_⟩
    have s5 := same_upd (o := .lst (qs.map V.int)) n5
    have hQ5 := s5.seq hQ
    have h5 : SqL K (upd H'' p5 (.lst (qs.map V.int))) p5 (qs.map V.int) := lst_l upd_same
    refine ⟨.ref p5, rfl, p5, qs, rfl, h5, by omega, fun os H6 o hp hw s6 no ho => ?_⟩
    refine ⟨.ref p, rfl, o, p, os, qs, rfl, ho, s6.seq hQ5, by omega, hp, hw, true, rfl, iteF ?_⟩
    have hsh : SeqAt.shaped (.list (qs.map PyData.int)) = true := by
      unfold SeqAt.shaped
      rw [show (PyData.list (qs.map PyData.int)).canLay0 = true from lay_ints qs, depth_ints qs]
      rfl
    refine ⟨.ref p5, rfl, .ref p, rfl, _, _, dp_ints (s6.seq h5), dp_ints (s6.seq hQ5), hsh, hsh, true, ?_, iteT ?_⟩
    · rw [SeqAt.eqv_refl _ (SeqAt.canLay_of_shaped hsh)]
    refine ⟨.ref p5, rfl, p5, qs, rfl, s6.seq h5, by omega, fun os2 H7 o2 hp2 hw2 s7 no2 ho2 => ?_⟩
    exact ⟨.ref p, rfl, o2, p, os2, qs, rfl, ho2, s7.seq (s6.seq hQ5), by omega, hp2, hw2, q _⟩
end
/-! ### what the top has written; the law's own head -/
theorem all_mk {l : PySem.W.OpenLaw} {w : World} {K : PySem.W.Frag} {h : Heap} {mg : Str → Option Value} {fa f1 f2 f3 f4 f5 f6 f7 : Addr} (X : K.In h) (G : h.Ns mainGlobals mg) (hfa : mg "law" = some (.ref fa))
    {od1 an1 od2 an2 od3 an3 od4 an4 od5 an5 od6 an6 od7 an7 : Option Addr} {sl1 sl2 sl3 sl4 sl5 sl6 sl7 : Array (Option Value)} {oc1 kV1 dc1 pm1 cd1 ct1 oc2 kV2 dc2 pm2 cd2 ct2 oc3 kV3 dc3 pm3 cd3 ct3 oc4 kV4 dc4 pm4 cd4 ct4 oc5 kV5 dc5 pm5 cd5 ct5 oc6 kV6 dc6 pm6 cd6 ct6 oc7 kV7 dc7 pm7 cd7 ct7 : Value}
    (a1 : PySem.W.nsIn K mainGlobals "dearest_order" = some (some (.ref f1))) (l1 : K.lookup f1 = some ⟨oc1, od1, .func (PySem.W.fnOf "dearest_order" "dearest_order" (defArgs s_dearest_order) (defBody s_dearest_order) (defScope s_dearest_order) .none kV1 dc1 pm1 an1 cd1 ct1), sl1⟩) (c1 : PySem.W.codeIn K cd1 "dearest_order" = true) (k1 : PySem.W.keepIn K (.ref f1) = true)
    (a2 : PySem.W.nsIn K mainGlobals "_law_cell" = some (some (.ref f2))) (l2 : K.lookup f2 = some ⟨oc2, od2, .func (PySem.W.fnOf "_law_cell" "_law_cell" (defArgs s__law_cell) (defBody s__law_cell) (defScope s__law_cell) .none kV2 dc2 pm2 an2 cd2 ct2), sl2⟩) (c2 : PySem.W.codeIn K cd2 "_law_cell" = true) (k2 : PySem.W.keepIn K (.ref f2) = true)
    (a3 : PySem.W.nsIn K mainGlobals "_law_draws" = some (some (.ref f3))) (l3 : K.lookup f3 = some ⟨oc3, od3, .func (PySem.W.fnOf "_law_draws" "_law_draws" (defArgs s__law_draws) (defBody s__law_draws) (defScope s__law_draws) .none kV3 dc3 pm3 an3 cd3 ct3), sl3⟩) (c3 : PySem.W.codeIn K cd3 "_law_draws" = true) (k3 : PySem.W.keepIn K (.ref f3) = true)
    (a4 : PySem.W.nsIn K mainGlobals "_law_row" = some (some (.ref f4))) (l4 : K.lookup f4 = some ⟨oc4, od4, .func (PySem.W.fnOf "_law_row" "_law_row" (defArgs s__law_row) (defBody s__law_row) (defScope s__law_row) .none kV4 dc4 pm4 an4 cd4 ct4), sl4⟩) (c4 : PySem.W.codeIn K cd4 "_law_row" = true) (k4 : PySem.W.keepIn K (.ref f4) = true)
    (a5 : PySem.W.nsIn K mainGlobals "_law_is_int" = some (some (.ref f5))) (l5 : K.lookup f5 = some ⟨oc5, od5, .func (PySem.W.fnOf "_law_is_int" "_law_is_int" (defArgs s__law_is_int) (defBody s__law_is_int) (defScope s__law_is_int) .none kV5 dc5 pm5 an5 cd5 ct5), sl5⟩) (c5 : PySem.W.codeIn K cd5 "_law_is_int" = true) (k5 : PySem.W.keepIn K (.ref f5) = true)
    (a6 : PySem.W.nsIn K mainGlobals "_law_right" = some (some (.ref f6))) (l6 : K.lookup f6 = some ⟨oc6, od6, .func (PySem.W.fnOf "_law_right" "_law_right" (defArgs s__law_right) (defBody s__law_right) (defScope s__law_right) .none kV6 dc6 pm6 an6 cd6 ct6), sl6⟩) (c6 : PySem.W.codeIn K cd6 "_law_right" = true) (k6 : PySem.W.keepIn K (.ref f6) = true)
    (a7 : PySem.W.nsIn K mainGlobals "law" = some (some (.ref f7))) (l7 : K.lookup f7 = some ⟨oc7, od7, .func (PySem.W.fnOf "law" "law" (defArgs s_law) (defBody s_law) (defScope s_law) .none kV7 dc7 pm7 an7 cd7 ct7), sl7⟩) (c7 : PySem.W.codeIn K cd7 "law" = true) (k7 : PySem.W.keepIn K (.ref f7) = true)
    (z_bool : PySem.W.nsIn K mainGlobals "bool" = some none)
    (z_int : PySem.W.nsIn K mainGlobals "int" = some none)
    (z_isinstance : PySem.W.nsIn K mainGlobals "isinstance" = some none)
    (z_len : PySem.W.nsIn K mainGlobals "len" = some none)
    (z_list : PySem.W.nsIn K mainGlobals "list" = some none)
    (z_range : PySem.W.nsIn K mainGlobals "range" = some none)
    (z_tuple : PySem.W.nsIn K mainGlobals "tuple" = some none) :
    ∃ fd : FuncData, (∀ (s : Shared) (v : Value), BindsTo s fd ⟨[v], []⟩ [("_law_script", v)]) ∧ ∀ base : Heap, K.In base → base.Ns mainGlobals mg → FnOk l.prog w K mg base CX0 3 fa fd ["_law_script"] (sp_law K) := by
  have e := hfa.symm.trans (PySem.W.mg_of X G a7)
  cases e
  have m_bool := PySem.W.mg_none_of X G z_bool
  have m_int := PySem.W.mg_none_of X G z_int
  have m_isinstance := PySem.W.mg_none_of X G z_isinstance
  have m_len := PySem.W.mg_none_of X G z_len
  have m_list := PySem.W.mg_none_of X G z_list
  have m_range := PySem.W.mg_none_of X G z_range
  have m_tuple := PySem.W.mg_none_of X G z_tuple
  have F1 := fun_mk (st := s_dearest_order) l1 c1 k1
  have b1 := F1.binds (ps := ["prices"]) fun _ _ _ _ _ _ us hl => match us, hl with | [_], _ => rfl
  have F2 := fun_mk (st := s__law_cell) l2 c2 k2
  have b2 := F2.binds (ps := ["_law_script", "_law_place"]) fun _ _ _ _ _ _ us hl => match us, hl with | [_, _], _ => rfl
  have F3 := fun_mk (st := s__law_draws) l3 c3 k3
  have b3 := F3.binds (ps := ["_law_cell_here", "_law_sizes"]) fun _ _ _ _ _ _ us hl => match us, hl with | [_, _], _ => rfl
  have F4 := fun_mk (st := s__law_row) l4 c4 k4
  have b4 := F4.binds (ps := ["_law_cell_here", "_law_count"]) fun _ _ _ _ _ _ us hl => match us, hl with | [_, _], _ => rfl
  have F5 := fun_mk (st := s__law_is_int) l5 c5 k5
  have b5 := F5.binds (ps := ["_law_x"]) fun _ _ _ _ _ _ us hl => match us, hl with | [_], _ => rfl
  have F6 := fun_mk (st := s__law_right) l6 c6 k6
  have b6 := F6.binds (ps := ["_law_order", "_law_prices"]) fun _ _ _ _ _ _ us hl => match us, hl with | [_, _], _ => rfl
  have F7 := fun_mk (st := s_law) l7 c7 k7
  refine ⟨PySem.W.fnOf "law" "law" (defArgs s_law) (defBody s_law) (defScope s_law) .none kV7 dc7 pm7 an7 cd7 ct7, fun s v => .of_eq rfl, fun base _ _ => ?_⟩
  have C_dearest_order : Cal l.prog w K mg base 1 "dearest_order" ["prices"] (sp_dearest_order K) := ⟨f1, _, ok_dearest_order F1 m_len m_range m_tuple, PySem.W.mg_of X G a1, k1, b1⟩
  have C__law_cell : Cal l.prog w K mg base 1 "_law_cell" ["_law_script", "_law_place"] (sp__law_cell K) := ⟨f2, _, ok__law_cell F2 m_int m_len, PySem.W.mg_of X G a2, k2, b2⟩
  have C__law_draws : Cal l.prog w K mg base 1 "_law_draws" ["_law_cell_here", "_law_sizes"] (sp__law_draws K) := ⟨f3, _, ok__law_draws F3 m_int m_len m_range, PySem.W.mg_of X G a3, k3, b3⟩
  have C__law_row : Cal l.prog w K mg base 2 "_law_row" ["_law_cell_here", "_law_count"] (sp__law_row K) := ⟨f4, _, ok__law_row F4 m_int m_range C__law_draws, PySem.W.mg_of X G a4, k4, b4⟩
  have C__law_is_int : Cal l.prog w K mg base 1 "_law_is_int" ["_law_x"] sp__law_is_int := ⟨f5, _, ok__law_is_int F5 m_bool m_int m_isinstance, PySem.W.mg_of X G a5, k5, b5⟩
  have C__law_right : Cal l.prog w K mg base 2 "_law_right" ["_law_order", "_law_prices"] (sp__law_right K) := ⟨f6, _, ok__law_right F6 m_isinstance m_len m_range m_tuple C__law_is_int, PySem.W.mg_of X G a6, k6, b6⟩
  exact ok_law F7 m_int m_list m_range C_dearest_order C__law_cell C__law_draws C__law_row C__law_right
end K12
open PySem PySem.W PyProof.Rows
set_option maxHeartbeats 0 in
theorem PySem.Challenge.cw_dearestshelf_k12_dearest_order_holds : PySem.Challenge.rw_dearestshelf_k12_dearest_order.Holds := by
  w_on; o_law; k_head; (case hw => w_witness2)
  k_fill
  refine L2.walk_of (l := PySem.Challenge.rw_dearestshelf_k12_dearest_order) (n := 63) (k := 3) (x := "_law_script") (CX := fun _ => L2.CX0) (sp := fun w => K12.sp_law _) rfl (by decide) rfl ⟨rfl, by decide, by decide⟩ (fun w h Y => PySem.W.kIn_of Y) ?F (fun _ _ a ns hl _ hS => ⟨a, ns, rfl, hS, hl, fun _ => rfl⟩) (fun _ _ _ _ _ h => h)
  case F =>
    intro w mg fa h KX G hmg
    refine' K12.all_mk KX G hmg ?a1 ?l1 ?c1 ?k1 ?a2 ?l2 ?c2 ?k2 ?a3 ?l3 ?c3 ?k3 ?a4 ?l4 ?c4 ?k4 ?a5 ?l5 ?c5 ?k5 ?a6 ?l6 ?c6 ?k6 ?a7 ?l7 ?c7 ?k7 ?z_bool ?z_int ?z_isinstance ?z_len ?z_list ?z_range ?z_tuple
    (case a1 => k_is); (case l1 => k_is); (case c1 => k_is); (case k1 => k_is); (case a2 => k_is); (case l2 => k_is); (case c2 => k_is); (case k2 => k_is); (case a3 => k_is); (case l3 => k_is); (case c3 => k_is); (case k3 => k_is); (case a4 => k_is); (case l4 => k_is); (case c4 => k_is); (case k4 => k_is); (case a5 => k_is); (case l5 => k_is); (case c5 => k_is); (case k5 => k_is); (case a6 => k_is); (case l6 => k_is); (case c6 => k_is); (case k6 => k_is); (case a7 => k_is); (case l7 => k_is); (case c7 => k_is); (case k7 => k_is); (case z_bool => k_is); (case z_int => k_is); (case z_isinstance => k_is); (case z_len => k_is); (case z_list => k_is); (case z_range => k_is); (case z_tuple => k_is)
