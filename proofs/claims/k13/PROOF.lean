import PyProof.Rows.All
import Wide.All
import OpenK.AllK
import Wide.FinOn
import HandS.ForMost
import HandS.ForExc
import HandS.Wide
import HandS.IsInst
import HandS.More
import HandS.Conv
import HandS.Evl
import HandS.ExcIs
import HandS.Defaults
import HandS.ExcInit
import HandS.ExcField
import HandS.TryMany
import HandS.Nested
import HandS.ClsMeth
import HandS.Iter
import HandS.Walk
import HandS.Style
import HandS.ListEq
import KE.KExcIs
import KE.RegKIsAll
import HandS.OwnEq
import HandS.TupAny
import HandS.SortKw
import KE.SortKeyHeap
import KE.SortData
import PySem.Challenge.RW_dearestshelf_k13_first_things
set_option Elab.async false
set_option linter.all false
set_option maxRecDepth 100000
set_option maxHeartbeats 8000000
set_option exponentiation.threshold 10000
namespace K13
open PySem PySem.Spec PyProof.Rows L2
def top (i : Nat) : Stmt := PySem.Challenge.pw_dearestshelf_k13_first_things.main.body.getD i (.Pass ⟨0, 0, 0, 0⟩)
abbrev s_BadNumber___init__ : Stmt := inClass (top 2) 0
theorem sc_BadNumber___init__ : FnScope ["self", "what", "at"] ["self", "what", "at"] (defScope s_BadNumber___init__) := ⟨rfl, rfl, rfl, by decide +kernel, rfl, by decide +kernel, by decide +kernel⟩
abbrev s_check_up_to : Stmt := top 5
theorem sc_check_up_to : FnScope ["what", "number", "most"] ["what", "number", "most"] (defScope s_check_up_to) := ⟨rfl, rfl, rfl, by decide +kernel, rfl, by decide +kernel, by decide +kernel⟩
abbrev s_dearest_order : Stmt := top 7
theorem sc_dearest_order : FnScope ["prices", "order", "thing", "at"] ["prices"] (defScope s_dearest_order) := ⟨rfl, rfl, rfl, by decide +kernel, rfl, by decide +kernel, by decide +kernel⟩
abbrev s_first_things : Stmt := top 8
theorem sc_first_things : FnScope ["order", "k"] ["order", "k"] (defScope s_first_things) := ⟨rfl, rfl, rfl, by decide +kernel, rfl, by decide +kernel, by decide +kernel⟩
abbrev s_dearest : Stmt := top 9
theorem sc_dearest : FnScope ["prices", "k"] ["prices", "k"] (defScope s_dearest) := ⟨rfl, rfl, rfl, by decide +kernel, rfl, by decide +kernel, by decide +kernel⟩
abbrev s__law_cell : Stmt := top 11
theorem sc__law_cell : FnScope ["_law_script", "_law_place"] ["_law_script", "_law_place"] (defScope s__law_cell) := ⟨rfl, rfl, rfl, by decide +kernel, rfl, by decide +kernel, by decide +kernel⟩
abbrev s__law_draws : Stmt := top 12
theorem sc__law_draws : FnScope ["_law_cell_here", "_law_sizes", "_law_size", "_law_left", "_law_found", "_law_k", "_law_low", "_law_high"] ["_law_cell_here", "_law_sizes"] (defScope s__law_draws) := ⟨rfl, rfl, rfl, by decide +kernel, rfl, by decide +kernel, by decide +kernel⟩
abbrev s__law_row : Stmt := top 13
theorem sc__law_row : FnScope ["_law_cell_here", "_law_count", "_law_drawn", "_law_bound", "_law_value", "_law_k"] ["_law_cell_here", "_law_count"] (defScope s__law_row) := ⟨rfl, rfl, rfl, by decide +kernel, rfl, by decide +kernel, by decide +kernel⟩
abbrev s__law_shuffled : Stmt := top 14
theorem sc__law_shuffled : FnScope ["_law_places", "_law_things_here", "_law_left", "_law_found", "_law_place"] ["_law_places", "_law_things_here"] (defScope s__law_shuffled) := ⟨rfl, rfl, rfl, by decide +kernel, rfl, by decide +kernel, by decide +kernel⟩
abbrev s__law_is_int : Stmt := top 15
theorem sc__law_is_int : FnScope ["_law_x"] ["_law_x"] (defScope s__law_is_int) := ⟨rfl, rfl, rfl, by decide +kernel, rfl, by decide +kernel, by decide +kernel⟩
abbrev s__law_same_lot : Stmt := top 16
theorem sc__law_same_lot : FnScope ["_law_x", "_law_due", "_law_k"] ["_law_x", "_law_due"] (defScope s__law_same_lot) := ⟨rfl, rfl, rfl, by decide +kernel, rfl, by decide +kernel, by decide +kernel⟩
abbrev s__law_things : Stmt := top 17
theorem sc__law_things : FnScope ["_law_cell_here", "_law_count", "_law_size", "_law_bound", "_law_found", "_law_thing", "_law_gap", "_law_k"] ["_law_cell_here", "_law_count", "_law_size"] (defScope s__law_things) := ⟨rfl, rfl, rfl, by decide +kernel, rfl, by decide +kernel, by decide +kernel⟩
abbrev s__law_first : Stmt := top 18
theorem sc__law_first : FnScope ["_law_order", "_law_k", "e"] ["_law_order", "_law_k"] (defScope s__law_first) := ⟨rfl, rfl, rfl, by decide +kernel, rfl, by decide +kernel, by decide +kernel⟩
abbrev s__law_dear : Stmt := top 19
theorem sc__law_dear : FnScope ["_law_prices", "_law_k", "e"] ["_law_prices", "_law_k"] (defScope s__law_dear) := ⟨rfl, rfl, rfl, by decide +kernel, rfl, by decide +kernel, by decide +kernel⟩
abbrev s__law_base : Stmt := top 20
theorem sc__law_base : FnScope ["_law_order", "_law_k", "e"] ["_law_order", "_law_k"] (defScope s__law_base) := ⟨rfl, rfl, rfl, by decide +kernel, rfl, by decide +kernel, by decide +kernel⟩
abbrev s__law_refused : Stmt := top 21
theorem sc__law_refused : FnScope ["_law_told"] ["_law_told"] (defScope s__law_refused) := ⟨rfl, rfl, rfl, by decide +kernel, rfl, by decide +kernel, by decide +kernel⟩
abbrev s__law_dearest : Stmt := top 22
theorem sc__law_dearest : FnScope ["_law_prices", "_law_k", "_law_found", "_law_thing", "_law_ahead", "_law_other"] ["_law_prices", "_law_k"] (defScope s__law_dearest) := ⟨rfl, rfl, rfl, by decide +kernel, rfl, by decide +kernel, by decide +kernel⟩
abbrev s__law_right : Stmt := top 23
theorem sc__law_right : FnScope ["_law_order", "_law_things_here", "_law_prices", "_law_k", "_law_passed", "_law_first_here", "_law_dear_here", "_law_thing"] ["_law_order", "_law_things_here", "_law_prices", "_law_k"] (defScope s__law_right) := ⟨rfl, rfl, rfl, by decide +kernel, rfl, by decide +kernel, by decide +kernel⟩
abbrev s_law : Stmt := top 24
theorem sc_law : FnScope ["_law_script", "_law_ways", "_law_many", "_law_prices", "_law_things_here", "_law_order", "_law_wanted", "_law_k"] ["_law_script"] (defScope s_law) := ⟨rfl, rfl, rfl, by decide +kernel, rfl, by decide +kernel, by decide +kernel⟩

/-! ### mathematics of draws -/
def Within : List Int → List Int → Prop
  | [], [] => True
  | d :: ds, n :: ns => (0 ≤ d ∧ d < n) ∧ Within ds ns
  | _, _ => False
theorem Within.len : ∀ {ds ns : List Int}, Within ds ns → ds.length = ns.length
  | [], [], _ => rfl
  | _ :: ds, _ :: ns, h => by
    rw [List.length_cons, List.length_cons, Within.len h.2]
  | [], _ :: _, h => h.elim
  | _ :: _, [], h => h.elim
theorem Within.snoc : ∀ {ds ns : List Int} {d n : Int}, Within ds ns → 0 ≤ d → d < n → Within (ds ++ [d]) (ns ++ [n])
  | [], [], d, n, _, h0, h1 => ⟨⟨h0, h1⟩, True.intro⟩
  | _ :: ds, _ :: ns, d, n, h, h0, h1 => ⟨h.1, Within.snoc h.2 h0 h1⟩
  | [], _ :: _, _, _, h, _, _ => h.elim
  | _ :: _, [], _, _, h, _, _ => h.elim
theorem Within.step {ds ns : List Int} {d n : Int} {i : Nat} (h : Within ds (ns.take i)) (hi : ns[i]? = some n) (h0 : 0 ≤ d) (h1 : d < n) : Within (ds ++ [d]) (ns.take (i + 1)) := by
  rw [List.take_add_one, hi]
  exact h.snoc h0 h1
theorem Within.zero (ns : List Int) : Within [] (ns.take 0) := by
  rw [List.take_zero]
  exact True.intro
theorem Within.full {ds ns : List Int} (h : Within ds (ns.take ns.length)) : Within ds ns := by
  rw [List.take_length] at h
  exact h
theorem int_of {ns : List Int} {i : Nat} {x : V} (h : (ns.map V.int)[i]? = some x) : ∃ n, x = .int n ∧ ns[i]? = some n := by
  rw [List.getElem?_map] at h
  cases e : ns[i]? with
  | none =>
    rw [e] at h
    cases h
  | some z =>
    rw [e] at h
    exact ⟨z, (Option.some.inj h).symm, rfl⟩
theorem int_at {ns : List Int} {i : Nat} {n : Int} (h : ns[i]? = some n) : (ns.map V.int)[i]? = some (.int n) := by
  rw [List.getElem?_map, h]
  rfl
theorem snoc_int (ds : List Int) (d : Int) : ds.map V.int ++ [V.int d] = (ds ++ [d]).map V.int := by
  rw [List.map_append]
  rfl
theorem same_upd {H : Hp} {p : Addr} {o : HO} (h : H p = none) : Same H (upd H p o) := fun b x e => by
  rw [upd_ne (ne_of_none e h)]
  exact e
theorem same_mut {H H1 : Hp} {p : Addr} {o : HO} (s : Same H H1) (h : H p = none) : Same H (upd H1 p o) := fun b x e => by
  rw [upd_ne (ne_of_none e h)]
  exact s b x e
theorem same_tup {K : PySem.W.Frag} {H H' : Hp} {a : Addr} {xs : List V} (e : Same H H') (h : SqT K H a xs) : SqT K H' a xs := by
  rcases h with (h | ⟨o, h⟩) | h
  · exact .inl (.inl (e _ _ h))
  · exact .inl (.inr ⟨o, e _ _ h⟩)
  · exact .inr h
theorem w_div {j : Int} (h : 0 < j) (hb : j < 2 ^ 100) : CDivW 0 j := wide_div (b := 100) h (by omega) (by decide) (by decide)
theorem lst_l {K : PySem.W.Frag} {H : Hp} {a : Addr} {xs : List V} (h : H a = some (.lst xs)) : SqL K H a xs := .inl (.inl h)
theorem tup_t {K : PySem.W.Frag} {H : Hp} {a : Addr} {xs : List V} (h : H a = some (.tup xs)) : SqT K H a xs := .inl (.inl h)
theorem lc_yes {σ : L2.St} {H : Hp} {F : Bool → Hp → Prop} (h : F true H) : tYes σ H F := h
theorem Within.c {ds ns : List Int} {n : Int} (h : Within ds (n :: ns)) : ∃ d r, ds = d :: r ∧ 0 ≤ d ∧ d < n ∧ Within r ns := by
  cases ds with
  | nil => exact h.elim
  | cons d r => exact ⟨d, r, rfl, h.1.1, h.1.2, h.2⟩
theorem Within.n {ds : List Int} (h : Within ds []) : ds = [] := by
  cases ds with
  | nil => rfl
  | cons d r => exact h.elim
theorem kI : kitB "int" "int" = some true := by decide +kernel
theorem kB : kitB "int" "bool" = some false := by decide +kernel
theorem kT : kitB "tuple" "tuple" = some true := by decide +kernel

theorem cut_from (xs : List V) (k : Nat) : cutV xs (some (k : Int)) none = xs.drop k := by
  unfold cutV
  rw [HT.sIx_nat, HT.sIx_none]
  by_cases h : k ≤ xs.length
  · rw [Nat.min_eq_left h]
    exact List.take_of_length_le (by rw [List.length_drop]; exact Nat.le_refl _)
  · rw [Nat.min_eq_right (by omega), List.drop_of_length_le (Nat.le_refl _), List.drop_of_length_le (by omega), List.take_nil]
theorem cut_from1 (xs : List V) : cutV xs (some 1) none = xs.drop 1 := by
  unfold cutV
  rw [show HT.sIx xs.length 0 (some 1) = min 1 xs.length from HT.sIx_nat xs.length 0 1, HT.sIx_none]
  cases xs with
  | nil => rfl
  | cons x r =>
    rw [show min 1 (x :: r).length = 1 by
      rw [List.length_cons]
      omega]
    show (List.take ((x :: r).length - 1) r) = r
    rw [List.length_cons, Nat.add_sub_cancel]
    exact List.take_length
theorem big18 : (0 : Int) < 10 ^ 18 ∧ (10 : Int) ^ 18 < 2 ^ 100 := by decide
theorem cut_to (xs : List V) (k : Nat) : cutV xs none (some (k : Int)) = xs.take k := by
  unfold cutV
  rw [HT.sIx_none, HT.sIx_nat, List.drop_zero, Nat.sub_zero]
  by_cases h : k ≤ xs.length
  · rw [Nat.min_eq_left h]
  · rw [Nat.min_eq_right (by omega), List.take_of_length_le (Nat.le_refl _), List.take_of_length_le (by omega)]

theorem iteD {c A B : Prop} [Decidable c] (hc : c) (h : A) : if decide c = true then A else B := by
  rw [if_pos (decide_eq_true hc)]
  exact h
theorem iteDF {c A B : Prop} [Decidable c] (hc : ¬ c) (h : B) : if decide c = true then A else B := by
  rw [decide_eq_false hc]
  exact iteF h
open NdefX (NScope ncx startF CellsAt inv_startN)
open ClX (pin_new pin_at base_none unpinE)

/-! ### own classes and errors: rules that the layer lacks -/
section
variable {X : Cx}
/-- a field's read, its K by another name -/
theorem pe_fldK {K : PySem.W.Frag} {e : Expr} {f : Str} {pos : Pos} {ta : TE} (he : PE X e ta) (hb : attributeBase e f X.env (eval e X.env) = eval e X.env) (hK : X.K = K := by rfl) : PE X (.Attribute e f pos) (tFld K ta f) := by
  subst hK
  exact pe_fld he hb
/-- floor division by a divisor of either sign -/
def CDivWN (_ j : Int) : Prop := j ≠ 0 ∧ j.natAbs.log2 < 9000
theorem op_fdivWN : OpR X (binaryOp .FloorDiv) (rI CDivWN fun i j => .int (i.fdiv j)) := opI fun _ _ _ _ _ _ _ c k => floordiv_int c.1 k (.inl (PyProof.noPylong_of_log2 c.2))
/-- a new instance whose __init__ may let an error out, wished for at the slots that stand -/
theorem made_at {CX : CXT} {n : Nat} {g D : Addr} {gd : FuncData} {qs : List Str} {pr : Sp} {Ex : L2.St → XK} {us0 : List Value} {vs0 : List V} {pn : List (Addr × Obj)} {τ : L2.St} {H0 : Hp} {st : Shared} {W : VK} {as : List Value} {xs : List V}
    (MK : Mk X.K D g) (OK : FnOk X.prog X.w X.K X.mg X.base CX n g gd qs pr) (room : Room (n + 1) X.A) (bd : Binds X.K gd qs us0) (dv : Vals vs0 us0) (out : PassesAt CX X τ (Ex τ)) (J : Inv X pn τ H0 st) (rel : Vals xs as)
    (go : ∀ p q, H0 p = none → H0 q = none → q ≠ p → pr (.ref p :: (xs ++ vs0)) (upd (upd H0 q (.own p)) p (.ins D q [])) (fun v H2 => v = .non ∧ W (.ref p) H2) (Ex τ)) :
    wpAny (model X.prog X.w) X.A (call (.ref D) as) (EP X pn τ W) X.xe st := by
  have new1 := J.hok.fresh (Nat.le_succ st.heap.objs.size)
  have new2 := J.hok.fresh (Nat.le_refl st.heap.objs.size)
  have asked := go _ _ new1 new2 (Nat.ne_of_lt (Nat.lt_succ_self _))
  have J2 := Inv.made (C := D) J
  have rel2 : Vals (V.ref (st.heap.objs.size + 1) :: (xs ++ vs0)) (Value.ref (st.heap.objs.size + 1) :: (as ++ us0)) :=
    .cons rfl (rel.append dv)
  have len2 : (Value.ref (st.heap.objs.size + 1) :: as ++ us0).length = qs.length := (rel2.length.symm).trans (OK.len _ _ _ _ asked)
  have env2 := J2.env0.make D as []
  have bound := bd _ (Value.ref (st.heap.objs.size + 1) :: as) J2.kIn len2
  have ran := OK.run _ X.stack _ _ _ _ _ _ (Ex τ) (room.make D as []) env2 bound rel2 asked
  refine wpAny_call (make_map (f := g) J.kIn MK.makes MK.init (beq_iff_eq.mp MK.fn) (codeAny_mono ran ?_))
  rintro (e | fl) s' back
  · exact out pn _ _ e s' J2 back
  · cases fl with
    | ret u =>
      obtain ⟨v, H', J3, rv, rfl, w3⟩ := J2.after back
      exact ⟨rv, V.ref (st.heap.objs.size + 1), _, J3, rfl, w3⟩
    | next => exact back.elim
    | brk => exact back.elim
    | cont => exact back.elim
def tMakeS (D : Addr) (pr : Sp) (vs0 : List V) (Ex : L2.St → XK) (t : TA) : TE := fun τ H Q => t τ H fun xs H1 => ∀ p q, H1 p = none → H1 q = none → q ≠ p →
  pr (.ref p :: (xs ++ vs0)) (upd (upd H1 q (.own p)) p (.ins D q [])) (fun v H2 => v = .non ∧ Q (.ref p) H2) (Ex τ)
theorem pe_makeS {CX : CXT} {n : Nat} {g D : Addr} {gd : FuncData} {qs : List Str} {pr : Sp} {Ex : L2.St → XK} {us0 : List Value} {vs0 : List V} {x : Str} {p pos : Pos} {e : Expr} {es : List Expr} {t : TA}
    (MK : Mk X.K D g) (OK : FnOk X.prog X.w X.K X.mg X.base CX n g gd qs pr) (room : Room (n + 1) X.A) (gl : Gl X x) (at_ : X.mg x = some (.ref D)) (bd : Binds X.K gd qs us0) (dv : Vals vs0 us0) (out : ∀ τ, PassesAt CX X τ (Ex τ)) (args : PA X (e :: es) t)
    (plain : (x == ("__debug__" : Str)) = false := by decide) (first : starEach (e :: es) X.env = (false, eval e X.env) :: starEach es X.env := by rfl) (noStar : (backTo pos (starEach es X.env)).any (·.1) = false := by rfl) :
    PE X (.Call (.Name x p) (e :: es) [] pos) (tMakeS D pr vs0 Ex t) :=
  ⟨fun pn s τ H Q J h => wpAny_Call_Name_kw (ld_glob J gl at_ (PySem.W.callWith_K (h₀ := X.base) J.ok.mod.kin MK.kp (thn (args.run pos pn s τ H _ J h) fun _ _ ⟨_, _, J1, rel, go⟩ => ⟨J1.kIn, made_at MK OK room bd dv (out τ) J1 rel go⟩) first noStar) plain)⟩
/-- isinstance(e, c) in a suite, e the error that it holds (of an own class at D, without a dict of its own) -/
def rIsX (K : PySem.W.Frag) (a : Addr) (cls : Value) (d : Option Addr) : List V → Hp → VK → Prop := fun xs H Q => ∃ D : Addr, ExcC K D ∧ cls = .ref D ∧ d = none ∧ rIsE K D a xs H Q
theorem call_isX {K : PySem.W.Frag} {a : Addr} {cls : Value} {d : Option Addr} {oe : Obj} {pn : List (Addr × Obj)} (hz : Zc cls d oe) (hf : ∃ vs, oe.data = .fields vs) (hK : X.K = K := by rfl) :
    CallR (X.suite a ((a, oe) :: pn)) (.builtin "isinstance") (rIsX K a cls d) := by
  intro pins s σ H xs us Q I r h
  subst hK
  obtain ⟨D, ec, rfl, rfl, h⟩ := h
  exact call_isE ec hz hf pins s σ H xs us Q I r h
end
theorem lk_one {k : Str} {v : V} {r : List (Str × V)} : List.lookup k ((k, v) :: r) = some v := by
  simp [List.lookup]
theorem lk_two {k g : Str} {v : V} {r : List (Str × V)} (h : (k == g) = false) : List.lookup k ((g, v) :: r) = List.lookup k r := by
  simp only [List.lookup, h]

/-! ### isinstance of a caught error, with or without fields -/
section
variable {X : Cx}
def rIsY (K : PySem.W.Frag) (a : Addr) (cls : Value) (d : Option Addr) : List V → Hp → VK → Prop := fun xs H Q => ∃ D : Addr, ExcC K D ∧ cls = .ref D ∧ (d = none ∨ ∃ dd fs, d = some dd ∧ H dd = some (.xd fs)) ∧ rIsE K D a xs H Q
theorem call_isY {K : PySem.W.Frag} {a : Addr} {cls : Value} {d : Option Addr} {oe : Obj} {pn : List (Addr × Obj)} (hz : Zc cls d oe) (hf : ∃ vs, oe.data = .fields vs) (hK : X.K = K := by rfl) :
    CallR (X.suite a ((a, oe) :: pn)) (.builtin "isinstance") (rIsY K a cls d) := by
  intro pins s σ H xs us Q I r h
  subst hK
  obtain ⟨D, ec, rfl, hd, h⟩ := h
  rcases hd with rfl | ⟨dd, fs, rfl, hdd⟩
  · exact call_isE ec hz hf pins s σ H xs us Q I r h
  · obtain ⟨c, cv, b, rfl, same, known, q⟩ := h
    obtain ⟨w1, ws, rfl, r1, rs⟩ : ∃ w1 ws, us = w1 :: ws ∧ RelV (.ref a) w1 ∧ Vals [c] ws := by
      cases r with
      | cons p t => exact ⟨_, _, rfl, p, t⟩
    obtain ⟨w2, rfl, r2⟩ : ∃ w2, ws = [w2] ∧ RelV c w2 := by
      cases rs with
      | cons p t =>
        cases t
        exact ⟨_, rfl, p⟩
    cases (show w1 = Value.ref a from r1)
    cases same _ r2
    obtain ⟨there, _⟩ := I.pin (a, oe) (List.mem_append.mpr (.inl List.mem_cons_self))
    obtain ⟨vs, hv⟩ := hf
    obtain ⟨mA, ns, _⟩ := (show ObjOk X.prog X.w H s.heap dd (.xd fs) from I.hok dd _ hdd)
    obtain ⟨od, ho, _⟩ := lookIn_ns ns
    have J : PySem.W.InstAt s.heap a oe D (some od) := ⟨there, hz.1, by unfold PySem.W.notCls; rw [hv] <;> rfl, by rw [hz.2]; exact ho⟩
    have cl : (PySem.W.clsIn X.K D).isSome = true := by
      obtain ⟨cd, hc, _⟩ := PySem.W.any_some ec.hd
      rw [hc]
      rfl
    exact PySem.W.kia_one (PySem.W.kitx_exc cl ec.hg ec.hk ec.hs ec.ha ec.hn ec.ht ec.hm) I.kIn J known (fun z => nomatch z) fun tk => ⟨.bl b, H, I.kept (t' := tk) fun _ _ z => z, rfl, q⟩
end

/-! ### try with several «except C as n» -/
/-- what the clauses wish of an error, one after the other: class, the name's slot, the suite's reading -/
def wAsM (K : PySem.W.Frag) (out : WX) (D : Ends) : List (Value × Nat × (Addr → Value → Option Addr → TS)) → WX
  | [] => out
  | (c, i, t) :: more => fun cls d σ H => ∃ b, PySem.W.exmOne K cls c = some b ∧
      (b = true → ∀ a, H a = none → t a cls d { nx := fun σ' H' => D.nx (σ'.set i none) H', rt := D.rt, bk := fun σ' H' => D.bk (σ'.set i none) H', ct := fun σ' H' => D.ct (σ'.set i none) H' } (σ.set i (some (.ref a))) H) ∧
      (b = false → wAsM K out D more cls d σ H)
inductive ClausesOk (X : Cx) : List ExceptHandler → List (Value × Nat × (Addr → Value → Option Addr → TS)) → Prop
  | nil : ClausesOk X [] []
  | cons {x n : Str} {c : Value} {i : Nat} {t : Addr → Value → Option Addr → TS} {st : Stmt} {sts : List Stmt} {q q' : Pos} {hs : List ExceptHandler} {ls : List (Value × Nat × (Addr → Value → Option Addr → TS))} (known : Names X x c) (slot : X.N[i]? = some n)
      (lo : X.env.kindOf n = some .local) (suite : ∀ (a : Addr) (oe : Obj) (cls : Value) (d : Option Addr) (pn : List (Addr × Obj)), Zc cls d oe → (∃ vs, oe.data = .fields vs) → PSs (X.suite a ((a, oe) :: pn)) (st :: sts) (t a cls d))
      (more : ClausesOk X hs ls) : ClausesOk X (.ExceptHandler (some (.Name x q)) (some n) (st :: sts) q' :: hs) ((c, i, t) :: ls)
section
variable {X : Cx} {body : List Stmt} {h1 : ExceptHandler} {hs : List ExceptHandler} {ls : List (Value × Nat × (Addr → Value → Option Addr → TS))} {pos : Pos} {tb : WX → TS} {out : WX}
theorem ps_try_asM (st : X.stack = X.env :: X.outer) (fr : X.env.frame = some X.env.locals) (nd : X.N.Nodup) (tk : Takes X out)
    (runs : ∀ (W : WX) (pn : List (Addr × Obj)) (xe : Value → Shared → Prop), Takes (X.tr pn xe) W → PassesOwn (model X.prog X.w) X.A X.env xe → PSs (X.tr pn xe) body (tb W))
    (cl : ClausesOk X (h1 :: hs) ls) : PS X (.Try body (h1 :: hs) [] [] pos) (fun D σ H => tb (wAsM X.K out D ls) D σ H) := by
  refine ⟨fun pins s σ H D I want => ?_⟩
  have ok := I.ok
  have frames : X.A.frames = some (X.env :: X.outer) := by rw [ok.frames, st]
  refine wpAny_Try_except ?_
  refine wpAny_mono ((runs (wAsM X.K out D ls) (X.pn ++ pins) (fun u t1 => wpAny (model X.prog X.w) X.A (noteFrame u X.env) (fun _ t2 => wpAny (model X.prog X.w) X.A (setFlight u none)
    (fun _ t3 => wpAny (model X.prog X.w) X.A (handleBy u X.env (h1 :: hs)) (SP X pins D) X.xe t3) X.xe t2) X.xe t1) (fun u t0 flown => ?_) PassesOwn.looking).run [] s σ H D (I.toTry _) want) (fun f t0 done => ?_) (fun _ _ y => y)
  · obtain ⟨a, B, sI, pins1, σ1, H1, cls, d, rfl, J0, bare, kept, sky, fresh, osE, agree, wish⟩ := flown
    have J : Inv X pins σ1 H1 sI := J0.ofTry ok
    have sky1 : Sky B (X.env :: X.outer) a (Zc cls d) X.env.locals t0.heap := st ▸ sky
    show wpAny (model X.prog X.w) X.A (noteFrame (.ref a) X.env) _ X.xe t0
    refine Sky.land Zc.steady frames fr sky1 fun g fl up => ?_
    obtain ⟨oe, vs, atE, zE, dataE⟩ := fl.there
    have outF : a ∉ frs (X.env :: X.outer) := fun mem => by
      obtain ⟨_, o, here, no⟩ := fl.2.2.1.mem mem
      cases atE.symm.trans here
      exact no _ dataE
    have nL : a ≠ X.env.locals := fun z => outF (List.mem_filterMap.mpr ⟨X.env, List.mem_cons_self, by rw [fr, z]⟩)
    have nF : a ∉ X.fs := fun mem => outF (by
      obtain ⟨e, m1, m2⟩ := List.mem_filterMap.mp mem
      exact List.mem_filterMap.mpr ⟨e, List.mem_cons_of_mem _ m1, m2⟩)
    have J1 : Inv X pins σ1 H1 { t0 with heap := g } := J.landed bare fl.1 (kept.trans up) osE agree
    have S1 := J1.suite atE dataE fresh nL nF
    have go : ∀ {hh : List ExceptHandler} {ll : List (Value × Nat × (Addr → Value → Option Addr → TS))}, ClausesOk X hh ll → wAsM X.K out D ll cls d σ1 H1 → wpAny (model X.prog X.w) X.A (handleBy (.ref a) X.env hh) (SP X pins D) X.xe { t0 with heap := g } := by
      intro hh ll cc
      induction cc with
      | nil =>
        intro fly
        refine wpAny_handleBy_nil ?_
        obtain ⟨_, _, _, o, ws, T, oT, ts, g1, g2, g3, g4, _⟩ := id fl
        unfold PySem.passOn
        refine wpAny_bind (wpAny_field g1 g3 g4 ?_)
        rw [if_neg (by simp : ¬ ((Value.ref T == Value.none) = true))]
        have on : wpAny (model X.prog X.w) X.A (setFlight (.ref a) X.env.frame) (fun _ t4 => wpAny (model X.prog X.w) X.A (throw (.ref a) : Sem Flow) (SP X pins D) X.xe t4) X.xe { t0 with heap := g } := by
          rw [fr]
          exact HandSPX.setFlight_upZ fl fun g' sky' up' => wpAny_throw (tk _ _ ⟨a, B, sI, pins, σ1, H1, cls, d, rfl, J, bare, (kept.trans up).trans up', .inr (.inr (by rw [st]; exact sky')), fresh, osE, agree, fly⟩)
        first
          | exact wpAny_bind (wpAny_pure (wpAny_bind on))
          | exact wpAny_bind on
      | @cons x n c i t b₀ bs q q' hs' ls' known slot lo suite more ih =>
        intro w1
        obtain ⟨b, asked, yes, no⟩ := w1
        refine wpAny_handleBy_cons (codeAny_handlers_test ?_) (fun z => by cases z)
        have typ : PySem.W.Looks (model X.prog X.w) g (typeOf (.ref a)) cls := fun _ _ _ _ k z => wpAny_typeOf_ref (k _ _ atE) (by rw [zE.1]; exact z)
        have name : ∀ {Q : Value → Shared → Prop} {E : Value → Shared → Prop}, Q c { t0 with heap := g } → wpAny (model X.prog X.w) (X.A.mark (some (.ref a))) (eval (.Name x q) X.env) Q E { t0 with heap := g } := fun {Q E} z => by
          obtain ⟨k1, k2, k3 | ⟨k3, k4, k5⟩⟩ := known
          · exact ld_glob (X := X.suite a ((a, oe) :: (X.pn ++ pins))) S1 k1 k3 z k2
          · exact ld_blt (X := X.suite a ((a, oe) :: (X.pn ++ pins))) S1 k1 k3 k4 z k5 k2
        refine name ((PySem.W.exm_one (M := model X.prog X.w) J1.kIn typ asked).here ?_)
        cases b with
        | false => exact ih (no rfl)
        | true =>
          refine codeAny_handlers_suite_as (HandSPX.lands_againZ fl fun g' fl' up' => ?_)
          obtain ⟨oe', ws, atE', zE', dataE'⟩ := fl'.there
          have J2 : Inv X pins σ1 H1 { t0 with heap := g' } := J.landed bare fl'.1 ((kept.trans up).trans up') osE agree
          have S2 := J2.suite atE' dataE' fresh nL nF
          refine store_ok (X := X.suite a ((a, oe') :: (X.pn ++ pins))) (v := .ref a) S2 nd slot (.inl lo) rfl (fun t5 S5 => ?_) (.inr lo)
          refine wpAny_mono ((suite a oe' cls d (X.pn ++ pins) zE' ⟨_, dataE'⟩).run [] t5 _ H1 _ S5 (yes rfl a fresh)) (fun f t6 done => ?_) (fun _ _ z => z.elim)
          have gone : ∀ {σ6 : L2.St} {H6 : Hp} {Q : Shared → Prop}, Inv (X.suite a ((a, oe') :: (X.pn ++ pins))) [] σ6 H6 t6 → (∀ t7, Inv X pins (σ6.set i none) H6 t7 → Q t7) →
              wpAny (model X.prog X.w) X.A (do bindName X.env n .none; unbindBehindTheSuite X.env n q') (fun _ t7 => Q t7) X.xe t6 := fun S6 z => gone_ok (S6.unsuite ok) nd slot lo z
          cases f with
          | ret u =>
            obtain ⟨v6, σ6, H6, S6, r6, q6⟩ := done
            exact gone S6 fun _ J7 => ⟨_, _, _, J7, r6, q6⟩
          | next =>
            obtain ⟨_, _, S6, q6⟩ := done
            exact gone S6 fun _ J7 => ⟨_, _, J7, q6⟩
          | brk =>
            obtain ⟨_, _, S6, q6⟩ := done
            exact gone S6 fun _ J7 => ⟨_, _, J7, q6⟩
          | cont =>
            obtain ⟨_, _, S6, q6⟩ := done
            exact gone S6 fun _ J7 => ⟨_, _, J7, q6⟩
    exact go cl wish
  · cases f with
    | ret u =>
      obtain ⟨v, _, _, J1, r1, q1⟩ := done
      exact ⟨v, _, _, J1.ofTry ok, r1, q1⟩
    | next =>
      obtain ⟨_, _, J1, q1⟩ := done
      exact wpAny_execs_nil ⟨_, _, J1.ofTry ok, q1⟩
    | brk =>
      obtain ⟨_, _, J1, q1⟩ := done
      exact ⟨_, _, J1.ofTry ok, q1⟩
    | cont =>
      obtain ⟨_, _, J1, q1⟩ := done
      exact ⟨_, _, J1.ofTry ok, q1⟩
end
/-- the order that is asked: falling by price, of equal ones the lower first -/
def Dear (p : Nat → Int) (a b : Nat) : Prop := p b < p a ∨ (p a = p b ∧ a < b)
theorem dear_insert {p : Nat → Int} {os : List Nat} {i k : Nat} (hp : os.Pairwise (Dear p)) (hr : ∀ x ∈ os, x < i) (hd : ∀ j x, k ≤ j → os[j]? = some x → p x < p i)
    (hb : k = 0 ∨ ∃ y, os[k - 1]? = some y ∧ ¬ p y < p i) : (os.take k ++ [i] ++ os.drop k).Pairwise (Dear p) := by
  have hpp := hp
  rw [List.pairwise_iff_getElem] at hpp
  have h1 : (os.take k).Pairwise (Dear p) := hp.sublist (List.take_sublist k os)
  have h2 : (os.drop k).Pairwise (Dear p) := hp.sublist (List.drop_sublist k os)
  have h3 : ∀ x ∈ os.take k, Dear p x i := fun x hx => by
    obtain ⟨j, hj, e⟩ := List.mem_iff_getElem.mp hx
    rw [List.length_take] at hj
    have hj1 : j < os.length := by omega
    have hjk : j < k := by omega
    have e1 : os[j] = x := by
      rw [← e, List.getElem_take]
    have hxi : x < i := hr x (e1 ▸ List.getElem_mem hj1)
    rcases hb with hb | ⟨y, hy, hn⟩
    · omega
    · obtain ⟨g, ey⟩ := List.getElem?_eq_some_iff.mp hy
      have hxy : p y ≤ p x := by
        by_cases hjk1 : j = k - 1
        · subst hjk1
          rw [e1] at ey
          rw [ey]
          exact Int.le_refl _
        · have := hpp j (k - 1) hj1 g (by omega)
          rw [e1, ey] at this
          unfold Dear at this
          omega
      unfold Dear
      omega
  have h4 : ∀ x ∈ os.drop k, Dear p i x := fun x hx => by
    obtain ⟨j, hj, e⟩ := List.mem_iff_getElem.mp hx
    rw [List.length_drop] at hj
    have e1 : os[k + j]? = some x := by
      rw [← e, List.getElem_drop]
      exact List.getElem?_eq_getElem (by omega)
    exact .inl (hd (k + j) x (by omega) e1)
  have h5 : ∀ x ∈ os.take k, ∀ z ∈ os.drop k, Dear p x z := fun x hx z hz => by
    have a := h3 x hx
    have b := h4 z hz
    unfold Dear at *
    omega
  rw [List.append_assoc]
  refine List.pairwise_append.mpr ⟨h1, List.pairwise_append.mpr ⟨List.pairwise_singleton .., h2, fun x hx z hz => ?_⟩, fun x hx z hz => ?_⟩
  · rw [List.mem_singleton.mp hx]
    exact h4 z hz
  · rcases List.mem_append.mp hz with hz | hz
    · rw [List.mem_singleton.mp hz]
      exact h3 x hx
    · exact h5 x hx z hz
theorem perm_insert {os : List Nat} {i k : Nat} (h : os.Perm (List.range i)) : (os.take k ++ [i] ++ os.drop k).Perm (List.range (i + 1)) := by
  rw [List.range_succ]
  have h1 : (os.take k ++ [i] ++ os.drop k).Perm (os ++ [i]) := by
    have h2 : (os.take k ++ ([i] ++ os.drop k)).Perm (os.take k ++ (os.drop k ++ [i])) := List.Perm.append_left _ List.perm_append_comm
    rw [List.append_assoc]
    refine h2.trans ?_
    rw [← List.append_assoc, List.take_append_drop]
  exact h1.trans (h.append_right [i])

def nv (os : List Nat) : List V := (os.map fun (t : Nat) => (t : Int)).map V.int
theorem nv_at {os : List Nat} {i t : Nat} (h : os[i]? = some t) : (nv os)[i]? = some (.int (t : Int)) := by
  unfold nv
  rw [List.getElem?_map, List.getElem?_map, h]
  rfl
theorem nv_of {os : List Nat} {i : Nat} {x : V} (h : (nv os)[i]? = some x) : ∃ t : Nat, x = .int (t : Int) ∧ os[i]? = some t := by
  unfold nv at h
  obtain ⟨n, rfl, h2⟩ := int_of h
  rw [List.getElem?_map] at h2
  cases e : os[i]? with
  | none =>
    rw [e] at h2
    cases h2
  | some t =>
    rw [e] at h2
    exact ⟨t, by rw [← Option.some.inj h2], rfl⟩
theorem nv_len (os : List Nat) : (nv os).length = os.length := by
  unfold nv
  rw [List.length_map, List.length_map]
theorem nv_ins (os : List Nat) (k i : Nat) : (nv os).take k ++ [V.int (i : Int)] ++ (nv os).drop k = nv (os.take k ++ [i] ++ os.drop k) := by
  unfold nv
  simp only [List.map_append, List.map_take, List.map_drop, List.map_cons, List.map_nil]
theorem nv_flat (os : List Nat) : (nv os).all flatV = true := by
  rw [List.all_eq_true]
  intro x hx
  unfold nv at hx
  obtain ⟨n, _, rfl⟩ := List.mem_map.mp hx
  rfl
theorem nv_in {os : List Nat} {t : Nat} (h : t ∈ os) : inV (.int (t : Int)) (nv os) = true := by
  unfold inV
  rw [List.any_eq_true]
  refine ⟨.int (t : Int), ?_, ?_⟩
  · unfold nv
    exact List.mem_map.mpr ⟨(t : Int), List.mem_map.mpr ⟨t, h, rfl⟩, rfl⟩
  · show ((t : Int) == (t : Int)) = true
    exact beq_self_eq_true _
def pr (ns : List Int) (t : Nat) : Int := ns.getD t 0
theorem pr_at {ns : List Int} {t : Nat} (h : t < ns.length) : ns[t]? = some (pr ns t) := by
  unfold pr
  rw [List.getD_eq_getElem?_getD, List.getElem?_eq_getElem h]
  rfl
theorem dp_ints {K : PySem.W.Frag} {H : Hp} {a : Addr} {ns : List Int} (h : SqL K H a (ns.map V.int)) : Dp K H (.ref a) (.list (ns.map PyData.int)) := by
  refine .lst h ?_
  clear h
  induction ns with
  | nil => exact .nil
  | cons n r ih => exact .cons (.int n) ih
theorem depthAll_ints : ∀ ns : List Int, PyData.depthAll (ns.map PyData.int) = 0
  | [] => rfl
  | n :: r => by
    show max (PyData.depth (.int n)) (PyData.depthAll (r.map PyData.int)) = 0
    rw [depthAll_ints r]
    rfl
theorem depth_ints (ns : List Int) : PyData.depth (.list (ns.map PyData.int)) = 1 := by
  show PyData.depthAll (ns.map PyData.int) + 1 = 1
  rw [depthAll_ints]
theorem lay_ints : ∀ ns : List Int, PyData.canLayAll0 (ns.map PyData.int) = true
  | [] => rfl
  | n :: r => by
    show ((PyData.int n).canLay0 && PyData.canLayAll0 (r.map PyData.int)) = true
    rw [lay_ints r]
    rfl

/-! ### sorted(t, key=int), t a tuple of ints -/
section
variable {prog : Program} {w : World} {A : Around} {E : Value → Shared → Prop} {s : Shared}
/-- the items of a tuple as a list, with the heap as it then stands -/
theorem collect_tup {Q : List Value → Shared → Prop} (it : Addr) {o : Obj} {items : Array Value} {n : Nat} (ho : s.heap.get? it = some o) (hc : o.cls = .type "tuple") (hd : o.data = .seq items n)
    (hQ : Q items.toList { s with heap := (s.heap.push { cls := .type "list", data := .seq ([] : List Value).toArray }).update s.heap.objs.size (Obj.mapSeq (· ++ items)) }) (hsz : items.size ≤ sizeLine) :
    wpAny (model prog w) A (collect (.ref it)) Q E s := by
  unfold collect
  refine wpAny_bind (wpAny_runValue (codeAny_builtin F.entry_proto_collect ?_))
  rw [Around.under_plainId F.plain_proto_collect _]
  show wpAny _ A.in1 (newList [] >>= fun l => again (.builtin "list.__iadd__" ⟨[l, .ref it], []⟩)) _ _ s
  refine wpAny_bind (wpAny_newObj_type (wpAny_pure ⟨plainId_quiet F.plain_list_iadd _, codeAny_builtin F.entry_list_iadd ?_⟩))
  rw [Around.under_plainId F.plain_list_iadd _]
  show wpAny _ A.in1 (Builtin.List.listExtendWith (.ref s.heap.objs.size) (.ref it) (.ref s.heap.objs.size)) _ _ _
  have new : (s.heap.push { cls := .type "list", data := .seq ([] : List Value).toArray }).get? s.heap.objs.size = some { cls := .type "list", data := .seq #[] 0 } := Heap.get?_push_size _ rfl
  have grown := Heap.get?_update_self (Obj.mapSeq (· ++ items)) new rfl
  have last : wpAny (model prog w) A (match Value.ref s.heap.objs.size with
      | Value.ref a => do
        match (← load a).data with
          | Data.seq xs _ => pure xs.toList
          | _ => unsupported "internal:collect"
      | _ => unsupported "internal:collect") Q E { s with heap := (s.heap.push { cls := .type "list", data := .seq ([] : List Value).toArray }).update s.heap.objs.size (Obj.mapSeq (· ++ items)) } := by
    show wpAny _ A (load s.heap.objs.size >>= _) _ _ _
    refine wpAny_bind (wpAny_load grown (wpAny_pure ?_))
    show Q ((#[] : Array Value) ++ items).toList _
    rw [show ((#[] : Array Value) ++ items).toList = items.toList by simp]
    exact hQ
  refine wpAny_mono (wpAny_extend_seq (hsz := hsz) (A := A) (R := fun r s' => r = .ok (.ret (.ref s.heap.objs.size)) ∧ s' = { s with heap := (s.heap.push { cls := .type "list", data := .seq ([] : List Value).toArray }).update s.heap.objs.size (Obj.mapSeq (· ++ items)) })
    (s := { s with heap := s.heap.push { cls := .type "list", data := .seq ([] : List Value).toArray } }) _ it _ 0 (.inr rfl) new (Heap.get?_push_of_some _ ho) hc hd ⟨rfl, rfl⟩) (fun fin s' h => ?_) fun e s' h => absurd h.1 (by simp)
  cases fin with
  | done f =>
    obtain ⟨e, rfl⟩ := h
    cases e
    exact last
  | again c' =>
    refine ⟨h.1, codeAny_mono h.2 fun r s'' back => ?_⟩
    obtain ⟨rfl, rfl⟩ := back
    exact last
theorem type_key (a : Addr) (T : String) : Builtin.«list.sort» ⟨[.ref a], [(Str.ofString "key", .type T)]⟩ = PyProof.Rows.ksk_tree a (.type T) false := rfl
theorem sorted_tup_int {t : Addr} {vs : List Value} {ns : List Int} {Q : Value → Shared → Prop} (ht : IsTup s.heap t vs.toArray) (iv : PyProof.Rows.IntsAre vs ns) (hL : ns.length ≤ sizeLine) (hu : A.units + 3 < cLine)
    (h : ∀ out c h' tk p, s.heap.objs.size ≤ p → (∀ b o, s.heap.get? b = some o → h'.get? b = some o) → h'.get? p = some (seqObj "list" (List.toArray out) c) → PyProof.Rows.IntsAre out (ns.mergeSort fun a b => decide (a ≤ b)) → Q (.ref p) { s with heap := h', toks := tk }) :
    wpAny (model prog w) A (call (.builtin "sorted") [.ref t] [(Str.ofString "key", .type "int")]) Q E s := by
  have e : PySem.W.EachIs (fun (v : Value) (n : Int) => ∃ tk, v = .int n tk) vs ns := by
    clear ht h hL
    induction iv with
    | nil => exact .nil
    | cons n tk _ ih => exact .cons ⟨tk, rfl⟩ ih
  have back : ∀ {out : List Value} {ms : List Int}, PySem.W.EachIs (fun (v : Value) (n : Int) => ∃ tk, v = .int n tk) out ms → PyProof.Rows.IntsAre out ms := by
    intro out ms q
    induction q with
    | nil => exact .nil
    | cons r _ ih =>
      obtain ⟨tk, rfl⟩ := r
      exact .cons _ _ ih
  have hl : vs.length ≤ sizeLine := by rw [e.length]; exact hL
  obtain ⟨o, ho, hc, n, hd⟩ := id ht
  refine call_function_entry_kw kind_sorted plain_sorted entry_sorted (PyProof.Rows.ksk_s1 _ _) ?_
  unfold Builtin.«sorted»
  refine wpAny_bind (m := checkCount "sorted" 1 1 _) (wpAny_pure ?_)
  refine wpAny_bind (collect_tup t ho hc hd ?_ (by rw [List.size_toArray]; exact hl))
  have k1 : ∀ b u, s.heap.get? b = some u → ((s.heap.push { cls := .type "list", data := .seq ([] : List Value).toArray }).update s.heap.objs.size (Obj.mapSeq (· ++ vs.toArray))).get? b = some u := fun b u q =>
    (Heap.get?_update_other _ _ (Nat.ne_of_gt (Heap.lt_size q))).trans (Heap.get?_push_of_some _ q)
  have le : s.heap.objs.size ≤ ((s.heap.push { cls := .type "list", data := .seq ([] : List Value).toArray }).update s.heap.objs.size (Obj.mapSeq (· ++ vs.toArray))).objs.size := by
    rw [Heap.size_update, size_push']
    exact Nat.le_succ _
  generalize (s.heap.push { cls := .type "list", data := .seq ([] : List Value).toArray }).update s.heap.objs.size (Obj.mapSeq (· ++ vs.toArray)) = h1 at k1 le ⊢
  rw [show vs.toArray.toList = vs from by simp]
  refine wpAny_bind (wpAny_newList ?_ hl)
  have atp : (h1.push { cls := .type "list", data := .seq vs.toArray }).get? h1.objs.size = some (seqObj "list" vs.toArray 0) := Heap.get?_push_size _ rfl
  have old : ∀ b o, s.heap.get? b = some o → b ≠ h1.objs.size ∧ (h1.push { cls := .type "list", data := .seq vs.toArray }).get? b = some o := fun b o q => ⟨Nat.ne_of_lt (Heap.lt_size (k1 b o q)), Heap.get?_push_of_some _ (k1 b o q)⟩
  refine wpAny_bind (wpAny_holding (wpAny_call_entry_kw slot_list_sort ⟨_, atp, rfl⟩ entry_list_sort ?_ (PyProof.Rows.ksk_l1 _ _)))
  show wpAny (model prog w) A.in1.in1 (Builtin.«list.sort» ⟨[.ref h1.objs.size], [(Str.ofString "key", .type "int")]⟩) _ _ _
  rw [type_key]
  refine PySem.W.keyH_tree (kz := ns.map fun n => PyData.int n) (s := { s with heap := h1.push { cls := .type "list", data := .seq vs.toArray } }) atp (by rw [List.length_map]; exact e.length.symm) hl (PySem.W.AllAlike.of (enc := fun n => PyData.int n) fun _ _ => by simp [PySem.W.alike]) (PySem.W.Sortable.others (enc := fun n => PyData.int n) fun b => ⟨(fun z => by cases z), fun xs z => by cases z⟩)
    (PySem.W.bound_map (enc := fun n : Int => PyData.int n) (A := A.in1.in1) fun x _ => by show A.units + 2 + 0 < cLine; omega)
    (PySem.W.keyH_turns (s := { s with heap := h1.push { cls := .type "list", data := .seq vs.toArray } }) e fun v x hR hx h tk kp => ?_) fun h' tk out c kp hD ko => ⟨_, rfl, ?_⟩
  · obtain ⟨t', rfl⟩ := hR
    exact call_int_int ⟨h, tk, rfl, fun _ _ q => q, .int _ _⟩
  · have eo := PySem.W.keyedOut_each (R := fun (v : Value) (n : Int) => ∃ tk, v = .int n tk) (fun n : Int => PyData.int n) ko e
    rw [show PySem.W.dataLe false (fun n : Int => PyData.int n) = fun a b => decide (a ≤ b) from PySem.W.dataLe_int fun n => n] at eo
    exact wpAny_pure ⟨_, rfl, h out c h' tk _ le (fun b o q => kp b o (old b o q).1 (old b o q).2) hD (back eo)⟩
end
def rSortedInt (K : PySem.W.Frag) : List V → List V → Hp → VK → Prop := fun vs zs H Q => ∃ (t : Addr) (ns : List Int), vs = [.ref t] ∧ zs = [.ty "int"] ∧ SqT K H t (ns.map V.int) ∧ ns.length ≤ 1000 ∧ ∀ p, H p = none → Q (.ref p) (upd H p (.lst ((ns.mergeSort fun a b => decide (a ≤ b)).map V.int)))
theorem cr_sortedInt {X : Cx} (hu : X.A.units + 64 < cLine) : CallRK X (.builtin "sorted") [Str.ofString "key"] (rSortedInt X.K) := by
  intro pins s σ H vs zs us ws Q I r rz h
  obtain ⟨t, ns, rfl, rfl, hq, nl, q⟩ := h
  obtain rfl := Vals.ref1 r
  obtain ⟨w1, rfl, e1⟩ := vals1 rz
  obtain rfl : w1 = Value.type "int" := e1
  obtain ⟨its, rv, pl, hz⟩ := I.tuple hq
  have iv : PyProof.Rows.IntsAre its ns := by simpa using rv.ints
  refine sorted_tup_int pl iv (by rw [List.length_map] at hz; exact hz) (by omega) fun out c h' tk p hp k hD io => ?_
  have hlen : ((ns.mergeSort fun a b => decide (a ≤ b)).map V.int).length ≤ sizeLine := by
    rw [List.length_map, List.length_mergeSort]
    exact Nat.le_of_lt (small1000 (by omega))
  exact ⟨.ref p, _, I.laid (t' := tk) (o := .lst ((ns.mergeSort fun a b => decide (a ≤ b)).map V.int)) k hp ⟨hlen, out, c, vals_of_ints io, hD⟩, rfl, q p (I.hok.fresh hp)⟩
theorem cut_map (ps : List Int) (lo hi : Option Int) : ∃ ms : List Int, cutV (ps.map V.int) lo hi = ms.map V.int ∧ ∀ m ∈ ms, m ∈ ps := by
  unfold cutV
  refine ⟨(ps.drop (HT.sIx (ps.map V.int).length 0 lo)).take (HT.sIx (ps.map V.int).length (ps.map V.int).length hi - HT.sIx (ps.map V.int).length 0 lo), ?_, fun m hm => ?_⟩
  · rw [List.map_take, List.map_drop]
  · exact List.mem_of_mem_drop (List.mem_of_mem_take hm)
theorem within_rep {ds : List Int} {n : Nat} {b : Int} (h : Within ds (List.replicate n b)) : ∀ d ∈ ds, 0 ≤ d ∧ d < b := by
  induction n generalizing ds with
  | zero =>
    cases h.n
    intro d hd
    cases hd
  | succ n ih =>
    obtain ⟨d, r, rfl, h0, h1, w⟩ := Within.c (show Within ds (b :: List.replicate n b) from h)
    intro x hx
    rcases List.mem_cons.mp hx with rfl | hx
    · exact ⟨h0, h1⟩
    · exact ih w x hx
theorem five {α : Type} {xs : List α} (h : xs.length = 5) : ∃ a b c d e, xs = [a, b, c, d, e] := by
  rcases xs with _ | ⟨a, _ | ⟨b, _ | ⟨c, _ | ⟨d, _ | ⟨e, _ | ⟨f, r⟩⟩⟩⟩⟩⟩ <;> simp at h
  exact ⟨a, b, c, d, e, rfl⟩
/-! ### errors of two fields -/
/-- the heap behind C(x, y), where __init__ stores both -/
def errH (H : Hp) (a C dx : Addr) (f g : Str) (x y : V) : Hp := upd (upd (upd H dx (exd dx [(f, x)])) a (exo a C (some dx))) dx (exd dx [(g, y), (f, x)])
theorem raise2 {C : Addr} {f g : Str} {x y : V} {H : Hp} {Q : XK} (hq : ∀ d, H d = none → Q (.ref C) (some d) (upd H d (.xd [(g, y), (f, x)]))) {a dx : Addr} (na : H a = none) (nd : upd H a (exo a C none) dx = none) (ne : dx ≠ a) :
    V.non = .non ∧ ∃ (d : Addr) (fs : List (Str × V)), errH (upd H a (exo a C none)) a C dx f g x y a = some (exo a C (some d)) ∧ errH (upd H a (exo a C none)) a C dx f g x y d = some (exd d fs) ∧ H d = none ∧
      Q (.ref C) (some d) (upd (del (errH (upd H a (exo a C none)) a C dx f g x y) a) d (.xd fs)) := by
  rw [upd_ne ne] at nd
  refine ⟨rfl, dx, _, ?_, upd_same, nd, ?_⟩
  · unfold errH
    rw [upd_ne (Ne.symm ne), upd_same]
  · have e : upd (del (errH (upd H a (exo a C none)) a C dx f g x y) a) dx (.xd [(g, y), (f, x)]) = upd H dx (.xd [(g, y), (f, x)]) := by
      funext b
      by_cases h1 : b = dx
      · rw [h1, upd_same, upd_same]
      · rw [upd_ne h1, upd_ne h1]
        by_cases h2 : b = a
        · rw [h2, del_same, na]
        · rw [del_ne h2]
          unfold errH
          rw [upd_ne h1, upd_ne h2, upd_ne h1, upd_ne h2]
    rw [e]
    exact hq dx nd

theorem ints_flat (ns : List Int) : (ns.map V.int).all flatV = true := by
  rw [List.all_eq_true]
  intro x hx
  obtain ⟨n, _, rfl⟩ := List.mem_map.mp hx
  rfl
theorem inV_int {n : Int} {ns : List Int} : inV (.int n) (ns.map V.int) = true ↔ n ∈ ns := by
  unfold inV
  rw [List.any_eq_true]
  constructor
  · rintro ⟨x, hx, e⟩
    obtain ⟨m, hm, rfl⟩ := List.mem_map.mp hx
    have e : decide (m = n) = true := by
      first | exact e | (simpa [eqV] using e)
    rw [← of_decide_eq_true e]
    exact hm
  · intro h
    refine ⟨.int n, List.mem_map.mpr ⟨n, h, rfl⟩, ?_⟩
    first | exact decide_eq_true rfl | simp [eqV]
theorem cat_any {K : PySem.W.Frag} {a b : Addr} {xs ys : List V} {H : Hp} {Q : VK} (ha : H a = some (.tup xs)) (hb : H b = some (.tup ys)) (hz : xs.length + ys.length ≤ sizeLine) (q : ∀ H' p, Same H H' → H' p = some (.tup (xs ++ ys)) → Q (.ref p) H') : rCatA K (.ref a) (.ref b) H Q := by
  refine ⟨a, b, xs, ys, rfl, rfl, tup_t ha, tup_t hb, hz, fun e => ?_, fun _ e => ?_, fun _ _ p np => q _ p (same_upd np) upd_same⟩
  · subst e
    exact q H b (Same.refl H) hb
  · subst e
    exact q H a (Same.refl H) (ha.trans (by rw [List.append_nil]))
theorem sl_any {K : PySem.W.Frag} {a : Addr} {xs : List V} {lo hi : Option Int} {H : Hp} {Q : VK} (ha : H a = some (.tup xs)) (q : ∀ H' p, Same H H' → H' p = some (.tup (cutV xs lo hi)) → Q (.ref p) H') : rSlA K (.ref a) lo hi H Q := by
  refine ⟨a, xs, rfl, tup_t ha, fun e => q H a (Same.refl H) (ha.trans ?_), fun _ p np => q _ p (same_upd np) upd_same⟩
  unfold cutV
  rw [e.1, e.2, List.drop_zero, Nat.sub_zero, List.take_length]
theorem map_erase : ∀ (ls : List Int) (k : Nat), (ls.map V.int).eraseIdx k = (ls.eraseIdx k).map V.int
  | [], k => by cases k <;> rfl
  | n :: r, 0 => rfl
  | n :: r, k + 1 => by
    show V.int n :: (r.map V.int).eraseIdx k = _
    rw [map_erase r k]
    rfl

/-- the first k of an order, ascending -/
def firstK (os : List Int) (k : Int) : List Int := (os.take k.toNat).mergeSort fun a b => decide (a ≤ b)
theorem firstK_len (os : List Int) (k : Int) : (firstK os k).length ≤ os.length := by
  unfold firstK
  rw [List.length_mergeSort, List.length_take]
  exact Nat.min_le_right _ _
theorem iteND {c A B : Prop} [Decidable c] (h : ¬ c) (a : A) : if (!decide c) = true then A else B := by
  rw [decide_eq_false h]
  exact iteT a

theorem asc_eq : ∀ {xs ys : List Int}, xs.Pairwise (· < ·) → ys.Pairwise (· < ·) → (∀ n, n ∈ xs ↔ n ∈ ys) → xs = ys
  | [], [], _, _, _ => rfl
  | [], y :: t, _, _, h => absurd ((h y).mpr List.mem_cons_self) (by simp)
  | x :: r, [], _, _, h => absurd ((h x).mp List.mem_cons_self) (by simp)
  | x :: r, y :: t, hx, hy, h => by
    have hx' := List.pairwise_cons.mp hx
    have hy' := List.pairwise_cons.mp hy
    have e : x = y := by
      rcases List.mem_cons.mp ((h x).mp List.mem_cons_self) with e | e
      · exact e
      · rcases List.mem_cons.mp ((h y).mpr List.mem_cons_self) with e2 | e2
        · exact e2.symm
        · have := hx'.1 y e2
          have := hy'.1 x e
          omega
    subst e
    rw [asc_eq hx'.2 hy'.2 fun n => ?_]
    constructor
    · intro hn
      rcases List.mem_cons.mp ((h n).mp (List.mem_cons_of_mem _ hn)) with e | e
      · have := hx'.1 n hn
        omega
      · exact e
    · intro hn
      rcases List.mem_cons.mp ((h n).mpr (List.mem_cons_of_mem _ hn)) with e | e
      · have := hy'.1 n hn
        omega
      · exact e
theorem firstK_mem {os : List Int} {k n : Int} : n ∈ firstK os k ↔ n ∈ os.take k.toNat := (List.mergeSort_perm _ _).mem_iff
theorem firstK_asc {os : List Int} {k : Int} (nd : os.Nodup) : (firstK os k).Pairwise (· < ·) := by
  have h1 : (firstK os k).Pairwise fun a b => decide (a ≤ b) = true := List.pairwise_mergeSort (fun a b c h1 h2 => by
    have := of_decide_eq_true h1
    have := of_decide_eq_true h2
    exact decide_eq_true (by omega)) (fun a b => by
    rcases Int.le_total a b with h | h
    · rw [decide_eq_true h]
      rfl
    · rw [decide_eq_true h, Bool.or_true]) _
  have h2 : (firstK os k).Nodup := (List.mergeSort_perm _ _).nodup_iff.mpr ((List.take_sublist _ _).nodup nd)
  exact (h1.and h2).imp fun ⟨a, b⟩ => by
    have := of_decide_eq_true a
    omega
theorem asc_nodup {ts : List Int} (h : ts.Pairwise (· < ·)) : ts.Nodup := h.imp fun h e => by omega
theorem firstK_filter {os ts : List Int} {k : Int} (pm : os.Perm ts) (asc : ts.Pairwise (· < ·)) : firstK os k = ts.filter fun n => inV (.int n) ((os.take k.toNat).map V.int) := by
  refine asc_eq (firstK_asc (pm.nodup_iff.mpr (asc_nodup asc))) (asc.filter _) fun n => ?_
  rw [firstK_mem, List.mem_filter, inV_int]
  constructor
  · intro h
    exact ⟨pm.mem_iff.mp (List.mem_of_mem_take h), h⟩
  · exact fun h => h.2
instance {p : Nat → Int} {a b : Nat} : Decidable (Dear p a b) := by
  unfold Dear
  exact inferInstance
/-- how many things go ahead of t -/
def aheadN (ns : List Int) (m t : Nat) : Nat := ((List.range m).filter fun o => decide (Dear (pr ns) o t)).length
theorem count_at {p : Nat → Int} : ∀ {os : List Nat} {j t : Nat}, os.Pairwise (Dear p) → os[j]? = some t → (os.filter fun x => decide (Dear p x t)).length = j
  | [], _, _, _, h => by cases h
  | x :: r, 0, t, hw, h => by
    cases h
    have hr := (List.pairwise_cons.mp hw).1
    rw [List.filter_cons, if_neg (by
      intro z
      have z := of_decide_eq_true z
      unfold Dear at z
      omega)]
    rw [List.filter_eq_nil_iff.mpr fun y hy z => ?_]
    · rfl
    · have z := of_decide_eq_true z
      have := hr y hy
      unfold Dear at z this
      omega
  | x :: r, j + 1, t, hw, h => by
    have hr := List.pairwise_cons.mp hw
    have h : r[j]? = some t := h
    rw [List.filter_cons, if_pos (decide_eq_true (hr.1 t (List.mem_of_getElem? h))), List.length_cons, count_at hr.2 h]
theorem ahead_mem {ns : List Int} {os : List Nat} {t k : Nat} (pm : os.Perm (List.range ns.length)) (pw : os.Pairwise (Dear (pr ns))) (ht : t < ns.length) : t ∈ os.take k ↔ aheadN ns ns.length t < k := by
  have mem : t ∈ os := pm.mem_iff.mpr (List.mem_range.mpr ht)
  obtain ⟨j, hj, e⟩ := List.mem_iff_getElem.mp mem
  have ej : os[j]? = some t := by rw [List.getElem?_eq_getElem hj, e]
  have cnt : aheadN ns ns.length t = j := by
    unfold aheadN
    rw [← (pm.filter _).length_eq]
    exact count_at pw ej
  rw [cnt]
  constructor
  · intro h
    obtain ⟨i, hi, e2⟩ := List.mem_iff_getElem.mp h
    rw [List.length_take] at hi
    rw [List.getElem_take] at e2
    have c1 : aheadN ns ns.length t = i := by
      unfold aheadN
      rw [← (pm.filter _).length_eq]
      exact count_at pw (show os[i]? = some t by rw [List.getElem?_eq_getElem (by omega), e2])
    omega
  · intro h
    refine List.mem_iff_getElem.mpr ⟨j, by rw [List.length_take]; omega, ?_⟩
    rw [List.getElem_take]
    exact e
/-- the dearest k things, ascending -/
def dearK (ns : List Int) (m : Nat) (k : Int) : List Int := ((List.range m).filter fun t => decide ((aheadN ns ns.length t : Int) < k)).map fun (t : Nat) => (t : Int)
theorem dear_first {ns : List Int} {os : List Nat} {k : Int} (pm : os.Perm (List.range ns.length)) (pw : os.Pairwise (Dear (pr ns))) (k0 : 0 ≤ k) : firstK (os.map fun (t : Nat) => (t : Int)) k = dearK ns ns.length k := by
  have ndo : os.Nodup := pm.nodup_iff.mpr List.nodup_range
  have nd : (os.map fun (t : Nat) => (t : Int)).Nodup := by
    rw [List.Nodup, List.pairwise_map]
    exact ndo.imp fun h e => h (by omega)
  refine asc_eq (firstK_asc nd) ?_ fun n => ?_
  · unfold dearK
    rw [List.pairwise_map]
    refine List.Pairwise.imp (fun h => ?_) (List.pairwise_lt_range.filter _)
    omega
  · rw [firstK_mem, ← List.map_take]
    unfold dearK
    rw [List.mem_map, List.mem_map]
    constructor
    · rintro ⟨t, ht, rfl⟩
      have lt : t < ns.length := List.mem_range.mp (pm.mem_iff.mp (List.mem_of_mem_take ht))
      have h := (ahead_mem pm pw lt).mp ht
      exact ⟨t, List.mem_filter.mpr ⟨List.mem_range.mpr lt, decide_eq_true (by omega)⟩, rfl⟩
    · rintro ⟨t, ht, rfl⟩
      obtain ⟨h1, h2⟩ := List.mem_filter.mp ht
      have lt := List.mem_range.mp h1
      have h2 := of_decide_eq_true h2
      exact ⟨t, (ahead_mem pm pw lt).mpr (by omega), rfl⟩
theorem ahead_succ (ns : List Int) (i t : Nat) : aheadN ns (i + 1) t = aheadN ns i t + if Dear (pr ns) i t then 1 else 0 := by
  unfold aheadN
  rw [List.range_succ, List.filter_append, List.length_append]
  congr 1
  by_cases c : Dear (pr ns) i t
  · rw [if_pos c, List.filter_cons, if_pos (decide_eq_true c)]
    rfl
  · rw [if_neg c, List.filter_cons, if_neg (by simpa using c)]
    rfl
theorem dearK_succ (ns : List Int) (i : Nat) (k : Int) : dearK ns (i + 1) k = dearK ns i k ++ if (aheadN ns ns.length i : Int) < k then [(i : Int)] else [] := by
  unfold dearK
  rw [List.range_succ, List.filter_append, List.map_append]
  congr 1
  by_cases c : (aheadN ns ns.length i : Int) < k
  · rw [if_pos c, List.filter_cons, if_pos (decide_eq_true c)]
    rfl
  · rw [if_neg c, List.filter_cons, if_neg (by simpa using c)]
    rfl
theorem dearK_len (ns : List Int) (m : Nat) (k : Int) : (dearK ns m k).length ≤ m := by
  unfold dearK
  rw [List.length_map]
  exact Nat.le_trans (List.length_filter_le _ _) (by rw [List.length_range]; exact Nat.le_refl _)

theorem erase_perm : ∀ {ls : List Int} {k : Nat} (h : k < ls.length), ([ls[k]] ++ ls.eraseIdx k).Perm ls
  | x :: r, 0, h => List.Perm.refl _
  | x :: r, k + 1, h => by
    have hk : k < r.length := by simpa using h
    show (r[k]'hk :: x :: r.eraseIdx k).Perm (x :: r)
    exact (List.Perm.swap _ _ _).trans ((erase_perm (ls := r) (k := k) hk).cons x)
theorem kSt : kitB "str" "str" = some true := by decide +kernel
/-- what the top has written of the classes -/
structure Txt (K : PySem.W.Frag) (mg : Str → Option Value) (C_BadNumber C_TooMany C_ShelfError : Addr) : Prop where
  g_BadNumber : mg "BadNumber" = some (.ref C_BadNumber)
  kc_BadNumber : PySem.W.keepIn K (.ref C_BadNumber) = true
  hd_BadNumber : PySem.W.hasDictIn K C_BadNumber = true
  ha_BadNumber : PySem.W.findIn K (.ref C_BadNumber) "__class__" = some (some (.builtin "object.__class__"))
  hm_BadNumber : PySem.W.mroIn K C_BadNumber (.type "object") = some true
  b_BadNumber : PySem.W.subIn K (.ref C_BadNumber) (.type "BaseException") = some true
  t_BadNumber : PySem.W.typeIn K (.ref C_BadNumber) = some (.type "type")
  ga_BadNumber : PySem.W.findIn K (.ref C_BadNumber) "__getattribute__" = some (some (.builtin "BaseException.__getattribute__"))
  gg_BadNumber : PySem.W.findIn K (.ref C_BadNumber) "__getattr__" = some none
  ox_BadNumber : OexC K C_BadNumber
  xf_BadNumber : XfC K C_BadNumber
  n_BadNumber_what : PySem.W.findIn K (.ref C_BadNumber) "what" = some none
  n_BadNumber_at : PySem.W.findIn K (.ref C_BadNumber) "at" = some none
  g_TooMany : mg "TooMany" = some (.ref C_TooMany)
  kc_TooMany : PySem.W.keepIn K (.ref C_TooMany) = true
  hd_TooMany : PySem.W.hasDictIn K C_TooMany = true
  ha_TooMany : PySem.W.findIn K (.ref C_TooMany) "__class__" = some (some (.builtin "object.__class__"))
  hm_TooMany : PySem.W.mroIn K C_TooMany (.type "object") = some true
  b_TooMany : PySem.W.subIn K (.ref C_TooMany) (.type "BaseException") = some true
  t_TooMany : PySem.W.typeIn K (.ref C_TooMany) = some (.type "type")
  ga_TooMany : PySem.W.findIn K (.ref C_TooMany) "__getattribute__" = some (some (.builtin "BaseException.__getattribute__"))
  gg_TooMany : PySem.W.findIn K (.ref C_TooMany) "__getattr__" = some none
  ox_TooMany : OexC K C_TooMany
  xf_TooMany : XfC K C_TooMany
  n_TooMany_many : PySem.W.findIn K (.ref C_TooMany) "many" = some none
  n_TooMany_most : PySem.W.findIn K (.ref C_TooMany) "most" = some none
  g_ShelfError : mg "ShelfError" = some (.ref C_ShelfError)
  kc_ShelfError : PySem.W.keepIn K (.ref C_ShelfError) = true
  hd_ShelfError : PySem.W.hasDictIn K C_ShelfError = true
  ha_ShelfError : PySem.W.findIn K (.ref C_ShelfError) "__class__" = some (some (.builtin "object.__class__"))
  hm_ShelfError : PySem.W.mroIn K C_ShelfError (.type "object") = some true
  b_ShelfError : PySem.W.subIn K (.ref C_ShelfError) (.type "BaseException") = some true
  t_ShelfError : PySem.W.typeIn K (.ref C_ShelfError) = some (.type "type")
  ga_ShelfError : PySem.W.findIn K (.ref C_ShelfError) "__getattribute__" = some (some (.builtin "BaseException.__getattribute__"))
  gg_ShelfError : PySem.W.findIn K (.ref C_ShelfError) "__getattr__" = some none
  hnc : PySem.W.specialIn K (.builtin "object.__class__") "__get__" = some (some (.builtin "getset_descriptor.__get__"))
  htk : PySem.W.takesIn K (.builtin "object.__class__") = some true
  sub_BadNumber_BadNumber : PySem.W.subIn K (.ref C_BadNumber) (.ref C_BadNumber) = some true
  sub_BadNumber_ShelfError : PySem.W.subIn K (.ref C_BadNumber) (.ref C_ShelfError) = some true
  kit_BadNumber_TooMany : PySem.W.kitOne K (.ref C_BadNumber) (.ref C_TooMany) = some false
  kit_BadNumber_ValueError : PySem.W.kitOne K (.ref C_BadNumber) (.type "ValueError") = some true
  kit_BadNumber_BadNumber : PySem.W.kitOne K (.ref C_BadNumber) (.ref C_BadNumber) = some true
theorem Txt.ec_BadNumber {K : PySem.W.Frag} {mg : Str → Option Value} {C_BadNumber C_TooMany C_ShelfError : Addr} (T : Txt K mg C_BadNumber C_TooMany C_ShelfError) : ExcC K C_BadNumber := ⟨T.ga_BadNumber, T.gg_BadNumber, T.b_BadNumber, T.hd_BadNumber, T.ha_BadNumber, T.hnc, T.htk, T.hm_BadNumber⟩
theorem Txt.ec_TooMany {K : PySem.W.Frag} {mg : Str → Option Value} {C_BadNumber C_TooMany C_ShelfError : Addr} (T : Txt K mg C_BadNumber C_TooMany C_ShelfError) : ExcC K C_TooMany := ⟨T.ga_TooMany, T.gg_TooMany, T.b_TooMany, T.hd_TooMany, T.ha_TooMany, T.hnc, T.htk, T.hm_TooMany⟩
theorem Txt.ec_ShelfError {K : PySem.W.Frag} {mg : Str → Option Value} {C_BadNumber C_TooMany C_ShelfError : Addr} (T : Txt K mg C_BadNumber C_TooMany C_ShelfError) : ExcC K C_ShelfError := ⟨T.ga_ShelfError, T.gg_ShelfError, T.b_ShelfError, T.hd_ShelfError, T.ha_ShelfError, T.hnc, T.htk, T.hm_ShelfError⟩
theorem Txt.exm_BadNumber_BadNumber {K : PySem.W.Frag} {mg : Str → Option Value} {C_BadNumber C_TooMany C_ShelfError : Addr} (T : Txt K mg C_BadNumber C_TooMany C_ShelfError) : PySem.W.exmOne K (.ref C_BadNumber) (.ref C_BadNumber) = some true := PySem.W.exm_ref T.b_BadNumber T.hd_BadNumber T.t_BadNumber T.sub_BadNumber_BadNumber
theorem Txt.exm_BadNumber_ShelfError {K : PySem.W.Frag} {mg : Str → Option Value} {C_BadNumber C_TooMany C_ShelfError : Addr} (T : Txt K mg C_BadNumber C_TooMany C_ShelfError) : PySem.W.exmOne K (.ref C_BadNumber) (.ref C_ShelfError) = some true := PySem.W.exm_ref T.b_ShelfError T.hd_ShelfError T.t_ShelfError T.sub_BadNumber_ShelfError

/-- a def that is called by its name, with its promise -/
def Cal (P : Program) (w : World) (K : PySem.W.Frag) (mg : Str → Option Value) (base : Heap) (CX : CXT) (k : Nat) (x : Str) (ps : List Str) (sp : Sp) : Prop :=
  ∃ (f : Addr) (fd : FuncData), FnOk P w K mg base CX k f fd ps sp ∧ mg x = some (.ref f) ∧ PySem.W.keepIn K (.ref f) = true ∧ Binds K fd ps []
/-- an own class's __init__; dvs: what stands for the parameters that a short call leaves out -/
def CalI (P : Program) (w : World) (K : PySem.W.Frag) (mg : Str → Option Value) (base : Heap) (CX : CXT) (k : Nat) (C : Addr) (ps : List Str) (sp : Sp) (dvs : List V) : Prop :=
  ∃ (f : Addr) (fd : FuncData), FnOk P w K mg base CX k f fd ps sp ∧ Mk K C f ∧ Binds K fd ps [] ∧ ∃ ds, Vals dvs ds ∧ Binds K fd ps ds
/-- an own error's __init__ -/
def CalX (P : Program) (w : World) (K : PySem.W.Frag) (mg : Str → Option Value) (base : Heap) (CX : CXT) (k : Nat) (C : Addr) (ps : List Str) (sp : Sp) : Prop :=
  ∃ (f : Addr) (fd : FuncData), FnOk P w K mg base CX k f fd ps sp ∧ PySem.W.findIn K (.ref C) "__init__" = some (some (.ref f)) ∧ PySem.W.typeIn K (.ref f) = some (.type "function") ∧ Binds K fd ps []
/-- a method -/
def CalM (P : Program) (w : World) (K : PySem.W.Frag) (mg : Str → Option Value) (base : Heap) (CX : CXT) (k : Nat) (C : Addr) (m : Str) (ps : List Str) (sp : Sp) : Prop :=
  ∃ (f : Addr) (fd : FuncData), FnOk P w K mg base CX k f fd ps sp ∧ Meth K C m f ∧ Binds K fd ps []
section
variable {P : Program} {w : World} {K : PySem.W.Frag} {mg : Str → Option Value} {base : Heap}
def sp_BadNumber___init__ (C : Addr) : Sp := fun vs H Q _ => ∃ (a : Addr) (x y : V), vs = [.ref a, x, y] ∧ H a = some (exo a C none) ∧ ∀ dx, H dx = none → dx ≠ a → Q .non (errH H a C dx "what" "at" x y)
theorem ok_BadNumber___init__ {f : Addr} {fd : FuncData} {C_BadNumber C_TooMany C_ShelfError : Addr} (F : Fun K "__init__" "BadNumber.__init__" s_BadNumber___init__ f fd) (T : Txt K mg C_BadNumber C_TooMany C_ShelfError) : FnOk P w K mg base CX0 1 f fd ["self", "what", "at"] (sp_BadNumber___init__ C_BadNumber) := by
  refine F.ok sc_BadNumber___init__ (fun vs H Q E h => ?_) (fun cdv A outer s H vs Q E hr h => ?_)
  · obtain ⟨a, x, y, rfl, _⟩ := h
    rfl
  · obtain ⟨a, x, y, rfl, ha, q⟩ := h
    refine ⟨_, (pss_cons (ps_ost (pv 0) (pv 1))
      (pss_one (ps_ost (pv 0) (pv 2)))), ?_⟩
    refine ⟨_, rfl, _, rfl, a, C_BadNumber, rfl, T.ox_BadNumber, T.n_BadNumber_what, .inl ⟨ha, fun dx nd ne => ?_⟩⟩
    exact ⟨_, rfl, _, rfl, a, C_BadNumber, rfl, T.ox_BadNumber, T.n_BadNumber_at, .inr ⟨dx, _, upd_same, (upd_ne ne).trans upd_same, by show 1 ≤ 900; decide, q dx nd ne⟩⟩
def sp_check_up_to (CB : Addr) : Sp := fun vs H Q E => ∃ (w : Str) (n m : Int), vs = [.str w, .int n, .int m] ∧ ((n < 0 ∨ m < n) → ∀ d, H d = none → E (.ref CB) (some d) (upd H d (.xd [("at", .non), ("what", .str w)]))) ∧ (0 ≤ n → n ≤ m → Q .non H)
theorem ok_check_up_to {f : Addr} {fd : FuncData} {C_BadNumber C_TooMany C_ShelfError : Addr} (F : Fun K "check_up_to" "check_up_to" s_check_up_to f fd) (T : Txt K mg C_BadNumber C_TooMany C_ShelfError) (c_BadNumber___init__ : CalX P w K mg base CX0 1 C_BadNumber ["self", "what", "at"] (sp_BadNumber___init__ C_BadNumber)) : FnOk P w K mg base (L2.CX P w) 3 f fd ["what", "number", "most"] (sp_check_up_to C_BadNumber) := by
  refine F.okX sc_check_up_to (fun vs H Q E h => ?_) (fun cdv A outer s H vs Q E hr h => ?_)
  · obtain ⟨w, n, m, rfl, _⟩ := h
    rfl
  · obtain ⟨w, n, m, rfl, kE, q⟩ := h
    obtain ⟨f_BadNumber___init__, fd_BadNumber___init__, G_BadNumber___init__, ic_BadNumber___init__, ti_BadNumber___init__, b_BadNumber___init__⟩ := c_BadNumber___init__
    refine ⟨_, (pss_one (ps_if (PW.pt (pw_or (pt_cmpR op_lt (pv 1) pe_int (nomark _)) (pw_or1 (pt_cmpR op_gt (pv 1) (pv 2) (nomark _))))) (pss_one (ps_raise rfl (takes_of rfl rfl rfl rfl) (pmk_oex T.ox_BadNumber ic_BadNumber___init__ ti_BadNumber___init__ G_BadNumber___init__ (hr.mono (by decide)) b_BadNumber___init__ .nil pass0 (by exact rfl) T.g_BadNumber (pa_cons (pv 0) (pa_cons pe_non pa_nil))))) pss_nil)), ?_⟩
    refine ⟨_, rfl, _, _, rfl, rfl, _, rfl, ite2 (fun c => ?_) (fun c => ⟨_, rfl, _, rfl, _, _, rfl, rfl, _, rfl, ite2 (fun c2 => ?_) (fun c2 => ?_)⟩)⟩
    · exact ⟨_, rfl, (by show 2 ≤ 1000; decide), fun a na => ⟨a, _, _, rfl, upd_same, fun dx nd ne => raise2 (kE (.inl (of_decide_eq_true c))) na nd ne⟩⟩
    · exact ⟨_, rfl, (by show 2 ≤ 1000; decide), fun a na => ⟨a, _, _, rfl, upd_same, fun dx nd ne => raise2 (kE (.inr (of_decide_eq_true c2))) na nd ne⟩⟩
    · have c : ¬ n < 0 := fun z => c (decide_eq_true z)
      have c2 : ¬ n > m := fun z => c2 (decide_eq_true z)
      exact q (by omega) (by omega)
def sp_dearest_order (K : PySem.W.Frag) : Sp := fun vs H Q _ => ∃ (a : Addr) (ns : List Int), vs = [.ref a] ∧ SqL K H a (ns.map V.int) ∧ ns.length ≤ 900 ∧
  ∀ (os : List Nat) (H' : Hp) (p : Addr), os.Perm (List.range ns.length) → os.Pairwise (Dear (pr ns)) → Same H H' → H p = none → H' p = some (.tup (nv os)) → Q (.ref p) H'

theorem ok_dearest_order {f : Addr} {fd : FuncData} {C_BadNumber C_TooMany C_ShelfError : Addr} (F : Fun K "dearest_order" "dearest_order" s_dearest_order f fd) (T : Txt K mg C_BadNumber C_TooMany C_ShelfError) (m_len : mg "len" = none) (m_range : mg "range" = none) (m_tuple : mg "tuple" = none) : FnOk P w K mg base CX0 1 f fd ["prices"] (sp_dearest_order K) := by
  refine F.ok sc_dearest_order (fun vs H Q E h => ?_) (fun cdv A outer s H vs Q E hr h => ?_)
  · obtain ⟨a, ns, rfl, _⟩ := h
    rfl
  · obtain ⟨a, ns, rfl, hS, hlen, q⟩ := h
    refine ⟨_, (pss_cons (ps_set (i := 1) sc_dearest_order.nd rfl (Or.inl rfl) (pe_lst pa_nil))
      (pss_cons (ps_for PassesOwn.never rfl (pi_range1 (by rfl) m_range (pa_cons (pe_callB call_len_seq (by rfl) m_len (by decide +kernel) (pa_cons (pv 0) pa_nil)) pa_nil)) (pg_name (i := 2) sc_dearest_order.nd rfl (Or.inl rfl))
      (pss_cons (ps_set (i := 3) sc_dearest_order.nd rfl (Or.inl rfl) (pe_callB call_len_seq (by rfl) m_len (by decide +kernel) (pa_cons (pv 1) pa_nil)))
      (pss_cons (ps_while PassesOwn.never (PW.pt (pw_and (pt_cmpR op_gt (pv 3) pe_int (nomark _)) (pw_and1 (pt_cmpR op_lt (pe_ix ix_list (pv 0) (pe_ix ix_list (pv 1) (pe_op op_sub (pv 3) pe_int) (fun _ _ => rfl)) (fun _ _ => rfl)) (pe_ix ix_list (pv 0) (pv 2) (fun _ _ => rfl)) (nomark _))))) (pss_one (ps_set (i := 3) sc_dearest_order.nd rfl (Or.inl rfl) (pe_op op_sub (pv 3) pe_int))))
      (pss_one (ps_expr (pe_bm PySem.F.plainAttrs_list PySem.F.slot_list_insert PySem.F.type_list_insert mt_insert (pv 1) (pa_cons (pv 3) (pa_cons (pv 2) pa_nil))))))))
      (pss_one (ps_ret (pe_callTy call_tuple_of (by rfl) m_tuple (by decide +kernel) (pa_cons (pv 1) pa_nil)))))), ?_⟩
    refine ⟨Nat.zero_le _, fun o no => ?_⟩
    have s1 : Same H (upd H o (.lst [])) := same_upd no
    refine ⟨.ref a, rfl, a, _, rfl, .inl (s1.seq hS), _, rfl, ?_⟩
    rw [List.length_map]
    refine ⟨by omega, by omega, ?_⟩
    rw [Int.toNat_natCast]
    refine for_range (lo := 0) (n := ns.length) (fun i σ H2 => ∃ (os : List Nat) (y1 y2 : Option V), σ = [some (.ref a), some (.ref o), y1, y2] ∧ os.Perm (List.range i) ∧ os.Pairwise (Dear (pr ns)) ∧ Same H H2 ∧ H2 o = some (.lst (nv os))) ⟨[], none, none, rfl, List.Perm.refl _, List.Pairwise.nil, s1, upd_same⟩ ?_ ?_
    · rintro i σ H2 hi ⟨os, y1, y2, rfl, hp, hw, s, hD⟩
      have hol : os.length = i := by
        rw [hp.length_eq, List.length_range]
      have hlt : ∀ x ∈ os, x < i := fun x hx => List.mem_range.mp (hp.mem_iff.mp hx)
      have hL : SqL K H2 o (nv os) := lst_l hD
      have hA : SqL K H2 a (ns.map V.int) := s.seq hS
      -- at = len(order)
      refine ⟨.ref o, rfl, o, _, rfl, .inl hL, ?_⟩
      rw [nv_len]
      -- while at > 0 and prices[order[at - 1]] < prices[thing]
      refine ⟨fun m σ H3 => H3 = H2 ∧ m ≤ os.length ∧ (∀ j x, m ≤ j → os[j]? = some x → pr ns x < pr ns i) ∧ σ = [some (.ref a), some (.ref o), some (.int (0 + (i : Int))), some (.int (m : Int))], ⟨os.length, rfl, Nat.le_refl _, fun j x hj hx => ?_, rfl⟩, ?_⟩
      · have := (List.getElem?_eq_some_iff.mp hx).1
        omega
      · rintro m σ H3 ⟨rfl, hm, hall, rfl⟩
        have fin : ∀ (hb : m = 0 ∨ ∃ y, os[m - 1]? = some y ∧ ¬ pr ns y < pr ns i), ∃ (os' : List Nat) (y1 y2 : Option V), [some (V.ref a), some (V.ref o), some (V.int (0 + (i : Int))), some (V.int (m : Int))] = [some (.ref a), some (.ref o), y1, y2] ∧ os'.Perm (List.range (i + 1)) ∧ os'.Pairwise (Dear (pr ns)) ∧ Same H (upd H3 o (.lst ((nv os).take (m : Int).toNat ++ [V.int (0 + (i : Int))] ++ (nv os).drop (m : Int).toNat))) ∧ (upd H3 o (.lst ((nv os).take (m : Int).toNat ++ [V.int (0 + (i : Int))] ++ (nv os).drop (m : Int).toNat))) o = some (.lst (nv os')) := fun hb =>
          ⟨os.take m ++ [i] ++ os.drop m, _, _, rfl, perm_insert hp, dear_insert hw hlt hall hb, same_mut s no, by rw [upd_same, Int.toNat_natCast, Int.zero_add, nv_ins]⟩
        refine ⟨_, rfl, _, _, rfl, rfl, _, rfl, ite2 (fun e => ?_) (fun e => ?_)⟩
        · have hm0 : 0 < m := by
            have := of_decide_eq_true e
            omega
          obtain ⟨x, hx⟩ : ∃ x, os[m - 1]? = some x := ⟨os[m - 1], List.getElem?_eq_getElem (by omega)⟩
          have hxi : x < i := hlt x (List.mem_of_getElem? hx)
          refine ⟨.ref a, rfl, .ref o, rfl, _, rfl, _, _, rfl, rfl, o, _, _, _, rfl, rfl, hL, at_of (j := m - 1) (by omega) (nv_at hx), a, _, _, _, rfl, rfl, hA, atI_nat (int_at (pr_at (by omega))),
            .ref a, rfl, .int (0 + (i : Int)), rfl, a, _, _, _, rfl, rfl, hA, at_of (Int.zero_add _) (int_at (pr_at hi)), _, _, rfl, rfl, _, rfl, ite2 (fun e2 => ?_) (fun e2 => ?_)⟩
          · have e2 := of_decide_eq_true e2
            refine ⟨fun σ' H' => H' = H3 ∧ σ' = [some (.ref a), some (.ref o), some (.int (0 + (i : Int))), some (.int (((m - 1 : Nat) : Nat) : Int))], fun σ' H' h => ⟨m - 1, by omega, h.1, by omega, fun j y hj hy => ?_, h.2⟩, ?_⟩
            · by_cases hjm : j = m - 1
              · subst hjm
                rw [hx] at hy
                cases hy
                exact e2
              · exact hall j y (by omega) hy
            · refine ⟨_, rfl, _, _, rfl, rfl, rfl, ?_⟩
              rw [show (((m - 1 : Nat) : Nat) : Int) = (m : Int) - 1 by omega]
              rfl
          · have e2 : ¬ pr ns x < pr ns i := fun z => e2 (decide_eq_true z)
            refine ⟨.ref o, rfl, .inl ⟨rfl, _, hL⟩, _, rfl, _, rfl, o, _, _, _, rfl, rfl, hD, ?_, by omega, by omega, fin (.inr ⟨x, hx, e2⟩)⟩
            rw [nv_len]
            exact small1000 (by omega)
        · have hm0 : m = 0 := by
            have : ¬ (0 : Int) < (m : Int) := fun z => e (decide_eq_true z)
            omega
          refine ⟨.ref o, rfl, .inl ⟨rfl, _, hL⟩, _, rfl, _, rfl, o, _, _, _, rfl, rfl, hD, ?_, by omega, by omega, fin (.inl hm0)⟩
          rw [nv_len]
          exact small1000 (by omega)
    · rintro σ H2 ⟨os, y1, y2, rfl, hp, hw, s, hD⟩
      exact ⟨.ref o, rfl, o, _, rfl, .inl ⟨lst_l hD, fun p np => q os _ p hp hw (same_mut s (s.free np)) (s.free np) upd_same⟩⟩
def sp_first_things (K : PySem.W.Frag) (CB : Addr) : Sp := fun vs H Q E => ∃ (t : Addr) (os : List Int) (k : Int), vs = [.ref t, .int k] ∧ H t = some (.tup (os.map V.int)) ∧ os.length ≤ 900 ∧
  ((k < 0 ∨ (os.length : Int) < k) → ∀ d, H d = none → E (.ref CB) (some d) (upd H d (.xd [("at", .non), ("what", .str "k")]))) ∧ (0 ≤ k → k ≤ (os.length : Int) → ∀ H' u, Same H H' → H' u = some (.tup ((firstK os k).map V.int)) → Q (.ref u) H')
theorem ok_first_things {f : Addr} {fd : FuncData} {C_BadNumber C_TooMany C_ShelfError : Addr} (F : Fun K "first_things" "first_things" s_first_things f fd) (T : Txt K mg C_BadNumber C_TooMany C_ShelfError) (m_int : mg "int" = none) (m_len : mg "len" = none) (m_sorted : mg "sorted" = none) (m_tuple : mg "tuple" = none) (c_check_up_to : Cal P w K mg base (L2.CX P w) 3 "check_up_to" ["what", "number", "most"] (sp_check_up_to C_BadNumber)) : FnOk P w K mg base (L2.CX P w) 4 f fd ["order", "k"] (sp_first_things K C_BadNumber) := by
  refine F.okX sc_first_things (fun vs H Q E h => ?_) (fun cdv A outer s H vs Q E hr h => ?_)
  · obtain ⟨t, os, k, rfl, _⟩ := h
    rfl
  · obtain ⟨t, os, k, rfl, ht, ol, kE, q⟩ := h
    obtain ⟨f_check_up_to, fd_check_up_to, G_check_up_to, m_check_up_to, k_check_up_to, b_check_up_to⟩ := c_check_up_to
    refine ⟨_, (pss_cons (ps_expr (pe_call G_check_up_to (hr.mono (by decide)) (by rfl) m_check_up_to k_check_up_to b_check_up_to .nil (passes_call (takes_of rfl rfl rfl rfl) (fun _ _ _ _ h => h)) (pa_cons pe_str (pa_cons (pv 1) (pa_cons (pe_callB call_len_seq (by rfl) m_len (by decide +kernel) (pa_cons (pv 0) pa_nil)) pa_nil)))))
      (pss_one (ps_ret (pe_callTy call_tuple_of (by rfl) m_tuple (by decide +kernel) (pa_cons (pe_callBK (cr_sortedInt hr.units) (by rfl) m_sorted (by decide +kernel) (pa_cons (pe_slice sl_tupA (pv 0) po_none (po_some (pv 1))) pa_nil) (pk_cons (pe_bltn (v := .ty "int") (by rfl) m_int (by decide +kernel) rfl) pk_nil)) pa_nil))))), ?_⟩
    refine ⟨_, rfl, _, rfl, t, _, rfl, .inr (tup_t ht), ?_⟩
    rw [List.length_map]
    refine ⟨_, k, _, rfl, kE, fun c c2 => ?_⟩
    obtain ⟨j, rfl⟩ : ∃ j : Nat, k = (j : Int) := ⟨k.toNat, by omega⟩
    refine ⟨_, rfl, _, rfl, (j : Int), rfl, ?_⟩
    refine sl_any ht fun H1 u s1 hu => ?_
    rw [cut_to, ← List.map_take] at hu
    refine ⟨u, os.take j, rfl, rfl, tup_t hu, by rw [List.length_take]; omega, fun p np => ?_⟩
    refine ⟨p, _, rfl, .inl ⟨lst_l upd_same, fun v nv => ?_⟩⟩
    exact q (by omega) (by omega) _ v ((s1.trans (same_upd np)).trans (same_upd nv)) upd_same
def sp_dearest (CB : Addr) : Sp := fun vs H Q E => ∃ (a : Addr) (ns : List Int) (k : Int), vs = [.ref a, .int k] ∧ H a = some (.lst (ns.map V.int)) ∧ ns.length ≤ 900 ∧
  ((k < 0 ∨ (ns.length : Int) < k) → ∀ H' d, Same H H' → H' d = some (.xd [("at", .non), ("what", .str "k")]) → E (.ref CB) (some d) H') ∧ (0 ≤ k → k ≤ (ns.length : Int) → ∀ (os : List Nat) H' u, os.Perm (List.range ns.length) → os.Pairwise (Dear (pr ns)) → Same H H' → H' u = some (.tup ((firstK (os.map fun (t : Nat) => (t : Int)) k).map V.int)) → Q (.ref u) H')
theorem ok_dearest {f : Addr} {fd : FuncData} {C_BadNumber C_TooMany C_ShelfError : Addr} (F : Fun K "dearest" "dearest" s_dearest f fd) (T : Txt K mg C_BadNumber C_TooMany C_ShelfError) (c_dearest_order : Cal P w K mg base CX0 1 "dearest_order" ["prices"] (sp_dearest_order K)) (c_first_things : Cal P w K mg base (L2.CX P w) 4 "first_things" ["order", "k"] (sp_first_things K C_BadNumber)) : FnOk P w K mg base (L2.CX P w) 5 f fd ["prices", "k"] (sp_dearest C_BadNumber) := by
  refine F.okX sc_dearest (fun vs H Q E h => ?_) (fun cdv A outer s H vs Q E hr h => ?_)
  · obtain ⟨a, ns, k, rfl, _⟩ := h
    rfl
  · obtain ⟨a, ns, k, rfl, ha, nl, kE, q⟩ := h
    obtain ⟨f_dearest_order, fd_dearest_order, G_dearest_order, m_dearest_order, k_dearest_order, b_dearest_order⟩ := c_dearest_order
    obtain ⟨f_first_things, fd_first_things, G_first_things, m_first_things, k_first_things, b_first_things⟩ := c_first_things
    refine ⟨_, (pss_one (ps_ret (pe_call G_first_things (hr.mono (by decide)) (by rfl) m_first_things k_first_things b_first_things .nil (passes_call (takes_of rfl rfl rfl rfl) (fun _ _ _ _ h => h)) (pa_cons (pe_call G_dearest_order (hr.mono (by decide)) (by rfl) m_dearest_order k_dearest_order b_dearest_order .nil pass0 (pa_cons (pv 0) pa_nil)) (pa_cons (pv 1) pa_nil))))), ?_⟩
    refine ⟨_, rfl, a, ns, rfl, lst_l ha, nl, fun os H1 p pm pw s1 np hp => ?_⟩
    have ol : os.length = ns.length := by rw [pm.length_eq, List.length_range]
    refine ⟨_, rfl, p, os.map fun (t : Nat) => (t : Int), k, rfl, hp, by rw [List.length_map]; omega, fun c d nd => ?_, fun c1 c2 H2 u s2 hu => ?_⟩
    · rw [List.length_map, ol] at c
      exact kE c _ d (s1.trans (same_upd nd)) upd_same
    · rw [List.length_map, ol] at c2
      exact q c1 c2 os H2 u pm pw (s1.trans s2) hu
def sp__law_cell (K : PySem.W.Frag) : Sp := fun vs H Q _ => ∃ (a : Addr) (ns : List Int) (j : Nat), vs = [.ref a, .int (j : Int)] ∧ SqL K H a (ns.map V.int) ∧ ∀ v : Int, Q (.int v) H
theorem ok__law_cell {f : Addr} {fd : FuncData} {C_BadNumber C_TooMany C_ShelfError : Addr} (F : Fun K "_law_cell" "_law_cell" s__law_cell f fd) (T : Txt K mg C_BadNumber C_TooMany C_ShelfError) (m_int : mg "int" = none) (m_len : mg "len" = none) : FnOk P w K mg base CX0 1 f fd ["_law_script", "_law_place"] (sp__law_cell K) := by
  refine F.ok sc__law_cell (fun vs H Q E h => ?_) (fun cdv A outer s H vs Q E hr h => ?_)
  · obtain ⟨a, ns, j, rfl, _⟩ := h
    rfl
  · obtain ⟨a, ns, j, rfl, hS, q⟩ := h
    refine ⟨_, (pss_cons (ps_if (pt_cmpR op_lt (pv 1) (pe_callB call_len_seq (by rfl) m_len (by decide +kernel) (pa_cons (pv 0) pa_nil)) (nomark _)) (pss_one (ps_ret (pe_callTy call_int1 (by rfl) m_int (by decide +kernel) (pa_cons (pe_ix ix_list (pv 0) (pv 1) (fun _ _ => rfl)) pa_nil)))) pss_nil)
      (pss_one (ps_ret pe_int))), ?_⟩
    refine ⟨_, rfl, .ref a, rfl, a, _, rfl, .inl hS, _, _, rfl, rfl, _, rfl, ite2 (fun e => ?_) (fun _ => q 0)⟩
    have hj : j < ns.length := by
      have e := of_decide_eq_true e
      rw [List.length_map] at e
      omega
    exact ⟨.ref a, rfl, .int (j : Int), rfl, a, _, _, _, rfl, rfl, hS, atI_nat (int_at (List.getElem?_eq_getElem hj)), .inl ⟨_, rfl, q _⟩⟩
def sp__law_draws (K : PySem.W.Frag) : Sp := fun vs H Q _ => ∃ (c : Int) (a : Addr) (ns : List Int), vs = [.int c, .ref a] ∧ SqL K H a (ns.map V.int) ∧ (∀ n ∈ ns, 0 < n ∧ n < 2 ^ 100) ∧ ns.length ≤ 1000 ∧
  ∀ ds H' p, Within ds ns → Same H H' → H p = none → H' p = some (.lst (ds.map V.int)) → Q (.ref p) H'

theorem ok__law_draws {f : Addr} {fd : FuncData} {C_BadNumber C_TooMany C_ShelfError : Addr} (F : Fun K "_law_draws" "_law_draws" s__law_draws f fd) (T : Txt K mg C_BadNumber C_TooMany C_ShelfError) (m_int : mg "int" = none) (m_len : mg "len" = none) (m_range : mg "range" = none) : FnOk P w K mg base CX0 1 f fd ["_law_cell_here", "_law_sizes"] (sp__law_draws K) := by
  refine F.ok sc__law_draws (fun vs H Q E h => ?_) (fun cdv A outer s H vs Q E hr h => ?_)
  · obtain ⟨c, a, ns, rfl, _⟩ := h
    rfl
  · obtain ⟨c, a, ns, rfl, hS, hn, hlen, q⟩ := h
    refine ⟨_, (pss_cons (ps_if (pt_cmpR op_eq (pv 0) pe_int (nomark _)) (pss_one (ps_ret (pe_lc (own := [("_law_size", 2)]) (g := (gName 2)) (tt := tYes) rfl sc__law_draws.nd (pi_list (pv 1)) (blkOk_by (own := [("_law_size", 2)]) (N := ["_law_cell_here", "_law_sizes", "_law_size", "_law_left", "_law_found", "_law_k", "_law_low", "_law_high"]) (sc := defScope s__law_draws) (by decide +kernel)) (fun _ _ _ _ _ => (pg_name (i := 2) sc__law_draws.nd rfl (Or.inl rfl))) (fun _ _ _ _ _ => pts_nil) (fun _ _ _ _ _ => pe_int)))) pss_nil)
      (pss_cons (ps_if (pt_cmpR op_ge (pv 0) (pe_op op_pow pe_int pe_int) (nomark _)) (pss_cons (ps_set (i := 3) sc__law_draws.nd rfl (Or.inl rfl) (pe_op op_sub (pv 0) (pe_op op_pow pe_int pe_int)))
      (pss_cons (ps_set (i := 4) sc__law_draws.nd rfl (Or.inl rfl) (pe_lst pa_nil))
      (pss_cons (ps_for PassesOwn.never rfl (pi_list (pv 1)) (pg_name (i := 2) sc__law_draws.nd rfl (Or.inl rfl))
      (pss_cons (ps_expr (pe_bm PySem.F.plainAttrs_list PySem.F.slot_list_append PySem.F.type_list_append mt_append (pv 4) (pa_cons (pe_op op_mod (pe_callTy call_int1 (by rfl) m_int (by decide +kernel) (pa_cons (pv 3) pa_nil)) (pv 2)) pa_nil)))
      (pss_one (ps_set (i := 3) sc__law_draws.nd rfl (Or.inl rfl) (pe_op op_fdivW (pv 3) (pv 2))))))
      (pss_one (ps_ret (pv 4)))))) pss_nil)
      (pss_cons (ps_set (i := 4) sc__law_draws.nd rfl (Or.inl rfl) (pe_lst pa_nil))
      (pss_cons (ps_for PassesOwn.never rfl (pi_range1 (by rfl) m_range (pa_cons (pe_callB call_len_seq (by rfl) m_len (by decide +kernel) (pa_cons (pv 1) pa_nil)) pa_nil)) (pg_name (i := 5) sc__law_draws.nd rfl (Or.inl rfl))
      (pss_cons (ps_set (i := 6) sc__law_draws.nd rfl (Or.inl rfl) (pe_op op_mod (pe_callTy call_int1 (by rfl) m_int (by decide +kernel) (pa_cons (pe_op op_add (pe_op op_mul (pv 0) pe_int) (pe_op op_mul (pe_op op_add (pv 5) pe_int) pe_int)) pa_nil)) pe_int))
      (pss_cons (ps_set (i := 6) sc__law_draws.nd rfl (Or.inl rfl) (pe_op op_mod (pe_callTy call_int1 (by rfl) m_int (by decide +kernel) (pa_cons (pe_op op_add (pe_op op_mul (pv 6) pe_int) (pe_op op_mul (pe_op op_add (pv 5) pe_int) pe_int)) pa_nil)) pe_int))
      (pss_cons (ps_set (i := 7) sc__law_draws.nd rfl (Or.inl rfl) (pe_op op_mod (pe_callTy call_int1 (by rfl) m_int (by decide +kernel) (pa_cons (pe_op op_add (pe_op op_mul (pv 0) pe_int) (pe_op op_mul (pe_op op_add (pv 5) pe_int) pe_int)) pa_nil)) pe_int))
      (pss_cons (ps_set (i := 7) sc__law_draws.nd rfl (Or.inl rfl) (pe_op op_mod (pe_callTy call_int1 (by rfl) m_int (by decide +kernel) (pa_cons (pe_op op_add (pe_op op_mul (pv 7) pe_int) (pv 6)) pa_nil)) pe_int))
      (pss_one (ps_expr (pe_bm PySem.F.plainAttrs_list PySem.F.slot_list_append PySem.F.type_list_append mt_append (pv 4) (pa_cons (pe_op op_mod (pe_callTy call_int1 (by rfl) m_int (by decide +kernel) (pa_cons (pe_op op_add (pe_op op_mul (pv 7) pe_int) (pv 6)) pa_nil)) (pe_ix ix_list (pv 1) (pv 5) (fun _ _ => rfl))) pa_nil)))))))))
      (pss_one (ps_ret (pv 4))))))), ?_⟩
    have small : ∀ {ds : List Int} {i : Nat}, Within ds (ns.take i) → (ds.map V.int).length < sizeLine := fun {ds i} w => by
      rw [List.length_map, w.len, List.length_take]
      exact small1000 (by omega)
    refine ⟨_, rfl, rfl, _, rfl, ite2 (fun _ => ?_) (fun _ => ?_)⟩
    · -- [0 for size in sizes]
      refine ⟨.ref a, rfl, a, rfl, ⟨_, hS⟩, fun D nD => lc_list (K := K) (a := a) (xs := ns.map V.int) (fun i H2 => ∃ ds : List Int, Same H H2 ∧ H2 D = some (.lst (ds.map V.int)) ∧ Within ds (ns.take i)) ⟨[], same_upd nD, upd_same, Within.zero ns⟩ (fun i H2 _ ⟨_, s, _⟩ => s.seq hS) ?_ ?_⟩
      · rintro i x H2 hi ⟨ds, s, hD, w⟩
        obtain ⟨n, rfl, hin⟩ := int_of hi
        refine ⟨rfl, ?_⟩
        refine lc_yes ?_
        refine iteT ?_
        exact ⟨_, hD, small w, ds ++ [0], same_mut s nD, by rw [upd_same, ← snoc_int], w.step hin (Int.le_refl 0) (hn n (List.mem_of_getElem? hin)).1⟩
      · rintro H2 ⟨ds, s, hD, w⟩
        rw [List.length_map] at w
        exact q ds H2 D w.full s nD hD
    refine ⟨_, rfl, 10, 18, rfl, rfl, ⟨by decide, by decide, by decide⟩, _, _, rfl, rfl, _, rfl, ite2 (fun _ => ?_) (fun _ => ?_)⟩
    · -- left = cell - 10 ** 18; found = []
      refine ⟨_, rfl, 10, 18, rfl, rfl, ⟨by decide, by decide, by decide⟩, _, _, rfl, rfl, ?_⟩
      refine ⟨Nat.zero_le _, fun o no => ?_⟩
      have s1 : Same H (upd H o (.lst [])) := same_upd no
      refine ⟨.ref a, rfl, a, rfl, ⟨_, s1.seq hS⟩, for_list (K := K) (a := a) (xs := ns.map V.int) (fun i σ H2 => ∃ (ds : List Int) (l : Int) (y : Option V), σ = [some (.int c), some (.ref a), y, some (.int l), some (.ref o), none, none, none] ∧ Same H H2 ∧ H2 o = some (.lst (ds.map V.int)) ∧ Within ds (ns.take i))
        ⟨[], _, none, rfl, s1, upd_same, Within.zero ns⟩ (fun i σ H2 _ ⟨_, _, _, _, s, _⟩ => s.seq hS) ?_ ?_⟩
      · rintro i x σ H2 hi ⟨ds, l, y, rfl, s, hD, w⟩
        obtain ⟨n, rfl, hin⟩ := int_of hi
        obtain ⟨n0, n1⟩ := hn n (List.mem_of_getElem? hin)
        refine ⟨.ref o, rfl, .inl ⟨rfl, _, lst_l hD⟩, _, rfl, .inl ⟨l, rfl, _, rfl, _, _, rfl, rfl, n0, o, _, _, rfl, rfl, hD, small w, ?_⟩⟩
        refine ⟨_, rfl, _, rfl, _, _, rfl, rfl, w_div n0 n1, ds ++ [l % n], _, _, rfl, same_mut s no, by rw [upd_same, ← snoc_int], w.step hin (Int.emod_nonneg _ (by omega)) (Int.emod_lt_of_pos _ n0)⟩
      · rintro σ H2 ⟨ds, l, y, rfl, s, hD, w⟩
        rw [List.length_map] at w
        exact ⟨_, rfl, q ds H2 o w.full s no hD⟩
    · refine ⟨Nat.zero_le _, fun o no => ?_⟩
      have s1 : Same H (upd H o (.lst [])) := same_upd no
      refine ⟨.ref a, rfl, a, _, rfl, .inl (s1.seq hS), _, rfl, ?_⟩
      rw [List.length_map]
      refine ⟨by omega, by omega, ?_⟩
      rw [Int.toNat_natCast]
      refine for_range (lo := 0) (n := ns.length) (fun i σ H2 => ∃ (ds : List Int) (y1 y2 y3 : Option V), σ = [some (.int c), some (.ref a), none, none, some (.ref o), y1, y2, y3] ∧ Same H H2 ∧ H2 o = some (.lst (ds.map V.int)) ∧ Within ds (ns.take i))
        ⟨[], none, none, none, rfl, s1, upd_same, Within.zero ns⟩ ?_ ?_
      · rintro i σ H2 hi ⟨ds, y1, y2, y3, rfl, s, hD, w⟩
        have hin : ns[i]? = some ns[i] := List.getElem?_eq_getElem hi
        obtain ⟨n0, n1⟩ := hn ns[i] (List.getElem_mem hi)
        refine ⟨_, rfl, _, _, rfl, rfl, .inr ⟨by decide, by decide⟩, _, rfl, _, _, rfl, rfl, _, _, rfl, rfl, .inr ⟨by decide, by decide⟩, _, _, rfl, rfl, .inl ⟨_, rfl, _, _, rfl, rfl, (show (0 : Int) < 2147483647 by decide), ?_⟩⟩
        refine ⟨_, rfl, _, _, rfl, rfl, .inr ⟨by decide, by decide⟩, _, rfl, _, _, rfl, rfl, _, _, rfl, rfl, .inr ⟨by decide, by decide⟩, _, _, rfl, rfl, .inl ⟨_, rfl, _, _, rfl, rfl, (show (0 : Int) < 2147483399 by decide), ?_⟩⟩
        refine ⟨_, rfl, _, _, rfl, rfl, .inr ⟨by decide, by decide⟩, _, rfl, _, _, rfl, rfl, _, _, rfl, rfl, .inr ⟨by decide, by decide⟩, _, _, rfl, rfl, .inl ⟨_, rfl, _, _, rfl, rfl, (show (0 : Int) < 2147483563 by decide), ?_⟩⟩
        refine ⟨_, rfl, _, _, rfl, rfl, .inr ⟨by decide, by decide⟩, _, rfl, _, _, rfl, rfl, .inl ⟨_, rfl, _, _, rfl, rfl, (show (0 : Int) < 2147483587 by decide), ?_⟩⟩
        refine ⟨.ref o, rfl, .inl ⟨rfl, _, lst_l hD⟩, _, rfl, _, _, rfl, rfl, .inr ⟨by decide, by decide⟩, _, rfl, _, _, rfl, rfl, .inl ⟨_, rfl, .ref a, rfl, .int (0 + (i : Int)), rfl, a, _, _, _, rfl, rfl, s.seq hS, at_of (Int.zero_add _) (int_at hin), _, _, rfl, rfl, n0, o, _, _, rfl, rfl, hD, small w, ?_⟩⟩
        exact ⟨ds ++ [_], _, _, _, rfl, same_mut s no, by rw [upd_same, ← snoc_int], w.step hin (Int.emod_nonneg _ (by omega)) (Int.emod_lt_of_pos _ n0)⟩
      · rintro σ H2 ⟨ds, y1, y2, y3, rfl, s, hD, w⟩
        exact ⟨_, rfl, q ds H2 o w.full s no hD⟩
def sp__law_row (K : PySem.W.Frag) : Sp := fun vs H Q _ => ∃ (c : Int) (m : Nat), vs = [.int c, .int (m : Int)] ∧ m ≤ 900 ∧ ∀ (ns : List Int) (H' : Hp) (p : Addr), ns.length = m → (∀ n ∈ ns, 0 ≤ n ∧ n < 10 ^ 18 - 1) → Same H H' → H p = none → H' p = some (.lst (ns.map V.int)) → Q (.ref p) H'

theorem ok__law_row {f : Addr} {fd : FuncData} {C_BadNumber C_TooMany C_ShelfError : Addr} (F : Fun K "_law_row" "_law_row" s__law_row f fd) (T : Txt K mg C_BadNumber C_TooMany C_ShelfError) (m_int : mg "int" = none) (m_range : mg "range" = none) (c__law_draws : Cal P w K mg base CX0 1 "_law_draws" ["_law_cell_here", "_law_sizes"] (sp__law_draws K)) : FnOk P w K mg base CX0 2 f fd ["_law_cell_here", "_law_count"] (sp__law_row K) := by
  refine F.ok sc__law_row (fun vs H Q E h => ?_) (fun cdv A outer s H vs Q E hr h => ?_)
  · obtain ⟨c, m, rfl, _⟩ := h
    rfl
  · obtain ⟨c, m, rfl, hm, q⟩ := h
    obtain ⟨f__law_draws, fd__law_draws, G__law_draws, m__law_draws, k__law_draws, b__law_draws⟩ := c__law_draws
    refine ⟨_, (pss_cons (ps_set (i := 2) sc__law_row.nd rfl (Or.inl rfl) (pe_call G__law_draws (hr.mono (by decide)) (by rfl) m__law_draws k__law_draws b__law_draws .nil pass0 (pa_cons (pv 0) (pa_cons (pe_op op_cat (pe_lst (pa_cons pe_int pa_nil)) (pe_lc (own := [("_law_k", 5)]) (g := (gName 5)) (tt := tYes) rfl sc__law_row.nd (pi_range1 (by rfl) m_range (pa_cons (pv 1) pa_nil)) (blkOk_by (own := [("_law_k", 5)]) (N := ["_law_cell_here", "_law_count", "_law_drawn", "_law_bound", "_law_value", "_law_k"]) (sc := defScope s__law_row) (by decide +kernel)) (fun _ _ _ _ _ => (pg_name (i := 5) sc__law_row.nd rfl (Or.inl rfl))) (fun _ _ _ _ _ => pts_nil) (fun _ _ _ _ _ => (pe_op op_pow pe_int pe_int)))) pa_nil))))
      (pss_cons (ps_set (i := 3) sc__law_row.nd rfl (Or.inr rfl) (pe_ix ix_list (pe_lst (pa_cons pe_int (pa_cons pe_int (pa_cons (pe_op op_pow pe_int pe_int) (pa_cons (pe_op op_sub (pe_op op_pow pe_int pe_int) pe_int) pa_nil))))) (pe_ix ix_list (pv 2) pe_int (fun _ _ => rfl)) (fun _ _ => rfl)))
      (pss_one (ps_ret (pe_lc (own := [("_law_value", 4)]) (g := (gName 4)) (tt := tYes) rfl sc__law_row.nd (pi_list (pe_slice sl_list (pv 2) (po_some pe_int) po_none)) (blkOk_by (own := [("_law_value", 4)]) (N := ["_law_cell_here", "_law_count", "_law_drawn", "_law_bound", "_law_value", "_law_k"]) (sc := defScope s__law_row) (by decide +kernel)) (fun _ _ _ _ _ => (pg_name (i := 4) sc__law_row.nd rfl (Or.inl rfl))) (fun _ _ _ _ _ => pts_nil) (fun _ _ _ _ _ => (pe_op op_mod (pe_callTy call_int1 (by rfl) m_int (by decide +kernel) (pa_cons (pv 4) pa_nil)) (pv 3)))))))), ?_⟩
    -- draws(cell, [4] + [10 ** 18 for k in range(count)])
    refine ⟨_, rfl, small1000 (by decide), fun p1 n1 => ?_⟩
    have s1 : Same H (upd H p1 (.lst [V.int 4])) := same_upd n1
    refine ⟨_, rfl, _, rfl, by omega, by omega, ?_⟩
    rw [Int.toNat_natCast]
    refine fun D nD => lc_range (lo := 0) (n := m) (fun i H2 => Same (upd H p1 (.lst [V.int 4])) H2 ∧ H2 D = some (.lst ((List.replicate i (10 ^ 18 : Int)).map V.int))) ⟨same_upd nD, upd_same⟩ ?_ ?_
    · rintro i H2 hi ⟨s, hD⟩
      refine ⟨rfl, ?_⟩
      refine lc_yes ?_
      refine iteT ?_
      refine ⟨10, 18, rfl, rfl, ⟨by decide, by decide, by decide⟩, _, hD, ?_, same_mut s nD, ?_⟩
      · rw [List.length_map, List.length_replicate]
        exact small1000 (by omega)
      · rw [upd_same, List.replicate_succ', ← snoc_int]
        rfl
    rintro H2 ⟨s2, hD⟩
    refine ⟨p1, D, _, _, rfl, rfl, s2 _ _ upd_same, hD, ?_, fun p3 n3 => ?_⟩
    · rw [List.length_map, List.length_replicate]
      exact Nat.le_of_lt (small1000 (by show 1 + m ≤ 1000; omega))
    have s3 : Same H (upd H2 p3 (.lst ((4 :: List.replicate m (10 ^ 18 : Int)).map V.int))) := (s1.trans s2).trans (same_upd n3)
    refine ⟨c, p3, 4 :: List.replicate m (10 ^ 18 : Int), rfl, lst_l upd_same, ?_, ?_, fun ds H4 d w s4 nd hd => ?_⟩
    · intro n hn
      rcases List.mem_cons.mp hn with rfl | hn
      · decide
      · rw [(List.mem_replicate.mp hn).2]
        exact big18
    · rw [List.length_cons, List.length_replicate]
      omega
    obtain ⟨d0, r, rfl, l0, u0, w⟩ := w.c
    have hr : r.length = m := by
      rw [w.len, List.length_replicate]
    have hL : SqL K H4 d ((d0 :: r).map V.int) := lst_l hd
    have sH : Same H H4 := s3.trans s4
    -- bound = [4, 30, 10 ** 9, 10 ** 18 - 1][drawn[0]]
    refine ⟨10, 9, rfl, rfl, ⟨by decide, by decide, by decide⟩, 10, 18, rfl, rfl, ⟨by decide, by decide, by decide⟩, _, _, rfl, rfl, small1000 (by decide), fun p5 n5 => ?_⟩
    obtain ⟨b, hb, b0, b1⟩ : ∃ b : Int, atI [V.int 4, V.int 30, V.int (10 ^ 9), V.int (10 ^ 18 - 1)] d0 = some (V.int b) ∧ 0 < b ∧ b ≤ 10 ^ 18 - 1 := by
      rcases (by omega : d0 = 0 ∨ d0 = 1 ∨ d0 = 2 ∨ d0 = 3) with rfl | rfl | rfl | rfl
      · exact ⟨4, rfl, by decide, by decide⟩
      · exact ⟨30, rfl, by decide, by decide⟩
      · exact ⟨10 ^ 9, rfl, by decide, by decide⟩
      · exact ⟨10 ^ 18 - 1, rfl, by decide, by decide⟩
    have s5 := same_upd (o := .lst [V.int 4, V.int 30, V.int (10 ^ 9), V.int (10 ^ 18 - 1)]) n5
    refine ⟨.ref d, rfl, d, _, _, .int d0, rfl, rfl, s5.seq hL, atI_nat (j := 0) rfl, p5, _, _, .int b, rfl, rfl, lst_l upd_same, hb, ?_⟩
    -- [int(value) % bound for value in drawn[1:]]
    refine ⟨.ref d, rfl, 1, rfl, d, _, rfl, s5.seq hL, fun p6 n6 => ?_⟩
    rw [cut_from1]
    have s6 := same_upd (o := .lst (((d0 :: r).map V.int).drop 1)) n6
    have sT : Same H _ := (sH.trans s5).trans s6
    refine ⟨p6, rfl, ⟨r.map V.int, lst_l upd_same⟩, fun D nD => lc_list (K := K) (a := p6) (xs := r.map V.int) (fun i H2 => Same (upd (upd H4 p5 (.lst [V.int 4, V.int 30, V.int (10 ^ 9), V.int (10 ^ 18 - 1)])) p6 (.lst (((d0 :: r).map V.int).drop 1))) H2 ∧ H2 D = some (.lst (((r.take i).map fun v => v % b).map V.int))) ⟨same_upd nD, upd_same⟩ (fun i H2 _ ⟨s, _⟩ => s.seq (lst_l upd_same)) ?_ ?_⟩
    · rintro i x H2 hi ⟨s, hD⟩
      obtain ⟨n, rfl, hin⟩ := int_of hi
      refine ⟨rfl, ?_⟩
      refine lc_yes ?_
      refine iteT ?_
      refine ⟨_, rfl, .inl ⟨n, rfl, _, rfl, _, _, rfl, rfl, b0, _, hD, ?_, same_mut s nD, ?_⟩⟩
      · rw [List.length_map, List.length_map, List.length_take]
        exact small1000 (by omega)
      · rw [upd_same, List.take_add_one, hin, List.map_append, List.map_append]
        rfl
    · rintro H2 ⟨s, hD⟩
      rw [List.length_map, List.take_length] at hD
      refine q (r.map fun v => v % b) H2 D (by rw [List.length_map, hr]) ?_ (sT.trans s) (sT.free nD) hD
      intro n hn
      obtain ⟨x, _, rfl⟩ := List.mem_map.mp hn
      have h1 := Int.emod_nonneg x (show b ≠ 0 by omega)
      have h2 := Int.emod_lt_of_pos x b0
      omega
def sp__law_shuffled (K : PySem.W.Frag) : Sp := fun vs H Q _ => ∃ (a b : Addr) (ps ns : List Int), vs = [.ref a, .ref b] ∧ H a = some (.lst (ps.map V.int)) ∧ H b = some (.tup (ns.map V.int)) ∧ ps.length = ns.length ∧ ns.length ≤ 900 ∧ ∀ H' p (fs : List Int), Same H H' → H' p = some (.lst (fs.map V.int)) → fs.Perm ns → Q (.ref p) H' 
theorem ok__law_shuffled {f : Addr} {fd : FuncData} {C_BadNumber C_TooMany C_ShelfError : Addr} (F : Fun K "_law_shuffled" "_law_shuffled" s__law_shuffled f fd) (T : Txt K mg C_BadNumber C_TooMany C_ShelfError) (m_int : mg "int" = none) (m_len : mg "len" = none) (m_list : mg "list" = none) : FnOk P w K mg base CX0 1 f fd ["_law_places", "_law_things_here"] (sp__law_shuffled K) := by
  refine F.ok sc__law_shuffled (fun vs H Q E h => ?_) (fun cdv A outer s H vs Q E hr h => ?_)
  · obtain ⟨a, b, ps, ns, rfl, _⟩ := h
    rfl
  · obtain ⟨a, b, ps, ns, rfl, ha, hb, pl, nl, q⟩ := h
    refine ⟨_, (pss_cons (ps_set (i := 2) sc__law_shuffled.nd rfl (Or.inl rfl) (pe_callTy call_list_of (by rfl) m_list (by decide +kernel) (pa_cons (pv 1) pa_nil)))
      (pss_cons (ps_set (i := 3) sc__law_shuffled.nd rfl (Or.inl rfl) (pe_lst pa_nil))
      (pss_cons (ps_for PassesOwn.never rfl (pi_list (pv 0)) (pg_name (i := 4) sc__law_shuffled.nd rfl (Or.inl rfl))
      (pss_one (ps_if (pt_cmpR op_gt (pe_callB call_len_seq (by rfl) m_len (by decide +kernel) (pa_cons (pv 2) pa_nil)) pe_int (nomark _)) (pss_one (ps_expr (pe_bm PySem.F.plainAttrs_list PySem.F.slot_list_append PySem.F.type_list_append mt_append (pv 3) (pa_cons (pe_bm PySem.F.plainAttrs_list PySem.F.slot_list_pop PySem.F.type_list_pop mt_popAt (pv 2) (pa_cons (pe_op op_mod (pe_callTy call_int1 (by rfl) m_int (by decide +kernel) (pa_cons (pv 4) pa_nil)) (pe_callB call_len_seq (by rfl) m_len (by decide +kernel) (pa_cons (pv 2) pa_nil))) pa_nil)) pa_nil)))) pss_nil)))
      (pss_one (ps_ret (pv 3)))))), ?_⟩
    refine ⟨_, rfl, b, _, rfl, .inr (tup_t hb), fun L nL => ?_⟩
    have s1 := same_upd (o := .lst (ns.map V.int)) nL
    refine ⟨Nat.zero_le _, fun o no => ?_⟩
    have no' : H o = none := s1.free no
    have oL : L ≠ o := fun z => by
      rw [← z, upd_same] at no
      cases no
    refine ⟨.ref a, rfl, a, rfl, ⟨_, lst_l ((s1.trans (same_upd no)) _ _ ha)⟩, for_list (K := K) (a := a) (xs := ps.map V.int) (fun i σ H2 => ∃ (ls fs : List Int) (y : Option V), σ = [some (.ref a), some (.ref b), some (.ref L), some (.ref o), y] ∧ Same H H2 ∧ H2 L = some (.lst (ls.map V.int)) ∧ H2 o = some (.lst (fs.map V.int)) ∧ ls.length + i = ns.length ∧ (fs ++ ls).Perm ns)
      ⟨ns, [], none, rfl, s1.trans (same_upd no), (upd_ne oL).trans upd_same, upd_same, rfl, List.Perm.refl _⟩ (fun i σ H2 _ ⟨_, _, _, _, s, _⟩ => lst_l (s _ _ ha)) ?_ ?_⟩
    · rintro i x σ H2 hi ⟨ls, fs, y, rfl, s, hL, ho, ll, pf⟩
      obtain ⟨v, rfl, hin⟩ := int_of hi
      have il := (List.getElem?_eq_some_iff.mp hin).1
      refine ⟨_, rfl, L, _, rfl, .inl (lst_l hL), _, _, rfl, rfl, _, rfl, ite2 (fun c => ?_) (fun c => ?_)⟩
      · have j0 := Int.emod_nonneg v (show (ls.length : Int) ≠ 0 by omega)
        have j1 := Int.emod_lt_of_pos v (show (0 : Int) < ls.length by omega)
        obtain ⟨k, hk⟩ : ∃ k : Nat, v % (ls.length : Int) = (k : Int) := ⟨(v % (ls.length : Int)).toNat, by omega⟩
        have kl : k < ls.length := by omega
        have lf := pf.length_eq
        rw [List.length_append] at lf
        refine ⟨.ref o, rfl, .inl ⟨rfl, _, lst_l ho⟩, .ref L, rfl, .inl ⟨rfl, _, lst_l hL⟩, _, rfl, .inl ⟨v, rfl, .ref L, rfl, L, _, rfl, .inl (lst_l hL), ?_⟩⟩
        rw [List.length_map]
        refine ⟨_, _, rfl, rfl, by omega, ?_⟩
        refine ⟨L, _, _, k, .int ls[k], rfl, rfl, hL, by show -(2 ^ 63) ≤ v % (ls.length : Int); omega, by show v % (ls.length : Int) < 2 ^ 63; omega, ?_, int_at (List.getElem?_eq_getElem kl), ?_⟩
        · rw [List.length_map]
          show seqIndex? (v % (ls.length : Int)) ls.length = some k
          rw [hk]
          unfold seqIndex?
          simp
          omega
        have ho2 : upd H2 L (.lst ((ls.map V.int).eraseIdx k)) o = some (.lst (fs.map V.int)) := (upd_ne (Ne.symm oL)).trans ho
        refine ⟨o, _, _, rfl, rfl, ho2, ?_, ls.eraseIdx k, fs ++ [ls[k]], _, rfl, same_mut (same_mut s nL) no', ?_, ?_, ?_, ?_⟩
        · rw [List.length_map]
          exact small1000 (by omega)
        · rw [upd_ne oL, upd_same, map_erase]
        · rw [upd_same, ← snoc_int]
        · rw [List.length_eraseIdx, if_pos kl]
          omega
        · rw [List.append_assoc]
          refine (List.Perm.append_left fs ?_).trans pf
          exact erase_perm kl
      · exfalso
        refine c (decide_eq_true ?_)
        rw [List.length_map]
        omega
    · rintro σ H2 ⟨ls, fs, y, rfl, s, hL, ho, ll, pf⟩
      rw [List.length_map] at ll
      have e : ls = [] := List.eq_nil_of_length_eq_zero (by omega)
      rw [e, List.append_nil] at pf
      exact ⟨_, rfl, q H2 o fs s ho pf⟩
def sp__law_is_int : Sp := fun vs H Q _ => ∃ v : Int, vs = [.int v] ∧ Q (.bl true) H
theorem ok__law_is_int {f : Addr} {fd : FuncData} {C_BadNumber C_TooMany C_ShelfError : Addr} (F : Fun K "_law_is_int" "_law_is_int" s__law_is_int f fd) (T : Txt K mg C_BadNumber C_TooMany C_ShelfError) (m_bool : mg "bool" = none) (m_int : mg "int" = none) (m_isinstance : mg "isinstance" = none) : FnOk P w K mg base CX0 1 f fd ["_law_x"] sp__law_is_int := by
  refine F.ok sc__law_is_int (fun vs H Q E h => ?_) (fun cdv A outer s H vs Q E hr h => ?_)
  · obtain ⟨v, rfl, _⟩ := h
    rfl
  · obtain ⟨v, rfl, q⟩ := h
    refine ⟨_, (pss_one (ps_ret (pe_and (pe_callB call_isi (by rfl) m_isinstance (by decide +kernel) (pa_cons (pv 0) (pa_cons (pe_bltn (v := .ty "int") (by rfl) m_int (by decide +kernel) rfl) pa_nil))) (pe_one (pe_not (pe_callB call_isi (by rfl) m_isinstance (by decide +kernel) (pa_cons (pv 0) (pa_cons (pe_bltn (v := .ty "bool") (by rfl) m_bool (by decide +kernel) rfl) pa_nil)))))))), ?_⟩
    exact ⟨_, rfl, .int v, .ty "int", _, _, true, rfl, .ty "int", .base (.int v), kit_ty kI, true, rfl, iteT ⟨_, rfl, .int v, .ty "bool", _, _, false, rfl, .ty "bool", .base (.int v), kit_ty kB, false, rfl, q⟩⟩
def sp__law_same_lot (K : PySem.W.Frag) : Sp := fun vs H Q _ => ∃ (a b : Addr) (ns : List Int), vs = [.ref a, .ref b] ∧ H a = some (.tup (ns.map V.int)) ∧ SqT K H b (ns.map V.int) ∧ ns.length ≤ 1000 ∧ Q (.bl true) H
theorem ok__law_same_lot {f : Addr} {fd : FuncData} {C_BadNumber C_TooMany C_ShelfError : Addr} (F : Fun K "_law_same_lot" "_law_same_lot" s__law_same_lot f fd) (T : Txt K mg C_BadNumber C_TooMany C_ShelfError) (m_isinstance : mg "isinstance" = none) (m_len : mg "len" = none) (m_range : mg "range" = none) (m_tuple : mg "tuple" = none) (c__law_is_int : Cal P w K mg base CX0 1 "_law_is_int" ["_law_x"] sp__law_is_int) : FnOk P w K mg base CX0 2 f fd ["_law_x", "_law_due"] (sp__law_same_lot K) := by
  refine F.ok sc__law_same_lot (fun vs H Q E h => ?_) (fun cdv A outer s H vs Q E hr h => ?_)
  · obtain ⟨a, b, ns, rfl, _⟩ := h
    rfl
  · obtain ⟨a, b, ns, rfl, hA, hB, hlen, q⟩ := h
    obtain ⟨f__law_is_int, fd__law_is_int, G__law_is_int, m__law_is_int, k__law_is_int, b__law_is_int⟩ := c__law_is_int
    refine ⟨_, (pss_cons (ps_if (PW.pt (pw_or (pt_not (pt_val (pe_callB call_isi (by rfl) m_isinstance (by decide +kernel) (pa_cons (pv 0) (pa_cons (pe_bltn (v := .ty "tuple") (by rfl) m_tuple (by decide +kernel) rfl) pa_nil))))) (pw_or1 (pt_cmpR op_ne (pe_callB call_len_seq (by rfl) m_len (by decide +kernel) (pa_cons (pv 0) pa_nil)) (pe_callB call_len_seq (by rfl) m_len (by decide +kernel) (pa_cons (pv 1) pa_nil)) (nomark _))))) (pss_one (ps_ret pe_bl)) pss_nil)
      (pss_cons (ps_for PassesOwn.never rfl (pi_range1 (by rfl) m_range (pa_cons (pe_callB call_len_seq (by rfl) m_len (by decide +kernel) (pa_cons (pv 1) pa_nil)) pa_nil)) (pg_name (i := 2) sc__law_same_lot.nd rfl (Or.inl rfl))
      (pss_one (ps_if (PW.pt (pw_or (pt_not (pt_val (pe_call G__law_is_int (hr.mono (by decide)) (by rfl) m__law_is_int k__law_is_int b__law_is_int .nil pass0 (pa_cons (pe_ix ix_tup (pv 0) (pv 2) (fun _ _ => rfl)) pa_nil)))) (pw_or1 (pt_cmpR op_ne (pe_ix ix_tup (pv 0) (pv 2) (fun _ _ => rfl)) (pe_ix ix_tup (pv 1) (pv 2) (fun _ _ => rfl)) (nomark _))))) (pss_one (ps_ret pe_bl)) pss_nil)))
      (pss_one (ps_ret pe_bl)))), ?_⟩
    have hA' : SqT K H a (ns.map V.int) := tup_t hA
    refine ⟨_, rfl, .ref a, .ty "tuple", _, _, true, rfl, .ty "tuple", .base (.tup hA), kit_ty kT, true, rfl, iteF ?_⟩
    refine ⟨.ref a, rfl, a, _, rfl, .inr hA', .ref b, rfl, b, _, rfl, .inr hB, rfl, _, rfl, iteNS rfl ?_⟩
    refine ⟨.ref b, rfl, b, _, rfl, .inr hB, _, rfl, ?_⟩
    rw [List.length_map]
    refine ⟨by omega, by omega, ?_⟩
    rw [Int.toNat_natCast]
    refine for_range (lo := 0) (n := ns.length) (fun i σ H2 => ∃ (y : Option V), σ = [some (.ref a), some (.ref b), y] ∧ H2 = H) ⟨none, rfl, rfl⟩ ?_ ?_
    · rintro i σ H2 hi ⟨y, rfl, rfl⟩
      have hin : (ns.map V.int)[i]? = some (.int ns[i]) := int_at (List.getElem?_eq_getElem hi)
      refine ⟨.ref a, rfl, .int (0 + (i : Int)), rfl, a, _, _, _, rfl, rfl, hA', at_of (Int.zero_add _) hin, ns[i], rfl, true, rfl, iteF ?_⟩
      refine ⟨.ref a, rfl, .int (0 + (i : Int)), rfl, a, _, _, _, rfl, rfl, hA', at_of (Int.zero_add _) hin, .ref b, rfl, .int (0 + (i : Int)), rfl, b, _, _, _, rfl, rfl, hB, at_of (Int.zero_add _) hin, rfl, _, rfl, iteNS rfl ?_⟩
      exact ⟨_, rfl, rfl⟩
    · rintro σ H2 ⟨y, rfl, rfl⟩
      exact q
def sp__law_things : Sp := fun vs H Q _ => ∃ (c sz : Int) (m : Nat), vs = [.int c, .int (m : Int), .int sz] ∧ m ≤ 900 ∧ 0 ≤ sz ∧ sz < 3 ∧ ∀ H' t (ts : List Int), Same H H' → H' t = some (.tup (ts.map V.int)) → ts.length = m → ts.Pairwise (· < ·) → Q (.ref t) H' 
theorem ok__law_things {f : Addr} {fd : FuncData} {C_BadNumber C_TooMany C_ShelfError : Addr} (F : Fun K "_law_things" "_law_things" s__law_things f fd) (T : Txt K mg C_BadNumber C_TooMany C_ShelfError) (m_int : mg "int" = none) (m_range : mg "range" = none) (m_tuple : mg "tuple" = none) (c__law_draws : Cal P w K mg base CX0 1 "_law_draws" ["_law_cell_here", "_law_sizes"] (sp__law_draws K)) : FnOk P w K mg base CX0 2 f fd ["_law_cell_here", "_law_count", "_law_size"] sp__law_things := by
  refine F.ok sc__law_things (fun vs H Q E h => ?_) (fun cdv A outer s H vs Q E hr h => ?_)
  · obtain ⟨c, sz, m, rfl, _⟩ := h
    rfl
  · obtain ⟨c, sz, m, rfl, hm, z0, z1, q⟩ := h
    obtain ⟨f__law_draws, fd__law_draws, G__law_draws, m__law_draws, k__law_draws, b__law_draws⟩ := c__law_draws
    refine ⟨_, (pss_cons (ps_set (i := 3) sc__law_things.nd rfl (Or.inl rfl) (pe_ix ix_list (pe_lst (pa_cons pe_int (pa_cons pe_int (pa_cons (pe_op op_pow pe_int pe_int) pa_nil)))) (pv 2) (fun _ _ => rfl)))
      (pss_cons (ps_set (i := 4) sc__law_things.nd rfl (Or.inl rfl) (pe_lst pa_nil))
      (pss_cons (ps_set (i := 5) sc__law_things.nd rfl (Or.inl rfl) (pe_un un_neg pe_int))
      (pss_cons (ps_for PassesOwn.never rfl (pi_list (pe_call G__law_draws (hr.mono (by decide)) (by rfl) m__law_draws k__law_draws b__law_draws .nil pass0 (pa_cons (pv 0) (pa_cons (pe_lc (own := [("_law_k", 7)]) (g := (gName 7)) (tt := tYes) rfl sc__law_things.nd (pi_range1 (by rfl) m_range (pa_cons (pv 1) pa_nil)) (blkOk_by (own := [("_law_k", 7)]) (N := ["_law_cell_here", "_law_count", "_law_size", "_law_bound", "_law_found", "_law_thing", "_law_gap", "_law_k"]) (sc := defScope s__law_things) (by decide +kernel)) (fun _ _ _ _ _ => (pg_name (i := 7) sc__law_things.nd rfl (Or.inl rfl))) (fun _ _ _ _ _ => pts_nil) (fun _ _ _ _ _ => (pe_op op_pow pe_int pe_int))) pa_nil)))) (pg_name (i := 6) sc__law_things.nd rfl (Or.inl rfl))
      (pss_cons (ps_set (i := 5) sc__law_things.nd rfl (Or.inl rfl) (pe_op op_add (pe_op op_add (pv 5) pe_int) (pe_op op_mod (pe_callTy call_int1 (by rfl) m_int (by decide +kernel) (pa_cons (pv 6) pa_nil)) (pv 3))))
      (pss_one (ps_expr (pe_bm PySem.F.plainAttrs_list PySem.F.slot_list_append PySem.F.type_list_append mt_append (pv 4) (pa_cons (pv 5) pa_nil))))))
      (pss_one (ps_ret (pe_callTy call_tuple_of (by rfl) m_tuple (by decide +kernel) (pa_cons (pv 4) pa_nil)))))))), ?_⟩
    refine ⟨10, 18, rfl, rfl, ⟨by decide, by decide, by decide⟩, (by show 3 ≤ sizeLine; decide), fun p1 np1 => ?_⟩
    obtain ⟨b, hb, b0⟩ : ∃ b : Int, atI [V.int 2, V.int 30, V.int (10 ^ 18)] sz = some (V.int b) ∧ 0 < b := by
      rcases (by omega : sz = 0 ∨ sz = 1 ∨ sz = 2) with rfl | rfl | rfl
      · exact ⟨2, rfl, by decide⟩
      · exact ⟨30, rfl, by decide⟩
      · exact ⟨10 ^ 18, rfl, by decide⟩
    have s1 := same_upd (o := .lst [V.int 2, V.int 30, V.int (10 ^ 18)]) np1
    refine ⟨_, rfl, p1, _, _, .int b, rfl, rfl, lst_l upd_same, hb, ?_⟩
    refine ⟨Nat.zero_le _, fun o no => ?_⟩
    have s2 : Same (upd H p1 (.lst [V.int 2, V.int 30, V.int (10 ^ 18)])) (upd (upd H p1 (.lst [V.int 2, V.int 30, V.int (10 ^ 18)])) o (.lst [])) := same_upd no
    have ho : (upd (upd H p1 (.lst [V.int 2, V.int 30, V.int (10 ^ 18)])) o (.lst [])) o = some (.lst (([] : List Int).map V.int)) := upd_same
    have no' : H o = none := s1.free no
    have s02 := s1.trans s2
    refine ⟨1, rfl, ?_⟩
    refine ⟨_, rfl, _, rfl, _, rfl, by omega, by omega, ?_⟩
    rw [Int.toNat_natCast]
    refine fun D nD => lc_range (lo := 0) (n := m) (fun i H3 => Same (upd (upd H p1 (.lst [V.int 2, V.int 30, V.int (10 ^ 18)])) o (.lst [])) H3 ∧ H3 D = some (.lst ((List.replicate i (10 ^ 18 : Int)).map V.int))) ⟨same_upd nD, upd_same⟩ ?_ ?_
    · rintro i H3 hi ⟨s, hD⟩
      refine ⟨rfl, ?_⟩
      refine lc_yes ?_
      refine iteT ?_
      refine ⟨10, 18, rfl, rfl, ⟨by decide, by decide, by decide⟩, _, hD, ?_, same_mut s nD, ?_⟩
      · rw [List.length_map, List.length_replicate]
        exact small1000 (by omega)
      · rw [upd_same, List.replicate_succ', ← snoc_int]
        rfl
    rintro H3 ⟨s3, hD⟩
    refine ⟨c, D, List.replicate m (10 ^ 18 : Int), rfl, lst_l hD, fun n hn => by rw [(List.mem_replicate.mp hn).2]; exact big18, by rw [List.length_replicate]; omega, fun ds H4 d w s4 nd hd => ?_⟩
    have ld : ds.length = m := by rw [w.len, List.length_replicate]
    have ho4 := s4 _ _ (s3 _ _ ho)
    have s04 := (s02.trans s3).trans s4
    refine ⟨d, rfl, ⟨_, lst_l hd⟩, for_list (K := K) (a := d) (xs := ds.map V.int) (fun i σ H5 => ∃ (ts : List Int) (l : Int) (y : Option V), σ = [some (.int c), some (.int (m : Int)), some (.int sz), some (.int b), some (.ref o), some (.int l), y, none] ∧ Same H H5 ∧ (∀ b', b' ≠ o → ∀ u, H4 b' = some u → H5 b' = some u) ∧ H5 o = some (.lst (ts.map V.int)) ∧ ts.length = i ∧ ts.Pairwise (· < ·) ∧ ∀ n ∈ ts, n ≤ l)
      ⟨[], -1, none, rfl, s04, fun _ _ _ h => h, ho4, rfl, List.Pairwise.nil, fun n h => by cases h⟩ (fun i σ H5 _ ⟨_, _, _, _, _, k, _⟩ => lst_l (k d (fun z => by
        rw [z, ← Option.not_isSome_iff_eq_none] at nd
        exact nd (by rw [s3 _ _ ho]; rfl)) _ hd)) ?_ ?_⟩
    · rintro i x σ H5 hi ⟨ts, l, y, rfl, s, kp, hT, lt, pw, le⟩
      obtain ⟨g, rfl, hin⟩ := int_of hi
      have il := (List.getElem?_eq_some_iff.mp hin).1
      have g0 := Int.emod_nonneg g (show b ≠ 0 by omega)
      refine ⟨_, rfl, _, _, rfl, rfl, _, rfl, .inl ⟨g, rfl, _, rfl, _, _, rfl, rfl, b0, _, _, rfl, rfl, ?_⟩⟩
      refine ⟨.ref o, rfl, .inl ⟨rfl, _, lst_l hT⟩, _, rfl, o, _, _, rfl, rfl, hT, ?_, ts ++ [l + 1 + g % b], _, _, rfl, same_mut s no', fun b' nb u h => (upd_ne nb).trans (kp b' nb u h), by rw [upd_same, ← snoc_int], ?_, ?_, fun n hn => ?_⟩
      · rw [List.length_map]
        exact small1000 (by omega)
      · rw [List.length_append, lt]
        rfl
      · refine List.pairwise_append.mpr ⟨pw, List.pairwise_singleton _ _, fun a ha z hz => ?_⟩
        rw [List.mem_singleton.mp hz]
        have := le a ha
        omega
      · rcases List.mem_append.mp hn with hn | hn
        · have := le n hn
          show n ≤ l + 1 + g % b
          omega
        · rw [List.mem_singleton.mp hn]
          exact Int.le_refl _
    · rintro σ H5 ⟨ts, l, y, rfl, s, kp, hT, lt, pw, le⟩
      rw [List.length_map, ld] at lt
      exact ⟨_, rfl, o, _, rfl, .inl ⟨lst_l hT, fun t nt => q _ t ts (s.trans (same_upd nt)) upd_same lt pw⟩⟩
def sp__law_first : Sp := fun vs H Q _ => ∃ (t : Addr) (os : List Int) (k : Int), vs = [.ref t, .int k] ∧ H t = some (.tup (os.map V.int)) ∧ os.length ≤ 900 ∧ ((k < 0 ∨ (os.length : Int) < k) → ∀ H' u, Same H H' → H' u = some (.tup [.str "number", .str "k", .non, .bl false]) → Q (.ref u) H') ∧
  (0 ≤ k → k ≤ (os.length : Int) → ∀ H' u v, Same H H' → H' u = some (.tup [.str "told", .ref v]) → H' v = some (.tup ((firstK os k).map V.int)) → Q (.ref u) H')
theorem ok__law_first {f : Addr} {fd : FuncData} {C_BadNumber C_TooMany C_ShelfError : Addr} (F : Fun K "_law_first" "_law_first" s__law_first f fd) (T : Txt K mg C_BadNumber C_TooMany C_ShelfError) (m_isinstance : mg "isinstance" = none) (c_first_things : Cal P w K mg base (L2.CX P w) 4 "first_things" ["order", "k"] (sp_first_things K C_BadNumber)) : FnOk P w K mg base CX0 5 f fd ["_law_order", "_law_k"] sp__law_first := by
  refine F.ok sc__law_first (fun vs H Q E h => ?_) (fun cdv A outer s H vs Q E hr h => ?_)
  · obtain ⟨t, os, k, rfl, _⟩ := h
    rfl
  · obtain ⟨t, os, k, rfl, ht, ol, k1, k2⟩ := h
    obtain ⟨f_first_things, fd_first_things, G_first_things, m_first_things, k_first_things, b_first_things⟩ := c_first_things
    refine ⟨_, (pss_one (ps_try_as (i := 2) (Wout := fun _ _ _ _ => False) rfl rfl sc__law_first.nd rfl rfl ⟨rfl, by decide, Or.inl T.g_BadNumber⟩ takes0
      (fun W pn xe tk _ => (pss_one (ps_ret (pe_tup (pa_cons pe_str (pa_cons (pe_callS G_first_things (hr.mono (by decide)) (by rfl) m_first_things k_first_things b_first_things (fun σ => passAt tk σ) (pa_cons (pv 0) (pa_cons (pv 1) pa_nil))) pa_nil))))))
      (fun a oe cls d pn hz hf => (pss_one (ps_ret (pe_tup (pa_cons pe_str (pa_cons (pe_xf T.xf_BadNumber T.n_BadNumber_what hz hf (pv 2)) (pa_cons (pe_xf T.xf_BadNumber T.n_BadNumber_at hz hf (pv 2)) (pa_cons (pe_callB (call_isY (K := K) hz hf) (by rfl) m_isinstance (by decide +kernel) (pa_cons (pv 2) (pa_cons (pe_glob (v := .ref C_TooMany) (by rfl) T.g_TooMany rfl) pa_nil))) pa_nil)))))))))), ?_⟩
    refine ⟨_, rfl, _, rfl, t, os, k, rfl, ht, ol, fun c d nd => ⟨true, T.exm_BadNumber_BadNumber, fun _ a0 na => ⟨.ref a0, rfl, rfl, rfl, d, _, _, rfl, upd_same, by rfl, .ref a0, rfl, rfl, rfl, d, _, _, rfl, upd_same, by rfl, .ref a0, rfl, C_BadNumber, T.ec_BadNumber, rfl, .inr ⟨d, _, rfl, upd_same⟩, .ref C_TooMany, .ref C_TooMany, false, rfl, fun _ r => r, T.kit_BadNumber_TooMany, (by show 4 ≤ sizeLine; decide), fun u nu => k1 c _ u ((same_upd nd).trans (same_upd nu)) upd_same⟩, fun z => Bool.noConfusion z⟩, fun c1 c2 H' v s hv => ?_⟩
    exact ⟨(by show 2 ≤ sizeLine; decide), fun u nu => k2 c1 c2 _ u v (s.trans (same_upd nu)) upd_same (same_upd nu _ _ hv)⟩
def sp__law_dear : Sp := fun vs H Q _ => ∃ (a : Addr) (ns : List Int) (k : Int), vs = [.ref a, .int k] ∧ H a = some (.lst (ns.map V.int)) ∧ ns.length ≤ 900 ∧ ((k < 0 ∨ (ns.length : Int) < k) → ∀ H' u, Same H H' → H' u = some (.tup [.str "number", .str "k", .non, .bl false]) → Q (.ref u) H') ∧
  (0 ≤ k → k ≤ (ns.length : Int) → ∀ H' u v, Same H H' → H' u = some (.tup [.str "told", .ref v]) → H' v = some (.tup ((dearK ns ns.length k).map V.int)) → Q (.ref u) H')
theorem ok__law_dear {f : Addr} {fd : FuncData} {C_BadNumber C_TooMany C_ShelfError : Addr} (F : Fun K "_law_dear" "_law_dear" s__law_dear f fd) (T : Txt K mg C_BadNumber C_TooMany C_ShelfError) (m_isinstance : mg "isinstance" = none) (c_dearest : Cal P w K mg base (L2.CX P w) 5 "dearest" ["prices", "k"] (sp_dearest C_BadNumber)) : FnOk P w K mg base CX0 6 f fd ["_law_prices", "_law_k"] sp__law_dear := by
  refine F.ok sc__law_dear (fun vs H Q E h => ?_) (fun cdv A outer s H vs Q E hr h => ?_)
  · obtain ⟨a, ns, k, rfl, _⟩ := h
    rfl
  · obtain ⟨a, ns, k, rfl, ha, nl, k1, k2⟩ := h
    obtain ⟨f_dearest, fd_dearest, G_dearest, m_dearest, k_dearest, b_dearest⟩ := c_dearest
    refine ⟨_, (pss_one (ps_try_as (i := 2) (Wout := fun _ _ _ _ => False) rfl rfl sc__law_dear.nd rfl rfl ⟨rfl, by decide, Or.inl T.g_BadNumber⟩ takes0
      (fun W pn xe tk _ => (pss_one (ps_ret (pe_tup (pa_cons pe_str (pa_cons (pe_callS G_dearest (hr.mono (by decide)) (by rfl) m_dearest k_dearest b_dearest (fun σ => passAt tk σ) (pa_cons (pv 0) (pa_cons (pv 1) pa_nil))) pa_nil))))))
      (fun a oe cls d pn hz hf => (pss_one (ps_ret (pe_tup (pa_cons pe_str (pa_cons (pe_xf T.xf_BadNumber T.n_BadNumber_what hz hf (pv 2)) (pa_cons (pe_xf T.xf_BadNumber T.n_BadNumber_at hz hf (pv 2)) (pa_cons (pe_callB (call_isY (K := K) hz hf) (by rfl) m_isinstance (by decide +kernel) (pa_cons (pv 2) (pa_cons (pe_glob (v := .ref C_TooMany) (by rfl) T.g_TooMany rfl) pa_nil))) pa_nil)))))))))), ?_⟩
    refine ⟨_, rfl, _, rfl, a, ns, k, rfl, ha, nl, fun c H' d s hd => ⟨true, T.exm_BadNumber_BadNumber, fun _ a0 na => ⟨.ref a0, rfl, rfl, rfl, d, _, _, rfl, hd, by rfl, .ref a0, rfl, rfl, rfl, d, _, _, rfl, hd, by rfl, .ref a0, rfl, C_BadNumber, T.ec_BadNumber, rfl, .inr ⟨d, _, rfl, hd⟩, .ref C_TooMany, .ref C_TooMany, false, rfl, fun _ r => r, T.kit_BadNumber_TooMany, (by show 4 ≤ sizeLine; decide), fun u nu => k1 c _ u (s.trans (same_upd nu)) upd_same⟩, fun z => Bool.noConfusion z⟩, fun c1 c2 os H' v pm pw s hv => ?_⟩
    rw [dear_first pm pw c1] at hv
    exact ⟨(by show 2 ≤ sizeLine; decide), fun u nu => k2 c1 c2 _ u v (s.trans (same_upd nu)) upd_same (same_upd nu _ _ hv)⟩
def sp__law_base : Sp := fun vs H Q _ => ∃ (t : Addr) (os : List Int) (k : Int), vs = [.ref t, .int k] ∧ H t = some (.tup (os.map V.int)) ∧ os.length ≤ 900 ∧ (k < 0 ∨ (os.length : Int) < k) ∧ ∀ H', Same H H' → Q (.bl true) H' 
theorem ok__law_base {f : Addr} {fd : FuncData} {C_BadNumber C_TooMany C_ShelfError : Addr} (F : Fun K "_law_base" "_law_base" s__law_base f fd) (T : Txt K mg C_BadNumber C_TooMany C_ShelfError) (m_ValueError : mg "ValueError" = none) (m_isinstance : mg "isinstance" = none) (c_first_things : Cal P w K mg base (L2.CX P w) 4 "first_things" ["order", "k"] (sp_first_things K C_BadNumber)) : FnOk P w K mg base CX0 5 f fd ["_law_order", "_law_k"] sp__law_base := by
  refine F.ok sc__law_base (fun vs H Q E h => ?_) (fun cdv A outer s H vs Q E hr h => ?_)
  · obtain ⟨t, os, k, rfl, _⟩ := h
    rfl
  · obtain ⟨t, os, k, rfl, ht, ol, c, q⟩ := h
    obtain ⟨f_first_things, fd_first_things, G_first_things, m_first_things, k_first_things, b_first_things⟩ := c_first_things
    refine ⟨_, (pss_cons (ps_try_as (i := 2) (Wout := fun _ _ _ _ => False) rfl rfl sc__law_base.nd rfl rfl ⟨rfl, by decide, Or.inl T.g_ShelfError⟩ takes0
      (fun W pn xe tk _ => (pss_one (ps_expr (pe_callS G_first_things (hr.mono (by decide)) (by rfl) m_first_things k_first_things b_first_things (fun σ => passAt tk σ) (pa_cons (pv 0) (pa_cons (pv 1) pa_nil))))))
      (fun a oe cls d pn hz hf => (pss_one (ps_ret (pe_and (pe_callB (call_isY (K := K) hz hf) (by rfl) m_isinstance (by decide +kernel) (pa_cons (pv 2) (pa_cons (pe_bltn (v := .ty "ValueError") (by rfl) m_ValueError (by decide +kernel) rfl) pa_nil))) (pe_one (pe_callB (call_isY (K := K) hz hf) (by rfl) m_isinstance (by decide +kernel) (pa_cons (pv 2) (pa_cons (pe_glob (v := .ref C_BadNumber) (by rfl) T.g_BadNumber rfl) pa_nil)))))))))
      (pss_one (ps_ret pe_bl))), ?_⟩
    refine ⟨_, rfl, _, rfl, t, os, k, rfl, ht, ol, fun _ d nd => ?_, fun c1 c2 => absurd c (by omega)⟩
    refine ⟨true, T.exm_BadNumber_ShelfError, fun _ a0 na => ?_, fun z => Bool.noConfusion z⟩
    refine ⟨.ref a0, rfl, C_BadNumber, T.ec_BadNumber, rfl, .inr ⟨d, _, rfl, upd_same⟩, .ty "ValueError", .type "ValueError", true, rfl, fun _ r => r, T.kit_BadNumber_ValueError, true, rfl, iteT ?_⟩
    exact ⟨.ref a0, rfl, C_BadNumber, T.ec_BadNumber, rfl, .inr ⟨d, _, rfl, upd_same⟩, .ref C_BadNumber, .ref C_BadNumber, true, rfl, fun _ r => r, T.kit_BadNumber_BadNumber, q _ (same_upd nd)⟩
def sp__law_refused : Sp := fun vs H Q _ => ∃ (u : Addr), vs = [.ref u] ∧ H u = some (.tup [.str "number", .str "k", .non, .bl false]) ∧ Q (.bl true) H
theorem ok__law_refused {f : Addr} {fd : FuncData} {C_BadNumber C_TooMany C_ShelfError : Addr} (F : Fun K "_law_refused" "_law_refused" s__law_refused f fd) (T : Txt K mg C_BadNumber C_TooMany C_ShelfError) (m_isinstance : mg "isinstance" = none) (m_str : mg "str" = none) : FnOk P w K mg base CX0 1 f fd ["_law_told"] sp__law_refused := by
  refine F.ok sc__law_refused (fun vs H Q E h => ?_) (fun cdv A outer s H vs Q E hr h => ?_)
  · obtain ⟨u, rfl, _⟩ := h
    rfl
  · obtain ⟨u, rfl, hu, q⟩ := h
    refine ⟨_, (pss_cons (ps_if (PW.pt (pw_or (pt_cmpR op_ne (pe_ix ix_tup (pv 0) pe_int (fun _ _ => rfl)) pe_str (nomark _)) (pw_or1 (pt_not (pt_val (pe_callB call_isi (by rfl) m_isinstance (by decide +kernel) (pa_cons (pe_ix ix_tup (pv 0) pe_int (fun _ _ => rfl)) (pa_cons (pe_bltn (v := .ty "str") (by rfl) m_str (by decide +kernel) rfl) pa_nil)))))))) (pss_one (ps_ret pe_bl)) pss_nil)
      (pss_one (ps_ret (pe_and (pe_cmpR op_eq (pe_ix ix_tup (pv 0) pe_int (fun _ _ => rfl)) pe_str (nomark _)) (pe_and (pe_cmpR op_isN (pe_ix ix_tup (pv 0) pe_int (fun _ _ => rfl)) pe_non (nomark _)) (pe_one (pe_cmpR op_isBl (pe_ix ix_tup (pv 0) pe_int (fun _ _ => rfl)) pe_bl (nomark _)))))))), ?_⟩
    refine ⟨.ref u, rfl, u, _, _, _, rfl, rfl, tup_t hu, atI_nat (j := 0) rfl, rfl, _, rfl, iteNS rfl ?_⟩
    refine ⟨.ref u, rfl, u, _, _, _, rfl, rfl, tup_t hu, atI_nat (j := 1) rfl, .str "k", .ty "str", _, _, true, rfl, .ty "str", .base (.str _), kit_ty kSt, true, rfl, iteF ?_⟩
    refine ⟨.ref u, rfl, u, _, _, _, rfl, rfl, tup_t hu, atI_nat (j := 1) rfl, rfl, _, rfl, iteD rfl ?_⟩
    refine ⟨.ref u, rfl, u, _, _, _, rfl, rfl, tup_t hu, atI_nat (j := 2) rfl, rfl, _, rfl, iteD rfl ?_⟩
    exact ⟨.ref u, rfl, u, _, _, _, rfl, rfl, tup_t hu, atI_nat (j := 3) rfl, false, false, rfl, rfl, q⟩
def sp__law_dearest : Sp := fun vs H Q _ => ∃ (a : Addr) (ns : List Int) (k : Int), vs = [.ref a, .int k] ∧ H a = some (.lst (ns.map V.int)) ∧ ns.length ≤ 900 ∧ ∀ H' t, Same H H' → H' t = some (.tup ((dearK ns ns.length k).map V.int)) → Q (.ref t) H' 
theorem ok__law_dearest {f : Addr} {fd : FuncData} {C_BadNumber C_TooMany C_ShelfError : Addr} (F : Fun K "_law_dearest" "_law_dearest" s__law_dearest f fd) (T : Txt K mg C_BadNumber C_TooMany C_ShelfError) (m_len : mg "len" = none) (m_range : mg "range" = none) (m_tuple : mg "tuple" = none) : FnOk P w K mg base CX0 1 f fd ["_law_prices", "_law_k"] sp__law_dearest := by
  refine F.ok sc__law_dearest (fun vs H Q E h => ?_) (fun cdv A outer s H vs Q E hr h => ?_)
  · obtain ⟨a, ns, k, rfl, _⟩ := h
    rfl
  · obtain ⟨a, ns, k, rfl, ha, nl, q⟩ := h
    refine ⟨_, (pss_cons (ps_set (i := 2) sc__law_dearest.nd rfl (Or.inl rfl) (pe_lst pa_nil))
      (pss_cons (ps_for PassesOwn.never rfl (pi_range1 (by rfl) m_range (pa_cons (pe_callB call_len_seq (by rfl) m_len (by decide +kernel) (pa_cons (pv 0) pa_nil)) pa_nil)) (pg_name (i := 3) sc__law_dearest.nd rfl (Or.inl rfl))
      (pss_cons (ps_set (i := 4) sc__law_dearest.nd rfl (Or.inl rfl) pe_int)
      (pss_cons (ps_for PassesOwn.never rfl (pi_range1 (by rfl) m_range (pa_cons (pe_callB call_len_seq (by rfl) m_len (by decide +kernel) (pa_cons (pv 0) pa_nil)) pa_nil)) (pg_name (i := 5) sc__law_dearest.nd rfl (Or.inl rfl))
      (pss_one (ps_if (PW.pt (pw_or (pt_cmpR op_gt (pe_ix ix_list (pv 0) (pv 5) (fun _ _ => rfl)) (pe_ix ix_list (pv 0) (pv 3) (fun _ _ => rfl)) (nomark _)) (pw_or1 (PW.pt (pw_and (pt_cmpR op_eq (pe_ix ix_list (pv 0) (pv 5) (fun _ _ => rfl)) (pe_ix ix_list (pv 0) (pv 3) (fun _ _ => rfl)) (nomark _)) (pw_and1 (pt_cmpR op_lt (pv 5) (pv 3) (nomark _)))))))) (pss_one (ps_set (i := 4) sc__law_dearest.nd rfl (Or.inl rfl) (pe_op op_add (pv 4) pe_int))) pss_nil)))
      (pss_one (ps_if (pt_cmpR op_lt (pv 4) (pv 1) (nomark _)) (pss_one (ps_expr (pe_bm PySem.F.plainAttrs_list PySem.F.slot_list_append PySem.F.type_list_append mt_append (pv 2) (pa_cons (pv 3) pa_nil)))) pss_nil)))))
      (pss_one (ps_ret (pe_callTy call_tuple_of (by rfl) m_tuple (by decide +kernel) (pa_cons (pv 2) pa_nil)))))), ?_⟩
    refine ⟨Nat.zero_le _, fun o no => ?_⟩
    have s1 := same_upd (o := .lst []) no
    refine ⟨_, rfl, a, _, rfl, .inl (lst_l (s1 _ _ ha)), _, rfl, ?_⟩
    rw [List.length_map]
    refine ⟨by omega, by omega, ?_⟩
    rw [Int.toNat_natCast]
    refine for_range (lo := 0) (n := ns.length) (fun i σ H2 => ∃ (y1 y2 y3 : Option V), σ = [some (.ref a), some (.int k), some (.ref o), y1, y2, y3] ∧ Same H H2 ∧ H2 o = some (.lst ((dearK ns i k).map V.int))) ⟨none, none, none, rfl, s1, upd_same⟩ ?_ ?_
    · rintro i σ H2 hi ⟨y1, y2, y3, rfl, s, hD⟩
      have ha2 := lst_l (K := K) (s _ _ ha)
      have vi : (ns.map V.int)[i]? = some (.int (pr ns i)) := int_at (pr_at hi)
      refine ⟨_, rfl, a, _, rfl, .inl ha2, _, rfl, ?_⟩
      rw [List.length_map]
      refine ⟨by omega, by omega, ?_⟩
      rw [Int.toNat_natCast]
      refine for_range (lo := 0) (n := ns.length) (fun j σ H3 => ∃ (y3 : Option V), σ = [some (.ref a), some (.int k), some (.ref o), some (.int (0 + (i : Int))), some (.int (aheadN ns j i : Int)), y3] ∧ H3 = H2) ⟨y3, rfl, rfl⟩ ?_ ?_
      · rintro j σ H3 hj ⟨y3, rfl, rfl⟩
        have vj : (ns.map V.int)[j]? = some (.int (pr ns j)) := int_at (pr_at hj)
        have more : Dear (pr ns) j i → (aheadN ns (j + 1) i : Int) = (aheadN ns j i : Int) + 1 := fun c => by
          rw [ahead_succ, if_pos c]
          omega
        have same : ¬ Dear (pr ns) j i → (aheadN ns (j + 1) i : Int) = (aheadN ns j i : Int) := fun c => by
          rw [ahead_succ, if_neg c]
          rfl
        have step : Dear (pr ns) j i → ∃ (y3 : Option V), [some (V.ref a), some (V.int k), some (V.ref o), some (V.int (0 + (i : Int))), some (V.int ((aheadN ns j i : Int) + 1)), some (V.int (0 + (j : Int)))] = [some (.ref a), some (.int k), some (.ref o), some (.int (0 + (i : Int))), some (.int (aheadN ns (j + 1) i : Int)), y3] ∧ H3 = H3 := fun c => ⟨_, by rw [more c], rfl⟩
        have stay : ¬ Dear (pr ns) j i → ∃ (y3 : Option V), [some (V.ref a), some (V.int k), some (V.ref o), some (V.int (0 + (i : Int))), some (V.int (aheadN ns j i : Int)), some (V.int (0 + (j : Int)))] = [some (.ref a), some (.int k), some (.ref o), some (.int (0 + (i : Int))), some (.int (aheadN ns (j + 1) i : Int)), y3] ∧ H3 = H3 := fun c => ⟨_, by rw [same c], rfl⟩
        refine ⟨_, rfl, _, rfl, a, _, _, _, rfl, rfl, ha2, at_of (Int.zero_add _) vj, _, rfl, _, rfl, a, _, _, _, rfl, rfl, ha2, at_of (Int.zero_add _) vi, _, _, rfl, rfl, _, rfl, ite2 (fun c => ?_) (fun c => ?_)⟩
        · have c : pr ns j > pr ns i := of_decide_eq_true c
          exact ⟨_, rfl, _, _, rfl, rfl, step (.inl c)⟩
        · have c : ¬ pr ns j > pr ns i := fun z => c (decide_eq_true z)
          refine ⟨_, rfl, _, rfl, a, _, _, _, rfl, rfl, ha2, at_of (Int.zero_add _) vj, _, rfl, _, rfl, a, _, _, _, rfl, rfl, ha2, at_of (Int.zero_add _) vi, rfl, _, rfl, ite2 (fun c2 => ?_) (fun c2 => ?_)⟩
          · have c2 : pr ns j = pr ns i := V.int.inj (of_decide_eq_true c2)
            refine ⟨_, rfl, _, rfl, _, _, rfl, rfl, _, rfl, ite2 (fun c3 => ?_) (fun c3 => ?_)⟩
            · have c3 := of_decide_eq_true c3
              exact ⟨_, rfl, _, _, rfl, rfl, step (.inr ⟨c2, by omega⟩)⟩
            · have c3 : ¬ (0 + (j : Int) < 0 + (i : Int)) := fun z => c3 (decide_eq_true z)
              refine stay fun d => ?_
              unfold Dear at d
              omega
          · have c2 : ¬ pr ns j = pr ns i := fun z => c2 (decide_eq_true (congrArg V.int z))
            refine stay fun d => ?_
            unfold Dear at d
            omega
      · rintro σ H3 ⟨y3, rfl, rfl⟩
        refine ⟨_, rfl, _, rfl, _, _, rfl, rfl, _, rfl, ite2 (fun c => ?_) (fun c => ?_)⟩
        · have c := of_decide_eq_true c
          refine ⟨.ref o, rfl, .inl ⟨rfl, _, lst_l hD⟩, _, rfl, o, _, _, rfl, rfl, hD, ?_, _, _, _, rfl, same_mut s no, ?_⟩
          · rw [List.length_map]
            have := dearK_len ns i k
            exact small1000 (by omega)
          · rw [upd_same, dearK_succ, if_pos c, Int.zero_add, List.map_append]
            rfl
        · have c : ¬ (aheadN ns ns.length i : Int) < k := fun z => c (decide_eq_true z)
          refine ⟨_, _, _, rfl, s, ?_⟩
          rw [hD, dearK_succ, if_neg c, List.append_nil]
    · rintro σ H2 ⟨y1, y2, y3, rfl, s, hD⟩
      exact ⟨_, rfl, o, _, rfl, .inl ⟨lst_l hD, fun t nt => q _ t (s.trans (same_upd nt)) upd_same⟩⟩
def sp__law_right : Sp := fun vs H Q _ => ∃ (o th P : Addr) (os ts ns : List Int) (k : Int), vs = [.ref o, .ref th, .ref P, .int k] ∧ H o = some (.tup (os.map V.int)) ∧ H th = some (.tup (ts.map V.int)) ∧ H P = some (.lst (ns.map V.int)) ∧ os.Perm ts ∧ ts.Pairwise (· < ·) ∧ ns.length = ts.length ∧ ts.length ≤ 900 ∧ ∀ H', Same H H' → Q (.bl true) H' 
theorem ok__law_right {f : Addr} {fd : FuncData} {C_BadNumber C_TooMany C_ShelfError : Addr} (F : Fun K "_law_right" "_law_right" s__law_right f fd) (T : Txt K mg C_BadNumber C_TooMany C_ShelfError) (m_len : mg "len" = none) (m_list : mg "list" = none) (m_tuple : mg "tuple" = none) (c__law_same_lot : Cal P w K mg base CX0 2 "_law_same_lot" ["_law_x", "_law_due"] (sp__law_same_lot K)) (c__law_first : Cal P w K mg base CX0 5 "_law_first" ["_law_order", "_law_k"] sp__law_first) (c__law_dear : Cal P w K mg base CX0 6 "_law_dear" ["_law_prices", "_law_k"] sp__law_dear) (c__law_base : Cal P w K mg base CX0 5 "_law_base" ["_law_order", "_law_k"] sp__law_base) (c__law_refused : Cal P w K mg base CX0 1 "_law_refused" ["_law_told"] sp__law_refused) (c__law_dearest : Cal P w K mg base CX0 1 "_law_dearest" ["_law_prices", "_law_k"] sp__law_dearest) : FnOk P w K mg base CX0 7 f fd ["_law_order", "_law_things_here", "_law_prices", "_law_k"] sp__law_right := by
  refine F.ok sc__law_right (fun vs H Q E h => ?_) (fun cdv A outer s H vs Q E hr h => ?_)
  · obtain ⟨o, th, P1, os, ts, ns, k, rfl, _⟩ := h
    rfl
  · obtain ⟨o, th, P1, os, ts, ns, k, rfl, ho, hth, hP, pm, asc, el, tl, q⟩ := h
    obtain ⟨f__law_same_lot, fd__law_same_lot, G__law_same_lot, m__law_same_lot, k__law_same_lot, b__law_same_lot⟩ := c__law_same_lot
    obtain ⟨f__law_first, fd__law_first, G__law_first, m__law_first, k__law_first, b__law_first⟩ := c__law_first
    obtain ⟨f__law_dear, fd__law_dear, G__law_dear, m__law_dear, k__law_dear, b__law_dear⟩ := c__law_dear
    obtain ⟨f__law_base, fd__law_base, G__law_base, m__law_base, k__law_base, b__law_base⟩ := c__law_base
    obtain ⟨f__law_refused, fd__law_refused, G__law_refused, m__law_refused, k__law_refused, b__law_refused⟩ := c__law_refused
    obtain ⟨f__law_dearest, fd__law_dearest, G__law_dearest, m__law_dearest, k__law_dearest, b__law_dearest⟩ := c__law_dearest
    refine ⟨_, (pss_cons (ps_set (i := 4) sc__law_right.nd rfl (Or.inl rfl) (pe_callTy call_list_of (by rfl) m_list (by decide +kernel) (pa_cons (pv 2) pa_nil)))
      (pss_cons (ps_set (i := 5) sc__law_right.nd rfl (Or.inl rfl) (pe_call G__law_first (hr.mono (by decide)) (by rfl) m__law_first k__law_first b__law_first .nil pass0 (pa_cons (pv 0) (pa_cons (pv 3) pa_nil))))
      (pss_cons (ps_set (i := 6) sc__law_right.nd rfl (Or.inl rfl) (pe_call G__law_dear (hr.mono (by decide)) (by rfl) m__law_dear k__law_dear b__law_dear .nil pass0 (pa_cons (pv 4) (pa_cons (pv 3) pa_nil))))
      (pss_cons (ps_if (pt_cmpR (op_neD hr.units) (pv 4) (pv 2) (nomark _)) (pss_one (ps_ret pe_bl)) pss_nil)
      (pss_cons (ps_if (PW.pt (pw_or (pt_cmpR op_lt (pv 3) pe_int (nomark _)) (pw_or1 (pt_cmpR op_gt (pv 3) (pe_callB call_len_seq (by rfl) m_len (by decide +kernel) (pa_cons (pv 1) pa_nil)) (nomark _))))) (pss_one (ps_ret (pe_and (pe_call G__law_refused (hr.mono (by decide)) (by rfl) m__law_refused k__law_refused b__law_refused .nil pass0 (pa_cons (pv 5) pa_nil)) (pe_and (pe_call G__law_refused (hr.mono (by decide)) (by rfl) m__law_refused k__law_refused b__law_refused .nil pass0 (pa_cons (pv 6) pa_nil)) (pe_one (pe_call G__law_base (hr.mono (by decide)) (by rfl) m__law_base k__law_base b__law_base .nil pass0 (pa_cons (pv 0) (pa_cons (pv 3) pa_nil)))))))) pss_nil)
      (pss_cons (ps_if (PW.pt (pw_or (pt_cmpR op_ne (pe_ix ix_tup (pv 5) pe_int (fun _ _ => rfl)) pe_str (nomark _)) (pw_or1 (pt_cmpR op_ne (pe_ix ix_tup (pv 6) pe_int (fun _ _ => rfl)) pe_str (nomark _))))) (pss_one (ps_ret pe_bl)) pss_nil)
      (pss_cons (ps_if (pt_not (pt_val (pe_call G__law_same_lot (hr.mono (by decide)) (by rfl) m__law_same_lot k__law_same_lot b__law_same_lot .nil pass0 (pa_cons (pe_ix ix_tup (pv 5) pe_int (fun _ _ => rfl)) (pa_cons (pe_callTy call_tuple_of (by rfl) m_tuple (by decide +kernel) (pa_cons (pe_lc (own := [("_law_thing", 7)]) (g := (gName 7)) rfl sc__law_right.nd (pi_tup (pv 1)) (blkOk_by (own := [("_law_thing", 7)]) (N := ["_law_order", "_law_things_here", "_law_prices", "_law_k", "_law_passed", "_law_first_here", "_law_dear_here", "_law_thing"]) (sc := defScope s__law_right) (by decide +kernel)) (fun _ _ _ _ _ => (pg_name (i := 7) sc__law_right.nd rfl (Or.inl rfl))) (fun _ _ _ _ _ => (pts_one (pt_cmpR (r := rIn K false) op_in_seq (pv 7) (pe_slice (r := rSlA K) sl_tupA (pv 0) po_none (po_some (pv 3))) (by rfl)))) (fun _ _ _ _ _ => (pv 7))) pa_nil)) pa_nil))))) (pss_one (ps_ret pe_bl)) pss_nil)
      (pss_one (ps_ret (pe_call G__law_same_lot (hr.mono (by decide)) (by rfl) m__law_same_lot k__law_same_lot b__law_same_lot .nil pass0 (pa_cons (pe_ix ix_tup (pv 6) pe_int (fun _ _ => rfl)) (pa_cons (pe_call G__law_dearest (hr.mono (by decide)) (by rfl) m__law_dearest k__law_dearest b__law_dearest .nil pass0 (pa_cons (pv 2) (pa_cons (pv 3) pa_nil))) pa_nil)))))))))))), ?_⟩
    have ol : os.length = ts.length := pm.length_eq
    have shp : SeqAt.shaped (.list (ns.map PyData.int)) = true := by
      unfold SeqAt.shaped
      rw [show (PyData.list (ns.map PyData.int)).canLay0 = true from lay_ints ns, depth_ints ns]
      rfl
    refine ⟨_, rfl, P1, _, rfl, .inl (lst_l hP), fun lq nlq => ?_⟩
    have s1 := same_upd (o := .lst (ns.map V.int)) nlq
    have hlq : upd H lq (.lst (ns.map V.int)) lq = some (.lst (ns.map V.int)) := upd_same
    generalize upd H lq (.lst (ns.map V.int)) = H1 at s1 hlq ⊢
    by_cases c : k < 0 ∨ (ts.length : Int) < k
    · refine ⟨_, rfl, _, rfl, o, os, k, rfl, s1 _ _ ho, by omega, fun _ H2 u s2 hu => ?_, fun c1 c2 => absurd c (by omega)⟩
      refine ⟨_, rfl, _, rfl, lq, ns, k, rfl, s2 _ _ hlq, by omega, fun _ H3 u2 s3 hu2 => ?_, fun c1 c2 => absurd c (by omega)⟩
      have s13 := s1.trans (s2.trans s3)
      refine ⟨_, rfl, _, rfl, _, _, dp_ints (lst_l (s3 _ _ (s2 _ _ hlq))), dp_ints (lst_l (s13 _ _ hP)), shp, shp, false, ?_, iteF ?_⟩
      · rw [SeqAt.eqv_refl _ (SeqAt.canLay_of_shaped shp)]
        rfl
      refine ⟨_, rfl, _, _, rfl, rfl, _, rfl, ite2 (fun _ => ?_) (fun c1 => ⟨_, rfl, _, rfl, th, _, rfl, .inr (tup_t (s13 _ _ hth)), _, _, rfl, rfl, _, rfl, ite2 (fun _ => ?_) (fun c2 => ?_)⟩)⟩
      · exact ⟨_, rfl, u, rfl, s3 _ _ hu, true, rfl, iteT ⟨_, rfl, u2, rfl, hu2, true, rfl, iteT ⟨_, rfl, _, rfl, o, os, k, rfl, s13 _ _ ho, by omega, by omega, fun H4 s4 => q H4 (s13.trans s4)⟩⟩⟩
      · exact ⟨_, rfl, u, rfl, s3 _ _ hu, true, rfl, iteT ⟨_, rfl, u2, rfl, hu2, true, rfl, iteT ⟨_, rfl, _, rfl, o, os, k, rfl, s13 _ _ ho, by omega, by omega, fun H4 s4 => q H4 (s13.trans s4)⟩⟩⟩
      · exfalso
        have c1 : ¬ k < 0 := fun z => c1 (decide_eq_true z)
        have c2 : ¬ k > (ts.length : Int) := fun z => c2 (decide_eq_true (by rw [List.length_map]; exact z))
        omega
    · have k0 : 0 ≤ k := by omega
      obtain ⟨j, rfl⟩ : ∃ j : Nat, k = (j : Int) := ⟨k.toNat, by omega⟩
      refine ⟨_, rfl, _, rfl, o, os, j, rfl, s1 _ _ ho, by omega, fun z => absurd z (by omega), fun _ _ H2 u v s2 hu hv => ?_⟩
      refine ⟨_, rfl, _, rfl, lq, ns, j, rfl, s2 _ _ hlq, by omega, fun z => absurd z (by omega), fun _ _ H3 u2 v2 s3 hu2 hv2 => ?_⟩
      have s13 := s1.trans (s2.trans s3)
      refine ⟨_, rfl, _, rfl, _, _, dp_ints (lst_l (s3 _ _ (s2 _ _ hlq))), dp_ints (lst_l (s13 _ _ hP)), shp, shp, false, ?_, iteF ?_⟩
      · rw [SeqAt.eqv_refl _ (SeqAt.canLay_of_shaped shp)]
        rfl
      refine ⟨_, rfl, _, _, rfl, rfl, _, rfl, iteDF (by omega) ⟨_, rfl, _, rfl, th, _, rfl, .inr (tup_t (s13 _ _ hth)), _, _, rfl, rfl, _, rfl, iteDF (by rw [List.length_map]; omega) ?_⟩⟩
      have hu' := s3 _ _ hu
      have hv' := s3 _ _ hv
      refine ⟨.ref u, rfl, u, _, _, _, rfl, rfl, tup_t hu', atI_nat (j := 0) rfl, rfl, _, rfl, iteNS rfl ?_⟩
      refine ⟨.ref u2, rfl, u2, _, _, _, rfl, rfl, tup_t hu2, atI_nat (j := 0) rfl, rfl, _, rfl, iteNS rfl ?_⟩
      refine ⟨.ref u, rfl, u, _, _, _, rfl, rfl, tup_t hu', atI_nat (j := 1) rfl, _, rfl, th, rfl, ⟨_, tup_t (s13 _ _ hth)⟩, fun D nD => lc_tup (K := K) (a := th) (xs := ts.map V.int) (fun i H4 => Same H3 H4 ∧ H4 D = some (.lst (((ts.take i).filter fun n => inV (.int n) ((os.take j).map V.int)).map V.int))) ⟨same_upd nD, upd_same⟩ (fun i H4 _ ⟨s, _⟩ => tup_t (s _ _ (s13 _ _ hth))) ?_ ?_⟩
      · rintro i x H4 hi ⟨s, hD⟩
        obtain ⟨n, rfl, hin⟩ := int_of hi
        refine ⟨rfl, ?_⟩
        refine ⟨_, rfl, _, rfl, _, rfl, (j : Int), rfl, ?_⟩
        refine sl_any (s _ _ (s13 _ _ ho)) fun H5 w s5 hw => ?_
        rw [cut_to, ← List.map_take] at hw
        have hD5 := s5 _ _ hD
        have tk : (ts.take (i + 1)).filter (fun n => inV (.int n) ((os.take j).map V.int)) = (ts.take i).filter (fun n => inV (.int n) ((os.take j).map V.int)) ++ [n].filter fun n => inV (.int n) ((os.take j).map V.int) := by
          rw [List.take_add_one, hin, List.filter_append]
          rfl
        refine ⟨w, _, rfl, .inr (tup_t hw), rfl, ints_flat _, _, rfl, ?_⟩
        have ill := (List.getElem?_eq_some_iff.mp hin).1
        cases e : inV (.int n) ((os.take j).map V.int) with
        | true =>
          refine iteT ?_
          refine ⟨_, rfl, _, hD5, ?_, same_mut (s.trans s5) nD, ?_⟩
          · rw [List.length_map]
            have h1 := List.length_filter_le (fun n => inV (.int n) ((os.take j).map V.int)) (ts.take i)
            rw [List.length_take] at h1
            exact small1000 (by omega)
          · rw [upd_same, tk, List.filter_cons, if_pos e, List.map_append]
            rfl
        | false =>
          refine iteF ⟨s.trans s5, ?_⟩
          rw [hD5, tk, List.filter_cons, if_neg (by rw [e]; exact Bool.false_ne_true), List.filter_nil, List.append_nil]
      rintro H4 ⟨s4, hD⟩
      rw [List.length_map, List.take_length] at hD
      have ef : firstK os (j : Int) = ts.filter fun n => inV (.int n) ((os.take j).map V.int) := by
        rw [firstK_filter pm asc, Int.toNat_natCast]
      rw [← ef] at hD
      refine ⟨D, _, rfl, .inl ⟨lst_l hD, fun t nt => ?_⟩⟩
      have s5 := same_upd (o := .tup ((firstK os (j : Int)).map V.int)) nt
      have s35 := s4.trans s5
      have fl := firstK_len os (j : Int)
      refine ⟨v, t, firstK os (j : Int), rfl, s35 _ _ hv', tup_t upd_same, by omega, true, rfl, iteF ?_⟩
      have s15 := s13.trans s35
      refine ⟨.ref u2, rfl, u2, _, _, _, rfl, rfl, tup_t (s35 _ _ hu2), atI_nat (j := 1) rfl, _, rfl, _, rfl, P1, ns, (j : Int), rfl, s15 _ _ hP, by omega, fun H6 t2 s6 ht2 => ?_⟩
      have dl := dearK_len ns ns.length (j : Int)
      exact ⟨v2, t2, dearK ns ns.length (j : Int), rfl, s6 _ _ (s35 _ _ hv2), tup_t ht2, by omega, q H6 (s15.trans s6)⟩
def sp_law (K : PySem.W.Frag) : Sp := fun vs H Q _ => ∃ (a : Addr) (ns : List Int), vs = [.ref a] ∧ SqL K H a (ns.map V.int) ∧ ns.length ≤ 63 ∧ ∀ H', Q (.bl true) H'

theorem ok_law {f : Addr} {fd : FuncData} {C_BadNumber C_TooMany C_ShelfError : Addr} (F : Fun K "law" "law" s_law f fd) (T : Txt K mg C_BadNumber C_TooMany C_ShelfError) (m_int : mg "int" = none) (m_range : mg "range" = none) (m_tuple : mg "tuple" = none) (c__law_cell : Cal P w K mg base CX0 1 "_law_cell" ["_law_script", "_law_place"] (sp__law_cell K)) (c__law_draws : Cal P w K mg base CX0 1 "_law_draws" ["_law_cell_here", "_law_sizes"] (sp__law_draws K)) (c__law_row : Cal P w K mg base CX0 2 "_law_row" ["_law_cell_here", "_law_count"] (sp__law_row K)) (c__law_shuffled : Cal P w K mg base CX0 1 "_law_shuffled" ["_law_places", "_law_things_here"] (sp__law_shuffled K)) (c__law_things : Cal P w K mg base CX0 2 "_law_things" ["_law_cell_here", "_law_count", "_law_size"] sp__law_things) (c__law_right : Cal P w K mg base CX0 7 "_law_right" ["_law_order", "_law_things_here", "_law_prices", "_law_k"] sp__law_right) : FnOk P w K mg base CX0 8 f fd ["_law_script"] (sp_law K) := by
  refine F.ok sc_law (fun vs H Q E h => ?_) (fun cdv A outer s H vs Q E hr h => ?_)
  · obtain ⟨a, ns, rfl, _⟩ := h
    rfl
  · obtain ⟨a, ns, rfl, hS, hlen, q⟩ := h
    obtain ⟨f__law_cell, fd__law_cell, G__law_cell, m__law_cell, k__law_cell, b__law_cell⟩ := c__law_cell
    obtain ⟨f__law_draws, fd__law_draws, G__law_draws, m__law_draws, k__law_draws, b__law_draws⟩ := c__law_draws
    obtain ⟨f__law_row, fd__law_row, G__law_row, m__law_row, k__law_row, b__law_row⟩ := c__law_row
    obtain ⟨f__law_shuffled, fd__law_shuffled, G__law_shuffled, m__law_shuffled, k__law_shuffled, b__law_shuffled⟩ := c__law_shuffled
    obtain ⟨f__law_things, fd__law_things, G__law_things, m__law_things, k__law_things, b__law_things⟩ := c__law_things
    obtain ⟨f__law_right, fd__law_right, G__law_right, m__law_right, k__law_right, b__law_right⟩ := c__law_right
    refine ⟨_, (pss_cons (ps_set (i := 1) sc_law.nd rfl (Or.inl rfl) (pe_call G__law_draws (hr.mono (by decide)) (by rfl) m__law_draws k__law_draws b__law_draws .nil pass0 (pa_cons (pe_call G__law_cell (hr.mono (by decide)) (by rfl) m__law_cell k__law_cell b__law_cell .nil pass0 (pa_cons (pv 0) (pa_cons pe_int pa_nil))) (pa_cons (pe_lst (pa_cons pe_int (pa_cons pe_int (pa_cons pe_int (pa_cons pe_int pa_nil))))) pa_nil))))
      (pss_cons (ps_set (i := 2) sc_law.nd rfl (Or.inl rfl) (pe_ix ix_list (pv 1) pe_int (fun _ _ => rfl)))
      (pss_cons (ps_set (i := 3) sc_law.nd rfl (Or.inl rfl) (pe_call G__law_row (hr.mono (by decide)) (by rfl) m__law_row k__law_row b__law_row .nil pass0 (pa_cons (pe_call G__law_cell (hr.mono (by decide)) (by rfl) m__law_cell k__law_cell b__law_cell .nil pass0 (pa_cons (pv 0) (pa_cons pe_int pa_nil))) (pa_cons (pv 2) pa_nil))))
      (pss_cons (ps_set (i := 4) sc_law.nd rfl (Or.inl rfl) (pe_call G__law_things (hr.mono (by decide)) (by rfl) m__law_things k__law_things b__law_things .nil pass0 (pa_cons (pe_call G__law_cell (hr.mono (by decide)) (by rfl) m__law_cell k__law_cell b__law_cell .nil pass0 (pa_cons (pv 0) (pa_cons pe_int pa_nil))) (pa_cons (pv 2) (pa_cons (pe_ix ix_list (pv 1) pe_int (fun _ _ => rfl)) pa_nil)))))
      (pss_cons (ps_set (i := 5) sc_law.nd rfl (Or.inl rfl) (pe_callTy call_tuple_of (by rfl) m_tuple (by decide +kernel) (pa_cons (pe_call G__law_shuffled (hr.mono (by decide)) (by rfl) m__law_shuffled k__law_shuffled b__law_shuffled .nil pass0 (pa_cons (pe_call G__law_draws (hr.mono (by decide)) (by rfl) m__law_draws k__law_draws b__law_draws .nil pass0 (pa_cons (pe_call G__law_cell (hr.mono (by decide)) (by rfl) m__law_cell k__law_cell b__law_cell .nil pass0 (pa_cons (pv 0) (pa_cons pe_int pa_nil))) (pa_cons (pe_lc (own := [("_law_k", 7)]) (g := (gName 7)) (tt := tYes) rfl sc_law.nd (pi_range1 (by rfl) m_range (pa_cons (pv 2) pa_nil)) (blkOk_by (own := [("_law_k", 7)]) (N := ["_law_script", "_law_ways", "_law_many", "_law_prices", "_law_things_here", "_law_order", "_law_wanted", "_law_k"]) (sc := defScope s_law) (by decide +kernel)) (fun _ _ _ _ _ => (pg_name (i := 7) sc_law.nd rfl (Or.inl rfl))) (fun _ _ _ _ _ => pts_nil) (fun _ _ _ _ _ => pe_int)) pa_nil))) (pa_cons (pv 4) pa_nil))) pa_nil)))
      (pss_cons (ps_set (i := 6) sc_law.nd rfl (Or.inl rfl) (pe_op op_sub (pe_op op_mod (pe_callTy call_int1 (by rfl) m_int (by decide +kernel) (pa_cons (pe_ix ix_list (pv 1) pe_int (fun _ _ => rfl)) pa_nil)) (pe_op op_add (pv 2) pe_int)) pe_int))
      (Evl.pss_cut (ps_if (pt_cmpR op_eq (pe_ix ix_list (pv 1) pe_int (fun _ _ => rfl)) pe_int (nomark _)) (pss_one (ps_set (i := 6) sc_law.nd rfl (Or.inl rfl) (pe_op op_sub (pe_op op_sub (pe_op op_pow pe_int pe_int) pe_int) (pe_ix ix_list (pv 1) pe_int (fun _ _ => rfl))))) pss_nil)
      (Evl.pss_cut (ps_if (pt_cmpR op_eq (pe_ix ix_list (pv 1) pe_int (fun _ _ => rfl)) pe_int (nomark _)) (pss_one (ps_set (i := 6) sc_law.nd rfl (Or.inl rfl) (pe_op op_sub (pe_op op_add (pe_ix ix_list (pv 1) pe_int (fun _ _ => rfl)) pe_int) (pe_op op_pow pe_int pe_int)))) pss_nil)
      (pss_cons (ps_if (pt_not (pt_val (pe_call G__law_right (hr.mono (by decide)) (by rfl) m__law_right k__law_right b__law_right .nil pass0 (pa_cons (pv 5) (pa_cons (pv 4) (pa_cons (pv 3) (pa_cons (pv 6) pa_nil))))))) (pss_one (ps_ret pe_bl)) pss_nil)
      (pss_one (ps_ret (pe_call G__law_right (hr.mono (by decide)) (by rfl) m__law_right k__law_right b__law_right .nil pass0 (pa_cons (pv 5) (pa_cons (pv 4) (pa_cons (pv 3) (pa_cons (pe_op op_mod (pe_callTy call_int1 (by rfl) m_int (by decide +kernel) (pa_cons (pe_ix ix_list (pv 1) pe_int (fun _ _ => rfl)) pa_nil)) (pe_op op_add (pv 2) pe_int)) pa_nil)))))))))))))))), ?_⟩
    refine ⟨.ref a, rfl, a, ns, 0, rfl, hS, fun c1 => ?_⟩
    refine ⟨(by show 4 ≤ sizeLine; decide), fun p1 np1 => ?_⟩
    refine ⟨c1, p1, [13, 8, 64, 3], rfl, lst_l upd_same, by decide, by decide, fun dsd1 H1 d1 wd1 s1 nd1 hd1 => ?_⟩
    have s1 : Same H H1 := (same_upd np1).trans s1
    have nd1 : H d1 = none := (same_upd np1).free nd1
    obtain ⟨x0, rx0, rfl, lx0, ux0, wd1⟩ := wd1.c
    obtain ⟨x1, rx1, rfl, lx1, ux1, wd1⟩ := wd1.c
    obtain ⟨x2, rx2, rfl, lx2, ux2, wd1⟩ := wd1.c
    obtain ⟨x3, rx3, rfl, lx3, ux3, wd1⟩ := wd1.c
    cases wd1.n
    have Ld1 : SqL K H1 d1 ([x0, x1, x2, x3].map V.int) := lst_l hd1
    obtain ⟨m, rfl⟩ : ∃ m : Nat, x0 = (m : Int) := ⟨x0.toNat, by omega⟩
    refine ⟨.ref d1, rfl, d1, _, _, _, rfl, rfl, Ld1, atI_nat (j := 0) rfl, ?_⟩
    refine ⟨.ref a, rfl, a, ns, 1, rfl, s1.seq hS, fun c2 => ⟨_, rfl, c2, m, rfl, by omega, fun rs H2 P1 lr br s2 nP hP => ?_⟩⟩
    have s02 := s1.trans s2
    refine ⟨.ref a, rfl, a, ns, 2, rfl, s02.seq hS, fun c3 => ⟨_, rfl, .ref d1, rfl, d1, _, _, _, rfl, rfl, (s2.seq Ld1), atI_nat (j := 3) rfl, c3, x3, m, rfl, by omega, by omega, by omega, fun H3 th ts s3 hth lt asc => ?_⟩⟩
    have s03 := s02.trans s3
    refine ⟨.ref a, rfl, a, ns, 3, rfl, s03.seq hS, fun c4 => ?_⟩
    refine ⟨_, rfl, _, rfl, by omega, by omega, ?_⟩
    rw [Int.toNat_natCast]
    refine fun D nD => lc_range (lo := 0) (n := m) (fun i H4 => Same H3 H4 ∧ H4 D = some (.lst ((List.replicate i (12 : Int)).map V.int))) ⟨same_upd nD, upd_same⟩ ?_ ?_
    · rintro i H4 hi ⟨s, hD⟩
      refine ⟨rfl, ?_⟩
      refine lc_yes ?_
      refine iteT ?_
      refine ⟨_, hD, ?_, same_mut s nD, ?_⟩
      · rw [List.length_map, List.length_replicate]
        exact small1000 (by omega)
      · rw [upd_same, List.replicate_succ', ← snoc_int]
    rintro H4 ⟨s4, hD⟩
    refine ⟨c4, D, List.replicate m (12 : Int), rfl, lst_l hD, fun n hn => by rw [(List.mem_replicate.mp hn).2]; decide, by rw [List.length_replicate]; omega, fun ds H5 d w s5 nd hd => ?_⟩
    have ld : ds.length = m := by rw [w.len, List.length_replicate]
    have s35 := s4.trans s5
    refine ⟨_, rfl, d, th, ds, ts, rfl, hd, s35 _ _ hth, by omega, by omega, fun H6 f fs s6 hf pf => ?_⟩
    refine ⟨f, _, rfl, .inl ⟨lst_l hf, fun o no => ?_⟩⟩
    have s7 := same_upd (o := .tup (fs.map V.int)) no
    have ho : upd H6 o (.tup (fs.map V.int)) o = some (.tup (fs.map V.int)) := upd_same
    have s37 := (s35.trans s6).trans s7
    have hth7 := s37 _ _ hth
    have hP7 := (s3.trans s37) _ _ hP
    have L7 : SqL K (upd H6 o (.tup (fs.map V.int))) d1 ([(m : Int), x1, x2, x3].map V.int) := ((s2.trans s3).trans s37).seq Ld1
    generalize upd H6 o (.tup (fs.map V.int)) = H7 at s7 ho s37 hth7 hP7 L7 ⊢
    refine ⟨.ref d1, rfl, d1, _, _, _, rfl, rfl, L7, atI_nat (j := 2) rfl, .inl ⟨x2, rfl, _, rfl, _, _, rfl, rfl, _, _, rfl, rfl, by omega, _, _, rfl, rfl, ?_⟩⟩
    refine ⟨fun σ' H' => ∃ wk : Int, H7 = H' ∧ σ' = [some (.ref a), some (.ref d1), some (.int (m : Int)), some (.ref P1), some (.ref th), some (.ref o), some (.int wk), none], ?_, ?_⟩
    · refine ⟨.ref d1, rfl, d1, _, _, _, rfl, rfl, L7, atI_nat (j := 1) rfl, rfl, _, rfl, ite2 (fun _ => ?_) (fun _ => ⟨_, rfl, rfl⟩)⟩
      exact ⟨10, 60, rfl, rfl, ⟨by decide, by decide, by decide⟩, _, _, rfl, rfl, .ref d1, rfl, d1, _, _, _, rfl, rfl, L7, atI_nat (j := 2) rfl, _, _, rfl, rfl, _, rfl, rfl⟩
    rintro σ' H8 ⟨wk, rfl, rfl⟩
    refine ⟨fun σ' H' => ∃ wk : Int, H7 = H' ∧ σ' = [some (.ref a), some (.ref d1), some (.int (m : Int)), some (.ref P1), some (.ref th), some (.ref o), some (.int wk), none], ?_, ?_⟩
    · refine ⟨.ref d1, rfl, d1, _, _, _, rfl, rfl, L7, atI_nat (j := 1) rfl, rfl, _, rfl, ite2 (fun _ => ?_) (fun _ => ⟨_, rfl, rfl⟩)⟩
      exact ⟨.ref d1, rfl, d1, _, _, _, rfl, rfl, L7, atI_nat (j := 2) rfl, _, _, rfl, rfl, 10, 60, rfl, rfl, ⟨by decide, by decide, by decide⟩, _, _, rfl, rfl, _, rfl, rfl⟩
    rintro σ' H8 ⟨wk, rfl, rfl⟩
    refine ⟨_, rfl, _, rfl, _, rfl, _, rfl, o, th, P1, fs, ts, rs, wk, rfl, ho, hth7, hP7, pf, asc, by omega, by omega, fun H9 s9 => ⟨true, rfl, iteF ?_⟩⟩
    have L9 := s9.seq L7
    refine ⟨_, rfl, _, rfl, _, rfl, .ref d1, rfl, d1, _, _, _, rfl, rfl, L9, atI_nat (j := 2) rfl, .inl ⟨x2, rfl, _, rfl, _, _, rfl, rfl, _, _, rfl, rfl, by omega, ?_⟩⟩
    exact ⟨o, th, P1, fs, ts, rs, _, rfl, s9 _ _ ho, s9 _ _ hth7, s9 _ _ hP7, pf, asc, by omega, by omega, fun H10 s10 => q _⟩
end
/-! ### what the top has written; the law's own head -/
theorem all_mk {l : PySem.W.OpenLaw} {w : World} {K : PySem.W.Frag} {h : Heap} {mg : Str → Option Value} {fa f1 f2 f3 f4 f5 f6 f7 f8 f9 f10 f11 f12 f13 f14 f15 f16 f17 f18 f19 C_BadNumber C_TooMany C_ShelfError : Addr} (X : K.In h) (G : h.Ns mainGlobals mg) (hfa : mg "law" = some (.ref fa))
    {od1 an1 od2 an2 od3 an3 od4 an4 od5 an5 od6 an6 od7 an7 od8 an8 od9 an9 od10 an10 od11 an11 od12 an12 od13 an13 od14 an14 od15 an15 od16 an16 od17 an17 od18 an18 od19 an19 : Option Addr} {sl1 sl2 sl3 sl4 sl5 sl6 sl7 sl8 sl9 sl10 sl11 sl12 sl13 sl14 sl15 sl16 sl17 sl18 sl19 : Array (Option Value)} {oc1 kV1 dc1 pm1 cd1 ct1 oc2 kV2 dc2 pm2 cd2 ct2 oc3 kV3 dc3 pm3 cd3 ct3 oc4 kV4 dc4 pm4 cd4 ct4 oc5 kV5 dc5 pm5 cd5 ct5 oc6 kV6 dc6 pm6 cd6 ct6 oc7 kV7 dc7 pm7 cd7 ct7 oc8 kV8 dc8 pm8 cd8 ct8 oc9 kV9 dc9 pm9 cd9 ct9 oc10 kV10 dc10 pm10 cd10 ct10 oc11 kV11 dc11 pm11 cd11 ct11 oc12 kV12 dc12 pm12 cd12 ct12 oc13 kV13 dc13 pm13 cd13 ct13 oc14 kV14 dc14 pm14 cd14 ct14 oc15 kV15 dc15 pm15 cd15 ct15 oc16 kV16 dc16 pm16 cd16 ct16 oc17 kV17 dc17 pm17 cd17 ct17 oc18 kV18 dc18 pm18 cd18 ct18 oc19 kV19 dc19 pm19 cd19 ct19 : Value}
    (a_BadNumber : PySem.W.nsIn K mainGlobals "BadNumber" = some (some (.ref C_BadNumber)))
    (kc_BadNumber : PySem.W.keepIn K (.ref C_BadNumber) = true)
    (hd_BadNumber : PySem.W.hasDictIn K C_BadNumber = true)
    (ha_BadNumber : PySem.W.findIn K (.ref C_BadNumber) "__class__" = some (some (.builtin "object.__class__")))
    (hm_BadNumber : PySem.W.mroIn K C_BadNumber (.type "object") = some true)
    (b_BadNumber : PySem.W.subIn K (.ref C_BadNumber) (.type "BaseException") = some true)
    (t_BadNumber : PySem.W.typeIn K (.ref C_BadNumber) = some (.type "type"))
    (ga_BadNumber : PySem.W.findIn K (.ref C_BadNumber) "__getattribute__" = some (some (.builtin "BaseException.__getattribute__")))
    (gg_BadNumber : PySem.W.findIn K (.ref C_BadNumber) "__getattr__" = some none)
    (ol_BadNumber : K.lookup C_BadNumber = some (excClassObj nm_BadNumber q_BadNumber C_BadNumber N_BadNumber bs_BadNumber bm_BadNumber true sn_BadNumber sub_BadNumber ab_BadNumber col_BadNumber dd_BadNumber k0_BadNumber k1_BadNumber k2_BadNumber k3_BadNumber k5_BadNumber "ValueError.__new__"))
    (or_BadNumber : PySem.HandSPX.refsVE bm_BadNumber = true)
    (sa_BadNumber : PySem.W.findIn K (.ref C_BadNumber) "__setattr__" = some (some (.builtin "object.__setattr__")))
    (n_BadNumber_what : PySem.W.findIn K (.ref C_BadNumber) "what" = some none)
    (n_BadNumber_at : PySem.W.findIn K (.ref C_BadNumber) "at" = some none)
    (a_TooMany : PySem.W.nsIn K mainGlobals "TooMany" = some (some (.ref C_TooMany)))
    (kc_TooMany : PySem.W.keepIn K (.ref C_TooMany) = true)
    (hd_TooMany : PySem.W.hasDictIn K C_TooMany = true)
    (ha_TooMany : PySem.W.findIn K (.ref C_TooMany) "__class__" = some (some (.builtin "object.__class__")))
    (hm_TooMany : PySem.W.mroIn K C_TooMany (.type "object") = some true)
    (b_TooMany : PySem.W.subIn K (.ref C_TooMany) (.type "BaseException") = some true)
    (t_TooMany : PySem.W.typeIn K (.ref C_TooMany) = some (.type "type"))
    (ga_TooMany : PySem.W.findIn K (.ref C_TooMany) "__getattribute__" = some (some (.builtin "BaseException.__getattribute__")))
    (gg_TooMany : PySem.W.findIn K (.ref C_TooMany) "__getattr__" = some none)
    (ol_TooMany : K.lookup C_TooMany = some (excClassObj nm_TooMany q_TooMany C_TooMany N_TooMany bs_TooMany bm_TooMany true sn_TooMany sub_TooMany ab_TooMany col_TooMany dd_TooMany k0_TooMany k1_TooMany k2_TooMany k3_TooMany k5_TooMany "ValueError.__new__"))
    (or_TooMany : PySem.HandSPX.refsVE bm_TooMany = true)
    (sa_TooMany : PySem.W.findIn K (.ref C_TooMany) "__setattr__" = some (some (.builtin "object.__setattr__")))
    (n_TooMany_many : PySem.W.findIn K (.ref C_TooMany) "many" = some none)
    (n_TooMany_most : PySem.W.findIn K (.ref C_TooMany) "most" = some none)
    (a_ShelfError : PySem.W.nsIn K mainGlobals "ShelfError" = some (some (.ref C_ShelfError)))
    (kc_ShelfError : PySem.W.keepIn K (.ref C_ShelfError) = true)
    (hd_ShelfError : PySem.W.hasDictIn K C_ShelfError = true)
    (ha_ShelfError : PySem.W.findIn K (.ref C_ShelfError) "__class__" = some (some (.builtin "object.__class__")))
    (hm_ShelfError : PySem.W.mroIn K C_ShelfError (.type "object") = some true)
    (b_ShelfError : PySem.W.subIn K (.ref C_ShelfError) (.type "BaseException") = some true)
    (t_ShelfError : PySem.W.typeIn K (.ref C_ShelfError) = some (.type "type"))
    (ga_ShelfError : PySem.W.findIn K (.ref C_ShelfError) "__getattribute__" = some (some (.builtin "BaseException.__getattribute__")))
    (gg_ShelfError : PySem.W.findIn K (.ref C_ShelfError) "__getattr__" = some none)
    (hnc : PySem.W.specialIn K (.builtin "object.__class__") "__get__" = some (some (.builtin "getset_descriptor.__get__")))
    (htk : PySem.W.takesIn K (.builtin "object.__class__") = some true)
    (sub_BadNumber_BadNumber : PySem.W.subIn K (.ref C_BadNumber) (.ref C_BadNumber) = some true)
    (sub_BadNumber_ShelfError : PySem.W.subIn K (.ref C_BadNumber) (.ref C_ShelfError) = some true)
    (kit_BadNumber_TooMany : PySem.W.kitOne K (.ref C_BadNumber) (.ref C_TooMany) = some false)
    (kit_BadNumber_ValueError : PySem.W.kitOne K (.ref C_BadNumber) (.type "ValueError") = some true)
    (kit_BadNumber_BadNumber : PySem.W.kitOne K (.ref C_BadNumber) (.ref C_BadNumber) = some true)
    (a1 : PySem.W.findIn K (.ref C_BadNumber) "__init__" = some (some (.ref f1))) (i1 : PySem.W.isFn K (.ref f1) = true)
    (l1 : K.lookup f1 = some ⟨oc1, od1, .func (PySem.W.fnOf "__init__" "BadNumber.__init__" (defArgs s_BadNumber___init__) (defBody s_BadNumber___init__) (defScope s_BadNumber___init__) .none kV1 dc1 pm1 an1 cd1 ct1), sl1⟩)
    (c1 : PySem.W.codeIn K cd1 "BadNumber.__init__" = true) (k1 : PySem.W.keepIn K (.ref f1) = true)
    (a2 : PySem.W.nsIn K mainGlobals "check_up_to" = some (some (.ref f2)))
    (l2 : K.lookup f2 = some ⟨oc2, od2, .func (PySem.W.fnOf "check_up_to" "check_up_to" (defArgs s_check_up_to) (defBody s_check_up_to) (defScope s_check_up_to) .none kV2 dc2 pm2 an2 cd2 ct2), sl2⟩)
    (c2 : PySem.W.codeIn K cd2 "check_up_to" = true) (k2 : PySem.W.keepIn K (.ref f2) = true)
    (a3 : PySem.W.nsIn K mainGlobals "dearest_order" = some (some (.ref f3)))
    (l3 : K.lookup f3 = some ⟨oc3, od3, .func (PySem.W.fnOf "dearest_order" "dearest_order" (defArgs s_dearest_order) (defBody s_dearest_order) (defScope s_dearest_order) .none kV3 dc3 pm3 an3 cd3 ct3), sl3⟩)
    (c3 : PySem.W.codeIn K cd3 "dearest_order" = true) (k3 : PySem.W.keepIn K (.ref f3) = true)
    (a4 : PySem.W.nsIn K mainGlobals "first_things" = some (some (.ref f4)))
    (l4 : K.lookup f4 = some ⟨oc4, od4, .func (PySem.W.fnOf "first_things" "first_things" (defArgs s_first_things) (defBody s_first_things) (defScope s_first_things) .none kV4 dc4 pm4 an4 cd4 ct4), sl4⟩)
    (c4 : PySem.W.codeIn K cd4 "first_things" = true) (k4 : PySem.W.keepIn K (.ref f4) = true)
    (a5 : PySem.W.nsIn K mainGlobals "dearest" = some (some (.ref f5)))
    (l5 : K.lookup f5 = some ⟨oc5, od5, .func (PySem.W.fnOf "dearest" "dearest" (defArgs s_dearest) (defBody s_dearest) (defScope s_dearest) .none kV5 dc5 pm5 an5 cd5 ct5), sl5⟩)
    (c5 : PySem.W.codeIn K cd5 "dearest" = true) (k5 : PySem.W.keepIn K (.ref f5) = true)
    (a6 : PySem.W.nsIn K mainGlobals "_law_cell" = some (some (.ref f6)))
    (l6 : K.lookup f6 = some ⟨oc6, od6, .func (PySem.W.fnOf "_law_cell" "_law_cell" (defArgs s__law_cell) (defBody s__law_cell) (defScope s__law_cell) .none kV6 dc6 pm6 an6 cd6 ct6), sl6⟩)
    (c6 : PySem.W.codeIn K cd6 "_law_cell" = true) (k6 : PySem.W.keepIn K (.ref f6) = true)
    (a7 : PySem.W.nsIn K mainGlobals "_law_draws" = some (some (.ref f7)))
    (l7 : K.lookup f7 = some ⟨oc7, od7, .func (PySem.W.fnOf "_law_draws" "_law_draws" (defArgs s__law_draws) (defBody s__law_draws) (defScope s__law_draws) .none kV7 dc7 pm7 an7 cd7 ct7), sl7⟩)
    (c7 : PySem.W.codeIn K cd7 "_law_draws" = true) (k7 : PySem.W.keepIn K (.ref f7) = true)
    (a8 : PySem.W.nsIn K mainGlobals "_law_row" = some (some (.ref f8)))
    (l8 : K.lookup f8 = some ⟨oc8, od8, .func (PySem.W.fnOf "_law_row" "_law_row" (defArgs s__law_row) (defBody s__law_row) (defScope s__law_row) .none kV8 dc8 pm8 an8 cd8 ct8), sl8⟩)
    (c8 : PySem.W.codeIn K cd8 "_law_row" = true) (k8 : PySem.W.keepIn K (.ref f8) = true)
    (a9 : PySem.W.nsIn K mainGlobals "_law_shuffled" = some (some (.ref f9)))
    (l9 : K.lookup f9 = some ⟨oc9, od9, .func (PySem.W.fnOf "_law_shuffled" "_law_shuffled" (defArgs s__law_shuffled) (defBody s__law_shuffled) (defScope s__law_shuffled) .none kV9 dc9 pm9 an9 cd9 ct9), sl9⟩)
    (c9 : PySem.W.codeIn K cd9 "_law_shuffled" = true) (k9 : PySem.W.keepIn K (.ref f9) = true)
    (a10 : PySem.W.nsIn K mainGlobals "_law_is_int" = some (some (.ref f10)))
    (l10 : K.lookup f10 = some ⟨oc10, od10, .func (PySem.W.fnOf "_law_is_int" "_law_is_int" (defArgs s__law_is_int) (defBody s__law_is_int) (defScope s__law_is_int) .none kV10 dc10 pm10 an10 cd10 ct10), sl10⟩)
    (c10 : PySem.W.codeIn K cd10 "_law_is_int" = true) (k10 : PySem.W.keepIn K (.ref f10) = true)
    (a11 : PySem.W.nsIn K mainGlobals "_law_same_lot" = some (some (.ref f11)))
    (l11 : K.lookup f11 = some ⟨oc11, od11, .func (PySem.W.fnOf "_law_same_lot" "_law_same_lot" (defArgs s__law_same_lot) (defBody s__law_same_lot) (defScope s__law_same_lot) .none kV11 dc11 pm11 an11 cd11 ct11), sl11⟩)
    (c11 : PySem.W.codeIn K cd11 "_law_same_lot" = true) (k11 : PySem.W.keepIn K (.ref f11) = true)
    (a12 : PySem.W.nsIn K mainGlobals "_law_things" = some (some (.ref f12)))
    (l12 : K.lookup f12 = some ⟨oc12, od12, .func (PySem.W.fnOf "_law_things" "_law_things" (defArgs s__law_things) (defBody s__law_things) (defScope s__law_things) .none kV12 dc12 pm12 an12 cd12 ct12), sl12⟩)
    (c12 : PySem.W.codeIn K cd12 "_law_things" = true) (k12 : PySem.W.keepIn K (.ref f12) = true)
    (a13 : PySem.W.nsIn K mainGlobals "_law_first" = some (some (.ref f13)))
    (l13 : K.lookup f13 = some ⟨oc13, od13, .func (PySem.W.fnOf "_law_first" "_law_first" (defArgs s__law_first) (defBody s__law_first) (defScope s__law_first) .none kV13 dc13 pm13 an13 cd13 ct13), sl13⟩)
    (c13 : PySem.W.codeIn K cd13 "_law_first" = true) (k13 : PySem.W.keepIn K (.ref f13) = true)
    (a14 : PySem.W.nsIn K mainGlobals "_law_dear" = some (some (.ref f14)))
    (l14 : K.lookup f14 = some ⟨oc14, od14, .func (PySem.W.fnOf "_law_dear" "_law_dear" (defArgs s__law_dear) (defBody s__law_dear) (defScope s__law_dear) .none kV14 dc14 pm14 an14 cd14 ct14), sl14⟩)
    (c14 : PySem.W.codeIn K cd14 "_law_dear" = true) (k14 : PySem.W.keepIn K (.ref f14) = true)
    (a15 : PySem.W.nsIn K mainGlobals "_law_base" = some (some (.ref f15)))
    (l15 : K.lookup f15 = some ⟨oc15, od15, .func (PySem.W.fnOf "_law_base" "_law_base" (defArgs s__law_base) (defBody s__law_base) (defScope s__law_base) .none kV15 dc15 pm15 an15 cd15 ct15), sl15⟩)
    (c15 : PySem.W.codeIn K cd15 "_law_base" = true) (k15 : PySem.W.keepIn K (.ref f15) = true)
    (a16 : PySem.W.nsIn K mainGlobals "_law_refused" = some (some (.ref f16)))
    (l16 : K.lookup f16 = some ⟨oc16, od16, .func (PySem.W.fnOf "_law_refused" "_law_refused" (defArgs s__law_refused) (defBody s__law_refused) (defScope s__law_refused) .none kV16 dc16 pm16 an16 cd16 ct16), sl16⟩)
    (c16 : PySem.W.codeIn K cd16 "_law_refused" = true) (k16 : PySem.W.keepIn K (.ref f16) = true)
    (a17 : PySem.W.nsIn K mainGlobals "_law_dearest" = some (some (.ref f17)))
    (l17 : K.lookup f17 = some ⟨oc17, od17, .func (PySem.W.fnOf "_law_dearest" "_law_dearest" (defArgs s__law_dearest) (defBody s__law_dearest) (defScope s__law_dearest) .none kV17 dc17 pm17 an17 cd17 ct17), sl17⟩)
    (c17 : PySem.W.codeIn K cd17 "_law_dearest" = true) (k17 : PySem.W.keepIn K (.ref f17) = true)
    (a18 : PySem.W.nsIn K mainGlobals "_law_right" = some (some (.ref f18)))
    (l18 : K.lookup f18 = some ⟨oc18, od18, .func (PySem.W.fnOf "_law_right" "_law_right" (defArgs s__law_right) (defBody s__law_right) (defScope s__law_right) .none kV18 dc18 pm18 an18 cd18 ct18), sl18⟩)
    (c18 : PySem.W.codeIn K cd18 "_law_right" = true) (k18 : PySem.W.keepIn K (.ref f18) = true)
    (a19 : PySem.W.nsIn K mainGlobals "law" = some (some (.ref f19)))
    (l19 : K.lookup f19 = some ⟨oc19, od19, .func (PySem.W.fnOf "law" "law" (defArgs s_law) (defBody s_law) (defScope s_law) .none kV19 dc19 pm19 an19 cd19 ct19), sl19⟩)
    (c19 : PySem.W.codeIn K cd19 "law" = true) (k19 : PySem.W.keepIn K (.ref f19) = true)
    (z_ValueError : PySem.W.nsIn K mainGlobals "ValueError" = some none)
    (z_bool : PySem.W.nsIn K mainGlobals "bool" = some none)
    (z_int : PySem.W.nsIn K mainGlobals "int" = some none)
    (z_isinstance : PySem.W.nsIn K mainGlobals "isinstance" = some none)
    (z_len : PySem.W.nsIn K mainGlobals "len" = some none)
    (z_list : PySem.W.nsIn K mainGlobals "list" = some none)
    (z_range : PySem.W.nsIn K mainGlobals "range" = some none)
    (z_sorted : PySem.W.nsIn K mainGlobals "sorted" = some none)
    (z_str : PySem.W.nsIn K mainGlobals "str" = some none)
    (z_tuple : PySem.W.nsIn K mainGlobals "tuple" = some none) :
    ∃ fd : FuncData, (∀ (s : Shared) (v : Value), BindsTo s fd ⟨[v], []⟩ [("_law_script", v)]) ∧ ∀ base : Heap, K.In base → base.Ns mainGlobals mg → FnOk l.prog w K mg base CX0 8 fa fd ["_law_script"] (sp_law K) := by
  have e := hfa.symm.trans (PySem.W.mg_of X G a19)
  cases e
  have m_ValueError := PySem.W.mg_none_of X G z_ValueError
  have m_bool := PySem.W.mg_none_of X G z_bool
  have m_int := PySem.W.mg_none_of X G z_int
  have m_isinstance := PySem.W.mg_none_of X G z_isinstance
  have m_len := PySem.W.mg_none_of X G z_len
  have m_list := PySem.W.mg_none_of X G z_list
  have m_range := PySem.W.mg_none_of X G z_range
  have m_sorted := PySem.W.mg_none_of X G z_sorted
  have m_str := PySem.W.mg_none_of X G z_str
  have m_tuple := PySem.W.mg_none_of X G z_tuple
  have T : Txt K mg C_BadNumber C_TooMany C_ShelfError := ⟨PySem.W.mg_of X G a_BadNumber, kc_BadNumber, hd_BadNumber, ha_BadNumber, hm_BadNumber, b_BadNumber, t_BadNumber, ga_BadNumber, gg_BadNumber, ⟨⟨_, _, _, _, _, _, _, _, _, _, _, _, _, _, _, ol_BadNumber, or_BadNumber⟩, sa_BadNumber, b_BadNumber, t_BadNumber, kc_BadNumber⟩, ⟨ga_BadNumber, gg_BadNumber, b_BadNumber, hd_BadNumber⟩, n_BadNumber_what, n_BadNumber_at, PySem.W.mg_of X G a_TooMany, kc_TooMany, hd_TooMany, ha_TooMany, hm_TooMany, b_TooMany, t_TooMany, ga_TooMany, gg_TooMany, ⟨⟨_, _, _, _, _, _, _, _, _, _, _, _, _, _, _, ol_TooMany, or_TooMany⟩, sa_TooMany, b_TooMany, t_TooMany, kc_TooMany⟩, ⟨ga_TooMany, gg_TooMany, b_TooMany, hd_TooMany⟩, n_TooMany_many, n_TooMany_most, PySem.W.mg_of X G a_ShelfError, kc_ShelfError, hd_ShelfError, ha_ShelfError, hm_ShelfError, b_ShelfError, t_ShelfError, ga_ShelfError, gg_ShelfError, hnc, htk, sub_BadNumber_BadNumber, sub_BadNumber_ShelfError, kit_BadNumber_TooMany, kit_BadNumber_ValueError, kit_BadNumber_BadNumber⟩
  have F1 := fun_mk (st := s_BadNumber___init__) l1 c1 k1
  have b1 := F1.binds (ps := ["self", "what", "at"]) fun _ _ _ _ _ _ us hl => match us, hl with | [_, _, _], _ => rfl
  have F2 := fun_mk (st := s_check_up_to) l2 c2 k2
  have b2 := F2.binds (ps := ["what", "number", "most"]) fun _ _ _ _ _ _ us hl => match us, hl with | [_, _, _], _ => rfl
  have F3 := fun_mk (st := s_dearest_order) l3 c3 k3
  have b3 := F3.binds (ps := ["prices"]) fun _ _ _ _ _ _ us hl => match us, hl with | [_], _ => rfl
  have F4 := fun_mk (st := s_first_things) l4 c4 k4
  have b4 := F4.binds (ps := ["order", "k"]) fun _ _ _ _ _ _ us hl => match us, hl with | [_, _], _ => rfl
  have F5 := fun_mk (st := s_dearest) l5 c5 k5
  have b5 := F5.binds (ps := ["prices", "k"]) fun _ _ _ _ _ _ us hl => match us, hl with | [_, _], _ => rfl
  have F6 := fun_mk (st := s__law_cell) l6 c6 k6
  have b6 := F6.binds (ps := ["_law_script", "_law_place"]) fun _ _ _ _ _ _ us hl => match us, hl with | [_, _], _ => rfl
  have F7 := fun_mk (st := s__law_draws) l7 c7 k7
  have b7 := F7.binds (ps := ["_law_cell_here", "_law_sizes"]) fun _ _ _ _ _ _ us hl => match us, hl with | [_, _], _ => rfl
  have F8 := fun_mk (st := s__law_row) l8 c8 k8
  have b8 := F8.binds (ps := ["_law_cell_here", "_law_count"]) fun _ _ _ _ _ _ us hl => match us, hl with | [_, _], _ => rfl
  have F9 := fun_mk (st := s__law_shuffled) l9 c9 k9
  have b9 := F9.binds (ps := ["_law_places", "_law_things_here"]) fun _ _ _ _ _ _ us hl => match us, hl with | [_, _], _ => rfl
  have F10 := fun_mk (st := s__law_is_int) l10 c10 k10
  have b10 := F10.binds (ps := ["_law_x"]) fun _ _ _ _ _ _ us hl => match us, hl with | [_], _ => rfl
  have F11 := fun_mk (st := s__law_same_lot) l11 c11 k11
  have b11 := F11.binds (ps := ["_law_x", "_law_due"]) fun _ _ _ _ _ _ us hl => match us, hl with | [_, _], _ => rfl
  have F12 := fun_mk (st := s__law_things) l12 c12 k12
  have b12 := F12.binds (ps := ["_law_cell_here", "_law_count", "_law_size"]) fun _ _ _ _ _ _ us hl => match us, hl with | [_, _, _], _ => rfl
  have F13 := fun_mk (st := s__law_first) l13 c13 k13
  have b13 := F13.binds (ps := ["_law_order", "_law_k"]) fun _ _ _ _ _ _ us hl => match us, hl with | [_, _], _ => rfl
  have F14 := fun_mk (st := s__law_dear) l14 c14 k14
  have b14 := F14.binds (ps := ["_law_prices", "_law_k"]) fun _ _ _ _ _ _ us hl => match us, hl with | [_, _], _ => rfl
  have F15 := fun_mk (st := s__law_base) l15 c15 k15
  have b15 := F15.binds (ps := ["_law_order", "_law_k"]) fun _ _ _ _ _ _ us hl => match us, hl with | [_, _], _ => rfl
  have F16 := fun_mk (st := s__law_refused) l16 c16 k16
  have b16 := F16.binds (ps := ["_law_told"]) fun _ _ _ _ _ _ us hl => match us, hl with | [_], _ => rfl
  have F17 := fun_mk (st := s__law_dearest) l17 c17 k17
  have b17 := F17.binds (ps := ["_law_prices", "_law_k"]) fun _ _ _ _ _ _ us hl => match us, hl with | [_, _], _ => rfl
  have F18 := fun_mk (st := s__law_right) l18 c18 k18
  have b18 := F18.binds (ps := ["_law_order", "_law_things_here", "_law_prices", "_law_k"]) fun _ _ _ _ _ _ us hl => match us, hl with | [_, _, _, _], _ => rfl
  have F19 := fun_mk (st := s_law) l19 c19 k19
  refine ⟨PySem.W.fnOf "law" "law" (defArgs s_law) (defBody s_law) (defScope s_law) .none kV19 dc19 pm19 an19 cd19 ct19, fun s v => .of_eq rfl, fun base _ _ => ?_⟩
  have K_BadNumber___init__ : CalX l.prog w K mg base CX0 1 C_BadNumber ["self", "what", "at"] (sp_BadNumber___init__ C_BadNumber) := ⟨f1, _, ok_BadNumber___init__ F1 T, a1, beq_iff_eq.mp i1, b1⟩
  have K_check_up_to : Cal l.prog w K mg base (L2.CX l.prog w) 3 "check_up_to" ["what", "number", "most"] (sp_check_up_to C_BadNumber) := ⟨f2, _, ok_check_up_to F2 T K_BadNumber___init__, PySem.W.mg_of X G a2, k2, b2⟩
  have K_dearest_order : Cal l.prog w K mg base CX0 1 "dearest_order" ["prices"] (sp_dearest_order K) := ⟨f3, _, ok_dearest_order F3 T m_len m_range m_tuple, PySem.W.mg_of X G a3, k3, b3⟩
  have K_first_things : Cal l.prog w K mg base (L2.CX l.prog w) 4 "first_things" ["order", "k"] (sp_first_things K C_BadNumber) := ⟨f4, _, ok_first_things F4 T m_int m_len m_sorted m_tuple K_check_up_to, PySem.W.mg_of X G a4, k4, b4⟩
  have K_dearest : Cal l.prog w K mg base (L2.CX l.prog w) 5 "dearest" ["prices", "k"] (sp_dearest C_BadNumber) := ⟨f5, _, ok_dearest F5 T K_dearest_order K_first_things, PySem.W.mg_of X G a5, k5, b5⟩
  have K__law_cell : Cal l.prog w K mg base CX0 1 "_law_cell" ["_law_script", "_law_place"] (sp__law_cell K) := ⟨f6, _, ok__law_cell F6 T m_int m_len, PySem.W.mg_of X G a6, k6, b6⟩
  have K__law_draws : Cal l.prog w K mg base CX0 1 "_law_draws" ["_law_cell_here", "_law_sizes"] (sp__law_draws K) := ⟨f7, _, ok__law_draws F7 T m_int m_len m_range, PySem.W.mg_of X G a7, k7, b7⟩
  have K__law_row : Cal l.prog w K mg base CX0 2 "_law_row" ["_law_cell_here", "_law_count"] (sp__law_row K) := ⟨f8, _, ok__law_row F8 T m_int m_range K__law_draws, PySem.W.mg_of X G a8, k8, b8⟩
  have K__law_shuffled : Cal l.prog w K mg base CX0 1 "_law_shuffled" ["_law_places", "_law_things_here"] (sp__law_shuffled K) := ⟨f9, _, ok__law_shuffled F9 T m_int m_len m_list, PySem.W.mg_of X G a9, k9, b9⟩
  have K__law_is_int : Cal l.prog w K mg base CX0 1 "_law_is_int" ["_law_x"] sp__law_is_int := ⟨f10, _, ok__law_is_int F10 T m_bool m_int m_isinstance, PySem.W.mg_of X G a10, k10, b10⟩
  have K__law_same_lot : Cal l.prog w K mg base CX0 2 "_law_same_lot" ["_law_x", "_law_due"] (sp__law_same_lot K) := ⟨f11, _, ok__law_same_lot F11 T m_isinstance m_len m_range m_tuple K__law_is_int, PySem.W.mg_of X G a11, k11, b11⟩
  have K__law_things : Cal l.prog w K mg base CX0 2 "_law_things" ["_law_cell_here", "_law_count", "_law_size"] sp__law_things := ⟨f12, _, ok__law_things F12 T m_int m_range m_tuple K__law_draws, PySem.W.mg_of X G a12, k12, b12⟩
  have K__law_first : Cal l.prog w K mg base CX0 5 "_law_first" ["_law_order", "_law_k"] sp__law_first := ⟨f13, _, ok__law_first F13 T m_isinstance K_first_things, PySem.W.mg_of X G a13, k13, b13⟩
  have K__law_dear : Cal l.prog w K mg base CX0 6 "_law_dear" ["_law_prices", "_law_k"] sp__law_dear := ⟨f14, _, ok__law_dear F14 T m_isinstance K_dearest, PySem.W.mg_of X G a14, k14, b14⟩
  have K__law_base : Cal l.prog w K mg base CX0 5 "_law_base" ["_law_order", "_law_k"] sp__law_base := ⟨f15, _, ok__law_base F15 T m_ValueError m_isinstance K_first_things, PySem.W.mg_of X G a15, k15, b15⟩
  have K__law_refused : Cal l.prog w K mg base CX0 1 "_law_refused" ["_law_told"] sp__law_refused := ⟨f16, _, ok__law_refused F16 T m_isinstance m_str, PySem.W.mg_of X G a16, k16, b16⟩
  have K__law_dearest : Cal l.prog w K mg base CX0 1 "_law_dearest" ["_law_prices", "_law_k"] sp__law_dearest := ⟨f17, _, ok__law_dearest F17 T m_len m_range m_tuple, PySem.W.mg_of X G a17, k17, b17⟩
  have K__law_right : Cal l.prog w K mg base CX0 7 "_law_right" ["_law_order", "_law_things_here", "_law_prices", "_law_k"] sp__law_right := ⟨f18, _, ok__law_right F18 T m_len m_list m_tuple K__law_same_lot K__law_first K__law_dear K__law_base K__law_refused K__law_dearest, PySem.W.mg_of X G a18, k18, b18⟩
  exact ok_law F19 T m_int m_range m_tuple K__law_cell K__law_draws K__law_row K__law_shuffled K__law_things K__law_right
end K13
open PySem PySem.W PyProof.Rows
set_option pp.maxSteps 400 in
set_option maxHeartbeats 0 in
theorem PySem.Challenge.cw_dearestshelf_k13_first_things_holds : PySem.Challenge.rw_dearestshelf_k13_first_things.Holds := by
  w_on; o_law; k_head; (case hw => w_witness2)
  k_fill
  refine L2.walk_of (l := PySem.Challenge.rw_dearestshelf_k13_first_things) (n := 63) (k := 8) (x := "_law_script") (CX := fun _ => L2.CX0) (sp := fun w => K13.sp_law _) rfl (by decide) rfl ⟨rfl, by decide, by decide⟩ (fun w h Y => PySem.W.kIn_of Y) ?F (fun _ _ a ns hl _ hS => ⟨a, ns, rfl, hS, hl, fun _ => rfl⟩) (fun _ _ _ _ _ h => h)
  case F =>
    intro w mg fa h KX G hmg
    refine' K13.all_mk KX G hmg ?a_BadNumber ?kc_BadNumber ?hd_BadNumber ?ha_BadNumber ?hm_BadNumber ?b_BadNumber ?t_BadNumber ?ga_BadNumber ?gg_BadNumber ?ol_BadNumber ?or_BadNumber ?sa_BadNumber ?n_BadNumber_what ?n_BadNumber_at ?a_TooMany ?kc_TooMany ?hd_TooMany ?ha_TooMany ?hm_TooMany ?b_TooMany ?t_TooMany ?ga_TooMany ?gg_TooMany ?ol_TooMany ?or_TooMany ?sa_TooMany ?n_TooMany_many ?n_TooMany_most ?a_ShelfError ?kc_ShelfError ?hd_ShelfError ?ha_ShelfError ?hm_ShelfError ?b_ShelfError ?t_ShelfError ?ga_ShelfError ?gg_ShelfError ?hnc ?htk ?sub_BadNumber_BadNumber ?sub_BadNumber_ShelfError ?kit_BadNumber_TooMany ?kit_BadNumber_ValueError ?kit_BadNumber_BadNumber ?a1 ?i1 ?l1 ?c1 ?k1 ?a2 ?l2 ?c2 ?k2 ?a3 ?l3 ?c3 ?k3 ?a4 ?l4 ?c4 ?k4 ?a5 ?l5 ?c5 ?k5 ?a6 ?l6 ?c6 ?k6 ?a7 ?l7 ?c7 ?k7 ?a8 ?l8 ?c8 ?k8 ?a9 ?l9 ?c9 ?k9 ?a10 ?l10 ?c10 ?k10 ?a11 ?l11 ?c11 ?k11 ?a12 ?l12 ?c12 ?k12 ?a13 ?l13 ?c13 ?k13 ?a14 ?l14 ?c14 ?k14 ?a15 ?l15 ?c15 ?k15 ?a16 ?l16 ?c16 ?k16 ?a17 ?l17 ?c17 ?k17 ?a18 ?l18 ?c18 ?k18 ?a19 ?l19 ?c19 ?k19 ?z_ValueError ?z_bool ?z_int ?z_isinstance ?z_len ?z_list ?z_range ?z_sorted ?z_str ?z_tuple
    (case a_BadNumber => k_is); (case kc_BadNumber => k_is); (case hd_BadNumber => k_is); (case ha_BadNumber => k_is); (case hm_BadNumber => k_is); (case b_BadNumber => k_is); (case t_BadNumber => k_is); (case ga_BadNumber => k_is); (case gg_BadNumber => k_is); (case ol_BadNumber => k_is); (case or_BadNumber => rfl); (case sa_BadNumber => k_is); (case n_BadNumber_what => k_is); (case n_BadNumber_at => k_is); (case a_TooMany => k_is); (case kc_TooMany => k_is); (case hd_TooMany => k_is); (case ha_TooMany => k_is); (case hm_TooMany => k_is); (case b_TooMany => k_is); (case t_TooMany => k_is); (case ga_TooMany => k_is); (case gg_TooMany => k_is); (case ol_TooMany => k_is); (case or_TooMany => rfl); (case sa_TooMany => k_is); (case n_TooMany_many => k_is); (case n_TooMany_most => k_is); (case a_ShelfError => k_is); (case kc_ShelfError => k_is); (case hd_ShelfError => k_is); (case ha_ShelfError => k_is); (case hm_ShelfError => k_is); (case b_ShelfError => k_is); (case t_ShelfError => k_is); (case ga_ShelfError => k_is); (case gg_ShelfError => k_is); (case hnc => k_is); (case htk => k_is); (case sub_BadNumber_BadNumber => (first | rfl | k_is)); (case sub_BadNumber_ShelfError => (first | rfl | k_is)); (case kit_BadNumber_TooMany => kit_is); (case kit_BadNumber_ValueError => kit_is); (case kit_BadNumber_BadNumber => kit_is); (case a1 => k_is); (case i1 => k_is); (case l1 => k_is); (case c1 => k_is); (case k1 => k_is); (case a2 => k_is); (case l2 => k_is); (case c2 => k_is); (case k2 => k_is); (case a3 => k_is); (case l3 => k_is); (case c3 => k_is); (case k3 => k_is); (case a4 => k_is); (case l4 => k_is); (case c4 => k_is); (case k4 => k_is); (case a5 => k_is); (case l5 => k_is); (case c5 => k_is); (case k5 => k_is); (case a6 => k_is); (case l6 => k_is); (case c6 => k_is); (case k6 => k_is); (case a7 => k_is); (case l7 => k_is); (case c7 => k_is); (case k7 => k_is); (case a8 => k_is); (case l8 => k_is); (case c8 => k_is); (case k8 => k_is); (case a9 => k_is); (case l9 => k_is); (case c9 => k_is); (case k9 => k_is); (case a10 => k_is); (case l10 => k_is); (case c10 => k_is); (case k10 => k_is); (case a11 => k_is); (case l11 => k_is); (case c11 => k_is); (case k11 => k_is); (case a12 => k_is); (case l12 => k_is); (case c12 => k_is); (case k12 => k_is); (case a13 => k_is); (case l13 => k_is); (case c13 => k_is); (case k13 => k_is); (case a14 => k_is); (case l14 => k_is); (case c14 => k_is); (case k14 => k_is); (case a15 => k_is); (case l15 => k_is); (case c15 => k_is); (case k15 => k_is); (case a16 => k_is); (case l16 => k_is); (case c16 => k_is); (case k16 => k_is); (case a17 => k_is); (case l17 => k_is); (case c17 => k_is); (case k17 => k_is); (case a18 => k_is); (case l18 => k_is); (case c18 => k_is); (case k18 => k_is); (case a19 => k_is); (case l19 => k_is); (case c19 => k_is); (case k19 => k_is); (case z_ValueError => k_is); (case z_bool => k_is); (case z_int => k_is); (case z_isinstance => k_is); (case z_len => k_is); (case z_list => k_is); (case z_range => k_is); (case z_sorted => k_is); (case z_str => k_is); (case z_tuple => k_is)
