import PyProof.Rows.All
import Wide.All
import OpenK.AllK
import Wide.FinOn
import HandS.ForMost
import HandS.ForExc
import HandS.Wide
import HandS.IsInst
import HandS.More
import HandS.Conv
import HandS.Evl
import HandS.ExcIs
import HandS.Defaults
import HandS.ExcInit
import HandS.ExcField
import HandS.TryMany
import HandS.Nested
import HandS.ClsMeth
import HandS.Iter
import HandS.Walk
import HandS.Style
import HandS.ListEq
import KE.KExcIs
import KE.RegKIsAll
import HandS.OwnEq
import HandS.TupAny
import HandS.Star
import HandS.SetFor
import HandS.Set
import PySem.Challenge.RW_dearestshelf_k19_wish_takes_first
set_option Elab.async false
set_option linter.all false
set_option maxRecDepth 100000
set_option maxHeartbeats 8000000
set_option exponentiation.threshold 10000
namespace K19
open PySem PySem.Spec PyProof.Rows L2
def top (i : Nat) : Stmt := PySem.Challenge.pw_dearestshelf_k19_wish_takes_first.main.body.getD i (.Pass ⟨0, 0, 0, 0⟩)
abbrev s_BadWish___init__ : Stmt := inClass (top 3) 0
theorem sc_BadWish___init__ : FnScope ["self", "at"] ["self", "at"] (defScope s_BadWish___init__) := ⟨rfl, rfl, rfl, by decide +kernel, rfl, by decide +kernel, by decide +kernel⟩
abbrev s__can_be_wished : Stmt := top 6
theorem sc__can_be_wished : FnScope ["things", "thing"] ["things"] (defScope s__can_be_wished) := ⟨rfl, rfl, rfl, by decide +kernel, rfl, by decide +kernel, by decide +kernel⟩
abbrev s__first_wish : Stmt := top 7
theorem sc__first_wish : FnScope ["things", "lot", "thing"] ["things", "lot"] (defScope s__first_wish) := ⟨rfl, rfl, rfl, by decide +kernel, rfl, by decide +kernel, by decide +kernel⟩
abbrev s_Wish___init__ : Stmt := inClass (top 5) 0
theorem sc_Wish___init__ : FnScope ["self", "things"] ["self", "things"] (defScope s_Wish___init__) := ⟨rfl, rfl, rfl, by decide +kernel, rfl, by decide +kernel, by decide +kernel⟩
abbrev s_Wish___call__ : Stmt := inClass (top 5) 1
theorem sc_Wish___call__ : FnScope ["self", "lot"] ["self", "lot"] (defScope s_Wish___call__) := ⟨rfl, rfl, rfl, by decide +kernel, rfl, by decide +kernel, by decide +kernel⟩
abbrev s__law_cell : Stmt := top 9
theorem sc__law_cell : FnScope ["_law_script", "_law_place"] ["_law_script", "_law_place"] (defScope s__law_cell) := ⟨rfl, rfl, rfl, by decide +kernel, rfl, by decide +kernel, by decide +kernel⟩
abbrev s__law_draws : Stmt := top 10
theorem sc__law_draws : FnScope ["_law_cell_here", "_law_sizes", "_law_size", "_law_left", "_law_found", "_law_k", "_law_low", "_law_high"] ["_law_cell_here", "_law_sizes"] (defScope s__law_draws) := ⟨rfl, rfl, rfl, by decide +kernel, rfl, by decide +kernel, by decide +kernel⟩
abbrev s__law_lot : Stmt := top 11
theorem sc__law_lot : FnScope ["_law_bits", "_law_many", "_law_found", "_law_left", "_law_thing"] ["_law_bits", "_law_many"] (defScope s__law_lot) := ⟨rfl, rfl, rfl, by decide +kernel, rfl, by decide +kernel, by decide +kernel⟩
abbrev s__law_shuffled : Stmt := top 12
theorem sc__law_shuffled : FnScope ["_law_places", "_law_things", "_law_left", "_law_found", "_law_place"] ["_law_places", "_law_things"] (defScope s__law_shuffled) := ⟨rfl, rfl, rfl, by decide +kernel, rfl, by decide +kernel, by decide +kernel⟩
abbrev s__law_is_int : Stmt := top 13
theorem sc__law_is_int : FnScope ["_law_x"] ["_law_x"] (defScope s__law_is_int) := ⟨rfl, rfl, rfl, by decide +kernel, rfl, by decide +kernel, by decide +kernel⟩
abbrev s__law_same_lot : Stmt := top 14
theorem sc__law_same_lot : FnScope ["_law_x", "_law_due", "_law_k"] ["_law_x", "_law_due"] (defScope s__law_same_lot) := ⟨rfl, rfl, rfl, by decide +kernel, rfl, by decide +kernel, by decide +kernel⟩
abbrev s__law_made : Stmt := top 15
theorem sc__law_made : FnScope ["_law_things", "e"] ["_law_things"] (defScope s__law_made) := ⟨rfl, rfl, rfl, by decide +kernel, rfl, by decide +kernel, by decide +kernel⟩
abbrev s__law_base : Stmt := top 16
theorem sc__law_base : FnScope ["_law_things", "e"] ["_law_things"] (defScope s__law_base) := ⟨rfl, rfl, rfl, by decide +kernel, rfl, by decide +kernel, by decide +kernel⟩
abbrev s__law_is_good : Stmt := top 17
theorem sc__law_is_good : FnScope ["_law_things", "_law_k"] ["_law_things"] (defScope s__law_is_good) := ⟨rfl, rfl, rfl, by decide +kernel, rfl, by decide +kernel, by decide +kernel⟩
abbrev s__law_taken : Stmt := top 18
theorem sc__law_taken : FnScope ["_law_things", "_law_lot_here", "_law_thing"] ["_law_things", "_law_lot_here"] (defScope s__law_taken) := ⟨rfl, rfl, rfl, by decide +kernel, rfl, by decide +kernel, by decide +kernel⟩
abbrev s__law_right : Stmt := top 19
theorem sc__law_right : FnScope ["_law_wish", "_law_things", "_law_asked", "_law_lot_here", "_law_told", "_law_due"] ["_law_wish", "_law_things", "_law_asked"] (defScope s__law_right) := ⟨rfl, rfl, rfl, by decide +kernel, rfl, by decide +kernel, by decide +kernel⟩
abbrev s_law : Stmt := top 20
theorem sc_law : FnScope ["_law_script", "_law_first", "_law_second", "_law_digits", "_law_numbers", "_law_scale", "_law_things", "_law_thing", "_law_lot_here", "_law_others", "_law_made_here", "_law_kept", "_law_turned", "_law_backward", "_law_digit", "_law_number", "_law_k"] ["_law_script"] (defScope s_law) := ⟨rfl, rfl, rfl, by decide +kernel, rfl, by decide +kernel, by decide +kernel⟩

/-! ### mathematics of draws -/
def Within : List Int → List Int → Prop
  | [], [] => True
  | d :: ds, n :: ns => (0 ≤ d ∧ d < n) ∧ Within ds ns
  | _, _ => False
theorem Within.len : ∀ {ds ns : List Int}, Within ds ns → ds.length = ns.length
  | [], [], _ => rfl
  | _ :: ds, _ :: ns, h => by
    rw [List.length_cons, List.length_cons, Within.len h.2]
  | [], _ :: _, h => h.elim
  | _ :: _, [], h => h.elim
theorem Within.snoc : ∀ {ds ns : List Int} {d n : Int}, Within ds ns → 0 ≤ d → d < n → Within (ds ++ [d]) (ns ++ [n])
  | [], [], d, n, _, h0, h1 => ⟨⟨h0, h1⟩, True.intro⟩
  | _ :: ds, _ :: ns, d, n, h, h0, h1 => ⟨h.1, Within.snoc h.2 h0 h1⟩
  | [], _ :: _, _, _, h, _, _ => h.elim
  | _ :: _, [], _, _, h, _, _ => h.elim
theorem Within.step {ds ns : List Int} {d n : Int} {i : Nat} (h : Within ds (ns.take i)) (hi : ns[i]? = some n) (h0 : 0 ≤ d) (h1 : d < n) : Within (ds ++ [d]) (ns.take (i + 1)) := by
  rw [List.take_add_one, hi]
  exact h.snoc h0 h1
theorem Within.zero (ns : List Int) : Within [] (ns.take 0) := by
  rw [List.take_zero]
  exact True.intro
theorem Within.full {ds ns : List Int} (h : Within ds (ns.take ns.length)) : Within ds ns := by
  rw [List.take_length] at h
  exact h
theorem int_of {ns : List Int} {i : Nat} {x : V} (h : (ns.map V.int)[i]? = some x) : ∃ n, x = .int n ∧ ns[i]? = some n := by
  rw [List.getElem?_map] at h
  cases e : ns[i]? with
  | none =>
    rw [e] at h
    cases h
  | some z =>
    rw [e] at h
    exact ⟨z, (Option.some.inj h).symm, rfl⟩
theorem int_at {ns : List Int} {i : Nat} {n : Int} (h : ns[i]? = some n) : (ns.map V.int)[i]? = some (.int n) := by
  rw [List.getElem?_map, h]
  rfl
theorem snoc_int (ds : List Int) (d : Int) : ds.map V.int ++ [V.int d] = (ds ++ [d]).map V.int := by
  rw [List.map_append]
  rfl
theorem same_upd {H : Hp} {p : Addr} {o : HO} (h : H p = none) : Same H (upd H p o) := fun b x e => by
  rw [upd_ne (ne_of_none e h)]
  exact e
theorem same_mut {H H1 : Hp} {p : Addr} {o : HO} (s : Same H H1) (h : H p = none) : Same H (upd H1 p o) := fun b x e => by
  rw [upd_ne (ne_of_none e h)]
  exact s b x e
theorem same_tup {K : PySem.W.Frag} {H H' : Hp} {a : Addr} {xs : List V} (e : Same H H') (h : SqT K H a xs) : SqT K H' a xs := by
  rcases h with (h | ⟨o, h⟩) | h
  · exact .inl (.inl (e _ _ h))
  · exact .inl (.inr ⟨o, e _ _ h⟩)
  · exact .inr h
theorem w_div {j : Int} (h : 0 < j) (hb : j < 2 ^ 100) : CDivW 0 j := wide_div (b := 100) h (by omega) (by decide) (by decide)
theorem lst_l {K : PySem.W.Frag} {H : Hp} {a : Addr} {xs : List V} (h : H a = some (.lst xs)) : SqL K H a xs := .inl (.inl h)
theorem tup_t {K : PySem.W.Frag} {H : Hp} {a : Addr} {xs : List V} (h : H a = some (.tup xs)) : SqT K H a xs := .inl (.inl h)
theorem lc_yes {σ : L2.St} {H : Hp} {F : Bool → Hp → Prop} (h : F true H) : tYes σ H F := h
theorem Within.c {ds ns : List Int} {n : Int} (h : Within ds (n :: ns)) : ∃ d r, ds = d :: r ∧ 0 ≤ d ∧ d < n ∧ Within r ns := by
  cases ds with
  | nil => exact h.elim
  | cons d r => exact ⟨d, r, rfl, h.1.1, h.1.2, h.2⟩
theorem Within.n {ds : List Int} (h : Within ds []) : ds = [] := by
  cases ds with
  | nil => rfl
  | cons d r => exact h.elim
theorem kI : kitB "int" "int" = some true := by decide +kernel
theorem kB : kitB "int" "bool" = some false := by decide +kernel
theorem kT : kitB "tuple" "tuple" = some true := by decide +kernel

theorem cut_from (xs : List V) (k : Nat) : cutV xs (some (k : Int)) none = xs.drop k := by
  unfold cutV
  rw [HT.sIx_nat, HT.sIx_none]
  by_cases h : k ≤ xs.length
  · rw [Nat.min_eq_left h]
    exact List.take_of_length_le (by rw [List.length_drop]; exact Nat.le_refl _)
  · rw [Nat.min_eq_right (by omega), List.drop_of_length_le (Nat.le_refl _), List.drop_of_length_le (by omega), List.take_nil]
theorem cut_from1 (xs : List V) : cutV xs (some 1) none = xs.drop 1 := by
  unfold cutV
  rw [show HT.sIx xs.length 0 (some 1) = min 1 xs.length from HT.sIx_nat xs.length 0 1, HT.sIx_none]
  cases xs with
  | nil => rfl
  | cons x r =>
    rw [show min 1 (x :: r).length = 1 by
      rw [List.length_cons]
      omega]
    show (List.take ((x :: r).length - 1) r) = r
    rw [List.length_cons, Nat.add_sub_cancel]
    exact List.take_length
theorem big18 : (0 : Int) < 10 ^ 18 ∧ (10 : Int) ^ 18 < 2 ^ 100 := by decide
theorem cut_to (xs : List V) (k : Nat) : cutV xs none (some (k : Int)) = xs.take k := by
  unfold cutV
  rw [HT.sIx_none, HT.sIx_nat, List.drop_zero, Nat.sub_zero]
  by_cases h : k ≤ xs.length
  · rw [Nat.min_eq_left h]
  · rw [Nat.min_eq_right (by omega), List.take_of_length_le (Nat.le_refl _), List.take_of_length_le (by omega)]

theorem iteD {c A B : Prop} [Decidable c] (hc : c) (h : A) : if decide c = true then A else B := by
  rw [if_pos (decide_eq_true hc)]
  exact h
theorem iteDF {c A B : Prop} [Decidable c] (hc : ¬ c) (h : B) : if decide c = true then A else B := by
  rw [decide_eq_false hc]
  exact iteF h
open NdefX (NScope ncx startF CellsAt inv_startN)
open ClX (pin_new pin_at base_none unpinE)

/-! ### own classes and errors: rules that the layer lacks -/
section
variable {X : Cx}
/-- a field's read, its K by another name -/
theorem pe_fldK {K : PySem.W.Frag} {e : Expr} {f : Str} {pos : Pos} {ta : TE} (he : PE X e ta) (hb : attributeBase e f X.env (eval e X.env) = eval e X.env) (hK : X.K = K := by rfl) : PE X (.Attribute e f pos) (tFld K ta f) := by
  subst hK
  exact pe_fld he hb
/-- floor division by a divisor of either sign -/
def CDivWN (_ j : Int) : Prop := j ≠ 0 ∧ j.natAbs.log2 < 9000
theorem op_fdivWN : OpR X (binaryOp .FloorDiv) (rI CDivWN fun i j => .int (i.fdiv j)) := opI fun _ _ _ _ _ _ _ c k => floordiv_int c.1 k (.inl (PyProof.noPylong_of_log2 c.2))
/-- a new instance whose __init__ may let an error out, wished for at the slots that stand -/
theorem made_at {CX : CXT} {n : Nat} {g D : Addr} {gd : FuncData} {qs : List Str} {pr : Sp} {Ex : L2.St → XK} {us0 : List Value} {vs0 : List V} {pn : List (Addr × Obj)} {τ : L2.St} {H0 : Hp} {st : Shared} {W : VK} {as : List Value} {xs : List V}
    (MK : Mk X.K D g) (OK : FnOk X.prog X.w X.K X.mg X.base CX n g gd qs pr) (room : Room (n + 1) X.A) (bd : Binds X.K gd qs us0) (dv : Vals vs0 us0) (out : PassesAt CX X τ (Ex τ)) (J : Inv X pn τ H0 st) (rel : Vals xs as)
    (go : ∀ p q, H0 p = none → H0 q = none → q ≠ p → pr (.ref p :: (xs ++ vs0)) (upd (upd H0 q (.own p)) p (.ins D q [])) (fun v H2 => v = .non ∧ W (.ref p) H2) (Ex τ)) :
    wpAny (model X.prog X.w) X.A (call (.ref D) as) (EP X pn τ W) X.xe st := by
  have new1 := J.hok.fresh (Nat.le_succ st.heap.objs.size)
  have new2 := J.hok.fresh (Nat.le_refl st.heap.objs.size)
  have asked := go _ _ new1 new2 (Nat.ne_of_lt (Nat.lt_succ_self _))
  have J2 := Inv.made (C := D) J
  have rel2 : Vals (V.ref (st.heap.objs.size + 1) :: (xs ++ vs0)) (Value.ref (st.heap.objs.size + 1) :: (as ++ us0)) :=
    .cons rfl (rel.append dv)
  have len2 : (Value.ref (st.heap.objs.size + 1) :: as ++ us0).length = qs.length := (rel2.length.symm).trans (OK.len _ _ _ _ asked)
  have env2 := J2.env0.make D as []
  have bound := bd _ (Value.ref (st.heap.objs.size + 1) :: as) J2.kIn len2
  have ran := OK.run _ X.stack _ _ _ _ _ _ (Ex τ) (room.make D as []) env2 bound rel2 asked
  refine wpAny_call (make_map (f := g) J.kIn MK.makes MK.init (beq_iff_eq.mp MK.fn) (codeAny_mono ran ?_))
  rintro (e | fl) s' back
  · exact out pn _ _ e s' J2 back
  · cases fl with
    | ret u =>
      obtain ⟨v, H', J3, rv, rfl, w3⟩ := J2.after back
      exact ⟨rv, V.ref (st.heap.objs.size + 1), _, J3, rfl, w3⟩
    | next => exact back.elim
    | brk => exact back.elim
    | cont => exact back.elim
def tMakeS (D : Addr) (pr : Sp) (vs0 : List V) (Ex : L2.St → XK) (t : TA) : TE := fun τ H Q => t τ H fun xs H1 => ∀ p q, H1 p = none → H1 q = none → q ≠ p →
  pr (.ref p :: (xs ++ vs0)) (upd (upd H1 q (.own p)) p (.ins D q [])) (fun v H2 => v = .non ∧ Q (.ref p) H2) (Ex τ)
theorem pe_makeS {CX : CXT} {n : Nat} {g D : Addr} {gd : FuncData} {qs : List Str} {pr : Sp} {Ex : L2.St → XK} {us0 : List Value} {vs0 : List V} {x : Str} {p pos : Pos} {e : Expr} {es : List Expr} {t : TA}
    (MK : Mk X.K D g) (OK : FnOk X.prog X.w X.K X.mg X.base CX n g gd qs pr) (room : Room (n + 1) X.A) (gl : Gl X x) (at_ : X.mg x = some (.ref D)) (bd : Binds X.K gd qs us0) (dv : Vals vs0 us0) (out : ∀ τ, PassesAt CX X τ (Ex τ)) (args : PA X (e :: es) t)
    (plain : (x == ("__debug__" : Str)) = false := by decide) (first : starEach (e :: es) X.env = (false, eval e X.env) :: starEach es X.env := by rfl) (noStar : (backTo pos (starEach es X.env)).any (·.1) = false := by rfl) :
    PE X (.Call (.Name x p) (e :: es) [] pos) (tMakeS D pr vs0 Ex t) :=
  ⟨fun pn s τ H Q J h => wpAny_Call_Name_kw (ld_glob J gl at_ (PySem.W.callWith_K (h₀ := X.base) J.ok.mod.kin MK.kp (thn (args.run pos pn s τ H _ J h) fun _ _ ⟨_, _, J1, rel, go⟩ => ⟨J1.kIn, made_at MK OK room bd dv (out τ) J1 rel go⟩) first noStar) plain)⟩
/-- isinstance(e, c) in a suite, e the error that it holds (of an own class at D, without a dict of its own) -/
def rIsX (K : PySem.W.Frag) (a : Addr) (cls : Value) (d : Option Addr) : List V → Hp → VK → Prop := fun xs H Q => ∃ D : Addr, ExcC K D ∧ cls = .ref D ∧ d = none ∧ rIsE K D a xs H Q
theorem call_isX {K : PySem.W.Frag} {a : Addr} {cls : Value} {d : Option Addr} {oe : Obj} {pn : List (Addr × Obj)} (hz : Zc cls d oe) (hf : ∃ vs, oe.data = .fields vs) (hK : X.K = K := by rfl) :
    CallR (X.suite a ((a, oe) :: pn)) (.builtin "isinstance") (rIsX K a cls d) := by
  intro pins s σ H xs us Q I r h
  subst hK
  obtain ⟨D, ec, rfl, rfl, h⟩ := h
  exact call_isE ec hz hf pins s σ H xs us Q I r h
end
theorem lk_one {k : Str} {v : V} {r : List (Str × V)} : List.lookup k ((k, v) :: r) = some v := by
  simp [List.lookup]
theorem lk_two {k g : Str} {v : V} {r : List (Str × V)} (h : (k == g) = false) : List.lookup k ((g, v) :: r) = List.lookup k r := by
  simp only [List.lookup, h]

/-! ### isinstance of a caught error, with or without fields -/
section
variable {X : Cx}
def rIsY (K : PySem.W.Frag) (a : Addr) (cls : Value) (d : Option Addr) : List V → Hp → VK → Prop := fun xs H Q => ∃ D : Addr, ExcC K D ∧ cls = .ref D ∧ (d = none ∨ ∃ dd fs, d = some dd ∧ H dd = some (.xd fs)) ∧ rIsE K D a xs H Q
theorem call_isY {K : PySem.W.Frag} {a : Addr} {cls : Value} {d : Option Addr} {oe : Obj} {pn : List (Addr × Obj)} (hz : Zc cls d oe) (hf : ∃ vs, oe.data = .fields vs) (hK : X.K = K := by rfl) :
    CallR (X.suite a ((a, oe) :: pn)) (.builtin "isinstance") (rIsY K a cls d) := by
  intro pins s σ H xs us Q I r h
  subst hK
  obtain ⟨D, ec, rfl, hd, h⟩ := h
  rcases hd with rfl | ⟨dd, fs, rfl, hdd⟩
  · exact call_isE ec hz hf pins s σ H xs us Q I r h
  · obtain ⟨c, cv, b, rfl, same, known, q⟩ := h
    obtain ⟨w1, ws, rfl, r1, rs⟩ : ∃ w1 ws, us = w1 :: ws ∧ RelV (.ref a) w1 ∧ Vals [c] ws := by
      cases r with
      | cons p t => exact ⟨_, _, rfl, p, t⟩
    obtain ⟨w2, rfl, r2⟩ : ∃ w2, ws = [w2] ∧ RelV c w2 := by
      cases rs with
      | cons p t =>
        cases t
        exact ⟨_, rfl, p⟩
    cases (show w1 = Value.ref a from r1)
    cases same _ r2
    obtain ⟨there, _⟩ := I.pin (a, oe) (List.mem_append.mpr (.inl List.mem_cons_self))
    obtain ⟨vs, hv⟩ := hf
    obtain ⟨mA, ns, _⟩ := (show ObjOk X.prog X.w H s.heap dd (.xd fs) from I.hok dd _ hdd)
    obtain ⟨od, ho, _⟩ := lookIn_ns ns
    have J : PySem.W.InstAt s.heap a oe D (some od) := ⟨there, hz.1, by unfold PySem.W.notCls; rw [hv] <;> rfl, by rw [hz.2]; exact ho⟩
    have cl : (PySem.W.clsIn X.K D).isSome = true := by
      obtain ⟨cd, hc, _⟩ := PySem.W.any_some ec.hd
      rw [hc]
      rfl
    exact PySem.W.kia_one (PySem.W.kitx_exc cl ec.hg ec.hk ec.hs ec.ha ec.hn ec.ht ec.hm) I.kIn J known (fun z => nomatch z) fun tk => ⟨.bl b, H, I.kept (t' := tk) fun _ _ z => z, rfl, q⟩
end

/-! ### try with several «except C as n» -/
/-- what the clauses wish of an error, one after the other: class, the name's slot, the suite's reading -/
def wAsM (K : PySem.W.Frag) (out : WX) (D : Ends) : List (Value × Nat × (Addr → Value → Option Addr → TS)) → WX
  | [] => out
  | (c, i, t) :: more => fun cls d σ H => ∃ b, PySem.W.exmOne K cls c = some b ∧
      (b = true → ∀ a, H a = none → t a cls d { nx := fun σ' H' => D.nx (σ'.set i none) H', rt := D.rt, bk := fun σ' H' => D.bk (σ'.set i none) H', ct := fun σ' H' => D.ct (σ'.set i none) H' } (σ.set i (some (.ref a))) H) ∧
      (b = false → wAsM K out D more cls d σ H)
inductive ClausesOk (X : Cx) : List ExceptHandler → List (Value × Nat × (Addr → Value → Option Addr → TS)) → Prop
  | nil : ClausesOk X [] []
  | cons {x n : Str} {c : Value} {i : Nat} {t : Addr → Value → Option Addr → TS} {st : Stmt} {sts : List Stmt} {q q' : Pos} {hs : List ExceptHandler} {ls : List (Value × Nat × (Addr → Value → Option Addr → TS))} (known : Names X x c) (slot : X.N[i]? = some n)
      (lo : X.env.kindOf n = some .local) (suite : ∀ (a : Addr) (oe : Obj) (cls : Value) (d : Option Addr) (pn : List (Addr × Obj)), Zc cls d oe → (∃ vs, oe.data = .fields vs) → PSs (X.suite a ((a, oe) :: pn)) (st :: sts) (t a cls d))
      (more : ClausesOk X hs ls) : ClausesOk X (.ExceptHandler (some (.Name x q)) (some n) (st :: sts) q' :: hs) ((c, i, t) :: ls)
section
variable {X : Cx} {body : List Stmt} {h1 : ExceptHandler} {hs : List ExceptHandler} {ls : List (Value × Nat × (Addr → Value → Option Addr → TS))} {pos : Pos} {tb : WX → TS} {out : WX}
theorem ps_try_asM (st : X.stack = X.env :: X.outer) (fr : X.env.frame = some X.env.locals) (nd : X.N.Nodup) (tk : Takes X out)
    (runs : ∀ (W : WX) (pn : List (Addr × Obj)) (xe : Value → Shared → Prop), Takes (X.tr pn xe) W → PassesOwn (model X.prog X.w) X.A X.env xe → PSs (X.tr pn xe) body (tb W))
    (cl : ClausesOk X (h1 :: hs) ls) : PS X (.Try body (h1 :: hs) [] [] pos) (fun D σ H => tb (wAsM X.K out D ls) D σ H) := by
  refine ⟨fun pins s σ H D I want => ?_⟩
  have ok := I.ok
  have frames : X.A.frames = some (X.env :: X.outer) := by rw [ok.frames, st]
  refine wpAny_Try_except ?_
  refine wpAny_mono ((runs (wAsM X.K out D ls) (X.pn ++ pins) (fun u t1 => wpAny (model X.prog X.w) X.A (noteFrame u X.env) (fun _ t2 => wpAny (model X.prog X.w) X.A (setFlight u none)
    (fun _ t3 => wpAny (model X.prog X.w) X.A (handleBy u X.env (h1 :: hs)) (SP X pins D) X.xe t3) X.xe t2) X.xe t1) (fun u t0 flown => ?_) PassesOwn.looking).run [] s σ H D (I.toTry _) want) (fun f t0 done => ?_) (fun _ _ y => y)
  · obtain ⟨a, B, sI, pins1, σ1, H1, cls, d, rfl, J0, bare, kept, sky, fresh, osE, agree, wish⟩ := flown
    have J : Inv X pins σ1 H1 sI := J0.ofTry ok
    have sky1 : Sky B (X.env :: X.outer) a (Zc cls d) X.env.locals t0.heap := st ▸ sky
    show wpAny (model X.prog X.w) X.A (noteFrame (.ref a) X.env) _ X.xe t0
    refine Sky.land Zc.steady frames fr sky1 fun g fl up => ?_
    obtain ⟨oe, vs, atE, zE, dataE⟩ := fl.there
    have outF : a ∉ frs (X.env :: X.outer) := fun mem => by
      obtain ⟨_, o, here, no⟩ := fl.2.2.1.mem mem
      cases atE.symm.trans here
      exact no _ dataE
    have nL : a ≠ X.env.locals := fun z => outF (List.mem_filterMap.mpr ⟨X.env, List.mem_cons_self, by rw [fr, z]⟩)
    have nF : a ∉ X.fs := fun mem => outF (by
      obtain ⟨e, m1, m2⟩ := List.mem_filterMap.mp mem
      exact List.mem_filterMap.mpr ⟨e, List.mem_cons_of_mem _ m1, m2⟩)
    have J1 : Inv X pins σ1 H1 { t0 with heap := g } := J.landed bare fl.1 (kept.trans up) osE agree
    have S1 := J1.suite atE dataE fresh nL nF
    have go : ∀ {hh : List ExceptHandler} {ll : List (Value × Nat × (Addr → Value → Option Addr → TS))}, ClausesOk X hh ll → wAsM X.K out D ll cls d σ1 H1 → wpAny (model X.prog X.w) X.A (handleBy (.ref a) X.env hh) (SP X pins D) X.xe { t0 with heap := g } := by
      intro hh ll cc
      induction cc with
      | nil =>
        intro fly
        refine wpAny_handleBy_nil ?_
        obtain ⟨_, _, _, o, ws, T, oT, ts, g1, g2, g3, g4, _⟩ := id fl
        unfold PySem.passOn
        refine wpAny_bind (wpAny_field g1 g3 g4 ?_)
        rw [if_neg (by simp : ¬ ((Value.ref T == Value.none) = true))]
        have on : wpAny (model X.prog X.w) X.A (setFlight (.ref a) X.env.frame) (fun _ t4 => wpAny (model X.prog X.w) X.A (throw (.ref a) : Sem Flow) (SP X pins D) X.xe t4) X.xe { t0 with heap := g } := by
          rw [fr]
          exact HandSPX.setFlight_upZ fl fun g' sky' up' => wpAny_throw (tk _ _ ⟨a, B, sI, pins, σ1, H1, cls, d, rfl, J, bare, (kept.trans up).trans up', .inr (.inr (by rw [st]; exact sky')), fresh, osE, agree, fly⟩)
        first
          | exact wpAny_bind (wpAny_pure (wpAny_bind on))
          | exact wpAny_bind on
      | @cons x n c i t b₀ bs q q' hs' ls' known slot lo suite more ih =>
        intro w1
        obtain ⟨b, asked, yes, no⟩ := w1
        refine wpAny_handleBy_cons (codeAny_handlers_test ?_) (fun z => by cases z)
        have typ : PySem.W.Looks (model X.prog X.w) g (typeOf (.ref a)) cls := fun _ _ _ _ k z => wpAny_typeOf_ref (k _ _ atE) (by rw [zE.1]; exact z)
        have name : ∀ {Q : Value → Shared → Prop} {E : Value → Shared → Prop}, Q c { t0 with heap := g } → wpAny (model X.prog X.w) (X.A.mark (some (.ref a))) (eval (.Name x q) X.env) Q E { t0 with heap := g } := fun {Q E} z => by
          obtain ⟨k1, k2, k3 | ⟨k3, k4, k5⟩⟩ := known
          · exact ld_glob (X := X.suite a ((a, oe) :: (X.pn ++ pins))) S1 k1 k3 z k2
          · exact ld_blt (X := X.suite a ((a, oe) :: (X.pn ++ pins))) S1 k1 k3 k4 z k5 k2
        refine name ((PySem.W.exm_one (M := model X.prog X.w) J1.kIn typ asked).here ?_)
        cases b with
        | false => exact ih (no rfl)
        | true =>
          refine codeAny_handlers_suite_as (HandSPX.lands_againZ fl fun g' fl' up' => ?_)
          obtain ⟨oe', ws, atE', zE', dataE'⟩ := fl'.there
          have J2 : Inv X pins σ1 H1 { t0 with heap := g' } := J.landed bare fl'.1 ((kept.trans up).trans up') osE agree
          have S2 := J2.suite atE' dataE' fresh nL nF
          refine store_ok (X := X.suite a ((a, oe') :: (X.pn ++ pins))) (v := .ref a) S2 nd slot (.inl lo) rfl (fun t5 S5 => ?_) (.inr lo)
          refine wpAny_mono ((suite a oe' cls d (X.pn ++ pins) zE' ⟨_, dataE'⟩).run [] t5 _ H1 _ S5 (yes rfl a fresh)) (fun f t6 done => ?_) (fun _ _ z => z.elim)
          have gone : ∀ {σ6 : L2.St} {H6 : Hp} {Q : Shared → Prop}, Inv (X.suite a ((a, oe') :: (X.pn ++ pins))) [] σ6 H6 t6 → (∀ t7, Inv X pins (σ6.set i none) H6 t7 → Q t7) →
              wpAny (model X.prog X.w) X.A (do bindName X.env n .none; unbindBehindTheSuite X.env n q') (fun _ t7 => Q t7) X.xe t6 := fun S6 z => gone_ok (S6.unsuite ok) nd slot lo z
          cases f with
          | ret u =>
            obtain ⟨v6, σ6, H6, S6, r6, q6⟩ := done
            exact gone S6 fun _ J7 => ⟨_, _, _, J7, r6, q6⟩
          | next =>
            obtain ⟨_, _, S6, q6⟩ := done
            exact gone S6 fun _ J7 => ⟨_, _, J7, q6⟩
          | brk =>
            obtain ⟨_, _, S6, q6⟩ := done
            exact gone S6 fun _ J7 => ⟨_, _, J7, q6⟩
          | cont =>
            obtain ⟨_, _, S6, q6⟩ := done
            exact gone S6 fun _ J7 => ⟨_, _, J7, q6⟩
    exact go cl wish
  · cases f with
    | ret u =>
      obtain ⟨v, _, _, J1, r1, q1⟩ := done
      exact ⟨v, _, _, J1.ofTry ok, r1, q1⟩
    | next =>
      obtain ⟨_, _, J1, q1⟩ := done
      exact wpAny_execs_nil ⟨_, _, J1.ofTry ok, q1⟩
    | brk =>
      obtain ⟨_, _, J1, q1⟩ := done
      exact ⟨_, _, J1.ofTry ok, q1⟩
    | cont =>
      obtain ⟨_, _, J1, q1⟩ := done
      exact ⟨_, _, J1.ofTry ok, q1⟩
end

/-! ### len(set(t)), t a tuple of ints that may hold one twice -/
theorem len_le_mem : ∀ (ns ks : List Int), ks.Nodup → (∀ k ∈ ks, k ∈ ns) → ks.length ≤ ns.length
  | [], ks, _, h => by
    cases ks with
    | nil => exact Nat.le_refl _
    | cons k r => exact absurd (h k List.mem_cons_self) (by simp)
  | n :: r, ks, nd, h => by
    by_cases hn : n ∈ ks
    · have h1 := len_le_mem r (ks.erase n) (nd.erase n) fun k hk => by
        have hk2 := (List.Nodup.mem_erase_iff nd).mp hk
        rcases List.mem_cons.mp (h k hk2.2) with e | e
        · exact absurd e hk2.1
        · exact e
      have h2 := List.length_erase_of_mem hn
      rw [List.length_cons]
      omega
    · have h1 := len_le_mem r ks nd fun k hk => by
        rcases List.mem_cons.mp (h k hk) with e | e
        · exact absurd (e ▸ hk) hn
        · exact e
      rw [List.length_cons]
      omega
theorem twice_of : ∀ {ns : List Int}, ¬ ns.Nodup → ∃ ms : List Int, ms.length + 1 = ns.length ∧ ∀ k ∈ ns, k ∈ ms
  | [], h => absurd List.Pairwise.nil h
  | n :: r, h => by
    by_cases hn : n ∈ r
    · exact ⟨r, rfl, fun k hk => by
        rcases List.mem_cons.mp hk with e | e
        · exact e ▸ hn
        · exact e⟩
    · obtain ⟨ms, l, hm⟩ := twice_of (ns := r) fun nd => h (List.nodup_cons.mpr ⟨hn, nd⟩)
      refine ⟨n :: ms, by rw [List.length_cons, List.length_cons, l], fun k hk => ?_⟩
      rcases List.mem_cons.mp hk with e | e
      · exact e ▸ List.mem_cons_self
      · exact List.mem_cons_of_mem _ (hm k e)
theorem count_nodup {ns ks : List Int} (nd : ks.Nodup) (hm : ∀ k, k ∈ ns ↔ k ∈ ks) : ks.length ≤ ns.length ∧ (ks.length = ns.length ↔ ns.Nodup) := by
  have h1 := len_le_mem ns ks nd fun k hk => (hm k).mpr hk
  refine ⟨h1, fun e => ?_, fun nn => Nat.le_antisymm h1 (len_le_mem ks ns nn fun k hk => (hm k).mp hk)⟩
  by_cases c : ns.Nodup
  · exact c
  · obtain ⟨ms, l, hms⟩ := twice_of c
    have := len_le_mem ms ks nd fun k hk => hms k ((hm k).mpr hk)
    omega
section
variable {X : Cx}
def tLenSetT (K : PySem.W.Frag) (ta : TE) : TE := fun σ H Q => ta σ H fun x H1 => ∃ (t : Addr) (ns : List Int), x = V.ref t ∧ SqT K H1 t (ns.map V.int) ∧ ns.length < 64 ∧ ∀ c : Nat, (c = ns.length ↔ ns.Nodup) → Q (.int c) H1
theorem pe_lenSetT {a : Expr} {ta : TE} {p p2 q pos : Pos} (hc : X.calm = true) (hg : Gl X "len") (hm : X.mg "len" = none) (hg2 : Gl X "set") (hm2 : X.mg "set" = none) (ha : PE X a ta)
    (na : starEach [a] X.env = (false, eval a X.env) :: starEach [] X.env := by rfl) : PE X (.Call (.Name "len" p) [.Call (.Name "set" p2) [a] [] q] [] pos) (tLenSetT X.K ta) := by
  refine ⟨fun pins s σ H Q I h => ?_⟩
  refine Call_ (ld_blt I hg hm PySem.boot_len ?_)
  refine PyProof.Rows.callWith_builtin1 (PyProof.Rows.args_cons ?_ rfl) rfl rfl
  refine Call_ (ld_blt I hg2 hm2 PyProof.Rows.boot_set ?_)
  refine PyProof.Rows.callWith_type1 (PyProof.Rows.args_cons (thn (ha.run pins s σ H _ I h) fun v s1 ⟨x, H1, I1, r1, q1⟩ => PyProof.Rows.args_nil ?_) na) na rfl
  obtain ⟨t, ns, rfl, hq, h1, q1⟩ := q1
  cases r1
  obtain ⟨its, r, pl, hz⟩ := I1.tuple hq
  have hi : PyProof.Rows.IntsAre its.toArray.toList ns := by simpa using r.ints
  refine call_set_tupI ns (I1.ok.hd hc) (show s1.heap.IsTuple t its.toArray from pl) hi (by unfold scanBound; omega) fun h' tk c R1 hcn k => ?_
  refine PyProof.Rows.args_nil ?_
  obtain ⟨o, es, ep, tt, ho, hex, hdt, g, nd, hm2, hb, hf, hn, hr, hl2⟩ := R1
  have I2 : Inv X pins σ H1 { s1 with heap := h', toks := tk } := I1.kept fun b o e => k b o e
  have cn := count_nodup (ns := ns) nd fun k => (decide_eq_true_iff (p := k ∈ ns)).symm.trans (hm2 k)
  rw [List.length_map, Array.length_toList] at cn
  have sz : es.size ≤ ns.length := cn.1
  refine call_len_set ho hex hdt hf (by omega) ⟨.int es.size, H1, I2.tok _, ⟨_, rfl⟩, q1 es.size cn.2⟩
end

/-! ### t[::-1] of a tuple -/
section
variable {prog : Program} {w : World} {A : Around} {E : Value → Shared → Prop} {s : Shared}
theorem places_rev (n : Nat) : Builtin.Slice.slicePlaces ((n : Int) - 1) (-1) (-1) = n := by
  unfold Builtin.Slice.slicePlaces
  have h1 : ¬ ((-1 : Int) > 0) := by omega
  have h2 : (- -1 : Int) = 1 := by decide
  simp only [h1, if_false, h2, Int.ediv_one]
  split <;> omega
theorem sliceApplied_rev {sl : Addr} {vl vu vs : Value} {n : Nat} {Q : Int × Int × Nat → Shared → Prop} (hs : s.heap.IsSliceOf sl vl vu vs) (pl : IsPart vl none) (pu : IsPart vu none) (ps : IsPart vs (some (-1)))
    (h : Q ((n : Int) - 1, -1, n) s) : wpAny (model prog w) A (Builtin.Slice.sliceApplied (.ref sl) (pure (n : Int))) Q E s := by
  obtain ⟨os, hos, hcs, hds⟩ := id hs
  unfold Builtin.Slice.sliceApplied Builtin.Slice.sliceFields
  refine wpAny_bind (wpAny_bind (wpAny_field hos hds (x := vl) rfl (wpAny_bind (wpAny_field hos hds (x := vu) rfl (wpAny_bind (wpAny_field hos hds (x := vs) rfl (wpAny_pure ?_)))))))
  refine wpAny_bind (HT.slicePart_ ps ?_)
  show wpAny _ _ (if ((-1 : Int) == 0) = true then _ else _) _ _ s
  rw [if_neg (by decide)]
  refine wpAny_bind (HT.slicePart_ pl (wpAny_bind (HT.slicePart_ pu (wpAny_bind (wpAny_pure ?_)))))
  show wpAny _ _ (pure ((n : Int) - 1, (-1 : Int), Builtin.Slice.slicePlaces ((n : Int) - 1) (-1) (-1))) _ _ s
  rw [places_rev]
  exact wpAny_pure h
theorem fm_congr {α β : Type} {f g : α → Option β} : ∀ {l : List α}, (∀ x ∈ l, f x = g x) → l.filterMap f = l.filterMap g
  | [], _ => rfl
  | x :: r, h => by
    rw [List.filterMap_cons, List.filterMap_cons, h x List.mem_cons_self, fm_congr fun y hy => h y (List.mem_cons_of_mem _ hy)]
theorem pick_rev (xs : Array Value) : ((List.range xs.size).filterMap fun (m : Nat) => xs[((xs.size : Int) - 1 + (m : Int) * -1).toNat]?).toArray = xs.toList.reverse.toArray := by
  have e : (List.range xs.size).filterMap (fun (m : Nat) => xs[((xs.size : Int) - 1 + (m : Int) * -1).toNat]?) = ((List.range xs.size).map fun k => xs.size - 1 - k).filterMap (xs[·]?) := by
    rw [List.filterMap_map]
    refine fm_congr ?_
    intro m hm
    have := List.mem_range.mp hm
    show xs[((xs.size : Int) - 1 + (m : Int) * -1).toNat]? = xs[xs.size - 1 - m]?
    congr 1
    omega
  rw [e, PySem.W.krv_range, List.filterMap_reverse, PySem.W.krv_all]
theorem getItem_tuple_rev {t sl : Addr} {items : Array Value} {vl vu vs : Value} {Q : Value → Shared → Prop} (ht : IsTup s.heap t items) (hs : s.heap.IsSliceOf sl vl vu vs) (pl : IsPart vl none) (pu : IsPart vu none) (ps : IsPart vs (some (-1)))
    (h : Q (.ref s.heap.objs.size) { s with heap := s.heap.push { cls := .type "tuple", data := .seq items.toList.reverse.toArray } }) (hsz : items.size ≤ sizeLine) : wpAny (model prog w) A (getItem (.ref t) (.ref sl)) Q E s := by
  have htake : sizeOk (.seq items.toList.reverse.toArray) := by
    show items.toList.reverse.toArray.size ≤ sizeLine
    rw [List.size_toArray, List.length_reverse, Array.length_toList]
    exact hsz
  obtain ⟨os, hos, hcs, hds⟩ := id hs
  have hTs : s.TypeIs (.ref sl) "slice" := ⟨os, hos, hcs⟩
  unfold getItem
  try with_reducible refine wpAny_holding ?_
  first | refine wpAny_bind (wpAny_pure ?_) | skip
  refine wpAny_bind (wpAny_sequenceKey ht.typeIs (by decide) ?_)
  refine wpAny_bind (wpAny_callSpecial?_slot (name := Str.ofString "__getitem__") ht.typeIs PyProof.Rows.slot_tuple_getitem
    (wpAny_call_entry PyProof.Rows.slot_tuple_getitem ht.typeIs entry_tuple_getitem ?_ (args_tuple_getitem _ _)))
  show wpAny _ _ (Builtin.Tuple.tupleItemsOf (.ref t) >>= _) _ _ s
  refine wpAny_bind (tupleItemsOf_ ht ?_)
  refine wpAny_bind (wpAny_typeOf hTs ?_)
  rw [if_pos (by decide)]
  refine wpAny_bind (sliceApplied_rev hs pl pu ps ?_)
  have hno : ¬ ((((items.size : Int) - 1) == 0 && (-1 : Int) == 1 && items.size == items.size) = true) := by
    intro q
    rw [Bool.and_eq_true, Bool.and_eq_true] at q
    exact absurd q.1.2 (by decide)
  show wpAny _ _ (if (((items.size : Int) - 1) == 0 && (-1 : Int) == 1 && items.size == items.size) = true then _ else _) _ _ s
  rw [if_neg hno, pick_rev]
  first
    | exact wpAny_bind (m := Builtin.Tuple.tupleExact _) (wpAny_newObj_type (wpAny_pure ⟨_, rfl, wpAny_pure h⟩) htake)
    | exact wpAny_bind (m := Builtin.Tuple.tupleExact _) (wpAny_newObj_type (wpAny_bind (wpAny_pure (wpAny_pure ⟨_, rfl, wpAny_pure h⟩))) htake)
    | exact wpAny_bind (wpAny_bind (m := Builtin.Tuple.tupleExact _) (wpAny_newObj_type (wpAny_pure (wpAny_pure ⟨_, rfl, wpAny_pure h⟩)) htake))
    | exact wpAny_bind (wpAny_bind (m := Builtin.Tuple.tupleExact _) (wpAny_newObj_type (wpAny_pure ⟨_, rfl, wpAny_pure h⟩) htake))
end
section
variable {X : Cx}
def tRevT (K : PySem.W.Frag) (te : TE) : TE := fun σ H Q => te σ H fun x H1 => ∃ a xs, x = .ref a ∧ SqT K H1 a xs ∧ ∀ p, H1 p = none → Q (.ref p) (upd H1 p (.tup xs.reverse))
theorem pe_revT {e : Expr} {te : TE} {k : Nat} {p1 p2 p3 pos : Pos} (he : PE X e te) : PE X (.Subscript e (.Slice none none (some (.UnaryOp .USub (.Constant (.int 1) k p1) p2)) p3) pos) (tRevT X.K te) := by
  refine ⟨fun pins s σ H Q I h => ?_⟩
  refine Subscript_ (thn (he.run pins s σ H _ I h) fun v s1 ⟨x, H1, I1, r1, q1⟩ => ?_)
  obtain ⟨a, xs, ex, hx, q⟩ := q1
  subst ex
  cases r1
  have hst : PO X (some (.UnaryOp .USub (.Constant (.int 1) k p1) p2)) (tPart (tUn (rU fun i => .int (-i)) (tC (.int 1)))) := po_some (pe_un un_neg pe_int)
  refine wpAny_Slice (thn (po_none.run pins s1 σ H1 (fun o H2 => o = none ∧ H2 = H1) I1 ⟨rfl, rfl⟩) fun vl s2 ⟨l, H2, I2, pl, el, e2⟩ => ?_)
  subst el e2
  refine thn (po_none.run pins s2 σ H2 (fun o H3 => o = none ∧ H3 = H2) I2 ⟨rfl, rfl⟩) fun vu s3 ⟨u, H3, I3, pu, eu, e3⟩ => ?_
  subst eu e3
  refine thn (hst.run pins s3 σ H3 (fun o H4 => o = some (-1) ∧ H4 = H3) I3 ⟨1, rfl, -1, rfl, rfl, rfl⟩) fun vs s4 ⟨o, H4, I4, ps, eo, e4⟩ => ?_
  subst eo e4
  have I5 : Inv X pins σ H4 { s4 with heap := s4.heap.push { cls := .type "slice", data := .fields #[vl, vu, vs] } } := I4.kept (t' := s4.toks) fun b ob q => Heap.get?_push_of_some _ q
  obtain ⟨its, r, ht, hz⟩ := I5.tuple hx
  have hlen := r.length
  show wpAny (model X.prog X.w) X.A (subscriptTail e (.Slice none none (some (.UnaryOp .USub (.Constant (.int 1) k p1) p2)) p3) (.ref a) (.ref s4.heap.objs.size)) (EP X pins σ Q) X.xe { s4 with heap := s4.heap.push { cls := .type "slice", data := .fields #[vl, vu, vs] } }
  refine tail_any (ops := [.ref a, .ref s4.heap.objs.size]) ht.typeIs PyProof.Rows.slot_tuple_getitem.lookup ?_ (by with_unfolding_all rfl)
  refine getItem_tuple_rev ht (Heap.IsSliceOf.new _ vl vu vs) pl pu ps ?_ (by rw [List.size_toArray]; omega)
  refine ⟨.ref _, _, I5.laid (t' := s4.toks) (o := .tup xs.reverse) (fun b ob q => Heap.get?_push_of_some _ q) (Nat.le_refl _) ?_, rfl, q _ (I5.hok.fresh (Nat.le_refl _))⟩
  exact ⟨by rw [List.length_reverse]; exact hz, _, r.reverse, IsTup.new _ _⟩
end
theorem cut_map (ps : List Int) (lo hi : Option Int) : ∃ ms : List Int, cutV (ps.map V.int) lo hi = ms.map V.int ∧ ∀ m ∈ ms, m ∈ ps := by
  unfold cutV
  refine ⟨(ps.drop (HT.sIx (ps.map V.int).length 0 lo)).take (HT.sIx (ps.map V.int).length (ps.map V.int).length hi - HT.sIx (ps.map V.int).length 0 lo), ?_, fun m hm => ?_⟩
  · rw [List.map_take, List.map_drop]
  · exact List.mem_of_mem_drop (List.mem_of_mem_take hm)
theorem within_rep {ds : List Int} {n : Nat} {b : Int} (h : Within ds (List.replicate n b)) : ∀ d ∈ ds, 0 ≤ d ∧ d < b := by
  induction n generalizing ds with
  | zero =>
    cases h.n
    intro d hd
    cases hd
  | succ n ih =>
    obtain ⟨d, r, rfl, h0, h1, w⟩ := Within.c (show Within ds (b :: List.replicate n b) from h)
    intro x hx
    rcases List.mem_cons.mp hx with rfl | hx
    · exact ⟨h0, h1⟩
    · exact ih w x hx
theorem five {α : Type} {xs : List α} (h : xs.length = 5) : ∃ a b c d e, xs = [a, b, c, d, e] := by
  rcases xs with _ | ⟨a, _ | ⟨b, _ | ⟨c, _ | ⟨d, _ | ⟨e, _ | ⟨f, r⟩⟩⟩⟩⟩⟩ <;> simp at h
  exact ⟨a, b, c, d, e, rfl⟩

/-! ### errors of one field -/
def errH1 (H : Hp) (a C dx : Addr) (f : Str) (x : V) : Hp := upd (upd H dx (exd dx [(f, x)])) a (exo a C (some dx))
theorem raise1 {C : Addr} {f : Str} {x : V} {H : Hp} {Q : XK} (hq : ∀ d, H d = none → Q (.ref C) (some d) (upd H d (.xd [(f, x)]))) {a dx : Addr} (na : H a = none) (nd : upd H a (exo a C none) dx = none) (ne : dx ≠ a) :
    V.non = .non ∧ ∃ (d : Addr) (fs : List (Str × V)), errH1 (upd H a (exo a C none)) a C dx f x a = some (exo a C (some d)) ∧ errH1 (upd H a (exo a C none)) a C dx f x d = some (exd d fs) ∧ H d = none ∧
      Q (.ref C) (some d) (upd (del (errH1 (upd H a (exo a C none)) a C dx f x) a) d (.xd fs)) := by
  rw [upd_ne ne] at nd
  refine ⟨rfl, dx, [(f, x)], ?_, ?_, nd, ?_⟩
  · unfold errH1
    rw [upd_same]
  · unfold errH1
    rw [upd_ne ne, upd_same]
  · have e : upd (del (errH1 (upd H a (exo a C none)) a C dx f x) a) dx (.xd [(f, x)]) = upd H dx (.xd [(f, x)]) := by
      funext b
      by_cases h1 : b = dx
      · rw [h1, upd_same, upd_same]
      · rw [upd_ne h1, upd_ne h1]
        by_cases h2 : b = a
        · rw [h2, del_same, na]
        · rw [del_ne h2]
          unfold errH1
          rw [upd_ne h2, upd_ne h1, upd_ne h2]
    rw [e]
    exact hq dx nd
/-- a list of wishes -/
def Good (ns : List Int) : Prop := ns.Nodup ∧ ∀ n ∈ ns, 0 ≤ n
def wishV : List Int → List Int → V
  | [], _ => .non
  | n :: r, ls => if inV (.int n) (ls.map V.int) = true then .int n else wishV r ls
theorem wish_cases : ∀ (ns ls : List Int), wishV ns ls = .non ∨ ∃ n, wishV ns ls = .int n
  | [], _ => .inl rfl
  | n :: r, ls => by
    unfold wishV
    split
    · exact .inr ⟨n, rfl⟩
    · exact wish_cases r ls
def fT (t : Addr) : List (Str × V) := putF "things" (.ref t) []
theorem fT_things (t : Addr) : (fT t).lookup ("things" : Str) = some (V.ref t) := by rfl
def TAt (C : Addr) (H : Hp) (p : Addr) (ns : List Int) : Prop := ∃ dx t, H p = some (.ins C dx (fT t)) ∧ H t = some (.tup (ns.map V.int))
theorem TAt.same {C : Addr} {H H' : Hp} {p : Addr} {ns : List Int} (s : Same H H') (h : TAt C H p ns) : TAt C H' p ns := by
  obtain ⟨dx, t, h1, h2⟩ := h
  exact ⟨dx, t, s _ _ h1, s _ _ h2⟩
theorem ints_flat (ns : List Int) : (ns.map V.int).all flatV = true := by
  rw [List.all_eq_true]
  intro x hx
  obtain ⟨n, _, rfl⟩ := List.mem_map.mp hx
  rfl
theorem inV_int {n : Int} {ns : List Int} : inV (.int n) (ns.map V.int) = true ↔ n ∈ ns := by
  unfold inV
  rw [List.any_eq_true]
  constructor
  · rintro ⟨x, hx, e⟩
    obtain ⟨m, hm, rfl⟩ := List.mem_map.mp hx
    have e : decide (m = n) = true := by
      first | exact e | (simpa [eqV] using e)
    rw [← of_decide_eq_true e]
    exact hm
  · intro h
    refine ⟨.int n, List.mem_map.mpr ⟨n, h, rfl⟩, ?_⟩
    first | exact decide_eq_true rfl | simp [eqV]
theorem cat_any {K : PySem.W.Frag} {a b : Addr} {xs ys : List V} {H : Hp} {Q : VK} (ha : H a = some (.tup xs)) (hb : H b = some (.tup ys)) (hz : xs.length + ys.length ≤ sizeLine) (q : ∀ H' p, Same H H' → H' p = some (.tup (xs ++ ys)) → Q (.ref p) H') : rCatA K (.ref a) (.ref b) H Q := by
  refine ⟨a, b, xs, ys, rfl, rfl, tup_t ha, tup_t hb, hz, fun e => ?_, fun _ e => ?_, fun _ _ p np => q _ p (same_upd np) upd_same⟩
  · subst e
    exact q H b (Same.refl H) hb
  · subst e
    exact q H a (Same.refl H) (ha.trans (by rw [List.append_nil]))
theorem sl_any {K : PySem.W.Frag} {a : Addr} {xs : List V} {lo hi : Option Int} {H : Hp} {Q : VK} (ha : H a = some (.tup xs)) (q : ∀ H' p, Same H H' → H' p = some (.tup (cutV xs lo hi)) → Q (.ref p) H') : rSlA K (.ref a) lo hi H Q := by
  refine ⟨a, xs, rfl, tup_t ha, fun e => q H a (Same.refl H) (ha.trans ?_), fun _ p np => q _ p (same_upd np) upd_same⟩
  unfold cutV
  rw [e.1, e.2, List.drop_zero, Nat.sub_zero, List.take_length]

theorem made1 {H : Hp} {x dx C : Addr} (nx : H x = none) (nd : H dx = none) : Same H (upd (upd H dx (.own x)) x (.ins C dx [])) := fun b o e => by
  rw [upd_ne (ne_of_none e nx), upd_ne (ne_of_none e nd)]
  exact e
theorem map_erase : ∀ (ls : List Int) (k : Nat), (ls.map V.int).eraseIdx k = (ls.eraseIdx k).map V.int
  | [], k => by cases k <;> rfl
  | n :: r, 0 => rfl
  | n :: r, k + 1 => by
    show V.int n :: (r.map V.int).eraseIdx k = _
    rw [map_erase r k]
    rfl
theorem drop_cons {ns : List Int} {i : Nat} {n : Int} (h : ns[i]? = some n) : ns.drop i = n :: ns.drop (i + 1) := by
  have lt : i < ns.length := (List.getElem?_eq_some_iff.mp h).1
  rw [List.drop_eq_getElem_cons lt]
  rw [List.getElem?_eq_getElem lt] at h
  rw [Option.some.inj h]
theorem good_iff_all {ns : List Int} : (ns.Nodup ∧ (ns.map fun n => decide (n ≥ 0)).all id = true) ↔ Good ns := by
  unfold Good
  rw [List.all_eq_true]
  constructor
  · rintro ⟨h1, h2⟩
    refine ⟨h1, fun n hn => ?_⟩
    have := h2 _ (List.mem_map.mpr ⟨n, hn, rfl⟩)
    exact of_decide_eq_true this
  · rintro ⟨h1, h2⟩
    refine ⟨h1, fun b hb => ?_⟩
    obtain ⟨n, hn, rfl⟩ := List.mem_map.mp hb
    exact decide_eq_true (h2 n hn)

theorem good_snoc {ns : List Int} {n : Int} : Good (ns ++ [n]) ↔ Good ns ∧ 0 ≤ n ∧ n ∉ ns := by
  unfold Good
  rw [List.nodup_append]
  constructor
  · rintro ⟨⟨h1, _, h2⟩, h3⟩
    exact ⟨⟨h1, fun k hk => h3 k (List.mem_append_left _ hk)⟩, h3 n (List.mem_append_right _ List.mem_cons_self), fun hn => h2 n hn n List.mem_cons_self rfl⟩
  · rintro ⟨⟨h1, h2⟩, h3, h4⟩
    refine ⟨⟨h1, List.nodup_cons.mpr ⟨by simp, List.Pairwise.nil⟩, fun a ha b hb e => ?_⟩, fun k hk => ?_⟩
    · rw [List.mem_singleton.mp hb] at e
      exact h4 (e ▸ ha)
    · rcases List.mem_append.mp hk with hk | hk
      · exact h2 k hk
      · rw [List.mem_singleton.mp hk]
        exact h3
theorem good_take {ns : List Int} (h : Good ns) (i : Nat) : Good (ns.take i) := ⟨(List.take_sublist i ns).nodup h.1, fun n hn => h.2 n (List.mem_of_mem_take hn)⟩
theorem good_nil : Good [] := ⟨List.Pairwise.nil, fun n h => by cases h⟩
theorem good_rev {ns : List Int} (h : Good ns) : Good ns.reverse := ⟨(List.reverse_perm ns).nodup_iff.mpr h.1, fun n hn => h.2 n (List.mem_reverse.mp hn)⟩
/-- what the top has written of the classes -/
structure Txt (K : PySem.W.Frag) (mg : Str → Option Value) (C_Wish C_BadWish C_BadNumber C_ShelfError : Addr) : Prop where
  g_Wish : mg "Wish" = some (.ref C_Wish)
  kc_Wish : PySem.W.keepIn K (.ref C_Wish) = true
  hd_Wish : PySem.W.hasDictIn K C_Wish = true
  ha_Wish : PySem.W.findIn K (.ref C_Wish) "__class__" = some (some (.builtin "object.__class__"))
  hm_Wish : PySem.W.mroIn K C_Wish (.type "object") = some true
  cl_Wish : Cls K C_Wish
  mk_Wish : PySem.W.makesIn K C_Wish = true
  n_Wish_things : NoAttr K C_Wish "things"
  g_BadWish : mg "BadWish" = some (.ref C_BadWish)
  kc_BadWish : PySem.W.keepIn K (.ref C_BadWish) = true
  hd_BadWish : PySem.W.hasDictIn K C_BadWish = true
  ha_BadWish : PySem.W.findIn K (.ref C_BadWish) "__class__" = some (some (.builtin "object.__class__"))
  hm_BadWish : PySem.W.mroIn K C_BadWish (.type "object") = some true
  b_BadWish : PySem.W.subIn K (.ref C_BadWish) (.type "BaseException") = some true
  t_BadWish : PySem.W.typeIn K (.ref C_BadWish) = some (.type "type")
  ga_BadWish : PySem.W.findIn K (.ref C_BadWish) "__getattribute__" = some (some (.builtin "BaseException.__getattribute__"))
  gg_BadWish : PySem.W.findIn K (.ref C_BadWish) "__getattr__" = some none
  ox_BadWish : OexC K C_BadWish
  xf_BadWish : XfC K C_BadWish
  n_BadWish_at : PySem.W.findIn K (.ref C_BadWish) "at" = some none
  g_BadNumber : mg "BadNumber" = some (.ref C_BadNumber)
  kc_BadNumber : PySem.W.keepIn K (.ref C_BadNumber) = true
  hd_BadNumber : PySem.W.hasDictIn K C_BadNumber = true
  ha_BadNumber : PySem.W.findIn K (.ref C_BadNumber) "__class__" = some (some (.builtin "object.__class__"))
  hm_BadNumber : PySem.W.mroIn K C_BadNumber (.type "object") = some true
  b_BadNumber : PySem.W.subIn K (.ref C_BadNumber) (.type "BaseException") = some true
  t_BadNumber : PySem.W.typeIn K (.ref C_BadNumber) = some (.type "type")
  ga_BadNumber : PySem.W.findIn K (.ref C_BadNumber) "__getattribute__" = some (some (.builtin "BaseException.__getattribute__"))
  gg_BadNumber : PySem.W.findIn K (.ref C_BadNumber) "__getattr__" = some none
  ox_BadNumber : OexC K C_BadNumber
  xf_BadNumber : XfC K C_BadNumber
  n_BadNumber_what : PySem.W.findIn K (.ref C_BadNumber) "what" = some none
  n_BadNumber_at : PySem.W.findIn K (.ref C_BadNumber) "at" = some none
  g_ShelfError : mg "ShelfError" = some (.ref C_ShelfError)
  kc_ShelfError : PySem.W.keepIn K (.ref C_ShelfError) = true
  hd_ShelfError : PySem.W.hasDictIn K C_ShelfError = true
  ha_ShelfError : PySem.W.findIn K (.ref C_ShelfError) "__class__" = some (some (.builtin "object.__class__"))
  hm_ShelfError : PySem.W.mroIn K C_ShelfError (.type "object") = some true
  b_ShelfError : PySem.W.subIn K (.ref C_ShelfError) (.type "BaseException") = some true
  t_ShelfError : PySem.W.typeIn K (.ref C_ShelfError) = some (.type "type")
  ga_ShelfError : PySem.W.findIn K (.ref C_ShelfError) "__getattribute__" = some (some (.builtin "BaseException.__getattribute__"))
  gg_ShelfError : PySem.W.findIn K (.ref C_ShelfError) "__getattr__" = some none
  hnc : PySem.W.specialIn K (.builtin "object.__class__") "__get__" = some (some (.builtin "getset_descriptor.__get__"))
  htk : PySem.W.takesIn K (.builtin "object.__class__") = some true
  sub_BadWish_BadWish : PySem.W.subIn K (.ref C_BadWish) (.ref C_BadWish) = some true
  sub_BadWish_ShelfError : PySem.W.subIn K (.ref C_BadWish) (.ref C_ShelfError) = some true
  kit_BadWish_BadNumber : PySem.W.kitOne K (.ref C_BadWish) (.ref C_BadNumber) = some false
  kit_BadWish_ValueError : PySem.W.kitOne K (.ref C_BadWish) (.type "ValueError") = some true
  kit_BadWish_BadWish : PySem.W.kitOne K (.ref C_BadWish) (.ref C_BadWish) = some true
theorem Txt.ec_BadWish {K : PySem.W.Frag} {mg : Str → Option Value} {C_Wish C_BadWish C_BadNumber C_ShelfError : Addr} (T : Txt K mg C_Wish C_BadWish C_BadNumber C_ShelfError) : ExcC K C_BadWish := ⟨T.ga_BadWish, T.gg_BadWish, T.b_BadWish, T.hd_BadWish, T.ha_BadWish, T.hnc, T.htk, T.hm_BadWish⟩
theorem Txt.ec_BadNumber {K : PySem.W.Frag} {mg : Str → Option Value} {C_Wish C_BadWish C_BadNumber C_ShelfError : Addr} (T : Txt K mg C_Wish C_BadWish C_BadNumber C_ShelfError) : ExcC K C_BadNumber := ⟨T.ga_BadNumber, T.gg_BadNumber, T.b_BadNumber, T.hd_BadNumber, T.ha_BadNumber, T.hnc, T.htk, T.hm_BadNumber⟩
theorem Txt.ec_ShelfError {K : PySem.W.Frag} {mg : Str → Option Value} {C_Wish C_BadWish C_BadNumber C_ShelfError : Addr} (T : Txt K mg C_Wish C_BadWish C_BadNumber C_ShelfError) : ExcC K C_ShelfError := ⟨T.ga_ShelfError, T.gg_ShelfError, T.b_ShelfError, T.hd_ShelfError, T.ha_ShelfError, T.hnc, T.htk, T.hm_ShelfError⟩
theorem Txt.exm_BadWish_BadWish {K : PySem.W.Frag} {mg : Str → Option Value} {C_Wish C_BadWish C_BadNumber C_ShelfError : Addr} (T : Txt K mg C_Wish C_BadWish C_BadNumber C_ShelfError) : PySem.W.exmOne K (.ref C_BadWish) (.ref C_BadWish) = some true := PySem.W.exm_ref T.b_BadWish T.hd_BadWish T.t_BadWish T.sub_BadWish_BadWish
theorem Txt.exm_BadWish_ShelfError {K : PySem.W.Frag} {mg : Str → Option Value} {C_Wish C_BadWish C_BadNumber C_ShelfError : Addr} (T : Txt K mg C_Wish C_BadWish C_BadNumber C_ShelfError) : PySem.W.exmOne K (.ref C_BadWish) (.ref C_ShelfError) = some true := PySem.W.exm_ref T.b_ShelfError T.hd_ShelfError T.t_ShelfError T.sub_BadWish_ShelfError

/-- a def that is called by its name, with its promise -/
def Cal (P : Program) (w : World) (K : PySem.W.Frag) (mg : Str → Option Value) (base : Heap) (CX : CXT) (k : Nat) (x : Str) (ps : List Str) (sp : Sp) : Prop :=
  ∃ (f : Addr) (fd : FuncData), FnOk P w K mg base CX k f fd ps sp ∧ mg x = some (.ref f) ∧ PySem.W.keepIn K (.ref f) = true ∧ Binds K fd ps []
/-- an own class's __init__; dvs: what stands for the parameters that a short call leaves out -/
def CalI (P : Program) (w : World) (K : PySem.W.Frag) (mg : Str → Option Value) (base : Heap) (CX : CXT) (k : Nat) (C : Addr) (ps : List Str) (sp : Sp) (dvs : List V) : Prop :=
  ∃ (f : Addr) (fd : FuncData), FnOk P w K mg base CX k f fd ps sp ∧ Mk K C f ∧ Binds K fd ps [] ∧ ∃ ds, Vals dvs ds ∧ Binds K fd ps ds
/-- an own error's __init__ -/
def CalX (P : Program) (w : World) (K : PySem.W.Frag) (mg : Str → Option Value) (base : Heap) (CX : CXT) (k : Nat) (C : Addr) (ps : List Str) (sp : Sp) : Prop :=
  ∃ (f : Addr) (fd : FuncData), FnOk P w K mg base CX k f fd ps sp ∧ PySem.W.findIn K (.ref C) "__init__" = some (some (.ref f)) ∧ PySem.W.typeIn K (.ref f) = some (.type "function") ∧ Binds K fd ps []
/-- a method -/
def CalM (P : Program) (w : World) (K : PySem.W.Frag) (mg : Str → Option Value) (base : Heap) (CX : CXT) (k : Nat) (C : Addr) (m : Str) (ps : List Str) (sp : Sp) : Prop :=
  ∃ (f : Addr) (fd : FuncData), FnOk P w K mg base CX k f fd ps sp ∧ Meth K C m f ∧ Binds K fd ps []
section
variable {P : Program} {w : World} {K : PySem.W.Frag} {mg : Str → Option Value} {base : Heap}
def sp_BadWish___init__ (C : Addr) : Sp := fun vs H Q _ => ∃ (a : Addr) (x : V), vs = [.ref a, x] ∧ H a = some (exo a C none) ∧ ∀ dx, H dx = none → dx ≠ a → Q .non (errH1 H a C dx "at" x)
theorem ok_BadWish___init__ {f : Addr} {fd : FuncData} {C_Wish C_BadWish C_BadNumber C_ShelfError : Addr} (F : Fun K "__init__" "BadWish.__init__" s_BadWish___init__ f fd) (T : Txt K mg C_Wish C_BadWish C_BadNumber C_ShelfError) : FnOk P w K mg base CX0 1 f fd ["self", "at"] (sp_BadWish___init__ C_BadWish) := by
  refine F.ok sc_BadWish___init__ (fun vs H Q E h => ?_) (fun cdv A outer s H vs Q E hr h => ?_)
  · obtain ⟨a, x, rfl, _⟩ := h
    rfl
  · obtain ⟨a, x, rfl, ha, q⟩ := h
    refine ⟨_, (pss_one (ps_ost (pv 0) (pv 1))), ?_⟩
    exact ⟨_, rfl, _, rfl, a, C_BadWish, rfl, T.ox_BadWish, T.n_BadWish_at, .inl ⟨ha, fun dx nd ne => q dx nd ne⟩⟩
def sp__can_be_wished : Sp := fun vs H Q _ => ∃ (t : Addr) (ns : List Int), vs = [.ref t] ∧ H t = some (.tup (ns.map V.int)) ∧ ns.length < 64 ∧ (Good ns → ∀ H', Same H H' → Q (.bl true) H') ∧ (¬ Good ns → ∀ H', Same H H' → Q (.bl false) H')
theorem ok__can_be_wished {f : Addr} {fd : FuncData} {C_Wish C_BadWish C_BadNumber C_ShelfError : Addr} (F : Fun K "_can_be_wished" "_can_be_wished" s__can_be_wished f fd) (T : Txt K mg C_Wish C_BadWish C_BadNumber C_ShelfError) (m_all : mg "all" = none) (m_len : mg "len" = none) (m_set : mg "set" = none) : FnOk P w K mg base CX0 1 f fd ["things"] sp__can_be_wished := by
  refine F.ok sc__can_be_wished (fun vs H Q E h => ?_) (fun cdv A outer s H vs Q E hr h => ?_)
  · obtain ⟨t, ns, rfl, _⟩ := h
    rfl
  · obtain ⟨t, ns, rfl, ht, nl, qt, qf⟩ := h
    refine ⟨_, (pss_one (ps_ret (pe_and (pe_cmpR op_eq (pe_lenSetT rfl (by rfl) m_len (by rfl) m_set (pv 0)) (pe_callB call_len_seq (by rfl) m_len (by decide +kernel) (pa_cons (pv 0) pa_nil)) (nomark _)) (pe_one (pe_callB (cr_all rfl) (by rfl) m_all (by decide +kernel) (pa_cons (pe_lc (own := [("thing", 1)]) (g := gName 1) (tt := tYes) rfl sc__can_be_wished.nd (pi_tup (pv 0)) (blkOk_by (own := [("thing", 1)]) (N := ["things", "thing"]) (sc := defScope s__can_be_wished) (by decide +kernel)) (fun _ _ _ _ _ => (pg_name (i := 1) sc__can_be_wished.nd rfl (Or.inl rfl))) (fun _ _ _ _ _ => pts_nil) (fun _ _ _ _ _ => (pe_cmpR op_ge (pv 1) pe_int (nomark _)))) pa_nil)))))), ?_⟩
    refine ⟨_, rfl, t, ns, rfl, tup_t ht, nl, fun c hc => ?_⟩
    refine ⟨_, rfl, t, _, rfl, .inr (tup_t ht), rfl, _, rfl, ?_⟩
    rw [List.length_map]
    refine ite2 (fun e => ?_) (fun e => ?_)
    · have nd : ns.Nodup := hc.mp (by
        have := V.int.inj (of_decide_eq_true e)
        omega)
      refine ⟨_, rfl, t, rfl, ⟨_, tup_t ht⟩, fun D nD => lc_tup (K := K) (a := t) (xs := ns.map V.int) (fun i H2 => Same H H2 ∧ H2 D = some (.lst (((ns.take i).map fun n => decide (n ≥ 0)).map V.bl))) ⟨same_upd nD, upd_same⟩ (fun i H2 _ ⟨s, _⟩ => tup_t (s _ _ ht)) ?_ ?_⟩
      · rintro i x H2 hi ⟨s, hD⟩
        obtain ⟨n, rfl, hin⟩ := int_of hi
        refine ⟨rfl, ?_⟩
        refine lc_yes ?_
        refine iteT ?_
        refine ⟨_, rfl, _, _, rfl, rfl, _, hD, ?_, same_mut s nD, ?_⟩
        · rw [List.length_map, List.length_map, List.length_take]
          exact small1000 (by omega)
        · rw [upd_same, List.take_add_one, hin, List.map_append, List.map_append]
          rfl
      · rintro H2 ⟨s, hD⟩
        rw [List.length_map, List.take_length] at hD
        refine ⟨D, _, rfl, lst_l hD, ?_⟩
        cases e2 : (ns.map fun n => decide (n ≥ 0)).all id with
        | true => exact qt (good_iff_all.mp ⟨nd, e2⟩) H2 s
        | false => exact qf (fun g => by
            have := (good_iff_all.mpr g).2
            rw [e2] at this
            cases this) H2 s
    · have nn : ¬ ns.Nodup := fun nd => e (by
        rw [hc.mpr nd]
        exact decide_eq_true rfl)
      exact qf (fun g => nn g.1) H (Same.refl H)
def sp__first_wish : Sp := fun vs H Q _ => ∃ (t l : Addr) (ns ls : List Int), vs = [.ref t, .ref l] ∧ H t = some (.tup (ns.map V.int)) ∧ H l = some (.tup (ls.map V.int)) ∧ Q (wishV ns ls) H
theorem ok__first_wish {f : Addr} {fd : FuncData} {C_Wish C_BadWish C_BadNumber C_ShelfError : Addr} (F : Fun K "_first_wish" "_first_wish" s__first_wish f fd) (T : Txt K mg C_Wish C_BadWish C_BadNumber C_ShelfError) : FnOk P w K mg base CX0 1 f fd ["things", "lot"] sp__first_wish := by
  refine F.ok sc__first_wish (fun vs H Q E h => ?_) (fun cdv A outer s H vs Q E hr h => ?_)
  · obtain ⟨t, l, ns, ls, rfl, _⟩ := h
    rfl
  · obtain ⟨t, l, ns, ls, rfl, ht, hl, q⟩ := h
    refine ⟨_, (pss_cons (ps_for PassesOwn.never rfl (pi_tup (pv 0)) (pg_name (i := 2) sc__first_wish.nd rfl (Or.inl rfl))
      (pss_one (ps_if (pt_cmpR op_in_seq (pv 2) (pv 1) (by rfl)) (pss_one (ps_ret (pv 2))) pss_nil)))
      (pss_one (ps_ret pe_non))), ?_⟩
    refine ⟨_, rfl, t, rfl, ⟨_, tup_t ht⟩, for_tup (K := K) (a := t) (xs := ns.map V.int) (fun i σ H2 => ∃ (y : Option V), σ = [some (.ref t), some (.ref l), y] ∧ H2 = H ∧ wishV ns ls = wishV (ns.drop i) ls) ⟨none, rfl, rfl, rfl⟩ (fun i σ H2 _ ⟨_, _, e, _⟩ => e ▸ tup_t ht) ?_ ?_⟩
    · rintro i x σ H2 hi ⟨y, rfl, rfl, hb⟩
      obtain ⟨n, rfl, hin⟩ := int_of hi
      rw [drop_cons hin] at hb
      refine ⟨_, rfl, _, rfl, ⟨l, _, rfl, .inr (tup_t hl), rfl, ints_flat ls, _, rfl, ite2 (fun c => ?_) (fun c => ?_)⟩⟩
      · have e : wishV ns ls = .int n := hb.trans (if_pos c)
        rw [e] at q
        exact ⟨_, rfl, q⟩
      · exact ⟨_, rfl, rfl, hb.trans (if_neg c)⟩
    · rintro σ H2 ⟨y, rfl, rfl, hb⟩
      rw [List.length_map, List.drop_length] at hb
      rw [show wishV ns ls = .non from hb] at q
      exact q
def sp_Wish___init__ (C CB : Addr) : Sp := fun vs H Q E => ∃ (p dx t : Addr) (ns : List Int), vs = [.ref p, .ref t] ∧ H p = some (.ins C dx []) ∧ H t = some (.tup (ns.map V.int)) ∧ ns.length < 64 ∧ (¬ Good ns → ∀ H' d, Same H H' → H' d = some (.xd [("at", .non)]) → E (.ref CB) (some d) H') ∧ (Good ns → ∀ H', (∀ b o, b ≠ p → H b = some o → H' b = some o) → H' p = some (.ins C dx (fT t)) → Q .non H')
theorem ok_Wish___init__ {f : Addr} {fd : FuncData} {C_Wish C_BadWish C_BadNumber C_ShelfError : Addr} (F : Fun K "__init__" "Wish.__init__" s_Wish___init__ f fd) (T : Txt K mg C_Wish C_BadWish C_BadNumber C_ShelfError) (m_tuple : mg "tuple" = none) (c__can_be_wished : Cal P w K mg base CX0 1 "_can_be_wished" ["things"] sp__can_be_wished) (c_BadWish___init__ : CalX P w K mg base CX0 1 C_BadWish ["self", "at"] (sp_BadWish___init__ C_BadWish)) : FnOk P w K mg base (L2.CX P w) 3 f fd ["self", "things"] (sp_Wish___init__ C_Wish C_BadWish) := by
  refine F.okX sc_Wish___init__ (fun vs H Q E h => ?_) (fun cdv A outer s H vs Q E hr h => ?_)
  · obtain ⟨p, dx, t, ns, rfl, _⟩ := h
    rfl
  · obtain ⟨p, dx, t, ns, rfl, hp, ht, nl, kE, q⟩ := h
    obtain ⟨f__can_be_wished, fd__can_be_wished, G__can_be_wished, m__can_be_wished, k__can_be_wished, b__can_be_wished⟩ := c__can_be_wished
    obtain ⟨f_BadWish___init__, fd_BadWish___init__, G_BadWish___init__, ic_BadWish___init__, ti_BadWish___init__, b_BadWish___init__⟩ := c_BadWish___init__
    refine ⟨_, (pss_cons (ps_if (pt_not (pt_val (pe_call G__can_be_wished (hr.mono (by decide)) (by rfl) m__can_be_wished k__can_be_wished b__can_be_wished .nil pass0 (pa_cons (pv 1) pa_nil)))) (pss_one (ps_raise rfl (takes_of rfl rfl rfl rfl) (pmk_oex T.ox_BadWish ic_BadWish___init__ ti_BadWish___init__ G_BadWish___init__ (hr.mono (by decide)) b_BadWish___init__ .nil pass0 (by exact rfl) T.g_BadWish (pa_cons pe_non pa_nil)))) pss_nil)
      (pss_one (ps_fld (pv 0) (pe_callTy call_tuple_of (by rfl) m_tuple (by decide +kernel) (pa_cons (pv 1) pa_nil)) rfl))), ?_⟩
    refine ⟨_, rfl, t, ns, rfl, ht, nl, fun g H1 s1 => ⟨true, rfl, iteF ?_⟩, fun g H1 s1 => ⟨false, rfl, iteT ?_⟩⟩
    · refine ⟨_, rfl, t, _, rfl, .inr ⟨tup_t (s1 _ _ ht), ?_⟩⟩
      refine ⟨_, rfl, p, C_Wish, dx, _, rfl, s1 _ _ hp, T.cl_Wish, T.n_Wish_things, (by show 0 < 1000; decide), ?_⟩
      exact q g _ (fun b o ne e => (upd_ne ne).trans (s1 _ _ e)) upd_same
    · exact ⟨(by show 1 ≤ 1000; decide), fun a na => ⟨a, _, rfl, upd_same, fun dx2 nd ne => raise1 (fun d nd => kE g _ d (s1.trans (same_upd nd)) upd_same) na nd ne⟩⟩

theorem mk_wish {C CB t : Addr} {ns : List Int} {H : Hp} {G : Addr → Hp → Prop} {E : XK} (ht : H t = some (.tup (ns.map V.int))) (nl : ns.length < 64) (kE : ¬ Good ns → ∀ H' d, Same H H' → H' d = some (.xd [("at", .non)]) → E (.ref CB) (some d) H')
    (k : Good ns → ∀ x H', Same H H' → TAt C H' x ns → G x H') :
    ∀ x dx, H x = none → H dx = none → dx ≠ x → sp_Wish___init__ C CB [.ref x, .ref t] (upd (upd H dx (.own x)) x (.ins C dx [])) (fun v H2 => v = .non ∧ G x H2) E :=
  fun x dx nx nd _ => ⟨x, dx, t, ns, rfl, upd_same, made1 nx nd _ _ ht, nl, fun g H' d s hd => kE g H' d ((made1 nx nd).trans s) hd, fun g H' kp hx => by
    have s : Same H H' := fun b o e => kp b o (ne_of_none e nx) (made1 nx nd b o e)
    exact ⟨rfl, k g x H' s ⟨dx, t, hx, s _ _ ht⟩⟩⟩
def sp_Wish___call__ (C : Addr) : Sp := fun vs H Q _ => ∃ (p l : Addr) (ns ls : List Int), vs = [.ref p, .ref l] ∧ TAt C H p ns ∧ H l = some (.tup (ls.map V.int)) ∧ Q (wishV ns ls) H
theorem ok_Wish___call__ {f : Addr} {fd : FuncData} {C_Wish C_BadWish C_BadNumber C_ShelfError : Addr} (F : Fun K "__call__" "Wish.__call__" s_Wish___call__ f fd) (T : Txt K mg C_Wish C_BadWish C_BadNumber C_ShelfError) (c__first_wish : Cal P w K mg base CX0 1 "_first_wish" ["things", "lot"] sp__first_wish) : FnOk P w K mg base CX0 2 f fd ["self", "lot"] (sp_Wish___call__ C_Wish) := by
  refine F.ok sc_Wish___call__ (fun vs H Q E h => ?_) (fun cdv A outer s H vs Q E hr h => ?_)
  · obtain ⟨p, l, ns, ls, rfl, _⟩ := h
    rfl
  · obtain ⟨p, l, ns, ls, rfl, ⟨dx, t, hp, ht⟩, hl, q⟩ := h
    obtain ⟨f__first_wish, fd__first_wish, G__first_wish, m__first_wish, k__first_wish, b__first_wish⟩ := c__first_wish
    refine ⟨_, (pss_one (ps_ret (pe_call G__first_wish (hr.mono (by decide)) (by rfl) m__first_wish k__first_wish b__first_wish .nil pass0 (pa_cons (pe_fld (pv 0) rfl) (pa_cons (pv 1) pa_nil))))), ?_⟩
    exact ⟨_, rfl, p, C_Wish, dx, _, _, rfl, hp, T.cl_Wish, T.n_Wish_things, fT_things _, _, rfl, t, l, ns, ls, rfl, ht, hl, q⟩
def sp__law_cell (K : PySem.W.Frag) : Sp := fun vs H Q _ => ∃ (a : Addr) (ns : List Int) (j : Nat), vs = [.ref a, .int (j : Int)] ∧ SqL K H a (ns.map V.int) ∧ ∀ v : Int, Q (.int v) H
theorem ok__law_cell {f : Addr} {fd : FuncData} {C_Wish C_BadWish C_BadNumber C_ShelfError : Addr} (F : Fun K "_law_cell" "_law_cell" s__law_cell f fd) (T : Txt K mg C_Wish C_BadWish C_BadNumber C_ShelfError) (m_int : mg "int" = none) (m_len : mg "len" = none) : FnOk P w K mg base CX0 1 f fd ["_law_script", "_law_place"] (sp__law_cell K) := by
  refine F.ok sc__law_cell (fun vs H Q E h => ?_) (fun cdv A outer s H vs Q E hr h => ?_)
  · obtain ⟨a, ns, j, rfl, _⟩ := h
    rfl
  · obtain ⟨a, ns, j, rfl, hS, q⟩ := h
    refine ⟨_, (pss_cons (ps_if (pt_cmpR op_lt (pv 1) (pe_callB call_len_seq (by rfl) m_len (by decide +kernel) (pa_cons (pv 0) pa_nil)) (nomark _)) (pss_one (ps_ret (pe_callTy call_int1 (by rfl) m_int (by decide +kernel) (pa_cons (pe_ix ix_list (pv 0) (pv 1) (fun _ _ => rfl)) pa_nil)))) pss_nil)
      (pss_one (ps_ret pe_int))), ?_⟩
    refine ⟨_, rfl, .ref a, rfl, a, _, rfl, .inl hS, _, _, rfl, rfl, _, rfl, ite2 (fun e => ?_) (fun _ => q 0)⟩
    have hj : j < ns.length := by
      have e := of_decide_eq_true e
      rw [List.length_map] at e
      omega
    exact ⟨.ref a, rfl, .int (j : Int), rfl, a, _, _, _, rfl, rfl, hS, atI_nat (int_at (List.getElem?_eq_getElem hj)), .inl ⟨_, rfl, q _⟩⟩
def sp__law_draws (K : PySem.W.Frag) : Sp := fun vs H Q _ => ∃ (c : Int) (a : Addr) (ns : List Int), vs = [.int c, .ref a] ∧ SqL K H a (ns.map V.int) ∧ (∀ n ∈ ns, 0 < n ∧ n < 2 ^ 100) ∧ ns.length ≤ 1000 ∧
  ∀ ds H' p, Within ds ns → Same H H' → H p = none → H' p = some (.lst (ds.map V.int)) → Q (.ref p) H'

theorem ok__law_draws {f : Addr} {fd : FuncData} {C_Wish C_BadWish C_BadNumber C_ShelfError : Addr} (F : Fun K "_law_draws" "_law_draws" s__law_draws f fd) (T : Txt K mg C_Wish C_BadWish C_BadNumber C_ShelfError) (m_int : mg "int" = none) (m_len : mg "len" = none) (m_range : mg "range" = none) : FnOk P w K mg base CX0 1 f fd ["_law_cell_here", "_law_sizes"] (sp__law_draws K) := by
  refine F.ok sc__law_draws (fun vs H Q E h => ?_) (fun cdv A outer s H vs Q E hr h => ?_)
  · obtain ⟨c, a, ns, rfl, _⟩ := h
    rfl
  · obtain ⟨c, a, ns, rfl, hS, hn, hlen, q⟩ := h
    refine ⟨_, (pss_cons (ps_if (pt_cmpR op_eq (pv 0) pe_int (nomark _)) (pss_one (ps_ret (pe_lc (own := [("_law_size", 2)]) (g := gName 2) (tt := tYes) rfl sc__law_draws.nd (pi_list (pv 1)) (blkOk_by (own := [("_law_size", 2)]) (N := ["_law_cell_here", "_law_sizes", "_law_size", "_law_left", "_law_found", "_law_k", "_law_low", "_law_high"]) (sc := defScope s__law_draws) (by decide +kernel)) (fun _ _ _ _ _ => (pg_name (i := 2) sc__law_draws.nd rfl (Or.inl rfl))) (fun _ _ _ _ _ => pts_nil) (fun _ _ _ _ _ => pe_int)))) pss_nil)
      (pss_cons (ps_if (pt_cmpR op_ge (pv 0) (pe_op op_pow pe_int pe_int) (nomark _)) (pss_cons (ps_set (i := 3) sc__law_draws.nd rfl (Or.inl rfl) (pe_op op_sub (pv 0) (pe_op op_pow pe_int pe_int)))
      (pss_cons (ps_set (i := 4) sc__law_draws.nd rfl (Or.inl rfl) (pe_lst pa_nil))
      (pss_cons (ps_for PassesOwn.never rfl (pi_list (pv 1)) (pg_name (i := 2) sc__law_draws.nd rfl (Or.inl rfl))
      (pss_cons (ps_expr (pe_bm PySem.F.plainAttrs_list PySem.F.slot_list_append PySem.F.type_list_append mt_append (pv 4) (pa_cons (pe_op op_mod (pe_callTy call_int1 (by rfl) m_int (by decide +kernel) (pa_cons (pv 3) pa_nil)) (pv 2)) pa_nil)))
      (pss_one (ps_set (i := 3) sc__law_draws.nd rfl (Or.inl rfl) (pe_op op_fdivW (pv 3) (pv 2))))))
      (pss_one (ps_ret (pv 4)))))) pss_nil)
      (pss_cons (ps_set (i := 4) sc__law_draws.nd rfl (Or.inl rfl) (pe_lst pa_nil))
      (pss_cons (ps_for PassesOwn.never rfl (pi_range1 (by rfl) m_range (pa_cons (pe_callB call_len_seq (by rfl) m_len (by decide +kernel) (pa_cons (pv 1) pa_nil)) pa_nil)) (pg_name (i := 5) sc__law_draws.nd rfl (Or.inl rfl))
      (pss_cons (ps_set (i := 6) sc__law_draws.nd rfl (Or.inl rfl) (pe_op op_mod (pe_callTy call_int1 (by rfl) m_int (by decide +kernel) (pa_cons (pe_op op_add (pe_op op_mul (pv 0) pe_int) (pe_op op_mul (pe_op op_add (pv 5) pe_int) pe_int)) pa_nil)) pe_int))
      (pss_cons (ps_set (i := 6) sc__law_draws.nd rfl (Or.inl rfl) (pe_op op_mod (pe_callTy call_int1 (by rfl) m_int (by decide +kernel) (pa_cons (pe_op op_add (pe_op op_mul (pv 6) pe_int) (pe_op op_mul (pe_op op_add (pv 5) pe_int) pe_int)) pa_nil)) pe_int))
      (pss_cons (ps_set (i := 7) sc__law_draws.nd rfl (Or.inl rfl) (pe_op op_mod (pe_callTy call_int1 (by rfl) m_int (by decide +kernel) (pa_cons (pe_op op_add (pe_op op_mul (pv 0) pe_int) (pe_op op_mul (pe_op op_add (pv 5) pe_int) pe_int)) pa_nil)) pe_int))
      (pss_cons (ps_set (i := 7) sc__law_draws.nd rfl (Or.inl rfl) (pe_op op_mod (pe_callTy call_int1 (by rfl) m_int (by decide +kernel) (pa_cons (pe_op op_add (pe_op op_mul (pv 7) pe_int) (pv 6)) pa_nil)) pe_int))
      (pss_one (ps_expr (pe_bm PySem.F.plainAttrs_list PySem.F.slot_list_append PySem.F.type_list_append mt_append (pv 4) (pa_cons (pe_op op_mod (pe_callTy call_int1 (by rfl) m_int (by decide +kernel) (pa_cons (pe_op op_add (pe_op op_mul (pv 7) pe_int) (pv 6)) pa_nil)) (pe_ix ix_list (pv 1) (pv 5) (fun _ _ => rfl))) pa_nil)))))))))
      (pss_one (ps_ret (pv 4))))))), ?_⟩
    have small : ∀ {ds : List Int} {i : Nat}, Within ds (ns.take i) → (ds.map V.int).length < sizeLine := fun {ds i} w => by
      rw [List.length_map, w.len, List.length_take]
      exact small1000 (by omega)
    refine ⟨_, rfl, rfl, _, rfl, ite2 (fun _ => ?_) (fun _ => ?_)⟩
    · -- [0 for size in sizes]
      refine ⟨.ref a, rfl, a, rfl, ⟨_, hS⟩, fun D nD => lc_list (K := K) (a := a) (xs := ns.map V.int) (fun i H2 => ∃ ds : List Int, Same H H2 ∧ H2 D = some (.lst (ds.map V.int)) ∧ Within ds (ns.take i)) ⟨[], same_upd nD, upd_same, Within.zero ns⟩ (fun i H2 _ ⟨_, s, _⟩ => s.seq hS) ?_ ?_⟩
      · rintro i x H2 hi ⟨ds, s, hD, w⟩
        obtain ⟨n, rfl, hin⟩ := int_of hi
        refine ⟨rfl, ?_⟩
        refine lc_yes ?_
        refine iteT ?_
        exact ⟨_, hD, small w, ds ++ [0], same_mut s nD, by rw [upd_same, ← snoc_int], w.step hin (Int.le_refl 0) (hn n (List.mem_of_getElem? hin)).1⟩
      · rintro H2 ⟨ds, s, hD, w⟩
        rw [List.length_map] at w
        exact q ds H2 D w.full s nD hD
    refine ⟨_, rfl, 10, 18, rfl, rfl, ⟨by decide, by decide, by decide⟩, _, _, rfl, rfl, _, rfl, ite2 (fun _ => ?_) (fun _ => ?_)⟩
    · -- left = cell - 10 ** 18; found = []
      refine ⟨_, rfl, 10, 18, rfl, rfl, ⟨by decide, by decide, by decide⟩, _, _, rfl, rfl, ?_⟩
      refine ⟨Nat.zero_le _, fun o no => ?_⟩
      have s1 : Same H (upd H o (.lst [])) := same_upd no
      refine ⟨.ref a, rfl, a, rfl, ⟨_, s1.seq hS⟩, for_list (K := K) (a := a) (xs := ns.map V.int) (fun i σ H2 => ∃ (ds : List Int) (l : Int) (y : Option V), σ = [some (.int c), some (.ref a), y, some (.int l), some (.ref o), none, none, none] ∧ Same H H2 ∧ H2 o = some (.lst (ds.map V.int)) ∧ Within ds (ns.take i))
        ⟨[], _, none, rfl, s1, upd_same, Within.zero ns⟩ (fun i σ H2 _ ⟨_, _, _, _, s, _⟩ => s.seq hS) ?_ ?_⟩
      · rintro i x σ H2 hi ⟨ds, l, y, rfl, s, hD, w⟩
        obtain ⟨n, rfl, hin⟩ := int_of hi
        obtain ⟨n0, n1⟩ := hn n (List.mem_of_getElem? hin)
        refine ⟨.ref o, rfl, .inl ⟨rfl, _, lst_l hD⟩, _, rfl, .inl ⟨l, rfl, _, rfl, _, _, rfl, rfl, n0, o, _, _, rfl, rfl, hD, small w, ?_⟩⟩
        refine ⟨_, rfl, _, rfl, _, _, rfl, rfl, w_div n0 n1, ds ++ [l % n], _, _, rfl, same_mut s no, by rw [upd_same, ← snoc_int], w.step hin (Int.emod_nonneg _ (by omega)) (Int.emod_lt_of_pos _ n0)⟩
      · rintro σ H2 ⟨ds, l, y, rfl, s, hD, w⟩
        rw [List.length_map] at w
        exact ⟨_, rfl, q ds H2 o w.full s no hD⟩
    · refine ⟨Nat.zero_le _, fun o no => ?_⟩
      have s1 : Same H (upd H o (.lst [])) := same_upd no
      refine ⟨.ref a, rfl, a, _, rfl, .inl (s1.seq hS), _, rfl, ?_⟩
      rw [List.length_map]
      refine ⟨by omega, by omega, ?_⟩
      rw [Int.toNat_natCast]
      refine for_range (lo := 0) (n := ns.length) (fun i σ H2 => ∃ (ds : List Int) (y1 y2 y3 : Option V), σ = [some (.int c), some (.ref a), none, none, some (.ref o), y1, y2, y3] ∧ Same H H2 ∧ H2 o = some (.lst (ds.map V.int)) ∧ Within ds (ns.take i))
        ⟨[], none, none, none, rfl, s1, upd_same, Within.zero ns⟩ ?_ ?_
      · rintro i σ H2 hi ⟨ds, y1, y2, y3, rfl, s, hD, w⟩
        have hin : ns[i]? = some ns[i] := List.getElem?_eq_getElem hi
        obtain ⟨n0, n1⟩ := hn ns[i] (List.getElem_mem hi)
        refine ⟨_, rfl, _, _, rfl, rfl, .inr ⟨by decide, by decide⟩, _, rfl, _, _, rfl, rfl, _, _, rfl, rfl, .inr ⟨by decide, by decide⟩, _, _, rfl, rfl, .inl ⟨_, rfl, _, _, rfl, rfl, (show (0 : Int) < 2147483647 by decide), ?_⟩⟩
        refine ⟨_, rfl, _, _, rfl, rfl, .inr ⟨by decide, by decide⟩, _, rfl, _, _, rfl, rfl, _, _, rfl, rfl, .inr ⟨by decide, by decide⟩, _, _, rfl, rfl, .inl ⟨_, rfl, _, _, rfl, rfl, (show (0 : Int) < 2147483399 by decide), ?_⟩⟩
        refine ⟨_, rfl, _, _, rfl, rfl, .inr ⟨by decide, by decide⟩, _, rfl, _, _, rfl, rfl, _, _, rfl, rfl, .inr ⟨by decide, by decide⟩, _, _, rfl, rfl, .inl ⟨_, rfl, _, _, rfl, rfl, (show (0 : Int) < 2147483563 by decide), ?_⟩⟩
        refine ⟨_, rfl, _, _, rfl, rfl, .inr ⟨by decide, by decide⟩, _, rfl, _, _, rfl, rfl, .inl ⟨_, rfl, _, _, rfl, rfl, (show (0 : Int) < 2147483587 by decide), ?_⟩⟩
        refine ⟨.ref o, rfl, .inl ⟨rfl, _, lst_l hD⟩, _, rfl, _, _, rfl, rfl, .inr ⟨by decide, by decide⟩, _, rfl, _, _, rfl, rfl, .inl ⟨_, rfl, .ref a, rfl, .int (0 + (i : Int)), rfl, a, _, _, _, rfl, rfl, s.seq hS, at_of (Int.zero_add _) (int_at hin), _, _, rfl, rfl, n0, o, _, _, rfl, rfl, hD, small w, ?_⟩⟩
        exact ⟨ds ++ [_], _, _, _, rfl, same_mut s no, by rw [upd_same, ← snoc_int], w.step hin (Int.emod_nonneg _ (by omega)) (Int.emod_lt_of_pos _ n0)⟩
      · rintro σ H2 ⟨ds, y1, y2, y3, rfl, s, hD, w⟩
        exact ⟨_, rfl, q ds H2 o w.full s no hD⟩
def sp__law_lot : Sp := fun vs H Q _ => ∃ (b : Int) (m : Nat), vs = [.int b, .int (m : Int)] ∧ m ≤ 900 ∧ ∀ H' t (ns : List Int), Same H H' → H' t = some (.tup (ns.map V.int)) → ns.length ≤ m → Q (.ref t) H' 
theorem ok__law_lot {f : Addr} {fd : FuncData} {C_Wish C_BadWish C_BadNumber C_ShelfError : Addr} (F : Fun K "_law_lot" "_law_lot" s__law_lot f fd) (T : Txt K mg C_Wish C_BadWish C_BadNumber C_ShelfError) (m_int : mg "int" = none) (m_range : mg "range" = none) (m_tuple : mg "tuple" = none) : FnOk P w K mg base CX0 1 f fd ["_law_bits", "_law_many"] sp__law_lot := by
  refine F.ok sc__law_lot (fun vs H Q E h => ?_) (fun cdv A outer s H vs Q E hr h => ?_)
  · obtain ⟨b, m, rfl, _⟩ := h
    rfl
  · obtain ⟨b, m, rfl, hm, q⟩ := h
    refine ⟨_, (pss_cons (ps_set (i := 2) sc__law_lot.nd rfl (Or.inl rfl) (pe_lst pa_nil))
      (pss_cons (ps_set (i := 3) sc__law_lot.nd rfl (Or.inl rfl) (pe_callTy call_int1 (by rfl) m_int (by decide +kernel) (pa_cons (pv 0) pa_nil)))
      (pss_cons (ps_for PassesOwn.never rfl (pi_range1 (by rfl) m_range (pa_cons (pv 1) pa_nil)) (pg_name (i := 4) sc__law_lot.nd rfl (Or.inl rfl))
      (Evl.pss_cut (ps_if (pt_cmpR op_eq (pe_op op_mod (pv 3) pe_int) pe_int (nomark _)) (pss_one (ps_expr (pe_bm PySem.F.plainAttrs_list PySem.F.slot_list_append PySem.F.type_list_append mt_append (pv 2) (pa_cons (pv 4) pa_nil)))) pss_nil)
      (pss_one (ps_set (i := 3) sc__law_lot.nd rfl (Or.inl rfl) (pe_op op_fdivW (pv 3) pe_int)))))
      (pss_one (ps_ret (pe_callTy call_tuple_of (by rfl) m_tuple (by decide +kernel) (pa_cons (pv 2) pa_nil))))))), ?_⟩
    refine ⟨Nat.zero_le _, fun o no => ?_⟩
    refine ⟨_, rfl, .inl ⟨b, rfl, ?_⟩⟩
    refine ⟨_, rfl, _, rfl, by omega, by omega, ?_⟩
    rw [Int.toNat_natCast]
    refine for_range (lo := 0) (n := m) (fun i σ H2 => ∃ (ds : List Int) (l : Int) (y : Option V), σ = [some (.int b), some (.int (m : Int)), some (.ref o), some (.int l), y] ∧ Same H H2 ∧ H2 o = some (.lst (ds.map V.int)) ∧ ds.length ≤ i) ⟨[], b, none, rfl, same_upd no, upd_same, Nat.le_refl _⟩ ?_ ?_
    · rintro i σ H2 hi ⟨ds, l, y, rfl, s, hD, ln⟩
      refine ⟨fun σ' H' => ∃ ds' : List Int, σ' = [some (.int b), some (.int (m : Int)), some (.ref o), some (.int l), some (.int (0 + (i : Int)))] ∧ Same H H' ∧ H' o = some (.lst (ds'.map V.int)) ∧ ds'.length ≤ i + 1, ?_, ?_⟩
      · refine ⟨_, rfl, _, _, rfl, rfl, (show (0 : Int) < 2 by decide), rfl, _, rfl, ite2 (fun _ => ?_) (fun _ => ?_)⟩
        · refine ⟨.ref o, rfl, .inl ⟨rfl, _, lst_l hD⟩, _, rfl, o, _, _, rfl, rfl, hD, ?_, ds ++ [0 + (i : Int)], rfl, same_mut s no, by rw [upd_same, ← snoc_int], ?_⟩
          · rw [List.length_map]
            exact small1000 (by omega)
          · rw [List.length_append]
            exact Nat.add_le_add_right ln 1
        · exact ⟨ds, rfl, s, hD, by omega⟩
      · rintro σ' H' ⟨ds', rfl, s', hD', ln'⟩
        exact ⟨_, rfl, _, _, rfl, rfl, w_div (by decide) (by decide), ds', _, _, rfl, s', hD', ln'⟩
    · rintro σ H2 ⟨ds, l, y, rfl, s, hD, ln⟩
      exact ⟨_, rfl, o, _, rfl, .inl ⟨lst_l hD, fun t nt => q _ t ds (s.trans (same_upd nt)) upd_same ln⟩⟩
def sp__law_shuffled (K : PySem.W.Frag) : Sp := fun vs H Q _ => ∃ (a b : Addr) (ps ns : List Int), vs = [.ref a, .ref b] ∧ H a = some (.lst (ps.map V.int)) ∧ H b = some (.lst (ns.map V.int)) ∧ ps.length ≤ 900 ∧ ns.length ≤ 900 ∧ ∀ H' p (fs : List Int), Same H H' → H' p = some (.lst (fs.map V.int)) → fs.length ≤ ps.length → Q (.ref p) H' 
theorem ok__law_shuffled {f : Addr} {fd : FuncData} {C_Wish C_BadWish C_BadNumber C_ShelfError : Addr} (F : Fun K "_law_shuffled" "_law_shuffled" s__law_shuffled f fd) (T : Txt K mg C_Wish C_BadWish C_BadNumber C_ShelfError) (m_int : mg "int" = none) (m_len : mg "len" = none) (m_list : mg "list" = none) : FnOk P w K mg base CX0 1 f fd ["_law_places", "_law_things"] (sp__law_shuffled K) := by
  refine F.ok sc__law_shuffled (fun vs H Q E h => ?_) (fun cdv A outer s H vs Q E hr h => ?_)
  · obtain ⟨a, b, ps, ns, rfl, _⟩ := h
    rfl
  · obtain ⟨a, b, ps, ns, rfl, ha, hb, pl, nl, q⟩ := h
    refine ⟨_, (pss_cons (ps_set (i := 2) sc__law_shuffled.nd rfl (Or.inl rfl) (pe_callTy call_list_of (by rfl) m_list (by decide +kernel) (pa_cons (pv 1) pa_nil)))
      (pss_cons (ps_set (i := 3) sc__law_shuffled.nd rfl (Or.inl rfl) (pe_lst pa_nil))
      (pss_cons (ps_for PassesOwn.never rfl (pi_list (pv 0)) (pg_name (i := 4) sc__law_shuffled.nd rfl (Or.inl rfl))
      (pss_one (ps_if (pt_cmpR op_gt (pe_callB call_len_seq (by rfl) m_len (by decide +kernel) (pa_cons (pv 2) pa_nil)) pe_int (nomark _)) (pss_one (ps_expr (pe_bm PySem.F.plainAttrs_list PySem.F.slot_list_append PySem.F.type_list_append mt_append (pv 3) (pa_cons (pe_bm PySem.F.plainAttrs_list PySem.F.slot_list_pop PySem.F.type_list_pop mt_popAt (pv 2) (pa_cons (pe_op op_mod (pe_callTy call_int1 (by rfl) m_int (by decide +kernel) (pa_cons (pv 4) pa_nil)) (pe_callB call_len_seq (by rfl) m_len (by decide +kernel) (pa_cons (pv 2) pa_nil))) pa_nil)) pa_nil)))) pss_nil)))
      (pss_one (ps_ret (pv 3)))))), ?_⟩
    refine ⟨_, rfl, b, _, rfl, .inl (lst_l hb), fun L nL => ?_⟩
    have s1 := same_upd (o := .lst (ns.map V.int)) nL
    refine ⟨Nat.zero_le _, fun o no => ?_⟩
    have no' : H o = none := s1.free no
    have oL : L ≠ o := fun z => by
      rw [← z, upd_same] at no
      cases no
    refine ⟨.ref a, rfl, a, rfl, ⟨_, lst_l ((s1.trans (same_upd no)) _ _ ha)⟩, for_list (K := K) (a := a) (xs := ps.map V.int) (fun i σ H2 => ∃ (ls fs : List Int) (y : Option V), σ = [some (.ref a), some (.ref b), some (.ref L), some (.ref o), y] ∧ Same H H2 ∧ H2 L = some (.lst (ls.map V.int)) ∧ H2 o = some (.lst (fs.map V.int)) ∧ ls.length ≤ 900 ∧ fs.length ≤ i)
      ⟨ns, [], none, rfl, s1.trans (same_upd no), (upd_ne oL).trans upd_same, upd_same, nl, Nat.le_refl _⟩ (fun i σ H2 _ ⟨_, _, _, _, s, _⟩ => lst_l (s _ _ ha)) ?_ ?_⟩
    · rintro i x σ H2 hi ⟨ls, fs, y, rfl, s, hL, ho, ll, lf⟩
      obtain ⟨v, rfl, hin⟩ := int_of hi
      have il := (List.getElem?_eq_some_iff.mp hin).1
      refine ⟨_, rfl, L, _, rfl, .inl (lst_l hL), _, _, rfl, rfl, _, rfl, ite2 (fun c => ?_) (fun _ => ⟨ls, fs, _, rfl, s, hL, ho, ll, by omega⟩)⟩
      have c := of_decide_eq_true c
      rw [List.length_map] at c
      have j0 := Int.emod_nonneg v (show (ls.length : Int) ≠ 0 by omega)
      have j1 := Int.emod_lt_of_pos v (show (0 : Int) < ls.length by omega)
      obtain ⟨k, hk⟩ : ∃ k : Nat, v % (ls.length : Int) = (k : Int) := ⟨(v % (ls.length : Int)).toNat, by omega⟩
      have kl : k < ls.length := by omega
      refine ⟨.ref o, rfl, .inl ⟨rfl, _, lst_l ho⟩, .ref L, rfl, .inl ⟨rfl, _, lst_l hL⟩, _, rfl, .inl ⟨v, rfl, .ref L, rfl, L, _, rfl, .inl (lst_l hL), ?_⟩⟩
      rw [List.length_map]
      refine ⟨_, _, rfl, rfl, by omega, ?_⟩
      refine ⟨L, _, _, k, .int ls[k], rfl, rfl, hL, by show -(2 ^ 63) ≤ v % (ls.length : Int); omega, by show v % (ls.length : Int) < 2 ^ 63; omega, ?_, int_at (List.getElem?_eq_getElem kl), ?_⟩
      · rw [List.length_map]
        show seqIndex? (v % (ls.length : Int)) ls.length = some k
        rw [hk]
        unfold seqIndex?
        simp
        omega
      have ho2 : upd H2 L (.lst ((ls.map V.int).eraseIdx k)) o = some (.lst (fs.map V.int)) := (upd_ne (Ne.symm oL)).trans ho
      refine ⟨o, _, _, rfl, rfl, ho2, ?_, ls.eraseIdx k, fs ++ [ls[k]], _, rfl, same_mut (same_mut s nL) no', ?_, ?_, ?_, ?_⟩
      · rw [List.length_map]
        exact small1000 (by omega)
      · rw [upd_ne oL, upd_same, map_erase]
      · rw [upd_same, ← snoc_int]
      · have := List.length_eraseIdx_le ls k
        omega
      · rw [List.length_append]
        exact Nat.add_le_add_right lf 1
    · rintro σ H2 ⟨ls, fs, y, rfl, s, hL, ho, ll, lf⟩
      rw [List.length_map] at lf
      exact ⟨_, rfl, q H2 o fs s ho lf⟩
def sp__law_is_int : Sp := fun vs H Q _ => ∃ v : Int, vs = [.int v] ∧ Q (.bl true) H
theorem ok__law_is_int {f : Addr} {fd : FuncData} {C_Wish C_BadWish C_BadNumber C_ShelfError : Addr} (F : Fun K "_law_is_int" "_law_is_int" s__law_is_int f fd) (T : Txt K mg C_Wish C_BadWish C_BadNumber C_ShelfError) (m_bool : mg "bool" = none) (m_int : mg "int" = none) (m_isinstance : mg "isinstance" = none) : FnOk P w K mg base CX0 1 f fd ["_law_x"] sp__law_is_int := by
  refine F.ok sc__law_is_int (fun vs H Q E h => ?_) (fun cdv A outer s H vs Q E hr h => ?_)
  · obtain ⟨v, rfl, _⟩ := h
    rfl
  · obtain ⟨v, rfl, q⟩ := h
    refine ⟨_, (pss_one (ps_ret (pe_and (pe_callB call_isi (by rfl) m_isinstance (by decide +kernel) (pa_cons (pv 0) (pa_cons (pe_bltn (v := .ty "int") (by rfl) m_int (by decide +kernel) rfl) pa_nil))) (pe_one (pe_not (pe_callB call_isi (by rfl) m_isinstance (by decide +kernel) (pa_cons (pv 0) (pa_cons (pe_bltn (v := .ty "bool") (by rfl) m_bool (by decide +kernel) rfl) pa_nil)))))))), ?_⟩
    exact ⟨_, rfl, .int v, .ty "int", _, _, true, rfl, .ty "int", .base (.int v), kit_ty kI, true, rfl, iteT ⟨_, rfl, .int v, .ty "bool", _, _, false, rfl, .ty "bool", .base (.int v), kit_ty kB, false, rfl, q⟩⟩
def sp__law_same_lot (K : PySem.W.Frag) : Sp := fun vs H Q _ => ∃ (a b : Addr) (ns : List Int), vs = [.ref a, .ref b] ∧ H a = some (.tup (ns.map V.int)) ∧ SqT K H b (ns.map V.int) ∧ ns.length ≤ 1000 ∧ Q (.bl true) H
theorem ok__law_same_lot {f : Addr} {fd : FuncData} {C_Wish C_BadWish C_BadNumber C_ShelfError : Addr} (F : Fun K "_law_same_lot" "_law_same_lot" s__law_same_lot f fd) (T : Txt K mg C_Wish C_BadWish C_BadNumber C_ShelfError) (m_isinstance : mg "isinstance" = none) (m_len : mg "len" = none) (m_range : mg "range" = none) (m_tuple : mg "tuple" = none) (c__law_is_int : Cal P w K mg base CX0 1 "_law_is_int" ["_law_x"] sp__law_is_int) : FnOk P w K mg base CX0 2 f fd ["_law_x", "_law_due"] (sp__law_same_lot K) := by
  refine F.ok sc__law_same_lot (fun vs H Q E h => ?_) (fun cdv A outer s H vs Q E hr h => ?_)
  · obtain ⟨a, b, ns, rfl, _⟩ := h
    rfl
  · obtain ⟨a, b, ns, rfl, hA, hB, hlen, q⟩ := h
    obtain ⟨f__law_is_int, fd__law_is_int, G__law_is_int, m__law_is_int, k__law_is_int, b__law_is_int⟩ := c__law_is_int
    refine ⟨_, (pss_cons (ps_if (PW.pt (pw_or (pt_not (pt_val (pe_callB call_isi (by rfl) m_isinstance (by decide +kernel) (pa_cons (pv 0) (pa_cons (pe_bltn (v := .ty "tuple") (by rfl) m_tuple (by decide +kernel) rfl) pa_nil))))) (pw_or1 (pt_cmpR op_ne (pe_callB call_len_seq (by rfl) m_len (by decide +kernel) (pa_cons (pv 0) pa_nil)) (pe_callB call_len_seq (by rfl) m_len (by decide +kernel) (pa_cons (pv 1) pa_nil)) (nomark _))))) (pss_one (ps_ret pe_bl)) pss_nil)
      (pss_cons (ps_for PassesOwn.never rfl (pi_range1 (by rfl) m_range (pa_cons (pe_callB call_len_seq (by rfl) m_len (by decide +kernel) (pa_cons (pv 1) pa_nil)) pa_nil)) (pg_name (i := 2) sc__law_same_lot.nd rfl (Or.inl rfl))
      (pss_one (ps_if (PW.pt (pw_or (pt_not (pt_val (pe_call G__law_is_int (hr.mono (by decide)) (by rfl) m__law_is_int k__law_is_int b__law_is_int .nil pass0 (pa_cons (pe_ix ix_tup (pv 0) (pv 2) (fun _ _ => rfl)) pa_nil)))) (pw_or1 (pt_cmpR op_ne (pe_ix ix_tup (pv 0) (pv 2) (fun _ _ => rfl)) (pe_ix ix_tup (pv 1) (pv 2) (fun _ _ => rfl)) (nomark _))))) (pss_one (ps_ret pe_bl)) pss_nil)))
      (pss_one (ps_ret pe_bl)))), ?_⟩
    have hA' : SqT K H a (ns.map V.int) := tup_t hA
    refine ⟨_, rfl, .ref a, .ty "tuple", _, _, true, rfl, .ty "tuple", .base (.tup hA), kit_ty kT, true, rfl, iteF ?_⟩
    refine ⟨.ref a, rfl, a, _, rfl, .inr hA', .ref b, rfl, b, _, rfl, .inr hB, rfl, _, rfl, iteNS rfl ?_⟩
    refine ⟨.ref b, rfl, b, _, rfl, .inr hB, _, rfl, ?_⟩
    rw [List.length_map]
    refine ⟨by omega, by omega, ?_⟩
    rw [Int.toNat_natCast]
    refine for_range (lo := 0) (n := ns.length) (fun i σ H2 => ∃ (y : Option V), σ = [some (.ref a), some (.ref b), y] ∧ H2 = H) ⟨none, rfl, rfl⟩ ?_ ?_
    · rintro i σ H2 hi ⟨y, rfl, rfl⟩
      have hin : (ns.map V.int)[i]? = some (.int ns[i]) := int_at (List.getElem?_eq_getElem hi)
      refine ⟨.ref a, rfl, .int (0 + (i : Int)), rfl, a, _, _, _, rfl, rfl, hA', at_of (Int.zero_add _) hin, ns[i], rfl, true, rfl, iteF ?_⟩
      refine ⟨.ref a, rfl, .int (0 + (i : Int)), rfl, a, _, _, _, rfl, rfl, hA', at_of (Int.zero_add _) hin, .ref b, rfl, .int (0 + (i : Int)), rfl, b, _, _, _, rfl, rfl, hB, at_of (Int.zero_add _) hin, rfl, _, rfl, iteNS rfl ?_⟩
      exact ⟨_, rfl, rfl⟩
    · rintro σ H2 ⟨y, rfl, rfl⟩
      exact q
def sp__law_made (C : Addr) : Sp := fun vs H Q _ => ∃ (t : Addr) (ns : List Int), vs = [.ref t] ∧ H t = some (.tup (ns.map V.int)) ∧ ns.length < 64 ∧ (¬ Good ns → ∀ H' u, Same H H' → H' u = some (.tup [.str "wish", .non, .bl false]) → Q (.ref u) H') ∧ (Good ns → ∀ H' u x, Same H H' → H' u = some (.tup [.str "made", .ref x]) → TAt C H' x ns → Q (.ref u) H')
theorem ok__law_made {f : Addr} {fd : FuncData} {C_Wish C_BadWish C_BadNumber C_ShelfError : Addr} (F : Fun K "_law_made" "_law_made" s__law_made f fd) (T : Txt K mg C_Wish C_BadWish C_BadNumber C_ShelfError) (m_isinstance : mg "isinstance" = none) (c_Wish___init__ : CalI P w K mg base (L2.CX P w) 3 C_Wish ["self", "things"] (sp_Wish___init__ C_Wish C_BadWish) []) : FnOk P w K mg base CX0 5 f fd ["_law_things"] (sp__law_made C_Wish) := by
  refine F.ok sc__law_made (fun vs H Q E h => ?_) (fun cdv A outer s H vs Q E hr h => ?_)
  · obtain ⟨t, ns, rfl, _⟩ := h
    rfl
  · obtain ⟨t, ns, rfl, ht, nl, k1, k2⟩ := h
    obtain ⟨f_Wish___init__, fd_Wish___init__, G_Wish___init__, M_Wish___init__, b_Wish___init__, ds_Wish___init__, vd_Wish___init__, bd_Wish___init__⟩ := c_Wish___init__
    refine ⟨_, (pss_one (ps_try_as (i := 1) (Wout := fun _ _ _ _ => False) rfl rfl sc__law_made.nd rfl rfl ⟨rfl, by decide, Or.inl T.g_BadWish⟩ takes0
      (fun W pn xe tk _ => (pss_one (ps_ret (pe_tup (pa_cons pe_str (pa_cons (pe_makeS M_Wish___init__ G_Wish___init__ (hr.mono (by decide)) (by rfl) T.g_Wish b_Wish___init__ .nil (fun σ => passAt tk σ) (pa_cons (pv 0) pa_nil)) pa_nil))))))
      (fun a oe cls d pn hz hf => (pss_one (ps_ret (pe_tup (pa_cons pe_str (pa_cons (pe_xf T.xf_BadWish T.n_BadWish_at hz hf (pv 1)) (pa_cons (pe_callB (call_isY (K := K) hz hf) (by rfl) m_isinstance (by decide +kernel) (pa_cons (pv 1) (pa_cons (pe_glob (v := .ref C_BadNumber) (by rfl) T.g_BadNumber rfl) pa_nil))) pa_nil))))))))), ?_⟩
    refine ⟨_, rfl, mk_wish ht nl (fun g H' d s hd => ?_) fun g x H' s tx => ?_⟩
    · have k1 := k1 g
      refine ⟨true, T.exm_BadWish_BadWish, fun _ a0 na => ?_, fun z => Bool.noConfusion z⟩
      exact ⟨.ref a0, rfl, rfl, rfl, d, _, _, rfl, hd, by rfl, .ref a0, rfl, C_BadWish, T.ec_BadWish, rfl, .inr ⟨d, _, rfl, hd⟩, .ref C_BadNumber, .ref C_BadNumber, false, rfl, fun _ r => r, T.kit_BadWish_BadNumber, (by show 3 ≤ sizeLine; decide), fun u nu => k1 _ u (s.trans (same_upd nu)) upd_same⟩
    · exact ⟨(by show 2 ≤ sizeLine; decide), fun u nu => k2 g _ u x (s.trans (same_upd nu)) upd_same (tx.same (same_upd nu))⟩
def sp__law_base : Sp := fun vs H Q _ => ∃ (t : Addr) (ns : List Int), vs = [.ref t] ∧ H t = some (.tup (ns.map V.int)) ∧ ns.length < 64 ∧ ¬ Good ns ∧ ∀ H', Same H H' → Q (.bl true) H' 
theorem ok__law_base {f : Addr} {fd : FuncData} {C_Wish C_BadWish C_BadNumber C_ShelfError : Addr} (F : Fun K "_law_base" "_law_base" s__law_base f fd) (T : Txt K mg C_Wish C_BadWish C_BadNumber C_ShelfError) (m_ValueError : mg "ValueError" = none) (m_isinstance : mg "isinstance" = none) (c_Wish___init__ : CalI P w K mg base (L2.CX P w) 3 C_Wish ["self", "things"] (sp_Wish___init__ C_Wish C_BadWish) []) : FnOk P w K mg base CX0 5 f fd ["_law_things"] sp__law_base := by
  refine F.ok sc__law_base (fun vs H Q E h => ?_) (fun cdv A outer s H vs Q E hr h => ?_)
  · obtain ⟨t, ns, rfl, _⟩ := h
    rfl
  · obtain ⟨t, ns, rfl, ht, nl, g, q⟩ := h
    obtain ⟨f_Wish___init__, fd_Wish___init__, G_Wish___init__, M_Wish___init__, b_Wish___init__, ds_Wish___init__, vd_Wish___init__, bd_Wish___init__⟩ := c_Wish___init__
    refine ⟨_, (pss_cons (ps_try_as (i := 1) (Wout := fun _ _ _ _ => False) rfl rfl sc__law_base.nd rfl rfl ⟨rfl, by decide, Or.inl T.g_ShelfError⟩ takes0
      (fun W pn xe tk _ => (pss_one (ps_expr (pe_makeS M_Wish___init__ G_Wish___init__ (hr.mono (by decide)) (by rfl) T.g_Wish b_Wish___init__ .nil (fun σ => passAt tk σ) (pa_cons (pv 0) pa_nil)))))
      (fun a oe cls d pn hz hf => (pss_one (ps_ret (pe_and (pe_callB (call_isY (K := K) hz hf) (by rfl) m_isinstance (by decide +kernel) (pa_cons (pv 1) (pa_cons (pe_bltn (v := .ty "ValueError") (by rfl) m_ValueError (by decide +kernel) rfl) pa_nil))) (pe_one (pe_callB (call_isY (K := K) hz hf) (by rfl) m_isinstance (by decide +kernel) (pa_cons (pv 1) (pa_cons (pe_glob (v := .ref C_BadWish) (by rfl) T.g_BadWish rfl) pa_nil)))))))))
      (pss_one (ps_ret pe_bl))), ?_⟩
    refine ⟨_, rfl, mk_wish ht nl (fun _ H' d s hd => ?_) fun g2 => absurd g2 g⟩
    refine ⟨true, T.exm_BadWish_ShelfError, fun _ a0 na => ?_, fun z => Bool.noConfusion z⟩
    refine ⟨.ref a0, rfl, C_BadWish, T.ec_BadWish, rfl, .inr ⟨d, _, rfl, hd⟩, .ty "ValueError", .type "ValueError", true, rfl, fun _ r => r, T.kit_BadWish_ValueError, true, rfl, iteT ?_⟩
    exact ⟨.ref a0, rfl, C_BadWish, T.ec_BadWish, rfl, .inr ⟨d, _, rfl, hd⟩, .ref C_BadWish, .ref C_BadWish, true, rfl, fun _ r => r, T.kit_BadWish_BadWish, q _ s⟩
def sp__law_is_good : Sp := fun vs H Q _ => ∃ (t : Addr) (ns : List Int), vs = [.ref t] ∧ H t = some (.tup (ns.map V.int)) ∧ ns.length < 64 ∧ ((Good ns → ∀ H', Same H H' → Q (.bl true) H') ∧ (¬ Good ns → ∀ H', Same H H' → Q (.bl false) H'))
theorem ok__law_is_good {f : Addr} {fd : FuncData} {C_Wish C_BadWish C_BadNumber C_ShelfError : Addr} (F : Fun K "_law_is_good" "_law_is_good" s__law_is_good f fd) (T : Txt K mg C_Wish C_BadWish C_BadNumber C_ShelfError) (m_len : mg "len" = none) (m_range : mg "range" = none) : FnOk P w K mg base CX0 1 f fd ["_law_things"] sp__law_is_good := by
  refine F.ok sc__law_is_good (fun vs H Q E h => ?_) (fun cdv A outer s H vs Q E hr h => ?_)
  · obtain ⟨t, ns, rfl, _⟩ := h
    rfl
  · obtain ⟨t, ns, rfl, ht, nl, qt, qf⟩ := h
    refine ⟨_, (pss_cons (ps_for PassesOwn.never rfl (pi_range1 (by rfl) m_range (pa_cons (pe_callB call_len_seq (by rfl) m_len (by decide +kernel) (pa_cons (pv 0) pa_nil)) pa_nil)) (pg_name (i := 1) sc__law_is_good.nd rfl (Or.inl rfl))
      (pss_one (ps_if (PW.pt (pw_or (pt_cmpR op_lt (pe_ix ix_tup (pv 0) (pv 1) (fun _ _ => rfl)) pe_int (nomark _)) (pw_or1 (pt_cmpR op_in_seq (pe_ix ix_tup (pv 0) (pv 1) (fun _ _ => rfl)) (pe_slice sl_tupA (pv 0) po_none (po_some (pv 1))) (by rfl))))) (pss_one (ps_ret pe_bl)) pss_nil)))
      (pss_one (ps_ret pe_bl))), ?_⟩
    refine ⟨_, rfl, t, _, rfl, .inr (tup_t ht), _, rfl, ?_⟩
    rw [List.length_map]
    refine ⟨by omega, by omega, ?_⟩
    rw [Int.toNat_natCast]
    refine for_range (lo := 0) (n := ns.length) (fun i σ H2 => ∃ (y : Option V), σ = [some (.ref t), y] ∧ Same H H2 ∧ Good (ns.take i)) ⟨none, rfl, Same.refl H, by rw [List.take_zero]; exact good_nil⟩ ?_ ?_
    · rintro i σ H2 hi ⟨y, rfl, s, g⟩
      have hin : ns[i]? = some ns[i] := List.getElem?_eq_getElem hi
      have ts : ns.take (i + 1) = ns.take i ++ [ns[i]] := by
        rw [List.take_add_one, hin]
        rfl
      have no : ¬ (0 ≤ ns[i] ∧ ns[i] ∉ ns.take i) → ¬ Good ns := fun h gg => h (good_snoc.mp (ts ▸ good_take gg (i + 1))).2
      have ht2 := s _ _ ht
      refine ⟨_, rfl, _, rfl, t, _, _, _, rfl, rfl, tup_t ht2, at_of (Int.zero_add _) (int_at hin), _, _, rfl, rfl, _, rfl, ite2 (fun c => ?_) (fun c => ?_)⟩
      · exact qf (no fun h => by have := of_decide_eq_true c; omega) H2 s
      · have c : ¬ ns[i] < 0 := fun z => c (decide_eq_true z)
        refine ⟨_, rfl, _, rfl, t, _, _, _, rfl, rfl, tup_t ht2, at_of (Int.zero_add _) (int_at hin), _, rfl, _, rfl, _, rfl, ?_⟩
        refine sl_any ht2 fun H3 u s3 hu => ?_
        rw [show cutV (ns.map V.int) none (some (0 + (i : Int))) = (ns.take i).map V.int by rw [Int.zero_add, cut_to, List.map_take]] at hu
        have s3 := s.trans s3
        refine ⟨u, _, rfl, .inr (tup_t hu), rfl, ints_flat _, _, rfl, ite2 (fun c2 => ?_) (fun c2 => ?_)⟩
        · exact qf (no fun h => h.2 (inV_int.mp c2)) H3 s3
        · refine ⟨_, rfl, s3, ?_⟩
          rw [ts]
          exact good_snoc.mpr ⟨g, by omega, fun h => c2 (inV_int.mpr h)⟩
    · rintro σ H2 ⟨y, rfl, s, g⟩
      rw [List.take_length] at g
      exact qt g H2 s
def sp__law_taken : Sp := fun vs H Q _ => ∃ (t l : Addr) (ns ls : List Int), vs = [.ref t, .ref l] ∧ H t = some (.tup (ns.map V.int)) ∧ H l = some (.tup (ls.map V.int)) ∧ Q (wishV ns ls) H
theorem ok__law_taken {f : Addr} {fd : FuncData} {C_Wish C_BadWish C_BadNumber C_ShelfError : Addr} (F : Fun K "_law_taken" "_law_taken" s__law_taken f fd) (T : Txt K mg C_Wish C_BadWish C_BadNumber C_ShelfError) : FnOk P w K mg base CX0 1 f fd ["_law_things", "_law_lot_here"] sp__law_taken := by
  refine F.ok sc__law_taken (fun vs H Q E h => ?_) (fun cdv A outer s H vs Q E hr h => ?_)
  · obtain ⟨t, l, ns, ls, rfl, _⟩ := h
    rfl
  · obtain ⟨t, l, ns, ls, rfl, ht, hl, q⟩ := h
    refine ⟨_, (pss_cons (ps_for PassesOwn.never rfl (pi_tup (pv 0)) (pg_name (i := 2) sc__law_taken.nd rfl (Or.inl rfl))
      (pss_one (ps_if (pt_cmpR op_in_seq (pv 2) (pv 1) (by rfl)) (pss_one (ps_ret (pv 2))) pss_nil)))
      (pss_one (ps_ret pe_non))), ?_⟩
    refine ⟨_, rfl, t, rfl, ⟨_, tup_t ht⟩, for_tup (K := K) (a := t) (xs := ns.map V.int) (fun i σ H2 => ∃ (y : Option V), σ = [some (.ref t), some (.ref l), y] ∧ H2 = H ∧ wishV ns ls = wishV (ns.drop i) ls) ⟨none, rfl, rfl, rfl⟩ (fun i σ H2 _ ⟨_, _, e, _⟩ => e ▸ tup_t ht) ?_ ?_⟩
    · rintro i x σ H2 hi ⟨y, rfl, rfl, hb⟩
      obtain ⟨n, rfl, hin⟩ := int_of hi
      rw [drop_cons hin] at hb
      refine ⟨_, rfl, _, rfl, ⟨l, _, rfl, .inr (tup_t hl), rfl, ints_flat ls, _, rfl, ite2 (fun c => ?_) (fun c => ?_)⟩⟩
      · have e : wishV ns ls = .int n := hb.trans (if_pos c)
        rw [e] at q
        exact ⟨_, rfl, q⟩
      · exact ⟨_, rfl, rfl, hb.trans (if_neg c)⟩
    · rintro σ H2 ⟨y, rfl, rfl, hb⟩
      rw [List.length_map, List.drop_length] at hb
      rw [show wishV ns ls = .non from hb] at q
      exact q
/-- lots that are asked -/
def LotsAt (H : Hp) (ts : List Addr) : Prop := ∀ t ∈ ts, ∃ ls : List Int, H t = some (.tup (ls.map V.int))
theorem LotsAt.same {H H' : Hp} {ts : List Addr} (s : Same H H') (h : LotsAt H ts) : LotsAt H' ts := fun t ht => by
  obtain ⟨ls, h⟩ := h t ht
  exact ⟨ls, s _ _ h⟩
def sp__law_right (C : Addr) : Sp := fun vs H Q _ => ∃ (p t a : Addr) (ns : List Int) (ts : List Addr), vs = [.ref p, .ref t, .ref a] ∧ TAt C H p ns ∧ H t = some (.tup (ns.map V.int)) ∧ ns.length < 64 ∧ H a = some (.lst (ts.map V.ref)) ∧ LotsAt H ts ∧ Q (.bl true) H
theorem ok__law_right {f : Addr} {fd : FuncData} {C_Wish C_BadWish C_BadNumber C_ShelfError : Addr} {fx_Wish___call__ : Addr} (F : Fun K "_law_right" "_law_right" s__law_right f fd) (T : Txt K mg C_Wish C_BadWish C_BadNumber C_ShelfError) (c_Wish___call__ : (CalM P w K mg base CX0 2 C_Wish "__call__" ["self", "lot"] (sp_Wish___call__ C_Wish) ∧ StX.CallO K C_Wish fx_Wish___call__ ∧ ∃ fd : FuncData, FnOk P w K mg base CX0 2 fx_Wish___call__ fd ["self", "lot"] (sp_Wish___call__ C_Wish) ∧ Binds K fd ["self", "lot"] [])) (c__law_is_int : Cal P w K mg base CX0 1 "_law_is_int" ["_law_x"] sp__law_is_int) (c__law_same_lot : Cal P w K mg base CX0 2 "_law_same_lot" ["_law_x", "_law_due"] (sp__law_same_lot K)) (c__law_taken : Cal P w K mg base CX0 1 "_law_taken" ["_law_things", "_law_lot_here"] sp__law_taken) : FnOk P w K mg base CX0 3 f fd ["_law_wish", "_law_things", "_law_asked"] (sp__law_right C_Wish) := by
  refine F.ok sc__law_right (fun vs H Q E h => ?_) (fun cdv A outer s H vs Q E hr h => ?_)
  · obtain ⟨p, t, a, ns, ts, rfl, _⟩ := h
    rfl
  · obtain ⟨p, t, a, ns, ts, rfl, tx, ht, nl, ha, la, q⟩ := h
    obtain ⟨_, O_Wish___call__, fd_Wish___call__, G_Wish___call__, b_Wish___call__⟩ := c_Wish___call__
    have R_Wish___call__ := (G_Wish___call__.raw b_Wish___call__ .nil).imp (sp' := (sp_Wish___call__ C_Wish)) fun vs H Q E h => by rw [List.append_nil]; exact h
    obtain ⟨f__law_is_int, fd__law_is_int, G__law_is_int, m__law_is_int, k__law_is_int, b__law_is_int⟩ := c__law_is_int
    obtain ⟨f__law_same_lot, fd__law_same_lot, G__law_same_lot, m__law_same_lot, k__law_same_lot, b__law_same_lot⟩ := c__law_same_lot
    obtain ⟨f__law_taken, fd__law_taken, G__law_taken, m__law_taken, k__law_taken, b__law_taken⟩ := c__law_taken
    refine ⟨_, (pss_cons (ps_if (pt_not (pt_val (pe_call G__law_same_lot (hr.mono (by decide)) (by rfl) m__law_same_lot k__law_same_lot b__law_same_lot .nil pass0 (pa_cons (pe_fld (pv 0) rfl) (pa_cons (pv 1) pa_nil))))) (pss_one (ps_ret pe_bl)) pss_nil)
      (pss_cons (ps_for PassesOwn.never rfl (pi_list (pv 2)) (pg_name (i := 3) sc__law_right.nd rfl (Or.inl rfl))
      (pss_cons (ps_set (i := 4) sc__law_right.nd rfl (Or.inl rfl) (StX.pe_callO (pv 0) O_Wish___call__ R_Wish___call__ (hr.mono (by decide)) pass0 (pa_cons (pv 3) pa_nil)))
      (pss_cons (ps_set (i := 5) sc__law_right.nd rfl (Or.inl rfl) (pe_call G__law_taken (hr.mono (by decide)) (by rfl) m__law_taken k__law_taken b__law_taken .nil pass0 (pa_cons (pv 1) (pa_cons (pv 3) pa_nil))))
      (pss_one (ps_if (pt_cmpR op_isN (pv 5) pe_non (nomark _)) (pss_one (ps_if (pt_cmpR op_notN (pv 4) pe_non (nomark _)) (pss_one (ps_ret pe_bl)) pss_nil)) (pss_one (ps_if (PW.pt (pw_or (pt_not (pt_val (pe_call G__law_is_int (hr.mono (by decide)) (by rfl) m__law_is_int k__law_is_int b__law_is_int .nil pass0 (pa_cons (pv 4) pa_nil)))) (pw_or1 (pt_cmpR op_ne (pv 4) (pv 5) (nomark _))))) (pss_one (ps_ret pe_bl)) pss_nil)))))))
      (pss_one (ps_ret (pe_call G__law_same_lot (hr.mono (by decide)) (by rfl) m__law_same_lot k__law_same_lot b__law_same_lot .nil pass0 (pa_cons (pe_fld (pv 0) rfl) (pa_cons (pv 1) pa_nil))))))), ?_⟩
    obtain ⟨dx, t0, hp, h0⟩ := id tx
    have fld : ∀ {P : Prop}, P → P := fun h => h
    refine ⟨_, rfl, p, C_Wish, dx, _, _, rfl, hp, T.cl_Wish, T.n_Wish_things, fT_things _, _, rfl, t0, t, ns, rfl, h0, tup_t ht, by omega, true, rfl, iteF ?_⟩
    refine ⟨_, rfl, a, rfl, ⟨_, lst_l ha⟩, for_list (K := K) (a := a) (xs := ts.map V.ref) (fun i σ H2 => ∃ (y1 y2 y3 : Option V), σ = [some (.ref p), some (.ref t), some (.ref a), y1, y2, y3] ∧ H2 = H) ⟨none, none, none, rfl, rfl⟩ (fun i σ H2 _ ⟨_, _, _, _, e⟩ => e ▸ lst_l ha) ?_ ?_⟩
    · rintro i x σ H2 hi ⟨y1, y2, y3, rfl, rfl⟩
      obtain ⟨l, hl, rfl⟩ : ∃ l, l ∈ ts ∧ V.ref l = x := by
        obtain ⟨z, h1, h2⟩ := List.mem_map.mp (List.mem_of_getElem? hi)
        exact ⟨z, h1, h2⟩
      obtain ⟨ls, hls⟩ := la l hl
      refine ⟨_, rfl, p, rfl, _, rfl, .inr ⟨dx, _, hp⟩, p, l, ns, ls, rfl, tx, hls, ?_⟩
      refine ⟨_, rfl, _, rfl, t, l, ns, ls, rfl, ht, hls, ?_⟩
      rcases wish_cases ns ls with e | ⟨n, e⟩
      · rw [e]
        refine ⟨_, rfl, rfl, _, rfl, iteD rfl ?_⟩
        exact ⟨_, rfl, rfl, _, rfl, iteNS rfl ⟨_, _, _, rfl, rfl⟩⟩
      · rw [e]
        refine ⟨_, rfl, rfl, _, rfl, iteDF (fun z => by cases z) ?_⟩
        refine ⟨_, rfl, n, rfl, true, rfl, iteF ?_⟩
        exact ⟨_, rfl, _, rfl, rfl, _, rfl, iteNS rfl ⟨_, _, _, rfl, rfl⟩⟩
    · rintro σ H2 ⟨y1, y2, y3, rfl, rfl⟩
      exact ⟨_, rfl, p, C_Wish, dx, _, _, rfl, hp, T.cl_Wish, T.n_Wish_things, fT_things _, _, rfl, t0, t, ns, rfl, h0, tup_t ht, by omega, q⟩
def sp_law (K : PySem.W.Frag) : Sp := fun vs H Q _ => ∃ (a : Addr) (ns : List Int), vs = [.ref a] ∧ SqL K H a (ns.map V.int) ∧ ns.length ≤ 63 ∧ ∀ H', Q (.bl true) H'

theorem ok_law {f : Addr} {fd : FuncData} {C_Wish C_BadWish C_BadNumber C_ShelfError : Addr} (F : Fun K "law" "law" s_law f fd) (T : Txt K mg C_Wish C_BadWish C_BadNumber C_ShelfError) (m_range : mg "range" = none) (m_tuple : mg "tuple" = none) (c__law_cell : Cal P w K mg base CX0 1 "_law_cell" ["_law_script", "_law_place"] (sp__law_cell K)) (c__law_draws : Cal P w K mg base CX0 1 "_law_draws" ["_law_cell_here", "_law_sizes"] (sp__law_draws K)) (c__law_lot : Cal P w K mg base CX0 1 "_law_lot" ["_law_bits", "_law_many"] sp__law_lot) (c__law_shuffled : Cal P w K mg base CX0 1 "_law_shuffled" ["_law_places", "_law_things"] (sp__law_shuffled K)) (c__law_made : Cal P w K mg base CX0 5 "_law_made" ["_law_things"] (sp__law_made C_Wish)) (c__law_base : Cal P w K mg base CX0 5 "_law_base" ["_law_things"] sp__law_base) (c__law_is_good : Cal P w K mg base CX0 1 "_law_is_good" ["_law_things"] sp__law_is_good) (c__law_right : Cal P w K mg base CX0 3 "_law_right" ["_law_wish", "_law_things", "_law_asked"] (sp__law_right C_Wish)) : FnOk P w K mg base CX0 6 f fd ["_law_script"] (sp_law K) := by
  refine F.ok sc_law (fun vs H Q E h => ?_) (fun cdv A outer s H vs Q E hr h => ?_)
  · obtain ⟨a, ns, rfl, _⟩ := h
    rfl
  · obtain ⟨a, ns, rfl, hS, hlen, q⟩ := h
    obtain ⟨f__law_cell, fd__law_cell, G__law_cell, m__law_cell, k__law_cell, b__law_cell⟩ := c__law_cell
    obtain ⟨f__law_draws, fd__law_draws, G__law_draws, m__law_draws, k__law_draws, b__law_draws⟩ := c__law_draws
    obtain ⟨f__law_lot, fd__law_lot, G__law_lot, m__law_lot, k__law_lot, b__law_lot⟩ := c__law_lot
    obtain ⟨f__law_shuffled, fd__law_shuffled, G__law_shuffled, m__law_shuffled, k__law_shuffled, b__law_shuffled⟩ := c__law_shuffled
    obtain ⟨f__law_made, fd__law_made, G__law_made, m__law_made, k__law_made, b__law_made⟩ := c__law_made
    obtain ⟨f__law_base, fd__law_base, G__law_base, m__law_base, k__law_base, b__law_base⟩ := c__law_base
    obtain ⟨f__law_is_good, fd__law_is_good, G__law_is_good, m__law_is_good, k__law_is_good, b__law_is_good⟩ := c__law_is_good
    obtain ⟨f__law_right, fd__law_right, G__law_right, m__law_right, k__law_right, b__law_right⟩ := c__law_right
    refine ⟨_, (pss_cons (ps_set (i := 1) sc_law.nd rfl (Or.inl rfl) (pe_call G__law_draws (hr.mono (by decide)) (by rfl) m__law_draws k__law_draws b__law_draws .nil pass0 (pa_cons (pe_call G__law_cell (hr.mono (by decide)) (by rfl) m__law_cell k__law_cell b__law_cell .nil pass0 (pa_cons (pv 0) (pa_cons pe_int pa_nil))) (pa_cons (pe_op op_cat (pe_lst (pa_cons pe_int pa_nil)) (pe_lc (own := [("_law_k", 16)]) (g := gName 16) (tt := tYes) rfl sc_law.nd (pi_range1 (by rfl) m_range (pa_cons pe_int pa_nil)) (blkOk_by (own := [("_law_k", 16)]) (N := ["_law_script", "_law_first", "_law_second", "_law_digits", "_law_numbers", "_law_scale", "_law_things", "_law_thing", "_law_lot_here", "_law_others", "_law_made_here", "_law_kept", "_law_turned", "_law_backward", "_law_digit", "_law_number", "_law_k"]) (sc := defScope s_law) (by decide +kernel)) (fun _ _ _ _ _ => (pg_name (i := 16) sc_law.nd rfl (Or.inl rfl))) (fun _ _ _ _ _ => pts_nil) (fun _ _ _ _ _ => pe_int))) pa_nil))))
      (pss_cons (ps_set (i := 2) sc_law.nd rfl (Or.inl rfl) (pe_call G__law_draws (hr.mono (by decide)) (by rfl) m__law_draws k__law_draws b__law_draws .nil pass0 (pa_cons (pe_call G__law_cell (hr.mono (by decide)) (by rfl) m__law_cell k__law_cell b__law_cell .nil pass0 (pa_cons (pv 0) (pa_cons pe_int pa_nil))) (pa_cons (pe_lst (pa_cons pe_int (pa_cons pe_int (pa_cons pe_int pa_nil)))) pa_nil))))
      (pss_cons (ps_set (i := 3) sc_law.nd rfl (Or.inl rfl) (pe_slice sl_list (pv 1) (po_some pe_int) (po_some (pe_op op_add pe_int (pe_ix ix_list (pv 1) pe_int (fun _ _ => rfl))))))
      (pss_cons (ps_setLc (i := 4) (own := [("_law_digit", 14)]) (g := gName 14) (tt := tYes) rfl sc_law.nd rfl rfl (sw_true rfl rfl rfl (by decide +kernel)) (pi_list (pv 3)) (blkOk_by (own := [("_law_digit", 14)]) (N := ["_law_script", "_law_first", "_law_second", "_law_digits", "_law_numbers", "_law_scale", "_law_things", "_law_thing", "_law_lot_here", "_law_others", "_law_made_here", "_law_kept", "_law_turned", "_law_backward", "_law_digit", "_law_number", "_law_k"]) (sc := defScope s_law) (by decide +kernel)) (fun _ _ _ _ _ => (pg_name (i := 14) sc_law.nd rfl (Or.inl rfl))) (fun _ _ _ _ _ => pts_nil) (fun _ _ _ _ _ => (pe_op op_sub (pv 14) pe_int)))
      (Evl.pss_cut (ps_if (pt_cmpR op_eq (pe_ix ix_list (pv 2) pe_int (fun _ _ => rfl)) pe_int (nomark _)) (pss_one (ps_set (i := 4) sc_law.nd rfl (Or.inl rfl) (pe_call G__law_shuffled (hr.mono (by decide)) (by rfl) m__law_shuffled k__law_shuffled b__law_shuffled .nil pass0 (pa_cons (pv 3) (pa_cons (pe_lc (own := [("_law_k", 16)]) (g := gName 16) (tt := tYes) rfl sc_law.nd (pi_range1 (by rfl) m_range (pa_cons pe_int pa_nil)) (blkOk_by (own := [("_law_k", 16)]) (N := ["_law_script", "_law_first", "_law_second", "_law_digits", "_law_numbers", "_law_scale", "_law_things", "_law_thing", "_law_lot_here", "_law_others", "_law_made_here", "_law_kept", "_law_turned", "_law_backward", "_law_digit", "_law_number", "_law_k"]) (sc := defScope s_law) (by decide +kernel)) (fun _ _ _ _ _ => (pg_name (i := 16) sc_law.nd rfl (Or.inl rfl))) (fun _ _ _ _ _ => pts_nil) (fun _ _ _ _ _ => (pv 16))) pa_nil))))) pss_nil)
      (pss_cons (ps_set (i := 5) sc_law.nd rfl (Or.inr rfl) pe_int)
      (Evl.pss_cut (ps_if (pt_cmpR op_eq (pe_ix ix_list (pv 2) pe_int (fun _ _ => rfl)) pe_int (nomark _)) (pss_one (ps_set (i := 5) sc_law.nd rfl (Or.inr rfl) (pe_op op_pow pe_int pe_int))) pss_nil)
      (pss_cons (ps_set (i := 6) sc_law.nd rfl (Or.inl rfl) (pe_callTy call_tuple_of (by rfl) m_tuple (by decide +kernel) (pa_cons (pe_lc (own := [("_law_number", 15)]) (g := gName 15) (tt := tYes) rfl sc_law.nd (pi_list (pv 4)) (blkOk_by (own := [("_law_number", 15)]) (N := ["_law_script", "_law_first", "_law_second", "_law_digits", "_law_numbers", "_law_scale", "_law_things", "_law_thing", "_law_lot_here", "_law_others", "_law_made_here", "_law_kept", "_law_turned", "_law_backward", "_law_digit", "_law_number", "_law_k"]) (sc := defScope s_law) (by decide +kernel)) (fun _ _ _ _ _ => (pg_name (i := 15) sc_law.nd rfl (Or.inl rfl))) (fun _ _ _ _ _ => pts_nil) (fun _ _ _ _ _ => (pe_op op_mul (pv 15) (pv 5)))) pa_nil)))
      (pss_cons (ps_set (i := 8) sc_law.nd rfl (Or.inr rfl) (pe_callTy call_tuple_of (by rfl) m_tuple (by decide +kernel) (pa_cons (pe_lc (own := [("_law_thing", 7)]) (g := gName 7) (tt := tYes) rfl sc_law.nd (pi_tup (pe_call G__law_lot (hr.mono (by decide)) (by rfl) m__law_lot k__law_lot b__law_lot .nil pass0 (pa_cons (pe_ix ix_list (pv 2) pe_int (fun _ _ => rfl)) (pa_cons pe_int pa_nil)))) (blkOk_by (own := [("_law_thing", 7)]) (N := ["_law_script", "_law_first", "_law_second", "_law_digits", "_law_numbers", "_law_scale", "_law_things", "_law_thing", "_law_lot_here", "_law_others", "_law_made_here", "_law_kept", "_law_turned", "_law_backward", "_law_digit", "_law_number", "_law_k"]) (sc := defScope s_law) (by decide +kernel)) (fun _ _ _ _ _ => (pg_name (i := 7) sc_law.nd rfl (Or.inl rfl))) (fun _ _ _ _ _ => pts_nil) (fun _ _ _ _ _ => (pe_op op_mul (pv 7) (pv 5)))) pa_nil)))
      (pss_cons (ps_set (i := 9) sc_law.nd rfl (Or.inl rfl) (pe_callTy call_tuple_of (by rfl) m_tuple (by decide +kernel) (pa_cons (pe_lc (own := [("_law_thing", 7)]) (g := gName 7) rfl sc_law.nd (pi_range1 (by rfl) m_range (pa_cons pe_int pa_nil)) (blkOk_by (own := [("_law_thing", 7)]) (N := ["_law_script", "_law_first", "_law_second", "_law_digits", "_law_numbers", "_law_scale", "_law_things", "_law_thing", "_law_lot_here", "_law_others", "_law_made_here", "_law_kept", "_law_turned", "_law_backward", "_law_digit", "_law_number", "_law_k"]) (sc := defScope s_law) (by decide +kernel)) (fun _ _ _ _ _ => (pg_name (i := 7) sc_law.nd rfl (Or.inl rfl))) (fun _ _ _ _ _ => (pts_one (pt_cmpR (r := rIn K true) op_notIn_seq (pe_op op_mul (pv 7) (pv 5)) (pv 8) (by rfl)))) (fun _ _ _ _ _ => (pe_op op_mul (pv 7) (pv 5)))) pa_nil)))
      (Evl.pss_cut (ps_set (i := 10) sc_law.nd rfl (Or.inl rfl) (pe_call G__law_made (hr.mono (by decide)) (by rfl) m__law_made k__law_made b__law_made .nil pass0 (pa_cons (pv 6) pa_nil)))
      (Evl.pss_cut (ps_if (pt_not (pt_val (pe_call G__law_is_good (hr.mono (by decide)) (by rfl) m__law_is_good k__law_is_good b__law_is_good .nil pass0 (pa_cons (pv 6) pa_nil)))) (pss_cons (ps_if (PW.pt (pw_or (pt_cmpR op_ne (pe_ix ix_tup (pv 10) pe_int (fun _ _ => rfl)) pe_str (nomark _)) (pw_or (pt_cmpR op_notN (pe_ix ix_tup (pv 10) pe_int (fun _ _ => rfl)) pe_non (nomark _)) (pw_or (pt_cmpR op_notBl (pe_ix ix_tup (pv 10) pe_int (fun _ _ => rfl)) pe_bl (nomark _)) (pw_or1 (pt_not (pt_val (pe_call G__law_base (hr.mono (by decide)) (by rfl) m__law_base k__law_base b__law_base .nil pass0 (pa_cons (pv 6) pa_nil))))))))) (pss_one (ps_ret pe_bl)) pss_nil)
      (pss_cons (ps_set (i := 11) sc_law.nd rfl (Or.inl rfl) (pe_lst pa_nil))
      (pss_cons (ps_for PassesOwn.never rfl (pi_tup (pv 6)) (pg_name (i := 7) sc_law.nd rfl (Or.inl rfl))
      (pss_one (ps_if (PW.pt (pw_and (pt_cmpR op_ge (pv 7) pe_int (nomark _)) (pw_and1 (pt_cmpR op_notIn_seq (pv 7) (pv 11) (by rfl))))) (pss_one (ps_expr (pe_bm PySem.F.plainAttrs_list PySem.F.slot_list_append PySem.F.type_list_append mt_append (pv 11) (pa_cons (pv 7) pa_nil)))) pss_nil)))
      (pss_cons (ps_set (i := 6) sc_law.nd rfl (Or.inl rfl) (pe_callTy call_tuple_of (by rfl) m_tuple (by decide +kernel) (pa_cons (pv 11) pa_nil)))
      (pss_one (ps_set (i := 10) sc_law.nd rfl (Or.inl rfl) (pe_call G__law_made (hr.mono (by decide)) (by rfl) m__law_made k__law_made b__law_made .nil pass0 (pa_cons (pv 6) pa_nil)))))))) pss_nil)
      (pss_cons (ps_set (i := 12) sc_law.nd rfl (Or.inl rfl) (pe_revT (pv 6)))
      (pss_cons (ps_set (i := 13) sc_law.nd rfl (Or.inl rfl) (pe_call G__law_made (hr.mono (by decide)) (by rfl) m__law_made k__law_made b__law_made .nil pass0 (pa_cons (pv 12) pa_nil)))
      (pss_cons (ps_if (PW.pt (pw_or (pt_cmpR op_ne (pe_ix ix_tup (pv 10) pe_int (fun _ _ => rfl)) pe_str (nomark _)) (pw_or1 (pt_cmpR op_ne (pe_ix ix_tup (pv 13) pe_int (fun _ _ => rfl)) pe_str (nomark _))))) (pss_one (ps_ret pe_bl)) pss_nil)
      (pss_cons (ps_if (PW.pt (pw_or (pt_not (pt_val (pe_call G__law_right (hr.mono (by decide)) (by rfl) m__law_right k__law_right b__law_right .nil pass0 (pa_cons (pe_ix ix_tup (pv 10) pe_int (fun _ _ => rfl)) (pa_cons (pv 6) (pa_cons (pe_lst (pa_cons (pv 8) (pa_cons (pv 9) pa_nil))) pa_nil)))))) (pw_or1 (pt_not (pt_val (pe_call G__law_right (hr.mono (by decide)) (by rfl) m__law_right k__law_right b__law_right .nil pass0 (pa_cons (pe_ix ix_tup (pv 13) pe_int (fun _ _ => rfl)) (pa_cons (pv 12) (pa_cons (pe_lst (pa_cons (pv 8) (pa_cons (pv 9) (pa_cons (pe_tup pa_nil) pa_nil)))) pa_nil))))))))) (pss_one (ps_ret pe_bl)) pss_nil)
      (pss_one (ps_ret (pe_call G__law_right (hr.mono (by decide)) (by rfl) m__law_right k__law_right b__law_right .nil pass0 (pa_cons (pe_ix ix_tup (pv 10) pe_int (fun _ _ => rfl)) (pa_cons (pv 6) (pa_cons (pe_lst (pa_cons (pv 8) (pa_cons (pe_tup pa_nil) pa_nil))) pa_nil)))))))))))))))))))))), ?_⟩
    refine ⟨.ref a, rfl, a, ns, 0, rfl, hS, fun c1 => ⟨(by show 1 ≤ sizeLine; decide), fun p1 np1 => ?_⟩⟩
    have a1 := same_upd (o := .lst [V.int 8]) np1
    refine ⟨7, rfl, by decide, by decide, fun D2 nD2 => lc_range (lo := 0) (n := 7) (fun i H2 => Same (upd H p1 (.lst [V.int 8])) H2 ∧ H2 D2 = some (.lst ((List.replicate i (10 : Int)).map V.int))) ⟨same_upd nD2, upd_same⟩ ?_ ?_⟩
    · rintro i H2 hi ⟨s, hD⟩
      refine ⟨rfl, ?_⟩
      refine lc_yes ?_
      refine iteT ?_
      refine ⟨_, hD, ?_, same_mut s nD2, ?_⟩
      · rw [List.length_map, List.length_replicate]
        exact small1000 (by omega)
      · rw [upd_same, List.replicate_succ', ← snoc_int]
    rintro H2 ⟨s2, h2⟩

    refine ⟨p1, D2, _, _, rfl, rfl, s2 _ _ upd_same, h2, (by show 1 + 7 ≤ sizeLine; decide), fun p3 np3 => ?_⟩
    have a3 := (a1.trans s2).trans (same_upd (o := .lst ([8, 10, 10, 10, 10, 10, 10, 10].map V.int)) np3)
    refine ⟨c1, p3, [8, 10, 10, 10, 10, 10, 10, 10], rfl, lst_l upd_same, by decide, by decide, fun ds H4 d1 w s4 nd hd1 => ?_⟩
    have s4 := a3.trans s4
    obtain ⟨x0, r0, rfl, l0, u0, w⟩ := w.c
    have lr0 : r0.length = 7 := w.len
    refine ⟨.ref a, rfl, a, ns, 1, rfl, s4.seq hS, fun c2 => ?_⟩
    refine ⟨(by show 3 ≤ sizeLine; decide), fun p5 np5 => ?_⟩
    refine ⟨c2, p5, [512, 2, 3], rfl, lst_l upd_same, by decide, by decide, fun ds5 H6 d2 wd2 s6 nd2 hd2 => ?_⟩
    have s6 : Same H4 H6 := (same_upd np5).trans s6
    obtain ⟨v0, rv0, rfl, lv0, uv0, wd2⟩ := wd2.c
    obtain ⟨v1, rv1, rfl, lv1, uv1, wd2⟩ := wd2.c
    obtain ⟨v2, rv2, rfl, lv2, uv2, wd2⟩ := wd2.c
    cases wd2.n
    have Ld2 : SqL K H6 d2 ([v0, v1, v2].map V.int) := lst_l hd2

    have L1 : SqL K H6 d1 ((x0 :: r0).map V.int) := lst_l (s6 _ _ hd1)
    refine ⟨.ref d1, rfl, 1, rfl, .ref d1, rfl, d1, _, _, _, rfl, rfl, L1, atI_nat (j := 0) rfl, _, _, rfl, rfl, _, rfl, d1, _, rfl, L1, fun dg ndg => ?_⟩
    obtain ⟨ms, em, _⟩ := cut_map (x0 :: r0) (some 1) (some (1 + x0))
    have lm : ms.length ≤ 8 := by
      have h := cutV_length ((x0 :: r0).map V.int) (some 1) (some (1 + x0))
      rw [em, List.length_map, List.length_map, List.length_cons] at h
      omega
    have s7 := same_upd (o := .lst (cutV ((x0 :: r0).map V.int) (some 1) (some (1 + x0)))) ndg
    have h7 : upd H6 dg (.lst (cutV ((x0 :: r0).map V.int) (some 1) (some (1 + x0)))) dg = some (.lst (ms.map V.int)) := upd_same.trans (congrArg (fun q => some (HO.lst q)) em)
    generalize upd H6 dg (.lst (cutV ((x0 :: r0).map V.int) (some 1) (some (1 + x0)))) = H7 at s7 h7 ⊢
    refine ⟨.ref dg, rfl, dg, rfl, ⟨_, lst_l h7⟩, fun E nE => lc_list (K := K) (a := dg) (xs := ms.map V.int) (fun i H8 => Same H7 H8 ∧ H8 E = some (.lst (((ms.take i).map fun n => n - 1).map V.int))) ⟨same_upd nE, upd_same⟩ (fun i H8 _ ⟨s, _⟩ => lst_l (s _ _ h7)) ?_ ?_⟩
    · rintro i x H8 hi ⟨s, hE⟩
      obtain ⟨n, rfl, hin⟩ := int_of hi
      refine ⟨rfl, ?_⟩
      refine lc_yes ?_
      refine iteT ?_
      refine ⟨_, rfl, _, _, rfl, rfl, _, hE, ?_, same_mut s nE, ?_⟩
      · rw [List.length_map, List.length_map, List.length_take]
        exact small1000 (by omega)
      · rw [upd_same, List.take_add_one, hin, List.map_append, List.map_append]
        rfl
    rintro H8 ⟨s8, hE⟩
    rw [List.length_map, List.take_length] at hE
    have s48 := (s6.trans s7).trans s8
    have s08 := s4.trans s48
    have M8 : SqL K H8 d2 ([v0, v1, v2].map V.int) := (s7.trans s8).seq Ld2
    have hdg8 := s8 _ _ h7
    refine ⟨fun σ' H' => ∃ (F : Addr) (fs : List Int), Same H8 H' ∧ H' F = some (.lst (fs.map V.int)) ∧ fs.length ≤ 8 ∧ σ' = [some (.ref a), some (.ref d1), some (.ref d2), some (.ref dg), some (.ref F), none, none, none, none, none, none, none, none, none, none, none, none], ?_, ?_⟩
    · refine ⟨.ref d2, rfl, d2, _, _, _, rfl, rfl, M8, atI_nat (j := 1) rfl, rfl, _, rfl, ite2 (fun _ => ?_) (fun _ => ⟨E, _, Same.refl _, hE, by rw [List.length_map]; omega, rfl⟩)⟩
      refine ⟨_, rfl, 9, rfl, by decide, by decide, fun D nD => lc_range (lo := 0) (n := 9) (fun i H3 => ∃ os : List Int, Same H8 H3 ∧ H3 D = some (.lst (os.map V.int)) ∧ os.length = i) ⟨[], same_upd nD, upd_same, rfl⟩ ?_ ?_⟩
      · rintro i H3 hi ⟨os, s, hD, lt⟩
        refine ⟨rfl, ?_⟩
        refine lc_yes ?_
        refine iteT ?_
        refine ⟨_, rfl, _, hD, ?_, os ++ [0 + (i : Int)], same_mut s nD, by rw [upd_same, ← snoc_int], ?_⟩
        · rw [List.length_map]
          exact small1000 (by omega)
        · rw [List.length_append, lt]
          rfl
      rintro H3 ⟨os, s, hD, lt⟩
      refine ⟨dg, D, ms, os, rfl, s _ _ hdg8, hD, by omega, by omega, fun H9 F fs s9 hF lf => ?_⟩
      exact ⟨F, fs, s.trans s9, hF, by omega, rfl⟩
    rintro σ' H9 ⟨F, fs, s9, hF, lf, rfl⟩
    refine ⟨fun σ' H' => ∃ sc : Int, 0 < sc ∧ sc ≤ 10 ^ 17 ∧ H9 = H' ∧ σ' = [some (.ref a), some (.ref d1), some (.ref d2), some (.ref dg), some (.ref F), some (.int sc), none, none, none, none, none, none, none, none, none, none, none], ?_, ?_⟩
    · have M9 : SqL K H9 d2 ([v0, v1, v2].map V.int) := s9.seq M8
      refine ⟨.ref d2, rfl, d2, _, _, _, rfl, rfl, M9, atI_nat (j := 2) rfl, rfl, _, rfl, ite2 (fun _ => ?_) (fun _ => ⟨1, by decide, by decide, rfl, rfl⟩)⟩
      exact ⟨10, 17, rfl, rfl, ⟨by decide, by decide, by decide⟩, 10 ^ 17, by decide, by decide, rfl, rfl⟩
    rintro σ' H10 ⟨sc, sc0, sc1, rfl, rfl⟩
    refine ⟨_, rfl, F, rfl, ⟨_, lst_l hF⟩, fun E2 nE2 => lc_list (K := K) (a := F) (xs := fs.map V.int) (fun i H3 => Same H9 H3 ∧ H3 E2 = some (.lst (((fs.take i).map fun n => n * sc).map V.int))) ⟨same_upd nE2, upd_same⟩ (fun i H3 _ ⟨s, _⟩ => lst_l (s _ _ hF)) ?_ ?_⟩
    · rintro i x H3 hi ⟨s, hE⟩
      obtain ⟨n, rfl, hin⟩ := int_of hi
      refine ⟨rfl, ?_⟩
      refine lc_yes ?_
      refine iteT ?_
      refine ⟨_, rfl, _, rfl, _, _, rfl, rfl, .inr ⟨by omega, by omega⟩, _, hE, ?_, same_mut s nE2, ?_⟩
      · rw [List.length_map, List.length_map, List.length_take]
        exact small1000 (by omega)
      · rw [upd_same, List.take_add_one, hin, List.map_append, List.map_append]
        rfl
    rintro H11 ⟨s11, hE2⟩
    rw [List.length_map, List.take_length] at hE2
    obtain ⟨ts, ets⟩ : ∃ ts, ts = fs.map fun n => n * sc := ⟨_, rfl⟩
    have lts : ts.length ≤ 8 := by rw [ets, List.length_map]; exact lf
    rw [← ets] at hE2
    refine ⟨E2, _, rfl, .inl ⟨lst_l hE2, fun tt ntt => ?_⟩⟩
    have s12 := same_upd (o := .tup (ts.map V.int)) ntt
    have htt : upd H11 tt (.tup (ts.map V.int)) tt = some (.tup (ts.map V.int)) := upd_same
    have s912 := s11.trans s12
    generalize upd H11 tt (.tup (ts.map V.int)) = H12 at s12 htt s912 ⊢
    have M12 : SqL K H12 d2 ([v0, v1, v2].map V.int) := (s9.trans s912).seq M8
    refine ⟨.ref d2, rfl, d2, _, _, _, rfl, rfl, M12, atI_nat (j := 0) rfl, v0, 9, rfl, by omega, fun H13 l0' ls s13 hl0 ln => ?_⟩
    refine ⟨l0', rfl, ⟨_, tup_t hl0⟩, fun E3 nE3 => lc_tup (K := K) (a := l0') (xs := ls.map V.int) (fun i H3 => Same H13 H3 ∧ H3 E3 = some (.lst (((ls.take i).map fun n => n * sc).map V.int))) ⟨same_upd nE3, upd_same⟩ (fun i H3 _ ⟨s, _⟩ => tup_t (s _ _ hl0)) ?_ ?_⟩
    · rintro i x H3 hi ⟨s, hE⟩
      obtain ⟨n, rfl, hin⟩ := int_of hi
      refine ⟨rfl, ?_⟩
      refine lc_yes ?_
      refine iteT ?_
      refine ⟨_, rfl, _, rfl, _, _, rfl, rfl, .inr ⟨by omega, by omega⟩, _, hE, ?_, same_mut s nE3, ?_⟩
      · rw [List.length_map, List.length_map, List.length_take]
        exact small1000 (by omega)
      · rw [upd_same, List.take_add_one, hin, List.map_append, List.map_append]
        rfl
    rintro H14 ⟨s14, hE3⟩
    refine ⟨E3, _, rfl, .inl ⟨lst_l hE3, fun lt nlt => ?_⟩⟩
    rw [List.length_map, List.take_length]
    obtain ⟨lz, elz⟩ : ∃ lz, lz = ls.map fun n => n * sc := ⟨_, rfl⟩
    rw [← elz]
    have s15 := same_upd (o := .tup (lz.map V.int)) nlt
    have hlt : upd H14 lt (.tup (lz.map V.int)) lt = some (.tup (lz.map V.int)) := upd_same
    have s1215 := (s13.trans s14).trans s15
    generalize upd H14 lt (.tup (lz.map V.int)) = H15 at s15 hlt s1215 ⊢
    refine ⟨9, rfl, by decide, by decide, fun D nD => lc_range (lo := 0) (n := 9) (fun i H3 => ∃ os : List Int, Same H15 H3 ∧ H3 D = some (.lst (os.map V.int)) ∧ os.length ≤ i) ⟨[], same_upd nD, upd_same, Nat.le_refl _⟩ ?_ ?_⟩
    · rintro i H3 hi ⟨os, s, hD, lt'⟩
      refine ⟨rfl, ?_⟩
      refine ⟨_, rfl, _, rfl, _, _, rfl, rfl, .inr ⟨by omega, by omega⟩, _, rfl, lt, _, rfl, .inr (tup_t (s _ _ hlt)), rfl, ints_flat lz, _, rfl, ite2 (fun _ => ?_) (fun _ => ?_)⟩
      · refine ⟨_, rfl, _, rfl, _, _, rfl, rfl, .inr ⟨by omega, by omega⟩, _, hD, ?_, os ++ [(0 + (i : Int)) * sc], same_mut s nD, by rw [upd_same, ← snoc_int], ?_⟩
        · rw [List.length_map]
          exact small1000 (by omega)
        · rw [List.length_append]
          exact Nat.add_le_add_right lt' 1
      · exact ⟨os, s, hD, by omega⟩
    rintro H16 ⟨os, s16, hD, lo⟩
    refine ⟨D, _, rfl, .inl ⟨lst_l hD, fun o no => ?_⟩⟩
    have s17 := same_upd (o := .tup (os.map V.int)) no
    have ho : upd H16 o (.tup (os.map V.int)) o = some (.tup (os.map V.int)) := upd_same
    have s1217 := s1215.trans (s16.trans s17)
    have hlt17 := s17 _ _ (s16 _ _ hlt)
    have htt17 := s1217 _ _ htt
    generalize upd H16 o (.tup (os.map V.int)) = H17 at s17 ho s1217 hlt17 htt17 ⊢
    refine ⟨fun σ' H' => ∃ u : Addr, Same H17 H' ∧ ((¬ Good ts ∧ H' u = some (.tup [.str "wish", .non, .bl false])) ∨ (Good ts ∧ ∃ x, H' u = some (.tup [.str "made", .ref x]) ∧ TAt C_Wish H' x ts)) ∧ σ' = [some (.ref a), some (.ref d1), some (.ref d2), some (.ref dg), some (.ref F), some (.int sc), some (.ref tt), none, some (.ref lt), some (.ref o), some (.ref u), none, none, none, none, none, none], ?_, ?_⟩
    · exact ⟨_, rfl, tt, ts, rfl, htt17, by omega, fun g H' u s hu => ⟨u, s, .inl ⟨g, hu⟩, rfl⟩, fun g H' u x s hu tx => ⟨u, s, .inr ⟨g, x, hu, tx⟩, rfl⟩⟩
    rintro σ' H18 ⟨u, s18, tell, rfl⟩
    have htt18 := s18 _ _ htt17
    refine ⟨fun σ' H' => ∃ (u2 t2 x : Addr) (zs : List Int) (y1 y2 : Option V), Same H18 H' ∧ Good zs ∧ zs.length < 64 ∧ H' t2 = some (.tup (zs.map V.int)) ∧ H' u2 = some (.tup [.str "made", .ref x]) ∧ TAt C_Wish H' x zs ∧ σ' = [some (.ref a), some (.ref d1), some (.ref d2), some (.ref dg), some (.ref F), some (.int sc), some (.ref t2), y2, some (.ref lt), some (.ref o), some (.ref u2), y1, none, none, none, none, none], ?_, ?_⟩
    · refine ⟨_, rfl, tt, ts, rfl, htt18, by omega, fun g H19 s19 => ?_, fun g H19 s19 => ?_⟩
      · rcases tell with ⟨ng, _⟩ | ⟨_, x, hu, tx⟩
        · exact absurd g ng
        · exact ⟨true, rfl, iteF ⟨u, tt, x, ts, none, none, s19, g, by omega, s19 _ _ htt18, s19 _ _ hu, tx.same s19, rfl⟩⟩
      · rcases tell with ⟨_, hu⟩ | ⟨g2, _⟩
        · have hu' := s19 _ _ hu
          refine ⟨false, rfl, iteT ?_⟩
          refine ⟨.ref u, rfl, u, _, _, _, rfl, rfl, tup_t hu', atI_nat (j := 0) rfl, rfl, _, rfl, iteNS rfl ?_⟩
          refine ⟨.ref u, rfl, u, _, _, _, rfl, rfl, tup_t hu', atI_nat (j := 1) rfl, rfl, _, rfl, iteNS rfl ?_⟩
          refine ⟨.ref u, rfl, u, _, _, _, rfl, rfl, tup_t hu', atI_nat (j := 2) rfl, false, false, rfl, rfl, _, rfl, iteNS rfl ?_⟩
          refine ⟨_, rfl, tt, ts, rfl, s19 _ _ htt18, by omega, g, fun H20 s20 => ⟨true, rfl, iteF ?_⟩⟩
          refine ⟨Nat.zero_le _, fun kp nkp => ?_⟩
          have s1820 := s19.trans s20
          have s21 := same_upd (o := .lst []) nkp
          refine ⟨_, rfl, tt, rfl, ⟨_, tup_t (s21 _ _ (s1820 _ _ htt18))⟩, for_tup (K := K) (a := tt) (xs := ts.map V.int) (fun i σ H3 => ∃ (ks : List Int) (y : Option V), σ = [some (.ref a), some (.ref d1), some (.ref d2), some (.ref dg), some (.ref F), some (.int sc), some (.ref tt), y, some (.ref lt), some (.ref o), some (.ref u), some (.ref kp), none, none, none, none, none] ∧ Same H20 H3 ∧ H3 kp = some (.lst (ks.map V.int)) ∧ Good ks ∧ ks.length ≤ i) ⟨[], none, rfl, s21, upd_same, good_nil, Nat.le_refl _⟩ (fun i σ H3 _ ⟨_, _, _, s, _⟩ => tup_t (s _ _ (s1820 _ _ htt18))) ?_ ?_⟩
          · rintro i x σ H3 hi ⟨ks, y, rfl, s, hk, gk, lk⟩
            obtain ⟨n, rfl, hin⟩ := int_of hi
            have il := (List.getElem?_eq_some_iff.mp hin).1
            refine ⟨_, rfl, _, _, rfl, rfl, _, rfl, ite2 (fun c => ⟨_, rfl, _, rfl, ⟨kp, _, rfl, .inl (lst_l hk), rfl, ints_flat ks, _, rfl, ?_⟩⟩) (fun _ => ⟨ks, _, rfl, s, hk, gk, by omega⟩)⟩
            have c : n ≥ 0 := of_decide_eq_true c
            cases e : inV (.int n) (ks.map V.int) with
            | true => exact iteF ⟨ks, _, rfl, s, hk, gk, by omega⟩
            | false =>
              refine iteT ?_
              refine ⟨.ref kp, rfl, .inl ⟨rfl, _, lst_l hk⟩, _, rfl, kp, _, _, rfl, rfl, hk, ?_, ks ++ [n], _, rfl, same_mut s nkp, by rw [upd_same, ← snoc_int], good_snoc.mpr ⟨gk, c, fun h => ?_⟩, ?_⟩
              · rw [List.length_map]
                exact small1000 (by omega)
              · rw [inV_int.mpr h] at e
                cases e
              · rw [List.length_append]
                exact Nat.add_le_add_right lk 1
          · rintro σ H3 ⟨ks, y, rfl, s, hk, gk, lk⟩
            rw [List.length_map] at lk
            refine ⟨_, rfl, kp, _, rfl, .inl ⟨lst_l hk, fun t2 nt2 => ?_⟩⟩
            have s22 := same_upd (o := .tup (ks.map V.int)) nt2
            have ht2 : upd H3 t2 (.tup (ks.map V.int)) t2 = some (.tup (ks.map V.int)) := upd_same
            refine ⟨_, rfl, t2, ks, rfl, ht2, by omega, fun ng => absurd gk ng, fun _ H4 u2 x s23 hu2 tx => ?_⟩
            exact ⟨u2, t2, x, ks, _, _, ((s1820.trans s).trans s22).trans s23, gk, by omega, s23 _ _ ht2, hu2, tx, rfl⟩
        · exact absurd g2 g
    rintro σ' H24 ⟨u2, t2, x, zs, y1, y2, s24, gz, lz', ht2, hu2, tx, rfl⟩
    refine ⟨_, rfl, t2, _, rfl, tup_t ht2, fun tr ntr => ?_⟩
    have s25 := same_upd (o := .tup (zs.map V.int).reverse) ntr
    have htr : upd H24 tr (.tup (zs.map V.int).reverse) tr = some (.tup (zs.reverse.map V.int)) := upd_same.trans (by rw [List.map_reverse])
    refine ⟨_, rfl, tr, zs.reverse, rfl, htr, by rw [List.length_reverse]; omega, fun ng => absurd (good_rev gz) ng, fun _ H26 u3 x3 s26 hu3 tx3 => ?_⟩
    have s2426 := s25.trans s26
    have hu2' := s2426 _ _ hu2
    have tx' := tx.same s2426
    have ht2' := s2426 _ _ ht2
    have htr' := s26 _ _ htr
    refine ⟨.ref u2, rfl, u2, _, _, _, rfl, rfl, tup_t hu2', atI_nat (j := 0) rfl, rfl, _, rfl, iteNS rfl ?_⟩
    refine ⟨.ref u3, rfl, u3, _, _, _, rfl, rfl, tup_t hu3, atI_nat (j := 0) rfl, rfl, _, rfl, iteNS rfl ?_⟩
    have s1726 := (s18.trans s24).trans s2426
    have hl26 := s1726 _ _ hlt17
    have ho26 := s1726 _ _ ho
    refine ⟨.ref u2, rfl, u2, _, _, _, rfl, rfl, tup_t hu2', atI_nat (j := 1) rfl, _, rfl, _, rfl, _, rfl, (by show 2 ≤ sizeLine; decide), fun q1 nq1 => ?_⟩
    have r1 := same_upd (o := .lst [V.ref lt, V.ref o]) nq1
    refine ⟨x, t2, q1, zs, [lt, o], rfl, tx'.same r1, r1 _ _ ht2', lz', upd_same, ?_, true, rfl, iteF ?_⟩
    · intro t' ht'
      rcases List.mem_cons.mp ht' with rfl | ht'
      · exact ⟨lz, r1 _ _ hl26⟩
      · rw [List.mem_singleton.mp ht']
        exact ⟨os, r1 _ _ ho26⟩
    refine ⟨.ref u3, rfl, u3, _, _, _, rfl, rfl, tup_t (r1 _ _ hu3), atI_nat (j := 1) rfl, _, rfl, _, rfl, _, rfl, Nat.zero_le _, fun e1 ne1 => ⟨(by show 3 ≤ sizeLine; decide), fun q2 nq2 => ?_⟩⟩
    have r2 := same_upd (o := .tup []) ne1
    have r3 := same_upd (o := .lst [V.ref lt, V.ref o, V.ref e1]) nq2
    have r13 := (r1.trans r2).trans r3
    refine ⟨x3, tr, q2, zs.reverse, [lt, o, e1], rfl, tx3.same r13, r13 _ _ htr', by rw [List.length_reverse]; exact lz', upd_same, ?_, true, rfl, iteF ?_⟩
    · intro t' ht'
      rcases List.mem_cons.mp ht' with rfl | ht'
      · exact ⟨lz, r13 _ _ hl26⟩
      rcases List.mem_cons.mp ht' with rfl | ht'
      · exact ⟨os, r13 _ _ ho26⟩
      · rw [List.mem_singleton.mp ht']
        exact ⟨[], r3 _ _ upd_same⟩
    refine ⟨.ref u2, rfl, u2, _, _, _, rfl, rfl, tup_t (r13 _ _ hu2'), atI_nat (j := 1) rfl, _, rfl, _, rfl, Nat.zero_le _, fun e2 ne2 => ⟨(by show 2 ≤ sizeLine; decide), fun q4 nq4 => ?_⟩⟩
    have r4 := same_upd (o := .tup []) ne2
    have r5 := same_upd (o := .lst [V.ref lt, V.ref e2]) nq4
    have r15 := (r13.trans r4).trans r5
    refine ⟨x, t2, q4, zs, [lt, e2], rfl, tx'.same r15, r15 _ _ ht2', lz', upd_same, ?_, q _⟩
    intro t' ht'
    rcases List.mem_cons.mp ht' with rfl | ht'
    · exact ⟨lz, r15 _ _ hl26⟩
    · rw [List.mem_singleton.mp ht']
      exact ⟨[], r5 _ _ upd_same⟩
end
/-! ### what the top has written; the law's own head -/
theorem all_mk {l : PySem.W.OpenLaw} {w : World} {K : PySem.W.Frag} {h : Heap} {mg : Str → Option Value} {fa f1 f2 f3 f4 f5 f6 f7 f8 f9 f10 f11 f12 f13 f14 f15 f16 f17 C_Wish C_BadWish C_BadNumber C_ShelfError : Addr} (X : K.In h) (G : h.Ns mainGlobals mg) (hfa : mg "law" = some (.ref fa))
    {od1 an1 od2 an2 od3 an3 od4 an4 od5 an5 od6 an6 od7 an7 od8 an8 od9 an9 od10 an10 od11 an11 od12 an12 od13 an13 od14 an14 od15 an15 od16 an16 od17 an17 : Option Addr} {sl1 sl2 sl3 sl4 sl5 sl6 sl7 sl8 sl9 sl10 sl11 sl12 sl13 sl14 sl15 sl16 sl17 : Array (Option Value)} {oc1 kV1 dc1 pm1 cd1 ct1 oc2 kV2 dc2 pm2 cd2 ct2 oc3 kV3 dc3 pm3 cd3 ct3 oc4 kV4 dc4 pm4 cd4 ct4 oc5 kV5 dc5 pm5 cd5 ct5 oc6 kV6 dc6 pm6 cd6 ct6 oc7 kV7 dc7 pm7 cd7 ct7 oc8 kV8 dc8 pm8 cd8 ct8 oc9 kV9 dc9 pm9 cd9 ct9 oc10 kV10 dc10 pm10 cd10 ct10 oc11 kV11 dc11 pm11 cd11 ct11 oc12 kV12 dc12 pm12 cd12 ct12 oc13 kV13 dc13 pm13 cd13 ct13 oc14 kV14 dc14 pm14 cd14 ct14 oc15 kV15 dc15 pm15 cd15 ct15 oc16 kV16 dc16 pm16 cd16 ct16 oc17 kV17 dc17 pm17 cd17 ct17 : Value}
    (a_Wish : PySem.W.nsIn K mainGlobals "Wish" = some (some (.ref C_Wish)))
    (kc_Wish : PySem.W.keepIn K (.ref C_Wish) = true)
    (hd_Wish : PySem.W.hasDictIn K C_Wish = true)
    (ha_Wish : PySem.W.findIn K (.ref C_Wish) "__class__" = some (some (.builtin "object.__class__")))
    (hm_Wish : PySem.W.mroIn K C_Wish (.type "object") = some true)
    (pg_Wish : PySem.W.plainGet K C_Wish Str.empty = true)
    (po_Wish : PySem.W.plainOver K C_Wish = true)
    (sa_Wish : PySem.W.findIn K (.ref C_Wish) "__setattr__" = some (some (.builtin "object.__setattr__")))
    (mk_Wish : PySem.W.makesIn K C_Wish = true)
    (n_Wish_things : PySem.W.findIn K (.ref C_Wish) "things" = some none)
    (a_BadWish : PySem.W.nsIn K mainGlobals "BadWish" = some (some (.ref C_BadWish)))
    (kc_BadWish : PySem.W.keepIn K (.ref C_BadWish) = true)
    (hd_BadWish : PySem.W.hasDictIn K C_BadWish = true)
    (ha_BadWish : PySem.W.findIn K (.ref C_BadWish) "__class__" = some (some (.builtin "object.__class__")))
    (hm_BadWish : PySem.W.mroIn K C_BadWish (.type "object") = some true)
    (b_BadWish : PySem.W.subIn K (.ref C_BadWish) (.type "BaseException") = some true)
    (t_BadWish : PySem.W.typeIn K (.ref C_BadWish) = some (.type "type"))
    (ga_BadWish : PySem.W.findIn K (.ref C_BadWish) "__getattribute__" = some (some (.builtin "BaseException.__getattribute__")))
    (gg_BadWish : PySem.W.findIn K (.ref C_BadWish) "__getattr__" = some none)
    (ol_BadWish : K.lookup C_BadWish = some (excClassObj nm_BadWish q_BadWish C_BadWish N_BadWish bs_BadWish bm_BadWish true sn_BadWish sub_BadWish ab_BadWish col_BadWish dd_BadWish k0_BadWish k1_BadWish k2_BadWish k3_BadWish k5_BadWish "ValueError.__new__"))
    (or_BadWish : PySem.HandSPX.refsVE bm_BadWish = true)
    (sa_BadWish : PySem.W.findIn K (.ref C_BadWish) "__setattr__" = some (some (.builtin "object.__setattr__")))
    (n_BadWish_at : PySem.W.findIn K (.ref C_BadWish) "at" = some none)
    (a_BadNumber : PySem.W.nsIn K mainGlobals "BadNumber" = some (some (.ref C_BadNumber)))
    (kc_BadNumber : PySem.W.keepIn K (.ref C_BadNumber) = true)
    (hd_BadNumber : PySem.W.hasDictIn K C_BadNumber = true)
    (ha_BadNumber : PySem.W.findIn K (.ref C_BadNumber) "__class__" = some (some (.builtin "object.__class__")))
    (hm_BadNumber : PySem.W.mroIn K C_BadNumber (.type "object") = some true)
    (b_BadNumber : PySem.W.subIn K (.ref C_BadNumber) (.type "BaseException") = some true)
    (t_BadNumber : PySem.W.typeIn K (.ref C_BadNumber) = some (.type "type"))
    (ga_BadNumber : PySem.W.findIn K (.ref C_BadNumber) "__getattribute__" = some (some (.builtin "BaseException.__getattribute__")))
    (gg_BadNumber : PySem.W.findIn K (.ref C_BadNumber) "__getattr__" = some none)
    (ol_BadNumber : K.lookup C_BadNumber = some (excClassObj nm_BadNumber q_BadNumber C_BadNumber N_BadNumber bs_BadNumber bm_BadNumber true sn_BadNumber sub_BadNumber ab_BadNumber col_BadNumber dd_BadNumber k0_BadNumber k1_BadNumber k2_BadNumber k3_BadNumber k5_BadNumber "ValueError.__new__"))
    (or_BadNumber : PySem.HandSPX.refsVE bm_BadNumber = true)
    (sa_BadNumber : PySem.W.findIn K (.ref C_BadNumber) "__setattr__" = some (some (.builtin "object.__setattr__")))
    (n_BadNumber_what : PySem.W.findIn K (.ref C_BadNumber) "what" = some none)
    (n_BadNumber_at : PySem.W.findIn K (.ref C_BadNumber) "at" = some none)
    (a_ShelfError : PySem.W.nsIn K mainGlobals "ShelfError" = some (some (.ref C_ShelfError)))
    (kc_ShelfError : PySem.W.keepIn K (.ref C_ShelfError) = true)
    (hd_ShelfError : PySem.W.hasDictIn K C_ShelfError = true)
    (ha_ShelfError : PySem.W.findIn K (.ref C_ShelfError) "__class__" = some (some (.builtin "object.__class__")))
    (hm_ShelfError : PySem.W.mroIn K C_ShelfError (.type "object") = some true)
    (b_ShelfError : PySem.W.subIn K (.ref C_ShelfError) (.type "BaseException") = some true)
    (t_ShelfError : PySem.W.typeIn K (.ref C_ShelfError) = some (.type "type"))
    (ga_ShelfError : PySem.W.findIn K (.ref C_ShelfError) "__getattribute__" = some (some (.builtin "BaseException.__getattribute__")))
    (gg_ShelfError : PySem.W.findIn K (.ref C_ShelfError) "__getattr__" = some none)
    (hnc : PySem.W.specialIn K (.builtin "object.__class__") "__get__" = some (some (.builtin "getset_descriptor.__get__")))
    (htk : PySem.W.takesIn K (.builtin "object.__class__") = some true)
    (sub_BadWish_BadWish : PySem.W.subIn K (.ref C_BadWish) (.ref C_BadWish) = some true)
    (sub_BadWish_ShelfError : PySem.W.subIn K (.ref C_BadWish) (.ref C_ShelfError) = some true)
    (kit_BadWish_BadNumber : PySem.W.kitOne K (.ref C_BadWish) (.ref C_BadNumber) = some false)
    (kit_BadWish_ValueError : PySem.W.kitOne K (.ref C_BadWish) (.type "ValueError") = some true)
    (kit_BadWish_BadWish : PySem.W.kitOne K (.ref C_BadWish) (.ref C_BadWish) = some true)
    (a1 : PySem.W.findIn K (.ref C_BadWish) "__init__" = some (some (.ref f1))) (i1 : PySem.W.isFn K (.ref f1) = true)
    (l1 : K.lookup f1 = some ⟨oc1, od1, .func (PySem.W.fnOf "__init__" "BadWish.__init__" (defArgs s_BadWish___init__) (defBody s_BadWish___init__) (defScope s_BadWish___init__) .none kV1 dc1 pm1 an1 cd1 ct1), sl1⟩)
    (c1 : PySem.W.codeIn K cd1 "BadWish.__init__" = true) (k1 : PySem.W.keepIn K (.ref f1) = true)
    (a2 : PySem.W.nsIn K mainGlobals "_can_be_wished" = some (some (.ref f2)))
    (l2 : K.lookup f2 = some ⟨oc2, od2, .func (PySem.W.fnOf "_can_be_wished" "_can_be_wished" (defArgs s__can_be_wished) (defBody s__can_be_wished) (defScope s__can_be_wished) .none kV2 dc2 pm2 an2 cd2 ct2), sl2⟩)
    (c2 : PySem.W.codeIn K cd2 "_can_be_wished" = true) (k2 : PySem.W.keepIn K (.ref f2) = true)
    (a3 : PySem.W.nsIn K mainGlobals "_first_wish" = some (some (.ref f3)))
    (l3 : K.lookup f3 = some ⟨oc3, od3, .func (PySem.W.fnOf "_first_wish" "_first_wish" (defArgs s__first_wish) (defBody s__first_wish) (defScope s__first_wish) .none kV3 dc3 pm3 an3 cd3 ct3), sl3⟩)
    (c3 : PySem.W.codeIn K cd3 "_first_wish" = true) (k3 : PySem.W.keepIn K (.ref f3) = true)
    (a4 : PySem.W.findIn K (.ref C_Wish) "__init__" = some (some (.ref f4))) (i4 : PySem.W.isFn K (.ref f4) = true)
    (l4 : K.lookup f4 = some ⟨oc4, od4, .func (PySem.W.fnOf "__init__" "Wish.__init__" (defArgs s_Wish___init__) (defBody s_Wish___init__) (defScope s_Wish___init__) .none kV4 dc4 pm4 an4 cd4 ct4), sl4⟩)
    (c4 : PySem.W.codeIn K cd4 "Wish.__init__" = true) (k4 : PySem.W.keepIn K (.ref f4) = true)
    (a5 : PySem.W.findIn K (.ref C_Wish) "__call__" = some (some (.ref f5))) (i5 : PySem.W.isFn K (.ref f5) = true)
    (fi5 : PySem.W.fnIn K f5 = true)
    (l5 : K.lookup f5 = some ⟨oc5, od5, .func (PySem.W.fnOf "__call__" "Wish.__call__" (defArgs s_Wish___call__) (defBody s_Wish___call__) (defScope s_Wish___call__) .none kV5 dc5 pm5 an5 cd5 ct5), sl5⟩)
    (c5 : PySem.W.codeIn K cd5 "Wish.__call__" = true) (k5 : PySem.W.keepIn K (.ref f5) = true)
    (a6 : PySem.W.nsIn K mainGlobals "_law_cell" = some (some (.ref f6)))
    (l6 : K.lookup f6 = some ⟨oc6, od6, .func (PySem.W.fnOf "_law_cell" "_law_cell" (defArgs s__law_cell) (defBody s__law_cell) (defScope s__law_cell) .none kV6 dc6 pm6 an6 cd6 ct6), sl6⟩)
    (c6 : PySem.W.codeIn K cd6 "_law_cell" = true) (k6 : PySem.W.keepIn K (.ref f6) = true)
    (a7 : PySem.W.nsIn K mainGlobals "_law_draws" = some (some (.ref f7)))
    (l7 : K.lookup f7 = some ⟨oc7, od7, .func (PySem.W.fnOf "_law_draws" "_law_draws" (defArgs s__law_draws) (defBody s__law_draws) (defScope s__law_draws) .none kV7 dc7 pm7 an7 cd7 ct7), sl7⟩)
    (c7 : PySem.W.codeIn K cd7 "_law_draws" = true) (k7 : PySem.W.keepIn K (.ref f7) = true)
    (a8 : PySem.W.nsIn K mainGlobals "_law_lot" = some (some (.ref f8)))
    (l8 : K.lookup f8 = some ⟨oc8, od8, .func (PySem.W.fnOf "_law_lot" "_law_lot" (defArgs s__law_lot) (defBody s__law_lot) (defScope s__law_lot) .none kV8 dc8 pm8 an8 cd8 ct8), sl8⟩)
    (c8 : PySem.W.codeIn K cd8 "_law_lot" = true) (k8 : PySem.W.keepIn K (.ref f8) = true)
    (a9 : PySem.W.nsIn K mainGlobals "_law_shuffled" = some (some (.ref f9)))
    (l9 : K.lookup f9 = some ⟨oc9, od9, .func (PySem.W.fnOf "_law_shuffled" "_law_shuffled" (defArgs s__law_shuffled) (defBody s__law_shuffled) (defScope s__law_shuffled) .none kV9 dc9 pm9 an9 cd9 ct9), sl9⟩)
    (c9 : PySem.W.codeIn K cd9 "_law_shuffled" = true) (k9 : PySem.W.keepIn K (.ref f9) = true)
    (a10 : PySem.W.nsIn K mainGlobals "_law_is_int" = some (some (.ref f10)))
    (l10 : K.lookup f10 = some ⟨oc10, od10, .func (PySem.W.fnOf "_law_is_int" "_law_is_int" (defArgs s__law_is_int) (defBody s__law_is_int) (defScope s__law_is_int) .none kV10 dc10 pm10 an10 cd10 ct10), sl10⟩)
    (c10 : PySem.W.codeIn K cd10 "_law_is_int" = true) (k10 : PySem.W.keepIn K (.ref f10) = true)
    (a11 : PySem.W.nsIn K mainGlobals "_law_same_lot" = some (some (.ref f11)))
    (l11 : K.lookup f11 = some ⟨oc11, od11, .func (PySem.W.fnOf "_law_same_lot" "_law_same_lot" (defArgs s__law_same_lot) (defBody s__law_same_lot) (defScope s__law_same_lot) .none kV11 dc11 pm11 an11 cd11 ct11), sl11⟩)
    (c11 : PySem.W.codeIn K cd11 "_law_same_lot" = true) (k11 : PySem.W.keepIn K (.ref f11) = true)
    (a12 : PySem.W.nsIn K mainGlobals "_law_made" = some (some (.ref f12)))
    (l12 : K.lookup f12 = some ⟨oc12, od12, .func (PySem.W.fnOf "_law_made" "_law_made" (defArgs s__law_made) (defBody s__law_made) (defScope s__law_made) .none kV12 dc12 pm12 an12 cd12 ct12), sl12⟩)
    (c12 : PySem.W.codeIn K cd12 "_law_made" = true) (k12 : PySem.W.keepIn K (.ref f12) = true)
    (a13 : PySem.W.nsIn K mainGlobals "_law_base" = some (some (.ref f13)))
    (l13 : K.lookup f13 = some ⟨oc13, od13, .func (PySem.W.fnOf "_law_base" "_law_base" (defArgs s__law_base) (defBody s__law_base) (defScope s__law_base) .none kV13 dc13 pm13 an13 cd13 ct13), sl13⟩)
    (c13 : PySem.W.codeIn K cd13 "_law_base" = true) (k13 : PySem.W.keepIn K (.ref f13) = true)
    (a14 : PySem.W.nsIn K mainGlobals "_law_is_good" = some (some (.ref f14)))
    (l14 : K.lookup f14 = some ⟨oc14, od14, .func (PySem.W.fnOf "_law_is_good" "_law_is_good" (defArgs s__law_is_good) (defBody s__law_is_good) (defScope s__law_is_good) .none kV14 dc14 pm14 an14 cd14 ct14), sl14⟩)
    (c14 : PySem.W.codeIn K cd14 "_law_is_good" = true) (k14 : PySem.W.keepIn K (.ref f14) = true)
    (a15 : PySem.W.nsIn K mainGlobals "_law_taken" = some (some (.ref f15)))
    (l15 : K.lookup f15 = some ⟨oc15, od15, .func (PySem.W.fnOf "_law_taken" "_law_taken" (defArgs s__law_taken) (defBody s__law_taken) (defScope s__law_taken) .none kV15 dc15 pm15 an15 cd15 ct15), sl15⟩)
    (c15 : PySem.W.codeIn K cd15 "_law_taken" = true) (k15 : PySem.W.keepIn K (.ref f15) = true)
    (a16 : PySem.W.nsIn K mainGlobals "_law_right" = some (some (.ref f16)))
    (l16 : K.lookup f16 = some ⟨oc16, od16, .func (PySem.W.fnOf "_law_right" "_law_right" (defArgs s__law_right) (defBody s__law_right) (defScope s__law_right) .none kV16 dc16 pm16 an16 cd16 ct16), sl16⟩)
    (c16 : PySem.W.codeIn K cd16 "_law_right" = true) (k16 : PySem.W.keepIn K (.ref f16) = true)
    (a17 : PySem.W.nsIn K mainGlobals "law" = some (some (.ref f17)))
    (l17 : K.lookup f17 = some ⟨oc17, od17, .func (PySem.W.fnOf "law" "law" (defArgs s_law) (defBody s_law) (defScope s_law) .none kV17 dc17 pm17 an17 cd17 ct17), sl17⟩)
    (c17 : PySem.W.codeIn K cd17 "law" = true) (k17 : PySem.W.keepIn K (.ref f17) = true)
    (z_ValueError : PySem.W.nsIn K mainGlobals "ValueError" = some none)
    (z_all : PySem.W.nsIn K mainGlobals "all" = some none)
    (z_bool : PySem.W.nsIn K mainGlobals "bool" = some none)
    (z_int : PySem.W.nsIn K mainGlobals "int" = some none)
    (z_isinstance : PySem.W.nsIn K mainGlobals "isinstance" = some none)
    (z_len : PySem.W.nsIn K mainGlobals "len" = some none)
    (z_list : PySem.W.nsIn K mainGlobals "list" = some none)
    (z_range : PySem.W.nsIn K mainGlobals "range" = some none)
    (z_set : PySem.W.nsIn K mainGlobals "set" = some none)
    (z_tuple : PySem.W.nsIn K mainGlobals "tuple" = some none) :
    ∃ fd : FuncData, (∀ (s : Shared) (v : Value), BindsTo s fd ⟨[v], []⟩ [("_law_script", v)]) ∧ ∀ base : Heap, K.In base → base.Ns mainGlobals mg → FnOk l.prog w K mg base CX0 6 fa fd ["_law_script"] (sp_law K) := by
  have e := hfa.symm.trans (PySem.W.mg_of X G a17)
  cases e
  have m_ValueError := PySem.W.mg_none_of X G z_ValueError
  have m_all := PySem.W.mg_none_of X G z_all
  have m_bool := PySem.W.mg_none_of X G z_bool
  have m_int := PySem.W.mg_none_of X G z_int
  have m_isinstance := PySem.W.mg_none_of X G z_isinstance
  have m_len := PySem.W.mg_none_of X G z_len
  have m_list := PySem.W.mg_none_of X G z_list
  have m_range := PySem.W.mg_none_of X G z_range
  have m_set := PySem.W.mg_none_of X G z_set
  have m_tuple := PySem.W.mg_none_of X G z_tuple
  have T : Txt K mg C_Wish C_BadWish C_BadNumber C_ShelfError := ⟨PySem.W.mg_of X G a_Wish, kc_Wish, hd_Wish, ha_Wish, hm_Wish, ⟨pg_Wish, hd_Wish, po_Wish, sa_Wish⟩, mk_Wish, n_Wish_things, PySem.W.mg_of X G a_BadWish, kc_BadWish, hd_BadWish, ha_BadWish, hm_BadWish, b_BadWish, t_BadWish, ga_BadWish, gg_BadWish, ⟨⟨_, _, _, _, _, _, _, _, _, _, _, _, _, _, _, ol_BadWish, or_BadWish⟩, sa_BadWish, b_BadWish, t_BadWish, kc_BadWish⟩, ⟨ga_BadWish, gg_BadWish, b_BadWish, hd_BadWish⟩, n_BadWish_at, PySem.W.mg_of X G a_BadNumber, kc_BadNumber, hd_BadNumber, ha_BadNumber, hm_BadNumber, b_BadNumber, t_BadNumber, ga_BadNumber, gg_BadNumber, ⟨⟨_, _, _, _, _, _, _, _, _, _, _, _, _, _, _, ol_BadNumber, or_BadNumber⟩, sa_BadNumber, b_BadNumber, t_BadNumber, kc_BadNumber⟩, ⟨ga_BadNumber, gg_BadNumber, b_BadNumber, hd_BadNumber⟩, n_BadNumber_what, n_BadNumber_at, PySem.W.mg_of X G a_ShelfError, kc_ShelfError, hd_ShelfError, ha_ShelfError, hm_ShelfError, b_ShelfError, t_ShelfError, ga_ShelfError, gg_ShelfError, hnc, htk, sub_BadWish_BadWish, sub_BadWish_ShelfError, kit_BadWish_BadNumber, kit_BadWish_ValueError, kit_BadWish_BadWish⟩
  have F1 := fun_mk (st := s_BadWish___init__) l1 c1 k1
  have b1 := F1.binds (ps := ["self", "at"]) fun _ _ _ _ _ _ us hl => match us, hl with | [_, _], _ => rfl
  have F2 := fun_mk (st := s__can_be_wished) l2 c2 k2
  have b2 := F2.binds (ps := ["things"]) fun _ _ _ _ _ _ us hl => match us, hl with | [_], _ => rfl
  have F3 := fun_mk (st := s__first_wish) l3 c3 k3
  have b3 := F3.binds (ps := ["things", "lot"]) fun _ _ _ _ _ _ us hl => match us, hl with | [_, _], _ => rfl
  have F4 := fun_mk (st := s_Wish___init__) l4 c4 k4
  have b4 := F4.binds (ps := ["self", "things"]) fun _ _ _ _ _ _ us hl => match us, hl with | [_, _], _ => rfl
  have F5 := fun_mk (st := s_Wish___call__) l5 c5 k5
  have b5 := F5.binds (ps := ["self", "lot"]) fun _ _ _ _ _ _ us hl => match us, hl with | [_, _], _ => rfl
  have F6 := fun_mk (st := s__law_cell) l6 c6 k6
  have b6 := F6.binds (ps := ["_law_script", "_law_place"]) fun _ _ _ _ _ _ us hl => match us, hl with | [_, _], _ => rfl
  have F7 := fun_mk (st := s__law_draws) l7 c7 k7
  have b7 := F7.binds (ps := ["_law_cell_here", "_law_sizes"]) fun _ _ _ _ _ _ us hl => match us, hl with | [_, _], _ => rfl
  have F8 := fun_mk (st := s__law_lot) l8 c8 k8
  have b8 := F8.binds (ps := ["_law_bits", "_law_many"]) fun _ _ _ _ _ _ us hl => match us, hl with | [_, _], _ => rfl
  have F9 := fun_mk (st := s__law_shuffled) l9 c9 k9
  have b9 := F9.binds (ps := ["_law_places", "_law_things"]) fun _ _ _ _ _ _ us hl => match us, hl with | [_, _], _ => rfl
  have F10 := fun_mk (st := s__law_is_int) l10 c10 k10
  have b10 := F10.binds (ps := ["_law_x"]) fun _ _ _ _ _ _ us hl => match us, hl with | [_], _ => rfl
  have F11 := fun_mk (st := s__law_same_lot) l11 c11 k11
  have b11 := F11.binds (ps := ["_law_x", "_law_due"]) fun _ _ _ _ _ _ us hl => match us, hl with | [_, _], _ => rfl
  have F12 := fun_mk (st := s__law_made) l12 c12 k12
  have b12 := F12.binds (ps := ["_law_things"]) fun _ _ _ _ _ _ us hl => match us, hl with | [_], _ => rfl
  have F13 := fun_mk (st := s__law_base) l13 c13 k13
  have b13 := F13.binds (ps := ["_law_things"]) fun _ _ _ _ _ _ us hl => match us, hl with | [_], _ => rfl
  have F14 := fun_mk (st := s__law_is_good) l14 c14 k14
  have b14 := F14.binds (ps := ["_law_things"]) fun _ _ _ _ _ _ us hl => match us, hl with | [_], _ => rfl
  have F15 := fun_mk (st := s__law_taken) l15 c15 k15
  have b15 := F15.binds (ps := ["_law_things", "_law_lot_here"]) fun _ _ _ _ _ _ us hl => match us, hl with | [_, _], _ => rfl
  have F16 := fun_mk (st := s__law_right) l16 c16 k16
  have b16 := F16.binds (ps := ["_law_wish", "_law_things", "_law_asked"]) fun _ _ _ _ _ _ us hl => match us, hl with | [_, _, _], _ => rfl
  have F17 := fun_mk (st := s_law) l17 c17 k17
  refine ⟨PySem.W.fnOf "law" "law" (defArgs s_law) (defBody s_law) (defScope s_law) .none kV17 dc17 pm17 an17 cd17 ct17, fun s v => .of_eq rfl, fun base _ _ => ?_⟩
  have K_BadWish___init__ : CalX l.prog w K mg base CX0 1 C_BadWish ["self", "at"] (sp_BadWish___init__ C_BadWish) := ⟨f1, _, ok_BadWish___init__ F1 T, a1, beq_iff_eq.mp i1, b1⟩
  have K__can_be_wished : Cal l.prog w K mg base CX0 1 "_can_be_wished" ["things"] sp__can_be_wished := ⟨f2, _, ok__can_be_wished F2 T m_all m_len m_set, PySem.W.mg_of X G a2, k2, b2⟩
  have K__first_wish : Cal l.prog w K mg base CX0 1 "_first_wish" ["things", "lot"] sp__first_wish := ⟨f3, _, ok__first_wish F3 T, PySem.W.mg_of X G a3, k3, b3⟩
  have K_Wish___init__ : CalI l.prog w K mg base (L2.CX l.prog w) 3 C_Wish ["self", "things"] (sp_Wish___init__ C_Wish C_BadWish) [] := ⟨f4, _, ok_Wish___init__ F4 T m_tuple K__can_be_wished K_BadWish___init__, ⟨mk_Wish, a4, i4, kc_Wish⟩, b4, [], .nil, b4⟩
  have K_Wish___call__ : (CalM l.prog w K mg base CX0 2 C_Wish "__call__" ["self", "lot"] (sp_Wish___call__ C_Wish) ∧ StX.CallO K C_Wish f5 ∧ ∃ fd : FuncData, FnOk l.prog w K mg base CX0 2 f5 fd ["self", "lot"] (sp_Wish___call__ C_Wish) ∧ Binds K fd ["self", "lot"] []) := ⟨⟨f5, _, ok_Wish___call__ F5 T K__first_wish, ⟨a5, i5, k5⟩, b5⟩, ⟨a5, i5, fi5⟩, _, ok_Wish___call__ F5 T K__first_wish, b5⟩
  have K__law_cell : Cal l.prog w K mg base CX0 1 "_law_cell" ["_law_script", "_law_place"] (sp__law_cell K) := ⟨f6, _, ok__law_cell F6 T m_int m_len, PySem.W.mg_of X G a6, k6, b6⟩
  have K__law_draws : Cal l.prog w K mg base CX0 1 "_law_draws" ["_law_cell_here", "_law_sizes"] (sp__law_draws K) := ⟨f7, _, ok__law_draws F7 T m_int m_len m_range, PySem.W.mg_of X G a7, k7, b7⟩
  have K__law_lot : Cal l.prog w K mg base CX0 1 "_law_lot" ["_law_bits", "_law_many"] sp__law_lot := ⟨f8, _, ok__law_lot F8 T m_int m_range m_tuple, PySem.W.mg_of X G a8, k8, b8⟩
  have K__law_shuffled : Cal l.prog w K mg base CX0 1 "_law_shuffled" ["_law_places", "_law_things"] (sp__law_shuffled K) := ⟨f9, _, ok__law_shuffled F9 T m_int m_len m_list, PySem.W.mg_of X G a9, k9, b9⟩
  have K__law_is_int : Cal l.prog w K mg base CX0 1 "_law_is_int" ["_law_x"] sp__law_is_int := ⟨f10, _, ok__law_is_int F10 T m_bool m_int m_isinstance, PySem.W.mg_of X G a10, k10, b10⟩
  have K__law_same_lot : Cal l.prog w K mg base CX0 2 "_law_same_lot" ["_law_x", "_law_due"] (sp__law_same_lot K) := ⟨f11, _, ok__law_same_lot F11 T m_isinstance m_len m_range m_tuple K__law_is_int, PySem.W.mg_of X G a11, k11, b11⟩
  have K__law_made : Cal l.prog w K mg base CX0 5 "_law_made" ["_law_things"] (sp__law_made C_Wish) := ⟨f12, _, ok__law_made F12 T m_isinstance K_Wish___init__, PySem.W.mg_of X G a12, k12, b12⟩
  have K__law_base : Cal l.prog w K mg base CX0 5 "_law_base" ["_law_things"] sp__law_base := ⟨f13, _, ok__law_base F13 T m_ValueError m_isinstance K_Wish___init__, PySem.W.mg_of X G a13, k13, b13⟩
  have K__law_is_good : Cal l.prog w K mg base CX0 1 "_law_is_good" ["_law_things"] sp__law_is_good := ⟨f14, _, ok__law_is_good F14 T m_len m_range, PySem.W.mg_of X G a14, k14, b14⟩
  have K__law_taken : Cal l.prog w K mg base CX0 1 "_law_taken" ["_law_things", "_law_lot_here"] sp__law_taken := ⟨f15, _, ok__law_taken F15 T, PySem.W.mg_of X G a15, k15, b15⟩
  have K__law_right : Cal l.prog w K mg base CX0 3 "_law_right" ["_law_wish", "_law_things", "_law_asked"] (sp__law_right C_Wish) := ⟨f16, _, ok__law_right F16 T K_Wish___call__ K__law_is_int K__law_same_lot K__law_taken, PySem.W.mg_of X G a16, k16, b16⟩
  exact ok_law F17 T m_range m_tuple K__law_cell K__law_draws K__law_lot K__law_shuffled K__law_made K__law_base K__law_is_good K__law_right
end K19
open PySem PySem.W PyProof.Rows
set_option pp.maxSteps 400 in
set_option maxHeartbeats 0 in
theorem PySem.Challenge.cw_dearestshelf_k19_wish_takes_first_holds : PySem.Challenge.rw_dearestshelf_k19_wish_takes_first.Holds := by
  w_on; o_law; k_head; (case hw => w_witness2)
  k_fill
  refine L2.walk_of (l := PySem.Challenge.rw_dearestshelf_k19_wish_takes_first) (n := 63) (k := 6) (x := "_law_script") (CX := fun _ => L2.CX0) (sp := fun w => K19.sp_law _) rfl (by decide) rfl ⟨rfl, by decide, by decide⟩ (fun w h Y => PySem.W.kIn_of Y) ?F (fun _ _ a ns hl _ hS => ⟨a, ns, rfl, hS, hl, fun _ => rfl⟩) (fun _ _ _ _ _ h => h)
  case F =>
    intro w mg fa h KX G hmg
    refine' K19.all_mk KX G hmg ?a_Wish ?kc_Wish ?hd_Wish ?ha_Wish ?hm_Wish ?pg_Wish ?po_Wish ?sa_Wish ?mk_Wish ?n_Wish_things ?a_BadWish ?kc_BadWish ?hd_BadWish ?ha_BadWish ?hm_BadWish ?b_BadWish ?t_BadWish ?ga_BadWish ?gg_BadWish ?ol_BadWish ?or_BadWish ?sa_BadWish ?n_BadWish_at ?a_BadNumber ?kc_BadNumber ?hd_BadNumber ?ha_BadNumber ?hm_BadNumber ?b_BadNumber ?t_BadNumber ?ga_BadNumber ?gg_BadNumber ?ol_BadNumber ?or_BadNumber ?sa_BadNumber ?n_BadNumber_what ?n_BadNumber_at ?a_ShelfError ?kc_ShelfError ?hd_ShelfError ?ha_ShelfError ?hm_ShelfError ?b_ShelfError ?t_ShelfError ?ga_ShelfError ?gg_ShelfError ?hnc ?htk ?sub_BadWish_BadWish ?sub_BadWish_ShelfError ?kit_BadWish_BadNumber ?kit_BadWish_ValueError ?kit_BadWish_BadWish ?a1 ?i1 ?l1 ?c1 ?k1 ?a2 ?l2 ?c2 ?k2 ?a3 ?l3 ?c3 ?k3 ?a4 ?i4 ?l4 ?c4 ?k4 ?a5 ?i5 ?fi5 ?l5 ?c5 ?k5 ?a6 ?l6 ?c6 ?k6 ?a7 ?l7 ?c7 ?k7 ?a8 ?l8 ?c8 ?k8 ?a9 ?l9 ?c9 ?k9 ?a10 ?l10 ?c10 ?k10 ?a11 ?l11 ?c11 ?k11 ?a12 ?l12 ?c12 ?k12 ?a13 ?l13 ?c13 ?k13 ?a14 ?l14 ?c14 ?k14 ?a15 ?l15 ?c15 ?k15 ?a16 ?l16 ?c16 ?k16 ?a17 ?l17 ?c17 ?k17 ?z_ValueError ?z_all ?z_bool ?z_int ?z_isinstance ?z_len ?z_list ?z_range ?z_set ?z_tuple
    (case a_Wish => k_is); (case kc_Wish => k_is); (case hd_Wish => k_is); (case ha_Wish => k_is); (case hm_Wish => k_is); (case pg_Wish => k_is); (case po_Wish => k_is); (case sa_Wish => k_is); (case mk_Wish => k_is); (case n_Wish_things => k_is); (case a_BadWish => k_is); (case kc_BadWish => k_is); (case hd_BadWish => k_is); (case ha_BadWish => k_is); (case hm_BadWish => k_is); (case b_BadWish => k_is); (case t_BadWish => k_is); (case ga_BadWish => k_is); (case gg_BadWish => k_is); (case ol_BadWish => k_is); (case or_BadWish => rfl); (case sa_BadWish => k_is); (case n_BadWish_at => k_is); (case a_BadNumber => k_is); (case kc_BadNumber => k_is); (case hd_BadNumber => k_is); (case ha_BadNumber => k_is); (case hm_BadNumber => k_is); (case b_BadNumber => k_is); (case t_BadNumber => k_is); (case ga_BadNumber => k_is); (case gg_BadNumber => k_is); (case ol_BadNumber => k_is); (case or_BadNumber => rfl); (case sa_BadNumber => k_is); (case n_BadNumber_what => k_is); (case n_BadNumber_at => k_is); (case a_ShelfError => k_is); (case kc_ShelfError => k_is); (case hd_ShelfError => k_is); (case ha_ShelfError => k_is); (case hm_ShelfError => k_is); (case b_ShelfError => k_is); (case t_ShelfError => k_is); (case ga_ShelfError => k_is); (case gg_ShelfError => k_is); (case hnc => k_is); (case htk => k_is); (case sub_BadWish_BadWish => (first | rfl | k_is)); (case sub_BadWish_ShelfError => (first | rfl | k_is)); (case kit_BadWish_BadNumber => kit_is); (case kit_BadWish_ValueError => kit_is); (case kit_BadWish_BadWish => kit_is); (case a1 => k_is); (case i1 => k_is); (case l1 => k_is); (case c1 => k_is); (case k1 => k_is); (case a2 => k_is); (case l2 => k_is); (case c2 => k_is); (case k2 => k_is); (case a3 => k_is); (case l3 => k_is); (case c3 => k_is); (case k3 => k_is); (case a4 => k_is); (case i4 => k_is); (case l4 => k_is); (case c4 => k_is); (case k4 => k_is); (case a5 => k_is); (case i5 => k_is); (case fi5 => k_is); (case l5 => k_is); (case c5 => k_is); (case k5 => k_is); (case a6 => k_is); (case l6 => k_is); (case c6 => k_is); (case k6 => k_is); (case a7 => k_is); (case l7 => k_is); (case c7 => k_is); (case k7 => k_is); (case a8 => k_is); (case l8 => k_is); (case c8 => k_is); (case k8 => k_is); (case a9 => k_is); (case l9 => k_is); (case c9 => k_is); (case k9 => k_is); (case a10 => k_is); (case l10 => k_is); (case c10 => k_is); (case k10 => k_is); (case a11 => k_is); (case l11 => k_is); (case c11 => k_is); (case k11 => k_is); (case a12 => k_is); (case l12 => k_is); (case c12 => k_is); (case k12 => k_is); (case a13 => k_is); (case l13 => k_is); (case c13 => k_is); (case k13 => k_is); (case a14 => k_is); (case l14 => k_is); (case c14 => k_is); (case k14 => k_is); (case a15 => k_is); (case l15 => k_is); (case c15 => k_is); (case k15 => k_is); (case a16 => k_is); (case l16 => k_is); (case c16 => k_is); (case k16 => k_is); (case a17 => k_is); (case l17 => k_is); (case c17 => k_is); (case k17 => k_is); (case z_ValueError => k_is); (case z_all => k_is); (case z_bool => k_is); (case z_int => k_is); (case z_isinstance => k_is); (case z_len => k_is); (case z_list => k_is); (case z_range => k_is); (case z_set => k_is); (case z_tuple => k_is)
