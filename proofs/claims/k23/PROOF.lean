import PyProof.Rows.All
import Wide.All
import OpenK.AllK
import Wide.FinOn
import HandS.ForMost
import HandS.ForExc
import HandS.Wide
import HandS.IsInst
import HandS.More
import HandS.Conv
import HandS.Evl
import HandS.ExcIs
import HandS.Defaults
import HandS.ExcInit
import HandS.ExcField
import HandS.TryMany
import HandS.Nested
import HandS.ClsMeth
import HandS.Iter
import HandS.Walk
import HandS.Style
import HandS.ListEq
import KE.KSuper
import KE.RegKSuper
import KE.KExcIs
import KE.RegKIsAll
import HandS.OwnEq
import HandS.Star
import HandS.SetFor
import HandS.Set
import KE.GoesMore
import KE.GoesEnum
import PySem.Challenge.RW_dearestshelf_k23_mixed_refusals
set_option Elab.async false
set_option linter.all false
set_option maxRecDepth 100000
set_option maxHeartbeats 8000000
set_option exponentiation.threshold 10000
namespace K23
open PySem PySem.Spec PyProof.Rows L2
def top (i : Nat) : Stmt := PySem.Challenge.pw_dearestshelf_k23_mixed_refusals.main.body.getD i (.Pass ⟨0, 0, 0, 0⟩)
abbrev s_BadNumber___init__ : Stmt := inClass (top 4) 0
theorem sc_BadNumber___init__ : FnScope ["self", "what", "at"] ["self", "what", "at"] (defScope s_BadNumber___init__) := ⟨rfl, rfl, rfl, by decide +kernel, rfl, by decide +kernel, by decide +kernel⟩
abbrev s_TooMany___init__ : Stmt := inClass (top 5) 0
theorem sc_TooMany___init__ : FnScope ["self", "many", "most"] ["self", "many", "most"] (defScope s_TooMany___init__) := ⟨rfl, rfl, rfl, by decide +kernel, rfl, by decide +kernel, by decide +kernel⟩
abbrev s_BadWish___init__ : Stmt := inClass (top 6) 0
theorem sc_BadWish___init__ : FnScope ["self", "at"] ["self", "at"] (defScope s_BadWish___init__) := ⟨rfl, rfl, rfl, by decide +kernel, rfl, by decide +kernel, by decide +kernel⟩
abbrev s_Unlike___init__ : Stmt := inClass (top 7) 0
theorem sc_Unlike___init__ : FnScope ["self", "at"] ["self", "at"] (defScope s_Unlike___init__) := ⟨rfl, rfl, rfl, by decide +kernel, rfl, by decide +kernel, by decide +kernel⟩
abbrev s_check_many : Stmt := top 10
theorem sc_check_many : FnScope ["many", "most"] ["many", "most"] (defScope s_check_many) := ⟨rfl, rfl, rfl, by decide +kernel, rfl, by decide +kernel, by decide +kernel⟩
abbrev s_check_each : Stmt := top 11
theorem sc_check_each : FnScope ["what", "numbers", "least", "at", "number"] ["what", "numbers", "least"] (defScope s_check_each) := ⟨rfl, rfl, rfl, by decide +kernel, rfl, by decide +kernel, by decide +kernel⟩
abbrev s_check_least : Stmt := top 12
theorem sc_check_least : FnScope ["what", "number", "least"] ["what", "number", "least"] (defScope s_check_least) := ⟨rfl, rfl, rfl, by decide +kernel, rfl, by decide +kernel, by decide +kernel⟩
abbrev s_check_aside : Stmt := top 13
theorem sc_check_aside : FnScope ["aside"] ["aside"] (defScope s_check_aside) := ⟨rfl, rfl, rfl, by decide +kernel, rfl, by decide +kernel, by decide +kernel⟩
abbrev s_Rule___init__ : Stmt := inClass (top 16) 0
theorem sc_Rule___init__ : FnScope ["self", "many"] ["self", "many"] (defScope s_Rule___init__) := ⟨rfl, rfl, rfl, by decide +kernel, rfl, by decide +kernel, by decide +kernel⟩
abbrev s__can_be_wished : Stmt := top 18
theorem sc__can_be_wished : FnScope ["things", "thing"] ["things"] (defScope s__can_be_wished) := ⟨rfl, rfl, rfl, by decide +kernel, rfl, by decide +kernel, by decide +kernel⟩
abbrev s_Listed___init__ : Stmt := inClass (top 17) 0
abbrev s_Mixed___init__ : Stmt := inClass (top 20) 0
abbrev s_Weighted___init__ : Stmt := inClass (top 22) 0
theorem sc_Weighted___init__ : NdefX.NScope ["self", "weights", "aside", "__class__"] ["self", "weights", "aside"] ["__class__"] (defScope s_Weighted___init__) := NdefX.nscope_by (by decide +kernel)
abbrev s__law_cell : Stmt := top 24
theorem sc__law_cell : FnScope ["_law_script", "_law_place"] ["_law_script", "_law_place"] (defScope s__law_cell) := ⟨rfl, rfl, rfl, by decide +kernel, rfl, by decide +kernel, by decide +kernel⟩
abbrev s__law_draws : Stmt := top 25
theorem sc__law_draws : FnScope ["_law_cell_here", "_law_sizes", "_law_size", "_law_left", "_law_found", "_law_k", "_law_low", "_law_high"] ["_law_cell_here", "_law_sizes"] (defScope s__law_draws) := ⟨rfl, rfl, rfl, by decide +kernel, rfl, by decide +kernel, by decide +kernel⟩
abbrev s__law_row : Stmt := top 26
theorem sc__law_row : FnScope ["_law_cell_here", "_law_count", "_law_drawn", "_law_bound", "_law_value", "_law_k"] ["_law_cell_here", "_law_count"] (defScope s__law_row) := ⟨rfl, rfl, rfl, by decide +kernel, rfl, by decide +kernel, by decide +kernel⟩
abbrev s__law_ups : Stmt := top 27
theorem sc__law_ups : FnScope ["_law_row_here", "_law_number"] ["_law_row_here"] (defScope s__law_ups) := ⟨rfl, rfl, rfl, by decide +kernel, rfl, by decide +kernel, by decide +kernel⟩
abbrev s__law_is_int : Stmt := top 28
theorem sc__law_is_int : FnScope ["_law_x"] ["_law_x"] (defScope s__law_is_int) := ⟨rfl, rfl, rfl, by decide +kernel, rfl, by decide +kernel, by decide +kernel⟩
abbrev s__law_rule_of : Stmt := top 30
theorem sc__law_rule_of : FnScope ["_law_kind", "_law_many", "_law_k"] ["_law_kind", "_law_many"] (defScope s__law_rule_of) := ⟨rfl, rfl, rfl, by decide +kernel, rfl, by decide +kernel, by decide +kernel⟩
abbrev s__law_due : Stmt := top 31
theorem sc__law_due : FnScope ["_law_numbers_here", "_law_at"] ["_law_numbers_here"] (defScope s__law_due) := ⟨rfl, rfl, rfl, by decide +kernel, rfl, by decide +kernel, by decide +kernel⟩
abbrev s__law_mixture : Stmt := top 32
theorem sc__law_mixture : FnScope ["_law_told"] ["_law_told"] (defScope s__law_mixture) := ⟨rfl, rfl, rfl, by decide +kernel, rfl, by decide +kernel, by decide +kernel⟩
abbrev s__law_asked : Stmt := top 33
theorem sc__law_asked : FnScope ["_law_told", "e"] ["_law_told"] (defScope s__law_asked) := ⟨rfl, rfl, rfl, by decide +kernel, rfl, by decide +kernel, by decide +kernel⟩
abbrev s__law_classes : Stmt := top 34
theorem sc__law_classes : FnScope ["_law_told", "e", "_law_found"] ["_law_told"] (defScope s__law_classes) := ⟨rfl, rfl, rfl, by decide +kernel, rfl, by decide +kernel, by decide +kernel⟩
abbrev s__law_like : Stmt := top 35
theorem sc__law_like : FnScope ["_law_told", "_law_due_here", "_law_k"] ["_law_told", "_law_due_here"] (defScope s__law_like) := ⟨rfl, rfl, rfl, by decide +kernel, rfl, by decide +kernel, by decide +kernel⟩
abbrev s__law_kept : Stmt := top 36
theorem sc__law_kept : FnScope ["_law_told", "_law_numbers_here", "_law_k", "_law_pair"] ["_law_told", "_law_numbers_here"] (defScope s__law_kept) := ⟨rfl, rfl, rfl, by decide +kernel, rfl, by decide +kernel, by decide +kernel⟩
abbrev s__law_numbers : Stmt := top 29
theorem sc__law_numbers : FnScope ["_law_drawn", "_law_buyers", "_law_found", "_law_common", "_law_k", "_law_code", "_law_other"] ["_law_drawn", "_law_buyers"] (defScope s__law_numbers) := ⟨rfl, rfl, rfl, by decide +kernel, rfl, by decide +kernel, by decide +kernel⟩
abbrev s_law : Stmt := top 37
theorem sc_law : FnScope ["_law_script", "_law_drawn", "_law_buyers", "_law_numbers_here", "_law_told", "_law_due_here", "_law_classes_here", "_law_mixed", "_law_number"] ["_law_script"] (defScope s_law) := ⟨rfl, rfl, rfl, by decide +kernel, rfl, by decide +kernel, by decide +kernel⟩

/-! ### mathematics of draws -/
def Within : List Int → List Int → Prop
  | [], [] => True
  | d :: ds, n :: ns => (0 ≤ d ∧ d < n) ∧ Within ds ns
  | _, _ => False
theorem Within.len : ∀ {ds ns : List Int}, Within ds ns → ds.length = ns.length
  | [], [], _ => rfl
  | _ :: ds, _ :: ns, h => by
    rw [List.length_cons, List.length_cons, Within.len h.2]
  | [], _ :: _, h => h.elim
  | _ :: _, [], h => h.elim
theorem Within.snoc : ∀ {ds ns : List Int} {d n : Int}, Within ds ns → 0 ≤ d → d < n → Within (ds ++ [d]) (ns ++ [n])
  | [], [], d, n, _, h0, h1 => ⟨⟨h0, h1⟩, True.intro⟩
  | _ :: ds, _ :: ns, d, n, h, h0, h1 => ⟨h.1, Within.snoc h.2 h0 h1⟩
  | [], _ :: _, _, _, h, _, _ => h.elim
  | _ :: _, [], _, _, h, _, _ => h.elim
theorem Within.step {ds ns : List Int} {d n : Int} {i : Nat} (h : Within ds (ns.take i)) (hi : ns[i]? = some n) (h0 : 0 ≤ d) (h1 : d < n) : Within (ds ++ [d]) (ns.take (i + 1)) := by
  rw [List.take_add_one, hi]
  exact h.snoc h0 h1
theorem Within.zero (ns : List Int) : Within [] (ns.take 0) := by
  rw [List.take_zero]
  exact True.intro
theorem Within.full {ds ns : List Int} (h : Within ds (ns.take ns.length)) : Within ds ns := by
  rw [List.take_length] at h
  exact h
theorem int_of {ns : List Int} {i : Nat} {x : V} (h : (ns.map V.int)[i]? = some x) : ∃ n, x = .int n ∧ ns[i]? = some n := by
  rw [List.getElem?_map] at h
  cases e : ns[i]? with
  | none =>
    rw [e] at h
    cases h
  | some z =>
    rw [e] at h
    exact ⟨z, (Option.some.inj h).symm, rfl⟩
theorem int_at {ns : List Int} {i : Nat} {n : Int} (h : ns[i]? = some n) : (ns.map V.int)[i]? = some (.int n) := by
  rw [List.getElem?_map, h]
  rfl
theorem snoc_int (ds : List Int) (d : Int) : ds.map V.int ++ [V.int d] = (ds ++ [d]).map V.int := by
  rw [List.map_append]
  rfl
theorem same_upd {H : Hp} {p : Addr} {o : HO} (h : H p = none) : Same H (upd H p o) := fun b x e => by
  rw [upd_ne (ne_of_none e h)]
  exact e
theorem same_mut {H H1 : Hp} {p : Addr} {o : HO} (s : Same H H1) (h : H p = none) : Same H (upd H1 p o) := fun b x e => by
  rw [upd_ne (ne_of_none e h)]
  exact s b x e
theorem same_tup {K : PySem.W.Frag} {H H' : Hp} {a : Addr} {xs : List V} (e : Same H H') (h : SqT K H a xs) : SqT K H' a xs := by
  rcases h with (h | ⟨o, h⟩) | h
  · exact .inl (.inl (e _ _ h))
  · exact .inl (.inr ⟨o, e _ _ h⟩)
  · exact .inr h
theorem w_div {j : Int} (h : 0 < j) (hb : j < 2 ^ 100) : CDivW 0 j := wide_div (b := 100) h (by omega) (by decide) (by decide)
theorem lst_l {K : PySem.W.Frag} {H : Hp} {a : Addr} {xs : List V} (h : H a = some (.lst xs)) : SqL K H a xs := .inl (.inl h)
theorem tup_t {K : PySem.W.Frag} {H : Hp} {a : Addr} {xs : List V} (h : H a = some (.tup xs)) : SqT K H a xs := .inl (.inl h)
theorem lc_yes {σ : L2.St} {H : Hp} {F : Bool → Hp → Prop} (h : F true H) : tYes σ H F := h
theorem Within.c {ds ns : List Int} {n : Int} (h : Within ds (n :: ns)) : ∃ d r, ds = d :: r ∧ 0 ≤ d ∧ d < n ∧ Within r ns := by
  cases ds with
  | nil => exact h.elim
  | cons d r => exact ⟨d, r, rfl, h.1.1, h.1.2, h.2⟩
theorem Within.n {ds : List Int} (h : Within ds []) : ds = [] := by
  cases ds with
  | nil => rfl
  | cons d r => exact h.elim
theorem kI : kitB "int" "int" = some true := by decide +kernel
theorem kB : kitB "int" "bool" = some false := by decide +kernel
theorem kT : kitB "tuple" "tuple" = some true := by decide +kernel

theorem cut_from (xs : List V) (k : Nat) : cutV xs (some (k : Int)) none = xs.drop k := by
  unfold cutV
  rw [HT.sIx_nat, HT.sIx_none]
  by_cases h : k ≤ xs.length
  · rw [Nat.min_eq_left h]
    exact List.take_of_length_le (by rw [List.length_drop]; exact Nat.le_refl _)
  · rw [Nat.min_eq_right (by omega), List.drop_of_length_le (Nat.le_refl _), List.drop_of_length_le (by omega), List.take_nil]
theorem cut_from1 (xs : List V) : cutV xs (some 1) none = xs.drop 1 := by
  unfold cutV
  rw [show HT.sIx xs.length 0 (some 1) = min 1 xs.length from HT.sIx_nat xs.length 0 1, HT.sIx_none]
  cases xs with
  | nil => rfl
  | cons x r =>
    rw [show min 1 (x :: r).length = 1 by
      rw [List.length_cons]
      omega]
    show (List.take ((x :: r).length - 1) r) = r
    rw [List.length_cons, Nat.add_sub_cancel]
    exact List.take_length
theorem big18 : (0 : Int) < 10 ^ 18 ∧ (10 : Int) ^ 18 < 2 ^ 100 := by decide
theorem cut_to (xs : List V) (k : Nat) : cutV xs none (some (k : Int)) = xs.take k := by
  unfold cutV
  rw [HT.sIx_none, HT.sIx_nat, List.drop_zero, Nat.sub_zero]
  by_cases h : k ≤ xs.length
  · rw [Nat.min_eq_left h]
  · rw [Nat.min_eq_right (by omega), List.take_of_length_le (Nat.le_refl _), List.take_of_length_le (by omega)]

theorem iteD {c A B : Prop} [Decidable c] (hc : c) (h : A) : if decide c = true then A else B := by
  rw [if_pos (decide_eq_true hc)]
  exact h
theorem iteDF {c A B : Prop} [Decidable c] (hc : ¬ c) (h : B) : if decide c = true then A else B := by
  rw [decide_eq_false hc]
  exact iteF h
open NdefX (NScope ncx startF CellsAt inv_startN)
open ClX (pin_new pin_at base_none unpinE)

/-! ### own classes and errors: rules that the layer lacks -/
section
variable {X : Cx}
/-- a field's read, its K by another name -/
theorem pe_fldK {K : PySem.W.Frag} {e : Expr} {f : Str} {pos : Pos} {ta : TE} (he : PE X e ta) (hb : attributeBase e f X.env (eval e X.env) = eval e X.env) (hK : X.K = K := by rfl) : PE X (.Attribute e f pos) (tFld K ta f) := by
  subst hK
  exact pe_fld he hb
/-- floor division by a divisor of either sign -/
def CDivWN (_ j : Int) : Prop := j ≠ 0 ∧ j.natAbs.log2 < 9000
theorem op_fdivWN : OpR X (binaryOp .FloorDiv) (rI CDivWN fun i j => .int (i.fdiv j)) := opI fun _ _ _ _ _ _ _ c k => floordiv_int c.1 k (.inl (PyProof.noPylong_of_log2 c.2))
/-- a new instance whose __init__ may let an error out, wished for at the slots that stand -/
theorem made_at {CX : CXT} {n : Nat} {g D : Addr} {gd : FuncData} {qs : List Str} {pr : Sp} {Ex : L2.St → XK} {us0 : List Value} {vs0 : List V} {pn : List (Addr × Obj)} {τ : L2.St} {H0 : Hp} {st : Shared} {W : VK} {as : List Value} {xs : List V}
    (MK : Mk X.K D g) (OK : FnOk X.prog X.w X.K X.mg X.base CX n g gd qs pr) (room : Room (n + 1) X.A) (bd : Binds X.K gd qs us0) (dv : Vals vs0 us0) (out : PassesAt CX X τ (Ex τ)) (J : Inv X pn τ H0 st) (rel : Vals xs as)
    (go : ∀ p q, H0 p = none → H0 q = none → q ≠ p → pr (.ref p :: (xs ++ vs0)) (upd (upd H0 q (.own p)) p (.ins D q [])) (fun v H2 => v = .non ∧ W (.ref p) H2) (Ex τ)) :
    wpAny (model X.prog X.w) X.A (call (.ref D) as) (EP X pn τ W) X.xe st := by
  have new1 := J.hok.fresh (Nat.le_succ st.heap.objs.size)
  have new2 := J.hok.fresh (Nat.le_refl st.heap.objs.size)
  have asked := go _ _ new1 new2 (Nat.ne_of_lt (Nat.lt_succ_self _))
  have J2 := Inv.made (C := D) J
  have rel2 : Vals (V.ref (st.heap.objs.size + 1) :: (xs ++ vs0)) (Value.ref (st.heap.objs.size + 1) :: (as ++ us0)) :=
    .cons rfl (rel.append dv)
  have len2 : (Value.ref (st.heap.objs.size + 1) :: as ++ us0).length = qs.length := (rel2.length.symm).trans (OK.len _ _ _ _ asked)
  have env2 := J2.env0.make D as []
  have bound := bd _ (Value.ref (st.heap.objs.size + 1) :: as) J2.kIn len2
  have ran := OK.run _ X.stack _ _ _ _ _ _ (Ex τ) (room.make D as []) env2 bound rel2 asked
  refine wpAny_call (make_map (f := g) J.kIn MK.makes MK.init (beq_iff_eq.mp MK.fn) (codeAny_mono ran ?_))
  rintro (e | fl) s' back
  · exact out pn _ _ e s' J2 back
  · cases fl with
    | ret u =>
      obtain ⟨v, H', J3, rv, rfl, w3⟩ := J2.after back
      exact ⟨rv, V.ref (st.heap.objs.size + 1), _, J3, rfl, w3⟩
    | next => exact back.elim
    | brk => exact back.elim
    | cont => exact back.elim
def tMakeS (D : Addr) (pr : Sp) (vs0 : List V) (Ex : L2.St → XK) (t : TA) : TE := fun τ H Q => t τ H fun xs H1 => ∀ p q, H1 p = none → H1 q = none → q ≠ p →
  pr (.ref p :: (xs ++ vs0)) (upd (upd H1 q (.own p)) p (.ins D q [])) (fun v H2 => v = .non ∧ Q (.ref p) H2) (Ex τ)
theorem pe_makeS {CX : CXT} {n : Nat} {g D : Addr} {gd : FuncData} {qs : List Str} {pr : Sp} {Ex : L2.St → XK} {us0 : List Value} {vs0 : List V} {x : Str} {p pos : Pos} {e : Expr} {es : List Expr} {t : TA}
    (MK : Mk X.K D g) (OK : FnOk X.prog X.w X.K X.mg X.base CX n g gd qs pr) (room : Room (n + 1) X.A) (gl : Gl X x) (at_ : X.mg x = some (.ref D)) (bd : Binds X.K gd qs us0) (dv : Vals vs0 us0) (out : ∀ τ, PassesAt CX X τ (Ex τ)) (args : PA X (e :: es) t)
    (plain : (x == ("__debug__" : Str)) = false := by decide) (first : starEach (e :: es) X.env = (false, eval e X.env) :: starEach es X.env := by rfl) (noStar : (backTo pos (starEach es X.env)).any (·.1) = false := by rfl) :
    PE X (.Call (.Name x p) (e :: es) [] pos) (tMakeS D pr vs0 Ex t) :=
  ⟨fun pn s τ H Q J h => wpAny_Call_Name_kw (ld_glob J gl at_ (PySem.W.callWith_K (h₀ := X.base) J.ok.mod.kin MK.kp (thn (args.run pos pn s τ H _ J h) fun _ _ ⟨_, _, J1, rel, go⟩ => ⟨J1.kIn, made_at MK OK room bd dv (out τ) J1 rel go⟩) first noStar) plain)⟩
/-- isinstance(e, c) in a suite, e the error that it holds (of an own class at D, without a dict of its own) -/
def rIsX (K : PySem.W.Frag) (a : Addr) (cls : Value) (d : Option Addr) : List V → Hp → VK → Prop := fun xs H Q => ∃ D : Addr, ExcC K D ∧ cls = .ref D ∧ d = none ∧ rIsE K D a xs H Q
theorem call_isX {K : PySem.W.Frag} {a : Addr} {cls : Value} {d : Option Addr} {oe : Obj} {pn : List (Addr × Obj)} (hz : Zc cls d oe) (hf : ∃ vs, oe.data = .fields vs) (hK : X.K = K := by rfl) :
    CallR (X.suite a ((a, oe) :: pn)) (.builtin "isinstance") (rIsX K a cls d) := by
  intro pins s σ H xs us Q I r h
  subst hK
  obtain ⟨D, ec, rfl, rfl, h⟩ := h
  exact call_isE ec hz hf pins s σ H xs us Q I r h
end
theorem lk_one {k : Str} {v : V} {r : List (Str × V)} : List.lookup k ((k, v) :: r) = some v := by
  simp [List.lookup]
theorem lk_two {k g : Str} {v : V} {r : List (Str × V)} (h : (k == g) = false) : List.lookup k ((g, v) :: r) = List.lookup k r := by
  simp only [List.lookup, h]

/-! ### super().__init__(e, ..) as a method's first statement -/
theorem inst_of' {X : Cx} {pins : List (Addr × Obj)} {σ : L2.St} {H : Hp} {s : Shared} {a C dx : Addr} {fs : List (Str × V)} (I : Inv X pins σ H s) (e : H a = some (.ins C dx fs)) :
    s.heap.get? a = some (PySem.W.instObj C dx) ∧ ∃ od, PySem.W.InstAt s.heap a (PySem.W.instObj C dx) C (some od) := by
  obtain ⟨mA, O, _⟩ := ins_get I.hok e
  obtain ⟨od, J, _⟩ := O.look
  exact ⟨O.obj, od, J⟩
/-- what the top has written of a class D above which super() looks, for an instance of the class C: the function g at the name -/
structure SupC (K : PySem.W.Frag) (mg : Str → Option Value) (C D cc cda g : Addr) (file : Str) : Prop where
  isD : ∃ cd, PySem.W.clsIn K D = some cd
  sub : PySem.W.mroIn K C (.ref D) = some true
  cell : ∃ cl cld csl, K.lookup cc = some ⟨cl, cld, .cell (some (.ref D)), csl⟩
  code : ∃ ccl cdd vs ccs tf, K.lookup cda = some ⟨ccl, cdd, .fields vs, ccs⟩ ∧ vs[2]? = some (.str file tf)
  sup : PySem.W.ks_superIn K C D "__init__" = some (some (.ref g))
  tg : PySem.W.typeIn K (.ref g) = some (.type "function")
  fg : PySem.W.fnIn K g = true
  opq : PySem.W.nsIn K cStatics "thirdparty.any" = some none
  nosup : mg "super" = none
section
variable {CX : CXT} {P : Program} {w : World} {K : PySem.W.Frag} {mg : Str → Option Value} {base : Heap} {k j : Nat} {f g cc cda C D : Addr} {name qual : Str} {params : Arguments} {scope : Scope} {dV kV doc pm ct oc : Value} {an od : Option Addr}
  {osl : Array (Option Value)} {N ps qs : List Str} {sp si : Sp} {gd : FuncData} {e : Expr} {es : List Expr} {rest : List Stmt} {p0 p1 p2 p3 p4 : Pos} {ar : Arg} {pl : Sem Bool}
abbrev supSt (p0 p1 p2 p3 p4 : Pos) (es : List Expr) : Stmt := .Expr (.Call (.Attribute (.Call (.Name "super" p0) [] [] p1) "__init__" p2) es [] p3) p4
theorem fn_super {file : Str} (lk : K.lookup f = some ⟨oc, od, .func (PySem.W.ksFn name qual params (supSt p0 p1 p2 p3 p4 (e :: es) :: rest) scope dV kV doc pm an (.ref cda) ct cc), osl⟩) (hcd : PySem.W.codeIn K (.ref cda) qual = true) (S : NScope N ps ["__class__"] scope)
    (SC : SupC K mg C D cc cda g file) (hfile : ((P.main.file : Str) == file) = true) (htop : (P.main.scope.names.lookup ("super" : Str)).isSome = false) (hpar : (params.posonlyargs ++ params.args).head? = some ar) (hN : N[0]? = some ar.arg) (hka : scope.names.lookup ar.arg = some .local)
    (hks : scope.names.lookup ("super" : Str) = some .globalImplicit) (hkc : scope.names.lookup ("__class__" : Str) = some .free)
    (len : ∀ vs H Q E, sp vs H Q E → vs.length = ps.length) (G : FnOk P w K mg base CX j g gd qs si) (bd : Binds K gd qs []) (hj : j ≤ k)
    (hi : ∀ L, interactive (PySem.W.ksEnv qual scope L f (.ref cda) cc) = false)
    (hsw : ∀ L, swapsWith (.Call (.Attribute (.Call (.Name "super" p0) [] [] p1) "__init__" p2) (e :: es) [] p3) none p4.line (PySem.W.ksEnv qual scope L f (.ref cda) cc) = pure false)
    (hev : ∀ L, eval (.Call (.Attribute (.Call (.Name "super" p0) [] [] p1) "__init__" p2) (e :: es) [] p3) (PySem.W.ksEnv qual scope L f (.ref cda) cc) = (do
      let ov ← attributeBase (.Call (.Name "super" p0) [] [] p1) "__init__" (PySem.W.ksEnv qual scope L f (.ref cda) cc) (eval (.Call (.Name "super" p0) [] [] p1) (PySem.W.ksEnv qual scope L f (.ref cda) cc))
      standAt p2.atName
      let (f', first) ← holding [ov] (getMethod ov "__init__" pl)
      callWith p3 f' first (backTo p3 (starEach (e :: es) (PySem.W.ksEnv qual scope L f (.ref cda) cc))) []))
    (hst : ∀ L, starEach (e :: es) (PySem.W.ksEnv qual scope L f (.ref cda) cc) = (false, eval e (PySem.W.ksEnv qual scope L f (.ref cda) cc)) :: starEach es (PySem.W.ksEnv qual scope L f (.ref cda) cc))
    (hpl : ∀ L, (backTo p3 (starEach es (PySem.W.ksEnv qual scope L f (.ref cda) cc))).any (·.1) = false)
    (hbody : ∀ (A : Around) (outer : List Env) (s : Shared) (H : Hp) (vs : List V) (Q : VK) (E : XK), Room k (A.deeper (PySem.W.ksEnv qual scope s.heap.objs.size f (.ref cda) cc)) → sp vs H Q E →
      ∃ (ta : TA) (tr : TS) (a dx : Addr) (fs : List (Str × V)) (us0 : List V) (Ei : XK),
        PA (ncx CX P w K mg base N ⟨name, qual, params, supSt p0 p1 p2 p3 p4 (e :: es) :: rest, scope, [("__class__", cc)], cda⟩ f A outer s H E) (e :: es) ta ∧
        PSs (ncx CX P w K mg base N ⟨name, qual, params, supSt p0 p1 p2 p3 p4 (e :: es) :: rest, scope, [("__class__", cc)], cda⟩ f A outer s H E) rest tr ∧
        Passes CX (ncx CX P w K mg base N ⟨name, qual, params, supSt p0 p1 p2 p3 p4 (e :: es) :: rest, scope, [("__class__", cc)], cda⟩ f A outer s H E) Ei ∧ vs = .ref a :: us0 ∧ H a = some (.ins C dx fs) ∧
        ta (startF N vs [none]) H (fun ws H1 => si (.ref a :: ws) H1 (fun _ H2 => tr { nx := fun _ H' => Q .non H', rt := Q } (startF N vs [none]) H2) Ei)) :
    FnOk P w K mg base CX (k + 1) f (PySem.W.ksFn name qual params (supSt p0 p1 p2 p3 p4 (e :: es) :: rest) scope dV kV doc pm an (.ref cda) ct cc) ps sp := by
  refine ⟨len, fun A outer s H args us vs Q E hr e0 hb r asked => ?_⟩
  have hl := len _ _ _ _ asked
  have kb : ∀ b o, base.get? b = some o → s.heap.get? b = some o := fun b o z => (e0.bs b o z).1
  have KX : K.In s.heap := e0.mod.kin.keeps kb
  have lim : s.heap.NoLimit := e0.mod.nolimit.keeps kb
  obtain ⟨cl, cld, csl, hcell⟩ := SC.cell
  obtain ⟨ccl, cdd, fv, ccs, tf, hcode, hfv⟩ := SC.code
  obtain ⟨cdD, hD⟩ := SC.isD
  have C0 : CellsAt [("__class__", cc)] ["__class__"] [none] s.heap H := by
    refine ⟨rfl, fun y c z => ?_, fun y z c h1 h2 => ?_, fun i y z => ?_⟩
    · have hc : c = cc := by
        simp only [List.lookup] at z
        split at z
        · exact (Option.some.inj z).symm
        · cases z
      subst hc
      exact ⟨(e0.bs _ _ (e0.mod.kin _ _ hcell)).2, _, _, KX _ _ hcell, rfl⟩
    · have one : ∀ {t : Str}, [(("__class__" : Str), cc)].lookup t = some c → t = "__class__" := fun {t} h => by
        simp only [List.lookup] at h
        split at h
        · exact beq_iff_eq.mp (by assumption)
        · cases h
      rw [one h1, one h2]
    · have hy : y = "__class__" := by
        cases i with
        | zero => simpa using z.symm
        | succ n => simp at z
      subst hy
      exact ⟨cc, rfl, fun v h => by cases i <;> simp at h⟩
  refine ks_codeAny_call_defAt (fd := PySem.W.ksFn name qual params (supSt p0 p1 p2 p3 p4 (e :: es) :: rest) scope dV kV doc pm an (.ref cda) ct cc) (body := supSt p0 p1 p2 p3 p4 (e :: es) :: rest) (binds := ps.zip us) hr.depth (KX _ _ lk) rfl lim (PySem.W.codeRec_of KX hcd) rfl hb S.nocell (fun ⟨n, _⟩ hy => S.par n (List.of_mem_zip hy).1) (fun h₁ hns kp => ?_) S.co S.gen S.kind
  obtain ⟨ta, tr, a, dx, fs, us0, Ei, hpa, hps, hpass, ev, ha, hq⟩ := hbody A outer s H vs Q E (hr.deeper _) asked
  subst ev
  have I : Inv (ncx CX P w K mg base N ⟨name, qual, params, supSt p0 p1 p2 p3 p4 (e :: es) :: rest, scope, [("__class__", cc)], cda⟩ f A outer s H E) [] (startF N (.ref a :: us0) [none]) H { s with heap := h₁, toks := s.toks + (ps.zip us).length } := inv_startN (F := ⟨name, qual, params, supSt p0 p1 p2 p3 p4 (e :: es) :: rest, scope, [("__class__", cc)], cda⟩) S hr.hd e0 hl r C0 hns kp
  generalize hX : ncx CX P w K mg base N ⟨name, qual, params, supSt p0 p1 p2 p3 p4 (e :: es) :: rest, scope, [("__class__", cc)], cda⟩ f A outer s H E = X at I hpa hps hpass
  have hXr := hX
  subst hX
  have rm := hr.deeper (PySem.W.ksEnv qual scope s.heap.objs.size f (.ref cda) cc)
  show PySem.wpAt (model P w) (A.deeper (PySem.W.ksEnv qual scope s.heap.objs.size f (.ref cda) cc)) (.func (supSt p0 p1 p2 p3 p4 (e :: es) :: rest) (PySem.W.ksEnv qual scope s.heap.objs.size f (.ref cda) cc)) (execs (supSt p0 p1 p2 p3 p4 (e :: es) :: rest) (PySem.W.ksEnv qual scope s.heap.objs.size f (.ref cda) cc)) _ _ _
  refine ks_wpAt_execs_cons (ks_wpAt_Expr_any (ks_wpAt_MethodCall (pl := pl) ?_ (hev _)) (hi _) (hsw _))
  have KI := I.kIn
  refine ks_wpAt_super_base (env := PySem.W.ksEnv qual scope s.heap.objs.size f (.ref cda) cc) hks hkc (by decide) rfl (KI _ _ lk) rfl hpar rfl (KI _ _ hcode) rfl hfv hfile htop ?_
  obtain ⟨mb, hb1, hb2⟩ := I.mod.blt
  refine PySem.W.ks_loadName_global S.kind hks (Calls.loadGlobal_builtin (env := PySem.W.ksEnv qual scope s.heap.objs.size f (.ref cda) cc) (I.mod.glob.keeps I.bk) SC.nosup (hb1.keeps I.bk) ((hb2 "super" (by decide)).trans (by rfl)) ⟨rfl, ?_⟩)
  refine wpAny_loadName_free S.kind hkc rfl ⟨_, KI _ _ hcell, rfl⟩ ?_
  obtain ⟨m, hn, hl'⟩ := I.loc
  obtain ⟨u, ru, lku⟩ := hl' 0 ar.arg (.ref a) hN rfl (.inl hka)
  cases (show u = Value.ref a from ru)
  have hmu : m ar.arg = some (.ref a) := by
    rcases lku with ⟨_, z⟩ | ⟨z, _⟩
    · exact z
    · have hk' : scope.names.lookup ar.arg = some .cell ∨ scope.names.lookup ar.arg = some .free := z
      rw [hka] at hk'
      rcases hk' with z | z <;> cases z
  refine wpAny_loadName_local S.kind hka hn hmu ?_
  obtain ⟨oD, hD1, hD2⟩ : ∃ oD, h₁.get? D = some oD ∧ oD.data = .cls cdD := by
    unfold PySem.W.clsIn at hD
    split at hD
    · rename_i c d cd' sl ho
      cases hD
      exact ⟨_, KI _ _ ho, rfl⟩
    · cases hD
  refine ks_wpAny_isType_cls hD1 hD2 (And.intro rfl ?_)
  obtain ⟨hoa, oda, J⟩ := inst_of' I ha
  refine ks_wpAny_call_super hD1 hD2 J.at_ J.cls (fun c z => ?_) (PySem.W.looks_mroIn KI SC.sub) (fun h2 e2 k2 => ?_)
  · have := J.no
    unfold PySem.W.notCls at this
    rw [z] at this
    exact Bool.noConfusion this
  have I2 := I.kept (h' := h2) (t' := s.toks + (ps.zip us).length) k2
  have K2 := I2.kIn
  obtain ⟨hoa2, oda2, J2⟩ := inst_of' I2 ha
  have sup := SC.sup
  unfold PySem.W.ks_superIn at sup
  cases hc : PySem.W.clsIn K C with
  | none => rw [hc] at sup; cases sup
  | some cdC =>
  rw [hc] at sup
  obtain ⟨og, hog, hogc⟩ : ∃ og, h2.get? g = some og ∧ og.cls = .type "function" := by
    have ht' : (K.lookup g).map (·.cls) = some (.type "function") := SC.tg
    cases z : K.lookup g with
    | none =>
      rw [z] at ht'
      cases ht'
    | some og =>
      rw [z] at ht'
      exact ⟨og, K2 _ _ z, Option.some.inj ht'⟩
  refine ks_wpAny_getMethod_super e2 (PySem.W.looks_opaque K2 SC.opq) (l₀ := cdC.mro) (fun A Q E s k q => wpAny_bind ((PySem.W.looks_clsIn K2 hc) A _ E s k (wpAny_pure q))) rfl K2 sup hog hogc (PySem.W.ks_ne K2 J2 hc) (by decide) ?_
  have I3 : Inv (ncx CX P w K mg base N ⟨name, qual, params, supSt p0 p1 p2 p3 p4 (e :: es) :: rest, scope, [("__class__", cc)], cda⟩ f A outer s H E) [(h2.objs.size, PySem.W.methodObj (.ref g) (.ref a))] (startF N (.ref a :: us0) [none]) H ⟨h2.push (PySem.W.methodObj (.ref g) (.ref a)), s.gens, s.drawn, s.toks + (ps.zip us).length + 1, s.os⟩ :=
    pin_new (s := ⟨h2, s.gens, s.drawn, s.toks + (ps.zip us).length, s.os⟩) I2 (fun _ _ z => Heap.get?_push_of_some _ z) (Nat.le_refl _) (Heap.get?_push_size h2 rfl) (fun v z => nomatch z)
  have hbq : base.get? h2.objs.size = none := base_none I2 (Nat.le_refl _)
  have hL : h2.objs.size ≠ s.heap.objs.size := (I3.pin (h2.objs.size, PySem.W.methodObj (.ref g) (.ref a)) (List.mem_append_right _ List.mem_cons_self)).2.2.1
  refine PySem.W.callWith_M (K := K) (h₀ := base) (first := []) e0.mod.kin (news_at hL hbq (pin_at I3)) List.mem_cons_self SC.fg ?_ (hst _) (hpl _)
  refine wpAny_mono (hpa.run p3 _ _ _ H _ I3 hq) (fun ws s4 h4 => ?_) fun _ _ z => z
  obtain ⟨vs4, H4, I4, r4, q4⟩ := h4
  refine ⟨⟨pin_at I4, I4.kIn⟩, ?_⟩
  have lenq : (Value.ref a :: ws).length = qs.length := by
    have z := G.len _ _ _ _ q4
    rw [← z, List.length_cons, List.length_cons, r4.length]
  have bound := bd s4 (Value.ref a :: ws) I4.kIn (by rw [List.append_nil]; exact lenq)
  rw [List.append_nil] at bound
  have rm' : Room k (A.deeper (PySem.W.ksEnv qual scope s.heap.objs.size f (.ref cda) cc)) := hr.deeper _
  refine wpAny_mono (Q := fun u s' => EP (ncx CX P w K mg base N ⟨name, qual, params, supSt p0 p1 p2 p3 p4 (e :: es) :: rest, scope, [("__class__", cc)], cda⟩ f A outer s H E) [(h2.objs.size, PySem.W.methodObj (.ref g) (.ref a))] (startF N (.ref a :: us0) [none]) (fun _ H2 => tr { nx := fun _ H' => Q .non H', rt := Q } (startF N (.ref a :: us0) [none]) H2) u s')
    (wpAny_call (PySem.W.method_call (pin_at I4) (codeAny_mono (G.run _ _ s4 H4 ⟨Value.ref a :: ws, []⟩ (Value.ref a :: ws) (.ref a :: vs4) _ Ei (rm'.mono hj) I4.env0 bound (.cons rfl r4) q4) fun rr s' back => ?_))) (fun u s5 h5 => ?_) fun _ _ z => z
  · cases rr with
    | error er => exact hpass _ _ _ _ er s' I4 back
    | ok fl =>
      cases fl with
      | ret u => exact I4.after back
      | next => exact back.elim
      | brk => exact back.elim
      | cont => exact back.elim
  · obtain ⟨v5, H5, I5, _, q5⟩ := unpinE h5
    refine PySem.wpAt_of_wpAny ?_
    refine wpAny_mono (hps.run [] _ _ H5 _ I5 q5) (fun fl s' hs => ?_) fun er s' hs => hs
    have last : ∀ {τ : L2.St} {G' : Hp} {x : V} {y : Value}, Inv (ncx CX P w K mg base N ⟨name, qual, params, supSt p0 p1 p2 p3 p4 (e :: es) :: rest, scope, [("__class__", cc)], cda⟩ f A outer s H E) [] τ G' s' → L2.RelV x y → Q x G' → CE outer P w H s Q y s' :=
      fun {_ G' x _} Z rel z => ⟨x, G', Z.os, Z.bare, Z.base, Z.hok, rel, z⟩
    cases fl with
    | next =>
      obtain ⟨_, _, Z, z⟩ := hs
      exact last (x := V.non) (y := Value.none) Z rfl z
    | ret y =>
      obtain ⟨_, _, _, Z, rel, z⟩ := hs
      exact last Z rel z
    | brk => exact hs.elim fun _ ⟨_, _, z⟩ => z.elim
    | cont => exact hs.elim fun _ ⟨_, _, z⟩ => z.elim
end
/-- such a method as the top has written it: cc the cell of its class, cda its code -/
def FunS (K : PySem.W.Frag) (name qual : Str) (st : Stmt) (cc cda f : Addr) (fd : FuncData) : Prop :=
  (∃ (oc : Value) (od : Option Addr) (kV doc pm : Value) (an : Option Addr) (ct : Value) (osl : Array (Option Value)), fd = PySem.W.ksFn name qual (defArgs st) (defBody st) (defScope st) .none kV doc pm an (.ref cda) ct cc ∧
    K.lookup f = some ⟨oc, od, .func fd, osl⟩ ∧ PySem.W.codeIn K (.ref cda) qual = true) ∧ PySem.W.keepIn K (.ref f) = true
theorem FunS.binds {K : PySem.W.Frag} {name qual : Str} {st : Stmt} {cc cda f : Addr} {fd : FuncData} {ps : List Str} (F : FunS K name qual st cc cda f fd)
    (h : ∀ (kV doc pm : Value) (an : Option Addr) (ct : Value) (us : List Value), us.length = ps.length → bindArgs (PySem.W.ksFn name qual (defArgs st) (defBody st) (defScope st) .none kV doc pm an (.ref cda) ct cc) ⟨us, []⟩ = pure (ps.zip us)) : Binds K fd ps [] := by
  obtain ⟨⟨oc, od, kV, doc, pm, an, ct, osl, rfl, _, _⟩, _⟩ := F
  exact .all (h kV doc pm an ct)

/-! ### isinstance of a caught error, with or without fields -/
section
variable {X : Cx}
def rIsY (K : PySem.W.Frag) (a : Addr) (cls : Value) (d : Option Addr) : List V → Hp → VK → Prop := fun xs H Q => ∃ D : Addr, ExcC K D ∧ cls = .ref D ∧ (d = none ∨ ∃ dd fs, d = some dd ∧ H dd = some (.xd fs)) ∧ rIsE K D a xs H Q
theorem call_isY {K : PySem.W.Frag} {a : Addr} {cls : Value} {d : Option Addr} {oe : Obj} {pn : List (Addr × Obj)} (hz : Zc cls d oe) (hf : ∃ vs, oe.data = .fields vs) (hK : X.K = K := by rfl) :
    CallR (X.suite a ((a, oe) :: pn)) (.builtin "isinstance") (rIsY K a cls d) := by
  intro pins s σ H xs us Q I r h
  subst hK
  obtain ⟨D, ec, rfl, hd, h⟩ := h
  rcases hd with rfl | ⟨dd, fs, rfl, hdd⟩
  · exact call_isE ec hz hf pins s σ H xs us Q I r h
  · obtain ⟨c, cv, b, rfl, same, known, q⟩ := h
    obtain ⟨w1, ws, rfl, r1, rs⟩ : ∃ w1 ws, us = w1 :: ws ∧ RelV (.ref a) w1 ∧ Vals [c] ws := by
      cases r with
      | cons p t => exact ⟨_, _, rfl, p, t⟩
    obtain ⟨w2, rfl, r2⟩ : ∃ w2, ws = [w2] ∧ RelV c w2 := by
      cases rs with
      | cons p t =>
        cases t
        exact ⟨_, rfl, p⟩
    cases (show w1 = Value.ref a from r1)
    cases same _ r2
    obtain ⟨there, _⟩ := I.pin (a, oe) (List.mem_append.mpr (.inl List.mem_cons_self))
    obtain ⟨vs, hv⟩ := hf
    obtain ⟨mA, ns, _⟩ := (show ObjOk X.prog X.w H s.heap dd (.xd fs) from I.hok dd _ hdd)
    obtain ⟨od, ho, _⟩ := lookIn_ns ns
    have J : PySem.W.InstAt s.heap a oe D (some od) := ⟨there, hz.1, by unfold PySem.W.notCls; rw [hv] <;> rfl, by rw [hz.2]; exact ho⟩
    have cl : (PySem.W.clsIn X.K D).isSome = true := by
      obtain ⟨cd, hc, _⟩ := PySem.W.any_some ec.hd
      rw [hc]
      rfl
    exact PySem.W.kia_one (PySem.W.kitx_exc cl ec.hg ec.hk ec.hs ec.ha ec.hn ec.ht ec.hm) I.kIn J known (fun z => nomatch z) fun tk => ⟨.bl b, H, I.kept (t' := tk) fun _ _ z => z, rfl, q⟩
end

/-! ### try with several «except C as n» -/
/-- what the clauses wish of an error, one after the other: class, the name's slot, the suite's reading -/
def wAsM (K : PySem.W.Frag) (out : WX) (D : Ends) : List (Value × Nat × (Addr → Value → Option Addr → TS)) → WX
  | [] => out
  | (c, i, t) :: more => fun cls d σ H => ∃ b, PySem.W.exmOne K cls c = some b ∧
      (b = true → ∀ a, H a = none → t a cls d { nx := fun σ' H' => D.nx (σ'.set i none) H', rt := D.rt, bk := fun σ' H' => D.bk (σ'.set i none) H', ct := fun σ' H' => D.ct (σ'.set i none) H' } (σ.set i (some (.ref a))) H) ∧
      (b = false → wAsM K out D more cls d σ H)
inductive ClausesOk (X : Cx) : List ExceptHandler → List (Value × Nat × (Addr → Value → Option Addr → TS)) → Prop
  | nil : ClausesOk X [] []
  | cons {x n : Str} {c : Value} {i : Nat} {t : Addr → Value → Option Addr → TS} {st : Stmt} {sts : List Stmt} {q q' : Pos} {hs : List ExceptHandler} {ls : List (Value × Nat × (Addr → Value → Option Addr → TS))} (known : Names X x c) (slot : X.N[i]? = some n)
      (lo : X.env.kindOf n = some .local) (suite : ∀ (a : Addr) (oe : Obj) (cls : Value) (d : Option Addr) (pn : List (Addr × Obj)), Zc cls d oe → (∃ vs, oe.data = .fields vs) → PSs (X.suite a ((a, oe) :: pn)) (st :: sts) (t a cls d))
      (more : ClausesOk X hs ls) : ClausesOk X (.ExceptHandler (some (.Name x q)) (some n) (st :: sts) q' :: hs) ((c, i, t) :: ls)
  | bare {x : Str} {c : Value} {i : Nat} {t : Addr → Value → Option Addr → TS} {st : Stmt} {sts : List Stmt} {q q' : Pos} {hs : List ExceptHandler} {ls : List (Value × Nat × (Addr → Value → Option Addr → TS))} (known : Names X x c) (off : X.N.length ≤ i)
      (suite : ∀ (a : Addr) (oe : Obj) (cls : Value) (d : Option Addr) (pn : List (Addr × Obj)), Zc cls d oe → (∃ vs, oe.data = .fields vs) → PSs (X.suite a ((a, oe) :: pn)) (st :: sts) (t a cls d))
      (more : ClausesOk X hs ls) : ClausesOk X (.ExceptHandler (some (.Name x q)) none (st :: sts) q' :: hs) ((c, i, t) :: ls)
section
variable {X : Cx} {body : List Stmt} {h1 : ExceptHandler} {hs : List ExceptHandler} {ls : List (Value × Nat × (Addr → Value → Option Addr → TS))} {pos : Pos} {tb : WX → TS} {out : WX}
theorem ps_try_asM (st : X.stack = X.env :: X.outer) (fr : X.env.frame = some X.env.locals) (nd : X.N.Nodup) (tk : Takes X out)
    (runs : ∀ (W : WX) (pn : List (Addr × Obj)) (xe : Value → Shared → Prop), Takes (X.tr pn xe) W → PassesOwn (model X.prog X.w) X.A X.env xe → PSs (X.tr pn xe) body (tb W))
    (cl : ClausesOk X (h1 :: hs) ls) : PS X (.Try body (h1 :: hs) [] [] pos) (fun D σ H => tb (wAsM X.K out D ls) D σ H) := by
  refine ⟨fun pins s σ H D I want => ?_⟩
  have ok := I.ok
  have frames : X.A.frames = some (X.env :: X.outer) := by rw [ok.frames, st]
  refine wpAny_Try_except ?_
  refine wpAny_mono ((runs (wAsM X.K out D ls) (X.pn ++ pins) (fun u t1 => wpAny (model X.prog X.w) X.A (noteFrame u X.env) (fun _ t2 => wpAny (model X.prog X.w) X.A (setFlight u none)
    (fun _ t3 => wpAny (model X.prog X.w) X.A (handleBy u X.env (h1 :: hs)) (SP X pins D) X.xe t3) X.xe t2) X.xe t1) (fun u t0 flown => ?_) PassesOwn.looking).run [] s σ H D (I.toTry _) want) (fun f t0 done => ?_) (fun _ _ y => y)
  · obtain ⟨a, B, sI, pins1, σ1, H1, cls, d, rfl, J0, bare, kept, sky, fresh, osE, agree, wish⟩ := flown
    have J : Inv X pins σ1 H1 sI := J0.ofTry ok
    have sky1 : Sky B (X.env :: X.outer) a (Zc cls d) X.env.locals t0.heap := st ▸ sky
    show wpAny (model X.prog X.w) X.A (noteFrame (.ref a) X.env) _ X.xe t0
    refine Sky.land Zc.steady frames fr sky1 fun g fl up => ?_
    obtain ⟨oe, vs, atE, zE, dataE⟩ := fl.there
    have outF : a ∉ frs (X.env :: X.outer) := fun mem => by
      obtain ⟨_, o, here, no⟩ := fl.2.2.1.mem mem
      cases atE.symm.trans here
      exact no _ dataE
    have nL : a ≠ X.env.locals := fun z => outF (List.mem_filterMap.mpr ⟨X.env, List.mem_cons_self, by rw [fr, z]⟩)
    have nF : a ∉ X.fs := fun mem => outF (by
      obtain ⟨e, m1, m2⟩ := List.mem_filterMap.mp mem
      exact List.mem_filterMap.mpr ⟨e, List.mem_cons_of_mem _ m1, m2⟩)
    have J1 : Inv X pins σ1 H1 { t0 with heap := g } := J.landed bare fl.1 (kept.trans up) osE agree
    have S1 := J1.suite atE dataE fresh nL nF
    have go : ∀ {hh : List ExceptHandler} {ll : List (Value × Nat × (Addr → Value → Option Addr → TS))}, ClausesOk X hh ll → wAsM X.K out D ll cls d σ1 H1 → wpAny (model X.prog X.w) X.A (handleBy (.ref a) X.env hh) (SP X pins D) X.xe { t0 with heap := g } := by
      intro hh ll cc
      induction cc with
      | nil =>
        intro fly
        refine wpAny_handleBy_nil ?_
        obtain ⟨_, _, _, o, ws, T, oT, ts, g1, g2, g3, g4, _⟩ := id fl
        unfold PySem.passOn
        refine wpAny_bind (wpAny_field g1 g3 g4 ?_)
        rw [if_neg (by simp : ¬ ((Value.ref T == Value.none) = true))]
        have on : wpAny (model X.prog X.w) X.A (setFlight (.ref a) X.env.frame) (fun _ t4 => wpAny (model X.prog X.w) X.A (throw (.ref a) : Sem Flow) (SP X pins D) X.xe t4) X.xe { t0 with heap := g } := by
          rw [fr]
          exact HandSPX.setFlight_upZ fl fun g' sky' up' => wpAny_throw (tk _ _ ⟨a, B, sI, pins, σ1, H1, cls, d, rfl, J, bare, (kept.trans up).trans up', .inr (.inr (by rw [st]; exact sky')), fresh, osE, agree, fly⟩)
        first
          | exact wpAny_bind (wpAny_pure (wpAny_bind on))
          | exact wpAny_bind on
      | @cons x n c i t b₀ bs q q' hs' ls' known slot lo suite more ih =>
        intro w1
        obtain ⟨b, asked, yes, no⟩ := w1
        refine wpAny_handleBy_cons (codeAny_handlers_test ?_) (fun z => by cases z)
        have typ : PySem.W.Looks (model X.prog X.w) g (typeOf (.ref a)) cls := fun _ _ _ _ k z => wpAny_typeOf_ref (k _ _ atE) (by rw [zE.1]; exact z)
        have name : ∀ {Q : Value → Shared → Prop} {E : Value → Shared → Prop}, Q c { t0 with heap := g } → wpAny (model X.prog X.w) (X.A.mark (some (.ref a))) (eval (.Name x q) X.env) Q E { t0 with heap := g } := fun {Q E} z => by
          obtain ⟨k1, k2, k3 | ⟨k3, k4, k5⟩⟩ := known
          · exact ld_glob (X := X.suite a ((a, oe) :: (X.pn ++ pins))) S1 k1 k3 z k2
          · exact ld_blt (X := X.suite a ((a, oe) :: (X.pn ++ pins))) S1 k1 k3 k4 z k5 k2
        refine name ((PySem.W.exm_one (M := model X.prog X.w) J1.kIn typ asked).here ?_)
        cases b with
        | false => exact ih (no rfl)
        | true =>
          refine codeAny_handlers_suite_as (HandSPX.lands_againZ fl fun g' fl' up' => ?_)
          obtain ⟨oe', ws, atE', zE', dataE'⟩ := fl'.there
          have J2 : Inv X pins σ1 H1 { t0 with heap := g' } := J.landed bare fl'.1 ((kept.trans up).trans up') osE agree
          have S2 := J2.suite atE' dataE' fresh nL nF
          refine store_ok (X := X.suite a ((a, oe') :: (X.pn ++ pins))) (v := .ref a) S2 nd slot (.inl lo) rfl (fun t5 S5 => ?_) (.inr lo)
          refine wpAny_mono ((suite a oe' cls d (X.pn ++ pins) zE' ⟨_, dataE'⟩).run [] t5 _ H1 _ S5 (yes rfl a fresh)) (fun f t6 done => ?_) (fun _ _ z => z.elim)
          have gone : ∀ {σ6 : L2.St} {H6 : Hp} {Q : Shared → Prop}, Inv (X.suite a ((a, oe') :: (X.pn ++ pins))) [] σ6 H6 t6 → (∀ t7, Inv X pins (σ6.set i none) H6 t7 → Q t7) →
              wpAny (model X.prog X.w) X.A (do bindName X.env n .none; unbindBehindTheSuite X.env n q') (fun _ t7 => Q t7) X.xe t6 := fun S6 z => gone_ok (S6.unsuite ok) nd slot lo z
          cases f with
          | ret u =>
            obtain ⟨v6, σ6, H6, S6, r6, q6⟩ := done
            exact gone S6 fun _ J7 => ⟨_, _, _, J7, r6, q6⟩
          | next =>
            obtain ⟨_, _, S6, q6⟩ := done
            exact gone S6 fun _ J7 => ⟨_, _, J7, q6⟩
          | brk =>
            obtain ⟨_, _, S6, q6⟩ := done
            exact gone S6 fun _ J7 => ⟨_, _, J7, q6⟩
          | cont =>
            obtain ⟨_, _, S6, q6⟩ := done
            exact gone S6 fun _ J7 => ⟨_, _, J7, q6⟩
      | @bare x c i t b₀ bs q q' hs' ls' known off suite more ih =>
        intro w1
        obtain ⟨b, asked, yes, no⟩ := w1
        refine wpAny_handleBy_cons (codeAny_handlers_test ?_) (fun z => by cases z)
        have typ : PySem.W.Looks (model X.prog X.w) g (typeOf (.ref a)) cls := fun _ _ _ _ k z => wpAny_typeOf_ref (k _ _ atE) (by rw [zE.1]; exact z)
        have name : ∀ {Q : Value → Shared → Prop} {E : Value → Shared → Prop}, Q c { t0 with heap := g } → wpAny (model X.prog X.w) (X.A.mark (some (.ref a))) (eval (.Name x q) X.env) Q E { t0 with heap := g } := fun {Q E} z => by
          obtain ⟨k1, k2, k3 | ⟨k3, k4, k5⟩⟩ := known
          · exact ld_glob (X := X.suite a ((a, oe) :: (X.pn ++ pins))) S1 k1 k3 z k2
          · exact ld_blt (X := X.suite a ((a, oe) :: (X.pn ++ pins))) S1 k1 k3 k4 z k5 k2
        refine name ((PySem.W.exm_one (M := model X.prog X.w) J1.kIn typ asked).here ?_)
        cases b with
        | false => exact ih (no rfl)
        | true =>
          refine codeAny_handlers_suite (HandSPX.lands_againZ fl fun g' fl' up' => ?_)
          obtain ⟨oe', ws, atE', zE', dataE'⟩ := fl'.there
          have J2 : Inv X pins σ1 H1 { t0 with heap := g' } := J.landed bare fl'.1 ((kept.trans up).trans up') osE agree
          have S2 := J2.suite atE' dataE' fresh nL nF
          have w2 := yes rfl a fresh
          have l1 : σ1.length = X.N.length := J2.len
          rw [List.set_eq_of_length_le (by omega)] at w2
          refine wpAny_mono ((suite a oe' cls d (X.pn ++ pins) zE' ⟨_, dataE'⟩).run [] _ _ H1 _ S2 w2) (fun f t6 done => ?_) (fun _ _ z => z.elim)
          have off6 : ∀ {σ6 : L2.St} {H6 : Hp}, Inv (X.suite a ((a, oe') :: (X.pn ++ pins))) [] σ6 H6 t6 → σ6.set i none = σ6 := fun {σ6 _} S6 => by
            have l6 : σ6.length = X.N.length := S6.len
            exact List.set_eq_of_length_le (by omega)
          cases f with
          | ret u =>
            obtain ⟨v6, σ6, H6, S6, r6, q6⟩ := done
            exact ⟨_, _, _, S6.unsuite ok, r6, q6⟩
          | next =>
            obtain ⟨σ6, H6, S6, q6⟩ := done
            have q6 : D.nx (σ6.set i none) H6 := q6
            rw [off6 S6] at q6
            exact ⟨_, _, S6.unsuite ok, q6⟩
          | brk =>
            obtain ⟨σ6, H6, S6, q6⟩ := done
            have q6 : D.bk (σ6.set i none) H6 := q6
            rw [off6 S6] at q6
            exact ⟨_, _, S6.unsuite ok, q6⟩
          | cont =>
            obtain ⟨σ6, H6, S6, q6⟩ := done
            have q6 : D.ct (σ6.set i none) H6 := q6
            rw [off6 S6] at q6
            exact ⟨_, _, S6.unsuite ok, q6⟩
    exact go cl wish
  · cases f with
    | ret u =>
      obtain ⟨v, _, _, J1, r1, q1⟩ := done
      exact ⟨v, _, _, J1.ofTry ok, r1, q1⟩
    | next =>
      obtain ⟨_, _, J1, q1⟩ := done
      exact wpAny_execs_nil ⟨_, _, J1.ofTry ok, q1⟩
    | brk =>
      obtain ⟨_, _, J1, q1⟩ := done
      exact ⟨_, _, J1.ofTry ok, q1⟩
    | cont =>
      obtain ⟨_, _, J1, q1⟩ := done
      exact ⟨_, _, J1.ofTry ok, q1⟩
end

/-! ### errors of two fields -/
/-- the heap behind C(x, y), where __init__ stores both -/
def errH (H : Hp) (a C dx : Addr) (f g : Str) (x y : V) : Hp := upd (upd (upd H dx (exd dx [(f, x)])) a (exo a C (some dx))) dx (exd dx [(g, y), (f, x)])
theorem raise2 {C : Addr} {f g : Str} {x y : V} {H : Hp} {Q : XK} (hq : ∀ d, H d = none → Q (.ref C) (some d) (upd H d (.xd [(g, y), (f, x)]))) {a dx : Addr} (na : H a = none) (nd : upd H a (exo a C none) dx = none) (ne : dx ≠ a) :
    V.non = .non ∧ ∃ (d : Addr) (fs : List (Str × V)), errH (upd H a (exo a C none)) a C dx f g x y a = some (exo a C (some d)) ∧ errH (upd H a (exo a C none)) a C dx f g x y d = some (exd d fs) ∧ H d = none ∧
      Q (.ref C) (some d) (upd (del (errH (upd H a (exo a C none)) a C dx f g x y) a) d (.xd fs)) := by
  rw [upd_ne ne] at nd
  refine ⟨rfl, dx, _, ?_, upd_same, nd, ?_⟩
  · unfold errH
    rw [upd_ne (Ne.symm ne), upd_same]
  · have e : upd (del (errH (upd H a (exo a C none)) a C dx f g x y) a) dx (.xd [(g, y), (f, x)]) = upd H dx (.xd [(g, y), (f, x)]) := by
      funext b
      by_cases h1 : b = dx
      · rw [h1, upd_same, upd_same]
      · rw [upd_ne h1, upd_ne h1]
        by_cases h2 : b = a
        · rw [h2, del_same, na]
        · rw [del_ne h2]
          unfold errH
          rw [upd_ne h1, upd_ne h2, upd_ne h1, upd_ne h2]
    rw [e]
    exact hq dx nd
/-- the first weight below 1, from place i on -/
def badAt : List Int → Nat → Option Nat
  | [], _ => none
  | n :: r, i => if n < 1 then some i else badAt r (i + 1)

/-- the fields of a Weighted -/
def fW (m aside : Int) (t : Addr) : List (Str × V) := putF "aside" (.int aside) (putF "weights" (.ref t) (putF "many" (.int m) []))
/-- nothing but the object at p is another -/
def SameX (p : Addr) (H H' : Hp) : Prop := ∀ b o, b ≠ p → H b = some o → H' b = some o
theorem SameX.trans {p : Addr} {H H' H2 : Hp} (h : SameX p H H') (k : SameX p H' H2) : SameX p H H2 := fun b o n z => k b o n (h b o n z)
theorem SameX.new {p : Addr} {H : Hp} {a : Addr} {o : HO} (n : H a = none) : SameX p H (upd H a o) := fun b u _ z => (upd_ne (ne_of_none z n)).trans z
theorem SameX.put {p : Addr} {H : Hp} {o : HO} : SameX p H (upd H p o) := fun b u n z => (upd_ne n).trans z

/-- the first number below b, from place i on -/
def lowAt (b : Int) : List Int → Nat → Option Nat
  | [], _ => none
  | n :: r, i => if n < b then some i else lowAt b r (i + 1)
theorem low_bad : ∀ (ns : List Int) (i : Nat), lowAt 1 ns i = badAt ns i
  | [], _ => rfl
  | n :: r, i => by
    unfold lowAt badAt
    rw [low_bad r (i + 1)]

theorem same_sx {p : Addr} {H H' : Hp} (h : Same H H') : SameX p H H' := fun b o _ z => h b o z

/-! ### super().m(e, ..) in a method's own block, anywhere: statements that know the code they stand in -/
structure PEA (X : Cx) (c : Code) (e : Expr) (t : TE) : Prop where
  run : ∀ (pins : List (Addr × Obj)) (s : Shared) (σ : L2.St) (H : Hp) (Q : VK), Inv X pins σ H s → t σ H Q → PySem.wpAt (model X.prog X.w) X.A c (eval e X.env) (EP X pins σ Q) X.xe s
structure PSA (X : Cx) (c : Code) (st : Stmt) (t : TS) : Prop where
  run : ∀ (pins : List (Addr × Obj)) (s : Shared) (σ : L2.St) (H : Hp) (D : Ends), Inv X pins σ H s → t D σ H → PySem.wpAt (model X.prog X.w) X.A c (exec st X.env) (SP X pins D) X.xe s
structure PSAs (X : Cx) (c : Code) (st : List Stmt) (t : TS) : Prop where
  run : ∀ (pins : List (Addr × Obj)) (s : Shared) (σ : L2.St) (H : Hp) (D : Ends), Inv X pins σ H s → t D σ H → PySem.wpAt (model X.prog X.w) X.A c (execs st X.env) (SP X pins D) X.xe s
section
variable {X : Cx} {c : Code} {e b : Expr} {rest' : List Expr} {st : Stmt} {rest : List Stmt} {t u : TS} {te tb : TE} {pos : Pos}
theorem pea_pe (h : PE X e te) : PEA X c e te := ⟨fun pins s σ H Q I q => PySem.wpAt_of_wpAny (h.run pins s σ H Q I q)⟩
theorem psa_ps (h : PS X st t) : PSA X c st t := ⟨fun pins s σ H D I q => PySem.wpAt_of_wpAny (h.run pins s σ H D I q)⟩
theorem psas_pss (h : PSs X rest t) : PSAs X c rest t := ⟨fun pins s σ H D I q => PySem.wpAt_of_wpAny (h.run pins s σ H D I q)⟩
theorem psas_cons (h1 : PSA X c st t) (h2 : PSAs X c rest u) : PSAs X c (st :: rest) (tSeq t u) := by
  refine ⟨fun pins s σ H D I h => ?_⟩
  refine ks_wpAt_execs_cons (ks_wpAt_mono (h1.run pins s σ H { D with nx := u D } I h) (fun f s1 q => ?_) fun _ _ x => x)
  cases f with
  | next =>
    obtain ⟨σ', H', I', q⟩ := q
    exact h2.run pins s1 σ' H' D I' q
  | ret v => exact q
  | brk => exact q
  | cont => exact q
theorem psas_one (h : PSA X c st t) : PSAs X c [st] t := by
  refine ⟨fun pins s σ H D I q => ?_⟩
  refine ks_wpAt_execs_cons (ks_wpAt_mono (h.run pins s σ H D I q) (fun f s1 q => ?_) fun _ _ x => x)
  cases f with
  | next => exact PySem.wpAt_of_wpAny (wpAny_execs_nil q)
  | ret v => exact q
  | brk => exact q
  | cont => exact q
theorem psa_expr (he : PEA X c e te) (hi : interactive X.env = false := by rfl) (hs : swapsWith e none pos.line X.env = pure false := by rfl) : PSA X c (.Expr e pos) (tDrop te) := by
  refine ⟨fun pins s σ H D I h => ?_⟩
  exact ks_wpAt_Expr_any (ks_wpAt_mono (he.run pins s σ H _ I h) (fun v s1 ⟨x, H1, I1, r1, q1⟩ => ⟨σ, H1, I1, q1⟩) fun _ _ x => x) hi hs
theorem psa_ret (he : PEA X c e te) : PSA X c (.Return (some e) pos) (tRet te) := by
  refine ⟨fun pins s σ H D I h => ?_⟩
  exact ks_wpAt_Return_some (ks_wpAt_mono (he.run pins s σ H _ I h) (fun v s1 ⟨x, H1, I1, r1, q1⟩ => ⟨x, σ, H1, I1, r1, q1⟩) fun _ _ x => x)
theorem psa_set {i : Nat} {x : Str} {pos' : Pos} (hN : X.N.Nodup) (hi : X.N[i]? = some x) (hx : Loc X.env.scope x) (he : PEA X c e te) (hs : swapsWith e (some (.Name x pos')) pos.line X.env = pure false := by rfl) (hf : X.fn x = true ∨ X.env.scope.names.lookup x = some .local := by first | exact .inl rfl | exact .inr rfl | assumption) :
    PSA X c (.Assign [.Name x pos'] e pos) (tAsg te (gName i)) := by
  refine ⟨fun pins s σ H D I h => ?_⟩
  refine ks_wpAt_Assign_Name (ks_wpAt_mono (he.run pins s σ H _ I h) (fun v s1 ⟨y, H1, I1, r1, q1⟩ => ?_) fun _ _ x => x) hs
  exact store_ok I1 hN hi hx r1 (fun s2 I2 => ⟨_, H1, I2, q1⟩) hf
/-- super().m(..) and more -/
theorem pea_and (ha : PEA X c e te) (hb : PE X (.BoolOp .And (b :: rest') pos) tb) : PEA X c (.BoolOp .And (e :: b :: rest') pos) (tAndV te tb) := by
  refine ⟨fun pins s σ H Q I h => ?_⟩
  show PySem.wpAt _ X.A c (do
    let v ← eval e X.env
    standAt pos
    let d ← holding [v] (truthy v)
    match BoolOp.And, d with
    | .And, false | .Or, true => pure v
    | _, _ => boolOp pos .And (eval b X.env :: evalEach rest' X.env)) _ _ s
  refine PySem.wpAt_bind (ks_wpAt_mono (ha.run pins s σ H _ I h) (fun v s1 ⟨x, H1, I1, r1, q1⟩ => ?_) fun _ _ x => x)
  obtain ⟨d, rfl, q1⟩ := q1
  cases r1
  refine PySem.wpAt_of_wpAny (wpAny_bind (wpAny_standAt (wpAny_bind (wpAny_holding (wpAny_truthy_bool ?_)))))
  cases d with
  | true => exact hb.run pins s1 σ H1 Q I1 q1
  | false => exact wpAny_pure ⟨.bl false, H1, I1, rfl, q1⟩
end
/-- what the top has written of a class D above which super() looks, for an instance of the class C: the function g at the name m -/
structure SupM (K : PySem.W.Frag) (mg : Str → Option Value) (C D cc cda g : Addr) (m file : Str) : Prop where
  isD : ∃ cd, PySem.W.clsIn K D = some cd
  sub : PySem.W.mroIn K C (.ref D) = some true
  cell : ∃ cl cld csl, K.lookup cc = some ⟨cl, cld, .cell (some (.ref D)), csl⟩
  code : ∃ ccl cdd vs ccs tf, K.lookup cda = some ⟨ccl, cdd, .fields vs, ccs⟩ ∧ vs[2]? = some (.str file tf)
  sup : PySem.W.ks_superIn K C D m = some (some (.ref g))
  tg : PySem.W.typeIn K (.ref g) = some (.type "function")
  fg : PySem.W.fnIn K g = true
  opq : PySem.W.nsIn K cStatics "thirdparty.any" = some none
  nosup : mg "super" = none
def tSuper (C : Addr) (si : Sp) (Ei : XK) (ta : TA) : TE := fun σ H Q => ∃ (a dx : Addr) (fs : List (Str × V)), σ[0]? = some (some (.ref a)) ∧ H a = some (.ins C dx fs) ∧ ta σ H fun ws H1 => si (.ref a :: ws) H1 Q Ei
theorem pea_super {CX : CXT} {X : Cx} {body : List Stmt} {f g cc cda C D : Addr} {fd0 gd : FuncData} {oc : Value} {od : Option Addr} {osl : Array (Option Value)} {qs : List Str} {si : Sp} {Ei : XK} {e : Expr} {es : List Expr} {m file : Str} {p0 p1 p2 p3 : Pos} {ar : Arg} {pl : Sem Bool} {ta : TA} {j : Nat}
    (lk : X.K.lookup f = some ⟨oc, od, .func fd0, osl⟩) (SC : SupM X.K X.mg C D cc cda g m file) (hfile : ((X.prog.main.file : Str) == file) = true) (htop : (X.prog.main.scope.names.lookup ("super" : Str)).isSome = false) (hpar : (fd0.params.posonlyargs ++ fd0.params.args).head? = some ar) (hN : X.N[0]? = some ar.arg)
    (hkind : X.env.scope.kind = .function) (hka : X.env.scope.names.lookup ar.arg = some .local) (hks : X.env.scope.names.lookup ("super" : Str) = some .globalImplicit) (hkc : X.env.scope.names.lookup ("__class__" : Str) = some .free) (hfu : X.env.func = some f) (hco : X.env.code = .ref cda) (hcl : X.env.cells.lookup ("__class__" : Str) = some cc) (hgl : X.env.globals = mainGlobals) (hbn : X.env.builtins = builtinsNs)
    (G : FnOk X.prog X.w X.K X.mg X.base CX j g gd qs si) (bd : Binds X.K gd qs []) (hr : Room j X.A) (hpass : Passes CX X Ei) (hpa : PA X (e :: es) ta) (hm : (m == ("__class__" : Str)) = false)
    (hev : eval (.Call (.Attribute (.Call (.Name "super" p0) [] [] p1) m p2) (e :: es) [] p3) X.env = (do
      let ov ← attributeBase (.Call (.Name "super" p0) [] [] p1) m X.env (eval (.Call (.Name "super" p0) [] [] p1) X.env)
      standAt p2.atName
      let (f', first) ← holding [ov] (getMethod ov m pl)
      callWith p3 f' first (backTo p3 (starEach (e :: es) X.env)) []))
    (hst : starEach (e :: es) X.env = (false, eval e X.env) :: starEach es X.env) (hpl : (backTo p3 (starEach es X.env)).any (·.1) = false) :
    PEA X (.func body X.env) (.Call (.Attribute (.Call (.Name "super" p0) [] [] p1) m p2) (e :: es) [] p3) (tSuper C si Ei ta) := by
  refine ⟨fun pins s σ H Q I h => ?_⟩
  obtain ⟨a, dx, fs, h0, ha, hq⟩ := h
  obtain ⟨cl, cld, csl, hcell⟩ := SC.cell
  obtain ⟨ccl, cdd, fv, ccs, tf, hcode, hfv⟩ := SC.code
  obtain ⟨cdD, hD⟩ := SC.isD
  refine ks_wpAt_MethodCall (pl := pl) ?_ hev
  have KI := I.kIn
  refine ks_wpAt_super_base hks hkc hm hfu (KI _ _ lk) rfl hpar hco (KI _ _ hcode) rfl hfv hfile htop ?_
  obtain ⟨mb, hb1, hb2⟩ := I.mod.blt
  refine PySem.W.ks_loadName_global hkind hks (Calls.loadGlobal_builtin (env := X.env) (mg := X.mg) (by rw [hgl]; exact I.mod.glob.keeps I.bk) SC.nosup (by rw [hbn]; exact hb1.keeps I.bk) ((hb2 "super" (by decide)).trans (by rfl)) ⟨rfl, ?_⟩)
  refine wpAny_loadName_free hkind hkc hcl ⟨_, KI _ _ hcell, rfl⟩ ?_
  obtain ⟨mm, hn, hl'⟩ := I.loc
  obtain ⟨u, ru, lku⟩ := hl' 0 ar.arg (.ref a) hN h0 (.inl hka)
  cases (show u = Value.ref a from ru)
  have hmu : mm ar.arg = some (.ref a) := by
    rcases lku with ⟨_, z⟩ | ⟨z, _⟩
    · exact z
    · have hk' : X.env.scope.names.lookup ar.arg = some .cell ∨ X.env.scope.names.lookup ar.arg = some .free := z
      rw [hka] at hk'
      rcases hk' with z | z <;> cases z
  refine wpAny_loadName_local hkind hka hn hmu ?_
  obtain ⟨oD, hD1, hD2⟩ : ∃ oD, s.heap.get? D = some oD ∧ oD.data = .cls cdD := by
    unfold PySem.W.clsIn at hD
    split at hD
    · rename_i c d cd' sl ho
      cases hD
      exact ⟨_, KI _ _ ho, rfl⟩
    · cases hD
  obtain ⟨hh, gg, dd, tt, oo⟩ := s
  refine ks_wpAny_isType_cls hD1 hD2 (And.intro rfl ?_)
  obtain ⟨hoa, oda, J⟩ := inst_of' I ha
  refine ks_wpAny_call_super hD1 hD2 J.at_ J.cls (fun c z => ?_) (PySem.W.looks_mroIn KI SC.sub) (fun h2 e2 k2 => ?_)
  · have := J.no
    unfold PySem.W.notCls at this
    rw [z] at this
    exact Bool.noConfusion this
  have I2 := I.kept (h' := h2) (t' := tt) k2
  have K2 := I2.kIn
  obtain ⟨hoa2, oda2, J2⟩ := inst_of' I2 ha
  have sup := SC.sup
  unfold PySem.W.ks_superIn at sup
  cases hc : PySem.W.clsIn X.K C with
  | none => rw [hc] at sup; cases sup
  | some cdC =>
  rw [hc] at sup
  obtain ⟨og, hog, hogc⟩ : ∃ og, h2.get? g = some og ∧ og.cls = .type "function" := by
    have ht' : (X.K.lookup g).map (·.cls) = some (.type "function") := SC.tg
    cases z : X.K.lookup g with
    | none =>
      rw [z] at ht'
      cases ht'
    | some og =>
      rw [z] at ht'
      exact ⟨og, K2 _ _ z, Option.some.inj ht'⟩
  refine ks_wpAny_getMethod_super e2 (PySem.W.looks_opaque K2 SC.opq) (l₀ := cdC.mro) (fun A Q E s k q => wpAny_bind ((PySem.W.looks_clsIn K2 hc) A _ E s k (wpAny_pure q))) rfl K2 sup hog hogc (PySem.W.ks_ne K2 J2 hc) hm ?_
  have I3 : Inv X ((h2.objs.size, PySem.W.methodObj (.ref g) (.ref a)) :: pins) σ H ⟨h2.push (PySem.W.methodObj (.ref g) (.ref a)), gg, dd, tt + 1, oo⟩ :=
    pin_new (s := ⟨h2, gg, dd, tt, oo⟩) I2 (fun _ _ z => Heap.get?_push_of_some _ z) (Nat.le_refl _) (Heap.get?_push_size h2 rfl) (fun v z => nomatch z)
  have hbq : X.base.get? h2.objs.size = none := base_none I2 (Nat.le_refl _)
  have hL : h2.objs.size ≠ X.env.locals := (I3.pin (h2.objs.size, PySem.W.methodObj (.ref g) (.ref a)) (List.mem_append_right _ List.mem_cons_self)).2.2.1
  refine PySem.W.callWith_M (K := X.K) (h₀ := X.base) (first := []) I.mod.kin (news_at hL hbq (pin_at I3)) List.mem_cons_self SC.fg ?_ hst hpl
  refine wpAny_mono (hpa.run p3 _ _ _ H _ I3 hq) (fun ws s4 h4 => ?_) fun _ _ z => z
  obtain ⟨vs4, H4, I4, r4, q4⟩ := h4
  refine ⟨⟨pin_at I4, I4.kIn⟩, ?_⟩
  have lenq : (Value.ref a :: ws).length = qs.length := by
    have z := G.len _ _ _ _ q4
    rw [← z, List.length_cons, List.length_cons, r4.length]
  have bound := bd s4 (Value.ref a :: ws) I4.kIn (by rw [List.append_nil]; exact lenq)
  rw [List.append_nil] at bound
  refine wpAny_mono (Q := fun u s' => EP X ((h2.objs.size, PySem.W.methodObj (.ref g) (.ref a)) :: pins) σ Q u s')
    (wpAny_call (PySem.W.method_call (pin_at I4) (codeAny_mono (G.run _ _ s4 H4 ⟨Value.ref a :: ws, []⟩ (Value.ref a :: ws) (.ref a :: vs4) _ Ei hr I4.env0 bound (.cons rfl r4) q4) fun rr s' back => ?_))) (fun u s5 h5 => unpinE h5) fun _ _ z => z
  cases rr with
  | error er => exact hpass _ _ _ _ er s' I4 back
  | ok fl =>
    cases fl with
    | ret u => exact I4.after back
    | next => exact back.elim
    | brk => exact back.elim
    | cont => exact back.elim
/-- a method whose block says super() somewhere -/
theorem fn_at {CX : CXT} {P : Program} {w : World} {K : PySem.W.Frag} {mg : Str → Option Value} {base : Heap} {k : Nat} {f cc cda : Addr} {name qual : Str} {params : Arguments} {scope : Scope} {dV kV doc pm ct oc : Value} {an od : Option Addr}
    {osl : Array (Option Value)} {N ps : List Str} {sp : Sp} {body : List Stmt} {D : Addr} (lk : K.lookup f = some ⟨oc, od, .func (PySem.W.ksFn name qual params body scope dV kV doc pm an (.ref cda) ct cc), osl⟩) (hcd : PySem.W.codeIn K (.ref cda) qual = true) (S : NScope N ps ["__class__"] scope)
    (cell : ∃ cl cld csl, K.lookup cc = some ⟨cl, cld, .cell (some (.ref D)), csl⟩) (len : ∀ vs H Q E, sp vs H Q E → vs.length = ps.length)
    (hbody : ∀ (A : Around) (outer : List Env) (s : Shared) (H : Hp) (vs : List V) (Q : VK) (E : XK), Room k (A.deeper (PySem.W.ksEnv qual scope s.heap.objs.size f (.ref cda) cc)) → sp vs H Q E →
      ∃ t, PSAs (ncx CX P w K mg base N ⟨name, qual, params, body, scope, [("__class__", cc)], cda⟩ f A outer s H E) (.func body (PySem.W.ksEnv qual scope s.heap.objs.size f (.ref cda) cc)) body t ∧ t { nx := fun _ H' => Q .non H', rt := Q } (startF N vs [none]) H) :
    FnOk P w K mg base CX (k + 1) f (PySem.W.ksFn name qual params body scope dV kV doc pm an (.ref cda) ct cc) ps sp := by
  refine ⟨len, fun A outer s H args us vs Q E hr e0 hb r asked => ?_⟩
  have hl := len _ _ _ _ asked
  have kb : ∀ b o, base.get? b = some o → s.heap.get? b = some o := fun b o z => (e0.bs b o z).1
  have KX : K.In s.heap := e0.mod.kin.keeps kb
  have lim : s.heap.NoLimit := e0.mod.nolimit.keeps kb
  obtain ⟨cl, cld, csl, hcell⟩ := cell
  have C0 : CellsAt [("__class__", cc)] ["__class__"] [none] s.heap H := by
    refine ⟨rfl, fun y c z => ?_, fun y z c h1 h2 => ?_, fun i y z => ?_⟩
    · have hc : c = cc := by
        simp only [List.lookup] at z
        split at z
        · exact (Option.some.inj z).symm
        · cases z
      subst hc
      exact ⟨(e0.bs _ _ (e0.mod.kin _ _ hcell)).2, _, _, KX _ _ hcell, rfl⟩
    · have one : ∀ {t : Str}, [(("__class__" : Str), cc)].lookup t = some c → t = "__class__" := fun {t} h => by
        simp only [List.lookup] at h
        split at h
        · exact beq_iff_eq.mp (by assumption)
        · cases h
      rw [one h1, one h2]
    · have hy : y = "__class__" := by
        cases i with
        | zero => simpa using z.symm
        | succ n => simp at z
      subst hy
      exact ⟨cc, rfl, fun v h => by cases i <;> simp at h⟩
  refine ks_codeAny_call_defAt (fd := PySem.W.ksFn name qual params body scope dV kV doc pm an (.ref cda) ct cc) (body := body) (binds := ps.zip us) hr.depth (KX _ _ lk) rfl lim (PySem.W.codeRec_of KX hcd) rfl hb S.nocell (fun ⟨n, _⟩ hy => S.par n (List.of_mem_zip hy).1) (fun h₁ hns kp => ?_) S.co S.gen S.kind
  obtain ⟨t, hps, hq⟩ := hbody A outer s H vs Q E (hr.deeper _) asked
  have I : Inv (ncx CX P w K mg base N ⟨name, qual, params, body, scope, [("__class__", cc)], cda⟩ f A outer s H E) [] (startF N vs [none]) H { s with heap := h₁, toks := s.toks + (ps.zip us).length } := inv_startN (F := ⟨name, qual, params, body, scope, [("__class__", cc)], cda⟩) S hr.hd e0 hl r C0 hns kp
  refine ks_wpAt_mono (hps.run [] _ _ H _ I hq) (fun fl s' hs => ?_) fun er s' hs => hs
  have last : ∀ {τ : L2.St} {G' : Hp} {x : V} {y : Value}, Inv (ncx CX P w K mg base N ⟨name, qual, params, body, scope, [("__class__", cc)], cda⟩ f A outer s H E) [] τ G' s' → L2.RelV x y → Q x G' → CE outer P w H s Q y s' :=
    fun {_ G' x _} Z rel z => ⟨x, G', Z.os, Z.bare, Z.base, Z.hok, rel, z⟩
  cases fl with
  | next =>
    obtain ⟨_, _, Z, z⟩ := hs
    exact last (x := V.non) (y := Value.none) Z rfl z
  | ret y =>
    obtain ⟨_, _, _, Z, rel, z⟩ := hs
    exact last Z rel z
  | brk => exact hs.elim fun _ ⟨_, _, z⟩ => z.elim
  | cont => exact hs.elim fun _ ⟨_, _, z⟩ => z.elim
/-- tuple(x) within a comprehension: its reading without the context -/
def rTupOf (K : PySem.W.Frag) : List V → Hp → VK → Prop := fun xs H Q => ∃ p ys, xs = [V.ref p] ∧ ((SqL K H p ys ∧ ∀ l, H l = none → Q (.ref l) (upd H l (.tup ys))) ∨ (SqT K H p ys ∧ Q (.ref p) H))

/-! ### a method's frame that has own cells beside the captured cell __class__ -/
theorem cells_acc : ∀ (ns : List (Str × NameKind)) (n : Nat) (acc : List (Str × Addr)), PySem.cellsFrom n ns acc = PySem.cellsFrom n ns [] ++ acc
  | [], _, _ => rfl
  | (x, k) :: r, n, acc => by
    unfold PySem.cellsFrom
    by_cases h : (k == NameKind.cell) = true
    · rw [if_pos h, if_pos h, cells_acc r (n + 1) ((x, n) :: acc), cells_acc r (n + 1) [(x, n)], List.append_assoc]
      rfl
    · rw [if_neg h, if_neg h, cells_acc r n acc]
/-- the own cells bear names of the kind cell -/
theorem cells_mem : ∀ (ns : List (Str × NameKind)) (n : Nat) (x : Str) (c : Addr), (x, c) ∈ PySem.cellsFrom n ns [] → (x, c) ∈ ([] : List (Str × Addr)) ∨ (x, NameKind.cell) ∈ ns
  | [], _, _, _, h => .inl h
  | (y, k) :: r, n, x, c, h => by
    unfold PySem.cellsFrom at h
    by_cases e : (k == NameKind.cell) = true
    · rw [if_pos e, cells_acc] at h
      rcases List.mem_append.mp h with h | h
      · exact (cells_mem r (n + 1) x c h).imp id fun z => List.mem_cons_of_mem _ z
      · rw [List.mem_singleton] at h
        cases h
        rw [beq_iff_eq.mp e]
        exact .inr List.mem_cons_self
    · rw [if_neg e] at h
      exact (cells_mem r n x c h).imp id fun z => List.mem_cons_of_mem _ z
/-- a stored name: the own cells alone are looked at -/
theorem put_own {M : Model} {A : Around} {E : Value → Shared → Prop} {s₀ s : Shared} {m cm : Str → Option Value} {env : Env} {own : List (Str × Addr)} {n : Str} {v : Value} {Q : Unit → Shared → Prop} (hk : env.scope.kind = .function) (x : PySem.InCallC s₀ env.locals m own cm s)
    (hl : env.kindOf n = some .local ∨ (env.kindOf n = some .cell ∧ ∃ c, env.cells.lookup n = some c ∧ own.lookup n = some c))
    (next : ∀ s', PySem.InCallC s₀ env.locals (if env.kindOf n = some .local then fun y => if y = n then some v else m y else m) own (if env.kindOf n = some .local then cm else fun y => if y = n then some v else cm y) s' → Q () s') : wpAny M A (storeName env n v) Q E s := by
  rcases hl with hl | ⟨hl, c, h1, h2⟩
  · rw [if_pos hl, if_pos hl] at next
    have hp : ((env.scope.kind == .class) || (env.scope.kind == .module && env.locals != env.globals)) = false := by rw [hk]; rfl
    have e : storeName env n v = storeName { env with cells := own } n v := (storeName_local hl hp v).trans (storeName_local (env := { env with cells := own }) hl hp v).symm
    rw [e]
    exact PySem.stLC (env := { env with cells := own }) x hk hl next
  · have nl : ¬ env.kindOf n = some .local := by rw [hl]; decide
    rw [if_neg nl, if_neg nl] at next
    have e : storeName env n v = storeName { env with cells := own } n v := by
      have k2 : Env.kindOf { env with cells := own } n = some .cell := hl
      have q1 : (some NameKind.cell == some NameKind.globalImplicit) = false := rfl
      have q2 : (ScopeKind.function == ScopeKind.class) = false := rfl
      unfold storeName PySem.cellOf
      simp only [hl, k2, hk, q1, q2, h1, h2, Bool.false_and, Bool.false_eq_true, if_false]
    rw [e]
    exact PySem.stCC (env := { env with cells := own }) x hk hl h2 next
theorem bind_own {M : Model} {A : Around} {E : Value → Shared → Prop} {s₀ : Shared} {env : Env} {own : List (Str × Addr)} (f : Str × Value → PUnit → Sem (ForInStep PUnit)) (hf : ∀ n v u, f (n, v) u = (do storeName env n v; pure (.yield ⟨⟩))) (hk : env.scope.kind = .function) :
    ∀ (bs : List (Str × Value)) (m cm : Str → Option Value) (s : Shared) (Q : PUnit → Shared → Prop), PySem.InCallC s₀ env.locals m own cm s → (∀ b ∈ bs, env.kindOf b.1 = some .local ∨ (env.kindOf b.1 = some .cell ∧ ∃ c, env.cells.lookup b.1 = some c ∧ own.lookup b.1 = some c)) →
      (∀ s', PySem.InCallC s₀ env.locals (PySem.bindL env.kindOf bs m) own (PySem.bindC env.kindOf bs cm) s' → Q ⟨⟩ s') → wpAny M A (forIn bs ⟨⟩ f) Q E s
  | [], _, _, s, _, x, _, go => by
    rw [List.forIn_nil]
    exact wpAny_pure (go s x)
  | b :: r, m, cm, s, Q, x, ok, go => by
    obtain ⟨n, v⟩ := b
    rw [List.forIn_cons, hf]
    refine wpAny_bind (wpAny_bind (put_own hk x (ok (n, v) List.mem_cons_self) fun s' x' => wpAny_pure ?_))
    exact bind_own f hf hk r _ _ s' Q x' (fun b hb => ok b (List.mem_cons_of_mem _ hb)) go
/-- the frame's environment -/
abbrev envM (qual : Str) (scope : Scope) (L f cda cc : Addr) : Env := PySem.newEnv scope L mainGlobals (PySem.cellsFrom (L + 1) scope.names [(("__class__" : Str), cc)]) (qual ++ ".<locals>.") (some f) (.ref cda) none builtinsNs
theorem env_own {M : Model} {A : Around} {E : Value → Shared → Prop} {s : Shared} {scope : Scope} {cl : List (Str × Addr)} {bs : List (Str × Value)} {qual : Str} {func : Option Addr} {code : Value} {gl bn : Addr} {Q : Env → Shared → Prop} (hk : scope.kind = .function)
    (ok : ∀ b ∈ bs, scope.names.lookup b.1 = some .local ∨ scope.names.lookup b.1 = some .cell)
    (go : ∀ env, env = PySem.newEnv scope s.heap.objs.size gl (PySem.cellsFrom (s.heap.objs.size + 1) scope.names cl) qual func code none bn → ∀ s', PySem.InCallC s s.heap.objs.size (PySem.bindL env.kindOf bs fun _ => none) (PySem.cellsFrom (s.heap.objs.size + 1) scope.names []) (PySem.bindC env.kindOf bs fun _ => none) s' → Q env s') :
    wpAny M A (newFunctionEnv scope gl cl bs qual func code none bn) Q E s := by
  unfold newFunctionEnv
  simp only [Option.isSome_none, Bool.false_eq_true, if_false]
  refine wpAny_bind (wpAny_alloc (wpAny_bind (PySem.wpAny_layCells _ (fun x k cs => ?_) scope.names cl _ _ ?_)))
  · cases h : k == NameKind.cell <;> simp [h]
  have z : ({ s with heap := s.heap.push { cls := .type "frame", data := .dict #[] } } : Shared).heap.objs.size = s.heap.objs.size + 1 := Heap.size_push ..
  have fine := PySem.cellsFrom_ok scope.names (s.heap.push { cls := .type "frame", data := .dict #[] }) (s.heap.objs.size + 1) [] ⟨fun _ _ h => (nomatch h), List.Pairwise.nil⟩ (by rw [Heap.size_push]; omega)
  rw [Heap.size_push] at fine
  rw [z]
  have x0 : PySem.InCallC s s.heap.objs.size (fun _ => none) (PySem.cellsFrom (s.heap.objs.size + 1) scope.names []) (fun _ => none) { s with heap := PySem.pushCells (s.heap.push { cls := .type "frame", data := .dict #[] }) scope.names } :=
    ⟨⟨⟨_, _, rfl⟩, (Heap.Ns.new s.heap (.type "frame")).keeps (PySem.pushCells_keeps _ _), fun b o e => PySem.pushCells_keeps _ _ b o (Heap.get?_push_of_some _ e), Nat.le_refl _⟩, fun n c h => (fine.empty n c (PySem.mem_of_lookup h)).1, fine.apart, fun n c h => (fine.empty n c h).2⟩
  refine wpAny_bind (bind_own (s₀ := s) (env := PySem.newEnv scope s.heap.objs.size gl (PySem.cellsFrom (s.heap.objs.size + 1) scope.names cl) qual func code none bn) _ (fun _ _ _ => rfl) hk bs _ _ _ _ x0 (fun b hb => ?_) fun s' x' => wpAny_pure (go _ rfl s' x'))
  rcases ok b hb with h | h
  · exact .inl h
  · obtain ⟨c, hc⟩ := cell_has (n := s.heap.objs.size + 1) h
    refine .inr ⟨h, c, ?_, hc⟩
    show (PySem.cellsFrom _ _ _).lookup _ = _
    rw [cells_acc, List.lookup_append, hc]
    rfl
/-- a method's names: the parameters first, then __class__ -/
structure MScope (N ps : List Str) (sc : Scope) : Prop where
  kind : sc.kind = .function
  co : sc.isCoroutine = false
  gen : sc.isGenerator = false
  nd : N.Nodup
  pre : N.take (ps.length + 1) = ps ++ [("__class__" : Str)]
  par : ∀ x ∈ ps, sc.names.lookup x = some .local ∨ sc.names.lookup x = some .cell
  free : ∀ y ∈ sc.names, y.2 = .free → y.1 = ("__class__" : Str)
  frk : sc.names.lookup ("__class__" : Str) = some .free
  own : (("__class__" : Str), NameKind.cell) ∉ sc.names
def mscB (N ps : List Str) (sc : Scope) : Bool :=
  decide (sc.kind = .function) && (!sc.isCoroutine && (!sc.isGenerator && (decide N.Nodup && (decide (N.take (ps.length + 1) = ps ++ [("__class__" : Str)]) && (ps.all (fun x => decide (sc.names.lookup x = some .local) || decide (sc.names.lookup x = some .cell)) && (sc.names.all (fun y => !decide (y.2 = .free) || decide (y.1 = ("__class__" : Str))) && (decide (sc.names.lookup ("__class__" : Str) = some .free) && decide ((("__class__" : Str), NameKind.cell) ∉ sc.names))))))))
theorem mscope_by {N ps : List Str} {sc : Scope} (h : mscB N ps sc = true) : MScope N ps sc := by
  unfold mscB at h
  simp only [Bool.and_eq_true, Bool.not_eq_true', decide_eq_true_eq, List.all_eq_true, Bool.or_eq_true, decide_eq_false_iff_not] at h
  obtain ⟨a, b, c, d, e, f, g, i, j⟩ := h
  exact ⟨a, b, c, d, e, f, fun y hy z => (g y hy).elim (fun k => absurd z k) id, i, j⟩
/-- the context of such a method's body -/
def mcx (CX : CXT) (P : Program) (w : World) (K : PySem.W.Frag) (mg : Str → Option Value) (base : Heap) (N : List Str) (qual : Str) (scope : Scope) (cda cc f : Addr) (A : Around) (outer : List Env) (s : Shared) (H : Hp) (E : XK) : Cx where
  prog := P
  w := w
  K := K
  mg := mg
  base := base
  A := A.deeper (envM qual scope s.heap.objs.size f cda cc)
  N := N
  s_0 := s
  H_0 := H
  env := envM qual scope s.heap.objs.size f cda cc
  outer := outer
  stack := envM qual scope s.heap.objs.size f cda cc :: outer
  ex := []
  calm := true
  fn := fun x => x != ("__class__" : Str)
  pn := []
  xe := fun e s' => wpAny (model P w) (A.deeper (envM qual scope s.heap.objs.size f cda cc)) (leaving (envM qual scope s.heap.objs.size f cda cc) e) (fun _ s'' => CX outer H s E e s'') (fun e' s'' => CX outer H s E e' s'') s'
section
variable {CX : CXT} {P : Program} {w : World} {K : PySem.W.Frag} {mg : Str → Option Value} {base : Heap} {N ps : List Str} {qual : Str} {scope : Scope} {cda cc f : Addr} {A : Around} {outer : List Env} {s s1 : Shared} {H : Hp} {E : XK} {us : List Value} {vs : List V}
theorem inv_startM (S : MScope N ps scope) (hd : A.handled = none) (e0 : Env0 P w K mg base A outer s H) (hl : vs.length = ps.length) (r : Vals vs us) (hcc : H cc = none) {w0 : Option Value} (hc0 : base.IsCell cc w0)
    (x : PySem.InCallC s s.heap.objs.size (PySem.bindL (envM qual scope s.heap.objs.size f cda cc).kindOf (ps.zip us) fun _ => none) (PySem.cellsFrom (s.heap.objs.size + 1) scope.names []) (PySem.bindC (envM qual scope s.heap.objs.size f cda cc).kindOf (ps.zip us) fun _ => none) s1) :
    Inv (mcx CX P w K mg base N qual scope cda cc f A outer s H E) [] (startF N vs [none]) H s1 := by
  have hpl : ps.length + 1 ≤ N.length := by
    have q := congrArg List.length S.pre
    rw [List.length_take, List.length_append] at q
    have : ([("__class__" : Str)] : List Str).length = 1 := rfl
    omega
  obtain ⟨h1, tk, rfl, hk⟩ := x.done
  obtain ⟨oc, hoc, hdc⟩ := hc0
  have hcs : s.heap.get? cc = some oc := (e0.bs _ _ hoc).1
  have ltc : cc < s.heap.objs.size := Heap.lt_size hcs
  have noA : ∀ b : Addr, b ∉ (mcx CX P w K mg base N qual scope cda cc f A outer s H E).ex := fun b z => absurd (show b ∈ ([] : List Addr) from z) (by simp)
  have split : ∀ {y : Str} {c : Addr}, (mcx CX P w K mg base N qual scope cda cc f A outer s H E).env.cells.lookup y = some c → (PySem.cellsFrom (s.heap.objs.size + 1) scope.names []).lookup y = some c ∨ (y = ("__class__" : Str) ∧ c = cc) := fun {y c} h => by
    have h : (PySem.cellsFrom (s.heap.objs.size + 1) scope.names [(("__class__" : Str), cc)]).lookup y = some c := h
    rw [cells_acc, List.lookup_append] at h
    cases e : (PySem.cellsFrom (s.heap.objs.size + 1) scope.names []).lookup y with
    | some c' =>
      rw [e] at h
      exact .inl h
    | none =>
      rw [e] at h
      simp only [List.lookup, Option.none_or] at h
      split at h
      · rename_i q
        exact .inr ⟨beq_iff_eq.mp q, (Option.some.inj h).symm⟩
      · cases h
  have ownlt : ∀ {y : Str} {c : Addr}, (PySem.cellsFrom (s.heap.objs.size + 1) scope.names []).lookup y = some c → s.heap.objs.size < c := fun {y c} h => x.above y c (PySem.mem_of_lookup h)
  have ofOwn : ∀ {y : Str} {c : Addr}, (PySem.cellsFrom (s.heap.objs.size + 1) scope.names []).lookup y = some c → (PySem.cellsFrom (s.heap.objs.size + 1) scope.names [(("__class__" : Str), cc)]).lookup y = some c := fun {y c} h => by
    rw [cells_acc, List.lookup_append, h]
    rfl
  have noOwn : (PySem.cellsFrom (s.heap.objs.size + 1) scope.names []).lookup ("__class__" : Str) = none := by
    cases e : (PySem.cellsFrom (s.heap.objs.size + 1) scope.names []).lookup ("__class__" : Str) with
    | none => rfl
    | some c =>
      have q := cells_mem scope.names _ _ _ (PySem.mem_of_lookup e)
      exact q.elim (fun z => absurd z (by simp)) fun z => absurd z S.own
  refine ⟨⟨e0.mod, S.kind, rfl, rfl, Nat.le_refl _, fun y z c h1 h2 => ?_, fun y hy => ?_, fun y c hy h => ?_, fun _ => hd, Around.frames_deeper e0.frames, .inr ⟨rfl, rfl⟩, fun b z => absurd z (noA b), e0.bs, e0.bsz, fun b _ _ => noA b, fun b z => absurd z (noA b), e0.funs, e0.frf⟩,
    rfl, e0.bare, Un.kept hk, ⟨_, x.toInCall.ns, fun i y v h1 h2 h3 => ?_⟩, fun y c h => ?_, e0.hok.fresh (Nat.le_refl _), fun y c h => ?_, fun p hp => absurd (show p ∈ ([] : List (Addr × Obj)) ++ [] from hp) (by simp), e0.hok.kept hk, ?_⟩
  · rcases split h1 with a | ⟨a, b⟩
    · rcases split h2 with a' | ⟨a', b'⟩
      · exact PySem.name_of_addr x.apart (PySem.mem_of_lookup a) (PySem.mem_of_lookup a')
      · exact absurd (Nat.lt_trans (ownlt a) (b'.symm ▸ ltc)) (Nat.lt_irrefl _)
    · rcases split h2 with a' | ⟨a', b'⟩
      · exact absurd (Nat.lt_trans (ownlt a') (b.symm ▸ ltc)) (Nat.lt_irrefl _)
      · rw [a, a']
  · have hy : scope.names.lookup y = some .cell ∨ scope.names.lookup y = some .free := hy
    rcases hy with hy | hy
    · obtain ⟨c, hc⟩ := cell_has (n := s.heap.objs.size + 1) hy
      exact ⟨c, ofOwn hc⟩
    · have e : y = ("__class__" : Str) := S.free _ (PySem.mem_of_lookup hy) rfl
      refine ⟨cc, ?_⟩
      show (PySem.cellsFrom (s.heap.objs.size + 1) scope.names [(("__class__" : Str), cc)]).lookup y = _
      rw [cells_acc, List.lookup_append, e, noOwn]
      rfl
  · rcases split h with a | ⟨a, _⟩
    · exact Nat.le_of_lt (ownlt a)
    · rw [a] at hy
      exact absurd hy (by show ¬ ((("__class__" : Str) != ("__class__" : Str)) = true); decide)
  · have clen : vs.length = ps.length := hl
    unfold startF at h2
    have e1 : N[i]? = some y := h1
    by_cases c1 : i < ps.length
    · have hq : (ps ++ [("__class__" : Str)])[i]? = some y := by
        rw [← S.pre, List.getElem?_take_of_lt (by omega)]
        exact e1
      rw [List.getElem?_append_left c1] at hq
      rw [List.getElem?_append_left (by rw [List.length_map]; omega), List.getElem?_map] at h2
      obtain ⟨a, ha, hav⟩ : ∃ a, vs[i]? = some a ∧ a = v := by
        cases e : vs[i]? with
        | none =>
          rw [e] at h2
          cases h2
        | some a =>
          rw [e] at h2
          cases h2
          exact ⟨_, rfl, rfl⟩
      subst hav
      obtain ⟨u, hu, rv⟩ := r.get ha
      have ndP : ps.Nodup := by
        have q := S.nd.sublist (List.take_sublist (ps.length + 1) N)
        rw [S.pre] at q
        exact (List.nodup_append.mp q).1
      refine ⟨u, rv, ?_⟩
      rcases S.par y (List.mem_of_getElem? hq) with k | k
      · exact .inl ⟨k, bindL_get ndP hq hu k⟩
      · obtain ⟨c, e⟩ := cell_has (n := s.heap.objs.size + 1) k
        refine .inr ⟨.inl k, c, ofOwn e, ?_⟩
        have q := x.cell y c e
        rw [bindC_get ndP hq hu (by show scope.names.lookup y ≠ _; rw [k]; decide)] at q
        exact q
    · exfalso
      rw [List.getElem?_append_right (by rw [List.length_map]; omega), List.length_map] at h2
      obtain ⟨j, hj⟩ : ∃ j, i - vs.length = j := ⟨_, rfl⟩
      rw [hj] at h2
      cases j with
      | zero => cases h2
      | succ j =>
        have h2 : (List.replicate (N.length - vs.length - 1) (none : Option V))[j]? = some (some v) := h2
        rw [List.getElem?_replicate] at h2
        split at h2 <;> cases h2
  · rcases split h with a | ⟨_, b⟩
    · exact ⟨_, x.cell y c a⟩
    · rw [b]
      exact ⟨w0, oc, hk _ _ hcs, hdc⟩
  · rcases split h with a | ⟨_, b⟩
    · exact e0.hok.fresh (Nat.le_of_lt (ownlt a))
    · rw [b]
      exact hcc
  · unfold startF
    show _ = N.length
    rw [List.length_append, List.length_append, List.length_map, List.length_replicate]
    have : ([none] : List (Option V)).length = 1 := rfl
    omega
end
/-- a method whose block says super() somewhere, with own cells -/
theorem fn_atC {CX : CXT} {P : Program} {w : World} {K : PySem.W.Frag} {mg : Str → Option Value} {base : Heap} {k : Nat} {f cc cda : Addr} {name qual : Str} {params : Arguments} {scope : Scope} {dV kV doc pm ct oc : Value} {an od : Option Addr}
    {osl : Array (Option Value)} {N ps : List Str} {sp : Sp} {body : List Stmt} {D : Addr} (lk : K.lookup f = some ⟨oc, od, .func (PySem.W.ksFn name qual params body scope dV kV doc pm an (.ref cda) ct cc), osl⟩) (hcd : PySem.W.codeIn K (.ref cda) qual = true) (S : MScope N ps scope)
    (cell : ∃ cl cld csl, K.lookup cc = some ⟨cl, cld, .cell (some (.ref D)), csl⟩) (len : ∀ vs H Q E, sp vs H Q E → vs.length = ps.length)
    (hbody : ∀ (A : Around) (outer : List Env) (s : Shared) (H : Hp) (vs : List V) (Q : VK) (E : XK), Room k (A.deeper (envM qual scope s.heap.objs.size f cda cc)) → sp vs H Q E →
      ∃ t, PSAs (mcx CX P w K mg base N qual scope cda cc f A outer s H E) (.func body (envM qual scope s.heap.objs.size f cda cc)) body t ∧ t { nx := fun _ H' => Q .non H', rt := Q } (startF N vs [none]) H) :
    FnOk P w K mg base CX (k + 1) f (PySem.W.ksFn name qual params body scope dV kV doc pm an (.ref cda) ct cc) ps sp := by
  refine ⟨len, fun A outer s H args us vs Q E hr e0 hb r asked => ?_⟩
  have kb : ∀ b o, base.get? b = some o → s.heap.get? b = some o := fun b o z => (e0.bs b o z).1
  have KX : K.In s.heap := e0.mod.kin.keeps kb
  have lim : s.heap.NoLimit := e0.mod.nolimit.keeps kb
  obtain ⟨cl, cld, csl, hcell⟩ := cell
  have cellB : base.IsCell cc (some (.ref D)) := ⟨_, e0.mod.kin _ _ hcell, rfl⟩
  refine codeAny_call_function (fd := PySem.W.ksFn name qual params body scope dV kV doc pm an (.ref cda) ct cc) (body := body) hr.depth (KX _ _ lk) rfl S.co S.gen rfl (PySem.W.codeRec_of KX hcd) (hb _ _ _ _ ?_)
  refine env_own S.kind (fun b hy => S.par b.1 (List.of_mem_zip hy).1) fun env he s1 x => ?_
  subst he
  refine ⟨lim.keeps x.toInCall.keep, PySem.ks_codeAny_funcAt ?_⟩
  obtain ⟨t, hps, hq⟩ := hbody A outer s H vs Q E (hr.deeper _) asked
  have I : Inv (mcx CX P w K mg base N qual scope cda cc f A outer s H E) [] (startF N vs [none]) H s1 := inv_startM S hr.hd e0 (len _ _ _ _ asked) r (e0.bs _ _ (e0.mod.kin _ _ hcell)).2 cellB x
  refine ks_wpAt_mono (hps.run [] _ _ H _ I hq) (fun fl s' hs => ?_) fun er s' hs => hs
  have last : ∀ {τ : L2.St} {G' : Hp} {y : V} {v : Value}, Inv (mcx CX P w K mg base N qual scope cda cc f A outer s H E) [] τ G' s' → L2.RelV y v → Q y G' → CE outer P w H s Q v s' :=
    fun {_ G' y _} Z rel z => ⟨y, G', Z.os, Z.bare, Z.base, Z.hok, rel, z⟩
  cases fl with
  | next => exact hs.elim fun _ ⟨_, Z, z⟩ => last (y := V.non) (v := Value.none) Z rfl z
  | ret y => exact hs.elim fun _ ⟨_, _, Z, rel, z⟩ => last Z rel z
  | brk => exact hs.elim fun _ ⟨_, _, z⟩ => z.elim
  | cont => exact hs.elim fun _ ⟨_, _, z⟩ => z.elim

/-! ### enumerate of a tuple -/
theorem enum1_meets {v : Value} {o : Obj} {G : Heap → Prop} (B : Begins v o G) : Meets (Builtin.«enumerate.__new__» ⟨[.type "enumerate", v], []⟩) (fun _ R st => G st.heap ∧ R (.ok (.ret (.ref (st.heap.push o).objs.size)))
      { st with heap := (st.heap.push o).push { cls := .type "enumerate", data := .fields #[.none, .bool false, .ref st.heap.objs.size, rawInt 0, .none, .none] } }) := by
  refine .of_wp fun P w A R st hh => ?_
  obtain ⟨hp, gs, dr, tk, ws⟩ := st
  obtain ⟨ok, q⟩ := hh
  have hsub := sub_enumerate
  have it0 : ∀ {A1 : Around} {E1 : Value → Shared → Prop} {Q1 : Value → Shared → Prop}, Q1 (.ref hp.objs.size) ⟨hp.push o, gs, dr, tk, ws⟩ → wpAny (model P w) A1 (pyIter v) Q1 E1 ⟨hp, gs, dr, tk, ws⟩ := fun z => B.iter P w _ _ ⟨hp, gs, dr, tk, ws⟩ _ ok z
  wp_walk using it0
  refine wpAny_stack_any fun fr => wpAny_pure ?_
  split
  · rename_i c _ _ _ _ _
    cases (c == Value.type "enumerate") <;> (wp_walk using it0; exact ⟨_, rfl, q⟩)
  · wp_walk using it0
    exact ⟨_, rfl, q⟩
theorem enum_of_tuple {P : Program} {w : World} {A : Around} {E : Value → Shared → Prop} {s : Shared} {t : Addr} {items : Array Value} {Q : Value → Shared → Prop} (ht : s.heap.IsTuple t items)
    (h : ∀ h', IsEnum h' (s.heap.objs.size + 1) s.heap.objs.size 0 .none → h'.IsTupleIter s.heap.objs.size t 0 → (∀ b o, s.heap.get? b = some o → h'.get? b = some o) → Q (.ref (s.heap.objs.size + 1)) { s with heap := h' }) : wpAny (model P w) A (call (.type "enumerate") [.ref t]) Q E s := by
  refine callType_new F.called_enumerate (by decide) (F.typeCall_enumerate_1 _) (F.newCall_enumerate_1 _) (fun ob => F.args_object_init_2 ob _) F.entry_enumerate_new (enum1_meets (begins_tuple t items)) ⟨ht, ?_⟩
  have z1 : (s.heap.push { cls := .type "tuple_iterator", data := .fields #[.ref t, .int 0 0] }).objs.size = s.heap.objs.size + 1 := Heap.size_push ..
  show _ ∧ _
  rw [z1]
  have e1 := Heap.get?_push_size (s.heap.push { cls := .type "tuple_iterator", data := .fields #[.ref t, .int 0 0] }) (o := { cls := .type "enumerate", data := .fields #[.none, .bool false, .ref s.heap.objs.size, rawInt 0, .none, .none] }) rfl
  rw [z1] at e1
  exact ⟨⟨_, e1, rfl⟩, h _ e1 ⟨_, Heap.get?_push_of_some _ (Heap.get?_push_size _ rfl), rfl, rfl⟩ fun b u z => Heap.get?_push_of_some _ (Heap.get?_push_of_some _ z)⟩
/-- the tuple at a, each item in a new pair behind its number -/
def IteT (K : PySem.W.Frag) (a : Addr) : It where
  go := fun i H => ∃ (ys : List V) (y : V), SqT K H a ys ∧ ys[i]? = some y
  yld := fun i H v H' => ∃ T y, v = .ref T ∧ H T = none ∧ H' = upd H T (.tup [.int (i : Nat), y]) ∧ ∀ ys, SqT K H a ys → ys[i]? = some y
  stop := fun i H => ∃ ys : List V, SqT K H a ys ∧ ys.length = i
theorem turn_enumT {P : Program} {w : World} {K : PySem.W.Frag} {elts : List Expr} {kk : Nat} {tpos : Pos} (a e it : Addr) :
    Turn P w K (.Tuple elts kk tpos) (IteT K a) [e, it] e (fun i h => (∃ u, IsEnum h e it ((i : Nat) : Int) u) ∧ h.IsTupleIter it a i ∧ e ≠ it) where
  mem := List.mem_cons_self
  obj := by
    rintro i h ⟨⟨u, he⟩, ⟨o, ho, _, hd⟩, _⟩ b hb
    rcases List.mem_cons.mp hb with rfl | hb
    · exact ⟨_, he, fun v q => nomatch q⟩
    · rw [List.mem_singleton.mp hb]
      exact ⟨o, ho, fun v q => by rw [hd] at q; cases q⟩
  keep := by
    rintro i h h' ⟨⟨u, he⟩, hi, hne⟩ k
    exact ⟨⟨u, k e List.mem_cons_self _ he⟩, hi.at fun o q => k it (List.mem_cons_of_mem _ List.mem_cons_self) o q, hne⟩
  item := by
    intro X hP hw hK hc i pins s σ H E I hf st hg
    subst hP hw hK
    obtain ⟨⟨u0, he⟩, hit, hne⟩ := st
    obtain ⟨ys, y, hq, hy⟩ := hg
    obtain ⟨its, rv, p, hz⟩ := I.tuple hq
    have p : s.heap.IsTuple a its.toArray := p
    obtain ⟨u, hu, ru⟩ := rv.get hy
    have el : e < s.heap.objs.size := Heap.lt_size he
    obtain ⟨oi, ei, ci, di⟩ := id hit
    have il : it < s.heap.objs.size := Heap.lt_size ei
    obtain ⟨op, ep, cp, np, dp⟩ := id p
    have n1 : a ≠ it := fun z => by
      rw [z, ei] at ep
      cases ep
      rw [ci] at cp
      exact absurd (Value.type.inj cp) (by decide)
    have n2 : a ≠ e := fun z => by
      rw [z, he] at ep
      cases ep
      exact absurd (Value.type.inj cp) (by decide)
    have ul : i < its.toArray.size := by
      have := (List.getElem?_eq_some_iff.mp hu).1
      simpa using this
    refine wpAny_pyNext_enum_itemD (Draws.tuple (show X.A.in1.handled = none from I.ok.hd hc) it a n1 its.toArray) he ⟨hit, p⟩ ul hne (by simp [hne, Ne.symm n2]) fun x h' tk hx ho hs' hT hsz hk => ?_
    have ex : x = u := by
      have hx : its.toArray[i]? = some x := hx
      rw [show its.toArray[i]? = its[i]? by simp, hu] at hx
      exact (Option.some.inj hx).symm
    subst ex
    refine ⟨_, rfl, wpAny_letOwnedTupleGo_enum (s := { s with heap := h', toks := tk + 1 }) ho fun h2 he' sb => ?_⟩
    have hT2 : h2.get? s.heap.objs.size = some { cls := .type "tuple", data := .seq #[.int i tk, x] } := (sb.2 _ (Nat.ne_of_gt el)).trans hT
    have new : ObjOk X.prog X.w (upd H s.heap.objs.size (.tup [.int (i : Nat), y])) h2 s.heap.objs.size (.tup [.int (i : Nat), y]) := ⟨by show 2 ≤ sizeLine; decide, [.int i tk, x], .cons ⟨_, rfl⟩ (.cons ru .nil), ⟨_, hT2, rfl, _, rfl⟩⟩
    have I1 : Inv X pins σ (upd H s.heap.objs.size (.tup [.int (i : Nat), y])) { s with heap := h2, toks := tk + 1 } :=
      I.turnedNew (ch := [e, it]) (fun b ob hb q => (sb.2 b (fun z => hb (by simp [z]))).trans (hk b ob (fun z => hb (by simp [z])) (fun z => hb (by simp [z])) q)) hf (Nat.le_refl _) new
    refine ⟨.ref s.heap.objs.size, _, I1, rfl, ⟨_, y, rfl, I.hok.fresh (Nat.le_refl _), rfl, fun zs hz => by rw [I.tuple_inj hz hq]; exact hy⟩, ⟨⟨x, ?_⟩, hs'.1.at fun o q => (sb.2 it (Ne.symm hne)).trans q, hne⟩, fun b hb => ?_⟩
    · rw [show ((i + 1 : Nat) : Int) = (i : Int) + 1 by omega]
      exact he'
    · have bl : b < s.heap.objs.size := by
        rcases List.mem_cons.mp hb with rfl | hb
        · exact el
        · rw [List.mem_singleton.mp hb]
          exact il
      rw [upd_ne (Nat.ne_of_lt bl)]
      exact (hf b hb).1
  done := by
    intro X hP hw hK hc i pins s σ H E I hf st hg
    subst hP hw hK
    obtain ⟨⟨u0, he⟩, hit, hne⟩ := st
    obtain ⟨ys, hq, hy⟩ := hg
    obtain ⟨its, rv, p, hz⟩ := I.tuple hq
    have p : s.heap.IsTuple a its.toArray := p
    obtain ⟨oi, ei, ci, di⟩ := id hit
    obtain ⟨op, ep, cp, np, dp⟩ := id p
    have n1 : a ≠ it := fun z => by
      rw [z, ei] at ep
      cases ep
      rw [ci] at cp
      exact absurd (Value.type.inj cp) (by decide)
    have ii : i = its.toArray.size := by
      have := rv.length
      simp
      omega
    subst ii
    obtain ⟨f0, f1, f2, f3, f4, f5⟩ := hf it (List.mem_cons_of_mem _ List.mem_cons_self)
    exact wpAny_pyNext_enum_endD (Draws.tuple (show X.A.in1.handled = none from I.ok.hd hc) it a n1 its.toArray) he ⟨hit, p⟩ fun h' eb => ⟨rfl, I.turned (t' := s.toks) (fun b o hb q => eb b o hb q) f0 f1 f3 f4 f5⟩
  self := fun A i s Q E st h => let ⟨⟨_, he⟩, _⟩ := st; wpAny_pyIter_enum he h
def iEnumT (K : PySem.W.Frag) (ta : TA) : TI := fun σ H R => ta σ H fun vs H1 => ∃ a ys, vs = [.ref a] ∧ SqT K H1 a ys ∧ R (IteT K a) H1
theorem pi_enumT {X : Cx} {e : Expr} {ta : TA} {p pos tpos : Pos} {elts : List Expr} {kk : Nat} (hg : Gl X "enumerate") (hm : X.mg "enumerate" = none) (ha : PA X [e] ta) (hs : starEach [e] X.env = [(false, eval e X.env)] := by rfl) :
    PI X (.Tuple elts kk tpos) (.Call (.Name "enumerate" p) [e] [] pos) (iEnumT X.K ta) := by
  refine ⟨fun pins s σ H R I h => Call_ (ld_blt I hg hm boot_enumerate (PyProof.Rows.callWith_type1 (thn (ha.run pos pins s σ H _ I h) ?_) hs rfl))⟩
  rintro us s1 ⟨vs, H1, I1, r1, a, ys, rfl, hq, q⟩
  obtain ⟨u, rfl, ru⟩ := vals1 r1
  cases (show u = Value.ref a from ru)
  obtain ⟨its, rv, p', hz⟩ := I1.tuple hq
  refine enum_of_tuple (show s1.heap.IsTuple a its.toArray from p') fun h' he hit hk => wpAny_pyIter_enum he ?_
  have I2 : Inv X pins σ H1 { s1 with heap := h' } := I1.kept (t' := s1.toks) hk
  refine ⟨s1.heap.objs.size + 1, [s1.heap.objs.size + 1, s1.heap.objs.size], _, _, H1, rfl, I2, turn_enumT a (s1.heap.objs.size + 1) s1.heap.objs.size, ⟨⟨.none, he⟩, hit, Nat.succ_ne_self _⟩, fun b hb => ?_, q⟩
  have le : s1.heap.objs.size ≤ b := by
    rcases List.mem_cons.mp hb with rfl | hb
    · exact Nat.le_succ _
    · rw [List.mem_singleton.mp hb]
      exact Nat.le_refl _
  exact I1.fpOk le (I1.hok.fresh le)
theorem walk_enumT {K : PySem.W.Frag} {a : Addr} {xs : List V} : Walk (IteT K a) xs.length (fun H => SqT K H a xs) (YPair (fun i => some (.int (i : Nat))) fun i => xs[i]?) :=
  ⟨fun i _ hi q => ⟨xs, xs[i], q, List.getElem?_eq_getElem hi⟩, fun _ q => ⟨xs, q, rfl⟩, fun _ _ _ _ _ q ⟨T, y, e1, e2, e3, e4⟩ => ⟨T, _, y, e1, e2, e3, rfl, e4 _ q⟩⟩

/-! ### a method m(self, *v) whose block says super() somewhere -/
theorem fn_atStar {CX : CXT} {P : Program} {w : World} {K : PySem.W.Frag} {mg : Str → Option Value} {base : Heap} {k : Nat} {f cc cda : Addr} {name qual pv : Str} {params : Arguments} {scope : Scope} {dV kV doc pm ct oc : Value} {an od : Option Addr}
    {osl : Array (Option Value)} {N ps : List Str} {sp : Sp} {body : List Stmt} {D : Addr} (lk : K.lookup f = some ⟨oc, od, .func (PySem.W.ksFn name qual params body scope dV kV doc pm an (.ref cda) ct cc), osl⟩) (hcd : PySem.W.codeIn K (.ref cda) qual = true) (S : MScope N (ps ++ [pv]) scope) (hCX : StX.CXUp CX)
    (cell : ∃ cl cld csl, K.lookup cc = some ⟨cl, cld, .cell (some (.ref D)), csl⟩)
    (hb : ∀ us rest : List Value, us.length = ps.length → bindArgs (PySem.W.ksFn name qual params body scope dV kV doc pm an (.ref cda) ct cc) ⟨us ++ rest, []⟩ = (newTuple rest >>= fun t => pure (ps.zip us ++ [(pv, t)])))
    (hbody : ∀ (A : Around) (outer : List Env) (s : Shared) (H : Hp) (vs : List V) (Q : VK) (E : XK), Room k (A.deeper (envM qual scope s.heap.objs.size f cda cc)) → sp vs H Q E →
      ∃ t, PSAs (mcx CX P w K mg base N qual scope cda cc f A outer s H E) (.func body (envM qual scope s.heap.objs.size f cda cc)) body t ∧ t { nx := fun _ H' => Q .non H', rt := Q } (startF N vs [none]) H) :
    FnR P w K mg base CX (k + 1) f (fun vs H Q E => ∃ ws rest, vs = ws ++ rest ∧ ws.length = ps.length ∧ rest.length ≤ sizeLine ∧ ∀ p, H p = none → sp (ws ++ [V.ref p]) (upd H p (.tup rest)) Q E) := by
  rintro A outer s H us vs Q E hr e0 r ⟨ws, rest, rfl, hl, hz, hq⟩
  obtain ⟨u1, u2, rfl, r1, r2⟩ := StX.vals_split r
  have fresh : H s.heap.objs.size = none := e0.hok.fresh (Nat.le_refl _)
  have l1 : u1.length = ps.length := r1.length.symm.trans hl
  have l2 : u2.length ≤ sizeLine := r2.length ▸ hz
  have kb : ∀ b o, base.get? b = some o → s.heap.get? b = some o := fun b o z => (e0.bs b o z).1
  have KX : K.In s.heap := e0.mod.kin.keeps kb
  obtain ⟨cl, cld, csl, hcell⟩ := cell
  have cellB : base.IsCell cc (some (.ref D)) := ⟨_, e0.mod.kin _ _ hcell, rfl⟩
  refine codeAny_call_function (fd := PySem.W.ksFn name qual params body scope dV kV doc pm an (.ref cda) ct cc) (body := body) hr.depth (KX _ _ lk) rfl S.co S.gen rfl (PySem.W.codeRec_of KX hcd) ?_
  rw [hb u1 u2 l1]
  refine wpAny_bind (wpAny_newTuple (wpAny_pure ?_) l2)
  have new : ObjOk P w (upd H s.heap.objs.size (.tup rest)) (s.heap.push ({ cls := .type "tuple", data := .seq u2.toArray } : Obj)) s.heap.objs.size (.tup rest) := ⟨hz, u2, r2, ⟨_, Heap.get?_push_size _ rfl, rfl, _, rfl⟩⟩
  have un := StX.un_laid (fs := frs outer) (s := s) (o := ({ cls := .type "tuple", data := .seq u2.toArray } : Obj)) (u := .tup rest) fresh
  have e2 := StX.env0_laid e0 new
  have kp : ∀ b o, s.heap.get? b = some o → (s.heap.push ({ cls := .type "tuple", data := .seq u2.toArray } : Obj)).get? b = some o := fun b o q => Heap.get?_push_of_some _ q
  have rv : Vals (ws ++ [V.ref s.heap.objs.size]) (u1 ++ [Value.ref s.heap.objs.size]) := r1.append (.cons rfl .nil)
  have q2 := hq _ fresh
  have lim : (s.heap.push ({ cls := .type "tuple", data := .seq u2.toArray } : Obj)).NoLimit := e0.mod.nolimit.keeps fun b o e => kp b o (kb b o e)
  have zz : ps.zip u1 ++ [(pv, Value.ref s.heap.objs.size)] = (ps ++ [pv]).zip (u1 ++ [Value.ref s.heap.objs.size]) := by
    rw [List.zip_append l1.symm]
    rfl
  rw [zz]
  clear zz hq
  have ll : (ws ++ [V.ref s.heap.objs.size]).length = (ps ++ [pv]).length := by
    rw [List.length_append, List.length_append, hl]
    rfl
  generalize ws ++ [V.ref s.heap.objs.size] = xs at rv q2 ll
  generalize u1 ++ [Value.ref s.heap.objs.size] = us at rv ⊢
  refine env_own (s := { s with heap := s.heap.push ({ cls := .type "tuple", data := .seq u2.toArray } : Obj) }) S.kind (fun b hy => S.par b.1 (List.of_mem_zip hy).1) fun env he s1 x => ?_
  subst he
  refine ⟨lim.keeps x.toInCall.keep, PySem.ks_codeAny_funcAt ?_⟩
  obtain ⟨t, hps, hq'⟩ := hbody A outer { s with heap := s.heap.push ({ cls := .type "tuple", data := .seq u2.toArray } : Obj) } (upd H s.heap.objs.size (.tup rest)) xs Q E (hr.deeper _) q2
  have I : Inv (mcx CX P w K mg base N qual scope cda cc f A outer { s with heap := s.heap.push ({ cls := .type "tuple", data := .seq u2.toArray } : Obj) } (upd H s.heap.objs.size (.tup rest)) E) [] (startF N xs [none]) (upd H s.heap.objs.size (.tup rest)) s1 := inv_startM S hr.hd e2 ll rv (e2.bs _ _ (e0.mod.kin _ _ hcell)).2 cellB x
  refine ks_wpAt_mono (hps.run [] _ _ _ _ I hq') (fun fl s' hs => ?_) fun er s' hs => ?_
  · have last : ∀ {τ : L2.St} {G' : Hp} {y : V} {v : Value}, Inv (mcx CX P w K mg base N qual scope cda cc f A outer { s with heap := s.heap.push ({ cls := .type "tuple", data := .seq u2.toArray } : Obj) } (upd H s.heap.objs.size (.tup rest)) E) [] τ G' s' → L2.RelV y v → Q y G' → CE outer P w H s Q v s' :=
      fun {_ G' y _} Z rel z => ⟨y, G', Z.os, Z.bare, un.trans Z.base, Z.hok, rel, z⟩
    cases fl with
    | next => exact hs.elim fun _ ⟨_, Z, z⟩ => last (y := V.non) (v := Value.none) Z rfl z
    | ret y => exact hs.elim fun _ ⟨_, _, Z, rel, z⟩ => last Z rel z
    | brk => exact hs.elim fun _ ⟨_, _, z⟩ => z.elim
    | cont => exact hs.elim fun _ ⟨_, _, z⟩ => z.elim
  · have back : ∀ (u' : Value) (s2 : Shared), CX outer (upd H s.heap.objs.size (.tup rest)) { s with heap := s.heap.push ({ cls := .type "tuple", data := .seq u2.toArray } : Obj) } E u' s2 → CX outer H s E u' s2 := fun u' s2 z => hCX outer s H { s with heap := s.heap.push ({ cls := .type "tuple", data := .seq u2.toArray } : Obj) } (upd H s.heap.objs.size (.tup rest)) E u' s2 un kp rfl z
    exact wpAny_mono hs (fun _ s2 z => back _ s2 z) fun e' s2 z => back e' s2 z
/-- C() by a positional promise -/
theorem pe_makeR0 {X : Cx} {CX : CXT} {k : Nat} {f C : Addr} {sp : Sp} {E : XK} {x : Str} {p pos : Pos} (M : Mk X.K C f) (R : FnR X.prog X.w X.K X.mg X.base CX k f sp) (hr : Room (k + 1) X.A) (hg : Gl X x) (hm : X.mg x = some (.ref C)) (hx : Passes CX X E) (nd : (x == ("__debug__" : Str)) = false := by decide) :
    PE X (.Call (.Name x p) [] [] pos) (StX.tMakeR C sp E tNil) :=
  ⟨fun pins s σ H Q I h => wpAny_Call_Name_kw (ld_glob I hg hm (PySem.W.callWith_K0 I.kIn M.kp (StX.run_makeR M R hr hx I .nil h)) nd)⟩

/-! ### len(set(t)), t a tuple of ints that may hold one twice -/
theorem len_le_mem : ∀ (ns ks : List Int), ks.Nodup → (∀ k ∈ ks, k ∈ ns) → ks.length ≤ ns.length
  | [], ks, _, h => by
    cases ks with
    | nil => exact Nat.le_refl _
    | cons k r => exact absurd (h k List.mem_cons_self) (by simp)
  | n :: r, ks, nd, h => by
    by_cases hn : n ∈ ks
    · have h1 := len_le_mem r (ks.erase n) (nd.erase n) fun k hk => by
        have hk2 := (List.Nodup.mem_erase_iff nd).mp hk
        rcases List.mem_cons.mp (h k hk2.2) with e | e
        · exact absurd e hk2.1
        · exact e
      have h2 := List.length_erase_of_mem hn
      rw [List.length_cons]
      omega
    · have h1 := len_le_mem r ks nd fun k hk => by
        rcases List.mem_cons.mp (h k hk) with e | e
        · exact absurd (e ▸ hk) hn
        · exact e
      rw [List.length_cons]
      omega
theorem twice_of : ∀ {ns : List Int}, ¬ ns.Nodup → ∃ ms : List Int, ms.length + 1 = ns.length ∧ ∀ k ∈ ns, k ∈ ms
  | [], h => absurd List.Pairwise.nil h
  | n :: r, h => by
    by_cases hn : n ∈ r
    · exact ⟨r, rfl, fun k hk => by
        rcases List.mem_cons.mp hk with e | e
        · exact e ▸ hn
        · exact e⟩
    · obtain ⟨ms, l, hm⟩ := twice_of (ns := r) fun nd => h (List.nodup_cons.mpr ⟨hn, nd⟩)
      refine ⟨n :: ms, by rw [List.length_cons, List.length_cons, l], fun k hk => ?_⟩
      rcases List.mem_cons.mp hk with e | e
      · exact e ▸ List.mem_cons_self
      · exact List.mem_cons_of_mem _ (hm k e)
theorem count_nodup {ns ks : List Int} (nd : ks.Nodup) (hm : ∀ k, k ∈ ns ↔ k ∈ ks) : ks.length ≤ ns.length ∧ (ks.length = ns.length ↔ ns.Nodup) := by
  have h1 := len_le_mem ns ks nd fun k hk => (hm k).mpr hk
  refine ⟨h1, fun e => ?_, fun nn => Nat.le_antisymm h1 (len_le_mem ks ns nn fun k hk => (hm k).mp hk)⟩
  by_cases c : ns.Nodup
  · exact c
  · obtain ⟨ms, l, hms⟩ := twice_of c
    have := len_le_mem ms ks nd fun k hk => hms k ((hm k).mpr hk)
    omega
section
variable {X : Cx}
def tLenSetT (K : PySem.W.Frag) (ta : TE) : TE := fun σ H Q => ta σ H fun x H1 => ∃ (t : Addr) (ns : List Int), x = V.ref t ∧ SqT K H1 t (ns.map V.int) ∧ ns.length < 64 ∧ ∀ c : Nat, (c = ns.length ↔ ns.Nodup) → Q (.int c) H1
theorem pe_lenSetT {a : Expr} {ta : TE} {p p2 q pos : Pos} (hc : X.calm = true) (hg : Gl X "len") (hm : X.mg "len" = none) (hg2 : Gl X "set") (hm2 : X.mg "set" = none) (ha : PE X a ta)
    (na : starEach [a] X.env = (false, eval a X.env) :: starEach [] X.env := by rfl) : PE X (.Call (.Name "len" p) [.Call (.Name "set" p2) [a] [] q] [] pos) (tLenSetT X.K ta) := by
  refine ⟨fun pins s σ H Q I h => ?_⟩
  refine Call_ (ld_blt I hg hm PySem.boot_len ?_)
  refine PyProof.Rows.callWith_builtin1 (PyProof.Rows.args_cons ?_ rfl) rfl rfl
  refine Call_ (ld_blt I hg2 hm2 PyProof.Rows.boot_set ?_)
  refine PyProof.Rows.callWith_type1 (PyProof.Rows.args_cons (thn (ha.run pins s σ H _ I h) fun v s1 ⟨x, H1, I1, r1, q1⟩ => PyProof.Rows.args_nil ?_) na) na rfl
  obtain ⟨t, ns, rfl, hq, h1, q1⟩ := q1
  cases r1
  obtain ⟨its, r, pl, hz⟩ := I1.tuple hq
  have hi : PyProof.Rows.IntsAre its.toArray.toList ns := by simpa using r.ints
  refine call_set_tupI ns (I1.ok.hd hc) (show s1.heap.IsTuple t its.toArray from pl) hi (by unfold scanBound; omega) fun h' tk c R1 hcn k => ?_
  refine PyProof.Rows.args_nil ?_
  obtain ⟨o, es, ep, tt, ho, hex, hdt, g, nd, hm2, hb, hf, hn, hr, hl2⟩ := R1
  have I2 : Inv X pins σ H1 { s1 with heap := h', toks := tk } := I1.kept fun b o e => k b o e
  have cn := count_nodup (ns := ns) nd fun k => (decide_eq_true_iff (p := k ∈ ns)).symm.trans (hm2 k)
  rw [List.length_map, Array.length_toList] at cn
  have sz : es.size ≤ ns.length := cn.1
  refine call_len_set ho hex hdt hf (by omega) ⟨.int es.size, H1, I2.tok _, ⟨_, rfl⟩, q1 es.size cn.2⟩
end
/-! ### errors of one field -/
def errH1 (H : Hp) (a C dx : Addr) (f : Str) (x : V) : Hp := upd (upd H dx (exd dx [(f, x)])) a (exo a C (some dx))
theorem raise1 {C : Addr} {f : Str} {x : V} {H : Hp} {Q : XK} (hq : ∀ d, H d = none → Q (.ref C) (some d) (upd H d (.xd [(f, x)]))) {a dx : Addr} (na : H a = none) (nd : upd H a (exo a C none) dx = none) (ne : dx ≠ a) :
    V.non = .non ∧ ∃ (d : Addr) (fs : List (Str × V)), errH1 (upd H a (exo a C none)) a C dx f x a = some (exo a C (some d)) ∧ errH1 (upd H a (exo a C none)) a C dx f x d = some (exd d fs) ∧ H d = none ∧
      Q (.ref C) (some d) (upd (del (errH1 (upd H a (exo a C none)) a C dx f x) a) d (.xd fs)) := by
  rw [upd_ne ne] at nd
  refine ⟨rfl, dx, [(f, x)], ?_, ?_, nd, ?_⟩
  · unfold errH1
    rw [upd_same]
  · unfold errH1
    rw [upd_ne ne, upd_same]
  · have e : upd (del (errH1 (upd H a (exo a C none)) a C dx f x) a) dx (.xd [(f, x)]) = upd H dx (.xd [(f, x)]) := by
      funext b
      by_cases h1 : b = dx
      · rw [h1, upd_same, upd_same]
      · rw [upd_ne h1, upd_ne h1]
        by_cases h2 : b = a
        · rw [h2, del_same, na]
        · rw [del_ne h2]
          unfold errH1
          rw [upd_ne h2, upd_ne h1, upd_ne h2]
    rw [e]
    exact hq dx nd
/-- a list of wishes -/
def Good (ns : List Int) : Prop := ns.Nodup ∧ ∀ n ∈ ns, 0 ≤ n
theorem ints_flat (ns : List Int) : (ns.map V.int).all flatV = true := by
  rw [List.all_eq_true]
  intro x hx
  obtain ⟨n, _, rfl⟩ := List.mem_map.mp hx
  rfl
theorem made1 {H : Hp} {x dx C : Addr} (nx : H x = none) (nd : H dx = none) : Same H (upd (upd H dx (.own x)) x (.ins C dx [])) := fun b o e => by
  rw [upd_ne (ne_of_none e nx), upd_ne (ne_of_none e nd)]
  exact e
theorem map_erase : ∀ (ls : List Int) (k : Nat), (ls.map V.int).eraseIdx k = (ls.eraseIdx k).map V.int
  | [], k => by cases k <;> rfl
  | n :: r, 0 => rfl
  | n :: r, k + 1 => by
    show V.int n :: (r.map V.int).eraseIdx k = _
    rw [map_erase r k]
    rfl
theorem drop_cons {ns : List Int} {i : Nat} {n : Int} (h : ns[i]? = some n) : ns.drop i = n :: ns.drop (i + 1) := by
  have lt : i < ns.length := (List.getElem?_eq_some_iff.mp h).1
  rw [List.drop_eq_getElem_cons lt]
  rw [List.getElem?_eq_getElem lt] at h
  rw [Option.some.inj h]
theorem good_iff_all {ns : List Int} : (ns.Nodup ∧ (ns.map fun n => decide (n ≥ 0)).all id = true) ↔ Good ns := by
  unfold Good
  rw [List.all_eq_true]
  constructor
  · rintro ⟨h1, h2⟩
    refine ⟨h1, fun n hn => ?_⟩
    have := h2 _ (List.mem_map.mpr ⟨n, hn, rfl⟩)
    exact of_decide_eq_true this
  · rintro ⟨h1, h2⟩
    refine ⟨h1, fun b hb => ?_⟩
    obtain ⟨n, hn, rfl⟩ := List.mem_map.mp hb
    exact decide_eq_true (h2 n hn)
theorem ite2N {c A B : Prop} [Decidable c] (h1 : ¬ c → A) (h2 : c → B) : if (!decide c) = true then A else B := by
  by_cases h : c
  · rw [decide_eq_true h]
    exact iteF (h2 h)
  · rw [decide_eq_false h]
    exact iteT (h1 h)
/-- the first price below 0, from place i on -/
def negAt : List Int → Nat → Option Nat
  | [], _ => none
  | n :: r, i => if n < 0 then some i else negAt r (i + 1)

instance (ns : List Int) : Decidable (Good ns) := by unfold Good; infer_instance
/-- a list of wishes in the heap: how many buyers, their things -/
def PairW (H : Hp) (u : Addr) (w : Int × List Int) : Prop := ∃ l, H u = some (.tup [.int w.1, .ref l]) ∧ H l = some (.tup (w.2.map V.int))
theorem PairW.same {H H' : Hp} {u : Addr} {w : Int × List Int} (s : Same H H') (h : PairW H u w) : PairW H' u w := by
  obtain ⟨l, h1, h2⟩ := h
  exact ⟨l, s _ _ h1, s _ _ h2⟩
def RowW (H : Hp) (us : List Addr) (pw : List (Int × List Int)) : Prop := us.length = pw.length ∧ ∀ (i : Nat) (u : Addr) (w : Int × List Int), us[i]? = some u → pw[i]? = some w → PairW H u w
theorem RowW.same {H H' : Hp} {us : List Addr} {pw : List (Int × List Int)} (s : Same H H') (h : RowW H us pw) : RowW H' us pw := ⟨h.1, fun i u w h1 h2 => (h.2 i u w h1 h2).same s⟩
theorem RowW.sx {p C dx : Addr} {fs : List (Str × V)} {H H' : Hp} {us : List Addr} {pw : List (Int × List Int)} (hp : H p = some (.ins C dx fs)) (s : SameX p H H') (h : RowW H us pw) : RowW H' us pw := ⟨h.1, fun i u w h1 h2 => by
  obtain ⟨l, e1, e2⟩ := h.2 i u w h1 h2
  refine ⟨l, s _ _ (fun z => ?_) e1, s _ _ (fun z => ?_) e2⟩
  · rw [z, hp] at e1
    cases e1
  · rw [z, hp] at e2
    cases e2⟩
/-- a list of wishes for things below m -/
def FitW (m : Int) (ns : List Int) : Prop := Good ns ∧ ∀ n ∈ ns, n < m
instance (m : Int) (ns : List Int) : Decidable (FitW m ns) := by unfold FitW; infer_instance
/-- the first wrong pair, from pair i on: by its buyers, or by its things -/
def badL (m : Int) : List (Int × List Int) → Nat → Option (Bool × Nat)
  | [], _ => none
  | w :: r, i => if w.1 < 1 then some (true, i) else if ¬ FitW m w.2 then some (false, i) else badL m r (i + 1)
theorem badL_num {m : Int} {w : Int × List Int} {r : List (Int × List Int)} {i : Nat} (h : w.1 < 1) : badL m (w :: r) i = some (true, i) := by
  unfold badL
  exact if_pos h
theorem badL_wish {m : Int} {w : Int × List Int} {r : List (Int × List Int)} {i : Nat} (h : ¬ w.1 < 1) (k : ¬ FitW m w.2) : badL m (w :: r) i = some (false, i) := by
  unfold badL
  rw [if_neg h]
  exact if_pos k
theorem badL_next {m : Int} {w : Int × List Int} {r : List (Int × List Int)} {i : Nat} (h : ¬ w.1 < 1) (k : FitW m w.2) : badL m (w :: r) i = badL m r (i + 1) := by
  rw [show badL m (w :: r) i = if w.1 < 1 then some (true, i) else if ¬ FitW m w.2 then some (false, i) else badL m r (i + 1) from rfl, if_neg h, if_neg fun z => z k]
inductive DueL | many (m : Int) | none | num (k : Nat) | wish (k : Nat) | made
/-- what is due for these pairs -/
def dueL (m : Int) (pw : List (Int × List Int)) : DueL := if m > 24 then .many m else if pw.length = 0 then .none else
  match badL m pw 0 with
  | some (true, k) => .num k
  | some (false, k) => .wish k
  | .none => .made
theorem dueL_many {m : Int} {pw : List (Int × List Int)} (h : m > 24) : dueL m pw = .many m := if_pos h
theorem dueL_none {m : Int} {pw : List (Int × List Int)} (h : ¬ m > 24) (k : pw.length = 0) : dueL m pw = .none := by
  unfold dueL
  rw [if_neg h]
  exact if_pos k
theorem dueL_rest {m : Int} {pw : List (Int × List Int)} (h : ¬ m > 24) (k : ¬ pw.length = 0) : dueL m pw = (match badL m pw 0 with
  | some (true, k) => .num k
  | some (false, k) => .wish k
  | .none => .made) := by
  unfold dueL
  rw [if_neg h, if_neg k]
def fL (m : Int) (t : Addr) : List (Str × V) := putF "wishes" (.ref t) (putF "many" (.int m) [])
theorem fL_many (m : Int) (t : Addr) : (fL m t).lookup ("many" : Str) = some (V.int m) := by rfl
theorem fL_wishes (m : Int) (t : Addr) : (fL m t).lookup ("wishes" : Str) = some (V.ref t) := by rfl
/-- a rule of lists of wishes -/
def LAt (C : Addr) (H : Hp) (p : Addr) (m : Int) (pw : List (Int × List Int)) : Prop := ∃ (dx t : Addr) (us : List Addr), H p = some (.ins C dx (fL m t)) ∧ H t = some (.tup (us.map V.ref)) ∧ RowW H us pw
theorem LAt.same {C : Addr} {H H' : Hp} {p : Addr} {m : Int} {pw : List (Int × List Int)} (s : Same H H') (h : LAt C H p m pw) : LAt C H' p m pw := by
  obtain ⟨dx, t, us, h1, h2, h3⟩ := h
  exact ⟨dx, t, us, s _ _ h1, s _ _ h2, h3.same s⟩
theorem drop_pair {l : List (Int × List Int)} {i : Nat} {n : Int × List Int} (h : l[i]? = some n) : l.drop i = n :: l.drop (i + 1) := by
  have lt : i < l.length := (List.getElem?_eq_some_iff.mp h).1
  rw [List.drop_eq_getElem_cons lt]
  rw [List.getElem?_eq_getElem lt] at h
  rw [Option.some.inj h]
theorem ge_any {m : Int} {ns : List Int} : (ns.map fun n => decide (n ≥ m)).any id = false ↔ ∀ n ∈ ns, n < m := by
  rw [List.any_map, List.any_eq_false]
  constructor
  · intro h n hn
    have := h n hn
    simp at this
    exact this
  · intro h n hn
    have := h n hn
    simp
    exact this
theorem lst_sx {p C dx y : Addr} {fs : List (Str × V)} {H H' : Hp} {xs : List V} (hp : H p = some (.ins C dx fs)) (s : SameX p H H') (h : H y = some (.lst xs)) : H' y = some (.lst xs) := s _ _ (fun z => by
  rw [z, hp] at h
  cases h) h

/-- the class of a rule by its kind -/
def clsOf (CW CR CL : Addr) (k : Nat) : Addr := if k = 0 then CW else if k = 1 then CR else CL
/-- a rule of the kind k for m things -/
def RuAt (CW CR CL : Addr) (H : Hp) (r : Addr) (k m : Nat) : Prop := ∃ (dx : Addr) (fs : List (Str × V)), H r = some (.ins (clsOf CW CR CL k) dx fs) ∧ fs.lookup ("many" : Str) = some (.int (m : Int))
theorem RuAt.same {CW CR CL : Addr} {H H' : Hp} {r : Addr} {k m : Nat} (s : Same H H') (h : RuAt CW CR CL H r k m) : RuAt CW CR CL H' r k m := by
  obtain ⟨dx, fs, h1, h2⟩ := h
  exact ⟨dx, fs, s _ _ h1, h2⟩
/-- a part: how many buyers, the rule -/
def PartM (CW CR CL : Addr) (H : Hp) (u : Addr) (w : Int × Nat × Nat) : Prop := ∃ r, H u = some (.tup [.int w.1, .ref r]) ∧ RuAt CW CR CL H r w.2.2 w.2.1
theorem PartM.same {CW CR CL : Addr} {H H' : Hp} {u : Addr} {w : Int × Nat × Nat} (s : Same H H') (h : PartM CW CR CL H u w) : PartM CW CR CL H' u w := by
  obtain ⟨r, h1, h2⟩ := h
  exact ⟨r, s _ _ h1, h2.same s⟩
def RowM (CW CR CL : Addr) (H : Hp) (us : List Addr) (ts : List (Int × Nat × Nat)) : Prop := us.length = ts.length ∧ ∀ (i : Nat) (u : Addr) (w : Int × Nat × Nat), us[i]? = some u → ts[i]? = some w → PartM CW CR CL H u w
theorem RowM.same {CW CR CL : Addr} {H H' : Hp} {us : List Addr} {ts : List (Int × Nat × Nat)} (s : Same H H') (h : RowM CW CR CL H us ts) : RowM CW CR CL H' us ts := ⟨h.1, fun i u w h1 h2 => (h.2 i u w h1 h2).same s⟩
/-- an instance that has no field yet is none of the rules -/
theorem RowM.sx {CW CR CL p C dx : Addr} {H H' : Hp} {us : List Addr} {ts : List (Int × Nat × Nat)} (hp : H p = some (.ins C dx [])) (s : SameX p H H') (h : RowM CW CR CL H us ts) : RowM CW CR CL H' us ts := ⟨h.1, fun i u w h1 h2 => by
  obtain ⟨r, e1, dx2, fs, e2, e3⟩ := h.2 i u w h1 h2
  refine ⟨r, s _ _ (fun z => ?_) e1, dx2, fs, s _ _ (fun z => ?_) e2, e3⟩
  · rw [z, hp] at e1
    cases e1
  · rw [z, hp] at e2
    cases e2
    cases e3⟩
/-- the first wrong part, from part i on: by its buyers, or by its number of things -/
def badM (m : Nat) : List (Int × Nat × Nat) → Nat → Option (Bool × Nat)
  | [], _ => none
  | w :: r, i => if w.1 < 1 then some (true, i) else if w.2.1 ≠ m then some (false, i) else badM m r (i + 1)
theorem badM_num {m : Nat} {w : Int × Nat × Nat} {r : List (Int × Nat × Nat)} {i : Nat} (h : w.1 < 1) : badM m (w :: r) i = some (true, i) := by
  unfold badM
  exact if_pos h
theorem badM_un {m : Nat} {w : Int × Nat × Nat} {r : List (Int × Nat × Nat)} {i : Nat} (h : ¬ w.1 < 1) (k : w.2.1 ≠ m) : badM m (w :: r) i = some (false, i) := by
  unfold badM
  rw [if_neg h]
  exact if_pos k
theorem badM_next {m : Nat} {w : Int × Nat × Nat} {r : List (Int × Nat × Nat)} {i : Nat} (h : ¬ w.1 < 1) (k : w.2.1 = m) : badM m (w :: r) i = badM m r (i + 1) := by
  rw [show badM m (w :: r) i = if w.1 < 1 then some (true, i) else if w.2.1 ≠ m then some (false, i) else badM m r (i + 1) from rfl, if_neg h, if_neg fun z => z k]
inductive DueM | none | num (k : Nat) | unlike (k : Nat) | made
/-- what is due for these parts -/
def dueM : List (Int × Nat × Nat) → DueM
  | [] => .none
  | w :: r => match badM w.2.1 (w :: r) 0 with
    | some (true, k) => .num k
    | some (false, k) => .unlike k
    | .none => .made
theorem dueM_rest {ts : List (Int × Nat × Nat)} {w : Int × Nat × Nat} (h : ts[0]? = some w) : dueM ts = (match badM w.2.1 ts 0 with
    | some (true, k) => .num k
    | some (false, k) => .unlike k
    | .none => .made) := by
  cases ts with
  | nil => cases h
  | cons x r =>
    cases h
    rfl
theorem drop_m {l : List (Int × Nat × Nat)} {i : Nat} {n : Int × Nat × Nat} (h : l[i]? = some n) : l.drop i = n :: l.drop (i + 1) := by
  have lt : i < l.length := (List.getElem?_eq_some_iff.mp h).1
  rw [List.drop_eq_getElem_cons lt]
  rw [List.getElem?_eq_getElem lt] at h
  rw [Option.some.inj h]
def fM (m : Nat) (t : Addr) : List (Str × V) := putF "parts" (.ref t) (putF "many" (.int (m : Int)) [])
theorem fM_many (m : Nat) (t : Addr) : (fM m t).lookup ("many" : Str) = some (V.int (m : Int)) := by rfl
theorem fM_parts (m : Nat) (t : Addr) : (fM m t).lookup ("parts" : Str) = some (V.ref t) := by rfl

/-- the numbers of the parts -/
def RowN (H : Hp) (us : List Addr) (ts : List (Int × Nat × Nat)) : Prop := us.length = ts.length ∧ ∀ (i : Nat) (u : Addr) (w : Int × Nat × Nat), us[i]? = some u → ts[i]? = some w → H u = some (.tup [.int w.1, .int (w.2.1 : Int), .int (w.2.2 : Int)])
theorem RowN.same {H H' : Hp} {us : List Addr} {ts : List (Int × Nat × Nat)} (s : Same H H') (h : RowN H us ts) : RowN H' us ts := ⟨h.1, fun i u w h1 h2 => s _ _ (h.2 i u w h1 h2)⟩
theorem RowN.put {H : Hp} {D : Addr} {xs : List V} {o : HO} {us : List Addr} {ts : List (Int × Nat × Nat)} (hD : H D = some (.lst xs)) (h : RowN H us ts) : RowN (upd H D o) us ts := ⟨h.1, fun i u w h1 h2 => by
  have e := h.2 i u w h1 h2
  exact (upd_ne fun z => by
    rw [z, hD] at e
    cases e).trans e⟩
theorem RowN.snoc {H : Hp} {us : List Addr} {ts : List (Int × Nat × Nat)} {u : Addr} {w : Int × Nat × Nat} (h : RowN H us ts) (k : H u = some (.tup [.int w.1, .int (w.2.1 : Int), .int (w.2.2 : Int)])) : RowN H (us ++ [u]) (ts ++ [w]) := by
  refine ⟨by rw [List.length_append, List.length_append, h.1]; rfl, fun j v x h1 h2 => ?_⟩
  by_cases hj : j < us.length
  · rw [List.getElem?_append_left hj] at h1
    rw [List.getElem?_append_left (by have := h.1; omega)] at h2
    exact h.2 j v x h1 h2
  · rw [List.getElem?_append_right (by omega)] at h1
    rw [List.getElem?_append_right (by have := h.1; omega)] at h2
    obtain ⟨n, hn⟩ : ∃ n, j - us.length = n := ⟨_, rfl⟩
    rw [← h.1, hn] at h2
    rw [hn] at h1
    cases n with
    | zero =>
      cases h1
      cases h2
      exact k
    | succ n => cases h1
theorem PartM.put {CW CR CL : Addr} {H : Hp} {D u : Addr} {xs : List V} {o : HO} {w : Int × Nat × Nat} (hD : H D = some (.lst xs)) (h : PartM CW CR CL H u w) : PartM CW CR CL (upd H D o) u w := by
  obtain ⟨r, h1, dx, fs, h2, h3⟩ := h
  have n1 : u ≠ D := fun z => by
    rw [z, hD] at h1
    cases h1
  have n2 : r ≠ D := fun z => by
    rw [z, hD] at h2
    cases h2
  exact ⟨r, (upd_ne n1).trans h1, dx, fs, (upd_ne n2).trans h2, h3⟩
theorem RowM.put {CW CR CL : Addr} {H : Hp} {D : Addr} {xs : List V} {o : HO} {us : List Addr} {ts : List (Int × Nat × Nat)} (hD : H D = some (.lst xs)) (h : RowM CW CR CL H us ts) : RowM CW CR CL (upd H D o) us ts := ⟨h.1, fun i u w h1 h2 => (h.2 i u w h1 h2).put hD⟩
theorem RowM.snoc {CW CR CL : Addr} {H : Hp} {us : List Addr} {ts : List (Int × Nat × Nat)} {u : Addr} {w : Int × Nat × Nat} (h : RowM CW CR CL H us ts) (k : PartM CW CR CL H u w) : RowM CW CR CL H (us ++ [u]) (ts ++ [w]) := by
  refine ⟨by rw [List.length_append, List.length_append, h.1]; rfl, fun j v x h1 h2 => ?_⟩
  by_cases hj : j < us.length
  · rw [List.getElem?_append_left hj] at h1
    rw [List.getElem?_append_left (by have := h.1; omega)] at h2
    exact h.2 j v x h1 h2
  · rw [List.getElem?_append_right (by omega)] at h1
    rw [List.getElem?_append_right (by have := h.1; omega)] at h2
    obtain ⟨n, hn⟩ : ∃ n, j - us.length = n := ⟨_, rfl⟩
    rw [← h.1, hn] at h2
    rw [hn] at h1
    cases n with
    | zero =>
      cases h1
      cases h2
      exact k
    | succ n => cases h1
def DueM.due : DueM → List V
  | .none => [.str "none"]
  | .num k => [.str "number", .str "buyers", .int (k : Int)]
  | .unlike k => [.str "unlike", .int (k : Int)]
  | .made => [.str "made"]
def DueM.cls : DueM → List V
  | .none => [.bl true, .bl false, .bl false, .bl false, .bl false, .bl false, .bl true]
  | .num _ => [.bl false, .bl true, .bl false, .bl false, .bl false, .bl false, .bl true]
  | .unlike _ => [.bl false, .bl false, .bl true, .bl false, .bl false, .bl false, .bl true]
  | .made => []
theorem dueM_kinds (d : DueM) : ∀ x ∈ d.due, (∃ s, x = .str s) ∨ ∃ n, x = .int n := by
  intro x hx
  cases d <;> simp only [DueM.due, List.mem_cons, List.not_mem_nil, or_false] at hx
  · exact .inl ⟨_, hx⟩
  · rcases hx with rfl | rfl | rfl
    · exact .inl ⟨_, rfl⟩
    · exact .inl ⟨_, rfl⟩
    · exact .inr ⟨_, rfl⟩
  · rcases hx with rfl | rfl
    · exact .inl ⟨_, rfl⟩
    · exact .inr ⟨_, rfl⟩
  · exact .inl ⟨_, hx⟩
theorem dueM_len (d : DueM) : d.due.length ≤ 10 := by cases d <;> show _ ≤ 10 <;> simp [DueM.due]
theorem kSt : kitB "str" "str" = some true := by decide +kernel
theorem kIS : kitB "int" "str" = some false := by decide +kernel
theorem ones_len : ∀ (m : Nat), (List.replicate m (1 : Int)).length = m := fun m => List.length_replicate
theorem bad_ones : ∀ (m i : Nat), badAt (List.replicate m (1 : Int)) i = none
  | 0, _ => rfl
  | m + 1, i => by
    show (if (1 : Int) < 1 then some i else badAt (List.replicate m (1 : Int)) (i + 1)) = none
    rw [if_neg (by decide), bad_ones m (i + 1)]
theorem good_nil (m : Int) : FitW m [] := ⟨⟨List.nodup_nil, fun n h => absurd h (by simp)⟩, fun n h => absurd h (by simp)⟩
theorem made_one {m : Nat} (h : m ≤ 24) : dueL (m : Int) [(1, [])] = .made := by
  rw [dueL_rest (by omega) (by decide), badL_next (by decide) (good_nil _)]
  rfl
theorem sameX_made {C x dx : Addr} {H H' : Hp} (nx : H x = none) (nd : H dx = none) (k : SameX x (upd (upd H dx (.own x)) x (.ins C dx [])) H') : Same H H' := fun b o e => by
  have h1 : b ≠ x := ne_of_none e nx
  have h2 : b ≠ dx := ne_of_none e nd
  exact k b o h1 (by rw [upd_ne h1, upd_ne h2]; exact e)
theorem dp_ints {K : PySem.W.Frag} {H : Hp} {a : Addr} {ns : List Int} (h : SqL K H a (ns.map V.int)) : Dp K H (.ref a) (.list (ns.map PyData.int)) := by
  refine .lst h ?_
  clear h
  induction ns with
  | nil => exact .nil
  | cons n r ih => exact .cons (.int n) ih
theorem depthAll_ints : ∀ ns : List Int, PyData.depthAll (ns.map PyData.int) = 0
  | [] => rfl
  | n :: r => by
    show max (PyData.depth (.int n)) (PyData.depthAll (r.map PyData.int)) = 0
    rw [depthAll_ints r]
    rfl
theorem depth_ints (ns : List Int) : PyData.depth (.list (ns.map PyData.int)) = 1 := by
  show PyData.depthAll (ns.map PyData.int) + 1 = 1
  rw [depthAll_ints]
theorem lay_ints : ∀ ns : List Int, PyData.canLayAll0 (ns.map PyData.int) = true
  | [] => rfl
  | n :: r => by
    show ((PyData.int n).canLay0 && PyData.canLayAll0 (r.map PyData.int)) = true
    rw [lay_ints r]
    rfl

theorem sh_0 : SeqAt.shaped (.list []) = true := by decide +kernel
theorem sh_7 (a b c d e f g : Bool) : SeqAt.shaped (.list [.bool a, .bool b, .bool c, .bool d, .bool e, .bool f, .bool g]) = true := by cases a <;> cases b <;> cases c <;> cases d <;> cases e <;> cases f <;> cases g <;> decide +kernel
theorem dp_7 {K : PySem.W.Frag} {H : Hp} {t : Addr} {a b c d e f g : Bool} (h : H t = some (.lst [.bl a, .bl b, .bl c, .bl d, .bl e, .bl f, .bl g])) : Dp K H (.ref t) (.list [.bool a, .bool b, .bool c, .bool d, .bool e, .bool f, .bool g]) := .lst (lst_l h) (.cons (.bl _) (.cons (.bl _) (.cons (.bl _) (.cons (.bl _) (.cons (.bl _) (.cons (.bl _) (.cons (.bl _) .nil)))))))
theorem iteND {c A B : Prop} [Decidable c] (h : ¬ c) (a : A) : if (!decide c) = true then A else B := by
  rw [decide_eq_false h]
  exact iteT a
/-- what the top has written of the classes -/
structure Txt (K : PySem.W.Frag) (mg : Str → Option Value) (C_Listed C_Mixed C_Weighted C_Rule C_BadNumber C_TooMany C_BadWish C_Unlike C_BadTable C_NoBuyers C_ShelfError : Addr) : Prop where
  g_Listed : mg "Listed" = some (.ref C_Listed)
  kc_Listed : PySem.W.keepIn K (.ref C_Listed) = true
  hd_Listed : PySem.W.hasDictIn K C_Listed = true
  ha_Listed : PySem.W.findIn K (.ref C_Listed) "__class__" = some (some (.builtin "object.__class__"))
  hm_Listed : PySem.W.mroIn K C_Listed (.type "object") = some true
  cl_Listed : Cls K C_Listed
  mk_Listed : PySem.W.makesIn K C_Listed = true
  n_Listed_many : NoAttr K C_Listed "many"
  n_Listed_wishes : NoAttr K C_Listed "wishes"
  g_Mixed : mg "Mixed" = some (.ref C_Mixed)
  kc_Mixed : PySem.W.keepIn K (.ref C_Mixed) = true
  hd_Mixed : PySem.W.hasDictIn K C_Mixed = true
  ha_Mixed : PySem.W.findIn K (.ref C_Mixed) "__class__" = some (some (.builtin "object.__class__"))
  hm_Mixed : PySem.W.mroIn K C_Mixed (.type "object") = some true
  cl_Mixed : Cls K C_Mixed
  mk_Mixed : PySem.W.makesIn K C_Mixed = true
  n_Mixed_many : NoAttr K C_Mixed "many"
  n_Mixed_parts : NoAttr K C_Mixed "parts"
  g_Weighted : mg "Weighted" = some (.ref C_Weighted)
  kc_Weighted : PySem.W.keepIn K (.ref C_Weighted) = true
  hd_Weighted : PySem.W.hasDictIn K C_Weighted = true
  ha_Weighted : PySem.W.findIn K (.ref C_Weighted) "__class__" = some (some (.builtin "object.__class__"))
  hm_Weighted : PySem.W.mroIn K C_Weighted (.type "object") = some true
  cl_Weighted : Cls K C_Weighted
  mk_Weighted : PySem.W.makesIn K C_Weighted = true
  n_Weighted_many : NoAttr K C_Weighted "many"
  n_Weighted_weights : NoAttr K C_Weighted "weights"
  n_Weighted_aside : NoAttr K C_Weighted "aside"
  g_Rule : mg "Rule" = some (.ref C_Rule)
  kc_Rule : PySem.W.keepIn K (.ref C_Rule) = true
  hd_Rule : PySem.W.hasDictIn K C_Rule = true
  ha_Rule : PySem.W.findIn K (.ref C_Rule) "__class__" = some (some (.builtin "object.__class__"))
  hm_Rule : PySem.W.mroIn K C_Rule (.type "object") = some true
  cl_Rule : Cls K C_Rule
  mk_Rule : PySem.W.makesIn K C_Rule = true
  n_Rule_many : NoAttr K C_Rule "many"
  g_BadNumber : mg "BadNumber" = some (.ref C_BadNumber)
  kc_BadNumber : PySem.W.keepIn K (.ref C_BadNumber) = true
  hd_BadNumber : PySem.W.hasDictIn K C_BadNumber = true
  ha_BadNumber : PySem.W.findIn K (.ref C_BadNumber) "__class__" = some (some (.builtin "object.__class__"))
  hm_BadNumber : PySem.W.mroIn K C_BadNumber (.type "object") = some true
  b_BadNumber : PySem.W.subIn K (.ref C_BadNumber) (.type "BaseException") = some true
  t_BadNumber : PySem.W.typeIn K (.ref C_BadNumber) = some (.type "type")
  ga_BadNumber : PySem.W.findIn K (.ref C_BadNumber) "__getattribute__" = some (some (.builtin "BaseException.__getattribute__"))
  gg_BadNumber : PySem.W.findIn K (.ref C_BadNumber) "__getattr__" = some none
  ox_BadNumber : OexC K C_BadNumber
  xf_BadNumber : XfC K C_BadNumber
  n_BadNumber_what : PySem.W.findIn K (.ref C_BadNumber) "what" = some none
  n_BadNumber_at : PySem.W.findIn K (.ref C_BadNumber) "at" = some none
  g_TooMany : mg "TooMany" = some (.ref C_TooMany)
  kc_TooMany : PySem.W.keepIn K (.ref C_TooMany) = true
  hd_TooMany : PySem.W.hasDictIn K C_TooMany = true
  ha_TooMany : PySem.W.findIn K (.ref C_TooMany) "__class__" = some (some (.builtin "object.__class__"))
  hm_TooMany : PySem.W.mroIn K C_TooMany (.type "object") = some true
  b_TooMany : PySem.W.subIn K (.ref C_TooMany) (.type "BaseException") = some true
  t_TooMany : PySem.W.typeIn K (.ref C_TooMany) = some (.type "type")
  ga_TooMany : PySem.W.findIn K (.ref C_TooMany) "__getattribute__" = some (some (.builtin "BaseException.__getattribute__"))
  gg_TooMany : PySem.W.findIn K (.ref C_TooMany) "__getattr__" = some none
  ox_TooMany : OexC K C_TooMany
  xf_TooMany : XfC K C_TooMany
  n_TooMany_many : PySem.W.findIn K (.ref C_TooMany) "many" = some none
  n_TooMany_most : PySem.W.findIn K (.ref C_TooMany) "most" = some none
  g_BadWish : mg "BadWish" = some (.ref C_BadWish)
  kc_BadWish : PySem.W.keepIn K (.ref C_BadWish) = true
  hd_BadWish : PySem.W.hasDictIn K C_BadWish = true
  ha_BadWish : PySem.W.findIn K (.ref C_BadWish) "__class__" = some (some (.builtin "object.__class__"))
  hm_BadWish : PySem.W.mroIn K C_BadWish (.type "object") = some true
  b_BadWish : PySem.W.subIn K (.ref C_BadWish) (.type "BaseException") = some true
  t_BadWish : PySem.W.typeIn K (.ref C_BadWish) = some (.type "type")
  ga_BadWish : PySem.W.findIn K (.ref C_BadWish) "__getattribute__" = some (some (.builtin "BaseException.__getattribute__"))
  gg_BadWish : PySem.W.findIn K (.ref C_BadWish) "__getattr__" = some none
  ox_BadWish : OexC K C_BadWish
  xf_BadWish : XfC K C_BadWish
  n_BadWish_at : PySem.W.findIn K (.ref C_BadWish) "at" = some none
  g_Unlike : mg "Unlike" = some (.ref C_Unlike)
  kc_Unlike : PySem.W.keepIn K (.ref C_Unlike) = true
  hd_Unlike : PySem.W.hasDictIn K C_Unlike = true
  ha_Unlike : PySem.W.findIn K (.ref C_Unlike) "__class__" = some (some (.builtin "object.__class__"))
  hm_Unlike : PySem.W.mroIn K C_Unlike (.type "object") = some true
  b_Unlike : PySem.W.subIn K (.ref C_Unlike) (.type "BaseException") = some true
  t_Unlike : PySem.W.typeIn K (.ref C_Unlike) = some (.type "type")
  ga_Unlike : PySem.W.findIn K (.ref C_Unlike) "__getattribute__" = some (some (.builtin "BaseException.__getattribute__"))
  gg_Unlike : PySem.W.findIn K (.ref C_Unlike) "__getattr__" = some none
  ox_Unlike : OexC K C_Unlike
  xf_Unlike : XfC K C_Unlike
  n_Unlike_at : PySem.W.findIn K (.ref C_Unlike) "at" = some none
  g_BadTable : mg "BadTable" = some (.ref C_BadTable)
  kc_BadTable : PySem.W.keepIn K (.ref C_BadTable) = true
  hd_BadTable : PySem.W.hasDictIn K C_BadTable = true
  ha_BadTable : PySem.W.findIn K (.ref C_BadTable) "__class__" = some (some (.builtin "object.__class__"))
  hm_BadTable : PySem.W.mroIn K C_BadTable (.type "object") = some true
  b_BadTable : PySem.W.subIn K (.ref C_BadTable) (.type "BaseException") = some true
  t_BadTable : PySem.W.typeIn K (.ref C_BadTable) = some (.type "type")
  ga_BadTable : PySem.W.findIn K (.ref C_BadTable) "__getattribute__" = some (some (.builtin "BaseException.__getattribute__"))
  gg_BadTable : PySem.W.findIn K (.ref C_BadTable) "__getattr__" = some none
  ox_BadTable : OexC K C_BadTable
  xf_BadTable : XfC K C_BadTable
  n_BadTable_at : PySem.W.findIn K (.ref C_BadTable) "at" = some none
  g_NoBuyers : mg "NoBuyers" = some (.ref C_NoBuyers)
  kc_NoBuyers : PySem.W.keepIn K (.ref C_NoBuyers) = true
  hd_NoBuyers : PySem.W.hasDictIn K C_NoBuyers = true
  ha_NoBuyers : PySem.W.findIn K (.ref C_NoBuyers) "__class__" = some (some (.builtin "object.__class__"))
  hm_NoBuyers : PySem.W.mroIn K C_NoBuyers (.type "object") = some true
  b_NoBuyers : PySem.W.subIn K (.ref C_NoBuyers) (.type "BaseException") = some true
  t_NoBuyers : PySem.W.typeIn K (.ref C_NoBuyers) = some (.type "type")
  ga_NoBuyers : PySem.W.findIn K (.ref C_NoBuyers) "__getattribute__" = some (some (.builtin "BaseException.__getattribute__"))
  gg_NoBuyers : PySem.W.findIn K (.ref C_NoBuyers) "__getattr__" = some none
  x_NoBuyers : PySem.W.excIn K C_NoBuyers [.type "ValueError", .type "Exception", .type "BaseException", .type "object"] "ValueError.__new__" = true
  g_ShelfError : mg "ShelfError" = some (.ref C_ShelfError)
  kc_ShelfError : PySem.W.keepIn K (.ref C_ShelfError) = true
  hd_ShelfError : PySem.W.hasDictIn K C_ShelfError = true
  ha_ShelfError : PySem.W.findIn K (.ref C_ShelfError) "__class__" = some (some (.builtin "object.__class__"))
  hm_ShelfError : PySem.W.mroIn K C_ShelfError (.type "object") = some true
  b_ShelfError : PySem.W.subIn K (.ref C_ShelfError) (.type "BaseException") = some true
  t_ShelfError : PySem.W.typeIn K (.ref C_ShelfError) = some (.type "type")
  ga_ShelfError : PySem.W.findIn K (.ref C_ShelfError) "__getattribute__" = some (some (.builtin "BaseException.__getattribute__"))
  gg_ShelfError : PySem.W.findIn K (.ref C_ShelfError) "__getattr__" = some none
  hnc : PySem.W.specialIn K (.builtin "object.__class__") "__get__" = some (some (.builtin "getset_descriptor.__get__"))
  htk : PySem.W.takesIn K (.builtin "object.__class__") = some true
  sub_NoBuyers_NoBuyers : PySem.W.subIn K (.ref C_NoBuyers) (.ref C_NoBuyers) = some true
  sub_NoBuyers_BadNumber : PySem.W.subIn K (.ref C_NoBuyers) (.ref C_BadNumber) = some false
  sub_NoBuyers_Unlike : PySem.W.subIn K (.ref C_NoBuyers) (.ref C_Unlike) = some false
  sub_BadNumber_NoBuyers : PySem.W.subIn K (.ref C_BadNumber) (.ref C_NoBuyers) = some false
  sub_BadNumber_BadNumber : PySem.W.subIn K (.ref C_BadNumber) (.ref C_BadNumber) = some true
  sub_BadNumber_Unlike : PySem.W.subIn K (.ref C_BadNumber) (.ref C_Unlike) = some false
  sub_Unlike_NoBuyers : PySem.W.subIn K (.ref C_Unlike) (.ref C_NoBuyers) = some false
  sub_Unlike_BadNumber : PySem.W.subIn K (.ref C_Unlike) (.ref C_BadNumber) = some false
  sub_Unlike_Unlike : PySem.W.subIn K (.ref C_Unlike) (.ref C_Unlike) = some true
  sub_NoBuyers_ShelfError : PySem.W.subIn K (.ref C_NoBuyers) (.ref C_ShelfError) = some true
  sub_BadNumber_ShelfError : PySem.W.subIn K (.ref C_BadNumber) (.ref C_ShelfError) = some true
  sub_Unlike_ShelfError : PySem.W.subIn K (.ref C_Unlike) (.ref C_ShelfError) = some true
  kit_NoBuyers_NoBuyers : PySem.W.kitOne K (.ref C_NoBuyers) (.ref C_NoBuyers) = some true
  kit_NoBuyers_BadNumber : PySem.W.kitOne K (.ref C_NoBuyers) (.ref C_BadNumber) = some false
  kit_NoBuyers_Unlike : PySem.W.kitOne K (.ref C_NoBuyers) (.ref C_Unlike) = some false
  kit_NoBuyers_BadWish : PySem.W.kitOne K (.ref C_NoBuyers) (.ref C_BadWish) = some false
  kit_NoBuyers_BadTable : PySem.W.kitOne K (.ref C_NoBuyers) (.ref C_BadTable) = some false
  kit_NoBuyers_TooMany : PySem.W.kitOne K (.ref C_NoBuyers) (.ref C_TooMany) = some false
  kit_NoBuyers_ValueError : PySem.W.kitOne K (.ref C_NoBuyers) (.type "ValueError") = some true
  kit_BadNumber_NoBuyers : PySem.W.kitOne K (.ref C_BadNumber) (.ref C_NoBuyers) = some false
  kit_BadNumber_BadNumber : PySem.W.kitOne K (.ref C_BadNumber) (.ref C_BadNumber) = some true
  kit_BadNumber_Unlike : PySem.W.kitOne K (.ref C_BadNumber) (.ref C_Unlike) = some false
  kit_BadNumber_BadWish : PySem.W.kitOne K (.ref C_BadNumber) (.ref C_BadWish) = some false
  kit_BadNumber_BadTable : PySem.W.kitOne K (.ref C_BadNumber) (.ref C_BadTable) = some false
  kit_BadNumber_TooMany : PySem.W.kitOne K (.ref C_BadNumber) (.ref C_TooMany) = some false
  kit_BadNumber_ValueError : PySem.W.kitOne K (.ref C_BadNumber) (.type "ValueError") = some true
  kit_Unlike_NoBuyers : PySem.W.kitOne K (.ref C_Unlike) (.ref C_NoBuyers) = some false
  kit_Unlike_BadNumber : PySem.W.kitOne K (.ref C_Unlike) (.ref C_BadNumber) = some false
  kit_Unlike_Unlike : PySem.W.kitOne K (.ref C_Unlike) (.ref C_Unlike) = some true
  kit_Unlike_BadWish : PySem.W.kitOne K (.ref C_Unlike) (.ref C_BadWish) = some false
  kit_Unlike_BadTable : PySem.W.kitOne K (.ref C_Unlike) (.ref C_BadTable) = some false
  kit_Unlike_TooMany : PySem.W.kitOne K (.ref C_Unlike) (.ref C_TooMany) = some false
  kit_Unlike_ValueError : PySem.W.kitOne K (.ref C_Unlike) (.type "ValueError") = some true
  kit_Weighted_Weighted : PySem.W.kitOne K (.ref C_Weighted) (.ref C_Weighted) = some true
  kit_Weighted_Rule : PySem.W.kitOne K (.ref C_Weighted) (.ref C_Rule) = some true
  kit_Weighted_Listed : PySem.W.kitOne K (.ref C_Weighted) (.ref C_Listed) = some false
  kit_Rule_Weighted : PySem.W.kitOne K (.ref C_Rule) (.ref C_Weighted) = some false
  kit_Rule_Rule : PySem.W.kitOne K (.ref C_Rule) (.ref C_Rule) = some true
  kit_Rule_Listed : PySem.W.kitOne K (.ref C_Rule) (.ref C_Listed) = some false
  kit_Listed_Weighted : PySem.W.kitOne K (.ref C_Listed) (.ref C_Weighted) = some false
  kit_Listed_Rule : PySem.W.kitOne K (.ref C_Listed) (.ref C_Rule) = some true
  kit_Listed_Listed : PySem.W.kitOne K (.ref C_Listed) (.ref C_Listed) = some true
  g_MOST_THINGS : ∃ t, mg "MOST_THINGS" = some (.int 24 t)
theorem Txt.ec_BadNumber {K : PySem.W.Frag} {mg : Str → Option Value} {C_Listed C_Mixed C_Weighted C_Rule C_BadNumber C_TooMany C_BadWish C_Unlike C_BadTable C_NoBuyers C_ShelfError : Addr} (T : Txt K mg C_Listed C_Mixed C_Weighted C_Rule C_BadNumber C_TooMany C_BadWish C_Unlike C_BadTable C_NoBuyers C_ShelfError) : ExcC K C_BadNumber := ⟨T.ga_BadNumber, T.gg_BadNumber, T.b_BadNumber, T.hd_BadNumber, T.ha_BadNumber, T.hnc, T.htk, T.hm_BadNumber⟩
theorem Txt.ec_TooMany {K : PySem.W.Frag} {mg : Str → Option Value} {C_Listed C_Mixed C_Weighted C_Rule C_BadNumber C_TooMany C_BadWish C_Unlike C_BadTable C_NoBuyers C_ShelfError : Addr} (T : Txt K mg C_Listed C_Mixed C_Weighted C_Rule C_BadNumber C_TooMany C_BadWish C_Unlike C_BadTable C_NoBuyers C_ShelfError) : ExcC K C_TooMany := ⟨T.ga_TooMany, T.gg_TooMany, T.b_TooMany, T.hd_TooMany, T.ha_TooMany, T.hnc, T.htk, T.hm_TooMany⟩
theorem Txt.ec_BadWish {K : PySem.W.Frag} {mg : Str → Option Value} {C_Listed C_Mixed C_Weighted C_Rule C_BadNumber C_TooMany C_BadWish C_Unlike C_BadTable C_NoBuyers C_ShelfError : Addr} (T : Txt K mg C_Listed C_Mixed C_Weighted C_Rule C_BadNumber C_TooMany C_BadWish C_Unlike C_BadTable C_NoBuyers C_ShelfError) : ExcC K C_BadWish := ⟨T.ga_BadWish, T.gg_BadWish, T.b_BadWish, T.hd_BadWish, T.ha_BadWish, T.hnc, T.htk, T.hm_BadWish⟩
theorem Txt.ec_Unlike {K : PySem.W.Frag} {mg : Str → Option Value} {C_Listed C_Mixed C_Weighted C_Rule C_BadNumber C_TooMany C_BadWish C_Unlike C_BadTable C_NoBuyers C_ShelfError : Addr} (T : Txt K mg C_Listed C_Mixed C_Weighted C_Rule C_BadNumber C_TooMany C_BadWish C_Unlike C_BadTable C_NoBuyers C_ShelfError) : ExcC K C_Unlike := ⟨T.ga_Unlike, T.gg_Unlike, T.b_Unlike, T.hd_Unlike, T.ha_Unlike, T.hnc, T.htk, T.hm_Unlike⟩
theorem Txt.ec_BadTable {K : PySem.W.Frag} {mg : Str → Option Value} {C_Listed C_Mixed C_Weighted C_Rule C_BadNumber C_TooMany C_BadWish C_Unlike C_BadTable C_NoBuyers C_ShelfError : Addr} (T : Txt K mg C_Listed C_Mixed C_Weighted C_Rule C_BadNumber C_TooMany C_BadWish C_Unlike C_BadTable C_NoBuyers C_ShelfError) : ExcC K C_BadTable := ⟨T.ga_BadTable, T.gg_BadTable, T.b_BadTable, T.hd_BadTable, T.ha_BadTable, T.hnc, T.htk, T.hm_BadTable⟩
theorem Txt.ec_NoBuyers {K : PySem.W.Frag} {mg : Str → Option Value} {C_Listed C_Mixed C_Weighted C_Rule C_BadNumber C_TooMany C_BadWish C_Unlike C_BadTable C_NoBuyers C_ShelfError : Addr} (T : Txt K mg C_Listed C_Mixed C_Weighted C_Rule C_BadNumber C_TooMany C_BadWish C_Unlike C_BadTable C_NoBuyers C_ShelfError) : ExcC K C_NoBuyers := ⟨T.ga_NoBuyers, T.gg_NoBuyers, T.b_NoBuyers, T.hd_NoBuyers, T.ha_NoBuyers, T.hnc, T.htk, T.hm_NoBuyers⟩
theorem Txt.ec_ShelfError {K : PySem.W.Frag} {mg : Str → Option Value} {C_Listed C_Mixed C_Weighted C_Rule C_BadNumber C_TooMany C_BadWish C_Unlike C_BadTable C_NoBuyers C_ShelfError : Addr} (T : Txt K mg C_Listed C_Mixed C_Weighted C_Rule C_BadNumber C_TooMany C_BadWish C_Unlike C_BadTable C_NoBuyers C_ShelfError) : ExcC K C_ShelfError := ⟨T.ga_ShelfError, T.gg_ShelfError, T.b_ShelfError, T.hd_ShelfError, T.ha_ShelfError, T.hnc, T.htk, T.hm_ShelfError⟩
theorem Txt.exm_NoBuyers_NoBuyers {K : PySem.W.Frag} {mg : Str → Option Value} {C_Listed C_Mixed C_Weighted C_Rule C_BadNumber C_TooMany C_BadWish C_Unlike C_BadTable C_NoBuyers C_ShelfError : Addr} (T : Txt K mg C_Listed C_Mixed C_Weighted C_Rule C_BadNumber C_TooMany C_BadWish C_Unlike C_BadTable C_NoBuyers C_ShelfError) : PySem.W.exmOne K (.ref C_NoBuyers) (.ref C_NoBuyers) = some true := PySem.W.exm_ref T.b_NoBuyers T.hd_NoBuyers T.t_NoBuyers T.sub_NoBuyers_NoBuyers
theorem Txt.exm_NoBuyers_BadNumber {K : PySem.W.Frag} {mg : Str → Option Value} {C_Listed C_Mixed C_Weighted C_Rule C_BadNumber C_TooMany C_BadWish C_Unlike C_BadTable C_NoBuyers C_ShelfError : Addr} (T : Txt K mg C_Listed C_Mixed C_Weighted C_Rule C_BadNumber C_TooMany C_BadWish C_Unlike C_BadTable C_NoBuyers C_ShelfError) : PySem.W.exmOne K (.ref C_NoBuyers) (.ref C_BadNumber) = some false := PySem.W.exm_ref T.b_BadNumber T.hd_BadNumber T.t_BadNumber T.sub_NoBuyers_BadNumber
theorem Txt.exm_NoBuyers_Unlike {K : PySem.W.Frag} {mg : Str → Option Value} {C_Listed C_Mixed C_Weighted C_Rule C_BadNumber C_TooMany C_BadWish C_Unlike C_BadTable C_NoBuyers C_ShelfError : Addr} (T : Txt K mg C_Listed C_Mixed C_Weighted C_Rule C_BadNumber C_TooMany C_BadWish C_Unlike C_BadTable C_NoBuyers C_ShelfError) : PySem.W.exmOne K (.ref C_NoBuyers) (.ref C_Unlike) = some false := PySem.W.exm_ref T.b_Unlike T.hd_Unlike T.t_Unlike T.sub_NoBuyers_Unlike
theorem Txt.exm_BadNumber_NoBuyers {K : PySem.W.Frag} {mg : Str → Option Value} {C_Listed C_Mixed C_Weighted C_Rule C_BadNumber C_TooMany C_BadWish C_Unlike C_BadTable C_NoBuyers C_ShelfError : Addr} (T : Txt K mg C_Listed C_Mixed C_Weighted C_Rule C_BadNumber C_TooMany C_BadWish C_Unlike C_BadTable C_NoBuyers C_ShelfError) : PySem.W.exmOne K (.ref C_BadNumber) (.ref C_NoBuyers) = some false := PySem.W.exm_ref T.b_NoBuyers T.hd_NoBuyers T.t_NoBuyers T.sub_BadNumber_NoBuyers
theorem Txt.exm_BadNumber_BadNumber {K : PySem.W.Frag} {mg : Str → Option Value} {C_Listed C_Mixed C_Weighted C_Rule C_BadNumber C_TooMany C_BadWish C_Unlike C_BadTable C_NoBuyers C_ShelfError : Addr} (T : Txt K mg C_Listed C_Mixed C_Weighted C_Rule C_BadNumber C_TooMany C_BadWish C_Unlike C_BadTable C_NoBuyers C_ShelfError) : PySem.W.exmOne K (.ref C_BadNumber) (.ref C_BadNumber) = some true := PySem.W.exm_ref T.b_BadNumber T.hd_BadNumber T.t_BadNumber T.sub_BadNumber_BadNumber
theorem Txt.exm_BadNumber_Unlike {K : PySem.W.Frag} {mg : Str → Option Value} {C_Listed C_Mixed C_Weighted C_Rule C_BadNumber C_TooMany C_BadWish C_Unlike C_BadTable C_NoBuyers C_ShelfError : Addr} (T : Txt K mg C_Listed C_Mixed C_Weighted C_Rule C_BadNumber C_TooMany C_BadWish C_Unlike C_BadTable C_NoBuyers C_ShelfError) : PySem.W.exmOne K (.ref C_BadNumber) (.ref C_Unlike) = some false := PySem.W.exm_ref T.b_Unlike T.hd_Unlike T.t_Unlike T.sub_BadNumber_Unlike
theorem Txt.exm_Unlike_NoBuyers {K : PySem.W.Frag} {mg : Str → Option Value} {C_Listed C_Mixed C_Weighted C_Rule C_BadNumber C_TooMany C_BadWish C_Unlike C_BadTable C_NoBuyers C_ShelfError : Addr} (T : Txt K mg C_Listed C_Mixed C_Weighted C_Rule C_BadNumber C_TooMany C_BadWish C_Unlike C_BadTable C_NoBuyers C_ShelfError) : PySem.W.exmOne K (.ref C_Unlike) (.ref C_NoBuyers) = some false := PySem.W.exm_ref T.b_NoBuyers T.hd_NoBuyers T.t_NoBuyers T.sub_Unlike_NoBuyers
theorem Txt.exm_Unlike_BadNumber {K : PySem.W.Frag} {mg : Str → Option Value} {C_Listed C_Mixed C_Weighted C_Rule C_BadNumber C_TooMany C_BadWish C_Unlike C_BadTable C_NoBuyers C_ShelfError : Addr} (T : Txt K mg C_Listed C_Mixed C_Weighted C_Rule C_BadNumber C_TooMany C_BadWish C_Unlike C_BadTable C_NoBuyers C_ShelfError) : PySem.W.exmOne K (.ref C_Unlike) (.ref C_BadNumber) = some false := PySem.W.exm_ref T.b_BadNumber T.hd_BadNumber T.t_BadNumber T.sub_Unlike_BadNumber
theorem Txt.exm_Unlike_Unlike {K : PySem.W.Frag} {mg : Str → Option Value} {C_Listed C_Mixed C_Weighted C_Rule C_BadNumber C_TooMany C_BadWish C_Unlike C_BadTable C_NoBuyers C_ShelfError : Addr} (T : Txt K mg C_Listed C_Mixed C_Weighted C_Rule C_BadNumber C_TooMany C_BadWish C_Unlike C_BadTable C_NoBuyers C_ShelfError) : PySem.W.exmOne K (.ref C_Unlike) (.ref C_Unlike) = some true := PySem.W.exm_ref T.b_Unlike T.hd_Unlike T.t_Unlike T.sub_Unlike_Unlike
theorem Txt.exm_NoBuyers_ShelfError {K : PySem.W.Frag} {mg : Str → Option Value} {C_Listed C_Mixed C_Weighted C_Rule C_BadNumber C_TooMany C_BadWish C_Unlike C_BadTable C_NoBuyers C_ShelfError : Addr} (T : Txt K mg C_Listed C_Mixed C_Weighted C_Rule C_BadNumber C_TooMany C_BadWish C_Unlike C_BadTable C_NoBuyers C_ShelfError) : PySem.W.exmOne K (.ref C_NoBuyers) (.ref C_ShelfError) = some true := PySem.W.exm_ref T.b_ShelfError T.hd_ShelfError T.t_ShelfError T.sub_NoBuyers_ShelfError
theorem Txt.exm_BadNumber_ShelfError {K : PySem.W.Frag} {mg : Str → Option Value} {C_Listed C_Mixed C_Weighted C_Rule C_BadNumber C_TooMany C_BadWish C_Unlike C_BadTable C_NoBuyers C_ShelfError : Addr} (T : Txt K mg C_Listed C_Mixed C_Weighted C_Rule C_BadNumber C_TooMany C_BadWish C_Unlike C_BadTable C_NoBuyers C_ShelfError) : PySem.W.exmOne K (.ref C_BadNumber) (.ref C_ShelfError) = some true := PySem.W.exm_ref T.b_ShelfError T.hd_ShelfError T.t_ShelfError T.sub_BadNumber_ShelfError
theorem Txt.exm_Unlike_ShelfError {K : PySem.W.Frag} {mg : Str → Option Value} {C_Listed C_Mixed C_Weighted C_Rule C_BadNumber C_TooMany C_BadWish C_Unlike C_BadTable C_NoBuyers C_ShelfError : Addr} (T : Txt K mg C_Listed C_Mixed C_Weighted C_Rule C_BadNumber C_TooMany C_BadWish C_Unlike C_BadTable C_NoBuyers C_ShelfError) : PySem.W.exmOne K (.ref C_Unlike) (.ref C_ShelfError) = some true := PySem.W.exm_ref T.b_ShelfError T.hd_ShelfError T.t_ShelfError T.sub_Unlike_ShelfError

/-- a def that is called by its name, with its promise -/
def Cal (P : Program) (w : World) (K : PySem.W.Frag) (mg : Str → Option Value) (base : Heap) (CX : CXT) (k : Nat) (x : Str) (ps : List Str) (sp : Sp) : Prop :=
  ∃ (f : Addr) (fd : FuncData), FnOk P w K mg base CX k f fd ps sp ∧ mg x = some (.ref f) ∧ PySem.W.keepIn K (.ref f) = true ∧ Binds K fd ps []
/-- an own class's __init__; dvs: what stands for the parameters that a short call leaves out -/
def CalI (P : Program) (w : World) (K : PySem.W.Frag) (mg : Str → Option Value) (base : Heap) (CX : CXT) (k : Nat) (C : Addr) (ps : List Str) (sp : Sp) (dvs : List V) : Prop :=
  ∃ (f : Addr) (fd : FuncData), FnOk P w K mg base CX k f fd ps sp ∧ Mk K C f ∧ Binds K fd ps [] ∧ ∃ ds, Vals dvs ds ∧ Binds K fd ps ds
/-- an own error's __init__ -/
def CalX (P : Program) (w : World) (K : PySem.W.Frag) (mg : Str → Option Value) (base : Heap) (CX : CXT) (k : Nat) (C : Addr) (ps : List Str) (sp : Sp) : Prop :=
  ∃ (f : Addr) (fd : FuncData), FnOk P w K mg base CX k f fd ps sp ∧ PySem.W.findIn K (.ref C) "__init__" = some (some (.ref f)) ∧ PySem.W.typeIn K (.ref f) = some (.type "function") ∧ Binds K fd ps []
/-- a promise for one of several classes -/
theorem sup_for {P : Program} {w : World} {K : PySem.W.Frag} {mg : Str → Option Value} {base : Heap} {CX : CXT} {k : Nat} {f : Addr} {ps : List Str} {sp : Addr → Sp} {CL : List Addr} {C : Addr} (m : C ∈ CL) (h : ∃ fd : FuncData, FnOk P w K mg base CX k f fd ps (fun vs H Q E => ∃ C, C ∈ CL ∧ sp C vs H Q E) ∧ Binds K fd ps []) :
    ∃ fd : FuncData, FnOk P w K mg base CX k f fd ps (sp C) ∧ Binds K fd ps [] := by
  obtain ⟨fd, G, b⟩ := h
  exact ⟨fd, ⟨fun vs H Q E z => G.len vs H Q E ⟨C, m, z⟩, fun A outer s H args us vs Q E hr e0 hb r z => G.run A outer s H args us vs Q E hr e0 hb r ⟨C, m, z⟩⟩, b⟩
theorem init_for {P : Program} {w : World} {K : PySem.W.Frag} {mg : Str → Option Value} {base : Heap} {CX : CXT} {k : Nat} {f : Addr} {ps : List Str} {sp : Addr → Sp} {CL : List Addr} {C : Addr} (m : C ∈ CL) (h : ∃ fd : FuncData, FnOk P w K mg base CX k f fd ps (fun vs H Q E => ∃ C, C ∈ CL ∧ sp C vs H Q E) ∧ Binds K fd ps []) (M : Mk K C f) :
    CalI P w K mg base CX k C ps (sp C) [] := by
  obtain ⟨fd, G, b⟩ := sup_for m h
  exact ⟨f, fd, G, M, b, [], .nil, b⟩
/-- what is left over is a new tuple -/
def spStar (sp : Sp) (n : Nat) : Sp := fun vs H Q E => ∃ ws rest, vs = ws ++ rest ∧ ws.length = n ∧ rest.length ≤ sizeLine ∧ ∀ p, H p = none → sp (ws ++ [V.ref p]) (upd H p (.tup rest)) Q E
/-- a method -/
def CalM (P : Program) (w : World) (K : PySem.W.Frag) (mg : Str → Option Value) (base : Heap) (CX : CXT) (k : Nat) (C : Addr) (m : Str) (ps : List Str) (sp : Sp) : Prop :=
  ∃ (f : Addr) (fd : FuncData), FnOk P w K mg base CX k f fd ps sp ∧ Meth K C m f ∧ Binds K fd ps []
section
variable {P : Program} {w : World} {K : PySem.W.Frag} {mg : Str → Option Value} {base : Heap}
def sp_BadNumber___init__ (C : Addr) : Sp := fun vs H Q _ => ∃ (a : Addr) (x y : V), vs = [.ref a, x, y] ∧ H a = some (exo a C none) ∧ ∀ dx, H dx = none → dx ≠ a → Q .non (errH H a C dx "what" "at" x y)
theorem ok_BadNumber___init__ {f : Addr} {fd : FuncData} {C_Listed C_Mixed C_Weighted C_Rule C_BadNumber C_TooMany C_BadWish C_Unlike C_BadTable C_NoBuyers C_ShelfError : Addr} (F : Fun K "__init__" "BadNumber.__init__" s_BadNumber___init__ f fd) (T : Txt K mg C_Listed C_Mixed C_Weighted C_Rule C_BadNumber C_TooMany C_BadWish C_Unlike C_BadTable C_NoBuyers C_ShelfError) : FnOk P w K mg base CX0 1 f fd ["self", "what", "at"] (sp_BadNumber___init__ C_BadNumber) := by
  refine F.ok sc_BadNumber___init__ (fun vs H Q E h => ?_) (fun cdv A outer s H vs Q E hr h => ?_)
  · obtain ⟨a, x, y, rfl, _⟩ := h
    rfl
  · obtain ⟨a, x, y, rfl, ha, q⟩ := h
    refine ⟨_, (pss_cons (ps_ost (pv 0) (pv 1))
      (pss_one (ps_ost (pv 0) (pv 2)))), ?_⟩
    refine ⟨_, rfl, _, rfl, a, C_BadNumber, rfl, T.ox_BadNumber, T.n_BadNumber_what, .inl ⟨ha, fun dx nd ne => ?_⟩⟩
    exact ⟨_, rfl, _, rfl, a, C_BadNumber, rfl, T.ox_BadNumber, T.n_BadNumber_at, .inr ⟨dx, _, upd_same, (upd_ne ne).trans upd_same, by show 1 ≤ 900; decide, q dx nd ne⟩⟩
def sp_TooMany___init__ (C : Addr) : Sp := fun vs H Q _ => ∃ (a : Addr) (x y : V), vs = [.ref a, x, y] ∧ H a = some (exo a C none) ∧ ∀ dx, H dx = none → dx ≠ a → Q .non (errH H a C dx "many" "most" x y)
theorem ok_TooMany___init__ {f : Addr} {fd : FuncData} {C_Listed C_Mixed C_Weighted C_Rule C_BadNumber C_TooMany C_BadWish C_Unlike C_BadTable C_NoBuyers C_ShelfError : Addr} (F : Fun K "__init__" "TooMany.__init__" s_TooMany___init__ f fd) (T : Txt K mg C_Listed C_Mixed C_Weighted C_Rule C_BadNumber C_TooMany C_BadWish C_Unlike C_BadTable C_NoBuyers C_ShelfError) : FnOk P w K mg base CX0 1 f fd ["self", "many", "most"] (sp_TooMany___init__ C_TooMany) := by
  refine F.ok sc_TooMany___init__ (fun vs H Q E h => ?_) (fun cdv A outer s H vs Q E hr h => ?_)
  · obtain ⟨a, x, y, rfl, _⟩ := h
    rfl
  · obtain ⟨a, x, y, rfl, ha, q⟩ := h
    refine ⟨_, (pss_cons (ps_ost (pv 0) (pv 1))
      (pss_one (ps_ost (pv 0) (pv 2)))), ?_⟩
    refine ⟨_, rfl, _, rfl, a, C_TooMany, rfl, T.ox_TooMany, T.n_TooMany_many, .inl ⟨ha, fun dx nd ne => ?_⟩⟩
    exact ⟨_, rfl, _, rfl, a, C_TooMany, rfl, T.ox_TooMany, T.n_TooMany_most, .inr ⟨dx, _, upd_same, (upd_ne ne).trans upd_same, by show 1 ≤ 900; decide, q dx nd ne⟩⟩
def sp_BadWish___init__ (C : Addr) : Sp := fun vs H Q _ => ∃ (a : Addr) (x : V), vs = [.ref a, x] ∧ H a = some (exo a C none) ∧ ∀ dx, H dx = none → dx ≠ a → Q .non (errH1 H a C dx "at" x)
theorem ok_BadWish___init__ {f : Addr} {fd : FuncData} {C_Listed C_Mixed C_Weighted C_Rule C_BadNumber C_TooMany C_BadWish C_Unlike C_BadTable C_NoBuyers C_ShelfError : Addr} (F : Fun K "__init__" "BadWish.__init__" s_BadWish___init__ f fd) (T : Txt K mg C_Listed C_Mixed C_Weighted C_Rule C_BadNumber C_TooMany C_BadWish C_Unlike C_BadTable C_NoBuyers C_ShelfError) : FnOk P w K mg base CX0 1 f fd ["self", "at"] (sp_BadWish___init__ C_BadWish) := by
  refine F.ok sc_BadWish___init__ (fun vs H Q E h => ?_) (fun cdv A outer s H vs Q E hr h => ?_)
  · obtain ⟨a, x, rfl, _⟩ := h
    rfl
  · obtain ⟨a, x, rfl, ha, q⟩ := h
    refine ⟨_, (pss_one (ps_ost (pv 0) (pv 1))), ?_⟩
    exact ⟨_, rfl, _, rfl, a, C_BadWish, rfl, T.ox_BadWish, T.n_BadWish_at, .inl ⟨ha, fun dx nd ne => q dx nd ne⟩⟩
def sp_Unlike___init__ (C : Addr) : Sp := fun vs H Q _ => ∃ (a : Addr) (x : V), vs = [.ref a, x] ∧ H a = some (exo a C none) ∧ ∀ dx, H dx = none → dx ≠ a → Q .non (errH1 H a C dx "at" x)
theorem ok_Unlike___init__ {f : Addr} {fd : FuncData} {C_Listed C_Mixed C_Weighted C_Rule C_BadNumber C_TooMany C_BadWish C_Unlike C_BadTable C_NoBuyers C_ShelfError : Addr} (F : Fun K "__init__" "Unlike.__init__" s_Unlike___init__ f fd) (T : Txt K mg C_Listed C_Mixed C_Weighted C_Rule C_BadNumber C_TooMany C_BadWish C_Unlike C_BadTable C_NoBuyers C_ShelfError) : FnOk P w K mg base CX0 1 f fd ["self", "at"] (sp_Unlike___init__ C_Unlike) := by
  refine F.ok sc_Unlike___init__ (fun vs H Q E h => ?_) (fun cdv A outer s H vs Q E hr h => ?_)
  · obtain ⟨a, x, rfl, _⟩ := h
    rfl
  · obtain ⟨a, x, rfl, ha, q⟩ := h
    refine ⟨_, (pss_one (ps_ost (pv 0) (pv 1))), ?_⟩
    exact ⟨_, rfl, _, rfl, a, C_Unlike, rfl, T.ox_Unlike, T.n_Unlike_at, .inl ⟨ha, fun dx nd ne => q dx nd ne⟩⟩
def sp_check_many (CT : Addr) : Sp := fun vs H Q E => ∃ m n : Int, vs = [.int m, .int n] ∧ (m > n → ∀ d, H d = none → E (.ref CT) (some d) (upd H d (.xd [("most", .int n), ("many", .int m)]))) ∧ (¬ m > n → Q .non H)
theorem ok_check_many {f : Addr} {fd : FuncData} {C_Listed C_Mixed C_Weighted C_Rule C_BadNumber C_TooMany C_BadWish C_Unlike C_BadTable C_NoBuyers C_ShelfError : Addr} (F : Fun K "check_many" "check_many" s_check_many f fd) (T : Txt K mg C_Listed C_Mixed C_Weighted C_Rule C_BadNumber C_TooMany C_BadWish C_Unlike C_BadTable C_NoBuyers C_ShelfError) (c_TooMany___init__ : CalX P w K mg base CX0 1 C_TooMany ["self", "many", "most"] (sp_TooMany___init__ C_TooMany)) : FnOk P w K mg base (L2.CX P w) 3 f fd ["many", "most"] (sp_check_many C_TooMany) := by
  refine F.okX sc_check_many (fun vs H Q E h => ?_) (fun cdv A outer s H vs Q E hr h => ?_)
  · obtain ⟨m, n, rfl, _⟩ := h
    rfl
  · obtain ⟨m, n, rfl, kE, q⟩ := h
    obtain ⟨f_TooMany___init__, fd_TooMany___init__, G_TooMany___init__, ic_TooMany___init__, ti_TooMany___init__, b_TooMany___init__⟩ := c_TooMany___init__
    refine ⟨_, (pss_one (ps_if (pt_cmpR op_gt (pv 0) (pv 1) (nomark _)) (pss_one (ps_raise rfl (takes_of rfl rfl rfl rfl) (pmk_oex T.ox_TooMany ic_TooMany___init__ ti_TooMany___init__ G_TooMany___init__ (hr.mono (by decide)) b_TooMany___init__ .nil pass0 (by exact rfl) T.g_TooMany (pa_cons (pv 0) (pa_cons (pv 1) pa_nil))))) pss_nil)), ?_⟩
    refine ⟨_, rfl, _, rfl, _, _, rfl, rfl, _, rfl, ite2 (fun e => ?_) (fun e => q fun z => e (decide_eq_true z))⟩
    exact ⟨_, rfl, _, rfl, (by show 2 ≤ 1000; decide), fun a na => ⟨a, _, _, rfl, upd_same, fun dx nd ne => raise2 (kE (of_decide_eq_true e)) na nd ne⟩⟩
def sp_check_each (K : PySem.W.Frag) (CB : Addr) : Sp := fun vs H Q E => ∃ (l : Addr) (w : Str) (ns : List Int) (b : Int), vs = [.str w, .ref l, .int b] ∧ H l = some (.lst (ns.map V.int)) ∧ ns.length ≤ 1000 ∧ (∀ k : Nat, lowAt b ns 0 = some k → ∀ H' d, Same H H' → H' d = some (.xd [("at", .int k), ("what", .str w)]) → E (.ref CB) (some d) H') ∧ (lowAt b ns 0 = none → ∀ H', Same H H' → Q .non H')
theorem ok_check_each {f : Addr} {fd : FuncData} {C_Listed C_Mixed C_Weighted C_Rule C_BadNumber C_TooMany C_BadWish C_Unlike C_BadTable C_NoBuyers C_ShelfError : Addr} (F : Fun K "check_each" "check_each" s_check_each f fd) (T : Txt K mg C_Listed C_Mixed C_Weighted C_Rule C_BadNumber C_TooMany C_BadWish C_Unlike C_BadTable C_NoBuyers C_ShelfError) (m_enumerate : mg "enumerate" = none) (c_BadNumber___init__ : CalX P w K mg base CX0 1 C_BadNumber ["self", "what", "at"] (sp_BadNumber___init__ C_BadNumber)) : FnOk P w K mg base (L2.CX P w) 3 f fd ["what", "numbers", "least"] (sp_check_each K C_BadNumber) := by
  refine F.okX sc_check_each (fun vs H Q E h => ?_) (fun cdv A outer s H vs Q E hr h => ?_)
  · obtain ⟨l, w, ns, b, rfl, _⟩ := h
    rfl
  · obtain ⟨l, w, ns, b, rfl, hl, hlen, kE, q⟩ := h
    obtain ⟨f_BadNumber___init__, fd_BadNumber___init__, G_BadNumber___init__, ic_BadNumber___init__, ti_BadNumber___init__, b_BadNumber___init__⟩ := c_BadNumber___init__
    refine ⟨_, (pss_one (ps_for (passes_of rfl) rfl (pi_enum (by rfl) m_enumerate (pa_cons (pv 1) pa_nil)) (pg_tup rfl (pgs_cons (pg_name (i := 3) sc_check_each.nd rfl (Or.inl rfl)) (pgs_cons (pg_name (i := 4) sc_check_each.nd rfl (Or.inl rfl)) pgs_nil)))
      (pss_one (ps_if (pt_cmpR op_lt (pv 4) (pv 2) (nomark _)) (pss_one (ps_raise rfl (takes_of rfl rfl rfl rfl) (pmk_oex T.ox_BadNumber ic_BadNumber___init__ ti_BadNumber___init__ G_BadNumber___init__ (hr.mono (by decide)) b_BadNumber___init__ .nil pass0 (by exact rfl) T.g_BadNumber (pa_cons (pv 0) (pa_cons (pv 3) pa_nil))))) pss_nil)))), ?_⟩
    refine ⟨_, rfl, l, _, rfl, lst_l hl, ?_⟩
    refine for_it (walk_enum (K := K) (a := l) (xs := ns.map V.int)) (fun i σ H2 => ∃ y1 y2 : Option V, σ = [some (.str w), some (.ref l), some (.int b), y1, y2] ∧ Same H H2 ∧ lowAt b ns 0 = lowAt b (ns.drop i) i) ⟨none, none, rfl, fun _ _ z => z, rfl⟩ ?_ ?_ ?_
    · rintro i σ H2 _ ⟨_, _, _, sx, _⟩
      exact lst_l (sx l _ hl)
    · rintro i x σ H2 H3 hi ⟨y1, y2, rfl, sx, hb⟩ ⟨tp, ix, nx, rfl, ntp, rfl, e1, e2⟩
      cases e1
      obtain ⟨n, rfl, hn⟩ := int_of e2
      rw [List.length_map] at hi
      refine ⟨tp, _, rfl, tup_t upd_same, rfl, _, _, rfl, _, _, rfl, rfl, ?_⟩
      have hd : ns.drop i = n :: ns.drop (i + 1) := by
        rw [List.drop_eq_getElem_cons hi]
        rw [List.getElem?_eq_getElem hi] at hn
        rw [Option.some.inj hn]
      refine ⟨_, rfl, _, rfl, _, _, rfl, rfl, _, rfl, ite2 (fun c => ?_) (fun c => ?_)⟩
      · have c := of_decide_eq_true c
        have hk : lowAt b ns 0 = some i := by
          rw [hb, hd]
          exact if_pos c
        exact ⟨_, rfl, _, rfl, (by show 2 ≤ 1000; decide), fun a na => ⟨a, _, _, rfl, upd_same, fun dx2 nd ne => raise2 (fun d nd => kE i hk _ _ ((sx.trans (same_upd ntp)).trans (same_upd nd)) upd_same) na nd ne⟩⟩
      · have c : ¬ n < b := fun z => c (decide_eq_true z)
        refine ⟨_, _, rfl, sx.trans (same_upd ntp), ?_⟩
        rw [hb, hd]
        exact if_neg c
    · rintro σ H2 ⟨y1, y2, rfl, sx, hb⟩
      rw [List.length_map, List.drop_length] at hb
      exact q hb H2 sx
def sp_check_least (CB : Addr) : Sp := fun vs H Q E => ∃ (w : Str) (n b : Int), vs = [.str w, .int n, .int b] ∧ (n < b → ∀ d, H d = none → E (.ref CB) (some d) (upd H d (.xd [("at", .non), ("what", .str w)]))) ∧ (¬ n < b → Q .non H)
theorem ok_check_least {f : Addr} {fd : FuncData} {C_Listed C_Mixed C_Weighted C_Rule C_BadNumber C_TooMany C_BadWish C_Unlike C_BadTable C_NoBuyers C_ShelfError : Addr} (F : Fun K "check_least" "check_least" s_check_least f fd) (T : Txt K mg C_Listed C_Mixed C_Weighted C_Rule C_BadNumber C_TooMany C_BadWish C_Unlike C_BadTable C_NoBuyers C_ShelfError) (c_BadNumber___init__ : CalX P w K mg base CX0 1 C_BadNumber ["self", "what", "at"] (sp_BadNumber___init__ C_BadNumber)) : FnOk P w K mg base (L2.CX P w) 3 f fd ["what", "number", "least"] (sp_check_least C_BadNumber) := by
  refine F.okX sc_check_least (fun vs H Q E h => ?_) (fun cdv A outer s H vs Q E hr h => ?_)
  · obtain ⟨w, n, b, rfl, _⟩ := h
    rfl
  · obtain ⟨w, n, b, rfl, kE, q⟩ := h
    obtain ⟨f_BadNumber___init__, fd_BadNumber___init__, G_BadNumber___init__, ic_BadNumber___init__, ti_BadNumber___init__, b_BadNumber___init__⟩ := c_BadNumber___init__
    refine ⟨_, (pss_one (ps_if (pt_cmpR op_lt (pv 1) (pv 2) (nomark _)) (pss_one (ps_raise rfl (takes_of rfl rfl rfl rfl) (pmk_oex T.ox_BadNumber ic_BadNumber___init__ ti_BadNumber___init__ G_BadNumber___init__ (hr.mono (by decide)) b_BadNumber___init__ .nil pass0 (by exact rfl) T.g_BadNumber (pa_cons (pv 0) (pa_cons pe_non pa_nil))))) pss_nil)), ?_⟩
    refine ⟨_, rfl, _, rfl, _, _, rfl, rfl, _, rfl, ite2 (fun e => ?_) (fun e => q fun z => e (decide_eq_true z))⟩
    exact ⟨_, rfl, (by show 2 ≤ 1000; decide), fun a na => ⟨a, _, _, rfl, upd_same, fun dx nd ne => raise2 (kE (of_decide_eq_true e)) na nd ne⟩⟩
def sp_check_aside (CB : Addr) : Sp := fun vs H Q E => ∃ n : Int, vs = [.int n] ∧ (n < 1 → ∀ d, H d = none → E (.ref CB) (some d) (upd H d (.xd [("at", .non), ("what", .str "aside")]))) ∧ (¬ n < 1 → Q .non H)
theorem ok_check_aside {f : Addr} {fd : FuncData} {C_Listed C_Mixed C_Weighted C_Rule C_BadNumber C_TooMany C_BadWish C_Unlike C_BadTable C_NoBuyers C_ShelfError : Addr} (F : Fun K "check_aside" "check_aside" s_check_aside f fd) (T : Txt K mg C_Listed C_Mixed C_Weighted C_Rule C_BadNumber C_TooMany C_BadWish C_Unlike C_BadTable C_NoBuyers C_ShelfError) (c_check_least : Cal P w K mg base (L2.CX P w) 3 "check_least" ["what", "number", "least"] (sp_check_least C_BadNumber)) : FnOk P w K mg base (L2.CX P w) 4 f fd ["aside"] (sp_check_aside C_BadNumber) := by
  refine F.okX sc_check_aside (fun vs H Q E h => ?_) (fun cdv A outer s H vs Q E hr h => ?_)
  · obtain ⟨n, rfl, _⟩ := h
    rfl
  · obtain ⟨n, rfl, kE, q⟩ := h
    obtain ⟨f_check_least, fd_check_least, G_check_least, m_check_least, k_check_least, b_check_least⟩ := c_check_least
    refine ⟨_, (pss_one (ps_expr (pe_call G_check_least (hr.mono (by decide)) (by rfl) m_check_least k_check_least b_check_least .nil (passes_call (takes_of rfl rfl rfl rfl) (fun _ _ _ _ h => h)) (pa_cons pe_str (pa_cons (pv 0) (pa_cons pe_int pa_nil)))))), ?_⟩
    exact ⟨_, rfl, _, n, 1, rfl, kE, q⟩
def sp_Rule___init__ (C CT : Addr) : Sp := fun vs H Q E => ∃ (p dx : Addr) (fs : List (Str × V)) (m : Int), vs = [.ref p, .int m] ∧ H p = some (.ins C dx fs) ∧ fs.length ≤ 900 ∧ (m > 24 → ∀ d, H d = none → E (.ref CT) (some d) (upd H d (.xd [("most", .int 24), ("many", .int m)]))) ∧ (¬ m > 24 → Q .non (upd H p (.ins C dx (putF "many" (.int m) fs))))
theorem ok_Rule___init__ {f : Addr} {fd : FuncData} {C_Listed C_Mixed C_Weighted C_Rule C_BadNumber C_TooMany C_BadWish C_Unlike C_BadTable C_NoBuyers C_ShelfError : Addr} (F : Fun K "__init__" "Rule.__init__" s_Rule___init__ f fd) (T : Txt K mg C_Listed C_Mixed C_Weighted C_Rule C_BadNumber C_TooMany C_BadWish C_Unlike C_BadTable C_NoBuyers C_ShelfError) (c_check_many : Cal P w K mg base (L2.CX P w) 3 "check_many" ["many", "most"] (sp_check_many C_TooMany)) : FnOk P w K mg base (L2.CX P w) 4 f fd ["self", "many"] (fun vs H Q E => ∃ C, C ∈ [C_Listed, C_Mixed, C_Weighted, C_Rule] ∧ sp_Rule___init__ C C_TooMany vs H Q E) := by
  refine F.okX sc_Rule___init__ (fun vs H Q E h => ?_) (fun cdv A outer s H vs Q E hr h => ?_)
  · obtain ⟨_, _, _, _, _, _, rfl, _⟩ := h
    rfl
  · obtain ⟨C, hC, p, dx, fs, m, rfl, hp, hl, kE, q⟩ := h
    obtain ⟨f_check_many, fd_check_many, G_check_many, m_check_many, k_check_many, b_check_many⟩ := c_check_many
    refine ⟨_, (pss_cons (ps_expr (pe_call G_check_many (hr.mono (by decide)) (by rfl) m_check_many k_check_many b_check_many .nil (passes_call (takes_of rfl rfl rfl rfl) (fun _ _ _ _ h => h)) (pa_cons (pv 1) (pa_cons (pe_glob (v := .int 24) (by rfl) T.g_MOST_THINGS.choose_spec ⟨_, rfl⟩) pa_nil))))
      (pss_one (ps_fld (pv 0) (pv 1) rfl))), ?_⟩
    have hc : Cls K C ∧ NoAttr K C "many" := by
      simp only [List.mem_cons, List.not_mem_nil, or_false] at hC
      rcases hC with rfl | rfl | rfl | rfl
      · exact ⟨T.cl_Listed, T.n_Listed_many⟩
      · exact ⟨T.cl_Mixed, T.n_Mixed_many⟩
      · exact ⟨T.cl_Weighted, T.n_Weighted_many⟩
      · exact ⟨T.cl_Rule, T.n_Rule_many⟩
    refine ⟨_, rfl, m, 24, rfl, kE, fun e => ?_⟩
    exact ⟨_, rfl, _, rfl, p, C, dx, fs, rfl, hp, hc.1, hc.2, by omega, q e⟩
def sp__can_be_wished : Sp := fun vs H Q _ => ∃ (t : Addr) (ns : List Int), vs = [.ref t] ∧ H t = some (.tup (ns.map V.int)) ∧ ns.length < 64 ∧ (Good ns → ∀ H', Same H H' → Q (.bl true) H') ∧ (¬ Good ns → ∀ H', Same H H' → Q (.bl false) H')
theorem ok__can_be_wished {f : Addr} {fd : FuncData} {C_Listed C_Mixed C_Weighted C_Rule C_BadNumber C_TooMany C_BadWish C_Unlike C_BadTable C_NoBuyers C_ShelfError : Addr} (F : Fun K "_can_be_wished" "_can_be_wished" s__can_be_wished f fd) (T : Txt K mg C_Listed C_Mixed C_Weighted C_Rule C_BadNumber C_TooMany C_BadWish C_Unlike C_BadTable C_NoBuyers C_ShelfError) (m_all : mg "all" = none) (m_len : mg "len" = none) (m_set : mg "set" = none) : FnOk P w K mg base CX0 1 f fd ["things"] sp__can_be_wished := by
  refine F.ok sc__can_be_wished (fun vs H Q E h => ?_) (fun cdv A outer s H vs Q E hr h => ?_)
  · obtain ⟨t, ns, rfl, _⟩ := h
    rfl
  · obtain ⟨t, ns, rfl, ht, nl, qt, qf⟩ := h
    refine ⟨_, (pss_one (ps_ret (pe_and (pe_cmpR op_eq (pe_lenSetT rfl (by rfl) m_len (by rfl) m_set (pv 0)) (pe_callB call_len_seq (by rfl) m_len (by decide +kernel) (pa_cons (pv 0) pa_nil)) (nomark _)) (pe_one (pe_callB (cr_all rfl) (by rfl) m_all (by decide +kernel) (pa_cons (pe_lc (own := [("thing", 1)]) (g := (gName 1)) (tt := tYes) rfl sc__can_be_wished.nd (pi_tup (pv 0)) (blkOk_by (own := [("thing", 1)]) (N := ["things", "thing"]) (sc := defScope s__can_be_wished) (by decide +kernel)) (fun _ _ _ _ _ => (pg_name (i := 1) sc__can_be_wished.nd rfl (Or.inl rfl))) (fun _ _ _ _ _ => pts_nil) (fun _ _ _ _ _ => (pe_cmpR op_ge (pv 1) pe_int (nomark _)))) pa_nil)))))), ?_⟩
    refine ⟨_, rfl, t, ns, rfl, tup_t ht, nl, fun c hc => ?_⟩
    refine ⟨_, rfl, t, _, rfl, .inr (tup_t ht), rfl, _, rfl, ?_⟩
    rw [List.length_map]
    refine ite2 (fun e => ?_) (fun e => ?_)
    · have nd : ns.Nodup := hc.mp (by
        have := V.int.inj (of_decide_eq_true e)
        omega)
      refine ⟨_, rfl, t, rfl, ⟨_, tup_t ht⟩, fun D nD => lc_tup (K := K) (a := t) (xs := ns.map V.int) (fun i H2 => Same H H2 ∧ H2 D = some (.lst (((ns.take i).map fun n => decide (n ≥ 0)).map V.bl))) ⟨same_upd nD, upd_same⟩ (fun i H2 _ ⟨s, _⟩ => tup_t (s _ _ ht)) ?_ ?_⟩
      · rintro i x H2 hi ⟨s, hD⟩
        obtain ⟨n, rfl, hin⟩ := int_of hi
        refine ⟨rfl, ?_⟩
        refine lc_yes ?_
        refine iteT ?_
        refine ⟨_, rfl, _, _, rfl, rfl, _, hD, ?_, same_mut s nD, ?_⟩
        · rw [List.length_map, List.length_map, List.length_take]
          exact small1000 (by omega)
        · rw [upd_same, List.take_add_one, hin, List.map_append, List.map_append]
          rfl
      · rintro H2 ⟨s, hD⟩
        rw [List.length_map, List.take_length] at hD
        refine ⟨D, _, rfl, lst_l hD, ?_⟩
        cases e2 : (ns.map fun n => decide (n ≥ 0)).all id with
        | true => exact qt (good_iff_all.mp ⟨nd, e2⟩) H2 s
        | false => exact qf (fun g => by
            have := (good_iff_all.mpr g).2
            rw [e2] at this
            cases this) H2 s
    · have nn : ¬ ns.Nodup := fun nd => e (by
        rw [hc.mpr nd]
        exact decide_eq_true rfl)
      exact qf (fun g => nn g.1) H (Same.refl H)
def sp_Listed___init__ (C CT CN CB CW : Addr) : Sp := fun vs H Q E => ∃ (p dx L : Addr) (us : List Addr) (pw : List (Int × List Int)) (m : Int), vs = [.ref p, .int m, .ref L] ∧ H p = some (.ins C dx []) ∧ H L = some (.lst (us.map V.ref)) ∧ RowW H us pw ∧ us.length ≤ 900 ∧ (∀ w ∈ pw, w.2.length < 64) ∧
  (∀ n, dueL m pw = .many n → ∀ H' d, SameX p H H' → H' d = some (.xd [("most", .int 24), ("many", .int n)]) → E (.ref CT) (some d) H') ∧ (dueL m pw = .none → ∀ H', SameX p H H' → E (.ref CN) none H') ∧
  (∀ k, dueL m pw = .num k → ∀ H' d, SameX p H H' → H' d = some (.xd [("at", .int (k : Int)), ("what", .str "buyers")]) → E (.ref CB) (some d) H') ∧ (∀ k, dueL m pw = .wish k → ∀ H' d, SameX p H H' → H' d = some (.xd [("at", .int (k : Int))]) → E (.ref CW) (some d) H') ∧
  (dueL m pw = .made → ∀ H', SameX p H H' → LAt C H' p m pw → Q .non H')
theorem sc_Listed___init__ : MScope ["self", "many", "wishes", "__class__", "number", "buyers", "things", "thing"] ["self", "many", "wishes"] (defScope s_Listed___init__) := mscope_by (by decide +kernel)
theorem ok_Listed___init__ {f cc cda g_Rule : Addr} {fd : FuncData} {file : Str} {C_Listed C_Mixed C_Weighted C_Rule C_BadNumber C_TooMany C_BadWish C_Unlike C_BadTable C_NoBuyers C_ShelfError : Addr} (F : FunS K "__init__" "Listed.__init__" s_Listed___init__ cc cda f fd) (SC : SupC K mg C_Listed C_Listed cc cda g_Rule file) (hfile : ((P.main.file : Str) == file) = true) (htop : (P.main.scope.names.lookup ("super" : Str)).isSome = false) (T : Txt K mg C_Listed C_Mixed C_Weighted C_Rule C_BadNumber C_TooMany C_BadWish C_Unlike C_BadTable C_NoBuyers C_ShelfError) (m_any : mg "any" = none) (m_enumerate : mg "enumerate" = none) (m_len : mg "len" = none) (m_tuple : mg "tuple" = none) (c_Rule___init__ : ∃ fd : FuncData, FnOk P w K mg base (L2.CX P w) 4 g_Rule fd ["self", "many"] (sp_Rule___init__ C_Listed C_TooMany) ∧ Binds K fd ["self", "many"] []) (c__can_be_wished : Cal P w K mg base CX0 1 "_can_be_wished" ["things"] sp__can_be_wished) (c_BadNumber___init__ : CalX P w K mg base CX0 1 C_BadNumber ["self", "what", "at"] (sp_BadNumber___init__ C_BadNumber)) (c_BadWish___init__ : CalX P w K mg base CX0 1 C_BadWish ["self", "at"] (sp_BadWish___init__ C_BadWish)) : FnOk P w K mg base (L2.CX P w) 5 f fd ["self", "many", "wishes"] (sp_Listed___init__ C_Listed C_TooMany C_NoBuyers C_BadNumber C_BadWish) := by
  obtain ⟨fd_Rule___init__, G_Rule___init__, b_Rule___init__⟩ := c_Rule___init__
  obtain ⟨f__can_be_wished, fd__can_be_wished, G__can_be_wished, m__can_be_wished, k__can_be_wished, b__can_be_wished⟩ := c__can_be_wished
  obtain ⟨f_BadNumber___init__, fd_BadNumber___init__, G_BadNumber___init__, ic_BadNumber___init__, ti_BadNumber___init__, b_BadNumber___init__⟩ := c_BadNumber___init__
  obtain ⟨f_BadWish___init__, fd_BadWish___init__, G_BadWish___init__, ic_BadWish___init__, ti_BadWish___init__, b_BadWish___init__⟩ := c_BadWish___init__
  obtain ⟨⟨oc, od, kV, doc, pm, an, ct, osl, rfl, lk, hcd⟩, _⟩ := F
  refine fn_atC (D := C_Listed) lk hcd sc_Listed___init__ SC.cell (fun vs H Q E h => ?_) (fun A outer s H vs Q E hr h => ?_)
  · obtain ⟨p, dx, L, us, pw, m, rfl, _⟩ := h
    rfl
  · obtain ⟨p, dx, L, us, pw, m, rfl, hp, hL, row, ul, lw, kM, kN, kB, kW, q⟩ := h
    refine ⟨_, (psas_cons (psa_expr (pea_super lk ⟨SC.isD, SC.sub, SC.cell, SC.code, SC.sup, SC.tg, SC.fg, SC.opq, SC.nosup⟩ hfile htop rfl rfl rfl rfl rfl rfl rfl rfl rfl rfl rfl G_Rule___init__ b_Rule___init__ (hr.mono (by decide)) (passes_call (takes_of rfl rfl rfl rfl) (fun _ _ _ _ h => h)) (pa_cons (pv 1) pa_nil) rfl rfl rfl rfl))
      (psas_pss (pss_cons (ps_if (pt_cmpR op_eq (pe_callB call_len_seq (by rfl) m_len (by decide +kernel) (pa_cons (pv 2) pa_nil)) pe_int (nomark _)) (pss_one (ps_raise rfl (takes_of rfl rfl rfl rfl) (pmk_own PySem.F.excBase_ValueError T.x_NoBuyers T.g_NoBuyers T.kc_NoBuyers (raises_own T.b_NoBuyers T.t_NoBuyers) (by exact rfl)))) pss_nil)
      (pss_cons (ps_for (passes_of rfl) rfl (pi_enum (by rfl) m_enumerate (pa_cons (pv 2) pa_nil)) (pg_tup rfl (pgs_cons (pg_name (i := 4) sc_Listed___init__.nd rfl (Or.inl rfl)) (pgs_cons (pg_tup rfl (pgs_cons (pg_name (i := 5) sc_Listed___init__.nd rfl (Or.inl rfl)) (pgs_cons (pg_name (i := 6) sc_Listed___init__.nd rfl (Or.inl rfl)) pgs_nil))) pgs_nil)))
      (pss_cons (ps_if (pt_cmpR op_lt (pv 5) pe_int (nomark _)) (pss_one (ps_raise rfl (takes_of rfl rfl rfl rfl) (pmk_oex T.ox_BadNumber ic_BadNumber___init__ ti_BadNumber___init__ G_BadNumber___init__ (hr.mono (by decide)) b_BadNumber___init__ .nil pass0 (by exact rfl) T.g_BadNumber (pa_cons pe_str (pa_cons (pv 4) pa_nil))))) pss_nil)
      (pss_one (ps_if (PW.pt (pw_or (pt_not (pt_val (pe_call G__can_be_wished (hr.mono (by decide)) (by rfl) m__can_be_wished k__can_be_wished b__can_be_wished .nil pass0 (pa_cons (pv 6) pa_nil)))) (pw_or1 (pt_val (pe_callB (cr_any rfl) (by rfl) m_any (by decide +kernel) (pa_cons (pe_lc (own := [("thing", 7)]) (g := (gName 7)) (tt := tYes) rfl sc_Listed___init__.nd (pi_tup (pv 6)) (blkOk_by (own := [("thing", 7)]) (N := ["self", "many", "wishes", "__class__", "number", "buyers", "things", "thing"]) (sc := defScope s_Listed___init__) (by decide +kernel)) (fun _ _ _ _ _ => (pg_name (i := 7) sc_Listed___init__.nd rfl (Or.inl rfl))) (fun _ _ _ _ _ => pts_nil) (fun _ _ _ _ _ => (pe_cmpR op_ge (pv 7) (pv 1) (nomark _)))) pa_nil)))))) (pss_one (ps_raise rfl (takes_of rfl rfl rfl rfl) (pmk_oex T.ox_BadWish ic_BadWish___init__ ti_BadWish___init__ G_BadWish___init__ (hr.mono (by decide)) b_BadWish___init__ .nil pass0 (by exact rfl) T.g_BadWish (pa_cons (pv 4) pa_nil)))) pss_nil))))
      (pss_one (ps_fld (pv 0) (pe_callTy call_tuple_of (by rfl) m_tuple (by decide +kernel) (pa_cons (pe_lc (own := [("buyers", 5), ("things", 6)]) (g := (gTup K 2 (gCons (gName 5) (gCons (gName 6) gNil)))) (tt := tYes) rfl sc_Listed___init__.nd (pi_list (pv 2)) (blkOk_by (own := [("buyers", 5), ("things", 6)]) (N := ["self", "many", "wishes", "__class__", "number", "buyers", "things", "thing"]) (sc := defScope s_Listed___init__) (by decide +kernel)) (fun _ _ _ _ _ => (pg_tup rfl (pgs_cons (pg_name (i := 5) sc_Listed___init__.nd rfl (Or.inl rfl)) (pgs_cons (pg_name (i := 6) sc_Listed___init__.nd rfl (Or.inl rfl)) pgs_nil)))) (fun _ _ _ _ _ => pts_nil) (fun _ _ _ _ _ => (pe_tup (pa_cons (pv 5) (pa_cons (pe_callTy (T := "tuple") (r := rTupOf K) call_tuple_of (by rfl) m_tuple (by decide +kernel) (pa_cons (pv 6) pa_nil)) pa_nil))))) pa_nil)) rfl)))))), ?_⟩
    refine ⟨p, dx, [], rfl, hp, _, rfl, p, dx, [], m, rfl, hp, Nat.zero_le _, fun e d nd => kM m (dueL_many e) _ d (SameX.new nd) upd_same, fun e24 => ?_⟩
    have x1 : SameX p H (upd H p (.ins C_Listed dx (putF "many" (.int m) []))) := SameX.put
    have hp1 : upd H p (.ins C_Listed dx (putF "many" (.int m) [])) p = some (.ins C_Listed dx (putF "many" (.int m) [])) := upd_same
    generalize upd H p (.ins C_Listed dx (putF "many" (.int m) [])) = H1 at x1 hp1 ⊢
    have hL1 := lst_sx hp x1 hL
    have row1 := row.sx hp x1
    have rl := row.1
    refine ⟨_, rfl, L, _, rfl, .inl (lst_l hL1), rfl, _, rfl, ite2 (fun c => ?_) (fun c => ?_)⟩
    · have c := V.int.inj (of_decide_eq_true c)
      rw [List.length_map] at c
      exact kN (dueL_none e24 (by omega)) _ x1
    have c0 : ¬ pw.length = 0 := fun z => c (decide_eq_true (congrArg V.int (by rw [List.length_map]; omega)))
    have dr := dueL_rest (pw := pw) e24 c0
    refine ⟨_, rfl, L, _, rfl, lst_l hL1, ?_⟩
    refine for_it (walk_enum (K := K) (a := L) (xs := us.map V.ref)) (fun i σ H2 => ∃ y1 y2 y3 : Option V, σ = [some (.ref p), some (.int m), some (.ref L), none, y1, y2, y3, none] ∧ Same H1 H2 ∧ badL m pw 0 = badL m (pw.drop i) i) ⟨none, none, none, rfl, Same.refl _, rfl⟩ ?_ ?_ ?_
    · rintro i σ H2 _ ⟨_, _, _, _, sx, _⟩
      exact lst_l (sx L _ hL1)
    · rintro i x σ H2 H3 hi ⟨y1, y2, y3, rfl, sx, hb⟩ ⟨tp, ix, nx, rfl, ntp, rfl, e1, e2⟩
      cases e1
      rw [List.length_map] at hi
      have h1 : us[i]? = some us[i] := List.getElem?_eq_getElem hi
      have h2 : pw[i]? = some pw[i] := List.getElem?_eq_getElem (by omega)
      have e2 : (us.map V.ref)[i]? = some nx := e2
      rw [List.getElem?_map, h1] at e2
      cases e2
      have hd := drop_pair h2
      have s3 := sx.trans (same_upd (o := .tup [V.int i, V.ref us[i]]) ntp)
      obtain ⟨l, hu, hl⟩ := (row1.2 i _ _ h1 h2).same s3
      have l64 := lw _ (List.mem_of_getElem? h2)
      generalize pw[i] = w at hu hl hd h2 l64
      obtain ⟨b, ns⟩ := w
      have l64 : ns.length < 64 := l64
      rw [hd] at hb
      refine ⟨tp, _, rfl, tup_t upd_same, rfl, _, _, rfl, _, _, rfl, us[i], _, rfl, tup_t hu, rfl, _, _, rfl, _, _, rfl, rfl, rfl, ?_⟩
      generalize upd H2 tp (.tup [V.int i, V.ref us[i]]) = H3 at s3 hu hl ⊢
      refine ⟨_, rfl, _, _, rfl, rfl, _, rfl, ite2 (fun c => ?_) (fun c => ?_)⟩
      · have c : b < 1 := of_decide_eq_true c
        exact ⟨_, rfl, (by show 2 ≤ 1000; decide), fun a na => ⟨a, _, _, rfl, upd_same, fun dx2 nd ne => raise2 (fun d nd => kB i (by rw [dr, hb, badL_num c]) _ _ (x1.trans (same_sx (s3.trans (same_upd nd)))) upd_same) na nd ne⟩⟩
      have c : ¬ b < 1 := fun z => c (decide_eq_true z)
      refine ⟨_, rfl, l, ns, rfl, hl, l64, fun g H4 s4 => ⟨true, rfl, iteF ?_⟩, fun g H4 s4 => ⟨false, rfl, iteT ?_⟩⟩
      · have hl4 := s4 _ _ hl
        have s34 := s3.trans s4
        refine ⟨_, rfl, l, rfl, ⟨_, tup_t hl4⟩, fun D nD => lc_tup (K := K) (a := l) (xs := ns.map V.int) (fun i H5 => Same H4 H5 ∧ H5 D = some (.lst (((ns.take i).map fun n => decide (n ≥ m)).map V.bl))) ⟨same_upd nD, upd_same⟩ (fun i H5 _ ⟨s, _⟩ => tup_t (s _ _ hl4)) ?_ ?_⟩
        · rintro j x H5 hj ⟨s, hD⟩
          obtain ⟨n, rfl, hjn⟩ := int_of hj
          refine ⟨rfl, ?_⟩
          refine lc_yes ?_
          refine iteT ?_
          refine ⟨_, rfl, _, rfl, _, _, rfl, rfl, _, hD, ?_, same_mut s nD, ?_⟩
          · rw [List.length_map, List.length_map, List.length_take]
            exact small1000 (by omega)
          · rw [upd_same, List.take_add_one, hjn, List.map_append, List.map_append]
            rfl
        · rintro H5 ⟨s, hD⟩
          rw [List.length_map, List.take_length] at hD
          refine ⟨D, _, rfl, lst_l hD, _, rfl, ite2 (fun c2 => ?_) (fun c2 => ?_)⟩
          · have nf : ¬ FitW m ns := fun z => by
              rw [ge_any.mpr z.2] at c2
              cases c2
            exact ⟨_, rfl, (by show 1 ≤ 1000; decide), fun a na => ⟨a, _, rfl, upd_same, fun dx2 nd ne => raise1 (fun d nd => kW i (by rw [dr, hb, badL_wish c nf]) _ _ (x1.trans (same_sx ((s34.trans s).trans (same_upd nd)))) upd_same) na nd ne⟩⟩
          · have ft : FitW m ns := ⟨g, ge_any.mp (by
              cases e : (ns.map fun n => decide (n ≥ m)).any id with
              | false => rfl
              | true => exact absurd e c2)⟩
            exact ⟨_, _, _, rfl, s34.trans s, by rw [hb, badL_next c ft]⟩
      · exact ⟨_, rfl, (by show 1 ≤ 1000; decide), fun a na => ⟨a, _, rfl, upd_same, fun dx2 nd ne => raise1 (fun d nd => kW i (by rw [dr, hb, badL_wish c (fun z => g z.1)]) _ _ (x1.trans (same_sx ((s3.trans s4).trans (same_upd nd)))) upd_same) na nd ne⟩⟩
    · rintro σ H2 ⟨y1, y2, y3, rfl, sx, hb⟩
      rw [List.length_map, rl, List.drop_length] at hb
      have mk : dueL m pw = .made := by rw [dr, hb]; rfl
      have hL2 := sx _ _ hL1
      have row2 := row1.same sx
      refine ⟨_, rfl, L, rfl, ⟨_, lst_l hL2⟩, fun D nD => lc_list (K := K) (a := L) (xs := us.map V.ref) (fun i H7 => ∃ zs : List Addr, Same H2 H7 ∧ H7 D = some (.lst (zs.map V.ref)) ∧ zs.length = i ∧ ∀ (j : Nat) (u : Addr) (w : Int × List Int), zs[j]? = some u → pw[j]? = some w → PairW H7 u w) ⟨[], same_upd nD, upd_same, rfl, fun j u ws h => by cases h⟩ (fun i H7 _ ⟨_, s, _⟩ => lst_l (s _ _ hL2)) ?_ ?_⟩
      · rintro i x H7 hi ⟨zs, s7, hD, lz, hz⟩
        have i1 : i < us.length := by
          have := (List.getElem?_eq_some_iff.mp hi).1
          rw [List.length_map] at this
          exact this
        have h1 : us[i]? = some us[i] := List.getElem?_eq_getElem i1
        have h2 : pw[i]? = some pw[i] := List.getElem?_eq_getElem (by omega)
        rw [List.getElem?_map, h1] at hi
        cases hi
        obtain ⟨l, hu, hl⟩ := (row2.2 i _ _ h1 h2).same s7
        refine ⟨us[i], _, rfl, tup_t hu, rfl, _, _, rfl, _, _, rfl, rfl, rfl, ?_⟩
        refine lc_yes ?_
        refine iteT ?_
        refine ⟨_, rfl, _, rfl, l, _, rfl, .inr ⟨tup_t hl, (by show 2 ≤ sizeLine; decide), fun u nu => ?_⟩⟩
        have ne : D ≠ u := ne_of_none hD nu
        refine ⟨_, (upd_ne ne).trans hD, ?_, zs ++ [u], same_mut (s7.trans (same_upd nu)) nD, ?_, ?_, fun j v w h hw => ?_⟩
        · rw [List.length_map]
          exact small1000 (by omega)
        · rw [upd_same, List.map_append]
          rfl
        · rw [List.length_append, lz]
          rfl
        · have lD : l ≠ D := fun z => by
            rw [z, hD] at hl
            cases hl
          by_cases hj : j < zs.length
          · rw [List.getElem?_append_left hj] at h
            obtain ⟨l2, a1, a2⟩ := hz j v w h hw
            have n1 : v ≠ D := fun z => by
              rw [z, hD] at a1
              cases a1
            have n2 : l2 ≠ D := fun z => by
              rw [z, hD] at a2
              cases a2
            exact ⟨l2, by rw [upd_ne n1, upd_ne (ne_of_none a1 nu)]; exact a1, by rw [upd_ne n2, upd_ne (ne_of_none a2 nu)]; exact a2⟩
          · rw [List.getElem?_append_right (by omega)] at h
            obtain ⟨k, hk⟩ : ∃ k, j - zs.length = k := ⟨_, rfl⟩
            rw [hk] at h
            cases k with
            | zero =>
              have : j = i := by omega
              subst this
              cases h
              rw [h2] at hw
              cases hw
              exact ⟨l, by rw [upd_ne (Ne.symm ne), upd_same], by rw [upd_ne lD, upd_ne (ne_of_none hl nu)]; exact hl⟩
            | succ k => cases h
      · rintro H7 ⟨zs, s7, hD, lz, hz⟩
        rw [List.length_map] at lz
        refine ⟨D, _, rfl, .inl ⟨lst_l hD, fun t nt => ?_⟩⟩
        have hp7 := s7 _ _ (sx _ _ hp1)
        have s8 := (sx.trans s7).trans (same_upd (o := .tup (zs.map V.ref)) nt)
        have pt : t ≠ p := fun z => by
          rw [z, hp7] at nt
          cases nt
        refine ⟨_, rfl, p, C_Listed, dx, _, rfl, (upd_ne (Ne.symm pt)).trans hp7, T.cl_Listed, T.n_Listed_wishes, (by show 1 < 1000; decide), ?_⟩
        have x9 : SameX p (upd H7 t (.tup (zs.map V.ref))) (upd (upd H7 t (.tup (zs.map V.ref))) p (.ins C_Listed dx (fL m t))) := SameX.put
        refine q mk _ ((x1.trans (same_sx s8)).trans x9) ⟨dx, t, zs, upd_same, x9 _ _ pt upd_same, by omega, fun j u w h hw => ?_⟩
        obtain ⟨l2, a1, a2⟩ := (hz j u w h hw).same (same_upd (o := .tup (zs.map V.ref)) nt)
        refine ⟨l2, x9 _ _ (fun z => ?_) a1, x9 _ _ (fun z => ?_) a2⟩
        · rw [z, (upd_ne (Ne.symm pt)).trans hp7] at a1
          cases a1
        · rw [z, (upd_ne (Ne.symm pt)).trans hp7] at a2
          cases a2
def sp_Mixed___init__ (C CN CB CU CW CR CL : Addr) : Sp := fun vs H Q E => ∃ (p dx t : Addr) (us : List Addr) (ts : List (Int × Nat × Nat)), vs = [.ref p, .ref t] ∧ H p = some (.ins C dx []) ∧ H t = some (.tup (us.map V.ref)) ∧ RowM CW CR CL H us ts ∧ us.length ≤ 900 ∧ (∀ w ∈ ts, w.2.1 ≤ 24) ∧
  (dueM ts = .none → ∀ H', SameX p H H' → E (.ref CN) none H') ∧
  (∀ k, dueM ts = .num k → ∀ H' d, SameX p H H' → H' d = some (.xd [("at", .int (k : Int)), ("what", .str "buyers")]) → E (.ref CB) (some d) H') ∧ (∀ k, dueM ts = .unlike k → ∀ H' d, SameX p H H' → H' d = some (.xd [("at", .int (k : Int))]) → E (.ref CU) (some d) H') ∧
  (dueM ts = .made → ∀ H' m, SameX p H H' → (∀ w, ts[0]? = some w → w.2.1 = m) → H' p = some (.ins C dx (fM m t)) → Q .non H')
theorem sc_Mixed___init__ : MScope ["self", "parts", "__class__", "_", "first_rule", "number", "buyers", "rule"] ["self", "parts"] (defScope s_Mixed___init__) := mscope_by (by decide +kernel)
theorem ok_Mixed___init__ {f cc cda g_Rule : Addr} {fd : FuncData} {file : Str} {C_Listed C_Mixed C_Weighted C_Rule C_BadNumber C_TooMany C_BadWish C_Unlike C_BadTable C_NoBuyers C_ShelfError : Addr} (F : FunS K "__init__" "Mixed.__init__" s_Mixed___init__ cc cda f fd) (SC : SupC K mg C_Mixed C_Mixed cc cda g_Rule file) (hfile : ((P.main.file : Str) == file) = true) (htop : (P.main.scope.names.lookup ("super" : Str)).isSome = false) (T : Txt K mg C_Listed C_Mixed C_Weighted C_Rule C_BadNumber C_TooMany C_BadWish C_Unlike C_BadTable C_NoBuyers C_ShelfError) (m_enumerate : mg "enumerate" = none) (m_len : mg "len" = none) (c_Rule___init__ : ∃ fd : FuncData, FnOk P w K mg base (L2.CX P w) 4 g_Rule fd ["self", "many"] (sp_Rule___init__ C_Mixed C_TooMany) ∧ Binds K fd ["self", "many"] []) (c_BadNumber___init__ : CalX P w K mg base CX0 1 C_BadNumber ["self", "what", "at"] (sp_BadNumber___init__ C_BadNumber)) (c_Unlike___init__ : CalX P w K mg base CX0 1 C_Unlike ["self", "at"] (sp_Unlike___init__ C_Unlike)) : FnR P w K mg base (L2.CX P w) 5 f (spStar (sp_Mixed___init__ C_Mixed C_NoBuyers C_BadNumber C_Unlike C_Weighted C_Rule C_Listed) 1) := by
  obtain ⟨fd_Rule___init__, G_Rule___init__, b_Rule___init__⟩ := c_Rule___init__
  obtain ⟨f_BadNumber___init__, fd_BadNumber___init__, G_BadNumber___init__, ic_BadNumber___init__, ti_BadNumber___init__, b_BadNumber___init__⟩ := c_BadNumber___init__
  obtain ⟨f_Unlike___init__, fd_Unlike___init__, G_Unlike___init__, ic_Unlike___init__, ti_Unlike___init__, b_Unlike___init__⟩ := c_Unlike___init__
  obtain ⟨⟨oc, od, kV, doc, pm, an, ct, osl, rfl, lk, hcd⟩, _⟩ := F
  refine fn_atStar (ps := ["self"]) (pv := "parts") (D := C_Mixed) lk hcd sc_Mixed___init__ StX.cxUp SC.cell (StX.bind_star1 (B := fun l => bindArgs _ ⟨l, []⟩) (p1 := "self") (pv := "parts") (fun _ => rfl) fun _ _ _ => rfl) (fun A outer s H vs Q E hr h => ?_)
  · obtain ⟨p, dx, t, us, ts, rfl, hp, ht, row, ul, m24, kN, kB, kU, q⟩ := h
    refine ⟨_, (psas_cons (psa_ps (ps_if (pt_cmpR op_eq (pe_callB call_len_seq (by rfl) m_len (by decide +kernel) (pa_cons (pv 1) pa_nil)) pe_int (nomark _)) (pss_one (ps_raise rfl (takes_of rfl rfl rfl rfl) (pmk_own PySem.F.excBase_ValueError T.x_NoBuyers T.g_NoBuyers T.kc_NoBuyers (raises_own T.b_NoBuyers T.t_NoBuyers) (by exact rfl)))) pss_nil))
      (psas_cons (psa_ps (ps_asg (pe_ix ix_tup (pv 1) pe_int (fun _ _ => rfl)) (pg_tup rfl (pgs_cons (pg_name (i := 3) sc_Mixed___init__.nd rfl (Or.inl rfl)) (pgs_cons (pg_name (i := 4) sc_Mixed___init__.nd rfl (Or.inl rfl)) pgs_nil)))))
      (psas_cons (psa_expr (pea_super lk ⟨SC.isD, SC.sub, SC.cell, SC.code, SC.sup, SC.tg, SC.fg, SC.opq, SC.nosup⟩ hfile htop rfl rfl rfl rfl rfl rfl rfl rfl rfl rfl rfl G_Rule___init__ b_Rule___init__ (hr.mono (by decide)) (passes_call (takes_of rfl rfl rfl rfl) (fun _ _ _ _ h => h)) (pa_cons (pe_fld (pv 4) rfl) pa_nil) rfl rfl rfl rfl))
      (psas_pss (pss_cons (ps_for (passes_of rfl) rfl (pi_enumT (by rfl) m_enumerate (pa_cons (pv 1) pa_nil)) (pg_tup rfl (pgs_cons (pg_name (i := 5) sc_Mixed___init__.nd rfl (Or.inl rfl)) (pgs_cons (pg_tup rfl (pgs_cons (pg_name (i := 6) sc_Mixed___init__.nd rfl (Or.inl rfl)) (pgs_cons (pg_name (i := 7) sc_Mixed___init__.nd rfl (Or.inl rfl)) pgs_nil))) pgs_nil)))
      (pss_cons (ps_if (pt_cmpR op_lt (pv 6) pe_int (nomark _)) (pss_one (ps_raise rfl (takes_of rfl rfl rfl rfl) (pmk_oex T.ox_BadNumber ic_BadNumber___init__ ti_BadNumber___init__ G_BadNumber___init__ (hr.mono (by decide)) b_BadNumber___init__ .nil pass0 (by exact rfl) T.g_BadNumber (pa_cons pe_str (pa_cons (pv 5) pa_nil))))) pss_nil)
      (pss_one (ps_if (pt_cmpR op_ne (pe_fld (pv 7) rfl) (pe_fld (pv 4) rfl) (nomark _)) (pss_one (ps_raise rfl (takes_of rfl rfl rfl rfl) (pmk_oex T.ox_Unlike ic_Unlike___init__ ti_Unlike___init__ G_Unlike___init__ (hr.mono (by decide)) b_Unlike___init__ .nil pass0 (by exact rfl) T.g_Unlike (pa_cons (pv 5) pa_nil)))) pss_nil))))
      (pss_one (ps_fld (pv 0) (pv 1) rfl))))))), ?_⟩
    have rl := row.1
    have hcl : ∀ k, Cls K (clsOf C_Weighted C_Rule C_Listed k) ∧ NoAttr K (clsOf C_Weighted C_Rule C_Listed k) "many" := fun k => by
      unfold clsOf
      split
      · exact ⟨T.cl_Weighted, T.n_Weighted_many⟩
      · split
        · exact ⟨T.cl_Rule, T.n_Rule_many⟩
        · exact ⟨T.cl_Listed, T.n_Listed_many⟩
    refine ⟨_, rfl, t, _, rfl, .inr (tup_t ht), rfl, _, rfl, ite2 (fun c => ?_) (fun c => ?_)⟩
    · have c := V.int.inj (of_decide_eq_true c)
      rw [List.length_map] at c
      have e : ts = [] := List.eq_nil_of_length_eq_zero (by omega)
      subst e
      exact kN rfl _ fun b o _ z => z
    have c0 : 0 < us.length := Nat.pos_of_ne_zero fun z => c (decide_eq_true (congrArg V.int (by rw [List.length_map, z]; rfl)))
    obtain ⟨u0, hu0⟩ : ∃ u, us[0]? = some u := ⟨_, List.getElem?_eq_getElem c0⟩
    obtain ⟨w0, hw0⟩ : ∃ w, ts[0]? = some w := ⟨_, List.getElem?_eq_getElem (by omega)⟩
    have v0 : (us.map V.ref)[0]? = some (.ref u0) := by rw [List.getElem?_map, hu0]; rfl
    obtain ⟨r0, e0, dx0, fs0, hr0, lk0⟩ := row.2 0 _ _ hu0 hw0
    have dr := dueM_rest hw0
    have m0 := m24 _ (List.mem_of_getElem? hw0)
    refine ⟨.ref t, rfl, t, _, _, .ref u0, rfl, rfl, tup_t ht, atI_nat (j := 0) v0, u0, _, rfl, tup_t e0, rfl, _, _, rfl, _, _, rfl, rfl, ?_⟩
    refine ⟨p, dx, [], rfl, hp, .ref r0, rfl, r0, _, dx0, fs0, _, rfl, hr0, (hcl _).1, (hcl _).2, lk0, p, dx, [], (w0.2.1 : Int), rfl, hp, Nat.zero_le _, fun e d nd => absurd e (by omega), fun _ => ?_⟩
    have x1 : SameX p H (upd H p (.ins C_Mixed dx (putF "many" (.int (w0.2.1 : Int)) []))) := SameX.put
    have hp1 : upd H p (.ins C_Mixed dx (putF "many" (.int (w0.2.1 : Int)) [])) p = some (.ins C_Mixed dx (putF "many" (.int (w0.2.1 : Int)) [])) := upd_same
    have pr : r0 ≠ p := fun z => by
      rw [z, hp] at hr0
      cases hr0
      cases lk0
    have hr1 := x1 _ _ pr hr0
    have pt : t ≠ p := fun z => by
      rw [z, hp] at ht
      cases ht
    have ht1 := x1 _ _ pt ht
    have row1 := row.sx hp x1
    generalize upd H p (.ins C_Mixed dx (putF "many" (.int (w0.2.1 : Int)) [])) = H1 at x1 hp1 hr1 ht1 row1 ⊢
    refine ⟨_, rfl, t, _, rfl, tup_t ht1, ?_⟩
    refine for_it (walk_enumT (K := K) (a := t) (xs := us.map V.ref)) (fun i σ H2 => ∃ y1 y2 y3 : Option V, σ = [some (.ref p), some (.ref t), none, some (.int w0.1), some (.ref r0), y1, y2, y3] ∧ Same H1 H2 ∧ badM w0.2.1 ts 0 = badM w0.2.1 (ts.drop i) i) ⟨none, none, none, rfl, Same.refl _, rfl⟩ ?_ ?_ ?_
    · rintro i σ H2 _ ⟨_, _, _, _, sx, _⟩
      exact tup_t (sx t _ ht1)
    · rintro i x σ H2 H3 hi ⟨y1, y2, y3, rfl, sx, hb⟩ ⟨tp, ix, nx, rfl, ntp, rfl, e1, e2⟩
      cases e1
      rw [List.length_map] at hi
      have h1 : us[i]? = some us[i] := List.getElem?_eq_getElem hi
      have h2 : ts[i]? = some ts[i] := List.getElem?_eq_getElem (by omega)
      have e2 : (us.map V.ref)[i]? = some nx := e2
      rw [List.getElem?_map, h1] at e2
      cases e2
      have hd := drop_m h2
      have s3 := sx.trans (same_upd (o := .tup [V.int i, V.ref us[i]]) ntp)
      obtain ⟨r, hu, dxr, fsr, hr3, lkr⟩ := (row1.2 i _ _ h1 h2).same s3
      generalize ts[i] = w at hu hr3 lkr hd h2
      obtain ⟨b, n, k⟩ := w
      have hr3 : upd H2 tp (.tup [V.int i, V.ref us[i]]) r = some (.ins (clsOf C_Weighted C_Rule C_Listed k) dxr fsr) := hr3
      have lkr : fsr.lookup ("many" : Str) = some (.int (n : Int)) := lkr
      have hu : upd H2 tp (.tup [V.int i, V.ref us[i]]) us[i] = some (.tup [.int b, .ref r]) := hu
      have hr0' := s3 _ _ hr1
      rw [hd] at hb
      refine ⟨tp, _, rfl, tup_t upd_same, rfl, _, _, rfl, _, _, rfl, us[i], _, rfl, tup_t hu, rfl, _, _, rfl, _, _, rfl, rfl, rfl, ?_⟩
      generalize upd H2 tp (.tup [V.int i, V.ref us[i]]) = H3 at s3 hu hr3 hr0' ⊢
      refine ⟨_, rfl, _, _, rfl, rfl, _, rfl, ite2 (fun c => ?_) (fun c => ?_)⟩
      · have c : b < 1 := of_decide_eq_true c
        exact ⟨_, rfl, (by show 2 ≤ 1000; decide), fun a na => ⟨a, _, _, rfl, upd_same, fun dx2 nd ne => raise2 (fun d nd => kB i (by rw [dr, hb, badM_num c]) _ _ (x1.trans (same_sx (s3.trans (same_upd nd)))) upd_same) na nd ne⟩⟩
      have c : ¬ b < 1 := fun z => c (decide_eq_true z)
      refine ⟨.ref r, rfl, r, _, dxr, fsr, _, rfl, hr3, (hcl _).1, (hcl _).2, lkr, .ref r0, rfl, r0, _, dx0, fs0, _, rfl, hr0', (hcl _).1, (hcl _).2, lk0, rfl, _, rfl, ite2N (fun c2 => ?_) (fun c2 => ?_)⟩
      · have c2 : n ≠ w0.2.1 := fun z => c2 (by rw [z])
        exact ⟨_, rfl, (by show 1 ≤ 1000; decide), fun a na => ⟨a, _, rfl, upd_same, fun dx2 nd ne => raise1 (fun d nd => kU i (by rw [dr, hb, badM_un c c2]) _ _ (x1.trans (same_sx (s3.trans (same_upd nd)))) upd_same) na nd ne⟩⟩
      · have c2 := V.int.inj c2
        exact ⟨_, _, _, rfl, s3, by rw [hb, badM_next c (by show n = w0.2.1; omega)]⟩
    · rintro σ H2 ⟨y1, y2, y3, rfl, sx, hb⟩
      rw [List.length_map, rl, List.drop_length] at hb
      have mk : dueM ts = .made := by rw [dr, hb]; rfl
      have hp2 := sx _ _ hp1
      refine ⟨_, rfl, _, rfl, p, C_Mixed, dx, _, rfl, hp2, T.cl_Mixed, T.n_Mixed_parts, (by show 1 < 1000; decide), ?_⟩
      exact q mk _ w0.2.1 ((x1.trans (same_sx sx)).trans SameX.put) (fun w hw => by rw [hw0] at hw; cases hw; rfl) upd_same
/-- what a Weighted wishes of its ends: the errors, the made one -/
structure MadeW (C CT CB p dx : Addr) (ns : List Int) (aside : Int) (H : Hp) (Q : VK) (E : XK) : Prop where
  t : ns.length > 24 → ∀ H' d, SameX p H H' → H' d = some (.xd [("most", .int 24), ("many", .int ns.length)]) → E (.ref CT) (some d) H'
  b : ¬ ns.length > 24 → ∀ k : Nat, badAt ns 0 = some k → ∀ H' d, SameX p H H' → H' d = some (.xd [("at", .int k), ("what", .str "weights")]) → E (.ref CB) (some d) H'
  a : ¬ ns.length > 24 → badAt ns 0 = none → aside < 1 → ∀ H' d, SameX p H H' → H' d = some (.xd [("at", .non), ("what", .str "aside")]) → E (.ref CB) (some d) H'
  m : ¬ ns.length > 24 → badAt ns 0 = none → ¬ aside < 1 → ∀ H' t, SameX p H H' → H' p = some (.ins C dx (fW ns.length aside t)) → H' t = some (.tup (ns.map V.int)) → Q .non H'
def sp_Weighted___init__ (K : PySem.W.Frag) (C CT CB : Addr) : Sp := fun vs H Q E => ∃ (p dx l : Addr) (ns : List Int) (aside : Int), vs = [.ref p, .ref l, .int aside] ∧ H p = some (.ins C dx []) ∧ H l = some (.lst (ns.map V.int)) ∧ ns.length ≤ 1000 ∧ MadeW C CT CB p dx ns aside H Q E
theorem ok_Weighted___init__ {f cc cda g_Rule : Addr} {fd : FuncData} {file : Str} {C_Listed C_Mixed C_Weighted C_Rule C_BadNumber C_TooMany C_BadWish C_Unlike C_BadTable C_NoBuyers C_ShelfError : Addr} (F : FunS K "__init__" "Weighted.__init__" s_Weighted___init__ cc cda f fd) (SC : SupC K mg C_Weighted C_Weighted cc cda g_Rule file) (hfile : ((P.main.file : Str) == file) = true) (htop : (P.main.scope.names.lookup ("super" : Str)).isSome = false) (T : Txt K mg C_Listed C_Mixed C_Weighted C_Rule C_BadNumber C_TooMany C_BadWish C_Unlike C_BadTable C_NoBuyers C_ShelfError) (m_len : mg "len" = none) (m_tuple : mg "tuple" = none) (c_Rule___init__ : ∃ fd : FuncData, FnOk P w K mg base (L2.CX P w) 4 g_Rule fd ["self", "many"] (sp_Rule___init__ C_Weighted C_TooMany) ∧ Binds K fd ["self", "many"] []) (c_check_each : Cal P w K mg base (L2.CX P w) 3 "check_each" ["what", "numbers", "least"] (sp_check_each K C_BadNumber)) (c_check_aside : Cal P w K mg base (L2.CX P w) 4 "check_aside" ["aside"] (sp_check_aside C_BadNumber)) : FnOk P w K mg base (L2.CX P w) 5 f fd ["self", "weights", "aside"] (sp_Weighted___init__ K C_Weighted C_TooMany C_BadNumber) := by
  obtain ⟨fd_Rule___init__, G_Rule___init__, b_Rule___init__⟩ := c_Rule___init__
  obtain ⟨f_check_each, fd_check_each, G_check_each, m_check_each, k_check_each, b_check_each⟩ := c_check_each
  obtain ⟨f_check_aside, fd_check_aside, G_check_aside, m_check_aside, k_check_aside, b_check_aside⟩ := c_check_aside
  obtain ⟨⟨oc, od, kV, doc, pm, an, ct, osl, rfl, lk, hcd⟩, _⟩ := F
  refine fn_super (C := C_Weighted) lk hcd sc_Weighted___init__ SC hfile htop rfl rfl rfl rfl rfl (fun vs H Q E h => ?_) G_Rule___init__ b_Rule___init__ (by decide) (fun _ => rfl) (fun _ => rfl) (fun _ => rfl) (fun _ => rfl) (fun _ => rfl) (fun A outer s H vs Q E hr h => ?_)
  · obtain ⟨p, dx, l, ns, aside, rfl, _⟩ := h
    rfl
  · obtain ⟨p, dx, l, ns, aside, rfl, hp, hl, hlen, W⟩ := h
    refine ⟨_, _, p, dx, [], _, E, (pa_cons (pe_callB call_len_seq (by rfl) m_len (by decide +kernel) (pa_cons (pv 1) pa_nil)) pa_nil), (pss_cons (ps_expr (pe_call G_check_each (hr.mono (by decide)) (by rfl) m_check_each k_check_each b_check_each .nil (passes_call (takes_of rfl rfl rfl rfl) (fun _ _ _ _ h => h)) (pa_cons pe_str (pa_cons (pv 1) (pa_cons pe_int pa_nil)))))
      (pss_cons (ps_expr (pe_call G_check_aside (hr.mono (by decide)) (by rfl) m_check_aside k_check_aside b_check_aside .nil (passes_call (takes_of rfl rfl rfl rfl) (fun _ _ _ _ h => h)) (pa_cons (pv 2) pa_nil)))
      (pss_cons (ps_fld (pv 0) (pe_callTy call_tuple_of (by rfl) m_tuple (by decide +kernel) (pa_cons (pv 1) pa_nil)) rfl)
      (pss_one (ps_fld (pv 0) (pv 2) rfl))))), passes_call (takes_of rfl rfl rfl rfl) (fun _ _ _ _ h => h), rfl, hp, ?_⟩
    have pl : l ≠ p := fun z => by
      rw [z, hp] at hl
      cases hl
    refine ⟨_, rfl, l, _, rfl, .inl (lst_l hl), ?_⟩
    rw [List.length_map]
    refine ⟨p, dx, [], (ns.length : Int), rfl, hp, Nat.zero_le _, fun e d nd => W.t (by omega) _ _ (SameX.new nd) upd_same, fun e => ?_⟩
    have e0 : ¬ ns.length > 24 := fun z => e (by omega)
    have hl1 := (upd_ne (o := .ins C_Weighted dx (putF "many" (.int ns.length) [])) pl).trans hl
    refine ⟨_, rfl, l, _, ns, 1, rfl, hl1, hlen, fun k hk H' d s' hd => W.b e0 k ((low_bad ns 0).symm.trans hk) _ _ (SameX.put.trans (same_sx s')) hd, fun hb H2 s2 => ?_⟩
    have hb := (low_bad ns 0).symm.trans hb
    have hp2 := s2 _ _ (upd_same (H := H) (a := p) (o := .ins C_Weighted dx (putF "many" (.int ns.length) [])))
    have hl2 := s2 _ _ hl1
    have sx := SameX.put.trans (same_sx s2)
    refine ⟨_, rfl, aside, rfl, fun c d nd => W.a e0 hb c _ _ (sx.trans (SameX.new nd)) upd_same, fun c => ?_⟩
    refine ⟨_, rfl, l, _, rfl, .inl ⟨lst_l hl2, fun t nt => ?_⟩⟩
    have hp3 := (upd_ne (o := .tup (ns.map V.int)) (ne_of_none hp2 nt)).trans hp2
    have pt : t ≠ p := fun z => by
      rw [z, hp2] at nt
      cases nt
    refine ⟨_, rfl, p, C_Weighted, dx, _, rfl, hp3, T.cl_Weighted, T.n_Weighted_weights, (by show 1 < 1000; decide), ?_⟩
    refine ⟨_, rfl, _, rfl, p, C_Weighted, dx, _, rfl, upd_same, T.cl_Weighted, T.n_Weighted_aside, (by show 2 < 1000; decide), ?_⟩
    refine W.m e0 hb c _ t (((sx.trans (SameX.new nt)).trans SameX.put).trans SameX.put) upd_same ?_
    rw [upd_ne pt, upd_ne pt, upd_same]
def sp__law_cell (K : PySem.W.Frag) : Sp := fun vs H Q _ => ∃ (a : Addr) (ns : List Int) (j : Nat), vs = [.ref a, .int (j : Int)] ∧ SqL K H a (ns.map V.int) ∧ ∀ v : Int, Q (.int v) H
theorem ok__law_cell {f : Addr} {fd : FuncData} {C_Listed C_Mixed C_Weighted C_Rule C_BadNumber C_TooMany C_BadWish C_Unlike C_BadTable C_NoBuyers C_ShelfError : Addr} (F : Fun K "_law_cell" "_law_cell" s__law_cell f fd) (T : Txt K mg C_Listed C_Mixed C_Weighted C_Rule C_BadNumber C_TooMany C_BadWish C_Unlike C_BadTable C_NoBuyers C_ShelfError) (m_int : mg "int" = none) (m_len : mg "len" = none) : FnOk P w K mg base CX0 1 f fd ["_law_script", "_law_place"] (sp__law_cell K) := by
  refine F.ok sc__law_cell (fun vs H Q E h => ?_) (fun cdv A outer s H vs Q E hr h => ?_)
  · obtain ⟨a, ns, j, rfl, _⟩ := h
    rfl
  · obtain ⟨a, ns, j, rfl, hS, q⟩ := h
    refine ⟨_, (pss_cons (ps_if (pt_cmpR op_lt (pv 1) (pe_callB call_len_seq (by rfl) m_len (by decide +kernel) (pa_cons (pv 0) pa_nil)) (nomark _)) (pss_one (ps_ret (pe_callTy call_int1 (by rfl) m_int (by decide +kernel) (pa_cons (pe_ix ix_list (pv 0) (pv 1) (fun _ _ => rfl)) pa_nil)))) pss_nil)
      (pss_one (ps_ret pe_int))), ?_⟩
    refine ⟨_, rfl, .ref a, rfl, a, _, rfl, .inl hS, _, _, rfl, rfl, _, rfl, ite2 (fun e => ?_) (fun _ => q 0)⟩
    have hj : j < ns.length := by
      have e := of_decide_eq_true e
      rw [List.length_map] at e
      omega
    exact ⟨.ref a, rfl, .int (j : Int), rfl, a, _, _, _, rfl, rfl, hS, atI_nat (int_at (List.getElem?_eq_getElem hj)), .inl ⟨_, rfl, q _⟩⟩
def sp__law_draws (K : PySem.W.Frag) : Sp := fun vs H Q _ => ∃ (c : Int) (a : Addr) (ns : List Int), vs = [.int c, .ref a] ∧ SqL K H a (ns.map V.int) ∧ (∀ n ∈ ns, 0 < n ∧ n < 2 ^ 100) ∧ ns.length ≤ 1000 ∧
  ∀ ds H' p, Within ds ns → Same H H' → H p = none → H' p = some (.lst (ds.map V.int)) → Q (.ref p) H'

theorem ok__law_draws {f : Addr} {fd : FuncData} {C_Listed C_Mixed C_Weighted C_Rule C_BadNumber C_TooMany C_BadWish C_Unlike C_BadTable C_NoBuyers C_ShelfError : Addr} (F : Fun K "_law_draws" "_law_draws" s__law_draws f fd) (T : Txt K mg C_Listed C_Mixed C_Weighted C_Rule C_BadNumber C_TooMany C_BadWish C_Unlike C_BadTable C_NoBuyers C_ShelfError) (m_int : mg "int" = none) (m_len : mg "len" = none) (m_range : mg "range" = none) : FnOk P w K mg base CX0 1 f fd ["_law_cell_here", "_law_sizes"] (sp__law_draws K) := by
  refine F.ok sc__law_draws (fun vs H Q E h => ?_) (fun cdv A outer s H vs Q E hr h => ?_)
  · obtain ⟨c, a, ns, rfl, _⟩ := h
    rfl
  · obtain ⟨c, a, ns, rfl, hS, hn, hlen, q⟩ := h
    refine ⟨_, (pss_cons (ps_if (pt_cmpR op_eq (pv 0) pe_int (nomark _)) (pss_one (ps_ret (pe_lc (own := [("_law_size", 2)]) (g := (gName 2)) (tt := tYes) rfl sc__law_draws.nd (pi_list (pv 1)) (blkOk_by (own := [("_law_size", 2)]) (N := ["_law_cell_here", "_law_sizes", "_law_size", "_law_left", "_law_found", "_law_k", "_law_low", "_law_high"]) (sc := defScope s__law_draws) (by decide +kernel)) (fun _ _ _ _ _ => (pg_name (i := 2) sc__law_draws.nd rfl (Or.inl rfl))) (fun _ _ _ _ _ => pts_nil) (fun _ _ _ _ _ => pe_int)))) pss_nil)
      (pss_cons (ps_if (pt_cmpR op_ge (pv 0) (pe_op op_pow pe_int pe_int) (nomark _)) (pss_cons (ps_set (i := 3) sc__law_draws.nd rfl (Or.inl rfl) (pe_op op_sub (pv 0) (pe_op op_pow pe_int pe_int)))
      (pss_cons (ps_set (i := 4) sc__law_draws.nd rfl (Or.inl rfl) (pe_lst pa_nil))
      (pss_cons (ps_for PassesOwn.never rfl (pi_list (pv 1)) (pg_name (i := 2) sc__law_draws.nd rfl (Or.inl rfl))
      (pss_cons (ps_expr (pe_bm PySem.F.plainAttrs_list PySem.F.slot_list_append PySem.F.type_list_append mt_append (pv 4) (pa_cons (pe_op op_mod (pe_callTy call_int1 (by rfl) m_int (by decide +kernel) (pa_cons (pv 3) pa_nil)) (pv 2)) pa_nil)))
      (pss_one (ps_set (i := 3) sc__law_draws.nd rfl (Or.inl rfl) (pe_op op_fdivW (pv 3) (pv 2))))))
      (pss_one (ps_ret (pv 4)))))) pss_nil)
      (pss_cons (ps_set (i := 4) sc__law_draws.nd rfl (Or.inl rfl) (pe_lst pa_nil))
      (pss_cons (ps_for PassesOwn.never rfl (pi_range1 (by rfl) m_range (pa_cons (pe_callB call_len_seq (by rfl) m_len (by decide +kernel) (pa_cons (pv 1) pa_nil)) pa_nil)) (pg_name (i := 5) sc__law_draws.nd rfl (Or.inl rfl))
      (pss_cons (ps_set (i := 6) sc__law_draws.nd rfl (Or.inl rfl) (pe_op op_mod (pe_callTy call_int1 (by rfl) m_int (by decide +kernel) (pa_cons (pe_op op_add (pe_op op_mul (pv 0) pe_int) (pe_op op_mul (pe_op op_add (pv 5) pe_int) pe_int)) pa_nil)) pe_int))
      (pss_cons (ps_set (i := 6) sc__law_draws.nd rfl (Or.inl rfl) (pe_op op_mod (pe_callTy call_int1 (by rfl) m_int (by decide +kernel) (pa_cons (pe_op op_add (pe_op op_mul (pv 6) pe_int) (pe_op op_mul (pe_op op_add (pv 5) pe_int) pe_int)) pa_nil)) pe_int))
      (pss_cons (ps_set (i := 7) sc__law_draws.nd rfl (Or.inl rfl) (pe_op op_mod (pe_callTy call_int1 (by rfl) m_int (by decide +kernel) (pa_cons (pe_op op_add (pe_op op_mul (pv 0) pe_int) (pe_op op_mul (pe_op op_add (pv 5) pe_int) pe_int)) pa_nil)) pe_int))
      (pss_cons (ps_set (i := 7) sc__law_draws.nd rfl (Or.inl rfl) (pe_op op_mod (pe_callTy call_int1 (by rfl) m_int (by decide +kernel) (pa_cons (pe_op op_add (pe_op op_mul (pv 7) pe_int) (pv 6)) pa_nil)) pe_int))
      (pss_one (ps_expr (pe_bm PySem.F.plainAttrs_list PySem.F.slot_list_append PySem.F.type_list_append mt_append (pv 4) (pa_cons (pe_op op_mod (pe_callTy call_int1 (by rfl) m_int (by decide +kernel) (pa_cons (pe_op op_add (pe_op op_mul (pv 7) pe_int) (pv 6)) pa_nil)) (pe_ix ix_list (pv 1) (pv 5) (fun _ _ => rfl))) pa_nil)))))))))
      (pss_one (ps_ret (pv 4))))))), ?_⟩
    have small : ∀ {ds : List Int} {i : Nat}, Within ds (ns.take i) → (ds.map V.int).length < sizeLine := fun {ds i} w => by
      rw [List.length_map, w.len, List.length_take]
      exact small1000 (by omega)
    refine ⟨_, rfl, rfl, _, rfl, ite2 (fun _ => ?_) (fun _ => ?_)⟩
    · -- [0 for size in sizes]
      refine ⟨.ref a, rfl, a, rfl, ⟨_, hS⟩, fun D nD => lc_list (K := K) (a := a) (xs := ns.map V.int) (fun i H2 => ∃ ds : List Int, Same H H2 ∧ H2 D = some (.lst (ds.map V.int)) ∧ Within ds (ns.take i)) ⟨[], same_upd nD, upd_same, Within.zero ns⟩ (fun i H2 _ ⟨_, s, _⟩ => s.seq hS) ?_ ?_⟩
      · rintro i x H2 hi ⟨ds, s, hD, w⟩
        obtain ⟨n, rfl, hin⟩ := int_of hi
        refine ⟨rfl, ?_⟩
        refine lc_yes ?_
        refine iteT ?_
        exact ⟨_, hD, small w, ds ++ [0], same_mut s nD, by rw [upd_same, ← snoc_int], w.step hin (Int.le_refl 0) (hn n (List.mem_of_getElem? hin)).1⟩
      · rintro H2 ⟨ds, s, hD, w⟩
        rw [List.length_map] at w
        exact q ds H2 D w.full s nD hD
    refine ⟨_, rfl, 10, 18, rfl, rfl, ⟨by decide, by decide, by decide⟩, _, _, rfl, rfl, _, rfl, ite2 (fun _ => ?_) (fun _ => ?_)⟩
    · -- left = cell - 10 ** 18; found = []
      refine ⟨_, rfl, 10, 18, rfl, rfl, ⟨by decide, by decide, by decide⟩, _, _, rfl, rfl, ?_⟩
      refine ⟨Nat.zero_le _, fun o no => ?_⟩
      have s1 : Same H (upd H o (.lst [])) := same_upd no
      refine ⟨.ref a, rfl, a, rfl, ⟨_, s1.seq hS⟩, for_list (K := K) (a := a) (xs := ns.map V.int) (fun i σ H2 => ∃ (ds : List Int) (l : Int) (y : Option V), σ = [some (.int c), some (.ref a), y, some (.int l), some (.ref o), none, none, none] ∧ Same H H2 ∧ H2 o = some (.lst (ds.map V.int)) ∧ Within ds (ns.take i))
        ⟨[], _, none, rfl, s1, upd_same, Within.zero ns⟩ (fun i σ H2 _ ⟨_, _, _, _, s, _⟩ => s.seq hS) ?_ ?_⟩
      · rintro i x σ H2 hi ⟨ds, l, y, rfl, s, hD, w⟩
        obtain ⟨n, rfl, hin⟩ := int_of hi
        obtain ⟨n0, n1⟩ := hn n (List.mem_of_getElem? hin)
        refine ⟨.ref o, rfl, .inl ⟨rfl, _, lst_l hD⟩, _, rfl, .inl ⟨l, rfl, _, rfl, _, _, rfl, rfl, n0, o, _, _, rfl, rfl, hD, small w, ?_⟩⟩
        refine ⟨_, rfl, _, rfl, _, _, rfl, rfl, w_div n0 n1, ds ++ [l % n], _, _, rfl, same_mut s no, by rw [upd_same, ← snoc_int], w.step hin (Int.emod_nonneg _ (by omega)) (Int.emod_lt_of_pos _ n0)⟩
      · rintro σ H2 ⟨ds, l, y, rfl, s, hD, w⟩
        rw [List.length_map] at w
        exact ⟨_, rfl, q ds H2 o w.full s no hD⟩
    · refine ⟨Nat.zero_le _, fun o no => ?_⟩
      have s1 : Same H (upd H o (.lst [])) := same_upd no
      refine ⟨.ref a, rfl, a, _, rfl, .inl (s1.seq hS), _, rfl, ?_⟩
      rw [List.length_map]
      refine ⟨by omega, by omega, ?_⟩
      rw [Int.toNat_natCast]
      refine for_range (lo := 0) (n := ns.length) (fun i σ H2 => ∃ (ds : List Int) (y1 y2 y3 : Option V), σ = [some (.int c), some (.ref a), none, none, some (.ref o), y1, y2, y3] ∧ Same H H2 ∧ H2 o = some (.lst (ds.map V.int)) ∧ Within ds (ns.take i))
        ⟨[], none, none, none, rfl, s1, upd_same, Within.zero ns⟩ ?_ ?_
      · rintro i σ H2 hi ⟨ds, y1, y2, y3, rfl, s, hD, w⟩
        have hin : ns[i]? = some ns[i] := List.getElem?_eq_getElem hi
        obtain ⟨n0, n1⟩ := hn ns[i] (List.getElem_mem hi)
        refine ⟨_, rfl, _, _, rfl, rfl, .inr ⟨by decide, by decide⟩, _, rfl, _, _, rfl, rfl, _, _, rfl, rfl, .inr ⟨by decide, by decide⟩, _, _, rfl, rfl, .inl ⟨_, rfl, _, _, rfl, rfl, (show (0 : Int) < 2147483647 by decide), ?_⟩⟩
        refine ⟨_, rfl, _, _, rfl, rfl, .inr ⟨by decide, by decide⟩, _, rfl, _, _, rfl, rfl, _, _, rfl, rfl, .inr ⟨by decide, by decide⟩, _, _, rfl, rfl, .inl ⟨_, rfl, _, _, rfl, rfl, (show (0 : Int) < 2147483399 by decide), ?_⟩⟩
        refine ⟨_, rfl, _, _, rfl, rfl, .inr ⟨by decide, by decide⟩, _, rfl, _, _, rfl, rfl, _, _, rfl, rfl, .inr ⟨by decide, by decide⟩, _, _, rfl, rfl, .inl ⟨_, rfl, _, _, rfl, rfl, (show (0 : Int) < 2147483563 by decide), ?_⟩⟩
        refine ⟨_, rfl, _, _, rfl, rfl, .inr ⟨by decide, by decide⟩, _, rfl, _, _, rfl, rfl, .inl ⟨_, rfl, _, _, rfl, rfl, (show (0 : Int) < 2147483587 by decide), ?_⟩⟩
        refine ⟨.ref o, rfl, .inl ⟨rfl, _, lst_l hD⟩, _, rfl, _, _, rfl, rfl, .inr ⟨by decide, by decide⟩, _, rfl, _, _, rfl, rfl, .inl ⟨_, rfl, .ref a, rfl, .int (0 + (i : Int)), rfl, a, _, _, _, rfl, rfl, s.seq hS, at_of (Int.zero_add _) (int_at hin), _, _, rfl, rfl, n0, o, _, _, rfl, rfl, hD, small w, ?_⟩⟩
        exact ⟨ds ++ [_], _, _, _, rfl, same_mut s no, by rw [upd_same, ← snoc_int], w.step hin (Int.emod_nonneg _ (by omega)) (Int.emod_lt_of_pos _ n0)⟩
      · rintro σ H2 ⟨ds, y1, y2, y3, rfl, s, hD, w⟩
        exact ⟨_, rfl, q ds H2 o w.full s no hD⟩
def sp__law_row (K : PySem.W.Frag) : Sp := fun vs H Q _ => ∃ (c : Int) (m : Nat), vs = [.int c, .int (m : Int)] ∧ m ≤ 900 ∧ ∀ (ns : List Int) (H' : Hp) (p : Addr), ns.length = m → (∀ n ∈ ns, 0 ≤ n ∧ n < 10 ^ 18 - 1) → Same H H' → H p = none → H' p = some (.lst (ns.map V.int)) → Q (.ref p) H'

theorem ok__law_row {f : Addr} {fd : FuncData} {C_Listed C_Mixed C_Weighted C_Rule C_BadNumber C_TooMany C_BadWish C_Unlike C_BadTable C_NoBuyers C_ShelfError : Addr} (F : Fun K "_law_row" "_law_row" s__law_row f fd) (T : Txt K mg C_Listed C_Mixed C_Weighted C_Rule C_BadNumber C_TooMany C_BadWish C_Unlike C_BadTable C_NoBuyers C_ShelfError) (m_int : mg "int" = none) (m_range : mg "range" = none) (c__law_draws : Cal P w K mg base CX0 1 "_law_draws" ["_law_cell_here", "_law_sizes"] (sp__law_draws K)) : FnOk P w K mg base CX0 2 f fd ["_law_cell_here", "_law_count"] (sp__law_row K) := by
  refine F.ok sc__law_row (fun vs H Q E h => ?_) (fun cdv A outer s H vs Q E hr h => ?_)
  · obtain ⟨c, m, rfl, _⟩ := h
    rfl
  · obtain ⟨c, m, rfl, hm, q⟩ := h
    obtain ⟨f__law_draws, fd__law_draws, G__law_draws, m__law_draws, k__law_draws, b__law_draws⟩ := c__law_draws
    refine ⟨_, (pss_cons (ps_set (i := 2) sc__law_row.nd rfl (Or.inl rfl) (pe_call G__law_draws (hr.mono (by decide)) (by rfl) m__law_draws k__law_draws b__law_draws .nil pass0 (pa_cons (pv 0) (pa_cons (pe_op op_cat (pe_lst (pa_cons pe_int pa_nil)) (pe_lc (own := [("_law_k", 5)]) (g := (gName 5)) (tt := tYes) rfl sc__law_row.nd (pi_range1 (by rfl) m_range (pa_cons (pv 1) pa_nil)) (blkOk_by (own := [("_law_k", 5)]) (N := ["_law_cell_here", "_law_count", "_law_drawn", "_law_bound", "_law_value", "_law_k"]) (sc := defScope s__law_row) (by decide +kernel)) (fun _ _ _ _ _ => (pg_name (i := 5) sc__law_row.nd rfl (Or.inl rfl))) (fun _ _ _ _ _ => pts_nil) (fun _ _ _ _ _ => (pe_op op_pow pe_int pe_int)))) pa_nil))))
      (pss_cons (ps_set (i := 3) sc__law_row.nd rfl (Or.inr rfl) (pe_ix ix_list (pe_lst (pa_cons pe_int (pa_cons pe_int (pa_cons (pe_op op_pow pe_int pe_int) (pa_cons (pe_op op_sub (pe_op op_pow pe_int pe_int) pe_int) pa_nil))))) (pe_ix ix_list (pv 2) pe_int (fun _ _ => rfl)) (fun _ _ => rfl)))
      (pss_one (ps_ret (pe_lc (own := [("_law_value", 4)]) (g := (gName 4)) (tt := tYes) rfl sc__law_row.nd (pi_list (pe_slice sl_list (pv 2) (po_some pe_int) po_none)) (blkOk_by (own := [("_law_value", 4)]) (N := ["_law_cell_here", "_law_count", "_law_drawn", "_law_bound", "_law_value", "_law_k"]) (sc := defScope s__law_row) (by decide +kernel)) (fun _ _ _ _ _ => (pg_name (i := 4) sc__law_row.nd rfl (Or.inl rfl))) (fun _ _ _ _ _ => pts_nil) (fun _ _ _ _ _ => (pe_op op_mod (pe_callTy call_int1 (by rfl) m_int (by decide +kernel) (pa_cons (pv 4) pa_nil)) (pv 3)))))))), ?_⟩
    -- draws(cell, [4] + [10 ** 18 for k in range(count)])
    refine ⟨_, rfl, small1000 (by decide), fun p1 n1 => ?_⟩
    have s1 : Same H (upd H p1 (.lst [V.int 4])) := same_upd n1
    refine ⟨_, rfl, _, rfl, by omega, by omega, ?_⟩
    rw [Int.toNat_natCast]
    refine fun D nD => lc_range (lo := 0) (n := m) (fun i H2 => Same (upd H p1 (.lst [V.int 4])) H2 ∧ H2 D = some (.lst ((List.replicate i (10 ^ 18 : Int)).map V.int))) ⟨same_upd nD, upd_same⟩ ?_ ?_
    · rintro i H2 hi ⟨s, hD⟩
      refine ⟨rfl, ?_⟩
      refine lc_yes ?_
      refine iteT ?_
      refine ⟨10, 18, rfl, rfl, ⟨by decide, by decide, by decide⟩, _, hD, ?_, same_mut s nD, ?_⟩
      · rw [List.length_map, List.length_replicate]
        exact small1000 (by omega)
      · rw [upd_same, List.replicate_succ', ← snoc_int]
        rfl
    rintro H2 ⟨s2, hD⟩
    refine ⟨p1, D, _, _, rfl, rfl, s2 _ _ upd_same, hD, ?_, fun p3 n3 => ?_⟩
    · rw [List.length_map, List.length_replicate]
      exact Nat.le_of_lt (small1000 (by show 1 + m ≤ 1000; omega))
    have s3 : Same H (upd H2 p3 (.lst ((4 :: List.replicate m (10 ^ 18 : Int)).map V.int))) := (s1.trans s2).trans (same_upd n3)
    refine ⟨c, p3, 4 :: List.replicate m (10 ^ 18 : Int), rfl, lst_l upd_same, ?_, ?_, fun ds H4 d w s4 nd hd => ?_⟩
    · intro n hn
      rcases List.mem_cons.mp hn with rfl | hn
      · decide
      · rw [(List.mem_replicate.mp hn).2]
        exact big18
    · rw [List.length_cons, List.length_replicate]
      omega
    obtain ⟨d0, r, rfl, l0, u0, w⟩ := w.c
    have hr : r.length = m := by
      rw [w.len, List.length_replicate]
    have hL : SqL K H4 d ((d0 :: r).map V.int) := lst_l hd
    have sH : Same H H4 := s3.trans s4
    -- bound = [4, 30, 10 ** 9, 10 ** 18 - 1][drawn[0]]
    refine ⟨10, 9, rfl, rfl, ⟨by decide, by decide, by decide⟩, 10, 18, rfl, rfl, ⟨by decide, by decide, by decide⟩, _, _, rfl, rfl, small1000 (by decide), fun p5 n5 => ?_⟩
    obtain ⟨b, hb, b0, b1⟩ : ∃ b : Int, atI [V.int 4, V.int 30, V.int (10 ^ 9), V.int (10 ^ 18 - 1)] d0 = some (V.int b) ∧ 0 < b ∧ b ≤ 10 ^ 18 - 1 := by
      rcases (by omega : d0 = 0 ∨ d0 = 1 ∨ d0 = 2 ∨ d0 = 3) with rfl | rfl | rfl | rfl
      · exact ⟨4, rfl, by decide, by decide⟩
      · exact ⟨30, rfl, by decide, by decide⟩
      · exact ⟨10 ^ 9, rfl, by decide, by decide⟩
      · exact ⟨10 ^ 18 - 1, rfl, by decide, by decide⟩
    have s5 := same_upd (o := .lst [V.int 4, V.int 30, V.int (10 ^ 9), V.int (10 ^ 18 - 1)]) n5
    refine ⟨.ref d, rfl, d, _, _, .int d0, rfl, rfl, s5.seq hL, atI_nat (j := 0) rfl, p5, _, _, .int b, rfl, rfl, lst_l upd_same, hb, ?_⟩
    -- [int(value) % bound for value in drawn[1:]]
    refine ⟨.ref d, rfl, 1, rfl, d, _, rfl, s5.seq hL, fun p6 n6 => ?_⟩
    rw [cut_from1]
    have s6 := same_upd (o := .lst (((d0 :: r).map V.int).drop 1)) n6
    have sT : Same H _ := (sH.trans s5).trans s6
    refine ⟨p6, rfl, ⟨r.map V.int, lst_l upd_same⟩, fun D nD => lc_list (K := K) (a := p6) (xs := r.map V.int) (fun i H2 => Same (upd (upd H4 p5 (.lst [V.int 4, V.int 30, V.int (10 ^ 9), V.int (10 ^ 18 - 1)])) p6 (.lst (((d0 :: r).map V.int).drop 1))) H2 ∧ H2 D = some (.lst (((r.take i).map fun v => v % b).map V.int))) ⟨same_upd nD, upd_same⟩ (fun i H2 _ ⟨s, _⟩ => s.seq (lst_l upd_same)) ?_ ?_⟩
    · rintro i x H2 hi ⟨s, hD⟩
      obtain ⟨n, rfl, hin⟩ := int_of hi
      refine ⟨rfl, ?_⟩
      refine lc_yes ?_
      refine iteT ?_
      refine ⟨_, rfl, .inl ⟨n, rfl, _, rfl, _, _, rfl, rfl, b0, _, hD, ?_, same_mut s nD, ?_⟩⟩
      · rw [List.length_map, List.length_map, List.length_take]
        exact small1000 (by omega)
      · rw [upd_same, List.take_add_one, hin, List.map_append, List.map_append]
        rfl
    · rintro H2 ⟨s, hD⟩
      rw [List.length_map, List.take_length] at hD
      refine q (r.map fun v => v % b) H2 D (by rw [List.length_map, hr]) ?_ (sT.trans s) (sT.free nD) hD
      intro n hn
      obtain ⟨x, _, rfl⟩ := List.mem_map.mp hn
      have h1 := Int.emod_nonneg x (show b ≠ 0 by omega)
      have h2 := Int.emod_lt_of_pos x b0
      omega
def sp__law_ups (K : PySem.W.Frag) : Sp := fun vs H Q _ => ∃ (a : Addr) (ns : List Int), vs = [.ref a] ∧ H a = some (.lst (ns.map V.int)) ∧ ns.length ≤ 1000 ∧ ∀ H' p, Same H H' → H p = none → H' p = some (.lst ((ns.map fun n => 1 + n).map V.int)) → Q (.ref p) H' 
theorem ok__law_ups {f : Addr} {fd : FuncData} {C_Listed C_Mixed C_Weighted C_Rule C_BadNumber C_TooMany C_BadWish C_Unlike C_BadTable C_NoBuyers C_ShelfError : Addr} (F : Fun K "_law_ups" "_law_ups" s__law_ups f fd) (T : Txt K mg C_Listed C_Mixed C_Weighted C_Rule C_BadNumber C_TooMany C_BadWish C_Unlike C_BadTable C_NoBuyers C_ShelfError) : FnOk P w K mg base CX0 1 f fd ["_law_row_here"] (sp__law_ups K) := by
  refine F.ok sc__law_ups (fun vs H Q E h => ?_) (fun cdv A outer s H vs Q E hr h => ?_)
  · obtain ⟨a, ns, rfl, _⟩ := h
    rfl
  · obtain ⟨a, ns, rfl, hl, hlen, q⟩ := h
    refine ⟨_, (pss_one (ps_ret (pe_lc (own := [("_law_number", 1)]) (g := (gName 1)) (tt := tYes) rfl sc__law_ups.nd (pi_list (pv 0)) (blkOk_by (own := [("_law_number", 1)]) (N := ["_law_row_here", "_law_number"]) (sc := defScope s__law_ups) (by decide +kernel)) (fun _ _ _ _ _ => (pg_name (i := 1) sc__law_ups.nd rfl (Or.inl rfl))) (fun _ _ _ _ _ => pts_nil) (fun _ _ _ _ _ => (pe_op op_add pe_int (pv 1)))))), ?_⟩
    refine ⟨.ref a, rfl, a, rfl, ⟨_, lst_l hl⟩, fun D nD => lc_list (K := K) (a := a) (xs := ns.map V.int) (fun i H2 => Same H H2 ∧ H2 D = some (.lst (((ns.take i).map fun n => 1 + n).map V.int))) ⟨same_upd nD, upd_same⟩ (fun i H2 _ ⟨s, _⟩ => lst_l (s _ _ hl)) ?_ ?_⟩
    · rintro i x H2 hi ⟨s, hD⟩
      obtain ⟨n, rfl, hin⟩ := int_of hi
      refine ⟨rfl, ?_⟩
      refine lc_yes ?_
      refine iteT ?_
      refine ⟨_, rfl, _, _, rfl, rfl, _, hD, ?_, same_mut s nD, ?_⟩
      · rw [List.length_map, List.length_map, List.length_take]
        exact small1000 (by omega)
      · rw [upd_same, List.take_add_one, hin, List.map_append, List.map_append]
        rfl
    · rintro H2 ⟨s, hD⟩
      rw [List.length_map, List.take_length] at hD
      exact q H2 D s nD hD
def sp__law_is_int : Sp := fun vs H Q _ => ∃ v : Int, vs = [.int v] ∧ Q (.bl true) H
theorem ok__law_is_int {f : Addr} {fd : FuncData} {C_Listed C_Mixed C_Weighted C_Rule C_BadNumber C_TooMany C_BadWish C_Unlike C_BadTable C_NoBuyers C_ShelfError : Addr} (F : Fun K "_law_is_int" "_law_is_int" s__law_is_int f fd) (T : Txt K mg C_Listed C_Mixed C_Weighted C_Rule C_BadNumber C_TooMany C_BadWish C_Unlike C_BadTable C_NoBuyers C_ShelfError) (m_bool : mg "bool" = none) (m_int : mg "int" = none) (m_isinstance : mg "isinstance" = none) : FnOk P w K mg base CX0 1 f fd ["_law_x"] sp__law_is_int := by
  refine F.ok sc__law_is_int (fun vs H Q E h => ?_) (fun cdv A outer s H vs Q E hr h => ?_)
  · obtain ⟨v, rfl, _⟩ := h
    rfl
  · obtain ⟨v, rfl, q⟩ := h
    refine ⟨_, (pss_one (ps_ret (pe_and (pe_callB call_isi (by rfl) m_isinstance (by decide +kernel) (pa_cons (pv 0) (pa_cons (pe_bltn (v := .ty "int") (by rfl) m_int (by decide +kernel) rfl) pa_nil))) (pe_one (pe_not (pe_callB call_isi (by rfl) m_isinstance (by decide +kernel) (pa_cons (pv 0) (pa_cons (pe_bltn (v := .ty "bool") (by rfl) m_bool (by decide +kernel) rfl) pa_nil)))))))), ?_⟩
    exact ⟨_, rfl, .int v, .ty "int", _, _, true, rfl, .ty "int", .base (.int v), kit_ty kI, true, rfl, iteT ⟨_, rfl, .int v, .ty "bool", _, _, false, rfl, .ty "bool", .base (.int v), kit_ty kB, false, rfl, q⟩⟩
def sp__law_rule_of (CW CR CL : Addr) : Sp := fun vs H Q _ => ∃ (k m : Nat), vs = [.int (k : Int), .int (m : Int)] ∧ m ≤ 24 ∧ k ≤ 2 ∧ ∀ H' r, Same H H' → RuAt CW CR CL H' r k m → Q (.ref r) H' 
theorem ok__law_rule_of {f : Addr} {fd : FuncData} {C_Listed C_Mixed C_Weighted C_Rule C_BadNumber C_TooMany C_BadWish C_Unlike C_BadTable C_NoBuyers C_ShelfError : Addr} (F : Fun K "_law_rule_of" "_law_rule_of" s__law_rule_of f fd) (T : Txt K mg C_Listed C_Mixed C_Weighted C_Rule C_BadNumber C_TooMany C_BadWish C_Unlike C_BadTable C_NoBuyers C_ShelfError) (m_range : mg "range" = none) (c_Weighted___init__ : CalI P w K mg base (L2.CX P w) 5 C_Weighted ["self", "weights", "aside"] (sp_Weighted___init__ K C_Weighted C_TooMany C_BadNumber) []) (c_Rule___init__ : CalI P w K mg base (L2.CX P w) 4 C_Rule ["self", "many"] (sp_Rule___init__ C_Rule C_TooMany) []) (c_Listed___init__ : CalI P w K mg base (L2.CX P w) 5 C_Listed ["self", "many", "wishes"] (sp_Listed___init__ C_Listed C_TooMany C_NoBuyers C_BadNumber C_BadWish) []) : FnOk P w K mg base (L2.CX P w) 7 f fd ["_law_kind", "_law_many"] (sp__law_rule_of C_Weighted C_Rule C_Listed) := by
  refine F.okX sc__law_rule_of (fun vs H Q E h => ?_) (fun cdv A outer s H vs Q E hr h => ?_)
  · obtain ⟨k, m, rfl, _⟩ := h
    rfl
  · obtain ⟨k, m, rfl, hm, hk, q⟩ := h
    obtain ⟨f_Weighted___init__, fd_Weighted___init__, G_Weighted___init__, M_Weighted___init__, b_Weighted___init__, ds_Weighted___init__, vd_Weighted___init__, bd_Weighted___init__⟩ := c_Weighted___init__
    obtain ⟨f_Rule___init__, fd_Rule___init__, G_Rule___init__, M_Rule___init__, b_Rule___init__, ds_Rule___init__, vd_Rule___init__, bd_Rule___init__⟩ := c_Rule___init__
    obtain ⟨f_Listed___init__, fd_Listed___init__, G_Listed___init__, M_Listed___init__, b_Listed___init__, ds_Listed___init__, vd_Listed___init__, bd_Listed___init__⟩ := c_Listed___init__
    refine ⟨_, (pss_cons (ps_if (pt_cmpR op_eq (pv 0) pe_int (nomark _)) (pss_one (ps_ret (pe_make M_Weighted___init__ G_Weighted___init__ (hr.mono (by decide)) (by rfl) T.g_Weighted b_Weighted___init__ .nil (passes_call (takes_of rfl rfl rfl rfl) (fun _ _ _ _ h => h)) (pa_cons (pe_lc (own := [("_law_k", 2)]) (g := (gName 2)) (tt := tYes) rfl sc__law_rule_of.nd (pi_range1 (by rfl) m_range (pa_cons (pv 1) pa_nil)) (blkOk_by (own := [("_law_k", 2)]) (N := ["_law_kind", "_law_many", "_law_k"]) (sc := defScope s__law_rule_of) (by decide +kernel)) (fun _ _ _ _ _ => (pg_name (i := 2) sc__law_rule_of.nd rfl (Or.inl rfl))) (fun _ _ _ _ _ => pts_nil) (fun _ _ _ _ _ => pe_int)) (pa_cons pe_int pa_nil))))) pss_nil)
      (pss_cons (ps_if (pt_cmpR op_eq (pv 0) pe_int (nomark _)) (pss_one (ps_ret (pe_make M_Rule___init__ G_Rule___init__ (hr.mono (by decide)) (by rfl) T.g_Rule b_Rule___init__ .nil (passes_call (takes_of rfl rfl rfl rfl) (fun _ _ _ _ h => h)) (pa_cons (pv 1) pa_nil)))) pss_nil)
      (pss_one (ps_ret (pe_make M_Listed___init__ G_Listed___init__ (hr.mono (by decide)) (by rfl) T.g_Listed b_Listed___init__ .nil (passes_call (takes_of rfl rfl rfl rfl) (fun _ _ _ _ h => h)) (pa_cons (pv 1) (pa_cons (pe_lst (pa_cons (pe_tup (pa_cons pe_int (pa_cons (pe_tup pa_nil) pa_nil))) pa_nil)) pa_nil))))))), ?_⟩
    refine ⟨_, rfl, rfl, _, rfl, ite2 (fun c => ?_) (fun c => ?_)⟩
    · have c := V.int.inj (of_decide_eq_true c)
      obtain rfl : k = 0 := by omega
      refine ⟨_, rfl, _, rfl, by omega, by omega, ?_⟩
      rw [Int.toNat_natCast]
      refine fun D nD => lc_range (lo := 0) (n := m) (fun i H2 => Same H H2 ∧ H2 D = some (.lst ((List.replicate i (1 : Int)).map V.int))) ⟨same_upd nD, upd_same⟩ ?_ ?_
      · rintro i H2 hi ⟨s, hD⟩
        refine ⟨rfl, ?_⟩
        refine lc_yes ?_
        refine iteT ?_
        refine ⟨_, hD, ?_, same_mut s nD, ?_⟩
        · rw [List.length_map, List.length_replicate]
          exact small1000 (by omega)
        · rw [upd_same, List.replicate_succ', List.map_append]
          rfl
      rintro H2 ⟨s, hD⟩
      have l := ones_len m
      refine fun x dx nx nd _ => ⟨x, dx, D, List.replicate m 1, 1, rfl, upd_same, made1 nx nd _ _ hD, by omega, ⟨fun z => absurd z (by omega), fun _ k z => absurd z (by rw [bad_ones]; exact fun z => by cases z), fun _ _ z => absurd z (by decide), fun _ _ _ H' t sx hp ht => ⟨rfl, q H' x (s.trans (sameX_made nx nd sx)) ⟨dx, _, hp, ?_⟩⟩⟩⟩
      rw [l]
      rfl
    · have c : k ≠ 0 := fun z => c (decide_eq_true (by rw [z]; rfl))
      refine ⟨_, rfl, rfl, _, rfl, ite2 (fun c1 => ?_) (fun c1 => ?_)⟩
      · have c1 := V.int.inj (of_decide_eq_true c1)
        obtain rfl : k = 1 := by omega
        exact ⟨_, rfl, fun x dx nx nd _ => ⟨x, dx, [], (m : Int), rfl, upd_same, Nat.zero_le _, fun z => absurd z (by omega), fun _ => ⟨rfl, q _ x (sameX_made nx nd SameX.put) ⟨dx, _, upd_same, rfl⟩⟩⟩⟩
      · have c1 : k ≠ 1 := fun z => c1 (decide_eq_true (by rw [z]; rfl))
        obtain rfl : k = 2 := by omega
        refine ⟨_, rfl, (by show 0 ≤ sizeLine; decide), fun et net => ?_⟩
        refine ⟨(by show 2 ≤ sizeLine; decide), fun u1 nu1 => ?_⟩
        refine ⟨(by show 1 ≤ sizeLine; decide), fun g1 ng1 => ?_⟩
        have p1 : PairW (upd (upd (upd H et (.tup [])) u1 (.tup [V.int 1, V.ref et])) g1 (.lst [V.ref u1])) u1 (1, []) := PairW.same (same_upd ng1) ⟨et, upd_same, same_upd nu1 _ _ upd_same⟩
        have hg1 : upd (upd (upd H et (.tup [])) u1 (.tup [V.int 1, V.ref et])) g1 (.lst [V.ref u1]) g1 = some (.lst ([u1].map V.ref)) := upd_same
        have s1 : Same H (upd (upd (upd H et (.tup [])) u1 (.tup [V.int 1, V.ref et])) g1 (.lst [V.ref u1])) := ((same_upd net).trans (same_upd nu1)).trans (same_upd ng1)
        generalize upd (upd (upd H et (.tup [])) u1 (.tup [V.int 1, V.ref et])) g1 (.lst [V.ref u1]) = H1 at p1 hg1 s1 ⊢
        have row : RowW H1 [u1] [(1, [])] := ⟨rfl, fun i v x h1 h2 => by
          cases i with
          | zero =>
            cases h1
            cases h2
            exact p1
          | succ i => cases h1⟩
        have mk := made_one hm
        exact fun x dx nx nd _ => ⟨x, dx, g1, [u1], [(1, [])], (m : Int), rfl, upd_same, made1 nx nd _ _ hg1, row.same (made1 nx nd), by show 1 ≤ 900; decide, fun w hw => by rw [List.mem_singleton.mp hw]; decide, fun n e => absurd (mk.symm.trans e) (by simp), fun e => absurd (mk.symm.trans e) (by simp), fun n e => absurd (mk.symm.trans e) (by simp), fun n e => absurd (mk.symm.trans e) (by simp), fun _ H' sx la => ⟨rfl, by
          obtain ⟨dx2, t, vs, h1, _⟩ := la
          exact q H' x (s1.trans (sameX_made nx nd sx)) ⟨dx2, _, h1, rfl⟩⟩⟩
def sp__law_due : Sp := fun vs H Q _ => ∃ (L : Addr) (us : List Addr) (ts : List (Int × Nat × Nat)), vs = [.ref L] ∧ H L = some (.lst (us.map V.ref)) ∧ RowN H us ts ∧ us.length ≤ 900 ∧ ∀ H' t, Same H H' → H' t = some (.tup (dueM ts).due) → Q (.ref t) H' 
theorem ok__law_due {f : Addr} {fd : FuncData} {C_Listed C_Mixed C_Weighted C_Rule C_BadNumber C_TooMany C_BadWish C_Unlike C_BadTable C_NoBuyers C_ShelfError : Addr} (F : Fun K "_law_due" "_law_due" s__law_due f fd) (T : Txt K mg C_Listed C_Mixed C_Weighted C_Rule C_BadNumber C_TooMany C_BadWish C_Unlike C_BadTable C_NoBuyers C_ShelfError) (m_len : mg "len" = none) (m_range : mg "range" = none) : FnOk P w K mg base CX0 1 f fd ["_law_numbers_here"] sp__law_due := by
  refine F.ok sc__law_due (fun vs H Q E h => ?_) (fun cdv A outer s H vs Q E hr h => ?_)
  · obtain ⟨L, us, ts, rfl, _⟩ := h
    rfl
  · obtain ⟨L, us, ts, rfl, hL, row, ul, q⟩ := h
    refine ⟨_, (pss_cons (ps_if (pt_cmpR op_eq (pe_callB call_len_seq (by rfl) m_len (by decide +kernel) (pa_cons (pv 0) pa_nil)) pe_int (nomark _)) (pss_one (ps_ret (pe_tup (pa_cons pe_str pa_nil)))) pss_nil)
      (pss_cons (ps_for PassesOwn.never rfl (pi_range1 (by rfl) m_range (pa_cons (pe_callB call_len_seq (by rfl) m_len (by decide +kernel) (pa_cons (pv 0) pa_nil)) pa_nil)) (pg_name (i := 1) sc__law_due.nd rfl (Or.inl rfl))
      (pss_cons (ps_if (pt_cmpR op_lt (pe_ix ix_tup (pe_ix ix_list (pv 0) (pv 1) (fun _ _ => rfl)) pe_int (fun _ _ => rfl)) pe_int (nomark _)) (pss_one (ps_ret (pe_tup (pa_cons pe_str (pa_cons pe_str (pa_cons (pv 1) pa_nil)))))) pss_nil)
      (pss_one (ps_if (pt_cmpR op_ne (pe_ix ix_tup (pe_ix ix_list (pv 0) (pv 1) (fun _ _ => rfl)) pe_int (fun _ _ => rfl)) (pe_ix ix_tup (pe_ix ix_list (pv 0) pe_int (fun _ _ => rfl)) pe_int (fun _ _ => rfl)) (nomark _)) (pss_one (ps_ret (pe_tup (pa_cons pe_str (pa_cons (pv 1) pa_nil))))) pss_nil))))
      (pss_one (ps_ret (pe_tup (pa_cons pe_str pa_nil)))))), ?_⟩
    have qd : ∀ d, dueM ts = d → ∀ H' t, Same H H' → H' t = some (.tup d.due) → Q (.ref t) H' := fun d e => e ▸ q
    have rl := row.1
    refine ⟨_, rfl, L, _, rfl, .inl (lst_l hL), rfl, _, rfl, ite2 (fun c => ?_) (fun c => ?_)⟩
    · have c := V.int.inj (of_decide_eq_true c)
      rw [List.length_map] at c
      have e : ts = [] := List.eq_nil_of_length_eq_zero (by omega)
      subst e
      exact ⟨(by show 1 ≤ sizeLine; decide), fun t nt => qd .none rfl _ t (same_upd nt) upd_same⟩
    have c0 : 0 < us.length := Nat.pos_of_ne_zero fun z => c (decide_eq_true (congrArg V.int (by rw [List.length_map, z]; rfl)))
    obtain ⟨u0, hu0⟩ : ∃ u, us[0]? = some u := ⟨_, List.getElem?_eq_getElem c0⟩
    obtain ⟨w0, hw0⟩ : ∃ w, ts[0]? = some w := ⟨_, List.getElem?_eq_getElem (by omega)⟩
    have v0 : (us.map V.ref)[0]? = some (.ref u0) := by rw [List.getElem?_map, hu0]; rfl
    have e0 := row.2 0 _ _ hu0 hw0
    have dr := dueM_rest hw0
    refine ⟨_, rfl, L, _, rfl, .inl (lst_l hL), _, rfl, ?_⟩
    rw [List.length_map]
    refine ⟨by omega, by omega, ?_⟩
    rw [Int.toNat_natCast]
    refine for_range (lo := 0) (n := us.length) (fun i σ H2 => ∃ y1 : Option V, σ = [some (.ref L), y1] ∧ H2 = H ∧ badM w0.2.1 ts 0 = badM w0.2.1 (ts.drop i) i) ⟨none, rfl, rfl, rfl⟩ ?_ ?_
    · rintro i σ H2 hi ⟨y1, rfl, rfl, hb⟩
      have h1 : us[i]? = some us[i] := List.getElem?_eq_getElem hi
      have h2 : ts[i]? = some ts[i] := List.getElem?_eq_getElem (by omega)
      have v1 : (us.map V.ref)[i]? = some (.ref us[i]) := by rw [List.getElem?_map, h1]; rfl
      have hd := drop_m h2
      have hu := row.2 i _ _ h1 h2
      generalize ts[i] = w at hu hd h2
      obtain ⟨b, n, k⟩ := w
      have hu : H2 us[i] = some (.tup [.int b, .int (n : Int), .int (k : Int)]) := hu
      rw [hd] at hb
      refine ⟨_, rfl, _, rfl, L, _, _, _, rfl, rfl, lst_l hL, at_of (Int.zero_add _) v1, us[i], _, _, _, rfl, rfl, tup_t hu, atI_nat (j := 0) rfl, _, _, rfl, rfl, _, rfl, ite2 (fun c => ?_) (fun c => ?_)⟩
      · have c : b < 1 := of_decide_eq_true c
        exact ⟨_, rfl, (by show 3 ≤ sizeLine; decide), fun t nt => qd (.num i) (by rw [dr, hb, badM_num c]) _ t (same_upd nt) (by rw [upd_same, Int.zero_add]; rfl)⟩
      have c : ¬ b < 1 := fun z => c (decide_eq_true z)
      refine ⟨_, rfl, _, rfl, L, _, _, _, rfl, rfl, lst_l hL, at_of (Int.zero_add _) v1, us[i], _, _, _, rfl, rfl, tup_t hu, atI_nat (j := 1) rfl, .ref L, rfl, L, _, _, .ref u0, rfl, rfl, lst_l hL, atI_nat (j := 0) v0, u0, _, _, _, rfl, rfl, tup_t e0, atI_nat (j := 1) rfl, rfl, _, rfl, ite2N (fun c2 => ?_) (fun c2 => ?_)⟩
      · have c2 : n ≠ w0.2.1 := fun z => c2 (by rw [z])
        exact ⟨_, rfl, (by show 2 ≤ sizeLine; decide), fun t nt => qd (.unlike i) (by rw [dr, hb, badM_un c c2]) _ t (same_upd nt) (by rw [upd_same, Int.zero_add]; rfl)⟩
      · have c2 := V.int.inj c2
        exact ⟨_, rfl, rfl, by rw [hb, badM_next c (by show n = w0.2.1; omega)]⟩
    · rintro σ H2 ⟨y1, rfl, rfl, hb⟩
      rw [rl, List.drop_length] at hb
      exact ⟨(by show 1 ≤ sizeLine; decide), fun t nt => qd .made (by rw [dr, hb]; rfl) _ t (same_upd nt) upd_same⟩
def sp__law_mixture (C CN CB CU CW CR CL : Addr) : Sp := fun vs H Q E => ∃ (L : Addr) (us : List Addr) (ts : List (Int × Nat × Nat)), vs = [.ref L] ∧ H L = some (.lst (us.map V.ref)) ∧ RowM CW CR CL H us ts ∧ us.length ≤ 4 ∧ (∀ w ∈ ts, w.2.1 ≤ 24) ∧
  (dueM ts = .none → ∀ H', Same H H' → E (.ref CN) none H') ∧
  (∀ k, dueM ts = .num k → ∀ H' d, Same H H' → H' d = some (.xd [("at", .int (k : Int)), ("what", .str "buyers")]) → E (.ref CB) (some d) H') ∧ (∀ k, dueM ts = .unlike k → ∀ H' d, Same H H' → H' d = some (.xd [("at", .int (k : Int))]) → E (.ref CU) (some d) H') ∧
  (dueM ts = .made → ∀ H' p dx t m, Same H H' → (∀ w, ts[0]? = some w → w.2.1 = m) → H' p = some (.ins C dx (fM m t)) → H' t = some (.tup (us.map V.ref)) → Q (.ref p) H')
theorem ok__law_mixture {f : Addr} {fd : FuncData} {C_Listed C_Mixed C_Weighted C_Rule C_BadNumber C_TooMany C_BadWish C_Unlike C_BadTable C_NoBuyers C_ShelfError : Addr} (F : Fun K "_law_mixture" "_law_mixture" s__law_mixture f fd) (T : Txt K mg C_Listed C_Mixed C_Weighted C_Rule C_BadNumber C_TooMany C_BadWish C_Unlike C_BadTable C_NoBuyers C_ShelfError) (m_len : mg "len" = none) (c_Mixed___init__ : ∃ f : Addr, FnR P w K mg base (L2.CX P w) 5 f (spStar (sp_Mixed___init__ C_Mixed C_NoBuyers C_BadNumber C_Unlike C_Weighted C_Rule C_Listed) 1) ∧ Mk K C_Mixed f) : FnOk P w K mg base (L2.CX P w) 7 f fd ["_law_told"] (sp__law_mixture C_Mixed C_NoBuyers C_BadNumber C_Unlike C_Weighted C_Rule C_Listed) := by
  refine F.okX sc__law_mixture (fun vs H Q E h => ?_) (fun cdv A outer s H vs Q E hr h => ?_)
  · obtain ⟨L, us, ts, rfl, _⟩ := h
    rfl
  · obtain ⟨L, us, ts, rfl, hL, row, ul, m24, kN, kB, kU, q⟩ := h
    obtain ⟨f_Mixed___init__, R_Mixed___init__, M_Mixed___init__⟩ := c_Mixed___init__
    refine ⟨_, (pss_cons (ps_if (pt_cmpR op_eq (pe_callB call_len_seq (by rfl) m_len (by decide +kernel) (pa_cons (pv 0) pa_nil)) pe_int (nomark _)) (pss_one (ps_ret (pe_makeR0 M_Mixed___init__ R_Mixed___init__ (hr.mono (by decide)) (by rfl) T.g_Mixed (passes_call (takes_of rfl rfl rfl rfl) (fun _ _ _ _ h => h))))) pss_nil)
      (pss_cons (ps_if (pt_cmpR op_eq (pe_callB call_len_seq (by rfl) m_len (by decide +kernel) (pa_cons (pv 0) pa_nil)) pe_int (nomark _)) (pss_one (ps_ret (StX.pe_makeR M_Mixed___init__ R_Mixed___init__ (hr.mono (by decide)) (by rfl) T.g_Mixed (passes_call (takes_of rfl rfl rfl rfl) (fun _ _ _ _ h => h)) (pa_cons (pe_ix ix_list (pv 0) pe_int (fun _ _ => rfl)) pa_nil)))) pss_nil)
      (pss_cons (ps_if (pt_cmpR op_eq (pe_callB call_len_seq (by rfl) m_len (by decide +kernel) (pa_cons (pv 0) pa_nil)) pe_int (nomark _)) (pss_one (ps_ret (StX.pe_makeR M_Mixed___init__ R_Mixed___init__ (hr.mono (by decide)) (by rfl) T.g_Mixed (passes_call (takes_of rfl rfl rfl rfl) (fun _ _ _ _ h => h)) (pa_cons (pe_ix ix_list (pv 0) pe_int (fun _ _ => rfl)) (pa_cons (pe_ix ix_list (pv 0) pe_int (fun _ _ => rfl)) pa_nil))))) pss_nil)
      (pss_cons (ps_if (pt_cmpR op_eq (pe_callB call_len_seq (by rfl) m_len (by decide +kernel) (pa_cons (pv 0) pa_nil)) pe_int (nomark _)) (pss_one (ps_ret (StX.pe_makeR M_Mixed___init__ R_Mixed___init__ (hr.mono (by decide)) (by rfl) T.g_Mixed (passes_call (takes_of rfl rfl rfl rfl) (fun _ _ _ _ h => h)) (pa_cons (pe_ix ix_list (pv 0) pe_int (fun _ _ => rfl)) (pa_cons (pe_ix ix_list (pv 0) pe_int (fun _ _ => rfl)) (pa_cons (pe_ix ix_list (pv 0) pe_int (fun _ _ => rfl)) pa_nil)))))) pss_nil)
      (pss_one (ps_ret (StX.pe_makeR M_Mixed___init__ R_Mixed___init__ (hr.mono (by decide)) (by rfl) T.g_Mixed (passes_call (takes_of rfl rfl rfl rfl) (fun _ _ _ _ h => h)) (pa_cons (pe_ix ix_list (pv 0) pe_int (fun _ _ => rfl)) (pa_cons (pe_ix ix_list (pv 0) pe_int (fun _ _ => rfl)) (pa_cons (pe_ix ix_list (pv 0) pe_int (fun _ _ => rfl)) (pa_cons (pe_ix ix_list (pv 0) pe_int (fun _ _ => rfl)) pa_nil))))))))))), ?_⟩
    have fin : ∀ x dx, H x = none → H dx = none → dx ≠ x → spStar (sp_Mixed___init__ C_Mixed C_NoBuyers C_BadNumber C_Unlike C_Weighted C_Rule C_Listed) 1 (V.ref x :: us.map V.ref) (upd (upd H dx (.own x)) x (.ins C_Mixed dx [])) (fun v H2 => v = .non ∧ Q (.ref x) H2) E := fun x dx nx nd ne => by
      refine ⟨[.ref x], us.map V.ref, rfl, rfl, ?_, fun t nt => ?_⟩
      · rw [List.length_map]
        exact Nat.le_of_lt (small1000 (by omega))
      have s0 : Same H (upd (upd H dx (.own x)) x (.ins C_Mixed dx [])) := made1 nx nd
      have tx : t ≠ x := fun z => by
        rw [z, upd_same] at nt
        cases nt
      have st := same_upd (o := .tup (us.map V.ref)) nt
      have back : ∀ {H' : Hp}, SameX x (upd (upd (upd H dx (.own x)) x (.ins C_Mixed dx [])) t (.tup (us.map V.ref))) H' → Same H H' := fun {H'} sx => sameX_made nx nd (SameX.trans (SameX.new nt) sx)
      exact ⟨x, dx, t, us, ts, rfl, (upd_ne (Ne.symm tx)).trans upd_same, upd_same, (row.same s0).same st, by omega, m24, fun e H' sx => kN e H' (back sx), fun k e H' d sx hd => kB k e H' d (back sx) hd, fun k e H' d sx hd => kU k e H' d (back sx) hd, fun e H' m sx hm hx => ⟨rfl, q e H' x dx t m (back sx) hm hx (sx _ _ tx upd_same)⟩⟩
    rcases us with _ | ⟨u0, _ | ⟨u1, _ | ⟨u2, _ | ⟨u3, _ | ⟨u4, us⟩⟩⟩⟩⟩
    · exact ⟨_, rfl, L, _, rfl, .inl (lst_l hL), rfl, _, rfl, iteD rfl fin⟩
    · exact ⟨_, rfl, L, _, rfl, .inl (lst_l hL), rfl, _, rfl, iteDF (fun z => by have := V.int.inj z; simp at this) ⟨_, rfl, L, _, rfl, .inl (lst_l hL), rfl, _, rfl, iteD rfl ⟨.ref L, rfl, L, _, _, .ref u0, rfl, rfl, lst_l hL, atI_nat (j := 0) rfl, fin⟩⟩⟩
    · exact ⟨_, rfl, L, _, rfl, .inl (lst_l hL), rfl, _, rfl, iteDF (fun z => by have := V.int.inj z; simp at this) ⟨_, rfl, L, _, rfl, .inl (lst_l hL), rfl, _, rfl, iteDF (fun z => by have := V.int.inj z; simp at this) ⟨_, rfl, L, _, rfl, .inl (lst_l hL), rfl, _, rfl, iteD rfl ⟨.ref L, rfl, L, _, _, .ref u0, rfl, rfl, lst_l hL, atI_nat (j := 0) rfl, .ref L, rfl, L, _, _, .ref u1, rfl, rfl, lst_l hL, atI_nat (j := 1) rfl, fin⟩⟩⟩⟩
    · exact ⟨_, rfl, L, _, rfl, .inl (lst_l hL), rfl, _, rfl, iteDF (fun z => by have := V.int.inj z; simp at this) ⟨_, rfl, L, _, rfl, .inl (lst_l hL), rfl, _, rfl, iteDF (fun z => by have := V.int.inj z; simp at this) ⟨_, rfl, L, _, rfl, .inl (lst_l hL), rfl, _, rfl, iteDF (fun z => by have := V.int.inj z; simp at this) ⟨_, rfl, L, _, rfl, .inl (lst_l hL), rfl, _, rfl, iteD rfl ⟨.ref L, rfl, L, _, _, .ref u0, rfl, rfl, lst_l hL, atI_nat (j := 0) rfl, .ref L, rfl, L, _, _, .ref u1, rfl, rfl, lst_l hL, atI_nat (j := 1) rfl, .ref L, rfl, L, _, _, .ref u2, rfl, rfl, lst_l hL, atI_nat (j := 2) rfl, fin⟩⟩⟩⟩⟩
    · exact ⟨_, rfl, L, _, rfl, .inl (lst_l hL), rfl, _, rfl, iteDF (fun z => by have := V.int.inj z; simp at this) ⟨_, rfl, L, _, rfl, .inl (lst_l hL), rfl, _, rfl, iteDF (fun z => by have := V.int.inj z; simp at this) ⟨_, rfl, L, _, rfl, .inl (lst_l hL), rfl, _, rfl, iteDF (fun z => by have := V.int.inj z; simp at this) ⟨_, rfl, L, _, rfl, .inl (lst_l hL), rfl, _, rfl, iteDF (fun z => by have := V.int.inj z; simp at this) ⟨.ref L, rfl, L, _, _, .ref u0, rfl, rfl, lst_l hL, atI_nat (j := 0) rfl, .ref L, rfl, L, _, _, .ref u1, rfl, rfl, lst_l hL, atI_nat (j := 1) rfl, .ref L, rfl, L, _, _, .ref u2, rfl, rfl, lst_l hL, atI_nat (j := 2) rfl, .ref L, rfl, L, _, _, .ref u3, rfl, rfl, lst_l hL, atI_nat (j := 3) rfl, fin⟩⟩⟩⟩⟩
    · exact absurd ul (by simp only [List.length_cons]; omega)
def sp__law_asked (CW CR CL : Addr) : Sp := fun vs H Q _ => ∃ (L : Addr) (us : List Addr) (ts : List (Int × Nat × Nat)), vs = [.ref L] ∧ H L = some (.lst (us.map V.ref)) ∧ RowM CW CR CL H us ts ∧ us.length ≤ 4 ∧ (∀ w ∈ ts, w.2.1 ≤ 24) ∧ ∀ H' t, Same H H' → H' t = some (.tup (dueM ts).due) → Q (.ref t) H' 
theorem ok__law_asked {f : Addr} {fd : FuncData} {C_Listed C_Mixed C_Weighted C_Rule C_BadNumber C_TooMany C_BadWish C_Unlike C_BadTable C_NoBuyers C_ShelfError : Addr} (F : Fun K "_law_asked" "_law_asked" s__law_asked f fd) (T : Txt K mg C_Listed C_Mixed C_Weighted C_Rule C_BadNumber C_TooMany C_BadWish C_Unlike C_BadTable C_NoBuyers C_ShelfError) (c__law_mixture : Cal P w K mg base (L2.CX P w) 7 "_law_mixture" ["_law_told"] (sp__law_mixture C_Mixed C_NoBuyers C_BadNumber C_Unlike C_Weighted C_Rule C_Listed)) : FnOk P w K mg base CX0 8 f fd ["_law_told"] (sp__law_asked C_Weighted C_Rule C_Listed) := by
  refine F.ok sc__law_asked (fun vs H Q E h => ?_) (fun cdv A outer s H vs Q E hr h => ?_)
  · obtain ⟨L, us, ts, rfl, _⟩ := h
    rfl
  · obtain ⟨L, us, ts, rfl, hL, row, ul, m24, q⟩ := h
    obtain ⟨f__law_mixture, fd__law_mixture, G__law_mixture, m__law_mixture, k__law_mixture, b__law_mixture⟩ := c__law_mixture
    refine ⟨_, (pss_cons (ps_try_asM (out := fun _ _ _ _ => False) rfl rfl sc__law_asked.nd takes0
      (fun W pn xe tk _ => (pss_one (ps_expr (pe_callS G__law_mixture (hr.mono (by decide)) (by rfl) m__law_mixture k__law_mixture b__law_mixture (fun σ => passAt tk σ) (pa_cons (pv 0) pa_nil)))))
      (.bare (i := 1000) ⟨rfl, by decide, Or.inl T.g_NoBuyers⟩ (by show 2 ≤ 1000; decide) (fun a oe cls d pn hz hf => (pss_one (ps_ret (pe_tup (pa_cons pe_str pa_nil)))))
      (.cons (i := 1) ⟨rfl, by decide, Or.inl T.g_BadNumber⟩ rfl rfl (fun a oe cls d pn hz hf => (pss_one (ps_ret (pe_tup (pa_cons pe_str (pa_cons (pe_xf T.xf_BadNumber T.n_BadNumber_what hz hf (pv 1)) (pa_cons (pe_xf T.xf_BadNumber T.n_BadNumber_at hz hf (pv 1)) pa_nil)))))))
      (.cons (i := 1) ⟨rfl, by decide, Or.inl T.g_Unlike⟩ rfl rfl (fun a oe cls d pn hz hf => (pss_one (ps_ret (pe_tup (pa_cons pe_str (pa_cons (pe_xf T.xf_Unlike T.n_Unlike_at hz hf (pv 1)) pa_nil))))))
      .nil))))
      (pss_one (ps_ret (pe_tup (pa_cons pe_str pa_nil))))), ?_⟩
    have qd : ∀ d, dueM ts = d → ∀ H' t, Same H H' → H' t = some (.tup d.due) → Q (.ref t) H' := fun d e => e ▸ q
    refine ⟨_, rfl, L, us, ts, rfl, hL, row, ul, m24, fun e H' s => ?_, fun k e H' d s hd => ?_, fun k e H' d s hd => ?_, fun e H' p dx t0 m s hm hx ht => ?_⟩
    · exact ⟨true, T.exm_NoBuyers_NoBuyers, fun _ a0 na => ⟨(by show 1 ≤ sizeLine; decide), fun t nt => qd _ e _ t (s.trans (same_upd nt)) upd_same⟩, fun z => Bool.noConfusion z⟩
    · exact ⟨false, T.exm_BadNumber_NoBuyers, fun z => Bool.noConfusion z, fun _ => ⟨true, T.exm_BadNumber_BadNumber, fun _ a0 na => ⟨.ref a0, rfl, rfl, rfl, d, _, _, rfl, hd, by rfl, .ref a0, rfl, rfl, rfl, d, _, _, rfl, hd, by rfl, (by show 3 ≤ sizeLine; decide), fun t nt => qd _ e _ t (s.trans (same_upd nt)) upd_same⟩, fun z => Bool.noConfusion z⟩⟩
    · exact ⟨false, T.exm_Unlike_NoBuyers, fun z => Bool.noConfusion z, fun _ => ⟨false, T.exm_Unlike_BadNumber, fun z => Bool.noConfusion z, fun _ => ⟨true, T.exm_Unlike_Unlike, fun _ a0 na => ⟨.ref a0, rfl, rfl, rfl, d, _, _, rfl, hd, by rfl, (by show 2 ≤ sizeLine; decide), fun t nt => qd _ e _ t (s.trans (same_upd nt)) upd_same⟩, fun z => Bool.noConfusion z⟩⟩⟩
    · exact ⟨(by show 1 ≤ sizeLine; decide), fun t nt => qd _ e _ t (s.trans (same_upd nt)) upd_same⟩
def sp__law_classes (CW CR CL : Addr) : Sp := fun vs H Q _ => ∃ (L : Addr) (us : List Addr) (ts : List (Int × Nat × Nat)), vs = [.ref L] ∧ H L = some (.lst (us.map V.ref)) ∧ RowM CW CR CL H us ts ∧ us.length ≤ 4 ∧ (∀ w ∈ ts, w.2.1 ≤ 24) ∧ ∀ H' t, Same H H' → H' t = some (.lst (dueM ts).cls) → Q (.ref t) H' 
theorem ok__law_classes {f : Addr} {fd : FuncData} {C_Listed C_Mixed C_Weighted C_Rule C_BadNumber C_TooMany C_BadWish C_Unlike C_BadTable C_NoBuyers C_ShelfError : Addr} (F : Fun K "_law_classes" "_law_classes" s__law_classes f fd) (T : Txt K mg C_Listed C_Mixed C_Weighted C_Rule C_BadNumber C_TooMany C_BadWish C_Unlike C_BadTable C_NoBuyers C_ShelfError) (m_ValueError : mg "ValueError" = none) (m_isinstance : mg "isinstance" = none) (c__law_mixture : Cal P w K mg base (L2.CX P w) 7 "_law_mixture" ["_law_told"] (sp__law_mixture C_Mixed C_NoBuyers C_BadNumber C_Unlike C_Weighted C_Rule C_Listed)) : FnOk P w K mg base CX0 8 f fd ["_law_told"] (sp__law_classes C_Weighted C_Rule C_Listed) := by
  refine F.ok sc__law_classes (fun vs H Q E h => ?_) (fun cdv A outer s H vs Q E hr h => ?_)
  · obtain ⟨L, us, ts, rfl, _⟩ := h
    rfl
  · obtain ⟨L, us, ts, rfl, hL, row, ul, m24, q⟩ := h
    obtain ⟨f__law_mixture, fd__law_mixture, G__law_mixture, m__law_mixture, k__law_mixture, b__law_mixture⟩ := c__law_mixture
    refine ⟨_, (pss_cons (ps_try_as (i := 1) (Wout := fun _ _ _ _ => False) rfl rfl sc__law_classes.nd rfl rfl ⟨rfl, by decide, Or.inl T.g_ShelfError⟩ takes0
      (fun W pn xe tk _ => (pss_one (ps_expr (pe_callS G__law_mixture (hr.mono (by decide)) (by rfl) m__law_mixture k__law_mixture b__law_mixture (fun σ => passAt tk σ) (pa_cons (pv 0) pa_nil)))))
      (fun a oe cls d pn hz hf => (pss_cons (ps_set (i := 2) sc__law_classes.nd rfl (Or.inl rfl) (pe_lst (pa_cons (pe_callB (call_isY (K := K) hz hf) (by rfl) m_isinstance (by decide +kernel) (pa_cons (pv 1) (pa_cons (pe_glob (v := .ref C_NoBuyers) (by rfl) T.g_NoBuyers rfl) pa_nil))) (pa_cons (pe_callB (call_isY (K := K) hz hf) (by rfl) m_isinstance (by decide +kernel) (pa_cons (pv 1) (pa_cons (pe_glob (v := .ref C_BadNumber) (by rfl) T.g_BadNumber rfl) pa_nil))) (pa_cons (pe_callB (call_isY (K := K) hz hf) (by rfl) m_isinstance (by decide +kernel) (pa_cons (pv 1) (pa_cons (pe_glob (v := .ref C_Unlike) (by rfl) T.g_Unlike rfl) pa_nil))) (pa_cons (pe_callB (call_isY (K := K) hz hf) (by rfl) m_isinstance (by decide +kernel) (pa_cons (pv 1) (pa_cons (pe_glob (v := .ref C_BadWish) (by rfl) T.g_BadWish rfl) pa_nil))) pa_nil))))))
      (pss_one (ps_ret (pe_op op_cat (pv 2) (pe_lst (pa_cons (pe_callB (call_isY (K := K) hz hf) (by rfl) m_isinstance (by decide +kernel) (pa_cons (pv 1) (pa_cons (pe_glob (v := .ref C_BadTable) (by rfl) T.g_BadTable rfl) pa_nil))) (pa_cons (pe_callB (call_isY (K := K) hz hf) (by rfl) m_isinstance (by decide +kernel) (pa_cons (pv 1) (pa_cons (pe_glob (v := .ref C_TooMany) (by rfl) T.g_TooMany rfl) pa_nil))) (pa_cons (pe_callB (call_isY (K := K) hz hf) (by rfl) m_isinstance (by decide +kernel) (pa_cons (pv 1) (pa_cons (pe_bltn (v := .ty "ValueError") (by rfl) m_ValueError (by decide +kernel) rfl) pa_nil))) pa_nil))))))))))
      (pss_one (ps_ret (pe_lst pa_nil)))), ?_⟩
    have qd : ∀ d, dueM ts = d → ∀ H' t, Same H H' → H' t = some (.lst d.cls) → Q (.ref t) H' := fun d e => e ▸ q
    refine ⟨_, rfl, L, us, ts, rfl, hL, row, ul, m24, fun e H' s => ?_, fun k e H' d s hd => ?_, fun k e H' d s hd => ?_, fun e H' p dx t0 m s hm hx ht => ?_⟩
    · exact ⟨true, T.exm_NoBuyers_ShelfError, fun _ a0 na => ⟨.ref a0, rfl, C_NoBuyers, T.ec_NoBuyers, rfl, .inl rfl, .ref C_NoBuyers, .ref C_NoBuyers, true, rfl, fun _ r => r, T.kit_NoBuyers_NoBuyers, .ref a0, rfl, C_NoBuyers, T.ec_NoBuyers, rfl, .inl rfl, .ref C_BadNumber, .ref C_BadNumber, false, rfl, fun _ r => r, T.kit_NoBuyers_BadNumber, .ref a0, rfl, C_NoBuyers, T.ec_NoBuyers, rfl, .inl rfl, .ref C_Unlike, .ref C_Unlike, false, rfl, fun _ r => r, T.kit_NoBuyers_Unlike, .ref a0, rfl, C_NoBuyers, T.ec_NoBuyers, rfl, .inl rfl, .ref C_BadWish, .ref C_BadWish, false, rfl, fun _ r => r, T.kit_NoBuyers_BadWish, (by show 4 ≤ sizeLine; decide), fun p np => ⟨_, rfl, .ref a0, rfl, C_NoBuyers, T.ec_NoBuyers, rfl, .inl rfl, .ref C_BadTable, .ref C_BadTable, false, rfl, fun _ r => r, T.kit_NoBuyers_BadTable, .ref a0, rfl, C_NoBuyers, T.ec_NoBuyers, rfl, .inl rfl, .ref C_TooMany, .ref C_TooMany, false, rfl, fun _ r => r, T.kit_NoBuyers_TooMany, .ref a0, rfl, C_NoBuyers, T.ec_NoBuyers, rfl, .inl rfl, .ty "ValueError", .type "ValueError", true, rfl, fun _ r => r, T.kit_NoBuyers_ValueError, (by show 3 ≤ sizeLine; decide), fun p2 np2 => ⟨p, p2, _, _, rfl, rfl, same_upd np2 _ _ upd_same, upd_same, (by show 7 ≤ sizeLine; decide), fun t nt => qd _ e _ t (s.trans (((same_upd np).trans (same_upd np2)).trans (same_upd nt))) upd_same⟩⟩⟩, fun z => Bool.noConfusion z⟩
    · exact ⟨true, T.exm_BadNumber_ShelfError, fun _ a0 na => ⟨.ref a0, rfl, C_BadNumber, T.ec_BadNumber, rfl, .inr ⟨d, _, rfl, hd⟩, .ref C_NoBuyers, .ref C_NoBuyers, false, rfl, fun _ r => r, T.kit_BadNumber_NoBuyers, .ref a0, rfl, C_BadNumber, T.ec_BadNumber, rfl, .inr ⟨d, _, rfl, hd⟩, .ref C_BadNumber, .ref C_BadNumber, true, rfl, fun _ r => r, T.kit_BadNumber_BadNumber, .ref a0, rfl, C_BadNumber, T.ec_BadNumber, rfl, .inr ⟨d, _, rfl, hd⟩, .ref C_Unlike, .ref C_Unlike, false, rfl, fun _ r => r, T.kit_BadNumber_Unlike, .ref a0, rfl, C_BadNumber, T.ec_BadNumber, rfl, .inr ⟨d, _, rfl, hd⟩, .ref C_BadWish, .ref C_BadWish, false, rfl, fun _ r => r, T.kit_BadNumber_BadWish, (by show 4 ≤ sizeLine; decide), fun p np => ⟨_, rfl, .ref a0, rfl, C_BadNumber, T.ec_BadNumber, rfl, .inr ⟨d, _, rfl, (same_upd np _ _ hd)⟩, .ref C_BadTable, .ref C_BadTable, false, rfl, fun _ r => r, T.kit_BadNumber_BadTable, .ref a0, rfl, C_BadNumber, T.ec_BadNumber, rfl, .inr ⟨d, _, rfl, (same_upd np _ _ hd)⟩, .ref C_TooMany, .ref C_TooMany, false, rfl, fun _ r => r, T.kit_BadNumber_TooMany, .ref a0, rfl, C_BadNumber, T.ec_BadNumber, rfl, .inr ⟨d, _, rfl, (same_upd np _ _ hd)⟩, .ty "ValueError", .type "ValueError", true, rfl, fun _ r => r, T.kit_BadNumber_ValueError, (by show 3 ≤ sizeLine; decide), fun p2 np2 => ⟨p, p2, _, _, rfl, rfl, same_upd np2 _ _ upd_same, upd_same, (by show 7 ≤ sizeLine; decide), fun t nt => qd _ e _ t (s.trans (((same_upd np).trans (same_upd np2)).trans (same_upd nt))) upd_same⟩⟩⟩, fun z => Bool.noConfusion z⟩
    · exact ⟨true, T.exm_Unlike_ShelfError, fun _ a0 na => ⟨.ref a0, rfl, C_Unlike, T.ec_Unlike, rfl, .inr ⟨d, _, rfl, hd⟩, .ref C_NoBuyers, .ref C_NoBuyers, false, rfl, fun _ r => r, T.kit_Unlike_NoBuyers, .ref a0, rfl, C_Unlike, T.ec_Unlike, rfl, .inr ⟨d, _, rfl, hd⟩, .ref C_BadNumber, .ref C_BadNumber, false, rfl, fun _ r => r, T.kit_Unlike_BadNumber, .ref a0, rfl, C_Unlike, T.ec_Unlike, rfl, .inr ⟨d, _, rfl, hd⟩, .ref C_Unlike, .ref C_Unlike, true, rfl, fun _ r => r, T.kit_Unlike_Unlike, .ref a0, rfl, C_Unlike, T.ec_Unlike, rfl, .inr ⟨d, _, rfl, hd⟩, .ref C_BadWish, .ref C_BadWish, false, rfl, fun _ r => r, T.kit_Unlike_BadWish, (by show 4 ≤ sizeLine; decide), fun p np => ⟨_, rfl, .ref a0, rfl, C_Unlike, T.ec_Unlike, rfl, .inr ⟨d, _, rfl, (same_upd np _ _ hd)⟩, .ref C_BadTable, .ref C_BadTable, false, rfl, fun _ r => r, T.kit_Unlike_BadTable, .ref a0, rfl, C_Unlike, T.ec_Unlike, rfl, .inr ⟨d, _, rfl, (same_upd np _ _ hd)⟩, .ref C_TooMany, .ref C_TooMany, false, rfl, fun _ r => r, T.kit_Unlike_TooMany, .ref a0, rfl, C_Unlike, T.ec_Unlike, rfl, .inr ⟨d, _, rfl, (same_upd np _ _ hd)⟩, .ty "ValueError", .type "ValueError", true, rfl, fun _ r => r, T.kit_Unlike_ValueError, (by show 3 ≤ sizeLine; decide), fun p2 np2 => ⟨p, p2, _, _, rfl, rfl, same_upd np2 _ _ upd_same, upd_same, (by show 7 ≤ sizeLine; decide), fun t nt => qd _ e _ t (s.trans (((same_upd np).trans (same_upd np2)).trans (same_upd nt))) upd_same⟩⟩⟩, fun z => Bool.noConfusion z⟩
    · exact ⟨Nat.zero_le _, fun t nt => qd _ e _ t (s.trans (same_upd nt)) upd_same⟩
def sp__law_like : Sp := fun vs H Q _ => ∃ (a b : Addr) (xs : List V), vs = [.ref a, .ref b] ∧ H a = some (.tup xs) ∧ H b = some (.tup xs) ∧ xs.length ≤ 10 ∧ (∀ x ∈ xs, (∃ s, x = .str s) ∨ ∃ n, x = .int n) ∧ Q (.bl true) H
theorem ok__law_like {f : Addr} {fd : FuncData} {C_Listed C_Mixed C_Weighted C_Rule C_BadNumber C_TooMany C_BadWish C_Unlike C_BadTable C_NoBuyers C_ShelfError : Addr} (F : Fun K "_law_like" "_law_like" s__law_like f fd) (T : Txt K mg C_Listed C_Mixed C_Weighted C_Rule C_BadNumber C_TooMany C_BadWish C_Unlike C_BadTable C_NoBuyers C_ShelfError) (m_isinstance : mg "isinstance" = none) (m_len : mg "len" = none) (m_range : mg "range" = none) (m_str : mg "str" = none) (c__law_is_int : Cal P w K mg base CX0 1 "_law_is_int" ["_law_x"] sp__law_is_int) : FnOk P w K mg base CX0 2 f fd ["_law_told", "_law_due_here"] sp__law_like := by
  refine F.ok sc__law_like (fun vs H Q E h => ?_) (fun cdv A outer s H vs Q E hr h => ?_)
  · obtain ⟨a, b, xs, rfl, _⟩ := h
    rfl
  · obtain ⟨a, b, xs, rfl, ha, hb, xl, kind, q⟩ := h
    obtain ⟨f__law_is_int, fd__law_is_int, G__law_is_int, m__law_is_int, k__law_is_int, b__law_is_int⟩ := c__law_is_int
    refine ⟨_, (pss_cons (ps_if (pt_cmpR op_ne (pe_callB call_len_seq (by rfl) m_len (by decide +kernel) (pa_cons (pv 0) pa_nil)) (pe_callB call_len_seq (by rfl) m_len (by decide +kernel) (pa_cons (pv 1) pa_nil)) (nomark _)) (pss_one (ps_ret pe_bl)) pss_nil)
      (pss_cons (ps_for PassesOwn.never rfl (pi_range1 (by rfl) m_range (pa_cons (pe_callB call_len_seq (by rfl) m_len (by decide +kernel) (pa_cons (pv 1) pa_nil)) pa_nil)) (pg_name (i := 2) sc__law_like.nd rfl (Or.inl rfl))
      (pss_one (ps_if (pt_val (pe_callB call_isi (by rfl) m_isinstance (by decide +kernel) (pa_cons (pe_ix ix_tup (pv 1) (pv 2) (fun _ _ => rfl)) (pa_cons (pe_bltn (v := .ty "str") (by rfl) m_str (by decide +kernel) rfl) pa_nil)))) (pss_one (ps_if (PW.pt (pw_or (pt_not (pt_val (pe_callB call_isi (by rfl) m_isinstance (by decide +kernel) (pa_cons (pe_ix ix_tup (pv 0) (pv 2) (fun _ _ => rfl)) (pa_cons (pe_bltn (v := .ty "str") (by rfl) m_str (by decide +kernel) rfl) pa_nil))))) (pw_or1 (pt_cmpR op_ne (pe_ix ix_tup (pv 0) (pv 2) (fun _ _ => rfl)) (pe_ix ix_tup (pv 1) (pv 2) (fun _ _ => rfl)) (nomark _))))) (pss_one (ps_ret pe_bl)) pss_nil)) (pss_one (ps_if (PW.pt (pw_or (pt_not (pt_val (pe_call G__law_is_int (hr.mono (by decide)) (by rfl) m__law_is_int k__law_is_int b__law_is_int .nil pass0 (pa_cons (pe_ix ix_tup (pv 0) (pv 2) (fun _ _ => rfl)) pa_nil)))) (pw_or1 (pt_cmpR op_ne (pe_ix ix_tup (pv 0) (pv 2) (fun _ _ => rfl)) (pe_ix ix_tup (pv 1) (pv 2) (fun _ _ => rfl)) (nomark _))))) (pss_one (ps_ret pe_bl)) pss_nil)))))
      (pss_one (ps_ret pe_bl)))), ?_⟩
    refine ⟨_, rfl, a, _, rfl, .inr (tup_t ha), _, rfl, b, _, rfl, .inr (tup_t hb), rfl, _, rfl, iteNS rfl ?_⟩
    refine ⟨_, rfl, b, _, rfl, .inr (tup_t hb), _, rfl, by omega, by omega, ?_⟩
    rw [Int.toNat_natCast]
    refine for_range (lo := 0) (n := xs.length) (fun i σ H2 => ∃ (y : Option V), σ = [some (.ref a), some (.ref b), y] ∧ H2 = H) ⟨none, rfl, rfl⟩ ?_ ?_
    · rintro i σ H2 hi ⟨y, rfl, rfl⟩
      have hin : xs[i]? = some xs[i] := List.getElem?_eq_getElem hi
      rcases kind _ (List.mem_of_getElem? hin) with ⟨s, e⟩ | ⟨n, e⟩
      · rw [e] at hin
        refine ⟨.ref b, rfl, .int (0 + (i : Int)), rfl, b, _, _, _, rfl, rfl, tup_t hb, at_of (Int.zero_add _) hin, .str s, .ty "str", _, _, true, rfl, .ty "str", .base (.str _), kit_ty kSt, true, rfl, iteT ?_⟩
        refine ⟨.ref a, rfl, .int (0 + (i : Int)), rfl, a, _, _, _, rfl, rfl, tup_t ha, at_of (Int.zero_add _) hin, .str s, .ty "str", _, _, true, rfl, .ty "str", .base (.str _), kit_ty kSt, true, rfl, iteF ?_⟩
        exact ⟨.ref a, rfl, .int (0 + (i : Int)), rfl, a, _, _, _, rfl, rfl, tup_t ha, at_of (Int.zero_add _) hin, .ref b, rfl, .int (0 + (i : Int)), rfl, b, _, _, _, rfl, rfl, tup_t hb, at_of (Int.zero_add _) hin, rfl, _, rfl, iteNS rfl ⟨_, rfl, rfl⟩⟩
      · rw [e] at hin
        refine ⟨.ref b, rfl, .int (0 + (i : Int)), rfl, b, _, _, _, rfl, rfl, tup_t hb, at_of (Int.zero_add _) hin, .int n, .ty "str", _, _, false, rfl, .ty "str", .base (.int _), kit_ty kIS, false, rfl, iteF ?_⟩
        refine ⟨.ref a, rfl, .int (0 + (i : Int)), rfl, a, _, _, _, rfl, rfl, tup_t ha, at_of (Int.zero_add _) hin, n, rfl, true, rfl, iteF ?_⟩
        exact ⟨.ref a, rfl, .int (0 + (i : Int)), rfl, a, _, _, _, rfl, rfl, tup_t ha, at_of (Int.zero_add _) hin, .ref b, rfl, .int (0 + (i : Int)), rfl, b, _, _, _, rfl, rfl, tup_t hb, at_of (Int.zero_add _) hin, rfl, _, rfl, iteNS rfl ⟨_, rfl, rfl⟩⟩
    · rintro σ H2 ⟨y, rfl, rfl⟩
      exact q
def sp__law_kept (CW CR CL : Addr) : Sp := fun vs H Q _ => ∃ (t L : Addr) (zs us : List Addr) (ts : List (Int × Nat × Nat)), vs = [.ref t, .ref L] ∧ H t = some (.tup (zs.map V.ref)) ∧ RowM CW CR CL H zs ts ∧ H L = some (.lst (us.map V.ref)) ∧ RowN H us ts ∧ us.length ≤ 900 ∧ (∀ w ∈ ts, w.2.2 ≤ 2) ∧ Q (.bl true) H
theorem ok__law_kept {f : Addr} {fd : FuncData} {C_Listed C_Mixed C_Weighted C_Rule C_BadNumber C_TooMany C_BadWish C_Unlike C_BadTable C_NoBuyers C_ShelfError : Addr} (F : Fun K "_law_kept" "_law_kept" s__law_kept f fd) (T : Txt K mg C_Listed C_Mixed C_Weighted C_Rule C_BadNumber C_TooMany C_BadWish C_Unlike C_BadTable C_NoBuyers C_ShelfError) (m_isinstance : mg "isinstance" = none) (m_len : mg "len" = none) (m_range : mg "range" = none) (m_tuple : mg "tuple" = none) (c__law_is_int : Cal P w K mg base CX0 1 "_law_is_int" ["_law_x"] sp__law_is_int) : FnOk P w K mg base CX0 2 f fd ["_law_told", "_law_numbers_here"] (sp__law_kept C_Weighted C_Rule C_Listed) := by
  refine F.ok sc__law_kept (fun vs H Q E h => ?_) (fun cdv A outer s H vs Q E hr h => ?_)
  · obtain ⟨t, L, zs, us, ts, rfl, _⟩ := h
    rfl
  · obtain ⟨t, L, zs, us, ts, rfl, ht, rowZ, hL, row, ul, k2, q⟩ := h
    obtain ⟨f__law_is_int, fd__law_is_int, G__law_is_int, m__law_is_int, k__law_is_int, b__law_is_int⟩ := c__law_is_int
    refine ⟨_, (pss_cons (ps_if (PW.pt (pw_or (pt_not (pt_val (pe_callB call_isi (by rfl) m_isinstance (by decide +kernel) (pa_cons (pv 0) (pa_cons (pe_bltn (v := .ty "tuple") (by rfl) m_tuple (by decide +kernel) rfl) pa_nil))))) (pw_or1 (pt_cmpR op_ne (pe_callB call_len_seq (by rfl) m_len (by decide +kernel) (pa_cons (pv 0) pa_nil)) (pe_callB call_len_seq (by rfl) m_len (by decide +kernel) (pa_cons (pv 1) pa_nil)) (nomark _))))) (pss_one (ps_ret pe_bl)) pss_nil)
      (pss_cons (ps_for PassesOwn.never rfl (pi_range1 (by rfl) m_range (pa_cons (pe_callB call_len_seq (by rfl) m_len (by decide +kernel) (pa_cons (pv 1) pa_nil)) pa_nil)) (pg_name (i := 2) sc__law_kept.nd rfl (Or.inl rfl))
      (pss_cons (ps_set (i := 3) sc__law_kept.nd rfl (Or.inl rfl) (pe_ix ix_tup (pv 0) (pv 2) (fun _ _ => rfl)))
      (pss_cons (ps_if (PW.pt (pw_or (pt_not (pt_val (pe_callB call_isi (by rfl) m_isinstance (by decide +kernel) (pa_cons (pv 3) (pa_cons (pe_bltn (v := .ty "tuple") (by rfl) m_tuple (by decide +kernel) rfl) pa_nil))))) (pw_or (pt_cmpR op_ne (pe_callB call_len_seq (by rfl) m_len (by decide +kernel) (pa_cons (pv 3) pa_nil)) pe_int (nomark _)) (pw_or (pt_not (pt_val (pe_call G__law_is_int (hr.mono (by decide)) (by rfl) m__law_is_int k__law_is_int b__law_is_int .nil pass0 (pa_cons (pe_ix ix_tup (pv 3) pe_int (fun _ _ => rfl)) pa_nil)))) (pw_or1 (pt_cmpR op_ne (pe_ix ix_tup (pv 3) pe_int (fun _ _ => rfl)) (pe_ix ix_tup (pe_ix ix_list (pv 1) (pv 2) (fun _ _ => rfl)) pe_int (fun _ _ => rfl)) (nomark _))))))) (pss_one (ps_ret pe_bl)) pss_nil)
      (pss_cons (ps_if (PW.pt (pw_or (pt_not (pt_val (pe_callB call_isi (by rfl) m_isinstance (by decide +kernel) (pa_cons (pe_ix ix_tup (pv 3) pe_int (fun _ _ => rfl)) (pa_cons (pe_glob (v := .ref C_Rule) (by rfl) T.g_Rule rfl) pa_nil))))) (pw_or1 (pt_cmpR op_ne (pe_callB call_isi (by rfl) m_isinstance (by decide +kernel) (pa_cons (pe_ix ix_tup (pv 3) pe_int (fun _ _ => rfl)) (pa_cons (pe_glob (v := .ref C_Weighted) (by rfl) T.g_Weighted rfl) pa_nil))) (pe_cmpR op_eq (pe_ix ix_tup (pe_ix ix_list (pv 1) (pv 2) (fun _ _ => rfl)) pe_int (fun _ _ => rfl)) pe_int (nomark _)) (nomark _))))) (pss_one (ps_ret pe_bl)) pss_nil)
      (pss_one (ps_if (PW.pt (pw_or (pt_cmpR op_ne (pe_callB call_isi (by rfl) m_isinstance (by decide +kernel) (pa_cons (pe_ix ix_tup (pv 3) pe_int (fun _ _ => rfl)) (pa_cons (pe_glob (v := .ref C_Listed) (by rfl) T.g_Listed rfl) pa_nil))) (pe_cmpR op_eq (pe_ix ix_tup (pe_ix ix_list (pv 1) (pv 2) (fun _ _ => rfl)) pe_int (fun _ _ => rfl)) pe_int (nomark _)) (nomark _)) (pw_or1 (pt_cmpR op_ne (pe_fld (pe_ix ix_tup (pv 3) pe_int (fun _ _ => rfl)) rfl) (pe_ix ix_tup (pe_ix ix_list (pv 1) (pv 2) (fun _ _ => rfl)) pe_int (fun _ _ => rfl)) (nomark _))))) (pss_one (ps_ret pe_bl)) pss_nil))))))
      (pss_one (ps_ret pe_bl)))), ?_⟩
    have rl := row.1
    have rz := rowZ.1
    refine ⟨_, rfl, .ref t, .ty "tuple", _, _, true, rfl, .ty "tuple", .base (.tup ht), kit_ty kT, true, rfl, iteF ?_⟩
    refine ⟨_, rfl, t, _, rfl, .inr (tup_t ht), _, rfl, L, _, rfl, .inl (lst_l hL), rfl, _, rfl, iteNS (by rw [List.length_map, List.length_map]; exact congrArg V.int (by omega)) ?_⟩
    refine ⟨_, rfl, L, _, rfl, .inl (lst_l hL), _, rfl, ?_⟩
    rw [List.length_map]
    refine ⟨by omega, by omega, ?_⟩
    rw [Int.toNat_natCast]
    refine for_range (lo := 0) (n := us.length) (fun i σ H2 => ∃ y1 y2 : Option V, σ = [some (.ref t), some (.ref L), y1, y2] ∧ H2 = H) ⟨none, none, rfl, rfl⟩ ?_ ?_
    · rintro i σ H2 hi ⟨y1, y2, rfl, e2⟩
      subst e2
      have h1 : us[i]? = some us[i] := List.getElem?_eq_getElem hi
      have h2 : ts[i]? = some ts[i] := List.getElem?_eq_getElem (by omega)
      have v1 : (us.map V.ref)[i]? = some (.ref us[i]) := by rw [List.getElem?_map, h1]; rfl
      have z1 : zs[i]? = some zs[i] := List.getElem?_eq_getElem (by omega)
      have v2 : (zs.map V.ref)[i]? = some (.ref zs[i]) := by rw [List.getElem?_map, z1]; rfl
      have hu := row.2 i _ _ h1 h2
      obtain ⟨r, hz, dx, fs, hr, lk⟩ := rowZ.2 i _ _ z1 h2
      have kk := k2 _ (List.mem_of_getElem? h2)
      generalize ts[i] = w at hu hz hr lk kk
      obtain ⟨b, n, k⟩ := w
      have hu : H2 us[i] = some (.tup [.int b, .int (n : Int), .int (k : Int)]) := hu
      have hz : H2 zs[i] = some (.tup [.int b, .ref r]) := hz
      have hr : H2 r = some (.ins (clsOf C_Weighted C_Rule C_Listed k) dx fs) := hr
      have lk : fs.lookup ("many" : Str) = some (.int (n : Int)) := lk
      refine ⟨_, rfl, _, rfl, t, _, _, _, rfl, rfl, tup_t ht, at_of (Int.zero_add _) v2, ?_⟩
      refine ⟨_, rfl, .ref zs[i], .ty "tuple", _, _, true, rfl, .ty "tuple", .base (.tup hz), kit_ty kT, true, rfl, iteF ?_⟩
      refine ⟨_, rfl, zs[i], _, rfl, .inr (tup_t hz), rfl, _, rfl, iteNS rfl ?_⟩
      refine ⟨_, rfl, zs[i], _, _, _, rfl, rfl, tup_t hz, atI_nat (j := 0) rfl, _, rfl, true, rfl, iteF ?_⟩
      refine ⟨_, rfl, zs[i], _, _, _, rfl, rfl, tup_t hz, atI_nat (j := 0) rfl, _, rfl, _, rfl, L, _, _, _, rfl, rfl, lst_l hL, at_of (Int.zero_add _) v1, us[i], _, _, _, rfl, rfl, tup_t hu, atI_nat (j := 0) rfl, rfl, _, rfl, iteNS rfl ?_⟩
      rcases (by show k = 0 ∨ k = 1 ∨ k = 2; have kk : k ≤ 2 := kk; omega : k = 0 ∨ k = 1 ∨ k = 2) with rfl | rfl | rfl
      · have hr : H2 r = some (.ins C_Weighted dx fs) := hr
        refine ⟨_, rfl, zs[i], _, _, _, rfl, rfl, tup_t hz, atI_nat (j := 1) rfl, .ref r, .ref C_Rule, .ref C_Weighted, .ref C_Rule, true, rfl, .own C_Rule, .base (.ins hr T.cl_Weighted T.ha_Weighted T.hnc T.htk T.hm_Weighted), T.kit_Weighted_Rule, true, rfl, iteF ?_⟩
        refine ⟨_, rfl, zs[i], _, _, _, rfl, rfl, tup_t hz, atI_nat (j := 1) rfl, .ref r, .ref C_Weighted, .ref C_Weighted, .ref C_Weighted, true, rfl, .own C_Weighted, .base (.ins hr T.cl_Weighted T.ha_Weighted T.hnc T.htk T.hm_Weighted), T.kit_Weighted_Weighted, _, rfl, _, rfl, L, _, _, _, rfl, rfl, lst_l hL, at_of (Int.zero_add _) v1, us[i], _, _, _, rfl, rfl, tup_t hu, atI_nat (j := 2) rfl, rfl, rfl, _, rfl, iteNS (congrArg V.bl (decide_eq_true rfl).symm) ?_⟩
        refine ⟨_, rfl, zs[i], _, _, _, rfl, rfl, tup_t hz, atI_nat (j := 1) rfl, .ref r, .ref C_Listed, .ref C_Weighted, .ref C_Listed, false, rfl, .own C_Listed, .base (.ins hr T.cl_Weighted T.ha_Weighted T.hnc T.htk T.hm_Weighted), T.kit_Weighted_Listed, _, rfl, _, rfl, L, _, _, _, rfl, rfl, lst_l hL, at_of (Int.zero_add _) v1, us[i], _, _, _, rfl, rfl, tup_t hu, atI_nat (j := 2) rfl, rfl, rfl, _, rfl, iteNS (congrArg V.bl (decide_eq_false (fun z => by have := V.int.inj z; omega)).symm) ?_⟩
        exact ⟨_, rfl, zs[i], _, _, _, rfl, rfl, tup_t hz, atI_nat (j := 1) rfl, r, C_Weighted, dx, fs, _, rfl, hr, T.cl_Weighted, T.n_Weighted_many, lk, _, rfl, _, rfl, L, _, _, _, rfl, rfl, lst_l hL, at_of (Int.zero_add _) v1, us[i], _, _, _, rfl, rfl, tup_t hu, atI_nat (j := 1) rfl, rfl, _, rfl, iteNS rfl ⟨_, _, rfl, rfl⟩⟩
      · have hr : H2 r = some (.ins C_Rule dx fs) := hr
        refine ⟨_, rfl, zs[i], _, _, _, rfl, rfl, tup_t hz, atI_nat (j := 1) rfl, .ref r, .ref C_Rule, .ref C_Rule, .ref C_Rule, true, rfl, .own C_Rule, .base (.ins hr T.cl_Rule T.ha_Rule T.hnc T.htk T.hm_Rule), T.kit_Rule_Rule, true, rfl, iteF ?_⟩
        refine ⟨_, rfl, zs[i], _, _, _, rfl, rfl, tup_t hz, atI_nat (j := 1) rfl, .ref r, .ref C_Weighted, .ref C_Rule, .ref C_Weighted, false, rfl, .own C_Weighted, .base (.ins hr T.cl_Rule T.ha_Rule T.hnc T.htk T.hm_Rule), T.kit_Rule_Weighted, _, rfl, _, rfl, L, _, _, _, rfl, rfl, lst_l hL, at_of (Int.zero_add _) v1, us[i], _, _, _, rfl, rfl, tup_t hu, atI_nat (j := 2) rfl, rfl, rfl, _, rfl, iteNS (congrArg V.bl (decide_eq_false (fun z => by have := V.int.inj z; omega)).symm) ?_⟩
        refine ⟨_, rfl, zs[i], _, _, _, rfl, rfl, tup_t hz, atI_nat (j := 1) rfl, .ref r, .ref C_Listed, .ref C_Rule, .ref C_Listed, false, rfl, .own C_Listed, .base (.ins hr T.cl_Rule T.ha_Rule T.hnc T.htk T.hm_Rule), T.kit_Rule_Listed, _, rfl, _, rfl, L, _, _, _, rfl, rfl, lst_l hL, at_of (Int.zero_add _) v1, us[i], _, _, _, rfl, rfl, tup_t hu, atI_nat (j := 2) rfl, rfl, rfl, _, rfl, iteNS (congrArg V.bl (decide_eq_false (fun z => by have := V.int.inj z; omega)).symm) ?_⟩
        exact ⟨_, rfl, zs[i], _, _, _, rfl, rfl, tup_t hz, atI_nat (j := 1) rfl, r, C_Rule, dx, fs, _, rfl, hr, T.cl_Rule, T.n_Rule_many, lk, _, rfl, _, rfl, L, _, _, _, rfl, rfl, lst_l hL, at_of (Int.zero_add _) v1, us[i], _, _, _, rfl, rfl, tup_t hu, atI_nat (j := 1) rfl, rfl, _, rfl, iteNS rfl ⟨_, _, rfl, rfl⟩⟩
      · have hr : H2 r = some (.ins C_Listed dx fs) := hr
        refine ⟨_, rfl, zs[i], _, _, _, rfl, rfl, tup_t hz, atI_nat (j := 1) rfl, .ref r, .ref C_Rule, .ref C_Listed, .ref C_Rule, true, rfl, .own C_Rule, .base (.ins hr T.cl_Listed T.ha_Listed T.hnc T.htk T.hm_Listed), T.kit_Listed_Rule, true, rfl, iteF ?_⟩
        refine ⟨_, rfl, zs[i], _, _, _, rfl, rfl, tup_t hz, atI_nat (j := 1) rfl, .ref r, .ref C_Weighted, .ref C_Listed, .ref C_Weighted, false, rfl, .own C_Weighted, .base (.ins hr T.cl_Listed T.ha_Listed T.hnc T.htk T.hm_Listed), T.kit_Listed_Weighted, _, rfl, _, rfl, L, _, _, _, rfl, rfl, lst_l hL, at_of (Int.zero_add _) v1, us[i], _, _, _, rfl, rfl, tup_t hu, atI_nat (j := 2) rfl, rfl, rfl, _, rfl, iteNS (congrArg V.bl (decide_eq_false (fun z => by have := V.int.inj z; omega)).symm) ?_⟩
        refine ⟨_, rfl, zs[i], _, _, _, rfl, rfl, tup_t hz, atI_nat (j := 1) rfl, .ref r, .ref C_Listed, .ref C_Listed, .ref C_Listed, true, rfl, .own C_Listed, .base (.ins hr T.cl_Listed T.ha_Listed T.hnc T.htk T.hm_Listed), T.kit_Listed_Listed, _, rfl, _, rfl, L, _, _, _, rfl, rfl, lst_l hL, at_of (Int.zero_add _) v1, us[i], _, _, _, rfl, rfl, tup_t hu, atI_nat (j := 2) rfl, rfl, rfl, _, rfl, iteNS (congrArg V.bl (decide_eq_true rfl).symm) ?_⟩
        exact ⟨_, rfl, zs[i], _, _, _, rfl, rfl, tup_t hz, atI_nat (j := 1) rfl, r, C_Listed, dx, fs, _, rfl, hr, T.cl_Listed, T.n_Listed_many, lk, _, rfl, _, rfl, L, _, _, _, rfl, rfl, lst_l hL, at_of (Int.zero_add _) v1, us[i], _, _, _, rfl, rfl, tup_t hu, atI_nat (j := 1) rfl, rfl, _, rfl, iteNS rfl ⟨_, _, rfl, rfl⟩⟩
    · rintro σ H2 ⟨y1, y2, rfl, rfl⟩
      exact q
def sp__law_numbers (K : PySem.W.Frag) : Sp := fun vs H Q _ => ∃ (d b : Addr) (x0 x1 x2 x3 x4 x5 x6 x7 x8 x9 x10 x11 x12 x13 x14 x15 x16 : Int) (bs : List Int) (n c : Nat), vs = [.ref d, .ref b] ∧ H d = some (.lst ([x0, x1, x2, x3, x4, x5, x6, x7, x8, x9, x10, x11, x12, x13, x14, x15, x16].map V.int)) ∧ x0 = (n : Int) ∧ n ≤ 4 ∧ x2 = (c : Int) ∧ c ≤ 24 ∧ 0 ≤ x4 ∧ x4 < 3 ∧ (0 ≤ x5 ∧ x5 < 4) ∧ (0 ≤ x6 ∧ x6 < 3) ∧ (0 ≤ x7 ∧ x7 < 3) ∧ (0 ≤ x8 ∧ x8 < 4) ∧ (0 ≤ x9 ∧ x9 < 3) ∧ (0 ≤ x10 ∧ x10 < 3) ∧ (0 ≤ x11 ∧ x11 < 4) ∧ (0 ≤ x12 ∧ x12 < 3) ∧ (0 ≤ x13 ∧ x13 < 3) ∧ (0 ≤ x14 ∧ x14 < 4) ∧ (0 ≤ x15 ∧ x15 < 3) ∧ (0 ≤ x16 ∧ x16 < 3) ∧ H b = some (.lst (bs.map V.int)) ∧ bs.length = 4 ∧
  ∀ H' N us ts, Same H H' → H' N = some (.lst (us.map V.ref)) → RowN H' us ts → ts.length = n → (∀ w ∈ ts, w.2.1 ≤ 24 ∧ w.2.2 ≤ 2) → Q (.ref N) H' 
theorem ok__law_numbers {f : Addr} {fd : FuncData} {C_Listed C_Mixed C_Weighted C_Rule C_BadNumber C_TooMany C_BadWish C_Unlike C_BadTable C_NoBuyers C_ShelfError : Addr} (F : Fun K "_law_numbers" "_law_numbers" s__law_numbers f fd) (T : Txt K mg C_Listed C_Mixed C_Weighted C_Rule C_BadNumber C_TooMany C_BadWish C_Unlike C_BadTable C_NoBuyers C_ShelfError) (m_int : mg "int" = none) (m_range : mg "range" = none) : FnOk P w K mg base CX0 1 f fd ["_law_drawn", "_law_buyers"] (sp__law_numbers K) := by
  refine F.ok sc__law_numbers (fun vs H Q E h => ?_) (fun cdv A outer s H vs Q E hr h => ?_)
  · obtain ⟨d, b, x0, x1, x2, x3, x4, x5, x6, x7, x8, x9, x10, x11, x12, x13, x14, x15, x16, bs, n, c, rfl, _⟩ := h
    rfl
  · obtain ⟨d, b, x0, x1, x2, x3, x4, x5, x6, x7, x8, x9, x10, x11, x12, x13, x14, x15, x16, bs, n, c, rfl, hd, e0, n4, e2, c24, a0, a1, ⟨p5, q5⟩, ⟨p6, q6⟩, ⟨p7, q7⟩, ⟨p8, q8⟩, ⟨p9, q9⟩, ⟨p10, q10⟩, ⟨p11, q11⟩, ⟨p12, q12⟩, ⟨p13, q13⟩, ⟨p14, q14⟩, ⟨p15, q15⟩, ⟨p16, q16⟩, hb, lbs, q⟩ := h
    refine ⟨_, (pss_cons (ps_set (i := 2) sc__law_numbers.nd rfl (Or.inl rfl) (pe_lst pa_nil))
      (pss_cons (ps_set (i := 3) sc__law_numbers.nd rfl (Or.inl rfl) (pe_ix ix_list (pv 0) pe_int (fun _ _ => rfl)))
      (pss_cons (ps_for PassesOwn.never rfl (pi_range1 (by rfl) m_range (pa_cons (pe_ix ix_list (pv 0) pe_int (fun _ _ => rfl)) pa_nil)) (pg_name (i := 4) sc__law_numbers.nd rfl (Or.inl rfl))
      (pss_cons (ps_set (i := 5) sc__law_numbers.nd rfl (Or.inl rfl) (pe_slice sl_list (pv 0) (po_some (pe_op op_add pe_int (pe_op op_mul pe_int (pv 4)))) (po_some (pe_op op_add pe_int (pe_op op_mul pe_int (pv 4))))))
      (pss_cons (ps_set (i := 6) sc__law_numbers.nd rfl (Or.inl rfl) (pe_op op_add (pv 3) pe_int))
      (Evl.pss_cut (ps_if (PW.pt (pw_or (PW.pt (pw_and (pt_cmpR op_gt (pe_ix ix_list (pv 5) pe_int (fun _ _ => rfl)) pe_int (nomark _)) (pw_and1 (pt_cmpR op_gt (pv 3) pe_int (nomark _))))) (pw_or1 (pt_cmpR op_eq (pv 3) pe_int (nomark _))))) (pss_one (ps_set (i := 6) sc__law_numbers.nd rfl (Or.inl rfl) (pe_op op_sub (pv 3) pe_int))) pss_nil)
      (pss_one (ps_if (pt_cmpR op_eq (pe_ix ix_list (pv 0) pe_int (fun _ _ => rfl)) pe_int (nomark _)) (pss_one (ps_expr (pe_bm PySem.F.plainAttrs_list PySem.F.slot_list_append PySem.F.type_list_append mt_append (pv 2) (pa_cons (pe_tup (pa_cons (pe_ix ix_list (pe_lst (pa_cons (pe_ix ix_list (pv 1) (pv 4) (fun _ _ => rfl)) (pa_cons (pe_ix ix_list (pv 1) (pv 4) (fun _ _ => rfl)) (pa_cons pe_int (pa_cons (pe_un un_neg (pe_ix ix_list (pv 1) (pv 4) (fun _ _ => rfl))) pa_nil))))) (pe_ix ix_list (pv 5) pe_int (fun _ _ => rfl)) (fun _ _ => rfl)) (pa_cons (pe_ix ix_list (pv 5) pe_int (fun _ _ => rfl)) (pa_cons (pe_ix ix_list (pv 5) pe_int (fun _ _ => rfl)) pa_nil)))) pa_nil)))) (pss_one (ps_if (PW.pt (pw_and (pt_cmpR op_eq (pe_ix ix_list (pv 0) pe_int (fun _ _ => rfl)) pe_int (nomark _)) (pw_and1 (pt_cmpR op_eq (pv 4) (pe_op op_mod (pe_callTy call_int1 (by rfl) m_int (by decide +kernel) (pa_cons (pe_ix ix_list (pv 0) pe_int (fun _ _ => rfl)) pa_nil)) (pe_ix ix_list (pv 0) pe_int (fun _ _ => rfl))) (nomark _))))) (pss_one (ps_expr (pe_bm PySem.F.plainAttrs_list PySem.F.slot_list_append PySem.F.type_list_append mt_append (pv 2) (pa_cons (pe_tup (pa_cons (pe_ix ix_list (pe_lst (pa_cons pe_int (pa_cons (pe_un un_neg (pe_ix ix_list (pv 1) (pv 4) (fun _ _ => rfl))) (pa_cons (pe_ix ix_list (pv 1) (pv 4) (fun _ _ => rfl)) pa_nil)))) (pe_ix ix_list (pv 0) pe_int (fun _ _ => rfl)) (fun _ _ => rfl)) (pa_cons (pe_ix ix_list (pe_lst (pa_cons (pv 3) (pa_cons (pv 3) (pa_cons (pv 6) pa_nil)))) (pe_ix ix_list (pv 0) pe_int (fun _ _ => rfl)) (fun _ _ => rfl)) (pa_cons (pe_ix ix_list (pv 5) pe_int (fun _ _ => rfl)) pa_nil)))) pa_nil)))) (pss_one (ps_expr (pe_bm PySem.F.plainAttrs_list PySem.F.slot_list_append PySem.F.type_list_append mt_append (pv 2) (pa_cons (pe_tup (pa_cons (pe_ix ix_list (pv 1) (pv 4) (fun _ _ => rfl)) (pa_cons (pv 3) (pa_cons (pe_ix ix_list (pv 5) pe_int (fun _ _ => rfl)) pa_nil)))) pa_nil))))))))))))
      (pss_one (ps_ret (pv 2)))))), ?_⟩
    subst e0 e2
    refine ⟨Nat.zero_le _, fun o no => ?_⟩
    have so := same_upd (o := .lst []) no
    have ho : upd H o (.lst []) o = some (.lst (([] : List Addr).map V.ref)) := upd_same
    generalize upd H o (.lst []) = H0 at so ho ⊢
    refine ⟨.ref d, rfl, d, _, _, _, rfl, rfl, lst_l (so _ _ hd), atI_nat (j := 2) rfl, ?_⟩
    refine ⟨.ref d, rfl, d, _, _, _, rfl, rfl, lst_l (so _ _ hd), atI_nat (j := 0) rfl, _, rfl, by omega, by omega, ?_⟩
    rw [Int.toNat_natCast]
    refine for_range (lo := 0) (n := n) (fun i σ H2 => ∃ (us : List Addr) (ts : List (Int × Nat × Nat)) (y1 y2 y3 : Option V), σ = [some (.ref d), some (.ref b), some (.ref o), some (.int (c : Int)), y1, y2, y3] ∧ Same H H2 ∧ H2 o = some (.lst (us.map V.ref)) ∧ us.length = i ∧ RowN H2 us ts ∧ ∀ w ∈ ts, w.2.1 ≤ 24 ∧ w.2.2 ≤ 2) ⟨[], [], none, none, none, rfl, so, ho, rfl, ⟨rfl, fun i u w h => by cases h⟩, fun w h => absurd h (by simp)⟩ ?_ ?_
    · rintro i σ H2 hi ⟨us, ts, y1, y2, y3, rfl, s2, ho, lu, row, bw⟩
      have hd2 := s2 _ _ hd
      obtain ⟨c0, c1, c2, hcut, k0, k1, k2, k3, k4, k5⟩ : ∃ c0 c1 c2 : Int, cutV ([(n : Int), x1, (c : Int), x3, x4, x5, x6, x7, x8, x9, x10, x11, x12, x13, x14, x15, x16].map V.int) (some (5 + 3 * (0 + (i : Int)))) (some (8 + 3 * (0 + (i : Int)))) = [c0, c1, c2].map V.int ∧ 0 ≤ c0 ∧ c0 < 4 ∧ 0 ≤ c1 ∧ c1 < 3 ∧ 0 ≤ c2 ∧ c2 < 3 := by
        rcases (by omega : i = 0 ∨ i = 1 ∨ i = 2 ∨ i = 3) with rfl | rfl | rfl | rfl
        · exact ⟨x5, x6, x7, rfl, p5, q5, p6, q6, p7, q7⟩
        · exact ⟨x8, x9, x10, rfl, p8, q8, p9, q9, p10, q10⟩
        · exact ⟨x11, x12, x13, rfl, p11, q11, p12, q12, p13, q13⟩
        · exact ⟨x14, x15, x16, rfl, p14, q14, p15, q15, p16, q16⟩
      obtain ⟨c1, rfl⟩ : ∃ z : Nat, c1 = (z : Int) := ⟨c1.toNat, by omega⟩
      obtain ⟨c2, rfl⟩ : ∃ z : Nat, c2 = (z : Int) := ⟨c2.toNat, by omega⟩
      refine ⟨.ref d, rfl, _, rfl, _, _, rfl, rfl, .inl ⟨by decide, by decide⟩, _, _, rfl, rfl, _, rfl, _, rfl, _, _, rfl, rfl, .inl ⟨by decide, by decide⟩, _, _, rfl, rfl, _, rfl, d, _, rfl, lst_l hd2, fun f nf => ?_⟩
      rw [hcut]
      have s8 := s2.trans (same_upd (o := .lst ([c0, (c1 : Int), (c2 : Int)].map V.int)) nf)
      have ho8 := same_upd (o := .lst ([c0, (c1 : Int), (c2 : Int)].map V.int)) nf _ _ ho
      have row8 := row.same (same_upd (o := .lst ([c0, (c1 : Int), (c2 : Int)].map V.int)) nf)
      have hf : upd H2 f (.lst ([c0, (c1 : Int), (c2 : Int)].map V.int)) f = some (.lst ([c0, (c1 : Int), (c2 : Int)].map V.int)) := upd_same
      generalize upd H2 f (.lst ([c0, (c1 : Int), (c2 : Int)].map V.int)) = H8 at s8 ho8 row8 hf ⊢
      have hd8 := s8 _ _ hd
      have hb8 := s8 _ _ hb
      obtain ⟨bk, gb⟩ : ∃ bk, bs[i]? = some bk := ⟨_, List.getElem?_eq_getElem (by omega)⟩
      refine ⟨_, rfl, _, _, rfl, rfl, ?_⟩
      refine ⟨fun σ' H' => ∃ o2 : Nat, σ' = [some (.ref d), some (.ref b), some (.ref o), some (.int (c : Int)), some (.int (0 + (i : Int))), some (.ref f), some (.int (o2 : Int))] ∧ o2 ≤ 24 ∧ H' = H8, ?_, ?_⟩
      · have less : 0 < c → ∃ o2 : Nat, [some (V.ref d), some (.ref b), some (.ref o), some (.int (c : Int)), some (.int (0 + (i : Int))), some (.ref f), some (.int ((c : Int) - 1))] = [some (.ref d), some (.ref b), some (.ref o), some (.int (c : Int)), some (.int (0 + (i : Int))), some (.ref f), some (.int (o2 : Int))] ∧ o2 ≤ 24 ∧ H8 = H8 := fun z => ⟨c - 1, by rw [show ((c - 1 : Nat) : Int) = (c : Int) - 1 by omega], by omega, rfl⟩
        refine ⟨.ref f, rfl, f, _, _, _, rfl, rfl, lst_l hf, atI_nat (j := 1) rfl, _, _, rfl, rfl, _, rfl, ite2 (fun z1 => ⟨_, rfl, _, _, rfl, rfl, _, rfl, ite2 (fun z2 => ⟨_, rfl, _, _, rfl, rfl, less (by have := of_decide_eq_true z2; omega)⟩) (fun z2 => ?_)⟩) (fun z1 => ?_)⟩
        · exact ⟨_, rfl, rfl, _, rfl, ite2 (fun z3 => ⟨_, rfl, _, _, rfl, rfl, less (by have := V.int.inj (of_decide_eq_true z3); omega)⟩) (fun z3 => ⟨c + 1, rfl, by have : (c : Int) ≠ 24 := fun z => z3 (decide_eq_true (congrArg V.int z)); omega, rfl⟩)⟩
        · exact ⟨_, rfl, rfl, _, rfl, ite2 (fun z3 => ⟨_, rfl, _, _, rfl, rfl, less (by have := V.int.inj (of_decide_eq_true z3); omega)⟩) (fun z3 => ⟨c + 1, rfl, by have : (c : Int) ≠ 24 := fun z => z3 (decide_eq_true (congrArg V.int z)); omega, rfl⟩)⟩
      rintro σ' H' ⟨o2, rfl, l2, rfl⟩
      have fin : ∀ (H3 : Hp) (tp : Addr) (b' : Int) (m' k' : Nat), m' ≤ 24 → k' ≤ 2 → Same H' H3 → H3 tp = some (.tup [.int b', .int (m' : Int), .int (k' : Int)]) → ∃ (us2 : List Addr) (ts2 : List (Int × Nat × Nat)) (y1 y2 y3 : Option V), [some (V.ref d), some (.ref b), some (.ref o), some (.int (c : Int)), some (.int (0 + (i : Int))), some (.ref f), some (.int (o2 : Int))] = [some (.ref d), some (.ref b), some (.ref o), some (.int (c : Int)), y1, y2, y3] ∧ Same H (upd H3 o (.lst (us.map V.ref ++ [V.ref tp]))) ∧ upd H3 o (.lst (us.map V.ref ++ [V.ref tp])) o = some (.lst (us2.map V.ref)) ∧ us2.length = i + 1 ∧ RowN (upd H3 o (.lst (us.map V.ref ++ [V.ref tp]))) us2 ts2 ∧ ∀ w ∈ ts2, w.2.1 ≤ 24 ∧ w.2.2 ≤ 2 := fun H3 tp b' m' k' hm hk s ht => ⟨us ++ [tp], ts ++ [(b', m', k')], _, _, _, rfl, same_mut (s8.trans s) no, by rw [upd_same, List.map_append]; rfl, by rw [List.length_append, lu]; rfl, RowN.put (s _ _ ho8) (RowN.snoc (row8.same s) ht), fun w hw => by
        rcases List.mem_append.mp hw with hw | hw
        · exact bw w hw
        · rw [List.mem_singleton.mp hw]
          exact ⟨hm, hk⟩⟩
      have ul : (us.map V.ref).length < sizeLine := by
        rw [List.length_map]
        exact small1000 (by omega)
      refine ⟨.ref d, rfl, d, _, _, _, rfl, rfl, lst_l hd8, atI_nat (j := 1) rfl, rfl, _, rfl, ite2 (fun z1 => ?_) (fun z1 => ?_)⟩
      · refine ⟨_, rfl, .inl ⟨rfl, _, lst_l ho8⟩, .ref b, rfl, .int (0 + (i : Int)), rfl, b, _, _, .int bk, rfl, rfl, lst_l hb8, at_of (Int.zero_add _) (int_at gb), .ref b, rfl, .int (0 + (i : Int)), rfl, b, _, _, .int bk, rfl, rfl, lst_l hb8, at_of (Int.zero_add _) (int_at gb), .ref b, rfl, .int (0 + (i : Int)), rfl, b, _, _, .int bk, rfl, rfl, lst_l hb8, at_of (Int.zero_add _) (int_at gb), bk, rfl, (by show 4 ≤ sizeLine; decide), fun p np => ?_⟩
        have sp := same_upd (o := .lst [V.int bk, V.int bk, V.int 0, V.int (-bk)]) np
        obtain ⟨b', hb'⟩ : ∃ b', atI [V.int bk, V.int bk, V.int 0, V.int (-bk)] c0 = some (V.int b') := by
          rcases (by omega : c0 = 0 ∨ c0 = 1 ∨ c0 = 2 ∨ c0 = 3) with rfl | rfl | rfl | rfl
          · exact ⟨_, rfl⟩
          · exact ⟨_, rfl⟩
          · exact ⟨_, rfl⟩
          · exact ⟨_, rfl⟩
        refine ⟨.ref f, rfl, f, _, _, _, rfl, rfl, lst_l (sp _ _ hf), atI_nat (j := 0) rfl, p, _, _, .int b', rfl, rfl, lst_l upd_same, hb', .ref f, rfl, f, _, _, _, rfl, rfl, lst_l (sp _ _ hf), atI_nat (j := 1) rfl, .ref f, rfl, f, _, _, _, rfl, rfl, lst_l (sp _ _ hf), atI_nat (j := 2) rfl, (by show 3 ≤ sizeLine; decide), fun tp nt => ?_⟩
        have st := sp.trans (same_upd (o := .tup [V.int b', V.int (c1 : Int), V.int (c2 : Int)]) nt)
        exact ⟨o, _, _, rfl, rfl, st _ _ ho8, ul, fin _ tp b' c1 c2 (by omega) (by omega) st upd_same⟩
      refine ⟨.ref d, rfl, d, _, _, _, rfl, rfl, lst_l hd8, atI_nat (j := 1) rfl, rfl, _, rfl, ite2 (fun z2 => ⟨.int (0 + (i : Int)), rfl, .ref d, rfl, d, _, _, _, rfl, rfl, lst_l hd8, atI_nat (j := 3) rfl, .inl ⟨x3, rfl, .ref d, rfl, d, _, _, _, rfl, rfl, lst_l hd8, atI_nat (j := 0) rfl, _, _, rfl, rfl, (show (0 : Int) < (n : Int) by omega), rfl, _, rfl, ite2 (fun z3 => ?_) (fun z3 => ?_)⟩⟩) (fun z2 => iteF ?_)⟩
      · refine ⟨_, rfl, .inl ⟨rfl, _, lst_l ho8⟩, .ref b, rfl, .int (0 + (i : Int)), rfl, b, _, _, .int bk, rfl, rfl, lst_l hb8, at_of (Int.zero_add _) (int_at gb), bk, rfl, .ref b, rfl, .int (0 + (i : Int)), rfl, b, _, _, .int bk, rfl, rfl, lst_l hb8, at_of (Int.zero_add _) (int_at gb), (by show 3 ≤ sizeLine; decide), fun p np => ?_⟩
        have sp := same_upd (o := .lst [V.int 0, V.int (-bk), V.int bk]) np
        obtain ⟨b', m', hb', hm', lm⟩ : ∃ (b' : Int) (m' : Nat), atI [V.int 0, V.int (-bk), V.int bk] x4 = some (V.int b') ∧ atI [V.int (c : Int), V.int (c : Int), V.int (o2 : Int)] x4 = some (V.int (m' : Int)) ∧ m' ≤ 24 := by
          rcases (by omega : x4 = 0 ∨ x4 = 1 ∨ x4 = 2) with rfl | rfl | rfl
          · exact ⟨_, c, rfl, rfl, c24⟩
          · exact ⟨_, c, rfl, rfl, c24⟩
          · exact ⟨_, o2, rfl, rfl, l2⟩
        refine ⟨.ref d, rfl, d, _, _, _, rfl, rfl, lst_l (sp _ _ hd8), atI_nat (j := 4) rfl, p, _, _, .int b', rfl, rfl, lst_l upd_same, hb', ?_⟩
        refine ⟨_, rfl, _, rfl, _, rfl, (by show 3 ≤ sizeLine; decide), fun p2 np2 => ?_⟩
        have sp2 := sp.trans (same_upd (o := .lst [V.int (c : Int), V.int (c : Int), V.int (o2 : Int)]) np2)
        refine ⟨.ref d, rfl, d, _, _, _, rfl, rfl, lst_l (sp2 _ _ hd8), atI_nat (j := 4) rfl, p2, _, _, .int (m' : Int), rfl, rfl, lst_l upd_same, hm', .ref f, rfl, f, _, _, _, rfl, rfl, lst_l (sp2 _ _ hf), atI_nat (j := 2) rfl, (by show 3 ≤ sizeLine; decide), fun tp nt => ?_⟩
        have st := sp2.trans (same_upd (o := .tup [V.int b', V.int (m' : Int), V.int (c2 : Int)]) nt)
        exact ⟨o, _, _, rfl, rfl, st _ _ ho8, ul, fin _ tp b' m' c2 lm (by omega) st upd_same⟩
      all_goals
        refine ⟨_, rfl, .inl ⟨rfl, _, lst_l ho8⟩, .ref b, rfl, .int (0 + (i : Int)), rfl, b, _, _, .int bk, rfl, rfl, lst_l hb8, at_of (Int.zero_add _) (int_at gb), _, rfl, .ref f, rfl, f, _, _, _, rfl, rfl, lst_l hf, atI_nat (j := 2) rfl, (by show 3 ≤ sizeLine; decide), fun tp nt => ?_⟩
        have st := same_upd (o := .tup [V.int bk, V.int (c : Int), V.int (c2 : Int)]) nt
        exact ⟨o, _, _, rfl, rfl, st _ _ ho8, ul, fin _ tp bk c c2 c24 (by omega) st upd_same⟩
    rintro σ H2 ⟨us, ts, y1, y2, y3, rfl, s2, ho, lu, row, bw⟩
    exact ⟨_, rfl, q H2 o us ts s2 ho row (by have := row.1; omega) bw⟩
def sp_law (K : PySem.W.Frag) : Sp := fun vs H Q _ => ∃ (a : Addr) (ns : List Int), vs = [.ref a] ∧ SqL K H a (ns.map V.int) ∧ ns.length ≤ 63 ∧ ∀ H', Q (.bl true) H'

theorem ok_law {f : Addr} {fd : FuncData} {C_Listed C_Mixed C_Weighted C_Rule C_BadNumber C_TooMany C_BadWish C_Unlike C_BadTable C_NoBuyers C_ShelfError : Addr} (F : Fun K "law" "law" s_law f fd) (T : Txt K mg C_Listed C_Mixed C_Weighted C_Rule C_BadNumber C_TooMany C_BadWish C_Unlike C_BadTable C_NoBuyers C_ShelfError) (c__law_cell : Cal P w K mg base CX0 1 "_law_cell" ["_law_script", "_law_place"] (sp__law_cell K)) (c__law_draws : Cal P w K mg base CX0 1 "_law_draws" ["_law_cell_here", "_law_sizes"] (sp__law_draws K)) (c__law_row : Cal P w K mg base CX0 2 "_law_row" ["_law_cell_here", "_law_count"] (sp__law_row K)) (c__law_ups : Cal P w K mg base CX0 1 "_law_ups" ["_law_row_here"] (sp__law_ups K)) (c__law_numbers : Cal P w K mg base CX0 1 "_law_numbers" ["_law_drawn", "_law_buyers"] (sp__law_numbers K)) (c__law_rule_of : Cal P w K mg base (L2.CX P w) 7 "_law_rule_of" ["_law_kind", "_law_many"] (sp__law_rule_of C_Weighted C_Rule C_Listed)) (c__law_due : Cal P w K mg base CX0 1 "_law_due" ["_law_numbers_here"] sp__law_due) (c__law_asked : Cal P w K mg base CX0 8 "_law_asked" ["_law_told"] (sp__law_asked C_Weighted C_Rule C_Listed)) (c__law_classes : Cal P w K mg base CX0 8 "_law_classes" ["_law_told"] (sp__law_classes C_Weighted C_Rule C_Listed)) (c__law_like : Cal P w K mg base CX0 2 "_law_like" ["_law_told", "_law_due_here"] sp__law_like) (c__law_mixture : Cal P w K mg base (L2.CX P w) 7 "_law_mixture" ["_law_told"] (sp__law_mixture C_Mixed C_NoBuyers C_BadNumber C_Unlike C_Weighted C_Rule C_Listed)) (c__law_is_int : Cal P w K mg base CX0 1 "_law_is_int" ["_law_x"] sp__law_is_int) (c__law_kept : Cal P w K mg base CX0 2 "_law_kept" ["_law_told", "_law_numbers_here"] (sp__law_kept C_Weighted C_Rule C_Listed)) : FnOk P w K mg base CX0 9 f fd ["_law_script"] (sp_law K) := by
  refine F.ok sc_law (fun vs H Q E h => ?_) (fun cdv A outer s H vs Q E hr h => ?_)
  · obtain ⟨a, ns, rfl, _⟩ := h
    rfl
  · obtain ⟨a, ns, rfl, hS, hlen, q⟩ := h
    obtain ⟨f__law_cell, fd__law_cell, G__law_cell, m__law_cell, k__law_cell, b__law_cell⟩ := c__law_cell
    obtain ⟨f__law_draws, fd__law_draws, G__law_draws, m__law_draws, k__law_draws, b__law_draws⟩ := c__law_draws
    obtain ⟨f__law_row, fd__law_row, G__law_row, m__law_row, k__law_row, b__law_row⟩ := c__law_row
    obtain ⟨f__law_ups, fd__law_ups, G__law_ups, m__law_ups, k__law_ups, b__law_ups⟩ := c__law_ups
    obtain ⟨f__law_numbers, fd__law_numbers, G__law_numbers, m__law_numbers, k__law_numbers, b__law_numbers⟩ := c__law_numbers
    obtain ⟨f__law_rule_of, fd__law_rule_of, G__law_rule_of, m__law_rule_of, k__law_rule_of, b__law_rule_of⟩ := c__law_rule_of
    obtain ⟨f__law_due, fd__law_due, G__law_due, m__law_due, k__law_due, b__law_due⟩ := c__law_due
    obtain ⟨f__law_asked, fd__law_asked, G__law_asked, m__law_asked, k__law_asked, b__law_asked⟩ := c__law_asked
    obtain ⟨f__law_classes, fd__law_classes, G__law_classes, m__law_classes, k__law_classes, b__law_classes⟩ := c__law_classes
    obtain ⟨f__law_like, fd__law_like, G__law_like, m__law_like, k__law_like, b__law_like⟩ := c__law_like
    obtain ⟨f__law_mixture, fd__law_mixture, G__law_mixture, m__law_mixture, k__law_mixture, b__law_mixture⟩ := c__law_mixture
    obtain ⟨f__law_is_int, fd__law_is_int, G__law_is_int, m__law_is_int, k__law_is_int, b__law_is_int⟩ := c__law_is_int
    obtain ⟨f__law_kept, fd__law_kept, G__law_kept, m__law_kept, k__law_kept, b__law_kept⟩ := c__law_kept
    refine ⟨_, (pss_cons (ps_set (i := 1) sc_law.nd rfl (Or.inl rfl) (pe_call G__law_draws (hr.mono (by decide)) (by rfl) m__law_draws k__law_draws b__law_draws .nil pass0 (pa_cons (pe_call G__law_cell (hr.mono (by decide)) (by rfl) m__law_cell k__law_cell b__law_cell .nil pass0 (pa_cons (pv 0) (pa_cons pe_int pa_nil))) (pa_cons (pe_op op_cat (pe_lst (pa_cons pe_int (pa_cons pe_int (pa_cons pe_int (pa_cons pe_int (pa_cons pe_int pa_nil)))))) (pe_op op_rep (pe_lst (pa_cons pe_int (pa_cons pe_int (pa_cons pe_int pa_nil)))) pe_int)) pa_nil))))
      (pss_cons (ps_set (i := 2) sc_law.nd rfl (Or.inl rfl) (pe_call G__law_ups (hr.mono (by decide)) (by rfl) m__law_ups k__law_ups b__law_ups .nil pass0 (pa_cons (pe_call G__law_row (hr.mono (by decide)) (by rfl) m__law_row k__law_row b__law_row .nil pass0 (pa_cons (pe_call G__law_cell (hr.mono (by decide)) (by rfl) m__law_cell k__law_cell b__law_cell .nil pass0 (pa_cons (pv 0) (pa_cons pe_int pa_nil))) (pa_cons pe_int pa_nil))) pa_nil)))
      (pss_cons (ps_set (i := 3) sc_law.nd rfl (Or.inl rfl) (pe_call G__law_numbers (hr.mono (by decide)) (by rfl) m__law_numbers k__law_numbers b__law_numbers .nil pass0 (pa_cons (pv 1) (pa_cons (pv 2) pa_nil))))
      (pss_cons (ps_setLc (i := 4) (own := [("_law_number", 8)]) (g := (gName 8)) (tt := tYes) rfl sc_law.nd rfl rfl (sw_true rfl rfl rfl (by decide +kernel)) (pi_list (pv 3)) (blkOk_by (own := [("_law_number", 8)]) (N := ["_law_script", "_law_drawn", "_law_buyers", "_law_numbers_here", "_law_told", "_law_due_here", "_law_classes_here", "_law_mixed", "_law_number"]) (sc := defScope s_law) (by decide +kernel)) (fun _ _ _ _ _ => (pg_name (i := 8) sc_law.nd rfl (Or.inl rfl))) (fun _ _ _ _ _ => pts_nil) (fun _ _ _ _ _ => (pe_tup (pa_cons (pe_ix (r := rIxT K) ix_tup (pv 8) pe_int (fun _ _ => rfl)) (pa_cons (pe_call G__law_rule_of (hr.mono (by decide)) (by rfl) m__law_rule_of k__law_rule_of b__law_rule_of .nil passL (pa_cons (pe_ix (r := rIxT K) ix_tup (pv 8) pe_int (fun _ _ => rfl)) (pa_cons (pe_ix (r := rIxT K) ix_tup (pv 8) pe_int (fun _ _ => rfl)) pa_nil))) pa_nil)))))
      (pss_cons (ps_set (i := 5) sc_law.nd rfl (Or.inl rfl) (pe_call G__law_due (hr.mono (by decide)) (by rfl) m__law_due k__law_due b__law_due .nil pass0 (pa_cons (pv 3) pa_nil)))
      (pss_cons (ps_if (pt_not (pt_val (pe_call G__law_like (hr.mono (by decide)) (by rfl) m__law_like k__law_like b__law_like .nil pass0 (pa_cons (pe_call G__law_asked (hr.mono (by decide)) (by rfl) m__law_asked k__law_asked b__law_asked .nil pass0 (pa_cons (pv 4) pa_nil)) (pa_cons (pv 5) pa_nil))))) (pss_one (ps_ret pe_bl)) pss_nil)
      (pss_cons (ps_set (i := 6) sc_law.nd rfl (Or.inl rfl) (pe_call G__law_classes (hr.mono (by decide)) (by rfl) m__law_classes k__law_classes b__law_classes .nil pass0 (pa_cons (pv 4) pa_nil)))
      (pss_cons (ps_if (pt_cmpR op_ne (pe_ix ix_tup (pv 5) pe_int (fun _ _ => rfl)) pe_str (nomark _)) (pss_one (ps_ret (pe_cmpR (op_eqD hr.units) (pv 6) (pe_lst (pa_cons (pe_cmpR op_eq (pe_ix ix_tup (pv 5) pe_int (fun _ _ => rfl)) pe_str (nomark _)) (pa_cons (pe_cmpR op_eq (pe_ix ix_tup (pv 5) pe_int (fun _ _ => rfl)) pe_str (nomark _)) (pa_cons (pe_cmpR op_eq (pe_ix ix_tup (pv 5) pe_int (fun _ _ => rfl)) pe_str (nomark _)) (pa_cons pe_bl (pa_cons pe_bl (pa_cons pe_bl (pa_cons pe_bl pa_nil)))))))) (nomark _)))) pss_nil)
      (pss_cons (ps_set (i := 7) sc_law.nd rfl (Or.inl rfl) (pe_call G__law_mixture (hr.mono (by decide)) (by rfl) m__law_mixture k__law_mixture b__law_mixture .nil passL (pa_cons (pv 4) pa_nil)))
      (pss_cons (ps_if (PW.pt (pw_or (pt_cmpR (op_neD hr.units) (pv 6) (pe_lst pa_nil) (nomark _)) (pw_or (pt_not (pt_val (pe_call G__law_is_int (hr.mono (by decide)) (by rfl) m__law_is_int k__law_is_int b__law_is_int .nil pass0 (pa_cons (pe_fld (pv 7) rfl) pa_nil)))) (pw_or1 (pt_cmpR op_ne (pe_fld (pv 7) rfl) (pe_ix ix_tup (pe_ix ix_list (pv 3) pe_int (fun _ _ => rfl)) pe_int (fun _ _ => rfl)) (nomark _)))))) (pss_one (ps_ret pe_bl)) pss_nil)
      (pss_one (ps_ret (pe_call G__law_kept (hr.mono (by decide)) (by rfl) m__law_kept k__law_kept b__law_kept .nil pass0 (pa_cons (pe_fld (pv 7) rfl) (pa_cons (pv 3) pa_nil))))))))))))))), ?_⟩
    refine ⟨.ref a, rfl, a, ns, 0, rfl, hS, fun c1 => ?_⟩
    refine ⟨(by show 5 ≤ sizeLine; decide), fun p1 n1 => ?_⟩
    refine ⟨(by show 3 ≤ sizeLine; decide), fun p2 n2 => ?_⟩
    have t1 := same_upd n1 (o := .lst [V.int 5, V.int 3, V.int 25, V.int 4, V.int 3])
    have t2 := same_upd n2 (o := .lst [V.int 4, V.int 3, V.int 3])
    refine ⟨p2, 4, _, rfl, rfl, upd_same, by decide, by decide, (by show 12 ≤ sizeLine; decide), fun p3 n3 => ?_⟩
    have t3 := same_upd n3 (o := .lst [V.int 4, V.int 3, V.int 3, V.int 4, V.int 3, V.int 3, V.int 4, V.int 3, V.int 3, V.int 4, V.int 3, V.int 3])
    refine ⟨p1, p3, _, _, rfl, rfl, t3 _ _ (t2 _ _ upd_same), upd_same, (by show 17 ≤ sizeLine; decide), fun p4 n4 => ?_⟩
    have t4 := same_upd n4 (o := .lst [V.int 5, V.int 3, V.int 25, V.int 4, V.int 3, V.int 4, V.int 3, V.int 3, V.int 4, V.int 3, V.int 3, V.int 4, V.int 3, V.int 3, V.int 4, V.int 3, V.int 3])
    refine ⟨c1, p4, [5, 3, 25, 4, 3, 4, 3, 3, 4, 3, 3, 4, 3, 3, 4, 3, 3], rfl, lst_l upd_same, by decide, by decide, fun dsd1 H1 d1 wd1 s1 nd1 hd1 => ?_⟩
    have s1 : Same H H1 := (((t1.trans t2).trans t3).trans t4).trans s1
    clear t1 t2 t3 t4
    obtain ⟨x0, rx0, rfl, lx0, ux0, wd1⟩ := wd1.c
    obtain ⟨x1, rx1, rfl, lx1, ux1, wd1⟩ := wd1.c
    obtain ⟨x2, rx2, rfl, lx2, ux2, wd1⟩ := wd1.c
    obtain ⟨x3, rx3, rfl, lx3, ux3, wd1⟩ := wd1.c
    obtain ⟨x4, rx4, rfl, lx4, ux4, wd1⟩ := wd1.c
    obtain ⟨x5, rx5, rfl, lx5, ux5, wd1⟩ := wd1.c
    obtain ⟨x6, rx6, rfl, lx6, ux6, wd1⟩ := wd1.c
    obtain ⟨x7, rx7, rfl, lx7, ux7, wd1⟩ := wd1.c
    obtain ⟨x8, rx8, rfl, lx8, ux8, wd1⟩ := wd1.c
    obtain ⟨x9, rx9, rfl, lx9, ux9, wd1⟩ := wd1.c
    obtain ⟨x10, rx10, rfl, lx10, ux10, wd1⟩ := wd1.c
    obtain ⟨x11, rx11, rfl, lx11, ux11, wd1⟩ := wd1.c
    obtain ⟨x12, rx12, rfl, lx12, ux12, wd1⟩ := wd1.c
    obtain ⟨x13, rx13, rfl, lx13, ux13, wd1⟩ := wd1.c
    obtain ⟨x14, rx14, rfl, lx14, ux14, wd1⟩ := wd1.c
    obtain ⟨x15, rx15, rfl, lx15, ux15, wd1⟩ := wd1.c
    obtain ⟨x16, rx16, rfl, lx16, ux16, wd1⟩ := wd1.c
    cases wd1.n
    have Ld1 : SqL K H1 d1 ([x0, x1, x2, x3, x4, x5, x6, x7, x8, x9, x10, x11, x12, x13, x14, x15, x16].map V.int) := lst_l hd1

    refine ⟨.ref a, rfl, a, ns, 1, rfl, s1.seq hS, fun c2 => ⟨c2, 4, rfl, by decide, fun rs H3 d3 lr br s3 nd3 hd3 => ?_⟩⟩
    refine ⟨d3, rs, rfl, hd3, by omega, fun H4 B s4 nB hB => ?_⟩
    have s14 := (s1.trans s3).trans s4
    have hd4 := s4 _ _ (s3 _ _ hd1)
    obtain ⟨n, rfl⟩ : ∃ n : Nat, x0 = (n : Int) := ⟨x0.toNat, by omega⟩
    obtain ⟨c, rfl⟩ : ∃ c : Nat, x2 = (c : Int) := ⟨x2.toNat, by omega⟩
    refine ⟨_, rfl, _, rfl, d1, B, (n : Int), x1, (c : Int), x3, x4, x5, x6, x7, x8, x9, x10, x11, x12, x13, x14, x15, x16, rs.map fun z => 1 + z, n, c, rfl, hd4, rfl, by omega, rfl, by omega, by omega, by omega, ⟨by omega, by omega⟩, ⟨by omega, by omega⟩, ⟨by omega, by omega⟩, ⟨by omega, by omega⟩, ⟨by omega, by omega⟩, ⟨by omega, by omega⟩, ⟨by omega, by omega⟩, ⟨by omega, by omega⟩, ⟨by omega, by omega⟩, ⟨by omega, by omega⟩, ⟨by omega, by omega⟩, ⟨by omega, by omega⟩, hB, by rw [List.length_map]; omega, fun H5 L us ts s5 hL row lt bw => ?_⟩
    have lu : us.length = ts.length := row.1
    refine ⟨_, rfl, L, rfl, ⟨_, lst_l hL⟩, fun D nD => lc_list (K := K) (a := L) (xs := us.map V.ref) (fun i H6 => ∃ zs : List Addr, Same H5 H6 ∧ H6 D = some (.lst (zs.map V.ref)) ∧ zs.length = i ∧ RowM C_Weighted C_Rule C_Listed H6 zs (ts.take i)) ⟨[], same_upd nD, upd_same, rfl, ⟨rfl, fun i u w h => by cases h⟩⟩ (fun i H6 _ ⟨_, s, _⟩ => lst_l (s _ _ hL)) ?_ ?_⟩
    · rintro i x H6 hi ⟨zs, s, hD, lz, rz⟩
      have i1 : i < us.length := by
        have := (List.getElem?_eq_some_iff.mp hi).1
        rw [List.length_map] at this
        exact this
      have h1 : us[i]? = some us[i] := List.getElem?_eq_getElem i1
      have h2 : ts[i]? = some ts[i] := List.getElem?_eq_getElem (by omega)
      rw [List.getElem?_map, h1] at hi
      cases hi
      have hu := s _ _ (row.2 i _ _ h1 h2)
      obtain ⟨bm, bk⟩ := bw _ (List.mem_of_getElem? h2)
      refine ⟨rfl, ?_⟩
      refine lc_yes ?_
      refine iteT ?_
      refine ⟨.ref us[i], rfl, us[i], _, _, _, rfl, rfl, tup_t hu, atI_nat (j := 0) rfl, .ref us[i], rfl, us[i], _, _, _, rfl, rfl, tup_t hu, atI_nat (j := 2) rfl, .ref us[i], rfl, us[i], _, _, _, rfl, rfl, tup_t hu, atI_nat (j := 1) rfl, ts[i].2.2, ts[i].2.1, rfl, bm, bk, fun H7 r s7 ru => ?_⟩
      refine ⟨(by show 2 ≤ sizeLine; decide), fun tp np => ?_⟩
      have st := same_upd (o := .tup [V.int ts[i].1, V.ref r]) np
      have hD7 := st _ _ (s7 _ _ hD)
      refine ⟨_, hD7, ?_, zs ++ [tp], same_mut ((s.trans s7).trans st) nD, ?_, ?_, ?_⟩
      · rw [List.length_map]
        exact small1000 (by omega)
      · rw [upd_same, List.map_append]
        rfl
      · rw [List.length_append, lz]
        rfl
      · rw [List.take_add_one, h2]
        exact RowM.put hD7 (RowM.snoc ((rz.same s7).same st) ⟨r, upd_same, ru.same st⟩)
    rintro H6 ⟨zs, s6, hD, lz, rz⟩
    rw [List.length_map] at lz
    rw [List.length_map, lu, List.take_length] at rz
    have hL6 := s6 _ _ hL
    have row6 := row.same s6
    have z4 : zs.length ≤ 4 := by omega
    have m24 : ∀ w ∈ ts, w.2.1 ≤ 24 := fun w hw => (bw w hw).1
    refine ⟨_, rfl, L, us, ts, rfl, hL6, row6, by omega, fun H8 t s8 ht => ?_⟩
    refine ⟨_, rfl, D, zs, ts, rfl, s8 _ _ hD, rz.same s8, z4, m24, fun H9 t2 s9 ht2 => ?_⟩
    have ht9 := s9 _ _ ht
    have s69 := s8.trans s9
    refine ⟨_, rfl, t2, t, _, rfl, ht2, ht9, dueM_len _, dueM_kinds _, true, rfl, iteF ?_⟩
    refine ⟨_, rfl, D, zs, ts, rfl, s69 _ _ hD, rz.same s69, z4, m24, fun H10 t3 s10 ht3 => ?_⟩
    have ht10 := s10 _ _ ht9
    have s610 := s69.trans s10
    cases hd : dueM ts with
    | none =>
      rw [hd] at ht10 ht3
      refine ⟨.ref t, rfl, t, _, _, _, rfl, rfl, tup_t ht10, atI_nat (j := 0) rfl, rfl, _, rfl, iteND (fun e => by cases e) ?_⟩
      refine ⟨_, rfl, .ref t, rfl, t, _, _, _, rfl, rfl, tup_t ht10, atI_nat (j := 0) rfl, rfl, .ref t, rfl, t, _, _, _, rfl, rfl, tup_t ht10, atI_nat (j := 0) rfl, rfl, .ref t, rfl, t, _, _, _, rfl, rfl, tup_t ht10, atI_nat (j := 0) rfl, rfl, (by show 7 ≤ sizeLine; decide), fun p np => ?_⟩
      refine ⟨_, _, dp_7 (same_upd np _ _ ht3), dp_7 upd_same, sh_7 .., sh_7 .., ?_⟩
      have e : PyData.eqv (PyData.list [.bool true, .bool false, .bool false, .bool false, .bool false, .bool false, .bool true]) (PyData.list [.bool (decide (V.str "none" = V.str "none")), .bool (decide (V.str "none" = V.str "number")), .bool (decide (V.str "none" = V.str "unlike")), .bool false, .bool false, .bool false, .bool true]) = true := by decide +kernel
      show Q (.bl (PyData.eqv (PyData.list [.bool true, .bool false, .bool false, .bool false, .bool false, .bool false, .bool true]) (PyData.list [.bool (decide (V.str "none" = V.str "none")), .bool (decide (V.str "none" = V.str "number")), .bool (decide (V.str "none" = V.str "unlike")), .bool false, .bool false, .bool false, .bool true]))) _
      rw [e]
      exact q _
    | num k =>
      rw [hd] at ht10 ht3
      refine ⟨.ref t, rfl, t, _, _, _, rfl, rfl, tup_t ht10, atI_nat (j := 0) rfl, rfl, _, rfl, iteND (fun e => by cases e) ?_⟩
      refine ⟨_, rfl, .ref t, rfl, t, _, _, _, rfl, rfl, tup_t ht10, atI_nat (j := 0) rfl, rfl, .ref t, rfl, t, _, _, _, rfl, rfl, tup_t ht10, atI_nat (j := 0) rfl, rfl, .ref t, rfl, t, _, _, _, rfl, rfl, tup_t ht10, atI_nat (j := 0) rfl, rfl, (by show 7 ≤ sizeLine; decide), fun p np => ?_⟩
      refine ⟨_, _, dp_7 (same_upd np _ _ ht3), dp_7 upd_same, sh_7 .., sh_7 .., ?_⟩
      have e : PyData.eqv (PyData.list [.bool false, .bool true, .bool false, .bool false, .bool false, .bool false, .bool true]) (PyData.list [.bool (decide (V.str "number" = V.str "none")), .bool (decide (V.str "number" = V.str "number")), .bool (decide (V.str "number" = V.str "unlike")), .bool false, .bool false, .bool false, .bool true]) = true := by decide +kernel
      show Q (.bl (PyData.eqv (PyData.list [.bool false, .bool true, .bool false, .bool false, .bool false, .bool false, .bool true]) (PyData.list [.bool (decide (V.str "number" = V.str "none")), .bool (decide (V.str "number" = V.str "number")), .bool (decide (V.str "number" = V.str "unlike")), .bool false, .bool false, .bool false, .bool true]))) _
      rw [e]
      exact q _
    | unlike k =>
      rw [hd] at ht10 ht3
      refine ⟨.ref t, rfl, t, _, _, _, rfl, rfl, tup_t ht10, atI_nat (j := 0) rfl, rfl, _, rfl, iteND (fun e => by cases e) ?_⟩
      refine ⟨_, rfl, .ref t, rfl, t, _, _, _, rfl, rfl, tup_t ht10, atI_nat (j := 0) rfl, rfl, .ref t, rfl, t, _, _, _, rfl, rfl, tup_t ht10, atI_nat (j := 0) rfl, rfl, .ref t, rfl, t, _, _, _, rfl, rfl, tup_t ht10, atI_nat (j := 0) rfl, rfl, (by show 7 ≤ sizeLine; decide), fun p np => ?_⟩
      refine ⟨_, _, dp_7 (same_upd np _ _ ht3), dp_7 upd_same, sh_7 .., sh_7 .., ?_⟩
      have e : PyData.eqv (PyData.list [.bool false, .bool false, .bool true, .bool false, .bool false, .bool false, .bool true]) (PyData.list [.bool (decide (V.str "unlike" = V.str "none")), .bool (decide (V.str "unlike" = V.str "number")), .bool (decide (V.str "unlike" = V.str "unlike")), .bool false, .bool false, .bool false, .bool true]) = true := by decide +kernel
      show Q (.bl (PyData.eqv (PyData.list [.bool false, .bool false, .bool true, .bool false, .bool false, .bool false, .bool true]) (PyData.list [.bool (decide (V.str "unlike" = V.str "none")), .bool (decide (V.str "unlike" = V.str "number")), .bool (decide (V.str "unlike" = V.str "unlike")), .bool false, .bool false, .bool false, .bool true]))) _
      rw [e]
      exact q _
    | made =>
      rw [hd] at ht10 ht3
      refine ⟨.ref t, rfl, t, _, _, _, rfl, rfl, tup_t ht10, atI_nat (j := 0) rfl, rfl, _, rfl, iteNS rfl ?_⟩
      refine ⟨_, rfl, D, zs, ts, rfl, s610 _ _ hD, rz.same s610, z4, m24, fun e => absurd (hd.symm.trans e) (by simp), fun k e => absurd (hd.symm.trans e) (by simp), fun k e => absurd (hd.symm.trans e) (by simp), fun _ H11 p dx tt m s11 hm hx htt => ?_⟩
      obtain ⟨w0, hw0⟩ : ∃ w, ts[0]? = some w := by
        cases e : ts with
        | nil =>
          rw [e] at hd
          cases hd
        | cons w r => exact ⟨w, rfl⟩
      obtain ⟨u0, hu0⟩ : ∃ u, us[0]? = some u := ⟨_, List.getElem?_eq_getElem (by have := (List.getElem?_eq_some_iff.mp hw0).1; omega)⟩
      have v0 : (us.map V.ref)[0]? = some (.ref u0) := by rw [List.getElem?_map, hu0]; rfl
      have em := hm _ hw0
      refine ⟨_, rfl, Nat.zero_le _, fun q1 nq1 => ⟨_, _, .lst (lst_l (same_upd nq1 _ _ (s11 _ _ ht3))) .nil, .lst (lst_l upd_same) .nil, sh_0, sh_0, false, rfl, iteF ?_⟩⟩
      have sq := same_upd (o := .lst []) nq1
      have hx := sq _ _ hx
      have htt := sq _ _ htt
      have s6q := (s610.trans s11).trans sq
      have hLq := s6q _ _ hL6
      have rowq := row6.same s6q
      refine ⟨.ref p, rfl, p, C_Mixed, dx, _, _, rfl, hx, T.cl_Mixed, T.n_Mixed_many, fM_many _ _, (m : Int), rfl, true, rfl, iteF ?_⟩
      refine ⟨.ref p, rfl, p, C_Mixed, dx, _, _, rfl, hx, T.cl_Mixed, T.n_Mixed_many, fM_many _ _, .ref L, rfl, L, _, _, .ref u0, rfl, rfl, lst_l hLq, atI_nat (j := 0) v0, u0, _, _, _, rfl, rfl, tup_t (rowq.2 0 _ _ hu0 hw0), atI_nat (j := 1) rfl, rfl, _, rfl, iteNS (by rw [em]) ?_⟩
      exact ⟨.ref p, rfl, p, C_Mixed, dx, _, _, rfl, hx, T.cl_Mixed, T.n_Mixed_parts, fM_parts _ _, _, rfl, tt, L, zs, us, ts, rfl, htt, rz.same s6q, hLq, rowq, by omega, fun w hw => (bw w hw).2, q _⟩
end
/-! ### what the top has written; the law's own head -/
theorem all_mk {l : PySem.W.OpenLaw} {w : World} {K : PySem.W.Frag} {h : Heap} {mg : Str → Option Value} {fa f1 f2 f3 f4 f5 f6 f7 f8 f9 f10 f11 f12 f13 f14 f15 f16 f17 f18 f19 f20 f21 f22 f23 f24 f25 f26 f27 C_Listed C_Mixed C_Weighted C_Rule C_BadNumber C_TooMany C_BadWish C_Unlike C_BadTable C_NoBuyers C_ShelfError : Addr} (X : K.In h) (G : h.Ns mainGlobals mg) (hfa : mg "law" = some (.ref fa))
    {od1 an1 od2 an2 od3 an3 od4 an4 od5 an5 od6 an6 od7 an7 od8 an8 od9 an9 od10 an10 od11 an11 od12 an12 od13 an13 od14 an14 od15 an15 od16 an16 od17 an17 od18 an18 od19 an19 od20 an20 od21 an21 od22 an22 od23 an23 od24 an24 od25 an25 od26 an26 od27 an27 : Option Addr} {sl1 sl2 sl3 sl4 sl5 sl6 sl7 sl8 sl9 sl10 sl11 sl12 sl13 sl14 sl15 sl16 sl17 sl18 sl19 sl20 sl21 sl22 sl23 sl24 sl25 sl26 sl27 : Array (Option Value)} {oc1 kV1 dc1 pm1 cd1 ct1 oc2 kV2 dc2 pm2 cd2 ct2 oc3 kV3 dc3 pm3 cd3 ct3 oc4 kV4 dc4 pm4 cd4 ct4 oc5 kV5 dc5 pm5 cd5 ct5 oc6 kV6 dc6 pm6 cd6 ct6 oc7 kV7 dc7 pm7 cd7 ct7 oc8 kV8 dc8 pm8 cd8 ct8 oc9 kV9 dc9 pm9 cd9 ct9 oc10 kV10 dc10 pm10 cd10 ct10 oc11 kV11 dc11 pm11 ct11 oc12 kV12 dc12 pm12 ct12 oc13 kV13 dc13 pm13 ct13 oc14 kV14 dc14 pm14 cd14 ct14 oc15 kV15 dc15 pm15 cd15 ct15 oc16 kV16 dc16 pm16 cd16 ct16 oc17 kV17 dc17 pm17 cd17 ct17 oc18 kV18 dc18 pm18 cd18 ct18 oc19 kV19 dc19 pm19 cd19 ct19 oc20 kV20 dc20 pm20 cd20 ct20 oc21 kV21 dc21 pm21 cd21 ct21 oc22 kV22 dc22 pm22 cd22 ct22 oc23 kV23 dc23 pm23 cd23 ct23 oc24 kV24 dc24 pm24 cd24 ct24 oc25 kV25 dc25 pm25 cd25 ct25 oc26 kV26 dc26 pm26 cd26 ct26 oc27 kV27 dc27 pm27 cd27 ct27 : Value} {tk_MOST_THINGS : Tok} {cc11 cda11 : Addr} {cl11 ccl11 : Value} {cld11 cdd11 : Option Addr} {csl11 ccs11 : Array (Option Value)} {vs11 : Array Value} {fi11 : Str} {tf11 : Tok} {cdW11 : ClassData} {cc12 cda12 : Addr} {cl12 ccl12 : Value} {cld12 cdd12 : Option Addr} {csl12 ccs12 : Array (Option Value)} {vs12 : Array Value} {fi12 : Str} {tf12 : Tok} {cdW12 : ClassData} {cc13 cda13 : Addr} {cl13 ccl13 : Value} {cld13 cdd13 : Option Addr} {csl13 ccs13 : Array (Option Value)} {vs13 : Array Value} {fi13 : Str} {tf13 : Tok} {cdW13 : ClassData}
    (a_Listed : PySem.W.nsIn K mainGlobals "Listed" = some (some (.ref C_Listed)))
    (kc_Listed : PySem.W.keepIn K (.ref C_Listed) = true)
    (hd_Listed : PySem.W.hasDictIn K C_Listed = true)
    (ha_Listed : PySem.W.findIn K (.ref C_Listed) "__class__" = some (some (.builtin "object.__class__")))
    (hm_Listed : PySem.W.mroIn K C_Listed (.type "object") = some true)
    (pg_Listed : PySem.W.plainGet K C_Listed Str.empty = true)
    (po_Listed : PySem.W.plainOver K C_Listed = true)
    (sa_Listed : PySem.W.findIn K (.ref C_Listed) "__setattr__" = some (some (.builtin "object.__setattr__")))
    (mk_Listed : PySem.W.makesIn K C_Listed = true)
    (n_Listed_many : PySem.W.findIn K (.ref C_Listed) "many" = some none)
    (n_Listed_wishes : PySem.W.findIn K (.ref C_Listed) "wishes" = some none)
    (a_Mixed : PySem.W.nsIn K mainGlobals "Mixed" = some (some (.ref C_Mixed)))
    (kc_Mixed : PySem.W.keepIn K (.ref C_Mixed) = true)
    (hd_Mixed : PySem.W.hasDictIn K C_Mixed = true)
    (ha_Mixed : PySem.W.findIn K (.ref C_Mixed) "__class__" = some (some (.builtin "object.__class__")))
    (hm_Mixed : PySem.W.mroIn K C_Mixed (.type "object") = some true)
    (pg_Mixed : PySem.W.plainGet K C_Mixed Str.empty = true)
    (po_Mixed : PySem.W.plainOver K C_Mixed = true)
    (sa_Mixed : PySem.W.findIn K (.ref C_Mixed) "__setattr__" = some (some (.builtin "object.__setattr__")))
    (mk_Mixed : PySem.W.makesIn K C_Mixed = true)
    (n_Mixed_many : PySem.W.findIn K (.ref C_Mixed) "many" = some none)
    (n_Mixed_parts : PySem.W.findIn K (.ref C_Mixed) "parts" = some none)
    (a_Weighted : PySem.W.nsIn K mainGlobals "Weighted" = some (some (.ref C_Weighted)))
    (kc_Weighted : PySem.W.keepIn K (.ref C_Weighted) = true)
    (hd_Weighted : PySem.W.hasDictIn K C_Weighted = true)
    (ha_Weighted : PySem.W.findIn K (.ref C_Weighted) "__class__" = some (some (.builtin "object.__class__")))
    (hm_Weighted : PySem.W.mroIn K C_Weighted (.type "object") = some true)
    (pg_Weighted : PySem.W.plainGet K C_Weighted Str.empty = true)
    (po_Weighted : PySem.W.plainOver K C_Weighted = true)
    (sa_Weighted : PySem.W.findIn K (.ref C_Weighted) "__setattr__" = some (some (.builtin "object.__setattr__")))
    (mk_Weighted : PySem.W.makesIn K C_Weighted = true)
    (n_Weighted_many : PySem.W.findIn K (.ref C_Weighted) "many" = some none)
    (n_Weighted_weights : PySem.W.findIn K (.ref C_Weighted) "weights" = some none)
    (n_Weighted_aside : PySem.W.findIn K (.ref C_Weighted) "aside" = some none)
    (a_Rule : PySem.W.nsIn K mainGlobals "Rule" = some (some (.ref C_Rule)))
    (kc_Rule : PySem.W.keepIn K (.ref C_Rule) = true)
    (hd_Rule : PySem.W.hasDictIn K C_Rule = true)
    (ha_Rule : PySem.W.findIn K (.ref C_Rule) "__class__" = some (some (.builtin "object.__class__")))
    (hm_Rule : PySem.W.mroIn K C_Rule (.type "object") = some true)
    (pg_Rule : PySem.W.plainGet K C_Rule Str.empty = true)
    (po_Rule : PySem.W.plainOver K C_Rule = true)
    (sa_Rule : PySem.W.findIn K (.ref C_Rule) "__setattr__" = some (some (.builtin "object.__setattr__")))
    (mk_Rule : PySem.W.makesIn K C_Rule = true)
    (n_Rule_many : PySem.W.findIn K (.ref C_Rule) "many" = some none)
    (a_BadNumber : PySem.W.nsIn K mainGlobals "BadNumber" = some (some (.ref C_BadNumber)))
    (kc_BadNumber : PySem.W.keepIn K (.ref C_BadNumber) = true)
    (hd_BadNumber : PySem.W.hasDictIn K C_BadNumber = true)
    (ha_BadNumber : PySem.W.findIn K (.ref C_BadNumber) "__class__" = some (some (.builtin "object.__class__")))
    (hm_BadNumber : PySem.W.mroIn K C_BadNumber (.type "object") = some true)
    (b_BadNumber : PySem.W.subIn K (.ref C_BadNumber) (.type "BaseException") = some true)
    (t_BadNumber : PySem.W.typeIn K (.ref C_BadNumber) = some (.type "type"))
    (ga_BadNumber : PySem.W.findIn K (.ref C_BadNumber) "__getattribute__" = some (some (.builtin "BaseException.__getattribute__")))
    (gg_BadNumber : PySem.W.findIn K (.ref C_BadNumber) "__getattr__" = some none)
    (ol_BadNumber : K.lookup C_BadNumber = some (excClassObj nm_BadNumber q_BadNumber C_BadNumber N_BadNumber bs_BadNumber bm_BadNumber true sn_BadNumber sub_BadNumber ab_BadNumber col_BadNumber dd_BadNumber k0_BadNumber k1_BadNumber k2_BadNumber k3_BadNumber k5_BadNumber "ValueError.__new__"))
    (or_BadNumber : PySem.HandSPX.refsVE bm_BadNumber = true)
    (sa_BadNumber : PySem.W.findIn K (.ref C_BadNumber) "__setattr__" = some (some (.builtin "object.__setattr__")))
    (n_BadNumber_what : PySem.W.findIn K (.ref C_BadNumber) "what" = some none)
    (n_BadNumber_at : PySem.W.findIn K (.ref C_BadNumber) "at" = some none)
    (a_TooMany : PySem.W.nsIn K mainGlobals "TooMany" = some (some (.ref C_TooMany)))
    (kc_TooMany : PySem.W.keepIn K (.ref C_TooMany) = true)
    (hd_TooMany : PySem.W.hasDictIn K C_TooMany = true)
    (ha_TooMany : PySem.W.findIn K (.ref C_TooMany) "__class__" = some (some (.builtin "object.__class__")))
    (hm_TooMany : PySem.W.mroIn K C_TooMany (.type "object") = some true)
    (b_TooMany : PySem.W.subIn K (.ref C_TooMany) (.type "BaseException") = some true)
    (t_TooMany : PySem.W.typeIn K (.ref C_TooMany) = some (.type "type"))
    (ga_TooMany : PySem.W.findIn K (.ref C_TooMany) "__getattribute__" = some (some (.builtin "BaseException.__getattribute__")))
    (gg_TooMany : PySem.W.findIn K (.ref C_TooMany) "__getattr__" = some none)
    (ol_TooMany : K.lookup C_TooMany = some (excClassObj nm_TooMany q_TooMany C_TooMany N_TooMany bs_TooMany bm_TooMany true sn_TooMany sub_TooMany ab_TooMany col_TooMany dd_TooMany k0_TooMany k1_TooMany k2_TooMany k3_TooMany k5_TooMany "ValueError.__new__"))
    (or_TooMany : PySem.HandSPX.refsVE bm_TooMany = true)
    (sa_TooMany : PySem.W.findIn K (.ref C_TooMany) "__setattr__" = some (some (.builtin "object.__setattr__")))
    (n_TooMany_many : PySem.W.findIn K (.ref C_TooMany) "many" = some none)
    (n_TooMany_most : PySem.W.findIn K (.ref C_TooMany) "most" = some none)
    (a_BadWish : PySem.W.nsIn K mainGlobals "BadWish" = some (some (.ref C_BadWish)))
    (kc_BadWish : PySem.W.keepIn K (.ref C_BadWish) = true)
    (hd_BadWish : PySem.W.hasDictIn K C_BadWish = true)
    (ha_BadWish : PySem.W.findIn K (.ref C_BadWish) "__class__" = some (some (.builtin "object.__class__")))
    (hm_BadWish : PySem.W.mroIn K C_BadWish (.type "object") = some true)
    (b_BadWish : PySem.W.subIn K (.ref C_BadWish) (.type "BaseException") = some true)
    (t_BadWish : PySem.W.typeIn K (.ref C_BadWish) = some (.type "type"))
    (ga_BadWish : PySem.W.findIn K (.ref C_BadWish) "__getattribute__" = some (some (.builtin "BaseException.__getattribute__")))
    (gg_BadWish : PySem.W.findIn K (.ref C_BadWish) "__getattr__" = some none)
    (ol_BadWish : K.lookup C_BadWish = some (excClassObj nm_BadWish q_BadWish C_BadWish N_BadWish bs_BadWish bm_BadWish true sn_BadWish sub_BadWish ab_BadWish col_BadWish dd_BadWish k0_BadWish k1_BadWish k2_BadWish k3_BadWish k5_BadWish "ValueError.__new__"))
    (or_BadWish : PySem.HandSPX.refsVE bm_BadWish = true)
    (sa_BadWish : PySem.W.findIn K (.ref C_BadWish) "__setattr__" = some (some (.builtin "object.__setattr__")))
    (n_BadWish_at : PySem.W.findIn K (.ref C_BadWish) "at" = some none)
    (a_Unlike : PySem.W.nsIn K mainGlobals "Unlike" = some (some (.ref C_Unlike)))
    (kc_Unlike : PySem.W.keepIn K (.ref C_Unlike) = true)
    (hd_Unlike : PySem.W.hasDictIn K C_Unlike = true)
    (ha_Unlike : PySem.W.findIn K (.ref C_Unlike) "__class__" = some (some (.builtin "object.__class__")))
    (hm_Unlike : PySem.W.mroIn K C_Unlike (.type "object") = some true)
    (b_Unlike : PySem.W.subIn K (.ref C_Unlike) (.type "BaseException") = some true)
    (t_Unlike : PySem.W.typeIn K (.ref C_Unlike) = some (.type "type"))
    (ga_Unlike : PySem.W.findIn K (.ref C_Unlike) "__getattribute__" = some (some (.builtin "BaseException.__getattribute__")))
    (gg_Unlike : PySem.W.findIn K (.ref C_Unlike) "__getattr__" = some none)
    (ol_Unlike : K.lookup C_Unlike = some (excClassObj nm_Unlike q_Unlike C_Unlike N_Unlike bs_Unlike bm_Unlike true sn_Unlike sub_Unlike ab_Unlike col_Unlike dd_Unlike k0_Unlike k1_Unlike k2_Unlike k3_Unlike k5_Unlike "ValueError.__new__"))
    (or_Unlike : PySem.HandSPX.refsVE bm_Unlike = true)
    (sa_Unlike : PySem.W.findIn K (.ref C_Unlike) "__setattr__" = some (some (.builtin "object.__setattr__")))
    (n_Unlike_at : PySem.W.findIn K (.ref C_Unlike) "at" = some none)
    (a_BadTable : PySem.W.nsIn K mainGlobals "BadTable" = some (some (.ref C_BadTable)))
    (kc_BadTable : PySem.W.keepIn K (.ref C_BadTable) = true)
    (hd_BadTable : PySem.W.hasDictIn K C_BadTable = true)
    (ha_BadTable : PySem.W.findIn K (.ref C_BadTable) "__class__" = some (some (.builtin "object.__class__")))
    (hm_BadTable : PySem.W.mroIn K C_BadTable (.type "object") = some true)
    (b_BadTable : PySem.W.subIn K (.ref C_BadTable) (.type "BaseException") = some true)
    (t_BadTable : PySem.W.typeIn K (.ref C_BadTable) = some (.type "type"))
    (ga_BadTable : PySem.W.findIn K (.ref C_BadTable) "__getattribute__" = some (some (.builtin "BaseException.__getattribute__")))
    (gg_BadTable : PySem.W.findIn K (.ref C_BadTable) "__getattr__" = some none)
    (ol_BadTable : K.lookup C_BadTable = some (excClassObj nm_BadTable q_BadTable C_BadTable N_BadTable bs_BadTable bm_BadTable true sn_BadTable sub_BadTable ab_BadTable col_BadTable dd_BadTable k0_BadTable k1_BadTable k2_BadTable k3_BadTable k5_BadTable "ValueError.__new__"))
    (or_BadTable : PySem.HandSPX.refsVE bm_BadTable = true)
    (sa_BadTable : PySem.W.findIn K (.ref C_BadTable) "__setattr__" = some (some (.builtin "object.__setattr__")))
    (n_BadTable_at : PySem.W.findIn K (.ref C_BadTable) "at" = some none)
    (a_NoBuyers : PySem.W.nsIn K mainGlobals "NoBuyers" = some (some (.ref C_NoBuyers)))
    (kc_NoBuyers : PySem.W.keepIn K (.ref C_NoBuyers) = true)
    (hd_NoBuyers : PySem.W.hasDictIn K C_NoBuyers = true)
    (ha_NoBuyers : PySem.W.findIn K (.ref C_NoBuyers) "__class__" = some (some (.builtin "object.__class__")))
    (hm_NoBuyers : PySem.W.mroIn K C_NoBuyers (.type "object") = some true)
    (b_NoBuyers : PySem.W.subIn K (.ref C_NoBuyers) (.type "BaseException") = some true)
    (t_NoBuyers : PySem.W.typeIn K (.ref C_NoBuyers) = some (.type "type"))
    (ga_NoBuyers : PySem.W.findIn K (.ref C_NoBuyers) "__getattribute__" = some (some (.builtin "BaseException.__getattribute__")))
    (gg_NoBuyers : PySem.W.findIn K (.ref C_NoBuyers) "__getattr__" = some none)
    (x_NoBuyers : PySem.W.excIn K C_NoBuyers [.type "ValueError", .type "Exception", .type "BaseException", .type "object"] "ValueError.__new__" = true)
    (a_ShelfError : PySem.W.nsIn K mainGlobals "ShelfError" = some (some (.ref C_ShelfError)))
    (kc_ShelfError : PySem.W.keepIn K (.ref C_ShelfError) = true)
    (hd_ShelfError : PySem.W.hasDictIn K C_ShelfError = true)
    (ha_ShelfError : PySem.W.findIn K (.ref C_ShelfError) "__class__" = some (some (.builtin "object.__class__")))
    (hm_ShelfError : PySem.W.mroIn K C_ShelfError (.type "object") = some true)
    (b_ShelfError : PySem.W.subIn K (.ref C_ShelfError) (.type "BaseException") = some true)
    (t_ShelfError : PySem.W.typeIn K (.ref C_ShelfError) = some (.type "type"))
    (ga_ShelfError : PySem.W.findIn K (.ref C_ShelfError) "__getattribute__" = some (some (.builtin "BaseException.__getattribute__")))
    (gg_ShelfError : PySem.W.findIn K (.ref C_ShelfError) "__getattr__" = some none)
    (hnc : PySem.W.specialIn K (.builtin "object.__class__") "__get__" = some (some (.builtin "getset_descriptor.__get__")))
    (htk : PySem.W.takesIn K (.builtin "object.__class__") = some true)
    (sub_NoBuyers_NoBuyers : PySem.W.subIn K (.ref C_NoBuyers) (.ref C_NoBuyers) = some true)
    (sub_NoBuyers_BadNumber : PySem.W.subIn K (.ref C_NoBuyers) (.ref C_BadNumber) = some false)
    (sub_NoBuyers_Unlike : PySem.W.subIn K (.ref C_NoBuyers) (.ref C_Unlike) = some false)
    (sub_BadNumber_NoBuyers : PySem.W.subIn K (.ref C_BadNumber) (.ref C_NoBuyers) = some false)
    (sub_BadNumber_BadNumber : PySem.W.subIn K (.ref C_BadNumber) (.ref C_BadNumber) = some true)
    (sub_BadNumber_Unlike : PySem.W.subIn K (.ref C_BadNumber) (.ref C_Unlike) = some false)
    (sub_Unlike_NoBuyers : PySem.W.subIn K (.ref C_Unlike) (.ref C_NoBuyers) = some false)
    (sub_Unlike_BadNumber : PySem.W.subIn K (.ref C_Unlike) (.ref C_BadNumber) = some false)
    (sub_Unlike_Unlike : PySem.W.subIn K (.ref C_Unlike) (.ref C_Unlike) = some true)
    (sub_NoBuyers_ShelfError : PySem.W.subIn K (.ref C_NoBuyers) (.ref C_ShelfError) = some true)
    (sub_BadNumber_ShelfError : PySem.W.subIn K (.ref C_BadNumber) (.ref C_ShelfError) = some true)
    (sub_Unlike_ShelfError : PySem.W.subIn K (.ref C_Unlike) (.ref C_ShelfError) = some true)
    (kit_NoBuyers_NoBuyers : PySem.W.kitOne K (.ref C_NoBuyers) (.ref C_NoBuyers) = some true)
    (kit_NoBuyers_BadNumber : PySem.W.kitOne K (.ref C_NoBuyers) (.ref C_BadNumber) = some false)
    (kit_NoBuyers_Unlike : PySem.W.kitOne K (.ref C_NoBuyers) (.ref C_Unlike) = some false)
    (kit_NoBuyers_BadWish : PySem.W.kitOne K (.ref C_NoBuyers) (.ref C_BadWish) = some false)
    (kit_NoBuyers_BadTable : PySem.W.kitOne K (.ref C_NoBuyers) (.ref C_BadTable) = some false)
    (kit_NoBuyers_TooMany : PySem.W.kitOne K (.ref C_NoBuyers) (.ref C_TooMany) = some false)
    (kit_NoBuyers_ValueError : PySem.W.kitOne K (.ref C_NoBuyers) (.type "ValueError") = some true)
    (kit_BadNumber_NoBuyers : PySem.W.kitOne K (.ref C_BadNumber) (.ref C_NoBuyers) = some false)
    (kit_BadNumber_BadNumber : PySem.W.kitOne K (.ref C_BadNumber) (.ref C_BadNumber) = some true)
    (kit_BadNumber_Unlike : PySem.W.kitOne K (.ref C_BadNumber) (.ref C_Unlike) = some false)
    (kit_BadNumber_BadWish : PySem.W.kitOne K (.ref C_BadNumber) (.ref C_BadWish) = some false)
    (kit_BadNumber_BadTable : PySem.W.kitOne K (.ref C_BadNumber) (.ref C_BadTable) = some false)
    (kit_BadNumber_TooMany : PySem.W.kitOne K (.ref C_BadNumber) (.ref C_TooMany) = some false)
    (kit_BadNumber_ValueError : PySem.W.kitOne K (.ref C_BadNumber) (.type "ValueError") = some true)
    (kit_Unlike_NoBuyers : PySem.W.kitOne K (.ref C_Unlike) (.ref C_NoBuyers) = some false)
    (kit_Unlike_BadNumber : PySem.W.kitOne K (.ref C_Unlike) (.ref C_BadNumber) = some false)
    (kit_Unlike_Unlike : PySem.W.kitOne K (.ref C_Unlike) (.ref C_Unlike) = some true)
    (kit_Unlike_BadWish : PySem.W.kitOne K (.ref C_Unlike) (.ref C_BadWish) = some false)
    (kit_Unlike_BadTable : PySem.W.kitOne K (.ref C_Unlike) (.ref C_BadTable) = some false)
    (kit_Unlike_TooMany : PySem.W.kitOne K (.ref C_Unlike) (.ref C_TooMany) = some false)
    (kit_Unlike_ValueError : PySem.W.kitOne K (.ref C_Unlike) (.type "ValueError") = some true)
    (kit_Weighted_Weighted : PySem.W.kitOne K (.ref C_Weighted) (.ref C_Weighted) = some true)
    (kit_Weighted_Rule : PySem.W.kitOne K (.ref C_Weighted) (.ref C_Rule) = some true)
    (kit_Weighted_Listed : PySem.W.kitOne K (.ref C_Weighted) (.ref C_Listed) = some false)
    (kit_Rule_Weighted : PySem.W.kitOne K (.ref C_Rule) (.ref C_Weighted) = some false)
    (kit_Rule_Rule : PySem.W.kitOne K (.ref C_Rule) (.ref C_Rule) = some true)
    (kit_Rule_Listed : PySem.W.kitOne K (.ref C_Rule) (.ref C_Listed) = some false)
    (kit_Listed_Weighted : PySem.W.kitOne K (.ref C_Listed) (.ref C_Weighted) = some false)
    (kit_Listed_Rule : PySem.W.kitOne K (.ref C_Listed) (.ref C_Rule) = some true)
    (kit_Listed_Listed : PySem.W.kitOne K (.ref C_Listed) (.ref C_Listed) = some true)
    (a_MOST_THINGS : PySem.W.nsIn K mainGlobals "MOST_THINGS" = some (some (.int 24 tk_MOST_THINGS)))
    (a1 : PySem.W.findIn K (.ref C_BadNumber) "__init__" = some (some (.ref f1))) (i1 : PySem.W.isFn K (.ref f1) = true)
    (l1 : K.lookup f1 = some ⟨oc1, od1, .func (PySem.W.fnOf "__init__" "BadNumber.__init__" (defArgs s_BadNumber___init__) (defBody s_BadNumber___init__) (defScope s_BadNumber___init__) .none kV1 dc1 pm1 an1 cd1 ct1), sl1⟩)
    (c1 : PySem.W.codeIn K cd1 "BadNumber.__init__" = true) (k1 : PySem.W.keepIn K (.ref f1) = true)
    (a2 : PySem.W.findIn K (.ref C_TooMany) "__init__" = some (some (.ref f2))) (i2 : PySem.W.isFn K (.ref f2) = true)
    (l2 : K.lookup f2 = some ⟨oc2, od2, .func (PySem.W.fnOf "__init__" "TooMany.__init__" (defArgs s_TooMany___init__) (defBody s_TooMany___init__) (defScope s_TooMany___init__) .none kV2 dc2 pm2 an2 cd2 ct2), sl2⟩)
    (c2 : PySem.W.codeIn K cd2 "TooMany.__init__" = true) (k2 : PySem.W.keepIn K (.ref f2) = true)
    (a3 : PySem.W.findIn K (.ref C_BadWish) "__init__" = some (some (.ref f3))) (i3 : PySem.W.isFn K (.ref f3) = true)
    (l3 : K.lookup f3 = some ⟨oc3, od3, .func (PySem.W.fnOf "__init__" "BadWish.__init__" (defArgs s_BadWish___init__) (defBody s_BadWish___init__) (defScope s_BadWish___init__) .none kV3 dc3 pm3 an3 cd3 ct3), sl3⟩)
    (c3 : PySem.W.codeIn K cd3 "BadWish.__init__" = true) (k3 : PySem.W.keepIn K (.ref f3) = true)
    (a4 : PySem.W.findIn K (.ref C_Unlike) "__init__" = some (some (.ref f4))) (i4 : PySem.W.isFn K (.ref f4) = true)
    (l4 : K.lookup f4 = some ⟨oc4, od4, .func (PySem.W.fnOf "__init__" "Unlike.__init__" (defArgs s_Unlike___init__) (defBody s_Unlike___init__) (defScope s_Unlike___init__) .none kV4 dc4 pm4 an4 cd4 ct4), sl4⟩)
    (c4 : PySem.W.codeIn K cd4 "Unlike.__init__" = true) (k4 : PySem.W.keepIn K (.ref f4) = true)
    (a5 : PySem.W.nsIn K mainGlobals "check_many" = some (some (.ref f5)))
    (l5 : K.lookup f5 = some ⟨oc5, od5, .func (PySem.W.fnOf "check_many" "check_many" (defArgs s_check_many) (defBody s_check_many) (defScope s_check_many) .none kV5 dc5 pm5 an5 cd5 ct5), sl5⟩)
    (c5 : PySem.W.codeIn K cd5 "check_many" = true) (k5 : PySem.W.keepIn K (.ref f5) = true)
    (a6 : PySem.W.nsIn K mainGlobals "check_each" = some (some (.ref f6)))
    (l6 : K.lookup f6 = some ⟨oc6, od6, .func (PySem.W.fnOf "check_each" "check_each" (defArgs s_check_each) (defBody s_check_each) (defScope s_check_each) .none kV6 dc6 pm6 an6 cd6 ct6), sl6⟩)
    (c6 : PySem.W.codeIn K cd6 "check_each" = true) (k6 : PySem.W.keepIn K (.ref f6) = true)
    (a7 : PySem.W.nsIn K mainGlobals "check_least" = some (some (.ref f7)))
    (l7 : K.lookup f7 = some ⟨oc7, od7, .func (PySem.W.fnOf "check_least" "check_least" (defArgs s_check_least) (defBody s_check_least) (defScope s_check_least) .none kV7 dc7 pm7 an7 cd7 ct7), sl7⟩)
    (c7 : PySem.W.codeIn K cd7 "check_least" = true) (k7 : PySem.W.keepIn K (.ref f7) = true)
    (a8 : PySem.W.nsIn K mainGlobals "check_aside" = some (some (.ref f8)))
    (l8 : K.lookup f8 = some ⟨oc8, od8, .func (PySem.W.fnOf "check_aside" "check_aside" (defArgs s_check_aside) (defBody s_check_aside) (defScope s_check_aside) .none kV8 dc8 pm8 an8 cd8 ct8), sl8⟩)
    (c8 : PySem.W.codeIn K cd8 "check_aside" = true) (k8 : PySem.W.keepIn K (.ref f8) = true)
    (sg9_Listed : PySem.W.ks_superIn K C_Listed C_Listed "__init__" = some (some (.ref f9)))
    (sg9_Mixed : PySem.W.ks_superIn K C_Mixed C_Mixed "__init__" = some (some (.ref f9)))
    (sg9_Weighted : PySem.W.ks_superIn K C_Weighted C_Weighted "__init__" = some (some (.ref f9)))
    (ai9 : PySem.W.findIn K (.ref C_Rule) "__init__" = some (some (.ref f9))) (ii9 : PySem.W.isFn K (.ref f9) = true)
    (l9 : K.lookup f9 = some ⟨oc9, od9, .func (PySem.W.fnOf "__init__" "Rule.__init__" (defArgs s_Rule___init__) (defBody s_Rule___init__) (defScope s_Rule___init__) .none kV9 dc9 pm9 an9 cd9 ct9), sl9⟩)
    (c9 : PySem.W.codeIn K cd9 "Rule.__init__" = true) (k9 : PySem.W.keepIn K (.ref f9) = true)
    (a10 : PySem.W.nsIn K mainGlobals "_can_be_wished" = some (some (.ref f10)))
    (l10 : K.lookup f10 = some ⟨oc10, od10, .func (PySem.W.fnOf "_can_be_wished" "_can_be_wished" (defArgs s__can_be_wished) (defBody s__can_be_wished) (defScope s__can_be_wished) .none kV10 dc10 pm10 an10 cd10 ct10), sl10⟩)
    (c10 : PySem.W.codeIn K cd10 "_can_be_wished" = true) (k10 : PySem.W.keepIn K (.ref f10) = true)
    (sa11 : PySem.W.clsIn K C_Listed = some cdW11)
    (sb11 : PySem.W.mroIn K C_Listed (.ref C_Listed) = some true)
    (a11 : PySem.W.findIn K (.ref C_Listed) "__init__" = some (some (.ref f11))) (i11 : PySem.W.isFn K (.ref f11) = true)
    (l11 : K.lookup f11 = some ⟨oc11, od11, .func (PySem.W.ksFn "__init__" "Listed.__init__" (defArgs s_Listed___init__) (defBody s_Listed___init__) (defScope s_Listed___init__) .none kV11 dc11 pm11 an11 (.ref cda11) ct11 cc11), sl11⟩)
    (c11 : PySem.W.codeIn K (.ref cda11) "Listed.__init__" = true) (k11 : PySem.W.keepIn K (.ref f11) = true)
    (sc11 : K.lookup cc11 = some ⟨cl11, cld11, .cell (some (.ref C_Listed)), csl11⟩)
    (sd11 : K.lookup cda11 = some ⟨ccl11, cdd11, .fields vs11, ccs11⟩)
    (se11 : vs11[2]? = some (.str fi11 tf11))
    (sh11 : PySem.W.typeIn K (.ref f9) = some (.type "function"))
    (si11 : PySem.W.fnIn K f9 = true)
    (sj11 : PySem.W.nsIn K cStatics "thirdparty.any" = some none)
    (sk11 : PySem.W.nsIn K mainGlobals "super" = some none)
    (sl_11 : ((l.prog.main.file : Str) == fi11) = true)
    (sm11 : (l.prog.main.scope.names.lookup ("super" : Str)).isSome = false)
    (sa12 : PySem.W.clsIn K C_Mixed = some cdW12)
    (sb12 : PySem.W.mroIn K C_Mixed (.ref C_Mixed) = some true)
    (a12 : PySem.W.findIn K (.ref C_Mixed) "__init__" = some (some (.ref f12))) (i12 : PySem.W.isFn K (.ref f12) = true)
    (l12 : K.lookup f12 = some ⟨oc12, od12, .func (PySem.W.ksFn "__init__" "Mixed.__init__" (defArgs s_Mixed___init__) (defBody s_Mixed___init__) (defScope s_Mixed___init__) .none kV12 dc12 pm12 an12 (.ref cda12) ct12 cc12), sl12⟩)
    (c12 : PySem.W.codeIn K (.ref cda12) "Mixed.__init__" = true) (k12 : PySem.W.keepIn K (.ref f12) = true)
    (sc12 : K.lookup cc12 = some ⟨cl12, cld12, .cell (some (.ref C_Mixed)), csl12⟩)
    (sd12 : K.lookup cda12 = some ⟨ccl12, cdd12, .fields vs12, ccs12⟩)
    (se12 : vs12[2]? = some (.str fi12 tf12))
    (sh12 : PySem.W.typeIn K (.ref f9) = some (.type "function"))
    (si12 : PySem.W.fnIn K f9 = true)
    (sj12 : PySem.W.nsIn K cStatics "thirdparty.any" = some none)
    (sk12 : PySem.W.nsIn K mainGlobals "super" = some none)
    (sl_12 : ((l.prog.main.file : Str) == fi12) = true)
    (sm12 : (l.prog.main.scope.names.lookup ("super" : Str)).isSome = false)
    (sa13 : PySem.W.clsIn K C_Weighted = some cdW13)
    (sb13 : PySem.W.mroIn K C_Weighted (.ref C_Weighted) = some true)
    (a13 : PySem.W.findIn K (.ref C_Weighted) "__init__" = some (some (.ref f13))) (i13 : PySem.W.isFn K (.ref f13) = true)
    (l13 : K.lookup f13 = some ⟨oc13, od13, .func (PySem.W.ksFn "__init__" "Weighted.__init__" (defArgs s_Weighted___init__) (defBody s_Weighted___init__) (defScope s_Weighted___init__) .none kV13 dc13 pm13 an13 (.ref cda13) ct13 cc13), sl13⟩)
    (c13 : PySem.W.codeIn K (.ref cda13) "Weighted.__init__" = true) (k13 : PySem.W.keepIn K (.ref f13) = true)
    (sc13 : K.lookup cc13 = some ⟨cl13, cld13, .cell (some (.ref C_Weighted)), csl13⟩)
    (sd13 : K.lookup cda13 = some ⟨ccl13, cdd13, .fields vs13, ccs13⟩)
    (se13 : vs13[2]? = some (.str fi13 tf13))
    (sh13 : PySem.W.typeIn K (.ref f9) = some (.type "function"))
    (si13 : PySem.W.fnIn K f9 = true)
    (sj13 : PySem.W.nsIn K cStatics "thirdparty.any" = some none)
    (sk13 : PySem.W.nsIn K mainGlobals "super" = some none)
    (sl_13 : ((l.prog.main.file : Str) == fi13) = true)
    (sm13 : (l.prog.main.scope.names.lookup ("super" : Str)).isSome = false)
    (a14 : PySem.W.nsIn K mainGlobals "_law_cell" = some (some (.ref f14)))
    (l14 : K.lookup f14 = some ⟨oc14, od14, .func (PySem.W.fnOf "_law_cell" "_law_cell" (defArgs s__law_cell) (defBody s__law_cell) (defScope s__law_cell) .none kV14 dc14 pm14 an14 cd14 ct14), sl14⟩)
    (c14 : PySem.W.codeIn K cd14 "_law_cell" = true) (k14 : PySem.W.keepIn K (.ref f14) = true)
    (a15 : PySem.W.nsIn K mainGlobals "_law_draws" = some (some (.ref f15)))
    (l15 : K.lookup f15 = some ⟨oc15, od15, .func (PySem.W.fnOf "_law_draws" "_law_draws" (defArgs s__law_draws) (defBody s__law_draws) (defScope s__law_draws) .none kV15 dc15 pm15 an15 cd15 ct15), sl15⟩)
    (c15 : PySem.W.codeIn K cd15 "_law_draws" = true) (k15 : PySem.W.keepIn K (.ref f15) = true)
    (a16 : PySem.W.nsIn K mainGlobals "_law_row" = some (some (.ref f16)))
    (l16 : K.lookup f16 = some ⟨oc16, od16, .func (PySem.W.fnOf "_law_row" "_law_row" (defArgs s__law_row) (defBody s__law_row) (defScope s__law_row) .none kV16 dc16 pm16 an16 cd16 ct16), sl16⟩)
    (c16 : PySem.W.codeIn K cd16 "_law_row" = true) (k16 : PySem.W.keepIn K (.ref f16) = true)
    (a17 : PySem.W.nsIn K mainGlobals "_law_ups" = some (some (.ref f17)))
    (l17 : K.lookup f17 = some ⟨oc17, od17, .func (PySem.W.fnOf "_law_ups" "_law_ups" (defArgs s__law_ups) (defBody s__law_ups) (defScope s__law_ups) .none kV17 dc17 pm17 an17 cd17 ct17), sl17⟩)
    (c17 : PySem.W.codeIn K cd17 "_law_ups" = true) (k17 : PySem.W.keepIn K (.ref f17) = true)
    (a18 : PySem.W.nsIn K mainGlobals "_law_is_int" = some (some (.ref f18)))
    (l18 : K.lookup f18 = some ⟨oc18, od18, .func (PySem.W.fnOf "_law_is_int" "_law_is_int" (defArgs s__law_is_int) (defBody s__law_is_int) (defScope s__law_is_int) .none kV18 dc18 pm18 an18 cd18 ct18), sl18⟩)
    (c18 : PySem.W.codeIn K cd18 "_law_is_int" = true) (k18 : PySem.W.keepIn K (.ref f18) = true)
    (a19 : PySem.W.nsIn K mainGlobals "_law_rule_of" = some (some (.ref f19)))
    (l19 : K.lookup f19 = some ⟨oc19, od19, .func (PySem.W.fnOf "_law_rule_of" "_law_rule_of" (defArgs s__law_rule_of) (defBody s__law_rule_of) (defScope s__law_rule_of) .none kV19 dc19 pm19 an19 cd19 ct19), sl19⟩)
    (c19 : PySem.W.codeIn K cd19 "_law_rule_of" = true) (k19 : PySem.W.keepIn K (.ref f19) = true)
    (a20 : PySem.W.nsIn K mainGlobals "_law_due" = some (some (.ref f20)))
    (l20 : K.lookup f20 = some ⟨oc20, od20, .func (PySem.W.fnOf "_law_due" "_law_due" (defArgs s__law_due) (defBody s__law_due) (defScope s__law_due) .none kV20 dc20 pm20 an20 cd20 ct20), sl20⟩)
    (c20 : PySem.W.codeIn K cd20 "_law_due" = true) (k20 : PySem.W.keepIn K (.ref f20) = true)
    (a21 : PySem.W.nsIn K mainGlobals "_law_mixture" = some (some (.ref f21)))
    (l21 : K.lookup f21 = some ⟨oc21, od21, .func (PySem.W.fnOf "_law_mixture" "_law_mixture" (defArgs s__law_mixture) (defBody s__law_mixture) (defScope s__law_mixture) .none kV21 dc21 pm21 an21 cd21 ct21), sl21⟩)
    (c21 : PySem.W.codeIn K cd21 "_law_mixture" = true) (k21 : PySem.W.keepIn K (.ref f21) = true)
    (a22 : PySem.W.nsIn K mainGlobals "_law_asked" = some (some (.ref f22)))
    (l22 : K.lookup f22 = some ⟨oc22, od22, .func (PySem.W.fnOf "_law_asked" "_law_asked" (defArgs s__law_asked) (defBody s__law_asked) (defScope s__law_asked) .none kV22 dc22 pm22 an22 cd22 ct22), sl22⟩)
    (c22 : PySem.W.codeIn K cd22 "_law_asked" = true) (k22 : PySem.W.keepIn K (.ref f22) = true)
    (a23 : PySem.W.nsIn K mainGlobals "_law_classes" = some (some (.ref f23)))
    (l23 : K.lookup f23 = some ⟨oc23, od23, .func (PySem.W.fnOf "_law_classes" "_law_classes" (defArgs s__law_classes) (defBody s__law_classes) (defScope s__law_classes) .none kV23 dc23 pm23 an23 cd23 ct23), sl23⟩)
    (c23 : PySem.W.codeIn K cd23 "_law_classes" = true) (k23 : PySem.W.keepIn K (.ref f23) = true)
    (a24 : PySem.W.nsIn K mainGlobals "_law_like" = some (some (.ref f24)))
    (l24 : K.lookup f24 = some ⟨oc24, od24, .func (PySem.W.fnOf "_law_like" "_law_like" (defArgs s__law_like) (defBody s__law_like) (defScope s__law_like) .none kV24 dc24 pm24 an24 cd24 ct24), sl24⟩)
    (c24 : PySem.W.codeIn K cd24 "_law_like" = true) (k24 : PySem.W.keepIn K (.ref f24) = true)
    (a25 : PySem.W.nsIn K mainGlobals "_law_kept" = some (some (.ref f25)))
    (l25 : K.lookup f25 = some ⟨oc25, od25, .func (PySem.W.fnOf "_law_kept" "_law_kept" (defArgs s__law_kept) (defBody s__law_kept) (defScope s__law_kept) .none kV25 dc25 pm25 an25 cd25 ct25), sl25⟩)
    (c25 : PySem.W.codeIn K cd25 "_law_kept" = true) (k25 : PySem.W.keepIn K (.ref f25) = true)
    (a26 : PySem.W.nsIn K mainGlobals "_law_numbers" = some (some (.ref f26)))
    (l26 : K.lookup f26 = some ⟨oc26, od26, .func (PySem.W.fnOf "_law_numbers" "_law_numbers" (defArgs s__law_numbers) (defBody s__law_numbers) (defScope s__law_numbers) .none kV26 dc26 pm26 an26 cd26 ct26), sl26⟩)
    (c26 : PySem.W.codeIn K cd26 "_law_numbers" = true) (k26 : PySem.W.keepIn K (.ref f26) = true)
    (a27 : PySem.W.nsIn K mainGlobals "law" = some (some (.ref f27)))
    (l27 : K.lookup f27 = some ⟨oc27, od27, .func (PySem.W.fnOf "law" "law" (defArgs s_law) (defBody s_law) (defScope s_law) .none kV27 dc27 pm27 an27 cd27 ct27), sl27⟩)
    (c27 : PySem.W.codeIn K cd27 "law" = true) (k27 : PySem.W.keepIn K (.ref f27) = true)
    (z_ValueError : PySem.W.nsIn K mainGlobals "ValueError" = some none)
    (z_all : PySem.W.nsIn K mainGlobals "all" = some none)
    (z_any : PySem.W.nsIn K mainGlobals "any" = some none)
    (z_bool : PySem.W.nsIn K mainGlobals "bool" = some none)
    (z_enumerate : PySem.W.nsIn K mainGlobals "enumerate" = some none)
    (z_int : PySem.W.nsIn K mainGlobals "int" = some none)
    (z_isinstance : PySem.W.nsIn K mainGlobals "isinstance" = some none)
    (z_len : PySem.W.nsIn K mainGlobals "len" = some none)
    (z_range : PySem.W.nsIn K mainGlobals "range" = some none)
    (z_set : PySem.W.nsIn K mainGlobals "set" = some none)
    (z_str : PySem.W.nsIn K mainGlobals "str" = some none)
    (z_tuple : PySem.W.nsIn K mainGlobals "tuple" = some none) :
    ∃ fd : FuncData, (∀ (s : Shared) (v : Value), BindsTo s fd ⟨[v], []⟩ [("_law_script", v)]) ∧ ∀ base : Heap, K.In base → base.Ns mainGlobals mg → FnOk l.prog w K mg base CX0 9 fa fd ["_law_script"] (sp_law K) := by
  have e := hfa.symm.trans (PySem.W.mg_of X G a27)
  cases e
  have m_ValueError := PySem.W.mg_none_of X G z_ValueError
  have m_all := PySem.W.mg_none_of X G z_all
  have m_any := PySem.W.mg_none_of X G z_any
  have m_bool := PySem.W.mg_none_of X G z_bool
  have m_enumerate := PySem.W.mg_none_of X G z_enumerate
  have m_int := PySem.W.mg_none_of X G z_int
  have m_isinstance := PySem.W.mg_none_of X G z_isinstance
  have m_len := PySem.W.mg_none_of X G z_len
  have m_range := PySem.W.mg_none_of X G z_range
  have m_set := PySem.W.mg_none_of X G z_set
  have m_str := PySem.W.mg_none_of X G z_str
  have m_tuple := PySem.W.mg_none_of X G z_tuple
  have T : Txt K mg C_Listed C_Mixed C_Weighted C_Rule C_BadNumber C_TooMany C_BadWish C_Unlike C_BadTable C_NoBuyers C_ShelfError := ⟨PySem.W.mg_of X G a_Listed, kc_Listed, hd_Listed, ha_Listed, hm_Listed, ⟨pg_Listed, hd_Listed, po_Listed, sa_Listed⟩, mk_Listed, n_Listed_many, n_Listed_wishes, PySem.W.mg_of X G a_Mixed, kc_Mixed, hd_Mixed, ha_Mixed, hm_Mixed, ⟨pg_Mixed, hd_Mixed, po_Mixed, sa_Mixed⟩, mk_Mixed, n_Mixed_many, n_Mixed_parts, PySem.W.mg_of X G a_Weighted, kc_Weighted, hd_Weighted, ha_Weighted, hm_Weighted, ⟨pg_Weighted, hd_Weighted, po_Weighted, sa_Weighted⟩, mk_Weighted, n_Weighted_many, n_Weighted_weights, n_Weighted_aside, PySem.W.mg_of X G a_Rule, kc_Rule, hd_Rule, ha_Rule, hm_Rule, ⟨pg_Rule, hd_Rule, po_Rule, sa_Rule⟩, mk_Rule, n_Rule_many, PySem.W.mg_of X G a_BadNumber, kc_BadNumber, hd_BadNumber, ha_BadNumber, hm_BadNumber, b_BadNumber, t_BadNumber, ga_BadNumber, gg_BadNumber, ⟨⟨_, _, _, _, _, _, _, _, _, _, _, _, _, _, _, ol_BadNumber, or_BadNumber⟩, sa_BadNumber, b_BadNumber, t_BadNumber, kc_BadNumber⟩, ⟨ga_BadNumber, gg_BadNumber, b_BadNumber, hd_BadNumber⟩, n_BadNumber_what, n_BadNumber_at, PySem.W.mg_of X G a_TooMany, kc_TooMany, hd_TooMany, ha_TooMany, hm_TooMany, b_TooMany, t_TooMany, ga_TooMany, gg_TooMany, ⟨⟨_, _, _, _, _, _, _, _, _, _, _, _, _, _, _, ol_TooMany, or_TooMany⟩, sa_TooMany, b_TooMany, t_TooMany, kc_TooMany⟩, ⟨ga_TooMany, gg_TooMany, b_TooMany, hd_TooMany⟩, n_TooMany_many, n_TooMany_most, PySem.W.mg_of X G a_BadWish, kc_BadWish, hd_BadWish, ha_BadWish, hm_BadWish, b_BadWish, t_BadWish, ga_BadWish, gg_BadWish, ⟨⟨_, _, _, _, _, _, _, _, _, _, _, _, _, _, _, ol_BadWish, or_BadWish⟩, sa_BadWish, b_BadWish, t_BadWish, kc_BadWish⟩, ⟨ga_BadWish, gg_BadWish, b_BadWish, hd_BadWish⟩, n_BadWish_at, PySem.W.mg_of X G a_Unlike, kc_Unlike, hd_Unlike, ha_Unlike, hm_Unlike, b_Unlike, t_Unlike, ga_Unlike, gg_Unlike, ⟨⟨_, _, _, _, _, _, _, _, _, _, _, _, _, _, _, ol_Unlike, or_Unlike⟩, sa_Unlike, b_Unlike, t_Unlike, kc_Unlike⟩, ⟨ga_Unlike, gg_Unlike, b_Unlike, hd_Unlike⟩, n_Unlike_at, PySem.W.mg_of X G a_BadTable, kc_BadTable, hd_BadTable, ha_BadTable, hm_BadTable, b_BadTable, t_BadTable, ga_BadTable, gg_BadTable, ⟨⟨_, _, _, _, _, _, _, _, _, _, _, _, _, _, _, ol_BadTable, or_BadTable⟩, sa_BadTable, b_BadTable, t_BadTable, kc_BadTable⟩, ⟨ga_BadTable, gg_BadTable, b_BadTable, hd_BadTable⟩, n_BadTable_at, PySem.W.mg_of X G a_NoBuyers, kc_NoBuyers, hd_NoBuyers, ha_NoBuyers, hm_NoBuyers, b_NoBuyers, t_NoBuyers, ga_NoBuyers, gg_NoBuyers, x_NoBuyers, PySem.W.mg_of X G a_ShelfError, kc_ShelfError, hd_ShelfError, ha_ShelfError, hm_ShelfError, b_ShelfError, t_ShelfError, ga_ShelfError, gg_ShelfError, hnc, htk, sub_NoBuyers_NoBuyers, sub_NoBuyers_BadNumber, sub_NoBuyers_Unlike, sub_BadNumber_NoBuyers, sub_BadNumber_BadNumber, sub_BadNumber_Unlike, sub_Unlike_NoBuyers, sub_Unlike_BadNumber, sub_Unlike_Unlike, sub_NoBuyers_ShelfError, sub_BadNumber_ShelfError, sub_Unlike_ShelfError, kit_NoBuyers_NoBuyers, kit_NoBuyers_BadNumber, kit_NoBuyers_Unlike, kit_NoBuyers_BadWish, kit_NoBuyers_BadTable, kit_NoBuyers_TooMany, kit_NoBuyers_ValueError, kit_BadNumber_NoBuyers, kit_BadNumber_BadNumber, kit_BadNumber_Unlike, kit_BadNumber_BadWish, kit_BadNumber_BadTable, kit_BadNumber_TooMany, kit_BadNumber_ValueError, kit_Unlike_NoBuyers, kit_Unlike_BadNumber, kit_Unlike_Unlike, kit_Unlike_BadWish, kit_Unlike_BadTable, kit_Unlike_TooMany, kit_Unlike_ValueError, kit_Weighted_Weighted, kit_Weighted_Rule, kit_Weighted_Listed, kit_Rule_Weighted, kit_Rule_Rule, kit_Rule_Listed, kit_Listed_Weighted, kit_Listed_Rule, kit_Listed_Listed, ⟨_, PySem.W.mg_of X G a_MOST_THINGS⟩⟩
  have F1 := fun_mk (st := s_BadNumber___init__) l1 c1 k1
  have b1 := F1.binds (ps := ["self", "what", "at"]) fun _ _ _ _ _ _ us hl => match us, hl with | [_, _, _], _ => rfl
  have F2 := fun_mk (st := s_TooMany___init__) l2 c2 k2
  have b2 := F2.binds (ps := ["self", "many", "most"]) fun _ _ _ _ _ _ us hl => match us, hl with | [_, _, _], _ => rfl
  have F3 := fun_mk (st := s_BadWish___init__) l3 c3 k3
  have b3 := F3.binds (ps := ["self", "at"]) fun _ _ _ _ _ _ us hl => match us, hl with | [_, _], _ => rfl
  have F4 := fun_mk (st := s_Unlike___init__) l4 c4 k4
  have b4 := F4.binds (ps := ["self", "at"]) fun _ _ _ _ _ _ us hl => match us, hl with | [_, _], _ => rfl
  have F5 := fun_mk (st := s_check_many) l5 c5 k5
  have b5 := F5.binds (ps := ["many", "most"]) fun _ _ _ _ _ _ us hl => match us, hl with | [_, _], _ => rfl
  have F6 := fun_mk (st := s_check_each) l6 c6 k6
  have b6 := F6.binds (ps := ["what", "numbers", "least"]) fun _ _ _ _ _ _ us hl => match us, hl with | [_, _, _], _ => rfl
  have F7 := fun_mk (st := s_check_least) l7 c7 k7
  have b7 := F7.binds (ps := ["what", "number", "least"]) fun _ _ _ _ _ _ us hl => match us, hl with | [_, _, _], _ => rfl
  have F8 := fun_mk (st := s_check_aside) l8 c8 k8
  have b8 := F8.binds (ps := ["aside"]) fun _ _ _ _ _ _ us hl => match us, hl with | [_], _ => rfl
  have F9 := fun_mk (st := s_Rule___init__) l9 c9 k9
  have b9 := F9.binds (ps := ["self", "many"]) fun _ _ _ _ _ _ us hl => match us, hl with | [_, _], _ => rfl
  have F10 := fun_mk (st := s__can_be_wished) l10 c10 k10
  have b10 := F10.binds (ps := ["things"]) fun _ _ _ _ _ _ us hl => match us, hl with | [_], _ => rfl
  have F11 : FunS K "__init__" "Listed.__init__" s_Listed___init__ cc11 cda11 f11 _ := ⟨⟨oc11, od11, kV11, dc11, pm11, an11, ct11, sl11, rfl, l11, c11⟩, k11⟩
  have b11 := F11.binds (ps := ["self", "many", "wishes"]) fun _ _ _ _ _ us hl => match us, hl with | [_, _, _], _ => rfl
  have S11 : SupC K mg C_Listed C_Listed cc11 cda11 f9 fi11 := ⟨⟨_, sa11⟩, sb11, ⟨_, _, _, sc11⟩, ⟨_, _, _, _, _, sd11, se11⟩, sg9_Listed, sh11, si11, sj11, PySem.W.mg_none_of X G sk11⟩
  have F12 : FunS K "__init__" "Mixed.__init__" s_Mixed___init__ cc12 cda12 f12 _ := ⟨⟨oc12, od12, kV12, dc12, pm12, an12, ct12, sl12, rfl, l12, c12⟩, k12⟩
  have S12 : SupC K mg C_Mixed C_Mixed cc12 cda12 f9 fi12 := ⟨⟨_, sa12⟩, sb12, ⟨_, _, _, sc12⟩, ⟨_, _, _, _, _, sd12, se12⟩, sg9_Mixed, sh12, si12, sj12, PySem.W.mg_none_of X G sk12⟩
  have F13 : FunS K "__init__" "Weighted.__init__" s_Weighted___init__ cc13 cda13 f13 _ := ⟨⟨oc13, od13, kV13, dc13, pm13, an13, ct13, sl13, rfl, l13, c13⟩, k13⟩
  have b13 := F13.binds (ps := ["self", "weights", "aside"]) fun _ _ _ _ _ us hl => match us, hl with | [_, _, _], _ => rfl
  have S13 : SupC K mg C_Weighted C_Weighted cc13 cda13 f9 fi13 := ⟨⟨_, sa13⟩, sb13, ⟨_, _, _, sc13⟩, ⟨_, _, _, _, _, sd13, se13⟩, sg9_Weighted, sh13, si13, sj13, PySem.W.mg_none_of X G sk13⟩
  have F14 := fun_mk (st := s__law_cell) l14 c14 k14
  have b14 := F14.binds (ps := ["_law_script", "_law_place"]) fun _ _ _ _ _ _ us hl => match us, hl with | [_, _], _ => rfl
  have F15 := fun_mk (st := s__law_draws) l15 c15 k15
  have b15 := F15.binds (ps := ["_law_cell_here", "_law_sizes"]) fun _ _ _ _ _ _ us hl => match us, hl with | [_, _], _ => rfl
  have F16 := fun_mk (st := s__law_row) l16 c16 k16
  have b16 := F16.binds (ps := ["_law_cell_here", "_law_count"]) fun _ _ _ _ _ _ us hl => match us, hl with | [_, _], _ => rfl
  have F17 := fun_mk (st := s__law_ups) l17 c17 k17
  have b17 := F17.binds (ps := ["_law_row_here"]) fun _ _ _ _ _ _ us hl => match us, hl with | [_], _ => rfl
  have F18 := fun_mk (st := s__law_is_int) l18 c18 k18
  have b18 := F18.binds (ps := ["_law_x"]) fun _ _ _ _ _ _ us hl => match us, hl with | [_], _ => rfl
  have F19 := fun_mk (st := s__law_rule_of) l19 c19 k19
  have b19 := F19.binds (ps := ["_law_kind", "_law_many"]) fun _ _ _ _ _ _ us hl => match us, hl with | [_, _], _ => rfl
  have F20 := fun_mk (st := s__law_due) l20 c20 k20
  have b20 := F20.binds (ps := ["_law_numbers_here"]) fun _ _ _ _ _ _ us hl => match us, hl with | [_], _ => rfl
  have F21 := fun_mk (st := s__law_mixture) l21 c21 k21
  have b21 := F21.binds (ps := ["_law_told"]) fun _ _ _ _ _ _ us hl => match us, hl with | [_], _ => rfl
  have F22 := fun_mk (st := s__law_asked) l22 c22 k22
  have b22 := F22.binds (ps := ["_law_told"]) fun _ _ _ _ _ _ us hl => match us, hl with | [_], _ => rfl
  have F23 := fun_mk (st := s__law_classes) l23 c23 k23
  have b23 := F23.binds (ps := ["_law_told"]) fun _ _ _ _ _ _ us hl => match us, hl with | [_], _ => rfl
  have F24 := fun_mk (st := s__law_like) l24 c24 k24
  have b24 := F24.binds (ps := ["_law_told", "_law_due_here"]) fun _ _ _ _ _ _ us hl => match us, hl with | [_, _], _ => rfl
  have F25 := fun_mk (st := s__law_kept) l25 c25 k25
  have b25 := F25.binds (ps := ["_law_told", "_law_numbers_here"]) fun _ _ _ _ _ _ us hl => match us, hl with | [_, _], _ => rfl
  have F26 := fun_mk (st := s__law_numbers) l26 c26 k26
  have b26 := F26.binds (ps := ["_law_drawn", "_law_buyers"]) fun _ _ _ _ _ _ us hl => match us, hl with | [_, _], _ => rfl
  have F27 := fun_mk (st := s_law) l27 c27 k27
  refine ⟨PySem.W.fnOf "law" "law" (defArgs s_law) (defBody s_law) (defScope s_law) .none kV27 dc27 pm27 an27 cd27 ct27, fun s v => .of_eq rfl, fun base _ _ => ?_⟩
  have K_BadNumber___init__ : CalX l.prog w K mg base CX0 1 C_BadNumber ["self", "what", "at"] (sp_BadNumber___init__ C_BadNumber) := ⟨f1, _, ok_BadNumber___init__ F1 T, a1, beq_iff_eq.mp i1, b1⟩
  have K_TooMany___init__ : CalX l.prog w K mg base CX0 1 C_TooMany ["self", "many", "most"] (sp_TooMany___init__ C_TooMany) := ⟨f2, _, ok_TooMany___init__ F2 T, a2, beq_iff_eq.mp i2, b2⟩
  have K_BadWish___init__ : CalX l.prog w K mg base CX0 1 C_BadWish ["self", "at"] (sp_BadWish___init__ C_BadWish) := ⟨f3, _, ok_BadWish___init__ F3 T, a3, beq_iff_eq.mp i3, b3⟩
  have K_Unlike___init__ : CalX l.prog w K mg base CX0 1 C_Unlike ["self", "at"] (sp_Unlike___init__ C_Unlike) := ⟨f4, _, ok_Unlike___init__ F4 T, a4, beq_iff_eq.mp i4, b4⟩
  have K_check_many : Cal l.prog w K mg base (L2.CX l.prog w) 3 "check_many" ["many", "most"] (sp_check_many C_TooMany) := ⟨f5, _, ok_check_many F5 T K_TooMany___init__, PySem.W.mg_of X G a5, k5, b5⟩
  have K_check_each : Cal l.prog w K mg base (L2.CX l.prog w) 3 "check_each" ["what", "numbers", "least"] (sp_check_each K C_BadNumber) := ⟨f6, _, ok_check_each F6 T m_enumerate K_BadNumber___init__, PySem.W.mg_of X G a6, k6, b6⟩
  have K_check_least : Cal l.prog w K mg base (L2.CX l.prog w) 3 "check_least" ["what", "number", "least"] (sp_check_least C_BadNumber) := ⟨f7, _, ok_check_least F7 T K_BadNumber___init__, PySem.W.mg_of X G a7, k7, b7⟩
  have K_check_aside : Cal l.prog w K mg base (L2.CX l.prog w) 4 "check_aside" ["aside"] (sp_check_aside C_BadNumber) := ⟨f8, _, ok_check_aside F8 T K_check_least, PySem.W.mg_of X G a8, k8, b8⟩
  have K_Rule___init__ : ∃ fd : FuncData, FnOk l.prog w K mg base (L2.CX l.prog w) 4 f9 fd ["self", "many"] (fun vs H Q E => ∃ C, C ∈ [C_Listed, C_Mixed, C_Weighted, C_Rule] ∧ sp_Rule___init__ C C_TooMany vs H Q E) ∧ Binds K fd ["self", "many"] [] := ⟨_, ok_Rule___init__ F9 T K_check_many, b9⟩
  have K__can_be_wished : Cal l.prog w K mg base CX0 1 "_can_be_wished" ["things"] sp__can_be_wished := ⟨f10, _, ok__can_be_wished F10 T m_all m_len m_set, PySem.W.mg_of X G a10, k10, b10⟩
  have K_Listed___init__ : CalI l.prog w K mg base (L2.CX l.prog w) 5 C_Listed ["self", "many", "wishes"] (sp_Listed___init__ C_Listed C_TooMany C_NoBuyers C_BadNumber C_BadWish) [] := ⟨f11, _, ok_Listed___init__ F11 S11 sl_11 sm11 T m_any m_enumerate m_len m_tuple (sup_for (sp := (fun C => sp_Rule___init__ C C_TooMany)) (C := C_Listed) (by simp) K_Rule___init__) K__can_be_wished K_BadNumber___init__ K_BadWish___init__, ⟨mk_Listed, a11, i11, kc_Listed⟩, b11, [], .nil, b11⟩
  have K_Mixed___init__ : ∃ f : Addr, FnR l.prog w K mg base (L2.CX l.prog w) 5 f (spStar (sp_Mixed___init__ C_Mixed C_NoBuyers C_BadNumber C_Unlike C_Weighted C_Rule C_Listed) 1) ∧ Mk K C_Mixed f := ⟨f12, ok_Mixed___init__ F12 S12 sl_12 sm12 T m_enumerate m_len (sup_for (sp := (fun C => sp_Rule___init__ C C_TooMany)) (C := C_Mixed) (by simp) K_Rule___init__) K_BadNumber___init__ K_Unlike___init__, ⟨mk_Mixed, a12, i12, kc_Mixed⟩⟩
  have K_Weighted___init__ : CalI l.prog w K mg base (L2.CX l.prog w) 5 C_Weighted ["self", "weights", "aside"] (sp_Weighted___init__ K C_Weighted C_TooMany C_BadNumber) [] := ⟨f13, _, ok_Weighted___init__ F13 S13 sl_13 sm13 T m_len m_tuple (sup_for (sp := (fun C => sp_Rule___init__ C C_TooMany)) (C := C_Weighted) (by simp) K_Rule___init__) K_check_each K_check_aside, ⟨mk_Weighted, a13, i13, kc_Weighted⟩, b13, [], .nil, b13⟩
  have K__law_cell : Cal l.prog w K mg base CX0 1 "_law_cell" ["_law_script", "_law_place"] (sp__law_cell K) := ⟨f14, _, ok__law_cell F14 T m_int m_len, PySem.W.mg_of X G a14, k14, b14⟩
  have K__law_draws : Cal l.prog w K mg base CX0 1 "_law_draws" ["_law_cell_here", "_law_sizes"] (sp__law_draws K) := ⟨f15, _, ok__law_draws F15 T m_int m_len m_range, PySem.W.mg_of X G a15, k15, b15⟩
  have K__law_row : Cal l.prog w K mg base CX0 2 "_law_row" ["_law_cell_here", "_law_count"] (sp__law_row K) := ⟨f16, _, ok__law_row F16 T m_int m_range K__law_draws, PySem.W.mg_of X G a16, k16, b16⟩
  have K__law_ups : Cal l.prog w K mg base CX0 1 "_law_ups" ["_law_row_here"] (sp__law_ups K) := ⟨f17, _, ok__law_ups F17 T, PySem.W.mg_of X G a17, k17, b17⟩
  have K__law_is_int : Cal l.prog w K mg base CX0 1 "_law_is_int" ["_law_x"] sp__law_is_int := ⟨f18, _, ok__law_is_int F18 T m_bool m_int m_isinstance, PySem.W.mg_of X G a18, k18, b18⟩
  have K__law_rule_of : Cal l.prog w K mg base (L2.CX l.prog w) 7 "_law_rule_of" ["_law_kind", "_law_many"] (sp__law_rule_of C_Weighted C_Rule C_Listed) := ⟨f19, _, ok__law_rule_of F19 T m_range K_Weighted___init__ (init_for (sp := (fun C => sp_Rule___init__ C C_TooMany)) (by simp) K_Rule___init__ ⟨mk_Rule, ai9, ii9, kc_Rule⟩) K_Listed___init__, PySem.W.mg_of X G a19, k19, b19⟩
  have K__law_due : Cal l.prog w K mg base CX0 1 "_law_due" ["_law_numbers_here"] sp__law_due := ⟨f20, _, ok__law_due F20 T m_len m_range, PySem.W.mg_of X G a20, k20, b20⟩
  have K__law_mixture : Cal l.prog w K mg base (L2.CX l.prog w) 7 "_law_mixture" ["_law_told"] (sp__law_mixture C_Mixed C_NoBuyers C_BadNumber C_Unlike C_Weighted C_Rule C_Listed) := ⟨f21, _, ok__law_mixture F21 T m_len K_Mixed___init__, PySem.W.mg_of X G a21, k21, b21⟩
  have K__law_asked : Cal l.prog w K mg base CX0 8 "_law_asked" ["_law_told"] (sp__law_asked C_Weighted C_Rule C_Listed) := ⟨f22, _, ok__law_asked F22 T K__law_mixture, PySem.W.mg_of X G a22, k22, b22⟩
  have K__law_classes : Cal l.prog w K mg base CX0 8 "_law_classes" ["_law_told"] (sp__law_classes C_Weighted C_Rule C_Listed) := ⟨f23, _, ok__law_classes F23 T m_ValueError m_isinstance K__law_mixture, PySem.W.mg_of X G a23, k23, b23⟩
  have K__law_like : Cal l.prog w K mg base CX0 2 "_law_like" ["_law_told", "_law_due_here"] sp__law_like := ⟨f24, _, ok__law_like F24 T m_isinstance m_len m_range m_str K__law_is_int, PySem.W.mg_of X G a24, k24, b24⟩
  have K__law_kept : Cal l.prog w K mg base CX0 2 "_law_kept" ["_law_told", "_law_numbers_here"] (sp__law_kept C_Weighted C_Rule C_Listed) := ⟨f25, _, ok__law_kept F25 T m_isinstance m_len m_range m_tuple K__law_is_int, PySem.W.mg_of X G a25, k25, b25⟩
  have K__law_numbers : Cal l.prog w K mg base CX0 1 "_law_numbers" ["_law_drawn", "_law_buyers"] (sp__law_numbers K) := ⟨f26, _, ok__law_numbers F26 T m_int m_range, PySem.W.mg_of X G a26, k26, b26⟩
  exact ok_law F27 T K__law_cell K__law_draws K__law_row K__law_ups K__law_numbers K__law_rule_of K__law_due K__law_asked K__law_classes K__law_like K__law_mixture K__law_is_int K__law_kept
end K23
open PySem PySem.W PyProof.Rows
set_option pp.maxSteps 400 in
set_option maxHeartbeats 0 in
theorem PySem.Challenge.cw_dearestshelf_k23_mixed_refusals_holds : PySem.Challenge.rw_dearestshelf_k23_mixed_refusals.Holds := by
  w_on; o_law; k_head; (case hw => w_witness2)
  k_fill
  refine L2.walk_of (l := PySem.Challenge.rw_dearestshelf_k23_mixed_refusals) (n := 63) (k := 9) (x := "_law_script") (CX := fun _ => L2.CX0) (sp := fun w => K23.sp_law _) rfl (by decide) rfl ⟨rfl, by decide, by decide⟩ (fun w h Y => PySem.W.kIn_of Y) ?F (fun _ _ a ns hl _ hS => ⟨a, ns, rfl, hS, hl, fun _ => rfl⟩) (fun _ _ _ _ _ h => h)
  case F =>
    intro w mg fa h KX G hmg
    refine' K23.all_mk KX G hmg ?a_Listed ?kc_Listed ?hd_Listed ?ha_Listed ?hm_Listed ?pg_Listed ?po_Listed ?sa_Listed ?mk_Listed ?n_Listed_many ?n_Listed_wishes ?a_Mixed ?kc_Mixed ?hd_Mixed ?ha_Mixed ?hm_Mixed ?pg_Mixed ?po_Mixed ?sa_Mixed ?mk_Mixed ?n_Mixed_many ?n_Mixed_parts ?a_Weighted ?kc_Weighted ?hd_Weighted ?ha_Weighted ?hm_Weighted ?pg_Weighted ?po_Weighted ?sa_Weighted ?mk_Weighted ?n_Weighted_many ?n_Weighted_weights ?n_Weighted_aside ?a_Rule ?kc_Rule ?hd_Rule ?ha_Rule ?hm_Rule ?pg_Rule ?po_Rule ?sa_Rule ?mk_Rule ?n_Rule_many ?a_BadNumber ?kc_BadNumber ?hd_BadNumber ?ha_BadNumber ?hm_BadNumber ?b_BadNumber ?t_BadNumber ?ga_BadNumber ?gg_BadNumber ?ol_BadNumber ?or_BadNumber ?sa_BadNumber ?n_BadNumber_what ?n_BadNumber_at ?a_TooMany ?kc_TooMany ?hd_TooMany ?ha_TooMany ?hm_TooMany ?b_TooMany ?t_TooMany ?ga_TooMany ?gg_TooMany ?ol_TooMany ?or_TooMany ?sa_TooMany ?n_TooMany_many ?n_TooMany_most ?a_BadWish ?kc_BadWish ?hd_BadWish ?ha_BadWish ?hm_BadWish ?b_BadWish ?t_BadWish ?ga_BadWish ?gg_BadWish ?ol_BadWish ?or_BadWish ?sa_BadWish ?n_BadWish_at ?a_Unlike ?kc_Unlike ?hd_Unlike ?ha_Unlike ?hm_Unlike ?b_Unlike ?t_Unlike ?ga_Unlike ?gg_Unlike ?ol_Unlike ?or_Unlike ?sa_Unlike ?n_Unlike_at ?a_BadTable ?kc_BadTable ?hd_BadTable ?ha_BadTable ?hm_BadTable ?b_BadTable ?t_BadTable ?ga_BadTable ?gg_BadTable ?ol_BadTable ?or_BadTable ?sa_BadTable ?n_BadTable_at ?a_NoBuyers ?kc_NoBuyers ?hd_NoBuyers ?ha_NoBuyers ?hm_NoBuyers ?b_NoBuyers ?t_NoBuyers ?ga_NoBuyers ?gg_NoBuyers ?x_NoBuyers ?a_ShelfError ?kc_ShelfError ?hd_ShelfError ?ha_ShelfError ?hm_ShelfError ?b_ShelfError ?t_ShelfError ?ga_ShelfError ?gg_ShelfError ?hnc ?htk ?sub_NoBuyers_NoBuyers ?sub_NoBuyers_BadNumber ?sub_NoBuyers_Unlike ?sub_BadNumber_NoBuyers ?sub_BadNumber_BadNumber ?sub_BadNumber_Unlike ?sub_Unlike_NoBuyers ?sub_Unlike_BadNumber ?sub_Unlike_Unlike ?sub_NoBuyers_ShelfError ?sub_BadNumber_ShelfError ?sub_Unlike_ShelfError ?kit_NoBuyers_NoBuyers ?kit_NoBuyers_BadNumber ?kit_NoBuyers_Unlike ?kit_NoBuyers_BadWish ?kit_NoBuyers_BadTable ?kit_NoBuyers_TooMany ?kit_NoBuyers_ValueError ?kit_BadNumber_NoBuyers ?kit_BadNumber_BadNumber ?kit_BadNumber_Unlike ?kit_BadNumber_BadWish ?kit_BadNumber_BadTable ?kit_BadNumber_TooMany ?kit_BadNumber_ValueError ?kit_Unlike_NoBuyers ?kit_Unlike_BadNumber ?kit_Unlike_Unlike ?kit_Unlike_BadWish ?kit_Unlike_BadTable ?kit_Unlike_TooMany ?kit_Unlike_ValueError ?kit_Weighted_Weighted ?kit_Weighted_Rule ?kit_Weighted_Listed ?kit_Rule_Weighted ?kit_Rule_Rule ?kit_Rule_Listed ?kit_Listed_Weighted ?kit_Listed_Rule ?kit_Listed_Listed ?a_MOST_THINGS ?a1 ?i1 ?l1 ?c1 ?k1 ?a2 ?i2 ?l2 ?c2 ?k2 ?a3 ?i3 ?l3 ?c3 ?k3 ?a4 ?i4 ?l4 ?c4 ?k4 ?a5 ?l5 ?c5 ?k5 ?a6 ?l6 ?c6 ?k6 ?a7 ?l7 ?c7 ?k7 ?a8 ?l8 ?c8 ?k8 ?sg9_Listed ?sg9_Mixed ?sg9_Weighted ?ai9 ?ii9 ?l9 ?c9 ?k9 ?a10 ?l10 ?c10 ?k10 ?sa11 ?sb11 ?a11 ?i11 ?l11 ?c11 ?k11 ?sc11 ?sd11 ?se11 ?sh11 ?si11 ?sj11 ?sk11 ?sl_11 ?sm11 ?sa12 ?sb12 ?a12 ?i12 ?l12 ?c12 ?k12 ?sc12 ?sd12 ?se12 ?sh12 ?si12 ?sj12 ?sk12 ?sl_12 ?sm12 ?sa13 ?sb13 ?a13 ?i13 ?l13 ?c13 ?k13 ?sc13 ?sd13 ?se13 ?sh13 ?si13 ?sj13 ?sk13 ?sl_13 ?sm13 ?a14 ?l14 ?c14 ?k14 ?a15 ?l15 ?c15 ?k15 ?a16 ?l16 ?c16 ?k16 ?a17 ?l17 ?c17 ?k17 ?a18 ?l18 ?c18 ?k18 ?a19 ?l19 ?c19 ?k19 ?a20 ?l20 ?c20 ?k20 ?a21 ?l21 ?c21 ?k21 ?a22 ?l22 ?c22 ?k22 ?a23 ?l23 ?c23 ?k23 ?a24 ?l24 ?c24 ?k24 ?a25 ?l25 ?c25 ?k25 ?a26 ?l26 ?c26 ?k26 ?a27 ?l27 ?c27 ?k27 ?z_ValueError ?z_all ?z_any ?z_bool ?z_enumerate ?z_int ?z_isinstance ?z_len ?z_range ?z_set ?z_str ?z_tuple
    (case a_Listed => k_is); (case kc_Listed => k_is); (case hd_Listed => k_is); (case ha_Listed => k_is); (case hm_Listed => k_is); (case pg_Listed => k_is); (case po_Listed => k_is); (case sa_Listed => k_is); (case mk_Listed => k_is); (case n_Listed_many => k_is); (case n_Listed_wishes => k_is); (case a_Mixed => k_is); (case kc_Mixed => k_is); (case hd_Mixed => k_is); (case ha_Mixed => k_is); (case hm_Mixed => k_is); (case pg_Mixed => k_is); (case po_Mixed => k_is); (case sa_Mixed => k_is); (case mk_Mixed => k_is); (case n_Mixed_many => k_is); (case n_Mixed_parts => k_is); (case a_Weighted => k_is); (case kc_Weighted => k_is); (case hd_Weighted => k_is); (case ha_Weighted => k_is); (case hm_Weighted => k_is); (case pg_Weighted => k_is); (case po_Weighted => k_is); (case sa_Weighted => k_is); (case mk_Weighted => k_is); (case n_Weighted_many => k_is); (case n_Weighted_weights => k_is); (case n_Weighted_aside => k_is); (case a_Rule => k_is); (case kc_Rule => k_is); (case hd_Rule => k_is); (case ha_Rule => k_is); (case hm_Rule => k_is); (case pg_Rule => k_is); (case po_Rule => k_is); (case sa_Rule => k_is); (case mk_Rule => k_is); (case n_Rule_many => k_is); (case a_BadNumber => k_is); (case kc_BadNumber => k_is); (case hd_BadNumber => k_is); (case ha_BadNumber => k_is); (case hm_BadNumber => k_is); (case b_BadNumber => k_is); (case t_BadNumber => k_is); (case ga_BadNumber => k_is); (case gg_BadNumber => k_is); (case ol_BadNumber => k_is); (case or_BadNumber => rfl); (case sa_BadNumber => k_is); (case n_BadNumber_what => k_is); (case n_BadNumber_at => k_is); (case a_TooMany => k_is); (case kc_TooMany => k_is); (case hd_TooMany => k_is); (case ha_TooMany => k_is); (case hm_TooMany => k_is); (case b_TooMany => k_is); (case t_TooMany => k_is); (case ga_TooMany => k_is); (case gg_TooMany => k_is); (case ol_TooMany => k_is); (case or_TooMany => rfl); (case sa_TooMany => k_is); (case n_TooMany_many => k_is); (case n_TooMany_most => k_is); (case a_BadWish => k_is); (case kc_BadWish => k_is); (case hd_BadWish => k_is); (case ha_BadWish => k_is); (case hm_BadWish => k_is); (case b_BadWish => k_is); (case t_BadWish => k_is); (case ga_BadWish => k_is); (case gg_BadWish => k_is); (case ol_BadWish => k_is); (case or_BadWish => rfl); (case sa_BadWish => k_is); (case n_BadWish_at => k_is); (case a_Unlike => k_is); (case kc_Unlike => k_is); (case hd_Unlike => k_is); (case ha_Unlike => k_is); (case hm_Unlike => k_is); (case b_Unlike => k_is); (case t_Unlike => k_is); (case ga_Unlike => k_is); (case gg_Unlike => k_is); (case ol_Unlike => k_is); (case or_Unlike => rfl); (case sa_Unlike => k_is); (case n_Unlike_at => k_is); (case a_BadTable => k_is); (case kc_BadTable => k_is); (case hd_BadTable => k_is); (case ha_BadTable => k_is); (case hm_BadTable => k_is); (case b_BadTable => k_is); (case t_BadTable => k_is); (case ga_BadTable => k_is); (case gg_BadTable => k_is); (case ol_BadTable => k_is); (case or_BadTable => rfl); (case sa_BadTable => k_is); (case n_BadTable_at => k_is); (case a_NoBuyers => k_is); (case kc_NoBuyers => k_is); (case hd_NoBuyers => k_is); (case ha_NoBuyers => k_is); (case hm_NoBuyers => k_is); (case b_NoBuyers => k_is); (case t_NoBuyers => k_is); (case ga_NoBuyers => k_is); (case gg_NoBuyers => k_is); (case x_NoBuyers => k_exc); (case a_ShelfError => k_is); (case kc_ShelfError => k_is); (case hd_ShelfError => k_is); (case ha_ShelfError => k_is); (case hm_ShelfError => k_is); (case b_ShelfError => k_is); (case t_ShelfError => k_is); (case ga_ShelfError => k_is); (case gg_ShelfError => k_is); (case hnc => k_is); (case htk => k_is); (case sub_NoBuyers_NoBuyers => (first | rfl | k_is)); (case sub_NoBuyers_BadNumber => (first | rfl | k_is)); (case sub_NoBuyers_Unlike => (first | rfl | k_is)); (case sub_BadNumber_NoBuyers => (first | rfl | k_is)); (case sub_BadNumber_BadNumber => (first | rfl | k_is)); (case sub_BadNumber_Unlike => (first | rfl | k_is)); (case sub_Unlike_NoBuyers => (first | rfl | k_is)); (case sub_Unlike_BadNumber => (first | rfl | k_is)); (case sub_Unlike_Unlike => (first | rfl | k_is)); (case sub_NoBuyers_ShelfError => (first | rfl | k_is)); (case sub_BadNumber_ShelfError => (first | rfl | k_is)); (case sub_Unlike_ShelfError => (first | rfl | k_is)); (case kit_NoBuyers_NoBuyers => kit_is); (case kit_NoBuyers_BadNumber => kit_is); (case kit_NoBuyers_Unlike => kit_is); (case kit_NoBuyers_BadWish => kit_is); (case kit_NoBuyers_BadTable => kit_is); (case kit_NoBuyers_TooMany => kit_is); (case kit_NoBuyers_ValueError => kit_is); (case kit_BadNumber_NoBuyers => kit_is); (case kit_BadNumber_BadNumber => kit_is); (case kit_BadNumber_Unlike => kit_is); (case kit_BadNumber_BadWish => kit_is); (case kit_BadNumber_BadTable => kit_is); (case kit_BadNumber_TooMany => kit_is); (case kit_BadNumber_ValueError => kit_is); (case kit_Unlike_NoBuyers => kit_is); (case kit_Unlike_BadNumber => kit_is); (case kit_Unlike_Unlike => kit_is); (case kit_Unlike_BadWish => kit_is); (case kit_Unlike_BadTable => kit_is); (case kit_Unlike_TooMany => kit_is); (case kit_Unlike_ValueError => kit_is); (case kit_Weighted_Weighted => kit_is); (case kit_Weighted_Rule => kit_is); (case kit_Weighted_Listed => kit_is); (case kit_Rule_Weighted => kit_is); (case kit_Rule_Rule => kit_is); (case kit_Rule_Listed => kit_is); (case kit_Listed_Weighted => kit_is); (case kit_Listed_Rule => kit_is); (case kit_Listed_Listed => kit_is); (case a_MOST_THINGS => k_is); (case a1 => k_is); (case i1 => k_is); (case l1 => k_is); (case c1 => k_is); (case k1 => k_is); (case a2 => k_is); (case i2 => k_is); (case l2 => k_is); (case c2 => k_is); (case k2 => k_is); (case a3 => k_is); (case i3 => k_is); (case l3 => k_is); (case c3 => k_is); (case k3 => k_is); (case a4 => k_is); (case i4 => k_is); (case l4 => k_is); (case c4 => k_is); (case k4 => k_is); (case a5 => k_is); (case l5 => k_is); (case c5 => k_is); (case k5 => k_is); (case a6 => k_is); (case l6 => k_is); (case c6 => k_is); (case k6 => k_is); (case a7 => k_is); (case l7 => k_is); (case c7 => k_is); (case k7 => k_is); (case a8 => k_is); (case l8 => k_is); (case c8 => k_is); (case k8 => k_is); (case sg9_Listed => ks_is); (case sg9_Mixed => ks_is); (case sg9_Weighted => ks_is); (case ai9 => k_is); (case ii9 => k_is); (case l9 => k_is); (case c9 => k_is); (case k9 => k_is); (case a10 => k_is); (case l10 => k_is); (case c10 => k_is); (case k10 => k_is); (case sa11 => k_is); (case sb11 => k_is); (case a11 => k_is); (case i11 => k_is); (case l11 => k_is); (case c11 => k_is); (case k11 => k_is); (case sc11 => k_is); (case sd11 => k_is); (case se11 => rfl); (case sh11 => k_is); (case si11 => k_is); (case sj11 => k_is); (case sk11 => k_is); (case sl_11 => (first | rfl | decide +kernel)); (case sm11 => (first | rfl | decide +kernel)); (case sa12 => k_is); (case sb12 => k_is); (case a12 => k_is); (case i12 => k_is); (case l12 => k_is); (case c12 => k_is); (case k12 => k_is); (case sc12 => k_is); (case sd12 => k_is); (case se12 => rfl); (case sh12 => k_is); (case si12 => k_is); (case sj12 => k_is); (case sk12 => k_is); (case sl_12 => (first | rfl | decide +kernel)); (case sm12 => (first | rfl | decide +kernel)); (case sa13 => k_is); (case sb13 => k_is); (case a13 => k_is); (case i13 => k_is); (case l13 => k_is); (case c13 => k_is); (case k13 => k_is); (case sc13 => k_is); (case sd13 => k_is); (case se13 => rfl); (case sh13 => k_is); (case si13 => k_is); (case sj13 => k_is); (case sk13 => k_is); (case sl_13 => (first | rfl | decide +kernel)); (case sm13 => (first | rfl | decide +kernel)); (case a14 => k_is); (case l14 => k_is); (case c14 => k_is); (case k14 => k_is); (case a15 => k_is); (case l15 => k_is); (case c15 => k_is); (case k15 => k_is); (case a16 => k_is); (case l16 => k_is); (case c16 => k_is); (case k16 => k_is); (case a17 => k_is); (case l17 => k_is); (case c17 => k_is); (case k17 => k_is); (case a18 => k_is); (case l18 => k_is); (case c18 => k_is); (case k18 => k_is); (case a19 => k_is); (case l19 => k_is); (case c19 => k_is); (case k19 => k_is); (case a20 => k_is); (case l20 => k_is); (case c20 => k_is); (case k20 => k_is); (case a21 => k_is); (case l21 => k_is); (case c21 => k_is); (case k21 => k_is); (case a22 => k_is); (case l22 => k_is); (case c22 => k_is); (case k22 => k_is); (case a23 => k_is); (case l23 => k_is); (case c23 => k_is); (case k23 => k_is); (case a24 => k_is); (case l24 => k_is); (case c24 => k_is); (case k24 => k_is); (case a25 => k_is); (case l25 => k_is); (case c25 => k_is); (case k25 => k_is); (case a26 => k_is); (case l26 => k_is); (case c26 => k_is); (case k26 => k_is); (case a27 => k_is); (case l27 => k_is); (case c27 => k_is); (case k27 => k_is); (case z_ValueError => k_is); (case z_all => k_is); (case z_any => k_is); (case z_bool => k_is); (case z_enumerate => k_is); (case z_int => k_is); (case z_isinstance => k_is); (case z_len => k_is); (case z_range => k_is); (case z_set => k_is); (case z_str => k_is); (case z_tuple => k_is)
