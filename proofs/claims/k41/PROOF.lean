import PyProof.Rows.All
import Wide.All
import OpenK.AllK
import Wide.FinOn
import HandS.ForMost
import HandS.ForExc
import HandS.Wide
import HandS.IsInst
import HandS.More
import HandS.Conv
import HandS.Evl
import HandS.ExcIs
import HandS.Defaults
import HandS.ExcInit
import HandS.ExcField
import HandS.TryMany
import HandS.Nested
import HandS.ClsMeth
import HandS.Iter
import HandS.Walk
import HandS.Style
import HandS.ListEq
import KE.KSuper
import KE.RegKSuper
import KE.KExcIs
import KE.RegKIsAll
import HandS.OwnEq
import PySem.Challenge.RW_dearestshelf_k41_stepping_refusals
set_option Elab.async false
set_option linter.all false
set_option maxRecDepth 100000
set_option maxHeartbeats 8000000
set_option exponentiation.threshold 10000
namespace K41
open PySem PySem.Spec PyProof.Rows L2
def top (i : Nat) : Stmt := PySem.Challenge.pw_dearestshelf_k41_stepping_refusals.main.body.getD i (.Pass ⟨0, 0, 0, 0⟩)
abbrev s_BadNumber___init__ : Stmt := inClass (top 7) 0
theorem sc_BadNumber___init__ : FnScope ["self", "what", "at"] ["self", "what", "at"] (defScope s_BadNumber___init__) := ⟨rfl, rfl, rfl, by decide +kernel, rfl, by decide +kernel, by decide +kernel⟩
abbrev s_TooMany___init__ : Stmt := inClass (top 8) 0
theorem sc_TooMany___init__ : FnScope ["self", "many", "most"] ["self", "many", "most"] (defScope s_TooMany___init__) := ⟨rfl, rfl, rfl, by decide +kernel, rfl, by decide +kernel, by decide +kernel⟩
abbrev s_check_many : Stmt := top 12
theorem sc_check_many : FnScope ["many", "most"] ["many", "most"] (defScope s_check_many) := ⟨rfl, rfl, rfl, by decide +kernel, rfl, by decide +kernel, by decide +kernel⟩
abbrev s_check_length : Stmt := top 13
theorem sc_check_length : FnScope ["what", "items", "many"] ["what", "items", "many"] (defScope s_check_length) := ⟨rfl, rfl, rfl, by decide +kernel, rfl, by decide +kernel, by decide +kernel⟩
abbrev s_check_each : Stmt := top 14
theorem sc_check_each : FnScope ["what", "numbers", "least", "at", "number"] ["what", "numbers", "least"] (defScope s_check_each) := ⟨rfl, rfl, rfl, by decide +kernel, rfl, by decide +kernel, by decide +kernel⟩
abbrev s_check_least : Stmt := top 15
theorem sc_check_least : FnScope ["what", "number", "least"] ["what", "number", "least"] (defScope s_check_least) := ⟨rfl, rfl, rfl, by decide +kernel, rfl, by decide +kernel, by decide +kernel⟩
abbrev s_check_aside : Stmt := top 16
theorem sc_check_aside : FnScope ["aside"] ["aside"] (defScope s_check_aside) := ⟨rfl, rfl, rfl, by decide +kernel, rfl, by decide +kernel, by decide +kernel⟩
abbrev s_Rule___init__ : Stmt := inClass (top 24) 0
theorem sc_Rule___init__ : FnScope ["self", "many"] ["self", "many"] (defScope s_Rule___init__) := ⟨rfl, rfl, rfl, by decide +kernel, rfl, by decide +kernel, by decide +kernel⟩
abbrev s__check_steps : Stmt := top 28
theorem sc__check_steps : FnScope ["steps", "many", "thing", "row", "number"] ["steps", "many"] (defScope s__check_steps) := ⟨rfl, rfl, rfl, by decide +kernel, rfl, by decide +kernel, by decide +kernel⟩
abbrev s_Stepping___init__ : Stmt := inClass (top 27) 0
theorem sc_Stepping___init__ : NdefX.NScope ["self", "first", "aside", "steps", "leaves", "__class__", "row"] ["self", "first", "aside", "steps", "leaves"] ["__class__"] (defScope s_Stepping___init__) := NdefX.nscope_by (by decide +kernel)
abbrev s__law_due : Stmt := top 38
theorem sc__law_due : FnScope ["_law_first", "_law_aside", "_law_steps", "_law_leaves", "_law_many", "_law_k", "_law_row", "_law_x"] ["_law_first", "_law_aside", "_law_steps", "_law_leaves"] (defScope s__law_due) := ⟨rfl, rfl, rfl, by decide +kernel, rfl, by decide +kernel, by decide +kernel⟩
abbrev s__law_tried : Stmt := top 39
theorem sc__law_tried : FnScope ["_law_first", "_law_aside", "_law_steps", "_law_leaves", "e"] ["_law_first", "_law_aside", "_law_steps", "_law_leaves"] (defScope s__law_tried) := ⟨rfl, rfl, rfl, by decide +kernel, rfl, by decide +kernel, by decide +kernel⟩
abbrev s__law_classes : Stmt := top 40
theorem sc__law_classes : FnScope ["_law_first", "_law_aside", "_law_steps", "_law_leaves", "e"] ["_law_first", "_law_aside", "_law_steps", "_law_leaves"] (defScope s__law_classes) := ⟨rfl, rfl, rfl, by decide +kernel, rfl, by decide +kernel, by decide +kernel⟩
abbrev s__law_is_int : Stmt := top 35
theorem sc__law_is_int : FnScope ["_law_x"] ["_law_x"] (defScope s__law_is_int) := ⟨rfl, rfl, rfl, by decide +kernel, rfl, by decide +kernel, by decide +kernel⟩
abbrev s__law_same_lot : Stmt := top 36
theorem sc__law_same_lot : FnScope ["_law_x", "_law_due_here", "_law_k"] ["_law_x", "_law_due_here"] (defScope s__law_same_lot) := ⟨rfl, rfl, rfl, by decide +kernel, rfl, by decide +kernel, by decide +kernel⟩
abbrev s__law_keeps : Stmt := top 41
theorem sc__law_keeps : FnScope ["_law_chain", "_law_question", "_law_many", "_law_k"] ["_law_chain", "_law_question"] (defScope s__law_keeps) := ⟨rfl, rfl, rfl, by decide +kernel, rfl, by decide +kernel, by decide +kernel⟩
abbrev s__law_cell : Stmt := top 32
theorem sc__law_cell : FnScope ["_law_script", "_law_place"] ["_law_script", "_law_place"] (defScope s__law_cell) := ⟨rfl, rfl, rfl, by decide +kernel, rfl, by decide +kernel, by decide +kernel⟩
abbrev s__law_draws : Stmt := top 33
theorem sc__law_draws : FnScope ["_law_cell_here", "_law_sizes", "_law_size", "_law_left", "_law_found", "_law_k", "_law_low", "_law_high"] ["_law_cell_here", "_law_sizes"] (defScope s__law_draws) := ⟨rfl, rfl, rfl, by decide +kernel, rfl, by decide +kernel, by decide +kernel⟩
abbrev s__law_stepping : Stmt := top 34
theorem sc__law_stepping : FnScope ["_law_cell_here", "_law_many", "_law_k", "_law_drawn", "_law_bound", "_law_first", "_law_leaves", "_law_aside", "_law_steps", "_law_row", "_law_j"] ["_law_cell_here", "_law_many"] (defScope s__law_stepping) := ⟨rfl, rfl, rfl, by decide +kernel, rfl, by decide +kernel, by decide +kernel⟩
abbrev s__law_spoilt : Stmt := top 37
theorem sc__law_spoilt : FnScope ["_law_told", "_law_fault", "_law_place", "_law_much", "_law_first", "_law_aside", "_law_row", "_law_steps", "_law_leaves", "_law_many", "_law_k"] ["_law_told", "_law_fault", "_law_place", "_law_much"] (defScope s__law_spoilt) := ⟨rfl, rfl, rfl, by decide +kernel, rfl, by decide +kernel, by decide +kernel⟩
abbrev s__law_answered : Stmt := top 42
theorem sc__law_answered : FnScope ["_law_question", "_law_due_here", "_law_first", "_law_row", "_law_steps", "_law_leaves", "_law_answer", "_law_k", "_law_classes_here"] ["_law_question"] (defScope s__law_answered) := ⟨rfl, rfl, rfl, by decide +kernel, rfl, by decide +kernel, by decide +kernel⟩
abbrev s_law : Stmt := top 43
theorem sc_law : FnScope ["_law_script", "_law_d", "_law_many", "_law_built", "_law_told", "_law_k", "_law_bad", "_law_much", "_law_question"] ["_law_script"] (defScope s_law) := ⟨rfl, rfl, rfl, by decide +kernel, rfl, by decide +kernel, by decide +kernel⟩

/-! ### mathematics of draws -/
def Within : List Int → List Int → Prop
  | [], [] => True
  | d :: ds, n :: ns => (0 ≤ d ∧ d < n) ∧ Within ds ns
  | _, _ => False
theorem Within.len : ∀ {ds ns : List Int}, Within ds ns → ds.length = ns.length
  | [], [], _ => rfl
  | _ :: ds, _ :: ns, h => by
    rw [List.length_cons, List.length_cons, Within.len h.2]
  | [], _ :: _, h => h.elim
  | _ :: _, [], h => h.elim
theorem Within.snoc : ∀ {ds ns : List Int} {d n : Int}, Within ds ns → 0 ≤ d → d < n → Within (ds ++ [d]) (ns ++ [n])
  | [], [], d, n, _, h0, h1 => ⟨⟨h0, h1⟩, True.intro⟩
  | _ :: ds, _ :: ns, d, n, h, h0, h1 => ⟨h.1, Within.snoc h.2 h0 h1⟩
  | [], _ :: _, _, _, h, _, _ => h.elim
  | _ :: _, [], _, _, h, _, _ => h.elim
theorem Within.step {ds ns : List Int} {d n : Int} {i : Nat} (h : Within ds (ns.take i)) (hi : ns[i]? = some n) (h0 : 0 ≤ d) (h1 : d < n) : Within (ds ++ [d]) (ns.take (i + 1)) := by
  rw [List.take_add_one, hi]
  exact h.snoc h0 h1
theorem Within.zero (ns : List Int) : Within [] (ns.take 0) := by
  rw [List.take_zero]
  exact True.intro
theorem Within.full {ds ns : List Int} (h : Within ds (ns.take ns.length)) : Within ds ns := by
  rw [List.take_length] at h
  exact h
theorem int_of {ns : List Int} {i : Nat} {x : V} (h : (ns.map V.int)[i]? = some x) : ∃ n, x = .int n ∧ ns[i]? = some n := by
  rw [List.getElem?_map] at h
  cases e : ns[i]? with
  | none =>
    rw [e] at h
    cases h
  | some z =>
    rw [e] at h
    exact ⟨z, (Option.some.inj h).symm, rfl⟩
theorem int_at {ns : List Int} {i : Nat} {n : Int} (h : ns[i]? = some n) : (ns.map V.int)[i]? = some (.int n) := by
  rw [List.getElem?_map, h]
  rfl
theorem snoc_int (ds : List Int) (d : Int) : ds.map V.int ++ [V.int d] = (ds ++ [d]).map V.int := by
  rw [List.map_append]
  rfl
theorem same_upd {H : Hp} {p : Addr} {o : HO} (h : H p = none) : Same H (upd H p o) := fun b x e => by
  rw [upd_ne (ne_of_none e h)]
  exact e
theorem same_mut {H H1 : Hp} {p : Addr} {o : HO} (s : Same H H1) (h : H p = none) : Same H (upd H1 p o) := fun b x e => by
  rw [upd_ne (ne_of_none e h)]
  exact s b x e
theorem same_tup {K : PySem.W.Frag} {H H' : Hp} {a : Addr} {xs : List V} (e : Same H H') (h : SqT K H a xs) : SqT K H' a xs := by
  rcases h with (h | ⟨o, h⟩) | h
  · exact .inl (.inl (e _ _ h))
  · exact .inl (.inr ⟨o, e _ _ h⟩)
  · exact .inr h
theorem w_div {j : Int} (h : 0 < j) (hb : j < 2 ^ 100) : CDivW 0 j := wide_div (b := 100) h (by omega) (by decide) (by decide)
theorem lst_l {K : PySem.W.Frag} {H : Hp} {a : Addr} {xs : List V} (h : H a = some (.lst xs)) : SqL K H a xs := .inl (.inl h)
theorem tup_t {K : PySem.W.Frag} {H : Hp} {a : Addr} {xs : List V} (h : H a = some (.tup xs)) : SqT K H a xs := .inl (.inl h)
theorem lc_yes {σ : L2.St} {H : Hp} {F : Bool → Hp → Prop} (h : F true H) : tYes σ H F := h
theorem Within.c {ds ns : List Int} {n : Int} (h : Within ds (n :: ns)) : ∃ d r, ds = d :: r ∧ 0 ≤ d ∧ d < n ∧ Within r ns := by
  cases ds with
  | nil => exact h.elim
  | cons d r => exact ⟨d, r, rfl, h.1.1, h.1.2, h.2⟩
theorem Within.n {ds : List Int} (h : Within ds []) : ds = [] := by
  cases ds with
  | nil => rfl
  | cons d r => exact h.elim
theorem kI : kitB "int" "int" = some true := by decide +kernel
theorem kB : kitB "int" "bool" = some false := by decide +kernel
theorem kT : kitB "tuple" "tuple" = some true := by decide +kernel

theorem cut_from (xs : List V) (k : Nat) : cutV xs (some (k : Int)) none = xs.drop k := by
  unfold cutV
  rw [HT.sIx_nat, HT.sIx_none]
  by_cases h : k ≤ xs.length
  · rw [Nat.min_eq_left h]
    exact List.take_of_length_le (by rw [List.length_drop]; exact Nat.le_refl _)
  · rw [Nat.min_eq_right (by omega), List.drop_of_length_le (Nat.le_refl _), List.drop_of_length_le (by omega), List.take_nil]
theorem cut_from1 (xs : List V) : cutV xs (some 1) none = xs.drop 1 := by
  unfold cutV
  rw [show HT.sIx xs.length 0 (some 1) = min 1 xs.length from HT.sIx_nat xs.length 0 1, HT.sIx_none]
  cases xs with
  | nil => rfl
  | cons x r =>
    rw [show min 1 (x :: r).length = 1 by
      rw [List.length_cons]
      omega]
    show (List.take ((x :: r).length - 1) r) = r
    rw [List.length_cons, Nat.add_sub_cancel]
    exact List.take_length
theorem big18 : (0 : Int) < 10 ^ 18 ∧ (10 : Int) ^ 18 < 2 ^ 100 := by decide
theorem cut_to (xs : List V) (k : Nat) : cutV xs none (some (k : Int)) = xs.take k := by
  unfold cutV
  rw [HT.sIx_none, HT.sIx_nat, List.drop_zero, Nat.sub_zero]
  by_cases h : k ≤ xs.length
  · rw [Nat.min_eq_left h]
  · rw [Nat.min_eq_right (by omega), List.take_of_length_le (Nat.le_refl _), List.take_of_length_le (by omega)]

theorem iteD {c A B : Prop} [Decidable c] (hc : c) (h : A) : if decide c = true then A else B := by
  rw [if_pos (decide_eq_true hc)]
  exact h
theorem iteDF {c A B : Prop} [Decidable c] (hc : ¬ c) (h : B) : if decide c = true then A else B := by
  rw [decide_eq_false hc]
  exact iteF h
open NdefX (NScope ncx startF CellsAt inv_startN)
open ClX (pin_new pin_at base_none unpinE)

/-! ### own classes and errors: rules that the layer lacks -/
section
variable {X : Cx}
/-- a field's read, its K by another name -/
theorem pe_fldK {K : PySem.W.Frag} {e : Expr} {f : Str} {pos : Pos} {ta : TE} (he : PE X e ta) (hb : attributeBase e f X.env (eval e X.env) = eval e X.env) (hK : X.K = K := by rfl) : PE X (.Attribute e f pos) (tFld K ta f) := by
  subst hK
  exact pe_fld he hb
/-- floor division by a divisor of either sign -/
def CDivWN (_ j : Int) : Prop := j ≠ 0 ∧ j.natAbs.log2 < 9000
theorem op_fdivWN : OpR X (binaryOp .FloorDiv) (rI CDivWN fun i j => .int (i.fdiv j)) := opI fun _ _ _ _ _ _ _ c k => floordiv_int c.1 k (.inl (PyProof.noPylong_of_log2 c.2))
/-- a new instance whose __init__ may let an error out, wished for at the slots that stand -/
theorem made_at {CX : CXT} {n : Nat} {g D : Addr} {gd : FuncData} {qs : List Str} {pr : Sp} {Ex : L2.St → XK} {us0 : List Value} {vs0 : List V} {pn : List (Addr × Obj)} {τ : L2.St} {H0 : Hp} {st : Shared} {W : VK} {as : List Value} {xs : List V}
    (MK : Mk X.K D g) (OK : FnOk X.prog X.w X.K X.mg X.base CX n g gd qs pr) (room : Room (n + 1) X.A) (bd : Binds X.K gd qs us0) (dv : Vals vs0 us0) (out : PassesAt CX X τ (Ex τ)) (J : Inv X pn τ H0 st) (rel : Vals xs as)
    (go : ∀ p q, H0 p = none → H0 q = none → q ≠ p → pr (.ref p :: (xs ++ vs0)) (upd (upd H0 q (.own p)) p (.ins D q [])) (fun v H2 => v = .non ∧ W (.ref p) H2) (Ex τ)) :
    wpAny (model X.prog X.w) X.A (call (.ref D) as) (EP X pn τ W) X.xe st := by
  have new1 := J.hok.fresh (Nat.le_succ st.heap.objs.size)
  have new2 := J.hok.fresh (Nat.le_refl st.heap.objs.size)
  have asked := go _ _ new1 new2 (Nat.ne_of_lt (Nat.lt_succ_self _))
  have J2 := Inv.made (C := D) J
  have rel2 : Vals (V.ref (st.heap.objs.size + 1) :: (xs ++ vs0)) (Value.ref (st.heap.objs.size + 1) :: (as ++ us0)) :=
    .cons rfl (rel.append dv)
  have len2 : (Value.ref (st.heap.objs.size + 1) :: as ++ us0).length = qs.length := (rel2.length.symm).trans (OK.len _ _ _ _ asked)
  have env2 := J2.env0.make D as []
  have bound := bd _ (Value.ref (st.heap.objs.size + 1) :: as) J2.kIn len2
  have ran := OK.run _ X.stack _ _ _ _ _ _ (Ex τ) (room.make D as []) env2 bound rel2 asked
  refine wpAny_call (make_map (f := g) J.kIn MK.makes MK.init (beq_iff_eq.mp MK.fn) (codeAny_mono ran ?_))
  rintro (e | fl) s' back
  · exact out pn _ _ e s' J2 back
  · cases fl with
    | ret u =>
      obtain ⟨v, H', J3, rv, rfl, w3⟩ := J2.after back
      exact ⟨rv, V.ref (st.heap.objs.size + 1), _, J3, rfl, w3⟩
    | next => exact back.elim
    | brk => exact back.elim
    | cont => exact back.elim
def tMakeS (D : Addr) (pr : Sp) (vs0 : List V) (Ex : L2.St → XK) (t : TA) : TE := fun τ H Q => t τ H fun xs H1 => ∀ p q, H1 p = none → H1 q = none → q ≠ p →
  pr (.ref p :: (xs ++ vs0)) (upd (upd H1 q (.own p)) p (.ins D q [])) (fun v H2 => v = .non ∧ Q (.ref p) H2) (Ex τ)
theorem pe_makeS {CX : CXT} {n : Nat} {g D : Addr} {gd : FuncData} {qs : List Str} {pr : Sp} {Ex : L2.St → XK} {us0 : List Value} {vs0 : List V} {x : Str} {p pos : Pos} {e : Expr} {es : List Expr} {t : TA}
    (MK : Mk X.K D g) (OK : FnOk X.prog X.w X.K X.mg X.base CX n g gd qs pr) (room : Room (n + 1) X.A) (gl : Gl X x) (at_ : X.mg x = some (.ref D)) (bd : Binds X.K gd qs us0) (dv : Vals vs0 us0) (out : ∀ τ, PassesAt CX X τ (Ex τ)) (args : PA X (e :: es) t)
    (plain : (x == ("__debug__" : Str)) = false := by decide) (first : starEach (e :: es) X.env = (false, eval e X.env) :: starEach es X.env := by rfl) (noStar : (backTo pos (starEach es X.env)).any (·.1) = false := by rfl) :
    PE X (.Call (.Name x p) (e :: es) [] pos) (tMakeS D pr vs0 Ex t) :=
  ⟨fun pn s τ H Q J h => wpAny_Call_Name_kw (ld_glob J gl at_ (PySem.W.callWith_K (h₀ := X.base) J.ok.mod.kin MK.kp (thn (args.run pos pn s τ H _ J h) fun _ _ ⟨_, _, J1, rel, go⟩ => ⟨J1.kIn, made_at MK OK room bd dv (out τ) J1 rel go⟩) first noStar) plain)⟩
/-- isinstance(e, c) in a suite, e the error that it holds (of an own class at D, without a dict of its own) -/
def rIsX (K : PySem.W.Frag) (a : Addr) (cls : Value) (d : Option Addr) : List V → Hp → VK → Prop := fun xs H Q => ∃ D : Addr, ExcC K D ∧ cls = .ref D ∧ d = none ∧ rIsE K D a xs H Q
theorem call_isX {K : PySem.W.Frag} {a : Addr} {cls : Value} {d : Option Addr} {oe : Obj} {pn : List (Addr × Obj)} (hz : Zc cls d oe) (hf : ∃ vs, oe.data = .fields vs) (hK : X.K = K := by rfl) :
    CallR (X.suite a ((a, oe) :: pn)) (.builtin "isinstance") (rIsX K a cls d) := by
  intro pins s σ H xs us Q I r h
  subst hK
  obtain ⟨D, ec, rfl, rfl, h⟩ := h
  exact call_isE ec hz hf pins s σ H xs us Q I r h
end
theorem lk_one {k : Str} {v : V} {r : List (Str × V)} : List.lookup k ((k, v) :: r) = some v := by
  simp [List.lookup]
theorem lk_two {k g : Str} {v : V} {r : List (Str × V)} (h : (k == g) = false) : List.lookup k ((g, v) :: r) = List.lookup k r := by
  simp only [List.lookup, h]

/-! ### super().__init__(e, ..) as a method's first statement -/
theorem inst_of' {X : Cx} {pins : List (Addr × Obj)} {σ : L2.St} {H : Hp} {s : Shared} {a C dx : Addr} {fs : List (Str × V)} (I : Inv X pins σ H s) (e : H a = some (.ins C dx fs)) :
    s.heap.get? a = some (PySem.W.instObj C dx) ∧ ∃ od, PySem.W.InstAt s.heap a (PySem.W.instObj C dx) C (some od) := by
  obtain ⟨mA, O, _⟩ := ins_get I.hok e
  obtain ⟨od, J, _⟩ := O.look
  exact ⟨O.obj, od, J⟩
/-- what the top has written of a class D above which super() looks, for an instance of the class C: the function g at the name -/
structure SupC (K : PySem.W.Frag) (mg : Str → Option Value) (C D cc cda g : Addr) (file : Str) : Prop where
  isD : ∃ cd, PySem.W.clsIn K D = some cd
  sub : PySem.W.mroIn K C (.ref D) = some true
  cell : ∃ cl cld csl, K.lookup cc = some ⟨cl, cld, .cell (some (.ref D)), csl⟩
  code : ∃ ccl cdd vs ccs tf, K.lookup cda = some ⟨ccl, cdd, .fields vs, ccs⟩ ∧ vs[2]? = some (.str file tf)
  sup : PySem.W.ks_superIn K C D "__init__" = some (some (.ref g))
  tg : PySem.W.typeIn K (.ref g) = some (.type "function")
  fg : PySem.W.fnIn K g = true
  opq : PySem.W.nsIn K cStatics "thirdparty.any" = some none
  nosup : mg "super" = none
section
variable {CX : CXT} {P : Program} {w : World} {K : PySem.W.Frag} {mg : Str → Option Value} {base : Heap} {k j : Nat} {f g cc cda C D : Addr} {name qual : Str} {params : Arguments} {scope : Scope} {dV kV doc pm ct oc : Value} {an od : Option Addr}
  {osl : Array (Option Value)} {N ps qs : List Str} {sp si : Sp} {gd : FuncData} {e : Expr} {es : List Expr} {rest : List Stmt} {p0 p1 p2 p3 p4 : Pos} {ar : Arg} {pl : Sem Bool}
abbrev supSt (p0 p1 p2 p3 p4 : Pos) (es : List Expr) : Stmt := .Expr (.Call (.Attribute (.Call (.Name "super" p0) [] [] p1) "__init__" p2) es [] p3) p4
theorem fn_super {file : Str} (lk : K.lookup f = some ⟨oc, od, .func (PySem.W.ksFn name qual params (supSt p0 p1 p2 p3 p4 (e :: es) :: rest) scope dV kV doc pm an (.ref cda) ct cc), osl⟩) (hcd : PySem.W.codeIn K (.ref cda) qual = true) (S : NScope N ps ["__class__"] scope)
    (SC : SupC K mg C D cc cda g file) (hfile : ((P.main.file : Str) == file) = true) (htop : (P.main.scope.names.lookup ("super" : Str)).isSome = false) (hpar : (params.posonlyargs ++ params.args).head? = some ar) (hN : N[0]? = some ar.arg) (hka : scope.names.lookup ar.arg = some .local)
    (hks : scope.names.lookup ("super" : Str) = some .globalImplicit) (hkc : scope.names.lookup ("__class__" : Str) = some .free)
    (len : ∀ vs H Q E, sp vs H Q E → vs.length = ps.length) (G : FnOk P w K mg base CX j g gd qs si) (bd : Binds K gd qs []) (hj : j ≤ k)
    (hi : ∀ L, interactive (PySem.W.ksEnv qual scope L f (.ref cda) cc) = false)
    (hsw : ∀ L, swapsWith (.Call (.Attribute (.Call (.Name "super" p0) [] [] p1) "__init__" p2) (e :: es) [] p3) none p4.line (PySem.W.ksEnv qual scope L f (.ref cda) cc) = pure false)
    (hev : ∀ L, eval (.Call (.Attribute (.Call (.Name "super" p0) [] [] p1) "__init__" p2) (e :: es) [] p3) (PySem.W.ksEnv qual scope L f (.ref cda) cc) = (do
      let ov ← attributeBase (.Call (.Name "super" p0) [] [] p1) "__init__" (PySem.W.ksEnv qual scope L f (.ref cda) cc) (eval (.Call (.Name "super" p0) [] [] p1) (PySem.W.ksEnv qual scope L f (.ref cda) cc))
      standAt p2.atName
      let (f', first) ← holding [ov] (getMethod ov "__init__" pl)
      callWith p3 f' first (backTo p3 (starEach (e :: es) (PySem.W.ksEnv qual scope L f (.ref cda) cc))) []))
    (hst : ∀ L, starEach (e :: es) (PySem.W.ksEnv qual scope L f (.ref cda) cc) = (false, eval e (PySem.W.ksEnv qual scope L f (.ref cda) cc)) :: starEach es (PySem.W.ksEnv qual scope L f (.ref cda) cc))
    (hpl : ∀ L, (backTo p3 (starEach es (PySem.W.ksEnv qual scope L f (.ref cda) cc))).any (·.1) = false)
    (hbody : ∀ (A : Around) (outer : List Env) (s : Shared) (H : Hp) (vs : List V) (Q : VK) (E : XK), Room k (A.deeper (PySem.W.ksEnv qual scope s.heap.objs.size f (.ref cda) cc)) → sp vs H Q E →
      ∃ (ta : TA) (tr : TS) (a dx : Addr) (fs : List (Str × V)) (us0 : List V) (Ei : XK),
        PA (ncx CX P w K mg base N ⟨name, qual, params, supSt p0 p1 p2 p3 p4 (e :: es) :: rest, scope, [("__class__", cc)], cda⟩ f A outer s H E) (e :: es) ta ∧
        PSs (ncx CX P w K mg base N ⟨name, qual, params, supSt p0 p1 p2 p3 p4 (e :: es) :: rest, scope, [("__class__", cc)], cda⟩ f A outer s H E) rest tr ∧
        Passes CX (ncx CX P w K mg base N ⟨name, qual, params, supSt p0 p1 p2 p3 p4 (e :: es) :: rest, scope, [("__class__", cc)], cda⟩ f A outer s H E) Ei ∧ vs = .ref a :: us0 ∧ H a = some (.ins C dx fs) ∧
        ta (startF N vs [none]) H (fun ws H1 => si (.ref a :: ws) H1 (fun _ H2 => tr { nx := fun _ H' => Q .non H', rt := Q } (startF N vs [none]) H2) Ei)) :
    FnOk P w K mg base CX (k + 1) f (PySem.W.ksFn name qual params (supSt p0 p1 p2 p3 p4 (e :: es) :: rest) scope dV kV doc pm an (.ref cda) ct cc) ps sp := by
  refine ⟨len, fun A outer s H args us vs Q E hr e0 hb r asked => ?_⟩
  have hl := len _ _ _ _ asked
  have kb : ∀ b o, base.get? b = some o → s.heap.get? b = some o := fun b o z => (e0.bs b o z).1
  have KX : K.In s.heap := e0.mod.kin.keeps kb
  have lim : s.heap.NoLimit := e0.mod.nolimit.keeps kb
  obtain ⟨cl, cld, csl, hcell⟩ := SC.cell
  obtain ⟨ccl, cdd, fv, ccs, tf, hcode, hfv⟩ := SC.code
  obtain ⟨cdD, hD⟩ := SC.isD
  have C0 : CellsAt [("__class__", cc)] ["__class__"] [none] s.heap H := by
    refine ⟨rfl, fun y c z => ?_, fun y z c h1 h2 => ?_, fun i y z => ?_⟩
    · have hc : c = cc := by
        simp only [List.lookup] at z
        split at z
        · exact (Option.some.inj z).symm
        · cases z
      subst hc
      exact ⟨(e0.bs _ _ (e0.mod.kin _ _ hcell)).2, _, _, KX _ _ hcell, rfl⟩
    · have one : ∀ {t : Str}, [(("__class__" : Str), cc)].lookup t = some c → t = "__class__" := fun {t} h => by
        simp only [List.lookup] at h
        split at h
        · exact beq_iff_eq.mp (by assumption)
        · cases h
      rw [one h1, one h2]
    · have hy : y = "__class__" := by
        cases i with
        | zero => simpa using z.symm
        | succ n => simp at z
      subst hy
      exact ⟨cc, rfl, fun v h => by cases i <;> simp at h⟩
  refine ks_codeAny_call_defAt (fd := PySem.W.ksFn name qual params (supSt p0 p1 p2 p3 p4 (e :: es) :: rest) scope dV kV doc pm an (.ref cda) ct cc) (body := supSt p0 p1 p2 p3 p4 (e :: es) :: rest) (binds := ps.zip us) hr.depth (KX _ _ lk) rfl lim (PySem.W.codeRec_of KX hcd) rfl hb S.nocell (fun ⟨n, _⟩ hy => S.par n (List.of_mem_zip hy).1) (fun h₁ hns kp => ?_) S.co S.gen S.kind
  obtain ⟨ta, tr, a, dx, fs, us0, Ei, hpa, hps, hpass, ev, ha, hq⟩ := hbody A outer s H vs Q E (hr.deeper _) asked
  subst ev
  have I : Inv (ncx CX P w K mg base N ⟨name, qual, params, supSt p0 p1 p2 p3 p4 (e :: es) :: rest, scope, [("__class__", cc)], cda⟩ f A outer s H E) [] (startF N (.ref a :: us0) [none]) H { s with heap := h₁, toks := s.toks + (ps.zip us).length } := inv_startN (F := ⟨name, qual, params, supSt p0 p1 p2 p3 p4 (e :: es) :: rest, scope, [("__class__", cc)], cda⟩) S hr.hd e0 hl r C0 hns kp
  generalize hX : ncx CX P w K mg base N ⟨name, qual, params, supSt p0 p1 p2 p3 p4 (e :: es) :: rest, scope, [("__class__", cc)], cda⟩ f A outer s H E = X at I hpa hps hpass
  have hXr := hX
  subst hX
  have rm := hr.deeper (PySem.W.ksEnv qual scope s.heap.objs.size f (.ref cda) cc)
  show PySem.wpAt (model P w) (A.deeper (PySem.W.ksEnv qual scope s.heap.objs.size f (.ref cda) cc)) (.func (supSt p0 p1 p2 p3 p4 (e :: es) :: rest) (PySem.W.ksEnv qual scope s.heap.objs.size f (.ref cda) cc)) (execs (supSt p0 p1 p2 p3 p4 (e :: es) :: rest) (PySem.W.ksEnv qual scope s.heap.objs.size f (.ref cda) cc)) _ _ _
  refine ks_wpAt_execs_cons (ks_wpAt_Expr_any (ks_wpAt_MethodCall (pl := pl) ?_ (hev _)) (hi _) (hsw _))
  have KI := I.kIn
  refine ks_wpAt_super_base (env := PySem.W.ksEnv qual scope s.heap.objs.size f (.ref cda) cc) hks hkc (by decide) rfl (KI _ _ lk) rfl hpar rfl (KI _ _ hcode) rfl hfv hfile htop ?_
  obtain ⟨mb, hb1, hb2⟩ := I.mod.blt
  refine PySem.W.ks_loadName_global S.kind hks (Calls.loadGlobal_builtin (env := PySem.W.ksEnv qual scope s.heap.objs.size f (.ref cda) cc) (I.mod.glob.keeps I.bk) SC.nosup (hb1.keeps I.bk) ((hb2 "super" (by decide)).trans (by rfl)) ⟨rfl, ?_⟩)
  refine wpAny_loadName_free S.kind hkc rfl ⟨_, KI _ _ hcell, rfl⟩ ?_
  obtain ⟨m, hn, hl'⟩ := I.loc
  obtain ⟨u, ru, lku⟩ := hl' 0 ar.arg (.ref a) hN rfl (.inl hka)
  cases (show u = Value.ref a from ru)
  have hmu : m ar.arg = some (.ref a) := by
    rcases lku with ⟨_, z⟩ | ⟨z, _⟩
    · exact z
    · have hk' : scope.names.lookup ar.arg = some .cell ∨ scope.names.lookup ar.arg = some .free := z
      rw [hka] at hk'
      rcases hk' with z | z <;> cases z
  refine wpAny_loadName_local S.kind hka hn hmu ?_
  obtain ⟨oD, hD1, hD2⟩ : ∃ oD, h₁.get? D = some oD ∧ oD.data = .cls cdD := by
    unfold PySem.W.clsIn at hD
    split at hD
    · rename_i c d cd' sl ho
      cases hD
      exact ⟨_, KI _ _ ho, rfl⟩
    · cases hD
  refine ks_wpAny_isType_cls hD1 hD2 (And.intro rfl ?_)
  obtain ⟨hoa, oda, J⟩ := inst_of' I ha
  refine ks_wpAny_call_super hD1 hD2 J.at_ J.cls (fun c z => ?_) (PySem.W.looks_mroIn KI SC.sub) (fun h2 e2 k2 => ?_)
  · have := J.no
    unfold PySem.W.notCls at this
    rw [z] at this
    exact Bool.noConfusion this
  have I2 := I.kept (h' := h2) (t' := s.toks + (ps.zip us).length) k2
  have K2 := I2.kIn
  obtain ⟨hoa2, oda2, J2⟩ := inst_of' I2 ha
  have sup := SC.sup
  unfold PySem.W.ks_superIn at sup
  cases hc : PySem.W.clsIn K C with
  | none => rw [hc] at sup; cases sup
  | some cdC =>
  rw [hc] at sup
  obtain ⟨og, hog, hogc⟩ : ∃ og, h2.get? g = some og ∧ og.cls = .type "function" := by
    have ht' : (K.lookup g).map (·.cls) = some (.type "function") := SC.tg
    cases z : K.lookup g with
    | none =>
      rw [z] at ht'
      cases ht'
    | some og =>
      rw [z] at ht'
      exact ⟨og, K2 _ _ z, Option.some.inj ht'⟩
  refine ks_wpAny_getMethod_super e2 (PySem.W.looks_opaque K2 SC.opq) (l₀ := cdC.mro) (fun A Q E s k q => wpAny_bind ((PySem.W.looks_clsIn K2 hc) A _ E s k (wpAny_pure q))) rfl K2 sup hog hogc (PySem.W.ks_ne K2 J2 hc) (by decide) ?_
  have I3 : Inv (ncx CX P w K mg base N ⟨name, qual, params, supSt p0 p1 p2 p3 p4 (e :: es) :: rest, scope, [("__class__", cc)], cda⟩ f A outer s H E) [(h2.objs.size, PySem.W.methodObj (.ref g) (.ref a))] (startF N (.ref a :: us0) [none]) H ⟨h2.push (PySem.W.methodObj (.ref g) (.ref a)), s.gens, s.drawn, s.toks + (ps.zip us).length + 1, s.os⟩ :=
    pin_new (s := ⟨h2, s.gens, s.drawn, s.toks + (ps.zip us).length, s.os⟩) I2 (fun _ _ z => Heap.get?_push_of_some _ z) (Nat.le_refl _) (Heap.get?_push_size h2 rfl) (fun v z => nomatch z)
  have hbq : base.get? h2.objs.size = none := base_none I2 (Nat.le_refl _)
  have hL : h2.objs.size ≠ s.heap.objs.size := (I3.pin (h2.objs.size, PySem.W.methodObj (.ref g) (.ref a)) (List.mem_append_right _ List.mem_cons_self)).2.2.1
  refine PySem.W.callWith_M (K := K) (h₀ := base) (first := []) e0.mod.kin (news_at hL hbq (pin_at I3)) List.mem_cons_self SC.fg ?_ (hst _) (hpl _)
  refine wpAny_mono (hpa.run p3 _ _ _ H _ I3 hq) (fun ws s4 h4 => ?_) fun _ _ z => z
  obtain ⟨vs4, H4, I4, r4, q4⟩ := h4
  refine ⟨⟨pin_at I4, I4.kIn⟩, ?_⟩
  have lenq : (Value.ref a :: ws).length = qs.length := by
    have z := G.len _ _ _ _ q4
    rw [← z, List.length_cons, List.length_cons, r4.length]
  have bound := bd s4 (Value.ref a :: ws) I4.kIn (by rw [List.append_nil]; exact lenq)
  rw [List.append_nil] at bound
  have rm' : Room k (A.deeper (PySem.W.ksEnv qual scope s.heap.objs.size f (.ref cda) cc)) := hr.deeper _
  refine wpAny_mono (Q := fun u s' => EP (ncx CX P w K mg base N ⟨name, qual, params, supSt p0 p1 p2 p3 p4 (e :: es) :: rest, scope, [("__class__", cc)], cda⟩ f A outer s H E) [(h2.objs.size, PySem.W.methodObj (.ref g) (.ref a))] (startF N (.ref a :: us0) [none]) (fun _ H2 => tr { nx := fun _ H' => Q .non H', rt := Q } (startF N (.ref a :: us0) [none]) H2) u s')
    (wpAny_call (PySem.W.method_call (pin_at I4) (codeAny_mono (G.run _ _ s4 H4 ⟨Value.ref a :: ws, []⟩ (Value.ref a :: ws) (.ref a :: vs4) _ Ei (rm'.mono hj) I4.env0 bound (.cons rfl r4) q4) fun rr s' back => ?_))) (fun u s5 h5 => ?_) fun _ _ z => z
  · cases rr with
    | error er => exact hpass _ _ _ _ er s' I4 back
    | ok fl =>
      cases fl with
      | ret u => exact I4.after back
      | next => exact back.elim
      | brk => exact back.elim
      | cont => exact back.elim
  · obtain ⟨v5, H5, I5, _, q5⟩ := unpinE h5
    refine PySem.wpAt_of_wpAny ?_
    refine wpAny_mono (hps.run [] _ _ H5 _ I5 q5) (fun fl s' hs => ?_) fun er s' hs => hs
    have last : ∀ {τ : L2.St} {G' : Hp} {x : V} {y : Value}, Inv (ncx CX P w K mg base N ⟨name, qual, params, supSt p0 p1 p2 p3 p4 (e :: es) :: rest, scope, [("__class__", cc)], cda⟩ f A outer s H E) [] τ G' s' → L2.RelV x y → Q x G' → CE outer P w H s Q y s' :=
      fun {_ G' x _} Z rel z => ⟨x, G', Z.os, Z.bare, Z.base, Z.hok, rel, z⟩
    cases fl with
    | next =>
      obtain ⟨_, _, Z, z⟩ := hs
      exact last (x := V.non) (y := Value.none) Z rfl z
    | ret y =>
      obtain ⟨_, _, _, Z, rel, z⟩ := hs
      exact last Z rel z
    | brk => exact hs.elim fun _ ⟨_, _, z⟩ => z.elim
    | cont => exact hs.elim fun _ ⟨_, _, z⟩ => z.elim
end
/-- such a method as the top has written it: cc the cell of its class, cda its code -/
def FunS (K : PySem.W.Frag) (name qual : Str) (st : Stmt) (cc cda f : Addr) (fd : FuncData) : Prop :=
  (∃ (oc : Value) (od : Option Addr) (kV doc pm : Value) (an : Option Addr) (ct : Value) (osl : Array (Option Value)), fd = PySem.W.ksFn name qual (defArgs st) (defBody st) (defScope st) .none kV doc pm an (.ref cda) ct cc ∧
    K.lookup f = some ⟨oc, od, .func fd, osl⟩ ∧ PySem.W.codeIn K (.ref cda) qual = true) ∧ PySem.W.keepIn K (.ref f) = true
theorem FunS.binds {K : PySem.W.Frag} {name qual : Str} {st : Stmt} {cc cda f : Addr} {fd : FuncData} {ps : List Str} (F : FunS K name qual st cc cda f fd)
    (h : ∀ (kV doc pm : Value) (an : Option Addr) (ct : Value) (us : List Value), us.length = ps.length → bindArgs (PySem.W.ksFn name qual (defArgs st) (defBody st) (defScope st) .none kV doc pm an (.ref cda) ct cc) ⟨us, []⟩ = pure (ps.zip us)) : Binds K fd ps [] := by
  obtain ⟨⟨oc, od, kV, doc, pm, an, ct, osl, rfl, _, _⟩, _⟩ := F
  exact .all (h kV doc pm an ct)

/-! ### isinstance of a caught error, with or without fields -/
section
variable {X : Cx}
def rIsY (K : PySem.W.Frag) (a : Addr) (cls : Value) (d : Option Addr) : List V → Hp → VK → Prop := fun xs H Q => ∃ D : Addr, ExcC K D ∧ cls = .ref D ∧ (d = none ∨ ∃ dd fs, d = some dd ∧ H dd = some (.xd fs)) ∧ rIsE K D a xs H Q
theorem call_isY {K : PySem.W.Frag} {a : Addr} {cls : Value} {d : Option Addr} {oe : Obj} {pn : List (Addr × Obj)} (hz : Zc cls d oe) (hf : ∃ vs, oe.data = .fields vs) (hK : X.K = K := by rfl) :
    CallR (X.suite a ((a, oe) :: pn)) (.builtin "isinstance") (rIsY K a cls d) := by
  intro pins s σ H xs us Q I r h
  subst hK
  obtain ⟨D, ec, rfl, hd, h⟩ := h
  rcases hd with rfl | ⟨dd, fs, rfl, hdd⟩
  · exact call_isE ec hz hf pins s σ H xs us Q I r h
  · obtain ⟨c, cv, b, rfl, same, known, q⟩ := h
    obtain ⟨w1, ws, rfl, r1, rs⟩ : ∃ w1 ws, us = w1 :: ws ∧ RelV (.ref a) w1 ∧ Vals [c] ws := by
      cases r with
      | cons p t => exact ⟨_, _, rfl, p, t⟩
    obtain ⟨w2, rfl, r2⟩ : ∃ w2, ws = [w2] ∧ RelV c w2 := by
      cases rs with
      | cons p t =>
        cases t
        exact ⟨_, rfl, p⟩
    cases (show w1 = Value.ref a from r1)
    cases same _ r2
    obtain ⟨there, _⟩ := I.pin (a, oe) (List.mem_append.mpr (.inl List.mem_cons_self))
    obtain ⟨vs, hv⟩ := hf
    obtain ⟨mA, ns, _⟩ := (show ObjOk X.prog X.w H s.heap dd (.xd fs) from I.hok dd _ hdd)
    obtain ⟨od, ho, _⟩ := lookIn_ns ns
    have J : PySem.W.InstAt s.heap a oe D (some od) := ⟨there, hz.1, by unfold PySem.W.notCls; rw [hv] <;> rfl, by rw [hz.2]; exact ho⟩
    have cl : (PySem.W.clsIn X.K D).isSome = true := by
      obtain ⟨cd, hc, _⟩ := PySem.W.any_some ec.hd
      rw [hc]
      rfl
    exact PySem.W.kia_one (PySem.W.kitx_exc cl ec.hg ec.hk ec.hs ec.ha ec.hn ec.ht ec.hm) I.kIn J known (fun z => nomatch z) fun tk => ⟨.bl b, H, I.kept (t' := tk) fun _ _ z => z, rfl, q⟩
end

/-! ### try with several «except C as n» -/
/-- what the clauses wish of an error, one after the other: class, the name's slot, the suite's reading -/
def wAsM (K : PySem.W.Frag) (out : WX) (D : Ends) : List (Value × Nat × (Addr → Value → Option Addr → TS)) → WX
  | [] => out
  | (c, i, t) :: more => fun cls d σ H => ∃ b, PySem.W.exmOne K cls c = some b ∧
      (b = true → ∀ a, H a = none → t a cls d { nx := fun σ' H' => D.nx (σ'.set i none) H', rt := D.rt, bk := fun σ' H' => D.bk (σ'.set i none) H', ct := fun σ' H' => D.ct (σ'.set i none) H' } (σ.set i (some (.ref a))) H) ∧
      (b = false → wAsM K out D more cls d σ H)
inductive ClausesOk (X : Cx) : List ExceptHandler → List (Value × Nat × (Addr → Value → Option Addr → TS)) → Prop
  | nil : ClausesOk X [] []
  | cons {x n : Str} {c : Value} {i : Nat} {t : Addr → Value → Option Addr → TS} {st : Stmt} {sts : List Stmt} {q q' : Pos} {hs : List ExceptHandler} {ls : List (Value × Nat × (Addr → Value → Option Addr → TS))} (known : Names X x c) (slot : X.N[i]? = some n)
      (lo : X.env.kindOf n = some .local) (suite : ∀ (a : Addr) (oe : Obj) (cls : Value) (d : Option Addr) (pn : List (Addr × Obj)), Zc cls d oe → (∃ vs, oe.data = .fields vs) → PSs (X.suite a ((a, oe) :: pn)) (st :: sts) (t a cls d))
      (more : ClausesOk X hs ls) : ClausesOk X (.ExceptHandler (some (.Name x q)) (some n) (st :: sts) q' :: hs) ((c, i, t) :: ls)
section
variable {X : Cx} {body : List Stmt} {h1 : ExceptHandler} {hs : List ExceptHandler} {ls : List (Value × Nat × (Addr → Value → Option Addr → TS))} {pos : Pos} {tb : WX → TS} {out : WX}
theorem ps_try_asM (st : X.stack = X.env :: X.outer) (fr : X.env.frame = some X.env.locals) (nd : X.N.Nodup) (tk : Takes X out)
    (runs : ∀ (W : WX) (pn : List (Addr × Obj)) (xe : Value → Shared → Prop), Takes (X.tr pn xe) W → PassesOwn (model X.prog X.w) X.A X.env xe → PSs (X.tr pn xe) body (tb W))
    (cl : ClausesOk X (h1 :: hs) ls) : PS X (.Try body (h1 :: hs) [] [] pos) (fun D σ H => tb (wAsM X.K out D ls) D σ H) := by
  refine ⟨fun pins s σ H D I want => ?_⟩
  have ok := I.ok
  have frames : X.A.frames = some (X.env :: X.outer) := by rw [ok.frames, st]
  refine wpAny_Try_except ?_
  refine wpAny_mono ((runs (wAsM X.K out D ls) (X.pn ++ pins) (fun u t1 => wpAny (model X.prog X.w) X.A (noteFrame u X.env) (fun _ t2 => wpAny (model X.prog X.w) X.A (setFlight u none)
    (fun _ t3 => wpAny (model X.prog X.w) X.A (handleBy u X.env (h1 :: hs)) (SP X pins D) X.xe t3) X.xe t2) X.xe t1) (fun u t0 flown => ?_) PassesOwn.looking).run [] s σ H D (I.toTry _) want) (fun f t0 done => ?_) (fun _ _ y => y)
  · obtain ⟨a, B, sI, pins1, σ1, H1, cls, d, rfl, J0, bare, kept, sky, fresh, osE, agree, wish⟩ := flown
    have J : Inv X pins σ1 H1 sI := J0.ofTry ok
    have sky1 : Sky B (X.env :: X.outer) a (Zc cls d) X.env.locals t0.heap := st ▸ sky
    show wpAny (model X.prog X.w) X.A (noteFrame (.ref a) X.env) _ X.xe t0
    refine Sky.land Zc.steady frames fr sky1 fun g fl up => ?_
    obtain ⟨oe, vs, atE, zE, dataE⟩ := fl.there
    have outF : a ∉ frs (X.env :: X.outer) := fun mem => by
      obtain ⟨_, o, here, no⟩ := fl.2.2.1.mem mem
      cases atE.symm.trans here
      exact no _ dataE
    have nL : a ≠ X.env.locals := fun z => outF (List.mem_filterMap.mpr ⟨X.env, List.mem_cons_self, by rw [fr, z]⟩)
    have nF : a ∉ X.fs := fun mem => outF (by
      obtain ⟨e, m1, m2⟩ := List.mem_filterMap.mp mem
      exact List.mem_filterMap.mpr ⟨e, List.mem_cons_of_mem _ m1, m2⟩)
    have J1 : Inv X pins σ1 H1 { t0 with heap := g } := J.landed bare fl.1 (kept.trans up) osE agree
    have S1 := J1.suite atE dataE fresh nL nF
    have go : ∀ {hh : List ExceptHandler} {ll : List (Value × Nat × (Addr → Value → Option Addr → TS))}, ClausesOk X hh ll → wAsM X.K out D ll cls d σ1 H1 → wpAny (model X.prog X.w) X.A (handleBy (.ref a) X.env hh) (SP X pins D) X.xe { t0 with heap := g } := by
      intro hh ll cc
      induction cc with
      | nil =>
        intro fly
        refine wpAny_handleBy_nil ?_
        obtain ⟨_, _, _, o, ws, T, oT, ts, g1, g2, g3, g4, _⟩ := id fl
        unfold PySem.passOn
        refine wpAny_bind (wpAny_field g1 g3 g4 ?_)
        rw [if_neg (by simp : ¬ ((Value.ref T == Value.none) = true))]
        have on : wpAny (model X.prog X.w) X.A (setFlight (.ref a) X.env.frame) (fun _ t4 => wpAny (model X.prog X.w) X.A (throw (.ref a) : Sem Flow) (SP X pins D) X.xe t4) X.xe { t0 with heap := g } := by
          rw [fr]
          exact HandSPX.setFlight_upZ fl fun g' sky' up' => wpAny_throw (tk _ _ ⟨a, B, sI, pins, σ1, H1, cls, d, rfl, J, bare, (kept.trans up).trans up', .inr (.inr (by rw [st]; exact sky')), fresh, osE, agree, fly⟩)
        first
          | exact wpAny_bind (wpAny_pure (wpAny_bind on))
          | exact wpAny_bind on
      | @cons x n c i t b₀ bs q q' hs' ls' known slot lo suite more ih =>
        intro w1
        obtain ⟨b, asked, yes, no⟩ := w1
        refine wpAny_handleBy_cons (codeAny_handlers_test ?_) (fun z => by cases z)
        have typ : PySem.W.Looks (model X.prog X.w) g (typeOf (.ref a)) cls := fun _ _ _ _ k z => wpAny_typeOf_ref (k _ _ atE) (by rw [zE.1]; exact z)
        have name : ∀ {Q : Value → Shared → Prop} {E : Value → Shared → Prop}, Q c { t0 with heap := g } → wpAny (model X.prog X.w) (X.A.mark (some (.ref a))) (eval (.Name x q) X.env) Q E { t0 with heap := g } := fun {Q E} z => by
          obtain ⟨k1, k2, k3 | ⟨k3, k4, k5⟩⟩ := known
          · exact ld_glob (X := X.suite a ((a, oe) :: (X.pn ++ pins))) S1 k1 k3 z k2
          · exact ld_blt (X := X.suite a ((a, oe) :: (X.pn ++ pins))) S1 k1 k3 k4 z k5 k2
        refine name ((PySem.W.exm_one (M := model X.prog X.w) J1.kIn typ asked).here ?_)
        cases b with
        | false => exact ih (no rfl)
        | true =>
          refine codeAny_handlers_suite_as (HandSPX.lands_againZ fl fun g' fl' up' => ?_)
          obtain ⟨oe', ws, atE', zE', dataE'⟩ := fl'.there
          have J2 : Inv X pins σ1 H1 { t0 with heap := g' } := J.landed bare fl'.1 ((kept.trans up).trans up') osE agree
          have S2 := J2.suite atE' dataE' fresh nL nF
          refine store_ok (X := X.suite a ((a, oe') :: (X.pn ++ pins))) (v := .ref a) S2 nd slot (.inl lo) rfl (fun t5 S5 => ?_) (.inr lo)
          refine wpAny_mono ((suite a oe' cls d (X.pn ++ pins) zE' ⟨_, dataE'⟩).run [] t5 _ H1 _ S5 (yes rfl a fresh)) (fun f t6 done => ?_) (fun _ _ z => z.elim)
          have gone : ∀ {σ6 : L2.St} {H6 : Hp} {Q : Shared → Prop}, Inv (X.suite a ((a, oe') :: (X.pn ++ pins))) [] σ6 H6 t6 → (∀ t7, Inv X pins (σ6.set i none) H6 t7 → Q t7) →
              wpAny (model X.prog X.w) X.A (do bindName X.env n .none; unbindBehindTheSuite X.env n q') (fun _ t7 => Q t7) X.xe t6 := fun S6 z => gone_ok (S6.unsuite ok) nd slot lo z
          cases f with
          | ret u =>
            obtain ⟨v6, σ6, H6, S6, r6, q6⟩ := done
            exact gone S6 fun _ J7 => ⟨_, _, _, J7, r6, q6⟩
          | next =>
            obtain ⟨_, _, S6, q6⟩ := done
            exact gone S6 fun _ J7 => ⟨_, _, J7, q6⟩
          | brk =>
            obtain ⟨_, _, S6, q6⟩ := done
            exact gone S6 fun _ J7 => ⟨_, _, J7, q6⟩
          | cont =>
            obtain ⟨_, _, S6, q6⟩ := done
            exact gone S6 fun _ J7 => ⟨_, _, J7, q6⟩
    exact go cl wish
  · cases f with
    | ret u =>
      obtain ⟨v, _, _, J1, r1, q1⟩ := done
      exact ⟨v, _, _, J1.ofTry ok, r1, q1⟩
    | next =>
      obtain ⟨_, _, J1, q1⟩ := done
      exact wpAny_execs_nil ⟨_, _, J1.ofTry ok, q1⟩
    | brk =>
      obtain ⟨_, _, J1, q1⟩ := done
      exact ⟨_, _, J1.ofTry ok, q1⟩
    | cont =>
      obtain ⟨_, _, J1, q1⟩ := done
      exact ⟨_, _, J1.ofTry ok, q1⟩
end

/-! ### errors of two fields -/
/-- the heap behind C(x, y), where __init__ stores both -/
def errH (H : Hp) (a C dx : Addr) (f g : Str) (x y : V) : Hp := upd (upd (upd H dx (exd dx [(f, x)])) a (exo a C (some dx))) dx (exd dx [(g, y), (f, x)])
theorem raise2 {C : Addr} {f g : Str} {x y : V} {H : Hp} {Q : XK} (hq : ∀ d, H d = none → Q (.ref C) (some d) (upd H d (.xd [(g, y), (f, x)]))) {a dx : Addr} (na : H a = none) (nd : upd H a (exo a C none) dx = none) (ne : dx ≠ a) :
    V.non = .non ∧ ∃ (d : Addr) (fs : List (Str × V)), errH (upd H a (exo a C none)) a C dx f g x y a = some (exo a C (some d)) ∧ errH (upd H a (exo a C none)) a C dx f g x y d = some (exd d fs) ∧ H d = none ∧
      Q (.ref C) (some d) (upd (del (errH (upd H a (exo a C none)) a C dx f g x y) a) d (.xd fs)) := by
  rw [upd_ne ne] at nd
  refine ⟨rfl, dx, _, ?_, upd_same, nd, ?_⟩
  · unfold errH
    rw [upd_ne (Ne.symm ne), upd_same]
  · have e : upd (del (errH (upd H a (exo a C none)) a C dx f g x y) a) dx (.xd [(g, y), (f, x)]) = upd H dx (.xd [(g, y), (f, x)]) := by
      funext b
      by_cases h1 : b = dx
      · rw [h1, upd_same, upd_same]
      · rw [upd_ne h1, upd_ne h1]
        by_cases h2 : b = a
        · rw [h2, del_same, na]
        · rw [del_ne h2]
          unfold errH
          rw [upd_ne h1, upd_ne h2, upd_ne h1, upd_ne h2]
    rw [e]
    exact hq dx nd
/-- the first weight below 1, from place i on -/
def badAt : List Int → Nat → Option Nat
  | [], _ => none
  | n :: r, i => if n < 1 then some i else badAt r (i + 1)

/-- the fields of a Weighted -/
def fW (m aside : Int) (t : Addr) : List (Str × V) := putF "aside" (.int aside) (putF "weights" (.ref t) (putF "many" (.int m) []))
/-- nothing but the object at p is another -/
def SameX (p : Addr) (H H' : Hp) : Prop := ∀ b o, b ≠ p → H b = some o → H' b = some o
theorem SameX.trans {p : Addr} {H H' H2 : Hp} (h : SameX p H H') (k : SameX p H' H2) : SameX p H H2 := fun b o n z => k b o n (h b o n z)
theorem SameX.new {p : Addr} {H : Hp} {a : Addr} {o : HO} (n : H a = none) : SameX p H (upd H a o) := fun b u _ z => (upd_ne (ne_of_none z n)).trans z
theorem SameX.put {p : Addr} {H : Hp} {o : HO} : SameX p H (upd H p o) := fun b u n z => (upd_ne n).trans z

/-- the first number below b, from place i on -/
def lowAt (b : Int) : List Int → Nat → Option Nat
  | [], _ => none
  | n :: r, i => if n < b then some i else lowAt b r (i + 1)
theorem low_bad : ∀ (ns : List Int) (i : Nat), lowAt 1 ns i = badAt ns i
  | [], _ => rfl
  | n :: r, i => by
    unfold lowAt badAt
    rw [low_bad r (i + 1)]

theorem same_sx {p : Addr} {H H' : Hp} (h : Same H H') : SameX p H H' := fun b o _ z => h b o z

/-! ### super().m(e, ..) in a method's own block, anywhere: statements that know the code they stand in -/
structure PEA (X : Cx) (c : Code) (e : Expr) (t : TE) : Prop where
  run : ∀ (pins : List (Addr × Obj)) (s : Shared) (σ : L2.St) (H : Hp) (Q : VK), Inv X pins σ H s → t σ H Q → PySem.wpAt (model X.prog X.w) X.A c (eval e X.env) (EP X pins σ Q) X.xe s
structure PSA (X : Cx) (c : Code) (st : Stmt) (t : TS) : Prop where
  run : ∀ (pins : List (Addr × Obj)) (s : Shared) (σ : L2.St) (H : Hp) (D : Ends), Inv X pins σ H s → t D σ H → PySem.wpAt (model X.prog X.w) X.A c (exec st X.env) (SP X pins D) X.xe s
structure PSAs (X : Cx) (c : Code) (st : List Stmt) (t : TS) : Prop where
  run : ∀ (pins : List (Addr × Obj)) (s : Shared) (σ : L2.St) (H : Hp) (D : Ends), Inv X pins σ H s → t D σ H → PySem.wpAt (model X.prog X.w) X.A c (execs st X.env) (SP X pins D) X.xe s
section
variable {X : Cx} {c : Code} {e b : Expr} {rest' : List Expr} {st : Stmt} {rest : List Stmt} {t u : TS} {te tb : TE} {pos : Pos}
theorem pea_pe (h : PE X e te) : PEA X c e te := ⟨fun pins s σ H Q I q => PySem.wpAt_of_wpAny (h.run pins s σ H Q I q)⟩
theorem psa_ps (h : PS X st t) : PSA X c st t := ⟨fun pins s σ H D I q => PySem.wpAt_of_wpAny (h.run pins s σ H D I q)⟩
theorem psas_pss (h : PSs X rest t) : PSAs X c rest t := ⟨fun pins s σ H D I q => PySem.wpAt_of_wpAny (h.run pins s σ H D I q)⟩
theorem psas_cons (h1 : PSA X c st t) (h2 : PSAs X c rest u) : PSAs X c (st :: rest) (tSeq t u) := by
  refine ⟨fun pins s σ H D I h => ?_⟩
  refine ks_wpAt_execs_cons (ks_wpAt_mono (h1.run pins s σ H { D with nx := u D } I h) (fun f s1 q => ?_) fun _ _ x => x)
  cases f with
  | next =>
    obtain ⟨σ', H', I', q⟩ := q
    exact h2.run pins s1 σ' H' D I' q
  | ret v => exact q
  | brk => exact q
  | cont => exact q
theorem psas_one (h : PSA X c st t) : PSAs X c [st] t := by
  refine ⟨fun pins s σ H D I q => ?_⟩
  refine ks_wpAt_execs_cons (ks_wpAt_mono (h.run pins s σ H D I q) (fun f s1 q => ?_) fun _ _ x => x)
  cases f with
  | next => exact PySem.wpAt_of_wpAny (wpAny_execs_nil q)
  | ret v => exact q
  | brk => exact q
  | cont => exact q
theorem psa_expr (he : PEA X c e te) (hi : interactive X.env = false := by rfl) (hs : swapsWith e none pos.line X.env = pure false := by rfl) : PSA X c (.Expr e pos) (tDrop te) := by
  refine ⟨fun pins s σ H D I h => ?_⟩
  exact ks_wpAt_Expr_any (ks_wpAt_mono (he.run pins s σ H _ I h) (fun v s1 ⟨x, H1, I1, r1, q1⟩ => ⟨σ, H1, I1, q1⟩) fun _ _ x => x) hi hs
theorem psa_ret (he : PEA X c e te) : PSA X c (.Return (some e) pos) (tRet te) := by
  refine ⟨fun pins s σ H D I h => ?_⟩
  exact ks_wpAt_Return_some (ks_wpAt_mono (he.run pins s σ H _ I h) (fun v s1 ⟨x, H1, I1, r1, q1⟩ => ⟨x, σ, H1, I1, r1, q1⟩) fun _ _ x => x)
theorem psa_set {i : Nat} {x : Str} {pos' : Pos} (hN : X.N.Nodup) (hi : X.N[i]? = some x) (hx : Loc X.env.scope x) (he : PEA X c e te) (hs : swapsWith e (some (.Name x pos')) pos.line X.env = pure false := by rfl) (hf : X.fn x = true ∨ X.env.scope.names.lookup x = some .local := by first | exact .inl rfl | exact .inr rfl | assumption) :
    PSA X c (.Assign [.Name x pos'] e pos) (tAsg te (gName i)) := by
  refine ⟨fun pins s σ H D I h => ?_⟩
  refine ks_wpAt_Assign_Name (ks_wpAt_mono (he.run pins s σ H _ I h) (fun v s1 ⟨y, H1, I1, r1, q1⟩ => ?_) fun _ _ x => x) hs
  exact store_ok I1 hN hi hx r1 (fun s2 I2 => ⟨_, H1, I2, q1⟩) hf
/-- super().m(..) and more -/
theorem pea_and (ha : PEA X c e te) (hb : PE X (.BoolOp .And (b :: rest') pos) tb) : PEA X c (.BoolOp .And (e :: b :: rest') pos) (tAndV te tb) := by
  refine ⟨fun pins s σ H Q I h => ?_⟩
  show PySem.wpAt _ X.A c (do
    let v ← eval e X.env
    standAt pos
    let d ← holding [v] (truthy v)
    match BoolOp.And, d with
    | .And, false | .Or, true => pure v
    | _, _ => boolOp pos .And (eval b X.env :: evalEach rest' X.env)) _ _ s
  refine PySem.wpAt_bind (ks_wpAt_mono (ha.run pins s σ H _ I h) (fun v s1 ⟨x, H1, I1, r1, q1⟩ => ?_) fun _ _ x => x)
  obtain ⟨d, rfl, q1⟩ := q1
  cases r1
  refine PySem.wpAt_of_wpAny (wpAny_bind (wpAny_standAt (wpAny_bind (wpAny_holding (wpAny_truthy_bool ?_)))))
  cases d with
  | true => exact hb.run pins s1 σ H1 Q I1 q1
  | false => exact wpAny_pure ⟨.bl false, H1, I1, rfl, q1⟩
end
/-- what the top has written of a class D above which super() looks, for an instance of the class C: the function g at the name m -/
structure SupM (K : PySem.W.Frag) (mg : Str → Option Value) (C D cc cda g : Addr) (m file : Str) : Prop where
  isD : ∃ cd, PySem.W.clsIn K D = some cd
  sub : PySem.W.mroIn K C (.ref D) = some true
  cell : ∃ cl cld csl, K.lookup cc = some ⟨cl, cld, .cell (some (.ref D)), csl⟩
  code : ∃ ccl cdd vs ccs tf, K.lookup cda = some ⟨ccl, cdd, .fields vs, ccs⟩ ∧ vs[2]? = some (.str file tf)
  sup : PySem.W.ks_superIn K C D m = some (some (.ref g))
  tg : PySem.W.typeIn K (.ref g) = some (.type "function")
  fg : PySem.W.fnIn K g = true
  opq : PySem.W.nsIn K cStatics "thirdparty.any" = some none
  nosup : mg "super" = none
def tSuper (C : Addr) (si : Sp) (Ei : XK) (ta : TA) : TE := fun σ H Q => ∃ (a dx : Addr) (fs : List (Str × V)), σ[0]? = some (some (.ref a)) ∧ H a = some (.ins C dx fs) ∧ ta σ H fun ws H1 => si (.ref a :: ws) H1 Q Ei
theorem pea_super {CX : CXT} {X : Cx} {body : List Stmt} {f g cc cda C D : Addr} {fd0 gd : FuncData} {oc : Value} {od : Option Addr} {osl : Array (Option Value)} {qs : List Str} {si : Sp} {Ei : XK} {e : Expr} {es : List Expr} {m file : Str} {p0 p1 p2 p3 : Pos} {ar : Arg} {pl : Sem Bool} {ta : TA} {j : Nat}
    (lk : X.K.lookup f = some ⟨oc, od, .func fd0, osl⟩) (SC : SupM X.K X.mg C D cc cda g m file) (hfile : ((X.prog.main.file : Str) == file) = true) (htop : (X.prog.main.scope.names.lookup ("super" : Str)).isSome = false) (hpar : (fd0.params.posonlyargs ++ fd0.params.args).head? = some ar) (hN : X.N[0]? = some ar.arg)
    (hkind : X.env.scope.kind = .function) (hka : X.env.scope.names.lookup ar.arg = some .local) (hks : X.env.scope.names.lookup ("super" : Str) = some .globalImplicit) (hkc : X.env.scope.names.lookup ("__class__" : Str) = some .free) (hfu : X.env.func = some f) (hco : X.env.code = .ref cda) (hcl : X.env.cells.lookup ("__class__" : Str) = some cc) (hgl : X.env.globals = mainGlobals) (hbn : X.env.builtins = builtinsNs)
    (G : FnOk X.prog X.w X.K X.mg X.base CX j g gd qs si) (bd : Binds X.K gd qs []) (hr : Room j X.A) (hpass : Passes CX X Ei) (hpa : PA X (e :: es) ta) (hm : (m == ("__class__" : Str)) = false)
    (hev : eval (.Call (.Attribute (.Call (.Name "super" p0) [] [] p1) m p2) (e :: es) [] p3) X.env = (do
      let ov ← attributeBase (.Call (.Name "super" p0) [] [] p1) m X.env (eval (.Call (.Name "super" p0) [] [] p1) X.env)
      standAt p2.atName
      let (f', first) ← holding [ov] (getMethod ov m pl)
      callWith p3 f' first (backTo p3 (starEach (e :: es) X.env)) []))
    (hst : starEach (e :: es) X.env = (false, eval e X.env) :: starEach es X.env) (hpl : (backTo p3 (starEach es X.env)).any (·.1) = false) :
    PEA X (.func body X.env) (.Call (.Attribute (.Call (.Name "super" p0) [] [] p1) m p2) (e :: es) [] p3) (tSuper C si Ei ta) := by
  refine ⟨fun pins s σ H Q I h => ?_⟩
  obtain ⟨a, dx, fs, h0, ha, hq⟩ := h
  obtain ⟨cl, cld, csl, hcell⟩ := SC.cell
  obtain ⟨ccl, cdd, fv, ccs, tf, hcode, hfv⟩ := SC.code
  obtain ⟨cdD, hD⟩ := SC.isD
  refine ks_wpAt_MethodCall (pl := pl) ?_ hev
  have KI := I.kIn
  refine ks_wpAt_super_base hks hkc hm hfu (KI _ _ lk) rfl hpar hco (KI _ _ hcode) rfl hfv hfile htop ?_
  obtain ⟨mb, hb1, hb2⟩ := I.mod.blt
  refine PySem.W.ks_loadName_global hkind hks (Calls.loadGlobal_builtin (env := X.env) (mg := X.mg) (by rw [hgl]; exact I.mod.glob.keeps I.bk) SC.nosup (by rw [hbn]; exact hb1.keeps I.bk) ((hb2 "super" (by decide)).trans (by rfl)) ⟨rfl, ?_⟩)
  refine wpAny_loadName_free hkind hkc hcl ⟨_, KI _ _ hcell, rfl⟩ ?_
  obtain ⟨mm, hn, hl'⟩ := I.loc
  obtain ⟨u, ru, lku⟩ := hl' 0 ar.arg (.ref a) hN h0 (.inl hka)
  cases (show u = Value.ref a from ru)
  have hmu : mm ar.arg = some (.ref a) := by
    rcases lku with ⟨_, z⟩ | ⟨z, _⟩
    · exact z
    · have hk' : X.env.scope.names.lookup ar.arg = some .cell ∨ X.env.scope.names.lookup ar.arg = some .free := z
      rw [hka] at hk'
      rcases hk' with z | z <;> cases z
  refine wpAny_loadName_local hkind hka hn hmu ?_
  obtain ⟨oD, hD1, hD2⟩ : ∃ oD, s.heap.get? D = some oD ∧ oD.data = .cls cdD := by
    unfold PySem.W.clsIn at hD
    split at hD
    · rename_i c d cd' sl ho
      cases hD
      exact ⟨_, KI _ _ ho, rfl⟩
    · cases hD
  obtain ⟨hh, gg, dd, tt, oo⟩ := s
  refine ks_wpAny_isType_cls hD1 hD2 (And.intro rfl ?_)
  obtain ⟨hoa, oda, J⟩ := inst_of' I ha
  refine ks_wpAny_call_super hD1 hD2 J.at_ J.cls (fun c z => ?_) (PySem.W.looks_mroIn KI SC.sub) (fun h2 e2 k2 => ?_)
  · have := J.no
    unfold PySem.W.notCls at this
    rw [z] at this
    exact Bool.noConfusion this
  have I2 := I.kept (h' := h2) (t' := tt) k2
  have K2 := I2.kIn
  obtain ⟨hoa2, oda2, J2⟩ := inst_of' I2 ha
  have sup := SC.sup
  unfold PySem.W.ks_superIn at sup
  cases hc : PySem.W.clsIn X.K C with
  | none => rw [hc] at sup; cases sup
  | some cdC =>
  rw [hc] at sup
  obtain ⟨og, hog, hogc⟩ : ∃ og, h2.get? g = some og ∧ og.cls = .type "function" := by
    have ht' : (X.K.lookup g).map (·.cls) = some (.type "function") := SC.tg
    cases z : X.K.lookup g with
    | none =>
      rw [z] at ht'
      cases ht'
    | some og =>
      rw [z] at ht'
      exact ⟨og, K2 _ _ z, Option.some.inj ht'⟩
  refine ks_wpAny_getMethod_super e2 (PySem.W.looks_opaque K2 SC.opq) (l₀ := cdC.mro) (fun A Q E s k q => wpAny_bind ((PySem.W.looks_clsIn K2 hc) A _ E s k (wpAny_pure q))) rfl K2 sup hog hogc (PySem.W.ks_ne K2 J2 hc) hm ?_
  have I3 : Inv X ((h2.objs.size, PySem.W.methodObj (.ref g) (.ref a)) :: pins) σ H ⟨h2.push (PySem.W.methodObj (.ref g) (.ref a)), gg, dd, tt + 1, oo⟩ :=
    pin_new (s := ⟨h2, gg, dd, tt, oo⟩) I2 (fun _ _ z => Heap.get?_push_of_some _ z) (Nat.le_refl _) (Heap.get?_push_size h2 rfl) (fun v z => nomatch z)
  have hbq : X.base.get? h2.objs.size = none := base_none I2 (Nat.le_refl _)
  have hL : h2.objs.size ≠ X.env.locals := (I3.pin (h2.objs.size, PySem.W.methodObj (.ref g) (.ref a)) (List.mem_append_right _ List.mem_cons_self)).2.2.1
  refine PySem.W.callWith_M (K := X.K) (h₀ := X.base) (first := []) I.mod.kin (news_at hL hbq (pin_at I3)) List.mem_cons_self SC.fg ?_ hst hpl
  refine wpAny_mono (hpa.run p3 _ _ _ H _ I3 hq) (fun ws s4 h4 => ?_) fun _ _ z => z
  obtain ⟨vs4, H4, I4, r4, q4⟩ := h4
  refine ⟨⟨pin_at I4, I4.kIn⟩, ?_⟩
  have lenq : (Value.ref a :: ws).length = qs.length := by
    have z := G.len _ _ _ _ q4
    rw [← z, List.length_cons, List.length_cons, r4.length]
  have bound := bd s4 (Value.ref a :: ws) I4.kIn (by rw [List.append_nil]; exact lenq)
  rw [List.append_nil] at bound
  refine wpAny_mono (Q := fun u s' => EP X ((h2.objs.size, PySem.W.methodObj (.ref g) (.ref a)) :: pins) σ Q u s')
    (wpAny_call (PySem.W.method_call (pin_at I4) (codeAny_mono (G.run _ _ s4 H4 ⟨Value.ref a :: ws, []⟩ (Value.ref a :: ws) (.ref a :: vs4) _ Ei hr I4.env0 bound (.cons rfl r4) q4) fun rr s' back => ?_))) (fun u s5 h5 => unpinE h5) fun _ _ z => z
  cases rr with
  | error er => exact hpass _ _ _ _ er s' I4 back
  | ok fl =>
    cases fl with
    | ret u => exact I4.after back
    | next => exact back.elim
    | brk => exact back.elim
    | cont => exact back.elim
/-- a method whose block says super() somewhere -/
theorem fn_at {CX : CXT} {P : Program} {w : World} {K : PySem.W.Frag} {mg : Str → Option Value} {base : Heap} {k : Nat} {f cc cda : Addr} {name qual : Str} {params : Arguments} {scope : Scope} {dV kV doc pm ct oc : Value} {an od : Option Addr}
    {osl : Array (Option Value)} {N ps : List Str} {sp : Sp} {body : List Stmt} {D : Addr} (lk : K.lookup f = some ⟨oc, od, .func (PySem.W.ksFn name qual params body scope dV kV doc pm an (.ref cda) ct cc), osl⟩) (hcd : PySem.W.codeIn K (.ref cda) qual = true) (S : NScope N ps ["__class__"] scope)
    (cell : ∃ cl cld csl, K.lookup cc = some ⟨cl, cld, .cell (some (.ref D)), csl⟩) (len : ∀ vs H Q E, sp vs H Q E → vs.length = ps.length)
    (hbody : ∀ (A : Around) (outer : List Env) (s : Shared) (H : Hp) (vs : List V) (Q : VK) (E : XK), Room k (A.deeper (PySem.W.ksEnv qual scope s.heap.objs.size f (.ref cda) cc)) → sp vs H Q E →
      ∃ t, PSAs (ncx CX P w K mg base N ⟨name, qual, params, body, scope, [("__class__", cc)], cda⟩ f A outer s H E) (.func body (PySem.W.ksEnv qual scope s.heap.objs.size f (.ref cda) cc)) body t ∧ t { nx := fun _ H' => Q .non H', rt := Q } (startF N vs [none]) H) :
    FnOk P w K mg base CX (k + 1) f (PySem.W.ksFn name qual params body scope dV kV doc pm an (.ref cda) ct cc) ps sp := by
  refine ⟨len, fun A outer s H args us vs Q E hr e0 hb r asked => ?_⟩
  have hl := len _ _ _ _ asked
  have kb : ∀ b o, base.get? b = some o → s.heap.get? b = some o := fun b o z => (e0.bs b o z).1
  have KX : K.In s.heap := e0.mod.kin.keeps kb
  have lim : s.heap.NoLimit := e0.mod.nolimit.keeps kb
  obtain ⟨cl, cld, csl, hcell⟩ := cell
  have C0 : CellsAt [("__class__", cc)] ["__class__"] [none] s.heap H := by
    refine ⟨rfl, fun y c z => ?_, fun y z c h1 h2 => ?_, fun i y z => ?_⟩
    · have hc : c = cc := by
        simp only [List.lookup] at z
        split at z
        · exact (Option.some.inj z).symm
        · cases z
      subst hc
      exact ⟨(e0.bs _ _ (e0.mod.kin _ _ hcell)).2, _, _, KX _ _ hcell, rfl⟩
    · have one : ∀ {t : Str}, [(("__class__" : Str), cc)].lookup t = some c → t = "__class__" := fun {t} h => by
        simp only [List.lookup] at h
        split at h
        · exact beq_iff_eq.mp (by assumption)
        · cases h
      rw [one h1, one h2]
    · have hy : y = "__class__" := by
        cases i with
        | zero => simpa using z.symm
        | succ n => simp at z
      subst hy
      exact ⟨cc, rfl, fun v h => by cases i <;> simp at h⟩
  refine ks_codeAny_call_defAt (fd := PySem.W.ksFn name qual params body scope dV kV doc pm an (.ref cda) ct cc) (body := body) (binds := ps.zip us) hr.depth (KX _ _ lk) rfl lim (PySem.W.codeRec_of KX hcd) rfl hb S.nocell (fun ⟨n, _⟩ hy => S.par n (List.of_mem_zip hy).1) (fun h₁ hns kp => ?_) S.co S.gen S.kind
  obtain ⟨t, hps, hq⟩ := hbody A outer s H vs Q E (hr.deeper _) asked
  have I : Inv (ncx CX P w K mg base N ⟨name, qual, params, body, scope, [("__class__", cc)], cda⟩ f A outer s H E) [] (startF N vs [none]) H { s with heap := h₁, toks := s.toks + (ps.zip us).length } := inv_startN (F := ⟨name, qual, params, body, scope, [("__class__", cc)], cda⟩) S hr.hd e0 hl r C0 hns kp
  refine ks_wpAt_mono (hps.run [] _ _ H _ I hq) (fun fl s' hs => ?_) fun er s' hs => hs
  have last : ∀ {τ : L2.St} {G' : Hp} {x : V} {y : Value}, Inv (ncx CX P w K mg base N ⟨name, qual, params, body, scope, [("__class__", cc)], cda⟩ f A outer s H E) [] τ G' s' → L2.RelV x y → Q x G' → CE outer P w H s Q y s' :=
    fun {_ G' x _} Z rel z => ⟨x, G', Z.os, Z.bare, Z.base, Z.hok, rel, z⟩
  cases fl with
  | next =>
    obtain ⟨_, _, Z, z⟩ := hs
    exact last (x := V.non) (y := Value.none) Z rfl z
  | ret y =>
    obtain ⟨_, _, _, Z, rel, z⟩ := hs
    exact last Z rel z
  | brk => exact hs.elim fun _ ⟨_, _, z⟩ => z.elim
  | cont => exact hs.elim fun _ ⟨_, _, z⟩ => z.elim
/-- tuple(x) within a comprehension: its reading without the context -/
def rTupOf (K : PySem.W.Frag) : List V → Hp → VK → Prop := fun xs H Q => ∃ p ys, xs = [V.ref p] ∧ ((SqL K H p ys ∧ ∀ l, H l = none → Q (.ref l) (upd H l (.tup ys))) ∨ (SqT K H p ys ∧ Q (.ref p) H))
theorem ite2N {c A B : Prop} [Decidable c] (h1 : ¬ c → A) (h2 : c → B) : if (!decide c) = true then A else B := by
  by_cases h : c
  · rw [decide_eq_true h]
    exact iteF (h2 h)
  · rw [decide_eq_false h]
    exact iteT (h1 h)
/-- the first price below 0, from place i on -/
def negAt : List Int → Nat → Option Nat
  | [], _ => none
  | n :: r, i => if n < 0 then some i else negAt r (i + 1)

theorem low_neg : ∀ (ns : List Int) (i : Nat), lowAt 0 ns i = negAt ns i
  | [], _ => rfl
  | n :: r, i => by
    unfold lowAt negAt
    rw [low_neg r (i + 1)]

/-- a list of lists in the heap -/
def RowsAt (H : Hp) (rs : List Addr) (rws : List (List Int)) : Prop := rs.length = rws.length ∧ ∀ (i : Nat) (r : Addr) (ws : List Int), rs[i]? = some r → rws[i]? = some ws → H r = some (.lst (ws.map V.int))
theorem RowsAt.same {H H' : Hp} {rs : List Addr} {rws : List (List Int)} (s : Same H H') (h : RowsAt H rs rws) : RowsAt H' rs rws := ⟨h.1, fun i r ws h1 h2 => s _ _ (h.2 i r ws h1 h2)⟩
/-- row k of the steps of m things is wrong -/
def BadR (m : Int) (k : Nat) (ws : List Int) : Prop := ¬ (ws.length : Int) = m ∨ ¬ ws.getD k 0 = 0 ∨ (ws.map fun x => decide (x < 0)).any id = true
instance (m : Int) (k : Nat) (ws : List Int) : Decidable (BadR m k ws) := by unfold BadR; infer_instance
/-- the first wrong row, from row k on -/
def badS (m : Int) : List (List Int) → Nat → Option Nat
  | [], _ => none
  | ws :: r, k => if BadR m k ws then some k else badS m r (k + 1)
theorem drop_row {l : List (List Int)} {i : Nat} {n : List Int} (h : l[i]? = some n) : l.drop i = n :: l.drop (i + 1) := by
  have lt : i < l.length := (List.getElem?_eq_some_iff.mp h).1
  rw [List.drop_eq_getElem_cons lt]
  rw [List.getElem?_eq_getElem lt] at h
  rw [Option.some.inj h]

inductive Due2 | many (m : Nat) | num (w : Str) (x : V) | made
/-- what is due for these numbers -/
def dueS (fs : List Int) (b : Int) (rws : List (List Int)) (ls : List Int) : Due2 :=
  if fs.length > 8 then .many fs.length else
  match badAt fs 0 with
  | some k => .num "first" (.int k)
  | none => if b < 1 then .num "aside" .non else if ¬ (rws.length : Int) = (fs.length : Int) then .num "steps" .non else
    match badS (fs.length : Int) rws 0 with
    | some k => .num "steps" (.int k)
    | none => if ¬ (ls.length : Int) = (fs.length : Int) then .num "leaves" .non else
      match badAt ls 0 with
      | some k => .num "leaves" (.int k)
      | none => .made
def fS (m b : Int) (tF tS tL : Addr) : List (Str × V) := putF "leaves" (.ref tL) (putF "steps" (.ref tS) (putF "aside" (.int b) (putF "first" (.ref tF) (putF "many" (.int m) []))))
theorem RowsAt.sx {p C dx : Addr} {fs : List (Str × V)} {H H' : Hp} {rs : List Addr} {rws : List (List Int)} (hp : H p = some (.ins C dx fs)) (s : SameX p H H') (h : RowsAt H rs rws) : RowsAt H' rs rws := ⟨h.1, fun i r ws h1 h2 => by
  have e := h.2 i r ws h1 h2
  refine s _ _ (fun z => ?_) e
  rw [z, hp] at e
  cases e⟩
theorem lst_sx {p C dx y : Addr} {fs : List (Str × V)} {H H' : Hp} {xs : List V} (hp : H p = some (.ins C dx fs)) (s : SameX p H H') (h : H y = some (.lst xs)) : H' y = some (.lst xs) := s _ _ (fun z => by
  rw [z, hp] at h
  cases h) h
/-- rows kept as tuples -/
def TRows (H : Hp) (us : List Addr) (rws : List (List Int)) : Prop := us.length = rws.length ∧ ∀ (i : Nat) (u : Addr) (ws : List Int), us[i]? = some u → rws[i]? = some ws → H u = some (.tup (ws.map V.int))
theorem TRows.same {H H' : Hp} {us : List Addr} {rws : List (List Int)} (s : Same H H') (h : TRows H us rws) : TRows H' us rws := ⟨h.1, fun i r ws h1 h2 => s _ _ (h.2 i r ws h1 h2)⟩
theorem TRows.sx {p C dx : Addr} {fs : List (Str × V)} {H H' : Hp} {rs : List Addr} {rws : List (List Int)} (hp : H p = some (.ins C dx fs)) (s : SameX p H H') (h : TRows H rs rws) : TRows H' rs rws := ⟨h.1, fun i r ws h1 h2 => by
  have e := h.2 i r ws h1 h2
  refine s _ _ (fun z => ?_) e
  rw [z, hp] at e
  cases e⟩

def Due2.due : Due2 → List V
  | .many m => [.str "many", .int m, .int 8]
  | .num w x => [.str "number", .str w, x]
  | .made => [.str "made", .non]
theorem neg_len (ws : List Int) : 0 < (ws.filter fun x => decide (x < 0)).length ↔ (ws.map fun x => decide (x < 0)).any id = true := by
  rw [List.length_pos_iff, List.any_map]
  constructor
  · intro h
    obtain ⟨x, hx⟩ := List.exists_mem_of_ne_nil _ h
    exact List.any_eq_true.mpr ⟨x, (List.mem_filter.mp hx).1, (List.mem_filter.mp hx).2⟩
  · intro h e
    obtain ⟨x, h1, h2⟩ := List.any_eq_true.mp h
    have : x ∈ ws.filter fun x => decide (x < 0) := List.mem_filter.mpr ⟨h1, h2⟩
    rw [e] at this
    cases this
theorem take_neg {l : List Int} {i : Nat} {n : Int} (h : l[i]? = some n) : (l.take (i + 1)).filter (fun x => decide (x < 0)) = (l.take i).filter (fun x => decide (x < 0)) ++ if n < 0 then [n] else [] := by
  rw [List.take_add_one, h, List.filter_append]
  congr 1
  show List.filter _ [n] = _
  by_cases c : n < 0
  · rw [List.filter_cons, if_pos (decide_eq_true c), if_pos c]
    rfl
  · rw [List.filter_cons, if_neg (by simpa using c), if_neg c]
    rfl
theorem drop_int {l : List Int} {i : Nat} {n : Int} (h : l[i]? = some n) : l.drop i = n :: l.drop (i + 1) := by
  have lt : i < l.length := (List.getElem?_eq_some_iff.mp h).1
  rw [List.drop_eq_getElem_cons lt]
  rw [List.getElem?_eq_getElem lt] at h
  rw [Option.some.inj h]

/-- a rule of this kind in the heap -/
def SAt (C : Addr) (H : Hp) (x : Addr) (fs : List Int) (b : Int) (rws : List (List Int)) (ls : List Int) : Prop := ∃ (dx tF tS tL : Addr) (us : List Addr), H x = some (.ins C dx (fS fs.length b tF tS tL)) ∧ H tF = some (.tup (fs.map V.int)) ∧ H tS = some (.tup (us.map V.ref)) ∧ TRows H us rws ∧ H tL = some (.tup (ls.map V.int))
theorem SAt.same {C : Addr} {H H' : Hp} {x : Addr} {fs : List Int} {b : Int} {rws : List (List Int)} {ls : List Int} (s : Same H H') (h : SAt C H x fs b rws ls) : SAt C H' x fs b rws ls := by
  obtain ⟨dx, tF, tS, tL, us, h1, h2, h3, h4, h5⟩ := h
  exact ⟨dx, tF, tS, tL, us, s _ _ h1, s _ _ h2, s _ _ h3, h4.same s, s _ _ h5⟩
theorem made1 {H : Hp} {x dx C : Addr} (nx : H x = none) (nd : H dx = none) : Same H (upd (upd H dx (.own x)) x (.ins C dx [])) := fun b o e => by
  rw [upd_ne (ne_of_none e nx), upd_ne (ne_of_none e nd)]
  exact e
theorem sameX_made {C x dx : Addr} {H H' : Hp} (nx : H x = none) (nd : H dx = none) (k : SameX x (upd (upd H dx (.own x)) x (.ins C dx [])) H') : Same H H' := fun b o e => by
  have h1 : b ≠ x := ne_of_none e nx
  have h2 : b ≠ dx := ne_of_none e nd
  exact k b o h1 (by rw [upd_ne h1, upd_ne h2]; exact e)

theorem badS_none : ∀ {rws : List (List Int)} {m : Int} {k : Nat}, badS m rws k = none → ∀ ws ∈ rws, (ws.length : Int) = m
  | [], _, _, _, _, h => by cases h
  | w :: r, m, k, h, ws, hw => by
    unfold badS at h
    by_cases c : BadR m k w
    · rw [if_pos c] at h
      cases h
    · rw [if_neg c] at h
      rcases List.mem_cons.mp hw with rfl | hw
      · exact Classical.byContradiction fun z => c (.inl z)
      · exact badS_none h ws hw
structure MadeF (fs : List Int) (b : Int) (rws : List (List Int)) (ls : List Int) : Prop where
  f : fs.length ≤ 8
  b1 : 1 ≤ b
  r : rws.length = fs.length
  w : ∀ ws ∈ rws, ws.length = fs.length
  l : ls.length = fs.length
theorem made_f {fs : List Int} {b : Int} {rws : List (List Int)} {ls : List Int} (h : dueS fs b rws ls = .made) : MadeF fs b rws ls := by
  unfold dueS at h
  by_cases c1 : fs.length > 8
  · rw [if_pos c1] at h
    cases h
  rw [if_neg c1] at h
  split at h
  · cases h
  by_cases c2 : b < 1
  · rw [if_pos c2] at h
    cases h
  rw [if_neg c2] at h
  by_cases c3 : (rws.length : Int) = (fs.length : Int)
  · rw [if_neg (fun z => z c3)] at h
    split at h
    · cases h
    · rename_i hs
      by_cases c4 : (ls.length : Int) = (fs.length : Int)
      · exact ⟨by omega, by omega, by omega, fun ws hw => by
          have := badS_none hs ws hw
          omega, by omega⟩
      · rw [if_pos c4] at h
        cases h
  · rw [if_pos c3] at h
    cases h

/-- lists that may be changed: new since H, one apart from the other -/
structure Mut (H H' : Hp) (F S L : Addr) (fs ls : List Int) (rs : List Addr) (rws : List (List Int)) (a b c d : Nat) : Prop where
  s : Same H H'
  nF : H F = none
  nS : H S = none
  nL : H L = none
  nr : ∀ r ∈ rs, H r = none
  hF : H' F = some (.lst (fs.map V.int))
  hS : H' S = some (.lst (rs.map V.ref))
  row : RowsAt H' rs rws
  hL : H' L = some (.lst (ls.map V.int))
  FS : F ≠ S
  FL : F ≠ L
  SL : S ≠ L
  rF : ∀ r ∈ rs, r ≠ F
  rS : ∀ r ∈ rs, r ≠ S
  rL : ∀ r ∈ rs, r ≠ L
  nd : rs.Nodup
  lf : fs.length ≤ a
  lr : rs.length ≤ b
  lw : ∀ ws ∈ rws, ws.length ≤ c
  ll : ls.length ≤ d
theorem nodup_set {α : Type} {l : List α} {i : Nat} {x : α} (h : l.Nodup) (n : x ∉ l) : (l.set i x).Nodup := by
  induction l generalizing i with
  | nil => exact h
  | cons y r ih =>
    have h' := List.nodup_cons.mp h
    cases i with
    | zero => exact List.nodup_cons.mpr ⟨fun m => n (List.mem_cons_of_mem _ m), h'.2⟩
    | succ i =>
      refine List.nodup_cons.mpr ⟨fun m => ?_, ih h'.2 fun m => n (List.mem_cons_of_mem _ m)⟩
      rcases List.mem_or_eq_of_mem_set m with k | k
      · exact h'.1 k
      · exact n (k ▸ List.mem_cons_self)
section
variable {H H' H2 : Hp} {F S L p : Addr} {fs ls : List Int} {rs : List Addr} {rws : List (List Int)} {a b c d : Nat} {o : HO}
theorem Mut.same (m : Mut H H' F S L fs ls rs rws a b c d) (k : Same H' H2) : Mut H H2 F S L fs ls rs rws a b c d :=
  { m with s := m.s.trans k, hF := k _ _ m.hF, hS := k _ _ m.hS, row := m.row.same k, hL := k _ _ m.hL }
theorem Mut.free (m : Mut H H' F S L fs ls rs rws a b c d) (n : H' p = none) : H p = none ∧ p ≠ F ∧ p ≠ S ∧ p ≠ L ∧ ∀ r ∈ rs, r ≠ p := by
  refine ⟨m.s.free n, Ne.symm (ne_of_none m.hF n), Ne.symm (ne_of_none m.hS n), Ne.symm (ne_of_none m.hL n), fun r hr => ?_⟩
  obtain ⟨i, hi⟩ := List.mem_iff_getElem?.mp hr
  have lt := (List.getElem?_eq_some_iff.mp hi).1
  have := m.row.1
  exact ne_of_none (m.row.2 i r _ hi (List.getElem?_eq_getElem (by omega))) n
theorem RowsAt.off (h : RowsAt H rs rws) (n : ∀ r ∈ rs, r ≠ p) : RowsAt (upd H p o) rs rws := ⟨h.1, fun i r ws h1 h2 => (upd_ne (n r (List.mem_of_getElem? h1))).trans (h.2 i r ws h1 h2)⟩
theorem RowsAt.setAt {ws : List Int} {i : Nat} (h : RowsAt H rs rws) (nd : rs.Nodup) (hi : rs[i]? = some p) : RowsAt (upd H p (.lst (ws.map V.int))) rs (rws.set i ws) := by
  refine ⟨h.1.trans (List.length_set).symm, fun j r vs h1 h2 => ?_⟩
  have li := (List.getElem?_eq_some_iff.mp hi).1
  by_cases e : i = j
  · subst e
    rw [hi] at h1
    cases h1
    rw [List.getElem?_set_self (by have := h.1; omega)] at h2
    cases h2
    exact upd_same
  · rw [List.getElem?_set_ne e] at h2
    refine (upd_ne fun z => e ?_).trans (h.2 j r vs h1 h2)
    exact (List.getElem?_inj li nd).mp (hi.trans ((congrArg some z.symm).trans h1.symm))
theorem RowsAt.rep {ws : List Int} {i : Nat} (h : RowsAt H rs rws) (hp : H p = some (.lst (ws.map V.int))) : RowsAt H (rs.set i p) (rws.set i ws) := by
  refine ⟨by rw [List.length_set, List.length_set]; exact h.1, fun j r vs h1 h2 => ?_⟩
  by_cases e : i = j
  · subst e
    by_cases l : i < rs.length
    · rw [List.getElem?_set_self l] at h1
      rw [List.getElem?_set_self (by have := h.1; omega)] at h2
      cases h1
      cases h2
      exact hp
    · rw [List.getElem?_eq_none (by rw [List.length_set]; omega)] at h1
      cases h1
  · rw [List.getElem?_set_ne e] at h1 h2
    exact h.2 j r vs h1 h2
theorem RowsAt.snoc {ws : List Int} (h : RowsAt H rs rws) (hp : H p = some (.lst (ws.map V.int))) : RowsAt H (rs ++ [p]) (rws ++ [ws]) := by
  refine ⟨by rw [List.length_append, List.length_append, h.1]; rfl, fun j r vs h1 h2 => ?_⟩
  by_cases hj : j < rs.length
  · rw [List.getElem?_append_left hj] at h1
    rw [List.getElem?_append_left (by have := h.1; omega)] at h2
    exact h.2 j r vs h1 h2
  · rw [List.getElem?_append_right (by omega)] at h1
    rw [List.getElem?_append_right (by have := h.1; omega)] at h2
    obtain ⟨k, hk⟩ : ∃ k, j - rs.length = k := ⟨_, rfl⟩
    rw [← h.1, hk] at h2
    rw [hk] at h1
    cases k with
    | zero =>
      cases h1
      cases h2
      exact hp
    | succ k => cases h1
theorem RowsAt.init (h : RowsAt H rs rws) : RowsAt H rs.dropLast rws.dropLast := by
  refine ⟨by rw [List.length_dropLast, List.length_dropLast, h.1], fun j r vs h1 h2 => ?_⟩
  rw [List.getElem?_dropLast] at h1 h2
  split at h1
  · split at h2
    · exact h.2 j r vs h1 h2
    · cases h2
  · cases h1
theorem Mut.setF {fs' : List Int} (m : Mut H H' F S L fs ls rs rws a b c d) (l : fs'.length ≤ a) : Mut H (upd H' F (.lst (fs'.map V.int))) F S L fs' ls rs rws a b c d :=
  { m with s := same_mut m.s m.nF, hF := upd_same, hS := (upd_ne m.FS.symm).trans m.hS, row := m.row.off m.rF, hL := (upd_ne m.FL.symm).trans m.hL, lf := l }
theorem Mut.setL {ls' : List Int} {d' : Nat} (m : Mut H H' F S L fs ls rs rws a b c d) (l : ls'.length ≤ d') : Mut H (upd H' L (.lst (ls'.map V.int))) F S L fs ls' rs rws a b c d' :=
  { m with s := same_mut m.s m.nL, hF := (upd_ne m.FL).trans m.hF, hS := (upd_ne m.SL).trans m.hS, row := m.row.off m.rL, hL := upd_same, ll := l }
theorem Mut.setRow {ws : List Int} {i : Nat} (m : Mut H H' F S L fs ls rs rws a b c d) (hi : rs[i]? = some p) (l : ws.length ≤ c) : Mut H (upd H' p (.lst (ws.map V.int))) F S L fs ls rs (rws.set i ws) a b c d := by
  have hm := List.mem_of_getElem? hi
  refine { m with s := same_mut m.s (m.nr p hm), hF := (upd_ne (Ne.symm (m.rF p hm))).trans m.hF, hS := (upd_ne (Ne.symm (m.rS p hm))).trans m.hS, row := m.row.setAt m.nd hi, hL := (upd_ne (Ne.symm (m.rL p hm))).trans m.hL, lw := fun vs hv => ?_ }
  rcases List.mem_or_eq_of_mem_set hv with h | h
  · exact m.lw vs h
  · rw [h]
    exact l
theorem Mut.app {ws : List Int} {b' : Nat} (m : Mut H H' F S L fs ls rs rws a b c d) (n : H p = none ∧ p ≠ F ∧ p ≠ S ∧ p ≠ L ∧ ∀ r ∈ rs, r ≠ p) (hp : H' p = some (.lst (ws.map V.int))) (l : ws.length ≤ c) (lb : rs.length + 1 ≤ b') : Mut H (upd H' S (.lst ((rs ++ [p]).map V.ref))) F S L fs ls (rs ++ [p]) (rws ++ [ws]) a b' c d := by
  obtain ⟨n1, n2, n3, n4, n5⟩ := n
  have mm : ∀ r ∈ rs ++ [p], r ∈ rs ∨ r = p := fun r hr => (List.mem_append.mp hr).imp id List.mem_singleton.mp
  refine { m with s := same_mut m.s m.nS, hF := (upd_ne m.FS).trans m.hF, hS := upd_same, hL := (upd_ne (Ne.symm m.SL)).trans m.hL, row := ?_, nr := ?_, rF := ?_, rS := ?_, rL := ?_, nd := ?_, lr := ?_, lw := ?_ }
  · exact fun r hr => (mm r hr).elim (m.nr r) fun e => e ▸ n1
  · refine (m.row.snoc hp).off fun r hr => (mm r hr).elim (m.rS r) fun e => e ▸ n3
  · exact fun r hr => (mm r hr).elim (m.rF r) fun e => e ▸ n2
  · exact fun r hr => (mm r hr).elim (m.rS r) fun e => e ▸ n3
  · exact fun r hr => (mm r hr).elim (m.rL r) fun e => e ▸ n4
  · exact List.nodup_append.mpr ⟨m.nd, by simp, fun r hr q hq => by rw [List.mem_singleton.mp hq]; exact n5 r hr⟩
  · rw [List.length_append]
    exact lb
  · exact fun vs hv => (List.mem_append.mp hv).elim (m.lw vs) fun h => by rw [List.mem_singleton.mp h]; exact l
theorem Mut.put {ws : List Int} {i : Nat} (m : Mut H H' F S L fs ls rs rws a b c d) (n : H p = none ∧ p ≠ F ∧ p ≠ S ∧ p ≠ L ∧ ∀ r ∈ rs, r ≠ p) (hp : H' p = some (.lst (ws.map V.int))) (l : ws.length ≤ c) : Mut H (upd H' S (.lst ((rs.set i p).map V.ref))) F S L fs ls (rs.set i p) (rws.set i ws) a b c d := by
  obtain ⟨n1, n2, n3, n4, n5⟩ := n
  have mm : ∀ r ∈ rs.set i p, r ∈ rs ∨ r = p := fun r hr => List.mem_or_eq_of_mem_set hr
  refine { m with s := same_mut m.s m.nS, hF := (upd_ne m.FS).trans m.hF, hS := upd_same, hL := (upd_ne (Ne.symm m.SL)).trans m.hL, row := ?_, nr := ?_, rF := ?_, rS := ?_, rL := ?_, nd := ?_, lr := ?_, lw := ?_ }
  · exact fun r hr => (mm r hr).elim (m.nr r) fun e => e ▸ n1
  · refine (m.row.rep hp).off fun r hr => (mm r hr).elim (m.rS r) fun e => e ▸ n3
  · exact fun r hr => (mm r hr).elim (m.rF r) fun e => e ▸ n2
  · exact fun r hr => (mm r hr).elim (m.rS r) fun e => e ▸ n3
  · exact fun r hr => (mm r hr).elim (m.rL r) fun e => e ▸ n4
  · exact nodup_set m.nd fun h => n5 p h rfl
  · rw [List.length_set]
    exact m.lr
  · intro vs hv
    rcases List.mem_or_eq_of_mem_set hv with h | h
    · exact m.lw vs h
    · rw [h]
      exact l
theorem Mut.cutS (m : Mut H H' F S L fs ls rs rws a b c d) (n : H' p = none) : Mut H (upd H' p (.lst (rs.dropLast.map V.ref))) F p L fs ls rs.dropLast rws.dropLast a b c d := by
  obtain ⟨n1, n2, n3, n4, n5⟩ := m.free n
  have k := same_upd (o := .lst (rs.dropLast.map V.ref)) n
  have mm : ∀ r ∈ rs.dropLast, r ∈ rs := fun r hr => (List.dropLast_sublist _).subset hr
  exact { m with s := m.s.trans k, nS := n1, hF := k _ _ m.hF, hS := upd_same, hL := k _ _ m.hL, FS := Ne.symm n2, SL := n4, row := m.row.init.same k, nr := fun r hr => m.nr r (mm r hr), rF := fun r hr => m.rF r (mm r hr), rS := fun r hr => n5 r (mm r hr), rL := fun r hr => m.rL r (mm r hr), nd := m.nd.sublist (List.dropLast_sublist _), lr := by (have := m.lr; rw [List.length_dropLast]; omega), lw := fun vs hv => m.lw vs ((List.dropLast_sublist _).subset hv) }
theorem Mut.cutL (m : Mut H H' F S L fs ls rs rws a b c d) (n : H' p = none) : Mut H (upd H' p (.lst (ls.dropLast.map V.int))) F S p fs ls.dropLast rs rws a b c d := by
  obtain ⟨n1, n2, n3, n4, n5⟩ := m.free n
  have k := same_upd (o := .lst (ls.dropLast.map V.int)) n
  exact { m with s := m.s.trans k, nL := n1, hF := k _ _ m.hF, hS := k _ _ m.hS, hL := upd_same, FL := Ne.symm n2, SL := Ne.symm n3, row := m.row.same k, rL := n5, ll := by (have := m.ll; rw [List.length_dropLast]; omega) }
theorem Mut.mono {b' d' : Nat} (m : Mut H H' F S L fs ls rs rws a b c d) (h : b ≤ b') (k : d ≤ d') : Mut H H' F S L fs ls rs rws a b' c d' := { m with lr := Nat.le_trans m.lr h, ll := Nat.le_trans m.ll k }
end
theorem cut_init (xs : List V) : cutV xs none (some (-1)) = xs.dropLast := by
  unfold cutV
  rw [HT.sIx_none, show HT.sIx xs.length xs.length (some (-1)) = xs.length - 1 by
    show (if (-1 : Int) < 0 then ((-1 : Int) + (xs.length : Int)).toNat else min (-1 : Int).toNat xs.length) = xs.length - 1
    rw [if_pos (by decide)]
    omega, List.drop_zero, Nat.sub_zero, List.dropLast_eq_take]
theorem ixn_at {j m : Nat} (h : j < m) : ixN m (j : Int) = some j := by
  unfold ixN
  rw [if_pos (by omega), if_pos (by omega), Int.toNat_natCast]
theorem set_ints (ps : List Int) (j : Nat) (v : Int) : (ps.map V.int).set j (.int v) = (ps.set j v).map V.int := by rw [List.map_set]
theorem wdiv_len {m : Nat} (h : 0 < m) (hb : m ≤ 1000) : CDivW 0 (m : Int) := w_div (by omega) (by omega)
def SpI (H : Hp) (t : Addr) (fault : Int) (place : Nat) (much : Int) (many r0 n b d : Nat) (σ : L2.St) (H' : Hp) : Prop := ∃ (F S L : Addr) (fs ls : List Int) (v : Int) (rs : List Addr) (rws : List (List Int)) (y : Option V), σ = [some (.ref t), some (.int fault), some (.int (place : Int)), some (.int much), some (.ref F), some (.int v), y, some (.ref S), some (.ref L), some (.int (many : Int)), none] ∧ Mut H H' F S L fs ls rs rws n b (n + 1) d ∧ fs.length = many ∧ (fault ≠ 3 → rs.length = r0)
/-- a question in the heap -/
def QAt (H : Hp) (t F S L : Addr) (fs ls : List Int) (b : Int) (rs : List Addr) (rws : List (List Int)) : Prop := H t = some (.tup [.ref F, .int b, .ref S, .ref L]) ∧ H F = some (.lst (fs.map V.int)) ∧ H S = some (.lst (rs.map V.ref)) ∧ RowsAt H rs rws ∧ H L = some (.lst (ls.map V.int))
theorem QAt.same {H H' : Hp} {t F S L : Addr} {fs ls : List Int} {b : Int} {rs : List Addr} {rws : List (List Int)} (s : Same H H') (h : QAt H t F S L fs ls b rs rws) : QAt H' t F S L fs ls b rs rws := ⟨s _ _ h.1, s _ _ h.2.1, s _ _ h.2.2.1, h.2.2.2.1.same s, s _ _ h.2.2.2.2⟩

def rListOf (K : PySem.W.Frag) : List V → Hp → VK → Prop := fun xs H Q => ∃ p ys, xs = [V.ref p] ∧ (SqL K H p ys ∨ SqT K H p ys) ∧ ∀ l, H l = none → Q (.ref l) (upd H l (.lst ys))

theorem dp_ints {K : PySem.W.Frag} {H : Hp} {a : Addr} {ns : List Int} (h : SqL K H a (ns.map V.int)) : Dp K H (.ref a) (.list (ns.map PyData.int)) := by
  refine .lst h ?_
  clear h
  induction ns with
  | nil => exact .nil
  | cons n r ih => exact .cons (.int n) ih
theorem depthAll_ints : ∀ ns : List Int, PyData.depthAll (ns.map PyData.int) = 0
  | [] => rfl
  | n :: r => by
    show max (PyData.depth (.int n)) (PyData.depthAll (r.map PyData.int)) = 0
    rw [depthAll_ints r]
    rfl
theorem depth_ints (ns : List Int) : PyData.depth (.list (ns.map PyData.int)) = 1 := by
  show PyData.depthAll (ns.map PyData.int) + 1 = 1
  rw [depthAll_ints]
theorem lay_ints : ∀ ns : List Int, PyData.canLayAll0 (ns.map PyData.int) = true
  | [] => rfl
  | n :: r => by
    show ((PyData.int n).canLay0 && PyData.canLayAll0 (r.map PyData.int)) = true
    rw [lay_ints r]
    rfl
theorem RowsAt.uncons {H : Hp} {r : Addr} {rs : List Addr} {w : List Int} {rws : List (List Int)} (h : RowsAt H (r :: rs) (w :: rws)) : H r = some (.lst (w.map V.int)) ∧ RowsAt H rs rws := ⟨h.2 0 r w rfl rfl, Nat.succ.inj h.1, fun i u ws h1 h2 => h.2 (i + 1) u ws h1 h2⟩
theorem dp_all {K : PySem.W.Frag} {H : Hp} : ∀ {rs : List Addr} {rws : List (List Int)}, RowsAt H rs rws → DpAll K H (rs.map V.ref) (rws.map fun ws => .list (ws.map PyData.int))
  | [], [], _ => .nil
  | [], _ :: _, h => by cases h.1
  | _ :: _, [], h => by cases h.1
  | r :: rs, w :: rws, h => .cons (dp_ints (lst_l h.uncons.1)) (dp_all h.uncons.2)
theorem lay_rows : ∀ rws : List (List Int), PyData.canLayAll0 (rws.map fun ws => .list (ws.map PyData.int)) = true
  | [] => rfl
  | w :: r => by
    show ((PyData.list (w.map PyData.int)).canLay0 && PyData.canLayAll0 (r.map fun ws => .list (ws.map PyData.int))) = true
    rw [lay_rows r, show (PyData.list (w.map PyData.int)).canLay0 = true from lay_ints w]
    rfl
theorem depth_rows : ∀ rws : List (List Int), PyData.depthAll (rws.map fun ws => .list (ws.map PyData.int)) ≤ 1
  | [] => Nat.zero_le _
  | w :: r => by
    show max (PyData.depth (.list (w.map PyData.int))) (PyData.depthAll (r.map fun ws => .list (ws.map PyData.int))) ≤ 1
    rw [depth_ints w]
    exact Nat.max_le.mpr ⟨Nat.le_refl _, depth_rows r⟩
theorem sh_ints (ns : List Int) : SeqAt.shaped (.list (ns.map PyData.int)) = true := by
  unfold SeqAt.shaped
  rw [show (PyData.list (ns.map PyData.int)).canLay0 = true from lay_ints ns, depth_ints ns]
  rfl
theorem sh_rows (rws : List (List Int)) : SeqAt.shaped (.list (rws.map fun ws => .list (ws.map PyData.int))) = true := by
  unfold SeqAt.shaped
  rw [show (PyData.list (rws.map fun ws => .list (ws.map PyData.int))).canLay0 = true from lay_rows rws]
  have : PyData.depth (.list (rws.map fun ws => .list (ws.map PyData.int))) ≤ 64 := by
    show PyData.depthAll _ + 1 ≤ 64
    have := depth_rows rws
    omega
  rw [decide_eq_true this]
  rfl
/-- what is no list stays -/
def NoL (H H' : Hp) : Prop := ∀ b o, H b = some o → (∀ xs, o ≠ .lst xs) → H' b = some o
theorem NoL.refl (H : Hp) : NoL H H := fun _ _ h _ => h
theorem NoL.trans {H H' H2 : Hp} (h : NoL H H') (k : NoL H' H2) : NoL H H2 := fun b o e n => k b o (h b o e n) n
theorem NoL.put {H : Hp} {p : Addr} {xs : List V} {o : HO} (h : H p = some (.lst xs)) : NoL H (upd H p o) := fun b u e n => (upd_ne fun z => n xs (by
  rw [z, h] at e
  exact (Option.some.inj e).symm)).trans e
theorem NoL.new {H H' : Hp} (h : Same H H') : NoL H H' := fun b o e _ => h b o e
theorem SAt.nol {C : Addr} {H H' : Hp} {x : Addr} {fs : List Int} {b : Int} {rws : List (List Int)} {ls : List Int} (s : NoL H H') (h : SAt C H x fs b rws ls) : SAt C H' x fs b rws ls := by
  obtain ⟨dx, tF, tS, tL, us, h1, h2, h3, h4, h5⟩ := h
  exact ⟨dx, tF, tS, tL, us, s _ _ h1 (fun _ z => by cases z), s _ _ h2 (fun _ z => by cases z), s _ _ h3 (fun _ z => by cases z), ⟨h4.1, fun i u ws e1 e2 => s _ _ (h4.2 i u ws e1 e2) (fun _ z => by cases z)⟩, s _ _ h5 (fun _ z => by cases z)⟩
theorem Mut.wide {H H' : Hp} {F S L : Addr} {fs ls : List Int} {rs : List Addr} {rws : List (List Int)} {n : Nat} (m : Mut H H' F S L fs ls rs rws n n (n + 1) n) (h : n ≤ 800) : Mut H H' F S L fs ls rs rws 850 850 850 850 := { m with lf := by (have := m.lf; omega), lr := by (have := m.lr; omega), lw := fun ws hw => by (have := m.lw ws hw; omega), ll := by (have := m.ll; omega) }
theorem num_x {fs : List Int} {b : Int} {rws : List (List Int)} {ls : List Int} {w : Str} {x : V} (h : dueS fs b rws ls = .num w x) : x = .non ∨ ∃ k : Int, x = .int k := by
  unfold dueS at h
  split at h
  · cases h
  split at h
  · cases h
    exact .inr ⟨_, rfl⟩
  split at h
  · cases h
    exact .inl rfl
  split at h
  · cases h
    exact .inl rfl
  split at h
  · cases h
    exact .inr ⟨_, rfl⟩
  split at h
  · cases h
    exact .inl rfl
  split at h
  · cases h
    exact .inr ⟨_, rfl⟩
  · cases h
theorem sh_6 (a b c d e f : Bool) : SeqAt.shaped (.list [.bool a, .bool b, .bool c, .bool d, .bool e, .bool f]) = true := by cases a <;> cases b <;> cases c <;> cases d <;> cases e <;> cases f <;> decide +kernel
theorem dp_6 {K : PySem.W.Frag} {H : Hp} {t : Addr} {a b c d e f : Bool} (h : H t = some (.lst [.bl a, .bl b, .bl c, .bl d, .bl e, .bl f])) : Dp K H (.ref t) (.list [.bool a, .bool b, .bool c, .bool d, .bool e, .bool f]) := .lst (lst_l h) (.cons (.bl _) (.cons (.bl _) (.cons (.bl _) (.cons (.bl _) (.cons (.bl _) (.cons (.bl _) .nil))))))
theorem kSt : kitB "str" "str" = some true := by decide +kernel

/-- max(1, n) -/
def mx (n : Int) : Int := if n > 1 then n else 1
theorem mx_pos (n : Int) : 0 < mx n := by
  unfold mx
  split <;> omega
theorem tabV : ∀ x : Int, 0 ≤ x → x < 9 → ∃ m : Nat, atI [V.int 0, V.int 1, V.int 2, V.int 3, V.int 4, V.int 5, V.int 8, V.int 9, V.int 25] x = some (.int (m : Int)) ∧ (m ≤ 9 ∨ m = 25) := fun x h0 h1 => by
  rcases (by omega : x = 0 ∨ x = 1 ∨ x = 2 ∨ x = 3 ∨ x = 4 ∨ x = 5 ∨ x = 6 ∨ x = 7 ∨ x = 8) with rfl | rfl | rfl | rfl | rfl | rfl | rfl | rfl | rfl
  · exact ⟨0, rfl, by omega⟩
  · exact ⟨1, rfl, by omega⟩
  · exact ⟨2, rfl, by omega⟩
  · exact ⟨3, rfl, by omega⟩
  · exact ⟨4, rfl, by omega⟩
  · exact ⟨5, rfl, by omega⟩
  · exact ⟨8, rfl, by omega⟩
  · exact ⟨9, rfl, by omega⟩
  · exact ⟨25, rfl, by omega⟩
/-- what the top has written of the classes -/
structure Txt (K : PySem.W.Frag) (mg : Str → Option Value) (C_Stepping C_BadNumber C_TooMany C_BadLot C_BadTable C_Unlike C_ShelfError : Addr) : Prop where
  g_Stepping : mg "Stepping" = some (.ref C_Stepping)
  kc_Stepping : PySem.W.keepIn K (.ref C_Stepping) = true
  hd_Stepping : PySem.W.hasDictIn K C_Stepping = true
  ha_Stepping : PySem.W.findIn K (.ref C_Stepping) "__class__" = some (some (.builtin "object.__class__"))
  hm_Stepping : PySem.W.mroIn K C_Stepping (.type "object") = some true
  cl_Stepping : Cls K C_Stepping
  mk_Stepping : PySem.W.makesIn K C_Stepping = true
  n_Stepping_many : NoAttr K C_Stepping "many"
  n_Stepping_first : NoAttr K C_Stepping "first"
  n_Stepping_aside : NoAttr K C_Stepping "aside"
  n_Stepping_steps : NoAttr K C_Stepping "steps"
  n_Stepping_leaves : NoAttr K C_Stepping "leaves"
  g_BadNumber : mg "BadNumber" = some (.ref C_BadNumber)
  kc_BadNumber : PySem.W.keepIn K (.ref C_BadNumber) = true
  hd_BadNumber : PySem.W.hasDictIn K C_BadNumber = true
  ha_BadNumber : PySem.W.findIn K (.ref C_BadNumber) "__class__" = some (some (.builtin "object.__class__"))
  hm_BadNumber : PySem.W.mroIn K C_BadNumber (.type "object") = some true
  b_BadNumber : PySem.W.subIn K (.ref C_BadNumber) (.type "BaseException") = some true
  t_BadNumber : PySem.W.typeIn K (.ref C_BadNumber) = some (.type "type")
  ga_BadNumber : PySem.W.findIn K (.ref C_BadNumber) "__getattribute__" = some (some (.builtin "BaseException.__getattribute__"))
  gg_BadNumber : PySem.W.findIn K (.ref C_BadNumber) "__getattr__" = some none
  ox_BadNumber : OexC K C_BadNumber
  xf_BadNumber : XfC K C_BadNumber
  n_BadNumber_what : PySem.W.findIn K (.ref C_BadNumber) "what" = some none
  n_BadNumber_at : PySem.W.findIn K (.ref C_BadNumber) "at" = some none
  g_TooMany : mg "TooMany" = some (.ref C_TooMany)
  kc_TooMany : PySem.W.keepIn K (.ref C_TooMany) = true
  hd_TooMany : PySem.W.hasDictIn K C_TooMany = true
  ha_TooMany : PySem.W.findIn K (.ref C_TooMany) "__class__" = some (some (.builtin "object.__class__"))
  hm_TooMany : PySem.W.mroIn K C_TooMany (.type "object") = some true
  b_TooMany : PySem.W.subIn K (.ref C_TooMany) (.type "BaseException") = some true
  t_TooMany : PySem.W.typeIn K (.ref C_TooMany) = some (.type "type")
  ga_TooMany : PySem.W.findIn K (.ref C_TooMany) "__getattribute__" = some (some (.builtin "BaseException.__getattribute__"))
  gg_TooMany : PySem.W.findIn K (.ref C_TooMany) "__getattr__" = some none
  ox_TooMany : OexC K C_TooMany
  xf_TooMany : XfC K C_TooMany
  n_TooMany_many : PySem.W.findIn K (.ref C_TooMany) "many" = some none
  n_TooMany_most : PySem.W.findIn K (.ref C_TooMany) "most" = some none
  g_BadLot : mg "BadLot" = some (.ref C_BadLot)
  kc_BadLot : PySem.W.keepIn K (.ref C_BadLot) = true
  hd_BadLot : PySem.W.hasDictIn K C_BadLot = true
  ha_BadLot : PySem.W.findIn K (.ref C_BadLot) "__class__" = some (some (.builtin "object.__class__"))
  hm_BadLot : PySem.W.mroIn K C_BadLot (.type "object") = some true
  b_BadLot : PySem.W.subIn K (.ref C_BadLot) (.type "BaseException") = some true
  t_BadLot : PySem.W.typeIn K (.ref C_BadLot) = some (.type "type")
  ga_BadLot : PySem.W.findIn K (.ref C_BadLot) "__getattribute__" = some (some (.builtin "BaseException.__getattribute__"))
  gg_BadLot : PySem.W.findIn K (.ref C_BadLot) "__getattr__" = some none
  x_BadLot : PySem.W.excIn K C_BadLot [.type "ValueError", .type "Exception", .type "BaseException", .type "object"] "ValueError.__new__" = true
  g_BadTable : mg "BadTable" = some (.ref C_BadTable)
  kc_BadTable : PySem.W.keepIn K (.ref C_BadTable) = true
  hd_BadTable : PySem.W.hasDictIn K C_BadTable = true
  ha_BadTable : PySem.W.findIn K (.ref C_BadTable) "__class__" = some (some (.builtin "object.__class__"))
  hm_BadTable : PySem.W.mroIn K C_BadTable (.type "object") = some true
  b_BadTable : PySem.W.subIn K (.ref C_BadTable) (.type "BaseException") = some true
  t_BadTable : PySem.W.typeIn K (.ref C_BadTable) = some (.type "type")
  ga_BadTable : PySem.W.findIn K (.ref C_BadTable) "__getattribute__" = some (some (.builtin "BaseException.__getattribute__"))
  gg_BadTable : PySem.W.findIn K (.ref C_BadTable) "__getattr__" = some none
  ox_BadTable : OexC K C_BadTable
  xf_BadTable : XfC K C_BadTable
  n_BadTable_at : PySem.W.findIn K (.ref C_BadTable) "at" = some none
  g_Unlike : mg "Unlike" = some (.ref C_Unlike)
  kc_Unlike : PySem.W.keepIn K (.ref C_Unlike) = true
  hd_Unlike : PySem.W.hasDictIn K C_Unlike = true
  ha_Unlike : PySem.W.findIn K (.ref C_Unlike) "__class__" = some (some (.builtin "object.__class__"))
  hm_Unlike : PySem.W.mroIn K C_Unlike (.type "object") = some true
  b_Unlike : PySem.W.subIn K (.ref C_Unlike) (.type "BaseException") = some true
  t_Unlike : PySem.W.typeIn K (.ref C_Unlike) = some (.type "type")
  ga_Unlike : PySem.W.findIn K (.ref C_Unlike) "__getattribute__" = some (some (.builtin "BaseException.__getattribute__"))
  gg_Unlike : PySem.W.findIn K (.ref C_Unlike) "__getattr__" = some none
  ox_Unlike : OexC K C_Unlike
  xf_Unlike : XfC K C_Unlike
  n_Unlike_at : PySem.W.findIn K (.ref C_Unlike) "at" = some none
  g_ShelfError : mg "ShelfError" = some (.ref C_ShelfError)
  kc_ShelfError : PySem.W.keepIn K (.ref C_ShelfError) = true
  hd_ShelfError : PySem.W.hasDictIn K C_ShelfError = true
  ha_ShelfError : PySem.W.findIn K (.ref C_ShelfError) "__class__" = some (some (.builtin "object.__class__"))
  hm_ShelfError : PySem.W.mroIn K C_ShelfError (.type "object") = some true
  b_ShelfError : PySem.W.subIn K (.ref C_ShelfError) (.type "BaseException") = some true
  t_ShelfError : PySem.W.typeIn K (.ref C_ShelfError) = some (.type "type")
  ga_ShelfError : PySem.W.findIn K (.ref C_ShelfError) "__getattribute__" = some (some (.builtin "BaseException.__getattribute__"))
  gg_ShelfError : PySem.W.findIn K (.ref C_ShelfError) "__getattr__" = some none
  hnc : PySem.W.specialIn K (.builtin "object.__class__") "__get__" = some (some (.builtin "getset_descriptor.__get__"))
  htk : PySem.W.takesIn K (.builtin "object.__class__") = some true
  sub_BadNumber_BadNumber : PySem.W.subIn K (.ref C_BadNumber) (.ref C_BadNumber) = some true
  sub_TooMany_BadNumber : PySem.W.subIn K (.ref C_TooMany) (.ref C_BadNumber) = some false
  sub_TooMany_TooMany : PySem.W.subIn K (.ref C_TooMany) (.ref C_TooMany) = some true
  sub_BadNumber_ShelfError : PySem.W.subIn K (.ref C_BadNumber) (.ref C_ShelfError) = some true
  sub_TooMany_ShelfError : PySem.W.subIn K (.ref C_TooMany) (.ref C_ShelfError) = some true
  kit_BadNumber_ValueError : PySem.W.kitOne K (.ref C_BadNumber) (.type "ValueError") = some true
  kit_BadNumber_BadNumber : PySem.W.kitOne K (.ref C_BadNumber) (.ref C_BadNumber) = some true
  kit_BadNumber_TooMany : PySem.W.kitOne K (.ref C_BadNumber) (.ref C_TooMany) = some false
  kit_BadNumber_BadLot : PySem.W.kitOne K (.ref C_BadNumber) (.ref C_BadLot) = some false
  kit_BadNumber_BadTable : PySem.W.kitOne K (.ref C_BadNumber) (.ref C_BadTable) = some false
  kit_BadNumber_Unlike : PySem.W.kitOne K (.ref C_BadNumber) (.ref C_Unlike) = some false
  kit_TooMany_ValueError : PySem.W.kitOne K (.ref C_TooMany) (.type "ValueError") = some true
  kit_TooMany_BadNumber : PySem.W.kitOne K (.ref C_TooMany) (.ref C_BadNumber) = some false
  kit_TooMany_TooMany : PySem.W.kitOne K (.ref C_TooMany) (.ref C_TooMany) = some true
  kit_TooMany_BadLot : PySem.W.kitOne K (.ref C_TooMany) (.ref C_BadLot) = some false
  kit_TooMany_BadTable : PySem.W.kitOne K (.ref C_TooMany) (.ref C_BadTable) = some false
  kit_TooMany_Unlike : PySem.W.kitOne K (.ref C_TooMany) (.ref C_Unlike) = some false
  kit_Stepping_Stepping : PySem.W.kitOne K (.ref C_Stepping) (.ref C_Stepping) = some true
  g_MOST_STEPPED_THINGS : ∃ t, mg "MOST_STEPPED_THINGS" = some (.int 8 t)
  g_MOST_THINGS : ∃ t, mg "MOST_THINGS" = some (.int 24 t)
theorem Txt.ec_BadNumber {K : PySem.W.Frag} {mg : Str → Option Value} {C_Stepping C_BadNumber C_TooMany C_BadLot C_BadTable C_Unlike C_ShelfError : Addr} (T : Txt K mg C_Stepping C_BadNumber C_TooMany C_BadLot C_BadTable C_Unlike C_ShelfError) : ExcC K C_BadNumber := ⟨T.ga_BadNumber, T.gg_BadNumber, T.b_BadNumber, T.hd_BadNumber, T.ha_BadNumber, T.hnc, T.htk, T.hm_BadNumber⟩
theorem Txt.ec_TooMany {K : PySem.W.Frag} {mg : Str → Option Value} {C_Stepping C_BadNumber C_TooMany C_BadLot C_BadTable C_Unlike C_ShelfError : Addr} (T : Txt K mg C_Stepping C_BadNumber C_TooMany C_BadLot C_BadTable C_Unlike C_ShelfError) : ExcC K C_TooMany := ⟨T.ga_TooMany, T.gg_TooMany, T.b_TooMany, T.hd_TooMany, T.ha_TooMany, T.hnc, T.htk, T.hm_TooMany⟩
theorem Txt.ec_BadLot {K : PySem.W.Frag} {mg : Str → Option Value} {C_Stepping C_BadNumber C_TooMany C_BadLot C_BadTable C_Unlike C_ShelfError : Addr} (T : Txt K mg C_Stepping C_BadNumber C_TooMany C_BadLot C_BadTable C_Unlike C_ShelfError) : ExcC K C_BadLot := ⟨T.ga_BadLot, T.gg_BadLot, T.b_BadLot, T.hd_BadLot, T.ha_BadLot, T.hnc, T.htk, T.hm_BadLot⟩
theorem Txt.ec_BadTable {K : PySem.W.Frag} {mg : Str → Option Value} {C_Stepping C_BadNumber C_TooMany C_BadLot C_BadTable C_Unlike C_ShelfError : Addr} (T : Txt K mg C_Stepping C_BadNumber C_TooMany C_BadLot C_BadTable C_Unlike C_ShelfError) : ExcC K C_BadTable := ⟨T.ga_BadTable, T.gg_BadTable, T.b_BadTable, T.hd_BadTable, T.ha_BadTable, T.hnc, T.htk, T.hm_BadTable⟩
theorem Txt.ec_Unlike {K : PySem.W.Frag} {mg : Str → Option Value} {C_Stepping C_BadNumber C_TooMany C_BadLot C_BadTable C_Unlike C_ShelfError : Addr} (T : Txt K mg C_Stepping C_BadNumber C_TooMany C_BadLot C_BadTable C_Unlike C_ShelfError) : ExcC K C_Unlike := ⟨T.ga_Unlike, T.gg_Unlike, T.b_Unlike, T.hd_Unlike, T.ha_Unlike, T.hnc, T.htk, T.hm_Unlike⟩
theorem Txt.ec_ShelfError {K : PySem.W.Frag} {mg : Str → Option Value} {C_Stepping C_BadNumber C_TooMany C_BadLot C_BadTable C_Unlike C_ShelfError : Addr} (T : Txt K mg C_Stepping C_BadNumber C_TooMany C_BadLot C_BadTable C_Unlike C_ShelfError) : ExcC K C_ShelfError := ⟨T.ga_ShelfError, T.gg_ShelfError, T.b_ShelfError, T.hd_ShelfError, T.ha_ShelfError, T.hnc, T.htk, T.hm_ShelfError⟩
theorem Txt.exm_BadNumber_BadNumber {K : PySem.W.Frag} {mg : Str → Option Value} {C_Stepping C_BadNumber C_TooMany C_BadLot C_BadTable C_Unlike C_ShelfError : Addr} (T : Txt K mg C_Stepping C_BadNumber C_TooMany C_BadLot C_BadTable C_Unlike C_ShelfError) : PySem.W.exmOne K (.ref C_BadNumber) (.ref C_BadNumber) = some true := PySem.W.exm_ref T.b_BadNumber T.hd_BadNumber T.t_BadNumber T.sub_BadNumber_BadNumber
theorem Txt.exm_TooMany_BadNumber {K : PySem.W.Frag} {mg : Str → Option Value} {C_Stepping C_BadNumber C_TooMany C_BadLot C_BadTable C_Unlike C_ShelfError : Addr} (T : Txt K mg C_Stepping C_BadNumber C_TooMany C_BadLot C_BadTable C_Unlike C_ShelfError) : PySem.W.exmOne K (.ref C_TooMany) (.ref C_BadNumber) = some false := PySem.W.exm_ref T.b_BadNumber T.hd_BadNumber T.t_BadNumber T.sub_TooMany_BadNumber
theorem Txt.exm_TooMany_TooMany {K : PySem.W.Frag} {mg : Str → Option Value} {C_Stepping C_BadNumber C_TooMany C_BadLot C_BadTable C_Unlike C_ShelfError : Addr} (T : Txt K mg C_Stepping C_BadNumber C_TooMany C_BadLot C_BadTable C_Unlike C_ShelfError) : PySem.W.exmOne K (.ref C_TooMany) (.ref C_TooMany) = some true := PySem.W.exm_ref T.b_TooMany T.hd_TooMany T.t_TooMany T.sub_TooMany_TooMany
theorem Txt.exm_BadNumber_ShelfError {K : PySem.W.Frag} {mg : Str → Option Value} {C_Stepping C_BadNumber C_TooMany C_BadLot C_BadTable C_Unlike C_ShelfError : Addr} (T : Txt K mg C_Stepping C_BadNumber C_TooMany C_BadLot C_BadTable C_Unlike C_ShelfError) : PySem.W.exmOne K (.ref C_BadNumber) (.ref C_ShelfError) = some true := PySem.W.exm_ref T.b_ShelfError T.hd_ShelfError T.t_ShelfError T.sub_BadNumber_ShelfError
theorem Txt.exm_TooMany_ShelfError {K : PySem.W.Frag} {mg : Str → Option Value} {C_Stepping C_BadNumber C_TooMany C_BadLot C_BadTable C_Unlike C_ShelfError : Addr} (T : Txt K mg C_Stepping C_BadNumber C_TooMany C_BadLot C_BadTable C_Unlike C_ShelfError) : PySem.W.exmOne K (.ref C_TooMany) (.ref C_ShelfError) = some true := PySem.W.exm_ref T.b_ShelfError T.hd_ShelfError T.t_ShelfError T.sub_TooMany_ShelfError

/-- a def that is called by its name, with its promise -/
def Cal (P : Program) (w : World) (K : PySem.W.Frag) (mg : Str → Option Value) (base : Heap) (CX : CXT) (k : Nat) (x : Str) (ps : List Str) (sp : Sp) : Prop :=
  ∃ (f : Addr) (fd : FuncData), FnOk P w K mg base CX k f fd ps sp ∧ mg x = some (.ref f) ∧ PySem.W.keepIn K (.ref f) = true ∧ Binds K fd ps []
/-- an own class's __init__; dvs: what stands for the parameters that a short call leaves out -/
def CalI (P : Program) (w : World) (K : PySem.W.Frag) (mg : Str → Option Value) (base : Heap) (CX : CXT) (k : Nat) (C : Addr) (ps : List Str) (sp : Sp) (dvs : List V) : Prop :=
  ∃ (f : Addr) (fd : FuncData), FnOk P w K mg base CX k f fd ps sp ∧ Mk K C f ∧ Binds K fd ps [] ∧ ∃ ds, Vals dvs ds ∧ Binds K fd ps ds
/-- an own error's __init__ -/
def CalX (P : Program) (w : World) (K : PySem.W.Frag) (mg : Str → Option Value) (base : Heap) (CX : CXT) (k : Nat) (C : Addr) (ps : List Str) (sp : Sp) : Prop :=
  ∃ (f : Addr) (fd : FuncData), FnOk P w K mg base CX k f fd ps sp ∧ PySem.W.findIn K (.ref C) "__init__" = some (some (.ref f)) ∧ PySem.W.typeIn K (.ref f) = some (.type "function") ∧ Binds K fd ps []
/-- a method -/
def CalM (P : Program) (w : World) (K : PySem.W.Frag) (mg : Str → Option Value) (base : Heap) (CX : CXT) (k : Nat) (C : Addr) (m : Str) (ps : List Str) (sp : Sp) : Prop :=
  ∃ (f : Addr) (fd : FuncData), FnOk P w K mg base CX k f fd ps sp ∧ Meth K C m f ∧ Binds K fd ps []
section
variable {P : Program} {w : World} {K : PySem.W.Frag} {mg : Str → Option Value} {base : Heap}
def sp_BadNumber___init__ (C : Addr) : Sp := fun vs H Q _ => ∃ (a : Addr) (x y : V), vs = [.ref a, x, y] ∧ H a = some (exo a C none) ∧ ∀ dx, H dx = none → dx ≠ a → Q .non (errH H a C dx "what" "at" x y)
theorem ok_BadNumber___init__ {f : Addr} {fd : FuncData} {C_Stepping C_BadNumber C_TooMany C_BadLot C_BadTable C_Unlike C_ShelfError : Addr} (F : Fun K "__init__" "BadNumber.__init__" s_BadNumber___init__ f fd) (T : Txt K mg C_Stepping C_BadNumber C_TooMany C_BadLot C_BadTable C_Unlike C_ShelfError) : FnOk P w K mg base CX0 1 f fd ["self", "what", "at"] (sp_BadNumber___init__ C_BadNumber) := by
  refine F.ok sc_BadNumber___init__ (fun vs H Q E h => ?_) (fun cdv A outer s H vs Q E hr h => ?_)
  · obtain ⟨a, x, y, rfl, _⟩ := h
    rfl
  · obtain ⟨a, x, y, rfl, ha, q⟩ := h
    refine ⟨_, (pss_cons (ps_ost (pv 0) (pv 1))
      (pss_one (ps_ost (pv 0) (pv 2)))), ?_⟩
    refine ⟨_, rfl, _, rfl, a, C_BadNumber, rfl, T.ox_BadNumber, T.n_BadNumber_what, .inl ⟨ha, fun dx nd ne => ?_⟩⟩
    exact ⟨_, rfl, _, rfl, a, C_BadNumber, rfl, T.ox_BadNumber, T.n_BadNumber_at, .inr ⟨dx, _, upd_same, (upd_ne ne).trans upd_same, by show 1 ≤ 900; decide, q dx nd ne⟩⟩
def sp_TooMany___init__ (C : Addr) : Sp := fun vs H Q _ => ∃ (a : Addr) (x y : V), vs = [.ref a, x, y] ∧ H a = some (exo a C none) ∧ ∀ dx, H dx = none → dx ≠ a → Q .non (errH H a C dx "many" "most" x y)
theorem ok_TooMany___init__ {f : Addr} {fd : FuncData} {C_Stepping C_BadNumber C_TooMany C_BadLot C_BadTable C_Unlike C_ShelfError : Addr} (F : Fun K "__init__" "TooMany.__init__" s_TooMany___init__ f fd) (T : Txt K mg C_Stepping C_BadNumber C_TooMany C_BadLot C_BadTable C_Unlike C_ShelfError) : FnOk P w K mg base CX0 1 f fd ["self", "many", "most"] (sp_TooMany___init__ C_TooMany) := by
  refine F.ok sc_TooMany___init__ (fun vs H Q E h => ?_) (fun cdv A outer s H vs Q E hr h => ?_)
  · obtain ⟨a, x, y, rfl, _⟩ := h
    rfl
  · obtain ⟨a, x, y, rfl, ha, q⟩ := h
    refine ⟨_, (pss_cons (ps_ost (pv 0) (pv 1))
      (pss_one (ps_ost (pv 0) (pv 2)))), ?_⟩
    refine ⟨_, rfl, _, rfl, a, C_TooMany, rfl, T.ox_TooMany, T.n_TooMany_many, .inl ⟨ha, fun dx nd ne => ?_⟩⟩
    exact ⟨_, rfl, _, rfl, a, C_TooMany, rfl, T.ox_TooMany, T.n_TooMany_most, .inr ⟨dx, _, upd_same, (upd_ne ne).trans upd_same, by show 1 ≤ 900; decide, q dx nd ne⟩⟩
def sp_check_many (CT : Addr) : Sp := fun vs H Q E => ∃ m n : Int, vs = [.int m, .int n] ∧ (m > n → ∀ d, H d = none → E (.ref CT) (some d) (upd H d (.xd [("most", .int n), ("many", .int m)]))) ∧ (¬ m > n → Q .non H)
theorem ok_check_many {f : Addr} {fd : FuncData} {C_Stepping C_BadNumber C_TooMany C_BadLot C_BadTable C_Unlike C_ShelfError : Addr} (F : Fun K "check_many" "check_many" s_check_many f fd) (T : Txt K mg C_Stepping C_BadNumber C_TooMany C_BadLot C_BadTable C_Unlike C_ShelfError) (c_TooMany___init__ : CalX P w K mg base CX0 1 C_TooMany ["self", "many", "most"] (sp_TooMany___init__ C_TooMany)) : FnOk P w K mg base (L2.CX P w) 3 f fd ["many", "most"] (sp_check_many C_TooMany) := by
  refine F.okX sc_check_many (fun vs H Q E h => ?_) (fun cdv A outer s H vs Q E hr h => ?_)
  · obtain ⟨m, n, rfl, _⟩ := h
    rfl
  · obtain ⟨m, n, rfl, kE, q⟩ := h
    obtain ⟨f_TooMany___init__, fd_TooMany___init__, G_TooMany___init__, ic_TooMany___init__, ti_TooMany___init__, b_TooMany___init__⟩ := c_TooMany___init__
    refine ⟨_, (pss_one (ps_if (pt_cmpR op_gt (pv 0) (pv 1) (nomark _)) (pss_one (ps_raise rfl (takes_of rfl rfl rfl rfl) (pmk_oex T.ox_TooMany ic_TooMany___init__ ti_TooMany___init__ G_TooMany___init__ (hr.mono (by decide)) b_TooMany___init__ .nil pass0 (by exact rfl) T.g_TooMany (pa_cons (pv 0) (pa_cons (pv 1) pa_nil))))) pss_nil)), ?_⟩
    refine ⟨_, rfl, _, rfl, _, _, rfl, rfl, _, rfl, ite2 (fun e => ?_) (fun e => q fun z => e (decide_eq_true z))⟩
    exact ⟨_, rfl, _, rfl, (by show 2 ≤ 1000; decide), fun a na => ⟨a, _, _, rfl, upd_same, fun dx nd ne => raise2 (kE (of_decide_eq_true e)) na nd ne⟩⟩
def sp_check_length (CB : Addr) : Sp := fun vs H Q E => ∃ (w : Str) (l : Addr) (xs : List V) (m : Int), vs = [.str w, .ref l, .int m] ∧ H l = some (.lst xs) ∧ (¬ (xs.length : Int) = m → ∀ d, H d = none → E (.ref CB) (some d) (upd H d (.xd [("at", .non), ("what", .str w)]))) ∧ ((xs.length : Int) = m → Q .non H)
theorem ok_check_length {f : Addr} {fd : FuncData} {C_Stepping C_BadNumber C_TooMany C_BadLot C_BadTable C_Unlike C_ShelfError : Addr} (F : Fun K "check_length" "check_length" s_check_length f fd) (T : Txt K mg C_Stepping C_BadNumber C_TooMany C_BadLot C_BadTable C_Unlike C_ShelfError) (m_len : mg "len" = none) (c_BadNumber___init__ : CalX P w K mg base CX0 1 C_BadNumber ["self", "what", "at"] (sp_BadNumber___init__ C_BadNumber)) : FnOk P w K mg base (L2.CX P w) 3 f fd ["what", "items", "many"] (sp_check_length C_BadNumber) := by
  refine F.okX sc_check_length (fun vs H Q E h => ?_) (fun cdv A outer s H vs Q E hr h => ?_)
  · obtain ⟨w, l, xs, m, rfl, _⟩ := h
    rfl
  · obtain ⟨w, l, xs, m, rfl, hl, kE, q⟩ := h
    obtain ⟨f_BadNumber___init__, fd_BadNumber___init__, G_BadNumber___init__, ic_BadNumber___init__, ti_BadNumber___init__, b_BadNumber___init__⟩ := c_BadNumber___init__
    refine ⟨_, (pss_one (ps_if (pt_cmpR op_ne (pe_callB call_len_seq (by rfl) m_len (by decide +kernel) (pa_cons (pv 1) pa_nil)) (pv 2) (nomark _)) (pss_one (ps_raise rfl (takes_of rfl rfl rfl rfl) (pmk_oex T.ox_BadNumber ic_BadNumber___init__ ti_BadNumber___init__ G_BadNumber___init__ (hr.mono (by decide)) b_BadNumber___init__ .nil pass0 (by exact rfl) T.g_BadNumber (pa_cons (pv 0) (pa_cons pe_non pa_nil))))) pss_nil)), ?_⟩
    refine ⟨_, rfl, l, _, rfl, .inl (lst_l hl), _, rfl, rfl, _, rfl, ite2N (fun e => ?_) (fun e => q (V.int.inj e))⟩
    exact ⟨_, rfl, (by show 2 ≤ 1000; decide), fun a na => ⟨a, _, _, rfl, upd_same, fun dx nd ne => raise2 (kE fun z => e (congrArg V.int z)) na nd ne⟩⟩
def sp_check_each (K : PySem.W.Frag) (CB : Addr) : Sp := fun vs H Q E => ∃ (l : Addr) (w : Str) (ns : List Int) (b : Int), vs = [.str w, .ref l, .int b] ∧ H l = some (.lst (ns.map V.int)) ∧ ns.length ≤ 1000 ∧ (∀ k : Nat, lowAt b ns 0 = some k → ∀ H' d, Same H H' → H' d = some (.xd [("at", .int k), ("what", .str w)]) → E (.ref CB) (some d) H') ∧ (lowAt b ns 0 = none → ∀ H', Same H H' → Q .non H')
theorem ok_check_each {f : Addr} {fd : FuncData} {C_Stepping C_BadNumber C_TooMany C_BadLot C_BadTable C_Unlike C_ShelfError : Addr} (F : Fun K "check_each" "check_each" s_check_each f fd) (T : Txt K mg C_Stepping C_BadNumber C_TooMany C_BadLot C_BadTable C_Unlike C_ShelfError) (m_enumerate : mg "enumerate" = none) (c_BadNumber___init__ : CalX P w K mg base CX0 1 C_BadNumber ["self", "what", "at"] (sp_BadNumber___init__ C_BadNumber)) : FnOk P w K mg base (L2.CX P w) 3 f fd ["what", "numbers", "least"] (sp_check_each K C_BadNumber) := by
  refine F.okX sc_check_each (fun vs H Q E h => ?_) (fun cdv A outer s H vs Q E hr h => ?_)
  · obtain ⟨l, w, ns, b, rfl, _⟩ := h
    rfl
  · obtain ⟨l, w, ns, b, rfl, hl, hlen, kE, q⟩ := h
    obtain ⟨f_BadNumber___init__, fd_BadNumber___init__, G_BadNumber___init__, ic_BadNumber___init__, ti_BadNumber___init__, b_BadNumber___init__⟩ := c_BadNumber___init__
    refine ⟨_, (pss_one (ps_for (passes_of rfl) rfl (pi_enum (by rfl) m_enumerate (pa_cons (pv 1) pa_nil)) (pg_tup rfl (pgs_cons (pg_name (i := 3) sc_check_each.nd rfl (Or.inl rfl)) (pgs_cons (pg_name (i := 4) sc_check_each.nd rfl (Or.inl rfl)) pgs_nil)))
      (pss_one (ps_if (pt_cmpR op_lt (pv 4) (pv 2) (nomark _)) (pss_one (ps_raise rfl (takes_of rfl rfl rfl rfl) (pmk_oex T.ox_BadNumber ic_BadNumber___init__ ti_BadNumber___init__ G_BadNumber___init__ (hr.mono (by decide)) b_BadNumber___init__ .nil pass0 (by exact rfl) T.g_BadNumber (pa_cons (pv 0) (pa_cons (pv 3) pa_nil))))) pss_nil)))), ?_⟩
    refine ⟨_, rfl, l, _, rfl, lst_l hl, ?_⟩
    refine for_it (walk_enum (K := K) (a := l) (xs := ns.map V.int)) (fun i σ H2 => ∃ y1 y2 : Option V, σ = [some (.str w), some (.ref l), some (.int b), y1, y2] ∧ Same H H2 ∧ lowAt b ns 0 = lowAt b (ns.drop i) i) ⟨none, none, rfl, fun _ _ z => z, rfl⟩ ?_ ?_ ?_
    · rintro i σ H2 _ ⟨_, _, _, sx, _⟩
      exact lst_l (sx l _ hl)
    · rintro i x σ H2 H3 hi ⟨y1, y2, rfl, sx, hb⟩ ⟨tp, ix, nx, rfl, ntp, rfl, e1, e2⟩
      cases e1
      obtain ⟨n, rfl, hn⟩ := int_of e2
      rw [List.length_map] at hi
      refine ⟨tp, _, rfl, tup_t upd_same, rfl, _, _, rfl, _, _, rfl, rfl, ?_⟩
      have hd : ns.drop i = n :: ns.drop (i + 1) := by
        rw [List.drop_eq_getElem_cons hi]
        rw [List.getElem?_eq_getElem hi] at hn
        rw [Option.some.inj hn]
      refine ⟨_, rfl, _, rfl, _, _, rfl, rfl, _, rfl, ite2 (fun c => ?_) (fun c => ?_)⟩
      · have c := of_decide_eq_true c
        have hk : lowAt b ns 0 = some i := by
          rw [hb, hd]
          exact if_pos c
        exact ⟨_, rfl, _, rfl, (by show 2 ≤ 1000; decide), fun a na => ⟨a, _, _, rfl, upd_same, fun dx2 nd ne => raise2 (fun d nd => kE i hk _ _ ((sx.trans (same_upd ntp)).trans (same_upd nd)) upd_same) na nd ne⟩⟩
      · have c : ¬ n < b := fun z => c (decide_eq_true z)
        refine ⟨_, _, rfl, sx.trans (same_upd ntp), ?_⟩
        rw [hb, hd]
        exact if_neg c
    · rintro σ H2 ⟨y1, y2, rfl, sx, hb⟩
      rw [List.length_map, List.drop_length] at hb
      exact q hb H2 sx
def sp_check_least (CB : Addr) : Sp := fun vs H Q E => ∃ (w : Str) (n b : Int), vs = [.str w, .int n, .int b] ∧ (n < b → ∀ d, H d = none → E (.ref CB) (some d) (upd H d (.xd [("at", .non), ("what", .str w)]))) ∧ (¬ n < b → Q .non H)
theorem ok_check_least {f : Addr} {fd : FuncData} {C_Stepping C_BadNumber C_TooMany C_BadLot C_BadTable C_Unlike C_ShelfError : Addr} (F : Fun K "check_least" "check_least" s_check_least f fd) (T : Txt K mg C_Stepping C_BadNumber C_TooMany C_BadLot C_BadTable C_Unlike C_ShelfError) (c_BadNumber___init__ : CalX P w K mg base CX0 1 C_BadNumber ["self", "what", "at"] (sp_BadNumber___init__ C_BadNumber)) : FnOk P w K mg base (L2.CX P w) 3 f fd ["what", "number", "least"] (sp_check_least C_BadNumber) := by
  refine F.okX sc_check_least (fun vs H Q E h => ?_) (fun cdv A outer s H vs Q E hr h => ?_)
  · obtain ⟨w, n, b, rfl, _⟩ := h
    rfl
  · obtain ⟨w, n, b, rfl, kE, q⟩ := h
    obtain ⟨f_BadNumber___init__, fd_BadNumber___init__, G_BadNumber___init__, ic_BadNumber___init__, ti_BadNumber___init__, b_BadNumber___init__⟩ := c_BadNumber___init__
    refine ⟨_, (pss_one (ps_if (pt_cmpR op_lt (pv 1) (pv 2) (nomark _)) (pss_one (ps_raise rfl (takes_of rfl rfl rfl rfl) (pmk_oex T.ox_BadNumber ic_BadNumber___init__ ti_BadNumber___init__ G_BadNumber___init__ (hr.mono (by decide)) b_BadNumber___init__ .nil pass0 (by exact rfl) T.g_BadNumber (pa_cons (pv 0) (pa_cons pe_non pa_nil))))) pss_nil)), ?_⟩
    refine ⟨_, rfl, _, rfl, _, _, rfl, rfl, _, rfl, ite2 (fun e => ?_) (fun e => q fun z => e (decide_eq_true z))⟩
    exact ⟨_, rfl, (by show 2 ≤ 1000; decide), fun a na => ⟨a, _, _, rfl, upd_same, fun dx nd ne => raise2 (kE (of_decide_eq_true e)) na nd ne⟩⟩
def sp_check_aside (CB : Addr) : Sp := fun vs H Q E => ∃ n : Int, vs = [.int n] ∧ (n < 1 → ∀ d, H d = none → E (.ref CB) (some d) (upd H d (.xd [("at", .non), ("what", .str "aside")]))) ∧ (¬ n < 1 → Q .non H)
theorem ok_check_aside {f : Addr} {fd : FuncData} {C_Stepping C_BadNumber C_TooMany C_BadLot C_BadTable C_Unlike C_ShelfError : Addr} (F : Fun K "check_aside" "check_aside" s_check_aside f fd) (T : Txt K mg C_Stepping C_BadNumber C_TooMany C_BadLot C_BadTable C_Unlike C_ShelfError) (c_check_least : Cal P w K mg base (L2.CX P w) 3 "check_least" ["what", "number", "least"] (sp_check_least C_BadNumber)) : FnOk P w K mg base (L2.CX P w) 4 f fd ["aside"] (sp_check_aside C_BadNumber) := by
  refine F.okX sc_check_aside (fun vs H Q E h => ?_) (fun cdv A outer s H vs Q E hr h => ?_)
  · obtain ⟨n, rfl, _⟩ := h
    rfl
  · obtain ⟨n, rfl, kE, q⟩ := h
    obtain ⟨f_check_least, fd_check_least, G_check_least, m_check_least, k_check_least, b_check_least⟩ := c_check_least
    refine ⟨_, (pss_one (ps_expr (pe_call G_check_least (hr.mono (by decide)) (by rfl) m_check_least k_check_least b_check_least .nil (passes_call (takes_of rfl rfl rfl rfl) (fun _ _ _ _ h => h)) (pa_cons pe_str (pa_cons (pv 0) (pa_cons pe_int pa_nil)))))), ?_⟩
    exact ⟨_, rfl, _, n, 1, rfl, kE, q⟩
def sp_Rule___init__ (C CT : Addr) : Sp := fun vs H Q E => ∃ (p dx : Addr) (fs : List (Str × V)) (m : Int), vs = [.ref p, .int m] ∧ H p = some (.ins C dx fs) ∧ fs.length ≤ 900 ∧ (m > 24 → ∀ d, H d = none → E (.ref CT) (some d) (upd H d (.xd [("most", .int 24), ("many", .int m)]))) ∧ (¬ m > 24 → Q .non (upd H p (.ins C dx (putF "many" (.int m) fs))))
theorem ok_Rule___init__ {f : Addr} {fd : FuncData} {C_Stepping C_BadNumber C_TooMany C_BadLot C_BadTable C_Unlike C_ShelfError : Addr} (F : Fun K "__init__" "Rule.__init__" s_Rule___init__ f fd) (T : Txt K mg C_Stepping C_BadNumber C_TooMany C_BadLot C_BadTable C_Unlike C_ShelfError) (c_check_many : Cal P w K mg base (L2.CX P w) 3 "check_many" ["many", "most"] (sp_check_many C_TooMany)) : FnOk P w K mg base (L2.CX P w) 4 f fd ["self", "many"] (sp_Rule___init__ C_Stepping C_TooMany) := by
  refine F.okX sc_Rule___init__ (fun vs H Q E h => ?_) (fun cdv A outer s H vs Q E hr h => ?_)
  · obtain ⟨p, dx, fs, m, rfl, _⟩ := h
    rfl
  · obtain ⟨p, dx, fs, m, rfl, hp, hl, kE, q⟩ := h
    obtain ⟨f_check_many, fd_check_many, G_check_many, m_check_many, k_check_many, b_check_many⟩ := c_check_many
    refine ⟨_, (pss_cons (ps_expr (pe_call G_check_many (hr.mono (by decide)) (by rfl) m_check_many k_check_many b_check_many .nil (passes_call (takes_of rfl rfl rfl rfl) (fun _ _ _ _ h => h)) (pa_cons (pv 1) (pa_cons (pe_glob (v := .int 24) (by rfl) T.g_MOST_THINGS.choose_spec ⟨_, rfl⟩) pa_nil))))
      (pss_one (ps_fld (pv 0) (pv 1) rfl))), ?_⟩
    refine ⟨_, rfl, m, 24, rfl, kE, fun e => ?_⟩
    exact ⟨_, rfl, _, rfl, p, C_Stepping, dx, fs, rfl, hp, T.cl_Stepping, T.n_Stepping_many, by omega, q e⟩
def sp__check_steps (CB : Addr) : Sp := fun vs H Q E => ∃ (a : Addr) (m : Int) (rs : List Addr) (rws : List (List Int)), vs = [.ref a, .int m] ∧ H a = some (.lst (rs.map V.ref)) ∧ RowsAt H rs rws ∧ m ≤ 900 ∧ (¬ (rws.length : Int) = m → ∀ H' d, Same H H' → H' d = some (.xd [("at", .non), ("what", .str "steps")]) → E (.ref CB) (some d) H') ∧
  ((rws.length : Int) = m → ∀ k : Nat, badS m rws 0 = some k → ∀ H' d, Same H H' → H' d = some (.xd [("at", .int k), ("what", .str "steps")]) → E (.ref CB) (some d) H') ∧ ((rws.length : Int) = m → badS m rws 0 = none → ∀ H', Same H H' → Q .non H')
theorem ok__check_steps {f : Addr} {fd : FuncData} {C_Stepping C_BadNumber C_TooMany C_BadLot C_BadTable C_Unlike C_ShelfError : Addr} (F : Fun K "_check_steps" "_check_steps" s__check_steps f fd) (T : Txt K mg C_Stepping C_BadNumber C_TooMany C_BadLot C_BadTable C_Unlike C_ShelfError) (m_any : mg "any" = none) (m_enumerate : mg "enumerate" = none) (m_len : mg "len" = none) (c_check_length : Cal P w K mg base (L2.CX P w) 3 "check_length" ["what", "items", "many"] (sp_check_length C_BadNumber)) (c_BadNumber___init__ : CalX P w K mg base CX0 1 C_BadNumber ["self", "what", "at"] (sp_BadNumber___init__ C_BadNumber)) : FnOk P w K mg base (L2.CX P w) 4 f fd ["steps", "many"] (sp__check_steps C_BadNumber) := by
  refine F.okX sc__check_steps (fun vs H Q E h => ?_) (fun cdv A outer s H vs Q E hr h => ?_)
  · obtain ⟨a, m, rs, rws, rfl, _⟩ := h
    rfl
  · obtain ⟨a, m, rs, rws, rfl, ha, row, hm, kL, kS, q⟩ := h
    obtain ⟨f_check_length, fd_check_length, G_check_length, m_check_length, k_check_length, b_check_length⟩ := c_check_length
    obtain ⟨f_BadNumber___init__, fd_BadNumber___init__, G_BadNumber___init__, ic_BadNumber___init__, ti_BadNumber___init__, b_BadNumber___init__⟩ := c_BadNumber___init__
    refine ⟨_, (pss_cons (ps_expr (pe_call G_check_length (hr.mono (by decide)) (by rfl) m_check_length k_check_length b_check_length .nil (passes_call (takes_of rfl rfl rfl rfl) (fun _ _ _ _ h => h)) (pa_cons pe_str (pa_cons (pv 0) (pa_cons (pv 1) pa_nil)))))
      (pss_one (ps_for (passes_of rfl) rfl (pi_enum (by rfl) m_enumerate (pa_cons (pv 0) pa_nil)) (pg_tup rfl (pgs_cons (pg_name (i := 2) sc__check_steps.nd rfl (Or.inl rfl)) (pgs_cons (pg_name (i := 3) sc__check_steps.nd rfl (Or.inl rfl)) pgs_nil)))
      (pss_one (ps_if (PW.pt (pw_or (pt_cmpR op_ne (pe_callB call_len_seq (by rfl) m_len (by decide +kernel) (pa_cons (pv 3) pa_nil)) (pv 1) (nomark _)) (pw_or (pt_cmpR op_ne (pe_ix ix_list (pv 3) (pv 2) (fun _ _ => rfl)) pe_int (nomark _)) (pw_or1 (pt_val (pe_callB (cr_any rfl) (by rfl) m_any (by decide +kernel) (pa_cons (pe_lc (own := [("number", 4)]) (g := (gName 4)) (tt := tYes) rfl sc__check_steps.nd (pi_list (pv 3)) (blkOk_by (own := [("number", 4)]) (N := ["steps", "many", "thing", "row", "number"]) (sc := defScope s__check_steps) (by decide +kernel)) (fun _ _ _ _ _ => (pg_name (i := 4) sc__check_steps.nd rfl (Or.inl rfl))) (fun _ _ _ _ _ => pts_nil) (fun _ _ _ _ _ => (pe_cmpR op_lt (pv 4) pe_int (nomark _)))) pa_nil))))))) (pss_one (ps_raise rfl (takes_of rfl rfl rfl rfl) (pmk_oex T.ox_BadNumber ic_BadNumber___init__ ti_BadNumber___init__ G_BadNumber___init__ (hr.mono (by decide)) b_BadNumber___init__ .nil pass0 (by exact rfl) T.g_BadNumber (pa_cons pe_str (pa_cons (pv 2) pa_nil))))) pss_nil))))), ?_⟩
    have rl := row.1
    refine ⟨_, rfl, _, rfl, _, a, _, m, rfl, ha, fun e d nd => kL (fun z => e (by rw [List.length_map]; omega)) _ _ (same_upd nd) upd_same, fun e => ?_⟩
    rw [List.length_map] at e
    have e : (rws.length : Int) = m := by omega
    refine ⟨_, rfl, a, _, rfl, lst_l ha, ?_⟩
    refine for_it (walk_enum (K := K) (a := a) (xs := rs.map V.ref)) (fun i σ H2 => ∃ y1 y2 : Option V, σ = [some (.ref a), some (.int m), y1, y2, none] ∧ Same H H2 ∧ badS m rws 0 = badS m (rws.drop i) i) ⟨none, none, rfl, Same.refl _, rfl⟩ ?_ ?_ ?_
    · rintro i σ H2 _ ⟨_, _, _, sx, _⟩
      exact lst_l (sx a _ ha)
    · rintro i x σ H2 H3 hi ⟨y1, y2, rfl, sx, hb⟩ ⟨tp, ix, nx, rfl, ntp, rfl, e1, e2⟩
      cases e1
      rw [List.length_map] at hi
      have h1 : rs[i]? = some rs[i] := List.getElem?_eq_getElem hi
      have h2 : rws[i]? = some rws[i] := List.getElem?_eq_getElem (by omega)
      have e2 : (rs.map V.ref)[i]? = some nx := e2
      rw [List.getElem?_map, h1] at e2
      cases e2
      have hd := drop_row h2
      have sx3 := sx.trans (same_upd (o := .tup [V.int i, V.ref rs[i]]) ntp)
      have hr := sx3 _ _ (row.2 i _ _ h1 h2)
      generalize rws[i] = ws at hr hd h2
      refine ⟨tp, _, rfl, tup_t upd_same, rfl, _, _, rfl, _, _, rfl, rfl, ?_⟩
      generalize upd H2 tp (.tup [V.int i, V.ref rs[i]]) = H3 at sx3 hr ⊢
      refine ⟨_, rfl, rs[i], _, rfl, .inl (lst_l hr), _, rfl, rfl, _, rfl, ite2N (fun c => ?_) (fun c => ?_)⟩
      · have c : BadR m i ws := .inl fun z => c (by rw [List.length_map]; exact congrArg V.int z)
        exact ⟨_, rfl, (by show 2 ≤ 1000; decide), fun an na => ⟨an, _, _, rfl, upd_same, fun dx2 nd ne => raise2 (fun d nd => kS e i (by rw [hb, hd]; exact if_pos c) _ _ (sx3.trans (same_upd nd)) upd_same) na nd ne⟩⟩
      have cl := V.int.inj c
      rw [List.length_map] at cl
      have gi : (ws.map V.int)[i]? = some (.int (ws.getD i 0)) := int_at (by rw [List.getD_eq_getElem?_getD, List.getElem?_eq_getElem (by omega)]; rfl)
      refine ⟨_, rfl, _, rfl, rs[i], _, _, _, rfl, rfl, lst_l hr, atI_nat gi, rfl, _, rfl, ite2N (fun c => ?_) (fun c0 => ?_)⟩
      · have c : BadR m i ws := .inr (.inl fun z => c (congrArg V.int z))
        exact ⟨_, rfl, (by show 2 ≤ 1000; decide), fun an na => ⟨an, _, _, rfl, upd_same, fun dx2 nd ne => raise2 (fun d nd => kS e i (by rw [hb, hd]; exact if_pos c) _ _ (sx3.trans (same_upd nd)) upd_same) na nd ne⟩⟩
      refine ⟨_, rfl, rs[i], rfl, ⟨_, lst_l hr⟩, fun D nD => lc_list (K := K) (a := rs[i]) (xs := ws.map V.int) (fun j H4 => Same H3 H4 ∧ H4 D = some (.lst (((ws.take j).map fun x => decide (x < 0)).map V.bl))) ⟨same_upd nD, upd_same⟩ (fun j H4 _ ⟨s, _⟩ => lst_l (s _ _ hr)) ?_ ?_⟩
      · rintro j x H4 hj ⟨s4, hD⟩
        obtain ⟨n, rfl, hjn⟩ := int_of hj
        refine ⟨rfl, ?_⟩
        refine lc_yes ?_
        refine iteT ?_
        refine ⟨_, rfl, _, _, rfl, rfl, _, hD, ?_, same_mut s4 nD, ?_⟩
        · rw [List.length_map, List.length_map, List.length_take]
          exact small1000 (by omega)
        · rw [upd_same, List.take_add_one, hjn, List.map_append, List.map_append]
          rfl
      rintro H4 ⟨s4, hD⟩
      rw [List.length_map, List.take_length] at hD
      have sx3 := sx3.trans s4
      refine ⟨D, _, rfl, lst_l hD, _, rfl, ite2 (fun c => ?_) (fun c => ?_)⟩
      · have c : BadR m i ws := .inr (.inr c)
        exact ⟨_, rfl, (by show 2 ≤ 1000; decide), fun an na => ⟨an, _, _, rfl, upd_same, fun dx2 nd ne => raise2 (fun d nd => kS e i (by rw [hb, hd]; exact if_pos c) _ _ (sx3.trans (same_upd nd)) upd_same) na nd ne⟩⟩
      · have c : ¬ BadR m i ws := fun z => z.elim (fun z => z cl) fun z => z.elim (fun z => z (V.int.inj c0)) fun z => c z
        refine ⟨_, _, rfl, sx3, ?_⟩
        rw [hb, hd]
        exact if_neg c
    · rintro σ H2 ⟨y1, y2, rfl, sx, hb⟩
      rw [List.length_map, rl, List.drop_length] at hb
      exact q e hb H2 sx
def sp_Stepping___init__ (C CT CB : Addr) : Sp := fun vs H Q E => ∃ (p dx F S L : Addr) (fs ls : List Int) (b : Int) (rs : List Addr) (rws : List (List Int)), vs = [.ref p, .ref F, .int b, .ref S, .ref L] ∧ H p = some (.ins C dx []) ∧ H F = some (.lst (fs.map V.int)) ∧ H S = some (.lst (rs.map V.ref)) ∧ RowsAt H rs rws ∧ H L = some (.lst (ls.map V.int)) ∧ fs.length ≤ 900 ∧ ls.length ≤ 900 ∧ rs.length ≤ 900 ∧
  (∀ n, dueS fs b rws ls = .many n → ∀ H' d, SameX p H H' → H' d = some (.xd [("most", .int 8), ("many", .int n)]) → E (.ref CT) (some d) H') ∧
  (∀ w x, dueS fs b rws ls = .num w x → ∀ H' d, SameX p H H' → H' d = some (.xd [("at", x), ("what", .str w)]) → E (.ref CB) (some d) H') ∧
  (dueS fs b rws ls = .made → ∀ H' tF tS tL us, SameX p H H' → H' p = some (.ins C dx (fS fs.length b tF tS tL)) → H' tF = some (.tup (fs.map V.int)) → H' tS = some (.tup (us.map V.ref)) → TRows H' us rws → H' tL = some (.tup (ls.map V.int)) → Q .non H')
theorem ok_Stepping___init__ {f cc cda g_Rule : Addr} {fd : FuncData} {file : Str} {C_Stepping C_BadNumber C_TooMany C_BadLot C_BadTable C_Unlike C_ShelfError : Addr} (F : FunS K "__init__" "Stepping.__init__" s_Stepping___init__ cc cda f fd) (SC : SupC K mg C_Stepping C_Stepping cc cda g_Rule file) (hfile : ((P.main.file : Str) == file) = true) (htop : (P.main.scope.names.lookup ("super" : Str)).isSome = false) (T : Txt K mg C_Stepping C_BadNumber C_TooMany C_BadLot C_BadTable C_Unlike C_ShelfError) (m_len : mg "len" = none) (m_tuple : mg "tuple" = none) (c_check_many : Cal P w K mg base (L2.CX P w) 3 "check_many" ["many", "most"] (sp_check_many C_TooMany)) (c_Rule___init__ : ∃ fd : FuncData, FnOk P w K mg base (L2.CX P w) 4 g_Rule fd ["self", "many"] (sp_Rule___init__ C_Stepping C_TooMany) ∧ Binds K fd ["self", "many"] []) (c_check_each : Cal P w K mg base (L2.CX P w) 3 "check_each" ["what", "numbers", "least"] (sp_check_each K C_BadNumber)) (c_check_aside : Cal P w K mg base (L2.CX P w) 4 "check_aside" ["aside"] (sp_check_aside C_BadNumber)) (c__check_steps : Cal P w K mg base (L2.CX P w) 4 "_check_steps" ["steps", "many"] (sp__check_steps C_BadNumber)) (c_check_length : Cal P w K mg base (L2.CX P w) 3 "check_length" ["what", "items", "many"] (sp_check_length C_BadNumber)) : FnOk P w K mg base (L2.CX P w) 5 f fd ["self", "first", "aside", "steps", "leaves"] (sp_Stepping___init__ C_Stepping C_TooMany C_BadNumber) := by
  obtain ⟨f_check_many, fd_check_many, G_check_many, m_check_many, k_check_many, b_check_many⟩ := c_check_many
  obtain ⟨fd_Rule___init__, G_Rule___init__, b_Rule___init__⟩ := c_Rule___init__
  obtain ⟨f_check_each, fd_check_each, G_check_each, m_check_each, k_check_each, b_check_each⟩ := c_check_each
  obtain ⟨f_check_aside, fd_check_aside, G_check_aside, m_check_aside, k_check_aside, b_check_aside⟩ := c_check_aside
  obtain ⟨f__check_steps, fd__check_steps, G__check_steps, m__check_steps, k__check_steps, b__check_steps⟩ := c__check_steps
  obtain ⟨f_check_length, fd_check_length, G_check_length, m_check_length, k_check_length, b_check_length⟩ := c_check_length
  obtain ⟨⟨oc, od, kV, doc, pm, an, ct, osl, rfl, lk, hcd⟩, _⟩ := F
  refine fn_at (D := C_Stepping) lk hcd sc_Stepping___init__ SC.cell (fun vs H Q E h => ?_) (fun A outer s H vs Q E hr h => ?_)
  · obtain ⟨p, dx, F, S, L, fs, ls, b, rs, rws, rfl, _⟩ := h
    rfl
  · obtain ⟨p, dx, F, S, L, fs, ls, b, rs, rws, rfl, hp, hF, hS, row, hL, fl, ll, rl, kM, kN, q⟩ := h
    refine ⟨_, (psas_cons (psa_ps (ps_expr (pe_call G_check_many (hr.mono (by decide)) (by rfl) m_check_many k_check_many b_check_many .nil (passes_call (takes_of rfl rfl rfl rfl) (fun _ _ _ _ h => h)) (pa_cons (pe_callB call_len_seq (by rfl) m_len (by decide +kernel) (pa_cons (pv 1) pa_nil)) (pa_cons (pe_glob (v := .int 8) (by rfl) T.g_MOST_STEPPED_THINGS.choose_spec ⟨_, rfl⟩) pa_nil)))))
      (psas_cons (psa_expr (pea_super lk ⟨SC.isD, SC.sub, SC.cell, SC.code, SC.sup, SC.tg, SC.fg, SC.opq, SC.nosup⟩ hfile htop rfl rfl rfl rfl rfl rfl rfl rfl rfl rfl rfl G_Rule___init__ b_Rule___init__ (hr.mono (by decide)) (passes_call (takes_of rfl rfl rfl rfl) (fun _ _ _ _ h => h)) (pa_cons (pe_callB call_len_seq (by rfl) m_len (by decide +kernel) (pa_cons (pv 1) pa_nil)) pa_nil) rfl rfl rfl rfl))
      (psas_pss (pss_cons (ps_expr (pe_call G_check_each (hr.mono (by decide)) (by rfl) m_check_each k_check_each b_check_each .nil (passes_call (takes_of rfl rfl rfl rfl) (fun _ _ _ _ h => h)) (pa_cons pe_str (pa_cons (pv 1) (pa_cons pe_int pa_nil)))))
      (pss_cons (ps_expr (pe_call G_check_aside (hr.mono (by decide)) (by rfl) m_check_aside k_check_aside b_check_aside .nil (passes_call (takes_of rfl rfl rfl rfl) (fun _ _ _ _ h => h)) (pa_cons (pv 2) pa_nil)))
      (pss_cons (ps_expr (pe_call G__check_steps (hr.mono (by decide)) (by rfl) m__check_steps k__check_steps b__check_steps .nil (passes_call (takes_of rfl rfl rfl rfl) (fun _ _ _ _ h => h)) (pa_cons (pv 3) (pa_cons (pe_fld (pv 0) rfl) pa_nil))))
      (pss_cons (ps_expr (pe_call G_check_length (hr.mono (by decide)) (by rfl) m_check_length k_check_length b_check_length .nil (passes_call (takes_of rfl rfl rfl rfl) (fun _ _ _ _ h => h)) (pa_cons pe_str (pa_cons (pv 4) (pa_cons (pe_fld (pv 0) rfl) pa_nil)))))
      (pss_cons (ps_expr (pe_call G_check_each (hr.mono (by decide)) (by rfl) m_check_each k_check_each b_check_each .nil (passes_call (takes_of rfl rfl rfl rfl) (fun _ _ _ _ h => h)) (pa_cons pe_str (pa_cons (pv 4) (pa_cons pe_int pa_nil)))))
      (pss_cons (ps_fld (pv 0) (pe_callTy call_tuple_of (by rfl) m_tuple (by decide +kernel) (pa_cons (pv 1) pa_nil)) rfl)
      (pss_cons (ps_fld (pv 0) (pv 2) rfl)
      (pss_cons (ps_fld (pv 0) (pe_callTy call_tuple_of (by rfl) m_tuple (by decide +kernel) (pa_cons (pe_lc (own := [("row", 6)]) (g := (gName 6)) (tt := tYes) rfl sc_Stepping___init__.nd (pi_list (pv 3)) (blkOk_by (own := [("row", 6)]) (N := ["self", "first", "aside", "steps", "leaves", "__class__", "row"]) (sc := defScope s_Stepping___init__) (by decide +kernel)) (fun _ _ _ _ _ => (pg_name (i := 6) sc_Stepping___init__.nd rfl (Or.inl rfl))) (fun _ _ _ _ _ => pts_nil) (fun _ _ _ _ _ => (pe_callTy (T := "tuple") (r := rTupOf K) call_tuple_of (by rfl) m_tuple (by decide +kernel) (pa_cons (pv 6) pa_nil)))) pa_nil)) rfl)
      (pss_one (ps_fld (pv 0) (pe_callTy call_tuple_of (by rfl) m_tuple (by decide +kernel) (pa_cons (pv 4) pa_nil)) rfl))))))))))))), ?_⟩
    refine ⟨_, rfl, F, _, rfl, .inl (lst_l hF), ?_⟩
    rw [List.length_map]
    refine ⟨(fs.length : Int), 8, rfl, fun e d nd => kM fs.length (by unfold dueS; exact if_pos (by omega)) _ d (SameX.new nd) upd_same, fun e => ?_⟩
    have e8 : ¬ fs.length > 8 := by omega
    refine ⟨p, dx, [], rfl, hp, _, rfl, F, _, rfl, .inl (lst_l hF), ?_⟩
    rw [List.length_map]
    refine ⟨p, dx, [], (fs.length : Int), rfl, hp, Nat.zero_le _, fun e d nd => absurd e (by omega), fun _ => ?_⟩
    have x1 : SameX p H (upd H p (.ins C_Stepping dx (putF "many" (.int fs.length) []))) := SameX.put
    have hp1 : upd H p (.ins C_Stepping dx (putF "many" (.int fs.length) [])) p = some (.ins C_Stepping dx (putF "many" (.int fs.length) [])) := upd_same
    generalize upd H p (.ins C_Stepping dx (putF "many" (.int fs.length) [])) = H1 at x1 hp1 ⊢
    refine ⟨_, rfl, F, _, fs, 1, rfl, lst_sx hp x1 hF, by omega, fun k hk H' d s hd => kN "first" (.int k) (by unfold dueS; rw [if_neg e8, (low_bad fs 0).symm.trans hk]) H' d (x1.trans (same_sx s)) hd, fun hk1 H2 s2 => ?_⟩
    have hk1 := (low_bad fs 0).symm.trans hk1
    have x2 := x1.trans (same_sx s2)
    have hp2 := s2 _ _ hp1
    refine ⟨_, rfl, b, rfl, fun c d nd => kN "aside" .non (by unfold dueS; rw [if_neg e8, hk1]; exact if_pos c) _ d (x2.trans (SameX.new nd)) upd_same, fun c => ?_⟩
    refine ⟨_, rfl, _, rfl, p, C_Stepping, dx, _, _, rfl, hp2, T.cl_Stepping, T.n_Stepping_many, (by rfl), S, _, rs, rws, rfl, lst_sx hp x2 hS, row.sx hp x2, by omega, fun e H' d s hd => kN "steps" .non (by unfold dueS; rw [if_neg e8, hk1]; show (if b < 1 then _ else _) = _; rw [if_neg c, if_pos e]) H' d (x2.trans (same_sx s)) hd, fun e k hk H' d s hd => kN "steps" (.int k) (by unfold dueS; rw [if_neg e8, hk1]; show (if b < 1 then _ else _) = _; rw [if_neg c, if_neg (fun z => z e), hk]) H' d (x2.trans (same_sx s)) hd, fun e hk3 H3 s3 => ?_⟩
    have x3 := x2.trans (same_sx s3)
    have hp3 := s3 _ _ hp2
    refine ⟨_, rfl, _, rfl, p, C_Stepping, dx, _, _, rfl, hp3, T.cl_Stepping, T.n_Stepping_many, (by rfl), _, L, _, _, rfl, lst_sx hp x3 hL, fun e4 d nd => ?_, fun e4 => ?_⟩
    · rw [List.length_map] at e4
      exact kN "leaves" .non (by unfold dueS; rw [if_neg e8, hk1]; show (if b < 1 then _ else _) = _; rw [if_neg c, if_neg (fun z => z e), hk3]; exact if_pos e4) _ d (x3.trans (SameX.new nd)) upd_same
    rw [List.length_map] at e4
    refine ⟨_, rfl, L, _, ls, 1, rfl, lst_sx hp x3 hL, by omega, fun k hk H' d s hd => kN "leaves" (.int k) (by unfold dueS; rw [if_neg e8, hk1]; show (if b < 1 then _ else _) = _; rw [if_neg c, if_neg (fun z => z e), hk3]; show (if ¬ _ then _ else _) = _; rw [if_neg (fun z => z e4), (low_bad ls 0).symm.trans hk]) H' d (x3.trans (same_sx s)) hd, fun hk5 H4 s4 => ?_⟩
    have hk5 := (low_bad ls 0).symm.trans hk5
    have due : dueS fs b rws ls = .made := by
      unfold dueS
      rw [if_neg e8, hk1]
      show (if b < 1 then _ else _) = _
      rw [if_neg c, if_neg (fun z => z e), hk3]
      show (if ¬ _ then _ else _) = _
      rw [if_neg (fun z => z e4), hk5]
    have x4 := x3.trans (same_sx s4)
    have hp4 := s4 _ _ hp3
    clear kM kN
    refine ⟨_, rfl, F, _, rfl, .inl ⟨lst_l (lst_sx hp x4 hF), fun tF ntF => ?_⟩⟩
    have pF : tF ≠ p := fun z => by
      rw [z, hp4] at ntF
      cases ntF
    refine ⟨_, rfl, p, C_Stepping, dx, _, rfl, (upd_ne (Ne.symm pF)).trans hp4, T.cl_Stepping, T.n_Stepping_first, (by show 1 < 1000; decide), ?_⟩
    refine ⟨_, rfl, _, rfl, p, C_Stepping, dx, _, rfl, upd_same, T.cl_Stepping, T.n_Stepping_aside, (by show 2 < 1000; decide), ?_⟩
    have x6 : SameX p H (upd (upd (upd H4 tF (.tup (fs.map V.int))) p (.ins C_Stepping dx (putF "first" (.ref tF) (putF "many" (.int fs.length) [])))) p (.ins C_Stepping dx (putF "aside" (.int b) (putF "first" (.ref tF) (putF "many" (.int fs.length) []))))) := ((x4.trans (SameX.new ntF)).trans SameX.put).trans SameX.put
    have hp6 : (upd (upd (upd H4 tF (.tup (fs.map V.int))) p (.ins C_Stepping dx (putF "first" (.ref tF) (putF "many" (.int fs.length) [])))) p (.ins C_Stepping dx (putF "aside" (.int b) (putF "first" (.ref tF) (putF "many" (.int fs.length) []))))) p = some (.ins C_Stepping dx (putF "aside" (.int b) (putF "first" (.ref tF) (putF "many" (.int fs.length) [])))) := upd_same
    have htF6 : (upd (upd (upd H4 tF (.tup (fs.map V.int))) p (.ins C_Stepping dx (putF "first" (.ref tF) (putF "many" (.int fs.length) [])))) p (.ins C_Stepping dx (putF "aside" (.int b) (putF "first" (.ref tF) (putF "many" (.int fs.length) []))))) tF = some (.tup (fs.map V.int)) := by rw [upd_ne pF, upd_ne pF, upd_same]
    generalize (upd (upd (upd H4 tF (.tup (fs.map V.int))) p (.ins C_Stepping dx (putF "first" (.ref tF) (putF "many" (.int fs.length) [])))) p (.ins C_Stepping dx (putF "aside" (.int b) (putF "first" (.ref tF) (putF "many" (.int fs.length) []))))) = H6 at x6 hp6 htF6 ⊢
    have hS6 := lst_sx hp x6 hS
    refine ⟨_, rfl, S, rfl, ⟨_, lst_l hS6⟩, fun D nD => lc_list (K := K) (a := S) (xs := rs.map V.ref) (fun i H7 => ∃ us : List Addr, Same H6 H7 ∧ H7 D = some (.lst (us.map V.ref)) ∧ us.length = i ∧ ∀ (j : Nat) (u : Addr) (ws : List Int), us[j]? = some u → rws[j]? = some ws → H7 u = some (.tup (ws.map V.int))) ⟨[], same_upd nD, upd_same, rfl, fun j u ws h => by cases h⟩ (fun i H7 _ ⟨_, s, _⟩ => lst_l (s _ _ hS6)) ?_ ?_⟩
    · rintro i x H7 hi ⟨us, s7, hD, lu, hu⟩
      have i1 : i < rs.length := by
        have := (List.getElem?_eq_some_iff.mp hi).1
        rw [List.length_map] at this
        exact this
      have h1 : rs[i]? = some rs[i] := List.getElem?_eq_getElem i1
      have r1 := row.1
      have h2 : rws[i]? = some rws[i] := List.getElem?_eq_getElem (by omega)
      rw [List.getElem?_map, h1] at hi
      cases hi
      have hr := s7 _ _ ((row.sx hp x6).2 i _ _ h1 h2)
      refine ⟨rfl, ?_⟩
      refine lc_yes ?_
      refine iteT ?_
      refine ⟨_, rfl, rs[i], _, rfl, .inl ⟨lst_l hr, fun u nu => ?_⟩⟩
      have ne : D ≠ u := ne_of_none hD nu
      refine ⟨_, (upd_ne ne).trans hD, ?_, us ++ [u], same_mut (s7.trans (same_upd nu)) nD, ?_, ?_, fun j v ws h hw => ?_⟩
      · rw [List.length_map]
        exact small1000 (by omega)
      · rw [upd_same, List.map_append]
        rfl
      · rw [List.length_append, lu]
        rfl
      · by_cases hj : j < us.length
        · rw [List.getElem?_append_left hj] at h
          have hv := hu j v ws h hw
          have n1 : v ≠ D := fun z => by
            rw [z, hD] at hv
            cases hv
          rw [upd_ne n1, upd_ne (ne_of_none hv nu)]
          exact hv
        · rw [List.getElem?_append_right (by omega)] at h
          obtain ⟨k, hk⟩ : ∃ k, j - us.length = k := ⟨_, rfl⟩
          rw [hk] at h
          cases k with
          | zero =>
            have : j = i := by omega
            subst this
            cases h
            rw [h2] at hw
            cases hw
            rw [upd_ne (Ne.symm ne), upd_same]
          | succ k => cases h
    rintro H7 ⟨us, s7, hD, lu, hu⟩
    rw [List.length_map] at lu
    have tr : TRows H7 us rws := ⟨by rw [lu]; exact row.1, hu⟩
    refine ⟨D, _, rfl, .inl ⟨lst_l hD, fun tS ntS => ?_⟩⟩
    have hp7 := s7 _ _ hp6
    have s8 := s7.trans (same_upd (o := .tup (us.map V.ref)) ntS)
    have pS : tS ≠ p := fun z => by
      rw [z, hp7] at ntS
      cases ntS
    refine ⟨_, rfl, p, C_Stepping, dx, _, rfl, (upd_ne (Ne.symm pS)).trans hp7, T.cl_Stepping, T.n_Stepping_steps, (by show 3 < 1000; decide), ?_⟩
    have x8 := x6.trans (same_sx s8)
    have htF8 := s8 _ _ htF6
    have tr8 := tr.same (same_upd (o := .tup (us.map V.ref)) ntS)
    have hp8 := s8 _ _ hp6
    have htS8 : upd H7 tS (.tup (us.map V.ref)) tS = some (.tup (us.map V.ref)) := upd_same
    generalize upd H7 tS (.tup (us.map V.ref)) = H8 at x8 htF8 tr8 hp8 htS8 ⊢
    have y9 : SameX p H8 (upd H8 p (.ins C_Stepping dx (putF "steps" (.ref tS) (putF "aside" (.int b) (putF "first" (.ref tF) (putF "many" (.int fs.length) [])))))) := SameX.put
    have x9 := x8.trans y9
    refine ⟨_, rfl, L, _, rfl, .inl ⟨lst_l (lst_sx hp x9 hL), fun tL ntL => ?_⟩⟩
    have pL : tL ≠ p := fun z => by
      rw [z, upd_same] at ntL
      cases ntL
    refine ⟨_, rfl, p, C_Stepping, dx, _, rfl, (upd_ne (Ne.symm pL)).trans upd_same, T.cl_Stepping, T.n_Stepping_leaves, (by show 4 < 1000; decide), ?_⟩
    have z9 := (y9.trans (SameX.new (o := .tup (ls.map V.int)) ntL)).trans (SameX.put (o := .ins C_Stepping dx (fS fs.length b tF tS tL)))
    refine q due _ tF tS tL us (x8.trans z9) upd_same (z9 _ _ pF htF8) (z9 _ _ pS htS8) (tr8.sx hp8 z9) ?_
    rw [upd_ne pL, upd_same]
def sp__law_due : Sp := fun vs H Q _ => ∃ (F S L : Addr) (fs ls : List Int) (b : Int) (rs : List Addr) (rws : List (List Int)), vs = [.ref F, .int b, .ref S, .ref L] ∧ H F = some (.lst (fs.map V.int)) ∧ H S = some (.lst (rs.map V.ref)) ∧ RowsAt H rs rws ∧ H L = some (.lst (ls.map V.int)) ∧ fs.length ≤ 900 ∧ ∀ H' t, Same H H' → H' t = some (.tup (dueS fs b rws ls).due) → Q (.ref t) H' 
theorem ok__law_due {f : Addr} {fd : FuncData} {C_Stepping C_BadNumber C_TooMany C_BadLot C_BadTable C_Unlike C_ShelfError : Addr} (F : Fun K "_law_due" "_law_due" s__law_due f fd) (T : Txt K mg C_Stepping C_BadNumber C_TooMany C_BadLot C_BadTable C_Unlike C_ShelfError) (m_len : mg "len" = none) (m_range : mg "range" = none) : FnOk P w K mg base CX0 1 f fd ["_law_first", "_law_aside", "_law_steps", "_law_leaves"] sp__law_due := by
  refine F.ok sc__law_due (fun vs H Q E h => ?_) (fun cdv A outer s H vs Q E hr h => ?_)
  · obtain ⟨F, S, L, fs, ls, b, rs, rws, rfl, _⟩ := h
    rfl
  · obtain ⟨F, S, L, fs, ls, b, rs, rws, rfl, hF, hS, row, hL, fl, q⟩ := h
    refine ⟨_, (pss_cons (ps_set (i := 4) sc__law_due.nd rfl (Or.inl rfl) (pe_callB call_len_seq (by rfl) m_len (by decide +kernel) (pa_cons (pv 0) pa_nil)))
      (pss_cons (ps_if (pt_cmpR op_gt (pv 4) pe_int (nomark _)) (pss_one (ps_ret (pe_tup (pa_cons pe_str (pa_cons (pv 4) (pa_cons pe_int pa_nil)))))) pss_nil)
      (pss_cons (ps_for PassesOwn.never rfl (pi_range1 (by rfl) m_range (pa_cons (pv 4) pa_nil)) (pg_name (i := 5) sc__law_due.nd rfl (Or.inl rfl))
      (pss_one (ps_if (pt_cmpR op_lt (pe_ix ix_list (pv 0) (pv 5) (fun _ _ => rfl)) pe_int (nomark _)) (pss_one (ps_ret (pe_tup (pa_cons pe_str (pa_cons pe_str (pa_cons (pv 5) pa_nil)))))) pss_nil)))
      (pss_cons (ps_if (pt_cmpR op_lt (pv 1) pe_int (nomark _)) (pss_one (ps_ret (pe_tup (pa_cons pe_str (pa_cons pe_str (pa_cons pe_non pa_nil)))))) pss_nil)
      (pss_cons (ps_if (pt_cmpR op_ne (pe_callB call_len_seq (by rfl) m_len (by decide +kernel) (pa_cons (pv 2) pa_nil)) (pv 4) (nomark _)) (pss_one (ps_ret (pe_tup (pa_cons pe_str (pa_cons pe_str (pa_cons pe_non pa_nil)))))) pss_nil)
      (pss_cons (ps_for PassesOwn.never rfl (pi_range1 (by rfl) m_range (pa_cons (pv 4) pa_nil)) (pg_name (i := 5) sc__law_due.nd rfl (Or.inl rfl))
      (pss_cons (ps_set (i := 6) sc__law_due.nd rfl (Or.inl rfl) (pe_ix ix_list (pv 2) (pv 5) (fun _ _ => rfl)))
      (pss_one (ps_if (PW.pt (pw_or (pt_cmpR op_ne (pe_callB call_len_seq (by rfl) m_len (by decide +kernel) (pa_cons (pv 6) pa_nil)) (pv 4) (nomark _)) (pw_or (pt_cmpR op_ne (pe_ix ix_list (pv 6) (pv 5) (fun _ _ => rfl)) pe_int (nomark _)) (pw_or1 (pt_cmpR op_gt (pe_callB call_len_seq (by rfl) m_len (by decide +kernel) (pa_cons (pe_lc (own := [("_law_x", 7)]) (g := (gName 7)) rfl sc__law_due.nd (pi_list (pv 6)) (blkOk_by (own := [("_law_x", 7)]) (N := ["_law_first", "_law_aside", "_law_steps", "_law_leaves", "_law_many", "_law_k", "_law_row", "_law_x"]) (sc := defScope s__law_due) (by decide +kernel)) (fun _ _ _ _ _ => (pg_name (i := 7) sc__law_due.nd rfl (Or.inl rfl))) (fun _ _ _ _ _ => (pts_one (pt_cmpR op_lt (pv 7) pe_int (nomark _)))) (fun _ _ _ _ _ => (pv 7))) pa_nil)) pe_int (nomark _)))))) (pss_one (ps_ret (pe_tup (pa_cons pe_str (pa_cons pe_str (pa_cons (pv 5) pa_nil)))))) pss_nil))))
      (pss_cons (ps_if (pt_cmpR op_ne (pe_callB call_len_seq (by rfl) m_len (by decide +kernel) (pa_cons (pv 3) pa_nil)) (pv 4) (nomark _)) (pss_one (ps_ret (pe_tup (pa_cons pe_str (pa_cons pe_str (pa_cons pe_non pa_nil)))))) pss_nil)
      (pss_cons (ps_for PassesOwn.never rfl (pi_range1 (by rfl) m_range (pa_cons (pv 4) pa_nil)) (pg_name (i := 5) sc__law_due.nd rfl (Or.inl rfl))
      (pss_one (ps_if (pt_cmpR op_lt (pe_ix ix_list (pv 3) (pv 5) (fun _ _ => rfl)) pe_int (nomark _)) (pss_one (ps_ret (pe_tup (pa_cons pe_str (pa_cons pe_str (pa_cons (pv 5) pa_nil)))))) pss_nil)))
      (pss_one (ps_ret (pe_tup (pa_cons pe_str (pa_cons pe_non pa_nil))))))))))))), ?_⟩
    have qd : ∀ d, dueS fs b rws ls = d → ∀ H' t, Same H H' → H' t = some (.tup d.due) → Q (.ref t) H' := fun d e => e ▸ q
    have rl := row.1
    refine ⟨.ref F, rfl, F, _, rfl, .inl (lst_l hF), ?_⟩
    rw [List.length_map]
    refine ⟨_, rfl, _, _, rfl, rfl, _, rfl, ite2 (fun c => ?_) (fun c => ?_)⟩
    · have c : (fs.length : Int) > 8 := of_decide_eq_true c
      exact ⟨_, rfl, (by show 3 ≤ sizeLine; decide), fun t nt => qd (.many fs.length) (by unfold dueS; exact if_pos (by omega)) _ t (same_upd nt) upd_same⟩
    have c : ¬ (fs.length : Int) > 8 := fun z => c (decide_eq_true z)
    have e8 : ¬ fs.length > 8 := by omega
    refine ⟨_, rfl, _, rfl, by omega, by omega, ?_⟩
    rw [Int.toNat_natCast]
    refine for_range (lo := 0) (n := fs.length) (fun i σ H2 => ∃ y : Option V, σ = [some (.ref F), some (.int b), some (.ref S), some (.ref L), some (.int fs.length), y, none, none] ∧ H2 = H ∧ badAt fs 0 = badAt (fs.drop i) i) ⟨none, rfl, rfl, rfl⟩ ?_ ?_
    · rintro i σ H2 hi ⟨y, rfl, rfl, hb⟩
      have hin : fs[i]? = some fs[i] := List.getElem?_eq_getElem hi
      rw [drop_int hin] at hb
      refine ⟨.ref F, rfl, _, rfl, F, _, _, _, rfl, rfl, lst_l hF, at_of (Int.zero_add _) (int_at hin), _, _, rfl, rfl, _, rfl, ite2 (fun c => ?_) (fun c => ?_)⟩
      · have hk : badAt fs 0 = some i := hb.trans (if_pos (of_decide_eq_true c))
        exact (⟨_, rfl, (by show 3 ≤ sizeLine; decide), fun t nt => qd (.num "first" (.int i)) (by unfold dueS; rw [if_neg e8, hk]) _ t (same_upd nt) (by rw [upd_same, Int.zero_add]; rfl)⟩)
      · exact ⟨_, rfl, rfl, hb.trans (if_neg fun z => c (decide_eq_true z))⟩
    rintro σ H2 ⟨y, rfl, rfl, hk1⟩
    rw [List.drop_length] at hk1
    have hk1 : badAt fs 0 = none := hk1
    refine ⟨_, rfl, _, _, rfl, rfl, _, rfl, ite2 (fun c => ?_) (fun c => ?_)⟩
    · have c : b < 1 := of_decide_eq_true c
      exact (⟨(by show 3 ≤ sizeLine; decide), fun t nt => qd (.num "aside" .non) (by unfold dueS; rw [if_neg e8, hk1]; exact if_pos c) _ t (same_upd nt) upd_same⟩)
    have c : ¬ b < 1 := fun z => c (decide_eq_true z)
    refine ⟨.ref S, rfl, S, _, rfl, .inl (lst_l hS), _, rfl, rfl, _, rfl, ite2N (fun e => ?_) (fun e => ?_)⟩
    · rw [List.length_map] at e
      have e : ¬ (rws.length : Int) = (fs.length : Int) := fun z => e (congrArg V.int (by omega))
      exact (⟨(by show 3 ≤ sizeLine; decide), fun t nt => qd (.num "steps" .non) (by unfold dueS; rw [if_neg e8, hk1]; show (if b < 1 then _ else _) = _; rw [if_neg c, if_pos e]) _ t (same_upd nt) upd_same⟩)
    have e := V.int.inj e
    rw [List.length_map] at e
    have e : (rws.length : Int) = (fs.length : Int) := by omega
    refine ⟨_, rfl, _, rfl, by omega, by omega, ?_⟩
    rw [Int.toNat_natCast]
    refine for_range (lo := 0) (n := fs.length) (fun i σ H3 => ∃ y y2 : Option V, σ = [some (.ref F), some (.int b), some (.ref S), some (.ref L), some (.int fs.length), y, y2, none] ∧ Same H2 H3 ∧ badS fs.length rws 0 = badS fs.length (rws.drop i) i) ⟨y, none, rfl, Same.refl _, rfl⟩ ?_ ?_
    · rintro i σ H3 hi ⟨y, y2, rfl, s3, hb⟩
      have h1 : rs[i]? = some rs[i] := List.getElem?_eq_getElem (by omega)
      have h2 : rws[i]? = some rws[i] := List.getElem?_eq_getElem (by omega)
      have v1 : (rs.map V.ref)[i]? = some (.ref rs[i]) := by rw [List.getElem?_map, h1]; rfl
      have hrw := s3 _ _ (row.2 i _ _ h1 h2)
      have hd := drop_row h2
      generalize rws[i] = ws at hrw hd h2
      rw [hd] at hb
      have bad : BadR fs.length i ws → dueS fs b rws ls = .num "steps" (.int i) := fun z => by
        have hk : badS fs.length rws 0 = some i := hb.trans (if_pos z)
        unfold dueS
        rw [if_neg e8, hk1]
        show (if b < 1 then _ else _) = _
        rw [if_neg c, if_neg (fun z => z e), hk]
      refine ⟨.ref S, rfl, _, rfl, S, _, _, _, rfl, rfl, lst_l (s3 _ _ hS), at_of (Int.zero_add _) v1, ?_⟩
      refine ⟨_, rfl, rs[i], _, rfl, .inl (lst_l hrw), _, rfl, rfl, _, rfl, ite2N (fun c => ?_) (fun cl => ?_)⟩
      · have c : BadR fs.length i ws := .inl fun z => c (by rw [List.length_map]; exact congrArg V.int z)
        exact (⟨_, rfl, (by show 3 ≤ sizeLine; decide), fun t nt => qd (.num "steps" (.int i)) (bad c) _ t (s3.trans (same_upd nt)) (by rw [upd_same, Int.zero_add]; rfl)⟩)
      have cl := V.int.inj cl
      rw [List.length_map] at cl
      have gi : (ws.map V.int)[i]? = some (.int (ws.getD i 0)) := int_at (by rw [List.getD_eq_getElem?_getD, List.getElem?_eq_getElem (by omega)]; rfl)
      refine ⟨_, rfl, _, rfl, rs[i], _, _, _, rfl, rfl, lst_l hrw, at_of (Int.zero_add _) gi, rfl, _, rfl, ite2N (fun c => ?_) (fun c0 => ?_)⟩
      · have c : BadR fs.length i ws := .inr (.inl fun z => c (congrArg V.int z))
        exact (⟨_, rfl, (by show 3 ≤ sizeLine; decide), fun t nt => qd (.num "steps" (.int i)) (bad c) _ t (s3.trans (same_upd nt)) (by rw [upd_same, Int.zero_add]; rfl)⟩)
      refine ⟨_, rfl, rs[i], rfl, ⟨_, lst_l hrw⟩, fun D nD => lc_list (K := K) (a := rs[i]) (xs := ws.map V.int) (fun j H4 => Same H3 H4 ∧ H4 D = some (.lst (((ws.take j).filter fun x => decide (x < 0)).map V.int))) ⟨same_upd nD, upd_same⟩ (fun j H4 _ ⟨s, _⟩ => lst_l (s _ _ hrw)) ?_ ?_⟩
      · rintro j x H4 hj ⟨s4, hD⟩
        obtain ⟨n, rfl, hjn⟩ := int_of hj
        refine ⟨rfl, ?_⟩
        refine ⟨_, rfl, _, _, rfl, rfl, _, rfl, ite2 (fun c => ?_) (fun c => ?_)⟩
        · have c : n < 0 := of_decide_eq_true c
          refine ⟨_, rfl, _, hD, ?_, same_mut s4 nD, ?_⟩
          · rw [List.length_map]
            refine small1000 (Nat.le_trans (List.length_filter_le _ _) ?_)
            rw [List.length_take]
            omega
          · rw [upd_same, take_neg hjn, if_pos c, List.map_append]
            rfl
        · have c : ¬ n < 0 := fun z => c (decide_eq_true z)
          refine ⟨s4, ?_⟩
          rw [hD, take_neg hjn, if_neg c, List.append_nil]
      rintro H4 ⟨s4, hD⟩
      rw [List.length_map, List.take_length] at hD
      have s34 := s3.trans s4
      refine ⟨D, _, rfl, .inl (lst_l hD), _, _, rfl, rfl, _, rfl, ite2 (fun c => ?_) (fun c => ?_)⟩
      · have c := of_decide_eq_true c
        rw [List.length_map] at c
        have c : BadR fs.length i ws := .inr (.inr ((neg_len ws).mp (by omega)))
        exact (⟨_, rfl, (by show 3 ≤ sizeLine; decide), fun t nt => qd (.num "steps" (.int i)) (bad c) _ t (s34.trans (same_upd nt)) (by rw [upd_same, Int.zero_add]; rfl)⟩)
      · have c : ¬ BadR fs.length i ws := fun z => z.elim (fun z => z cl) fun z => z.elim (fun z => z (V.int.inj c0)) fun z => c (decide_eq_true (by
          rw [List.length_map]
          have := (neg_len ws).mpr z
          omega))
        exact ⟨_, _, rfl, s34, hb.trans (if_neg c)⟩
    rintro σ H3 ⟨y, y2, rfl, s3, hk3⟩
    rw [List.drop_of_length_le (by omega)] at hk3
    have hk3 : badS fs.length rws 0 = none := hk3
    have hL3 := s3 _ _ hL
    refine ⟨.ref L, rfl, L, _, rfl, .inl (lst_l hL3), _, rfl, rfl, _, rfl, ite2N (fun e4 => ?_) (fun e4 => ?_)⟩
    · have e4 : ¬ (ls.length : Int) = (fs.length : Int) := fun z => e4 (by rw [List.length_map]; exact congrArg V.int z)
      exact ⟨(by show 3 ≤ sizeLine; decide), fun t nt => qd (.num "leaves" .non) (by unfold dueS; rw [if_neg e8, hk1]; show (if b < 1 then _ else _) = _; rw [if_neg c, if_neg (fun z => z e), hk3]; exact if_pos e4) _ t (s3.trans (same_upd nt)) upd_same⟩
    have e4 := V.int.inj e4
    rw [List.length_map] at e4
    have rest : dueS fs b rws ls = (match badAt ls 0 with
      | some k => .num "leaves" (.int k)
      | none => .made) := by
      unfold dueS
      rw [if_neg e8, hk1]
      show (if b < 1 then _ else _) = _
      rw [if_neg c, if_neg (fun z => z e), hk3]
      show (if ¬ _ then _ else _) = _
      rw [if_neg (fun z => z e4)]
    refine ⟨_, rfl, _, rfl, by omega, by omega, ?_⟩
    rw [Int.toNat_natCast]
    refine for_range (lo := 0) (n := fs.length) (fun i σ H4 => ∃ y : Option V, σ = [some (.ref F), some (.int b), some (.ref S), some (.ref L), some (.int fs.length), y, y2, none] ∧ H4 = H3 ∧ badAt ls 0 = badAt (ls.drop i) i) ⟨y, rfl, rfl, rfl⟩ ?_ ?_
    · rintro i σ H4 hi ⟨y, rfl, rfl, hb⟩
      have hin : ls[i]? = some ls[i] := List.getElem?_eq_getElem (by omega)
      rw [drop_int hin] at hb
      refine ⟨.ref L, rfl, _, rfl, L, _, _, _, rfl, rfl, lst_l hL3, at_of (Int.zero_add _) (int_at hin), _, _, rfl, rfl, _, rfl, ite2 (fun c => ?_) (fun c => ?_)⟩
      · have hk : badAt ls 0 = some i := hb.trans (if_pos (of_decide_eq_true c))
        exact ⟨_, rfl, (by show 3 ≤ sizeLine; decide), fun t nt => qd (.num "leaves" (.int i)) (by rw [rest, hk]) _ t (s3.trans (same_upd nt)) (by rw [upd_same, Int.zero_add]; rfl)⟩
      · exact ⟨_, rfl, rfl, hb.trans (if_neg fun z => c (decide_eq_true z))⟩
    rintro σ H4 ⟨y, rfl, rfl, hk5⟩
    rw [List.drop_of_length_le (by omega)] at hk5
    have hk5 : badAt ls 0 = none := hk5
    exact ⟨(by show 2 ≤ sizeLine; decide), fun t nt => qd .made (by rw [rest, hk5]) _ t (s3.trans (same_upd nt)) upd_same⟩
def sp__law_tried (C : Addr) : Sp := fun vs H Q _ => ∃ (F S L : Addr) (fs ls : List Int) (b : Int) (rs : List Addr) (rws : List (List Int)), vs = [.ref F, .int b, .ref S, .ref L] ∧ H F = some (.lst (fs.map V.int)) ∧ H S = some (.lst (rs.map V.ref)) ∧ RowsAt H rs rws ∧ H L = some (.lst (ls.map V.int)) ∧ fs.length ≤ 900 ∧ ls.length ≤ 900 ∧ rs.length ≤ 900 ∧
  (dueS fs b rws ls ≠ .made → ∀ H' t, Same H H' → H' t = some (.tup (dueS fs b rws ls).due) → Q (.ref t) H') ∧
  (dueS fs b rws ls = .made → ∀ H' t x, Same H H' → H' t = some (.tup [.str "made", .ref x]) → SAt C H' x fs b rws ls → Q (.ref t) H')
theorem ok__law_tried {f : Addr} {fd : FuncData} {C_Stepping C_BadNumber C_TooMany C_BadLot C_BadTable C_Unlike C_ShelfError : Addr} (F : Fun K "_law_tried" "_law_tried" s__law_tried f fd) (T : Txt K mg C_Stepping C_BadNumber C_TooMany C_BadLot C_BadTable C_Unlike C_ShelfError) (c_Stepping___init__ : CalI P w K mg base (L2.CX P w) 5 C_Stepping ["self", "first", "aside", "steps", "leaves"] (sp_Stepping___init__ C_Stepping C_TooMany C_BadNumber) []) : FnOk P w K mg base CX0 7 f fd ["_law_first", "_law_aside", "_law_steps", "_law_leaves"] (sp__law_tried C_Stepping) := by
  refine F.ok sc__law_tried (fun vs H Q E h => ?_) (fun cdv A outer s H vs Q E hr h => ?_)
  · obtain ⟨F, S, L, fs, ls, b, rs, rws, rfl, _⟩ := h
    rfl
  · obtain ⟨F, S, L, fs, ls, b, rs, rws, rfl, hF, hS, row, hL, fl, ll, rl, kR, q⟩ := h
    obtain ⟨f_Stepping___init__, fd_Stepping___init__, G_Stepping___init__, M_Stepping___init__, b_Stepping___init__, ds_Stepping___init__, vd_Stepping___init__, bd_Stepping___init__⟩ := c_Stepping___init__
    refine ⟨_, (pss_one (ps_try_asM (out := fun _ _ _ _ => False) rfl rfl sc__law_tried.nd takes0
      (fun W pn xe tk _ => (pss_one (ps_ret (pe_tup (pa_cons pe_str (pa_cons (pe_makeS M_Stepping___init__ G_Stepping___init__ (hr.mono (by decide)) (by rfl) T.g_Stepping b_Stepping___init__ .nil (fun σ => passAt tk σ) (pa_cons (pv 0) (pa_cons (pv 1) (pa_cons (pv 2) (pa_cons (pv 3) pa_nil))))) pa_nil))))))
      (.cons (i := 4) ⟨rfl, by decide, Or.inl T.g_BadNumber⟩ rfl rfl (fun a oe cls d pn hz hf => (pss_one (ps_ret (pe_tup (pa_cons pe_str (pa_cons (pe_xf T.xf_BadNumber T.n_BadNumber_what hz hf (pv 4)) (pa_cons (pe_xf T.xf_BadNumber T.n_BadNumber_at hz hf (pv 4)) pa_nil)))))))
      (.cons (i := 4) ⟨rfl, by decide, Or.inl T.g_TooMany⟩ rfl rfl (fun a oe cls d pn hz hf => (pss_one (ps_ret (pe_tup (pa_cons pe_str (pa_cons (pe_xf T.xf_TooMany T.n_TooMany_many hz hf (pv 4)) (pa_cons (pe_xf T.xf_TooMany T.n_TooMany_most hz hf (pv 4)) pa_nil)))))))
      .nil)))), ?_⟩
    refine ⟨_, rfl, _, rfl, _, rfl, _, rfl, fun x dx nx nd _ => ⟨x, dx, F, S, L, fs, ls, b, rs, rws, rfl, upd_same, made1 nx nd _ _ hF, made1 nx nd _ _ hS, row.same (made1 nx nd), made1 nx nd _ _ hL, fl, ll, rl, fun n e H' d sx hd => ?_, fun w y e H' d sx hd => ?_, fun e H' tF tS tL us sx hx h1 h2 h3 h4 => ⟨rfl, ?_⟩⟩⟩
    · rw [e] at kR
      have kR := kR fun z => Due2.noConfusion z
      exact ⟨false, T.exm_TooMany_BadNumber, fun z => Bool.noConfusion z, fun _ => ⟨true, T.exm_TooMany_TooMany, fun _ a0 na => ⟨.ref a0, rfl, rfl, rfl, d, _, _, rfl, hd, by rfl, .ref a0, rfl, rfl, rfl, d, _, _, rfl, hd, by rfl, (by show 3 ≤ sizeLine; decide), fun t nt => kR _ t ((sameX_made nx nd sx).trans (same_upd nt)) upd_same⟩, fun z => Bool.noConfusion z⟩⟩
    · rw [e] at kR
      have kR := kR fun z => Due2.noConfusion z
      exact ⟨true, T.exm_BadNumber_BadNumber, fun _ a0 na => ⟨.ref a0, rfl, rfl, rfl, d, _, _, rfl, hd, by rfl, .ref a0, rfl, rfl, rfl, d, _, _, rfl, hd, by rfl, (by show 3 ≤ sizeLine; decide), fun t nt => kR _ t ((sameX_made nx nd sx).trans (same_upd nt)) upd_same⟩, fun z => Bool.noConfusion z⟩
    · exact ⟨(by show 2 ≤ sizeLine; decide), fun t nt => q e _ t x ((sameX_made nx nd sx).trans (same_upd nt)) upd_same (SAt.same (same_upd nt) ⟨dx, tF, tS, tL, us, hx, h1, h2, h3, h4⟩)⟩
def sp__law_classes : Sp := fun vs H Q _ => ∃ (F S L : Addr) (fs ls : List Int) (b : Int) (rs : List Addr) (rws : List (List Int)), vs = [.ref F, .int b, .ref S, .ref L] ∧ H F = some (.lst (fs.map V.int)) ∧ H S = some (.lst (rs.map V.ref)) ∧ RowsAt H rs rws ∧ H L = some (.lst (ls.map V.int)) ∧ fs.length ≤ 900 ∧ ls.length ≤ 900 ∧ rs.length ≤ 900 ∧
  (∀ n, dueS fs b rws ls = .many n → ∀ H' t, Same H H' → H' t = some (.lst [.bl true, .bl false, .bl true, .bl false, .bl false, .bl false]) → Q (.ref t) H') ∧
  (∀ w y, dueS fs b rws ls = .num w y → ∀ H' t, Same H H' → H' t = some (.lst [.bl true, .bl true, .bl false, .bl false, .bl false, .bl false]) → Q (.ref t) H') ∧ dueS fs b rws ls ≠ .made
theorem ok__law_classes {f : Addr} {fd : FuncData} {C_Stepping C_BadNumber C_TooMany C_BadLot C_BadTable C_Unlike C_ShelfError : Addr} (F : Fun K "_law_classes" "_law_classes" s__law_classes f fd) (T : Txt K mg C_Stepping C_BadNumber C_TooMany C_BadLot C_BadTable C_Unlike C_ShelfError) (m_ValueError : mg "ValueError" = none) (m_isinstance : mg "isinstance" = none) (c_Stepping___init__ : CalI P w K mg base (L2.CX P w) 5 C_Stepping ["self", "first", "aside", "steps", "leaves"] (sp_Stepping___init__ C_Stepping C_TooMany C_BadNumber) []) : FnOk P w K mg base CX0 7 f fd ["_law_first", "_law_aside", "_law_steps", "_law_leaves"] sp__law_classes := by
  refine F.ok sc__law_classes (fun vs H Q E h => ?_) (fun cdv A outer s H vs Q E hr h => ?_)
  · obtain ⟨F, S, L, fs, ls, b, rs, rws, rfl, _⟩ := h
    rfl
  · obtain ⟨F, S, L, fs, ls, b, rs, rws, rfl, hF, hS, row, hL, fl, ll, rl, kM, kN, no⟩ := h
    obtain ⟨f_Stepping___init__, fd_Stepping___init__, G_Stepping___init__, M_Stepping___init__, b_Stepping___init__, ds_Stepping___init__, vd_Stepping___init__, bd_Stepping___init__⟩ := c_Stepping___init__
    refine ⟨_, (pss_cons (ps_try_as (i := 4) (Wout := fun _ _ _ _ => False) rfl rfl sc__law_classes.nd rfl rfl ⟨rfl, by decide, Or.inl T.g_ShelfError⟩ takes0
      (fun W pn xe tk _ => (pss_one (ps_expr (pe_makeS M_Stepping___init__ G_Stepping___init__ (hr.mono (by decide)) (by rfl) T.g_Stepping b_Stepping___init__ .nil (fun σ => passAt tk σ) (pa_cons (pv 0) (pa_cons (pv 1) (pa_cons (pv 2) (pa_cons (pv 3) pa_nil))))))))
      (fun a oe cls d pn hz hf => (pss_one (ps_ret (pe_lst (pa_cons (pe_callB (call_isY (K := K) hz hf) (by rfl) m_isinstance (by decide +kernel) (pa_cons (pv 4) (pa_cons (pe_bltn (v := .ty "ValueError") (by rfl) m_ValueError (by decide +kernel) rfl) pa_nil))) (pa_cons (pe_callB (call_isY (K := K) hz hf) (by rfl) m_isinstance (by decide +kernel) (pa_cons (pv 4) (pa_cons (pe_glob (v := .ref C_BadNumber) (by rfl) T.g_BadNumber rfl) pa_nil))) (pa_cons (pe_callB (call_isY (K := K) hz hf) (by rfl) m_isinstance (by decide +kernel) (pa_cons (pv 4) (pa_cons (pe_glob (v := .ref C_TooMany) (by rfl) T.g_TooMany rfl) pa_nil))) (pa_cons (pe_callB (call_isY (K := K) hz hf) (by rfl) m_isinstance (by decide +kernel) (pa_cons (pv 4) (pa_cons (pe_glob (v := .ref C_BadLot) (by rfl) T.g_BadLot rfl) pa_nil))) (pa_cons (pe_callB (call_isY (K := K) hz hf) (by rfl) m_isinstance (by decide +kernel) (pa_cons (pv 4) (pa_cons (pe_glob (v := .ref C_BadTable) (by rfl) T.g_BadTable rfl) pa_nil))) (pa_cons (pe_callB (call_isY (K := K) hz hf) (by rfl) m_isinstance (by decide +kernel) (pa_cons (pv 4) (pa_cons (pe_glob (v := .ref C_Unlike) (by rfl) T.g_Unlike rfl) pa_nil))) pa_nil)))))))))))
      (pss_one (ps_ret (pe_lst pa_nil)))), ?_⟩
    refine ⟨_, rfl, _, rfl, _, rfl, _, rfl, fun x dx nx nd _ => ⟨x, dx, F, S, L, fs, ls, b, rs, rws, rfl, upd_same, made1 nx nd _ _ hF, made1 nx nd _ _ hS, row.same (made1 nx nd), made1 nx nd _ _ hL, fl, ll, rl, fun n e H' d sx hd => ?_, fun w y e H' d sx hd => ?_, fun e H' tF tS tL us sx hx h1 h2 h3 h4 => ⟨rfl, ?_⟩⟩⟩
    · exact ⟨true, T.exm_TooMany_ShelfError, fun _ a0 na => ⟨.ref a0, rfl, C_TooMany, T.ec_TooMany, rfl, .inr ⟨d, _, rfl, hd⟩, .ty "ValueError", .type "ValueError", true, rfl, fun _ r => r, T.kit_TooMany_ValueError, .ref a0, rfl, C_TooMany, T.ec_TooMany, rfl, .inr ⟨d, _, rfl, hd⟩, .ref C_BadNumber, .ref C_BadNumber, false, rfl, fun _ r => r, T.kit_TooMany_BadNumber, .ref a0, rfl, C_TooMany, T.ec_TooMany, rfl, .inr ⟨d, _, rfl, hd⟩, .ref C_TooMany, .ref C_TooMany, true, rfl, fun _ r => r, T.kit_TooMany_TooMany, .ref a0, rfl, C_TooMany, T.ec_TooMany, rfl, .inr ⟨d, _, rfl, hd⟩, .ref C_BadLot, .ref C_BadLot, false, rfl, fun _ r => r, T.kit_TooMany_BadLot, .ref a0, rfl, C_TooMany, T.ec_TooMany, rfl, .inr ⟨d, _, rfl, hd⟩, .ref C_BadTable, .ref C_BadTable, false, rfl, fun _ r => r, T.kit_TooMany_BadTable, .ref a0, rfl, C_TooMany, T.ec_TooMany, rfl, .inr ⟨d, _, rfl, hd⟩, .ref C_Unlike, .ref C_Unlike, false, rfl, fun _ r => r, T.kit_TooMany_Unlike, (by show 6 ≤ sizeLine; decide), fun t nt => kM n e _ t ((sameX_made nx nd sx).trans (same_upd nt)) upd_same⟩, fun z => Bool.noConfusion z⟩
    · exact ⟨true, T.exm_BadNumber_ShelfError, fun _ a0 na => ⟨.ref a0, rfl, C_BadNumber, T.ec_BadNumber, rfl, .inr ⟨d, _, rfl, hd⟩, .ty "ValueError", .type "ValueError", true, rfl, fun _ r => r, T.kit_BadNumber_ValueError, .ref a0, rfl, C_BadNumber, T.ec_BadNumber, rfl, .inr ⟨d, _, rfl, hd⟩, .ref C_BadNumber, .ref C_BadNumber, true, rfl, fun _ r => r, T.kit_BadNumber_BadNumber, .ref a0, rfl, C_BadNumber, T.ec_BadNumber, rfl, .inr ⟨d, _, rfl, hd⟩, .ref C_TooMany, .ref C_TooMany, false, rfl, fun _ r => r, T.kit_BadNumber_TooMany, .ref a0, rfl, C_BadNumber, T.ec_BadNumber, rfl, .inr ⟨d, _, rfl, hd⟩, .ref C_BadLot, .ref C_BadLot, false, rfl, fun _ r => r, T.kit_BadNumber_BadLot, .ref a0, rfl, C_BadNumber, T.ec_BadNumber, rfl, .inr ⟨d, _, rfl, hd⟩, .ref C_BadTable, .ref C_BadTable, false, rfl, fun _ r => r, T.kit_BadNumber_BadTable, .ref a0, rfl, C_BadNumber, T.ec_BadNumber, rfl, .inr ⟨d, _, rfl, hd⟩, .ref C_Unlike, .ref C_Unlike, false, rfl, fun _ r => r, T.kit_BadNumber_Unlike, (by show 6 ≤ sizeLine; decide), fun t nt => kN w y e _ t ((sameX_made nx nd sx).trans (same_upd nt)) upd_same⟩, fun z => Bool.noConfusion z⟩
    · exact absurd e no
def sp__law_is_int : Sp := fun vs H Q _ => ∃ v : Int, vs = [.int v] ∧ Q (.bl true) H
theorem ok__law_is_int {f : Addr} {fd : FuncData} {C_Stepping C_BadNumber C_TooMany C_BadLot C_BadTable C_Unlike C_ShelfError : Addr} (F : Fun K "_law_is_int" "_law_is_int" s__law_is_int f fd) (T : Txt K mg C_Stepping C_BadNumber C_TooMany C_BadLot C_BadTable C_Unlike C_ShelfError) (m_bool : mg "bool" = none) (m_int : mg "int" = none) (m_isinstance : mg "isinstance" = none) : FnOk P w K mg base CX0 1 f fd ["_law_x"] sp__law_is_int := by
  refine F.ok sc__law_is_int (fun vs H Q E h => ?_) (fun cdv A outer s H vs Q E hr h => ?_)
  · obtain ⟨v, rfl, _⟩ := h
    rfl
  · obtain ⟨v, rfl, q⟩ := h
    refine ⟨_, (pss_one (ps_ret (pe_and (pe_callB call_isi (by rfl) m_isinstance (by decide +kernel) (pa_cons (pv 0) (pa_cons (pe_bltn (v := .ty "int") (by rfl) m_int (by decide +kernel) rfl) pa_nil))) (pe_one (pe_not (pe_callB call_isi (by rfl) m_isinstance (by decide +kernel) (pa_cons (pv 0) (pa_cons (pe_bltn (v := .ty "bool") (by rfl) m_bool (by decide +kernel) rfl) pa_nil)))))))), ?_⟩
    exact ⟨_, rfl, .int v, .ty "int", _, _, true, rfl, .ty "int", .base (.int v), kit_ty kI, true, rfl, iteT ⟨_, rfl, .int v, .ty "bool", _, _, false, rfl, .ty "bool", .base (.int v), kit_ty kB, false, rfl, q⟩⟩
def sp__law_same_lot (K : PySem.W.Frag) : Sp := fun vs H Q _ => ∃ (a b : Addr) (ns : List Int), vs = [.ref a, .ref b] ∧ H a = some (.tup (ns.map V.int)) ∧ SqL K H b (ns.map V.int) ∧ ns.length ≤ 1000 ∧ Q (.bl true) H
theorem ok__law_same_lot {f : Addr} {fd : FuncData} {C_Stepping C_BadNumber C_TooMany C_BadLot C_BadTable C_Unlike C_ShelfError : Addr} (F : Fun K "_law_same_lot" "_law_same_lot" s__law_same_lot f fd) (T : Txt K mg C_Stepping C_BadNumber C_TooMany C_BadLot C_BadTable C_Unlike C_ShelfError) (m_isinstance : mg "isinstance" = none) (m_len : mg "len" = none) (m_range : mg "range" = none) (m_tuple : mg "tuple" = none) (c__law_is_int : Cal P w K mg base CX0 1 "_law_is_int" ["_law_x"] sp__law_is_int) : FnOk P w K mg base CX0 2 f fd ["_law_x", "_law_due_here"] (sp__law_same_lot K) := by
  refine F.ok sc__law_same_lot (fun vs H Q E h => ?_) (fun cdv A outer s H vs Q E hr h => ?_)
  · obtain ⟨a, b, ns, rfl, _⟩ := h
    rfl
  · obtain ⟨a, b, ns, rfl, hA, hB, hlen, q⟩ := h
    obtain ⟨f__law_is_int, fd__law_is_int, G__law_is_int, m__law_is_int, k__law_is_int, b__law_is_int⟩ := c__law_is_int
    refine ⟨_, (pss_cons (ps_if (PW.pt (pw_or (pt_not (pt_val (pe_callB call_isi (by rfl) m_isinstance (by decide +kernel) (pa_cons (pv 0) (pa_cons (pe_bltn (v := .ty "tuple") (by rfl) m_tuple (by decide +kernel) rfl) pa_nil))))) (pw_or1 (pt_cmpR op_ne (pe_callB call_len_seq (by rfl) m_len (by decide +kernel) (pa_cons (pv 0) pa_nil)) (pe_callB call_len_seq (by rfl) m_len (by decide +kernel) (pa_cons (pv 1) pa_nil)) (nomark _))))) (pss_one (ps_ret pe_bl)) pss_nil)
      (pss_cons (ps_for PassesOwn.never rfl (pi_range1 (by rfl) m_range (pa_cons (pe_callB call_len_seq (by rfl) m_len (by decide +kernel) (pa_cons (pv 1) pa_nil)) pa_nil)) (pg_name (i := 2) sc__law_same_lot.nd rfl (Or.inl rfl))
      (pss_one (ps_if (PW.pt (pw_or (pt_not (pt_val (pe_call G__law_is_int (hr.mono (by decide)) (by rfl) m__law_is_int k__law_is_int b__law_is_int .nil pass0 (pa_cons (pe_ix ix_tup (pv 0) (pv 2) (fun _ _ => rfl)) pa_nil)))) (pw_or1 (pt_cmpR op_ne (pe_ix ix_tup (pv 0) (pv 2) (fun _ _ => rfl)) (pe_ix ix_list (pv 1) (pv 2) (fun _ _ => rfl)) (nomark _))))) (pss_one (ps_ret pe_bl)) pss_nil)))
      (pss_one (ps_ret pe_bl)))), ?_⟩
    have hA' : SqT K H a (ns.map V.int) := tup_t hA
    refine ⟨_, rfl, .ref a, .ty "tuple", _, _, true, rfl, .ty "tuple", .base (.tup hA), kit_ty kT, true, rfl, iteF ?_⟩
    refine ⟨.ref a, rfl, a, _, rfl, .inr hA', .ref b, rfl, b, _, rfl, .inl hB, rfl, _, rfl, iteNS rfl ?_⟩
    refine ⟨.ref b, rfl, b, _, rfl, .inl hB, _, rfl, ?_⟩
    rw [List.length_map]
    refine ⟨by omega, by omega, ?_⟩
    rw [Int.toNat_natCast]
    refine for_range (lo := 0) (n := ns.length) (fun i σ H2 => ∃ (y : Option V), σ = [some (.ref a), some (.ref b), y] ∧ H2 = H) ⟨none, rfl, rfl⟩ ?_ ?_
    · rintro i σ H2 hi ⟨y, rfl, rfl⟩
      have hin : (ns.map V.int)[i]? = some (.int ns[i]) := int_at (List.getElem?_eq_getElem hi)
      refine ⟨.ref a, rfl, .int (0 + (i : Int)), rfl, a, _, _, _, rfl, rfl, hA', at_of (Int.zero_add _) hin, ns[i], rfl, true, rfl, iteF ?_⟩
      refine ⟨.ref a, rfl, .int (0 + (i : Int)), rfl, a, _, _, _, rfl, rfl, hA', at_of (Int.zero_add _) hin, .ref b, rfl, .int (0 + (i : Int)), rfl, b, _, _, _, rfl, rfl, hB, at_of (Int.zero_add _) hin, rfl, _, rfl, iteNS rfl ?_⟩
      exact ⟨_, rfl, rfl⟩
    · rintro σ H2 ⟨y, rfl, rfl⟩
      exact q
def sp__law_keeps (C : Addr) : Sp := fun vs H Q _ => ∃ (x qa F S L : Addr) (fs ls : List Int) (b : Int) (rs : List Addr) (rws : List (List Int)), vs = [.ref x, .ref qa] ∧ SAt C H x fs b rws ls ∧ H qa = some (.tup [.ref F, .int b, .ref S, .ref L]) ∧ H F = some (.lst (fs.map V.int)) ∧ H S = some (.lst (rs.map V.ref)) ∧ RowsAt H rs rws ∧ H L = some (.lst (ls.map V.int)) ∧ MadeF fs b rws ls ∧ Q (.bl true) H
theorem ok__law_keeps {f : Addr} {fd : FuncData} {C_Stepping C_BadNumber C_TooMany C_BadLot C_BadTable C_Unlike C_ShelfError : Addr} (F : Fun K "_law_keeps" "_law_keeps" s__law_keeps f fd) (T : Txt K mg C_Stepping C_BadNumber C_TooMany C_BadLot C_BadTable C_Unlike C_ShelfError) (m_isinstance : mg "isinstance" = none) (m_len : mg "len" = none) (m_range : mg "range" = none) (m_tuple : mg "tuple" = none) (c__law_is_int : Cal P w K mg base CX0 1 "_law_is_int" ["_law_x"] sp__law_is_int) (c__law_same_lot : Cal P w K mg base CX0 2 "_law_same_lot" ["_law_x", "_law_due_here"] (sp__law_same_lot K)) : FnOk P w K mg base CX0 3 f fd ["_law_chain", "_law_question"] (sp__law_keeps C_Stepping) := by
  refine F.ok sc__law_keeps (fun vs H Q E h => ?_) (fun cdv A outer s H vs Q E hr h => ?_)
  · obtain ⟨x, qa, F, S, L, fs, ls, b, rs, rws, rfl, _⟩ := h
    rfl
  · obtain ⟨x, qa, F, S, L, fs, ls, b, rs, rws, rfl, ⟨dx, tF, tS, tL, us, hx, h1, h2, tr, h4⟩, hq, hF, hS, row, hL, mf, q⟩ := h
    obtain ⟨f__law_is_int, fd__law_is_int, G__law_is_int, m__law_is_int, k__law_is_int, b__law_is_int⟩ := c__law_is_int
    obtain ⟨f__law_same_lot, fd__law_same_lot, G__law_same_lot, m__law_same_lot, k__law_same_lot, b__law_same_lot⟩ := c__law_same_lot
    refine ⟨_, (pss_cons (ps_set (i := 2) sc__law_keeps.nd rfl (Or.inl rfl) (pe_callB call_len_seq (by rfl) m_len (by decide +kernel) (pa_cons (pe_ix ix_tup (pv 1) pe_int (fun _ _ => rfl)) pa_nil)))
      (pss_cons (ps_if (PW.pt (pw_or (pt_not (pt_val (pe_callB call_isi (by rfl) m_isinstance (by decide +kernel) (pa_cons (pv 0) (pa_cons (pe_glob (v := .ref C_Stepping) (by rfl) T.g_Stepping rfl) pa_nil))))) (pw_or (pt_not (pt_val (pe_call G__law_is_int (hr.mono (by decide)) (by rfl) m__law_is_int k__law_is_int b__law_is_int .nil pass0 (pa_cons (pe_fld (pv 0) rfl) pa_nil)))) (pw_or1 (pt_cmpR op_ne (pe_fld (pv 0) rfl) (pv 2) (nomark _)))))) (pss_one (ps_ret pe_bl)) pss_nil)
      (pss_cons (ps_if (PW.pt (pw_or (pt_not (pt_val (pe_call G__law_is_int (hr.mono (by decide)) (by rfl) m__law_is_int k__law_is_int b__law_is_int .nil pass0 (pa_cons (pe_fld (pv 0) rfl) pa_nil)))) (pw_or1 (pt_cmpR op_ne (pe_fld (pv 0) rfl) (pe_ix ix_tup (pv 1) pe_int (fun _ _ => rfl)) (nomark _))))) (pss_one (ps_ret pe_bl)) pss_nil)
      (pss_cons (ps_if (PW.pt (pw_or (pt_not (pt_val (pe_call G__law_same_lot (hr.mono (by decide)) (by rfl) m__law_same_lot k__law_same_lot b__law_same_lot .nil pass0 (pa_cons (pe_fld (pv 0) rfl) (pa_cons (pe_ix ix_tup (pv 1) pe_int (fun _ _ => rfl)) pa_nil))))) (pw_or1 (pt_not (pt_val (pe_call G__law_same_lot (hr.mono (by decide)) (by rfl) m__law_same_lot k__law_same_lot b__law_same_lot .nil pass0 (pa_cons (pe_fld (pv 0) rfl) (pa_cons (pe_ix ix_tup (pv 1) pe_int (fun _ _ => rfl)) pa_nil)))))))) (pss_one (ps_ret pe_bl)) pss_nil)
      (pss_cons (ps_if (PW.pt (pw_or (pt_not (pt_val (pe_callB call_isi (by rfl) m_isinstance (by decide +kernel) (pa_cons (pe_fld (pv 0) rfl) (pa_cons (pe_bltn (v := .ty "tuple") (by rfl) m_tuple (by decide +kernel) rfl) pa_nil))))) (pw_or1 (pt_cmpR op_ne (pe_callB call_len_seq (by rfl) m_len (by decide +kernel) (pa_cons (pe_fld (pv 0) rfl) pa_nil)) (pv 2) (nomark _))))) (pss_one (ps_ret pe_bl)) pss_nil)
      (pss_cons (ps_for PassesOwn.never rfl (pi_range1 (by rfl) m_range (pa_cons (pv 2) pa_nil)) (pg_name (i := 3) sc__law_keeps.nd rfl (Or.inl rfl))
      (pss_one (ps_if (pt_not (pt_val (pe_call G__law_same_lot (hr.mono (by decide)) (by rfl) m__law_same_lot k__law_same_lot b__law_same_lot .nil pass0 (pa_cons (pe_ix ix_tup (pe_fld (pv 0) rfl) (pv 3) (fun _ _ => rfl)) (pa_cons (pe_ix ix_list (pe_ix ix_tup (pv 1) pe_int (fun _ _ => rfl)) (pv 3) (fun _ _ => rfl)) pa_nil))))) (pss_one (ps_ret pe_bl)) pss_nil)))
      (pss_one (ps_ret pe_bl)))))))), ?_⟩
    have fl := mf.f
    have ll := mf.l
    have rw1 := mf.r
    have rl := row.1
    have ul := tr.1
    refine ⟨.ref qa, rfl, qa, _, _, _, rfl, rfl, tup_t hq, atI_nat (j := 0) rfl, F, _, rfl, .inl (lst_l hF), ?_⟩
    rw [List.length_map]
    refine ⟨_, rfl, .ref x, .ref C_Stepping, .ref C_Stepping, .ref C_Stepping, true, rfl, .own C_Stepping, .base (.ins hx T.cl_Stepping T.ha_Stepping T.hnc T.htk T.hm_Stepping), T.kit_Stepping_Stepping, true, rfl, iteF ?_⟩
    refine ⟨_, rfl, x, C_Stepping, dx, _, _, rfl, hx, T.cl_Stepping, T.n_Stepping_many, (by rfl), _, rfl, true, rfl, iteF ?_⟩
    refine ⟨_, rfl, x, C_Stepping, dx, _, _, rfl, hx, T.cl_Stepping, T.n_Stepping_many, (by rfl), _, rfl, rfl, _, rfl, iteNS rfl ?_⟩
    refine ⟨_, rfl, x, C_Stepping, dx, _, _, rfl, hx, T.cl_Stepping, T.n_Stepping_aside, (by rfl), b, rfl, true, rfl, iteF ?_⟩
    refine ⟨_, rfl, x, C_Stepping, dx, _, _, rfl, hx, T.cl_Stepping, T.n_Stepping_aside, (by rfl), .ref qa, rfl, qa, _, _, _, rfl, rfl, tup_t hq, atI_nat (j := 1) rfl, rfl, _, rfl, iteNS rfl ?_⟩
    refine ⟨_, rfl, x, C_Stepping, dx, _, _, rfl, hx, T.cl_Stepping, T.n_Stepping_first, (by rfl), .ref qa, rfl, qa, _, _, _, rfl, rfl, tup_t hq, atI_nat (j := 0) rfl, tF, F, fs, rfl, h1, lst_l hF, by omega, true, rfl, iteF ?_⟩
    refine ⟨_, rfl, x, C_Stepping, dx, _, _, rfl, hx, T.cl_Stepping, T.n_Stepping_leaves, (by rfl), .ref qa, rfl, qa, _, _, _, rfl, rfl, tup_t hq, atI_nat (j := 3) rfl, tL, L, ls, rfl, h4, lst_l hL, by omega, true, rfl, iteF ?_⟩
    refine ⟨_, rfl, x, C_Stepping, dx, _, _, rfl, hx, T.cl_Stepping, T.n_Stepping_steps, (by rfl), .ref tS, .ty "tuple", _, _, true, rfl, .ty "tuple", .base (.tup h2), kit_ty kT, true, rfl, iteF ?_⟩
    refine ⟨_, rfl, x, C_Stepping, dx, _, _, rfl, hx, T.cl_Stepping, T.n_Stepping_steps, (by rfl), tS, _, rfl, .inr (tup_t h2), _, rfl, rfl, _, rfl, iteNS (by rw [List.length_map]; exact congrArg V.int (by omega)) ?_⟩
    refine ⟨_, rfl, _, rfl, by omega, by omega, ?_⟩
    rw [Int.toNat_natCast]
    refine for_range (lo := 0) (n := fs.length) (fun i σ H2 => ∃ y : Option V, σ = [some (.ref x), some (.ref qa), some (.int fs.length), y] ∧ H2 = H) ⟨none, rfl, rfl⟩ ?_ ?_
    · rintro i σ H2 hi ⟨y, rfl, rfl⟩
      have e1 : us[i]? = some us[i] := List.getElem?_eq_getElem (by omega)
      have e2 : rs[i]? = some rs[i] := List.getElem?_eq_getElem (by omega)
      have e3 : rws[i]? = some rws[i] := List.getElem?_eq_getElem (by omega)
      have v1 : (us.map V.ref)[i]? = some (.ref us[i]) := by rw [List.getElem?_map, e1]; rfl
      have v2 : (rs.map V.ref)[i]? = some (.ref rs[i]) := by rw [List.getElem?_map, e2]; rfl
      have wl := mf.w _ (List.mem_of_getElem? e3)
      refine ⟨_, rfl, x, C_Stepping, dx, _, _, rfl, hx, T.cl_Stepping, T.n_Stepping_steps, (by rfl), _, rfl, tS, _, _, _, rfl, rfl, tup_t h2, at_of (Int.zero_add _) v1, .ref qa, rfl, qa, _, _, _, rfl, rfl, tup_t hq, atI_nat (j := 2) rfl, _, rfl, S, _, _, _, rfl, rfl, lst_l hS, at_of (Int.zero_add _) v2, ?_⟩
      exact ⟨us[i], rs[i], rws[i], rfl, tr.2 i _ _ e1 e3, lst_l (row.2 i _ _ e2 e3), by omega, true, rfl, iteF ⟨_, rfl, rfl⟩⟩
    · rintro σ H2 ⟨y, rfl, rfl⟩
      exact q
def sp__law_cell (K : PySem.W.Frag) : Sp := fun vs H Q _ => ∃ (a : Addr) (ns : List Int) (j : Nat), vs = [.ref a, .int (j : Int)] ∧ SqL K H a (ns.map V.int) ∧ ∀ v : Int, Q (.int v) H
theorem ok__law_cell {f : Addr} {fd : FuncData} {C_Stepping C_BadNumber C_TooMany C_BadLot C_BadTable C_Unlike C_ShelfError : Addr} (F : Fun K "_law_cell" "_law_cell" s__law_cell f fd) (T : Txt K mg C_Stepping C_BadNumber C_TooMany C_BadLot C_BadTable C_Unlike C_ShelfError) (m_int : mg "int" = none) (m_len : mg "len" = none) : FnOk P w K mg base CX0 1 f fd ["_law_script", "_law_place"] (sp__law_cell K) := by
  refine F.ok sc__law_cell (fun vs H Q E h => ?_) (fun cdv A outer s H vs Q E hr h => ?_)
  · obtain ⟨a, ns, j, rfl, _⟩ := h
    rfl
  · obtain ⟨a, ns, j, rfl, hS, q⟩ := h
    refine ⟨_, (pss_cons (ps_if (pt_cmpR op_lt (pv 1) (pe_callB call_len_seq (by rfl) m_len (by decide +kernel) (pa_cons (pv 0) pa_nil)) (nomark _)) (pss_one (ps_ret (pe_callTy call_int1 (by rfl) m_int (by decide +kernel) (pa_cons (pe_ix ix_list (pv 0) (pv 1) (fun _ _ => rfl)) pa_nil)))) pss_nil)
      (pss_one (ps_ret pe_int))), ?_⟩
    refine ⟨_, rfl, .ref a, rfl, a, _, rfl, .inl hS, _, _, rfl, rfl, _, rfl, ite2 (fun e => ?_) (fun _ => q 0)⟩
    have hj : j < ns.length := by
      have e := of_decide_eq_true e
      rw [List.length_map] at e
      omega
    exact ⟨.ref a, rfl, .int (j : Int), rfl, a, _, _, _, rfl, rfl, hS, atI_nat (int_at (List.getElem?_eq_getElem hj)), .inl ⟨_, rfl, q _⟩⟩
def sp__law_draws (K : PySem.W.Frag) : Sp := fun vs H Q _ => ∃ (c : Int) (a : Addr) (ns : List Int), vs = [.int c, .ref a] ∧ SqL K H a (ns.map V.int) ∧ (∀ n ∈ ns, 0 < n ∧ n < 2 ^ 100) ∧ ns.length ≤ 1000 ∧
  ∀ ds H' p, Within ds ns → Same H H' → H p = none → H' p = some (.lst (ds.map V.int)) → Q (.ref p) H'

theorem ok__law_draws {f : Addr} {fd : FuncData} {C_Stepping C_BadNumber C_TooMany C_BadLot C_BadTable C_Unlike C_ShelfError : Addr} (F : Fun K "_law_draws" "_law_draws" s__law_draws f fd) (T : Txt K mg C_Stepping C_BadNumber C_TooMany C_BadLot C_BadTable C_Unlike C_ShelfError) (m_int : mg "int" = none) (m_len : mg "len" = none) (m_range : mg "range" = none) : FnOk P w K mg base CX0 1 f fd ["_law_cell_here", "_law_sizes"] (sp__law_draws K) := by
  refine F.ok sc__law_draws (fun vs H Q E h => ?_) (fun cdv A outer s H vs Q E hr h => ?_)
  · obtain ⟨c, a, ns, rfl, _⟩ := h
    rfl
  · obtain ⟨c, a, ns, rfl, hS, hn, hlen, q⟩ := h
    refine ⟨_, (pss_cons (ps_if (pt_cmpR op_eq (pv 0) pe_int (nomark _)) (pss_one (ps_ret (pe_lc (own := [("_law_size", 2)]) (g := (gName 2)) (tt := tYes) rfl sc__law_draws.nd (pi_list (pv 1)) (blkOk_by (own := [("_law_size", 2)]) (N := ["_law_cell_here", "_law_sizes", "_law_size", "_law_left", "_law_found", "_law_k", "_law_low", "_law_high"]) (sc := defScope s__law_draws) (by decide +kernel)) (fun _ _ _ _ _ => (pg_name (i := 2) sc__law_draws.nd rfl (Or.inl rfl))) (fun _ _ _ _ _ => pts_nil) (fun _ _ _ _ _ => pe_int)))) pss_nil)
      (pss_cons (ps_if (pt_cmpR op_ge (pv 0) (pe_op op_pow pe_int pe_int) (nomark _)) (pss_cons (ps_set (i := 3) sc__law_draws.nd rfl (Or.inl rfl) (pe_op op_sub (pv 0) (pe_op op_pow pe_int pe_int)))
      (pss_cons (ps_set (i := 4) sc__law_draws.nd rfl (Or.inl rfl) (pe_lst pa_nil))
      (pss_cons (ps_for PassesOwn.never rfl (pi_list (pv 1)) (pg_name (i := 2) sc__law_draws.nd rfl (Or.inl rfl))
      (pss_cons (ps_expr (pe_bm PySem.F.plainAttrs_list PySem.F.slot_list_append PySem.F.type_list_append mt_append (pv 4) (pa_cons (pe_op op_mod (pe_callTy call_int1 (by rfl) m_int (by decide +kernel) (pa_cons (pv 3) pa_nil)) (pv 2)) pa_nil)))
      (pss_one (ps_set (i := 3) sc__law_draws.nd rfl (Or.inl rfl) (pe_op op_fdivW (pv 3) (pv 2))))))
      (pss_one (ps_ret (pv 4)))))) pss_nil)
      (pss_cons (ps_set (i := 4) sc__law_draws.nd rfl (Or.inl rfl) (pe_lst pa_nil))
      (pss_cons (ps_for PassesOwn.never rfl (pi_range1 (by rfl) m_range (pa_cons (pe_callB call_len_seq (by rfl) m_len (by decide +kernel) (pa_cons (pv 1) pa_nil)) pa_nil)) (pg_name (i := 5) sc__law_draws.nd rfl (Or.inl rfl))
      (pss_cons (ps_set (i := 6) sc__law_draws.nd rfl (Or.inl rfl) (pe_op op_mod (pe_callTy call_int1 (by rfl) m_int (by decide +kernel) (pa_cons (pe_op op_add (pe_op op_mul (pv 0) pe_int) (pe_op op_mul (pe_op op_add (pv 5) pe_int) pe_int)) pa_nil)) pe_int))
      (pss_cons (ps_set (i := 6) sc__law_draws.nd rfl (Or.inl rfl) (pe_op op_mod (pe_callTy call_int1 (by rfl) m_int (by decide +kernel) (pa_cons (pe_op op_add (pe_op op_mul (pv 6) pe_int) (pe_op op_mul (pe_op op_add (pv 5) pe_int) pe_int)) pa_nil)) pe_int))
      (pss_cons (ps_set (i := 7) sc__law_draws.nd rfl (Or.inl rfl) (pe_op op_mod (pe_callTy call_int1 (by rfl) m_int (by decide +kernel) (pa_cons (pe_op op_add (pe_op op_mul (pv 0) pe_int) (pe_op op_mul (pe_op op_add (pv 5) pe_int) pe_int)) pa_nil)) pe_int))
      (pss_cons (ps_set (i := 7) sc__law_draws.nd rfl (Or.inl rfl) (pe_op op_mod (pe_callTy call_int1 (by rfl) m_int (by decide +kernel) (pa_cons (pe_op op_add (pe_op op_mul (pv 7) pe_int) (pv 6)) pa_nil)) pe_int))
      (pss_one (ps_expr (pe_bm PySem.F.plainAttrs_list PySem.F.slot_list_append PySem.F.type_list_append mt_append (pv 4) (pa_cons (pe_op op_mod (pe_callTy call_int1 (by rfl) m_int (by decide +kernel) (pa_cons (pe_op op_add (pe_op op_mul (pv 7) pe_int) (pv 6)) pa_nil)) (pe_ix ix_list (pv 1) (pv 5) (fun _ _ => rfl))) pa_nil)))))))))
      (pss_one (ps_ret (pv 4))))))), ?_⟩
    have small : ∀ {ds : List Int} {i : Nat}, Within ds (ns.take i) → (ds.map V.int).length < sizeLine := fun {ds i} w => by
      rw [List.length_map, w.len, List.length_take]
      exact small1000 (by omega)
    refine ⟨_, rfl, rfl, _, rfl, ite2 (fun _ => ?_) (fun _ => ?_)⟩
    · -- [0 for size in sizes]
      refine ⟨.ref a, rfl, a, rfl, ⟨_, hS⟩, fun D nD => lc_list (K := K) (a := a) (xs := ns.map V.int) (fun i H2 => ∃ ds : List Int, Same H H2 ∧ H2 D = some (.lst (ds.map V.int)) ∧ Within ds (ns.take i)) ⟨[], same_upd nD, upd_same, Within.zero ns⟩ (fun i H2 _ ⟨_, s, _⟩ => s.seq hS) ?_ ?_⟩
      · rintro i x H2 hi ⟨ds, s, hD, w⟩
        obtain ⟨n, rfl, hin⟩ := int_of hi
        refine ⟨rfl, ?_⟩
        refine lc_yes ?_
        refine iteT ?_
        exact ⟨_, hD, small w, ds ++ [0], same_mut s nD, by rw [upd_same, ← snoc_int], w.step hin (Int.le_refl 0) (hn n (List.mem_of_getElem? hin)).1⟩
      · rintro H2 ⟨ds, s, hD, w⟩
        rw [List.length_map] at w
        exact q ds H2 D w.full s nD hD
    refine ⟨_, rfl, 10, 18, rfl, rfl, ⟨by decide, by decide, by decide⟩, _, _, rfl, rfl, _, rfl, ite2 (fun _ => ?_) (fun _ => ?_)⟩
    · -- left = cell - 10 ** 18; found = []
      refine ⟨_, rfl, 10, 18, rfl, rfl, ⟨by decide, by decide, by decide⟩, _, _, rfl, rfl, ?_⟩
      refine ⟨Nat.zero_le _, fun o no => ?_⟩
      have s1 : Same H (upd H o (.lst [])) := same_upd no
      refine ⟨.ref a, rfl, a, rfl, ⟨_, s1.seq hS⟩, for_list (K := K) (a := a) (xs := ns.map V.int) (fun i σ H2 => ∃ (ds : List Int) (l : Int) (y : Option V), σ = [some (.int c), some (.ref a), y, some (.int l), some (.ref o), none, none, none] ∧ Same H H2 ∧ H2 o = some (.lst (ds.map V.int)) ∧ Within ds (ns.take i))
        ⟨[], _, none, rfl, s1, upd_same, Within.zero ns⟩ (fun i σ H2 _ ⟨_, _, _, _, s, _⟩ => s.seq hS) ?_ ?_⟩
      · rintro i x σ H2 hi ⟨ds, l, y, rfl, s, hD, w⟩
        obtain ⟨n, rfl, hin⟩ := int_of hi
        obtain ⟨n0, n1⟩ := hn n (List.mem_of_getElem? hin)
        refine ⟨.ref o, rfl, .inl ⟨rfl, _, lst_l hD⟩, _, rfl, .inl ⟨l, rfl, _, rfl, _, _, rfl, rfl, n0, o, _, _, rfl, rfl, hD, small w, ?_⟩⟩
        refine ⟨_, rfl, _, rfl, _, _, rfl, rfl, w_div n0 n1, ds ++ [l % n], _, _, rfl, same_mut s no, by rw [upd_same, ← snoc_int], w.step hin (Int.emod_nonneg _ (by omega)) (Int.emod_lt_of_pos _ n0)⟩
      · rintro σ H2 ⟨ds, l, y, rfl, s, hD, w⟩
        rw [List.length_map] at w
        exact ⟨_, rfl, q ds H2 o w.full s no hD⟩
    · refine ⟨Nat.zero_le _, fun o no => ?_⟩
      have s1 : Same H (upd H o (.lst [])) := same_upd no
      refine ⟨.ref a, rfl, a, _, rfl, .inl (s1.seq hS), _, rfl, ?_⟩
      rw [List.length_map]
      refine ⟨by omega, by omega, ?_⟩
      rw [Int.toNat_natCast]
      refine for_range (lo := 0) (n := ns.length) (fun i σ H2 => ∃ (ds : List Int) (y1 y2 y3 : Option V), σ = [some (.int c), some (.ref a), none, none, some (.ref o), y1, y2, y3] ∧ Same H H2 ∧ H2 o = some (.lst (ds.map V.int)) ∧ Within ds (ns.take i))
        ⟨[], none, none, none, rfl, s1, upd_same, Within.zero ns⟩ ?_ ?_
      · rintro i σ H2 hi ⟨ds, y1, y2, y3, rfl, s, hD, w⟩
        have hin : ns[i]? = some ns[i] := List.getElem?_eq_getElem hi
        obtain ⟨n0, n1⟩ := hn ns[i] (List.getElem_mem hi)
        refine ⟨_, rfl, _, _, rfl, rfl, .inr ⟨by decide, by decide⟩, _, rfl, _, _, rfl, rfl, _, _, rfl, rfl, .inr ⟨by decide, by decide⟩, _, _, rfl, rfl, .inl ⟨_, rfl, _, _, rfl, rfl, (show (0 : Int) < 2147483647 by decide), ?_⟩⟩
        refine ⟨_, rfl, _, _, rfl, rfl, .inr ⟨by decide, by decide⟩, _, rfl, _, _, rfl, rfl, _, _, rfl, rfl, .inr ⟨by decide, by decide⟩, _, _, rfl, rfl, .inl ⟨_, rfl, _, _, rfl, rfl, (show (0 : Int) < 2147483399 by decide), ?_⟩⟩
        refine ⟨_, rfl, _, _, rfl, rfl, .inr ⟨by decide, by decide⟩, _, rfl, _, _, rfl, rfl, _, _, rfl, rfl, .inr ⟨by decide, by decide⟩, _, _, rfl, rfl, .inl ⟨_, rfl, _, _, rfl, rfl, (show (0 : Int) < 2147483563 by decide), ?_⟩⟩
        refine ⟨_, rfl, _, _, rfl, rfl, .inr ⟨by decide, by decide⟩, _, rfl, _, _, rfl, rfl, .inl ⟨_, rfl, _, _, rfl, rfl, (show (0 : Int) < 2147483587 by decide), ?_⟩⟩
        refine ⟨.ref o, rfl, .inl ⟨rfl, _, lst_l hD⟩, _, rfl, _, _, rfl, rfl, .inr ⟨by decide, by decide⟩, _, rfl, _, _, rfl, rfl, .inl ⟨_, rfl, .ref a, rfl, .int (0 + (i : Int)), rfl, a, _, _, _, rfl, rfl, s.seq hS, at_of (Int.zero_add _) (int_at hin), _, _, rfl, rfl, n0, o, _, _, rfl, rfl, hD, small w, ?_⟩⟩
        exact ⟨ds ++ [_], _, _, _, rfl, same_mut s no, by rw [upd_same, ← snoc_int], w.step hin (Int.emod_nonneg _ (by omega)) (Int.emod_lt_of_pos _ n0)⟩
      · rintro σ H2 ⟨ds, y1, y2, y3, rfl, s, hD, w⟩
        exact ⟨_, rfl, q ds H2 o w.full s no hD⟩
def sp__law_stepping (K : PySem.W.Frag) : Sp := fun vs H Q _ => ∃ (c : Int) (m : Nat), vs = [.int c, .int (m : Int)] ∧ m ≤ 9 ∧ ∀ H' t F S L (fs ls : List Int) (b : Int) (rs : List Addr) (rws : List (List Int)), Same H H' → H' t = some (.tup [.ref F, .int b, .ref S, .ref L]) → H' F = some (.lst (fs.map V.int)) → H' S = some (.lst (rs.map V.ref)) → RowsAt H' rs rws → H' L = some (.lst (ls.map V.int)) → fs.length = m → ls.length = m → rs.length = m → (∀ ws ∈ rws, ws.length = m) → Q (.ref t) H' 
theorem ok__law_stepping {f : Addr} {fd : FuncData} {C_Stepping C_BadNumber C_TooMany C_BadLot C_BadTable C_Unlike C_ShelfError : Addr} (F : Fun K "_law_stepping" "_law_stepping" s__law_stepping f fd) (T : Txt K mg C_Stepping C_BadNumber C_TooMany C_BadLot C_BadTable C_Unlike C_ShelfError) (m_int : mg "int" = none) (m_range : mg "range" = none) (c__law_draws : Cal P w K mg base CX0 1 "_law_draws" ["_law_cell_here", "_law_sizes"] (sp__law_draws K)) : FnOk P w K mg base CX0 2 f fd ["_law_cell_here", "_law_many"] (sp__law_stepping K) := by
  refine F.ok sc__law_stepping (fun vs H Q E h => ?_) (fun cdv A outer s H vs Q E hr h => ?_)
  · obtain ⟨c, m, rfl, _⟩ := h
    rfl
  · obtain ⟨c, m, rfl, hm, q⟩ := h
    obtain ⟨f__law_draws, fd__law_draws, G__law_draws, m__law_draws, k__law_draws, b__law_draws⟩ := c__law_draws
    refine ⟨_, (pss_cons (ps_set (i := 3) sc__law_stepping.nd rfl (Or.inr rfl) (pe_call G__law_draws (hr.mono (by decide)) (by rfl) m__law_draws k__law_draws b__law_draws .nil pass0 (pa_cons (pv 0) (pa_cons (pe_op op_cat (pe_lst (pa_cons pe_int pa_nil)) (pe_lc (own := [("_law_k", 2)]) (g := (gName 2)) (tt := tYes) rfl sc__law_stepping.nd (pi_range1 (by rfl) m_range (pa_cons (pe_op op_mul (pe_op op_add (pv 1) pe_int) (pe_op op_add (pv 1) pe_int)) pa_nil)) (blkOk_by (own := [("_law_k", 2)]) (N := ["_law_cell_here", "_law_many", "_law_k", "_law_drawn", "_law_bound", "_law_first", "_law_leaves", "_law_aside", "_law_steps", "_law_row", "_law_j"]) (sc := defScope s__law_stepping) (by decide +kernel)) (fun _ _ _ _ _ => (pg_name (i := 2) sc__law_stepping.nd rfl (Or.inl rfl))) (fun _ _ _ _ _ => pts_nil) (fun _ _ _ _ _ => (pe_op op_pow pe_int pe_int)))) pa_nil))))
      (pss_cons (ps_set (i := 4) sc__law_stepping.nd rfl (Or.inr rfl) (pe_ix ix_list (pe_lst (pa_cons pe_int (pa_cons pe_int (pa_cons (pe_op op_pow pe_int pe_int) (pa_cons (pe_op op_sub (pe_op op_pow pe_int pe_int) pe_int) pa_nil))))) (pe_ix ix_list (pv 3) pe_int (fun _ _ => rfl)) (fun _ _ => rfl)))
      (pss_cons (ps_setLc (i := 5) (own := [("_law_k", 2)]) (g := (gName 2)) (tt := tYes) rfl sc__law_stepping.nd rfl rfl (sw_true rfl rfl rfl (by decide +kernel)) (pi_range1 (by rfl) m_range (pa_cons (pv 1) pa_nil)) (blkOk_by (own := [("_law_k", 2)]) (N := ["_law_cell_here", "_law_many", "_law_k", "_law_drawn", "_law_bound", "_law_first", "_law_leaves", "_law_aside", "_law_steps", "_law_row", "_law_j"]) (sc := defScope s__law_stepping) (by decide +kernel)) (fun _ _ _ _ _ => (pg_name (i := 2) sc__law_stepping.nd rfl (Or.inl rfl))) (fun _ _ _ _ _ => pts_nil) (fun _ _ _ _ _ => (pe_op op_add pe_int (pe_op op_mod (pe_callTy call_int1 (by rfl) m_int (by decide +kernel) (pa_cons (pe_ix (r := rIxL K) ix_list (pv 3) (pe_op op_add pe_int (pv 2)) (fun _ _ => rfl)) pa_nil)) (pv 4)))))
      (pss_cons (ps_setLc (i := 6) (own := [("_law_k", 2)]) (g := (gName 2)) (tt := tYes) rfl sc__law_stepping.nd rfl rfl (sw_true rfl rfl rfl (by decide +kernel)) (pi_range1 (by rfl) m_range (pa_cons (pv 1) pa_nil)) (blkOk_by (own := [("_law_k", 2)]) (N := ["_law_cell_here", "_law_many", "_law_k", "_law_drawn", "_law_bound", "_law_first", "_law_leaves", "_law_aside", "_law_steps", "_law_row", "_law_j"]) (sc := defScope s__law_stepping) (by decide +kernel)) (fun _ _ _ _ _ => (pg_name (i := 2) sc__law_stepping.nd rfl (Or.inl rfl))) (fun _ _ _ _ _ => pts_nil) (fun _ _ _ _ _ => (pe_op op_add pe_int (pe_op op_mod (pe_callTy call_int1 (by rfl) m_int (by decide +kernel) (pa_cons (pe_ix (r := rIxL K) ix_list (pv 3) (pe_op op_add (pe_op op_add pe_int (pv 1)) (pv 2)) (fun _ _ => rfl)) pa_nil)) (pv 4)))))
      (pss_cons (ps_set (i := 7) sc__law_stepping.nd rfl (Or.inl rfl) (pe_op op_add pe_int (pe_op op_mod (pe_callTy call_int1 (by rfl) m_int (by decide +kernel) (pa_cons (pe_ix ix_list (pv 3) (pe_op op_add pe_int (pe_op op_mul pe_int (pv 1))) (fun _ _ => rfl)) pa_nil)) (pv 4))))
      (pss_cons (ps_set (i := 8) sc__law_stepping.nd rfl (Or.inl rfl) (pe_lst pa_nil))
      (pss_cons (ps_for PassesOwn.never rfl (pi_range1 (by rfl) m_range (pa_cons (pv 1) pa_nil)) (pg_name (i := 2) sc__law_stepping.nd rfl (Or.inr rfl))
      (pss_cons (ps_setLc (i := 9) (own := [("_law_j", 10)]) (g := (gName 10)) (tt := tYes) rfl sc__law_stepping.nd rfl rfl (sw_true rfl rfl rfl (by decide +kernel)) (pi_range1 (by rfl) m_range (pa_cons (pv 1) pa_nil)) (blkOk_by (own := [("_law_j", 10)]) (N := ["_law_cell_here", "_law_many", "_law_k", "_law_drawn", "_law_bound", "_law_first", "_law_leaves", "_law_aside", "_law_steps", "_law_row", "_law_j"]) (sc := defScope s__law_stepping) (by decide +kernel)) (fun _ _ _ _ _ => (pg_name (i := 10) sc__law_stepping.nd rfl (Or.inl rfl))) (fun _ _ _ _ _ => pts_nil) (fun _ _ _ _ _ => (pe_op op_mod (pe_callTy call_int1 (by rfl) m_int (by decide +kernel) (pa_cons (pe_ix (r := rIxL K) ix_list (pv 3) (pe_op op_add (pe_op op_add (pe_op op_add pe_int (pe_op op_mul pe_int (pv 1))) (pe_op op_mul (pv 2) (pv 1))) (pv 10)) (fun _ _ => rfl)) pa_nil)) (pe_op op_add (pv 4) pe_int))))
      (pss_cons (ps_asg pe_int (pg_sub (pv 9) (pv 2) set_list))
      (pss_one (ps_expr (pe_bm PySem.F.plainAttrs_list PySem.F.slot_list_append PySem.F.type_list_append mt_append (pv 8) (pa_cons (pv 9) pa_nil)))))))
      (pss_one (ps_ret (pe_tup (pa_cons (pv 5) (pa_cons (pv 7) (pa_cons (pv 8) (pa_cons (pv 6) pa_nil)))))))))))))), ?_⟩
    refine ⟨_, rfl, small1000 (by decide), fun p1 n1 => ?_⟩
    have s1 : Same H (upd H p1 (.lst [V.int 4])) := same_upd n1
    obtain ⟨z, hz⟩ : ∃ z : Nat, z = (m + 1) * (m + 1) := ⟨_, rfl⟩
    have hzb : z ≤ 100 := by
      rw [hz]
      exact Nat.mul_le_mul (show m + 1 ≤ 10 by omega) (show m + 1 ≤ 10 by omega)
    have hzi : ((m : Int) + 1) * ((m : Int) + 1) = (z : Int) := by
      rw [hz]
      rfl
    refine ⟨_, rfl, _, _, rfl, rfl, _, rfl, _, _, rfl, rfl, _, _, rfl, rfl, .inl ⟨by omega, by omega⟩, _, rfl, ?_⟩
    rw [hzi]
    refine ⟨by omega, by omega, ?_⟩
    rw [Int.toNat_natCast]
    refine fun D nD => lc_range (lo := 0) (n := z) (fun i H2 => Same (upd H p1 (.lst [V.int 4])) H2 ∧ H2 D = some (.lst ((List.replicate i (10 ^ 18 : Int)).map V.int))) ⟨same_upd nD, upd_same⟩ ?_ ?_
    · rintro i H2 hi ⟨s, hD⟩
      refine ⟨rfl, ?_⟩
      refine lc_yes ?_
      refine iteT ?_
      refine ⟨10, 18, rfl, rfl, ⟨by decide, by decide, by decide⟩, _, hD, ?_, same_mut s nD, ?_⟩
      · rw [List.length_map, List.length_replicate]
        exact small1000 (by omega)
      · rw [upd_same, List.replicate_succ', ← snoc_int]
        rfl
    rintro H2 ⟨s2, hD⟩
    refine ⟨p1, D, _, _, rfl, rfl, s2 _ _ upd_same, hD, ?_, fun p3 n3 => ?_⟩
    · rw [List.length_map, List.length_replicate]
      exact Nat.le_of_lt (small1000 (by show 1 + z ≤ 1000; omega))
    have s3 : Same H (upd H2 p3 (.lst ((4 :: List.replicate z (10 ^ 18 : Int)).map V.int))) := (s1.trans s2).trans (same_upd n3)
    refine ⟨c, p3, 4 :: List.replicate z (10 ^ 18 : Int), rfl, lst_l upd_same, ?_, ?_, fun ds H4 d w s4 nd hd => ?_⟩
    · intro n hn
      rcases List.mem_cons.mp hn with rfl | hn
      · decide
      · rw [(List.mem_replicate.mp hn).2]
        exact big18
    · rw [List.length_cons, List.length_replicate]
      omega
    have sH : Same H H4 := s3.trans s4
    obtain ⟨d0, r, rfl, l0, u0, w⟩ := w.c
    have hr : r.length = z := by
      rw [w.len, List.length_replicate]
    have hL : SqL K H4 d ((d0 :: r).map V.int) := lst_l hd
    have at_d : ∀ j : Nat, j < z + 1 → ∃ v : Int, ((d0 :: r).map V.int)[j]? = some (.int v) := fun j hj =>
      ⟨(d0 :: r)[j]'(by rw [List.length_cons]; omega), int_at (List.getElem?_eq_getElem _)⟩
    have zm : z = m * m + 2 * m + 1 := by
      rw [hz, Nat.add_mul, Nat.mul_add]
      omega
    refine ⟨10, 6, rfl, rfl, ⟨by decide, by decide, by decide⟩, 10, 18, rfl, rfl, ⟨by decide, by decide, by decide⟩, _, _, rfl, rfl, small1000 (by decide), fun p5 n5 => ?_⟩
    obtain ⟨bd, hb, b0, b1⟩ : ∃ b : Int, atI [V.int 2, V.int 9, V.int (10 ^ 6), V.int (10 ^ 18 - 1)] d0 = some (V.int b) ∧ 0 < b ∧ b ≤ 10 ^ 18 - 1 := by
      rcases (by omega : d0 = 0 ∨ d0 = 1 ∨ d0 = 2 ∨ d0 = 3) with rfl | rfl | rfl | rfl
      · exact ⟨2, rfl, by decide, by decide⟩
      · exact ⟨9, rfl, by decide, by decide⟩
      · exact ⟨10 ^ 6, rfl, by decide, by decide⟩
      · exact ⟨10 ^ 18 - 1, rfl, by decide, by decide⟩
    have s5 := same_upd (o := .lst [V.int 2, V.int 9, V.int (10 ^ 6), V.int (10 ^ 18 - 1)]) n5
    refine ⟨.ref d, rfl, d, _, _, .int d0, rfl, rfl, s5.seq hL, atI_nat (j := 0) rfl, p5, _, _, .int bd, rfl, rfl, lst_l upd_same, hb, ?_⟩
    have sH5 := sH.trans s5
    have hL5 := s5.seq hL
    refine ⟨_, rfl, _, rfl, by omega, by omega, ?_⟩
    rw [Int.toNat_natCast]
    refine fun F nF => lc_range (lo := 0) (n := m) (fun i H3 => ∃ xs : List Int, Same (upd H4 p5 (.lst [V.int 2, V.int 9, V.int (10 ^ 6), V.int (10 ^ 18 - 1)])) H3 ∧ H3 F = some (.lst (xs.map V.int)) ∧ xs.length = i) ⟨[], same_upd nF, upd_same, rfl⟩ ?_ ?_
    · rintro i H3 hi ⟨xs, s3, hD, lx⟩
      obtain ⟨v, hv⟩ := at_d (1 + i) (by omega)
      refine ⟨rfl, ?_⟩
      refine lc_yes ?_
      refine iteT ?_
      refine ⟨.ref d, rfl, _, rfl, _, _, rfl, rfl, d, _, _, _, rfl, rfl, s3.seq (hL5), at_of (j := 1 + i) (by omega) hv, .inl ⟨v, rfl, _, rfl, _, _, rfl, rfl, b0, _, _, rfl, rfl, _, hD, ?_, xs ++ [1 + v % bd], same_mut s3 nF, ?_, ?_⟩⟩
      · rw [List.length_map]
        exact small1000 (by omega)
      · rw [upd_same, ← snoc_int]
      · rw [List.length_append, lx]
        rfl
    rintro H6 ⟨fs, s6, hF, lf⟩
    have hL6 := s6.seq hL5
    refine ⟨_, rfl, _, rfl, by omega, by omega, ?_⟩
    rw [Int.toNat_natCast]
    refine fun L nL => lc_range (lo := 0) (n := m) (fun i H3 => ∃ xs : List Int, Same H6 H3 ∧ H3 L = some (.lst (xs.map V.int)) ∧ xs.length = i) ⟨[], same_upd nL, upd_same, rfl⟩ ?_ ?_
    · rintro i H3 hi ⟨xs, s3, hD, lx⟩
      obtain ⟨v, hv⟩ := at_d (1 + m + i) (by omega)
      refine ⟨rfl, ?_⟩
      refine lc_yes ?_
      refine iteT ?_
      refine ⟨.ref d, rfl, _, rfl, _, _, rfl, rfl, _, rfl, _, _, rfl, rfl, d, _, _, _, rfl, rfl, s3.seq (hL6), at_of (j := 1 + m + i) (by omega) hv, .inl ⟨v, rfl, _, rfl, _, _, rfl, rfl, b0, _, _, rfl, rfl, _, hD, ?_, xs ++ [1 + v % bd], same_mut s3 nL, ?_, ?_⟩⟩
      · rw [List.length_map]
        exact small1000 (by omega)
      · rw [upd_same, ← snoc_int]
      · rw [List.length_append, lx]
        rfl
    rintro H7 ⟨ls, s7, hLs, ll⟩
    have hL7 := s7.seq hL6
    obtain ⟨va, hva⟩ := at_d (1 + 2 * m) (by omega)
    refine ⟨.ref d, rfl, _, rfl, _, _, rfl, rfl, .inl ⟨by decide, by decide⟩, _, _, rfl, rfl, d, _, _, _, rfl, rfl, hL7, at_of (j := 1 + 2 * m) (by omega) hva, .inl ⟨va, rfl, _, rfl, _, _, rfl, rfl, b0, _, _, rfl, rfl, ?_⟩⟩
    refine ⟨Nat.zero_le _, fun S nS => ?_⟩
    have sH7 := (sH5.trans s6).trans s7
    have hF7 := s7 _ _ hF
    refine ⟨_, rfl, _, rfl, by omega, by omega, ?_⟩
    rw [Int.toNat_natCast]
    refine for_range (lo := 0) (n := m) (fun i σ H8 => ∃ (rs : List Addr) (rws : List (List Int)) (y y2 : Option V), σ = [some (.int c), some (.int (m : Int)), y, some (.ref d), some (.int bd), some (.ref F), some (.ref L), some (.int (1 + va % bd)), some (.ref S), y2, none] ∧ Same H7 H8 ∧ H8 S = some (.lst (rs.map V.ref)) ∧ RowsAt H8 rs rws ∧ rs.length = i ∧ (∀ ws ∈ rws, ws.length = m) ∧ ∀ r ∈ rs, r ≠ S) ⟨[], [], none, none, rfl, same_upd nS, upd_same, ⟨rfl, fun i r ws h => by cases h⟩, rfl, fun ws h => (by cases h), fun ws h => (by cases h)⟩ ?_ ?_
    · rintro i σ H8 hi ⟨rs, rws, y, y2, rfl, s8, hS, row, lr, lw, nrS⟩
      have bi : i * m + m ≤ m * m := by
        have := Nat.mul_le_mul_right m (show i + 1 ≤ m by omega)
        rw [Nat.add_mul] at this
        omega
      refine ⟨_, rfl, _, rfl, by omega, by omega, ?_⟩
      rw [Int.toNat_natCast]
      refine fun D nD => lc_range (lo := 0) (n := m) (fun j H9 => ∃ xs : List Int, Same H8 H9 ∧ H9 D = some (.lst (xs.map V.int)) ∧ xs.length = j) ⟨[], same_upd nD, upd_same, rfl⟩ ?_ ?_
      · rintro j H9 hj ⟨xs, s9, hD, lx⟩
        obtain ⟨v, hv⟩ := at_d (2 + 2 * m + i * m + j) (by omega)
        refine ⟨rfl, ?_⟩
        refine lc_yes ?_
        refine iteT ?_
        refine ⟨.ref d, rfl, _, rfl, _, _, rfl, rfl, .inl ⟨by decide, by decide⟩, _, _, rfl, rfl, _, rfl, _, rfl, _, _, rfl, rfl, .inl ⟨by omega, by omega⟩, _, _, rfl, rfl, _, rfl, _, _, rfl, rfl, d, _, _, _, rfl, rfl, (s8.trans s9).seq hL7, at_of (j := 2 + 2 * m + i * m + j) (by rw [Int.zero_add, Int.zero_add]; rfl) hv, .inl ⟨v, rfl, _, rfl, _, _, rfl, rfl, _, _, rfl, rfl, (show (0 : Int) < bd + 1 by omega), _, hD, ?_, xs ++ [v % (bd + 1)], same_mut s9 nD, ?_, ?_⟩⟩
        · rw [List.length_map]
          exact small1000 (by omega)
        · rw [upd_same, ← snoc_int]
        · rw [List.length_append, lx]
          rfl
      rintro H9 ⟨xs, s9, hD, lx⟩
      have SD : S ≠ D := ne_of_none hS nD
      refine ⟨_, rfl, _, rfl, D, _, _, i, rfl, rfl, hD, ?_, ?_⟩
      · unfold ixN
        rw [if_pos (by omega), if_pos (by rw [List.length_map]; omega), Int.zero_add, Int.toNat_natCast]
      have hS10 : upd H9 D (.lst ((xs.map V.int).set i (V.int 0))) S = some (.lst (rs.map V.ref)) := (upd_ne SD).trans (s9 _ _ hS)
      refine ⟨_, rfl, .inl ⟨rfl, _, lst_l hS10⟩, _, rfl, S, _, _, rfl, rfl, hS10, by rw [List.length_map]; exact small1000 (by omega), ?_⟩
      refine ⟨rs ++ [D], rws ++ [xs.set i 0], _, _, rfl, same_mut (same_mut (s8.trans s9) (s8.free nD)) nS, by rw [upd_same, List.map_append]; rfl, ⟨by rw [List.length_append, List.length_append, row.1]; rfl, fun j u ws h hw => ?_⟩, by rw [List.length_append, lr]; rfl, fun ws hw => ?_, fun u hu => ?_⟩
      · by_cases hj : j < rs.length
        · rw [List.getElem?_append_left hj] at h
          rw [List.getElem?_append_left (by have := row.1; omega)] at hw
          have e := s9 _ _ (row.2 j u ws h hw)
          rw [upd_ne (nrS u (List.mem_of_getElem? h)), upd_ne (ne_of_none (row.2 j u ws h hw) nD)]
          exact e
        · rw [List.getElem?_append_right (by omega)] at h
          rw [List.getElem?_append_right (by have := row.1; omega)] at hw
          obtain ⟨k, hk⟩ : ∃ k, j - rs.length = k := ⟨_, rfl⟩
          rw [← row.1, hk] at hw
          rw [hk] at h
          cases k with
          | zero =>
            cases h
            cases hw
            rw [upd_ne (Ne.symm SD), upd_same, List.map_set]
          | succ k => cases h
      · rcases List.mem_append.mp hw with hw | hw
        · exact lw ws hw
        · rw [List.mem_singleton.mp hw, List.length_set]
          exact lx
      · rcases List.mem_append.mp hu with hu | hu
        · exact nrS u hu
        · rw [List.mem_singleton.mp hu]
          exact Ne.symm SD
    · rintro σ H8 ⟨rs, rws, y, y2, rfl, s8, hS, row, lr, lw, nrS⟩
      exact ⟨_, rfl, _, rfl, _, rfl, _, rfl, (by show 4 ≤ sizeLine; decide), fun t nt => q _ t F S L fs ls (1 + va % bd) rs rws ((sH7.trans s8).trans (same_upd nt)) upd_same ((s8.trans (same_upd nt)) _ _ hF7) (same_upd nt _ _ hS) (row.same (same_upd nt)) ((s8.trans (same_upd nt)) _ _ hLs) lf ll lr lw⟩
def sp__law_spoilt : Sp := fun vs H Q _ => ∃ (t F S L : Addr) (fs ls : List Int) (b : Int) (rs : List Addr) (rws : List (List Int)) (fault : Int) (place : Nat) (much : Int) (n : Nat), vs = [.ref t, .int fault, .int (place : Int), .int much] ∧ QAt H t F S L fs ls b rs rws ∧ fs.length ≤ n ∧ ls.length ≤ n ∧ rs.length ≤ n ∧ (∀ ws ∈ rws, ws.length ≤ n) ∧ n ≤ 800 ∧
  ∀ H' u F' S' L' fs' ls' b' rs' rws', Same H H' → QAt H' u F' S' L' fs' ls' b' rs' rws' → fs'.length ≤ n → ls'.length ≤ n + 1 → rs'.length ≤ n + 1 → (∀ ws ∈ rws', ws.length ≤ n + 1) → Q (.ref u) H' 
theorem ok__law_spoilt {f : Addr} {fd : FuncData} {C_Stepping C_BadNumber C_TooMany C_BadLot C_BadTable C_Unlike C_ShelfError : Addr} (F : Fun K "_law_spoilt" "_law_spoilt" s__law_spoilt f fd) (T : Txt K mg C_Stepping C_BadNumber C_TooMany C_BadLot C_BadTable C_Unlike C_ShelfError) (m_int : mg "int" = none) (m_len : mg "len" = none) (m_list : mg "list" = none) : FnOk P w K mg base CX0 1 f fd ["_law_told", "_law_fault", "_law_place", "_law_much"] sp__law_spoilt := by
  refine F.ok sc__law_spoilt (fun vs H Q E h => ?_) (fun cdv A outer s H vs Q E hr h => ?_)
  · obtain ⟨t, F, S, L, fs, ls, b, rs, rws, fault, place, much, n, rfl, _⟩ := h
    rfl
  · obtain ⟨t, F, S, L, fs, ls, b, rs, rws, fault, place, much, n, rfl, ⟨ht, hF, hS, row, hL⟩, lf, ll, lr, lw, n8, q⟩ := h
    refine ⟨_, (pss_cons (ps_set (i := 4) sc__law_spoilt.nd rfl (Or.inl rfl) (pe_callTy call_list_of (by rfl) m_list (by decide +kernel) (pa_cons (pe_ix ix_tup (pv 0) pe_int (fun _ _ => rfl)) pa_nil)))
      (pss_cons (ps_set (i := 5) sc__law_spoilt.nd rfl (Or.inl rfl) (pe_ix ix_tup (pv 0) pe_int (fun _ _ => rfl)))
      (pss_cons (ps_setLc (i := 7) (own := [("_law_row", 6)]) (g := (gName 6)) (tt := tYes) rfl sc__law_spoilt.nd rfl rfl (sw_true rfl rfl rfl (by decide +kernel)) (pi_list (pe_ix ix_tup (pv 0) pe_int (fun _ _ => rfl))) (blkOk_by (own := [("_law_row", 6)]) (N := ["_law_told", "_law_fault", "_law_place", "_law_much", "_law_first", "_law_aside", "_law_row", "_law_steps", "_law_leaves", "_law_many", "_law_k"]) (sc := defScope s__law_spoilt) (by decide +kernel)) (fun _ _ _ _ _ => (pg_name (i := 6) sc__law_spoilt.nd rfl (Or.inl rfl))) (fun _ _ _ _ _ => pts_nil) (fun _ _ _ _ _ => (pe_callTy (T := "list") (r := rListOf K) call_list_of (by rfl) m_list (by decide +kernel) (pa_cons (pv 6) pa_nil))))
      (pss_cons (ps_set (i := 8) sc__law_spoilt.nd rfl (Or.inl rfl) (pe_callTy call_list_of (by rfl) m_list (by decide +kernel) (pa_cons (pe_ix ix_tup (pv 0) pe_int (fun _ _ => rfl)) pa_nil)))
      (pss_cons (ps_set (i := 9) sc__law_spoilt.nd rfl (Or.inl rfl) (pe_callB call_len_seq (by rfl) m_len (by decide +kernel) (pa_cons (pv 4) pa_nil)))
      (Evl.pss_cut (ps_if (PW.pt (pw_and (pt_cmpR op_eq (pv 1) pe_int (nomark _)) (pw_and1 (pt_cmpR op_lt (pv 2) (pv 9) (nomark _))))) (pss_one (ps_asg (pe_un un_neg (pv 3)) (pg_sub (pv 4) (pv 2) set_list))) pss_nil)
      (Evl.pss_cut (ps_if (pt_cmpR op_eq (pv 1) pe_int (nomark _)) (pss_one (ps_set (i := 5) sc__law_spoilt.nd rfl (Or.inl rfl) (pe_un un_neg (pv 3)))) pss_nil)
      (Evl.pss_cut (ps_if (PW.pt (pw_and (pt_cmpR op_eq (pv 1) pe_int (nomark _)) (pw_and1 (pt_cmpR op_eq (pe_op op_mod (pe_callTy call_int1 (by rfl) m_int (by decide +kernel) (pa_cons (pv 3) pa_nil)) pe_int) pe_int (nomark _))))) (pss_one (ps_set (i := 7) sc__law_spoilt.nd rfl (Or.inl rfl) (pe_slice sl_list (pv 7) po_none (po_some (pe_un un_neg pe_int))))) pss_nil)
      (Evl.pss_cut (ps_if (PW.pt (pw_and (pt_cmpR op_eq (pv 1) pe_int (nomark _)) (pw_and1 (PW.pt (pw_or (pt_cmpR op_eq (pe_op op_mod (pe_callTy call_int1 (by rfl) m_int (by decide +kernel) (pa_cons (pv 3) pa_nil)) pe_int) pe_int (nomark _)) (pw_or1 (pt_cmpR op_eq (pe_callB call_len_seq (by rfl) m_len (by decide +kernel) (pa_cons (pe_ix ix_tup (pv 0) pe_int (fun _ _ => rfl)) pa_nil)) pe_int (nomark _)))))))) (pss_one (ps_expr (pe_bm PySem.F.plainAttrs_list PySem.F.slot_list_append PySem.F.type_list_append mt_append (pv 7) (pa_cons (pe_lc (own := [("_law_k", 10)]) (g := (gName 10)) (tt := tYes) rfl sc__law_spoilt.nd (pi_list (pv 4)) (blkOk_by (own := [("_law_k", 10)]) (N := ["_law_told", "_law_fault", "_law_place", "_law_much", "_law_first", "_law_aside", "_law_row", "_law_steps", "_law_leaves", "_law_many", "_law_k"]) (sc := defScope s__law_spoilt) (by decide +kernel)) (fun _ _ _ _ _ => (pg_name (i := 10) sc__law_spoilt.nd rfl (Or.inl rfl))) (fun _ _ _ _ _ => pts_nil) (fun _ _ _ _ _ => pe_int)) pa_nil)))) pss_nil)
      (Evl.pss_cut (ps_if (PW.pt (pw_and (pt_cmpR op_eq (pv 1) pe_int (nomark _)) (pw_and1 (pt_cmpR op_lt (pv 2) (pe_callB call_len_seq (by rfl) m_len (by decide +kernel) (pa_cons (pv 7) pa_nil)) (nomark _))))) (pss_cons (ps_asg (pe_slice sl_list (pe_ix ix_list (pv 7) (pv 2) (fun _ _ => rfl)) po_none (po_some (pe_un un_neg pe_int))) (pg_sub (pv 7) (pv 2) set_list))
      (pss_one (ps_if (pt_cmpR op_eq (pe_op op_mod (pe_callTy call_int1 (by rfl) m_int (by decide +kernel) (pa_cons (pv 3) pa_nil)) pe_int) pe_int (nomark _)) (pss_one (ps_asg (pe_op op_cat (pe_callTy call_list_of (by rfl) m_list (by decide +kernel) (pa_cons (pe_ix ix_list (pe_ix ix_tup (pv 0) pe_int (fun _ _ => rfl)) (pv 2) (fun _ _ => rfl)) pa_nil)) (pe_lst (pa_cons pe_int pa_nil))) (pg_sub (pv 7) (pv 2) set_list))) pss_nil))) pss_nil)
      (Evl.pss_cut (ps_if (PW.pt (pw_and (pt_cmpR op_eq (pv 1) pe_int (nomark _)) (pw_and (pt_cmpR op_gt (pv 9) pe_int (nomark _)) (pw_and (pt_cmpR op_lt (pv 2) (pe_callB call_len_seq (by rfl) m_len (by decide +kernel) (pa_cons (pv 7) pa_nil)) (nomark _)) (pw_and1 (pt_cmpR op_lt (pe_op op_mod (pe_op op_add (pv 2) pe_int) (pv 9)) (pe_callB call_len_seq (by rfl) m_len (by decide +kernel) (pa_cons (pe_ix ix_list (pv 7) (pv 2) (fun _ _ => rfl)) pa_nil)) (nomark _))))))) (pss_cons (ps_set (i := 6) sc__law_spoilt.nd rfl (Or.inl rfl) (pe_ix ix_list (pv 7) (pv 2) (fun _ _ => rfl)))
      (pss_one (ps_asg (pe_op op_sub (pe_un un_neg pe_int) (pv 3)) (pg_sub (pv 6) (pe_op op_mod (pe_op op_add (pv 2) pe_int) (pv 9)) set_list)))) pss_nil)
      (Evl.pss_cut (ps_if (PW.pt (pw_and (pt_cmpR op_eq (pv 1) pe_int (nomark _)) (pw_and (pt_cmpR op_lt (pv 2) (pe_callB call_len_seq (by rfl) m_len (by decide +kernel) (pa_cons (pv 7) pa_nil)) (nomark _)) (pw_and1 (pt_cmpR op_lt (pv 2) (pe_callB call_len_seq (by rfl) m_len (by decide +kernel) (pa_cons (pe_ix ix_list (pv 7) (pv 2) (fun _ _ => rfl)) pa_nil)) (nomark _)))))) (pss_cons (ps_set (i := 6) sc__law_spoilt.nd rfl (Or.inl rfl) (pe_ix ix_list (pv 7) (pv 2) (fun _ _ => rfl)))
      (pss_one (ps_asg (pe_op op_add pe_int (pv 3)) (pg_sub (pv 6) (pv 2) set_list)))) pss_nil)
      (Evl.pss_cut (ps_if (PW.pt (pw_and (pt_cmpR op_eq (pv 1) pe_int (nomark _)) (pw_and1 (pt_cmpR op_eq (pe_op op_mod (pe_callTy call_int1 (by rfl) m_int (by decide +kernel) (pa_cons (pv 3) pa_nil)) pe_int) pe_int (nomark _))))) (pss_one (ps_set (i := 8) sc__law_spoilt.nd rfl (Or.inl rfl) (pe_slice sl_list (pv 8) po_none (po_some (pe_un un_neg pe_int))))) pss_nil)
      (Evl.pss_cut (ps_if (PW.pt (pw_and (pt_cmpR op_eq (pv 1) pe_int (nomark _)) (pw_and1 (PW.pt (pw_or (pt_cmpR op_eq (pe_op op_mod (pe_callTy call_int1 (by rfl) m_int (by decide +kernel) (pa_cons (pv 3) pa_nil)) pe_int) pe_int (nomark _)) (pw_or1 (pt_cmpR op_eq (pe_callB call_len_seq (by rfl) m_len (by decide +kernel) (pa_cons (pe_ix ix_tup (pv 0) pe_int (fun _ _ => rfl)) pa_nil)) pe_int (nomark _)))))))) (pss_one (ps_expr (pe_bm PySem.F.plainAttrs_list PySem.F.slot_list_append PySem.F.type_list_append mt_append (pv 8) (pa_cons pe_int pa_nil)))) pss_nil)
      (Evl.pss_cut (ps_if (PW.pt (pw_and (pt_cmpR op_eq (pv 1) pe_int (nomark _)) (pw_and1 (pt_cmpR op_lt (pv 2) (pe_callB call_len_seq (by rfl) m_len (by decide +kernel) (pa_cons (pv 8) pa_nil)) (nomark _))))) (pss_one (ps_asg (pe_un un_neg (pv 3)) (pg_sub (pv 8) (pv 2) set_list))) pss_nil)
      (pss_one (ps_ret (pe_tup (pa_cons (pv 4) (pa_cons (pv 5) (pa_cons (pv 7) (pa_cons (pv 8) pa_nil)))))))))))))))))))))), ?_⟩
    have ht0 := ht
    have hS0 := hS
    have hL00 := hL
    have rl := row.1
    refine ⟨.ref t, rfl, t, _, _, _, rfl, rfl, tup_t ht, atI_nat (j := 0) rfl, F, _, rfl, .inl (lst_l hF), fun F1 nF1 => ?_⟩
    have s1 := same_upd (o := .lst (fs.map V.int)) nF1
    have ht := s1 _ _ ht
    refine ⟨.ref t, rfl, t, _, _, _, rfl, rfl, tup_t ht, atI_nat (j := 1) rfl, ?_⟩
    refine ⟨.ref t, rfl, t, _, _, _, rfl, rfl, tup_t ht, atI_nat (j := 2) rfl, S, rfl, ⟨_, lst_l (s1 _ _ hS)⟩, fun D nD => lc_list (K := K) (a := S) (xs := rs.map V.ref) (fun i H7 => ∃ us : List Addr, Same (upd H F1 (.lst (fs.map V.int))) H7 ∧ H7 D = some (.lst (us.map V.ref)) ∧ us.length = i ∧ (∀ u ∈ us, (upd H F1 (.lst (fs.map V.int))) u = none ∧ u ≠ D) ∧ us.Nodup ∧ ∀ (j : Nat) (u : Addr) (ws : List Int), us[j]? = some u → rws[j]? = some ws → H7 u = some (.lst (ws.map V.int))) ⟨[], same_upd nD, upd_same, rfl, fun u hu => absurd hu (by simp), List.nodup_nil, fun j u ws h => by cases h⟩ (fun i H7 _ ⟨_, s, _⟩ => lst_l (s _ _ (s1 _ _ hS))) ?_ ?_⟩
    · rintro i x H7 hi ⟨us, s7, hD, lu, nu0, nd, hu⟩
      have i1 : i < rs.length := by
        have := (List.getElem?_eq_some_iff.mp hi).1
        rw [List.length_map] at this
        exact this
      have h1 : rs[i]? = some rs[i] := List.getElem?_eq_getElem i1
      have h2 : rws[i]? = some rws[i] := List.getElem?_eq_getElem (by omega)
      rw [List.getElem?_map, h1] at hi
      cases hi
      have hr := s7 _ _ (s1 _ _ (row.2 i _ _ h1 h2))
      refine ⟨rfl, ?_⟩
      refine lc_yes ?_
      refine iteT ?_
      refine ⟨_, rfl, rs[i], _, rfl, .inl (lst_l hr), fun u nu => ?_⟩
      have ne : D ≠ u := ne_of_none hD nu
      refine ⟨_, (upd_ne ne).trans hD, ?_, us ++ [u], same_mut (s7.trans (same_upd nu)) nD, ?_, ?_, fun v hv => ?_, ?_, fun j v ws h hw => ?_⟩
      · rw [List.length_map]
        exact small1000 (by omega)
      · rw [upd_same, List.map_append]
        rfl
      · rw [List.length_append, lu]
        rfl
      · rcases List.mem_append.mp hv with h | h
        · exact nu0 v h
        · rw [List.mem_singleton.mp h]
          exact ⟨s7.free nu, Ne.symm ne⟩
      · refine List.nodup_append.mpr ⟨nd, by simp, fun v hv v2 h2 => ?_⟩
        rw [List.mem_singleton.mp h2]
        obtain ⟨j, hj⟩ := List.mem_iff_getElem?.mp hv
        have lt := (List.getElem?_eq_some_iff.mp hj).1
        exact ne_of_none (hu j v _ hj (List.getElem?_eq_getElem (by omega))) nu
      · by_cases hj : j < us.length
        · rw [List.getElem?_append_left hj] at h
          have hv := hu j v ws h hw
          rw [upd_ne (nu0 v (List.mem_of_getElem? h)).2, upd_ne (ne_of_none hv nu)]
          exact hv
        · rw [List.getElem?_append_right (by omega)] at h
          obtain ⟨k, hk⟩ : ∃ k, j - us.length = k := ⟨_, rfl⟩
          rw [hk] at h
          cases k with
          | zero =>
            have : j = i := by omega
            subst this
            cases h
            rw [h2] at hw
            cases hw
            rw [upd_ne (Ne.symm ne), upd_same]
          | succ k => cases h
    rintro H7 ⟨us, s7, hD, lu, nu0, nd, hu⟩
    rw [List.length_map] at lu
    have ht := s7 _ _ ht
    have s17 := s1.trans s7
    refine ⟨.ref t, rfl, t, _, _, _, rfl, rfl, tup_t ht, atI_nat (j := 3) rfl, L, _, rfl, .inl (lst_l (s17 _ _ hL)), fun L1 nL1 => ?_⟩
    have s8 := same_upd (o := .lst (ls.map V.int)) nL1
    have hF8 := s8 _ _ (s7 _ _ (upd_same (H := H) (a := F1) (o := .lst (fs.map V.int))))
    have hD8 := s8 _ _ hD
    have uH : ∀ u ∈ us, H u = none ∧ u ≠ F1 := fun u h => by
      have z := (nu0 u h).1
      have e : u ≠ F1 := fun k => by
        rw [k, upd_same] at z
        cases z
      rw [upd_ne e] at z
      exact ⟨z, e⟩
    have F1D : F1 ≠ D := ne_of_none (upd_same (H := H) (a := F1) (o := .lst (fs.map V.int))) nD
    have M : Mut H (upd H7 L1 (.lst (ls.map V.int))) F1 D L1 fs ls us rws n n (n + 1) n :=
      ⟨s17.trans s8, nF1, s1.free nD, s17.free nL1, fun u h => (uH u h).1, hF8, hD8, ⟨by omega, fun j u ws h1 h2 => s8 _ _ (hu j u ws h1 h2)⟩, upd_same, F1D, ne_of_none (s7 _ _ (upd_same (H := H) (a := F1) (o := .lst (fs.map V.int)))) nL1, ne_of_none hD nL1, fun u h => (uH u h).2, fun u h => (nu0 u h).2, fun u h => by
        obtain ⟨j, hj⟩ := List.mem_iff_getElem?.mp h
        have lt := (List.getElem?_eq_some_iff.mp hj).1
        exact ne_of_none (hu j u _ hj (List.getElem?_eq_getElem (by omega))) nL1, nd, lf, by omega, fun ws h => Nat.le_succ_of_le (lw ws h), ll⟩
    have sT := s17.trans s8
    have hS := sT _ _ hS
    have hL0 := sT _ _ hL
    have ht := s8 _ _ ht
    refine ⟨_, rfl, F1, _, rfl, .inl (lst_l hF8), ?_⟩
    rw [List.length_map]
    generalize upd H7 L1 (.lst (ls.map V.int)) = H8 at M hS hL0 ht ⊢
    have keep : ∀ {H9 : Hp} {F2 S2 L2 : Addr} {fs2 ls2 : List Int} {rs2 : List Addr} {rws2 : List (List Int)} {b2 d2 : Nat}, Mut H H9 F2 S2 L2 fs2 ls2 rs2 rws2 n b2 (n + 1) d2 → H9 t = some (.tup [.ref F, .int b, .ref S, .ref L]) ∧ H9 S = some (.lst (rs.map V.ref)) ∧ RowsAt H9 rs rws ∧ H9 L = some (.lst (ls.map V.int)) := fun m => ⟨m.s _ _ ht0, m.s _ _ hS0, row.same m.s, m.s _ _ hL00⟩
    refine ⟨SpI H t fault place much fs.length rs.length n n n, ?_, ?_⟩
    · refine ⟨_, rfl, rfl, _, rfl, ite2 (fun c => ⟨_, rfl, _, rfl, _, _, rfl, rfl, _, rfl, ite2 (fun c2 => ?_) (fun _ => ⟨F1, D, L1, fs, ls, b, us, rws, none, rfl, M, rfl, fun _ => lu⟩)⟩) (fun _ => ⟨F1, D, L1, fs, ls, b, us, rws, none, rfl, M, rfl, fun _ => lu⟩)⟩
      have c2 : (place : Int) < (fs.length : Int) := of_decide_eq_true c2
      refine ⟨_, rfl, much, rfl, _, rfl, _, rfl, F1, _, _, place, rfl, rfl, M.hF, ?_, ?_⟩
      · rw [List.length_map]
        exact ixn_at (by omega)
      refine ⟨F1, D, L1, fs.set place (-much), ls, b, us, rws, none, rfl, ?_, List.length_set, fun _ => lu⟩
      rw [set_ints]
      exact M.setF (by rw [List.length_set]; exact lf)
    rintro σ' H9 ⟨F1, D, L1, fs1, ls1, v, us, rws1, y, rfl, M, e1, x1⟩
    refine ⟨SpI H t fault place much fs.length rs.length n n n, ?_, ?_⟩
    · exact ⟨_, rfl, rfl, _, rfl, ite2 (fun c => ⟨_, rfl, much, rfl, ⟨F1, D, L1, fs1, ls1, -much, us, rws1, y, rfl, M, e1, x1⟩⟩) (fun _ => ⟨F1, D, L1, fs1, ls1, v, us, rws1, y, rfl, M, e1, x1⟩)⟩
    rintro σ' H9 ⟨F1, D, L1, fs1, ls1, v, us, rws1, y, rfl, M, e1, x1⟩
    refine ⟨SpI H t fault place much fs.length rs.length n n n, ?_, ?_⟩
    · refine ⟨_, rfl, rfl, _, rfl, ite2 (fun c => ⟨_, rfl, .inl ⟨much, rfl, _, _, rfl, rfl, (show (0 : Int) < 2 by decide), rfl, _, rfl, ite2 (fun c2 => ?_) (fun _ => ⟨F1, D, L1, fs1, ls1, v, us, rws1, y, rfl, M, e1, x1⟩)⟩⟩) (fun _ => ⟨F1, D, L1, fs1, ls1, v, us, rws1, y, rfl, M, e1, x1⟩)⟩
      have c : fault = 3 := V.int.inj (of_decide_eq_true c)
      refine ⟨_, rfl, 1, rfl, -1, rfl, D, _, rfl, lst_l M.hS, fun p np => ?_⟩
      refine ⟨F1, p, L1, fs1, ls1, v, us.dropLast, rws1.dropLast, y, rfl, ?_, e1, fun z => absurd c z⟩
      rw [cut_init, ← List.map_dropLast]
      exact M.cutS np
    rintro σ' H9 ⟨F1, D, L1, fs1, ls1, v, us, rws1, y, rfl, M, e1, x1⟩
    refine ⟨SpI H t fault place much fs.length rs.length n (n + 1) n, ?_, ?_⟩
    · obtain ⟨kt, kS, kr, kL⟩ := keep M
      refine ⟨_, rfl, rfl, _, rfl, ite2 (fun c => ⟨_, rfl, .inl ⟨much, rfl, _, _, rfl, rfl, (show (0 : Int) < 2 by decide), rfl, _, rfl, ite2 (fun c2 => ?_) (fun c2 => ⟨.ref t, rfl, t, _, _, _, rfl, rfl, tup_t kt, atI_nat (j := 2) rfl, S, _, rfl, .inl (lst_l kS), rfl, _, rfl, ite2 (fun c3 => ?_) (fun _ => ⟨F1, D, L1, fs1, ls1, v, us, rws1, y, rfl, M.mono (by omega) (by omega), e1, x1⟩)⟩)⟩⟩) (fun _ => ⟨F1, D, L1, fs1, ls1, v, us, rws1, y, rfl, M.mono (by omega) (by omega), e1, x1⟩)⟩
      · have c : fault = 3 := V.int.inj (of_decide_eq_true c)
        refine ⟨_, rfl, .inl ⟨rfl, _, lst_l M.hS⟩, _, rfl, F1, rfl, ⟨_, lst_l M.hF⟩, fun Z nZ => lc_list (K := K) (a := F1) (xs := fs1.map V.int) (fun i H2 => Same H9 H2 ∧ H2 Z = some (.lst ((List.replicate i (0 : Int)).map V.int))) ⟨same_upd nZ, upd_same⟩ (fun i H2 _ ⟨s, _⟩ => lst_l (s _ _ M.hF)) ?_ ?_⟩
        · rintro i x H2 hi ⟨s, hZ⟩
          have := (List.getElem?_eq_some_iff.mp hi).1
          rw [List.length_map] at this
          refine ⟨rfl, ?_⟩
          refine lc_yes ?_
          refine iteT ?_
          refine ⟨_, hZ, ?_, same_mut s nZ, ?_⟩
          · rw [List.length_map, List.length_replicate]
            exact small1000 (by have := M.lf; omega)
          · rw [upd_same, List.replicate_succ', ← snoc_int]
        · rintro H2 ⟨s, hZ⟩
          rw [List.length_map] at hZ
          have M2 := M.same s
          refine ⟨D, _, _, rfl, rfl, M2.hS, ?_, ?_⟩
          · rw [List.length_map]
            exact small1000 (by have := M.lr; omega)
          refine ⟨F1, D, L1, fs1, ls1, v, us ++ [Z], rws1 ++ [List.replicate fs1.length 0], y, rfl, ?_, e1, fun z => absurd c z⟩
          rw [show us.map V.ref ++ [V.ref Z] = (us ++ [Z]).map V.ref by rw [List.map_append]; rfl]
          exact (M2.app (M.free nZ) hZ (by rw [List.length_replicate]; have := M.lf; omega) (by have := M.lr; omega))
      · have c : fault = 3 := V.int.inj (of_decide_eq_true c)
        refine ⟨_, rfl, .inl ⟨rfl, _, lst_l M.hS⟩, _, rfl, F1, rfl, ⟨_, lst_l M.hF⟩, fun Z nZ => lc_list (K := K) (a := F1) (xs := fs1.map V.int) (fun i H2 => Same H9 H2 ∧ H2 Z = some (.lst ((List.replicate i (0 : Int)).map V.int))) ⟨same_upd nZ, upd_same⟩ (fun i H2 _ ⟨s, _⟩ => lst_l (s _ _ M.hF)) ?_ ?_⟩
        · rintro i x H2 hi ⟨s, hZ⟩
          have := (List.getElem?_eq_some_iff.mp hi).1
          rw [List.length_map] at this
          refine ⟨rfl, ?_⟩
          refine lc_yes ?_
          refine iteT ?_
          refine ⟨_, hZ, ?_, same_mut s nZ, ?_⟩
          · rw [List.length_map, List.length_replicate]
            exact small1000 (by have := M.lf; omega)
          · rw [upd_same, List.replicate_succ', ← snoc_int]
        · rintro H2 ⟨s, hZ⟩
          rw [List.length_map] at hZ
          have M2 := M.same s
          refine ⟨D, _, _, rfl, rfl, M2.hS, ?_, ?_⟩
          · rw [List.length_map]
            exact small1000 (by have := M.lr; omega)
          refine ⟨F1, D, L1, fs1, ls1, v, us ++ [Z], rws1 ++ [List.replicate fs1.length 0], y, rfl, ?_, e1, fun z => absurd c z⟩
          rw [show us.map V.ref ++ [V.ref Z] = (us ++ [Z]).map V.ref by rw [List.map_append]; rfl]
          exact (M2.app (M.free nZ) hZ (by rw [List.length_replicate]; have := M.lf; omega) (by have := M.lr; omega))
    rintro σ' H9 ⟨F1, D, L1, fs1, ls1, v, us, rws1, y, rfl, M, e1, x1⟩
    refine ⟨SpI H t fault place much fs.length rs.length n (n + 1) n, ?_, ?_⟩
    · obtain ⟨kt, kS, kr, kL⟩ := keep M
      refine ⟨_, rfl, rfl, _, rfl, ite2 (fun c => ⟨_, rfl, _, rfl, D, _, rfl, .inl (lst_l M.hS), _, _, rfl, rfl, _, rfl, ite2 (fun c2 => ?_) (fun _ => ⟨F1, D, L1, fs1, ls1, v, us, rws1, y, rfl, M, e1, x1⟩)⟩) (fun _ => ⟨F1, D, L1, fs1, ls1, v, us, rws1, y, rfl, M, e1, x1⟩)⟩
      have c : fault = 4 := V.int.inj (of_decide_eq_true c)
      have c2 := of_decide_eq_true c2
      rw [List.length_map] at c2
      have x2 := x1 (by omega)
      have rl2 := M.row.1
      have h1 : us[place]? = some us[place] := List.getElem?_eq_getElem (by omega)
      have h2 : rws1[place]? = some rws1[place] := List.getElem?_eq_getElem (by omega)
      have v1 : (us.map V.ref)[place]? = some (.ref us[place]) := by rw [List.getElem?_map, h1]; rfl
      have hr1 := M.row.2 _ _ _ h1 h2
      have lw1 := M.lw _ (List.mem_of_getElem? h2)
      refine ⟨_, rfl, _, rfl, D, _, _, _, rfl, rfl, lst_l M.hS, atI_nat v1, 1, rfl, -1, rfl, us[place], _, rfl, lst_l hr1, fun p np => ?_⟩
      rw [cut_init, ← List.map_dropLast]
      have sp := same_upd (o := .lst (rws1[place].dropLast.map V.int)) np
      have M2 := (M.same sp).put (i := place) (M.free np) upd_same (by rw [List.length_dropLast]; omega)
      refine ⟨_, rfl, _, rfl, D, _, _, place, rfl, rfl, (sp _ _ M.hS), ?_, ?_⟩
      · rw [List.length_map]
        exact ixn_at (by omega)
      rw [show (us.map V.ref).set place (V.ref p) = (us.set place p).map V.ref by rw [List.map_set]]
      obtain ⟨kt, kS, kr, kL⟩ := keep M2
      refine ⟨_, rfl, .inl ⟨much, rfl, _, _, rfl, rfl, (show (0 : Int) < 2 by decide), rfl, _, rfl, ite2 (fun c3 => ?_) (fun _ => ⟨F1, D, L1, fs1, ls1, v, _, _, y, rfl, M2, e1, fun z => by rw [List.length_set]; exact x1 z⟩)⟩⟩
      generalize upd (upd H9 p (.lst (rws1[place].dropLast.map V.int))) D (.lst ((us.set place p).map V.ref)) = H10 at M2 kt kS kr kL ⊢
      have g1 : rs[place]? = some rs[place] := List.getElem?_eq_getElem (by omega)
      have g2 : rws[place]? = some rws[place] := List.getElem?_eq_getElem (by omega)
      have v2 : (rs.map V.ref)[place]? = some (.ref rs[place]) := by rw [List.getElem?_map, g1]; rfl
      have hr2 := kr.2 _ _ _ g1 g2
      have lw2 := lw _ (List.mem_of_getElem? g2)
      refine ⟨.ref t, rfl, t, _, _, _, rfl, rfl, tup_t kt, atI_nat (j := 2) rfl, _, rfl, S, _, _, _, rfl, rfl, lst_l kS, atI_nat v2, rs[place], _, rfl, .inl (lst_l hr2), fun p1 n1 => ⟨small1000 (by decide), fun p2 n2 => ?_⟩⟩
      have q1 := same_upd (o := .lst (rws[place].map V.int)) n1
      have q2 := same_upd (o := .lst [V.int 0]) n2
      refine ⟨p1, p2, _, _, rfl, rfl, q2 _ _ upd_same, upd_same, ?_, fun p3 n3 => ?_⟩
      · rw [List.length_map]
        exact Nat.le_of_lt (small1000 (by show rws[place].length + 1 ≤ 1000; omega))
      rw [show rws[place].map V.int ++ [V.int 0] = (rws[place] ++ [0]).map V.int by rw [List.map_append]; rfl]
      have q3 := (q1.trans q2).trans (same_upd (o := .lst ((rws[place] ++ [0]).map V.int)) n3)
      have M3 := (M2.same q3).put (i := place) (M2.same (q1.trans q2) |>.free n3) upd_same (by rw [List.length_append]; show rws[place].length + 1 ≤ n + 1; omega)
      refine ⟨_, rfl, _, rfl, D, _, _, place, rfl, rfl, (q3 _ _ M2.hS), ?_, ?_⟩
      · rw [List.length_map, List.length_set]
        exact ixn_at (by omega)
      rw [show ((us.set place p).map V.ref).set place (V.ref p3) = ((us.set place p).set place p3).map V.ref by simp only [List.map_set]]
      exact ⟨F1, D, L1, fs1, ls1, v, _, _, y, rfl, M3, e1, fun z => by rw [List.length_set, List.length_set]; exact x1 z⟩
    rintro σ' H9 ⟨F1, D, L1, fs1, ls1, v, us, rws1, y, rfl, M, e1, x1⟩
    refine ⟨SpI H t fault place much fs.length rs.length n (n + 1) n, ?_, ?_⟩
    · refine ⟨_, rfl, rfl, _, rfl, ite2 (fun c => ⟨_, rfl, _, _, rfl, rfl, _, rfl, ite2 (fun c2 => ⟨_, rfl, _, rfl, D, _, rfl, .inl (lst_l M.hS), _, _, rfl, rfl, _, rfl, ite2 (fun c3 => ?_) (fun _ => ⟨F1, D, L1, fs1, ls1, v, us, rws1, y, rfl, M, e1, x1⟩)⟩) (fun _ => ⟨F1, D, L1, fs1, ls1, v, us, rws1, y, rfl, M, e1, x1⟩)⟩) (fun _ => ⟨F1, D, L1, fs1, ls1, v, us, rws1, y, rfl, M, e1, x1⟩)⟩
      have c2 : (fs.length : Int) > 1 := of_decide_eq_true c2
      have c3 := of_decide_eq_true c3
      rw [List.length_map] at c3
      have rl2 := M.row.1
      have h1 : us[place]? = some us[place] := List.getElem?_eq_getElem (by omega)
      have h2 : rws1[place]? = some rws1[place] := List.getElem?_eq_getElem (by omega)
      have v1 : (us.map V.ref)[place]? = some (.ref us[place]) := by rw [List.getElem?_map, h1]; rfl
      have hr1 := M.row.2 _ _ _ h1 h2
      have lw1 := M.lw _ (List.mem_of_getElem? h2)
      have j0 := Int.emod_nonneg ((place : Int) + 1) (show (fs.length : Int) ≠ 0 by omega)
      have j1 := Int.emod_lt_of_pos ((place : Int) + 1) (show (0 : Int) < (fs.length : Int) by omega)
      refine ⟨_, rfl, _, _, rfl, rfl, _, rfl, _, _, rfl, rfl, (show (0 : Int) < (fs.length : Int) by omega), _, rfl, _, rfl, D, _, _, _, rfl, rfl, lst_l M.hS, atI_nat v1, us[place], _, rfl, .inl (lst_l hr1), _, _, rfl, rfl, _, rfl, ite2 (fun c4 => ?_) (fun _ => ⟨F1, D, L1, fs1, ls1, v, us, rws1, y, rfl, M, e1, x1⟩)⟩
      have c4 := of_decide_eq_true c4
      rw [List.length_map] at c4
      refine ⟨_, rfl, _, rfl, D, _, _, _, rfl, rfl, lst_l M.hS, atI_nat v1, ?_⟩
      obtain ⟨j, hj⟩ : ∃ j : Nat, ((place : Int) + 1) % (fs.length : Int) = (j : Int) := ⟨(((place : Int) + 1) % (fs.length : Int)).toNat, by omega⟩
      refine ⟨1, rfl, _, rfl, _, _, rfl, rfl, _, rfl, _, rfl, _, _, rfl, rfl, _, rfl, _, _, rfl, rfl, (show (0 : Int) < (fs.length : Int) by omega), us[place], _, _, j, rfl, rfl, hr1, ?_, ?_⟩
      · rw [List.length_map, hj]
        exact ixn_at (by omega)
      · rw [set_ints]
        exact ⟨F1, D, L1, fs1, ls1, v, us, _, _, rfl, M.setRow h1 (by rw [List.length_set]; exact lw1), e1, x1⟩
    rintro σ' H9 ⟨F1, D, L1, fs1, ls1, v, us, rws1, y, rfl, M, e1, x1⟩
    refine ⟨SpI H t fault place much fs.length rs.length n (n + 1) n, ?_, ?_⟩
    · refine ⟨_, rfl, rfl, _, rfl, ite2 (fun c => ⟨_, rfl, _, rfl, D, _, rfl, .inl (lst_l M.hS), _, _, rfl, rfl, _, rfl, ite2 (fun c3 => ?_) (fun _ => ⟨F1, D, L1, fs1, ls1, v, us, rws1, y, rfl, M, e1, x1⟩)⟩) (fun _ => ⟨F1, D, L1, fs1, ls1, v, us, rws1, y, rfl, M, e1, x1⟩)⟩
      have c3 := of_decide_eq_true c3
      rw [List.length_map] at c3
      have rl2 := M.row.1
      have h1 : us[place]? = some us[place] := List.getElem?_eq_getElem (by omega)
      have h2 : rws1[place]? = some rws1[place] := List.getElem?_eq_getElem (by omega)
      have v1 : (us.map V.ref)[place]? = some (.ref us[place]) := by rw [List.getElem?_map, h1]; rfl
      have hr1 := M.row.2 _ _ _ h1 h2
      have lw1 := M.lw _ (List.mem_of_getElem? h2)
      refine ⟨_, rfl, _, rfl, _, rfl, D, _, _, _, rfl, rfl, lst_l M.hS, atI_nat v1, us[place], _, rfl, .inl (lst_l hr1), _, _, rfl, rfl, _, rfl, ite2 (fun c4 => ?_) (fun _ => ⟨F1, D, L1, fs1, ls1, v, us, rws1, y, rfl, M, e1, x1⟩)⟩
      have c4 := of_decide_eq_true c4
      rw [List.length_map] at c4
      refine ⟨_, rfl, _, rfl, D, _, _, _, rfl, rfl, lst_l M.hS, atI_nat v1, ?_⟩
      refine ⟨_, rfl, _, _, rfl, rfl, _, rfl, _, rfl, us[place], _, _, place, rfl, rfl, hr1, ?_, ?_⟩
      · rw [List.length_map]
        exact ixn_at (by omega)
      · rw [set_ints]
        exact ⟨F1, D, L1, fs1, ls1, v, us, _, _, rfl, M.setRow h1 (by rw [List.length_set]; exact lw1), e1, x1⟩
    rintro σ' H9 ⟨F1, D, L1, fs1, ls1, v, us, rws1, y, rfl, M, e1, x1⟩
    refine ⟨SpI H t fault place much fs.length rs.length n (n + 1) n, ?_, ?_⟩
    · refine ⟨_, rfl, rfl, _, rfl, ite2 (fun c => ⟨_, rfl, .inl ⟨much, rfl, _, _, rfl, rfl, (show (0 : Int) < 2 by decide), rfl, _, rfl, ite2 (fun c2 => ?_) (fun _ => ⟨F1, D, L1, fs1, ls1, v, us, rws1, y, rfl, M, e1, x1⟩)⟩⟩) (fun _ => ⟨F1, D, L1, fs1, ls1, v, us, rws1, y, rfl, M, e1, x1⟩)⟩
      refine ⟨_, rfl, 1, rfl, -1, rfl, L1, _, rfl, lst_l M.hL, fun p np => ?_⟩
      refine ⟨F1, D, p, fs1, ls1.dropLast, v, us, rws1, y, rfl, ?_, e1, x1⟩
      rw [cut_init, ← List.map_dropLast]
      exact M.cutL np
    rintro σ' H9 ⟨F1, D, L1, fs1, ls1, v, us, rws1, y, rfl, M, e1, x1⟩
    refine ⟨SpI H t fault place much fs.length rs.length n (n + 1) (n + 1), ?_, ?_⟩
    · obtain ⟨kt, kS, kr, kL⟩ := keep M
      refine ⟨_, rfl, rfl, _, rfl, ite2 (fun c => ⟨_, rfl, .inl ⟨much, rfl, _, _, rfl, rfl, (show (0 : Int) < 2 by decide), rfl, _, rfl, ite2 (fun c2 => ?_) (fun c2 => ⟨.ref t, rfl, t, _, _, _, rfl, rfl, tup_t kt, atI_nat (j := 3) rfl, L, _, rfl, .inl (lst_l kL), rfl, _, rfl, ite2 (fun c3 => ?_) (fun _ => ⟨F1, D, L1, fs1, ls1, v, us, rws1, y, rfl, M.mono (by omega) (by omega), e1, x1⟩)⟩)⟩⟩) (fun _ => ⟨F1, D, L1, fs1, ls1, v, us, rws1, y, rfl, M.mono (by omega) (by omega), e1, x1⟩)⟩
      · refine ⟨_, rfl, .inl ⟨rfl, _, lst_l M.hL⟩, L1, _, _, rfl, rfl, M.hL, ?_, ?_⟩
        · rw [List.length_map]
          exact small1000 (by have := M.ll; omega)
        refine ⟨F1, D, L1, fs1, ls1 ++ [1], v, us, rws1, y, rfl, ?_, e1, x1⟩
        rw [snoc_int]
        exact M.setL (by rw [List.length_append]; exact Nat.succ_le_succ M.ll)
      · refine ⟨_, rfl, .inl ⟨rfl, _, lst_l M.hL⟩, L1, _, _, rfl, rfl, M.hL, ?_, ?_⟩
        · rw [List.length_map]
          exact small1000 (by have := M.ll; omega)
        refine ⟨F1, D, L1, fs1, ls1 ++ [1], v, us, rws1, y, rfl, ?_, e1, x1⟩
        rw [snoc_int]
        exact M.setL (by rw [List.length_append]; exact Nat.succ_le_succ M.ll)
    rintro σ' H9 ⟨F1, D, L1, fs1, ls1, v, us, rws1, y, rfl, M, e1, x1⟩
    refine ⟨SpI H t fault place much fs.length rs.length n (n + 1) (n + 1), ?_, ?_⟩
    · refine ⟨_, rfl, rfl, _, rfl, ite2 (fun c => ⟨_, rfl, _, rfl, L1, _, rfl, .inl (lst_l M.hL), _, _, rfl, rfl, _, rfl, ite2 (fun c2 => ?_) (fun _ => ⟨F1, D, L1, fs1, ls1, v, us, rws1, y, rfl, M, e1, x1⟩)⟩) (fun _ => ⟨F1, D, L1, fs1, ls1, v, us, rws1, y, rfl, M, e1, x1⟩)⟩
      have c2 := of_decide_eq_true c2
      rw [List.length_map] at c2
      refine ⟨_, rfl, much, rfl, _, rfl, _, rfl, L1, _, _, place, rfl, rfl, M.hL, ?_, ?_⟩
      · rw [List.length_map]
        exact ixn_at (by omega)
      rw [set_ints]
      exact ⟨F1, D, L1, fs1, _, v, us, rws1, y, rfl, M.setL (by rw [List.length_set]; exact M.ll), e1, x1⟩
    rintro σ' H9 ⟨F1, D, L1, fs1, ls1, v, us, rws1, y, rfl, M, e1, x1⟩
    exact ⟨_, rfl, _, rfl, _, rfl, _, rfl, (by show 4 ≤ sizeLine; decide), fun u nu => q _ u F1 D L1 fs1 ls1 v us rws1 ((M.same (same_upd nu)).s) ⟨upd_same, (M.same (same_upd nu)).hF, (M.same (same_upd nu)).hS, (M.same (same_upd nu)).row, (M.same (same_upd nu)).hL⟩ M.lf M.ll M.lr M.lw⟩
def sp__law_answered : Sp := fun vs H Q _ => ∃ (t F S L : Addr) (fs ls : List Int) (b : Int) (rs : List Addr) (rws : List (List Int)) (n : Nat), vs = [.ref t] ∧ QAt H t F S L fs ls b rs rws ∧ fs.length ≤ n ∧ ls.length ≤ n ∧ rs.length ≤ n ∧ (∀ ws ∈ rws, ws.length ≤ n) ∧ n ≤ 100 ∧ ∀ H', Same H H' → Q (.bl true) H' 
theorem ok__law_answered {f : Addr} {fd : FuncData} {C_Stepping C_BadNumber C_TooMany C_BadLot C_BadTable C_Unlike C_ShelfError : Addr} (F : Fun K "_law_answered" "_law_answered" s__law_answered f fd) (T : Txt K mg C_Stepping C_BadNumber C_TooMany C_BadLot C_BadTable C_Unlike C_ShelfError) (m_isinstance : mg "isinstance" = none) (m_len : mg "len" = none) (m_list : mg "list" = none) (m_range : mg "range" = none) (m_str : mg "str" = none) (c__law_due : Cal P w K mg base CX0 1 "_law_due" ["_law_first", "_law_aside", "_law_steps", "_law_leaves"] sp__law_due) (c__law_tried : Cal P w K mg base CX0 7 "_law_tried" ["_law_first", "_law_aside", "_law_steps", "_law_leaves"] (sp__law_tried C_Stepping)) (c__law_keeps : Cal P w K mg base CX0 3 "_law_keeps" ["_law_chain", "_law_question"] (sp__law_keeps C_Stepping)) (c__law_classes : Cal P w K mg base CX0 7 "_law_classes" ["_law_first", "_law_aside", "_law_steps", "_law_leaves"] sp__law_classes) (c__law_is_int : Cal P w K mg base CX0 1 "_law_is_int" ["_law_x"] sp__law_is_int) : FnOk P w K mg base CX0 8 f fd ["_law_question"] sp__law_answered := by
  refine F.ok sc__law_answered (fun vs H Q E h => ?_) (fun cdv A outer s H vs Q E hr h => ?_)
  · obtain ⟨t, F, S, L, fs, ls, b, rs, rws, n, rfl, _⟩ := h
    rfl
  · obtain ⟨t, F, S, L, fs, ls, b, rs, rws, n, rfl, ⟨ht, hF, hS, row, hL⟩, lf, ll, lr, lw, n8, q⟩ := h
    obtain ⟨f__law_due, fd__law_due, G__law_due, m__law_due, k__law_due, b__law_due⟩ := c__law_due
    obtain ⟨f__law_tried, fd__law_tried, G__law_tried, m__law_tried, k__law_tried, b__law_tried⟩ := c__law_tried
    obtain ⟨f__law_keeps, fd__law_keeps, G__law_keeps, m__law_keeps, k__law_keeps, b__law_keeps⟩ := c__law_keeps
    obtain ⟨f__law_classes, fd__law_classes, G__law_classes, m__law_classes, k__law_classes, b__law_classes⟩ := c__law_classes
    obtain ⟨f__law_is_int, fd__law_is_int, G__law_is_int, m__law_is_int, k__law_is_int, b__law_is_int⟩ := c__law_is_int
    refine ⟨_, (pss_cons (ps_set (i := 1) sc__law_answered.nd rfl (Or.inl rfl) (pe_call G__law_due (hr.mono (by decide)) (by rfl) m__law_due k__law_due b__law_due .nil pass0 (pa_cons (pe_ix ix_tup (pv 0) pe_int (fun _ _ => rfl)) (pa_cons (pe_ix ix_tup (pv 0) pe_int (fun _ _ => rfl)) (pa_cons (pe_ix ix_tup (pv 0) pe_int (fun _ _ => rfl)) (pa_cons (pe_ix ix_tup (pv 0) pe_int (fun _ _ => rfl)) pa_nil))))))
      (pss_cons (ps_set (i := 2) sc__law_answered.nd rfl (Or.inl rfl) (pe_callTy call_list_of (by rfl) m_list (by decide +kernel) (pa_cons (pe_ix ix_tup (pv 0) pe_int (fun _ _ => rfl)) pa_nil)))
      (pss_cons (ps_setLc (i := 4) (own := [("_law_row", 3)]) (g := (gName 3)) (tt := tYes) rfl sc__law_answered.nd rfl rfl (sw_true rfl rfl rfl (by decide +kernel)) (pi_list (pe_ix ix_tup (pv 0) pe_int (fun _ _ => rfl))) (blkOk_by (own := [("_law_row", 3)]) (N := ["_law_question", "_law_due_here", "_law_first", "_law_row", "_law_steps", "_law_leaves", "_law_answer", "_law_k", "_law_classes_here"]) (sc := defScope s__law_answered) (by decide +kernel)) (fun _ _ _ _ _ => (pg_name (i := 3) sc__law_answered.nd rfl (Or.inl rfl))) (fun _ _ _ _ _ => pts_nil) (fun _ _ _ _ _ => (pe_callTy (T := "list") (r := rListOf K) call_list_of (by rfl) m_list (by decide +kernel) (pa_cons (pv 3) pa_nil))))
      (pss_cons (ps_set (i := 5) sc__law_answered.nd rfl (Or.inl rfl) (pe_callTy call_list_of (by rfl) m_list (by decide +kernel) (pa_cons (pe_ix ix_tup (pv 0) pe_int (fun _ _ => rfl)) pa_nil)))
      (pss_cons (ps_set (i := 6) sc__law_answered.nd rfl (Or.inl rfl) (pe_call G__law_tried (hr.mono (by decide)) (by rfl) m__law_tried k__law_tried b__law_tried .nil pass0 (pa_cons (pv 2) (pa_cons (pe_ix ix_tup (pv 0) pe_int (fun _ _ => rfl)) (pa_cons (pv 4) (pa_cons (pv 5) pa_nil))))))
      (pss_cons (ps_if (PW.pt (pw_or (pt_cmpR (op_neD hr.units) (pv 2) (pe_ix ix_tup (pv 0) pe_int (fun _ _ => rfl)) (nomark _)) (pw_or (pt_cmpR (op_neD hr.units) (pv 4) (pe_ix ix_tup (pv 0) pe_int (fun _ _ => rfl)) (nomark _)) (pw_or1 (pt_cmpR (op_neD hr.units) (pv 5) (pe_ix ix_tup (pv 0) pe_int (fun _ _ => rfl)) (nomark _)))))) (pss_one (ps_ret pe_bl)) pss_nil)
      (pss_cons (ps_if (PW.pt (pw_or (pt_cmpR op_ne (pe_callB call_len_seq (by rfl) m_len (by decide +kernel) (pa_cons (pv 6) pa_nil)) (pe_callB call_len_seq (by rfl) m_len (by decide +kernel) (pa_cons (pv 1) pa_nil)) (nomark _)) (pw_or1 (pt_cmpR op_ne (pe_ix ix_tup (pv 6) pe_int (fun _ _ => rfl)) (pe_ix ix_tup (pv 1) pe_int (fun _ _ => rfl)) (nomark _))))) (pss_one (ps_ret pe_bl)) pss_nil)
      (pss_cons (ps_if (pt_cmpR op_eq (pe_ix ix_tup (pv 1) pe_int (fun _ _ => rfl)) pe_str (nomark _)) (pss_cons (ps_if (pt_not (pt_val (pe_call G__law_keeps (hr.mono (by decide)) (by rfl) m__law_keeps k__law_keeps b__law_keeps .nil pass0 (pa_cons (pe_ix ix_tup (pv 6) pe_int (fun _ _ => rfl)) (pa_cons (pv 0) pa_nil))))) (pss_one (ps_ret pe_bl)) pss_nil)
      (pss_cons (ps_for PassesOwn.never rfl (pi_range1 (by rfl) m_range (pa_cons (pe_callB call_len_seq (by rfl) m_len (by decide +kernel) (pa_cons (pv 4) pa_nil)) pa_nil)) (pg_name (i := 7) sc__law_answered.nd rfl (Or.inl rfl))
      (pss_cons (ps_set (i := 3) sc__law_answered.nd rfl (Or.inl rfl) (pe_ix ix_list (pv 4) (pv 7) (fun _ _ => rfl)))
      (pss_cons (ps_asg pe_int (pg_sub (pv 3) (pv 7) set_list))
      (pss_cons (ps_asg (pe_op op_add (pe_ix ix_list (pv 2) (pv 7) (fun _ _ => rfl)) pe_int) (pg_sub (pv 2) (pv 7) set_list))
      (pss_one (ps_asg (pe_op op_add (pe_ix ix_list (pv 5) (pv 7) (fun _ _ => rfl)) pe_int) (pg_sub (pv 5) (pv 7) set_list)))))))
      (pss_cons (ps_expr (pe_bm PySem.F.plainAttrs_list PySem.F.slot_list_append PySem.F.type_list_append mt_append (pv 2) (pa_cons pe_int pa_nil)))
      (pss_cons (ps_expr (pe_bm PySem.F.plainAttrs_list PySem.F.slot_list_append PySem.F.type_list_append mt_append (pv 4) (pa_cons (pe_lst (pa_cons pe_int pa_nil)) pa_nil)))
      (pss_cons (ps_expr (pe_bm PySem.F.plainAttrs_list PySem.F.slot_list_append PySem.F.type_list_append mt_append (pv 5) (pa_cons pe_int pa_nil)))
      (pss_one (ps_ret (pe_call G__law_keeps (hr.mono (by decide)) (by rfl) m__law_keeps k__law_keeps b__law_keeps .nil pass0 (pa_cons (pe_ix ix_tup (pv 6) pe_int (fun _ _ => rfl)) (pa_cons (pv 0) pa_nil)))))))))) pss_nil)
      (pss_cons (ps_set (i := 8) sc__law_answered.nd rfl (Or.inl rfl) (pe_call G__law_classes (hr.mono (by decide)) (by rfl) m__law_classes k__law_classes b__law_classes .nil pass0 (pa_cons (pv 2) (pa_cons (pe_ix ix_tup (pv 0) pe_int (fun _ _ => rfl)) (pa_cons (pv 4) (pa_cons (pv 5) pa_nil))))))
      (pss_cons (ps_if (pt_cmpR op_eq (pe_ix ix_tup (pv 1) pe_int (fun _ _ => rfl)) pe_str (nomark _)) (pss_cons (ps_if (pt_cmpR (op_neD hr.units) (pv 8) (pe_lst (pa_cons pe_bl (pa_cons pe_bl (pa_cons pe_bl (pa_cons pe_bl (pa_cons pe_bl (pa_cons pe_bl pa_nil))))))) (nomark _)) (pss_one (ps_ret pe_bl)) pss_nil)
      (pss_one (ps_ret (pe_and (pe_call G__law_is_int (hr.mono (by decide)) (by rfl) m__law_is_int k__law_is_int b__law_is_int .nil pass0 (pa_cons (pe_ix ix_tup (pv 6) pe_int (fun _ _ => rfl)) pa_nil)) (pe_and (pe_cmpR op_eq (pe_ix ix_tup (pv 6) pe_int (fun _ _ => rfl)) (pe_ix ix_tup (pv 1) pe_int (fun _ _ => rfl)) (nomark _)) (pe_and (pe_call G__law_is_int (hr.mono (by decide)) (by rfl) m__law_is_int k__law_is_int b__law_is_int .nil pass0 (pa_cons (pe_ix ix_tup (pv 6) pe_int (fun _ _ => rfl)) pa_nil)) (pe_one (pe_cmpR op_eq (pe_ix ix_tup (pv 6) pe_int (fun _ _ => rfl)) (pe_ix ix_tup (pv 1) pe_int (fun _ _ => rfl)) (nomark _))))))))) pss_nil)
      (pss_cons (ps_if (pt_cmpR (op_neD hr.units) (pv 8) (pe_lst (pa_cons pe_bl (pa_cons pe_bl (pa_cons pe_bl (pa_cons pe_bl (pa_cons pe_bl (pa_cons pe_bl pa_nil))))))) (nomark _)) (pss_one (ps_ret pe_bl)) pss_nil)
      (pss_cons (ps_if (PW.pt (pw_or (pt_not (pt_val (pe_callB call_isi (by rfl) m_isinstance (by decide +kernel) (pa_cons (pe_ix ix_tup (pv 6) pe_int (fun _ _ => rfl)) (pa_cons (pe_bltn (v := .ty "str") (by rfl) m_str (by decide +kernel) rfl) pa_nil))))) (pw_or1 (pt_cmpR op_ne (pe_ix ix_tup (pv 6) pe_int (fun _ _ => rfl)) (pe_ix ix_tup (pv 1) pe_int (fun _ _ => rfl)) (nomark _))))) (pss_one (ps_ret pe_bl)) pss_nil)
      (pss_cons (ps_if (pt_cmpR op_isN (pe_ix ix_tup (pv 1) pe_int (fun _ _ => rfl)) pe_non (nomark _)) (pss_one (ps_ret (pe_cmpR op_isN (pe_ix ix_tup (pv 6) pe_int (fun _ _ => rfl)) pe_non (nomark _)))) pss_nil)
      (pss_one (ps_ret (pe_and (pe_call G__law_is_int (hr.mono (by decide)) (by rfl) m__law_is_int k__law_is_int b__law_is_int .nil pass0 (pa_cons (pe_ix ix_tup (pv 6) pe_int (fun _ _ => rfl)) pa_nil)) (pe_one (pe_cmpR op_eq (pe_ix ix_tup (pv 6) pe_int (fun _ _ => rfl)) (pe_ix ix_tup (pv 1) pe_int (fun _ _ => rfl)) (nomark _))))))))))))))))))), ?_⟩
    refine ⟨.ref t, rfl, t, _, _, _, rfl, rfl, tup_t ht, atI_nat (j := 0) rfl, .ref t, rfl, t, _, _, _, rfl, rfl, tup_t ht, atI_nat (j := 1) rfl, .ref t, rfl, t, _, _, _, rfl, rfl, tup_t ht, atI_nat (j := 2) rfl, .ref t, rfl, t, _, _, _, rfl, rfl, tup_t ht, atI_nat (j := 3) rfl, F, S, L, fs, ls, b, rs, rws, rfl, hF, hS, row, hL, by omega, fun H0 w s0 hw => ?_⟩
    have ht := s0 _ _ ht
    have hF := s0 _ _ hF
    have hS := s0 _ _ hS
    have hL := s0 _ _ hL
    have row := row.same s0
    have hF0 := hF
    have ht0 := ht
    have hS0 := hS
    have hL00 := hL
    have rl := row.1
    refine ⟨.ref t, rfl, t, _, _, _, rfl, rfl, tup_t ht, atI_nat (j := 0) rfl, F, _, rfl, .inl (lst_l hF), fun F1 nF1 => ?_⟩
    have s1 := same_upd (o := .lst (fs.map V.int)) nF1
    have ht := s1 _ _ ht
    refine ⟨.ref t, rfl, t, _, _, _, rfl, rfl, tup_t ht, atI_nat (j := 2) rfl, S, rfl, ⟨_, lst_l (s1 _ _ hS)⟩, fun D nD => lc_list (K := K) (a := S) (xs := rs.map V.ref) (fun i H7 => ∃ us : List Addr, Same (upd H0 F1 (.lst (fs.map V.int))) H7 ∧ H7 D = some (.lst (us.map V.ref)) ∧ us.length = i ∧ (∀ u ∈ us, (upd H0 F1 (.lst (fs.map V.int))) u = none ∧ u ≠ D) ∧ us.Nodup ∧ ∀ (j : Nat) (u : Addr) (ws : List Int), us[j]? = some u → rws[j]? = some ws → H7 u = some (.lst (ws.map V.int))) ⟨[], same_upd nD, upd_same, rfl, fun u hu => absurd hu (by simp), List.nodup_nil, fun j u ws h => by cases h⟩ (fun i H7 _ ⟨_, s, _⟩ => lst_l (s _ _ (s1 _ _ hS))) ?_ ?_⟩
    · rintro i x H7 hi ⟨us, s7, hD, lu, nu0, nd, hu⟩
      have i1 : i < rs.length := by
        have := (List.getElem?_eq_some_iff.mp hi).1
        rw [List.length_map] at this
        exact this
      have h1 : rs[i]? = some rs[i] := List.getElem?_eq_getElem i1
      have h2 : rws[i]? = some rws[i] := List.getElem?_eq_getElem (by omega)
      rw [List.getElem?_map, h1] at hi
      cases hi
      have hr := s7 _ _ (s1 _ _ (row.2 i _ _ h1 h2))
      refine ⟨rfl, ?_⟩
      refine lc_yes ?_
      refine iteT ?_
      refine ⟨_, rfl, rs[i], _, rfl, .inl (lst_l hr), fun u nu => ?_⟩
      have ne : D ≠ u := ne_of_none hD nu
      refine ⟨_, (upd_ne ne).trans hD, ?_, us ++ [u], same_mut (s7.trans (same_upd nu)) nD, ?_, ?_, fun v hv => ?_, ?_, fun j v ws h hw => ?_⟩
      · rw [List.length_map]
        exact small1000 (by omega)
      · rw [upd_same, List.map_append]
        rfl
      · rw [List.length_append, lu]
        rfl
      · rcases List.mem_append.mp hv with h | h
        · exact nu0 v h
        · rw [List.mem_singleton.mp h]
          exact ⟨s7.free nu, Ne.symm ne⟩
      · refine List.nodup_append.mpr ⟨nd, by simp, fun v hv v2 h2 => ?_⟩
        rw [List.mem_singleton.mp h2]
        obtain ⟨j, hj⟩ := List.mem_iff_getElem?.mp hv
        have lt := (List.getElem?_eq_some_iff.mp hj).1
        exact ne_of_none (hu j v _ hj (List.getElem?_eq_getElem (by omega))) nu
      · by_cases hj : j < us.length
        · rw [List.getElem?_append_left hj] at h
          have hv := hu j v ws h hw
          rw [upd_ne (nu0 v (List.mem_of_getElem? h)).2, upd_ne (ne_of_none hv nu)]
          exact hv
        · rw [List.getElem?_append_right (by omega)] at h
          obtain ⟨k, hk⟩ : ∃ k, j - us.length = k := ⟨_, rfl⟩
          rw [hk] at h
          cases k with
          | zero =>
            have : j = i := by omega
            subst this
            cases h
            rw [h2] at hw
            cases hw
            rw [upd_ne (Ne.symm ne), upd_same]
          | succ k => cases h
    rintro H7 ⟨us, s7, hD, lu, nu0, nd, hu⟩
    rw [List.length_map] at lu
    have ht := s7 _ _ ht
    have s17 := s1.trans s7
    refine ⟨.ref t, rfl, t, _, _, _, rfl, rfl, tup_t ht, atI_nat (j := 3) rfl, L, _, rfl, .inl (lst_l (s17 _ _ hL)), fun L1 nL1 => ?_⟩
    have s8 := same_upd (o := .lst (ls.map V.int)) nL1
    have hF8 := s8 _ _ (s7 _ _ (upd_same (H := H0) (a := F1) (o := .lst (fs.map V.int))))
    have hD8 := s8 _ _ hD
    have uH : ∀ u ∈ us, H0 u = none ∧ u ≠ F1 := fun u h => by
      have z := (nu0 u h).1
      have e : u ≠ F1 := fun k => by
        rw [k, upd_same] at z
        cases z
      rw [upd_ne e] at z
      exact ⟨z, e⟩
    have F1D : F1 ≠ D := ne_of_none (upd_same (H := H0) (a := F1) (o := .lst (fs.map V.int))) nD
    have M : Mut H0 (upd H7 L1 (.lst (ls.map V.int))) F1 D L1 fs ls us rws n n (n + 1) n :=
      ⟨s17.trans s8, nF1, s1.free nD, s17.free nL1, fun u h => (uH u h).1, hF8, hD8, ⟨by omega, fun j u ws h1 h2 => s8 _ _ (hu j u ws h1 h2)⟩, upd_same, F1D, ne_of_none (s7 _ _ (upd_same (H := H0) (a := F1) (o := .lst (fs.map V.int)))) nL1, ne_of_none hD nL1, fun u h => (uH u h).2, fun u h => (nu0 u h).2, fun u h => by
        obtain ⟨j, hj⟩ := List.mem_iff_getElem?.mp h
        have lt := (List.getElem?_eq_some_iff.mp hj).1
        exact ne_of_none (hu j u _ hj (List.getElem?_eq_getElem (by omega))) nL1, nd, lf, by omega, fun ws h => Nat.le_succ_of_le (lw ws h), ll⟩
    have sT := s17.trans s8
    have hS := sT _ _ hS
    have hL0 := sT _ _ hL
    have ht := s8 _ _ ht
    generalize upd H7 L1 (.lst (ls.map V.int)) = H8 at M hS hL0 ht ⊢
    refine ⟨_, rfl, .ref t, rfl, t, _, _, _, rfl, rfl, tup_t ht, atI_nat (j := 1) rfl, _, rfl, _, rfl, F1, D, L1, fs, ls, b, us, rws, rfl, M.hF, M.hS, M.row, M.hL, by omega, by omega, by omega, fun no H9 u s9 hu => ?_, fun mk H9 u x s9 hu sx => ?_⟩
    · have M9 := M.same s9
      have s09 := M9.s
      have ht9 := s09 _ _ ht0
      have hF9 := s09 _ _ hF0
      have hS9 := s09 _ _ hS0
      have hL9 := s09 _ _ hL00
      have row9 := row.same s09
      have hw9 := s09 _ _ hw
      refine ⟨_, rfl, .ref t, rfl, t, _, _, _, rfl, rfl, tup_t ht9, atI_nat (j := 0) rfl, _, _, dp_ints (lst_l M9.hF), dp_ints (lst_l hF9), sh_ints _, sh_ints _, false, ?_, iteF ⟨_, rfl, .ref t, rfl, t, _, _, _, rfl, rfl, tup_t ht9, atI_nat (j := 2) rfl, _, _, .lst (lst_l M9.hS) (dp_all M9.row), .lst (lst_l hS9) (dp_all row9), sh_rows _, sh_rows _, false, ?_, iteF ⟨_, rfl, .ref t, rfl, t, _, _, _, rfl, rfl, tup_t ht9, atI_nat (j := 3) rfl, _, _, dp_ints (lst_l M9.hL), dp_ints (lst_l hL9), sh_ints _, sh_ints _, false, ?_, iteF ?_⟩⟩⟩
      · rw [SeqAt.eqv_refl _ (SeqAt.canLay_of_shaped (sh_ints _))]
        rfl
      · rw [SeqAt.eqv_refl _ (SeqAt.canLay_of_shaped (sh_rows _))]
        rfl
      · rw [SeqAt.eqv_refl _ (SeqAt.canLay_of_shaped (sh_ints _))]
        rfl
      have q := fun H' (z : Same H9 H') => q H' (s0.trans (s09.trans z))
      cases hd : dueS fs b rws ls with
      | made => exact absurd hd no
      | many k =>
        rw [hd] at hu hw9
        refine ⟨_, rfl, u, _, rfl, .inr (tup_t hu), _, rfl, w, _, rfl, .inr (tup_t hw9), rfl, _, rfl, iteNS rfl ?_⟩
        refine ⟨.ref u, rfl, u, _, _, _, rfl, rfl, tup_t hu, atI_nat (j := 0) rfl, .ref w, rfl, w, _, _, _, rfl, rfl, tup_t hw9, atI_nat (j := 0) rfl, rfl, _, rfl, iteNS rfl ?_⟩
        refine ⟨.ref w, rfl, w, _, _, _, rfl, rfl, tup_t hw9, atI_nat (j := 0) rfl, rfl, _, rfl, iteDF (fun z => by cases z) ?_⟩
        refine ⟨_, rfl, .ref t, rfl, t, _, _, _, rfl, rfl, tup_t ht9, atI_nat (j := 1) rfl, _, rfl, _, rfl, F1, D, L1, fs, ls, b, us, rws, rfl, M9.hF, M9.hS, M9.row, M9.hL, by omega, by omega, by omega, fun k2 e H10 z s10 hz => ?_, fun w2 y2 e => ?_, fun z => by rw [hd] at z; cases z⟩
        rotate_left
        · rw [hd] at e
          cases e
        have hu := s10 _ _ hu
        have hw9 := s10 _ _ hw9
        refine ⟨.ref w, rfl, w, _, _, _, rfl, rfl, tup_t hw9, atI_nat (j := 0) rfl, rfl, _, rfl, iteD rfl ?_⟩
        refine ⟨_, rfl, (by show 6 ≤ sizeLine; decide), fun p np => ⟨_, _, dp_6 (same_upd np _ _ hz), dp_6 upd_same, sh_6 .., sh_6 .., false, rfl, iteF ?_⟩⟩
        have hu := same_upd (o := .lst [.bl true, .bl false, .bl true, .bl false, .bl false, .bl false]) np _ _ hu
        have hw9 := same_upd (o := .lst [.bl true, .bl false, .bl true, .bl false, .bl false, .bl false]) np _ _ hw9
        refine ⟨.ref u, rfl, u, _, _, _, rfl, rfl, tup_t hu, atI_nat (j := 1) rfl, k, rfl, true, rfl, iteT ?_⟩
        refine ⟨.ref u, rfl, u, _, _, _, rfl, rfl, tup_t hu, atI_nat (j := 1) rfl, .ref w, rfl, w, _, _, _, rfl, rfl, tup_t hw9, atI_nat (j := 1) rfl, rfl, _, rfl, iteD rfl ?_⟩
        refine ⟨.ref u, rfl, u, _, _, _, rfl, rfl, tup_t hu, atI_nat (j := 2) rfl, 8, rfl, true, rfl, iteT ?_⟩
        exact ⟨.ref u, rfl, u, _, _, _, rfl, rfl, tup_t hu, atI_nat (j := 2) rfl, .ref w, rfl, w, _, _, _, rfl, rfl, tup_t hw9, atI_nat (j := 2) rfl, rfl, q _ (s10.trans (same_upd np))⟩
      | num o y =>
        have hy := num_x hd
        rw [hd] at hu hw9
        refine ⟨_, rfl, u, _, rfl, .inr (tup_t hu), _, rfl, w, _, rfl, .inr (tup_t hw9), rfl, _, rfl, iteNS rfl ?_⟩
        refine ⟨.ref u, rfl, u, _, _, _, rfl, rfl, tup_t hu, atI_nat (j := 0) rfl, .ref w, rfl, w, _, _, _, rfl, rfl, tup_t hw9, atI_nat (j := 0) rfl, rfl, _, rfl, iteNS rfl ?_⟩
        refine ⟨.ref w, rfl, w, _, _, _, rfl, rfl, tup_t hw9, atI_nat (j := 0) rfl, rfl, _, rfl, iteDF (fun z => by cases z) ?_⟩
        refine ⟨_, rfl, .ref t, rfl, t, _, _, _, rfl, rfl, tup_t ht9, atI_nat (j := 1) rfl, _, rfl, _, rfl, F1, D, L1, fs, ls, b, us, rws, rfl, M9.hF, M9.hS, M9.row, M9.hL, by omega, by omega, by omega, fun k2 e => ?_, fun w2 y2 e H10 z s10 hz => ?_, fun z => by rw [hd] at z; cases z⟩
        · rw [hd] at e
          cases e
        have hu := s10 _ _ hu
        have hw9 := s10 _ _ hw9
        refine ⟨.ref w, rfl, w, _, _, _, rfl, rfl, tup_t hw9, atI_nat (j := 0) rfl, rfl, _, rfl, iteDF (fun z => by cases z) ?_⟩
        refine ⟨_, rfl, (by show 6 ≤ sizeLine; decide), fun p np => ⟨_, _, dp_6 (same_upd np _ _ hz), dp_6 upd_same, sh_6 .., sh_6 .., false, rfl, iteF ?_⟩⟩
        have hu := same_upd (o := .lst [.bl true, .bl true, .bl false, .bl false, .bl false, .bl false]) np _ _ hu
        have hw9 := same_upd (o := .lst [.bl true, .bl true, .bl false, .bl false, .bl false, .bl false]) np _ _ hw9
        refine ⟨.ref u, rfl, u, _, _, _, rfl, rfl, tup_t hu, atI_nat (j := 1) rfl, .str o, .ty "str", _, _, true, rfl, .ty "str", .base (.str _), kit_ty kSt, true, rfl, iteF ?_⟩
        refine ⟨.ref u, rfl, u, _, _, _, rfl, rfl, tup_t hu, atI_nat (j := 1) rfl, .ref w, rfl, w, _, _, _, rfl, rfl, tup_t hw9, atI_nat (j := 1) rfl, rfl, _, rfl, iteNS rfl ?_⟩
        rcases hy with rfl | ⟨k, rfl⟩
        · refine ⟨.ref w, rfl, w, _, _, _, rfl, rfl, tup_t hw9, atI_nat (j := 2) rfl, rfl, _, rfl, iteD rfl ?_⟩
          exact ⟨.ref u, rfl, u, _, _, _, rfl, rfl, tup_t hu, atI_nat (j := 2) rfl, rfl, q _ (s10.trans (same_upd np))⟩
        · refine ⟨.ref w, rfl, w, _, _, _, rfl, rfl, tup_t hw9, atI_nat (j := 2) rfl, rfl, _, rfl, iteDF (fun z => by cases z) ?_⟩
          refine ⟨.ref u, rfl, u, _, _, _, rfl, rfl, tup_t hu, atI_nat (j := 2) rfl, k, rfl, true, rfl, iteT ?_⟩
          refine ⟨.ref u, rfl, u, _, _, _, rfl, rfl, tup_t hu, atI_nat (j := 2) rfl, .ref w, rfl, w, _, _, _, rfl, rfl, tup_t hw9, atI_nat (j := 2) rfl, rfl, ?_⟩
          rw [decide_eq_true rfl]
          exact q _ (s10.trans (same_upd np))
    · have M9 := M.same s9
      have s09 := M9.s
      have ht9 := s09 _ _ ht0
      have hF9 := s09 _ _ hF0
      have hS9 := s09 _ _ hS0
      have hL9 := s09 _ _ hL00
      have row9 := row.same s09
      have hw9 := s09 _ _ hw
      refine ⟨_, rfl, .ref t, rfl, t, _, _, _, rfl, rfl, tup_t ht9, atI_nat (j := 0) rfl, _, _, dp_ints (lst_l M9.hF), dp_ints (lst_l hF9), sh_ints _, sh_ints _, false, ?_, iteF ⟨_, rfl, .ref t, rfl, t, _, _, _, rfl, rfl, tup_t ht9, atI_nat (j := 2) rfl, _, _, .lst (lst_l M9.hS) (dp_all M9.row), .lst (lst_l hS9) (dp_all row9), sh_rows _, sh_rows _, false, ?_, iteF ⟨_, rfl, .ref t, rfl, t, _, _, _, rfl, rfl, tup_t ht9, atI_nat (j := 3) rfl, _, _, dp_ints (lst_l M9.hL), dp_ints (lst_l hL9), sh_ints _, sh_ints _, false, ?_, iteF ?_⟩⟩⟩
      · rw [SeqAt.eqv_refl _ (SeqAt.canLay_of_shaped (sh_ints _))]
        rfl
      · rw [SeqAt.eqv_refl _ (SeqAt.canLay_of_shaped (sh_rows _))]
        rfl
      · rw [SeqAt.eqv_refl _ (SeqAt.canLay_of_shaped (sh_ints _))]
        rfl
      rw [mk] at hw9
      have mf := made_f mk
      refine ⟨_, rfl, u, _, rfl, .inr (tup_t hu), _, rfl, w, _, rfl, .inr (tup_t hw9), rfl, _, rfl, iteNS rfl ?_⟩
      refine ⟨.ref u, rfl, u, _, _, _, rfl, rfl, tup_t hu, atI_nat (j := 0) rfl, .ref w, rfl, w, _, _, _, rfl, rfl, tup_t hw9, atI_nat (j := 0) rfl, rfl, _, rfl, iteNS rfl ?_⟩
      refine ⟨.ref w, rfl, w, _, _, _, rfl, rfl, tup_t hw9, atI_nat (j := 0) rfl, rfl, _, rfl, iteD rfl ?_⟩
      refine ⟨.ref u, rfl, u, _, _, _, rfl, rfl, tup_t hu, atI_nat (j := 1) rfl, _, rfl, x, t, F, S, L, fs, ls, b, rs, rws, rfl, sx, ht9, hF9, hS9, row9, hL9, mf, true, rfl, iteF ?_⟩
      have M0 := M9.wide (by omega)
      have fl := mf.f
      have ml := mf.l
      have mr := mf.r
      have rl1 := M9.row.1
      refine ⟨_, rfl, D, _, rfl, .inl (lst_l M9.hS), _, rfl, ?_⟩
      rw [List.length_map]
      refine ⟨by omega, by omega, ?_⟩
      rw [Int.toNat_natCast]
      refine for_range (lo := 0) (n := us.length) (fun i σ H3 => ∃ (fs2 ls2 : List Int) (rws2 : List (List Int)) (y y2 : Option V), σ = [some (.ref t), some (.ref w), some (.ref F1), y, some (.ref D), some (.ref L1), some (.ref u), y2, none] ∧ Mut H0 H3 F1 D L1 fs2 ls2 us rws2 850 850 850 850 ∧ fs2.length = us.length ∧ ls2.length = us.length ∧ (∀ ws ∈ rws2, ws.length = us.length) ∧ NoL H9 H3) ⟨fs, ls, rws, none, none, rfl, M0, by omega, by omega, fun ws hw => by have := mf.w ws hw; omega, NoL.refl _⟩ ?_ ?_
      · rintro i σ H3 hi ⟨fs2, ls2, rws2, y, y2, rfl, M3, f2, l2, w2, n3⟩
        have rl2 := M3.row.1
        have e1 : us[i]? = some us[i] := List.getElem?_eq_getElem hi
        have e2 : rws2[i]? = some rws2[i] := List.getElem?_eq_getElem (by omega)
        have v1 : (us.map V.ref)[i]? = some (.ref us[i]) := by rw [List.getElem?_map, e1]; rfl
        have hr := M3.row.2 _ _ _ e1 e2
        have lw2 := w2 _ (List.mem_of_getElem? e2)
        have lw3 := M3.lw _ (List.mem_of_getElem? e2)
        refine ⟨_, rfl, _, rfl, D, _, _, _, rfl, rfl, lst_l M3.hS, at_of (Int.zero_add _) v1, ?_⟩
        refine ⟨_, rfl, _, rfl, us[i], _, _, i, rfl, rfl, hr, ?_, ?_⟩
        · rw [List.length_map, Int.zero_add]
          exact ixn_at (by omega)
        rw [set_ints]
        have M4 := M3.setRow (ws := (rws2[i]).set i 7) e1 (by rw [List.length_set]; exact lw3)
        have n4 := n3.trans (NoL.put (o := .lst (((rws2[i]).set i 7).map V.int)) hr)
        generalize upd H3 us[i] (.lst (((rws2[i]).set i 7).map V.int)) = H4 at M4 n4 ⊢
        have g1 : fs2[i]? = some fs2[i] := List.getElem?_eq_getElem (by omega)
        have g2 : ls2[i]? = some ls2[i] := List.getElem?_eq_getElem (by omega)
        refine ⟨_, rfl, _, rfl, F1, _, _, _, rfl, rfl, lst_l M4.hF, at_of (Int.zero_add _) (int_at g1), _, _, rfl, rfl, _, rfl, _, rfl, F1, _, _, i, rfl, rfl, M4.hF, ?_, ?_⟩
        · rw [List.length_map, Int.zero_add]
          exact ixn_at (by omega)
        rw [set_ints]
        have M5 := M4.setF (fs' := fs2.set i (fs2[i] + 1)) (by rw [List.length_set]; exact M4.lf)
        have n5 := n4.trans (NoL.put (o := .lst ((fs2.set i (fs2[i] + 1)).map V.int)) M4.hF)
        generalize upd H4 F1 (.lst ((fs2.set i (fs2[i] + 1)).map V.int)) = H5 at M5 n5 ⊢
        refine ⟨_, rfl, _, rfl, L1, _, _, _, rfl, rfl, lst_l M5.hL, at_of (Int.zero_add _) (int_at g2), _, _, rfl, rfl, _, rfl, _, rfl, L1, _, _, i, rfl, rfl, M5.hL, ?_, ?_⟩
        · rw [List.length_map, Int.zero_add]
          exact ixn_at (by omega)
        rw [set_ints]
        refine ⟨_, _, _, _, _, rfl, M5.setL (ls' := ls2.set i (ls2[i] + 1)) (by rw [List.length_set]; exact M5.ll), by rw [List.length_set]; exact f2, by rw [List.length_set]; exact l2, fun ws hw => ?_, n5.trans (NoL.put M5.hL)⟩
        rcases List.mem_or_eq_of_mem_set hw with h | h
        · exact w2 ws h
        · rw [h, List.length_set]
          exact lw2
      rintro σ H3 ⟨fs2, ls2, rws2, y, y2, rfl, M3, f2, l2, w2, n3⟩
      refine ⟨_, rfl, .inl ⟨rfl, _, lst_l M3.hF⟩, F1, _, _, rfl, rfl, M3.hF, ?_, ?_⟩
      · rw [List.length_map]
        exact small1000 (by omega)
      rw [snoc_int]
      have M4 := M3.setF (fs' := fs2 ++ [1]) (by rw [List.length_append]; show fs2.length + 1 ≤ 850; omega)
      have n4 := n3.trans (NoL.put (o := .lst ((fs2 ++ [1]).map V.int)) M3.hF)
      generalize upd H3 F1 (.lst ((fs2 ++ [1]).map V.int)) = H4 at M4 n4 ⊢
      refine ⟨_, rfl, .inl ⟨rfl, _, lst_l M4.hS⟩, small1000 (by decide), fun p np => ?_⟩
      have sp := same_upd (o := .lst [V.int 1]) np
      refine ⟨D, _, _, rfl, rfl, sp _ _ M4.hS, ?_, ?_⟩
      · rw [List.length_map]
        exact small1000 (by omega)
      rw [show us.map V.ref ++ [V.ref p] = (us ++ [p]).map V.ref by rw [List.map_append]; rfl]
      have M5 := (M4.same sp).app (ws := [1]) (b' := 850) (M4.free np) upd_same (by decide) (by omega)
      have n5 := (n4.trans (NoL.new sp)).trans (NoL.put (o := .lst ((us ++ [p]).map V.ref)) (sp _ _ M4.hS))
      generalize upd (upd H4 p (.lst [V.int 1])) D (.lst ((us ++ [p]).map V.ref)) = H5 at M5 n5 ⊢
      refine ⟨_, rfl, .inl ⟨rfl, _, lst_l M5.hL⟩, L1, _, _, rfl, rfl, M5.hL, ?_, ?_⟩
      · rw [List.length_map]
        exact small1000 (by omega)
      rw [snoc_int]
      have M6 := M5.setL (ls' := ls2 ++ [1]) (d' := 850) (by rw [List.length_append]; show ls2.length + 1 ≤ 850; omega)
      have n6 := n5.trans (NoL.put (o := .lst ((ls2 ++ [1]).map V.int)) M5.hL)
      generalize upd H5 L1 (.lst ((ls2 ++ [1]).map V.int)) = H6 at M6 n6 ⊢
      have k := M6.s
      exact ⟨.ref u, rfl, u, _, _, _, rfl, rfl, tup_t (n6 _ _ hu (fun _ z => by cases z)), atI_nat (j := 1) rfl, _, rfl, x, t, F, S, L, fs, ls, b, rs, rws, rfl, sx.nol n6, k _ _ ht0, k _ _ hF0, k _ _ hS0, row.same k, k _ _ hL00, mf, q _ (s0.trans k)⟩
def sp_law (K : PySem.W.Frag) : Sp := fun vs H Q _ => ∃ (a : Addr) (ns : List Int), vs = [.ref a] ∧ SqL K H a (ns.map V.int) ∧ ns.length ≤ 63 ∧ ∀ H', Q (.bl true) H'

theorem ok_law {f : Addr} {fd : FuncData} {C_Stepping C_BadNumber C_TooMany C_BadLot C_BadTable C_Unlike C_ShelfError : Addr} (F : Fun K "law" "law" s_law f fd) (T : Txt K mg C_Stepping C_BadNumber C_TooMany C_BadLot C_BadTable C_Unlike C_ShelfError) (m_int : mg "int" = none) (m_max : mg "max" = none) (m_range : mg "range" = none) (c__law_cell : Cal P w K mg base CX0 1 "_law_cell" ["_law_script", "_law_place"] (sp__law_cell K)) (c__law_draws : Cal P w K mg base CX0 1 "_law_draws" ["_law_cell_here", "_law_sizes"] (sp__law_draws K)) (c__law_stepping : Cal P w K mg base CX0 2 "_law_stepping" ["_law_cell_here", "_law_many"] (sp__law_stepping K)) (c__law_spoilt : Cal P w K mg base CX0 1 "_law_spoilt" ["_law_told", "_law_fault", "_law_place", "_law_much"] sp__law_spoilt) (c__law_answered : Cal P w K mg base CX0 8 "_law_answered" ["_law_question"] sp__law_answered) : FnOk P w K mg base CX0 9 f fd ["_law_script"] (sp_law K) := by
  refine F.ok sc_law (fun vs H Q E h => ?_) (fun cdv A outer s H vs Q E hr h => ?_)
  · obtain ⟨a, ns, rfl, _⟩ := h
    rfl
  · obtain ⟨a, ns, rfl, hS, hlen, q⟩ := h
    obtain ⟨f__law_cell, fd__law_cell, G__law_cell, m__law_cell, k__law_cell, b__law_cell⟩ := c__law_cell
    obtain ⟨f__law_draws, fd__law_draws, G__law_draws, m__law_draws, k__law_draws, b__law_draws⟩ := c__law_draws
    obtain ⟨f__law_stepping, fd__law_stepping, G__law_stepping, m__law_stepping, k__law_stepping, b__law_stepping⟩ := c__law_stepping
    obtain ⟨f__law_spoilt, fd__law_spoilt, G__law_spoilt, m__law_spoilt, k__law_spoilt, b__law_spoilt⟩ := c__law_spoilt
    obtain ⟨f__law_answered, fd__law_answered, G__law_answered, m__law_answered, k__law_answered, b__law_answered⟩ := c__law_answered
    refine ⟨_, (pss_cons (ps_set (i := 1) sc_law.nd rfl (Or.inl rfl) (pe_call G__law_draws (hr.mono (by decide)) (by rfl) m__law_draws k__law_draws b__law_draws .nil pass0 (pa_cons (pe_call G__law_cell (hr.mono (by decide)) (by rfl) m__law_cell k__law_cell b__law_cell .nil pass0 (pa_cons (pv 0) (pa_cons pe_int pa_nil))) (pa_cons (pe_lst (pa_cons pe_int (pa_cons pe_int (pa_cons pe_int (pa_cons pe_int (pa_cons pe_int (pa_cons pe_int (pa_cons pe_int (pa_cons (pe_op op_sub (pe_op op_pow pe_int pe_int) pe_int) (pa_cons (pe_op op_sub (pe_op op_pow pe_int pe_int) pe_int) pa_nil)))))))))) pa_nil))))
      (pss_cons (ps_set (i := 2) sc_law.nd rfl (Or.inl rfl) (pe_ix ix_list (pe_lst (pa_cons pe_int (pa_cons pe_int (pa_cons pe_int (pa_cons pe_int (pa_cons pe_int (pa_cons pe_int (pa_cons pe_int (pa_cons pe_int (pa_cons pe_int pa_nil)))))))))) (pe_ix ix_list (pv 1) pe_int (fun _ _ => rfl)) (fun _ _ => rfl)))
      (pss_cons (ps_set (i := 3) sc_law.nd rfl (Or.inl rfl) (pv 2))
      (Evl.pss_cut (ps_if (pt_cmpR op_eq (pv 2) pe_int (nomark _)) (pss_one (ps_set (i := 3) sc_law.nd rfl (Or.inl rfl) pe_int)) pss_nil)
      (pss_cons (ps_set (i := 4) sc_law.nd rfl (Or.inl rfl) (pe_call G__law_stepping (hr.mono (by decide)) (by rfl) m__law_stepping k__law_stepping b__law_stepping .nil pass0 (pa_cons (pe_call G__law_cell (hr.mono (by decide)) (by rfl) m__law_cell k__law_cell b__law_cell .nil pass0 (pa_cons (pv 0) (pa_cons pe_int pa_nil))) (pa_cons (pv 3) pa_nil))))
      (pss_cons (ps_set (i := 4) sc_law.nd rfl (Or.inl rfl) (pe_tup (pa_cons (pe_op op_cat (pe_ix ix_tup (pv 4) pe_int (fun _ _ => rfl)) (pe_lc (own := [("_law_k", 5)]) (g := (gName 5)) (tt := tYes) rfl sc_law.nd (pi_range1 (by rfl) m_range (pa_cons (pe_op op_sub (pv 2) (pv 3)) pa_nil)) (blkOk_by (own := [("_law_k", 5)]) (N := ["_law_script", "_law_d", "_law_many", "_law_built", "_law_told", "_law_k", "_law_bad", "_law_much", "_law_question"]) (sc := defScope s_law) (by decide +kernel)) (fun _ _ _ _ _ => (pg_name (i := 5) sc_law.nd rfl (Or.inl rfl))) (fun _ _ _ _ _ => pts_nil) (fun _ _ _ _ _ => pe_int))) (pa_cons (pe_ix ix_tup (pv 4) pe_int (fun _ _ => rfl)) (pa_cons (pe_ix ix_tup (pv 4) pe_int (fun _ _ => rfl)) (pa_cons (pe_ix ix_tup (pv 4) pe_int (fun _ _ => rfl)) pa_nil))))))
      (pss_cons (ps_set (i := 6) sc_law.nd rfl (Or.inl rfl) (pv 4))
      (pss_cons (ps_for PassesOwn.never rfl (pi_range1 (by rfl) m_range (pa_cons pe_int pa_nil)) (pg_name (i := 5) sc_law.nd rfl (Or.inl rfl))
      (pss_cons (ps_set (i := 7) sc_law.nd rfl (Or.inl rfl) (pe_ix ix_list (pv 1) (pe_op op_add pe_int (pv 5)) (fun _ _ => rfl)))
      (Evl.pss_cut (ps_if (pt_cmpR op_eq (pe_ix ix_list (pv 1) (pe_op op_add pe_int (pv 5)) (fun _ _ => rfl)) pe_int (nomark _)) (pss_one (ps_set (i := 7) sc_law.nd rfl (Or.inl rfl) (pe_op op_mod (pe_callTy call_int1 (by rfl) m_int (by decide +kernel) (pa_cons (pv 7) pa_nil)) pe_int))) pss_nil)
      (pss_one (ps_set (i := 6) sc_law.nd rfl (Or.inl rfl) (pe_call G__law_spoilt (hr.mono (by decide)) (by rfl) m__law_spoilt k__law_spoilt b__law_spoilt .nil pass0 (pa_cons (pv 6) (pa_cons (pe_ix ix_list (pv 1) (pe_op op_add pe_int (pv 5)) (fun _ _ => rfl)) (pa_cons (pe_op op_mod (pe_callTy call_int1 (by rfl) m_int (by decide +kernel) (pa_cons (pe_ix ix_list (pv 1) (pe_op op_add pe_int (pv 5)) (fun _ _ => rfl)) pa_nil)) (pe_callB (call_max2 rfl) (by rfl) m_max (by decide +kernel) (pa_cons pe_int (pa_cons (pv 2) pa_nil)))) (pa_cons (pv 7) pa_nil))))))))))
      (pss_cons (ps_for PassesOwn.never rfl (pi_list (pe_lst (pa_cons (pv 6) (pa_cons (pv 4) (pa_cons (pv 6) pa_nil))))) (pg_name (i := 8) sc_law.nd rfl (Or.inl rfl))
      (pss_one (ps_if (pt_not (pt_val (pe_call G__law_answered (hr.mono (by decide)) (by rfl) m__law_answered k__law_answered b__law_answered .nil pass0 (pa_cons (pv 8) pa_nil)))) (pss_one (ps_ret pe_bl)) pss_nil)))
      (pss_one (ps_ret pe_bl))))))))))), ?_⟩
    refine ⟨.ref a, rfl, a, ns, 0, rfl, hS, fun c1 => ?_⟩
    refine ⟨10, 18, rfl, rfl, ⟨by decide, by decide, by decide⟩, _, _, rfl, rfl, 10, 18, rfl, rfl, ⟨by decide, by decide, by decide⟩, _, _, rfl, rfl, (by show 9 ≤ sizeLine; decide), fun p1 np1 => ?_⟩
    refine ⟨c1, p1, [9, 10, 10, 8, 8, 2, 2, 10 ^ 18 - 1, 10 ^ 18 - 1], rfl, lst_l upd_same, by decide, by decide, fun ds1 H1 d1 wd1 s1 nd1 hd1 => ?_⟩
    have s1 : Same H H1 := (same_upd np1).trans s1
    obtain ⟨x0, rx0, rfl, lx0, ux0, wd1⟩ := wd1.c
    obtain ⟨x1, rx1, rfl, lx1, ux1, wd1⟩ := wd1.c
    obtain ⟨x2, rx2, rfl, lx2, ux2, wd1⟩ := wd1.c
    obtain ⟨x3, rx3, rfl, lx3, ux3, wd1⟩ := wd1.c
    obtain ⟨x4, rx4, rfl, lx4, ux4, wd1⟩ := wd1.c
    obtain ⟨x5, rx5, rfl, lx5, ux5, wd1⟩ := wd1.c
    obtain ⟨x6, rx6, rfl, lx6, ux6, wd1⟩ := wd1.c
    obtain ⟨x7, rx7, rfl, lx7, ux7, wd1⟩ := wd1.c
    obtain ⟨x8, rx8, rfl, lx8, ux8, wd1⟩ := wd1.c
    cases wd1.n
    have Ld1 : SqL K H1 d1 ([x0, x1, x2, x3, x4, x5, x6, x7, x8].map V.int) := lst_l hd1

    obtain ⟨m, hm, hmb⟩ := tabV x0 (by omega) (by omega)
    refine ⟨small1000 (by decide), fun p2 n2 => ?_⟩
    have s2 := same_upd (o := .lst [V.int 0, V.int 1, V.int 2, V.int 3, V.int 4, V.int 5, V.int 8, V.int 9, V.int 25]) n2
    refine ⟨.ref d1, rfl, d1, _, _, .int x0, rfl, rfl, s2.seq Ld1, atI_nat (j := 0) rfl, p2, _, _, .int (m : Int), rfl, rfl, lst_l upd_same, hm, ?_⟩
    have s12 := s1.trans s2
    have L2 := s2.seq Ld1
    generalize upd H1 p2 (.lst [V.int 0, V.int 1, V.int 2, V.int 3, V.int 4, V.int 5, V.int 8, V.int 9, V.int 25]) = H2 at s12 L2 ⊢
    refine ⟨_, rfl, ?_⟩
    refine ⟨fun σ' H' => ∃ bt : Nat, H' = H2 ∧ σ' = [some (.ref a), some (.ref d1), some (.int (m : Int)), some (.int (bt : Int)), none, none, none, none, none] ∧ bt ≤ 9 ∧ bt ≤ m, ?_, ?_⟩
    · refine ⟨_, rfl, rfl, _, rfl, ite2 (fun c => ?_) (fun c => ?_)⟩
      · have c : (m : Int) = 25 := V.int.inj (of_decide_eq_true c)
        exact ⟨3, rfl, rfl, by omega, by omega⟩
      · have c : ¬ (m : Int) = 25 := fun z => c (decide_eq_true (congrArg V.int z))
        exact ⟨m, rfl, rfl, by omega, by omega⟩
    rintro σ' H' ⟨bt, rfl, rfl, hbt, hbm⟩
    refine ⟨.ref a, rfl, a, ns, 1, rfl, s12.seq hS, fun c2 => ⟨_, rfl, c2, bt, rfl, hbt, fun H3 t F S L fs ls b rs rws s3 ht hF hS3 hrow hL lf ll lr lw => ?_⟩⟩
    have L3 := s3.seq L2
    have s13 := s12.trans s3
    obtain ⟨e, he⟩ : ∃ e : Nat, (m : Int) - (bt : Int) = (e : Int) := ⟨m - bt, by omega⟩
    have eb : e ≤ 25 := by omega
    refine ⟨.ref t, rfl, t, _, _, _, rfl, rfl, tup_t ht, atI_nat (j := 0) rfl, _, rfl, _, rfl, _, _, rfl, rfl, _, rfl, ?_⟩
    rw [he]
    refine ⟨by omega, by omega, ?_⟩
    rw [Int.toNat_natCast]
    refine fun D nD => lc_range (lo := 0) (n := e) (fun i H4 => Same H3 H4 ∧ H4 D = some (.lst ((List.replicate i (1 : Int)).map V.int))) ⟨same_upd nD, upd_same⟩ ?_ ?_
    · rintro i H4 hi ⟨s, hD⟩
      refine ⟨rfl, ?_⟩
      refine lc_yes ?_
      refine iteT ?_
      refine ⟨_, hD, ?_, same_mut s nD, ?_⟩
      · rw [List.length_map, List.length_replicate]
        exact small1000 (by omega)
      · rw [upd_same, List.replicate_succ', ← snoc_int]
    rintro H4 ⟨s4, hD⟩
    refine ⟨F, D, _, _, rfl, rfl, s4 _ _ hF, hD, ?_, fun F2 nF2 => ?_⟩
    · rw [List.length_map, List.length_map, List.length_replicate]
      exact Nat.le_of_lt (small1000 (by omega))
    rw [show fs.map V.int ++ (List.replicate e (1 : Int)).map V.int = (fs ++ List.replicate e 1).map V.int by rw [List.map_append]]
    have s5 := s4.trans (same_upd (o := .lst ((fs ++ List.replicate e (1 : Int)).map V.int)) nF2)
    have ht := s5 _ _ ht
    refine ⟨.ref t, rfl, t, _, _, _, rfl, rfl, tup_t ht, atI_nat (j := 1) rfl, .ref t, rfl, t, _, _, _, rfl, rfl, tup_t ht, atI_nat (j := 2) rfl, .ref t, rfl, t, _, _, _, rfl, rfl, tup_t ht, atI_nat (j := 3) rfl, (by show 4 ≤ sizeLine; decide), fun t2 nt2 => ?_⟩
    have s6 := s5.trans (same_upd (o := .tup [V.ref F2, V.int b, V.ref S, V.ref L]) nt2)
    have lf2 : (fs ++ List.replicate e (1 : Int)).length ≤ 40 := by
      rw [List.length_append, List.length_replicate]
      omega
    have Q0 : QAt (upd (upd H4 F2 (.lst ((fs ++ List.replicate e (1 : Int)).map V.int))) t2 (.tup [V.ref F2, V.int b, V.ref S, V.ref L])) t2 F2 S L (fs ++ List.replicate e 1) ls b rs rws :=
      ⟨upd_same, same_upd nt2 _ _ upd_same, s6 _ _ hS3, hrow.same s6, s6 _ _ hL⟩
    have s7 := s13.trans s6
    have L7 := s6.seq L3
    generalize fs ++ List.replicate e (1 : Int) = fs2 at Q0 s7 L7 lf2 ⊢
    generalize upd (upd H4 F2 (.lst (fs2.map V.int))) t2 (.tup [V.ref F2, V.int b, V.ref S, V.ref L]) = H7 at Q0 s7 L7 ⊢
    refine ⟨_, rfl, ?_⟩
    refine ⟨2, rfl, by decide, by decide, ?_⟩
    refine for_range (lo := 0) (n := 2) (fun i σ H8 => ∃ (tb Fb Sb Lb : Addr) (fsb lsb : List Int) (bb : Int) (rsb : List Addr) (rwsb : List (List Int)) (y1 y2 : Option V), σ = [some (.ref a), some (.ref d1), some (.int (m : Int)), some (.int (bt : Int)), some (.ref t2), y1, some (.ref tb), y2, none] ∧ Same H7 H8 ∧ QAt H8 tb Fb Sb Lb fsb lsb bb rsb rwsb ∧ fsb.length ≤ 40 + i ∧ lsb.length ≤ 40 + i ∧ rsb.length ≤ 40 + i ∧ ∀ ws ∈ rwsb, ws.length ≤ 40 + i) ⟨t2, F2, S, L, fs2, ls, b, rs, rws, none, none, rfl, Same.refl _, Q0, lf2, by omega, by omega, fun ws hw => by have := lw ws hw; omega⟩ ?_ ?_
    · rintro i σ H8 hi ⟨tb, Fb, Sb, Lb, fsb, lsb, bb, rsb, rwsb, y1, y2, rfl, s8, Qb, lfb, llb, lrb, lwb⟩
      have L8 := s8.seq L7
      obtain ⟨v7, e7⟩ : ∃ v : Int, atI ([x0, x1, x2, x3, x4, x5, x6, x7, x8].map V.int) (7 + (0 + (i : Int))) = some (.int v) := by
        rcases (by omega : i = 0 ∨ i = 1) with rfl | rfl
        · exact ⟨x7, rfl⟩
        · exact ⟨x8, rfl⟩
      obtain ⟨v5, e5⟩ : ∃ v : Int, atI ([x0, x1, x2, x3, x4, x5, x6, x7, x8].map V.int) (5 + (0 + (i : Int))) = some (.int v) := by
        rcases (by omega : i = 0 ∨ i = 1) with rfl | rfl
        · exact ⟨x5, rfl⟩
        · exact ⟨x6, rfl⟩
      obtain ⟨v3, e3⟩ : ∃ v : Int, atI ([x0, x1, x2, x3, x4, x5, x6, x7, x8].map V.int) (3 + (0 + (i : Int))) = some (.int v) := by
        rcases (by omega : i = 0 ∨ i = 1) with rfl | rfl
        · exact ⟨x3, rfl⟩
        · exact ⟨x4, rfl⟩
      obtain ⟨v1, e1⟩ : ∃ v : Int, atI ([x0, x1, x2, x3, x4, x5, x6, x7, x8].map V.int) (1 + (0 + (i : Int))) = some (.int v) := by
        rcases (by omega : i = 0 ∨ i = 1) with rfl | rfl
        · exact ⟨x1, rfl⟩
        · exact ⟨x2, rfl⟩
      refine ⟨.ref d1, rfl, _, rfl, _, _, rfl, rfl, d1, _, _, _, rfl, rfl, L8, e7, ?_⟩
      refine ⟨fun σ' H' => ∃ mu : Int, H' = H8 ∧ σ' = [some (.ref a), some (.ref d1), some (.int (m : Int)), some (.int (bt : Int)), some (.ref t2), some (.int (0 + (i : Int))), some (.ref tb), some (.int mu), none], ?_, ?_⟩
      · exact ⟨.ref d1, rfl, _, rfl, _, _, rfl, rfl, d1, _, _, _, rfl, rfl, L8, e5, rfl, _, rfl, ite2 (fun _ => ⟨_, rfl, .inl ⟨v7, rfl, _, _, rfl, rfl, (show (0 : Int) < 2 by decide), _, rfl, rfl⟩⟩) (fun _ => ⟨_, rfl, rfl⟩)⟩
      rintro σ' H' ⟨mu, rfl, rfl⟩
      have j0 := Int.emod_nonneg v3 (show mx (m : Int) ≠ 0 by have := mx_pos (m : Int); omega)
      obtain ⟨pl, hpl⟩ : ∃ pl : Nat, v3 % mx (m : Int) = (pl : Int) := ⟨(v3 % mx (m : Int)).toNat, by omega⟩
      refine ⟨_, rfl, .ref d1, rfl, _, rfl, _, _, rfl, rfl, d1, _, _, _, rfl, rfl, L8, e1, .ref d1, rfl, _, rfl, _, _, rfl, rfl, d1, _, _, _, rfl, rfl, L8, e3, .inl ⟨v3, rfl, _, rfl, 1, (m : Int), rfl, v3, mx (m : Int), rfl, rfl, mx_pos _, _, rfl, ?_⟩⟩
      refine ⟨tb, Fb, Sb, Lb, fsb, lsb, bb, rsb, rwsb, v1, pl, mu, 40 + i, congrArg (fun z => [V.ref tb, V.int v1, V.int z, V.int mu]) hpl, Qb, lfb, llb, lrb, lwb, by omega, fun H9 u F9 S9 L9 fs9 ls9 b9 rs9 rws9 s9 Q9 a1 a2 a3 a4 => ?_⟩
      exact ⟨u, F9, S9, L9, fs9, ls9, b9, rs9, rws9, _, _, rfl, s8.trans s9, Q9, by omega, a2, a3, a4⟩
    rintro σ H8 ⟨tb, Fb, Sb, Lb, fsb, lsb, bb, rsb, rwsb, y1, y2, rfl, s8, Qb, lfb, llb, lrb, lwb⟩
    refine ⟨_, rfl, _, rfl, _, rfl, (by show 3 ≤ sizeLine; decide), fun p np => ⟨p, rfl, ⟨_, lst_l upd_same⟩, ?_⟩⟩
    have sp := same_upd (o := .lst [V.ref tb, V.ref t2, V.ref tb]) np
    have hp : upd H8 p (.lst [V.ref tb, V.ref t2, V.ref tb]) p = some (.lst [V.ref tb, V.ref t2, V.ref tb]) := upd_same
    have Qb := Qb.same sp
    have Q2 := (Q0.same s8).same sp
    generalize upd H8 p (.lst [V.ref tb, V.ref t2, V.ref tb]) = H9 at sp hp Qb Q2 ⊢
    refine for_list (K := K) (a := p) (xs := [V.ref tb, V.ref t2, V.ref tb]) (fun i σ H' => ∃ y3 : Option V, σ = [some (.ref a), some (.ref d1), some (.int (m : Int)), some (.int (bt : Int)), some (.ref t2), y1, some (.ref tb), y2, y3] ∧ Same H9 H') ⟨none, rfl, Same.refl _⟩ (fun i σ H' _ ⟨_, _, s⟩ => lst_l (s _ _ hp)) ?_ ?_
    · rintro i x σ H' hi ⟨y3, rfl, s⟩
      rcases i with _ | _ | _ | i
      · cases hi
        exact ⟨_, rfl, _, _, _, _, _, _, _, _, _, 50, rfl, Qb.same s, by omega, by omega, by omega, fun ws hw => by have := lwb ws hw; omega, by decide, fun H2 k => ⟨true, rfl, iteF ⟨_, rfl, s.trans k⟩⟩⟩
      · cases hi
        exact ⟨_, rfl, _, _, _, _, _, _, _, _, _, 50, rfl, Q2.same s, by omega, by omega, by omega, fun ws hw => by have := lw ws hw; omega, by decide, fun H2 k => ⟨true, rfl, iteF ⟨_, rfl, s.trans k⟩⟩⟩
      · cases hi
        exact ⟨_, rfl, _, _, _, _, _, _, _, _, _, 50, rfl, Qb.same s, by omega, by omega, by omega, fun ws hw => by have := lwb ws hw; omega, by decide, fun H2 k => ⟨true, rfl, iteF ⟨_, rfl, s.trans k⟩⟩⟩
      · cases hi
    · rintro σ H' ⟨y3, rfl, s⟩
      exact q _
end
/-! ### what the top has written; the law's own head -/
theorem all_mk {l : PySem.W.OpenLaw} {w : World} {K : PySem.W.Frag} {h : Heap} {mg : Str → Option Value} {fa f1 f2 f3 f4 f5 f6 f7 f8 f9 f10 f11 f12 f13 f14 f15 f16 f17 f18 f19 f20 f21 f22 C_Stepping C_BadNumber C_TooMany C_BadLot C_BadTable C_Unlike C_ShelfError : Addr} (X : K.In h) (G : h.Ns mainGlobals mg) (hfa : mg "law" = some (.ref fa))
    {od1 an1 od2 an2 od3 an3 od4 an4 od5 an5 od6 an6 od7 an7 od8 an8 od9 an9 od10 an10 od11 an11 od12 an12 od13 an13 od14 an14 od15 an15 od16 an16 od17 an17 od18 an18 od19 an19 od20 an20 od21 an21 od22 an22 : Option Addr} {sl1 sl2 sl3 sl4 sl5 sl6 sl7 sl8 sl9 sl10 sl11 sl12 sl13 sl14 sl15 sl16 sl17 sl18 sl19 sl20 sl21 sl22 : Array (Option Value)} {oc1 kV1 dc1 pm1 cd1 ct1 oc2 kV2 dc2 pm2 cd2 ct2 oc3 kV3 dc3 pm3 cd3 ct3 oc4 kV4 dc4 pm4 cd4 ct4 oc5 kV5 dc5 pm5 cd5 ct5 oc6 kV6 dc6 pm6 cd6 ct6 oc7 kV7 dc7 pm7 cd7 ct7 oc8 kV8 dc8 pm8 cd8 ct8 oc9 kV9 dc9 pm9 cd9 ct9 oc10 kV10 dc10 pm10 ct10 oc11 kV11 dc11 pm11 cd11 ct11 oc12 kV12 dc12 pm12 cd12 ct12 oc13 kV13 dc13 pm13 cd13 ct13 oc14 kV14 dc14 pm14 cd14 ct14 oc15 kV15 dc15 pm15 cd15 ct15 oc16 kV16 dc16 pm16 cd16 ct16 oc17 kV17 dc17 pm17 cd17 ct17 oc18 kV18 dc18 pm18 cd18 ct18 oc19 kV19 dc19 pm19 cd19 ct19 oc20 kV20 dc20 pm20 cd20 ct20 oc21 kV21 dc21 pm21 cd21 ct21 oc22 kV22 dc22 pm22 cd22 ct22 : Value} {tk_MOST_STEPPED_THINGS : Tok} {tk_MOST_THINGS : Tok} {cc10 cda10 : Addr} {cl10 ccl10 : Value} {cld10 cdd10 : Option Addr} {csl10 ccs10 : Array (Option Value)} {vs10 : Array Value} {fi10 : Str} {tf10 : Tok} {cdW10 : ClassData}
    (a_Stepping : PySem.W.nsIn K mainGlobals "Stepping" = some (some (.ref C_Stepping)))
    (kc_Stepping : PySem.W.keepIn K (.ref C_Stepping) = true)
    (hd_Stepping : PySem.W.hasDictIn K C_Stepping = true)
    (ha_Stepping : PySem.W.findIn K (.ref C_Stepping) "__class__" = some (some (.builtin "object.__class__")))
    (hm_Stepping : PySem.W.mroIn K C_Stepping (.type "object") = some true)
    (pg_Stepping : PySem.W.plainGet K C_Stepping Str.empty = true)
    (po_Stepping : PySem.W.plainOver K C_Stepping = true)
    (sa_Stepping : PySem.W.findIn K (.ref C_Stepping) "__setattr__" = some (some (.builtin "object.__setattr__")))
    (mk_Stepping : PySem.W.makesIn K C_Stepping = true)
    (n_Stepping_many : PySem.W.findIn K (.ref C_Stepping) "many" = some none)
    (n_Stepping_first : PySem.W.findIn K (.ref C_Stepping) "first" = some none)
    (n_Stepping_aside : PySem.W.findIn K (.ref C_Stepping) "aside" = some none)
    (n_Stepping_steps : PySem.W.findIn K (.ref C_Stepping) "steps" = some none)
    (n_Stepping_leaves : PySem.W.findIn K (.ref C_Stepping) "leaves" = some none)
    (a_BadNumber : PySem.W.nsIn K mainGlobals "BadNumber" = some (some (.ref C_BadNumber)))
    (kc_BadNumber : PySem.W.keepIn K (.ref C_BadNumber) = true)
    (hd_BadNumber : PySem.W.hasDictIn K C_BadNumber = true)
    (ha_BadNumber : PySem.W.findIn K (.ref C_BadNumber) "__class__" = some (some (.builtin "object.__class__")))
    (hm_BadNumber : PySem.W.mroIn K C_BadNumber (.type "object") = some true)
    (b_BadNumber : PySem.W.subIn K (.ref C_BadNumber) (.type "BaseException") = some true)
    (t_BadNumber : PySem.W.typeIn K (.ref C_BadNumber) = some (.type "type"))
    (ga_BadNumber : PySem.W.findIn K (.ref C_BadNumber) "__getattribute__" = some (some (.builtin "BaseException.__getattribute__")))
    (gg_BadNumber : PySem.W.findIn K (.ref C_BadNumber) "__getattr__" = some none)
    (ol_BadNumber : K.lookup C_BadNumber = some (excClassObj nm_BadNumber q_BadNumber C_BadNumber N_BadNumber bs_BadNumber bm_BadNumber true sn_BadNumber sub_BadNumber ab_BadNumber col_BadNumber dd_BadNumber k0_BadNumber k1_BadNumber k2_BadNumber k3_BadNumber k5_BadNumber "ValueError.__new__"))
    (or_BadNumber : PySem.HandSPX.refsVE bm_BadNumber = true)
    (sa_BadNumber : PySem.W.findIn K (.ref C_BadNumber) "__setattr__" = some (some (.builtin "object.__setattr__")))
    (n_BadNumber_what : PySem.W.findIn K (.ref C_BadNumber) "what" = some none)
    (n_BadNumber_at : PySem.W.findIn K (.ref C_BadNumber) "at" = some none)
    (a_TooMany : PySem.W.nsIn K mainGlobals "TooMany" = some (some (.ref C_TooMany)))
    (kc_TooMany : PySem.W.keepIn K (.ref C_TooMany) = true)
    (hd_TooMany : PySem.W.hasDictIn K C_TooMany = true)
    (ha_TooMany : PySem.W.findIn K (.ref C_TooMany) "__class__" = some (some (.builtin "object.__class__")))
    (hm_TooMany : PySem.W.mroIn K C_TooMany (.type "object") = some true)
    (b_TooMany : PySem.W.subIn K (.ref C_TooMany) (.type "BaseException") = some true)
    (t_TooMany : PySem.W.typeIn K (.ref C_TooMany) = some (.type "type"))
    (ga_TooMany : PySem.W.findIn K (.ref C_TooMany) "__getattribute__" = some (some (.builtin "BaseException.__getattribute__")))
    (gg_TooMany : PySem.W.findIn K (.ref C_TooMany) "__getattr__" = some none)
    (ol_TooMany : K.lookup C_TooMany = some (excClassObj nm_TooMany q_TooMany C_TooMany N_TooMany bs_TooMany bm_TooMany true sn_TooMany sub_TooMany ab_TooMany col_TooMany dd_TooMany k0_TooMany k1_TooMany k2_TooMany k3_TooMany k5_TooMany "ValueError.__new__"))
    (or_TooMany : PySem.HandSPX.refsVE bm_TooMany = true)
    (sa_TooMany : PySem.W.findIn K (.ref C_TooMany) "__setattr__" = some (some (.builtin "object.__setattr__")))
    (n_TooMany_many : PySem.W.findIn K (.ref C_TooMany) "many" = some none)
    (n_TooMany_most : PySem.W.findIn K (.ref C_TooMany) "most" = some none)
    (a_BadLot : PySem.W.nsIn K mainGlobals "BadLot" = some (some (.ref C_BadLot)))
    (kc_BadLot : PySem.W.keepIn K (.ref C_BadLot) = true)
    (hd_BadLot : PySem.W.hasDictIn K C_BadLot = true)
    (ha_BadLot : PySem.W.findIn K (.ref C_BadLot) "__class__" = some (some (.builtin "object.__class__")))
    (hm_BadLot : PySem.W.mroIn K C_BadLot (.type "object") = some true)
    (b_BadLot : PySem.W.subIn K (.ref C_BadLot) (.type "BaseException") = some true)
    (t_BadLot : PySem.W.typeIn K (.ref C_BadLot) = some (.type "type"))
    (ga_BadLot : PySem.W.findIn K (.ref C_BadLot) "__getattribute__" = some (some (.builtin "BaseException.__getattribute__")))
    (gg_BadLot : PySem.W.findIn K (.ref C_BadLot) "__getattr__" = some none)
    (x_BadLot : PySem.W.excIn K C_BadLot [.type "ValueError", .type "Exception", .type "BaseException", .type "object"] "ValueError.__new__" = true)
    (a_BadTable : PySem.W.nsIn K mainGlobals "BadTable" = some (some (.ref C_BadTable)))
    (kc_BadTable : PySem.W.keepIn K (.ref C_BadTable) = true)
    (hd_BadTable : PySem.W.hasDictIn K C_BadTable = true)
    (ha_BadTable : PySem.W.findIn K (.ref C_BadTable) "__class__" = some (some (.builtin "object.__class__")))
    (hm_BadTable : PySem.W.mroIn K C_BadTable (.type "object") = some true)
    (b_BadTable : PySem.W.subIn K (.ref C_BadTable) (.type "BaseException") = some true)
    (t_BadTable : PySem.W.typeIn K (.ref C_BadTable) = some (.type "type"))
    (ga_BadTable : PySem.W.findIn K (.ref C_BadTable) "__getattribute__" = some (some (.builtin "BaseException.__getattribute__")))
    (gg_BadTable : PySem.W.findIn K (.ref C_BadTable) "__getattr__" = some none)
    (ol_BadTable : K.lookup C_BadTable = some (excClassObj nm_BadTable q_BadTable C_BadTable N_BadTable bs_BadTable bm_BadTable true sn_BadTable sub_BadTable ab_BadTable col_BadTable dd_BadTable k0_BadTable k1_BadTable k2_BadTable k3_BadTable k5_BadTable "ValueError.__new__"))
    (or_BadTable : PySem.HandSPX.refsVE bm_BadTable = true)
    (sa_BadTable : PySem.W.findIn K (.ref C_BadTable) "__setattr__" = some (some (.builtin "object.__setattr__")))
    (n_BadTable_at : PySem.W.findIn K (.ref C_BadTable) "at" = some none)
    (a_Unlike : PySem.W.nsIn K mainGlobals "Unlike" = some (some (.ref C_Unlike)))
    (kc_Unlike : PySem.W.keepIn K (.ref C_Unlike) = true)
    (hd_Unlike : PySem.W.hasDictIn K C_Unlike = true)
    (ha_Unlike : PySem.W.findIn K (.ref C_Unlike) "__class__" = some (some (.builtin "object.__class__")))
    (hm_Unlike : PySem.W.mroIn K C_Unlike (.type "object") = some true)
    (b_Unlike : PySem.W.subIn K (.ref C_Unlike) (.type "BaseException") = some true)
    (t_Unlike : PySem.W.typeIn K (.ref C_Unlike) = some (.type "type"))
    (ga_Unlike : PySem.W.findIn K (.ref C_Unlike) "__getattribute__" = some (some (.builtin "BaseException.__getattribute__")))
    (gg_Unlike : PySem.W.findIn K (.ref C_Unlike) "__getattr__" = some none)
    (ol_Unlike : K.lookup C_Unlike = some (excClassObj nm_Unlike q_Unlike C_Unlike N_Unlike bs_Unlike bm_Unlike true sn_Unlike sub_Unlike ab_Unlike col_Unlike dd_Unlike k0_Unlike k1_Unlike k2_Unlike k3_Unlike k5_Unlike "ValueError.__new__"))
    (or_Unlike : PySem.HandSPX.refsVE bm_Unlike = true)
    (sa_Unlike : PySem.W.findIn K (.ref C_Unlike) "__setattr__" = some (some (.builtin "object.__setattr__")))
    (n_Unlike_at : PySem.W.findIn K (.ref C_Unlike) "at" = some none)
    (a_ShelfError : PySem.W.nsIn K mainGlobals "ShelfError" = some (some (.ref C_ShelfError)))
    (kc_ShelfError : PySem.W.keepIn K (.ref C_ShelfError) = true)
    (hd_ShelfError : PySem.W.hasDictIn K C_ShelfError = true)
    (ha_ShelfError : PySem.W.findIn K (.ref C_ShelfError) "__class__" = some (some (.builtin "object.__class__")))
    (hm_ShelfError : PySem.W.mroIn K C_ShelfError (.type "object") = some true)
    (b_ShelfError : PySem.W.subIn K (.ref C_ShelfError) (.type "BaseException") = some true)
    (t_ShelfError : PySem.W.typeIn K (.ref C_ShelfError) = some (.type "type"))
    (ga_ShelfError : PySem.W.findIn K (.ref C_ShelfError) "__getattribute__" = some (some (.builtin "BaseException.__getattribute__")))
    (gg_ShelfError : PySem.W.findIn K (.ref C_ShelfError) "__getattr__" = some none)
    (hnc : PySem.W.specialIn K (.builtin "object.__class__") "__get__" = some (some (.builtin "getset_descriptor.__get__")))
    (htk : PySem.W.takesIn K (.builtin "object.__class__") = some true)
    (sub_BadNumber_BadNumber : PySem.W.subIn K (.ref C_BadNumber) (.ref C_BadNumber) = some true)
    (sub_TooMany_BadNumber : PySem.W.subIn K (.ref C_TooMany) (.ref C_BadNumber) = some false)
    (sub_TooMany_TooMany : PySem.W.subIn K (.ref C_TooMany) (.ref C_TooMany) = some true)
    (sub_BadNumber_ShelfError : PySem.W.subIn K (.ref C_BadNumber) (.ref C_ShelfError) = some true)
    (sub_TooMany_ShelfError : PySem.W.subIn K (.ref C_TooMany) (.ref C_ShelfError) = some true)
    (kit_BadNumber_ValueError : PySem.W.kitOne K (.ref C_BadNumber) (.type "ValueError") = some true)
    (kit_BadNumber_BadNumber : PySem.W.kitOne K (.ref C_BadNumber) (.ref C_BadNumber) = some true)
    (kit_BadNumber_TooMany : PySem.W.kitOne K (.ref C_BadNumber) (.ref C_TooMany) = some false)
    (kit_BadNumber_BadLot : PySem.W.kitOne K (.ref C_BadNumber) (.ref C_BadLot) = some false)
    (kit_BadNumber_BadTable : PySem.W.kitOne K (.ref C_BadNumber) (.ref C_BadTable) = some false)
    (kit_BadNumber_Unlike : PySem.W.kitOne K (.ref C_BadNumber) (.ref C_Unlike) = some false)
    (kit_TooMany_ValueError : PySem.W.kitOne K (.ref C_TooMany) (.type "ValueError") = some true)
    (kit_TooMany_BadNumber : PySem.W.kitOne K (.ref C_TooMany) (.ref C_BadNumber) = some false)
    (kit_TooMany_TooMany : PySem.W.kitOne K (.ref C_TooMany) (.ref C_TooMany) = some true)
    (kit_TooMany_BadLot : PySem.W.kitOne K (.ref C_TooMany) (.ref C_BadLot) = some false)
    (kit_TooMany_BadTable : PySem.W.kitOne K (.ref C_TooMany) (.ref C_BadTable) = some false)
    (kit_TooMany_Unlike : PySem.W.kitOne K (.ref C_TooMany) (.ref C_Unlike) = some false)
    (kit_Stepping_Stepping : PySem.W.kitOne K (.ref C_Stepping) (.ref C_Stepping) = some true)
    (a_MOST_STEPPED_THINGS : PySem.W.nsIn K mainGlobals "MOST_STEPPED_THINGS" = some (some (.int 8 tk_MOST_STEPPED_THINGS)))
    (a_MOST_THINGS : PySem.W.nsIn K mainGlobals "MOST_THINGS" = some (some (.int 24 tk_MOST_THINGS)))
    (a1 : PySem.W.findIn K (.ref C_BadNumber) "__init__" = some (some (.ref f1))) (i1 : PySem.W.isFn K (.ref f1) = true)
    (l1 : K.lookup f1 = some ⟨oc1, od1, .func (PySem.W.fnOf "__init__" "BadNumber.__init__" (defArgs s_BadNumber___init__) (defBody s_BadNumber___init__) (defScope s_BadNumber___init__) .none kV1 dc1 pm1 an1 cd1 ct1), sl1⟩)
    (c1 : PySem.W.codeIn K cd1 "BadNumber.__init__" = true) (k1 : PySem.W.keepIn K (.ref f1) = true)
    (a2 : PySem.W.findIn K (.ref C_TooMany) "__init__" = some (some (.ref f2))) (i2 : PySem.W.isFn K (.ref f2) = true)
    (l2 : K.lookup f2 = some ⟨oc2, od2, .func (PySem.W.fnOf "__init__" "TooMany.__init__" (defArgs s_TooMany___init__) (defBody s_TooMany___init__) (defScope s_TooMany___init__) .none kV2 dc2 pm2 an2 cd2 ct2), sl2⟩)
    (c2 : PySem.W.codeIn K cd2 "TooMany.__init__" = true) (k2 : PySem.W.keepIn K (.ref f2) = true)
    (a3 : PySem.W.nsIn K mainGlobals "check_many" = some (some (.ref f3)))
    (l3 : K.lookup f3 = some ⟨oc3, od3, .func (PySem.W.fnOf "check_many" "check_many" (defArgs s_check_many) (defBody s_check_many) (defScope s_check_many) .none kV3 dc3 pm3 an3 cd3 ct3), sl3⟩)
    (c3 : PySem.W.codeIn K cd3 "check_many" = true) (k3 : PySem.W.keepIn K (.ref f3) = true)
    (a4 : PySem.W.nsIn K mainGlobals "check_length" = some (some (.ref f4)))
    (l4 : K.lookup f4 = some ⟨oc4, od4, .func (PySem.W.fnOf "check_length" "check_length" (defArgs s_check_length) (defBody s_check_length) (defScope s_check_length) .none kV4 dc4 pm4 an4 cd4 ct4), sl4⟩)
    (c4 : PySem.W.codeIn K cd4 "check_length" = true) (k4 : PySem.W.keepIn K (.ref f4) = true)
    (a5 : PySem.W.nsIn K mainGlobals "check_each" = some (some (.ref f5)))
    (l5 : K.lookup f5 = some ⟨oc5, od5, .func (PySem.W.fnOf "check_each" "check_each" (defArgs s_check_each) (defBody s_check_each) (defScope s_check_each) .none kV5 dc5 pm5 an5 cd5 ct5), sl5⟩)
    (c5 : PySem.W.codeIn K cd5 "check_each" = true) (k5 : PySem.W.keepIn K (.ref f5) = true)
    (a6 : PySem.W.nsIn K mainGlobals "check_least" = some (some (.ref f6)))
    (l6 : K.lookup f6 = some ⟨oc6, od6, .func (PySem.W.fnOf "check_least" "check_least" (defArgs s_check_least) (defBody s_check_least) (defScope s_check_least) .none kV6 dc6 pm6 an6 cd6 ct6), sl6⟩)
    (c6 : PySem.W.codeIn K cd6 "check_least" = true) (k6 : PySem.W.keepIn K (.ref f6) = true)
    (a7 : PySem.W.nsIn K mainGlobals "check_aside" = some (some (.ref f7)))
    (l7 : K.lookup f7 = some ⟨oc7, od7, .func (PySem.W.fnOf "check_aside" "check_aside" (defArgs s_check_aside) (defBody s_check_aside) (defScope s_check_aside) .none kV7 dc7 pm7 an7 cd7 ct7), sl7⟩)
    (c7 : PySem.W.codeIn K cd7 "check_aside" = true) (k7 : PySem.W.keepIn K (.ref f7) = true)
    (sg8 : PySem.W.ks_superIn K C_Stepping C_Stepping "__init__" = some (some (.ref f8)))
    (l8 : K.lookup f8 = some ⟨oc8, od8, .func (PySem.W.fnOf "__init__" "Rule.__init__" (defArgs s_Rule___init__) (defBody s_Rule___init__) (defScope s_Rule___init__) .none kV8 dc8 pm8 an8 cd8 ct8), sl8⟩)
    (c8 : PySem.W.codeIn K cd8 "Rule.__init__" = true) (k8 : PySem.W.keepIn K (.ref f8) = true)
    (a9 : PySem.W.nsIn K mainGlobals "_check_steps" = some (some (.ref f9)))
    (l9 : K.lookup f9 = some ⟨oc9, od9, .func (PySem.W.fnOf "_check_steps" "_check_steps" (defArgs s__check_steps) (defBody s__check_steps) (defScope s__check_steps) .none kV9 dc9 pm9 an9 cd9 ct9), sl9⟩)
    (c9 : PySem.W.codeIn K cd9 "_check_steps" = true) (k9 : PySem.W.keepIn K (.ref f9) = true)
    (sa10 : PySem.W.clsIn K C_Stepping = some cdW10)
    (sb10 : PySem.W.mroIn K C_Stepping (.ref C_Stepping) = some true)
    (a10 : PySem.W.findIn K (.ref C_Stepping) "__init__" = some (some (.ref f10))) (i10 : PySem.W.isFn K (.ref f10) = true)
    (l10 : K.lookup f10 = some ⟨oc10, od10, .func (PySem.W.ksFn "__init__" "Stepping.__init__" (defArgs s_Stepping___init__) (defBody s_Stepping___init__) (defScope s_Stepping___init__) .none kV10 dc10 pm10 an10 (.ref cda10) ct10 cc10), sl10⟩)
    (c10 : PySem.W.codeIn K (.ref cda10) "Stepping.__init__" = true) (k10 : PySem.W.keepIn K (.ref f10) = true)
    (sc10 : K.lookup cc10 = some ⟨cl10, cld10, .cell (some (.ref C_Stepping)), csl10⟩)
    (sd10 : K.lookup cda10 = some ⟨ccl10, cdd10, .fields vs10, ccs10⟩)
    (se10 : vs10[2]? = some (.str fi10 tf10))
    (sh10 : PySem.W.typeIn K (.ref f8) = some (.type "function"))
    (si10 : PySem.W.fnIn K f8 = true)
    (sj10 : PySem.W.nsIn K cStatics "thirdparty.any" = some none)
    (sk10 : PySem.W.nsIn K mainGlobals "super" = some none)
    (sl_10 : ((l.prog.main.file : Str) == fi10) = true)
    (sm10 : (l.prog.main.scope.names.lookup ("super" : Str)).isSome = false)
    (a11 : PySem.W.nsIn K mainGlobals "_law_due" = some (some (.ref f11)))
    (l11 : K.lookup f11 = some ⟨oc11, od11, .func (PySem.W.fnOf "_law_due" "_law_due" (defArgs s__law_due) (defBody s__law_due) (defScope s__law_due) .none kV11 dc11 pm11 an11 cd11 ct11), sl11⟩)
    (c11 : PySem.W.codeIn K cd11 "_law_due" = true) (k11 : PySem.W.keepIn K (.ref f11) = true)
    (a12 : PySem.W.nsIn K mainGlobals "_law_tried" = some (some (.ref f12)))
    (l12 : K.lookup f12 = some ⟨oc12, od12, .func (PySem.W.fnOf "_law_tried" "_law_tried" (defArgs s__law_tried) (defBody s__law_tried) (defScope s__law_tried) .none kV12 dc12 pm12 an12 cd12 ct12), sl12⟩)
    (c12 : PySem.W.codeIn K cd12 "_law_tried" = true) (k12 : PySem.W.keepIn K (.ref f12) = true)
    (a13 : PySem.W.nsIn K mainGlobals "_law_classes" = some (some (.ref f13)))
    (l13 : K.lookup f13 = some ⟨oc13, od13, .func (PySem.W.fnOf "_law_classes" "_law_classes" (defArgs s__law_classes) (defBody s__law_classes) (defScope s__law_classes) .none kV13 dc13 pm13 an13 cd13 ct13), sl13⟩)
    (c13 : PySem.W.codeIn K cd13 "_law_classes" = true) (k13 : PySem.W.keepIn K (.ref f13) = true)
    (a14 : PySem.W.nsIn K mainGlobals "_law_is_int" = some (some (.ref f14)))
    (l14 : K.lookup f14 = some ⟨oc14, od14, .func (PySem.W.fnOf "_law_is_int" "_law_is_int" (defArgs s__law_is_int) (defBody s__law_is_int) (defScope s__law_is_int) .none kV14 dc14 pm14 an14 cd14 ct14), sl14⟩)
    (c14 : PySem.W.codeIn K cd14 "_law_is_int" = true) (k14 : PySem.W.keepIn K (.ref f14) = true)
    (a15 : PySem.W.nsIn K mainGlobals "_law_same_lot" = some (some (.ref f15)))
    (l15 : K.lookup f15 = some ⟨oc15, od15, .func (PySem.W.fnOf "_law_same_lot" "_law_same_lot" (defArgs s__law_same_lot) (defBody s__law_same_lot) (defScope s__law_same_lot) .none kV15 dc15 pm15 an15 cd15 ct15), sl15⟩)
    (c15 : PySem.W.codeIn K cd15 "_law_same_lot" = true) (k15 : PySem.W.keepIn K (.ref f15) = true)
    (a16 : PySem.W.nsIn K mainGlobals "_law_keeps" = some (some (.ref f16)))
    (l16 : K.lookup f16 = some ⟨oc16, od16, .func (PySem.W.fnOf "_law_keeps" "_law_keeps" (defArgs s__law_keeps) (defBody s__law_keeps) (defScope s__law_keeps) .none kV16 dc16 pm16 an16 cd16 ct16), sl16⟩)
    (c16 : PySem.W.codeIn K cd16 "_law_keeps" = true) (k16 : PySem.W.keepIn K (.ref f16) = true)
    (a17 : PySem.W.nsIn K mainGlobals "_law_cell" = some (some (.ref f17)))
    (l17 : K.lookup f17 = some ⟨oc17, od17, .func (PySem.W.fnOf "_law_cell" "_law_cell" (defArgs s__law_cell) (defBody s__law_cell) (defScope s__law_cell) .none kV17 dc17 pm17 an17 cd17 ct17), sl17⟩)
    (c17 : PySem.W.codeIn K cd17 "_law_cell" = true) (k17 : PySem.W.keepIn K (.ref f17) = true)
    (a18 : PySem.W.nsIn K mainGlobals "_law_draws" = some (some (.ref f18)))
    (l18 : K.lookup f18 = some ⟨oc18, od18, .func (PySem.W.fnOf "_law_draws" "_law_draws" (defArgs s__law_draws) (defBody s__law_draws) (defScope s__law_draws) .none kV18 dc18 pm18 an18 cd18 ct18), sl18⟩)
    (c18 : PySem.W.codeIn K cd18 "_law_draws" = true) (k18 : PySem.W.keepIn K (.ref f18) = true)
    (a19 : PySem.W.nsIn K mainGlobals "_law_stepping" = some (some (.ref f19)))
    (l19 : K.lookup f19 = some ⟨oc19, od19, .func (PySem.W.fnOf "_law_stepping" "_law_stepping" (defArgs s__law_stepping) (defBody s__law_stepping) (defScope s__law_stepping) .none kV19 dc19 pm19 an19 cd19 ct19), sl19⟩)
    (c19 : PySem.W.codeIn K cd19 "_law_stepping" = true) (k19 : PySem.W.keepIn K (.ref f19) = true)
    (a20 : PySem.W.nsIn K mainGlobals "_law_spoilt" = some (some (.ref f20)))
    (l20 : K.lookup f20 = some ⟨oc20, od20, .func (PySem.W.fnOf "_law_spoilt" "_law_spoilt" (defArgs s__law_spoilt) (defBody s__law_spoilt) (defScope s__law_spoilt) .none kV20 dc20 pm20 an20 cd20 ct20), sl20⟩)
    (c20 : PySem.W.codeIn K cd20 "_law_spoilt" = true) (k20 : PySem.W.keepIn K (.ref f20) = true)
    (a21 : PySem.W.nsIn K mainGlobals "_law_answered" = some (some (.ref f21)))
    (l21 : K.lookup f21 = some ⟨oc21, od21, .func (PySem.W.fnOf "_law_answered" "_law_answered" (defArgs s__law_answered) (defBody s__law_answered) (defScope s__law_answered) .none kV21 dc21 pm21 an21 cd21 ct21), sl21⟩)
    (c21 : PySem.W.codeIn K cd21 "_law_answered" = true) (k21 : PySem.W.keepIn K (.ref f21) = true)
    (a22 : PySem.W.nsIn K mainGlobals "law" = some (some (.ref f22)))
    (l22 : K.lookup f22 = some ⟨oc22, od22, .func (PySem.W.fnOf "law" "law" (defArgs s_law) (defBody s_law) (defScope s_law) .none kV22 dc22 pm22 an22 cd22 ct22), sl22⟩)
    (c22 : PySem.W.codeIn K cd22 "law" = true) (k22 : PySem.W.keepIn K (.ref f22) = true)
    (z_ValueError : PySem.W.nsIn K mainGlobals "ValueError" = some none)
    (z_any : PySem.W.nsIn K mainGlobals "any" = some none)
    (z_bool : PySem.W.nsIn K mainGlobals "bool" = some none)
    (z_enumerate : PySem.W.nsIn K mainGlobals "enumerate" = some none)
    (z_int : PySem.W.nsIn K mainGlobals "int" = some none)
    (z_isinstance : PySem.W.nsIn K mainGlobals "isinstance" = some none)
    (z_len : PySem.W.nsIn K mainGlobals "len" = some none)
    (z_list : PySem.W.nsIn K mainGlobals "list" = some none)
    (z_max : PySem.W.nsIn K mainGlobals "max" = some none)
    (z_range : PySem.W.nsIn K mainGlobals "range" = some none)
    (z_str : PySem.W.nsIn K mainGlobals "str" = some none)
    (z_tuple : PySem.W.nsIn K mainGlobals "tuple" = some none) :
    ∃ fd : FuncData, (∀ (s : Shared) (v : Value), BindsTo s fd ⟨[v], []⟩ [("_law_script", v)]) ∧ ∀ base : Heap, K.In base → base.Ns mainGlobals mg → FnOk l.prog w K mg base CX0 9 fa fd ["_law_script"] (sp_law K) := by
  have e := hfa.symm.trans (PySem.W.mg_of X G a22)
  cases e
  have m_ValueError := PySem.W.mg_none_of X G z_ValueError
  have m_any := PySem.W.mg_none_of X G z_any
  have m_bool := PySem.W.mg_none_of X G z_bool
  have m_enumerate := PySem.W.mg_none_of X G z_enumerate
  have m_int := PySem.W.mg_none_of X G z_int
  have m_isinstance := PySem.W.mg_none_of X G z_isinstance
  have m_len := PySem.W.mg_none_of X G z_len
  have m_list := PySem.W.mg_none_of X G z_list
  have m_max := PySem.W.mg_none_of X G z_max
  have m_range := PySem.W.mg_none_of X G z_range
  have m_str := PySem.W.mg_none_of X G z_str
  have m_tuple := PySem.W.mg_none_of X G z_tuple
  have T : Txt K mg C_Stepping C_BadNumber C_TooMany C_BadLot C_BadTable C_Unlike C_ShelfError := ⟨PySem.W.mg_of X G a_Stepping, kc_Stepping, hd_Stepping, ha_Stepping, hm_Stepping, ⟨pg_Stepping, hd_Stepping, po_Stepping, sa_Stepping⟩, mk_Stepping, n_Stepping_many, n_Stepping_first, n_Stepping_aside, n_Stepping_steps, n_Stepping_leaves, PySem.W.mg_of X G a_BadNumber, kc_BadNumber, hd_BadNumber, ha_BadNumber, hm_BadNumber, b_BadNumber, t_BadNumber, ga_BadNumber, gg_BadNumber, ⟨⟨_, _, _, _, _, _, _, _, _, _, _, _, _, _, _, ol_BadNumber, or_BadNumber⟩, sa_BadNumber, b_BadNumber, t_BadNumber, kc_BadNumber⟩, ⟨ga_BadNumber, gg_BadNumber, b_BadNumber, hd_BadNumber⟩, n_BadNumber_what, n_BadNumber_at, PySem.W.mg_of X G a_TooMany, kc_TooMany, hd_TooMany, ha_TooMany, hm_TooMany, b_TooMany, t_TooMany, ga_TooMany, gg_TooMany, ⟨⟨_, _, _, _, _, _, _, _, _, _, _, _, _, _, _, ol_TooMany, or_TooMany⟩, sa_TooMany, b_TooMany, t_TooMany, kc_TooMany⟩, ⟨ga_TooMany, gg_TooMany, b_TooMany, hd_TooMany⟩, n_TooMany_many, n_TooMany_most, PySem.W.mg_of X G a_BadLot, kc_BadLot, hd_BadLot, ha_BadLot, hm_BadLot, b_BadLot, t_BadLot, ga_BadLot, gg_BadLot, x_BadLot, PySem.W.mg_of X G a_BadTable, kc_BadTable, hd_BadTable, ha_BadTable, hm_BadTable, b_BadTable, t_BadTable, ga_BadTable, gg_BadTable, ⟨⟨_, _, _, _, _, _, _, _, _, _, _, _, _, _, _, ol_BadTable, or_BadTable⟩, sa_BadTable, b_BadTable, t_BadTable, kc_BadTable⟩, ⟨ga_BadTable, gg_BadTable, b_BadTable, hd_BadTable⟩, n_BadTable_at, PySem.W.mg_of X G a_Unlike, kc_Unlike, hd_Unlike, ha_Unlike, hm_Unlike, b_Unlike, t_Unlike, ga_Unlike, gg_Unlike, ⟨⟨_, _, _, _, _, _, _, _, _, _, _, _, _, _, _, ol_Unlike, or_Unlike⟩, sa_Unlike, b_Unlike, t_Unlike, kc_Unlike⟩, ⟨ga_Unlike, gg_Unlike, b_Unlike, hd_Unlike⟩, n_Unlike_at, PySem.W.mg_of X G a_ShelfError, kc_ShelfError, hd_ShelfError, ha_ShelfError, hm_ShelfError, b_ShelfError, t_ShelfError, ga_ShelfError, gg_ShelfError, hnc, htk, sub_BadNumber_BadNumber, sub_TooMany_BadNumber, sub_TooMany_TooMany, sub_BadNumber_ShelfError, sub_TooMany_ShelfError, kit_BadNumber_ValueError, kit_BadNumber_BadNumber, kit_BadNumber_TooMany, kit_BadNumber_BadLot, kit_BadNumber_BadTable, kit_BadNumber_Unlike, kit_TooMany_ValueError, kit_TooMany_BadNumber, kit_TooMany_TooMany, kit_TooMany_BadLot, kit_TooMany_BadTable, kit_TooMany_Unlike, kit_Stepping_Stepping, ⟨_, PySem.W.mg_of X G a_MOST_STEPPED_THINGS⟩, ⟨_, PySem.W.mg_of X G a_MOST_THINGS⟩⟩
  have F1 := fun_mk (st := s_BadNumber___init__) l1 c1 k1
  have b1 := F1.binds (ps := ["self", "what", "at"]) fun _ _ _ _ _ _ us hl => match us, hl with | [_, _, _], _ => rfl
  have F2 := fun_mk (st := s_TooMany___init__) l2 c2 k2
  have b2 := F2.binds (ps := ["self", "many", "most"]) fun _ _ _ _ _ _ us hl => match us, hl with | [_, _, _], _ => rfl
  have F3 := fun_mk (st := s_check_many) l3 c3 k3
  have b3 := F3.binds (ps := ["many", "most"]) fun _ _ _ _ _ _ us hl => match us, hl with | [_, _], _ => rfl
  have F4 := fun_mk (st := s_check_length) l4 c4 k4
  have b4 := F4.binds (ps := ["what", "items", "many"]) fun _ _ _ _ _ _ us hl => match us, hl with | [_, _, _], _ => rfl
  have F5 := fun_mk (st := s_check_each) l5 c5 k5
  have b5 := F5.binds (ps := ["what", "numbers", "least"]) fun _ _ _ _ _ _ us hl => match us, hl with | [_, _, _], _ => rfl
  have F6 := fun_mk (st := s_check_least) l6 c6 k6
  have b6 := F6.binds (ps := ["what", "number", "least"]) fun _ _ _ _ _ _ us hl => match us, hl with | [_, _, _], _ => rfl
  have F7 := fun_mk (st := s_check_aside) l7 c7 k7
  have b7 := F7.binds (ps := ["aside"]) fun _ _ _ _ _ _ us hl => match us, hl with | [_], _ => rfl
  have F8 := fun_mk (st := s_Rule___init__) l8 c8 k8
  have b8 := F8.binds (ps := ["self", "many"]) fun _ _ _ _ _ _ us hl => match us, hl with | [_, _], _ => rfl
  have F9 := fun_mk (st := s__check_steps) l9 c9 k9
  have b9 := F9.binds (ps := ["steps", "many"]) fun _ _ _ _ _ _ us hl => match us, hl with | [_, _], _ => rfl
  have F10 : FunS K "__init__" "Stepping.__init__" s_Stepping___init__ cc10 cda10 f10 _ := ⟨⟨oc10, od10, kV10, dc10, pm10, an10, ct10, sl10, rfl, l10, c10⟩, k10⟩
  have b10 := F10.binds (ps := ["self", "first", "aside", "steps", "leaves"]) fun _ _ _ _ _ us hl => match us, hl with | [_, _, _, _, _], _ => rfl
  have S10 : SupC K mg C_Stepping C_Stepping cc10 cda10 f8 fi10 := ⟨⟨_, sa10⟩, sb10, ⟨_, _, _, sc10⟩, ⟨_, _, _, _, _, sd10, se10⟩, sg8, sh10, si10, sj10, PySem.W.mg_none_of X G sk10⟩
  have F11 := fun_mk (st := s__law_due) l11 c11 k11
  have b11 := F11.binds (ps := ["_law_first", "_law_aside", "_law_steps", "_law_leaves"]) fun _ _ _ _ _ _ us hl => match us, hl with | [_, _, _, _], _ => rfl
  have F12 := fun_mk (st := s__law_tried) l12 c12 k12
  have b12 := F12.binds (ps := ["_law_first", "_law_aside", "_law_steps", "_law_leaves"]) fun _ _ _ _ _ _ us hl => match us, hl with | [_, _, _, _], _ => rfl
  have F13 := fun_mk (st := s__law_classes) l13 c13 k13
  have b13 := F13.binds (ps := ["_law_first", "_law_aside", "_law_steps", "_law_leaves"]) fun _ _ _ _ _ _ us hl => match us, hl with | [_, _, _, _], _ => rfl
  have F14 := fun_mk (st := s__law_is_int) l14 c14 k14
  have b14 := F14.binds (ps := ["_law_x"]) fun _ _ _ _ _ _ us hl => match us, hl with | [_], _ => rfl
  have F15 := fun_mk (st := s__law_same_lot) l15 c15 k15
  have b15 := F15.binds (ps := ["_law_x", "_law_due_here"]) fun _ _ _ _ _ _ us hl => match us, hl with | [_, _], _ => rfl
  have F16 := fun_mk (st := s__law_keeps) l16 c16 k16
  have b16 := F16.binds (ps := ["_law_chain", "_law_question"]) fun _ _ _ _ _ _ us hl => match us, hl with | [_, _], _ => rfl
  have F17 := fun_mk (st := s__law_cell) l17 c17 k17
  have b17 := F17.binds (ps := ["_law_script", "_law_place"]) fun _ _ _ _ _ _ us hl => match us, hl with | [_, _], _ => rfl
  have F18 := fun_mk (st := s__law_draws) l18 c18 k18
  have b18 := F18.binds (ps := ["_law_cell_here", "_law_sizes"]) fun _ _ _ _ _ _ us hl => match us, hl with | [_, _], _ => rfl
  have F19 := fun_mk (st := s__law_stepping) l19 c19 k19
  have b19 := F19.binds (ps := ["_law_cell_here", "_law_many"]) fun _ _ _ _ _ _ us hl => match us, hl with | [_, _], _ => rfl
  have F20 := fun_mk (st := s__law_spoilt) l20 c20 k20
  have b20 := F20.binds (ps := ["_law_told", "_law_fault", "_law_place", "_law_much"]) fun _ _ _ _ _ _ us hl => match us, hl with | [_, _, _, _], _ => rfl
  have F21 := fun_mk (st := s__law_answered) l21 c21 k21
  have b21 := F21.binds (ps := ["_law_question"]) fun _ _ _ _ _ _ us hl => match us, hl with | [_], _ => rfl
  have F22 := fun_mk (st := s_law) l22 c22 k22
  refine ⟨PySem.W.fnOf "law" "law" (defArgs s_law) (defBody s_law) (defScope s_law) .none kV22 dc22 pm22 an22 cd22 ct22, fun s v => .of_eq rfl, fun base _ _ => ?_⟩
  have K_BadNumber___init__ : CalX l.prog w K mg base CX0 1 C_BadNumber ["self", "what", "at"] (sp_BadNumber___init__ C_BadNumber) := ⟨f1, _, ok_BadNumber___init__ F1 T, a1, beq_iff_eq.mp i1, b1⟩
  have K_TooMany___init__ : CalX l.prog w K mg base CX0 1 C_TooMany ["self", "many", "most"] (sp_TooMany___init__ C_TooMany) := ⟨f2, _, ok_TooMany___init__ F2 T, a2, beq_iff_eq.mp i2, b2⟩
  have K_check_many : Cal l.prog w K mg base (L2.CX l.prog w) 3 "check_many" ["many", "most"] (sp_check_many C_TooMany) := ⟨f3, _, ok_check_many F3 T K_TooMany___init__, PySem.W.mg_of X G a3, k3, b3⟩
  have K_check_length : Cal l.prog w K mg base (L2.CX l.prog w) 3 "check_length" ["what", "items", "many"] (sp_check_length C_BadNumber) := ⟨f4, _, ok_check_length F4 T m_len K_BadNumber___init__, PySem.W.mg_of X G a4, k4, b4⟩
  have K_check_each : Cal l.prog w K mg base (L2.CX l.prog w) 3 "check_each" ["what", "numbers", "least"] (sp_check_each K C_BadNumber) := ⟨f5, _, ok_check_each F5 T m_enumerate K_BadNumber___init__, PySem.W.mg_of X G a5, k5, b5⟩
  have K_check_least : Cal l.prog w K mg base (L2.CX l.prog w) 3 "check_least" ["what", "number", "least"] (sp_check_least C_BadNumber) := ⟨f6, _, ok_check_least F6 T K_BadNumber___init__, PySem.W.mg_of X G a6, k6, b6⟩
  have K_check_aside : Cal l.prog w K mg base (L2.CX l.prog w) 4 "check_aside" ["aside"] (sp_check_aside C_BadNumber) := ⟨f7, _, ok_check_aside F7 T K_check_least, PySem.W.mg_of X G a7, k7, b7⟩
  have K_Rule___init__ : ∃ fd : FuncData, FnOk l.prog w K mg base (L2.CX l.prog w) 4 f8 fd ["self", "many"] (sp_Rule___init__ C_Stepping C_TooMany) ∧ Binds K fd ["self", "many"] [] := ⟨_, ok_Rule___init__ F8 T K_check_many, b8⟩
  have K__check_steps : Cal l.prog w K mg base (L2.CX l.prog w) 4 "_check_steps" ["steps", "many"] (sp__check_steps C_BadNumber) := ⟨f9, _, ok__check_steps F9 T m_any m_enumerate m_len K_check_length K_BadNumber___init__, PySem.W.mg_of X G a9, k9, b9⟩
  have K_Stepping___init__ : CalI l.prog w K mg base (L2.CX l.prog w) 5 C_Stepping ["self", "first", "aside", "steps", "leaves"] (sp_Stepping___init__ C_Stepping C_TooMany C_BadNumber) [] := ⟨f10, _, ok_Stepping___init__ F10 S10 sl_10 sm10 T m_len m_tuple K_check_many K_Rule___init__ K_check_each K_check_aside K__check_steps K_check_length, ⟨mk_Stepping, a10, i10, kc_Stepping⟩, b10, [], .nil, b10⟩
  have K__law_due : Cal l.prog w K mg base CX0 1 "_law_due" ["_law_first", "_law_aside", "_law_steps", "_law_leaves"] sp__law_due := ⟨f11, _, ok__law_due F11 T m_len m_range, PySem.W.mg_of X G a11, k11, b11⟩
  have K__law_tried : Cal l.prog w K mg base CX0 7 "_law_tried" ["_law_first", "_law_aside", "_law_steps", "_law_leaves"] (sp__law_tried C_Stepping) := ⟨f12, _, ok__law_tried F12 T K_Stepping___init__, PySem.W.mg_of X G a12, k12, b12⟩
  have K__law_classes : Cal l.prog w K mg base CX0 7 "_law_classes" ["_law_first", "_law_aside", "_law_steps", "_law_leaves"] sp__law_classes := ⟨f13, _, ok__law_classes F13 T m_ValueError m_isinstance K_Stepping___init__, PySem.W.mg_of X G a13, k13, b13⟩
  have K__law_is_int : Cal l.prog w K mg base CX0 1 "_law_is_int" ["_law_x"] sp__law_is_int := ⟨f14, _, ok__law_is_int F14 T m_bool m_int m_isinstance, PySem.W.mg_of X G a14, k14, b14⟩
  have K__law_same_lot : Cal l.prog w K mg base CX0 2 "_law_same_lot" ["_law_x", "_law_due_here"] (sp__law_same_lot K) := ⟨f15, _, ok__law_same_lot F15 T m_isinstance m_len m_range m_tuple K__law_is_int, PySem.W.mg_of X G a15, k15, b15⟩
  have K__law_keeps : Cal l.prog w K mg base CX0 3 "_law_keeps" ["_law_chain", "_law_question"] (sp__law_keeps C_Stepping) := ⟨f16, _, ok__law_keeps F16 T m_isinstance m_len m_range m_tuple K__law_is_int K__law_same_lot, PySem.W.mg_of X G a16, k16, b16⟩
  have K__law_cell : Cal l.prog w K mg base CX0 1 "_law_cell" ["_law_script", "_law_place"] (sp__law_cell K) := ⟨f17, _, ok__law_cell F17 T m_int m_len, PySem.W.mg_of X G a17, k17, b17⟩
  have K__law_draws : Cal l.prog w K mg base CX0 1 "_law_draws" ["_law_cell_here", "_law_sizes"] (sp__law_draws K) := ⟨f18, _, ok__law_draws F18 T m_int m_len m_range, PySem.W.mg_of X G a18, k18, b18⟩
  have K__law_stepping : Cal l.prog w K mg base CX0 2 "_law_stepping" ["_law_cell_here", "_law_many"] (sp__law_stepping K) := ⟨f19, _, ok__law_stepping F19 T m_int m_range K__law_draws, PySem.W.mg_of X G a19, k19, b19⟩
  have K__law_spoilt : Cal l.prog w K mg base CX0 1 "_law_spoilt" ["_law_told", "_law_fault", "_law_place", "_law_much"] sp__law_spoilt := ⟨f20, _, ok__law_spoilt F20 T m_int m_len m_list, PySem.W.mg_of X G a20, k20, b20⟩
  have K__law_answered : Cal l.prog w K mg base CX0 8 "_law_answered" ["_law_question"] sp__law_answered := ⟨f21, _, ok__law_answered F21 T m_isinstance m_len m_list m_range m_str K__law_due K__law_tried K__law_keeps K__law_classes K__law_is_int, PySem.W.mg_of X G a21, k21, b21⟩
  exact ok_law F22 T m_int m_max m_range K__law_cell K__law_draws K__law_stepping K__law_spoilt K__law_answered
end K41
open PySem PySem.W PyProof.Rows
set_option pp.maxSteps 400 in
set_option maxHeartbeats 0 in
theorem PySem.Challenge.cw_dearestshelf_k41_stepping_refusals_holds : PySem.Challenge.rw_dearestshelf_k41_stepping_refusals.Holds := by
  w_on; o_law; k_head; (case hw => w_witness2)
  k_fill
  refine L2.walk_of (l := PySem.Challenge.rw_dearestshelf_k41_stepping_refusals) (n := 63) (k := 9) (x := "_law_script") (CX := fun _ => L2.CX0) (sp := fun w => K41.sp_law _) rfl (by decide) rfl ⟨rfl, by decide, by decide⟩ (fun w h Y => PySem.W.kIn_of Y) ?F (fun _ _ a ns hl _ hS => ⟨a, ns, rfl, hS, hl, fun _ => rfl⟩) (fun _ _ _ _ _ h => h)
  case F =>
    intro w mg fa h KX G hmg
    refine' K41.all_mk KX G hmg ?a_Stepping ?kc_Stepping ?hd_Stepping ?ha_Stepping ?hm_Stepping ?pg_Stepping ?po_Stepping ?sa_Stepping ?mk_Stepping ?n_Stepping_many ?n_Stepping_first ?n_Stepping_aside ?n_Stepping_steps ?n_Stepping_leaves ?a_BadNumber ?kc_BadNumber ?hd_BadNumber ?ha_BadNumber ?hm_BadNumber ?b_BadNumber ?t_BadNumber ?ga_BadNumber ?gg_BadNumber ?ol_BadNumber ?or_BadNumber ?sa_BadNumber ?n_BadNumber_what ?n_BadNumber_at ?a_TooMany ?kc_TooMany ?hd_TooMany ?ha_TooMany ?hm_TooMany ?b_TooMany ?t_TooMany ?ga_TooMany ?gg_TooMany ?ol_TooMany ?or_TooMany ?sa_TooMany ?n_TooMany_many ?n_TooMany_most ?a_BadLot ?kc_BadLot ?hd_BadLot ?ha_BadLot ?hm_BadLot ?b_BadLot ?t_BadLot ?ga_BadLot ?gg_BadLot ?x_BadLot ?a_BadTable ?kc_BadTable ?hd_BadTable ?ha_BadTable ?hm_BadTable ?b_BadTable ?t_BadTable ?ga_BadTable ?gg_BadTable ?ol_BadTable ?or_BadTable ?sa_BadTable ?n_BadTable_at ?a_Unlike ?kc_Unlike ?hd_Unlike ?ha_Unlike ?hm_Unlike ?b_Unlike ?t_Unlike ?ga_Unlike ?gg_Unlike ?ol_Unlike ?or_Unlike ?sa_Unlike ?n_Unlike_at ?a_ShelfError ?kc_ShelfError ?hd_ShelfError ?ha_ShelfError ?hm_ShelfError ?b_ShelfError ?t_ShelfError ?ga_ShelfError ?gg_ShelfError ?hnc ?htk ?sub_BadNumber_BadNumber ?sub_TooMany_BadNumber ?sub_TooMany_TooMany ?sub_BadNumber_ShelfError ?sub_TooMany_ShelfError ?kit_BadNumber_ValueError ?kit_BadNumber_BadNumber ?kit_BadNumber_TooMany ?kit_BadNumber_BadLot ?kit_BadNumber_BadTable ?kit_BadNumber_Unlike ?kit_TooMany_ValueError ?kit_TooMany_BadNumber ?kit_TooMany_TooMany ?kit_TooMany_BadLot ?kit_TooMany_BadTable ?kit_TooMany_Unlike ?kit_Stepping_Stepping ?a_MOST_STEPPED_THINGS ?a_MOST_THINGS ?a1 ?i1 ?l1 ?c1 ?k1 ?a2 ?i2 ?l2 ?c2 ?k2 ?a3 ?l3 ?c3 ?k3 ?a4 ?l4 ?c4 ?k4 ?a5 ?l5 ?c5 ?k5 ?a6 ?l6 ?c6 ?k6 ?a7 ?l7 ?c7 ?k7 ?sg8 ?l8 ?c8 ?k8 ?a9 ?l9 ?c9 ?k9 ?sa10 ?sb10 ?a10 ?i10 ?l10 ?c10 ?k10 ?sc10 ?sd10 ?se10 ?sh10 ?si10 ?sj10 ?sk10 ?sl_10 ?sm10 ?a11 ?l11 ?c11 ?k11 ?a12 ?l12 ?c12 ?k12 ?a13 ?l13 ?c13 ?k13 ?a14 ?l14 ?c14 ?k14 ?a15 ?l15 ?c15 ?k15 ?a16 ?l16 ?c16 ?k16 ?a17 ?l17 ?c17 ?k17 ?a18 ?l18 ?c18 ?k18 ?a19 ?l19 ?c19 ?k19 ?a20 ?l20 ?c20 ?k20 ?a21 ?l21 ?c21 ?k21 ?a22 ?l22 ?c22 ?k22 ?z_ValueError ?z_any ?z_bool ?z_enumerate ?z_int ?z_isinstance ?z_len ?z_list ?z_max ?z_range ?z_str ?z_tuple
    (case a_Stepping => k_is); (case kc_Stepping => k_is); (case hd_Stepping => k_is); (case ha_Stepping => k_is); (case hm_Stepping => k_is); (case pg_Stepping => k_is); (case po_Stepping => k_is); (case sa_Stepping => k_is); (case mk_Stepping => k_is); (case n_Stepping_many => k_is); (case n_Stepping_first => k_is); (case n_Stepping_aside => k_is); (case n_Stepping_steps => k_is); (case n_Stepping_leaves => k_is); (case a_BadNumber => k_is); (case kc_BadNumber => k_is); (case hd_BadNumber => k_is); (case ha_BadNumber => k_is); (case hm_BadNumber => k_is); (case b_BadNumber => k_is); (case t_BadNumber => k_is); (case ga_BadNumber => k_is); (case gg_BadNumber => k_is); (case ol_BadNumber => k_is); (case or_BadNumber => rfl); (case sa_BadNumber => k_is); (case n_BadNumber_what => k_is); (case n_BadNumber_at => k_is); (case a_TooMany => k_is); (case kc_TooMany => k_is); (case hd_TooMany => k_is); (case ha_TooMany => k_is); (case hm_TooMany => k_is); (case b_TooMany => k_is); (case t_TooMany => k_is); (case ga_TooMany => k_is); (case gg_TooMany => k_is); (case ol_TooMany => k_is); (case or_TooMany => rfl); (case sa_TooMany => k_is); (case n_TooMany_many => k_is); (case n_TooMany_most => k_is); (case a_BadLot => k_is); (case kc_BadLot => k_is); (case hd_BadLot => k_is); (case ha_BadLot => k_is); (case hm_BadLot => k_is); (case b_BadLot => k_is); (case t_BadLot => k_is); (case ga_BadLot => k_is); (case gg_BadLot => k_is); (case x_BadLot => k_exc); (case a_BadTable => k_is); (case kc_BadTable => k_is); (case hd_BadTable => k_is); (case ha_BadTable => k_is); (case hm_BadTable => k_is); (case b_BadTable => k_is); (case t_BadTable => k_is); (case ga_BadTable => k_is); (case gg_BadTable => k_is); (case ol_BadTable => k_is); (case or_BadTable => rfl); (case sa_BadTable => k_is); (case n_BadTable_at => k_is); (case a_Unlike => k_is); (case kc_Unlike => k_is); (case hd_Unlike => k_is); (case ha_Unlike => k_is); (case hm_Unlike => k_is); (case b_Unlike => k_is); (case t_Unlike => k_is); (case ga_Unlike => k_is); (case gg_Unlike => k_is); (case ol_Unlike => k_is); (case or_Unlike => rfl); (case sa_Unlike => k_is); (case n_Unlike_at => k_is); (case a_ShelfError => k_is); (case kc_ShelfError => k_is); (case hd_ShelfError => k_is); (case ha_ShelfError => k_is); (case hm_ShelfError => k_is); (case b_ShelfError => k_is); (case t_ShelfError => k_is); (case ga_ShelfError => k_is); (case gg_ShelfError => k_is); (case hnc => k_is); (case htk => k_is); (case sub_BadNumber_BadNumber => (first | rfl | k_is)); (case sub_TooMany_BadNumber => (first | rfl | k_is)); (case sub_TooMany_TooMany => (first | rfl | k_is)); (case sub_BadNumber_ShelfError => (first | rfl | k_is)); (case sub_TooMany_ShelfError => (first | rfl | k_is)); (case kit_BadNumber_ValueError => kit_is); (case kit_BadNumber_BadNumber => kit_is); (case kit_BadNumber_TooMany => kit_is); (case kit_BadNumber_BadLot => kit_is); (case kit_BadNumber_BadTable => kit_is); (case kit_BadNumber_Unlike => kit_is); (case kit_TooMany_ValueError => kit_is); (case kit_TooMany_BadNumber => kit_is); (case kit_TooMany_TooMany => kit_is); (case kit_TooMany_BadLot => kit_is); (case kit_TooMany_BadTable => kit_is); (case kit_TooMany_Unlike => kit_is); (case kit_Stepping_Stepping => kit_is); (case a_MOST_STEPPED_THINGS => k_is); (case a_MOST_THINGS => k_is); (case a1 => k_is); (case i1 => k_is); (case l1 => k_is); (case c1 => k_is); (case k1 => k_is); (case a2 => k_is); (case i2 => k_is); (case l2 => k_is); (case c2 => k_is); (case k2 => k_is); (case a3 => k_is); (case l3 => k_is); (case c3 => k_is); (case k3 => k_is); (case a4 => k_is); (case l4 => k_is); (case c4 => k_is); (case k4 => k_is); (case a5 => k_is); (case l5 => k_is); (case c5 => k_is); (case k5 => k_is); (case a6 => k_is); (case l6 => k_is); (case c6 => k_is); (case k6 => k_is); (case a7 => k_is); (case l7 => k_is); (case c7 => k_is); (case k7 => k_is); (case sg8 => ks_is); (case l8 => k_is); (case c8 => k_is); (case k8 => k_is); (case a9 => k_is); (case l9 => k_is); (case c9 => k_is); (case k9 => k_is); (case sa10 => k_is); (case sb10 => k_is); (case a10 => k_is); (case i10 => k_is); (case l10 => k_is); (case c10 => k_is); (case k10 => k_is); (case sc10 => k_is); (case sd10 => k_is); (case se10 => rfl); (case sh10 => k_is); (case si10 => k_is); (case sj10 => k_is); (case sk10 => k_is); (case sl_10 => (first | rfl | decide +kernel)); (case sm10 => (first | rfl | decide +kernel)); (case a11 => k_is); (case l11 => k_is); (case c11 => k_is); (case k11 => k_is); (case a12 => k_is); (case l12 => k_is); (case c12 => k_is); (case k12 => k_is); (case a13 => k_is); (case l13 => k_is); (case c13 => k_is); (case k13 => k_is); (case a14 => k_is); (case l14 => k_is); (case c14 => k_is); (case k14 => k_is); (case a15 => k_is); (case l15 => k_is); (case c15 => k_is); (case k15 => k_is); (case a16 => k_is); (case l16 => k_is); (case c16 => k_is); (case k16 => k_is); (case a17 => k_is); (case l17 => k_is); (case c17 => k_is); (case k17 => k_is); (case a18 => k_is); (case l18 => k_is); (case c18 => k_is); (case k18 => k_is); (case a19 => k_is); (case l19 => k_is); (case c19 => k_is); (case k19 => k_is); (case a20 => k_is); (case l20 => k_is); (case c20 => k_is); (case k20 => k_is); (case a21 => k_is); (case l21 => k_is); (case c21 => k_is); (case k21 => k_is); (case a22 => k_is); (case l22 => k_is); (case c22 => k_is); (case k22 => k_is); (case z_ValueError => k_is); (case z_any => k_is); (case z_bool => k_is); (case z_enumerate => k_is); (case z_int => k_is); (case z_isinstance => k_is); (case z_len => k_is); (case z_list => k_is); (case z_max => k_is); (case z_range => k_is); (case z_str => k_is); (case z_tuple => k_is)
