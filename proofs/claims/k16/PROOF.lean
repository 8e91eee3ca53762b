import PyProof.Rows.All
import Wide.All
import OpenK.AllK
import Wide.FinOn
import HandS.ForMost
import HandS.ForExc
import HandS.Wide
import HandS.IsInst
import HandS.More
import HandS.Conv
import HandS.Evl
import HandS.ExcIs
import HandS.Defaults
import HandS.ExcInit
import HandS.ExcField
import HandS.TryMany
import HandS.Nested
import HandS.ClsMeth
import HandS.Iter
import HandS.Walk
import HandS.Style
import HandS.ListEq
import KE.KSuper
import KE.RegKSuper
import KE.KExcIs
import KE.RegKIsAll
import HandS.OwnEq
import PySem.Challenge.RW_dearestshelf_k16_weighted_refusals
set_option Elab.async false
set_option linter.all false
set_option maxRecDepth 100000
set_option maxHeartbeats 8000000
set_option exponentiation.threshold 10000
namespace K16
open PySem PySem.Spec PyProof.Rows L2
def top (i : Nat) : Stmt := PySem.Challenge.pw_dearestshelf_k16_weighted_refusals.main.body.getD i (.Pass ⟨0, 0, 0, 0⟩)
abbrev s_BadNumber___init__ : Stmt := inClass (top 4) 0
theorem sc_BadNumber___init__ : FnScope ["self", "what", "at"] ["self", "what", "at"] (defScope s_BadNumber___init__) := ⟨rfl, rfl, rfl, by decide +kernel, rfl, by decide +kernel, by decide +kernel⟩
abbrev s_TooMany___init__ : Stmt := inClass (top 5) 0
theorem sc_TooMany___init__ : FnScope ["self", "many", "most"] ["self", "many", "most"] (defScope s_TooMany___init__) := ⟨rfl, rfl, rfl, by decide +kernel, rfl, by decide +kernel, by decide +kernel⟩
abbrev s_check_many : Stmt := top 7
theorem sc_check_many : FnScope ["many", "most"] ["many", "most"] (defScope s_check_many) := ⟨rfl, rfl, rfl, by decide +kernel, rfl, by decide +kernel, by decide +kernel⟩
abbrev s_check_each : Stmt := top 8
theorem sc_check_each : FnScope ["what", "numbers", "least", "at", "number"] ["what", "numbers", "least"] (defScope s_check_each) := ⟨rfl, rfl, rfl, by decide +kernel, rfl, by decide +kernel, by decide +kernel⟩
abbrev s_check_least : Stmt := top 9
theorem sc_check_least : FnScope ["what", "number", "least"] ["what", "number", "least"] (defScope s_check_least) := ⟨rfl, rfl, rfl, by decide +kernel, rfl, by decide +kernel, by decide +kernel⟩
abbrev s_check_aside : Stmt := top 10
theorem sc_check_aside : FnScope ["aside"] ["aside"] (defScope s_check_aside) := ⟨rfl, rfl, rfl, by decide +kernel, rfl, by decide +kernel, by decide +kernel⟩
abbrev s_Rule___init__ : Stmt := inClass (top 13) 0
theorem sc_Rule___init__ : FnScope ["self", "many"] ["self", "many"] (defScope s_Rule___init__) := ⟨rfl, rfl, rfl, by decide +kernel, rfl, by decide +kernel, by decide +kernel⟩
abbrev s_Weighted___init__ : Stmt := inClass (top 15) 0
theorem sc_Weighted___init__ : NdefX.NScope ["self", "weights", "aside", "__class__"] ["self", "weights", "aside"] ["__class__"] (defScope s_Weighted___init__) := NdefX.nscope_by (by decide +kernel)
abbrev s__law_cell : Stmt := top 17
theorem sc__law_cell : FnScope ["_law_script", "_law_place"] ["_law_script", "_law_place"] (defScope s__law_cell) := ⟨rfl, rfl, rfl, by decide +kernel, rfl, by decide +kernel, by decide +kernel⟩
abbrev s__law_draws : Stmt := top 18
theorem sc__law_draws : FnScope ["_law_cell_here", "_law_sizes", "_law_size", "_law_left", "_law_found", "_law_k", "_law_low", "_law_high"] ["_law_cell_here", "_law_sizes"] (defScope s__law_draws) := ⟨rfl, rfl, rfl, by decide +kernel, rfl, by decide +kernel, by decide +kernel⟩
abbrev s__law_row : Stmt := top 19
theorem sc__law_row : FnScope ["_law_cell_here", "_law_count", "_law_drawn", "_law_bound", "_law_value", "_law_k"] ["_law_cell_here", "_law_count"] (defScope s__law_row) := ⟨rfl, rfl, rfl, by decide +kernel, rfl, by decide +kernel, by decide +kernel⟩
abbrev s__law_ups : Stmt := top 20
theorem sc__law_ups : FnScope ["_law_row_here", "_law_number"] ["_law_row_here"] (defScope s__law_ups) := ⟨rfl, rfl, rfl, by decide +kernel, rfl, by decide +kernel, by decide +kernel⟩
abbrev s__law_is_int : Stmt := top 21
theorem sc__law_is_int : FnScope ["_law_x"] ["_law_x"] (defScope s__law_is_int) := ⟨rfl, rfl, rfl, by decide +kernel, rfl, by decide +kernel, by decide +kernel⟩
abbrev s__law_same_lot : Stmt := top 22
theorem sc__law_same_lot : FnScope ["_law_x", "_law_due_here", "_law_k"] ["_law_x", "_law_due_here"] (defScope s__law_same_lot) := ⟨rfl, rfl, rfl, by decide +kernel, rfl, by decide +kernel, by decide +kernel⟩
abbrev s__law_made : Stmt := top 23
theorem sc__law_made : FnScope ["_law_weights", "_law_aside", "e"] ["_law_weights", "_law_aside"] (defScope s__law_made) := ⟨rfl, rfl, rfl, by decide +kernel, rfl, by decide +kernel, by decide +kernel⟩
abbrev s__law_base : Stmt := top 24
theorem sc__law_base : FnScope ["_law_weights", "_law_aside", "e"] ["_law_weights", "_law_aside"] (defScope s__law_base) := ⟨rfl, rfl, rfl, by decide +kernel, rfl, by decide +kernel, by decide +kernel⟩
abbrev s__law_due : Stmt := top 25
theorem sc__law_due : FnScope ["_law_weights", "_law_aside", "_law_k"] ["_law_weights", "_law_aside"] (defScope s__law_due) := ⟨rfl, rfl, rfl, by decide +kernel, rfl, by decide +kernel, by decide +kernel⟩
abbrev s__law_refused : Stmt := top 26
theorem sc__law_refused : FnScope ["_law_told", "_law_due_here"] ["_law_told", "_law_due_here"] (defScope s__law_refused) := ⟨rfl, rfl, rfl, by decide +kernel, rfl, by decide +kernel, by decide +kernel⟩
abbrev s__law_right : Stmt := top 27
theorem sc__law_right : FnScope ["_law_weights", "_law_aside", "_law_passed", "_law_told", "_law_due_here"] ["_law_weights", "_law_aside"] (defScope s__law_right) := ⟨rfl, rfl, rfl, by decide +kernel, rfl, by decide +kernel, by decide +kernel⟩
abbrev s_law : Stmt := top 28
theorem sc_law : FnScope ["_law_script", "_law_first", "_law_many", "_law_aside", "_law_weights", "_law_faults", "_law_k", "_law_number", "_law_mended", "_law_weight"] ["_law_script"] (defScope s_law) := ⟨rfl, rfl, rfl, by decide +kernel, rfl, by decide +kernel, by decide +kernel⟩

/-! ### mathematics of draws -/
def Within : List Int → List Int → Prop
  | [], [] => True
  | d :: ds, n :: ns => (0 ≤ d ∧ d < n) ∧ Within ds ns
  | _, _ => False
theorem Within.len : ∀ {ds ns : List Int}, Within ds ns → ds.length = ns.length
  | [], [], _ => rfl
  | _ :: ds, _ :: ns, h => by
    rw [List.length_cons, List.length_cons, Within.len h.2]
  | [], _ :: _, h => h.elim
  | _ :: _, [], h => h.elim
theorem Within.snoc : ∀ {ds ns : List Int} {d n : Int}, Within ds ns → 0 ≤ d → d < n → Within (ds ++ [d]) (ns ++ [n])
  | [], [], d, n, _, h0, h1 => ⟨⟨h0, h1⟩, True.intro⟩
  | _ :: ds, _ :: ns, d, n, h, h0, h1 => ⟨h.1, Within.snoc h.2 h0 h1⟩
  | [], _ :: _, _, _, h, _, _ => h.elim
  | _ :: _, [], _, _, h, _, _ => h.elim
theorem Within.step {ds ns : List Int} {d n : Int} {i : Nat} (h : Within ds (ns.take i)) (hi : ns[i]? = some n) (h0 : 0 ≤ d) (h1 : d < n) : Within (ds ++ [d]) (ns.take (i + 1)) := by
  rw [List.take_add_one, hi]
  exact h.snoc h0 h1
theorem Within.zero (ns : List Int) : Within [] (ns.take 0) := by
  rw [List.take_zero]
  exact True.intro
theorem Within.full {ds ns : List Int} (h : Within ds (ns.take ns.length)) : Within ds ns := by
  rw [List.take_length] at h
  exact h
theorem int_of {ns : List Int} {i : Nat} {x : V} (h : (ns.map V.int)[i]? = some x) : ∃ n, x = .int n ∧ ns[i]? = some n := by
  rw [List.getElem?_map] at h
  cases e : ns[i]? with
  | none =>
    rw [e] at h
    cases h
  | some z =>
    rw [e] at h
    exact ⟨z, (Option.some.inj h).symm, rfl⟩
theorem int_at {ns : List Int} {i : Nat} {n : Int} (h : ns[i]? = some n) : (ns.map V.int)[i]? = some (.int n) := by
  rw [List.getElem?_map, h]
  rfl
theorem snoc_int (ds : List Int) (d : Int) : ds.map V.int ++ [V.int d] = (ds ++ [d]).map V.int := by
  rw [List.map_append]
  rfl
theorem same_upd {H : Hp} {p : Addr} {o : HO} (h : H p = none) : Same H (upd H p o) := fun b x e => by
  rw [upd_ne (ne_of_none e h)]
  exact e
theorem same_mut {H H1 : Hp} {p : Addr} {o : HO} (s : Same H H1) (h : H p = none) : Same H (upd H1 p o) := fun b x e => by
  rw [upd_ne (ne_of_none e h)]
  exact s b x e
theorem same_tup {K : PySem.W.Frag} {H H' : Hp} {a : Addr} {xs : List V} (e : Same H H') (h : SqT K H a xs) : SqT K H' a xs := by
  rcases h with (h | ⟨o, h⟩) | h
  · exact .inl (.inl (e _ _ h))
  · exact .inl (.inr ⟨o, e _ _ h⟩)
  · exact .inr h
theorem w_div {j : Int} (h : 0 < j) (hb : j < 2 ^ 100) : CDivW 0 j := wide_div (b := 100) h (by omega) (by decide) (by decide)
theorem lst_l {K : PySem.W.Frag} {H : Hp} {a : Addr} {xs : List V} (h : H a = some (.lst xs)) : SqL K H a xs := .inl (.inl h)
theorem tup_t {K : PySem.W.Frag} {H : Hp} {a : Addr} {xs : List V} (h : H a = some (.tup xs)) : SqT K H a xs := .inl (.inl h)
theorem lc_yes {σ : L2.St} {H : Hp} {F : Bool → Hp → Prop} (h : F true H) : tYes σ H F := h
theorem Within.c {ds ns : List Int} {n : Int} (h : Within ds (n :: ns)) : ∃ d r, ds = d :: r ∧ 0 ≤ d ∧ d < n ∧ Within r ns := by
  cases ds with
  | nil => exact h.elim
  | cons d r => exact ⟨d, r, rfl, h.1.1, h.1.2, h.2⟩
theorem Within.n {ds : List Int} (h : Within ds []) : ds = [] := by
  cases ds with
  | nil => rfl
  | cons d r => exact h.elim
theorem kI : kitB "int" "int" = some true := by decide +kernel
theorem kB : kitB "int" "bool" = some false := by decide +kernel
theorem kT : kitB "tuple" "tuple" = some true := by decide +kernel

theorem cut_from (xs : List V) (k : Nat) : cutV xs (some (k : Int)) none = xs.drop k := by
  unfold cutV
  rw [HT.sIx_nat, HT.sIx_none]
  by_cases h : k ≤ xs.length
  · rw [Nat.min_eq_left h]
    exact List.take_of_length_le (by rw [List.length_drop]; exact Nat.le_refl _)
  · rw [Nat.min_eq_right (by omega), List.drop_of_length_le (Nat.le_refl _), List.drop_of_length_le (by omega), List.take_nil]
theorem cut_from1 (xs : List V) : cutV xs (some 1) none = xs.drop 1 := by
  unfold cutV
  rw [show HT.sIx xs.length 0 (some 1) = min 1 xs.length from HT.sIx_nat xs.length 0 1, HT.sIx_none]
  cases xs with
  | nil => rfl
  | cons x r =>
    rw [show min 1 (x :: r).length = 1 by
      rw [List.length_cons]
      omega]
    show (List.take ((x :: r).length - 1) r) = r
    rw [List.length_cons, Nat.add_sub_cancel]
    exact List.take_length
theorem big18 : (0 : Int) < 10 ^ 18 ∧ (10 : Int) ^ 18 < 2 ^ 100 := by decide
theorem cut_to (xs : List V) (k : Nat) : cutV xs none (some (k : Int)) = xs.take k := by
  unfold cutV
  rw [HT.sIx_none, HT.sIx_nat, List.drop_zero, Nat.sub_zero]
  by_cases h : k ≤ xs.length
  · rw [Nat.min_eq_left h]
  · rw [Nat.min_eq_right (by omega), List.take_of_length_le (Nat.le_refl _), List.take_of_length_le (by omega)]

theorem iteD {c A B : Prop} [Decidable c] (hc : c) (h : A) : if decide c = true then A else B := by
  rw [if_pos (decide_eq_true hc)]
  exact h
theorem iteDF {c A B : Prop} [Decidable c] (hc : ¬ c) (h : B) : if decide c = true then A else B := by
  rw [decide_eq_false hc]
  exact iteF h
open NdefX (NScope ncx startF CellsAt inv_startN)
open ClX (pin_new pin_at base_none unpinE)

/-! ### own classes and errors: rules that the layer lacks -/
section
variable {X : Cx}
/-- a field's read, its K by another name -/
theorem pe_fldK {K : PySem.W.Frag} {e : Expr} {f : Str} {pos : Pos} {ta : TE} (he : PE X e ta) (hb : attributeBase e f X.env (eval e X.env) = eval e X.env) (hK : X.K = K := by rfl) : PE X (.Attribute e f pos) (tFld K ta f) := by
  subst hK
  exact pe_fld he hb
/-- floor division by a divisor of either sign -/
def CDivWN (_ j : Int) : Prop := j ≠ 0 ∧ j.natAbs.log2 < 9000
theorem op_fdivWN : OpR X (binaryOp .FloorDiv) (rI CDivWN fun i j => .int (i.fdiv j)) := opI fun _ _ _ _ _ _ _ c k => floordiv_int c.1 k (.inl (PyProof.noPylong_of_log2 c.2))
/-- a new instance whose __init__ may let an error out, wished for at the slots that stand -/
theorem made_at {CX : CXT} {n : Nat} {g D : Addr} {gd : FuncData} {qs : List Str} {pr : Sp} {Ex : L2.St → XK} {us0 : List Value} {vs0 : List V} {pn : List (Addr × Obj)} {τ : L2.St} {H0 : Hp} {st : Shared} {W : VK} {as : List Value} {xs : List V}
    (MK : Mk X.K D g) (OK : FnOk X.prog X.w X.K X.mg X.base CX n g gd qs pr) (room : Room (n + 1) X.A) (bd : Binds X.K gd qs us0) (dv : Vals vs0 us0) (out : PassesAt CX X τ (Ex τ)) (J : Inv X pn τ H0 st) (rel : Vals xs as)
    (go : ∀ p q, H0 p = none → H0 q = none → q ≠ p → pr (.ref p :: (xs ++ vs0)) (upd (upd H0 q (.own p)) p (.ins D q [])) (fun v H2 => v = .non ∧ W (.ref p) H2) (Ex τ)) :
    wpAny (model X.prog X.w) X.A (call (.ref D) as) (EP X pn τ W) X.xe st := by
  have new1 := J.hok.fresh (Nat.le_succ st.heap.objs.size)
  have new2 := J.hok.fresh (Nat.le_refl st.heap.objs.size)
  have asked := go _ _ new1 new2 (Nat.ne_of_lt (Nat.lt_succ_self _))
  have J2 := Inv.made (C := D) J
  have rel2 : Vals (V.ref (st.heap.objs.size + 1) :: (xs ++ vs0)) (Value.ref (st.heap.objs.size + 1) :: (as ++ us0)) :=
    .cons rfl (rel.append dv)
  have len2 : (Value.ref (st.heap.objs.size + 1) :: as ++ us0).length = qs.length := (rel2.length.symm).trans (OK.len _ _ _ _ asked)
  have env2 := J2.env0.make D as []
  have bound := bd _ (Value.ref (st.heap.objs.size + 1) :: as) J2.kIn len2
  have ran := OK.run _ X.stack _ _ _ _ _ _ (Ex τ) (room.make D as []) env2 bound rel2 asked
  refine wpAny_call (make_map (f := g) J.kIn MK.makes MK.init (beq_iff_eq.mp MK.fn) (codeAny_mono ran ?_))
  rintro (e | fl) s' back
  · exact out pn _ _ e s' J2 back
  · cases fl with
    | ret u =>
      obtain ⟨v, H', J3, rv, rfl, w3⟩ := J2.after back
      exact ⟨rv, V.ref (st.heap.objs.size + 1), _, J3, rfl, w3⟩
    | next => exact back.elim
    | brk => exact back.elim
    | cont => exact back.elim
def tMakeS (D : Addr) (pr : Sp) (vs0 : List V) (Ex : L2.St → XK) (t : TA) : TE := fun τ H Q => t τ H fun xs H1 => ∀ p q, H1 p = none → H1 q = none → q ≠ p →
  pr (.ref p :: (xs ++ vs0)) (upd (upd H1 q (.own p)) p (.ins D q [])) (fun v H2 => v = .non ∧ Q (.ref p) H2) (Ex τ)
theorem pe_makeS {CX : CXT} {n : Nat} {g D : Addr} {gd : FuncData} {qs : List Str} {pr : Sp} {Ex : L2.St → XK} {us0 : List Value} {vs0 : List V} {x : Str} {p pos : Pos} {e : Expr} {es : List Expr} {t : TA}
    (MK : Mk X.K D g) (OK : FnOk X.prog X.w X.K X.mg X.base CX n g gd qs pr) (room : Room (n + 1) X.A) (gl : Gl X x) (at_ : X.mg x = some (.ref D)) (bd : Binds X.K gd qs us0) (dv : Vals vs0 us0) (out : ∀ τ, PassesAt CX X τ (Ex τ)) (args : PA X (e :: es) t)
    (plain : (x == ("__debug__" : Str)) = false := by decide) (first : starEach (e :: es) X.env = (false, eval e X.env) :: starEach es X.env := by rfl) (noStar : (backTo pos (starEach es X.env)).any (·.1) = false := by rfl) :
    PE X (.Call (.Name x p) (e :: es) [] pos) (tMakeS D pr vs0 Ex t) :=
  ⟨fun pn s τ H Q J h => wpAny_Call_Name_kw (ld_glob J gl at_ (PySem.W.callWith_K (h₀ := X.base) J.ok.mod.kin MK.kp (thn (args.run pos pn s τ H _ J h) fun _ _ ⟨_, _, J1, rel, go⟩ => ⟨J1.kIn, made_at MK OK room bd dv (out τ) J1 rel go⟩) first noStar) plain)⟩
/-- isinstance(e, c) in a suite, e the error that it holds (of an own class at D, without a dict of its own) -/
def rIsX (K : PySem.W.Frag) (a : Addr) (cls : Value) (d : Option Addr) : List V → Hp → VK → Prop := fun xs H Q => ∃ D : Addr, ExcC K D ∧ cls = .ref D ∧ d = none ∧ rIsE K D a xs H Q
theorem call_isX {K : PySem.W.Frag} {a : Addr} {cls : Value} {d : Option Addr} {oe : Obj} {pn : List (Addr × Obj)} (hz : Zc cls d oe) (hf : ∃ vs, oe.data = .fields vs) (hK : X.K = K := by rfl) :
    CallR (X.suite a ((a, oe) :: pn)) (.builtin "isinstance") (rIsX K a cls d) := by
  intro pins s σ H xs us Q I r h
  subst hK
  obtain ⟨D, ec, rfl, rfl, h⟩ := h
  exact call_isE ec hz hf pins s σ H xs us Q I r h
end
theorem lk_one {k : Str} {v : V} {r : List (Str × V)} : List.lookup k ((k, v) :: r) = some v := by
  simp [List.lookup]
theorem lk_two {k g : Str} {v : V} {r : List (Str × V)} (h : (k == g) = false) : List.lookup k ((g, v) :: r) = List.lookup k r := by
  simp only [List.lookup, h]

/-! ### super().__init__(e, ..) as a method's first statement -/
theorem inst_of' {X : Cx} {pins : List (Addr × Obj)} {σ : L2.St} {H : Hp} {s : Shared} {a C dx : Addr} {fs : List (Str × V)} (I : Inv X pins σ H s) (e : H a = some (.ins C dx fs)) :
    s.heap.get? a = some (PySem.W.instObj C dx) ∧ ∃ od, PySem.W.InstAt s.heap a (PySem.W.instObj C dx) C (some od) := by
  obtain ⟨mA, O, _⟩ := ins_get I.hok e
  obtain ⟨od, J, _⟩ := O.look
  exact ⟨O.obj, od, J⟩
/-- what the top has written of a class D above which super() looks, for an instance of the class C: the function g at the name -/
structure SupC (K : PySem.W.Frag) (mg : Str → Option Value) (C D cc cda g : Addr) (file : Str) : Prop where
  isD : ∃ cd, PySem.W.clsIn K D = some cd
  sub : PySem.W.mroIn K C (.ref D) = some true
  cell : ∃ cl cld csl, K.lookup cc = some ⟨cl, cld, .cell (some (.ref D)), csl⟩
  code : ∃ ccl cdd vs ccs tf, K.lookup cda = some ⟨ccl, cdd, .fields vs, ccs⟩ ∧ vs[2]? = some (.str file tf)
  sup : PySem.W.ks_superIn K C D "__init__" = some (some (.ref g))
  tg : PySem.W.typeIn K (.ref g) = some (.type "function")
  fg : PySem.W.fnIn K g = true
  opq : PySem.W.nsIn K cStatics "thirdparty.any" = some none
  nosup : mg "super" = none
section
variable {CX : CXT} {P : Program} {w : World} {K : PySem.W.Frag} {mg : Str → Option Value} {base : Heap} {k j : Nat} {f g cc cda C D : Addr} {name qual : Str} {params : Arguments} {scope : Scope} {dV kV doc pm ct oc : Value} {an od : Option Addr}
  {osl : Array (Option Value)} {N ps qs : List Str} {sp si : Sp} {gd : FuncData} {e : Expr} {es : List Expr} {rest : List Stmt} {p0 p1 p2 p3 p4 : Pos} {ar : Arg} {pl : Sem Bool}
abbrev supSt (p0 p1 p2 p3 p4 : Pos) (es : List Expr) : Stmt := .Expr (.Call (.Attribute (.Call (.Name "super" p0) [] [] p1) "__init__" p2) es [] p3) p4
theorem fn_super {file : Str} (lk : K.lookup f = some ⟨oc, od, .func (PySem.W.ksFn name qual params (supSt p0 p1 p2 p3 p4 (e :: es) :: rest) scope dV kV doc pm an (.ref cda) ct cc), osl⟩) (hcd : PySem.W.codeIn K (.ref cda) qual = true) (S : NScope N ps ["__class__"] scope)
    (SC : SupC K mg C D cc cda g file) (hfile : ((P.main.file : Str) == file) = true) (htop : (P.main.scope.names.lookup ("super" : Str)).isSome = false) (hpar : (params.posonlyargs ++ params.args).head? = some ar) (hN : N[0]? = some ar.arg) (hka : scope.names.lookup ar.arg = some .local)
    (hks : scope.names.lookup ("super" : Str) = some .globalImplicit) (hkc : scope.names.lookup ("__class__" : Str) = some .free)
    (len : ∀ vs H Q E, sp vs H Q E → vs.length = ps.length) (G : FnOk P w K mg base CX j g gd qs si) (bd : Binds K gd qs []) (hj : j ≤ k)
    (hi : ∀ L, interactive (PySem.W.ksEnv qual scope L f (.ref cda) cc) = false)
    (hsw : ∀ L, swapsWith (.Call (.Attribute (.Call (.Name "super" p0) [] [] p1) "__init__" p2) (e :: es) [] p3) none p4.line (PySem.W.ksEnv qual scope L f (.ref cda) cc) = pure false)
    (hev : ∀ L, eval (.Call (.Attribute (.Call (.Name "super" p0) [] [] p1) "__init__" p2) (e :: es) [] p3) (PySem.W.ksEnv qual scope L f (.ref cda) cc) = (do
      let ov ← attributeBase (.Call (.Name "super" p0) [] [] p1) "__init__" (PySem.W.ksEnv qual scope L f (.ref cda) cc) (eval (.Call (.Name "super" p0) [] [] p1) (PySem.W.ksEnv qual scope L f (.ref cda) cc))
      standAt p2.atName
      let (f', first) ← holding [ov] (getMethod ov "__init__" pl)
      callWith p3 f' first (backTo p3 (starEach (e :: es) (PySem.W.ksEnv qual scope L f (.ref cda) cc))) []))
    (hst : ∀ L, starEach (e :: es) (PySem.W.ksEnv qual scope L f (.ref cda) cc) = (false, eval e (PySem.W.ksEnv qual scope L f (.ref cda) cc)) :: starEach es (PySem.W.ksEnv qual scope L f (.ref cda) cc))
    (hpl : ∀ L, (backTo p3 (starEach es (PySem.W.ksEnv qual scope L f (.ref cda) cc))).any (·.1) = false)
    (hbody : ∀ (A : Around) (outer : List Env) (s : Shared) (H : Hp) (vs : List V) (Q : VK) (E : XK), Room k (A.deeper (PySem.W.ksEnv qual scope s.heap.objs.size f (.ref cda) cc)) → sp vs H Q E →
      ∃ (ta : TA) (tr : TS) (a dx : Addr) (fs : List (Str × V)) (us0 : List V) (Ei : XK),
        PA (ncx CX P w K mg base N ⟨name, qual, params, supSt p0 p1 p2 p3 p4 (e :: es) :: rest, scope, [("__class__", cc)], cda⟩ f A outer s H E) (e :: es) ta ∧
        PSs (ncx CX P w K mg base N ⟨name, qual, params, supSt p0 p1 p2 p3 p4 (e :: es) :: rest, scope, [("__class__", cc)], cda⟩ f A outer s H E) rest tr ∧
        Passes CX (ncx CX P w K mg base N ⟨name, qual, params, supSt p0 p1 p2 p3 p4 (e :: es) :: rest, scope, [("__class__", cc)], cda⟩ f A outer s H E) Ei ∧ vs = .ref a :: us0 ∧ H a = some (.ins C dx fs) ∧
        ta (startF N vs [none]) H (fun ws H1 => si (.ref a :: ws) H1 (fun _ H2 => tr { nx := fun _ H' => Q .non H', rt := Q } (startF N vs [none]) H2) Ei)) :
    FnOk P w K mg base CX (k + 1) f (PySem.W.ksFn name qual params (supSt p0 p1 p2 p3 p4 (e :: es) :: rest) scope dV kV doc pm an (.ref cda) ct cc) ps sp := by
  refine ⟨len, fun A outer s H args us vs Q E hr e0 hb r asked => ?_⟩
  have hl := len _ _ _ _ asked
  have kb : ∀ b o, base.get? b = some o → s.heap.get? b = some o := fun b o z => (e0.bs b o z).1
  have KX : K.In s.heap := e0.mod.kin.keeps kb
  have lim : s.heap.NoLimit := e0.mod.nolimit.keeps kb
  obtain ⟨cl, cld, csl, hcell⟩ := SC.cell
  obtain ⟨ccl, cdd, fv, ccs, tf, hcode, hfv⟩ := SC.code
  obtain ⟨cdD, hD⟩ := SC.isD
  have C0 : CellsAt [("__class__", cc)] ["__class__"] [none] s.heap H := by
    refine ⟨rfl, fun y c z => ?_, fun y z c h1 h2 => ?_, fun i y z => ?_⟩
    · have hc : c = cc := by
        simp only [List.lookup] at z
        split at z
        · exact (Option.some.inj z).symm
        · cases z
      subst hc
      exact ⟨(e0.bs _ _ (e0.mod.kin _ _ hcell)).2, _, _, KX _ _ hcell, rfl⟩
    · have one : ∀ {t : Str}, [(("__class__" : Str), cc)].lookup t = some c → t = "__class__" := fun {t} h => by
        simp only [List.lookup] at h
        split at h
        · exact beq_iff_eq.mp (by assumption)
        · cases h
      rw [one h1, one h2]
    · have hy : y = "__class__" := by
        cases i with
        | zero => simpa using z.symm
        | succ n => simp at z
      subst hy
      exact ⟨cc, rfl, fun v h => by cases i <;> simp at h⟩
  refine ks_codeAny_call_defAt (fd := PySem.W.ksFn name qual params (supSt p0 p1 p2 p3 p4 (e :: es) :: rest) scope dV kV doc pm an (.ref cda) ct cc) (body := supSt p0 p1 p2 p3 p4 (e :: es) :: rest) (binds := ps.zip us) hr.depth (KX _ _ lk) rfl lim (PySem.W.codeRec_of KX hcd) rfl hb S.nocell (fun ⟨n, _⟩ hy => S.par n (List.of_mem_zip hy).1) (fun h₁ hns kp => ?_) S.co S.gen S.kind
  obtain ⟨ta, tr, a, dx, fs, us0, Ei, hpa, hps, hpass, ev, ha, hq⟩ := hbody A outer s H vs Q E (hr.deeper _) asked
  subst ev
  have I : Inv (ncx CX P w K mg base N ⟨name, qual, params, supSt p0 p1 p2 p3 p4 (e :: es) :: rest, scope, [("__class__", cc)], cda⟩ f A outer s H E) [] (startF N (.ref a :: us0) [none]) H { s with heap := h₁, toks := s.toks + (ps.zip us).length } := inv_startN (F := ⟨name, qual, params, supSt p0 p1 p2 p3 p4 (e :: es) :: rest, scope, [("__class__", cc)], cda⟩) S hr.hd e0 hl r C0 hns kp
  generalize hX : ncx CX P w K mg base N ⟨name, qual, params, supSt p0 p1 p2 p3 p4 (e :: es) :: rest, scope, [("__class__", cc)], cda⟩ f A outer s H E = X at I hpa hps hpass
  have hXr := hX
  subst hX
  have rm := hr.deeper (PySem.W.ksEnv qual scope s.heap.objs.size f (.ref cda) cc)
  show PySem.wpAt (model P w) (A.deeper (PySem.W.ksEnv qual scope s.heap.objs.size f (.ref cda) cc)) (.func (supSt p0 p1 p2 p3 p4 (e :: es) :: rest) (PySem.W.ksEnv qual scope s.heap.objs.size f (.ref cda) cc)) (execs (supSt p0 p1 p2 p3 p4 (e :: es) :: rest) (PySem.W.ksEnv qual scope s.heap.objs.size f (.ref cda) cc)) _ _ _
  refine ks_wpAt_execs_cons (ks_wpAt_Expr_any (ks_wpAt_MethodCall (pl := pl) ?_ (hev _)) (hi _) (hsw _))
  have KI := I.kIn
  refine ks_wpAt_super_base (env := PySem.W.ksEnv qual scope s.heap.objs.size f (.ref cda) cc) hks hkc (by decide) rfl (KI _ _ lk) rfl hpar rfl (KI _ _ hcode) rfl hfv hfile htop ?_
  obtain ⟨mb, hb1, hb2⟩ := I.mod.blt
  refine PySem.W.ks_loadName_global S.kind hks (Calls.loadGlobal_builtin (env := PySem.W.ksEnv qual scope s.heap.objs.size f (.ref cda) cc) (I.mod.glob.keeps I.bk) SC.nosup (hb1.keeps I.bk) ((hb2 "super" (by decide)).trans (by rfl)) ⟨rfl, ?_⟩)
  refine wpAny_loadName_free S.kind hkc rfl ⟨_, KI _ _ hcell, rfl⟩ ?_
  obtain ⟨m, hn, hl'⟩ := I.loc
  obtain ⟨u, ru, lku⟩ := hl' 0 ar.arg (.ref a) hN rfl (.inl hka)
  cases (show u = Value.ref a from ru)
  have hmu : m ar.arg = some (.ref a) := by
    rcases lku with ⟨_, z⟩ | ⟨z, _⟩
    · exact z
    · have hk' : scope.names.lookup ar.arg = some .cell ∨ scope.names.lookup ar.arg = some .free := z
      rw [hka] at hk'
      rcases hk' with z | z <;> cases z
  refine wpAny_loadName_local S.kind hka hn hmu ?_
  obtain ⟨oD, hD1, hD2⟩ : ∃ oD, h₁.get? D = some oD ∧ oD.data = .cls cdD := by
    unfold PySem.W.clsIn at hD
    split at hD
    · rename_i c d cd' sl ho
      cases hD
      exact ⟨_, KI _ _ ho, rfl⟩
    · cases hD
  refine ks_wpAny_isType_cls hD1 hD2 (And.intro rfl ?_)
  obtain ⟨hoa, oda, J⟩ := inst_of' I ha
  refine ks_wpAny_call_super hD1 hD2 J.at_ J.cls (fun c z => ?_) (PySem.W.looks_mroIn KI SC.sub) (fun h2 e2 k2 => ?_)
  · have := J.no
    unfold PySem.W.notCls at this
    rw [z] at this
    exact Bool.noConfusion this
  have I2 := I.kept (h' := h2) (t' := s.toks + (ps.zip us).length) k2
  have K2 := I2.kIn
  obtain ⟨hoa2, oda2, J2⟩ := inst_of' I2 ha
  have sup := SC.sup
  unfold PySem.W.ks_superIn at sup
  cases hc : PySem.W.clsIn K C with
  | none => rw [hc] at sup; cases sup
  | some cdC =>
  rw [hc] at sup
  obtain ⟨og, hog, hogc⟩ : ∃ og, h2.get? g = some og ∧ og.cls = .type "function" := by
    have ht' : (K.lookup g).map (·.cls) = some (.type "function") := SC.tg
    cases z : K.lookup g with
    | none =>
      rw [z] at ht'
      cases ht'
    | some og =>
      rw [z] at ht'
      exact ⟨og, K2 _ _ z, Option.some.inj ht'⟩
  refine ks_wpAny_getMethod_super e2 (PySem.W.looks_opaque K2 SC.opq) (l₀ := cdC.mro) (fun A Q E s k q => wpAny_bind ((PySem.W.looks_clsIn K2 hc) A _ E s k (wpAny_pure q))) rfl K2 sup hog hogc (PySem.W.ks_ne K2 J2 hc) (by decide) ?_
  have I3 : Inv (ncx CX P w K mg base N ⟨name, qual, params, supSt p0 p1 p2 p3 p4 (e :: es) :: rest, scope, [("__class__", cc)], cda⟩ f A outer s H E) [(h2.objs.size, PySem.W.methodObj (.ref g) (.ref a))] (startF N (.ref a :: us0) [none]) H ⟨h2.push (PySem.W.methodObj (.ref g) (.ref a)), s.gens, s.drawn, s.toks + (ps.zip us).length + 1, s.os⟩ :=
    pin_new (s := ⟨h2, s.gens, s.drawn, s.toks + (ps.zip us).length, s.os⟩) I2 (fun _ _ z => Heap.get?_push_of_some _ z) (Nat.le_refl _) (Heap.get?_push_size h2 rfl) (fun v z => nomatch z)
  have hbq : base.get? h2.objs.size = none := base_none I2 (Nat.le_refl _)
  have hL : h2.objs.size ≠ s.heap.objs.size := (I3.pin (h2.objs.size, PySem.W.methodObj (.ref g) (.ref a)) (List.mem_append_right _ List.mem_cons_self)).2.2.1
  refine PySem.W.callWith_M (K := K) (h₀ := base) (first := []) e0.mod.kin (news_at hL hbq (pin_at I3)) List.mem_cons_self SC.fg ?_ (hst _) (hpl _)
  refine wpAny_mono (hpa.run p3 _ _ _ H _ I3 hq) (fun ws s4 h4 => ?_) fun _ _ z => z
  obtain ⟨vs4, H4, I4, r4, q4⟩ := h4
  refine ⟨⟨pin_at I4, I4.kIn⟩, ?_⟩
  have lenq : (Value.ref a :: ws).length = qs.length := by
    have z := G.len _ _ _ _ q4
    rw [← z, List.length_cons, List.length_cons, r4.length]
  have bound := bd s4 (Value.ref a :: ws) I4.kIn (by rw [List.append_nil]; exact lenq)
  rw [List.append_nil] at bound
  have rm' : Room k (A.deeper (PySem.W.ksEnv qual scope s.heap.objs.size f (.ref cda) cc)) := hr.deeper _
  refine wpAny_mono (Q := fun u s' => EP (ncx CX P w K mg base N ⟨name, qual, params, supSt p0 p1 p2 p3 p4 (e :: es) :: rest, scope, [("__class__", cc)], cda⟩ f A outer s H E) [(h2.objs.size, PySem.W.methodObj (.ref g) (.ref a))] (startF N (.ref a :: us0) [none]) (fun _ H2 => tr { nx := fun _ H' => Q .non H', rt := Q } (startF N (.ref a :: us0) [none]) H2) u s')
    (wpAny_call (PySem.W.method_call (pin_at I4) (codeAny_mono (G.run _ _ s4 H4 ⟨Value.ref a :: ws, []⟩ (Value.ref a :: ws) (.ref a :: vs4) _ Ei (rm'.mono hj) I4.env0 bound (.cons rfl r4) q4) fun rr s' back => ?_))) (fun u s5 h5 => ?_) fun _ _ z => z
  · cases rr with
    | error er => exact hpass _ _ _ _ er s' I4 back
    | ok fl =>
      cases fl with
      | ret u => exact I4.after back
      | next => exact back.elim
      | brk => exact back.elim
      | cont => exact back.elim
  · obtain ⟨v5, H5, I5, _, q5⟩ := unpinE h5
    refine PySem.wpAt_of_wpAny ?_
    refine wpAny_mono (hps.run [] _ _ H5 _ I5 q5) (fun fl s' hs => ?_) fun er s' hs => hs
    have last : ∀ {τ : L2.St} {G' : Hp} {x : V} {y : Value}, Inv (ncx CX P w K mg base N ⟨name, qual, params, supSt p0 p1 p2 p3 p4 (e :: es) :: rest, scope, [("__class__", cc)], cda⟩ f A outer s H E) [] τ G' s' → L2.RelV x y → Q x G' → CE outer P w H s Q y s' :=
      fun {_ G' x _} Z rel z => ⟨x, G', Z.os, Z.bare, Z.base, Z.hok, rel, z⟩
    cases fl with
    | next =>
      obtain ⟨_, _, Z, z⟩ := hs
      exact last (x := V.non) (y := Value.none) Z rfl z
    | ret y =>
      obtain ⟨_, _, _, Z, rel, z⟩ := hs
      exact last Z rel z
    | brk => exact hs.elim fun _ ⟨_, _, z⟩ => z.elim
    | cont => exact hs.elim fun _ ⟨_, _, z⟩ => z.elim
end
/-- such a method as the top has written it: cc the cell of its class, cda its code -/
def FunS (K : PySem.W.Frag) (name qual : Str) (st : Stmt) (cc cda f : Addr) (fd : FuncData) : Prop :=
  (∃ (oc : Value) (od : Option Addr) (kV doc pm : Value) (an : Option Addr) (ct : Value) (osl : Array (Option Value)), fd = PySem.W.ksFn name qual (defArgs st) (defBody st) (defScope st) .none kV doc pm an (.ref cda) ct cc ∧
    K.lookup f = some ⟨oc, od, .func fd, osl⟩ ∧ PySem.W.codeIn K (.ref cda) qual = true) ∧ PySem.W.keepIn K (.ref f) = true
theorem FunS.binds {K : PySem.W.Frag} {name qual : Str} {st : Stmt} {cc cda f : Addr} {fd : FuncData} {ps : List Str} (F : FunS K name qual st cc cda f fd)
    (h : ∀ (kV doc pm : Value) (an : Option Addr) (ct : Value) (us : List Value), us.length = ps.length → bindArgs (PySem.W.ksFn name qual (defArgs st) (defBody st) (defScope st) .none kV doc pm an (.ref cda) ct cc) ⟨us, []⟩ = pure (ps.zip us)) : Binds K fd ps [] := by
  obtain ⟨⟨oc, od, kV, doc, pm, an, ct, osl, rfl, _, _⟩, _⟩ := F
  exact .all (h kV doc pm an ct)

/-! ### isinstance of a caught error, with or without fields -/
section
variable {X : Cx}
def rIsY (K : PySem.W.Frag) (a : Addr) (cls : Value) (d : Option Addr) : List V → Hp → VK → Prop := fun xs H Q => ∃ D : Addr, ExcC K D ∧ cls = .ref D ∧ (d = none ∨ ∃ dd fs, d = some dd ∧ H dd = some (.xd fs)) ∧ rIsE K D a xs H Q
theorem call_isY {K : PySem.W.Frag} {a : Addr} {cls : Value} {d : Option Addr} {oe : Obj} {pn : List (Addr × Obj)} (hz : Zc cls d oe) (hf : ∃ vs, oe.data = .fields vs) (hK : X.K = K := by rfl) :
    CallR (X.suite a ((a, oe) :: pn)) (.builtin "isinstance") (rIsY K a cls d) := by
  intro pins s σ H xs us Q I r h
  subst hK
  obtain ⟨D, ec, rfl, hd, h⟩ := h
  rcases hd with rfl | ⟨dd, fs, rfl, hdd⟩
  · exact call_isE ec hz hf pins s σ H xs us Q I r h
  · obtain ⟨c, cv, b, rfl, same, known, q⟩ := h
    obtain ⟨w1, ws, rfl, r1, rs⟩ : ∃ w1 ws, us = w1 :: ws ∧ RelV (.ref a) w1 ∧ Vals [c] ws := by
      cases r with
      | cons p t => exact ⟨_, _, rfl, p, t⟩
    obtain ⟨w2, rfl, r2⟩ : ∃ w2, ws = [w2] ∧ RelV c w2 := by
      cases rs with
      | cons p t =>
        cases t
        exact ⟨_, rfl, p⟩
    cases (show w1 = Value.ref a from r1)
    cases same _ r2
    obtain ⟨there, _⟩ := I.pin (a, oe) (List.mem_append.mpr (.inl List.mem_cons_self))
    obtain ⟨vs, hv⟩ := hf
    obtain ⟨mA, ns, _⟩ := (show ObjOk X.prog X.w H s.heap dd (.xd fs) from I.hok dd _ hdd)
    obtain ⟨od, ho, _⟩ := lookIn_ns ns
    have J : PySem.W.InstAt s.heap a oe D (some od) := ⟨there, hz.1, by unfold PySem.W.notCls; rw [hv] <;> rfl, by rw [hz.2]; exact ho⟩
    have cl : (PySem.W.clsIn X.K D).isSome = true := by
      obtain ⟨cd, hc, _⟩ := PySem.W.any_some ec.hd
      rw [hc]
      rfl
    exact PySem.W.kia_one (PySem.W.kitx_exc cl ec.hg ec.hk ec.hs ec.ha ec.hn ec.ht ec.hm) I.kIn J known (fun z => nomatch z) fun tk => ⟨.bl b, H, I.kept (t' := tk) fun _ _ z => z, rfl, q⟩
end

/-! ### try with several «except C as n» -/
/-- what the clauses wish of an error, one after the other: class, the name's slot, the suite's reading -/
def wAsM (K : PySem.W.Frag) (out : WX) (D : Ends) : List (Value × Nat × (Addr → Value → Option Addr → TS)) → WX
  | [] => out
  | (c, i, t) :: more => fun cls d σ H => ∃ b, PySem.W.exmOne K cls c = some b ∧
      (b = true → ∀ a, H a = none → t a cls d { nx := fun σ' H' => D.nx (σ'.set i none) H', rt := D.rt, bk := fun σ' H' => D.bk (σ'.set i none) H', ct := fun σ' H' => D.ct (σ'.set i none) H' } (σ.set i (some (.ref a))) H) ∧
      (b = false → wAsM K out D more cls d σ H)
inductive ClausesOk (X : Cx) : List ExceptHandler → List (Value × Nat × (Addr → Value → Option Addr → TS)) → Prop
  | nil : ClausesOk X [] []
  | cons {x n : Str} {c : Value} {i : Nat} {t : Addr → Value → Option Addr → TS} {st : Stmt} {sts : List Stmt} {q q' : Pos} {hs : List ExceptHandler} {ls : List (Value × Nat × (Addr → Value → Option Addr → TS))} (known : Names X x c) (slot : X.N[i]? = some n)
      (lo : X.env.kindOf n = some .local) (suite : ∀ (a : Addr) (oe : Obj) (cls : Value) (d : Option Addr) (pn : List (Addr × Obj)), Zc cls d oe → (∃ vs, oe.data = .fields vs) → PSs (X.suite a ((a, oe) :: pn)) (st :: sts) (t a cls d))
      (more : ClausesOk X hs ls) : ClausesOk X (.ExceptHandler (some (.Name x q)) (some n) (st :: sts) q' :: hs) ((c, i, t) :: ls)
section
variable {X : Cx} {body : List Stmt} {h1 : ExceptHandler} {hs : List ExceptHandler} {ls : List (Value × Nat × (Addr → Value → Option Addr → TS))} {pos : Pos} {tb : WX → TS} {out : WX}
theorem ps_try_asM (st : X.stack = X.env :: X.outer) (fr : X.env.frame = some X.env.locals) (nd : X.N.Nodup) (tk : Takes X out)
    (runs : ∀ (W : WX) (pn : List (Addr × Obj)) (xe : Value → Shared → Prop), Takes (X.tr pn xe) W → PassesOwn (model X.prog X.w) X.A X.env xe → PSs (X.tr pn xe) body (tb W))
    (cl : ClausesOk X (h1 :: hs) ls) : PS X (.Try body (h1 :: hs) [] [] pos) (fun D σ H => tb (wAsM X.K out D ls) D σ H) := by
  refine ⟨fun pins s σ H D I want => ?_⟩
  have ok := I.ok
  have frames : X.A.frames = some (X.env :: X.outer) := by rw [ok.frames, st]
  refine wpAny_Try_except ?_
  refine wpAny_mono ((runs (wAsM X.K out D ls) (X.pn ++ pins) (fun u t1 => wpAny (model X.prog X.w) X.A (noteFrame u X.env) (fun _ t2 => wpAny (model X.prog X.w) X.A (setFlight u none)
    (fun _ t3 => wpAny (model X.prog X.w) X.A (handleBy u X.env (h1 :: hs)) (SP X pins D) X.xe t3) X.xe t2) X.xe t1) (fun u t0 flown => ?_) PassesOwn.looking).run [] s σ H D (I.toTry _) want) (fun f t0 done => ?_) (fun _ _ y => y)
  · obtain ⟨a, B, sI, pins1, σ1, H1, cls, d, rfl, J0, bare, kept, sky, fresh, osE, agree, wish⟩ := flown
    have J : Inv X pins σ1 H1 sI := J0.ofTry ok
    have sky1 : Sky B (X.env :: X.outer) a (Zc cls d) X.env.locals t0.heap := st ▸ sky
    show wpAny (model X.prog X.w) X.A (noteFrame (.ref a) X.env) _ X.xe t0
    refine Sky.land Zc.steady frames fr sky1 fun g fl up => ?_
    obtain ⟨oe, vs, atE, zE, dataE⟩ := fl.there
    have outF : a ∉ frs (X.env :: X.outer) := fun mem => by
      obtain ⟨_, o, here, no⟩ := fl.2.2.1.mem mem
      cases atE.symm.trans here
      exact no _ dataE
    have nL : a ≠ X.env.locals := fun z => outF (List.mem_filterMap.mpr ⟨X.env, List.mem_cons_self, by rw [fr, z]⟩)
    have nF : a ∉ X.fs := fun mem => outF (by
      obtain ⟨e, m1, m2⟩ := List.mem_filterMap.mp mem
      exact List.mem_filterMap.mpr ⟨e, List.mem_cons_of_mem _ m1, m2⟩)
    have J1 : Inv X pins σ1 H1 { t0 with heap := g } := J.landed bare fl.1 (kept.trans up) osE agree
    have S1 := J1.suite atE dataE fresh nL nF
    have go : ∀ {hh : List ExceptHandler} {ll : List (Value × Nat × (Addr → Value → Option Addr → TS))}, ClausesOk X hh ll → wAsM X.K out D ll cls d σ1 H1 → wpAny (model X.prog X.w) X.A (handleBy (.ref a) X.env hh) (SP X pins D) X.xe { t0 with heap := g } := by
      intro hh ll cc
      induction cc with
      | nil =>
        intro fly
        refine wpAny_handleBy_nil ?_
        obtain ⟨_, _, _, o, ws, T, oT, ts, g1, g2, g3, g4, _⟩ := id fl
        unfold PySem.passOn
        refine wpAny_bind (wpAny_field g1 g3 g4 ?_)
        rw [if_neg (by simp : ¬ ((Value.ref T == Value.none) = true))]
        have on : wpAny (model X.prog X.w) X.A (setFlight (.ref a) X.env.frame) (fun _ t4 => wpAny (model X.prog X.w) X.A (throw (.ref a) : Sem Flow) (SP X pins D) X.xe t4) X.xe { t0 with heap := g } := by
          rw [fr]
          exact HandSPX.setFlight_upZ fl fun g' sky' up' => wpAny_throw (tk _ _ ⟨a, B, sI, pins, σ1, H1, cls, d, rfl, J, bare, (kept.trans up).trans up', .inr (.inr (by rw [st]; exact sky')), fresh, osE, agree, fly⟩)
        first
          | exact wpAny_bind (wpAny_pure (wpAny_bind on))
          | exact wpAny_bind on
      | @cons x n c i t b₀ bs q q' hs' ls' known slot lo suite more ih =>
        intro w1
        obtain ⟨b, asked, yes, no⟩ := w1
        refine wpAny_handleBy_cons (codeAny_handlers_test ?_) (fun z => by cases z)
        have typ : PySem.W.Looks (model X.prog X.w) g (typeOf (.ref a)) cls := fun _ _ _ _ k z => wpAny_typeOf_ref (k _ _ atE) (by rw [zE.1]; exact z)
        have name : ∀ {Q : Value → Shared → Prop} {E : Value → Shared → Prop}, Q c { t0 with heap := g } → wpAny (model X.prog X.w) (X.A.mark (some (.ref a))) (eval (.Name x q) X.env) Q E { t0 with heap := g } := fun {Q E} z => by
          obtain ⟨k1, k2, k3 | ⟨k3, k4, k5⟩⟩ := known
          · exact ld_glob (X := X.suite a ((a, oe) :: (X.pn ++ pins))) S1 k1 k3 z k2
          · exact ld_blt (X := X.suite a ((a, oe) :: (X.pn ++ pins))) S1 k1 k3 k4 z k5 k2
        refine name ((PySem.W.exm_one (M := model X.prog X.w) J1.kIn typ asked).here ?_)
        cases b with
        | false => exact ih (no rfl)
        | true =>
          refine codeAny_handlers_suite_as (HandSPX.lands_againZ fl fun g' fl' up' => ?_)
          obtain ⟨oe', ws, atE', zE', dataE'⟩ := fl'.there
          have J2 : Inv X pins σ1 H1 { t0 with heap := g' } := J.landed bare fl'.1 ((kept.trans up).trans up') osE agree
          have S2 := J2.suite atE' dataE' fresh nL nF
          refine store_ok (X := X.suite a ((a, oe') :: (X.pn ++ pins))) (v := .ref a) S2 nd slot (.inl lo) rfl (fun t5 S5 => ?_) (.inr lo)
          refine wpAny_mono ((suite a oe' cls d (X.pn ++ pins) zE' ⟨_, dataE'⟩).run [] t5 _ H1 _ S5 (yes rfl a fresh)) (fun f t6 done => ?_) (fun _ _ z => z.elim)
          have gone : ∀ {σ6 : L2.St} {H6 : Hp} {Q : Shared → Prop}, Inv (X.suite a ((a, oe') :: (X.pn ++ pins))) [] σ6 H6 t6 → (∀ t7, Inv X pins (σ6.set i none) H6 t7 → Q t7) →
              wpAny (model X.prog X.w) X.A (do bindName X.env n .none; unbindBehindTheSuite X.env n q') (fun _ t7 => Q t7) X.xe t6 := fun S6 z => gone_ok (S6.unsuite ok) nd slot lo z
          cases f with
          | ret u =>
            obtain ⟨v6, σ6, H6, S6, r6, q6⟩ := done
            exact gone S6 fun _ J7 => ⟨_, _, _, J7, r6, q6⟩
          | next =>
            obtain ⟨_, _, S6, q6⟩ := done
            exact gone S6 fun _ J7 => ⟨_, _, J7, q6⟩
          | brk =>
            obtain ⟨_, _, S6, q6⟩ := done
            exact gone S6 fun _ J7 => ⟨_, _, J7, q6⟩
          | cont =>
            obtain ⟨_, _, S6, q6⟩ := done
            exact gone S6 fun _ J7 => ⟨_, _, J7, q6⟩
    exact go cl wish
  · cases f with
    | ret u =>
      obtain ⟨v, _, _, J1, r1, q1⟩ := done
      exact ⟨v, _, _, J1.ofTry ok, r1, q1⟩
    | next =>
      obtain ⟨_, _, J1, q1⟩ := done
      exact wpAny_execs_nil ⟨_, _, J1.ofTry ok, q1⟩
    | brk =>
      obtain ⟨_, _, J1, q1⟩ := done
      exact ⟨_, _, J1.ofTry ok, q1⟩
    | cont =>
      obtain ⟨_, _, J1, q1⟩ := done
      exact ⟨_, _, J1.ofTry ok, q1⟩
end

/-! ### errors of two fields -/
/-- the heap behind C(x, y), where __init__ stores both -/
def errH (H : Hp) (a C dx : Addr) (f g : Str) (x y : V) : Hp := upd (upd (upd H dx (exd dx [(f, x)])) a (exo a C (some dx))) dx (exd dx [(g, y), (f, x)])
theorem raise2 {C : Addr} {f g : Str} {x y : V} {H : Hp} {Q : XK} (hq : ∀ d, H d = none → Q (.ref C) (some d) (upd H d (.xd [(g, y), (f, x)]))) {a dx : Addr} (na : H a = none) (nd : upd H a (exo a C none) dx = none) (ne : dx ≠ a) :
    V.non = .non ∧ ∃ (d : Addr) (fs : List (Str × V)), errH (upd H a (exo a C none)) a C dx f g x y a = some (exo a C (some d)) ∧ errH (upd H a (exo a C none)) a C dx f g x y d = some (exd d fs) ∧ H d = none ∧
      Q (.ref C) (some d) (upd (del (errH (upd H a (exo a C none)) a C dx f g x y) a) d (.xd fs)) := by
  rw [upd_ne ne] at nd
  refine ⟨rfl, dx, _, ?_, upd_same, nd, ?_⟩
  · unfold errH
    rw [upd_ne (Ne.symm ne), upd_same]
  · have e : upd (del (errH (upd H a (exo a C none)) a C dx f g x y) a) dx (.xd [(g, y), (f, x)]) = upd H dx (.xd [(g, y), (f, x)]) := by
      funext b
      by_cases h1 : b = dx
      · rw [h1, upd_same, upd_same]
      · rw [upd_ne h1, upd_ne h1]
        by_cases h2 : b = a
        · rw [h2, del_same, na]
        · rw [del_ne h2]
          unfold errH
          rw [upd_ne h1, upd_ne h2, upd_ne h1, upd_ne h2]
    rw [e]
    exact hq dx nd
/-- the first weight below 1, from place i on -/
def badAt : List Int → Nat → Option Nat
  | [], _ => none
  | n :: r, i => if n < 1 then some i else badAt r (i + 1)

/-- the fields of a Weighted -/
def fW (m aside : Int) (t : Addr) : List (Str × V) := putF "aside" (.int aside) (putF "weights" (.ref t) (putF "many" (.int m) []))
/-- nothing but the object at p is another -/
def SameX (p : Addr) (H H' : Hp) : Prop := ∀ b o, b ≠ p → H b = some o → H' b = some o
theorem SameX.trans {p : Addr} {H H' H2 : Hp} (h : SameX p H H') (k : SameX p H' H2) : SameX p H H2 := fun b o n z => k b o n (h b o n z)
theorem SameX.new {p : Addr} {H : Hp} {a : Addr} {o : HO} (n : H a = none) : SameX p H (upd H a o) := fun b u _ z => (upd_ne (ne_of_none z n)).trans z
theorem SameX.put {p : Addr} {H : Hp} {o : HO} : SameX p H (upd H p o) := fun b u n z => (upd_ne n).trans z

/-- the first number below b, from place i on -/
def lowAt (b : Int) : List Int → Nat → Option Nat
  | [], _ => none
  | n :: r, i => if n < b then some i else lowAt b r (i + 1)
theorem low_bad : ∀ (ns : List Int) (i : Nat), lowAt 1 ns i = badAt ns i
  | [], _ => rfl
  | n :: r, i => by
    unfold lowAt badAt
    rw [low_bad r (i + 1)]

theorem same_sx {p : Addr} {H H' : Hp} (h : Same H H') : SameX p H H' := fun b o _ z => h b o z
theorem dp_ints {K : PySem.W.Frag} {H : Hp} {a : Addr} {ns : List Int} (h : SqL K H a (ns.map V.int)) : Dp K H (.ref a) (.list (ns.map PyData.int)) := by
  refine .lst h ?_
  clear h
  induction ns with
  | nil => exact .nil
  | cons n r ih => exact .cons (.int n) ih
theorem depthAll_ints : ∀ ns : List Int, PyData.depthAll (ns.map PyData.int) = 0
  | [] => rfl
  | n :: r => by
    show max (PyData.depth (.int n)) (PyData.depthAll (r.map PyData.int)) = 0
    rw [depthAll_ints r]
    rfl
theorem depth_ints (ns : List Int) : PyData.depth (.list (ns.map PyData.int)) = 1 := by
  show PyData.depthAll (ns.map PyData.int) + 1 = 1
  rw [depthAll_ints]
theorem lay_ints : ∀ ns : List Int, PyData.canLayAll0 (ns.map PyData.int) = true
  | [] => rfl
  | _ :: r => (Bool.true_and _).trans (lay_ints r)
/-- what is due for these weights and this number -/
inductive Due | many (m : Nat) | num (k : Nat) | aside | made
def dueW (ns : List Int) (aside : Int) : Due := if ns.length > 24 then .many ns.length else match badAt ns 0 with
  | some k => .num k
  | none => if aside < 1 then .aside else .made
def Due.due : Due → List V
  | .many m => [.str "many", .int m, .int 24]
  | .num k => [.str "number", .str "weights", .int k]
  | .aside => [.str "number", .str "aside", .non]
  | .made => [.str "made", .int 0, .int 0]
def Due.told : Due → List V
  | .many m => [.str "many", .int m, .int 24, .bl false]
  | .num k => [.str "number", .str "weights", .int k, .bl false]
  | .aside => [.str "number", .str "aside", .non, .bl false]
  | .made => []
theorem due_many {ns : List Int} {a : Int} (h : ns.length > 24) : dueW ns a = .many ns.length := if_pos h
theorem due_num {ns : List Int} {a : Int} {k : Nat} (h : ¬ ns.length > 24) (hb : badAt ns 0 = some k) : dueW ns a = .num k := by
  unfold dueW
  rw [if_neg h, hb]
theorem due_aside {ns : List Int} {a : Int} (h : ¬ ns.length > 24) (hb : badAt ns 0 = none) (ha : a < 1) : dueW ns a = .aside := by
  unfold dueW
  rw [if_neg h, hb]
  exact if_pos ha
theorem due_made {ns : List Int} {a : Int} (h : ¬ ns.length > 24) (hb : badAt ns 0 = none) (ha : ¬ a < 1) : dueW ns a = .made := by
  unfold dueW
  rw [if_neg h, hb]
  exact if_neg ha
theorem sameX_made {C x dx : Addr} {H H' : Hp} (nx : H x = none) (nd : H dx = none) (k : SameX x (upd (upd H dx (.own x)) x (.ins C dx [])) H') : Same H H' := fun b o e => by
  have h1 : b ≠ x := ne_of_none e nx
  have h2 : b ≠ dx := ne_of_none e nd
  exact k b o h1 (by rw [upd_ne h1, upd_ne h2]; exact e)
theorem fW_weights (m a : Int) (t : Addr) : (fW m a t).lookup ("weights" : Str) = some (V.ref t) := by rfl
theorem fW_aside (m a : Int) (t : Addr) : (fW m a t).lookup ("aside" : Str) = some (V.int a) := by rfl
theorem kSt : kitB "str" "str" = some true := by decide +kernel

theorem iteND {c A B : Prop} [Decidable c] (h : ¬ c) (a : A) : if (!decide c) = true then A else B := by
  rw [decide_eq_false h]
  exact iteT a
theorem due_head {d : Due} (h : d ≠ .made) : ∃ (w : Str) (r : List V), d.due = .str w :: r ∧ V.str w ≠ V.str "made" := by
  cases d with
  | made => exact absurd rfl h
  | many m => exact ⟨_, _, rfl, by decide⟩
  | num k => exact ⟨_, _, rfl, by decide⟩
  | aside => exact ⟨_, _, rfl, by decide⟩
theorem told_head {d : Due} (h : d ≠ .made) : ∃ (w : Str) (r : List V), d.told = .str w :: r ∧ V.str w ≠ V.str "made" := by
  cases d with
  | made => exact absurd rfl h
  | many m => exact ⟨_, _, rfl, by decide⟩
  | num k => exact ⟨_, _, rfl, by decide⟩
  | aside => exact ⟨_, _, rfl, by decide⟩

/-- max(1, n) -/
def mx (n : Int) : Int := if n > 1 then n else 1
theorem set_ints (ps : List Int) (j : Nat) (v : Int) : (ps.map V.int).set j (.int v) = (ps.set j v).map V.int := by rw [List.map_set]
/-- what the top has written of the classes -/
structure Txt (K : PySem.W.Frag) (mg : Str → Option Value) (C_Weighted C_BadNumber C_TooMany C_ZeroBottom C_ShelfError : Addr) : Prop where
  g_Weighted : mg "Weighted" = some (.ref C_Weighted)
  kc_Weighted : PySem.W.keepIn K (.ref C_Weighted) = true
  hd_Weighted : PySem.W.hasDictIn K C_Weighted = true
  ha_Weighted : PySem.W.findIn K (.ref C_Weighted) "__class__" = some (some (.builtin "object.__class__"))
  hm_Weighted : PySem.W.mroIn K C_Weighted (.type "object") = some true
  cl_Weighted : Cls K C_Weighted
  mk_Weighted : PySem.W.makesIn K C_Weighted = true
  n_Weighted_many : NoAttr K C_Weighted "many"
  n_Weighted_weights : NoAttr K C_Weighted "weights"
  n_Weighted_aside : NoAttr K C_Weighted "aside"
  g_BadNumber : mg "BadNumber" = some (.ref C_BadNumber)
  kc_BadNumber : PySem.W.keepIn K (.ref C_BadNumber) = true
  hd_BadNumber : PySem.W.hasDictIn K C_BadNumber = true
  ha_BadNumber : PySem.W.findIn K (.ref C_BadNumber) "__class__" = some (some (.builtin "object.__class__"))
  hm_BadNumber : PySem.W.mroIn K C_BadNumber (.type "object") = some true
  b_BadNumber : PySem.W.subIn K (.ref C_BadNumber) (.type "BaseException") = some true
  t_BadNumber : PySem.W.typeIn K (.ref C_BadNumber) = some (.type "type")
  ga_BadNumber : PySem.W.findIn K (.ref C_BadNumber) "__getattribute__" = some (some (.builtin "BaseException.__getattribute__"))
  gg_BadNumber : PySem.W.findIn K (.ref C_BadNumber) "__getattr__" = some none
  ox_BadNumber : OexC K C_BadNumber
  xf_BadNumber : XfC K C_BadNumber
  n_BadNumber_what : PySem.W.findIn K (.ref C_BadNumber) "what" = some none
  n_BadNumber_at : PySem.W.findIn K (.ref C_BadNumber) "at" = some none
  g_TooMany : mg "TooMany" = some (.ref C_TooMany)
  kc_TooMany : PySem.W.keepIn K (.ref C_TooMany) = true
  hd_TooMany : PySem.W.hasDictIn K C_TooMany = true
  ha_TooMany : PySem.W.findIn K (.ref C_TooMany) "__class__" = some (some (.builtin "object.__class__"))
  hm_TooMany : PySem.W.mroIn K C_TooMany (.type "object") = some true
  b_TooMany : PySem.W.subIn K (.ref C_TooMany) (.type "BaseException") = some true
  t_TooMany : PySem.W.typeIn K (.ref C_TooMany) = some (.type "type")
  ga_TooMany : PySem.W.findIn K (.ref C_TooMany) "__getattribute__" = some (some (.builtin "BaseException.__getattribute__"))
  gg_TooMany : PySem.W.findIn K (.ref C_TooMany) "__getattr__" = some none
  ox_TooMany : OexC K C_TooMany
  xf_TooMany : XfC K C_TooMany
  n_TooMany_many : PySem.W.findIn K (.ref C_TooMany) "many" = some none
  n_TooMany_most : PySem.W.findIn K (.ref C_TooMany) "most" = some none
  g_ZeroBottom : mg "ZeroBottom" = some (.ref C_ZeroBottom)
  kc_ZeroBottom : PySem.W.keepIn K (.ref C_ZeroBottom) = true
  hd_ZeroBottom : PySem.W.hasDictIn K C_ZeroBottom = true
  ha_ZeroBottom : PySem.W.findIn K (.ref C_ZeroBottom) "__class__" = some (some (.builtin "object.__class__"))
  hm_ZeroBottom : PySem.W.mroIn K C_ZeroBottom (.type "object") = some true
  b_ZeroBottom : PySem.W.subIn K (.ref C_ZeroBottom) (.type "BaseException") = some true
  t_ZeroBottom : PySem.W.typeIn K (.ref C_ZeroBottom) = some (.type "type")
  ga_ZeroBottom : PySem.W.findIn K (.ref C_ZeroBottom) "__getattribute__" = some (some (.builtin "BaseException.__getattribute__"))
  gg_ZeroBottom : PySem.W.findIn K (.ref C_ZeroBottom) "__getattr__" = some none
  g_ShelfError : mg "ShelfError" = some (.ref C_ShelfError)
  kc_ShelfError : PySem.W.keepIn K (.ref C_ShelfError) = true
  hd_ShelfError : PySem.W.hasDictIn K C_ShelfError = true
  ha_ShelfError : PySem.W.findIn K (.ref C_ShelfError) "__class__" = some (some (.builtin "object.__class__"))
  hm_ShelfError : PySem.W.mroIn K C_ShelfError (.type "object") = some true
  b_ShelfError : PySem.W.subIn K (.ref C_ShelfError) (.type "BaseException") = some true
  t_ShelfError : PySem.W.typeIn K (.ref C_ShelfError) = some (.type "type")
  ga_ShelfError : PySem.W.findIn K (.ref C_ShelfError) "__getattribute__" = some (some (.builtin "BaseException.__getattribute__"))
  gg_ShelfError : PySem.W.findIn K (.ref C_ShelfError) "__getattr__" = some none
  hnc : PySem.W.specialIn K (.builtin "object.__class__") "__get__" = some (some (.builtin "getset_descriptor.__get__"))
  htk : PySem.W.takesIn K (.builtin "object.__class__") = some true
  sub_BadNumber_BadNumber : PySem.W.subIn K (.ref C_BadNumber) (.ref C_BadNumber) = some true
  sub_TooMany_BadNumber : PySem.W.subIn K (.ref C_TooMany) (.ref C_BadNumber) = some false
  sub_TooMany_TooMany : PySem.W.subIn K (.ref C_TooMany) (.ref C_TooMany) = some true
  sub_BadNumber_ShelfError : PySem.W.subIn K (.ref C_BadNumber) (.ref C_ShelfError) = some true
  sub_TooMany_ShelfError : PySem.W.subIn K (.ref C_TooMany) (.ref C_ShelfError) = some true
  kit_BadNumber_TooMany : PySem.W.kitOne K (.ref C_BadNumber) (.ref C_TooMany) = some false
  kit_BadNumber_ZeroBottom : PySem.W.kitOne K (.ref C_BadNumber) (.ref C_ZeroBottom) = some false
  kit_TooMany_BadNumber : PySem.W.kitOne K (.ref C_TooMany) (.ref C_BadNumber) = some false
  kit_TooMany_ZeroBottom : PySem.W.kitOne K (.ref C_TooMany) (.ref C_ZeroBottom) = some false
  kit_BadNumber_ValueError : PySem.W.kitOne K (.ref C_BadNumber) (.type "ValueError") = some true
  kit_TooMany_ValueError : PySem.W.kitOne K (.ref C_TooMany) (.type "ValueError") = some true
  kit_Weighted_Weighted : PySem.W.kitOne K (.ref C_Weighted) (.ref C_Weighted) = some true
  g_MOST_THINGS : ∃ t, mg "MOST_THINGS" = some (.int 24 t)
theorem Txt.ec_BadNumber {K : PySem.W.Frag} {mg : Str → Option Value} {C_Weighted C_BadNumber C_TooMany C_ZeroBottom C_ShelfError : Addr} (T : Txt K mg C_Weighted C_BadNumber C_TooMany C_ZeroBottom C_ShelfError) : ExcC K C_BadNumber := ⟨T.ga_BadNumber, T.gg_BadNumber, T.b_BadNumber, T.hd_BadNumber, T.ha_BadNumber, T.hnc, T.htk, T.hm_BadNumber⟩
theorem Txt.ec_TooMany {K : PySem.W.Frag} {mg : Str → Option Value} {C_Weighted C_BadNumber C_TooMany C_ZeroBottom C_ShelfError : Addr} (T : Txt K mg C_Weighted C_BadNumber C_TooMany C_ZeroBottom C_ShelfError) : ExcC K C_TooMany := ⟨T.ga_TooMany, T.gg_TooMany, T.b_TooMany, T.hd_TooMany, T.ha_TooMany, T.hnc, T.htk, T.hm_TooMany⟩
theorem Txt.ec_ZeroBottom {K : PySem.W.Frag} {mg : Str → Option Value} {C_Weighted C_BadNumber C_TooMany C_ZeroBottom C_ShelfError : Addr} (T : Txt K mg C_Weighted C_BadNumber C_TooMany C_ZeroBottom C_ShelfError) : ExcC K C_ZeroBottom := ⟨T.ga_ZeroBottom, T.gg_ZeroBottom, T.b_ZeroBottom, T.hd_ZeroBottom, T.ha_ZeroBottom, T.hnc, T.htk, T.hm_ZeroBottom⟩
theorem Txt.ec_ShelfError {K : PySem.W.Frag} {mg : Str → Option Value} {C_Weighted C_BadNumber C_TooMany C_ZeroBottom C_ShelfError : Addr} (T : Txt K mg C_Weighted C_BadNumber C_TooMany C_ZeroBottom C_ShelfError) : ExcC K C_ShelfError := ⟨T.ga_ShelfError, T.gg_ShelfError, T.b_ShelfError, T.hd_ShelfError, T.ha_ShelfError, T.hnc, T.htk, T.hm_ShelfError⟩
theorem Txt.exm_BadNumber_BadNumber {K : PySem.W.Frag} {mg : Str → Option Value} {C_Weighted C_BadNumber C_TooMany C_ZeroBottom C_ShelfError : Addr} (T : Txt K mg C_Weighted C_BadNumber C_TooMany C_ZeroBottom C_ShelfError) : PySem.W.exmOne K (.ref C_BadNumber) (.ref C_BadNumber) = some true := PySem.W.exm_ref T.b_BadNumber T.hd_BadNumber T.t_BadNumber T.sub_BadNumber_BadNumber
theorem Txt.exm_TooMany_BadNumber {K : PySem.W.Frag} {mg : Str → Option Value} {C_Weighted C_BadNumber C_TooMany C_ZeroBottom C_ShelfError : Addr} (T : Txt K mg C_Weighted C_BadNumber C_TooMany C_ZeroBottom C_ShelfError) : PySem.W.exmOne K (.ref C_TooMany) (.ref C_BadNumber) = some false := PySem.W.exm_ref T.b_BadNumber T.hd_BadNumber T.t_BadNumber T.sub_TooMany_BadNumber
theorem Txt.exm_TooMany_TooMany {K : PySem.W.Frag} {mg : Str → Option Value} {C_Weighted C_BadNumber C_TooMany C_ZeroBottom C_ShelfError : Addr} (T : Txt K mg C_Weighted C_BadNumber C_TooMany C_ZeroBottom C_ShelfError) : PySem.W.exmOne K (.ref C_TooMany) (.ref C_TooMany) = some true := PySem.W.exm_ref T.b_TooMany T.hd_TooMany T.t_TooMany T.sub_TooMany_TooMany
theorem Txt.exm_BadNumber_ShelfError {K : PySem.W.Frag} {mg : Str → Option Value} {C_Weighted C_BadNumber C_TooMany C_ZeroBottom C_ShelfError : Addr} (T : Txt K mg C_Weighted C_BadNumber C_TooMany C_ZeroBottom C_ShelfError) : PySem.W.exmOne K (.ref C_BadNumber) (.ref C_ShelfError) = some true := PySem.W.exm_ref T.b_ShelfError T.hd_ShelfError T.t_ShelfError T.sub_BadNumber_ShelfError
theorem Txt.exm_TooMany_ShelfError {K : PySem.W.Frag} {mg : Str → Option Value} {C_Weighted C_BadNumber C_TooMany C_ZeroBottom C_ShelfError : Addr} (T : Txt K mg C_Weighted C_BadNumber C_TooMany C_ZeroBottom C_ShelfError) : PySem.W.exmOne K (.ref C_TooMany) (.ref C_ShelfError) = some true := PySem.W.exm_ref T.b_ShelfError T.hd_ShelfError T.t_ShelfError T.sub_TooMany_ShelfError

/-- a def that is called by its name, with its promise -/
def Cal (P : Program) (w : World) (K : PySem.W.Frag) (mg : Str → Option Value) (base : Heap) (CX : CXT) (k : Nat) (x : Str) (ps : List Str) (sp : Sp) : Prop :=
  ∃ (f : Addr) (fd : FuncData), FnOk P w K mg base CX k f fd ps sp ∧ mg x = some (.ref f) ∧ PySem.W.keepIn K (.ref f) = true ∧ Binds K fd ps []
/-- an own class's __init__; dvs: what stands for the parameters that a short call leaves out -/
def CalI (P : Program) (w : World) (K : PySem.W.Frag) (mg : Str → Option Value) (base : Heap) (CX : CXT) (k : Nat) (C : Addr) (ps : List Str) (sp : Sp) (dvs : List V) : Prop :=
  ∃ (f : Addr) (fd : FuncData), FnOk P w K mg base CX k f fd ps sp ∧ Mk K C f ∧ Binds K fd ps [] ∧ ∃ ds, Vals dvs ds ∧ Binds K fd ps ds
/-- an own error's __init__ -/
def CalX (P : Program) (w : World) (K : PySem.W.Frag) (mg : Str → Option Value) (base : Heap) (CX : CXT) (k : Nat) (C : Addr) (ps : List Str) (sp : Sp) : Prop :=
  ∃ (f : Addr) (fd : FuncData), FnOk P w K mg base CX k f fd ps sp ∧ PySem.W.findIn K (.ref C) "__init__" = some (some (.ref f)) ∧ PySem.W.typeIn K (.ref f) = some (.type "function") ∧ Binds K fd ps []
/-- a method -/
def CalM (P : Program) (w : World) (K : PySem.W.Frag) (mg : Str → Option Value) (base : Heap) (CX : CXT) (k : Nat) (C : Addr) (m : Str) (ps : List Str) (sp : Sp) : Prop :=
  ∃ (f : Addr) (fd : FuncData), FnOk P w K mg base CX k f fd ps sp ∧ Meth K C m f ∧ Binds K fd ps []
section
variable {P : Program} {w : World} {K : PySem.W.Frag} {mg : Str → Option Value} {base : Heap}
def sp_BadNumber___init__ (C : Addr) : Sp := fun vs H Q _ => ∃ (a : Addr) (x y : V), vs = [.ref a, x, y] ∧ H a = some (exo a C none) ∧ ∀ dx, H dx = none → dx ≠ a → Q .non (errH H a C dx "what" "at" x y)
theorem ok_BadNumber___init__ {f : Addr} {fd : FuncData} {C_Weighted C_BadNumber C_TooMany C_ZeroBottom C_ShelfError : Addr} (F : Fun K "__init__" "BadNumber.__init__" s_BadNumber___init__ f fd) (T : Txt K mg C_Weighted C_BadNumber C_TooMany C_ZeroBottom C_ShelfError) : FnOk P w K mg base CX0 1 f fd ["self", "what", "at"] (sp_BadNumber___init__ C_BadNumber) := by
  refine F.ok sc_BadNumber___init__ (fun vs H Q E h => ?_) (fun cdv A outer s H vs Q E hr h => ?_)
  · obtain ⟨a, x, y, rfl, _⟩ := h
    rfl
  · obtain ⟨a, x, y, rfl, ha, q⟩ := h
    refine ⟨_, (pss_cons (ps_ost (pv 0) (pv 1))
      (pss_one (ps_ost (pv 0) (pv 2)))), ?_⟩
    refine ⟨_, rfl, _, rfl, a, C_BadNumber, rfl, T.ox_BadNumber, T.n_BadNumber_what, .inl ⟨ha, fun dx nd ne => ?_⟩⟩
    exact ⟨_, rfl, _, rfl, a, C_BadNumber, rfl, T.ox_BadNumber, T.n_BadNumber_at, .inr ⟨dx, _, upd_same, (upd_ne ne).trans upd_same, by show 1 ≤ 900; decide, q dx nd ne⟩⟩
def sp_TooMany___init__ (C : Addr) : Sp := fun vs H Q _ => ∃ (a : Addr) (x y : V), vs = [.ref a, x, y] ∧ H a = some (exo a C none) ∧ ∀ dx, H dx = none → dx ≠ a → Q .non (errH H a C dx "many" "most" x y)
theorem ok_TooMany___init__ {f : Addr} {fd : FuncData} {C_Weighted C_BadNumber C_TooMany C_ZeroBottom C_ShelfError : Addr} (F : Fun K "__init__" "TooMany.__init__" s_TooMany___init__ f fd) (T : Txt K mg C_Weighted C_BadNumber C_TooMany C_ZeroBottom C_ShelfError) : FnOk P w K mg base CX0 1 f fd ["self", "many", "most"] (sp_TooMany___init__ C_TooMany) := by
  refine F.ok sc_TooMany___init__ (fun vs H Q E h => ?_) (fun cdv A outer s H vs Q E hr h => ?_)
  · obtain ⟨a, x, y, rfl, _⟩ := h
    rfl
  · obtain ⟨a, x, y, rfl, ha, q⟩ := h
    refine ⟨_, (pss_cons (ps_ost (pv 0) (pv 1))
      (pss_one (ps_ost (pv 0) (pv 2)))), ?_⟩
    refine ⟨_, rfl, _, rfl, a, C_TooMany, rfl, T.ox_TooMany, T.n_TooMany_many, .inl ⟨ha, fun dx nd ne => ?_⟩⟩
    exact ⟨_, rfl, _, rfl, a, C_TooMany, rfl, T.ox_TooMany, T.n_TooMany_most, .inr ⟨dx, _, upd_same, (upd_ne ne).trans upd_same, by show 1 ≤ 900; decide, q dx nd ne⟩⟩
def sp_check_many (CT : Addr) : Sp := fun vs H Q E => ∃ m n : Int, vs = [.int m, .int n] ∧ (m > n → ∀ d, H d = none → E (.ref CT) (some d) (upd H d (.xd [("most", .int n), ("many", .int m)]))) ∧ (¬ m > n → Q .non H)
theorem ok_check_many {f : Addr} {fd : FuncData} {C_Weighted C_BadNumber C_TooMany C_ZeroBottom C_ShelfError : Addr} (F : Fun K "check_many" "check_many" s_check_many f fd) (T : Txt K mg C_Weighted C_BadNumber C_TooMany C_ZeroBottom C_ShelfError) (c_TooMany___init__ : CalX P w K mg base CX0 1 C_TooMany ["self", "many", "most"] (sp_TooMany___init__ C_TooMany)) : FnOk P w K mg base (L2.CX P w) 3 f fd ["many", "most"] (sp_check_many C_TooMany) := by
  refine F.okX sc_check_many (fun vs H Q E h => ?_) (fun cdv A outer s H vs Q E hr h => ?_)
  · obtain ⟨m, n, rfl, _⟩ := h
    rfl
  · obtain ⟨m, n, rfl, kE, q⟩ := h
    obtain ⟨f_TooMany___init__, fd_TooMany___init__, G_TooMany___init__, ic_TooMany___init__, ti_TooMany___init__, b_TooMany___init__⟩ := c_TooMany___init__
    refine ⟨_, (pss_one (ps_if (pt_cmpR op_gt (pv 0) (pv 1) (nomark _)) (pss_one (ps_raise rfl (takes_of rfl rfl rfl rfl) (pmk_oex T.ox_TooMany ic_TooMany___init__ ti_TooMany___init__ G_TooMany___init__ (hr.mono (by decide)) b_TooMany___init__ .nil pass0 (by exact rfl) T.g_TooMany (pa_cons (pv 0) (pa_cons (pv 1) pa_nil))))) pss_nil)), ?_⟩
    refine ⟨_, rfl, _, rfl, _, _, rfl, rfl, _, rfl, ite2 (fun e => ?_) (fun e => q fun z => e (decide_eq_true z))⟩
    exact ⟨_, rfl, _, rfl, (by show 2 ≤ 1000; decide), fun a na => ⟨a, _, _, rfl, upd_same, fun dx nd ne => raise2 (kE (of_decide_eq_true e)) na nd ne⟩⟩
def sp_check_each (K : PySem.W.Frag) (CB : Addr) : Sp := fun vs H Q E => ∃ (l : Addr) (w : Str) (ns : List Int) (b : Int), vs = [.str w, .ref l, .int b] ∧ H l = some (.lst (ns.map V.int)) ∧ ns.length ≤ 1000 ∧ (∀ k : Nat, lowAt b ns 0 = some k → ∀ H' d, Same H H' → H' d = some (.xd [("at", .int k), ("what", .str w)]) → E (.ref CB) (some d) H') ∧ (lowAt b ns 0 = none → ∀ H', Same H H' → Q .non H')
theorem ok_check_each {f : Addr} {fd : FuncData} {C_Weighted C_BadNumber C_TooMany C_ZeroBottom C_ShelfError : Addr} (F : Fun K "check_each" "check_each" s_check_each f fd) (T : Txt K mg C_Weighted C_BadNumber C_TooMany C_ZeroBottom C_ShelfError) (m_enumerate : mg "enumerate" = none) (c_BadNumber___init__ : CalX P w K mg base CX0 1 C_BadNumber ["self", "what", "at"] (sp_BadNumber___init__ C_BadNumber)) : FnOk P w K mg base (L2.CX P w) 3 f fd ["what", "numbers", "least"] (sp_check_each K C_BadNumber) := by
  refine F.okX sc_check_each (fun vs H Q E h => ?_) (fun cdv A outer s H vs Q E hr h => ?_)
  · obtain ⟨l, w, ns, b, rfl, _⟩ := h
    rfl
  · obtain ⟨l, w, ns, b, rfl, hl, hlen, kE, q⟩ := h
    obtain ⟨f_BadNumber___init__, fd_BadNumber___init__, G_BadNumber___init__, ic_BadNumber___init__, ti_BadNumber___init__, b_BadNumber___init__⟩ := c_BadNumber___init__
    refine ⟨_, (pss_one (ps_for (passes_of rfl) rfl (pi_enum (by rfl) m_enumerate (pa_cons (pv 1) pa_nil)) (pg_tup rfl (pgs_cons (pg_name (i := 3) sc_check_each.nd rfl (Or.inl rfl)) (pgs_cons (pg_name (i := 4) sc_check_each.nd rfl (Or.inl rfl)) pgs_nil)))
      (pss_one (ps_if (pt_cmpR op_lt (pv 4) (pv 2) (nomark _)) (pss_one (ps_raise rfl (takes_of rfl rfl rfl rfl) (pmk_oex T.ox_BadNumber ic_BadNumber___init__ ti_BadNumber___init__ G_BadNumber___init__ (hr.mono (by decide)) b_BadNumber___init__ .nil pass0 (by exact rfl) T.g_BadNumber (pa_cons (pv 0) (pa_cons (pv 3) pa_nil))))) pss_nil)))), ?_⟩
    refine ⟨_, rfl, l, _, rfl, lst_l hl, ?_⟩
    refine for_it (walk_enum (K := K) (a := l) (xs := ns.map V.int)) (fun i σ H2 => ∃ y1 y2 : Option V, σ = [some (.str w), some (.ref l), some (.int b), y1, y2] ∧ Same H H2 ∧ lowAt b ns 0 = lowAt b (ns.drop i) i) ⟨none, none, rfl, fun _ _ z => z, rfl⟩ ?_ ?_ ?_
    · rintro i σ H2 _ ⟨_, _, _, sx, _⟩
      exact lst_l (sx l _ hl)
    · rintro i x σ H2 H3 hi ⟨y1, y2, rfl, sx, hb⟩ ⟨tp, ix, nx, rfl, ntp, rfl, e1, e2⟩
      cases e1
      obtain ⟨n, rfl, hn⟩ := int_of e2
      rw [List.length_map] at hi
      refine ⟨tp, _, rfl, tup_t upd_same, rfl, _, _, rfl, _, _, rfl, rfl, ?_⟩
      have hd : ns.drop i = n :: ns.drop (i + 1) := by
        rw [List.drop_eq_getElem_cons hi]
        rw [List.getElem?_eq_getElem hi] at hn
        rw [Option.some.inj hn]
      refine ⟨_, rfl, _, rfl, _, _, rfl, rfl, _, rfl, ite2 (fun c => ?_) (fun c => ?_)⟩
      · have c := of_decide_eq_true c
        have hk : lowAt b ns 0 = some i := by
          rw [hb, hd]
          exact if_pos c
        exact ⟨_, rfl, _, rfl, (by show 2 ≤ 1000; decide), fun a na => ⟨a, _, _, rfl, upd_same, fun dx2 nd ne => raise2 (fun d nd => kE i hk _ _ ((sx.trans (same_upd ntp)).trans (same_upd nd)) upd_same) na nd ne⟩⟩
      · have c : ¬ n < b := fun z => c (decide_eq_true z)
        refine ⟨_, _, rfl, sx.trans (same_upd ntp), ?_⟩
        rw [hb, hd]
        exact if_neg c
    · rintro σ H2 ⟨y1, y2, rfl, sx, hb⟩
      rw [List.length_map, List.drop_length] at hb
      exact q hb H2 sx
def sp_check_least (CB : Addr) : Sp := fun vs H Q E => ∃ (w : Str) (n b : Int), vs = [.str w, .int n, .int b] ∧ (n < b → ∀ d, H d = none → E (.ref CB) (some d) (upd H d (.xd [("at", .non), ("what", .str w)]))) ∧ (¬ n < b → Q .non H)
theorem ok_check_least {f : Addr} {fd : FuncData} {C_Weighted C_BadNumber C_TooMany C_ZeroBottom C_ShelfError : Addr} (F : Fun K "check_least" "check_least" s_check_least f fd) (T : Txt K mg C_Weighted C_BadNumber C_TooMany C_ZeroBottom C_ShelfError) (c_BadNumber___init__ : CalX P w K mg base CX0 1 C_BadNumber ["self", "what", "at"] (sp_BadNumber___init__ C_BadNumber)) : FnOk P w K mg base (L2.CX P w) 3 f fd ["what", "number", "least"] (sp_check_least C_BadNumber) := by
  refine F.okX sc_check_least (fun vs H Q E h => ?_) (fun cdv A outer s H vs Q E hr h => ?_)
  · obtain ⟨w, n, b, rfl, _⟩ := h
    rfl
  · obtain ⟨w, n, b, rfl, kE, q⟩ := h
    obtain ⟨f_BadNumber___init__, fd_BadNumber___init__, G_BadNumber___init__, ic_BadNumber___init__, ti_BadNumber___init__, b_BadNumber___init__⟩ := c_BadNumber___init__
    refine ⟨_, (pss_one (ps_if (pt_cmpR op_lt (pv 1) (pv 2) (nomark _)) (pss_one (ps_raise rfl (takes_of rfl rfl rfl rfl) (pmk_oex T.ox_BadNumber ic_BadNumber___init__ ti_BadNumber___init__ G_BadNumber___init__ (hr.mono (by decide)) b_BadNumber___init__ .nil pass0 (by exact rfl) T.g_BadNumber (pa_cons (pv 0) (pa_cons pe_non pa_nil))))) pss_nil)), ?_⟩
    refine ⟨_, rfl, _, rfl, _, _, rfl, rfl, _, rfl, ite2 (fun e => ?_) (fun e => q fun z => e (decide_eq_true z))⟩
    exact ⟨_, rfl, (by show 2 ≤ 1000; decide), fun a na => ⟨a, _, _, rfl, upd_same, fun dx nd ne => raise2 (kE (of_decide_eq_true e)) na nd ne⟩⟩
def sp_check_aside (CB : Addr) : Sp := fun vs H Q E => ∃ n : Int, vs = [.int n] ∧ (n < 1 → ∀ d, H d = none → E (.ref CB) (some d) (upd H d (.xd [("at", .non), ("what", .str "aside")]))) ∧ (¬ n < 1 → Q .non H)
theorem ok_check_aside {f : Addr} {fd : FuncData} {C_Weighted C_BadNumber C_TooMany C_ZeroBottom C_ShelfError : Addr} (F : Fun K "check_aside" "check_aside" s_check_aside f fd) (T : Txt K mg C_Weighted C_BadNumber C_TooMany C_ZeroBottom C_ShelfError) (c_check_least : Cal P w K mg base (L2.CX P w) 3 "check_least" ["what", "number", "least"] (sp_check_least C_BadNumber)) : FnOk P w K mg base (L2.CX P w) 4 f fd ["aside"] (sp_check_aside C_BadNumber) := by
  refine F.okX sc_check_aside (fun vs H Q E h => ?_) (fun cdv A outer s H vs Q E hr h => ?_)
  · obtain ⟨n, rfl, _⟩ := h
    rfl
  · obtain ⟨n, rfl, kE, q⟩ := h
    obtain ⟨f_check_least, fd_check_least, G_check_least, m_check_least, k_check_least, b_check_least⟩ := c_check_least
    refine ⟨_, (pss_one (ps_expr (pe_call G_check_least (hr.mono (by decide)) (by rfl) m_check_least k_check_least b_check_least .nil (passes_call (takes_of rfl rfl rfl rfl) (fun _ _ _ _ h => h)) (pa_cons pe_str (pa_cons (pv 0) (pa_cons pe_int pa_nil)))))), ?_⟩
    exact ⟨_, rfl, _, n, 1, rfl, kE, q⟩
def sp_Rule___init__ (C CT : Addr) : Sp := fun vs H Q E => ∃ (p dx : Addr) (fs : List (Str × V)) (m : Int), vs = [.ref p, .int m] ∧ H p = some (.ins C dx fs) ∧ fs.length ≤ 900 ∧ (m > 24 → ∀ d, H d = none → E (.ref CT) (some d) (upd H d (.xd [("most", .int 24), ("many", .int m)]))) ∧ (¬ m > 24 → Q .non (upd H p (.ins C dx (putF "many" (.int m) fs))))
theorem ok_Rule___init__ {f : Addr} {fd : FuncData} {C_Weighted C_BadNumber C_TooMany C_ZeroBottom C_ShelfError : Addr} (F : Fun K "__init__" "Rule.__init__" s_Rule___init__ f fd) (T : Txt K mg C_Weighted C_BadNumber C_TooMany C_ZeroBottom C_ShelfError) (c_check_many : Cal P w K mg base (L2.CX P w) 3 "check_many" ["many", "most"] (sp_check_many C_TooMany)) : FnOk P w K mg base (L2.CX P w) 4 f fd ["self", "many"] (sp_Rule___init__ C_Weighted C_TooMany) := by
  refine F.okX sc_Rule___init__ (fun vs H Q E h => ?_) (fun cdv A outer s H vs Q E hr h => ?_)
  · obtain ⟨p, dx, fs, m, rfl, _⟩ := h
    rfl
  · obtain ⟨p, dx, fs, m, rfl, hp, hl, kE, q⟩ := h
    obtain ⟨f_check_many, fd_check_many, G_check_many, m_check_many, k_check_many, b_check_many⟩ := c_check_many
    refine ⟨_, (pss_cons (ps_expr (pe_call G_check_many (hr.mono (by decide)) (by rfl) m_check_many k_check_many b_check_many .nil (passes_call (takes_of rfl rfl rfl rfl) (fun _ _ _ _ h => h)) (pa_cons (pv 1) (pa_cons (pe_glob (v := .int 24) (by rfl) T.g_MOST_THINGS.choose_spec ⟨_, rfl⟩) pa_nil))))
      (pss_one (ps_fld (pv 0) (pv 1) rfl))), ?_⟩
    refine ⟨_, rfl, m, 24, rfl, kE, fun e => ?_⟩
    exact ⟨_, rfl, _, rfl, p, C_Weighted, dx, fs, rfl, hp, T.cl_Weighted, T.n_Weighted_many, by omega, q e⟩
/-- what a Weighted wishes of its ends: the errors, the made one -/
structure MadeW (C CT CB p dx : Addr) (ns : List Int) (aside : Int) (H : Hp) (Q : VK) (E : XK) : Prop where
  t : ns.length > 24 → ∀ H' d, SameX p H H' → H' d = some (.xd [("most", .int 24), ("many", .int ns.length)]) → E (.ref CT) (some d) H'
  b : ¬ ns.length > 24 → ∀ k : Nat, badAt ns 0 = some k → ∀ H' d, SameX p H H' → H' d = some (.xd [("at", .int k), ("what", .str "weights")]) → E (.ref CB) (some d) H'
  a : ¬ ns.length > 24 → badAt ns 0 = none → aside < 1 → ∀ H' d, SameX p H H' → H' d = some (.xd [("at", .non), ("what", .str "aside")]) → E (.ref CB) (some d) H'
  m : ¬ ns.length > 24 → badAt ns 0 = none → ¬ aside < 1 → ∀ H' t, SameX p H H' → H' p = some (.ins C dx (fW ns.length aside t)) → H' t = some (.tup (ns.map V.int)) → Q .non H'
def sp_Weighted___init__ (K : PySem.W.Frag) (C CT CB : Addr) : Sp := fun vs H Q E => ∃ (p dx l : Addr) (ns : List Int) (aside : Int), vs = [.ref p, .ref l, .int aside] ∧ H p = some (.ins C dx []) ∧ H l = some (.lst (ns.map V.int)) ∧ ns.length ≤ 1000 ∧ MadeW C CT CB p dx ns aside H Q E
theorem ok_Weighted___init__ {f cc cda g_Rule : Addr} {fd : FuncData} {file : Str} {C_Weighted C_BadNumber C_TooMany C_ZeroBottom C_ShelfError : Addr} (F : FunS K "__init__" "Weighted.__init__" s_Weighted___init__ cc cda f fd) (SC : SupC K mg C_Weighted C_Weighted cc cda g_Rule file) (hfile : ((P.main.file : Str) == file) = true) (htop : (P.main.scope.names.lookup ("super" : Str)).isSome = false) (T : Txt K mg C_Weighted C_BadNumber C_TooMany C_ZeroBottom C_ShelfError) (m_len : mg "len" = none) (m_tuple : mg "tuple" = none) (c_Rule___init__ : ∃ fd : FuncData, FnOk P w K mg base (L2.CX P w) 4 g_Rule fd ["self", "many"] (sp_Rule___init__ C_Weighted C_TooMany) ∧ Binds K fd ["self", "many"] []) (c_check_each : Cal P w K mg base (L2.CX P w) 3 "check_each" ["what", "numbers", "least"] (sp_check_each K C_BadNumber)) (c_check_aside : Cal P w K mg base (L2.CX P w) 4 "check_aside" ["aside"] (sp_check_aside C_BadNumber)) : FnOk P w K mg base (L2.CX P w) 5 f fd ["self", "weights", "aside"] (sp_Weighted___init__ K C_Weighted C_TooMany C_BadNumber) := by
  obtain ⟨fd_Rule___init__, G_Rule___init__, b_Rule___init__⟩ := c_Rule___init__
  obtain ⟨f_check_each, fd_check_each, G_check_each, m_check_each, k_check_each, b_check_each⟩ := c_check_each
  obtain ⟨f_check_aside, fd_check_aside, G_check_aside, m_check_aside, k_check_aside, b_check_aside⟩ := c_check_aside
  obtain ⟨⟨oc, od, kV, doc, pm, an, ct, osl, rfl, lk, hcd⟩, _⟩ := F
  refine fn_super (C := C_Weighted) lk hcd sc_Weighted___init__ SC hfile htop rfl rfl rfl rfl rfl (fun vs H Q E h => ?_) G_Rule___init__ b_Rule___init__ (by decide) (fun _ => rfl) (fun _ => rfl) (fun _ => rfl) (fun _ => rfl) (fun _ => rfl) (fun A outer s H vs Q E hr h => ?_)
  · obtain ⟨p, dx, l, ns, aside, rfl, _⟩ := h
    rfl
  · obtain ⟨p, dx, l, ns, aside, rfl, hp, hl, hlen, W⟩ := h
    refine ⟨_, _, p, dx, [], _, E, (pa_cons (pe_callB call_len_seq (by rfl) m_len (by decide +kernel) (pa_cons (pv 1) pa_nil)) pa_nil), (pss_cons (ps_expr (pe_call G_check_each (hr.mono (by decide)) (by rfl) m_check_each k_check_each b_check_each .nil (passes_call (takes_of rfl rfl rfl rfl) (fun _ _ _ _ h => h)) (pa_cons pe_str (pa_cons (pv 1) (pa_cons pe_int pa_nil)))))
      (pss_cons (ps_expr (pe_call G_check_aside (hr.mono (by decide)) (by rfl) m_check_aside k_check_aside b_check_aside .nil (passes_call (takes_of rfl rfl rfl rfl) (fun _ _ _ _ h => h)) (pa_cons (pv 2) pa_nil)))
      (pss_cons (ps_fld (pv 0) (pe_callTy call_tuple_of (by rfl) m_tuple (by decide +kernel) (pa_cons (pv 1) pa_nil)) rfl)
      (pss_one (ps_fld (pv 0) (pv 2) rfl))))), passes_call (takes_of rfl rfl rfl rfl) (fun _ _ _ _ h => h), rfl, hp, ?_⟩
    have pl : l ≠ p := fun z => by
      rw [z, hp] at hl
      cases hl
    refine ⟨_, rfl, l, _, rfl, .inl (lst_l hl), ?_⟩
    rw [List.length_map]
    refine ⟨p, dx, [], (ns.length : Int), rfl, hp, Nat.zero_le _, fun e d nd => W.t (by omega) _ _ (SameX.new nd) upd_same, fun e => ?_⟩
    have e0 : ¬ ns.length > 24 := fun z => e (by omega)
    have hl1 := (upd_ne (o := .ins C_Weighted dx (putF "many" (.int ns.length) [])) pl).trans hl
    refine ⟨_, rfl, l, _, ns, 1, rfl, hl1, hlen, fun k hk H' d s' hd => W.b e0 k ((low_bad ns 0).symm.trans hk) _ _ (SameX.put.trans (same_sx s')) hd, fun hb H2 s2 => ?_⟩
    have hb := (low_bad ns 0).symm.trans hb
    have hp2 := s2 _ _ (upd_same (H := H) (a := p) (o := .ins C_Weighted dx (putF "many" (.int ns.length) [])))
    have hl2 := s2 _ _ hl1
    have sx := SameX.put.trans (same_sx s2)
    refine ⟨_, rfl, aside, rfl, fun c d nd => W.a e0 hb c _ _ (sx.trans (SameX.new nd)) upd_same, fun c => ?_⟩
    refine ⟨_, rfl, l, _, rfl, .inl ⟨lst_l hl2, fun t nt => ?_⟩⟩
    have hp3 := (upd_ne (o := .tup (ns.map V.int)) (ne_of_none hp2 nt)).trans hp2
    have pt : t ≠ p := fun z => by
      rw [z, hp2] at nt
      cases nt
    refine ⟨_, rfl, p, C_Weighted, dx, _, rfl, hp3, T.cl_Weighted, T.n_Weighted_weights, (by show 1 < 1000; decide), ?_⟩
    refine ⟨_, rfl, _, rfl, p, C_Weighted, dx, _, rfl, upd_same, T.cl_Weighted, T.n_Weighted_aside, (by show 2 < 1000; decide), ?_⟩
    refine W.m e0 hb c _ t (((sx.trans (SameX.new nt)).trans SameX.put).trans SameX.put) upd_same ?_
    rw [upd_ne pt, upd_ne pt, upd_same]
def sp__law_cell (K : PySem.W.Frag) : Sp := fun vs H Q _ => ∃ (a : Addr) (ns : List Int) (j : Nat), vs = [.ref a, .int (j : Int)] ∧ SqL K H a (ns.map V.int) ∧ ∀ v : Int, Q (.int v) H
theorem ok__law_cell {f : Addr} {fd : FuncData} {C_Weighted C_BadNumber C_TooMany C_ZeroBottom C_ShelfError : Addr} (F : Fun K "_law_cell" "_law_cell" s__law_cell f fd) (T : Txt K mg C_Weighted C_BadNumber C_TooMany C_ZeroBottom C_ShelfError) (m_int : mg "int" = none) (m_len : mg "len" = none) : FnOk P w K mg base CX0 1 f fd ["_law_script", "_law_place"] (sp__law_cell K) := by
  refine F.ok sc__law_cell (fun vs H Q E h => ?_) (fun cdv A outer s H vs Q E hr h => ?_)
  · obtain ⟨a, ns, j, rfl, _⟩ := h
    rfl
  · obtain ⟨a, ns, j, rfl, hS, q⟩ := h
    refine ⟨_, (pss_cons (ps_if (pt_cmpR op_lt (pv 1) (pe_callB call_len_seq (by rfl) m_len (by decide +kernel) (pa_cons (pv 0) pa_nil)) (nomark _)) (pss_one (ps_ret (pe_callTy call_int1 (by rfl) m_int (by decide +kernel) (pa_cons (pe_ix ix_list (pv 0) (pv 1) (fun _ _ => rfl)) pa_nil)))) pss_nil)
      (pss_one (ps_ret pe_int))), ?_⟩
    refine ⟨_, rfl, .ref a, rfl, a, _, rfl, .inl hS, _, _, rfl, rfl, _, rfl, ite2 (fun e => ?_) (fun _ => q 0)⟩
    have hj : j < ns.length := by
      have e := of_decide_eq_true e
      rw [List.length_map] at e
      omega
    exact ⟨.ref a, rfl, .int (j : Int), rfl, a, _, _, _, rfl, rfl, hS, atI_nat (int_at (List.getElem?_eq_getElem hj)), .inl ⟨_, rfl, q _⟩⟩
def sp__law_draws (K : PySem.W.Frag) : Sp := fun vs H Q _ => ∃ (c : Int) (a : Addr) (ns : List Int), vs = [.int c, .ref a] ∧ SqL K H a (ns.map V.int) ∧ (∀ n ∈ ns, 0 < n ∧ n < 2 ^ 100) ∧ ns.length ≤ 1000 ∧
  ∀ ds H' p, Within ds ns → Same H H' → H p = none → H' p = some (.lst (ds.map V.int)) → Q (.ref p) H'

theorem ok__law_draws {f : Addr} {fd : FuncData} {C_Weighted C_BadNumber C_TooMany C_ZeroBottom C_ShelfError : Addr} (F : Fun K "_law_draws" "_law_draws" s__law_draws f fd) (T : Txt K mg C_Weighted C_BadNumber C_TooMany C_ZeroBottom C_ShelfError) (m_int : mg "int" = none) (m_len : mg "len" = none) (m_range : mg "range" = none) : FnOk P w K mg base CX0 1 f fd ["_law_cell_here", "_law_sizes"] (sp__law_draws K) := by
  refine F.ok sc__law_draws (fun vs H Q E h => ?_) (fun cdv A outer s H vs Q E hr h => ?_)
  · obtain ⟨c, a, ns, rfl, _⟩ := h
    rfl
  · obtain ⟨c, a, ns, rfl, hS, hn, hlen, q⟩ := h
    refine ⟨_, (pss_cons (ps_if (pt_cmpR op_eq (pv 0) pe_int (nomark _)) (pss_one (ps_ret (pe_lc (own := [("_law_size", 2)]) (g := (gName 2)) (tt := tYes) rfl sc__law_draws.nd (pi_list (pv 1)) (blkOk_by (own := [("_law_size", 2)]) (N := ["_law_cell_here", "_law_sizes", "_law_size", "_law_left", "_law_found", "_law_k", "_law_low", "_law_high"]) (sc := defScope s__law_draws) (by decide +kernel)) (fun _ _ _ _ _ => (pg_name (i := 2) sc__law_draws.nd rfl (Or.inl rfl))) (fun _ _ _ _ _ => pts_nil) (fun _ _ _ _ _ => pe_int)))) pss_nil)
      (pss_cons (ps_if (pt_cmpR op_ge (pv 0) (pe_op op_pow pe_int pe_int) (nomark _)) (pss_cons (ps_set (i := 3) sc__law_draws.nd rfl (Or.inl rfl) (pe_op op_sub (pv 0) (pe_op op_pow pe_int pe_int)))
      (pss_cons (ps_set (i := 4) sc__law_draws.nd rfl (Or.inl rfl) (pe_lst pa_nil))
      (pss_cons (ps_for PassesOwn.never rfl (pi_list (pv 1)) (pg_name (i := 2) sc__law_draws.nd rfl (Or.inl rfl))
      (pss_cons (ps_expr (pe_bm PySem.F.plainAttrs_list PySem.F.slot_list_append PySem.F.type_list_append mt_append (pv 4) (pa_cons (pe_op op_mod (pe_callTy call_int1 (by rfl) m_int (by decide +kernel) (pa_cons (pv 3) pa_nil)) (pv 2)) pa_nil)))
      (pss_one (ps_set (i := 3) sc__law_draws.nd rfl (Or.inl rfl) (pe_op op_fdivW (pv 3) (pv 2))))))
      (pss_one (ps_ret (pv 4)))))) pss_nil)
      (pss_cons (ps_set (i := 4) sc__law_draws.nd rfl (Or.inl rfl) (pe_lst pa_nil))
      (pss_cons (ps_for PassesOwn.never rfl (pi_range1 (by rfl) m_range (pa_cons (pe_callB call_len_seq (by rfl) m_len (by decide +kernel) (pa_cons (pv 1) pa_nil)) pa_nil)) (pg_name (i := 5) sc__law_draws.nd rfl (Or.inl rfl))
      (pss_cons (ps_set (i := 6) sc__law_draws.nd rfl (Or.inl rfl) (pe_op op_mod (pe_callTy call_int1 (by rfl) m_int (by decide +kernel) (pa_cons (pe_op op_add (pe_op op_mul (pv 0) pe_int) (pe_op op_mul (pe_op op_add (pv 5) pe_int) pe_int)) pa_nil)) pe_int))
      (pss_cons (ps_set (i := 6) sc__law_draws.nd rfl (Or.inl rfl) (pe_op op_mod (pe_callTy call_int1 (by rfl) m_int (by decide +kernel) (pa_cons (pe_op op_add (pe_op op_mul (pv 6) pe_int) (pe_op op_mul (pe_op op_add (pv 5) pe_int) pe_int)) pa_nil)) pe_int))
      (pss_cons (ps_set (i := 7) sc__law_draws.nd rfl (Or.inl rfl) (pe_op op_mod (pe_callTy call_int1 (by rfl) m_int (by decide +kernel) (pa_cons (pe_op op_add (pe_op op_mul (pv 0) pe_int) (pe_op op_mul (pe_op op_add (pv 5) pe_int) pe_int)) pa_nil)) pe_int))
      (pss_cons (ps_set (i := 7) sc__law_draws.nd rfl (Or.inl rfl) (pe_op op_mod (pe_callTy call_int1 (by rfl) m_int (by decide +kernel) (pa_cons (pe_op op_add (pe_op op_mul (pv 7) pe_int) (pv 6)) pa_nil)) pe_int))
      (pss_one (ps_expr (pe_bm PySem.F.plainAttrs_list PySem.F.slot_list_append PySem.F.type_list_append mt_append (pv 4) (pa_cons (pe_op op_mod (pe_callTy call_int1 (by rfl) m_int (by decide +kernel) (pa_cons (pe_op op_add (pe_op op_mul (pv 7) pe_int) (pv 6)) pa_nil)) (pe_ix ix_list (pv 1) (pv 5) (fun _ _ => rfl))) pa_nil)))))))))
      (pss_one (ps_ret (pv 4))))))), ?_⟩
    have small : ∀ {ds : List Int} {i : Nat}, Within ds (ns.take i) → (ds.map V.int).length < sizeLine := fun {ds i} w => by
      rw [List.length_map, w.len, List.length_take]
      exact small1000 (by omega)
    refine ⟨_, rfl, rfl, _, rfl, ite2 (fun _ => ?_) (fun _ => ?_)⟩
    · -- [0 for size in sizes]
      refine ⟨.ref a, rfl, a, rfl, ⟨_, hS⟩, fun D nD => lc_list (K := K) (a := a) (xs := ns.map V.int) (fun i H2 => ∃ ds : List Int, Same H H2 ∧ H2 D = some (.lst (ds.map V.int)) ∧ Within ds (ns.take i)) ⟨[], same_upd nD, upd_same, Within.zero ns⟩ (fun i H2 _ ⟨_, s, _⟩ => s.seq hS) ?_ ?_⟩
      · rintro i x H2 hi ⟨ds, s, hD, w⟩
        obtain ⟨n, rfl, hin⟩ := int_of hi
        refine ⟨rfl, ?_⟩
        refine lc_yes ?_
        refine iteT ?_
        exact ⟨_, hD, small w, ds ++ [0], same_mut s nD, by rw [upd_same, ← snoc_int], w.step hin (Int.le_refl 0) (hn n (List.mem_of_getElem? hin)).1⟩
      · rintro H2 ⟨ds, s, hD, w⟩
        rw [List.length_map] at w
        exact q ds H2 D w.full s nD hD
    refine ⟨_, rfl, 10, 18, rfl, rfl, ⟨by decide, by decide, by decide⟩, _, _, rfl, rfl, _, rfl, ite2 (fun _ => ?_) (fun _ => ?_)⟩
    · -- left = cell - 10 ** 18; found = []
      refine ⟨_, rfl, 10, 18, rfl, rfl, ⟨by decide, by decide, by decide⟩, _, _, rfl, rfl, ?_⟩
      refine ⟨Nat.zero_le _, fun o no => ?_⟩
      have s1 : Same H (upd H o (.lst [])) := same_upd no
      refine ⟨.ref a, rfl, a, rfl, ⟨_, s1.seq hS⟩, for_list (K := K) (a := a) (xs := ns.map V.int) (fun i σ H2 => ∃ (ds : List Int) (l : Int) (y : Option V), σ = [some (.int c), some (.ref a), y, some (.int l), some (.ref o), none, none, none] ∧ Same H H2 ∧ H2 o = some (.lst (ds.map V.int)) ∧ Within ds (ns.take i))
        ⟨[], _, none, rfl, s1, upd_same, Within.zero ns⟩ (fun i σ H2 _ ⟨_, _, _, _, s, _⟩ => s.seq hS) ?_ ?_⟩
      · rintro i x σ H2 hi ⟨ds, l, y, rfl, s, hD, w⟩
        obtain ⟨n, rfl, hin⟩ := int_of hi
        obtain ⟨n0, n1⟩ := hn n (List.mem_of_getElem? hin)
        refine ⟨.ref o, rfl, .inl ⟨rfl, _, lst_l hD⟩, _, rfl, .inl ⟨l, rfl, _, rfl, _, _, rfl, rfl, n0, o, _, _, rfl, rfl, hD, small w, ?_⟩⟩
        refine ⟨_, rfl, _, rfl, _, _, rfl, rfl, w_div n0 n1, ds ++ [l % n], _, _, rfl, same_mut s no, by rw [upd_same, ← snoc_int], w.step hin (Int.emod_nonneg _ (by omega)) (Int.emod_lt_of_pos _ n0)⟩
      · rintro σ H2 ⟨ds, l, y, rfl, s, hD, w⟩
        rw [List.length_map] at w
        exact ⟨_, rfl, q ds H2 o w.full s no hD⟩
    · refine ⟨Nat.zero_le _, fun o no => ?_⟩
      have s1 : Same H (upd H o (.lst [])) := same_upd no
      refine ⟨.ref a, rfl, a, _, rfl, .inl (s1.seq hS), _, rfl, ?_⟩
      rw [List.length_map]
      refine ⟨by omega, by omega, ?_⟩
      rw [Int.toNat_natCast]
      refine for_range (lo := 0) (n := ns.length) (fun i σ H2 => ∃ (ds : List Int) (y1 y2 y3 : Option V), σ = [some (.int c), some (.ref a), none, none, some (.ref o), y1, y2, y3] ∧ Same H H2 ∧ H2 o = some (.lst (ds.map V.int)) ∧ Within ds (ns.take i))
        ⟨[], none, none, none, rfl, s1, upd_same, Within.zero ns⟩ ?_ ?_
      · rintro i σ H2 hi ⟨ds, y1, y2, y3, rfl, s, hD, w⟩
        have hin : ns[i]? = some ns[i] := List.getElem?_eq_getElem hi
        obtain ⟨n0, n1⟩ := hn ns[i] (List.getElem_mem hi)
        refine ⟨_, rfl, _, _, rfl, rfl, .inr ⟨by decide, by decide⟩, _, rfl, _, _, rfl, rfl, _, _, rfl, rfl, .inr ⟨by decide, by decide⟩, _, _, rfl, rfl, .inl ⟨_, rfl, _, _, rfl, rfl, (show (0 : Int) < 2147483647 by decide), ?_⟩⟩
        refine ⟨_, rfl, _, _, rfl, rfl, .inr ⟨by decide, by decide⟩, _, rfl, _, _, rfl, rfl, _, _, rfl, rfl, .inr ⟨by decide, by decide⟩, _, _, rfl, rfl, .inl ⟨_, rfl, _, _, rfl, rfl, (show (0 : Int) < 2147483399 by decide), ?_⟩⟩
        refine ⟨_, rfl, _, _, rfl, rfl, .inr ⟨by decide, by decide⟩, _, rfl, _, _, rfl, rfl, _, _, rfl, rfl, .inr ⟨by decide, by decide⟩, _, _, rfl, rfl, .inl ⟨_, rfl, _, _, rfl, rfl, (show (0 : Int) < 2147483563 by decide), ?_⟩⟩
        refine ⟨_, rfl, _, _, rfl, rfl, .inr ⟨by decide, by decide⟩, _, rfl, _, _, rfl, rfl, .inl ⟨_, rfl, _, _, rfl, rfl, (show (0 : Int) < 2147483587 by decide), ?_⟩⟩
        refine ⟨.ref o, rfl, .inl ⟨rfl, _, lst_l hD⟩, _, rfl, _, _, rfl, rfl, .inr ⟨by decide, by decide⟩, _, rfl, _, _, rfl, rfl, .inl ⟨_, rfl, .ref a, rfl, .int (0 + (i : Int)), rfl, a, _, _, _, rfl, rfl, s.seq hS, at_of (Int.zero_add _) (int_at hin), _, _, rfl, rfl, n0, o, _, _, rfl, rfl, hD, small w, ?_⟩⟩
        exact ⟨ds ++ [_], _, _, _, rfl, same_mut s no, by rw [upd_same, ← snoc_int], w.step hin (Int.emod_nonneg _ (by omega)) (Int.emod_lt_of_pos _ n0)⟩
      · rintro σ H2 ⟨ds, y1, y2, y3, rfl, s, hD, w⟩
        exact ⟨_, rfl, q ds H2 o w.full s no hD⟩
def sp__law_row (K : PySem.W.Frag) : Sp := fun vs H Q _ => ∃ (c : Int) (m : Nat), vs = [.int c, .int (m : Int)] ∧ m ≤ 900 ∧ ∀ (ns : List Int) (H' : Hp) (p : Addr), ns.length = m → (∀ n ∈ ns, 0 ≤ n ∧ n < 10 ^ 18 - 1) → Same H H' → H p = none → H' p = some (.lst (ns.map V.int)) → Q (.ref p) H'

theorem ok__law_row {f : Addr} {fd : FuncData} {C_Weighted C_BadNumber C_TooMany C_ZeroBottom C_ShelfError : Addr} (F : Fun K "_law_row" "_law_row" s__law_row f fd) (T : Txt K mg C_Weighted C_BadNumber C_TooMany C_ZeroBottom C_ShelfError) (m_int : mg "int" = none) (m_range : mg "range" = none) (c__law_draws : Cal P w K mg base CX0 1 "_law_draws" ["_law_cell_here", "_law_sizes"] (sp__law_draws K)) : FnOk P w K mg base CX0 2 f fd ["_law_cell_here", "_law_count"] (sp__law_row K) := by
  refine F.ok sc__law_row (fun vs H Q E h => ?_) (fun cdv A outer s H vs Q E hr h => ?_)
  · obtain ⟨c, m, rfl, _⟩ := h
    rfl
  · obtain ⟨c, m, rfl, hm, q⟩ := h
    obtain ⟨f__law_draws, fd__law_draws, G__law_draws, m__law_draws, k__law_draws, b__law_draws⟩ := c__law_draws
    refine ⟨_, (pss_cons (ps_set (i := 2) sc__law_row.nd rfl (Or.inl rfl) (pe_call G__law_draws (hr.mono (by decide)) (by rfl) m__law_draws k__law_draws b__law_draws .nil pass0 (pa_cons (pv 0) (pa_cons (pe_op op_cat (pe_lst (pa_cons pe_int pa_nil)) (pe_lc (own := [("_law_k", 5)]) (g := (gName 5)) (tt := tYes) rfl sc__law_row.nd (pi_range1 (by rfl) m_range (pa_cons (pv 1) pa_nil)) (blkOk_by (own := [("_law_k", 5)]) (N := ["_law_cell_here", "_law_count", "_law_drawn", "_law_bound", "_law_value", "_law_k"]) (sc := defScope s__law_row) (by decide +kernel)) (fun _ _ _ _ _ => (pg_name (i := 5) sc__law_row.nd rfl (Or.inl rfl))) (fun _ _ _ _ _ => pts_nil) (fun _ _ _ _ _ => (pe_op op_pow pe_int pe_int)))) pa_nil))))
      (pss_cons (ps_set (i := 3) sc__law_row.nd rfl (Or.inr rfl) (pe_ix ix_list (pe_lst (pa_cons pe_int (pa_cons pe_int (pa_cons (pe_op op_pow pe_int pe_int) (pa_cons (pe_op op_sub (pe_op op_pow pe_int pe_int) pe_int) pa_nil))))) (pe_ix ix_list (pv 2) pe_int (fun _ _ => rfl)) (fun _ _ => rfl)))
      (pss_one (ps_ret (pe_lc (own := [("_law_value", 4)]) (g := (gName 4)) (tt := tYes) rfl sc__law_row.nd (pi_list (pe_slice sl_list (pv 2) (po_some pe_int) po_none)) (blkOk_by (own := [("_law_value", 4)]) (N := ["_law_cell_here", "_law_count", "_law_drawn", "_law_bound", "_law_value", "_law_k"]) (sc := defScope s__law_row) (by decide +kernel)) (fun _ _ _ _ _ => (pg_name (i := 4) sc__law_row.nd rfl (Or.inl rfl))) (fun _ _ _ _ _ => pts_nil) (fun _ _ _ _ _ => (pe_op op_mod (pe_callTy call_int1 (by rfl) m_int (by decide +kernel) (pa_cons (pv 4) pa_nil)) (pv 3)))))))), ?_⟩
    -- draws(cell, [4] + [10 ** 18 for k in range(count)])
    refine ⟨_, rfl, small1000 (by decide), fun p1 n1 => ?_⟩
    have s1 : Same H (upd H p1 (.lst [V.int 4])) := same_upd n1
    refine ⟨_, rfl, _, rfl, by omega, by omega, ?_⟩
    rw [Int.toNat_natCast]
    refine fun D nD => lc_range (lo := 0) (n := m) (fun i H2 => Same (upd H p1 (.lst [V.int 4])) H2 ∧ H2 D = some (.lst ((List.replicate i (10 ^ 18 : Int)).map V.int))) ⟨same_upd nD, upd_same⟩ ?_ ?_
    · rintro i H2 hi ⟨s, hD⟩
      refine ⟨rfl, ?_⟩
      refine lc_yes ?_
      refine iteT ?_
      refine ⟨10, 18, rfl, rfl, ⟨by decide, by decide, by decide⟩, _, hD, ?_, same_mut s nD, ?_⟩
      · rw [List.length_map, List.length_replicate]
        exact small1000 (by omega)
      · rw [upd_same, List.replicate_succ', ← snoc_int]
        rfl
    rintro H2 ⟨s2, hD⟩
    refine ⟨p1, D, _, _, rfl, rfl, s2 _ _ upd_same, hD, ?_, fun p3 n3 => ?_⟩
    · rw [List.length_map, List.length_replicate]
      exact Nat.le_of_lt (small1000 (by show 1 + m ≤ 1000; omega))
    have s3 : Same H (upd H2 p3 (.lst ((4 :: List.replicate m (10 ^ 18 : Int)).map V.int))) := (s1.trans s2).trans (same_upd n3)
    refine ⟨c, p3, 4 :: List.replicate m (10 ^ 18 : Int), rfl, lst_l upd_same, ?_, ?_, fun ds H4 d w s4 nd hd => ?_⟩
    · intro n hn
      rcases List.mem_cons.mp hn with rfl | hn
      · decide
      · rw [(List.mem_replicate.mp hn).2]
        exact big18
    · rw [List.length_cons, List.length_replicate]
      omega
    obtain ⟨d0, r, rfl, l0, u0, w⟩ := w.c
    have hr : r.length = m := by
      rw [w.len, List.length_replicate]
    have hL : SqL K H4 d ((d0 :: r).map V.int) := lst_l hd
    have sH : Same H H4 := s3.trans s4
    -- bound = [4, 30, 10 ** 9, 10 ** 18 - 1][drawn[0]]
    refine ⟨10, 9, rfl, rfl, ⟨by decide, by decide, by decide⟩, 10, 18, rfl, rfl, ⟨by decide, by decide, by decide⟩, _, _, rfl, rfl, small1000 (by decide), fun p5 n5 => ?_⟩
    obtain ⟨b, hb, b0, b1⟩ : ∃ b : Int, atI [V.int 4, V.int 30, V.int (10 ^ 9), V.int (10 ^ 18 - 1)] d0 = some (V.int b) ∧ 0 < b ∧ b ≤ 10 ^ 18 - 1 := by
      rcases (by omega : d0 = 0 ∨ d0 = 1 ∨ d0 = 2 ∨ d0 = 3) with rfl | rfl | rfl | rfl
      · exact ⟨4, rfl, by decide, by decide⟩
      · exact ⟨30, rfl, by decide, by decide⟩
      · exact ⟨10 ^ 9, rfl, by decide, by decide⟩
      · exact ⟨10 ^ 18 - 1, rfl, by decide, by decide⟩
    have s5 := same_upd (o := .lst [V.int 4, V.int 30, V.int (10 ^ 9), V.int (10 ^ 18 - 1)]) n5
    refine ⟨.ref d, rfl, d, _, _, .int d0, rfl, rfl, s5.seq hL, atI_nat (j := 0) rfl, p5, _, _, .int b, rfl, rfl, lst_l upd_same, hb, ?_⟩
    -- [int(value) % bound for value in drawn[1:]]
    refine ⟨.ref d, rfl, 1, rfl, d, _, rfl, s5.seq hL, fun p6 n6 => ?_⟩
    rw [cut_from1]
    have s6 := same_upd (o := .lst (((d0 :: r).map V.int).drop 1)) n6
    have sT : Same H _ := (sH.trans s5).trans s6
    refine ⟨p6, rfl, ⟨r.map V.int, lst_l upd_same⟩, fun D nD => lc_list (K := K) (a := p6) (xs := r.map V.int) (fun i H2 => Same (upd (upd H4 p5 (.lst [V.int 4, V.int 30, V.int (10 ^ 9), V.int (10 ^ 18 - 1)])) p6 (.lst (((d0 :: r).map V.int).drop 1))) H2 ∧ H2 D = some (.lst (((r.take i).map fun v => v % b).map V.int))) ⟨same_upd nD, upd_same⟩ (fun i H2 _ ⟨s, _⟩ => s.seq (lst_l upd_same)) ?_ ?_⟩
    · rintro i x H2 hi ⟨s, hD⟩
      obtain ⟨n, rfl, hin⟩ := int_of hi
      refine ⟨rfl, ?_⟩
      refine lc_yes ?_
      refine iteT ?_
      refine ⟨_, rfl, .inl ⟨n, rfl, _, rfl, _, _, rfl, rfl, b0, _, hD, ?_, same_mut s nD, ?_⟩⟩
      · rw [List.length_map, List.length_map, List.length_take]
        exact small1000 (by omega)
      · rw [upd_same, List.take_add_one, hin, List.map_append, List.map_append]
        rfl
    · rintro H2 ⟨s, hD⟩
      rw [List.length_map, List.take_length] at hD
      refine q (r.map fun v => v % b) H2 D (by rw [List.length_map, hr]) ?_ (sT.trans s) (sT.free nD) hD
      intro n hn
      obtain ⟨x, _, rfl⟩ := List.mem_map.mp hn
      have h1 := Int.emod_nonneg x (show b ≠ 0 by omega)
      have h2 := Int.emod_lt_of_pos x b0
      omega
def sp__law_ups (K : PySem.W.Frag) : Sp := fun vs H Q _ => ∃ (a : Addr) (ns : List Int), vs = [.ref a] ∧ H a = some (.lst (ns.map V.int)) ∧ ns.length ≤ 1000 ∧ ∀ H' p, Same H H' → H p = none → H' p = some (.lst ((ns.map fun n => 1 + n).map V.int)) → Q (.ref p) H' 
theorem ok__law_ups {f : Addr} {fd : FuncData} {C_Weighted C_BadNumber C_TooMany C_ZeroBottom C_ShelfError : Addr} (F : Fun K "_law_ups" "_law_ups" s__law_ups f fd) (T : Txt K mg C_Weighted C_BadNumber C_TooMany C_ZeroBottom C_ShelfError) : FnOk P w K mg base CX0 1 f fd ["_law_row_here"] (sp__law_ups K) := by
  refine F.ok sc__law_ups (fun vs H Q E h => ?_) (fun cdv A outer s H vs Q E hr h => ?_)
  · obtain ⟨a, ns, rfl, _⟩ := h
    rfl
  · obtain ⟨a, ns, rfl, hl, hlen, q⟩ := h
    refine ⟨_, (pss_one (ps_ret (pe_lc (own := [("_law_number", 1)]) (g := (gName 1)) (tt := tYes) rfl sc__law_ups.nd (pi_list (pv 0)) (blkOk_by (own := [("_law_number", 1)]) (N := ["_law_row_here", "_law_number"]) (sc := defScope s__law_ups) (by decide +kernel)) (fun _ _ _ _ _ => (pg_name (i := 1) sc__law_ups.nd rfl (Or.inl rfl))) (fun _ _ _ _ _ => pts_nil) (fun _ _ _ _ _ => (pe_op op_add pe_int (pv 1)))))), ?_⟩
    refine ⟨.ref a, rfl, a, rfl, ⟨_, lst_l hl⟩, fun D nD => lc_list (K := K) (a := a) (xs := ns.map V.int) (fun i H2 => Same H H2 ∧ H2 D = some (.lst (((ns.take i).map fun n => 1 + n).map V.int))) ⟨same_upd nD, upd_same⟩ (fun i H2 _ ⟨s, _⟩ => lst_l (s _ _ hl)) ?_ ?_⟩
    · rintro i x H2 hi ⟨s, hD⟩
      obtain ⟨n, rfl, hin⟩ := int_of hi
      refine ⟨rfl, ?_⟩
      refine lc_yes ?_
      refine iteT ?_
      refine ⟨_, rfl, _, _, rfl, rfl, _, hD, ?_, same_mut s nD, ?_⟩
      · rw [List.length_map, List.length_map, List.length_take]
        exact small1000 (by omega)
      · rw [upd_same, List.take_add_one, hin, List.map_append, List.map_append]
        rfl
    · rintro H2 ⟨s, hD⟩
      rw [List.length_map, List.take_length] at hD
      exact q H2 D s nD hD
def sp__law_is_int : Sp := fun vs H Q _ => ∃ v : Int, vs = [.int v] ∧ Q (.bl true) H
theorem ok__law_is_int {f : Addr} {fd : FuncData} {C_Weighted C_BadNumber C_TooMany C_ZeroBottom C_ShelfError : Addr} (F : Fun K "_law_is_int" "_law_is_int" s__law_is_int f fd) (T : Txt K mg C_Weighted C_BadNumber C_TooMany C_ZeroBottom C_ShelfError) (m_bool : mg "bool" = none) (m_int : mg "int" = none) (m_isinstance : mg "isinstance" = none) : FnOk P w K mg base CX0 1 f fd ["_law_x"] sp__law_is_int := by
  refine F.ok sc__law_is_int (fun vs H Q E h => ?_) (fun cdv A outer s H vs Q E hr h => ?_)
  · obtain ⟨v, rfl, _⟩ := h
    rfl
  · obtain ⟨v, rfl, q⟩ := h
    refine ⟨_, (pss_one (ps_ret (pe_and (pe_callB call_isi (by rfl) m_isinstance (by decide +kernel) (pa_cons (pv 0) (pa_cons (pe_bltn (v := .ty "int") (by rfl) m_int (by decide +kernel) rfl) pa_nil))) (pe_one (pe_not (pe_callB call_isi (by rfl) m_isinstance (by decide +kernel) (pa_cons (pv 0) (pa_cons (pe_bltn (v := .ty "bool") (by rfl) m_bool (by decide +kernel) rfl) pa_nil)))))))), ?_⟩
    exact ⟨_, rfl, .int v, .ty "int", _, _, true, rfl, .ty "int", .base (.int v), kit_ty kI, true, rfl, iteT ⟨_, rfl, .int v, .ty "bool", _, _, false, rfl, .ty "bool", .base (.int v), kit_ty kB, false, rfl, q⟩⟩
def sp__law_same_lot (K : PySem.W.Frag) : Sp := fun vs H Q _ => ∃ (a b : Addr) (ns : List Int), vs = [.ref a, .ref b] ∧ H a = some (.tup (ns.map V.int)) ∧ SqT K H b (ns.map V.int) ∧ ns.length ≤ 1000 ∧ Q (.bl true) H
theorem ok__law_same_lot {f : Addr} {fd : FuncData} {C_Weighted C_BadNumber C_TooMany C_ZeroBottom C_ShelfError : Addr} (F : Fun K "_law_same_lot" "_law_same_lot" s__law_same_lot f fd) (T : Txt K mg C_Weighted C_BadNumber C_TooMany C_ZeroBottom C_ShelfError) (m_isinstance : mg "isinstance" = none) (m_len : mg "len" = none) (m_range : mg "range" = none) (m_tuple : mg "tuple" = none) (c__law_is_int : Cal P w K mg base CX0 1 "_law_is_int" ["_law_x"] sp__law_is_int) : FnOk P w K mg base CX0 2 f fd ["_law_x", "_law_due_here"] (sp__law_same_lot K) := by
  refine F.ok sc__law_same_lot (fun vs H Q E h => ?_) (fun cdv A outer s H vs Q E hr h => ?_)
  · obtain ⟨a, b, ns, rfl, _⟩ := h
    rfl
  · obtain ⟨a, b, ns, rfl, hA, hB, hlen, q⟩ := h
    obtain ⟨f__law_is_int, fd__law_is_int, G__law_is_int, m__law_is_int, k__law_is_int, b__law_is_int⟩ := c__law_is_int
    refine ⟨_, (pss_cons (ps_if (PW.pt (pw_or (pt_not (pt_val (pe_callB call_isi (by rfl) m_isinstance (by decide +kernel) (pa_cons (pv 0) (pa_cons (pe_bltn (v := .ty "tuple") (by rfl) m_tuple (by decide +kernel) rfl) pa_nil))))) (pw_or1 (pt_cmpR op_ne (pe_callB call_len_seq (by rfl) m_len (by decide +kernel) (pa_cons (pv 0) pa_nil)) (pe_callB call_len_seq (by rfl) m_len (by decide +kernel) (pa_cons (pv 1) pa_nil)) (nomark _))))) (pss_one (ps_ret pe_bl)) pss_nil)
      (pss_cons (ps_for PassesOwn.never rfl (pi_range1 (by rfl) m_range (pa_cons (pe_callB call_len_seq (by rfl) m_len (by decide +kernel) (pa_cons (pv 1) pa_nil)) pa_nil)) (pg_name (i := 2) sc__law_same_lot.nd rfl (Or.inl rfl))
      (pss_one (ps_if (PW.pt (pw_or (pt_not (pt_val (pe_call G__law_is_int (hr.mono (by decide)) (by rfl) m__law_is_int k__law_is_int b__law_is_int .nil pass0 (pa_cons (pe_ix ix_tup (pv 0) (pv 2) (fun _ _ => rfl)) pa_nil)))) (pw_or1 (pt_cmpR op_ne (pe_ix ix_tup (pv 0) (pv 2) (fun _ _ => rfl)) (pe_ix ix_tup (pv 1) (pv 2) (fun _ _ => rfl)) (nomark _))))) (pss_one (ps_ret pe_bl)) pss_nil)))
      (pss_one (ps_ret pe_bl)))), ?_⟩
    have hA' : SqT K H a (ns.map V.int) := tup_t hA
    refine ⟨_, rfl, .ref a, .ty "tuple", _, _, true, rfl, .ty "tuple", .base (.tup hA), kit_ty kT, true, rfl, iteF ?_⟩
    refine ⟨.ref a, rfl, a, _, rfl, .inr hA', .ref b, rfl, b, _, rfl, .inr hB, rfl, _, rfl, iteNS rfl ?_⟩
    refine ⟨.ref b, rfl, b, _, rfl, .inr hB, _, rfl, ?_⟩
    rw [List.length_map]
    refine ⟨by omega, by omega, ?_⟩
    rw [Int.toNat_natCast]
    refine for_range (lo := 0) (n := ns.length) (fun i σ H2 => ∃ (y : Option V), σ = [some (.ref a), some (.ref b), y] ∧ H2 = H) ⟨none, rfl, rfl⟩ ?_ ?_
    · rintro i σ H2 hi ⟨y, rfl, rfl⟩
      have hin : (ns.map V.int)[i]? = some (.int ns[i]) := int_at (List.getElem?_eq_getElem hi)
      refine ⟨.ref a, rfl, .int (0 + (i : Int)), rfl, a, _, _, _, rfl, rfl, hA', at_of (Int.zero_add _) hin, ns[i], rfl, true, rfl, iteF ?_⟩
      refine ⟨.ref a, rfl, .int (0 + (i : Int)), rfl, a, _, _, _, rfl, rfl, hA', at_of (Int.zero_add _) hin, .ref b, rfl, .int (0 + (i : Int)), rfl, b, _, _, _, rfl, rfl, hB, at_of (Int.zero_add _) hin, rfl, _, rfl, iteNS rfl ?_⟩
      exact ⟨_, rfl, rfl⟩
    · rintro σ H2 ⟨y, rfl, rfl⟩
      exact q
def sp__law_made (K : PySem.W.Frag) (C : Addr) : Sp := fun vs H Q _ => ∃ (l : Addr) (ns : List Int) (aside : Int), vs = [.ref l, .int aside] ∧ H l = some (.lst (ns.map V.int)) ∧ ns.length ≤ 1000 ∧
  (dueW ns aside ≠ .made → ∀ H' p, Same H H' → H' p = some (.tup (dueW ns aside).told) → Q (.ref p) H') ∧
  (dueW ns aside = .made → ∀ H' p x dx t, Same H H' → H' p = some (.tup [.str "made", .ref x]) → H' x = some (.ins C dx (fW ns.length aside t)) → H' t = some (.tup (ns.map V.int)) → Q (.ref p) H')
theorem ok__law_made {f : Addr} {fd : FuncData} {C_Weighted C_BadNumber C_TooMany C_ZeroBottom C_ShelfError : Addr} (F : Fun K "_law_made" "_law_made" s__law_made f fd) (T : Txt K mg C_Weighted C_BadNumber C_TooMany C_ZeroBottom C_ShelfError) (m_isinstance : mg "isinstance" = none) (c_Weighted___init__ : CalI P w K mg base (L2.CX P w) 5 C_Weighted ["self", "weights", "aside"] (sp_Weighted___init__ K C_Weighted C_TooMany C_BadNumber) []) : FnOk P w K mg base CX0 7 f fd ["_law_weights", "_law_aside"] (sp__law_made K C_Weighted) := by
  refine F.ok sc__law_made (fun vs H Q E h => ?_) (fun cdv A outer s H vs Q E hr h => ?_)
  · obtain ⟨l, ns, aside, rfl, _⟩ := h
    rfl
  · obtain ⟨l, ns, aside, rfl, hl, hlen, kR, kM⟩ := h
    obtain ⟨f_Weighted___init__, fd_Weighted___init__, G_Weighted___init__, M_Weighted___init__, b_Weighted___init__, ds_Weighted___init__, vd_Weighted___init__, bd_Weighted___init__⟩ := c_Weighted___init__
    refine ⟨_, (pss_one (ps_try_asM (out := fun _ _ _ _ => False) rfl rfl sc__law_made.nd takes0
      (fun W pn xe tk _ => (pss_one (ps_ret (pe_tup (pa_cons pe_str (pa_cons (pe_makeS M_Weighted___init__ G_Weighted___init__ (hr.mono (by decide)) (by rfl) T.g_Weighted b_Weighted___init__ .nil (fun σ => passAt tk σ) (pa_cons (pv 0) (pa_cons (pv 1) pa_nil))) pa_nil))))))
      (.cons (i := 2) ⟨rfl, by decide, Or.inl T.g_BadNumber⟩ rfl rfl (fun a oe cls d pn hz hf => (pss_one (ps_ret (pe_tup (pa_cons pe_str (pa_cons (pe_xf T.xf_BadNumber T.n_BadNumber_what hz hf (pv 2)) (pa_cons (pe_xf T.xf_BadNumber T.n_BadNumber_at hz hf (pv 2)) (pa_cons (pe_or (pe_callB (call_isY (K := K) hz hf) (by rfl) m_isinstance (by decide +kernel) (pa_cons (pv 2) (pa_cons (pe_glob (v := .ref C_TooMany) (by rfl) T.g_TooMany rfl) pa_nil))) (pe_one (pe_callB (call_isY (K := K) hz hf) (by rfl) m_isinstance (by decide +kernel) (pa_cons (pv 2) (pa_cons (pe_glob (v := .ref C_ZeroBottom) (by rfl) T.g_ZeroBottom rfl) pa_nil))))) pa_nil))))))))
      (.cons (i := 2) ⟨rfl, by decide, Or.inl T.g_TooMany⟩ rfl rfl (fun a oe cls d pn hz hf => (pss_one (ps_ret (pe_tup (pa_cons pe_str (pa_cons (pe_xf T.xf_TooMany T.n_TooMany_many hz hf (pv 2)) (pa_cons (pe_xf T.xf_TooMany T.n_TooMany_most hz hf (pv 2)) (pa_cons (pe_or (pe_callB (call_isY (K := K) hz hf) (by rfl) m_isinstance (by decide +kernel) (pa_cons (pv 2) (pa_cons (pe_glob (v := .ref C_BadNumber) (by rfl) T.g_BadNumber rfl) pa_nil))) (pe_one (pe_callB (call_isY (K := K) hz hf) (by rfl) m_isinstance (by decide +kernel) (pa_cons (pv 2) (pa_cons (pe_glob (v := .ref C_ZeroBottom) (by rfl) T.g_ZeroBottom rfl) pa_nil))))) pa_nil))))))))
      .nil)))), ?_⟩
    refine ⟨_, rfl, _, rfl, fun x dx nx nd _ => ⟨x, dx, l, ns, aside, rfl, upd_same, (upd_ne (ne_of_none hl nx)).trans ((upd_ne (ne_of_none hl nd)).trans hl), hlen, ⟨fun e H' d sx hd => ?_, fun e k hk H' d sx hd => ?_, fun e hb c H' d sx hd => ?_, fun e hb c H' t sx hx ht => ⟨rfl, (by show 2 ≤ sizeLine; decide), fun p np => ?_⟩⟩⟩⟩
    · have dw := due_many (a := aside) e
      rw [dw] at kR
      have kR := kR (fun z => Due.noConfusion z)
      refine ⟨false, T.exm_TooMany_BadNumber, fun z => Bool.noConfusion z, fun _ => ⟨true, T.exm_TooMany_TooMany, fun _ a0 na => ?_, fun z => Bool.noConfusion z⟩⟩
      refine ⟨.ref a0, rfl, rfl, rfl, d, _, _, rfl, hd, by rfl, .ref a0, rfl, rfl, rfl, d, _, _, rfl, hd, by rfl, .ref a0, rfl, C_TooMany, T.ec_TooMany, rfl, .inr ⟨d, _, rfl, hd⟩, .ref C_BadNumber, .ref C_BadNumber, false, rfl, fun _ r => r, T.kit_TooMany_BadNumber, false, rfl, iteF ?_⟩
      exact ⟨.ref a0, rfl, C_TooMany, T.ec_TooMany, rfl, .inr ⟨d, _, rfl, hd⟩, .ref C_ZeroBottom, .ref C_ZeroBottom, false, rfl, fun _ r => r, T.kit_TooMany_ZeroBottom, (by show 4 ≤ sizeLine; decide), fun p np => kR _ p ((sameX_made nx nd sx).trans (same_upd np)) upd_same⟩
    · have dw := due_num (a := aside) e hk
      rw [dw] at kR
      have kR := kR (fun z => Due.noConfusion z)
      exact ⟨true, T.exm_BadNumber_BadNumber, fun _ a0 na => ⟨.ref a0, rfl, rfl, rfl, d, _, _, rfl, hd, by rfl, .ref a0, rfl, rfl, rfl, d, _, _, rfl, hd, by rfl, .ref a0, rfl, C_BadNumber, T.ec_BadNumber, rfl, .inr ⟨d, _, rfl, hd⟩, .ref C_TooMany, .ref C_TooMany, false, rfl, fun _ r => r, T.kit_BadNumber_TooMany,
        false, rfl, iteF ⟨.ref a0, rfl, C_BadNumber, T.ec_BadNumber, rfl, .inr ⟨d, _, rfl, hd⟩, .ref C_ZeroBottom, .ref C_ZeroBottom, false, rfl, fun _ r => r, T.kit_BadNumber_ZeroBottom, (by show 4 ≤ sizeLine; decide), fun p np => kR _ p ((sameX_made nx nd sx).trans (same_upd np)) upd_same⟩⟩, fun z => Bool.noConfusion z⟩
    · have dw := due_aside e hb c
      rw [dw] at kR
      have kR := kR (fun z => Due.noConfusion z)
      exact ⟨true, T.exm_BadNumber_BadNumber, fun _ a0 na => ⟨.ref a0, rfl, rfl, rfl, d, _, _, rfl, hd, by rfl, .ref a0, rfl, rfl, rfl, d, _, _, rfl, hd, by rfl, .ref a0, rfl, C_BadNumber, T.ec_BadNumber, rfl, .inr ⟨d, _, rfl, hd⟩, .ref C_TooMany, .ref C_TooMany, false, rfl, fun _ r => r, T.kit_BadNumber_TooMany,
        false, rfl, iteF ⟨.ref a0, rfl, C_BadNumber, T.ec_BadNumber, rfl, .inr ⟨d, _, rfl, hd⟩, .ref C_ZeroBottom, .ref C_ZeroBottom, false, rfl, fun _ r => r, T.kit_BadNumber_ZeroBottom, (by show 4 ≤ sizeLine; decide), fun p np => kR _ p ((sameX_made nx nd sx).trans (same_upd np)) upd_same⟩⟩, fun z => Bool.noConfusion z⟩
    · have s1 := same_upd (o := .tup [V.str "made", V.ref x]) np
      exact kM (due_made e hb c) _ p x dx t ((sameX_made nx nd sx).trans s1) upd_same (s1 _ _ hx) (s1 _ _ ht)
def sp__law_base (K : PySem.W.Frag) : Sp := fun vs H Q _ => ∃ (l : Addr) (ns : List Int) (aside : Int), vs = [.ref l, .int aside] ∧ H l = some (.lst (ns.map V.int)) ∧ ns.length ≤ 1000 ∧ dueW ns aside ≠ .made ∧ ∀ H', Same H H' → Q (.bl true) H' 
theorem ok__law_base {f : Addr} {fd : FuncData} {C_Weighted C_BadNumber C_TooMany C_ZeroBottom C_ShelfError : Addr} (F : Fun K "_law_base" "_law_base" s__law_base f fd) (T : Txt K mg C_Weighted C_BadNumber C_TooMany C_ZeroBottom C_ShelfError) (m_ValueError : mg "ValueError" = none) (m_isinstance : mg "isinstance" = none) (c_Weighted___init__ : CalI P w K mg base (L2.CX P w) 5 C_Weighted ["self", "weights", "aside"] (sp_Weighted___init__ K C_Weighted C_TooMany C_BadNumber) []) : FnOk P w K mg base CX0 7 f fd ["_law_weights", "_law_aside"] (sp__law_base K) := by
  refine F.ok sc__law_base (fun vs H Q E h => ?_) (fun cdv A outer s H vs Q E hr h => ?_)
  · obtain ⟨l, ns, aside, rfl, _⟩ := h
    rfl
  · obtain ⟨l, ns, aside, rfl, hl, hlen, no, q⟩ := h
    obtain ⟨f_Weighted___init__, fd_Weighted___init__, G_Weighted___init__, M_Weighted___init__, b_Weighted___init__, ds_Weighted___init__, vd_Weighted___init__, bd_Weighted___init__⟩ := c_Weighted___init__
    refine ⟨_, (pss_cons (ps_try_as (i := 2) (Wout := fun _ _ _ _ => False) rfl rfl sc__law_base.nd rfl rfl ⟨rfl, by decide, Or.inl T.g_ShelfError⟩ takes0
      (fun W pn xe tk _ => (pss_one (ps_expr (pe_makeS M_Weighted___init__ G_Weighted___init__ (hr.mono (by decide)) (by rfl) T.g_Weighted b_Weighted___init__ .nil (fun σ => passAt tk σ) (pa_cons (pv 0) (pa_cons (pv 1) pa_nil))))))
      (fun a oe cls d pn hz hf => (pss_one (ps_ret (pe_callB (call_isY (K := K) hz hf) (by rfl) m_isinstance (by decide +kernel) (pa_cons (pv 2) (pa_cons (pe_bltn (v := .ty "ValueError") (by rfl) m_ValueError (by decide +kernel) rfl) pa_nil)))))))
      (pss_one (ps_ret pe_bl))), ?_⟩
    exact ⟨_, rfl, _, rfl, fun x dx nx nd _ => ⟨x, dx, l, ns, aside, rfl, upd_same, (upd_ne (ne_of_none hl nx)).trans ((upd_ne (ne_of_none hl nd)).trans hl), hlen, ⟨fun e H' d sx hd => ⟨true, T.exm_TooMany_ShelfError, fun _ a0 na => ⟨.ref a0, rfl, C_TooMany, T.ec_TooMany, rfl, .inr ⟨d, _, rfl, hd⟩, .ty "ValueError", .type "ValueError", true, rfl, fun _ r => r, T.kit_TooMany_ValueError, q _ (sameX_made nx nd sx)⟩, fun z => Bool.noConfusion z⟩, fun e k hk H' d sx hd => ⟨true, T.exm_BadNumber_ShelfError, fun _ a0 na => ⟨.ref a0, rfl, C_BadNumber, T.ec_BadNumber, rfl, .inr ⟨d, _, rfl, hd⟩, .ty "ValueError", .type "ValueError", true, rfl, fun _ r => r, T.kit_BadNumber_ValueError, q _ (sameX_made nx nd sx)⟩, fun z => Bool.noConfusion z⟩, fun e hb c H' d sx hd => ⟨true, T.exm_BadNumber_ShelfError, fun _ a0 na => ⟨.ref a0, rfl, C_BadNumber, T.ec_BadNumber, rfl, .inr ⟨d, _, rfl, hd⟩, .ty "ValueError", .type "ValueError", true, rfl, fun _ r => r, T.kit_BadNumber_ValueError, q _ (sameX_made nx nd sx)⟩, fun z => Bool.noConfusion z⟩,
      fun e hb c H' t sx hx ht => absurd (due_made e hb c) no⟩⟩⟩
def sp__law_due (K : PySem.W.Frag) : Sp := fun vs H Q _ => ∃ (l : Addr) (ns : List Int) (aside : Int), vs = [.ref l, .int aside] ∧ H l = some (.lst (ns.map V.int)) ∧ ns.length ≤ 1000 ∧ ∀ H' p, Same H H' → H' p = some (.tup (dueW ns aside).due) → Q (.ref p) H' 
theorem ok__law_due {f : Addr} {fd : FuncData} {C_Weighted C_BadNumber C_TooMany C_ZeroBottom C_ShelfError : Addr} (F : Fun K "_law_due" "_law_due" s__law_due f fd) (T : Txt K mg C_Weighted C_BadNumber C_TooMany C_ZeroBottom C_ShelfError) (m_len : mg "len" = none) (m_range : mg "range" = none) : FnOk P w K mg base CX0 1 f fd ["_law_weights", "_law_aside"] (sp__law_due K) := by
  refine F.ok sc__law_due (fun vs H Q E h => ?_) (fun cdv A outer s H vs Q E hr h => ?_)
  · obtain ⟨l, ns, aside, rfl, _⟩ := h
    rfl
  · obtain ⟨l, ns, aside, rfl, hl, hlen, q⟩ := h
    refine ⟨_, (pss_cons (ps_if (pt_cmpR op_gt (pe_callB call_len_seq (by rfl) m_len (by decide +kernel) (pa_cons (pv 0) pa_nil)) pe_int (nomark _)) (pss_one (ps_ret (pe_tup (pa_cons pe_str (pa_cons (pe_callB call_len_seq (by rfl) m_len (by decide +kernel) (pa_cons (pv 0) pa_nil)) (pa_cons pe_int pa_nil)))))) pss_nil)
      (pss_cons (ps_for PassesOwn.never rfl (pi_range1 (by rfl) m_range (pa_cons (pe_callB call_len_seq (by rfl) m_len (by decide +kernel) (pa_cons (pv 0) pa_nil)) pa_nil)) (pg_name (i := 2) sc__law_due.nd rfl (Or.inl rfl))
      (pss_one (ps_if (pt_cmpR op_lt (pe_ix ix_list (pv 0) (pv 2) (fun _ _ => rfl)) pe_int (nomark _)) (pss_one (ps_ret (pe_tup (pa_cons pe_str (pa_cons pe_str (pa_cons (pv 2) pa_nil)))))) pss_nil)))
      (pss_cons (ps_if (pt_cmpR op_lt (pv 1) pe_int (nomark _)) (pss_one (ps_ret (pe_tup (pa_cons pe_str (pa_cons pe_str (pa_cons pe_non pa_nil)))))) pss_nil)
      (pss_one (ps_ret (pe_tup (pa_cons pe_str (pa_cons pe_int (pa_cons pe_int pa_nil))))))))), ?_⟩
    have ll : ((ns.map V.int).length : Int) = ns.length := by rw [List.length_map]
    refine ⟨.ref l, rfl, l, _, rfl, .inl (lst_l hl), _, _, rfl, rfl, _, rfl, ite2 (fun e => ?_) (fun e => ?_)⟩
    · have e : ns.length > 24 := by
        have := of_decide_eq_true e
        omega
      refine ⟨.ref l, rfl, l, _, rfl, .inl (lst_l hl), (by show 3 ≤ sizeLine; decide), fun p np => q _ p (same_upd np) ?_⟩
      rw [upd_same, due_many e, ll]
      rfl
    have e0 : ¬ ns.length > 24 := fun z => e (decide_eq_true (by omega))
    refine ⟨.ref l, rfl, l, _, rfl, .inl (lst_l hl), _, rfl, ?_⟩
    rw [List.length_map]
    refine ⟨by omega, by omega, ?_⟩
    rw [Int.toNat_natCast]
    refine for_range (lo := 0) (n := ns.length) (fun i σ H2 => ∃ y : Option V, σ = [some (.ref l), some (.int aside), y] ∧ H2 = H ∧ badAt ns 0 = badAt (ns.drop i) i) ⟨none, rfl, rfl, rfl⟩ ?_ ?_
    · rintro i σ H2 hi ⟨y, rfl, rfl, hb⟩
      have hd : ns.drop i = ns[i] :: ns.drop (i + 1) := List.drop_eq_getElem_cons hi
      refine ⟨.ref l, rfl, .int (0 + (i : Int)), rfl, l, _, _, _, rfl, rfl, lst_l hl, at_of (Int.zero_add _) (int_at (List.getElem?_eq_getElem hi)), _, _, rfl, rfl, _, rfl, ite2 (fun c => ?_) (fun c => ?_)⟩
      · have hk : badAt ns 0 = some i := by
          rw [hb, hd]
          exact if_pos (of_decide_eq_true c)
        refine ⟨_, rfl, (by show 3 ≤ sizeLine; decide), fun p np => q _ p (same_upd np) ?_⟩
        rw [upd_same, due_num e0 hk, Int.zero_add]
        rfl
      · refine ⟨_, rfl, rfl, ?_⟩
        rw [hb, hd]
        exact if_neg fun z => c (decide_eq_true z)
    · rintro σ H2 ⟨y, rfl, rfl, hb⟩
      rw [List.drop_length] at hb
      refine ⟨_, rfl, _, _, rfl, rfl, _, rfl, ite2 (fun c => ?_) (fun c => ?_)⟩
      · refine ⟨(by show 3 ≤ sizeLine; decide), fun p np => q _ p (same_upd np) ?_⟩
        rw [upd_same, due_aside e0 hb (of_decide_eq_true c)]
        rfl
      · refine ⟨(by show 3 ≤ sizeLine; decide), fun p np => q _ p (same_upd np) ?_⟩
        rw [upd_same, due_made e0 hb (fun z => c (decide_eq_true z))]
        rfl
def sp__law_refused : Sp := fun vs H Q _ => ∃ (t u : Addr) (d : Due), vs = [.ref t, .ref u] ∧ H t = some (.tup d.told) ∧ H u = some (.tup d.due) ∧ d ≠ .made ∧ Q (.bl true) H
theorem ok__law_refused {f : Addr} {fd : FuncData} {C_Weighted C_BadNumber C_TooMany C_ZeroBottom C_ShelfError : Addr} (F : Fun K "_law_refused" "_law_refused" s__law_refused f fd) (T : Txt K mg C_Weighted C_BadNumber C_TooMany C_ZeroBottom C_ShelfError) (m_isinstance : mg "isinstance" = none) (m_str : mg "str" = none) (c__law_is_int : Cal P w K mg base CX0 1 "_law_is_int" ["_law_x"] sp__law_is_int) : FnOk P w K mg base CX0 2 f fd ["_law_told", "_law_due_here"] sp__law_refused := by
  refine F.ok sc__law_refused (fun vs H Q E h => ?_) (fun cdv A outer s H vs Q E hr h => ?_)
  · obtain ⟨t, u, d, rfl, _⟩ := h
    rfl
  · obtain ⟨t, u, d, rfl, ht, hu, nm, q⟩ := h
    obtain ⟨f__law_is_int, fd__law_is_int, G__law_is_int, m__law_is_int, k__law_is_int, b__law_is_int⟩ := c__law_is_int
    refine ⟨_, (pss_cons (ps_if (PW.pt (pw_or (pt_cmpR op_ne (pe_ix ix_tup (pv 0) pe_int (fun _ _ => rfl)) (pe_ix ix_tup (pv 1) pe_int (fun _ _ => rfl)) (nomark _)) (pw_or1 (pt_cmpR op_notBl (pe_ix ix_tup (pv 0) pe_int (fun _ _ => rfl)) pe_bl (nomark _))))) (pss_one (ps_ret pe_bl)) pss_nil)
      (pss_cons (ps_if (pt_cmpR op_eq (pe_ix ix_tup (pv 1) pe_int (fun _ _ => rfl)) pe_str (nomark _)) (pss_one (ps_ret (pe_and (pe_call G__law_is_int (hr.mono (by decide)) (by rfl) m__law_is_int k__law_is_int b__law_is_int .nil pass0 (pa_cons (pe_ix ix_tup (pv 0) pe_int (fun _ _ => rfl)) pa_nil)) (pe_and (pe_cmpR op_eq (pe_ix ix_tup (pv 0) pe_int (fun _ _ => rfl)) (pe_ix ix_tup (pv 1) pe_int (fun _ _ => rfl)) (nomark _)) (pe_and (pe_call G__law_is_int (hr.mono (by decide)) (by rfl) m__law_is_int k__law_is_int b__law_is_int .nil pass0 (pa_cons (pe_ix ix_tup (pv 0) pe_int (fun _ _ => rfl)) pa_nil)) (pe_one (pe_cmpR op_eq (pe_ix ix_tup (pv 0) pe_int (fun _ _ => rfl)) (pe_ix ix_tup (pv 1) pe_int (fun _ _ => rfl)) (nomark _)))))))) pss_nil)
      (pss_cons (ps_if (PW.pt (pw_or (pt_not (pt_val (pe_callB call_isi (by rfl) m_isinstance (by decide +kernel) (pa_cons (pe_ix ix_tup (pv 0) pe_int (fun _ _ => rfl)) (pa_cons (pe_bltn (v := .ty "str") (by rfl) m_str (by decide +kernel) rfl) pa_nil))))) (pw_or1 (pt_cmpR op_ne (pe_ix ix_tup (pv 0) pe_int (fun _ _ => rfl)) (pe_ix ix_tup (pv 1) pe_int (fun _ _ => rfl)) (nomark _))))) (pss_one (ps_ret pe_bl)) pss_nil)
      (pss_cons (ps_if (pt_cmpR op_isN (pe_ix ix_tup (pv 1) pe_int (fun _ _ => rfl)) pe_non (nomark _)) (pss_one (ps_ret (pe_cmpR op_isN (pe_ix ix_tup (pv 0) pe_int (fun _ _ => rfl)) pe_non (nomark _)))) pss_nil)
      (pss_one (ps_ret (pe_and (pe_call G__law_is_int (hr.mono (by decide)) (by rfl) m__law_is_int k__law_is_int b__law_is_int .nil pass0 (pa_cons (pe_ix ix_tup (pv 0) pe_int (fun _ _ => rfl)) pa_nil)) (pe_one (pe_cmpR op_eq (pe_ix ix_tup (pv 0) pe_int (fun _ _ => rfl)) (pe_ix ix_tup (pv 1) pe_int (fun _ _ => rfl)) (nomark _)))))))))), ?_⟩
    cases d with
    | made => exact absurd rfl nm
    | many m =>
      refine ⟨.ref t, rfl, t, _, _, _, rfl, rfl, tup_t ht, atI_nat (j := 0) rfl, .ref u, rfl, u, _, _, _, rfl, rfl, tup_t hu, atI_nat (j := 0) rfl, rfl, _, rfl, iteNS rfl ?_⟩
      refine ⟨.ref t, rfl, t, _, _, _, rfl, rfl, tup_t ht, atI_nat (j := 3) rfl, false, false, rfl, rfl, _, rfl, iteNS rfl ?_⟩
      refine ⟨.ref u, rfl, u, _, _, _, rfl, rfl, tup_t hu, atI_nat (j := 0) rfl, rfl, _, rfl, iteD rfl ?_⟩
      refine ⟨.ref t, rfl, t, _, _, _, rfl, rfl, tup_t ht, atI_nat (j := 1) rfl, m, rfl, true, rfl, iteT ?_⟩
      refine ⟨.ref t, rfl, t, _, _, _, rfl, rfl, tup_t ht, atI_nat (j := 1) rfl, .ref u, rfl, u, _, _, _, rfl, rfl, tup_t hu, atI_nat (j := 1) rfl, rfl, _, rfl, iteD rfl ?_⟩
      refine ⟨.ref t, rfl, t, _, _, _, rfl, rfl, tup_t ht, atI_nat (j := 2) rfl, 24, rfl, true, rfl, iteT ?_⟩
      exact ⟨.ref t, rfl, t, _, _, _, rfl, rfl, tup_t ht, atI_nat (j := 2) rfl, .ref u, rfl, u, _, _, _, rfl, rfl, tup_t hu, atI_nat (j := 2) rfl, rfl, q⟩
    | num k =>
      refine ⟨.ref t, rfl, t, _, _, _, rfl, rfl, tup_t ht, atI_nat (j := 0) rfl, .ref u, rfl, u, _, _, _, rfl, rfl, tup_t hu, atI_nat (j := 0) rfl, rfl, _, rfl, iteNS rfl ?_⟩
      refine ⟨.ref t, rfl, t, _, _, _, rfl, rfl, tup_t ht, atI_nat (j := 3) rfl, false, false, rfl, rfl, _, rfl, iteNS rfl ?_⟩
      refine ⟨.ref u, rfl, u, _, _, _, rfl, rfl, tup_t hu, atI_nat (j := 0) rfl, rfl, _, rfl, iteDF (fun z => by cases z) ?_⟩
      refine ⟨.ref t, rfl, t, _, _, _, rfl, rfl, tup_t ht, atI_nat (j := 1) rfl, .str "weights", .ty "str", _, _, true, rfl, .ty "str", .base (.str _), kit_ty kSt, true, rfl, iteF ?_⟩
      refine ⟨.ref t, rfl, t, _, _, _, rfl, rfl, tup_t ht, atI_nat (j := 1) rfl, .ref u, rfl, u, _, _, _, rfl, rfl, tup_t hu, atI_nat (j := 1) rfl, rfl, _, rfl, iteNS rfl ?_⟩
      refine ⟨.ref u, rfl, u, _, _, _, rfl, rfl, tup_t hu, atI_nat (j := 2) rfl, rfl, _, rfl, iteDF (fun z => by cases z) ?_⟩
      refine ⟨.ref t, rfl, t, _, _, _, rfl, rfl, tup_t ht, atI_nat (j := 2) rfl, k, rfl, true, rfl, iteT ?_⟩
      refine ⟨.ref t, rfl, t, _, _, _, rfl, rfl, tup_t ht, atI_nat (j := 2) rfl, .ref u, rfl, u, _, _, _, rfl, rfl, tup_t hu, atI_nat (j := 2) rfl, rfl, ?_⟩
      rw [decide_eq_true rfl]
      exact q
    | aside =>
      refine ⟨.ref t, rfl, t, _, _, _, rfl, rfl, tup_t ht, atI_nat (j := 0) rfl, .ref u, rfl, u, _, _, _, rfl, rfl, tup_t hu, atI_nat (j := 0) rfl, rfl, _, rfl, iteNS rfl ?_⟩
      refine ⟨.ref t, rfl, t, _, _, _, rfl, rfl, tup_t ht, atI_nat (j := 3) rfl, false, false, rfl, rfl, _, rfl, iteNS rfl ?_⟩
      refine ⟨.ref u, rfl, u, _, _, _, rfl, rfl, tup_t hu, atI_nat (j := 0) rfl, rfl, _, rfl, iteDF (fun z => by cases z) ?_⟩
      refine ⟨.ref t, rfl, t, _, _, _, rfl, rfl, tup_t ht, atI_nat (j := 1) rfl, .str "aside", .ty "str", _, _, true, rfl, .ty "str", .base (.str _), kit_ty kSt, true, rfl, iteF ?_⟩
      refine ⟨.ref t, rfl, t, _, _, _, rfl, rfl, tup_t ht, atI_nat (j := 1) rfl, .ref u, rfl, u, _, _, _, rfl, rfl, tup_t hu, atI_nat (j := 1) rfl, rfl, _, rfl, iteNS rfl ?_⟩
      refine ⟨.ref u, rfl, u, _, _, _, rfl, rfl, tup_t hu, atI_nat (j := 2) rfl, rfl, _, rfl, iteD rfl ?_⟩
      exact ⟨.ref t, rfl, t, _, _, _, rfl, rfl, tup_t ht, atI_nat (j := 2) rfl, rfl, q⟩
def sp__law_right (K : PySem.W.Frag) (C : Addr) : Sp := fun vs H Q _ => ∃ (l : Addr) (ns : List Int) (aside : Int), vs = [.ref l, .int aside] ∧ H l = some (.lst (ns.map V.int)) ∧ ns.length ≤ 1000 ∧ ∀ H', Same H H' → Q (.bl true) H' 
theorem ok__law_right {f : Addr} {fd : FuncData} {C_Weighted C_BadNumber C_TooMany C_ZeroBottom C_ShelfError : Addr} (F : Fun K "_law_right" "_law_right" s__law_right f fd) (T : Txt K mg C_Weighted C_BadNumber C_TooMany C_ZeroBottom C_ShelfError) (m_isinstance : mg "isinstance" = none) (m_list : mg "list" = none) (m_tuple : mg "tuple" = none) (c__law_is_int : Cal P w K mg base CX0 1 "_law_is_int" ["_law_x"] sp__law_is_int) (c__law_same_lot : Cal P w K mg base CX0 2 "_law_same_lot" ["_law_x", "_law_due_here"] (sp__law_same_lot K)) (c__law_made : Cal P w K mg base CX0 7 "_law_made" ["_law_weights", "_law_aside"] (sp__law_made K C_Weighted)) (c__law_base : Cal P w K mg base CX0 7 "_law_base" ["_law_weights", "_law_aside"] (sp__law_base K)) (c__law_due : Cal P w K mg base CX0 1 "_law_due" ["_law_weights", "_law_aside"] (sp__law_due K)) (c__law_refused : Cal P w K mg base CX0 2 "_law_refused" ["_law_told", "_law_due_here"] sp__law_refused) : FnOk P w K mg base CX0 8 f fd ["_law_weights", "_law_aside"] (sp__law_right K C_Weighted) := by
  refine F.ok sc__law_right (fun vs H Q E h => ?_) (fun cdv A outer s H vs Q E hr h => ?_)
  · obtain ⟨l, ns, aside, rfl, _⟩ := h
    rfl
  · obtain ⟨l, ns, aside, rfl, hl, hlen, q⟩ := h
    obtain ⟨f__law_is_int, fd__law_is_int, G__law_is_int, m__law_is_int, k__law_is_int, b__law_is_int⟩ := c__law_is_int
    obtain ⟨f__law_same_lot, fd__law_same_lot, G__law_same_lot, m__law_same_lot, k__law_same_lot, b__law_same_lot⟩ := c__law_same_lot
    obtain ⟨f__law_made, fd__law_made, G__law_made, m__law_made, k__law_made, b__law_made⟩ := c__law_made
    obtain ⟨f__law_base, fd__law_base, G__law_base, m__law_base, k__law_base, b__law_base⟩ := c__law_base
    obtain ⟨f__law_due, fd__law_due, G__law_due, m__law_due, k__law_due, b__law_due⟩ := c__law_due
    obtain ⟨f__law_refused, fd__law_refused, G__law_refused, m__law_refused, k__law_refused, b__law_refused⟩ := c__law_refused
    refine ⟨_, (pss_cons (ps_set (i := 2) sc__law_right.nd rfl (Or.inl rfl) (pe_callTy call_list_of (by rfl) m_list (by decide +kernel) (pa_cons (pv 0) pa_nil)))
      (pss_cons (ps_set (i := 3) sc__law_right.nd rfl (Or.inl rfl) (pe_call G__law_made (hr.mono (by decide)) (by rfl) m__law_made k__law_made b__law_made .nil pass0 (pa_cons (pv 2) (pa_cons (pv 1) pa_nil))))
      (pss_cons (ps_set (i := 4) sc__law_right.nd rfl (Or.inl rfl) (pe_call G__law_due (hr.mono (by decide)) (by rfl) m__law_due k__law_due b__law_due .nil pass0 (pa_cons (pv 0) (pa_cons (pv 1) pa_nil))))
      (pss_cons (ps_if (pt_cmpR (op_neD hr.units) (pv 2) (pv 0) (nomark _)) (pss_one (ps_ret pe_bl)) pss_nil)
      (pss_cons (ps_if (pt_cmpR op_ne (pe_ix ix_tup (pv 4) pe_int (fun _ _ => rfl)) pe_str (nomark _)) (pss_one (ps_ret (pe_and (pe_cmpR op_ne (pe_ix ix_tup (pv 3) pe_int (fun _ _ => rfl)) pe_str (nomark _)) (pe_and (pe_call G__law_refused (hr.mono (by decide)) (by rfl) m__law_refused k__law_refused b__law_refused .nil pass0 (pa_cons (pv 3) (pa_cons (pv 4) pa_nil))) (pe_one (pe_call G__law_base (hr.mono (by decide)) (by rfl) m__law_base k__law_base b__law_base .nil pass0 (pa_cons (pv 2) (pa_cons (pv 1) pa_nil)))))))) pss_nil)
      (pss_cons (ps_if (PW.pt (pw_or (pt_cmpR op_ne (pe_ix ix_tup (pv 3) pe_int (fun _ _ => rfl)) pe_str (nomark _)) (pw_or1 (pt_not (pt_val (pe_callB call_isi (by rfl) m_isinstance (by decide +kernel) (pa_cons (pe_ix ix_tup (pv 3) pe_int (fun _ _ => rfl)) (pa_cons (pe_glob (v := .ref C_Weighted) (by rfl) T.g_Weighted rfl) pa_nil)))))))) (pss_one (ps_ret pe_bl)) pss_nil)
      (pss_cons (ps_if (pt_not (pt_val (pe_call G__law_same_lot (hr.mono (by decide)) (by rfl) m__law_same_lot k__law_same_lot b__law_same_lot .nil pass0 (pa_cons (pe_fld (pe_ix ix_tup (pv 3) pe_int (fun _ _ => rfl)) rfl) (pa_cons (pe_callTy call_tuple_of (by rfl) m_tuple (by decide +kernel) (pa_cons (pv 0) pa_nil)) pa_nil))))) (pss_one (ps_ret pe_bl)) pss_nil)
      (pss_one (ps_ret (pe_and (pe_call G__law_is_int (hr.mono (by decide)) (by rfl) m__law_is_int k__law_is_int b__law_is_int .nil pass0 (pa_cons (pe_fld (pe_ix ix_tup (pv 3) pe_int (fun _ _ => rfl)) rfl) pa_nil)) (pe_one (pe_cmpR op_eq (pe_fld (pe_ix ix_tup (pv 3) pe_int (fun _ _ => rfl)) rfl) (pv 1) (nomark _))))))))))))), ?_⟩
    refine ⟨.ref l, rfl, l, _, rfl, .inl (lst_l hl), fun lp nlp => ?_⟩
    have s0 := same_upd (o := .lst (ns.map V.int)) nlp
    refine ⟨_, rfl, _, rfl, lp, ns, aside, rfl, upd_same, hlen, ?_, ?_⟩
    · intro no H1 t s1 ht
      have hl1 := s1 _ _ (s0 _ _ hl)
      have hp1 := s1 _ _ (upd_same (H := H) (a := lp) (o := .lst (ns.map V.int)))
      refine ⟨_, rfl, _, rfl, l, ns, aside, rfl, hl1, hlen, fun H2 u s2 hu => ?_⟩
      have hl2 := s2 _ _ hl1
      have hp2 := s2 _ _ hp1
      have ht2 := s2 _ _ ht
      have sAll := (s0.trans s1).trans s2
      have hsh : SeqAt.shaped (.list (ns.map PyData.int)) = true := by
        unfold SeqAt.shaped
        rw [show (PyData.list (ns.map PyData.int)).canLay0 = true from lay_ints ns, depth_ints ns]
        rfl
      refine ⟨_, rfl, _, rfl, _, _, dp_ints (lst_l hp2), dp_ints (lst_l hl2), hsh, hsh, false, ?_, iteF ?_⟩
      · rw [SeqAt.eqv_refl _ (SeqAt.canLay_of_shaped hsh)]
        rfl
      obtain ⟨w1, r1, e1, n1⟩ := due_head no
      obtain ⟨w2, r2, e2, n2⟩ := told_head no
      have hu' := hu
      have ht' := ht2
      rw [e1] at hu'
      rw [e2] at ht'
      refine ⟨.ref u, rfl, u, _, _, _, rfl, rfl, tup_t hu', atI_nat (j := 0) rfl, rfl, _, rfl, iteND n1 ?_⟩
      refine ⟨.ref t, rfl, t, _, _, _, rfl, rfl, tup_t ht', atI_nat (j := 0) rfl, rfl, _, rfl, iteND n2 ?_⟩
      refine ⟨_, rfl, _, rfl, t, u, dueW ns aside, rfl, ht2, hu, no, true, rfl, iteT ?_⟩
      exact ⟨_, rfl, _, rfl, lp, ns, aside, rfl, hp2, hlen, no, fun H3 s3 => q _ (sAll.trans s3)⟩
    · intro ok H1 t x dx tw s1 ht hx htw
      have hl1 := s1 _ _ (s0 _ _ hl)
      have hp1 := s1 _ _ (upd_same (H := H) (a := lp) (o := .lst (ns.map V.int)))
      refine ⟨_, rfl, _, rfl, l, ns, aside, rfl, hl1, hlen, fun H2 u s2 hu => ?_⟩
      rw [ok] at hu
      have hl2 := s2 _ _ hl1
      have hp2 := s2 _ _ hp1
      have ht2 := s2 _ _ ht
      have hx2 := s2 _ _ hx
      have htw2 := s2 _ _ htw
      have sAll := (s0.trans s1).trans s2
      have hsh : SeqAt.shaped (.list (ns.map PyData.int)) = true := by
        unfold SeqAt.shaped
        rw [show (PyData.list (ns.map PyData.int)).canLay0 = true from lay_ints ns, depth_ints ns]
        rfl
      refine ⟨_, rfl, _, rfl, _, _, dp_ints (lst_l hp2), dp_ints (lst_l hl2), hsh, hsh, false, ?_, iteF ?_⟩
      · rw [SeqAt.eqv_refl _ (SeqAt.canLay_of_shaped hsh)]
        rfl
      refine ⟨.ref u, rfl, u, _, _, _, rfl, rfl, tup_t hu, atI_nat (j := 0) rfl, rfl, _, rfl, iteNS rfl ?_⟩
      refine ⟨.ref t, rfl, t, _, _, _, rfl, rfl, tup_t ht2, atI_nat (j := 0) rfl, rfl, _, rfl, iteNS rfl ?_⟩
      refine ⟨.ref t, rfl, t, _, _, _, rfl, rfl, tup_t ht2, atI_nat (j := 1) rfl, .ref x, .ref C_Weighted, .ref C_Weighted, .ref C_Weighted, true, rfl, .own C_Weighted, .base (.ins hx2 T.cl_Weighted T.ha_Weighted T.hnc T.htk T.hm_Weighted), T.kit_Weighted_Weighted, true, rfl, iteF ?_⟩
      refine ⟨.ref t, rfl, t, _, _, _, rfl, rfl, tup_t ht2, atI_nat (j := 1) rfl, x, C_Weighted, dx, _, _, rfl, hx2, T.cl_Weighted, T.n_Weighted_weights, fW_weights _ _ _, ?_⟩
      refine ⟨.ref l, rfl, l, _, rfl, .inl ⟨lst_l hl2, fun v nv => ?_⟩⟩
      have s3 := same_upd (o := .tup (ns.map V.int)) nv
      refine ⟨tw, v, ns, rfl, s3 _ _ htw2, tup_t upd_same, hlen, true, rfl, iteF ?_⟩
      refine ⟨.ref t, rfl, t, _, _, _, rfl, rfl, tup_t (s3 _ _ ht2), atI_nat (j := 1) rfl, x, C_Weighted, dx, _, _, rfl, s3 _ _ hx2, T.cl_Weighted, T.n_Weighted_aside, fW_aside _ _ _, aside, rfl, true, rfl, iteT ?_⟩
      refine ⟨.ref t, rfl, t, _, _, _, rfl, rfl, tup_t (s3 _ _ ht2), atI_nat (j := 1) rfl, x, C_Weighted, dx, _, _, rfl, s3 _ _ hx2, T.cl_Weighted, T.n_Weighted_aside, fW_aside _ _ _, _, rfl, rfl, ?_⟩
      rw [decide_eq_true rfl]
      exact q _ (sAll.trans s3)
def sp_law (K : PySem.W.Frag) : Sp := fun vs H Q _ => ∃ (a : Addr) (ns : List Int), vs = [.ref a] ∧ SqL K H a (ns.map V.int) ∧ ns.length ≤ 63 ∧ ∀ H', Q (.bl true) H'

theorem ok_law {f : Addr} {fd : FuncData} {C_Weighted C_BadNumber C_TooMany C_ZeroBottom C_ShelfError : Addr} (F : Fun K "law" "law" s_law f fd) (T : Txt K mg C_Weighted C_BadNumber C_TooMany C_ZeroBottom C_ShelfError) (m_int : mg "int" = none) (m_max : mg "max" = none) (m_range : mg "range" = none) (c__law_cell : Cal P w K mg base CX0 1 "_law_cell" ["_law_script", "_law_place"] (sp__law_cell K)) (c__law_draws : Cal P w K mg base CX0 1 "_law_draws" ["_law_cell_here", "_law_sizes"] (sp__law_draws K)) (c__law_row : Cal P w K mg base CX0 2 "_law_row" ["_law_cell_here", "_law_count"] (sp__law_row K)) (c__law_ups : Cal P w K mg base CX0 1 "_law_ups" ["_law_row_here"] (sp__law_ups K)) (c__law_right : Cal P w K mg base CX0 8 "_law_right" ["_law_weights", "_law_aside"] (sp__law_right K C_Weighted)) : FnOk P w K mg base CX0 9 f fd ["_law_script"] (sp_law K) := by
  refine F.ok sc_law (fun vs H Q E h => ?_) (fun cdv A outer s H vs Q E hr h => ?_)
  · obtain ⟨a, ns, rfl, _⟩ := h
    rfl
  · obtain ⟨a, ns, rfl, hS, hlen, q⟩ := h
    obtain ⟨f__law_cell, fd__law_cell, G__law_cell, m__law_cell, k__law_cell, b__law_cell⟩ := c__law_cell
    obtain ⟨f__law_draws, fd__law_draws, G__law_draws, m__law_draws, k__law_draws, b__law_draws⟩ := c__law_draws
    obtain ⟨f__law_row, fd__law_row, G__law_row, m__law_row, k__law_row, b__law_row⟩ := c__law_row
    obtain ⟨f__law_ups, fd__law_ups, G__law_ups, m__law_ups, k__law_ups, b__law_ups⟩ := c__law_ups
    obtain ⟨f__law_right, fd__law_right, G__law_right, m__law_right, k__law_right, b__law_right⟩ := c__law_right
    refine ⟨_, (pss_cons (ps_set (i := 1) sc_law.nd rfl (Or.inl rfl) (pe_call G__law_draws (hr.mono (by decide)) (by rfl) m__law_draws k__law_draws b__law_draws .nil pass0 (pa_cons (pe_call G__law_cell (hr.mono (by decide)) (by rfl) m__law_cell k__law_cell b__law_cell .nil pass0 (pa_cons (pv 0) (pa_cons pe_int pa_nil))) (pa_cons (pe_lst (pa_cons pe_int (pa_cons pe_int (pa_cons pe_int (pa_cons (pe_op op_sub (pe_op op_pow pe_int pe_int) pe_int) pa_nil))))) pa_nil))))
      (pss_cons (ps_set (i := 2) sc_law.nd rfl (Or.inl rfl) (pe_ix ix_list (pv 1) pe_int (fun _ _ => rfl)))
      (pss_cons (ps_set (i := 3) sc_law.nd rfl (Or.inl rfl) (pe_op op_sub (pe_ix ix_list (pv 1) pe_int (fun _ _ => rfl)) pe_int))
      (Evl.pss_cut (ps_if (pt_cmpR op_eq (pe_ix ix_list (pv 1) pe_int (fun _ _ => rfl)) pe_int (nomark _)) (pss_one (ps_set (i := 3) sc_law.nd rfl (Or.inl rfl) (pe_op op_add pe_int (pe_ix ix_list (pv 1) pe_int (fun _ _ => rfl))))) pss_nil)
      (Evl.pss_cut (ps_if (pt_cmpR op_eq (pe_ix ix_list (pv 1) pe_int (fun _ _ => rfl)) pe_int (nomark _)) (pss_one (ps_set (i := 3) sc_law.nd rfl (Or.inl rfl) (pe_un un_neg (pe_ix ix_list (pv 1) pe_int (fun _ _ => rfl))))) pss_nil)
      (pss_cons (ps_set (i := 4) sc_law.nd rfl (Or.inl rfl) (pe_call G__law_ups (hr.mono (by decide)) (by rfl) m__law_ups k__law_ups b__law_ups .nil pass0 (pa_cons (pe_call G__law_row (hr.mono (by decide)) (by rfl) m__law_row k__law_row b__law_row .nil pass0 (pa_cons (pe_call G__law_cell (hr.mono (by decide)) (by rfl) m__law_cell k__law_cell b__law_cell .nil pass0 (pa_cons (pv 0) (pa_cons pe_int pa_nil))) (pa_cons (pv 2) pa_nil))) pa_nil)))
      (pss_cons (ps_set (i := 5) sc_law.nd rfl (Or.inl rfl) (pe_call G__law_draws (hr.mono (by decide)) (by rfl) m__law_draws k__law_draws b__law_draws .nil pass0 (pa_cons (pe_call G__law_cell (hr.mono (by decide)) (by rfl) m__law_cell k__law_cell b__law_cell .nil pass0 (pa_cons (pv 0) (pa_cons pe_int pa_nil))) (pa_cons (pe_lst (pa_cons pe_int (pa_cons pe_int (pa_cons pe_int (pa_cons pe_int (pa_cons pe_int (pa_cons (pe_op op_sub (pe_op op_pow pe_int pe_int) pe_int) pa_nil))))))) pa_nil))))
      (pss_cons (ps_for PassesOwn.never rfl (pi_range1 (by rfl) m_range (pa_cons (pe_ix ix_list (pv 5) pe_int (fun _ _ => rfl)) pa_nil)) (pg_name (i := 6) sc_law.nd rfl (Or.inl rfl))
      (pss_one (ps_if (pt_cmpR op_gt (pv 2) pe_int (nomark _)) (pss_cons (ps_set (i := 7) sc_law.nd rfl (Or.inl rfl) (pe_un un_neg (pe_ix ix_list (pv 5) (pe_op op_add pe_int (pe_op op_mul pe_int (pv 6))) (fun _ _ => rfl))))
      (Evl.pss_cut (ps_if (pt_cmpR op_eq (pv 7) (pe_un un_neg pe_int) (nomark _)) (pss_one (ps_set (i := 7) sc_law.nd rfl (Or.inl rfl) (pe_un un_neg (pe_ix ix_list (pv 5) pe_int (fun _ _ => rfl))))) pss_nil)
      (pss_one (ps_asg (pv 7) (pg_sub (pv 4) (pe_op op_mod (pe_callTy call_int1 (by rfl) m_int (by decide +kernel) (pa_cons (pe_ix ix_list (pv 5) (pe_op op_add pe_int (pe_op op_mul pe_int (pv 6))) (fun _ _ => rfl)) pa_nil)) (pv 2)) set_list))))) pss_nil)))
      (pss_cons (ps_setLc (i := 8) (own := [("_law_weight", 9)]) (g := (gName 9)) (tt := tYes) rfl sc_law.nd rfl rfl (sw_true rfl rfl rfl (by decide +kernel)) (pi_list (pe_slice sl_list (pv 4) po_none (po_some pe_int))) (blkOk_by (own := [("_law_weight", 9)]) (N := ["_law_script", "_law_first", "_law_many", "_law_aside", "_law_weights", "_law_faults", "_law_k", "_law_number", "_law_mended", "_law_weight"]) (sc := defScope s_law) (by decide +kernel)) (fun _ _ _ _ _ => (pg_name (i := 9) sc_law.nd rfl (Or.inl rfl))) (fun _ _ _ _ _ => pts_nil) (fun _ _ _ _ _ => (pe_callB (call_max2 rfl) (by rfl) m_max (by decide +kernel) (pa_cons pe_int (pa_cons (pv 9) pa_nil)))))
      (pss_one (ps_ret (pe_and (pe_call G__law_right (hr.mono (by decide)) (by rfl) m__law_right k__law_right b__law_right .nil pass0 (pa_cons (pv 4) (pa_cons (pv 3) pa_nil))) (pe_one (pe_call G__law_right (hr.mono (by decide)) (by rfl) m__law_right k__law_right b__law_right .nil pass0 (pa_cons (pv 8) (pa_cons (pe_callB (call_max2 rfl) (by rfl) m_max (by decide +kernel) (pa_cons pe_int (pa_cons (pv 3) pa_nil))) pa_nil)))))))))))))))), ?_⟩
    refine ⟨.ref a, rfl, a, ns, 0, rfl, hS, fun c1 => ?_⟩
    refine ⟨10, 18, rfl, rfl, ⟨by decide, by decide, by decide⟩, _, _, rfl, rfl, (by show 4 ≤ sizeLine; decide), fun p1 np1 => ?_⟩
    refine ⟨c1, p1, [28, 8, 4, 10 ^ 18 - 1], rfl, lst_l upd_same, by decide, by decide, fun dsd1 H1 d1 wd1 s1 nd1 hd1 => ?_⟩
    have s1 : Same H H1 := (same_upd np1).trans s1
    have nd1 : H d1 = none := (same_upd np1).free nd1
    obtain ⟨x0, rx0, rfl, lx0, ux0, wd1⟩ := wd1.c
    obtain ⟨x1, rx1, rfl, lx1, ux1, wd1⟩ := wd1.c
    obtain ⟨x2, rx2, rfl, lx2, ux2, wd1⟩ := wd1.c
    obtain ⟨x3, rx3, rfl, lx3, ux3, wd1⟩ := wd1.c
    cases wd1.n
    have Ld1 : SqL K H1 d1 ([x0, x1, x2, x3].map V.int) := lst_l hd1
    obtain ⟨m, rfl⟩ : ∃ m : Nat, x0 = (m : Int) := ⟨x0.toNat, by omega⟩
    have hm : m ≤ 27 := by omega
    refine ⟨.ref d1, rfl, d1, _, _, _, rfl, rfl, Ld1, atI_nat (j := 0) rfl, ?_⟩
    refine ⟨.ref d1, rfl, d1, _, _, _, rfl, rfl, Ld1, atI_nat (j := 1) rfl, _, _, rfl, rfl, ?_⟩
    refine ⟨fun σ' H' => ∃ g : Int, H1 = H' ∧ σ' = [some (.ref a), some (.ref d1), some (.int (m : Int)), some (.int g), none, none, none, none, none, none], ?_, ?_⟩
    · exact ⟨.ref d1, rfl, d1, _, _, _, rfl, rfl, Ld1, atI_nat (j := 2) rfl, rfl, _, rfl, ite2 (fun _ => ⟨.ref d1, rfl, d1, _, _, _, rfl, rfl, Ld1, atI_nat (j := 3) rfl, _, _, rfl, rfl, _, rfl, rfl⟩) (fun _ => ⟨_, rfl, rfl⟩)⟩
    rintro σ' H' ⟨g, rfl, rfl⟩
    refine ⟨fun σ' H' => ∃ g : Int, H1 = H' ∧ σ' = [some (.ref a), some (.ref d1), some (.int (m : Int)), some (.int g), none, none, none, none, none, none], ?_, ?_⟩
    · exact ⟨.ref d1, rfl, d1, _, _, _, rfl, rfl, Ld1, atI_nat (j := 2) rfl, rfl, _, rfl, ite2 (fun _ => ⟨.ref d1, rfl, d1, _, _, _, rfl, rfl, Ld1, atI_nat (j := 3) rfl, x3, rfl, _, rfl, rfl⟩) (fun _ => ⟨g, rfl, rfl⟩)⟩
    rintro σ' H' ⟨g, rfl, rfl⟩
    refine ⟨.ref a, rfl, a, ns, 1, rfl, s1.seq hS, fun c2 => ⟨_, rfl, c2, m, rfl, by omega, fun rs H2 d2 lr br s2 nd2 hd2 => ?_⟩⟩
    refine ⟨d2, rs, rfl, hd2, by omega, fun H3 W s3 nW hW => ?_⟩
    have s13 := (s1.trans s2).trans s3
    refine ⟨.ref a, rfl, a, ns, 2, rfl, (s13.seq hS), fun c3 => ?_⟩
    refine ⟨10, 18, rfl, rfl, ⟨by decide, by decide, by decide⟩, _, _, rfl, rfl, (by show 6 ≤ sizeLine; decide), fun p3 np3 => ?_⟩
    refine ⟨c3, p3, [3, 27, 4, 27, 4, 10 ^ 18 - 1], rfl, lst_l upd_same, by decide, by decide, fun dsd3 H4 d3 wd3 s4 nd3 hd3 => ?_⟩
    have s4 : Same H3 H4 := (same_upd np3).trans s4
    have nd3 : H3 d3 = none := (same_upd np3).free nd3
    obtain ⟨z0, rz0, rfl, lz0, uz0, wd3⟩ := wd3.c
    obtain ⟨z1, rz1, rfl, lz1, uz1, wd3⟩ := wd3.c
    obtain ⟨z2, rz2, rfl, lz2, uz2, wd3⟩ := wd3.c
    obtain ⟨z3, rz3, rfl, lz3, uz3, wd3⟩ := wd3.c
    obtain ⟨z4, rz4, rfl, lz4, uz4, wd3⟩ := wd3.c
    obtain ⟨z5, rz5, rfl, lz5, uz5, wd3⟩ := wd3.c
    cases wd3.n
    have Ld3 : SqL K H4 d3 ([z0, z1, z2, z3, z4, z5].map V.int) := lst_l hd3
    have hW4 := s4 _ _ hW
    have dW : d3 ≠ W := fun z => by
      rw [z, hW] at nd3
      cases nd3
    have wl : (rs.map fun n => 1 + n).length = m := by rw [List.length_map, lr]
    generalize (rs.map fun n => 1 + n) = qs at hW4 wl
    refine ⟨.ref d3, rfl, d3, _, _, _, rfl, rfl, Ld3, atI_nat (j := 0) rfl, z0, rfl, by omega, by omega, ?_⟩
    refine for_range (lo := 0) (n := z0.toNat) (fun i σ H5 => ∃ (qs : List Int) (y1 y2 : Option V), σ = [some (.ref a), some (.ref d1), some (.int (m : Int)), some (.int g), some (.ref W), some (.ref d3), y1, y2, none, none] ∧ SameX W H4 H5 ∧ H5 W = some (.lst (qs.map V.int)) ∧ qs.length = m) ⟨qs, none, none, rfl, fun _ _ _ z => z, hW4, wl⟩ ?_ ?_
    · rintro i σ H5 hi ⟨qs, y1, y2, rfl, sx, hq, lq⟩
      have G3 : SqL K H5 d3 ([z0, z1, z2, z3, z4, z5].map V.int) := lst_l (sx _ _ dW hd3)
      obtain ⟨u, hu⟩ : ∃ u : Int, atI ([z0, z1, z2, z3, z4, z5].map V.int) (2 + 2 * (0 + (i : Int))) = some (.int u) := by
        rcases (by omega : i = 0 ∨ i = 1) with rfl | rfl
        · exact ⟨z2, rfl⟩
        · exact ⟨z4, rfl⟩
      obtain ⟨v, hv⟩ : ∃ v : Int, atI ([z0, z1, z2, z3, z4, z5].map V.int) (1 + 2 * (0 + (i : Int))) = some (.int v) := by
        rcases (by omega : i = 0 ∨ i = 1) with rfl | rfl
        · exact ⟨z1, rfl⟩
        · exact ⟨z3, rfl⟩
      refine ⟨_, rfl, _, _, rfl, rfl, _, rfl, ite2 (fun pos => ?_) (fun _ => ⟨qs, _, y2, rfl, sx, hq, lq⟩)⟩
      have pos := of_decide_eq_true pos
      refine ⟨.ref d3, rfl, _, rfl, _, _, rfl, rfl, .inl ⟨by decide, by decide⟩, _, _, rfl, rfl, d3, _, _, _, rfl, rfl, G3, hu, u, rfl, ?_⟩
      refine ⟨fun σ' H' => ∃ nb : Int, H5 = H' ∧ σ' = [some (.ref a), some (.ref d1), some (.int (m : Int)), some (.int g), some (.ref W), some (.ref d3), some (.int (0 + (i : Int))), some (.int nb), none, none], ?_, ?_⟩
      · exact ⟨_, rfl, 3, rfl, rfl, _, rfl, ite2 (fun _ => ⟨.ref d3, rfl, d3, _, _, _, rfl, rfl, G3, atI_nat (j := 5) rfl, z5, rfl, _, rfl, rfl⟩) (fun _ => ⟨_, rfl, rfl⟩)⟩
      rintro σ' H' ⟨nb, rfl, rfl⟩
      have j0 := Int.emod_nonneg v (show (m : Int) ≠ 0 by omega)
      have j1 := Int.emod_lt_of_pos v (show (0 : Int) < m by omega)
      refine ⟨_, rfl, _, rfl, .ref d3, rfl, _, rfl, _, _, rfl, rfl, .inl ⟨by decide, by decide⟩, _, _, rfl, rfl, d3, _, _, _, rfl, rfl, G3, hv, .inl ⟨v, rfl, _, rfl, _, _, rfl, rfl, pos, W, _, _, (v % (m : Int)).toNat, rfl, rfl, hq, ?_, ?_⟩⟩
      · unfold ixN
        rw [if_pos j0, if_pos (by rw [List.length_map, lq]; exact j1)]
      · refine ⟨qs.set (v % (m : Int)).toNat nb, _, _, rfl, sx.trans SameX.put, ?_, by rw [List.length_set]; exact lq⟩
        rw [upd_same, set_ints]
    rintro σ H5 ⟨qs, y1, y2, rfl, sx, hq, lq⟩
    refine ⟨.ref W, rfl, 24, rfl, W, _, rfl, lst_l hq, fun p6 n6 => ?_⟩
    rw [show cutV (qs.map V.int) none (some 24) = (qs.take 24).map V.int from (cut_to _ 24).trans (List.map_take).symm]
    obtain ⟨ts, hts⟩ : ∃ ts, ts = qs.take 24 := ⟨_, rfl⟩
    rw [← hts]
    have lts : ts.length ≤ 24 := by
      rw [hts, List.length_take]
      omega
    have s6 := same_upd (o := .lst (ts.map V.int)) n6
    refine ⟨p6, rfl, ⟨_, lst_l upd_same⟩, fun D nD => lc_list (K := K) (a := p6) (xs := ts.map V.int) (fun i H7 => Same (upd H5 p6 (.lst (ts.map V.int))) H7 ∧ H7 D = some (.lst (((ts.take i).map mx).map V.int))) ⟨same_upd nD, upd_same⟩ (fun i H7 _ ⟨s, _⟩ => lst_l (s _ _ upd_same)) ?_ ?_⟩
    · rintro i x H7 hi ⟨s, hD⟩
      obtain ⟨n, rfl, hin⟩ := int_of hi
      refine ⟨rfl, ?_⟩
      refine lc_yes ?_
      refine iteT ?_
      refine ⟨_, rfl, 1, n, rfl, _, hD, ?_, same_mut s nD, ?_⟩
      · rw [List.length_map, List.length_map, List.length_take]
        exact small1000 (by omega)
      · rw [upd_same, List.take_add_one, hin, List.map_append, List.map_append]
        rfl
    · rintro H7 ⟨s, hD⟩
      rw [List.length_map, List.take_length] at hD
      have hW7 := s _ _ (s6 _ _ hq)
      refine ⟨_, rfl, _, rfl, W, qs, g, rfl, hW7, by omega, fun H8 s8 => ⟨true, rfl, iteT ?_⟩⟩
      refine ⟨_, rfl, _, rfl, 1, g, rfl, D, ts.map mx, _, rfl, s8 _ _ hD, ?_, fun _ _ => q _⟩
      rw [List.length_map]
      omega
end
/-! ### what the top has written; the law's own head -/
theorem all_mk {l : PySem.W.OpenLaw} {w : World} {K : PySem.W.Frag} {h : Heap} {mg : Str → Option Value} {fa f1 f2 f3 f4 f5 f6 f7 f8 f9 f10 f11 f12 f13 f14 f15 f16 f17 f18 f19 f20 C_Weighted C_BadNumber C_TooMany C_ZeroBottom C_ShelfError : Addr} (X : K.In h) (G : h.Ns mainGlobals mg) (hfa : mg "law" = some (.ref fa))
    {od1 an1 od2 an2 od3 an3 od4 an4 od5 an5 od6 an6 od7 an7 od8 an8 od9 an9 od10 an10 od11 an11 od12 an12 od13 an13 od14 an14 od15 an15 od16 an16 od17 an17 od18 an18 od19 an19 od20 an20 : Option Addr} {sl1 sl2 sl3 sl4 sl5 sl6 sl7 sl8 sl9 sl10 sl11 sl12 sl13 sl14 sl15 sl16 sl17 sl18 sl19 sl20 : Array (Option Value)} {oc1 kV1 dc1 pm1 cd1 ct1 oc2 kV2 dc2 pm2 cd2 ct2 oc3 kV3 dc3 pm3 cd3 ct3 oc4 kV4 dc4 pm4 cd4 ct4 oc5 kV5 dc5 pm5 cd5 ct5 oc6 kV6 dc6 pm6 cd6 ct6 oc7 kV7 dc7 pm7 cd7 ct7 oc8 kV8 dc8 pm8 ct8 oc9 kV9 dc9 pm9 cd9 ct9 oc10 kV10 dc10 pm10 cd10 ct10 oc11 kV11 dc11 pm11 cd11 ct11 oc12 kV12 dc12 pm12 cd12 ct12 oc13 kV13 dc13 pm13 cd13 ct13 oc14 kV14 dc14 pm14 cd14 ct14 oc15 kV15 dc15 pm15 cd15 ct15 oc16 kV16 dc16 pm16 cd16 ct16 oc17 kV17 dc17 pm17 cd17 ct17 oc18 kV18 dc18 pm18 cd18 ct18 oc19 kV19 dc19 pm19 cd19 ct19 oc20 kV20 dc20 pm20 cd20 ct20 : Value} {tk_MOST_THINGS : Tok} {cc8 cda8 : Addr} {cl8 ccl8 : Value} {cld8 cdd8 : Option Addr} {csl8 ccs8 : Array (Option Value)} {vs8 : Array Value} {fi8 : Str} {tf8 : Tok} {cdW8 : ClassData}
    (a_Weighted : PySem.W.nsIn K mainGlobals "Weighted" = some (some (.ref C_Weighted)))
    (kc_Weighted : PySem.W.keepIn K (.ref C_Weighted) = true)
    (hd_Weighted : PySem.W.hasDictIn K C_Weighted = true)
    (ha_Weighted : PySem.W.findIn K (.ref C_Weighted) "__class__" = some (some (.builtin "object.__class__")))
    (hm_Weighted : PySem.W.mroIn K C_Weighted (.type "object") = some true)
    (pg_Weighted : PySem.W.plainGet K C_Weighted Str.empty = true)
    (po_Weighted : PySem.W.plainOver K C_Weighted = true)
    (sa_Weighted : PySem.W.findIn K (.ref C_Weighted) "__setattr__" = some (some (.builtin "object.__setattr__")))
    (mk_Weighted : PySem.W.makesIn K C_Weighted = true)
    (n_Weighted_many : PySem.W.findIn K (.ref C_Weighted) "many" = some none)
    (n_Weighted_weights : PySem.W.findIn K (.ref C_Weighted) "weights" = some none)
    (n_Weighted_aside : PySem.W.findIn K (.ref C_Weighted) "aside" = some none)
    (a_BadNumber : PySem.W.nsIn K mainGlobals "BadNumber" = some (some (.ref C_BadNumber)))
    (kc_BadNumber : PySem.W.keepIn K (.ref C_BadNumber) = true)
    (hd_BadNumber : PySem.W.hasDictIn K C_BadNumber = true)
    (ha_BadNumber : PySem.W.findIn K (.ref C_BadNumber) "__class__" = some (some (.builtin "object.__class__")))
    (hm_BadNumber : PySem.W.mroIn K C_BadNumber (.type "object") = some true)
    (b_BadNumber : PySem.W.subIn K (.ref C_BadNumber) (.type "BaseException") = some true)
    (t_BadNumber : PySem.W.typeIn K (.ref C_BadNumber) = some (.type "type"))
    (ga_BadNumber : PySem.W.findIn K (.ref C_BadNumber) "__getattribute__" = some (some (.builtin "BaseException.__getattribute__")))
    (gg_BadNumber : PySem.W.findIn K (.ref C_BadNumber) "__getattr__" = some none)
    (ol_BadNumber : K.lookup C_BadNumber = some (excClassObj nm_BadNumber q_BadNumber C_BadNumber N_BadNumber bs_BadNumber bm_BadNumber true sn_BadNumber sub_BadNumber ab_BadNumber col_BadNumber dd_BadNumber k0_BadNumber k1_BadNumber k2_BadNumber k3_BadNumber k5_BadNumber "ValueError.__new__"))
    (or_BadNumber : PySem.HandSPX.refsVE bm_BadNumber = true)
    (sa_BadNumber : PySem.W.findIn K (.ref C_BadNumber) "__setattr__" = some (some (.builtin "object.__setattr__")))
    (n_BadNumber_what : PySem.W.findIn K (.ref C_BadNumber) "what" = some none)
    (n_BadNumber_at : PySem.W.findIn K (.ref C_BadNumber) "at" = some none)
    (a_TooMany : PySem.W.nsIn K mainGlobals "TooMany" = some (some (.ref C_TooMany)))
    (kc_TooMany : PySem.W.keepIn K (.ref C_TooMany) = true)
    (hd_TooMany : PySem.W.hasDictIn K C_TooMany = true)
    (ha_TooMany : PySem.W.findIn K (.ref C_TooMany) "__class__" = some (some (.builtin "object.__class__")))
    (hm_TooMany : PySem.W.mroIn K C_TooMany (.type "object") = some true)
    (b_TooMany : PySem.W.subIn K (.ref C_TooMany) (.type "BaseException") = some true)
    (t_TooMany : PySem.W.typeIn K (.ref C_TooMany) = some (.type "type"))
    (ga_TooMany : PySem.W.findIn K (.ref C_TooMany) "__getattribute__" = some (some (.builtin "BaseException.__getattribute__")))
    (gg_TooMany : PySem.W.findIn K (.ref C_TooMany) "__getattr__" = some none)
    (ol_TooMany : K.lookup C_TooMany = some (excClassObj nm_TooMany q_TooMany C_TooMany N_TooMany bs_TooMany bm_TooMany true sn_TooMany sub_TooMany ab_TooMany col_TooMany dd_TooMany k0_TooMany k1_TooMany k2_TooMany k3_TooMany k5_TooMany "ValueError.__new__"))
    (or_TooMany : PySem.HandSPX.refsVE bm_TooMany = true)
    (sa_TooMany : PySem.W.findIn K (.ref C_TooMany) "__setattr__" = some (some (.builtin "object.__setattr__")))
    (n_TooMany_many : PySem.W.findIn K (.ref C_TooMany) "many" = some none)
    (n_TooMany_most : PySem.W.findIn K (.ref C_TooMany) "most" = some none)
    (a_ZeroBottom : PySem.W.nsIn K mainGlobals "ZeroBottom" = some (some (.ref C_ZeroBottom)))
    (kc_ZeroBottom : PySem.W.keepIn K (.ref C_ZeroBottom) = true)
    (hd_ZeroBottom : PySem.W.hasDictIn K C_ZeroBottom = true)
    (ha_ZeroBottom : PySem.W.findIn K (.ref C_ZeroBottom) "__class__" = some (some (.builtin "object.__class__")))
    (hm_ZeroBottom : PySem.W.mroIn K C_ZeroBottom (.type "object") = some true)
    (b_ZeroBottom : PySem.W.subIn K (.ref C_ZeroBottom) (.type "BaseException") = some true)
    (t_ZeroBottom : PySem.W.typeIn K (.ref C_ZeroBottom) = some (.type "type"))
    (ga_ZeroBottom : PySem.W.findIn K (.ref C_ZeroBottom) "__getattribute__" = some (some (.builtin "BaseException.__getattribute__")))
    (gg_ZeroBottom : PySem.W.findIn K (.ref C_ZeroBottom) "__getattr__" = some none)
    (a_ShelfError : PySem.W.nsIn K mainGlobals "ShelfError" = some (some (.ref C_ShelfError)))
    (kc_ShelfError : PySem.W.keepIn K (.ref C_ShelfError) = true)
    (hd_ShelfError : PySem.W.hasDictIn K C_ShelfError = true)
    (ha_ShelfError : PySem.W.findIn K (.ref C_ShelfError) "__class__" = some (some (.builtin "object.__class__")))
    (hm_ShelfError : PySem.W.mroIn K C_ShelfError (.type "object") = some true)
    (b_ShelfError : PySem.W.subIn K (.ref C_ShelfError) (.type "BaseException") = some true)
    (t_ShelfError : PySem.W.typeIn K (.ref C_ShelfError) = some (.type "type"))
    (ga_ShelfError : PySem.W.findIn K (.ref C_ShelfError) "__getattribute__" = some (some (.builtin "BaseException.__getattribute__")))
    (gg_ShelfError : PySem.W.findIn K (.ref C_ShelfError) "__getattr__" = some none)
    (hnc : PySem.W.specialIn K (.builtin "object.__class__") "__get__" = some (some (.builtin "getset_descriptor.__get__")))
    (htk : PySem.W.takesIn K (.builtin "object.__class__") = some true)
    (sub_BadNumber_BadNumber : PySem.W.subIn K (.ref C_BadNumber) (.ref C_BadNumber) = some true)
    (sub_TooMany_BadNumber : PySem.W.subIn K (.ref C_TooMany) (.ref C_BadNumber) = some false)
    (sub_TooMany_TooMany : PySem.W.subIn K (.ref C_TooMany) (.ref C_TooMany) = some true)
    (sub_BadNumber_ShelfError : PySem.W.subIn K (.ref C_BadNumber) (.ref C_ShelfError) = some true)
    (sub_TooMany_ShelfError : PySem.W.subIn K (.ref C_TooMany) (.ref C_ShelfError) = some true)
    (kit_BadNumber_TooMany : PySem.W.kitOne K (.ref C_BadNumber) (.ref C_TooMany) = some false)
    (kit_BadNumber_ZeroBottom : PySem.W.kitOne K (.ref C_BadNumber) (.ref C_ZeroBottom) = some false)
    (kit_TooMany_BadNumber : PySem.W.kitOne K (.ref C_TooMany) (.ref C_BadNumber) = some false)
    (kit_TooMany_ZeroBottom : PySem.W.kitOne K (.ref C_TooMany) (.ref C_ZeroBottom) = some false)
    (kit_BadNumber_ValueError : PySem.W.kitOne K (.ref C_BadNumber) (.type "ValueError") = some true)
    (kit_TooMany_ValueError : PySem.W.kitOne K (.ref C_TooMany) (.type "ValueError") = some true)
    (kit_Weighted_Weighted : PySem.W.kitOne K (.ref C_Weighted) (.ref C_Weighted) = some true)
    (a_MOST_THINGS : PySem.W.nsIn K mainGlobals "MOST_THINGS" = some (some (.int 24 tk_MOST_THINGS)))
    (a1 : PySem.W.findIn K (.ref C_BadNumber) "__init__" = some (some (.ref f1))) (i1 : PySem.W.isFn K (.ref f1) = true)
    (l1 : K.lookup f1 = some ⟨oc1, od1, .func (PySem.W.fnOf "__init__" "BadNumber.__init__" (defArgs s_BadNumber___init__) (defBody s_BadNumber___init__) (defScope s_BadNumber___init__) .none kV1 dc1 pm1 an1 cd1 ct1), sl1⟩)
    (c1 : PySem.W.codeIn K cd1 "BadNumber.__init__" = true) (k1 : PySem.W.keepIn K (.ref f1) = true)
    (a2 : PySem.W.findIn K (.ref C_TooMany) "__init__" = some (some (.ref f2))) (i2 : PySem.W.isFn K (.ref f2) = true)
    (l2 : K.lookup f2 = some ⟨oc2, od2, .func (PySem.W.fnOf "__init__" "TooMany.__init__" (defArgs s_TooMany___init__) (defBody s_TooMany___init__) (defScope s_TooMany___init__) .none kV2 dc2 pm2 an2 cd2 ct2), sl2⟩)
    (c2 : PySem.W.codeIn K cd2 "TooMany.__init__" = true) (k2 : PySem.W.keepIn K (.ref f2) = true)
    (a3 : PySem.W.nsIn K mainGlobals "check_many" = some (some (.ref f3)))
    (l3 : K.lookup f3 = some ⟨oc3, od3, .func (PySem.W.fnOf "check_many" "check_many" (defArgs s_check_many) (defBody s_check_many) (defScope s_check_many) .none kV3 dc3 pm3 an3 cd3 ct3), sl3⟩)
    (c3 : PySem.W.codeIn K cd3 "check_many" = true) (k3 : PySem.W.keepIn K (.ref f3) = true)
    (a4 : PySem.W.nsIn K mainGlobals "check_each" = some (some (.ref f4)))
    (l4 : K.lookup f4 = some ⟨oc4, od4, .func (PySem.W.fnOf "check_each" "check_each" (defArgs s_check_each) (defBody s_check_each) (defScope s_check_each) .none kV4 dc4 pm4 an4 cd4 ct4), sl4⟩)
    (c4 : PySem.W.codeIn K cd4 "check_each" = true) (k4 : PySem.W.keepIn K (.ref f4) = true)
    (a5 : PySem.W.nsIn K mainGlobals "check_least" = some (some (.ref f5)))
    (l5 : K.lookup f5 = some ⟨oc5, od5, .func (PySem.W.fnOf "check_least" "check_least" (defArgs s_check_least) (defBody s_check_least) (defScope s_check_least) .none kV5 dc5 pm5 an5 cd5 ct5), sl5⟩)
    (c5 : PySem.W.codeIn K cd5 "check_least" = true) (k5 : PySem.W.keepIn K (.ref f5) = true)
    (a6 : PySem.W.nsIn K mainGlobals "check_aside" = some (some (.ref f6)))
    (l6 : K.lookup f6 = some ⟨oc6, od6, .func (PySem.W.fnOf "check_aside" "check_aside" (defArgs s_check_aside) (defBody s_check_aside) (defScope s_check_aside) .none kV6 dc6 pm6 an6 cd6 ct6), sl6⟩)
    (c6 : PySem.W.codeIn K cd6 "check_aside" = true) (k6 : PySem.W.keepIn K (.ref f6) = true)
    (sg7 : PySem.W.ks_superIn K C_Weighted C_Weighted "__init__" = some (some (.ref f7)))
    (l7 : K.lookup f7 = some ⟨oc7, od7, .func (PySem.W.fnOf "__init__" "Rule.__init__" (defArgs s_Rule___init__) (defBody s_Rule___init__) (defScope s_Rule___init__) .none kV7 dc7 pm7 an7 cd7 ct7), sl7⟩)
    (c7 : PySem.W.codeIn K cd7 "Rule.__init__" = true) (k7 : PySem.W.keepIn K (.ref f7) = true)
    (sa8 : PySem.W.clsIn K C_Weighted = some cdW8)
    (sb8 : PySem.W.mroIn K C_Weighted (.ref C_Weighted) = some true)
    (a8 : PySem.W.findIn K (.ref C_Weighted) "__init__" = some (some (.ref f8))) (i8 : PySem.W.isFn K (.ref f8) = true)
    (l8 : K.lookup f8 = some ⟨oc8, od8, .func (PySem.W.ksFn "__init__" "Weighted.__init__" (defArgs s_Weighted___init__) (defBody s_Weighted___init__) (defScope s_Weighted___init__) .none kV8 dc8 pm8 an8 (.ref cda8) ct8 cc8), sl8⟩)
    (c8 : PySem.W.codeIn K (.ref cda8) "Weighted.__init__" = true) (k8 : PySem.W.keepIn K (.ref f8) = true)
    (sc8 : K.lookup cc8 = some ⟨cl8, cld8, .cell (some (.ref C_Weighted)), csl8⟩)
    (sd8 : K.lookup cda8 = some ⟨ccl8, cdd8, .fields vs8, ccs8⟩)
    (se8 : vs8[2]? = some (.str fi8 tf8))
    (sh8 : PySem.W.typeIn K (.ref f7) = some (.type "function"))
    (si8 : PySem.W.fnIn K f7 = true)
    (sj8 : PySem.W.nsIn K cStatics "thirdparty.any" = some none)
    (sk8 : PySem.W.nsIn K mainGlobals "super" = some none)
    (sl_8 : ((l.prog.main.file : Str) == fi8) = true)
    (sm8 : (l.prog.main.scope.names.lookup ("super" : Str)).isSome = false)
    (a9 : PySem.W.nsIn K mainGlobals "_law_cell" = some (some (.ref f9)))
    (l9 : K.lookup f9 = some ⟨oc9, od9, .func (PySem.W.fnOf "_law_cell" "_law_cell" (defArgs s__law_cell) (defBody s__law_cell) (defScope s__law_cell) .none kV9 dc9 pm9 an9 cd9 ct9), sl9⟩)
    (c9 : PySem.W.codeIn K cd9 "_law_cell" = true) (k9 : PySem.W.keepIn K (.ref f9) = true)
    (a10 : PySem.W.nsIn K mainGlobals "_law_draws" = some (some (.ref f10)))
    (l10 : K.lookup f10 = some ⟨oc10, od10, .func (PySem.W.fnOf "_law_draws" "_law_draws" (defArgs s__law_draws) (defBody s__law_draws) (defScope s__law_draws) .none kV10 dc10 pm10 an10 cd10 ct10), sl10⟩)
    (c10 : PySem.W.codeIn K cd10 "_law_draws" = true) (k10 : PySem.W.keepIn K (.ref f10) = true)
    (a11 : PySem.W.nsIn K mainGlobals "_law_row" = some (some (.ref f11)))
    (l11 : K.lookup f11 = some ⟨oc11, od11, .func (PySem.W.fnOf "_law_row" "_law_row" (defArgs s__law_row) (defBody s__law_row) (defScope s__law_row) .none kV11 dc11 pm11 an11 cd11 ct11), sl11⟩)
    (c11 : PySem.W.codeIn K cd11 "_law_row" = true) (k11 : PySem.W.keepIn K (.ref f11) = true)
    (a12 : PySem.W.nsIn K mainGlobals "_law_ups" = some (some (.ref f12)))
    (l12 : K.lookup f12 = some ⟨oc12, od12, .func (PySem.W.fnOf "_law_ups" "_law_ups" (defArgs s__law_ups) (defBody s__law_ups) (defScope s__law_ups) .none kV12 dc12 pm12 an12 cd12 ct12), sl12⟩)
    (c12 : PySem.W.codeIn K cd12 "_law_ups" = true) (k12 : PySem.W.keepIn K (.ref f12) = true)
    (a13 : PySem.W.nsIn K mainGlobals "_law_is_int" = some (some (.ref f13)))
    (l13 : K.lookup f13 = some ⟨oc13, od13, .func (PySem.W.fnOf "_law_is_int" "_law_is_int" (defArgs s__law_is_int) (defBody s__law_is_int) (defScope s__law_is_int) .none kV13 dc13 pm13 an13 cd13 ct13), sl13⟩)
    (c13 : PySem.W.codeIn K cd13 "_law_is_int" = true) (k13 : PySem.W.keepIn K (.ref f13) = true)
    (a14 : PySem.W.nsIn K mainGlobals "_law_same_lot" = some (some (.ref f14)))
    (l14 : K.lookup f14 = some ⟨oc14, od14, .func (PySem.W.fnOf "_law_same_lot" "_law_same_lot" (defArgs s__law_same_lot) (defBody s__law_same_lot) (defScope s__law_same_lot) .none kV14 dc14 pm14 an14 cd14 ct14), sl14⟩)
    (c14 : PySem.W.codeIn K cd14 "_law_same_lot" = true) (k14 : PySem.W.keepIn K (.ref f14) = true)
    (a15 : PySem.W.nsIn K mainGlobals "_law_made" = some (some (.ref f15)))
    (l15 : K.lookup f15 = some ⟨oc15, od15, .func (PySem.W.fnOf "_law_made" "_law_made" (defArgs s__law_made) (defBody s__law_made) (defScope s__law_made) .none kV15 dc15 pm15 an15 cd15 ct15), sl15⟩)
    (c15 : PySem.W.codeIn K cd15 "_law_made" = true) (k15 : PySem.W.keepIn K (.ref f15) = true)
    (a16 : PySem.W.nsIn K mainGlobals "_law_base" = some (some (.ref f16)))
    (l16 : K.lookup f16 = some ⟨oc16, od16, .func (PySem.W.fnOf "_law_base" "_law_base" (defArgs s__law_base) (defBody s__law_base) (defScope s__law_base) .none kV16 dc16 pm16 an16 cd16 ct16), sl16⟩)
    (c16 : PySem.W.codeIn K cd16 "_law_base" = true) (k16 : PySem.W.keepIn K (.ref f16) = true)
    (a17 : PySem.W.nsIn K mainGlobals "_law_due" = some (some (.ref f17)))
    (l17 : K.lookup f17 = some ⟨oc17, od17, .func (PySem.W.fnOf "_law_due" "_law_due" (defArgs s__law_due) (defBody s__law_due) (defScope s__law_due) .none kV17 dc17 pm17 an17 cd17 ct17), sl17⟩)
    (c17 : PySem.W.codeIn K cd17 "_law_due" = true) (k17 : PySem.W.keepIn K (.ref f17) = true)
    (a18 : PySem.W.nsIn K mainGlobals "_law_refused" = some (some (.ref f18)))
    (l18 : K.lookup f18 = some ⟨oc18, od18, .func (PySem.W.fnOf "_law_refused" "_law_refused" (defArgs s__law_refused) (defBody s__law_refused) (defScope s__law_refused) .none kV18 dc18 pm18 an18 cd18 ct18), sl18⟩)
    (c18 : PySem.W.codeIn K cd18 "_law_refused" = true) (k18 : PySem.W.keepIn K (.ref f18) = true)
    (a19 : PySem.W.nsIn K mainGlobals "_law_right" = some (some (.ref f19)))
    (l19 : K.lookup f19 = some ⟨oc19, od19, .func (PySem.W.fnOf "_law_right" "_law_right" (defArgs s__law_right) (defBody s__law_right) (defScope s__law_right) .none kV19 dc19 pm19 an19 cd19 ct19), sl19⟩)
    (c19 : PySem.W.codeIn K cd19 "_law_right" = true) (k19 : PySem.W.keepIn K (.ref f19) = true)
    (a20 : PySem.W.nsIn K mainGlobals "law" = some (some (.ref f20)))
    (l20 : K.lookup f20 = some ⟨oc20, od20, .func (PySem.W.fnOf "law" "law" (defArgs s_law) (defBody s_law) (defScope s_law) .none kV20 dc20 pm20 an20 cd20 ct20), sl20⟩)
    (c20 : PySem.W.codeIn K cd20 "law" = true) (k20 : PySem.W.keepIn K (.ref f20) = true)
    (z_ValueError : PySem.W.nsIn K mainGlobals "ValueError" = some none)
    (z_bool : PySem.W.nsIn K mainGlobals "bool" = some none)
    (z_enumerate : PySem.W.nsIn K mainGlobals "enumerate" = some none)
    (z_int : PySem.W.nsIn K mainGlobals "int" = some none)
    (z_isinstance : PySem.W.nsIn K mainGlobals "isinstance" = some none)
    (z_len : PySem.W.nsIn K mainGlobals "len" = some none)
    (z_list : PySem.W.nsIn K mainGlobals "list" = some none)
    (z_max : PySem.W.nsIn K mainGlobals "max" = some none)
    (z_range : PySem.W.nsIn K mainGlobals "range" = some none)
    (z_str : PySem.W.nsIn K mainGlobals "str" = some none)
    (z_tuple : PySem.W.nsIn K mainGlobals "tuple" = some none) :
    ∃ fd : FuncData, (∀ (s : Shared) (v : Value), BindsTo s fd ⟨[v], []⟩ [("_law_script", v)]) ∧ ∀ base : Heap, K.In base → base.Ns mainGlobals mg → FnOk l.prog w K mg base CX0 9 fa fd ["_law_script"] (sp_law K) := by
  have e := hfa.symm.trans (PySem.W.mg_of X G a20)
  cases e
  have m_ValueError := PySem.W.mg_none_of X G z_ValueError
  have m_bool := PySem.W.mg_none_of X G z_bool
  have m_enumerate := PySem.W.mg_none_of X G z_enumerate
  have m_int := PySem.W.mg_none_of X G z_int
  have m_isinstance := PySem.W.mg_none_of X G z_isinstance
  have m_len := PySem.W.mg_none_of X G z_len
  have m_list := PySem.W.mg_none_of X G z_list
  have m_max := PySem.W.mg_none_of X G z_max
  have m_range := PySem.W.mg_none_of X G z_range
  have m_str := PySem.W.mg_none_of X G z_str
  have m_tuple := PySem.W.mg_none_of X G z_tuple
  have T : Txt K mg C_Weighted C_BadNumber C_TooMany C_ZeroBottom C_ShelfError := ⟨PySem.W.mg_of X G a_Weighted, kc_Weighted, hd_Weighted, ha_Weighted, hm_Weighted, ⟨pg_Weighted, hd_Weighted, po_Weighted, sa_Weighted⟩, mk_Weighted, n_Weighted_many, n_Weighted_weights, n_Weighted_aside, PySem.W.mg_of X G a_BadNumber, kc_BadNumber, hd_BadNumber, ha_BadNumber, hm_BadNumber, b_BadNumber, t_BadNumber, ga_BadNumber, gg_BadNumber, ⟨⟨_, _, _, _, _, _, _, _, _, _, _, _, _, _, _, ol_BadNumber, or_BadNumber⟩, sa_BadNumber, b_BadNumber, t_BadNumber, kc_BadNumber⟩, ⟨ga_BadNumber, gg_BadNumber, b_BadNumber, hd_BadNumber⟩, n_BadNumber_what, n_BadNumber_at, PySem.W.mg_of X G a_TooMany, kc_TooMany, hd_TooMany, ha_TooMany, hm_TooMany, b_TooMany, t_TooMany, ga_TooMany, gg_TooMany, ⟨⟨_, _, _, _, _, _, _, _, _, _, _, _, _, _, _, ol_TooMany, or_TooMany⟩, sa_TooMany, b_TooMany, t_TooMany, kc_TooMany⟩, ⟨ga_TooMany, gg_TooMany, b_TooMany, hd_TooMany⟩, n_TooMany_many, n_TooMany_most, PySem.W.mg_of X G a_ZeroBottom, kc_ZeroBottom, hd_ZeroBottom, ha_ZeroBottom, hm_ZeroBottom, b_ZeroBottom, t_ZeroBottom, ga_ZeroBottom, gg_ZeroBottom, PySem.W.mg_of X G a_ShelfError, kc_ShelfError, hd_ShelfError, ha_ShelfError, hm_ShelfError, b_ShelfError, t_ShelfError, ga_ShelfError, gg_ShelfError, hnc, htk, sub_BadNumber_BadNumber, sub_TooMany_BadNumber, sub_TooMany_TooMany, sub_BadNumber_ShelfError, sub_TooMany_ShelfError, kit_BadNumber_TooMany, kit_BadNumber_ZeroBottom, kit_TooMany_BadNumber, kit_TooMany_ZeroBottom, kit_BadNumber_ValueError, kit_TooMany_ValueError, kit_Weighted_Weighted, ⟨_, PySem.W.mg_of X G a_MOST_THINGS⟩⟩
  have F1 := fun_mk (st := s_BadNumber___init__) l1 c1 k1
  have b1 := F1.binds (ps := ["self", "what", "at"]) fun _ _ _ _ _ _ us hl => match us, hl with | [_, _, _], _ => rfl
  have F2 := fun_mk (st := s_TooMany___init__) l2 c2 k2
  have b2 := F2.binds (ps := ["self", "many", "most"]) fun _ _ _ _ _ _ us hl => match us, hl with | [_, _, _], _ => rfl
  have F3 := fun_mk (st := s_check_many) l3 c3 k3
  have b3 := F3.binds (ps := ["many", "most"]) fun _ _ _ _ _ _ us hl => match us, hl with | [_, _], _ => rfl
  have F4 := fun_mk (st := s_check_each) l4 c4 k4
  have b4 := F4.binds (ps := ["what", "numbers", "least"]) fun _ _ _ _ _ _ us hl => match us, hl with | [_, _, _], _ => rfl
  have F5 := fun_mk (st := s_check_least) l5 c5 k5
  have b5 := F5.binds (ps := ["what", "number", "least"]) fun _ _ _ _ _ _ us hl => match us, hl with | [_, _, _], _ => rfl
  have F6 := fun_mk (st := s_check_aside) l6 c6 k6
  have b6 := F6.binds (ps := ["aside"]) fun _ _ _ _ _ _ us hl => match us, hl with | [_], _ => rfl
  have F7 := fun_mk (st := s_Rule___init__) l7 c7 k7
  have b7 := F7.binds (ps := ["self", "many"]) fun _ _ _ _ _ _ us hl => match us, hl with | [_, _], _ => rfl
  have F8 : FunS K "__init__" "Weighted.__init__" s_Weighted___init__ cc8 cda8 f8 _ := ⟨⟨oc8, od8, kV8, dc8, pm8, an8, ct8, sl8, rfl, l8, c8⟩, k8⟩
  have b8 := F8.binds (ps := ["self", "weights", "aside"]) fun _ _ _ _ _ us hl => match us, hl with | [_, _, _], _ => rfl
  have S8 : SupC K mg C_Weighted C_Weighted cc8 cda8 f7 fi8 := ⟨⟨_, sa8⟩, sb8, ⟨_, _, _, sc8⟩, ⟨_, _, _, _, _, sd8, se8⟩, sg7, sh8, si8, sj8, PySem.W.mg_none_of X G sk8⟩
  have F9 := fun_mk (st := s__law_cell) l9 c9 k9
  have b9 := F9.binds (ps := ["_law_script", "_law_place"]) fun _ _ _ _ _ _ us hl => match us, hl with | [_, _], _ => rfl
  have F10 := fun_mk (st := s__law_draws) l10 c10 k10
  have b10 := F10.binds (ps := ["_law_cell_here", "_law_sizes"]) fun _ _ _ _ _ _ us hl => match us, hl with | [_, _], _ => rfl
  have F11 := fun_mk (st := s__law_row) l11 c11 k11
  have b11 := F11.binds (ps := ["_law_cell_here", "_law_count"]) fun _ _ _ _ _ _ us hl => match us, hl with | [_, _], _ => rfl
  have F12 := fun_mk (st := s__law_ups) l12 c12 k12
  have b12 := F12.binds (ps := ["_law_row_here"]) fun _ _ _ _ _ _ us hl => match us, hl with | [_], _ => rfl
  have F13 := fun_mk (st := s__law_is_int) l13 c13 k13
  have b13 := F13.binds (ps := ["_law_x"]) fun _ _ _ _ _ _ us hl => match us, hl with | [_], _ => rfl
  have F14 := fun_mk (st := s__law_same_lot) l14 c14 k14
  have b14 := F14.binds (ps := ["_law_x", "_law_due_here"]) fun _ _ _ _ _ _ us hl => match us, hl with | [_, _], _ => rfl
  have F15 := fun_mk (st := s__law_made) l15 c15 k15
  have b15 := F15.binds (ps := ["_law_weights", "_law_aside"]) fun _ _ _ _ _ _ us hl => match us, hl with | [_, _], _ => rfl
  have F16 := fun_mk (st := s__law_base) l16 c16 k16
  have b16 := F16.binds (ps := ["_law_weights", "_law_aside"]) fun _ _ _ _ _ _ us hl => match us, hl with | [_, _], _ => rfl
  have F17 := fun_mk (st := s__law_due) l17 c17 k17
  have b17 := F17.binds (ps := ["_law_weights", "_law_aside"]) fun _ _ _ _ _ _ us hl => match us, hl with | [_, _], _ => rfl
  have F18 := fun_mk (st := s__law_refused) l18 c18 k18
  have b18 := F18.binds (ps := ["_law_told", "_law_due_here"]) fun _ _ _ _ _ _ us hl => match us, hl with | [_, _], _ => rfl
  have F19 := fun_mk (st := s__law_right) l19 c19 k19
  have b19 := F19.binds (ps := ["_law_weights", "_law_aside"]) fun _ _ _ _ _ _ us hl => match us, hl with | [_, _], _ => rfl
  have F20 := fun_mk (st := s_law) l20 c20 k20
  refine ⟨PySem.W.fnOf "law" "law" (defArgs s_law) (defBody s_law) (defScope s_law) .none kV20 dc20 pm20 an20 cd20 ct20, fun s v => .of_eq rfl, fun base _ _ => ?_⟩
  have K_BadNumber___init__ : CalX l.prog w K mg base CX0 1 C_BadNumber ["self", "what", "at"] (sp_BadNumber___init__ C_BadNumber) := ⟨f1, _, ok_BadNumber___init__ F1 T, a1, beq_iff_eq.mp i1, b1⟩
  have K_TooMany___init__ : CalX l.prog w K mg base CX0 1 C_TooMany ["self", "many", "most"] (sp_TooMany___init__ C_TooMany) := ⟨f2, _, ok_TooMany___init__ F2 T, a2, beq_iff_eq.mp i2, b2⟩
  have K_check_many : Cal l.prog w K mg base (L2.CX l.prog w) 3 "check_many" ["many", "most"] (sp_check_many C_TooMany) := ⟨f3, _, ok_check_many F3 T K_TooMany___init__, PySem.W.mg_of X G a3, k3, b3⟩
  have K_check_each : Cal l.prog w K mg base (L2.CX l.prog w) 3 "check_each" ["what", "numbers", "least"] (sp_check_each K C_BadNumber) := ⟨f4, _, ok_check_each F4 T m_enumerate K_BadNumber___init__, PySem.W.mg_of X G a4, k4, b4⟩
  have K_check_least : Cal l.prog w K mg base (L2.CX l.prog w) 3 "check_least" ["what", "number", "least"] (sp_check_least C_BadNumber) := ⟨f5, _, ok_check_least F5 T K_BadNumber___init__, PySem.W.mg_of X G a5, k5, b5⟩
  have K_check_aside : Cal l.prog w K mg base (L2.CX l.prog w) 4 "check_aside" ["aside"] (sp_check_aside C_BadNumber) := ⟨f6, _, ok_check_aside F6 T K_check_least, PySem.W.mg_of X G a6, k6, b6⟩
  have K_Rule___init__ : ∃ fd : FuncData, FnOk l.prog w K mg base (L2.CX l.prog w) 4 f7 fd ["self", "many"] (sp_Rule___init__ C_Weighted C_TooMany) ∧ Binds K fd ["self", "many"] [] := ⟨_, ok_Rule___init__ F7 T K_check_many, b7⟩
  have K_Weighted___init__ : CalI l.prog w K mg base (L2.CX l.prog w) 5 C_Weighted ["self", "weights", "aside"] (sp_Weighted___init__ K C_Weighted C_TooMany C_BadNumber) [] := ⟨f8, _, ok_Weighted___init__ F8 S8 sl_8 sm8 T m_len m_tuple K_Rule___init__ K_check_each K_check_aside, ⟨mk_Weighted, a8, i8, kc_Weighted⟩, b8, [], .nil, b8⟩
  have K__law_cell : Cal l.prog w K mg base CX0 1 "_law_cell" ["_law_script", "_law_place"] (sp__law_cell K) := ⟨f9, _, ok__law_cell F9 T m_int m_len, PySem.W.mg_of X G a9, k9, b9⟩
  have K__law_draws : Cal l.prog w K mg base CX0 1 "_law_draws" ["_law_cell_here", "_law_sizes"] (sp__law_draws K) := ⟨f10, _, ok__law_draws F10 T m_int m_len m_range, PySem.W.mg_of X G a10, k10, b10⟩
  have K__law_row : Cal l.prog w K mg base CX0 2 "_law_row" ["_law_cell_here", "_law_count"] (sp__law_row K) := ⟨f11, _, ok__law_row F11 T m_int m_range K__law_draws, PySem.W.mg_of X G a11, k11, b11⟩
  have K__law_ups : Cal l.prog w K mg base CX0 1 "_law_ups" ["_law_row_here"] (sp__law_ups K) := ⟨f12, _, ok__law_ups F12 T, PySem.W.mg_of X G a12, k12, b12⟩
  have K__law_is_int : Cal l.prog w K mg base CX0 1 "_law_is_int" ["_law_x"] sp__law_is_int := ⟨f13, _, ok__law_is_int F13 T m_bool m_int m_isinstance, PySem.W.mg_of X G a13, k13, b13⟩
  have K__law_same_lot : Cal l.prog w K mg base CX0 2 "_law_same_lot" ["_law_x", "_law_due_here"] (sp__law_same_lot K) := ⟨f14, _, ok__law_same_lot F14 T m_isinstance m_len m_range m_tuple K__law_is_int, PySem.W.mg_of X G a14, k14, b14⟩
  have K__law_made : Cal l.prog w K mg base CX0 7 "_law_made" ["_law_weights", "_law_aside"] (sp__law_made K C_Weighted) := ⟨f15, _, ok__law_made F15 T m_isinstance K_Weighted___init__, PySem.W.mg_of X G a15, k15, b15⟩
  have K__law_base : Cal l.prog w K mg base CX0 7 "_law_base" ["_law_weights", "_law_aside"] (sp__law_base K) := ⟨f16, _, ok__law_base F16 T m_ValueError m_isinstance K_Weighted___init__, PySem.W.mg_of X G a16, k16, b16⟩
  have K__law_due : Cal l.prog w K mg base CX0 1 "_law_due" ["_law_weights", "_law_aside"] (sp__law_due K) := ⟨f17, _, ok__law_due F17 T m_len m_range, PySem.W.mg_of X G a17, k17, b17⟩
  have K__law_refused : Cal l.prog w K mg base CX0 2 "_law_refused" ["_law_told", "_law_due_here"] sp__law_refused := ⟨f18, _, ok__law_refused F18 T m_isinstance m_str K__law_is_int, PySem.W.mg_of X G a18, k18, b18⟩
  have K__law_right : Cal l.prog w K mg base CX0 8 "_law_right" ["_law_weights", "_law_aside"] (sp__law_right K C_Weighted) := ⟨f19, _, ok__law_right F19 T m_isinstance m_list m_tuple K__law_is_int K__law_same_lot K__law_made K__law_base K__law_due K__law_refused, PySem.W.mg_of X G a19, k19, b19⟩
  exact ok_law F20 T m_int m_max m_range K__law_cell K__law_draws K__law_row K__law_ups K__law_right
end K16
open PySem PySem.W PyProof.Rows
set_option pp.maxSteps 400 in
set_option maxHeartbeats 0 in
theorem PySem.Challenge.cw_dearestshelf_k16_weighted_refusals_holds : PySem.Challenge.rw_dearestshelf_k16_weighted_refusals.Holds := by
  w_on; o_law; k_head; (case hw => w_witness2)
  k_fill
  refine L2.walk_of (l := PySem.Challenge.rw_dearestshelf_k16_weighted_refusals) (n := 63) (k := 9) (x := "_law_script") (CX := fun _ => L2.CX0) (sp := fun w => K16.sp_law _) rfl (by decide) rfl ⟨rfl, by decide, by decide⟩ (fun w h Y => PySem.W.kIn_of Y) ?F (fun _ _ a ns hl _ hS => ⟨a, ns, rfl, hS, hl, fun _ => rfl⟩) (fun _ _ _ _ _ h => h)
  case F =>
    intro w mg fa h KX G hmg
    refine' K16.all_mk KX G hmg ?a_Weighted ?kc_Weighted ?hd_Weighted ?ha_Weighted ?hm_Weighted ?pg_Weighted ?po_Weighted ?sa_Weighted ?mk_Weighted ?n_Weighted_many ?n_Weighted_weights ?n_Weighted_aside ?a_BadNumber ?kc_BadNumber ?hd_BadNumber ?ha_BadNumber ?hm_BadNumber ?b_BadNumber ?t_BadNumber ?ga_BadNumber ?gg_BadNumber ?ol_BadNumber ?or_BadNumber ?sa_BadNumber ?n_BadNumber_what ?n_BadNumber_at ?a_TooMany ?kc_TooMany ?hd_TooMany ?ha_TooMany ?hm_TooMany ?b_TooMany ?t_TooMany ?ga_TooMany ?gg_TooMany ?ol_TooMany ?or_TooMany ?sa_TooMany ?n_TooMany_many ?n_TooMany_most ?a_ZeroBottom ?kc_ZeroBottom ?hd_ZeroBottom ?ha_ZeroBottom ?hm_ZeroBottom ?b_ZeroBottom ?t_ZeroBottom ?ga_ZeroBottom ?gg_ZeroBottom ?a_ShelfError ?kc_ShelfError ?hd_ShelfError ?ha_ShelfError ?hm_ShelfError ?b_ShelfError ?t_ShelfError ?ga_ShelfError ?gg_ShelfError ?hnc ?htk ?sub_BadNumber_BadNumber ?sub_TooMany_BadNumber ?sub_TooMany_TooMany ?sub_BadNumber_ShelfError ?sub_TooMany_ShelfError ?kit_BadNumber_TooMany ?kit_BadNumber_ZeroBottom ?kit_TooMany_BadNumber ?kit_TooMany_ZeroBottom ?kit_BadNumber_ValueError ?kit_TooMany_ValueError ?kit_Weighted_Weighted ?a_MOST_THINGS ?a1 ?i1 ?l1 ?c1 ?k1 ?a2 ?i2 ?l2 ?c2 ?k2 ?a3 ?l3 ?c3 ?k3 ?a4 ?l4 ?c4 ?k4 ?a5 ?l5 ?c5 ?k5 ?a6 ?l6 ?c6 ?k6 ?sg7 ?l7 ?c7 ?k7 ?sa8 ?sb8 ?a8 ?i8 ?l8 ?c8 ?k8 ?sc8 ?sd8 ?se8 ?sh8 ?si8 ?sj8 ?sk8 ?sl_8 ?sm8 ?a9 ?l9 ?c9 ?k9 ?a10 ?l10 ?c10 ?k10 ?a11 ?l11 ?c11 ?k11 ?a12 ?l12 ?c12 ?k12 ?a13 ?l13 ?c13 ?k13 ?a14 ?l14 ?c14 ?k14 ?a15 ?l15 ?c15 ?k15 ?a16 ?l16 ?c16 ?k16 ?a17 ?l17 ?c17 ?k17 ?a18 ?l18 ?c18 ?k18 ?a19 ?l19 ?c19 ?k19 ?a20 ?l20 ?c20 ?k20 ?z_ValueError ?z_bool ?z_enumerate ?z_int ?z_isinstance ?z_len ?z_list ?z_max ?z_range ?z_str ?z_tuple
    (case a_Weighted => k_is); (case kc_Weighted => k_is); (case hd_Weighted => k_is); (case ha_Weighted => k_is); (case hm_Weighted => k_is); (case pg_Weighted => k_is); (case po_Weighted => k_is); (case sa_Weighted => k_is); (case mk_Weighted => k_is); (case n_Weighted_many => k_is); (case n_Weighted_weights => k_is); (case n_Weighted_aside => k_is); (case a_BadNumber => k_is); (case kc_BadNumber => k_is); (case hd_BadNumber => k_is); (case ha_BadNumber => k_is); (case hm_BadNumber => k_is); (case b_BadNumber => k_is); (case t_BadNumber => k_is); (case ga_BadNumber => k_is); (case gg_BadNumber => k_is); (case ol_BadNumber => k_is); (case or_BadNumber => rfl); (case sa_BadNumber => k_is); (case n_BadNumber_what => k_is); (case n_BadNumber_at => k_is); (case a_TooMany => k_is); (case kc_TooMany => k_is); (case hd_TooMany => k_is); (case ha_TooMany => k_is); (case hm_TooMany => k_is); (case b_TooMany => k_is); (case t_TooMany => k_is); (case ga_TooMany => k_is); (case gg_TooMany => k_is); (case ol_TooMany => k_is); (case or_TooMany => rfl); (case sa_TooMany => k_is); (case n_TooMany_many => k_is); (case n_TooMany_most => k_is); (case a_ZeroBottom => k_is); (case kc_ZeroBottom => k_is); (case hd_ZeroBottom => k_is); (case ha_ZeroBottom => k_is); (case hm_ZeroBottom => k_is); (case b_ZeroBottom => k_is); (case t_ZeroBottom => k_is); (case ga_ZeroBottom => k_is); (case gg_ZeroBottom => k_is); (case a_ShelfError => k_is); (case kc_ShelfError => k_is); (case hd_ShelfError => k_is); (case ha_ShelfError => k_is); (case hm_ShelfError => k_is); (case b_ShelfError => k_is); (case t_ShelfError => k_is); (case ga_ShelfError => k_is); (case gg_ShelfError => k_is); (case hnc => k_is); (case htk => k_is); (case sub_BadNumber_BadNumber => (first | rfl | k_is)); (case sub_TooMany_BadNumber => (first | rfl | k_is)); (case sub_TooMany_TooMany => (first | rfl | k_is)); (case sub_BadNumber_ShelfError => (first | rfl | k_is)); (case sub_TooMany_ShelfError => (first | rfl | k_is)); (case kit_BadNumber_TooMany => kit_is); (case kit_BadNumber_ZeroBottom => kit_is); (case kit_TooMany_BadNumber => kit_is); (case kit_TooMany_ZeroBottom => kit_is); (case kit_BadNumber_ValueError => kit_is); (case kit_TooMany_ValueError => kit_is); (case kit_Weighted_Weighted => kit_is); (case a_MOST_THINGS => k_is); (case a1 => k_is); (case i1 => k_is); (case l1 => k_is); (case c1 => k_is); (case k1 => k_is); (case a2 => k_is); (case i2 => k_is); (case l2 => k_is); (case c2 => k_is); (case k2 => k_is); (case a3 => k_is); (case l3 => k_is); (case c3 => k_is); (case k3 => k_is); (case a4 => k_is); (case l4 => k_is); (case c4 => k_is); (case k4 => k_is); (case a5 => k_is); (case l5 => k_is); (case c5 => k_is); (case k5 => k_is); (case a6 => k_is); (case l6 => k_is); (case c6 => k_is); (case k6 => k_is); (case sg7 => ks_is); (case l7 => k_is); (case c7 => k_is); (case k7 => k_is); (case sa8 => k_is); (case sb8 => k_is); (case a8 => k_is); (case i8 => k_is); (case l8 => k_is); (case c8 => k_is); (case k8 => k_is); (case sc8 => k_is); (case sd8 => k_is); (case se8 => rfl); (case sh8 => k_is); (case si8 => k_is); (case sj8 => k_is); (case sk8 => k_is); (case sl_8 => (first | rfl | decide +kernel)); (case sm8 => (first | rfl | decide +kernel)); (case a9 => k_is); (case l9 => k_is); (case c9 => k_is); (case k9 => k_is); (case a10 => k_is); (case l10 => k_is); (case c10 => k_is); (case k10 => k_is); (case a11 => k_is); (case l11 => k_is); (case c11 => k_is); (case k11 => k_is); (case a12 => k_is); (case l12 => k_is); (case c12 => k_is); (case k12 => k_is); (case a13 => k_is); (case l13 => k_is); (case c13 => k_is); (case k13 => k_is); (case a14 => k_is); (case l14 => k_is); (case c14 => k_is); (case k14 => k_is); (case a15 => k_is); (case l15 => k_is); (case c15 => k_is); (case k15 => k_is); (case a16 => k_is); (case l16 => k_is); (case c16 => k_is); (case k16 => k_is); (case a17 => k_is); (case l17 => k_is); (case c17 => k_is); (case k17 => k_is); (case a18 => k_is); (case l18 => k_is); (case c18 => k_is); (case k18 => k_is); (case a19 => k_is); (case l19 => k_is); (case c19 => k_is); (case k19 => k_is); (case a20 => k_is); (case l20 => k_is); (case c20 => k_is); (case k20 => k_is); (case z_ValueError => k_is); (case z_bool => k_is); (case z_enumerate => k_is); (case z_int => k_is); (case z_isinstance => k_is); (case z_len => k_is); (case z_list => k_is); (case z_max => k_is); (case z_range => k_is); (case z_str => k_is); (case z_tuple => k_is)
