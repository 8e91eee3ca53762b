import PyProof.Rows.All
import Wide.All
import OpenK.AllK
import Wide.FinOn
import HandS.ForMost
import HandS.ForExc
import HandS.Wide
import HandS.IsInst
import HandS.More
import HandS.Conv
import HandS.Evl
import HandS.ExcIs
import HandS.Defaults
import HandS.ExcInit
import HandS.ExcField
import HandS.TryMany
import HandS.Nested
import HandS.ClsMeth
import HandS.Iter
import HandS.Walk
import HandS.Style
import HandS.ListEq
import KE.KSuper
import KE.RegKSuper
import KE.KExcIs
import KE.RegKIsAll
import HandS.OwnEq
import HandS.Star
import HandS.SetFor
import HandS.Set
import PySem.Challenge.RW_dearestshelf_k21_listed_refusals
set_option Elab.async false
set_option linter.all false
set_option maxRecDepth 100000
set_option maxHeartbeats 8000000
set_option exponentiation.threshold 10000
namespace K21
open PySem PySem.Spec PyProof.Rows L2
def top (i : Nat) : Stmt := PySem.Challenge.pw_dearestshelf_k21_listed_refusals.main.body.getD i (.Pass ⟨0, 0, 0, 0⟩)
abbrev s_BadNumber___init__ : Stmt := inClass (top 5) 0
theorem sc_BadNumber___init__ : FnScope ["self", "what", "at"] ["self", "what", "at"] (defScope s_BadNumber___init__) := ⟨rfl, rfl, rfl, by decide +kernel, rfl, by decide +kernel, by decide +kernel⟩
abbrev s_TooMany___init__ : Stmt := inClass (top 6) 0
theorem sc_TooMany___init__ : FnScope ["self", "many", "most"] ["self", "many", "most"] (defScope s_TooMany___init__) := ⟨rfl, rfl, rfl, by decide +kernel, rfl, by decide +kernel, by decide +kernel⟩
abbrev s_BadWish___init__ : Stmt := inClass (top 7) 0
theorem sc_BadWish___init__ : FnScope ["self", "at"] ["self", "at"] (defScope s_BadWish___init__) := ⟨rfl, rfl, rfl, by decide +kernel, rfl, by decide +kernel, by decide +kernel⟩
abbrev s_check_many : Stmt := top 10
theorem sc_check_many : FnScope ["many", "most"] ["many", "most"] (defScope s_check_many) := ⟨rfl, rfl, rfl, by decide +kernel, rfl, by decide +kernel, by decide +kernel⟩
abbrev s_Rule___init__ : Stmt := inClass (top 13) 0
theorem sc_Rule___init__ : FnScope ["self", "many"] ["self", "many"] (defScope s_Rule___init__) := ⟨rfl, rfl, rfl, by decide +kernel, rfl, by decide +kernel, by decide +kernel⟩
abbrev s__can_be_wished : Stmt := top 15
theorem sc__can_be_wished : FnScope ["things", "thing"] ["things"] (defScope s__can_be_wished) := ⟨rfl, rfl, rfl, by decide +kernel, rfl, by decide +kernel, by decide +kernel⟩
abbrev s_Listed___init__ : Stmt := inClass (top 14) 0
abbrev s__law_cell : Stmt := top 17
theorem sc__law_cell : FnScope ["_law_script", "_law_place"] ["_law_script", "_law_place"] (defScope s__law_cell) := ⟨rfl, rfl, rfl, by decide +kernel, rfl, by decide +kernel, by decide +kernel⟩
abbrev s__law_draws : Stmt := top 18
theorem sc__law_draws : FnScope ["_law_cell_here", "_law_sizes", "_law_size", "_law_left", "_law_found", "_law_k", "_law_low", "_law_high"] ["_law_cell_here", "_law_sizes"] (defScope s__law_draws) := ⟨rfl, rfl, rfl, by decide +kernel, rfl, by decide +kernel, by decide +kernel⟩
abbrev s__law_row : Stmt := top 19
theorem sc__law_row : FnScope ["_law_cell_here", "_law_count", "_law_drawn", "_law_bound", "_law_value", "_law_k"] ["_law_cell_here", "_law_count"] (defScope s__law_row) := ⟨rfl, rfl, rfl, by decide +kernel, rfl, by decide +kernel, by decide +kernel⟩
abbrev s__law_ups : Stmt := top 20
theorem sc__law_ups : FnScope ["_law_row_here", "_law_number"] ["_law_row_here"] (defScope s__law_ups) := ⟨rfl, rfl, rfl, by decide +kernel, rfl, by decide +kernel, by decide +kernel⟩
abbrev s__law_shuffled : Stmt := top 21
theorem sc__law_shuffled : FnScope ["_law_places", "_law_things", "_law_left", "_law_found", "_law_place"] ["_law_places", "_law_things"] (defScope s__law_shuffled) := ⟨rfl, rfl, rfl, by decide +kernel, rfl, by decide +kernel, by decide +kernel⟩
abbrev s__law_is_int : Stmt := top 22
theorem sc__law_is_int : FnScope ["_law_x"] ["_law_x"] (defScope s__law_is_int) := ⟨rfl, rfl, rfl, by decide +kernel, rfl, by decide +kernel, by decide +kernel⟩
abbrev s__law_same_lot : Stmt := top 23
theorem sc__law_same_lot : FnScope ["_law_x", "_law_due_here", "_law_k"] ["_law_x", "_law_due_here"] (defScope s__law_same_lot) := ⟨rfl, rfl, rfl, by decide +kernel, rfl, by decide +kernel, by decide +kernel⟩
abbrev s__law_list : Stmt := top 24
theorem sc__law_list : FnScope ["_law_cell_here", "_law_many", "_law_drawn", "_law_things", "_law_thing", "_law_k"] ["_law_cell_here", "_law_many"] (defScope s__law_list) := ⟨rfl, rfl, rfl, by decide +kernel, rfl, by decide +kernel, by decide +kernel⟩
abbrev s__law_faulty : Stmt := top 25
theorem sc__law_faulty : FnScope ["_law_pair", "_law_fault", "_law_many", "_law_buyers", "_law_things", "_law_spot"] ["_law_pair", "_law_fault", "_law_many"] (defScope s__law_faulty) := ⟨rfl, rfl, rfl, by decide +kernel, rfl, by decide +kernel, by decide +kernel⟩
abbrev s__law_due : Stmt := top 26
theorem sc__law_due : FnScope ["_law_many", "_law_pairs", "_law_at", "_law_thing"] ["_law_many", "_law_pairs"] (defScope s__law_due) := ⟨rfl, rfl, rfl, by decide +kernel, rfl, by decide +kernel, by decide +kernel⟩
abbrev s__law_asked : Stmt := top 27
theorem sc__law_asked : FnScope ["_law_many", "_law_pairs", "e"] ["_law_many", "_law_pairs"] (defScope s__law_asked) := ⟨rfl, rfl, rfl, by decide +kernel, rfl, by decide +kernel, by decide +kernel⟩
abbrev s__law_classes : Stmt := top 28
theorem sc__law_classes : FnScope ["_law_many", "_law_pairs", "e", "_law_found"] ["_law_many", "_law_pairs"] (defScope s__law_classes) := ⟨rfl, rfl, rfl, by decide +kernel, rfl, by decide +kernel, by decide +kernel⟩
abbrev s__law_like : Stmt := top 29
theorem sc__law_like : FnScope ["_law_told", "_law_due_here", "_law_k"] ["_law_told", "_law_due_here"] (defScope s__law_like) := ⟨rfl, rfl, rfl, by decide +kernel, rfl, by decide +kernel, by decide +kernel⟩
abbrev s__law_kept : Stmt := top 30
theorem sc__law_kept : FnScope ["_law_told", "_law_pairs", "_law_k", "_law_pair"] ["_law_told", "_law_pairs"] (defScope s__law_kept) := ⟨rfl, rfl, rfl, by decide +kernel, rfl, by decide +kernel, by decide +kernel⟩
abbrev s_law : Stmt := top 31
theorem sc_law : FnScope ["_law_script", "_law_drawn", "_law_many", "_law_buyers", "_law_below", "_law_k", "_law_pairs", "_law_faults", "_law_fault", "_law_place", "_law_due_here", "_law_handed", "_law_told", "_law_rule"] ["_law_script"] (defScope s_law) := ⟨rfl, rfl, rfl, by decide +kernel, rfl, by decide +kernel, by decide +kernel⟩

/-! ### mathematics of draws -/
def Within : List Int → List Int → Prop
  | [], [] => True
  | d :: ds, n :: ns => (0 ≤ d ∧ d < n) ∧ Within ds ns
  | _, _ => False
theorem Within.len : ∀ {ds ns : List Int}, Within ds ns → ds.length = ns.length
  | [], [], _ => rfl
  | _ :: ds, _ :: ns, h => by
    rw [List.length_cons, List.length_cons, Within.len h.2]
  | [], _ :: _, h => h.elim
  | _ :: _, [], h => h.elim
theorem Within.snoc : ∀ {ds ns : List Int} {d n : Int}, Within ds ns → 0 ≤ d → d < n → Within (ds ++ [d]) (ns ++ [n])
  | [], [], d, n, _, h0, h1 => ⟨⟨h0, h1⟩, True.intro⟩
  | _ :: ds, _ :: ns, d, n, h, h0, h1 => ⟨h.1, Within.snoc h.2 h0 h1⟩
  | [], _ :: _, _, _, h, _, _ => h.elim
  | _ :: _, [], _, _, h, _, _ => h.elim
theorem Within.step {ds ns : List Int} {d n : Int} {i : Nat} (h : Within ds (ns.take i)) (hi : ns[i]? = some n) (h0 : 0 ≤ d) (h1 : d < n) : Within (ds ++ [d]) (ns.take (i + 1)) := by
  rw [List.take_add_one, hi]
  exact h.snoc h0 h1
theorem Within.zero (ns : List Int) : Within [] (ns.take 0) := by
  rw [List.take_zero]
  exact True.intro
theorem Within.full {ds ns : List Int} (h : Within ds (ns.take ns.length)) : Within ds ns := by
  rw [List.take_length] at h
  exact h
theorem int_of {ns : List Int} {i : Nat} {x : V} (h : (ns.map V.int)[i]? = some x) : ∃ n, x = .int n ∧ ns[i]? = some n := by
  rw [List.getElem?_map] at h
  cases e : ns[i]? with
  | none =>
    rw [e] at h
    cases h
  | some z =>
    rw [e] at h
    exact ⟨z, (Option.some.inj h).symm, rfl⟩
theorem int_at {ns : List Int} {i : Nat} {n : Int} (h : ns[i]? = some n) : (ns.map V.int)[i]? = some (.int n) := by
  rw [List.getElem?_map, h]
  rfl
theorem snoc_int (ds : List Int) (d : Int) : ds.map V.int ++ [V.int d] = (ds ++ [d]).map V.int := by
  rw [List.map_append]
  rfl
theorem same_upd {H : Hp} {p : Addr} {o : HO} (h : H p = none) : Same H (upd H p o) := fun b x e => by
  rw [upd_ne (ne_of_none e h)]
  exact e
theorem same_mut {H H1 : Hp} {p : Addr} {o : HO} (s : Same H H1) (h : H p = none) : Same H (upd H1 p o) := fun b x e => by
  rw [upd_ne (ne_of_none e h)]
  exact s b x e
theorem same_tup {K : PySem.W.Frag} {H H' : Hp} {a : Addr} {xs : List V} (e : Same H H') (h : SqT K H a xs) : SqT K H' a xs := by
  rcases h with (h | ⟨o, h⟩) | h
  · exact .inl (.inl (e _ _ h))
  · exact .inl (.inr ⟨o, e _ _ h⟩)
  · exact .inr h
theorem w_div {j : Int} (h : 0 < j) (hb : j < 2 ^ 100) : CDivW 0 j := wide_div (b := 100) h (by omega) (by decide) (by decide)
theorem lst_l {K : PySem.W.Frag} {H : Hp} {a : Addr} {xs : List V} (h : H a = some (.lst xs)) : SqL K H a xs := .inl (.inl h)
theorem tup_t {K : PySem.W.Frag} {H : Hp} {a : Addr} {xs : List V} (h : H a = some (.tup xs)) : SqT K H a xs := .inl (.inl h)
theorem lc_yes {σ : L2.St} {H : Hp} {F : Bool → Hp → Prop} (h : F true H) : tYes σ H F := h
theorem Within.c {ds ns : List Int} {n : Int} (h : Within ds (n :: ns)) : ∃ d r, ds = d :: r ∧ 0 ≤ d ∧ d < n ∧ Within r ns := by
  cases ds with
  | nil => exact h.elim
  | cons d r => exact ⟨d, r, rfl, h.1.1, h.1.2, h.2⟩
theorem Within.n {ds : List Int} (h : Within ds []) : ds = [] := by
  cases ds with
  | nil => rfl
  | cons d r => exact h.elim
theorem kI : kitB "int" "int" = some true := by decide +kernel
theorem kB : kitB "int" "bool" = some false := by decide +kernel
theorem kT : kitB "tuple" "tuple" = some true := by decide +kernel

theorem cut_from (xs : List V) (k : Nat) : cutV xs (some (k : Int)) none = xs.drop k := by
  unfold cutV
  rw [HT.sIx_nat, HT.sIx_none]
  by_cases h : k ≤ xs.length
  · rw [Nat.min_eq_left h]
    exact List.take_of_length_le (by rw [List.length_drop]; exact Nat.le_refl _)
  · rw [Nat.min_eq_right (by omega), List.drop_of_length_le (Nat.le_refl _), List.drop_of_length_le (by omega), List.take_nil]
theorem cut_from1 (xs : List V) : cutV xs (some 1) none = xs.drop 1 := by
  unfold cutV
  rw [show HT.sIx xs.length 0 (some 1) = min 1 xs.length from HT.sIx_nat xs.length 0 1, HT.sIx_none]
  cases xs with
  | nil => rfl
  | cons x r =>
    rw [show min 1 (x :: r).length = 1 by
      rw [List.length_cons]
      omega]
    show (List.take ((x :: r).length - 1) r) = r
    rw [List.length_cons, Nat.add_sub_cancel]
    exact List.take_length
theorem big18 : (0 : Int) < 10 ^ 18 ∧ (10 : Int) ^ 18 < 2 ^ 100 := by decide
theorem cut_to (xs : List V) (k : Nat) : cutV xs none (some (k : Int)) = xs.take k := by
  unfold cutV
  rw [HT.sIx_none, HT.sIx_nat, List.drop_zero, Nat.sub_zero]
  by_cases h : k ≤ xs.length
  · rw [Nat.min_eq_left h]
  · rw [Nat.min_eq_right (by omega), List.take_of_length_le (Nat.le_refl _), List.take_of_length_le (by omega)]

theorem iteD {c A B : Prop} [Decidable c] (hc : c) (h : A) : if decide c = true then A else B := by
  rw [if_pos (decide_eq_true hc)]
  exact h
theorem iteDF {c A B : Prop} [Decidable c] (hc : ¬ c) (h : B) : if decide c = true then A else B := by
  rw [decide_eq_false hc]
  exact iteF h
open NdefX (NScope ncx startF CellsAt inv_startN)
open ClX (pin_new pin_at base_none unpinE)

/-! ### own classes and errors: rules that the layer lacks -/
section
variable {X : Cx}
/-- a field's read, its K by another name -/
theorem pe_fldK {K : PySem.W.Frag} {e : Expr} {f : Str} {pos : Pos} {ta : TE} (he : PE X e ta) (hb : attributeBase e f X.env (eval e X.env) = eval e X.env) (hK : X.K = K := by rfl) : PE X (.Attribute e f pos) (tFld K ta f) := by
  subst hK
  exact pe_fld he hb
/-- floor division by a divisor of either sign -/
def CDivWN (_ j : Int) : Prop := j ≠ 0 ∧ j.natAbs.log2 < 9000
theorem op_fdivWN : OpR X (binaryOp .FloorDiv) (rI CDivWN fun i j => .int (i.fdiv j)) := opI fun _ _ _ _ _ _ _ c k => floordiv_int c.1 k (.inl (PyProof.noPylong_of_log2 c.2))
/-- a new instance whose __init__ may let an error out, wished for at the slots that stand -/
theorem made_at {CX : CXT} {n : Nat} {g D : Addr} {gd : FuncData} {qs : List Str} {pr : Sp} {Ex : L2.St → XK} {us0 : List Value} {vs0 : List V} {pn : List (Addr × Obj)} {τ : L2.St} {H0 : Hp} {st : Shared} {W : VK} {as : List Value} {xs : List V}
    (MK : Mk X.K D g) (OK : FnOk X.prog X.w X.K X.mg X.base CX n g gd qs pr) (room : Room (n + 1) X.A) (bd : Binds X.K gd qs us0) (dv : Vals vs0 us0) (out : PassesAt CX X τ (Ex τ)) (J : Inv X pn τ H0 st) (rel : Vals xs as)
    (go : ∀ p q, H0 p = none → H0 q = none → q ≠ p → pr (.ref p :: (xs ++ vs0)) (upd (upd H0 q (.own p)) p (.ins D q [])) (fun v H2 => v = .non ∧ W (.ref p) H2) (Ex τ)) :
    wpAny (model X.prog X.w) X.A (call (.ref D) as) (EP X pn τ W) X.xe st := by
  have new1 := J.hok.fresh (Nat.le_succ st.heap.objs.size)
  have new2 := J.hok.fresh (Nat.le_refl st.heap.objs.size)
  have asked := go _ _ new1 new2 (Nat.ne_of_lt (Nat.lt_succ_self _))
  have J2 := Inv.made (C := D) J
  have rel2 : Vals (V.ref (st.heap.objs.size + 1) :: (xs ++ vs0)) (Value.ref (st.heap.objs.size + 1) :: (as ++ us0)) :=
    .cons rfl (rel.append dv)
  have len2 : (Value.ref (st.heap.objs.size + 1) :: as ++ us0).length = qs.length := (rel2.length.symm).trans (OK.len _ _ _ _ asked)
  have env2 := J2.env0.make D as []
  have bound := bd _ (Value.ref (st.heap.objs.size + 1) :: as) J2.kIn len2
  have ran := OK.run _ X.stack _ _ _ _ _ _ (Ex τ) (room.make D as []) env2 bound rel2 asked
  refine wpAny_call (make_map (f := g) J.kIn MK.makes MK.init (beq_iff_eq.mp MK.fn) (codeAny_mono ran ?_))
  rintro (e | fl) s' back
  · exact out pn _ _ e s' J2 back
  · cases fl with
    | ret u =>
      obtain ⟨v, H', J3, rv, rfl, w3⟩ := J2.after back
      exact ⟨rv, V.ref (st.heap.objs.size + 1), _, J3, rfl, w3⟩
    | next => exact back.elim
    | brk => exact back.elim
    | cont => exact back.elim
def tMakeS (D : Addr) (pr : Sp) (vs0 : List V) (Ex : L2.St → XK) (t : TA) : TE := fun τ H Q => t τ H fun xs H1 => ∀ p q, H1 p = none → H1 q = none → q ≠ p →
  pr (.ref p :: (xs ++ vs0)) (upd (upd H1 q (.own p)) p (.ins D q [])) (fun v H2 => v = .non ∧ Q (.ref p) H2) (Ex τ)
theorem pe_makeS {CX : CXT} {n : Nat} {g D : Addr} {gd : FuncData} {qs : List Str} {pr : Sp} {Ex : L2.St → XK} {us0 : List Value} {vs0 : List V} {x : Str} {p pos : Pos} {e : Expr} {es : List Expr} {t : TA}
    (MK : Mk X.K D g) (OK : FnOk X.prog X.w X.K X.mg X.base CX n g gd qs pr) (room : Room (n + 1) X.A) (gl : Gl X x) (at_ : X.mg x = some (.ref D)) (bd : Binds X.K gd qs us0) (dv : Vals vs0 us0) (out : ∀ τ, PassesAt CX X τ (Ex τ)) (args : PA X (e :: es) t)
    (plain : (x == ("__debug__" : Str)) = false := by decide) (first : starEach (e :: es) X.env = (false, eval e X.env) :: starEach es X.env := by rfl) (noStar : (backTo pos (starEach es X.env)).any (·.1) = false := by rfl) :
    PE X (.Call (.Name x p) (e :: es) [] pos) (tMakeS D pr vs0 Ex t) :=
  ⟨fun pn s τ H Q J h => wpAny_Call_Name_kw (ld_glob J gl at_ (PySem.W.callWith_K (h₀ := X.base) J.ok.mod.kin MK.kp (thn (args.run pos pn s τ H _ J h) fun _ _ ⟨_, _, J1, rel, go⟩ => ⟨J1.kIn, made_at MK OK room bd dv (out τ) J1 rel go⟩) first noStar) plain)⟩
/-- isinstance(e, c) in a suite, e the error that it holds (of an own class at D, without a dict of its own) -/
def rIsX (K : PySem.W.Frag) (a : Addr) (cls : Value) (d : Option Addr) : List V → Hp → VK → Prop := fun xs H Q => ∃ D : Addr, ExcC K D ∧ cls = .ref D ∧ d = none ∧ rIsE K D a xs H Q
theorem call_isX {K : PySem.W.Frag} {a : Addr} {cls : Value} {d : Option Addr} {oe : Obj} {pn : List (Addr × Obj)} (hz : Zc cls d oe) (hf : ∃ vs, oe.data = .fields vs) (hK : X.K = K := by rfl) :
    CallR (X.suite a ((a, oe) :: pn)) (.builtin "isinstance") (rIsX K a cls d) := by
  intro pins s σ H xs us Q I r h
  subst hK
  obtain ⟨D, ec, rfl, rfl, h⟩ := h
  exact call_isE ec hz hf pins s σ H xs us Q I r h
end
theorem lk_one {k : Str} {v : V} {r : List (Str × V)} : List.lookup k ((k, v) :: r) = some v := by
  simp [List.lookup]
theorem lk_two {k g : Str} {v : V} {r : List (Str × V)} (h : (k == g) = false) : List.lookup k ((g, v) :: r) = List.lookup k r := by
  simp only [List.lookup, h]

/-! ### super().__init__(e, ..) as a method's first statement -/
theorem inst_of' {X : Cx} {pins : List (Addr × Obj)} {σ : L2.St} {H : Hp} {s : Shared} {a C dx : Addr} {fs : List (Str × V)} (I : Inv X pins σ H s) (e : H a = some (.ins C dx fs)) :
    s.heap.get? a = some (PySem.W.instObj C dx) ∧ ∃ od, PySem.W.InstAt s.heap a (PySem.W.instObj C dx) C (some od) := by
  obtain ⟨mA, O, _⟩ := ins_get I.hok e
  obtain ⟨od, J, _⟩ := O.look
  exact ⟨O.obj, od, J⟩
/-- what the top has written of a class D above which super() looks, for an instance of the class C: the function g at the name -/
structure SupC (K : PySem.W.Frag) (mg : Str → Option Value) (C D cc cda g : Addr) (file : Str) : Prop where
  isD : ∃ cd, PySem.W.clsIn K D = some cd
  sub : PySem.W.mroIn K C (.ref D) = some true
  cell : ∃ cl cld csl, K.lookup cc = some ⟨cl, cld, .cell (some (.ref D)), csl⟩
  code : ∃ ccl cdd vs ccs tf, K.lookup cda = some ⟨ccl, cdd, .fields vs, ccs⟩ ∧ vs[2]? = some (.str file tf)
  sup : PySem.W.ks_superIn K C D "__init__" = some (some (.ref g))
  tg : PySem.W.typeIn K (.ref g) = some (.type "function")
  fg : PySem.W.fnIn K g = true
  opq : PySem.W.nsIn K cStatics "thirdparty.any" = some none
  nosup : mg "super" = none
section
variable {CX : CXT} {P : Program} {w : World} {K : PySem.W.Frag} {mg : Str → Option Value} {base : Heap} {k j : Nat} {f g cc cda C D : Addr} {name qual : Str} {params : Arguments} {scope : Scope} {dV kV doc pm ct oc : Value} {an od : Option Addr}
  {osl : Array (Option Value)} {N ps qs : List Str} {sp si : Sp} {gd : FuncData} {e : Expr} {es : List Expr} {rest : List Stmt} {p0 p1 p2 p3 p4 : Pos} {ar : Arg} {pl : Sem Bool}
abbrev supSt (p0 p1 p2 p3 p4 : Pos) (es : List Expr) : Stmt := .Expr (.Call (.Attribute (.Call (.Name "super" p0) [] [] p1) "__init__" p2) es [] p3) p4
theorem fn_super {file : Str} (lk : K.lookup f = some ⟨oc, od, .func (PySem.W.ksFn name qual params (supSt p0 p1 p2 p3 p4 (e :: es) :: rest) scope dV kV doc pm an (.ref cda) ct cc), osl⟩) (hcd : PySem.W.codeIn K (.ref cda) qual = true) (S : NScope N ps ["__class__"] scope)
    (SC : SupC K mg C D cc cda g file) (hfile : ((P.main.file : Str) == file) = true) (htop : (P.main.scope.names.lookup ("super" : Str)).isSome = false) (hpar : (params.posonlyargs ++ params.args).head? = some ar) (hN : N[0]? = some ar.arg) (hka : scope.names.lookup ar.arg = some .local)
    (hks : scope.names.lookup ("super" : Str) = some .globalImplicit) (hkc : scope.names.lookup ("__class__" : Str) = some .free)
    (len : ∀ vs H Q E, sp vs H Q E → vs.length = ps.length) (G : FnOk P w K mg base CX j g gd qs si) (bd : Binds K gd qs []) (hj : j ≤ k)
    (hi : ∀ L, interactive (PySem.W.ksEnv qual scope L f (.ref cda) cc) = false)
    (hsw : ∀ L, swapsWith (.Call (.Attribute (.Call (.Name "super" p0) [] [] p1) "__init__" p2) (e :: es) [] p3) none p4.line (PySem.W.ksEnv qual scope L f (.ref cda) cc) = pure false)
    (hev : ∀ L, eval (.Call (.Attribute (.Call (.Name "super" p0) [] [] p1) "__init__" p2) (e :: es) [] p3) (PySem.W.ksEnv qual scope L f (.ref cda) cc) = (do
      let ov ← attributeBase (.Call (.Name "super" p0) [] [] p1) "__init__" (PySem.W.ksEnv qual scope L f (.ref cda) cc) (eval (.Call (.Name "super" p0) [] [] p1) (PySem.W.ksEnv qual scope L f (.ref cda) cc))
      standAt p2.atName
      let (f', first) ← holding [ov] (getMethod ov "__init__" pl)
      callWith p3 f' first (backTo p3 (starEach (e :: es) (PySem.W.ksEnv qual scope L f (.ref cda) cc))) []))
    (hst : ∀ L, starEach (e :: es) (PySem.W.ksEnv qual scope L f (.ref cda) cc) = (false, eval e (PySem.W.ksEnv qual scope L f (.ref cda) cc)) :: starEach es (PySem.W.ksEnv qual scope L f (.ref cda) cc))
    (hpl : ∀ L, (backTo p3 (starEach es (PySem.W.ksEnv qual scope L f (.ref cda) cc))).any (·.1) = false)
    (hbody : ∀ (A : Around) (outer : List Env) (s : Shared) (H : Hp) (vs : List V) (Q : VK) (E : XK), Room k (A.deeper (PySem.W.ksEnv qual scope s.heap.objs.size f (.ref cda) cc)) → sp vs H Q E →
      ∃ (ta : TA) (tr : TS) (a dx : Addr) (fs : List (Str × V)) (us0 : List V) (Ei : XK),
        PA (ncx CX P w K mg base N ⟨name, qual, params, supSt p0 p1 p2 p3 p4 (e :: es) :: rest, scope, [("__class__", cc)], cda⟩ f A outer s H E) (e :: es) ta ∧
        PSs (ncx CX P w K mg base N ⟨name, qual, params, supSt p0 p1 p2 p3 p4 (e :: es) :: rest, scope, [("__class__", cc)], cda⟩ f A outer s H E) rest tr ∧
        Passes CX (ncx CX P w K mg base N ⟨name, qual, params, supSt p0 p1 p2 p3 p4 (e :: es) :: rest, scope, [("__class__", cc)], cda⟩ f A outer s H E) Ei ∧ vs = .ref a :: us0 ∧ H a = some (.ins C dx fs) ∧
        ta (startF N vs [none]) H (fun ws H1 => si (.ref a :: ws) H1 (fun _ H2 => tr { nx := fun _ H' => Q .non H', rt := Q } (startF N vs [none]) H2) Ei)) :
    FnOk P w K mg base CX (k + 1) f (PySem.W.ksFn name qual params (supSt p0 p1 p2 p3 p4 (e :: es) :: rest) scope dV kV doc pm an (.ref cda) ct cc) ps sp := by
  refine ⟨len, fun A outer s H args us vs Q E hr e0 hb r asked => ?_⟩
  have hl := len _ _ _ _ asked
  have kb : ∀ b o, base.get? b = some o → s.heap.get? b = some o := fun b o z => (e0.bs b o z).1
  have KX : K.In s.heap := e0.mod.kin.keeps kb
  have lim : s.heap.NoLimit := e0.mod.nolimit.keeps kb
  obtain ⟨cl, cld, csl, hcell⟩ := SC.cell
  obtain ⟨ccl, cdd, fv, ccs, tf, hcode, hfv⟩ := SC.code
  obtain ⟨cdD, hD⟩ := SC.isD
  have C0 : CellsAt [("__class__", cc)] ["__class__"] [none] s.heap H := by
    refine ⟨rfl, fun y c z => ?_, fun y z c h1 h2 => ?_, fun i y z => ?_⟩
    · have hc : c = cc := by
        simp only [List.lookup] at z
        split at z
        · exact (Option.some.inj z).symm
        · cases z
      subst hc
      exact ⟨(e0.bs _ _ (e0.mod.kin _ _ hcell)).2, _, _, KX _ _ hcell, rfl⟩
    · have one : ∀ {t : Str}, [(("__class__" : Str), cc)].lookup t = some c → t = "__class__" := fun {t} h => by
        simp only [List.lookup] at h
        split at h
        · exact beq_iff_eq.mp (by assumption)
        · cases h
      rw [one h1, one h2]
    · have hy : y = "__class__" := by
        cases i with
        | zero => simpa using z.symm
        | succ n => simp at z
      subst hy
      exact ⟨cc, rfl, fun v h => by cases i <;> simp at h⟩
  refine ks_codeAny_call_defAt (fd := PySem.W.ksFn name qual params (supSt p0 p1 p2 p3 p4 (e :: es) :: rest) scope dV kV doc pm an (.ref cda) ct cc) (body := supSt p0 p1 p2 p3 p4 (e :: es) :: rest) (binds := ps.zip us) hr.depth (KX _ _ lk) rfl lim (PySem.W.codeRec_of KX hcd) rfl hb S.nocell (fun ⟨n, _⟩ hy => S.par n (List.of_mem_zip hy).1) (fun h₁ hns kp => ?_) S.co S.gen S.kind
  obtain ⟨ta, tr, a, dx, fs, us0, Ei, hpa, hps, hpass, ev, ha, hq⟩ := hbody A outer s H vs Q E (hr.deeper _) asked
  subst ev
  have I : Inv (ncx CX P w K mg base N ⟨name, qual, params, supSt p0 p1 p2 p3 p4 (e :: es) :: rest, scope, [("__class__", cc)], cda⟩ f A outer s H E) [] (startF N (.ref a :: us0) [none]) H { s with heap := h₁, toks := s.toks + (ps.zip us).length } := inv_startN (F := ⟨name, qual, params, supSt p0 p1 p2 p3 p4 (e :: es) :: rest, scope, [("__class__", cc)], cda⟩) S hr.hd e0 hl r C0 hns kp
  generalize hX : ncx CX P w K mg base N ⟨name, qual, params, supSt p0 p1 p2 p3 p4 (e :: es) :: rest, scope, [("__class__", cc)], cda⟩ f A outer s H E = X at I hpa hps hpass
  have hXr := hX
  subst hX
  have rm := hr.deeper (PySem.W.ksEnv qual scope s.heap.objs.size f (.ref cda) cc)
  show PySem.wpAt (model P w) (A.deeper (PySem.W.ksEnv qual scope s.heap.objs.size f (.ref cda) cc)) (.func (supSt p0 p1 p2 p3 p4 (e :: es) :: rest) (PySem.W.ksEnv qual scope s.heap.objs.size f (.ref cda) cc)) (execs (supSt p0 p1 p2 p3 p4 (e :: es) :: rest) (PySem.W.ksEnv qual scope s.heap.objs.size f (.ref cda) cc)) _ _ _
  refine ks_wpAt_execs_cons (ks_wpAt_Expr_any (ks_wpAt_MethodCall (pl := pl) ?_ (hev _)) (hi _) (hsw _))
  have KI := I.kIn
  refine ks_wpAt_super_base (env := PySem.W.ksEnv qual scope s.heap.objs.size f (.ref cda) cc) hks hkc (by decide) rfl (KI _ _ lk) rfl hpar rfl (KI _ _ hcode) rfl hfv hfile htop ?_
  obtain ⟨mb, hb1, hb2⟩ := I.mod.blt
  refine PySem.W.ks_loadName_global S.kind hks (Calls.loadGlobal_builtin (env := PySem.W.ksEnv qual scope s.heap.objs.size f (.ref cda) cc) (I.mod.glob.keeps I.bk) SC.nosup (hb1.keeps I.bk) ((hb2 "super" (by decide)).trans (by rfl)) ⟨rfl, ?_⟩)
  refine wpAny_loadName_free S.kind hkc rfl ⟨_, KI _ _ hcell, rfl⟩ ?_
  obtain ⟨m, hn, hl'⟩ := I.loc
  obtain ⟨u, ru, lku⟩ := hl' 0 ar.arg (.ref a) hN rfl (.inl hka)
  cases (show u = Value.ref a from ru)
  have hmu : m ar.arg = some (.ref a) := by
    rcases lku with ⟨_, z⟩ | ⟨z, _⟩
    · exact z
    · have hk' : scope.names.lookup ar.arg = some .cell ∨ scope.names.lookup ar.arg = some .free := z
      rw [hka] at hk'
      rcases hk' with z | z <;> cases z
  refine wpAny_loadName_local S.kind hka hn hmu ?_
  obtain ⟨oD, hD1, hD2⟩ : ∃ oD, h₁.get? D = some oD ∧ oD.data = .cls cdD := by
    unfold PySem.W.clsIn at hD
    split at hD
    · rename_i c d cd' sl ho
      cases hD
      exact ⟨_, KI _ _ ho, rfl⟩
    · cases hD
  refine ks_wpAny_isType_cls hD1 hD2 (And.intro rfl ?_)
  obtain ⟨hoa, oda, J⟩ := inst_of' I ha
  refine ks_wpAny_call_super hD1 hD2 J.at_ J.cls (fun c z => ?_) (PySem.W.looks_mroIn KI SC.sub) (fun h2 e2 k2 => ?_)
  · have := J.no
    unfold PySem.W.notCls at this
    rw [z] at this
    exact Bool.noConfusion this
  have I2 := I.kept (h' := h2) (t' := s.toks + (ps.zip us).length) k2
  have K2 := I2.kIn
  obtain ⟨hoa2, oda2, J2⟩ := inst_of' I2 ha
  have sup := SC.sup
  unfold PySem.W.ks_superIn at sup
  cases hc : PySem.W.clsIn K C with
  | none => rw [hc] at sup; cases sup
  | some cdC =>
  rw [hc] at sup
  obtain ⟨og, hog, hogc⟩ : ∃ og, h2.get? g = some og ∧ og.cls = .type "function" := by
    have ht' : (K.lookup g).map (·.cls) = some (.type "function") := SC.tg
    cases z : K.lookup g with
    | none =>
      rw [z] at ht'
      cases ht'
    | some og =>
      rw [z] at ht'
      exact ⟨og, K2 _ _ z, Option.some.inj ht'⟩
  refine ks_wpAny_getMethod_super e2 (PySem.W.looks_opaque K2 SC.opq) (l₀ := cdC.mro) (fun A Q E s k q => wpAny_bind ((PySem.W.looks_clsIn K2 hc) A _ E s k (wpAny_pure q))) rfl K2 sup hog hogc (PySem.W.ks_ne K2 J2 hc) (by decide) ?_
  have I3 : Inv (ncx CX P w K mg base N ⟨name, qual, params, supSt p0 p1 p2 p3 p4 (e :: es) :: rest, scope, [("__class__", cc)], cda⟩ f A outer s H E) [(h2.objs.size, PySem.W.methodObj (.ref g) (.ref a))] (startF N (.ref a :: us0) [none]) H ⟨h2.push (PySem.W.methodObj (.ref g) (.ref a)), s.gens, s.drawn, s.toks + (ps.zip us).length + 1, s.os⟩ :=
    pin_new (s := ⟨h2, s.gens, s.drawn, s.toks + (ps.zip us).length, s.os⟩) I2 (fun _ _ z => Heap.get?_push_of_some _ z) (Nat.le_refl _) (Heap.get?_push_size h2 rfl) (fun v z => nomatch z)
  have hbq : base.get? h2.objs.size = none := base_none I2 (Nat.le_refl _)
  have hL : h2.objs.size ≠ s.heap.objs.size := (I3.pin (h2.objs.size, PySem.W.methodObj (.ref g) (.ref a)) (List.mem_append_right _ List.mem_cons_self)).2.2.1
  refine PySem.W.callWith_M (K := K) (h₀ := base) (first := []) e0.mod.kin (news_at hL hbq (pin_at I3)) List.mem_cons_self SC.fg ?_ (hst _) (hpl _)
  refine wpAny_mono (hpa.run p3 _ _ _ H _ I3 hq) (fun ws s4 h4 => ?_) fun _ _ z => z
  obtain ⟨vs4, H4, I4, r4, q4⟩ := h4
  refine ⟨⟨pin_at I4, I4.kIn⟩, ?_⟩
  have lenq : (Value.ref a :: ws).length = qs.length := by
    have z := G.len _ _ _ _ q4
    rw [← z, List.length_cons, List.length_cons, r4.length]
  have bound := bd s4 (Value.ref a :: ws) I4.kIn (by rw [List.append_nil]; exact lenq)
  rw [List.append_nil] at bound
  have rm' : Room k (A.deeper (PySem.W.ksEnv qual scope s.heap.objs.size f (.ref cda) cc)) := hr.deeper _
  refine wpAny_mono (Q := fun u s' => EP (ncx CX P w K mg base N ⟨name, qual, params, supSt p0 p1 p2 p3 p4 (e :: es) :: rest, scope, [("__class__", cc)], cda⟩ f A outer s H E) [(h2.objs.size, PySem.W.methodObj (.ref g) (.ref a))] (startF N (.ref a :: us0) [none]) (fun _ H2 => tr { nx := fun _ H' => Q .non H', rt := Q } (startF N (.ref a :: us0) [none]) H2) u s')
    (wpAny_call (PySem.W.method_call (pin_at I4) (codeAny_mono (G.run _ _ s4 H4 ⟨Value.ref a :: ws, []⟩ (Value.ref a :: ws) (.ref a :: vs4) _ Ei (rm'.mono hj) I4.env0 bound (.cons rfl r4) q4) fun rr s' back => ?_))) (fun u s5 h5 => ?_) fun _ _ z => z
  · cases rr with
    | error er => exact hpass _ _ _ _ er s' I4 back
    | ok fl =>
      cases fl with
      | ret u => exact I4.after back
      | next => exact back.elim
      | brk => exact back.elim
      | cont => exact back.elim
  · obtain ⟨v5, H5, I5, _, q5⟩ := unpinE h5
    refine PySem.wpAt_of_wpAny ?_
    refine wpAny_mono (hps.run [] _ _ H5 _ I5 q5) (fun fl s' hs => ?_) fun er s' hs => hs
    have last : ∀ {τ : L2.St} {G' : Hp} {x : V} {y : Value}, Inv (ncx CX P w K mg base N ⟨name, qual, params, supSt p0 p1 p2 p3 p4 (e :: es) :: rest, scope, [("__class__", cc)], cda⟩ f A outer s H E) [] τ G' s' → L2.RelV x y → Q x G' → CE outer P w H s Q y s' :=
      fun {_ G' x _} Z rel z => ⟨x, G', Z.os, Z.bare, Z.base, Z.hok, rel, z⟩
    cases fl with
    | next =>
      obtain ⟨_, _, Z, z⟩ := hs
      exact last (x := V.non) (y := Value.none) Z rfl z
    | ret y =>
      obtain ⟨_, _, _, Z, rel, z⟩ := hs
      exact last Z rel z
    | brk => exact hs.elim fun _ ⟨_, _, z⟩ => z.elim
    | cont => exact hs.elim fun _ ⟨_, _, z⟩ => z.elim
end
/-- such a method as the top has written it: cc the cell of its class, cda its code -/
def FunS (K : PySem.W.Frag) (name qual : Str) (st : Stmt) (cc cda f : Addr) (fd : FuncData) : Prop :=
  (∃ (oc : Value) (od : Option Addr) (kV doc pm : Value) (an : Option Addr) (ct : Value) (osl : Array (Option Value)), fd = PySem.W.ksFn name qual (defArgs st) (defBody st) (defScope st) .none kV doc pm an (.ref cda) ct cc ∧
    K.lookup f = some ⟨oc, od, .func fd, osl⟩ ∧ PySem.W.codeIn K (.ref cda) qual = true) ∧ PySem.W.keepIn K (.ref f) = true
theorem FunS.binds {K : PySem.W.Frag} {name qual : Str} {st : Stmt} {cc cda f : Addr} {fd : FuncData} {ps : List Str} (F : FunS K name qual st cc cda f fd)
    (h : ∀ (kV doc pm : Value) (an : Option Addr) (ct : Value) (us : List Value), us.length = ps.length → bindArgs (PySem.W.ksFn name qual (defArgs st) (defBody st) (defScope st) .none kV doc pm an (.ref cda) ct cc) ⟨us, []⟩ = pure (ps.zip us)) : Binds K fd ps [] := by
  obtain ⟨⟨oc, od, kV, doc, pm, an, ct, osl, rfl, _, _⟩, _⟩ := F
  exact .all (h kV doc pm an ct)

/-! ### isinstance of a caught error, with or without fields -/
section
variable {X : Cx}
def rIsY (K : PySem.W.Frag) (a : Addr) (cls : Value) (d : Option Addr) : List V → Hp → VK → Prop := fun xs H Q => ∃ D : Addr, ExcC K D ∧ cls = .ref D ∧ (d = none ∨ ∃ dd fs, d = some dd ∧ H dd = some (.xd fs)) ∧ rIsE K D a xs H Q
theorem call_isY {K : PySem.W.Frag} {a : Addr} {cls : Value} {d : Option Addr} {oe : Obj} {pn : List (Addr × Obj)} (hz : Zc cls d oe) (hf : ∃ vs, oe.data = .fields vs) (hK : X.K = K := by rfl) :
    CallR (X.suite a ((a, oe) :: pn)) (.builtin "isinstance") (rIsY K a cls d) := by
  intro pins s σ H xs us Q I r h
  subst hK
  obtain ⟨D, ec, rfl, hd, h⟩ := h
  rcases hd with rfl | ⟨dd, fs, rfl, hdd⟩
  · exact call_isE ec hz hf pins s σ H xs us Q I r h
  · obtain ⟨c, cv, b, rfl, same, known, q⟩ := h
    obtain ⟨w1, ws, rfl, r1, rs⟩ : ∃ w1 ws, us = w1 :: ws ∧ RelV (.ref a) w1 ∧ Vals [c] ws := by
      cases r with
      | cons p t => exact ⟨_, _, rfl, p, t⟩
    obtain ⟨w2, rfl, r2⟩ : ∃ w2, ws = [w2] ∧ RelV c w2 := by
      cases rs with
      | cons p t =>
        cases t
        exact ⟨_, rfl, p⟩
    cases (show w1 = Value.ref a from r1)
    cases same _ r2
    obtain ⟨there, _⟩ := I.pin (a, oe) (List.mem_append.mpr (.inl List.mem_cons_self))
    obtain ⟨vs, hv⟩ := hf
    obtain ⟨mA, ns, _⟩ := (show ObjOk X.prog X.w H s.heap dd (.xd fs) from I.hok dd _ hdd)
    obtain ⟨od, ho, _⟩ := lookIn_ns ns
    have J : PySem.W.InstAt s.heap a oe D (some od) := ⟨there, hz.1, by unfold PySem.W.notCls; rw [hv] <;> rfl, by rw [hz.2]; exact ho⟩
    have cl : (PySem.W.clsIn X.K D).isSome = true := by
      obtain ⟨cd, hc, _⟩ := PySem.W.any_some ec.hd
      rw [hc]
      rfl
    exact PySem.W.kia_one (PySem.W.kitx_exc cl ec.hg ec.hk ec.hs ec.ha ec.hn ec.ht ec.hm) I.kIn J known (fun z => nomatch z) fun tk => ⟨.bl b, H, I.kept (t' := tk) fun _ _ z => z, rfl, q⟩
end

/-! ### try with several «except C as n» -/
/-- what the clauses wish of an error, one after the other: class, the name's slot, the suite's reading -/
def wAsM (K : PySem.W.Frag) (out : WX) (D : Ends) : List (Value × Nat × (Addr → Value → Option Addr → TS)) → WX
  | [] => out
  | (c, i, t) :: more => fun cls d σ H => ∃ b, PySem.W.exmOne K cls c = some b ∧
      (b = true → ∀ a, H a = none → t a cls d { nx := fun σ' H' => D.nx (σ'.set i none) H', rt := D.rt, bk := fun σ' H' => D.bk (σ'.set i none) H', ct := fun σ' H' => D.ct (σ'.set i none) H' } (σ.set i (some (.ref a))) H) ∧
      (b = false → wAsM K out D more cls d σ H)
inductive ClausesOk (X : Cx) : List ExceptHandler → List (Value × Nat × (Addr → Value → Option Addr → TS)) → Prop
  | nil : ClausesOk X [] []
  | cons {x n : Str} {c : Value} {i : Nat} {t : Addr → Value → Option Addr → TS} {st : Stmt} {sts : List Stmt} {q q' : Pos} {hs : List ExceptHandler} {ls : List (Value × Nat × (Addr → Value → Option Addr → TS))} (known : Names X x c) (slot : X.N[i]? = some n)
      (lo : X.env.kindOf n = some .local) (suite : ∀ (a : Addr) (oe : Obj) (cls : Value) (d : Option Addr) (pn : List (Addr × Obj)), Zc cls d oe → (∃ vs, oe.data = .fields vs) → PSs (X.suite a ((a, oe) :: pn)) (st :: sts) (t a cls d))
      (more : ClausesOk X hs ls) : ClausesOk X (.ExceptHandler (some (.Name x q)) (some n) (st :: sts) q' :: hs) ((c, i, t) :: ls)
  | bare {x : Str} {c : Value} {i : Nat} {t : Addr → Value → Option Addr → TS} {st : Stmt} {sts : List Stmt} {q q' : Pos} {hs : List ExceptHandler} {ls : List (Value × Nat × (Addr → Value → Option Addr → TS))} (known : Names X x c) (off : X.N.length ≤ i)
      (suite : ∀ (a : Addr) (oe : Obj) (cls : Value) (d : Option Addr) (pn : List (Addr × Obj)), Zc cls d oe → (∃ vs, oe.data = .fields vs) → PSs (X.suite a ((a, oe) :: pn)) (st :: sts) (t a cls d))
      (more : ClausesOk X hs ls) : ClausesOk X (.ExceptHandler (some (.Name x q)) none (st :: sts) q' :: hs) ((c, i, t) :: ls)
section
variable {X : Cx} {body : List Stmt} {h1 : ExceptHandler} {hs : List ExceptHandler} {ls : List (Value × Nat × (Addr → Value → Option Addr → TS))} {pos : Pos} {tb : WX → TS} {out : WX}
theorem ps_try_asM (st : X.stack = X.env :: X.outer) (fr : X.env.frame = some X.env.locals) (nd : X.N.Nodup) (tk : Takes X out)
    (runs : ∀ (W : WX) (pn : List (Addr × Obj)) (xe : Value → Shared → Prop), Takes (X.tr pn xe) W → PassesOwn (model X.prog X.w) X.A X.env xe → PSs (X.tr pn xe) body (tb W))
    (cl : ClausesOk X (h1 :: hs) ls) : PS X (.Try body (h1 :: hs) [] [] pos) (fun D σ H => tb (wAsM X.K out D ls) D σ H) := by
  refine ⟨fun pins s σ H D I want => ?_⟩
  have ok := I.ok
  have frames : X.A.frames = some (X.env :: X.outer) := by rw [ok.frames, st]
  refine wpAny_Try_except ?_
  refine wpAny_mono ((runs (wAsM X.K out D ls) (X.pn ++ pins) (fun u t1 => wpAny (model X.prog X.w) X.A (noteFrame u X.env) (fun _ t2 => wpAny (model X.prog X.w) X.A (setFlight u none)
    (fun _ t3 => wpAny (model X.prog X.w) X.A (handleBy u X.env (h1 :: hs)) (SP X pins D) X.xe t3) X.xe t2) X.xe t1) (fun u t0 flown => ?_) PassesOwn.looking).run [] s σ H D (I.toTry _) want) (fun f t0 done => ?_) (fun _ _ y => y)
  · obtain ⟨a, B, sI, pins1, σ1, H1, cls, d, rfl, J0, bare, kept, sky, fresh, osE, agree, wish⟩ := flown
    have J : Inv X pins σ1 H1 sI := J0.ofTry ok
    have sky1 : Sky B (X.env :: X.outer) a (Zc cls d) X.env.locals t0.heap := st ▸ sky
    show wpAny (model X.prog X.w) X.A (noteFrame (.ref a) X.env) _ X.xe t0
    refine Sky.land Zc.steady frames fr sky1 fun g fl up => ?_
    obtain ⟨oe, vs, atE, zE, dataE⟩ := fl.there
    have outF : a ∉ frs (X.env :: X.outer) := fun mem => by
      obtain ⟨_, o, here, no⟩ := fl.2.2.1.mem mem
      cases atE.symm.trans here
      exact no _ dataE
    have nL : a ≠ X.env.locals := fun z => outF (List.mem_filterMap.mpr ⟨X.env, List.mem_cons_self, by rw [fr, z]⟩)
    have nF : a ∉ X.fs := fun mem => outF (by
      obtain ⟨e, m1, m2⟩ := List.mem_filterMap.mp mem
      exact List.mem_filterMap.mpr ⟨e, List.mem_cons_of_mem _ m1, m2⟩)
    have J1 : Inv X pins σ1 H1 { t0 with heap := g } := J.landed bare fl.1 (kept.trans up) osE agree
    have S1 := J1.suite atE dataE fresh nL nF
    have go : ∀ {hh : List ExceptHandler} {ll : List (Value × Nat × (Addr → Value → Option Addr → TS))}, ClausesOk X hh ll → wAsM X.K out D ll cls d σ1 H1 → wpAny (model X.prog X.w) X.A (handleBy (.ref a) X.env hh) (SP X pins D) X.xe { t0 with heap := g } := by
      intro hh ll cc
      induction cc with
      | nil =>
        intro fly
        refine wpAny_handleBy_nil ?_
        obtain ⟨_, _, _, o, ws, T, oT, ts, g1, g2, g3, g4, _⟩ := id fl
        unfold PySem.passOn
        refine wpAny_bind (wpAny_field g1 g3 g4 ?_)
        rw [if_neg (by simp : ¬ ((Value.ref T == Value.none) = true))]
        have on : wpAny (model X.prog X.w) X.A (setFlight (.ref a) X.env.frame) (fun _ t4 => wpAny (model X.prog X.w) X.A (throw (.ref a) : Sem Flow) (SP X pins D) X.xe t4) X.xe { t0 with heap := g } := by
          rw [fr]
          exact HandSPX.setFlight_upZ fl fun g' sky' up' => wpAny_throw (tk _ _ ⟨a, B, sI, pins, σ1, H1, cls, d, rfl, J, bare, (kept.trans up).trans up', .inr (.inr (by rw [st]; exact sky')), fresh, osE, agree, fly⟩)
        first
          | exact wpAny_bind (wpAny_pure (wpAny_bind on))
          | exact wpAny_bind on
      | @cons x n c i t b₀ bs q q' hs' ls' known slot lo suite more ih =>
        intro w1
        obtain ⟨b, asked, yes, no⟩ := w1
        refine wpAny_handleBy_cons (codeAny_handlers_test ?_) (fun z => by cases z)
        have typ : PySem.W.Looks (model X.prog X.w) g (typeOf (.ref a)) cls := fun _ _ _ _ k z => wpAny_typeOf_ref (k _ _ atE) (by rw [zE.1]; exact z)
        have name : ∀ {Q : Value → Shared → Prop} {E : Value → Shared → Prop}, Q c { t0 with heap := g } → wpAny (model X.prog X.w) (X.A.mark (some (.ref a))) (eval (.Name x q) X.env) Q E { t0 with heap := g } := fun {Q E} z => by
          obtain ⟨k1, k2, k3 | ⟨k3, k4, k5⟩⟩ := known
          · exact ld_glob (X := X.suite a ((a, oe) :: (X.pn ++ pins))) S1 k1 k3 z k2
          · exact ld_blt (X := X.suite a ((a, oe) :: (X.pn ++ pins))) S1 k1 k3 k4 z k5 k2
        refine name ((PySem.W.exm_one (M := model X.prog X.w) J1.kIn typ asked).here ?_)
        cases b with
        | false => exact ih (no rfl)
        | true =>
          refine codeAny_handlers_suite_as (HandSPX.lands_againZ fl fun g' fl' up' => ?_)
          obtain ⟨oe', ws, atE', zE', dataE'⟩ := fl'.there
          have J2 : Inv X pins σ1 H1 { t0 with heap := g' } := J.landed bare fl'.1 ((kept.trans up).trans up') osE agree
          have S2 := J2.suite atE' dataE' fresh nL nF
          refine store_ok (X := X.suite a ((a, oe') :: (X.pn ++ pins))) (v := .ref a) S2 nd slot (.inl lo) rfl (fun t5 S5 => ?_) (.inr lo)
          refine wpAny_mono ((suite a oe' cls d (X.pn ++ pins) zE' ⟨_, dataE'⟩).run [] t5 _ H1 _ S5 (yes rfl a fresh)) (fun f t6 done => ?_) (fun _ _ z => z.elim)
          have gone : ∀ {σ6 : L2.St} {H6 : Hp} {Q : Shared → Prop}, Inv (X.suite a ((a, oe') :: (X.pn ++ pins))) [] σ6 H6 t6 → (∀ t7, Inv X pins (σ6.set i none) H6 t7 → Q t7) →
              wpAny (model X.prog X.w) X.A (do bindName X.env n .none; unbindBehindTheSuite X.env n q') (fun _ t7 => Q t7) X.xe t6 := fun S6 z => gone_ok (S6.unsuite ok) nd slot lo z
          cases f with
          | ret u =>
            obtain ⟨v6, σ6, H6, S6, r6, q6⟩ := done
            exact gone S6 fun _ J7 => ⟨_, _, _, J7, r6, q6⟩
          | next =>
            obtain ⟨_, _, S6, q6⟩ := done
            exact gone S6 fun _ J7 => ⟨_, _, J7, q6⟩
          | brk =>
            obtain ⟨_, _, S6, q6⟩ := done
            exact gone S6 fun _ J7 => ⟨_, _, J7, q6⟩
          | cont =>
            obtain ⟨_, _, S6, q6⟩ := done
            exact gone S6 fun _ J7 => ⟨_, _, J7, q6⟩
      | @bare x c i t b₀ bs q q' hs' ls' known off suite more ih =>
        intro w1
        obtain ⟨b, asked, yes, no⟩ := w1
        refine wpAny_handleBy_cons (codeAny_handlers_test ?_) (fun z => by cases z)
        have typ : PySem.W.Looks (model X.prog X.w) g (typeOf (.ref a)) cls := fun _ _ _ _ k z => wpAny_typeOf_ref (k _ _ atE) (by rw [zE.1]; exact z)
        have name : ∀ {Q : Value → Shared → Prop} {E : Value → Shared → Prop}, Q c { t0 with heap := g } → wpAny (model X.prog X.w) (X.A.mark (some (.ref a))) (eval (.Name x q) X.env) Q E { t0 with heap := g } := fun {Q E} z => by
          obtain ⟨k1, k2, k3 | ⟨k3, k4, k5⟩⟩ := known
          · exact ld_glob (X := X.suite a ((a, oe) :: (X.pn ++ pins))) S1 k1 k3 z k2
          · exact ld_blt (X := X.suite a ((a, oe) :: (X.pn ++ pins))) S1 k1 k3 k4 z k5 k2
        refine name ((PySem.W.exm_one (M := model X.prog X.w) J1.kIn typ asked).here ?_)
        cases b with
        | false => exact ih (no rfl)
        | true =>
          refine codeAny_handlers_suite (HandSPX.lands_againZ fl fun g' fl' up' => ?_)
          obtain ⟨oe', ws, atE', zE', dataE'⟩ := fl'.there
          have J2 : Inv X pins σ1 H1 { t0 with heap := g' } := J.landed bare fl'.1 ((kept.trans up).trans up') osE agree
          have S2 := J2.suite atE' dataE' fresh nL nF
          have w2 := yes rfl a fresh
          have l1 : σ1.length = X.N.length := J2.len
          rw [List.set_eq_of_length_le (by omega)] at w2
          refine wpAny_mono ((suite a oe' cls d (X.pn ++ pins) zE' ⟨_, dataE'⟩).run [] _ _ H1 _ S2 w2) (fun f t6 done => ?_) (fun _ _ z => z.elim)
          have off6 : ∀ {σ6 : L2.St} {H6 : Hp}, Inv (X.suite a ((a, oe') :: (X.pn ++ pins))) [] σ6 H6 t6 → σ6.set i none = σ6 := fun {σ6 _} S6 => by
            have l6 : σ6.length = X.N.length := S6.len
            exact List.set_eq_of_length_le (by omega)
          cases f with
          | ret u =>
            obtain ⟨v6, σ6, H6, S6, r6, q6⟩ := done
            exact ⟨_, _, _, S6.unsuite ok, r6, q6⟩
          | next =>
            obtain ⟨σ6, H6, S6, q6⟩ := done
            have q6 : D.nx (σ6.set i none) H6 := q6
            rw [off6 S6] at q6
            exact ⟨_, _, S6.unsuite ok, q6⟩
          | brk =>
            obtain ⟨σ6, H6, S6, q6⟩ := done
            have q6 : D.bk (σ6.set i none) H6 := q6
            rw [off6 S6] at q6
            exact ⟨_, _, S6.unsuite ok, q6⟩
          | cont =>
            obtain ⟨σ6, H6, S6, q6⟩ := done
            have q6 : D.ct (σ6.set i none) H6 := q6
            rw [off6 S6] at q6
            exact ⟨_, _, S6.unsuite ok, q6⟩
    exact go cl wish
  · cases f with
    | ret u =>
      obtain ⟨v, _, _, J1, r1, q1⟩ := done
      exact ⟨v, _, _, J1.ofTry ok, r1, q1⟩
    | next =>
      obtain ⟨_, _, J1, q1⟩ := done
      exact wpAny_execs_nil ⟨_, _, J1.ofTry ok, q1⟩
    | brk =>
      obtain ⟨_, _, J1, q1⟩ := done
      exact ⟨_, _, J1.ofTry ok, q1⟩
    | cont =>
      obtain ⟨_, _, J1, q1⟩ := done
      exact ⟨_, _, J1.ofTry ok, q1⟩
end

/-! ### errors of two fields -/
/-- the heap behind C(x, y), where __init__ stores both -/
def errH (H : Hp) (a C dx : Addr) (f g : Str) (x y : V) : Hp := upd (upd (upd H dx (exd dx [(f, x)])) a (exo a C (some dx))) dx (exd dx [(g, y), (f, x)])
theorem raise2 {C : Addr} {f g : Str} {x y : V} {H : Hp} {Q : XK} (hq : ∀ d, H d = none → Q (.ref C) (some d) (upd H d (.xd [(g, y), (f, x)]))) {a dx : Addr} (na : H a = none) (nd : upd H a (exo a C none) dx = none) (ne : dx ≠ a) :
    V.non = .non ∧ ∃ (d : Addr) (fs : List (Str × V)), errH (upd H a (exo a C none)) a C dx f g x y a = some (exo a C (some d)) ∧ errH (upd H a (exo a C none)) a C dx f g x y d = some (exd d fs) ∧ H d = none ∧
      Q (.ref C) (some d) (upd (del (errH (upd H a (exo a C none)) a C dx f g x y) a) d (.xd fs)) := by
  rw [upd_ne ne] at nd
  refine ⟨rfl, dx, _, ?_, upd_same, nd, ?_⟩
  · unfold errH
    rw [upd_ne (Ne.symm ne), upd_same]
  · have e : upd (del (errH (upd H a (exo a C none)) a C dx f g x y) a) dx (.xd [(g, y), (f, x)]) = upd H dx (.xd [(g, y), (f, x)]) := by
      funext b
      by_cases h1 : b = dx
      · rw [h1, upd_same, upd_same]
      · rw [upd_ne h1, upd_ne h1]
        by_cases h2 : b = a
        · rw [h2, del_same, na]
        · rw [del_ne h2]
          unfold errH
          rw [upd_ne h1, upd_ne h2, upd_ne h1, upd_ne h2]
    rw [e]
    exact hq dx nd
/-- the first weight below 1, from place i on -/
def badAt : List Int → Nat → Option Nat
  | [], _ => none
  | n :: r, i => if n < 1 then some i else badAt r (i + 1)

/-- the fields of a Weighted -/
def fW (m aside : Int) (t : Addr) : List (Str × V) := putF "aside" (.int aside) (putF "weights" (.ref t) (putF "many" (.int m) []))
/-- nothing but the object at p is another -/
def SameX (p : Addr) (H H' : Hp) : Prop := ∀ b o, b ≠ p → H b = some o → H' b = some o
theorem SameX.trans {p : Addr} {H H' H2 : Hp} (h : SameX p H H') (k : SameX p H' H2) : SameX p H H2 := fun b o n z => k b o n (h b o n z)
theorem SameX.new {p : Addr} {H : Hp} {a : Addr} {o : HO} (n : H a = none) : SameX p H (upd H a o) := fun b u _ z => (upd_ne (ne_of_none z n)).trans z
theorem SameX.put {p : Addr} {H : Hp} {o : HO} : SameX p H (upd H p o) := fun b u n z => (upd_ne n).trans z

/-- the first number below b, from place i on -/
def lowAt (b : Int) : List Int → Nat → Option Nat
  | [], _ => none
  | n :: r, i => if n < b then some i else lowAt b r (i + 1)
theorem low_bad : ∀ (ns : List Int) (i : Nat), lowAt 1 ns i = badAt ns i
  | [], _ => rfl
  | n :: r, i => by
    unfold lowAt badAt
    rw [low_bad r (i + 1)]

theorem same_sx {p : Addr} {H H' : Hp} (h : Same H H') : SameX p H H' := fun b o _ z => h b o z

/-! ### super().m(e, ..) in a method's own block, anywhere: statements that know the code they stand in -/
structure PEA (X : Cx) (c : Code) (e : Expr) (t : TE) : Prop where
  run : ∀ (pins : List (Addr × Obj)) (s : Shared) (σ : L2.St) (H : Hp) (Q : VK), Inv X pins σ H s → t σ H Q → PySem.wpAt (model X.prog X.w) X.A c (eval e X.env) (EP X pins σ Q) X.xe s
structure PSA (X : Cx) (c : Code) (st : Stmt) (t : TS) : Prop where
  run : ∀ (pins : List (Addr × Obj)) (s : Shared) (σ : L2.St) (H : Hp) (D : Ends), Inv X pins σ H s → t D σ H → PySem.wpAt (model X.prog X.w) X.A c (exec st X.env) (SP X pins D) X.xe s
structure PSAs (X : Cx) (c : Code) (st : List Stmt) (t : TS) : Prop where
  run : ∀ (pins : List (Addr × Obj)) (s : Shared) (σ : L2.St) (H : Hp) (D : Ends), Inv X pins σ H s → t D σ H → PySem.wpAt (model X.prog X.w) X.A c (execs st X.env) (SP X pins D) X.xe s
section
variable {X : Cx} {c : Code} {e b : Expr} {rest' : List Expr} {st : Stmt} {rest : List Stmt} {t u : TS} {te tb : TE} {pos : Pos}
theorem pea_pe (h : PE X e te) : PEA X c e te := ⟨fun pins s σ H Q I q => PySem.wpAt_of_wpAny (h.run pins s σ H Q I q)⟩
theorem psa_ps (h : PS X st t) : PSA X c st t := ⟨fun pins s σ H D I q => PySem.wpAt_of_wpAny (h.run pins s σ H D I q)⟩
theorem psas_pss (h : PSs X rest t) : PSAs X c rest t := ⟨fun pins s σ H D I q => PySem.wpAt_of_wpAny (h.run pins s σ H D I q)⟩
theorem psas_cons (h1 : PSA X c st t) (h2 : PSAs X c rest u) : PSAs X c (st :: rest) (tSeq t u) := by
  refine ⟨fun pins s σ H D I h => ?_⟩
  refine ks_wpAt_execs_cons (ks_wpAt_mono (h1.run pins s σ H { D with nx := u D } I h) (fun f s1 q => ?_) fun _ _ x => x)
  cases f with
  | next =>
    obtain ⟨σ', H', I', q⟩ := q
    exact h2.run pins s1 σ' H' D I' q
  | ret v => exact q
  | brk => exact q
  | cont => exact q
theorem psas_one (h : PSA X c st t) : PSAs X c [st] t := by
  refine ⟨fun pins s σ H D I q => ?_⟩
  refine ks_wpAt_execs_cons (ks_wpAt_mono (h.run pins s σ H D I q) (fun f s1 q => ?_) fun _ _ x => x)
  cases f with
  | next => exact PySem.wpAt_of_wpAny (wpAny_execs_nil q)
  | ret v => exact q
  | brk => exact q
  | cont => exact q
theorem psa_expr (he : PEA X c e te) (hi : interactive X.env = false := by rfl) (hs : swapsWith e none pos.line X.env = pure false := by rfl) : PSA X c (.Expr e pos) (tDrop te) := by
  refine ⟨fun pins s σ H D I h => ?_⟩
  exact ks_wpAt_Expr_any (ks_wpAt_mono (he.run pins s σ H _ I h) (fun v s1 ⟨x, H1, I1, r1, q1⟩ => ⟨σ, H1, I1, q1⟩) fun _ _ x => x) hi hs
theorem psa_ret (he : PEA X c e te) : PSA X c (.Return (some e) pos) (tRet te) := by
  refine ⟨fun pins s σ H D I h => ?_⟩
  exact ks_wpAt_Return_some (ks_wpAt_mono (he.run pins s σ H _ I h) (fun v s1 ⟨x, H1, I1, r1, q1⟩ => ⟨x, σ, H1, I1, r1, q1⟩) fun _ _ x => x)
theorem psa_set {i : Nat} {x : Str} {pos' : Pos} (hN : X.N.Nodup) (hi : X.N[i]? = some x) (hx : Loc X.env.scope x) (he : PEA X c e te) (hs : swapsWith e (some (.Name x pos')) pos.line X.env = pure false := by rfl) (hf : X.fn x = true ∨ X.env.scope.names.lookup x = some .local := by first | exact .inl rfl | exact .inr rfl | assumption) :
    PSA X c (.Assign [.Name x pos'] e pos) (tAsg te (gName i)) := by
  refine ⟨fun pins s σ H D I h => ?_⟩
  refine ks_wpAt_Assign_Name (ks_wpAt_mono (he.run pins s σ H _ I h) (fun v s1 ⟨y, H1, I1, r1, q1⟩ => ?_) fun _ _ x => x) hs
  exact store_ok I1 hN hi hx r1 (fun s2 I2 => ⟨_, H1, I2, q1⟩) hf
/-- super().m(..) and more -/
theorem pea_and (ha : PEA X c e te) (hb : PE X (.BoolOp .And (b :: rest') pos) tb) : PEA X c (.BoolOp .And (e :: b :: rest') pos) (tAndV te tb) := by
  refine ⟨fun pins s σ H Q I h => ?_⟩
  show PySem.wpAt _ X.A c (do
    let v ← eval e X.env
    standAt pos
    let d ← holding [v] (truthy v)
    match BoolOp.And, d with
    | .And, false | .Or, true => pure v
    | _, _ => boolOp pos .And (eval b X.env :: evalEach rest' X.env)) _ _ s
  refine PySem.wpAt_bind (ks_wpAt_mono (ha.run pins s σ H _ I h) (fun v s1 ⟨x, H1, I1, r1, q1⟩ => ?_) fun _ _ x => x)
  obtain ⟨d, rfl, q1⟩ := q1
  cases r1
  refine PySem.wpAt_of_wpAny (wpAny_bind (wpAny_standAt (wpAny_bind (wpAny_holding (wpAny_truthy_bool ?_)))))
  cases d with
  | true => exact hb.run pins s1 σ H1 Q I1 q1
  | false => exact wpAny_pure ⟨.bl false, H1, I1, rfl, q1⟩
end
/-- what the top has written of a class D above which super() looks, for an instance of the class C: the function g at the name m -/
structure SupM (K : PySem.W.Frag) (mg : Str → Option Value) (C D cc cda g : Addr) (m file : Str) : Prop where
  isD : ∃ cd, PySem.W.clsIn K D = some cd
  sub : PySem.W.mroIn K C (.ref D) = some true
  cell : ∃ cl cld csl, K.lookup cc = some ⟨cl, cld, .cell (some (.ref D)), csl⟩
  code : ∃ ccl cdd vs ccs tf, K.lookup cda = some ⟨ccl, cdd, .fields vs, ccs⟩ ∧ vs[2]? = some (.str file tf)
  sup : PySem.W.ks_superIn K C D m = some (some (.ref g))
  tg : PySem.W.typeIn K (.ref g) = some (.type "function")
  fg : PySem.W.fnIn K g = true
  opq : PySem.W.nsIn K cStatics "thirdparty.any" = some none
  nosup : mg "super" = none
def tSuper (C : Addr) (si : Sp) (Ei : XK) (ta : TA) : TE := fun σ H Q => ∃ (a dx : Addr) (fs : List (Str × V)), σ[0]? = some (some (.ref a)) ∧ H a = some (.ins C dx fs) ∧ ta σ H fun ws H1 => si (.ref a :: ws) H1 Q Ei
theorem pea_super {CX : CXT} {X : Cx} {body : List Stmt} {f g cc cda C D : Addr} {fd0 gd : FuncData} {oc : Value} {od : Option Addr} {osl : Array (Option Value)} {qs : List Str} {si : Sp} {Ei : XK} {e : Expr} {es : List Expr} {m file : Str} {p0 p1 p2 p3 : Pos} {ar : Arg} {pl : Sem Bool} {ta : TA} {j : Nat}
    (lk : X.K.lookup f = some ⟨oc, od, .func fd0, osl⟩) (SC : SupM X.K X.mg C D cc cda g m file) (hfile : ((X.prog.main.file : Str) == file) = true) (htop : (X.prog.main.scope.names.lookup ("super" : Str)).isSome = false) (hpar : (fd0.params.posonlyargs ++ fd0.params.args).head? = some ar) (hN : X.N[0]? = some ar.arg)
    (hkind : X.env.scope.kind = .function) (hka : X.env.scope.names.lookup ar.arg = some .local) (hks : X.env.scope.names.lookup ("super" : Str) = some .globalImplicit) (hkc : X.env.scope.names.lookup ("__class__" : Str) = some .free) (hfu : X.env.func = some f) (hco : X.env.code = .ref cda) (hcl : X.env.cells.lookup ("__class__" : Str) = some cc) (hgl : X.env.globals = mainGlobals) (hbn : X.env.builtins = builtinsNs)
    (G : FnOk X.prog X.w X.K X.mg X.base CX j g gd qs si) (bd : Binds X.K gd qs []) (hr : Room j X.A) (hpass : Passes CX X Ei) (hpa : PA X (e :: es) ta) (hm : (m == ("__class__" : Str)) = false)
    (hev : eval (.Call (.Attribute (.Call (.Name "super" p0) [] [] p1) m p2) (e :: es) [] p3) X.env = (do
      let ov ← attributeBase (.Call (.Name "super" p0) [] [] p1) m X.env (eval (.Call (.Name "super" p0) [] [] p1) X.env)
      standAt p2.atName
      let (f', first) ← holding [ov] (getMethod ov m pl)
      callWith p3 f' first (backTo p3 (starEach (e :: es) X.env)) []))
    (hst : starEach (e :: es) X.env = (false, eval e X.env) :: starEach es X.env) (hpl : (backTo p3 (starEach es X.env)).any (·.1) = false) :
    PEA X (.func body X.env) (.Call (.Attribute (.Call (.Name "super" p0) [] [] p1) m p2) (e :: es) [] p3) (tSuper C si Ei ta) := by
  refine ⟨fun pins s σ H Q I h => ?_⟩
  obtain ⟨a, dx, fs, h0, ha, hq⟩ := h
  obtain ⟨cl, cld, csl, hcell⟩ := SC.cell
  obtain ⟨ccl, cdd, fv, ccs, tf, hcode, hfv⟩ := SC.code
  obtain ⟨cdD, hD⟩ := SC.isD
  refine ks_wpAt_MethodCall (pl := pl) ?_ hev
  have KI := I.kIn
  refine ks_wpAt_super_base hks hkc hm hfu (KI _ _ lk) rfl hpar hco (KI _ _ hcode) rfl hfv hfile htop ?_
  obtain ⟨mb, hb1, hb2⟩ := I.mod.blt
  refine PySem.W.ks_loadName_global hkind hks (Calls.loadGlobal_builtin (env := X.env) (mg := X.mg) (by rw [hgl]; exact I.mod.glob.keeps I.bk) SC.nosup (by rw [hbn]; exact hb1.keeps I.bk) ((hb2 "super" (by decide)).trans (by rfl)) ⟨rfl, ?_⟩)
  refine wpAny_loadName_free hkind hkc hcl ⟨_, KI _ _ hcell, rfl⟩ ?_
  obtain ⟨mm, hn, hl'⟩ := I.loc
  obtain ⟨u, ru, lku⟩ := hl' 0 ar.arg (.ref a) hN h0 (.inl hka)
  cases (show u = Value.ref a from ru)
  have hmu : mm ar.arg = some (.ref a) := by
    rcases lku with ⟨_, z⟩ | ⟨z, _⟩
    · exact z
    · have hk' : X.env.scope.names.lookup ar.arg = some .cell ∨ X.env.scope.names.lookup ar.arg = some .free := z
      rw [hka] at hk'
      rcases hk' with z | z <;> cases z
  refine wpAny_loadName_local hkind hka hn hmu ?_
  obtain ⟨oD, hD1, hD2⟩ : ∃ oD, s.heap.get? D = some oD ∧ oD.data = .cls cdD := by
    unfold PySem.W.clsIn at hD
    split at hD
    · rename_i c d cd' sl ho
      cases hD
      exact ⟨_, KI _ _ ho, rfl⟩
    · cases hD
  obtain ⟨hh, gg, dd, tt, oo⟩ := s
  refine ks_wpAny_isType_cls hD1 hD2 (And.intro rfl ?_)
  obtain ⟨hoa, oda, J⟩ := inst_of' I ha
  refine ks_wpAny_call_super hD1 hD2 J.at_ J.cls (fun c z => ?_) (PySem.W.looks_mroIn KI SC.sub) (fun h2 e2 k2 => ?_)
  · have := J.no
    unfold PySem.W.notCls at this
    rw [z] at this
    exact Bool.noConfusion this
  have I2 := I.kept (h' := h2) (t' := tt) k2
  have K2 := I2.kIn
  obtain ⟨hoa2, oda2, J2⟩ := inst_of' I2 ha
  have sup := SC.sup
  unfold PySem.W.ks_superIn at sup
  cases hc : PySem.W.clsIn X.K C with
  | none => rw [hc] at sup; cases sup
  | some cdC =>
  rw [hc] at sup
  obtain ⟨og, hog, hogc⟩ : ∃ og, h2.get? g = some og ∧ og.cls = .type "function" := by
    have ht' : (X.K.lookup g).map (·.cls) = some (.type "function") := SC.tg
    cases z : X.K.lookup g with
    | none =>
      rw [z] at ht'
      cases ht'
    | some og =>
      rw [z] at ht'
      exact ⟨og, K2 _ _ z, Option.some.inj ht'⟩
  refine ks_wpAny_getMethod_super e2 (PySem.W.looks_opaque K2 SC.opq) (l₀ := cdC.mro) (fun A Q E s k q => wpAny_bind ((PySem.W.looks_clsIn K2 hc) A _ E s k (wpAny_pure q))) rfl K2 sup hog hogc (PySem.W.ks_ne K2 J2 hc) hm ?_
  have I3 : Inv X ((h2.objs.size, PySem.W.methodObj (.ref g) (.ref a)) :: pins) σ H ⟨h2.push (PySem.W.methodObj (.ref g) (.ref a)), gg, dd, tt + 1, oo⟩ :=
    pin_new (s := ⟨h2, gg, dd, tt, oo⟩) I2 (fun _ _ z => Heap.get?_push_of_some _ z) (Nat.le_refl _) (Heap.get?_push_size h2 rfl) (fun v z => nomatch z)
  have hbq : X.base.get? h2.objs.size = none := base_none I2 (Nat.le_refl _)
  have hL : h2.objs.size ≠ X.env.locals := (I3.pin (h2.objs.size, PySem.W.methodObj (.ref g) (.ref a)) (List.mem_append_right _ List.mem_cons_self)).2.2.1
  refine PySem.W.callWith_M (K := X.K) (h₀ := X.base) (first := []) I.mod.kin (news_at hL hbq (pin_at I3)) List.mem_cons_self SC.fg ?_ hst hpl
  refine wpAny_mono (hpa.run p3 _ _ _ H _ I3 hq) (fun ws s4 h4 => ?_) fun _ _ z => z
  obtain ⟨vs4, H4, I4, r4, q4⟩ := h4
  refine ⟨⟨pin_at I4, I4.kIn⟩, ?_⟩
  have lenq : (Value.ref a :: ws).length = qs.length := by
    have z := G.len _ _ _ _ q4
    rw [← z, List.length_cons, List.length_cons, r4.length]
  have bound := bd s4 (Value.ref a :: ws) I4.kIn (by rw [List.append_nil]; exact lenq)
  rw [List.append_nil] at bound
  refine wpAny_mono (Q := fun u s' => EP X ((h2.objs.size, PySem.W.methodObj (.ref g) (.ref a)) :: pins) σ Q u s')
    (wpAny_call (PySem.W.method_call (pin_at I4) (codeAny_mono (G.run _ _ s4 H4 ⟨Value.ref a :: ws, []⟩ (Value.ref a :: ws) (.ref a :: vs4) _ Ei hr I4.env0 bound (.cons rfl r4) q4) fun rr s' back => ?_))) (fun u s5 h5 => unpinE h5) fun _ _ z => z
  cases rr with
  | error er => exact hpass _ _ _ _ er s' I4 back
  | ok fl =>
    cases fl with
    | ret u => exact I4.after back
    | next => exact back.elim
    | brk => exact back.elim
    | cont => exact back.elim
/-- a method whose block says super() somewhere -/
theorem fn_at {CX : CXT} {P : Program} {w : World} {K : PySem.W.Frag} {mg : Str → Option Value} {base : Heap} {k : Nat} {f cc cda : Addr} {name qual : Str} {params : Arguments} {scope : Scope} {dV kV doc pm ct oc : Value} {an od : Option Addr}
    {osl : Array (Option Value)} {N ps : List Str} {sp : Sp} {body : List Stmt} {D : Addr} (lk : K.lookup f = some ⟨oc, od, .func (PySem.W.ksFn name qual params body scope dV kV doc pm an (.ref cda) ct cc), osl⟩) (hcd : PySem.W.codeIn K (.ref cda) qual = true) (S : NScope N ps ["__class__"] scope)
    (cell : ∃ cl cld csl, K.lookup cc = some ⟨cl, cld, .cell (some (.ref D)), csl⟩) (len : ∀ vs H Q E, sp vs H Q E → vs.length = ps.length)
    (hbody : ∀ (A : Around) (outer : List Env) (s : Shared) (H : Hp) (vs : List V) (Q : VK) (E : XK), Room k (A.deeper (PySem.W.ksEnv qual scope s.heap.objs.size f (.ref cda) cc)) → sp vs H Q E →
      ∃ t, PSAs (ncx CX P w K mg base N ⟨name, qual, params, body, scope, [("__class__", cc)], cda⟩ f A outer s H E) (.func body (PySem.W.ksEnv qual scope s.heap.objs.size f (.ref cda) cc)) body t ∧ t { nx := fun _ H' => Q .non H', rt := Q } (startF N vs [none]) H) :
    FnOk P w K mg base CX (k + 1) f (PySem.W.ksFn name qual params body scope dV kV doc pm an (.ref cda) ct cc) ps sp := by
  refine ⟨len, fun A outer s H args us vs Q E hr e0 hb r asked => ?_⟩
  have hl := len _ _ _ _ asked
  have kb : ∀ b o, base.get? b = some o → s.heap.get? b = some o := fun b o z => (e0.bs b o z).1
  have KX : K.In s.heap := e0.mod.kin.keeps kb
  have lim : s.heap.NoLimit := e0.mod.nolimit.keeps kb
  obtain ⟨cl, cld, csl, hcell⟩ := cell
  have C0 : CellsAt [("__class__", cc)] ["__class__"] [none] s.heap H := by
    refine ⟨rfl, fun y c z => ?_, fun y z c h1 h2 => ?_, fun i y z => ?_⟩
    · have hc : c = cc := by
        simp only [List.lookup] at z
        split at z
        · exact (Option.some.inj z).symm
        · cases z
      subst hc
      exact ⟨(e0.bs _ _ (e0.mod.kin _ _ hcell)).2, _, _, KX _ _ hcell, rfl⟩
    · have one : ∀ {t : Str}, [(("__class__" : Str), cc)].lookup t = some c → t = "__class__" := fun {t} h => by
        simp only [List.lookup] at h
        split at h
        · exact beq_iff_eq.mp (by assumption)
        · cases h
      rw [one h1, one h2]
    · have hy : y = "__class__" := by
        cases i with
        | zero => simpa using z.symm
        | succ n => simp at z
      subst hy
      exact ⟨cc, rfl, fun v h => by cases i <;> simp at h⟩
  refine ks_codeAny_call_defAt (fd := PySem.W.ksFn name qual params body scope dV kV doc pm an (.ref cda) ct cc) (body := body) (binds := ps.zip us) hr.depth (KX _ _ lk) rfl lim (PySem.W.codeRec_of KX hcd) rfl hb S.nocell (fun ⟨n, _⟩ hy => S.par n (List.of_mem_zip hy).1) (fun h₁ hns kp => ?_) S.co S.gen S.kind
  obtain ⟨t, hps, hq⟩ := hbody A outer s H vs Q E (hr.deeper _) asked
  have I : Inv (ncx CX P w K mg base N ⟨name, qual, params, body, scope, [("__class__", cc)], cda⟩ f A outer s H E) [] (startF N vs [none]) H { s with heap := h₁, toks := s.toks + (ps.zip us).length } := inv_startN (F := ⟨name, qual, params, body, scope, [("__class__", cc)], cda⟩) S hr.hd e0 hl r C0 hns kp
  refine ks_wpAt_mono (hps.run [] _ _ H _ I hq) (fun fl s' hs => ?_) fun er s' hs => hs
  have last : ∀ {τ : L2.St} {G' : Hp} {x : V} {y : Value}, Inv (ncx CX P w K mg base N ⟨name, qual, params, body, scope, [("__class__", cc)], cda⟩ f A outer s H E) [] τ G' s' → L2.RelV x y → Q x G' → CE outer P w H s Q y s' :=
    fun {_ G' x _} Z rel z => ⟨x, G', Z.os, Z.bare, Z.base, Z.hok, rel, z⟩
  cases fl with
  | next =>
    obtain ⟨_, _, Z, z⟩ := hs
    exact last (x := V.non) (y := Value.none) Z rfl z
  | ret y =>
    obtain ⟨_, _, _, Z, rel, z⟩ := hs
    exact last Z rel z
  | brk => exact hs.elim fun _ ⟨_, _, z⟩ => z.elim
  | cont => exact hs.elim fun _ ⟨_, _, z⟩ => z.elim
/-- tuple(x) within a comprehension: its reading without the context -/
def rTupOf (K : PySem.W.Frag) : List V → Hp → VK → Prop := fun xs H Q => ∃ p ys, xs = [V.ref p] ∧ ((SqL K H p ys ∧ ∀ l, H l = none → Q (.ref l) (upd H l (.tup ys))) ∨ (SqT K H p ys ∧ Q (.ref p) H))

/-! ### a method's frame that has own cells beside the captured cell __class__ -/
theorem cells_acc : ∀ (ns : List (Str × NameKind)) (n : Nat) (acc : List (Str × Addr)), PySem.cellsFrom n ns acc = PySem.cellsFrom n ns [] ++ acc
  | [], _, _ => rfl
  | (x, k) :: r, n, acc => by
    unfold PySem.cellsFrom
    by_cases h : (k == NameKind.cell) = true
    · rw [if_pos h, if_pos h, cells_acc r (n + 1) ((x, n) :: acc), cells_acc r (n + 1) [(x, n)], List.append_assoc]
      rfl
    · rw [if_neg h, if_neg h, cells_acc r n acc]
/-- the own cells bear names of the kind cell -/
theorem cells_mem : ∀ (ns : List (Str × NameKind)) (n : Nat) (x : Str) (c : Addr), (x, c) ∈ PySem.cellsFrom n ns [] → (x, c) ∈ ([] : List (Str × Addr)) ∨ (x, NameKind.cell) ∈ ns
  | [], _, _, _, h => .inl h
  | (y, k) :: r, n, x, c, h => by
    unfold PySem.cellsFrom at h
    by_cases e : (k == NameKind.cell) = true
    · rw [if_pos e, cells_acc] at h
      rcases List.mem_append.mp h with h | h
      · exact (cells_mem r (n + 1) x c h).imp id fun z => List.mem_cons_of_mem _ z
      · rw [List.mem_singleton] at h
        cases h
        rw [beq_iff_eq.mp e]
        exact .inr List.mem_cons_self
    · rw [if_neg e] at h
      exact (cells_mem r n x c h).imp id fun z => List.mem_cons_of_mem _ z
/-- a stored name: the own cells alone are looked at -/
theorem put_own {M : Model} {A : Around} {E : Value → Shared → Prop} {s₀ s : Shared} {m cm : Str → Option Value} {env : Env} {own : List (Str × Addr)} {n : Str} {v : Value} {Q : Unit → Shared → Prop} (hk : env.scope.kind = .function) (x : PySem.InCallC s₀ env.locals m own cm s)
    (hl : env.kindOf n = some .local ∨ (env.kindOf n = some .cell ∧ ∃ c, env.cells.lookup n = some c ∧ own.lookup n = some c))
    (next : ∀ s', PySem.InCallC s₀ env.locals (if env.kindOf n = some .local then fun y => if y = n then some v else m y else m) own (if env.kindOf n = some .local then cm else fun y => if y = n then some v else cm y) s' → Q () s') : wpAny M A (storeName env n v) Q E s := by
  rcases hl with hl | ⟨hl, c, h1, h2⟩
  · rw [if_pos hl, if_pos hl] at next
    have hp : ((env.scope.kind == .class) || (env.scope.kind == .module && env.locals != env.globals)) = false := by rw [hk]; rfl
    have e : storeName env n v = storeName { env with cells := own } n v := (storeName_local hl hp v).trans (storeName_local (env := { env with cells := own }) hl hp v).symm
    rw [e]
    exact PySem.stLC (env := { env with cells := own }) x hk hl next
  · have nl : ¬ env.kindOf n = some .local := by rw [hl]; decide
    rw [if_neg nl, if_neg nl] at next
    have e : storeName env n v = storeName { env with cells := own } n v := by
      have k2 : Env.kindOf { env with cells := own } n = some .cell := hl
      have q1 : (some NameKind.cell == some NameKind.globalImplicit) = false := rfl
      have q2 : (ScopeKind.function == ScopeKind.class) = false := rfl
      unfold storeName PySem.cellOf
      simp only [hl, k2, hk, q1, q2, h1, h2, Bool.false_and, Bool.false_eq_true, if_false]
    rw [e]
    exact PySem.stCC (env := { env with cells := own }) x hk hl h2 next
theorem bind_own {M : Model} {A : Around} {E : Value → Shared → Prop} {s₀ : Shared} {env : Env} {own : List (Str × Addr)} (f : Str × Value → PUnit → Sem (ForInStep PUnit)) (hf : ∀ n v u, f (n, v) u = (do storeName env n v; pure (.yield ⟨⟩))) (hk : env.scope.kind = .function) :
    ∀ (bs : List (Str × Value)) (m cm : Str → Option Value) (s : Shared) (Q : PUnit → Shared → Prop), PySem.InCallC s₀ env.locals m own cm s → (∀ b ∈ bs, env.kindOf b.1 = some .local ∨ (env.kindOf b.1 = some .cell ∧ ∃ c, env.cells.lookup b.1 = some c ∧ own.lookup b.1 = some c)) →
      (∀ s', PySem.InCallC s₀ env.locals (PySem.bindL env.kindOf bs m) own (PySem.bindC env.kindOf bs cm) s' → Q ⟨⟩ s') → wpAny M A (forIn bs ⟨⟩ f) Q E s
  | [], _, _, s, _, x, _, go => by
    rw [List.forIn_nil]
    exact wpAny_pure (go s x)
  | b :: r, m, cm, s, Q, x, ok, go => by
    obtain ⟨n, v⟩ := b
    rw [List.forIn_cons, hf]
    refine wpAny_bind (wpAny_bind (put_own hk x (ok (n, v) List.mem_cons_self) fun s' x' => wpAny_pure ?_))
    exact bind_own f hf hk r _ _ s' Q x' (fun b hb => ok b (List.mem_cons_of_mem _ hb)) go
/-- the frame's environment -/
abbrev envM (qual : Str) (scope : Scope) (L f cda cc : Addr) : Env := PySem.newEnv scope L mainGlobals (PySem.cellsFrom (L + 1) scope.names [(("__class__" : Str), cc)]) (qual ++ ".<locals>.") (some f) (.ref cda) none builtinsNs
theorem env_own {M : Model} {A : Around} {E : Value → Shared → Prop} {s : Shared} {scope : Scope} {cl : List (Str × Addr)} {bs : List (Str × Value)} {qual : Str} {func : Option Addr} {code : Value} {gl bn : Addr} {Q : Env → Shared → Prop} (hk : scope.kind = .function)
    (ok : ∀ b ∈ bs, scope.names.lookup b.1 = some .local ∨ scope.names.lookup b.1 = some .cell)
    (go : ∀ env, env = PySem.newEnv scope s.heap.objs.size gl (PySem.cellsFrom (s.heap.objs.size + 1) scope.names cl) qual func code none bn → ∀ s', PySem.InCallC s s.heap.objs.size (PySem.bindL env.kindOf bs fun _ => none) (PySem.cellsFrom (s.heap.objs.size + 1) scope.names []) (PySem.bindC env.kindOf bs fun _ => none) s' → Q env s') :
    wpAny M A (newFunctionEnv scope gl cl bs qual func code none bn) Q E s := by
  unfold newFunctionEnv
  simp only [Option.isSome_none, Bool.false_eq_true, if_false]
  refine wpAny_bind (wpAny_alloc (wpAny_bind (PySem.wpAny_layCells _ (fun x k cs => ?_) scope.names cl _ _ ?_)))
  · cases h : k == NameKind.cell <;> simp [h]
  have z : ({ s with heap := s.heap.push { cls := .type "frame", data := .dict #[] } } : Shared).heap.objs.size = s.heap.objs.size + 1 := Heap.size_push ..
  have fine := PySem.cellsFrom_ok scope.names (s.heap.push { cls := .type "frame", data := .dict #[] }) (s.heap.objs.size + 1) [] ⟨fun _ _ h => (nomatch h), List.Pairwise.nil⟩ (by rw [Heap.size_push]; omega)
  rw [Heap.size_push] at fine
  rw [z]
  have x0 : PySem.InCallC s s.heap.objs.size (fun _ => none) (PySem.cellsFrom (s.heap.objs.size + 1) scope.names []) (fun _ => none) { s with heap := PySem.pushCells (s.heap.push { cls := .type "frame", data := .dict #[] }) scope.names } :=
    ⟨⟨⟨_, _, rfl⟩, (Heap.Ns.new s.heap (.type "frame")).keeps (PySem.pushCells_keeps _ _), fun b o e => PySem.pushCells_keeps _ _ b o (Heap.get?_push_of_some _ e), Nat.le_refl _⟩, fun n c h => (fine.empty n c (PySem.mem_of_lookup h)).1, fine.apart, fun n c h => (fine.empty n c h).2⟩
  refine wpAny_bind (bind_own (s₀ := s) (env := PySem.newEnv scope s.heap.objs.size gl (PySem.cellsFrom (s.heap.objs.size + 1) scope.names cl) qual func code none bn) _ (fun _ _ _ => rfl) hk bs _ _ _ _ x0 (fun b hb => ?_) fun s' x' => wpAny_pure (go _ rfl s' x'))
  rcases ok b hb with h | h
  · exact .inl h
  · obtain ⟨c, hc⟩ := cell_has (n := s.heap.objs.size + 1) h
    refine .inr ⟨h, c, ?_, hc⟩
    show (PySem.cellsFrom _ _ _).lookup _ = _
    rw [cells_acc, List.lookup_append, hc]
    rfl
/-- a method's names: the parameters first, then __class__ -/
structure MScope (N ps : List Str) (sc : Scope) : Prop where
  kind : sc.kind = .function
  co : sc.isCoroutine = false
  gen : sc.isGenerator = false
  nd : N.Nodup
  pre : N.take (ps.length + 1) = ps ++ [("__class__" : Str)]
  par : ∀ x ∈ ps, sc.names.lookup x = some .local ∨ sc.names.lookup x = some .cell
  free : ∀ y ∈ sc.names, y.2 = .free → y.1 = ("__class__" : Str)
  frk : sc.names.lookup ("__class__" : Str) = some .free
  own : (("__class__" : Str), NameKind.cell) ∉ sc.names
def mscB (N ps : List Str) (sc : Scope) : Bool :=
  decide (sc.kind = .function) && (!sc.isCoroutine && (!sc.isGenerator && (decide N.Nodup && (decide (N.take (ps.length + 1) = ps ++ [("__class__" : Str)]) && (ps.all (fun x => decide (sc.names.lookup x = some .local) || decide (sc.names.lookup x = some .cell)) && (sc.names.all (fun y => !decide (y.2 = .free) || decide (y.1 = ("__class__" : Str))) && (decide (sc.names.lookup ("__class__" : Str) = some .free) && decide ((("__class__" : Str), NameKind.cell) ∉ sc.names))))))))
theorem mscope_by {N ps : List Str} {sc : Scope} (h : mscB N ps sc = true) : MScope N ps sc := by
  unfold mscB at h
  simp only [Bool.and_eq_true, Bool.not_eq_true', decide_eq_true_eq, List.all_eq_true, Bool.or_eq_true, decide_eq_false_iff_not] at h
  obtain ⟨a, b, c, d, e, f, g, i, j⟩ := h
  exact ⟨a, b, c, d, e, f, fun y hy z => (g y hy).elim (fun k => absurd z k) id, i, j⟩
/-- the context of such a method's body -/
def mcx (CX : CXT) (P : Program) (w : World) (K : PySem.W.Frag) (mg : Str → Option Value) (base : Heap) (N : List Str) (qual : Str) (scope : Scope) (cda cc f : Addr) (A : Around) (outer : List Env) (s : Shared) (H : Hp) (E : XK) : Cx where
  prog := P
  w := w
  K := K
  mg := mg
  base := base
  A := A.deeper (envM qual scope s.heap.objs.size f cda cc)
  N := N
  s_0 := s
  H_0 := H
  env := envM qual scope s.heap.objs.size f cda cc
  outer := outer
  stack := envM qual scope s.heap.objs.size f cda cc :: outer
  ex := []
  calm := true
  fn := fun x => x != ("__class__" : Str)
  pn := []
  xe := fun e s' => wpAny (model P w) (A.deeper (envM qual scope s.heap.objs.size f cda cc)) (leaving (envM qual scope s.heap.objs.size f cda cc) e) (fun _ s'' => CX outer H s E e s'') (fun e' s'' => CX outer H s E e' s'') s'
section
variable {CX : CXT} {P : Program} {w : World} {K : PySem.W.Frag} {mg : Str → Option Value} {base : Heap} {N ps : List Str} {qual : Str} {scope : Scope} {cda cc f : Addr} {A : Around} {outer : List Env} {s s1 : Shared} {H : Hp} {E : XK} {us : List Value} {vs : List V}
theorem inv_startM (S : MScope N ps scope) (hd : A.handled = none) (e0 : Env0 P w K mg base A outer s H) (hl : vs.length = ps.length) (r : Vals vs us) (hcc : H cc = none) {w0 : Option Value} (hc0 : base.IsCell cc w0)
    (x : PySem.InCallC s s.heap.objs.size (PySem.bindL (envM qual scope s.heap.objs.size f cda cc).kindOf (ps.zip us) fun _ => none) (PySem.cellsFrom (s.heap.objs.size + 1) scope.names []) (PySem.bindC (envM qual scope s.heap.objs.size f cda cc).kindOf (ps.zip us) fun _ => none) s1) :
    Inv (mcx CX P w K mg base N qual scope cda cc f A outer s H E) [] (startF N vs [none]) H s1 := by
  have hpl : ps.length + 1 ≤ N.length := by
    have q := congrArg List.length S.pre
    rw [List.length_take, List.length_append] at q
    have : ([("__class__" : Str)] : List Str).length = 1 := rfl
    omega
  obtain ⟨h1, tk, rfl, hk⟩ := x.done
  obtain ⟨oc, hoc, hdc⟩ := hc0
  have hcs : s.heap.get? cc = some oc := (e0.bs _ _ hoc).1
  have ltc : cc < s.heap.objs.size := Heap.lt_size hcs
  have noA : ∀ b : Addr, b ∉ (mcx CX P w K mg base N qual scope cda cc f A outer s H E).ex := fun b z => absurd (show b ∈ ([] : List Addr) from z) (by simp)
  have split : ∀ {y : Str} {c : Addr}, (mcx CX P w K mg base N qual scope cda cc f A outer s H E).env.cells.lookup y = some c → (PySem.cellsFrom (s.heap.objs.size + 1) scope.names []).lookup y = some c ∨ (y = ("__class__" : Str) ∧ c = cc) := fun {y c} h => by
    have h : (PySem.cellsFrom (s.heap.objs.size + 1) scope.names [(("__class__" : Str), cc)]).lookup y = some c := h
    rw [cells_acc, List.lookup_append] at h
    cases e : (PySem.cellsFrom (s.heap.objs.size + 1) scope.names []).lookup y with
    | some c' =>
      rw [e] at h
      exact .inl h
    | none =>
      rw [e] at h
      simp only [List.lookup, Option.none_or] at h
      split at h
      · rename_i q
        exact .inr ⟨beq_iff_eq.mp q, (Option.some.inj h).symm⟩
      · cases h
  have ownlt : ∀ {y : Str} {c : Addr}, (PySem.cellsFrom (s.heap.objs.size + 1) scope.names []).lookup y = some c → s.heap.objs.size < c := fun {y c} h => x.above y c (PySem.mem_of_lookup h)
  have ofOwn : ∀ {y : Str} {c : Addr}, (PySem.cellsFrom (s.heap.objs.size + 1) scope.names []).lookup y = some c → (PySem.cellsFrom (s.heap.objs.size + 1) scope.names [(("__class__" : Str), cc)]).lookup y = some c := fun {y c} h => by
    rw [cells_acc, List.lookup_append, h]
    rfl
  have noOwn : (PySem.cellsFrom (s.heap.objs.size + 1) scope.names []).lookup ("__class__" : Str) = none := by
    cases e : (PySem.cellsFrom (s.heap.objs.size + 1) scope.names []).lookup ("__class__" : Str) with
    | none => rfl
    | some c =>
      have q := cells_mem scope.names _ _ _ (PySem.mem_of_lookup e)
      exact q.elim (fun z => absurd z (by simp)) fun z => absurd z S.own
  refine ⟨⟨e0.mod, S.kind, rfl, rfl, Nat.le_refl _, fun y z c h1 h2 => ?_, fun y hy => ?_, fun y c hy h => ?_, fun _ => hd, Around.frames_deeper e0.frames, .inr ⟨rfl, rfl⟩, fun b z => absurd z (noA b), e0.bs, e0.bsz, fun b _ _ => noA b, fun b z => absurd z (noA b), e0.funs, e0.frf⟩,
    rfl, e0.bare, Un.kept hk, ⟨_, x.toInCall.ns, fun i y v h1 h2 h3 => ?_⟩, fun y c h => ?_, e0.hok.fresh (Nat.le_refl _), fun y c h => ?_, fun p hp => absurd (show p ∈ ([] : List (Addr × Obj)) ++ [] from hp) (by simp), e0.hok.kept hk, ?_⟩
  · rcases split h1 with a | ⟨a, b⟩
    · rcases split h2 with a' | ⟨a', b'⟩
      · exact PySem.name_of_addr x.apart (PySem.mem_of_lookup a) (PySem.mem_of_lookup a')
      · exact absurd (Nat.lt_trans (ownlt a) (b'.symm ▸ ltc)) (Nat.lt_irrefl _)
    · rcases split h2 with a' | ⟨a', b'⟩
      · exact absurd (Nat.lt_trans (ownlt a') (b.symm ▸ ltc)) (Nat.lt_irrefl _)
      · rw [a, a']
  · have hy : scope.names.lookup y = some .cell ∨ scope.names.lookup y = some .free := hy
    rcases hy with hy | hy
    · obtain ⟨c, hc⟩ := cell_has (n := s.heap.objs.size + 1) hy
      exact ⟨c, ofOwn hc⟩
    · have e : y = ("__class__" : Str) := S.free _ (PySem.mem_of_lookup hy) rfl
      refine ⟨cc, ?_⟩
      show (PySem.cellsFrom (s.heap.objs.size + 1) scope.names [(("__class__" : Str), cc)]).lookup y = _
      rw [cells_acc, List.lookup_append, e, noOwn]
      rfl
  · rcases split h with a | ⟨a, _⟩
    · exact Nat.le_of_lt (ownlt a)
    · rw [a] at hy
      exact absurd hy (by show ¬ ((("__class__" : Str) != ("__class__" : Str)) = true); decide)
  · have clen : vs.length = ps.length := hl
    unfold startF at h2
    have e1 : N[i]? = some y := h1
    by_cases c1 : i < ps.length
    · have hq : (ps ++ [("__class__" : Str)])[i]? = some y := by
        rw [← S.pre, List.getElem?_take_of_lt (by omega)]
        exact e1
      rw [List.getElem?_append_left c1] at hq
      rw [List.getElem?_append_left (by rw [List.length_map]; omega), List.getElem?_map] at h2
      obtain ⟨a, ha, hav⟩ : ∃ a, vs[i]? = some a ∧ a = v := by
        cases e : vs[i]? with
        | none =>
          rw [e] at h2
          cases h2
        | some a =>
          rw [e] at h2
          cases h2
          exact ⟨_, rfl, rfl⟩
      subst hav
      obtain ⟨u, hu, rv⟩ := r.get ha
      have ndP : ps.Nodup := by
        have q := S.nd.sublist (List.take_sublist (ps.length + 1) N)
        rw [S.pre] at q
        exact (List.nodup_append.mp q).1
      refine ⟨u, rv, ?_⟩
      rcases S.par y (List.mem_of_getElem? hq) with k | k
      · exact .inl ⟨k, bindL_get ndP hq hu k⟩
      · obtain ⟨c, e⟩ := cell_has (n := s.heap.objs.size + 1) k
        refine .inr ⟨.inl k, c, ofOwn e, ?_⟩
        have q := x.cell y c e
        rw [bindC_get ndP hq hu (by show scope.names.lookup y ≠ _; rw [k]; decide)] at q
        exact q
    · exfalso
      rw [List.getElem?_append_right (by rw [List.length_map]; omega), List.length_map] at h2
      obtain ⟨j, hj⟩ : ∃ j, i - vs.length = j := ⟨_, rfl⟩
      rw [hj] at h2
      cases j with
      | zero => cases h2
      | succ j =>
        have h2 : (List.replicate (N.length - vs.length - 1) (none : Option V))[j]? = some (some v) := h2
        rw [List.getElem?_replicate] at h2
        split at h2 <;> cases h2
  · rcases split h with a | ⟨_, b⟩
    · exact ⟨_, x.cell y c a⟩
    · rw [b]
      exact ⟨w0, oc, hk _ _ hcs, hdc⟩
  · rcases split h with a | ⟨_, b⟩
    · exact e0.hok.fresh (Nat.le_of_lt (ownlt a))
    · rw [b]
      exact hcc
  · unfold startF
    show _ = N.length
    rw [List.length_append, List.length_append, List.length_map, List.length_replicate]
    have : ([none] : List (Option V)).length = 1 := rfl
    omega
end
/-- a method whose block says super() somewhere, with own cells -/
theorem fn_atC {CX : CXT} {P : Program} {w : World} {K : PySem.W.Frag} {mg : Str → Option Value} {base : Heap} {k : Nat} {f cc cda : Addr} {name qual : Str} {params : Arguments} {scope : Scope} {dV kV doc pm ct oc : Value} {an od : Option Addr}
    {osl : Array (Option Value)} {N ps : List Str} {sp : Sp} {body : List Stmt} {D : Addr} (lk : K.lookup f = some ⟨oc, od, .func (PySem.W.ksFn name qual params body scope dV kV doc pm an (.ref cda) ct cc), osl⟩) (hcd : PySem.W.codeIn K (.ref cda) qual = true) (S : MScope N ps scope)
    (cell : ∃ cl cld csl, K.lookup cc = some ⟨cl, cld, .cell (some (.ref D)), csl⟩) (len : ∀ vs H Q E, sp vs H Q E → vs.length = ps.length)
    (hbody : ∀ (A : Around) (outer : List Env) (s : Shared) (H : Hp) (vs : List V) (Q : VK) (E : XK), Room k (A.deeper (envM qual scope s.heap.objs.size f cda cc)) → sp vs H Q E →
      ∃ t, PSAs (mcx CX P w K mg base N qual scope cda cc f A outer s H E) (.func body (envM qual scope s.heap.objs.size f cda cc)) body t ∧ t { nx := fun _ H' => Q .non H', rt := Q } (startF N vs [none]) H) :
    FnOk P w K mg base CX (k + 1) f (PySem.W.ksFn name qual params body scope dV kV doc pm an (.ref cda) ct cc) ps sp := by
  refine ⟨len, fun A outer s H args us vs Q E hr e0 hb r asked => ?_⟩
  have kb : ∀ b o, base.get? b = some o → s.heap.get? b = some o := fun b o z => (e0.bs b o z).1
  have KX : K.In s.heap := e0.mod.kin.keeps kb
  have lim : s.heap.NoLimit := e0.mod.nolimit.keeps kb
  obtain ⟨cl, cld, csl, hcell⟩ := cell
  have cellB : base.IsCell cc (some (.ref D)) := ⟨_, e0.mod.kin _ _ hcell, rfl⟩
  refine codeAny_call_function (fd := PySem.W.ksFn name qual params body scope dV kV doc pm an (.ref cda) ct cc) (body := body) hr.depth (KX _ _ lk) rfl S.co S.gen rfl (PySem.W.codeRec_of KX hcd) (hb _ _ _ _ ?_)
  refine env_own S.kind (fun b hy => S.par b.1 (List.of_mem_zip hy).1) fun env he s1 x => ?_
  subst he
  refine ⟨lim.keeps x.toInCall.keep, PySem.ks_codeAny_funcAt ?_⟩
  obtain ⟨t, hps, hq⟩ := hbody A outer s H vs Q E (hr.deeper _) asked
  have I : Inv (mcx CX P w K mg base N qual scope cda cc f A outer s H E) [] (startF N vs [none]) H s1 := inv_startM S hr.hd e0 (len _ _ _ _ asked) r (e0.bs _ _ (e0.mod.kin _ _ hcell)).2 cellB x
  refine ks_wpAt_mono (hps.run [] _ _ H _ I hq) (fun fl s' hs => ?_) fun er s' hs => hs
  have last : ∀ {τ : L2.St} {G' : Hp} {y : V} {v : Value}, Inv (mcx CX P w K mg base N qual scope cda cc f A outer s H E) [] τ G' s' → L2.RelV y v → Q y G' → CE outer P w H s Q v s' :=
    fun {_ G' y _} Z rel z => ⟨y, G', Z.os, Z.bare, Z.base, Z.hok, rel, z⟩
  cases fl with
  | next => exact hs.elim fun _ ⟨_, Z, z⟩ => last (y := V.non) (v := Value.none) Z rfl z
  | ret y => exact hs.elim fun _ ⟨_, _, Z, rel, z⟩ => last Z rel z
  | brk => exact hs.elim fun _ ⟨_, _, z⟩ => z.elim
  | cont => exact hs.elim fun _ ⟨_, _, z⟩ => z.elim

/-! ### len(set(t)), t a tuple of ints that may hold one twice -/
theorem len_le_mem : ∀ (ns ks : List Int), ks.Nodup → (∀ k ∈ ks, k ∈ ns) → ks.length ≤ ns.length
  | [], ks, _, h => by
    cases ks with
    | nil => exact Nat.le_refl _
    | cons k r => exact absurd (h k List.mem_cons_self) (by simp)
  | n :: r, ks, nd, h => by
    by_cases hn : n ∈ ks
    · have h1 := len_le_mem r (ks.erase n) (nd.erase n) fun k hk => by
        have hk2 := (List.Nodup.mem_erase_iff nd).mp hk
        rcases List.mem_cons.mp (h k hk2.2) with e | e
        · exact absurd e hk2.1
        · exact e
      have h2 := List.length_erase_of_mem hn
      rw [List.length_cons]
      omega
    · have h1 := len_le_mem r ks nd fun k hk => by
        rcases List.mem_cons.mp (h k hk) with e | e
        · exact absurd (e ▸ hk) hn
        · exact e
      rw [List.length_cons]
      omega
theorem twice_of : ∀ {ns : List Int}, ¬ ns.Nodup → ∃ ms : List Int, ms.length + 1 = ns.length ∧ ∀ k ∈ ns, k ∈ ms
  | [], h => absurd List.Pairwise.nil h
  | n :: r, h => by
    by_cases hn : n ∈ r
    · exact ⟨r, rfl, fun k hk => by
        rcases List.mem_cons.mp hk with e | e
        · exact e ▸ hn
        · exact e⟩
    · obtain ⟨ms, l, hm⟩ := twice_of (ns := r) fun nd => h (List.nodup_cons.mpr ⟨hn, nd⟩)
      refine ⟨n :: ms, by rw [List.length_cons, List.length_cons, l], fun k hk => ?_⟩
      rcases List.mem_cons.mp hk with e | e
      · exact e ▸ List.mem_cons_self
      · exact List.mem_cons_of_mem _ (hm k e)
theorem count_nodup {ns ks : List Int} (nd : ks.Nodup) (hm : ∀ k, k ∈ ns ↔ k ∈ ks) : ks.length ≤ ns.length ∧ (ks.length = ns.length ↔ ns.Nodup) := by
  have h1 := len_le_mem ns ks nd fun k hk => (hm k).mpr hk
  refine ⟨h1, fun e => ?_, fun nn => Nat.le_antisymm h1 (len_le_mem ks ns nn fun k hk => (hm k).mp hk)⟩
  by_cases c : ns.Nodup
  · exact c
  · obtain ⟨ms, l, hms⟩ := twice_of c
    have := len_le_mem ms ks nd fun k hk => hms k ((hm k).mpr hk)
    omega
section
variable {X : Cx}
def tLenSetT (K : PySem.W.Frag) (ta : TE) : TE := fun σ H Q => ta σ H fun x H1 => ∃ (t : Addr) (ns : List Int), x = V.ref t ∧ SqT K H1 t (ns.map V.int) ∧ ns.length < 64 ∧ ∀ c : Nat, (c = ns.length ↔ ns.Nodup) → Q (.int c) H1
theorem pe_lenSetT {a : Expr} {ta : TE} {p p2 q pos : Pos} (hc : X.calm = true) (hg : Gl X "len") (hm : X.mg "len" = none) (hg2 : Gl X "set") (hm2 : X.mg "set" = none) (ha : PE X a ta)
    (na : starEach [a] X.env = (false, eval a X.env) :: starEach [] X.env := by rfl) : PE X (.Call (.Name "len" p) [.Call (.Name "set" p2) [a] [] q] [] pos) (tLenSetT X.K ta) := by
  refine ⟨fun pins s σ H Q I h => ?_⟩
  refine Call_ (ld_blt I hg hm PySem.boot_len ?_)
  refine PyProof.Rows.callWith_builtin1 (PyProof.Rows.args_cons ?_ rfl) rfl rfl
  refine Call_ (ld_blt I hg2 hm2 PyProof.Rows.boot_set ?_)
  refine PyProof.Rows.callWith_type1 (PyProof.Rows.args_cons (thn (ha.run pins s σ H _ I h) fun v s1 ⟨x, H1, I1, r1, q1⟩ => PyProof.Rows.args_nil ?_) na) na rfl
  obtain ⟨t, ns, rfl, hq, h1, q1⟩ := q1
  cases r1
  obtain ⟨its, r, pl, hz⟩ := I1.tuple hq
  have hi : PyProof.Rows.IntsAre its.toArray.toList ns := by simpa using r.ints
  refine call_set_tupI ns (I1.ok.hd hc) (show s1.heap.IsTuple t its.toArray from pl) hi (by unfold scanBound; omega) fun h' tk c R1 hcn k => ?_
  refine PyProof.Rows.args_nil ?_
  obtain ⟨o, es, ep, tt, ho, hex, hdt, g, nd, hm2, hb, hf, hn, hr, hl2⟩ := R1
  have I2 : Inv X pins σ H1 { s1 with heap := h', toks := tk } := I1.kept fun b o e => k b o e
  have cn := count_nodup (ns := ns) nd fun k => (decide_eq_true_iff (p := k ∈ ns)).symm.trans (hm2 k)
  rw [List.length_map, Array.length_toList] at cn
  have sz : es.size ≤ ns.length := cn.1
  refine call_len_set ho hex hdt hf (by omega) ⟨.int es.size, H1, I2.tok _, ⟨_, rfl⟩, q1 es.size cn.2⟩
end
/-! ### errors of one field -/
def errH1 (H : Hp) (a C dx : Addr) (f : Str) (x : V) : Hp := upd (upd H dx (exd dx [(f, x)])) a (exo a C (some dx))
theorem raise1 {C : Addr} {f : Str} {x : V} {H : Hp} {Q : XK} (hq : ∀ d, H d = none → Q (.ref C) (some d) (upd H d (.xd [(f, x)]))) {a dx : Addr} (na : H a = none) (nd : upd H a (exo a C none) dx = none) (ne : dx ≠ a) :
    V.non = .non ∧ ∃ (d : Addr) (fs : List (Str × V)), errH1 (upd H a (exo a C none)) a C dx f x a = some (exo a C (some d)) ∧ errH1 (upd H a (exo a C none)) a C dx f x d = some (exd d fs) ∧ H d = none ∧
      Q (.ref C) (some d) (upd (del (errH1 (upd H a (exo a C none)) a C dx f x) a) d (.xd fs)) := by
  rw [upd_ne ne] at nd
  refine ⟨rfl, dx, [(f, x)], ?_, ?_, nd, ?_⟩
  · unfold errH1
    rw [upd_same]
  · unfold errH1
    rw [upd_ne ne, upd_same]
  · have e : upd (del (errH1 (upd H a (exo a C none)) a C dx f x) a) dx (.xd [(f, x)]) = upd H dx (.xd [(f, x)]) := by
      funext b
      by_cases h1 : b = dx
      · rw [h1, upd_same, upd_same]
      · rw [upd_ne h1, upd_ne h1]
        by_cases h2 : b = a
        · rw [h2, del_same, na]
        · rw [del_ne h2]
          unfold errH1
          rw [upd_ne h2, upd_ne h1, upd_ne h2]
    rw [e]
    exact hq dx nd
/-- a list of wishes -/
def Good (ns : List Int) : Prop := ns.Nodup ∧ ∀ n ∈ ns, 0 ≤ n
theorem ints_flat (ns : List Int) : (ns.map V.int).all flatV = true := by
  rw [List.all_eq_true]
  intro x hx
  obtain ⟨n, _, rfl⟩ := List.mem_map.mp hx
  rfl
theorem made1 {H : Hp} {x dx C : Addr} (nx : H x = none) (nd : H dx = none) : Same H (upd (upd H dx (.own x)) x (.ins C dx [])) := fun b o e => by
  rw [upd_ne (ne_of_none e nx), upd_ne (ne_of_none e nd)]
  exact e
theorem map_erase : ∀ (ls : List Int) (k : Nat), (ls.map V.int).eraseIdx k = (ls.eraseIdx k).map V.int
  | [], k => by cases k <;> rfl
  | n :: r, 0 => rfl
  | n :: r, k + 1 => by
    show V.int n :: (r.map V.int).eraseIdx k = _
    rw [map_erase r k]
    rfl
theorem drop_cons {ns : List Int} {i : Nat} {n : Int} (h : ns[i]? = some n) : ns.drop i = n :: ns.drop (i + 1) := by
  have lt : i < ns.length := (List.getElem?_eq_some_iff.mp h).1
  rw [List.drop_eq_getElem_cons lt]
  rw [List.getElem?_eq_getElem lt] at h
  rw [Option.some.inj h]
theorem good_iff_all {ns : List Int} : (ns.Nodup ∧ (ns.map fun n => decide (n ≥ 0)).all id = true) ↔ Good ns := by
  unfold Good
  rw [List.all_eq_true]
  constructor
  · rintro ⟨h1, h2⟩
    refine ⟨h1, fun n hn => ?_⟩
    have := h2 _ (List.mem_map.mpr ⟨n, hn, rfl⟩)
    exact of_decide_eq_true this
  · rintro ⟨h1, h2⟩
    refine ⟨h1, fun b hb => ?_⟩
    obtain ⟨n, hn, rfl⟩ := List.mem_map.mp hb
    exact decide_eq_true (h2 n hn)
theorem ite2N {c A B : Prop} [Decidable c] (h1 : ¬ c → A) (h2 : c → B) : if (!decide c) = true then A else B := by
  by_cases h : c
  · rw [decide_eq_true h]
    exact iteF (h2 h)
  · rw [decide_eq_false h]
    exact iteT (h1 h)
/-- the first price below 0, from place i on -/
def negAt : List Int → Nat → Option Nat
  | [], _ => none
  | n :: r, i => if n < 0 then some i else negAt r (i + 1)

instance (ns : List Int) : Decidable (Good ns) := by unfold Good; infer_instance
/-- a list of wishes in the heap: how many buyers, their things -/
def TupF (H : Hp) (l : Addr) (ns : List Int) : Prop := ∃ o : Obj, H l = some (.frz o (.tup (ns.map V.int))) ∧ o.dict = none
theorem TupF.same {H H' : Hp} {l : Addr} {ns : List Int} (s : Same H H') (h : TupF H l ns) : TupF H' l ns := by
  obtain ⟨o, h1, h2⟩ := h
  exact ⟨o, s _ _ h1, h2⟩
theorem TupF.sq {K : PySem.W.Frag} {H : Hp} {l : Addr} {ns : List Int} (h : TupF H l ns) : SqT K H l (ns.map V.int) := by
  obtain ⟨o, h1, h2⟩ := h
  exact .inl (.inr ⟨o, h1⟩)
def PairW (H : Hp) (u : Addr) (w : Int × List Int) : Prop := ∃ l, H u = some (.tup [.int w.1, .ref l]) ∧ TupF H l w.2
theorem PairW.same {H H' : Hp} {u : Addr} {w : Int × List Int} (s : Same H H') (h : PairW H u w) : PairW H' u w := by
  obtain ⟨l, h1, h2⟩ := h
  exact ⟨l, s _ _ h1, h2.same s⟩
def RowW (H : Hp) (us : List Addr) (pw : List (Int × List Int)) : Prop := us.length = pw.length ∧ ∀ (i : Nat) (u : Addr) (w : Int × List Int), us[i]? = some u → pw[i]? = some w → PairW H u w
theorem RowW.same {H H' : Hp} {us : List Addr} {pw : List (Int × List Int)} (s : Same H H') (h : RowW H us pw) : RowW H' us pw := ⟨h.1, fun i u w h1 h2 => (h.2 i u w h1 h2).same s⟩
theorem RowW.sx {p C dx : Addr} {fs : List (Str × V)} {H H' : Hp} {us : List Addr} {pw : List (Int × List Int)} (hp : H p = some (.ins C dx fs)) (s : SameX p H H') (h : RowW H us pw) : RowW H' us pw := ⟨h.1, fun i u w h1 h2 => by
  obtain ⟨l, e1, o, e2, dn⟩ := h.2 i u w h1 h2
  refine ⟨l, s _ _ (fun z => ?_) e1, o, s _ _ (fun z => ?_) e2, dn⟩
  · rw [z, hp] at e1
    cases e1
  · rw [z, hp] at e2
    cases e2⟩
/-- a list of wishes for things below m -/
def FitW (m : Int) (ns : List Int) : Prop := Good ns ∧ ∀ n ∈ ns, n < m
instance (m : Int) (ns : List Int) : Decidable (FitW m ns) := by unfold FitW; infer_instance
/-- the first wrong pair, from pair i on: by its buyers, or by its things -/
def badL (m : Int) : List (Int × List Int) → Nat → Option (Bool × Nat)
  | [], _ => none
  | w :: r, i => if w.1 < 1 then some (true, i) else if ¬ FitW m w.2 then some (false, i) else badL m r (i + 1)
theorem badL_num {m : Int} {w : Int × List Int} {r : List (Int × List Int)} {i : Nat} (h : w.1 < 1) : badL m (w :: r) i = some (true, i) := by
  unfold badL
  exact if_pos h
theorem badL_wish {m : Int} {w : Int × List Int} {r : List (Int × List Int)} {i : Nat} (h : ¬ w.1 < 1) (k : ¬ FitW m w.2) : badL m (w :: r) i = some (false, i) := by
  unfold badL
  rw [if_neg h]
  exact if_pos k
theorem badL_next {m : Int} {w : Int × List Int} {r : List (Int × List Int)} {i : Nat} (h : ¬ w.1 < 1) (k : FitW m w.2) : badL m (w :: r) i = badL m r (i + 1) := by
  rw [show badL m (w :: r) i = if w.1 < 1 then some (true, i) else if ¬ FitW m w.2 then some (false, i) else badL m r (i + 1) from rfl, if_neg h, if_neg fun z => z k]
inductive DueL | many (m : Int) | none | num (k : Nat) | wish (k : Nat) | made
/-- what is due for these pairs -/
def dueL (m : Int) (pw : List (Int × List Int)) : DueL := if m > 24 then .many m else if pw.length = 0 then .none else
  match badL m pw 0 with
  | some (true, k) => .num k
  | some (false, k) => .wish k
  | .none => .made
theorem due_many {m : Int} {pw : List (Int × List Int)} (h : m > 24) : dueL m pw = .many m := if_pos h
theorem due_none {m : Int} {pw : List (Int × List Int)} (h : ¬ m > 24) (k : pw.length = 0) : dueL m pw = .none := by
  unfold dueL
  rw [if_neg h]
  exact if_pos k
theorem due_rest {m : Int} {pw : List (Int × List Int)} (h : ¬ m > 24) (k : ¬ pw.length = 0) : dueL m pw = (match badL m pw 0 with
  | some (true, k) => .num k
  | some (false, k) => .wish k
  | .none => .made) := by
  unfold dueL
  rw [if_neg h, if_neg k]
def fL (m : Int) (t : Addr) : List (Str × V) := putF "wishes" (.ref t) (putF "many" (.int m) [])
theorem fL_many (m : Int) (t : Addr) : (fL m t).lookup ("many" : Str) = some (V.int m) := by rfl
theorem fL_wishes (m : Int) (t : Addr) : (fL m t).lookup ("wishes" : Str) = some (V.ref t) := by rfl
/-- a rule of lists of wishes -/
def LAt (C : Addr) (H : Hp) (p : Addr) (m : Int) (pw : List (Int × List Int)) : Prop := ∃ (dx t : Addr) (us : List Addr), H p = some (.ins C dx (fL m t)) ∧ H t = some (.tup (us.map V.ref)) ∧ RowW H us pw
theorem LAt.same {C : Addr} {H H' : Hp} {p : Addr} {m : Int} {pw : List (Int × List Int)} (s : Same H H') (h : LAt C H p m pw) : LAt C H' p m pw := by
  obtain ⟨dx, t, us, h1, h2, h3⟩ := h
  exact ⟨dx, t, us, s _ _ h1, s _ _ h2, h3.same s⟩
theorem drop_pair {l : List (Int × List Int)} {i : Nat} {n : Int × List Int} (h : l[i]? = some n) : l.drop i = n :: l.drop (i + 1) := by
  have lt : i < l.length := (List.getElem?_eq_some_iff.mp h).1
  rw [List.drop_eq_getElem_cons lt]
  rw [List.getElem?_eq_getElem lt] at h
  rw [Option.some.inj h]
theorem ge_any {m : Int} {ns : List Int} : (ns.map fun n => decide (n ≥ m)).any id = false ↔ ∀ n ∈ ns, n < m := by
  rw [List.any_map, List.any_eq_false]
  constructor
  · intro h n hn
    have := h n hn
    simp at this
    exact this
  · intro h n hn
    have := h n hn
    simp
    exact this
theorem lst_sx {p C dx y : Addr} {fs : List (Str × V)} {H H' : Hp} {xs : List V} (hp : H p = some (.ins C dx fs)) (s : SameX p H H') (h : H y = some (.lst xs)) : H' y = some (.lst xs) := s _ _ (fun z => by
  rw [z, hp] at h
  cases h) h

/-! ### t.count(x), t a tuple of ints -/
section
variable {X : Cx}
def rCntT (K : PySem.W.Frag) : V → List V → Hp → VK → Prop := fun x xs H Q => ∃ (p : Addr) (ns : List Int) (k : Int), x = .ref p ∧ xs = [.int k] ∧ SqT K H p (ns.map V.int) ∧ Q (.int (ns.count k : Nat)) H
theorem mt_tcount : MtR X "tuple.count" (rCntT X.K) := by
  intro pins s σ H x xs v us Q I rx rxs h
  obtain ⟨p, ns, k, rfl, rfl, hs, q⟩ := h
  cases rx
  obtain ⟨u, rfl, ru⟩ := rxs.one
  obtain ⟨tk, rfl⟩ := ru
  obtain ⟨its, rv, ⟨⟨cls, dd, data, sl⟩, ho, hc, n, hd⟩, hlen⟩ := I.tuple hs
  simp only at hc hd
  subst hc hd
  have are := ints_of_vals rv
  refine call_meets PySem.F.slot_tuple_count ⟨_, ho, rfl⟩ PySem.F.entry_tuple_count (PySem.F.args_tuple_count_2 _ _) (SeqAt.tuple_countAt p its.toArray n dd sl (.int k tk) (eqk k)) ⟨ho, fun y hy => (eqk_gives are y (by simpa using hy)).at _ _, ?_⟩
  have cnt : its.toArray.toList.countP (eqk k) = ns.count k := eqk_count are
  refine ⟨.int (ns.count k : Nat), H, I.tok _, ⟨s.toks, ?_⟩, q⟩
  show Value.int ((its.toArray.toList.countP (eqk k) : Nat) : Int) s.toks = Value.int ((ns.count k : Nat) : Int) s.toks
  rw [cnt]
end
section
variable {X : Cx}
/-- tuple(l): the new object as it stands -/
theorem call_tuple_frz : CallR X (.type "tuple") (fun xs H Q => ∃ p ys, xs = [.ref p] ∧ SqL X.K H p ys ∧ ∀ l o, H l = none → o.dict = none → Q (.ref l) (upd H l (.frz o (.tup ys)))) := by
  intro pins s σ H xs us Q I r h
  obtain ⟨p, ys, rfl, hq, q⟩ := h
  obtain ⟨u, rfl, rx⟩ := vals1 r
  cases rx
  obtain ⟨its, rv, pl, hz⟩ := I.list hq
  have le := rv.length
  refine call_tuple_list pl.isList (fun g kp => ?_) (by simp only [List.size_toArray]; omega)
  have J : Inv X pins σ H { s with heap := g } := I.kept (t' := s.toks) kp
  have J2 : Inv X pins σ (upd H g.objs.size (.frz { cls := .type "tuple", data := .seq its.toArray } (.tup ys))) { s with heap := g.push { cls := .type "tuple", data := .seq its.toArray } } :=
    J.laid (t' := s.toks) (fun b o e => Heap.get?_push_of_some _ e) (Nat.le_refl _) (show ObjOk X.prog X.w _ _ _ (.frz _ (.tup ys)) from ⟨Heap.get?_push_size _ rfl, hz, its, rv, IsTup.new _ _⟩)
  exact ⟨.ref g.objs.size, _, J2, rfl, q _ _ (J.hok.fresh (Nat.le_refl _)) rfl⟩
def tCntT (K : PySem.W.Frag) (to : TE) (t : TA) : TE := fun σ H Q => to σ H fun x H1 => ∃ (p : Addr) (o : Obj) (ns : List Int), x = .ref p ∧ H1 p = some (.frz o (.tup (ns.map V.int))) ∧ o.dict = none ∧ t σ H1 fun xs H2 => ∃ k : Int, xs = [.int k] ∧ SqT K H2 p (ns.map V.int) ∧ Q (.int (ns.count k : Nat)) H2
theorem pe_cntT {o e : Expr} {to : TE} {t : TA} {p1 p2 : Pos} (ho : PE X o to) (ha : PA X [e] t) (hb0 : attributeBase o "count" X.env (eval o X.env) = eval o X.env := by rfl) (hl0 : (p1.endLine == p2.line) = true := by rfl)
    (hf0 : ((backTo p2 (starEach [e] X.env)).all (fun x => !x.1) && (backToKw p2 (keywordEach [] X.env)).all (fun x => x.1.isSome) && decide ([e].length + ([] : List Keyword).length + (if ([] : List Keyword).isEmpty then 0 else 1) < 30)) = true := by rfl)
    (hs0 : starEach [e] X.env = (false, eval e X.env) :: starEach [] X.env := by rfl) : PE X (.Call (.Attribute o "count" p1) [e] [] p2) (tCntT X.K to t) := by
  refine ⟨fun pins s σ H Q I h => wpAny_Call_method_late hb0 hf0 hl0 rfl (thn (ho.run pins s σ H _ I h) fun v s1 z => ?_)⟩
  obtain ⟨x, H1, I1, r1, p, ob, ns, rfl, hp, nd, q1⟩ := z
  cases r1
  obtain ⟨at_, ok⟩ := I1.hok p _ hp
  have ok : ObjOk X.prog X.w H1 s1.heap p (.tup (ns.map V.int)) := ok
  obtain ⟨_, its, _, o2, ho2, c2, _⟩ := ok
  cases at_.symm.trans ho2
  refine ⟨"tuple", "tuple.count", PySem.F.plainAttrs_tuple, PySem.F.slot_tuple_count, PySem.F.type_tuple_count, ⟨_, at_, c2⟩, fun a e => ?_, ?_⟩
  · cases e
    exact ⟨_, at_, nd⟩
  have A := ha.run p2 pins s1 σ H1 _ I1 q1
  rw [hs0] at A ⊢
  refine Calls.callWith_builtin rfl (Calls.evalArgs_plain (thn A fun us s2 ⟨vs, H2, I2, r2, k, ek, hk, q2⟩ => ?_))
  subst ek
  exact mt_tcount pins s2 σ H2 (.ref p) [.int k] (.ref p) us Q I2 rfl r2 ⟨p, ns, k, rfl, rfl, hk, q2⟩
end
theorem nodup_counts : ∀ {ns : List Int}, (∀ x ∈ ns, ns.count x = 1) → ns.Nodup
  | [], _ => List.nodup_nil
  | n :: r, h => by
    have h0 := h n List.mem_cons_self
    rw [List.count_cons_self] at h0
    have nr : n ∉ r := List.count_eq_zero.mp (by omega)
    refine List.nodup_cons.mpr ⟨nr, nodup_counts fun x hx => ?_⟩
    have h1 := h x (List.mem_cons_of_mem _ hx)
    rw [List.count_cons_of_ne (show n ≠ x from fun e => nr (e.symm ▸ hx))] at h1
    exact h1
theorem counts_nodup : ∀ {ns : List Int}, ns.Nodup → ∀ x ∈ ns, ns.count x = 1
  | n :: r, nd, x, hx => by
    obtain ⟨nr, nd⟩ := List.nodup_cons.mp nd
    rcases List.mem_cons.mp hx with e | hx
    · rw [e, List.count_cons_self, List.count_eq_zero.mpr nr]
    · rw [List.count_cons_of_ne (show n ≠ x from fun e => nr (e.symm ▸ hx))]
      exact counts_nodup nd x hx
theorem fit_all {m : Int} {ns : List Int} : FitW m ns ↔ ∀ x ∈ ns, 0 ≤ x ∧ x < m ∧ ns.count x = 1 :=
  ⟨fun h x hx => ⟨h.1.2 x hx, h.2 x hx, counts_nodup h.1.1 x hx⟩, fun h => ⟨⟨nodup_counts fun x hx => (h x hx).2.2, fun x hx => (h x hx).1⟩, fun x hx => (h x hx).2.1⟩⟩
theorem ins_ints (ns : List Int) (k : Nat) (y : Int) : (ns.map V.int).take k ++ [V.int y] ++ (ns.map V.int).drop k = (ns.take k ++ [y] ++ ns.drop k).map V.int := by
  rw [List.map_append, List.map_append, List.map_take, List.map_drop]
  rfl
theorem ins_len (ns : List Int) (k : Nat) (y : Int) : (ns.take k ++ [y] ++ ns.drop k).length = ns.length + 1 := by
  rw [List.length_append, List.length_append, List.length_take, List.length_drop]
  show min k ns.length + 1 + (ns.length - k) = _
  omega
def DueL.due : DueL → List V
  | .many m => [.str "many", .int m, .int 24]
  | .none => [.str "none"]
  | .num k => [.str "number", .str "buyers", .int (k : Int)]
  | .wish k => [.str "wish", .int (k : Int)]
  | .made => [.str "made"]
def DueL.cls : DueL → List V
  | .many _ => [.bl true, .bl false, .bl false, .bl false, .bl false, .bl false, .bl true]
  | .none => [.bl false, .bl true, .bl false, .bl false, .bl false, .bl false, .bl true]
  | .num _ => [.bl false, .bl false, .bl true, .bl false, .bl false, .bl false, .bl true]
  | .wish _ => [.bl false, .bl false, .bl false, .bl true, .bl false, .bl false, .bl true]
  | .made => []
theorem kSt : kitB "str" "str" = some true := by decide +kernel
theorem kIS : kitB "int" "str" = some false := by decide +kernel
theorem sameX_made {C x dx : Addr} {H H' : Hp} (nx : H x = none) (nd : H dx = none) (k : SameX x (upd (upd H dx (.own x)) x (.ins C dx [])) H') : Same H H' := fun b o e => by
  have h1 : b ≠ x := ne_of_none e nx
  have h2 : b ≠ dx := ne_of_none e nd
  exact k b o h1 (by rw [upd_ne h1, upd_ne h2]; exact e)
theorem dp_ints {K : PySem.W.Frag} {H : Hp} {a : Addr} {ns : List Int} (h : SqL K H a (ns.map V.int)) : Dp K H (.ref a) (.list (ns.map PyData.int)) := by
  refine .lst h ?_
  clear h
  induction ns with
  | nil => exact .nil
  | cons n r ih => exact .cons (.int n) ih
theorem depthAll_ints : ∀ ns : List Int, PyData.depthAll (ns.map PyData.int) = 0
  | [] => rfl
  | n :: r => by
    show max (PyData.depth (.int n)) (PyData.depthAll (r.map PyData.int)) = 0
    rw [depthAll_ints r]
    rfl
theorem depth_ints (ns : List Int) : PyData.depth (.list (ns.map PyData.int)) = 1 := by
  show PyData.depthAll (ns.map PyData.int) + 1 = 1
  rw [depthAll_ints]
theorem lay_ints : ∀ ns : List Int, PyData.canLayAll0 (ns.map PyData.int) = true
  | [] => rfl
  | n :: r => by
    show ((PyData.int n).canLay0 && PyData.canLayAll0 (r.map PyData.int)) = true
    rw [lay_ints r]
    rfl

theorem dp_tints {K : PySem.W.Frag} {H : Hp} {a : Addr} {ns : List Int} (h : SqT K H a (ns.map V.int)) : Dp K H (.ref a) (.tuple (ns.map PyData.int)) := by
  refine .tup h ?_
  clear h
  induction ns with
  | nil => exact .nil
  | cons n r ih => exact .cons (.int n) ih
abbrev wD (w : Int × List Int) : PyData := .tuple [.int w.1, .tuple (w.2.map PyData.int)]
theorem dp_pair {K : PySem.W.Frag} {H : Hp} {u : Addr} {w : Int × List Int} (h : PairW H u w) : Dp K H (.ref u) (wD w) := by
  obtain ⟨l, hu, hl⟩ := h
  exact .tup (tup_t hu) (.cons (.int _) (.cons (dp_tints hl.sq) .nil))
theorem RowW.uncons {H : Hp} {r : Addr} {rs : List Addr} {w : Int × List Int} {pw : List (Int × List Int)} (h : RowW H (r :: rs) (w :: pw)) : PairW H r w ∧ RowW H rs pw := ⟨h.2 0 r w rfl rfl, Nat.succ.inj h.1, fun i u ws h1 h2 => h.2 (i + 1) u ws h1 h2⟩
theorem dp_pairs {K : PySem.W.Frag} {H : Hp} : ∀ {rs : List Addr} {pw : List (Int × List Int)}, RowW H rs pw → DpAll K H (rs.map V.ref) (pw.map wD)
  | [], [], _ => .nil
  | [], _ :: _, h => by cases h.1
  | _ :: _, [], h => by cases h.1
  | r :: rs, w :: pw, h => .cons (dp_pair h.uncons.1) (dp_pairs h.uncons.2)
theorem lay_pairs : ∀ pw : List (Int × List Int), PyData.canLayAll0 (pw.map wD) = true
  | [] => rfl
  | w :: r => by
    show ((wD w).canLay0 && PyData.canLayAll0 (r.map wD)) = true
    rw [lay_pairs r, show (wD w).canLay0 = (true && (PyData.canLayAll0 (w.2.map PyData.int) && true)) from rfl, lay_ints]
    rfl
theorem depth_pairs : ∀ pw : List (Int × List Int), PyData.depthAll (pw.map wD) ≤ 2
  | [] => Nat.zero_le _
  | w :: r => by
    show max (PyData.depth (wD w)) (PyData.depthAll (r.map wD)) ≤ 2
    refine Nat.max_le.mpr ⟨?_, depth_pairs r⟩
    show max 0 (max (PyData.depthAll (w.2.map PyData.int) + 1) 0) + 1 ≤ 2
    rw [depthAll_ints]
    decide
theorem sh_pairs (pw : List (Int × List Int)) : SeqAt.shaped (.list (pw.map wD)) = true := by
  unfold SeqAt.shaped
  rw [show (PyData.list (pw.map wD)).canLay0 = true from lay_pairs pw]
  have : PyData.depth (.list (pw.map wD)) ≤ 64 := by
    show PyData.depthAll _ + 1 ≤ 64
    have := depth_pairs pw
    omega
  rw [decide_eq_true this]
  rfl
theorem sh_7 (a b c d e f g : Bool) : SeqAt.shaped (.list [.bool a, .bool b, .bool c, .bool d, .bool e, .bool f, .bool g]) = true := by cases a <;> cases b <;> cases c <;> cases d <;> cases e <;> cases f <;> cases g <;> decide +kernel
theorem dp_7 {K : PySem.W.Frag} {H : Hp} {t : Addr} {a b c d e f g : Bool} (h : H t = some (.lst [.bl a, .bl b, .bl c, .bl d, .bl e, .bl f, .bl g])) : Dp K H (.ref t) (.list [.bool a, .bool b, .bool c, .bool d, .bool e, .bool f, .bool g]) := .lst (lst_l h) (.cons (.bl _) (.cons (.bl _) (.cons (.bl _) (.cons (.bl _) (.cons (.bl _) (.cons (.bl _) (.cons (.bl _) .nil)))))))
theorem sh_0 : SeqAt.shaped (.list []) = true := by decide +kernel
theorem due_kinds (d : DueL) : ∀ x ∈ d.due, (∃ s, x = .str s) ∨ ∃ n, x = .int n := by
  intro x hx
  cases d <;> simp only [DueL.due, List.mem_cons, List.not_mem_nil, or_false] at hx
  · rcases hx with rfl | rfl | rfl
    · exact .inl ⟨_, rfl⟩
    · exact .inr ⟨_, rfl⟩
    · exact .inr ⟨_, rfl⟩
  · exact .inl ⟨_, hx⟩
  · rcases hx with rfl | rfl | rfl
    · exact .inl ⟨_, rfl⟩
    · exact .inl ⟨_, rfl⟩
    · exact .inr ⟨_, rfl⟩
  · rcases hx with rfl | rfl
    · exact .inl ⟨_, rfl⟩
    · exact .inr ⟨_, rfl⟩
  · exact .inl ⟨_, hx⟩
theorem due_len (d : DueL) : d.due.length ≤ 10 := by cases d <;> show _ ≤ 10 <;> simp [DueL.due]
theorem PairW.put {H : Hp} {D u : Addr} {xs : List V} {o : HO} {w : Int × List Int} (hD : H D = some (.lst xs)) (h : PairW H u w) : PairW (upd H D o) u w := by
  obtain ⟨l, h1, o2, h2, d⟩ := h
  have n1 : u ≠ D := fun z => by
    rw [z, hD] at h1
    cases h1
  have n2 : l ≠ D := fun z => by
    rw [z, hD] at h2
    cases h2
  exact ⟨l, (upd_ne n1).trans h1, o2, (upd_ne n2).trans h2, d⟩
theorem RowW.put {H : Hp} {D : Addr} {xs : List V} {o : HO} {us : List Addr} {pw : List (Int × List Int)} (hD : H D = some (.lst xs)) (h : RowW H us pw) : RowW (upd H D o) us pw := ⟨h.1, fun i u w h1 h2 => (h.2 i u w h1 h2).put hD⟩
theorem RowW.snoc {H : Hp} {us : List Addr} {pw : List (Int × List Int)} {u : Addr} {w : Int × List Int} (h : RowW H us pw) (k : PairW H u w) : RowW H (us ++ [u]) (pw ++ [w]) := by
  refine ⟨by rw [List.length_append, List.length_append, h.1]; rfl, fun j r v h1 h2 => ?_⟩
  by_cases hj : j < us.length
  · rw [List.getElem?_append_left hj] at h1
    rw [List.getElem?_append_left (by have := h.1; omega)] at h2
    exact h.2 j r v h1 h2
  · rw [List.getElem?_append_right (by omega)] at h1
    rw [List.getElem?_append_right (by have := h.1; omega)] at h2
    obtain ⟨n, hn⟩ : ∃ n, j - us.length = n := ⟨_, rfl⟩
    rw [← h.1, hn] at h2
    rw [hn] at h1
    cases n with
    | zero =>
      cases h1
      cases h2
      exact k
    | succ n => cases h1
theorem RowW.rep {H : Hp} {us : List Addr} {pw : List (Int × List Int)} {u : Addr} {w : Int × List Int} {i : Nat} (h : RowW H us pw) (k : PairW H u w) : RowW H (us.set i u) (pw.set i w) := by
  refine ⟨by rw [List.length_set, List.length_set]; exact h.1, fun j r v h1 h2 => ?_⟩
  by_cases e : i = j
  · subst e
    by_cases l : i < us.length
    · rw [List.getElem?_set_self l] at h1
      rw [List.getElem?_set_self (by have := h.1; omega)] at h2
      cases h1
      cases h2
      exact k
    · rw [List.getElem?_eq_none (by rw [List.length_set]; omega)] at h1
      cases h1
  · rw [List.getElem?_set_ne e] at h1 h2
    exact h.2 j r v h1 h2
theorem ixn_at {j m : Nat} (h : j < m) : ixN m (j : Int) = some j := by
  unfold ixN
  rw [if_pos (by omega), if_pos (by omega), Int.toNat_natCast]

theorem iteND {c A B : Prop} [Decidable c] (h : ¬ c) (a : A) : if (!decide c) = true then A else B := by
  rw [decide_eq_false h]
  exact iteT a
/-- what the top has written of the classes -/
structure Txt (K : PySem.W.Frag) (mg : Str → Option Value) (C_Listed C_BadNumber C_TooMany C_BadWish C_Unlike C_NoBuyers C_BadLot C_ShelfError : Addr) : Prop where
  g_Listed : mg "Listed" = some (.ref C_Listed)
  kc_Listed : PySem.W.keepIn K (.ref C_Listed) = true
  hd_Listed : PySem.W.hasDictIn K C_Listed = true
  ha_Listed : PySem.W.findIn K (.ref C_Listed) "__class__" = some (some (.builtin "object.__class__"))
  hm_Listed : PySem.W.mroIn K C_Listed (.type "object") = some true
  cl_Listed : Cls K C_Listed
  mk_Listed : PySem.W.makesIn K C_Listed = true
  n_Listed_many : NoAttr K C_Listed "many"
  n_Listed_wishes : NoAttr K C_Listed "wishes"
  g_BadNumber : mg "BadNumber" = some (.ref C_BadNumber)
  kc_BadNumber : PySem.W.keepIn K (.ref C_BadNumber) = true
  hd_BadNumber : PySem.W.hasDictIn K C_BadNumber = true
  ha_BadNumber : PySem.W.findIn K (.ref C_BadNumber) "__class__" = some (some (.builtin "object.__class__"))
  hm_BadNumber : PySem.W.mroIn K C_BadNumber (.type "object") = some true
  b_BadNumber : PySem.W.subIn K (.ref C_BadNumber) (.type "BaseException") = some true
  t_BadNumber : PySem.W.typeIn K (.ref C_BadNumber) = some (.type "type")
  ga_BadNumber : PySem.W.findIn K (.ref C_BadNumber) "__getattribute__" = some (some (.builtin "BaseException.__getattribute__"))
  gg_BadNumber : PySem.W.findIn K (.ref C_BadNumber) "__getattr__" = some none
  ox_BadNumber : OexC K C_BadNumber
  xf_BadNumber : XfC K C_BadNumber
  n_BadNumber_what : PySem.W.findIn K (.ref C_BadNumber) "what" = some none
  n_BadNumber_at : PySem.W.findIn K (.ref C_BadNumber) "at" = some none
  g_TooMany : mg "TooMany" = some (.ref C_TooMany)
  kc_TooMany : PySem.W.keepIn K (.ref C_TooMany) = true
  hd_TooMany : PySem.W.hasDictIn K C_TooMany = true
  ha_TooMany : PySem.W.findIn K (.ref C_TooMany) "__class__" = some (some (.builtin "object.__class__"))
  hm_TooMany : PySem.W.mroIn K C_TooMany (.type "object") = some true
  b_TooMany : PySem.W.subIn K (.ref C_TooMany) (.type "BaseException") = some true
  t_TooMany : PySem.W.typeIn K (.ref C_TooMany) = some (.type "type")
  ga_TooMany : PySem.W.findIn K (.ref C_TooMany) "__getattribute__" = some (some (.builtin "BaseException.__getattribute__"))
  gg_TooMany : PySem.W.findIn K (.ref C_TooMany) "__getattr__" = some none
  ox_TooMany : OexC K C_TooMany
  xf_TooMany : XfC K C_TooMany
  n_TooMany_many : PySem.W.findIn K (.ref C_TooMany) "many" = some none
  n_TooMany_most : PySem.W.findIn K (.ref C_TooMany) "most" = some none
  g_BadWish : mg "BadWish" = some (.ref C_BadWish)
  kc_BadWish : PySem.W.keepIn K (.ref C_BadWish) = true
  hd_BadWish : PySem.W.hasDictIn K C_BadWish = true
  ha_BadWish : PySem.W.findIn K (.ref C_BadWish) "__class__" = some (some (.builtin "object.__class__"))
  hm_BadWish : PySem.W.mroIn K C_BadWish (.type "object") = some true
  b_BadWish : PySem.W.subIn K (.ref C_BadWish) (.type "BaseException") = some true
  t_BadWish : PySem.W.typeIn K (.ref C_BadWish) = some (.type "type")
  ga_BadWish : PySem.W.findIn K (.ref C_BadWish) "__getattribute__" = some (some (.builtin "BaseException.__getattribute__"))
  gg_BadWish : PySem.W.findIn K (.ref C_BadWish) "__getattr__" = some none
  ox_BadWish : OexC K C_BadWish
  xf_BadWish : XfC K C_BadWish
  n_BadWish_at : PySem.W.findIn K (.ref C_BadWish) "at" = some none
  g_Unlike : mg "Unlike" = some (.ref C_Unlike)
  kc_Unlike : PySem.W.keepIn K (.ref C_Unlike) = true
  hd_Unlike : PySem.W.hasDictIn K C_Unlike = true
  ha_Unlike : PySem.W.findIn K (.ref C_Unlike) "__class__" = some (some (.builtin "object.__class__"))
  hm_Unlike : PySem.W.mroIn K C_Unlike (.type "object") = some true
  b_Unlike : PySem.W.subIn K (.ref C_Unlike) (.type "BaseException") = some true
  t_Unlike : PySem.W.typeIn K (.ref C_Unlike) = some (.type "type")
  ga_Unlike : PySem.W.findIn K (.ref C_Unlike) "__getattribute__" = some (some (.builtin "BaseException.__getattribute__"))
  gg_Unlike : PySem.W.findIn K (.ref C_Unlike) "__getattr__" = some none
  ox_Unlike : OexC K C_Unlike
  xf_Unlike : XfC K C_Unlike
  n_Unlike_at : PySem.W.findIn K (.ref C_Unlike) "at" = some none
  g_NoBuyers : mg "NoBuyers" = some (.ref C_NoBuyers)
  kc_NoBuyers : PySem.W.keepIn K (.ref C_NoBuyers) = true
  hd_NoBuyers : PySem.W.hasDictIn K C_NoBuyers = true
  ha_NoBuyers : PySem.W.findIn K (.ref C_NoBuyers) "__class__" = some (some (.builtin "object.__class__"))
  hm_NoBuyers : PySem.W.mroIn K C_NoBuyers (.type "object") = some true
  b_NoBuyers : PySem.W.subIn K (.ref C_NoBuyers) (.type "BaseException") = some true
  t_NoBuyers : PySem.W.typeIn K (.ref C_NoBuyers) = some (.type "type")
  ga_NoBuyers : PySem.W.findIn K (.ref C_NoBuyers) "__getattribute__" = some (some (.builtin "BaseException.__getattribute__"))
  gg_NoBuyers : PySem.W.findIn K (.ref C_NoBuyers) "__getattr__" = some none
  x_NoBuyers : PySem.W.excIn K C_NoBuyers [.type "ValueError", .type "Exception", .type "BaseException", .type "object"] "ValueError.__new__" = true
  g_BadLot : mg "BadLot" = some (.ref C_BadLot)
  kc_BadLot : PySem.W.keepIn K (.ref C_BadLot) = true
  hd_BadLot : PySem.W.hasDictIn K C_BadLot = true
  ha_BadLot : PySem.W.findIn K (.ref C_BadLot) "__class__" = some (some (.builtin "object.__class__"))
  hm_BadLot : PySem.W.mroIn K C_BadLot (.type "object") = some true
  b_BadLot : PySem.W.subIn K (.ref C_BadLot) (.type "BaseException") = some true
  t_BadLot : PySem.W.typeIn K (.ref C_BadLot) = some (.type "type")
  ga_BadLot : PySem.W.findIn K (.ref C_BadLot) "__getattribute__" = some (some (.builtin "BaseException.__getattribute__"))
  gg_BadLot : PySem.W.findIn K (.ref C_BadLot) "__getattr__" = some none
  g_ShelfError : mg "ShelfError" = some (.ref C_ShelfError)
  kc_ShelfError : PySem.W.keepIn K (.ref C_ShelfError) = true
  hd_ShelfError : PySem.W.hasDictIn K C_ShelfError = true
  ha_ShelfError : PySem.W.findIn K (.ref C_ShelfError) "__class__" = some (some (.builtin "object.__class__"))
  hm_ShelfError : PySem.W.mroIn K C_ShelfError (.type "object") = some true
  b_ShelfError : PySem.W.subIn K (.ref C_ShelfError) (.type "BaseException") = some true
  t_ShelfError : PySem.W.typeIn K (.ref C_ShelfError) = some (.type "type")
  ga_ShelfError : PySem.W.findIn K (.ref C_ShelfError) "__getattribute__" = some (some (.builtin "BaseException.__getattribute__"))
  gg_ShelfError : PySem.W.findIn K (.ref C_ShelfError) "__getattr__" = some none
  hnc : PySem.W.specialIn K (.builtin "object.__class__") "__get__" = some (some (.builtin "getset_descriptor.__get__"))
  htk : PySem.W.takesIn K (.builtin "object.__class__") = some true
  sub_TooMany_TooMany : PySem.W.subIn K (.ref C_TooMany) (.ref C_TooMany) = some true
  sub_TooMany_NoBuyers : PySem.W.subIn K (.ref C_TooMany) (.ref C_NoBuyers) = some false
  sub_TooMany_BadNumber : PySem.W.subIn K (.ref C_TooMany) (.ref C_BadNumber) = some false
  sub_TooMany_BadWish : PySem.W.subIn K (.ref C_TooMany) (.ref C_BadWish) = some false
  sub_NoBuyers_TooMany : PySem.W.subIn K (.ref C_NoBuyers) (.ref C_TooMany) = some false
  sub_NoBuyers_NoBuyers : PySem.W.subIn K (.ref C_NoBuyers) (.ref C_NoBuyers) = some true
  sub_NoBuyers_BadNumber : PySem.W.subIn K (.ref C_NoBuyers) (.ref C_BadNumber) = some false
  sub_NoBuyers_BadWish : PySem.W.subIn K (.ref C_NoBuyers) (.ref C_BadWish) = some false
  sub_BadNumber_TooMany : PySem.W.subIn K (.ref C_BadNumber) (.ref C_TooMany) = some false
  sub_BadNumber_NoBuyers : PySem.W.subIn K (.ref C_BadNumber) (.ref C_NoBuyers) = some false
  sub_BadNumber_BadNumber : PySem.W.subIn K (.ref C_BadNumber) (.ref C_BadNumber) = some true
  sub_BadNumber_BadWish : PySem.W.subIn K (.ref C_BadNumber) (.ref C_BadWish) = some false
  sub_BadWish_TooMany : PySem.W.subIn K (.ref C_BadWish) (.ref C_TooMany) = some false
  sub_BadWish_NoBuyers : PySem.W.subIn K (.ref C_BadWish) (.ref C_NoBuyers) = some false
  sub_BadWish_BadNumber : PySem.W.subIn K (.ref C_BadWish) (.ref C_BadNumber) = some false
  sub_BadWish_BadWish : PySem.W.subIn K (.ref C_BadWish) (.ref C_BadWish) = some true
  sub_TooMany_ShelfError : PySem.W.subIn K (.ref C_TooMany) (.ref C_ShelfError) = some true
  sub_NoBuyers_ShelfError : PySem.W.subIn K (.ref C_NoBuyers) (.ref C_ShelfError) = some true
  sub_BadNumber_ShelfError : PySem.W.subIn K (.ref C_BadNumber) (.ref C_ShelfError) = some true
  sub_BadWish_ShelfError : PySem.W.subIn K (.ref C_BadWish) (.ref C_ShelfError) = some true
  kit_TooMany_TooMany : PySem.W.kitOne K (.ref C_TooMany) (.ref C_TooMany) = some true
  kit_TooMany_NoBuyers : PySem.W.kitOne K (.ref C_TooMany) (.ref C_NoBuyers) = some false
  kit_TooMany_BadNumber : PySem.W.kitOne K (.ref C_TooMany) (.ref C_BadNumber) = some false
  kit_TooMany_BadWish : PySem.W.kitOne K (.ref C_TooMany) (.ref C_BadWish) = some false
  kit_TooMany_BadLot : PySem.W.kitOne K (.ref C_TooMany) (.ref C_BadLot) = some false
  kit_TooMany_Unlike : PySem.W.kitOne K (.ref C_TooMany) (.ref C_Unlike) = some false
  kit_TooMany_ValueError : PySem.W.kitOne K (.ref C_TooMany) (.type "ValueError") = some true
  kit_NoBuyers_TooMany : PySem.W.kitOne K (.ref C_NoBuyers) (.ref C_TooMany) = some false
  kit_NoBuyers_NoBuyers : PySem.W.kitOne K (.ref C_NoBuyers) (.ref C_NoBuyers) = some true
  kit_NoBuyers_BadNumber : PySem.W.kitOne K (.ref C_NoBuyers) (.ref C_BadNumber) = some false
  kit_NoBuyers_BadWish : PySem.W.kitOne K (.ref C_NoBuyers) (.ref C_BadWish) = some false
  kit_NoBuyers_BadLot : PySem.W.kitOne K (.ref C_NoBuyers) (.ref C_BadLot) = some false
  kit_NoBuyers_Unlike : PySem.W.kitOne K (.ref C_NoBuyers) (.ref C_Unlike) = some false
  kit_NoBuyers_ValueError : PySem.W.kitOne K (.ref C_NoBuyers) (.type "ValueError") = some true
  kit_BadNumber_TooMany : PySem.W.kitOne K (.ref C_BadNumber) (.ref C_TooMany) = some false
  kit_BadNumber_NoBuyers : PySem.W.kitOne K (.ref C_BadNumber) (.ref C_NoBuyers) = some false
  kit_BadNumber_BadNumber : PySem.W.kitOne K (.ref C_BadNumber) (.ref C_BadNumber) = some true
  kit_BadNumber_BadWish : PySem.W.kitOne K (.ref C_BadNumber) (.ref C_BadWish) = some false
  kit_BadNumber_BadLot : PySem.W.kitOne K (.ref C_BadNumber) (.ref C_BadLot) = some false
  kit_BadNumber_Unlike : PySem.W.kitOne K (.ref C_BadNumber) (.ref C_Unlike) = some false
  kit_BadNumber_ValueError : PySem.W.kitOne K (.ref C_BadNumber) (.type "ValueError") = some true
  kit_BadWish_TooMany : PySem.W.kitOne K (.ref C_BadWish) (.ref C_TooMany) = some false
  kit_BadWish_NoBuyers : PySem.W.kitOne K (.ref C_BadWish) (.ref C_NoBuyers) = some false
  kit_BadWish_BadNumber : PySem.W.kitOne K (.ref C_BadWish) (.ref C_BadNumber) = some false
  kit_BadWish_BadWish : PySem.W.kitOne K (.ref C_BadWish) (.ref C_BadWish) = some true
  kit_BadWish_BadLot : PySem.W.kitOne K (.ref C_BadWish) (.ref C_BadLot) = some false
  kit_BadWish_Unlike : PySem.W.kitOne K (.ref C_BadWish) (.ref C_Unlike) = some false
  kit_BadWish_ValueError : PySem.W.kitOne K (.ref C_BadWish) (.type "ValueError") = some true
  kit_Listed_Listed : PySem.W.kitOne K (.ref C_Listed) (.ref C_Listed) = some true
  g_MOST_THINGS : ∃ t, mg "MOST_THINGS" = some (.int 24 t)
theorem Txt.ec_BadNumber {K : PySem.W.Frag} {mg : Str → Option Value} {C_Listed C_BadNumber C_TooMany C_BadWish C_Unlike C_NoBuyers C_BadLot C_ShelfError : Addr} (T : Txt K mg C_Listed C_BadNumber C_TooMany C_BadWish C_Unlike C_NoBuyers C_BadLot C_ShelfError) : ExcC K C_BadNumber := ⟨T.ga_BadNumber, T.gg_BadNumber, T.b_BadNumber, T.hd_BadNumber, T.ha_BadNumber, T.hnc, T.htk, T.hm_BadNumber⟩
theorem Txt.ec_TooMany {K : PySem.W.Frag} {mg : Str → Option Value} {C_Listed C_BadNumber C_TooMany C_BadWish C_Unlike C_NoBuyers C_BadLot C_ShelfError : Addr} (T : Txt K mg C_Listed C_BadNumber C_TooMany C_BadWish C_Unlike C_NoBuyers C_BadLot C_ShelfError) : ExcC K C_TooMany := ⟨T.ga_TooMany, T.gg_TooMany, T.b_TooMany, T.hd_TooMany, T.ha_TooMany, T.hnc, T.htk, T.hm_TooMany⟩
theorem Txt.ec_BadWish {K : PySem.W.Frag} {mg : Str → Option Value} {C_Listed C_BadNumber C_TooMany C_BadWish C_Unlike C_NoBuyers C_BadLot C_ShelfError : Addr} (T : Txt K mg C_Listed C_BadNumber C_TooMany C_BadWish C_Unlike C_NoBuyers C_BadLot C_ShelfError) : ExcC K C_BadWish := ⟨T.ga_BadWish, T.gg_BadWish, T.b_BadWish, T.hd_BadWish, T.ha_BadWish, T.hnc, T.htk, T.hm_BadWish⟩
theorem Txt.ec_Unlike {K : PySem.W.Frag} {mg : Str → Option Value} {C_Listed C_BadNumber C_TooMany C_BadWish C_Unlike C_NoBuyers C_BadLot C_ShelfError : Addr} (T : Txt K mg C_Listed C_BadNumber C_TooMany C_BadWish C_Unlike C_NoBuyers C_BadLot C_ShelfError) : ExcC K C_Unlike := ⟨T.ga_Unlike, T.gg_Unlike, T.b_Unlike, T.hd_Unlike, T.ha_Unlike, T.hnc, T.htk, T.hm_Unlike⟩
theorem Txt.ec_NoBuyers {K : PySem.W.Frag} {mg : Str → Option Value} {C_Listed C_BadNumber C_TooMany C_BadWish C_Unlike C_NoBuyers C_BadLot C_ShelfError : Addr} (T : Txt K mg C_Listed C_BadNumber C_TooMany C_BadWish C_Unlike C_NoBuyers C_BadLot C_ShelfError) : ExcC K C_NoBuyers := ⟨T.ga_NoBuyers, T.gg_NoBuyers, T.b_NoBuyers, T.hd_NoBuyers, T.ha_NoBuyers, T.hnc, T.htk, T.hm_NoBuyers⟩
theorem Txt.ec_BadLot {K : PySem.W.Frag} {mg : Str → Option Value} {C_Listed C_BadNumber C_TooMany C_BadWish C_Unlike C_NoBuyers C_BadLot C_ShelfError : Addr} (T : Txt K mg C_Listed C_BadNumber C_TooMany C_BadWish C_Unlike C_NoBuyers C_BadLot C_ShelfError) : ExcC K C_BadLot := ⟨T.ga_BadLot, T.gg_BadLot, T.b_BadLot, T.hd_BadLot, T.ha_BadLot, T.hnc, T.htk, T.hm_BadLot⟩
theorem Txt.ec_ShelfError {K : PySem.W.Frag} {mg : Str → Option Value} {C_Listed C_BadNumber C_TooMany C_BadWish C_Unlike C_NoBuyers C_BadLot C_ShelfError : Addr} (T : Txt K mg C_Listed C_BadNumber C_TooMany C_BadWish C_Unlike C_NoBuyers C_BadLot C_ShelfError) : ExcC K C_ShelfError := ⟨T.ga_ShelfError, T.gg_ShelfError, T.b_ShelfError, T.hd_ShelfError, T.ha_ShelfError, T.hnc, T.htk, T.hm_ShelfError⟩
theorem Txt.exm_TooMany_TooMany {K : PySem.W.Frag} {mg : Str → Option Value} {C_Listed C_BadNumber C_TooMany C_BadWish C_Unlike C_NoBuyers C_BadLot C_ShelfError : Addr} (T : Txt K mg C_Listed C_BadNumber C_TooMany C_BadWish C_Unlike C_NoBuyers C_BadLot C_ShelfError) : PySem.W.exmOne K (.ref C_TooMany) (.ref C_TooMany) = some true := PySem.W.exm_ref T.b_TooMany T.hd_TooMany T.t_TooMany T.sub_TooMany_TooMany
theorem Txt.exm_TooMany_NoBuyers {K : PySem.W.Frag} {mg : Str → Option Value} {C_Listed C_BadNumber C_TooMany C_BadWish C_Unlike C_NoBuyers C_BadLot C_ShelfError : Addr} (T : Txt K mg C_Listed C_BadNumber C_TooMany C_BadWish C_Unlike C_NoBuyers C_BadLot C_ShelfError) : PySem.W.exmOne K (.ref C_TooMany) (.ref C_NoBuyers) = some false := PySem.W.exm_ref T.b_NoBuyers T.hd_NoBuyers T.t_NoBuyers T.sub_TooMany_NoBuyers
theorem Txt.exm_TooMany_BadNumber {K : PySem.W.Frag} {mg : Str → Option Value} {C_Listed C_BadNumber C_TooMany C_BadWish C_Unlike C_NoBuyers C_BadLot C_ShelfError : Addr} (T : Txt K mg C_Listed C_BadNumber C_TooMany C_BadWish C_Unlike C_NoBuyers C_BadLot C_ShelfError) : PySem.W.exmOne K (.ref C_TooMany) (.ref C_BadNumber) = some false := PySem.W.exm_ref T.b_BadNumber T.hd_BadNumber T.t_BadNumber T.sub_TooMany_BadNumber
theorem Txt.exm_TooMany_BadWish {K : PySem.W.Frag} {mg : Str → Option Value} {C_Listed C_BadNumber C_TooMany C_BadWish C_Unlike C_NoBuyers C_BadLot C_ShelfError : Addr} (T : Txt K mg C_Listed C_BadNumber C_TooMany C_BadWish C_Unlike C_NoBuyers C_BadLot C_ShelfError) : PySem.W.exmOne K (.ref C_TooMany) (.ref C_BadWish) = some false := PySem.W.exm_ref T.b_BadWish T.hd_BadWish T.t_BadWish T.sub_TooMany_BadWish
theorem Txt.exm_NoBuyers_TooMany {K : PySem.W.Frag} {mg : Str → Option Value} {C_Listed C_BadNumber C_TooMany C_BadWish C_Unlike C_NoBuyers C_BadLot C_ShelfError : Addr} (T : Txt K mg C_Listed C_BadNumber C_TooMany C_BadWish C_Unlike C_NoBuyers C_BadLot C_ShelfError) : PySem.W.exmOne K (.ref C_NoBuyers) (.ref C_TooMany) = some false := PySem.W.exm_ref T.b_TooMany T.hd_TooMany T.t_TooMany T.sub_NoBuyers_TooMany
theorem Txt.exm_NoBuyers_NoBuyers {K : PySem.W.Frag} {mg : Str → Option Value} {C_Listed C_BadNumber C_TooMany C_BadWish C_Unlike C_NoBuyers C_BadLot C_ShelfError : Addr} (T : Txt K mg C_Listed C_BadNumber C_TooMany C_BadWish C_Unlike C_NoBuyers C_BadLot C_ShelfError) : PySem.W.exmOne K (.ref C_NoBuyers) (.ref C_NoBuyers) = some true := PySem.W.exm_ref T.b_NoBuyers T.hd_NoBuyers T.t_NoBuyers T.sub_NoBuyers_NoBuyers
theorem Txt.exm_NoBuyers_BadNumber {K : PySem.W.Frag} {mg : Str → Option Value} {C_Listed C_BadNumber C_TooMany C_BadWish C_Unlike C_NoBuyers C_BadLot C_ShelfError : Addr} (T : Txt K mg C_Listed C_BadNumber C_TooMany C_BadWish C_Unlike C_NoBuyers C_BadLot C_ShelfError) : PySem.W.exmOne K (.ref C_NoBuyers) (.ref C_BadNumber) = some false := PySem.W.exm_ref T.b_BadNumber T.hd_BadNumber T.t_BadNumber T.sub_NoBuyers_BadNumber
theorem Txt.exm_NoBuyers_BadWish {K : PySem.W.Frag} {mg : Str → Option Value} {C_Listed C_BadNumber C_TooMany C_BadWish C_Unlike C_NoBuyers C_BadLot C_ShelfError : Addr} (T : Txt K mg C_Listed C_BadNumber C_TooMany C_BadWish C_Unlike C_NoBuyers C_BadLot C_ShelfError) : PySem.W.exmOne K (.ref C_NoBuyers) (.ref C_BadWish) = some false := PySem.W.exm_ref T.b_BadWish T.hd_BadWish T.t_BadWish T.sub_NoBuyers_BadWish
theorem Txt.exm_BadNumber_TooMany {K : PySem.W.Frag} {mg : Str → Option Value} {C_Listed C_BadNumber C_TooMany C_BadWish C_Unlike C_NoBuyers C_BadLot C_ShelfError : Addr} (T : Txt K mg C_Listed C_BadNumber C_TooMany C_BadWish C_Unlike C_NoBuyers C_BadLot C_ShelfError) : PySem.W.exmOne K (.ref C_BadNumber) (.ref C_TooMany) = some false := PySem.W.exm_ref T.b_TooMany T.hd_TooMany T.t_TooMany T.sub_BadNumber_TooMany
theorem Txt.exm_BadNumber_NoBuyers {K : PySem.W.Frag} {mg : Str → Option Value} {C_Listed C_BadNumber C_TooMany C_BadWish C_Unlike C_NoBuyers C_BadLot C_ShelfError : Addr} (T : Txt K mg C_Listed C_BadNumber C_TooMany C_BadWish C_Unlike C_NoBuyers C_BadLot C_ShelfError) : PySem.W.exmOne K (.ref C_BadNumber) (.ref C_NoBuyers) = some false := PySem.W.exm_ref T.b_NoBuyers T.hd_NoBuyers T.t_NoBuyers T.sub_BadNumber_NoBuyers
theorem Txt.exm_BadNumber_BadNumber {K : PySem.W.Frag} {mg : Str → Option Value} {C_Listed C_BadNumber C_TooMany C_BadWish C_Unlike C_NoBuyers C_BadLot C_ShelfError : Addr} (T : Txt K mg C_Listed C_BadNumber C_TooMany C_BadWish C_Unlike C_NoBuyers C_BadLot C_ShelfError) : PySem.W.exmOne K (.ref C_BadNumber) (.ref C_BadNumber) = some true := PySem.W.exm_ref T.b_BadNumber T.hd_BadNumber T.t_BadNumber T.sub_BadNumber_BadNumber
theorem Txt.exm_BadNumber_BadWish {K : PySem.W.Frag} {mg : Str → Option Value} {C_Listed C_BadNumber C_TooMany C_BadWish C_Unlike C_NoBuyers C_BadLot C_ShelfError : Addr} (T : Txt K mg C_Listed C_BadNumber C_TooMany C_BadWish C_Unlike C_NoBuyers C_BadLot C_ShelfError) : PySem.W.exmOne K (.ref C_BadNumber) (.ref C_BadWish) = some false := PySem.W.exm_ref T.b_BadWish T.hd_BadWish T.t_BadWish T.sub_BadNumber_BadWish
theorem Txt.exm_BadWish_TooMany {K : PySem.W.Frag} {mg : Str → Option Value} {C_Listed C_BadNumber C_TooMany C_BadWish C_Unlike C_NoBuyers C_BadLot C_ShelfError : Addr} (T : Txt K mg C_Listed C_BadNumber C_TooMany C_BadWish C_Unlike C_NoBuyers C_BadLot C_ShelfError) : PySem.W.exmOne K (.ref C_BadWish) (.ref C_TooMany) = some false := PySem.W.exm_ref T.b_TooMany T.hd_TooMany T.t_TooMany T.sub_BadWish_TooMany
theorem Txt.exm_BadWish_NoBuyers {K : PySem.W.Frag} {mg : Str → Option Value} {C_Listed C_BadNumber C_TooMany C_BadWish C_Unlike C_NoBuyers C_BadLot C_ShelfError : Addr} (T : Txt K mg C_Listed C_BadNumber C_TooMany C_BadWish C_Unlike C_NoBuyers C_BadLot C_ShelfError) : PySem.W.exmOne K (.ref C_BadWish) (.ref C_NoBuyers) = some false := PySem.W.exm_ref T.b_NoBuyers T.hd_NoBuyers T.t_NoBuyers T.sub_BadWish_NoBuyers
theorem Txt.exm_BadWish_BadNumber {K : PySem.W.Frag} {mg : Str → Option Value} {C_Listed C_BadNumber C_TooMany C_BadWish C_Unlike C_NoBuyers C_BadLot C_ShelfError : Addr} (T : Txt K mg C_Listed C_BadNumber C_TooMany C_BadWish C_Unlike C_NoBuyers C_BadLot C_ShelfError) : PySem.W.exmOne K (.ref C_BadWish) (.ref C_BadNumber) = some false := PySem.W.exm_ref T.b_BadNumber T.hd_BadNumber T.t_BadNumber T.sub_BadWish_BadNumber
theorem Txt.exm_BadWish_BadWish {K : PySem.W.Frag} {mg : Str → Option Value} {C_Listed C_BadNumber C_TooMany C_BadWish C_Unlike C_NoBuyers C_BadLot C_ShelfError : Addr} (T : Txt K mg C_Listed C_BadNumber C_TooMany C_BadWish C_Unlike C_NoBuyers C_BadLot C_ShelfError) : PySem.W.exmOne K (.ref C_BadWish) (.ref C_BadWish) = some true := PySem.W.exm_ref T.b_BadWish T.hd_BadWish T.t_BadWish T.sub_BadWish_BadWish
theorem Txt.exm_TooMany_ShelfError {K : PySem.W.Frag} {mg : Str → Option Value} {C_Listed C_BadNumber C_TooMany C_BadWish C_Unlike C_NoBuyers C_BadLot C_ShelfError : Addr} (T : Txt K mg C_Listed C_BadNumber C_TooMany C_BadWish C_Unlike C_NoBuyers C_BadLot C_ShelfError) : PySem.W.exmOne K (.ref C_TooMany) (.ref C_ShelfError) = some true := PySem.W.exm_ref T.b_ShelfError T.hd_ShelfError T.t_ShelfError T.sub_TooMany_ShelfError
theorem Txt.exm_NoBuyers_ShelfError {K : PySem.W.Frag} {mg : Str → Option Value} {C_Listed C_BadNumber C_TooMany C_BadWish C_Unlike C_NoBuyers C_BadLot C_ShelfError : Addr} (T : Txt K mg C_Listed C_BadNumber C_TooMany C_BadWish C_Unlike C_NoBuyers C_BadLot C_ShelfError) : PySem.W.exmOne K (.ref C_NoBuyers) (.ref C_ShelfError) = some true := PySem.W.exm_ref T.b_ShelfError T.hd_ShelfError T.t_ShelfError T.sub_NoBuyers_ShelfError
theorem Txt.exm_BadNumber_ShelfError {K : PySem.W.Frag} {mg : Str → Option Value} {C_Listed C_BadNumber C_TooMany C_BadWish C_Unlike C_NoBuyers C_BadLot C_ShelfError : Addr} (T : Txt K mg C_Listed C_BadNumber C_TooMany C_BadWish C_Unlike C_NoBuyers C_BadLot C_ShelfError) : PySem.W.exmOne K (.ref C_BadNumber) (.ref C_ShelfError) = some true := PySem.W.exm_ref T.b_ShelfError T.hd_ShelfError T.t_ShelfError T.sub_BadNumber_ShelfError
theorem Txt.exm_BadWish_ShelfError {K : PySem.W.Frag} {mg : Str → Option Value} {C_Listed C_BadNumber C_TooMany C_BadWish C_Unlike C_NoBuyers C_BadLot C_ShelfError : Addr} (T : Txt K mg C_Listed C_BadNumber C_TooMany C_BadWish C_Unlike C_NoBuyers C_BadLot C_ShelfError) : PySem.W.exmOne K (.ref C_BadWish) (.ref C_ShelfError) = some true := PySem.W.exm_ref T.b_ShelfError T.hd_ShelfError T.t_ShelfError T.sub_BadWish_ShelfError

/-- a def that is called by its name, with its promise -/
def Cal (P : Program) (w : World) (K : PySem.W.Frag) (mg : Str → Option Value) (base : Heap) (CX : CXT) (k : Nat) (x : Str) (ps : List Str) (sp : Sp) : Prop :=
  ∃ (f : Addr) (fd : FuncData), FnOk P w K mg base CX k f fd ps sp ∧ mg x = some (.ref f) ∧ PySem.W.keepIn K (.ref f) = true ∧ Binds K fd ps []
/-- an own class's __init__; dvs: what stands for the parameters that a short call leaves out -/
def CalI (P : Program) (w : World) (K : PySem.W.Frag) (mg : Str → Option Value) (base : Heap) (CX : CXT) (k : Nat) (C : Addr) (ps : List Str) (sp : Sp) (dvs : List V) : Prop :=
  ∃ (f : Addr) (fd : FuncData), FnOk P w K mg base CX k f fd ps sp ∧ Mk K C f ∧ Binds K fd ps [] ∧ ∃ ds, Vals dvs ds ∧ Binds K fd ps ds
/-- an own error's __init__ -/
def CalX (P : Program) (w : World) (K : PySem.W.Frag) (mg : Str → Option Value) (base : Heap) (CX : CXT) (k : Nat) (C : Addr) (ps : List Str) (sp : Sp) : Prop :=
  ∃ (f : Addr) (fd : FuncData), FnOk P w K mg base CX k f fd ps sp ∧ PySem.W.findIn K (.ref C) "__init__" = some (some (.ref f)) ∧ PySem.W.typeIn K (.ref f) = some (.type "function") ∧ Binds K fd ps []
/-- a method -/
def CalM (P : Program) (w : World) (K : PySem.W.Frag) (mg : Str → Option Value) (base : Heap) (CX : CXT) (k : Nat) (C : Addr) (m : Str) (ps : List Str) (sp : Sp) : Prop :=
  ∃ (f : Addr) (fd : FuncData), FnOk P w K mg base CX k f fd ps sp ∧ Meth K C m f ∧ Binds K fd ps []
section
variable {P : Program} {w : World} {K : PySem.W.Frag} {mg : Str → Option Value} {base : Heap}
def sp_BadNumber___init__ (C : Addr) : Sp := fun vs H Q _ => ∃ (a : Addr) (x y : V), vs = [.ref a, x, y] ∧ H a = some (exo a C none) ∧ ∀ dx, H dx = none → dx ≠ a → Q .non (errH H a C dx "what" "at" x y)
theorem ok_BadNumber___init__ {f : Addr} {fd : FuncData} {C_Listed C_BadNumber C_TooMany C_BadWish C_Unlike C_NoBuyers C_BadLot C_ShelfError : Addr} (F : Fun K "__init__" "BadNumber.__init__" s_BadNumber___init__ f fd) (T : Txt K mg C_Listed C_BadNumber C_TooMany C_BadWish C_Unlike C_NoBuyers C_BadLot C_ShelfError) : FnOk P w K mg base CX0 1 f fd ["self", "what", "at"] (sp_BadNumber___init__ C_BadNumber) := by
  refine F.ok sc_BadNumber___init__ (fun vs H Q E h => ?_) (fun cdv A outer s H vs Q E hr h => ?_)
  · obtain ⟨a, x, y, rfl, _⟩ := h
    rfl
  · obtain ⟨a, x, y, rfl, ha, q⟩ := h
    refine ⟨_, (pss_cons (ps_ost (pv 0) (pv 1))
      (pss_one (ps_ost (pv 0) (pv 2)))), ?_⟩
    refine ⟨_, rfl, _, rfl, a, C_BadNumber, rfl, T.ox_BadNumber, T.n_BadNumber_what, .inl ⟨ha, fun dx nd ne => ?_⟩⟩
    exact ⟨_, rfl, _, rfl, a, C_BadNumber, rfl, T.ox_BadNumber, T.n_BadNumber_at, .inr ⟨dx, _, upd_same, (upd_ne ne).trans upd_same, by show 1 ≤ 900; decide, q dx nd ne⟩⟩
def sp_TooMany___init__ (C : Addr) : Sp := fun vs H Q _ => ∃ (a : Addr) (x y : V), vs = [.ref a, x, y] ∧ H a = some (exo a C none) ∧ ∀ dx, H dx = none → dx ≠ a → Q .non (errH H a C dx "many" "most" x y)
theorem ok_TooMany___init__ {f : Addr} {fd : FuncData} {C_Listed C_BadNumber C_TooMany C_BadWish C_Unlike C_NoBuyers C_BadLot C_ShelfError : Addr} (F : Fun K "__init__" "TooMany.__init__" s_TooMany___init__ f fd) (T : Txt K mg C_Listed C_BadNumber C_TooMany C_BadWish C_Unlike C_NoBuyers C_BadLot C_ShelfError) : FnOk P w K mg base CX0 1 f fd ["self", "many", "most"] (sp_TooMany___init__ C_TooMany) := by
  refine F.ok sc_TooMany___init__ (fun vs H Q E h => ?_) (fun cdv A outer s H vs Q E hr h => ?_)
  · obtain ⟨a, x, y, rfl, _⟩ := h
    rfl
  · obtain ⟨a, x, y, rfl, ha, q⟩ := h
    refine ⟨_, (pss_cons (ps_ost (pv 0) (pv 1))
      (pss_one (ps_ost (pv 0) (pv 2)))), ?_⟩
    refine ⟨_, rfl, _, rfl, a, C_TooMany, rfl, T.ox_TooMany, T.n_TooMany_many, .inl ⟨ha, fun dx nd ne => ?_⟩⟩
    exact ⟨_, rfl, _, rfl, a, C_TooMany, rfl, T.ox_TooMany, T.n_TooMany_most, .inr ⟨dx, _, upd_same, (upd_ne ne).trans upd_same, by show 1 ≤ 900; decide, q dx nd ne⟩⟩
def sp_BadWish___init__ (C : Addr) : Sp := fun vs H Q _ => ∃ (a : Addr) (x : V), vs = [.ref a, x] ∧ H a = some (exo a C none) ∧ ∀ dx, H dx = none → dx ≠ a → Q .non (errH1 H a C dx "at" x)
theorem ok_BadWish___init__ {f : Addr} {fd : FuncData} {C_Listed C_BadNumber C_TooMany C_BadWish C_Unlike C_NoBuyers C_BadLot C_ShelfError : Addr} (F : Fun K "__init__" "BadWish.__init__" s_BadWish___init__ f fd) (T : Txt K mg C_Listed C_BadNumber C_TooMany C_BadWish C_Unlike C_NoBuyers C_BadLot C_ShelfError) : FnOk P w K mg base CX0 1 f fd ["self", "at"] (sp_BadWish___init__ C_BadWish) := by
  refine F.ok sc_BadWish___init__ (fun vs H Q E h => ?_) (fun cdv A outer s H vs Q E hr h => ?_)
  · obtain ⟨a, x, rfl, _⟩ := h
    rfl
  · obtain ⟨a, x, rfl, ha, q⟩ := h
    refine ⟨_, (pss_one (ps_ost (pv 0) (pv 1))), ?_⟩
    exact ⟨_, rfl, _, rfl, a, C_BadWish, rfl, T.ox_BadWish, T.n_BadWish_at, .inl ⟨ha, fun dx nd ne => q dx nd ne⟩⟩
def sp_check_many (CT : Addr) : Sp := fun vs H Q E => ∃ m n : Int, vs = [.int m, .int n] ∧ (m > n → ∀ d, H d = none → E (.ref CT) (some d) (upd H d (.xd [("most", .int n), ("many", .int m)]))) ∧ (¬ m > n → Q .non H)
theorem ok_check_many {f : Addr} {fd : FuncData} {C_Listed C_BadNumber C_TooMany C_BadWish C_Unlike C_NoBuyers C_BadLot C_ShelfError : Addr} (F : Fun K "check_many" "check_many" s_check_many f fd) (T : Txt K mg C_Listed C_BadNumber C_TooMany C_BadWish C_Unlike C_NoBuyers C_BadLot C_ShelfError) (c_TooMany___init__ : CalX P w K mg base CX0 1 C_TooMany ["self", "many", "most"] (sp_TooMany___init__ C_TooMany)) : FnOk P w K mg base (L2.CX P w) 3 f fd ["many", "most"] (sp_check_many C_TooMany) := by
  refine F.okX sc_check_many (fun vs H Q E h => ?_) (fun cdv A outer s H vs Q E hr h => ?_)
  · obtain ⟨m, n, rfl, _⟩ := h
    rfl
  · obtain ⟨m, n, rfl, kE, q⟩ := h
    obtain ⟨f_TooMany___init__, fd_TooMany___init__, G_TooMany___init__, ic_TooMany___init__, ti_TooMany___init__, b_TooMany___init__⟩ := c_TooMany___init__
    refine ⟨_, (pss_one (ps_if (pt_cmpR op_gt (pv 0) (pv 1) (nomark _)) (pss_one (ps_raise rfl (takes_of rfl rfl rfl rfl) (pmk_oex T.ox_TooMany ic_TooMany___init__ ti_TooMany___init__ G_TooMany___init__ (hr.mono (by decide)) b_TooMany___init__ .nil pass0 (by exact rfl) T.g_TooMany (pa_cons (pv 0) (pa_cons (pv 1) pa_nil))))) pss_nil)), ?_⟩
    refine ⟨_, rfl, _, rfl, _, _, rfl, rfl, _, rfl, ite2 (fun e => ?_) (fun e => q fun z => e (decide_eq_true z))⟩
    exact ⟨_, rfl, _, rfl, (by show 2 ≤ 1000; decide), fun a na => ⟨a, _, _, rfl, upd_same, fun dx nd ne => raise2 (kE (of_decide_eq_true e)) na nd ne⟩⟩
def sp_Rule___init__ (C CT : Addr) : Sp := fun vs H Q E => ∃ (p dx : Addr) (fs : List (Str × V)) (m : Int), vs = [.ref p, .int m] ∧ H p = some (.ins C dx fs) ∧ fs.length ≤ 900 ∧ (m > 24 → ∀ d, H d = none → E (.ref CT) (some d) (upd H d (.xd [("most", .int 24), ("many", .int m)]))) ∧ (¬ m > 24 → Q .non (upd H p (.ins C dx (putF "many" (.int m) fs))))
theorem ok_Rule___init__ {f : Addr} {fd : FuncData} {C_Listed C_BadNumber C_TooMany C_BadWish C_Unlike C_NoBuyers C_BadLot C_ShelfError : Addr} (F : Fun K "__init__" "Rule.__init__" s_Rule___init__ f fd) (T : Txt K mg C_Listed C_BadNumber C_TooMany C_BadWish C_Unlike C_NoBuyers C_BadLot C_ShelfError) (c_check_many : Cal P w K mg base (L2.CX P w) 3 "check_many" ["many", "most"] (sp_check_many C_TooMany)) : FnOk P w K mg base (L2.CX P w) 4 f fd ["self", "many"] (sp_Rule___init__ C_Listed C_TooMany) := by
  refine F.okX sc_Rule___init__ (fun vs H Q E h => ?_) (fun cdv A outer s H vs Q E hr h => ?_)
  · obtain ⟨p, dx, fs, m, rfl, _⟩ := h
    rfl
  · obtain ⟨p, dx, fs, m, rfl, hp, hl, kE, q⟩ := h
    obtain ⟨f_check_many, fd_check_many, G_check_many, m_check_many, k_check_many, b_check_many⟩ := c_check_many
    refine ⟨_, (pss_cons (ps_expr (pe_call G_check_many (hr.mono (by decide)) (by rfl) m_check_many k_check_many b_check_many .nil (passes_call (takes_of rfl rfl rfl rfl) (fun _ _ _ _ h => h)) (pa_cons (pv 1) (pa_cons (pe_glob (v := .int 24) (by rfl) T.g_MOST_THINGS.choose_spec ⟨_, rfl⟩) pa_nil))))
      (pss_one (ps_fld (pv 0) (pv 1) rfl))), ?_⟩
    refine ⟨_, rfl, m, 24, rfl, kE, fun e => ?_⟩
    exact ⟨_, rfl, _, rfl, p, C_Listed, dx, fs, rfl, hp, T.cl_Listed, T.n_Listed_many, by omega, q e⟩
def sp__can_be_wished (K : PySem.W.Frag) : Sp := fun vs H Q _ => ∃ (t : Addr) (ns : List Int), vs = [.ref t] ∧ SqT K H t (ns.map V.int) ∧ ns.length < 64 ∧ (Good ns → ∀ H', Same H H' → Q (.bl true) H') ∧ (¬ Good ns → ∀ H', Same H H' → Q (.bl false) H')
theorem ok__can_be_wished {f : Addr} {fd : FuncData} {C_Listed C_BadNumber C_TooMany C_BadWish C_Unlike C_NoBuyers C_BadLot C_ShelfError : Addr} (F : Fun K "_can_be_wished" "_can_be_wished" s__can_be_wished f fd) (T : Txt K mg C_Listed C_BadNumber C_TooMany C_BadWish C_Unlike C_NoBuyers C_BadLot C_ShelfError) (m_all : mg "all" = none) (m_len : mg "len" = none) (m_set : mg "set" = none) : FnOk P w K mg base CX0 1 f fd ["things"] (sp__can_be_wished K) := by
  refine F.ok sc__can_be_wished (fun vs H Q E h => ?_) (fun cdv A outer s H vs Q E hr h => ?_)
  · obtain ⟨t, ns, rfl, _⟩ := h
    rfl
  · obtain ⟨t, ns, rfl, ht, nl, qt, qf⟩ := h
    refine ⟨_, (pss_one (ps_ret (pe_and (pe_cmpR op_eq (pe_lenSetT rfl (by rfl) m_len (by rfl) m_set (pv 0)) (pe_callB call_len_seq (by rfl) m_len (by decide +kernel) (pa_cons (pv 0) pa_nil)) (nomark _)) (pe_one (pe_callB (cr_all rfl) (by rfl) m_all (by decide +kernel) (pa_cons (pe_lc (own := [("thing", 1)]) (g := (gName 1)) (tt := tYes) rfl sc__can_be_wished.nd (pi_tup (pv 0)) (blkOk_by (own := [("thing", 1)]) (N := ["things", "thing"]) (sc := defScope s__can_be_wished) (by decide +kernel)) (fun _ _ _ _ _ => (pg_name (i := 1) sc__can_be_wished.nd rfl (Or.inl rfl))) (fun _ _ _ _ _ => pts_nil) (fun _ _ _ _ _ => (pe_cmpR op_ge (pv 1) pe_int (nomark _)))) pa_nil)))))), ?_⟩
    refine ⟨_, rfl, t, ns, rfl, ht, nl, fun c hc => ?_⟩
    refine ⟨_, rfl, t, _, rfl, .inr (ht), rfl, _, rfl, ?_⟩
    rw [List.length_map]
    refine ite2 (fun e => ?_) (fun e => ?_)
    · have nd : ns.Nodup := hc.mp (by
        have := V.int.inj (of_decide_eq_true e)
        omega)
      refine ⟨_, rfl, t, rfl, ⟨_, ht⟩, fun D nD => lc_tup (K := K) (a := t) (xs := ns.map V.int) (fun i H2 => Same H H2 ∧ H2 D = some (.lst (((ns.take i).map fun n => decide (n ≥ 0)).map V.bl))) ⟨same_upd nD, upd_same⟩ (fun i H2 _ ⟨s, _⟩ => same_tup s ht) ?_ ?_⟩
      · rintro i x H2 hi ⟨s, hD⟩
        obtain ⟨n, rfl, hin⟩ := int_of hi
        refine ⟨rfl, ?_⟩
        refine lc_yes ?_
        refine iteT ?_
        refine ⟨_, rfl, _, _, rfl, rfl, _, hD, ?_, same_mut s nD, ?_⟩
        · rw [List.length_map, List.length_map, List.length_take]
          exact small1000 (by omega)
        · rw [upd_same, List.take_add_one, hin, List.map_append, List.map_append]
          rfl
      · rintro H2 ⟨s, hD⟩
        rw [List.length_map, List.take_length] at hD
        refine ⟨D, _, rfl, lst_l hD, ?_⟩
        cases e2 : (ns.map fun n => decide (n ≥ 0)).all id with
        | true => exact qt (good_iff_all.mp ⟨nd, e2⟩) H2 s
        | false => exact qf (fun g => by
            have := (good_iff_all.mpr g).2
            rw [e2] at this
            cases this) H2 s
    · have nn : ¬ ns.Nodup := fun nd => e (by
        rw [hc.mpr nd]
        exact decide_eq_true rfl)
      exact qf (fun g => nn g.1) H (Same.refl H)
def sp_Listed___init__ (C CT CN CB CW : Addr) : Sp := fun vs H Q E => ∃ (p dx L : Addr) (us : List Addr) (pw : List (Int × List Int)) (m : Int), vs = [.ref p, .int m, .ref L] ∧ H p = some (.ins C dx []) ∧ H L = some (.lst (us.map V.ref)) ∧ RowW H us pw ∧ us.length ≤ 900 ∧ (∀ w ∈ pw, w.2.length < 64) ∧
  (∀ n, dueL m pw = .many n → ∀ H' d, SameX p H H' → H' d = some (.xd [("most", .int 24), ("many", .int n)]) → E (.ref CT) (some d) H') ∧ (dueL m pw = .none → ∀ H', SameX p H H' → E (.ref CN) none H') ∧
  (∀ k, dueL m pw = .num k → ∀ H' d, SameX p H H' → H' d = some (.xd [("at", .int (k : Int)), ("what", .str "buyers")]) → E (.ref CB) (some d) H') ∧ (∀ k, dueL m pw = .wish k → ∀ H' d, SameX p H H' → H' d = some (.xd [("at", .int (k : Int))]) → E (.ref CW) (some d) H') ∧
  (dueL m pw = .made → ∀ H', SameX p H H' → LAt C H' p m pw → Q .non H')
theorem sc_Listed___init__ : MScope ["self", "many", "wishes", "__class__", "number", "buyers", "things", "thing"] ["self", "many", "wishes"] (defScope s_Listed___init__) := mscope_by (by decide +kernel)
theorem ok_Listed___init__ {f cc cda g_Rule : Addr} {fd : FuncData} {file : Str} {C_Listed C_BadNumber C_TooMany C_BadWish C_Unlike C_NoBuyers C_BadLot C_ShelfError : Addr} (F : FunS K "__init__" "Listed.__init__" s_Listed___init__ cc cda f fd) (SC : SupC K mg C_Listed C_Listed cc cda g_Rule file) (hfile : ((P.main.file : Str) == file) = true) (htop : (P.main.scope.names.lookup ("super" : Str)).isSome = false) (T : Txt K mg C_Listed C_BadNumber C_TooMany C_BadWish C_Unlike C_NoBuyers C_BadLot C_ShelfError) (m_any : mg "any" = none) (m_enumerate : mg "enumerate" = none) (m_len : mg "len" = none) (m_tuple : mg "tuple" = none) (c_Rule___init__ : ∃ fd : FuncData, FnOk P w K mg base (L2.CX P w) 4 g_Rule fd ["self", "many"] (sp_Rule___init__ C_Listed C_TooMany) ∧ Binds K fd ["self", "many"] []) (c__can_be_wished : Cal P w K mg base CX0 1 "_can_be_wished" ["things"] (sp__can_be_wished K)) (c_BadNumber___init__ : CalX P w K mg base CX0 1 C_BadNumber ["self", "what", "at"] (sp_BadNumber___init__ C_BadNumber)) (c_BadWish___init__ : CalX P w K mg base CX0 1 C_BadWish ["self", "at"] (sp_BadWish___init__ C_BadWish)) : FnOk P w K mg base (L2.CX P w) 5 f fd ["self", "many", "wishes"] (sp_Listed___init__ C_Listed C_TooMany C_NoBuyers C_BadNumber C_BadWish) := by
  obtain ⟨fd_Rule___init__, G_Rule___init__, b_Rule___init__⟩ := c_Rule___init__
  obtain ⟨f__can_be_wished, fd__can_be_wished, G__can_be_wished, m__can_be_wished, k__can_be_wished, b__can_be_wished⟩ := c__can_be_wished
  obtain ⟨f_BadNumber___init__, fd_BadNumber___init__, G_BadNumber___init__, ic_BadNumber___init__, ti_BadNumber___init__, b_BadNumber___init__⟩ := c_BadNumber___init__
  obtain ⟨f_BadWish___init__, fd_BadWish___init__, G_BadWish___init__, ic_BadWish___init__, ti_BadWish___init__, b_BadWish___init__⟩ := c_BadWish___init__
  obtain ⟨⟨oc, od, kV, doc, pm, an, ct, osl, rfl, lk, hcd⟩, _⟩ := F
  refine fn_atC (D := C_Listed) lk hcd sc_Listed___init__ SC.cell (fun vs H Q E h => ?_) (fun A outer s H vs Q E hr h => ?_)
  · obtain ⟨p, dx, L, us, pw, m, rfl, _⟩ := h
    rfl
  · obtain ⟨p, dx, L, us, pw, m, rfl, hp, hL, row, ul, lw, kM, kN, kB, kW, q⟩ := h
    refine ⟨_, (psas_cons (psa_expr (pea_super lk ⟨SC.isD, SC.sub, SC.cell, SC.code, SC.sup, SC.tg, SC.fg, SC.opq, SC.nosup⟩ hfile htop rfl rfl rfl rfl rfl rfl rfl rfl rfl rfl rfl G_Rule___init__ b_Rule___init__ (hr.mono (by decide)) (passes_call (takes_of rfl rfl rfl rfl) (fun _ _ _ _ h => h)) (pa_cons (pv 1) pa_nil) rfl rfl rfl rfl))
      (psas_pss (pss_cons (ps_if (pt_cmpR op_eq (pe_callB call_len_seq (by rfl) m_len (by decide +kernel) (pa_cons (pv 2) pa_nil)) pe_int (nomark _)) (pss_one (ps_raise rfl (takes_of rfl rfl rfl rfl) (pmk_own PySem.F.excBase_ValueError T.x_NoBuyers T.g_NoBuyers T.kc_NoBuyers (raises_own T.b_NoBuyers T.t_NoBuyers) (by exact rfl)))) pss_nil)
      (pss_cons (ps_for (passes_of rfl) rfl (pi_enum (by rfl) m_enumerate (pa_cons (pv 2) pa_nil)) (pg_tup rfl (pgs_cons (pg_name (i := 4) sc_Listed___init__.nd rfl (Or.inl rfl)) (pgs_cons (pg_tup rfl (pgs_cons (pg_name (i := 5) sc_Listed___init__.nd rfl (Or.inl rfl)) (pgs_cons (pg_name (i := 6) sc_Listed___init__.nd rfl (Or.inl rfl)) pgs_nil))) pgs_nil)))
      (pss_cons (ps_if (pt_cmpR op_lt (pv 5) pe_int (nomark _)) (pss_one (ps_raise rfl (takes_of rfl rfl rfl rfl) (pmk_oex T.ox_BadNumber ic_BadNumber___init__ ti_BadNumber___init__ G_BadNumber___init__ (hr.mono (by decide)) b_BadNumber___init__ .nil pass0 (by exact rfl) T.g_BadNumber (pa_cons pe_str (pa_cons (pv 4) pa_nil))))) pss_nil)
      (pss_one (ps_if (PW.pt (pw_or (pt_not (pt_val (pe_call G__can_be_wished (hr.mono (by decide)) (by rfl) m__can_be_wished k__can_be_wished b__can_be_wished .nil pass0 (pa_cons (pv 6) pa_nil)))) (pw_or1 (pt_val (pe_callB (cr_any rfl) (by rfl) m_any (by decide +kernel) (pa_cons (pe_lc (own := [("thing", 7)]) (g := (gName 7)) (tt := tYes) rfl sc_Listed___init__.nd (pi_tup (pv 6)) (blkOk_by (own := [("thing", 7)]) (N := ["self", "many", "wishes", "__class__", "number", "buyers", "things", "thing"]) (sc := defScope s_Listed___init__) (by decide +kernel)) (fun _ _ _ _ _ => (pg_name (i := 7) sc_Listed___init__.nd rfl (Or.inl rfl))) (fun _ _ _ _ _ => pts_nil) (fun _ _ _ _ _ => (pe_cmpR op_ge (pv 7) (pv 1) (nomark _)))) pa_nil)))))) (pss_one (ps_raise rfl (takes_of rfl rfl rfl rfl) (pmk_oex T.ox_BadWish ic_BadWish___init__ ti_BadWish___init__ G_BadWish___init__ (hr.mono (by decide)) b_BadWish___init__ .nil pass0 (by exact rfl) T.g_BadWish (pa_cons (pv 4) pa_nil)))) pss_nil))))
      (pss_one (ps_fld (pv 0) (pe_callTy call_tuple_of (by rfl) m_tuple (by decide +kernel) (pa_cons (pe_lc (own := [("buyers", 5), ("things", 6)]) (g := (gTup K 2 (gCons (gName 5) (gCons (gName 6) gNil)))) (tt := tYes) rfl sc_Listed___init__.nd (pi_list (pv 2)) (blkOk_by (own := [("buyers", 5), ("things", 6)]) (N := ["self", "many", "wishes", "__class__", "number", "buyers", "things", "thing"]) (sc := defScope s_Listed___init__) (by decide +kernel)) (fun _ _ _ _ _ => (pg_tup rfl (pgs_cons (pg_name (i := 5) sc_Listed___init__.nd rfl (Or.inl rfl)) (pgs_cons (pg_name (i := 6) sc_Listed___init__.nd rfl (Or.inl rfl)) pgs_nil)))) (fun _ _ _ _ _ => pts_nil) (fun _ _ _ _ _ => (pe_tup (pa_cons (pv 5) (pa_cons (pe_callTy (T := "tuple") (r := rTupOf K) call_tuple_of (by rfl) m_tuple (by decide +kernel) (pa_cons (pv 6) pa_nil)) pa_nil))))) pa_nil)) rfl)))))), ?_⟩
    refine ⟨p, dx, [], rfl, hp, _, rfl, p, dx, [], m, rfl, hp, Nat.zero_le _, fun e d nd => kM m (due_many e) _ d (SameX.new nd) upd_same, fun e24 => ?_⟩
    have x1 : SameX p H (upd H p (.ins C_Listed dx (putF "many" (.int m) []))) := SameX.put
    have hp1 : upd H p (.ins C_Listed dx (putF "many" (.int m) [])) p = some (.ins C_Listed dx (putF "many" (.int m) [])) := upd_same
    generalize upd H p (.ins C_Listed dx (putF "many" (.int m) [])) = H1 at x1 hp1 ⊢
    have hL1 := lst_sx hp x1 hL
    have row1 := row.sx hp x1
    have rl := row.1
    refine ⟨_, rfl, L, _, rfl, .inl (lst_l hL1), rfl, _, rfl, ite2 (fun c => ?_) (fun c => ?_)⟩
    · have c := V.int.inj (of_decide_eq_true c)
      rw [List.length_map] at c
      exact kN (due_none e24 (by omega)) _ x1
    have c0 : ¬ pw.length = 0 := fun z => c (decide_eq_true (congrArg V.int (by rw [List.length_map]; omega)))
    have dr := due_rest (pw := pw) e24 c0
    refine ⟨_, rfl, L, _, rfl, lst_l hL1, ?_⟩
    refine for_it (walk_enum (K := K) (a := L) (xs := us.map V.ref)) (fun i σ H2 => ∃ y1 y2 y3 : Option V, σ = [some (.ref p), some (.int m), some (.ref L), none, y1, y2, y3, none] ∧ Same H1 H2 ∧ badL m pw 0 = badL m (pw.drop i) i) ⟨none, none, none, rfl, Same.refl _, rfl⟩ ?_ ?_ ?_
    · rintro i σ H2 _ ⟨_, _, _, _, sx, _⟩
      exact lst_l (sx L _ hL1)
    · rintro i x σ H2 H3 hi ⟨y1, y2, y3, rfl, sx, hb⟩ ⟨tp, ix, nx, rfl, ntp, rfl, e1, e2⟩
      cases e1
      rw [List.length_map] at hi
      have h1 : us[i]? = some us[i] := List.getElem?_eq_getElem hi
      have h2 : pw[i]? = some pw[i] := List.getElem?_eq_getElem (by omega)
      have e2 : (us.map V.ref)[i]? = some nx := e2
      rw [List.getElem?_map, h1] at e2
      cases e2
      have hd := drop_pair h2
      have s3 := sx.trans (same_upd (o := .tup [V.int i, V.ref us[i]]) ntp)
      obtain ⟨l, hu, hl⟩ := (row1.2 i _ _ h1 h2).same s3
      have l64 := lw _ (List.mem_of_getElem? h2)
      generalize pw[i] = w at hu hl hd h2 l64
      obtain ⟨b, ns⟩ := w
      have l64 : ns.length < 64 := l64
      rw [hd] at hb
      refine ⟨tp, _, rfl, tup_t upd_same, rfl, _, _, rfl, _, _, rfl, us[i], _, rfl, tup_t hu, rfl, _, _, rfl, _, _, rfl, rfl, rfl, ?_⟩
      generalize upd H2 tp (.tup [V.int i, V.ref us[i]]) = H3 at s3 hu hl ⊢
      refine ⟨_, rfl, _, _, rfl, rfl, _, rfl, ite2 (fun c => ?_) (fun c => ?_)⟩
      · have c : b < 1 := of_decide_eq_true c
        exact ⟨_, rfl, (by show 2 ≤ 1000; decide), fun a na => ⟨a, _, _, rfl, upd_same, fun dx2 nd ne => raise2 (fun d nd => kB i (by rw [dr, hb, badL_num c]) _ _ (x1.trans (same_sx (s3.trans (same_upd nd)))) upd_same) na nd ne⟩⟩
      have c : ¬ b < 1 := fun z => c (decide_eq_true z)
      refine ⟨_, rfl, l, ns, rfl, hl.sq, l64, fun g H4 s4 => ⟨true, rfl, iteF ?_⟩, fun g H4 s4 => ⟨false, rfl, iteT ?_⟩⟩
      · have hl4 := hl.same s4
        have s34 := s3.trans s4
        refine ⟨_, rfl, l, rfl, ⟨_, hl4.sq⟩, fun D nD => lc_tup (K := K) (a := l) (xs := ns.map V.int) (fun i H5 => Same H4 H5 ∧ H5 D = some (.lst (((ns.take i).map fun n => decide (n ≥ m)).map V.bl))) ⟨same_upd nD, upd_same⟩ (fun i H5 _ ⟨s, _⟩ => (hl4.same s).sq) ?_ ?_⟩
        · rintro j x H5 hj ⟨s, hD⟩
          obtain ⟨n, rfl, hjn⟩ := int_of hj
          refine ⟨rfl, ?_⟩
          refine lc_yes ?_
          refine iteT ?_
          refine ⟨_, rfl, _, rfl, _, _, rfl, rfl, _, hD, ?_, same_mut s nD, ?_⟩
          · rw [List.length_map, List.length_map, List.length_take]
            exact small1000 (by omega)
          · rw [upd_same, List.take_add_one, hjn, List.map_append, List.map_append]
            rfl
        · rintro H5 ⟨s, hD⟩
          rw [List.length_map, List.take_length] at hD
          refine ⟨D, _, rfl, lst_l hD, _, rfl, ite2 (fun c2 => ?_) (fun c2 => ?_)⟩
          · have nf : ¬ FitW m ns := fun z => by
              rw [ge_any.mpr z.2] at c2
              cases c2
            exact ⟨_, rfl, (by show 1 ≤ 1000; decide), fun a na => ⟨a, _, rfl, upd_same, fun dx2 nd ne => raise1 (fun d nd => kW i (by rw [dr, hb, badL_wish c nf]) _ _ (x1.trans (same_sx ((s34.trans s).trans (same_upd nd)))) upd_same) na nd ne⟩⟩
          · have ft : FitW m ns := ⟨g, ge_any.mp (by
              cases e : (ns.map fun n => decide (n ≥ m)).any id with
              | false => rfl
              | true => exact absurd e c2)⟩
            exact ⟨_, _, _, rfl, s34.trans s, by rw [hb, badL_next c ft]⟩
      · exact ⟨_, rfl, (by show 1 ≤ 1000; decide), fun a na => ⟨a, _, rfl, upd_same, fun dx2 nd ne => raise1 (fun d nd => kW i (by rw [dr, hb, badL_wish c (fun z => g z.1)]) _ _ (x1.trans (same_sx ((s3.trans s4).trans (same_upd nd)))) upd_same) na nd ne⟩⟩
    · rintro σ H2 ⟨y1, y2, y3, rfl, sx, hb⟩
      rw [List.length_map, rl, List.drop_length] at hb
      have mk : dueL m pw = .made := by rw [dr, hb]; rfl
      have hL2 := sx _ _ hL1
      have row2 := row1.same sx
      refine ⟨_, rfl, L, rfl, ⟨_, lst_l hL2⟩, fun D nD => lc_list (K := K) (a := L) (xs := us.map V.ref) (fun i H7 => ∃ zs : List Addr, Same H2 H7 ∧ H7 D = some (.lst (zs.map V.ref)) ∧ zs.length = i ∧ ∀ (j : Nat) (u : Addr) (w : Int × List Int), zs[j]? = some u → pw[j]? = some w → PairW H7 u w) ⟨[], same_upd nD, upd_same, rfl, fun j u ws h => by cases h⟩ (fun i H7 _ ⟨_, s, _⟩ => lst_l (s _ _ hL2)) ?_ ?_⟩
      · rintro i x H7 hi ⟨zs, s7, hD, lz, hz⟩
        have i1 : i < us.length := by
          have := (List.getElem?_eq_some_iff.mp hi).1
          rw [List.length_map] at this
          exact this
        have h1 : us[i]? = some us[i] := List.getElem?_eq_getElem i1
        have h2 : pw[i]? = some pw[i] := List.getElem?_eq_getElem (by omega)
        rw [List.getElem?_map, h1] at hi
        cases hi
        obtain ⟨l, hu, hl⟩ := (row2.2 i _ _ h1 h2).same s7
        refine ⟨us[i], _, rfl, tup_t hu, rfl, _, _, rfl, _, _, rfl, rfl, rfl, ?_⟩
        refine lc_yes ?_
        refine iteT ?_
        refine ⟨_, rfl, _, rfl, l, _, rfl, .inr ⟨hl.sq, (by show 2 ≤ sizeLine; decide), fun u nu => ?_⟩⟩
        have ne : D ≠ u := ne_of_none hD nu
        refine ⟨_, (upd_ne ne).trans hD, ?_, zs ++ [u], same_mut (s7.trans (same_upd nu)) nD, ?_, ?_, fun j v w h hw => ?_⟩
        · rw [List.length_map]
          exact small1000 (by omega)
        · rw [upd_same, List.map_append]
          rfl
        · rw [List.length_append, lz]
          rfl
        · obtain ⟨ol, hl, dl⟩ := hl
          have lD : l ≠ D := fun z => by
            rw [z, hD] at hl
            cases hl
          by_cases hj : j < zs.length
          · rw [List.getElem?_append_left hj] at h
            obtain ⟨l2, a1, o2, a2, d2⟩ := hz j v w h hw
            have n1 : v ≠ D := fun z => by
              rw [z, hD] at a1
              cases a1
            have n2 : l2 ≠ D := fun z => by
              rw [z, hD] at a2
              cases a2
            exact ⟨l2, by rw [upd_ne n1, upd_ne (ne_of_none a1 nu)]; exact a1, o2, by rw [upd_ne n2, upd_ne (ne_of_none a2 nu)]; exact a2, d2⟩
          · rw [List.getElem?_append_right (by omega)] at h
            obtain ⟨k, hk⟩ : ∃ k, j - zs.length = k := ⟨_, rfl⟩
            rw [hk] at h
            cases k with
            | zero =>
              have : j = i := by omega
              subst this
              cases h
              rw [h2] at hw
              cases hw
              exact ⟨l, by rw [upd_ne (Ne.symm ne), upd_same], ol, by rw [upd_ne lD, upd_ne (ne_of_none hl nu)]; exact hl, dl⟩
            | succ k => cases h
      · rintro H7 ⟨zs, s7, hD, lz, hz⟩
        rw [List.length_map] at lz
        refine ⟨D, _, rfl, .inl ⟨lst_l hD, fun t nt => ?_⟩⟩
        have hp7 := s7 _ _ (sx _ _ hp1)
        have s8 := (sx.trans s7).trans (same_upd (o := .tup (zs.map V.ref)) nt)
        have pt : t ≠ p := fun z => by
          rw [z, hp7] at nt
          cases nt
        refine ⟨_, rfl, p, C_Listed, dx, _, rfl, (upd_ne (Ne.symm pt)).trans hp7, T.cl_Listed, T.n_Listed_wishes, (by show 1 < 1000; decide), ?_⟩
        have x9 : SameX p (upd H7 t (.tup (zs.map V.ref))) (upd (upd H7 t (.tup (zs.map V.ref))) p (.ins C_Listed dx (fL m t))) := SameX.put
        refine q mk _ ((x1.trans (same_sx s8)).trans x9) ⟨dx, t, zs, upd_same, x9 _ _ pt upd_same, by omega, fun j u w h hw => ?_⟩
        obtain ⟨l2, a1, o2, a2, d2⟩ := (hz j u w h hw).same (same_upd (o := .tup (zs.map V.ref)) nt)
        refine ⟨l2, x9 _ _ (fun z => ?_) a1, o2, x9 _ _ (fun z => ?_) a2, d2⟩
        · rw [z, (upd_ne (Ne.symm pt)).trans hp7] at a1
          cases a1
        · rw [z, (upd_ne (Ne.symm pt)).trans hp7] at a2
          cases a2
def sp__law_cell (K : PySem.W.Frag) : Sp := fun vs H Q _ => ∃ (a : Addr) (ns : List Int) (j : Nat), vs = [.ref a, .int (j : Int)] ∧ SqL K H a (ns.map V.int) ∧ ∀ v : Int, Q (.int v) H
theorem ok__law_cell {f : Addr} {fd : FuncData} {C_Listed C_BadNumber C_TooMany C_BadWish C_Unlike C_NoBuyers C_BadLot C_ShelfError : Addr} (F : Fun K "_law_cell" "_law_cell" s__law_cell f fd) (T : Txt K mg C_Listed C_BadNumber C_TooMany C_BadWish C_Unlike C_NoBuyers C_BadLot C_ShelfError) (m_int : mg "int" = none) (m_len : mg "len" = none) : FnOk P w K mg base CX0 1 f fd ["_law_script", "_law_place"] (sp__law_cell K) := by
  refine F.ok sc__law_cell (fun vs H Q E h => ?_) (fun cdv A outer s H vs Q E hr h => ?_)
  · obtain ⟨a, ns, j, rfl, _⟩ := h
    rfl
  · obtain ⟨a, ns, j, rfl, hS, q⟩ := h
    refine ⟨_, (pss_cons (ps_if (pt_cmpR op_lt (pv 1) (pe_callB call_len_seq (by rfl) m_len (by decide +kernel) (pa_cons (pv 0) pa_nil)) (nomark _)) (pss_one (ps_ret (pe_callTy call_int1 (by rfl) m_int (by decide +kernel) (pa_cons (pe_ix ix_list (pv 0) (pv 1) (fun _ _ => rfl)) pa_nil)))) pss_nil)
      (pss_one (ps_ret pe_int))), ?_⟩
    refine ⟨_, rfl, .ref a, rfl, a, _, rfl, .inl hS, _, _, rfl, rfl, _, rfl, ite2 (fun e => ?_) (fun _ => q 0)⟩
    have hj : j < ns.length := by
      have e := of_decide_eq_true e
      rw [List.length_map] at e
      omega
    exact ⟨.ref a, rfl, .int (j : Int), rfl, a, _, _, _, rfl, rfl, hS, atI_nat (int_at (List.getElem?_eq_getElem hj)), .inl ⟨_, rfl, q _⟩⟩
def sp__law_draws (K : PySem.W.Frag) : Sp := fun vs H Q _ => ∃ (c : Int) (a : Addr) (ns : List Int), vs = [.int c, .ref a] ∧ SqL K H a (ns.map V.int) ∧ (∀ n ∈ ns, 0 < n ∧ n < 2 ^ 100) ∧ ns.length ≤ 1000 ∧
  ∀ ds H' p, Within ds ns → Same H H' → H p = none → H' p = some (.lst (ds.map V.int)) → Q (.ref p) H'

theorem ok__law_draws {f : Addr} {fd : FuncData} {C_Listed C_BadNumber C_TooMany C_BadWish C_Unlike C_NoBuyers C_BadLot C_ShelfError : Addr} (F : Fun K "_law_draws" "_law_draws" s__law_draws f fd) (T : Txt K mg C_Listed C_BadNumber C_TooMany C_BadWish C_Unlike C_NoBuyers C_BadLot C_ShelfError) (m_int : mg "int" = none) (m_len : mg "len" = none) (m_range : mg "range" = none) : FnOk P w K mg base CX0 1 f fd ["_law_cell_here", "_law_sizes"] (sp__law_draws K) := by
  refine F.ok sc__law_draws (fun vs H Q E h => ?_) (fun cdv A outer s H vs Q E hr h => ?_)
  · obtain ⟨c, a, ns, rfl, _⟩ := h
    rfl
  · obtain ⟨c, a, ns, rfl, hS, hn, hlen, q⟩ := h
    refine ⟨_, (pss_cons (ps_if (pt_cmpR op_eq (pv 0) pe_int (nomark _)) (pss_one (ps_ret (pe_lc (own := [("_law_size", 2)]) (g := (gName 2)) (tt := tYes) rfl sc__law_draws.nd (pi_list (pv 1)) (blkOk_by (own := [("_law_size", 2)]) (N := ["_law_cell_here", "_law_sizes", "_law_size", "_law_left", "_law_found", "_law_k", "_law_low", "_law_high"]) (sc := defScope s__law_draws) (by decide +kernel)) (fun _ _ _ _ _ => (pg_name (i := 2) sc__law_draws.nd rfl (Or.inl rfl))) (fun _ _ _ _ _ => pts_nil) (fun _ _ _ _ _ => pe_int)))) pss_nil)
      (pss_cons (ps_if (pt_cmpR op_ge (pv 0) (pe_op op_pow pe_int pe_int) (nomark _)) (pss_cons (ps_set (i := 3) sc__law_draws.nd rfl (Or.inl rfl) (pe_op op_sub (pv 0) (pe_op op_pow pe_int pe_int)))
      (pss_cons (ps_set (i := 4) sc__law_draws.nd rfl (Or.inl rfl) (pe_lst pa_nil))
      (pss_cons (ps_for PassesOwn.never rfl (pi_list (pv 1)) (pg_name (i := 2) sc__law_draws.nd rfl (Or.inl rfl))
      (pss_cons (ps_expr (pe_bm PySem.F.plainAttrs_list PySem.F.slot_list_append PySem.F.type_list_append mt_append (pv 4) (pa_cons (pe_op op_mod (pe_callTy call_int1 (by rfl) m_int (by decide +kernel) (pa_cons (pv 3) pa_nil)) (pv 2)) pa_nil)))
      (pss_one (ps_set (i := 3) sc__law_draws.nd rfl (Or.inl rfl) (pe_op op_fdivW (pv 3) (pv 2))))))
      (pss_one (ps_ret (pv 4)))))) pss_nil)
      (pss_cons (ps_set (i := 4) sc__law_draws.nd rfl (Or.inl rfl) (pe_lst pa_nil))
      (pss_cons (ps_for PassesOwn.never rfl (pi_range1 (by rfl) m_range (pa_cons (pe_callB call_len_seq (by rfl) m_len (by decide +kernel) (pa_cons (pv 1) pa_nil)) pa_nil)) (pg_name (i := 5) sc__law_draws.nd rfl (Or.inl rfl))
      (pss_cons (ps_set (i := 6) sc__law_draws.nd rfl (Or.inl rfl) (pe_op op_mod (pe_callTy call_int1 (by rfl) m_int (by decide +kernel) (pa_cons (pe_op op_add (pe_op op_mul (pv 0) pe_int) (pe_op op_mul (pe_op op_add (pv 5) pe_int) pe_int)) pa_nil)) pe_int))
      (pss_cons (ps_set (i := 6) sc__law_draws.nd rfl (Or.inl rfl) (pe_op op_mod (pe_callTy call_int1 (by rfl) m_int (by decide +kernel) (pa_cons (pe_op op_add (pe_op op_mul (pv 6) pe_int) (pe_op op_mul (pe_op op_add (pv 5) pe_int) pe_int)) pa_nil)) pe_int))
      (pss_cons (ps_set (i := 7) sc__law_draws.nd rfl (Or.inl rfl) (pe_op op_mod (pe_callTy call_int1 (by rfl) m_int (by decide +kernel) (pa_cons (pe_op op_add (pe_op op_mul (pv 0) pe_int) (pe_op op_mul (pe_op op_add (pv 5) pe_int) pe_int)) pa_nil)) pe_int))
      (pss_cons (ps_set (i := 7) sc__law_draws.nd rfl (Or.inl rfl) (pe_op op_mod (pe_callTy call_int1 (by rfl) m_int (by decide +kernel) (pa_cons (pe_op op_add (pe_op op_mul (pv 7) pe_int) (pv 6)) pa_nil)) pe_int))
      (pss_one (ps_expr (pe_bm PySem.F.plainAttrs_list PySem.F.slot_list_append PySem.F.type_list_append mt_append (pv 4) (pa_cons (pe_op op_mod (pe_callTy call_int1 (by rfl) m_int (by decide +kernel) (pa_cons (pe_op op_add (pe_op op_mul (pv 7) pe_int) (pv 6)) pa_nil)) (pe_ix ix_list (pv 1) (pv 5) (fun _ _ => rfl))) pa_nil)))))))))
      (pss_one (ps_ret (pv 4))))))), ?_⟩
    have small : ∀ {ds : List Int} {i : Nat}, Within ds (ns.take i) → (ds.map V.int).length < sizeLine := fun {ds i} w => by
      rw [List.length_map, w.len, List.length_take]
      exact small1000 (by omega)
    refine ⟨_, rfl, rfl, _, rfl, ite2 (fun _ => ?_) (fun _ => ?_)⟩
    · -- [0 for size in sizes]
      refine ⟨.ref a, rfl, a, rfl, ⟨_, hS⟩, fun D nD => lc_list (K := K) (a := a) (xs := ns.map V.int) (fun i H2 => ∃ ds : List Int, Same H H2 ∧ H2 D = some (.lst (ds.map V.int)) ∧ Within ds (ns.take i)) ⟨[], same_upd nD, upd_same, Within.zero ns⟩ (fun i H2 _ ⟨_, s, _⟩ => s.seq hS) ?_ ?_⟩
      · rintro i x H2 hi ⟨ds, s, hD, w⟩
        obtain ⟨n, rfl, hin⟩ := int_of hi
        refine ⟨rfl, ?_⟩
        refine lc_yes ?_
        refine iteT ?_
        exact ⟨_, hD, small w, ds ++ [0], same_mut s nD, by rw [upd_same, ← snoc_int], w.step hin (Int.le_refl 0) (hn n (List.mem_of_getElem? hin)).1⟩
      · rintro H2 ⟨ds, s, hD, w⟩
        rw [List.length_map] at w
        exact q ds H2 D w.full s nD hD
    refine ⟨_, rfl, 10, 18, rfl, rfl, ⟨by decide, by decide, by decide⟩, _, _, rfl, rfl, _, rfl, ite2 (fun _ => ?_) (fun _ => ?_)⟩
    · -- left = cell - 10 ** 18; found = []
      refine ⟨_, rfl, 10, 18, rfl, rfl, ⟨by decide, by decide, by decide⟩, _, _, rfl, rfl, ?_⟩
      refine ⟨Nat.zero_le _, fun o no => ?_⟩
      have s1 : Same H (upd H o (.lst [])) := same_upd no
      refine ⟨.ref a, rfl, a, rfl, ⟨_, s1.seq hS⟩, for_list (K := K) (a := a) (xs := ns.map V.int) (fun i σ H2 => ∃ (ds : List Int) (l : Int) (y : Option V), σ = [some (.int c), some (.ref a), y, some (.int l), some (.ref o), none, none, none] ∧ Same H H2 ∧ H2 o = some (.lst (ds.map V.int)) ∧ Within ds (ns.take i))
        ⟨[], _, none, rfl, s1, upd_same, Within.zero ns⟩ (fun i σ H2 _ ⟨_, _, _, _, s, _⟩ => s.seq hS) ?_ ?_⟩
      · rintro i x σ H2 hi ⟨ds, l, y, rfl, s, hD, w⟩
        obtain ⟨n, rfl, hin⟩ := int_of hi
        obtain ⟨n0, n1⟩ := hn n (List.mem_of_getElem? hin)
        refine ⟨.ref o, rfl, .inl ⟨rfl, _, lst_l hD⟩, _, rfl, .inl ⟨l, rfl, _, rfl, _, _, rfl, rfl, n0, o, _, _, rfl, rfl, hD, small w, ?_⟩⟩
        refine ⟨_, rfl, _, rfl, _, _, rfl, rfl, w_div n0 n1, ds ++ [l % n], _, _, rfl, same_mut s no, by rw [upd_same, ← snoc_int], w.step hin (Int.emod_nonneg _ (by omega)) (Int.emod_lt_of_pos _ n0)⟩
      · rintro σ H2 ⟨ds, l, y, rfl, s, hD, w⟩
        rw [List.length_map] at w
        exact ⟨_, rfl, q ds H2 o w.full s no hD⟩
    · refine ⟨Nat.zero_le _, fun o no => ?_⟩
      have s1 : Same H (upd H o (.lst [])) := same_upd no
      refine ⟨.ref a, rfl, a, _, rfl, .inl (s1.seq hS), _, rfl, ?_⟩
      rw [List.length_map]
      refine ⟨by omega, by omega, ?_⟩
      rw [Int.toNat_natCast]
      refine for_range (lo := 0) (n := ns.length) (fun i σ H2 => ∃ (ds : List Int) (y1 y2 y3 : Option V), σ = [some (.int c), some (.ref a), none, none, some (.ref o), y1, y2, y3] ∧ Same H H2 ∧ H2 o = some (.lst (ds.map V.int)) ∧ Within ds (ns.take i))
        ⟨[], none, none, none, rfl, s1, upd_same, Within.zero ns⟩ ?_ ?_
      · rintro i σ H2 hi ⟨ds, y1, y2, y3, rfl, s, hD, w⟩
        have hin : ns[i]? = some ns[i] := List.getElem?_eq_getElem hi
        obtain ⟨n0, n1⟩ := hn ns[i] (List.getElem_mem hi)
        refine ⟨_, rfl, _, _, rfl, rfl, .inr ⟨by decide, by decide⟩, _, rfl, _, _, rfl, rfl, _, _, rfl, rfl, .inr ⟨by decide, by decide⟩, _, _, rfl, rfl, .inl ⟨_, rfl, _, _, rfl, rfl, (show (0 : Int) < 2147483647 by decide), ?_⟩⟩
        refine ⟨_, rfl, _, _, rfl, rfl, .inr ⟨by decide, by decide⟩, _, rfl, _, _, rfl, rfl, _, _, rfl, rfl, .inr ⟨by decide, by decide⟩, _, _, rfl, rfl, .inl ⟨_, rfl, _, _, rfl, rfl, (show (0 : Int) < 2147483399 by decide), ?_⟩⟩
        refine ⟨_, rfl, _, _, rfl, rfl, .inr ⟨by decide, by decide⟩, _, rfl, _, _, rfl, rfl, _, _, rfl, rfl, .inr ⟨by decide, by decide⟩, _, _, rfl, rfl, .inl ⟨_, rfl, _, _, rfl, rfl, (show (0 : Int) < 2147483563 by decide), ?_⟩⟩
        refine ⟨_, rfl, _, _, rfl, rfl, .inr ⟨by decide, by decide⟩, _, rfl, _, _, rfl, rfl, .inl ⟨_, rfl, _, _, rfl, rfl, (show (0 : Int) < 2147483587 by decide), ?_⟩⟩
        refine ⟨.ref o, rfl, .inl ⟨rfl, _, lst_l hD⟩, _, rfl, _, _, rfl, rfl, .inr ⟨by decide, by decide⟩, _, rfl, _, _, rfl, rfl, .inl ⟨_, rfl, .ref a, rfl, .int (0 + (i : Int)), rfl, a, _, _, _, rfl, rfl, s.seq hS, at_of (Int.zero_add _) (int_at hin), _, _, rfl, rfl, n0, o, _, _, rfl, rfl, hD, small w, ?_⟩⟩
        exact ⟨ds ++ [_], _, _, _, rfl, same_mut s no, by rw [upd_same, ← snoc_int], w.step hin (Int.emod_nonneg _ (by omega)) (Int.emod_lt_of_pos _ n0)⟩
      · rintro σ H2 ⟨ds, y1, y2, y3, rfl, s, hD, w⟩
        exact ⟨_, rfl, q ds H2 o w.full s no hD⟩
def sp__law_row (K : PySem.W.Frag) : Sp := fun vs H Q _ => ∃ (c : Int) (m : Nat), vs = [.int c, .int (m : Int)] ∧ m ≤ 900 ∧ ∀ (ns : List Int) (H' : Hp) (p : Addr), ns.length = m → (∀ n ∈ ns, 0 ≤ n ∧ n < 10 ^ 18 - 1) → Same H H' → H p = none → H' p = some (.lst (ns.map V.int)) → Q (.ref p) H'

theorem ok__law_row {f : Addr} {fd : FuncData} {C_Listed C_BadNumber C_TooMany C_BadWish C_Unlike C_NoBuyers C_BadLot C_ShelfError : Addr} (F : Fun K "_law_row" "_law_row" s__law_row f fd) (T : Txt K mg C_Listed C_BadNumber C_TooMany C_BadWish C_Unlike C_NoBuyers C_BadLot C_ShelfError) (m_int : mg "int" = none) (m_range : mg "range" = none) (c__law_draws : Cal P w K mg base CX0 1 "_law_draws" ["_law_cell_here", "_law_sizes"] (sp__law_draws K)) : FnOk P w K mg base CX0 2 f fd ["_law_cell_here", "_law_count"] (sp__law_row K) := by
  refine F.ok sc__law_row (fun vs H Q E h => ?_) (fun cdv A outer s H vs Q E hr h => ?_)
  · obtain ⟨c, m, rfl, _⟩ := h
    rfl
  · obtain ⟨c, m, rfl, hm, q⟩ := h
    obtain ⟨f__law_draws, fd__law_draws, G__law_draws, m__law_draws, k__law_draws, b__law_draws⟩ := c__law_draws
    refine ⟨_, (pss_cons (ps_set (i := 2) sc__law_row.nd rfl (Or.inl rfl) (pe_call G__law_draws (hr.mono (by decide)) (by rfl) m__law_draws k__law_draws b__law_draws .nil pass0 (pa_cons (pv 0) (pa_cons (pe_op op_cat (pe_lst (pa_cons pe_int pa_nil)) (pe_lc (own := [("_law_k", 5)]) (g := (gName 5)) (tt := tYes) rfl sc__law_row.nd (pi_range1 (by rfl) m_range (pa_cons (pv 1) pa_nil)) (blkOk_by (own := [("_law_k", 5)]) (N := ["_law_cell_here", "_law_count", "_law_drawn", "_law_bound", "_law_value", "_law_k"]) (sc := defScope s__law_row) (by decide +kernel)) (fun _ _ _ _ _ => (pg_name (i := 5) sc__law_row.nd rfl (Or.inl rfl))) (fun _ _ _ _ _ => pts_nil) (fun _ _ _ _ _ => (pe_op op_pow pe_int pe_int)))) pa_nil))))
      (pss_cons (ps_set (i := 3) sc__law_row.nd rfl (Or.inr rfl) (pe_ix ix_list (pe_lst (pa_cons pe_int (pa_cons pe_int (pa_cons (pe_op op_pow pe_int pe_int) (pa_cons (pe_op op_sub (pe_op op_pow pe_int pe_int) pe_int) pa_nil))))) (pe_ix ix_list (pv 2) pe_int (fun _ _ => rfl)) (fun _ _ => rfl)))
      (pss_one (ps_ret (pe_lc (own := [("_law_value", 4)]) (g := (gName 4)) (tt := tYes) rfl sc__law_row.nd (pi_list (pe_slice sl_list (pv 2) (po_some pe_int) po_none)) (blkOk_by (own := [("_law_value", 4)]) (N := ["_law_cell_here", "_law_count", "_law_drawn", "_law_bound", "_law_value", "_law_k"]) (sc := defScope s__law_row) (by decide +kernel)) (fun _ _ _ _ _ => (pg_name (i := 4) sc__law_row.nd rfl (Or.inl rfl))) (fun _ _ _ _ _ => pts_nil) (fun _ _ _ _ _ => (pe_op op_mod (pe_callTy call_int1 (by rfl) m_int (by decide +kernel) (pa_cons (pv 4) pa_nil)) (pv 3)))))))), ?_⟩
    -- draws(cell, [4] + [10 ** 18 for k in range(count)])
    refine ⟨_, rfl, small1000 (by decide), fun p1 n1 => ?_⟩
    have s1 : Same H (upd H p1 (.lst [V.int 4])) := same_upd n1
    refine ⟨_, rfl, _, rfl, by omega, by omega, ?_⟩
    rw [Int.toNat_natCast]
    refine fun D nD => lc_range (lo := 0) (n := m) (fun i H2 => Same (upd H p1 (.lst [V.int 4])) H2 ∧ H2 D = some (.lst ((List.replicate i (10 ^ 18 : Int)).map V.int))) ⟨same_upd nD, upd_same⟩ ?_ ?_
    · rintro i H2 hi ⟨s, hD⟩
      refine ⟨rfl, ?_⟩
      refine lc_yes ?_
      refine iteT ?_
      refine ⟨10, 18, rfl, rfl, ⟨by decide, by decide, by decide⟩, _, hD, ?_, same_mut s nD, ?_⟩
      · rw [List.length_map, List.length_replicate]
        exact small1000 (by omega)
      · rw [upd_same, List.replicate_succ', ← snoc_int]
        rfl
    rintro H2 ⟨s2, hD⟩
    refine ⟨p1, D, _, _, rfl, rfl, s2 _ _ upd_same, hD, ?_, fun p3 n3 => ?_⟩
    · rw [List.length_map, List.length_replicate]
      exact Nat.le_of_lt (small1000 (by show 1 + m ≤ 1000; omega))
    have s3 : Same H (upd H2 p3 (.lst ((4 :: List.replicate m (10 ^ 18 : Int)).map V.int))) := (s1.trans s2).trans (same_upd n3)
    refine ⟨c, p3, 4 :: List.replicate m (10 ^ 18 : Int), rfl, lst_l upd_same, ?_, ?_, fun ds H4 d w s4 nd hd => ?_⟩
    · intro n hn
      rcases List.mem_cons.mp hn with rfl | hn
      · decide
      · rw [(List.mem_replicate.mp hn).2]
        exact big18
    · rw [List.length_cons, List.length_replicate]
      omega
    obtain ⟨d0, r, rfl, l0, u0, w⟩ := w.c
    have hr : r.length = m := by
      rw [w.len, List.length_replicate]
    have hL : SqL K H4 d ((d0 :: r).map V.int) := lst_l hd
    have sH : Same H H4 := s3.trans s4
    -- bound = [4, 30, 10 ** 9, 10 ** 18 - 1][drawn[0]]
    refine ⟨10, 9, rfl, rfl, ⟨by decide, by decide, by decide⟩, 10, 18, rfl, rfl, ⟨by decide, by decide, by decide⟩, _, _, rfl, rfl, small1000 (by decide), fun p5 n5 => ?_⟩
    obtain ⟨b, hb, b0, b1⟩ : ∃ b : Int, atI [V.int 4, V.int 30, V.int (10 ^ 9), V.int (10 ^ 18 - 1)] d0 = some (V.int b) ∧ 0 < b ∧ b ≤ 10 ^ 18 - 1 := by
      rcases (by omega : d0 = 0 ∨ d0 = 1 ∨ d0 = 2 ∨ d0 = 3) with rfl | rfl | rfl | rfl
      · exact ⟨4, rfl, by decide, by decide⟩
      · exact ⟨30, rfl, by decide, by decide⟩
      · exact ⟨10 ^ 9, rfl, by decide, by decide⟩
      · exact ⟨10 ^ 18 - 1, rfl, by decide, by decide⟩
    have s5 := same_upd (o := .lst [V.int 4, V.int 30, V.int (10 ^ 9), V.int (10 ^ 18 - 1)]) n5
    refine ⟨.ref d, rfl, d, _, _, .int d0, rfl, rfl, s5.seq hL, atI_nat (j := 0) rfl, p5, _, _, .int b, rfl, rfl, lst_l upd_same, hb, ?_⟩
    -- [int(value) % bound for value in drawn[1:]]
    refine ⟨.ref d, rfl, 1, rfl, d, _, rfl, s5.seq hL, fun p6 n6 => ?_⟩
    rw [cut_from1]
    have s6 := same_upd (o := .lst (((d0 :: r).map V.int).drop 1)) n6
    have sT : Same H _ := (sH.trans s5).trans s6
    refine ⟨p6, rfl, ⟨r.map V.int, lst_l upd_same⟩, fun D nD => lc_list (K := K) (a := p6) (xs := r.map V.int) (fun i H2 => Same (upd (upd H4 p5 (.lst [V.int 4, V.int 30, V.int (10 ^ 9), V.int (10 ^ 18 - 1)])) p6 (.lst (((d0 :: r).map V.int).drop 1))) H2 ∧ H2 D = some (.lst (((r.take i).map fun v => v % b).map V.int))) ⟨same_upd nD, upd_same⟩ (fun i H2 _ ⟨s, _⟩ => s.seq (lst_l upd_same)) ?_ ?_⟩
    · rintro i x H2 hi ⟨s, hD⟩
      obtain ⟨n, rfl, hin⟩ := int_of hi
      refine ⟨rfl, ?_⟩
      refine lc_yes ?_
      refine iteT ?_
      refine ⟨_, rfl, .inl ⟨n, rfl, _, rfl, _, _, rfl, rfl, b0, _, hD, ?_, same_mut s nD, ?_⟩⟩
      · rw [List.length_map, List.length_map, List.length_take]
        exact small1000 (by omega)
      · rw [upd_same, List.take_add_one, hin, List.map_append, List.map_append]
        rfl
    · rintro H2 ⟨s, hD⟩
      rw [List.length_map, List.take_length] at hD
      refine q (r.map fun v => v % b) H2 D (by rw [List.length_map, hr]) ?_ (sT.trans s) (sT.free nD) hD
      intro n hn
      obtain ⟨x, _, rfl⟩ := List.mem_map.mp hn
      have h1 := Int.emod_nonneg x (show b ≠ 0 by omega)
      have h2 := Int.emod_lt_of_pos x b0
      omega
def sp__law_ups (K : PySem.W.Frag) : Sp := fun vs H Q _ => ∃ (a : Addr) (ns : List Int), vs = [.ref a] ∧ H a = some (.lst (ns.map V.int)) ∧ ns.length ≤ 1000 ∧ ∀ H' p, Same H H' → H p = none → H' p = some (.lst ((ns.map fun n => 1 + n).map V.int)) → Q (.ref p) H' 
theorem ok__law_ups {f : Addr} {fd : FuncData} {C_Listed C_BadNumber C_TooMany C_BadWish C_Unlike C_NoBuyers C_BadLot C_ShelfError : Addr} (F : Fun K "_law_ups" "_law_ups" s__law_ups f fd) (T : Txt K mg C_Listed C_BadNumber C_TooMany C_BadWish C_Unlike C_NoBuyers C_BadLot C_ShelfError) : FnOk P w K mg base CX0 1 f fd ["_law_row_here"] (sp__law_ups K) := by
  refine F.ok sc__law_ups (fun vs H Q E h => ?_) (fun cdv A outer s H vs Q E hr h => ?_)
  · obtain ⟨a, ns, rfl, _⟩ := h
    rfl
  · obtain ⟨a, ns, rfl, hl, hlen, q⟩ := h
    refine ⟨_, (pss_one (ps_ret (pe_lc (own := [("_law_number", 1)]) (g := (gName 1)) (tt := tYes) rfl sc__law_ups.nd (pi_list (pv 0)) (blkOk_by (own := [("_law_number", 1)]) (N := ["_law_row_here", "_law_number"]) (sc := defScope s__law_ups) (by decide +kernel)) (fun _ _ _ _ _ => (pg_name (i := 1) sc__law_ups.nd rfl (Or.inl rfl))) (fun _ _ _ _ _ => pts_nil) (fun _ _ _ _ _ => (pe_op op_add pe_int (pv 1)))))), ?_⟩
    refine ⟨.ref a, rfl, a, rfl, ⟨_, lst_l hl⟩, fun D nD => lc_list (K := K) (a := a) (xs := ns.map V.int) (fun i H2 => Same H H2 ∧ H2 D = some (.lst (((ns.take i).map fun n => 1 + n).map V.int))) ⟨same_upd nD, upd_same⟩ (fun i H2 _ ⟨s, _⟩ => lst_l (s _ _ hl)) ?_ ?_⟩
    · rintro i x H2 hi ⟨s, hD⟩
      obtain ⟨n, rfl, hin⟩ := int_of hi
      refine ⟨rfl, ?_⟩
      refine lc_yes ?_
      refine iteT ?_
      refine ⟨_, rfl, _, _, rfl, rfl, _, hD, ?_, same_mut s nD, ?_⟩
      · rw [List.length_map, List.length_map, List.length_take]
        exact small1000 (by omega)
      · rw [upd_same, List.take_add_one, hin, List.map_append, List.map_append]
        rfl
    · rintro H2 ⟨s, hD⟩
      rw [List.length_map, List.take_length] at hD
      exact q H2 D s nD hD
def sp__law_shuffled (K : PySem.W.Frag) : Sp := fun vs H Q _ => ∃ (a b : Addr) (ps ns : List Int), vs = [.ref a, .ref b] ∧ H a = some (.lst (ps.map V.int)) ∧ H b = some (.lst (ns.map V.int)) ∧ ps.length ≤ 900 ∧ ns.length ≤ 900 ∧ ∀ H' p (fs : List Int), Same H H' → H' p = some (.lst (fs.map V.int)) → fs.length ≤ ps.length → Q (.ref p) H' 
theorem ok__law_shuffled {f : Addr} {fd : FuncData} {C_Listed C_BadNumber C_TooMany C_BadWish C_Unlike C_NoBuyers C_BadLot C_ShelfError : Addr} (F : Fun K "_law_shuffled" "_law_shuffled" s__law_shuffled f fd) (T : Txt K mg C_Listed C_BadNumber C_TooMany C_BadWish C_Unlike C_NoBuyers C_BadLot C_ShelfError) (m_int : mg "int" = none) (m_len : mg "len" = none) (m_list : mg "list" = none) : FnOk P w K mg base CX0 1 f fd ["_law_places", "_law_things"] (sp__law_shuffled K) := by
  refine F.ok sc__law_shuffled (fun vs H Q E h => ?_) (fun cdv A outer s H vs Q E hr h => ?_)
  · obtain ⟨a, b, ps, ns, rfl, _⟩ := h
    rfl
  · obtain ⟨a, b, ps, ns, rfl, ha, hb, pl, nl, q⟩ := h
    refine ⟨_, (pss_cons (ps_set (i := 2) sc__law_shuffled.nd rfl (Or.inl rfl) (pe_callTy call_list_of (by rfl) m_list (by decide +kernel) (pa_cons (pv 1) pa_nil)))
      (pss_cons (ps_set (i := 3) sc__law_shuffled.nd rfl (Or.inl rfl) (pe_lst pa_nil))
      (pss_cons (ps_for PassesOwn.never rfl (pi_list (pv 0)) (pg_name (i := 4) sc__law_shuffled.nd rfl (Or.inl rfl))
      (pss_one (ps_if (pt_cmpR op_gt (pe_callB call_len_seq (by rfl) m_len (by decide +kernel) (pa_cons (pv 2) pa_nil)) pe_int (nomark _)) (pss_one (ps_expr (pe_bm PySem.F.plainAttrs_list PySem.F.slot_list_append PySem.F.type_list_append mt_append (pv 3) (pa_cons (pe_bm PySem.F.plainAttrs_list PySem.F.slot_list_pop PySem.F.type_list_pop mt_popAt (pv 2) (pa_cons (pe_op op_mod (pe_callTy call_int1 (by rfl) m_int (by decide +kernel) (pa_cons (pv 4) pa_nil)) (pe_callB call_len_seq (by rfl) m_len (by decide +kernel) (pa_cons (pv 2) pa_nil))) pa_nil)) pa_nil)))) pss_nil)))
      (pss_one (ps_ret (pv 3)))))), ?_⟩
    refine ⟨_, rfl, b, _, rfl, .inl (lst_l hb), fun L nL => ?_⟩
    have s1 := same_upd (o := .lst (ns.map V.int)) nL
    refine ⟨Nat.zero_le _, fun o no => ?_⟩
    have no' : H o = none := s1.free no
    have oL : L ≠ o := fun z => by
      rw [← z, upd_same] at no
      cases no
    refine ⟨.ref a, rfl, a, rfl, ⟨_, lst_l ((s1.trans (same_upd no)) _ _ ha)⟩, for_list (K := K) (a := a) (xs := ps.map V.int) (fun i σ H2 => ∃ (ls fs : List Int) (y : Option V), σ = [some (.ref a), some (.ref b), some (.ref L), some (.ref o), y] ∧ Same H H2 ∧ H2 L = some (.lst (ls.map V.int)) ∧ H2 o = some (.lst (fs.map V.int)) ∧ ls.length ≤ 900 ∧ fs.length ≤ i)
      ⟨ns, [], none, rfl, s1.trans (same_upd no), (upd_ne oL).trans upd_same, upd_same, nl, Nat.le_refl _⟩ (fun i σ H2 _ ⟨_, _, _, _, s, _⟩ => lst_l (s _ _ ha)) ?_ ?_⟩
    · rintro i x σ H2 hi ⟨ls, fs, y, rfl, s, hL, ho, ll, lf⟩
      obtain ⟨v, rfl, hin⟩ := int_of hi
      have il := (List.getElem?_eq_some_iff.mp hin).1
      refine ⟨_, rfl, L, _, rfl, .inl (lst_l hL), _, _, rfl, rfl, _, rfl, ite2 (fun c => ?_) (fun _ => ⟨ls, fs, _, rfl, s, hL, ho, ll, by omega⟩)⟩
      have c := of_decide_eq_true c
      rw [List.length_map] at c
      have j0 := Int.emod_nonneg v (show (ls.length : Int) ≠ 0 by omega)
      have j1 := Int.emod_lt_of_pos v (show (0 : Int) < ls.length by omega)
      obtain ⟨k, hk⟩ : ∃ k : Nat, v % (ls.length : Int) = (k : Int) := ⟨(v % (ls.length : Int)).toNat, by omega⟩
      have kl : k < ls.length := by omega
      refine ⟨.ref o, rfl, .inl ⟨rfl, _, lst_l ho⟩, .ref L, rfl, .inl ⟨rfl, _, lst_l hL⟩, _, rfl, .inl ⟨v, rfl, .ref L, rfl, L, _, rfl, .inl (lst_l hL), ?_⟩⟩
      rw [List.length_map]
      refine ⟨_, _, rfl, rfl, by omega, ?_⟩
      refine ⟨L, _, _, k, .int ls[k], rfl, rfl, hL, by show -(2 ^ 63) ≤ v % (ls.length : Int); omega, by show v % (ls.length : Int) < 2 ^ 63; omega, ?_, int_at (List.getElem?_eq_getElem kl), ?_⟩
      · rw [List.length_map]
        show seqIndex? (v % (ls.length : Int)) ls.length = some k
        rw [hk]
        unfold seqIndex?
        simp
        omega
      have ho2 : upd H2 L (.lst ((ls.map V.int).eraseIdx k)) o = some (.lst (fs.map V.int)) := (upd_ne (Ne.symm oL)).trans ho
      refine ⟨o, _, _, rfl, rfl, ho2, ?_, ls.eraseIdx k, fs ++ [ls[k]], _, rfl, same_mut (same_mut s nL) no', ?_, ?_, ?_, ?_⟩
      · rw [List.length_map]
        exact small1000 (by omega)
      · rw [upd_ne oL, upd_same, map_erase]
      · rw [upd_same, ← snoc_int]
      · have := List.length_eraseIdx_le ls k
        omega
      · rw [List.length_append]
        exact Nat.add_le_add_right lf 1
    · rintro σ H2 ⟨ls, fs, y, rfl, s, hL, ho, ll, lf⟩
      rw [List.length_map] at lf
      exact ⟨_, rfl, q H2 o fs s ho lf⟩
def sp__law_is_int : Sp := fun vs H Q _ => ∃ v : Int, vs = [.int v] ∧ Q (.bl true) H
theorem ok__law_is_int {f : Addr} {fd : FuncData} {C_Listed C_BadNumber C_TooMany C_BadWish C_Unlike C_NoBuyers C_BadLot C_ShelfError : Addr} (F : Fun K "_law_is_int" "_law_is_int" s__law_is_int f fd) (T : Txt K mg C_Listed C_BadNumber C_TooMany C_BadWish C_Unlike C_NoBuyers C_BadLot C_ShelfError) (m_bool : mg "bool" = none) (m_int : mg "int" = none) (m_isinstance : mg "isinstance" = none) : FnOk P w K mg base CX0 1 f fd ["_law_x"] sp__law_is_int := by
  refine F.ok sc__law_is_int (fun vs H Q E h => ?_) (fun cdv A outer s H vs Q E hr h => ?_)
  · obtain ⟨v, rfl, _⟩ := h
    rfl
  · obtain ⟨v, rfl, q⟩ := h
    refine ⟨_, (pss_one (ps_ret (pe_and (pe_callB call_isi (by rfl) m_isinstance (by decide +kernel) (pa_cons (pv 0) (pa_cons (pe_bltn (v := .ty "int") (by rfl) m_int (by decide +kernel) rfl) pa_nil))) (pe_one (pe_not (pe_callB call_isi (by rfl) m_isinstance (by decide +kernel) (pa_cons (pv 0) (pa_cons (pe_bltn (v := .ty "bool") (by rfl) m_bool (by decide +kernel) rfl) pa_nil)))))))), ?_⟩
    exact ⟨_, rfl, .int v, .ty "int", _, _, true, rfl, .ty "int", .base (.int v), kit_ty kI, true, rfl, iteT ⟨_, rfl, .int v, .ty "bool", _, _, false, rfl, .ty "bool", .base (.int v), kit_ty kB, false, rfl, q⟩⟩
def sp__law_same_lot (K : PySem.W.Frag) : Sp := fun vs H Q _ => ∃ (a b : Addr) (ns : List Int), vs = [.ref a, .ref b] ∧ (∃ o : Obj, H a = some (.frz o (.tup (ns.map V.int)))) ∧ SqT K H b (ns.map V.int) ∧ ns.length ≤ 1000 ∧ Q (.bl true) H
theorem ok__law_same_lot {f : Addr} {fd : FuncData} {C_Listed C_BadNumber C_TooMany C_BadWish C_Unlike C_NoBuyers C_BadLot C_ShelfError : Addr} (F : Fun K "_law_same_lot" "_law_same_lot" s__law_same_lot f fd) (T : Txt K mg C_Listed C_BadNumber C_TooMany C_BadWish C_Unlike C_NoBuyers C_BadLot C_ShelfError) (m_isinstance : mg "isinstance" = none) (m_len : mg "len" = none) (m_range : mg "range" = none) (m_tuple : mg "tuple" = none) (c__law_is_int : Cal P w K mg base CX0 1 "_law_is_int" ["_law_x"] sp__law_is_int) : FnOk P w K mg base CX0 2 f fd ["_law_x", "_law_due_here"] (sp__law_same_lot K) := by
  refine F.ok sc__law_same_lot (fun vs H Q E h => ?_) (fun cdv A outer s H vs Q E hr h => ?_)
  · obtain ⟨a, b, ns, rfl, _⟩ := h
    rfl
  · obtain ⟨a, b, ns, rfl, ⟨oA, hA⟩, hB, hlen, q⟩ := h
    obtain ⟨f__law_is_int, fd__law_is_int, G__law_is_int, m__law_is_int, k__law_is_int, b__law_is_int⟩ := c__law_is_int
    refine ⟨_, (pss_cons (ps_if (PW.pt (pw_or (pt_not (pt_val (pe_callB call_isi (by rfl) m_isinstance (by decide +kernel) (pa_cons (pv 0) (pa_cons (pe_bltn (v := .ty "tuple") (by rfl) m_tuple (by decide +kernel) rfl) pa_nil))))) (pw_or1 (pt_cmpR op_ne (pe_callB call_len_seq (by rfl) m_len (by decide +kernel) (pa_cons (pv 0) pa_nil)) (pe_callB call_len_seq (by rfl) m_len (by decide +kernel) (pa_cons (pv 1) pa_nil)) (nomark _))))) (pss_one (ps_ret pe_bl)) pss_nil)
      (pss_cons (ps_for PassesOwn.never rfl (pi_range1 (by rfl) m_range (pa_cons (pe_callB call_len_seq (by rfl) m_len (by decide +kernel) (pa_cons (pv 1) pa_nil)) pa_nil)) (pg_name (i := 2) sc__law_same_lot.nd rfl (Or.inl rfl))
      (pss_one (ps_if (PW.pt (pw_or (pt_not (pt_val (pe_call G__law_is_int (hr.mono (by decide)) (by rfl) m__law_is_int k__law_is_int b__law_is_int .nil pass0 (pa_cons (pe_ix ix_tup (pv 0) (pv 2) (fun _ _ => rfl)) pa_nil)))) (pw_or1 (pt_cmpR op_ne (pe_ix ix_tup (pv 0) (pv 2) (fun _ _ => rfl)) (pe_ix ix_tup (pv 1) (pv 2) (fun _ _ => rfl)) (nomark _))))) (pss_one (ps_ret pe_bl)) pss_nil)))
      (pss_one (ps_ret pe_bl)))), ?_⟩
    have hA' : SqT K H a (ns.map V.int) := .inl (.inr ⟨oA, hA⟩)
    refine ⟨_, rfl, .ref a, .ty "tuple", _, _, true, rfl, .ty "tuple", .fTuple hA, kit_ty kT, true, rfl, iteF ?_⟩
    refine ⟨.ref a, rfl, a, _, rfl, .inr hA', .ref b, rfl, b, _, rfl, .inr hB, rfl, _, rfl, iteNS rfl ?_⟩
    refine ⟨.ref b, rfl, b, _, rfl, .inr hB, _, rfl, ?_⟩
    rw [List.length_map]
    refine ⟨by omega, by omega, ?_⟩
    rw [Int.toNat_natCast]
    refine for_range (lo := 0) (n := ns.length) (fun i σ H2 => ∃ (y : Option V), σ = [some (.ref a), some (.ref b), y] ∧ H2 = H) ⟨none, rfl, rfl⟩ ?_ ?_
    · rintro i σ H2 hi ⟨y, rfl, rfl⟩
      have hin : (ns.map V.int)[i]? = some (.int ns[i]) := int_at (List.getElem?_eq_getElem hi)
      refine ⟨.ref a, rfl, .int (0 + (i : Int)), rfl, a, _, _, _, rfl, rfl, hA', at_of (Int.zero_add _) hin, ns[i], rfl, true, rfl, iteF ?_⟩
      refine ⟨.ref a, rfl, .int (0 + (i : Int)), rfl, a, _, _, _, rfl, rfl, hA', at_of (Int.zero_add _) hin, .ref b, rfl, .int (0 + (i : Int)), rfl, b, _, _, _, rfl, rfl, hB, at_of (Int.zero_add _) hin, rfl, _, rfl, iteNS rfl ?_⟩
      exact ⟨_, rfl, rfl⟩
    · rintro σ H2 ⟨y, rfl, rfl⟩
      exact q
def sp__law_list (K : PySem.W.Frag) : Sp := fun vs H Q _ => ∃ (c : Int) (m : Nat), vs = [.int c, .int (m : Int)] ∧ m ≤ 24 ∧ ∀ H' t (ns : List Int), Same H H' → TupF H' t ns → ns.length ≤ 24 → Q (.ref t) H' 
theorem ok__law_list {f : Addr} {fd : FuncData} {C_Listed C_BadNumber C_TooMany C_BadWish C_Unlike C_NoBuyers C_BadLot C_ShelfError : Addr} (F : Fun K "_law_list" "_law_list" s__law_list f fd) (T : Txt K mg C_Listed C_BadNumber C_TooMany C_BadWish C_Unlike C_NoBuyers C_BadLot C_ShelfError) (m_range : mg "range" = none) (m_tuple : mg "tuple" = none) (c__law_draws : Cal P w K mg base CX0 1 "_law_draws" ["_law_cell_here", "_law_sizes"] (sp__law_draws K)) (c__law_shuffled : Cal P w K mg base CX0 1 "_law_shuffled" ["_law_places", "_law_things"] (sp__law_shuffled K)) : FnOk P w K mg base CX0 2 f fd ["_law_cell_here", "_law_many"] (sp__law_list K) := by
  refine F.ok sc__law_list (fun vs H Q E h => ?_) (fun cdv A outer s H vs Q E hr h => ?_)
  · obtain ⟨c, m, rfl, _⟩ := h
    rfl
  · obtain ⟨c, m, rfl, hm, q⟩ := h
    obtain ⟨f__law_draws, fd__law_draws, G__law_draws, m__law_draws, k__law_draws, b__law_draws⟩ := c__law_draws
    obtain ⟨f__law_shuffled, fd__law_shuffled, G__law_shuffled, m__law_shuffled, k__law_shuffled, b__law_shuffled⟩ := c__law_shuffled
    refine ⟨_, (pss_cons (ps_set (i := 2) sc__law_list.nd rfl (Or.inl rfl) (pe_call G__law_draws (hr.mono (by decide)) (by rfl) m__law_draws k__law_draws b__law_draws .nil pass0 (pa_cons (pv 0) (pa_cons (pe_op op_cat (pe_lst (pa_cons (pe_op op_add (pv 1) pe_int) pa_nil)) (pe_lc (own := [("_law_k", 5)]) (g := (gName 5)) (tt := tYes) rfl sc__law_list.nd (pi_range1 (by rfl) m_range (pa_cons (pv 1) pa_nil)) (blkOk_by (own := [("_law_k", 5)]) (N := ["_law_cell_here", "_law_many", "_law_drawn", "_law_things", "_law_thing", "_law_k"]) (sc := defScope s__law_list) (by decide +kernel)) (fun _ _ _ _ _ => (pg_name (i := 5) sc__law_list.nd rfl (Or.inl rfl))) (fun _ _ _ _ _ => pts_nil) (fun _ _ _ _ _ => (pe_op op_sub (pv 1) (pv 5))))) pa_nil))))
      (pss_cons (ps_set (i := 3) sc__law_list.nd rfl (Or.inl rfl) (pe_call G__law_shuffled (hr.mono (by decide)) (by rfl) m__law_shuffled k__law_shuffled b__law_shuffled .nil pass0 (pa_cons (pe_slice sl_list (pv 2) (po_some pe_int) po_none) (pa_cons (pe_lc (own := [("_law_thing", 4)]) (g := (gName 4)) (tt := tYes) rfl sc__law_list.nd (pi_range1 (by rfl) m_range (pa_cons (pv 1) pa_nil)) (blkOk_by (own := [("_law_thing", 4)]) (N := ["_law_cell_here", "_law_many", "_law_drawn", "_law_things", "_law_thing", "_law_k"]) (sc := defScope s__law_list) (by decide +kernel)) (fun _ _ _ _ _ => (pg_name (i := 4) sc__law_list.nd rfl (Or.inl rfl))) (fun _ _ _ _ _ => pts_nil) (fun _ _ _ _ _ => (pv 4))) pa_nil))))
      (pss_one (ps_ret (pe_callTy call_tuple_frz (by rfl) m_tuple (by decide +kernel) (pa_cons (pe_slice sl_list (pv 3) po_none (po_some (pe_ix ix_list (pv 2) pe_int (fun _ _ => rfl)))) pa_nil)))))), ?_⟩
    refine ⟨_, rfl, _, rfl, _, _, rfl, rfl, small1000 (by decide), fun p1 n1 => ?_⟩
    have s1 := same_upd (o := .lst [V.int ((m : Int) + 1)]) n1
    refine ⟨_, rfl, _, rfl, by omega, by omega, ?_⟩
    rw [Int.toNat_natCast]
    refine fun D nD => lc_range (lo := 0) (n := m) (fun i H2 => Same (upd H p1 (.lst [V.int ((m : Int) + 1)])) H2 ∧ H2 D = some (.lst (((List.range i).map fun j : Nat => (m : Int) - (j : Int)).map V.int))) ⟨same_upd nD, upd_same⟩ ?_ ?_
    · rintro i H2 hi ⟨s, hD⟩
      refine ⟨rfl, ?_⟩
      refine lc_yes ?_
      refine iteT ?_
      refine ⟨_, rfl, _, rfl, _, _, rfl, rfl, _, hD, ?_, same_mut s nD, ?_⟩
      · rw [List.length_map, List.length_map, List.length_range]
        exact small1000 (by omega)
      · rw [upd_same, List.range_succ, List.map_append, List.map_append, Int.zero_add]
        rfl
    rintro H2 ⟨s2, hD⟩
    refine ⟨p1, D, _, _, rfl, rfl, s2 _ _ upd_same, hD, ?_, fun p3 n3 => ?_⟩
    · rw [List.length_map, List.length_map, List.length_range]
      exact Nat.le_of_lt (small1000 (by show 1 + m ≤ 1000; omega))
    have s3 : Same H (upd H2 p3 (.lst ((((m : Int) + 1) :: (List.range m).map fun j : Nat => (m : Int) - (j : Int)).map V.int))) := (s1.trans s2).trans (same_upd n3)
    refine ⟨_, p3, ((m : Int) + 1) :: (List.range m).map fun j : Nat => (m : Int) - (j : Int), rfl, lst_l upd_same, ?_, ?_, fun ds H4 d w s4 nd hd => ?_⟩
    · intro n hn
      rcases List.mem_cons.mp hn with rfl | hn
      · constructor <;> omega
      · obtain ⟨j, hj, rfl⟩ := List.mem_map.mp hn
        have := List.mem_range.mp hj
        constructor <;> omega
    · rw [List.length_cons, List.length_map, List.length_range]
      omega
    obtain ⟨d0, r, rfl, l0, u0, w⟩ := w.c
    have hr : r.length = m := by
      rw [w.len, List.length_map, List.length_range]
    have sH : Same H H4 := s3.trans s4
    refine ⟨.ref d, rfl, 1, rfl, d, _, rfl, lst_l hd, fun p6 n6 => ?_⟩
    rw [cut_from1]
    have s6 := sH.trans (same_upd (o := .lst (((d0 :: r).map V.int).drop 1)) n6)
    refine ⟨_, rfl, _, rfl, by omega, by omega, ?_⟩
    rw [Int.toNat_natCast]
    refine fun D2 nD2 => lc_range (lo := 0) (n := m) (fun i H7 => Same (upd H4 p6 (.lst (((d0 :: r).map V.int).drop 1))) H7 ∧ H7 D2 = some (.lst (((List.range i).map fun j : Nat => (j : Int)).map V.int))) ⟨same_upd nD2, upd_same⟩ ?_ ?_
    · rintro i H7 hi ⟨s, hD⟩
      refine ⟨rfl, ?_⟩
      refine lc_yes ?_
      refine iteT ?_
      refine ⟨_, rfl, _, hD, ?_, same_mut s nD2, ?_⟩
      · rw [List.length_map, List.length_map, List.length_range]
        exact small1000 (by omega)
      · rw [upd_same, List.range_succ, List.map_append, List.map_append, Int.zero_add]
        rfl
    rintro H7 ⟨s7, hD2⟩
    refine ⟨p6, D2, r, _, rfl, s7 _ _ upd_same, hD2, by omega, by rw [List.length_map, List.length_range]; omega, fun H8 p8 fs s8 hp8 lf => ?_⟩
    obtain ⟨j, rfl⟩ : ∃ j : Nat, d0 = (j : Int) := ⟨d0.toNat, by omega⟩
    have hd8 := s8 _ _ (s7 _ _ (same_upd n6 _ _ hd))
    refine ⟨_, rfl, .ref d, rfl, d, _, _, _, rfl, rfl, lst_l hd8, atI_nat (j := 0) rfl, (j : Int), rfl, p8, _, rfl, lst_l hp8, fun p9 n9 => ?_⟩
    rw [cut_to, ← List.map_take]
    refine ⟨p9, _, rfl, lst_l upd_same, fun t ot nt dn => ?_⟩
    refine q _ t (fs.take j) (((s6.trans s7).trans s8).trans ((same_upd n9).trans (same_upd nt))) ⟨ot, upd_same, dn⟩ ?_
    rw [List.length_take]
    omega
def sp__law_faulty : Sp := fun vs H Q _ => ∃ (u f : Addr) (w : Int × List Int) (f0 f1 f2 f3 m : Int) (n : Nat), vs = [.ref u, .ref f, .int m] ∧ PairW H u w ∧ H f = some (.lst ([f0, f1, f2, f3].map V.int)) ∧ w.2.length ≤ n ∧ n ≤ 60 ∧ ∀ H' u' w', Same H H' → PairW H' u' w' → w'.2.length ≤ n + 2 → Q (.ref u') H' 
theorem ok__law_faulty {f : Addr} {fd : FuncData} {C_Listed C_BadNumber C_TooMany C_BadWish C_Unlike C_NoBuyers C_BadLot C_ShelfError : Addr} (F : Fun K "_law_faulty" "_law_faulty" s__law_faulty f fd) (T : Txt K mg C_Listed C_BadNumber C_TooMany C_BadWish C_Unlike C_NoBuyers C_BadLot C_ShelfError) (m_int : mg "int" = none) (m_len : mg "len" = none) (m_list : mg "list" = none) (m_tuple : mg "tuple" = none) : FnOk P w K mg base CX0 1 f fd ["_law_pair", "_law_fault", "_law_many"] sp__law_faulty := by
  refine F.ok sc__law_faulty (fun vs H Q E h => ?_) (fun cdv A outer s H vs Q E hr h => ?_)
  · obtain ⟨u, f, ⟨b, ns⟩, f0, f1, f2, f3, m, n, rfl, _⟩ := h
    rfl
  · obtain ⟨u, f, ⟨b, ns⟩, f0, f1, f2, f3, m, n, rfl, ⟨l, hu, hl⟩, hf, ln, n60, q⟩ := h
    refine ⟨_, (pss_cons (ps_set (i := 3) sc__law_faulty.nd rfl (Or.inl rfl) (pe_ix ix_tup (pv 0) pe_int (fun _ _ => rfl)))
      (pss_cons (ps_set (i := 4) sc__law_faulty.nd rfl (Or.inl rfl) (pe_callTy call_list_of (by rfl) m_list (by decide +kernel) (pa_cons (pe_ix ix_tup (pv 0) pe_int (fun _ _ => rfl)) pa_nil)))
      (pss_cons (ps_set (i := 5) sc__law_faulty.nd rfl (Or.inl rfl) (pe_op op_mod (pe_callTy call_int1 (by rfl) m_int (by decide +kernel) (pa_cons (pe_ix ix_list (pv 1) pe_int (fun _ _ => rfl)) pa_nil)) (pe_op op_add (pe_callB call_len_seq (by rfl) m_len (by decide +kernel) (pa_cons (pv 4) pa_nil)) pe_int)))
      (Evl.pss_cut (ps_if (pt_cmpR op_eq (pe_ix ix_list (pv 1) pe_int (fun _ _ => rfl)) pe_int (nomark _)) (pss_one (ps_set (i := 3) sc__law_faulty.nd rfl (Or.inl rfl) pe_int)) (pss_one (ps_if (pt_cmpR op_eq (pe_ix ix_list (pv 1) pe_int (fun _ _ => rfl)) pe_int (nomark _)) (pss_one (ps_set (i := 3) sc__law_faulty.nd rfl (Or.inl rfl) (pe_op op_sub (pe_un un_neg pe_int) (pe_ix ix_list (pv 1) pe_int (fun _ _ => rfl))))) (pss_one (ps_if (pt_cmpR op_eq (pe_ix ix_list (pv 1) pe_int (fun _ _ => rfl)) pe_int (nomark _)) (pss_one (ps_expr (pe_bm PySem.F.plainAttrs_list PySem.F.slot_list_insert PySem.F.type_list_insert mt_insert (pv 4) (pa_cons (pv 5) (pa_cons (pv 2) pa_nil))))) (pss_one (ps_if (pt_cmpR op_eq (pe_ix ix_list (pv 1) pe_int (fun _ _ => rfl)) pe_int (nomark _)) (pss_one (ps_expr (pe_bm PySem.F.plainAttrs_list PySem.F.slot_list_insert PySem.F.type_list_insert mt_insert (pv 4) (pa_cons (pv 5) (pa_cons (pe_op op_add (pe_op op_add (pv 2) pe_int) (pe_ix ix_list (pv 1) pe_int (fun _ _ => rfl))) pa_nil))))) (pss_one (ps_if (pt_cmpR op_eq (pe_ix ix_list (pv 1) pe_int (fun _ _ => rfl)) pe_int (nomark _)) (pss_one (ps_expr (pe_bm PySem.F.plainAttrs_list PySem.F.slot_list_insert PySem.F.type_list_insert mt_insert (pv 4) (pa_cons (pv 5) (pa_cons (pe_un un_neg pe_int) pa_nil))))) (pss_one (ps_if (pt_cmpR op_eq (pe_ix ix_list (pv 1) pe_int (fun _ _ => rfl)) pe_int (nomark _)) (pss_one (ps_expr (pe_bm PySem.F.plainAttrs_list PySem.F.slot_list_insert PySem.F.type_list_insert mt_insert (pv 4) (pa_cons (pv 5) (pa_cons (pe_op op_sub (pe_un un_neg pe_int) (pe_ix ix_list (pv 1) pe_int (fun _ _ => rfl))) pa_nil))))) (Evl.pss_cut (ps_if (pt_cmpR op_eq (pe_callB call_len_seq (by rfl) m_len (by decide +kernel) (pa_cons (pv 4) pa_nil)) pe_int (nomark _)) (pss_one (ps_expr (pe_bm PySem.F.plainAttrs_list PySem.F.slot_list_append PySem.F.type_list_append mt_append (pv 4) (pa_cons pe_int pa_nil)))) pss_nil)
      (pss_one (ps_expr (pe_bm PySem.F.plainAttrs_list PySem.F.slot_list_insert PySem.F.type_list_insert mt_insert (pv 4) (pa_cons (pv 5) (pa_cons (pe_ix ix_list (pv 4) (pe_op op_mod (pe_callTy call_int1 (by rfl) m_int (by decide +kernel) (pa_cons (pe_ix ix_list (pv 1) pe_int (fun _ _ => rfl)) pa_nil)) (pe_callB call_len_seq (by rfl) m_len (by decide +kernel) (pa_cons (pv 4) pa_nil))) (fun _ _ => rfl)) pa_nil)))))))))))))))))
      (pss_one (ps_ret (pe_tup (pa_cons (pv 3) (pa_cons (pe_callTy call_tuple_frz (by rfl) m_tuple (by decide +kernel) (pa_cons (pv 4) pa_nil)) pa_nil))))))))), ?_⟩
    have ln : ns.length ≤ n := ln
    refine ⟨.ref u, rfl, u, _, _, _, rfl, rfl, tup_t hu, atI_nat (j := 0) rfl, ?_⟩
    refine ⟨.ref u, rfl, u, _, _, _, rfl, rfl, tup_t hu, atI_nat (j := 1) rfl, l, _, rfl, .inr hl.sq, fun T nT => ?_⟩
    have s1 := same_upd (o := .lst (ns.map V.int)) nT
    have hf1 := s1 _ _ hf
    have hT : upd H T (.lst (ns.map V.int)) T = some (.lst (ns.map V.int)) := upd_same
    refine ⟨.ref f, rfl, f, _, _, _, rfl, rfl, lst_l hf1, atI_nat (j := 2) rfl, .inl ⟨f2, rfl, _, rfl, T, _, rfl, .inl (lst_l hT), _, _, rfl, rfl, ?_⟩⟩
    rw [List.length_map]
    refine ⟨_, _, rfl, rfl, (show (0 : Int) < (ns.length : Int) + 1 by omega), ?_⟩
    have j0 := Int.emod_nonneg f2 (show (ns.length : Int) + 1 ≠ 0 by omega)
    have j1 := Int.emod_lt_of_pos f2 (show (0 : Int) < (ns.length : Int) + 1 by omega)
    refine ⟨fun σ' H' => ∃ (b2 : Int) (ms : List Int), σ' = [some (.ref u), some (.ref f), some (.int m), some (.int (b2)), some (.ref T), some (.int (f2 % ((ns.length : Int) + 1)))] ∧ Same H H' ∧ H' T = some (.lst (ms.map V.int)) ∧ ms.length ≤ n + 2, ?_, ?_⟩
    · have s2 := s1
      generalize upd H T (.lst (ns.map V.int)) = H2 at s2 hf1 hT ⊢
      refine ⟨.ref f, rfl, f, _, _, _, rfl, rfl, lst_l hf1, atI_nat (j := 1) rfl, rfl, _, rfl, ite2 (fun _ => ⟨0, ns, rfl, s2, hT, by omega⟩) (fun _ => ⟨.ref f, rfl, f, _, _, _, rfl, rfl, lst_l hf1, atI_nat (j := 1) rfl, rfl, _, rfl, ite2 (fun _ => ⟨1, rfl, .ref f, rfl, f, _, _, _, rfl, rfl, lst_l hf1, atI_nat (j := 3) rfl, _, _, rfl, rfl, _, ns, rfl, s2, hT, by omega⟩) (fun _ => ⟨.ref f, rfl, f, _, _, _, rfl, rfl, lst_l hf1, atI_nat (j := 1) rfl, rfl, _, rfl, ite2 (fun _ => ⟨_, rfl, .inl ⟨rfl, _, lst_l hT⟩, _, rfl, _, rfl, T, _, _, _, rfl, rfl, hT, small1000 (by rw [List.length_map]; omega), by omega, by omega, ?_⟩) (fun _ => ⟨.ref f, rfl, f, _, _, _, rfl, rfl, lst_l hf1, atI_nat (j := 1) rfl, rfl, _, rfl, ite2 (fun _ => ⟨_, rfl, .inl ⟨rfl, _, lst_l hT⟩, _, rfl, _, rfl, _, _, rfl, rfl, .ref f, rfl, f, _, _, _, rfl, rfl, lst_l hf1, atI_nat (j := 3) rfl, _, _, rfl, rfl, T, _, _, _, rfl, rfl, hT, small1000 (by rw [List.length_map]; omega), by omega, by omega, ?_⟩) (fun _ => ⟨.ref f, rfl, f, _, _, _, rfl, rfl, lst_l hf1, atI_nat (j := 1) rfl, rfl, _, rfl, ite2 (fun _ => ⟨_, rfl, .inl ⟨rfl, _, lst_l hT⟩, _, rfl, 1, rfl, T, _, _, _, rfl, rfl, hT, small1000 (by rw [List.length_map]; omega), by omega, by omega, ?_⟩) (fun _ => ⟨.ref f, rfl, f, _, _, _, rfl, rfl, lst_l hf1, atI_nat (j := 1) rfl, rfl, _, rfl, ite2 (fun _ => ⟨_, rfl, .inl ⟨rfl, _, lst_l hT⟩, _, rfl, 2, rfl, .ref f, rfl, f, _, _, _, rfl, rfl, lst_l hf1, atI_nat (j := 3) rfl, _, _, rfl, rfl, T, _, _, _, rfl, rfl, hT, small1000 (by rw [List.length_map]; omega), by omega, by omega, ?_⟩) (fun _ => ?_)⟩)⟩)⟩)⟩)⟩)⟩
      · refine ⟨b, _, rfl, same_mut s2 nT, upd_same.trans (congrArg some (congrArg HO.lst (ins_ints _ _ _))), ?_⟩
        rw [ins_len]
        omega
      · refine ⟨b, _, rfl, same_mut s2 nT, upd_same.trans (congrArg some (congrArg HO.lst (ins_ints _ _ _))), ?_⟩
        rw [ins_len]
        omega
      · refine ⟨b, _, rfl, same_mut s2 nT, upd_same.trans (congrArg some (congrArg HO.lst (ins_ints _ _ _))), ?_⟩
        rw [ins_len]
        omega
      · refine ⟨b, _, rfl, same_mut s2 nT, upd_same.trans (congrArg some (congrArg HO.lst (ins_ints _ _ _))), ?_⟩
        rw [ins_len]
        omega
      · refine ⟨fun σ' H' => ∃ ms : List Int, σ' = [some (.ref u), some (.ref f), some (.int m), some (.int (b)), some (.ref T), some (.int (f2 % ((ns.length : Int) + 1)))] ∧ Same H H' ∧ H' f = some (.lst ([f0, f1, f2, f3].map V.int)) ∧ H' T = some (.lst (ms.map V.int)) ∧ 0 < ms.length ∧ ms.length ≤ n + 1, ?_, ?_⟩
        · refine ⟨_, rfl, T, _, rfl, .inl (lst_l hT), rfl, _, rfl, ite2 (fun c => ?_) (fun c => ?_)⟩
          · refine ⟨_, rfl, .inl ⟨rfl, _, lst_l hT⟩, T, _, _, rfl, rfl, hT, small1000 (by rw [List.length_map]; omega), ns ++ [0], rfl, same_mut s2 nT, ?_, by rw [upd_same, snoc_int], by rw [List.length_append]; exact Nat.succ_pos _, by rw [List.length_append]; exact Nat.succ_le_succ ln⟩
            have ne : f ≠ T := ne_of_none hf nT
            rw [upd_ne ne]
            exact hf1
          · refine ⟨ns, rfl, s2, hf1, hT, ?_, by omega⟩
            refine Nat.pos_of_ne_zero fun z => c (decide_eq_true (congrArg V.int ?_))
            rw [List.length_map, z]
            rfl
        · rintro σ' H' ⟨ms, rfl, s2, hf1, hT, m0, lm⟩
          have k0 := Int.emod_nonneg f3 (show (ms.length : Int) ≠ 0 by omega)
          have k1 := Int.emod_lt_of_pos f3 (show (0 : Int) < (ms.length : Int) by omega)
          obtain ⟨k, hk⟩ : ∃ k : Nat, f3 % (ms.length : Int) = (k : Int) := ⟨(f3 % (ms.length : Int)).toNat, by omega⟩
          have gk : ms[k]? = some ms[k] := List.getElem?_eq_getElem (by omega)
          refine ⟨_, rfl, .inl ⟨rfl, _, lst_l hT⟩, _, rfl, _, rfl, .ref f, rfl, f, _, _, _, rfl, rfl, lst_l hf1, atI_nat (j := 3) rfl, .inl ⟨f3, rfl, _, rfl, T, _, rfl, .inl (lst_l hT), ?_⟩⟩
          rw [List.length_map]
          have a3 : atI (ms.map V.int) (f3 % (ms.length : Int)) = some (.int ms[k]) := by
            rw [hk]
            exact atI_nat (int_at gk)
          refine ⟨_, _, rfl, rfl, (show (0 : Int) < (ms.length : Int) by omega), T, _, _, .int ms[k], rfl, rfl, lst_l hT, a3, ?_⟩
          refine ⟨T, _, _, _, rfl, rfl, hT, small1000 (by rw [List.length_map]; omega), by omega, by omega, ?_⟩
          refine ⟨b, _, rfl, same_mut s2 nT, upd_same.trans (congrArg some (congrArg HO.lst (ins_ints _ _ _))), ?_⟩
          rw [ins_len]
          omega
    rintro σ' H' ⟨b2, ms, rfl, s2, hT2, lm⟩
    exact ⟨_, rfl, _, rfl, T, _, rfl, lst_l hT2, fun t ot nt dn => ⟨(by show 2 ≤ sizeLine; decide), fun u2 nu2 => q _ u2 (b2, ms) (s2.trans ((same_upd nt).trans (same_upd nu2))) ⟨t, upd_same, ot, same_upd nu2 _ _ upd_same, dn⟩ lm⟩⟩
def sp__law_due : Sp := fun vs H Q _ => ∃ (L : Addr) (us : List Addr) (pw : List (Int × List Int)) (m : Int), vs = [.int m, .ref L] ∧ H L = some (.lst (us.map V.ref)) ∧ RowW H us pw ∧ us.length ≤ 900 ∧ (∀ w ∈ pw, w.2.length < 64) ∧ ∀ H' t, Same H H' → H' t = some (.tup (dueL m pw).due) → Q (.ref t) H' 
theorem ok__law_due {f : Addr} {fd : FuncData} {C_Listed C_BadNumber C_TooMany C_BadWish C_Unlike C_NoBuyers C_BadLot C_ShelfError : Addr} (F : Fun K "_law_due" "_law_due" s__law_due f fd) (T : Txt K mg C_Listed C_BadNumber C_TooMany C_BadWish C_Unlike C_NoBuyers C_BadLot C_ShelfError) (m_len : mg "len" = none) (m_range : mg "range" = none) : FnOk P w K mg base CX0 1 f fd ["_law_many", "_law_pairs"] sp__law_due := by
  refine F.ok sc__law_due (fun vs H Q E h => ?_) (fun cdv A outer s H vs Q E hr h => ?_)
  · obtain ⟨L, us, pw, m, rfl, _⟩ := h
    rfl
  · obtain ⟨L, us, pw, m, rfl, hL, row, ul, lw, q⟩ := h
    refine ⟨_, (pss_cons (ps_if (pt_cmpR op_gt (pv 0) pe_int (nomark _)) (pss_one (ps_ret (pe_tup (pa_cons pe_str (pa_cons (pv 0) (pa_cons pe_int pa_nil)))))) pss_nil)
      (pss_cons (ps_if (pt_cmpR op_eq (pe_callB call_len_seq (by rfl) m_len (by decide +kernel) (pa_cons (pv 1) pa_nil)) pe_int (nomark _)) (pss_one (ps_ret (pe_tup (pa_cons pe_str pa_nil)))) pss_nil)
      (pss_cons (ps_for PassesOwn.never rfl (pi_range1 (by rfl) m_range (pa_cons (pe_callB call_len_seq (by rfl) m_len (by decide +kernel) (pa_cons (pv 1) pa_nil)) pa_nil)) (pg_name (i := 2) sc__law_due.nd rfl (Or.inl rfl))
      (pss_cons (ps_if (pt_cmpR op_lt (pe_ix ix_tup (pe_ix ix_list (pv 1) (pv 2) (fun _ _ => rfl)) pe_int (fun _ _ => rfl)) pe_int (nomark _)) (pss_one (ps_ret (pe_tup (pa_cons pe_str (pa_cons pe_str (pa_cons (pv 2) pa_nil)))))) pss_nil)
      (pss_one (ps_for PassesOwn.never rfl (pi_tup (pe_ix ix_tup (pe_ix ix_list (pv 1) (pv 2) (fun _ _ => rfl)) pe_int (fun _ _ => rfl))) (pg_name (i := 3) sc__law_due.nd rfl (Or.inl rfl))
      (pss_one (ps_if (PW.pt (pw_or (pt_cmpR op_lt (pv 3) pe_int (nomark _)) (pw_or (pt_cmpR op_ge (pv 3) (pv 0) (nomark _)) (pw_or1 (pt_cmpR op_ne (pe_cntT (pe_ix ix_tup (pe_ix ix_list (pv 1) (pv 2) (fun _ _ => rfl)) pe_int (fun _ _ => rfl)) (pa_cons (pv 3) pa_nil)) pe_int (nomark _)))))) (pss_one (ps_ret (pe_tup (pa_cons pe_str (pa_cons (pv 2) pa_nil))))) pss_nil))))))
      (pss_one (ps_ret (pe_tup (pa_cons pe_str pa_nil))))))), ?_⟩
    have qd : ∀ d, dueL m pw = d → ∀ H' t, Same H H' → H' t = some (.tup d.due) → Q (.ref t) H' := fun d e => e ▸ q
    have rl := row.1
    refine ⟨_, rfl, _, _, rfl, rfl, _, rfl, ite2 (fun c => ?_) (fun c => ?_)⟩
    · exact ⟨_, rfl, (by show 3 ≤ sizeLine; decide), fun t nt => qd (.many m) (due_many (of_decide_eq_true c)) _ t (same_upd nt) upd_same⟩
    have e24 : ¬ m > 24 := fun z => c (decide_eq_true z)
    refine ⟨_, rfl, L, _, rfl, .inl (lst_l hL), rfl, _, rfl, ite2 (fun c => ?_) (fun c => ?_)⟩
    · have c := V.int.inj (of_decide_eq_true c)
      rw [List.length_map] at c
      exact ⟨(by show 1 ≤ sizeLine; decide), fun t nt => qd .none (due_none e24 (by omega)) _ t (same_upd nt) upd_same⟩
    have c0 : ¬ pw.length = 0 := fun z => c (decide_eq_true (congrArg V.int (by rw [List.length_map]; omega)))
    have dr := due_rest (pw := pw) e24 c0
    refine ⟨_, rfl, L, _, rfl, .inl (lst_l hL), _, rfl, ?_⟩
    rw [List.length_map]
    refine ⟨by omega, by omega, ?_⟩
    rw [Int.toNat_natCast]
    refine for_range (lo := 0) (n := us.length) (fun i σ H2 => ∃ y1 y2 : Option V, σ = [some (.int m), some (.ref L), y1, y2] ∧ H2 = H ∧ badL m pw 0 = badL m (pw.drop i) i) ⟨none, none, rfl, rfl, rfl⟩ ?_ ?_
    · rintro i σ H2 hi ⟨y1, y2, rfl, rfl, hb⟩
      have h1 : us[i]? = some us[i] := List.getElem?_eq_getElem hi
      have h2 : pw[i]? = some pw[i] := List.getElem?_eq_getElem (by omega)
      have v1 : (us.map V.ref)[i]? = some (.ref us[i]) := by rw [List.getElem?_map, h1]; rfl
      have hd := drop_pair h2
      obtain ⟨l, hu, ol, hl, dl⟩ := row.2 i _ _ h1 h2
      generalize pw[i] = w at hu hl hd h2
      obtain ⟨b, ns⟩ := w
      have hl : H2 l = some (.frz ol (.tup (ns.map V.int))) := hl
      rw [hd] at hb
      refine ⟨_, rfl, _, rfl, L, _, _, _, rfl, rfl, lst_l hL, at_of (Int.zero_add _) v1, us[i], _, _, _, rfl, rfl, tup_t hu, atI_nat (j := 0) rfl, _, _, rfl, rfl, _, rfl, ite2 (fun c => ?_) (fun c => ?_)⟩
      · have c : b < 1 := of_decide_eq_true c
        exact ⟨_, rfl, (by show 3 ≤ sizeLine; decide), fun t nt => qd (.num i) (by rw [dr, hb, badL_num c]) _ t (same_upd nt) (by rw [upd_same, Int.zero_add]; rfl)⟩
      have c : ¬ b < 1 := fun z => c (decide_eq_true z)
      refine ⟨_, rfl, _, rfl, L, _, _, _, rfl, rfl, lst_l hL, at_of (Int.zero_add _) v1, us[i], _, _, _, rfl, rfl, tup_t hu, atI_nat (j := 1) rfl, l, rfl, ⟨_, .inl (.inr ⟨ol, hl⟩)⟩, for_tup (K := K) (a := l) (xs := ns.map V.int) (fun j σ H3 => ∃ y3 : Option V, σ = [some (.int m), some (.ref L), some (.int (0 + (i : Int))), y3] ∧ H3 = H2 ∧ ∀ x ∈ ns.take j, 0 ≤ x ∧ x < m ∧ ns.count x = 1) ⟨y2, rfl, rfl, fun x hx => absurd hx (by simp)⟩ (fun j σ H3 _ ⟨_, _, e, _⟩ => e ▸ .inl (.inr ⟨ol, hl⟩)) ?_ ?_⟩
      · rintro j x σ H3 hj ⟨y3, rfl, rfl, ok⟩
        obtain ⟨n, rfl, hjn⟩ := int_of hj
        have mem := List.mem_of_getElem? hjn
        refine ⟨_, rfl, _, _, rfl, rfl, _, rfl, ite2 (fun c1 => ?_) (fun c1 => ⟨_, rfl, _, rfl, _, _, rfl, rfl, _, rfl, ite2 (fun c2 => ?_) (fun c2 => ⟨_, rfl, _, rfl, L, _, _, _, rfl, rfl, lst_l hL, at_of (Int.zero_add _) v1, us[i], _, _, _, rfl, rfl, tup_t hu, atI_nat (j := 1) rfl, l, ol, ns, rfl, hl, dl, _, rfl, n, rfl, .inl (.inr ⟨ol, hl⟩), rfl, _, rfl, ite2N (fun c3 => ?_) (fun c3 => ?_)⟩)⟩)⟩
        · have c1 : n < 0 := of_decide_eq_true c1
          exact ⟨_, rfl, (by show 2 ≤ sizeLine; decide), fun t nt => qd (.wish i) (by rw [dr, hb, badL_wish c (fun z => by have := (fit_all.mp z n mem).1; omega)]) _ t (same_upd nt) (by rw [upd_same, Int.zero_add]; rfl)⟩
        · have c2 : n ≥ m := of_decide_eq_true c2
          exact ⟨_, rfl, (by show 2 ≤ sizeLine; decide), fun t nt => qd (.wish i) (by rw [dr, hb, badL_wish c (fun z => by have := (fit_all.mp z n mem).2.1; omega)]) _ t (same_upd nt) (by rw [upd_same, Int.zero_add]; rfl)⟩
        · exact ⟨_, rfl, (by show 2 ≤ sizeLine; decide), fun t nt => qd (.wish i) (by rw [dr, hb, badL_wish c (fun z => c3 (congrArg V.int (by rw [(fit_all.mp z n mem).2.2]; rfl)))]) _ t (same_upd nt) (by rw [upd_same, Int.zero_add]; rfl)⟩
        · have c1 : ¬ n < 0 := fun z => c1 (decide_eq_true z)
          have c2 : ¬ n ≥ m := fun z => c2 (decide_eq_true z)
          have c3 := V.int.inj c3
          refine ⟨_, rfl, rfl, fun x hx => ?_⟩
          rw [List.take_add_one, hjn] at hx
          rcases List.mem_append.mp hx with hx | hx
          · exact ok x hx
          · have e : x = n := by simpa using hx
            rw [e]
            exact ⟨by omega, by omega, by omega⟩
      · rintro σ H3 ⟨y3, rfl, rfl, ok⟩
        rw [List.length_map, List.take_length] at ok
        exact ⟨_, _, rfl, rfl, by rw [hb, badL_next c (fit_all.mpr ok)]⟩
    · rintro σ H2 ⟨y1, y2, rfl, rfl, hb⟩
      rw [rl, List.drop_length] at hb
      exact ⟨(by show 1 ≤ sizeLine; decide), fun t nt => qd .made (by rw [dr, hb]; rfl) _ t (same_upd nt) upd_same⟩
def sp__law_asked : Sp := fun vs H Q _ => ∃ (L : Addr) (us : List Addr) (pw : List (Int × List Int)) (m : Int), vs = [.int m, .ref L] ∧ H L = some (.lst (us.map V.ref)) ∧ RowW H us pw ∧ us.length ≤ 900 ∧ (∀ w ∈ pw, w.2.length < 64) ∧ ∀ H' t, Same H H' → H' t = some (.tup (dueL m pw).due) → Q (.ref t) H' 
theorem ok__law_asked {f : Addr} {fd : FuncData} {C_Listed C_BadNumber C_TooMany C_BadWish C_Unlike C_NoBuyers C_BadLot C_ShelfError : Addr} (F : Fun K "_law_asked" "_law_asked" s__law_asked f fd) (T : Txt K mg C_Listed C_BadNumber C_TooMany C_BadWish C_Unlike C_NoBuyers C_BadLot C_ShelfError) (c_Listed___init__ : CalI P w K mg base (L2.CX P w) 5 C_Listed ["self", "many", "wishes"] (sp_Listed___init__ C_Listed C_TooMany C_NoBuyers C_BadNumber C_BadWish) []) : FnOk P w K mg base CX0 7 f fd ["_law_many", "_law_pairs"] sp__law_asked := by
  refine F.ok sc__law_asked (fun vs H Q E h => ?_) (fun cdv A outer s H vs Q E hr h => ?_)
  · obtain ⟨L, us, pw, m, rfl, _⟩ := h
    rfl
  · obtain ⟨L, us, pw, m, rfl, hL, row, ul, lw, q⟩ := h
    obtain ⟨f_Listed___init__, fd_Listed___init__, G_Listed___init__, M_Listed___init__, b_Listed___init__, ds_Listed___init__, vd_Listed___init__, bd_Listed___init__⟩ := c_Listed___init__
    refine ⟨_, (pss_cons (ps_try_asM (out := fun _ _ _ _ => False) rfl rfl sc__law_asked.nd takes0
      (fun W pn xe tk _ => (pss_one (ps_expr (pe_makeS M_Listed___init__ G_Listed___init__ (hr.mono (by decide)) (by rfl) T.g_Listed b_Listed___init__ .nil (fun σ => passAt tk σ) (pa_cons (pv 0) (pa_cons (pv 1) pa_nil))))))
      (.cons (i := 2) ⟨rfl, by decide, Or.inl T.g_TooMany⟩ rfl rfl (fun a oe cls d pn hz hf => (pss_one (ps_ret (pe_tup (pa_cons pe_str (pa_cons (pe_xf T.xf_TooMany T.n_TooMany_many hz hf (pv 2)) (pa_cons (pe_xf T.xf_TooMany T.n_TooMany_most hz hf (pv 2)) pa_nil)))))))
      (.bare (i := 1000) ⟨rfl, by decide, Or.inl T.g_NoBuyers⟩ (by show 3 ≤ 1000; decide) (fun a oe cls d pn hz hf => (pss_one (ps_ret (pe_tup (pa_cons pe_str pa_nil)))))
      (.cons (i := 2) ⟨rfl, by decide, Or.inl T.g_BadNumber⟩ rfl rfl (fun a oe cls d pn hz hf => (pss_one (ps_ret (pe_tup (pa_cons pe_str (pa_cons (pe_xf T.xf_BadNumber T.n_BadNumber_what hz hf (pv 2)) (pa_cons (pe_xf T.xf_BadNumber T.n_BadNumber_at hz hf (pv 2)) pa_nil)))))))
      (.cons (i := 2) ⟨rfl, by decide, Or.inl T.g_BadWish⟩ rfl rfl (fun a oe cls d pn hz hf => (pss_one (ps_ret (pe_tup (pa_cons pe_str (pa_cons (pe_xf T.xf_BadWish T.n_BadWish_at hz hf (pv 2)) pa_nil))))))
      .nil)))))
      (pss_one (ps_ret (pe_tup (pa_cons pe_str pa_nil))))), ?_⟩
    have qd : ∀ d, dueL m pw = d → ∀ H' t, Same H H' → H' t = some (.tup d.due) → Q (.ref t) H' := fun d e => e ▸ q
    refine ⟨_, rfl, _, rfl, fun x dx nx nd _ => ⟨x, dx, L, us, pw, m, rfl, upd_same, made1 nx nd _ _ hL, row.same (made1 nx nd), ul, lw, fun n e H' d sx hd => ?_, fun e H' sx => ?_, fun k e H' d sx hd => ?_, fun k e H' d sx hd => ?_, fun e H' sx la => ⟨rfl, ?_⟩⟩⟩
    · exact ⟨true, T.exm_TooMany_TooMany, fun _ a0 na => ⟨.ref a0, rfl, rfl, rfl, d, _, _, rfl, hd, by rfl, .ref a0, rfl, rfl, rfl, d, _, _, rfl, hd, by rfl, (by show 3 ≤ sizeLine; decide), fun t nt => qd _ e _ t ((sameX_made nx nd sx).trans (same_upd nt)) upd_same⟩, fun z => Bool.noConfusion z⟩
    · exact ⟨false, T.exm_NoBuyers_TooMany, fun z => Bool.noConfusion z, fun _ => ⟨true, T.exm_NoBuyers_NoBuyers, fun _ a0 na => ⟨(by show 1 ≤ sizeLine; decide), fun t nt => qd _ e _ t ((sameX_made nx nd sx).trans (same_upd nt)) upd_same⟩, fun z => Bool.noConfusion z⟩⟩
    · exact ⟨false, T.exm_BadNumber_TooMany, fun z => Bool.noConfusion z, fun _ => ⟨false, T.exm_BadNumber_NoBuyers, fun z => Bool.noConfusion z, fun _ => ⟨true, T.exm_BadNumber_BadNumber, fun _ a0 na => ⟨.ref a0, rfl, rfl, rfl, d, _, _, rfl, hd, by rfl, .ref a0, rfl, rfl, rfl, d, _, _, rfl, hd, by rfl, (by show 3 ≤ sizeLine; decide), fun t nt => qd _ e _ t ((sameX_made nx nd sx).trans (same_upd nt)) upd_same⟩, fun z => Bool.noConfusion z⟩⟩⟩
    · exact ⟨false, T.exm_BadWish_TooMany, fun z => Bool.noConfusion z, fun _ => ⟨false, T.exm_BadWish_NoBuyers, fun z => Bool.noConfusion z, fun _ => ⟨false, T.exm_BadWish_BadNumber, fun z => Bool.noConfusion z, fun _ => ⟨true, T.exm_BadWish_BadWish, fun _ a0 na => ⟨.ref a0, rfl, rfl, rfl, d, _, _, rfl, hd, by rfl, (by show 2 ≤ sizeLine; decide), fun t nt => qd _ e _ t ((sameX_made nx nd sx).trans (same_upd nt)) upd_same⟩, fun z => Bool.noConfusion z⟩⟩⟩⟩
    · exact ⟨(by show 1 ≤ sizeLine; decide), fun t nt => qd _ e _ t ((sameX_made nx nd sx).trans (same_upd nt)) upd_same⟩
def sp__law_classes : Sp := fun vs H Q _ => ∃ (L : Addr) (us : List Addr) (pw : List (Int × List Int)) (m : Int), vs = [.int m, .ref L] ∧ H L = some (.lst (us.map V.ref)) ∧ RowW H us pw ∧ us.length ≤ 900 ∧ (∀ w ∈ pw, w.2.length < 64) ∧ ∀ H' t, Same H H' → H' t = some (.lst (dueL m pw).cls) → Q (.ref t) H' 
theorem ok__law_classes {f : Addr} {fd : FuncData} {C_Listed C_BadNumber C_TooMany C_BadWish C_Unlike C_NoBuyers C_BadLot C_ShelfError : Addr} (F : Fun K "_law_classes" "_law_classes" s__law_classes f fd) (T : Txt K mg C_Listed C_BadNumber C_TooMany C_BadWish C_Unlike C_NoBuyers C_BadLot C_ShelfError) (m_ValueError : mg "ValueError" = none) (m_isinstance : mg "isinstance" = none) (c_Listed___init__ : CalI P w K mg base (L2.CX P w) 5 C_Listed ["self", "many", "wishes"] (sp_Listed___init__ C_Listed C_TooMany C_NoBuyers C_BadNumber C_BadWish) []) : FnOk P w K mg base CX0 7 f fd ["_law_many", "_law_pairs"] sp__law_classes := by
  refine F.ok sc__law_classes (fun vs H Q E h => ?_) (fun cdv A outer s H vs Q E hr h => ?_)
  · obtain ⟨L, us, pw, m, rfl, _⟩ := h
    rfl
  · obtain ⟨L, us, pw, m, rfl, hL, row, ul, lw, q⟩ := h
    obtain ⟨f_Listed___init__, fd_Listed___init__, G_Listed___init__, M_Listed___init__, b_Listed___init__, ds_Listed___init__, vd_Listed___init__, bd_Listed___init__⟩ := c_Listed___init__
    refine ⟨_, (pss_cons (ps_try_as (i := 2) (Wout := fun _ _ _ _ => False) rfl rfl sc__law_classes.nd rfl rfl ⟨rfl, by decide, Or.inl T.g_ShelfError⟩ takes0
      (fun W pn xe tk _ => (pss_one (ps_expr (pe_makeS M_Listed___init__ G_Listed___init__ (hr.mono (by decide)) (by rfl) T.g_Listed b_Listed___init__ .nil (fun σ => passAt tk σ) (pa_cons (pv 0) (pa_cons (pv 1) pa_nil))))))
      (fun a oe cls d pn hz hf => (pss_cons (ps_set (i := 3) sc__law_classes.nd rfl (Or.inl rfl) (pe_lst (pa_cons (pe_callB (call_isY (K := K) hz hf) (by rfl) m_isinstance (by decide +kernel) (pa_cons (pv 2) (pa_cons (pe_glob (v := .ref C_TooMany) (by rfl) T.g_TooMany rfl) pa_nil))) (pa_cons (pe_callB (call_isY (K := K) hz hf) (by rfl) m_isinstance (by decide +kernel) (pa_cons (pv 2) (pa_cons (pe_glob (v := .ref C_NoBuyers) (by rfl) T.g_NoBuyers rfl) pa_nil))) (pa_cons (pe_callB (call_isY (K := K) hz hf) (by rfl) m_isinstance (by decide +kernel) (pa_cons (pv 2) (pa_cons (pe_glob (v := .ref C_BadNumber) (by rfl) T.g_BadNumber rfl) pa_nil))) (pa_cons (pe_callB (call_isY (K := K) hz hf) (by rfl) m_isinstance (by decide +kernel) (pa_cons (pv 2) (pa_cons (pe_glob (v := .ref C_BadWish) (by rfl) T.g_BadWish rfl) pa_nil))) pa_nil))))))
      (pss_one (ps_ret (pe_op op_cat (pv 3) (pe_lst (pa_cons (pe_callB (call_isY (K := K) hz hf) (by rfl) m_isinstance (by decide +kernel) (pa_cons (pv 2) (pa_cons (pe_glob (v := .ref C_BadLot) (by rfl) T.g_BadLot rfl) pa_nil))) (pa_cons (pe_callB (call_isY (K := K) hz hf) (by rfl) m_isinstance (by decide +kernel) (pa_cons (pv 2) (pa_cons (pe_glob (v := .ref C_Unlike) (by rfl) T.g_Unlike rfl) pa_nil))) (pa_cons (pe_callB (call_isY (K := K) hz hf) (by rfl) m_isinstance (by decide +kernel) (pa_cons (pv 2) (pa_cons (pe_bltn (v := .ty "ValueError") (by rfl) m_ValueError (by decide +kernel) rfl) pa_nil))) pa_nil))))))))))
      (pss_one (ps_ret (pe_lst pa_nil)))), ?_⟩
    have qd : ∀ d, dueL m pw = d → ∀ H' t, Same H H' → H' t = some (.lst d.cls) → Q (.ref t) H' := fun d e => e ▸ q
    refine ⟨_, rfl, _, rfl, fun x dx nx nd _ => ⟨x, dx, L, us, pw, m, rfl, upd_same, made1 nx nd _ _ hL, row.same (made1 nx nd), ul, lw, fun n e H' d sx hd => ?_, fun e H' sx => ?_, fun k e H' d sx hd => ?_, fun k e H' d sx hd => ?_, fun e H' sx la => ⟨rfl, ?_⟩⟩⟩
    · exact ⟨true, T.exm_TooMany_ShelfError, fun _ a0 na => ⟨.ref a0, rfl, C_TooMany, T.ec_TooMany, rfl, .inr ⟨d, _, rfl, hd⟩, .ref C_TooMany, .ref C_TooMany, true, rfl, fun _ r => r, T.kit_TooMany_TooMany, .ref a0, rfl, C_TooMany, T.ec_TooMany, rfl, .inr ⟨d, _, rfl, hd⟩, .ref C_NoBuyers, .ref C_NoBuyers, false, rfl, fun _ r => r, T.kit_TooMany_NoBuyers, .ref a0, rfl, C_TooMany, T.ec_TooMany, rfl, .inr ⟨d, _, rfl, hd⟩, .ref C_BadNumber, .ref C_BadNumber, false, rfl, fun _ r => r, T.kit_TooMany_BadNumber, .ref a0, rfl, C_TooMany, T.ec_TooMany, rfl, .inr ⟨d, _, rfl, hd⟩, .ref C_BadWish, .ref C_BadWish, false, rfl, fun _ r => r, T.kit_TooMany_BadWish, (by show 4 ≤ sizeLine; decide), fun p np => ⟨_, rfl, .ref a0, rfl, C_TooMany, T.ec_TooMany, rfl, .inr ⟨d, _, rfl, (same_upd np _ _ hd)⟩, .ref C_BadLot, .ref C_BadLot, false, rfl, fun _ r => r, T.kit_TooMany_BadLot, .ref a0, rfl, C_TooMany, T.ec_TooMany, rfl, .inr ⟨d, _, rfl, (same_upd np _ _ hd)⟩, .ref C_Unlike, .ref C_Unlike, false, rfl, fun _ r => r, T.kit_TooMany_Unlike, .ref a0, rfl, C_TooMany, T.ec_TooMany, rfl, .inr ⟨d, _, rfl, (same_upd np _ _ hd)⟩, .ty "ValueError", .type "ValueError", true, rfl, fun _ r => r, T.kit_TooMany_ValueError, (by show 3 ≤ sizeLine; decide), fun p2 np2 => ⟨p, p2, _, _, rfl, rfl, same_upd np2 _ _ upd_same, upd_same, (by show 7 ≤ sizeLine; decide), fun t nt => qd _ e _ t ((sameX_made nx nd sx).trans (((same_upd np).trans (same_upd np2)).trans (same_upd nt))) upd_same⟩⟩⟩, fun z => Bool.noConfusion z⟩
    · exact ⟨true, T.exm_NoBuyers_ShelfError, fun _ a0 na => ⟨.ref a0, rfl, C_NoBuyers, T.ec_NoBuyers, rfl, .inl rfl, .ref C_TooMany, .ref C_TooMany, false, rfl, fun _ r => r, T.kit_NoBuyers_TooMany, .ref a0, rfl, C_NoBuyers, T.ec_NoBuyers, rfl, .inl rfl, .ref C_NoBuyers, .ref C_NoBuyers, true, rfl, fun _ r => r, T.kit_NoBuyers_NoBuyers, .ref a0, rfl, C_NoBuyers, T.ec_NoBuyers, rfl, .inl rfl, .ref C_BadNumber, .ref C_BadNumber, false, rfl, fun _ r => r, T.kit_NoBuyers_BadNumber, .ref a0, rfl, C_NoBuyers, T.ec_NoBuyers, rfl, .inl rfl, .ref C_BadWish, .ref C_BadWish, false, rfl, fun _ r => r, T.kit_NoBuyers_BadWish, (by show 4 ≤ sizeLine; decide), fun p np => ⟨_, rfl, .ref a0, rfl, C_NoBuyers, T.ec_NoBuyers, rfl, .inl rfl, .ref C_BadLot, .ref C_BadLot, false, rfl, fun _ r => r, T.kit_NoBuyers_BadLot, .ref a0, rfl, C_NoBuyers, T.ec_NoBuyers, rfl, .inl rfl, .ref C_Unlike, .ref C_Unlike, false, rfl, fun _ r => r, T.kit_NoBuyers_Unlike, .ref a0, rfl, C_NoBuyers, T.ec_NoBuyers, rfl, .inl rfl, .ty "ValueError", .type "ValueError", true, rfl, fun _ r => r, T.kit_NoBuyers_ValueError, (by show 3 ≤ sizeLine; decide), fun p2 np2 => ⟨p, p2, _, _, rfl, rfl, same_upd np2 _ _ upd_same, upd_same, (by show 7 ≤ sizeLine; decide), fun t nt => qd _ e _ t ((sameX_made nx nd sx).trans (((same_upd np).trans (same_upd np2)).trans (same_upd nt))) upd_same⟩⟩⟩, fun z => Bool.noConfusion z⟩
    · exact ⟨true, T.exm_BadNumber_ShelfError, fun _ a0 na => ⟨.ref a0, rfl, C_BadNumber, T.ec_BadNumber, rfl, .inr ⟨d, _, rfl, hd⟩, .ref C_TooMany, .ref C_TooMany, false, rfl, fun _ r => r, T.kit_BadNumber_TooMany, .ref a0, rfl, C_BadNumber, T.ec_BadNumber, rfl, .inr ⟨d, _, rfl, hd⟩, .ref C_NoBuyers, .ref C_NoBuyers, false, rfl, fun _ r => r, T.kit_BadNumber_NoBuyers, .ref a0, rfl, C_BadNumber, T.ec_BadNumber, rfl, .inr ⟨d, _, rfl, hd⟩, .ref C_BadNumber, .ref C_BadNumber, true, rfl, fun _ r => r, T.kit_BadNumber_BadNumber, .ref a0, rfl, C_BadNumber, T.ec_BadNumber, rfl, .inr ⟨d, _, rfl, hd⟩, .ref C_BadWish, .ref C_BadWish, false, rfl, fun _ r => r, T.kit_BadNumber_BadWish, (by show 4 ≤ sizeLine; decide), fun p np => ⟨_, rfl, .ref a0, rfl, C_BadNumber, T.ec_BadNumber, rfl, .inr ⟨d, _, rfl, (same_upd np _ _ hd)⟩, .ref C_BadLot, .ref C_BadLot, false, rfl, fun _ r => r, T.kit_BadNumber_BadLot, .ref a0, rfl, C_BadNumber, T.ec_BadNumber, rfl, .inr ⟨d, _, rfl, (same_upd np _ _ hd)⟩, .ref C_Unlike, .ref C_Unlike, false, rfl, fun _ r => r, T.kit_BadNumber_Unlike, .ref a0, rfl, C_BadNumber, T.ec_BadNumber, rfl, .inr ⟨d, _, rfl, (same_upd np _ _ hd)⟩, .ty "ValueError", .type "ValueError", true, rfl, fun _ r => r, T.kit_BadNumber_ValueError, (by show 3 ≤ sizeLine; decide), fun p2 np2 => ⟨p, p2, _, _, rfl, rfl, same_upd np2 _ _ upd_same, upd_same, (by show 7 ≤ sizeLine; decide), fun t nt => qd _ e _ t ((sameX_made nx nd sx).trans (((same_upd np).trans (same_upd np2)).trans (same_upd nt))) upd_same⟩⟩⟩, fun z => Bool.noConfusion z⟩
    · exact ⟨true, T.exm_BadWish_ShelfError, fun _ a0 na => ⟨.ref a0, rfl, C_BadWish, T.ec_BadWish, rfl, .inr ⟨d, _, rfl, hd⟩, .ref C_TooMany, .ref C_TooMany, false, rfl, fun _ r => r, T.kit_BadWish_TooMany, .ref a0, rfl, C_BadWish, T.ec_BadWish, rfl, .inr ⟨d, _, rfl, hd⟩, .ref C_NoBuyers, .ref C_NoBuyers, false, rfl, fun _ r => r, T.kit_BadWish_NoBuyers, .ref a0, rfl, C_BadWish, T.ec_BadWish, rfl, .inr ⟨d, _, rfl, hd⟩, .ref C_BadNumber, .ref C_BadNumber, false, rfl, fun _ r => r, T.kit_BadWish_BadNumber, .ref a0, rfl, C_BadWish, T.ec_BadWish, rfl, .inr ⟨d, _, rfl, hd⟩, .ref C_BadWish, .ref C_BadWish, true, rfl, fun _ r => r, T.kit_BadWish_BadWish, (by show 4 ≤ sizeLine; decide), fun p np => ⟨_, rfl, .ref a0, rfl, C_BadWish, T.ec_BadWish, rfl, .inr ⟨d, _, rfl, (same_upd np _ _ hd)⟩, .ref C_BadLot, .ref C_BadLot, false, rfl, fun _ r => r, T.kit_BadWish_BadLot, .ref a0, rfl, C_BadWish, T.ec_BadWish, rfl, .inr ⟨d, _, rfl, (same_upd np _ _ hd)⟩, .ref C_Unlike, .ref C_Unlike, false, rfl, fun _ r => r, T.kit_BadWish_Unlike, .ref a0, rfl, C_BadWish, T.ec_BadWish, rfl, .inr ⟨d, _, rfl, (same_upd np _ _ hd)⟩, .ty "ValueError", .type "ValueError", true, rfl, fun _ r => r, T.kit_BadWish_ValueError, (by show 3 ≤ sizeLine; decide), fun p2 np2 => ⟨p, p2, _, _, rfl, rfl, same_upd np2 _ _ upd_same, upd_same, (by show 7 ≤ sizeLine; decide), fun t nt => qd _ e _ t ((sameX_made nx nd sx).trans (((same_upd np).trans (same_upd np2)).trans (same_upd nt))) upd_same⟩⟩⟩, fun z => Bool.noConfusion z⟩
    · exact ⟨Nat.zero_le _, fun t nt => qd _ e _ t ((sameX_made nx nd sx).trans (same_upd nt)) upd_same⟩
def sp__law_like : Sp := fun vs H Q _ => ∃ (a b : Addr) (xs : List V), vs = [.ref a, .ref b] ∧ H a = some (.tup xs) ∧ H b = some (.tup xs) ∧ xs.length ≤ 10 ∧ (∀ x ∈ xs, (∃ s, x = .str s) ∨ ∃ n, x = .int n) ∧ Q (.bl true) H
theorem ok__law_like {f : Addr} {fd : FuncData} {C_Listed C_BadNumber C_TooMany C_BadWish C_Unlike C_NoBuyers C_BadLot C_ShelfError : Addr} (F : Fun K "_law_like" "_law_like" s__law_like f fd) (T : Txt K mg C_Listed C_BadNumber C_TooMany C_BadWish C_Unlike C_NoBuyers C_BadLot C_ShelfError) (m_isinstance : mg "isinstance" = none) (m_len : mg "len" = none) (m_range : mg "range" = none) (m_str : mg "str" = none) (c__law_is_int : Cal P w K mg base CX0 1 "_law_is_int" ["_law_x"] sp__law_is_int) : FnOk P w K mg base CX0 2 f fd ["_law_told", "_law_due_here"] sp__law_like := by
  refine F.ok sc__law_like (fun vs H Q E h => ?_) (fun cdv A outer s H vs Q E hr h => ?_)
  · obtain ⟨a, b, xs, rfl, _⟩ := h
    rfl
  · obtain ⟨a, b, xs, rfl, ha, hb, xl, kind, q⟩ := h
    obtain ⟨f__law_is_int, fd__law_is_int, G__law_is_int, m__law_is_int, k__law_is_int, b__law_is_int⟩ := c__law_is_int
    refine ⟨_, (pss_cons (ps_if (pt_cmpR op_ne (pe_callB call_len_seq (by rfl) m_len (by decide +kernel) (pa_cons (pv 0) pa_nil)) (pe_callB call_len_seq (by rfl) m_len (by decide +kernel) (pa_cons (pv 1) pa_nil)) (nomark _)) (pss_one (ps_ret pe_bl)) pss_nil)
      (pss_cons (ps_for PassesOwn.never rfl (pi_range1 (by rfl) m_range (pa_cons (pe_callB call_len_seq (by rfl) m_len (by decide +kernel) (pa_cons (pv 1) pa_nil)) pa_nil)) (pg_name (i := 2) sc__law_like.nd rfl (Or.inl rfl))
      (pss_one (ps_if (pt_val (pe_callB call_isi (by rfl) m_isinstance (by decide +kernel) (pa_cons (pe_ix ix_tup (pv 1) (pv 2) (fun _ _ => rfl)) (pa_cons (pe_bltn (v := .ty "str") (by rfl) m_str (by decide +kernel) rfl) pa_nil)))) (pss_one (ps_if (PW.pt (pw_or (pt_not (pt_val (pe_callB call_isi (by rfl) m_isinstance (by decide +kernel) (pa_cons (pe_ix ix_tup (pv 0) (pv 2) (fun _ _ => rfl)) (pa_cons (pe_bltn (v := .ty "str") (by rfl) m_str (by decide +kernel) rfl) pa_nil))))) (pw_or1 (pt_cmpR op_ne (pe_ix ix_tup (pv 0) (pv 2) (fun _ _ => rfl)) (pe_ix ix_tup (pv 1) (pv 2) (fun _ _ => rfl)) (nomark _))))) (pss_one (ps_ret pe_bl)) pss_nil)) (pss_one (ps_if (PW.pt (pw_or (pt_not (pt_val (pe_call G__law_is_int (hr.mono (by decide)) (by rfl) m__law_is_int k__law_is_int b__law_is_int .nil pass0 (pa_cons (pe_ix ix_tup (pv 0) (pv 2) (fun _ _ => rfl)) pa_nil)))) (pw_or1 (pt_cmpR op_ne (pe_ix ix_tup (pv 0) (pv 2) (fun _ _ => rfl)) (pe_ix ix_tup (pv 1) (pv 2) (fun _ _ => rfl)) (nomark _))))) (pss_one (ps_ret pe_bl)) pss_nil)))))
      (pss_one (ps_ret pe_bl)))), ?_⟩
    refine ⟨_, rfl, a, _, rfl, .inr (tup_t ha), _, rfl, b, _, rfl, .inr (tup_t hb), rfl, _, rfl, iteNS rfl ?_⟩
    refine ⟨_, rfl, b, _, rfl, .inr (tup_t hb), _, rfl, by omega, by omega, ?_⟩
    rw [Int.toNat_natCast]
    refine for_range (lo := 0) (n := xs.length) (fun i σ H2 => ∃ (y : Option V), σ = [some (.ref a), some (.ref b), y] ∧ H2 = H) ⟨none, rfl, rfl⟩ ?_ ?_
    · rintro i σ H2 hi ⟨y, rfl, rfl⟩
      have hin : xs[i]? = some xs[i] := List.getElem?_eq_getElem hi
      rcases kind _ (List.mem_of_getElem? hin) with ⟨s, e⟩ | ⟨n, e⟩
      · rw [e] at hin
        refine ⟨.ref b, rfl, .int (0 + (i : Int)), rfl, b, _, _, _, rfl, rfl, tup_t hb, at_of (Int.zero_add _) hin, .str s, .ty "str", _, _, true, rfl, .ty "str", .base (.str _), kit_ty kSt, true, rfl, iteT ?_⟩
        refine ⟨.ref a, rfl, .int (0 + (i : Int)), rfl, a, _, _, _, rfl, rfl, tup_t ha, at_of (Int.zero_add _) hin, .str s, .ty "str", _, _, true, rfl, .ty "str", .base (.str _), kit_ty kSt, true, rfl, iteF ?_⟩
        exact ⟨.ref a, rfl, .int (0 + (i : Int)), rfl, a, _, _, _, rfl, rfl, tup_t ha, at_of (Int.zero_add _) hin, .ref b, rfl, .int (0 + (i : Int)), rfl, b, _, _, _, rfl, rfl, tup_t hb, at_of (Int.zero_add _) hin, rfl, _, rfl, iteNS rfl ⟨_, rfl, rfl⟩⟩
      · rw [e] at hin
        refine ⟨.ref b, rfl, .int (0 + (i : Int)), rfl, b, _, _, _, rfl, rfl, tup_t hb, at_of (Int.zero_add _) hin, .int n, .ty "str", _, _, false, rfl, .ty "str", .base (.int _), kit_ty kIS, false, rfl, iteF ?_⟩
        refine ⟨.ref a, rfl, .int (0 + (i : Int)), rfl, a, _, _, _, rfl, rfl, tup_t ha, at_of (Int.zero_add _) hin, n, rfl, true, rfl, iteF ?_⟩
        exact ⟨.ref a, rfl, .int (0 + (i : Int)), rfl, a, _, _, _, rfl, rfl, tup_t ha, at_of (Int.zero_add _) hin, .ref b, rfl, .int (0 + (i : Int)), rfl, b, _, _, _, rfl, rfl, tup_t hb, at_of (Int.zero_add _) hin, rfl, _, rfl, iteNS rfl ⟨_, rfl, rfl⟩⟩
    · rintro σ H2 ⟨y, rfl, rfl⟩
      exact q
def sp__law_kept : Sp := fun vs H Q _ => ∃ (t L : Addr) (zs us : List Addr) (pw : List (Int × List Int)), vs = [.ref t, .ref L] ∧ H t = some (.tup (zs.map V.ref)) ∧ RowW H zs pw ∧ H L = some (.lst (us.map V.ref)) ∧ RowW H us pw ∧ us.length ≤ 900 ∧ (∀ w ∈ pw, w.2.length < 64) ∧ Q (.bl true) H
theorem ok__law_kept {f : Addr} {fd : FuncData} {C_Listed C_BadNumber C_TooMany C_BadWish C_Unlike C_NoBuyers C_BadLot C_ShelfError : Addr} (F : Fun K "_law_kept" "_law_kept" s__law_kept f fd) (T : Txt K mg C_Listed C_BadNumber C_TooMany C_BadWish C_Unlike C_NoBuyers C_BadLot C_ShelfError) (m_isinstance : mg "isinstance" = none) (m_len : mg "len" = none) (m_range : mg "range" = none) (m_tuple : mg "tuple" = none) (c__law_is_int : Cal P w K mg base CX0 1 "_law_is_int" ["_law_x"] sp__law_is_int) (c__law_same_lot : Cal P w K mg base CX0 2 "_law_same_lot" ["_law_x", "_law_due_here"] (sp__law_same_lot K)) : FnOk P w K mg base CX0 3 f fd ["_law_told", "_law_pairs"] sp__law_kept := by
  refine F.ok sc__law_kept (fun vs H Q E h => ?_) (fun cdv A outer s H vs Q E hr h => ?_)
  · obtain ⟨t, L, zs, us, pw, rfl, _⟩ := h
    rfl
  · obtain ⟨t, L, zs, us, pw, rfl, ht, rowZ, hL, row, ul, lw, q⟩ := h
    obtain ⟨f__law_is_int, fd__law_is_int, G__law_is_int, m__law_is_int, k__law_is_int, b__law_is_int⟩ := c__law_is_int
    obtain ⟨f__law_same_lot, fd__law_same_lot, G__law_same_lot, m__law_same_lot, k__law_same_lot, b__law_same_lot⟩ := c__law_same_lot
    refine ⟨_, (pss_cons (ps_if (PW.pt (pw_or (pt_not (pt_val (pe_callB call_isi (by rfl) m_isinstance (by decide +kernel) (pa_cons (pv 0) (pa_cons (pe_bltn (v := .ty "tuple") (by rfl) m_tuple (by decide +kernel) rfl) pa_nil))))) (pw_or1 (pt_cmpR op_ne (pe_callB call_len_seq (by rfl) m_len (by decide +kernel) (pa_cons (pv 0) pa_nil)) (pe_callB call_len_seq (by rfl) m_len (by decide +kernel) (pa_cons (pv 1) pa_nil)) (nomark _))))) (pss_one (ps_ret pe_bl)) pss_nil)
      (pss_cons (ps_for PassesOwn.never rfl (pi_range1 (by rfl) m_range (pa_cons (pe_callB call_len_seq (by rfl) m_len (by decide +kernel) (pa_cons (pv 1) pa_nil)) pa_nil)) (pg_name (i := 2) sc__law_kept.nd rfl (Or.inl rfl))
      (pss_cons (ps_set (i := 3) sc__law_kept.nd rfl (Or.inl rfl) (pe_ix ix_tup (pv 0) (pv 2) (fun _ _ => rfl)))
      (pss_cons (ps_if (PW.pt (pw_or (pt_not (pt_val (pe_callB call_isi (by rfl) m_isinstance (by decide +kernel) (pa_cons (pv 3) (pa_cons (pe_bltn (v := .ty "tuple") (by rfl) m_tuple (by decide +kernel) rfl) pa_nil))))) (pw_or (pt_cmpR op_ne (pe_callB call_len_seq (by rfl) m_len (by decide +kernel) (pa_cons (pv 3) pa_nil)) pe_int (nomark _)) (pw_or1 (pt_not (pt_val (pe_call G__law_is_int (hr.mono (by decide)) (by rfl) m__law_is_int k__law_is_int b__law_is_int .nil pass0 (pa_cons (pe_ix ix_tup (pv 3) pe_int (fun _ _ => rfl)) pa_nil)))))))) (pss_one (ps_ret pe_bl)) pss_nil)
      (pss_one (ps_if (PW.pt (pw_or (pt_cmpR op_ne (pe_ix ix_tup (pv 3) pe_int (fun _ _ => rfl)) (pe_ix ix_tup (pe_ix ix_list (pv 1) (pv 2) (fun _ _ => rfl)) pe_int (fun _ _ => rfl)) (nomark _)) (pw_or1 (pt_not (pt_val (pe_call G__law_same_lot (hr.mono (by decide)) (by rfl) m__law_same_lot k__law_same_lot b__law_same_lot .nil pass0 (pa_cons (pe_ix ix_tup (pv 3) pe_int (fun _ _ => rfl)) (pa_cons (pe_ix ix_tup (pe_ix ix_list (pv 1) (pv 2) (fun _ _ => rfl)) pe_int (fun _ _ => rfl)) pa_nil)))))))) (pss_one (ps_ret pe_bl)) pss_nil)))))
      (pss_one (ps_ret pe_bl)))), ?_⟩
    have rl := row.1
    have rz := rowZ.1
    refine ⟨_, rfl, .ref t, .ty "tuple", _, _, true, rfl, .ty "tuple", .base (.tup ht), kit_ty kT, true, rfl, iteF ?_⟩
    refine ⟨_, rfl, t, _, rfl, .inr (tup_t ht), _, rfl, L, _, rfl, .inl (lst_l hL), rfl, _, rfl, iteNS (by rw [List.length_map, List.length_map]; exact congrArg V.int (by omega)) ?_⟩
    refine ⟨_, rfl, L, _, rfl, .inl (lst_l hL), _, rfl, ?_⟩
    rw [List.length_map]
    refine ⟨by omega, by omega, ?_⟩
    rw [Int.toNat_natCast]
    refine for_range (lo := 0) (n := us.length) (fun i σ H2 => ∃ y1 y2 : Option V, σ = [some (.ref t), some (.ref L), y1, y2] ∧ H2 = H) ⟨none, none, rfl, rfl⟩ ?_ ?_
    · rintro i σ H2 hi ⟨y1, y2, rfl, rfl⟩
      have h1 : us[i]? = some us[i] := List.getElem?_eq_getElem hi
      have h2 : pw[i]? = some pw[i] := List.getElem?_eq_getElem (by omega)
      have v1 : (us.map V.ref)[i]? = some (.ref us[i]) := by rw [List.getElem?_map, h1]; rfl
      have z1 : zs[i]? = some zs[i] := List.getElem?_eq_getElem (by omega)
      have v2 : (zs.map V.ref)[i]? = some (.ref zs[i]) := by rw [List.getElem?_map, z1]; rfl
      obtain ⟨l, hu, hl⟩ := row.2 i _ _ h1 h2
      obtain ⟨l2, hz, o2, hl2, _⟩ := rowZ.2 i _ _ z1 h2
      have l64 := lw _ (List.mem_of_getElem? h2)
      refine ⟨_, rfl, _, rfl, t, _, _, _, rfl, rfl, tup_t ht, at_of (Int.zero_add _) v2, ?_⟩
      refine ⟨_, rfl, .ref zs[i], .ty "tuple", _, _, true, rfl, .ty "tuple", .base (.tup hz), kit_ty kT, true, rfl, iteF ?_⟩
      refine ⟨_, rfl, zs[i], _, rfl, .inr (tup_t hz), rfl, _, rfl, iteNS rfl ?_⟩
      refine ⟨_, rfl, zs[i], _, _, _, rfl, rfl, tup_t hz, atI_nat (j := 0) rfl, _, rfl, true, rfl, iteF ?_⟩
      refine ⟨_, rfl, zs[i], _, _, _, rfl, rfl, tup_t hz, atI_nat (j := 0) rfl, _, rfl, _, rfl, L, _, _, _, rfl, rfl, lst_l hL, at_of (Int.zero_add _) v1, us[i], _, _, _, rfl, rfl, tup_t hu, atI_nat (j := 0) rfl, rfl, _, rfl, iteNS rfl ?_⟩
      refine ⟨_, rfl, zs[i], _, _, _, rfl, rfl, tup_t hz, atI_nat (j := 1) rfl, _, rfl, _, rfl, L, _, _, _, rfl, rfl, lst_l hL, at_of (Int.zero_add _) v1, us[i], _, _, _, rfl, rfl, tup_t hu, atI_nat (j := 1) rfl, l2, l, pw[i].2, rfl, ⟨o2, hl2⟩, hl.sq, by omega, true, rfl, iteF ?_⟩
      exact ⟨_, _, rfl, rfl⟩
    · rintro σ H2 ⟨y1, y2, rfl, rfl⟩
      exact q
def sp_law (K : PySem.W.Frag) : Sp := fun vs H Q _ => ∃ (a : Addr) (ns : List Int), vs = [.ref a] ∧ SqL K H a (ns.map V.int) ∧ ns.length ≤ 63 ∧ ∀ H', Q (.bl true) H'

theorem ok_law {f : Addr} {fd : FuncData} {C_Listed C_BadNumber C_TooMany C_BadWish C_Unlike C_NoBuyers C_BadLot C_ShelfError : Addr} (F : Fun K "law" "law" s_law f fd) (T : Txt K mg C_Listed C_BadNumber C_TooMany C_BadWish C_Unlike C_NoBuyers C_BadLot C_ShelfError) (m_int : mg "int" = none) (m_len : mg "len" = none) (m_list : mg "list" = none) (m_min : mg "min" = none) (m_range : mg "range" = none) (c__law_cell : Cal P w K mg base CX0 1 "_law_cell" ["_law_script", "_law_place"] (sp__law_cell K)) (c__law_draws : Cal P w K mg base CX0 1 "_law_draws" ["_law_cell_here", "_law_sizes"] (sp__law_draws K)) (c__law_row : Cal P w K mg base CX0 2 "_law_row" ["_law_cell_here", "_law_count"] (sp__law_row K)) (c__law_ups : Cal P w K mg base CX0 1 "_law_ups" ["_law_row_here"] (sp__law_ups K)) (c__law_list : Cal P w K mg base CX0 2 "_law_list" ["_law_cell_here", "_law_many"] (sp__law_list K)) (c__law_faulty : Cal P w K mg base CX0 1 "_law_faulty" ["_law_pair", "_law_fault", "_law_many"] sp__law_faulty) (c__law_due : Cal P w K mg base CX0 1 "_law_due" ["_law_many", "_law_pairs"] sp__law_due) (c__law_asked : Cal P w K mg base CX0 7 "_law_asked" ["_law_many", "_law_pairs"] sp__law_asked) (c__law_classes : Cal P w K mg base CX0 7 "_law_classes" ["_law_many", "_law_pairs"] sp__law_classes) (c__law_like : Cal P w K mg base CX0 2 "_law_like" ["_law_told", "_law_due_here"] sp__law_like) (c__law_is_int : Cal P w K mg base CX0 1 "_law_is_int" ["_law_x"] sp__law_is_int) (c__law_kept : Cal P w K mg base CX0 3 "_law_kept" ["_law_told", "_law_pairs"] sp__law_kept) (c_Listed___init__ : CalI P w K mg base (L2.CX P w) 5 C_Listed ["self", "many", "wishes"] (sp_Listed___init__ C_Listed C_TooMany C_NoBuyers C_BadNumber C_BadWish) []) : FnOk P w K mg base CX0 8 f fd ["_law_script"] (sp_law K) := by
  refine F.ok sc_law (fun vs H Q E h => ?_) (fun cdv A outer s H vs Q E hr h => ?_)
  · obtain ⟨a, ns, rfl, _⟩ := h
    rfl
  · obtain ⟨a, ns, rfl, hS, hlen, q⟩ := h
    obtain ⟨f__law_cell, fd__law_cell, G__law_cell, m__law_cell, k__law_cell, b__law_cell⟩ := c__law_cell
    obtain ⟨f__law_draws, fd__law_draws, G__law_draws, m__law_draws, k__law_draws, b__law_draws⟩ := c__law_draws
    obtain ⟨f__law_row, fd__law_row, G__law_row, m__law_row, k__law_row, b__law_row⟩ := c__law_row
    obtain ⟨f__law_ups, fd__law_ups, G__law_ups, m__law_ups, k__law_ups, b__law_ups⟩ := c__law_ups
    obtain ⟨f__law_list, fd__law_list, G__law_list, m__law_list, k__law_list, b__law_list⟩ := c__law_list
    obtain ⟨f__law_faulty, fd__law_faulty, G__law_faulty, m__law_faulty, k__law_faulty, b__law_faulty⟩ := c__law_faulty
    obtain ⟨f__law_due, fd__law_due, G__law_due, m__law_due, k__law_due, b__law_due⟩ := c__law_due
    obtain ⟨f__law_asked, fd__law_asked, G__law_asked, m__law_asked, k__law_asked, b__law_asked⟩ := c__law_asked
    obtain ⟨f__law_classes, fd__law_classes, G__law_classes, m__law_classes, k__law_classes, b__law_classes⟩ := c__law_classes
    obtain ⟨f__law_like, fd__law_like, G__law_like, m__law_like, k__law_like, b__law_like⟩ := c__law_like
    obtain ⟨f__law_is_int, fd__law_is_int, G__law_is_int, m__law_is_int, k__law_is_int, b__law_is_int⟩ := c__law_is_int
    obtain ⟨f__law_kept, fd__law_kept, G__law_kept, m__law_kept, k__law_kept, b__law_kept⟩ := c__law_kept
    obtain ⟨f_Listed___init__, fd_Listed___init__, G_Listed___init__, M_Listed___init__, b_Listed___init__, ds_Listed___init__, vd_Listed___init__, bd_Listed___init__⟩ := c_Listed___init__
    refine ⟨_, (pss_cons (ps_set (i := 1) sc_law.nd rfl (Or.inl rfl) (pe_call G__law_draws (hr.mono (by decide)) (by rfl) m__law_draws k__law_draws b__law_draws .nil pass0 (pa_cons (pe_call G__law_cell (hr.mono (by decide)) (by rfl) m__law_cell k__law_cell b__law_cell .nil pass0 (pa_cons (pv 0) (pa_cons pe_int pa_nil))) (pa_cons (pe_lst (pa_cons pe_int (pa_cons pe_int (pa_cons pe_int (pa_cons (pe_op op_pow pe_int pe_int) pa_nil))))) pa_nil))))
      (pss_cons (ps_set (i := 2) sc_law.nd rfl (Or.inl rfl) (pe_ix ix_list (pe_lst (pa_cons (pe_op op_mod (pe_callTy call_int1 (by rfl) m_int (by decide +kernel) (pa_cons (pe_ix ix_list (pv 1) pe_int (fun _ _ => rfl)) pa_nil)) pe_int) (pa_cons (pe_op op_mod (pe_callTy call_int1 (by rfl) m_int (by decide +kernel) (pa_cons (pe_ix ix_list (pv 1) pe_int (fun _ _ => rfl)) pa_nil)) pe_int) (pa_cons (pe_ix ix_list (pv 1) pe_int (fun _ _ => rfl)) (pa_cons (pe_op op_add pe_int (pe_op op_mod (pe_callTy call_int1 (by rfl) m_int (by decide +kernel) (pa_cons (pe_ix ix_list (pv 1) pe_int (fun _ _ => rfl)) pa_nil)) pe_int)) (pa_cons (pe_op op_add pe_int (pe_ix ix_list (pv 1) pe_int (fun _ _ => rfl))) pa_nil)))))) (pe_ix ix_list (pv 1) pe_int (fun _ _ => rfl)) (fun _ _ => rfl)))
      (pss_cons (ps_set (i := 3) sc_law.nd rfl (Or.inr rfl) (pe_call G__law_ups (hr.mono (by decide)) (by rfl) m__law_ups k__law_ups b__law_ups .nil pass0 (pa_cons (pe_call G__law_row (hr.mono (by decide)) (by rfl) m__law_row k__law_row b__law_row .nil pass0 (pa_cons (pe_call G__law_cell (hr.mono (by decide)) (by rfl) m__law_cell k__law_cell b__law_cell .nil pass0 (pa_cons (pv 0) (pa_cons pe_int pa_nil))) (pa_cons (pe_ix ix_list (pv 1) pe_int (fun _ _ => rfl)) pa_nil))) pa_nil)))
      (pss_cons (ps_set (i := 4) sc_law.nd rfl (Or.inr rfl) (pe_callB (call_min2 rfl) (by rfl) m_min (by decide +kernel) (pa_cons (pv 2) (pa_cons pe_int pa_nil))))
      (pss_cons (ps_setLc (i := 6) (own := [("_law_k", 5)]) (g := (gName 5)) (tt := tYes) rfl sc_law.nd rfl rfl (sw_true rfl rfl rfl (by decide +kernel)) (pi_range1 (by rfl) m_range (pa_cons (pe_callB call_len_seq (by rfl) m_len (by decide +kernel) (pa_cons (pv 3) pa_nil)) pa_nil)) (blkOk_by (own := [("_law_k", 5)]) (N := ["_law_script", "_law_drawn", "_law_many", "_law_buyers", "_law_below", "_law_k", "_law_pairs", "_law_faults", "_law_fault", "_law_place", "_law_due_here", "_law_handed", "_law_told", "_law_rule"]) (sc := defScope s_law) (by decide +kernel)) (fun _ _ _ _ _ => (pg_name (i := 5) sc_law.nd rfl (Or.inl rfl))) (fun _ _ _ _ _ => pts_nil) (fun _ _ _ _ _ => (pe_tup (pa_cons (pe_ix (r := rIxL K) ix_list (pv 3) (pv 5) (fun _ _ => rfl)) (pa_cons (pe_call G__law_list (hr.mono (by decide)) (by rfl) m__law_list k__law_list b__law_list .nil pass0 (pa_cons (pe_call G__law_cell (hr.mono (by decide)) (by rfl) m__law_cell k__law_cell b__law_cell .nil pass0 (pa_cons (pv 0) (pa_cons (pe_op op_add pe_int (pv 5)) pa_nil))) (pa_cons (pv 4) pa_nil))) pa_nil)))))
      (pss_cons (ps_set (i := 7) sc_law.nd rfl (Or.inl rfl) (pe_call G__law_draws (hr.mono (by decide)) (by rfl) m__law_draws k__law_draws b__law_draws .nil pass0 (pa_cons (pe_call G__law_cell (hr.mono (by decide)) (by rfl) m__law_cell k__law_cell b__law_cell .nil pass0 (pa_cons (pv 0) (pa_cons pe_int pa_nil))) (pa_cons (pe_lst (pa_cons pe_int (pa_cons pe_int (pa_cons pe_int (pa_cons pe_int (pa_cons (pe_op op_pow pe_int pe_int) (pa_cons pe_int (pa_cons pe_int (pa_cons pe_int (pa_cons (pe_op op_pow pe_int pe_int) pa_nil)))))))))) pa_nil))))
      (Evl.pss_cut (ps_if (pt_cmpR op_gt (pe_callB call_len_seq (by rfl) m_len (by decide +kernel) (pa_cons (pv 6) pa_nil)) pe_int (nomark _)) (pss_one (ps_for PassesOwn.never rfl (pi_range1 (by rfl) m_range (pa_cons (pe_ix ix_list (pv 7) pe_int (fun _ _ => rfl)) pa_nil)) (pg_name (i := 5) sc_law.nd rfl (Or.inl rfl))
      (pss_cons (ps_set (i := 8) sc_law.nd rfl (Or.inl rfl) (pe_slice sl_list (pv 7) (po_some (pe_op op_add pe_int (pe_op op_mul pe_int (pv 5)))) (po_some (pe_op op_add pe_int (pe_op op_mul pe_int (pv 5))))))
      (pss_cons (ps_set (i := 9) sc_law.nd rfl (Or.inl rfl) (pe_op op_mod (pe_callTy call_int1 (by rfl) m_int (by decide +kernel) (pa_cons (pe_ix ix_list (pv 8) pe_int (fun _ _ => rfl)) pa_nil)) (pe_callB call_len_seq (by rfl) m_len (by decide +kernel) (pa_cons (pv 6) pa_nil))))
      (pss_one (ps_asg (pe_call G__law_faulty (hr.mono (by decide)) (by rfl) m__law_faulty k__law_faulty b__law_faulty .nil pass0 (pa_cons (pe_ix ix_list (pv 6) (pv 9) (fun _ _ => rfl)) (pa_cons (pv 8) (pa_cons (pv 2) pa_nil)))) (pg_sub (pv 6) (pv 9) set_list))))))) pss_nil)
      (pss_cons (ps_set (i := 10) sc_law.nd rfl (Or.inl rfl) (pe_call G__law_due (hr.mono (by decide)) (by rfl) m__law_due k__law_due b__law_due .nil pass0 (pa_cons (pv 2) (pa_cons (pv 6) pa_nil))))
      (pss_cons (ps_set (i := 11) sc_law.nd rfl (Or.inl rfl) (pe_callTy call_list_of (by rfl) m_list (by decide +kernel) (pa_cons (pv 6) pa_nil)))
      (pss_cons (ps_if (PW.pt (pw_or (pt_not (pt_val (pe_call G__law_like (hr.mono (by decide)) (by rfl) m__law_like k__law_like b__law_like .nil pass0 (pa_cons (pe_call G__law_asked (hr.mono (by decide)) (by rfl) m__law_asked k__law_asked b__law_asked .nil pass0 (pa_cons (pv 2) (pa_cons (pv 11) pa_nil))) (pa_cons (pv 10) pa_nil))))) (pw_or1 (pt_cmpR (op_neD hr.units) (pv 11) (pv 6) (nomark _))))) (pss_one (ps_ret pe_bl)) pss_nil)
      (pss_cons (ps_set (i := 12) sc_law.nd rfl (Or.inl rfl) (pe_call G__law_classes (hr.mono (by decide)) (by rfl) m__law_classes k__law_classes b__law_classes .nil pass0 (pa_cons (pv 2) (pa_cons (pe_callTy call_list_of (by rfl) m_list (by decide +kernel) (pa_cons (pv 6) pa_nil)) pa_nil))))
      (pss_cons (ps_if (pt_cmpR op_ne (pe_ix ix_tup (pv 10) pe_int (fun _ _ => rfl)) pe_str (nomark _)) (pss_one (ps_ret (pe_cmpR (op_eqD hr.units) (pv 12) (pe_lst (pa_cons (pe_cmpR op_eq (pe_ix ix_tup (pv 10) pe_int (fun _ _ => rfl)) pe_str (nomark _)) (pa_cons (pe_cmpR op_eq (pe_ix ix_tup (pv 10) pe_int (fun _ _ => rfl)) pe_str (nomark _)) (pa_cons (pe_cmpR op_eq (pe_ix ix_tup (pv 10) pe_int (fun _ _ => rfl)) pe_str (nomark _)) (pa_cons (pe_cmpR op_eq (pe_ix ix_tup (pv 10) pe_int (fun _ _ => rfl)) pe_str (nomark _)) (pa_cons pe_bl (pa_cons pe_bl (pa_cons pe_bl pa_nil)))))))) (nomark _)))) pss_nil)
      (pss_cons (ps_set (i := 13) sc_law.nd rfl (Or.inl rfl) (pe_make M_Listed___init__ G_Listed___init__ (hr.mono (by decide)) (by rfl) T.g_Listed b_Listed___init__ .nil passL (pa_cons (pv 2) (pa_cons (pe_callTy call_list_of (by rfl) m_list (by decide +kernel) (pa_cons (pv 6) pa_nil)) pa_nil))))
      (pss_one (ps_ret (pe_and (pe_cmpR (op_eqD hr.units) (pv 12) (pe_lst pa_nil) (nomark _)) (pe_and (pe_call G__law_is_int (hr.mono (by decide)) (by rfl) m__law_is_int k__law_is_int b__law_is_int .nil pass0 (pa_cons (pe_fld (pv 13) rfl) pa_nil)) (pe_and (pe_cmpR op_eq (pe_fld (pv 13) rfl) (pv 2) (nomark _)) (pe_one (pe_call G__law_kept (hr.mono (by decide)) (by rfl) m__law_kept k__law_kept b__law_kept .nil pass0 (pa_cons (pe_fld (pv 13) rfl) (pa_cons (pv 6) pa_nil)))))))))))))))))))))), ?_⟩
    refine ⟨.ref a, rfl, a, ns, 0, rfl, hS, fun c1 => ?_⟩
    refine ⟨10, 17, rfl, rfl, ⟨by decide, by decide, by decide⟩, (by show 4 ≤ sizeLine; decide), fun p1 np1 => ?_⟩
    refine ⟨c1, p1, [5, 28, 5, 10 ^ 17], rfl, lst_l upd_same, by decide, by decide, fun ds1 H1 d1 wd1 s1 nd1 hd1 => ?_⟩
    have s1 : Same H H1 := (same_upd np1).trans s1
    obtain ⟨x0, rx0, rfl, lx0, ux0, wd1⟩ := wd1.c
    obtain ⟨x1, rx1, rfl, lx1, ux1, wd1⟩ := wd1.c
    obtain ⟨x2, rx2, rfl, lx2, ux2, wd1⟩ := wd1.c
    obtain ⟨x3, rx3, rfl, lx3, ux3, wd1⟩ := wd1.c
    cases wd1.n
    have Ld1 : SqL K H1 d1 ([x0, x1, x2, x3].map V.int) := lst_l hd1

    refine ⟨.ref d1, rfl, d1, _, _, _, rfl, rfl, Ld1, atI_nat (j := 1) rfl, .inl ⟨x1, rfl, _, _, rfl, rfl, (show (0 : Int) < 7 by decide), .ref d1, rfl, d1, _, _, _, rfl, rfl, Ld1, atI_nat (j := 1) rfl, .inl ⟨x1, rfl, _, _, rfl, rfl, (show (0 : Int) < 7 by decide), .ref d1, rfl, d1, _, _, _, rfl, rfl, Ld1, atI_nat (j := 1) rfl, .ref d1, rfl, d1, _, _, _, rfl, rfl, Ld1, atI_nat (j := 1) rfl, .inl ⟨x1, rfl, _, _, rfl, rfl, (show (0 : Int) < 6 by decide), _, _, rfl, rfl, .ref d1, rfl, d1, _, _, _, rfl, rfl, Ld1, atI_nat (j := 3) rfl, _, _, rfl, rfl, (by show 5 ≤ sizeLine; decide), fun p2 n2 => ?_⟩⟩⟩⟩
    have e70 := Int.emod_nonneg x1 (show (7 : Int) ≠ 0 by decide)
    have e60 := Int.emod_nonneg x1 (show (6 : Int) ≠ 0 by decide)
    obtain ⟨m, hm⟩ : ∃ m : Nat, atI [V.int (x1 % 7), V.int (x1 % 7), V.int x1, V.int (22 + x1 % 6), V.int (25 + x3)] x0 = some (.int (m : Int)) := by
      rcases (by omega : x0 = 0 ∨ x0 = 1 ∨ x0 = 2 ∨ x0 = 3 ∨ x0 = 4) with rfl | rfl | rfl | rfl | rfl
      · exact ⟨(x1 % 7).toNat, by rw [Int.toNat_of_nonneg e70]; rfl⟩
      · exact ⟨(x1 % 7).toNat, by rw [Int.toNat_of_nonneg e70]; rfl⟩
      · exact ⟨x1.toNat, by rw [Int.toNat_of_nonneg (by omega)]; rfl⟩
      · exact ⟨(22 + x1 % 6).toNat, by rw [Int.toNat_of_nonneg (by omega)]; rfl⟩
      · exact ⟨(25 + x3).toNat, by rw [Int.toNat_of_nonneg (by omega)]; rfl⟩
    have s2 := same_upd (o := .lst [V.int (x1 % 7), V.int (x1 % 7), V.int x1, V.int (22 + x1 % 6), V.int (25 + x3)]) n2
    refine ⟨.ref d1, rfl, d1, _, _, _, rfl, rfl, (s2.seq Ld1), atI_nat (j := 0) rfl, p2, _, _, .int (m : Int), rfl, rfl, lst_l upd_same, hm, ?_⟩
    have s12 := s1.trans s2
    have Ld2 := s2.seq Ld1
    generalize upd H1 p2 (.lst [V.int (x1 % 7), V.int (x1 % 7), V.int x1, V.int (22 + x1 % 6), V.int (25 + x3)]) = H2 at s12 Ld2 ⊢
    obtain ⟨n, rfl⟩ : ∃ n : Nat, x2 = (n : Int) := ⟨x2.toNat, by omega⟩
    refine ⟨.ref a, rfl, a, ns, 1, rfl, s12.seq hS, fun c2 => ⟨.ref d1, rfl, d1, _, _, _, rfl, rfl, Ld2, atI_nat (j := 2) rfl, c2, n, rfl, by omega, fun rs H3 d3 lr br s3 nd3 hd3 => ?_⟩⟩
    refine ⟨d3, rs, rfl, hd3, by omega, fun H4 B s4 nB hB => ?_⟩
    have s14 := (s12.trans s3).trans s4
    have bl : (rs.map fun n => 1 + n).length = n := by rw [List.length_map, lr]
    generalize (rs.map fun n => 1 + n) = qs at hB bl
    obtain ⟨bl, hbl, bl24⟩ : ∃ bl : Nat, (if (24 : Int) < (m : Int) then (24 : Int) else (m : Int)) = (bl : Int) ∧ bl ≤ 24 := by
      by_cases c : (24 : Int) < (m : Int)
      · exact ⟨24, by rw [if_pos c]; rfl, Nat.le_refl _⟩
      · exact ⟨m, by rw [if_neg c], by omega⟩
    refine ⟨_, rfl, (m : Int), 24, rfl, ?_⟩
    rw [hbl]
    refine ⟨_, rfl, B, _, rfl, .inl (lst_l hB), _, rfl, ?_⟩
    rw [List.length_map]
    refine ⟨by omega, by omega, ?_⟩
    rw [Int.toNat_natCast]
    refine fun P nP => lc_range (lo := 0) (n := qs.length) (fun i H5 => ∃ (us : List Addr) (pw : List (Int × List Int)), Same H4 H5 ∧ H5 P = some (.lst (us.map V.ref)) ∧ us.length = i ∧ RowW H5 us pw ∧ ∀ w ∈ pw, w.2.length ≤ 24) ⟨[], [], same_upd nP, upd_same, rfl, ⟨rfl, fun i u w h => by cases h⟩, fun w h => absurd h (by simp)⟩ ?_ ?_
    · rintro i H5 hi ⟨us, pw, s5, hP, lu, row, lw⟩
      have g1 : qs[i]? = some qs[i] := List.getElem?_eq_getElem hi
      refine ⟨rfl, ?_⟩
      refine lc_yes ?_
      refine iteT ?_
      refine ⟨_, rfl, _, rfl, B, _, _, _, rfl, rfl, lst_l (s5 _ _ hB), at_of (Int.zero_add _) (int_at g1), ?_⟩
      refine ⟨.ref a, rfl, _, rfl, _, _, rfl, rfl, a, ns, 3 + i, congrArg (fun z => [V.ref a, V.int z]) (by omega), (s14.trans s5).seq hS, fun c3 => ⟨_, rfl, c3, bl, rfl, bl24, fun H6 t zs s6 ht lz => ⟨(by show 2 ≤ sizeLine; decide), fun u nu => ?_⟩⟩⟩
      have hP6 := s6 _ _ hP
      have hP7 := same_upd (o := .tup [V.int qs[i], V.ref t]) nu _ _ hP6
      refine ⟨_, hP7, ?_, us ++ [u], pw ++ [(qs[i], zs)], same_mut ((s5.trans s6).trans (same_upd nu)) nP, ?_, ?_, ?_, fun w hw => ?_⟩
      · rw [List.length_map]
        exact small1000 (by omega)
      · rw [upd_same, List.map_append]
        rfl
      · rw [List.length_append, lu]
        rfl
      · exact (RowW.snoc ((row.same s6).same (same_upd nu)) ⟨t, upd_same, ht.same (same_upd nu)⟩).put hP7
      · rcases List.mem_append.mp hw with hw | hw
        · exact lw w hw
        · rw [List.mem_singleton.mp hw]
          exact lz
    rintro H5 ⟨us, pw, s5, hP, lu, row, lw⟩
    have s15 := s14.trans s5
    refine ⟨.ref a, rfl, a, ns, 2, rfl, s15.seq hS, fun c4 => ?_⟩
    refine ⟨10, 17, rfl, rfl, ⟨by decide, by decide, by decide⟩, 10, 17, rfl, rfl, ⟨by decide, by decide, by decide⟩, (by show 9 ≤ sizeLine; decide), fun p3 np3 => ?_⟩
    refine ⟨c4, p3, [3, 4, 7, 25, 10 ^ 17, 4, 7, 25, 10 ^ 17], rfl, lst_l upd_same, by decide, by decide, fun ds2 H6 d2 wd2 s6 nd2 hd2 => ?_⟩
    have s6 : Same H5 H6 := (same_upd np3).trans s6
    obtain ⟨z0, rz0, rfl, lz0, uz0, wd2⟩ := wd2.c
    obtain ⟨z1, rz1, rfl, lz1, uz1, wd2⟩ := wd2.c
    obtain ⟨z2, rz2, rfl, lz2, uz2, wd2⟩ := wd2.c
    obtain ⟨z3, rz3, rfl, lz3, uz3, wd2⟩ := wd2.c
    obtain ⟨z4, rz4, rfl, lz4, uz4, wd2⟩ := wd2.c
    obtain ⟨z5, rz5, rfl, lz5, uz5, wd2⟩ := wd2.c
    obtain ⟨z6, rz6, rfl, lz6, uz6, wd2⟩ := wd2.c
    obtain ⟨z7, rz7, rfl, lz7, uz7, wd2⟩ := wd2.c
    obtain ⟨z8, rz8, rfl, lz8, uz8, wd2⟩ := wd2.c
    cases wd2.n
    have Ldd2 : SqL K H6 d2 ([z0, z1, z2, z3, z4, z5, z6, z7, z8].map V.int) := lst_l hd2

    have hP6 := s6 _ _ hP
    have row6 := row.same s6
    have s46 := s5.trans s6
    have d2P : d2 ≠ P := fun z => by
      rw [z] at nd2
      rw [same_upd np3 _ _ hP] at nd2
      cases nd2
    refine ⟨fun σ' H' => ∃ (us : List Addr) (pw : List (Int × List Int)) (y1 y2 y3 : Option V), σ' = [some (.ref a), some (.ref d1), some (.int (m : Int)), some (.ref B), some (.int (bl : Int)), y1, some (.ref P), some (.ref d2), y2, y3, none, none, none, none] ∧ Same H4 H' ∧ H' P = some (.lst (us.map V.ref)) ∧ us.length = n ∧ RowW H' us pw ∧ ∀ w ∈ pw, w.2.length ≤ 24 + 2 * 2, ?_, ?_⟩
    · refine ⟨_, rfl, P, _, rfl, .inl (lst_l hP6), _, _, rfl, rfl, _, rfl, ite2 (fun c => ?_) (fun c => ⟨us, pw, _, _, _, rfl, s46, hP6, by omega, row6, fun w hw => by have := lw w hw; omega⟩)⟩
      have c := of_decide_eq_true c
      rw [List.length_map] at c
      refine ⟨.ref d2, rfl, d2, _, _, _, rfl, rfl, Ldd2, atI_nat (j := 0) rfl, z0, rfl, by omega, by omega, ?_⟩
      refine for_range (lo := 0) (n := z0.toNat) (fun i σ H7 => ∃ (us : List Addr) (pw : List (Int × List Int)) (y1 y2 y3 : Option V), σ = [some (.ref a), some (.ref d1), some (.int (m : Int)), some (.ref B), some (.int (bl : Int)), y1, some (.ref P), some (.ref d2), y2, y3, none, none, none, none] ∧ Same H4 H7 ∧ H7 d2 = some (.lst ([z0, z1, z2, z3, z4, z5, z6, z7, z8].map V.int)) ∧ H7 P = some (.lst (us.map V.ref)) ∧ us.length = n ∧ RowW H7 us pw ∧ ∀ w ∈ pw, w.2.length ≤ 24 + 2 * i) ⟨us, pw, _, _, _, rfl, s46, hd2, hP6, by omega, row6, fun w hw => by have := lw w hw; omega⟩ ?_ ?_
      · rintro i σ H7 hi ⟨us, pw, y1, y2, y3, rfl, s7, hd7, hP7, lu7, row7, lw7⟩
        obtain ⟨f0, f1, f2, f3, hcut⟩ : ∃ f0 f1 f2 f3 : Int, cutV ([z0, z1, z2, z3, z4, z5, z6, z7, z8].map V.int) (some (1 + 4 * (0 + (i : Int)))) (some (5 + 4 * (0 + (i : Int)))) = [f0, f1, f2, f3].map V.int := by
          rcases (by omega : i = 0 ∨ i = 1) with rfl | rfl
          · exact ⟨z1, z2, z3, z4, rfl⟩
          · exact ⟨z5, z6, z7, z8, rfl⟩
        refine ⟨.ref d2, rfl, _, rfl, _, _, rfl, rfl, .inl ⟨by decide, by decide⟩, _, _, rfl, rfl, _, rfl, _, rfl, _, _, rfl, rfl, .inl ⟨by decide, by decide⟩, _, _, rfl, rfl, _, rfl, d2, _, rfl, lst_l hd7, fun f nf => ?_⟩
        rw [hcut]
        have s8 := same_upd (o := .lst ([f0, f1, f2, f3].map V.int)) nf
        have hf8 : upd H7 f (.lst ([f0, f1, f2, f3].map V.int)) f = some (.lst ([f0, f1, f2, f3].map V.int)) := upd_same
        have hP8 := s8 _ _ hP7
        have hd8 := s8 _ _ hd7
        have row8 := row7.same s8
        have s78 := s7.trans s8
        generalize upd H7 f (.lst ([f0, f1, f2, f3].map V.int)) = H8 at s8 hf8 hP8 hd8 row8 s78 ⊢
        have j0 := Int.emod_nonneg f0 (show (us.length : Int) ≠ 0 by omega)
        have j1 := Int.emod_lt_of_pos f0 (show (0 : Int) < (us.length : Int) by omega)
        obtain ⟨j, hj⟩ : ∃ j : Nat, f0 % (us.length : Int) = (j : Int) := ⟨(f0 % (us.length : Int)).toNat, by omega⟩
        have rl := row8.1
        have e1 : us[j]? = some us[j] := List.getElem?_eq_getElem (by omega)
        have e2 : pw[j]? = some pw[j] := List.getElem?_eq_getElem (by omega)
        have v1 : (us.map V.ref)[j]? = some (.ref us[j]) := by rw [List.getElem?_map, e1]; rfl
        refine ⟨.ref f, rfl, f, _, _, _, rfl, rfl, lst_l hf8, atI_nat (j := 0) rfl, .inl ⟨f0, rfl, _, rfl, P, _, rfl, .inl (lst_l hP8), ?_⟩⟩
        rw [List.length_map]
        refine ⟨_, _, rfl, rfl, (show (0 : Int) < (us.length : Int) by omega), ?_⟩
        have aj : atI (us.map V.ref) (f0 % (us.length : Int)) = some (.ref us[j]) := by
          rw [hj]
          exact atI_nat v1
        refine ⟨_, rfl, _, rfl, P, _, _, _, rfl, rfl, lst_l hP8, aj, _, rfl, _, rfl, us[j], f, pw[j], f0, f1, f2, f3, (m : Int), 24 + 2 * i, rfl, row8.2 j _ _ e1 e2, hf8, lw7 _ (List.mem_of_getElem? e2), by omega, fun H9 u w s9 pu lu9 => ?_⟩
        have hP9 := s9 _ _ hP8
        refine ⟨_, rfl, _, rfl, P, _, _, j, rfl, rfl, hP9, ?_, ?_⟩
        · rw [List.length_map, hj]
          exact ixn_at (by omega)
        rw [show (us.map V.ref).set j (V.ref u) = (us.set j u).map V.ref by rw [List.map_set]]
        refine ⟨us.set j u, pw.set j w, _, _, _, rfl, same_mut (s78.trans s9) nP, (upd_ne d2P).trans (s9 _ _ hd8), upd_same, by rw [List.length_set]; exact lu7, (RowW.rep (row8.same s9) pu).put hP9, fun v hv => ?_⟩
        rcases List.mem_or_eq_of_mem_set hv with hv | hv
        · have := lw7 v hv
          omega
        · rw [hv]
          omega
      · rintro σ H7 ⟨us, pw, y1, y2, y3, rfl, s7, hd7, hP7, lu7, row7, lw7⟩
        exact ⟨us, pw, y1, y2, y3, rfl, s7, hP7, lu7, row7, fun w hw => by have := lw7 w hw; omega⟩
    rintro σ' H7 ⟨us, pw, y1, y2, y3, rfl, s7, hP7, lu7, row7, lw7⟩
    have ul : us.length ≤ 900 := by omega
    have lw : ∀ w ∈ pw, w.2.length < 64 := fun w hw => by
      have := lw7 w hw
      omega
    refine ⟨_, rfl, _, rfl, P, us, pw, (m : Int), rfl, hP7, row7, ul, lw, fun H8 t s8 ht => ?_⟩
    have hP8 := s8 _ _ hP7
    have row8 := row7.same s8
    refine ⟨_, rfl, P, _, rfl, .inl (lst_l hP8), fun g ng => ?_⟩
    have s9 := same_upd (o := .lst (us.map V.ref)) ng
    have hg9 : upd H8 g (.lst (us.map V.ref)) g = some (.lst (us.map V.ref)) := upd_same
    have hP9 := s9 _ _ hP8
    have row9 := row8.same s9
    have ht9 := s9 _ _ ht
    generalize upd H8 g (.lst (us.map V.ref)) = H9 at s9 hg9 hP9 row9 ht9 ⊢
    refine ⟨_, rfl, _, rfl, g, us, pw, (m : Int), rfl, hg9, row9, ul, lw, fun H10 t2 s10 ht2 => ?_⟩
    have hg10 := s10 _ _ hg9
    have hP10 := s10 _ _ hP9
    have row10 := row9.same s10
    have ht10 := s10 _ _ ht9
    refine ⟨_, rfl, t2, t, _, rfl, ht2, ht10, due_len _, due_kinds _, true, rfl, iteF ?_⟩
    refine ⟨_, rfl, _, rfl, _, _, .lst (lst_l hg10) (dp_pairs row10), .lst (lst_l hP10) (dp_pairs row10), sh_pairs _, sh_pairs _, false, ?_, iteF ?_⟩
    · rw [SeqAt.eqv_refl _ (SeqAt.canLay_of_shaped (sh_pairs _))]
      rfl
    refine ⟨_, rfl, _, rfl, P, _, rfl, .inl (lst_l hP10), fun g2 ng2 => ?_⟩
    have s11 := same_upd (o := .lst (us.map V.ref)) ng2
    refine ⟨g2, us, pw, (m : Int), rfl, upd_same, row10.same s11, ul, lw, fun H12 t3 s12b ht3 => ?_⟩
    have s12 := s11.trans s12b
    have hP12 := s12 _ _ hP10
    have row12 := row10.same s12
    have ht12 := s12 _ _ ht10
    cases hd : dueL (m : Int) pw with
    | many k =>
      rw [hd] at ht12 ht3
      refine ⟨.ref t, rfl, t, _, _, _, rfl, rfl, tup_t ht12, atI_nat (j := 0) rfl, rfl, _, rfl, iteND (fun z => by cases z) ?_⟩
      refine ⟨_, rfl, .ref t, rfl, t, _, _, _, rfl, rfl, tup_t ht12, atI_nat (j := 0) rfl, rfl, .ref t, rfl, t, _, _, _, rfl, rfl, tup_t ht12, atI_nat (j := 0) rfl, rfl, .ref t, rfl, t, _, _, _, rfl, rfl, tup_t ht12, atI_nat (j := 0) rfl, rfl, .ref t, rfl, t, _, _, _, rfl, rfl, tup_t ht12, atI_nat (j := 0) rfl, rfl, (by show 7 ≤ sizeLine; decide), fun p np => ⟨_, _, dp_7 (same_upd np _ _ ht3), dp_7 upd_same, sh_7 .., sh_7 .., ?_⟩⟩
      exact q _
    | none =>
      rw [hd] at ht12 ht3
      refine ⟨.ref t, rfl, t, _, _, _, rfl, rfl, tup_t ht12, atI_nat (j := 0) rfl, rfl, _, rfl, iteND (fun z => by cases z) ?_⟩
      refine ⟨_, rfl, .ref t, rfl, t, _, _, _, rfl, rfl, tup_t ht12, atI_nat (j := 0) rfl, rfl, .ref t, rfl, t, _, _, _, rfl, rfl, tup_t ht12, atI_nat (j := 0) rfl, rfl, .ref t, rfl, t, _, _, _, rfl, rfl, tup_t ht12, atI_nat (j := 0) rfl, rfl, .ref t, rfl, t, _, _, _, rfl, rfl, tup_t ht12, atI_nat (j := 0) rfl, rfl, (by show 7 ≤ sizeLine; decide), fun p np => ⟨_, _, dp_7 (same_upd np _ _ ht3), dp_7 upd_same, sh_7 .., sh_7 .., ?_⟩⟩
      exact q _
    | num k =>
      rw [hd] at ht12 ht3
      refine ⟨.ref t, rfl, t, _, _, _, rfl, rfl, tup_t ht12, atI_nat (j := 0) rfl, rfl, _, rfl, iteND (fun z => by cases z) ?_⟩
      refine ⟨_, rfl, .ref t, rfl, t, _, _, _, rfl, rfl, tup_t ht12, atI_nat (j := 0) rfl, rfl, .ref t, rfl, t, _, _, _, rfl, rfl, tup_t ht12, atI_nat (j := 0) rfl, rfl, .ref t, rfl, t, _, _, _, rfl, rfl, tup_t ht12, atI_nat (j := 0) rfl, rfl, .ref t, rfl, t, _, _, _, rfl, rfl, tup_t ht12, atI_nat (j := 0) rfl, rfl, (by show 7 ≤ sizeLine; decide), fun p np => ⟨_, _, dp_7 (same_upd np _ _ ht3), dp_7 upd_same, sh_7 .., sh_7 .., ?_⟩⟩
      exact q _
    | wish k =>
      rw [hd] at ht12 ht3
      refine ⟨.ref t, rfl, t, _, _, _, rfl, rfl, tup_t ht12, atI_nat (j := 0) rfl, rfl, _, rfl, iteND (fun z => by cases z) ?_⟩
      refine ⟨_, rfl, .ref t, rfl, t, _, _, _, rfl, rfl, tup_t ht12, atI_nat (j := 0) rfl, rfl, .ref t, rfl, t, _, _, _, rfl, rfl, tup_t ht12, atI_nat (j := 0) rfl, rfl, .ref t, rfl, t, _, _, _, rfl, rfl, tup_t ht12, atI_nat (j := 0) rfl, rfl, .ref t, rfl, t, _, _, _, rfl, rfl, tup_t ht12, atI_nat (j := 0) rfl, rfl, (by show 7 ≤ sizeLine; decide), fun p np => ⟨_, _, dp_7 (same_upd np _ _ ht3), dp_7 upd_same, sh_7 .., sh_7 .., ?_⟩⟩
      exact q _
    | made =>
      rw [hd] at ht12 ht3
      refine ⟨.ref t, rfl, t, _, _, _, rfl, rfl, tup_t ht12, atI_nat (j := 0) rfl, rfl, _, rfl, iteNS rfl ?_⟩
      refine ⟨_, rfl, _, rfl, P, _, rfl, .inl (lst_l hP12), fun g3 ng3 => ?_⟩
      have s13 := same_upd (o := .lst (us.map V.ref)) ng3
      have hg13 : upd H12 g3 (.lst (us.map V.ref)) g3 = some (.lst (us.map V.ref)) := upd_same
      have hP13 := s13 _ _ hP12
      have row13 := row12.same s13
      have ht13 := s13 _ _ ht3
      generalize upd H12 g3 (.lst (us.map V.ref)) = H13 at hg13 hP13 row13 ht13 ⊢
      refine fun x dx nx nd _ => ⟨x, dx, g3, us, pw, (m : Int), rfl, upd_same, made1 nx nd _ _ hg13, row13.same (made1 nx nd), ul, lw, fun k e => absurd (hd.symm.trans e) (by simp), fun e => absurd (hd.symm.trans e) (by simp), fun k e => absurd (hd.symm.trans e) (by simp), fun k e => absurd (hd.symm.trans e) (by simp), fun _ H14 sx la => ⟨rfl, ?_⟩⟩
      have s14 := sameX_made nx nd sx
      have hP14 := s14 _ _ hP13
      have row14 := row13.same s14
      have ht14 := s14 _ _ ht13
      refine ⟨_, rfl, Nat.zero_le _, fun p np => ⟨_, _, .lst (lst_l (same_upd np _ _ ht14)) .nil, .lst (lst_l upd_same) .nil, sh_0, sh_0, true, rfl, iteT ?_⟩⟩
      have s15 := same_upd (o := .lst []) np
      obtain ⟨dx2, tw, vs, hx, htw, roww⟩ := la.same s15
      refine ⟨_, rfl, x, C_Listed, dx2, _, _, rfl, hx, T.cl_Listed, T.n_Listed_many, fL_many _ _, (m : Int), rfl, true, rfl, iteT ?_⟩
      refine ⟨_, rfl, x, C_Listed, dx2, _, _, rfl, hx, T.cl_Listed, T.n_Listed_many, fL_many _ _, _, rfl, rfl, _, rfl, iteD rfl ?_⟩
      exact ⟨_, rfl, x, C_Listed, dx2, _, _, rfl, hx, T.cl_Listed, T.n_Listed_wishes, fL_wishes _ _, _, rfl, tw, P, vs, us, pw, rfl, htw, roww, s15 _ _ hP14, row14.same s15, ul, lw, q _⟩
end
/-! ### what the top has written; the law's own head -/
theorem all_mk {l : PySem.W.OpenLaw} {w : World} {K : PySem.W.Frag} {h : Heap} {mg : Str → Option Value} {fa f1 f2 f3 f4 f5 f6 f7 f8 f9 f10 f11 f12 f13 f14 f15 f16 f17 f18 f19 f20 f21 f22 C_Listed C_BadNumber C_TooMany C_BadWish C_Unlike C_NoBuyers C_BadLot C_ShelfError : Addr} (X : K.In h) (G : h.Ns mainGlobals mg) (hfa : mg "law" = some (.ref fa))
    {od1 an1 od2 an2 od3 an3 od4 an4 od5 an5 od6 an6 od7 an7 od8 an8 od9 an9 od10 an10 od11 an11 od12 an12 od13 an13 od14 an14 od15 an15 od16 an16 od17 an17 od18 an18 od19 an19 od20 an20 od21 an21 od22 an22 : Option Addr} {sl1 sl2 sl3 sl4 sl5 sl6 sl7 sl8 sl9 sl10 sl11 sl12 sl13 sl14 sl15 sl16 sl17 sl18 sl19 sl20 sl21 sl22 : Array (Option Value)} {oc1 kV1 dc1 pm1 cd1 ct1 oc2 kV2 dc2 pm2 cd2 ct2 oc3 kV3 dc3 pm3 cd3 ct3 oc4 kV4 dc4 pm4 cd4 ct4 oc5 kV5 dc5 pm5 cd5 ct5 oc6 kV6 dc6 pm6 cd6 ct6 oc7 kV7 dc7 pm7 ct7 oc8 kV8 dc8 pm8 cd8 ct8 oc9 kV9 dc9 pm9 cd9 ct9 oc10 kV10 dc10 pm10 cd10 ct10 oc11 kV11 dc11 pm11 cd11 ct11 oc12 kV12 dc12 pm12 cd12 ct12 oc13 kV13 dc13 pm13 cd13 ct13 oc14 kV14 dc14 pm14 cd14 ct14 oc15 kV15 dc15 pm15 cd15 ct15 oc16 kV16 dc16 pm16 cd16 ct16 oc17 kV17 dc17 pm17 cd17 ct17 oc18 kV18 dc18 pm18 cd18 ct18 oc19 kV19 dc19 pm19 cd19 ct19 oc20 kV20 dc20 pm20 cd20 ct20 oc21 kV21 dc21 pm21 cd21 ct21 oc22 kV22 dc22 pm22 cd22 ct22 : Value} {tk_MOST_THINGS : Tok} {cc7 cda7 : Addr} {cl7 ccl7 : Value} {cld7 cdd7 : Option Addr} {csl7 ccs7 : Array (Option Value)} {vs7 : Array Value} {fi7 : Str} {tf7 : Tok} {cdW7 : ClassData}
    (a_Listed : PySem.W.nsIn K mainGlobals "Listed" = some (some (.ref C_Listed)))
    (kc_Listed : PySem.W.keepIn K (.ref C_Listed) = true)
    (hd_Listed : PySem.W.hasDictIn K C_Listed = true)
    (ha_Listed : PySem.W.findIn K (.ref C_Listed) "__class__" = some (some (.builtin "object.__class__")))
    (hm_Listed : PySem.W.mroIn K C_Listed (.type "object") = some true)
    (pg_Listed : PySem.W.plainGet K C_Listed Str.empty = true)
    (po_Listed : PySem.W.plainOver K C_Listed = true)
    (sa_Listed : PySem.W.findIn K (.ref C_Listed) "__setattr__" = some (some (.builtin "object.__setattr__")))
    (mk_Listed : PySem.W.makesIn K C_Listed = true)
    (n_Listed_many : PySem.W.findIn K (.ref C_Listed) "many" = some none)
    (n_Listed_wishes : PySem.W.findIn K (.ref C_Listed) "wishes" = some none)
    (a_BadNumber : PySem.W.nsIn K mainGlobals "BadNumber" = some (some (.ref C_BadNumber)))
    (kc_BadNumber : PySem.W.keepIn K (.ref C_BadNumber) = true)
    (hd_BadNumber : PySem.W.hasDictIn K C_BadNumber = true)
    (ha_BadNumber : PySem.W.findIn K (.ref C_BadNumber) "__class__" = some (some (.builtin "object.__class__")))
    (hm_BadNumber : PySem.W.mroIn K C_BadNumber (.type "object") = some true)
    (b_BadNumber : PySem.W.subIn K (.ref C_BadNumber) (.type "BaseException") = some true)
    (t_BadNumber : PySem.W.typeIn K (.ref C_BadNumber) = some (.type "type"))
    (ga_BadNumber : PySem.W.findIn K (.ref C_BadNumber) "__getattribute__" = some (some (.builtin "BaseException.__getattribute__")))
    (gg_BadNumber : PySem.W.findIn K (.ref C_BadNumber) "__getattr__" = some none)
    (ol_BadNumber : K.lookup C_BadNumber = some (excClassObj nm_BadNumber q_BadNumber C_BadNumber N_BadNumber bs_BadNumber bm_BadNumber true sn_BadNumber sub_BadNumber ab_BadNumber col_BadNumber dd_BadNumber k0_BadNumber k1_BadNumber k2_BadNumber k3_BadNumber k5_BadNumber "ValueError.__new__"))
    (or_BadNumber : PySem.HandSPX.refsVE bm_BadNumber = true)
    (sa_BadNumber : PySem.W.findIn K (.ref C_BadNumber) "__setattr__" = some (some (.builtin "object.__setattr__")))
    (n_BadNumber_what : PySem.W.findIn K (.ref C_BadNumber) "what" = some none)
    (n_BadNumber_at : PySem.W.findIn K (.ref C_BadNumber) "at" = some none)
    (a_TooMany : PySem.W.nsIn K mainGlobals "TooMany" = some (some (.ref C_TooMany)))
    (kc_TooMany : PySem.W.keepIn K (.ref C_TooMany) = true)
    (hd_TooMany : PySem.W.hasDictIn K C_TooMany = true)
    (ha_TooMany : PySem.W.findIn K (.ref C_TooMany) "__class__" = some (some (.builtin "object.__class__")))
    (hm_TooMany : PySem.W.mroIn K C_TooMany (.type "object") = some true)
    (b_TooMany : PySem.W.subIn K (.ref C_TooMany) (.type "BaseException") = some true)
    (t_TooMany : PySem.W.typeIn K (.ref C_TooMany) = some (.type "type"))
    (ga_TooMany : PySem.W.findIn K (.ref C_TooMany) "__getattribute__" = some (some (.builtin "BaseException.__getattribute__")))
    (gg_TooMany : PySem.W.findIn K (.ref C_TooMany) "__getattr__" = some none)
    (ol_TooMany : K.lookup C_TooMany = some (excClassObj nm_TooMany q_TooMany C_TooMany N_TooMany bs_TooMany bm_TooMany true sn_TooMany sub_TooMany ab_TooMany col_TooMany dd_TooMany k0_TooMany k1_TooMany k2_TooMany k3_TooMany k5_TooMany "ValueError.__new__"))
    (or_TooMany : PySem.HandSPX.refsVE bm_TooMany = true)
    (sa_TooMany : PySem.W.findIn K (.ref C_TooMany) "__setattr__" = some (some (.builtin "object.__setattr__")))
    (n_TooMany_many : PySem.W.findIn K (.ref C_TooMany) "many" = some none)
    (n_TooMany_most : PySem.W.findIn K (.ref C_TooMany) "most" = some none)
    (a_BadWish : PySem.W.nsIn K mainGlobals "BadWish" = some (some (.ref C_BadWish)))
    (kc_BadWish : PySem.W.keepIn K (.ref C_BadWish) = true)
    (hd_BadWish : PySem.W.hasDictIn K C_BadWish = true)
    (ha_BadWish : PySem.W.findIn K (.ref C_BadWish) "__class__" = some (some (.builtin "object.__class__")))
    (hm_BadWish : PySem.W.mroIn K C_BadWish (.type "object") = some true)
    (b_BadWish : PySem.W.subIn K (.ref C_BadWish) (.type "BaseException") = some true)
    (t_BadWish : PySem.W.typeIn K (.ref C_BadWish) = some (.type "type"))
    (ga_BadWish : PySem.W.findIn K (.ref C_BadWish) "__getattribute__" = some (some (.builtin "BaseException.__getattribute__")))
    (gg_BadWish : PySem.W.findIn K (.ref C_BadWish) "__getattr__" = some none)
    (ol_BadWish : K.lookup C_BadWish = some (excClassObj nm_BadWish q_BadWish C_BadWish N_BadWish bs_BadWish bm_BadWish true sn_BadWish sub_BadWish ab_BadWish col_BadWish dd_BadWish k0_BadWish k1_BadWish k2_BadWish k3_BadWish k5_BadWish "ValueError.__new__"))
    (or_BadWish : PySem.HandSPX.refsVE bm_BadWish = true)
    (sa_BadWish : PySem.W.findIn K (.ref C_BadWish) "__setattr__" = some (some (.builtin "object.__setattr__")))
    (n_BadWish_at : PySem.W.findIn K (.ref C_BadWish) "at" = some none)
    (a_Unlike : PySem.W.nsIn K mainGlobals "Unlike" = some (some (.ref C_Unlike)))
    (kc_Unlike : PySem.W.keepIn K (.ref C_Unlike) = true)
    (hd_Unlike : PySem.W.hasDictIn K C_Unlike = true)
    (ha_Unlike : PySem.W.findIn K (.ref C_Unlike) "__class__" = some (some (.builtin "object.__class__")))
    (hm_Unlike : PySem.W.mroIn K C_Unlike (.type "object") = some true)
    (b_Unlike : PySem.W.subIn K (.ref C_Unlike) (.type "BaseException") = some true)
    (t_Unlike : PySem.W.typeIn K (.ref C_Unlike) = some (.type "type"))
    (ga_Unlike : PySem.W.findIn K (.ref C_Unlike) "__getattribute__" = some (some (.builtin "BaseException.__getattribute__")))
    (gg_Unlike : PySem.W.findIn K (.ref C_Unlike) "__getattr__" = some none)
    (ol_Unlike : K.lookup C_Unlike = some (excClassObj nm_Unlike q_Unlike C_Unlike N_Unlike bs_Unlike bm_Unlike true sn_Unlike sub_Unlike ab_Unlike col_Unlike dd_Unlike k0_Unlike k1_Unlike k2_Unlike k3_Unlike k5_Unlike "ValueError.__new__"))
    (or_Unlike : PySem.HandSPX.refsVE bm_Unlike = true)
    (sa_Unlike : PySem.W.findIn K (.ref C_Unlike) "__setattr__" = some (some (.builtin "object.__setattr__")))
    (n_Unlike_at : PySem.W.findIn K (.ref C_Unlike) "at" = some none)
    (a_NoBuyers : PySem.W.nsIn K mainGlobals "NoBuyers" = some (some (.ref C_NoBuyers)))
    (kc_NoBuyers : PySem.W.keepIn K (.ref C_NoBuyers) = true)
    (hd_NoBuyers : PySem.W.hasDictIn K C_NoBuyers = true)
    (ha_NoBuyers : PySem.W.findIn K (.ref C_NoBuyers) "__class__" = some (some (.builtin "object.__class__")))
    (hm_NoBuyers : PySem.W.mroIn K C_NoBuyers (.type "object") = some true)
    (b_NoBuyers : PySem.W.subIn K (.ref C_NoBuyers) (.type "BaseException") = some true)
    (t_NoBuyers : PySem.W.typeIn K (.ref C_NoBuyers) = some (.type "type"))
    (ga_NoBuyers : PySem.W.findIn K (.ref C_NoBuyers) "__getattribute__" = some (some (.builtin "BaseException.__getattribute__")))
    (gg_NoBuyers : PySem.W.findIn K (.ref C_NoBuyers) "__getattr__" = some none)
    (x_NoBuyers : PySem.W.excIn K C_NoBuyers [.type "ValueError", .type "Exception", .type "BaseException", .type "object"] "ValueError.__new__" = true)
    (a_BadLot : PySem.W.nsIn K mainGlobals "BadLot" = some (some (.ref C_BadLot)))
    (kc_BadLot : PySem.W.keepIn K (.ref C_BadLot) = true)
    (hd_BadLot : PySem.W.hasDictIn K C_BadLot = true)
    (ha_BadLot : PySem.W.findIn K (.ref C_BadLot) "__class__" = some (some (.builtin "object.__class__")))
    (hm_BadLot : PySem.W.mroIn K C_BadLot (.type "object") = some true)
    (b_BadLot : PySem.W.subIn K (.ref C_BadLot) (.type "BaseException") = some true)
    (t_BadLot : PySem.W.typeIn K (.ref C_BadLot) = some (.type "type"))
    (ga_BadLot : PySem.W.findIn K (.ref C_BadLot) "__getattribute__" = some (some (.builtin "BaseException.__getattribute__")))
    (gg_BadLot : PySem.W.findIn K (.ref C_BadLot) "__getattr__" = some none)
    (a_ShelfError : PySem.W.nsIn K mainGlobals "ShelfError" = some (some (.ref C_ShelfError)))
    (kc_ShelfError : PySem.W.keepIn K (.ref C_ShelfError) = true)
    (hd_ShelfError : PySem.W.hasDictIn K C_ShelfError = true)
    (ha_ShelfError : PySem.W.findIn K (.ref C_ShelfError) "__class__" = some (some (.builtin "object.__class__")))
    (hm_ShelfError : PySem.W.mroIn K C_ShelfError (.type "object") = some true)
    (b_ShelfError : PySem.W.subIn K (.ref C_ShelfError) (.type "BaseException") = some true)
    (t_ShelfError : PySem.W.typeIn K (.ref C_ShelfError) = some (.type "type"))
    (ga_ShelfError : PySem.W.findIn K (.ref C_ShelfError) "__getattribute__" = some (some (.builtin "BaseException.__getattribute__")))
    (gg_ShelfError : PySem.W.findIn K (.ref C_ShelfError) "__getattr__" = some none)
    (hnc : PySem.W.specialIn K (.builtin "object.__class__") "__get__" = some (some (.builtin "getset_descriptor.__get__")))
    (htk : PySem.W.takesIn K (.builtin "object.__class__") = some true)
    (sub_TooMany_TooMany : PySem.W.subIn K (.ref C_TooMany) (.ref C_TooMany) = some true)
    (sub_TooMany_NoBuyers : PySem.W.subIn K (.ref C_TooMany) (.ref C_NoBuyers) = some false)
    (sub_TooMany_BadNumber : PySem.W.subIn K (.ref C_TooMany) (.ref C_BadNumber) = some false)
    (sub_TooMany_BadWish : PySem.W.subIn K (.ref C_TooMany) (.ref C_BadWish) = some false)
    (sub_NoBuyers_TooMany : PySem.W.subIn K (.ref C_NoBuyers) (.ref C_TooMany) = some false)
    (sub_NoBuyers_NoBuyers : PySem.W.subIn K (.ref C_NoBuyers) (.ref C_NoBuyers) = some true)
    (sub_NoBuyers_BadNumber : PySem.W.subIn K (.ref C_NoBuyers) (.ref C_BadNumber) = some false)
    (sub_NoBuyers_BadWish : PySem.W.subIn K (.ref C_NoBuyers) (.ref C_BadWish) = some false)
    (sub_BadNumber_TooMany : PySem.W.subIn K (.ref C_BadNumber) (.ref C_TooMany) = some false)
    (sub_BadNumber_NoBuyers : PySem.W.subIn K (.ref C_BadNumber) (.ref C_NoBuyers) = some false)
    (sub_BadNumber_BadNumber : PySem.W.subIn K (.ref C_BadNumber) (.ref C_BadNumber) = some true)
    (sub_BadNumber_BadWish : PySem.W.subIn K (.ref C_BadNumber) (.ref C_BadWish) = some false)
    (sub_BadWish_TooMany : PySem.W.subIn K (.ref C_BadWish) (.ref C_TooMany) = some false)
    (sub_BadWish_NoBuyers : PySem.W.subIn K (.ref C_BadWish) (.ref C_NoBuyers) = some false)
    (sub_BadWish_BadNumber : PySem.W.subIn K (.ref C_BadWish) (.ref C_BadNumber) = some false)
    (sub_BadWish_BadWish : PySem.W.subIn K (.ref C_BadWish) (.ref C_BadWish) = some true)
    (sub_TooMany_ShelfError : PySem.W.subIn K (.ref C_TooMany) (.ref C_ShelfError) = some true)
    (sub_NoBuyers_ShelfError : PySem.W.subIn K (.ref C_NoBuyers) (.ref C_ShelfError) = some true)
    (sub_BadNumber_ShelfError : PySem.W.subIn K (.ref C_BadNumber) (.ref C_ShelfError) = some true)
    (sub_BadWish_ShelfError : PySem.W.subIn K (.ref C_BadWish) (.ref C_ShelfError) = some true)
    (kit_TooMany_TooMany : PySem.W.kitOne K (.ref C_TooMany) (.ref C_TooMany) = some true)
    (kit_TooMany_NoBuyers : PySem.W.kitOne K (.ref C_TooMany) (.ref C_NoBuyers) = some false)
    (kit_TooMany_BadNumber : PySem.W.kitOne K (.ref C_TooMany) (.ref C_BadNumber) = some false)
    (kit_TooMany_BadWish : PySem.W.kitOne K (.ref C_TooMany) (.ref C_BadWish) = some false)
    (kit_TooMany_BadLot : PySem.W.kitOne K (.ref C_TooMany) (.ref C_BadLot) = some false)
    (kit_TooMany_Unlike : PySem.W.kitOne K (.ref C_TooMany) (.ref C_Unlike) = some false)
    (kit_TooMany_ValueError : PySem.W.kitOne K (.ref C_TooMany) (.type "ValueError") = some true)
    (kit_NoBuyers_TooMany : PySem.W.kitOne K (.ref C_NoBuyers) (.ref C_TooMany) = some false)
    (kit_NoBuyers_NoBuyers : PySem.W.kitOne K (.ref C_NoBuyers) (.ref C_NoBuyers) = some true)
    (kit_NoBuyers_BadNumber : PySem.W.kitOne K (.ref C_NoBuyers) (.ref C_BadNumber) = some false)
    (kit_NoBuyers_BadWish : PySem.W.kitOne K (.ref C_NoBuyers) (.ref C_BadWish) = some false)
    (kit_NoBuyers_BadLot : PySem.W.kitOne K (.ref C_NoBuyers) (.ref C_BadLot) = some false)
    (kit_NoBuyers_Unlike : PySem.W.kitOne K (.ref C_NoBuyers) (.ref C_Unlike) = some false)
    (kit_NoBuyers_ValueError : PySem.W.kitOne K (.ref C_NoBuyers) (.type "ValueError") = some true)
    (kit_BadNumber_TooMany : PySem.W.kitOne K (.ref C_BadNumber) (.ref C_TooMany) = some false)
    (kit_BadNumber_NoBuyers : PySem.W.kitOne K (.ref C_BadNumber) (.ref C_NoBuyers) = some false)
    (kit_BadNumber_BadNumber : PySem.W.kitOne K (.ref C_BadNumber) (.ref C_BadNumber) = some true)
    (kit_BadNumber_BadWish : PySem.W.kitOne K (.ref C_BadNumber) (.ref C_BadWish) = some false)
    (kit_BadNumber_BadLot : PySem.W.kitOne K (.ref C_BadNumber) (.ref C_BadLot) = some false)
    (kit_BadNumber_Unlike : PySem.W.kitOne K (.ref C_BadNumber) (.ref C_Unlike) = some false)
    (kit_BadNumber_ValueError : PySem.W.kitOne K (.ref C_BadNumber) (.type "ValueError") = some true)
    (kit_BadWish_TooMany : PySem.W.kitOne K (.ref C_BadWish) (.ref C_TooMany) = some false)
    (kit_BadWish_NoBuyers : PySem.W.kitOne K (.ref C_BadWish) (.ref C_NoBuyers) = some false)
    (kit_BadWish_BadNumber : PySem.W.kitOne K (.ref C_BadWish) (.ref C_BadNumber) = some false)
    (kit_BadWish_BadWish : PySem.W.kitOne K (.ref C_BadWish) (.ref C_BadWish) = some true)
    (kit_BadWish_BadLot : PySem.W.kitOne K (.ref C_BadWish) (.ref C_BadLot) = some false)
    (kit_BadWish_Unlike : PySem.W.kitOne K (.ref C_BadWish) (.ref C_Unlike) = some false)
    (kit_BadWish_ValueError : PySem.W.kitOne K (.ref C_BadWish) (.type "ValueError") = some true)
    (kit_Listed_Listed : PySem.W.kitOne K (.ref C_Listed) (.ref C_Listed) = some true)
    (a_MOST_THINGS : PySem.W.nsIn K mainGlobals "MOST_THINGS" = some (some (.int 24 tk_MOST_THINGS)))
    (a1 : PySem.W.findIn K (.ref C_BadNumber) "__init__" = some (some (.ref f1))) (i1 : PySem.W.isFn K (.ref f1) = true)
    (l1 : K.lookup f1 = some ⟨oc1, od1, .func (PySem.W.fnOf "__init__" "BadNumber.__init__" (defArgs s_BadNumber___init__) (defBody s_BadNumber___init__) (defScope s_BadNumber___init__) .none kV1 dc1 pm1 an1 cd1 ct1), sl1⟩)
    (c1 : PySem.W.codeIn K cd1 "BadNumber.__init__" = true) (k1 : PySem.W.keepIn K (.ref f1) = true)
    (a2 : PySem.W.findIn K (.ref C_TooMany) "__init__" = some (some (.ref f2))) (i2 : PySem.W.isFn K (.ref f2) = true)
    (l2 : K.lookup f2 = some ⟨oc2, od2, .func (PySem.W.fnOf "__init__" "TooMany.__init__" (defArgs s_TooMany___init__) (defBody s_TooMany___init__) (defScope s_TooMany___init__) .none kV2 dc2 pm2 an2 cd2 ct2), sl2⟩)
    (c2 : PySem.W.codeIn K cd2 "TooMany.__init__" = true) (k2 : PySem.W.keepIn K (.ref f2) = true)
    (a3 : PySem.W.findIn K (.ref C_BadWish) "__init__" = some (some (.ref f3))) (i3 : PySem.W.isFn K (.ref f3) = true)
    (l3 : K.lookup f3 = some ⟨oc3, od3, .func (PySem.W.fnOf "__init__" "BadWish.__init__" (defArgs s_BadWish___init__) (defBody s_BadWish___init__) (defScope s_BadWish___init__) .none kV3 dc3 pm3 an3 cd3 ct3), sl3⟩)
    (c3 : PySem.W.codeIn K cd3 "BadWish.__init__" = true) (k3 : PySem.W.keepIn K (.ref f3) = true)
    (a4 : PySem.W.nsIn K mainGlobals "check_many" = some (some (.ref f4)))
    (l4 : K.lookup f4 = some ⟨oc4, od4, .func (PySem.W.fnOf "check_many" "check_many" (defArgs s_check_many) (defBody s_check_many) (defScope s_check_many) .none kV4 dc4 pm4 an4 cd4 ct4), sl4⟩)
    (c4 : PySem.W.codeIn K cd4 "check_many" = true) (k4 : PySem.W.keepIn K (.ref f4) = true)
    (sg5 : PySem.W.ks_superIn K C_Listed C_Listed "__init__" = some (some (.ref f5)))
    (l5 : K.lookup f5 = some ⟨oc5, od5, .func (PySem.W.fnOf "__init__" "Rule.__init__" (defArgs s_Rule___init__) (defBody s_Rule___init__) (defScope s_Rule___init__) .none kV5 dc5 pm5 an5 cd5 ct5), sl5⟩)
    (c5 : PySem.W.codeIn K cd5 "Rule.__init__" = true) (k5 : PySem.W.keepIn K (.ref f5) = true)
    (a6 : PySem.W.nsIn K mainGlobals "_can_be_wished" = some (some (.ref f6)))
    (l6 : K.lookup f6 = some ⟨oc6, od6, .func (PySem.W.fnOf "_can_be_wished" "_can_be_wished" (defArgs s__can_be_wished) (defBody s__can_be_wished) (defScope s__can_be_wished) .none kV6 dc6 pm6 an6 cd6 ct6), sl6⟩)
    (c6 : PySem.W.codeIn K cd6 "_can_be_wished" = true) (k6 : PySem.W.keepIn K (.ref f6) = true)
    (sa7 : PySem.W.clsIn K C_Listed = some cdW7)
    (sb7 : PySem.W.mroIn K C_Listed (.ref C_Listed) = some true)
    (a7 : PySem.W.findIn K (.ref C_Listed) "__init__" = some (some (.ref f7))) (i7 : PySem.W.isFn K (.ref f7) = true)
    (l7 : K.lookup f7 = some ⟨oc7, od7, .func (PySem.W.ksFn "__init__" "Listed.__init__" (defArgs s_Listed___init__) (defBody s_Listed___init__) (defScope s_Listed___init__) .none kV7 dc7 pm7 an7 (.ref cda7) ct7 cc7), sl7⟩)
    (c7 : PySem.W.codeIn K (.ref cda7) "Listed.__init__" = true) (k7 : PySem.W.keepIn K (.ref f7) = true)
    (sc7 : K.lookup cc7 = some ⟨cl7, cld7, .cell (some (.ref C_Listed)), csl7⟩)
    (sd7 : K.lookup cda7 = some ⟨ccl7, cdd7, .fields vs7, ccs7⟩)
    (se7 : vs7[2]? = some (.str fi7 tf7))
    (sh7 : PySem.W.typeIn K (.ref f5) = some (.type "function"))
    (si7 : PySem.W.fnIn K f5 = true)
    (sj7 : PySem.W.nsIn K cStatics "thirdparty.any" = some none)
    (sk7 : PySem.W.nsIn K mainGlobals "super" = some none)
    (sl_7 : ((l.prog.main.file : Str) == fi7) = true)
    (sm7 : (l.prog.main.scope.names.lookup ("super" : Str)).isSome = false)
    (a8 : PySem.W.nsIn K mainGlobals "_law_cell" = some (some (.ref f8)))
    (l8 : K.lookup f8 = some ⟨oc8, od8, .func (PySem.W.fnOf "_law_cell" "_law_cell" (defArgs s__law_cell) (defBody s__law_cell) (defScope s__law_cell) .none kV8 dc8 pm8 an8 cd8 ct8), sl8⟩)
    (c8 : PySem.W.codeIn K cd8 "_law_cell" = true) (k8 : PySem.W.keepIn K (.ref f8) = true)
    (a9 : PySem.W.nsIn K mainGlobals "_law_draws" = some (some (.ref f9)))
    (l9 : K.lookup f9 = some ⟨oc9, od9, .func (PySem.W.fnOf "_law_draws" "_law_draws" (defArgs s__law_draws) (defBody s__law_draws) (defScope s__law_draws) .none kV9 dc9 pm9 an9 cd9 ct9), sl9⟩)
    (c9 : PySem.W.codeIn K cd9 "_law_draws" = true) (k9 : PySem.W.keepIn K (.ref f9) = true)
    (a10 : PySem.W.nsIn K mainGlobals "_law_row" = some (some (.ref f10)))
    (l10 : K.lookup f10 = some ⟨oc10, od10, .func (PySem.W.fnOf "_law_row" "_law_row" (defArgs s__law_row) (defBody s__law_row) (defScope s__law_row) .none kV10 dc10 pm10 an10 cd10 ct10), sl10⟩)
    (c10 : PySem.W.codeIn K cd10 "_law_row" = true) (k10 : PySem.W.keepIn K (.ref f10) = true)
    (a11 : PySem.W.nsIn K mainGlobals "_law_ups" = some (some (.ref f11)))
    (l11 : K.lookup f11 = some ⟨oc11, od11, .func (PySem.W.fnOf "_law_ups" "_law_ups" (defArgs s__law_ups) (defBody s__law_ups) (defScope s__law_ups) .none kV11 dc11 pm11 an11 cd11 ct11), sl11⟩)
    (c11 : PySem.W.codeIn K cd11 "_law_ups" = true) (k11 : PySem.W.keepIn K (.ref f11) = true)
    (a12 : PySem.W.nsIn K mainGlobals "_law_shuffled" = some (some (.ref f12)))
    (l12 : K.lookup f12 = some ⟨oc12, od12, .func (PySem.W.fnOf "_law_shuffled" "_law_shuffled" (defArgs s__law_shuffled) (defBody s__law_shuffled) (defScope s__law_shuffled) .none kV12 dc12 pm12 an12 cd12 ct12), sl12⟩)
    (c12 : PySem.W.codeIn K cd12 "_law_shuffled" = true) (k12 : PySem.W.keepIn K (.ref f12) = true)
    (a13 : PySem.W.nsIn K mainGlobals "_law_is_int" = some (some (.ref f13)))
    (l13 : K.lookup f13 = some ⟨oc13, od13, .func (PySem.W.fnOf "_law_is_int" "_law_is_int" (defArgs s__law_is_int) (defBody s__law_is_int) (defScope s__law_is_int) .none kV13 dc13 pm13 an13 cd13 ct13), sl13⟩)
    (c13 : PySem.W.codeIn K cd13 "_law_is_int" = true) (k13 : PySem.W.keepIn K (.ref f13) = true)
    (a14 : PySem.W.nsIn K mainGlobals "_law_same_lot" = some (some (.ref f14)))
    (l14 : K.lookup f14 = some ⟨oc14, od14, .func (PySem.W.fnOf "_law_same_lot" "_law_same_lot" (defArgs s__law_same_lot) (defBody s__law_same_lot) (defScope s__law_same_lot) .none kV14 dc14 pm14 an14 cd14 ct14), sl14⟩)
    (c14 : PySem.W.codeIn K cd14 "_law_same_lot" = true) (k14 : PySem.W.keepIn K (.ref f14) = true)
    (a15 : PySem.W.nsIn K mainGlobals "_law_list" = some (some (.ref f15)))
    (l15 : K.lookup f15 = some ⟨oc15, od15, .func (PySem.W.fnOf "_law_list" "_law_list" (defArgs s__law_list) (defBody s__law_list) (defScope s__law_list) .none kV15 dc15 pm15 an15 cd15 ct15), sl15⟩)
    (c15 : PySem.W.codeIn K cd15 "_law_list" = true) (k15 : PySem.W.keepIn K (.ref f15) = true)
    (a16 : PySem.W.nsIn K mainGlobals "_law_faulty" = some (some (.ref f16)))
    (l16 : K.lookup f16 = some ⟨oc16, od16, .func (PySem.W.fnOf "_law_faulty" "_law_faulty" (defArgs s__law_faulty) (defBody s__law_faulty) (defScope s__law_faulty) .none kV16 dc16 pm16 an16 cd16 ct16), sl16⟩)
    (c16 : PySem.W.codeIn K cd16 "_law_faulty" = true) (k16 : PySem.W.keepIn K (.ref f16) = true)
    (a17 : PySem.W.nsIn K mainGlobals "_law_due" = some (some (.ref f17)))
    (l17 : K.lookup f17 = some ⟨oc17, od17, .func (PySem.W.fnOf "_law_due" "_law_due" (defArgs s__law_due) (defBody s__law_due) (defScope s__law_due) .none kV17 dc17 pm17 an17 cd17 ct17), sl17⟩)
    (c17 : PySem.W.codeIn K cd17 "_law_due" = true) (k17 : PySem.W.keepIn K (.ref f17) = true)
    (a18 : PySem.W.nsIn K mainGlobals "_law_asked" = some (some (.ref f18)))
    (l18 : K.lookup f18 = some ⟨oc18, od18, .func (PySem.W.fnOf "_law_asked" "_law_asked" (defArgs s__law_asked) (defBody s__law_asked) (defScope s__law_asked) .none kV18 dc18 pm18 an18 cd18 ct18), sl18⟩)
    (c18 : PySem.W.codeIn K cd18 "_law_asked" = true) (k18 : PySem.W.keepIn K (.ref f18) = true)
    (a19 : PySem.W.nsIn K mainGlobals "_law_classes" = some (some (.ref f19)))
    (l19 : K.lookup f19 = some ⟨oc19, od19, .func (PySem.W.fnOf "_law_classes" "_law_classes" (defArgs s__law_classes) (defBody s__law_classes) (defScope s__law_classes) .none kV19 dc19 pm19 an19 cd19 ct19), sl19⟩)
    (c19 : PySem.W.codeIn K cd19 "_law_classes" = true) (k19 : PySem.W.keepIn K (.ref f19) = true)
    (a20 : PySem.W.nsIn K mainGlobals "_law_like" = some (some (.ref f20)))
    (l20 : K.lookup f20 = some ⟨oc20, od20, .func (PySem.W.fnOf "_law_like" "_law_like" (defArgs s__law_like) (defBody s__law_like) (defScope s__law_like) .none kV20 dc20 pm20 an20 cd20 ct20), sl20⟩)
    (c20 : PySem.W.codeIn K cd20 "_law_like" = true) (k20 : PySem.W.keepIn K (.ref f20) = true)
    (a21 : PySem.W.nsIn K mainGlobals "_law_kept" = some (some (.ref f21)))
    (l21 : K.lookup f21 = some ⟨oc21, od21, .func (PySem.W.fnOf "_law_kept" "_law_kept" (defArgs s__law_kept) (defBody s__law_kept) (defScope s__law_kept) .none kV21 dc21 pm21 an21 cd21 ct21), sl21⟩)
    (c21 : PySem.W.codeIn K cd21 "_law_kept" = true) (k21 : PySem.W.keepIn K (.ref f21) = true)
    (a22 : PySem.W.nsIn K mainGlobals "law" = some (some (.ref f22)))
    (l22 : K.lookup f22 = some ⟨oc22, od22, .func (PySem.W.fnOf "law" "law" (defArgs s_law) (defBody s_law) (defScope s_law) .none kV22 dc22 pm22 an22 cd22 ct22), sl22⟩)
    (c22 : PySem.W.codeIn K cd22 "law" = true) (k22 : PySem.W.keepIn K (.ref f22) = true)
    (z_ValueError : PySem.W.nsIn K mainGlobals "ValueError" = some none)
    (z_all : PySem.W.nsIn K mainGlobals "all" = some none)
    (z_any : PySem.W.nsIn K mainGlobals "any" = some none)
    (z_bool : PySem.W.nsIn K mainGlobals "bool" = some none)
    (z_enumerate : PySem.W.nsIn K mainGlobals "enumerate" = some none)
    (z_int : PySem.W.nsIn K mainGlobals "int" = some none)
    (z_isinstance : PySem.W.nsIn K mainGlobals "isinstance" = some none)
    (z_len : PySem.W.nsIn K mainGlobals "len" = some none)
    (z_list : PySem.W.nsIn K mainGlobals "list" = some none)
    (z_min : PySem.W.nsIn K mainGlobals "min" = some none)
    (z_range : PySem.W.nsIn K mainGlobals "range" = some none)
    (z_set : PySem.W.nsIn K mainGlobals "set" = some none)
    (z_str : PySem.W.nsIn K mainGlobals "str" = some none)
    (z_tuple : PySem.W.nsIn K mainGlobals "tuple" = some none) :
    ∃ fd : FuncData, (∀ (s : Shared) (v : Value), BindsTo s fd ⟨[v], []⟩ [("_law_script", v)]) ∧ ∀ base : Heap, K.In base → base.Ns mainGlobals mg → FnOk l.prog w K mg base CX0 8 fa fd ["_law_script"] (sp_law K) := by
  have e := hfa.symm.trans (PySem.W.mg_of X G a22)
  cases e
  have m_ValueError := PySem.W.mg_none_of X G z_ValueError
  have m_all := PySem.W.mg_none_of X G z_all
  have m_any := PySem.W.mg_none_of X G z_any
  have m_bool := PySem.W.mg_none_of X G z_bool
  have m_enumerate := PySem.W.mg_none_of X G z_enumerate
  have m_int := PySem.W.mg_none_of X G z_int
  have m_isinstance := PySem.W.mg_none_of X G z_isinstance
  have m_len := PySem.W.mg_none_of X G z_len
  have m_list := PySem.W.mg_none_of X G z_list
  have m_min := PySem.W.mg_none_of X G z_min
  have m_range := PySem.W.mg_none_of X G z_range
  have m_set := PySem.W.mg_none_of X G z_set
  have m_str := PySem.W.mg_none_of X G z_str
  have m_tuple := PySem.W.mg_none_of X G z_tuple
  have T : Txt K mg C_Listed C_BadNumber C_TooMany C_BadWish C_Unlike C_NoBuyers C_BadLot C_ShelfError := ⟨PySem.W.mg_of X G a_Listed, kc_Listed, hd_Listed, ha_Listed, hm_Listed, ⟨pg_Listed, hd_Listed, po_Listed, sa_Listed⟩, mk_Listed, n_Listed_many, n_Listed_wishes, PySem.W.mg_of X G a_BadNumber, kc_BadNumber, hd_BadNumber, ha_BadNumber, hm_BadNumber, b_BadNumber, t_BadNumber, ga_BadNumber, gg_BadNumber, ⟨⟨_, _, _, _, _, _, _, _, _, _, _, _, _, _, _, ol_BadNumber, or_BadNumber⟩, sa_BadNumber, b_BadNumber, t_BadNumber, kc_BadNumber⟩, ⟨ga_BadNumber, gg_BadNumber, b_BadNumber, hd_BadNumber⟩, n_BadNumber_what, n_BadNumber_at, PySem.W.mg_of X G a_TooMany, kc_TooMany, hd_TooMany, ha_TooMany, hm_TooMany, b_TooMany, t_TooMany, ga_TooMany, gg_TooMany, ⟨⟨_, _, _, _, _, _, _, _, _, _, _, _, _, _, _, ol_TooMany, or_TooMany⟩, sa_TooMany, b_TooMany, t_TooMany, kc_TooMany⟩, ⟨ga_TooMany, gg_TooMany, b_TooMany, hd_TooMany⟩, n_TooMany_many, n_TooMany_most, PySem.W.mg_of X G a_BadWish, kc_BadWish, hd_BadWish, ha_BadWish, hm_BadWish, b_BadWish, t_BadWish, ga_BadWish, gg_BadWish, ⟨⟨_, _, _, _, _, _, _, _, _, _, _, _, _, _, _, ol_BadWish, or_BadWish⟩, sa_BadWish, b_BadWish, t_BadWish, kc_BadWish⟩, ⟨ga_BadWish, gg_BadWish, b_BadWish, hd_BadWish⟩, n_BadWish_at, PySem.W.mg_of X G a_Unlike, kc_Unlike, hd_Unlike, ha_Unlike, hm_Unlike, b_Unlike, t_Unlike, ga_Unlike, gg_Unlike, ⟨⟨_, _, _, _, _, _, _, _, _, _, _, _, _, _, _, ol_Unlike, or_Unlike⟩, sa_Unlike, b_Unlike, t_Unlike, kc_Unlike⟩, ⟨ga_Unlike, gg_Unlike, b_Unlike, hd_Unlike⟩, n_Unlike_at, PySem.W.mg_of X G a_NoBuyers, kc_NoBuyers, hd_NoBuyers, ha_NoBuyers, hm_NoBuyers, b_NoBuyers, t_NoBuyers, ga_NoBuyers, gg_NoBuyers, x_NoBuyers, PySem.W.mg_of X G a_BadLot, kc_BadLot, hd_BadLot, ha_BadLot, hm_BadLot, b_BadLot, t_BadLot, ga_BadLot, gg_BadLot, PySem.W.mg_of X G a_ShelfError, kc_ShelfError, hd_ShelfError, ha_ShelfError, hm_ShelfError, b_ShelfError, t_ShelfError, ga_ShelfError, gg_ShelfError, hnc, htk, sub_TooMany_TooMany, sub_TooMany_NoBuyers, sub_TooMany_BadNumber, sub_TooMany_BadWish, sub_NoBuyers_TooMany, sub_NoBuyers_NoBuyers, sub_NoBuyers_BadNumber, sub_NoBuyers_BadWish, sub_BadNumber_TooMany, sub_BadNumber_NoBuyers, sub_BadNumber_BadNumber, sub_BadNumber_BadWish, sub_BadWish_TooMany, sub_BadWish_NoBuyers, sub_BadWish_BadNumber, sub_BadWish_BadWish, sub_TooMany_ShelfError, sub_NoBuyers_ShelfError, sub_BadNumber_ShelfError, sub_BadWish_ShelfError, kit_TooMany_TooMany, kit_TooMany_NoBuyers, kit_TooMany_BadNumber, kit_TooMany_BadWish, kit_TooMany_BadLot, kit_TooMany_Unlike, kit_TooMany_ValueError, kit_NoBuyers_TooMany, kit_NoBuyers_NoBuyers, kit_NoBuyers_BadNumber, kit_NoBuyers_BadWish, kit_NoBuyers_BadLot, kit_NoBuyers_Unlike, kit_NoBuyers_ValueError, kit_BadNumber_TooMany, kit_BadNumber_NoBuyers, kit_BadNumber_BadNumber, kit_BadNumber_BadWish, kit_BadNumber_BadLot, kit_BadNumber_Unlike, kit_BadNumber_ValueError, kit_BadWish_TooMany, kit_BadWish_NoBuyers, kit_BadWish_BadNumber, kit_BadWish_BadWish, kit_BadWish_BadLot, kit_BadWish_Unlike, kit_BadWish_ValueError, kit_Listed_Listed, ⟨_, PySem.W.mg_of X G a_MOST_THINGS⟩⟩
  have F1 := fun_mk (st := s_BadNumber___init__) l1 c1 k1
  have b1 := F1.binds (ps := ["self", "what", "at"]) fun _ _ _ _ _ _ us hl => match us, hl with | [_, _, _], _ => rfl
  have F2 := fun_mk (st := s_TooMany___init__) l2 c2 k2
  have b2 := F2.binds (ps := ["self", "many", "most"]) fun _ _ _ _ _ _ us hl => match us, hl with | [_, _, _], _ => rfl
  have F3 := fun_mk (st := s_BadWish___init__) l3 c3 k3
  have b3 := F3.binds (ps := ["self", "at"]) fun _ _ _ _ _ _ us hl => match us, hl with | [_, _], _ => rfl
  have F4 := fun_mk (st := s_check_many) l4 c4 k4
  have b4 := F4.binds (ps := ["many", "most"]) fun _ _ _ _ _ _ us hl => match us, hl with | [_, _], _ => rfl
  have F5 := fun_mk (st := s_Rule___init__) l5 c5 k5
  have b5 := F5.binds (ps := ["self", "many"]) fun _ _ _ _ _ _ us hl => match us, hl with | [_, _], _ => rfl
  have F6 := fun_mk (st := s__can_be_wished) l6 c6 k6
  have b6 := F6.binds (ps := ["things"]) fun _ _ _ _ _ _ us hl => match us, hl with | [_], _ => rfl
  have F7 : FunS K "__init__" "Listed.__init__" s_Listed___init__ cc7 cda7 f7 _ := ⟨⟨oc7, od7, kV7, dc7, pm7, an7, ct7, sl7, rfl, l7, c7⟩, k7⟩
  have b7 := F7.binds (ps := ["self", "many", "wishes"]) fun _ _ _ _ _ us hl => match us, hl with | [_, _, _], _ => rfl
  have S7 : SupC K mg C_Listed C_Listed cc7 cda7 f5 fi7 := ⟨⟨_, sa7⟩, sb7, ⟨_, _, _, sc7⟩, ⟨_, _, _, _, _, sd7, se7⟩, sg5, sh7, si7, sj7, PySem.W.mg_none_of X G sk7⟩
  have F8 := fun_mk (st := s__law_cell) l8 c8 k8
  have b8 := F8.binds (ps := ["_law_script", "_law_place"]) fun _ _ _ _ _ _ us hl => match us, hl with | [_, _], _ => rfl
  have F9 := fun_mk (st := s__law_draws) l9 c9 k9
  have b9 := F9.binds (ps := ["_law_cell_here", "_law_sizes"]) fun _ _ _ _ _ _ us hl => match us, hl with | [_, _], _ => rfl
  have F10 := fun_mk (st := s__law_row) l10 c10 k10
  have b10 := F10.binds (ps := ["_law_cell_here", "_law_count"]) fun _ _ _ _ _ _ us hl => match us, hl with | [_, _], _ => rfl
  have F11 := fun_mk (st := s__law_ups) l11 c11 k11
  have b11 := F11.binds (ps := ["_law_row_here"]) fun _ _ _ _ _ _ us hl => match us, hl with | [_], _ => rfl
  have F12 := fun_mk (st := s__law_shuffled) l12 c12 k12
  have b12 := F12.binds (ps := ["_law_places", "_law_things"]) fun _ _ _ _ _ _ us hl => match us, hl with | [_, _], _ => rfl
  have F13 := fun_mk (st := s__law_is_int) l13 c13 k13
  have b13 := F13.binds (ps := ["_law_x"]) fun _ _ _ _ _ _ us hl => match us, hl with | [_], _ => rfl
  have F14 := fun_mk (st := s__law_same_lot) l14 c14 k14
  have b14 := F14.binds (ps := ["_law_x", "_law_due_here"]) fun _ _ _ _ _ _ us hl => match us, hl with | [_, _], _ => rfl
  have F15 := fun_mk (st := s__law_list) l15 c15 k15
  have b15 := F15.binds (ps := ["_law_cell_here", "_law_many"]) fun _ _ _ _ _ _ us hl => match us, hl with | [_, _], _ => rfl
  have F16 := fun_mk (st := s__law_faulty) l16 c16 k16
  have b16 := F16.binds (ps := ["_law_pair", "_law_fault", "_law_many"]) fun _ _ _ _ _ _ us hl => match us, hl with | [_, _, _], _ => rfl
  have F17 := fun_mk (st := s__law_due) l17 c17 k17
  have b17 := F17.binds (ps := ["_law_many", "_law_pairs"]) fun _ _ _ _ _ _ us hl => match us, hl with | [_, _], _ => rfl
  have F18 := fun_mk (st := s__law_asked) l18 c18 k18
  have b18 := F18.binds (ps := ["_law_many", "_law_pairs"]) fun _ _ _ _ _ _ us hl => match us, hl with | [_, _], _ => rfl
  have F19 := fun_mk (st := s__law_classes) l19 c19 k19
  have b19 := F19.binds (ps := ["_law_many", "_law_pairs"]) fun _ _ _ _ _ _ us hl => match us, hl with | [_, _], _ => rfl
  have F20 := fun_mk (st := s__law_like) l20 c20 k20
  have b20 := F20.binds (ps := ["_law_told", "_law_due_here"]) fun _ _ _ _ _ _ us hl => match us, hl with | [_, _], _ => rfl
  have F21 := fun_mk (st := s__law_kept) l21 c21 k21
  have b21 := F21.binds (ps := ["_law_told", "_law_pairs"]) fun _ _ _ _ _ _ us hl => match us, hl with | [_, _], _ => rfl
  have F22 := fun_mk (st := s_law) l22 c22 k22
  refine ⟨PySem.W.fnOf "law" "law" (defArgs s_law) (defBody s_law) (defScope s_law) .none kV22 dc22 pm22 an22 cd22 ct22, fun s v => .of_eq rfl, fun base _ _ => ?_⟩
  have K_BadNumber___init__ : CalX l.prog w K mg base CX0 1 C_BadNumber ["self", "what", "at"] (sp_BadNumber___init__ C_BadNumber) := ⟨f1, _, ok_BadNumber___init__ F1 T, a1, beq_iff_eq.mp i1, b1⟩
  have K_TooMany___init__ : CalX l.prog w K mg base CX0 1 C_TooMany ["self", "many", "most"] (sp_TooMany___init__ C_TooMany) := ⟨f2, _, ok_TooMany___init__ F2 T, a2, beq_iff_eq.mp i2, b2⟩
  have K_BadWish___init__ : CalX l.prog w K mg base CX0 1 C_BadWish ["self", "at"] (sp_BadWish___init__ C_BadWish) := ⟨f3, _, ok_BadWish___init__ F3 T, a3, beq_iff_eq.mp i3, b3⟩
  have K_check_many : Cal l.prog w K mg base (L2.CX l.prog w) 3 "check_many" ["many", "most"] (sp_check_many C_TooMany) := ⟨f4, _, ok_check_many F4 T K_TooMany___init__, PySem.W.mg_of X G a4, k4, b4⟩
  have K_Rule___init__ : ∃ fd : FuncData, FnOk l.prog w K mg base (L2.CX l.prog w) 4 f5 fd ["self", "many"] (sp_Rule___init__ C_Listed C_TooMany) ∧ Binds K fd ["self", "many"] [] := ⟨_, ok_Rule___init__ F5 T K_check_many, b5⟩
  have K__can_be_wished : Cal l.prog w K mg base CX0 1 "_can_be_wished" ["things"] (sp__can_be_wished K) := ⟨f6, _, ok__can_be_wished F6 T m_all m_len m_set, PySem.W.mg_of X G a6, k6, b6⟩
  have K_Listed___init__ : CalI l.prog w K mg base (L2.CX l.prog w) 5 C_Listed ["self", "many", "wishes"] (sp_Listed___init__ C_Listed C_TooMany C_NoBuyers C_BadNumber C_BadWish) [] := ⟨f7, _, ok_Listed___init__ F7 S7 sl_7 sm7 T m_any m_enumerate m_len m_tuple K_Rule___init__ K__can_be_wished K_BadNumber___init__ K_BadWish___init__, ⟨mk_Listed, a7, i7, kc_Listed⟩, b7, [], .nil, b7⟩
  have K__law_cell : Cal l.prog w K mg base CX0 1 "_law_cell" ["_law_script", "_law_place"] (sp__law_cell K) := ⟨f8, _, ok__law_cell F8 T m_int m_len, PySem.W.mg_of X G a8, k8, b8⟩
  have K__law_draws : Cal l.prog w K mg base CX0 1 "_law_draws" ["_law_cell_here", "_law_sizes"] (sp__law_draws K) := ⟨f9, _, ok__law_draws F9 T m_int m_len m_range, PySem.W.mg_of X G a9, k9, b9⟩
  have K__law_row : Cal l.prog w K mg base CX0 2 "_law_row" ["_law_cell_here", "_law_count"] (sp__law_row K) := ⟨f10, _, ok__law_row F10 T m_int m_range K__law_draws, PySem.W.mg_of X G a10, k10, b10⟩
  have K__law_ups : Cal l.prog w K mg base CX0 1 "_law_ups" ["_law_row_here"] (sp__law_ups K) := ⟨f11, _, ok__law_ups F11 T, PySem.W.mg_of X G a11, k11, b11⟩
  have K__law_shuffled : Cal l.prog w K mg base CX0 1 "_law_shuffled" ["_law_places", "_law_things"] (sp__law_shuffled K) := ⟨f12, _, ok__law_shuffled F12 T m_int m_len m_list, PySem.W.mg_of X G a12, k12, b12⟩
  have K__law_is_int : Cal l.prog w K mg base CX0 1 "_law_is_int" ["_law_x"] sp__law_is_int := ⟨f13, _, ok__law_is_int F13 T m_bool m_int m_isinstance, PySem.W.mg_of X G a13, k13, b13⟩
  have K__law_same_lot : Cal l.prog w K mg base CX0 2 "_law_same_lot" ["_law_x", "_law_due_here"] (sp__law_same_lot K) := ⟨f14, _, ok__law_same_lot F14 T m_isinstance m_len m_range m_tuple K__law_is_int, PySem.W.mg_of X G a14, k14, b14⟩
  have K__law_list : Cal l.prog w K mg base CX0 2 "_law_list" ["_law_cell_here", "_law_many"] (sp__law_list K) := ⟨f15, _, ok__law_list F15 T m_range m_tuple K__law_draws K__law_shuffled, PySem.W.mg_of X G a15, k15, b15⟩
  have K__law_faulty : Cal l.prog w K mg base CX0 1 "_law_faulty" ["_law_pair", "_law_fault", "_law_many"] sp__law_faulty := ⟨f16, _, ok__law_faulty F16 T m_int m_len m_list m_tuple, PySem.W.mg_of X G a16, k16, b16⟩
  have K__law_due : Cal l.prog w K mg base CX0 1 "_law_due" ["_law_many", "_law_pairs"] sp__law_due := ⟨f17, _, ok__law_due F17 T m_len m_range, PySem.W.mg_of X G a17, k17, b17⟩
  have K__law_asked : Cal l.prog w K mg base CX0 7 "_law_asked" ["_law_many", "_law_pairs"] sp__law_asked := ⟨f18, _, ok__law_asked F18 T K_Listed___init__, PySem.W.mg_of X G a18, k18, b18⟩
  have K__law_classes : Cal l.prog w K mg base CX0 7 "_law_classes" ["_law_many", "_law_pairs"] sp__law_classes := ⟨f19, _, ok__law_classes F19 T m_ValueError m_isinstance K_Listed___init__, PySem.W.mg_of X G a19, k19, b19⟩
  have K__law_like : Cal l.prog w K mg base CX0 2 "_law_like" ["_law_told", "_law_due_here"] sp__law_like := ⟨f20, _, ok__law_like F20 T m_isinstance m_len m_range m_str K__law_is_int, PySem.W.mg_of X G a20, k20, b20⟩
  have K__law_kept : Cal l.prog w K mg base CX0 3 "_law_kept" ["_law_told", "_law_pairs"] sp__law_kept := ⟨f21, _, ok__law_kept F21 T m_isinstance m_len m_range m_tuple K__law_is_int K__law_same_lot, PySem.W.mg_of X G a21, k21, b21⟩
  exact ok_law F22 T m_int m_len m_list m_min m_range K__law_cell K__law_draws K__law_row K__law_ups K__law_list K__law_faulty K__law_due K__law_asked K__law_classes K__law_like K__law_is_int K__law_kept K_Listed___init__
end K21
open PySem PySem.W PyProof.Rows
set_option pp.maxSteps 400 in
set_option maxHeartbeats 0 in
theorem PySem.Challenge.cw_dearestshelf_k21_listed_refusals_holds : PySem.Challenge.rw_dearestshelf_k21_listed_refusals.Holds := by
  w_on; o_law; k_head; (case hw => w_witness2)
  k_fill
  refine L2.walk_of (l := PySem.Challenge.rw_dearestshelf_k21_listed_refusals) (n := 63) (k := 8) (x := "_law_script") (CX := fun _ => L2.CX0) (sp := fun w => K21.sp_law _) rfl (by decide) rfl ⟨rfl, by decide, by decide⟩ (fun w h Y => PySem.W.kIn_of Y) ?F (fun _ _ a ns hl _ hS => ⟨a, ns, rfl, hS, hl, fun _ => rfl⟩) (fun _ _ _ _ _ h => h)
  case F =>
    intro w mg fa h KX G hmg
    refine' K21.all_mk KX G hmg ?a_Listed ?kc_Listed ?hd_Listed ?ha_Listed ?hm_Listed ?pg_Listed ?po_Listed ?sa_Listed ?mk_Listed ?n_Listed_many ?n_Listed_wishes ?a_BadNumber ?kc_BadNumber ?hd_BadNumber ?ha_BadNumber ?hm_BadNumber ?b_BadNumber ?t_BadNumber ?ga_BadNumber ?gg_BadNumber ?ol_BadNumber ?or_BadNumber ?sa_BadNumber ?n_BadNumber_what ?n_BadNumber_at ?a_TooMany ?kc_TooMany ?hd_TooMany ?ha_TooMany ?hm_TooMany ?b_TooMany ?t_TooMany ?ga_TooMany ?gg_TooMany ?ol_TooMany ?or_TooMany ?sa_TooMany ?n_TooMany_many ?n_TooMany_most ?a_BadWish ?kc_BadWish ?hd_BadWish ?ha_BadWish ?hm_BadWish ?b_BadWish ?t_BadWish ?ga_BadWish ?gg_BadWish ?ol_BadWish ?or_BadWish ?sa_BadWish ?n_BadWish_at ?a_Unlike ?kc_Unlike ?hd_Unlike ?ha_Unlike ?hm_Unlike ?b_Unlike ?t_Unlike ?ga_Unlike ?gg_Unlike ?ol_Unlike ?or_Unlike ?sa_Unlike ?n_Unlike_at ?a_NoBuyers ?kc_NoBuyers ?hd_NoBuyers ?ha_NoBuyers ?hm_NoBuyers ?b_NoBuyers ?t_NoBuyers ?ga_NoBuyers ?gg_NoBuyers ?x_NoBuyers ?a_BadLot ?kc_BadLot ?hd_BadLot ?ha_BadLot ?hm_BadLot ?b_BadLot ?t_BadLot ?ga_BadLot ?gg_BadLot ?a_ShelfError ?kc_ShelfError ?hd_ShelfError ?ha_ShelfError ?hm_ShelfError ?b_ShelfError ?t_ShelfError ?ga_ShelfError ?gg_ShelfError ?hnc ?htk ?sub_TooMany_TooMany ?sub_TooMany_NoBuyers ?sub_TooMany_BadNumber ?sub_TooMany_BadWish ?sub_NoBuyers_TooMany ?sub_NoBuyers_NoBuyers ?sub_NoBuyers_BadNumber ?sub_NoBuyers_BadWish ?sub_BadNumber_TooMany ?sub_BadNumber_NoBuyers ?sub_BadNumber_BadNumber ?sub_BadNumber_BadWish ?sub_BadWish_TooMany ?sub_BadWish_NoBuyers ?sub_BadWish_BadNumber ?sub_BadWish_BadWish ?sub_TooMany_ShelfError ?sub_NoBuyers_ShelfError ?sub_BadNumber_ShelfError ?sub_BadWish_ShelfError ?kit_TooMany_TooMany ?kit_TooMany_NoBuyers ?kit_TooMany_BadNumber ?kit_TooMany_BadWish ?kit_TooMany_BadLot ?kit_TooMany_Unlike ?kit_TooMany_ValueError ?kit_NoBuyers_TooMany ?kit_NoBuyers_NoBuyers ?kit_NoBuyers_BadNumber ?kit_NoBuyers_BadWish ?kit_NoBuyers_BadLot ?kit_NoBuyers_Unlike ?kit_NoBuyers_ValueError ?kit_BadNumber_TooMany ?kit_BadNumber_NoBuyers ?kit_BadNumber_BadNumber ?kit_BadNumber_BadWish ?kit_BadNumber_BadLot ?kit_BadNumber_Unlike ?kit_BadNumber_ValueError ?kit_BadWish_TooMany ?kit_BadWish_NoBuyers ?kit_BadWish_BadNumber ?kit_BadWish_BadWish ?kit_BadWish_BadLot ?kit_BadWish_Unlike ?kit_BadWish_ValueError ?kit_Listed_Listed ?a_MOST_THINGS ?a1 ?i1 ?l1 ?c1 ?k1 ?a2 ?i2 ?l2 ?c2 ?k2 ?a3 ?i3 ?l3 ?c3 ?k3 ?a4 ?l4 ?c4 ?k4 ?sg5 ?l5 ?c5 ?k5 ?a6 ?l6 ?c6 ?k6 ?sa7 ?sb7 ?a7 ?i7 ?l7 ?c7 ?k7 ?sc7 ?sd7 ?se7 ?sh7 ?si7 ?sj7 ?sk7 ?sl_7 ?sm7 ?a8 ?l8 ?c8 ?k8 ?a9 ?l9 ?c9 ?k9 ?a10 ?l10 ?c10 ?k10 ?a11 ?l11 ?c11 ?k11 ?a12 ?l12 ?c12 ?k12 ?a13 ?l13 ?c13 ?k13 ?a14 ?l14 ?c14 ?k14 ?a15 ?l15 ?c15 ?k15 ?a16 ?l16 ?c16 ?k16 ?a17 ?l17 ?c17 ?k17 ?a18 ?l18 ?c18 ?k18 ?a19 ?l19 ?c19 ?k19 ?a20 ?l20 ?c20 ?k20 ?a21 ?l21 ?c21 ?k21 ?a22 ?l22 ?c22 ?k22 ?z_ValueError ?z_all ?z_any ?z_bool ?z_enumerate ?z_int ?z_isinstance ?z_len ?z_list ?z_min ?z_range ?z_set ?z_str ?z_tuple
    (case a_Listed => k_is); (case kc_Listed => k_is); (case hd_Listed => k_is); (case ha_Listed => k_is); (case hm_Listed => k_is); (case pg_Listed => k_is); (case po_Listed => k_is); (case sa_Listed => k_is); (case mk_Listed => k_is); (case n_Listed_many => k_is); (case n_Listed_wishes => k_is); (case a_BadNumber => k_is); (case kc_BadNumber => k_is); (case hd_BadNumber => k_is); (case ha_BadNumber => k_is); (case hm_BadNumber => k_is); (case b_BadNumber => k_is); (case t_BadNumber => k_is); (case ga_BadNumber => k_is); (case gg_BadNumber => k_is); (case ol_BadNumber => k_is); (case or_BadNumber => rfl); (case sa_BadNumber => k_is); (case n_BadNumber_what => k_is); (case n_BadNumber_at => k_is); (case a_TooMany => k_is); (case kc_TooMany => k_is); (case hd_TooMany => k_is); (case ha_TooMany => k_is); (case hm_TooMany => k_is); (case b_TooMany => k_is); (case t_TooMany => k_is); (case ga_TooMany => k_is); (case gg_TooMany => k_is); (case ol_TooMany => k_is); (case or_TooMany => rfl); (case sa_TooMany => k_is); (case n_TooMany_many => k_is); (case n_TooMany_most => k_is); (case a_BadWish => k_is); (case kc_BadWish => k_is); (case hd_BadWish => k_is); (case ha_BadWish => k_is); (case hm_BadWish => k_is); (case b_BadWish => k_is); (case t_BadWish => k_is); (case ga_BadWish => k_is); (case gg_BadWish => k_is); (case ol_BadWish => k_is); (case or_BadWish => rfl); (case sa_BadWish => k_is); (case n_BadWish_at => k_is); (case a_Unlike => k_is); (case kc_Unlike => k_is); (case hd_Unlike => k_is); (case ha_Unlike => k_is); (case hm_Unlike => k_is); (case b_Unlike => k_is); (case t_Unlike => k_is); (case ga_Unlike => k_is); (case gg_Unlike => k_is); (case ol_Unlike => k_is); (case or_Unlike => rfl); (case sa_Unlike => k_is); (case n_Unlike_at => k_is); (case a_NoBuyers => k_is); (case kc_NoBuyers => k_is); (case hd_NoBuyers => k_is); (case ha_NoBuyers => k_is); (case hm_NoBuyers => k_is); (case b_NoBuyers => k_is); (case t_NoBuyers => k_is); (case ga_NoBuyers => k_is); (case gg_NoBuyers => k_is); (case x_NoBuyers => k_exc); (case a_BadLot => k_is); (case kc_BadLot => k_is); (case hd_BadLot => k_is); (case ha_BadLot => k_is); (case hm_BadLot => k_is); (case b_BadLot => k_is); (case t_BadLot => k_is); (case ga_BadLot => k_is); (case gg_BadLot => k_is); (case a_ShelfError => k_is); (case kc_ShelfError => k_is); (case hd_ShelfError => k_is); (case ha_ShelfError => k_is); (case hm_ShelfError => k_is); (case b_ShelfError => k_is); (case t_ShelfError => k_is); (case ga_ShelfError => k_is); (case gg_ShelfError => k_is); (case hnc => k_is); (case htk => k_is); (case sub_TooMany_TooMany => (first | rfl | k_is)); (case sub_TooMany_NoBuyers => (first | rfl | k_is)); (case sub_TooMany_BadNumber => (first | rfl | k_is)); (case sub_TooMany_BadWish => (first | rfl | k_is)); (case sub_NoBuyers_TooMany => (first | rfl | k_is)); (case sub_NoBuyers_NoBuyers => (first | rfl | k_is)); (case sub_NoBuyers_BadNumber => (first | rfl | k_is)); (case sub_NoBuyers_BadWish => (first | rfl | k_is)); (case sub_BadNumber_TooMany => (first | rfl | k_is)); (case sub_BadNumber_NoBuyers => (first | rfl | k_is)); (case sub_BadNumber_BadNumber => (first | rfl | k_is)); (case sub_BadNumber_BadWish => (first | rfl | k_is)); (case sub_BadWish_TooMany => (first | rfl | k_is)); (case sub_BadWish_NoBuyers => (first | rfl | k_is)); (case sub_BadWish_BadNumber => (first | rfl | k_is)); (case sub_BadWish_BadWish => (first | rfl | k_is)); (case sub_TooMany_ShelfError => (first | rfl | k_is)); (case sub_NoBuyers_ShelfError => (first | rfl | k_is)); (case sub_BadNumber_ShelfError => (first | rfl | k_is)); (case sub_BadWish_ShelfError => (first | rfl | k_is)); (case kit_TooMany_TooMany => kit_is); (case kit_TooMany_NoBuyers => kit_is); (case kit_TooMany_BadNumber => kit_is); (case kit_TooMany_BadWish => kit_is); (case kit_TooMany_BadLot => kit_is); (case kit_TooMany_Unlike => kit_is); (case kit_TooMany_ValueError => kit_is); (case kit_NoBuyers_TooMany => kit_is); (case kit_NoBuyers_NoBuyers => kit_is); (case kit_NoBuyers_BadNumber => kit_is); (case kit_NoBuyers_BadWish => kit_is); (case kit_NoBuyers_BadLot => kit_is); (case kit_NoBuyers_Unlike => kit_is); (case kit_NoBuyers_ValueError => kit_is); (case kit_BadNumber_TooMany => kit_is); (case kit_BadNumber_NoBuyers => kit_is); (case kit_BadNumber_BadNumber => kit_is); (case kit_BadNumber_BadWish => kit_is); (case kit_BadNumber_BadLot => kit_is); (case kit_BadNumber_Unlike => kit_is); (case kit_BadNumber_ValueError => kit_is); (case kit_BadWish_TooMany => kit_is); (case kit_BadWish_NoBuyers => kit_is); (case kit_BadWish_BadNumber => kit_is); (case kit_BadWish_BadWish => kit_is); (case kit_BadWish_BadLot => kit_is); (case kit_BadWish_Unlike => kit_is); (case kit_BadWish_ValueError => kit_is); (case kit_Listed_Listed => kit_is); (case a_MOST_THINGS => k_is); (case a1 => k_is); (case i1 => k_is); (case l1 => k_is); (case c1 => k_is); (case k1 => k_is); (case a2 => k_is); (case i2 => k_is); (case l2 => k_is); (case c2 => k_is); (case k2 => k_is); (case a3 => k_is); (case i3 => k_is); (case l3 => k_is); (case c3 => k_is); (case k3 => k_is); (case a4 => k_is); (case l4 => k_is); (case c4 => k_is); (case k4 => k_is); (case sg5 => ks_is); (case l5 => k_is); (case c5 => k_is); (case k5 => k_is); (case a6 => k_is); (case l6 => k_is); (case c6 => k_is); (case k6 => k_is); (case sa7 => k_is); (case sb7 => k_is); (case a7 => k_is); (case i7 => k_is); (case l7 => k_is); (case c7 => k_is); (case k7 => k_is); (case sc7 => k_is); (case sd7 => k_is); (case se7 => rfl); (case sh7 => k_is); (case si7 => k_is); (case sj7 => k_is); (case sk7 => k_is); (case sl_7 => (first | rfl | decide +kernel)); (case sm7 => (first | rfl | decide +kernel)); (case a8 => k_is); (case l8 => k_is); (case c8 => k_is); (case k8 => k_is); (case a9 => k_is); (case l9 => k_is); (case c9 => k_is); (case k9 => k_is); (case a10 => k_is); (case l10 => k_is); (case c10 => k_is); (case k10 => k_is); (case a11 => k_is); (case l11 => k_is); (case c11 => k_is); (case k11 => k_is); (case a12 => k_is); (case l12 => k_is); (case c12 => k_is); (case k12 => k_is); (case a13 => k_is); (case l13 => k_is); (case c13 => k_is); (case k13 => k_is); (case a14 => k_is); (case l14 => k_is); (case c14 => k_is); (case k14 => k_is); (case a15 => k_is); (case l15 => k_is); (case c15 => k_is); (case k15 => k_is); (case a16 => k_is); (case l16 => k_is); (case c16 => k_is); (case k16 => k_is); (case a17 => k_is); (case l17 => k_is); (case c17 => k_is); (case k17 => k_is); (case a18 => k_is); (case l18 => k_is); (case c18 => k_is); (case k18 => k_is); (case a19 => k_is); (case l19 => k_is); (case c19 => k_is); (case k19 => k_is); (case a20 => k_is); (case l20 => k_is); (case c20 => k_is); (case k20 => k_is); (case a21 => k_is); (case l21 => k_is); (case c21 => k_is); (case k21 => k_is); (case a22 => k_is); (case l22 => k_is); (case c22 => k_is); (case k22 => k_is); (case z_ValueError => k_is); (case z_all => k_is); (case z_any => k_is); (case z_bool => k_is); (case z_enumerate => k_is); (case z_int => k_is); (case z_isinstance => k_is); (case z_len => k_is); (case z_list => k_is); (case z_min => k_is); (case z_range => k_is); (case z_set => k_is); (case z_str => k_is); (case z_tuple => k_is)
