import PyProof.Rows.All
import Wide.All
import OpenK.AllK
import Wide.FinOn
import HandS.ForMost
import HandS.ForExc
import HandS.Wide
import HandS.IsInst
import HandS.More
import HandS.Conv
import HandS.Evl
import HandS.ExcIs
import HandS.Defaults
import HandS.ExcInit
import HandS.ExcField
import HandS.TryMany
import HandS.Nested
import HandS.ClsMeth
import HandS.Iter
import HandS.Walk
import HandS.Style
import HandS.ListEq
import KE.KSuper
import KE.RegKSuper
import KE.KExcIs
import KE.RegKIsAll
import HandS.OwnEq
import HandS.Gcd
import HandS.SortKw
import HandS.TupAny
import HandS.Star
import HandS.SetFor
import HandS.Set
import HandS.NoneIn
import KE.KUnpackStar
import HandS.GenCall
import HandS.GenList
import HandS.GenYield
import PySem.Challenge.RW_dearestshelf_k48_alternating_sums
set_option Elab.async false
set_option linter.all false
set_option maxRecDepth 100000
set_option maxHeartbeats 8000000
set_option exponentiation.threshold 10000
open PySem PySem.Spec PyProof.Rows L2
/-! ### a generator that sleeps: what does not wake it runs as if it could not be woken -/
namespace GKeep
open PySem
/-- no other generator's frame -/
def Ret (fs : List Frame) : Prop := ∀ F ∈ fs, ∀ g k l c p, F ≠ .gen g k l c p
theorem Ret.nil : Ret [] := fun F h => by cases h
theorem Ret.app {a b : List Frame} (ha : Ret a) (hb : Ret b) : Ret (a ++ b) := fun F h => (List.mem_append.mp h).elim (ha F) (hb F)
theorem Ret.tail {F : Frame} {fs : List Frame} (h : Ret (F :: fs)) : Ret fs := fun G hG => h G (List.mem_cons_of_mem _ hG)
theorem Ret.one {k h g l c p kp} : Ret [.ret k h g l c p kp] := fun F hF => by
  obtain rfl := List.mem_singleton.mp hF
  intro g' k' l' c' p' z
  cases z
theorem Ret.split : ∀ {fs : List Frame}, Ret fs → splitAtGen fs = none
  | [], _ => rfl
  | .gen g k l c p :: _, h => absurd rfl (h _ List.mem_cons_self g k l c p)
  | .ret k hd g l c p kp :: rest, h => by
    have e := Ret.split (fs := rest) h.tail
    show (splitAtGen rest).map _ = none
    rw [e]
    rfl
/-- asleep for good -/
def dead : Resume → Sem PySem.Fin := fun _ => .unsupported ""
def Plain : GenState → Prop
  | .suspended _ _ _ _ fs _ => Ret fs
  | _ => True
def Dead : GenState → Prop
  | .suspended k _ _ _ _ _ => k = dead
  | _ => False
/-- the same, or the one asleep for good in the other's place -/
def Still (x y : GenState) : Prop := (x = y ∧ Plain x) ∨ ∃ k l c p fs cl, x = .suspended dead l c p fs cl ∧ y = .suspended k l c p fs cl
theorem Still.seen {x y : GenState} (h : Still x y) : x.seen = y.seen := by
  rcases h with ⟨rfl, _⟩ | ⟨k, l, c, p, fs, cl, rfl, rfl⟩
  · rfl
  · rfl
theorem Still.bare {x y : GenState} (h : Still x y) : x.bare = y.bare := by
  rcases h with ⟨rfl, _⟩ | ⟨k, l, c, p, fs, cl, rfl, rfl⟩
  · rfl
  · rfl
structure Tw (A B : Array GenState) : Prop where
  size : A.size = B.size
  at_ : ∀ (i : Nat) (x : GenState), A[i]? = some x → ∃ y, B[i]? = some y ∧ Still x y
/-- what sleeps for good stays, and so does its twin -/
def Kp (A B A' B' : Array GenState) : Prop := ∀ (i : Nat) (x : GenState), A[i]? = some x → Dead x → A'[i]? = some x ∧ B'[i]? = B[i]?
theorem Kp.refl (A B : Array GenState) : Kp A B A B := fun _ _ h _ => ⟨h, rfl⟩
theorem Kp.trans {A B A1 B1 A2 B2 : Array GenState} (h : Kp A B A1 B1) (k : Kp A1 B1 A2 B2) : Kp A B A2 B2 := fun i x e d => by
  obtain ⟨h1, h2⟩ := h i x e d
  obtain ⟨k1, k2⟩ := k i x h1 d
  exact ⟨k1, k2.trans h2⟩
def EndPlain : End → Prop
  | .ret _ => True
  | .susp _ _ _ _ _ _ fs => Ret fs
theorem EndPlain.gen {e : End} (h : EndPlain e) : Plain e.genState := by
  cases e with
  | ret _ => exact True.intro
  | susp v g l k c p fs => exact h
theorem Tw.push {A B : Array GenState} (h : Tw A B) {x : GenState} (hx : Plain x) : Tw (A.push x) (B.push x) := by
  refine ⟨by rw [Array.size_push, Array.size_push, h.size], fun i y e => ?_⟩
  rw [Array.getElem?_push] at e ⊢
  rw [← h.size]
  by_cases c : i = A.size
  · rw [if_pos c] at e ⊢
    obtain rfl := Option.some.inj e
    exact ⟨_, rfl, .inl ⟨rfl, hx⟩⟩
  · rw [if_neg c] at e ⊢
    exact h.at_ i y e
theorem Kp.push {A B : Array GenState} (t : Tw A B) {x : GenState} : Kp A B (A.push x) (B.push x) := fun i y e d => by
  have lt : i < A.size := (Array.getElem?_eq_some_iff.mp e).1
  rw [Array.getElem?_push, Array.getElem?_push, if_neg (by omega), if_neg (by have := t.size; omega)]
  exact ⟨e, rfl⟩
theorem set_at {A : Array GenState} {g i : Nat} {x : GenState} : (A.setIfInBounds g x)[i]? = if i = g then (if i < A.size then some x else none) else A[i]? := by
  by_cases c : i = g
  · subst c
    rw [if_pos rfl]
    by_cases d : i < A.size
    · rw [if_pos d]
      simp [d]
    · rw [if_neg d]
      simp [d]
  · rw [if_neg c, Array.getElem?_setIfInBounds_ne (Ne.symm c)]
theorem Tw.set {A B : Array GenState} (h : Tw A B) {g : Nat} {x : GenState} (hx : Plain x) : Tw (A.setIfInBounds g x) (B.setIfInBounds g x) := by
  refine ⟨by rw [Array.size_setIfInBounds, Array.size_setIfInBounds, h.size], fun i y e => ?_⟩
  rw [set_at] at e ⊢
  rw [← h.size]
  by_cases c : i = g
  · rw [if_pos c] at e ⊢
    by_cases d : i < A.size
    · rw [if_pos d] at e ⊢
      obtain rfl := Option.some.inj e
      exact ⟨_, rfl, .inl ⟨rfl, hx⟩⟩
    · rw [if_neg d] at e
      cases e
  · rw [if_neg c] at e ⊢
    exact h.at_ i y e
/-- g itself does not sleep for good -/
theorem Kp.set {A B : Array GenState} {g : Nat} {x y : GenState} (e : A[g]? = some y) (nd : ¬ Dead y) : Kp A B (A.setIfInBounds g x) (B.setIfInBounds g x) := fun i z ez d => by
  have c : i ≠ g := fun c => by
    subst c
    rw [e] at ez
    exact nd (Option.some.inj ez ▸ d)
  rw [set_at, set_at, if_neg c, if_neg c]
  exact ⟨ez, rfl⟩
theorem Kp.around {A B A1 B1 : Array GenState} {g : Nat} {x y z : GenState} (e : A[g]? = some y) (nd : ¬ Dead y) (c : Kp (A.setIfInBounds g x) (B.setIfInBounds g x) A1 B1) : Kp A B (A1.setIfInBounds g z) (B1.setIfInBounds g z) := fun i w ew d => by
  have ne : i ≠ g := fun c => by
    subst c
    rw [e] at ew
    exact nd (Option.some.inj ew ▸ d)
  obtain ⟨h1, h2⟩ := c i w (by rw [set_at, if_neg ne]; exact ew) d
  rw [set_at, set_at, if_neg ne, if_neg ne]
  exact ⟨h1, h2.trans (by rw [set_at, if_neg ne])⟩
theorem no_run {M : Model} {Γ : PySem.Ctx} {p : Pos} {t : Sem PySem.Fin} {fs : List Frame} {s s' : Shared} {e : End} (h : Runs M Γ p t fs s e s') : ∀ m, t ≠ .unsupported m := by
  induction h with
  | segRet _ _ ih _ => exact ih
  | segGen _ _ ih _ => exact ih
  | segSuspOut _ _ ih => exact ih
  | segSuspGen _ _ _ _ ih _ => exact ih
  | _ => exact fun m z => by cases z
/-- the run of a heap whose sleepers are asleep for good is the run of the heap itself -/
theorem runs_twin {M : Model} {Γ : PySem.Ctx} {p : Pos} {t : Sem PySem.Fin} {fs : List Frame} {s s' : Shared} {e : End} (h : Runs M Γ p t fs s e s') :
    ∀ B : Array GenState, Ret fs → Tw s.gens B → ∃ B', Runs M Γ p t fs { s with gens := B } e { s' with gens := B' } ∧ Tw s'.gens B' ∧ Kp s.gens B s'.gens B' ∧ EndPlain e := by
  induction h with
  | done => exact fun B _ tw => ⟨B, .done, tw, .refl _ _, True.intro⟩
  | raise => exact fun B _ tw => ⟨B, .raise, tw, .refl _ _, True.intro⟩
  | again q _ ih => exact fun B n tw => (ih B n tw).imp fun B' ⟨a, b⟩ => ⟨.again q a, b⟩
  | rule _ ih => exact fun B n tw => (ih B n tw).imp fun B' ⟨a, b⟩ => ⟨.rule a, b⟩
  | «at» _ ih => exact fun B n tw => (ih B n tw).imp fun B' ⟨a, b⟩ => ⟨.at a, b⟩
  | load q _ ih => exact fun B n tw => (ih B n tw).imp fun B' ⟨a, b⟩ => ⟨.load q a, b⟩
  | update q _ ih => exact fun B n tw => (ih B n tw).imp fun B' ⟨a, b⟩ => ⟨.update q a, b⟩
  | loadIfAlive _ ih => exact fun B n tw => (ih B n tw).imp fun B' ⟨a, b⟩ => ⟨.loadIfAlive a, b⟩
  | point _ ih => exact fun B n tw => (ih B n tw).imp fun B' ⟨a, b⟩ => ⟨.point a, b⟩
  | alloc _ ih => exact fun B n tw => (ih B n tw).imp fun B' ⟨a, b⟩ => ⟨.alloc a, b⟩
  | fresh _ ih => exact fun B n tw => (ih B n tw).imp fun B' ⟨a, b⟩ => ⟨.fresh a, b⟩
  | ask _ ih => exact fun B n tw => (ih B n tw).imp fun B' ⟨a, b⟩ => ⟨.ask a, b⟩
  | choose q _ ih => exact fun B n tw => (ih B n tw).imp fun B' ⟨a, b⟩ => ⟨.choose q a, b⟩
  | os _ ih => exact fun B n tw => (ih B n tw).imp fun B' ⟨a, b⟩ => ⟨.os a, b⟩
  | handled _ ih => exact fun B n tw => (ih B n tw).imp fun B' ⟨a, b⟩ => ⟨.handled a, b⟩
  | stack _ ih => exact fun B n tw => (ih B n tw).imp fun B' ⟨a, b⟩ => ⟨.stack a, b⟩
  | thread _ ih => exact fun B n tw => (ih B n tw).imp fun B' ⟨a, b⟩ => ⟨.thread a, b⟩
  | genState q _ ih =>
    intro B n tw
    obtain ⟨y, hy, st⟩ := tw.at_ _ _ q
    refine (ih B n tw).imp fun B' ⟨a, b⟩ => ⟨.genState (st := y) hy ?_, b⟩
    rw [← st.seen]
    exact a
  | newGen _ ih =>
    intro B n tw
    refine (ih _ n (tw.push (x := .fresh _) True.intro)).imp fun B' ⟨a, b, c, d⟩ => ⟨.newGen ?_, b, (Kp.push tw).trans c, d⟩
    rw [show ({ (_ : Shared) with gens := B } : Shared).gens.size = _ from tw.size.symm]
    exact a
  | call _ _ ih1 ih2 =>
    intro B n tw
    obtain ⟨B1, a1, b1, c1, d1⟩ := ih1 B .nil tw
    obtain ⟨B2, a2, b2, c2, d2⟩ := ih2 B1 n b1
    exact ⟨B2, .call a1 a2, b2, c1.trans c2, d2⟩
  | callSusp _ ih =>
    intro B n tw
    obtain ⟨B1, a1, b1, c1, d1⟩ := ih B .nil tw
    exact ⟨B1, .callSusp a1, b1, c1, Ret.app d1 .one⟩
  | yield => exact fun B n tw => ⟨B, .yield, tw, .refl _ _, .nil⟩
  | resumeFresh q _ qu _ ih1 ih2 =>
    intro B n tw
    obtain ⟨y, hy, st⟩ := tw.at_ _ _ q
    obtain rfl : y = .fresh _ := by
      rcases st with ⟨rfl, _⟩ | ⟨k, l, c, p, fs, cl, z, _⟩
      · rfl
      · cases z
    obtain ⟨B1, a1, b1, c1, d1⟩ := ih1 _ .nil (tw.set (x := .running) True.intro)
    obtain ⟨B2, a2, b2, c2, d2⟩ := ih2 _ .nil (b1.set d1.gen)
    exact ⟨B2, .resumeFresh hy a1 qu a2, b2, (Kp.around q (fun z => z) c1).trans c2, d2⟩
  | resumeSuspended q r1 qu _ ih1 ih2 =>
    intro B n tw
    obtain ⟨y, hy, st⟩ := tw.at_ _ _ q
    rcases st with ⟨rfl, pl⟩ | ⟨k, l, c, p, fs, cl, z, _⟩
    · obtain ⟨B1, a1, b1, c1, d1⟩ := ih1 _ pl (tw.set (x := .running) True.intro)
      obtain ⟨B2, a2, b2, c2, d2⟩ := ih2 _ .nil (b1.set d1.gen)
      refine ⟨B2, .resumeSuspended hy a1 qu a2, b2, (Kp.around q (fun z => ?_) c1).trans c2, d2⟩
      exact no_run r1 "" (congrFun z _)
    · have e := (GenState.suspended.inj z).1
      exact absurd (congrFun e _) (no_run r1 "")
  | resumeJustStarted q v _ ih =>
    intro B n tw
    obtain ⟨y, hy, st⟩ := tw.at_ _ _ q
    obtain rfl : y = .fresh _ := by
      rcases st with ⟨rfl, _⟩ | ⟨k, l, c, p, fs, cl, z, _⟩
      · rfl
      · cases z
    exact (ih B n tw).imp fun B' ⟨a, b⟩ => ⟨.resumeJustStarted hy v a, b⟩
  | resumeThrowFresh q _ ih =>
    intro B n tw
    obtain ⟨y, hy, st⟩ := tw.at_ _ _ q
    obtain rfl : y = .fresh _ := by
      rcases st with ⟨rfl, _⟩ | ⟨k, l, c, p, fs, cl, z, _⟩
      · rfl
      · cases z
    obtain ⟨B', a, b, c, d⟩ := ih _ n (tw.set (x := .finished) True.intro)
    exact ⟨B', .resumeThrowFresh hy a, b, (Kp.set q fun z => z).trans c, d⟩
  | resumeRunning q _ ih =>
    intro B n tw
    obtain ⟨y, hy, st⟩ := tw.at_ _ _ q
    obtain rfl : y = .running := by
      rcases st with ⟨rfl, _⟩ | ⟨k, l, c, p, fs, cl, z, _⟩
      · rfl
      · cases z
    exact (ih B n tw).imp fun B' ⟨a, b⟩ => ⟨.resumeRunning hy a, b⟩
  | resumeFinished q _ ih =>
    intro B n tw
    obtain ⟨y, hy, st⟩ := tw.at_ _ _ q
    obtain rfl : y = .finished := by
      rcases st with ⟨rfl, _⟩ | ⟨k, l, c, p, fs, cl, z, _⟩
      · rfl
      · cases z
    exact (ih B n tw).imp fun B' ⟨a, b⟩ => ⟨.resumeFinished hy a, b⟩
  | segRet _ _ ih1 ih2 =>
    intro B n tw
    obtain ⟨B1, a1, b1, c1, d1⟩ := ih1 B .nil tw
    obtain ⟨B2, a2, b2, c2, d2⟩ := ih2 B1 n.tail b1
    exact ⟨B2, .segRet a1 a2, b2, c1.trans c2, d2⟩
  | segGen _ _ ih1 ih2 => exact fun B n tw => absurd rfl (n _ List.mem_cons_self _ _ _ _ _)
  | segSuspOut sp _ ih =>
    intro B n tw
    obtain ⟨B1, a1, b1, c1, d1⟩ := ih B .nil tw
    exact ⟨B1, .segSuspOut sp a1, b1, c1, Ret.app d1 n⟩
  | segSuspGen sp _ _ _ ih1 ih2 =>
    intro B n tw
    rw [n.split] at sp
    cases sp
/-- wished for in the twin -/
def LQ {α : Type} (A0 B0 : Array GenState) (Q : α → Pos → Shared → Prop) : α → Pos → Shared → Prop := fun a p' r => ∃ (s' : Shared) (B' : Array GenState), r = { s' with gens := B' } ∧ Tw s'.gens B' ∧ Kp A0 B0 s'.gens B' ∧ Q a p' s'
/-- of the semantics' wishes too -/
theorem wp_twin {α : Type} (M : Model) (Γ : PySem.Ctx) (A0 B0 : Array GenState) (t : Sem α) : ∀ (Q : α → Pos → Shared → Prop) (E : Value → Pos → Shared → Prop) (p : Pos) (s : Shared) (B : Array GenState), Tw s.gens B → Kp A0 B0 s.gens B → Sem.wp M Γ t Q E p s →
    Sem.wp M Γ t (LQ A0 B0 Q) (LQ A0 B0 E) p { s with gens := B } := by
  induction t with
  | pure a => exact fun Q E p s B tw kp h => ⟨s, B, rfl, tw, kp, h⟩
  | raise e => exact fun Q E p s B tw kp h => ⟨s, B, rfl, tw, kp, h⟩
  | unsupported _ => exact fun Q E p s B tw kp h => h
  | finish _ => exact fun Q E p s B tw kp h => h
  | rule _ k ih => exact fun Q E p s B tw kp h => ih () Q E p s B tw kp h
  | «at» p' k ih => exact fun Q E p s B tw kp h => ih () Q E p' s B tw kp h
  | load a _ k ih => exact fun Q E p s B tw kp ⟨o, ho, h⟩ => ⟨o, ho, ih o Q E p s B tw kp h⟩
  | update a _ f k ih => exact fun Q E p s B tw kp h => ⟨h.1, ih () Q E p { s with heap := s.heap.update a f } B tw kp h.2⟩
  | loadIfAlive a k ih => exact fun Q E p s B tw kp h => ih _ Q E p s B tw kp h
  | point _ k ih => exact fun Q E p s B tw kp h => ih () Q E p s B tw kp h
  | register _ _ => exact fun Q E p s B tw kp h => h
  | alloc o k ih => exact fun Q E p s B tw kp h => ih s.heap.objs.size Q E p { s with heap := s.heap.push o } B tw kp h
  | fresh k ih => exact fun Q E p s B tw kp h => ih s.toks Q E p { s with toks := s.toks + 1 } B tw kp h
  | ask k ih => exact fun Q E p s B tw kp h => ih _ Q E p s B tw kp h
  | choose src m k ih => exact fun Q E p s B tw kp h => ⟨h.1, ih _ Q E p { s with drawn := s.drawn.bump src } B tw kp h.2⟩
  | os q _ k ih => exact fun Q E p s B tw kp h => ih (Os.step s.os q).2 Q E p { s with os := (Os.step s.os q).1 } B tw kp h
  | call c hd _ _ k ih =>
    intro Q E p s B tw kp h
    obtain ⟨r, s1, hr, h⟩ := h
    obtain ⟨B1, a1, b1, c1, _⟩ := runs_twin hr B .nil tw
    exact ⟨r, _, a1, ih r Q E p s1 B1 b1 (kp.trans c1) h⟩
  | handled own k ih => exact fun Q E p s B tw kp h => ih _ Q E p s B tw kp h
  | genState g k ih =>
    intro Q E p s B tw kp h
    obtain ⟨st, hs, h⟩ := h
    obtain ⟨y, hy, sl⟩ := tw.at_ _ _ hs
    refine ⟨y, hy, ?_⟩
    rw [← sl.seen]
    exact ih _ Q E p s B tw kp h
  | newGen c k ih =>
    intro Q E p s B tw kp h
    have h1 := ih s.gens.size Q E p _ (B.push (.fresh c)) (tw.push (x := .fresh c) True.intro) (kp.trans (Kp.push tw)) h
    show Sem.wp M Γ (k B.size) _ _ p _
    rw [← tw.size]
    exact h1
  | resume g r _ k ih =>
    intro Q E p s B tw kp h
    obtain ⟨res, s1, hw, h⟩ := h
    have go : ∀ (s1 : Shared) (B1 : Array GenState), Wakes M Γ p g r { s with gens := B } res { s1 with gens := B1 } → Tw s1.gens B1 → Kp s.gens B s1.gens B1 → Sem.wp M Γ (k res) Q E p s1 → ∃ res s', Wakes M Γ p g r { s with gens := B } res s' ∧ Sem.wp M Γ (k res) (LQ A0 B0 Q) (LQ A0 B0 E) p s' := fun s1 B1 a b c h => ⟨res, _, a, ih res Q E p s1 B1 b (kp.trans c) h⟩
    unfold Wakes at hw
    cases e : s.gens[g]? with
    | none =>
      rw [e] at hw
      exact hw.elim
    | some x =>
      rw [e] at hw
      obtain ⟨y, hy, st⟩ := tw.at_ _ _ e
      cases x with
      | fresh c =>
        obtain rfl : y = .fresh c := by
          rcases st with ⟨rfl, _⟩ | ⟨k, l, c, p, fs, cl, z, _⟩
          · rfl
          · cases z
        have hB : ({ s with gens := B } : Shared).gens[g]? = some (.fresh c) := hy
        cases r with
        | throw x =>
          obtain ⟨rfl, rfl⟩ := hw
          refine go (s.setGen g .finished) (B.setIfInBounds g .finished) ?_ (tw.set True.intro) (Kp.set e fun z => z) h
          unfold Wakes
          rw [hB]
          exact ⟨rfl, rfl⟩
        | send v =>
          by_cases hv : v = .none
          · subst hv
            obtain ⟨e1, s2, r1, qu, rfl, rfl⟩ := hw
            obtain ⟨B1, a1, b1, c1, d1⟩ := runs_twin r1 _ .nil (tw.set (g := g) (x := .running) True.intro)
            refine go (s2.setGen g e1.genState) (B1.setIfInBounds g e1.genState) ?_ (b1.set d1.gen) (Kp.around e (fun z => z) c1) h
            unfold Wakes
            rw [hB]
            exact ⟨e1, _, a1, qu, rfl, rfl⟩
          · have hw : res = .justStarted ∧ s1 = s := by
              cases v <;> first
                | exact absurd rfl hv
                | exact hw
            obtain ⟨rfl, rfl⟩ := hw
            refine go s1 B ?_ tw (.refl _ _) h
            unfold Wakes
            rw [hB]
            cases v <;> first
              | exact absurd rfl hv
              | exact ⟨rfl, rfl⟩
      | suspended k0 l0 c0 p0 fs cl =>
        obtain ⟨e1, s2, r1, qu, rfl, rfl⟩ := hw
        rcases st with ⟨rfl, pl⟩ | ⟨k, l, c, p, fs, cl, z, _⟩
        · obtain ⟨B1, a1, b1, c1, d1⟩ := runs_twin r1 _ pl (tw.set (g := g) (x := .running) True.intro)
          refine go (s2.setGen g e1.genState) (B1.setIfInBounds g e1.genState) ?_ (b1.set d1.gen) (Kp.around e (fun z => no_run r1 "" (congrFun z _)) c1) h
          unfold Wakes
          rw [show ({ s with gens := B } : Shared).gens[g]? = some (.suspended k0 l0 c0 p0 fs cl) from hy]
          exact ⟨e1, _, a1, qu, rfl, rfl⟩
        · exact absurd (congrFun (GenState.suspended.inj z).1 _) (no_run r1 "")
      | running =>
        obtain rfl : y = .running := by
          rcases st with ⟨rfl, _⟩ | ⟨k, l, c, p, fs, cl, z, _⟩
          · rfl
          · cases z
        obtain ⟨rfl, rfl⟩ := hw
        refine go s1 B ?_ tw (.refl _ _) h
        unfold Wakes
        rw [show ({ s1 with gens := B } : Shared).gens[g]? = some .running from hy]
        exact ⟨rfl, rfl⟩
      | finished =>
        obtain rfl : y = .finished := by
          rcases st with ⟨rfl, _⟩ | ⟨k, l, c, p, fs, cl, z, _⟩
          · rfl
          · cases z
        obtain ⟨rfl, rfl⟩ := hw
        refine go s1 B ?_ tw (.refl _ _) h
        unfold Wakes
        rw [show ({ s1 with gens := B } : Shared).gens[g]? = some .finished from hy]
        exact ⟨rfl, rfl⟩
  | yield _ _ _ _ => exact fun Q E p s B tw kp h => h
  | stack k ih => exact fun Q E p s B tw kp h => ih _ Q E p s B tw kp h
  | fork _ _ => exact fun Q E p s B tw kp h => h
  | thread k ih => exact fun Q E p s B tw kp h => ih _ Q E p s B tw kp h
  | await _ _ _ _ _ => exact fun Q E p s B tw kp h => h
end GKeep
/-! ### a for loop over a generator: the consumer's side -/
namespace GKeep
open PySem
/-- every sleeper asleep for good -/
def lull (A : Array GenState) : Array GenState := A.map fun x => match x with
  | .suspended _ l c p fs cl => .suspended dead l c p fs cl
  | x => x
def Asleep (x : GenState) : Prop := ∃ k l c p fs cl, x = .suspended k l c p fs cl
/-- what sleeps stays as it is -/
def Stay (s r : Shared) : Prop := ∀ (i : Nat) (x : GenState), s.gens[i]? = some x → Asleep x → r.gens[i]? = some x
theorem Stay.refl (s : Shared) : Stay s s := fun _ _ h _ => h
theorem Stay.trans {s r t : Shared} (h : Stay s r) (k : Stay r t) : Stay s t := fun i x e a => k i x (h i x e a) a
theorem lull_tw (A : Array GenState) : Tw (lull A) A := by
  refine ⟨by unfold lull; rw [Array.size_map], fun i x e => ?_⟩
  unfold lull at e
  rw [Array.getElem?_map] at e
  cases h : A[i]? with
  | none =>
    rw [h] at e
    cases e
  | some y =>
    rw [h] at e
    refine ⟨y, rfl, ?_⟩
    obtain rfl := Option.some.inj e
    cases y with
    | suspended k l c p fs cl => exact .inr ⟨k, l, c, p, fs, cl, rfl, rfl⟩
    | fresh c => exact .inl ⟨rfl, True.intro⟩
    | running => exact .inl ⟨rfl, True.intro⟩
    | finished => exact .inl ⟨rfl, True.intro⟩
theorem lull_bare {A : Array GenState} (h : AllBare A) : AllBare (lull A) := fun y hy => by
  obtain ⟨i, hi, e⟩ := Array.mem_iff_getElem.mp hy
  obtain ⟨z, hz, st⟩ := (lull_tw A).at_ i y (by rw [Array.getElem?_eq_getElem hi, e])
  rw [st.bare]
  exact h z (Array.mem_of_getElem? hz)
theorem Tw.bare {A B : Array GenState} (t : Tw A B) (h : AllBare A) : AllBare B := fun y hy => by
  obtain ⟨i, hi, e⟩ := Array.mem_iff_getElem.mp hy
  have lt : i < A.size := by rw [t.size]; exact hi
  obtain ⟨z, hz, st⟩ := t.at_ i A[i] (Array.getElem?_eq_getElem lt)
  rw [Array.getElem?_eq_getElem hi, e] at hz
  obtain rfl := Option.some.inj hz
  rw [← st.bare]
  exact h _ (Array.getElem_mem lt)
/-- where s' stands the wish, r is it with the sleepers as they were -/
def Woke (s : Shared) (Q : Shared → Prop) (r : Shared) : Prop := ∃ s', r = { s' with gens := r.gens } ∧ Tw s'.gens r.gens ∧ Stay s r ∧ Q s'
theorem wpAny_keep {α : Type} {M : Model} {A : Around} {t : Sem α} {Q : α → Shared → Prop} {E : Value → Shared → Prop} {s : Shared} (h : wpAny M A t Q E { s with gens := lull s.gens }) : wpAny M A t (fun a r => Woke s (Q a) r) (fun e r => Woke s (E e) r) s := fun Γ p hΓ => by
  have key := wp_twin M Γ (lull s.gens) s.gens t _ _ p { s with gens := lull s.gens } s.gens (lull_tw _) (Kp.refl _ _) (h Γ p hΓ)
  have stay : ∀ (s' : Shared) (B' : Array GenState), Kp (lull s.gens) s.gens s'.gens B' → Stay s { s' with gens := B' } := fun s' B' kp i x e ⟨k, l, c, p, fs, cl, z⟩ => by
    subst z
    have e2 : (lull s.gens)[i]? = some (.suspended dead l c p fs cl) := by
      unfold lull
      rw [Array.getElem?_map, e]
      rfl
    exact ((kp i _ e2 rfl).2).trans e
  exact Sem.wp_mono M Γ t (fun a p' r ⟨s', B', e, tw, kp, q⟩ => ⟨s', by rw [e], by rw [e]; exact tw, by rw [e]; exact stay s' B' kp, q⟩) (fun a p' r ⟨s', B', e, tw, kp, q⟩ => ⟨s', by rw [e], by rw [e]; exact tw, by rw [e]; exact stay s' B' kp, q⟩) _ _ key
end GKeep

namespace L2
open PySem PySem.Spec PyProof.Rows GKeep
theorem Inv.gens {X : Cx} {pins : List (Addr × Obj)} {σ : L2.St} {H : Hp} {s : Shared} (I : Inv X pins σ H s) {G : Array GenState} (h : AllBare G) : Inv X pins σ H { s with gens := G } :=
  ⟨I.ok, I.os, h, I.base, I.loc, I.cell, I.free, I.freeC, I.pin, I.hok, I.len⟩
theorem Inv.twin {X : Cx} {pins : List (Addr × Obj)} {σ : L2.St} {H : Hp} {s r : Shared} (I : Inv X pins σ H s) (e : r = { s with gens := r.gens }) (tw : Tw s.gens r.gens) : Inv X pins σ H r := by
  rw [e]
  exact I.gens (tw.bare I.bare)
/-- an error does not see whether another generator sleeps -/
def Blind (X : Cx) : Prop := ∀ (e : Value) (s r : Shared), r = { s with gens := r.gens } → Tw s.gens r.gens → X.xe e s → X.xe e r
/-- a generator at a: its turns. St i fp s: i items are out; the records at fp are its own -/
structure GTurn (X : Cx) (pins : List (Addr × Obj)) (tg : Expr) (J : It) (a : Addr) (St : Nat → List Addr → Shared → Prop) : Prop where
  obj : ∀ i fp s, St i fp s → ∀ b ∈ fp, ∃ o, s.heap.get? b = some o ∧ ∀ v, o.data ≠ .cell v
  keep : ∀ i fp (s s' : Shared), St (i + 1) fp s → Stay s s' → (∀ b ∈ fp, ∀ o, s.heap.get? b = some o → s'.heap.get? b = some o) → (∃ pl σ H, Inv X (pins ++ pl) σ H s') → St (i + 1) fp s'
  item : ∀ i fp (s : Shared) σ H, Inv X pins σ H s → (∀ b ∈ fp, FpOk X pins H b) → St i fp s → J.go i H →
    wpAny (model X.prog X.w) X.A (pyNext (.ref a)) (fun r s1 => ∃ u, r = some u ∧
      wpAny (model X.prog X.w) X.A (letOwnedTupleGo tg (.ref a) u) (fun _ s2 => ∃ x H' fp', Inv X pins σ H' s2 ∧ RelV x u ∧ J.yld i H x H' ∧ St (i + 1) fp' s2 ∧ ∀ b ∈ fp', FpOk X pins H' b) X.xe s1) X.xe s
  done : ∀ i fp (s : Shared) σ H, Inv X pins σ H s → (∀ b ∈ fp, FpOk X pins H b) → St i fp s → J.stop i H → wpAny (model X.prog X.w) X.A (pyNext (.ref a)) (fun r s1 => r = none ∧ Inv X pins σ H s1) X.xe s
/-- an expression whose value is a generator -/
structure PGI (X : Cx) (tg iter : Expr) (wi : TI) : Prop where
  run : ∀ (pins : List (Addr × Obj)) (s : Shared) (σ : L2.St) (H : Hp) (R : It → Hp → Prop), Inv X pins σ H s → wi σ H R →
    wpAny (model X.prog X.w) X.A (eval iter X.env) (fun v s1 => wpAny (model X.prog X.w) X.A (pyIter v) (fun itv s2 => ∃ (a : Addr) (J : It) (St : Nat → List Addr → Shared → Prop) (fp : List Addr) (H' : Hp), itv = .ref a ∧ Inv X pins σ H' s2 ∧ GTurn X pins tg J a St ∧ St 0 fp s2 ∧ (∀ b ∈ fp, FpOk X pins H' b) ∧ R J H') X.xe s1) X.xe s
/-- for x in a generator: body -/
theorem ps_forG {X : Cx} {tg iter : Expr} {body : List Stmt} {wi : TI} {g : TG} {tb : TS} {pos : Pos} (hp : PassesOwn (model X.prog X.w) X.A X.env X.xe) (bl : Blind X) (hi : PGI X tg iter wi) (hg : PG X tg g) (hb : PSs X body tb)
    (hs : ∀ x, foldedSetIterable iter X.env x = pure x := by intro _; rfl) : PS X (.For tg iter body [] pos) (tFor wi g tb) := by
  refine ⟨fun pins s σ H D I h => ?_⟩
  refine wpAny_For (thn (hi.run pins s σ H _ I h) fun v s1 h1 => thn h1 fun itv s2 h2 => ?_) hs
  obtain ⟨a, J, St, fp, H2, e, I2, T, st2, f2, W, ⟨m0, w0⟩, turn⟩ := h2
  subst e
  have err : ∀ {s r : Shared} {e : Value}, Woke s (fun s' => X.xe e s') r → X.xe e r := fun ⟨s', q1, q2, _, q3⟩ => bl _ s' _ q1 q2 q3
  refine codeAny_forLoop_any (fun n s' => ∃ i fp σ' H', Inv X pins σ' H' s' ∧ St i fp s' ∧ (∀ b ∈ fp, FpOk X pins H' b) ∧ W i n σ' H') ?_ m0 ⟨0, fp, σ, H2, I2, st2, f2, w0⟩
  rintro n s3 ⟨i, fp, σ3, H3, I3, st3, f3, w3⟩
  rcases turn i n σ3 H3 w3 with ⟨stop, qn⟩ | ⟨go, N, hN, step⟩
  · refine wpAny_passesOwn hp (thn (T.done i fp s3 σ3 H3 I3 f3 st3 stop) fun r s4 ⟨hr, I4⟩ => ?_)
    subst hr
    exact wpAny_execs_nil ⟨σ3, H3, I4, qn⟩
  · refine wpAny_passesOwn hp (thn (T.item i fp s3 σ3 H3 I3 f3 st3 go) fun r s4 ⟨u, hr, h4⟩ => ?_)
    subst hr
    refine wpAny_passesOwn hp (thn h4 fun _ s5 ⟨x, H5, fp5, I5, r5, y5, st5, f5⟩ => ?_)
    have I5' := I5.pinned f5 (T.obj _ _ _ st5)
    refine wpAny_passesOwn hp (wpAny_mono (wpAny_keep (hg.run _ { s5 with gens := lull s5.gens } σ3 H5 x u _ (I5'.gens (lull_bare I5.bare)) r5 (step x H5 y5))) (fun _ s6 w6 => ?_) fun e r w => err w)
    obtain ⟨s6', e6, tw6, stay6, σ6, H6, I6, q6⟩ := w6
    have I6 := I6.twin e6 tw6
    refine wpAny_passesOwn hp (wpAny_mono (wpAny_keep (hb.run _ { s6 with gens := lull s6.gens } σ6 H6 _ (I6.gens (lull_bare I6.bare)) q6)) (fun f s7 w7 => ?_) fun e r w => err w)
    obtain ⟨s7', e7, tw7, stay7, q7⟩ := w7
    have stay := stay6.trans stay7
    have again : ∀ {σ7 : L2.St} {H7 : Hp}, Inv X (pins ++ pinsAt fp5 s5.heap) σ7 H7 s7' → N σ7 H7 → ∃ m, m < n ∧ ∃ i fp σ' H', Inv X pins σ' H' s7 ∧ St i fp s7 ∧ (∀ b ∈ fp, FpOk X pins H' b) ∧ W i m σ' H' := fun {σ7 H7} I7 n7 => by
      have I7 := I7.twin e7 tw7
      obtain ⟨m', hm, w7⟩ := hN σ7 H7 n7
      have pin : ∀ b ∈ fp5, ∀ o, s5.heap.get? b = some o → s7.heap.get? b = some o ∧ H7 b = none := fun b hb o e => by
        have := I7.pin (b, o) (List.mem_append_right _ (List.mem_append_right _ (mem_pinsAt hb e)))
        exact ⟨this.1, this.2.1⟩
      refine ⟨m', hm, i + 1, fp5, σ7, H7, I7.unpinned, T.keep i fp5 s5 s7 st5 stay (fun b hb o e => (pin b hb o e).1) ⟨_, _, _, I7⟩, fun b hb => ?_, w7⟩
      obtain ⟨o, e, d⟩ := T.obj _ _ _ st5 b hb
      exact ⟨(pin b hb o e).2, (f5 b hb).2⟩
    cases f with
    | next => obtain ⟨σ7, H7, I7, n7⟩ := q7; exact again I7 n7
    | cont => obtain ⟨σ7, H7, I7, n7⟩ := q7; exact again I7 n7
    | brk => obtain ⟨σ7, H7, I7, q7⟩ := q7; exact ⟨σ7, H7, (I7.twin e7 tw7).unpinned, q7⟩
    | ret v => obtain ⟨x7, σ7, H7, I7, r7, q7⟩ := q7; exact ⟨x7, σ7, H7, (I7.twin e7 tw7).unpinned, r7, q7⟩
end L2
/-! ### one turn of a generator: from where it was woken to where it hands out or ends -/
namespace GKeep
open PySem PySem.Spec PyProof.Rows GenW
section
variable {M : Model} {A : Around} {Z Z' : End → Shared → Prop} {c : Code} {fs : List Frame} {s : Shared}
def Turn1 (M : Model) (A : Around) (Z : End → Shared → Prop) (c : Code) (t : Sem PySem.Fin) (fs : List Frame) (s : Shared) : Prop :=
  ∀ (Γ : PySem.Ctx) (p : Pos), Γ.code = c → Γ.Woken A → ∃ e s', Runs M Γ p t fs s e s' ∧ Z e s'
theorem Turn1.imp {t : Sem PySem.Fin} (h : Turn1 M A Z c t fs s) (k : ∀ e s', Z e s' → Z' e s') : Turn1 M A Z' c t fs s := fun Γ p hc hΓ => by
  obtain ⟨e, s', r, z⟩ := h Γ p hc hΓ
  exact ⟨e, s', r, k e s' z⟩
theorem t1_wrap {α : Type} {m : Sem α} {K : α → Sem PySem.Fin} {J : Value → Sem PySem.Fin} {gd : Bool → Bool} {lv : List Value → List Value}
    (h : wpAny M (A.over c fs) m (fun a s' => Turn1 M A Z c (K a) fs s') (fun x s' => Turn1 M A Z c (J x) fs s') s) : Turn1 M A Z c (m.wrap K J gd lv) fs s := by
  rintro Γ p rfl hΓ
  exact runs_wrap_of_wp K J gd lv m (h (Γ.over fs) p (hΓ.over fs)) (fun a p' s' q => q Γ p' rfl hΓ) (fun x p' s' q => q Γ p' rfl hΓ)
theorem t1_bind {α : Type} {m : Sem α} {K : α → Sem PySem.Fin} (h : wpAny M (A.over c fs) m (fun a s' => Turn1 M A Z c (K a) fs s') (fun x s' => Turn1 M A Z c (.raise x) fs s') s) : Turn1 M A Z c (m >>= K) fs s := by
  rw [Sem.bind_eq_wrap']
  exact t1_wrap h
theorem t1_at {p' : Pos} {k : Unit → Sem PySem.Fin} (h : Turn1 M A Z c (k ()) fs s) : Turn1 M A Z c (.at p' k) fs s :=
  t1_wrap (m := standAt p') (K := k) (J := .raise) (gd := id) (lv := id) (wpAny_standAt h)
theorem t1_call {c' : Code} {h : Option Value} {g : Bool} {l : List Value} {k : Result → Sem PySem.Fin} (hc : ∀ p, Turn1 M A Z c' (M.den c') (.ret k h g l c p [] :: fs) s) : Turn1 M A Z c (.call c' h g l k) fs s := by
  rintro Γ p rfl hΓ
  obtain ⟨e, s', r, z⟩ := hc p (Γ.goto c') p rfl (hΓ.goto c')
  exact ⟨e, s', runs_call_seg r, z⟩
theorem t1_leaf {k : Result → Sem PySem.Fin} {h : Option Value} {g : Bool} {l kp : List Value} {c1 : Code} {p1 : Pos} (r : Result) (hk : Turn1 M A Z c1 (k r) fs s) : Turn1 M A Z c (leafOf r) (.ret k h g l c1 p1 kp :: fs) s := by
  rintro Γ p rfl hΓ
  obtain ⟨e, s', q, z⟩ := hk (Γ.goto c1) p1 rfl (hΓ.goto c1)
  exact ⟨e, s', Runs.pop r q, z⟩
theorem t1_again {c' : Code} (hq : c'.quiet = true) (hc : Turn1 M A Z c' (M.den c') fs s) : Turn1 M A Z c (.pure (.again c')) fs s := by
  rintro Γ p rfl hΓ
  obtain ⟨e, s', q, z⟩ := hc (Γ.goto c') p rfl (hΓ.goto c')
  exact ⟨e, s', Runs.head (c₁ := c') (fun _ _ x => .again hq x) q, z⟩
theorem t1_end (r : Result) (h : Z (.ret r) s) : Turn1 M A Z c (leafOf r) [] s := by
  rintro Γ p rfl _
  exact ⟨.ret r, s, Runs.leaf r, h⟩
theorem t1_yield {v : Value} {g : Bool} {l : List Value} {k : Resume → Sem PySem.Fin} (hfs : splitAtGen fs = none) (h : ∀ p, Z (.susp v g l k c p fs) s) : Turn1 M A Z c (.yield v g l k) fs s := by
  rintro Γ p rfl _
  exact ⟨_, s, Runs.yield' fs hfs, h p⟩
/-- a generator is woken -/
def Go1 (M : Model) (A : Around) (Z : End → Shared → Prop) (gs : GenState) (s : Shared) : Prop := match gs with
  | .fresh c => Turn1 M A Z c (M.den c) [] s
  | .suspended k _ c _ fs _ => Turn1 M A Z c (k (.send .none)) fs s
  | _ => False
theorem resume_one {g : Nat} {gs : GenState} {l : List Value} {α : Type} {k : GenResult → Sem α} {Q : α → Shared → Prop} {E : Value → Shared → Prop} (go : Go1 M A Z gs (s.setGen g .running)) (hg : s.gens[g]? = some gs)
    (hz : ∀ e s1, s.gens.size ≤ s1.gens.size → Z e s1 → e.quiet = true ∧ wpAny M A (k e.result) Q E (s1.setGen g e.genState)) : wpAny M A (.resume g (.send .none) l k) Q E s := by
  intro Γ p hΓ
  rw [Sem.wp_resume]
  cases gs with
  | fresh c =>
    obtain ⟨e, s1, r, z⟩ := go (Γ.wake c p) p rfl (hΓ.wake c p)
    obtain ⟨q, h⟩ := hz e s1 (by have := runs_gsz r; rw [setGen_size] at this; exact this) z
    refine ⟨e.result, _, ?_, h Γ p hΓ⟩
    unfold Wakes
    rw [hg]
    exact ⟨e, s1, r, q, rfl, rfl⟩
  | suspended k0 l0 c p0 fs cl =>
    obtain ⟨e, s1, r, z⟩ := go (Γ.wake c p) p0 rfl (hΓ.wake c p)
    obtain ⟨q, h⟩ := hz e s1 (by have := runs_gsz r; rw [setGen_size] at this; exact this) z
    refine ⟨e.result, _, ?_, h Γ p hΓ⟩
    unfold Wakes
    rw [hg]
    exact ⟨e, s1, r, q, rfl, rfl⟩
  | running => exact go.elim
  | finished => exact go.elim
end
section
variable {P : Program} {w : World} {A : Around} {E : Value → Shared → Prop} {s : Shared} {Z : End → Shared → Prop} {a : Addr} {g : Nat} {gs : GenState} {Q : Option Value → Shared → Prop}
/-- its end hands out, or it is over -/
def Told1 (g : Nat) (Q : Option Value → Shared → Prop) (e : End) (s1 : Shared) : Prop := match e with
  | .ret r => (r = .ok (.ret .none) ∨ r = .ok .next) ∧ ∀ h' : Heap, (∀ b o, s1.heap.get? b = some o → h'.get? b = some o) → Q none { s1.setGen g .finished with heap := h' }
  | .susp v _ _ _ _ _ _ => e.quiet = true ∧ Q (some v) (s1.setGen g e.genState)
theorem next_one (calm : A.handled = none) (free : s.heap.NoLimit) (deep : A.depth < recursionLimit) (hg : s.heap.IsGen a g) (hgs : s.gens[g]? = some gs)
    (go : Go1 (model P w) A.in1 Z gs (s.setGen g .running)) (hz : ∀ e s1, s.gens.size ≤ s1.gens.size → Z e s1 → Told1 g Q e s1) :
    wpAny (model P w) A (pyNext (.ref a)) Q E s := by
  have one : wpAny (model P w) A.in1 (Builtin.Generator.genWake (.ref a) (.send .none)) (fun v s' => ∃ u, v = .done (.ret u) ∧ Q (some u) s') (fun e s' => ∃ (b : Addr) (o : Obj), e = .ref b ∧ s'.heap.get? b = some o ∧ o.cls = .type "StopIteration" ∧ Q none s') s := by
    unfold Builtin.Generator.genWake
    refine wpAny_bind <| wpAny_holding <| wpAny_genNumber hg <| wpAny_bind <| wpAny_genState hgs ?_
    have after : ∀ (k : GenResult → Sem PySem.Fin), (∀ v, k (.yielded v) = .pure (.done (.ret v))) → (∀ s1 : Shared, (∀ h' : Heap, (∀ b o, s1.heap.get? b = some o → h'.get? b = some o) → Q none { s1.setGen g .finished with heap := h' }) → wpAny (model P w) A.in1 (k (.returned .none)) (fun v s' => ∃ u, v = .done (.ret u) ∧ Q (some u) s') (fun e s' => ∃ (b : Addr) (o : Obj), e = .ref b ∧ s'.heap.get? b = some o ∧ o.cls = .type "StopIteration" ∧ Q none s') (s1.setGen g .finished)) →
        wpAny (model P w) A.in1 (.resume g (.send .none) [] k) (fun v s' => ∃ u, v = .done (.ret u) ∧ Q (some u) s') (fun e s' => ∃ (b : Addr) (o : Obj), e = .ref b ∧ s'.heap.get? b = some o ∧ o.cls = .type "StopIteration" ∧ Q none s') s := fun k hy hr =>
      resume_one go hgs fun e s1 sz z => by
        have z := hz e s1 sz z
        cases e with
        | ret x =>
          obtain ⟨hx, hf⟩ := z
          have e : End.result (.ret x) = .returned .none := by
            rcases hx with hx | hx <;> rw [hx] <;> rfl
          rw [e]
          exact ⟨rfl, hr s1 hf⟩
        | susp v g0 l k0 c p fs =>
          refine ⟨z.1, ?_⟩
          show wpAny _ _ (k (.yielded v)) _ _ _
          rw [hy]
          exact wpAny_pure ⟨v, rfl, z.2⟩
    cases gs with
    | running => exact go.elim
    | finished => exact go.elim
    | fresh c =>
      refine wpAny_bind <| wpAny_roomToWake free deep ?_
      exact after _ (fun v => rfl) fun s1 hf => by
        show wpAny _ A.in1 (newExc (.type "StopIteration") [] >>= _) _ _ _
        refine wpAny_bind ?_
        simp only [newExc, newTuple]
        refine wpAny_bind <| wpAny_newObj_type ?_ (by size_fits)
        refine wpAny_bind (m := firstArgMember _ _) <| wpAny_of_eq (a := Value.none) (by first | rfl | (simp only [firstArgMember]; rfl)) ?_
        refine wpAny_newObj_type ?_ (by size_fits)
        simp only [raiseNew]
        refine wpAny_bind <| wpAny_bind <| wpAny_handled ?_
        rw [show A.in1.handled = none from calm]
        refine wpAny_throw ⟨_, _, rfl, Heap.get?_push_size _ rfl, rfl, ?_⟩
        exact hf _ fun b o hb => Heap.get?_push_of_some _ (Heap.get?_push_of_some _ hb)
    | suspended k l c p fs cl =>
      refine wpAny_bind <| wpAny_roomToWake free deep ?_
      exact after _ (fun v => rfl) fun s1 hf => by
        show wpAny _ A.in1 (newExc (.type "StopIteration") [] >>= _) _ _ _
        refine wpAny_bind ?_
        simp only [newExc, newTuple]
        refine wpAny_bind <| wpAny_newObj_type ?_ (by size_fits)
        refine wpAny_bind (m := firstArgMember _ _) <| wpAny_of_eq (a := Value.none) (by first | rfl | (simp only [firstArgMember]; rfl)) ?_
        refine wpAny_newObj_type ?_ (by size_fits)
        simp only [raiseNew]
        refine wpAny_bind <| wpAny_bind <| wpAny_handled ?_
        rw [show A.in1.handled = none from calm]
        refine wpAny_throw ⟨_, _, rfl, Heap.get?_push_size _ rfl, rfl, ?_⟩
        exact hf _ fun b o hb => Heap.get?_push_of_some _ (Heap.get?_push_of_some _ hb)
  unfold pyNext
  refine wpAny_bind <| wpAny_attempt <| wpAny_callSpecial?_slot (name := Str.ofString "__next__") hg.typeIs slot_gen_next <| wpAny_call_entry slot_gen_next hg.typeIs entry_gen_next ?_ (args_gen_next _)
  refine wpAny_mono one (fun v s' ⟨u, e, q⟩ => ?_) fun e s' ⟨b, o, e1, e2, e3, q⟩ => ?_
  · exact ⟨u, e, wpAny_pure q⟩
  · subst e1
    refine wpAny_bind <| wpAny_isInstance (T := "StopIteration") (b := true) ⟨o, e2, e3⟩ isSubtype_stop ?_
    exact wpAny_pure q
end
end GKeep

namespace L2
open PySem PySem.Spec PyProof.Rows GKeep GenW
section
variable {X : Cx} {D : Type}
/-- a generator that sleeps (or has not begun), i items out, r to come; d: where it stands; fp d: its own records -/
def Live (X : Cx) (pins : List (Addr × Obj)) (J : It) (Stand : Nat → D → Heap → Prop) (fp : D → List Addr) : Nat → Nat → D → GenState → Prop
  | 0, i, d, gs => ∀ (s : Shared) σ H, Inv X pins σ H s → (∀ b ∈ fp d, FpOk X pins H b) → Stand i d s.heap →
    Go1 (model X.prog X.w) X.A.in1 (fun e s1 => ∃ r, e = .ret r ∧ (r = .ok (.ret .none) ∨ r = .ok .next) ∧ Inv X pins σ H s1) gs s
  | r + 1, i, d, gs => ∀ (s : Shared) σ H, Inv X pins σ H s → (∀ b ∈ fp d, FpOk X pins H b) → Stand i d s.heap →
    Go1 (model X.prog X.w) X.A.in1 (fun e s1 => ∃ v g l k c p fs, e = .susp v g l k c p fs ∧ e.quiet = true ∧ ∃ x H' d', Inv X pins σ H' s1 ∧ RelV x v ∧ J.yld i H x H' ∧ (∀ b ∈ fp d', FpOk X pins H' b) ∧ Stand (i + 1) d' s1.heap ∧ Live X pins J Stand fp r (i + 1) d' e.genState) gs s
theorem gturn_of {pins : List (Addr × Obj)} {tg : Expr} {J : It} {Stand : Nat → D → Heap → Prop} {fp : D → List Addr} {a : Addr} {g n : Nat} (calm : X.calm = true) (deep : X.A.depth < recursionLimit)
    (hgo : ∀ i H, J.go i H → i < n) (hstop : ∀ i H, J.stop i H → n ≤ i) (isG : ∀ i d h, Stand i d h → h.IsGen a g) (ma : ∀ d, a ∈ fp d) (obj : ∀ i d h, Stand i d h → ∀ b ∈ fp d, ∃ o, h.get? b = some o ∧ ∀ v, o.data ≠ .cell v)
    (keep : ∀ i d (h h' : Heap), Stand i d h → (∀ b ∈ fp d, ∀ o, h.get? b = some o → h'.get? b = some o) → Stand i d h') :
    GTurn X pins tg J a (fun i fs s => ∃ d r gs, fs = fp d ∧ i + r = n ∧ Stand i d s.heap ∧ s.gens[g]? = some gs ∧ (0 < i → Asleep gs) ∧ Live X pins J Stand fp r i d gs) := by
  have upd_gen : ∀ {pins σ H} {s : Shared} {x : GenState}, Inv X pins σ H s → x.bare = true → Inv X pins σ H (s.setGen g x) := fun {pins σ H s x} I hx => I.gens (allBare_setGen I.bare hx)
  refine ⟨?_, ?_, ?_, ?_⟩
  · rintro i fs s ⟨d, r, gs, rfl, _, st, _⟩ b hb
    exact obj i d _ st b hb
  · rintro i fs s s' ⟨d, r, gs, rfl, e, st, hg, as, lv⟩ stay kp _
    exact ⟨d, r, gs, rfl, e, keep _ _ _ _ st kp, stay g gs hg (as (Nat.succ_pos i)), as, lv⟩
  · rintro i fs s σ H I f ⟨d, r, gs, rfl, e, st, hg, as, lv⟩ go
    have lt := hgo i H go
    obtain ⟨r, rfl⟩ : ∃ k, r = k + 1 := ⟨r - 1, by omega⟩
    have lv := lv (s.setGen g .running) σ H (upd_gen I rfl) f st
    refine next_one (I.ok.hd calm) I.nolimit deep (isG _ _ _ st) hg lv ?_
    rintro e1 s1 sz ⟨v, g0, l, k, c, p, fs, rfl, qu, x, H', d', I1, rv, y, f1, st1, lv1⟩
    have gl : g < s1.gens.size := Nat.lt_of_lt_of_le (Array.getElem?_eq_some_iff.mp hg).1 sz
    have I2 := upd_gen I1 (End.bare_of_quiet qu)
    obtain ⟨o, nm, qn, ho, hc, hd, _⟩ := isG _ _ _ st1
    refine ⟨qu, v, rfl, go_of (s := s1.setGen g _) ho hc hd (by decide) ⟨x, H', fp d', I2, rv, y, ⟨d', r, _, rfl, by omega, st1, setGen_at gl, fun _ => ⟨_, _, _, _, _, _, rfl⟩, lv1⟩, f1⟩⟩
  · rintro i fs s σ H I f ⟨d, r, gs, rfl, e, st, hg, as, lv⟩ stop
    have le := hstop i H stop
    obtain rfl : r = 0 := by omega
    have lv := lv (s.setGen g .running) σ H (upd_gen I rfl) f st
    refine next_one (I.ok.hd calm) I.nolimit deep (isG _ _ _ st) hg lv ?_
    rintro e1 s1 sz ⟨r, rfl, hr, I1⟩
    refine ⟨hr, fun h' kp => ⟨rfl, ?_⟩⟩
    have I2 := upd_gen (x := .finished) I1 rfl
    exact I2.kept (t' := s1.toks) kp
end
end L2
/-! ### statements within one turn of a generator -/
namespace GKeep
open PySem PySem.Spec PyProof.Rows GenW
section
variable {M : Model} {A : Around} {Z : End → Shared → Prop} {c : Code} {fs : List Frame} {s : Shared} {env : Env} {K : Flow → Sem PySem.Fin} {J : Value → Sem PySem.Fin} {gd : Bool → Bool} {lv : List Value → List Value}
theorem t1_point {l : List Value} {k : Unit → Sem PySem.Fin} (h : Turn1 M A Z c (k ()) fs s) : Turn1 M A Z c (.point l k) fs s :=
  t1_wrap (m := point) (K := k) (J := .raise) (gd := id) (lv := fun _ => l) (wpAny_point h)
theorem t1_execs_cons {st : Stmt} {rest : List Stmt} (h : Turn1 M A Z c ((exec st env).wrap (fun f => match f with
    | .next => (execs rest env).wrap K J gd lv
    | f => K f) J gd lv) fs s) : Turn1 M A Z c ((execs (st :: rest) env).wrap K J gd lv) fs s := by
  rw [execs_cons_wrap]
  exact h
theorem t1_Yield {e : Expr} {yp pos : Pos} (hfs : splitAtGen fs = none) (hco : env.scope.isCoroutine = false) (hi : interactive env = false)
    (h : wpAny M (A.over c fs) (eval e env) (fun v s' => ∀ (k : Resume → Sem PySem.Fin) (l : List Value) (p : Pos), (∀ {Z' : End → Shared → Prop} {s'' : Shared}, Turn1 M A Z' c (K .next) fs s'' → Turn1 M A Z' c (k (.send .none)) fs s'') → Z (.susp v (gd false) l k c p fs) s')
      (fun x s' => Turn1 M A Z c (J x) fs s') s) : Turn1 M A Z c ((exec (.Expr (.Yield (some e) yp) pos) env).wrap K J gd lv) fs s := by
  rw [exec_Expr env _ pos hi rfl]
  have plain : ∀ v, yieldOut env v = yieldValue v := fun v => by simp only [yieldOut, hco, Bool.false_eq_true, if_false]
  show Turn1 M A Z c (.at pos fun _ => ((eval e env >>= fun v => (standAt yp >>= fun _ => yieldOut env v)) >>= fun x => dropValue (.Yield (some e) yp) pos x).wrap K J gd lv) fs s
  simp only [plain]
  refine t1_at ?_
  rw [Sem.bind_eq_wrap', Sem.bind_eq_wrap', Sem.wrap_wrap, Sem.wrap_wrap]
  refine t1_wrap (wpAny_mono h (fun v s' h' => ?_) fun _ _ x => x)
  exact t1_at (t1_yield hfs fun p => h' _ _ p fun z => z)
theorem t1_For {target iter : Expr} {body orelse : List Stmt} {pos : Pos} (plain : ∀ x, foldedSetIterable iter env x = pure x)
    (h : wpAny M (A.over c fs) (eval iter env) (fun x s1 => wpAny M (A.over c fs) (pyIter x) (fun it s2 => ∀ p, Turn1 M A Z (.forLoop target it body orelse env) (M.den (.forLoop target it body orelse env))
      (.ret (fun r => ((match r with | .ok f => (.pure f : Sem Flow) | .error e => .raise e).onRaise (L2.cameBack env)).wrap K J gd lv) none (gd false) (lv []) c p [] :: fs) s2)
      (fun e s2 => Turn1 M A Z c (J e) fs s2) s1) (fun e s1 => Turn1 M A Z c (J e) fs s1) s) :
    Turn1 M A Z c ((exec (.For target iter body orelse pos) env).wrap K J gd lv) fs s := by
  rw [exec_For]
  refine t1_at ?_
  show Turn1 M A Z c (Sem.wrap K J gd lv (eval iter env >>= _)) fs s
  rw [Sem.bind_eq_wrap', Sem.wrap_wrap]
  refine t1_wrap (wpAny_mono h (fun x s1 h1 => ?_) fun _ _ z => z)
  rw [plain x]
  refine t1_at ?_
  show Turn1 M A Z c (Sem.wrap K J gd lv (holding [x] (pyIter x) >>= _)) fs s1
  rw [Sem.bind_eq_wrap', Sem.wrap_wrap]
  refine t1_wrap (wpAny_holding (wpAny_mono h1 (fun it s2 h2 => ?_) fun _ _ z => z))
  exact t1_call h2
end
section
variable {prog : Program} {w : World} {A : Around} {Z : End → Shared → Prop} {fs : List Frame} {s : Shared} {env : Env}
/-- an error is noted and goes on -/
def noted (env : Env) (e : Value) : Sem PySem.Fin := (do noteFrame e env; theTreesLotGoes e : Sem Unit).wrap (fun _ => .raise e) .raise id id
theorem t1_forLoop {target : Expr} {it : Value} {body orelse : List Stmt}
    (h : wpAny (model prog w) (A.over (.forLoop target it body orelse env) fs) (pyNext it) (fun r s1 => match r with
        | none => Turn1 (model prog w) A Z (.forLoop target it body orelse env) (.pure (.again (.block orelse env))) fs s1
        | some v => wpAny (model prog w) (A.over (.forLoop target it body orelse env) fs) (letOwnedTupleGo target it v) (fun _ s2 => wpAny (model prog w) (A.over (.forLoop target it body orelse env) fs) (assign target env v)
            (fun _ s3 => Turn1 (model prog w) A Z (.forLoop target it body orelse env) ((execs body env).wrap (fun f => match f with
              | .next | .cont => .pure (.again (.forLoop target it body orelse env))
              | .brk => .pure (.done .next)
              | .ret v => .pure (.done (.ret v))) (noted env) id id) fs s3)
            (fun e s3 => Turn1 (model prog w) A Z (.forLoop target it body orelse env) (noted env e) fs s3) s2)
          (fun e s2 => Turn1 (model prog w) A Z (.forLoop target it body orelse env) (noted env e) fs s2) s1)
      (fun e s1 => Turn1 (model prog w) A Z (.forLoop target it body orelse env) (noted env e) fs s1) s) :
    Turn1 (model prog w) A Z (.forLoop target it body orelse env) ((model prog w).den (.forLoop target it body orelse env)) fs s := by
  show Turn1 _ A Z _ ((forTurn target it body orelse env).onRaise (fun x => do noteFrame x env; theTreesLotGoes x)) fs s
  unfold forTurn
  have ev : ∀ e : Value, ((do noteFrame e env; theTreesLotGoes e : Sem Unit) >>= fun _ => (.raise e : Sem PySem.Fin)) = noted env e := fun e => Sem.bind_eq_wrap' _ _
  have fly : ∀ (e : Value) (t : Shared), Turn1 (model prog w) A Z (.forLoop target it body orelse env) (noted env e) fs t → Turn1 (model prog w) A Z (.forLoop target it body orelse env) ((do noteFrame e env; theTreesLotGoes e : Sem Unit) >>= fun _ => (.raise e : Sem PySem.Fin)) fs t := fun e t z => by
    rw [ev e]
    exact z
  rw [Sem.onRaise_eq_wrap]
  refine t1_at ?_
  show Turn1 _ A Z _ (Sem.wrap _ _ _ _ ((pyNext it).onRaise (fun _ => standAt { target.pos with line := 0 }) >>= _)) fs s
  rw [Sem.bind_eq_wrap', Sem.wrap_wrap]
  refine t1_wrap (wpAny_onRaise (wpAny_mono h (fun r s1 h1 => ?_) fun e s1 h1 => wpAny_standAt ?_))
  · cases r with
    | none => exact h1
    | some v =>
      show Turn1 _ A Z _ (Sem.wrap _ _ _ _ (letOwnedTupleGo target it v >>= _)) fs s1
      rw [Sem.bind_eq_wrap', Sem.wrap_wrap]
      refine t1_wrap (wpAny_mono h1 (fun _ s2 h2 => ?_) fun e s2 h2 => ?_)
      · show Turn1 _ A Z _ (Sem.wrap _ _ _ _ (assign target env v >>= _)) fs s2
        rw [Sem.bind_eq_wrap', Sem.wrap_wrap]
        refine t1_wrap (wpAny_mono h2 (fun _ s3 h3 => ?_) fun e s3 h3 => ?_)
        · show Turn1 _ A Z _ (Sem.wrap _ _ _ _ (execs body env >>= _)) fs s3
          rw [Sem.bind_eq_wrap', Sem.wrap_wrap]
          exact cast (congrArg (fun t => Turn1 (model prog w) A Z (.forLoop target it body orelse env) t fs s3) (Sem.wrap_congr (execs body env) _ _ (fun f => by cases f <;> rfl) (fun e => ev e)).symm) h3
        · exact fly e _ h3
      · exact fly e _ h2
  · exact fly e _ h1
end
section
variable {prog : Program} {w : World} {A : Around} {Z : End → Shared → Prop} {fs : List Frame} {s : Shared} {env : Env}
theorem t1_func {body : List Stmt} (h : Turn1 (model prog w) A Z (.func body env) ((execs body env).wrap (fun f => .pure (.done (.ret (match f with
    | .ret v => v
    | _ => .none)))) (fun e => (leaving env e).wrap (fun _ => .raise e) .raise id id) id id) fs s) : Turn1 (model prog w) A Z (.func body env) ((model prog w).den (.func body env)) fs s := by
  show Turn1 _ A Z _ (.point [] fun _ => ((execs body env).onRaise (leaving env)) >>= _) fs s
  refine t1_point ?_
  rw [Sem.onRaise_eq_wrap, Sem.bind_eq_wrap', Sem.wrap_wrap]
  exact cast (congrArg (fun t => Turn1 (model prog w) A Z (.func body env) t fs s) (Sem.wrap_congr (execs body env) _ _ (fun f => by cases f <;> rfl) (fun e => by rw [Sem.bind_eq_wrap, Sem.wrap_wrap]; rfl)).symm) h
end
end GKeep
/-! ### a generator's frame within its consumer: its context is made anew at each turn -/
namespace L2
open PySem PySem.Spec PyProof.Rows GKeep GenW
def cutH (h : Heap) (L : Nat) : Heap := ⟨h.objs.extract 0 L, h.life⟩
theorem cut_get {h : Heap} {L b : Nat} (lt : b < L) : (cutH h L).get? b = h.get? b := by
  unfold cutH Heap.get?
  rw [show (h.objs.extract 0 L)[b]? = h.objs[b]? by
    rw [Array.getElem?_extract, Nat.zero_add, Nat.sub_zero]
    by_cases c : b < min L h.objs.size
    · rw [if_pos c]
    · rw [if_neg c, Array.getElem?_eq_none (by omega)]]
theorem cut_size {h : Heap} {L : Nat} (le : L ≤ h.objs.size) : (cutH h L).objs.size = L := by
  show (h.objs.extract 0 L).size = L
  rw [Array.size_extract]
  omega
theorem cut_of {h : Heap} {L b : Nat} {o : Obj} (le : L ≤ h.objs.size) (e : (cutH h L).get? b = some o) : b < L ∧ h.get? b = some o := by
  have lt := Heap.lt_size e
  rw [cut_size le] at lt
  rw [cut_get lt] at e
  exact ⟨lt, e⟩
def gX (X : Cx) (N : List Str) (qual : Str) (scope : Scope) (f : Addr) (cd : Value) (L : Addr) (pn : List (Addr × Obj)) (s : Shared) (H : Hp) : Cx where
  prog := X.prog
  w := X.w
  K := X.K
  mg := X.mg
  base := X.base
  A := X.A.in1.deeper (envOfC qual scope L f cd)
  N := N
  s_0 := { s with heap := cutH s.heap L }
  H_0 := H
  env := envOfC qual scope L f cd
  outer := X.stack
  stack := envOfC qual scope L f cd :: X.stack
  ex := []
  fn := fun _ => true
  calm := true
  pn := pn
  xe := fun _ _ => False
/-- older than the generator's frame -/
structure Old (X : Cx) (pins : List (Addr × Obj)) (L : Addr) : Prop where
  s0 : X.s_0.heap.objs.size ≤ L
  loc : X.env.locals < L
  cell : ∀ x c, X.env.cells.lookup x = some c → c < L
  pin : ∀ p ∈ X.pn ++ pins, p.1 < L
section
variable {X : Cx} {pins : List (Addr × Obj)} {σc σ : L2.St} {H H' : Hp} {s s1 : Shared} {N ps : List Str} {qual : Str} {scope : Scope} {f L : Addr} {cd : Value} {pn pg : List (Addr × Obj)}
theorem Old.frs (old : Old X pins L) (I : Inv X pins σc H s) {b : Addr} (hb : b ∈ frs X.stack) : b < L := by
  rcases List.mem_cons.mp (I.stkSub b hb) with rfl | h
  · exact old.loc
  · obtain ⟨_, o, ho, _⟩ := I.ok.funs.mem h
    exact Nat.lt_of_lt_of_le (Heap.lt_size ho) old.s0
theorem reroot (I : Inv X pins σc H s) (old : Old X pins L) (calm : X.A.handled = none) (kind : scope.kind = .function) (plain : ∀ y ∈ scope.names, y.2 ≠ .cell ∧ y.2 ≠ .free) (nc : cellsFrom (L + 1) scope.names [] = []) (sz : L ≤ s.heap.objs.size) (HL : H L = none)
    (ns : ∃ m, s.heap.Ns L m ∧ ∀ (i : Nat) (x : Str) (v : V), N[i]? = some x → σ[i]? = some (some v) → Vis scope x → ∃ u, RelV v u ∧ Look (envOfC qual scope L f cd) s.heap m x u) (len : σ.length = N.length)
    (hpn : ∀ p ∈ pn, s.heap.get? p.1 = some p.2 ∧ H p.1 = none ∧ p.1 ≠ L ∧ L ≤ p.1 ∧ ∀ v, p.2.data ≠ .cell v) : Inv (gX X N qual scope f cd L pn s H) [] σ H s := by
  have none_of : ∀ x c, (gX X N qual scope f cd L pn s H).env.cells.lookup x ≠ some c := fun x c e => by
    have e : (cellsFrom (L + 1) scope.names []).lookup x = some c := e
    rw [nc] at e
    cases e
  have funs : (cutH s.heap L).FunFrames X.base X.stack := by
    have all : ∀ l : List Env, (∀ b ∈ L2.frs l, b < L) → s.heap.FunFrames X.base l → (cutH s.heap L).FunFrames X.base l := by
      intro l
      induction l with
      | nil => exact fun _ _ => True.intro
      | cons env r ih =>
        intro hs hl
        obtain ⟨hk, ⟨a, o, hf, hn, ho, hd⟩, hr⟩ := hl
        have lt : a < L := hs a (by unfold L2.frs; rw [List.filterMap_cons, hf]; exact List.mem_cons_self)
        refine ⟨hk, ⟨a, o, hf, hn, by rw [cut_get lt]; exact ho, hd⟩, ih (fun b hb => hs b ?_) hr⟩
        unfold L2.frs
        rw [List.filterMap_cons, hf]
        exact List.mem_cons_of_mem _ hb
    exact all _ (fun b hb => old.frs I hb) I.stack
  have bsz : X.base.objs.size ≤ L := Nat.le_trans I.ok.bsz old.s0
  refine ⟨⟨I.ok.mod, kind, rfl, rfl, ?_, fun x y c e => absurd e (none_of x c), fun x hx => ?_, fun x c _ e => absurd e (none_of x c), fun _ => calm, ?_, .inr ⟨rfl, rfl⟩, fun b hb => (List.not_mem_nil hb).elim, fun b o e => ?_, ?_, fun b o _ h => List.not_mem_nil h, fun b hb => (List.not_mem_nil hb).elim, funs, fun b hb => I.stkFree b hb⟩,
    rfl, I.bare, ⟨fun b o e _ _ _ => (cut_of sz e).2, fun b o e _ _ _ => ⟨o.slots, (cut_of sz e).2⟩, fun _ _ _ h _ => h, fun b o e _ => ⟨o, (cut_of sz e).2⟩, fun _ _ h => h, fun _ _ _ h => h, fun b ps h => ⟨#[], (show H b = some (.tbl (ps ++ #[])) by rw [show ps ++ #[] = ps by simp]; exact h)⟩⟩, ns, fun x c e => absurd e (none_of x c), HL, fun x c e => absurd e (none_of x c), fun p hp => ?_, I.hok, len⟩
  · show (cutH s.heap L).objs.size ≤ L
    rw [cut_size sz]
    exact Nat.le_refl _
  · have hx : scope.names.lookup x = some .cell ∨ scope.names.lookup x = some .free := hx
    rcases hx with hx | hx
    · exact absurd rfl (plain _ (PySem.mem_of_lookup hx)).1
    · exact absurd rfl (plain _ (PySem.mem_of_lookup hx)).2
  · show (X.A.in1.deeper (envOfC qual scope L f cd)).frames = some (envOfC qual scope L f cd :: X.stack)
    exact Around.frames_deeper I.ok.frames
  · have lt : b < L := Nat.lt_of_lt_of_le (Heap.lt_size e) bsz
    obtain ⟨h1, h2⟩ := I.bs b o e
    exact ⟨by show (cutH s.heap L).get? b = some o; rw [cut_get lt]; exact h1, h2⟩
  · show X.base.objs.size ≤ (cutH s.heap L).objs.size
    rw [cut_size sz]
    exact bsz
  · rw [List.append_nil] at hp
    obtain ⟨h1, h2, h3, h4, h5⟩ := hpn p hp
    exact ⟨h1, h2, h3, fun z => absurd (old.frs I z) (Nat.not_lt.mpr h4), h5⟩
theorem goback (I : Inv X pins σc H s) (old : Old X pins L) (sz : L ≤ s.heap.objs.size) (J : Inv (gX X N qual scope f cd L pn s H) pg σ H' s1) : Inv X pins σc H' s1 := by
  have cut : ∀ b o, s.heap.get? b = some o → b ∉ (List.range s.heap.objs.size).filter (fun b => decide (L ≤ b)) → (cutH s.heap L).get? b = some o := fun b o e hb => by
    have lt : b < L := by
      rcases Nat.lt_or_ge b L with h | h
      · exact h
      · exact absurd (List.mem_filter.mpr ⟨List.mem_range.mpr (Heap.lt_size e), decide_eq_true h⟩) hb
    rw [cut_get lt]
    exact e
  have none : ∀ b : Addr, b ∉ (gX X N qual scope f cd L pn s H).ex := fun b h => List.not_mem_nil h
  refine I.call' (ch := (List.range s.heap.objs.size).filter (fun b => decide (L ≤ b))) J.os ⟨fun b o e h hf hc => J.base.keep b o (cut b o e hc) h hf (none b), fun b o e h hf hc => J.base.slot b o (cut b o e hc) h hf (none b), fun b o e h hc => J.base.free b o (cut b o e hc) h (none b), fun b o e hc => J.base.there b o (cut b o e hc) (none b), J.base.tups, J.base.frzs, J.base.tbls⟩ J.hok J.bare fun b hb => ?_
  have ge : L ≤ b := of_decide_eq_true (List.mem_filter.mp hb).2
  refine ⟨.inr (Nat.le_trans old.s0 ge), fun z => ?_, fun x c e z => ?_, fun p hp z => ?_⟩
  · exact absurd (z ▸ ge) (Nat.not_le.mpr old.loc)
  · exact absurd (z ▸ ge) (Nat.not_le.mpr (old.cell x c e))
  · exact absurd (z ▸ ge) (Nat.not_le.mpr (old.pin p hp))
end
end L2
/-! ### a generator whose body is: for x in ..: yield e -/
namespace L2
open PySem PySem.Spec PyProof.Rows GKeep GenW
/-- where it stands: not begun, or within its loop (its iterator, that one's records, its standing) -/
abbrev GD := Option (Addr × List Addr × (Nat → Heap → Prop))
def gfp (a L : Addr) : GD → List Addr
  | none => [a, L]
  | some (_, fi, _) => a :: L :: fi
section
variable {X : Cx} {pins : List (Addr × Obj)} {N : List Str} {qual : Str} {scope : Scope} {f a L g n : Nat} {cd : Value} {go : Obj} {tg iter : Expr} {e : Expr} {yp pos pos' : Pos} {wi : TI} {tt : TG} {te : TE} {J1 J : It} {W : Nat → L2.St → Prop}
/-- what stands of it in the heap -/
def GStand (X : Cx) (N : List Str) (qual : Str) (scope : Scope) (f : Addr) (cd : Value) (a L g : Addr) (go : Obj) (tg : Expr) (J1 : It) (W : Nat → L2.St → Prop) (i : Nat) (d : GD) (h : Heap) : Prop :=
  h.get? a = some go ∧ L < h.objs.size ∧ (∃ σ, W i σ ∧ σ.length = N.length ∧ ∃ m, h.Ns L m ∧ ∀ (i : Nat) (x : Str) (v : V), N[i]? = some x → σ[i]? = some (some v) → Vis scope x → ∃ u, RelV v u ∧ Look (envOfC qual scope L f cd) h m x u) ∧
    match d with
    | none => True
    | some (it, fi, tn) => Turn X.prog X.w X.K tg J1 fi it tn ∧ tn i h ∧ ∀ b ∈ fi, L < b ∧ b ≠ a
structure GenOk (X : Cx) (pins : List (Addr × Obj)) (N : List Str) (qual : Str) (scope : Scope) (f : Addr) (cd : Value) (a L g n : Nat) (go : Obj) (tg iter e : Expr) (wi : TI) (tt : TG) (te : TE) (J1 J : It) (W : Nat → L2.St → Prop) : Prop where
  old : Old X pins L
  calm : X.calm = true
  kind : scope.kind = .function
  nco : scope.isCoroutine = false
  plain : ∀ y ∈ scope.names, y.2 ≠ .cell ∧ y.2 ≠ .free
  nc : cellsFrom (L + 1) scope.names [] = []
  la : L < a
  gone : (∃ nm qn, go.cls = .type "generator" ∧ go.data = .fields #[.int g 0, nm, qn]) ∧ go.slots = #[]
  hi : ∀ s H, PI (gX X N qual scope f cd L [(a, go)] s H) tg iter wi
  hg : ∀ s H, PG (gX X N qual scope f cd L [(a, go)] s H) tg tt
  he : ∀ s H, PE (gX X N qual scope f cd L [(a, go)] s H) e te
  fold : ∀ x, foldedSetIterable iter (envOfC qual scope L f cd) x = pure x
  nint : interactive (envOfC qual scope L f cd) = false
  w0 : ∀ σ H, W 0 σ → wi σ H fun J2 H1 => J2 = J1 ∧ Same H H1
  turn : ∀ i σ, W i σ → i < n → ∀ H, J1.go i H ∧ ∀ x H', J1.yld i H x H' → tt x σ H' fun σ2 H2 => te σ2 H2 fun y H3 => J.yld i H y H3 ∧ W (i + 1) σ2
  stop : ∀ σ H, W n σ → J1.stop n H
  mono : ∀ i H H1 y H3, Same H H1 → J.yld i H1 y H3 → J.yld i H y H3
  n0 : 0 < n
variable (G : GenOk X pins N qual scope f cd a L g n go tg iter e wi tt te J1 J W)
include G
/-- the context of a turn is made anew -/
theorem GenOk.into {s : Shared} {σc : L2.St} {H : Hp} {i : Nat} {d : GD} (I : Inv X pins σc H s) (fo : ∀ b ∈ gfp a L d, FpOk X pins H b) (st : GStand X N qual scope f cd a L g go tg J1 W i d s.heap) : ∃ σ, W i σ ∧ Inv (gX X N qual scope f cd L [(a, go)] s H) [] σ H s := by
  obtain ⟨ha, lt, ⟨σ, w, len, ns⟩, _⟩ := st
  have hL : H L = none := (fo L (by cases d <;> simp [gfp])).1
  have hA : H a = none := (fo a (by cases d <;> simp [gfp])).1
  obtain ⟨⟨nm, qn, _, gd⟩, _⟩ := G.gone
  refine ⟨σ, w, reroot I G.old (I.ok.hd G.calm) G.kind G.plain G.nc (Nat.le_of_lt lt) hL ns len fun p hp => ?_⟩
  obtain rfl := List.mem_singleton.mp hp
  exact ⟨ha, hA, fun z => absurd G.la (by rw [show L = a from z.symm]; exact Nat.lt_irrefl _), Nat.le_of_lt G.la, fun v z => by rw [show go.data = _ from gd] at z; cases z⟩
/-- its own records are none of the consumer's -/
theorem GenOk.apart {b : Addr} {H : Hp} (I : ∃ (s : Shared) (σc : L2.St) (H : Hp), Inv X pins σc H s) (hb : L ≤ b) (hn : H b = none) : FpOk X pins H b := by
  obtain ⟨s, σc, H0, I⟩ := I
  refine ⟨hn, fun z => absurd (z ▸ hb) (Nat.not_le.mpr G.old.loc), fun z => ?_, .inr (Nat.le_trans G.old.s0 hb), fun x c e z => absurd (z ▸ hb) (Nat.not_le.mpr (G.old.cell x c e)), fun p hp z => absurd (z ▸ hb) (Nat.not_le.mpr (G.old.pin p hp))⟩
  obtain ⟨_, o, ho, _⟩ := I.ok.funs.mem z
  exact absurd hb (Nat.not_le.mpr (Nat.lt_of_lt_of_le (Heap.lt_size ho) G.old.s0))
/-- the loop's turn that hands out -/
theorem GenOk.yields {fs : List Frame} {Z : End → Shared → Prop} {sW s : Shared} {σc σ : L2.St} {HW H : Hp} {i it : Nat} {fi : List Addr} {tn : Nat → Heap → Prop} (hfs : splitAtGen fs = none)
    (ov : X.A.in1.over (.forLoop tg (.ref it) [.Expr (.Yield (some e) yp) pos'] [] (envOfC qual scope L f cd)) fs = X.A.in1.deeper (envOfC qual scope L f cd)) (IW : Inv X pins σc HW sW) (sz : L ≤ sW.heap.objs.size) (I : Inv (gX X N qual scope f cd L [(a, go)] sW HW) [] σ H s)
    (s01 : Same HW H) (w : W i σ) (lt : i < n) (T : Turn X.prog X.w X.K tg J1 fi it tn) (st : tn i s.heap) (fr : ∀ b ∈ fi, FpOk (gX X N qual scope f cd L [(a, go)] sW HW) [] H b)
    (hz : ∀ v k l p s1 x H', Inv X pins σc H' s1 → RelV x v → J.yld i HW x H' → (∀ b ∈ gfp a L (some (it, fi, tn)), FpOk X pins H' b) → GStand X N qual scope f cd a L g go tg J1 W (i + 1) (some (it, fi, tn)) s1.heap →
      (∀ {Z' : End → Shared → Prop} {s2 : Shared}, Turn1 (model X.prog X.w) X.A.in1 Z' (.forLoop tg (.ref it) [.Expr (.Yield (some e) yp) pos'] [] (envOfC qual scope L f cd)) (.pure (.again (.forLoop tg (.ref it) [.Expr (.Yield (some e) yp) pos'] [] (envOfC qual scope L f cd)))) fs s2 →
        Turn1 (model X.prog X.w) X.A.in1 Z' (.forLoop tg (.ref it) [.Expr (.Yield (some e) yp) pos'] [] (envOfC qual scope L f cd)) (k (.send .none)) fs s2) →
      Z (.susp v false l k (.forLoop tg (.ref it) [.Expr (.Yield (some e) yp) pos'] [] (envOfC qual scope L f cd)) p fs) s1) :
    Turn1 (model X.prog X.w) X.A.in1 Z (.forLoop tg (.ref it) [.Expr (.Yield (some e) yp) pos'] [] (envOfC qual scope L f cd)) ((model X.prog X.w).den (.forLoop tg (.ref it) [.Expr (.Yield (some e) yp) pos'] [] (envOfC qual scope L f cd))) fs s := by
  refine t1_forLoop ?_
  rw [ov]
  obtain ⟨go1, step⟩ := G.turn i σ w lt H
  have stat : ∀ {H' : Hp}, (∀ b ∈ fi, H' b = none) → ∀ b ∈ fi, FpOk (gX X N qual scope f cd L [(a, go)] sW HW) [] H' b := fun hn b hb => ⟨hn b hb, (fr b hb).2⟩
  refine wpAny_mono (T.item (gX X N qual scope f cd L [(a, go)] sW HW) rfl rfl rfl rfl i [] s σ H (fun _ _ => False) I fr st go1) (fun rr s1 h1 => ?_) fun _ _ he => he.elim
  obtain ⟨u, rfl, h4⟩ := h1
  refine wpAny_mono h4 (fun _ s2 h5 => ?_) fun _ _ he => he.elim
  obtain ⟨x, H5, I5, r5, y5, st5, fr5⟩ := h5
  have I5' := I5.pinned (stat fr5) (T.obj _ _ st5)
  refine wpAny_mono ((G.hg sW HW).run _ s2 σ H5 x u _ I5' r5 (step x H5 y5)) (fun _ s3 h6 => ?_) fun _ _ he => he.elim
  obtain ⟨σ6, H6, I6, q6⟩ := h6
  refine t1_execs_cons ?_
  refine t1_Yield hfs G.nco G.nint ?_
  rw [ov]
  refine wpAny_mono ((G.he sW HW).run _ s3 σ6 H6 _ I6 q6) (fun v s4 hv k l p cont => ?_) fun _ _ he => he.elim
  obtain ⟨y, H7, I7, rv, yl, w7⟩ := hv
  have own : ∀ b ∈ fi, ∀ o, s2.heap.get? b = some o → s4.heap.get? b = some o ∧ H7 b = none := fun b hb o eo => by
    have := I7.pin (b, o) (List.mem_append_right _ (List.mem_append_right _ (mem_pinsAt hb eo)))
    exact ⟨this.1, this.2.1⟩
  have pa := I7.pin (a, go) (List.mem_append_left _ (List.mem_singleton.mpr rfl))
  have far : ∀ b ∈ fi, L < b ∧ b ≠ a := fun b hb => by
    obtain ⟨_, n1, _, n2, _, n3⟩ := fr b hb
    have ge : L ≤ b := by
      rcases n2 with z | z
      · exact (List.not_mem_nil z).elim
      · have z : (cutH sW.heap L).objs.size ≤ b := z
        rw [cut_size sz] at z
        exact z
    exact ⟨Nat.lt_of_le_of_ne ge (fun z => n1 z.symm), fun z => n3 (a, go) (List.mem_append_left _ (List.mem_singleton.mpr rfl)) z.symm⟩
  refine hz v k l p s4 y H7 (goback IW G.old sz I7) rv (G.mono i HW H y H7 s01 yl) (fun b hb => ?_) ⟨pa.1, I7.lt, ⟨σ6, w7, I7.len, I7.loc⟩, T, T.keep _ _ _ st5 fun b hb o eo => (own b hb o eo).1, far⟩ fun h => cont h
  rcases List.mem_cons.mp hb with rfl | hb
  · exact G.apart ⟨sW, σc, HW, IW⟩ (Nat.le_of_lt G.la) pa.2.1
  rcases List.mem_cons.mp hb with rfl | hb
  · exact G.apart ⟨sW, σc, HW, IW⟩ (Nat.le_refl _) I7.free
  · obtain ⟨o, eo, _⟩ := T.obj _ _ st5 b hb
    exact G.apart ⟨sW, σc, HW, IW⟩ (Nat.le_of_lt (far b hb).1) (own b hb o eo).2
/-- the frame below its loop -/
structure FrOk (X : Cx) (qual : Str) (scope : Scope) (f : Addr) (cd : Value) (L : Addr) (tg e : Expr) (yp pos' : Pos) (fs : List Frame) : Prop where
  split : splitAtGen fs = none
  guard : fs.any Frame.guarded = false
  over : ∀ it, X.A.in1.over (.forLoop tg (.ref it) [.Expr (.Yield (some e) yp) pos'] [] (envOfC qual scope L f cd)) fs = X.A.in1.deeper (envOfC qual scope L f cd)
  leaf : ∀ {Z : End → Shared → Prop} {s : Shared} {c : Code}, Z (.ret (.ok (.ret .none))) s → Turn1 (model X.prog X.w) X.A.in1 Z c (leafOf (.ok .next)) fs s
omit G in
theorem self_own {H : Hp} {s : Shared} {σc : L2.St} {b : Addr} (I : Inv X pins σc H s) (old : Old X pins L) (nc : cellsFrom (L + 1) scope.names [] = []) (sz : L ≤ s.heap.objs.size) (hn : H b = none) (lt : L < b) (na : b ≠ a) : FpOk (gX X N qual scope f cd L [(a, go)] s H) [] H b := by
  refine ⟨hn, fun z => Nat.lt_irrefl _ (z ▸ lt), fun z => absurd (old.frs I z) (Nat.not_lt.mpr (Nat.le_of_lt lt)), .inr (by show (cutH s.heap L).objs.size ≤ b; rw [cut_size sz]; exact Nat.le_of_lt lt), fun x c e => ?_, fun p hp z => ?_⟩
  · have e : (cellsFrom (L + 1) scope.names []).lookup x = some c := e
    rw [nc] at e
    cases e
  · have hp : p ∈ [(a, go)] ++ [] := hp
    rw [List.append_nil] at hp
    obtain rfl := List.mem_singleton.mp hp
    exact na z.symm
theorem GenOk.lives {fs : List Frame} (fr : FrOk X qual scope f cd L tg e yp pos' fs) : ∀ (r i : Nat), i + r = n → ∀ (it : Addr) (fi : List Addr) (tn : Nat → Heap → Prop) (k : Resume → Sem PySem.Fin) (l : List Value) (p : Pos) (cl : Bool),
    (∀ {Z' : End → Shared → Prop} {s2 : Shared}, Turn1 (model X.prog X.w) X.A.in1 Z' (.forLoop tg (.ref it) [.Expr (.Yield (some e) yp) pos'] [] (envOfC qual scope L f cd)) (.pure (.again (.forLoop tg (.ref it) [.Expr (.Yield (some e) yp) pos'] [] (envOfC qual scope L f cd)))) fs s2 →
        Turn1 (model X.prog X.w) X.A.in1 Z' (.forLoop tg (.ref it) [.Expr (.Yield (some e) yp) pos'] [] (envOfC qual scope L f cd)) (k (.send .none)) fs s2) →
    Live X pins J (GStand X N qual scope f cd a L g go tg J1 W) (gfp a L) r i (some (it, fi, tn)) (.suspended k l (.forLoop tg (.ref it) [.Expr (.Yield (some e) yp) pos'] [] (envOfC qual scope L f cd)) p fs cl) := by
  intro r
  induction r with
  | zero =>
    intro i hi it fi tn k l p cl cont s σc H I fo st
    obtain rfl : i = n := by omega
    obtain ⟨σ, w, IX⟩ := G.into I fo st
    obtain ⟨_, lt, _, T, st1, far⟩ := st
    refine cont (t1_again rfl (t1_forLoop ?_))
    rw [fr.over]
    have sz := Nat.le_of_lt lt
    have fr1 : ∀ b ∈ fi, FpOk (gX X N qual scope f cd L [(a, go)] s H) [] H b := fun b hb => self_own I G.old G.nc sz (fo b (List.mem_cons_of_mem _ (List.mem_cons_of_mem _ hb))).1 (far b hb).1 (far b hb).2
    refine wpAny_mono (T.done (gX X N qual scope f cd L [(a, go)] s H) rfl rfl rfl rfl _ [] s σ H (fun _ _ => False) IX fr1 st1 (G.stop σ H w)) (fun rr s1 h1 => ?_) fun _ _ he => he.elim
    obtain ⟨rfl, I1⟩ := h1
    exact t1_again rfl (fr.leaf ⟨_, rfl, .inl rfl, goback I G.old sz I1⟩)
  | succ r ih =>
    intro i hi it fi tn k l p cl cont s σc H I fo st
    obtain ⟨σ, w, IX⟩ := G.into I fo st
    obtain ⟨_, lt, _, T, st1, far⟩ := st
    have sz := Nat.le_of_lt lt
    have fr1 : ∀ b ∈ fi, FpOk (gX X N qual scope f cd L [(a, go)] s H) [] H b := fun b hb => self_own I G.old G.nc sz (fo b (List.mem_cons_of_mem _ (List.mem_cons_of_mem _ hb))).1 (far b hb).1 (far b hb).2
    refine cont (t1_again rfl (G.yields fr.split (fr.over it) I sz IX (fun _ _ h => h) w (by omega) T st1 fr1 fun v k' l' p' s1 x H' I1 rv yl fo' st' cont' => ?_))
    refine ⟨v, false, l', k', _, p', fs, rfl, ?_, x, H', some (it, fi, tn), I1, rv, yl, fo', st', ih (i + 1) (by omega) it fi tn k' l' p' _ cont'⟩
    show (!(false || fs.any Frame.guarded)) = true
    rw [fr.guard]
    rfl
theorem GenOk.begins : Live X pins J (GStand X N qual scope f cd a L g go tg J1 W) (gfp a L) n 0 none (.fresh (.func [.For tg iter [.Expr (.Yield (some e) yp) pos'] [] pos] (envOfC qual scope L f cd))) := by
  obtain ⟨r, rfl⟩ : ∃ r, n = r + 1 := ⟨n - 1, by have := G.n0; omega⟩
  intro s σc H I fo st
  obtain ⟨σ, w, IX⟩ := G.into I fo st
  have sz := Nat.le_of_lt st.2.1
  refine t1_func (t1_execs_cons (t1_For G.fold ?_))
  rw [over_func]
  refine wpAny_mono ((G.hi s H).run [] s σ H _ IX (G.w0 σ H w)) (fun v s1 h1 => wpAny_mono h1 (fun itv s2 h2 => ?_) fun _ _ he => he.elim) fun _ _ he => he.elim
  obtain ⟨it, fi, tn, Jt, H2, rfl, I2, T, st2, f2, rfl, same⟩ := h2
  intro p
  have fr : FrOk X qual scope f cd L tg e yp pos' [.ret (fun r => ((match r with
      | .ok f => (.pure f : Sem Flow)
      | .error e => .raise e).onRaise (L2.cameBack (envOfC qual scope L f cd))).wrap (fun f_1 : Flow => match f_1 with
        | .next => (execs [] (envOfC qual scope L f cd)).wrap (fun f : Flow => .pure (.done (.ret (match f with
          | .ret v => v
          | _ => .none)))) (fun e => (leaving (envOfC qual scope L f cd) e).wrap (fun _ => .raise e) .raise id id) id id
        | f => .pure (.done (.ret (match f with
          | .ret v => v
          | _ => .none)))) (fun e => (leaving (envOfC qual scope L f cd) e).wrap (fun _ => .raise e) .raise id id) id id) none (id false) (id []) (.func [.For tg iter [.Expr (.Yield (some e) yp) pos'] [] pos] (envOfC qual scope L f cd)) p []] := by
    refine ⟨rfl, rfl, fun it => ?_, fun {Z s c} h => ?_⟩
    · rw [over_loop rfl rfl, over_func]
    · exact t1_leaf (.ok .next) (t1_end (.ok (.ret .none)) h)
  refine G.yields fr.split (fr.over it) I sz I2 same w G.n0 T st2 f2 fun v k' l' p' s1 x H' I1 rv yl fo' st' cont' => ?_
  refine ⟨v, false, l', k', _, p', _, rfl, rfl, x, H', some (it, fi, tn), I1, rv, yl, fo', st', G.lives fr r 1 (by omega) it fi tn k' l' p' _ cont'⟩
end
end L2
/-! ### for x in f(e, ..), f a generator def of one loop -/
namespace L2
open PySem PySem.Spec PyProof.Rows GKeep GenW
section
variable {X : Cx} {pins : List (Addr × Obj)} {σ : L2.St} {H : Hp} {s : Shared} {name qual : Str} {params : Arguments} {body : List Stmt} {scope : Scope} {dV kV doc pm cdv ct oc : Value} {an od : Option Addr} {osl : Array (Option Value)} {N ps : List Str} {f : Addr}
/-- what a call of it has made -/
structure Fresh1 (X : Cx) (pins : List (Addr × Obj)) (σ : L2.St) (H : Hp) (N : List Str) (qual : Str) (scope : Scope) (f : Addr) (cd : Value) (body : List Stmt) (vs : List V) (L a g : Nat) (go : Obj) (s : Shared) : Prop where
  inv : Inv X pins σ H s
  old : Old X pins L
  la : L < a
  gone : (∃ nm qn, go.cls = .type "generator" ∧ go.data = .fields #[.int g 0, nm, qn]) ∧ go.slots = #[]
  at_ : s.heap.get? a = some go
  gen : s.gens[g]? = some (.fresh (.func body (envOfC qual scope L f cd)))
  lt : L < s.heap.objs.size
  loc : ∃ m, s.heap.Ns L m ∧ ∀ (i : Nat) (x : Str) (v : V), N[i]? = some x → (start N vs)[i]? = some (some v) → Vis scope x → ∃ u, RelV v u ∧ Look (envOfC qual scope L f cd) s.heap m x u
  own : H L = none ∧ H a = none
theorem gen_call {us : List Value} {vs : List V} {Q : Value → Shared → Prop} {E : Value → Shared → Prop} {k : Nat} (lk : X.K.lookup f = some ⟨oc, od, .func (PySem.W.fnOf name qual params body scope dV kV doc pm an cdv ct), osl⟩) (hcd : PySem.W.codeIn X.K cdv qual = true) (S : GScope N ps scope)
    (room : Room (k + 1) X.A) (I : Inv X pins σ H s) (hb : BindsTo s (PySem.W.fnOf name qual params body scope dV kV doc pm an cdv ct) ⟨us, []⟩ (ps.zip us)) (r : Vals vs us) (len : vs.length = ps.length)
    (hq : ∀ L a g go s1, Fresh1 X pins σ H N qual scope f cdv body vs L a g go s1 → s.gens.size ≤ g → Q (.ref a) s1) : wpAny (model X.prog X.w) X.A (call (.ref f) us) Q E s := by
  have known : ∀ y ∈ ps.zip us, scope.names.lookup y.1 = some .local ∨ (scope.names.lookup y.1 = some .cell ∧ ((cellsFrom (s.heap.objs.size + 1) scope.names []).lookup y.1).isSome = true) := fun y hy => by
    rcases S.par y.1 (List.of_mem_zip (a := y.1) (b := y.2) hy).1 with h | h
    · exact .inl h
    · exact .inr ⟨h, PySem.W.cellsFrom_some _ _ _ (.inl h)⟩
  have deep : X.A.depth < recursionLimit := by
    have := room.dp
    omega
  refine wpAny_call (codeAny_mono (codeAny_call_generator (R := fun rr s1 => ∃ u, rr = .ok (.ret u) ∧ Q u s1) deep (I.kIn _ _ lk) rfl S.co S.gen rfl (PySem.W.codeRec_of I.kIn hcd) (hb _ _ _ _ ?_)) fun rr s1 ⟨u, e, q⟩ => by rw [e]; exact q)
  refine wpAny_newFunctionEnv_cells S.kind known fun env he s1 x => ?_
  subst he
  have J := inv_startG (E := fun _ _ _ => False) (N := N) S room.hd I.env0 len r x
  obtain ⟨h1, tk, rfl, kp⟩ := x.done
  have lt1 : s.heap.objs.size < h1.objs.size := x.toInCall.ns.lt
  have I1 : Inv X pins σ H { s with heap := h1, toks := tk } := I.kept (t' := tk) kp
  refine ⟨I.nolimit.keeps kp, _, rfl, ?_⟩
  have main : ∀ (go : Obj) (tk2 : Nat), ((∃ nm qn, go.cls = .type "generator" ∧ go.data = .fields #[.int s.gens.size 0, nm, qn]) ∧ go.slots = #[]) → (h1.push go).get? h1.objs.size = some go →
      Q (.ref h1.objs.size) { s with gens := s.gens.push (.fresh (.func body (envOfC qual scope s.heap.objs.size f cdv))), toks := tk2, heap := h1.push go } := fun go tk2 hgo hat => by
    have kp2 : ∀ b o, h1.get? b = some o → (h1.push go).get? b = some o := fun b o e => Heap.get?_push_of_some _ e
    refine hq s.heap.objs.size h1.objs.size s.gens.size go _ ⟨?_, ⟨I.sz, I.lt, fun y c e => ?_, fun p hp => ?_⟩, lt1, hgo, hat, Array.getElem?_push_size .., ?_, ?_, I.hok.fresh (Nat.le_refl _), I.hok.fresh (Nat.le_of_lt lt1)⟩ (Nat.le_refl _)
    · exact (I1.kept (t' := tk2) kp2).gens (AllBare.push I.bare rfl)
    · obtain ⟨v, o, ho, _⟩ := I.cell y c e
      exact Heap.lt_size ho
    · exact Heap.lt_size (I.pin p hp).1
    · show _ < (h1.push go).objs.size
      rw [Heap.size_push]
      exact Nat.lt_succ_of_lt lt1
    · obtain ⟨m, hn, hl⟩ := J.loc
      obtain ⟨o, es, ep, ho, rest⟩ := hn
      refine ⟨m, ⟨o, es, ep, kp2 _ _ ho, rest⟩, fun i x v h1' h2' h3' => ?_⟩
      obtain ⟨u, ru, lo⟩ := hl i x v h1' h2' h3'
      refine ⟨u, ru, ?_⟩
      rcases lo with lo | ⟨lo1, c, lo2, lo3⟩
      · exact .inl lo
      · exact .inr ⟨lo1, c, lo2, lo3.keeps kp2⟩
  exact main _ _ ⟨⟨_, _, rfl, rfl⟩, rfl⟩ (Heap.get?_push_size _ rfl)
/-- a generator's call under a for: its arguments, what it hands out -/
def tGenI (t : TA) (pre : List V → It → Prop) : TI := fun σ H R => t σ H fun vs H1 => ∃ J, pre vs J ∧ R J H1
theorem pgi_call {k : Nat} {x : Str} {p pos posG yp pos' : Pos} {e : Expr} {es : List Expr} {t : TA} {pre : List V → It → Prop} {tg tgG iterG eG : Expr}
    (lk : X.K.lookup f = some ⟨oc, od, .func (PySem.W.fnOf name qual params [.For tgG iterG [.Expr (.Yield (some eG) yp) pos'] [] posG] scope dV kV doc pm an cdv ct), osl⟩) (hcd : PySem.W.codeIn X.K cdv qual = true) (S : GScope N ps scope) (room : Room (k + 1) X.A) (hg : Gl X x) (hm : X.mg x = some (.ref f)) (hk : PySem.W.keepIn X.K (.ref f) = true)
    (hb : Binds X.K (PySem.W.fnOf name qual params [.For tgG iterG [.Expr (.Yield (some eG) yp) pos'] [] posG] scope dV kV doc pm an cdv ct) ps []) (ha : PA X (e :: es) t)
    (gok : ∀ vs J pins L a g go, pre vs J → Old X pins L → L < a → ((∃ nm qn, go.cls = .type "generator" ∧ go.data = .fields #[.int g 0, nm, qn]) ∧ go.slots = #[]) →
      vs.length = ps.length ∧ (start N vs).length = N.length ∧ ∃ (n : Nat) (wi : TI) (tt : TG) (te : TE) (J1 : It) (W : Nat → L2.St → Prop), W 0 (start N vs) ∧ (∀ i H, J.go i H → i < n) ∧ (∀ i H, J.stop i H → n ≤ i) ∧ GenOk X pins N qual scope f cdv a L g n go tgG iterG eG wi tt te J1 J W)
    (plain : (x == ("__debug__" : Str)) = false := by decide) (first : starEach (e :: es) X.env = (false, eval e X.env) :: starEach es X.env := by rfl) (noStar : (backTo pos (starEach es X.env)).any (·.1) = false := by rfl) :
    PGI X tg (.Call (.Name x p) (e :: es) [] pos) (tGenI t pre) := by
  refine ⟨fun pins s σ H R I h => ?_⟩
  refine wpAny_Call_Name_kw (ld_glob I hg hm ?_ plain)
  refine PySem.W.callWith_K (h₀ := X.base) I.ok.mod.kin hk (thn (ha.run pos pins s σ H _ I h) fun us s1 ⟨vs, H1, I1, r, J, hpre, hR⟩ => ⟨I1.kIn, ?_⟩) first noStar
  have len : vs.length = ps.length := by
    have := (gok vs J [] (Nat.max X.s_0.heap.objs.size s1.heap.objs.size) (Nat.max X.s_0.heap.objs.size s1.heap.objs.size + 1) 0 { cls := .type "generator", data := .fields #[.int 0 0, .none, .none] } hpre ⟨Nat.le_max_left .., Nat.lt_of_lt_of_le I1.lt (Nat.le_max_right ..), fun y c ey => ?_, fun q hq => ?_⟩ (Nat.lt_succ_self _) ⟨⟨_, _, rfl, rfl⟩, rfl⟩).1
    · exact this
    · obtain ⟨v, o, ho, _⟩ := I1.cell y c ey
      exact Nat.lt_of_lt_of_le (Heap.lt_size ho) (Nat.le_max_right ..)
    · rw [List.append_nil] at hq
      exact Nat.lt_of_lt_of_le (Heap.lt_size (I1.pin q (List.mem_append_left _ hq)).1) (Nat.le_max_right ..)
  have bound := hb s1 us I1.kIn (by rw [List.append_nil]; exact r.length.symm.trans len)
  rw [List.append_nil] at bound
  refine gen_call lk hcd S room I1 bound r len fun L a g go s2 F _ => ?_
  obtain ⟨_, len2, n, wi, tt, te, J1, W, w0, jg, js, G⟩ := gok vs J pins L a g go hpre F.old F.la F.gone
  obtain ⟨⟨nm, qn, gc, gd⟩, gs⟩ := F.gone
  refine wpAny_pyIter_gen ⟨go, nm, qn, F.at_, gc, gd, gs⟩ ?_
  have ncell : ∀ v, go.data ≠ .cell v := fun v z => by
    rw [gd] at z
    cases z
  have lobj : ∀ {i d} {h : Heap}, GStand X N qual scope f cdv a L g go tgG J1 W i d h → ∃ o, h.get? L = some o ∧ ∀ v, o.data ≠ .cell v := fun {i d h} st => by
    obtain ⟨_, _, ⟨_, _, _, m, ⟨o, es, ep, ho, hd, _⟩, _⟩, _⟩ := st
    exact ⟨o, ho, fun v z => by rw [hd] at z; cases z⟩
  refine ⟨a, J, _, gfp a L none, H1, rfl, F.inv, gturn_of (Stand := GStand X N qual scope f cdv a L g go tgG J1 W) (fp := gfp a L) (g := g) (n := n) G.calm (by have := room.dp; omega) jg js (fun i d h st => ⟨go, nm, qn, st.1, gc, gd, gs⟩) (fun d => ?_) (fun i d h st b hb' => ?_) (fun i d h h' st kp => ?_),
    ⟨none, n, _, rfl, Nat.zero_add _, ⟨F.at_, F.lt, ⟨_, w0, len2, F.loc⟩, True.intro⟩, F.gen, fun z => absurd z (Nat.lt_irrefl 0), G.begins⟩, fun b hb' => ?_, hR⟩
  · cases d <;> exact List.mem_cons_self
  · have two : b = a ∨ b = L ∨ ∃ it fi tn, d = some (it, fi, tn) ∧ b ∈ fi := by
      cases d with
      | none =>
        rcases List.mem_cons.mp hb' with z | z
        · exact .inl z
        · exact .inr (.inl (List.mem_singleton.mp z))
      | some q =>
        obtain ⟨it, fi, tn⟩ := q
        rcases List.mem_cons.mp hb' with z | z
        · exact .inl z
        rcases List.mem_cons.mp z with z | z
        · exact .inr (.inl z)
        · exact .inr (.inr ⟨it, fi, tn, rfl, z⟩)
    rcases two with rfl | rfl | ⟨it, fi, tn, rfl, hb2⟩
    · exact ⟨go, st.1, ncell⟩
    · exact lobj st
    · obtain ⟨_, _, _, T, st1, _⟩ := st
      exact T.obj _ _ st1 b hb2
  · obtain ⟨oL, hoL, _⟩ := lobj st
    have kL := kp L (by cases d <;> simp [gfp]) oL hoL
    obtain ⟨ha', lt, ⟨σ1, w1, l1, m, ⟨o, es, ep, ho, rest⟩, hl⟩, more⟩ := st
    rw [ho] at hoL
    obtain rfl := Option.some.inj hoL
    refine ⟨kp a (by cases d <;> simp [gfp]) go ha', Heap.lt_size kL, ⟨σ1, w1, l1, m, ⟨o, es, ep, kL, rest⟩, fun i x v q1 q2 q3 => ?_⟩, ?_⟩
    · obtain ⟨u, ru, lo⟩ := hl i x v q1 q2 q3
      refine ⟨u, ru, ?_⟩
      rcases lo with lo | ⟨lo1, c, lo2, _⟩
      · exact .inl lo
      · have lo2 : (cellsFrom (L + 1) scope.names []).lookup x = some c := lo2
        rw [G.nc] at lo2
        cases lo2
    · cases d with
      | none => exact True.intro
      | some q =>
        obtain ⟨it, fi, tn⟩ := q
        obtain ⟨T, st1, far⟩ := more
        exact ⟨T, T.keep _ _ _ st1 fun b hb2 o eo => kp b (List.mem_cons_of_mem _ (List.mem_cons_of_mem _ hb2)) o eo, far⟩
  · rcases List.mem_cons.mp hb' with rfl | hb'
    · exact G.apart ⟨s1, σ, H1, I1⟩ (Nat.le_of_lt F.la) F.own.2
    · obtain rfl := List.mem_singleton.mp hb'
      exact G.apart ⟨s1, σ, H1, I1⟩ (Nat.le_refl _) F.own.1
end
end L2
namespace GKeep
open PySem
theorem wpAny_twin {α : Type} {M : Model} {A : Around} {t : Sem α} {Q : α → Shared → Prop} {E : Value → Shared → Prop} {s r : Shared} (e : r = { s with gens := r.gens }) (tw : Tw s.gens r.gens) (h : wpAny M A t Q E s) :
    wpAny M A t (fun a r' => ∃ s', r' = { s' with gens := r'.gens } ∧ Tw s'.gens r'.gens ∧ Q a s') (fun x r' => ∃ s', r' = { s' with gens := r'.gens } ∧ Tw s'.gens r'.gens ∧ E x s') r := fun Γ p hΓ => by
  have key := wp_twin M Γ s.gens r.gens t _ _ p s r.gens tw (Kp.refl _ _) (h Γ p hΓ)
  rw [← e] at key
  exact Sem.wp_mono M Γ t (fun a p' r' ⟨s', B', e', tw', _, q⟩ => ⟨s', by rw [e'], by rw [e']; exact tw', q⟩) (fun a p' r' ⟨s', B', e', tw', _, q⟩ => ⟨s', by rw [e'], by rw [e']; exact tw', q⟩) _ _ key
end GKeep
namespace L2
open PySem PySem.Spec PyProof.Rows GKeep GenW
theorem blind0 {P : Program} {w : World} {K : PySem.W.Frag} {mg : Str → Option Value} {base : Heap} {N : List Str} {qual : Str} {scope : Scope} {f : Addr} {cd : Value} {A : Around} {outer : List Env} {s : Shared} {H : Hp} {E : XK} : Blind (cxOf CX0 P w K mg base N qual scope f cd A outer s H E) := fun e s1 r e1 tw h => by
  refine wpAny_mono (wpAny_twin e1 tw (show wpAny _ _ _ _ _ s1 from h)) (fun _ r' ⟨s', _, _, q⟩ => ?_) fun _ r' ⟨s', _, _, q⟩ => ?_
  · exact False.elim q
  · exact False.elim q
theorem blindN {X : Cx} : Blind X.nox := fun _ _ _ _ _ h => False.elim h
theorem CX.twin {P : Program} {w : World} {outer : List Env} {H : Hp} {s s' r : Shared} {E : XK} {u : Value} (h : L2.CX P w outer H s E u s') (e : r = { s' with gens := r.gens }) (tw : Tw s'.gens r.gens) : L2.CX P w outer H s E u r := by
  obtain ⟨a, B, H', cls, d, e1, fl, hok, ub, na, os, ag, hE⟩ := h
  rw [e]
  exact ⟨a, B, H', cls, d, e1, fl, hok, ub, na, os, tw.bare ag, hE⟩
/-- a def that can raise does not see them either -/
theorem blindX {P : Program} {w : World} {K : PySem.W.Frag} {mg : Str → Option Value} {base : Heap} {N : List Str} {qual : Str} {scope : Scope} {f : Addr} {cd : Value} {A : Around} {outer : List Env} {s : Shared} {H : Hp} {E : XK} : Blind (cxOf (L2.CX P w) P w K mg base N qual scope f cd A outer s H E) := fun e s1 r e1 tw h =>
  wpAny_mono (wpAny_twin e1 tw (show wpAny _ _ _ _ _ s1 from h)) (fun _ _ ⟨_, e, tw, q⟩ => q.twin e tw) fun _ _ ⟨_, e, tw, q⟩ => q.twin e tw
/-- n tuples of numbers -/
def Itg (items : Nat → List Int) (n : Nat) : It := ⟨fun i _ => i < n, fun i H x H' => ∃ t, x = .ref t ∧ Same H H' ∧ H t = none ∧ H' t = some (.tup ((items i).map V.int)), fun i _ => n ≤ i⟩
theorem for_gen {items : Nat → List Int} {n : Nat} {g : TG} {tb : TS} {D : Ends} {σ : L2.St} {H : Hp} (Pv : Nat → L2.St → Hp → Prop) (h0 : Pv 0 σ H)
    (hs : ∀ i t σ H H', i < n → Pv i σ H → Same H H' → H t = none → H' t = some (.tup ((items i).map V.int)) → g (.ref t) σ H' fun σ2 H2 => tb { D with nx := Pv (i + 1), ct := Pv (i + 1), bk := D.nx } σ2 H2) (hd : ∀ σ H, Pv n σ H → D.nx σ H) :
    ∃ W : Nat → Nat → L2.St → Hp → Prop, (∃ m, W 0 m σ H) ∧ ∀ i m σ H, W i m σ H →
      ((Itg items n).stop i H ∧ D.nx σ H) ∨ ((Itg items n).go i H ∧ ∃ N : L2.St → Hp → Prop, (∀ σ' H', N σ' H' → ∃ m', m' < m ∧ W (i + 1) m' σ' H') ∧ ∀ x H', (Itg items n).yld i H x H' → g x σ H' fun σ2 H2 => tb { D with nx := N, ct := N, bk := D.nx } σ2 H2) := by
  refine ⟨fun i m σ H => m = n - i ∧ i ≤ n ∧ Pv i σ H, ⟨n, rfl, Nat.zero_le _, h0⟩, ?_⟩
  rintro i m σ H ⟨rfl, hi, p⟩
  rcases Nat.lt_or_ge i n with lt | ge
  · refine .inr ⟨lt, Pv (i + 1), fun σ' H' p' => ⟨n - (i + 1), by omega, rfl, lt, p'⟩, fun x H' ⟨t, ex, s, nt, ht⟩ => ?_⟩
    subst ex
    exact hs i t σ H H' lt p s nt ht
  · obtain rfl : i = n := by omega
    exact .inl ⟨Nat.le_refl _, hd σ H p⟩
/-- a generator def of one loop, as its callers know it -/
def CalG (P : Program) (w : World) (K : PySem.W.Frag) (mg : Str → Option Value) (base : Heap) (k : Nat) (x : Str) (pre : List V → It → Prop) : Prop :=
  ∀ (X : Cx) (tg e : Expr) (es : List Expr) (t : TA) (p pos : Pos), X.prog = P → X.w = w → X.K = K → X.mg = mg → X.base = base → X.calm = true → Room (k + 2) X.A → Gl X x → PA X (e :: es) t →
    starEach (e :: es) X.env = (false, eval e X.env) :: starEach es X.env → (backTo pos (starEach es X.env)).any (·.1) = false → PGI X tg (.Call (.Name x p) (e :: es) [] pos) (tGenI t pre)
end L2
/-! ### calls within a comprehension, the fragment named -/
namespace L2
open PySem PySem.Spec PyProof.Rows
theorem len_inK {X : Cx} {K : PySem.W.Frag} (h : X.K = K) : CallR X (.builtin "len") (fun xs H Q => ∃ p ys, xs = [V.ref p] ∧ (SqL K H p ys ∨ SqT K H p ys) ∧ Q (V.int ys.length) H) := by
  subst h
  exact call_len_seq
theorem tuple_inK {X : Cx} {K : PySem.W.Frag} (h : X.K = K) : CallR X (.type "tuple") (fun xs H Q => ∃ p ys, xs = [V.ref p] ∧ ((SqL K H p ys ∧ ∀ l : Addr, H l = none → Q (V.ref l) (upd H l (.tup ys))) ∨ SqT K H p ys ∧ Q (V.ref p) H)) := by
  subst h
  exact call_tuple_of
end L2
namespace K48
open PySem PySem.Spec PyProof.Rows L2
def top (i : Nat) : Stmt := PySem.Challenge.pw_dearestshelf_k48_alternating_sums.main.body.getD i (.Pass ⟨0, 0, 0, 0⟩)
abbrev s_TooMany___init__ : Stmt := inClass (top 7) 0
theorem sc_TooMany___init__ : FnScope ["self", "many", "most"] ["self", "many", "most"] (defScope s_TooMany___init__) := ⟨rfl, rfl, rfl, by decide +kernel, rfl, by decide +kernel, by decide +kernel⟩
abbrev s_BadTable___init__ : Stmt := inClass (top 8) 0
theorem sc_BadTable___init__ : FnScope ["self", "at"] ["self", "at"] (defScope s_BadTable___init__) := ⟨rfl, rfl, rfl, by decide +kernel, rfl, by decide +kernel, by decide +kernel⟩
abbrev s_check_many : Stmt := top 11
theorem sc_check_many : FnScope ["many", "most"] ["many", "most"] (defScope s_check_many) := ⟨rfl, rfl, rfl, by decide +kernel, rfl, by decide +kernel, by decide +kernel⟩
abbrev s_Rule___init__ : Stmt := inClass (top 26) 0
theorem sc_Rule___init__ : FnScope ["self", "many"] ["self", "many"] (defScope s_Rule___init__) := ⟨rfl, rfl, rfl, by decide +kernel, rfl, by decide +kernel, by decide +kernel⟩
abbrev s_check_lot : Stmt := top 12
theorem sc_check_lot : FnScope ["lot", "many", "before", "thing"] ["lot", "many"] (defScope s_check_lot) := ⟨rfl, rfl, rfl, by decide +kernel, rfl, by decide +kernel, by decide +kernel⟩
abbrev s_lot_number : Stmt := top 15
theorem sc_lot_number : FnScope ["lot", "thing"] ["lot"] (defScope s_lot_number) := ⟨rfl, rfl, rfl, by decide +kernel, rfl, by decide +kernel, by decide +kernel⟩
abbrev s_lot_at : Stmt := top 16
theorem sc_lot_at : FnScope ["number", "many", "thing"] ["number", "many"] (defScope s_lot_at) := ⟨rfl, rfl, rfl, by decide +kernel, rfl, by decide +kernel, by decide +kernel⟩
abbrev s_lots : Stmt := top 14
theorem sc_lots : GScope ["many", "number"] ["many"] (defScope s_lots) := ⟨rfl, rfl, rfl, by decide +kernel, rfl, by decide +kernel, by decide +kernel⟩
abbrev s__fits : Stmt := top 32
theorem sc__fits : FnScope ["row", "lot", "total", "counts", "thing", "count"] ["row", "lot"] (defScope s__fits) := ⟨rfl, rfl, rfl, by decide +kernel, rfl, by decide +kernel, by decide +kernel⟩
abbrev s_common_divisor : Stmt := top 19
theorem sc_common_divisor : FnScope ["numbers", "divisor", "number"] ["numbers"] (defScope s_common_divisor) := ⟨rfl, rfl, rfl, by decide +kernel, rfl, by decide +kernel, by decide +kernel⟩
abbrev s__reduced_row : Stmt := top 33
theorem sc__reduced_row : FnScope ["row", "divisor", "item"] ["row"] (defScope s__reduced_row) := ⟨rfl, rfl, rfl, by decide +kernel, rfl, by decide +kernel, by decide +kernel⟩
abbrev s_Tabled___init__ : Stmt := inClass (top 31) 0
theorem sc_Tabled___init__ : NdefX.NScope ["self", "many", "rows", "__class__", "number", "row"] ["self", "many", "rows"] ["__class__"] (defScope s_Tabled___init__) := NdefX.nscope_by (by decide +kernel)
abbrev s_Ratio___init__ : Stmt := inClass (top 18) 0
theorem sc_Ratio___init__ : FnScope ["self", "top", "bottom", "divisor"] ["self", "top", "bottom"] (defScope s_Ratio___init__) := ⟨rfl, rfl, rfl, by decide +kernel, rfl, by decide +kernel, by decide +kernel⟩
abbrev s__as_ratio : Stmt := top 22
theorem sc__as_ratio : FnScope ["number"] ["number"] (defScope s__as_ratio) := ⟨rfl, rfl, rfl, by decide +kernel, rfl, by decide +kernel, by decide +kernel⟩
abbrev s_Ratio___neg__ : Stmt := inClass (top 18) 12
theorem sc_Ratio___neg__ : FnScope ["self"] ["self"] (defScope s_Ratio___neg__) := ⟨rfl, rfl, rfl, by decide +kernel, rfl, by decide +kernel, by decide +kernel⟩
abbrev s_Ratio___add__ : Stmt := inClass (top 18) 4
theorem sc_Ratio___add__ : FnScope ["self", "other", "addend"] ["self", "other"] (defScope s_Ratio___add__) := ⟨rfl, rfl, rfl, by decide +kernel, rfl, by decide +kernel, by decide +kernel⟩
abbrev s_Ratio___sub__ : Stmt := inClass (top 18) 6
theorem sc_Ratio___sub__ : FnScope ["self", "other"] ["self", "other"] (defScope s_Ratio___sub__) := ⟨rfl, rfl, rfl, by decide +kernel, rfl, by decide +kernel, by decide +kernel⟩
abbrev s_Ratio___rsub__ : Stmt := inClass (top 18) 7
theorem sc_Ratio___rsub__ : FnScope ["self", "other"] ["self", "other"] (defScope s_Ratio___rsub__) := ⟨rfl, rfl, rfl, by decide +kernel, rfl, by decide +kernel, by decide +kernel⟩
abbrev s_Tabled_shares : Stmt := inClass (top 31) 3
theorem sc_Tabled_shares : FnScope ["self", "lot", "total", "counts", "count"] ["self", "lot"] (defScope s_Tabled_shares) := ⟨rfl, rfl, rfl, by decide +kernel, rfl, by decide +kernel, by decide +kernel⟩
abbrev s_Rule_away : Stmt := inClass (top 26) 2
theorem sc_Rule_away : FnScope ["self", "lot"] ["self", "lot"] (defScope s_Rule_away) := ⟨rfl, rfl, rfl, by decide +kernel, rfl, by decide +kernel, by decide +kernel⟩
abbrev s_alternating : Stmt := top 28
theorem sc_alternating : FnScope ["table", "lot", "thing", "total", "larger", "share", "more", "other"] ["table", "lot", "thing"] (defScope s_alternating) := ⟨rfl, rfl, rfl, by decide +kernel, rfl, by decide +kernel, by decide +kernel⟩
abbrev s__law_cell : Stmt := top 35
theorem sc__law_cell : FnScope ["_law_script", "_law_place"] ["_law_script", "_law_place"] (defScope s__law_cell) := ⟨rfl, rfl, rfl, by decide +kernel, rfl, by decide +kernel, by decide +kernel⟩
abbrev s__law_draws : Stmt := top 36
theorem sc__law_draws : FnScope ["_law_cell_here", "_law_sizes", "_law_size", "_law_left", "_law_found", "_law_k", "_law_low", "_law_high"] ["_law_cell_here", "_law_sizes"] (defScope s__law_draws) := ⟨rfl, rfl, rfl, by decide +kernel, rfl, by decide +kernel, by decide +kernel⟩
abbrev s__law_lot : Stmt := top 37
theorem sc__law_lot : FnScope ["_law_bits", "_law_many", "_law_found", "_law_left", "_law_thing"] ["_law_bits", "_law_many"] (defScope s__law_lot) := ⟨rfl, rfl, rfl, by decide +kernel, rfl, by decide +kernel, by decide +kernel⟩
abbrev s__law_power : Stmt := top 38
theorem sc__law_power : FnScope ["_law_many", "_law_power_here", "_law_k"] ["_law_many"] (defScope s__law_power) := ⟨rfl, rfl, rfl, by decide +kernel, rfl, by decide +kernel, by decide +kernel⟩
abbrev s__law_table : Stmt := top 39
theorem sc__law_table : FnScope ["_law_cell_here", "_law_many", "_law_size", "_law_k", "_law_drawn", "_law_bound", "_law_rows", "_law_part", "_law_lot_here", "_law_counts", "_law_total", "_law_value", "_law_thing"] ["_law_cell_here", "_law_many"] (defScope s__law_table) := ⟨rfl, rfl, rfl, by decide +kernel, rfl, by decide +kernel, by decide +kernel⟩
abbrev s__law_is_int : Stmt := top 40
theorem sc__law_is_int : FnScope ["_law_x"] ["_law_x"] (defScope s__law_is_int) := ⟨rfl, rfl, rfl, by decide +kernel, rfl, by decide +kernel, by decide +kernel⟩
abbrev s__law_same : Stmt := top 41
theorem sc__law_same : FnScope ["_law_x", "_law_top", "_law_bottom"] ["_law_x", "_law_top", "_law_bottom"] (defScope s__law_same) := ⟨rfl, rfl, rfl, by decide +kernel, rfl, by decide +kernel, by decide +kernel⟩
abbrev s__law_plus : Stmt := top 42
theorem sc__law_plus : FnScope ["_law_a", "_law_b"] ["_law_a", "_law_b"] (defScope s__law_plus) := ⟨rfl, rfl, rfl, by decide +kernel, rfl, by decide +kernel, by decide +kernel⟩
abbrev s__law_no_lot : Stmt := top 43
theorem sc__law_no_lot : FnScope ["_law_lot_here", "_law_many", "_law_way", "_law_k"] ["_law_lot_here", "_law_many", "_law_way"] (defScope s__law_no_lot) := ⟨rfl, rfl, rfl, by decide +kernel, rfl, by decide +kernel, by decide +kernel⟩
abbrev s__law_alternating : Stmt := top 44
theorem sc__law_alternating : FnScope ["_law_rows", "_law_many", "_law_lot_here", "_law_thing", "_law_total", "_law_number", "_law_other", "_law_row", "_law_count", "_law_k"] ["_law_rows", "_law_many", "_law_lot_here", "_law_thing"] (defScope s__law_alternating) := ⟨rfl, rfl, rfl, by decide +kernel, rfl, by decide +kernel, by decide +kernel⟩
abbrev s__law_right : Stmt := top 45
theorem sc__law_right : FnScope ["_law_table_here", "_law_rows", "_law_many", "_law_lot_here", "_law_things", "_law_thing", "_law_due"] ["_law_table_here", "_law_rows", "_law_many", "_law_lot_here"] (defScope s__law_right) := ⟨rfl, rfl, rfl, by decide +kernel, rfl, by decide +kernel, by decide +kernel⟩
abbrev s__law_refuses : Stmt := top 46
theorem sc__law_refuses : FnScope ["_law_table_here", "_law_lot_here"] ["_law_table_here", "_law_lot_here"] (defScope s__law_refuses) := ⟨rfl, rfl, rfl, by decide +kernel, rfl, by decide +kernel, by decide +kernel⟩
abbrev s__law_classes : Stmt := top 47
theorem sc__law_classes : FnScope ["_law_table_here", "_law_lot_here", "e"] ["_law_table_here", "_law_lot_here"] (defScope s__law_classes) := ⟨rfl, rfl, rfl, by decide +kernel, rfl, by decide +kernel, by decide +kernel⟩
abbrev s_law : Stmt := top 48
theorem sc_law : FnScope ["_law_script", "_law_d", "_law_many", "_law_lot_here", "_law_first", "_law_second", "_law_passed", "_law_one", "_law_two", "_law_none", "_law_row"] ["_law_script"] (defScope s_law) := ⟨rfl, rfl, rfl, by decide +kernel, rfl, by decide +kernel, by decide +kernel⟩

/-! ### mathematics of draws -/
def Within : List Int → List Int → Prop
  | [], [] => True
  | d :: ds, n :: ns => (0 ≤ d ∧ d < n) ∧ Within ds ns
  | _, _ => False
theorem Within.len : ∀ {ds ns : List Int}, Within ds ns → ds.length = ns.length
  | [], [], _ => rfl
  | _ :: ds, _ :: ns, h => by
    rw [List.length_cons, List.length_cons, Within.len h.2]
  | [], _ :: _, h => h.elim
  | _ :: _, [], h => h.elim
theorem Within.snoc : ∀ {ds ns : List Int} {d n : Int}, Within ds ns → 0 ≤ d → d < n → Within (ds ++ [d]) (ns ++ [n])
  | [], [], d, n, _, h0, h1 => ⟨⟨h0, h1⟩, True.intro⟩
  | _ :: ds, _ :: ns, d, n, h, h0, h1 => ⟨h.1, Within.snoc h.2 h0 h1⟩
  | [], _ :: _, _, _, h, _, _ => h.elim
  | _ :: _, [], _, _, h, _, _ => h.elim
theorem Within.step {ds ns : List Int} {d n : Int} {i : Nat} (h : Within ds (ns.take i)) (hi : ns[i]? = some n) (h0 : 0 ≤ d) (h1 : d < n) : Within (ds ++ [d]) (ns.take (i + 1)) := by
  rw [List.take_add_one, hi]
  exact h.snoc h0 h1
theorem Within.zero (ns : List Int) : Within [] (ns.take 0) := by
  rw [List.take_zero]
  exact True.intro
theorem Within.full {ds ns : List Int} (h : Within ds (ns.take ns.length)) : Within ds ns := by
  rw [List.take_length] at h
  exact h
theorem int_of {ns : List Int} {i : Nat} {x : V} (h : (ns.map V.int)[i]? = some x) : ∃ n, x = .int n ∧ ns[i]? = some n := by
  rw [List.getElem?_map] at h
  cases e : ns[i]? with
  | none =>
    rw [e] at h
    cases h
  | some z =>
    rw [e] at h
    exact ⟨z, (Option.some.inj h).symm, rfl⟩
theorem int_at {ns : List Int} {i : Nat} {n : Int} (h : ns[i]? = some n) : (ns.map V.int)[i]? = some (.int n) := by
  rw [List.getElem?_map, h]
  rfl
theorem snoc_int (ds : List Int) (d : Int) : ds.map V.int ++ [V.int d] = (ds ++ [d]).map V.int := by
  rw [List.map_append]
  rfl
theorem same_upd {H : Hp} {p : Addr} {o : HO} (h : H p = none) : Same H (upd H p o) := fun b x e => by
  rw [upd_ne (ne_of_none e h)]
  exact e
theorem same_mut {H H1 : Hp} {p : Addr} {o : HO} (s : Same H H1) (h : H p = none) : Same H (upd H1 p o) := fun b x e => by
  rw [upd_ne (ne_of_none e h)]
  exact s b x e
theorem same_tup {K : PySem.W.Frag} {H H' : Hp} {a : Addr} {xs : List V} (e : Same H H') (h : SqT K H a xs) : SqT K H' a xs := by
  rcases h with (h | ⟨o, h⟩) | h
  · exact .inl (.inl (e _ _ h))
  · exact .inl (.inr ⟨o, e _ _ h⟩)
  · exact .inr h
theorem w_div {j : Int} (h : 0 < j) (hb : j < 2 ^ 100) : CDivW 0 j := wide_div (b := 100) h (by omega) (by decide) (by decide)
theorem lst_l {K : PySem.W.Frag} {H : Hp} {a : Addr} {xs : List V} (h : H a = some (.lst xs)) : SqL K H a xs := .inl (.inl h)
theorem tup_t {K : PySem.W.Frag} {H : Hp} {a : Addr} {xs : List V} (h : H a = some (.tup xs)) : SqT K H a xs := .inl (.inl h)
theorem lc_yes {σ : L2.St} {H : Hp} {F : Bool → Hp → Prop} (h : F true H) : tYes σ H F := h
theorem Within.c {ds ns : List Int} {n : Int} (h : Within ds (n :: ns)) : ∃ d r, ds = d :: r ∧ 0 ≤ d ∧ d < n ∧ Within r ns := by
  cases ds with
  | nil => exact h.elim
  | cons d r => exact ⟨d, r, rfl, h.1.1, h.1.2, h.2⟩
theorem Within.n {ds : List Int} (h : Within ds []) : ds = [] := by
  cases ds with
  | nil => rfl
  | cons d r => exact h.elim
theorem kI : kitB "int" "int" = some true := by decide +kernel
theorem kB : kitB "int" "bool" = some false := by decide +kernel
theorem kT : kitB "tuple" "tuple" = some true := by decide +kernel

theorem cut_from (xs : List V) (k : Nat) : cutV xs (some (k : Int)) none = xs.drop k := by
  unfold cutV
  rw [HT.sIx_nat, HT.sIx_none]
  by_cases h : k ≤ xs.length
  · rw [Nat.min_eq_left h]
    exact List.take_of_length_le (by rw [List.length_drop]; exact Nat.le_refl _)
  · rw [Nat.min_eq_right (by omega), List.drop_of_length_le (Nat.le_refl _), List.drop_of_length_le (by omega), List.take_nil]
theorem cut_from1 (xs : List V) : cutV xs (some 1) none = xs.drop 1 := by
  unfold cutV
  rw [show HT.sIx xs.length 0 (some 1) = min 1 xs.length from HT.sIx_nat xs.length 0 1, HT.sIx_none]
  cases xs with
  | nil => rfl
  | cons x r =>
    rw [show min 1 (x :: r).length = 1 by
      rw [List.length_cons]
      omega]
    show (List.take ((x :: r).length - 1) r) = r
    rw [List.length_cons, Nat.add_sub_cancel]
    exact List.take_length
theorem big18 : (0 : Int) < 10 ^ 18 ∧ (10 : Int) ^ 18 < 2 ^ 100 := by decide
theorem cut_to (xs : List V) (k : Nat) : cutV xs none (some (k : Int)) = xs.take k := by
  unfold cutV
  rw [HT.sIx_none, HT.sIx_nat, List.drop_zero, Nat.sub_zero]
  by_cases h : k ≤ xs.length
  · rw [Nat.min_eq_left h]
  · rw [Nat.min_eq_right (by omega), List.take_of_length_le (Nat.le_refl _), List.take_of_length_le (by omega)]

theorem iteD {c A B : Prop} [Decidable c] (hc : c) (h : A) : if decide c = true then A else B := by
  rw [if_pos (decide_eq_true hc)]
  exact h
theorem iteDF {c A B : Prop} [Decidable c] (hc : ¬ c) (h : B) : if decide c = true then A else B := by
  rw [decide_eq_false hc]
  exact iteF h
/-! ### lowest terms -/
def rg (t b : Int) : Int := ((Nat.gcd t.natAbs b.natAbs : Nat) : Int)
def rd (t b : Int) : Int := if b < 0 then -(rg t b) else rg t b
def nT (t b : Int) : Int := t.fdiv (rd t b)
def nB (t b : Int) : Int := b.fdiv (rd t b)
/-- T over B is t over b in lowest terms -/
structure LowT (t b T B : Int) : Prop where
  pos : 0 < B
  eq : T * b = t * B
  leT : T.natAbs ≤ t.natAbs
  leB : B.natAbs ≤ b.natAbs
  cop : Nat.gcd T.natAbs B.natAbs = 1
theorem rg_pos {t b : Int} (h : b ≠ 0) : 0 < rg t b := by
  unfold rg
  have := Nat.gcd_pos_of_pos_right t.natAbs (Int.natAbs_pos.mpr h)
  omega
theorem rd_ne {t b : Int} (h : b ≠ 0) : rd t b ≠ 0 := by
  have := rg_pos (t := t) h
  unfold rd
  split <;> omega
theorem rd_abs (t b : Int) : (rd t b).natAbs = Nat.gcd t.natAbs b.natAbs := by
  unfold rd rg
  split <;> omega
theorem rd_dvd_t (t b : Int) : rd t b ∣ t := by
  rw [← Int.natAbs_dvd_natAbs, rd_abs]
  exact Nat.gcd_dvd_left ..
theorem rd_dvd_b (t b : Int) : rd t b ∣ b := by
  rw [← Int.natAbs_dvd_natAbs, rd_abs]
  exact Nat.gcd_dvd_right ..
theorem nT_mul {t b : Int} (h : b ≠ 0) : t = rd t b * nT t b := by
  obtain ⟨k, hk⟩ := rd_dvd_t t b
  have e : nT t b = k := by
    unfold nT
    conv => lhs; arg 1; rw [hk]
    exact Int.mul_fdiv_cancel_left k (rd_ne h)
  rw [e]
  exact hk
theorem nB_mul {t b : Int} (h : b ≠ 0) : b = rd t b * nB t b := by
  obtain ⟨k, hk⟩ := rd_dvd_b t b
  have e : nB t b = k := by
    unfold nB
    conv => lhs; arg 1; rw [hk]
    exact Int.mul_fdiv_cancel_left k (rd_ne h)
  rw [e]
  exact hk
theorem low {t b : Int} (h : b ≠ 0) : LowT t b (nT t b) (nB t b) := by
  have h1 := nT_mul (t := t) h
  have h2 := nB_mul (t := t) h
  have hg := rg_pos (t := t) h
  have hd := rd_ne (t := t) h
  have a1 : t.natAbs = (rd t b).natAbs * (nT t b).natAbs := by
    rw [← Int.natAbs_mul, ← h1]
  have a2 : b.natAbs = (rd t b).natAbs * (nB t b).natAbs := by
    rw [← Int.natAbs_mul, ← h2]
  have p : 0 < (rd t b).natAbs := Int.natAbs_pos.mpr hd
  refine ⟨?_, ?_, ?_, ?_, ?_⟩
  · by_cases hb : b < 0
    · have e : rd t b = -(rg t b) := if_pos hb
      rw [e] at h2
      by_cases hn : 0 < nB t b
      · exact hn
      · exfalso
        have : 0 ≤ -(rg t b) * nB t b := by
          rw [Int.neg_mul]
          have := Int.mul_nonneg (Int.le_of_lt hg) (show 0 ≤ -(nB t b) by omega)
          rw [Int.mul_neg] at this
          exact this
        omega
    · have e : rd t b = rg t b := if_neg hb
      rw [e] at h2
      by_cases hn : 0 < nB t b
      · exact hn
      · exfalso
        have := Int.mul_nonneg (Int.le_of_lt hg) (show 0 ≤ -(nB t b) by omega)
        rw [Int.mul_neg] at this
        omega
  · have e : nT t b * b = nT t b * (rd t b * nB t b) := congrArg (nT t b * ·) h2
    have e2 : t * nB t b = rd t b * nT t b * nB t b := congrArg (· * nB t b) h1
    rw [e, e2, ← Int.mul_assoc, Int.mul_comm (nT t b)]
  · rw [a1]
    exact Nat.le_mul_of_pos_left _ p
  · rw [a2]
    exact Nat.le_mul_of_pos_left _ p
  · have g := rd_abs t b
    rw [a1, a2, Nat.gcd_mul_left] at g
    have : (rd t b).natAbs * 1 = (rd t b).natAbs * Nat.gcd (nT t b).natAbs (nB t b).natAbs := by
      rw [Nat.mul_one]
      have e1 := congrArg Int.natAbs h1
      have e2 := congrArg Int.natAbs h2
      rw [Int.natAbs_mul] at e1 e2
      exact g
    exact (Nat.eq_of_mul_eq_mul_left p this).symm
theorem low_uniq {t b T B T' B' : Int} (hb : b ≠ 0) (h : LowT t b T B) (h' : LowT t b T' B') : T = T' ∧ B = B' := by
  have e : T * B' = T' * B := by
    have h1 : T * B' * b = T' * B * b := by
      have x1 : T * B' * b = (T * b) * B' := by rw [Int.mul_assoc, Int.mul_comm B', ← Int.mul_assoc]
      have x2 : T' * B * b = (T' * b) * B := by rw [Int.mul_assoc, Int.mul_comm B, ← Int.mul_assoc]
      rw [x1, x2, h.eq, h'.eq, Int.mul_assoc, Int.mul_assoc, Int.mul_comm B]
    exact Int.eq_of_mul_eq_mul_right hb h1
  have n : T.natAbs * B'.natAbs = T'.natAbs * B.natAbs := by
    rw [← Int.natAbs_mul, ← Int.natAbs_mul, e]
  have d1 : B.natAbs ∣ B'.natAbs := by
    have : B.natAbs ∣ T.natAbs * B'.natAbs := n ▸ Nat.dvd_mul_left ..
    exact (Nat.Coprime.symm h.cop).dvd_of_dvd_mul_left this
  have d2 : B'.natAbs ∣ B.natAbs := by
    have : B'.natAbs ∣ T'.natAbs * B.natAbs := n ▸ Nat.dvd_mul_left ..
    exact (Nat.Coprime.symm h'.cop).dvd_of_dvd_mul_left this
  have eb : B.natAbs = B'.natAbs := Nat.dvd_antisymm d1 d2
  have p := h.pos
  have p' := h'.pos
  have eB : B = B' := by omega
  subst eB
  exact ⟨Int.eq_of_mul_eq_mul_right (by omega) e, rfl⟩
/-! ### Euclid's turns -/
/-- ahead of turn i; g the greatest common divisor, the first product below 6 ^ m -/
structure Eu (g m i : Nat) (a b : Nat) : Prop where
  gc : Nat.gcd a b = g
  pot : (i = 0 ∧ a * b < 6 ^ m) ∨ (∃ j, i = 2 * j + 1 ∧ b ≤ a ∧ 0 < a ∧ a * b * 6 ^ j < 6 ^ m) ∨ (∃ j, i = 2 * j + 2 ∧ b ≤ a ∧ 0 < a ∧ (a + b) * a * 6 ^ j < 6 ^ m)
theorem eu_zero {g m i a : Nat} (h : Eu g m i a 0) : a = g := by
  have := h.gc
  rw [Nat.gcd_zero_right] at this
  exact this
theorem six_br {a b r : Nat} (h : b + r ≤ a) (hr : r ≤ b) : b * r * 6 ≤ (a + b) * a := by
  obtain ⟨c, rfl⟩ : ∃ c, b = r + c := ⟨b - r, by omega⟩
  have h1 : (r + c + r + (r + c)) * (r + c + r) ≤ (a + (r + c)) * a := Nat.mul_le_mul (by omega) h
  refine Nat.le_trans ?_ h1
  have e1 : (r + c) * r * 6 = 6 * (r * r) + 6 * (c * r) := by
    rw [Nat.add_mul]
    omega
  have e2 : (r + c + r + (r + c)) * (r + c + r) = 6 * (r * r) + 7 * (c * r) + 2 * (c * c) := by
    have : r + c + r + (r + c) = 3 * r + 2 * c := by omega
    rw [this]
    have : r + c + r = 2 * r + c := by omega
    rw [this, Nat.add_mul, Nat.mul_add, Nat.mul_add]
    have q1 : 3 * r * (2 * r) = 6 * (r * r) := by
      rw [Nat.mul_mul_mul_comm]
    have q2 : 3 * r * c = 3 * (c * r) := by
      rw [Nat.mul_assoc, Nat.mul_comm r c]
    have q3 : 2 * c * (2 * r) = 4 * (c * r) := by
      rw [Nat.mul_mul_mul_comm]
    have q4 : 2 * c * c = 2 * (c * c) := Nat.mul_assoc ..
    rw [q1, q2, q3, q4]
    omega
  omega
theorem eu_step {g m i a b : Nat} (h : Eu g m i a b) (hb : 0 < b) : Eu g m (i + 1) b (a % b) := by
  have hr : a % b < b := Nat.mod_lt a hb
  refine ⟨?_, ?_⟩
  · rw [← h.gc, Nat.gcd_comm a b, Nat.gcd_rec b a, Nat.gcd_comm]
  · rcases h.pot with ⟨rfl, p⟩ | ⟨j, rfl, hle, _, p⟩ | ⟨j, rfl, hle, _, p⟩
    · refine .inr (.inl ⟨0, by omega, by omega, hb, ?_⟩)
      rw [Nat.pow_zero, Nat.mul_one]
      refine Nat.lt_of_le_of_lt ?_ p
      rw [Nat.mul_comm]
      exact Nat.mul_le_mul_right _ (Nat.mod_le a b)
    · refine .inr (.inr ⟨j, by omega, by omega, hb, ?_⟩)
      refine Nat.lt_of_le_of_lt (Nat.mul_le_mul_right _ ?_) p
      have e := Nat.div_add_mod a b
      have q : 1 ≤ a / b := Nat.div_pos hle hb
      have : b * 1 ≤ b * (a / b) := Nat.mul_le_mul_left b q
      exact Nat.mul_le_mul (by omega) (Nat.le_refl b)
    · refine .inr (.inl ⟨j + 1, by omega, by omega, hb, ?_⟩)
      refine Nat.lt_of_le_of_lt ?_ p
      have e := Nat.div_add_mod a b
      have q : 1 ≤ a / b := Nat.div_pos hle hb
      have q2 : b * 1 ≤ b * (a / b) := Nat.mul_le_mul_left b q
      have s := six_br (a := a) (b := b) (r := a % b) (by omega) (by omega)
      rw [Nat.pow_succ, Nat.mul_comm (6 ^ j) 6, ← Nat.mul_assoc]
      exact Nat.mul_le_mul_right _ s
theorem eu_end {g m n a b : Nat} (h : Eu g m (2 * n + 2) a b) (hm : m ≤ n) : False := by
  rcases h.pot with ⟨h0, _⟩ | ⟨j, hj, _⟩ | ⟨j, hj, _, ha, p⟩
  · omega
  · omega
  · have e : j = n := by omega
    subst e
    have h1 : 1 * 6 ^ m ≤ (a + b) * a * 6 ^ j := Nat.mul_le_mul (Nat.mul_pos (by omega) ha) (Nat.pow_le_pow_right (by decide) hm)
    omega
open NdefX (NScope ncx startF CellsAt inv_startN)
open ClX (pin_new pin_at base_none unpinE)

/-! ### own classes and errors: rules that the layer lacks -/
section
variable {X : Cx}
/-- a field's read, its K by another name -/
theorem pe_fldK {K : PySem.W.Frag} {e : Expr} {f : Str} {pos : Pos} {ta : TE} (he : PE X e ta) (hb : attributeBase e f X.env (eval e X.env) = eval e X.env) (hK : X.K = K := by rfl) : PE X (.Attribute e f pos) (tFld K ta f) := by
  subst hK
  exact pe_fld he hb
/-- floor division by a divisor of either sign -/
def CDivWN (_ j : Int) : Prop := j ≠ 0 ∧ j.natAbs.log2 < 9000
theorem op_fdivWN : OpR X (binaryOp .FloorDiv) (rI CDivWN fun i j => .int (i.fdiv j)) := opI fun _ _ _ _ _ _ _ c k => floordiv_int c.1 k (.inl (PyProof.noPylong_of_log2 c.2))
/-- a new instance whose __init__ may let an error out, wished for at the slots that stand -/
theorem made_at {CX : CXT} {n : Nat} {g D : Addr} {gd : FuncData} {qs : List Str} {pr : Sp} {Ex : L2.St → XK} {us0 : List Value} {vs0 : List V} {pn : List (Addr × Obj)} {τ : L2.St} {H0 : Hp} {st : Shared} {W : VK} {as : List Value} {xs : List V}
    (MK : Mk X.K D g) (OK : FnOk X.prog X.w X.K X.mg X.base CX n g gd qs pr) (room : Room (n + 1) X.A) (bd : Binds X.K gd qs us0) (dv : Vals vs0 us0) (out : PassesAt CX X τ (Ex τ)) (J : Inv X pn τ H0 st) (rel : Vals xs as)
    (go : ∀ p q, H0 p = none → H0 q = none → q ≠ p → pr (.ref p :: (xs ++ vs0)) (upd (upd H0 q (.own p)) p (.ins D q [])) (fun v H2 => v = .non ∧ W (.ref p) H2) (Ex τ)) :
    wpAny (model X.prog X.w) X.A (call (.ref D) as) (EP X pn τ W) X.xe st := by
  have new1 := J.hok.fresh (Nat.le_succ st.heap.objs.size)
  have new2 := J.hok.fresh (Nat.le_refl st.heap.objs.size)
  have asked := go _ _ new1 new2 (Nat.ne_of_lt (Nat.lt_succ_self _))
  have J2 := Inv.made (C := D) J
  have rel2 : Vals (V.ref (st.heap.objs.size + 1) :: (xs ++ vs0)) (Value.ref (st.heap.objs.size + 1) :: (as ++ us0)) :=
    .cons rfl (rel.append dv)
  have len2 : (Value.ref (st.heap.objs.size + 1) :: as ++ us0).length = qs.length := (rel2.length.symm).trans (OK.len _ _ _ _ asked)
  have env2 := J2.env0.make D as []
  have bound := bd _ (Value.ref (st.heap.objs.size + 1) :: as) J2.kIn len2
  have ran := OK.run _ X.stack _ _ _ _ _ _ (Ex τ) (room.make D as []) env2 bound rel2 asked
  refine wpAny_call (make_map (f := g) J.kIn MK.makes MK.init (beq_iff_eq.mp MK.fn) (codeAny_mono ran ?_))
  rintro (e | fl) s' back
  · exact out pn _ _ e s' J2 back
  · cases fl with
    | ret u =>
      obtain ⟨v, H', J3, rv, rfl, w3⟩ := J2.after back
      exact ⟨rv, V.ref (st.heap.objs.size + 1), _, J3, rfl, w3⟩
    | next => exact back.elim
    | brk => exact back.elim
    | cont => exact back.elim
def tMakeS (D : Addr) (pr : Sp) (vs0 : List V) (Ex : L2.St → XK) (t : TA) : TE := fun τ H Q => t τ H fun xs H1 => ∀ p q, H1 p = none → H1 q = none → q ≠ p →
  pr (.ref p :: (xs ++ vs0)) (upd (upd H1 q (.own p)) p (.ins D q [])) (fun v H2 => v = .non ∧ Q (.ref p) H2) (Ex τ)
theorem pe_makeS {CX : CXT} {n : Nat} {g D : Addr} {gd : FuncData} {qs : List Str} {pr : Sp} {Ex : L2.St → XK} {us0 : List Value} {vs0 : List V} {x : Str} {p pos : Pos} {e : Expr} {es : List Expr} {t : TA}
    (MK : Mk X.K D g) (OK : FnOk X.prog X.w X.K X.mg X.base CX n g gd qs pr) (room : Room (n + 1) X.A) (gl : Gl X x) (at_ : X.mg x = some (.ref D)) (bd : Binds X.K gd qs us0) (dv : Vals vs0 us0) (out : ∀ τ, PassesAt CX X τ (Ex τ)) (args : PA X (e :: es) t)
    (plain : (x == ("__debug__" : Str)) = false := by decide) (first : starEach (e :: es) X.env = (false, eval e X.env) :: starEach es X.env := by rfl) (noStar : (backTo pos (starEach es X.env)).any (·.1) = false := by rfl) :
    PE X (.Call (.Name x p) (e :: es) [] pos) (tMakeS D pr vs0 Ex t) :=
  ⟨fun pn s τ H Q J h => wpAny_Call_Name_kw (ld_glob J gl at_ (PySem.W.callWith_K (h₀ := X.base) J.ok.mod.kin MK.kp (thn (args.run pos pn s τ H _ J h) fun _ _ ⟨_, _, J1, rel, go⟩ => ⟨J1.kIn, made_at MK OK room bd dv (out τ) J1 rel go⟩) first noStar) plain)⟩
/-- isinstance(e, c) in a suite, e the error that it holds (of an own class at D, without a dict of its own) -/
def rIsX (K : PySem.W.Frag) (a : Addr) (cls : Value) (d : Option Addr) : List V → Hp → VK → Prop := fun xs H Q => ∃ D : Addr, ExcC K D ∧ cls = .ref D ∧ d = none ∧ rIsE K D a xs H Q
theorem call_isX {K : PySem.W.Frag} {a : Addr} {cls : Value} {d : Option Addr} {oe : Obj} {pn : List (Addr × Obj)} (hz : Zc cls d oe) (hf : ∃ vs, oe.data = .fields vs) (hK : X.K = K := by rfl) :
    CallR (X.suite a ((a, oe) :: pn)) (.builtin "isinstance") (rIsX K a cls d) := by
  intro pins s σ H xs us Q I r h
  subst hK
  obtain ⟨D, ec, rfl, rfl, h⟩ := h
  exact call_isE ec hz hf pins s σ H xs us Q I r h
end
theorem lk_one {k : Str} {v : V} {r : List (Str × V)} : List.lookup k ((k, v) :: r) = some v := by
  simp [List.lookup]
theorem lk_two {k g : Str} {v : V} {r : List (Str × V)} (h : (k == g) = false) : List.lookup k ((g, v) :: r) = List.lookup k r := by
  simp only [List.lookup, h]

/-! ### super().__init__(e, ..) as a method's first statement -/
theorem inst_of' {X : Cx} {pins : List (Addr × Obj)} {σ : L2.St} {H : Hp} {s : Shared} {a C dx : Addr} {fs : List (Str × V)} (I : Inv X pins σ H s) (e : H a = some (.ins C dx fs)) :
    s.heap.get? a = some (PySem.W.instObj C dx) ∧ ∃ od, PySem.W.InstAt s.heap a (PySem.W.instObj C dx) C (some od) := by
  obtain ⟨mA, O, _⟩ := ins_get I.hok e
  obtain ⟨od, J, _⟩ := O.look
  exact ⟨O.obj, od, J⟩
/-- what the top has written of a class D above which super() looks, for an instance of the class C: the function g at the name -/
structure SupC (K : PySem.W.Frag) (mg : Str → Option Value) (C D cc cda g : Addr) (file : Str) : Prop where
  isD : ∃ cd, PySem.W.clsIn K D = some cd
  sub : PySem.W.mroIn K C (.ref D) = some true
  cell : ∃ cl cld csl, K.lookup cc = some ⟨cl, cld, .cell (some (.ref D)), csl⟩
  code : ∃ ccl cdd vs ccs tf, K.lookup cda = some ⟨ccl, cdd, .fields vs, ccs⟩ ∧ vs[2]? = some (.str file tf)
  sup : PySem.W.ks_superIn K C D "__init__" = some (some (.ref g))
  tg : PySem.W.typeIn K (.ref g) = some (.type "function")
  fg : PySem.W.fnIn K g = true
  opq : PySem.W.nsIn K cStatics "thirdparty.any" = some none
  nosup : mg "super" = none
section
variable {CX : CXT} {P : Program} {w : World} {K : PySem.W.Frag} {mg : Str → Option Value} {base : Heap} {k j : Nat} {f g cc cda C D : Addr} {name qual : Str} {params : Arguments} {scope : Scope} {dV kV doc pm ct oc : Value} {an od : Option Addr}
  {osl : Array (Option Value)} {N ps qs : List Str} {sp si : Sp} {gd : FuncData} {e : Expr} {es : List Expr} {rest : List Stmt} {p0 p1 p2 p3 p4 : Pos} {ar : Arg} {pl : Sem Bool}
abbrev supSt (p0 p1 p2 p3 p4 : Pos) (es : List Expr) : Stmt := .Expr (.Call (.Attribute (.Call (.Name "super" p0) [] [] p1) "__init__" p2) es [] p3) p4
theorem fn_super {file : Str} (lk : K.lookup f = some ⟨oc, od, .func (PySem.W.ksFn name qual params (supSt p0 p1 p2 p3 p4 (e :: es) :: rest) scope dV kV doc pm an (.ref cda) ct cc), osl⟩) (hcd : PySem.W.codeIn K (.ref cda) qual = true) (S : NScope N ps ["__class__"] scope)
    (SC : SupC K mg C D cc cda g file) (hfile : ((P.main.file : Str) == file) = true) (htop : (P.main.scope.names.lookup ("super" : Str)).isSome = false) (hpar : (params.posonlyargs ++ params.args).head? = some ar) (hN : N[0]? = some ar.arg) (hka : scope.names.lookup ar.arg = some .local)
    (hks : scope.names.lookup ("super" : Str) = some .globalImplicit) (hkc : scope.names.lookup ("__class__" : Str) = some .free)
    (len : ∀ vs H Q E, sp vs H Q E → vs.length = ps.length) (G : FnOk P w K mg base CX j g gd qs si) (bd : Binds K gd qs []) (hj : j ≤ k)
    (hi : ∀ L, interactive (PySem.W.ksEnv qual scope L f (.ref cda) cc) = false)
    (hsw : ∀ L, swapsWith (.Call (.Attribute (.Call (.Name "super" p0) [] [] p1) "__init__" p2) (e :: es) [] p3) none p4.line (PySem.W.ksEnv qual scope L f (.ref cda) cc) = pure false)
    (hev : ∀ L, eval (.Call (.Attribute (.Call (.Name "super" p0) [] [] p1) "__init__" p2) (e :: es) [] p3) (PySem.W.ksEnv qual scope L f (.ref cda) cc) = (do
      let ov ← attributeBase (.Call (.Name "super" p0) [] [] p1) "__init__" (PySem.W.ksEnv qual scope L f (.ref cda) cc) (eval (.Call (.Name "super" p0) [] [] p1) (PySem.W.ksEnv qual scope L f (.ref cda) cc))
      standAt p2.atName
      let (f', first) ← holding [ov] (getMethod ov "__init__" pl)
      callWith p3 f' first (backTo p3 (starEach (e :: es) (PySem.W.ksEnv qual scope L f (.ref cda) cc))) []))
    (hst : ∀ L, starEach (e :: es) (PySem.W.ksEnv qual scope L f (.ref cda) cc) = (false, eval e (PySem.W.ksEnv qual scope L f (.ref cda) cc)) :: starEach es (PySem.W.ksEnv qual scope L f (.ref cda) cc))
    (hpl : ∀ L, (backTo p3 (starEach es (PySem.W.ksEnv qual scope L f (.ref cda) cc))).any (·.1) = false)
    (hbody : ∀ (A : Around) (outer : List Env) (s : Shared) (H : Hp) (vs : List V) (Q : VK) (E : XK), Room k (A.deeper (PySem.W.ksEnv qual scope s.heap.objs.size f (.ref cda) cc)) → sp vs H Q E →
      ∃ (ta : TA) (tr : TS) (a dx : Addr) (fs : List (Str × V)) (us0 : List V) (Ei : XK),
        PA (ncx CX P w K mg base N ⟨name, qual, params, supSt p0 p1 p2 p3 p4 (e :: es) :: rest, scope, [("__class__", cc)], cda⟩ f A outer s H E) (e :: es) ta ∧
        PSs (ncx CX P w K mg base N ⟨name, qual, params, supSt p0 p1 p2 p3 p4 (e :: es) :: rest, scope, [("__class__", cc)], cda⟩ f A outer s H E) rest tr ∧
        Passes CX (ncx CX P w K mg base N ⟨name, qual, params, supSt p0 p1 p2 p3 p4 (e :: es) :: rest, scope, [("__class__", cc)], cda⟩ f A outer s H E) Ei ∧ vs = .ref a :: us0 ∧ H a = some (.ins C dx fs) ∧
        ta (startF N vs [none]) H (fun ws H1 => si (.ref a :: ws) H1 (fun _ H2 => tr { nx := fun _ H' => Q .non H', rt := Q } (startF N vs [none]) H2) Ei)) :
    FnOk P w K mg base CX (k + 1) f (PySem.W.ksFn name qual params (supSt p0 p1 p2 p3 p4 (e :: es) :: rest) scope dV kV doc pm an (.ref cda) ct cc) ps sp := by
  refine ⟨len, fun A outer s H args us vs Q E hr e0 hb r asked => ?_⟩
  have hl := len _ _ _ _ asked
  have kb : ∀ b o, base.get? b = some o → s.heap.get? b = some o := fun b o z => (e0.bs b o z).1
  have KX : K.In s.heap := e0.mod.kin.keeps kb
  have lim : s.heap.NoLimit := e0.mod.nolimit.keeps kb
  obtain ⟨cl, cld, csl, hcell⟩ := SC.cell
  obtain ⟨ccl, cdd, fv, ccs, tf, hcode, hfv⟩ := SC.code
  obtain ⟨cdD, hD⟩ := SC.isD
  have C0 : CellsAt [("__class__", cc)] ["__class__"] [none] s.heap H := by
    refine ⟨rfl, fun y c z => ?_, fun y z c h1 h2 => ?_, fun i y z => ?_⟩
    · have hc : c = cc := by
        simp only [List.lookup] at z
        split at z
        · exact (Option.some.inj z).symm
        · cases z
      subst hc
      exact ⟨(e0.bs _ _ (e0.mod.kin _ _ hcell)).2, _, _, KX _ _ hcell, rfl⟩
    · have one : ∀ {t : Str}, [(("__class__" : Str), cc)].lookup t = some c → t = "__class__" := fun {t} h => by
        simp only [List.lookup] at h
        split at h
        · exact beq_iff_eq.mp (by assumption)
        · cases h
      rw [one h1, one h2]
    · have hy : y = "__class__" := by
        cases i with
        | zero => simpa using z.symm
        | succ n => simp at z
      subst hy
      exact ⟨cc, rfl, fun v h => by cases i <;> simp at h⟩
  refine ks_codeAny_call_defAt (fd := PySem.W.ksFn name qual params (supSt p0 p1 p2 p3 p4 (e :: es) :: rest) scope dV kV doc pm an (.ref cda) ct cc) (body := supSt p0 p1 p2 p3 p4 (e :: es) :: rest) (binds := ps.zip us) hr.depth (KX _ _ lk) rfl lim (PySem.W.codeRec_of KX hcd) rfl hb S.nocell (fun ⟨n, _⟩ hy => S.par n (List.of_mem_zip hy).1) (fun h₁ hns kp => ?_) S.co S.gen S.kind
  obtain ⟨ta, tr, a, dx, fs, us0, Ei, hpa, hps, hpass, ev, ha, hq⟩ := hbody A outer s H vs Q E (hr.deeper _) asked
  subst ev
  have I : Inv (ncx CX P w K mg base N ⟨name, qual, params, supSt p0 p1 p2 p3 p4 (e :: es) :: rest, scope, [("__class__", cc)], cda⟩ f A outer s H E) [] (startF N (.ref a :: us0) [none]) H { s with heap := h₁, toks := s.toks + (ps.zip us).length } := inv_startN (F := ⟨name, qual, params, supSt p0 p1 p2 p3 p4 (e :: es) :: rest, scope, [("__class__", cc)], cda⟩) S hr.hd e0 hl r C0 hns kp
  generalize hX : ncx CX P w K mg base N ⟨name, qual, params, supSt p0 p1 p2 p3 p4 (e :: es) :: rest, scope, [("__class__", cc)], cda⟩ f A outer s H E = X at I hpa hps hpass
  have hXr := hX
  subst hX
  have rm := hr.deeper (PySem.W.ksEnv qual scope s.heap.objs.size f (.ref cda) cc)
  show PySem.wpAt (model P w) (A.deeper (PySem.W.ksEnv qual scope s.heap.objs.size f (.ref cda) cc)) (.func (supSt p0 p1 p2 p3 p4 (e :: es) :: rest) (PySem.W.ksEnv qual scope s.heap.objs.size f (.ref cda) cc)) (execs (supSt p0 p1 p2 p3 p4 (e :: es) :: rest) (PySem.W.ksEnv qual scope s.heap.objs.size f (.ref cda) cc)) _ _ _
  refine ks_wpAt_execs_cons (ks_wpAt_Expr_any (ks_wpAt_MethodCall (pl := pl) ?_ (hev _)) (hi _) (hsw _))
  have KI := I.kIn
  refine ks_wpAt_super_base (env := PySem.W.ksEnv qual scope s.heap.objs.size f (.ref cda) cc) hks hkc (by decide) rfl (KI _ _ lk) rfl hpar rfl (KI _ _ hcode) rfl hfv hfile htop ?_
  obtain ⟨mb, hb1, hb2⟩ := I.mod.blt
  refine PySem.W.ks_loadName_global S.kind hks (Calls.loadGlobal_builtin (env := PySem.W.ksEnv qual scope s.heap.objs.size f (.ref cda) cc) (I.mod.glob.keeps I.bk) SC.nosup (hb1.keeps I.bk) ((hb2 "super" (by decide)).trans (by rfl)) ⟨rfl, ?_⟩)
  refine wpAny_loadName_free S.kind hkc rfl ⟨_, KI _ _ hcell, rfl⟩ ?_
  obtain ⟨m, hn, hl'⟩ := I.loc
  obtain ⟨u, ru, lku⟩ := hl' 0 ar.arg (.ref a) hN rfl (.inl hka)
  cases (show u = Value.ref a from ru)
  have hmu : m ar.arg = some (.ref a) := by
    rcases lku with ⟨_, z⟩ | ⟨z, _⟩
    · exact z
    · have hk' : scope.names.lookup ar.arg = some .cell ∨ scope.names.lookup ar.arg = some .free := z
      rw [hka] at hk'
      rcases hk' with z | z <;> cases z
  refine wpAny_loadName_local S.kind hka hn hmu ?_
  obtain ⟨oD, hD1, hD2⟩ : ∃ oD, h₁.get? D = some oD ∧ oD.data = .cls cdD := by
    unfold PySem.W.clsIn at hD
    split at hD
    · rename_i c d cd' sl ho
      cases hD
      exact ⟨_, KI _ _ ho, rfl⟩
    · cases hD
  refine ks_wpAny_isType_cls hD1 hD2 (And.intro rfl ?_)
  obtain ⟨hoa, oda, J⟩ := inst_of' I ha
  refine ks_wpAny_call_super hD1 hD2 J.at_ J.cls (fun c z => ?_) (PySem.W.looks_mroIn KI SC.sub) (fun h2 e2 k2 => ?_)
  · have := J.no
    unfold PySem.W.notCls at this
    rw [z] at this
    exact Bool.noConfusion this
  have I2 := I.kept (h' := h2) (t' := s.toks + (ps.zip us).length) k2
  have K2 := I2.kIn
  obtain ⟨hoa2, oda2, J2⟩ := inst_of' I2 ha
  have sup := SC.sup
  unfold PySem.W.ks_superIn at sup
  cases hc : PySem.W.clsIn K C with
  | none => rw [hc] at sup; cases sup
  | some cdC =>
  rw [hc] at sup
  obtain ⟨og, hog, hogc⟩ : ∃ og, h2.get? g = some og ∧ og.cls = .type "function" := by
    have ht' : (K.lookup g).map (·.cls) = some (.type "function") := SC.tg
    cases z : K.lookup g with
    | none =>
      rw [z] at ht'
      cases ht'
    | some og =>
      rw [z] at ht'
      exact ⟨og, K2 _ _ z, Option.some.inj ht'⟩
  refine ks_wpAny_getMethod_super e2 (PySem.W.looks_opaque K2 SC.opq) (l₀ := cdC.mro) (fun A Q E s k q => wpAny_bind ((PySem.W.looks_clsIn K2 hc) A _ E s k (wpAny_pure q))) rfl K2 sup hog hogc (PySem.W.ks_ne K2 J2 hc) (by decide) ?_
  have I3 : Inv (ncx CX P w K mg base N ⟨name, qual, params, supSt p0 p1 p2 p3 p4 (e :: es) :: rest, scope, [("__class__", cc)], cda⟩ f A outer s H E) [(h2.objs.size, PySem.W.methodObj (.ref g) (.ref a))] (startF N (.ref a :: us0) [none]) H ⟨h2.push (PySem.W.methodObj (.ref g) (.ref a)), s.gens, s.drawn, s.toks + (ps.zip us).length + 1, s.os⟩ :=
    pin_new (s := ⟨h2, s.gens, s.drawn, s.toks + (ps.zip us).length, s.os⟩) I2 (fun _ _ z => Heap.get?_push_of_some _ z) (Nat.le_refl _) (Heap.get?_push_size h2 rfl) (fun v z => nomatch z)
  have hbq : base.get? h2.objs.size = none := base_none I2 (Nat.le_refl _)
  have hL : h2.objs.size ≠ s.heap.objs.size := (I3.pin (h2.objs.size, PySem.W.methodObj (.ref g) (.ref a)) (List.mem_append_right _ List.mem_cons_self)).2.2.1
  refine PySem.W.callWith_M (K := K) (h₀ := base) (first := []) e0.mod.kin (news_at hL hbq (pin_at I3)) List.mem_cons_self SC.fg ?_ (hst _) (hpl _)
  refine wpAny_mono (hpa.run p3 _ _ _ H _ I3 hq) (fun ws s4 h4 => ?_) fun _ _ z => z
  obtain ⟨vs4, H4, I4, r4, q4⟩ := h4
  refine ⟨⟨pin_at I4, I4.kIn⟩, ?_⟩
  have lenq : (Value.ref a :: ws).length = qs.length := by
    have z := G.len _ _ _ _ q4
    rw [← z, List.length_cons, List.length_cons, r4.length]
  have bound := bd s4 (Value.ref a :: ws) I4.kIn (by rw [List.append_nil]; exact lenq)
  rw [List.append_nil] at bound
  have rm' : Room k (A.deeper (PySem.W.ksEnv qual scope s.heap.objs.size f (.ref cda) cc)) := hr.deeper _
  refine wpAny_mono (Q := fun u s' => EP (ncx CX P w K mg base N ⟨name, qual, params, supSt p0 p1 p2 p3 p4 (e :: es) :: rest, scope, [("__class__", cc)], cda⟩ f A outer s H E) [(h2.objs.size, PySem.W.methodObj (.ref g) (.ref a))] (startF N (.ref a :: us0) [none]) (fun _ H2 => tr { nx := fun _ H' => Q .non H', rt := Q } (startF N (.ref a :: us0) [none]) H2) u s')
    (wpAny_call (PySem.W.method_call (pin_at I4) (codeAny_mono (G.run _ _ s4 H4 ⟨Value.ref a :: ws, []⟩ (Value.ref a :: ws) (.ref a :: vs4) _ Ei (rm'.mono hj) I4.env0 bound (.cons rfl r4) q4) fun rr s' back => ?_))) (fun u s5 h5 => ?_) fun _ _ z => z
  · cases rr with
    | error er => exact hpass _ _ _ _ er s' I4 back
    | ok fl =>
      cases fl with
      | ret u => exact I4.after back
      | next => exact back.elim
      | brk => exact back.elim
      | cont => exact back.elim
  · obtain ⟨v5, H5, I5, _, q5⟩ := unpinE h5
    refine PySem.wpAt_of_wpAny ?_
    refine wpAny_mono (hps.run [] _ _ H5 _ I5 q5) (fun fl s' hs => ?_) fun er s' hs => hs
    have last : ∀ {τ : L2.St} {G' : Hp} {x : V} {y : Value}, Inv (ncx CX P w K mg base N ⟨name, qual, params, supSt p0 p1 p2 p3 p4 (e :: es) :: rest, scope, [("__class__", cc)], cda⟩ f A outer s H E) [] τ G' s' → L2.RelV x y → Q x G' → CE outer P w H s Q y s' :=
      fun {_ G' x _} Z rel z => ⟨x, G', Z.os, Z.bare, Z.base, Z.hok, rel, z⟩
    cases fl with
    | next =>
      obtain ⟨_, _, Z, z⟩ := hs
      exact last (x := V.non) (y := Value.none) Z rfl z
    | ret y =>
      obtain ⟨_, _, _, Z, rel, z⟩ := hs
      exact last Z rel z
    | brk => exact hs.elim fun _ ⟨_, _, z⟩ => z.elim
    | cont => exact hs.elim fun _ ⟨_, _, z⟩ => z.elim
end
/-- such a method as the top has written it: cc the cell of its class, cda its code -/
def FunS (K : PySem.W.Frag) (name qual : Str) (st : Stmt) (cc cda f : Addr) (fd : FuncData) : Prop :=
  (∃ (oc : Value) (od : Option Addr) (kV doc pm : Value) (an : Option Addr) (ct : Value) (osl : Array (Option Value)), fd = PySem.W.ksFn name qual (defArgs st) (defBody st) (defScope st) .none kV doc pm an (.ref cda) ct cc ∧
    K.lookup f = some ⟨oc, od, .func fd, osl⟩ ∧ PySem.W.codeIn K (.ref cda) qual = true) ∧ PySem.W.keepIn K (.ref f) = true
theorem FunS.binds {K : PySem.W.Frag} {name qual : Str} {st : Stmt} {cc cda f : Addr} {fd : FuncData} {ps : List Str} (F : FunS K name qual st cc cda f fd)
    (h : ∀ (kV doc pm : Value) (an : Option Addr) (ct : Value) (us : List Value), us.length = ps.length → bindArgs (PySem.W.ksFn name qual (defArgs st) (defBody st) (defScope st) .none kV doc pm an (.ref cda) ct cc) ⟨us, []⟩ = pure (ps.zip us)) : Binds K fd ps [] := by
  obtain ⟨⟨oc, od, kV, doc, pm, an, ct, osl, rfl, _, _⟩, _⟩ := F
  exact .all (h kV doc pm an ct)

/-! ### isinstance of a caught error, with or without fields -/
section
variable {X : Cx}
def rIsY (K : PySem.W.Frag) (a : Addr) (cls : Value) (d : Option Addr) : List V → Hp → VK → Prop := fun xs H Q => ∃ D : Addr, ExcC K D ∧ cls = .ref D ∧ (d = none ∨ ∃ dd fs, d = some dd ∧ H dd = some (.xd fs)) ∧ rIsE K D a xs H Q
theorem call_isY {K : PySem.W.Frag} {a : Addr} {cls : Value} {d : Option Addr} {oe : Obj} {pn : List (Addr × Obj)} (hz : Zc cls d oe) (hf : ∃ vs, oe.data = .fields vs) (hK : X.K = K := by rfl) :
    CallR (X.suite a ((a, oe) :: pn)) (.builtin "isinstance") (rIsY K a cls d) := by
  intro pins s σ H xs us Q I r h
  subst hK
  obtain ⟨D, ec, rfl, hd, h⟩ := h
  rcases hd with rfl | ⟨dd, fs, rfl, hdd⟩
  · exact call_isE ec hz hf pins s σ H xs us Q I r h
  · obtain ⟨c, cv, b, rfl, same, known, q⟩ := h
    obtain ⟨w1, ws, rfl, r1, rs⟩ : ∃ w1 ws, us = w1 :: ws ∧ RelV (.ref a) w1 ∧ Vals [c] ws := by
      cases r with
      | cons p t => exact ⟨_, _, rfl, p, t⟩
    obtain ⟨w2, rfl, r2⟩ : ∃ w2, ws = [w2] ∧ RelV c w2 := by
      cases rs with
      | cons p t =>
        cases t
        exact ⟨_, rfl, p⟩
    cases (show w1 = Value.ref a from r1)
    cases same _ r2
    obtain ⟨there, _⟩ := I.pin (a, oe) (List.mem_append.mpr (.inl List.mem_cons_self))
    obtain ⟨vs, hv⟩ := hf
    obtain ⟨mA, ns, _⟩ := (show ObjOk X.prog X.w H s.heap dd (.xd fs) from I.hok dd _ hdd)
    obtain ⟨od, ho, _⟩ := lookIn_ns ns
    have J : PySem.W.InstAt s.heap a oe D (some od) := ⟨there, hz.1, by unfold PySem.W.notCls; rw [hv] <;> rfl, by rw [hz.2]; exact ho⟩
    have cl : (PySem.W.clsIn X.K D).isSome = true := by
      obtain ⟨cd, hc, _⟩ := PySem.W.any_some ec.hd
      rw [hc]
      rfl
    exact PySem.W.kia_one (PySem.W.kitx_exc cl ec.hg ec.hk ec.hs ec.ha ec.hn ec.ht ec.hm) I.kIn J known (fun z => nomatch z) fun tk => ⟨.bl b, H, I.kept (t' := tk) fun _ _ z => z, rfl, q⟩
end

/-! ### try with several «except C as n» -/
/-- what the clauses wish of an error, one after the other: class, the name's slot, the suite's reading -/
def wAsM (K : PySem.W.Frag) (out : WX) (D : Ends) : List (Value × Nat × (Addr → Value → Option Addr → TS)) → WX
  | [] => out
  | (c, i, t) :: more => fun cls d σ H => ∃ b, PySem.W.exmOne K cls c = some b ∧
      (b = true → ∀ a, H a = none → t a cls d { nx := fun σ' H' => D.nx (σ'.set i none) H', rt := D.rt, bk := fun σ' H' => D.bk (σ'.set i none) H', ct := fun σ' H' => D.ct (σ'.set i none) H' } (σ.set i (some (.ref a))) H) ∧
      (b = false → wAsM K out D more cls d σ H)
inductive ClausesOk (X : Cx) : List ExceptHandler → List (Value × Nat × (Addr → Value → Option Addr → TS)) → Prop
  | nil : ClausesOk X [] []
  | cons {x n : Str} {c : Value} {i : Nat} {t : Addr → Value → Option Addr → TS} {st : Stmt} {sts : List Stmt} {q q' : Pos} {hs : List ExceptHandler} {ls : List (Value × Nat × (Addr → Value → Option Addr → TS))} (known : Names X x c) (slot : X.N[i]? = some n)
      (lo : X.env.kindOf n = some .local) (suite : ∀ (a : Addr) (oe : Obj) (cls : Value) (d : Option Addr) (pn : List (Addr × Obj)), Zc cls d oe → (∃ vs, oe.data = .fields vs) → PSs (X.suite a ((a, oe) :: pn)) (st :: sts) (t a cls d))
      (more : ClausesOk X hs ls) : ClausesOk X (.ExceptHandler (some (.Name x q)) (some n) (st :: sts) q' :: hs) ((c, i, t) :: ls)
  | bare {x : Str} {c : Value} {i : Nat} {t : Addr → Value → Option Addr → TS} {st : Stmt} {sts : List Stmt} {q q' : Pos} {hs : List ExceptHandler} {ls : List (Value × Nat × (Addr → Value → Option Addr → TS))} (known : Names X x c) (off : X.N.length ≤ i)
      (suite : ∀ (a : Addr) (oe : Obj) (cls : Value) (d : Option Addr) (pn : List (Addr × Obj)), Zc cls d oe → (∃ vs, oe.data = .fields vs) → PSs (X.suite a ((a, oe) :: pn)) (st :: sts) (t a cls d))
      (more : ClausesOk X hs ls) : ClausesOk X (.ExceptHandler (some (.Name x q)) none (st :: sts) q' :: hs) ((c, i, t) :: ls)
section
variable {X : Cx} {body : List Stmt} {h1 : ExceptHandler} {hs : List ExceptHandler} {ls : List (Value × Nat × (Addr → Value → Option Addr → TS))} {pos : Pos} {tb : WX → TS} {out : WX}
theorem ps_try_asM (st : X.stack = X.env :: X.outer) (fr : X.env.frame = some X.env.locals) (nd : X.N.Nodup) (tk : Takes X out)
    (runs : ∀ (W : WX) (pn : List (Addr × Obj)) (xe : Value → Shared → Prop), Takes (X.tr pn xe) W → PassesOwn (model X.prog X.w) X.A X.env xe → PSs (X.tr pn xe) body (tb W))
    (cl : ClausesOk X (h1 :: hs) ls) : PS X (.Try body (h1 :: hs) [] [] pos) (fun D σ H => tb (wAsM X.K out D ls) D σ H) := by
  refine ⟨fun pins s σ H D I want => ?_⟩
  have ok := I.ok
  have frames : X.A.frames = some (X.env :: X.outer) := by rw [ok.frames, st]
  refine wpAny_Try_except ?_
  refine wpAny_mono ((runs (wAsM X.K out D ls) (X.pn ++ pins) (fun u t1 => wpAny (model X.prog X.w) X.A (noteFrame u X.env) (fun _ t2 => wpAny (model X.prog X.w) X.A (setFlight u none)
    (fun _ t3 => wpAny (model X.prog X.w) X.A (handleBy u X.env (h1 :: hs)) (SP X pins D) X.xe t3) X.xe t2) X.xe t1) (fun u t0 flown => ?_) PassesOwn.looking).run [] s σ H D (I.toTry _) want) (fun f t0 done => ?_) (fun _ _ y => y)
  · obtain ⟨a, B, sI, pins1, σ1, H1, cls, d, rfl, J0, bare, kept, sky, fresh, osE, agree, wish⟩ := flown
    have J : Inv X pins σ1 H1 sI := J0.ofTry ok
    have sky1 : Sky B (X.env :: X.outer) a (Zc cls d) X.env.locals t0.heap := st ▸ sky
    show wpAny (model X.prog X.w) X.A (noteFrame (.ref a) X.env) _ X.xe t0
    refine Sky.land Zc.steady frames fr sky1 fun g fl up => ?_
    obtain ⟨oe, vs, atE, zE, dataE⟩ := fl.there
    have outF : a ∉ frs (X.env :: X.outer) := fun mem => by
      obtain ⟨_, o, here, no⟩ := fl.2.2.1.mem mem
      cases atE.symm.trans here
      exact no _ dataE
    have nL : a ≠ X.env.locals := fun z => outF (List.mem_filterMap.mpr ⟨X.env, List.mem_cons_self, by rw [fr, z]⟩)
    have nF : a ∉ X.fs := fun mem => outF (by
      obtain ⟨e, m1, m2⟩ := List.mem_filterMap.mp mem
      exact List.mem_filterMap.mpr ⟨e, List.mem_cons_of_mem _ m1, m2⟩)
    have J1 : Inv X pins σ1 H1 { t0 with heap := g } := J.landed bare fl.1 (kept.trans up) osE agree
    have S1 := J1.suite atE dataE fresh nL nF
    have go : ∀ {hh : List ExceptHandler} {ll : List (Value × Nat × (Addr → Value → Option Addr → TS))}, ClausesOk X hh ll → wAsM X.K out D ll cls d σ1 H1 → wpAny (model X.prog X.w) X.A (handleBy (.ref a) X.env hh) (SP X pins D) X.xe { t0 with heap := g } := by
      intro hh ll cc
      induction cc with
      | nil =>
        intro fly
        refine wpAny_handleBy_nil ?_
        obtain ⟨_, _, _, o, ws, T, oT, ts, g1, g2, g3, g4, _⟩ := id fl
        unfold PySem.passOn
        refine wpAny_bind (wpAny_field g1 g3 g4 ?_)
        rw [if_neg (by simp : ¬ ((Value.ref T == Value.none) = true))]
        have on : wpAny (model X.prog X.w) X.A (setFlight (.ref a) X.env.frame) (fun _ t4 => wpAny (model X.prog X.w) X.A (throw (.ref a) : Sem Flow) (SP X pins D) X.xe t4) X.xe { t0 with heap := g } := by
          rw [fr]
          exact HandSPX.setFlight_upZ fl fun g' sky' up' => wpAny_throw (tk _ _ ⟨a, B, sI, pins, σ1, H1, cls, d, rfl, J, bare, (kept.trans up).trans up', .inr (.inr (by rw [st]; exact sky')), fresh, osE, agree, fly⟩)
        first
          | exact wpAny_bind (wpAny_pure (wpAny_bind on))
          | exact wpAny_bind on
      | @cons x n c i t b₀ bs q q' hs' ls' known slot lo suite more ih =>
        intro w1
        obtain ⟨b, asked, yes, no⟩ := w1
        refine wpAny_handleBy_cons (codeAny_handlers_test ?_) (fun z => by cases z)
        have typ : PySem.W.Looks (model X.prog X.w) g (typeOf (.ref a)) cls := fun _ _ _ _ k z => wpAny_typeOf_ref (k _ _ atE) (by rw [zE.1]; exact z)
        have name : ∀ {Q : Value → Shared → Prop} {E : Value → Shared → Prop}, Q c { t0 with heap := g } → wpAny (model X.prog X.w) (X.A.mark (some (.ref a))) (eval (.Name x q) X.env) Q E { t0 with heap := g } := fun {Q E} z => by
          obtain ⟨k1, k2, k3 | ⟨k3, k4, k5⟩⟩ := known
          · exact ld_glob (X := X.suite a ((a, oe) :: (X.pn ++ pins))) S1 k1 k3 z k2
          · exact ld_blt (X := X.suite a ((a, oe) :: (X.pn ++ pins))) S1 k1 k3 k4 z k5 k2
        refine name ((PySem.W.exm_one (M := model X.prog X.w) J1.kIn typ asked).here ?_)
        cases b with
        | false => exact ih (no rfl)
        | true =>
          refine codeAny_handlers_suite_as (HandSPX.lands_againZ fl fun g' fl' up' => ?_)
          obtain ⟨oe', ws, atE', zE', dataE'⟩ := fl'.there
          have J2 : Inv X pins σ1 H1 { t0 with heap := g' } := J.landed bare fl'.1 ((kept.trans up).trans up') osE agree
          have S2 := J2.suite atE' dataE' fresh nL nF
          refine store_ok (X := X.suite a ((a, oe') :: (X.pn ++ pins))) (v := .ref a) S2 nd slot (.inl lo) rfl (fun t5 S5 => ?_) (.inr lo)
          refine wpAny_mono ((suite a oe' cls d (X.pn ++ pins) zE' ⟨_, dataE'⟩).run [] t5 _ H1 _ S5 (yes rfl a fresh)) (fun f t6 done => ?_) (fun _ _ z => z.elim)
          have gone : ∀ {σ6 : L2.St} {H6 : Hp} {Q : Shared → Prop}, Inv (X.suite a ((a, oe') :: (X.pn ++ pins))) [] σ6 H6 t6 → (∀ t7, Inv X pins (σ6.set i none) H6 t7 → Q t7) →
              wpAny (model X.prog X.w) X.A (do bindName X.env n .none; unbindBehindTheSuite X.env n q') (fun _ t7 => Q t7) X.xe t6 := fun S6 z => gone_ok (S6.unsuite ok) nd slot lo z
          cases f with
          | ret u =>
            obtain ⟨v6, σ6, H6, S6, r6, q6⟩ := done
            exact gone S6 fun _ J7 => ⟨_, _, _, J7, r6, q6⟩
          | next =>
            obtain ⟨_, _, S6, q6⟩ := done
            exact gone S6 fun _ J7 => ⟨_, _, J7, q6⟩
          | brk =>
            obtain ⟨_, _, S6, q6⟩ := done
            exact gone S6 fun _ J7 => ⟨_, _, J7, q6⟩
          | cont =>
            obtain ⟨_, _, S6, q6⟩ := done
            exact gone S6 fun _ J7 => ⟨_, _, J7, q6⟩
      | @bare x c i t b₀ bs q q' hs' ls' known off suite more ih =>
        intro w1
        obtain ⟨b, asked, yes, no⟩ := w1
        refine wpAny_handleBy_cons (codeAny_handlers_test ?_) (fun z => by cases z)
        have typ : PySem.W.Looks (model X.prog X.w) g (typeOf (.ref a)) cls := fun _ _ _ _ k z => wpAny_typeOf_ref (k _ _ atE) (by rw [zE.1]; exact z)
        have name : ∀ {Q : Value → Shared → Prop} {E : Value → Shared → Prop}, Q c { t0 with heap := g } → wpAny (model X.prog X.w) (X.A.mark (some (.ref a))) (eval (.Name x q) X.env) Q E { t0 with heap := g } := fun {Q E} z => by
          obtain ⟨k1, k2, k3 | ⟨k3, k4, k5⟩⟩ := known
          · exact ld_glob (X := X.suite a ((a, oe) :: (X.pn ++ pins))) S1 k1 k3 z k2
          · exact ld_blt (X := X.suite a ((a, oe) :: (X.pn ++ pins))) S1 k1 k3 k4 z k5 k2
        refine name ((PySem.W.exm_one (M := model X.prog X.w) J1.kIn typ asked).here ?_)
        cases b with
        | false => exact ih (no rfl)
        | true =>
          refine codeAny_handlers_suite (HandSPX.lands_againZ fl fun g' fl' up' => ?_)
          obtain ⟨oe', ws, atE', zE', dataE'⟩ := fl'.there
          have J2 : Inv X pins σ1 H1 { t0 with heap := g' } := J.landed bare fl'.1 ((kept.trans up).trans up') osE agree
          have S2 := J2.suite atE' dataE' fresh nL nF
          have w2 := yes rfl a fresh
          have l1 : σ1.length = X.N.length := J2.len
          rw [List.set_eq_of_length_le (by omega)] at w2
          refine wpAny_mono ((suite a oe' cls d (X.pn ++ pins) zE' ⟨_, dataE'⟩).run [] _ _ H1 _ S2 w2) (fun f t6 done => ?_) (fun _ _ z => z.elim)
          have off6 : ∀ {σ6 : L2.St} {H6 : Hp}, Inv (X.suite a ((a, oe') :: (X.pn ++ pins))) [] σ6 H6 t6 → σ6.set i none = σ6 := fun {σ6 _} S6 => by
            have l6 : σ6.length = X.N.length := S6.len
            exact List.set_eq_of_length_le (by omega)
          cases f with
          | ret u =>
            obtain ⟨v6, σ6, H6, S6, r6, q6⟩ := done
            exact ⟨_, _, _, S6.unsuite ok, r6, q6⟩
          | next =>
            obtain ⟨σ6, H6, S6, q6⟩ := done
            have q6 : D.nx (σ6.set i none) H6 := q6
            rw [off6 S6] at q6
            exact ⟨_, _, S6.unsuite ok, q6⟩
          | brk =>
            obtain ⟨σ6, H6, S6, q6⟩ := done
            have q6 : D.bk (σ6.set i none) H6 := q6
            rw [off6 S6] at q6
            exact ⟨_, _, S6.unsuite ok, q6⟩
          | cont =>
            obtain ⟨σ6, H6, S6, q6⟩ := done
            have q6 : D.ct (σ6.set i none) H6 := q6
            rw [off6 S6] at q6
            exact ⟨_, _, S6.unsuite ok, q6⟩
    exact go cl wish
  · cases f with
    | ret u =>
      obtain ⟨v, _, _, J1, r1, q1⟩ := done
      exact ⟨v, _, _, J1.ofTry ok, r1, q1⟩
    | next =>
      obtain ⟨_, _, J1, q1⟩ := done
      exact wpAny_execs_nil ⟨_, _, J1.ofTry ok, q1⟩
    | brk =>
      obtain ⟨_, _, J1, q1⟩ := done
      exact ⟨_, _, J1.ofTry ok, q1⟩
    | cont =>
      obtain ⟨_, _, J1, q1⟩ := done
      exact ⟨_, _, J1.ofTry ok, q1⟩
end

/-! ### errors of two fields -/
/-- the heap behind C(x, y), where __init__ stores both -/
def errH (H : Hp) (a C dx : Addr) (f g : Str) (x y : V) : Hp := upd (upd (upd H dx (exd dx [(f, x)])) a (exo a C (some dx))) dx (exd dx [(g, y), (f, x)])
theorem raise2 {C : Addr} {f g : Str} {x y : V} {H : Hp} {Q : XK} (hq : ∀ d, H d = none → Q (.ref C) (some d) (upd H d (.xd [(g, y), (f, x)]))) {a dx : Addr} (na : H a = none) (nd : upd H a (exo a C none) dx = none) (ne : dx ≠ a) :
    V.non = .non ∧ ∃ (d : Addr) (fs : List (Str × V)), errH (upd H a (exo a C none)) a C dx f g x y a = some (exo a C (some d)) ∧ errH (upd H a (exo a C none)) a C dx f g x y d = some (exd d fs) ∧ H d = none ∧
      Q (.ref C) (some d) (upd (del (errH (upd H a (exo a C none)) a C dx f g x y) a) d (.xd fs)) := by
  rw [upd_ne ne] at nd
  refine ⟨rfl, dx, _, ?_, upd_same, nd, ?_⟩
  · unfold errH
    rw [upd_ne (Ne.symm ne), upd_same]
  · have e : upd (del (errH (upd H a (exo a C none)) a C dx f g x y) a) dx (.xd [(g, y), (f, x)]) = upd H dx (.xd [(g, y), (f, x)]) := by
      funext b
      by_cases h1 : b = dx
      · rw [h1, upd_same, upd_same]
      · rw [upd_ne h1, upd_ne h1]
        by_cases h2 : b = a
        · rw [h2, del_same, na]
        · rw [del_ne h2]
          unfold errH
          rw [upd_ne h1, upd_ne h2, upd_ne h1, upd_ne h2]
    rw [e]
    exact hq dx nd
/-- the first weight below 1, from place i on -/
def badAt : List Int → Nat → Option Nat
  | [], _ => none
  | n :: r, i => if n < 1 then some i else badAt r (i + 1)

/-- the fields of a Weighted -/
def fW (m aside : Int) (t : Addr) : List (Str × V) := putF "aside" (.int aside) (putF "weights" (.ref t) (putF "many" (.int m) []))
/-- nothing but the object at p is another -/
def SameX (p : Addr) (H H' : Hp) : Prop := ∀ b o, b ≠ p → H b = some o → H' b = some o
theorem SameX.trans {p : Addr} {H H' H2 : Hp} (h : SameX p H H') (k : SameX p H' H2) : SameX p H H2 := fun b o n z => k b o n (h b o n z)
theorem SameX.new {p : Addr} {H : Hp} {a : Addr} {o : HO} (n : H a = none) : SameX p H (upd H a o) := fun b u _ z => (upd_ne (ne_of_none z n)).trans z
theorem SameX.put {p : Addr} {H : Hp} {o : HO} : SameX p H (upd H p o) := fun b u n z => (upd_ne n).trans z

/-- the first number below b, from place i on -/
def lowAt (b : Int) : List Int → Nat → Option Nat
  | [], _ => none
  | n :: r, i => if n < b then some i else lowAt b r (i + 1)
theorem low_bad : ∀ (ns : List Int) (i : Nat), lowAt 1 ns i = badAt ns i
  | [], _ => rfl
  | n :: r, i => by
    unfold lowAt badAt
    rw [low_bad r (i + 1)]

theorem same_sx {p : Addr} {H H' : Hp} (h : Same H H') : SameX p H H' := fun b o _ z => h b o z
theorem dp_ints {K : PySem.W.Frag} {H : Hp} {a : Addr} {ns : List Int} (h : SqL K H a (ns.map V.int)) : Dp K H (.ref a) (.list (ns.map PyData.int)) := by
  refine .lst h ?_
  clear h
  induction ns with
  | nil => exact .nil
  | cons n r ih => exact .cons (.int n) ih
theorem depthAll_ints : ∀ ns : List Int, PyData.depthAll (ns.map PyData.int) = 0
  | [] => rfl
  | n :: r => by
    show max (PyData.depth (.int n)) (PyData.depthAll (r.map PyData.int)) = 0
    rw [depthAll_ints r]
    rfl
theorem depth_ints (ns : List Int) : PyData.depth (.list (ns.map PyData.int)) = 1 := by
  show PyData.depthAll (ns.map PyData.int) + 1 = 1
  rw [depthAll_ints]
theorem lay_ints : ∀ ns : List Int, PyData.canLayAll0 (ns.map PyData.int) = true
  | [] => rfl
  | _ :: r => (Bool.true_and _).trans (lay_ints r)
/-- what is due for these weights and this number -/
inductive Due | many (m : Nat) | num (k : Nat) | aside | made
def dueW (ns : List Int) (aside : Int) : Due := if ns.length > 24 then .many ns.length else match badAt ns 0 with
  | some k => .num k
  | none => if aside < 1 then .aside else .made
def Due.due : Due → List V
  | .many m => [.str "many", .int m, .int 24]
  | .num k => [.str "number", .str "weights", .int k]
  | .aside => [.str "number", .str "aside", .non]
  | .made => [.str "made", .int 0, .int 0]
def Due.told : Due → List V
  | .many m => [.str "many", .int m, .int 24, .bl false]
  | .num k => [.str "number", .str "weights", .int k, .bl false]
  | .aside => [.str "number", .str "aside", .non, .bl false]
  | .made => []
theorem due_many {ns : List Int} {a : Int} (h : ns.length > 24) : dueW ns a = .many ns.length := if_pos h
theorem due_num {ns : List Int} {a : Int} {k : Nat} (h : ¬ ns.length > 24) (hb : badAt ns 0 = some k) : dueW ns a = .num k := by
  unfold dueW
  rw [if_neg h, hb]
theorem due_aside {ns : List Int} {a : Int} (h : ¬ ns.length > 24) (hb : badAt ns 0 = none) (ha : a < 1) : dueW ns a = .aside := by
  unfold dueW
  rw [if_neg h, hb]
  exact if_pos ha
theorem due_made {ns : List Int} {a : Int} (h : ¬ ns.length > 24) (hb : badAt ns 0 = none) (ha : ¬ a < 1) : dueW ns a = .made := by
  unfold dueW
  rw [if_neg h, hb]
  exact if_neg ha
theorem sameX_made {C x dx : Addr} {H H' : Hp} (nx : H x = none) (nd : H dx = none) (k : SameX x (upd (upd H dx (.own x)) x (.ins C dx [])) H') : Same H H' := fun b o e => by
  have h1 : b ≠ x := ne_of_none e nx
  have h2 : b ≠ dx := ne_of_none e nd
  exact k b o h1 (by rw [upd_ne h1, upd_ne h2]; exact e)
theorem fW_weights (m a : Int) (t : Addr) : (fW m a t).lookup ("weights" : Str) = some (V.ref t) := by rfl
theorem fW_aside (m a : Int) (t : Addr) : (fW m a t).lookup ("aside" : Str) = some (V.int a) := by rfl

/-! ### a Ratio in the heap -/
def rF (T B : Int) : List (Str × V) := [("top", .int T), ("bottom", .int B)]
def RatAt (C : Addr) (H : Hp) (p : Addr) (T B : Int) : Prop := ∃ dx, H p = some (.ins C dx (rF T B))
theorem rF_top (T B : Int) : (rF T B).lookup ("top" : Str) = some (.int T) := lk_one
theorem rF_bot (T B : Int) : (rF T B).lookup ("bottom" : Str) = some (.int B) := (lk_two (by decide +kernel)).trans lk_one
theorem rF_new (T B : Int) : putF "bottom" (.int B) (putF "top" (.int T) []) = rF T B := by
  show (if ("top" : Str) = "bottom" then _ else _) = _
  rw [if_neg (by decide +kernel)]
  rfl
theorem RatAt.same {C : Addr} {H H' : Hp} {p : Addr} {T B : Int} (s : Same H H') (h : RatAt C H p T B) : RatAt C H' p T B := by
  obtain ⟨dx, h⟩ := h
  exact ⟨dx, s _ _ h⟩
/-- not too long to divide by -/
def Sm (b : Int) : Prop := ∃ n, 0 < n ∧ n ≤ 8000 ∧ b.natAbs < 2 ^ n
theorem sm_of {b : Int} {n : Nat} (h : b.natAbs < 2 ^ n) (h0 : 0 < n := by decide) (hn : n ≤ 8000 := by decide) : Sm b := ⟨n, h0, hn, h⟩
theorem Sm.le {a b : Int} (h : Sm b) (hl : a.natAbs ≤ b.natAbs) : Sm a := by
  obtain ⟨n, h0, h1, h2⟩ := h
  exact ⟨n, h0, h1, Nat.lt_of_le_of_lt hl h2⟩
theorem Sm.log {a : Int} (h : Sm a) : a.natAbs.log2 < 8000 := by
  obtain ⟨n, h0, h1, h2⟩ := h
  exact Nat.lt_of_lt_of_le (PySem.Flt.log2_lt_of h0 h2) h1
theorem Sm.mul {a b : Int} (h : Sm a) (h' : Sm b) : CMulW a b := by
  have x := h.log
  have y := h'.log
  unfold CMulW
  omega
theorem rd_div {t b : Int} (h : b ≠ 0) (hs : Sm b) (i : Int) : CDivWN i (rd t b) := by
  refine ⟨rd_ne h, ?_⟩
  have h1 : (rd t b).natAbs ≤ b.natAbs := by
    rw [rd_abs]
    exact Nat.gcd_le_right _ (Int.natAbs_pos.mpr h)
  exact Nat.lt_of_lt_of_le (hs.le h1).log (by decide)

/-! ### numbers: a Ratio or an int -/
def NumAt (C : Addr) (H : Hp) (y : V) (T B : Int) : Prop := (∃ q, y = .ref q ∧ RatAt C H q T B) ∨ (y = .int T ∧ B = 1)
theorem RatAt.num {C : Addr} {H : Hp} {p : Addr} {T B : Int} (h : RatAt C H p T B) : NumAt C H (.ref p) T B := .inl ⟨p, rfl, h⟩
theorem NumAt.same {C : Addr} {H H' : Hp} {y : V} {T B : Int} (s : Same H H') (h : NumAt C H y T B) : NumAt C H' y T B := by
  rcases h with ⟨q, e, r⟩ | h
  · exact .inl ⟨q, e, r.same s⟩
  · exact .inr h
/-- what the operator rules ask of the second operand -/
theorem NumAt.arg {C : Addr} {H : Hp} {y : V} {T B : Int} (h : NumAt C H y T B) : (∃ b dy gs, y = .ref b ∧ H b = some (.ins C dy gs)) ∨ ∃ n, y = .int n := by
  rcases h with ⟨q, rfl, dx, e⟩ | ⟨rfl, _⟩
  · exact .inl ⟨q, dx, _, rfl, e⟩
  · exact .inr ⟨T, rfl⟩
theorem RatAt.self {C : Addr} {H : Hp} {p : Addr} {T B : Int} (h : RatAt C H p T B) : ∃ a dx fs, (V.ref p : V) = .ref a ∧ H a = some (.ins C dx fs) := by
  obtain ⟨dx, e⟩ := h
  exact ⟨p, dx, _, rfl, e⟩
theorem low_any {t b T B : Int} (hb : b ≠ 0) (pos : 0 < B) (cop : Nat.gcd T.natAbs B.natAbs = 1) (eq : T * b = t * B) : LowT t b T B := by
  have n : T.natAbs * b.natAbs = t.natAbs * B.natAbs := by
    rw [← Int.natAbs_mul, ← Int.natAbs_mul, eq]
  have d1 : B.natAbs ∣ b.natAbs := by
    have : B.natAbs ∣ T.natAbs * b.natAbs := n ▸ Nat.dvd_mul_left ..
    exact (Nat.Coprime.symm cop).dvd_of_dvd_mul_left this
  have d2 : T.natAbs ∣ t.natAbs := by
    have : T.natAbs ∣ t.natAbs * B.natAbs := n ▸ Nat.dvd_mul_right ..
    exact Nat.Coprime.dvd_of_dvd_mul_right cop this
  refine ⟨pos, eq, ?_, Nat.le_of_dvd (Int.natAbs_pos.mpr hb) d1, cop⟩
  rcases Nat.eq_zero_or_pos t.natAbs with z | z
  · rw [z, Nat.zero_mul] at n
    rcases Nat.mul_eq_zero.mp n with h | h
    · omega
    · exact absurd h (by have := Int.natAbs_pos.mpr hb; omega)
  · exact Nat.le_of_dvd z d2
theorem low_int (n : Int) : LowT n 1 n 1 := ⟨by decide, rfl, Nat.le_refl _, Nat.le_refl _, by simp⟩
theorem LowT.to {t b t' b' T B : Int} (h : LowT t b T B) (hb : b ≠ 0) (hb' : b' ≠ 0) (e : t * b' = t' * b) : LowT t' b' T B := by
  refine low_any hb' h.pos h.cop ?_
  have q := h.eq
  have : b * (T * b') = b * (t' * B) := by grind
  exact Int.eq_of_mul_eq_mul_left hb this
/-! ### operators of an own class -/
section
variable {prog : Program} {w : World} {A : Around} {E : Value → Shared → Prop} {s : Shared} {K : PySem.W.Frag}
/-- an int's own operator declines an instance -/
theorem declines_bin {id nm : String} {name : Str} {g : Int → Int → Sem Fin} {n : Int} {t : Tok} {a C dx : Addr} {Q : Value → Shared → Prop} (ha : s.heap.get? a = some (PySem.W.instObj C dx)) (slot : Slot "int" name id)
    (entry : entryFor table id = some (Builtin.Int.intBinary nm g)) (args : argsOk id ⟨[.int n t, .ref a], []⟩) (h : Q .notImplemented s) :
    wpAny (model prog w) A (call (.builtin id) [.int n t, .ref a]) Q E s := by
  refine GQ.call_here slot (by first | exact rfl | trivial) entry args ?_
  have e1 : slotArgs nm 1 ⟨[.int n t, .ref a], []⟩ = pure (.int n t, [.ref a]) := rfl
  have e2 : Builtin.Int.intOfSelf (.int n t) = pure n := rfl
  unfold Builtin.Int.intBinary
  rw [e1]
  refine wpAny_bind (wpAny_pure ?_)
  dsimp only
  rw [e2]
  refine wpAny_bind (wpAny_pure ?_)
  refine wpAny_bind ?_
  show wpAny (model prog w) A.in1 (asInt? (.ref a)) _ _ s
  unfold asInt?
  refine wpAny_bind (wpAny_load ha ?_)
  refine wpAny_pure ?_
  refine wpAny_bind (wpAny_rule ?_)
  exact wpAny_pure h
end
section
variable {prog : Program} {w : World} {A : Around} {E : Value → Shared → Prop} {s : Shared} {K : PySem.W.Frag}
/-- n op a: the int's own operator declines, then a's reflected one is asked -/
theorem bin_refl {op : Operator} {id nm : String} {g : Int → Int → Sem Fin} {n : Int} {t : Tok} {a C dx f : Addr} {od : Option Obj} {Q : Value → Shared → Prop} (X : K.In s.heap) (ha : s.heap.get? a = some (PySem.W.instObj C dx)) (J : PySem.W.InstAt s.heap a (PySem.W.instObj C dx) C od)
    (first : PySem.W.selfFirst K C = true) (slot : Slot "int" (dunder op.info.2) id) (entry : entryFor table id = some (Builtin.Int.intBinary nm g)) (args : argsOk id ⟨[.int n t, .ref a], []⟩)
    (fillI : fillsNumberSlot (.type "int") op.info.2 = pure true) {f0 : Addr} (own : PySem.W.findIn K (.ref C) (dunder op.info.2) = some (some (.ref f0))) (sub : PySem.W.subIn K (.ref C) (.type "int") = some false)
    (hr : PySem.W.findIn K (.ref C) (dunderR op.info.2) = some (some (.ref f))) (hf : PySem.W.isFn K (.ref f) = true)
    (h : wpAny (model prog w) A (call (.ref f) [.ref a, .int n t]) (PySem.W.CmpBack Q) E s) : wpAny (model prog w) A (binaryOp op (.int n t) (.ref a)) Q E s := by
  obtain ⟨cd, rest, hcd, hm⟩ := PySem.W.ksp_first first
  have back := PySem.W.ksp_try X J hr hf h
  rcases hi : op.info with ⟨sym, nm'⟩
  rw [hi] at slot fillI own hr back
  dsimp only at slot fillI own hr back
  have f1 : PySem.W.Looks (model prog w) s.heap (fillsNumberSlot (.ref C) nm') true := PySem.W.fills_K X hcd hm own
  have ne : (Value.type "int" == Value.ref C) = false := Bool.eq_false_iff.mpr fun z => by cases beq_iff_eq.mp z
  unfold binaryOp
  refine wpAny_holding ?_
  simp only [hi]
  refine wpAny_bind ?_
  unfold binaryOp1
  refine wpAny_bind (wpAny_typeOf (T := "int") (by exact rfl) (wpAny_bind (J.type.here (wpAny_bind (wpAny_of_eq fillI ?_)))))
  simp only [ne, Bool.false_eq_true, if_false]
  refine wpAny_bind (f1.here ?_)
  simp only [Bool.and_self, if_true]
  refine wpAny_bind ((PySem.W.looks_subIn X sub).here ?_)
  have hpy : numberSlotInPython (.type "int") nm' = pure false := rfl
  simp only [Bool.false_eq_true, if_false, pure_bind, Bool.not_false, Bool.and_self, if_true, hpy]
  refine wpAny_bind (wpAny_tryMethod_declines (T := "int") (by exact rfl) slot (declines_bin ha slot entry args ⟨rfl, ?_⟩))
  dsimp only
  refine wpAny_bind (wpAny_mono back (fun r s' z => ?_) fun _ _ z => z)
  obtain ⟨v, rfl, q⟩ := z
  exact wpAny_bind (wpAny_rule (wpAny_pure (wpAny_pure q)))
end
section
variable {X : Cx} {CX : CXT} {k : Nat} {f C : Addr} {fd : FuncData} {ps : List Str} {sp : Sp} {ds : List Value} {E : XK}
theorem ep_back {pins : List (Addr × Obj)} {σ : L2.St} {Q : VK} {u : Value} {s' : Shared} (h : EP X pins σ Q u s') : PySem.W.CmpBack (EP X pins σ Q) u s' := by
  obtain ⟨v, H', J, r, q⟩ := h
  cases u <;> first
    | exact ⟨v, H', J, r, q⟩
    | (exfalso; cases v <;> first | (obtain ⟨_, z⟩ := r; cases z) | cases r)
/-- x op y by the class's own operator; y an instance of the class, or an int -/
def rOwn (C : Addr) (sp : Sp) (E : XK) : R2 := fun x y H Q => (∃ a dx fs, x = .ref a ∧ H a = some (.ins C dx fs)) ∧ ((∃ b dy gs, y = .ref b ∧ H b = some (.ins C dy gs)) ∨ ∃ n, y = .int n) ∧ sp [x, y] H Q E
/-- n op a by the class's reflected operator -/
def rRef (C : Addr) (sp : Sp) (E : XK) : R2 := fun x y H Q => (∃ n, x = .int n) ∧ (∃ a dx fs, y = .ref a ∧ H a = some (.ins C dx fs)) ∧ sp [y, x] H Q E
theorem inst_of {pins : List (Addr × Obj)} {σ : L2.St} {H : Hp} {s : Shared} {a C dx : Addr} {fs : List (Str × V)} (I : Inv X pins σ H s) (e : H a = some (.ins C dx fs)) :
    s.heap.get? a = some (PySem.W.instObj C dx) ∧ ∃ od, PySem.W.InstAt s.heap a (PySem.W.instObj C dx) C (some od) := by
  obtain ⟨mA, O, _⟩ := ins_get I.hok e
  obtain ⟨od, J, _⟩ := O.look
  exact ⟨O.obj, od, J⟩
theorem op_own {op : Operator} {fo ro rc : Option Value} (M : Meth X.K C (dunder op.info.2) f) (first : PySem.W.selfFirst X.K C = true) (hr : PySem.W.findIn X.K (.ref C) (dunderR op.info.2) = some rc) (hp : rc = none ∨ ∃ g : Addr, rc = some (.ref g))
    (h1 : PySem.W.findIn X.K (.type "int") (dunder op.info.2) = some fo) (h2 : PySem.W.findIn X.K (.type "int") (dunderR op.info.2) = some ro) (hsub : PySem.W.subIn X.K (.type "int") (.ref C) = some false)
    (G : FnOk X.prog X.w X.K X.mg X.base CX k f fd ps sp) (room : Room k X.A) (bd : Binds X.K fd ps []) (out : Passes CX X E) : OpR X (binaryOp op) (rOwn C sp E) := by
  intro pins s σ H x y v u Q I rx ry h
  obtain ⟨⟨a, dx, fs, rfl, ha⟩, hy, h⟩ := h
  cases (show v = Value.ref a from rx)
  obtain ⟨_, od, J⟩ := inst_of I ha
  obtain ⟨m, F⟩ := I.fr
  have ran : wpAny (model X.prog X.w) X.A (call (.ref f) [.ref a, u]) (PySem.W.CmpBack (EP X pins σ Q)) X.xe s :=
    wpAny_mono (run_fn (ds := []) G room bd .nil out I (.cons (show L2.RelV (.ref a) (.ref a) from rfl) (.cons ry .nil)) h) (fun _ _ z => ep_back z) fun _ _ z => z
  rcases hy with ⟨b, dy, gs, rfl, hb⟩ | ⟨n, rfl⟩
  · cases (show u = Value.ref b from ry)
    obtain ⟨_, od', J'⟩ := inst_of I hb
    exact PySem.W.binop_K F I.ok.mod.kin J J'.type first M.at_ M.fn ran
  · obtain ⟨t, rfl⟩ := (show ∃ t, u = Value.int n t from ry)
    exact PySem.W.ksp_binT F I.ok.mod.kin J (T := "int") rfl first M.at_ M.fn hr hp h1 h2 hsub ran
theorem op_ref {op : Operator} {id nm : String} {g : Int → Int → Sem Fin} {f0 : Addr} (M : Meth X.K C (dunderR op.info.2) f) (first : PySem.W.selfFirst X.K C = true) (own : PySem.W.findIn X.K (.ref C) (dunder op.info.2) = some (some (.ref f0)))
    (sub : PySem.W.subIn X.K (.ref C) (.type "int") = some false) (slot : Slot "int" (dunder op.info.2) id) (entry : entryFor table id = some (Builtin.Int.intBinary nm g)) (args : ∀ a b, argsOk id ⟨[a, b], []⟩) (fillI : fillsNumberSlot (.type "int") op.info.2 = pure true)
    (G : FnOk X.prog X.w X.K X.mg X.base CX k f fd ps sp) (room : Room k X.A) (bd : Binds X.K fd ps []) (out : Passes CX X E) : OpR X (binaryOp op) (rRef C sp E) := by
  intro pins s σ H x y v u Q I rx ry h
  obtain ⟨⟨n, rfl⟩, ⟨a, dx, fs, rfl, ha⟩, h⟩ := h
  cases (show u = Value.ref a from ry)
  obtain ⟨t, rfl⟩ := (show ∃ t, v = Value.int n t from rx)
  obtain ⟨ho, od, J⟩ := inst_of I ha
  have ran : wpAny (model X.prog X.w) X.A (call (.ref f) [.ref a, .int n t]) (PySem.W.CmpBack (EP X pins σ Q)) X.xe s :=
    wpAny_mono (run_fn (ds := []) G room bd .nil out I (.cons (show L2.RelV (.ref a) (.ref a) from rfl) (.cons rx .nil)) h) (fun _ _ z => ep_back z) fun _ _ z => z
  exact bin_refl I.kIn ho J first slot entry (args _ _) fillI own sub M.at_ M.fn ran
/-- -a -/
def rNeg (C : Addr) (sp : Sp) (E : XK) : V → Hp → VK → Prop := fun x H Q => (∃ a dx fs, x = .ref a ∧ H a = some (.ins C dx fs)) ∧ sp [x] H Q E
theorem un_own (M : Meth X.K C "__neg__" f) (G : FnOk X.prog X.w X.K X.mg X.base CX k f fd ps sp) (room : Room k X.A) (bd : Binds X.K fd ps []) (out : Passes CX X E) : UnR X (unaryOp .USub) (rNeg C sp E) := by
  intro pins s σ H x v Q I rx h
  obtain ⟨⟨a, dx, fs, rfl, ha⟩, h⟩ := h
  cases (show v = Value.ref a from rx)
  obtain ⟨_, od, J⟩ := inst_of I ha
  obtain ⟨m, F⟩ := I.fr
  exact PySem.W.ksp_neg F I.ok.mod.kin J M.at_ M.fn (run_fn (ds := []) G room bd .nil out I (.cons (show L2.RelV (.ref a) (.ref a) from rfl) .nil) h)
end
section
variable {X : Cx} {CX : CXT} {k : Nat} {f C : Addr} {fd : FuncData} {ps : List Str} {sp : Sp} {ds : List Value} {E : XK}
/-- abs(a) by the class's own -/
def rAbsO (C : Addr) (sp : Sp) (E : XK) : List V → Hp → VK → Prop := fun xs H Q => ∃ a dx fs, xs = [.ref a] ∧ H a = some (.ins C dx fs) ∧ sp [.ref a] H Q E
/-- a def called where the frames are X's, one room further in -/
theorem run_in {B : Around} {pins : List (Addr × Obj)} {σ : L2.St} {H : Hp} {s : Shared} {Q : VK} {us : List Value} {vs : List V} (G : FnOk X.prog X.w X.K X.mg X.base CX k f fd ps sp) (room : Room k B) (fr : B.frames = X.A.frames) (bd : Binds X.K fd ps []) (out : Passes CX X E)
    (I : Inv X pins σ H s) (rel : Vals vs us) (h : sp vs H Q E) : wpAny (model X.prog X.w) B (call (.ref f) us) (EP X pins σ Q) X.xe s := by
  have n : us.length = ps.length := rel.length.symm.trans (G.len _ _ _ _ h)
  have bound := bd s us I.kIn (by rw [List.append_nil]; exact n)
  rw [List.append_nil] at bound
  have env := I.env0
  refine wpAny_call (codeAny_mono (G.run B X.stack s H ⟨us, []⟩ us vs Q E room ⟨fr.trans env.frames, env.mod, env.bs, env.bsz, env.funs, env.frf, env.hok, env.bare⟩ bound rel h) ?_)
  rintro (e | fl) s' back
  · exact out pins σ H s e s' I back
  · cases fl with
    | ret u => exact I.after back
    | next => exact back.elim
    | brk => exact back.elim
    | cont => exact back.elim
theorem call_absO (M : Meth X.K C "__abs__" f) (G : FnOk X.prog X.w X.K X.mg X.base CX k f fd ps sp) (room : Room (k + 1) X.A) (bd : Binds X.K fd ps []) (out : Passes CX X E) : CallR X (.builtin "abs") (rAbsO C sp E) := by
  intro pins s σ H xs us Q I r h
  obtain ⟨a, dx, fs, rfl, ha, h⟩ := h
  obtain ⟨u, rfl, rx⟩ := vals1 r
  cases (show u = Value.ref a from rx)
  obtain ⟨_, od, J⟩ := inst_of I ha
  refine PySem.Calls.call_function_entry PyProof.Rows.kind_abs PyProof.Rows.plain_abs PyProof.Rows.entry_abs (PyProof.Rows.args_abs _) ?_
  unfold Builtin.«abs»
  refine wpAny_bind (m := oneArg "abs" _) (wpAny_pure ?_)
  refine wpAny_bind (PySem.W.special_fn I.kIn J M.at_ (beq_iff_eq.mp M.fn) ?_)
  refine wpAny_mono (run_in (B := X.A.in1) G room.in1 rfl bd out I (.cons (show L2.RelV (.ref a) (.ref a) from rfl) .nil) h) (fun v s' z => ?_) fun _ _ z => z
  exact wpAny_pure ⟨_, rfl, z⟩
end

/-! ### methods and operators that may let an error out, wished for at the slots that stand -/
section
variable {X : Cx} {CX : CXT} {k : Nat} {f C : Addr} {fd : FuncData} {ps : List Str} {sp : Sp} {Ex : L2.St → XK}
def tMethT (C : Addr) (m : Str) (sp : Sp) (Ex : L2.St → XK) (ta : TE) (t : TA) : TE := fun τ H Q => ta τ H fun x H1 => ∃ a dx fs, x = .ref a ∧ H1 a = some (.ins C dx fs) ∧ fs.lookup m = none ∧ t τ H1 fun vs H2 => sp (.ref a :: vs) H2 Q (Ex τ)
theorem pe_methT {pl : Sem Bool} {m : Str} {o e : Expr} {es : List Expr} {apos pos : Pos} {ta : TE} {t : TA} (ho : PE X o ta) (c : Cls X.K C) (M : Meth X.K C m f) (G : FnOk X.prog X.w X.K X.mg X.base CX k f fd ps sp) (room : Room k X.A) (bd : Binds X.K fd ps [])
    (out : ∀ τ, PassesAt CX X τ (Ex τ)) (args : PA X (e :: es) t) (hst : starEach (e :: es) X.env = (false, eval e X.env) :: starEach es X.env := by rfl) (hpl : (backTo pos (starEach es X.env)).any (·.1) = false := by rfl)
    (ht : eval (.Call (.Attribute o m apos) (e :: es) [] pos) X.env = (do
      let w0 ← eval o X.env
      standAt apos.atName
      let (fn, fst) ← holding [w0] (getMethod w0 m pl)
      callWith pos fn fst (backTo pos (starEach (e :: es) X.env)) (backToKw pos (keywordEach [] X.env))) := by rfl) :
    PE X (.Call (.Attribute o m apos) (e :: es) [] pos) (tMethT C m sp Ex ta t) := by
  refine ⟨fun pn st τ H Q J h => PySem.W.methodCall_KW (pl := pl) (thn (ho.run pn st τ H _ J h) ?_) ht⟩
  rintro u s1 ⟨x, H1, J1, rx, a, dx, fs, rfl, ea, l, go⟩
  cases (show u = Value.ref a from rx)
  refine getmeth_ok J1 ea c M l (PySem.W.callWith_K (first := [.ref a]) (h₀ := X.base) J1.ok.mod.kin M.kp (thn (args.run pos pn s1 τ H1 _ J1 go) ?_) hst hpl)
  rintro us s2 ⟨vs, H2, J2, r, go2⟩
  exact ⟨J2.kIn, run_fnS (us := .ref a :: us) (vs := .ref a :: vs) G room bd (out τ) J2 (.cons (show L2.RelV (.ref a) (.ref a) from rfl) r) go2⟩
end

/-- x op y by the class's own operator, in a try's body -/
def tOwnT (C : Addr) (sp : Sp) (Ex : L2.St → XK) (ta tb : TE) : TE := fun τ H Q => ta τ H fun x H1 => tb τ H1 fun y H2 => rOwn C sp (Ex τ) x y H2 Q
section
variable {X : Cx} {CX : CXT} {k : Nat} {f C : Addr} {fd : FuncData} {ps : List Str} {sp : Sp} {Ex : L2.St → XK}
theorem own_at {op : Operator} {fo ro rc : Option Value} (M : Meth X.K C (dunder op.info.2) f) (first : PySem.W.selfFirst X.K C = true) (hr : PySem.W.findIn X.K (.ref C) (dunderR op.info.2) = some rc) (hp : rc = none ∨ ∃ g : Addr, rc = some (.ref g))
    (h1 : PySem.W.findIn X.K (.type "int") (dunder op.info.2) = some fo) (h2 : PySem.W.findIn X.K (.type "int") (dunderR op.info.2) = some ro) (hsub : PySem.W.subIn X.K (.type "int") (.ref C) = some false)
    (G : FnOk X.prog X.w X.K X.mg X.base CX k f fd ps sp) (room : Room k X.A) (bd : Binds X.K fd ps []) {τ : L2.St} (out : PassesAt CX X τ (Ex τ)) {pins : List (Addr × Obj)} {s : Shared} {H : Hp} {x y : V} {v u : Value} {Q : VK}
    (I : Inv X pins τ H s) (rx : RelV x v) (ry : RelV y u) (h : rOwn C sp (Ex τ) x y H Q) : wpAny (model X.prog X.w) X.A (binaryOp op v u) (EP X pins τ Q) X.xe s := by
  obtain ⟨⟨a, dx, fs, rfl, ha⟩, hy, h⟩ := h
  cases (show v = Value.ref a from rx)
  obtain ⟨_, od, J⟩ := inst_of I ha
  obtain ⟨m, F⟩ := I.fr
  have ran : wpAny (model X.prog X.w) X.A (call (.ref f) [.ref a, u]) (PySem.W.CmpBack (EP X pins τ Q)) X.xe s :=
    wpAny_mono (run_fnS G room bd out I (.cons (show L2.RelV (.ref a) (.ref a) from rfl) (.cons ry .nil)) h) (fun _ _ z => ep_back z) fun _ _ z => z
  rcases hy with ⟨b, dy, gs, rfl, hb⟩ | ⟨n, rfl⟩
  · cases (show u = Value.ref b from ry)
    obtain ⟨_, od', J'⟩ := inst_of I hb
    exact PySem.W.binop_K F I.ok.mod.kin J J'.type first M.at_ M.fn ran
  · obtain ⟨t, rfl⟩ := (show ∃ t, u = Value.int n t from ry)
    exact PySem.W.ksp_binT F I.ok.mod.kin J (T := "int") rfl first M.at_ M.fn hr hp h1 h2 hsub ran
end

/-! ### the operators one by one -/
section
variable {X : Cx} {CX : CXT} {k : Nat} {f C : Addr} {fd : FuncData} {ps : List Str} {sp : Sp} {E : XK}
theorem d_add : dunder Operator.Add.info.2 = ("__add__" : Str) := by decide +kernel
theorem dR_add : dunderR Operator.Add.info.2 = ("__radd__" : Str) := by decide +kernel
theorem op_own_Add (M : Meth X.K C "__add__" f) (first : PySem.W.selfFirst X.K C = true) (hr : ∃ rc : Option Value, PySem.W.findIn X.K (.ref C) "__radd__" = some rc ∧ (rc = none ∨ ∃ g : Addr, rc = some (.ref g)))
    (hi : ∃ fo ro : Option Value, PySem.W.findIn X.K (.type "int") "__add__" = some fo ∧ PySem.W.findIn X.K (.type "int") "__radd__" = some ro) (hsub : PySem.W.subIn X.K (.type "int") (.ref C) = some false)
    (G : FnOk X.prog X.w X.K X.mg X.base CX k f fd ps sp) (room : Room k X.A) (bd : Binds X.K fd ps []) (out : Passes CX X E) : OpR X (binaryOp .Add) (rOwn C sp E) := by
  obtain ⟨rc, e1, e2⟩ := hr
  obtain ⟨fo, ro, e3, e4⟩ := hi
  exact op_own (op := .Add) (by rw [d_add]; exact M) first (by rw [dR_add]; exact e1) e2 (by rw [d_add]; exact e3) (by rw [dR_add]; exact e4) hsub G room bd out
theorem d_sub : dunder Operator.Sub.info.2 = ("__sub__" : Str) := by decide +kernel
theorem dR_sub : dunderR Operator.Sub.info.2 = ("__rsub__" : Str) := by decide +kernel
theorem op_own_Sub (M : Meth X.K C "__sub__" f) (first : PySem.W.selfFirst X.K C = true) (hr : ∃ rc : Option Value, PySem.W.findIn X.K (.ref C) "__rsub__" = some rc ∧ (rc = none ∨ ∃ g : Addr, rc = some (.ref g)))
    (hi : ∃ fo ro : Option Value, PySem.W.findIn X.K (.type "int") "__sub__" = some fo ∧ PySem.W.findIn X.K (.type "int") "__rsub__" = some ro) (hsub : PySem.W.subIn X.K (.type "int") (.ref C) = some false)
    (G : FnOk X.prog X.w X.K X.mg X.base CX k f fd ps sp) (room : Room k X.A) (bd : Binds X.K fd ps []) (out : Passes CX X E) : OpR X (binaryOp .Sub) (rOwn C sp E) := by
  obtain ⟨rc, e1, e2⟩ := hr
  obtain ⟨fo, ro, e3, e4⟩ := hi
  exact op_own (op := .Sub) (by rw [d_sub]; exact M) first (by rw [dR_sub]; exact e1) e2 (by rw [d_sub]; exact e3) (by rw [dR_sub]; exact e4) hsub G room bd out
theorem d_mul : dunder Operator.Mult.info.2 = ("__mul__" : Str) := by decide +kernel
theorem dR_mul : dunderR Operator.Mult.info.2 = ("__rmul__" : Str) := by decide +kernel
theorem op_own_Mult (M : Meth X.K C "__mul__" f) (first : PySem.W.selfFirst X.K C = true) (hr : ∃ rc : Option Value, PySem.W.findIn X.K (.ref C) "__rmul__" = some rc ∧ (rc = none ∨ ∃ g : Addr, rc = some (.ref g)))
    (hi : ∃ fo ro : Option Value, PySem.W.findIn X.K (.type "int") "__mul__" = some fo ∧ PySem.W.findIn X.K (.type "int") "__rmul__" = some ro) (hsub : PySem.W.subIn X.K (.type "int") (.ref C) = some false)
    (G : FnOk X.prog X.w X.K X.mg X.base CX k f fd ps sp) (room : Room k X.A) (bd : Binds X.K fd ps []) (out : Passes CX X E) : OpR X (binaryOp .Mult) (rOwn C sp E) := by
  obtain ⟨rc, e1, e2⟩ := hr
  obtain ⟨fo, ro, e3, e4⟩ := hi
  exact op_own (op := .Mult) (by rw [d_mul]; exact M) first (by rw [dR_mul]; exact e1) e2 (by rw [d_mul]; exact e3) (by rw [dR_mul]; exact e4) hsub G room bd out
theorem d_floordiv : dunder Operator.FloorDiv.info.2 = ("__floordiv__" : Str) := by decide +kernel
theorem dR_floordiv : dunderR Operator.FloorDiv.info.2 = ("__rfloordiv__" : Str) := by decide +kernel
theorem op_own_FloorDiv (M : Meth X.K C "__floordiv__" f) (first : PySem.W.selfFirst X.K C = true) (hr : ∃ rc : Option Value, PySem.W.findIn X.K (.ref C) "__rfloordiv__" = some rc ∧ (rc = none ∨ ∃ g : Addr, rc = some (.ref g)))
    (hi : ∃ fo ro : Option Value, PySem.W.findIn X.K (.type "int") "__floordiv__" = some fo ∧ PySem.W.findIn X.K (.type "int") "__rfloordiv__" = some ro) (hsub : PySem.W.subIn X.K (.type "int") (.ref C) = some false)
    (G : FnOk X.prog X.w X.K X.mg X.base CX k f fd ps sp) (room : Room k X.A) (bd : Binds X.K fd ps []) (out : Passes CX X E) : OpR X (binaryOp .FloorDiv) (rOwn C sp E) := by
  obtain ⟨rc, e1, e2⟩ := hr
  obtain ⟨fo, ro, e3, e4⟩ := hi
  exact op_own (op := .FloorDiv) (by rw [d_floordiv]; exact M) first (by rw [dR_floordiv]; exact e1) e2 (by rw [d_floordiv]; exact e3) (by rw [dR_floordiv]; exact e4) hsub G room bd out
theorem d_mod : dunder Operator.Mod.info.2 = ("__mod__" : Str) := by decide +kernel
theorem dR_mod : dunderR Operator.Mod.info.2 = ("__rmod__" : Str) := by decide +kernel
theorem op_own_Mod (M : Meth X.K C "__mod__" f) (first : PySem.W.selfFirst X.K C = true) (hr : ∃ rc : Option Value, PySem.W.findIn X.K (.ref C) "__rmod__" = some rc ∧ (rc = none ∨ ∃ g : Addr, rc = some (.ref g)))
    (hi : ∃ fo ro : Option Value, PySem.W.findIn X.K (.type "int") "__mod__" = some fo ∧ PySem.W.findIn X.K (.type "int") "__rmod__" = some ro) (hsub : PySem.W.subIn X.K (.type "int") (.ref C) = some false)
    (G : FnOk X.prog X.w X.K X.mg X.base CX k f fd ps sp) (room : Room k X.A) (bd : Binds X.K fd ps []) (out : Passes CX X E) : OpR X (binaryOp .Mod) (rOwn C sp E) := by
  obtain ⟨rc, e1, e2⟩ := hr
  obtain ⟨fo, ro, e3, e4⟩ := hi
  exact op_own (op := .Mod) (by rw [d_mod]; exact M) first (by rw [dR_mod]; exact e1) e2 (by rw [d_mod]; exact e3) (by rw [dR_mod]; exact e4) hsub G room bd out
theorem op_ref_Add (M : Meth X.K C "__radd__" f) (first : PySem.W.selfFirst X.K C = true) (own : ∃ f0 : Addr, PySem.W.findIn X.K (.ref C) "__add__" = some (some (.ref f0))) (hsub : PySem.W.subIn X.K (.ref C) (.type "int") = some false)
    (G : FnOk X.prog X.w X.K X.mg X.base CX k f fd ps sp) (room : Room k X.A) (bd : Binds X.K fd ps []) (out : Passes CX X E) : OpR X (binaryOp .Add) (rRef C sp E) := by
  obtain ⟨f0, e1⟩ := own
  exact op_ref (op := .Add) (by rw [dR_add]; exact M) first (by rw [d_add]; exact e1) hsub PySem.F.slot_int_add PySem.F.entry_int_add PySem.F.args_int_add_2 (by kernel_rfl) G room bd out
theorem op_ref_Sub (M : Meth X.K C "__rsub__" f) (first : PySem.W.selfFirst X.K C = true) (own : ∃ f0 : Addr, PySem.W.findIn X.K (.ref C) "__sub__" = some (some (.ref f0))) (hsub : PySem.W.subIn X.K (.ref C) (.type "int") = some false)
    (G : FnOk X.prog X.w X.K X.mg X.base CX k f fd ps sp) (room : Room k X.A) (bd : Binds X.K fd ps []) (out : Passes CX X E) : OpR X (binaryOp .Sub) (rRef C sp E) := by
  obtain ⟨f0, e1⟩ := own
  exact op_ref (op := .Sub) (by rw [dR_sub]; exact M) first (by rw [d_sub]; exact e1) hsub PySem.F.slot_int_sub PySem.F.entry_int_sub PySem.F.args_int_sub_2 (by kernel_rfl) G room bd out
theorem op_ref_Mult (M : Meth X.K C "__rmul__" f) (first : PySem.W.selfFirst X.K C = true) (own : ∃ f0 : Addr, PySem.W.findIn X.K (.ref C) "__mul__" = some (some (.ref f0))) (hsub : PySem.W.subIn X.K (.ref C) (.type "int") = some false)
    (G : FnOk X.prog X.w X.K X.mg X.base CX k f fd ps sp) (room : Room k X.A) (bd : Binds X.K fd ps []) (out : Passes CX X E) : OpR X (binaryOp .Mult) (rRef C sp E) := by
  obtain ⟨f0, e1⟩ := own
  exact op_ref (op := .Mult) (by rw [dR_mul]; exact M) first (by rw [d_mul]; exact e1) hsub PySem.F.slot_int_mul PySem.F.entry_int_mul PySem.F.args_int_mul_2 (by kernel_rfl) G room bd out
end
section
variable {X : Cx} {CX : CXT} {k : Nat} {f C : Addr} {fd : FuncData} {ps : List Str} {sp : Sp} {Ex : L2.St → XK} {a b : Expr} {ta tb : TE} {pos : Pos}
theorem pe_ownT_FloorDiv (M : Meth X.K C "__floordiv__" f) (first : PySem.W.selfFirst X.K C = true) (hr : ∃ rc : Option Value, PySem.W.findIn X.K (.ref C) "__rfloordiv__" = some rc ∧ (rc = none ∨ ∃ g : Addr, rc = some (.ref g)))
    (hi : ∃ fo ro : Option Value, PySem.W.findIn X.K (.type "int") "__floordiv__" = some fo ∧ PySem.W.findIn X.K (.type "int") "__rfloordiv__" = some ro) (hsub : PySem.W.subIn X.K (.type "int") (.ref C) = some false)
    (G : FnOk X.prog X.w X.K X.mg X.base CX k f fd ps sp) (room : Room k X.A) (bd : Binds X.K fd ps []) (out : ∀ τ, PassesAt CX X τ (Ex τ)) (ha : PE X a ta) (hb : PE X b tb) : PE X (.BinOp a .FloorDiv b pos) (tOwnT C sp Ex ta tb) := by
  obtain ⟨rc, e1, e2⟩ := hr
  obtain ⟨fo, ro, e3, e4⟩ := hi
  refine ⟨fun pn st τ H Q J h => wpAny_BinOp (binT ha hb J h fun v u s2 x y H2 J2 rx ry go => ?_)⟩
  exact own_at (op := .FloorDiv) (by rw [d_floordiv]; exact M) first (by rw [dR_floordiv]; exact e1) e2 (by rw [d_floordiv]; exact e3) (by rw [dR_floordiv]; exact e4) hsub G room bd (out τ) J2 rx ry go
theorem pe_ownT_Mod (M : Meth X.K C "__mod__" f) (first : PySem.W.selfFirst X.K C = true) (hr : ∃ rc : Option Value, PySem.W.findIn X.K (.ref C) "__rmod__" = some rc ∧ (rc = none ∨ ∃ g : Addr, rc = some (.ref g)))
    (hi : ∃ fo ro : Option Value, PySem.W.findIn X.K (.type "int") "__mod__" = some fo ∧ PySem.W.findIn X.K (.type "int") "__rmod__" = some ro) (hsub : PySem.W.subIn X.K (.type "int") (.ref C) = some false)
    (G : FnOk X.prog X.w X.K X.mg X.base CX k f fd ps sp) (room : Room k X.A) (bd : Binds X.K fd ps []) (out : ∀ τ, PassesAt CX X τ (Ex τ)) (ha : PE X a ta) (hb : PE X b tb) : PE X (.BinOp a .Mod b pos) (tOwnT C sp Ex ta tb) := by
  obtain ⟨rc, e1, e2⟩ := hr
  obtain ⟨fo, ro, e3, e4⟩ := hi
  refine ⟨fun pn st τ H Q J h => wpAny_BinOp (binT ha hb J h fun v u s2 x y H2 J2 rx ry go => ?_)⟩
  exact own_at (op := .Mod) (by rw [d_mod]; exact M) first (by rw [dR_mod]; exact e1) e2 (by rw [d_mod]; exact e3) (by rw [dR_mod]; exact e4) hsub G room bd (out τ) J2 rx ry go
end

/-! ### x op y where x is an int or an instance, y an instance (or, behind an instance, an int) -/
section
variable {X : Cx} {CX : CXT} {k j : Nat} {f g C : Addr} {fd gd : FuncData} {ps qs : List Str} {sp sq : Sp} {E : XK}
def rAny (C : Addr) (sp sq : Sp) (E : XK) : R2 := fun x y H Q => rOwn C sp E x y H Q ∨ rRef C sq E x y H Q
theorem op_any_Add (M : Meth X.K C "__add__" f) (N : Meth X.K C "__radd__" g) (first : PySem.W.selfFirst X.K C = true) (hi : ∃ fo ro : Option Value, PySem.W.findIn X.K (.type "int") "__add__" = some fo ∧ PySem.W.findIn X.K (.type "int") "__radd__" = some ro)
    (si : PySem.W.subIn X.K (.type "int") (.ref C) = some false) (sr : PySem.W.subIn X.K (.ref C) (.type "int") = some false) (G : FnOk X.prog X.w X.K X.mg X.base CX k f fd ps sp) (G2 : FnOk X.prog X.w X.K X.mg X.base CX j g gd qs sq)
    (room : Room k X.A) (room2 : Room j X.A) (bd : Binds X.K fd ps []) (bd2 : Binds X.K gd qs []) (out : Passes CX X E) : OpR X (binaryOp .Add) (rAny C sp sq E) := by
  intro pins s σ H x y v u Q I rx ry h
  rcases h with h | h
  · exact op_own_Add M first ⟨_, N.at_, .inr ⟨_, rfl⟩⟩ hi si G room bd out pins s σ H x y v u Q I rx ry h
  · exact op_ref_Add N first ⟨_, M.at_⟩ sr G2 room2 bd2 out pins s σ H x y v u Q I rx ry h
theorem op_any_Sub (M : Meth X.K C "__sub__" f) (N : Meth X.K C "__rsub__" g) (first : PySem.W.selfFirst X.K C = true) (hi : ∃ fo ro : Option Value, PySem.W.findIn X.K (.type "int") "__sub__" = some fo ∧ PySem.W.findIn X.K (.type "int") "__rsub__" = some ro)
    (si : PySem.W.subIn X.K (.type "int") (.ref C) = some false) (sr : PySem.W.subIn X.K (.ref C) (.type "int") = some false) (G : FnOk X.prog X.w X.K X.mg X.base CX k f fd ps sp) (G2 : FnOk X.prog X.w X.K X.mg X.base CX j g gd qs sq)
    (room : Room k X.A) (room2 : Room j X.A) (bd : Binds X.K fd ps []) (bd2 : Binds X.K gd qs []) (out : Passes CX X E) : OpR X (binaryOp .Sub) (rAny C sp sq E) := by
  intro pins s σ H x y v u Q I rx ry h
  rcases h with h | h
  · exact op_own_Sub M first ⟨_, N.at_, .inr ⟨_, rfl⟩⟩ hi si G room bd out pins s σ H x y v u Q I rx ry h
  · exact op_ref_Sub N first ⟨_, M.at_⟩ sr G2 room2 bd2 out pins s σ H x y v u Q I rx ry h
theorem op_any_Mult (M : Meth X.K C "__mul__" f) (N : Meth X.K C "__rmul__" g) (first : PySem.W.selfFirst X.K C = true) (hi : ∃ fo ro : Option Value, PySem.W.findIn X.K (.type "int") "__mul__" = some fo ∧ PySem.W.findIn X.K (.type "int") "__rmul__" = some ro)
    (si : PySem.W.subIn X.K (.type "int") (.ref C) = some false) (sr : PySem.W.subIn X.K (.ref C) (.type "int") = some false) (G : FnOk X.prog X.w X.K X.mg X.base CX k f fd ps sp) (G2 : FnOk X.prog X.w X.K X.mg X.base CX j g gd qs sq)
    (room : Room k X.A) (room2 : Room j X.A) (bd : Binds X.K fd ps []) (bd2 : Binds X.K gd qs []) (out : Passes CX X E) : OpR X (binaryOp .Mult) (rAny C sp sq E) := by
  intro pins s σ H x y v u Q I rx ry h
  rcases h with h | h
  · exact op_own_Mult M first ⟨_, N.at_, .inr ⟨_, rfl⟩⟩ hi si G room bd out pins s σ H x y v u Q I rx ry h
  · exact op_ref_Mult N first ⟨_, M.at_⟩ sr G2 room2 bd2 out pins s σ H x y v u Q I rx ry h
end

/-! ### sum(xs, start=x) of own instances -/
theorem args_sumk (a v : Value) : argsOk "sum" ⟨[a], [(Str.ofString "start", v)]⟩ := by unfold argsOk; kernel_rfl
section
variable {prog : Program} {w : World} {A : Around} {E : Value → Shared → Prop} {s : Shared}
/-- a built-in with keywords that goes on by itself -/
theorem call_tree_kw {id : String} {b : Builtin} {args : List Value} {kw : List (Str × Value)} {Q : Value → Shared → Prop} (hk : builtinKind id = none) (hp : plainId id = true)
    (hb : entryFor table id = some b) (ha : argsOk id ⟨args, kw⟩)
    (hc : wpAny (model prog w) A.in1 (b ⟨args, kw⟩) (fun fin s' => match fin with
      | .done f => (match (Except.ok f : Result) with | .ok (.ret v) => Q v s' | .ok _ => False | .error e => E e s')
      | .again c' => c'.quiet = true ∧ codeAny (model prog w) A c' (fun r s' => match r with | .ok (.ret v) => Q v s' | .ok _ => False | .error e => E e s') s') E s) :
    wpAny (model prog w) A (call (.builtin id) args kw) Q E s := by
  refine wpAny_call (codeAny_call_builtin hp hb ?_)
  simp only [checkBuiltinCall, hk]
  cases hsig : Manifest.signature? id with
  | none => exact wpAny_pure hc
  | some sig =>
    simp only [argsOk, hsig] at ha
    have h2 : Bind.checkArgs id sig ⟨args, kw⟩ = pure () := ha
    show wpAny _ A.in1 (Bind.checkArgs id sig ⟨args, kw⟩) _ _ s
    rw [h2]; exact wpAny_pure hc
end
/-- what the top has written of a class whose instances are added up -/
structure SumC (K : PySem.W.Frag) (C : Addr) : Prop where
  str : PySem.W.subIn K (.ref C) (.type "str") = some false
  byt : PySem.W.subIn K (.ref C) (.type "bytes") = some false
  bya : PySem.W.subIn K (.ref C) (.type "bytearray") = some false
  fst : PySem.W.selfFirst K C = true
/-- sum(xs, start=x0); Iv: what holds of the sum by the number of items that are in it -/
def rSumO (K : PySem.W.Frag) (C : Addr) (sp : Sp) : List V → List V → Hp → VK → Prop := fun vs zs H Q => ∃ (l : Addr) (xs : List V) (x0 : V) (Iv : Nat → V → Hp → Prop), vs = [.ref l] ∧ zs = [x0] ∧ Iv 0 x0 H ∧
  (∀ i x H', Iv i x H' → SqL K H' l xs ∧ ∃ a dx fs, x = .ref a ∧ H' a = some (.ins C dx fs)) ∧
  (∀ i x y H', Iv i x H' → xs[i]? = some y → (∃ b dy gs, y = .ref b ∧ H' b = some (.ins C dy gs)) ∧ sp [x, y] H' (fun z H2 => Iv (i + 1) z H2) E0) ∧ (∀ x H', Iv xs.length x H' → Q x H')
section
variable {X : Cx} {CX : CXT} {k : Nat} {f C : Addr} {fd : FuncData} {ps : List Str} {sp : Sp}
/-- what of an object that stands beside the frame does not change -/
def Beside (X : Cx) (pins : List (Addr × Obj)) (b : Addr) : Prop := b ≠ X.env.locals ∧ b ∉ X.fs ∧ (b ∈ X.ex ∨ X.s_0.heap.objs.size ≤ b) ∧ (∀ x c, X.env.cells.lookup x = some c → c ≠ b) ∧ ∀ p ∈ X.pn ++ pins, p.1 ≠ b
theorem Beside.of_new {pins : List (Addr × Obj)} {σ : L2.St} {H : Hp} {s : Shared} {b : Addr} (I : Inv X pins σ H s) (hb : s.heap.objs.size ≤ b) : Beside X pins b := (I.fpOk hb (I.hok.fresh hb)).2
theorem inv_beside {pins : List (Addr × Obj)} {σ : L2.St} {H : Hp} {s : Shared} {b : Addr} {h' : Heap} {t' : Nat} (I : Inv X pins σ H s) (B : Beside X pins b) (n : H b = none) (k : ∀ c o, c ≠ b → s.heap.get? c = some o → h'.get? c = some o) :
    Inv X pins σ H { s with heap := h', toks := t' } := I.turned k n B.1 B.2.2.1 B.2.2.2.1 B.2.2.2.2
theorem pin_two {pins : List (Addr × Obj)} {σ : L2.St} {H : Hp} {s : Shared} {a b : Addr} {oa ob : Obj} (I : Inv X pins σ H s) (ha : s.heap.get? a = some oa) (hb : s.heap.get? b = some ob) (na : H a = none) (nb : H b = none) (Ba : Beside X pins a) (Bb : Beside X pins b) (ca : ∀ v, oa.data ≠ .cell v) (cb : ∀ v, ob.data ≠ .cell v) :
    Inv X ((a, oa) :: (b, ob) :: pins) σ H s := by
  refine I.pins_of fun p hp => ?_
  rcases List.mem_cons.mp hp with e | e
  · subst e
    exact ⟨ha, na, Ba.1, Ba.2.1, ca⟩
  rcases List.mem_cons.mp e with e | e
  · subst e
    exact ⟨hb, nb, Bb.1, Bb.2.1, cb⟩
  · exact I.pin p (List.mem_append_right _ e)
/-- x + y where the frames are X's and nothing is raised -/
theorem add_in {B : Around} {E : Value → Shared → Prop} {pins : List (Addr × Obj)} {σ : L2.St} {H : Hp} {s : Shared} {Q : VK} {a b dx dy : Addr} {fs gs : List (Str × V)} (M : Meth X.K C "__add__" f) (first : PySem.W.selfFirst X.K C = true)
    (out : ∀ E, Passes CX (X.wish E) E0) (G : FnOk X.prog X.w X.K X.mg X.base CX k f fd ps sp) (room : Room k B) (fr : B.frames = X.A.frames) (bd : Binds X.K fd ps []) (I : Inv X pins σ H s) (ha : H a = some (.ins C dx fs)) (hb : H b = some (.ins C dy gs)) (h : sp [.ref a, .ref b] H Q E0) :
    wpAny (model X.prog X.w) B (binaryOp .Add (.ref a) (.ref b)) (EP X pins σ Q) E s := by
  obtain ⟨_, od, J⟩ := inst_of I ha
  obtain ⟨_, od', J'⟩ := inst_of I hb
  obtain ⟨m, F⟩ := I.fr
  have ran : wpAny (model X.prog X.w) B (call (.ref f) [.ref a, .ref b]) (PySem.W.CmpBack (EP X pins σ Q)) E s :=
    wpAny_mono (run_in (X := X.wish E) (B := B) G room fr bd (out E) (I.wish E) (.cons (show L2.RelV (.ref a) (.ref a) from rfl) (.cons (show L2.RelV (.ref b) (.ref b) from rfl) .nil)) h)
      (fun _ _ ⟨v, H', J, r, q⟩ => ep_back ⟨v, H', J.unwish, r, q⟩) fun _ _ z => z
  exact PySem.W.binop_K F I.ok.mod.kin J J'.type first (by rw [d_add]; exact M.at_) M.fn ran
theorem sum_go {B : Around} {pins : List (Addr × Obj)} {σ : L2.St} {l it S : Addr} {xs : List V} {Iv : Nat → V → Hp → Prop} {Q : VK} {R : Result → Shared → Prop} (M : Meth X.K C "__add__" f) (first : PySem.W.selfFirst X.K C = true) (hh : B.handled = none)
    (out : ∀ E, Passes CX (X.wish E) E0) (G : FnOk X.prog X.w X.K X.mg X.base CX k f fd ps sp) (room : Room k B.in1) (fr : B.frames = X.A.frames) (bd : Binds X.K fd ps []) (Bi : Beside X pins it) (BS : Beside X pins S) (ne : it ≠ S)
    (inv : ∀ i x H', Iv i x H' → SqL X.K H' l xs ∧ ∃ a dx fs, x = .ref a ∧ H' a = some (.ins C dx fs))
    (step : ∀ i x y H', Iv i x H' → xs[i]? = some y → (∃ b dy gs, y = .ref b ∧ H' b = some (.ins C dy gs)) ∧ sp [x, y] H' (fun z H2 => Iv (i + 1) z H2) E0) (last : ∀ x H', Iv xs.length x H' → Q x H')
    (hR : ∀ u s', EP X pins σ Q u s' → R (.ok (.ret u)) s') :
    ∀ (m i : Nat) (s : Shared) (H : Hp) (x : V) (v : Value) (c : Nat), xs.length - i = m → i ≤ xs.length → Inv X pins σ H s → s.heap.IsListIter it l i → H it = none → H S = none → s.heap.get? S = some { cls := .type "list", dict := none, data := .seq #[v] c, slots := #[] } →
      Iv i x H → RelV x v → codeAny (model X.prog X.w) B (.builtin "sum.loop" ⟨[.ref it, .ref S, rawInt 2, rawInt 0], []⟩) R s := by
  intro m
  induction m with
  | zero =>
    intro i s H x v c hm hi I st ni nS hS iv rv
    obtain ⟨hl, a, dx, fs, rfl, ha⟩ := inv i x H iv
    obtain ⟨its, rvs, p, hz⟩ := I.list hl
    cases (show v = Value.ref a from rv)
    have e : i = xs.length := by omega
    subst e
    refine codeAny_builtin F.entry_sum_loop ?_
    rw [Around.under_plainId F.plain_sum_loop _]
    show wpAny _ B.in1 (seqItems? (.ref S) >>= _) _ _ s
    refine wpAny_bind (wpAny_seqItems hS rfl ?_)
    show wpAny _ B.in1 (tryCatch (pyNext (.ref it)) _ >>= _) _ _ s
    have hlen := rvs.length
    refine wpAny_bind (wpAny_tryCatch (wpAny_pyNext_list_end hh st p.isList (by simp; omega) fun h' eb => ?_))
    exact wpAny_pure (hR _ _ ⟨.ref a, H, inv_beside (t' := s.toks) I Bi ni fun b o hb e => eb b o hb e, rfl, last _ _ iv⟩)
  | succ m ih =>
    intro i s H x v c hm hi I st ni nS hS iv rv
    obtain ⟨hl, a, dx, fs, rfl, ha⟩ := inv i x H iv
    obtain ⟨its, rvs, p, hz⟩ := I.list hl
    cases (show v = Value.ref a from rv)
    have lt : i < xs.length := by omega
    obtain ⟨y, hy⟩ : ∃ y, xs[i]? = some y := ⟨_, List.getElem?_eq_getElem lt⟩
    obtain ⟨u, hu, ru⟩ := rvs.get hy
    obtain ⟨⟨b, dy, gs, rfl, hb⟩, go⟩ := step i _ y H iv hy
    cases (show u = Value.ref b from ru)
    refine codeAny_builtin F.entry_sum_loop ?_
    rw [Around.under_plainId F.plain_sum_loop _]
    show wpAny _ B.in1 (seqItems? (.ref S) >>= _) _ _ s
    refine wpAny_bind (wpAny_seqItems hS rfl ?_)
    show wpAny _ B.in1 (tryCatch (pyNext (.ref it)) _ >>= _) _ _ s
    refine wpAny_bind (wpAny_tryCatch (wpAny_pyNext_list_item st p.isList (x := .ref b) (by simpa using hu) fun h' st' sb => ?_))
    show wpAny _ B.in1 ((holding [Value.ref b] (binaryOp .Add (.ref a) (.ref b))).attempt >>= _) _ _ _
    have I1 : Inv X pins σ H { s with heap := h' } := inv_beside (t' := s.toks) I Bi ni fun b o hb e => (sb.2 b hb).trans e
    have hS1 : h'.get? S = some { cls := .type "list", dict := none, data := .seq #[Value.ref a] c, slots := #[] } := (sb.2 S (Ne.symm ne)).trans hS
    obtain ⟨oi, hoi, hci, hdi⟩ := id st'
    have I2 := pin_two I1 hoi hS1 ni nS Bi BS (fun v z => by rw [hdi] at z; cases z) (fun v z => by cases z)
    refine wpAny_bind (wpAny_attempt (wpAny_holding (wpAny_mono (add_in M first out G room fr bd I2 ha hb go) (fun z s3 back => ?_) fun _ _ z => z)))
    obtain ⟨zv, H3, I3, rz, iv3⟩ := back
    have hi3 := pin_at I3
    have n3 := ClX.pin_un I3
    have I4 := ClX.unpin I3
    have hS3 := pin_at I4
    have nS3 := ClX.pin_un I4
    have I5 := ClX.unpin I4
    have it3 : s3.heap.IsListIter it l (i + 1) := ⟨oi, hi3, hci, hdi⟩
    show wpAny _ B.in1 (updateSeq S (fun _ => #[z]) >>= _) _ _ _
    refine wpAny_bind (wpAny_updateSeq hS3 rfl ?_)
    have hS4 := Heap.get?_update_self (Obj.mapSeq fun _ => #[z]) hS3 rfl
    refine wpAny_bind (wpAny_letGo ?_)
    refine wpAny_bind (wpAny_updateSeq hS4 rfl (wpAny_pure ⟨plainId_quiet F.plain_sum_loop _, ?_⟩))
    have kp : ∀ b o, b ≠ S → s3.heap.get? b = some o → ((s3.heap.update S (Obj.mapSeq fun _ => #[z])).update S (Obj.mapSeq fun _ => #[z])).get? b = some o := fun b o hb e =>
      (Heap.get?_update_other _ _ (Ne.symm hb)).trans ((Heap.get?_update_other _ _ (Ne.symm hb)).trans e)
    have I6 := inv_beside (t' := s3.toks) I5 BS nS3 kp
    exact ih (i + 1) _ H3 zv z _ (by omega) lt I6 ⟨oi, kp it oi ne hi3, hci, hdi⟩ n3 nS3 (Heap.get?_update_self _ hS4 rfl) iv3 rz
/-- sum(xs, start=x0) of instances of a class with an own __add__ -/
theorem cr_sumO (S : SumC X.K C) (M : Meth X.K C "__add__" f) (hc : X.calm = true) (out : ∀ E, Passes CX (X.wish E) E0) (G : FnOk X.prog X.w X.K X.mg X.base CX k f fd ps sp) (room : Room (k + 1) X.A) (bd : Binds X.K fd ps []) : CallRK X (.builtin "sum") [Str.ofString "start"] (rSumO X.K C sp) := by
  intro pins s σ H vs zs us ws Q I r rz h
  obtain ⟨l, xs, x0, Iv, rfl, rfl, iv0, inv, step, last⟩ := h
  obtain rfl := Vals.ref1 r
  obtain ⟨w1, rfl, e1⟩ := vals1 rz
  obtain ⟨hl, a, dx, fs, rfl, ha⟩ := inv 0 x0 H iv0
  cases (show w1 = Value.ref a from e1)
  obtain ⟨its, rvs, p, hz⟩ := I.list hl
  show wpAny _ _ (call (.builtin "sum") [.ref l] [(Str.ofString "start", .ref a)]) _ _ _
  refine call_tree_kw F.kind_sum F.plain_sum F.entry_sum (args_sumk _ _) ?_
  unfold Builtin.«sum»
  simp only [List.length_cons, List.length_nil]
  rw [if_neg (by decide)]
  refine wpAny_bind (wpAny_of_eq (show Builtin.Builtins.bindParams "sum" ["start"] 0 ⟨[], [(Str.ofString "start", Value.ref a)]⟩ = pure [some (Value.ref a)] from by kernel_rfl) ?_)
  refine wpAny_bind (wpAny_pyIter_list p.isList ?_)
  have I1 : Inv X pins σ H { s with heap := s.heap.push { cls := .type "list_iterator", data := .fields #[.ref l, .int 0 0] } } := I.kept (t' := s.toks) fun b o e => Heap.get?_push_of_some _ e
  obtain ⟨_, od, J⟩ := inst_of I1 ha
  refine wpAny_bind (wpAny_pure ?_)
  simp only [List.forIn_cons, List.forIn_nil]
  refine wpAny_bind (wpAny_bind (wpAny_bind ((show PySem.W.Looks (model X.prog X.w) _ (isInstance (.ref a) (.type "str")) false from J.type.andThen (PySem.W.looks_subIn I1.kIn S.str)).here ?_)))
  simp only [Bool.false_eq_true, if_false]
  refine wpAny_pure (wpAny_bind (wpAny_bind ((show PySem.W.Looks (model X.prog X.w) _ (isInstance (.ref a) (.type "bytes")) false from J.type.andThen (PySem.W.looks_subIn I1.kIn S.byt)).here ?_)))
  simp only [Bool.false_eq_true, if_false]
  refine wpAny_pure (wpAny_bind (wpAny_bind ((show PySem.W.Looks (model X.prog X.w) _ (isInstance (.ref a) (.type "bytearray")) false from J.type.andThen (PySem.W.looks_subIn I1.kIn S.bya)).here ?_)))
  simp only [Bool.false_eq_true, if_false]
  refine wpAny_pure (wpAny_pure ?_)
  refine wpAny_bind (wpAny_newObj_type ?_)
  have sz : (s.heap.push { cls := .type "list_iterator", data := .fields #[.ref l, .int 0 0] }).objs.size = s.heap.objs.size + 1 := size_push' _ _
  have Bi := Beside.of_new I (Nat.le_refl s.heap.objs.size)
  have BS := Beside.of_new I (b := s.heap.objs.size + 1) (Nat.le_succ _)
  have n1 := I.hok.fresh (Nat.le_refl s.heap.objs.size)
  have n2 := I.hok.fresh (Nat.le_succ s.heap.objs.size)
  refine wpAny_pure ⟨plainId_quiet F.plain_sum_loop _, ?_⟩
  rw [show (s.heap.push { cls := .type "list_iterator", data := .fields #[.ref l, .int 0 0] }).objs.size = s.heap.objs.size + 1 from sz]
  refine sum_go (Q := Q) (Iv := Iv) M S.fst (I.ok.hd hc) out G room.in1 rfl bd Bi BS (Nat.ne_of_lt (Nat.lt_succ_self _)) inv step last (fun u s' z => z) xs.length 0 _ H (.ref a) (.ref a) 0 (by omega) (Nat.zero_le _)
    (I1.kept (t' := s.toks) fun b o e => Heap.get?_push_of_some _ e) ⟨_, Heap.get?_push_of_some _ (Heap.get?_push_size _ rfl), rfl, rfl⟩ n1 n2 ?_ iv0 rfl
  show ((s.heap.push { cls := .type "list_iterator", data := .fields #[.ref l, .int 0 0] }).push ({ cls := .type "list", dict := none, data := .seq #[Value.ref a] 0, slots := #[] } : Obj)).get? (s.heap.objs.size + 1) = _
  rw [← sz]
  exact Heap.get?_push_size _ rfl
end

/-! ### t[::-1] of a tuple -/
section
variable {prog : Program} {w : World} {A : Around} {E : Value → Shared → Prop} {s : Shared}
theorem places_rev (n : Nat) : Builtin.Slice.slicePlaces ((n : Int) - 1) (-1) (-1) = n := by
  unfold Builtin.Slice.slicePlaces
  have h1 : ¬ ((-1 : Int) > 0) := by omega
  have h2 : (- -1 : Int) = 1 := by decide
  simp only [h1, if_false, h2, Int.ediv_one]
  split <;> omega
theorem sliceApplied_rev {sl : Addr} {vl vu vs : Value} {n : Nat} {Q : Int × Int × Nat → Shared → Prop} (hs : s.heap.IsSliceOf sl vl vu vs) (pl : IsPart vl none) (pu : IsPart vu none) (ps : IsPart vs (some (-1)))
    (h : Q ((n : Int) - 1, -1, n) s) : wpAny (model prog w) A (Builtin.Slice.sliceApplied (.ref sl) (pure (n : Int))) Q E s := by
  obtain ⟨os, hos, hcs, hds⟩ := id hs
  unfold Builtin.Slice.sliceApplied Builtin.Slice.sliceFields
  refine wpAny_bind (wpAny_bind (wpAny_field hos hds (x := vl) rfl (wpAny_bind (wpAny_field hos hds (x := vu) rfl (wpAny_bind (wpAny_field hos hds (x := vs) rfl (wpAny_pure ?_)))))))
  refine wpAny_bind (HT.slicePart_ ps ?_)
  show wpAny _ _ (if ((-1 : Int) == 0) = true then _ else _) _ _ s
  rw [if_neg (by decide)]
  refine wpAny_bind (HT.slicePart_ pl (wpAny_bind (HT.slicePart_ pu (wpAny_bind (wpAny_pure ?_)))))
  show wpAny _ _ (pure ((n : Int) - 1, (-1 : Int), Builtin.Slice.slicePlaces ((n : Int) - 1) (-1) (-1))) _ _ s
  rw [places_rev]
  exact wpAny_pure h
theorem fm_congr {α β : Type} {f g : α → Option β} : ∀ {l : List α}, (∀ x ∈ l, f x = g x) → l.filterMap f = l.filterMap g
  | [], _ => rfl
  | x :: r, h => by
    rw [List.filterMap_cons, List.filterMap_cons, h x List.mem_cons_self, fm_congr fun y hy => h y (List.mem_cons_of_mem _ hy)]
theorem pick_rev (xs : Array Value) : ((List.range xs.size).filterMap fun (m : Nat) => xs[((xs.size : Int) - 1 + (m : Int) * -1).toNat]?).toArray = xs.toList.reverse.toArray := by
  have e : (List.range xs.size).filterMap (fun (m : Nat) => xs[((xs.size : Int) - 1 + (m : Int) * -1).toNat]?) = ((List.range xs.size).map fun k => xs.size - 1 - k).filterMap (xs[·]?) := by
    rw [List.filterMap_map]
    refine fm_congr ?_
    intro m hm
    have := List.mem_range.mp hm
    show xs[((xs.size : Int) - 1 + (m : Int) * -1).toNat]? = xs[xs.size - 1 - m]?
    congr 1
    omega
  rw [e, PySem.W.krv_range, List.filterMap_reverse, PySem.W.krv_all]
theorem getItem_tuple_rev {t sl : Addr} {items : Array Value} {vl vu vs : Value} {Q : Value → Shared → Prop} (ht : IsTup s.heap t items) (hs : s.heap.IsSliceOf sl vl vu vs) (pl : IsPart vl none) (pu : IsPart vu none) (ps : IsPart vs (some (-1)))
    (h : Q (.ref s.heap.objs.size) { s with heap := s.heap.push { cls := .type "tuple", data := .seq items.toList.reverse.toArray } }) (hsz : items.size ≤ sizeLine) : wpAny (model prog w) A (getItem (.ref t) (.ref sl)) Q E s := by
  have htake : sizeOk (.seq items.toList.reverse.toArray) := by
    show items.toList.reverse.toArray.size ≤ sizeLine
    rw [List.size_toArray, List.length_reverse, Array.length_toList]
    exact hsz
  obtain ⟨os, hos, hcs, hds⟩ := id hs
  have hTs : s.TypeIs (.ref sl) "slice" := ⟨os, hos, hcs⟩
  unfold getItem
  try with_reducible refine wpAny_holding ?_
  first | refine wpAny_bind (wpAny_pure ?_) | skip
  refine wpAny_bind (wpAny_sequenceKey ht.typeIs (by decide) ?_)
  refine wpAny_bind (wpAny_callSpecial?_slot (name := Str.ofString "__getitem__") ht.typeIs PyProof.Rows.slot_tuple_getitem
    (wpAny_call_entry PyProof.Rows.slot_tuple_getitem ht.typeIs entry_tuple_getitem ?_ (args_tuple_getitem _ _)))
  show wpAny _ _ (Builtin.Tuple.tupleItemsOf (.ref t) >>= _) _ _ s
  refine wpAny_bind (tupleItemsOf_ ht ?_)
  refine wpAny_bind (wpAny_typeOf hTs ?_)
  rw [if_pos (by decide)]
  refine wpAny_bind (sliceApplied_rev hs pl pu ps ?_)
  have hno : ¬ ((((items.size : Int) - 1) == 0 && (-1 : Int) == 1 && items.size == items.size) = true) := by
    intro q
    rw [Bool.and_eq_true, Bool.and_eq_true] at q
    exact absurd q.1.2 (by decide)
  show wpAny _ _ (if (((items.size : Int) - 1) == 0 && (-1 : Int) == 1 && items.size == items.size) = true then _ else _) _ _ s
  rw [if_neg hno, pick_rev]
  first
    | exact wpAny_bind (m := Builtin.Tuple.tupleExact _) (wpAny_newObj_type (wpAny_pure ⟨_, rfl, wpAny_pure h⟩) htake)
    | exact wpAny_bind (m := Builtin.Tuple.tupleExact _) (wpAny_newObj_type (wpAny_bind (wpAny_pure (wpAny_pure ⟨_, rfl, wpAny_pure h⟩))) htake)
    | exact wpAny_bind (wpAny_bind (m := Builtin.Tuple.tupleExact _) (wpAny_newObj_type (wpAny_pure (wpAny_pure ⟨_, rfl, wpAny_pure h⟩)) htake))
    | exact wpAny_bind (wpAny_bind (m := Builtin.Tuple.tupleExact _) (wpAny_newObj_type (wpAny_pure ⟨_, rfl, wpAny_pure h⟩) htake))
end
section
variable {X : Cx}
def tRevT (K : PySem.W.Frag) (te : TE) : TE := fun σ H Q => te σ H fun x H1 => ∃ a xs, x = .ref a ∧ SqT K H1 a xs ∧ ∀ p, H1 p = none → Q (.ref p) (upd H1 p (.tup xs.reverse))
theorem pe_revT {e : Expr} {te : TE} {k : Nat} {p1 p2 p3 pos : Pos} (he : PE X e te) : PE X (.Subscript e (.Slice none none (some (.UnaryOp .USub (.Constant (.int 1) k p1) p2)) p3) pos) (tRevT X.K te) := by
  refine ⟨fun pins s σ H Q I h => ?_⟩
  refine Subscript_ (thn (he.run pins s σ H _ I h) fun v s1 ⟨x, H1, I1, r1, q1⟩ => ?_)
  obtain ⟨a, xs, ex, hx, q⟩ := q1
  subst ex
  cases r1
  have hst : PO X (some (.UnaryOp .USub (.Constant (.int 1) k p1) p2)) (tPart (tUn (rU fun i => .int (-i)) (tC (.int 1)))) := po_some (pe_un un_neg pe_int)
  refine wpAny_Slice (thn (po_none.run pins s1 σ H1 (fun o H2 => o = none ∧ H2 = H1) I1 ⟨rfl, rfl⟩) fun vl s2 ⟨l, H2, I2, pl, el, e2⟩ => ?_)
  subst el e2
  refine thn (po_none.run pins s2 σ H2 (fun o H3 => o = none ∧ H3 = H2) I2 ⟨rfl, rfl⟩) fun vu s3 ⟨u, H3, I3, pu, eu, e3⟩ => ?_
  subst eu e3
  refine thn (hst.run pins s3 σ H3 (fun o H4 => o = some (-1) ∧ H4 = H3) I3 ⟨1, rfl, -1, rfl, rfl, rfl⟩) fun vs s4 ⟨o, H4, I4, ps, eo, e4⟩ => ?_
  subst eo e4
  have I5 : Inv X pins σ H4 { s4 with heap := s4.heap.push { cls := .type "slice", data := .fields #[vl, vu, vs] } } := I4.kept (t' := s4.toks) fun b ob q => Heap.get?_push_of_some _ q
  obtain ⟨its, r, ht, hz⟩ := I5.tuple hx
  have hlen := r.length
  show wpAny (model X.prog X.w) X.A (subscriptTail e (.Slice none none (some (.UnaryOp .USub (.Constant (.int 1) k p1) p2)) p3) (.ref a) (.ref s4.heap.objs.size)) (EP X pins σ Q) X.xe { s4 with heap := s4.heap.push { cls := .type "slice", data := .fields #[vl, vu, vs] } }
  refine tail_any (ops := [.ref a, .ref s4.heap.objs.size]) ht.typeIs PyProof.Rows.slot_tuple_getitem.lookup ?_ (by with_unfolding_all rfl)
  refine getItem_tuple_rev ht (Heap.IsSliceOf.new _ vl vu vs) pl pu ps ?_ (by rw [List.size_toArray]; omega)
  refine ⟨.ref _, _, I5.laid (t' := s4.toks) (o := .tup xs.reverse) (fun b ob q => Heap.get?_push_of_some _ q) (Nat.le_refl _) ?_, rfl, q _ (I5.hok.fresh (Nat.le_refl _))⟩
  exact ⟨by rw [List.length_reverse]; exact hz, _, r.reverse, IsTup.new _ _⟩
end

/-- a lot: ascending, from 0 on, below m -/
def lotB : List Int → Int → Int → Bool
  | [], _, _ => true
  | n :: r, b, m => if n ≤ b ∨ n ≥ m then false else lotB r n m

theorem fW_many (m a : Int) (t : Addr) : (fW m a t).lookup ("many" : Str) = some (V.int m) := by rfl

theorem lotB_in : ∀ {ns : List Int} {b m : Int}, lotB ns b m = true → ∀ n ∈ ns, b < n ∧ n < m
  | [], _, _, _, _, h => by cases h
  | x :: r, b, m, e, n, h => by
    by_cases c : x ≤ b ∨ x ≥ m
    · rw [show lotB (x :: r) b m = false from if_pos c] at e
      cases e
    · rw [show lotB (x :: r) b m = lotB r x m from if_neg c] at e
      rcases List.mem_cons.mp h with rfl | h
      · omega
      · have := lotB_in e n h
        omega
/-- the sum of the weights of a lot -/
def wSum (ws ns : List Int) : Int := (ns.map fun n => ws.getD n.toNat 0).sum
def wAt (ws ns : List Int) (i : Nat) : Int := if inV (.int (i : Int)) (ns.map V.int) = true then ws.getD i 0 else 0
theorem ws_at {ws : List Int} {n : Int} (h0 : 0 ≤ n) (h1 : n < ws.length) : atI (ws.map V.int) n = some (.int (ws.getD n.toNat 0)) := by
  obtain ⟨k, rfl⟩ : ∃ k : Nat, n = (k : Int) := ⟨n.toNat, by omega⟩
  have lt : k < ws.length := by omega
  refine atI_nat (int_at ?_)
  rw [Int.toNat_natCast, List.getD_eq_getElem?_getD, List.getElem?_eq_getElem lt]
  rfl
theorem ints_flat (ns : List Int) : (ns.map V.int).all flatV = true := by
  rw [List.all_eq_true]
  intro x hx
  obtain ⟨n, _, rfl⟩ := List.mem_map.mp hx
  rfl

theorem fW_shares (m a : Int) (t : Addr) : (fW m a t).lookup ("shares" : Str) = none := by rfl
theorem fW_away (m a : Int) (t : Addr) : (fW m a t).lookup ("away" : Str) = none := by rfl
theorem inV_int {n : Int} {ns : List Int} : inV (.int n) (ns.map V.int) = true ↔ n ∈ ns := by
  unfold inV
  rw [List.any_eq_true]
  constructor
  · rintro ⟨x, hx, e⟩
    obtain ⟨m, hm, rfl⟩ := List.mem_map.mp hx
    have e : decide (m = n) = true := by
      first | exact e | (simpa [eqV] using e)
    rw [← of_decide_eq_true e]
    exact hm
  · intro h
    refine ⟨.int n, List.mem_map.mpr ⟨n, h, rfl⟩, ?_⟩
    first | exact decide_eq_true rfl | simp [eqV]
/-- the values of f at the things of a lot, the others 0 -/
def hitF (f : Nat → Int) (ns : List Int) (i : Nat) : Int := if inV (.int (i : Int)) (ns.map V.int) = true then f i else 0
theorem lot_sum (f : Nat → Int) : ∀ (k : Nat) (b : Int) (lo : Nat) (ns : List Int) (m : Int), (lo : Int) = b + 1 → m - (lo : Int) = (k : Int) → lotB ns b m = true → ((List.range' lo k).map (hitF f ns)).sum = (ns.map fun n => f n.toNat).sum
  | 0, b, lo, ns, m, hb, hk, h => by
    cases ns with
    | nil => rfl
    | cons n r =>
      have := lotB_in h n List.mem_cons_self
      omega
  | k + 1, b, lo, ns, m, hb, hk, h => by
    rw [List.range'_succ, List.map_cons, List.sum_cons]
    cases ns with
    | nil =>
      rw [show hitF f [] lo = 0 from rfl, lot_sum f k (b + 1) (lo + 1) [] m (by omega) (by omega) rfl]
      rfl
    | cons n r =>
      by_cases c : n = (lo : Int)
      · have hn := lotB_in h n List.mem_cons_self
        have hr : lotB r n m = true := by
          have e : lotB (n :: r) b m = lotB r n m := if_neg (by omega)
          rw [← e]
          exact h
        have ih := lot_sum f k n (lo + 1) r m (by omega) (by omega) hr
        have same : (List.range' (lo + 1) k).map (hitF f (n :: r)) = (List.range' (lo + 1) k).map (hitF f r) := by
          apply List.map_congr_left
          intro i hi
          have hi := (List.mem_range'_1.mp hi).1
          unfold hitF
          have e : inV (.int (i : Int)) ((n :: r).map V.int) = inV (.int (i : Int)) (r.map V.int) := by
            rw [Bool.eq_iff_iff, inV_int, inV_int, List.mem_cons]
            constructor
            · rintro (z | z)
              · omega
              · exact z
            · exact .inr
          rw [e]
        rw [same, ih, List.map_cons, List.sum_cons]
        congr 1
        unfold hitF
        rw [if_pos (inV_int.mpr (by rw [c]; exact List.mem_cons_self)), c, Int.toNat_natCast]
      · have hn := lotB_in h n List.mem_cons_self
        have hr : lotB (n :: r) (b + 1) m = true := by
          have e : lotB (n :: r) b m = lotB r n m := if_neg (by omega)
          rw [e] at h
          exact (if_neg (by omega)).trans h
        rw [lot_sum f k (b + 1) (lo + 1) (n :: r) m (by omega) (by omega) hr]
        have z : hitF f (n :: r) lo = 0 := by
          unfold hitF
          refine if_neg fun y => ?_
          have y := inV_int.mp y
          have := lotB_in hr _ y
          omega
        rw [z, Int.zero_add]
theorem wAt_sum {ws ns : List Int} (h : lotB ns (-1) ws.length = true) : ((List.range ws.length).map (wAt ws ns)).sum = wSum ws ns := by
  rw [List.range_eq_range']
  exact lot_sum (fun i => ws.getD i 0) ws.length (-1) 0 ns ws.length rfl (by omega) h
theorem getD_nn {ws : List Int} (h : ∀ w ∈ ws, 1 ≤ w) (i : Nat) : 0 ≤ ws.getD i 0 := by
  rw [List.getD_eq_getElem?_getD]
  cases e : ws[i]? with
  | none => exact Int.le_refl 0
  | some w =>
    have := h w (List.mem_of_getElem? e)
    show 0 ≤ w
    omega
theorem wAt_nn {ws ns : List Int} (h : ∀ w ∈ ws, 1 ≤ w) (i : Nat) : 0 ≤ wAt ws ns i := by
  unfold wAt
  split
  · exact getD_nn h i
  · exact Int.le_refl 0
theorem sum_nn : ∀ {l : List Int}, (∀ x ∈ l, 0 ≤ x) → 0 ≤ l.sum
  | [], _ => Int.le_refl 0
  | x :: r, h => by
    rw [List.sum_cons]
    have := h x List.mem_cons_self
    have := sum_nn fun y hy => h y (List.mem_cons_of_mem _ hy)
    omega
theorem take_le {l : List Int} (h : ∀ x ∈ l, 0 ≤ x) (i : Nat) : 0 ≤ (l.take i).sum ∧ (l.take i).sum ≤ l.sum := by
  have a := sum_nn fun x hx => h x (List.mem_of_mem_take (i := i) hx)
  have b := sum_nn fun x hx => h x (List.mem_of_mem_drop (i := i) hx)
  have e : (l.take i).sum + (l.drop i).sum = l.sum := by
    rw [← List.sum_append, List.take_append_drop]
  omega
theorem mem_le {l : List Int} (h : ∀ x ∈ l, 0 ≤ x) : ∀ x ∈ l, x ≤ l.sum := by
  induction l with
  | nil =>
    intro x hx
    cases hx
  | cons y r ih =>
    intro x hx
    have hr : ∀ z ∈ r, 0 ≤ z := fun z hz => h z (List.mem_cons_of_mem _ hz)
    have := sum_nn hr
    have := h y List.mem_cons_self
    rw [List.sum_cons]
    rcases List.mem_cons.mp hx with rfl | hx
    · omega
    · have := ih hr x hx
      omega

theorem kL : kitB "list" "list" = some true := by decide +kernel
theorem lotB_mono : ∀ {ns : List Int} {b m m' : Int}, lotB ns b m = true → m ≤ m' → lotB ns b m' = true
  | [], _, _, _, _, _ => rfl
  | n :: r, b, m, m', h, le => by
    have hn := lotB_in h n List.mem_cons_self
    have e : lotB (n :: r) b m = lotB r n m := if_neg (by omega)
    rw [e] at h
    exact (if_neg (by omega)).trans (lotB_mono h le)
theorem lotB_snoc : ∀ {ns : List Int} {b m : Int}, lotB ns b m = true → b < m → lotB (ns ++ [m]) b (m + 1) = true
  | [], b, m, _, lt => (if_neg (by omega) : lotB [m] b (m + 1) = lotB [] m (m + 1)).trans rfl
  | n :: r, b, m, h, lt => by
    have hn := lotB_in h n List.mem_cons_self
    have e : lotB (n :: r) b m = lotB r n m := if_neg (by omega)
    rw [e] at h
    exact (if_neg (by omega)).trans (lotB_snoc h hn.2)
theorem lotB_pw : ∀ {ns : List Int} {b m : Int}, lotB ns b m = true → ns.Pairwise (· < ·)
  | [], _, _, _ => .nil
  | n :: r, b, m, h => by
    have hn := lotB_in h n List.mem_cons_self
    have e : lotB (n :: r) b m = lotB r n m := if_neg (by omega)
    rw [e] at h
    exact .cons (fun x hx => (lotB_in h x hx).1) (lotB_pw h)
theorem lotB_no {ns : List Int} {b m : Int} (h : lotB ns b m = true → False) : lotB ns b m = false := by
  cases e : lotB ns b m with
  | true => exact (h e).elim
  | false => rfl
theorem wSum_snoc (ws ns : List Int) {i : Nat} {n : Int} (h : ns[i]? = some n) : wSum ws (ns.take (i + 1)) = wSum ws (ns.take i) + ws.getD n.toNat 0 := by
  unfold wSum
  rw [List.take_add_one, h, List.map_append, List.sum_append]
  simp

/-- what of a rule by weights stands in the heap -/
def WAt (C : Addr) (H : Hp) (p dx t : Addr) (ws : List Int) (b : Int) : Prop := H p = some (.ins C dx (fW ws.length b t)) ∧ H t = some (.tup (ws.map V.int))
theorem WAt.same {C : Addr} {H H' : Hp} {p dx t : Addr} {ws : List Int} {b : Int} (s : Same H H') (h : WAt C H p dx t ws b) : WAt C H' p dx t ws b := ⟨s _ _ h.1, s _ _ h.2⟩
/-- a due pair of thing j: its weight over the total, or 0 over 1 -/
def DueAt (H : Hp) (ws ns : List Int) (d : Int) (j : Nat) (t : Addr) : Prop := ∃ n e : Int, H t = some (.tup [.int n, .int e]) ∧ ((n = wAt ws ns j ∧ e = d) ∨ (wAt ws ns j = 0 ∧ n = 0 ∧ e = 1))
theorem DueAt.same {H H' : Hp} {ws ns : List Int} {d : Int} {j : Nat} {t : Addr} (s : Same H H') (h : DueAt H ws ns d j t) : DueAt H' ws ns d j t := by
  obtain ⟨n, e, h, k⟩ := h
  exact ⟨n, e, s _ _ h, k⟩
theorem wSum_nn {ws ns : List Int} (hw : ∀ w ∈ ws, 1 ≤ w) (ok : lotB ns (-1) ws.length = true) : 0 ≤ wSum ws ns ∧ ∀ j, j < ws.length → 0 ≤ wAt ws ns j ∧ wAt ws ns j ≤ wSum ws ns := by
  have nn : ∀ x ∈ (List.range ws.length).map (wAt ws ns), 0 ≤ x := fun x hx => by
    obtain ⟨i, _, rfl⟩ := List.mem_map.mp hx
    exact wAt_nn hw i
  have es := wAt_sum ok
  refine ⟨es ▸ sum_nn nn, fun j hj => ⟨wAt_nn hw j, es ▸ mem_le nn _ (List.mem_map.mpr ⟨j, List.mem_range.mpr hj, rfl⟩)⟩⟩
def lotOf (b : Int) : Nat → List Int
  | 0 => []
  | m + 1 => lotOf b m ++ (if b / 2 ^ m % 2 = 1 then [(m : Int)] else [])
def powSum (l : List Int) : Int := (l.map fun t => 1 * (2 : Int) ^ t.toNat).sum
theorem powSum_append (a b : List Int) : powSum (a ++ b) = powSum a + powSum b := by
  unfold powSum
  rw [List.map_append, List.sum_append]
theorem two_pos (m : Nat) : (0 : Int) < 2 ^ m := Int.pow_pos (by decide)
theorem half (b : Int) (m : Nat) : b / 2 ^ m / 2 = b / 2 ^ (m + 1) := by
  rw [Int.ediv_ediv_of_nonneg (Int.le_of_lt (two_pos m)), ← Int.pow_succ]
theorem powSum_lotOf (b : Int) : ∀ m : Nat, powSum (lotOf b m) = b % 2 ^ m
  | 0 => by
    show (0 : Int) = b % 1
    omega
  | m + 1 => by
    show powSum (lotOf b m ++ _) = _
    rw [powSum_append, powSum_lotOf b m]
    have e1 : (2 : Int) ^ (m + 1) = 2 ^ m * 2 := Int.pow_succ ..
    have e2 := Int.mul_ediv_add_emod b (2 ^ m)
    have e3 := Int.mul_ediv_add_emod b (2 ^ (m + 1))
    have e4 : b / 2 ^ (m + 1) = b / 2 ^ m / 2 := (half b m).symm
    have e5 := Int.emod_add_mul_ediv (b / 2 ^ m) 2
    have e6 : b % 2 ^ (m + 1) = b % 2 ^ m + 2 ^ m * (b / 2 ^ m % 2) := by
      have h1 : 2 ^ m * (b / 2 ^ m % 2 + 2 * (b / 2 ^ m / 2)) = 2 ^ m * (b / 2 ^ m) := by rw [e5]
      rw [Int.mul_add, ← Int.mul_assoc, ← e1, ← e4] at h1
      omega
    rw [e6]
    have h2 := Int.emod_two_eq (b / 2 ^ m)
    rcases h2 with h2 | h2
    · rw [h2, if_neg (by decide)]
      show _ + (0 : Int) = _
      omega
    · rw [h2, if_pos rfl]
      show _ + ((1 : Int) * 2 ^ ((m : Int)).toNat + 0) = _
      rw [Int.toNat_natCast]
      omega
theorem bit_mod (b : Int) {i m : Nat} (h : i < m) : (b % 2 ^ m) / 2 ^ i % 2 = b / 2 ^ i % 2 := by
  have e2 := Int.mul_ediv_add_emod b (2 ^ m)
  have e3 : (2 : Int) ^ m = 2 ^ i * (2 * 2 ^ (m - i - 1)) := by
    rw [← Int.mul_assoc, ← Int.pow_succ, ← Int.pow_add]
    congr 1
    omega
  have e4 : b = b % 2 ^ m + 2 ^ i * (2 * (2 ^ (m - i - 1) * (b / 2 ^ m))) := by
    have e5 : 2 ^ i * (2 * (2 ^ (m - i - 1) * (b / 2 ^ m))) = 2 ^ m * (b / 2 ^ m) := by
      generalize b / 2 ^ m = q
      rw [e3]
      simp only [Int.mul_assoc]
    omega
  conv => rhs; rw [e4]
  rw [Int.add_mul_ediv_left _ _ (Int.ne_of_gt (two_pos i)), Int.add_mul_emod_self_left]
theorem lotOf_mod (b : Int) {m : Nat} : ∀ {k : Nat}, k ≤ m → lotOf (b % 2 ^ m) k = lotOf b k
  | 0, _ => rfl
  | k + 1, h => by
    show lotOf (b % 2 ^ m) k ++ _ = lotOf b k ++ _
    rw [lotOf_mod b (Nat.le_of_succ_le h), bit_mod b h]
theorem lotOf_more (b : Int) (m : Nat) : lotOf (b % 2 ^ m) (m + 1) = lotOf b m := by
  show lotOf (b % 2 ^ m) m ++ _ = lotOf b m
  rw [lotOf_mod b (Nat.le_refl m), Int.ediv_eq_zero_of_lt (Int.emod_nonneg _ (Int.ne_of_gt (two_pos m))) (Int.emod_lt_of_pos _ (two_pos m)), if_neg (by decide), List.append_nil]
theorem lotOf_len (b : Int) : ∀ m : Nat, (lotOf b m).length ≤ m
  | 0 => Nat.le_refl 0
  | m + 1 => by
    show (lotOf b m ++ _).length ≤ _
    have h := lotOf_len b m
    rw [List.length_append]
    split <;> simp <;> omega
theorem lotOf_mem (b : Int) : ∀ {m : Nat} {t : Int}, t ∈ lotOf b m → 0 ≤ t ∧ t < m
  | 0, _, h => by cases h
  | m + 1, t, h => by
    rcases List.mem_append.mp h with h | h
    · have := lotOf_mem b h
      omega
    · split at h
      · have := List.mem_singleton.mp h
        omega
      · cases h
theorem lotOf_asc (b : Int) : ∀ m : Nat, (lotOf b m).Pairwise (· < ·)
  | 0 => List.Pairwise.nil
  | m + 1 => by
    refine List.pairwise_append.mpr ⟨lotOf_asc b m, ?_, fun x hx y hy => ?_⟩
    · split
      · exact List.pairwise_singleton ..
      · exact List.Pairwise.nil
    · split at hy
      · have := List.mem_singleton.mp hy
        have := lotOf_mem b hx
        omega
      · cases hy
theorem bit_one (x : Int) : Builtin.bitAnd x 1 = x % 2 := by
  have h := PySem.W.kbt_mask x 1
  exact h

/-! ### super().m(e, ..) in a method's own block, anywhere: statements that know the code they stand in -/
structure PEA (X : Cx) (c : Code) (e : Expr) (t : TE) : Prop where
  run : ∀ (pins : List (Addr × Obj)) (s : Shared) (σ : L2.St) (H : Hp) (Q : VK), Inv X pins σ H s → t σ H Q → PySem.wpAt (model X.prog X.w) X.A c (eval e X.env) (EP X pins σ Q) X.xe s
structure PSA (X : Cx) (c : Code) (st : Stmt) (t : TS) : Prop where
  run : ∀ (pins : List (Addr × Obj)) (s : Shared) (σ : L2.St) (H : Hp) (D : Ends), Inv X pins σ H s → t D σ H → PySem.wpAt (model X.prog X.w) X.A c (exec st X.env) (SP X pins D) X.xe s
structure PSAs (X : Cx) (c : Code) (st : List Stmt) (t : TS) : Prop where
  run : ∀ (pins : List (Addr × Obj)) (s : Shared) (σ : L2.St) (H : Hp) (D : Ends), Inv X pins σ H s → t D σ H → PySem.wpAt (model X.prog X.w) X.A c (execs st X.env) (SP X pins D) X.xe s
section
variable {X : Cx} {c : Code} {e b : Expr} {rest' : List Expr} {st : Stmt} {rest : List Stmt} {t u : TS} {te tb : TE} {pos : Pos}
theorem pea_pe (h : PE X e te) : PEA X c e te := ⟨fun pins s σ H Q I q => PySem.wpAt_of_wpAny (h.run pins s σ H Q I q)⟩
theorem psa_ps (h : PS X st t) : PSA X c st t := ⟨fun pins s σ H D I q => PySem.wpAt_of_wpAny (h.run pins s σ H D I q)⟩
theorem psas_pss (h : PSs X rest t) : PSAs X c rest t := ⟨fun pins s σ H D I q => PySem.wpAt_of_wpAny (h.run pins s σ H D I q)⟩
theorem psas_cons (h1 : PSA X c st t) (h2 : PSAs X c rest u) : PSAs X c (st :: rest) (tSeq t u) := by
  refine ⟨fun pins s σ H D I h => ?_⟩
  refine ks_wpAt_execs_cons (ks_wpAt_mono (h1.run pins s σ H { D with nx := u D } I h) (fun f s1 q => ?_) fun _ _ x => x)
  cases f with
  | next =>
    obtain ⟨σ', H', I', q⟩ := q
    exact h2.run pins s1 σ' H' D I' q
  | ret v => exact q
  | brk => exact q
  | cont => exact q
theorem psas_one (h : PSA X c st t) : PSAs X c [st] t := by
  refine ⟨fun pins s σ H D I q => ?_⟩
  refine ks_wpAt_execs_cons (ks_wpAt_mono (h.run pins s σ H D I q) (fun f s1 q => ?_) fun _ _ x => x)
  cases f with
  | next => exact PySem.wpAt_of_wpAny (wpAny_execs_nil q)
  | ret v => exact q
  | brk => exact q
  | cont => exact q
theorem psa_expr (he : PEA X c e te) (hi : interactive X.env = false := by rfl) (hs : swapsWith e none pos.line X.env = pure false := by rfl) : PSA X c (.Expr e pos) (tDrop te) := by
  refine ⟨fun pins s σ H D I h => ?_⟩
  exact ks_wpAt_Expr_any (ks_wpAt_mono (he.run pins s σ H _ I h) (fun v s1 ⟨x, H1, I1, r1, q1⟩ => ⟨σ, H1, I1, q1⟩) fun _ _ x => x) hi hs
theorem psa_ret (he : PEA X c e te) : PSA X c (.Return (some e) pos) (tRet te) := by
  refine ⟨fun pins s σ H D I h => ?_⟩
  exact ks_wpAt_Return_some (ks_wpAt_mono (he.run pins s σ H _ I h) (fun v s1 ⟨x, H1, I1, r1, q1⟩ => ⟨x, σ, H1, I1, r1, q1⟩) fun _ _ x => x)
theorem psa_set {i : Nat} {x : Str} {pos' : Pos} (hN : X.N.Nodup) (hi : X.N[i]? = some x) (hx : Loc X.env.scope x) (he : PEA X c e te) (hs : swapsWith e (some (.Name x pos')) pos.line X.env = pure false := by rfl) (hf : X.fn x = true ∨ X.env.scope.names.lookup x = some .local := by first | exact .inl rfl | exact .inr rfl | assumption) :
    PSA X c (.Assign [.Name x pos'] e pos) (tAsg te (gName i)) := by
  refine ⟨fun pins s σ H D I h => ?_⟩
  refine ks_wpAt_Assign_Name (ks_wpAt_mono (he.run pins s σ H _ I h) (fun v s1 ⟨y, H1, I1, r1, q1⟩ => ?_) fun _ _ x => x) hs
  exact store_ok I1 hN hi hx r1 (fun s2 I2 => ⟨_, H1, I2, q1⟩) hf
/-- super().m(..) and more -/
theorem pea_and (ha : PEA X c e te) (hb : PE X (.BoolOp .And (b :: rest') pos) tb) : PEA X c (.BoolOp .And (e :: b :: rest') pos) (tAndV te tb) := by
  refine ⟨fun pins s σ H Q I h => ?_⟩
  show PySem.wpAt _ X.A c (do
    let v ← eval e X.env
    standAt pos
    let d ← holding [v] (truthy v)
    match BoolOp.And, d with
    | .And, false | .Or, true => pure v
    | _, _ => boolOp pos .And (eval b X.env :: evalEach rest' X.env)) _ _ s
  refine PySem.wpAt_bind (ks_wpAt_mono (ha.run pins s σ H _ I h) (fun v s1 ⟨x, H1, I1, r1, q1⟩ => ?_) fun _ _ x => x)
  obtain ⟨d, rfl, q1⟩ := q1
  cases r1
  refine PySem.wpAt_of_wpAny (wpAny_bind (wpAny_standAt (wpAny_bind (wpAny_holding (wpAny_truthy_bool ?_)))))
  cases d with
  | true => exact hb.run pins s1 σ H1 Q I1 q1
  | false => exact wpAny_pure ⟨.bl false, H1, I1, rfl, q1⟩
end
/-- what the top has written of a class D above which super() looks, for an instance of the class C: the function g at the name m -/
structure SupM (K : PySem.W.Frag) (mg : Str → Option Value) (C D cc cda g : Addr) (m file : Str) : Prop where
  isD : ∃ cd, PySem.W.clsIn K D = some cd
  sub : PySem.W.mroIn K C (.ref D) = some true
  cell : ∃ cl cld csl, K.lookup cc = some ⟨cl, cld, .cell (some (.ref D)), csl⟩
  code : ∃ ccl cdd vs ccs tf, K.lookup cda = some ⟨ccl, cdd, .fields vs, ccs⟩ ∧ vs[2]? = some (.str file tf)
  sup : PySem.W.ks_superIn K C D m = some (some (.ref g))
  tg : PySem.W.typeIn K (.ref g) = some (.type "function")
  fg : PySem.W.fnIn K g = true
  opq : PySem.W.nsIn K cStatics "thirdparty.any" = some none
  nosup : mg "super" = none
def tSuper (C : Addr) (si : Sp) (Ei : XK) (ta : TA) : TE := fun σ H Q => ∃ (a dx : Addr) (fs : List (Str × V)), σ[0]? = some (some (.ref a)) ∧ H a = some (.ins C dx fs) ∧ ta σ H fun ws H1 => si (.ref a :: ws) H1 Q Ei
theorem pea_super {CX : CXT} {X : Cx} {body : List Stmt} {f g cc cda C D : Addr} {fd0 gd : FuncData} {oc : Value} {od : Option Addr} {osl : Array (Option Value)} {qs : List Str} {si : Sp} {Ei : XK} {e : Expr} {es : List Expr} {m file : Str} {p0 p1 p2 p3 : Pos} {ar : Arg} {pl : Sem Bool} {ta : TA} {j : Nat}
    (lk : X.K.lookup f = some ⟨oc, od, .func fd0, osl⟩) (SC : SupM X.K X.mg C D cc cda g m file) (hfile : ((X.prog.main.file : Str) == file) = true) (htop : (X.prog.main.scope.names.lookup ("super" : Str)).isSome = false) (hpar : (fd0.params.posonlyargs ++ fd0.params.args).head? = some ar) (hN : X.N[0]? = some ar.arg)
    (hkind : X.env.scope.kind = .function) (hka : X.env.scope.names.lookup ar.arg = some .local) (hks : X.env.scope.names.lookup ("super" : Str) = some .globalImplicit) (hkc : X.env.scope.names.lookup ("__class__" : Str) = some .free) (hfu : X.env.func = some f) (hco : X.env.code = .ref cda) (hcl : X.env.cells.lookup ("__class__" : Str) = some cc) (hgl : X.env.globals = mainGlobals) (hbn : X.env.builtins = builtinsNs)
    (G : FnOk X.prog X.w X.K X.mg X.base CX j g gd qs si) (bd : Binds X.K gd qs []) (hr : Room j X.A) (hpass : Passes CX X Ei) (hpa : PA X (e :: es) ta) (hm : (m == ("__class__" : Str)) = false)
    (hev : eval (.Call (.Attribute (.Call (.Name "super" p0) [] [] p1) m p2) (e :: es) [] p3) X.env = (do
      let ov ← attributeBase (.Call (.Name "super" p0) [] [] p1) m X.env (eval (.Call (.Name "super" p0) [] [] p1) X.env)
      standAt p2.atName
      let (f', first) ← holding [ov] (getMethod ov m pl)
      callWith p3 f' first (backTo p3 (starEach (e :: es) X.env)) []))
    (hst : starEach (e :: es) X.env = (false, eval e X.env) :: starEach es X.env) (hpl : (backTo p3 (starEach es X.env)).any (·.1) = false) :
    PEA X (.func body X.env) (.Call (.Attribute (.Call (.Name "super" p0) [] [] p1) m p2) (e :: es) [] p3) (tSuper C si Ei ta) := by
  refine ⟨fun pins s σ H Q I h => ?_⟩
  obtain ⟨a, dx, fs, h0, ha, hq⟩ := h
  obtain ⟨cl, cld, csl, hcell⟩ := SC.cell
  obtain ⟨ccl, cdd, fv, ccs, tf, hcode, hfv⟩ := SC.code
  obtain ⟨cdD, hD⟩ := SC.isD
  refine ks_wpAt_MethodCall (pl := pl) ?_ hev
  have KI := I.kIn
  refine ks_wpAt_super_base hks hkc hm hfu (KI _ _ lk) rfl hpar hco (KI _ _ hcode) rfl hfv hfile htop ?_
  obtain ⟨mb, hb1, hb2⟩ := I.mod.blt
  refine PySem.W.ks_loadName_global hkind hks (Calls.loadGlobal_builtin (env := X.env) (mg := X.mg) (by rw [hgl]; exact I.mod.glob.keeps I.bk) SC.nosup (by rw [hbn]; exact hb1.keeps I.bk) ((hb2 "super" (by decide)).trans (by rfl)) ⟨rfl, ?_⟩)
  refine wpAny_loadName_free hkind hkc hcl ⟨_, KI _ _ hcell, rfl⟩ ?_
  obtain ⟨mm, hn, hl'⟩ := I.loc
  obtain ⟨u, ru, lku⟩ := hl' 0 ar.arg (.ref a) hN h0 (.inl hka)
  cases (show u = Value.ref a from ru)
  have hmu : mm ar.arg = some (.ref a) := by
    rcases lku with ⟨_, z⟩ | ⟨z, _⟩
    · exact z
    · have hk' : X.env.scope.names.lookup ar.arg = some .cell ∨ X.env.scope.names.lookup ar.arg = some .free := z
      rw [hka] at hk'
      rcases hk' with z | z <;> cases z
  refine wpAny_loadName_local hkind hka hn hmu ?_
  obtain ⟨oD, hD1, hD2⟩ : ∃ oD, s.heap.get? D = some oD ∧ oD.data = .cls cdD := by
    unfold PySem.W.clsIn at hD
    split at hD
    · rename_i c d cd' sl ho
      cases hD
      exact ⟨_, KI _ _ ho, rfl⟩
    · cases hD
  obtain ⟨hh, gg, dd, tt, oo⟩ := s
  refine ks_wpAny_isType_cls hD1 hD2 (And.intro rfl ?_)
  obtain ⟨hoa, oda, J⟩ := inst_of' I ha
  refine ks_wpAny_call_super hD1 hD2 J.at_ J.cls (fun c z => ?_) (PySem.W.looks_mroIn KI SC.sub) (fun h2 e2 k2 => ?_)
  · have := J.no
    unfold PySem.W.notCls at this
    rw [z] at this
    exact Bool.noConfusion this
  have I2 := I.kept (h' := h2) (t' := tt) k2
  have K2 := I2.kIn
  obtain ⟨hoa2, oda2, J2⟩ := inst_of' I2 ha
  have sup := SC.sup
  unfold PySem.W.ks_superIn at sup
  cases hc : PySem.W.clsIn X.K C with
  | none => rw [hc] at sup; cases sup
  | some cdC =>
  rw [hc] at sup
  obtain ⟨og, hog, hogc⟩ : ∃ og, h2.get? g = some og ∧ og.cls = .type "function" := by
    have ht' : (X.K.lookup g).map (·.cls) = some (.type "function") := SC.tg
    cases z : X.K.lookup g with
    | none =>
      rw [z] at ht'
      cases ht'
    | some og =>
      rw [z] at ht'
      exact ⟨og, K2 _ _ z, Option.some.inj ht'⟩
  refine ks_wpAny_getMethod_super e2 (PySem.W.looks_opaque K2 SC.opq) (l₀ := cdC.mro) (fun A Q E s k q => wpAny_bind ((PySem.W.looks_clsIn K2 hc) A _ E s k (wpAny_pure q))) rfl K2 sup hog hogc (PySem.W.ks_ne K2 J2 hc) hm ?_
  have I3 : Inv X ((h2.objs.size, PySem.W.methodObj (.ref g) (.ref a)) :: pins) σ H ⟨h2.push (PySem.W.methodObj (.ref g) (.ref a)), gg, dd, tt + 1, oo⟩ :=
    pin_new (s := ⟨h2, gg, dd, tt, oo⟩) I2 (fun _ _ z => Heap.get?_push_of_some _ z) (Nat.le_refl _) (Heap.get?_push_size h2 rfl) (fun v z => nomatch z)
  have hbq : X.base.get? h2.objs.size = none := base_none I2 (Nat.le_refl _)
  have hL : h2.objs.size ≠ X.env.locals := (I3.pin (h2.objs.size, PySem.W.methodObj (.ref g) (.ref a)) (List.mem_append_right _ List.mem_cons_self)).2.2.1
  refine PySem.W.callWith_M (K := X.K) (h₀ := X.base) (first := []) I.mod.kin (news_at hL hbq (pin_at I3)) List.mem_cons_self SC.fg ?_ hst hpl
  refine wpAny_mono (hpa.run p3 _ _ _ H _ I3 hq) (fun ws s4 h4 => ?_) fun _ _ z => z
  obtain ⟨vs4, H4, I4, r4, q4⟩ := h4
  refine ⟨⟨pin_at I4, I4.kIn⟩, ?_⟩
  have lenq : (Value.ref a :: ws).length = qs.length := by
    have z := G.len _ _ _ _ q4
    rw [← z, List.length_cons, List.length_cons, r4.length]
  have bound := bd s4 (Value.ref a :: ws) I4.kIn (by rw [List.append_nil]; exact lenq)
  rw [List.append_nil] at bound
  refine wpAny_mono (Q := fun u s' => EP X ((h2.objs.size, PySem.W.methodObj (.ref g) (.ref a)) :: pins) σ Q u s')
    (wpAny_call (PySem.W.method_call (pin_at I4) (codeAny_mono (G.run _ _ s4 H4 ⟨Value.ref a :: ws, []⟩ (Value.ref a :: ws) (.ref a :: vs4) _ Ei hr I4.env0 bound (.cons rfl r4) q4) fun rr s' back => ?_))) (fun u s5 h5 => unpinE h5) fun _ _ z => z
  cases rr with
  | error er => exact hpass _ _ _ _ er s' I4 back
  | ok fl =>
    cases fl with
    | ret u => exact I4.after back
    | next => exact back.elim
    | brk => exact back.elim
    | cont => exact back.elim
/-- a method whose block says super() somewhere -/
theorem fn_at {CX : CXT} {P : Program} {w : World} {K : PySem.W.Frag} {mg : Str → Option Value} {base : Heap} {k : Nat} {f cc cda : Addr} {name qual : Str} {params : Arguments} {scope : Scope} {dV kV doc pm ct oc : Value} {an od : Option Addr}
    {osl : Array (Option Value)} {N ps : List Str} {sp : Sp} {body : List Stmt} {D : Addr} (lk : K.lookup f = some ⟨oc, od, .func (PySem.W.ksFn name qual params body scope dV kV doc pm an (.ref cda) ct cc), osl⟩) (hcd : PySem.W.codeIn K (.ref cda) qual = true) (S : NScope N ps ["__class__"] scope)
    (cell : ∃ cl cld csl, K.lookup cc = some ⟨cl, cld, .cell (some (.ref D)), csl⟩) (len : ∀ vs H Q E, sp vs H Q E → vs.length = ps.length)
    (hbody : ∀ (A : Around) (outer : List Env) (s : Shared) (H : Hp) (vs : List V) (Q : VK) (E : XK), Room k (A.deeper (PySem.W.ksEnv qual scope s.heap.objs.size f (.ref cda) cc)) → sp vs H Q E →
      ∃ t, PSAs (ncx CX P w K mg base N ⟨name, qual, params, body, scope, [("__class__", cc)], cda⟩ f A outer s H E) (.func body (PySem.W.ksEnv qual scope s.heap.objs.size f (.ref cda) cc)) body t ∧ t { nx := fun _ H' => Q .non H', rt := Q } (startF N vs [none]) H) :
    FnOk P w K mg base CX (k + 1) f (PySem.W.ksFn name qual params body scope dV kV doc pm an (.ref cda) ct cc) ps sp := by
  refine ⟨len, fun A outer s H args us vs Q E hr e0 hb r asked => ?_⟩
  have hl := len _ _ _ _ asked
  have kb : ∀ b o, base.get? b = some o → s.heap.get? b = some o := fun b o z => (e0.bs b o z).1
  have KX : K.In s.heap := e0.mod.kin.keeps kb
  have lim : s.heap.NoLimit := e0.mod.nolimit.keeps kb
  obtain ⟨cl, cld, csl, hcell⟩ := cell
  have C0 : CellsAt [("__class__", cc)] ["__class__"] [none] s.heap H := by
    refine ⟨rfl, fun y c z => ?_, fun y z c h1 h2 => ?_, fun i y z => ?_⟩
    · have hc : c = cc := by
        simp only [List.lookup] at z
        split at z
        · exact (Option.some.inj z).symm
        · cases z
      subst hc
      exact ⟨(e0.bs _ _ (e0.mod.kin _ _ hcell)).2, _, _, KX _ _ hcell, rfl⟩
    · have one : ∀ {t : Str}, [(("__class__" : Str), cc)].lookup t = some c → t = "__class__" := fun {t} h => by
        simp only [List.lookup] at h
        split at h
        · exact beq_iff_eq.mp (by assumption)
        · cases h
      rw [one h1, one h2]
    · have hy : y = "__class__" := by
        cases i with
        | zero => simpa using z.symm
        | succ n => simp at z
      subst hy
      exact ⟨cc, rfl, fun v h => by cases i <;> simp at h⟩
  refine ks_codeAny_call_defAt (fd := PySem.W.ksFn name qual params body scope dV kV doc pm an (.ref cda) ct cc) (body := body) (binds := ps.zip us) hr.depth (KX _ _ lk) rfl lim (PySem.W.codeRec_of KX hcd) rfl hb S.nocell (fun ⟨n, _⟩ hy => S.par n (List.of_mem_zip hy).1) (fun h₁ hns kp => ?_) S.co S.gen S.kind
  obtain ⟨t, hps, hq⟩ := hbody A outer s H vs Q E (hr.deeper _) asked
  have I : Inv (ncx CX P w K mg base N ⟨name, qual, params, body, scope, [("__class__", cc)], cda⟩ f A outer s H E) [] (startF N vs [none]) H { s with heap := h₁, toks := s.toks + (ps.zip us).length } := inv_startN (F := ⟨name, qual, params, body, scope, [("__class__", cc)], cda⟩) S hr.hd e0 hl r C0 hns kp
  refine ks_wpAt_mono (hps.run [] _ _ H _ I hq) (fun fl s' hs => ?_) fun er s' hs => hs
  have last : ∀ {τ : L2.St} {G' : Hp} {x : V} {y : Value}, Inv (ncx CX P w K mg base N ⟨name, qual, params, body, scope, [("__class__", cc)], cda⟩ f A outer s H E) [] τ G' s' → L2.RelV x y → Q x G' → CE outer P w H s Q y s' :=
    fun {_ G' x _} Z rel z => ⟨x, G', Z.os, Z.bare, Z.base, Z.hok, rel, z⟩
  cases fl with
  | next =>
    obtain ⟨_, _, Z, z⟩ := hs
    exact last (x := V.non) (y := Value.none) Z rfl z
  | ret y =>
    obtain ⟨_, _, _, Z, rel, z⟩ := hs
    exact last Z rel z
  | brk => exact hs.elim fun _ ⟨_, _, z⟩ => z.elim
  | cont => exact hs.elim fun _ ⟨_, _, z⟩ => z.elim
/-- tuple(x) within a comprehension: its reading without the context -/
def rTupOf (K : PySem.W.Frag) : List V → Hp → VK → Prop := fun xs H Q => ∃ p ys, xs = [V.ref p] ∧ ((SqL K H p ys ∧ ∀ l, H l = none → Q (.ref l) (upd H l (.tup ys))) ∨ (SqT K H p ys ∧ Q (.ref p) H))

/-! ### first, *rest = a list -/
section
open PySem PySem.Spec PySem.W PySem.Calls PyProof.Rows
variable {prog : Program} {w : World} {A : Around} {E : Value → Shared → Prop} {s : Shared}
theorem star_items {l : Addr} {items : Array Value} {y : Value} {ys : List Value} {Q : List Value → Shared → Prop} (hl : s.heap.IsList l items) (hh : A.handled = none) (e : items.toList = y :: ys) (hz : ys.length ≤ 1000)
    (h : ∀ (h' : Heap) (tk : Nat), (∀ b o, s.heap.get? b = some o → h'.get? b = some o) → Q [y, .ref h'.objs.size] { s with heap := h'.push { cls := .type "list", data := .seq ys.toArray }, toks := tk }) : wpAny (model prog w) A (unpackItems (.ref l) 2 (some 1)) Q E s := by
  have sz : items.size = ys.length + 1 := by
    rw [← Array.length_toList, e, List.length_cons]
  have hlt : l ≠ s.heap.objs.size := by
    obtain ⟨o, ho, _⟩ := hl
    exact Nat.ne_of_lt (Heap.lt_size ho)
  unfold unpackItems
  refine wpAny_bind ?_
  unfold notIterableAtAll
  refine wpAny_bind (wpAny_specialOf hl.typeIs slot_list_iter.lookup (wpAny_pure ?_))
  simp only [Bool.false_eq_true, if_false]
  refine wpAny_bind (wpAny_holding (wpAny_pyIter_list hl ?_))
  refine wpAny_bind (wpAny_holding (kun_draw hlt 1 0 _ _ ⟨_, Heap.get?_push_size _ rfl, rfl, rfl⟩ (hl.push _) (by omega) fun h1 it1 sb => ?_))
  have hl1 : h1.IsList l items := (hl.push _).extBut sb.extBut hlt
  have li : s.heap.objs.size < h1.objs.size := by
    obtain ⟨o, ho, _⟩ := it1
    exact Heap.lt_size ho
  have ll : l < h1.objs.size := by
    obtain ⟨o, ho, _⟩ := hl1
    exact Heap.lt_size ho
  rw [List.drop_zero, e]
  show wpAny _ _ (if (1 : Nat) < 1 then _ else _) _ _ _
  rw [if_neg (by decide)]
  refine wpAny_bind (wpAny_holding (kun_collect (s := { s with heap := h1 }) (T := "list_iterator") (.inr (.inr (.inl rfl))) (Walks.list (A := A.in1) hh s.heap.objs.size l hlt items) (fun j u st => st.1.typeIs) (k := 1) (by omega) ⟨it1, hl1⟩ li ll (fun h2 tk hk => ?_) (by rw [sizeLine_eq]; omega)))
  rw [e]
  show wpAny _ _ (if ys.length < 0 then _ else _) _ _ _
  rw [if_neg (Nat.not_lt_zero _)]
  show wpAny _ _ (newList (ys.take ys.length) >>= fun d => pure ([y] ++ [d] ++ ys.drop ys.length)) _ _ _
  rw [List.take_length, List.drop_length]
  refine wpAny_bind (wpAny_newList (wpAny_pure ?_) (by rw [sizeLine_eq]; omega))
  exact h h2 tk fun b o q => hk b o (Nat.ne_of_lt (Heap.lt_size q)) (sb.extBut b o (Nat.ne_of_lt (Heap.lt_size q)) (Heap.get?_push_of_some _ q))
theorem star_itemsT {l : Addr} {items : Array Value} {y : Value} {ys : List Value} {Q : List Value → Shared → Prop} (hl : IsTup s.heap l items) (hh : A.handled = none) (e : items.toList = y :: ys) (hz : ys.length ≤ 1000)
    (h : ∀ (h' : Heap) (tk : Nat), (∀ b o, s.heap.get? b = some o → h'.get? b = some o) → Q [y, .ref h'.objs.size] { s with heap := h'.push { cls := .type "list", data := .seq ys.toArray }, toks := tk }) : wpAny (model prog w) A (unpackItems (.ref l) 2 (some 1)) Q E s := by
  have sz : items.size = ys.length + 1 := by
    rw [← Array.length_toList, e, List.length_cons]
  have hlt : l ≠ s.heap.objs.size := by
    obtain ⟨o, ho, _⟩ := hl
    exact Nat.ne_of_lt (Heap.lt_size ho)
  unfold unpackItems
  refine wpAny_bind ?_
  unfold notIterableAtAll
  refine wpAny_bind (wpAny_specialOf hl.typeIs slot_tuple_iter.lookup (wpAny_pure ?_))
  simp only [Bool.false_eq_true, if_false]
  refine wpAny_bind (wpAny_holding (iter_tuple hl ?_))
  refine wpAny_bind (wpAny_holding (draw_tuple hlt 1 0 _ _ ⟨_, Heap.get?_push_size _ rfl, rfl, rfl⟩ (hl.push _) (by omega) fun h1 it1 sb => ?_))
  have hl1 : IsTup h1 l items := (hl.push _).extBut sb.extBut hlt
  have li : s.heap.objs.size < h1.objs.size := by
    obtain ⟨o, ho, _⟩ := it1
    exact Heap.lt_size ho
  have ll : l < h1.objs.size := by
    obtain ⟨o, ho, _⟩ := hl1
    exact Heap.lt_size ho
  rw [List.drop_zero, e]
  show wpAny _ _ (if (1 : Nat) < 1 then _ else _) _ _ _
  rw [if_neg (by decide)]
  refine wpAny_bind (wpAny_holding (kun_collect (s := { s with heap := h1 }) (T := "tuple_iterator") (.inr (.inr (.inr rfl))) (Walks.tuple (A := A.in1) hh s.heap.objs.size l hlt items) (fun j u st => st.1.typeIs) (k := 1) (by omega) ⟨it1, hl1⟩ li ll (fun h2 tk hk => ?_) (by rw [sizeLine_eq]; omega)))
  rw [e]
  show wpAny _ _ (if ys.length < 0 then _ else _) _ _ _
  rw [if_neg (Nat.not_lt_zero _)]
  show wpAny _ _ (newList (ys.take ys.length) >>= fun d => pure ([y] ++ [d] ++ ys.drop ys.length)) _ _ _
  rw [List.take_length, List.drop_length]
  refine wpAny_bind (wpAny_newList (wpAny_pure ?_) (by rw [sizeLine_eq]; omega))
  exact h h2 tk fun b o q => hk b o (Nat.ne_of_lt (Heap.lt_size q)) (sb.extBut b o (Nat.ne_of_lt (Heap.lt_size q)) (Heap.get?_push_of_some _ q))
end
section
variable {X : Cx} {pos : Pos}
def gSt1 (K : PySem.W.Frag) (t u : TG) : TG := fun v σ H Q => ∃ (a : Addr) (x : V) (xs : List V), v = .ref a ∧ SqL K H a (x :: xs) ∧ xs.length ≤ 1000 ∧ ∀ D, H D = none → t x σ (upd H D (.lst xs)) fun σ' H' => u (.ref D) σ' H' Q
theorem pg_st1 {e1 e2 : Expr} {p2 : Pos} {k : Nat} {t u : TG} (hc : X.calm = true) (h1 : PG X e1 t) (h2 : PG X e2 u)
    (hs : assignEach [e1, .Starred e2 p2] X.env = [(false, assign e1 X.env), (true, assign e2 X.env)] := by rfl) : PG X (.Tuple [e1, .Starred e2 p2] k pos) (gSt1 X.K t u) := by
  refine ⟨fun pins s σ H v uv Q I r hw => ?_⟩
  obtain ⟨a, x, xs, ea, hq, hx, hw⟩ := hw
  subst ea
  cases r
  obtain ⟨its, rv, pl, hz⟩ := I.list hq
  have hl : s.heap.IsList a its.toArray := pl.isList
  cases rv with
  | @cons _ y _ ys ry rys =>
    have ln := rys.length
    rw [PyProof.Rows.assign_Tuple]
    refine wpAny_bind (wpAny_standAt ?_)
    unfold unpack
    rw [hs]
    refine wpAny_bind (wpAny_holding (star_items (y := y) (ys := ys) hl (I.ok.hd hc) rfl (by omega) fun h' tk kp => ?_))
    have J : Inv X pins σ H { s with heap := h', toks := tk } := I.kept (t' := tk) kp
    have fr := J.hok.fresh (Nat.le_refl _)
    have J2 : Inv X pins σ (upd H h'.objs.size (.lst xs)) { s with heap := h'.push { cls := .type "list", data := .seq ys.toArray }, toks := tk } :=
      J.laid (t' := tk) (fun b o q => Heap.get?_push_of_some _ q) (Nat.le_refl _) (show ObjOk X.prog X.w _ _ _ (.lst xs) from ⟨Nat.le_trans hx (by decide), ys, 0, rys, Heap.get?_push_size _ rfl⟩)
    refine assignInOrder_cons (thn (h1.run pins _ σ _ x y _ J2 ry (hw _ fr)) fun _ s1 ⟨σ1, H1, I1, q1⟩ => ?_)
    exact assignInOrder_cons (thn (h2.run pins _ σ1 H1 (.ref h'.objs.size) _ Q I1 rfl q1) fun _ s2 ⟨σ2, H2, I2, q2⟩ => assignInOrder_nil ⟨σ2, H2, I2, q2⟩)
def gSt1T (K : PySem.W.Frag) (t u : TG) : TG := fun v σ H Q => ∃ (a : Addr) (x : V) (xs : List V), v = .ref a ∧ SqT K H a (x :: xs) ∧ xs.length ≤ 1000 ∧ ∀ D, H D = none → t x σ (upd H D (.lst xs)) fun σ' H' => u (.ref D) σ' H' Q
theorem pg_st1T {e1 e2 : Expr} {p2 : Pos} {k : Nat} {t u : TG} (hc : X.calm = true) (h1 : PG X e1 t) (h2 : PG X e2 u)
    (hs : assignEach [e1, .Starred e2 p2] X.env = [(false, assign e1 X.env), (true, assign e2 X.env)] := by rfl) : PG X (.Tuple [e1, .Starred e2 p2] k pos) (gSt1T X.K t u) := by
  refine ⟨fun pins s σ H v uv Q I r hw => ?_⟩
  obtain ⟨a, x, xs, ea, hq, hx, hw⟩ := hw
  subst ea
  cases r
  obtain ⟨its, rv, hl, hz⟩ := I.tuple hq
  cases rv with
  | @cons _ y _ ys ry rys =>
    have ln := rys.length
    rw [PyProof.Rows.assign_Tuple]
    refine wpAny_bind (wpAny_standAt ?_)
    unfold unpack
    rw [hs]
    refine wpAny_bind (wpAny_holding (star_itemsT (y := y) (ys := ys) hl (I.ok.hd hc) rfl (by omega) fun h' tk kp => ?_))
    have J : Inv X pins σ H { s with heap := h', toks := tk } := I.kept (t' := tk) kp
    have fr := J.hok.fresh (Nat.le_refl _)
    have J2 : Inv X pins σ (upd H h'.objs.size (.lst xs)) { s with heap := h'.push { cls := .type "list", data := .seq ys.toArray }, toks := tk } :=
      J.laid (t' := tk) (fun b o q => Heap.get?_push_of_some _ q) (Nat.le_refl _) (show ObjOk X.prog X.w _ _ _ (.lst xs) from ⟨Nat.le_trans hx (by decide), ys, 0, rys, Heap.get?_push_size _ rfl⟩)
    refine assignInOrder_cons (thn (h1.run pins _ σ _ x y _ J2 ry (hw _ fr)) fun _ s1 ⟨σ1, H1, I1, q1⟩ => ?_)
    exact assignInOrder_cons (thn (h2.run pins _ σ1 H1 (.ref h'.objs.size) _ Q I1 rfl q1) fun _ s2 ⟨σ2, H2, I2, q2⟩ => assignInOrder_nil ⟨σ2, H2, I2, q2⟩)
end
/-! ### errors of one field -/
def errH1 (H : Hp) (a C dx : Addr) (f : Str) (x : V) : Hp := upd (upd H dx (exd dx [(f, x)])) a (exo a C (some dx))
theorem raise1 {C : Addr} {f : Str} {x : V} {H : Hp} {Q : XK} (hq : ∀ d, H d = none → Q (.ref C) (some d) (upd H d (.xd [(f, x)]))) {a dx : Addr} (na : H a = none) (nd : upd H a (exo a C none) dx = none) (ne : dx ≠ a) :
    V.non = .non ∧ ∃ (d : Addr) (fs : List (Str × V)), errH1 (upd H a (exo a C none)) a C dx f x a = some (exo a C (some d)) ∧ errH1 (upd H a (exo a C none)) a C dx f x d = some (exd d fs) ∧ H d = none ∧
      Q (.ref C) (some d) (upd (del (errH1 (upd H a (exo a C none)) a C dx f x) a) d (.xd fs)) := by
  rw [upd_ne ne] at nd
  refine ⟨rfl, dx, [(f, x)], ?_, ?_, nd, ?_⟩
  · unfold errH1
    rw [upd_same]
  · unfold errH1
    rw [upd_ne ne, upd_same]
  · have e : upd (del (errH1 (upd H a (exo a C none)) a C dx f x) a) dx (.xd [(f, x)]) = upd H dx (.xd [(f, x)]) := by
      funext b
      by_cases h1 : b = dx
      · rw [h1, upd_same, upd_same]
      · rw [upd_ne h1, upd_ne h1]
        by_cases h2 : b = a
        · rw [h2, del_same, na]
        · rw [del_ne h2]
          unfold errH1
          rw [upd_ne h2, upd_ne h1, upd_ne h2]
    rw [e]
    exact hq dx nd
/-- a list of wishes -/
def Good (ns : List Int) : Prop := ns.Nodup ∧ ∀ n ∈ ns, 0 ≤ n
theorem made1 {H : Hp} {x dx C : Addr} (nx : H x = none) (nd : H dx = none) : Same H (upd (upd H dx (.own x)) x (.ins C dx [])) := fun b o e => by
  rw [upd_ne (ne_of_none e nx), upd_ne (ne_of_none e nd)]
  exact e
theorem drop_cons {ns : List Int} {i : Nat} {n : Int} (h : ns[i]? = some n) : ns.drop i = n :: ns.drop (i + 1) := by
  have lt : i < ns.length := (List.getElem?_eq_some_iff.mp h).1
  rw [List.drop_eq_getElem_cons lt]
  rw [List.getElem?_eq_getElem lt] at h
  rw [Option.some.inj h]
/-- the naturals as whole numbers -/
def cz (l : List Nat) : List Int := l.map fun n : Nat => (n : Int)
theorem cz_len (l : List Nat) : (cz l).length = l.length := List.length_map _
theorem czv_len (l : List Nat) : ((cz l).map V.int).length = l.length := (List.length_map _).trans (cz_len l)
theorem cz_at {l : List Nat} {i n : Nat} (h : l[i]? = some n) : ((cz l).map V.int)[i]? = some (.int (n : Int)) := by
  unfold cz
  rw [List.getElem?_map, List.getElem?_map, h]
  rfl
theorem cz_of {l : List Nat} {i : Nat} {x : V} (h : ((cz l).map V.int)[i]? = some x) : ∃ n : Nat, x = .int (n : Int) ∧ l[i]? = some n := by
  unfold cz at h
  rw [List.getElem?_map, List.getElem?_map] at h
  cases e : l[i]? with
  | none =>
    rw [e] at h
    cases h
  | some n =>
    rw [e] at h
    exact ⟨n, (Option.some.inj h).symm, rfl⟩
theorem to_cz : ∀ (l : List Int), (∀ n ∈ l, 1 ≤ n ∧ n ≤ 10 ^ 18) → ∃ q : List Nat, cz q = l ∧ q.length = l.length ∧ ∀ n ∈ q, 0 < n ∧ n ≤ 10 ^ 18
  | [], _ => ⟨[], rfl, rfl, fun _ h => by cases h⟩
  | n :: r, h => by
    obtain ⟨q, e, el, hq⟩ := to_cz r fun m hm => h m (List.mem_cons_of_mem _ hm)
    obtain ⟨h1, h2⟩ := h n List.mem_cons_self
    refine ⟨n.toNat :: q, ?_, by rw [List.length_cons, List.length_cons, el], fun m hm => ?_⟩
    · show ((n.toNat : Nat) : Int) :: cz q = n :: r
      rw [e, Int.toNat_of_nonneg (by omega)]
    · rcases List.mem_cons.mp hm with rfl | hm
      · omega
      · exact hq m hm
theorem big9 : (0 : Int) < 10 ^ 9 - 1 ∧ (10 : Int) ^ 9 - 1 < 2 ^ 100 := by decide
theorem cz_take (q : List Nat) (m : Nat) : ((cz q).map V.int).take m = (cz (q.take m)).map V.int := by
  unfold cz
  rw [List.map_take, List.map_take]
/-- the greatest common divisor of all -/
def gl (l : List Nat) : Nat := l.foldl Nat.gcd 0
theorem foldl_dvd (l : List Nat) : ∀ a, l.foldl Nat.gcd a ∣ a ∧ ∀ n ∈ l, l.foldl Nat.gcd a ∣ n := by
  induction l with
  | nil => exact fun a => ⟨Nat.dvd_refl a, fun _ h => by cases h⟩
  | cons x r ih =>
    intro a
    obtain ⟨h1, h2⟩ := ih (Nat.gcd a x)
    refine ⟨Nat.dvd_trans h1 (Nat.gcd_dvd_left a x), fun n hn => ?_⟩
    rcases List.mem_cons.mp hn with rfl | hn
    · exact Nat.dvd_trans h1 (Nat.gcd_dvd_right a _)
    · exact h2 n hn
theorem gl_dvd {l : List Nat} {n : Nat} (h : n ∈ l) : gl l ∣ n := (foldl_dvd l 0).2 n h
theorem foldl_div (g : Nat) (hg : 0 < g) (l : List Nat) : ∀ a, g ∣ a → (∀ n ∈ l, g ∣ n) → (l.map (· / g)).foldl Nat.gcd (a / g) = l.foldl Nat.gcd a / g := by
  induction l with
  | nil => exact fun _ _ _ => rfl
  | cons x r ih =>
    intro a ha hl
    show (r.map (· / g)).foldl Nat.gcd (Nat.gcd (a / g) (x / g)) = r.foldl Nat.gcd (Nat.gcd a x) / g
    rw [Nat.gcd_div ha (hl x List.mem_cons_self)]
    exact ih _ (Nat.dvd_gcd ha (hl x List.mem_cons_self)) fun n hn => hl n (List.mem_cons_of_mem _ hn)
theorem gl_div {l : List Nat} (h : 0 < gl l) : gl (l.map (· / gl l)) = 1 := by
  have e := foldl_div (gl l) h l 0 (Nat.dvd_zero _) fun n hn => gl_dvd hn
  rw [Nat.zero_div] at e
  exact e.trans (Nat.div_self h)
theorem gl_pos {a : Nat} {l : List Nat} (h : 0 < a) : 0 < gl (a :: l) := Nat.pos_of_dvd_of_pos (gl_dvd List.mem_cons_self) h
theorem gl_snoc (l : List Nat) (n : Nat) : gl (l ++ [n]) = Nat.gcd (gl l) n := by
  unfold gl
  rw [List.foldl_append]
  rfl

theorem ite2N {c A B : Prop} [Decidable c] (h1 : ¬ c → A) (h2 : c → B) : if (!decide c) = true then A else B := by
  by_cases h : c
  · rw [decide_eq_true h]
    exact iteF (h2 h)
  · rw [decide_eq_false h]
    exact iteT (h1 h)
/-- counts of a row: none below 0, none above 0 of a thing that is not in the lot -/
def cntB (ls : List Int) : List Int → Nat → Bool
  | [], _ => true
  | c :: r, j => if c < 0 then false else if c > 0 ∧ ¬ inV (.int (j : Int)) (ls.map V.int) = true then false else cntB ls r (j + 1)
def fitR (ls : List Int) (t : Int) (cs : List Int) : Bool := cntB ls cs 0 && (decide (t ≥ 1) && decide (cs.sum ≤ t))
/-- a row of the right length and form -/
def rowOk (m n : Nat) : List Int → Bool
  | [] => false
  | t :: cs => decide (cs.length = m) && fitR (lotOf n m) t cs
def badT (m : Nat) : List (List Int) → Nat → Option Nat
  | [], _ => none
  | r :: rs, i => if rowOk m i r = true then badT m rs (i + 1) else some i
inductive DueT | many (m : Int) | table | row (k : Nat) | made
/-- what is due for these rows -/
def dueT (m : Nat) (rows : List (List Int)) : DueT := if m > 6 then .many m else if rows.length ≠ 2 ^ m then .table else
  match badT m rows 0 with
  | some k => .row k
  | none => .made
/-- rows in the heap -/
def RowsL (H : Hp) (us : List Addr) (rows : List (List Int)) : Prop := us.length = rows.length ∧ ∀ (i : Nat) (u : Addr) (r : List Int), us[i]? = some u → rows[i]? = some r → H u = some (.lst (r.map V.int))
theorem RowsL.same {H H' : Hp} {us : List Addr} {rows : List (List Int)} (s : Same H H') (h : RowsL H us rows) : RowsL H' us rows := ⟨h.1, fun i u r h1 h2 => s _ _ (h.2 i u r h1 h2)⟩
theorem RowsL.sx {p C dx : Addr} {fs : List (Str × V)} {H H' : Hp} {us : List Addr} {rows : List (List Int)} (hp : H p = some (.ins C dx fs)) (s : SameX p H H') (h : RowsL H us rows) : RowsL H' us rows := ⟨h.1, fun i u r h1 h2 => by
  have e := h.2 i u r h1 h2
  exact s _ _ (fun z => by
    rw [z, hp] at e
    cases e) e⟩
theorem dropT {l : List (List Int)} {i : Nat} {n : List Int} (h : l[i]? = some n) : l.drop i = n :: l.drop (i + 1) := by
  have lt : i < l.length := (List.getElem?_eq_some_iff.mp h).1
  rw [List.drop_eq_getElem_cons lt]
  rw [List.getElem?_eq_getElem lt] at h
  rw [Option.some.inj h]
theorem lst_sx {p C dx y : Addr} {fs : List (Str × V)} {H H' : Hp} {xs : List V} (hp : H p = some (.ins C dx fs)) (s : SameX p H H') (h : H y = some (.lst xs)) : H' y = some (.lst xs) := s _ _ (fun z => by
  rw [z, hp] at h
  cases h) h
theorem cntB_pos {ls : List Int} : ∀ {cs : List Int} {j : Nat}, cntB ls cs j = true → ∀ c ∈ cs, 0 ≤ c
  | [], _, _, _, h => by cases h
  | x :: r, j, e, c, h => by
    unfold cntB at e
    split at e
    · cases e
    · split at e
      · cases e
      · rcases List.mem_cons.mp h with rfl | h
        · omega
        · exact cntB_pos e c h
theorem badT_ok {m : Nat} {r : List Int} {rs : List (List Int)} {i : Nat} (h : rowOk m i r = true) : badT m (r :: rs) i = badT m rs (i + 1) := (show badT m (r :: rs) i = if rowOk m i r = true then badT m rs (i + 1) else some i from rfl).trans (if_pos h)
theorem badT_no {m : Nat} {r : List Int} {rs : List (List Int)} {i : Nat} (h : ¬ rowOk m i r = true) : badT m (r :: rs) i = some i := (show badT m (r :: rs) i = if rowOk m i r = true then badT m rs (i + 1) else some i from rfl).trans (if_neg h)

theorem rowOk_cz {m n : Nat} {t : Int} {cs : List Int} (h : rowOk m n (t :: cs) = true) : cs.length = m ∧ fitR (lotOf n m) t cs = true := by
  have h : (decide (cs.length = m) && fitR (lotOf n m) t cs) = true := h
  rw [Bool.and_eq_true] at h
  exact ⟨of_decide_eq_true h.1, h.2⟩
theorem row_nats {m n : Nat} {r : List Int} (h : rowOk m n r = true) : ∃ (b : Nat) (ws : List Nat), r = cz (b :: ws) ∧ 0 < b ∧ ws.length = m := by
  cases r with
  | nil => cases h
  | cons t cs =>
    obtain ⟨h1, h2⟩ := rowOk_cz h
    unfold fitR at h2
    rw [Bool.and_eq_true, Bool.and_eq_true] at h2
    have t1 : t ≥ 1 := of_decide_eq_true h2.2.1
    have pos := cntB_pos h2.1
    refine ⟨t.toNat, cs.map Int.toNat, ?_, by omega, by rw [List.length_map]; exact h1⟩
    show t :: cs = ((t.toNat : Nat) : Int) :: (cs.map Int.toNat).map fun n : Nat => (n : Int)
    rw [Int.toNat_of_nonneg (by omega), List.map_map]
    congr 1
    refine (List.map_id cs).symm.trans (List.map_congr_left fun c hc => ?_)
    show c = ((c.toNat : Nat) : Int)
    rw [Int.toNat_of_nonneg (pos c hc)]
theorem badT_all {m : Nat} : ∀ {rows : List (List Int)} {i : Nat}, badT m rows i = none → ∀ (j : Nat) (r : List Int), rows[j]? = some r → rowOk m (i + j) r = true
  | [], _, _, j, r, h => by cases h
  | x :: rs, i, e, j, r, h => by
    by_cases c : rowOk m i x = true
    · rw [badT_ok c] at e
      cases j with
      | zero =>
        cases h
        exact c
      | succ j =>
        have := badT_all e j r h
        rw [show i + (j + 1) = i + 1 + j by omega]
        exact this
    · rw [badT_no c] at e
      cases e
theorem dueT_many {m : Nat} {rows : List (List Int)} (h : m > 6) : dueT m rows = .many m := if_pos h
theorem dueT_table {m : Nat} {rows : List (List Int)} (h : ¬ m > 6) (k : rows.length ≠ 2 ^ m) : dueT m rows = .table := by
  unfold dueT
  rw [if_neg h]
  exact if_pos k
theorem dueT_rest {m : Nat} {rows : List (List Int)} (h : ¬ m > 6) (k : rows.length = 2 ^ m) : dueT m rows = (match badT m rows 0 with
  | some k => .row k
  | none => .made) := by
  unfold dueT
  rw [if_neg h, if_neg fun z => z k]

/-- a row divided by its greatest common divisor -/
def divd (l : List Nat) : List Nat := l.map (· / gl l)
/-- a row of whole numbers from 0 on, divided -/
def divI (r : List Int) : List Int := cz (divd (r.map Int.toNat))
theorem divI_cz (l : List Nat) : divI (cz l) = cz (divd l) := by
  unfold divI
  congr 2
  unfold cz
  rw [List.map_map]
  exact (List.map_congr_left fun n _ => Int.toNat_natCast n).trans (List.map_id l)
def fT (m : Int) (t : Addr) : List (Str × V) := putF "rows" (.ref t) (putF "many" (.int m) [])
theorem fT_many (m : Int) (t : Addr) : (fT m t).lookup ("many" : Str) = some (V.int m) := by rfl
theorem fT_rows (m : Int) (t : Addr) : (fT m t).lookup ("rows" : Str) = some (V.ref t) := by rfl
theorem fT_shares (m : Int) (t : Addr) : (fT m t).lookup ("shares" : Str) = none := by rfl
theorem fT_away (m : Int) (t : Addr) : (fT m t).lookup ("away" : Str) = none := by rfl
/-- rows as tuples -/
def RowsT (H : Hp) (us : List Addr) (rows : List (List Int)) : Prop := us.length = rows.length ∧ ∀ (i : Nat) (u : Addr) (r : List Int), us[i]? = some u → rows[i]? = some r → H u = some (.tup (r.map V.int))
theorem RowsT.same {H H' : Hp} {us : List Addr} {rows : List (List Int)} (s : Same H H') (h : RowsT H us rows) : RowsT H' us rows := ⟨h.1, fun i u r h1 h2 => s _ _ (h.2 i u r h1 h2)⟩
/-- a rule by a table -/
def TAt (C : Addr) (H : Hp) (p : Addr) (m : Int) (rows : List (List Int)) : Prop := ∃ (dx t : Addr) (us : List Addr), H p = some (.ins C dx (fT m t)) ∧ H t = some (.tup (us.map V.ref)) ∧ RowsT H us rows
theorem TAt.same {C : Addr} {H H' : Hp} {p : Addr} {m : Int} {rows : List (List Int)} (s : Same H H') (h : TAt C H p m rows) : TAt C H' p m rows := by
  obtain ⟨dx, t, us, h1, h2, h3⟩ := h
  exact ⟨dx, t, us, s _ _ h1, s _ _ h2, h3.same s⟩
theorem RowsT.snoc {H : Hp} {us : List Addr} {rows : List (List Int)} {u : Addr} {r : List Int} (h : RowsT H us rows) (k : H u = some (.tup (r.map V.int))) : RowsT H (us ++ [u]) (rows ++ [r]) := by
  refine ⟨by rw [List.length_append, List.length_append, h.1]; rfl, fun j v x h1 h2 => ?_⟩
  by_cases hj : j < us.length
  · rw [List.getElem?_append_left hj] at h1
    rw [List.getElem?_append_left (by have := h.1; omega)] at h2
    exact h.2 j v x h1 h2
  · rw [List.getElem?_append_right (by omega)] at h1
    rw [List.getElem?_append_right (by have := h.1; omega)] at h2
    obtain ⟨n, hn⟩ : ∃ n, j - us.length = n := ⟨_, rfl⟩
    rw [← h.1, hn] at h2
    rw [hn] at h1
    cases n with
    | zero =>
      cases h1
      cases h2
      exact k
    | succ n => cases h1
theorem RowsT.put {H : Hp} {D : Addr} {xs : List V} {o : HO} {us : List Addr} {rows : List (List Int)} (hD : H D = some (.lst xs)) (h : RowsT H us rows) : RowsT (upd H D o) us rows := ⟨h.1, fun i u r h1 h2 => by
  have e := h.2 i u r h1 h2
  exact (upd_ne fun z => by
    rw [z, hD] at e
    cases e).trans e⟩
theorem RowsT.sx {p C dx : Addr} {fs : List (Str × V)} {H H' : Hp} {us : List Addr} {rows : List (List Int)} (hp : H p = some (.ins C dx fs)) (s : SameX p H H') (h : RowsT H us rows) : RowsT H' us rows := ⟨h.1, fun i u r h1 h2 => by
  have e := h.2 i u r h1 h2
  exact s _ _ (fun z => by
    rw [z, hp] at e
    cases e) e⟩
theorem two_bd {m : Nat} (h : m ≤ 40) : -(2 ^ 62) ≤ (1 : Int) * 2 ^ ((m : Int)).toNat ∧ (1 : Int) * 2 ^ ((m : Int)).toNat < 2 ^ 62 := by
  rw [Int.one_mul, Int.toNat_natCast]
  have h1 := two_pos m
  have h2 : 2 ^ m ≤ 2 ^ 40 := Nat.pow_le_pow_right (by decide) h
  have e : ((2 ^ m : Nat) : Int) = (2 : Int) ^ m := by
    rw [Int.natCast_pow]
    rfl
  have h3 : ((2 ^ m : Nat) : Int) ≤ ((2 ^ 40 : Nat) : Int) := Int.ofNat_le.mpr h2
  rw [e] at h3
  have e4 : ((2 ^ 40 : Nat) : Int) = 1099511627776 := by decide
  rw [e4] at h3
  exact ⟨by omega, by omega⟩
theorem badT_none {m : Nat} : ∀ {rows : List (List Int)} {i : Nat}, (∀ (j : Nat) (r : List Int), rows[j]? = some r → rowOk m (i + j) r = true) → badT m rows i = none
  | [], _, _ => rfl
  | x :: rs, i, h => by
    have h0 := h 0 x rfl
    rw [Nat.add_zero] at h0
    rw [badT_ok h0]
    refine badT_none fun j r hj => ?_
    have := h (j + 1) r hj
    rw [show i + 1 + j = i + (j + 1) by omega]
    exact this
theorem made_all {m : Nat} {rows : List (List Int)} (hm : m ≤ 6) (l : rows.length = 2 ^ m) (h : ∀ (j : Nat) (r : List Int), rows[j]? = some r → rowOk m j r = true) : dueT m rows = .made := by
  rw [dueT_rest (by omega) l, badT_none fun j r hj => by
    rw [Nat.zero_add]
    exact h j r hj]
theorem TAt.put {C D p : Addr} {H : Hp} {xs : List V} {o : HO} {m : Int} {rows : List (List Int)} (hD : H D = some (.lst xs)) (h : TAt C H p m rows) : TAt C (upd H D o) p m rows := by
  obtain ⟨dx, t, us, h1, h2, h3⟩ := h
  have n1 : p ≠ D := fun z => by
    rw [z, hD] at h1
    cases h1
  have n2 : t ≠ D := fun z => by
    rw [z, hD] at h2
    cases h2
  exact ⟨dx, t, us, (upd_ne n1).trans h1, (upd_ne n2).trans h2, h3.put hD⟩
/-- good rows, none of whose numbers is too large -/
def GoodR (m : Nat) (B : Int) (rs : List (List Int)) : Prop := rs.length = 2 ^ m ∧ (∀ (i : Nat) (r : List Int), rs[i]? = some r → rowOk m i r = true) ∧ ∀ r ∈ rs, r.length = m + 1 ∧ ∀ x ∈ r, 0 ≤ x ∧ x ≤ B
theorem GoodR.le {m : Nat} {B C : Int} {rs : List (List Int)} (h : B ≤ C) (g : GoodR m B rs) : GoodR m C rs := ⟨g.1, g.2.1, fun r hr => ⟨(g.2.2 r hr).1, fun x hx => by
  have := (g.2.2 r hr).2 x hx
  omega⟩⟩
theorem GoodR.nats {m : Nat} {B : Int} {rs : List (List Int)} (g : GoodR m B rs) : ∀ r ∈ rs, ∃ w, r = cz w := fun r hr => by
  obtain ⟨i, hi⟩ := List.getElem?_of_mem hr
  obtain ⟨b, ws, e, _⟩ := row_nats (g.2.1 i r hi)
  exact ⟨_, e⟩
theorem GoodR.wide {m : Nat} {B : Int} {rs : List (List Int)} (hm : m ≤ 6) (hB : B ≤ 10 ^ 19) (g : GoodR m B rs) : ∀ r ∈ rs, r.length ≤ 60 ∧ ∀ x ∈ r, x < 2 ^ 90 := fun r hr => by
  obtain ⟨h1, h2⟩ := g.2.2 r hr
  refine ⟨by omega, fun x hx => ?_⟩
  have := h2 x hx
  omega
theorem big16 : (0 : Int) < 10 ^ 16 ∧ (10 : Int) ^ 16 < 2 ^ 100 := by decide
theorem sum_bnd {B : Int} : ∀ {l : List Int}, (∀ x ∈ l, 0 ≤ x ∧ x ≤ B) → 0 ≤ l.sum ∧ l.sum ≤ (l.length : Int) * B
  | [], _ => ⟨Int.le_refl _, by rw [List.length_nil]; show (0 : Int) ≤ 0 * B; omega⟩
  | x :: r, h => by
    have h1 := h x List.mem_cons_self
    have h2 := sum_bnd fun y hy => h y (List.mem_cons_of_mem _ hy)
    rw [List.sum_cons, List.length_cons, Int.natCast_add, Int.add_mul]
    constructor <;> omega
theorem cntB_of {ls : List Int} : ∀ {cs : List Int} {j : Nat}, (∀ (k : Nat) (c : Int), cs[k]? = some c → 0 ≤ c ∧ (0 < c → inV (.int ((j + k : Nat) : Int)) (ls.map V.int) = true)) → cntB ls cs j = true
  | [], _, _ => rfl
  | c :: r, j, h => by
    have h0 := h 0 c rfl
    rw [show cntB ls (c :: r) j = if c < 0 then false else if c > 0 ∧ ¬ inV (.int (j : Int)) (ls.map V.int) = true then false else cntB ls r (j + 1) from rfl, if_neg (by omega), if_neg fun z => z.2 (h0.2 z.1)]
    refine cntB_of fun k x hk => ?_
    have := h (k + 1) x hk
    rw [show j + 1 + k = j + (k + 1) by omega]
    exact this
theorem RowsL.snoc {H : Hp} {us : List Addr} {rows : List (List Int)} {u : Addr} {r : List Int} (h : RowsL H us rows) (k : H u = some (.lst (r.map V.int))) : RowsL H (us ++ [u]) (rows ++ [r]) := by
  refine ⟨by rw [List.length_append, List.length_append, h.1]; rfl, fun j v x h1 h2 => ?_⟩
  by_cases hj : j < us.length
  · rw [List.getElem?_append_left hj] at h1
    rw [List.getElem?_append_left (by have := h.1; omega)] at h2
    exact h.2 j v x h1 h2
  · rw [List.getElem?_append_right (by omega)] at h1
    rw [List.getElem?_append_right (by have := h.1; omega)] at h2
    obtain ⟨n, hn⟩ : ∃ n, j - us.length = n := ⟨_, rfl⟩
    rw [← h.1, hn] at h2
    rw [hn] at h1
    cases n with
    | zero =>
      cases h1
      cases h2
      exact k
    | succ n => cases h1
/-- a list that is changed is none of the rows -/
theorem RowsL.put {H : Hp} {D : Addr} {o : HO} {us : List Addr} {rows : List (List Int)} (hD : D ∉ us) (h : RowsL H us rows) : RowsL (upd H D o) us rows := ⟨h.1, fun i u r h1 h2 => (upd_ne fun z => hD (by rw [← z]; exact List.mem_of_getElem? h1)).trans (h.2 i u r h1 h2)⟩
theorem RowsL.live {H : Hp} {us : List Addr} {rows : List (List Int)} {D : Addr} (h : RowsL H us rows) (n : H D = none) : D ∉ us := fun m => by
  obtain ⟨i, hi⟩ := List.getElem?_of_mem m
  have li := (List.getElem?_eq_some_iff.mp hi).1
  have := h.2 i D _ hi (List.getElem?_eq_getElem (by have := h.1; omega))
  rw [n] at this
  cases this
def rListOf (K : PySem.W.Frag) : List V → Hp → VK → Prop := fun xs H Q => ∃ p ys, xs = [V.ref p] ∧ (SqL K H p ys ∨ SqT K H p ys) ∧ ∀ l, H l = none → Q (.ref l) (upd H l (.lst ys))
theorem RowsL.uncons {H : Hp} {r : Addr} {rs : List Addr} {w : List Int} {rws : List (List Int)} (h : RowsL H (r :: rs) (w :: rws)) : H r = some (.lst (w.map V.int)) ∧ RowsL H rs rws := ⟨h.2 0 r w rfl rfl, Nat.succ.inj h.1, fun i u ws h1 h2 => h.2 (i + 1) u ws h1 h2⟩
theorem dp_all {K : PySem.W.Frag} {H : Hp} : ∀ {rs : List Addr} {rws : List (List Int)}, RowsL H rs rws → DpAll K H (rs.map V.ref) (rws.map fun ws => .list (ws.map PyData.int))
  | [], [], _ => .nil
  | [], _ :: _, h => by cases h.1
  | _ :: _, [], h => by cases h.1
  | r :: rs, w :: rws, h => .cons (dp_ints (lst_l h.uncons.1)) (dp_all h.uncons.2)
theorem lay_rows : ∀ rws : List (List Int), PyData.canLayAll0 (rws.map fun ws => .list (ws.map PyData.int)) = true
  | [] => rfl
  | w :: r => by
    show ((PyData.list (w.map PyData.int)).canLay0 && PyData.canLayAll0 (r.map fun ws => .list (ws.map PyData.int))) = true
    rw [lay_rows r, show (PyData.list (w.map PyData.int)).canLay0 = true from lay_ints w]
    rfl
theorem depth_rows : ∀ rws : List (List Int), PyData.depthAll (rws.map fun ws => .list (ws.map PyData.int)) ≤ 1
  | [] => Nat.zero_le _
  | w :: r => by
    show max (PyData.depth (.list (w.map PyData.int))) (PyData.depthAll (r.map fun ws => .list (ws.map PyData.int))) ≤ 1
    rw [depth_ints w]
    exact Nat.max_le.mpr ⟨Nat.le_refl _, depth_rows r⟩
theorem sh_ints (ns : List Int) : SeqAt.shaped (.list (ns.map PyData.int)) = true := by
  unfold SeqAt.shaped
  rw [show (PyData.list (ns.map PyData.int)).canLay0 = true from lay_ints ns, depth_ints ns]
  rfl
theorem sh_rows (rws : List (List Int)) : SeqAt.shaped (.list (rws.map fun ws => .list (ws.map PyData.int))) = true := by
  unfold SeqAt.shaped
  rw [show (PyData.list (rws.map fun ws => .list (ws.map PyData.int))).canLay0 = true from lay_rows rws]
  have : PyData.depth (.list (rws.map fun ws => .list (ws.map PyData.int))) ≤ 64 := by
    show PyData.depthAll _ + 1 ≤ 64
    have := depth_rows rws
    omega
  rw [decide_eq_true this]
  rfl
/-- what the top has written of the classes -/
structure Txt (K : PySem.W.Frag) (mg : Str → Option Value) (C_Tabled C_Ratio C_TooMany C_BadTable C_ZeroBottom C_BadLot C_ShelfError C_NotLists : Addr) : Prop where
  g_Tabled : mg "Tabled" = some (.ref C_Tabled)
  kc_Tabled : PySem.W.keepIn K (.ref C_Tabled) = true
  hd_Tabled : PySem.W.hasDictIn K C_Tabled = true
  ha_Tabled : PySem.W.findIn K (.ref C_Tabled) "__class__" = some (some (.builtin "object.__class__"))
  hm_Tabled : PySem.W.mroIn K C_Tabled (.type "object") = some true
  cl_Tabled : Cls K C_Tabled
  mk_Tabled : PySem.W.makesIn K C_Tabled = true
  n_Tabled_many : NoAttr K C_Tabled "many"
  n_Tabled_rows : NoAttr K C_Tabled "rows"
  g_Ratio : mg "Ratio" = some (.ref C_Ratio)
  kc_Ratio : PySem.W.keepIn K (.ref C_Ratio) = true
  hd_Ratio : PySem.W.hasDictIn K C_Ratio = true
  ha_Ratio : PySem.W.findIn K (.ref C_Ratio) "__class__" = some (some (.builtin "object.__class__"))
  hm_Ratio : PySem.W.mroIn K C_Ratio (.type "object") = some true
  cl_Ratio : Cls K C_Ratio
  mk_Ratio : PySem.W.makesIn K C_Ratio = true
  n_Ratio_top : NoAttr K C_Ratio "top"
  n_Ratio_bottom : NoAttr K C_Ratio "bottom"
  sum_Ratio : SumC K C_Ratio
  sf_Ratio : PySem.W.selfFirst K C_Ratio = true
  si_Ratio : PySem.W.subIn K (.type "int") (.ref C_Ratio) = some false
  sr_Ratio : PySem.W.subIn K (.ref C_Ratio) (.type "int") = some false
  rf_Ratio_add : ∃ rc : Option Value, PySem.W.findIn K (.ref C_Ratio) "__radd__" = some rc ∧ (rc = none ∨ ∃ g : Addr, rc = some (.ref g))
  of_Ratio_add : ∃ f0 : Addr, PySem.W.findIn K (.ref C_Ratio) "__add__" = some (some (.ref f0))
  int_add : ∃ fo ro : Option Value, PySem.W.findIn K (.type "int") "__add__" = some fo ∧ PySem.W.findIn K (.type "int") "__radd__" = some ro
  rf_Ratio_sub : ∃ rc : Option Value, PySem.W.findIn K (.ref C_Ratio) "__rsub__" = some rc ∧ (rc = none ∨ ∃ g : Addr, rc = some (.ref g))
  of_Ratio_sub : ∃ f0 : Addr, PySem.W.findIn K (.ref C_Ratio) "__sub__" = some (some (.ref f0))
  int_sub : ∃ fo ro : Option Value, PySem.W.findIn K (.type "int") "__sub__" = some fo ∧ PySem.W.findIn K (.type "int") "__rsub__" = some ro
  g_TooMany : mg "TooMany" = some (.ref C_TooMany)
  kc_TooMany : PySem.W.keepIn K (.ref C_TooMany) = true
  hd_TooMany : PySem.W.hasDictIn K C_TooMany = true
  ha_TooMany : PySem.W.findIn K (.ref C_TooMany) "__class__" = some (some (.builtin "object.__class__"))
  hm_TooMany : PySem.W.mroIn K C_TooMany (.type "object") = some true
  b_TooMany : PySem.W.subIn K (.ref C_TooMany) (.type "BaseException") = some true
  t_TooMany : PySem.W.typeIn K (.ref C_TooMany) = some (.type "type")
  ga_TooMany : PySem.W.findIn K (.ref C_TooMany) "__getattribute__" = some (some (.builtin "BaseException.__getattribute__"))
  gg_TooMany : PySem.W.findIn K (.ref C_TooMany) "__getattr__" = some none
  ox_TooMany : OexC K C_TooMany
  xf_TooMany : XfC K C_TooMany
  n_TooMany_many : PySem.W.findIn K (.ref C_TooMany) "many" = some none
  n_TooMany_most : PySem.W.findIn K (.ref C_TooMany) "most" = some none
  g_BadTable : mg "BadTable" = some (.ref C_BadTable)
  kc_BadTable : PySem.W.keepIn K (.ref C_BadTable) = true
  hd_BadTable : PySem.W.hasDictIn K C_BadTable = true
  ha_BadTable : PySem.W.findIn K (.ref C_BadTable) "__class__" = some (some (.builtin "object.__class__"))
  hm_BadTable : PySem.W.mroIn K C_BadTable (.type "object") = some true
  b_BadTable : PySem.W.subIn K (.ref C_BadTable) (.type "BaseException") = some true
  t_BadTable : PySem.W.typeIn K (.ref C_BadTable) = some (.type "type")
  ga_BadTable : PySem.W.findIn K (.ref C_BadTable) "__getattribute__" = some (some (.builtin "BaseException.__getattribute__"))
  gg_BadTable : PySem.W.findIn K (.ref C_BadTable) "__getattr__" = some none
  ox_BadTable : OexC K C_BadTable
  xf_BadTable : XfC K C_BadTable
  n_BadTable_at : PySem.W.findIn K (.ref C_BadTable) "at" = some none
  g_ZeroBottom : mg "ZeroBottom" = some (.ref C_ZeroBottom)
  kc_ZeroBottom : PySem.W.keepIn K (.ref C_ZeroBottom) = true
  hd_ZeroBottom : PySem.W.hasDictIn K C_ZeroBottom = true
  ha_ZeroBottom : PySem.W.findIn K (.ref C_ZeroBottom) "__class__" = some (some (.builtin "object.__class__"))
  hm_ZeroBottom : PySem.W.mroIn K C_ZeroBottom (.type "object") = some true
  b_ZeroBottom : PySem.W.subIn K (.ref C_ZeroBottom) (.type "BaseException") = some true
  t_ZeroBottom : PySem.W.typeIn K (.ref C_ZeroBottom) = some (.type "type")
  ga_ZeroBottom : PySem.W.findIn K (.ref C_ZeroBottom) "__getattribute__" = some (some (.builtin "BaseException.__getattribute__"))
  gg_ZeroBottom : PySem.W.findIn K (.ref C_ZeroBottom) "__getattr__" = some none
  x_ZeroBottom : PySem.W.excIn K C_ZeroBottom [.type "ValueError", .type "Exception", .type "BaseException", .type "object"] "ValueError.__new__" = true
  g_BadLot : mg "BadLot" = some (.ref C_BadLot)
  kc_BadLot : PySem.W.keepIn K (.ref C_BadLot) = true
  hd_BadLot : PySem.W.hasDictIn K C_BadLot = true
  ha_BadLot : PySem.W.findIn K (.ref C_BadLot) "__class__" = some (some (.builtin "object.__class__"))
  hm_BadLot : PySem.W.mroIn K C_BadLot (.type "object") = some true
  b_BadLot : PySem.W.subIn K (.ref C_BadLot) (.type "BaseException") = some true
  t_BadLot : PySem.W.typeIn K (.ref C_BadLot) = some (.type "type")
  ga_BadLot : PySem.W.findIn K (.ref C_BadLot) "__getattribute__" = some (some (.builtin "BaseException.__getattribute__"))
  gg_BadLot : PySem.W.findIn K (.ref C_BadLot) "__getattr__" = some none
  x_BadLot : PySem.W.excIn K C_BadLot [.type "ValueError", .type "Exception", .type "BaseException", .type "object"] "ValueError.__new__" = true
  g_ShelfError : mg "ShelfError" = some (.ref C_ShelfError)
  kc_ShelfError : PySem.W.keepIn K (.ref C_ShelfError) = true
  hd_ShelfError : PySem.W.hasDictIn K C_ShelfError = true
  ha_ShelfError : PySem.W.findIn K (.ref C_ShelfError) "__class__" = some (some (.builtin "object.__class__"))
  hm_ShelfError : PySem.W.mroIn K C_ShelfError (.type "object") = some true
  b_ShelfError : PySem.W.subIn K (.ref C_ShelfError) (.type "BaseException") = some true
  t_ShelfError : PySem.W.typeIn K (.ref C_ShelfError) = some (.type "type")
  ga_ShelfError : PySem.W.findIn K (.ref C_ShelfError) "__getattribute__" = some (some (.builtin "BaseException.__getattribute__"))
  gg_ShelfError : PySem.W.findIn K (.ref C_ShelfError) "__getattr__" = some none
  g_NotLists : mg "NotLists" = some (.ref C_NotLists)
  kc_NotLists : PySem.W.keepIn K (.ref C_NotLists) = true
  hd_NotLists : PySem.W.hasDictIn K C_NotLists = true
  ha_NotLists : PySem.W.findIn K (.ref C_NotLists) "__class__" = some (some (.builtin "object.__class__"))
  hm_NotLists : PySem.W.mroIn K C_NotLists (.type "object") = some true
  b_NotLists : PySem.W.subIn K (.ref C_NotLists) (.type "BaseException") = some true
  t_NotLists : PySem.W.typeIn K (.ref C_NotLists) = some (.type "type")
  ga_NotLists : PySem.W.findIn K (.ref C_NotLists) "__getattribute__" = some (some (.builtin "BaseException.__getattribute__"))
  gg_NotLists : PySem.W.findIn K (.ref C_NotLists) "__getattr__" = some none
  hnc : PySem.W.specialIn K (.builtin "object.__class__") "__get__" = some (some (.builtin "getset_descriptor.__get__"))
  htk : PySem.W.takesIn K (.builtin "object.__class__") = some true
  sub_BadLot_BadLot : PySem.W.subIn K (.ref C_BadLot) (.ref C_BadLot) = some true
  sub_BadLot_ShelfError : PySem.W.subIn K (.ref C_BadLot) (.ref C_ShelfError) = some true
  kit_Ratio_Ratio : PySem.W.kitOne K (.ref C_Ratio) (.ref C_Ratio) = some true
  kit_int_Ratio : PySem.W.kitOne K (.type "int") (.ref C_Ratio) = some false
  kit_BadLot_ValueError : PySem.W.kitOne K (.ref C_BadLot) (.type "ValueError") = some true
  kit_BadLot_BadLot : PySem.W.kitOne K (.ref C_BadLot) (.ref C_BadLot) = some true
  kit_BadLot_BadTable : PySem.W.kitOne K (.ref C_BadLot) (.ref C_BadTable) = some false
  kit_BadLot_NotLists : PySem.W.kitOne K (.ref C_BadLot) (.ref C_NotLists) = some false
  g_gcd : mg "gcd" = some (.builtin "math.gcd")
  g_MOST_THINGS : ∃ t, mg "MOST_THINGS" = some (.int 24 t)
  g_MOST_TABLED_THINGS : ∃ t, mg "MOST_TABLED_THINGS" = some (.int 6 t)
theorem Txt.ec_TooMany {K : PySem.W.Frag} {mg : Str → Option Value} {C_Tabled C_Ratio C_TooMany C_BadTable C_ZeroBottom C_BadLot C_ShelfError C_NotLists : Addr} (T : Txt K mg C_Tabled C_Ratio C_TooMany C_BadTable C_ZeroBottom C_BadLot C_ShelfError C_NotLists) : ExcC K C_TooMany := ⟨T.ga_TooMany, T.gg_TooMany, T.b_TooMany, T.hd_TooMany, T.ha_TooMany, T.hnc, T.htk, T.hm_TooMany⟩
theorem Txt.ec_BadTable {K : PySem.W.Frag} {mg : Str → Option Value} {C_Tabled C_Ratio C_TooMany C_BadTable C_ZeroBottom C_BadLot C_ShelfError C_NotLists : Addr} (T : Txt K mg C_Tabled C_Ratio C_TooMany C_BadTable C_ZeroBottom C_BadLot C_ShelfError C_NotLists) : ExcC K C_BadTable := ⟨T.ga_BadTable, T.gg_BadTable, T.b_BadTable, T.hd_BadTable, T.ha_BadTable, T.hnc, T.htk, T.hm_BadTable⟩
theorem Txt.ec_ZeroBottom {K : PySem.W.Frag} {mg : Str → Option Value} {C_Tabled C_Ratio C_TooMany C_BadTable C_ZeroBottom C_BadLot C_ShelfError C_NotLists : Addr} (T : Txt K mg C_Tabled C_Ratio C_TooMany C_BadTable C_ZeroBottom C_BadLot C_ShelfError C_NotLists) : ExcC K C_ZeroBottom := ⟨T.ga_ZeroBottom, T.gg_ZeroBottom, T.b_ZeroBottom, T.hd_ZeroBottom, T.ha_ZeroBottom, T.hnc, T.htk, T.hm_ZeroBottom⟩
theorem Txt.ec_BadLot {K : PySem.W.Frag} {mg : Str → Option Value} {C_Tabled C_Ratio C_TooMany C_BadTable C_ZeroBottom C_BadLot C_ShelfError C_NotLists : Addr} (T : Txt K mg C_Tabled C_Ratio C_TooMany C_BadTable C_ZeroBottom C_BadLot C_ShelfError C_NotLists) : ExcC K C_BadLot := ⟨T.ga_BadLot, T.gg_BadLot, T.b_BadLot, T.hd_BadLot, T.ha_BadLot, T.hnc, T.htk, T.hm_BadLot⟩
theorem Txt.ec_ShelfError {K : PySem.W.Frag} {mg : Str → Option Value} {C_Tabled C_Ratio C_TooMany C_BadTable C_ZeroBottom C_BadLot C_ShelfError C_NotLists : Addr} (T : Txt K mg C_Tabled C_Ratio C_TooMany C_BadTable C_ZeroBottom C_BadLot C_ShelfError C_NotLists) : ExcC K C_ShelfError := ⟨T.ga_ShelfError, T.gg_ShelfError, T.b_ShelfError, T.hd_ShelfError, T.ha_ShelfError, T.hnc, T.htk, T.hm_ShelfError⟩
theorem Txt.ec_NotLists {K : PySem.W.Frag} {mg : Str → Option Value} {C_Tabled C_Ratio C_TooMany C_BadTable C_ZeroBottom C_BadLot C_ShelfError C_NotLists : Addr} (T : Txt K mg C_Tabled C_Ratio C_TooMany C_BadTable C_ZeroBottom C_BadLot C_ShelfError C_NotLists) : ExcC K C_NotLists := ⟨T.ga_NotLists, T.gg_NotLists, T.b_NotLists, T.hd_NotLists, T.ha_NotLists, T.hnc, T.htk, T.hm_NotLists⟩
theorem Txt.exm_BadLot_BadLot {K : PySem.W.Frag} {mg : Str → Option Value} {C_Tabled C_Ratio C_TooMany C_BadTable C_ZeroBottom C_BadLot C_ShelfError C_NotLists : Addr} (T : Txt K mg C_Tabled C_Ratio C_TooMany C_BadTable C_ZeroBottom C_BadLot C_ShelfError C_NotLists) : PySem.W.exmOne K (.ref C_BadLot) (.ref C_BadLot) = some true := PySem.W.exm_ref T.b_BadLot T.hd_BadLot T.t_BadLot T.sub_BadLot_BadLot
theorem Txt.exm_BadLot_ShelfError {K : PySem.W.Frag} {mg : Str → Option Value} {C_Tabled C_Ratio C_TooMany C_BadTable C_ZeroBottom C_BadLot C_ShelfError C_NotLists : Addr} (T : Txt K mg C_Tabled C_Ratio C_TooMany C_BadTable C_ZeroBottom C_BadLot C_ShelfError C_NotLists) : PySem.W.exmOne K (.ref C_BadLot) (.ref C_ShelfError) = some true := PySem.W.exm_ref T.b_ShelfError T.hd_ShelfError T.t_ShelfError T.sub_BadLot_ShelfError

/-- a def that is called by its name, with its promise -/
def Cal (P : Program) (w : World) (K : PySem.W.Frag) (mg : Str → Option Value) (base : Heap) (CX : CXT) (k : Nat) (x : Str) (ps : List Str) (sp : Sp) : Prop :=
  ∃ (f : Addr) (fd : FuncData), FnOk P w K mg base CX k f fd ps sp ∧ mg x = some (.ref f) ∧ PySem.W.keepIn K (.ref f) = true ∧ Binds K fd ps []
/-- an own class's __init__; dvs: what stands for the parameters that a short call leaves out -/
def CalI (P : Program) (w : World) (K : PySem.W.Frag) (mg : Str → Option Value) (base : Heap) (CX : CXT) (k : Nat) (C : Addr) (ps : List Str) (sp : Sp) (dvs : List V) : Prop :=
  ∃ (f : Addr) (fd : FuncData), FnOk P w K mg base CX k f fd ps sp ∧ Mk K C f ∧ Binds K fd ps [] ∧ ∃ ds, Vals dvs ds ∧ Binds K fd ps ds
/-- an own error's __init__ -/
def CalX (P : Program) (w : World) (K : PySem.W.Frag) (mg : Str → Option Value) (base : Heap) (CX : CXT) (k : Nat) (C : Addr) (ps : List Str) (sp : Sp) : Prop :=
  ∃ (f : Addr) (fd : FuncData), FnOk P w K mg base CX k f fd ps sp ∧ PySem.W.findIn K (.ref C) "__init__" = some (some (.ref f)) ∧ PySem.W.typeIn K (.ref f) = some (.type "function") ∧ Binds K fd ps []
/-- a promise for one of several classes -/
theorem sup_for {P : Program} {w : World} {K : PySem.W.Frag} {mg : Str → Option Value} {base : Heap} {CX : CXT} {k : Nat} {f : Addr} {ps : List Str} {sp : Addr → Sp} {CL : List Addr} {C : Addr} (m : C ∈ CL) (h : ∃ fd : FuncData, FnOk P w K mg base CX k f fd ps (fun vs H Q E => ∃ C, C ∈ CL ∧ sp C vs H Q E) ∧ Binds K fd ps []) :
    ∃ fd : FuncData, FnOk P w K mg base CX k f fd ps (sp C) ∧ Binds K fd ps [] := by
  obtain ⟨fd, G, b⟩ := h
  exact ⟨fd, ⟨fun vs H Q E z => G.len vs H Q E ⟨C, m, z⟩, fun A outer s H args us vs Q E hr e0 hb r z => G.run A outer s H args us vs Q E hr e0 hb r ⟨C, m, z⟩⟩, b⟩
theorem init_for {P : Program} {w : World} {K : PySem.W.Frag} {mg : Str → Option Value} {base : Heap} {CX : CXT} {k : Nat} {f : Addr} {ps : List Str} {sp : Addr → Sp} {CL : List Addr} {C : Addr} (m : C ∈ CL) (h : ∃ fd : FuncData, FnOk P w K mg base CX k f fd ps (fun vs H Q E => ∃ C, C ∈ CL ∧ sp C vs H Q E) ∧ Binds K fd ps []) (M : Mk K C f) :
    CalI P w K mg base CX k C ps (sp C) [] := by
  obtain ⟨fd, G, b⟩ := sup_for m h
  exact ⟨f, fd, G, M, b, [], .nil, b⟩
/-- what is left over is a new tuple -/
def spStar (sp : Sp) (n : Nat) : Sp := fun vs H Q E => ∃ ws rest, vs = ws ++ rest ∧ ws.length = n ∧ rest.length ≤ sizeLine ∧ ∀ p, H p = none → sp (ws ++ [V.ref p]) (upd H p (.tup rest)) Q E
/-- a method -/
def CalM (P : Program) (w : World) (K : PySem.W.Frag) (mg : Str → Option Value) (base : Heap) (CX : CXT) (k : Nat) (C : Addr) (m : Str) (ps : List Str) (sp : Sp) : Prop :=
  ∃ (f : Addr) (fd : FuncData), FnOk P w K mg base CX k f fd ps sp ∧ Meth K C m f ∧ Binds K fd ps []
theorem cat_any {K : PySem.W.Frag} {a b : Addr} {xs ys : List V} {H : Hp} {Q : VK} (ha : H a = some (.tup xs)) (hb : H b = some (.tup ys)) (hz : xs.length + ys.length ≤ sizeLine) (q : ∀ H' p, Same H H' → H' p = some (.tup (xs ++ ys)) → Q (.ref p) H') : rCatA K (.ref a) (.ref b) H Q := by
  refine ⟨a, b, xs, ys, rfl, rfl, tup_t ha, tup_t hb, hz, fun e => ?_, fun _ e => ?_, fun _ _ p np => q _ p (same_upd np) upd_same⟩
  · subst e
    exact q H b (Same.refl H) hb
  · subst e
    exact q H a (Same.refl H) (ha.trans (by rw [List.append_nil]))
theorem sl_any {K : PySem.W.Frag} {a : Addr} {xs : List V} {lo hi : Option Int} {H : Hp} {Q : VK} (ha : H a = some (.tup xs)) (q : ∀ H' p, Same H H' → H' p = some (.tup (cutV xs lo hi)) → Q (.ref p) H') : rSlA K (.ref a) lo hi H Q := by
  refine ⟨a, xs, rfl, tup_t ha, fun e => q H a (Same.refl H) (ha.trans ?_), fun _ p np => q _ p (same_upd np) upd_same⟩
  unfold cutV
  rw [e.1, e.2, List.drop_zero, Nat.sub_zero, List.take_length]

theorem small2000 {n : Nat} (h : n ≤ 2000) : n < sizeLine := Nat.lt_of_le_of_lt h (by decide)
/-- does the lot ns lie in the lot ls -/
def subL (ns ls : List Int) : Bool := ns.all fun n => inV (.int n) (ls.map V.int)
/-- what of a row counts -/
def cntR (th : Option Nat) (r : List Int) : Int := match th with
  | none => r.getD 0 0 - (r.drop 1).sum
  | some t => r.getD (t + 1) 0
def sgR (d c : Int) : Int := if d % 2 = 1 then -c else c
/-- the alternating sum, added up row by row -/
def altF (m : Nat) (rows : List (List Int)) (ns : List Int) (th : Option Nat) : Nat → Int × Int
  | 0 => (0, 1)
  | i + 1 => if subL ns (lotOf (i : Int) m) = true then
      ((altF m rows ns th i).1 * (rows.getD i []).getD 0 0 + sgR ((lotOf (i : Int) m).length - ns.length) (cntR th (rows.getD i [])) * (altF m rows ns th i).2, (altF m rows ns th i).2 * (rows.getD i []).getD 0 0)
    else altF m rows ns th i
def thV : Option Nat → V
  | none => .non
  | some t => .int (t : Int)
theorem cz_pos (l : List Nat) : ∀ x ∈ cz l, 0 ≤ x := fun x hx => by
  unfold cz at hx
  obtain ⟨n, _, rfl⟩ := List.mem_map.mp hx
  omega
theorem cz_sum_div {g : Nat} : ∀ {ws : List Nat}, (∀ w ∈ ws, g ∣ w) → (cz ws).sum = (g : Int) * (cz (ws.map (· / g))).sum
  | [], _ => by show (0 : Int) = g * 0; omega
  | w :: r, h => by
    have h1 := Nat.mul_div_cancel' (h w List.mem_cons_self)
    have ih := cz_sum_div (ws := r) fun v hv => h v (List.mem_cons_of_mem _ hv)
    show (w : Int) + (cz r).sum = (g : Int) * (((w / g : Nat) : Int) + (cz (r.map (· / g))).sum)
    rw [Int.mul_add, ← ih]
    congr 1
    exact_mod_cast h1.symm
theorem lotB_of : ∀ {ns : List Int} {b m : Int}, ns.Pairwise (· < ·) → (∀ x ∈ ns, b < x ∧ x < m) → lotB ns b m = true
  | [], _, _, _, _ => rfl
  | n :: r, b, m, h, k => by
    have hn := k n List.mem_cons_self
    obtain ⟨h1, h2⟩ := List.pairwise_cons.mp h
    exact (if_neg (by omega) : lotB (n :: r) b m = lotB r n m).trans (lotB_of h2 fun x hx => ⟨h1 x hx, (k x (List.mem_cons_of_mem _ hx)).2⟩)
theorem lotOf_lot (b : Int) (m : Nat) : lotB (lotOf b m) (-1) m = true := lotB_of (lotOf_asc b m) fun x hx => by
  have := lotOf_mem b hx
  omega
/-- a row that fits, and what is left of it when it is divided -/
structure RowF (m : Nat) (r : List Int) (b : Int) (ws : List Int) (d : Int) (us : List Int) (g : Int) : Prop where
  er : r = b :: ws
  ed : divI r = d :: us
  b0 : 0 < b
  d0 : 0 < d
  g0 : 0 < g
  eb : b = g * d
  ew : ∀ j : Nat, ws.getD j 0 = g * us.getD j 0
  es : ws.sum = g * us.sum
  un : ∀ x ∈ us, 0 ≤ x
  wn : ∀ x ∈ ws, 0 ≤ x
  sb : ws.sum ≤ b
  sd : us.sum ≤ d
  lu : us.length = m
  lw : ws.length = m
theorem row_f {m i : Nat} {r : List Int} (ok : rowOk m i r = true) : ∃ b ws d us g, RowF m r b ws d us g := by
  obtain ⟨b, ws, er, b0, wl⟩ := row_nats ok
  obtain ⟨_, fit⟩ := rowOk_cz (m := m) (n := i) (t := (b : Int)) (cs := cz ws) (by rw [er] at ok; exact ok)
  have hsum : (cz ws).sum ≤ (b : Int) := by
    unfold fitR at fit
    rw [Bool.and_eq_true, Bool.and_eq_true] at fit
    exact of_decide_eq_true fit.2.2
  have gp : 0 < gl (b :: ws) := gl_pos b0
  have gd : ∀ w ∈ b :: ws, gl (b :: ws) ∣ w := fun w hw => gl_dvd hw
  have ed : divI r = cz (divd (b :: ws)) := by rw [er, ← divI_cz]
  unfold divd at ed
  generalize gl (b :: ws) = g at gp gd ed
  have eb : (b : Int) = (g : Int) * ((b / g : Nat) : Int) := by exact_mod_cast (Nat.mul_div_cancel' (gd b List.mem_cons_self)).symm
  have es := cz_sum_div (g := g) (ws := ws) fun w hw => gd w (List.mem_cons_of_mem _ hw)
  have tp0 : 0 < b / g := Nat.div_pos (Nat.le_of_dvd b0 (gd b List.mem_cons_self)) gp
  refine ⟨b, cz ws, ((b / g : Nat) : Int), cz (ws.map (· / g)), g, er, ed, by omega, by omega, by omega, eb, fun j => ?_, es, cz_pos _, cz_pos _, hsum, ?_, by rw [cz_len, List.length_map, wl], by rw [cz_len, wl]⟩
  · unfold cz
    rw [List.getD_eq_getElem?_getD, List.getD_eq_getElem?_getD, List.getElem?_map, List.getElem?_map, List.getElem?_map]
    cases hw : ws[j]? with
    | none => show (0 : Int) = g * 0; omega
    | some w =>
      show ((w : Nat) : Int) = (g : Int) * ((w / g : Nat) : Int)
      exact_mod_cast (Nat.mul_div_cancel' (gd w (List.mem_cons_of_mem _ (List.mem_of_getElem? hw)))).symm
  · rw [es, eb] at hsum
    exact Int.le_of_mul_le_mul_left hsum (by omega)
theorem LowT.plus {a b c d T B T2 B2 T3 B3 : Int} (h : LowT a b T B) (h2 : LowT c d T2 B2) (h3 : LowT (T * B2 + T2 * B) (B * B2) T3 B3) (hb : b ≠ 0) (hd : d ≠ 0) : LowT (a * d + c * b) (b * d) T3 B3 := by
  refine h3.to (Int.mul_ne_zero (by have := h.pos; omega) (by have := h2.pos; omega)) (Int.mul_ne_zero hb hd) ?_
  have e1 := h.eq
  have e2 := h2.eq
  grind
theorem LowT.minus {a b c d T B T2 B2 T3 B3 : Int} (h : LowT a b T B) (h2 : LowT c d T2 B2) (h3 : LowT (T * B2 - T2 * B) (B * B2) T3 B3) (hb : b ≠ 0) (hd : d ≠ 0) : LowT (a * d + -c * b) (b * d) T3 B3 := by
  refine h3.to (Int.mul_ne_zero (by have := h.pos; omega) (by have := h2.pos; omega)) (Int.mul_ne_zero hb hd) ?_
  have e1 := h.eq
  have e2 := h2.eq
  grind
/-- a row whose count is small -/
def RowB (th : Option Nat) (r : List Int) : Prop := 0 < r.getD 0 0 ∧ r.getD 0 0 ≤ 10 ^ 18 ∧ (cntR th r).natAbs ≤ (r.getD 0 0).natAbs
theorem altF_bd {m : Nat} {rows : List (List Int)} {ns : List Int} {th : Option Nat} : ∀ n : Nat, (∀ j, j < n → RowB th (rows.getD j [])) → 0 < (altF m rows ns th n).2 ∧ (altF m rows ns th n).2.natAbs ≤ (10 ^ 18) ^ n ∧ (altF m rows ns th n).1.natAbs ≤ n * (10 ^ 18) ^ n
  | 0, _ => by
    refine ⟨(by decide : (0 : Int) < 1), Nat.le_refl 1, Nat.le_refl 0⟩
  | n + 1, h => by
    obtain ⟨i1, i2, i3⟩ := altF_bd (m := m) (rows := rows) (ns := ns) (th := th) n fun j hj => h j (Nat.lt_succ_of_lt hj)
    obtain ⟨r0, r1, r2⟩ := h n (Nat.lt_succ_self n)
    have p1 : (10 ^ 18) ^ n ≤ (10 ^ 18) ^ (n + 1) := Nat.pow_le_pow_right (by decide) (Nat.le_succ n)
    have r1' : ((rows.getD n []).getD 0 0).natAbs ≤ 10 ^ 18 := by omega
    have e1 : (10 ^ 18) ^ (n + 1) = (10 ^ 18) ^ n * 10 ^ 18 := Nat.pow_succ (10 ^ 18) n
    unfold altF
    by_cases c : subL ns (lotOf (n : Int) m) = true
    · rw [if_pos c]
      have sg : (sgR ((lotOf (n : Int) m).length - ns.length) (cntR th (rows.getD n []))).natAbs = (cntR th (rows.getD n [])).natAbs := by
        unfold sgR
        split
        · exact Int.natAbs_neg _
        · rfl
      generalize sgR ((lotOf (n : Int) m).length - ns.length) (cntR th (rows.getD n [])) = cc at sg
      generalize (rows.getD n []).getD 0 0 = r at r0 r1 r2 r1'
      generalize altF m rows ns th n = q at i1 i2 i3
      refine ⟨Int.mul_pos i1 r0, ?_, ?_⟩
      · show (q.2 * r).natAbs ≤ _
        rw [Int.natAbs_mul, e1]
        exact Nat.mul_le_mul i2 r1'
      · show (q.1 * r + cc * q.2).natAbs ≤ _
        refine Nat.le_trans (Int.natAbs_add_le _ _) ?_
        rw [Int.natAbs_mul, Int.natAbs_mul, e1, Nat.add_mul, Nat.one_mul]
        refine Nat.add_le_add ?_ ?_
        · rw [← Nat.mul_assoc]
          exact Nat.mul_le_mul i3 r1'
        · rw [Nat.mul_comm]
          exact Nat.mul_le_mul i2 (by omega)
    · rw [if_neg c]
      refine ⟨i1, Nat.le_trans i2 p1, Nat.le_trans i3 (Nat.mul_le_mul (Nat.le_succ n) p1)⟩
theorem alt_sm {m : Nat} {rows : List (List Int)} {ns : List Int} {th : Option Nat} {n : Nat} {T B : Int} (hn : n ≤ 64) (h : ∀ j, j < n → RowB th (rows.getD j [])) (lo : LowT (altF m rows ns th n).1 (altF m rows ns th n).2 T B) : (altF m rows ns th n).2 ≠ 0 ∧ 0 < B ∧ T.natAbs < 2 ^ 3900 ∧ B.natAbs < 2 ^ 3900 := by
  obtain ⟨i1, i2, i3⟩ := altF_bd (m := m) (rows := rows) (ns := ns) (th := th) n h
  have l1 := lo.leT
  have l2 := lo.leB
  have p : (10 ^ 18) ^ n ≤ (10 ^ 18) ^ 64 := Nat.pow_le_pow_right (by decide) hn
  have q : n * (10 ^ 18) ^ n ≤ 64 * (10 ^ 18) ^ 64 := Nat.mul_le_mul hn p
  have k1 : (10 ^ 18) ^ 64 < 2 ^ 3900 := by decide +kernel
  have k2 : 64 * (10 ^ 18) ^ 64 < 2 ^ 3900 := by decide +kernel
  exact ⟨by omega, lo.pos, Nat.lt_of_le_of_lt (Nat.le_trans l1 (Nat.le_trans i3 q)) k2, Nat.lt_of_le_of_lt (Nat.le_trans l2 (Nat.le_trans i2 p)) k1⟩
theorem all_bl (xs : List Bool) : (xs.map V.bl).length = xs.length := List.length_map _
theorem RowF.rb {m : Nat} {r : List Int} {b : Int} {ws : List Int} {d : Int} {us : List Int} {g : Int} (h : RowF m r b ws d us g) (hb : b ≤ 10 ^ 18) (th : Option Nat) : RowB th r := by
  have sn := sum_nn h.wn
  have s1 := h.sb
  have b0 := h.b0
  unfold RowB
  rw [h.er]
  refine ⟨b0, hb, ?_⟩
  cases th with
  | none =>
    show (b - ws.sum).natAbs ≤ b.natAbs
    omega
  | some t =>
    show (ws.getD t 0).natAbs ≤ b.natAbs
    rw [List.getD_eq_getElem?_getD]
    cases e : ws[t]? with
    | none => exact Nat.zero_le _
    | some x =>
      have m1 := List.mem_of_getElem? e
      have a1 := h.wn x m1
      have a2 := mem_le h.wn x m1
      show x.natAbs ≤ b.natAbs
      omega

theorem cut_nat (xs : List V) {a b : Nat} (h : a ≤ b) (h2 : b ≤ xs.length) : cutV xs (some (a : Int)) (some (b : Int)) = (xs.drop a).take (b - a) := by
  unfold cutV
  rw [HT.sIx_nat, HT.sIx_nat, Nat.min_eq_left (show a ≤ xs.length by omega), Nat.min_eq_left h2]
  try rfl
theorem big17 : (0 : Int) < 10 ^ 17 ∧ (10 : Int) ^ 17 < 2 ^ 100 := by decide
theorem iteND {c A B : Prop} [Decidable c] (h : ¬ c) (a : A) : if (!decide c) = true then A else B := by
  rw [decide_eq_false h]
  exact iteT a

theorem alt_sm2 {m : Nat} {rows : List (List Int)} {ns : List Int} {th : Option Nat} {n : Nat} (hn : n ≤ 64) (h : ∀ j, j < n → RowB th (rows.getD j [])) : Sm (altF m rows ns th n).1 ∧ Sm (altF m rows ns th n).2 := by
  obtain ⟨i1, i2, i3⟩ := altF_bd (m := m) (rows := rows) (ns := ns) (th := th) n h
  have p : (10 ^ 18) ^ n ≤ (10 ^ 18) ^ 64 := Nat.pow_le_pow_right (by decide) hn
  have q : n * (10 ^ 18) ^ n ≤ 64 * (10 ^ 18) ^ 64 := Nat.mul_le_mul hn p
  have k1 : (10 ^ 18) ^ 64 < 2 ^ 3900 := by decide +kernel
  have k2 : 64 * (10 ^ 18) ^ 64 < 2 ^ 3900 := by decide +kernel
  exact ⟨sm_of (n := 3900) (Nat.lt_of_le_of_lt (Nat.le_trans i3 q) k2), sm_of (n := 3900) (Nat.lt_of_le_of_lt (Nat.le_trans i2 p) k1)⟩
theorem sgR_abs (d c : Int) : (sgR d c).natAbs = c.natAbs := by
  unfold sgR
  split
  · exact Int.natAbs_neg _
  · rfl
theorem filter_len {p : Int → Bool} : ∀ {ns : List Int}, ((ns.filter p).length = ns.length) ↔ ns.all p = true
  | [] => by simp
  | n :: r => by
    have ih := filter_len (p := p) (ns := r)
    have hle := List.length_filter_le p r
    rw [List.all_cons, Bool.and_eq_true]
    cases h : p n with
    | true =>
      rw [List.filter_cons_of_pos h, List.length_cons, List.length_cons]
      constructor
      · intro e
        exact ⟨rfl, ih.mp (by omega)⟩
      · intro e
        rw [ih.mpr e.2]
    | false =>
      rw [List.filter_cons_of_neg (by rw [h]; exact Bool.false_ne_true), List.length_cons]
      constructor
      · intro e
        omega
      · intro e
        exact absurd e.1 Bool.false_ne_true

theorem GoodR.rb {m : Nat} {rows : List (List Int)} (g : GoodR m (10 ^ 18) rows) (th : Option Nat) : ∀ j, j < 2 ^ m → RowB th (rows.getD j []) := fun j hj => by
  have l := g.1
  have hj2 : j < rows.length := by omega
  have h2 : rows[j]? = some rows[j] := List.getElem?_eq_getElem hj2
  have eg : rows.getD j [] = rows[j] := by rw [List.getD_eq_getElem?_getD, h2]; rfl
  obtain ⟨b, ws, d, us, gg, F⟩ := row_f (g.2.1 j _ h2)
  rw [eg]
  exact F.rb ((g.2.2 _ (List.mem_of_getElem? h2)).2 b (by rw [F.er]; exact List.mem_cons_self)).2 th
theorem GoodR.top {m : Nat} {rows : List (List Int)} (g : GoodR m (10 ^ 18) rows) : ∀ r ∈ rows, ∀ x ∈ r, x ≤ 10 ^ 18 := fun r hr x hx => ((g.2.2 r hr).2 x hx).2

theorem cls_shaped : SeqAt.shaped (.list [.bool true, .bool true, .bool false, .bool false]) = true := by decide +kernel
theorem many48 (x : Int) (h0 : 0 ≤ x) (h1 : x < 16) : ∃ m : Nat, atI [V.int 0, V.int 1, V.int 2, V.int 3, V.int 4, V.int 1, V.int 2, V.int 3, V.int 4, V.int 2, V.int 3, V.int 4, V.int 3, V.int 4, V.int 5, V.int 6] x = some (V.int (m : Int)) ∧ m ≤ 6 := by
  obtain ⟨j, rfl⟩ : ∃ j : Nat, x = (j : Int) := ⟨x.toNat, by omega⟩
  have hj : j < 16 := by omega
  have all : ∀ j : Nat, j < 16 → ∃ m : Nat, atI [V.int 0, V.int 1, V.int 2, V.int 3, V.int 4, V.int 1, V.int 2, V.int 3, V.int 4, V.int 2, V.int 3, V.int 4, V.int 3, V.int 4, V.int 5, V.int 6] (j : Int) = some (V.int (m : Int)) ∧ m ≤ 6 := by
    intro j hj
    rcases (by omega : j = 0 ∨ j = 1 ∨ j = 2 ∨ j = 3 ∨ j = 4 ∨ j = 5 ∨ j = 6 ∨ j = 7 ∨ j = 8 ∨ j = 9 ∨ j = 10 ∨ j = 11 ∨ j = 12 ∨ j = 13 ∨ j = 14 ∨ j = 15) with rfl | rfl | rfl | rfl | rfl | rfl | rfl | rfl | rfl | rfl | rfl | rfl | rfl | rfl | rfl | rfl
    · exact ⟨0, rfl, by decide⟩
    · exact ⟨1, rfl, by decide⟩
    · exact ⟨2, rfl, by decide⟩
    · exact ⟨3, rfl, by decide⟩
    · exact ⟨4, rfl, by decide⟩
    · exact ⟨1, rfl, by decide⟩
    · exact ⟨2, rfl, by decide⟩
    · exact ⟨3, rfl, by decide⟩
    · exact ⟨4, rfl, by decide⟩
    · exact ⟨2, rfl, by decide⟩
    · exact ⟨3, rfl, by decide⟩
    · exact ⟨4, rfl, by decide⟩
    · exact ⟨3, rfl, by decide⟩
    · exact ⟨4, rfl, by decide⟩
    · exact ⟨5, rfl, by decide⟩
    · exact ⟨6, rfl, by decide⟩
  exact all j hj
section
variable {P : Program} {w : World} {K : PySem.W.Frag} {mg : Str → Option Value} {base : Heap}
def sp_TooMany___init__ (C : Addr) : Sp := fun vs H Q _ => ∃ (a : Addr) (x y : V), vs = [.ref a, x, y] ∧ H a = some (exo a C none) ∧ ∀ dx, H dx = none → dx ≠ a → Q .non (errH H a C dx "many" "most" x y)
theorem ok_TooMany___init__ {f : Addr} {fd : FuncData} {C_Tabled C_Ratio C_TooMany C_BadTable C_ZeroBottom C_BadLot C_ShelfError C_NotLists : Addr} (F : Fun K "__init__" "TooMany.__init__" s_TooMany___init__ f fd) (T : Txt K mg C_Tabled C_Ratio C_TooMany C_BadTable C_ZeroBottom C_BadLot C_ShelfError C_NotLists) : FnOk P w K mg base CX0 1 f fd ["self", "many", "most"] (sp_TooMany___init__ C_TooMany) := by
  refine F.ok sc_TooMany___init__ (fun vs H Q E h => ?_) (fun cdv A outer s H vs Q E hr h => ?_)
  · obtain ⟨a, x, y, rfl, _⟩ := h
    rfl
  · obtain ⟨a, x, y, rfl, ha, q⟩ := h
    refine ⟨_, (pss_cons (ps_ost (pv 0) (pv 1))
      (pss_one (ps_ost (pv 0) (pv 2)))), ?_⟩
    refine ⟨_, rfl, _, rfl, a, C_TooMany, rfl, T.ox_TooMany, T.n_TooMany_many, .inl ⟨ha, fun dx nd ne => ?_⟩⟩
    exact ⟨_, rfl, _, rfl, a, C_TooMany, rfl, T.ox_TooMany, T.n_TooMany_most, .inr ⟨dx, _, upd_same, (upd_ne ne).trans upd_same, by show 1 ≤ 900; decide, q dx nd ne⟩⟩
def sp_BadTable___init__ (C : Addr) : Sp := fun vs H Q _ => ∃ (a : Addr) (x : V), vs = [.ref a, x] ∧ H a = some (exo a C none) ∧ ∀ dx, H dx = none → dx ≠ a → Q .non (errH1 H a C dx "at" x)
theorem ok_BadTable___init__ {f : Addr} {fd : FuncData} {C_Tabled C_Ratio C_TooMany C_BadTable C_ZeroBottom C_BadLot C_ShelfError C_NotLists : Addr} (F : Fun K "__init__" "BadTable.__init__" s_BadTable___init__ f fd) (T : Txt K mg C_Tabled C_Ratio C_TooMany C_BadTable C_ZeroBottom C_BadLot C_ShelfError C_NotLists) : FnOk P w K mg base CX0 1 f fd ["self", "at"] (sp_BadTable___init__ C_BadTable) := by
  refine F.ok sc_BadTable___init__ (fun vs H Q E h => ?_) (fun cdv A outer s H vs Q E hr h => ?_)
  · obtain ⟨a, x, rfl, _⟩ := h
    rfl
  · obtain ⟨a, x, rfl, ha, q⟩ := h
    refine ⟨_, (pss_one (ps_ost (pv 0) (pv 1))), ?_⟩
    exact ⟨_, rfl, _, rfl, a, C_BadTable, rfl, T.ox_BadTable, T.n_BadTable_at, .inl ⟨ha, fun dx nd ne => q dx nd ne⟩⟩
def sp_check_many (CT : Addr) : Sp := fun vs H Q E => ∃ m n : Int, vs = [.int m, .int n] ∧ (m > n → ∀ d, H d = none → E (.ref CT) (some d) (upd H d (.xd [("most", .int n), ("many", .int m)]))) ∧ (¬ m > n → Q .non H)
theorem ok_check_many {f : Addr} {fd : FuncData} {C_Tabled C_Ratio C_TooMany C_BadTable C_ZeroBottom C_BadLot C_ShelfError C_NotLists : Addr} (F : Fun K "check_many" "check_many" s_check_many f fd) (T : Txt K mg C_Tabled C_Ratio C_TooMany C_BadTable C_ZeroBottom C_BadLot C_ShelfError C_NotLists) (c_TooMany___init__ : CalX P w K mg base CX0 1 C_TooMany ["self", "many", "most"] (sp_TooMany___init__ C_TooMany)) : FnOk P w K mg base (L2.CX P w) 3 f fd ["many", "most"] (sp_check_many C_TooMany) := by
  refine F.okX sc_check_many (fun vs H Q E h => ?_) (fun cdv A outer s H vs Q E hr h => ?_)
  · obtain ⟨m, n, rfl, _⟩ := h
    rfl
  · obtain ⟨m, n, rfl, kE, q⟩ := h
    obtain ⟨f_TooMany___init__, fd_TooMany___init__, G_TooMany___init__, ic_TooMany___init__, ti_TooMany___init__, b_TooMany___init__⟩ := c_TooMany___init__
    refine ⟨_, (pss_one (ps_if (pt_cmpR op_gt (pv 0) (pv 1) (nomark _)) (pss_one (ps_raise rfl (takes_of rfl rfl rfl rfl) (pmk_oex T.ox_TooMany ic_TooMany___init__ ti_TooMany___init__ G_TooMany___init__ (hr.mono (by decide)) b_TooMany___init__ .nil pass0 (by exact rfl) T.g_TooMany (pa_cons (pv 0) (pa_cons (pv 1) pa_nil))))) pss_nil)), ?_⟩
    refine ⟨_, rfl, _, rfl, _, _, rfl, rfl, _, rfl, ite2 (fun e => ?_) (fun e => q fun z => e (decide_eq_true z))⟩
    exact ⟨_, rfl, _, rfl, (by show 2 ≤ 1000; decide), fun a na => ⟨a, _, _, rfl, upd_same, fun dx nd ne => raise2 (kE (of_decide_eq_true e)) na nd ne⟩⟩
def sp_Rule___init__ (C CT : Addr) : Sp := fun vs H Q E => ∃ (p dx : Addr) (fs : List (Str × V)) (m : Int), vs = [.ref p, .int m] ∧ H p = some (.ins C dx fs) ∧ fs.length ≤ 900 ∧ (m > 24 → ∀ d, H d = none → E (.ref CT) (some d) (upd H d (.xd [("most", .int 24), ("many", .int m)]))) ∧ (¬ m > 24 → Q .non (upd H p (.ins C dx (putF "many" (.int m) fs))))
theorem ok_Rule___init__ {f : Addr} {fd : FuncData} {C_Tabled C_Ratio C_TooMany C_BadTable C_ZeroBottom C_BadLot C_ShelfError C_NotLists : Addr} (F : Fun K "__init__" "Rule.__init__" s_Rule___init__ f fd) (T : Txt K mg C_Tabled C_Ratio C_TooMany C_BadTable C_ZeroBottom C_BadLot C_ShelfError C_NotLists) (c_check_many : Cal P w K mg base (L2.CX P w) 3 "check_many" ["many", "most"] (sp_check_many C_TooMany)) : FnOk P w K mg base (L2.CX P w) 4 f fd ["self", "many"] (sp_Rule___init__ C_Tabled C_TooMany) := by
  refine F.okX sc_Rule___init__ (fun vs H Q E h => ?_) (fun cdv A outer s H vs Q E hr h => ?_)
  · obtain ⟨p, dx, fs, m, rfl, _⟩ := h
    rfl
  · obtain ⟨p, dx, fs, m, rfl, hp, hl, kE, q⟩ := h
    obtain ⟨f_check_many, fd_check_many, G_check_many, m_check_many, k_check_many, b_check_many⟩ := c_check_many
    refine ⟨_, (pss_cons (ps_expr (pe_call G_check_many (hr.mono (by decide)) (by rfl) m_check_many k_check_many b_check_many .nil (passes_call (takes_of rfl rfl rfl rfl) (fun _ _ _ _ h => h)) (pa_cons (pv 1) (pa_cons (pe_glob (v := .int 24) (by rfl) T.g_MOST_THINGS.choose_spec ⟨_, rfl⟩) pa_nil))))
      (pss_one (ps_fld (pv 0) (pv 1) rfl))), ?_⟩
    refine ⟨_, rfl, m, 24, rfl, kE, fun e => ?_⟩
    exact ⟨_, rfl, _, rfl, p, C_Tabled, dx, fs, rfl, hp, T.cl_Tabled, T.n_Tabled_many, by omega, q e⟩
def sp_check_lot (K : PySem.W.Frag) (CL : Addr) : Sp := fun vs H Q E => ∃ (l : Addr) (ns : List Int) (m : Int), vs = [.ref l, .int m] ∧ SqT K H l (ns.map V.int) ∧ (lotB ns (-1) m = false → E (.ref CL) none H) ∧ (lotB ns (-1) m = true → Q .non H)
theorem ok_check_lot {f : Addr} {fd : FuncData} {C_Tabled C_Ratio C_TooMany C_BadTable C_ZeroBottom C_BadLot C_ShelfError C_NotLists : Addr} (F : Fun K "check_lot" "check_lot" s_check_lot f fd) (T : Txt K mg C_Tabled C_Ratio C_TooMany C_BadTable C_ZeroBottom C_BadLot C_ShelfError C_NotLists) : FnOk P w K mg base (L2.CX P w) 1 f fd ["lot", "many"] (sp_check_lot K C_BadLot) := by
  refine F.okX sc_check_lot (fun vs H Q E h => ?_) (fun cdv A outer s H vs Q E hr h => ?_)
  · obtain ⟨l, ns, m, rfl, _⟩ := h
    rfl
  · obtain ⟨l, ns, m, rfl, hl, kE, q⟩ := h
    refine ⟨_, (pss_cons (ps_set (i := 2) sc_check_lot.nd rfl (Or.inl rfl) (pe_un un_neg pe_int))
      (pss_one (ps_for (passes_of rfl) rfl (pi_tup (pv 0)) (pg_name (i := 3) sc_check_lot.nd rfl (Or.inl rfl))
      (pss_cons (ps_if (PW.pt (pw_or (pt_cmpR op_le (pv 3) (pv 2) (nomark _)) (pw_or1 (pt_cmpR op_ge (pv 3) (pv 1) (nomark _))))) (pss_one (ps_raise rfl (takes_of rfl rfl rfl rfl) (pmk_own PySem.F.excBase_ValueError T.x_BadLot T.g_BadLot T.kc_BadLot (raises_own T.b_BadLot T.t_BadLot) (by exact rfl)))) pss_nil)
      (pss_one (ps_set (i := 2) sc_check_lot.nd rfl (Or.inl rfl) (pv 3))))))), ?_⟩
    refine ⟨1, rfl, ?_⟩
    refine ⟨_, rfl, l, rfl, ⟨_, hl⟩, for_tup (K := K) (a := l) (xs := ns.map V.int) (fun i σ H2 => ∃ (b : Int) (y : Option V), σ = [some (.ref l), some (.int m), some (.int b), y] ∧ H2 = H ∧ lotB ns (-1) m = lotB (ns.drop i) b m) ⟨-1, none, rfl, rfl, rfl⟩ (fun i σ H2 _ ⟨_, _, _, e, _⟩ => e ▸ hl) ?_ ?_⟩
    · rintro i x σ H2 hi ⟨b, y, rfl, rfl, hb⟩
      obtain ⟨n, rfl, hn⟩ := int_of hi
      have hd : ns.drop i = n :: ns.drop (i + 1) := by
        have lt : i < ns.length := (List.getElem?_eq_some_iff.mp hn).1
        rw [List.drop_eq_getElem_cons lt]
        rw [List.getElem?_eq_getElem lt] at hn
        rw [Option.some.inj hn]
      rw [hd] at hb
      refine ⟨_, rfl, _, rfl, _, _, rfl, rfl, _, rfl, ite2 (fun c => ?_) (fun c => ⟨_, rfl, _, rfl, _, _, rfl, rfl, _, rfl, ite2 (fun c2 => ?_) (fun c2 => ?_)⟩)⟩
      · exact kE (hb.trans (if_pos (.inl (of_decide_eq_true c))))
      · exact kE (hb.trans (if_pos (.inr (of_decide_eq_true c2))))
      · refine ⟨_, rfl, n, _, rfl, rfl, ?_⟩
        rw [hb]
        exact if_neg fun z => z.elim (fun z => c (decide_eq_true z)) fun z => c2 (decide_eq_true z)
    · rintro σ H2 ⟨b, y, rfl, rfl, hb⟩
      rw [List.length_map, List.drop_length] at hb
      exact q hb
def sp_lot_number (K : PySem.W.Frag) : Sp := fun vs H Q _ => ∃ (a : Addr) (ns : List Int), vs = [.ref a] ∧ SqT K H a (ns.map V.int) ∧ ns.length ≤ 1000 ∧ (∀ t ∈ ns, 0 ≤ t ∧ t < 100000) ∧ ∀ H', Same H H' → Q (.int (powSum ns)) H'

theorem ok_lot_number {f : Addr} {fd : FuncData} {C_Tabled C_Ratio C_TooMany C_BadTable C_ZeroBottom C_BadLot C_ShelfError C_NotLists : Addr} (F : Fun K "lot_number" "lot_number" s_lot_number f fd) (T : Txt K mg C_Tabled C_Ratio C_TooMany C_BadTable C_ZeroBottom C_BadLot C_ShelfError C_NotLists) (m_sum : mg "sum" = none) : FnOk P w K mg base CX0 1 f fd ["lot"] (sp_lot_number K) := by
  refine F.ok sc_lot_number (fun vs H Q E h => ?_) (fun cdv A outer s H vs Q E hr h => ?_)
  · obtain ⟨a, ns, rfl, _⟩ := h
    rfl
  · obtain ⟨a, ns, rfl, hS, hlen, hn, q⟩ := h
    refine ⟨_, (pss_one (ps_ret (pe_callB (cr_sum rfl) (by rfl) m_sum (by decide +kernel) (pa_cons (pe_lc (own := [("thing", 1)]) (g := (gName 1)) (tt := tYes) rfl sc_lot_number.nd (pi_tup (pv 0)) (blkOk_by (own := [("thing", 1)]) (N := ["lot", "thing"]) (sc := defScope s_lot_number) (by decide +kernel)) (fun _ _ _ _ _ => (pg_name (i := 1) sc_lot_number.nd rfl (Or.inl rfl))) (fun _ _ _ _ _ => pts_nil) (fun _ _ _ _ _ => (pe_op op_shl pe_int (pv 1)))) pa_nil)))), ?_⟩
    refine ⟨.ref a, rfl, a, rfl, ⟨_, hS⟩, fun D nD => lc_tup (K := K) (a := a) (xs := ns.map V.int) (fun i H2 => Same H H2 ∧ H2 D = some (.lst (((ns.take i).map fun t => (1 : Int) * 2 ^ t.toNat).map V.int))) ⟨same_upd nD, upd_same⟩ (fun i H2 _ ⟨s, _⟩ => same_tup s hS) ?_ ?_⟩
    · rintro i x H2 hi ⟨s, hD⟩
      obtain ⟨n, rfl, hin⟩ := int_of hi
      obtain ⟨n0, n1⟩ := hn n (List.mem_of_getElem? hin)
      refine ⟨rfl, ?_⟩
      refine lc_yes ?_
      refine iteT ?_
      refine ⟨_, rfl, 1, n, rfl, rfl, ⟨n0, by omega, by decide⟩, _, hD, ?_, same_mut s nD, ?_⟩
      · rw [List.length_map, List.length_map, List.length_take]
        exact small1000 (by omega)
      · rw [upd_same, List.take_add_one, hin, List.map_append, List.map_append]
        rfl
    · rintro H2 ⟨s, hD⟩
      rw [List.length_map, List.take_length] at hD
      exact ⟨D, _, rfl, lst_l hD, q H2 s⟩
def sp_lot_at (K : PySem.W.Frag) : Sp := fun vs H Q _ => ∃ (b : Int) (m : Nat), vs = [.int b, .int (m : Int)] ∧ m ≤ 1000 ∧ ∀ H' p, Same H H' → H p = none → H' p = some (.tup ((lotOf b m).map V.int)) → Q (.ref p) H'

theorem ok_lot_at {f : Addr} {fd : FuncData} {C_Tabled C_Ratio C_TooMany C_BadTable C_ZeroBottom C_BadLot C_ShelfError C_NotLists : Addr} (F : Fun K "lot_at" "lot_at" s_lot_at f fd) (T : Txt K mg C_Tabled C_Ratio C_TooMany C_BadTable C_ZeroBottom C_BadLot C_ShelfError C_NotLists) (m_range : mg "range" = none) (m_tuple : mg "tuple" = none) : FnOk P w K mg base CX0 1 f fd ["number", "many"] (sp_lot_at K) := by
  refine F.ok sc_lot_at (fun vs H Q E h => ?_) (fun cdv A outer s H vs Q E hr h => ?_)
  · obtain ⟨b, m, rfl, _⟩ := h
    rfl
  · obtain ⟨b, m, rfl, hm, q⟩ := h
    refine ⟨_, (pss_one (ps_ret (pe_callTy call_tuple_of (by rfl) m_tuple (by decide +kernel) (pa_cons (pe_lc (own := [("thing", 2)]) (g := (gName 2)) rfl sc_lot_at.nd (pi_range1 (by rfl) m_range (pa_cons (pv 1) pa_nil)) (blkOk_by (own := [("thing", 2)]) (N := ["number", "many", "thing"]) (sc := defScope s_lot_at) (by decide +kernel)) (fun _ _ _ _ _ => (pg_name (i := 2) sc_lot_at.nd rfl (Or.inl rfl))) (fun _ _ _ _ _ => (pts_one (pt_cmpR op_eq (pe_op op_and (pe_op op_shr (pv 0) (pv 2)) pe_int) pe_int (nomark _)))) (fun _ _ _ _ _ => (pv 2))) pa_nil)))), ?_⟩
    refine ⟨_, rfl, _, rfl, by omega, by omega, ?_⟩
    rw [Int.toNat_natCast]
    refine fun D nD => lc_range (lo := 0) (n := m) (fun i H2 => Same H H2 ∧ H2 D = some (.lst ((lotOf b i).map V.int))) ⟨same_upd nD, upd_same⟩ ?_ ?_
    · rintro i H2 hi ⟨s, hD⟩
      refine ⟨rfl, ?_⟩
      refine ⟨_, rfl, _, rfl, b, _, rfl, rfl, (by show (0 : Int) ≤ 0 + (i : Int); omega), _, _, rfl, rfl, rfl, _, rfl, ?_⟩
      have ez : Builtin.bitAnd (b / 2 ^ (0 + (i : Int)).toNat) 1 = b / 2 ^ i % 2 := by
        rw [bit_one, Int.zero_add, Int.toNat_natCast]
      refine ite2 (fun e => ?_) (fun e => ?_)
      · have e : b / 2 ^ i % 2 = 1 := ez.symm.trans (V.int.inj (of_decide_eq_true e))
        refine ⟨_, rfl, _, hD, ?_, same_mut s nD, ?_⟩
        · rw [List.length_map]
          exact small1000 (Nat.le_trans (lotOf_len b i) (by omega))
        · rw [upd_same]
          show _ = some (HO.lst ((lotOf b i ++ (if b / 2 ^ i % 2 = 1 then [(i : Int)] else [])).map V.int))
          rw [if_pos e, ← snoc_int, Int.zero_add]
      · have e : ¬ b / 2 ^ i % 2 = 1 := fun z => e (decide_eq_true (congrArg V.int (ez.trans z)))
        refine ⟨s, ?_⟩
        show _ = some (HO.lst ((lotOf b i ++ (if b / 2 ^ i % 2 = 1 then [(i : Int)] else [])).map V.int))
        rw [if_neg e, List.append_nil]
        exact hD
    · rintro H2 ⟨s, hD⟩
      exact ⟨D, _, rfl, .inl ⟨lst_l hD, fun p np => q _ p (same_mut s (s.free np)) (s.free np) upd_same⟩⟩
def pre_lots : List V → It → Prop := fun vs J => ∃ m : Nat, vs = [.int (m : Int)] ∧ m ≤ 40 ∧ J = Itg (fun i => lotOf (i : Int) m) ((2 : Int) ^ m).toNat
theorem ok_lots {f : Addr} {fd : FuncData} {C_Tabled C_Ratio C_TooMany C_BadTable C_ZeroBottom C_BadLot C_ShelfError C_NotLists : Addr} (F : Fun K "lots" "lots" s_lots f fd) (hm : mg "lots" = some (.ref f)) (hbd : Binds K fd ["many"] []) (T : Txt K mg C_Tabled C_Ratio C_TooMany C_BadTable C_ZeroBottom C_BadLot C_ShelfError C_NotLists) (m_range : mg "range" = none) (c_lot_at : Cal P w K mg base CX0 1 "lot_at" ["number", "many"] (sp_lot_at K)) : CalG P w K mg base 2 "lots" pre_lots := by
  intro X tg e es t p pos eP ew eK em eb calm room gl ha first noStar
  subst eP ew eK em eb
  obtain ⟨f_lot_at, fd_lot_at, G_lot_at, m_lot_at, k_lot_at, b_lot_at⟩ := c_lot_at
  obtain ⟨⟨oc, od, kV, doc, pm, an, cdv, ct, osl, rfl, lk, hcd⟩, kp⟩ := F
  refine pgi_call (N := ["many", "number"]) (ps := ["many"]) lk hcd sc_lots room gl hm kp hbd ha (fun vs J pins L a g go hpre old la gone => ?_) (by decide) first noStar
  have hr : Room 2 (X.A.in1.deeper (envOfC "lots" (defScope s_lots) L f cdv)) := (room.in1).deeper _
  obtain ⟨m, rfl, hm, rfl⟩ := hpre
  refine ⟨rfl, rfl, ((2 : Int) ^ m).toNat, _, _, _, (Itr 0 ((2 : Int) ^ m).toNat), (fun _ σ => ∃ y, σ = [some (.int (m : Int)), y]), ?w0, ?jg, ?js, ⟨old, calm, rfl, rfl, by decide +kernel, rfl, la, gone, fun s H => (pi_range1 (by rfl) m_range (pa_cons (pe_op op_shl pe_int (pv 0)) pa_nil)), fun s H => (pg_name (i := 1) sc_lots.nd rfl (Or.inl rfl)), fun s H => (pe_call G_lot_at (hr.mono (by decide)) (by rfl) m_lot_at k_lot_at b_lot_at .nil pass0 (pa_cons (pv 1) (pa_cons (pv 0) pa_nil))), fun _ => rfl, rfl, ?i0, ?turn, ?stop, ?mono, ?pos⟩⟩
  case w0 => exact ⟨none, rfl⟩
  case jg => exact fun i H h => h
  case js => exact fun i H h => h
  case i0 =>
    rintro σ H ⟨y, rfl⟩
    have tb := two_bd hm
    refine ⟨_, rfl, 1, (m : Int), rfl, rfl, ⟨by omega, by omega, by decide⟩, _, rfl, tb.1, tb.2, ?_⟩
    rw [Int.one_mul, Int.toNat_natCast]
    exact ⟨rfl, fun _ _ h => h⟩
  case turn =>
    rintro i σ ⟨y, rfl⟩ lt H
    refine ⟨lt, fun x H' ⟨e1, e2⟩ => ?_⟩
    subst e1 e2
    refine ⟨_, rfl, _, rfl, 0 + (i : Int), m, rfl, by omega, fun H2 p s np hp => ⟨⟨p, rfl, s, np, by rw [hp, Int.zero_add]⟩, _, rfl⟩⟩
  case stop => exact fun σ H _ => Nat.le_refl _
  case mono =>
    rintro i H H1 y H3 s ⟨t, e, s2, nt, ht⟩
    exact ⟨t, e, s.trans s2, s.free nt, ht⟩
  case pos =>
    have : (0 : Int) < 2 ^ m := Int.pow_pos (by decide)
    omega
def sp__fits (K : PySem.W.Frag) : Sp := fun vs H Q _ => ∃ (r l : Addr) (t : Int) (cs ls : List Int), vs = [.ref r, .ref l] ∧ H r = some (.lst ((t :: cs).map V.int)) ∧ H l = some (.tup (ls.map V.int)) ∧ cs.length ≤ 900 ∧ ∀ H', Same H H' → Q (.bl (fitR ls t cs)) H' 
theorem ok__fits {f : Addr} {fd : FuncData} {C_Tabled C_Ratio C_TooMany C_BadTable C_ZeroBottom C_BadLot C_ShelfError C_NotLists : Addr} (F : Fun K "_fits" "_fits" s__fits f fd) (T : Txt K mg C_Tabled C_Ratio C_TooMany C_BadTable C_ZeroBottom C_BadLot C_ShelfError C_NotLists) (m_enumerate : mg "enumerate" = none) (m_sum : mg "sum" = none) : FnOk P w K mg base CX0 1 f fd ["row", "lot"] (sp__fits K) := by
  refine F.ok sc__fits (fun vs H Q E h => ?_) (fun cdv A outer s H vs Q E hr h => ?_)
  · obtain ⟨r, l, t, cs, ls, rfl, _⟩ := h
    rfl
  · obtain ⟨r, l, t, cs, ls, rfl, hr, hl, cl, q⟩ := h
    refine ⟨_, (pss_cons (ps_asg (pv 0) (pg_st1 rfl (pg_name (i := 2) sc__fits.nd rfl (Or.inl rfl)) (pg_name (i := 3) sc__fits.nd rfl (Or.inl rfl))))
      (pss_cons (ps_for PassesOwn.never rfl (pi_enum (by rfl) m_enumerate (pa_cons (pv 3) pa_nil)) (pg_tup rfl (pgs_cons (pg_name (i := 4) sc__fits.nd rfl (Or.inl rfl)) (pgs_cons (pg_name (i := 5) sc__fits.nd rfl (Or.inl rfl)) pgs_nil)))
      (pss_one (ps_if (PW.pt (pw_or (pt_cmpR op_lt (pv 5) pe_int (nomark _)) (pw_or1 (PW.pt (pw_and (pt_cmpR op_gt (pv 5) pe_int (nomark _)) (pw_and1 (pt_cmpR op_notIn_seq (pv 4) (pv 1) (by rfl)))))))) (pss_one (ps_ret pe_bl)) pss_nil)))
      (pss_one (ps_ret (pe_and (pe_cmpR op_ge (pv 2) pe_int (nomark _)) (pe_one (pe_cmpR op_le (pe_callB (cr_sum rfl) (by rfl) m_sum (by decide +kernel) (pa_cons (pv 3) pa_nil)) (pv 2) (nomark _)))))))), ?_⟩
    refine ⟨_, rfl, r, .int t, cs.map V.int, rfl, lst_l hr, by rw [List.length_map]; omega, fun D nD => ?_⟩
    have s1 := same_upd (o := .lst (cs.map V.int)) nD
    have hD : upd H D (.lst (cs.map V.int)) D = some (.lst (cs.map V.int)) := upd_same
    have hl1 := s1 _ _ hl
    generalize upd H D (.lst (cs.map V.int)) = H1 at s1 hD hl1 ⊢
    refine ⟨_, rfl, D, _, rfl, lst_l hD, ?_⟩
    refine for_it (walk_enum (K := K) (a := D) (xs := cs.map V.int)) (fun i σ H2 => ∃ y1 y2 : Option V, σ = [some (.ref r), some (.ref l), some (.int t), some (.ref D), y1, y2] ∧ Same H1 H2 ∧ cntB ls cs 0 = cntB ls (cs.drop i) i) ⟨none, none, rfl, Same.refl _, rfl⟩ ?_ ?_ ?_
    · rintro i σ H2 _ ⟨_, _, _, sx, _⟩
      exact lst_l (sx D _ hD)
    · rintro i x σ H2 H3 hi ⟨y1, y2, rfl, sx, hb⟩ ⟨tp, ix, nx, rfl, ntp, rfl, e1, e2⟩
      cases e1
      have e2 : (cs.map V.int)[i]? = some nx := e2
      obtain ⟨c, rfl, hc⟩ := int_of e2
      rw [drop_cons hc] at hb
      have s3 := sx.trans (same_upd (o := .tup [V.int i, V.int c]) ntp)
      refine ⟨tp, _, rfl, tup_t upd_same, rfl, _, _, rfl, _, _, rfl, rfl, ?_⟩
      generalize upd H2 tp (.tup [V.int i, V.int c]) = H3 at s3 ⊢
      have bad : cntB ls cs 0 = false → Q (.bl false) H3 := fun e => by
        have : fitR ls t cs = false := by
          unfold fitR
          rw [e]
          rfl
        exact this ▸ q H3 (s1.trans s3)
      refine ⟨_, rfl, _, _, rfl, rfl, _, rfl, ite2 (fun c1 => ?_) (fun c1 => ⟨_, rfl, _, _, rfl, rfl, _, rfl, ite2 (fun c2 => ⟨_, rfl, _, rfl, l, _, rfl, .inr (tup_t (s3 _ _ hl1)), rfl, ints_flat ls, _, rfl, ite2 (fun c3 => ?_) (fun c3 => ?_)⟩) (fun c2 => ?_)⟩)⟩
      · have c1 : c < 0 := of_decide_eq_true c1
        refine bad (hb.trans ?_)
        unfold cntB
        exact if_pos c1
      · have c1 : ¬ c < 0 := fun z => c1 (decide_eq_true z)
        have c2 : c > 0 := of_decide_eq_true c2
        have c3 : ¬ inV (.int (i : Int)) (ls.map V.int) = true := fun z => by
          rw [z] at c3
          cases c3
        refine bad (hb.trans ?_)
        unfold cntB
        rw [if_neg c1, if_pos ⟨c2, c3⟩]
      · have c1 : ¬ c < 0 := fun z => c1 (decide_eq_true z)
        have c3 : inV (.int (i : Int)) (ls.map V.int) = true := by
          cases z : inV (.int (i : Int)) (ls.map V.int) with
          | true => rfl
          | false => exact absurd (by rw [z]; rfl) c3
        refine ⟨_, _, rfl, s3, hb.trans ?_⟩
        rw [show cntB ls (c :: cs.drop (i + 1)) i = if c < 0 then false else if c > 0 ∧ ¬ inV (.int (i : Int)) (ls.map V.int) = true then false else cntB ls (cs.drop (i + 1)) (i + 1) from rfl, if_neg c1, if_neg fun z => z.2 c3]
      · have c1 : ¬ c < 0 := fun z => c1 (decide_eq_true z)
        have c2 : ¬ c > 0 := fun z => c2 (decide_eq_true z)
        refine ⟨_, _, rfl, s3, hb.trans ?_⟩
        rw [show cntB ls (c :: cs.drop (i + 1)) i = if c < 0 then false else if c > 0 ∧ ¬ inV (.int (i : Int)) (ls.map V.int) = true then false else cntB ls (cs.drop (i + 1)) (i + 1) from rfl, if_neg c1, if_neg fun z => c2 z.1]
    · rintro σ H2 ⟨y1, y2, rfl, sx, hb⟩
      rw [List.length_map, List.drop_length] at hb
      have hb : cntB ls cs 0 = true := hb
      have e : fitR ls t cs = (decide (t ≥ 1) && decide (cs.sum ≤ t)) := by
        unfold fitR
        rw [hb, Bool.true_and]
      have q := q H2 (s1.trans sx)
      rw [e] at q
      refine ⟨_, rfl, _, _, rfl, rfl, _, rfl, ite2 (fun c => ?_) (fun c => ?_)⟩
      · rw [decide_eq_true (of_decide_eq_true c), Bool.true_and] at q
        exact ⟨_, rfl, D, _, rfl, lst_l (sx _ _ hD), _, rfl, _, _, rfl, rfl, q⟩
      · rw [decide_eq_false (fun z => c (decide_eq_true z)), Bool.false_and] at q
        exact q
def sp_common_divisor (K : PySem.W.Frag) : Sp := fun vs H Q _ => ∃ (a : Addr) (l : List Nat), vs = [.ref a] ∧ H a = some (.lst ((cz l).map V.int)) ∧ Q (.int (gl l : Nat)) H
theorem ok_common_divisor {f : Addr} {fd : FuncData} {C_Tabled C_Ratio C_TooMany C_BadTable C_ZeroBottom C_BadLot C_ShelfError C_NotLists : Addr} (F : Fun K "common_divisor" "common_divisor" s_common_divisor f fd) (T : Txt K mg C_Tabled C_Ratio C_TooMany C_BadTable C_ZeroBottom C_BadLot C_ShelfError C_NotLists) : FnOk P w K mg base CX0 1 f fd ["numbers"] (sp_common_divisor K) := by
  refine F.ok sc_common_divisor (fun vs H Q E h => ?_) (fun cdv A outer s H vs Q E hr h => ?_)
  · obtain ⟨a, l, rfl, _⟩ := h
    rfl
  · obtain ⟨a, l, rfl, hl, q⟩ := h
    refine ⟨_, (pss_cons (ps_set (i := 1) sc_common_divisor.nd rfl (Or.inl rfl) pe_int)
      (pss_cons (ps_for PassesOwn.never rfl (pi_list (pv 0)) (pg_name (i := 2) sc_common_divisor.nd rfl (Or.inl rfl))
      (pss_one (ps_set (i := 1) sc_common_divisor.nd rfl (Or.inl rfl) (pe_callBfun cr_gcd (by rfl) T.g_gcd (pa_cons (pv 1) (pa_cons (pv 2) pa_nil))))))
      (pss_one (ps_ret (pv 1))))), ?_⟩
    refine ⟨_, rfl, a, rfl, ⟨_, lst_l hl⟩, for_list (K := K) (a := a) (xs := (cz l).map V.int) (fun i σ H2 => ∃ y : Option V, σ = [some (.ref a), some (.int (gl (l.take i) : Nat)), y] ∧ H2 = H) ⟨none, rfl, rfl⟩ (fun i σ H2 _ ⟨_, _, e⟩ => e ▸ lst_l hl) ?_ ?_⟩
    · rintro i x σ H2 hi ⟨y, rfl, rfl⟩
      obtain ⟨n, rfl, hn⟩ := cz_of hi
      refine ⟨_, rfl, _, rfl, _, _, rfl, some (.int (n : Int)), ?_, rfl⟩
      rw [List.take_add_one, hn]
      show _ = [some (V.ref a), some (V.int (gl (l.take i ++ [n]) : Nat)), some (V.int (n : Int))]
      rw [gl_snoc]
      rfl
    · rintro σ H2 ⟨y, rfl, rfl⟩
      rw [czv_len, List.take_length]
      exact ⟨_, rfl, q⟩
def sp__reduced_row (K : PySem.W.Frag) : Sp := fun vs H Q _ => ∃ (r : Addr) (b : Nat) (ws : List Nat), vs = [.ref r] ∧ H r = some (.lst ((cz (b :: ws)).map V.int)) ∧ ws.length ≤ 900 ∧ 0 < b ∧ b < 2 ^ 90 ∧ ∀ H' t, Same H H' → H' t = some (.tup ((cz (divd (b :: ws))).map V.int)) → Q (.ref t) H' 
theorem ok__reduced_row {f : Addr} {fd : FuncData} {C_Tabled C_Ratio C_TooMany C_BadTable C_ZeroBottom C_BadLot C_ShelfError C_NotLists : Addr} (F : Fun K "_reduced_row" "_reduced_row" s__reduced_row f fd) (T : Txt K mg C_Tabled C_Ratio C_TooMany C_BadTable C_ZeroBottom C_BadLot C_ShelfError C_NotLists) (m_tuple : mg "tuple" = none) (c_common_divisor : Cal P w K mg base CX0 1 "common_divisor" ["numbers"] (sp_common_divisor K)) : FnOk P w K mg base CX0 2 f fd ["row"] (sp__reduced_row K) := by
  refine F.ok sc__reduced_row (fun vs H Q E h => ?_) (fun cdv A outer s H vs Q E hr h => ?_)
  · obtain ⟨r, b, ws, rfl, _⟩ := h
    rfl
  · obtain ⟨r, b, ws, rfl, hrw, wl, b0, b1, q⟩ := h
    obtain ⟨f_common_divisor, fd_common_divisor, G_common_divisor, m_common_divisor, k_common_divisor, b_common_divisor⟩ := c_common_divisor
    refine ⟨_, (pss_cons (ps_set (i := 1) sc__reduced_row.nd rfl (Or.inr rfl) (pe_call G_common_divisor (hr.mono (by decide)) (by rfl) m_common_divisor k_common_divisor b_common_divisor .nil pass0 (pa_cons (pv 0) pa_nil)))
      (pss_one (ps_ret (pe_callTy call_tuple_of (by rfl) m_tuple (by decide +kernel) (pa_cons (pe_lc (own := [("item", 2)]) (g := (gName 2)) (tt := tYes) rfl sc__reduced_row.nd (pi_list (pv 0)) (blkOk_by (own := [("item", 2)]) (N := ["row", "divisor", "item"]) (sc := defScope s__reduced_row) (by decide +kernel)) (fun _ _ _ _ _ => (pg_name (i := 2) sc__reduced_row.nd rfl (Or.inl rfl))) (fun _ _ _ _ _ => pts_nil) (fun _ _ _ _ _ => (pe_op op_fdivW (pv 2) (pv 1)))) pa_nil))))), ?_⟩
    refine ⟨_, rfl, r, b :: ws, rfl, hrw, ?_⟩
    have gp : 0 < gl (b :: ws) := gl_pos b0
    have gb : gl (b :: ws) ≤ b := Nat.le_of_dvd b0 (gl_dvd List.mem_cons_self)
    unfold divd at q
    generalize gl (b :: ws) = g at gp gb q
    have g0 : (0 : Int) < (g : Int) := by omega
    have g1 : (g : Int) < 2 ^ 100 := by
      have : g < 2 ^ 90 := Nat.lt_of_le_of_lt gb b1
      omega
    refine ⟨_, rfl, r, rfl, ⟨_, lst_l hrw⟩, fun D nD => lc_list (K := K) (a := r) (xs := (cz (b :: ws)).map V.int) (fun i H2 => Same H H2 ∧ H2 D = some (.lst ((cz (((b :: ws).take i).map (· / g))).map V.int))) ⟨same_upd nD, upd_same⟩ (fun i H2 _ ⟨s, _⟩ => lst_l (s _ _ hrw)) ?_ ?_⟩
    · rintro i x H2 hi ⟨s, hD⟩
      obtain ⟨n, rfl, hin⟩ := cz_of hi
      have il := (List.getElem?_eq_some_iff.mp hin).1
      rw [List.length_cons] at il
      refine ⟨rfl, ?_⟩
      refine lc_yes ?_
      refine iteT ?_
      refine ⟨_, rfl, _, rfl, _, _, rfl, rfl, w_div g0 g1, _, hD, ?_, same_mut s nD, ?_⟩
      · rw [czv_len, List.length_map, List.length_take]
        exact small1000 (by omega)
      · rw [upd_same, List.take_add_one, hin, List.map_append]
        unfold cz
        rw [List.map_append, List.map_append]
        rfl
    · rintro H2 ⟨s, hD⟩
      rw [czv_len, List.take_length] at hD
      exact ⟨D, _, rfl, .inl ⟨lst_l hD, fun t nt => q _ t (s.trans (same_upd nt)) upd_same⟩⟩
def sp_Tabled___init__ (C CT CB : Addr) : Sp := fun vs H Q E => ∃ (p dx L : Addr) (us : List Addr) (rows : List (List Int)) (m : Nat), vs = [.ref p, .int (m : Int), .ref L] ∧ H p = some (.ins C dx []) ∧ H L = some (.lst (us.map V.ref)) ∧ RowsL H us rows ∧ us.length ≤ 900 ∧ (∀ r ∈ rows, r.length ≤ 60 ∧ ∀ x ∈ r, x < 2 ^ 90) ∧
  (∀ n, dueT m rows = .many n → ∀ H' d, SameX p H H' → H' d = some (.xd [("most", .int 6), ("many", .int n)]) → E (.ref CT) (some d) H') ∧ (dueT m rows = .table → ∀ H' d, SameX p H H' → H' d = some (.xd [("at", .non)]) → E (.ref CB) (some d) H') ∧
  (∀ k, dueT m rows = .row k → ∀ H' d, SameX p H H' → H' d = some (.xd [("at", .int (k : Int))]) → E (.ref CB) (some d) H') ∧ (dueT m rows = .made → ∀ H', SameX p H H' → TAt C H' p m (rows.map divI) → Q .non H')
theorem ok_Tabled___init__ {f cc cda g_Rule : Addr} {fd : FuncData} {file : Str} {C_Tabled C_Ratio C_TooMany C_BadTable C_ZeroBottom C_BadLot C_ShelfError C_NotLists : Addr} (F : FunS K "__init__" "Tabled.__init__" s_Tabled___init__ cc cda f fd) (SC : SupC K mg C_Tabled C_Tabled cc cda g_Rule file) (hfile : ((P.main.file : Str) == file) = true) (htop : (P.main.scope.names.lookup ("super" : Str)).isSome = false) (T : Txt K mg C_Tabled C_Ratio C_TooMany C_BadTable C_ZeroBottom C_BadLot C_ShelfError C_NotLists) (m_enumerate : mg "enumerate" = none) (m_len : mg "len" = none) (m_tuple : mg "tuple" = none) (c_check_many : Cal P w K mg base (L2.CX P w) 3 "check_many" ["many", "most"] (sp_check_many C_TooMany)) (c_Rule___init__ : ∃ fd : FuncData, FnOk P w K mg base (L2.CX P w) 4 g_Rule fd ["self", "many"] (sp_Rule___init__ C_Tabled C_TooMany) ∧ Binds K fd ["self", "many"] []) (c_lot_at : Cal P w K mg base CX0 1 "lot_at" ["number", "many"] (sp_lot_at K)) (c__fits : Cal P w K mg base CX0 1 "_fits" ["row", "lot"] (sp__fits K)) (c__reduced_row : Cal P w K mg base CX0 2 "_reduced_row" ["row"] (sp__reduced_row K)) (c_BadTable___init__ : CalX P w K mg base CX0 1 C_BadTable ["self", "at"] (sp_BadTable___init__ C_BadTable)) : FnOk P w K mg base (L2.CX P w) 5 f fd ["self", "many", "rows"] (sp_Tabled___init__ C_Tabled C_TooMany C_BadTable) := by
  obtain ⟨f_check_many, fd_check_many, G_check_many, m_check_many, k_check_many, b_check_many⟩ := c_check_many
  obtain ⟨fd_Rule___init__, G_Rule___init__, b_Rule___init__⟩ := c_Rule___init__
  obtain ⟨f_lot_at, fd_lot_at, G_lot_at, m_lot_at, k_lot_at, b_lot_at⟩ := c_lot_at
  obtain ⟨f__fits, fd__fits, G__fits, m__fits, k__fits, b__fits⟩ := c__fits
  obtain ⟨f__reduced_row, fd__reduced_row, G__reduced_row, m__reduced_row, k__reduced_row, b__reduced_row⟩ := c__reduced_row
  obtain ⟨f_BadTable___init__, fd_BadTable___init__, G_BadTable___init__, ic_BadTable___init__, ti_BadTable___init__, b_BadTable___init__⟩ := c_BadTable___init__
  obtain ⟨⟨oc, od, kV, doc, pm, an, ct, osl, rfl, lk, hcd⟩, _⟩ := F
  refine fn_at (D := C_Tabled) lk hcd sc_Tabled___init__ SC.cell (fun vs H Q E h => ?_) (fun A outer s H vs Q E hr h => ?_)
  · obtain ⟨p, dx, L, us, rows, m, rfl, _⟩ := h
    rfl
  · obtain ⟨p, dx, L, us, rows, m, rfl, hp, hL, row, ul, lw, kM, kT, kR, q⟩ := h
    refine ⟨_, (psas_cons (psa_ps (ps_expr (pe_call G_check_many (hr.mono (by decide)) (by rfl) m_check_many k_check_many b_check_many .nil (passes_call (takes_of rfl rfl rfl rfl) (fun _ _ _ _ h => h)) (pa_cons (pv 1) (pa_cons (pe_glob (v := .int 6) (by rfl) T.g_MOST_TABLED_THINGS.choose_spec ⟨_, rfl⟩) pa_nil)))))
      (psas_cons (psa_expr (pea_super lk ⟨SC.isD, SC.sub, SC.cell, SC.code, SC.sup, SC.tg, SC.fg, SC.opq, SC.nosup⟩ hfile htop rfl rfl rfl rfl rfl rfl rfl rfl rfl rfl rfl G_Rule___init__ b_Rule___init__ (hr.mono (by decide)) (passes_call (takes_of rfl rfl rfl rfl) (fun _ _ _ _ h => h)) (pa_cons (pv 1) pa_nil) rfl rfl rfl rfl))
      (psas_pss (pss_cons (ps_if (pt_cmpR op_ne (pe_callB call_len_seq (by rfl) m_len (by decide +kernel) (pa_cons (pv 2) pa_nil)) (pe_op op_shl pe_int (pv 1)) (nomark _)) (pss_one (ps_raise rfl (takes_of rfl rfl rfl rfl) (pmk_oex T.ox_BadTable ic_BadTable___init__ ti_BadTable___init__ G_BadTable___init__ (hr.mono (by decide)) b_BadTable___init__ .nil pass0 (by exact rfl) T.g_BadTable (pa_cons pe_non pa_nil)))) pss_nil)
      (pss_cons (ps_for (passes_of rfl) rfl (pi_enum (by rfl) m_enumerate (pa_cons (pv 2) pa_nil)) (pg_tup rfl (pgs_cons (pg_name (i := 4) sc_Tabled___init__.nd rfl (Or.inl rfl)) (pgs_cons (pg_name (i := 5) sc_Tabled___init__.nd rfl (Or.inl rfl)) pgs_nil)))
      (pss_one (ps_if (PW.pt (pw_or (pt_cmpR op_ne (pe_callB call_len_seq (by rfl) m_len (by decide +kernel) (pa_cons (pv 5) pa_nil)) (pe_op op_add (pv 1) pe_int) (nomark _)) (pw_or1 (pt_not (pt_val (pe_call G__fits (hr.mono (by decide)) (by rfl) m__fits k__fits b__fits .nil pass0 (pa_cons (pv 5) (pa_cons (pe_call G_lot_at (hr.mono (by decide)) (by rfl) m_lot_at k_lot_at b_lot_at .nil pass0 (pa_cons (pv 4) (pa_cons (pv 1) pa_nil))) pa_nil)))))))) (pss_one (ps_raise rfl (takes_of rfl rfl rfl rfl) (pmk_oex T.ox_BadTable ic_BadTable___init__ ti_BadTable___init__ G_BadTable___init__ (hr.mono (by decide)) b_BadTable___init__ .nil pass0 (by exact rfl) T.g_BadTable (pa_cons (pv 4) pa_nil)))) pss_nil)))
      (pss_one (ps_fld (pv 0) (pe_callTy call_tuple_of (by rfl) m_tuple (by decide +kernel) (pa_cons (pe_lc (own := [("row", 5)]) (g := (gName 5)) (tt := tYes) rfl sc_Tabled___init__.nd (pi_list (pv 2)) (blkOk_by (own := [("row", 5)]) (N := ["self", "many", "rows", "__class__", "number", "row"]) (sc := defScope s_Tabled___init__) (by decide +kernel)) (fun _ _ _ _ _ => (pg_name (i := 5) sc_Tabled___init__.nd rfl (Or.inl rfl))) (fun _ _ _ _ _ => pts_nil) (fun _ _ _ _ _ => (pe_call G__reduced_row (hr.mono (by decide)) (by rfl) m__reduced_row k__reduced_row b__reduced_row .nil pass0 (pa_cons (pv 5) pa_nil)))) pa_nil)) rfl))))))), ?_⟩
    refine ⟨_, rfl, (m : Int), 6, rfl, fun e d nd => kM m (dueT_many (by omega)) _ d (SameX.new nd) upd_same, fun e6 => ?_⟩
    have e6 : ¬ m > 6 := by omega
    refine ⟨p, dx, [], rfl, hp, _, rfl, p, dx, [], (m : Int), rfl, hp, Nat.zero_le _, fun e d nd => absurd e (by omega), fun e24 => ?_⟩
    have x1 : SameX p H (upd H p (.ins C_Tabled dx (putF "many" (.int (m : Int)) []))) := SameX.put
    have hp1 : upd H p (.ins C_Tabled dx (putF "many" (.int (m : Int)) [])) p = some (.ins C_Tabled dx (putF "many" (.int (m : Int)) [])) := upd_same
    generalize upd H p (.ins C_Tabled dx (putF "many" (.int (m : Int)) [])) = H1 at x1 hp1 ⊢
    have hL1 := lst_sx hp x1 hL
    have row1 := row.sx hp x1
    have rl := row.1
    refine ⟨_, rfl, L, _, rfl, .inl (lst_l hL1), _, rfl, 1, (m : Int), rfl, rfl, ⟨by omega, by omega, by decide⟩, rfl, _, rfl, ite2N (fun c => ?_) (fun c => ?_)⟩
    · have c2 : rows.length ≠ 2 ^ m := fun z => c (congrArg V.int (by
        rw [List.length_map, rl, z, Int.toNat_natCast, Int.one_mul]
        exact Int.natCast_pow 2 m))
      exact ⟨(by show 1 ≤ 1000; decide), fun a na => ⟨a, _, rfl, upd_same, fun dx2 nd ne => raise1 (fun d nd => kT (dueT_table e6 c2) _ _ (x1.trans (same_sx ((same_upd nd)))) upd_same) na nd ne⟩⟩
    have c := V.int.inj c
    rw [List.length_map, rl, Int.toNat_natCast, Int.one_mul] at c
    have c2 : rows.length = 2 ^ m := by
      have : ((2 ^ m : Nat) : Int) = 2 ^ m := Int.natCast_pow 2 m
      omega
    have dr := dueT_rest e6 c2
    refine ⟨_, rfl, L, _, rfl, lst_l hL1, ?_⟩
    refine for_it (walk_enum (K := K) (a := L) (xs := us.map V.ref)) (fun i σ H2 => ∃ y1 y2 : Option V, σ = [some (.ref p), some (.int (m : Int)), some (.ref L), none, y1, y2] ∧ Same H1 H2 ∧ badT m rows 0 = badT m (rows.drop i) i) ⟨none, none, rfl, Same.refl _, rfl⟩ ?_ ?_ ?_
    · rintro i σ H2 _ ⟨_, _, _, sx, _⟩
      exact lst_l (sx L _ hL1)
    · rintro i x σ H2 H3 hi ⟨y1, y2, rfl, sx, hb⟩ ⟨tp, ix, nx, rfl, ntp, rfl, e1, e2⟩
      cases e1
      rw [List.length_map] at hi
      have h1 : us[i]? = some us[i] := List.getElem?_eq_getElem hi
      have h2 : rows[i]? = some rows[i] := List.getElem?_eq_getElem (by omega)
      have e2 : (us.map V.ref)[i]? = some nx := e2
      rw [List.getElem?_map, h1] at e2
      cases e2
      have hd := dropT h2
      have s3 := sx.trans (same_upd (o := .tup [V.int i, V.ref us[i]]) ntp)
      have hu := s3 _ _ (row1.2 i _ _ h1 h2)
      have l60 := (lw _ (List.mem_of_getElem? h2)).1
      generalize rows[i] = r at hu hd h2 l60
      rw [hd] at hb
      refine ⟨tp, _, rfl, tup_t upd_same, rfl, _, _, rfl, _, _, rfl, rfl, ?_⟩
      generalize upd H2 tp (.tup [V.int i, V.ref us[i]]) = H3 at s3 hu ⊢
      refine ⟨_, rfl, us[i], _, rfl, .inl (lst_l hu), _, rfl, _, _, rfl, rfl, rfl, _, rfl, ite2N (fun c => ?_) (fun c => ?_)⟩
      · have no : ¬ rowOk m i r = true := fun z => c (congrArg V.int (by
          obtain ⟨b, ws, rfl, _, lw⟩ := row_nats z
          rw [czv_len, List.length_cons, lw]
          rfl))
        exact ⟨_, rfl, (by show 1 ≤ 1000; decide), fun a na => ⟨a, _, rfl, upd_same, fun dx2 nd ne => raise1 (fun d nd => kR i (by rw [dr, hb, badT_no no]) _ _ (x1.trans (same_sx (s3.trans (same_upd nd)))) upd_same) na nd ne⟩⟩
      have c := V.int.inj c
      rw [List.length_map] at c
      obtain ⟨t, cs, rfl⟩ : ∃ t cs, r = t :: cs := by
        cases r with
        | nil =>
          rw [List.length_nil] at c
          omega
        | cons t cs => exact ⟨t, cs, rfl⟩
      rw [List.length_cons] at c
      have cl : cs.length = m := by omega
      refine ⟨_, rfl, _, rfl, _, rfl, (i : Int), m, rfl, by omega, fun H4 l s4 nl hl => ?_⟩
      refine ⟨us[i], l, t, cs, lotOf i m, rfl, s4 _ _ hu, hl, by omega, fun H5 s5 => ?_⟩
      have s35 := (s3.trans s4).trans s5
      have ro : rowOk m i (t :: cs) = fitR (lotOf i m) t cs := by
        show (decide (cs.length = m) && fitR (lotOf i m) t cs) = _
        rw [decide_eq_true cl, Bool.true_and]
      cases e : fitR (lotOf i m) t cs with
      | true =>
        exact ⟨true, rfl, iteF ⟨_, _, rfl, s35, by rw [hb, badT_ok (ro.trans e)]⟩⟩
      | false =>
        have no : ¬ rowOk m i (t :: cs) = true := fun z => by
          rw [ro, e] at z
          cases z
        refine ⟨false, rfl, iteT ?_⟩
        exact ⟨_, rfl, (by show 1 ≤ 1000; decide), fun a na => ⟨a, _, rfl, upd_same, fun dx2 nd ne => raise1 (fun d nd => kR i (by rw [dr, hb, badT_no no]) _ _ (x1.trans (same_sx (s35.trans (same_upd nd)))) upd_same) na nd ne⟩⟩
    · rintro σ H2 ⟨y1, y2, rfl, sx, hb⟩
      rw [List.length_map, rl, List.drop_length] at hb
      have mk : dueT m rows = .made := by rw [dr, hb]; rfl
      have all := badT_all (hb.trans rfl)
      have hL2 := sx _ _ hL1
      have row2 := row1.same sx
      refine ⟨_, rfl, L, rfl, ⟨_, lst_l hL2⟩, fun D nD => lc_list (K := K) (a := L) (xs := us.map V.ref) (fun i H7 => ∃ zs : List Addr, Same H2 H7 ∧ H7 D = some (.lst (zs.map V.ref)) ∧ zs.length = i ∧ RowsT H7 zs ((rows.take i).map divI)) ⟨[], same_upd nD, upd_same, rfl, ⟨rfl, fun i u r h => by cases h⟩⟩ (fun i H7 _ ⟨_, s, _⟩ => lst_l (s _ _ hL2)) ?_ ?_⟩
      · rintro i x H7 hi ⟨zs, s7, hD, lz, rz⟩
        have i1 : i < us.length := by
          have := (List.getElem?_eq_some_iff.mp hi).1
          rw [List.length_map] at this
          exact this
        have h1 : us[i]? = some us[i] := List.getElem?_eq_getElem i1
        have h2 : rows[i]? = some rows[i] := List.getElem?_eq_getElem (by omega)
        rw [List.getElem?_map, h1] at hi
        cases hi
        have hu := s7 _ _ (row2.2 i _ _ h1 h2)
        have bnd := lw _ (List.mem_of_getElem? h2)
        obtain ⟨b, ws, e, b0, wl⟩ := row_nats (all i _ h2)
        rw [e] at hu bnd
        have b1 : b < 2 ^ 90 := by
          have := bnd.2 (b : Int) (by unfold cz; exact List.mem_map.mpr ⟨b, List.mem_cons_self, rfl⟩)
          omega
        refine ⟨rfl, ?_⟩
        refine lc_yes ?_
        refine iteT ?_
        refine ⟨_, rfl, us[i], b, ws, rfl, hu, by omega, b0, b1, fun H8 t s8 ht8 => ?_⟩
        have hD8 := s8 _ _ hD
        refine ⟨_, hD8, ?_, zs ++ [t], same_mut (s7.trans s8) nD, ?_, ?_, ?_⟩
        · rw [List.length_map]
          exact small1000 (by omega)
        · rw [upd_same, List.map_append]
          rfl
        · rw [List.length_append, lz]
          rfl
        · rw [List.take_add_one, h2, List.map_append]
          refine RowsT.put hD8 (RowsT.snoc (rz.same s8) ?_)
          rw [e, divI_cz]
          exact ht8
      · rintro H7 ⟨zs, s7, hD, lz, rz⟩
        rw [List.length_map, rl, List.take_length] at rz
        refine ⟨D, _, rfl, .inl ⟨lst_l hD, fun t nt => ?_⟩⟩
        have s8 := (sx.trans s7).trans (same_upd (o := .tup (zs.map V.ref)) nt)
        have hp7 := s8 _ _ hp1
        have pt : t ≠ p := fun z => by
          rw [z, s7 _ _ (sx _ _ hp1)] at nt
          cases nt
        refine ⟨_, rfl, p, C_Tabled, dx, _, rfl, hp7, T.cl_Tabled, T.n_Tabled_rows, (by show 1 < 1000; decide), ?_⟩
        have x9 : SameX p (upd H7 t (.tup (zs.map V.ref))) (upd (upd H7 t (.tup (zs.map V.ref))) p (.ins C_Tabled dx (fT m t))) := SameX.put
        exact q mk _ ((x1.trans (same_sx s8)).trans x9) ⟨dx, t, zs, upd_same, x9 _ _ pt upd_same, (rz.same (same_upd nt)).sx hp7 x9⟩
/-- Ratio(t, b): ZeroBottom, or the fraction in lowest terms -/
def sp_Ratio___init__ (C CZ : Addr) : Sp := fun vs H Q E => ∃ (x dx : Addr) (t b : Int), vs = [.ref x, .int t, .int b] ∧ H x = some (.ins C dx []) ∧ (b ≠ 0 → Sm b) ∧ (b = 0 → E (.ref CZ) none H) ∧
  (b ≠ 0 → ∀ H', RatAt C H' x (nT t b) (nB t b) → (∀ c o, H c = some o → c ≠ x → H' c = some o) → Q .non H')

theorem ok_Ratio___init__ {f : Addr} {fd : FuncData} {C_Tabled C_Ratio C_TooMany C_BadTable C_ZeroBottom C_BadLot C_ShelfError C_NotLists : Addr} (F : FunD K "__init__" "Ratio.__init__" (defArgs s_Ratio___init__) (defBody s_Ratio___init__) (defScope s_Ratio___init__) [V.int 1] [] f fd) (T : Txt K mg C_Tabled C_Ratio C_TooMany C_BadTable C_ZeroBottom C_BadLot C_ShelfError C_NotLists) : FnOk P w K mg base (L2.CX P w) 1 f fd ["self", "top", "bottom"] (sp_Ratio___init__ C_Ratio C_ZeroBottom) := by
  refine FunD.ok (CX := (L2.CX P w)) F sc_Ratio___init__ (fun vs H Q E h => ?_) (fun cdv A outer s H vs Q E hr h => ?_)
  · obtain ⟨x, dx, t, b, rfl, _⟩ := h
    rfl
  · obtain ⟨x, dx, t, b, rfl, hx, hsm, kE, kQ⟩ := h
    refine ⟨_, (pss_cons (ps_if (pt_cmpR op_eq (pv 2) pe_int (nomark _)) (pss_one (ps_raise rfl (takes_of rfl rfl rfl rfl) (pmk_own PySem.F.excBase_ValueError T.x_ZeroBottom T.g_ZeroBottom T.kc_ZeroBottom (raises_own T.b_ZeroBottom T.t_ZeroBottom) (by exact rfl)))) pss_nil)
      (pss_cons (ps_set (i := 3) sc_Ratio___init__.nd rfl (Or.inl rfl) (pe_callBfun cr_gcd (by rfl) T.g_gcd (pa_cons (pv 1) (pa_cons (pv 2) pa_nil))))
      (Evl.pss_cut (ps_if (pt_cmpR op_lt (pv 2) pe_int (nomark _)) (pss_one (ps_set (i := 3) sc_Ratio___init__.nd rfl (Or.inl rfl) (pe_un un_neg (pv 3)))) pss_nil)
      (pss_cons (ps_fld (pv 0) (pe_op op_fdivWN (pv 1) (pv 3)) rfl)
      (pss_one (ps_fld (pv 0) (pe_op op_fdivWN (pv 2) (pv 3)) rfl)))))), ?_⟩
    refine ⟨_, rfl, rfl, _, rfl, ite2 (fun e => ?_) (fun e => ?_)⟩
    · have e := V.int.inj (of_decide_eq_true e)
      exact kE e
    · have hb : b ≠ 0 := fun z => e (decide_eq_true (congrArg V.int z))
      refine ⟨_, rfl, _, rfl, t, b, rfl, ?_⟩
      refine ⟨fun σ' H' => H' = H ∧ σ' = [some (.ref x), some (.int t), some (.int b), some (.int (rd t b))], ?_, ?_⟩
      · refine ⟨_, rfl, _, _, rfl, rfl, _, rfl, ite2 (fun e2 => ?_) (fun e2 => ?_)⟩
        · have e2 := of_decide_eq_true e2
          refine ⟨_, rfl, _, rfl, rfl, ?_⟩
          rw [show rd t b = -(rg t b) from if_pos e2]
          rfl
        · have e2 : ¬ b < 0 := fun z => e2 (decide_eq_true z)
          refine ⟨rfl, ?_⟩
          rw [show rd t b = rg t b from if_neg e2]
          rfl
      · rintro σ' H' ⟨rfl, rfl⟩
        refine ⟨_, rfl, _, rfl, t, rd t b, rfl, rfl, rd_div hb (hsm hb) t, _, rfl, x, C_Ratio, dx, [], rfl, hx, T.cl_Ratio, T.n_Ratio_top, (by show 0 < 1000; decide), ?_⟩
        refine ⟨_, rfl, _, rfl, b, rd t b, rfl, rfl, rd_div hb (hsm hb) b, _, rfl, x, C_Ratio, dx, _, rfl, upd_same, T.cl_Ratio, T.n_Ratio_bottom, (by show 1 < 1000; decide), ?_⟩
        refine kQ hb _ ⟨dx, Eq.trans upd_same (congrArg (fun q => some (HO.ins C_Ratio dx q)) (rF_new _ _))⟩ fun c o e hc => ?_
        rw [upd_ne hc, upd_ne hc]
        exact e

/-- how a caller makes a Ratio that there is -/
theorem mk_rat {C CZ : Addr} {t b : Int} {H : Hp} {G : Addr → Hp → Prop} {E : XK} (hb : b ≠ 0) (hs : Sm b) (k : ∀ x H', Same H H' → H x = none → RatAt C H' x (nT t b) (nB t b) → G x H') :
    ∀ x dx, H x = none → H dx = none → dx ≠ x → sp_Ratio___init__ C CZ [.ref x, .int t, .int b] (upd (upd H dx (.own x)) x (.ins C dx [])) (fun v H2 => v = .non ∧ G x H2) E :=
  fun x dx nx nd _ => ⟨x, dx, t, b, rfl, upd_same, fun _ => hs, fun z => absurd z hb, fun _ H' r kp => ⟨rfl, k x H' (Same.made nx nd kp) nx r⟩⟩
def sp__as_ratio (C : Addr) : Sp := fun vs H Q _ => ∃ (y : V) (T B : Int), vs = [y] ∧ NumAt C H y T B ∧ ∀ H' q, Same H H' → RatAt C H' q T B → Q (.ref q) H'
theorem ok__as_ratio {f : Addr} {fd : FuncData} {C_Tabled C_Ratio C_TooMany C_BadTable C_ZeroBottom C_BadLot C_ShelfError C_NotLists : Addr} (F : Fun K "_as_ratio" "_as_ratio" s__as_ratio f fd) (T : Txt K mg C_Tabled C_Ratio C_TooMany C_BadTable C_ZeroBottom C_BadLot C_ShelfError C_NotLists) (m_isinstance : mg "isinstance" = none) (c_Ratio___init__ : CalI P w K mg base (L2.CX P w) 1 C_Ratio ["self", "top", "bottom"] (sp_Ratio___init__ C_Ratio C_ZeroBottom) [V.int 1]) : FnOk P w K mg base CX0 3 f fd ["number"] (sp__as_ratio C_Ratio) := by
  refine F.ok sc__as_ratio (fun vs H Q E h => ?_) (fun cdv A outer s H vs Q E hr h => ?_)
  · obtain ⟨y, T1, B, rfl, _⟩ := h
    rfl
  · obtain ⟨y, T1, B, rfl, hy, q⟩ := h
    obtain ⟨f_Ratio___init__, fd_Ratio___init__, G_Ratio___init__, M_Ratio___init__, b_Ratio___init__, ds_Ratio___init__, vd_Ratio___init__, bd_Ratio___init__⟩ := c_Ratio___init__
    refine ⟨_, (pss_cons (ps_if (pt_val (pe_callB call_isi (by rfl) m_isinstance (by decide +kernel) (pa_cons (pv 0) (pa_cons (pe_glob (v := .ref C_Ratio) (by rfl) T.g_Ratio rfl) pa_nil)))) (pss_one (ps_ret (pv 0))) pss_nil)
      (pss_one (ps_ret (pe_make M_Ratio___init__ G_Ratio___init__ (hr.mono (by decide)) (by rfl) T.g_Ratio bd_Ratio___init__ vd_Ratio___init__ passL (pa_cons (pv 0) pa_nil))))), ?_⟩
    rcases hy with ⟨p, rfl, dx, hp⟩ | ⟨rfl, rfl⟩
    · refine ⟨.ref p, rfl, .ref p, .ref C_Ratio, .ref C_Ratio, .ref C_Ratio, true, rfl, .own C_Ratio, .base (.ins hp T.cl_Ratio T.ha_Ratio T.hnc T.htk T.hm_Ratio), T.kit_Ratio_Ratio, true, rfl, iteT ?_⟩
      exact ⟨_, rfl, q H p (Same.refl H) ⟨dx, hp⟩⟩
    · refine ⟨_, rfl, .int T1, .ref C_Ratio, .type "int", .ref C_Ratio, false, rfl, .own C_Ratio, .base (.int T1), T.kit_int_Ratio, false, rfl, iteF ?_⟩
      refine ⟨_, rfl, mk_rat (t := T1) (b := 1) (by decide) (sm_of (n := 1) (by decide)) fun x H5 e5 nx r => ?_⟩
      obtain ⟨e1, e2⟩ := low_uniq (by decide) (low (t := T1) (b := 1) (by decide)) (low_int T1)
      rw [e1, e2] at r
      exact q H5 x e5 r
def sp_Ratio___neg__ (C : Addr) : Sp := fun vs H Q _ => ∃ (p : Addr) (T1 B1 : Int), vs = [.ref p] ∧ RatAt C H p T1 B1 ∧ 0 < B1 ∧ Sm B1 ∧ ∀ H' r T B, Same H H' → RatAt C H' r T B → LowT (-T1) B1 T B → Q (.ref r) H'
theorem ok_Ratio___neg__ {f : Addr} {fd : FuncData} {C_Tabled C_Ratio C_TooMany C_BadTable C_ZeroBottom C_BadLot C_ShelfError C_NotLists : Addr} (F : Fun K "__neg__" "Ratio.__neg__" s_Ratio___neg__ f fd) (T : Txt K mg C_Tabled C_Ratio C_TooMany C_BadTable C_ZeroBottom C_BadLot C_ShelfError C_NotLists) (c_Ratio___init__ : CalI P w K mg base (L2.CX P w) 1 C_Ratio ["self", "top", "bottom"] (sp_Ratio___init__ C_Ratio C_ZeroBottom) [V.int 1]) : FnOk P w K mg base CX0 3 f fd ["self"] (sp_Ratio___neg__ C_Ratio) := by
  refine F.ok sc_Ratio___neg__ (fun vs H Q E h => ?_) (fun cdv A outer s H vs Q E hr h => ?_)
  · obtain ⟨p, T1, B1, rfl, _⟩ := h
    rfl
  · obtain ⟨p, T1, B1, rfl, ⟨dx, hp⟩, p1, s1, q⟩ := h
    obtain ⟨f_Ratio___init__, fd_Ratio___init__, G_Ratio___init__, M_Ratio___init__, b_Ratio___init__, ds_Ratio___init__, vd_Ratio___init__, bd_Ratio___init__⟩ := c_Ratio___init__
    refine ⟨_, (pss_one (ps_ret (pe_make M_Ratio___init__ G_Ratio___init__ (hr.mono (by decide)) (by rfl) T.g_Ratio b_Ratio___init__ .nil passL (pa_cons (pe_un un_neg (pe_fld (pv 0) rfl)) (pa_cons (pe_fld (pv 0) rfl) pa_nil))))), ?_⟩
    refine ⟨.ref p, rfl, p, C_Ratio, dx, _, _, rfl, hp, T.cl_Ratio, T.n_Ratio_top, rF_top T1 B1, T1, rfl, .ref p, rfl, p, C_Ratio, dx, _, _, rfl, hp, T.cl_Ratio, T.n_Ratio_bottom, rF_bot T1 B1, mk_rat (t := -T1) (b := B1) (by omega) s1 fun x H5 e5 nx r => ?_⟩
    exact q H5 x _ _ e5 r (low (by omega))
def sp_Ratio___add__ (C : Addr) : Sp := fun vs H Q _ => ∃ (p : Addr) (y : V) (T1 B1 T2 B2 : Int), vs = [.ref p, y] ∧ RatAt C H p T1 B1 ∧ NumAt C H y T2 B2 ∧ 0 < B1 ∧ 0 < B2 ∧ Sm T1 ∧ Sm B1 ∧ Sm T2 ∧ Sm B2 ∧ Sm (B1 * B2) ∧
  ∀ H' r T B, Same H H' → RatAt C H' r T B → LowT (T1 * B2 + T2 * B1) (B1 * B2) T B → Q (.ref r) H'
theorem ok_Ratio___add__ {f : Addr} {fd : FuncData} {C_Tabled C_Ratio C_TooMany C_BadTable C_ZeroBottom C_BadLot C_ShelfError C_NotLists : Addr} (F : Fun K "__add__" "Ratio.__add__" s_Ratio___add__ f fd) (T : Txt K mg C_Tabled C_Ratio C_TooMany C_BadTable C_ZeroBottom C_BadLot C_ShelfError C_NotLists) (c__as_ratio : Cal P w K mg base CX0 3 "_as_ratio" ["number"] (sp__as_ratio C_Ratio)) (c_Ratio___init__ : CalI P w K mg base (L2.CX P w) 1 C_Ratio ["self", "top", "bottom"] (sp_Ratio___init__ C_Ratio C_ZeroBottom) [V.int 1]) : FnOk P w K mg base CX0 4 f fd ["self", "other"] (sp_Ratio___add__ C_Ratio) := by
  refine F.ok sc_Ratio___add__ (fun vs H Q E h => ?_) (fun cdv A outer s H vs Q E hr h => ?_)
  · obtain ⟨p, y, T1, B1, T2, B2, rfl, _⟩ := h
    rfl
  · obtain ⟨p, y, T1, B1, T2, B2, rfl, hp, hy, p1, p2, s1, s2, s3, s4, s5, q⟩ := h
    obtain ⟨f__as_ratio, fd__as_ratio, G__as_ratio, m__as_ratio, k__as_ratio, b__as_ratio⟩ := c__as_ratio
    obtain ⟨f_Ratio___init__, fd_Ratio___init__, G_Ratio___init__, M_Ratio___init__, b_Ratio___init__, ds_Ratio___init__, vd_Ratio___init__, bd_Ratio___init__⟩ := c_Ratio___init__
    refine ⟨_, (pss_cons (ps_set (i := 2) sc_Ratio___add__.nd rfl (Or.inl rfl) (pe_call G__as_ratio (hr.mono (by decide)) (by rfl) m__as_ratio k__as_ratio b__as_ratio .nil pass0 (pa_cons (pv 1) pa_nil)))
      (pss_one (ps_ret (pe_make M_Ratio___init__ G_Ratio___init__ (hr.mono (by decide)) (by rfl) T.g_Ratio b_Ratio___init__ .nil passL (pa_cons (pe_op op_add (pe_op op_mulW (pe_fld (pv 0) rfl) (pe_fld (pv 2) rfl)) (pe_op op_mulW (pe_fld (pv 2) rfl) (pe_fld (pv 0) rfl))) (pa_cons (pe_op op_mulW (pe_fld (pv 0) rfl) (pe_fld (pv 2) rfl)) pa_nil)))))), ?_⟩
    refine ⟨y, rfl, y, T2, B2, rfl, hy, fun H1 z e1 rz => ?_⟩
    obtain ⟨dx, hp1⟩ := hp.same e1
    obtain ⟨dz, hz⟩ := rz
    have n0 : B1 * B2 ≠ 0 := Int.ne_of_gt (Int.mul_pos p1 p2)
    refine ⟨.ref p, rfl, p, C_Ratio, dx, _, _, rfl, hp1, T.cl_Ratio, T.n_Ratio_top, rF_top T1 B1, .ref z, rfl, z, C_Ratio, dz, _, _, rfl, hz, T.cl_Ratio, T.n_Ratio_bottom, rF_bot T2 B2, T1, B2, rfl, rfl, s1.mul s4, ?_⟩
    refine ⟨.ref z, rfl, z, C_Ratio, dz, _, _, rfl, hz, T.cl_Ratio, T.n_Ratio_top, rF_top T2 B2, .ref p, rfl, p, C_Ratio, dx, _, _, rfl, hp1, T.cl_Ratio, T.n_Ratio_bottom, rF_bot T1 B1, T2, B1, rfl, rfl, s3.mul s2, _, _, rfl, rfl, ?_⟩
    refine ⟨.ref p, rfl, p, C_Ratio, dx, _, _, rfl, hp1, T.cl_Ratio, T.n_Ratio_bottom, rF_bot T1 B1, .ref z, rfl, z, C_Ratio, dz, _, _, rfl, hz, T.cl_Ratio, T.n_Ratio_bottom, rF_bot T2 B2, B1, B2, rfl, rfl, s2.mul s4, ?_⟩
    exact mk_rat (t := T1 * B2 + T2 * B1) (b := B1 * B2) n0 s5 fun x H5 e5 nx r => q H5 x _ _ (e1.trans e5) r (low n0)

theorem sum_take1 {ns : List Int} {i : Nat} {n : Int} (h : ns[i]? = some n) : (ns.take (i + 1)).sum = (ns.take i).sum + n := by
  rw [List.take_add_one, h, List.sum_append]
  simp
/-- sum(rs, start=Ratio(0)): all items over one bottom d -/
theorem sum_rats {K : PySem.W.Frag} {C l x0 : Addr} {H : Hp} {rs : List Addr} {ns : List Int} {d : Int} {Q : VK} (d0 : 0 < d) (sd : Sm d) (sdd : Sm (d * d)) (sS : ∀ i, Sm ((ns.take i).sum)) (sN : ∀ n ∈ ns, Sm n) (hl : H l = some (.lst (rs.map V.ref))) (lr : rs.length = ns.length)
    (hr : ∀ (i : Nat) (r : Addr) (n : Int), rs[i]? = some r → ns[i]? = some n → ∃ T B, RatAt C H r T B ∧ LowT n d T B) (h0 : ∃ T B, RatAt C H x0 T B ∧ LowT 0 1 T B)
    (q : ∀ H' r T B, Same H H' → RatAt C H' r T B → LowT ns.sum d T B → Q (.ref r) H') : rSumO K C (sp_Ratio___add__ C) [.ref l] [.ref x0] H Q := by
  have dn : d ≠ 0 := by omega
  refine ⟨l, rs.map V.ref, .ref x0, fun i x H' => ∃ r T B, x = .ref r ∧ Same H H' ∧ RatAt C H' r T B ∧ LowT (ns.take i).sum d T B, rfl, rfl, ?_, ?_, ?_, ?_⟩
  · obtain ⟨T, B, r0, lo⟩ := h0
    exact ⟨x0, T, B, rfl, Same.refl H, r0, lo.to (by decide) dn (by rw [List.take_zero]; show 0 * d = 0 * 1; omega)⟩
  · rintro i x H' ⟨r, T, B, rfl, s, ra, lo⟩
    obtain ⟨dx, e⟩ := ra
    exact ⟨lst_l (s _ _ hl), r, dx, _, rfl, e⟩
  · rintro i x y H' ⟨r, T1, B1, rfl, s, ra, lo⟩ hy
    rw [List.getElem?_map] at hy
    obtain ⟨r2, e2, rfl⟩ : ∃ r2, rs[i]? = some r2 ∧ V.ref r2 = y := by
      cases e : rs[i]? with
      | none =>
        rw [e] at hy
        cases hy
      | some z =>
        rw [e] at hy
        exact ⟨z, rfl, Option.some.inj hy⟩
    have lt : i < ns.length := lr ▸ (List.getElem?_eq_some_iff.mp e2).1
    have en : ns[i]? = some ns[i] := List.getElem?_eq_getElem lt
    obtain ⟨T2, B2, rb, lo2⟩ := hr i r2 _ e2 en
    have rb2 := rb.same s
    obtain ⟨dy, ey⟩ := id rb2
    refine ⟨⟨r2, dy, _, rfl, ey⟩, ?_⟩
    have p1 := lo.pos
    have p2 := lo2.pos
    have n12 : B1 * B2 ≠ 0 := Int.ne_of_gt (Int.mul_pos p1 p2)
    refine ⟨r, .ref r2, T1, B1, T2, B2, rfl, ra, rb2.num, p1, p2, (sS i).le lo.leT, sd.le lo.leB, (sN _ (List.getElem_mem lt)).le lo2.leT, sd.le lo2.leB, sdd.le ?_, fun H2 r3 T B s2 r3a lo3 => ?_⟩
    · rw [Int.natAbs_mul, Int.natAbs_mul]
      exact Nat.mul_le_mul lo.leB lo2.leB
    · refine ⟨r3, T, B, rfl, s.trans s2, r3a, lo3.to n12 dn ?_⟩
      rw [sum_take1 en]
      have e1 := lo.eq
      have e2 := lo2.eq
      generalize (ns.take i).sum = S at e1 ⊢
      generalize ns[i] = n at e2 ⊢
      grind
  · rintro x H' ⟨r, T, B, rfl, s, ra, lo⟩
    rw [List.length_map, lr, List.take_length] at lo
    exact q H' r T B s ra lo
def sp_Ratio___sub__ (C : Addr) : Sp := fun vs H Q _ => ∃ (p : Addr) (y : V) (T1 B1 T2 B2 : Int), vs = [.ref p, y] ∧ RatAt C H p T1 B1 ∧ NumAt C H y T2 B2 ∧ 0 < B1 ∧ 0 < B2 ∧ Sm T1 ∧ Sm B1 ∧ Sm T2 ∧ Sm B2 ∧ Sm (B1 * B2) ∧
  ∀ H' r T B, Same H H' → RatAt C H' r T B → LowT (T1 * B2 - T2 * B1) (B1 * B2) T B → Q (.ref r) H'
theorem ok_Ratio___sub__ {f : Addr} {fd : FuncData} {C_Tabled C_Ratio C_TooMany C_BadTable C_ZeroBottom C_BadLot C_ShelfError C_NotLists : Addr} (F : Fun K "__sub__" "Ratio.__sub__" s_Ratio___sub__ f fd) (T : Txt K mg C_Tabled C_Ratio C_TooMany C_BadTable C_ZeroBottom C_BadLot C_ShelfError C_NotLists) (c__as_ratio : Cal P w K mg base CX0 3 "_as_ratio" ["number"] (sp__as_ratio C_Ratio)) (c_Ratio___neg__ : CalM P w K mg base CX0 3 C_Ratio "__neg__" ["self"] (sp_Ratio___neg__ C_Ratio)) (c_Ratio___add__ : CalM P w K mg base CX0 4 C_Ratio "__add__" ["self", "other"] (sp_Ratio___add__ C_Ratio)) : FnOk P w K mg base CX0 5 f fd ["self", "other"] (sp_Ratio___sub__ C_Ratio) := by
  refine F.ok sc_Ratio___sub__ (fun vs H Q E h => ?_) (fun cdv A outer s H vs Q E hr h => ?_)
  · obtain ⟨p, y, T1, B1, T2, B2, rfl, _⟩ := h
    rfl
  · obtain ⟨p, y, T1, B1, T2, B2, rfl, hp, hy, p1, p2, s1, s2, s3, s4, s5, q⟩ := h
    obtain ⟨f__as_ratio, fd__as_ratio, G__as_ratio, m__as_ratio, k__as_ratio, b__as_ratio⟩ := c__as_ratio
    obtain ⟨f_Ratio___neg__, fd_Ratio___neg__, G_Ratio___neg__, M_Ratio___neg__, b_Ratio___neg__⟩ := c_Ratio___neg__
    obtain ⟨f_Ratio___add__, fd_Ratio___add__, G_Ratio___add__, M_Ratio___add__, b_Ratio___add__⟩ := c_Ratio___add__
    refine ⟨_, (pss_one (ps_ret (pe_op (op_own_Add M_Ratio___add__ T.sf_Ratio T.rf_Ratio_add T.int_add T.si_Ratio G_Ratio___add__ (hr.mono (by decide)) b_Ratio___add__ pass0) (pv 0) (pe_un (un_own M_Ratio___neg__ G_Ratio___neg__ (hr.mono (by decide)) b_Ratio___neg__ pass0) (pe_call G__as_ratio (hr.mono (by decide)) (by rfl) m__as_ratio k__as_ratio b__as_ratio .nil pass0 (pa_cons (pv 1) pa_nil)))))), ?_⟩
    refine ⟨.ref p, rfl, y, rfl, y, T2, B2, rfl, hy, fun H1 z e1 rz => ?_⟩
    refine ⟨rz.self, z, T2, B2, rfl, rz, p2, s4, fun H2 m T3 B3 e2 rm lo => ?_⟩
    have h1 := (hp.same e1).same e2
    have e3 := lo.eq
    have p3 := lo.pos
    have n3 : B1 * B3 ≠ 0 := Int.ne_of_gt (Int.mul_pos p1 p3)
    have n0 : B1 * B2 ≠ 0 := Int.ne_of_gt (Int.mul_pos p1 p2)
    have sT : Sm T3 := s3.le (by have := lo.leT; omega)
    have sB : Sm B3 := s4.le lo.leB
    have s53 : Sm (B1 * B3) := s5.le (by
      rw [Int.natAbs_mul, Int.natAbs_mul]
      exact Nat.mul_le_mul_left _ lo.leB)
    refine ⟨h1.self, rm.num.arg, p, .ref m, T1, B1, T3, B3, rfl, h1, rm.num, p1, p3, s1, s2, sT, sB, s53, fun H3 r T4 B4 e4 rr lo2 => ?_⟩
    exact q H3 r T4 B4 ((e1.trans e2).trans e4) rr (lo2.to n3 n0 (by grind))
def sp_Ratio___rsub__ (C : Addr) : Sp := fun vs H Q _ => ∃ (p : Addr) (y : V) (T1 B1 T2 B2 : Int), vs = [.ref p, y] ∧ RatAt C H p T1 B1 ∧ NumAt C H y T2 B2 ∧ 0 < B1 ∧ 0 < B2 ∧ Sm T1 ∧ Sm B1 ∧ Sm T2 ∧ Sm B2 ∧ Sm (B1 * B2) ∧
  ∀ H' r T B, Same H H' → RatAt C H' r T B → LowT (T2 * B1 - T1 * B2) (B1 * B2) T B → Q (.ref r) H'
theorem ok_Ratio___rsub__ {f : Addr} {fd : FuncData} {C_Tabled C_Ratio C_TooMany C_BadTable C_ZeroBottom C_BadLot C_ShelfError C_NotLists : Addr} (F : Fun K "__rsub__" "Ratio.__rsub__" s_Ratio___rsub__ f fd) (T : Txt K mg C_Tabled C_Ratio C_TooMany C_BadTable C_ZeroBottom C_BadLot C_ShelfError C_NotLists) (c_Ratio___neg__ : CalM P w K mg base CX0 3 C_Ratio "__neg__" ["self"] (sp_Ratio___neg__ C_Ratio)) (c_Ratio___add__ : CalM P w K mg base CX0 4 C_Ratio "__add__" ["self", "other"] (sp_Ratio___add__ C_Ratio)) : FnOk P w K mg base CX0 5 f fd ["self", "other"] (sp_Ratio___rsub__ C_Ratio) := by
  refine F.ok sc_Ratio___rsub__ (fun vs H Q E h => ?_) (fun cdv A outer s H vs Q E hr h => ?_)
  · obtain ⟨p, y, T1, B1, T2, B2, rfl, _⟩ := h
    rfl
  · obtain ⟨p, y, T1, B1, T2, B2, rfl, hp, hy, p1, p2, s1, s2, s3, s4, s5, q⟩ := h
    obtain ⟨f_Ratio___neg__, fd_Ratio___neg__, G_Ratio___neg__, M_Ratio___neg__, b_Ratio___neg__⟩ := c_Ratio___neg__
    obtain ⟨f_Ratio___add__, fd_Ratio___add__, G_Ratio___add__, M_Ratio___add__, b_Ratio___add__⟩ := c_Ratio___add__
    refine ⟨_, (pss_one (ps_ret (pe_op (op_own_Add M_Ratio___add__ T.sf_Ratio T.rf_Ratio_add T.int_add T.si_Ratio G_Ratio___add__ (hr.mono (by decide)) b_Ratio___add__ pass0) (pe_un (un_own M_Ratio___neg__ G_Ratio___neg__ (hr.mono (by decide)) b_Ratio___neg__ pass0) (pv 0)) (pv 1)))), ?_⟩
    refine ⟨.ref p, rfl, hp.self, p, T1, B1, rfl, hp, p1, s2, fun H2 m T3 B3 e2 rm lo => ?_⟩
    have e3 := lo.eq
    have p3 := lo.pos
    have n3 : B3 * B2 ≠ 0 := Int.ne_of_gt (Int.mul_pos p3 p2)
    have n0 : B1 * B2 ≠ 0 := Int.ne_of_gt (Int.mul_pos p1 p2)
    have sT : Sm T3 := s1.le (by have := lo.leT; omega)
    have sB : Sm B3 := s2.le lo.leB
    have s53 : Sm (B3 * B2) := s5.le (by
      rw [Int.natAbs_mul, Int.natAbs_mul]
      exact Nat.mul_le_mul_right _ lo.leB)
    have hy2 := hy.same e2
    refine ⟨y, rfl, rm.self, hy2.arg, m, y, T3, B3, T2, B2, rfl, rm, hy2, p3, p2, sT, sB, s3, s4, s53, fun H3 r T4 B4 e4 rr lo2 => ?_⟩
    exact q H3 r T4 B4 (e2.trans e4) rr (lo2.to n3 n0 (by grind))
def sp_Tabled_shares (K : PySem.W.Frag) (C CR CL : Addr) : Sp := fun vs H Q E => ∃ (p l : Addr) (rows : List (List Int)) (ns : List Int) (m : Nat), vs = [.ref p, .ref l] ∧ TAt C H p m rows ∧ H l = some (.tup (ns.map V.int)) ∧ m ≤ 24 ∧ ns.length ≤ 1000 ∧
  (lotB ns (-1) m = false → E (.ref CL) none H) ∧ (lotB ns (-1) m = true → ∃ (k : Nat) (t : Int) (cs : List Int), powSum ns = (k : Int) ∧ rows[k]? = some (t :: cs) ∧ t ≠ 0 ∧ Sm t ∧ cs.length ≤ 900 ∧ ∀ H' L (rs : List Addr), Same H H' → H L = none → H' L = some (.lst (rs.map V.ref)) → rs.length = cs.length →
    (∀ (i : Nat) (r : Addr) (c : Int), rs[i]? = some r → cs[i]? = some c → RatAt CR H' r (nT c t) (nB c t)) → Q (.ref L) H')
theorem ok_Tabled_shares {f : Addr} {fd : FuncData} {C_Tabled C_Ratio C_TooMany C_BadTable C_ZeroBottom C_BadLot C_ShelfError C_NotLists : Addr} (F : Fun K "shares" "Tabled.shares" s_Tabled_shares f fd) (T : Txt K mg C_Tabled C_Ratio C_TooMany C_BadTable C_ZeroBottom C_BadLot C_ShelfError C_NotLists) (c_check_lot : Cal P w K mg base (L2.CX P w) 1 "check_lot" ["lot", "many"] (sp_check_lot K C_BadLot)) (c_lot_number : Cal P w K mg base CX0 1 "lot_number" ["lot"] (sp_lot_number K)) (c_Ratio___init__ : CalI P w K mg base (L2.CX P w) 1 C_Ratio ["self", "top", "bottom"] (sp_Ratio___init__ C_Ratio C_ZeroBottom) [V.int 1]) : FnOk P w K mg base (L2.CX P w) 3 f fd ["self", "lot"] (sp_Tabled_shares K C_Tabled C_Ratio C_BadLot) := by
  refine F.okX sc_Tabled_shares (fun vs H Q E h => ?_) (fun cdv A outer s H vs Q E hr h => ?_)
  · obtain ⟨p, l, rows, ns, m, rfl, _⟩ := h
    rfl
  · obtain ⟨p, l, rows, ns, m, rfl, ⟨dx, tw, us, hp, htw, row⟩, hl, hm, nl, kE, q⟩ := h
    obtain ⟨f_check_lot, fd_check_lot, G_check_lot, m_check_lot, k_check_lot, b_check_lot⟩ := c_check_lot
    obtain ⟨f_lot_number, fd_lot_number, G_lot_number, m_lot_number, k_lot_number, b_lot_number⟩ := c_lot_number
    obtain ⟨f_Ratio___init__, fd_Ratio___init__, G_Ratio___init__, M_Ratio___init__, b_Ratio___init__, ds_Ratio___init__, vd_Ratio___init__, bd_Ratio___init__⟩ := c_Ratio___init__
    refine ⟨_, (pss_cons (ps_expr (pe_call G_check_lot (hr.mono (by decide)) (by rfl) m_check_lot k_check_lot b_check_lot .nil (passes_call (takes_of rfl rfl rfl rfl) (fun _ _ _ _ h => h)) (pa_cons (pv 1) (pa_cons (pe_fld (pv 0) rfl) pa_nil))))
      (pss_cons (ps_asg (pe_ix ix_tup (pe_fld (pv 0) rfl) (pe_call G_lot_number (hr.mono (by decide)) (by rfl) m_lot_number k_lot_number b_lot_number .nil pass0 (pa_cons (pv 1) pa_nil)) (fun _ _ => rfl)) (pg_st1T rfl (pg_name (i := 2) sc_Tabled_shares.nd rfl (Or.inr rfl)) (pg_name (i := 3) sc_Tabled_shares.nd rfl (Or.inl rfl))))
      (pss_one (ps_ret (pe_lc (own := [("count", 4)]) (g := (gName 4)) (tt := tYes) rfl sc_Tabled_shares.nd (pi_list (pv 3)) (blkOk_by (own := [("count", 4)]) (N := ["self", "lot", "total", "counts", "count"]) (sc := defScope s_Tabled_shares) (by decide +kernel)) (fun _ _ _ _ _ => (pg_name (i := 4) sc_Tabled_shares.nd rfl (Or.inl rfl))) (fun _ _ _ _ _ => pts_nil) (fun _ _ _ _ _ => (pe_make M_Ratio___init__ G_Ratio___init__ (hr.mono (by decide)) (by rfl) T.g_Ratio b_Ratio___init__ .nil passL (pa_cons (pv 4) (pa_cons (pv 2) pa_nil))))))))), ?_⟩
    refine ⟨_, rfl, _, rfl, p, C_Tabled, dx, _, _, rfl, hp, T.cl_Tabled, T.n_Tabled_many, fT_many _ _, l, ns, _, rfl, tup_t hl, kE, fun ok => ?_⟩
    obtain ⟨k, t, cs, ek, gk, t0, sm, cl, q⟩ := q ok
    have inl := lotB_in ok
    have lk := (List.getElem?_eq_some_iff.mp gk).1
    obtain ⟨u, gu⟩ : ∃ u, us[k]? = some u := ⟨_, List.getElem?_eq_getElem (by have := row.1; omega)⟩
    have hu := row.2 k _ _ gu gk
    refine ⟨_, rfl, p, C_Tabled, dx, _, _, rfl, hp, T.cl_Tabled, T.n_Tabled_rows, fT_rows _ _, _, rfl, l, ns, rfl, tup_t hl, nl, fun x hx => by have := inl x hx; omega, fun H1 s1 => ?_⟩
    refine ⟨tw, _, _, .ref u, rfl, rfl, tup_t (s1 _ _ htw), at_of ek (by rw [List.getElem?_map, gu]; rfl), ?_⟩
    refine ⟨u, .int t, cs.map V.int, rfl, tup_t (s1 _ _ hu), by rw [List.length_map]; omega, fun D nD => ?_⟩
    have s2 := s1.trans (same_upd (o := .lst (cs.map V.int)) nD)
    have hD : upd H1 D (.lst (cs.map V.int)) D = some (.lst (cs.map V.int)) := upd_same
    generalize upd H1 D (.lst (cs.map V.int)) = H2 at s2 hD ⊢
    refine ⟨_, rfl, D, rfl, ⟨_, lst_l hD⟩, fun L nL => lc_list (K := K) (a := D) (xs := cs.map V.int) (fun i H4 => ∃ rs : List Addr, Same H2 H4 ∧ H4 L = some (.lst (rs.map V.ref)) ∧ rs.length = i ∧ ∀ (j : Nat) (r : Addr) (c : Int), rs[j]? = some r → cs[j]? = some c → RatAt C_Ratio H4 r (nT c t) (nB c t)) ⟨[], same_upd nL, upd_same, rfl, fun j r c h => by cases h⟩ (fun i H4 _ ⟨_, s, _⟩ => lst_l (s _ _ hD)) ?_ ?_⟩
    · rintro i x H4 hi ⟨rs, s4, hL, lr, hr⟩
      obtain ⟨c, rfl, hic⟩ := int_of hi
      have il := (List.getElem?_eq_some_iff.mp hic).1
      refine ⟨rfl, ?_⟩
      refine lc_yes ?_
      refine iteT ?_
      refine ⟨_, rfl, _, rfl, mk_rat t0 sm fun x H5 e5 nx rx => ?_⟩
      have hL5 := e5 _ _ hL
      have stay : ∀ {r : Addr} {T' B' : Int}, RatAt C_Ratio H5 r T' B' → RatAt C_Ratio (upd H5 L (.lst (rs.map V.ref ++ [V.ref x]))) r T' B' := fun {r T' B'} ⟨dx', e⟩ => ⟨dx', (upd_ne fun z => by
        rw [z, hL5] at e
        cases e).trans e⟩
      refine ⟨_, hL5, ?_, rs ++ [x], same_mut (s4.trans e5) nL, ?_, ?_, fun j r c2 h hc2 => ?_⟩
      · rw [List.length_map]
        exact small1000 (by omega)
      · rw [upd_same, List.map_append]
        rfl
      · rw [List.length_append, lr]
        rfl
      · by_cases hj : j < rs.length
        · rw [List.getElem?_append_left hj] at h
          exact stay ((hr j r c2 h hc2).same e5)
        · rw [List.getElem?_append_right (by omega)] at h
          obtain ⟨n, hn⟩ : ∃ n, j - rs.length = n := ⟨_, rfl⟩
          rw [hn] at h
          cases n with
          | zero =>
            have : j = i := by omega
            subst this
            cases h
            rw [hic] at hc2
            cases hc2
            exact stay rx
          | succ n => cases h
    · rintro H4 ⟨rs, s4, hL, lr, hr⟩
      rw [List.length_map] at lr
      exact q H4 L rs (s2.trans s4) (s2.free nL) hL lr hr
def sp_Rule_away (K : PySem.W.Frag) (C CR CL : Addr) : Sp := fun vs H Q E => ∃ (p l : Addr) (rows : List (List Int)) (ns : List Int) (m : Nat), vs = [.ref p, .ref l] ∧ TAt C H p m rows ∧ H l = some (.tup (ns.map V.int)) ∧ m ≤ 24 ∧ ns.length ≤ 1000 ∧
  (lotB ns (-1) m = false → E (.ref CL) none H) ∧ (lotB ns (-1) m = true → ∃ (k : Nat) (t : Int) (cs : List Int), powSum ns = (k : Int) ∧ rows[k]? = some (t :: cs) ∧ 0 < t ∧ Sm (t * t) ∧ (∀ c ∈ cs, 0 ≤ c) ∧ cs.sum ≤ t ∧ cs.length ≤ 900 ∧ ∀ H' r T B, Same H H' → RatAt CR H' r T B → LowT (t - cs.sum) t T B → Q (.ref r) H')
theorem ok_Rule_away {f : Addr} {fd : FuncData} {C_Tabled C_Ratio C_TooMany C_BadTable C_ZeroBottom C_BadLot C_ShelfError C_NotLists : Addr} (F : Fun K "away" "Rule.away" s_Rule_away f fd) (T : Txt K mg C_Tabled C_Ratio C_TooMany C_BadTable C_ZeroBottom C_BadLot C_ShelfError C_NotLists) (m_sum : mg "sum" = none) (c_Tabled_shares : CalM P w K mg base (L2.CX P w) 3 C_Tabled "shares" ["self", "lot"] (sp_Tabled_shares K C_Tabled C_Ratio C_BadLot)) (c_Ratio___init__ : CalI P w K mg base (L2.CX P w) 1 C_Ratio ["self", "top", "bottom"] (sp_Ratio___init__ C_Ratio C_ZeroBottom) [V.int 1]) (c_Ratio___add__ : CalM P w K mg base CX0 4 C_Ratio "__add__" ["self", "other"] (sp_Ratio___add__ C_Ratio)) (c_Ratio___rsub__ : CalM P w K mg base CX0 5 C_Ratio "__rsub__" ["self", "other"] (sp_Ratio___rsub__ C_Ratio)) : FnOk P w K mg base (L2.CX P w) 6 f fd ["self", "lot"] (sp_Rule_away K C_Tabled C_Ratio C_BadLot) := by
  refine F.okX sc_Rule_away (fun vs H Q E h => ?_) (fun cdv A outer s H vs Q E hr h => ?_)
  · obtain ⟨p, l, rows, ns, m, rfl, _⟩ := h
    rfl
  · obtain ⟨p, l, rows, ns, m, rfl, la, hl, hm, nl, kE, q⟩ := h
    obtain ⟨f_Tabled_shares, fd_Tabled_shares, G_Tabled_shares, M_Tabled_shares, b_Tabled_shares⟩ := c_Tabled_shares
    obtain ⟨f_Ratio___init__, fd_Ratio___init__, G_Ratio___init__, M_Ratio___init__, b_Ratio___init__, ds_Ratio___init__, vd_Ratio___init__, bd_Ratio___init__⟩ := c_Ratio___init__
    obtain ⟨f_Ratio___add__, fd_Ratio___add__, G_Ratio___add__, M_Ratio___add__, b_Ratio___add__⟩ := c_Ratio___add__
    obtain ⟨f_Ratio___rsub__, fd_Ratio___rsub__, G_Ratio___rsub__, M_Ratio___rsub__, b_Ratio___rsub__⟩ := c_Ratio___rsub__
    refine ⟨_, (pss_one (ps_ret (pe_op (op_ref_Sub M_Ratio___rsub__ T.sf_Ratio T.of_Ratio_sub T.sr_Ratio G_Ratio___rsub__ (hr.mono (by decide)) b_Ratio___rsub__ pass0) pe_int (pe_callBK (cr_sumO T.sum_Ratio M_Ratio___add__ rfl (fun _ => pass0) G_Ratio___add__ (hr.mono (by decide)) b_Ratio___add__) (by rfl) m_sum (by decide +kernel) (pa_cons (pe_meth (pv 0) T.cl_Tabled M_Tabled_shares G_Tabled_shares (hr.mono (by decide)) b_Tabled_shares .nil (passes_call (takes_of rfl rfl rfl rfl) (fun _ _ _ _ h => h)) (pa_cons (pv 1) pa_nil)) pa_nil) (pk_cons (pe_make M_Ratio___init__ G_Ratio___init__ (hr.mono (by decide)) (by rfl) T.g_Ratio bd_Ratio___init__ vd_Ratio___init__ (passes_call (takes_of rfl rfl rfl rfl) (fun _ _ _ _ h => h)) (pa_cons pe_int pa_nil)) pk_nil))))), ?_⟩
    obtain ⟨dx, tw, us, hp, htw, row⟩ := id la
    refine ⟨_, rfl, p, dx, _, rfl, hp, fT_shares _ _, .ref l, rfl, p, l, rows, ns, m, rfl, la, hl, hm, nl, kE, fun ok => ?_⟩
    obtain ⟨k, d, cs, ek, gk, d0, smm, nn, sle, cl, q⟩ := q ok
    have s0 : 0 ≤ cs.sum := sum_nn nn
    have sd : Sm d := smm.le (by
      rw [Int.natAbs_mul]
      exact Nat.le_mul_of_pos_right _ (by omega))
    refine ⟨k, d, cs, ek, gk, by omega, sd, cl, fun H1 L rs s1 nL hL lr hr => ?_⟩
    refine mk_rat (t := 0) (b := 1) (by decide) (sm_of (n := 1) (by decide)) fun x0 H2 s2 nx r0 => ?_
    have hL2 := s2 _ _ hL
    refine sum_rats (ns := cs) (d := d) d0 sd smm (fun i => sd.le ?_) (fun n hn => sd.le ?_) hL2 (by rw [lr]) (fun i r n hi hn => ?_) ⟨_, _, r0, low (by decide)⟩ fun H3 r T1 B1 s3 rr lo => ?_
    · have := take_le nn i
      omega
    · have h1 := nn n hn
      have h2 := mem_le nn n hn
      omega
    · exact ⟨_, _, (hr i r n hi hn).same s2, low (by omega)⟩
    have n0 : d ≠ 0 := by omega
    refine ⟨⟨1, rfl⟩, rr.self, r, .int 1, T1, B1, 1, 1, rfl, rr, .inr ⟨rfl, rfl⟩, lo.pos, by decide, sd.le (Nat.le_trans lo.leT (by omega)), sd.le lo.leB, sm_of (n := 1) (by decide), sm_of (n := 1) (by decide), by rw [Int.mul_one]; exact sd.le lo.leB, fun H4 z T2 B2 s4 rz lo2 => ?_⟩
    refine q H4 z T2 B2 (((s1.trans s2).trans s3).trans s4) rz (lo2.to (by have := lo.pos; omega) n0 ?_)
    have e1 := lo.eq
    generalize cs.sum = S at e1 ⊢
    grind
def sp_alternating (K : PySem.W.Frag) (C CR CL : Addr) : Sp := fun vs H Q E => ∃ (p l : Addr) (rows : List (List Int)) (ns : List Int) (m : Nat) (th : Option Nat), vs = [.ref p, .ref l, thV th] ∧ TAt C H p m (rows.map divI) ∧ H l = some (.tup (ns.map V.int)) ∧ m ≤ 6 ∧ ns.length ≤ 1000 ∧
  rows.length = 2 ^ m ∧ (∀ (i : Nat) (r : List Int), rows[i]? = some r → rowOk m i r = true) ∧ (∀ r ∈ rows, ∀ x ∈ r, x ≤ 10 ^ 18) ∧ (∀ t, th = some t → t < m) ∧
  (lotB ns (-1) m = false → E (.ref CL) none H) ∧ (lotB ns (-1) m = true → ∀ H' r T B, Same H H' → RatAt CR H' r T B → LowT (altF m rows ns th (2 ^ m)).1 (altF m rows ns th (2 ^ m)).2 T B → Q (.ref r) H')
theorem ok_alternating {f : Addr} {fd : FuncData} {C_Tabled C_Ratio C_TooMany C_BadTable C_ZeroBottom C_BadLot C_ShelfError C_NotLists : Addr} (F : Fun K "alternating" "alternating" s_alternating f fd) (T : Txt K mg C_Tabled C_Ratio C_TooMany C_BadTable C_ZeroBottom C_BadLot C_ShelfError C_NotLists) (m_all : mg "all" = none) (m_len : mg "len" = none) (c_check_lot : Cal P w K mg base (L2.CX P w) 1 "check_lot" ["lot", "many"] (sp_check_lot K C_BadLot)) (c_lots : CalG P w K mg base 2 "lots" pre_lots) (c_Tabled_shares : CalM P w K mg base (L2.CX P w) 3 C_Tabled "shares" ["self", "lot"] (sp_Tabled_shares K C_Tabled C_Ratio C_BadLot)) (c_Rule_away : CalM P w K mg base (L2.CX P w) 6 C_Tabled "away" ["self", "lot"] (sp_Rule_away K C_Tabled C_Ratio C_BadLot)) (c_Ratio___init__ : CalI P w K mg base (L2.CX P w) 1 C_Ratio ["self", "top", "bottom"] (sp_Ratio___init__ C_Ratio C_ZeroBottom) [V.int 1]) (c_Ratio___add__ : CalM P w K mg base CX0 4 C_Ratio "__add__" ["self", "other"] (sp_Ratio___add__ C_Ratio)) (c_Ratio___sub__ : CalM P w K mg base CX0 5 C_Ratio "__sub__" ["self", "other"] (sp_Ratio___sub__ C_Ratio)) : FnOk P w K mg base (L2.CX P w) 7 f fd ["table", "lot", "thing"] (sp_alternating K C_Tabled C_Ratio C_BadLot) := by
  refine F.okX sc_alternating (fun vs H Q E h => ?_) (fun cdv A outer s H vs Q E hr h => ?_)
  · obtain ⟨p, l, rows, ns, m, th, rfl, _⟩ := h
    rfl
  · obtain ⟨p, l, rows, ns, m, th, rfl, la, hl, hm, nl, lrw, okr, bd, tm, kE, q⟩ := h
    obtain ⟨f_check_lot, fd_check_lot, G_check_lot, m_check_lot, k_check_lot, b_check_lot⟩ := c_check_lot
    obtain ⟨f_Tabled_shares, fd_Tabled_shares, G_Tabled_shares, M_Tabled_shares, b_Tabled_shares⟩ := c_Tabled_shares
    obtain ⟨f_Rule_away, fd_Rule_away, G_Rule_away, M_Rule_away, b_Rule_away⟩ := c_Rule_away
    obtain ⟨f_Ratio___init__, fd_Ratio___init__, G_Ratio___init__, M_Ratio___init__, b_Ratio___init__, ds_Ratio___init__, vd_Ratio___init__, bd_Ratio___init__⟩ := c_Ratio___init__
    obtain ⟨f_Ratio___add__, fd_Ratio___add__, G_Ratio___add__, M_Ratio___add__, b_Ratio___add__⟩ := c_Ratio___add__
    obtain ⟨f_Ratio___sub__, fd_Ratio___sub__, G_Ratio___sub__, M_Ratio___sub__, b_Ratio___sub__⟩ := c_Ratio___sub__
    refine ⟨_, (pss_cons (ps_expr (pe_call G_check_lot (hr.mono (by decide)) (by rfl) m_check_lot k_check_lot b_check_lot .nil (passes_call (takes_of rfl rfl rfl rfl) (fun _ _ _ _ h => h)) (pa_cons (pv 1) (pa_cons (pe_fld (pv 0) rfl) pa_nil))))
      (pss_cons (ps_set (i := 3) sc_alternating.nd rfl (Or.inl rfl) (pe_make M_Ratio___init__ G_Ratio___init__ (hr.mono (by decide)) (by rfl) T.g_Ratio bd_Ratio___init__ vd_Ratio___init__ (passes_call (takes_of rfl rfl rfl rfl) (fun _ _ _ _ h => h)) (pa_cons pe_int pa_nil)))
      (pss_cons (ps_forG (passes_of rfl) blindX (c_lots _ _ _ _ _ _ _ rfl rfl rfl rfl rfl rfl (hr.mono (by decide)) (by rfl) (pa_cons (pe_fld (pv 0) rfl) pa_nil) (by rfl) (by rfl)) (pg_name (i := 4) sc_alternating.nd rfl (Or.inr rfl))
      (pss_one (ps_if (pt_val (pe_callB (cr_all rfl) (by rfl) m_all (by decide +kernel) (pa_cons (pe_lc (own := [("other", 7)]) (g := (gName 7)) (tt := tYes) rfl sc_alternating.nd (pi_tup (pv 1)) (blkOk_by (own := [("other", 7)]) (N := ["table", "lot", "thing", "total", "larger", "share", "more", "other"]) (sc := defScope s_alternating) (by decide +kernel)) (fun _ _ _ _ _ => (pg_name (i := 7) sc_alternating.nd rfl (Or.inl rfl))) (fun _ _ _ _ _ => pts_nil) (fun _ _ _ _ _ => (pe_cmpR (r := rIn K false) op_in_seq (pv 7) (pv 4) (by rfl)))) pa_nil))) (Evl.pss_cut (ps_set (i := 5) sc_alternating.nd rfl (Or.inl rfl) (pe_ifExp (pt_cmpR op_isN (pv 2) pe_non (nomark _)) (pe_meth (pv 0) T.cl_Tabled M_Rule_away G_Rule_away (hr.mono (by decide)) b_Rule_away .nil (passes_call (takes_of rfl rfl rfl rfl) (fun _ _ _ _ h => h)) (pa_cons (pv 4) pa_nil)) (pe_ix ix_list (pe_meth (pv 0) T.cl_Tabled M_Tabled_shares G_Tabled_shares (hr.mono (by decide)) b_Tabled_shares .nil (passes_call (takes_of rfl rfl rfl rfl) (fun _ _ _ _ h => h)) (pa_cons (pv 4) pa_nil)) (pv 2) (fun _ _ => rfl))))
      (pss_cons (ps_set (i := 6) sc_alternating.nd rfl (Or.inl rfl) (pe_op op_sub (pe_callB call_len_seq (by rfl) m_len (by decide +kernel) (pa_cons (pv 4) pa_nil)) (pe_callB call_len_seq (by rfl) m_len (by decide +kernel) (pa_cons (pv 1) pa_nil))))
      (pss_one (ps_set (i := 3) sc_alternating.nd rfl (Or.inl rfl) (pe_ifExp (pt_cmpR op_eq (pe_op op_and (pv 6) pe_int) pe_int (nomark _)) (pe_op (op_own_Add M_Ratio___add__ T.sf_Ratio T.rf_Ratio_add T.int_add T.si_Ratio G_Ratio___add__ (hr.mono (by decide)) b_Ratio___add__ pass0) (pv 3) (pv 5)) (pe_op (op_own_Sub M_Ratio___sub__ T.sf_Ratio T.rf_Ratio_sub T.int_sub T.si_Ratio G_Ratio___sub__ (hr.mono (by decide)) b_Ratio___sub__ pass0) (pv 3) (pv 5))))))) pss_nil)))
      (pss_one (ps_ret (pv 3)))))), ?_⟩
    obtain ⟨dx, tw, us0, hp, htw, row⟩ := id la
    have p64 : 2 ^ m ≤ 64 := Nat.pow_le_pow_right (by decide) hm
    have n2 : ((2 : Int) ^ m).toNat = 2 ^ m := by
      have e : ((2 ^ m : Nat) : Int) = (2 : Int) ^ m := by
        rw [Int.natCast_pow]
        rfl
      rw [← e, Int.toNat_natCast]
    have facts : ∀ j, j < 2 ^ m → ∃ b ws d us g, RowF m (rows.getD j []) b ws d us g ∧ b ≤ 10 ^ 18 ∧ (rows.map divI)[j]? = some (d :: us) := fun j hj => by
      have h2 : rows[j]? = some rows[j] := List.getElem?_eq_getElem (by omega)
      have eg : rows.getD j [] = rows[j] := by rw [List.getD_eq_getElem?_getD, h2]; rfl
      obtain ⟨b, ws, d, us, g, F⟩ := row_f (okr j _ h2)
      rw [eg]
      refine ⟨b, ws, d, us, g, F, bd _ (List.mem_of_getElem? h2) b (by rw [F.er]; exact List.mem_cons_self), ?_⟩
      rw [List.getElem?_map, h2]
      exact congrArg some F.ed
    have rb : ∀ j, j < 2 ^ m → RowB th (rows.getD j []) := fun j hj => by
      obtain ⟨b, ws, d, us, g, F, hb, _⟩ := facts j hj
      exact F.rb hb th
    refine ⟨_, rfl, _, rfl, p, C_Tabled, dx, _, _, rfl, hp, T.cl_Tabled, T.n_Tabled_many, fT_many _ _, l, ns, _, rfl, tup_t hl, kE, fun ok => ?_⟩
    refine mk_rat (t := 0) (b := 1) (by decide) (sm_of (n := 1) (by decide)) fun x0 H2 s2 nx r0 => ?_
    refine ⟨_, rfl, p, C_Tabled, dx, _, _, rfl, s2 _ _ hp, T.cl_Tabled, T.n_Tabled_many, fT_many _ _, _, ⟨m, rfl, by omega, rfl⟩, ?_⟩
    refine for_gen (fun i σ H3 => ∃ (y4 y5 y6 : Option V) (z : Addr) (T1 B1 : Int), σ = [some (.ref p), some (.ref l), some (thV th), some (.ref z), y4, y5, y6, none] ∧ Same H H3 ∧ RatAt C_Ratio H3 z T1 B1 ∧ LowT (altF m rows ns th i).1 (altF m rows ns th i).2 T1 B1) ⟨none, none, none, x0, _, _, rfl, s2, r0, low (show (1 : Int) ≠ 0 by decide)⟩ ?_ ?_
    · rintro i lg σ H3 H4 hi ⟨y4, y5, y6, z, T1, B1, rfl, s3, rz, lo⟩ s4 nlg hlg
      rw [n2] at hi
      have s34 := s3.trans s4
      have hl4 := s34 _ _ hl
      refine ⟨_, rfl, l, rfl, ⟨_, tup_t hl4⟩, fun D nD => lc_tup (K := K) (a := l) (xs := ns.map V.int) (fun j H5 => Same H4 H5 ∧ H5 D = some (.lst (((ns.take j).map fun n => inV (.int n) ((lotOf (i : Int) m).map V.int)).map V.bl))) ⟨same_upd nD, upd_same⟩ (fun j H5 _ ⟨s, _⟩ => tup_t (s _ _ hl4)) ?_ ?_⟩
      · rintro j x H5 hj ⟨s, hD⟩
        obtain ⟨n, rfl, hin⟩ := int_of hj
        refine ⟨rfl, ?_⟩
        refine lc_yes ?_
        refine iteT ?_
        refine ⟨_, rfl, _, rfl, lg, _, rfl, .inr (tup_t (s _ _ hlg)), rfl, ints_flat _, _, hD, ?_, same_mut s nD, ?_⟩
        · rw [List.length_map, List.length_map, List.length_take]
          exact small2000 (by omega)
        · rw [upd_same, List.take_add_one, hin, List.map_append, List.map_append]
          rfl
      rintro H5 ⟨s5, hD⟩
      rw [List.length_map, List.take_length] at hD
      refine ⟨D, _, rfl, lst_l hD, ?_⟩
      have ea : (ns.map fun n => inV (.int n) ((lotOf (i : Int) m).map V.int)).all id = subL ns (lotOf (i : Int) m) := by
        unfold subL
        rw [List.all_map]
        rfl
      rw [ea]
      refine ⟨_, rfl, ?_⟩
      obtain ⟨b, ws, d, us, g, F, hb, gdr⟩ := facts i hi
      have lol := lotOf_len (i : Int) m
      have RBi := F.rb hb th
      unfold RowB at RBi
      obtain ⟨rb0, rb1, rb2⟩ := RBi
      obtain ⟨d1, d2, d3, d4⟩ := alt_sm (n := i) (by omega) (fun j hj => rb j (by omega)) lo
      have eB : altF m rows ns th (i + 1) = if subL ns (lotOf (i : Int) m) = true then
          ((altF m rows ns th i).1 * (rows.getD i []).getD 0 0 + sgR ((lotOf (i : Int) m).length - ns.length) (cntR th (rows.getD i [])) * (altF m rows ns th i).2, (altF m rows ns th i).2 * (rows.getD i []).getD 0 0)
        else altF m rows ns th i := rfl
      have s35 := s34.trans s5
      by_cases cs : subL ns (lotOf (i : Int) m) = true
      · rw [cs]
        rw [if_pos cs] at eB
        refine iteT ?_
        have okl := lotOf_lot (i : Int) m
        have no : ∀ {Z : Prop}, lotB (lotOf (i : Int) m) (-1) m = false → Z := fun {Z} z => by
          rw [okl] at z
          cases z
        have ek : powSum (lotOf (i : Int) m) = (i : Int) := by
          rw [powSum_lotOf]
          refine Int.emod_eq_of_lt (by omega) ?_
          have : ((2 ^ m : Nat) : Int) = 2 ^ m := Int.natCast_pow 2 m
          omega
        have la5 := la.same s35
        have hg5 := s5 _ _ hlg
        have rz5 := rz.same (s4.trans s5)
        obtain ⟨dx5, tw5, vs5, hp5, htw5, row5⟩ := id la5
        have d0 := F.d0
        have g0 := F.g0
        have dle : d ≤ b := by
          have := F.eb
          have h1 : 1 * d ≤ g * d := Int.mul_le_mul_of_nonneg_right (by omega) (by omega)
          omega
        have e0 : (rows.getD i []).getD 0 0 = b := by rw [F.er]; rfl
        have unn := sum_nn F.un
        have wnn := sum_nn F.wn
        have sdd := F.sd
        have lus := F.lu
        refine ⟨fun σ' H' => ∃ (r : Addr) (T2 B2 : Int), σ' = [some (.ref p), some (.ref l), some (thV th), some (.ref z), some (.ref lg), some (.ref r), y6, none] ∧ Same H5 H' ∧ RatAt C_Ratio H' r T2 B2 ∧ LowT (cntR th (rows.getD i [])) b T2 B2, ?_, ?_⟩
        · cases th with
          | none =>
            refine ⟨_, rfl, rfl, _, rfl, iteD rfl ?_⟩
            refine ⟨_, rfl, p, dx5, _, rfl, hp5, fT_away _ _, _, rfl, p, lg, rows.map divI, lotOf i m, m, rfl, la5, hg5, by omega, by omega, fun z => no z, fun _ => ⟨i, d, us, ek, gdr, d0, ?_, F.un, F.sd, by omega, fun H7 r T2 B2 s7 ra lo2 => ?_⟩⟩
            · exact sm_of (n := 200) (by
                rw [Int.natAbs_mul]
                have : d.natAbs ≤ 10 ^ 18 := by omega
                exact Nat.lt_of_le_of_lt (Nat.mul_le_mul this this) (by decide))
            · refine ⟨r, T2, B2, rfl, s7, ra, lo2.to (by omega) (by omega) ?_⟩
              rw [F.er]
              show (d - us.sum) * b = (b - ws.sum) * d
              rw [F.es, F.eb]
              generalize us.sum = u
              grind
          | some t =>
            have tlt := tm t rfl
            refine ⟨_, rfl, rfl, _, rfl, iteDF (by simp [thV]) ?_⟩
            refine ⟨_, rfl, p, dx5, _, rfl, hp5, fT_shares _ _, _, rfl, p, lg, rows.map divI, lotOf i m, m, rfl, la5, hg5, by omega, by omega, fun z => no z, fun _ => ⟨i, d, us, ek, gdr, by omega, sm_of (n := 100) (by omega), by omega, fun H6 M rs s6 nM hM lr hr => ?_⟩⟩
            have h1 : us[t]? = some us[t] := List.getElem?_eq_getElem (by omega)
            have h2 : rs[t]? = some rs[t] := List.getElem?_eq_getElem (by omega)
            refine ⟨_, rfl, M, _, _, .ref rs[t], rfl, rfl, lst_l hM, atI_nat (j := t) (by rw [List.getElem?_map, h2]; rfl), ?_⟩
            have rr := hr t _ _ h2 h1
            refine ⟨rs[t], _, _, rfl, s6, rr, (low (t := us[t]) (b := d) (by omega)).to (by omega) (by omega) ?_⟩
            rw [F.er]
            show us[t] * b = ws.getD t 0 * d
            have e3 : us.getD t 0 = us[t] := by rw [List.getD_eq_getElem?_getD, h1]; rfl
            rw [F.ew, e3, F.eb]
            generalize us[t] = u
            grind
        rintro σ' H6 ⟨r, T2, B2, rfl, s6, rr, lo2⟩
        have hg6 := s6 _ _ hg5
        have hl6 := (s5.trans s6) _ _ hl4
        refine ⟨_, rfl, lg, _, rfl, .inr (tup_t hg6), _, rfl, l, _, rfl, .inr (tup_t hl6), _, _, rfl, rfl, ?_⟩
        refine ⟨_, rfl, _, _, rfl, rfl, rfl, _, rfl, ?_⟩
        have ez : Builtin.bitAnd (((((lotOf (i : Int) m).map V.int).length : Nat) : Int) - (((ns.map V.int).length : Nat) : Int)) 1 = (((lotOf (i : Int) m).length : Int) - (ns.length : Int)) % 2 := by
          rw [bit_one, List.length_map, List.length_map]
        have rz6 := rz5.same s6
        have z2 : T2.natAbs ≤ 10 ^ 18 ∧ B2.natAbs ≤ 10 ^ 18 ∧ 0 < B2 := by
          have h1 := lo2.leT
          have h2 := lo2.leB
          have h3 := lo2.pos
          rw [e0] at rb2
          omega
        obtain ⟨z2a, z2b, z2c⟩ := z2
        have sT : Sm T1 := sm_of (n := 3900) d3
        have sB : Sm B1 := sm_of (n := 3900) d4
        have sT2 : Sm T2 := sm_of (n := 100) (by omega)
        have sB2 : Sm B2 := sm_of (n := 100) (by omega)
        have sBB : Sm (B1 * B2) := sm_of (n := 4000) (by
          rw [Int.natAbs_mul]
          have : B2.natAbs < 2 ^ 100 := by omega
          have e : (2 : Nat) ^ 4000 = 2 ^ 3900 * 2 ^ 100 := by rw [← Nat.pow_add]
          rw [e]
          exact Nat.mul_lt_mul'' d4 this)
        have bne : b ≠ 0 := by have := F.b0; omega
        refine ite2 (fun e => ?_) (fun e => ?_)
        · have e : (((lotOf (i : Int) m).length : Int) - (ns.length : Int)) % 2 = 0 := ez.symm.trans (V.int.inj (of_decide_eq_true e))
          refine ⟨_, rfl, _, rfl, rz6.self, rr.num.arg, z, .ref r, T1, B1, T2, B2, rfl, rz6, rr.num, d2, z2c, sT, sB, sT2, sB2, sBB, fun H7 x T3 B3 s7 rx lo3 => ⟨_, _, _, x, T3, B3, rfl, (s35.trans s6).trans s7, rx, ?_⟩⟩
          rw [eB, e0]
          unfold sgR
          rw [if_neg (by omega)]
          exact lo.plus lo2 lo3 d1 bne
        · have e : ¬ (((lotOf (i : Int) m).length : Int) - (ns.length : Int)) % 2 = 0 := fun z => e (decide_eq_true (congrArg V.int (ez.trans z)))
          refine ⟨_, rfl, _, rfl, rz6.self, rr.num.arg, z, .ref r, T1, B1, T2, B2, rfl, rz6, rr.num, d2, z2c, sT, sB, sT2, sB2, sBB, fun H7 x T3 B3 s7 rx lo3 => ⟨_, _, _, x, T3, B3, rfl, (s35.trans s6).trans s7, rx, ?_⟩⟩
          rw [eB, e0]
          unfold sgR
          rw [if_pos (by omega)]
          exact lo.minus lo2 lo3 d1 bne
      · have cf : subL ns (lotOf (i : Int) m) = false := by
          cases h : subL ns (lotOf (i : Int) m) with
          | true => exact absurd h cs
          | false => rfl
        rw [cf]
        rw [if_neg cs] at eB
        refine iteF ⟨_, _, _, z, T1, B1, rfl, s35, rz.same (s4.trans s5), ?_⟩
        rw [eB]
        exact lo
    · rintro σ H3 ⟨y4, y5, y6, z, T1, B1, rfl, s3, rz, lo⟩
      rw [n2] at lo
      exact ⟨_, rfl, q ok H3 z T1 B1 s3 rz lo⟩
def sp__law_cell (K : PySem.W.Frag) : Sp := fun vs H Q _ => ∃ (a : Addr) (ns : List Int) (j : Nat), vs = [.ref a, .int (j : Int)] ∧ SqL K H a (ns.map V.int) ∧ ∀ v : Int, Q (.int v) H
theorem ok__law_cell {f : Addr} {fd : FuncData} {C_Tabled C_Ratio C_TooMany C_BadTable C_ZeroBottom C_BadLot C_ShelfError C_NotLists : Addr} (F : Fun K "_law_cell" "_law_cell" s__law_cell f fd) (T : Txt K mg C_Tabled C_Ratio C_TooMany C_BadTable C_ZeroBottom C_BadLot C_ShelfError C_NotLists) (m_int : mg "int" = none) (m_len : mg "len" = none) : FnOk P w K mg base CX0 1 f fd ["_law_script", "_law_place"] (sp__law_cell K) := by
  refine F.ok sc__law_cell (fun vs H Q E h => ?_) (fun cdv A outer s H vs Q E hr h => ?_)
  · obtain ⟨a, ns, j, rfl, _⟩ := h
    rfl
  · obtain ⟨a, ns, j, rfl, hS, q⟩ := h
    refine ⟨_, (pss_cons (ps_if (pt_cmpR op_lt (pv 1) (pe_callB call_len_seq (by rfl) m_len (by decide +kernel) (pa_cons (pv 0) pa_nil)) (nomark _)) (pss_one (ps_ret (pe_callTy call_int1 (by rfl) m_int (by decide +kernel) (pa_cons (pe_ix ix_list (pv 0) (pv 1) (fun _ _ => rfl)) pa_nil)))) pss_nil)
      (pss_one (ps_ret pe_int))), ?_⟩
    refine ⟨_, rfl, .ref a, rfl, a, _, rfl, .inl hS, _, _, rfl, rfl, _, rfl, ite2 (fun e => ?_) (fun _ => q 0)⟩
    have hj : j < ns.length := by
      have e := of_decide_eq_true e
      rw [List.length_map] at e
      omega
    exact ⟨.ref a, rfl, .int (j : Int), rfl, a, _, _, _, rfl, rfl, hS, atI_nat (int_at (List.getElem?_eq_getElem hj)), .inl ⟨_, rfl, q _⟩⟩
def sp__law_draws (K : PySem.W.Frag) : Sp := fun vs H Q _ => ∃ (c : Int) (a : Addr) (ns : List Int), vs = [.int c, .ref a] ∧ SqL K H a (ns.map V.int) ∧ (∀ n ∈ ns, 0 < n ∧ n < 2 ^ 100) ∧ ns.length ≤ 1000 ∧
  ∀ ds H' p, Within ds ns → Same H H' → H p = none → H' p = some (.lst (ds.map V.int)) → Q (.ref p) H'

theorem ok__law_draws {f : Addr} {fd : FuncData} {C_Tabled C_Ratio C_TooMany C_BadTable C_ZeroBottom C_BadLot C_ShelfError C_NotLists : Addr} (F : Fun K "_law_draws" "_law_draws" s__law_draws f fd) (T : Txt K mg C_Tabled C_Ratio C_TooMany C_BadTable C_ZeroBottom C_BadLot C_ShelfError C_NotLists) (m_int : mg "int" = none) (m_len : mg "len" = none) (m_range : mg "range" = none) : FnOk P w K mg base CX0 1 f fd ["_law_cell_here", "_law_sizes"] (sp__law_draws K) := by
  refine F.ok sc__law_draws (fun vs H Q E h => ?_) (fun cdv A outer s H vs Q E hr h => ?_)
  · obtain ⟨c, a, ns, rfl, _⟩ := h
    rfl
  · obtain ⟨c, a, ns, rfl, hS, hn, hlen, q⟩ := h
    refine ⟨_, (pss_cons (ps_if (pt_cmpR op_eq (pv 0) pe_int (nomark _)) (pss_one (ps_ret (pe_lc (own := [("_law_size", 2)]) (g := (gName 2)) (tt := tYes) rfl sc__law_draws.nd (pi_list (pv 1)) (blkOk_by (own := [("_law_size", 2)]) (N := ["_law_cell_here", "_law_sizes", "_law_size", "_law_left", "_law_found", "_law_k", "_law_low", "_law_high"]) (sc := defScope s__law_draws) (by decide +kernel)) (fun _ _ _ _ _ => (pg_name (i := 2) sc__law_draws.nd rfl (Or.inl rfl))) (fun _ _ _ _ _ => pts_nil) (fun _ _ _ _ _ => pe_int)))) pss_nil)
      (pss_cons (ps_if (pt_cmpR op_ge (pv 0) (pe_op op_pow pe_int pe_int) (nomark _)) (pss_cons (ps_set (i := 3) sc__law_draws.nd rfl (Or.inl rfl) (pe_op op_sub (pv 0) (pe_op op_pow pe_int pe_int)))
      (pss_cons (ps_set (i := 4) sc__law_draws.nd rfl (Or.inl rfl) (pe_lst pa_nil))
      (pss_cons (ps_for PassesOwn.never rfl (pi_list (pv 1)) (pg_name (i := 2) sc__law_draws.nd rfl (Or.inl rfl))
      (pss_cons (ps_expr (pe_bm PySem.F.plainAttrs_list PySem.F.slot_list_append PySem.F.type_list_append mt_append (pv 4) (pa_cons (pe_op op_mod (pe_callTy call_int1 (by rfl) m_int (by decide +kernel) (pa_cons (pv 3) pa_nil)) (pv 2)) pa_nil)))
      (pss_one (ps_set (i := 3) sc__law_draws.nd rfl (Or.inl rfl) (pe_op op_fdivW (pv 3) (pv 2))))))
      (pss_one (ps_ret (pv 4)))))) pss_nil)
      (pss_cons (ps_set (i := 4) sc__law_draws.nd rfl (Or.inl rfl) (pe_lst pa_nil))
      (pss_cons (ps_for PassesOwn.never rfl (pi_range1 (by rfl) m_range (pa_cons (pe_callB call_len_seq (by rfl) m_len (by decide +kernel) (pa_cons (pv 1) pa_nil)) pa_nil)) (pg_name (i := 5) sc__law_draws.nd rfl (Or.inl rfl))
      (pss_cons (ps_set (i := 6) sc__law_draws.nd rfl (Or.inl rfl) (pe_op op_mod (pe_callTy call_int1 (by rfl) m_int (by decide +kernel) (pa_cons (pe_op op_add (pe_op op_mul (pv 0) pe_int) (pe_op op_mul (pe_op op_add (pv 5) pe_int) pe_int)) pa_nil)) pe_int))
      (pss_cons (ps_set (i := 6) sc__law_draws.nd rfl (Or.inl rfl) (pe_op op_mod (pe_callTy call_int1 (by rfl) m_int (by decide +kernel) (pa_cons (pe_op op_add (pe_op op_mul (pv 6) pe_int) (pe_op op_mul (pe_op op_add (pv 5) pe_int) pe_int)) pa_nil)) pe_int))
      (pss_cons (ps_set (i := 7) sc__law_draws.nd rfl (Or.inl rfl) (pe_op op_mod (pe_callTy call_int1 (by rfl) m_int (by decide +kernel) (pa_cons (pe_op op_add (pe_op op_mul (pv 0) pe_int) (pe_op op_mul (pe_op op_add (pv 5) pe_int) pe_int)) pa_nil)) pe_int))
      (pss_cons (ps_set (i := 7) sc__law_draws.nd rfl (Or.inl rfl) (pe_op op_mod (pe_callTy call_int1 (by rfl) m_int (by decide +kernel) (pa_cons (pe_op op_add (pe_op op_mul (pv 7) pe_int) (pv 6)) pa_nil)) pe_int))
      (pss_one (ps_expr (pe_bm PySem.F.plainAttrs_list PySem.F.slot_list_append PySem.F.type_list_append mt_append (pv 4) (pa_cons (pe_op op_mod (pe_callTy call_int1 (by rfl) m_int (by decide +kernel) (pa_cons (pe_op op_add (pe_op op_mul (pv 7) pe_int) (pv 6)) pa_nil)) (pe_ix ix_list (pv 1) (pv 5) (fun _ _ => rfl))) pa_nil)))))))))
      (pss_one (ps_ret (pv 4))))))), ?_⟩
    have small : ∀ {ds : List Int} {i : Nat}, Within ds (ns.take i) → (ds.map V.int).length < sizeLine := fun {ds i} w => by
      rw [List.length_map, w.len, List.length_take]
      exact small1000 (by omega)
    refine ⟨_, rfl, rfl, _, rfl, ite2 (fun _ => ?_) (fun _ => ?_)⟩
    · -- [0 for size in sizes]
      refine ⟨.ref a, rfl, a, rfl, ⟨_, hS⟩, fun D nD => lc_list (K := K) (a := a) (xs := ns.map V.int) (fun i H2 => ∃ ds : List Int, Same H H2 ∧ H2 D = some (.lst (ds.map V.int)) ∧ Within ds (ns.take i)) ⟨[], same_upd nD, upd_same, Within.zero ns⟩ (fun i H2 _ ⟨_, s, _⟩ => s.seq hS) ?_ ?_⟩
      · rintro i x H2 hi ⟨ds, s, hD, w⟩
        obtain ⟨n, rfl, hin⟩ := int_of hi
        refine ⟨rfl, ?_⟩
        refine lc_yes ?_
        refine iteT ?_
        exact ⟨_, hD, small w, ds ++ [0], same_mut s nD, by rw [upd_same, ← snoc_int], w.step hin (Int.le_refl 0) (hn n (List.mem_of_getElem? hin)).1⟩
      · rintro H2 ⟨ds, s, hD, w⟩
        rw [List.length_map] at w
        exact q ds H2 D w.full s nD hD
    refine ⟨_, rfl, 10, 18, rfl, rfl, ⟨by decide, by decide, by decide⟩, _, _, rfl, rfl, _, rfl, ite2 (fun _ => ?_) (fun _ => ?_)⟩
    · -- left = cell - 10 ** 18; found = []
      refine ⟨_, rfl, 10, 18, rfl, rfl, ⟨by decide, by decide, by decide⟩, _, _, rfl, rfl, ?_⟩
      refine ⟨Nat.zero_le _, fun o no => ?_⟩
      have s1 : Same H (upd H o (.lst [])) := same_upd no
      refine ⟨.ref a, rfl, a, rfl, ⟨_, s1.seq hS⟩, for_list (K := K) (a := a) (xs := ns.map V.int) (fun i σ H2 => ∃ (ds : List Int) (l : Int) (y : Option V), σ = [some (.int c), some (.ref a), y, some (.int l), some (.ref o), none, none, none] ∧ Same H H2 ∧ H2 o = some (.lst (ds.map V.int)) ∧ Within ds (ns.take i))
        ⟨[], _, none, rfl, s1, upd_same, Within.zero ns⟩ (fun i σ H2 _ ⟨_, _, _, _, s, _⟩ => s.seq hS) ?_ ?_⟩
      · rintro i x σ H2 hi ⟨ds, l, y, rfl, s, hD, w⟩
        obtain ⟨n, rfl, hin⟩ := int_of hi
        obtain ⟨n0, n1⟩ := hn n (List.mem_of_getElem? hin)
        refine ⟨.ref o, rfl, .inl ⟨rfl, _, lst_l hD⟩, _, rfl, .inl ⟨l, rfl, _, rfl, _, _, rfl, rfl, n0, o, _, _, rfl, rfl, hD, small w, ?_⟩⟩
        refine ⟨_, rfl, _, rfl, _, _, rfl, rfl, w_div n0 n1, ds ++ [l % n], _, _, rfl, same_mut s no, by rw [upd_same, ← snoc_int], w.step hin (Int.emod_nonneg _ (by omega)) (Int.emod_lt_of_pos _ n0)⟩
      · rintro σ H2 ⟨ds, l, y, rfl, s, hD, w⟩
        rw [List.length_map] at w
        exact ⟨_, rfl, q ds H2 o w.full s no hD⟩
    · refine ⟨Nat.zero_le _, fun o no => ?_⟩
      have s1 : Same H (upd H o (.lst [])) := same_upd no
      refine ⟨.ref a, rfl, a, _, rfl, .inl (s1.seq hS), _, rfl, ?_⟩
      rw [List.length_map]
      refine ⟨by omega, by omega, ?_⟩
      rw [Int.toNat_natCast]
      refine for_range (lo := 0) (n := ns.length) (fun i σ H2 => ∃ (ds : List Int) (y1 y2 y3 : Option V), σ = [some (.int c), some (.ref a), none, none, some (.ref o), y1, y2, y3] ∧ Same H H2 ∧ H2 o = some (.lst (ds.map V.int)) ∧ Within ds (ns.take i))
        ⟨[], none, none, none, rfl, s1, upd_same, Within.zero ns⟩ ?_ ?_
      · rintro i σ H2 hi ⟨ds, y1, y2, y3, rfl, s, hD, w⟩
        have hin : ns[i]? = some ns[i] := List.getElem?_eq_getElem hi
        obtain ⟨n0, n1⟩ := hn ns[i] (List.getElem_mem hi)
        refine ⟨_, rfl, _, _, rfl, rfl, .inr ⟨by decide, by decide⟩, _, rfl, _, _, rfl, rfl, _, _, rfl, rfl, .inr ⟨by decide, by decide⟩, _, _, rfl, rfl, .inl ⟨_, rfl, _, _, rfl, rfl, (show (0 : Int) < 2147483647 by decide), ?_⟩⟩
        refine ⟨_, rfl, _, _, rfl, rfl, .inr ⟨by decide, by decide⟩, _, rfl, _, _, rfl, rfl, _, _, rfl, rfl, .inr ⟨by decide, by decide⟩, _, _, rfl, rfl, .inl ⟨_, rfl, _, _, rfl, rfl, (show (0 : Int) < 2147483399 by decide), ?_⟩⟩
        refine ⟨_, rfl, _, _, rfl, rfl, .inr ⟨by decide, by decide⟩, _, rfl, _, _, rfl, rfl, _, _, rfl, rfl, .inr ⟨by decide, by decide⟩, _, _, rfl, rfl, .inl ⟨_, rfl, _, _, rfl, rfl, (show (0 : Int) < 2147483563 by decide), ?_⟩⟩
        refine ⟨_, rfl, _, _, rfl, rfl, .inr ⟨by decide, by decide⟩, _, rfl, _, _, rfl, rfl, .inl ⟨_, rfl, _, _, rfl, rfl, (show (0 : Int) < 2147483587 by decide), ?_⟩⟩
        refine ⟨.ref o, rfl, .inl ⟨rfl, _, lst_l hD⟩, _, rfl, _, _, rfl, rfl, .inr ⟨by decide, by decide⟩, _, rfl, _, _, rfl, rfl, .inl ⟨_, rfl, .ref a, rfl, .int (0 + (i : Int)), rfl, a, _, _, _, rfl, rfl, s.seq hS, at_of (Int.zero_add _) (int_at hin), _, _, rfl, rfl, n0, o, _, _, rfl, rfl, hD, small w, ?_⟩⟩
        exact ⟨ds ++ [_], _, _, _, rfl, same_mut s no, by rw [upd_same, ← snoc_int], w.step hin (Int.emod_nonneg _ (by omega)) (Int.emod_lt_of_pos _ n0)⟩
      · rintro σ H2 ⟨ds, y1, y2, y3, rfl, s, hD, w⟩
        exact ⟨_, rfl, q ds H2 o w.full s no hD⟩
def sp__law_lot (K : PySem.W.Frag) : Sp := fun vs H Q _ => ∃ (b : Int) (m : Nat), vs = [.int b, .int (m : Int)] ∧ m ≤ 1000 ∧ ∀ H' p, Same H H' → H p = none → H' p = some (.tup ((lotOf b m).map V.int)) → Q (.ref p) H'

theorem ok__law_lot {f : Addr} {fd : FuncData} {C_Tabled C_Ratio C_TooMany C_BadTable C_ZeroBottom C_BadLot C_ShelfError C_NotLists : Addr} (F : Fun K "_law_lot" "_law_lot" s__law_lot f fd) (T : Txt K mg C_Tabled C_Ratio C_TooMany C_BadTable C_ZeroBottom C_BadLot C_ShelfError C_NotLists) (m_int : mg "int" = none) (m_range : mg "range" = none) (m_tuple : mg "tuple" = none) : FnOk P w K mg base CX0 1 f fd ["_law_bits", "_law_many"] (sp__law_lot K) := by
  refine F.ok sc__law_lot (fun vs H Q E h => ?_) (fun cdv A outer s H vs Q E hr h => ?_)
  · obtain ⟨b, m, rfl, _⟩ := h
    rfl
  · obtain ⟨b, m, rfl, hm, q⟩ := h
    refine ⟨_, (pss_cons (ps_set (i := 2) sc__law_lot.nd rfl (Or.inl rfl) (pe_lst pa_nil))
      (pss_cons (ps_set (i := 3) sc__law_lot.nd rfl (Or.inl rfl) (pe_callTy call_int1 (by rfl) m_int (by decide +kernel) (pa_cons (pv 0) pa_nil)))
      (pss_cons (ps_for PassesOwn.never rfl (pi_range1 (by rfl) m_range (pa_cons (pv 1) pa_nil)) (pg_name (i := 4) sc__law_lot.nd rfl (Or.inl rfl))
      (Evl.pss_cut (ps_if (pt_cmpR op_eq (pe_op op_mod (pv 3) pe_int) pe_int (nomark _)) (pss_one (ps_expr (pe_bm PySem.F.plainAttrs_list PySem.F.slot_list_append PySem.F.type_list_append mt_append (pv 2) (pa_cons (pv 4) pa_nil)))) pss_nil)
      (pss_one (ps_set (i := 3) sc__law_lot.nd rfl (Or.inl rfl) (pe_op op_fdivW (pv 3) pe_int)))))
      (pss_one (ps_ret (pe_callTy call_tuple_of (by rfl) m_tuple (by decide +kernel) (pa_cons (pv 2) pa_nil))))))), ?_⟩
    refine ⟨Nat.zero_le _, fun o no => ?_⟩
    refine ⟨_, rfl, .inl ⟨b, rfl, ?_⟩⟩
    refine ⟨_, rfl, _, rfl, by omega, by omega, ?_⟩
    rw [Int.toNat_natCast]
    refine for_range (lo := 0) (n := m) (fun i σ H2 => ∃ (y : Option V), σ = [some (.int b), some (.int (m : Int)), some (.ref o), some (.int (b / 2 ^ i)), y] ∧ Same H H2 ∧ H2 o = some (.lst ((lotOf b i).map V.int))) ⟨none, ?_, same_upd no, upd_same⟩ ?_ ?_
    · show [some (V.int b), some (V.int (m : Int)), some (V.ref o), some (V.int b), none] = [some (V.int b), some (V.int (m : Int)), some (V.ref o), some (V.int (b / 1)), none]
      rw [Int.ediv_one]
    · rintro i σ H2 hi ⟨y, rfl, s, hD⟩
      have hl : ((lotOf b i).map V.int).length < sizeLine := by
        rw [List.length_map]
        exact small1000 (Nat.le_trans (lotOf_len b i) (by omega))
      refine ⟨fun σ' H' => σ' = [some (.int b), some (.int (m : Int)), some (.ref o), some (.int (b / 2 ^ i)), some (.int (0 + (i : Int)))] ∧ Same H H' ∧ H' o = some (.lst ((lotOf b (i + 1)).map V.int)), ?_, ?_⟩
      · refine ⟨_, rfl, _, _, rfl, rfl, (show (0 : Int) < 2 by decide), rfl, _, rfl, ite2 (fun e => ?_) (fun e => ?_)⟩
        · have e : b / 2 ^ i % 2 = 1 := V.int.inj (of_decide_eq_true e)
          refine ⟨.ref o, rfl, .inl ⟨rfl, _, lst_l hD⟩, _, rfl, o, _, _, rfl, rfl, hD, hl, rfl, same_mut s no, ?_⟩
          rw [upd_same]
          show _ = some (HO.lst ((lotOf b i ++ (if b / 2 ^ i % 2 = 1 then [(i : Int)] else [])).map V.int))
          rw [if_pos e, ← snoc_int, Int.zero_add]
        · have e : ¬ b / 2 ^ i % 2 = 1 := fun z => e (decide_eq_true (congrArg V.int z))
          refine ⟨rfl, s, ?_⟩
          show _ = some (HO.lst ((lotOf b i ++ (if b / 2 ^ i % 2 = 1 then [(i : Int)] else [])).map V.int))
          rw [if_neg e, List.append_nil]
          exact hD
      · rintro σ' H' ⟨rfl, s', hD'⟩
        refine ⟨_, rfl, _, _, rfl, rfl, ⟨by decide, by decide⟩, some (.int (0 + (i : Int))), ?_, s', hD'⟩
        dsimp only
        rw [half]
        rfl
    · rintro σ H2 ⟨y, rfl, s, hD⟩
      exact ⟨.ref o, rfl, o, _, rfl, .inl ⟨lst_l hD, fun p np => q _ p (same_mut s (s.free np)) (s.free np) upd_same⟩⟩
def sp__law_power : Sp := fun vs H Q _ => ∃ m : Nat, vs = [.int (m : Int)] ∧ m < 100000 ∧ Q (.int (2 ^ m)) H
theorem ok__law_power {f : Addr} {fd : FuncData} {C_Tabled C_Ratio C_TooMany C_BadTable C_ZeroBottom C_BadLot C_ShelfError C_NotLists : Addr} (F : Fun K "_law_power" "_law_power" s__law_power f fd) (T : Txt K mg C_Tabled C_Ratio C_TooMany C_BadTable C_ZeroBottom C_BadLot C_ShelfError C_NotLists) (m_range : mg "range" = none) : FnOk P w K mg base CX0 1 f fd ["_law_many"] sp__law_power := by
  refine F.ok sc__law_power (fun vs H Q E h => ?_) (fun cdv A outer s H vs Q E hr h => ?_)
  · obtain ⟨m, rfl, _⟩ := h
    rfl
  · obtain ⟨m, rfl, hm, q⟩ := h
    refine ⟨_, (pss_cons (ps_set (i := 1) sc__law_power.nd rfl (Or.inl rfl) pe_int)
      (pss_cons (ps_for PassesOwn.never rfl (pi_range1 (by rfl) m_range (pa_cons (pv 0) pa_nil)) (pg_name (i := 2) sc__law_power.nd rfl (Or.inl rfl))
      (pss_one (ps_set (i := 1) sc__law_power.nd rfl (Or.inl rfl) (pe_op op_mul (pv 1) pe_int))))
      (pss_one (ps_ret (pv 1))))), ?_⟩
    refine ⟨_, rfl, _, rfl, by omega, by omega, ?_⟩
    rw [Int.toNat_natCast]
    refine for_range (lo := 0) (n := m) (fun i σ H2 => ∃ (y : Option V), σ = [some (.int (m : Int)), some (.int (2 ^ i)), y] ∧ H2 = H) ⟨none, rfl, rfl⟩ ?_ ?_
    · rintro i σ H2 hi ⟨y, rfl, rfl⟩
      refine ⟨_, rfl, _, _, rfl, rfl, .inr (by decide), some (.int (0 + (i : Int))), ?_, rfl⟩
      rw [Int.pow_succ]
      rfl
    · rintro σ H2 ⟨y, rfl, rfl⟩
      exact ⟨_, rfl, q⟩
def sp__law_table : Sp := fun vs H Q _ => ∃ (c : Int) (m : Nat), vs = [.int c, .int (m : Int)] ∧ m ≤ 6 ∧
  ∀ H' L us rows, Same H H' → H' L = some (.lst (us.map V.ref)) → RowsL H' us rows → GoodR m (10 ^ 18) rows → Q (.ref L) H' 
theorem ok__law_table {f : Addr} {fd : FuncData} {C_Tabled C_Ratio C_TooMany C_BadTable C_ZeroBottom C_BadLot C_ShelfError C_NotLists : Addr} (F : Fun K "_law_table" "_law_table" s__law_table f fd) (T : Txt K mg C_Tabled C_Ratio C_TooMany C_BadTable C_ZeroBottom C_BadLot C_ShelfError C_NotLists) (m_int : mg "int" = none) (m_range : mg "range" = none) (m_sum : mg "sum" = none) (c__law_power : Cal P w K mg base CX0 1 "_law_power" ["_law_many"] sp__law_power) (c__law_lot : Cal P w K mg base CX0 1 "_law_lot" ["_law_bits", "_law_many"] (sp__law_lot K)) (c__law_draws : Cal P w K mg base CX0 1 "_law_draws" ["_law_cell_here", "_law_sizes"] (sp__law_draws K)) : FnOk P w K mg base CX0 2 f fd ["_law_cell_here", "_law_many"] sp__law_table := by
  refine F.ok sc__law_table (fun vs H Q E h => ?_) (fun cdv A outer s H vs Q E hr h => ?_)
  · obtain ⟨c, m, rfl, _⟩ := h
    rfl
  · obtain ⟨c, m, rfl, hm, q⟩ := h
    obtain ⟨f__law_power, fd__law_power, G__law_power, m__law_power, k__law_power, b__law_power⟩ := c__law_power
    obtain ⟨f__law_lot, fd__law_lot, G__law_lot, m__law_lot, k__law_lot, b__law_lot⟩ := c__law_lot
    obtain ⟨f__law_draws, fd__law_draws, G__law_draws, m__law_draws, k__law_draws, b__law_draws⟩ := c__law_draws
    refine ⟨_, (pss_cons (ps_set (i := 2) sc__law_table.nd rfl (Or.inl rfl) (pe_op op_add (pv 1) pe_int))
      (pss_cons (ps_set (i := 4) sc__law_table.nd rfl (Or.inl rfl) (pe_call G__law_draws (hr.mono (by decide)) (by rfl) m__law_draws k__law_draws b__law_draws .nil pass0 (pa_cons (pv 0) (pa_cons (pe_op op_cat (pe_lst (pa_cons pe_int pa_nil)) (pe_lc (own := [("_law_k", 3)]) (g := (gName 3)) (tt := tYes) rfl sc__law_table.nd (pi_range1 (by rfl) m_range (pa_cons (pe_op op_mul (pe_call G__law_power (hr.mono (by decide)) (by rfl) m__law_power k__law_power b__law_power .nil pass0 (pa_cons (pv 1) pa_nil)) (pv 2)) pa_nil)) (blkOk_by (own := [("_law_k", 3)]) (N := ["_law_cell_here", "_law_many", "_law_size", "_law_k", "_law_drawn", "_law_bound", "_law_rows", "_law_part", "_law_lot_here", "_law_counts", "_law_total", "_law_value", "_law_thing"]) (sc := defScope s__law_table) (by decide +kernel)) (fun _ _ _ _ _ => (pg_name (i := 3) sc__law_table.nd rfl (Or.inl rfl))) (fun _ _ _ _ _ => pts_nil) (fun _ _ _ _ _ => (pe_op op_pow pe_int pe_int)))) pa_nil))))
      (pss_cons (ps_set (i := 5) sc__law_table.nd rfl (Or.inr rfl) (pe_ix ix_list (pe_lst (pa_cons pe_int (pa_cons pe_int (pa_cons pe_int (pa_cons (pe_op op_pow pe_int pe_int) pa_nil))))) (pe_ix ix_list (pv 4) pe_int (fun _ _ => rfl)) (fun _ _ => rfl)))
      (pss_cons (ps_set (i := 6) sc__law_table.nd rfl (Or.inl rfl) (pe_lst pa_nil))
      (pss_cons (ps_for PassesOwn.never rfl (pi_range1 (by rfl) m_range (pa_cons (pe_call G__law_power (hr.mono (by decide)) (by rfl) m__law_power k__law_power b__law_power .nil pass0 (pa_cons (pv 1) pa_nil)) pa_nil)) (pg_name (i := 3) sc__law_table.nd rfl (Or.inl rfl))
      (pss_cons (ps_set (i := 7) sc__law_table.nd rfl (Or.inr rfl) (pe_lc (own := [("_law_value", 11)]) (g := (gName 11)) (tt := tYes) rfl sc__law_table.nd (pi_list (pe_slice sl_list (pv 4) (po_some (pe_op op_add pe_int (pe_op op_mul (pv 3) (pv 2)))) (po_some (pe_op op_add pe_int (pe_op op_mul (pe_op op_add (pv 3) pe_int) (pv 2)))))) (blkOk_by (own := [("_law_value", 11)]) (N := ["_law_cell_here", "_law_many", "_law_size", "_law_k", "_law_drawn", "_law_bound", "_law_rows", "_law_part", "_law_lot_here", "_law_counts", "_law_total", "_law_value", "_law_thing"]) (sc := defScope s__law_table) (by decide +kernel)) (fun _ _ _ _ _ => (pg_name (i := 11) sc__law_table.nd rfl (Or.inl rfl))) (fun _ _ _ _ _ => pts_nil) (fun _ _ _ _ _ => (pe_op op_mod (pe_callTy call_int1 (by rfl) m_int (by decide +kernel) (pa_cons (pv 11) pa_nil)) (pv 5)))))
      (pss_cons (ps_set (i := 8) sc__law_table.nd rfl (Or.inr rfl) (pe_call G__law_lot (hr.mono (by decide)) (by rfl) m__law_lot k__law_lot b__law_lot .nil pass0 (pa_cons (pv 3) (pa_cons (pv 1) pa_nil))))
      (pss_cons (ps_setLc (i := 9) (own := [("_law_thing", 12)]) (g := (gName 12)) (tt := tYes) rfl sc__law_table.nd rfl rfl (sw_true rfl rfl rfl (by decide +kernel)) (pi_range1 (by rfl) m_range (pa_cons (pv 1) pa_nil)) (blkOk_by (own := [("_law_thing", 12)]) (N := ["_law_cell_here", "_law_many", "_law_size", "_law_k", "_law_drawn", "_law_bound", "_law_rows", "_law_part", "_law_lot_here", "_law_counts", "_law_total", "_law_value", "_law_thing"]) (sc := defScope s__law_table) (by decide +kernel)) (fun _ _ _ _ _ => (pg_name (i := 12) sc__law_table.nd rfl (Or.inl rfl))) (fun _ _ _ _ _ => pts_nil) (fun _ _ _ _ _ => (pe_op op_mul (pe_ix (r := rIxL K) ix_list (pv 7) (pe_op op_add (pv 12) pe_int) (fun _ _ => rfl)) (pe_callTy call_int1 (by rfl) m_int (by decide +kernel) (pa_cons (pe_cmpR (r := rIn K false) op_in_seq (pv 12) (pv 8) (by rfl)) pa_nil)))))
      (pss_cons (ps_set (i := 10) sc__law_table.nd rfl (Or.inl rfl) (pe_op op_add (pe_ix ix_list (pv 7) pe_int (fun _ _ => rfl)) (pe_callB (cr_sum rfl) (by rfl) m_sum (by decide +kernel) (pa_cons (pv 9) pa_nil))))
      (Evl.pss_cut (ps_if (pt_cmpR op_eq (pv 10) pe_int (nomark _)) (pss_one (ps_set (i := 10) sc__law_table.nd rfl (Or.inl rfl) pe_int)) pss_nil)
      (pss_one (ps_expr (pe_bm PySem.F.plainAttrs_list PySem.F.slot_list_append PySem.F.type_list_append mt_append (pv 6) (pa_cons (pe_op op_cat (pe_lst (pa_cons (pv 10) pa_nil)) (pv 9)) pa_nil))))))))))
      (pss_one (ps_ret (pv 6)))))))), ?_⟩
    have p64 : 2 ^ m ≤ 64 := Nat.pow_le_pow_right (by decide) hm
    refine ⟨_, rfl, _, _, rfl, rfl, ?_⟩
    refine ⟨_, rfl, (by show 1 ≤ sizeLine; decide), fun p1 n1 => ?_⟩
    have s1 := same_upd (o := .lst [V.int 4]) n1
    have hp1 : upd H p1 (.lst [V.int 4]) p1 = some (.lst [V.int 4]) := upd_same
    generalize upd H p1 (.lst [V.int 4]) = H1 at s1 hp1 ⊢
    refine ⟨_, rfl, m, rfl, by omega, ?_⟩
    have e2m : (2 : Int) ^ m = ((2 ^ m : Nat) : Int) := (Int.natCast_pow 2 m).symm
    rw [e2m]
    obtain ⟨N, hN⟩ : ∃ N, 2 ^ m = N := ⟨_, rfl⟩
    rw [hN] at p64 ⊢
    have mulN : CMul (N : Int) ((m : Int) + 1) := .inl ⟨by omega, by omega⟩
    obtain ⟨M, hM⟩ : ∃ M, N * (m + 1) = M := ⟨_, rfl⟩
    have M448 : M ≤ 448 := by
      rw [← hM]
      exact Nat.le_trans (Nat.mul_le_mul p64 (by omega : m + 1 ≤ 7)) (by decide)
    have eM : (N : Int) * ((m : Int) + 1) = (M : Int) := by
      rw [← hM, Int.natCast_mul]
      rfl
    refine ⟨_, rfl, _, _, rfl, rfl, mulN, ?_⟩
    refine ⟨(M : Int), congrArg (fun z => [V.int z]) eM, by omega, by omega, ?_⟩
    rw [Int.toNat_natCast]
    refine fun D nD => lc_range (lo := 0) (n := M) (fun i H2 => Same H1 H2 ∧ H2 D = some (.lst ((List.replicate i (10 ^ 17 : Int)).map V.int))) ⟨same_upd nD, upd_same⟩ ?_ ?_
    · rintro i H2 hi ⟨s, hD⟩
      refine ⟨rfl, ?_⟩
      refine lc_yes ?_
      refine iteT ?_
      refine ⟨10, 17, rfl, rfl, ⟨by decide, by decide, by decide⟩, _, hD, ?_, same_mut s nD, ?_⟩
      · rw [List.length_map, List.length_replicate]
        exact small1000 (by omega)
      · rw [upd_same, List.replicate_succ', ← snoc_int]
        rfl
    rintro H2 ⟨s2, hD⟩
    refine ⟨p1, D, _, _, rfl, rfl, s2 _ _ hp1, hD, (by rw [List.length_map, List.length_replicate]; exact Nat.le_of_lt (small1000 (by show 1 + M ≤ 1000; omega))), fun p3 n3 => ?_⟩
    have s3 := (s1.trans s2).trans (same_upd (o := .lst ((4 :: List.replicate M (10 ^ 17 : Int)).map V.int)) n3)
    refine ⟨c, p3, 4 :: List.replicate M (10 ^ 17 : Int), rfl, lst_l upd_same, ?_, ?_, fun ds H4 d w s4 nd hd => ?_⟩
    · intro n hn
      rcases List.mem_cons.mp hn with rfl | hn
      · decide
      · rw [(List.mem_replicate.mp hn).2]
        exact big17
    · rw [List.length_cons, List.length_replicate]
      omega
    obtain ⟨d0, r, rfl, l0, u0, w⟩ := w.c
    have hrl : r.length = M := by
      rw [w.len, List.length_replicate]
    refine ⟨10, 17, rfl, rfl, ⟨by decide, by decide, by decide⟩, (by show 4 ≤ sizeLine; decide), fun p5 n5 => ?_⟩
    obtain ⟨bd, hb, b0, b1⟩ : ∃ bd : Int, atI [V.int 2, V.int 6, V.int 1000, V.int (10 ^ 17)] d0 = some (V.int bd) ∧ 0 < bd ∧ bd ≤ 10 ^ 17 := by
      rcases (by omega : d0 = 0 ∨ d0 = 1 ∨ d0 = 2 ∨ d0 = 3) with rfl | rfl | rfl | rfl
      · exact ⟨2, rfl, by decide, by decide⟩
      · exact ⟨6, rfl, by decide, by decide⟩
      · exact ⟨1000, rfl, by decide, by decide⟩
      · exact ⟨10 ^ 17, rfl, by decide, by decide⟩
    have s5 := same_upd (o := .lst [V.int 2, V.int 6, V.int 1000, V.int (10 ^ 17)]) n5
    refine ⟨.ref d, rfl, d, _, _, .int d0, rfl, rfl, lst_l (s5 _ _ hd), atI_nat (j := 0) rfl, p5, _, _, .int bd, rfl, rfl, lst_l upd_same, hb, ?_⟩
    have sA := (s3.trans s4).trans s5
    have hd := s5 _ _ hd
    refine ⟨Nat.zero_le _, fun o no => ?_⟩
    have so := sA.trans (same_upd (o := .lst []) no)
    have no' := sA.free no
    have no : upd H4 p5 (.lst [V.int 2, V.int 6, V.int 1000, V.int (10 ^ 17)]) o = none := no
    have ndo : d ≠ o := fun z => by
      rw [z, no] at hd
      cases hd
    have hd := same_upd (o := .lst []) no _ _ hd
    refine ⟨_, rfl, m, rfl, by omega, ?_⟩
    refine ⟨(N : Int), congrArg (fun z => [V.int z]) (e2m.trans (congrArg Int.ofNat hN)), by omega, by omega, ?_⟩
    rw [Int.toNat_natCast]
    refine for_range (lo := 0) (n := N) (fun i σ H2 => ∃ (us : List Addr) (rows : List (List Int)) (y1 y2 y3 y4 y5 : Option V), σ = [some (.int c), some (.int (m : Int)), some (.int ((m : Int) + 1)), y1, some (.ref d), some (.int bd), some (.ref o), y2, y3, y4, y5, none, none] ∧ H2 d = some (.lst ((d0 :: r).map V.int)) ∧ Same H H2 ∧ H2 o = some (.lst (us.map V.ref)) ∧ us.length = i ∧ o ∉ us ∧ RowsL H2 us rows ∧ (∀ (j : Nat) (r : List Int), rows[j]? = some r → rowOk m j r = true) ∧ (∀ r ∈ rows, r.length = m + 1 ∧ ∀ x ∈ r, 0 ≤ x ∧ x ≤ 10 ^ 18)) ⟨[], [], none, none, none, none, none, rfl, hd, so, upd_same, rfl, by simp, ⟨rfl, fun i u r h => by cases h⟩, (fun j r h => by cases h), fun r h => absurd h (by simp)⟩ ?_ ?_
    · rintro i σ H2 hi ⟨us, rows, y1, y2, y3, y4, y5, rfl, hd, s2, ho, lu, ou, row, ok, bdr⟩
      have mul1 : CMul (0 + (i : Int)) ((m : Int) + 1) := .inl ⟨by omega, by omega⟩
      have mul2 : CMul (0 + (i : Int) + 1) ((m : Int) + 1) := .inl ⟨by omega, by omega⟩
      have q1 : (i + 1) * (m + 1) ≤ M := by
        rw [← hM]
        exact Nat.mul_le_mul_right _ hi
      have q2 : (i + 1) * (m + 1) = i * (m + 1) + (m + 1) := Nat.succ_mul i (m + 1)
      have e1 : (1 : Int) + (0 + (i : Int)) * ((m : Int) + 1) = ((1 + i * (m + 1) : Nat) : Int) := by
        rw [Int.natCast_add, Int.natCast_mul, Int.zero_add]
        rfl
      have e2 : (1 : Int) + (0 + (i : Int) + 1) * ((m : Int) + 1) = ((1 + (i + 1) * (m + 1) : Nat) : Int) := by
        rw [Int.natCast_add, Int.natCast_mul, Int.zero_add]
        rfl
      refine ⟨_, rfl, _, rfl, _, rfl, _, _, rfl, rfl, mul1, _, _, rfl, rfl, ((1 + i * (m + 1) : Nat) : Int), congrArg V.int e1, _, rfl, _, _, rfl, rfl, _, rfl, _, _, rfl, rfl, mul2, _, _, rfl, rfl, ((1 + (i + 1) * (m + 1) : Nat) : Int), congrArg V.int e2, d, _, rfl, lst_l hd, fun S nS => ?_⟩
      have ec : cutV ((d0 :: r).map V.int) (some ((1 + i * (m + 1) : Nat) : Int)) (some ((1 + (i + 1) * (m + 1) : Nat) : Int)) = (((d0 :: r).drop (1 + i * (m + 1))).take (m + 1)).map V.int := by
        rw [cut_nat _ (by omega) (by rw [List.length_map, List.length_cons, hrl]; omega), show 1 + (i + 1) * (m + 1) - (1 + i * (m + 1)) = m + 1 by omega, List.map_take, List.map_drop]
      rw [ec]
      obtain ⟨pr, hpr⟩ : ∃ pr, ((d0 :: r).drop (1 + i * (m + 1))).take (m + 1) = pr := ⟨_, rfl⟩
      have lpr : pr.length = m + 1 := by
        rw [← hpr, List.length_take, List.length_drop, List.length_cons, hrl]
        omega
      rw [hpr]
      have sS := same_upd (o := .lst (pr.map V.int)) nS
      have hS : upd H2 S (.lst (pr.map V.int)) S = some (.lst (pr.map V.int)) := upd_same
      have hd3 := sS _ _ hd
      have ho3 := sS _ _ ho
      have row3 := row.same sS
      have s3' := s2.trans sS
      generalize upd H2 S (.lst (pr.map V.int)) = H3 at sS hS hd3 ho3 row3 s3' ⊢
      refine ⟨S, rfl, ⟨_, lst_l hS⟩, fun D nD => lc_list (K := K) (a := S) (xs := pr.map V.int) (fun j H4 => Same H3 H4 ∧ H4 D = some (.lst (((pr.take j).map (· % bd)).map V.int))) ⟨same_upd nD, upd_same⟩ (fun j H4 _ ⟨s, _⟩ => lst_l (s _ _ hS)) ?_ ?_⟩
      · rintro j x H4 hj ⟨s, hD⟩
        obtain ⟨n, rfl, hjn⟩ := int_of hj
        refine ⟨rfl, ?_⟩
        refine lc_yes ?_
        refine iteT ?_
        refine ⟨_, rfl, .inl ⟨_, rfl, _, rfl, _, _, rfl, rfl, b0, _, hD, ?_, same_mut s nD, ?_⟩⟩
        · rw [List.length_map, List.length_map, List.length_take]
          exact small1000 (by omega)
        · rw [upd_same, List.take_add_one, hjn, List.map_append, List.map_append]
          rfl
      rintro H4 ⟨s4, hD⟩
      rw [List.length_map, List.take_length] at hD
      obtain ⟨ps, hps⟩ : ∃ ps, pr.map (· % bd) = ps := ⟨_, rfl⟩
      rw [hps] at hD
      have lps : ps.length = m + 1 := by rw [← hps, List.length_map, lpr]
      have bps : ∀ x ∈ ps, 0 ≤ x ∧ x < 10 ^ 17 := fun x hx => by
        rw [← hps] at hx
        obtain ⟨y, _, rfl⟩ := List.mem_map.mp hx
        have h1 := Int.emod_nonneg y (show bd ≠ 0 by omega)
        have h2 := Int.emod_lt_of_pos y b0
        exact ⟨h1, by omega⟩
      refine ⟨_, rfl, _, rfl, (i : Int), m, by rw [Int.zero_add]; rfl, by omega, fun H5 l s5 nlx hl => ?_⟩
      have s35 := s4.trans s5
      have hD5 := s5 _ _ hD
      refine ⟨_, rfl, _, rfl, by omega, by omega, ?_⟩
      rw [Int.toNat_natCast]
      refine fun F nF => lc_range (lo := 0) (n := m) (fun j H6 => ∃ cs : List Int, Same H5 H6 ∧ H6 F = some (.lst (cs.map V.int)) ∧ cs.length = j ∧ ∀ (k : Nat) (c : Int), cs[k]? = some c → 0 ≤ c ∧ c ≤ 10 ^ 17 ∧ (0 < c → inV (.int (k : Int)) ((lotOf i m).map V.int) = true)) ⟨[], same_upd nF, upd_same, rfl, fun k c h => by cases h⟩ ?_ ?_
      · rintro j H6 hj ⟨cs, s6, hF, lc, bc⟩
        refine ⟨rfl, ?_⟩
        refine lc_yes ?_
        refine iteT ?_
        have gj : ps[j + 1]? = some ps[j + 1] := List.getElem?_eq_getElem (by omega)
        have bj := bps _ (List.mem_of_getElem? gj)
        refine ⟨_, rfl, _, rfl, _, _, rfl, rfl, D, _, _, .int ps[j + 1], rfl, rfl, lst_l (s6 _ _ hD5), at_of (j := j + 1) (by omega) (int_at gj), ?_⟩
        generalize ps[j + 1] = c at bj
        refine ⟨_, rfl, _, rfl, l, _, rfl, .inr (tup_t (s6 _ _ hl)), rfl, ints_flat _, .inr ⟨_, rfl, ?_⟩⟩
        have done : ∀ b : Bool, (b = true → inV (.int (j : Int)) ((lotOf i m).map V.int) = true) → ∃ acc, H6 F = some (.lst acc) ∧ acc.length < sizeLine ∧ ∃ cs' : List Int, Same H5 (upd H6 F (.lst (acc ++ [V.int (c * if b = true then 1 else 0)]))) ∧ upd H6 F (.lst (acc ++ [V.int (c * if b = true then 1 else 0)])) F = some (.lst (cs'.map V.int)) ∧ cs'.length = j + 1 ∧ ∀ (k : Nat) (x : Int), cs'[k]? = some x → 0 ≤ x ∧ x ≤ 10 ^ 17 ∧ (0 < x → inV (.int (k : Int)) ((lotOf i m).map V.int) = true) := by
          intro b hb
          refine ⟨_, hF, ?_, cs ++ [c * if b = true then 1 else 0], same_mut s6 nF, by rw [upd_same, ← snoc_int], ?_, fun k x hk => ?_⟩
          · rw [List.length_map]
            exact small1000 (by omega)
          · rw [List.length_append, lc]
            rfl
          · by_cases lk : k < cs.length
            · rw [List.getElem?_append_left lk] at hk
              exact bc k x hk
            · rw [List.getElem?_append_right (by omega)] at hk
              obtain ⟨n, hn⟩ : ∃ n, k - cs.length = n := ⟨_, rfl⟩
              rw [hn] at hk
              cases n with
              | zero =>
                have : k = j := by omega
                subst this
                cases hk
                cases b with
                | true => exact ⟨by show 0 ≤ c * 1; omega, by show c * 1 ≤ 10 ^ 17; omega, fun _ => hb rfl⟩
                | false => exact ⟨by show 0 ≤ c * 0; omega, by show c * 0 ≤ 10 ^ 17; omega, fun z => absurd z (by show ¬ 0 < c * 0; omega)⟩
              | succ n => cases hk
        have fin := done (inV (.int (0 + (i : Int) - (i : Int) + (j : Int))) ((lotOf i m).map V.int)) (fun z => by rw [show 0 + (i : Int) - (i : Int) + (j : Int) = (j : Int) by omega] at z; exact z)
        rw [show 0 + (i : Int) - (i : Int) + (j : Int) = 0 + (j : Int) by omega] at fin
        have sml : ∀ b : Bool, CMul c (if b = true then 1 else 0) := fun b => .inr (by cases b <;> decide)
        exact ⟨_, _, rfl, rfl, sml _, fin⟩
      rintro H6 ⟨cs, s6, hF, lc, bc⟩
      have hD6 := s6 _ _ hD5
      have s36 := s35.trans s6
      have s26 := s3'.trans s36
      have ho6 := s36 _ _ ho3
      have g0 : ps[0]? = some ps[0] := List.getElem?_eq_getElem (by omega)
      have z0 := bps _ (List.mem_of_getElem? g0)
      generalize ps[0] = p0 at g0 z0
      have bs := sum_bnd (B := 10 ^ 17) fun x hx => by
        obtain ⟨k, hk⟩ := List.getElem?_of_mem hx
        have := bc k x hk
        exact ⟨this.1, this.2.1⟩
      rw [lc] at bs
      have bs2 : (m : Int) * 10 ^ 17 ≤ 6 * 10 ^ 17 := Int.mul_le_mul_of_nonneg_right (by omega) (by decide)
      refine ⟨_, rfl, D, _, _, _, rfl, rfl, lst_l hD6, atI_nat (int_at g0), _, rfl, F, _, rfl, lst_l hF, _, _, rfl, rfl, ?_⟩
      refine ⟨fun σ' H' => H' = H6 ∧ ∃ td : Int, σ' = [some (.int c), some (.int (m : Int)), some (.int ((m : Int) + 1)), some (.int (0 + (i : Int))), some (.ref d), some (.int bd), some (.ref o), some (.ref D), some (.ref l), some (.ref F), some (.int td), none, none] ∧ 1 ≤ td ∧ cs.sum ≤ td ∧ td ≤ 10 ^ 18, ?_, ?_⟩
      · refine ⟨_, rfl, rfl, _, rfl, ite2 (fun e => ?_) (fun e => ?_)⟩
        · have e : p0 + cs.sum = 0 := V.int.inj (of_decide_eq_true e)
          exact ⟨rfl, 1, rfl, by omega, by omega, by omega⟩
        · have e : ¬ p0 + cs.sum = 0 := fun z => e (decide_eq_true (congrArg V.int z))
          exact ⟨rfl, _, rfl, by omega, by omega, by omega⟩
      rintro σ' H' ⟨rfl, td, rfl, h1, h2, h3⟩
      refine ⟨_, rfl, .inl ⟨rfl, _, lst_l ho6⟩, ?_⟩
      refine ⟨_, rfl, (by show 1 ≤ sizeLine; decide), fun p np => ?_⟩
      have sp := same_upd (o := .lst [V.int td]) np
      refine ⟨_, rfl, p, F, _, _, rfl, rfl, upd_same, sp _ _ hF, ?_, fun u nu => ?_⟩
      · rw [List.length_map]
        exact Nat.le_of_lt (small1000 (by show 1 + cs.length ≤ 1000; omega))
      have su := same_upd (o := .lst ([V.int td] ++ cs.map V.int)) nu
      have s57 := sp.trans su
      have ho7 := s57 _ _ ho6
      have hd7 := s57 _ _ (s36 _ _ hd3)
      refine ⟨o, _, _, rfl, rfl, ho7, by rw [List.length_map]; exact small1000 (by omega), us ++ [u], rows ++ [td :: cs], _, _, _, _, _, rfl, (upd_ne ndo).trans hd7, same_mut (s26.trans s57) no', by rw [upd_same, List.map_append]; rfl, by rw [List.length_append, lu]; rfl, ?_, ?_, fun j r hj => ?_, fun r hr2 => ?_⟩
      · intro z
        rcases List.mem_append.mp z with z | z
        · exact ou z
        · rw [← List.mem_singleton.mp z, sp _ _ ho6] at nu
          cases nu
      · refine RowsL.put (fun z => ?_) (RowsL.snoc (row3.same (s36.trans s57)) (by rw [upd_same]; rfl))
        rcases List.mem_append.mp z with z | z
        · exact ou z
        · rw [← List.mem_singleton.mp z, sp _ _ ho6] at nu
          cases nu
      · by_cases lj : j < rows.length
        · rw [List.getElem?_append_left lj] at hj
          exact ok j r hj
        · rw [List.getElem?_append_right (by omega)] at hj
          obtain ⟨n, hn⟩ : ∃ n, j - rows.length = n := ⟨_, rfl⟩
          rw [hn] at hj
          cases n with
          | zero =>
            have : j = i := by
              have := row.1
              omega
            subst this
            cases hj
            show (decide (cs.length = m) && (cntB (lotOf j m) cs 0 && (decide (td ≥ 1) && decide (cs.sum ≤ td)))) = true
            rw [decide_eq_true lc, decide_eq_true (show td ≥ 1 from h1), decide_eq_true h2, cntB_of (ls := lotOf j m) fun k c hk => by
              have := bc k c hk
              rw [Nat.zero_add]
              exact ⟨this.1, this.2.2⟩]
            rfl
          | succ n => cases hj
      · rcases List.mem_append.mp hr2 with hr2 | hr2
        · exact bdr r hr2
        · rw [List.mem_singleton.mp hr2]
          refine ⟨by rw [List.length_cons, lc], fun x hx => ?_⟩
          rcases List.mem_cons.mp hx with rfl | hx
          · exact ⟨by omega, h3⟩
          · obtain ⟨k, hk⟩ := List.getElem?_of_mem hx
            have := bc k x hk
            exact ⟨this.1, by omega⟩
    · rintro σ H2 ⟨us, rows, y1, y2, y3, y4, y5, rfl, hd, s2, ho, lu, ou, row, ok, bdr⟩
      exact ⟨_, rfl, q H2 o us rows s2 ho row ⟨by rw [hN, ← row.1, lu], ok, bdr⟩⟩
def sp__law_is_int : Sp := fun vs H Q _ => ∃ v : Int, vs = [.int v] ∧ Q (.bl true) H
theorem ok__law_is_int {f : Addr} {fd : FuncData} {C_Tabled C_Ratio C_TooMany C_BadTable C_ZeroBottom C_BadLot C_ShelfError C_NotLists : Addr} (F : Fun K "_law_is_int" "_law_is_int" s__law_is_int f fd) (T : Txt K mg C_Tabled C_Ratio C_TooMany C_BadTable C_ZeroBottom C_BadLot C_ShelfError C_NotLists) (m_bool : mg "bool" = none) (m_int : mg "int" = none) (m_isinstance : mg "isinstance" = none) : FnOk P w K mg base CX0 1 f fd ["_law_x"] sp__law_is_int := by
  refine F.ok sc__law_is_int (fun vs H Q E h => ?_) (fun cdv A outer s H vs Q E hr h => ?_)
  · obtain ⟨v, rfl, _⟩ := h
    rfl
  · obtain ⟨v, rfl, q⟩ := h
    refine ⟨_, (pss_one (ps_ret (pe_and (pe_callB call_isi (by rfl) m_isinstance (by decide +kernel) (pa_cons (pv 0) (pa_cons (pe_bltn (v := .ty "int") (by rfl) m_int (by decide +kernel) rfl) pa_nil))) (pe_one (pe_not (pe_callB call_isi (by rfl) m_isinstance (by decide +kernel) (pa_cons (pv 0) (pa_cons (pe_bltn (v := .ty "bool") (by rfl) m_bool (by decide +kernel) rfl) pa_nil)))))))), ?_⟩
    exact ⟨_, rfl, .int v, .ty "int", _, _, true, rfl, .ty "int", .base (.int v), kit_ty kI, true, rfl, iteT ⟨_, rfl, .int v, .ty "bool", _, _, false, rfl, .ty "bool", .base (.int v), kit_ty kB, false, rfl, q⟩⟩
def sp__law_same (C : Addr) : Sp := fun vs H Q _ => ∃ (p : Addr) (T B t b : Int), vs = [.ref p, .int t, .int b] ∧ RatAt C H p T B ∧ 0 < B ∧ T * b = t * B ∧ CMulW T b ∧ CMulW t B ∧ Q (.bl true) H
theorem ok__law_same {f : Addr} {fd : FuncData} {C_Tabled C_Ratio C_TooMany C_BadTable C_ZeroBottom C_BadLot C_ShelfError C_NotLists : Addr} (F : Fun K "_law_same" "_law_same" s__law_same f fd) (T : Txt K mg C_Tabled C_Ratio C_TooMany C_BadTable C_ZeroBottom C_BadLot C_ShelfError C_NotLists) (m_isinstance : mg "isinstance" = none) (c__law_is_int : Cal P w K mg base CX0 1 "_law_is_int" ["_law_x"] sp__law_is_int) : FnOk P w K mg base CX0 2 f fd ["_law_x", "_law_top", "_law_bottom"] (sp__law_same C_Ratio) := by
  refine F.ok sc__law_same (fun vs H Q E h => ?_) (fun cdv A outer s H vs Q E hr h => ?_)
  · obtain ⟨p, T1, B, t, b, rfl, _⟩ := h
    rfl
  · obtain ⟨p, T1, B, t, b, rfl, ⟨dx, hp⟩, pos, eq, m1, m2, q⟩ := h
    obtain ⟨f__law_is_int, fd__law_is_int, G__law_is_int, m__law_is_int, k__law_is_int, b__law_is_int⟩ := c__law_is_int
    refine ⟨_, (pss_cons (ps_if (pt_not (pt_val (pe_callB call_isi (by rfl) m_isinstance (by decide +kernel) (pa_cons (pv 0) (pa_cons (pe_glob (v := .ref C_Ratio) (by rfl) T.g_Ratio rfl) pa_nil))))) (pss_one (ps_ret pe_bl)) pss_nil)
      (pss_cons (ps_if (PW.pt (pw_or (pt_not (pt_val (pe_call G__law_is_int (hr.mono (by decide)) (by rfl) m__law_is_int k__law_is_int b__law_is_int .nil pass0 (pa_cons (pe_fld (pv 0) rfl) pa_nil)))) (pw_or (pt_not (pt_val (pe_call G__law_is_int (hr.mono (by decide)) (by rfl) m__law_is_int k__law_is_int b__law_is_int .nil pass0 (pa_cons (pe_fld (pv 0) rfl) pa_nil)))) (pw_or1 (pt_cmpR op_lt (pe_fld (pv 0) rfl) pe_int (nomark _)))))) (pss_one (ps_ret pe_bl)) pss_nil)
      (pss_one (ps_ret (pe_cmpR op_eq (pe_op op_mulW (pe_fld (pv 0) rfl) (pv 2)) (pe_op op_mulW (pv 1) (pe_fld (pv 0) rfl)) (nomark _)))))), ?_⟩
    refine ⟨.ref p, rfl, .ref p, .ref C_Ratio, .ref C_Ratio, .ref C_Ratio, true, rfl, .own C_Ratio, .base (.ins hp T.cl_Ratio T.ha_Ratio T.hnc T.htk T.hm_Ratio), T.kit_Ratio_Ratio, true, rfl, iteF ?_⟩
    refine ⟨.ref p, rfl, p, C_Ratio, dx, _, _, rfl, hp, T.cl_Ratio, T.n_Ratio_top, rF_top T1 B, T1, rfl, true, rfl, iteF ?_⟩
    refine ⟨.ref p, rfl, p, C_Ratio, dx, _, _, rfl, hp, T.cl_Ratio, T.n_Ratio_bottom, rF_bot T1 B, B, rfl, true, rfl, iteF ?_⟩
    refine ⟨.ref p, rfl, p, C_Ratio, dx, _, _, rfl, hp, T.cl_Ratio, T.n_Ratio_bottom, rF_bot T1 B, _, _, rfl, rfl, _, rfl, ?_⟩
    rw [decide_eq_false (show ¬ B < 1 by omega)]
    refine iteF ?_
    refine ⟨.ref p, rfl, p, C_Ratio, dx, _, _, rfl, hp, T.cl_Ratio, T.n_Ratio_top, rF_top T1 B, .int b, rfl, T1, b, rfl, rfl, m1, .int t, rfl, .ref p, rfl, p, C_Ratio, dx, _, _, rfl, hp, T.cl_Ratio, T.n_Ratio_bottom, rF_bot T1 B, t, B, rfl, rfl, m2, rfl, ?_⟩
    rw [decide_eq_true (congrArg V.int eq)]
    exact q
def sp__law_plus (K : PySem.W.Frag) : Sp := fun vs H Q _ => ∃ (p r : Addr) (a b c d : Int), vs = [.ref p, .ref r] ∧ H p = some (.tup [.int a, .int b]) ∧ H r = some (.tup [.int c, .int d]) ∧ CMulW a d ∧ CMulW c b ∧ CMulW b d ∧ ∀ z, H z = none → Q (.ref z) (upd H z (.tup [.int (a * d + c * b), .int (b * d)]))
theorem ok__law_plus {f : Addr} {fd : FuncData} {C_Tabled C_Ratio C_TooMany C_BadTable C_ZeroBottom C_BadLot C_ShelfError C_NotLists : Addr} (F : Fun K "_law_plus" "_law_plus" s__law_plus f fd) (T : Txt K mg C_Tabled C_Ratio C_TooMany C_BadTable C_ZeroBottom C_BadLot C_ShelfError C_NotLists) : FnOk P w K mg base CX0 1 f fd ["_law_a", "_law_b"] (sp__law_plus K) := by
  refine F.ok sc__law_plus (fun vs H Q E h => ?_) (fun cdv A outer s H vs Q E hr h => ?_)
  · obtain ⟨p, r, a, b, c, d, rfl, _⟩ := h
    rfl
  · obtain ⟨p, r, a, b, c, d, rfl, hp, hr2, m1, m2, m3, q⟩ := h
    refine ⟨_, (pss_one (ps_ret (pe_tup (pa_cons (pe_op op_add (pe_op op_mulW (pe_ix ix_tup (pv 0) pe_int (fun _ _ => rfl)) (pe_ix ix_tup (pv 1) pe_int (fun _ _ => rfl))) (pe_op op_mulW (pe_ix ix_tup (pv 1) pe_int (fun _ _ => rfl)) (pe_ix ix_tup (pv 0) pe_int (fun _ _ => rfl)))) (pa_cons (pe_op op_mulW (pe_ix ix_tup (pv 0) pe_int (fun _ _ => rfl)) (pe_ix ix_tup (pv 1) pe_int (fun _ _ => rfl))) pa_nil))))), ?_⟩
    refine ⟨_, rfl, p, _, _, _, rfl, rfl, tup_t hp, atI_nat (j := 0) rfl, _, rfl, r, _, _, _, rfl, rfl, tup_t hr2, atI_nat (j := 1) rfl, _, _, rfl, rfl, m1, ?_⟩
    refine ⟨_, rfl, r, _, _, _, rfl, rfl, tup_t hr2, atI_nat (j := 0) rfl, _, rfl, p, _, _, _, rfl, rfl, tup_t hp, atI_nat (j := 1) rfl, _, _, rfl, rfl, m2, _, _, rfl, rfl, ?_⟩
    refine ⟨_, rfl, p, _, _, _, rfl, rfl, tup_t hp, atI_nat (j := 1) rfl, _, rfl, r, _, _, _, rfl, rfl, tup_t hr2, atI_nat (j := 1) rfl, _, _, rfl, rfl, m3, (by show 2 ≤ sizeLine; decide), fun z nz => q z nz⟩
def sp__law_no_lot (K : PySem.W.Frag) : Sp := fun vs H Q _ => ∃ (l : Addr) (ns : List Int) (m : Nat) (w : Int), vs = [.ref l, .int (m : Int), .int w] ∧ H l = some (.tup (ns.map V.int)) ∧ lotB ns (-1) m = true ∧ ns.length ≤ 100 ∧ ∀ H' z (ms : List Int), Same H H' → H' z = some (.tup (ms.map V.int)) → lotB ms (-1) m = false → ms.length ≤ 200 → Q (.ref z) H'
theorem ok__law_no_lot {f : Addr} {fd : FuncData} {C_Tabled C_Ratio C_TooMany C_BadTable C_ZeroBottom C_BadLot C_ShelfError C_NotLists : Addr} (F : Fun K "_law_no_lot" "_law_no_lot" s__law_no_lot f fd) (T : Txt K mg C_Tabled C_Ratio C_TooMany C_BadTable C_ZeroBottom C_BadLot C_ShelfError C_NotLists) (m_len : mg "len" = none) (m_range : mg "range" = none) (m_tuple : mg "tuple" = none) : FnOk P w K mg base CX0 1 f fd ["_law_lot_here", "_law_many", "_law_way"] (sp__law_no_lot K) := by
  refine F.ok sc__law_no_lot (fun vs H Q E h => ?_) (fun cdv A outer s H vs Q E hr h => ?_)
  · obtain ⟨l, ns, m, w, rfl, _⟩ := h
    rfl
  · obtain ⟨l, ns, m, w, rfl, hl, ok, nl, q⟩ := h
    refine ⟨_, (pss_cons (ps_if (pt_cmpR op_eq (pv 2) pe_int (nomark _)) (pss_one (ps_ret (pe_op op_catA (pe_tup (pa_cons (pe_un un_neg pe_int) pa_nil)) (pv 0)))) pss_nil)
      (pss_cons (ps_if (PW.pt (pw_and (pt_cmpR op_eq (pv 2) pe_int (nomark _)) (pw_and1 (pt_cmpR op_gt (pe_callB call_len_seq (by rfl) m_len (by decide +kernel) (pa_cons (pv 0) pa_nil)) pe_int (nomark _))))) (pss_one (ps_ret (pe_op op_catA (pv 0) (pe_tup (pa_cons (pe_ix ix_tup (pv 0) pe_int (fun _ _ => rfl)) pa_nil))))) pss_nil)
      (pss_cons (ps_if (PW.pt (pw_and (pt_cmpR op_eq (pv 2) pe_int (nomark _)) (pw_and1 (pt_cmpR op_gt (pe_callB call_len_seq (by rfl) m_len (by decide +kernel) (pa_cons (pv 0) pa_nil)) pe_int (nomark _))))) (pss_one (ps_ret (pe_callTy call_tuple_of (by rfl) m_tuple (by decide +kernel) (pa_cons (pe_lc (own := [("_law_k", 3)]) (g := (gName 3)) (tt := tYes) rfl sc__law_no_lot.nd (pi_range1 (by rfl) m_range (pa_cons (pe_callB call_len_seq (by rfl) m_len (by decide +kernel) (pa_cons (pv 0) pa_nil)) pa_nil)) (blkOk_by (own := [("_law_k", 3)]) (N := ["_law_lot_here", "_law_many", "_law_way", "_law_k"]) (sc := defScope s__law_no_lot) (by decide +kernel)) (fun _ _ _ _ _ => (pg_name (i := 3) sc__law_no_lot.nd rfl (Or.inl rfl))) (fun _ _ _ _ _ => pts_nil) (fun _ _ _ _ _ => (pe_ix (r := rIxT K) ix_tup (pv 0) (pe_op op_sub (pe_op op_sub (pe_callB (len_inK (K := K) rfl) (by rfl) m_len (by decide +kernel) (pa_cons (pv 0) pa_nil)) pe_int) (pv 3)) (fun _ _ => rfl)))) pa_nil)))) pss_nil)
      (pss_one (ps_ret (pe_op op_catA (pv 0) (pe_tup (pa_cons (pv 1) pa_nil)))))))), ?_⟩
    have q1 : ∀ {H' : Hp} {z : Addr} {ms : List Int}, Same H H' → H' z = some (.tup (ms.map V.int)) → (lotB ms (-1) m = true → False) → ms.length ≤ 200 → Q (.ref z) H' := fun s h b l => q _ _ _ s h (lotB_no b) l
    have dflt : ∀ {H1 : Hp} {p : Addr}, Same H H1 → H1 p = none → rCatA K (.ref l) (.ref p) (upd H1 p (.tup [V.int (m : Int)])) (fun v H' => Q v H') := fun {H1 p} s np => by
      have s1 := s.trans (same_upd (o := .tup [V.int (m : Int)]) np)
      refine cat_any (s1 _ _ hl) upd_same (by rw [List.length_map]; exact Nat.le_of_lt (small2000 (by show ns.length + 1 ≤ 2000; omega))) fun H' z s2 hz => q1 (s1.trans s2) (ms := ns ++ [(m : Int)]) (by rw [hz, List.map_append]; rfl) (fun e => ?_) (by rw [List.length_append]; show ns.length + 1 ≤ 200; omega)
      have := lotB_in e (m : Int) (List.mem_append_right _ List.mem_cons_self)
      omega
    have last : tRet (tOp (rCatA K) (tVar 0) (tTup (tCons (tVar 1) tNil))) { nx := fun x H' => Q V.non H', rt := Q } [some (.ref l), some (.int (m : Int)), some (.int w), none] H := ⟨_, rfl, _, rfl, (by show 1 ≤ sizeLine; decide), fun p np => dflt (Same.refl H) np⟩
    refine ⟨_, rfl, rfl, _, rfl, ite2 (fun e => ?_) (fun e1 => ?_)⟩
    · refine ⟨1, rfl, (by show 1 ≤ sizeLine; decide), fun p np => ⟨_, rfl, ?_⟩⟩
      have s1 := same_upd (o := .tup [V.int (-1)]) np
      refine cat_any upd_same (s1 _ _ hl) (by rw [List.length_map]; exact Nat.le_of_lt (small2000 (by show 1 + ns.length ≤ 2000; omega))) fun H' z s2 hz => q1 (s1.trans s2) (ms := -1 :: ns) hz (fun e => ?_) (by rw [List.length_cons]; omega)
      have := lotB_in e (-1) List.mem_cons_self
      omega
    refine ⟨_, rfl, rfl, _, rfl, ite2 (fun e2 => ⟨_, rfl, l, _, rfl, .inr (tup_t hl), _, _, rfl, rfl, _, rfl, ite2 (fun c => ?_) (fun _ => ?_)⟩) (fun _ => iteF ?_)⟩
    · have c := of_decide_eq_true c
      rw [List.length_map] at c
      cases ns with
      | nil => exact absurd c (by decide)
      | cons n0 r =>
        refine ⟨_, rfl, _, rfl, l, _, _, _, rfl, rfl, tup_t hl, atI_nat (j := 0) rfl, (by show 1 ≤ sizeLine; decide), fun p np => ?_⟩
        have s1 := same_upd (o := .tup [V.int n0]) np
        refine cat_any (s1 _ _ hl) upd_same (by rw [List.length_map]; exact Nat.le_of_lt (small2000 (by show (n0 :: r).length + 1 ≤ 2000; omega))) fun H' z s2 hz => q1 (s1.trans s2) (ms := (n0 :: r) ++ [n0]) (by rw [hz, List.map_append]; rfl) (fun e => ?_) (by rw [List.length_append]; show (n0 :: r).length + 1 ≤ 200; omega)
        have := (List.pairwise_append.mp (lotB_pw e)).2.2 n0 List.mem_cons_self n0 List.mem_cons_self
        omega
    · have e2 : w = 2 := V.int.inj (of_decide_eq_true e2)
      exact ⟨_, rfl, rfl, _, rfl, iteDF (by rw [e2]; decide) (iteF last)⟩
    · refine ⟨_, rfl, rfl, _, rfl, ite2 (fun _ => ⟨_, rfl, l, _, rfl, .inr (tup_t hl), _, _, rfl, rfl, _, rfl, ite2 (fun c => ?_) (fun _ => last)⟩) (fun _ => iteF last)⟩
      have c := of_decide_eq_true c
      rw [List.length_map] at c
      refine ⟨_, rfl, l, _, rfl, .inr (tup_t hl), _, rfl, ?_⟩
      rw [List.length_map]
      refine ⟨by omega, by omega, ?_⟩
      rw [Int.toNat_natCast]
      refine fun D nD => lc_range (lo := 0) (n := ns.length) (fun i H2 => Same H H2 ∧ H2 D = some (.lst ((ns.reverse.take i).map V.int))) ⟨same_upd nD, upd_same⟩ ?_ ?_
      · rintro i H2 hi ⟨s, hD⟩
        refine ⟨rfl, ?_⟩
        refine lc_yes ?_
        refine iteT ?_
        have hj : ns.length - 1 - i < ns.length := by omega
        have g1 : ns[ns.length - 1 - i]? = some ns[ns.length - 1 - i] := List.getElem?_eq_getElem hj
        have g2 : ns.reverse[i]? = some ns[ns.length - 1 - i] := by
          rw [List.getElem?_reverse (by omega)]
          exact g1
        refine ⟨_, rfl, _, rfl, l, _, rfl, .inr (tup_t (s _ _ hl)), _, _, rfl, rfl, _, rfl, _, _, rfl, rfl, l, _, _, _, rfl, rfl, tup_t (s _ _ hl), at_of (j := ns.length - 1 - i) (by rw [List.length_map]; omega) (int_at g1), _, hD, ?_, same_mut s nD, ?_⟩
        · rw [List.length_map, List.length_take, List.length_reverse]
          exact small2000 (by omega)
        · rw [upd_same, List.take_add_one, g2, List.map_append]
          rfl
      rintro H2 ⟨s2, hD⟩
      rw [show ns.reverse.take ns.length = ns.reverse from List.take_of_length_le (by rw [List.length_reverse]; exact Nat.le_refl _)] at hD
      refine ⟨D, _, rfl, .inl ⟨lst_l hD, fun z nz => q1 (s2.trans (same_upd nz)) (ms := ns.reverse) upd_same (fun e => ?_) (by rw [List.length_reverse]; omega)⟩⟩
      have pw1 := lotB_pw ok
      have pw2 := List.pairwise_reverse.mp (lotB_pw e)
      cases ns with
      | nil => exact absurd c (by decide)
      | cons x r =>
        cases r with
        | nil => exact absurd c (by show ¬ (1 : Int) < 1; decide)
        | cons y r2 =>
          have h1 := (List.pairwise_cons.mp pw1).1 y List.mem_cons_self
          have h2 := (List.pairwise_cons.mp pw2).1 y List.mem_cons_self
          omega
def sp__law_alternating : Sp := fun vs H Q _ => ∃ (R l : Addr) (us : List Addr) (rows : List (List Int)) (ns : List Int) (m : Nat) (th : Option Nat), vs = [.ref R, .int (m : Int), .ref l, thV th] ∧ H R = some (.lst (us.map V.ref)) ∧ RowsL H us rows ∧ GoodR m (10 ^ 18) rows ∧ m ≤ 6 ∧ H l = some (.tup (ns.map V.int)) ∧ ns.length ≤ 100 ∧ (∀ t, th = some t → t < m) ∧
  ∀ H' z, Same H H' → H' z = some (.tup [.int (altF m rows ns th (2 ^ m)).1, .int (altF m rows ns th (2 ^ m)).2]) → Q (.ref z) H'
theorem ok__law_alternating {f : Addr} {fd : FuncData} {C_Tabled C_Ratio C_TooMany C_BadTable C_ZeroBottom C_BadLot C_ShelfError C_NotLists : Addr} (F : Fun K "_law_alternating" "_law_alternating" s__law_alternating f fd) (T : Txt K mg C_Tabled C_Ratio C_TooMany C_BadTable C_ZeroBottom C_BadLot C_ShelfError C_NotLists) (m_len : mg "len" = none) (m_range : mg "range" = none) (m_sum : mg "sum" = none) (c__law_lot : Cal P w K mg base CX0 1 "_law_lot" ["_law_bits", "_law_many"] (sp__law_lot K)) (c__law_plus : Cal P w K mg base CX0 1 "_law_plus" ["_law_a", "_law_b"] (sp__law_plus K)) : FnOk P w K mg base CX0 2 f fd ["_law_rows", "_law_many", "_law_lot_here", "_law_thing"] sp__law_alternating := by
  refine F.ok sc__law_alternating (fun vs H Q E h => ?_) (fun cdv A outer s H vs Q E hr h => ?_)
  · obtain ⟨R, l, us, rows, ns, m, th, rfl, _⟩ := h
    rfl
  · obtain ⟨R, l, us, rows, ns, m, th, rfl, hR, row, good, hm, hl, nl, tm, q⟩ := h
    obtain ⟨f__law_lot, fd__law_lot, G__law_lot, m__law_lot, k__law_lot, b__law_lot⟩ := c__law_lot
    obtain ⟨f__law_plus, fd__law_plus, G__law_plus, m__law_plus, k__law_plus, b__law_plus⟩ := c__law_plus
    refine ⟨_, (pss_cons (ps_set (i := 4) sc__law_alternating.nd rfl (Or.inl rfl) (pe_tup (pa_cons pe_int (pa_cons pe_int pa_nil))))
      (pss_cons (ps_for PassesOwn.never rfl (pi_range1 (by rfl) m_range (pa_cons (pe_callB call_len_seq (by rfl) m_len (by decide +kernel) (pa_cons (pv 0) pa_nil)) pa_nil)) (pg_name (i := 5) sc__law_alternating.nd rfl (Or.inl rfl))
      (pss_cons (ps_set (i := 6) sc__law_alternating.nd rfl (Or.inr rfl) (pe_call G__law_lot (hr.mono (by decide)) (by rfl) m__law_lot k__law_lot b__law_lot .nil pass0 (pa_cons (pv 5) (pa_cons (pv 1) pa_nil))))
      (pss_cons (ps_set (i := 7) sc__law_alternating.nd rfl (Or.inl rfl) (pe_ix ix_list (pv 0) (pv 5) (fun _ _ => rfl)))
      (pss_one (ps_if (pt_cmpR op_eq (pe_callB call_len_seq (by rfl) m_len (by decide +kernel) (pa_cons (pe_lc (own := [("_law_k", 9)]) (g := (gName 9)) rfl sc__law_alternating.nd (pi_tup (pv 2)) (blkOk_by (own := [("_law_k", 9)]) (N := ["_law_rows", "_law_many", "_law_lot_here", "_law_thing", "_law_total", "_law_number", "_law_other", "_law_row", "_law_count", "_law_k"]) (sc := defScope s__law_alternating) (by decide +kernel)) (fun _ _ _ _ _ => (pg_name (i := 9) sc__law_alternating.nd rfl (Or.inl rfl))) (fun _ _ _ _ _ => (pts_one (pt_cmpR (r := rIn K false) op_in_seq (pv 9) (pv 6) (by rfl)))) (fun _ _ _ _ _ => (pv 9))) pa_nil)) (pe_callB call_len_seq (by rfl) m_len (by decide +kernel) (pa_cons (pv 2) pa_nil)) (nomark _)) (pss_cons (ps_set (i := 8) sc__law_alternating.nd rfl (Or.inl rfl) (pe_op op_sub (pe_ix ix_list (pv 7) pe_int (fun _ _ => rfl)) (pe_callB (cr_sum rfl) (by rfl) m_sum (by decide +kernel) (pa_cons (pe_slice sl_list (pv 7) (po_some pe_int) po_none) pa_nil))))
      (Evl.pss_cut (ps_if (pt_cmpR op_notN (pv 3) pe_non (nomark _)) (pss_one (ps_set (i := 8) sc__law_alternating.nd rfl (Or.inl rfl) (pe_ix ix_list (pv 7) (pe_op op_add (pv 3) pe_int) (fun _ _ => rfl)))) pss_nil)
      (Evl.pss_cut (ps_if (pt_cmpR op_eq (pe_op op_mod (pe_op op_sub (pe_callB call_len_seq (by rfl) m_len (by decide +kernel) (pa_cons (pv 6) pa_nil)) (pe_callB call_len_seq (by rfl) m_len (by decide +kernel) (pa_cons (pv 2) pa_nil))) pe_int) pe_int (nomark _)) (pss_one (ps_set (i := 8) sc__law_alternating.nd rfl (Or.inl rfl) (pe_un un_neg (pv 8)))) pss_nil)
      (pss_one (ps_set (i := 4) sc__law_alternating.nd rfl (Or.inl rfl) (pe_call G__law_plus (hr.mono (by decide)) (by rfl) m__law_plus k__law_plus b__law_plus .nil pass0 (pa_cons (pv 4) (pa_cons (pe_tup (pa_cons (pv 8) (pa_cons (pe_ix ix_list (pv 7) pe_int (fun _ _ => rfl)) pa_nil))) pa_nil)))))))) pss_nil)))))
      (pss_one (ps_ret (pv 4))))), ?_⟩
    have p64 : 2 ^ m ≤ 64 := Nat.pow_le_pow_right (by decide) hm
    have lrw := good.1
    have ul : us.length = 2 ^ m := row.1.trans good.1
    have facts : ∀ j, j < 2 ^ m → ∃ b ws d us g, RowF m (rows.getD j []) b ws d us g ∧ b ≤ 10 ^ 18 := fun j hj => by
      have hj2 : j < rows.length := by omega
      have h2 : rows[j]? = some rows[j] := List.getElem?_eq_getElem hj2
      have eg : rows.getD j [] = rows[j] := by rw [List.getD_eq_getElem?_getD, h2]; rfl
      obtain ⟨b, ws, d, us, g, F⟩ := row_f (good.2.1 j _ h2)
      rw [eg]
      exact ⟨b, ws, d, us, g, F, ((good.2.2 _ (List.mem_of_getElem? h2)).2 b (by rw [F.er]; exact List.mem_cons_self)).2⟩
    refine ⟨(by show 2 ≤ sizeLine; decide), fun z0 nz0 => ?_⟩
    have s0 := same_upd (o := .tup [V.int 0, V.int 1]) nz0
    refine ⟨_, rfl, R, _, rfl, .inl (lst_l (s0 _ _ hR)), _, rfl, ?_⟩
    rw [List.length_map, ul]
    obtain ⟨N, hN⟩ : ∃ N, 2 ^ m = N := ⟨_, rfl⟩
    rw [hN] at p64 q facts ul lrw ⊢
    refine ⟨by omega, by omega, ?_⟩
    rw [Int.toNat_natCast]
    refine for_range (lo := 0) (n := N) (fun i σ H2 => ∃ (z : Addr) (y1 y2 y3 y4 : Option V), σ = [some (.ref R), some (.int (m : Int)), some (.ref l), some (thV th), some (.ref z), y1, y2, y3, y4, none] ∧ Same H H2 ∧ H2 z = some (.tup [.int (altF m rows ns th i).1, .int (altF m rows ns th i).2])) ⟨z0, none, none, none, none, rfl, s0, upd_same⟩ ?_ ?_
    · rintro i σ H2 hi ⟨z, y1, y2, y3, y4, rfl, s2, hz⟩
      obtain ⟨b, ws, d, us2, g, F, hb⟩ := facts i hi
      have rb := F.rb hb th
      have eB : altF m rows ns th (i + 1) = if subL ns (lotOf (i : Int) m) = true then
          ((altF m rows ns th i).1 * (rows.getD i []).getD 0 0 + sgR ((lotOf (i : Int) m).length - ns.length) (cntR th (rows.getD i [])) * (altF m rows ns th i).2, (altF m rows ns th i).2 * (rows.getD i []).getD 0 0)
        else altF m rows ns th i := rfl
      have h1 : us[i]? = some us[i] := List.getElem?_eq_getElem (by omega)
      have hi2 : i < rows.length := by omega
      have h2 : rows[i]? = some rows[i] := List.getElem?_eq_getElem hi2
      have v1 : (us.map V.ref)[i]? = some (.ref us[i]) := by rw [List.getElem?_map, h1]; rfl
      have eg : rows.getD i [] = rows[i] := by rw [List.getD_eq_getElem?_getD, h2]; rfl
      have hu := s2 _ _ (row.2 i _ _ h1 h2)
      have e0 : (rows.getD i []).getD 0 0 = b := by rw [F.er]; rfl
      have ec : cntR th (rows.getD i []) = cntR th (b :: ws) := by rw [F.er]
      rw [← eg, F.er] at hu
      rw [e0, ec] at eB
      generalize us[i] = u at h1 v1 hu
      refine ⟨_, rfl, _, rfl, (i : Int), m, by rw [Int.zero_add]; rfl, by omega, fun H3 lo s3 nlo hlo => ?_⟩
      have s23 := s2.trans s3
      have hl3 := s23 _ _ hl
      refine ⟨_, rfl, _, rfl, R, _, _, .ref u, rfl, rfl, lst_l (s23 _ _ hR), at_of (Int.zero_add _) v1, ?_⟩
      refine ⟨_, rfl, l, rfl, ⟨_, tup_t hl3⟩, fun D nD => lc_tup (K := K) (a := l) (xs := ns.map V.int) (fun j H4 => Same H3 H4 ∧ H4 D = some (.lst (((ns.take j).filter fun n => inV (.int n) ((lotOf (i : Int) m).map V.int)).map V.int))) ⟨same_upd nD, upd_same⟩ (fun j H4 _ ⟨s, _⟩ => tup_t (s _ _ hl3)) ?_ ?_⟩
      · rintro j x H4 hj ⟨s, hD⟩
        obtain ⟨n, rfl, hjn⟩ := int_of hj
        have tk : (ns.take (j + 1)).filter (fun n => inV (.int n) ((lotOf (i : Int) m).map V.int)) = (ns.take j).filter (fun n => inV (.int n) ((lotOf (i : Int) m).map V.int)) ++ [n].filter fun n => inV (.int n) ((lotOf (i : Int) m).map V.int) := by
          rw [List.take_add_one, hjn, List.filter_append]
          rfl
        refine ⟨rfl, ?_⟩
        refine ⟨_, rfl, _, rfl, lo, _, rfl, .inr (tup_t (s _ _ hlo)), rfl, ints_flat _, _, rfl, ?_⟩
        cases e : inV (.int n) ((lotOf (i : Int) m).map V.int) with
        | true =>
          refine iteT ?_
          refine ⟨_, rfl, _, hD, ?_, same_mut s nD, ?_⟩
          · rw [List.length_map]
            have h1 := List.length_filter_le (fun n => inV (.int n) ((lotOf (i : Int) m).map V.int)) (ns.take j)
            rw [List.length_take] at h1
            exact small2000 (by omega)
          · rw [upd_same, tk, List.filter_cons, if_pos e, List.map_append]
            rfl
        | false =>
          refine iteF ⟨s, ?_⟩
          rw [hD, tk, List.filter_cons, if_neg (by rw [e]; exact Bool.false_ne_true), List.filter_nil, List.append_nil]
      rintro H4 ⟨s4, hD⟩
      rw [List.length_map, List.take_length] at hD
      have s24 := s23.trans s4
      refine ⟨D, _, rfl, .inl (lst_l hD), _, rfl, l, _, rfl, .inr (tup_t (s4 _ _ hl3)), rfl, _, rfl, ?_⟩
      rw [List.length_map, List.length_map]
      have fl : decide (V.int (((ns.filter fun n => inV (.int n) ((lotOf (i : Int) m).map V.int)).length : Nat) : Int) = V.int ((ns.length : Nat) : Int)) = subL ns (lotOf (i : Int) m) := by
        unfold subL
        cases e : ns.all fun n => inV (.int n) ((lotOf (i : Int) m).map V.int) with
        | true =>
          exact decide_eq_true (by rw [filter_len.mpr e])
        | false =>
          refine decide_eq_false fun z => ?_
          have := filter_len.mp (Int.ofNat.inj (V.int.inj z))
          rw [e] at this
          cases this
      rw [fl]
      have hz4 := (s3.trans s4) _ _ hz
      have lol := lotOf_len (i : Int) m
      by_cases cs : subL ns (lotOf (i : Int) m) = true
      · rw [cs]
        rw [if_pos cs] at eB
        refine iteT ?_
        have hu4 := (s3.trans s4) _ _ hu
        refine ⟨_, rfl, u, _, _, _, rfl, rfl, lst_l hu4, atI_nat (j := 0) rfl, ?_⟩
        refine ⟨_, rfl, 1, rfl, u, _, rfl, lst_l hu4, fun S nS => ?_⟩
        rw [show cutV ((b :: ws).map V.int) (some 1) none = ws.map V.int from cut_from1 _]
        have s5 := same_upd (o := .lst (ws.map V.int)) nS
        have hS : upd H4 S (.lst (ws.map V.int)) S = some (.lst (ws.map V.int)) := upd_same
        have hu5 := s5 _ _ hu4
        have hz5 := s5 _ _ hz4
        have hlo5 := (s4.trans s5) _ _ hlo
        have hl5 := (s4.trans s5) _ _ hl3
        have s25 := s24.trans s5
        generalize upd H4 S (.lst (ws.map V.int)) = H5 at s5 hS hu5 hz5 hlo5 hl5 s25 ⊢
        refine ⟨S, ws, rfl, lst_l hS, _, _, rfl, rfl, ?_⟩
        refine ⟨fun σ' H' => H' = H5 ∧ σ' = [some (.ref R), some (.int (m : Int)), some (.ref l), some (thV th), some (.ref z), some (.int (0 + (i : Int))), some (.ref lo), some (.ref u), some (.int (cntR th (b :: ws))), none], ?_, ?_⟩
        · cases th with
          | none => exact ⟨_, rfl, rfl, _, rfl, iteNS rfl ⟨rfl, rfl⟩⟩
          | some t =>
            have tlt := tm t rfl
            have lws := F.lw
            have g1 : (b :: ws)[t + 1]? = some (ws.getD t 0) := by
              rw [List.getElem?_cons_succ, List.getD_eq_getElem?_getD, List.getElem?_eq_getElem (show t < ws.length by omega)]
              rfl
            refine ⟨_, rfl, rfl, _, rfl, iteND (by simp [thV]) ?_⟩
            exact ⟨_, rfl, _, rfl, _, _, rfl, rfl, u, _, _, _, rfl, rfl, lst_l hu5, at_of (j := t + 1) rfl (int_at g1), rfl, rfl⟩
        rintro σ' H6 ⟨rfl, rfl⟩
        refine ⟨fun σ' H' => H' = H6 ∧ σ' = [some (.ref R), some (.int (m : Int)), some (.ref l), some (thV th), some (.ref z), some (.int (0 + (i : Int))), some (.ref lo), some (.ref u), some (.int (sgR ((lotOf (i : Int) m).length - ns.length) (cntR th (b :: ws)))), none], ?_, ?_⟩
        · refine ⟨_, rfl, lo, _, rfl, .inr (tup_t hlo5), _, rfl, l, _, rfl, .inr (tup_t hl5), _, _, rfl, rfl, _, _, rfl, rfl, (show (0 : Int) < 2 by decide), rfl, _, rfl, ?_⟩
          rw [List.length_map, List.length_map]
          unfold sgR
          refine ite2 (fun e => ?_) (fun e => ?_)
          · have e : (((lotOf (i : Int) m).length : Int) - (ns.length : Int)) % 2 = 1 := V.int.inj (of_decide_eq_true e)
            rw [if_pos e]
            exact ⟨_, rfl, _, rfl, rfl, rfl⟩
          · have e : ¬ (((lotOf (i : Int) m).length : Int) - (ns.length : Int)) % 2 = 1 := fun z => e (decide_eq_true (congrArg V.int z))
            rw [if_neg e]
            exact ⟨rfl, rfl⟩
        rintro σ' H7 ⟨rfl, rfl⟩
        obtain ⟨sm1, sm2⟩ := alt_sm2 (m := m) (rows := rows) (ns := ns) (th := th) (n := i) (by omega) fun j hj => by
          obtain ⟨_, _, _, _, _, F2, hb2⟩ := facts j (by omega)
          exact F2.rb hb2 th
        unfold RowB at rb
        rw [e0, ec] at rb
        have sc : Sm (sgR ((lotOf (i : Int) m).length - ns.length) (cntR th (b :: ws))) := sm_of (n := 100) (by rw [sgR_abs]; omega)
        have sb : Sm b := sm_of (n := 100) (by omega)
        refine ⟨_, rfl, _, rfl, _, rfl, u, _, _, _, rfl, rfl, lst_l hu5, atI_nat (j := 0) rfl, (by show 2 ≤ sizeLine; decide), fun t nt => ?_⟩
        have s6 := same_upd (o := .tup [V.int (sgR ((lotOf (i : Int) m).length - ns.length) (cntR th (b :: ws))), V.int b]) nt
        refine ⟨z, t, _, _, _, _, rfl, s6 _ _ hz5, upd_same, sm1.mul sb, sc.mul sm2, sm2.mul sb, fun z2 nz2 => ⟨z2, _, _, _, _, rfl, s25.trans (s6.trans (same_upd nz2)), ?_⟩⟩
        rw [eB]
        exact upd_same
      · have cf : subL ns (lotOf (i : Int) m) = false := by
          cases h : subL ns (lotOf (i : Int) m) with
          | true => exact absurd h cs
          | false => rfl
        rw [cf]
        rw [if_neg cs] at eB
        refine iteF ⟨z, _, _, _, _, rfl, s24, ?_⟩
        rw [eB]
        exact hz4
    · rintro σ H2 ⟨z, y1, y2, y3, y4, rfl, s2, hz⟩
      exact ⟨_, rfl, q H2 z s2 hz⟩
def sp__law_right (C : Addr) : Sp := fun vs H Q _ => ∃ (p R l : Addr) (us : List Addr) (rows : List (List Int)) (ns : List Int) (m : Nat), vs = [.ref p, .ref R, .int (m : Int), .ref l] ∧ TAt C H p m (rows.map divI) ∧ H R = some (.lst (us.map V.ref)) ∧ RowsL H us rows ∧ GoodR m (10 ^ 18) rows ∧ m ≤ 6 ∧ H l = some (.tup (ns.map V.int)) ∧ ns.length ≤ 100 ∧ lotB ns (-1) m = true ∧ ∀ H', Same H H' → Q (.bl true) H'
theorem ok__law_right {f : Addr} {fd : FuncData} {C_Tabled C_Ratio C_TooMany C_BadTable C_ZeroBottom C_BadLot C_ShelfError C_NotLists : Addr} (F : Fun K "_law_right" "_law_right" s__law_right f fd) (T : Txt K mg C_Tabled C_Ratio C_TooMany C_BadTable C_ZeroBottom C_BadLot C_ShelfError C_NotLists) (c__law_alternating : Cal P w K mg base CX0 2 "_law_alternating" ["_law_rows", "_law_many", "_law_lot_here", "_law_thing"] sp__law_alternating) (c_alternating : Cal P w K mg base (L2.CX P w) 7 "alternating" ["table", "lot", "thing"] (sp_alternating K C_Tabled C_Ratio C_BadLot)) (c__law_same : Cal P w K mg base CX0 2 "_law_same" ["_law_x", "_law_top", "_law_bottom"] (sp__law_same C_Ratio)) : FnOk P w K mg base CX0 8 f fd ["_law_table_here", "_law_rows", "_law_many", "_law_lot_here"] (sp__law_right C_Tabled) := by
  refine F.ok sc__law_right (fun vs H Q E h => ?_) (fun cdv A outer s H vs Q E hr h => ?_)
  · obtain ⟨p, R, l, us, rows, ns, m, rfl, _⟩ := h
    rfl
  · obtain ⟨p, R, l, us, rows, ns, m, rfl, la, hR, row, good, hm, hl, nl, ok, q⟩ := h
    obtain ⟨f__law_alternating, fd__law_alternating, G__law_alternating, m__law_alternating, k__law_alternating, b__law_alternating⟩ := c__law_alternating
    obtain ⟨f_alternating, fd_alternating, G_alternating, m_alternating, k_alternating, b_alternating⟩ := c_alternating
    obtain ⟨f__law_same, fd__law_same, G__law_same, m__law_same, k__law_same, b__law_same⟩ := c__law_same
    refine ⟨_, (pss_cons (ps_set (i := 4) sc__law_right.nd rfl (Or.inl rfl) (pe_op op_catA (pe_tup (pa_cons pe_non pa_nil)) (pv 3)))
      (Evl.pss_cut (ps_if (pt_cmpR op_gt (pv 2) pe_int (nomark _)) (pss_one (ps_set (i := 4) sc__law_right.nd rfl (Or.inl rfl) (pe_op op_catA (pe_tup (pa_cons pe_non pa_nil)) (pe_slice sl_tupA (pv 3) po_none (po_some pe_int))))) pss_nil)
      (pss_cons (ps_for PassesOwn.never rfl (pi_tup (pv 4)) (pg_name (i := 5) sc__law_right.nd rfl (Or.inl rfl))
      (pss_cons (ps_set (i := 6) sc__law_right.nd rfl (Or.inl rfl) (pe_call G__law_alternating (hr.mono (by decide)) (by rfl) m__law_alternating k__law_alternating b__law_alternating .nil pass0 (pa_cons (pv 1) (pa_cons (pv 2) (pa_cons (pv 3) (pa_cons (pv 5) pa_nil))))))
      (pss_one (ps_if (pt_not (pt_val (pe_call G__law_same (hr.mono (by decide)) (by rfl) m__law_same k__law_same b__law_same .nil pass0 (pa_cons (pe_call G_alternating (hr.mono (by decide)) (by rfl) m_alternating k_alternating b_alternating .nil passL (pa_cons (pv 0) (pa_cons (pv 3) (pa_cons (pv 5) pa_nil)))) (pa_cons (pe_ix ix_tup (pv 6) pe_int (fun _ _ => rfl)) (pa_cons (pe_ix ix_tup (pv 6) pe_int (fun _ _ => rfl)) pa_nil)))))) (pss_one (ps_ret pe_bl)) pss_nil))))
      (pss_one (ps_ret pe_bl))))), ?_⟩
    have p64 : 2 ^ m ≤ 64 := Nat.pow_le_pow_right (by decide) hm
    have inl := lotB_in ok
    have okx : ∀ {ms : List Int}, (∀ n ∈ ms, n ∈ ns) → ∀ x ∈ V.non :: ms.map V.int, ∃ th : Option Nat, x = thV th ∧ ∀ t, th = some t → t < m := fun {ms} sub x hx => by
      rcases List.mem_cons.mp hx with rfl | hx
      · exact ⟨none, rfl, fun t z => by cases z⟩
      · obtain ⟨n, hn, rfl⟩ := List.mem_map.mp hx
        have := inl n (sub n hn)
        refine ⟨some n.toNat, ?_, fun t z => ?_⟩
        · show V.int n = V.int ((n.toNat : Nat) : Int)
          rw [Int.toNat_of_nonneg (by omega)]
        · cases z
          omega
    refine ⟨(by show 1 ≤ sizeLine; decide), fun t0 nt0 => ⟨_, rfl, ?_⟩⟩
    have s0 := same_upd (o := .tup [V.non]) nt0
    refine cat_any upd_same (s0 _ _ hl) (by rw [List.length_map]; exact Nat.le_of_lt (small2000 (by show 1 + ns.length ≤ 2000; omega))) fun H1 t1 s1 ht1 => ?_
    have s01 := s0.trans s1
    refine ⟨fun σ' H' => ∃ (t : Addr) (ms : List Int), σ' = [some (.ref p), some (.ref R), some (.int (m : Int)), some (.ref l), some (.ref t), none, none] ∧ Same H H' ∧ H' t = some (.tup (V.non :: ms.map V.int)) ∧ ms.length ≤ 100 ∧ ∀ n ∈ ms, n ∈ ns, ?_, ?_⟩
    · refine ⟨_, rfl, _, _, rfl, rfl, _, rfl, ite2 (fun _ => ?_) (fun _ => ⟨t1, ns, rfl, s01, ht1, nl, fun _ h => h⟩)⟩
      refine ⟨(by show 1 ≤ sizeLine; decide), fun t2 nt2 => ⟨_, rfl, 1, rfl, ?_⟩⟩
      have s2 := s01.trans (same_upd (o := .tup [V.non]) nt2)
      refine sl_any (s2 _ _ hl) fun H3 w s3 hw => ?_
      have e1 : cutV (ns.map V.int) none (some 1) = (ns.take 1).map V.int := (cut_to (ns.map V.int) 1).trans (List.map_take ..).symm
      rw [e1] at hw
      refine cat_any (s3 _ _ upd_same) hw (by rw [List.length_map, List.length_take]; exact Nat.le_of_lt (small2000 (by show 1 + min 1 ns.length ≤ 2000; omega))) fun H4 t4 s4 ht4 => ?_
      exact ⟨t4, ns.take 1, rfl, (s2.trans s3).trans s4, ht4, by rw [List.length_take]; omega, fun n h => List.mem_of_mem_take h⟩
    rintro σ' H2 ⟨t, ms, rfl, s2, ht, lms, sub⟩
    have okm := okx sub
    refine ⟨_, rfl, t, rfl, ⟨_, tup_t ht⟩, for_tup (K := K) (a := t) (xs := V.non :: ms.map V.int) (fun i σ H3 => ∃ (y1 y2 : Option V), σ = [some (.ref p), some (.ref R), some (.int (m : Int)), some (.ref l), some (.ref t), y1, y2] ∧ Same H2 H3) ⟨none, none, rfl, Same.refl _⟩ (fun i σ H3 _ ⟨_, _, _, s⟩ => tup_t (s _ _ ht)) ?_ ?_⟩
    · rintro i x σ H3 hi ⟨y1, y2, rfl, s3⟩
      obtain ⟨th, rfl, tm⟩ := okm x (List.mem_of_getElem? hi)
      have s23 := s2.trans s3
      refine ⟨_, rfl, _, rfl, _, rfl, _, rfl, R, l, us, rows, ns, m, th, rfl, s23 _ _ hR, row.same s23, good, hm, s23 _ _ hl, nl, tm, fun H4 z s4 hz => ?_⟩
      have s24 := s23.trans s4
      refine ⟨_, rfl, _, rfl, _, rfl, p, l, rows, ns, m, th, rfl, la.same s24, s24 _ _ hl, hm, by omega, good.1, good.2.1, good.top, tm, fun e => (by rw [ok] at e; cases e), fun _ H5 r T1 B1 s5 rr lo => ?_⟩
      have hz5 := s5 _ _ hz
      obtain ⟨d1, d2, d3, d4⟩ := alt_sm (n := 2 ^ m) p64 (good.rb th) lo
      obtain ⟨sm1, sm2⟩ := alt_sm2 (m := m) (rows := rows) (ns := ns) (th := th) (n := 2 ^ m) p64 (good.rb th)
      refine ⟨_, rfl, z, _, _, _, rfl, rfl, tup_t hz5, atI_nat (j := 0) rfl, _, rfl, z, _, _, _, rfl, rfl, tup_t hz5, atI_nat (j := 1) rfl, ?_⟩
      exact ⟨r, T1, B1, _, _, rfl, rr, d2, lo.eq, (sm_of (n := 3900) d3).mul sm2, sm1.mul (sm_of (n := 3900) d4), true, rfl, iteF ⟨_, _, rfl, (s3.trans s4).trans s5⟩⟩
    · rintro σ H3 ⟨y1, y2, rfl, s3⟩
      exact q H3 (s2.trans s3)
def sp__law_refuses (C : Addr) : Sp := fun vs H Q _ => ∃ (p l : Addr) (rows : List (List Int)) (ns : List Int) (m : Nat), vs = [.ref p, .ref l] ∧ TAt C H p m (rows.map divI) ∧ GoodR m (10 ^ 18) rows ∧ m ≤ 6 ∧ H l = some (.tup (ns.map V.int)) ∧ ns.length ≤ 200 ∧ lotB ns (-1) m = false ∧ Q (.bl true) H
theorem ok__law_refuses {f : Addr} {fd : FuncData} {C_Tabled C_Ratio C_TooMany C_BadTable C_ZeroBottom C_BadLot C_ShelfError C_NotLists : Addr} (F : Fun K "_law_refuses" "_law_refuses" s__law_refuses f fd) (T : Txt K mg C_Tabled C_Ratio C_TooMany C_BadTable C_ZeroBottom C_BadLot C_ShelfError C_NotLists) (c_alternating : Cal P w K mg base (L2.CX P w) 7 "alternating" ["table", "lot", "thing"] (sp_alternating K C_Tabled C_Ratio C_BadLot)) : FnOk P w K mg base CX0 8 f fd ["_law_table_here", "_law_lot_here"] (sp__law_refuses C_Tabled) := by
  refine F.ok sc__law_refuses (fun vs H Q E h => ?_) (fun cdv A outer s H vs Q E hr h => ?_)
  · obtain ⟨p, l, rows, ns, m, rfl, _⟩ := h
    rfl
  · obtain ⟨p, l, rows, ns, m, rfl, la, good, hm, hl, nl, bad, q⟩ := h
    obtain ⟨f_alternating, fd_alternating, G_alternating, m_alternating, k_alternating, b_alternating⟩ := c_alternating
    refine ⟨_, (pss_cons (ps_try_only (Wout := fun _ _ _ _ => False) rfl rfl ⟨rfl, by decide, Or.inl T.g_BadLot⟩ takes0
      (fun W pn xe tk _ => (pss_one (ps_expr (pe_callS G_alternating (hr.mono (by decide)) (by rfl) m_alternating k_alternating b_alternating (fun σ => passAt tk σ) (pa_cons (pv 0) (pa_cons (pv 1) (pa_cons pe_non pa_nil)))))))
      (fun a oe cls d pn hz hf => (pss_one (ps_ret pe_bl))))
      (pss_one (ps_ret pe_bl))), ?_⟩
    refine ⟨_, rfl, _, rfl, p, l, rows, ns, m, none, rfl, la, hl, hm, by omega, good.1, good.2.1, good.top, (fun t z => by cases z), fun _ => ?_, fun e => (by rw [bad] at e; cases e)⟩
    exact ⟨true, T.exm_BadLot_BadLot, fun _ a0 na => q, fun z => Bool.noConfusion z⟩
def sp__law_classes (C : Addr) : Sp := fun vs H Q _ => ∃ (p l : Addr) (rows : List (List Int)) (ns : List Int) (m : Nat), vs = [.ref p, .ref l] ∧ TAt C H p m (rows.map divI) ∧ GoodR m (10 ^ 18) rows ∧ m ≤ 6 ∧ H l = some (.tup (ns.map V.int)) ∧ ns.length ≤ 200 ∧ lotB ns (-1) m = false ∧ ∀ H' t, Same H H' → H' t = some (.lst [.bl true, .bl true, .bl false, .bl false]) → Q (.ref t) H'
theorem ok__law_classes {f : Addr} {fd : FuncData} {C_Tabled C_Ratio C_TooMany C_BadTable C_ZeroBottom C_BadLot C_ShelfError C_NotLists : Addr} (F : Fun K "_law_classes" "_law_classes" s__law_classes f fd) (T : Txt K mg C_Tabled C_Ratio C_TooMany C_BadTable C_ZeroBottom C_BadLot C_ShelfError C_NotLists) (m_ValueError : mg "ValueError" = none) (m_isinstance : mg "isinstance" = none) (c_alternating : Cal P w K mg base (L2.CX P w) 7 "alternating" ["table", "lot", "thing"] (sp_alternating K C_Tabled C_Ratio C_BadLot)) : FnOk P w K mg base CX0 8 f fd ["_law_table_here", "_law_lot_here"] (sp__law_classes C_Tabled) := by
  refine F.ok sc__law_classes (fun vs H Q E h => ?_) (fun cdv A outer s H vs Q E hr h => ?_)
  · obtain ⟨p, l, rows, ns, m, rfl, _⟩ := h
    rfl
  · obtain ⟨p, l, rows, ns, m, rfl, la, good, hm, hl, nl, bad, q⟩ := h
    obtain ⟨f_alternating, fd_alternating, G_alternating, m_alternating, k_alternating, b_alternating⟩ := c_alternating
    refine ⟨_, (pss_cons (ps_try_as (i := 2) (Wout := fun _ _ _ _ => False) rfl rfl sc__law_classes.nd rfl rfl ⟨rfl, by decide, Or.inl T.g_ShelfError⟩ takes0
      (fun W pn xe tk _ => (pss_one (ps_expr (pe_callS G_alternating (hr.mono (by decide)) (by rfl) m_alternating k_alternating b_alternating (fun σ => passAt tk σ) (pa_cons (pv 0) (pa_cons (pv 1) (pa_cons pe_non pa_nil)))))))
      (fun a oe cls d pn hz hf => (pss_one (ps_ret (pe_lst (pa_cons (pe_callB (call_isX (K := K) hz hf) (by rfl) m_isinstance (by decide +kernel) (pa_cons (pv 2) (pa_cons (pe_bltn (v := .ty "ValueError") (by rfl) m_ValueError (by decide +kernel) rfl) pa_nil))) (pa_cons (pe_callB (call_isX (K := K) hz hf) (by rfl) m_isinstance (by decide +kernel) (pa_cons (pv 2) (pa_cons (pe_glob (v := .ref C_BadLot) (by rfl) T.g_BadLot rfl) pa_nil))) (pa_cons (pe_callB (call_isX (K := K) hz hf) (by rfl) m_isinstance (by decide +kernel) (pa_cons (pv 2) (pa_cons (pe_glob (v := .ref C_BadTable) (by rfl) T.g_BadTable rfl) pa_nil))) (pa_cons (pe_callB (call_isX (K := K) hz hf) (by rfl) m_isinstance (by decide +kernel) (pa_cons (pv 2) (pa_cons (pe_glob (v := .ref C_NotLists) (by rfl) T.g_NotLists rfl) pa_nil))) pa_nil)))))))))
      (pss_one (ps_ret (pe_lst pa_nil)))), ?_⟩
    refine ⟨_, rfl, _, rfl, p, l, rows, ns, m, none, rfl, la, hl, hm, by omega, good.1, good.2.1, good.top, (fun t z => by cases z), fun _ => ?_, fun e => (by rw [bad] at e; cases e)⟩
    refine ⟨true, T.exm_BadLot_ShelfError, fun _ a0 na => ?_, fun z => Bool.noConfusion z⟩
    refine ⟨.ref a0, rfl, C_BadLot, T.ec_BadLot, rfl, rfl, .ty "ValueError", .type "ValueError", true, rfl, fun _ r => r, T.kit_BadLot_ValueError, ?_⟩
    refine ⟨.ref a0, rfl, C_BadLot, T.ec_BadLot, rfl, rfl, .ref C_BadLot, .ref C_BadLot, true, rfl, fun _ r => r, T.kit_BadLot_BadLot, ?_⟩
    refine ⟨.ref a0, rfl, C_BadLot, T.ec_BadLot, rfl, rfl, .ref C_BadTable, .ref C_BadTable, false, rfl, fun _ r => r, T.kit_BadLot_BadTable, ?_⟩
    refine ⟨.ref a0, rfl, C_BadLot, T.ec_BadLot, rfl, rfl, .ref C_NotLists, .ref C_NotLists, false, rfl, fun _ r => r, T.kit_BadLot_NotLists, (by show 4 ≤ sizeLine; decide), fun t nt => q _ t (same_upd nt) upd_same⟩
def sp_law (K : PySem.W.Frag) : Sp := fun vs H Q _ => ∃ (a : Addr) (ns : List Int), vs = [.ref a] ∧ SqL K H a (ns.map V.int) ∧ ns.length ≤ 63 ∧ ∀ H', Q (.bl true) H'

theorem ok_law {f : Addr} {fd : FuncData} {C_Tabled C_Ratio C_TooMany C_BadTable C_ZeroBottom C_BadLot C_ShelfError C_NotLists : Addr} (F : Fun K "law" "law" s_law f fd) (T : Txt K mg C_Tabled C_Ratio C_TooMany C_BadTable C_ZeroBottom C_BadLot C_ShelfError C_NotLists) (m_list : mg "list" = none) (c__law_cell : Cal P w K mg base CX0 1 "_law_cell" ["_law_script", "_law_place"] (sp__law_cell K)) (c__law_draws : Cal P w K mg base CX0 1 "_law_draws" ["_law_cell_here", "_law_sizes"] (sp__law_draws K)) (c__law_lot : Cal P w K mg base CX0 1 "_law_lot" ["_law_bits", "_law_many"] (sp__law_lot K)) (c__law_table : Cal P w K mg base CX0 2 "_law_table" ["_law_cell_here", "_law_many"] sp__law_table) (c_Tabled___init__ : CalI P w K mg base (L2.CX P w) 5 C_Tabled ["self", "many", "rows"] (sp_Tabled___init__ C_Tabled C_TooMany C_BadTable) []) (c__law_right : Cal P w K mg base CX0 8 "_law_right" ["_law_table_here", "_law_rows", "_law_many", "_law_lot_here"] (sp__law_right C_Tabled)) (c__law_no_lot : Cal P w K mg base CX0 1 "_law_no_lot" ["_law_lot_here", "_law_many", "_law_way"] (sp__law_no_lot K)) (c__law_refuses : Cal P w K mg base CX0 8 "_law_refuses" ["_law_table_here", "_law_lot_here"] (sp__law_refuses C_Tabled)) (c__law_classes : Cal P w K mg base CX0 8 "_law_classes" ["_law_table_here", "_law_lot_here"] (sp__law_classes C_Tabled)) : FnOk P w K mg base CX0 9 f fd ["_law_script"] (sp_law K) := by
  refine F.ok sc_law (fun vs H Q E h => ?_) (fun cdv A outer s H vs Q E hr h => ?_)
  · obtain ⟨a, ns, rfl, _⟩ := h
    rfl
  · obtain ⟨a, ns, rfl, hS, hlen, q⟩ := h
    obtain ⟨f__law_cell, fd__law_cell, G__law_cell, m__law_cell, k__law_cell, b__law_cell⟩ := c__law_cell
    obtain ⟨f__law_draws, fd__law_draws, G__law_draws, m__law_draws, k__law_draws, b__law_draws⟩ := c__law_draws
    obtain ⟨f__law_lot, fd__law_lot, G__law_lot, m__law_lot, k__law_lot, b__law_lot⟩ := c__law_lot
    obtain ⟨f__law_table, fd__law_table, G__law_table, m__law_table, k__law_table, b__law_table⟩ := c__law_table
    obtain ⟨f_Tabled___init__, fd_Tabled___init__, G_Tabled___init__, M_Tabled___init__, b_Tabled___init__, ds_Tabled___init__, vd_Tabled___init__, bd_Tabled___init__⟩ := c_Tabled___init__
    obtain ⟨f__law_right, fd__law_right, G__law_right, m__law_right, k__law_right, b__law_right⟩ := c__law_right
    obtain ⟨f__law_no_lot, fd__law_no_lot, G__law_no_lot, m__law_no_lot, k__law_no_lot, b__law_no_lot⟩ := c__law_no_lot
    obtain ⟨f__law_refuses, fd__law_refuses, G__law_refuses, m__law_refuses, k__law_refuses, b__law_refuses⟩ := c__law_refuses
    obtain ⟨f__law_classes, fd__law_classes, G__law_classes, m__law_classes, k__law_classes, b__law_classes⟩ := c__law_classes
    refine ⟨_, (pss_cons (ps_set (i := 1) sc_law.nd rfl (Or.inl rfl) (pe_call G__law_draws (hr.mono (by decide)) (by rfl) m__law_draws k__law_draws b__law_draws .nil pass0 (pa_cons (pe_call G__law_cell (hr.mono (by decide)) (by rfl) m__law_cell k__law_cell b__law_cell .nil pass0 (pa_cons (pv 0) (pa_cons pe_int pa_nil))) (pa_cons (pe_lst (pa_cons pe_int (pa_cons pe_int (pa_cons pe_int pa_nil)))) pa_nil))))
      (pss_cons (ps_set (i := 2) sc_law.nd rfl (Or.inl rfl) (pe_ix ix_list (pe_lst (pa_cons pe_int (pa_cons pe_int (pa_cons pe_int (pa_cons pe_int (pa_cons pe_int (pa_cons pe_int (pa_cons pe_int (pa_cons pe_int (pa_cons pe_int (pa_cons pe_int (pa_cons pe_int (pa_cons pe_int (pa_cons pe_int (pa_cons pe_int (pa_cons pe_int (pa_cons pe_int pa_nil))))))))))))))))) (pe_ix ix_list (pv 1) pe_int (fun _ _ => rfl)) (fun _ _ => rfl)))
      (pss_cons (ps_set (i := 3) sc_law.nd rfl (Or.inl rfl) (pe_call G__law_lot (hr.mono (by decide)) (by rfl) m__law_lot k__law_lot b__law_lot .nil pass0 (pa_cons (pe_ix ix_list (pv 1) pe_int (fun _ _ => rfl)) (pa_cons (pv 2) pa_nil))))
      (pss_cons (ps_set (i := 4) sc_law.nd rfl (Or.inl rfl) (pe_call G__law_table (hr.mono (by decide)) (by rfl) m__law_table k__law_table b__law_table .nil pass0 (pa_cons (pe_call G__law_cell (hr.mono (by decide)) (by rfl) m__law_cell k__law_cell b__law_cell .nil pass0 (pa_cons (pv 0) (pa_cons pe_int pa_nil))) (pa_cons (pv 2) pa_nil))))
      (pss_cons (ps_set (i := 5) sc_law.nd rfl (Or.inl rfl) (pe_call G__law_table (hr.mono (by decide)) (by rfl) m__law_table k__law_table b__law_table .nil pass0 (pa_cons (pe_call G__law_cell (hr.mono (by decide)) (by rfl) m__law_cell k__law_cell b__law_cell .nil pass0 (pa_cons (pv 0) (pa_cons pe_int pa_nil))) (pa_cons (pv 2) pa_nil))))
      (pss_cons (ps_setLc (i := 6) (own := [("_law_row", 10)]) (g := (gName 10)) (tt := tYes) rfl sc_law.nd rfl rfl (sw_true rfl rfl rfl (by decide +kernel)) (pi_list (pv 4)) (blkOk_by (own := [("_law_row", 10)]) (N := ["_law_script", "_law_d", "_law_many", "_law_lot_here", "_law_first", "_law_second", "_law_passed", "_law_one", "_law_two", "_law_none", "_law_row"]) (sc := defScope s_law) (by decide +kernel)) (fun _ _ _ _ _ => (pg_name (i := 10) sc_law.nd rfl (Or.inl rfl))) (fun _ _ _ _ _ => pts_nil) (fun _ _ _ _ _ => (pe_callTy (T := "list") (r := rListOf K) call_list_of (by rfl) m_list (by decide +kernel) (pa_cons (pv 10) pa_nil))))
      (pss_cons (ps_set (i := 7) sc_law.nd rfl (Or.inl rfl) (pe_make M_Tabled___init__ G_Tabled___init__ (hr.mono (by decide)) (by rfl) T.g_Tabled b_Tabled___init__ .nil passL (pa_cons (pv 2) (pa_cons (pv 6) pa_nil))))
      (pss_cons (ps_set (i := 8) sc_law.nd rfl (Or.inl rfl) (pe_make M_Tabled___init__ G_Tabled___init__ (hr.mono (by decide)) (by rfl) T.g_Tabled b_Tabled___init__ .nil passL (pa_cons (pv 2) (pa_cons (pe_lc (own := [("_law_row", 10)]) (g := (gName 10)) (tt := tYes) rfl sc_law.nd (pi_list (pv 5)) (blkOk_by (own := [("_law_row", 10)]) (N := ["_law_script", "_law_d", "_law_many", "_law_lot_here", "_law_first", "_law_second", "_law_passed", "_law_one", "_law_two", "_law_none", "_law_row"]) (sc := defScope s_law) (by decide +kernel)) (fun _ _ _ _ _ => (pg_name (i := 10) sc_law.nd rfl (Or.inl rfl))) (fun _ _ _ _ _ => pts_nil) (fun _ _ _ _ _ => (pe_callTy (T := "list") (r := rListOf K) call_list_of (by rfl) m_list (by decide +kernel) (pa_cons (pv 10) pa_nil)))) pa_nil))))
      (pss_cons (ps_if (PW.pt (pw_or (pt_not (pt_val (pe_call G__law_right (hr.mono (by decide)) (by rfl) m__law_right k__law_right b__law_right .nil pass0 (pa_cons (pv 7) (pa_cons (pv 4) (pa_cons (pv 2) (pa_cons (pv 3) pa_nil))))))) (pw_or1 (pt_not (pt_val (pe_call G__law_right (hr.mono (by decide)) (by rfl) m__law_right k__law_right b__law_right .nil pass0 (pa_cons (pv 8) (pa_cons (pv 5) (pa_cons (pv 2) (pa_cons (pv 3) pa_nil)))))))))) (pss_one (ps_ret pe_bl)) pss_nil)
      (pss_cons (ps_set (i := 9) sc_law.nd rfl (Or.inl rfl) (pe_call G__law_no_lot (hr.mono (by decide)) (by rfl) m__law_no_lot k__law_no_lot b__law_no_lot .nil pass0 (pa_cons (pv 3) (pa_cons (pv 2) (pa_cons (pe_ix ix_list (pv 1) pe_int (fun _ _ => rfl)) pa_nil)))))
      (pss_cons (ps_if (PW.pt (pw_or (pt_not (pt_val (pe_call G__law_refuses (hr.mono (by decide)) (by rfl) m__law_refuses k__law_refuses b__law_refuses .nil pass0 (pa_cons (pv 7) (pa_cons (pv 9) pa_nil))))) (pw_or1 (pt_cmpR (op_neD hr.units) (pe_call G__law_classes (hr.mono (by decide)) (by rfl) m__law_classes k__law_classes b__law_classes .nil pass0 (pa_cons (pv 8) (pa_cons (pv 9) pa_nil))) (pe_lst (pa_cons pe_bl (pa_cons pe_bl (pa_cons pe_bl (pa_cons pe_bl pa_nil))))) (nomark _))))) (pss_one (ps_ret pe_bl)) pss_nil)
      (pss_one (ps_ret (pe_and (pe_call G__law_right (hr.mono (by decide)) (by rfl) m__law_right k__law_right b__law_right .nil pass0 (pa_cons (pv 7) (pa_cons (pv 4) (pa_cons (pv 2) (pa_cons (pv 3) pa_nil))))) (pe_one (pe_cmpR (op_eqD hr.units) (pv 6) (pv 4) (nomark _))))))))))))))))), ?_⟩
    refine ⟨.ref a, rfl, a, ns, 0, rfl, hS, fun c1 => ?_⟩
    refine ⟨(by show 3 ≤ sizeLine; decide), fun p1 np1 => ?_⟩
    refine ⟨c1, p1, [16, 64, 4], rfl, lst_l upd_same, by decide, by decide, fun dsd1 H1 d1 wd1 s1 nd1 hd1 => ?_⟩
    have s1 : Same H H1 := (same_upd np1).trans s1
    have nd1 : H d1 = none := (same_upd np1).free nd1
    obtain ⟨x0, rx0, rfl, lx0, ux0, wd1⟩ := wd1.c
    obtain ⟨x1, rx1, rfl, lx1, ux1, wd1⟩ := wd1.c
    obtain ⟨x2, rx2, rfl, lx2, ux2, wd1⟩ := wd1.c
    cases wd1.n
    have Ld1 : SqL K H1 d1 ([x0, x1, x2].map V.int) := lst_l hd1
    obtain ⟨m, em, m6⟩ := many48 x0 (by omega) (by omega)
    have p64 : 2 ^ m ≤ 64 := Nat.pow_le_pow_right (by decide) m6
    refine ⟨(by show 16 ≤ sizeLine; decide), fun pm npm => ?_⟩
    have sm1 := same_upd (o := .lst [V.int 0, V.int 1, V.int 2, V.int 3, V.int 4, V.int 1, V.int 2, V.int 3, V.int 4, V.int 2, V.int 3, V.int 4, V.int 3, V.int 4, V.int 5, V.int 6]) npm
    refine ⟨.ref d1, rfl, d1, _, _, _, rfl, rfl, (sm1.seq Ld1), atI_nat (j := 0) rfl, pm, _, _, _, rfl, rfl, lst_l upd_same, em, ?_⟩
    have s2 := s1.trans sm1
    have Ld2 := sm1.seq Ld1
    generalize upd H1 pm (.lst [V.int 0, V.int 1, V.int 2, V.int 3, V.int 4, V.int 1, V.int 2, V.int 3, V.int 4, V.int 2, V.int 3, V.int 4, V.int 3, V.int 4, V.int 5, V.int 6]) = H2 at s2 Ld2 ⊢
    refine ⟨.ref d1, rfl, d1, _, _, _, rfl, rfl, Ld2, atI_nat (j := 1) rfl, _, rfl, x1, m, rfl, by omega, fun H3 l s3 nlx hl => ?_⟩
    have ok := lotOf_lot x1 m
    have lol := lotOf_len x1 m
    have s03 := s2.trans s3
    refine ⟨.ref a, rfl, a, ns, 1, rfl, s03.seq hS, fun c2 => ⟨_, rfl, c2, m, rfl, m6, fun H4 R us rows s4 hR rowR goodR => ?_⟩⟩
    have s04 := s03.trans s4
    refine ⟨.ref a, rfl, a, ns, 2, rfl, s04.seq hS, fun c3 => ⟨_, rfl, c3, m, rfl, m6, fun H5 R2 us2 rows2 s5 hR2 rowR2 goodR2 => ?_⟩⟩
    have hR5 := s5 _ _ hR
    have row5 := rowR.same s5
    have lcm := goodR.1
    have lcm2 := goodR2.1
    have lcu : us.length = rows.length := rowR.1
    have lcu2 : us2.length = rows2.length := rowR2.1
    have hl5 := (s4.trans s5) _ _ hl
    have Ld5 := ((s3.trans s4).trans s5).seq Ld2
    refine ⟨_, rfl, R, rfl, ⟨_, lst_l hR5⟩, fun D nD => lc_list (K := K) (a := R) (xs := us.map V.ref) (fun i H7 => ∃ vs0 : List Addr, Same H5 H7 ∧ H7 D = some (.lst (vs0.map V.ref)) ∧ vs0.length = i ∧ D ∉ vs0 ∧ RowsL H7 vs0 (rows.take i)) ⟨[], same_upd nD, upd_same, rfl, (by simp), ⟨rfl, fun i u r h => by cases h⟩⟩ (fun i H7 _ ⟨_, s, _⟩ => lst_l (s _ _ hR5)) ?_ ?_⟩
    · rintro i x H7 hi ⟨vs0, s, hR, lu, ou, rw0⟩
      have i1 : i < us.length := by
        have := (List.getElem?_eq_some_iff.mp hi).1
        rw [List.length_map] at this
        exact this
      have h1 : us[i]? = some us[i] := List.getElem?_eq_getElem i1
      have h2 : rows[i]? = some rows[i] := List.getElem?_eq_getElem (by have := (row5).1; omega)
      rw [List.getElem?_map, h1] at hi
      cases hi
      have hu := s _ _ ((row5).2 i _ _ h1 h2)
      refine ⟨rfl, ?_⟩
      refine lc_yes ?_
      refine iteT ?_
      refine ⟨_, rfl, us[i], _, rfl, .inl (lst_l hu), fun v nv => ?_⟩
      have sv := same_upd (o := .lst (rows[i].map V.int)) nv
      have hR7 := sv _ _ hR
      have no : D ∉ vs0 ++ [v] := fun z => by
        rcases List.mem_append.mp z with z | z
        · exact ou z
        · rw [← List.mem_singleton.mp z, hR] at nv
          cases nv
      refine ⟨_, hR7, ?_, vs0 ++ [v], same_mut (s.trans sv) nD, ?_, ?_, no, ?_⟩
      · rw [List.length_map]
        exact small1000 (by omega)
      · rw [upd_same, List.map_append]
        rfl
      · rw [List.length_append, lu]
        rfl
      · rw [List.take_add_one, h2]
        exact RowsL.put no (RowsL.snoc (rw0.same sv) upd_same)
    rintro H6 ⟨vs, s6, hD, lvs, oD, rowD⟩
    rw [List.length_map, show us.length = rows.length from (row5).1, List.take_length] at rowD
    rw [List.length_map] at lvs

    have lvd : vs.length = rows.length := rowD.1
    refine ⟨_, rfl, _, rfl, fun x dx nx ndx _ => ⟨x, dx, D, vs, rows, m, rfl, upd_same, made1 nx ndx _ _ hD, (rowD).same (made1 nx ndx), by omega, goodR.wide (by omega) (by decide), fun n e => absurd ((made_all (by omega) goodR.1 goodR.2.1).symm.trans e) (by simp), fun e => absurd ((made_all (by omega) goodR.1 goodR.2.1).symm.trans e) (by simp), fun n e => absurd ((made_all (by omega) goodR.1 goodR.2.1).symm.trans e) (by simp), fun _ Hb sx la => ⟨rfl, ?_⟩⟩⟩
    have s67 := sameX_made nx ndx sx
    have s57 := s6.trans s67
    have hR7 := s57 _ _ hR5
    have row7 := row5.same s57
    have hR27 := s57 _ _ hR2
    have row27 := rowR2.same s57
    have hl7 := s57 _ _ hl5
    have hD7 := s67 _ _ hD
    have rowD7 := rowD.same s67
    have Ld7 := s57.seq Ld5
    refine ⟨_, rfl, ?_⟩
    refine ⟨_, rfl, R2, rfl, ⟨_, lst_l hR27⟩, fun D2 nD2 => lc_list (K := K) (a := R2) (xs := us2.map V.ref) (fun i H7 => ∃ vs0 : List Addr, Same Hb H7 ∧ H7 D2 = some (.lst (vs0.map V.ref)) ∧ vs0.length = i ∧ D2 ∉ vs0 ∧ RowsL H7 vs0 (rows2.take i)) ⟨[], same_upd nD2, upd_same, rfl, (by simp), ⟨rfl, fun i u r h => by cases h⟩⟩ (fun i H7 _ ⟨_, s, _⟩ => lst_l (s _ _ hR27)) ?_ ?_⟩
    · rintro i x H7 hi ⟨vs0, s, hR, lu, ou, rw0⟩
      have i1 : i < us2.length := by
        have := (List.getElem?_eq_some_iff.mp hi).1
        rw [List.length_map] at this
        exact this
      have h1 : us2[i]? = some us2[i] := List.getElem?_eq_getElem i1
      have h2 : rows2[i]? = some rows2[i] := List.getElem?_eq_getElem (by have := (row27).1; omega)
      rw [List.getElem?_map, h1] at hi
      cases hi
      have hu := s _ _ ((row27).2 i _ _ h1 h2)
      refine ⟨rfl, ?_⟩
      refine lc_yes ?_
      refine iteT ?_
      refine ⟨_, rfl, us2[i], _, rfl, .inl (lst_l hu), fun v nv => ?_⟩
      have sv := same_upd (o := .lst (rows2[i].map V.int)) nv
      have hR7 := sv _ _ hR
      have no : D2 ∉ vs0 ++ [v] := fun z => by
        rcases List.mem_append.mp z with z | z
        · exact ou z
        · rw [← List.mem_singleton.mp z, hR] at nv
          cases nv
      refine ⟨_, hR7, ?_, vs0 ++ [v], same_mut (s.trans sv) nD2, ?_, ?_, no, ?_⟩
      · rw [List.length_map]
        exact small1000 (by omega)
      · rw [upd_same, List.map_append]
        rfl
      · rw [List.length_append, lu]
        rfl
      · rw [List.take_add_one, h2]
        exact RowsL.put no (RowsL.snoc (rw0.same sv) upd_same)
    rintro H8 ⟨vs2, s8, hD2, lvs2, oD2, rowD2⟩
    rw [List.length_map, show us2.length = rows2.length from (row27).1, List.take_length] at rowD2
    rw [List.length_map] at lvs2

    have lvd2 : vs2.length = rows2.length := rowD2.1
    refine fun y dy ny ndy _ => ⟨y, dy, D2, vs2, rows2, m, rfl, upd_same, made1 ny ndy _ _ hD2, (rowD2).same (made1 ny ndy), by omega, goodR2.wide (by omega) (by decide), fun n e => absurd ((made_all (by omega) goodR2.1 goodR2.2.1).symm.trans e) (by simp), fun e => absurd ((made_all (by omega) goodR2.1 goodR2.2.1).symm.trans e) (by simp), fun n e => absurd ((made_all (by omega) goodR2.1 goodR2.2.1).symm.trans e) (by simp), fun _ H9 sx2 lay => ⟨rfl, ?_⟩⟩
    have s89 := sameX_made ny ndy sx2
    have s79 := s8.trans s89
    have la9 := la.same s79
    have hR9 := s79 _ _ hR7
    have row9 := row7.same s79
    have hR29 := s79 _ _ hR27
    have row29 := row27.same s79
    have hl9 := s79 _ _ hl7
    have hD9 := s79 _ _ hD7
    have rowD9 := rowD7.same s79
    have Ld9 := s79.seq Ld7
    refine ⟨_, rfl, _, rfl, _, rfl, _, rfl, x, R, l, us, rows, lotOf x1 m, m, rfl, la9, hR9, row9, goodR, m6, hl9, by omega, ok, fun H10 s10 => ⟨true, rfl, iteF ?_⟩⟩
    refine ⟨_, rfl, _, rfl, _, rfl, _, rfl, y, R2, l, us2, rows2, lotOf x1 m, m, rfl, lay.same s10, s10 _ _ hR29, row29.same s10, goodR2, m6, s10 _ _ hl9, by omega, ok, fun H11 s11 => ⟨true, rfl, iteF ?_⟩⟩
    have s911 := s10.trans s11
    refine ⟨_, rfl, _, rfl, .ref d1, rfl, d1, _, _, _, rfl, rfl, (s911.seq Ld9), atI_nat (j := 2) rfl, l, lotOf x1 m, m, x2, rfl, s911 _ _ hl9, ok, by omega, fun H12 z ms s12 hz bad lms => ?_⟩
    have s912 := s911.trans s12
    refine ⟨_, rfl, _, rfl, x, z, rows, ms, m, rfl, la9.same s912, goodR, m6, hz, lms, bad, true, rfl, iteF ?_⟩
    have dpc : ∀ {Hx : Hp}, DpAll K Hx [V.bl true, V.bl true, V.bl false, V.bl false] [.bool true, .bool true, .bool false, .bool false] := fun {Hx} => .cons (.bl _) (.cons (.bl _) (.cons (.bl _) (.cons (.bl _) .nil)))
    refine ⟨_, rfl, _, rfl, y, z, rows2, ms, m, rfl, lay.same s912, goodR2, m6, hz, lms, bad, fun H13 t13 s13 ht13 => ⟨(by show 4 ≤ sizeLine; decide), fun t14 nt14 => ?_⟩⟩
    have s14 := same_upd (o := .lst [V.bl true, V.bl true, V.bl false, V.bl false]) nt14
    refine ⟨_, _, .lst (lst_l (s14 _ _ ht13)) dpc, .lst (lst_l upd_same) dpc, cls_shaped, cls_shaped, false, ?_, iteF ?_⟩
    · rw [SeqAt.eqv_refl _ (SeqAt.canLay_of_shaped cls_shaped)]
      rfl
    have s914 := s912.trans (s13.trans s14)
    refine ⟨_, rfl, _, rfl, _, rfl, _, rfl, x, R, l, us, rows, lotOf x1 m, m, rfl, la9.same s914, s914 _ _ hR9, row9.same s914, goodR, m6, s914 _ _ hl9, by omega, ok, fun H15 s15 => ⟨true, rfl, iteT ?_⟩⟩
    have s915 := s914.trans s15
    refine ⟨_, rfl, _, rfl, _, _, .lst (lst_l (s915 _ _ hD9)) (dp_all (rowD9.same s915)), .lst (lst_l (s915 _ _ hR9)) (dp_all (row9.same s915)), sh_rows _, sh_rows _, ?_⟩
    rw [SeqAt.eqv_refl _ (SeqAt.canLay_of_shaped (sh_rows _))]
    exact q _
end
/-! ### what the top has written; the law's own head -/
theorem all_mk {l : PySem.W.OpenLaw} {w : World} {K : PySem.W.Frag} {h : Heap} {mg : Str → Option Value} {fa f1 f2 f3 f4 f5 f6 f7 f8 f9 f10 f11 f12 f13 f14 f15 f16 f17 f18 f19 f20 f21 f22 f23 f24 f25 f26 f27 f28 f29 f30 f31 f32 f33 f34 f35 C_Tabled C_Ratio C_TooMany C_BadTable C_ZeroBottom C_BadLot C_ShelfError C_NotLists fx_rf_Ratio_add fx_of_Ratio_add fx_rf_Ratio_sub fx_of_Ratio_sub : Addr} (X : K.In h) (G : h.Ns mainGlobals mg) (hfa : mg "law" = some (.ref fa))
    {od1 an1 od2 an2 od3 an3 od4 an4 od5 an5 od6 an6 od7 an7 od8 an8 od9 an9 od10 an10 od11 an11 od12 an12 od13 an13 od14 an14 od15 an15 od16 an16 od17 an17 od18 an18 od19 an19 od20 an20 od21 an21 od22 an22 od23 an23 od24 an24 od25 an25 od26 an26 od27 an27 od28 an28 od29 an29 od30 an30 od31 an31 od32 an32 od33 an33 od34 an34 od35 an35 : Option Addr} {sl1 sl2 sl3 sl4 sl5 sl6 sl7 sl8 sl9 sl10 sl11 sl12 sl13 sl14 sl15 sl16 sl17 sl18 sl19 sl20 sl21 sl22 sl23 sl24 sl25 sl26 sl27 sl28 sl29 sl30 sl31 sl32 sl33 sl34 sl35 : Array (Option Value)} {oc1 kV1 dc1 pm1 cd1 ct1 oc2 kV2 dc2 pm2 cd2 ct2 oc3 kV3 dc3 pm3 cd3 ct3 oc4 kV4 dc4 pm4 cd4 ct4 oc5 kV5 dc5 pm5 cd5 ct5 oc6 kV6 dc6 pm6 cd6 ct6 oc7 kV7 dc7 pm7 cd7 ct7 oc8 kV8 dc8 pm8 cd8 ct8 oc9 kV9 dc9 pm9 cd9 ct9 oc10 kV10 dc10 pm10 cd10 ct10 oc11 kV11 dc11 pm11 cd11 ct11 oc12 kV12 dc12 pm12 ct12 oc13 kV13 dc13 pm13 cd13 ct13 oc14 kV14 dc14 pm14 cd14 ct14 oc15 kV15 dc15 pm15 cd15 ct15 oc16 kV16 dc16 pm16 cd16 ct16 oc17 kV17 dc17 pm17 cd17 ct17 oc18 kV18 dc18 pm18 cd18 ct18 oc19 kV19 dc19 pm19 cd19 ct19 oc20 kV20 dc20 pm20 cd20 ct20 oc21 kV21 dc21 pm21 cd21 ct21 oc22 kV22 dc22 pm22 cd22 ct22 oc23 kV23 dc23 pm23 cd23 ct23 oc24 kV24 dc24 pm24 cd24 ct24 oc25 kV25 dc25 pm25 cd25 ct25 oc26 kV26 dc26 pm26 cd26 ct26 oc27 kV27 dc27 pm27 cd27 ct27 oc28 kV28 dc28 pm28 cd28 ct28 oc29 kV29 dc29 pm29 cd29 ct29 oc30 kV30 dc30 pm30 cd30 ct30 oc31 kV31 dc31 pm31 cd31 ct31 oc32 kV32 dc32 pm32 cd32 ct32 oc33 kV33 dc33 pm33 cd33 ct33 oc34 kV34 dc34 pm34 cd34 ct34 oc35 kV35 dc35 pm35 cd35 ct35 : Value} {tk_MOST_THINGS : Tok} {tk_MOST_TABLED_THINGS : Tok} {cc12 cda12 : Addr} {cl12 ccl12 : Value} {cld12 cdd12 : Option Addr} {csl12 ccs12 : Array (Option Value)} {vs12 : Array Value} {fi12 : Str} {tf12 : Tok} {cdW12 : ClassData} {tT13 : Addr} {oT13 : Value} {dT13 : Option Addr} {nT13 : Nat} {sT13 : Array (Option Value)} {tq13_0 : Tok}
    (a_Tabled : PySem.W.nsIn K mainGlobals "Tabled" = some (some (.ref C_Tabled)))
    (kc_Tabled : PySem.W.keepIn K (.ref C_Tabled) = true)
    (hd_Tabled : PySem.W.hasDictIn K C_Tabled = true)
    (ha_Tabled : PySem.W.findIn K (.ref C_Tabled) "__class__" = some (some (.builtin "object.__class__")))
    (hm_Tabled : PySem.W.mroIn K C_Tabled (.type "object") = some true)
    (pg_Tabled : PySem.W.plainGet K C_Tabled Str.empty = true)
    (po_Tabled : PySem.W.plainOver K C_Tabled = true)
    (sa_Tabled : PySem.W.findIn K (.ref C_Tabled) "__setattr__" = some (some (.builtin "object.__setattr__")))
    (mk_Tabled : PySem.W.makesIn K C_Tabled = true)
    (n_Tabled_many : PySem.W.findIn K (.ref C_Tabled) "many" = some none)
    (n_Tabled_rows : PySem.W.findIn K (.ref C_Tabled) "rows" = some none)
    (a_Ratio : PySem.W.nsIn K mainGlobals "Ratio" = some (some (.ref C_Ratio)))
    (kc_Ratio : PySem.W.keepIn K (.ref C_Ratio) = true)
    (hd_Ratio : PySem.W.hasDictIn K C_Ratio = true)
    (ha_Ratio : PySem.W.findIn K (.ref C_Ratio) "__class__" = some (some (.builtin "object.__class__")))
    (hm_Ratio : PySem.W.mroIn K C_Ratio (.type "object") = some true)
    (pg_Ratio : PySem.W.plainGet K C_Ratio Str.empty = true)
    (po_Ratio : PySem.W.plainOver K C_Ratio = true)
    (sa_Ratio : PySem.W.findIn K (.ref C_Ratio) "__setattr__" = some (some (.builtin "object.__setattr__")))
    (mk_Ratio : PySem.W.makesIn K C_Ratio = true)
    (n_Ratio_top : PySem.W.findIn K (.ref C_Ratio) "top" = some none)
    (n_Ratio_bottom : PySem.W.findIn K (.ref C_Ratio) "bottom" = some none)
    (ss_Ratio : PySem.W.subIn K (.ref C_Ratio) (.type "str") = some false)
    (sb_Ratio : PySem.W.subIn K (.ref C_Ratio) (.type "bytes") = some false)
    (sy_Ratio : PySem.W.subIn K (.ref C_Ratio) (.type "bytearray") = some false)
    (sf_Ratio : PySem.W.selfFirst K C_Ratio = true)
    (si_Ratio : PySem.W.subIn K (.type "int") (.ref C_Ratio) = some false)
    (sr_Ratio : PySem.W.subIn K (.ref C_Ratio) (.type "int") = some false)
    (rf_Ratio_add : PySem.W.findIn K (.ref C_Ratio) "__radd__" = some (some (.ref fx_rf_Ratio_add)))
    (of_Ratio_add : PySem.W.findIn K (.ref C_Ratio) "__add__" = some (some (.ref fx_of_Ratio_add)))
    (inta_add : PySem.W.findIn K (.type "int") "__add__" = some (some (.builtin "int.__add__")))
    (intr_add : PySem.W.findIn K (.type "int") "__radd__" = some (some (.builtin "int.__radd__")))
    (rf_Ratio_sub : PySem.W.findIn K (.ref C_Ratio) "__rsub__" = some (some (.ref fx_rf_Ratio_sub)))
    (of_Ratio_sub : PySem.W.findIn K (.ref C_Ratio) "__sub__" = some (some (.ref fx_of_Ratio_sub)))
    (inta_sub : PySem.W.findIn K (.type "int") "__sub__" = some (some (.builtin "int.__sub__")))
    (intr_sub : PySem.W.findIn K (.type "int") "__rsub__" = some (some (.builtin "int.__rsub__")))
    (a_TooMany : PySem.W.nsIn K mainGlobals "TooMany" = some (some (.ref C_TooMany)))
    (kc_TooMany : PySem.W.keepIn K (.ref C_TooMany) = true)
    (hd_TooMany : PySem.W.hasDictIn K C_TooMany = true)
    (ha_TooMany : PySem.W.findIn K (.ref C_TooMany) "__class__" = some (some (.builtin "object.__class__")))
    (hm_TooMany : PySem.W.mroIn K C_TooMany (.type "object") = some true)
    (b_TooMany : PySem.W.subIn K (.ref C_TooMany) (.type "BaseException") = some true)
    (t_TooMany : PySem.W.typeIn K (.ref C_TooMany) = some (.type "type"))
    (ga_TooMany : PySem.W.findIn K (.ref C_TooMany) "__getattribute__" = some (some (.builtin "BaseException.__getattribute__")))
    (gg_TooMany : PySem.W.findIn K (.ref C_TooMany) "__getattr__" = some none)
    (ol_TooMany : K.lookup C_TooMany = some (excClassObj nm_TooMany q_TooMany C_TooMany N_TooMany bs_TooMany bm_TooMany true sn_TooMany sub_TooMany ab_TooMany col_TooMany dd_TooMany k0_TooMany k1_TooMany k2_TooMany k3_TooMany k5_TooMany "ValueError.__new__"))
    (or_TooMany : PySem.HandSPX.refsVE bm_TooMany = true)
    (sa_TooMany : PySem.W.findIn K (.ref C_TooMany) "__setattr__" = some (some (.builtin "object.__setattr__")))
    (n_TooMany_many : PySem.W.findIn K (.ref C_TooMany) "many" = some none)
    (n_TooMany_most : PySem.W.findIn K (.ref C_TooMany) "most" = some none)
    (a_BadTable : PySem.W.nsIn K mainGlobals "BadTable" = some (some (.ref C_BadTable)))
    (kc_BadTable : PySem.W.keepIn K (.ref C_BadTable) = true)
    (hd_BadTable : PySem.W.hasDictIn K C_BadTable = true)
    (ha_BadTable : PySem.W.findIn K (.ref C_BadTable) "__class__" = some (some (.builtin "object.__class__")))
    (hm_BadTable : PySem.W.mroIn K C_BadTable (.type "object") = some true)
    (b_BadTable : PySem.W.subIn K (.ref C_BadTable) (.type "BaseException") = some true)
    (t_BadTable : PySem.W.typeIn K (.ref C_BadTable) = some (.type "type"))
    (ga_BadTable : PySem.W.findIn K (.ref C_BadTable) "__getattribute__" = some (some (.builtin "BaseException.__getattribute__")))
    (gg_BadTable : PySem.W.findIn K (.ref C_BadTable) "__getattr__" = some none)
    (ol_BadTable : K.lookup C_BadTable = some (excClassObj nm_BadTable q_BadTable C_BadTable N_BadTable bs_BadTable bm_BadTable true sn_BadTable sub_BadTable ab_BadTable col_BadTable dd_BadTable k0_BadTable k1_BadTable k2_BadTable k3_BadTable k5_BadTable "ValueError.__new__"))
    (or_BadTable : PySem.HandSPX.refsVE bm_BadTable = true)
    (sa_BadTable : PySem.W.findIn K (.ref C_BadTable) "__setattr__" = some (some (.builtin "object.__setattr__")))
    (n_BadTable_at : PySem.W.findIn K (.ref C_BadTable) "at" = some none)
    (a_ZeroBottom : PySem.W.nsIn K mainGlobals "ZeroBottom" = some (some (.ref C_ZeroBottom)))
    (kc_ZeroBottom : PySem.W.keepIn K (.ref C_ZeroBottom) = true)
    (hd_ZeroBottom : PySem.W.hasDictIn K C_ZeroBottom = true)
    (ha_ZeroBottom : PySem.W.findIn K (.ref C_ZeroBottom) "__class__" = some (some (.builtin "object.__class__")))
    (hm_ZeroBottom : PySem.W.mroIn K C_ZeroBottom (.type "object") = some true)
    (b_ZeroBottom : PySem.W.subIn K (.ref C_ZeroBottom) (.type "BaseException") = some true)
    (t_ZeroBottom : PySem.W.typeIn K (.ref C_ZeroBottom) = some (.type "type"))
    (ga_ZeroBottom : PySem.W.findIn K (.ref C_ZeroBottom) "__getattribute__" = some (some (.builtin "BaseException.__getattribute__")))
    (gg_ZeroBottom : PySem.W.findIn K (.ref C_ZeroBottom) "__getattr__" = some none)
    (x_ZeroBottom : PySem.W.excIn K C_ZeroBottom [.type "ValueError", .type "Exception", .type "BaseException", .type "object"] "ValueError.__new__" = true)
    (a_BadLot : PySem.W.nsIn K mainGlobals "BadLot" = some (some (.ref C_BadLot)))
    (kc_BadLot : PySem.W.keepIn K (.ref C_BadLot) = true)
    (hd_BadLot : PySem.W.hasDictIn K C_BadLot = true)
    (ha_BadLot : PySem.W.findIn K (.ref C_BadLot) "__class__" = some (some (.builtin "object.__class__")))
    (hm_BadLot : PySem.W.mroIn K C_BadLot (.type "object") = some true)
    (b_BadLot : PySem.W.subIn K (.ref C_BadLot) (.type "BaseException") = some true)
    (t_BadLot : PySem.W.typeIn K (.ref C_BadLot) = some (.type "type"))
    (ga_BadLot : PySem.W.findIn K (.ref C_BadLot) "__getattribute__" = some (some (.builtin "BaseException.__getattribute__")))
    (gg_BadLot : PySem.W.findIn K (.ref C_BadLot) "__getattr__" = some none)
    (x_BadLot : PySem.W.excIn K C_BadLot [.type "ValueError", .type "Exception", .type "BaseException", .type "object"] "ValueError.__new__" = true)
    (a_ShelfError : PySem.W.nsIn K mainGlobals "ShelfError" = some (some (.ref C_ShelfError)))
    (kc_ShelfError : PySem.W.keepIn K (.ref C_ShelfError) = true)
    (hd_ShelfError : PySem.W.hasDictIn K C_ShelfError = true)
    (ha_ShelfError : PySem.W.findIn K (.ref C_ShelfError) "__class__" = some (some (.builtin "object.__class__")))
    (hm_ShelfError : PySem.W.mroIn K C_ShelfError (.type "object") = some true)
    (b_ShelfError : PySem.W.subIn K (.ref C_ShelfError) (.type "BaseException") = some true)
    (t_ShelfError : PySem.W.typeIn K (.ref C_ShelfError) = some (.type "type"))
    (ga_ShelfError : PySem.W.findIn K (.ref C_ShelfError) "__getattribute__" = some (some (.builtin "BaseException.__getattribute__")))
    (gg_ShelfError : PySem.W.findIn K (.ref C_ShelfError) "__getattr__" = some none)
    (a_NotLists : PySem.W.nsIn K mainGlobals "NotLists" = some (some (.ref C_NotLists)))
    (kc_NotLists : PySem.W.keepIn K (.ref C_NotLists) = true)
    (hd_NotLists : PySem.W.hasDictIn K C_NotLists = true)
    (ha_NotLists : PySem.W.findIn K (.ref C_NotLists) "__class__" = some (some (.builtin "object.__class__")))
    (hm_NotLists : PySem.W.mroIn K C_NotLists (.type "object") = some true)
    (b_NotLists : PySem.W.subIn K (.ref C_NotLists) (.type "BaseException") = some true)
    (t_NotLists : PySem.W.typeIn K (.ref C_NotLists) = some (.type "type"))
    (ga_NotLists : PySem.W.findIn K (.ref C_NotLists) "__getattribute__" = some (some (.builtin "BaseException.__getattribute__")))
    (gg_NotLists : PySem.W.findIn K (.ref C_NotLists) "__getattr__" = some none)
    (hnc : PySem.W.specialIn K (.builtin "object.__class__") "__get__" = some (some (.builtin "getset_descriptor.__get__")))
    (htk : PySem.W.takesIn K (.builtin "object.__class__") = some true)
    (sub_BadLot_BadLot : PySem.W.subIn K (.ref C_BadLot) (.ref C_BadLot) = some true)
    (sub_BadLot_ShelfError : PySem.W.subIn K (.ref C_BadLot) (.ref C_ShelfError) = some true)
    (kit_Ratio_Ratio : PySem.W.kitOne K (.ref C_Ratio) (.ref C_Ratio) = some true)
    (kit_int_Ratio : PySem.W.kitOne K (.type "int") (.ref C_Ratio) = some false)
    (kit_BadLot_ValueError : PySem.W.kitOne K (.ref C_BadLot) (.type "ValueError") = some true)
    (kit_BadLot_BadLot : PySem.W.kitOne K (.ref C_BadLot) (.ref C_BadLot) = some true)
    (kit_BadLot_BadTable : PySem.W.kitOne K (.ref C_BadLot) (.ref C_BadTable) = some false)
    (kit_BadLot_NotLists : PySem.W.kitOne K (.ref C_BadLot) (.ref C_NotLists) = some false)
    (a_gcd : PySem.W.nsIn K mainGlobals "gcd" = some (some (.builtin "math.gcd")))
    (a_MOST_THINGS : PySem.W.nsIn K mainGlobals "MOST_THINGS" = some (some (.int 24 tk_MOST_THINGS)))
    (a_MOST_TABLED_THINGS : PySem.W.nsIn K mainGlobals "MOST_TABLED_THINGS" = some (some (.int 6 tk_MOST_TABLED_THINGS)))
    (a1 : PySem.W.findIn K (.ref C_TooMany) "__init__" = some (some (.ref f1))) (i1 : PySem.W.isFn K (.ref f1) = true)
    (l1 : K.lookup f1 = some ⟨oc1, od1, .func (PySem.W.fnOf "__init__" "TooMany.__init__" (defArgs s_TooMany___init__) (defBody s_TooMany___init__) (defScope s_TooMany___init__) .none kV1 dc1 pm1 an1 cd1 ct1), sl1⟩)
    (c1 : PySem.W.codeIn K cd1 "TooMany.__init__" = true) (k1 : PySem.W.keepIn K (.ref f1) = true)
    (a2 : PySem.W.findIn K (.ref C_BadTable) "__init__" = some (some (.ref f2))) (i2 : PySem.W.isFn K (.ref f2) = true)
    (l2 : K.lookup f2 = some ⟨oc2, od2, .func (PySem.W.fnOf "__init__" "BadTable.__init__" (defArgs s_BadTable___init__) (defBody s_BadTable___init__) (defScope s_BadTable___init__) .none kV2 dc2 pm2 an2 cd2 ct2), sl2⟩)
    (c2 : PySem.W.codeIn K cd2 "BadTable.__init__" = true) (k2 : PySem.W.keepIn K (.ref f2) = true)
    (a3 : PySem.W.nsIn K mainGlobals "check_many" = some (some (.ref f3)))
    (l3 : K.lookup f3 = some ⟨oc3, od3, .func (PySem.W.fnOf "check_many" "check_many" (defArgs s_check_many) (defBody s_check_many) (defScope s_check_many) .none kV3 dc3 pm3 an3 cd3 ct3), sl3⟩)
    (c3 : PySem.W.codeIn K cd3 "check_many" = true) (k3 : PySem.W.keepIn K (.ref f3) = true)
    (sg4_Tabled : PySem.W.ks_superIn K C_Tabled C_Tabled "__init__" = some (some (.ref f4)))
    (l4 : K.lookup f4 = some ⟨oc4, od4, .func (PySem.W.fnOf "__init__" "Rule.__init__" (defArgs s_Rule___init__) (defBody s_Rule___init__) (defScope s_Rule___init__) .none kV4 dc4 pm4 an4 cd4 ct4), sl4⟩)
    (c4 : PySem.W.codeIn K cd4 "Rule.__init__" = true) (k4 : PySem.W.keepIn K (.ref f4) = true)
    (a5 : PySem.W.nsIn K mainGlobals "check_lot" = some (some (.ref f5)))
    (l5 : K.lookup f5 = some ⟨oc5, od5, .func (PySem.W.fnOf "check_lot" "check_lot" (defArgs s_check_lot) (defBody s_check_lot) (defScope s_check_lot) .none kV5 dc5 pm5 an5 cd5 ct5), sl5⟩)
    (c5 : PySem.W.codeIn K cd5 "check_lot" = true) (k5 : PySem.W.keepIn K (.ref f5) = true)
    (a6 : PySem.W.nsIn K mainGlobals "lot_number" = some (some (.ref f6)))
    (l6 : K.lookup f6 = some ⟨oc6, od6, .func (PySem.W.fnOf "lot_number" "lot_number" (defArgs s_lot_number) (defBody s_lot_number) (defScope s_lot_number) .none kV6 dc6 pm6 an6 cd6 ct6), sl6⟩)
    (c6 : PySem.W.codeIn K cd6 "lot_number" = true) (k6 : PySem.W.keepIn K (.ref f6) = true)
    (a7 : PySem.W.nsIn K mainGlobals "lot_at" = some (some (.ref f7)))
    (l7 : K.lookup f7 = some ⟨oc7, od7, .func (PySem.W.fnOf "lot_at" "lot_at" (defArgs s_lot_at) (defBody s_lot_at) (defScope s_lot_at) .none kV7 dc7 pm7 an7 cd7 ct7), sl7⟩)
    (c7 : PySem.W.codeIn K cd7 "lot_at" = true) (k7 : PySem.W.keepIn K (.ref f7) = true)
    (a8 : PySem.W.nsIn K mainGlobals "lots" = some (some (.ref f8)))
    (l8 : K.lookup f8 = some ⟨oc8, od8, .func (PySem.W.fnOf "lots" "lots" (defArgs s_lots) (defBody s_lots) (defScope s_lots) .none kV8 dc8 pm8 an8 cd8 ct8), sl8⟩)
    (c8 : PySem.W.codeIn K cd8 "lots" = true) (k8 : PySem.W.keepIn K (.ref f8) = true)
    (a9 : PySem.W.nsIn K mainGlobals "_fits" = some (some (.ref f9)))
    (l9 : K.lookup f9 = some ⟨oc9, od9, .func (PySem.W.fnOf "_fits" "_fits" (defArgs s__fits) (defBody s__fits) (defScope s__fits) .none kV9 dc9 pm9 an9 cd9 ct9), sl9⟩)
    (c9 : PySem.W.codeIn K cd9 "_fits" = true) (k9 : PySem.W.keepIn K (.ref f9) = true)
    (a10 : PySem.W.nsIn K mainGlobals "common_divisor" = some (some (.ref f10)))
    (l10 : K.lookup f10 = some ⟨oc10, od10, .func (PySem.W.fnOf "common_divisor" "common_divisor" (defArgs s_common_divisor) (defBody s_common_divisor) (defScope s_common_divisor) .none kV10 dc10 pm10 an10 cd10 ct10), sl10⟩)
    (c10 : PySem.W.codeIn K cd10 "common_divisor" = true) (k10 : PySem.W.keepIn K (.ref f10) = true)
    (a11 : PySem.W.nsIn K mainGlobals "_reduced_row" = some (some (.ref f11)))
    (l11 : K.lookup f11 = some ⟨oc11, od11, .func (PySem.W.fnOf "_reduced_row" "_reduced_row" (defArgs s__reduced_row) (defBody s__reduced_row) (defScope s__reduced_row) .none kV11 dc11 pm11 an11 cd11 ct11), sl11⟩)
    (c11 : PySem.W.codeIn K cd11 "_reduced_row" = true) (k11 : PySem.W.keepIn K (.ref f11) = true)
    (sa12 : PySem.W.clsIn K C_Tabled = some cdW12)
    (sb12 : PySem.W.mroIn K C_Tabled (.ref C_Tabled) = some true)
    (a12 : PySem.W.findIn K (.ref C_Tabled) "__init__" = some (some (.ref f12))) (i12 : PySem.W.isFn K (.ref f12) = true)
    (l12 : K.lookup f12 = some ⟨oc12, od12, .func (PySem.W.ksFn "__init__" "Tabled.__init__" (defArgs s_Tabled___init__) (defBody s_Tabled___init__) (defScope s_Tabled___init__) .none kV12 dc12 pm12 an12 (.ref cda12) ct12 cc12), sl12⟩)
    (c12 : PySem.W.codeIn K (.ref cda12) "Tabled.__init__" = true) (k12 : PySem.W.keepIn K (.ref f12) = true)
    (sc12 : K.lookup cc12 = some ⟨cl12, cld12, .cell (some (.ref C_Tabled)), csl12⟩)
    (sd12 : K.lookup cda12 = some ⟨ccl12, cdd12, .fields vs12, ccs12⟩)
    (se12 : vs12[2]? = some (.str fi12 tf12))
    (sh12 : PySem.W.typeIn K (.ref f4) = some (.type "function"))
    (si12 : PySem.W.fnIn K f4 = true)
    (sj12 : PySem.W.nsIn K cStatics "thirdparty.any" = some none)
    (sk12 : PySem.W.nsIn K mainGlobals "super" = some none)
    (sl_12 : ((l.prog.main.file : Str) == fi12) = true)
    (sm12 : (l.prog.main.scope.names.lookup ("super" : Str)).isSome = false)
    (a13 : PySem.W.findIn K (.ref C_Ratio) "__init__" = some (some (.ref f13))) (i13 : PySem.W.isFn K (.ref f13) = true)
    (l13 : K.lookup f13 = some ⟨oc13, od13, .func (PySem.W.fnOf "__init__" "Ratio.__init__" (defArgs s_Ratio___init__) (defBody s_Ratio___init__) (defScope s_Ratio___init__) (.ref tT13) kV13 dc13 pm13 an13 cd13 ct13), sl13⟩)
    (lt13 : K.lookup tT13 = some ⟨oT13, dT13, .seq #[.int 1 tq13_0] nT13, sT13⟩)
    (c13 : PySem.W.codeIn K cd13 "Ratio.__init__" = true) (k13 : PySem.W.keepIn K (.ref f13) = true)
    (a14 : PySem.W.nsIn K mainGlobals "_as_ratio" = some (some (.ref f14)))
    (l14 : K.lookup f14 = some ⟨oc14, od14, .func (PySem.W.fnOf "_as_ratio" "_as_ratio" (defArgs s__as_ratio) (defBody s__as_ratio) (defScope s__as_ratio) .none kV14 dc14 pm14 an14 cd14 ct14), sl14⟩)
    (c14 : PySem.W.codeIn K cd14 "_as_ratio" = true) (k14 : PySem.W.keepIn K (.ref f14) = true)
    (a15 : PySem.W.findIn K (.ref C_Ratio) "__neg__" = some (some (.ref f15))) (i15 : PySem.W.isFn K (.ref f15) = true)
    (l15 : K.lookup f15 = some ⟨oc15, od15, .func (PySem.W.fnOf "__neg__" "Ratio.__neg__" (defArgs s_Ratio___neg__) (defBody s_Ratio___neg__) (defScope s_Ratio___neg__) .none kV15 dc15 pm15 an15 cd15 ct15), sl15⟩)
    (c15 : PySem.W.codeIn K cd15 "Ratio.__neg__" = true) (k15 : PySem.W.keepIn K (.ref f15) = true)
    (a16 : PySem.W.findIn K (.ref C_Ratio) "__add__" = some (some (.ref f16))) (i16 : PySem.W.isFn K (.ref f16) = true)
    (l16 : K.lookup f16 = some ⟨oc16, od16, .func (PySem.W.fnOf "__add__" "Ratio.__add__" (defArgs s_Ratio___add__) (defBody s_Ratio___add__) (defScope s_Ratio___add__) .none kV16 dc16 pm16 an16 cd16 ct16), sl16⟩)
    (c16 : PySem.W.codeIn K cd16 "Ratio.__add__" = true) (k16 : PySem.W.keepIn K (.ref f16) = true)
    (a17 : PySem.W.findIn K (.ref C_Ratio) "__sub__" = some (some (.ref f17))) (i17 : PySem.W.isFn K (.ref f17) = true)
    (l17 : K.lookup f17 = some ⟨oc17, od17, .func (PySem.W.fnOf "__sub__" "Ratio.__sub__" (defArgs s_Ratio___sub__) (defBody s_Ratio___sub__) (defScope s_Ratio___sub__) .none kV17 dc17 pm17 an17 cd17 ct17), sl17⟩)
    (c17 : PySem.W.codeIn K cd17 "Ratio.__sub__" = true) (k17 : PySem.W.keepIn K (.ref f17) = true)
    (a18 : PySem.W.findIn K (.ref C_Ratio) "__rsub__" = some (some (.ref f18))) (i18 : PySem.W.isFn K (.ref f18) = true)
    (l18 : K.lookup f18 = some ⟨oc18, od18, .func (PySem.W.fnOf "__rsub__" "Ratio.__rsub__" (defArgs s_Ratio___rsub__) (defBody s_Ratio___rsub__) (defScope s_Ratio___rsub__) .none kV18 dc18 pm18 an18 cd18 ct18), sl18⟩)
    (c18 : PySem.W.codeIn K cd18 "Ratio.__rsub__" = true) (k18 : PySem.W.keepIn K (.ref f18) = true)
    (a19 : PySem.W.findIn K (.ref C_Tabled) "shares" = some (some (.ref f19))) (i19 : PySem.W.isFn K (.ref f19) = true)
    (l19 : K.lookup f19 = some ⟨oc19, od19, .func (PySem.W.fnOf "shares" "Tabled.shares" (defArgs s_Tabled_shares) (defBody s_Tabled_shares) (defScope s_Tabled_shares) .none kV19 dc19 pm19 an19 cd19 ct19), sl19⟩)
    (c19 : PySem.W.codeIn K cd19 "Tabled.shares" = true) (k19 : PySem.W.keepIn K (.ref f19) = true)
    (a20 : PySem.W.findIn K (.ref C_Tabled) "away" = some (some (.ref f20))) (i20 : PySem.W.isFn K (.ref f20) = true)
    (l20 : K.lookup f20 = some ⟨oc20, od20, .func (PySem.W.fnOf "away" "Rule.away" (defArgs s_Rule_away) (defBody s_Rule_away) (defScope s_Rule_away) .none kV20 dc20 pm20 an20 cd20 ct20), sl20⟩)
    (c20 : PySem.W.codeIn K cd20 "Rule.away" = true) (k20 : PySem.W.keepIn K (.ref f20) = true)
    (a21 : PySem.W.nsIn K mainGlobals "alternating" = some (some (.ref f21)))
    (l21 : K.lookup f21 = some ⟨oc21, od21, .func (PySem.W.fnOf "alternating" "alternating" (defArgs s_alternating) (defBody s_alternating) (defScope s_alternating) .none kV21 dc21 pm21 an21 cd21 ct21), sl21⟩)
    (c21 : PySem.W.codeIn K cd21 "alternating" = true) (k21 : PySem.W.keepIn K (.ref f21) = true)
    (a22 : PySem.W.nsIn K mainGlobals "_law_cell" = some (some (.ref f22)))
    (l22 : K.lookup f22 = some ⟨oc22, od22, .func (PySem.W.fnOf "_law_cell" "_law_cell" (defArgs s__law_cell) (defBody s__law_cell) (defScope s__law_cell) .none kV22 dc22 pm22 an22 cd22 ct22), sl22⟩)
    (c22 : PySem.W.codeIn K cd22 "_law_cell" = true) (k22 : PySem.W.keepIn K (.ref f22) = true)
    (a23 : PySem.W.nsIn K mainGlobals "_law_draws" = some (some (.ref f23)))
    (l23 : K.lookup f23 = some ⟨oc23, od23, .func (PySem.W.fnOf "_law_draws" "_law_draws" (defArgs s__law_draws) (defBody s__law_draws) (defScope s__law_draws) .none kV23 dc23 pm23 an23 cd23 ct23), sl23⟩)
    (c23 : PySem.W.codeIn K cd23 "_law_draws" = true) (k23 : PySem.W.keepIn K (.ref f23) = true)
    (a24 : PySem.W.nsIn K mainGlobals "_law_lot" = some (some (.ref f24)))
    (l24 : K.lookup f24 = some ⟨oc24, od24, .func (PySem.W.fnOf "_law_lot" "_law_lot" (defArgs s__law_lot) (defBody s__law_lot) (defScope s__law_lot) .none kV24 dc24 pm24 an24 cd24 ct24), sl24⟩)
    (c24 : PySem.W.codeIn K cd24 "_law_lot" = true) (k24 : PySem.W.keepIn K (.ref f24) = true)
    (a25 : PySem.W.nsIn K mainGlobals "_law_power" = some (some (.ref f25)))
    (l25 : K.lookup f25 = some ⟨oc25, od25, .func (PySem.W.fnOf "_law_power" "_law_power" (defArgs s__law_power) (defBody s__law_power) (defScope s__law_power) .none kV25 dc25 pm25 an25 cd25 ct25), sl25⟩)
    (c25 : PySem.W.codeIn K cd25 "_law_power" = true) (k25 : PySem.W.keepIn K (.ref f25) = true)
    (a26 : PySem.W.nsIn K mainGlobals "_law_table" = some (some (.ref f26)))
    (l26 : K.lookup f26 = some ⟨oc26, od26, .func (PySem.W.fnOf "_law_table" "_law_table" (defArgs s__law_table) (defBody s__law_table) (defScope s__law_table) .none kV26 dc26 pm26 an26 cd26 ct26), sl26⟩)
    (c26 : PySem.W.codeIn K cd26 "_law_table" = true) (k26 : PySem.W.keepIn K (.ref f26) = true)
    (a27 : PySem.W.nsIn K mainGlobals "_law_is_int" = some (some (.ref f27)))
    (l27 : K.lookup f27 = some ⟨oc27, od27, .func (PySem.W.fnOf "_law_is_int" "_law_is_int" (defArgs s__law_is_int) (defBody s__law_is_int) (defScope s__law_is_int) .none kV27 dc27 pm27 an27 cd27 ct27), sl27⟩)
    (c27 : PySem.W.codeIn K cd27 "_law_is_int" = true) (k27 : PySem.W.keepIn K (.ref f27) = true)
    (a28 : PySem.W.nsIn K mainGlobals "_law_same" = some (some (.ref f28)))
    (l28 : K.lookup f28 = some ⟨oc28, od28, .func (PySem.W.fnOf "_law_same" "_law_same" (defArgs s__law_same) (defBody s__law_same) (defScope s__law_same) .none kV28 dc28 pm28 an28 cd28 ct28), sl28⟩)
    (c28 : PySem.W.codeIn K cd28 "_law_same" = true) (k28 : PySem.W.keepIn K (.ref f28) = true)
    (a29 : PySem.W.nsIn K mainGlobals "_law_plus" = some (some (.ref f29)))
    (l29 : K.lookup f29 = some ⟨oc29, od29, .func (PySem.W.fnOf "_law_plus" "_law_plus" (defArgs s__law_plus) (defBody s__law_plus) (defScope s__law_plus) .none kV29 dc29 pm29 an29 cd29 ct29), sl29⟩)
    (c29 : PySem.W.codeIn K cd29 "_law_plus" = true) (k29 : PySem.W.keepIn K (.ref f29) = true)
    (a30 : PySem.W.nsIn K mainGlobals "_law_no_lot" = some (some (.ref f30)))
    (l30 : K.lookup f30 = some ⟨oc30, od30, .func (PySem.W.fnOf "_law_no_lot" "_law_no_lot" (defArgs s__law_no_lot) (defBody s__law_no_lot) (defScope s__law_no_lot) .none kV30 dc30 pm30 an30 cd30 ct30), sl30⟩)
    (c30 : PySem.W.codeIn K cd30 "_law_no_lot" = true) (k30 : PySem.W.keepIn K (.ref f30) = true)
    (a31 : PySem.W.nsIn K mainGlobals "_law_alternating" = some (some (.ref f31)))
    (l31 : K.lookup f31 = some ⟨oc31, od31, .func (PySem.W.fnOf "_law_alternating" "_law_alternating" (defArgs s__law_alternating) (defBody s__law_alternating) (defScope s__law_alternating) .none kV31 dc31 pm31 an31 cd31 ct31), sl31⟩)
    (c31 : PySem.W.codeIn K cd31 "_law_alternating" = true) (k31 : PySem.W.keepIn K (.ref f31) = true)
    (a32 : PySem.W.nsIn K mainGlobals "_law_right" = some (some (.ref f32)))
    (l32 : K.lookup f32 = some ⟨oc32, od32, .func (PySem.W.fnOf "_law_right" "_law_right" (defArgs s__law_right) (defBody s__law_right) (defScope s__law_right) .none kV32 dc32 pm32 an32 cd32 ct32), sl32⟩)
    (c32 : PySem.W.codeIn K cd32 "_law_right" = true) (k32 : PySem.W.keepIn K (.ref f32) = true)
    (a33 : PySem.W.nsIn K mainGlobals "_law_refuses" = some (some (.ref f33)))
    (l33 : K.lookup f33 = some ⟨oc33, od33, .func (PySem.W.fnOf "_law_refuses" "_law_refuses" (defArgs s__law_refuses) (defBody s__law_refuses) (defScope s__law_refuses) .none kV33 dc33 pm33 an33 cd33 ct33), sl33⟩)
    (c33 : PySem.W.codeIn K cd33 "_law_refuses" = true) (k33 : PySem.W.keepIn K (.ref f33) = true)
    (a34 : PySem.W.nsIn K mainGlobals "_law_classes" = some (some (.ref f34)))
    (l34 : K.lookup f34 = some ⟨oc34, od34, .func (PySem.W.fnOf "_law_classes" "_law_classes" (defArgs s__law_classes) (defBody s__law_classes) (defScope s__law_classes) .none kV34 dc34 pm34 an34 cd34 ct34), sl34⟩)
    (c34 : PySem.W.codeIn K cd34 "_law_classes" = true) (k34 : PySem.W.keepIn K (.ref f34) = true)
    (a35 : PySem.W.nsIn K mainGlobals "law" = some (some (.ref f35)))
    (l35 : K.lookup f35 = some ⟨oc35, od35, .func (PySem.W.fnOf "law" "law" (defArgs s_law) (defBody s_law) (defScope s_law) .none kV35 dc35 pm35 an35 cd35 ct35), sl35⟩)
    (c35 : PySem.W.codeIn K cd35 "law" = true) (k35 : PySem.W.keepIn K (.ref f35) = true)
    (z_ValueError : PySem.W.nsIn K mainGlobals "ValueError" = some none)
    (z_all : PySem.W.nsIn K mainGlobals "all" = some none)
    (z_bool : PySem.W.nsIn K mainGlobals "bool" = some none)
    (z_enumerate : PySem.W.nsIn K mainGlobals "enumerate" = some none)
    (z_int : PySem.W.nsIn K mainGlobals "int" = some none)
    (z_isinstance : PySem.W.nsIn K mainGlobals "isinstance" = some none)
    (z_len : PySem.W.nsIn K mainGlobals "len" = some none)
    (z_list : PySem.W.nsIn K mainGlobals "list" = some none)
    (z_range : PySem.W.nsIn K mainGlobals "range" = some none)
    (z_sum : PySem.W.nsIn K mainGlobals "sum" = some none)
    (z_tuple : PySem.W.nsIn K mainGlobals "tuple" = some none) :
    ∃ fd : FuncData, (∀ (s : Shared) (v : Value), BindsTo s fd ⟨[v], []⟩ [("_law_script", v)]) ∧ ∀ base : Heap, K.In base → base.Ns mainGlobals mg → FnOk l.prog w K mg base CX0 9 fa fd ["_law_script"] (sp_law K) := by
  have e := hfa.symm.trans (PySem.W.mg_of X G a35)
  cases e
  have m_ValueError := PySem.W.mg_none_of X G z_ValueError
  have m_all := PySem.W.mg_none_of X G z_all
  have m_bool := PySem.W.mg_none_of X G z_bool
  have m_enumerate := PySem.W.mg_none_of X G z_enumerate
  have m_int := PySem.W.mg_none_of X G z_int
  have m_isinstance := PySem.W.mg_none_of X G z_isinstance
  have m_len := PySem.W.mg_none_of X G z_len
  have m_list := PySem.W.mg_none_of X G z_list
  have m_range := PySem.W.mg_none_of X G z_range
  have m_sum := PySem.W.mg_none_of X G z_sum
  have m_tuple := PySem.W.mg_none_of X G z_tuple
  have T : Txt K mg C_Tabled C_Ratio C_TooMany C_BadTable C_ZeroBottom C_BadLot C_ShelfError C_NotLists := ⟨PySem.W.mg_of X G a_Tabled, kc_Tabled, hd_Tabled, ha_Tabled, hm_Tabled, ⟨pg_Tabled, hd_Tabled, po_Tabled, sa_Tabled⟩, mk_Tabled, n_Tabled_many, n_Tabled_rows, PySem.W.mg_of X G a_Ratio, kc_Ratio, hd_Ratio, ha_Ratio, hm_Ratio, ⟨pg_Ratio, hd_Ratio, po_Ratio, sa_Ratio⟩, mk_Ratio, n_Ratio_top, n_Ratio_bottom, ⟨ss_Ratio, sb_Ratio, sy_Ratio, sf_Ratio⟩, sf_Ratio, si_Ratio, sr_Ratio, ⟨_, rf_Ratio_add, .inr ⟨_, rfl⟩⟩, ⟨_, of_Ratio_add⟩, ⟨_, _, inta_add, intr_add⟩, ⟨_, rf_Ratio_sub, .inr ⟨_, rfl⟩⟩, ⟨_, of_Ratio_sub⟩, ⟨_, _, inta_sub, intr_sub⟩, PySem.W.mg_of X G a_TooMany, kc_TooMany, hd_TooMany, ha_TooMany, hm_TooMany, b_TooMany, t_TooMany, ga_TooMany, gg_TooMany, ⟨⟨_, _, _, _, _, _, _, _, _, _, _, _, _, _, _, ol_TooMany, or_TooMany⟩, sa_TooMany, b_TooMany, t_TooMany, kc_TooMany⟩, ⟨ga_TooMany, gg_TooMany, b_TooMany, hd_TooMany⟩, n_TooMany_many, n_TooMany_most, PySem.W.mg_of X G a_BadTable, kc_BadTable, hd_BadTable, ha_BadTable, hm_BadTable, b_BadTable, t_BadTable, ga_BadTable, gg_BadTable, ⟨⟨_, _, _, _, _, _, _, _, _, _, _, _, _, _, _, ol_BadTable, or_BadTable⟩, sa_BadTable, b_BadTable, t_BadTable, kc_BadTable⟩, ⟨ga_BadTable, gg_BadTable, b_BadTable, hd_BadTable⟩, n_BadTable_at, PySem.W.mg_of X G a_ZeroBottom, kc_ZeroBottom, hd_ZeroBottom, ha_ZeroBottom, hm_ZeroBottom, b_ZeroBottom, t_ZeroBottom, ga_ZeroBottom, gg_ZeroBottom, x_ZeroBottom, PySem.W.mg_of X G a_BadLot, kc_BadLot, hd_BadLot, ha_BadLot, hm_BadLot, b_BadLot, t_BadLot, ga_BadLot, gg_BadLot, x_BadLot, PySem.W.mg_of X G a_ShelfError, kc_ShelfError, hd_ShelfError, ha_ShelfError, hm_ShelfError, b_ShelfError, t_ShelfError, ga_ShelfError, gg_ShelfError, PySem.W.mg_of X G a_NotLists, kc_NotLists, hd_NotLists, ha_NotLists, hm_NotLists, b_NotLists, t_NotLists, ga_NotLists, gg_NotLists, hnc, htk, sub_BadLot_BadLot, sub_BadLot_ShelfError, kit_Ratio_Ratio, kit_int_Ratio, kit_BadLot_ValueError, kit_BadLot_BadLot, kit_BadLot_BadTable, kit_BadLot_NotLists, PySem.W.mg_of X G a_gcd, ⟨_, PySem.W.mg_of X G a_MOST_THINGS⟩, ⟨_, PySem.W.mg_of X G a_MOST_TABLED_THINGS⟩⟩
  have F1 := fun_mk (st := s_TooMany___init__) l1 c1 k1
  have b1 := F1.binds (ps := ["self", "many", "most"]) fun _ _ _ _ _ _ us hl => match us, hl with | [_, _, _], _ => rfl
  have F2 := fun_mk (st := s_BadTable___init__) l2 c2 k2
  have b2 := F2.binds (ps := ["self", "at"]) fun _ _ _ _ _ _ us hl => match us, hl with | [_, _], _ => rfl
  have F3 := fun_mk (st := s_check_many) l3 c3 k3
  have b3 := F3.binds (ps := ["many", "most"]) fun _ _ _ _ _ _ us hl => match us, hl with | [_, _], _ => rfl
  have F4 := fun_mk (st := s_Rule___init__) l4 c4 k4
  have b4 := F4.binds (ps := ["self", "many"]) fun _ _ _ _ _ _ us hl => match us, hl with | [_, _], _ => rfl
  have F5 := fun_mk (st := s_check_lot) l5 c5 k5
  have b5 := F5.binds (ps := ["lot", "many"]) fun _ _ _ _ _ _ us hl => match us, hl with | [_, _], _ => rfl
  have F6 := fun_mk (st := s_lot_number) l6 c6 k6
  have b6 := F6.binds (ps := ["lot"]) fun _ _ _ _ _ _ us hl => match us, hl with | [_], _ => rfl
  have F7 := fun_mk (st := s_lot_at) l7 c7 k7
  have b7 := F7.binds (ps := ["number", "many"]) fun _ _ _ _ _ _ us hl => match us, hl with | [_, _], _ => rfl
  have F8 := fun_mk (st := s_lots) l8 c8 k8
  have b8 := F8.binds (ps := ["many"]) fun _ _ _ _ _ _ us hl => match us, hl with | [_], _ => rfl
  have F9 := fun_mk (st := s__fits) l9 c9 k9
  have b9 := F9.binds (ps := ["row", "lot"]) fun _ _ _ _ _ _ us hl => match us, hl with | [_, _], _ => rfl
  have F10 := fun_mk (st := s_common_divisor) l10 c10 k10
  have b10 := F10.binds (ps := ["numbers"]) fun _ _ _ _ _ _ us hl => match us, hl with | [_], _ => rfl
  have F11 := fun_mk (st := s__reduced_row) l11 c11 k11
  have b11 := F11.binds (ps := ["row"]) fun _ _ _ _ _ _ us hl => match us, hl with | [_], _ => rfl
  have F12 : FunS K "__init__" "Tabled.__init__" s_Tabled___init__ cc12 cda12 f12 _ := ⟨⟨oc12, od12, kV12, dc12, pm12, an12, ct12, sl12, rfl, l12, c12⟩, k12⟩
  have b12 := F12.binds (ps := ["self", "many", "rows"]) fun _ _ _ _ _ us hl => match us, hl with | [_, _, _], _ => rfl
  have S12 : SupC K mg C_Tabled C_Tabled cc12 cda12 f4 fi12 := ⟨⟨_, sa12⟩, sb12, ⟨_, _, _, sc12⟩, ⟨_, _, _, _, _, sd12, se12⟩, sg4_Tabled, sh12, si12, sj12, PySem.W.mg_none_of X G sk12⟩
  have F13 : FunD K "__init__" "Ratio.__init__" (defArgs s_Ratio___init__) (defBody s_Ratio___init__) (defScope s_Ratio___init__) [V.int 1] [] f13 _ := ⟨⟨oc13, od13, .ref tT13, kV13, dc13, pm13, an13, cd13, ct13, sl13, rfl, l13, c13, .inr ⟨List.cons_ne_nil _ _, tT13, _, [.int 1 tq13_0], nT13, rfl, lt13, rfl, (.cons ⟨_, rfl⟩ .nil)⟩, .inl rfl⟩, k13⟩
  obtain ⟨dn13, vn13, b13⟩ := F13.binds1 (ps := ["self", "top", "bottom"]) 3 1 (List.cons_ne_nil _ _) rfl fun _ _ _ _ _ _ _ us its hl hi => match us, its, hl, hi with | [_, _, _], [_], _, _ => ⟨_, rfl, rfl⟩
  cases vn13
  obtain ⟨dd13, vd13, bd13⟩ := F13.binds1 (ps := ["self", "top", "bottom"]) 2 0 (List.cons_ne_nil _ _) rfl fun _ _ _ _ _ _ _ us its hl hi => match us, its, hl, hi with | [_, _], [_], _, _ => ⟨_, rfl, rfl⟩
  have F14 := fun_mk (st := s__as_ratio) l14 c14 k14
  have b14 := F14.binds (ps := ["number"]) fun _ _ _ _ _ _ us hl => match us, hl with | [_], _ => rfl
  have F15 := fun_mk (st := s_Ratio___neg__) l15 c15 k15
  have b15 := F15.binds (ps := ["self"]) fun _ _ _ _ _ _ us hl => match us, hl with | [_], _ => rfl
  have F16 := fun_mk (st := s_Ratio___add__) l16 c16 k16
  have b16 := F16.binds (ps := ["self", "other"]) fun _ _ _ _ _ _ us hl => match us, hl with | [_, _], _ => rfl
  have F17 := fun_mk (st := s_Ratio___sub__) l17 c17 k17
  have b17 := F17.binds (ps := ["self", "other"]) fun _ _ _ _ _ _ us hl => match us, hl with | [_, _], _ => rfl
  have F18 := fun_mk (st := s_Ratio___rsub__) l18 c18 k18
  have b18 := F18.binds (ps := ["self", "other"]) fun _ _ _ _ _ _ us hl => match us, hl with | [_, _], _ => rfl
  have F19 := fun_mk (st := s_Tabled_shares) l19 c19 k19
  have b19 := F19.binds (ps := ["self", "lot"]) fun _ _ _ _ _ _ us hl => match us, hl with | [_, _], _ => rfl
  have F20 := fun_mk (st := s_Rule_away) l20 c20 k20
  have b20 := F20.binds (ps := ["self", "lot"]) fun _ _ _ _ _ _ us hl => match us, hl with | [_, _], _ => rfl
  have F21 := fun_mk (st := s_alternating) l21 c21 k21
  have b21 := F21.binds (ps := ["table", "lot", "thing"]) fun _ _ _ _ _ _ us hl => match us, hl with | [_, _, _], _ => rfl
  have F22 := fun_mk (st := s__law_cell) l22 c22 k22
  have b22 := F22.binds (ps := ["_law_script", "_law_place"]) fun _ _ _ _ _ _ us hl => match us, hl with | [_, _], _ => rfl
  have F23 := fun_mk (st := s__law_draws) l23 c23 k23
  have b23 := F23.binds (ps := ["_law_cell_here", "_law_sizes"]) fun _ _ _ _ _ _ us hl => match us, hl with | [_, _], _ => rfl
  have F24 := fun_mk (st := s__law_lot) l24 c24 k24
  have b24 := F24.binds (ps := ["_law_bits", "_law_many"]) fun _ _ _ _ _ _ us hl => match us, hl with | [_, _], _ => rfl
  have F25 := fun_mk (st := s__law_power) l25 c25 k25
  have b25 := F25.binds (ps := ["_law_many"]) fun _ _ _ _ _ _ us hl => match us, hl with | [_], _ => rfl
  have F26 := fun_mk (st := s__law_table) l26 c26 k26
  have b26 := F26.binds (ps := ["_law_cell_here", "_law_many"]) fun _ _ _ _ _ _ us hl => match us, hl with | [_, _], _ => rfl
  have F27 := fun_mk (st := s__law_is_int) l27 c27 k27
  have b27 := F27.binds (ps := ["_law_x"]) fun _ _ _ _ _ _ us hl => match us, hl with | [_], _ => rfl
  have F28 := fun_mk (st := s__law_same) l28 c28 k28
  have b28 := F28.binds (ps := ["_law_x", "_law_top", "_law_bottom"]) fun _ _ _ _ _ _ us hl => match us, hl with | [_, _, _], _ => rfl
  have F29 := fun_mk (st := s__law_plus) l29 c29 k29
  have b29 := F29.binds (ps := ["_law_a", "_law_b"]) fun _ _ _ _ _ _ us hl => match us, hl with | [_, _], _ => rfl
  have F30 := fun_mk (st := s__law_no_lot) l30 c30 k30
  have b30 := F30.binds (ps := ["_law_lot_here", "_law_many", "_law_way"]) fun _ _ _ _ _ _ us hl => match us, hl with | [_, _, _], _ => rfl
  have F31 := fun_mk (st := s__law_alternating) l31 c31 k31
  have b31 := F31.binds (ps := ["_law_rows", "_law_many", "_law_lot_here", "_law_thing"]) fun _ _ _ _ _ _ us hl => match us, hl with | [_, _, _, _], _ => rfl
  have F32 := fun_mk (st := s__law_right) l32 c32 k32
  have b32 := F32.binds (ps := ["_law_table_here", "_law_rows", "_law_many", "_law_lot_here"]) fun _ _ _ _ _ _ us hl => match us, hl with | [_, _, _, _], _ => rfl
  have F33 := fun_mk (st := s__law_refuses) l33 c33 k33
  have b33 := F33.binds (ps := ["_law_table_here", "_law_lot_here"]) fun _ _ _ _ _ _ us hl => match us, hl with | [_, _], _ => rfl
  have F34 := fun_mk (st := s__law_classes) l34 c34 k34
  have b34 := F34.binds (ps := ["_law_table_here", "_law_lot_here"]) fun _ _ _ _ _ _ us hl => match us, hl with | [_, _], _ => rfl
  have F35 := fun_mk (st := s_law) l35 c35 k35
  refine ⟨PySem.W.fnOf "law" "law" (defArgs s_law) (defBody s_law) (defScope s_law) .none kV35 dc35 pm35 an35 cd35 ct35, fun s v => .of_eq rfl, fun base _ _ => ?_⟩
  have K_TooMany___init__ : CalX l.prog w K mg base CX0 1 C_TooMany ["self", "many", "most"] (sp_TooMany___init__ C_TooMany) := ⟨f1, _, ok_TooMany___init__ F1 T, a1, beq_iff_eq.mp i1, b1⟩
  have K_BadTable___init__ : CalX l.prog w K mg base CX0 1 C_BadTable ["self", "at"] (sp_BadTable___init__ C_BadTable) := ⟨f2, _, ok_BadTable___init__ F2 T, a2, beq_iff_eq.mp i2, b2⟩
  have K_check_many : Cal l.prog w K mg base (L2.CX l.prog w) 3 "check_many" ["many", "most"] (sp_check_many C_TooMany) := ⟨f3, _, ok_check_many F3 T K_TooMany___init__, PySem.W.mg_of X G a3, k3, b3⟩
  have K_Rule___init__ : ∃ fd : FuncData, FnOk l.prog w K mg base (L2.CX l.prog w) 4 f4 fd ["self", "many"] (sp_Rule___init__ C_Tabled C_TooMany) ∧ Binds K fd ["self", "many"] [] := ⟨_, ok_Rule___init__ F4 T K_check_many, b4⟩
  have K_check_lot : Cal l.prog w K mg base (L2.CX l.prog w) 1 "check_lot" ["lot", "many"] (sp_check_lot K C_BadLot) := ⟨f5, _, ok_check_lot F5 T, PySem.W.mg_of X G a5, k5, b5⟩
  have K_lot_number : Cal l.prog w K mg base CX0 1 "lot_number" ["lot"] (sp_lot_number K) := ⟨f6, _, ok_lot_number F6 T m_sum, PySem.W.mg_of X G a6, k6, b6⟩
  have K_lot_at : Cal l.prog w K mg base CX0 1 "lot_at" ["number", "many"] (sp_lot_at K) := ⟨f7, _, ok_lot_at F7 T m_range m_tuple, PySem.W.mg_of X G a7, k7, b7⟩
  have K_lots : CalG l.prog w K mg base 2 "lots" pre_lots := ok_lots F8 (PySem.W.mg_of X G a8) b8 T m_range K_lot_at
  have K__fits : Cal l.prog w K mg base CX0 1 "_fits" ["row", "lot"] (sp__fits K) := ⟨f9, _, ok__fits F9 T m_enumerate m_sum, PySem.W.mg_of X G a9, k9, b9⟩
  have K_common_divisor : Cal l.prog w K mg base CX0 1 "common_divisor" ["numbers"] (sp_common_divisor K) := ⟨f10, _, ok_common_divisor F10 T, PySem.W.mg_of X G a10, k10, b10⟩
  have K__reduced_row : Cal l.prog w K mg base CX0 2 "_reduced_row" ["row"] (sp__reduced_row K) := ⟨f11, _, ok__reduced_row F11 T m_tuple K_common_divisor, PySem.W.mg_of X G a11, k11, b11⟩
  have K_Tabled___init__ : CalI l.prog w K mg base (L2.CX l.prog w) 5 C_Tabled ["self", "many", "rows"] (sp_Tabled___init__ C_Tabled C_TooMany C_BadTable) [] := ⟨f12, _, ok_Tabled___init__ F12 S12 sl_12 sm12 T m_enumerate m_len m_tuple K_check_many K_Rule___init__ K_lot_at K__fits K__reduced_row K_BadTable___init__, ⟨mk_Tabled, a12, i12, kc_Tabled⟩, b12, [], .nil, b12⟩
  have K_Ratio___init__ : CalI l.prog w K mg base (L2.CX l.prog w) 1 C_Ratio ["self", "top", "bottom"] (sp_Ratio___init__ C_Ratio C_ZeroBottom) [V.int 1] := ⟨f13, _, ok_Ratio___init__ F13 T, ⟨mk_Ratio, a13, i13, kc_Ratio⟩, b13, dd13, vd13, bd13⟩
  have K__as_ratio : Cal l.prog w K mg base CX0 3 "_as_ratio" ["number"] (sp__as_ratio C_Ratio) := ⟨f14, _, ok__as_ratio F14 T m_isinstance K_Ratio___init__, PySem.W.mg_of X G a14, k14, b14⟩
  have K_Ratio___neg__ : CalM l.prog w K mg base CX0 3 C_Ratio "__neg__" ["self"] (sp_Ratio___neg__ C_Ratio) := ⟨f15, _, ok_Ratio___neg__ F15 T K_Ratio___init__, ⟨a15, i15, k15⟩, b15⟩
  have K_Ratio___add__ : CalM l.prog w K mg base CX0 4 C_Ratio "__add__" ["self", "other"] (sp_Ratio___add__ C_Ratio) := ⟨f16, _, ok_Ratio___add__ F16 T K__as_ratio K_Ratio___init__, ⟨a16, i16, k16⟩, b16⟩
  have K_Ratio___sub__ : CalM l.prog w K mg base CX0 5 C_Ratio "__sub__" ["self", "other"] (sp_Ratio___sub__ C_Ratio) := ⟨f17, _, ok_Ratio___sub__ F17 T K__as_ratio K_Ratio___neg__ K_Ratio___add__, ⟨a17, i17, k17⟩, b17⟩
  have K_Ratio___rsub__ : CalM l.prog w K mg base CX0 5 C_Ratio "__rsub__" ["self", "other"] (sp_Ratio___rsub__ C_Ratio) := ⟨f18, _, ok_Ratio___rsub__ F18 T K_Ratio___neg__ K_Ratio___add__, ⟨a18, i18, k18⟩, b18⟩
  have K_Tabled_shares : CalM l.prog w K mg base (L2.CX l.prog w) 3 C_Tabled "shares" ["self", "lot"] (sp_Tabled_shares K C_Tabled C_Ratio C_BadLot) := ⟨f19, _, ok_Tabled_shares F19 T K_check_lot K_lot_number K_Ratio___init__, ⟨a19, i19, k19⟩, b19⟩
  have K_Rule_away : CalM l.prog w K mg base (L2.CX l.prog w) 6 C_Tabled "away" ["self", "lot"] (sp_Rule_away K C_Tabled C_Ratio C_BadLot) := ⟨f20, _, ok_Rule_away F20 T m_sum K_Tabled_shares K_Ratio___init__ K_Ratio___add__ K_Ratio___rsub__, ⟨a20, i20, k20⟩, b20⟩
  have K_alternating : Cal l.prog w K mg base (L2.CX l.prog w) 7 "alternating" ["table", "lot", "thing"] (sp_alternating K C_Tabled C_Ratio C_BadLot) := ⟨f21, _, ok_alternating F21 T m_all m_len K_check_lot K_lots K_Tabled_shares K_Rule_away K_Ratio___init__ K_Ratio___add__ K_Ratio___sub__, PySem.W.mg_of X G a21, k21, b21⟩
  have K__law_cell : Cal l.prog w K mg base CX0 1 "_law_cell" ["_law_script", "_law_place"] (sp__law_cell K) := ⟨f22, _, ok__law_cell F22 T m_int m_len, PySem.W.mg_of X G a22, k22, b22⟩
  have K__law_draws : Cal l.prog w K mg base CX0 1 "_law_draws" ["_law_cell_here", "_law_sizes"] (sp__law_draws K) := ⟨f23, _, ok__law_draws F23 T m_int m_len m_range, PySem.W.mg_of X G a23, k23, b23⟩
  have K__law_lot : Cal l.prog w K mg base CX0 1 "_law_lot" ["_law_bits", "_law_many"] (sp__law_lot K) := ⟨f24, _, ok__law_lot F24 T m_int m_range m_tuple, PySem.W.mg_of X G a24, k24, b24⟩
  have K__law_power : Cal l.prog w K mg base CX0 1 "_law_power" ["_law_many"] sp__law_power := ⟨f25, _, ok__law_power F25 T m_range, PySem.W.mg_of X G a25, k25, b25⟩
  have K__law_table : Cal l.prog w K mg base CX0 2 "_law_table" ["_law_cell_here", "_law_many"] sp__law_table := ⟨f26, _, ok__law_table F26 T m_int m_range m_sum K__law_power K__law_lot K__law_draws, PySem.W.mg_of X G a26, k26, b26⟩
  have K__law_is_int : Cal l.prog w K mg base CX0 1 "_law_is_int" ["_law_x"] sp__law_is_int := ⟨f27, _, ok__law_is_int F27 T m_bool m_int m_isinstance, PySem.W.mg_of X G a27, k27, b27⟩
  have K__law_same : Cal l.prog w K mg base CX0 2 "_law_same" ["_law_x", "_law_top", "_law_bottom"] (sp__law_same C_Ratio) := ⟨f28, _, ok__law_same F28 T m_isinstance K__law_is_int, PySem.W.mg_of X G a28, k28, b28⟩
  have K__law_plus : Cal l.prog w K mg base CX0 1 "_law_plus" ["_law_a", "_law_b"] (sp__law_plus K) := ⟨f29, _, ok__law_plus F29 T, PySem.W.mg_of X G a29, k29, b29⟩
  have K__law_no_lot : Cal l.prog w K mg base CX0 1 "_law_no_lot" ["_law_lot_here", "_law_many", "_law_way"] (sp__law_no_lot K) := ⟨f30, _, ok__law_no_lot F30 T m_len m_range m_tuple, PySem.W.mg_of X G a30, k30, b30⟩
  have K__law_alternating : Cal l.prog w K mg base CX0 2 "_law_alternating" ["_law_rows", "_law_many", "_law_lot_here", "_law_thing"] sp__law_alternating := ⟨f31, _, ok__law_alternating F31 T m_len m_range m_sum K__law_lot K__law_plus, PySem.W.mg_of X G a31, k31, b31⟩
  have K__law_right : Cal l.prog w K mg base CX0 8 "_law_right" ["_law_table_here", "_law_rows", "_law_many", "_law_lot_here"] (sp__law_right C_Tabled) := ⟨f32, _, ok__law_right F32 T K__law_alternating K_alternating K__law_same, PySem.W.mg_of X G a32, k32, b32⟩
  have K__law_refuses : Cal l.prog w K mg base CX0 8 "_law_refuses" ["_law_table_here", "_law_lot_here"] (sp__law_refuses C_Tabled) := ⟨f33, _, ok__law_refuses F33 T K_alternating, PySem.W.mg_of X G a33, k33, b33⟩
  have K__law_classes : Cal l.prog w K mg base CX0 8 "_law_classes" ["_law_table_here", "_law_lot_here"] (sp__law_classes C_Tabled) := ⟨f34, _, ok__law_classes F34 T m_ValueError m_isinstance K_alternating, PySem.W.mg_of X G a34, k34, b34⟩
  exact ok_law F35 T m_list K__law_cell K__law_draws K__law_lot K__law_table K_Tabled___init__ K__law_right K__law_no_lot K__law_refuses K__law_classes
end K48
open PySem PySem.W PyProof.Rows
set_option pp.maxSteps 400 in
set_option maxHeartbeats 0 in
theorem PySem.Challenge.cw_dearestshelf_k48_alternating_sums_holds : PySem.Challenge.rw_dearestshelf_k48_alternating_sums.Holds := by
  w_on; o_law; k_head; (case hw => w_witness2)
  k_fill
  refine L2.walk_of (l := PySem.Challenge.rw_dearestshelf_k48_alternating_sums) (n := 63) (k := 9) (x := "_law_script") (CX := fun _ => L2.CX0) (sp := fun w => K48.sp_law _) rfl (by decide) rfl ⟨rfl, by decide, by decide⟩ (fun w h Y => PySem.W.kIn_of Y) ?F (fun _ _ a ns hl _ hS => ⟨a, ns, rfl, hS, hl, fun _ => rfl⟩) (fun _ _ _ _ _ h => h)
  case F =>
    intro w mg fa h KX G hmg
    refine' K48.all_mk KX G hmg ?a_Tabled ?kc_Tabled ?hd_Tabled ?ha_Tabled ?hm_Tabled ?pg_Tabled ?po_Tabled ?sa_Tabled ?mk_Tabled ?n_Tabled_many ?n_Tabled_rows ?a_Ratio ?kc_Ratio ?hd_Ratio ?ha_Ratio ?hm_Ratio ?pg_Ratio ?po_Ratio ?sa_Ratio ?mk_Ratio ?n_Ratio_top ?n_Ratio_bottom ?ss_Ratio ?sb_Ratio ?sy_Ratio ?sf_Ratio ?si_Ratio ?sr_Ratio ?rf_Ratio_add ?of_Ratio_add ?inta_add ?intr_add ?rf_Ratio_sub ?of_Ratio_sub ?inta_sub ?intr_sub ?a_TooMany ?kc_TooMany ?hd_TooMany ?ha_TooMany ?hm_TooMany ?b_TooMany ?t_TooMany ?ga_TooMany ?gg_TooMany ?ol_TooMany ?or_TooMany ?sa_TooMany ?n_TooMany_many ?n_TooMany_most ?a_BadTable ?kc_BadTable ?hd_BadTable ?ha_BadTable ?hm_BadTable ?b_BadTable ?t_BadTable ?ga_BadTable ?gg_BadTable ?ol_BadTable ?or_BadTable ?sa_BadTable ?n_BadTable_at ?a_ZeroBottom ?kc_ZeroBottom ?hd_ZeroBottom ?ha_ZeroBottom ?hm_ZeroBottom ?b_ZeroBottom ?t_ZeroBottom ?ga_ZeroBottom ?gg_ZeroBottom ?x_ZeroBottom ?a_BadLot ?kc_BadLot ?hd_BadLot ?ha_BadLot ?hm_BadLot ?b_BadLot ?t_BadLot ?ga_BadLot ?gg_BadLot ?x_BadLot ?a_ShelfError ?kc_ShelfError ?hd_ShelfError ?ha_ShelfError ?hm_ShelfError ?b_ShelfError ?t_ShelfError ?ga_ShelfError ?gg_ShelfError ?a_NotLists ?kc_NotLists ?hd_NotLists ?ha_NotLists ?hm_NotLists ?b_NotLists ?t_NotLists ?ga_NotLists ?gg_NotLists ?hnc ?htk ?sub_BadLot_BadLot ?sub_BadLot_ShelfError ?kit_Ratio_Ratio ?kit_int_Ratio ?kit_BadLot_ValueError ?kit_BadLot_BadLot ?kit_BadLot_BadTable ?kit_BadLot_NotLists ?a_gcd ?a_MOST_THINGS ?a_MOST_TABLED_THINGS ?a1 ?i1 ?l1 ?c1 ?k1 ?a2 ?i2 ?l2 ?c2 ?k2 ?a3 ?l3 ?c3 ?k3 ?sg4_Tabled ?l4 ?c4 ?k4 ?a5 ?l5 ?c5 ?k5 ?a6 ?l6 ?c6 ?k6 ?a7 ?l7 ?c7 ?k7 ?a8 ?l8 ?c8 ?k8 ?a9 ?l9 ?c9 ?k9 ?a10 ?l10 ?c10 ?k10 ?a11 ?l11 ?c11 ?k11 ?sa12 ?sb12 ?a12 ?i12 ?l12 ?c12 ?k12 ?sc12 ?sd12 ?se12 ?sh12 ?si12 ?sj12 ?sk12 ?sl_12 ?sm12 ?a13 ?i13 ?l13 ?lt13 ?c13 ?k13 ?a14 ?l14 ?c14 ?k14 ?a15 ?i15 ?l15 ?c15 ?k15 ?a16 ?i16 ?l16 ?c16 ?k16 ?a17 ?i17 ?l17 ?c17 ?k17 ?a18 ?i18 ?l18 ?c18 ?k18 ?a19 ?i19 ?l19 ?c19 ?k19 ?a20 ?i20 ?l20 ?c20 ?k20 ?a21 ?l21 ?c21 ?k21 ?a22 ?l22 ?c22 ?k22 ?a23 ?l23 ?c23 ?k23 ?a24 ?l24 ?c24 ?k24 ?a25 ?l25 ?c25 ?k25 ?a26 ?l26 ?c26 ?k26 ?a27 ?l27 ?c27 ?k27 ?a28 ?l28 ?c28 ?k28 ?a29 ?l29 ?c29 ?k29 ?a30 ?l30 ?c30 ?k30 ?a31 ?l31 ?c31 ?k31 ?a32 ?l32 ?c32 ?k32 ?a33 ?l33 ?c33 ?k33 ?a34 ?l34 ?c34 ?k34 ?a35 ?l35 ?c35 ?k35 ?z_ValueError ?z_all ?z_bool ?z_enumerate ?z_int ?z_isinstance ?z_len ?z_list ?z_range ?z_sum ?z_tuple
    (case a_Tabled => k_is); (case kc_Tabled => k_is); (case hd_Tabled => k_is); (case ha_Tabled => k_is); (case hm_Tabled => k_is); (case pg_Tabled => k_is); (case po_Tabled => k_is); (case sa_Tabled => k_is); (case mk_Tabled => k_is); (case n_Tabled_many => k_is); (case n_Tabled_rows => k_is); (case a_Ratio => k_is); (case kc_Ratio => k_is); (case hd_Ratio => k_is); (case ha_Ratio => k_is); (case hm_Ratio => k_is); (case pg_Ratio => k_is); (case po_Ratio => k_is); (case sa_Ratio => k_is); (case mk_Ratio => k_is); (case n_Ratio_top => k_is); (case n_Ratio_bottom => k_is); (case ss_Ratio => (first | k_is | decide +kernel)); (case sb_Ratio => (first | k_is | decide +kernel)); (case sy_Ratio => (first | k_is | decide +kernel)); (case sf_Ratio => k_is); (case si_Ratio => (first | k_is | decide +kernel)); (case sr_Ratio => (first | k_is | decide +kernel)); (case rf_Ratio_add => k_is); (case of_Ratio_add => k_is); (case inta_add => k_is); (case intr_add => k_is); (case rf_Ratio_sub => k_is); (case of_Ratio_sub => k_is); (case inta_sub => k_is); (case intr_sub => k_is); (case a_TooMany => k_is); (case kc_TooMany => k_is); (case hd_TooMany => k_is); (case ha_TooMany => k_is); (case hm_TooMany => k_is); (case b_TooMany => k_is); (case t_TooMany => k_is); (case ga_TooMany => k_is); (case gg_TooMany => k_is); (case ol_TooMany => k_is); (case or_TooMany => rfl); (case sa_TooMany => k_is); (case n_TooMany_many => k_is); (case n_TooMany_most => k_is); (case a_BadTable => k_is); (case kc_BadTable => k_is); (case hd_BadTable => k_is); (case ha_BadTable => k_is); (case hm_BadTable => k_is); (case b_BadTable => k_is); (case t_BadTable => k_is); (case ga_BadTable => k_is); (case gg_BadTable => k_is); (case ol_BadTable => k_is); (case or_BadTable => rfl); (case sa_BadTable => k_is); (case n_BadTable_at => k_is); (case a_ZeroBottom => k_is); (case kc_ZeroBottom => k_is); (case hd_ZeroBottom => k_is); (case ha_ZeroBottom => k_is); (case hm_ZeroBottom => k_is); (case b_ZeroBottom => k_is); (case t_ZeroBottom => k_is); (case ga_ZeroBottom => k_is); (case gg_ZeroBottom => k_is); (case x_ZeroBottom => k_exc); (case a_BadLot => k_is); (case kc_BadLot => k_is); (case hd_BadLot => k_is); (case ha_BadLot => k_is); (case hm_BadLot => k_is); (case b_BadLot => k_is); (case t_BadLot => k_is); (case ga_BadLot => k_is); (case gg_BadLot => k_is); (case x_BadLot => k_exc); (case a_ShelfError => k_is); (case kc_ShelfError => k_is); (case hd_ShelfError => k_is); (case ha_ShelfError => k_is); (case hm_ShelfError => k_is); (case b_ShelfError => k_is); (case t_ShelfError => k_is); (case ga_ShelfError => k_is); (case gg_ShelfError => k_is); (case a_NotLists => k_is); (case kc_NotLists => k_is); (case hd_NotLists => k_is); (case ha_NotLists => k_is); (case hm_NotLists => k_is); (case b_NotLists => k_is); (case t_NotLists => k_is); (case ga_NotLists => k_is); (case gg_NotLists => k_is); (case hnc => k_is); (case htk => k_is); (case sub_BadLot_BadLot => (first | rfl | k_is)); (case sub_BadLot_ShelfError => (first | rfl | k_is)); (case kit_Ratio_Ratio => kit_is); (case kit_int_Ratio => kit_is); (case kit_BadLot_ValueError => kit_is); (case kit_BadLot_BadLot => kit_is); (case kit_BadLot_BadTable => kit_is); (case kit_BadLot_NotLists => kit_is); (case a_gcd => k_is); (case a_MOST_THINGS => k_is); (case a_MOST_TABLED_THINGS => k_is); (case a1 => k_is); (case i1 => k_is); (case l1 => k_is); (case c1 => k_is); (case k1 => k_is); (case a2 => k_is); (case i2 => k_is); (case l2 => k_is); (case c2 => k_is); (case k2 => k_is); (case a3 => k_is); (case l3 => k_is); (case c3 => k_is); (case k3 => k_is); (case sg4_Tabled => ks_is); (case l4 => k_is); (case c4 => k_is); (case k4 => k_is); (case a5 => k_is); (case l5 => k_is); (case c5 => k_is); (case k5 => k_is); (case a6 => k_is); (case l6 => k_is); (case c6 => k_is); (case k6 => k_is); (case a7 => k_is); (case l7 => k_is); (case c7 => k_is); (case k7 => k_is); (case a8 => k_is); (case l8 => k_is); (case c8 => k_is); (case k8 => k_is); (case a9 => k_is); (case l9 => k_is); (case c9 => k_is); (case k9 => k_is); (case a10 => k_is); (case l10 => k_is); (case c10 => k_is); (case k10 => k_is); (case a11 => k_is); (case l11 => k_is); (case c11 => k_is); (case k11 => k_is); (case sa12 => k_is); (case sb12 => k_is); (case a12 => k_is); (case i12 => k_is); (case l12 => k_is); (case c12 => k_is); (case k12 => k_is); (case sc12 => k_is); (case sd12 => k_is); (case se12 => rfl); (case sh12 => k_is); (case si12 => k_is); (case sj12 => k_is); (case sk12 => k_is); (case sl_12 => (first | rfl | decide +kernel)); (case sm12 => (first | rfl | decide +kernel)); (case a13 => k_is); (case i13 => k_is); (case l13 => k_is); (case lt13 => k_is); (case c13 => k_is); (case k13 => k_is); (case a14 => k_is); (case l14 => k_is); (case c14 => k_is); (case k14 => k_is); (case a15 => k_is); (case i15 => k_is); (case l15 => k_is); (case c15 => k_is); (case k15 => k_is); (case a16 => k_is); (case i16 => k_is); (case l16 => k_is); (case c16 => k_is); (case k16 => k_is); (case a17 => k_is); (case i17 => k_is); (case l17 => k_is); (case c17 => k_is); (case k17 => k_is); (case a18 => k_is); (case i18 => k_is); (case l18 => k_is); (case c18 => k_is); (case k18 => k_is); (case a19 => k_is); (case i19 => k_is); (case l19 => k_is); (case c19 => k_is); (case k19 => k_is); (case a20 => k_is); (case i20 => k_is); (case l20 => k_is); (case c20 => k_is); (case k20 => k_is); (case a21 => k_is); (case l21 => k_is); (case c21 => k_is); (case k21 => k_is); (case a22 => k_is); (case l22 => k_is); (case c22 => k_is); (case k22 => k_is); (case a23 => k_is); (case l23 => k_is); (case c23 => k_is); (case k23 => k_is); (case a24 => k_is); (case l24 => k_is); (case c24 => k_is); (case k24 => k_is); (case a25 => k_is); (case l25 => k_is); (case c25 => k_is); (case k25 => k_is); (case a26 => k_is); (case l26 => k_is); (case c26 => k_is); (case k26 => k_is); (case a27 => k_is); (case l27 => k_is); (case c27 => k_is); (case k27 => k_is); (case a28 => k_is); (case l28 => k_is); (case c28 => k_is); (case k28 => k_is); (case a29 => k_is); (case l29 => k_is); (case c29 => k_is); (case k29 => k_is); (case a30 => k_is); (case l30 => k_is); (case c30 => k_is); (case k30 => k_is); (case a31 => k_is); (case l31 => k_is); (case c31 => k_is); (case k31 => k_is); (case a32 => k_is); (case l32 => k_is); (case c32 => k_is); (case k32 => k_is); (case a33 => k_is); (case l33 => k_is); (case c33 => k_is); (case k33 => k_is); (case a34 => k_is); (case l34 => k_is); (case c34 => k_is); (case k34 => k_is); (case a35 => k_is); (case l35 => k_is); (case c35 => k_is); (case k35 => k_is); (case z_ValueError => k_is); (case z_all => k_is); (case z_bool => k_is); (case z_enumerate => k_is); (case z_int => k_is); (case z_isinstance => k_is); (case z_len => k_is); (case z_list => k_is); (case z_range => k_is); (case z_sum => k_is); (case z_tuple => k_is)
