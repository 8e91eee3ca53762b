import PyProof.Rows.All
import Wide.All
import OpenK.AllK
import Wide.FinOn
import HandS.ForMost
import HandS.ForExc
import HandS.Wide
import HandS.IsInst
import HandS.More
import HandS.Conv
import HandS.Evl
import HandS.GenCall
import HandS.GenList
import HandS.GenYield
import HandS.Iter
import HandS.Walk
import HandS.Style
import HandS.TupAny
import PySem.Challenge.RW_dearestshelf_k09_lots_in_order
set_option Elab.async false
set_option linter.all false
set_option maxRecDepth 100000
set_option maxHeartbeats 8000000
set_option exponentiation.threshold 10000
open PySem PySem.Spec PyProof.Rows L2
/-! ### a generator that sleeps: what does not wake it runs as if it could not be woken -/
namespace GKeep
open PySem
/-- no other generator's frame -/
def Ret (fs : List Frame) : Prop := ∀ F ∈ fs, ∀ g k l c p, F ≠ .gen g k l c p
theorem Ret.nil : Ret [] := fun F h => by cases h
theorem Ret.app {a b : List Frame} (ha : Ret a) (hb : Ret b) : Ret (a ++ b) := fun F h => (List.mem_append.mp h).elim (ha F) (hb F)
theorem Ret.tail {F : Frame} {fs : List Frame} (h : Ret (F :: fs)) : Ret fs := fun G hG => h G (List.mem_cons_of_mem _ hG)
theorem Ret.one {k h g l c p kp} : Ret [.ret k h g l c p kp] := fun F hF => by
  obtain rfl := List.mem_singleton.mp hF
  intro g' k' l' c' p' z
  cases z
theorem Ret.split : ∀ {fs : List Frame}, Ret fs → splitAtGen fs = none
  | [], _ => rfl
  | .gen g k l c p :: _, h => absurd rfl (h _ List.mem_cons_self g k l c p)
  | .ret k hd g l c p kp :: rest, h => by
    have e := Ret.split (fs := rest) h.tail
    show (splitAtGen rest).map _ = none
    rw [e]
    rfl
/-- asleep for good -/
def dead : Resume → Sem PySem.Fin := fun _ => .unsupported ""
def Plain : GenState → Prop
  | .suspended _ _ _ _ fs _ => Ret fs
  | _ => True
def Dead : GenState → Prop
  | .suspended k _ _ _ _ _ => k = dead
  | _ => False
/-- the same, or the one asleep for good in the other's place -/
def Still (x y : GenState) : Prop := (x = y ∧ Plain x) ∨ ∃ k l c p fs cl, x = .suspended dead l c p fs cl ∧ y = .suspended k l c p fs cl
theorem Still.seen {x y : GenState} (h : Still x y) : x.seen = y.seen := by
  rcases h with ⟨rfl, _⟩ | ⟨k, l, c, p, fs, cl, rfl, rfl⟩
  · rfl
  · rfl
theorem Still.bare {x y : GenState} (h : Still x y) : x.bare = y.bare := by
  rcases h with ⟨rfl, _⟩ | ⟨k, l, c, p, fs, cl, rfl, rfl⟩
  · rfl
  · rfl
structure Tw (A B : Array GenState) : Prop where
  size : A.size = B.size
  at_ : ∀ (i : Nat) (x : GenState), A[i]? = some x → ∃ y, B[i]? = some y ∧ Still x y
/-- what sleeps for good stays, and so does its twin -/
def Kp (A B A' B' : Array GenState) : Prop := ∀ (i : Nat) (x : GenState), A[i]? = some x → Dead x → A'[i]? = some x ∧ B'[i]? = B[i]?
theorem Kp.refl (A B : Array GenState) : Kp A B A B := fun _ _ h _ => ⟨h, rfl⟩
theorem Kp.trans {A B A1 B1 A2 B2 : Array GenState} (h : Kp A B A1 B1) (k : Kp A1 B1 A2 B2) : Kp A B A2 B2 := fun i x e d => by
  obtain ⟨h1, h2⟩ := h i x e d
  obtain ⟨k1, k2⟩ := k i x h1 d
  exact ⟨k1, k2.trans h2⟩
def EndPlain : End → Prop
  | .ret _ => True
  | .susp _ _ _ _ _ _ fs => Ret fs
theorem EndPlain.gen {e : End} (h : EndPlain e) : Plain e.genState := by
  cases e with
  | ret _ => exact True.intro
  | susp v g l k c p fs => exact h
theorem Tw.push {A B : Array GenState} (h : Tw A B) {x : GenState} (hx : Plain x) : Tw (A.push x) (B.push x) := by
  refine ⟨by rw [Array.size_push, Array.size_push, h.size], fun i y e => ?_⟩
  rw [Array.getElem?_push] at e ⊢
  rw [← h.size]
  by_cases c : i = A.size
  · rw [if_pos c] at e ⊢
    obtain rfl := Option.some.inj e
    exact ⟨_, rfl, .inl ⟨rfl, hx⟩⟩
  · rw [if_neg c] at e ⊢
    exact h.at_ i y e
theorem Kp.push {A B : Array GenState} (t : Tw A B) {x : GenState} : Kp A B (A.push x) (B.push x) := fun i y e d => by
  have lt : i < A.size := (Array.getElem?_eq_some_iff.mp e).1
  rw [Array.getElem?_push, Array.getElem?_push, if_neg (by omega), if_neg (by have := t.size; omega)]
  exact ⟨e, rfl⟩
theorem set_at {A : Array GenState} {g i : Nat} {x : GenState} : (A.setIfInBounds g x)[i]? = if i = g then (if i < A.size then some x else none) else A[i]? := by
  by_cases c : i = g
  · subst c
    rw [if_pos rfl]
    by_cases d : i < A.size
    · rw [if_pos d]
      simp [d]
    · rw [if_neg d]
      simp [d]
  · rw [if_neg c, Array.getElem?_setIfInBounds_ne (Ne.symm c)]
theorem Tw.set {A B : Array GenState} (h : Tw A B) {g : Nat} {x : GenState} (hx : Plain x) : Tw (A.setIfInBounds g x) (B.setIfInBounds g x) := by
  refine ⟨by rw [Array.size_setIfInBounds, Array.size_setIfInBounds, h.size], fun i y e => ?_⟩
  rw [set_at] at e ⊢
  rw [← h.size]
  by_cases c : i = g
  · rw [if_pos c] at e ⊢
    by_cases d : i < A.size
    · rw [if_pos d] at e ⊢
      obtain rfl := Option.some.inj e
      exact ⟨_, rfl, .inl ⟨rfl, hx⟩⟩
    · rw [if_neg d] at e
      cases e
  · rw [if_neg c] at e ⊢
    exact h.at_ i y e
/-- g itself does not sleep for good -/
theorem Kp.set {A B : Array GenState} {g : Nat} {x y : GenState} (e : A[g]? = some y) (nd : ¬ Dead y) : Kp A B (A.setIfInBounds g x) (B.setIfInBounds g x) := fun i z ez d => by
  have c : i ≠ g := fun c => by
    subst c
    rw [e] at ez
    exact nd (Option.some.inj ez ▸ d)
  rw [set_at, set_at, if_neg c, if_neg c]
  exact ⟨ez, rfl⟩
theorem Kp.around {A B A1 B1 : Array GenState} {g : Nat} {x y z : GenState} (e : A[g]? = some y) (nd : ¬ Dead y) (c : Kp (A.setIfInBounds g x) (B.setIfInBounds g x) A1 B1) : Kp A B (A1.setIfInBounds g z) (B1.setIfInBounds g z) := fun i w ew d => by
  have ne : i ≠ g := fun c => by
    subst c
    rw [e] at ew
    exact nd (Option.some.inj ew ▸ d)
  obtain ⟨h1, h2⟩ := c i w (by rw [set_at, if_neg ne]; exact ew) d
  rw [set_at, set_at, if_neg ne, if_neg ne]
  exact ⟨h1, h2.trans (by rw [set_at, if_neg ne])⟩
theorem no_run {M : Model} {Γ : PySem.Ctx} {p : Pos} {t : Sem PySem.Fin} {fs : List Frame} {s s' : Shared} {e : End} (h : Runs M Γ p t fs s e s') : ∀ m, t ≠ .unsupported m := by
  induction h with
  | segRet _ _ ih _ => exact ih
  | segGen _ _ ih _ => exact ih
  | segSuspOut _ _ ih => exact ih
  | segSuspGen _ _ _ _ ih _ => exact ih
  | _ => exact fun m z => by cases z
/-- the run of a heap whose sleepers are asleep for good is the run of the heap itself -/
theorem runs_twin {M : Model} {Γ : PySem.Ctx} {p : Pos} {t : Sem PySem.Fin} {fs : List Frame} {s s' : Shared} {e : End} (h : Runs M Γ p t fs s e s') :
    ∀ B : Array GenState, Ret fs → Tw s.gens B → ∃ B', Runs M Γ p t fs { s with gens := B } e { s' with gens := B' } ∧ Tw s'.gens B' ∧ Kp s.gens B s'.gens B' ∧ EndPlain e := by
  induction h with
  | done => exact fun B _ tw => ⟨B, .done, tw, .refl _ _, True.intro⟩
  | raise => exact fun B _ tw => ⟨B, .raise, tw, .refl _ _, True.intro⟩
  | again q _ ih => exact fun B n tw => (ih B n tw).imp fun B' ⟨a, b⟩ => ⟨.again q a, b⟩
  | rule _ ih => exact fun B n tw => (ih B n tw).imp fun B' ⟨a, b⟩ => ⟨.rule a, b⟩
  | «at» _ ih => exact fun B n tw => (ih B n tw).imp fun B' ⟨a, b⟩ => ⟨.at a, b⟩
  | load q _ ih => exact fun B n tw => (ih B n tw).imp fun B' ⟨a, b⟩ => ⟨.load q a, b⟩
  | update q _ ih => exact fun B n tw => (ih B n tw).imp fun B' ⟨a, b⟩ => ⟨.update q a, b⟩
  | loadIfAlive _ ih => exact fun B n tw => (ih B n tw).imp fun B' ⟨a, b⟩ => ⟨.loadIfAlive a, b⟩
  | point _ ih => exact fun B n tw => (ih B n tw).imp fun B' ⟨a, b⟩ => ⟨.point a, b⟩
  | alloc _ ih => exact fun B n tw => (ih B n tw).imp fun B' ⟨a, b⟩ => ⟨.alloc a, b⟩
  | fresh _ ih => exact fun B n tw => (ih B n tw).imp fun B' ⟨a, b⟩ => ⟨.fresh a, b⟩
  | ask _ ih => exact fun B n tw => (ih B n tw).imp fun B' ⟨a, b⟩ => ⟨.ask a, b⟩
  | choose q _ ih => exact fun B n tw => (ih B n tw).imp fun B' ⟨a, b⟩ => ⟨.choose q a, b⟩
  | os _ ih => exact fun B n tw => (ih B n tw).imp fun B' ⟨a, b⟩ => ⟨.os a, b⟩
  | handled _ ih => exact fun B n tw => (ih B n tw).imp fun B' ⟨a, b⟩ => ⟨.handled a, b⟩
  | stack _ ih => exact fun B n tw => (ih B n tw).imp fun B' ⟨a, b⟩ => ⟨.stack a, b⟩
  | thread _ ih => exact fun B n tw => (ih B n tw).imp fun B' ⟨a, b⟩ => ⟨.thread a, b⟩
  | genState q _ ih =>
    intro B n tw
    obtain ⟨y, hy, st⟩ := tw.at_ _ _ q
    refine (ih B n tw).imp fun B' ⟨a, b⟩ => ⟨.genState (st := y) hy ?_, b⟩
    rw [← st.seen]
    exact a
  | newGen _ ih =>
    intro B n tw
    refine (ih _ n (tw.push (x := .fresh _) True.intro)).imp fun B' ⟨a, b, c, d⟩ => ⟨.newGen ?_, b, (Kp.push tw).trans c, d⟩
    rw [show ({ (_ : Shared) with gens := B } : Shared).gens.size = _ from tw.size.symm]
    exact a
  | call _ _ ih1 ih2 =>
    intro B n tw
    obtain ⟨B1, a1, b1, c1, d1⟩ := ih1 B .nil tw
    obtain ⟨B2, a2, b2, c2, d2⟩ := ih2 B1 n b1
    exact ⟨B2, .call a1 a2, b2, c1.trans c2, d2⟩
  | callSusp _ ih =>
    intro B n tw
    obtain ⟨B1, a1, b1, c1, d1⟩ := ih B .nil tw
    exact ⟨B1, .callSusp a1, b1, c1, Ret.app d1 .one⟩
  | yield => exact fun B n tw => ⟨B, .yield, tw, .refl _ _, .nil⟩
  | resumeFresh q _ qu _ ih1 ih2 =>
    intro B n tw
    obtain ⟨y, hy, st⟩ := tw.at_ _ _ q
    obtain rfl : y = .fresh _ := by
      rcases st with ⟨rfl, _⟩ | ⟨k, l, c, p, fs, cl, z, _⟩
      · rfl
      · cases z
    obtain ⟨B1, a1, b1, c1, d1⟩ := ih1 _ .nil (tw.set (x := .running) True.intro)
    obtain ⟨B2, a2, b2, c2, d2⟩ := ih2 _ .nil (b1.set d1.gen)
    exact ⟨B2, .resumeFresh hy a1 qu a2, b2, (Kp.around q (fun z => z) c1).trans c2, d2⟩
  | resumeSuspended q r1 qu _ ih1 ih2 =>
    intro B n tw
    obtain ⟨y, hy, st⟩ := tw.at_ _ _ q
    rcases st with ⟨rfl, pl⟩ | ⟨k, l, c, p, fs, cl, z, _⟩
    · obtain ⟨B1, a1, b1, c1, d1⟩ := ih1 _ pl (tw.set (x := .running) True.intro)
      obtain ⟨B2, a2, b2, c2, d2⟩ := ih2 _ .nil (b1.set d1.gen)
      refine ⟨B2, .resumeSuspended hy a1 qu a2, b2, (Kp.around q (fun z => ?_) c1).trans c2, d2⟩
      exact no_run r1 "" (congrFun z _)
    · have e := (GenState.suspended.inj z).1
      exact absurd (congrFun e _) (no_run r1 "")
  | resumeJustStarted q v _ ih =>
    intro B n tw
    obtain ⟨y, hy, st⟩ := tw.at_ _ _ q
    obtain rfl : y = .fresh _ := by
      rcases st with ⟨rfl, _⟩ | ⟨k, l, c, p, fs, cl, z, _⟩
      · rfl
      · cases z
    exact (ih B n tw).imp fun B' ⟨a, b⟩ => ⟨.resumeJustStarted hy v a, b⟩
  | resumeThrowFresh q _ ih =>
    intro B n tw
    obtain ⟨y, hy, st⟩ := tw.at_ _ _ q
    obtain rfl : y = .fresh _ := by
      rcases st with ⟨rfl, _⟩ | ⟨k, l, c, p, fs, cl, z, _⟩
      · rfl
      · cases z
    obtain ⟨B', a, b, c, d⟩ := ih _ n (tw.set (x := .finished) True.intro)
    exact ⟨B', .resumeThrowFresh hy a, b, (Kp.set q fun z => z).trans c, d⟩
  | resumeRunning q _ ih =>
    intro B n tw
    obtain ⟨y, hy, st⟩ := tw.at_ _ _ q
    obtain rfl : y = .running := by
      rcases st with ⟨rfl, _⟩ | ⟨k, l, c, p, fs, cl, z, _⟩
      · rfl
      · cases z
    exact (ih B n tw).imp fun B' ⟨a, b⟩ => ⟨.resumeRunning hy a, b⟩
  | resumeFinished q _ ih =>
    intro B n tw
    obtain ⟨y, hy, st⟩ := tw.at_ _ _ q
    obtain rfl : y = .finished := by
      rcases st with ⟨rfl, _⟩ | ⟨k, l, c, p, fs, cl, z, _⟩
      · rfl
      · cases z
    exact (ih B n tw).imp fun B' ⟨a, b⟩ => ⟨.resumeFinished hy a, b⟩
  | segRet _ _ ih1 ih2 =>
    intro B n tw
    obtain ⟨B1, a1, b1, c1, d1⟩ := ih1 B .nil tw
    obtain ⟨B2, a2, b2, c2, d2⟩ := ih2 B1 n.tail b1
    exact ⟨B2, .segRet a1 a2, b2, c1.trans c2, d2⟩
  | segGen _ _ ih1 ih2 => exact fun B n tw => absurd rfl (n _ List.mem_cons_self _ _ _ _ _)
  | segSuspOut sp _ ih =>
    intro B n tw
    obtain ⟨B1, a1, b1, c1, d1⟩ := ih B .nil tw
    exact ⟨B1, .segSuspOut sp a1, b1, c1, Ret.app d1 n⟩
  | segSuspGen sp _ _ _ ih1 ih2 =>
    intro B n tw
    rw [n.split] at sp
    cases sp
/-- wished for in the twin -/
def LQ {α : Type} (A0 B0 : Array GenState) (Q : α → Pos → Shared → Prop) : α → Pos → Shared → Prop := fun a p' r => ∃ (s' : Shared) (B' : Array GenState), r = { s' with gens := B' } ∧ Tw s'.gens B' ∧ Kp A0 B0 s'.gens B' ∧ Q a p' s'
/-- of the semantics' wishes too -/
theorem wp_twin {α : Type} (M : Model) (Γ : PySem.Ctx) (A0 B0 : Array GenState) (t : Sem α) : ∀ (Q : α → Pos → Shared → Prop) (E : Value → Pos → Shared → Prop) (p : Pos) (s : Shared) (B : Array GenState), Tw s.gens B → Kp A0 B0 s.gens B → Sem.wp M Γ t Q E p s →
    Sem.wp M Γ t (LQ A0 B0 Q) (LQ A0 B0 E) p { s with gens := B } := by
  induction t with
  | pure a => exact fun Q E p s B tw kp h => ⟨s, B, rfl, tw, kp, h⟩
  | raise e => exact fun Q E p s B tw kp h => ⟨s, B, rfl, tw, kp, h⟩
  | unsupported _ => exact fun Q E p s B tw kp h => h
  | finish _ => exact fun Q E p s B tw kp h => h
  | rule _ k ih => exact fun Q E p s B tw kp h => ih () Q E p s B tw kp h
  | «at» p' k ih => exact fun Q E p s B tw kp h => ih () Q E p' s B tw kp h
  | load a _ k ih => exact fun Q E p s B tw kp ⟨o, ho, h⟩ => ⟨o, ho, ih o Q E p s B tw kp h⟩
  | update a _ f k ih => exact fun Q E p s B tw kp h => ⟨h.1, ih () Q E p { s with heap := s.heap.update a f } B tw kp h.2⟩
  | loadIfAlive a k ih => exact fun Q E p s B tw kp h => ih _ Q E p s B tw kp h
  | point _ k ih => exact fun Q E p s B tw kp h => ih () Q E p s B tw kp h
  | register _ _ => exact fun Q E p s B tw kp h => h
  | alloc o k ih => exact fun Q E p s B tw kp h => ih s.heap.objs.size Q E p { s with heap := s.heap.push o } B tw kp h
  | fresh k ih => exact fun Q E p s B tw kp h => ih s.toks Q E p { s with toks := s.toks + 1 } B tw kp h
  | ask k ih => exact fun Q E p s B tw kp h => ih _ Q E p s B tw kp h
  | choose src m k ih => exact fun Q E p s B tw kp h => ⟨h.1, ih _ Q E p { s with drawn := s.drawn.bump src } B tw kp h.2⟩
  | os q _ k ih => exact fun Q E p s B tw kp h => ih (Os.step s.os q).2 Q E p { s with os := (Os.step s.os q).1 } B tw kp h
  | call c hd _ _ k ih =>
    intro Q E p s B tw kp h
    obtain ⟨r, s1, hr, h⟩ := h
    obtain ⟨B1, a1, b1, c1, _⟩ := runs_twin hr B .nil tw
    exact ⟨r, _, a1, ih r Q E p s1 B1 b1 (kp.trans c1) h⟩
  | handled own k ih => exact fun Q E p s B tw kp h => ih _ Q E p s B tw kp h
  | genState g k ih =>
    intro Q E p s B tw kp h
    obtain ⟨st, hs, h⟩ := h
    obtain ⟨y, hy, sl⟩ := tw.at_ _ _ hs
    refine ⟨y, hy, ?_⟩
    rw [← sl.seen]
    exact ih _ Q E p s B tw kp h
  | newGen c k ih =>
    intro Q E p s B tw kp h
    have h1 := ih s.gens.size Q E p _ (B.push (.fresh c)) (tw.push (x := .fresh c) True.intro) (kp.trans (Kp.push tw)) h
    show Sem.wp M Γ (k B.size) _ _ p _
    rw [← tw.size]
    exact h1
  | resume g r _ k ih =>
    intro Q E p s B tw kp h
    obtain ⟨res, s1, hw, h⟩ := h
    have go : ∀ (s1 : Shared) (B1 : Array GenState), Wakes M Γ p g r { s with gens := B } res { s1 with gens := B1 } → Tw s1.gens B1 → Kp s.gens B s1.gens B1 → Sem.wp M Γ (k res) Q E p s1 → ∃ res s', Wakes M Γ p g r { s with gens := B } res s' ∧ Sem.wp M Γ (k res) (LQ A0 B0 Q) (LQ A0 B0 E) p s' := fun s1 B1 a b c h => ⟨res, _, a, ih res Q E p s1 B1 b (kp.trans c) h⟩
    unfold Wakes at hw
    cases e : s.gens[g]? with
    | none =>
      rw [e] at hw
      exact hw.elim
    | some x =>
      rw [e] at hw
      obtain ⟨y, hy, st⟩ := tw.at_ _ _ e
      cases x with
      | fresh c =>
        obtain rfl : y = .fresh c := by
          rcases st with ⟨rfl, _⟩ | ⟨k, l, c, p, fs, cl, z, _⟩
          · rfl
          · cases z
        have hB : ({ s with gens := B } : Shared).gens[g]? = some (.fresh c) := hy
        cases r with
        | throw x =>
          obtain ⟨rfl, rfl⟩ := hw
          refine go (s.setGen g .finished) (B.setIfInBounds g .finished) ?_ (tw.set True.intro) (Kp.set e fun z => z) h
          unfold Wakes
          rw [hB]
          exact ⟨rfl, rfl⟩
        | send v =>
          by_cases hv : v = .none
          · subst hv
            obtain ⟨e1, s2, r1, qu, rfl, rfl⟩ := hw
            obtain ⟨B1, a1, b1, c1, d1⟩ := runs_twin r1 _ .nil (tw.set (g := g) (x := .running) True.intro)
            refine go (s2.setGen g e1.genState) (B1.setIfInBounds g e1.genState) ?_ (b1.set d1.gen) (Kp.around e (fun z => z) c1) h
            unfold Wakes
            rw [hB]
            exact ⟨e1, _, a1, qu, rfl, rfl⟩
          · have hw : res = .justStarted ∧ s1 = s := by
              cases v <;> first
                | exact absurd rfl hv
                | exact hw
            obtain ⟨rfl, rfl⟩ := hw
            refine go s1 B ?_ tw (.refl _ _) h
            unfold Wakes
            rw [hB]
            cases v <;> first
              | exact absurd rfl hv
              | exact ⟨rfl, rfl⟩
      | suspended k0 l0 c0 p0 fs cl =>
        obtain ⟨e1, s2, r1, qu, rfl, rfl⟩ := hw
        rcases st with ⟨rfl, pl⟩ | ⟨k, l, c, p, fs, cl, z, _⟩
        · obtain ⟨B1, a1, b1, c1, d1⟩ := runs_twin r1 _ pl (tw.set (g := g) (x := .running) True.intro)
          refine go (s2.setGen g e1.genState) (B1.setIfInBounds g e1.genState) ?_ (b1.set d1.gen) (Kp.around e (fun z => no_run r1 "" (congrFun z _)) c1) h
          unfold Wakes
          rw [show ({ s with gens := B } : Shared).gens[g]? = some (.suspended k0 l0 c0 p0 fs cl) from hy]
          exact ⟨e1, _, a1, qu, rfl, rfl⟩
        · exact absurd (congrFun (GenState.suspended.inj z).1 _) (no_run r1 "")
      | running =>
        obtain rfl : y = .running := by
          rcases st with ⟨rfl, _⟩ | ⟨k, l, c, p, fs, cl, z, _⟩
          · rfl
          · cases z
        obtain ⟨rfl, rfl⟩ := hw
        refine go s1 B ?_ tw (.refl _ _) h
        unfold Wakes
        rw [show ({ s1 with gens := B } : Shared).gens[g]? = some .running from hy]
        exact ⟨rfl, rfl⟩
      | finished =>
        obtain rfl : y = .finished := by
          rcases st with ⟨rfl, _⟩ | ⟨k, l, c, p, fs, cl, z, _⟩
          · rfl
          · cases z
        obtain ⟨rfl, rfl⟩ := hw
        refine go s1 B ?_ tw (.refl _ _) h
        unfold Wakes
        rw [show ({ s1 with gens := B } : Shared).gens[g]? = some .finished from hy]
        exact ⟨rfl, rfl⟩
  | yield _ _ _ _ => exact fun Q E p s B tw kp h => h
  | stack k ih => exact fun Q E p s B tw kp h => ih _ Q E p s B tw kp h
  | fork _ _ => exact fun Q E p s B tw kp h => h
  | thread k ih => exact fun Q E p s B tw kp h => ih _ Q E p s B tw kp h
  | await _ _ _ _ _ => exact fun Q E p s B tw kp h => h
end GKeep
/-! ### a for loop over a generator: the consumer's side -/
namespace GKeep
open PySem
/-- every sleeper asleep for good -/
def lull (A : Array GenState) : Array GenState := A.map fun x => match x with
  | .suspended _ l c p fs cl => .suspended dead l c p fs cl
  | x => x
def Asleep (x : GenState) : Prop := ∃ k l c p fs cl, x = .suspended k l c p fs cl
/-- what sleeps stays as it is -/
def Stay (s r : Shared) : Prop := ∀ (i : Nat) (x : GenState), s.gens[i]? = some x → Asleep x → r.gens[i]? = some x
theorem Stay.refl (s : Shared) : Stay s s := fun _ _ h _ => h
theorem Stay.trans {s r t : Shared} (h : Stay s r) (k : Stay r t) : Stay s t := fun i x e a => k i x (h i x e a) a
theorem lull_tw (A : Array GenState) : Tw (lull A) A := by
  refine ⟨by unfold lull; rw [Array.size_map], fun i x e => ?_⟩
  unfold lull at e
  rw [Array.getElem?_map] at e
  cases h : A[i]? with
  | none =>
    rw [h] at e
    cases e
  | some y =>
    rw [h] at e
    refine ⟨y, rfl, ?_⟩
    obtain rfl := Option.some.inj e
    cases y with
    | suspended k l c p fs cl => exact .inr ⟨k, l, c, p, fs, cl, rfl, rfl⟩
    | fresh c => exact .inl ⟨rfl, True.intro⟩
    | running => exact .inl ⟨rfl, True.intro⟩
    | finished => exact .inl ⟨rfl, True.intro⟩
theorem lull_bare {A : Array GenState} (h : AllBare A) : AllBare (lull A) := fun y hy => by
  obtain ⟨i, hi, e⟩ := Array.mem_iff_getElem.mp hy
  obtain ⟨z, hz, st⟩ := (lull_tw A).at_ i y (by rw [Array.getElem?_eq_getElem hi, e])
  rw [st.bare]
  exact h z (Array.mem_of_getElem? hz)
theorem Tw.bare {A B : Array GenState} (t : Tw A B) (h : AllBare A) : AllBare B := fun y hy => by
  obtain ⟨i, hi, e⟩ := Array.mem_iff_getElem.mp hy
  have lt : i < A.size := by rw [t.size]; exact hi
  obtain ⟨z, hz, st⟩ := t.at_ i A[i] (Array.getElem?_eq_getElem lt)
  rw [Array.getElem?_eq_getElem hi, e] at hz
  obtain rfl := Option.some.inj hz
  rw [← st.bare]
  exact h _ (Array.getElem_mem lt)
/-- where s' stands the wish, r is it with the sleepers as they were -/
def Woke (s : Shared) (Q : Shared → Prop) (r : Shared) : Prop := ∃ s', r = { s' with gens := r.gens } ∧ Tw s'.gens r.gens ∧ Stay s r ∧ Q s'
theorem wpAny_keep {α : Type} {M : Model} {A : Around} {t : Sem α} {Q : α → Shared → Prop} {E : Value → Shared → Prop} {s : Shared} (h : wpAny M A t Q E { s with gens := lull s.gens }) : wpAny M A t (fun a r => Woke s (Q a) r) (fun e r => Woke s (E e) r) s := fun Γ p hΓ => by
  have key := wp_twin M Γ (lull s.gens) s.gens t _ _ p { s with gens := lull s.gens } s.gens (lull_tw _) (Kp.refl _ _) (h Γ p hΓ)
  have stay : ∀ (s' : Shared) (B' : Array GenState), Kp (lull s.gens) s.gens s'.gens B' → Stay s { s' with gens := B' } := fun s' B' kp i x e ⟨k, l, c, p, fs, cl, z⟩ => by
    subst z
    have e2 : (lull s.gens)[i]? = some (.suspended dead l c p fs cl) := by
      unfold lull
      rw [Array.getElem?_map, e]
      rfl
    exact ((kp i _ e2 rfl).2).trans e
  exact Sem.wp_mono M Γ t (fun a p' r ⟨s', B', e, tw, kp, q⟩ => ⟨s', by rw [e], by rw [e]; exact tw, by rw [e]; exact stay s' B' kp, q⟩) (fun a p' r ⟨s', B', e, tw, kp, q⟩ => ⟨s', by rw [e], by rw [e]; exact tw, by rw [e]; exact stay s' B' kp, q⟩) _ _ key
end GKeep

namespace L2
open PySem PySem.Spec PyProof.Rows GKeep
theorem Inv.gens {X : Cx} {pins : List (Addr × Obj)} {σ : L2.St} {H : Hp} {s : Shared} (I : Inv X pins σ H s) {G : Array GenState} (h : AllBare G) : Inv X pins σ H { s with gens := G } :=
  ⟨I.ok, I.os, h, I.base, I.loc, I.cell, I.free, I.freeC, I.pin, I.hok, I.len⟩
theorem Inv.twin {X : Cx} {pins : List (Addr × Obj)} {σ : L2.St} {H : Hp} {s r : Shared} (I : Inv X pins σ H s) (e : r = { s with gens := r.gens }) (tw : Tw s.gens r.gens) : Inv X pins σ H r := by
  rw [e]
  exact I.gens (tw.bare I.bare)
/-- an error does not see whether another generator sleeps -/
def Blind (X : Cx) : Prop := ∀ (e : Value) (s r : Shared), r = { s with gens := r.gens } → Tw s.gens r.gens → X.xe e s → X.xe e r
/-- a generator at a: its turns. St i fp s: i items are out; the records at fp are its own -/
structure GTurn (X : Cx) (pins : List (Addr × Obj)) (tg : Expr) (J : It) (a : Addr) (St : Nat → List Addr → Shared → Prop) : Prop where
  obj : ∀ i fp s, St i fp s → ∀ b ∈ fp, ∃ o, s.heap.get? b = some o ∧ ∀ v, o.data ≠ .cell v
  keep : ∀ i fp (s s' : Shared), St (i + 1) fp s → Stay s s' → (∀ b ∈ fp, ∀ o, s.heap.get? b = some o → s'.heap.get? b = some o) → (∃ pl σ H, Inv X (pins ++ pl) σ H s') → St (i + 1) fp s'
  item : ∀ i fp (s : Shared) σ H, Inv X pins σ H s → (∀ b ∈ fp, FpOk X pins H b) → St i fp s → J.go i H →
    wpAny (model X.prog X.w) X.A (pyNext (.ref a)) (fun r s1 => ∃ u, r = some u ∧
      wpAny (model X.prog X.w) X.A (letOwnedTupleGo tg (.ref a) u) (fun _ s2 => ∃ x H' fp', Inv X pins σ H' s2 ∧ RelV x u ∧ J.yld i H x H' ∧ St (i + 1) fp' s2 ∧ ∀ b ∈ fp', FpOk X pins H' b) X.xe s1) X.xe s
  done : ∀ i fp (s : Shared) σ H, Inv X pins σ H s → (∀ b ∈ fp, FpOk X pins H b) → St i fp s → J.stop i H → wpAny (model X.prog X.w) X.A (pyNext (.ref a)) (fun r s1 => r = none ∧ Inv X pins σ H s1) X.xe s
/-- an expression whose value is a generator -/
structure PGI (X : Cx) (tg iter : Expr) (wi : TI) : Prop where
  run : ∀ (pins : List (Addr × Obj)) (s : Shared) (σ : L2.St) (H : Hp) (R : It → Hp → Prop), Inv X pins σ H s → wi σ H R →
    wpAny (model X.prog X.w) X.A (eval iter X.env) (fun v s1 => wpAny (model X.prog X.w) X.A (pyIter v) (fun itv s2 => ∃ (a : Addr) (J : It) (St : Nat → List Addr → Shared → Prop) (fp : List Addr) (H' : Hp), itv = .ref a ∧ Inv X pins σ H' s2 ∧ GTurn X pins tg J a St ∧ St 0 fp s2 ∧ (∀ b ∈ fp, FpOk X pins H' b) ∧ R J H') X.xe s1) X.xe s
/-- for x in a generator: body -/
theorem ps_forG {X : Cx} {tg iter : Expr} {body : List Stmt} {wi : TI} {g : TG} {tb : TS} {pos : Pos} (hp : PassesOwn (model X.prog X.w) X.A X.env X.xe) (bl : Blind X) (hi : PGI X tg iter wi) (hg : PG X tg g) (hb : PSs X body tb)
    (hs : ∀ x, foldedSetIterable iter X.env x = pure x := by intro _; rfl) : PS X (.For tg iter body [] pos) (tFor wi g tb) := by
  refine ⟨fun pins s σ H D I h => ?_⟩
  refine wpAny_For (thn (hi.run pins s σ H _ I h) fun v s1 h1 => thn h1 fun itv s2 h2 => ?_) hs
  obtain ⟨a, J, St, fp, H2, e, I2, T, st2, f2, W, ⟨m0, w0⟩, turn⟩ := h2
  subst e
  have err : ∀ {s r : Shared} {e : Value}, Woke s (fun s' => X.xe e s') r → X.xe e r := fun ⟨s', q1, q2, _, q3⟩ => bl _ s' _ q1 q2 q3
  refine codeAny_forLoop_any (fun n s' => ∃ i fp σ' H', Inv X pins σ' H' s' ∧ St i fp s' ∧ (∀ b ∈ fp, FpOk X pins H' b) ∧ W i n σ' H') ?_ m0 ⟨0, fp, σ, H2, I2, st2, f2, w0⟩
  rintro n s3 ⟨i, fp, σ3, H3, I3, st3, f3, w3⟩
  rcases turn i n σ3 H3 w3 with ⟨stop, qn⟩ | ⟨go, N, hN, step⟩
  · refine wpAny_passesOwn hp (thn (T.done i fp s3 σ3 H3 I3 f3 st3 stop) fun r s4 ⟨hr, I4⟩ => ?_)
    subst hr
    exact wpAny_execs_nil ⟨σ3, H3, I4, qn⟩
  · refine wpAny_passesOwn hp (thn (T.item i fp s3 σ3 H3 I3 f3 st3 go) fun r s4 ⟨u, hr, h4⟩ => ?_)
    subst hr
    refine wpAny_passesOwn hp (thn h4 fun _ s5 ⟨x, H5, fp5, I5, r5, y5, st5, f5⟩ => ?_)
    have I5' := I5.pinned f5 (T.obj _ _ _ st5)
    refine wpAny_passesOwn hp (wpAny_mono (wpAny_keep (hg.run _ { s5 with gens := lull s5.gens } σ3 H5 x u _ (I5'.gens (lull_bare I5.bare)) r5 (step x H5 y5))) (fun _ s6 w6 => ?_) fun e r w => err w)
    obtain ⟨s6', e6, tw6, stay6, σ6, H6, I6, q6⟩ := w6
    have I6 := I6.twin e6 tw6
    refine wpAny_passesOwn hp (wpAny_mono (wpAny_keep (hb.run _ { s6 with gens := lull s6.gens } σ6 H6 _ (I6.gens (lull_bare I6.bare)) q6)) (fun f s7 w7 => ?_) fun e r w => err w)
    obtain ⟨s7', e7, tw7, stay7, q7⟩ := w7
    have stay := stay6.trans stay7
    have again : ∀ {σ7 : L2.St} {H7 : Hp}, Inv X (pins ++ pinsAt fp5 s5.heap) σ7 H7 s7' → N σ7 H7 → ∃ m, m < n ∧ ∃ i fp σ' H', Inv X pins σ' H' s7 ∧ St i fp s7 ∧ (∀ b ∈ fp, FpOk X pins H' b) ∧ W i m σ' H' := fun {σ7 H7} I7 n7 => by
      have I7 := I7.twin e7 tw7
      obtain ⟨m', hm, w7⟩ := hN σ7 H7 n7
      have pin : ∀ b ∈ fp5, ∀ o, s5.heap.get? b = some o → s7.heap.get? b = some o ∧ H7 b = none := fun b hb o e => by
        have := I7.pin (b, o) (List.mem_append_right _ (List.mem_append_right _ (mem_pinsAt hb e)))
        exact ⟨this.1, this.2.1⟩
      refine ⟨m', hm, i + 1, fp5, σ7, H7, I7.unpinned, T.keep i fp5 s5 s7 st5 stay (fun b hb o e => (pin b hb o e).1) ⟨_, _, _, I7⟩, fun b hb => ?_, w7⟩
      obtain ⟨o, e, d⟩ := T.obj _ _ _ st5 b hb
      exact ⟨(pin b hb o e).2, (f5 b hb).2⟩
    cases f with
    | next => obtain ⟨σ7, H7, I7, n7⟩ := q7; exact again I7 n7
    | cont => obtain ⟨σ7, H7, I7, n7⟩ := q7; exact again I7 n7
    | brk => obtain ⟨σ7, H7, I7, q7⟩ := q7; exact ⟨σ7, H7, (I7.twin e7 tw7).unpinned, q7⟩
    | ret v => obtain ⟨x7, σ7, H7, I7, r7, q7⟩ := q7; exact ⟨x7, σ7, H7, (I7.twin e7 tw7).unpinned, r7, q7⟩
end L2
/-! ### one turn of a generator: from where it was woken to where it hands out or ends -/
namespace GKeep
open PySem PySem.Spec PyProof.Rows GenW
section
variable {M : Model} {A : Around} {Z Z' : End → Shared → Prop} {c : Code} {fs : List Frame} {s : Shared}
def Turn1 (M : Model) (A : Around) (Z : End → Shared → Prop) (c : Code) (t : Sem PySem.Fin) (fs : List Frame) (s : Shared) : Prop :=
  ∀ (Γ : PySem.Ctx) (p : Pos), Γ.code = c → Γ.Woken A → ∃ e s', Runs M Γ p t fs s e s' ∧ Z e s'
theorem Turn1.imp {t : Sem PySem.Fin} (h : Turn1 M A Z c t fs s) (k : ∀ e s', Z e s' → Z' e s') : Turn1 M A Z' c t fs s := fun Γ p hc hΓ => by
  obtain ⟨e, s', r, z⟩ := h Γ p hc hΓ
  exact ⟨e, s', r, k e s' z⟩
theorem t1_wrap {α : Type} {m : Sem α} {K : α → Sem PySem.Fin} {J : Value → Sem PySem.Fin} {gd : Bool → Bool} {lv : List Value → List Value}
    (h : wpAny M (A.over c fs) m (fun a s' => Turn1 M A Z c (K a) fs s') (fun x s' => Turn1 M A Z c (J x) fs s') s) : Turn1 M A Z c (m.wrap K J gd lv) fs s := by
  rintro Γ p rfl hΓ
  exact runs_wrap_of_wp K J gd lv m (h (Γ.over fs) p (hΓ.over fs)) (fun a p' s' q => q Γ p' rfl hΓ) (fun x p' s' q => q Γ p' rfl hΓ)
theorem t1_bind {α : Type} {m : Sem α} {K : α → Sem PySem.Fin} (h : wpAny M (A.over c fs) m (fun a s' => Turn1 M A Z c (K a) fs s') (fun x s' => Turn1 M A Z c (.raise x) fs s') s) : Turn1 M A Z c (m >>= K) fs s := by
  rw [Sem.bind_eq_wrap']
  exact t1_wrap h
theorem t1_at {p' : Pos} {k : Unit → Sem PySem.Fin} (h : Turn1 M A Z c (k ()) fs s) : Turn1 M A Z c (.at p' k) fs s :=
  t1_wrap (m := standAt p') (K := k) (J := .raise) (gd := id) (lv := id) (wpAny_standAt h)
theorem t1_call {c' : Code} {h : Option Value} {g : Bool} {l : List Value} {k : Result → Sem PySem.Fin} (hc : ∀ p, Turn1 M A Z c' (M.den c') (.ret k h g l c p [] :: fs) s) : Turn1 M A Z c (.call c' h g l k) fs s := by
  rintro Γ p rfl hΓ
  obtain ⟨e, s', r, z⟩ := hc p (Γ.goto c') p rfl (hΓ.goto c')
  exact ⟨e, s', runs_call_seg r, z⟩
theorem t1_leaf {k : Result → Sem PySem.Fin} {h : Option Value} {g : Bool} {l kp : List Value} {c1 : Code} {p1 : Pos} (r : Result) (hk : Turn1 M A Z c1 (k r) fs s) : Turn1 M A Z c (leafOf r) (.ret k h g l c1 p1 kp :: fs) s := by
  rintro Γ p rfl hΓ
  obtain ⟨e, s', q, z⟩ := hk (Γ.goto c1) p1 rfl (hΓ.goto c1)
  exact ⟨e, s', Runs.pop r q, z⟩
theorem t1_again {c' : Code} (hq : c'.quiet = true) (hc : Turn1 M A Z c' (M.den c') fs s) : Turn1 M A Z c (.pure (.again c')) fs s := by
  rintro Γ p rfl hΓ
  obtain ⟨e, s', q, z⟩ := hc (Γ.goto c') p rfl (hΓ.goto c')
  exact ⟨e, s', Runs.head (c₁ := c') (fun _ _ x => .again hq x) q, z⟩
theorem t1_end (r : Result) (h : Z (.ret r) s) : Turn1 M A Z c (leafOf r) [] s := by
  rintro Γ p rfl _
  exact ⟨.ret r, s, Runs.leaf r, h⟩
theorem t1_yield {v : Value} {g : Bool} {l : List Value} {k : Resume → Sem PySem.Fin} (hfs : splitAtGen fs = none) (h : ∀ p, Z (.susp v g l k c p fs) s) : Turn1 M A Z c (.yield v g l k) fs s := by
  rintro Γ p rfl _
  exact ⟨_, s, Runs.yield' fs hfs, h p⟩
/-- a generator is woken -/
def Go1 (M : Model) (A : Around) (Z : End → Shared → Prop) (gs : GenState) (s : Shared) : Prop := match gs with
  | .fresh c => Turn1 M A Z c (M.den c) [] s
  | .suspended k _ c _ fs _ => Turn1 M A Z c (k (.send .none)) fs s
  | _ => False
theorem resume_one {g : Nat} {gs : GenState} {l : List Value} {α : Type} {k : GenResult → Sem α} {Q : α → Shared → Prop} {E : Value → Shared → Prop} (go : Go1 M A Z gs (s.setGen g .running)) (hg : s.gens[g]? = some gs)
    (hz : ∀ e s1, s.gens.size ≤ s1.gens.size → Z e s1 → e.quiet = true ∧ wpAny M A (k e.result) Q E (s1.setGen g e.genState)) : wpAny M A (.resume g (.send .none) l k) Q E s := by
  intro Γ p hΓ
  rw [Sem.wp_resume]
  cases gs with
  | fresh c =>
    obtain ⟨e, s1, r, z⟩ := go (Γ.wake c p) p rfl (hΓ.wake c p)
    obtain ⟨q, h⟩ := hz e s1 (by have := runs_gsz r; rw [setGen_size] at this; exact this) z
    refine ⟨e.result, _, ?_, h Γ p hΓ⟩
    unfold Wakes
    rw [hg]
    exact ⟨e, s1, r, q, rfl, rfl⟩
  | suspended k0 l0 c p0 fs cl =>
    obtain ⟨e, s1, r, z⟩ := go (Γ.wake c p) p0 rfl (hΓ.wake c p)
    obtain ⟨q, h⟩ := hz e s1 (by have := runs_gsz r; rw [setGen_size] at this; exact this) z
    refine ⟨e.result, _, ?_, h Γ p hΓ⟩
    unfold Wakes
    rw [hg]
    exact ⟨e, s1, r, q, rfl, rfl⟩
  | running => exact go.elim
  | finished => exact go.elim
end
section
variable {P : Program} {w : World} {A : Around} {E : Value → Shared → Prop} {s : Shared} {Z : End → Shared → Prop} {a : Addr} {g : Nat} {gs : GenState} {Q : Option Value → Shared → Prop}
/-- its end hands out, or it is over -/
def Told1 (g : Nat) (Q : Option Value → Shared → Prop) (e : End) (s1 : Shared) : Prop := match e with
  | .ret r => (r = .ok (.ret .none) ∨ r = .ok .next) ∧ ∀ h' : Heap, (∀ b o, s1.heap.get? b = some o → h'.get? b = some o) → Q none { s1.setGen g .finished with heap := h' }
  | .susp v _ _ _ _ _ _ => e.quiet = true ∧ Q (some v) (s1.setGen g e.genState)
theorem next_one (calm : A.handled = none) (free : s.heap.NoLimit) (deep : A.depth < recursionLimit) (hg : s.heap.IsGen a g) (hgs : s.gens[g]? = some gs)
    (go : Go1 (model P w) A.in1 Z gs (s.setGen g .running)) (hz : ∀ e s1, s.gens.size ≤ s1.gens.size → Z e s1 → Told1 g Q e s1) :
    wpAny (model P w) A (pyNext (.ref a)) Q E s := by
  have one : wpAny (model P w) A.in1 (Builtin.Generator.genWake (.ref a) (.send .none)) (fun v s' => ∃ u, v = .done (.ret u) ∧ Q (some u) s') (fun e s' => ∃ (b : Addr) (o : Obj), e = .ref b ∧ s'.heap.get? b = some o ∧ o.cls = .type "StopIteration" ∧ Q none s') s := by
    unfold Builtin.Generator.genWake
    refine wpAny_bind <| wpAny_holding <| wpAny_genNumber hg <| wpAny_bind <| wpAny_genState hgs ?_
    have after : ∀ (k : GenResult → Sem PySem.Fin), (∀ v, k (.yielded v) = .pure (.done (.ret v))) → (∀ s1 : Shared, (∀ h' : Heap, (∀ b o, s1.heap.get? b = some o → h'.get? b = some o) → Q none { s1.setGen g .finished with heap := h' }) → wpAny (model P w) A.in1 (k (.returned .none)) (fun v s' => ∃ u, v = .done (.ret u) ∧ Q (some u) s') (fun e s' => ∃ (b : Addr) (o : Obj), e = .ref b ∧ s'.heap.get? b = some o ∧ o.cls = .type "StopIteration" ∧ Q none s') (s1.setGen g .finished)) →
        wpAny (model P w) A.in1 (.resume g (.send .none) [] k) (fun v s' => ∃ u, v = .done (.ret u) ∧ Q (some u) s') (fun e s' => ∃ (b : Addr) (o : Obj), e = .ref b ∧ s'.heap.get? b = some o ∧ o.cls = .type "StopIteration" ∧ Q none s') s := fun k hy hr =>
      resume_one go hgs fun e s1 sz z => by
        have z := hz e s1 sz z
        cases e with
        | ret x =>
          obtain ⟨hx, hf⟩ := z
          have e : End.result (.ret x) = .returned .none := by
            rcases hx with hx | hx <;> rw [hx] <;> rfl
          rw [e]
          exact ⟨rfl, hr s1 hf⟩
        | susp v g0 l k0 c p fs =>
          refine ⟨z.1, ?_⟩
          show wpAny _ _ (k (.yielded v)) _ _ _
          rw [hy]
          exact wpAny_pure ⟨v, rfl, z.2⟩
    cases gs with
    | running => exact go.elim
    | finished => exact go.elim
    | fresh c =>
      refine wpAny_bind <| wpAny_roomToWake free deep ?_
      exact after _ (fun v => rfl) fun s1 hf => by
        show wpAny _ A.in1 (newExc (.type "StopIteration") [] >>= _) _ _ _
        refine wpAny_bind ?_
        simp only [newExc, newTuple]
        refine wpAny_bind <| wpAny_newObj_type ?_ (by size_fits)
        refine wpAny_bind (m := firstArgMember _ _) <| wpAny_of_eq (a := Value.none) (by first | rfl | (simp only [firstArgMember]; rfl)) ?_
        refine wpAny_newObj_type ?_ (by size_fits)
        simp only [raiseNew]
        refine wpAny_bind <| wpAny_bind <| wpAny_handled ?_
        rw [show A.in1.handled = none from calm]
        refine wpAny_throw ⟨_, _, rfl, Heap.get?_push_size _ rfl, rfl, ?_⟩
        exact hf _ fun b o hb => Heap.get?_push_of_some _ (Heap.get?_push_of_some _ hb)
    | suspended k l c p fs cl =>
      refine wpAny_bind <| wpAny_roomToWake free deep ?_
      exact after _ (fun v => rfl) fun s1 hf => by
        show wpAny _ A.in1 (newExc (.type "StopIteration") [] >>= _) _ _ _
        refine wpAny_bind ?_
        simp only [newExc, newTuple]
        refine wpAny_bind <| wpAny_newObj_type ?_ (by size_fits)
        refine wpAny_bind (m := firstArgMember _ _) <| wpAny_of_eq (a := Value.none) (by first | rfl | (simp only [firstArgMember]; rfl)) ?_
        refine wpAny_newObj_type ?_ (by size_fits)
        simp only [raiseNew]
        refine wpAny_bind <| wpAny_bind <| wpAny_handled ?_
        rw [show A.in1.handled = none from calm]
        refine wpAny_throw ⟨_, _, rfl, Heap.get?_push_size _ rfl, rfl, ?_⟩
        exact hf _ fun b o hb => Heap.get?_push_of_some _ (Heap.get?_push_of_some _ hb)
  unfold pyNext
  refine wpAny_bind <| wpAny_attempt <| wpAny_callSpecial?_slot (name := Str.ofString "__next__") hg.typeIs slot_gen_next <| wpAny_call_entry slot_gen_next hg.typeIs entry_gen_next ?_ (args_gen_next _)
  refine wpAny_mono one (fun v s' ⟨u, e, q⟩ => ?_) fun e s' ⟨b, o, e1, e2, e3, q⟩ => ?_
  · exact ⟨u, e, wpAny_pure q⟩
  · subst e1
    refine wpAny_bind <| wpAny_isInstance (T := "StopIteration") (b := true) ⟨o, e2, e3⟩ isSubtype_stop ?_
    exact wpAny_pure q
end
end GKeep

namespace L2
open PySem PySem.Spec PyProof.Rows GKeep GenW
section
variable {X : Cx} {D : Type}
/-- a generator that sleeps (or has not begun), i items out, r to come; d: where it stands; fp d: its own records -/
def Live (X : Cx) (pins : List (Addr × Obj)) (J : It) (Stand : Nat → D → Heap → Prop) (fp : D → List Addr) : Nat → Nat → D → GenState → Prop
  | 0, i, d, gs => ∀ (s : Shared) σ H, Inv X pins σ H s → (∀ b ∈ fp d, FpOk X pins H b) → Stand i d s.heap →
    Go1 (model X.prog X.w) X.A.in1 (fun e s1 => ∃ r, e = .ret r ∧ (r = .ok (.ret .none) ∨ r = .ok .next) ∧ Inv X pins σ H s1) gs s
  | r + 1, i, d, gs => ∀ (s : Shared) σ H, Inv X pins σ H s → (∀ b ∈ fp d, FpOk X pins H b) → Stand i d s.heap →
    Go1 (model X.prog X.w) X.A.in1 (fun e s1 => ∃ v g l k c p fs, e = .susp v g l k c p fs ∧ e.quiet = true ∧ ∃ x H' d', Inv X pins σ H' s1 ∧ RelV x v ∧ J.yld i H x H' ∧ (∀ b ∈ fp d', FpOk X pins H' b) ∧ Stand (i + 1) d' s1.heap ∧ Live X pins J Stand fp r (i + 1) d' e.genState) gs s
theorem gturn_of {pins : List (Addr × Obj)} {tg : Expr} {J : It} {Stand : Nat → D → Heap → Prop} {fp : D → List Addr} {a : Addr} {g n : Nat} (calm : X.calm = true) (deep : X.A.depth < recursionLimit)
    (hgo : ∀ i H, J.go i H → i < n) (hstop : ∀ i H, J.stop i H → n ≤ i) (isG : ∀ i d h, Stand i d h → h.IsGen a g) (ma : ∀ d, a ∈ fp d) (obj : ∀ i d h, Stand i d h → ∀ b ∈ fp d, ∃ o, h.get? b = some o ∧ ∀ v, o.data ≠ .cell v)
    (keep : ∀ i d (h h' : Heap), Stand i d h → (∀ b ∈ fp d, ∀ o, h.get? b = some o → h'.get? b = some o) → Stand i d h') :
    GTurn X pins tg J a (fun i fs s => ∃ d r gs, fs = fp d ∧ i + r = n ∧ Stand i d s.heap ∧ s.gens[g]? = some gs ∧ (0 < i → Asleep gs) ∧ Live X pins J Stand fp r i d gs) := by
  have upd_gen : ∀ {pins σ H} {s : Shared} {x : GenState}, Inv X pins σ H s → x.bare = true → Inv X pins σ H (s.setGen g x) := fun {pins σ H s x} I hx => I.gens (allBare_setGen I.bare hx)
  refine ⟨?_, ?_, ?_, ?_⟩
  · rintro i fs s ⟨d, r, gs, rfl, _, st, _⟩ b hb
    exact obj i d _ st b hb
  · rintro i fs s s' ⟨d, r, gs, rfl, e, st, hg, as, lv⟩ stay kp _
    exact ⟨d, r, gs, rfl, e, keep _ _ _ _ st kp, stay g gs hg (as (Nat.succ_pos i)), as, lv⟩
  · rintro i fs s σ H I f ⟨d, r, gs, rfl, e, st, hg, as, lv⟩ go
    have lt := hgo i H go
    obtain ⟨r, rfl⟩ : ∃ k, r = k + 1 := ⟨r - 1, by omega⟩
    have lv := lv (s.setGen g .running) σ H (upd_gen I rfl) f st
    refine next_one (I.ok.hd calm) I.nolimit deep (isG _ _ _ st) hg lv ?_
    rintro e1 s1 sz ⟨v, g0, l, k, c, p, fs, rfl, qu, x, H', d', I1, rv, y, f1, st1, lv1⟩
    have gl : g < s1.gens.size := Nat.lt_of_lt_of_le (Array.getElem?_eq_some_iff.mp hg).1 sz
    have I2 := upd_gen I1 (End.bare_of_quiet qu)
    obtain ⟨o, nm, qn, ho, hc, hd, _⟩ := isG _ _ _ st1
    refine ⟨qu, v, rfl, go_of (s := s1.setGen g _) ho hc hd (by decide) ⟨x, H', fp d', I2, rv, y, ⟨d', r, _, rfl, by omega, st1, setGen_at gl, fun _ => ⟨_, _, _, _, _, _, rfl⟩, lv1⟩, f1⟩⟩
  · rintro i fs s σ H I f ⟨d, r, gs, rfl, e, st, hg, as, lv⟩ stop
    have le := hstop i H stop
    obtain rfl : r = 0 := by omega
    have lv := lv (s.setGen g .running) σ H (upd_gen I rfl) f st
    refine next_one (I.ok.hd calm) I.nolimit deep (isG _ _ _ st) hg lv ?_
    rintro e1 s1 sz ⟨r, rfl, hr, I1⟩
    refine ⟨hr, fun h' kp => ⟨rfl, ?_⟩⟩
    have I2 := upd_gen (x := .finished) I1 rfl
    exact I2.kept (t' := s1.toks) kp
end
end L2
/-! ### statements within one turn of a generator -/
namespace GKeep
open PySem PySem.Spec PyProof.Rows GenW
section
variable {M : Model} {A : Around} {Z : End → Shared → Prop} {c : Code} {fs : List Frame} {s : Shared} {env : Env} {K : Flow → Sem PySem.Fin} {J : Value → Sem PySem.Fin} {gd : Bool → Bool} {lv : List Value → List Value}
theorem t1_point {l : List Value} {k : Unit → Sem PySem.Fin} (h : Turn1 M A Z c (k ()) fs s) : Turn1 M A Z c (.point l k) fs s :=
  t1_wrap (m := point) (K := k) (J := .raise) (gd := id) (lv := fun _ => l) (wpAny_point h)
theorem t1_execs_cons {st : Stmt} {rest : List Stmt} (h : Turn1 M A Z c ((exec st env).wrap (fun f => match f with
    | .next => (execs rest env).wrap K J gd lv
    | f => K f) J gd lv) fs s) : Turn1 M A Z c ((execs (st :: rest) env).wrap K J gd lv) fs s := by
  rw [execs_cons_wrap]
  exact h
theorem t1_Yield {e : Expr} {yp pos : Pos} (hfs : splitAtGen fs = none) (hco : env.scope.isCoroutine = false) (hi : interactive env = false)
    (h : wpAny M (A.over c fs) (eval e env) (fun v s' => ∀ (k : Resume → Sem PySem.Fin) (l : List Value) (p : Pos), (∀ {Z' : End → Shared → Prop} {s'' : Shared}, Turn1 M A Z' c (K .next) fs s'' → Turn1 M A Z' c (k (.send .none)) fs s'') → Z (.susp v (gd false) l k c p fs) s')
      (fun x s' => Turn1 M A Z c (J x) fs s') s) : Turn1 M A Z c ((exec (.Expr (.Yield (some e) yp) pos) env).wrap K J gd lv) fs s := by
  rw [exec_Expr env _ pos hi rfl]
  have plain : ∀ v, yieldOut env v = yieldValue v := fun v => by simp only [yieldOut, hco, Bool.false_eq_true, if_false]
  show Turn1 M A Z c (.at pos fun _ => ((eval e env >>= fun v => (standAt yp >>= fun _ => yieldOut env v)) >>= fun x => dropValue (.Yield (some e) yp) pos x).wrap K J gd lv) fs s
  simp only [plain]
  refine t1_at ?_
  rw [Sem.bind_eq_wrap', Sem.bind_eq_wrap', Sem.wrap_wrap, Sem.wrap_wrap]
  refine t1_wrap (wpAny_mono h (fun v s' h' => ?_) fun _ _ x => x)
  exact t1_at (t1_yield hfs fun p => h' _ _ p fun z => z)
theorem t1_For {target iter : Expr} {body orelse : List Stmt} {pos : Pos} (plain : ∀ x, foldedSetIterable iter env x = pure x)
    (h : wpAny M (A.over c fs) (eval iter env) (fun x s1 => wpAny M (A.over c fs) (pyIter x) (fun it s2 => ∀ p, Turn1 M A Z (.forLoop target it body orelse env) (M.den (.forLoop target it body orelse env))
      (.ret (fun r => ((match r with | .ok f => (.pure f : Sem Flow) | .error e => .raise e).onRaise (L2.cameBack env)).wrap K J gd lv) none (gd false) (lv []) c p [] :: fs) s2)
      (fun e s2 => Turn1 M A Z c (J e) fs s2) s1) (fun e s1 => Turn1 M A Z c (J e) fs s1) s) :
    Turn1 M A Z c ((exec (.For target iter body orelse pos) env).wrap K J gd lv) fs s := by
  rw [exec_For]
  refine t1_at ?_
  show Turn1 M A Z c (Sem.wrap K J gd lv (eval iter env >>= _)) fs s
  rw [Sem.bind_eq_wrap', Sem.wrap_wrap]
  refine t1_wrap (wpAny_mono h (fun x s1 h1 => ?_) fun _ _ z => z)
  rw [plain x]
  refine t1_at ?_
  show Turn1 M A Z c (Sem.wrap K J gd lv (holding [x] (pyIter x) >>= _)) fs s1
  rw [Sem.bind_eq_wrap', Sem.wrap_wrap]
  refine t1_wrap (wpAny_holding (wpAny_mono h1 (fun it s2 h2 => ?_) fun _ _ z => z))
  exact t1_call h2
end
section
variable {prog : Program} {w : World} {A : Around} {Z : End → Shared → Prop} {fs : List Frame} {s : Shared} {env : Env}
/-- an error is noted and goes on -/
def noted (env : Env) (e : Value) : Sem PySem.Fin := (do noteFrame e env; theTreesLotGoes e : Sem Unit).wrap (fun _ => .raise e) .raise id id
theorem t1_forLoop {target : Expr} {it : Value} {body orelse : List Stmt}
    (h : wpAny (model prog w) (A.over (.forLoop target it body orelse env) fs) (pyNext it) (fun r s1 => match r with
        | none => Turn1 (model prog w) A Z (.forLoop target it body orelse env) (.pure (.again (.block orelse env))) fs s1
        | some v => wpAny (model prog w) (A.over (.forLoop target it body orelse env) fs) (letOwnedTupleGo target it v) (fun _ s2 => wpAny (model prog w) (A.over (.forLoop target it body orelse env) fs) (assign target env v)
            (fun _ s3 => Turn1 (model prog w) A Z (.forLoop target it body orelse env) ((execs body env).wrap (fun f => match f with
              | .next | .cont => .pure (.again (.forLoop target it body orelse env))
              | .brk => .pure (.done .next)
              | .ret v => .pure (.done (.ret v))) (noted env) id id) fs s3)
            (fun e s3 => Turn1 (model prog w) A Z (.forLoop target it body orelse env) (noted env e) fs s3) s2)
          (fun e s2 => Turn1 (model prog w) A Z (.forLoop target it body orelse env) (noted env e) fs s2) s1)
      (fun e s1 => Turn1 (model prog w) A Z (.forLoop target it body orelse env) (noted env e) fs s1) s) :
    Turn1 (model prog w) A Z (.forLoop target it body orelse env) ((model prog w).den (.forLoop target it body orelse env)) fs s := by
  show Turn1 _ A Z _ ((forTurn target it body orelse env).onRaise (fun x => do noteFrame x env; theTreesLotGoes x)) fs s
  unfold forTurn
  have ev : ∀ e : Value, ((do noteFrame e env; theTreesLotGoes e : Sem Unit) >>= fun _ => (.raise e : Sem PySem.Fin)) = noted env e := fun e => Sem.bind_eq_wrap' _ _
  have fly : ∀ (e : Value) (t : Shared), Turn1 (model prog w) A Z (.forLoop target it body orelse env) (noted env e) fs t → Turn1 (model prog w) A Z (.forLoop target it body orelse env) ((do noteFrame e env; theTreesLotGoes e : Sem Unit) >>= fun _ => (.raise e : Sem PySem.Fin)) fs t := fun e t z => by
    rw [ev e]
    exact z
  rw [Sem.onRaise_eq_wrap]
  refine t1_at ?_
  show Turn1 _ A Z _ (Sem.wrap _ _ _ _ ((pyNext it).onRaise (fun _ => standAt { target.pos with line := 0 }) >>= _)) fs s
  rw [Sem.bind_eq_wrap', Sem.wrap_wrap]
  refine t1_wrap (wpAny_onRaise (wpAny_mono h (fun r s1 h1 => ?_) fun e s1 h1 => wpAny_standAt ?_))
  · cases r with
    | none => exact h1
    | some v =>
      show Turn1 _ A Z _ (Sem.wrap _ _ _ _ (letOwnedTupleGo target it v >>= _)) fs s1
      rw [Sem.bind_eq_wrap', Sem.wrap_wrap]
      refine t1_wrap (wpAny_mono h1 (fun _ s2 h2 => ?_) fun e s2 h2 => ?_)
      · show Turn1 _ A Z _ (Sem.wrap _ _ _ _ (assign target env v >>= _)) fs s2
        rw [Sem.bind_eq_wrap', Sem.wrap_wrap]
        refine t1_wrap (wpAny_mono h2 (fun _ s3 h3 => ?_) fun e s3 h3 => ?_)
        · show Turn1 _ A Z _ (Sem.wrap _ _ _ _ (execs body env >>= _)) fs s3
          rw [Sem.bind_eq_wrap', Sem.wrap_wrap]
          exact cast (congrArg (fun t => Turn1 (model prog w) A Z (.forLoop target it body orelse env) t fs s3) (Sem.wrap_congr (execs body env) _ _ (fun f => by cases f <;> rfl) (fun e => ev e)).symm) h3
        · exact fly e _ h3
      · exact fly e _ h2
  · exact fly e _ h1
end
section
variable {prog : Program} {w : World} {A : Around} {Z : End → Shared → Prop} {fs : List Frame} {s : Shared} {env : Env}
theorem t1_func {body : List Stmt} (h : Turn1 (model prog w) A Z (.func body env) ((execs body env).wrap (fun f => .pure (.done (.ret (match f with
    | .ret v => v
    | _ => .none)))) (fun e => (leaving env e).wrap (fun _ => .raise e) .raise id id) id id) fs s) : Turn1 (model prog w) A Z (.func body env) ((model prog w).den (.func body env)) fs s := by
  show Turn1 _ A Z _ (.point [] fun _ => ((execs body env).onRaise (leaving env)) >>= _) fs s
  refine t1_point ?_
  rw [Sem.onRaise_eq_wrap, Sem.bind_eq_wrap', Sem.wrap_wrap]
  exact cast (congrArg (fun t => Turn1 (model prog w) A Z (.func body env) t fs s) (Sem.wrap_congr (execs body env) _ _ (fun f => by cases f <;> rfl) (fun e => by rw [Sem.bind_eq_wrap, Sem.wrap_wrap]; rfl)).symm) h
end
end GKeep
/-! ### a generator's frame within its consumer: its context is made anew at each turn -/
namespace L2
open PySem PySem.Spec PyProof.Rows GKeep GenW
def cutH (h : Heap) (L : Nat) : Heap := ⟨h.objs.extract 0 L, h.life⟩
theorem cut_get {h : Heap} {L b : Nat} (lt : b < L) : (cutH h L).get? b = h.get? b := by
  unfold cutH Heap.get?
  rw [show (h.objs.extract 0 L)[b]? = h.objs[b]? by
    rw [Array.getElem?_extract, Nat.zero_add, Nat.sub_zero]
    by_cases c : b < min L h.objs.size
    · rw [if_pos c]
    · rw [if_neg c, Array.getElem?_eq_none (by omega)]]
theorem cut_size {h : Heap} {L : Nat} (le : L ≤ h.objs.size) : (cutH h L).objs.size = L := by
  show (h.objs.extract 0 L).size = L
  rw [Array.size_extract]
  omega
theorem cut_of {h : Heap} {L b : Nat} {o : Obj} (le : L ≤ h.objs.size) (e : (cutH h L).get? b = some o) : b < L ∧ h.get? b = some o := by
  have lt := Heap.lt_size e
  rw [cut_size le] at lt
  rw [cut_get lt] at e
  exact ⟨lt, e⟩
def gX (X : Cx) (N : List Str) (qual : Str) (scope : Scope) (f : Addr) (cd : Value) (L : Addr) (pn : List (Addr × Obj)) (s : Shared) (H : Hp) : Cx where
  prog := X.prog
  w := X.w
  K := X.K
  mg := X.mg
  base := X.base
  A := X.A.in1.deeper (envOfC qual scope L f cd)
  N := N
  s_0 := { s with heap := cutH s.heap L }
  H_0 := H
  env := envOfC qual scope L f cd
  outer := X.stack
  stack := envOfC qual scope L f cd :: X.stack
  ex := []
  fn := fun _ => true
  calm := true
  pn := pn
  xe := fun _ _ => False
/-- older than the generator's frame -/
structure Old (X : Cx) (pins : List (Addr × Obj)) (L : Addr) : Prop where
  s0 : X.s_0.heap.objs.size ≤ L
  loc : X.env.locals < L
  cell : ∀ x c, X.env.cells.lookup x = some c → c < L
  pin : ∀ p ∈ X.pn ++ pins, p.1 < L
section
variable {X : Cx} {pins : List (Addr × Obj)} {σc σ : L2.St} {H H' : Hp} {s s1 : Shared} {N ps : List Str} {qual : Str} {scope : Scope} {f L : Addr} {cd : Value} {pn pg : List (Addr × Obj)}
theorem Old.frs (old : Old X pins L) (I : Inv X pins σc H s) {b : Addr} (hb : b ∈ frs X.stack) : b < L := by
  rcases List.mem_cons.mp (I.stkSub b hb) with rfl | h
  · exact old.loc
  · obtain ⟨_, o, ho, _⟩ := I.ok.funs.mem h
    exact Nat.lt_of_lt_of_le (Heap.lt_size ho) old.s0
theorem reroot (I : Inv X pins σc H s) (old : Old X pins L) (calm : X.A.handled = none) (kind : scope.kind = .function) (plain : ∀ y ∈ scope.names, y.2 ≠ .cell ∧ y.2 ≠ .free) (nc : cellsFrom (L + 1) scope.names [] = []) (sz : L ≤ s.heap.objs.size) (HL : H L = none)
    (ns : ∃ m, s.heap.Ns L m ∧ ∀ (i : Nat) (x : Str) (v : V), N[i]? = some x → σ[i]? = some (some v) → Vis scope x → ∃ u, RelV v u ∧ Look (envOfC qual scope L f cd) s.heap m x u) (len : σ.length = N.length)
    (hpn : ∀ p ∈ pn, s.heap.get? p.1 = some p.2 ∧ H p.1 = none ∧ p.1 ≠ L ∧ L ≤ p.1 ∧ ∀ v, p.2.data ≠ .cell v) : Inv (gX X N qual scope f cd L pn s H) [] σ H s := by
  have none_of : ∀ x c, (gX X N qual scope f cd L pn s H).env.cells.lookup x ≠ some c := fun x c e => by
    have e : (cellsFrom (L + 1) scope.names []).lookup x = some c := e
    rw [nc] at e
    cases e
  have funs : (cutH s.heap L).FunFrames X.base X.stack := by
    have all : ∀ l : List Env, (∀ b ∈ L2.frs l, b < L) → s.heap.FunFrames X.base l → (cutH s.heap L).FunFrames X.base l := by
      intro l
      induction l with
      | nil => exact fun _ _ => True.intro
      | cons env r ih =>
        intro hs hl
        obtain ⟨hk, ⟨a, o, hf, hn, ho, hd⟩, hr⟩ := hl
        have lt : a < L := hs a (by unfold L2.frs; rw [List.filterMap_cons, hf]; exact List.mem_cons_self)
        refine ⟨hk, ⟨a, o, hf, hn, by rw [cut_get lt]; exact ho, hd⟩, ih (fun b hb => hs b ?_) hr⟩
        unfold L2.frs
        rw [List.filterMap_cons, hf]
        exact List.mem_cons_of_mem _ hb
    exact all _ (fun b hb => old.frs I hb) I.stack
  have bsz : X.base.objs.size ≤ L := Nat.le_trans I.ok.bsz old.s0
  refine ⟨⟨I.ok.mod, kind, rfl, rfl, ?_, fun x y c e => absurd e (none_of x c), fun x hx => ?_, fun x c _ e => absurd e (none_of x c), fun _ => calm, ?_, .inr ⟨rfl, rfl⟩, fun b hb => (List.not_mem_nil hb).elim, fun b o e => ?_, ?_, fun b o _ h => List.not_mem_nil h, fun b hb => (List.not_mem_nil hb).elim, funs, fun b hb => I.stkFree b hb⟩,
    rfl, I.bare, ⟨fun b o e _ _ _ => (cut_of sz e).2, fun b o e _ _ _ => ⟨o.slots, (cut_of sz e).2⟩, fun _ _ _ h _ => h, fun b o e _ => ⟨o, (cut_of sz e).2⟩, fun _ _ h => h, fun _ _ _ h => h, fun b ps h => ⟨#[], (show H b = some (.tbl (ps ++ #[])) by rw [show ps ++ #[] = ps by simp]; exact h)⟩⟩, ns, fun x c e => absurd e (none_of x c), HL, fun x c e => absurd e (none_of x c), fun p hp => ?_, I.hok, len⟩
  · show (cutH s.heap L).objs.size ≤ L
    rw [cut_size sz]
    exact Nat.le_refl _
  · have hx : scope.names.lookup x = some .cell ∨ scope.names.lookup x = some .free := hx
    rcases hx with hx | hx
    · exact absurd rfl (plain _ (PySem.mem_of_lookup hx)).1
    · exact absurd rfl (plain _ (PySem.mem_of_lookup hx)).2
  · show (X.A.in1.deeper (envOfC qual scope L f cd)).frames = some (envOfC qual scope L f cd :: X.stack)
    exact Around.frames_deeper I.ok.frames
  · have lt : b < L := Nat.lt_of_lt_of_le (Heap.lt_size e) bsz
    obtain ⟨h1, h2⟩ := I.bs b o e
    exact ⟨by show (cutH s.heap L).get? b = some o; rw [cut_get lt]; exact h1, h2⟩
  · show X.base.objs.size ≤ (cutH s.heap L).objs.size
    rw [cut_size sz]
    exact bsz
  · rw [List.append_nil] at hp
    obtain ⟨h1, h2, h3, h4, h5⟩ := hpn p hp
    exact ⟨h1, h2, h3, fun z => absurd (old.frs I z) (Nat.not_lt.mpr h4), h5⟩
theorem goback (I : Inv X pins σc H s) (old : Old X pins L) (sz : L ≤ s.heap.objs.size) (J : Inv (gX X N qual scope f cd L pn s H) pg σ H' s1) : Inv X pins σc H' s1 := by
  have cut : ∀ b o, s.heap.get? b = some o → b ∉ (List.range s.heap.objs.size).filter (fun b => decide (L ≤ b)) → (cutH s.heap L).get? b = some o := fun b o e hb => by
    have lt : b < L := by
      rcases Nat.lt_or_ge b L with h | h
      · exact h
      · exact absurd (List.mem_filter.mpr ⟨List.mem_range.mpr (Heap.lt_size e), decide_eq_true h⟩) hb
    rw [cut_get lt]
    exact e
  have none : ∀ b : Addr, b ∉ (gX X N qual scope f cd L pn s H).ex := fun b h => List.not_mem_nil h
  refine I.call' (ch := (List.range s.heap.objs.size).filter (fun b => decide (L ≤ b))) J.os ⟨fun b o e h hf hc => J.base.keep b o (cut b o e hc) h hf (none b), fun b o e h hf hc => J.base.slot b o (cut b o e hc) h hf (none b), fun b o e h hc => J.base.free b o (cut b o e hc) h (none b), fun b o e hc => J.base.there b o (cut b o e hc) (none b), J.base.tups, J.base.frzs, J.base.tbls⟩ J.hok J.bare fun b hb => ?_
  have ge : L ≤ b := of_decide_eq_true (List.mem_filter.mp hb).2
  refine ⟨.inr (Nat.le_trans old.s0 ge), fun z => ?_, fun x c e z => ?_, fun p hp z => ?_⟩
  · exact absurd (z ▸ ge) (Nat.not_le.mpr old.loc)
  · exact absurd (z ▸ ge) (Nat.not_le.mpr (old.cell x c e))
  · exact absurd (z ▸ ge) (Nat.not_le.mpr (old.pin p hp))
end
end L2
/-! ### a generator whose body is: for x in ..: yield e -/
namespace L2
open PySem PySem.Spec PyProof.Rows GKeep GenW
/-- where it stands: not begun, or within its loop (its iterator, that one's records, its standing) -/
abbrev GD := Option (Addr × List Addr × (Nat → Heap → Prop))
def gfp (a L : Addr) : GD → List Addr
  | none => [a, L]
  | some (_, fi, _) => a :: L :: fi
section
variable {X : Cx} {pins : List (Addr × Obj)} {N : List Str} {qual : Str} {scope : Scope} {f a L g n : Nat} {cd : Value} {go : Obj} {tg iter : Expr} {e : Expr} {yp pos pos' : Pos} {wi : TI} {tt : TG} {te : TE} {J1 J : It} {W : Nat → L2.St → Prop}
/-- what stands of it in the heap -/
def GStand (X : Cx) (N : List Str) (qual : Str) (scope : Scope) (f : Addr) (cd : Value) (a L g : Addr) (go : Obj) (tg : Expr) (J1 : It) (W : Nat → L2.St → Prop) (i : Nat) (d : GD) (h : Heap) : Prop :=
  h.get? a = some go ∧ L < h.objs.size ∧ (∃ σ, W i σ ∧ σ.length = N.length ∧ ∃ m, h.Ns L m ∧ ∀ (i : Nat) (x : Str) (v : V), N[i]? = some x → σ[i]? = some (some v) → Vis scope x → ∃ u, RelV v u ∧ Look (envOfC qual scope L f cd) h m x u) ∧
    match d with
    | none => True
    | some (it, fi, tn) => Turn X.prog X.w X.K tg J1 fi it tn ∧ tn i h ∧ ∀ b ∈ fi, L < b ∧ b ≠ a
structure GenOk (X : Cx) (pins : List (Addr × Obj)) (N : List Str) (qual : Str) (scope : Scope) (f : Addr) (cd : Value) (a L g n : Nat) (go : Obj) (tg iter e : Expr) (wi : TI) (tt : TG) (te : TE) (J1 J : It) (W : Nat → L2.St → Prop) : Prop where
  old : Old X pins L
  calm : X.calm = true
  kind : scope.kind = .function
  nco : scope.isCoroutine = false
  plain : ∀ y ∈ scope.names, y.2 ≠ .cell ∧ y.2 ≠ .free
  nc : cellsFrom (L + 1) scope.names [] = []
  la : L < a
  gone : (∃ nm qn, go.cls = .type "generator" ∧ go.data = .fields #[.int g 0, nm, qn]) ∧ go.slots = #[]
  hi : ∀ s H, PI (gX X N qual scope f cd L [(a, go)] s H) tg iter wi
  hg : ∀ s H, PG (gX X N qual scope f cd L [(a, go)] s H) tg tt
  he : ∀ s H, PE (gX X N qual scope f cd L [(a, go)] s H) e te
  fold : ∀ x, foldedSetIterable iter (envOfC qual scope L f cd) x = pure x
  nint : interactive (envOfC qual scope L f cd) = false
  w0 : ∀ σ H, W 0 σ → wi σ H fun J2 H1 => J2 = J1 ∧ Same H H1
  turn : ∀ i σ, W i σ → i < n → ∀ H, J1.go i H ∧ ∀ x H', J1.yld i H x H' → tt x σ H' fun σ2 H2 => te σ2 H2 fun y H3 => J.yld i H y H3 ∧ W (i + 1) σ2
  stop : ∀ σ H, W n σ → J1.stop n H
  mono : ∀ i H H1 y H3, Same H H1 → J.yld i H1 y H3 → J.yld i H y H3
  n0 : 0 < n
variable (G : GenOk X pins N qual scope f cd a L g n go tg iter e wi tt te J1 J W)
include G
/-- the context of a turn is made anew -/
theorem GenOk.into {s : Shared} {σc : L2.St} {H : Hp} {i : Nat} {d : GD} (I : Inv X pins σc H s) (fo : ∀ b ∈ gfp a L d, FpOk X pins H b) (st : GStand X N qual scope f cd a L g go tg J1 W i d s.heap) : ∃ σ, W i σ ∧ Inv (gX X N qual scope f cd L [(a, go)] s H) [] σ H s := by
  obtain ⟨ha, lt, ⟨σ, w, len, ns⟩, _⟩ := st
  have hL : H L = none := (fo L (by cases d <;> simp [gfp])).1
  have hA : H a = none := (fo a (by cases d <;> simp [gfp])).1
  obtain ⟨⟨nm, qn, _, gd⟩, _⟩ := G.gone
  refine ⟨σ, w, reroot I G.old (I.ok.hd G.calm) G.kind G.plain G.nc (Nat.le_of_lt lt) hL ns len fun p hp => ?_⟩
  obtain rfl := List.mem_singleton.mp hp
  exact ⟨ha, hA, fun z => absurd G.la (by rw [show L = a from z.symm]; exact Nat.lt_irrefl _), Nat.le_of_lt G.la, fun v z => by rw [show go.data = _ from gd] at z; cases z⟩
/-- its own records are none of the consumer's -/
theorem GenOk.apart {b : Addr} {H : Hp} (I : ∃ (s : Shared) (σc : L2.St) (H : Hp), Inv X pins σc H s) (hb : L ≤ b) (hn : H b = none) : FpOk X pins H b := by
  obtain ⟨s, σc, H0, I⟩ := I
  refine ⟨hn, fun z => absurd (z ▸ hb) (Nat.not_le.mpr G.old.loc), fun z => ?_, .inr (Nat.le_trans G.old.s0 hb), fun x c e z => absurd (z ▸ hb) (Nat.not_le.mpr (G.old.cell x c e)), fun p hp z => absurd (z ▸ hb) (Nat.not_le.mpr (G.old.pin p hp))⟩
  obtain ⟨_, o, ho, _⟩ := I.ok.funs.mem z
  exact absurd hb (Nat.not_le.mpr (Nat.lt_of_lt_of_le (Heap.lt_size ho) G.old.s0))
/-- the loop's turn that hands out -/
theorem GenOk.yields {fs : List Frame} {Z : End → Shared → Prop} {sW s : Shared} {σc σ : L2.St} {HW H : Hp} {i it : Nat} {fi : List Addr} {tn : Nat → Heap → Prop} (hfs : splitAtGen fs = none)
    (ov : X.A.in1.over (.forLoop tg (.ref it) [.Expr (.Yield (some e) yp) pos'] [] (envOfC qual scope L f cd)) fs = X.A.in1.deeper (envOfC qual scope L f cd)) (IW : Inv X pins σc HW sW) (sz : L ≤ sW.heap.objs.size) (I : Inv (gX X N qual scope f cd L [(a, go)] sW HW) [] σ H s)
    (s01 : Same HW H) (w : W i σ) (lt : i < n) (T : Turn X.prog X.w X.K tg J1 fi it tn) (st : tn i s.heap) (fr : ∀ b ∈ fi, FpOk (gX X N qual scope f cd L [(a, go)] sW HW) [] H b)
    (hz : ∀ v k l p s1 x H', Inv X pins σc H' s1 → RelV x v → J.yld i HW x H' → (∀ b ∈ gfp a L (some (it, fi, tn)), FpOk X pins H' b) → GStand X N qual scope f cd a L g go tg J1 W (i + 1) (some (it, fi, tn)) s1.heap →
      (∀ {Z' : End → Shared → Prop} {s2 : Shared}, Turn1 (model X.prog X.w) X.A.in1 Z' (.forLoop tg (.ref it) [.Expr (.Yield (some e) yp) pos'] [] (envOfC qual scope L f cd)) (.pure (.again (.forLoop tg (.ref it) [.Expr (.Yield (some e) yp) pos'] [] (envOfC qual scope L f cd)))) fs s2 →
        Turn1 (model X.prog X.w) X.A.in1 Z' (.forLoop tg (.ref it) [.Expr (.Yield (some e) yp) pos'] [] (envOfC qual scope L f cd)) (k (.send .none)) fs s2) →
      Z (.susp v false l k (.forLoop tg (.ref it) [.Expr (.Yield (some e) yp) pos'] [] (envOfC qual scope L f cd)) p fs) s1) :
    Turn1 (model X.prog X.w) X.A.in1 Z (.forLoop tg (.ref it) [.Expr (.Yield (some e) yp) pos'] [] (envOfC qual scope L f cd)) ((model X.prog X.w).den (.forLoop tg (.ref it) [.Expr (.Yield (some e) yp) pos'] [] (envOfC qual scope L f cd))) fs s := by
  refine t1_forLoop ?_
  rw [ov]
  obtain ⟨go1, step⟩ := G.turn i σ w lt H
  have stat : ∀ {H' : Hp}, (∀ b ∈ fi, H' b = none) → ∀ b ∈ fi, FpOk (gX X N qual scope f cd L [(a, go)] sW HW) [] H' b := fun hn b hb => ⟨hn b hb, (fr b hb).2⟩
  refine wpAny_mono (T.item (gX X N qual scope f cd L [(a, go)] sW HW) rfl rfl rfl rfl i [] s σ H (fun _ _ => False) I fr st go1) (fun rr s1 h1 => ?_) fun _ _ he => he.elim
  obtain ⟨u, rfl, h4⟩ := h1
  refine wpAny_mono h4 (fun _ s2 h5 => ?_) fun _ _ he => he.elim
  obtain ⟨x, H5, I5, r5, y5, st5, fr5⟩ := h5
  have I5' := I5.pinned (stat fr5) (T.obj _ _ st5)
  refine wpAny_mono ((G.hg sW HW).run _ s2 σ H5 x u _ I5' r5 (step x H5 y5)) (fun _ s3 h6 => ?_) fun _ _ he => he.elim
  obtain ⟨σ6, H6, I6, q6⟩ := h6
  refine t1_execs_cons ?_
  refine t1_Yield hfs G.nco G.nint ?_
  rw [ov]
  refine wpAny_mono ((G.he sW HW).run _ s3 σ6 H6 _ I6 q6) (fun v s4 hv k l p cont => ?_) fun _ _ he => he.elim
  obtain ⟨y, H7, I7, rv, yl, w7⟩ := hv
  have own : ∀ b ∈ fi, ∀ o, s2.heap.get? b = some o → s4.heap.get? b = some o ∧ H7 b = none := fun b hb o eo => by
    have := I7.pin (b, o) (List.mem_append_right _ (List.mem_append_right _ (mem_pinsAt hb eo)))
    exact ⟨this.1, this.2.1⟩
  have pa := I7.pin (a, go) (List.mem_append_left _ (List.mem_singleton.mpr rfl))
  have far : ∀ b ∈ fi, L < b ∧ b ≠ a := fun b hb => by
    obtain ⟨_, n1, _, n2, _, n3⟩ := fr b hb
    have ge : L ≤ b := by
      rcases n2 with z | z
      · exact (List.not_mem_nil z).elim
      · have z : (cutH sW.heap L).objs.size ≤ b := z
        rw [cut_size sz] at z
        exact z
    exact ⟨Nat.lt_of_le_of_ne ge (fun z => n1 z.symm), fun z => n3 (a, go) (List.mem_append_left _ (List.mem_singleton.mpr rfl)) z.symm⟩
  refine hz v k l p s4 y H7 (goback IW G.old sz I7) rv (G.mono i HW H y H7 s01 yl) (fun b hb => ?_) ⟨pa.1, I7.lt, ⟨σ6, w7, I7.len, I7.loc⟩, T, T.keep _ _ _ st5 fun b hb o eo => (own b hb o eo).1, far⟩ fun h => cont h
  rcases List.mem_cons.mp hb with rfl | hb
  · exact G.apart ⟨sW, σc, HW, IW⟩ (Nat.le_of_lt G.la) pa.2.1
  rcases List.mem_cons.mp hb with rfl | hb
  · exact G.apart ⟨sW, σc, HW, IW⟩ (Nat.le_refl _) I7.free
  · obtain ⟨o, eo, _⟩ := T.obj _ _ st5 b hb
    exact G.apart ⟨sW, σc, HW, IW⟩ (Nat.le_of_lt (far b hb).1) (own b hb o eo).2
/-- the frame below its loop -/
structure FrOk (X : Cx) (qual : Str) (scope : Scope) (f : Addr) (cd : Value) (L : Addr) (tg e : Expr) (yp pos' : Pos) (fs : List Frame) : Prop where
  split : splitAtGen fs = none
  guard : fs.any Frame.guarded = false
  over : ∀ it, X.A.in1.over (.forLoop tg (.ref it) [.Expr (.Yield (some e) yp) pos'] [] (envOfC qual scope L f cd)) fs = X.A.in1.deeper (envOfC qual scope L f cd)
  leaf : ∀ {Z : End → Shared → Prop} {s : Shared} {c : Code}, Z (.ret (.ok (.ret .none))) s → Turn1 (model X.prog X.w) X.A.in1 Z c (leafOf (.ok .next)) fs s
omit G in
theorem self_own {H : Hp} {s : Shared} {σc : L2.St} {b : Addr} (I : Inv X pins σc H s) (old : Old X pins L) (nc : cellsFrom (L + 1) scope.names [] = []) (sz : L ≤ s.heap.objs.size) (hn : H b = none) (lt : L < b) (na : b ≠ a) : FpOk (gX X N qual scope f cd L [(a, go)] s H) [] H b := by
  refine ⟨hn, fun z => Nat.lt_irrefl _ (z ▸ lt), fun z => absurd (old.frs I z) (Nat.not_lt.mpr (Nat.le_of_lt lt)), .inr (by show (cutH s.heap L).objs.size ≤ b; rw [cut_size sz]; exact Nat.le_of_lt lt), fun x c e => ?_, fun p hp z => ?_⟩
  · have e : (cellsFrom (L + 1) scope.names []).lookup x = some c := e
    rw [nc] at e
    cases e
  · have hp : p ∈ [(a, go)] ++ [] := hp
    rw [List.append_nil] at hp
    obtain rfl := List.mem_singleton.mp hp
    exact na z.symm
theorem GenOk.lives {fs : List Frame} (fr : FrOk X qual scope f cd L tg e yp pos' fs) : ∀ (r i : Nat), i + r = n → ∀ (it : Addr) (fi : List Addr) (tn : Nat → Heap → Prop) (k : Resume → Sem PySem.Fin) (l : List Value) (p : Pos) (cl : Bool),
    (∀ {Z' : End → Shared → Prop} {s2 : Shared}, Turn1 (model X.prog X.w) X.A.in1 Z' (.forLoop tg (.ref it) [.Expr (.Yield (some e) yp) pos'] [] (envOfC qual scope L f cd)) (.pure (.again (.forLoop tg (.ref it) [.Expr (.Yield (some e) yp) pos'] [] (envOfC qual scope L f cd)))) fs s2 →
        Turn1 (model X.prog X.w) X.A.in1 Z' (.forLoop tg (.ref it) [.Expr (.Yield (some e) yp) pos'] [] (envOfC qual scope L f cd)) (k (.send .none)) fs s2) →
    Live X pins J (GStand X N qual scope f cd a L g go tg J1 W) (gfp a L) r i (some (it, fi, tn)) (.suspended k l (.forLoop tg (.ref it) [.Expr (.Yield (some e) yp) pos'] [] (envOfC qual scope L f cd)) p fs cl) := by
  intro r
  induction r with
  | zero =>
    intro i hi it fi tn k l p cl cont s σc H I fo st
    obtain rfl : i = n := by omega
    obtain ⟨σ, w, IX⟩ := G.into I fo st
    obtain ⟨_, lt, _, T, st1, far⟩ := st
    refine cont (t1_again rfl (t1_forLoop ?_))
    rw [fr.over]
    have sz := Nat.le_of_lt lt
    have fr1 : ∀ b ∈ fi, FpOk (gX X N qual scope f cd L [(a, go)] s H) [] H b := fun b hb => self_own I G.old G.nc sz (fo b (List.mem_cons_of_mem _ (List.mem_cons_of_mem _ hb))).1 (far b hb).1 (far b hb).2
    refine wpAny_mono (T.done (gX X N qual scope f cd L [(a, go)] s H) rfl rfl rfl rfl _ [] s σ H (fun _ _ => False) IX fr1 st1 (G.stop σ H w)) (fun rr s1 h1 => ?_) fun _ _ he => he.elim
    obtain ⟨rfl, I1⟩ := h1
    exact t1_again rfl (fr.leaf ⟨_, rfl, .inl rfl, goback I G.old sz I1⟩)
  | succ r ih =>
    intro i hi it fi tn k l p cl cont s σc H I fo st
    obtain ⟨σ, w, IX⟩ := G.into I fo st
    obtain ⟨_, lt, _, T, st1, far⟩ := st
    have sz := Nat.le_of_lt lt
    have fr1 : ∀ b ∈ fi, FpOk (gX X N qual scope f cd L [(a, go)] s H) [] H b := fun b hb => self_own I G.old G.nc sz (fo b (List.mem_cons_of_mem _ (List.mem_cons_of_mem _ hb))).1 (far b hb).1 (far b hb).2
    refine cont (t1_again rfl (G.yields fr.split (fr.over it) I sz IX (fun _ _ h => h) w (by omega) T st1 fr1 fun v k' l' p' s1 x H' I1 rv yl fo' st' cont' => ?_))
    refine ⟨v, false, l', k', _, p', fs, rfl, ?_, x, H', some (it, fi, tn), I1, rv, yl, fo', st', ih (i + 1) (by omega) it fi tn k' l' p' _ cont'⟩
    show (!(false || fs.any Frame.guarded)) = true
    rw [fr.guard]
    rfl
theorem GenOk.begins : Live X pins J (GStand X N qual scope f cd a L g go tg J1 W) (gfp a L) n 0 none (.fresh (.func [.For tg iter [.Expr (.Yield (some e) yp) pos'] [] pos] (envOfC qual scope L f cd))) := by
  obtain ⟨r, rfl⟩ : ∃ r, n = r + 1 := ⟨n - 1, by have := G.n0; omega⟩
  intro s σc H I fo st
  obtain ⟨σ, w, IX⟩ := G.into I fo st
  have sz := Nat.le_of_lt st.2.1
  refine t1_func (t1_execs_cons (t1_For G.fold ?_))
  rw [over_func]
  refine wpAny_mono ((G.hi s H).run [] s σ H _ IX (G.w0 σ H w)) (fun v s1 h1 => wpAny_mono h1 (fun itv s2 h2 => ?_) fun _ _ he => he.elim) fun _ _ he => he.elim
  obtain ⟨it, fi, tn, Jt, H2, rfl, I2, T, st2, f2, rfl, same⟩ := h2
  intro p
  have fr : FrOk X qual scope f cd L tg e yp pos' [.ret (fun r => ((match r with
      | .ok f => (.pure f : Sem Flow)
      | .error e => .raise e).onRaise (L2.cameBack (envOfC qual scope L f cd))).wrap (fun f_1 : Flow => match f_1 with
        | .next => (execs [] (envOfC qual scope L f cd)).wrap (fun f : Flow => .pure (.done (.ret (match f with
          | .ret v => v
          | _ => .none)))) (fun e => (leaving (envOfC qual scope L f cd) e).wrap (fun _ => .raise e) .raise id id) id id
        | f => .pure (.done (.ret (match f with
          | .ret v => v
          | _ => .none)))) (fun e => (leaving (envOfC qual scope L f cd) e).wrap (fun _ => .raise e) .raise id id) id id) none (id false) (id []) (.func [.For tg iter [.Expr (.Yield (some e) yp) pos'] [] pos] (envOfC qual scope L f cd)) p []] := by
    refine ⟨rfl, rfl, fun it => ?_, fun {Z s c} h => ?_⟩
    · rw [over_loop rfl rfl, over_func]
    · exact t1_leaf (.ok .next) (t1_end (.ok (.ret .none)) h)
  refine G.yields fr.split (fr.over it) I sz I2 same w G.n0 T st2 f2 fun v k' l' p' s1 x H' I1 rv yl fo' st' cont' => ?_
  refine ⟨v, false, l', k', _, p', _, rfl, rfl, x, H', some (it, fi, tn), I1, rv, yl, fo', st', G.lives fr r 1 (by omega) it fi tn k' l' p' _ cont'⟩
end
end L2
/-! ### for x in f(e, ..), f a generator def of one loop -/
namespace L2
open PySem PySem.Spec PyProof.Rows GKeep GenW
section
variable {X : Cx} {pins : List (Addr × Obj)} {σ : L2.St} {H : Hp} {s : Shared} {name qual : Str} {params : Arguments} {body : List Stmt} {scope : Scope} {dV kV doc pm cdv ct oc : Value} {an od : Option Addr} {osl : Array (Option Value)} {N ps : List Str} {f : Addr}
/-- what a call of it has made -/
structure Fresh1 (X : Cx) (pins : List (Addr × Obj)) (σ : L2.St) (H : Hp) (N : List Str) (qual : Str) (scope : Scope) (f : Addr) (cd : Value) (body : List Stmt) (vs : List V) (L a g : Nat) (go : Obj) (s : Shared) : Prop where
  inv : Inv X pins σ H s
  old : Old X pins L
  la : L < a
  gone : (∃ nm qn, go.cls = .type "generator" ∧ go.data = .fields #[.int g 0, nm, qn]) ∧ go.slots = #[]
  at_ : s.heap.get? a = some go
  gen : s.gens[g]? = some (.fresh (.func body (envOfC qual scope L f cd)))
  lt : L < s.heap.objs.size
  loc : ∃ m, s.heap.Ns L m ∧ ∀ (i : Nat) (x : Str) (v : V), N[i]? = some x → (start N vs)[i]? = some (some v) → Vis scope x → ∃ u, RelV v u ∧ Look (envOfC qual scope L f cd) s.heap m x u
  own : H L = none ∧ H a = none
theorem gen_call {us : List Value} {vs : List V} {Q : Value → Shared → Prop} {E : Value → Shared → Prop} {k : Nat} (lk : X.K.lookup f = some ⟨oc, od, .func (PySem.W.fnOf name qual params body scope dV kV doc pm an cdv ct), osl⟩) (hcd : PySem.W.codeIn X.K cdv qual = true) (S : GScope N ps scope)
    (room : Room (k + 1) X.A) (I : Inv X pins σ H s) (hb : BindsTo s (PySem.W.fnOf name qual params body scope dV kV doc pm an cdv ct) ⟨us, []⟩ (ps.zip us)) (r : Vals vs us) (len : vs.length = ps.length)
    (hq : ∀ L a g go s1, Fresh1 X pins σ H N qual scope f cdv body vs L a g go s1 → Q (.ref a) s1) : wpAny (model X.prog X.w) X.A (call (.ref f) us) Q E s := by
  have known : ∀ y ∈ ps.zip us, scope.names.lookup y.1 = some .local ∨ (scope.names.lookup y.1 = some .cell ∧ ((cellsFrom (s.heap.objs.size + 1) scope.names []).lookup y.1).isSome = true) := fun y hy => by
    rcases S.par y.1 (List.of_mem_zip (a := y.1) (b := y.2) hy).1 with h | h
    · exact .inl h
    · exact .inr ⟨h, PySem.W.cellsFrom_some _ _ _ (.inl h)⟩
  have deep : X.A.depth < recursionLimit := by
    have := room.dp
    omega
  refine wpAny_call (codeAny_mono (codeAny_call_generator (R := fun rr s1 => ∃ u, rr = .ok (.ret u) ∧ Q u s1) deep (I.kIn _ _ lk) rfl S.co S.gen rfl (PySem.W.codeRec_of I.kIn hcd) (hb _ _ _ _ ?_)) fun rr s1 ⟨u, e, q⟩ => by rw [e]; exact q)
  refine wpAny_newFunctionEnv_cells S.kind known fun env he s1 x => ?_
  subst he
  have J := inv_startG (E := fun _ _ _ => False) (N := N) S room.hd I.env0 len r x
  obtain ⟨h1, tk, rfl, kp⟩ := x.done
  have lt1 : s.heap.objs.size < h1.objs.size := x.toInCall.ns.lt
  have I1 : Inv X pins σ H { s with heap := h1, toks := tk } := I.kept (t' := tk) kp
  refine ⟨I.nolimit.keeps kp, _, rfl, ?_⟩
  have main : ∀ (go : Obj) (tk2 : Nat), ((∃ nm qn, go.cls = .type "generator" ∧ go.data = .fields #[.int s.gens.size 0, nm, qn]) ∧ go.slots = #[]) → (h1.push go).get? h1.objs.size = some go →
      Q (.ref h1.objs.size) { s with gens := s.gens.push (.fresh (.func body (envOfC qual scope s.heap.objs.size f cdv))), toks := tk2, heap := h1.push go } := fun go tk2 hgo hat => by
    have kp2 : ∀ b o, h1.get? b = some o → (h1.push go).get? b = some o := fun b o e => Heap.get?_push_of_some _ e
    refine hq s.heap.objs.size h1.objs.size s.gens.size go _ ⟨?_, ⟨I.sz, I.lt, fun y c e => ?_, fun p hp => ?_⟩, lt1, hgo, hat, Array.getElem?_push_size .., ?_, ?_, I.hok.fresh (Nat.le_refl _), I.hok.fresh (Nat.le_of_lt lt1)⟩
    · exact (I1.kept (t' := tk2) kp2).gens (AllBare.push I.bare rfl)
    · obtain ⟨v, o, ho, _⟩ := I.cell y c e
      exact Heap.lt_size ho
    · exact Heap.lt_size (I.pin p hp).1
    · show _ < (h1.push go).objs.size
      rw [Heap.size_push]
      exact Nat.lt_succ_of_lt lt1
    · obtain ⟨m, hn, hl⟩ := J.loc
      obtain ⟨o, es, ep, ho, rest⟩ := hn
      refine ⟨m, ⟨o, es, ep, kp2 _ _ ho, rest⟩, fun i x v h1' h2' h3' => ?_⟩
      obtain ⟨u, ru, lo⟩ := hl i x v h1' h2' h3'
      refine ⟨u, ru, ?_⟩
      rcases lo with lo | ⟨lo1, c, lo2, lo3⟩
      · exact .inl lo
      · exact .inr ⟨lo1, c, lo2, lo3.keeps kp2⟩
  exact main _ _ ⟨⟨_, _, rfl, rfl⟩, rfl⟩ (Heap.get?_push_size _ rfl)
/-- a generator's call under a for: its arguments, what it hands out -/
def tGenI (t : TA) (pre : List V → It → Prop) : TI := fun σ H R => t σ H fun vs H1 => ∃ J, pre vs J ∧ R J H1
theorem pgi_call {k : Nat} {x : Str} {p pos posG yp pos' : Pos} {e : Expr} {es : List Expr} {t : TA} {pre : List V → It → Prop} {tg tgG iterG eG : Expr}
    (lk : X.K.lookup f = some ⟨oc, od, .func (PySem.W.fnOf name qual params [.For tgG iterG [.Expr (.Yield (some eG) yp) pos'] [] posG] scope dV kV doc pm an cdv ct), osl⟩) (hcd : PySem.W.codeIn X.K cdv qual = true) (S : GScope N ps scope) (room : Room (k + 1) X.A) (hg : Gl X x) (hm : X.mg x = some (.ref f)) (hk : PySem.W.keepIn X.K (.ref f) = true)
    (hb : Binds X.K (PySem.W.fnOf name qual params [.For tgG iterG [.Expr (.Yield (some eG) yp) pos'] [] posG] scope dV kV doc pm an cdv ct) ps []) (ha : PA X (e :: es) t)
    (gok : ∀ vs J pins L a g go, pre vs J → Old X pins L → L < a → ((∃ nm qn, go.cls = .type "generator" ∧ go.data = .fields #[.int g 0, nm, qn]) ∧ go.slots = #[]) →
      vs.length = ps.length ∧ (start N vs).length = N.length ∧ ∃ (n : Nat) (wi : TI) (tt : TG) (te : TE) (J1 : It) (W : Nat → L2.St → Prop), W 0 (start N vs) ∧ (∀ i H, J.go i H → i < n) ∧ (∀ i H, J.stop i H → n ≤ i) ∧ GenOk X pins N qual scope f cdv a L g n go tgG iterG eG wi tt te J1 J W)
    (plain : (x == ("__debug__" : Str)) = false := by decide) (first : starEach (e :: es) X.env = (false, eval e X.env) :: starEach es X.env := by rfl) (noStar : (backTo pos (starEach es X.env)).any (·.1) = false := by rfl) :
    PGI X tg (.Call (.Name x p) (e :: es) [] pos) (tGenI t pre) := by
  refine ⟨fun pins s σ H R I h => ?_⟩
  refine wpAny_Call_Name_kw (ld_glob I hg hm ?_ plain)
  refine PySem.W.callWith_K (h₀ := X.base) I.ok.mod.kin hk (thn (ha.run pos pins s σ H _ I h) fun us s1 ⟨vs, H1, I1, r, J, hpre, hR⟩ => ⟨I1.kIn, ?_⟩) first noStar
  have len : vs.length = ps.length := by
    have := (gok vs J [] (Nat.max X.s_0.heap.objs.size s1.heap.objs.size) (Nat.max X.s_0.heap.objs.size s1.heap.objs.size + 1) 0 { cls := .type "generator", data := .fields #[.int 0 0, .none, .none] } hpre ⟨Nat.le_max_left .., Nat.lt_of_lt_of_le I1.lt (Nat.le_max_right ..), fun y c ey => ?_, fun q hq => ?_⟩ (Nat.lt_succ_self _) ⟨⟨_, _, rfl, rfl⟩, rfl⟩).1
    · exact this
    · obtain ⟨v, o, ho, _⟩ := I1.cell y c ey
      exact Nat.lt_of_lt_of_le (Heap.lt_size ho) (Nat.le_max_right ..)
    · rw [List.append_nil] at hq
      exact Nat.lt_of_lt_of_le (Heap.lt_size (I1.pin q (List.mem_append_left _ hq)).1) (Nat.le_max_right ..)
  have bound := hb s1 us I1.kIn (by rw [List.append_nil]; exact r.length.symm.trans len)
  rw [List.append_nil] at bound
  refine gen_call lk hcd S room I1 bound r len fun L a g go s2 F => ?_
  obtain ⟨_, len2, n, wi, tt, te, J1, W, w0, jg, js, G⟩ := gok vs J pins L a g go hpre F.old F.la F.gone
  obtain ⟨⟨nm, qn, gc, gd⟩, gs⟩ := F.gone
  refine wpAny_pyIter_gen ⟨go, nm, qn, F.at_, gc, gd, gs⟩ ?_
  have ncell : ∀ v, go.data ≠ .cell v := fun v z => by
    rw [gd] at z
    cases z
  have lobj : ∀ {i d} {h : Heap}, GStand X N qual scope f cdv a L g go tgG J1 W i d h → ∃ o, h.get? L = some o ∧ ∀ v, o.data ≠ .cell v := fun {i d h} st => by
    obtain ⟨_, _, ⟨_, _, _, m, ⟨o, es, ep, ho, hd, _⟩, _⟩, _⟩ := st
    exact ⟨o, ho, fun v z => by rw [hd] at z; cases z⟩
  refine ⟨a, J, _, gfp a L none, H1, rfl, F.inv, gturn_of (Stand := GStand X N qual scope f cdv a L g go tgG J1 W) (fp := gfp a L) (g := g) (n := n) G.calm (by have := room.dp; omega) jg js (fun i d h st => ⟨go, nm, qn, st.1, gc, gd, gs⟩) (fun d => ?_) (fun i d h st b hb' => ?_) (fun i d h h' st kp => ?_),
    ⟨none, n, _, rfl, Nat.zero_add _, ⟨F.at_, F.lt, ⟨_, w0, len2, F.loc⟩, True.intro⟩, F.gen, fun z => absurd z (Nat.lt_irrefl 0), G.begins⟩, fun b hb' => ?_, hR⟩
  · cases d <;> exact List.mem_cons_self
  · have two : b = a ∨ b = L ∨ ∃ it fi tn, d = some (it, fi, tn) ∧ b ∈ fi := by
      cases d with
      | none =>
        rcases List.mem_cons.mp hb' with z | z
        · exact .inl z
        · exact .inr (.inl (List.mem_singleton.mp z))
      | some q =>
        obtain ⟨it, fi, tn⟩ := q
        rcases List.mem_cons.mp hb' with z | z
        · exact .inl z
        rcases List.mem_cons.mp z with z | z
        · exact .inr (.inl z)
        · exact .inr (.inr ⟨it, fi, tn, rfl, z⟩)
    rcases two with rfl | rfl | ⟨it, fi, tn, rfl, hb2⟩
    · exact ⟨go, st.1, ncell⟩
    · exact lobj st
    · obtain ⟨_, _, _, T, st1, _⟩ := st
      exact T.obj _ _ st1 b hb2
  · obtain ⟨oL, hoL, _⟩ := lobj st
    have kL := kp L (by cases d <;> simp [gfp]) oL hoL
    obtain ⟨ha', lt, ⟨σ1, w1, l1, m, ⟨o, es, ep, ho, rest⟩, hl⟩, more⟩ := st
    rw [ho] at hoL
    obtain rfl := Option.some.inj hoL
    refine ⟨kp a (by cases d <;> simp [gfp]) go ha', Heap.lt_size kL, ⟨σ1, w1, l1, m, ⟨o, es, ep, kL, rest⟩, fun i x v q1 q2 q3 => ?_⟩, ?_⟩
    · obtain ⟨u, ru, lo⟩ := hl i x v q1 q2 q3
      refine ⟨u, ru, ?_⟩
      rcases lo with lo | ⟨lo1, c, lo2, _⟩
      · exact .inl lo
      · have lo2 : (cellsFrom (L + 1) scope.names []).lookup x = some c := lo2
        rw [G.nc] at lo2
        cases lo2
    · cases d with
      | none => exact True.intro
      | some q =>
        obtain ⟨it, fi, tn⟩ := q
        obtain ⟨T, st1, far⟩ := more
        exact ⟨T, T.keep _ _ _ st1 fun b hb2 o eo => kp b (List.mem_cons_of_mem _ (List.mem_cons_of_mem _ hb2)) o eo, far⟩
  · rcases List.mem_cons.mp hb' with rfl | hb'
    · exact G.apart ⟨s1, σ, H1, I1⟩ (Nat.le_of_lt F.la) F.own.2
    · obtain rfl := List.mem_singleton.mp hb'
      exact G.apart ⟨s1, σ, H1, I1⟩ (Nat.le_refl _) F.own.1
end
end L2
namespace GKeep
open PySem
theorem wpAny_twin {α : Type} {M : Model} {A : Around} {t : Sem α} {Q : α → Shared → Prop} {E : Value → Shared → Prop} {s r : Shared} (e : r = { s with gens := r.gens }) (tw : Tw s.gens r.gens) (h : wpAny M A t Q E s) :
    wpAny M A t (fun a r' => ∃ s', r' = { s' with gens := r'.gens } ∧ Tw s'.gens r'.gens ∧ Q a s') (fun x r' => ∃ s', r' = { s' with gens := r'.gens } ∧ Tw s'.gens r'.gens ∧ E x s') r := fun Γ p hΓ => by
  have key := wp_twin M Γ s.gens r.gens t _ _ p s r.gens tw (Kp.refl _ _) (h Γ p hΓ)
  rw [← e] at key
  exact Sem.wp_mono M Γ t (fun a p' r' ⟨s', B', e', tw', _, q⟩ => ⟨s', by rw [e'], by rw [e']; exact tw', q⟩) (fun a p' r' ⟨s', B', e', tw', _, q⟩ => ⟨s', by rw [e'], by rw [e']; exact tw', q⟩) _ _ key
end GKeep
namespace L2
open PySem PySem.Spec PyProof.Rows GKeep GenW
theorem blind0 {P : Program} {w : World} {K : PySem.W.Frag} {mg : Str → Option Value} {base : Heap} {N : List Str} {qual : Str} {scope : Scope} {f : Addr} {cd : Value} {A : Around} {outer : List Env} {s : Shared} {H : Hp} {E : XK} : Blind (cxOf CX0 P w K mg base N qual scope f cd A outer s H E) := fun e s1 r e1 tw h => by
  refine wpAny_mono (wpAny_twin e1 tw (show wpAny _ _ _ _ _ s1 from h)) (fun _ r' ⟨s', _, _, q⟩ => ?_) fun _ r' ⟨s', _, _, q⟩ => ?_
  · exact False.elim q
  · exact False.elim q
theorem blindN {X : Cx} : Blind X.nox := fun _ _ _ _ _ h => False.elim h
/-- n tuples of numbers -/
def Itg (items : Nat → List Int) (n : Nat) : It := ⟨fun i _ => i < n, fun i H x H' => ∃ t, x = .ref t ∧ Same H H' ∧ H t = none ∧ H' t = some (.tup ((items i).map V.int)), fun i _ => n ≤ i⟩
theorem for_gen {items : Nat → List Int} {n : Nat} {g : TG} {tb : TS} {D : Ends} {σ : L2.St} {H : Hp} (Pv : Nat → L2.St → Hp → Prop) (h0 : Pv 0 σ H)
    (hs : ∀ i t σ H H', i < n → Pv i σ H → Same H H' → H t = none → H' t = some (.tup ((items i).map V.int)) → g (.ref t) σ H' fun σ2 H2 => tb { D with nx := Pv (i + 1), ct := Pv (i + 1), bk := D.nx } σ2 H2) (hd : ∀ σ H, Pv n σ H → D.nx σ H) :
    ∃ W : Nat → Nat → L2.St → Hp → Prop, (∃ m, W 0 m σ H) ∧ ∀ i m σ H, W i m σ H →
      ((Itg items n).stop i H ∧ D.nx σ H) ∨ ((Itg items n).go i H ∧ ∃ N : L2.St → Hp → Prop, (∀ σ' H', N σ' H' → ∃ m', m' < m ∧ W (i + 1) m' σ' H') ∧ ∀ x H', (Itg items n).yld i H x H' → g x σ H' fun σ2 H2 => tb { D with nx := N, ct := N, bk := D.nx } σ2 H2) := by
  refine ⟨fun i m σ H => m = n - i ∧ i ≤ n ∧ Pv i σ H, ⟨n, rfl, Nat.zero_le _, h0⟩, ?_⟩
  rintro i m σ H ⟨rfl, hi, p⟩
  rcases Nat.lt_or_ge i n with lt | ge
  · refine .inr ⟨lt, Pv (i + 1), fun σ' H' p' => ⟨n - (i + 1), by omega, rfl, lt, p'⟩, fun x H' ⟨t, ex, s, nt, ht⟩ => ?_⟩
    subst ex
    exact hs i t σ H H' lt p s nt ht
  · obtain rfl : i = n := by omega
    exact .inl ⟨Nat.le_refl _, hd σ H p⟩
/-- a generator def of one loop, as its callers know it -/
def CalG (P : Program) (w : World) (K : PySem.W.Frag) (mg : Str → Option Value) (base : Heap) (k : Nat) (x : Str) (pre : List V → It → Prop) : Prop :=
  ∀ (X : Cx) (tg e : Expr) (es : List Expr) (t : TA) (p pos : Pos), X.prog = P → X.w = w → X.K = K → X.mg = mg → X.base = base → X.calm = true → Room (k + 2) X.A → Gl X x → PA X (e :: es) t →
    starEach (e :: es) X.env = (false, eval e X.env) :: starEach es X.env → (backTo pos (starEach es X.env)).any (·.1) = false → PGI X tg (.Call (.Name x p) (e :: es) [] pos) (tGenI t pre)
end L2
namespace K09
open PySem PySem.Spec PyProof.Rows L2
def top (i : Nat) : Stmt := PySem.Challenge.pw_dearestshelf_k09_lots_in_order.main.body.getD i (.Pass ⟨0, 0, 0, 0⟩)
abbrev s_lot_at : Stmt := top 2
theorem sc_lot_at : FnScope ["number", "many", "thing"] ["number", "many"] (defScope s_lot_at) := ⟨rfl, rfl, rfl, by decide +kernel, rfl, by decide +kernel, by decide +kernel⟩
abbrev s_lots : Stmt := top 1
theorem sc_lots : GScope ["many", "number"] ["many"] (defScope s_lots) := ⟨rfl, rfl, rfl, by decide +kernel, rfl, by decide +kernel, by decide +kernel⟩
abbrev s__law_cell : Stmt := top 4
theorem sc__law_cell : FnScope ["_law_script", "_law_place"] ["_law_script", "_law_place"] (defScope s__law_cell) := ⟨rfl, rfl, rfl, by decide +kernel, rfl, by decide +kernel, by decide +kernel⟩
abbrev s__law_draws : Stmt := top 5
theorem sc__law_draws : FnScope ["_law_cell_here", "_law_sizes", "_law_size", "_law_left", "_law_found", "_law_k", "_law_low", "_law_high"] ["_law_cell_here", "_law_sizes"] (defScope s__law_draws) := ⟨rfl, rfl, rfl, by decide +kernel, rfl, by decide +kernel, by decide +kernel⟩
abbrev s__law_is_int : Stmt := top 6
theorem sc__law_is_int : FnScope ["_law_x"] ["_law_x"] (defScope s__law_is_int) := ⟨rfl, rfl, rfl, by decide +kernel, rfl, by decide +kernel, by decide +kernel⟩
abbrev s__law_same_lot : Stmt := top 7
theorem sc__law_same_lot : FnScope ["_law_x", "_law_due", "_law_k"] ["_law_x", "_law_due"] (defScope s__law_same_lot) := ⟨rfl, rfl, rfl, by decide +kernel, rfl, by decide +kernel, by decide +kernel⟩
abbrev s_law : Stmt := top 8
theorem sc_law : FnScope ["_law_script", "_law_many", "_law_due", "_law_thing", "_law_at", "_law_found", "_law_lot"] ["_law_script"] (defScope s_law) := ⟨rfl, rfl, rfl, by decide +kernel, rfl, by decide +kernel, by decide +kernel⟩

/-! ### mathematics of draws -/
def Within : List Int → List Int → Prop
  | [], [] => True
  | d :: ds, n :: ns => (0 ≤ d ∧ d < n) ∧ Within ds ns
  | _, _ => False
theorem Within.len : ∀ {ds ns : List Int}, Within ds ns → ds.length = ns.length
  | [], [], _ => rfl
  | _ :: ds, _ :: ns, h => by
    rw [List.length_cons, List.length_cons, Within.len h.2]
  | [], _ :: _, h => h.elim
  | _ :: _, [], h => h.elim
theorem Within.snoc : ∀ {ds ns : List Int} {d n : Int}, Within ds ns → 0 ≤ d → d < n → Within (ds ++ [d]) (ns ++ [n])
  | [], [], d, n, _, h0, h1 => ⟨⟨h0, h1⟩, True.intro⟩
  | _ :: ds, _ :: ns, d, n, h, h0, h1 => ⟨h.1, Within.snoc h.2 h0 h1⟩
  | [], _ :: _, _, _, h, _, _ => h.elim
  | _ :: _, [], _, _, h, _, _ => h.elim
theorem Within.step {ds ns : List Int} {d n : Int} {i : Nat} (h : Within ds (ns.take i)) (hi : ns[i]? = some n) (h0 : 0 ≤ d) (h1 : d < n) : Within (ds ++ [d]) (ns.take (i + 1)) := by
  rw [List.take_add_one, hi]
  exact h.snoc h0 h1
theorem Within.zero (ns : List Int) : Within [] (ns.take 0) := by
  rw [List.take_zero]
  exact True.intro
theorem Within.full {ds ns : List Int} (h : Within ds (ns.take ns.length)) : Within ds ns := by
  rw [List.take_length] at h
  exact h
theorem int_of {ns : List Int} {i : Nat} {x : V} (h : (ns.map V.int)[i]? = some x) : ∃ n, x = .int n ∧ ns[i]? = some n := by
  rw [List.getElem?_map] at h
  cases e : ns[i]? with
  | none =>
    rw [e] at h
    cases h
  | some z =>
    rw [e] at h
    exact ⟨z, (Option.some.inj h).symm, rfl⟩
theorem int_at {ns : List Int} {i : Nat} {n : Int} (h : ns[i]? = some n) : (ns.map V.int)[i]? = some (.int n) := by
  rw [List.getElem?_map, h]
  rfl
theorem snoc_int (ds : List Int) (d : Int) : ds.map V.int ++ [V.int d] = (ds ++ [d]).map V.int := by
  rw [List.map_append]
  rfl
theorem same_upd {H : Hp} {p : Addr} {o : HO} (h : H p = none) : Same H (upd H p o) := fun b x e => by
  rw [upd_ne (ne_of_none e h)]
  exact e
theorem same_mut {H H1 : Hp} {p : Addr} {o : HO} (s : Same H H1) (h : H p = none) : Same H (upd H1 p o) := fun b x e => by
  rw [upd_ne (ne_of_none e h)]
  exact s b x e
theorem same_tup {K : PySem.W.Frag} {H H' : Hp} {a : Addr} {xs : List V} (e : Same H H') (h : SqT K H a xs) : SqT K H' a xs := by
  rcases h with (h | ⟨o, h⟩) | h
  · exact .inl (.inl (e _ _ h))
  · exact .inl (.inr ⟨o, e _ _ h⟩)
  · exact .inr h
theorem w_div {j : Int} (h : 0 < j) (hb : j < 2 ^ 100) : CDivW 0 j := wide_div (b := 100) h (by omega) (by decide) (by decide)
theorem lst_l {K : PySem.W.Frag} {H : Hp} {a : Addr} {xs : List V} (h : H a = some (.lst xs)) : SqL K H a xs := .inl (.inl h)
theorem tup_t {K : PySem.W.Frag} {H : Hp} {a : Addr} {xs : List V} (h : H a = some (.tup xs)) : SqT K H a xs := .inl (.inl h)
theorem lc_yes {σ : L2.St} {H : Hp} {F : Bool → Hp → Prop} (h : F true H) : tYes σ H F := h
theorem Within.c {ds ns : List Int} {n : Int} (h : Within ds (n :: ns)) : ∃ d r, ds = d :: r ∧ 0 ≤ d ∧ d < n ∧ Within r ns := by
  cases ds with
  | nil => exact h.elim
  | cons d r => exact ⟨d, r, rfl, h.1.1, h.1.2, h.2⟩
theorem Within.n {ds : List Int} (h : Within ds []) : ds = [] := by
  cases ds with
  | nil => rfl
  | cons d r => exact h.elim
theorem kI : kitB "int" "int" = some true := by decide +kernel
theorem kB : kitB "int" "bool" = some false := by decide +kernel
theorem kT : kitB "tuple" "tuple" = some true := by decide +kernel

theorem cut_from (xs : List V) (k : Nat) : cutV xs (some (k : Int)) none = xs.drop k := by
  unfold cutV
  rw [HT.sIx_nat, HT.sIx_none]
  by_cases h : k ≤ xs.length
  · rw [Nat.min_eq_left h]
    exact List.take_of_length_le (by rw [List.length_drop]; exact Nat.le_refl _)
  · rw [Nat.min_eq_right (by omega), List.drop_of_length_le (Nat.le_refl _), List.drop_of_length_le (by omega), List.take_nil]
theorem cut_from1 (xs : List V) : cutV xs (some 1) none = xs.drop 1 := by
  unfold cutV
  rw [show HT.sIx xs.length 0 (some 1) = min 1 xs.length from HT.sIx_nat xs.length 0 1, HT.sIx_none]
  cases xs with
  | nil => rfl
  | cons x r =>
    rw [show min 1 (x :: r).length = 1 by
      rw [List.length_cons]
      omega]
    show (List.take ((x :: r).length - 1) r) = r
    rw [List.length_cons, Nat.add_sub_cancel]
    exact List.take_length
theorem big18 : (0 : Int) < 10 ^ 18 ∧ (10 : Int) ^ 18 < 2 ^ 100 := by decide
theorem cut_to (xs : List V) (k : Nat) : cutV xs none (some (k : Int)) = xs.take k := by
  unfold cutV
  rw [HT.sIx_none, HT.sIx_nat, List.drop_zero, Nat.sub_zero]
  by_cases h : k ≤ xs.length
  · rw [Nat.min_eq_left h]
  · rw [Nat.min_eq_right (by omega), List.take_of_length_le (Nat.le_refl _), List.take_of_length_le (by omega)]

theorem iteD {c A B : Prop} [Decidable c] (hc : c) (h : A) : if decide c = true then A else B := by
  rw [if_pos (decide_eq_true hc)]
  exact h
theorem iteDF {c A B : Prop} [Decidable c] (hc : ¬ c) (h : B) : if decide c = true then A else B := by
  rw [decide_eq_false hc]
  exact iteF h
def lotOf (b : Int) : Nat → List Int
  | 0 => []
  | m + 1 => lotOf b m ++ (if b / 2 ^ m % 2 = 1 then [(m : Int)] else [])
def powSum (l : List Int) : Int := (l.map fun t => 1 * (2 : Int) ^ t.toNat).sum
theorem powSum_append (a b : List Int) : powSum (a ++ b) = powSum a + powSum b := by
  unfold powSum
  rw [List.map_append, List.sum_append]
theorem two_pos (m : Nat) : (0 : Int) < 2 ^ m := Int.pow_pos (by decide)
theorem half (b : Int) (m : Nat) : b / 2 ^ m / 2 = b / 2 ^ (m + 1) := by
  rw [Int.ediv_ediv_of_nonneg (Int.le_of_lt (two_pos m)), ← Int.pow_succ]
theorem powSum_lotOf (b : Int) : ∀ m : Nat, powSum (lotOf b m) = b % 2 ^ m
  | 0 => by
    show (0 : Int) = b % 1
    omega
  | m + 1 => by
    show powSum (lotOf b m ++ _) = _
    rw [powSum_append, powSum_lotOf b m]
    have e1 : (2 : Int) ^ (m + 1) = 2 ^ m * 2 := Int.pow_succ ..
    have e2 := Int.mul_ediv_add_emod b (2 ^ m)
    have e3 := Int.mul_ediv_add_emod b (2 ^ (m + 1))
    have e4 : b / 2 ^ (m + 1) = b / 2 ^ m / 2 := (half b m).symm
    have e5 := Int.emod_add_mul_ediv (b / 2 ^ m) 2
    have e6 : b % 2 ^ (m + 1) = b % 2 ^ m + 2 ^ m * (b / 2 ^ m % 2) := by
      have h1 : 2 ^ m * (b / 2 ^ m % 2 + 2 * (b / 2 ^ m / 2)) = 2 ^ m * (b / 2 ^ m) := by rw [e5]
      rw [Int.mul_add, ← Int.mul_assoc, ← e1, ← e4] at h1
      omega
    rw [e6]
    have h2 := Int.emod_two_eq (b / 2 ^ m)
    rcases h2 with h2 | h2
    · rw [h2, if_neg (by decide)]
      show _ + (0 : Int) = _
      omega
    · rw [h2, if_pos rfl]
      show _ + ((1 : Int) * 2 ^ ((m : Int)).toNat + 0) = _
      rw [Int.toNat_natCast]
      omega
theorem bit_mod (b : Int) {i m : Nat} (h : i < m) : (b % 2 ^ m) / 2 ^ i % 2 = b / 2 ^ i % 2 := by
  have e2 := Int.mul_ediv_add_emod b (2 ^ m)
  have e3 : (2 : Int) ^ m = 2 ^ i * (2 * 2 ^ (m - i - 1)) := by
    rw [← Int.mul_assoc, ← Int.pow_succ, ← Int.pow_add]
    congr 1
    omega
  have e4 : b = b % 2 ^ m + 2 ^ i * (2 * (2 ^ (m - i - 1) * (b / 2 ^ m))) := by
    have e5 : 2 ^ i * (2 * (2 ^ (m - i - 1) * (b / 2 ^ m))) = 2 ^ m * (b / 2 ^ m) := by
      generalize b / 2 ^ m = q
      rw [e3]
      simp only [Int.mul_assoc]
    omega
  conv => rhs; rw [e4]
  rw [Int.add_mul_ediv_left _ _ (Int.ne_of_gt (two_pos i)), Int.add_mul_emod_self_left]
theorem lotOf_mod (b : Int) {m : Nat} : ∀ {k : Nat}, k ≤ m → lotOf (b % 2 ^ m) k = lotOf b k
  | 0, _ => rfl
  | k + 1, h => by
    show lotOf (b % 2 ^ m) k ++ _ = lotOf b k ++ _
    rw [lotOf_mod b (Nat.le_of_succ_le h), bit_mod b h]
theorem lotOf_more (b : Int) (m : Nat) : lotOf (b % 2 ^ m) (m + 1) = lotOf b m := by
  show lotOf (b % 2 ^ m) m ++ _ = lotOf b m
  rw [lotOf_mod b (Nat.le_refl m), Int.ediv_eq_zero_of_lt (Int.emod_nonneg _ (Int.ne_of_gt (two_pos m))) (Int.emod_lt_of_pos _ (two_pos m)), if_neg (by decide), List.append_nil]
theorem lotOf_len (b : Int) : ∀ m : Nat, (lotOf b m).length ≤ m
  | 0 => Nat.le_refl 0
  | m + 1 => by
    show (lotOf b m ++ _).length ≤ _
    have h := lotOf_len b m
    rw [List.length_append]
    split <;> simp <;> omega
theorem lotOf_mem (b : Int) : ∀ {m : Nat} {t : Int}, t ∈ lotOf b m → 0 ≤ t ∧ t < m
  | 0, _, h => by cases h
  | m + 1, t, h => by
    rcases List.mem_append.mp h with h | h
    · have := lotOf_mem b h
      omega
    · split at h
      · have := List.mem_singleton.mp h
        omega
      · cases h
theorem lotOf_asc (b : Int) : ∀ m : Nat, (lotOf b m).Pairwise (· < ·)
  | 0 => List.Pairwise.nil
  | m + 1 => by
    refine List.pairwise_append.mpr ⟨lotOf_asc b m, ?_, fun x hx y hy => ?_⟩
    · split
      · exact List.pairwise_singleton ..
      · exact List.Pairwise.nil
    · split at hy
      · have := List.mem_singleton.mp hy
        have := lotOf_mem b hx
        omega
      · cases hy
theorem bit_one (x : Int) : Builtin.bitAnd x 1 = x % 2 := by
  have h := PySem.W.kbt_mask x 1
  exact h

theorem two_bd {m : Nat} (h : m ≤ 40) : -(2 ^ 62) ≤ (1 : Int) * 2 ^ ((m : Int)).toNat ∧ (1 : Int) * 2 ^ ((m : Int)).toNat < 2 ^ 62 := by
  rw [Int.one_mul, Int.toNat_natCast]
  have h1 := two_pos m
  have h2 : 2 ^ m ≤ 2 ^ 40 := Nat.pow_le_pow_right (by decide) h
  have e : ((2 ^ m : Nat) : Int) = (2 : Int) ^ m := by
    rw [Int.natCast_pow]
    rfl
  have h3 : ((2 ^ m : Nat) : Int) ≤ ((2 ^ 40 : Nat) : Int) := Int.ofNat_le.mpr h2
  rw [e] at h3
  have e4 : ((2 ^ 40 : Nat) : Int) = 1099511627776 := by decide
  rw [e4] at h3
  exact ⟨by omega, by omega⟩

theorem small2000 {n : Nat} (h : n ≤ 2000) : n < sizeLine := Nat.lt_of_le_of_lt h (by decide)
theorem lotOf_low {k i : Nat} (h : k < 2 ^ i) : lotOf (k : Int) (i + 1) = lotOf (k : Int) i := by
  have e : (k : Int) % 2 ^ i = k := Int.emod_eq_of_lt (by omega) (by
    have : (k : Int) < ((2 ^ i : Nat) : Int) := Int.ofNat_lt.mpr h
    rw [Int.natCast_pow] at this
    exact this)
  have := lotOf_more (k : Int) i
  rw [e] at this
  exact this
theorem lotOf_high {j i : Nat} (h : j < 2 ^ i) : lotOf ((2 ^ i + j : Nat) : Int) (i + 1) = lotOf (j : Int) i ++ [(i : Int)] := by
  have p := two_pos i
  have lt : (j : Int) < 2 ^ i := by
    have : (j : Int) < ((2 ^ i : Nat) : Int) := Int.ofNat_lt.mpr h
    rw [Int.natCast_pow] at this
    exact this
  have e0 : ((2 ^ i + j : Nat) : Int) = (2 : Int) ^ i + j := by
    rw [Int.natCast_add, Int.natCast_pow]
    rfl
  have e1 : ((2 : Int) ^ i + j) % 2 ^ i = j := by
    rw [Int.add_emod_left]
    exact Int.emod_eq_of_lt (by omega) lt
  have e2 : ((2 : Int) ^ i + j) / 2 ^ i = 1 := by
    rw [show (2 : Int) ^ i + j = j + 2 ^ i * 1 by rw [Int.mul_one, Int.add_comm], Int.add_mul_ediv_left (j : Int) 1 (Int.ne_of_gt p), Int.ediv_eq_zero_of_lt (by omega) lt]
    rfl
  rw [e0]
  show lotOf ((2 : Int) ^ i + j) i ++ (if ((2 : Int) ^ i + j) / 2 ^ i % 2 = 1 then [(i : Int)] else []) = _
  rw [e2, if_pos (by decide), ← lotOf_mod ((2 : Int) ^ i + j) (Nat.le_refl i), e1]
theorem ref_of {rs : List Addr} {i : Nat} {v : V} (h : (rs.map V.ref)[i]? = some v) : ∃ f, v = .ref f ∧ rs[i]? = some f := by
  rw [List.getElem?_map] at h
  obtain ⟨f, hf, rfl⟩ := Option.map_eq_some_iff.mp h
  exact ⟨f, rfl, hf⟩
theorem ref_at' {rs : List Addr} {i : Nat} {f : Addr} (h : rs[i]? = some f) : (rs.map V.ref)[i]? = some (.ref f) := by
  rw [List.getElem?_map, h]
  rfl
/-- all lots of the things below i, in order -/
def DueAt (H : Hp) (D : Addr) (i : Nat) : Prop := ∃ ts : List Addr, H D = some (.lst (ts.map V.ref)) ∧ ts.length = 2 ^ i ∧ ∀ (k : Nat) (t : Addr), ts[k]? = some t → H t = some (.tup ((lotOf (k : Int) i).map V.int))
theorem cat_any {K : PySem.W.Frag} {a b : Addr} {xs ys : List V} {H : Hp} {Q : VK} (ha : H a = some (.tup xs)) (hb : H b = some (.tup ys)) (hz : xs.length + ys.length ≤ sizeLine) (q : ∀ H' p, Same H H' → H' p = some (.tup (xs ++ ys)) → Q (.ref p) H') : rCatA K (.ref a) (.ref b) H Q := by
  refine ⟨a, b, xs, ys, rfl, rfl, tup_t ha, tup_t hb, hz, fun e => ?_, fun _ e => ?_, fun _ _ p np => q _ p (same_upd np) upd_same⟩
  · subst e
    exact q H b (Same.refl H) hb
  · subst e
    exact q H a (Same.refl H) (ha.trans (by rw [List.append_nil]))
theorem DueAt.same {H H' : Hp} {D : Addr} {i : Nat} (s : Same H H') (h : DueAt H D i) : DueAt H' D i := by
  obtain ⟨ts, h1, h2, h3⟩ := h
  exact ⟨ts, s _ _ h1, h2, fun k t e => s _ _ (h3 k t e)⟩

/-- a def that is called by its name, with its promise -/
def Cal (P : Program) (w : World) (K : PySem.W.Frag) (mg : Str → Option Value) (base : Heap) (CX : CXT) (k : Nat) (x : Str) (ps : List Str) (sp : Sp) : Prop :=
  ∃ (f : Addr) (fd : FuncData), FnOk P w K mg base CX k f fd ps sp ∧ mg x = some (.ref f) ∧ PySem.W.keepIn K (.ref f) = true ∧ Binds K fd ps []
/-- an own class's __init__; dvs: what stands for the parameters that a short call leaves out -/
def CalI (P : Program) (w : World) (K : PySem.W.Frag) (mg : Str → Option Value) (base : Heap) (CX : CXT) (k : Nat) (C : Addr) (ps : List Str) (sp : Sp) (dvs : List V) : Prop :=
  ∃ (f : Addr) (fd : FuncData), FnOk P w K mg base CX k f fd ps sp ∧ Mk K C f ∧ Binds K fd ps [] ∧ ∃ ds, Vals dvs ds ∧ Binds K fd ps ds
/-- an own error's __init__ -/
def CalX (P : Program) (w : World) (K : PySem.W.Frag) (mg : Str → Option Value) (base : Heap) (CX : CXT) (k : Nat) (C : Addr) (ps : List Str) (sp : Sp) : Prop :=
  ∃ (f : Addr) (fd : FuncData), FnOk P w K mg base CX k f fd ps sp ∧ PySem.W.findIn K (.ref C) "__init__" = some (some (.ref f)) ∧ PySem.W.typeIn K (.ref f) = some (.type "function") ∧ Binds K fd ps []
/-- a promise for one of several classes -/
theorem sup_for {P : Program} {w : World} {K : PySem.W.Frag} {mg : Str → Option Value} {base : Heap} {CX : CXT} {k : Nat} {f : Addr} {ps : List Str} {sp : Addr → Sp} {CL : List Addr} {C : Addr} (m : C ∈ CL) (h : ∃ fd : FuncData, FnOk P w K mg base CX k f fd ps (fun vs H Q E => ∃ C, C ∈ CL ∧ sp C vs H Q E) ∧ Binds K fd ps []) :
    ∃ fd : FuncData, FnOk P w K mg base CX k f fd ps (sp C) ∧ Binds K fd ps [] := by
  obtain ⟨fd, G, b⟩ := h
  exact ⟨fd, ⟨fun vs H Q E z => G.len vs H Q E ⟨C, m, z⟩, fun A outer s H args us vs Q E hr e0 hb r z => G.run A outer s H args us vs Q E hr e0 hb r ⟨C, m, z⟩⟩, b⟩
theorem init_for {P : Program} {w : World} {K : PySem.W.Frag} {mg : Str → Option Value} {base : Heap} {CX : CXT} {k : Nat} {f : Addr} {ps : List Str} {sp : Addr → Sp} {CL : List Addr} {C : Addr} (m : C ∈ CL) (h : ∃ fd : FuncData, FnOk P w K mg base CX k f fd ps (fun vs H Q E => ∃ C, C ∈ CL ∧ sp C vs H Q E) ∧ Binds K fd ps []) (M : Mk K C f) :
    CalI P w K mg base CX k C ps (sp C) [] := by
  obtain ⟨fd, G, b⟩ := sup_for m h
  exact ⟨f, fd, G, M, b, [], .nil, b⟩
/-- what is left over is a new tuple -/
def spStar (sp : Sp) (n : Nat) : Sp := fun vs H Q E => ∃ ws rest, vs = ws ++ rest ∧ ws.length = n ∧ rest.length ≤ sizeLine ∧ ∀ p, H p = none → sp (ws ++ [V.ref p]) (upd H p (.tup rest)) Q E
/-- a method -/
def CalM (P : Program) (w : World) (K : PySem.W.Frag) (mg : Str → Option Value) (base : Heap) (CX : CXT) (k : Nat) (C : Addr) (m : Str) (ps : List Str) (sp : Sp) : Prop :=
  ∃ (f : Addr) (fd : FuncData), FnOk P w K mg base CX k f fd ps sp ∧ Meth K C m f ∧ Binds K fd ps []
section
variable {P : Program} {w : World} {K : PySem.W.Frag} {mg : Str → Option Value} {base : Heap}
def sp_lot_at (K : PySem.W.Frag) : Sp := fun vs H Q _ => ∃ (b : Int) (m : Nat), vs = [.int b, .int (m : Int)] ∧ m ≤ 1000 ∧ ∀ H' p, Same H H' → H p = none → H' p = some (.tup ((lotOf b m).map V.int)) → Q (.ref p) H'

theorem ok_lot_at {f : Addr} {fd : FuncData} (F : Fun K "lot_at" "lot_at" s_lot_at f fd) (m_range : mg "range" = none) (m_tuple : mg "tuple" = none) : FnOk P w K mg base CX0 1 f fd ["number", "many"] (sp_lot_at K) := by
  refine F.ok sc_lot_at (fun vs H Q E h => ?_) (fun cdv A outer s H vs Q E hr h => ?_)
  · obtain ⟨b, m, rfl, _⟩ := h
    rfl
  · obtain ⟨b, m, rfl, hm, q⟩ := h
    refine ⟨_, (pss_one (ps_ret (pe_callTy call_tuple_of (by rfl) m_tuple (by decide +kernel) (pa_cons (pe_lc (own := [("thing", 2)]) (g := (gName 2)) rfl sc_lot_at.nd (pi_range1 (by rfl) m_range (pa_cons (pv 1) pa_nil)) (blkOk_by (own := [("thing", 2)]) (N := ["number", "many", "thing"]) (sc := defScope s_lot_at) (by decide +kernel)) (fun _ _ _ _ _ => (pg_name (i := 2) sc_lot_at.nd rfl (Or.inl rfl))) (fun _ _ _ _ _ => (pts_one (pt_cmpR op_eq (pe_op op_and (pe_op op_shr (pv 0) (pv 2)) pe_int) pe_int (nomark _)))) (fun _ _ _ _ _ => (pv 2))) pa_nil)))), ?_⟩
    refine ⟨_, rfl, _, rfl, by omega, by omega, ?_⟩
    rw [Int.toNat_natCast]
    refine fun D nD => lc_range (lo := 0) (n := m) (fun i H2 => Same H H2 ∧ H2 D = some (.lst ((lotOf b i).map V.int))) ⟨same_upd nD, upd_same⟩ ?_ ?_
    · rintro i H2 hi ⟨s, hD⟩
      refine ⟨rfl, ?_⟩
      refine ⟨_, rfl, _, rfl, b, _, rfl, rfl, (by show (0 : Int) ≤ 0 + (i : Int); omega), _, _, rfl, rfl, rfl, _, rfl, ?_⟩
      have ez : Builtin.bitAnd (b / 2 ^ (0 + (i : Int)).toNat) 1 = b / 2 ^ i % 2 := by
        rw [bit_one, Int.zero_add, Int.toNat_natCast]
      refine ite2 (fun e => ?_) (fun e => ?_)
      · have e : b / 2 ^ i % 2 = 1 := ez.symm.trans (V.int.inj (of_decide_eq_true e))
        refine ⟨_, rfl, _, hD, ?_, same_mut s nD, ?_⟩
        · rw [List.length_map]
          exact small1000 (Nat.le_trans (lotOf_len b i) (by omega))
        · rw [upd_same]
          show _ = some (HO.lst ((lotOf b i ++ (if b / 2 ^ i % 2 = 1 then [(i : Int)] else [])).map V.int))
          rw [if_pos e, ← snoc_int, Int.zero_add]
      · have e : ¬ b / 2 ^ i % 2 = 1 := fun z => e (decide_eq_true (congrArg V.int (ez.trans z)))
        refine ⟨s, ?_⟩
        show _ = some (HO.lst ((lotOf b i ++ (if b / 2 ^ i % 2 = 1 then [(i : Int)] else [])).map V.int))
        rw [if_neg e, List.append_nil]
        exact hD
    · rintro H2 ⟨s, hD⟩
      exact ⟨D, _, rfl, .inl ⟨lst_l hD, fun p np => q _ p (same_mut s (s.free np)) (s.free np) upd_same⟩⟩
def pre_lots : List V → It → Prop := fun vs J => ∃ m : Nat, vs = [.int (m : Int)] ∧ m ≤ 40 ∧ J = Itg (fun i => lotOf (i : Int) m) ((2 : Int) ^ m).toNat
theorem ok_lots {f : Addr} {fd : FuncData} (F : Fun K "lots" "lots" s_lots f fd) (hm : mg "lots" = some (.ref f)) (hbd : Binds K fd ["many"] []) (m_range : mg "range" = none) (c_lot_at : Cal P w K mg base CX0 1 "lot_at" ["number", "many"] (sp_lot_at K)) : CalG P w K mg base 2 "lots" pre_lots := by
  intro X tg e es t p pos eP ew eK em eb calm room gl ha first noStar
  subst eP ew eK em eb
  obtain ⟨f_lot_at, fd_lot_at, G_lot_at, m_lot_at, k_lot_at, b_lot_at⟩ := c_lot_at
  obtain ⟨⟨oc, od, kV, doc, pm, an, cdv, ct, osl, rfl, lk, hcd⟩, kp⟩ := F
  refine pgi_call (N := ["many", "number"]) (ps := ["many"]) lk hcd sc_lots room gl hm kp hbd ha (fun vs J pins L a g go hpre old la gone => ?_) (by decide) first noStar
  have hr : Room 2 (X.A.in1.deeper (envOfC "lots" (defScope s_lots) L f cdv)) := (room.in1).deeper _
  obtain ⟨m, rfl, hm, rfl⟩ := hpre
  refine ⟨rfl, rfl, ((2 : Int) ^ m).toNat, _, _, _, (Itr 0 ((2 : Int) ^ m).toNat), (fun _ σ => ∃ y, σ = [some (.int (m : Int)), y]), ?w0, ?jg, ?js, ⟨old, calm, rfl, rfl, by decide +kernel, rfl, la, gone, fun s H => (pi_range1 (by rfl) m_range (pa_cons (pe_op op_shl pe_int (pv 0)) pa_nil)), fun s H => (pg_name (i := 1) sc_lots.nd rfl (Or.inl rfl)), fun s H => (pe_call G_lot_at (hr.mono (by decide)) (by rfl) m_lot_at k_lot_at b_lot_at .nil pass0 (pa_cons (pv 1) (pa_cons (pv 0) pa_nil))), fun _ => rfl, rfl, ?i0, ?turn, ?stop, ?mono, ?pos⟩⟩
  case w0 => exact ⟨none, rfl⟩
  case jg => exact fun i H h => h
  case js => exact fun i H h => h
  case i0 =>
    rintro σ H ⟨y, rfl⟩
    have tb := two_bd hm
    refine ⟨_, rfl, 1, (m : Int), rfl, rfl, ⟨by omega, by omega, by decide⟩, _, rfl, tb.1, tb.2, ?_⟩
    rw [Int.one_mul, Int.toNat_natCast]
    exact ⟨rfl, fun _ _ h => h⟩
  case turn =>
    rintro i σ ⟨y, rfl⟩ lt H
    refine ⟨lt, fun x H' ⟨e1, e2⟩ => ?_⟩
    subst e1 e2
    refine ⟨_, rfl, _, rfl, 0 + (i : Int), m, rfl, by omega, fun H2 p s np hp => ⟨⟨p, rfl, s, np, by rw [hp, Int.zero_add]⟩, _, rfl⟩⟩
  case stop => exact fun σ H _ => Nat.le_refl _
  case mono =>
    rintro i H H1 y H3 s ⟨t, e, s2, nt, ht⟩
    exact ⟨t, e, s.trans s2, s.free nt, ht⟩
  case pos =>
    have : (0 : Int) < 2 ^ m := Int.pow_pos (by decide)
    omega
def sp__law_cell (K : PySem.W.Frag) : Sp := fun vs H Q _ => ∃ (a : Addr) (ns : List Int) (j : Nat), vs = [.ref a, .int (j : Int)] ∧ SqL K H a (ns.map V.int) ∧ ∀ v : Int, Q (.int v) H
theorem ok__law_cell {f : Addr} {fd : FuncData} (F : Fun K "_law_cell" "_law_cell" s__law_cell f fd) (m_int : mg "int" = none) (m_len : mg "len" = none) : FnOk P w K mg base CX0 1 f fd ["_law_script", "_law_place"] (sp__law_cell K) := by
  refine F.ok sc__law_cell (fun vs H Q E h => ?_) (fun cdv A outer s H vs Q E hr h => ?_)
  · obtain ⟨a, ns, j, rfl, _⟩ := h
    rfl
  · obtain ⟨a, ns, j, rfl, hS, q⟩ := h
    refine ⟨_, (pss_cons (ps_if (pt_cmpR op_lt (pv 1) (pe_callB call_len_seq (by rfl) m_len (by decide +kernel) (pa_cons (pv 0) pa_nil)) (nomark _)) (pss_one (ps_ret (pe_callTy call_int1 (by rfl) m_int (by decide +kernel) (pa_cons (pe_ix ix_list (pv 0) (pv 1) (fun _ _ => rfl)) pa_nil)))) pss_nil)
      (pss_one (ps_ret pe_int))), ?_⟩
    refine ⟨_, rfl, .ref a, rfl, a, _, rfl, .inl hS, _, _, rfl, rfl, _, rfl, ite2 (fun e => ?_) (fun _ => q 0)⟩
    have hj : j < ns.length := by
      have e := of_decide_eq_true e
      rw [List.length_map] at e
      omega
    exact ⟨.ref a, rfl, .int (j : Int), rfl, a, _, _, _, rfl, rfl, hS, atI_nat (int_at (List.getElem?_eq_getElem hj)), .inl ⟨_, rfl, q _⟩⟩
def sp__law_draws (K : PySem.W.Frag) : Sp := fun vs H Q _ => ∃ (c : Int) (a : Addr) (ns : List Int), vs = [.int c, .ref a] ∧ SqL K H a (ns.map V.int) ∧ (∀ n ∈ ns, 0 < n ∧ n < 2 ^ 100) ∧ ns.length ≤ 1000 ∧
  ∀ ds H' p, Within ds ns → Same H H' → H p = none → H' p = some (.lst (ds.map V.int)) → Q (.ref p) H'

theorem ok__law_draws {f : Addr} {fd : FuncData} (F : Fun K "_law_draws" "_law_draws" s__law_draws f fd) (m_int : mg "int" = none) (m_len : mg "len" = none) (m_range : mg "range" = none) : FnOk P w K mg base CX0 1 f fd ["_law_cell_here", "_law_sizes"] (sp__law_draws K) := by
  refine F.ok sc__law_draws (fun vs H Q E h => ?_) (fun cdv A outer s H vs Q E hr h => ?_)
  · obtain ⟨c, a, ns, rfl, _⟩ := h
    rfl
  · obtain ⟨c, a, ns, rfl, hS, hn, hlen, q⟩ := h
    refine ⟨_, (pss_cons (ps_if (pt_cmpR op_eq (pv 0) pe_int (nomark _)) (pss_one (ps_ret (pe_lc (own := [("_law_size", 2)]) (g := (gName 2)) (tt := tYes) rfl sc__law_draws.nd (pi_list (pv 1)) (blkOk_by (own := [("_law_size", 2)]) (N := ["_law_cell_here", "_law_sizes", "_law_size", "_law_left", "_law_found", "_law_k", "_law_low", "_law_high"]) (sc := defScope s__law_draws) (by decide +kernel)) (fun _ _ _ _ _ => (pg_name (i := 2) sc__law_draws.nd rfl (Or.inl rfl))) (fun _ _ _ _ _ => pts_nil) (fun _ _ _ _ _ => pe_int)))) pss_nil)
      (pss_cons (ps_if (pt_cmpR op_ge (pv 0) (pe_op op_pow pe_int pe_int) (nomark _)) (pss_cons (ps_set (i := 3) sc__law_draws.nd rfl (Or.inl rfl) (pe_op op_sub (pv 0) (pe_op op_pow pe_int pe_int)))
      (pss_cons (ps_set (i := 4) sc__law_draws.nd rfl (Or.inl rfl) (pe_lst pa_nil))
      (pss_cons (ps_for PassesOwn.never rfl (pi_list (pv 1)) (pg_name (i := 2) sc__law_draws.nd rfl (Or.inl rfl))
      (pss_cons (ps_expr (pe_bm PySem.F.plainAttrs_list PySem.F.slot_list_append PySem.F.type_list_append mt_append (pv 4) (pa_cons (pe_op op_mod (pe_callTy call_int1 (by rfl) m_int (by decide +kernel) (pa_cons (pv 3) pa_nil)) (pv 2)) pa_nil)))
      (pss_one (ps_set (i := 3) sc__law_draws.nd rfl (Or.inl rfl) (pe_op op_fdivW (pv 3) (pv 2))))))
      (pss_one (ps_ret (pv 4)))))) pss_nil)
      (pss_cons (ps_set (i := 4) sc__law_draws.nd rfl (Or.inl rfl) (pe_lst pa_nil))
      (pss_cons (ps_for PassesOwn.never rfl (pi_range1 (by rfl) m_range (pa_cons (pe_callB call_len_seq (by rfl) m_len (by decide +kernel) (pa_cons (pv 1) pa_nil)) pa_nil)) (pg_name (i := 5) sc__law_draws.nd rfl (Or.inl rfl))
      (pss_cons (ps_set (i := 6) sc__law_draws.nd rfl (Or.inl rfl) (pe_op op_mod (pe_callTy call_int1 (by rfl) m_int (by decide +kernel) (pa_cons (pe_op op_add (pe_op op_mul (pv 0) pe_int) (pe_op op_mul (pe_op op_add (pv 5) pe_int) pe_int)) pa_nil)) pe_int))
      (pss_cons (ps_set (i := 6) sc__law_draws.nd rfl (Or.inl rfl) (pe_op op_mod (pe_callTy call_int1 (by rfl) m_int (by decide +kernel) (pa_cons (pe_op op_add (pe_op op_mul (pv 6) pe_int) (pe_op op_mul (pe_op op_add (pv 5) pe_int) pe_int)) pa_nil)) pe_int))
      (pss_cons (ps_set (i := 7) sc__law_draws.nd rfl (Or.inl rfl) (pe_op op_mod (pe_callTy call_int1 (by rfl) m_int (by decide +kernel) (pa_cons (pe_op op_add (pe_op op_mul (pv 0) pe_int) (pe_op op_mul (pe_op op_add (pv 5) pe_int) pe_int)) pa_nil)) pe_int))
      (pss_cons (ps_set (i := 7) sc__law_draws.nd rfl (Or.inl rfl) (pe_op op_mod (pe_callTy call_int1 (by rfl) m_int (by decide +kernel) (pa_cons (pe_op op_add (pe_op op_mul (pv 7) pe_int) (pv 6)) pa_nil)) pe_int))
      (pss_one (ps_expr (pe_bm PySem.F.plainAttrs_list PySem.F.slot_list_append PySem.F.type_list_append mt_append (pv 4) (pa_cons (pe_op op_mod (pe_callTy call_int1 (by rfl) m_int (by decide +kernel) (pa_cons (pe_op op_add (pe_op op_mul (pv 7) pe_int) (pv 6)) pa_nil)) (pe_ix ix_list (pv 1) (pv 5) (fun _ _ => rfl))) pa_nil)))))))))
      (pss_one (ps_ret (pv 4))))))), ?_⟩
    have small : ∀ {ds : List Int} {i : Nat}, Within ds (ns.take i) → (ds.map V.int).length < sizeLine := fun {ds i} w => by
      rw [List.length_map, w.len, List.length_take]
      exact small1000 (by omega)
    refine ⟨_, rfl, rfl, _, rfl, ite2 (fun _ => ?_) (fun _ => ?_)⟩
    · -- [0 for size in sizes]
      refine ⟨.ref a, rfl, a, rfl, ⟨_, hS⟩, fun D nD => lc_list (K := K) (a := a) (xs := ns.map V.int) (fun i H2 => ∃ ds : List Int, Same H H2 ∧ H2 D = some (.lst (ds.map V.int)) ∧ Within ds (ns.take i)) ⟨[], same_upd nD, upd_same, Within.zero ns⟩ (fun i H2 _ ⟨_, s, _⟩ => s.seq hS) ?_ ?_⟩
      · rintro i x H2 hi ⟨ds, s, hD, w⟩
        obtain ⟨n, rfl, hin⟩ := int_of hi
        refine ⟨rfl, ?_⟩
        refine lc_yes ?_
        refine iteT ?_
        exact ⟨_, hD, small w, ds ++ [0], same_mut s nD, by rw [upd_same, ← snoc_int], w.step hin (Int.le_refl 0) (hn n (List.mem_of_getElem? hin)).1⟩
      · rintro H2 ⟨ds, s, hD, w⟩
        rw [List.length_map] at w
        exact q ds H2 D w.full s nD hD
    refine ⟨_, rfl, 10, 18, rfl, rfl, ⟨by decide, by decide, by decide⟩, _, _, rfl, rfl, _, rfl, ite2 (fun _ => ?_) (fun _ => ?_)⟩
    · -- left = cell - 10 ** 18; found = []
      refine ⟨_, rfl, 10, 18, rfl, rfl, ⟨by decide, by decide, by decide⟩, _, _, rfl, rfl, ?_⟩
      refine ⟨Nat.zero_le _, fun o no => ?_⟩
      have s1 : Same H (upd H o (.lst [])) := same_upd no
      refine ⟨.ref a, rfl, a, rfl, ⟨_, s1.seq hS⟩, for_list (K := K) (a := a) (xs := ns.map V.int) (fun i σ H2 => ∃ (ds : List Int) (l : Int) (y : Option V), σ = [some (.int c), some (.ref a), y, some (.int l), some (.ref o), none, none, none] ∧ Same H H2 ∧ H2 o = some (.lst (ds.map V.int)) ∧ Within ds (ns.take i))
        ⟨[], _, none, rfl, s1, upd_same, Within.zero ns⟩ (fun i σ H2 _ ⟨_, _, _, _, s, _⟩ => s.seq hS) ?_ ?_⟩
      · rintro i x σ H2 hi ⟨ds, l, y, rfl, s, hD, w⟩
        obtain ⟨n, rfl, hin⟩ := int_of hi
        obtain ⟨n0, n1⟩ := hn n (List.mem_of_getElem? hin)
        refine ⟨.ref o, rfl, .inl ⟨rfl, _, lst_l hD⟩, _, rfl, .inl ⟨l, rfl, _, rfl, _, _, rfl, rfl, n0, o, _, _, rfl, rfl, hD, small w, ?_⟩⟩
        refine ⟨_, rfl, _, rfl, _, _, rfl, rfl, w_div n0 n1, ds ++ [l % n], _, _, rfl, same_mut s no, by rw [upd_same, ← snoc_int], w.step hin (Int.emod_nonneg _ (by omega)) (Int.emod_lt_of_pos _ n0)⟩
      · rintro σ H2 ⟨ds, l, y, rfl, s, hD, w⟩
        rw [List.length_map] at w
        exact ⟨_, rfl, q ds H2 o w.full s no hD⟩
    · refine ⟨Nat.zero_le _, fun o no => ?_⟩
      have s1 : Same H (upd H o (.lst [])) := same_upd no
      refine ⟨.ref a, rfl, a, _, rfl, .inl (s1.seq hS), _, rfl, ?_⟩
      rw [List.length_map]
      refine ⟨by omega, by omega, ?_⟩
      rw [Int.toNat_natCast]
      refine for_range (lo := 0) (n := ns.length) (fun i σ H2 => ∃ (ds : List Int) (y1 y2 y3 : Option V), σ = [some (.int c), some (.ref a), none, none, some (.ref o), y1, y2, y3] ∧ Same H H2 ∧ H2 o = some (.lst (ds.map V.int)) ∧ Within ds (ns.take i))
        ⟨[], none, none, none, rfl, s1, upd_same, Within.zero ns⟩ ?_ ?_
      · rintro i σ H2 hi ⟨ds, y1, y2, y3, rfl, s, hD, w⟩
        have hin : ns[i]? = some ns[i] := List.getElem?_eq_getElem hi
        obtain ⟨n0, n1⟩ := hn ns[i] (List.getElem_mem hi)
        refine ⟨_, rfl, _, _, rfl, rfl, .inr ⟨by decide, by decide⟩, _, rfl, _, _, rfl, rfl, _, _, rfl, rfl, .inr ⟨by decide, by decide⟩, _, _, rfl, rfl, .inl ⟨_, rfl, _, _, rfl, rfl, (show (0 : Int) < 2147483647 by decide), ?_⟩⟩
        refine ⟨_, rfl, _, _, rfl, rfl, .inr ⟨by decide, by decide⟩, _, rfl, _, _, rfl, rfl, _, _, rfl, rfl, .inr ⟨by decide, by decide⟩, _, _, rfl, rfl, .inl ⟨_, rfl, _, _, rfl, rfl, (show (0 : Int) < 2147483399 by decide), ?_⟩⟩
        refine ⟨_, rfl, _, _, rfl, rfl, .inr ⟨by decide, by decide⟩, _, rfl, _, _, rfl, rfl, _, _, rfl, rfl, .inr ⟨by decide, by decide⟩, _, _, rfl, rfl, .inl ⟨_, rfl, _, _, rfl, rfl, (show (0 : Int) < 2147483563 by decide), ?_⟩⟩
        refine ⟨_, rfl, _, _, rfl, rfl, .inr ⟨by decide, by decide⟩, _, rfl, _, _, rfl, rfl, .inl ⟨_, rfl, _, _, rfl, rfl, (show (0 : Int) < 2147483587 by decide), ?_⟩⟩
        refine ⟨.ref o, rfl, .inl ⟨rfl, _, lst_l hD⟩, _, rfl, _, _, rfl, rfl, .inr ⟨by decide, by decide⟩, _, rfl, _, _, rfl, rfl, .inl ⟨_, rfl, .ref a, rfl, .int (0 + (i : Int)), rfl, a, _, _, _, rfl, rfl, s.seq hS, at_of (Int.zero_add _) (int_at hin), _, _, rfl, rfl, n0, o, _, _, rfl, rfl, hD, small w, ?_⟩⟩
        exact ⟨ds ++ [_], _, _, _, rfl, same_mut s no, by rw [upd_same, ← snoc_int], w.step hin (Int.emod_nonneg _ (by omega)) (Int.emod_lt_of_pos _ n0)⟩
      · rintro σ H2 ⟨ds, y1, y2, y3, rfl, s, hD, w⟩
        exact ⟨_, rfl, q ds H2 o w.full s no hD⟩
def sp__law_is_int : Sp := fun vs H Q _ => ∃ v : Int, vs = [.int v] ∧ Q (.bl true) H
theorem ok__law_is_int {f : Addr} {fd : FuncData} (F : Fun K "_law_is_int" "_law_is_int" s__law_is_int f fd) (m_bool : mg "bool" = none) (m_int : mg "int" = none) (m_isinstance : mg "isinstance" = none) : FnOk P w K mg base CX0 1 f fd ["_law_x"] sp__law_is_int := by
  refine F.ok sc__law_is_int (fun vs H Q E h => ?_) (fun cdv A outer s H vs Q E hr h => ?_)
  · obtain ⟨v, rfl, _⟩ := h
    rfl
  · obtain ⟨v, rfl, q⟩ := h
    refine ⟨_, (pss_one (ps_ret (pe_and (pe_callB call_isi (by rfl) m_isinstance (by decide +kernel) (pa_cons (pv 0) (pa_cons (pe_bltn (v := .ty "int") (by rfl) m_int (by decide +kernel) rfl) pa_nil))) (pe_one (pe_not (pe_callB call_isi (by rfl) m_isinstance (by decide +kernel) (pa_cons (pv 0) (pa_cons (pe_bltn (v := .ty "bool") (by rfl) m_bool (by decide +kernel) rfl) pa_nil)))))))), ?_⟩
    exact ⟨_, rfl, .int v, .ty "int", _, _, true, rfl, .ty "int", .base (.int v), kit_ty kI, true, rfl, iteT ⟨_, rfl, .int v, .ty "bool", _, _, false, rfl, .ty "bool", .base (.int v), kit_ty kB, false, rfl, q⟩⟩
def sp__law_same_lot (K : PySem.W.Frag) : Sp := fun vs H Q _ => ∃ (a b : Addr) (ns : List Int), vs = [.ref a, .ref b] ∧ H a = some (.tup (ns.map V.int)) ∧ SqT K H b (ns.map V.int) ∧ ns.length ≤ 1000 ∧ Q (.bl true) H
theorem ok__law_same_lot {f : Addr} {fd : FuncData} (F : Fun K "_law_same_lot" "_law_same_lot" s__law_same_lot f fd) (m_isinstance : mg "isinstance" = none) (m_len : mg "len" = none) (m_range : mg "range" = none) (m_tuple : mg "tuple" = none) (c__law_is_int : Cal P w K mg base CX0 1 "_law_is_int" ["_law_x"] sp__law_is_int) : FnOk P w K mg base CX0 2 f fd ["_law_x", "_law_due"] (sp__law_same_lot K) := by
  refine F.ok sc__law_same_lot (fun vs H Q E h => ?_) (fun cdv A outer s H vs Q E hr h => ?_)
  · obtain ⟨a, b, ns, rfl, _⟩ := h
    rfl
  · obtain ⟨a, b, ns, rfl, hA, hB, hlen, q⟩ := h
    obtain ⟨f__law_is_int, fd__law_is_int, G__law_is_int, m__law_is_int, k__law_is_int, b__law_is_int⟩ := c__law_is_int
    refine ⟨_, (pss_cons (ps_if (PW.pt (pw_or (pt_not (pt_val (pe_callB call_isi (by rfl) m_isinstance (by decide +kernel) (pa_cons (pv 0) (pa_cons (pe_bltn (v := .ty "tuple") (by rfl) m_tuple (by decide +kernel) rfl) pa_nil))))) (pw_or1 (pt_cmpR op_ne (pe_callB call_len_seq (by rfl) m_len (by decide +kernel) (pa_cons (pv 0) pa_nil)) (pe_callB call_len_seq (by rfl) m_len (by decide +kernel) (pa_cons (pv 1) pa_nil)) (nomark _))))) (pss_one (ps_ret pe_bl)) pss_nil)
      (pss_cons (ps_for PassesOwn.never rfl (pi_range1 (by rfl) m_range (pa_cons (pe_callB call_len_seq (by rfl) m_len (by decide +kernel) (pa_cons (pv 1) pa_nil)) pa_nil)) (pg_name (i := 2) sc__law_same_lot.nd rfl (Or.inl rfl))
      (pss_one (ps_if (PW.pt (pw_or (pt_not (pt_val (pe_call G__law_is_int (hr.mono (by decide)) (by rfl) m__law_is_int k__law_is_int b__law_is_int .nil pass0 (pa_cons (pe_ix ix_tup (pv 0) (pv 2) (fun _ _ => rfl)) pa_nil)))) (pw_or1 (pt_cmpR op_ne (pe_ix ix_tup (pv 0) (pv 2) (fun _ _ => rfl)) (pe_ix ix_tup (pv 1) (pv 2) (fun _ _ => rfl)) (nomark _))))) (pss_one (ps_ret pe_bl)) pss_nil)))
      (pss_one (ps_ret pe_bl)))), ?_⟩
    have hA' : SqT K H a (ns.map V.int) := tup_t hA
    refine ⟨_, rfl, .ref a, .ty "tuple", _, _, true, rfl, .ty "tuple", .base (.tup hA), kit_ty kT, true, rfl, iteF ?_⟩
    refine ⟨.ref a, rfl, a, _, rfl, .inr hA', .ref b, rfl, b, _, rfl, .inr hB, rfl, _, rfl, iteNS rfl ?_⟩
    refine ⟨.ref b, rfl, b, _, rfl, .inr hB, _, rfl, ?_⟩
    rw [List.length_map]
    refine ⟨by omega, by omega, ?_⟩
    rw [Int.toNat_natCast]
    refine for_range (lo := 0) (n := ns.length) (fun i σ H2 => ∃ (y : Option V), σ = [some (.ref a), some (.ref b), y] ∧ H2 = H) ⟨none, rfl, rfl⟩ ?_ ?_
    · rintro i σ H2 hi ⟨y, rfl, rfl⟩
      have hin : (ns.map V.int)[i]? = some (.int ns[i]) := int_at (List.getElem?_eq_getElem hi)
      refine ⟨.ref a, rfl, .int (0 + (i : Int)), rfl, a, _, _, _, rfl, rfl, hA', at_of (Int.zero_add _) hin, ns[i], rfl, true, rfl, iteF ?_⟩
      refine ⟨.ref a, rfl, .int (0 + (i : Int)), rfl, a, _, _, _, rfl, rfl, hA', at_of (Int.zero_add _) hin, .ref b, rfl, .int (0 + (i : Int)), rfl, b, _, _, _, rfl, rfl, hB, at_of (Int.zero_add _) hin, rfl, _, rfl, iteNS rfl ?_⟩
      exact ⟨_, rfl, rfl⟩
    · rintro σ H2 ⟨y, rfl, rfl⟩
      exact q
def sp_law (K : PySem.W.Frag) : Sp := fun vs H Q _ => ∃ (a : Addr) (ns : List Int), vs = [.ref a] ∧ SqL K H a (ns.map V.int) ∧ ns.length ≤ 63 ∧ ∀ H', Q (.bl true) H'

theorem ok_law {f : Addr} {fd : FuncData} (F : Fun K "law" "law" s_law f fd) (m_len : mg "len" = none) (m_range : mg "range" = none) (c_lots : CalG P w K mg base 2 "lots" pre_lots) (c__law_cell : Cal P w K mg base CX0 1 "_law_cell" ["_law_script", "_law_place"] (sp__law_cell K)) (c__law_draws : Cal P w K mg base CX0 1 "_law_draws" ["_law_cell_here", "_law_sizes"] (sp__law_draws K)) (c__law_same_lot : Cal P w K mg base CX0 2 "_law_same_lot" ["_law_x", "_law_due"] (sp__law_same_lot K)) : FnOk P w K mg base CX0 5 f fd ["_law_script"] (sp_law K) := by
  refine F.ok sc_law (fun vs H Q E h => ?_) (fun cdv A outer s H vs Q E hr h => ?_)
  · obtain ⟨a, ns, rfl, _⟩ := h
    rfl
  · obtain ⟨a, ns, rfl, hS, hlen, q⟩ := h
    obtain ⟨f__law_cell, fd__law_cell, G__law_cell, m__law_cell, k__law_cell, b__law_cell⟩ := c__law_cell
    obtain ⟨f__law_draws, fd__law_draws, G__law_draws, m__law_draws, k__law_draws, b__law_draws⟩ := c__law_draws
    obtain ⟨f__law_same_lot, fd__law_same_lot, G__law_same_lot, m__law_same_lot, k__law_same_lot, b__law_same_lot⟩ := c__law_same_lot
    refine ⟨_, (pss_cons (ps_set (i := 1) sc_law.nd rfl (Or.inl rfl) (pe_ix ix_list (pe_call G__law_draws (hr.mono (by decide)) (by rfl) m__law_draws k__law_draws b__law_draws .nil pass0 (pa_cons (pe_call G__law_cell (hr.mono (by decide)) (by rfl) m__law_cell k__law_cell b__law_cell .nil pass0 (pa_cons (pv 0) (pa_cons pe_int pa_nil))) (pa_cons (pe_lst (pa_cons pe_int pa_nil)) pa_nil))) pe_int (fun _ _ => rfl)))
      (pss_cons (ps_set (i := 2) sc_law.nd rfl (Or.inl rfl) (pe_lst (pa_cons (pe_tup pa_nil) pa_nil)))
      (pss_cons (ps_for PassesOwn.never rfl (pi_range1 (by rfl) m_range (pa_cons (pv 1) pa_nil)) (pg_name (i := 3) sc_law.nd rfl (Or.inr rfl))
      (pss_one (ps_set (i := 2) sc_law.nd rfl (Or.inl rfl) (pe_op op_cat (pv 2) (pe_lc (own := [("_law_lot", 6)]) (g := (gName 6)) (tt := tYes) rfl sc_law.nd (pi_list (pv 2)) (blkOk_by (own := [("_law_lot", 6)]) (N := ["_law_script", "_law_many", "_law_due", "_law_thing", "_law_at", "_law_found", "_law_lot"]) (sc := defScope s_law) (by decide +kernel)) (fun _ _ _ _ _ => (pg_name (i := 6) sc_law.nd rfl (Or.inl rfl))) (fun _ _ _ _ _ => pts_nil) (fun _ _ _ _ _ => (pe_op (r := rCatA K) op_catA (pv 6) (pe_tup (pa_cons (pv 3) pa_nil)))))))))
      (pss_cons (ps_set (i := 4) sc_law.nd rfl (Or.inl rfl) pe_int)
      (pss_cons (ps_forG PassesOwn.never blindN (c_lots _ _ _ _ _ _ _ rfl rfl rfl rfl rfl rfl (hr.mono (by decide)) (by rfl) (pa_cons (pv 1) pa_nil) (by rfl) (by rfl)) (pg_name (i := 5) sc_law.nd rfl (Or.inl rfl))
      (pss_cons (ps_if (PW.pt (pw_or (pt_cmpR op_ge (pv 4) (pe_callB call_len_seq (by rfl) m_len (by decide +kernel) (pa_cons (pv 2) pa_nil)) (nomark _)) (pw_or1 (pt_not (pt_val (pe_call G__law_same_lot (hr.mono (by decide)) (by rfl) m__law_same_lot k__law_same_lot b__law_same_lot .nil pass0 (pa_cons (pv 5) (pa_cons (pe_ix ix_list (pv 2) (pv 4) (fun _ _ => rfl)) pa_nil)))))))) (pss_one (ps_ret pe_bl)) pss_nil)
      (pss_one (ps_set (i := 4) sc_law.nd rfl (Or.inl rfl) (pe_op op_add (pv 4) pe_int)))))
      (pss_one (ps_ret (pe_cmpR op_eq (pv 4) (pe_callB call_len_seq (by rfl) m_len (by decide +kernel) (pa_cons (pv 2) pa_nil)) (nomark _))))))))), ?_⟩
    refine ⟨.ref a, rfl, a, ns, 0, rfl, hS, fun c1 => ?_⟩
    refine ⟨(by show 1 ≤ sizeLine; decide), fun p1 np1 => ?_⟩
    refine ⟨c1, p1, [11], rfl, lst_l upd_same, by decide, by decide, fun dsd1 H1 d1 wd1 s1 nd1 hd1 => ?_⟩
    have s1 : Same H H1 := (same_upd np1).trans s1
    have nd1 : H d1 = none := (same_upd np1).free nd1
    obtain ⟨x0, rx0, rfl, lx0, ux0, wd1⟩ := wd1.c
    cases wd1.n
    have Ld1 : SqL K H1 d1 ([x0].map V.int) := lst_l hd1
    obtain ⟨m, rfl⟩ : ∃ m : Nat, x0 = (m : Int) := ⟨x0.toNat, by omega⟩
    have hm : m ≤ 10 := by omega
    refine ⟨d1, _, _, _, rfl, rfl, Ld1, atI_nat (j := 0) rfl, ?_⟩
    refine ⟨by decide, fun e ne => ⟨(by show 1 ≤ sizeLine; decide), fun D0 nD0 => ?_⟩⟩
    have he0 := (upd_ne (o := .lst [V.ref e]) (ne_of_none (upd_same (o := .tup []) (H := H1)) nD0)).trans (upd_same (a := e) (o := .tup []) (H := H1))
    refine ⟨_, rfl, _, rfl, by omega, by omega, ?_⟩
    rw [Int.toNat_natCast]
    refine for_range (lo := 0) (n := m) (fun i σ H2 => ∃ (D : Addr) (y : Option V), σ = [some (.ref a), some (.int (m : Int)), some (.ref D), y, none, none, none] ∧ DueAt H2 D i) ⟨D0, none, rfl, [e], upd_same, rfl, fun k t h => ?_⟩ ?_ ?_
    · cases k with
      | zero =>
        cases h
        exact he0
      | succ k => cases h
    · rintro i σ H2 hi ⟨D, y, rfl, ts, hD, lt, at'⟩
      have p10 : 2 ^ i ≤ 2 ^ 9 := Nat.pow_le_pow_right (by decide) (by omega)
      have e10 : 2 ^ 9 = 512 := by decide
      refine ⟨.ref D, rfl, .ref D, rfl, D, rfl, ⟨_, lst_l hD⟩, fun G nG => lc_list (K := K) (a := D) (xs := ts.map V.ref) (fun j H3 => Same H2 H3 ∧ ∃ us : List Addr, H3 G = some (.lst (us.map V.ref)) ∧ us.length = j ∧ ∀ (k : Nat) (t : Addr), us[k]? = some t → H3 t = some (.tup ((lotOf (k : Int) i ++ [(i : Int)]).map V.int))) ⟨same_upd nG, [], upd_same, rfl, fun k t h => by cases h⟩ (fun j H3 _ ⟨s, _⟩ => lst_l (s _ _ hD)) ?_ ?_⟩
      · rintro j x H3 hj ⟨s3, us, hG, lu, au⟩
        obtain ⟨t, rfl, ht⟩ := ref_of hj
        have jlt : j < ts.length := (List.getElem?_eq_some_iff.mp ht).1
        refine ⟨rfl, ?_⟩
        refine lc_yes ?_
        refine iteT ?_
        refine ⟨.ref t, rfl, _, rfl, (by show 1 ≤ sizeLine; decide), fun p np => cat_any ((same_upd np) _ _ (s3 _ _ (at' j t ht))) upd_same ?_ fun H4 q s4 hq => ?_⟩
        · rw [List.length_map]
          have := lotOf_len (j : Int) i
          exact Nat.le_of_lt (small2000 (by
            show _ + 1 ≤ 2000
            omega))
        · have s34 := (same_upd np).trans s4
          have hG4 := s34 _ _ hG
          refine ⟨_, hG4, ?_, same_mut (s3.trans s34) nG, us ++ [q], by rw [upd_same, List.map_append]; rfl, by rw [List.length_append, lu]; rfl, fun k u hk => ?_⟩
          · rw [List.length_map]
            exact small2000 (by omega)
          · have cl : H4 u = some (.tup ((lotOf (k : Int) i ++ [(i : Int)]).map V.int)) := by
              rcases Nat.lt_or_ge k us.length with y | y
              · rw [List.getElem?_append_left y] at hk
                exact s34 _ _ (au k u hk)
              · rw [List.getElem?_append_right y] at hk
                obtain ⟨e1, e2⟩ : k - us.length = 0 ∧ u = q := by
                  cases hz : k - us.length with
                  | zero =>
                    rw [hz] at hk
                    cases hk
                    exact ⟨rfl, rfl⟩
                  | succ z =>
                    rw [hz] at hk
                    cases hk
                obtain rfl : k = j := by omega
                subst e2
                rw [hq, List.map_append, Int.zero_add]
                rfl
            refine (upd_ne fun e => ?_).trans cl
            subst e
            rw [hG4] at cl
            cases cl
      · rintro H3 ⟨s3, us, hG, lu, au⟩
        rw [List.length_map] at lu
        refine ⟨D, G, _, _, rfl, rfl, s3 _ _ hD, hG, ?_, fun p np => ?_⟩
        · rw [List.length_map, List.length_map]
          exact Nat.le_of_lt (small2000 (by omega))
        · have e2 : 2 ^ (i + 1) = 2 ^ i * 2 := Nat.pow_succ 2 i
          refine ⟨p, _, rfl, ts ++ us, by rw [upd_same, List.map_append], by rw [List.length_append]; omega, fun k t h => ?_⟩
          have cl : H3 t = some (.tup ((lotOf (k : Int) (i + 1)).map V.int)) := by
            rcases Nat.lt_or_ge k ts.length with y | y
            · rw [List.getElem?_append_left y] at h
              rw [lotOf_low (by omega)]
              exact s3 _ _ (at' k t h)
            · rw [List.getElem?_append_right y] at h
              have klt : k - ts.length < us.length := (List.getElem?_eq_some_iff.mp h).1
              obtain ⟨j, rfl⟩ : ∃ j, k = 2 ^ i + j := ⟨k - 2 ^ i, by omega⟩
              have ej : 2 ^ i + j - ts.length = j := by omega
              rw [ej] at h klt
              rw [lotOf_high (by omega)]
              exact au j t h
          exact (upd_ne (ne_of_none cl np)).trans cl
    · rintro σ H2 ⟨D, y, rfl, dD⟩
      have p10 : 2 ^ m ≤ 2 ^ 10 := Nat.pow_le_pow_right (by decide) hm
      have e10 : 2 ^ 10 = 1024 := by decide
      have n2 : ((2 : Int) ^ m).toNat = 2 ^ m := by
        have e : ((2 ^ m : Nat) : Int) = (2 : Int) ^ m := by
          rw [Int.natCast_pow]
          rfl
        rw [← e, Int.toNat_natCast]
      refine ⟨_, rfl, _, ⟨m, rfl, by omega, rfl⟩, ?_⟩
      refine for_gen (fun i σ H3 => ∃ (y5 : Option V), σ = [some (.ref a), some (.int (m : Int)), some (.ref D), y, some (.int (i : Int)), y5, none] ∧ DueAt H3 D m) ⟨none, rfl, dD⟩ ?_ ?_
      · rintro i t σ H3 H4 hi ⟨y5, rfl, ts, hD, lt, at'⟩ s4 nt ht
        rw [n2] at hi
        have hD4 := s4 _ _ hD
        have e1 : ts[i]? = some ts[i] := List.getElem?_eq_getElem (by omega)
        have h1 := s4 _ _ (at' i _ e1)
        have ll := lotOf_len (i : Int) m
        refine ⟨_, rfl, .ref D, rfl, D, _, rfl, .inl (lst_l hD4), _, _, rfl, rfl, _, rfl, ite2 (fun c => ?_) (fun _ => ?_)⟩
        · have c2 := of_decide_eq_true c
          rw [List.length_map] at c2
          omega
        refine ⟨.ref t, rfl, .ref D, rfl, _, rfl, D, _, _, .ref ts[i], rfl, rfl, lst_l hD4, at_of (j := i) rfl (ref_at' e1), t, ts[i], lotOf (i : Int) m, rfl, ht, tup_t h1, by omega, true, rfl, iteF ?_⟩
        exact ⟨_, rfl, _, _, rfl, rfl, _, rfl, DueAt.same s4 ⟨ts, hD, lt, at'⟩⟩
      · rintro σ H3 ⟨y5, rfl, ts, hD, lt, at'⟩
        refine ⟨_, rfl, .ref D, rfl, D, _, rfl, .inl (lst_l hD), rfl, ?_⟩
        rw [List.length_map, lt, n2, decide_eq_true rfl]
        exact q _
end
/-! ### what the top has written; the law's own head -/
theorem all_mk {l : PySem.W.OpenLaw} {w : World} {K : PySem.W.Frag} {h : Heap} {mg : Str → Option Value} {fa f1 f2 f3 f4 f5 f6 f7 : Addr} (X : K.In h) (G : h.Ns mainGlobals mg) (hfa : mg "law" = some (.ref fa))
    {od1 an1 od2 an2 od3 an3 od4 an4 od5 an5 od6 an6 od7 an7 : Option Addr} {sl1 sl2 sl3 sl4 sl5 sl6 sl7 : Array (Option Value)} {oc1 kV1 dc1 pm1 cd1 ct1 oc2 kV2 dc2 pm2 cd2 ct2 oc3 kV3 dc3 pm3 cd3 ct3 oc4 kV4 dc4 pm4 cd4 ct4 oc5 kV5 dc5 pm5 cd5 ct5 oc6 kV6 dc6 pm6 cd6 ct6 oc7 kV7 dc7 pm7 cd7 ct7 : Value}
    (a1 : PySem.W.nsIn K mainGlobals "lot_at" = some (some (.ref f1)))
    (l1 : K.lookup f1 = some ⟨oc1, od1, .func (PySem.W.fnOf "lot_at" "lot_at" (defArgs s_lot_at) (defBody s_lot_at) (defScope s_lot_at) .none kV1 dc1 pm1 an1 cd1 ct1), sl1⟩)
    (c1 : PySem.W.codeIn K cd1 "lot_at" = true) (k1 : PySem.W.keepIn K (.ref f1) = true)
    (a2 : PySem.W.nsIn K mainGlobals "lots" = some (some (.ref f2)))
    (l2 : K.lookup f2 = some ⟨oc2, od2, .func (PySem.W.fnOf "lots" "lots" (defArgs s_lots) (defBody s_lots) (defScope s_lots) .none kV2 dc2 pm2 an2 cd2 ct2), sl2⟩)
    (c2 : PySem.W.codeIn K cd2 "lots" = true) (k2 : PySem.W.keepIn K (.ref f2) = true)
    (a3 : PySem.W.nsIn K mainGlobals "_law_cell" = some (some (.ref f3)))
    (l3 : K.lookup f3 = some ⟨oc3, od3, .func (PySem.W.fnOf "_law_cell" "_law_cell" (defArgs s__law_cell) (defBody s__law_cell) (defScope s__law_cell) .none kV3 dc3 pm3 an3 cd3 ct3), sl3⟩)
    (c3 : PySem.W.codeIn K cd3 "_law_cell" = true) (k3 : PySem.W.keepIn K (.ref f3) = true)
    (a4 : PySem.W.nsIn K mainGlobals "_law_draws" = some (some (.ref f4)))
    (l4 : K.lookup f4 = some ⟨oc4, od4, .func (PySem.W.fnOf "_law_draws" "_law_draws" (defArgs s__law_draws) (defBody s__law_draws) (defScope s__law_draws) .none kV4 dc4 pm4 an4 cd4 ct4), sl4⟩)
    (c4 : PySem.W.codeIn K cd4 "_law_draws" = true) (k4 : PySem.W.keepIn K (.ref f4) = true)
    (a5 : PySem.W.nsIn K mainGlobals "_law_is_int" = some (some (.ref f5)))
    (l5 : K.lookup f5 = some ⟨oc5, od5, .func (PySem.W.fnOf "_law_is_int" "_law_is_int" (defArgs s__law_is_int) (defBody s__law_is_int) (defScope s__law_is_int) .none kV5 dc5 pm5 an5 cd5 ct5), sl5⟩)
    (c5 : PySem.W.codeIn K cd5 "_law_is_int" = true) (k5 : PySem.W.keepIn K (.ref f5) = true)
    (a6 : PySem.W.nsIn K mainGlobals "_law_same_lot" = some (some (.ref f6)))
    (l6 : K.lookup f6 = some ⟨oc6, od6, .func (PySem.W.fnOf "_law_same_lot" "_law_same_lot" (defArgs s__law_same_lot) (defBody s__law_same_lot) (defScope s__law_same_lot) .none kV6 dc6 pm6 an6 cd6 ct6), sl6⟩)
    (c6 : PySem.W.codeIn K cd6 "_law_same_lot" = true) (k6 : PySem.W.keepIn K (.ref f6) = true)
    (a7 : PySem.W.nsIn K mainGlobals "law" = some (some (.ref f7)))
    (l7 : K.lookup f7 = some ⟨oc7, od7, .func (PySem.W.fnOf "law" "law" (defArgs s_law) (defBody s_law) (defScope s_law) .none kV7 dc7 pm7 an7 cd7 ct7), sl7⟩)
    (c7 : PySem.W.codeIn K cd7 "law" = true) (k7 : PySem.W.keepIn K (.ref f7) = true)
    (z_bool : PySem.W.nsIn K mainGlobals "bool" = some none)
    (z_int : PySem.W.nsIn K mainGlobals "int" = some none)
    (z_isinstance : PySem.W.nsIn K mainGlobals "isinstance" = some none)
    (z_len : PySem.W.nsIn K mainGlobals "len" = some none)
    (z_range : PySem.W.nsIn K mainGlobals "range" = some none)
    (z_tuple : PySem.W.nsIn K mainGlobals "tuple" = some none) :
    ∃ fd : FuncData, (∀ (s : Shared) (v : Value), BindsTo s fd ⟨[v], []⟩ [("_law_script", v)]) ∧ ∀ base : Heap, K.In base → base.Ns mainGlobals mg → FnOk l.prog w K mg base CX0 5 fa fd ["_law_script"] (sp_law K) := by
  have e := hfa.symm.trans (PySem.W.mg_of X G a7)
  cases e
  have m_bool := PySem.W.mg_none_of X G z_bool
  have m_int := PySem.W.mg_none_of X G z_int
  have m_isinstance := PySem.W.mg_none_of X G z_isinstance
  have m_len := PySem.W.mg_none_of X G z_len
  have m_range := PySem.W.mg_none_of X G z_range
  have m_tuple := PySem.W.mg_none_of X G z_tuple
  have F1 := fun_mk (st := s_lot_at) l1 c1 k1
  have b1 := F1.binds (ps := ["number", "many"]) fun _ _ _ _ _ _ us hl => match us, hl with | [_, _], _ => rfl
  have F2 := fun_mk (st := s_lots) l2 c2 k2
  have b2 := F2.binds (ps := ["many"]) fun _ _ _ _ _ _ us hl => match us, hl with | [_], _ => rfl
  have F3 := fun_mk (st := s__law_cell) l3 c3 k3
  have b3 := F3.binds (ps := ["_law_script", "_law_place"]) fun _ _ _ _ _ _ us hl => match us, hl with | [_, _], _ => rfl
  have F4 := fun_mk (st := s__law_draws) l4 c4 k4
  have b4 := F4.binds (ps := ["_law_cell_here", "_law_sizes"]) fun _ _ _ _ _ _ us hl => match us, hl with | [_, _], _ => rfl
  have F5 := fun_mk (st := s__law_is_int) l5 c5 k5
  have b5 := F5.binds (ps := ["_law_x"]) fun _ _ _ _ _ _ us hl => match us, hl with | [_], _ => rfl
  have F6 := fun_mk (st := s__law_same_lot) l6 c6 k6
  have b6 := F6.binds (ps := ["_law_x", "_law_due"]) fun _ _ _ _ _ _ us hl => match us, hl with | [_, _], _ => rfl
  have F7 := fun_mk (st := s_law) l7 c7 k7
  refine ⟨PySem.W.fnOf "law" "law" (defArgs s_law) (defBody s_law) (defScope s_law) .none kV7 dc7 pm7 an7 cd7 ct7, fun s v => .of_eq rfl, fun base _ _ => ?_⟩
  have K_lot_at : Cal l.prog w K mg base CX0 1 "lot_at" ["number", "many"] (sp_lot_at K) := ⟨f1, _, ok_lot_at F1 m_range m_tuple, PySem.W.mg_of X G a1, k1, b1⟩
  have K_lots : CalG l.prog w K mg base 2 "lots" pre_lots := ok_lots F2 (PySem.W.mg_of X G a2) b2 m_range K_lot_at
  have K__law_cell : Cal l.prog w K mg base CX0 1 "_law_cell" ["_law_script", "_law_place"] (sp__law_cell K) := ⟨f3, _, ok__law_cell F3 m_int m_len, PySem.W.mg_of X G a3, k3, b3⟩
  have K__law_draws : Cal l.prog w K mg base CX0 1 "_law_draws" ["_law_cell_here", "_law_sizes"] (sp__law_draws K) := ⟨f4, _, ok__law_draws F4 m_int m_len m_range, PySem.W.mg_of X G a4, k4, b4⟩
  have K__law_is_int : Cal l.prog w K mg base CX0 1 "_law_is_int" ["_law_x"] sp__law_is_int := ⟨f5, _, ok__law_is_int F5 m_bool m_int m_isinstance, PySem.W.mg_of X G a5, k5, b5⟩
  have K__law_same_lot : Cal l.prog w K mg base CX0 2 "_law_same_lot" ["_law_x", "_law_due"] (sp__law_same_lot K) := ⟨f6, _, ok__law_same_lot F6 m_isinstance m_len m_range m_tuple K__law_is_int, PySem.W.mg_of X G a6, k6, b6⟩
  exact ok_law F7 m_len m_range K_lots K__law_cell K__law_draws K__law_same_lot
end K09
open PySem PySem.W PyProof.Rows
set_option pp.maxSteps 400 in
set_option maxHeartbeats 0 in
theorem PySem.Challenge.cw_dearestshelf_k09_lots_in_order_holds : PySem.Challenge.rw_dearestshelf_k09_lots_in_order.Holds := by
  w_on; o_law; k_head; (case hw => w_witness2)
  k_fill
  refine L2.walk_of (l := PySem.Challenge.rw_dearestshelf_k09_lots_in_order) (n := 63) (k := 5) (x := "_law_script") (CX := fun _ => L2.CX0) (sp := fun w => K09.sp_law _) rfl (by decide) rfl ⟨rfl, by decide, by decide⟩ (fun w h Y => PySem.W.kIn_of Y) ?F (fun _ _ a ns hl _ hS => ⟨a, ns, rfl, hS, hl, fun _ => rfl⟩) (fun _ _ _ _ _ h => h)
  case F =>
    intro w mg fa h KX G hmg
    refine' K09.all_mk KX G hmg ?a1 ?l1 ?c1 ?k1 ?a2 ?l2 ?c2 ?k2 ?a3 ?l3 ?c3 ?k3 ?a4 ?l4 ?c4 ?k4 ?a5 ?l5 ?c5 ?k5 ?a6 ?l6 ?c6 ?k6 ?a7 ?l7 ?c7 ?k7 ?z_bool ?z_int ?z_isinstance ?z_len ?z_range ?z_tuple
    (case a1 => k_is); (case l1 => k_is); (case c1 => k_is); (case k1 => k_is); (case a2 => k_is); (case l2 => k_is); (case c2 => k_is); (case k2 => k_is); (case a3 => k_is); (case l3 => k_is); (case c3 => k_is); (case k3 => k_is); (case a4 => k_is); (case l4 => k_is); (case c4 => k_is); (case k4 => k_is); (case a5 => k_is); (case l5 => k_is); (case c5 => k_is); (case k5 => k_is); (case a6 => k_is); (case l6 => k_is); (case c6 => k_is); (case k6 => k_is); (case a7 => k_is); (case l7 => k_is); (case c7 => k_is); (case k7 => k_is); (case z_bool => k_is); (case z_int => k_is); (case z_isinstance => k_is); (case z_len => k_is); (case z_range => k_is); (case z_tuple => k_is)
