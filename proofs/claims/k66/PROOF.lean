import PyProof.Rows.All
import Wide.All
import OpenK.AllK
import Wide.FinOn
import HandS.ForMost
import HandS.ForExc
import HandS.Wide
import HandS.IsInst
import HandS.More
import HandS.Conv
import HandS.Evl
import HandS.ExcIs
import HandS.Defaults
import HandS.ExcInit
import HandS.ExcField
import HandS.TryMany
import HandS.Nested
import HandS.ClsMeth
import HandS.Iter
import HandS.Walk
import HandS.Style
import HandS.ListEq
import KE.KSuper
import KE.RegKSuper
import KE.KExcIs
import KE.RegKIsAll
import HandS.OwnEq
import HandS.Gcd
import HandS.SortKw
import HandS.TupAny
import KE.SortKeyHeap
import KE.SortData
import HandS.MakeKwOnly
import HandS.Zip
import HandS.Zip0
import KE.GoesMore
import KE.GoesEnum
import PySem.Challenge.RW_dearestshelf_k66_whole_best_in_the_worst
set_option Elab.async false
set_option linter.all false
set_option maxRecDepth 100000
set_option maxHeartbeats 8000000
set_option exponentiation.threshold 10000
/-! ### enumerate(zip(a, b)) of two lists: the pair that zip gave last may live on or not -/
namespace EZ
open PySem PySem.Spec PyProof.Rows L2
/-- a zip, whatever it knows of its last pair -/
def Zp (h : Heap) (z TI TO : Addr) : Prop := ∃ (f0 : Value) (b : Bool), (f0 = .none ∨ ∃ n t, f0 = .int n t) ∧ h.get? z = some { cls := .type "zip", dict := none, data := .fields #[f0, .bool b, .bool false, .ref TI, .ref TO], slots := #[] }
section
variable {P : Program} {w : World} {A : Around} {E : Value → Shared → Prop} {s : Shared} {z TI TO i1 i2 l1 l2 k : Nat} {xs ys : Array Value} {x y : Value}
theorem Zp.at {h h' : Heap} (d : Zp h z TI TO) (k : ∀ o, h.get? z = some o → h'.get? z = some o) : Zp h' z TI TO := let ⟨f0, b, q, e⟩ := d; ⟨f0, b, q, k _ e⟩
theorem alive_any {M : Model} {a : Addr} {Q : Option Obj → Shared → Prop} (h : ∀ o, Q o s) : wpAny M A (loadIfAlive a) Q E s := fun _ _ _ => h _
/-- is its last pair free? either way -/
theorem free_any {Q : Bool → Shared → Prop} (d : Zp s.heap z TI TO) (h : ∀ b h', Zp h' z TI TO → Heap.SameBut z s.heap h' → Q b { s with heap := h' }) : wpAny (model P w) A (Builtin.SmallTypes.ownedTupleIsFree (.ref z)) Q E s := by
  obtain ⟨f0, b, q, e⟩ := id d
  have same : Heap.SameBut z s.heap s.heap := ⟨rfl, fun _ _ => rfl⟩
  unfold Builtin.SmallTypes.ownedTupleIsFree
  rcases q with rfl | ⟨n, t, rfl⟩
  · exact wpAny_bind (wpAny_field e rfl (x := Value.none) rfl (wpAny_pure (h true s.heap d same)))
  · refine wpAny_bind (wpAny_field e rfl (x := Value.int n t) rfl ?_)
    show wpAny _ _ (loadIfAlive n.toNat >>= _) _ _ _
    refine wpAny_bind (alive_any fun u => ?_)
    cases u with
    | none => exact wpAny_pure (h true s.heap d same)
    | some u =>
      show wpAny _ _ (field (.ref z) 1 >>= _) _ _ _
      refine wpAny_bind (wpAny_field e rfl (x := Value.bool b) rfl ?_)
      cases b with
      | true => exact wpAny_pure (h false s.heap d same)
      | false =>
        show wpAny _ _ (setField (.ref z) 1 (.bool true) >>= _) _ _ _
        exact wpAny_bind (wpAny_setField_rec e (by simp) fun h1 e1 s1 => wpAny_pure (h false h1 ⟨_, true, .inr ⟨n, t, rfl⟩, e1⟩ s1))
/-- all but the zip's own record -/
structure Zm (h : Heap) (TI TO i1 i2 l1 l2 k1 k2 : Nat) (xs ys : Array Value) : Prop where
  ti : IsPair h TI (.ref i1) (.ref i2)
  to : ∃ a b, IsPair h TO a b
  it1 : h.IsListIter i1 l1 k1
  it2 : h.IsListIter i2 l2 k2
  ls1 : h.IsList l1 xs
  ls2 : h.IsList l2 ys
theorem Zm.own {h h' : Heap} {k1 k2 : Nat} (D : ZipApart z TI TO i1 i2 l1 l2) (m : Zm h TI TO i1 i2 l1 l2 k1 k2 xs ys) (b : Heap.SameBut z h h') : Zm h' TI TO i1 i2 l1 l2 k1 k2 xs ys :=
  have e := b.extBut
  let ⟨u, v, o⟩ := m.to
  ⟨e _ _ D.TIz m.ti, ⟨u, v, e _ _ D.TOz o⟩, m.it1.extBut e D.i1z, m.it2.extBut e D.i2z, m.ls1.extBut e D.l1z, m.ls2.extBut e D.l2z⟩
theorem Zm.one {h h' : Heap} {k1 k2 : Nat} (D : ZipApart z TI TO i1 i2 l1 l2) (m : Zm h TI TO i1 i2 l1 l2 k1 k2 xs ys) (b : Heap.SameBut i1 h h') (n : h'.IsListIter i1 l1 (k1 + 1)) : Zm h' TI TO i1 i2 l1 l2 (k1 + 1) k2 xs ys :=
  have e := b.extBut
  let ⟨u, v, o⟩ := m.to
  ⟨e _ _ D.TIi1 m.ti, ⟨u, v, e _ _ D.TOi1 o⟩, n, m.it2.extBut e D.i12.symm, m.ls1.extBut e D.l1i1, m.ls2.extBut e D.l2i1⟩
theorem Zm.two {h h' : Heap} {k1 k2 : Nat} (D : ZipApart z TI TO i1 i2 l1 l2) (m : Zm h TI TO i1 i2 l1 l2 k1 k2 xs ys) (b : Heap.SameBut i2 h h') (n : h'.IsListIter i2 l2 (k2 + 1)) : Zm h' TI TO i1 i2 l1 l2 k1 (k2 + 1) xs ys :=
  have e := b.extBut
  let ⟨u, v, o⟩ := m.to
  ⟨e _ _ D.TIi2 m.ti, ⟨u, v, e _ _ D.TOi2 o⟩, m.it1.extBut e D.i12, n, m.ls1.extBut e D.l1i2, m.ls2.extBut e D.l2i2⟩
theorem Zm.out {h h' : Heap} {k1 k2 : Nat} {u v : Value} (D : ZipApart z TI TO i1 i2 l1 l2) (m : Zm h TI TO i1 i2 l1 l2 k1 k2 xs ys) (b : Heap.SameBut TO h h') (o : IsPair h' TO u v) : Zm h' TI TO i1 i2 l1 l2 k1 k2 xs ys :=
  have e := b.extBut
  ⟨e _ _ D.TITO m.ti, ⟨u, v, o⟩, m.it1.extBut e D.TOi1.symm, m.it2.extBut e D.TOi2.symm, m.ls1.extBut e D.l1TO, m.ls2.extBut e D.l2TO⟩
theorem Zm.new {h : Heap} {k1 k2 : Nat} {ob : Obj} (m : Zm h TI TO i1 i2 l1 l2 k1 k2 xs ys) : Zm (h.push ob) TI TO i1 i2 l1 l2 k1 k2 xs ys :=
  have e : ∀ b o, h.get? b = some o → (h.push ob).get? b = some o := fun b o q => Heap.get?_push_of_some _ q
  let ⟨u, v, o⟩ := m.to
  ⟨e _ _ m.ti, ⟨u, v, e _ _ o⟩, m.it1.at (e _), m.it2.at (e _), m.ls1.at (e _), m.ls2.at (e _)⟩
/-- two lists' iterators are drawn from -/
structure Zs (h : Heap) (z TI TO i1 i2 l1 l2 k : Nat) (xs ys : Array Value) : Prop where
  zp : Zp h z TI TO
  m : Zm h TI TO i1 i2 l1 l2 k k xs ys
theorem zip_item (D : ZipApart z TI TO i1 i2 l1 l2) (Z : Zs s.heap z TI TO i1 i2 l1 l2 k xs ys) (hx : xs[k]? = some x) (hy : ys[k]? = some y) {Q : Value → Shared → Prop}
    (hQ : ∀ h' T, Zs h' z TI TO i1 i2 l1 l2 (k + 1) xs ys → IsPair h' T x y → s.heap.objs.size = T → h'.objs.size = T + 1 → (∀ c o, c ≠ z → c ≠ TO → c ≠ i1 → c ≠ i2 → s.heap.get? c = some o → h'.get? c = some o) → Q (.ref T) { s with heap := h' }) :
    wpAny (model P w) A (Builtin.«zip.__next__» ⟨[.ref z], []⟩) (fun fin s' => ∃ v, fin = .done (.ret v) ∧ Q v s') E s := by
  obtain ⟨f0, b0, q0, e0⟩ := id Z.zp
  show wpAny _ _ (field (.ref z) 2 >>= _) _ _ _
  refine wpAny_bind (wpAny_field e0 rfl (x := Value.bool false) rfl ?_)
  show wpAny _ _ (field (.ref z) 3 >>= _) _ _ _
  refine wpAny_bind (wpAny_field e0 rfl (x := Value.ref TI) rfl (wpAny_bind (wpAny_seqItems Z.m.ti rfl ?_)))
  show wpAny _ _ (Builtin.SmallTypes.ownedTupleIsFree (.ref z) >>= _) _ _ _
  refine wpAny_bind (free_any Z.zp fun b h1 d1 s1 => ?_)
  cases b with
  | true =>
    obtain ⟨f1, b1, q1, e1⟩ := id d1
    show wpAny _ _ (rule _ >>= _) _ _ _
    refine wpAny_bind (wpAny_rule (wpAny_bind (wpAny_field e1 rfl (x := Value.ref TO) rfl (wpAny_bind (wpAny_setField_rec e1 (by simp) fun h2 e2 s2 => ?_)))))
    have m2 := (Z.m.own D s1).own D s2
    refine wpAny_bind ?_
    simp only [List.zipIdx_cons, List.zipIdx_nil, List.forIn_cons, List.forIn_nil]
    refine wpAny_bind (wpAny_bind (wpAny_onRaise ?_))
    show wpAny _ _ (Builtin.SmallTypes.nextOf (.ref i1) >>= _) _ _ _
    refine wpAny_bind (wpAny_nextOf_list_item m2.it1 m2.ls1 hx fun h3 n3 s3 => wpAny_pure ?_)
    have m3 := m2.one D s3 n3
    obtain ⟨u, v, o3⟩ := m3.to
    refine wpAny_bind (wpAny_seqItems o3 rfl (wpAny_bind (wpAny_updateSeq_pair o3 fun h4 o4 s4 => wpAny_bind (wpAny_letGo (wpAny_pure ?_)))))
    replace o4 : IsPair h4 TO x v := o4
    have m4 := m3.out D s4 o4
    refine wpAny_bind (wpAny_bind (wpAny_onRaise ?_))
    show wpAny _ _ (Builtin.SmallTypes.nextOf (.ref i2) >>= _) _ _ _
    refine wpAny_bind (wpAny_nextOf_list_item m4.it2 m4.ls2 hy fun h5 n5 s5 => wpAny_pure ?_)
    have m5 := m4.two D s5 n5
    have o5 : IsPair h5 TO x v := s5.extBut _ _ D.TOi2 o4
    refine wpAny_bind (wpAny_seqItems o5 rfl (wpAny_bind (wpAny_updateSeq_pair o5 fun h6 o6 s6 => wpAny_bind (wpAny_letGo (wpAny_pure (wpAny_pure ?_))))))
    replace o6 : IsPair h6 TO x y := o6
    have m6 := m5.out D s6 o6
    have e6 : h6.get? z = some { cls := .type "zip", dict := none, data := .fields #[.ellipsis, .bool b1, .bool false, .ref TI, .ref TO], slots := #[] } := s6.extBut _ _ D.TOz.symm (s5.extBut _ _ D.i2z.symm (s4.extBut _ _ D.TOz.symm (s3.extBut _ _ D.i1z.symm e2)))
    have z6 : h6.objs.size = s.heap.objs.size := by rw [s6.1, s5.1, s4.1, s3.1, s2.1, s1.1]
    have k6 : ∀ c o, c ≠ z → c ≠ TO → c ≠ i1 → c ≠ i2 → s.heap.get? c = some o → h6.get? c = some o := fun c o c1 c2 c3 c4 q => s6.extBut _ _ c2 (s5.extBut _ _ c4 (s4.extBut _ _ c2 (s3.extBut _ _ c3 (s2.extBut _ _ c1 (s1.extBut _ _ c1 q)))))
    refine wpAny_bind (wpAny_seqItems o6 rfl (wpAny_bind (wpAny_newTuple ?_)))
    have lz : z < h6.objs.size := Heap.lt_size e6
    have e7 := Heap.get?_push_of_some ({ cls := .type "tuple", data := .seq #[x, y] } : Obj) e6
    show wpAny _ _ (Builtin.SmallTypes.ownedTupleHandOut (.ref z) (.ref h6.objs.size) >>= _) _ _ _
    unfold Builtin.SmallTypes.ownedTupleHandOut
    refine wpAny_bind (wpAny_bind (wpAny_setField_rec e7 (by simp) fun h8 e8 s8 => wpAny_setField_rec e8 (by simp) fun h9 e9 s9 => wpAny_pure ⟨_, rfl, ?_⟩))
    have up : ∀ c o, c ≠ z → h6.get? c = some o → h9.get? c = some o := fun c o c1 q => s9.extBut _ _ c1 (s8.extBut _ _ c1 (Heap.get?_push_of_some _ q))
    have t9 : IsPair h9 h6.objs.size x y := s9.extBut _ _ (Nat.ne_of_gt lz) (s8.extBut _ _ (Nat.ne_of_gt lz) (Heap.get?_push_size _ rfl))
    have z9 : h9.objs.size = h6.objs.size + 1 := by rw [s9.1, s8.1, Heap.size_push]
    exact hQ h9 h6.objs.size ⟨⟨_, false, .inr ⟨_, _, rfl⟩, e9⟩, (m6.new.own D s8).own D s9⟩ t9 z6.symm z9 fun c o c1 c2 c3 c4 q => up c o c1 (k6 c o c1 c2 c3 c4 q)
  | false =>
    refine wpAny_bind ?_
    simp only [List.forIn_toArray, List.forIn_cons, List.forIn_nil]
    refine wpAny_bind (wpAny_bind (wpAny_holding ?_))
    show wpAny _ _ (Builtin.SmallTypes.nextOf (.ref i1) >>= _) _ _ _
    have m1 := Z.m.own D s1
    refine wpAny_bind (wpAny_nextOf_list_item m1.it1 m1.ls1 hx fun h3 n3 s3 => wpAny_pure (wpAny_pure ?_))
    have m3 := m1.one D s3 n3
    refine wpAny_bind (wpAny_bind (wpAny_holding ?_))
    show wpAny _ _ (Builtin.SmallTypes.nextOf (.ref i2) >>= _) _ _ _
    refine wpAny_bind (wpAny_nextOf_list_item m3.it2 m3.ls2 hy fun h5 n5 s5 => wpAny_pure (wpAny_pure (wpAny_pure ?_)))
    have m5 := m3.two D s5 n5
    have d5 : Zp h5 z TI TO := d1.at fun o q => s5.extBut _ _ D.i2z.symm (s3.extBut _ _ D.i1z.symm q)
    have z5 : h5.objs.size = s.heap.objs.size := by rw [s5.1, s3.1, s1.1]
    refine wpAny_bind (wpAny_newTuple (wpAny_pure ⟨_, rfl, ?_⟩) (by show 2 ≤ sizeLine; decide))
    exact hQ _ h5.objs.size ⟨d5.at fun o q => Heap.get?_push_of_some _ q, m5.new⟩ (Heap.get?_push_size _ rfl) z5.symm (Heap.size_push ..) fun c o c1 c2 c3 c4 q => Heap.get?_push_of_some _ (s5.extBut _ _ c4 (s3.extBut _ _ c3 (s1.extBut _ _ c1 q)))
theorem zip_over (hh : A.handled = none) (D : ZipApart z TI TO i1 i2 l1 l2) (Z : Zs s.heap z TI TO i1 i2 l1 l2 k xs ys) (over : xs[k]? = none ∨ ys[k]? = none) {Q : PySem.Fin → Shared → Prop}
    (hE : ∀ h' e, (∀ c o, c ≠ z → c ≠ TO → c ≠ i1 → c ≠ i2 → s.heap.get? c = some o → h'.get? c = some o) → (∃ o, h'.get? e = some o ∧ o.cls = .type "StopIteration") → E (.ref e) { s with heap := h' }) :
    wpAny (model P w) A (Builtin.«zip.__next__» ⟨[.ref z], []⟩) Q E s := by
  obtain ⟨f0, b0, q0, e0⟩ := id Z.zp
  show wpAny _ _ (field (.ref z) 2 >>= _) _ _ _
  refine wpAny_bind (wpAny_field e0 rfl (x := Value.bool false) rfl ?_)
  show wpAny _ _ (field (.ref z) 3 >>= _) _ _ _
  refine wpAny_bind (wpAny_field e0 rfl (x := Value.ref TI) rfl (wpAny_bind (wpAny_seqItems Z.m.ti rfl ?_)))
  show wpAny _ _ (Builtin.SmallTypes.ownedTupleIsFree (.ref z) >>= _) _ _ _
  refine wpAny_bind (free_any Z.zp fun b h1 d1 s1 => ?_)
  cases b with
  | true =>
    obtain ⟨f1, b1, q1, e1⟩ := id d1
    show wpAny _ _ (rule _ >>= _) _ _ _
    refine wpAny_bind (wpAny_rule (wpAny_bind (wpAny_field e1 rfl (x := Value.ref TO) rfl (wpAny_bind (wpAny_setField_rec e1 (by simp) fun h2 e2 s2 => ?_)))))
    have m2 := (Z.m.own D s1).own D s2
    have e2 : h2.get? z = some { cls := .type "zip", dict := none, data := .fields #[.ellipsis, .bool b1, .bool false, .ref TI, .ref TO], slots := #[] } := e2
    have fin : ∀ {h3 : Heap} {e : Addr}, h3.get? z = some { cls := .type "zip", dict := none, data := .fields #[.ellipsis, .bool b1, .bool false, .ref TI, .ref TO], slots := #[] } → (∀ c o, c ≠ z → c ≠ TO → c ≠ i1 → c ≠ i2 → s.heap.get? c = some o → h3.get? c = some o) → (∃ o, h3.get? e = some o ∧ o.cls = .type "StopIteration") →
        wpAny (model P w) A (setField (.ref z) 0 .none) (fun _ s' => E (.ref e) s') E { s with heap := h3 } := fun {h3 e} e3 k3 ⟨oe, he, ce⟩ => by
      have ne : e ≠ z := fun q => by
        rw [q, e3] at he
        cases he
        exact absurd (Value.type.inj ce) (by decide)
      exact wpAny_setField_rec e3 (by simp) fun h4 _ s4 => hE h4 e (fun c o c1 c2 c3 c4 q => s4.extBut _ _ c1 (k3 c o c1 c2 c3 c4 q)) ⟨oe, s4.extBut _ _ ne he, ce⟩
    refine wpAny_bind ?_
    simp only [List.zipIdx_cons, List.zipIdx_nil, List.forIn_cons, List.forIn_nil]
    refine wpAny_bind (wpAny_bind (wpAny_onRaise ?_))
    show wpAny _ _ (Builtin.SmallTypes.nextOf (.ref i1) >>= _) _ _ _
    cases hx : xs[k]? with
    | none =>
      refine wpAny_bind (wpAny_nextOf_list_end hh m2.it1 m2.ls1 hx fun h3 e b3 he => fin (b3 _ _ D.i1z.symm e2) (fun c o c1 c2 c3 c4 q => b3 _ _ c3 (s2.extBut _ _ c1 (s1.extBut _ _ c1 q))) he)
    | some x =>
      have hy : ys[k]? = none := over.resolve_left fun q => by
        rw [hx] at q
        cases q
      refine wpAny_bind (wpAny_nextOf_list_item m2.it1 m2.ls1 hx fun h3 n3 s3 => wpAny_pure ?_)
      have m3 := m2.one D s3 n3
      obtain ⟨u, v, o3⟩ := m3.to
      refine wpAny_bind (wpAny_seqItems o3 rfl (wpAny_bind (wpAny_updateSeq_pair o3 fun h4 o4 s4 => wpAny_bind (wpAny_letGo (wpAny_pure ?_)))))
      replace o4 : IsPair h4 TO x v := o4
      have m4 := m3.out D s4 o4
      refine wpAny_bind (wpAny_bind (wpAny_onRaise ?_))
      show wpAny _ _ (Builtin.SmallTypes.nextOf (.ref i2) >>= _) _ _ _
      exact wpAny_bind (wpAny_nextOf_list_end hh m4.it2 m4.ls2 hy fun h5 e b5 he => fin (b5 _ _ D.i2z.symm (s4.extBut _ _ D.TOz.symm (s3.extBut _ _ D.i1z.symm e2))) (fun c o c1 c2 c3 c4 q => b5 _ _ c4 (s4.extBut _ _ c2 (s3.extBut _ _ c3 (s2.extBut _ _ c1 (s1.extBut _ _ c1 q))))) he)
  | false =>
    have m1 := Z.m.own D s1
    refine wpAny_bind ?_
    simp only [List.forIn_toArray, List.forIn_cons, List.forIn_nil]
    refine wpAny_bind (wpAny_bind (wpAny_holding ?_))
    show wpAny _ _ (Builtin.SmallTypes.nextOf (.ref i1) >>= _) _ _ _
    cases hx : xs[k]? with
    | none => exact wpAny_bind (wpAny_nextOf_list_end hh m1.it1 m1.ls1 hx fun h3 e b3 he => hE h3 e (fun c o c1 c2 c3 c4 q => b3 _ _ c3 (s1.extBut _ _ c1 q)) he)
    | some x =>
      have hy : ys[k]? = none := over.resolve_left fun q => by
        rw [hx] at q
        cases q
      refine wpAny_bind (wpAny_nextOf_list_item m1.it1 m1.ls1 hx fun h3 n3 s3 => wpAny_pure (wpAny_pure ?_))
      have m3 := m1.one D s3 n3
      refine wpAny_bind (wpAny_bind (wpAny_holding ?_))
      show wpAny _ _ (Builtin.SmallTypes.nextOf (.ref i2) >>= _) _ _ _
      exact wpAny_bind (wpAny_nextOf_list_end hh m3.it2 m3.ls2 hy fun h5 e b5 he => hE h5 e (fun c o c1 c2 c3 c4 q => b5 _ _ c4 (s3.extBut _ _ c3 (s1.extBut _ _ c1 q))) he)
/-- enumerate draws from the zip -/
theorem enum_item {e : Addr} {old : Value} (D : ZipApart z TI TO i1 i2 l1 l2) (he : IsEnum s.heap e z k old) (Z : Zs s.heap z TI TO i1 i2 l1 l2 k xs ys) (ne : ∀ c ∈ [z, TI, TO, i1, i2], e ≠ c) (hx : xs[k]? = some x) (hy : ys[k]? = some y) {Q : Option Value → Shared → Prop}
    (hQ : ∀ h' tk, IsEnumOut h' e z ((k : Int) + 1) (.ref s.heap.objs.size) (s.heap.objs.size + 1) → Zs h' z TI TO i1 i2 l1 l2 (k + 1) xs ys → IsPair h' s.heap.objs.size x y → h'.get? (s.heap.objs.size + 1) = some { cls := .type "tuple", data := .seq #[.int k tk, .ref s.heap.objs.size] } →
      (∀ c o, c ≠ e → c ≠ z → c ≠ TO → c ≠ i1 → c ≠ i2 → s.heap.get? c = some o → h'.get? c = some o) → Q (some (.ref (s.heap.objs.size + 1))) { s with heap := h', toks := tk + 1 }) :
    wpAny (model P w) A (pyNext (.ref e)) Q E s := by
  have nez : e ≠ z := ne z (by simp)
  have hT : s.TypeIs (.ref e) "enumerate" := ⟨_, he, rfl⟩
  have hZ : s.TypeIs (.ref z) "zip" := by
    obtain ⟨_, _, _, q⟩ := Z.zp
    exact ⟨_, q, rfl⟩
  unfold pyNext
  refine wpAny_bind (wpAny_attempt (wpAny_callSpecial?_slot (name := Str.ofString "__next__") hT F.slot_enumerate_next (wpAny_call_entry F.slot_enumerate_next hT F.entry_enumerate_next ?_ (F.args_enumerate_next_1 _))))
  show wpAny _ _ (field (.ref e) 2 >>= _) _ _ _
  refine wpAny_bind (wpAny_field he rfl (x := Value.ref z) rfl (wpAny_bind ?_))
  unfold Builtin.SmallTypes.nextOf
  refine wpAny_bind (wpAny_callSpecial?_slot (name := Str.ofString "__next__") hZ F.slot_zip_next (wpAny_call_entry F.slot_zip_next hZ F.entry_zip_next (zip_item D Z hx hy fun h1 T Z1 t1 eT z1 k1 => ?_) (F.args_zip_next_1 _)))
  subst eT
  have he1 : IsEnum h1 e z k old := k1 _ _ nez (ne TO (by simp)) (ne i1 (by simp)) (ne i2 (by simp)) he
  refine wpAny_pure ?_
  show wpAny _ _ (field (.ref e) 3 >>= _) _ _ _
  refine wpAny_bind (wpAny_field he1 rfl (x := rawInt k) rfl ?_)
  show wpAny _ _ (field (.ref e) 4 >>= _) _ _ _
  refine wpAny_bind (wpAny_field he1 rfl (x := Value.none) rfl ?_)
  show wpAny _ _ (mkInt k >>= _) _ _ _
  refine wpAny_bind (wpAny_mkInt ?_)
  show wpAny _ _ (setField (.ref e) 3 (rawInt ((k : Int) + 1)) >>= _) _ _ _
  refine wpAny_bind (wpAny_setField_rec he1 (by simp) fun h2 he2 s2 => ?_)
  replace he2 : IsEnum h2 e z ((k : Int) + 1) old := he2
  show wpAny _ _ (setField (.ref e) 4 .none >>= _) _ _ _
  refine wpAny_bind (wpAny_setField_rec he2 (by simp) fun h3 he3 s3 => wpAny_bind (wpAny_newTuple ?_))
  replace he3 : IsEnum h3 e z ((k : Int) + 1) old := he3
  have z3 : h3.objs.size = s.heap.objs.size + 1 := by rw [s3.1, s2.1, z1]
  have le : e < h3.objs.size := Heap.lt_size he3
  have he4 := Heap.get?_push_of_some ({ cls := .type "tuple", data := .seq #[.int k s.toks, .ref s.heap.objs.size] } : Obj) he3
  show wpAny _ _ (Builtin.SmallTypes.ownedTupleIsFree (.ref e) >>= _) _ _ _
  unfold Builtin.SmallTypes.ownedTupleIsFree
  refine wpAny_bind (wpAny_bind (wpAny_field he4 rfl (x := Value.none) rfl (wpAny_pure ?_)))
  show wpAny _ _ (rule _ >>= _) _ _ _
  refine wpAny_bind (wpAny_rule (wpAny_bind (wpAny_field he4 rfl (x := old) rfl (wpAny_bind (wpAny_setField_rec he4 (by simp) fun h5 he5 s5 => ?_)))))
  show wpAny _ _ (Builtin.SmallTypes.ownedTupleHandOut (.ref e) (.ref h3.objs.size) >>= _) _ _ _
  unfold Builtin.SmallTypes.ownedTupleHandOut
  refine wpAny_bind (wpAny_bind (wpAny_setField_rec he5 (by simp) fun h6 he6 s6 => wpAny_setField_rec he6 (by simp) fun h7 he7 s7 => ?_))
  have up : ∀ c o, c ≠ e → h1.get? c = some o → h7.get? c = some o := fun c o c1 q => s7.extBut _ _ c1 (s6.extBut _ _ c1 (s5.extBut _ _ c1 (Heap.get?_push_of_some _ (s3.extBut _ _ c1 (s2.extBut _ _ c1 q)))))
  have eT : s.heap.objs.size ≠ e := Nat.ne_of_gt (Heap.lt_size he)
  have pT : h7.get? h3.objs.size = some { cls := .type "tuple", data := .seq #[.int k s.toks, .ref s.heap.objs.size] } := s7.extBut _ _ (Nat.ne_of_gt le) (s6.extBut _ _ (Nat.ne_of_gt le) (s5.extBut _ _ (Nat.ne_of_gt le) (Heap.get?_push_size _ rfl)))
  have oe : IsEnumOut h7 e z ((k : Int) + 1) (.ref s.heap.objs.size) h3.objs.size := he7
  have zs : Zs h7 z TI TO i1 i2 l1 l2 (k + 1) xs ys := by
    have no : ∀ c ∈ [z, TI, TO, i1, i2], ∀ o, h1.get? c = some o → h7.get? c = some o := fun c hc o q => up c o (fun w => ne c hc w.symm) q
    obtain ⟨u, v, o⟩ := Z1.m.to
    refine ⟨Z1.zp.at (no z (by simp)), no TI (by simp) _ Z1.m.ti, ⟨u, v, no TO (by simp) _ o⟩, Z1.m.it1.at (no i1 (by simp)), Z1.m.it2.at (no i2 (by simp)), Z1.m.ls1.at fun o q => up _ _ ?_ q, Z1.m.ls2.at fun o q => up _ _ ?_ q⟩
    · rintro rfl
      rw [he1] at q
      cases q
      obtain ⟨o2, q2, c2, _⟩ := Z1.m.ls1
      rw [he1] at q2
      cases q2
      exact absurd (Value.type.inj c2) (by decide)
    · rintro rfl
      rw [he1] at q
      cases q
      obtain ⟨o2, q2, c2, _⟩ := Z1.m.ls2
      rw [he1] at q2
      cases q2
      exact absurd (Value.type.inj c2) (by decide)
  refine wpAny_bind (wpAny_letGo (wpAny_pure ⟨_, rfl, wpAny_pure ?_⟩))
  rw [z3] at pT oe ⊢
  exact hQ h7 s.toks oe zs (up _ _ eT t1) pT fun c o c0 c1 c2 c3 c4 q => up c o c0 (k1 c o c1 c2 c3 c4 q)
theorem enum_over {e : Addr} {old : Value} (hh : A.handled = none) (D : ZipApart z TI TO i1 i2 l1 l2) (he : IsEnum s.heap e z k old) (Z : Zs s.heap z TI TO i1 i2 l1 l2 k xs ys) (over : xs[k]? = none ∨ ys[k]? = none) {Q : Option Value → Shared → Prop}
    (hQ : ∀ h', (∀ c o, c ≠ z → c ≠ TO → c ≠ i1 → c ≠ i2 → s.heap.get? c = some o → h'.get? c = some o) → Q none { s with heap := h' }) : wpAny (model P w) A (pyNext (.ref e)) Q E s := by
  have hT : s.TypeIs (.ref e) "enumerate" := ⟨_, he, rfl⟩
  have hZ : s.TypeIs (.ref z) "zip" := by
    obtain ⟨_, _, _, q⟩ := Z.zp
    exact ⟨_, q, rfl⟩
  unfold pyNext
  refine wpAny_bind (wpAny_attempt (wpAny_callSpecial?_slot (name := Str.ofString "__next__") hT F.slot_enumerate_next (wpAny_call_entry F.slot_enumerate_next hT F.entry_enumerate_next ?_ (F.args_enumerate_next_1 _))))
  show wpAny _ _ (field (.ref e) 2 >>= _) _ _ _
  refine wpAny_bind (wpAny_field he rfl (x := Value.ref z) rfl (wpAny_bind ?_))
  unfold Builtin.SmallTypes.nextOf
  refine wpAny_bind (wpAny_callSpecial?_slot (name := Str.ofString "__next__") hZ F.slot_zip_next (wpAny_call_entry F.slot_zip_next hZ F.entry_zip_next (zip_over (show A.in1.in1.handled = none from hh) D Z over fun h1 x k1 hx => ?_) (F.args_zip_next_1 _)))
  obtain ⟨o, ho, hc⟩ := hx
  exact wpAny_bind (wpAny_isInstance (T := "StopIteration") (b := true) ⟨o, ho, hc⟩ isSubtype_stop (wpAny_pure (hQ _ k1)))
end
/-- the lists at a and b, the i-th items in a new pair behind i -/
def Itez (K : PySem.W.Frag) (a b : Addr) : It where
  go := fun i H => ∃ (xs ys : List V) (x y : V), SqL K H a xs ∧ SqL K H b ys ∧ xs[i]? = some x ∧ ys[i]? = some y
  yld := fun i H v H' => ∃ (T S : Addr) (x y : V), v = .ref S ∧ H T = none ∧ H S = none ∧ T ≠ S ∧ H' = upd (upd H T (.tup [x, y])) S (.tup [.int (i : Nat), .ref T]) ∧ (∀ xs, SqL K H a xs → xs[i]? = some x) ∧ ∀ ys, SqL K H b ys → ys[i]? = some y
  stop := fun i H => ∃ xs ys : List V, SqL K H a xs ∧ SqL K H b ys ∧ (xs.length ≤ i ∨ ys.length ≤ i)
/-- an object that stands is told of -/
theorem told {X : Cx} {pins : List (Addr × Obj)} {σ : L2.St} {H : Hp} {s : Shared} {S : Addr} {ob : HO} (I : Inv X pins σ H s) (f : FpOk X pins H S) (there : ∃ o, s.heap.get? S = some o) (new : ObjOk X.prog X.w (upd H S ob) s.heap S ob) : Inv X pins σ (upd H S ob) s := by
  have hn := f.1
  have stays : ∀ c u, H c = some u → upd H S ob c = some u := fun c u q => (upd_ne (ne_of_none q hn)).trans q
  have := I.step (h' := s.heap) (g' := s.gens) (t' := s.toks) (d' := s.drawn) (H' := upd H S ob) (ch := [S]) (fun b hb => by
      obtain rfl := List.mem_singleton.mp hb
      exact ⟨f.2.2.2.1, f.2.1, f.2.2.2.2.1, f.2.2.2.2.2⟩) (fun b o _ _ _ e _ => e) (fun b o _ _ _ e _ => ⟨o.slots, e⟩)
    (fun b o hc _ n => (upd_ne fun q => hc (List.mem_singleton.mpr q)).trans n) (fun b o _ e => ⟨o, e⟩) (fun b xs e => stays b _ e) (fun b o u e => stays b _ e) (fun b ps e => ⟨#[], by rw [stays b _ e]; simp⟩) (fun m hm => hm) (fun b u e => ?_) I.bare
  · exact this
  · by_cases hb : b = S
    · subst hb
      rw [upd_same] at e
      cases e
      exact new
    · rw [upd_ne hb] at e
      exact (I.hok b u e).stay (fun c v _ q => q) (fun c q => stays c _ q) fun c xs q => stays c _ q
/-- where the iterators stand; the lists are looked up in the heap at each turn -/
structure Ez (h : Heap) (e z TI TO i1 i2 a b k : Nat) : Prop where
  en : ∃ old, IsEnum h e z k old
  zp : Zp h z TI TO
  ti : IsPair h TI (.ref i1) (.ref i2)
  to : ∃ a b, IsPair h TO a b
  it1 : h.IsListIter i1 a k
  it2 : h.IsListIter i2 b k
theorem turn_ez {P : Program} {w : World} {K : PySem.W.Frag} {elts : List Expr} {kk : Nat} {tpos : Pos} {a b e z TI TO i1 i2 : Addr} (D : ZipApart z TI TO i1 i2 a b) (ne : ∀ c ∈ [z, TI, TO, i1, i2], e ≠ c) :
    Turn P w K (.Tuple elts kk tpos) (Itez K a b) [e, z, TI, TO, i1, i2] e (fun i h => Ez h e z TI TO i1 i2 a b i) where
  mem := by simp
  obj := fun i h st c hc => by
    obtain ⟨⟨old, he⟩, ⟨f0, b0, _, hz⟩, hI, ⟨x, y, hO⟩, ⟨o1, e1, _, d1⟩, ⟨o2, e2, _, d2⟩⟩ := st
    rcases (by simpa using hc : c = e ∨ c = z ∨ c = TI ∨ c = TO ∨ c = i1 ∨ c = i2) with rfl | rfl | rfl | rfl | rfl | rfl
    · exact ⟨_, he, fun v q => nomatch q⟩
    · exact ⟨_, hz, fun v q => nomatch q⟩
    · exact ⟨_, hI, fun v q => nomatch q⟩
    · exact ⟨_, hO, fun v q => nomatch q⟩
    · exact ⟨o1, e1, fun v q => by rw [d1] at q; cases q⟩
    · exact ⟨o2, e2, fun v q => by rw [d2] at q; cases q⟩
  keep := fun i h h' st k => by
    obtain ⟨⟨old, he⟩, zp, hI, ⟨x, y, hO⟩, j1, j2⟩ := st
    exact ⟨⟨old, k e (by simp) _ he⟩, zp.at (k z (by simp)), k TI (by simp) _ hI, ⟨x, y, k TO (by simp) _ hO⟩, j1.at (k i1 (by simp)), j2.at (k i2 (by simp))⟩
  item := by
    intro X hP hw hK hc i pins s σ H E I hf st hg
    subst hP hw hK
    obtain ⟨⟨old, he⟩, zp, hI, hO, j1, j2⟩ := st
    obtain ⟨xs, ys, x, y, hqx, hqy, hx, hy⟩ := hg
    obtain ⟨its, rv, p, _⟩ := I.list hqx
    obtain ⟨its2, rv2, p2, _⟩ := I.list hqy
    obtain ⟨u, hu, ru⟩ := rv.get hx
    obtain ⟨u2, hu2, ru2⟩ := rv2.get hy
    have el : e < s.heap.objs.size := Heap.lt_size he
    refine enum_item D he ⟨zp, ⟨hI, hO, j1, j2, p.isList, p2.isList⟩⟩ ne (x := u) (y := u2) (by simpa using hu) (by simpa using hu2) fun h1 tk oe zs t1 p1 k1 => ?_
    refine ⟨_, rfl, wpAny_letOwnedTupleGo_enum (s := { s with heap := h1, toks := tk + 1 }) oe fun h2 en sb => ?_⟩
    have nS : s.heap.objs.size + 1 ≠ e := Nat.ne_of_gt (Nat.lt_succ_of_lt el)
    have nT : s.heap.objs.size ≠ e := Nat.ne_of_gt el
    have t2 : IsPair h2 s.heap.objs.size u u2 := (sb.2 _ nT).trans t1
    have p2' : h2.get? (s.heap.objs.size + 1) = some { cls := .type "tuple", data := .seq #[.int i tk, .ref s.heap.objs.size] } := (sb.2 _ nS).trans p1
    have fT : H s.heap.objs.size = none := I.hok.fresh (Nat.le_refl _)
    have fS : H (s.heap.objs.size + 1) = none := I.hok.fresh (Nat.le_succ _)
    have TS : s.heap.objs.size ≠ s.heap.objs.size + 1 := Nat.ne_of_lt (Nat.lt_succ_self _)
    have fS1 : upd H s.heap.objs.size (.tup [x, y]) (s.heap.objs.size + 1) = none := (upd_ne TS.symm).trans fS
    have I1 : Inv X pins σ (upd H s.heap.objs.size (.tup [x, y])) { s with heap := h2, toks := tk + 1 } :=
      I.turnedNew (ch := [e, z, TI, TO, i1, i2]) (fun c o hb q => by
        simp only [List.mem_cons, List.not_mem_nil, or_false, not_or] at hb
        exact (sb.2 c hb.1).trans (k1 c o hb.1 hb.2.1 hb.2.2.2.1 hb.2.2.2.2.1 hb.2.2.2.2.2 q)) hf (Nat.le_refl _) ⟨by show 2 ≤ sizeLine; decide, [u, u2], .cons ru (.cons ru2 .nil), ⟨_, t2, rfl, _, rfl⟩⟩
    have fp := I.fpOk (Nat.le_succ _) fS1
    have I2 : Inv X pins σ (upd (upd H s.heap.objs.size (.tup [x, y])) (s.heap.objs.size + 1) (.tup [.int (i : Nat), .ref s.heap.objs.size])) { s with heap := h2, toks := tk + 1 } :=
      told I1 fp ⟨_, p2'⟩ ⟨by show 2 ≤ sizeLine; decide, [.int i tk, .ref s.heap.objs.size], .cons ⟨_, rfl⟩ (.cons rfl .nil), ⟨_, p2', rfl, _, rfl⟩⟩
    have st2 : Ez h2 e z TI TO i1 i2 a b (i + 1) := by
      have no : ∀ c ∈ [z, TI, TO, i1, i2], ∀ o, h1.get? c = some o → h2.get? c = some o := fun c hc o q => (sb.2 c fun w => ne c hc w.symm).trans q
      obtain ⟨v, v2, o⟩ := zs.m.to
      exact ⟨⟨_, en⟩, zs.zp.at (no z (by simp)), no TI (by simp) _ zs.m.ti, ⟨v, v2, no TO (by simp) _ o⟩, zs.m.it1.at (no i1 (by simp)), zs.m.it2.at (no i2 (by simp))⟩
    refine ⟨.ref (s.heap.objs.size + 1), _, I2, rfl, ⟨_, _, x, y, rfl, fT, fS, TS, rfl, fun l hl => by rw [I.list_inj hl hqx]; exact hx, fun l hl => by rw [I.list_inj hl hqy]; exact hy⟩, st2, fun c hc => ?_⟩
    have lc : c < s.heap.objs.size := by
      obtain ⟨⟨_, q0⟩, ⟨_, _, _, q1⟩, q2, ⟨_, _, q3⟩, ⟨_, q4, _⟩, ⟨_, q5, _⟩⟩ : Ez s.heap e z TI TO i1 i2 a b i := ⟨⟨old, he⟩, zp, hI, hO, j1, j2⟩
      rcases (by simpa using hc : c = e ∨ c = z ∨ c = TI ∨ c = TO ∨ c = i1 ∨ c = i2) with rfl | rfl | rfl | rfl | rfl | rfl
      · exact Heap.lt_size q0
      · exact Heap.lt_size q1
      · exact Heap.lt_size q2
      · exact Heap.lt_size q3
      · exact Heap.lt_size q4
      · exact Heap.lt_size q5
    rw [upd_ne (Nat.ne_of_lt (Nat.lt_succ_of_lt lc)), upd_ne (Nat.ne_of_lt lc)]
    exact (hf c hc).1
  done := by
    intro X hP hw hK hc i pins s σ H E I hf st hg
    subst hP hw hK
    obtain ⟨⟨old, he⟩, zp, hI, hO, j1, j2⟩ := st
    obtain ⟨xs, ys, hqx, hqy, hend⟩ := hg
    obtain ⟨its, rv, p, _⟩ := I.list hqx
    obtain ⟨its2, rv2, p2, _⟩ := I.list hqy
    have l1 := rv.length
    have l2 := rv2.length
    have over : its.toArray[i]? = none ∨ its2.toArray[i]? = none := by
      rcases hend with q | q
      · exact .inl (by simp; omega)
      · exact .inr (by simp; omega)
    refine enum_over (I.ok.hd hc) D he ⟨zp, ⟨hI, hO, j1, j2, p.isList, p2.isList⟩⟩ over fun h1 k1 => ⟨rfl, I.turnedL (t' := s.toks) (ch := [e, z, TI, TO, i1, i2]) (fun c o hb q => ?_) hf⟩
    simp only [List.mem_cons, List.not_mem_nil, or_false, not_or] at hb
    exact k1 c o hb.2.1 hb.2.2.2.1 hb.2.2.2.2.1 hb.2.2.2.2.2 q
  self := fun A i s Q E st h => let ⟨_, he⟩ := st.en; wpAny_pyIter_enum he h
/-- enumerate of a zip begins -/
theorem enumz_meets {z TI TO : Addr} : Meets (Builtin.«enumerate.__new__» ⟨[.type "enumerate", .ref z], []⟩) (fun _ R st => IsZip st.heap z TI TO .none ∧ R (.ok (.ret (.ref st.heap.objs.size)))
      { st with heap := st.heap.push { cls := .type "enumerate", data := .fields #[.none, .bool false, .ref z, rawInt 0, .none, .none] } }) := by
  refine .of_wp fun P w A R st hh => ?_
  obtain ⟨hp, gs, dr, tk, ws⟩ := st
  obtain ⟨ok, q⟩ := hh
  have hsub := sub_enumerate
  have it0 : ∀ {A1 : Around} {E1 : Value → Shared → Prop} {Q1 : Value → Shared → Prop}, Q1 (.ref z) ⟨hp, gs, dr, tk, ws⟩ → wpAny (model P w) A1 (pyIter (.ref z)) Q1 E1 ⟨hp, gs, dr, tk, ws⟩ := fun y => wpAny_pyIter_zip (s := ⟨hp, gs, dr, tk, ws⟩) ok y
  wp_walk using it0
  refine wpAny_stack_any fun fr => wpAny_pure ?_
  split
  · rename_i c _ _ _ _ _
    cases (c == Value.type "enumerate") <;> (wp_walk using it0; exact ⟨_, rfl, q⟩)
  · wp_walk using it0
    exact ⟨_, rfl, q⟩
theorem enum_of_zip {P : Program} {w : World} {A : Around} {E : Value → Shared → Prop} {s : Shared} {z TI TO : Addr} {Q : Value → Shared → Prop} (hz : IsZip s.heap z TI TO .none)
    (h : ∀ h', IsEnum h' s.heap.objs.size z 0 .none → (∀ b o, s.heap.get? b = some o → h'.get? b = some o) → Q (.ref s.heap.objs.size) { s with heap := h' }) : wpAny (model P w) A (call (.type "enumerate") [.ref z]) Q E s := by
  refine callType_new F.called_enumerate (by decide) (F.typeCall_enumerate_1 _) (F.newCall_enumerate_1 _) (fun ob => F.args_object_init_2 ob _) F.entry_enumerate_new enumz_meets ⟨hz, ?_⟩
  have e1 := Heap.get?_push_size s.heap (o := { cls := .type "enumerate", data := .fields #[.none, .bool false, .ref z, rawInt 0, .none, .none] }) rfl
  exact ⟨⟨_, e1, rfl⟩, h _ e1 fun b u q => Heap.get?_push_of_some _ q⟩
def iEzip (K : PySem.W.Frag) (ta : TA) : TI := fun σ H R => ta σ H fun vs H1 => ∃ a b xs ys, vs = [.ref a, .ref b] ∧ SqL K H1 a xs ∧ SqL K H1 b ys ∧ R (Itez K a b) H1
theorem pi_ezip {X : Cx} {e e2 : Expr} {ta : TA} {p pos p2 pos2 tpos : Pos} {elts : List Expr} {kk : Nat} (hg : Gl X "enumerate") (hm : X.mg "enumerate" = none) (hg2 : Gl X "zip") (hm2 : X.mg "zip" = none) (ha : PA X [e, e2] ta)
    (hs1 : starEach [.Call (.Name "zip" p2) [e, e2] [] pos2] X.env = [(false, eval (.Call (.Name "zip" p2) [e, e2] [] pos2) X.env)] := by rfl) (hs : starEach [e, e2] X.env = (false, eval e X.env) :: starEach [e2] X.env := by rfl) (hpl : (backTo pos2 (starEach [e2] X.env)).any (·.1) = false := by rfl) :
    PI X (.Tuple elts kk tpos) (.Call (.Name "enumerate" p) [.Call (.Name "zip" p2) [e, e2] [] pos2] [] pos) (iEzip X.K ta) := by
  refine ⟨fun pins s σ H R I h => Call_ (ld_blt I hg hm boot_enumerate (PyProof.Rows.callWith_type1 (PyProof.Rows.args_cons (Call_ (ld_blt I hg2 hm2 PyProof.Rows.boot_zip (PyProof.Rows.callWith_type1 (thn (ha.run pos2 pins s σ H _ I h) ?_) hs hpl))) hs1) hs1 rfl))⟩
  rintro us s1 ⟨vs, H1, I1, r1, a, b, xs, ys, rfl, hqx, hqy, q⟩
  obtain ⟨v1, rest, rfl, rv1, rr⟩ : ∃ v1 rest, us = v1 :: rest ∧ RelV (.ref a) v1 ∧ Vals [.ref b] rest := by
    cases r1 with
    | cons r rr => exact ⟨_, _, rfl, r, rr⟩
  obtain ⟨v2, rfl, rv2⟩ := vals1 rr
  cases (show v1 = Value.ref a from rv1)
  cases (show v2 = Value.ref b from rv2)
  obtain ⟨its, rx, px, _⟩ := I1.list hqx
  obtain ⟨its2, ry, py, _⟩ := I1.list hqy
  refine call_zip_2 px.isList py.isList fun h' hz hTI hTO j1 j2 hsz hk => PyProof.Rows.args_nil (enum_of_zip hz fun h2 he hk2 => wpAny_pyIter_enum he ?_)
  have I2 : Inv X pins σ H1 { s1 with heap := h2 } := I1.kept (t' := s1.toks) fun c o w => hk2 _ _ (hk _ _ w)
  have esz : h'.objs.size = s1.heap.objs.size + 5 := hsz
  have ne : ∀ c ∈ [s1.heap.objs.size + 4, s1.heap.objs.size + 2, s1.heap.objs.size + 3, s1.heap.objs.size, s1.heap.objs.size + 1], h'.objs.size ≠ c := fun c hc => by
    have lt : c < s1.heap.objs.size + 5 := by
      rcases (by simpa using hc : c = s1.heap.objs.size + 4 ∨ c = s1.heap.objs.size + 2 ∨ c = s1.heap.objs.size + 3 ∨ c = s1.heap.objs.size ∨ c = s1.heap.objs.size + 1) with w | w | w | w | w <;> rw [w] <;> simp
    rw [esz]
    exact Nat.ne_of_gt lt
  refine ⟨h'.objs.size, [h'.objs.size, s1.heap.objs.size + 4, s1.heap.objs.size + 2, s1.heap.objs.size + 3, s1.heap.objs.size, s1.heap.objs.size + 1], _, _, H1, rfl, I2, turn_ez (PySem.W.ktu_apart s1.heap.objs.size a b px.lt py.lt) ne, ⟨⟨_, he⟩, ⟨_, false, .inl rfl, hk2 _ _ hz⟩, hk2 _ _ hTI, ⟨_, _, hk2 _ _ hTO⟩, j1.at (hk2 _), j2.at (hk2 _)⟩, fun c hc => ?_, q⟩
  have le : s1.heap.objs.size ≤ c := by
    rcases (by simpa using hc : c = h'.objs.size ∨ c = s1.heap.objs.size + 4 ∨ c = s1.heap.objs.size + 2 ∨ c = s1.heap.objs.size + 3 ∨ c = s1.heap.objs.size ∨ c = s1.heap.objs.size + 1) with w | w | w | w | w | w
    · rw [w, esz]
      exact Nat.le_add_right _ _
    · rw [w]
      exact Nat.le_add_right _ _
    · rw [w]
      exact Nat.le_add_right _ _
    · rw [w]
      exact Nat.le_add_right _ _
    · rw [w]
      exact Nat.le_refl _
    · rw [w]
      exact Nat.le_add_right _ _
  exact I1.fpOk le (I1.hok.fresh le)
/-- a loop over it, for two lists of one length -/
theorem for_ezip {K : PySem.W.Frag} {a b : Addr} {xs ys : List V} {g : TG} {tb : TS} {D : Ends} {σ : L2.St} {H : Hp} (hl : xs.length = ys.length) (Pv : Nat → L2.St → Hp → Prop) (h0 : Pv 0 σ H) (hq : ∀ i σ H, Pv i σ H → SqL K H a xs ∧ SqL K H b ys)
    (hs : ∀ (i : Nat) (x y : V) (T S : Addr) (σ : L2.St) (H : Hp), xs[i]? = some x → ys[i]? = some y → Pv i σ H → H T = none → H S = none → T ≠ S → g (.ref S) σ (upd (upd H T (.tup [x, y])) S (.tup [.int (i : Nat), .ref T])) fun σ2 H2 => tb { D with nx := Pv (i + 1), ct := Pv (i + 1), bk := D.nx } σ2 H2) (hd : ∀ σ H, Pv xs.length σ H → D.nx σ H) :
    ∃ W : Nat → Nat → L2.St → Hp → Prop, (∃ m, W 0 m σ H) ∧ ∀ i m σ H, W i m σ H →
      ((Itez K a b).stop i H ∧ D.nx σ H) ∨ ((Itez K a b).go i H ∧ ∃ N : L2.St → Hp → Prop, (∀ σ' H', N σ' H' → ∃ m', m' < m ∧ W (i + 1) m' σ' H') ∧ ∀ v H', (Itez K a b).yld i H v H' → g v σ H' fun σ2 H2 => tb { D with nx := N, ct := N, bk := D.nx } σ2 H2) := by
  refine ⟨fun i m σ H => m = xs.length - i ∧ i ≤ xs.length ∧ Pv i σ H, ⟨xs.length, rfl, Nat.zero_le _, h0⟩, ?_⟩
  rintro i m σ H ⟨rfl, hi, p⟩
  obtain ⟨qx, qy⟩ := hq i σ H p
  rcases Nat.lt_or_ge i xs.length with lt | ge
  · have lt2 : i < ys.length := by omega
    refine .inr ⟨⟨xs, ys, _, _, qx, qy, List.getElem?_eq_getElem lt, List.getElem?_eq_getElem lt2⟩, Pv (i + 1), fun σ' H' p' => ⟨xs.length - (i + 1), by omega, rfl, lt, p'⟩, fun v H' w => ?_⟩
    obtain ⟨T, S, x, y, rfl, nT, nS, ne, rfl, f1, f2⟩ := w
    exact hs i x y T S σ H (f1 xs qx) (f2 ys qy) p nT nS ne
  · obtain rfl : i = xs.length := by omega
    exact .inl ⟨⟨xs, ys, qx, qy, .inl (Nat.le_refl _)⟩, hd σ H p⟩
end EZ
namespace K66
open PySem PySem.Spec PyProof.Rows L2
def top (i : Nat) : Stmt := PySem.Challenge.pw_dearestshelf_k66_whole_best_in_the_worst.main.body.getD i (.Pass ⟨0, 0, 0, 0⟩)
abbrev s_BadNumber___init__ : Stmt := inClass (top 7) 0
theorem sc_BadNumber___init__ : FnScope ["self", "what", "at"] ["self", "what", "at"] (defScope s_BadNumber___init__) := ⟨rfl, rfl, rfl, by decide +kernel, rfl, by decide +kernel, by decide +kernel⟩
abbrev s_TooMany___init__ : Stmt := inClass (top 8) 0
theorem sc_TooMany___init__ : FnScope ["self", "many", "most"] ["self", "many", "most"] (defScope s_TooMany___init__) := ⟨rfl, rfl, rfl, by decide +kernel, rfl, by decide +kernel, by decide +kernel⟩
abbrev s_check_many : Stmt := top 10
theorem sc_check_many : FnScope ["many", "most"] ["many", "most"] (defScope s_check_many) := ⟨rfl, rfl, rfl, by decide +kernel, rfl, by decide +kernel, by decide +kernel⟩
abbrev s_check_length : Stmt := top 12
theorem sc_check_length : FnScope ["what", "items", "many"] ["what", "items", "many"] (defScope s_check_length) := ⟨rfl, rfl, rfl, by decide +kernel, rfl, by decide +kernel, by decide +kernel⟩
abbrev s_check_each : Stmt := top 13
theorem sc_check_each : FnScope ["what", "numbers", "least", "at", "number"] ["what", "numbers", "least"] (defScope s_check_each) := ⟨rfl, rfl, rfl, by decide +kernel, rfl, by decide +kernel, by decide +kernel⟩
abbrev s_check_prices : Stmt := top 11
theorem sc_check_prices : FnScope ["prices", "many"] ["prices", "many"] (defScope s_check_prices) := ⟨rfl, rfl, rfl, by decide +kernel, rfl, by decide +kernel, by decide +kernel⟩
abbrev s_check_least : Stmt := top 14
theorem sc_check_least : FnScope ["what", "number", "least"] ["what", "number", "least"] (defScope s_check_least) := ⟨rfl, rfl, rfl, by decide +kernel, rfl, by decide +kernel, by decide +kernel⟩
abbrev s_check_aside : Stmt := top 16
theorem sc_check_aside : FnScope ["aside"] ["aside"] (defScope s_check_aside) := ⟨rfl, rfl, rfl, by decide +kernel, rfl, by decide +kernel, by decide +kernel⟩
abbrev s_check_up_to : Stmt := top 15
theorem sc_check_up_to : FnScope ["what", "number", "most"] ["what", "number", "most"] (defScope s_check_up_to) := ⟨rfl, rfl, rfl, by decide +kernel, rfl, by decide +kernel, by decide +kernel⟩
abbrev s_check_lot : Stmt := top 17
theorem sc_check_lot : FnScope ["lot", "many", "before", "thing"] ["lot", "many"] (defScope s_check_lot) := ⟨rfl, rfl, rfl, by decide +kernel, rfl, by decide +kernel, by decide +kernel⟩
abbrev s__check_bounds_of_aside : Stmt := top 35
theorem sc__check_bounds_of_aside : FnScope ["aside", "low", "high"] ["aside"] (defScope s__check_bounds_of_aside) := ⟨rfl, rfl, rfl, by decide +kernel, rfl, by decide +kernel, by decide +kernel⟩
abbrev s_Unsure___init__ : Stmt := inClass (top 34) 0
theorem sc_Unsure___init__ : FnScope ["self", "lows", "highs", "aside", "thing", "low", "high"] ["self", "lows", "highs", "aside"] (defScope s_Unsure___init__) := ⟨rfl, rfl, rfl, by decide +kernel, rfl, by decide +kernel, by decide +kernel⟩
abbrev s_Ratio___init__ : Stmt := inClass (top 24) 0
theorem sc_Ratio___init__ : FnScope ["self", "top", "bottom", "divisor"] ["self", "top", "bottom"] (defScope s_Ratio___init__) := ⟨rfl, rfl, rfl, by decide +kernel, rfl, by decide +kernel, by decide +kernel⟩
abbrev s__as_ratio : Stmt := top 25
theorem sc__as_ratio : FnScope ["number"] ["number"] (defScope s__as_ratio) := ⟨rfl, rfl, rfl, by decide +kernel, rfl, by decide +kernel, by decide +kernel⟩
abbrev s__gap : Stmt := top 26
theorem sc__gap : FnScope ["ratio", "other", "subtrahend"] ["ratio", "other"] (defScope s__gap) := ⟨rfl, rfl, rfl, by decide +kernel, rfl, by decide +kernel, by decide +kernel⟩
abbrev s_Ratio___lt__ : Stmt := inClass (top 24) 16
theorem sc_Ratio___lt__ : FnScope ["self", "other"] ["self", "other"] (defScope s_Ratio___lt__) := ⟨rfl, rfl, rfl, by decide +kernel, rfl, by decide +kernel, by decide +kernel⟩
abbrev s_Ratio___le__ : Stmt := inClass (top 24) 17
theorem sc_Ratio___le__ : FnScope ["self", "other"] ["self", "other"] (defScope s_Ratio___le__) := ⟨rfl, rfl, rfl, by decide +kernel, rfl, by decide +kernel, by decide +kernel⟩
abbrev s_Ratio___gt__ : Stmt := inClass (top 24) 18
theorem sc_Ratio___gt__ : FnScope ["self", "other"] ["self", "other"] (defScope s_Ratio___gt__) := ⟨rfl, rfl, rfl, by decide +kernel, rfl, by decide +kernel, by decide +kernel⟩
abbrev s_Ratio___ge__ : Stmt := inClass (top 24) 19
theorem sc_Ratio___ge__ : FnScope ["self", "other"] ["self", "other"] (defScope s_Ratio___ge__) := ⟨rfl, rfl, rfl, by decide +kernel, rfl, by decide +kernel, by decide +kernel⟩
abbrev s_Ratio___add__ : Stmt := inClass (top 24) 4
theorem sc_Ratio___add__ : FnScope ["self", "other", "addend"] ["self", "other"] (defScope s_Ratio___add__) := ⟨rfl, rfl, rfl, by decide +kernel, rfl, by decide +kernel, by decide +kernel⟩
abbrev s_Ratio___mul__ : Stmt := inClass (top 24) 8
theorem sc_Ratio___mul__ : FnScope ["self", "other", "factor"] ["self", "other"] (defScope s_Ratio___mul__) := ⟨rfl, rfl, rfl, by decide +kernel, rfl, by decide +kernel, by decide +kernel⟩
abbrev s_Rule___init__ : Stmt := inClass (top 30) 0
theorem sc_Rule___init__ : FnScope ["self", "many"] ["self", "many"] (defScope s_Rule___init__) := ⟨rfl, rfl, rfl, by decide +kernel, rfl, by decide +kernel, by decide +kernel⟩
abbrev s_Weighted___init__ : Stmt := inClass (top 32) 0
theorem sc_Weighted___init__ : NdefX.NScope ["self", "weights", "aside", "__class__"] ["self", "weights", "aside"] ["__class__"] (defScope s_Weighted___init__) := NdefX.nscope_by (by decide +kernel)
abbrev s_Weighted_shares : Stmt := inClass (top 32) 1
theorem sc_Weighted_shares : FnScope ["self", "lot", "total", "thing"] ["self", "lot"] (defScope s_Weighted_shares) := ⟨rfl, rfl, rfl, by decide +kernel, rfl, by decide +kernel, by decide +kernel⟩
abbrev s_Rule_worth : Stmt := inClass (top 30) 3
theorem sc_Rule_worth : FnScope ["self", "lot", "prices", "shares", "thing"] ["self", "lot", "prices"] (defScope s_Rule_worth) := ⟨rfl, rfl, rfl, by decide +kernel, rfl, by decide +kernel, by decide +kernel⟩
abbrev s__worth : Stmt := top 36
theorem sc__worth : FnScope ["lot", "prices", "weights", "aside", "brought", "thing"] ["lot", "prices", "weights", "aside"] (defScope s__worth) := ⟨rfl, rfl, rfl, by decide +kernel, rfl, by decide +kernel, by decide +kernel⟩
abbrev s_dearest_order : Stmt := top 21
theorem sc_dearest_order : FnScope ["prices", "order", "thing", "at"] ["prices"] (defScope s_dearest_order) := ⟨rfl, rfl, rfl, by decide +kernel, rfl, by decide +kernel, by decide +kernel⟩
abbrev s_first_things : Stmt := top 22
theorem sc_first_things : FnScope ["order", "k"] ["order", "k"] (defScope s_first_things) := ⟨rfl, rfl, rfl, by decide +kernel, rfl, by decide +kernel, by decide +kernel⟩
abbrev s_Rule_best_dearest : Stmt := inClass (top 30) 5
theorem sc_Rule_best_dearest : FnScope ["self", "prices", "order", "best_k", "best_worth", "k", "worth"] ["self", "prices"] (defScope s_Rule_best_dearest) := ⟨rfl, rfl, rfl, by decide +kernel, rfl, by decide +kernel, by decide +kernel⟩
abbrev s_Weighted_best : Stmt := inClass (top 32) 2
theorem sc_Weighted_best : FnScope ["self", "prices", "_", "worth", "thing"] ["self", "prices"] (defScope s_Weighted_best) := ⟨rfl, rfl, rfl, by decide +kernel, rfl, by decide +kernel, by decide +kernel⟩
abbrev s_Unsure_best : Stmt := inClass (top 34) 3
theorem sc_Unsure_best : FnScope ["self", "prices"] ["self", "prices"] (defScope s_Unsure_best) := ⟨rfl, rfl, rfl, by decide +kernel, rfl, by decide +kernel, by decide +kernel⟩
abbrev s_Unsure__check : Stmt := inClass (top 34) 5
theorem sc_Unsure__check : FnScope ["self", "lot", "prices"] ["self", "lot", "prices"] (defScope s_Unsure__check) := ⟨rfl, rfl, rfl, by decide +kernel, rfl, by decide +kernel, by decide +kernel⟩
abbrev s_Unsure__turned : Stmt := inClass (top 34) 6
theorem sc_Unsure__turned : FnScope ["self", "lot", "prices", "dear", "cheap", "aside", "weights", "thing", "worth"] ["self", "lot", "prices", "dear", "cheap", "aside"] (defScope s_Unsure__turned) := ⟨rfl, rfl, rfl, by decide +kernel, rfl, by decide +kernel, by decide +kernel⟩
abbrev s_Unsure_least : Stmt := inClass (top 34) 1
theorem sc_Unsure_least : FnScope ["self", "lot", "prices"] ["self", "lot", "prices"] (defScope s_Unsure_least) := ⟨rfl, rfl, rfl, by decide +kernel, rfl, by decide +kernel, by decide +kernel⟩
abbrev s__law_cell : Stmt := top 38
theorem sc__law_cell : FnScope ["_law_script", "_law_place"] ["_law_script", "_law_place"] (defScope s__law_cell) := ⟨rfl, rfl, rfl, by decide +kernel, rfl, by decide +kernel, by decide +kernel⟩
abbrev s__law_draws : Stmt := top 39
theorem sc__law_draws : FnScope ["_law_cell_here", "_law_sizes", "_law_size", "_law_left", "_law_found", "_law_k", "_law_low", "_law_high"] ["_law_cell_here", "_law_sizes"] (defScope s__law_draws) := ⟨rfl, rfl, rfl, by decide +kernel, rfl, by decide +kernel, by decide +kernel⟩
abbrev s__law_row : Stmt := top 40
theorem sc__law_row : FnScope ["_law_cell_here", "_law_count", "_law_drawn", "_law_bound", "_law_value", "_law_k"] ["_law_cell_here", "_law_count"] (defScope s__law_row) := ⟨rfl, rfl, rfl, by decide +kernel, rfl, by decide +kernel, by decide +kernel⟩
abbrev s__law_lot : Stmt := top 41
theorem sc__law_lot : FnScope ["_law_bits", "_law_many", "_law_found", "_law_left", "_law_thing"] ["_law_bits", "_law_many"] (defScope s__law_lot) := ⟨rfl, rfl, rfl, by decide +kernel, rfl, by decide +kernel, by decide +kernel⟩
abbrev s__law_is_int : Stmt := top 42
theorem sc__law_is_int : FnScope ["_law_x"] ["_law_x"] (defScope s__law_is_int) := ⟨rfl, rfl, rfl, by decide +kernel, rfl, by decide +kernel, by decide +kernel⟩
abbrev s__law_is_ratio : Stmt := top 43
theorem sc__law_is_ratio : FnScope ["_law_x"] ["_law_x"] (defScope s__law_is_ratio) := ⟨rfl, rfl, rfl, by decide +kernel, rfl, by decide +kernel, by decide +kernel⟩
abbrev s__law_same : Stmt := top 44
theorem sc__law_same : FnScope ["_law_x", "_law_top", "_law_bottom"] ["_law_x", "_law_top", "_law_bottom"] (defScope s__law_same) := ⟨rfl, rfl, rfl, by decide +kernel, rfl, by decide +kernel, by decide +kernel⟩
abbrev s__law_same_lot : Stmt := top 45
theorem sc__law_same_lot : FnScope ["_law_x", "_law_due", "_law_k"] ["_law_x", "_law_due"] (defScope s__law_same_lot) := ⟨rfl, rfl, rfl, by decide +kernel, rfl, by decide +kernel, by decide +kernel⟩
abbrev s__law_refused : Stmt := top 46
theorem sc__law_refused : FnScope ["_law_answer", "_law_due", "_law_k"] ["_law_answer", "_law_due"] (defScope s__law_refused) := ⟨rfl, rfl, rfl, by decide +kernel, rfl, by decide +kernel, by decide +kernel⟩
abbrev s__law_bounds : Stmt := top 47
theorem sc__law_bounds : FnScope ["_law_low_cell", "_law_high_cell", "_law_count", "_law_bases", "_law_extras", "_law_found", "_law_k", "_law_low"] ["_law_low_cell", "_law_high_cell", "_law_count"] (defScope s__law_bounds) := ⟨rfl, rfl, rfl, by decide +kernel, rfl, by decide +kernel, by decide +kernel⟩
abbrev s__law_within : Stmt := top 48
theorem sc__law_within : FnScope ["_law_cell_here", "_law_couples", "_law_drawn", "_law_found", "_law_k", "_law_couple"] ["_law_cell_here", "_law_couples"] (defScope s__law_within) := ⟨rfl, rfl, rfl, by decide +kernel, rfl, by decide +kernel, by decide +kernel⟩
abbrev s__law_worth : Stmt := top 49
theorem sc__law_worth : FnScope ["_law_weights", "_law_apart", "_law_prices", "_law_lot_here", "_law_top", "_law_bottom", "_law_thing"] ["_law_weights", "_law_apart", "_law_prices", "_law_lot_here"] (defScope s__law_worth) := ⟨rfl, rfl, rfl, by decide +kernel, rfl, by decide +kernel, by decide +kernel⟩
abbrev s__law_asked : Stmt := top 50
theorem sc__law_asked : FnScope ["_law_unsure", "_law_prices", "e"] ["_law_unsure", "_law_prices"] (defScope s__law_asked) := ⟨rfl, rfl, rfl, by decide +kernel, rfl, by decide +kernel, by decide +kernel⟩
abbrev s__law_refuses : Stmt := top 51
theorem sc__law_refuses : FnScope ["_law_unsure", "_law_form", "_law_prices", "_law_many", "_law_bad_prices", "_law_due"] ["_law_unsure", "_law_form", "_law_prices"] (defScope s__law_refuses) := ⟨rfl, rfl, rfl, by decide +kernel, rfl, by decide +kernel, by decide +kernel⟩
abbrev s__law_best_lot : Stmt := top 53
theorem sc__law_best_lot : FnScope ["_law_told", "_law_lows", "_law_apart", "_law_prices", "_law_best", "_law_due", "_law_thing"] ["_law_told", "_law_lows", "_law_apart", "_law_prices"] (defScope s__law_best_lot) := ⟨rfl, rfl, rfl, by decide +kernel, rfl, by decide +kernel, by decide +kernel⟩
abbrev s__law_inside : Stmt := top 54
theorem sc__law_inside : FnScope ["_law_told", "_law_couples", "_law_many", "_law_numbers", "_law_k"] ["_law_told", "_law_couples"] (defScope s__law_inside) := ⟨rfl, rfl, rfl, by decide +kernel, rfl, by decide +kernel, by decide +kernel⟩
abbrev s__law_other : Stmt := top 52
theorem sc__law_other : FnScope ["_law_way", "_law_bits", "_law_place", "_law_best", "_law_worth_here", "_law_prices", "_law_many", "_law_k"] ["_law_way", "_law_bits", "_law_place", "_law_best", "_law_worth_here", "_law_prices"] (defScope s__law_other) := ⟨rfl, rfl, rfl, by decide +kernel, rfl, by decide +kernel, by decide +kernel⟩
abbrev s_law : Stmt := top 55
theorem sc_law : FnScope ["_law_script", "_law_drawn", "_law_many", "_law_couples", "_law_lows", "_law_highs", "_law_pair", "_law_prices", "_law_others", "_law_unsure", "_law_passed", "_law_told", "_law_best", "_law_second", "_law_worth_here", "_law_met", "_law_lot_here", "_law_least", "_law_couple", "_law_thing"] ["_law_script"] (defScope s_law) := ⟨rfl, rfl, rfl, by decide +kernel, rfl, by decide +kernel, by decide +kernel⟩

/-! ### mathematics of draws -/
def Within : List Int → List Int → Prop
  | [], [] => True
  | d :: ds, n :: ns => (0 ≤ d ∧ d < n) ∧ Within ds ns
  | _, _ => False
theorem Within.len : ∀ {ds ns : List Int}, Within ds ns → ds.length = ns.length
  | [], [], _ => rfl
  | _ :: ds, _ :: ns, h => by
    rw [List.length_cons, List.length_cons, Within.len h.2]
  | [], _ :: _, h => h.elim
  | _ :: _, [], h => h.elim
theorem Within.snoc : ∀ {ds ns : List Int} {d n : Int}, Within ds ns → 0 ≤ d → d < n → Within (ds ++ [d]) (ns ++ [n])
  | [], [], d, n, _, h0, h1 => ⟨⟨h0, h1⟩, True.intro⟩
  | _ :: ds, _ :: ns, d, n, h, h0, h1 => ⟨h.1, Within.snoc h.2 h0 h1⟩
  | [], _ :: _, _, _, h, _, _ => h.elim
  | _ :: _, [], _, _, h, _, _ => h.elim
theorem Within.step {ds ns : List Int} {d n : Int} {i : Nat} (h : Within ds (ns.take i)) (hi : ns[i]? = some n) (h0 : 0 ≤ d) (h1 : d < n) : Within (ds ++ [d]) (ns.take (i + 1)) := by
  rw [List.take_add_one, hi]
  exact h.snoc h0 h1
theorem Within.zero (ns : List Int) : Within [] (ns.take 0) := by
  rw [List.take_zero]
  exact True.intro
theorem Within.full {ds ns : List Int} (h : Within ds (ns.take ns.length)) : Within ds ns := by
  rw [List.take_length] at h
  exact h
theorem int_of {ns : List Int} {i : Nat} {x : V} (h : (ns.map V.int)[i]? = some x) : ∃ n, x = .int n ∧ ns[i]? = some n := by
  rw [List.getElem?_map] at h
  cases e : ns[i]? with
  | none =>
    rw [e] at h
    cases h
  | some z =>
    rw [e] at h
    exact ⟨z, (Option.some.inj h).symm, rfl⟩
theorem int_at {ns : List Int} {i : Nat} {n : Int} (h : ns[i]? = some n) : (ns.map V.int)[i]? = some (.int n) := by
  rw [List.getElem?_map, h]
  rfl
theorem snoc_int (ds : List Int) (d : Int) : ds.map V.int ++ [V.int d] = (ds ++ [d]).map V.int := by
  rw [List.map_append]
  rfl
theorem same_upd {H : Hp} {p : Addr} {o : HO} (h : H p = none) : Same H (upd H p o) := fun b x e => by
  rw [upd_ne (ne_of_none e h)]
  exact e
theorem same_mut {H H1 : Hp} {p : Addr} {o : HO} (s : Same H H1) (h : H p = none) : Same H (upd H1 p o) := fun b x e => by
  rw [upd_ne (ne_of_none e h)]
  exact s b x e
theorem same_tup {K : PySem.W.Frag} {H H' : Hp} {a : Addr} {xs : List V} (e : Same H H') (h : SqT K H a xs) : SqT K H' a xs := by
  rcases h with (h | ⟨o, h⟩) | h
  · exact .inl (.inl (e _ _ h))
  · exact .inl (.inr ⟨o, e _ _ h⟩)
  · exact .inr h
theorem w_div {j : Int} (h : 0 < j) (hb : j < 2 ^ 100) : CDivW 0 j := wide_div (b := 100) h (by omega) (by decide) (by decide)
theorem lst_l {K : PySem.W.Frag} {H : Hp} {a : Addr} {xs : List V} (h : H a = some (.lst xs)) : SqL K H a xs := .inl (.inl h)
theorem tup_t {K : PySem.W.Frag} {H : Hp} {a : Addr} {xs : List V} (h : H a = some (.tup xs)) : SqT K H a xs := .inl (.inl h)
theorem lc_yes {σ : L2.St} {H : Hp} {F : Bool → Hp → Prop} (h : F true H) : tYes σ H F := h
theorem Within.c {ds ns : List Int} {n : Int} (h : Within ds (n :: ns)) : ∃ d r, ds = d :: r ∧ 0 ≤ d ∧ d < n ∧ Within r ns := by
  cases ds with
  | nil => exact h.elim
  | cons d r => exact ⟨d, r, rfl, h.1.1, h.1.2, h.2⟩
theorem Within.n {ds : List Int} (h : Within ds []) : ds = [] := by
  cases ds with
  | nil => rfl
  | cons d r => exact h.elim
theorem kI : kitB "int" "int" = some true := by decide +kernel
theorem kB : kitB "int" "bool" = some false := by decide +kernel
theorem kT : kitB "tuple" "tuple" = some true := by decide +kernel

theorem cut_from (xs : List V) (k : Nat) : cutV xs (some (k : Int)) none = xs.drop k := by
  unfold cutV
  rw [HT.sIx_nat, HT.sIx_none]
  by_cases h : k ≤ xs.length
  · rw [Nat.min_eq_left h]
    exact List.take_of_length_le (by rw [List.length_drop]; exact Nat.le_refl _)
  · rw [Nat.min_eq_right (by omega), List.drop_of_length_le (Nat.le_refl _), List.drop_of_length_le (by omega), List.take_nil]
theorem cut_from1 (xs : List V) : cutV xs (some 1) none = xs.drop 1 := by
  unfold cutV
  rw [show HT.sIx xs.length 0 (some 1) = min 1 xs.length from HT.sIx_nat xs.length 0 1, HT.sIx_none]
  cases xs with
  | nil => rfl
  | cons x r =>
    rw [show min 1 (x :: r).length = 1 by
      rw [List.length_cons]
      omega]
    show (List.take ((x :: r).length - 1) r) = r
    rw [List.length_cons, Nat.add_sub_cancel]
    exact List.take_length
theorem big18 : (0 : Int) < 10 ^ 18 ∧ (10 : Int) ^ 18 < 2 ^ 100 := by decide
theorem cut_to (xs : List V) (k : Nat) : cutV xs none (some (k : Int)) = xs.take k := by
  unfold cutV
  rw [HT.sIx_none, HT.sIx_nat, List.drop_zero, Nat.sub_zero]
  by_cases h : k ≤ xs.length
  · rw [Nat.min_eq_left h]
  · rw [Nat.min_eq_right (by omega), List.take_of_length_le (Nat.le_refl _), List.take_of_length_le (by omega)]

theorem iteD {c A B : Prop} [Decidable c] (hc : c) (h : A) : if decide c = true then A else B := by
  rw [if_pos (decide_eq_true hc)]
  exact h
theorem iteDF {c A B : Prop} [Decidable c] (hc : ¬ c) (h : B) : if decide c = true then A else B := by
  rw [decide_eq_false hc]
  exact iteF h
/-! ### lowest terms -/
def rg (t b : Int) : Int := ((Nat.gcd t.natAbs b.natAbs : Nat) : Int)
def rd (t b : Int) : Int := if b < 0 then -(rg t b) else rg t b
def nT (t b : Int) : Int := t.fdiv (rd t b)
def nB (t b : Int) : Int := b.fdiv (rd t b)
/-- T over B is t over b in lowest terms -/
structure LowT (t b T B : Int) : Prop where
  pos : 0 < B
  eq : T * b = t * B
  leT : T.natAbs ≤ t.natAbs
  leB : B.natAbs ≤ b.natAbs
  cop : Nat.gcd T.natAbs B.natAbs = 1
theorem rg_pos {t b : Int} (h : b ≠ 0) : 0 < rg t b := by
  unfold rg
  have := Nat.gcd_pos_of_pos_right t.natAbs (Int.natAbs_pos.mpr h)
  omega
theorem rd_ne {t b : Int} (h : b ≠ 0) : rd t b ≠ 0 := by
  have := rg_pos (t := t) h
  unfold rd
  split <;> omega
theorem rd_abs (t b : Int) : (rd t b).natAbs = Nat.gcd t.natAbs b.natAbs := by
  unfold rd rg
  split <;> omega
theorem rd_dvd_t (t b : Int) : rd t b ∣ t := by
  rw [← Int.natAbs_dvd_natAbs, rd_abs]
  exact Nat.gcd_dvd_left ..
theorem rd_dvd_b (t b : Int) : rd t b ∣ b := by
  rw [← Int.natAbs_dvd_natAbs, rd_abs]
  exact Nat.gcd_dvd_right ..
theorem nT_mul {t b : Int} (h : b ≠ 0) : t = rd t b * nT t b := by
  obtain ⟨k, hk⟩ := rd_dvd_t t b
  have e : nT t b = k := by
    unfold nT
    conv => lhs; arg 1; rw [hk]
    exact Int.mul_fdiv_cancel_left k (rd_ne h)
  rw [e]
  exact hk
theorem nB_mul {t b : Int} (h : b ≠ 0) : b = rd t b * nB t b := by
  obtain ⟨k, hk⟩ := rd_dvd_b t b
  have e : nB t b = k := by
    unfold nB
    conv => lhs; arg 1; rw [hk]
    exact Int.mul_fdiv_cancel_left k (rd_ne h)
  rw [e]
  exact hk
theorem low {t b : Int} (h : b ≠ 0) : LowT t b (nT t b) (nB t b) := by
  have h1 := nT_mul (t := t) h
  have h2 := nB_mul (t := t) h
  have hg := rg_pos (t := t) h
  have hd := rd_ne (t := t) h
  have a1 : t.natAbs = (rd t b).natAbs * (nT t b).natAbs := by
    rw [← Int.natAbs_mul, ← h1]
  have a2 : b.natAbs = (rd t b).natAbs * (nB t b).natAbs := by
    rw [← Int.natAbs_mul, ← h2]
  have p : 0 < (rd t b).natAbs := Int.natAbs_pos.mpr hd
  refine ⟨?_, ?_, ?_, ?_, ?_⟩
  · by_cases hb : b < 0
    · have e : rd t b = -(rg t b) := if_pos hb
      rw [e] at h2
      by_cases hn : 0 < nB t b
      · exact hn
      · exfalso
        have : 0 ≤ -(rg t b) * nB t b := by
          rw [Int.neg_mul]
          have := Int.mul_nonneg (Int.le_of_lt hg) (show 0 ≤ -(nB t b) by omega)
          rw [Int.mul_neg] at this
          exact this
        omega
    · have e : rd t b = rg t b := if_neg hb
      rw [e] at h2
      by_cases hn : 0 < nB t b
      · exact hn
      · exfalso
        have := Int.mul_nonneg (Int.le_of_lt hg) (show 0 ≤ -(nB t b) by omega)
        rw [Int.mul_neg] at this
        omega
  · have e : nT t b * b = nT t b * (rd t b * nB t b) := congrArg (nT t b * ·) h2
    have e2 : t * nB t b = rd t b * nT t b * nB t b := congrArg (· * nB t b) h1
    rw [e, e2, ← Int.mul_assoc, Int.mul_comm (nT t b)]
  · rw [a1]
    exact Nat.le_mul_of_pos_left _ p
  · rw [a2]
    exact Nat.le_mul_of_pos_left _ p
  · have g := rd_abs t b
    rw [a1, a2, Nat.gcd_mul_left] at g
    have : (rd t b).natAbs * 1 = (rd t b).natAbs * Nat.gcd (nT t b).natAbs (nB t b).natAbs := by
      rw [Nat.mul_one]
      have e1 := congrArg Int.natAbs h1
      have e2 := congrArg Int.natAbs h2
      rw [Int.natAbs_mul] at e1 e2
      exact g
    exact (Nat.eq_of_mul_eq_mul_left p this).symm
theorem low_uniq {t b T B T' B' : Int} (hb : b ≠ 0) (h : LowT t b T B) (h' : LowT t b T' B') : T = T' ∧ B = B' := by
  have e : T * B' = T' * B := by
    have h1 : T * B' * b = T' * B * b := by
      have x1 : T * B' * b = (T * b) * B' := by rw [Int.mul_assoc, Int.mul_comm B', ← Int.mul_assoc]
      have x2 : T' * B * b = (T' * b) * B := by rw [Int.mul_assoc, Int.mul_comm B, ← Int.mul_assoc]
      rw [x1, x2, h.eq, h'.eq, Int.mul_assoc, Int.mul_assoc, Int.mul_comm B]
    exact Int.eq_of_mul_eq_mul_right hb h1
  have n : T.natAbs * B'.natAbs = T'.natAbs * B.natAbs := by
    rw [← Int.natAbs_mul, ← Int.natAbs_mul, e]
  have d1 : B.natAbs ∣ B'.natAbs := by
    have : B.natAbs ∣ T.natAbs * B'.natAbs := n ▸ Nat.dvd_mul_left ..
    exact (Nat.Coprime.symm h.cop).dvd_of_dvd_mul_left this
  have d2 : B'.natAbs ∣ B.natAbs := by
    have : B'.natAbs ∣ T'.natAbs * B.natAbs := n ▸ Nat.dvd_mul_left ..
    exact (Nat.Coprime.symm h'.cop).dvd_of_dvd_mul_left this
  have eb : B.natAbs = B'.natAbs := Nat.dvd_antisymm d1 d2
  have p := h.pos
  have p' := h'.pos
  have eB : B = B' := by omega
  subst eB
  exact ⟨Int.eq_of_mul_eq_mul_right (by omega) e, rfl⟩
/-! ### Euclid's turns -/
/-- ahead of turn i; g the greatest common divisor, the first product below 6 ^ m -/
structure Eu (g m i : Nat) (a b : Nat) : Prop where
  gc : Nat.gcd a b = g
  pot : (i = 0 ∧ a * b < 6 ^ m) ∨ (∃ j, i = 2 * j + 1 ∧ b ≤ a ∧ 0 < a ∧ a * b * 6 ^ j < 6 ^ m) ∨ (∃ j, i = 2 * j + 2 ∧ b ≤ a ∧ 0 < a ∧ (a + b) * a * 6 ^ j < 6 ^ m)
theorem eu_zero {g m i a : Nat} (h : Eu g m i a 0) : a = g := by
  have := h.gc
  rw [Nat.gcd_zero_right] at this
  exact this
theorem six_br {a b r : Nat} (h : b + r ≤ a) (hr : r ≤ b) : b * r * 6 ≤ (a + b) * a := by
  obtain ⟨c, rfl⟩ : ∃ c, b = r + c := ⟨b - r, by omega⟩
  have h1 : (r + c + r + (r + c)) * (r + c + r) ≤ (a + (r + c)) * a := Nat.mul_le_mul (by omega) h
  refine Nat.le_trans ?_ h1
  have e1 : (r + c) * r * 6 = 6 * (r * r) + 6 * (c * r) := by
    rw [Nat.add_mul]
    omega
  have e2 : (r + c + r + (r + c)) * (r + c + r) = 6 * (r * r) + 7 * (c * r) + 2 * (c * c) := by
    have : r + c + r + (r + c) = 3 * r + 2 * c := by omega
    rw [this]
    have : r + c + r = 2 * r + c := by omega
    rw [this, Nat.add_mul, Nat.mul_add, Nat.mul_add]
    have q1 : 3 * r * (2 * r) = 6 * (r * r) := by
      rw [Nat.mul_mul_mul_comm]
    have q2 : 3 * r * c = 3 * (c * r) := by
      rw [Nat.mul_assoc, Nat.mul_comm r c]
    have q3 : 2 * c * (2 * r) = 4 * (c * r) := by
      rw [Nat.mul_mul_mul_comm]
    have q4 : 2 * c * c = 2 * (c * c) := Nat.mul_assoc ..
    rw [q1, q2, q3, q4]
    omega
  omega
theorem eu_step {g m i a b : Nat} (h : Eu g m i a b) (hb : 0 < b) : Eu g m (i + 1) b (a % b) := by
  have hr : a % b < b := Nat.mod_lt a hb
  refine ⟨?_, ?_⟩
  · rw [← h.gc, Nat.gcd_comm a b, Nat.gcd_rec b a, Nat.gcd_comm]
  · rcases h.pot with ⟨rfl, p⟩ | ⟨j, rfl, hle, _, p⟩ | ⟨j, rfl, hle, _, p⟩
    · refine .inr (.inl ⟨0, by omega, by omega, hb, ?_⟩)
      rw [Nat.pow_zero, Nat.mul_one]
      refine Nat.lt_of_le_of_lt ?_ p
      rw [Nat.mul_comm]
      exact Nat.mul_le_mul_right _ (Nat.mod_le a b)
    · refine .inr (.inr ⟨j, by omega, by omega, hb, ?_⟩)
      refine Nat.lt_of_le_of_lt (Nat.mul_le_mul_right _ ?_) p
      have e := Nat.div_add_mod a b
      have q : 1 ≤ a / b := Nat.div_pos hle hb
      have : b * 1 ≤ b * (a / b) := Nat.mul_le_mul_left b q
      exact Nat.mul_le_mul (by omega) (Nat.le_refl b)
    · refine .inr (.inl ⟨j + 1, by omega, by omega, hb, ?_⟩)
      refine Nat.lt_of_le_of_lt ?_ p
      have e := Nat.div_add_mod a b
      have q : 1 ≤ a / b := Nat.div_pos hle hb
      have q2 : b * 1 ≤ b * (a / b) := Nat.mul_le_mul_left b q
      have s := six_br (a := a) (b := b) (r := a % b) (by omega) (by omega)
      rw [Nat.pow_succ, Nat.mul_comm (6 ^ j) 6, ← Nat.mul_assoc]
      exact Nat.mul_le_mul_right _ s
theorem eu_end {g m n a b : Nat} (h : Eu g m (2 * n + 2) a b) (hm : m ≤ n) : False := by
  rcases h.pot with ⟨h0, _⟩ | ⟨j, hj, _⟩ | ⟨j, hj, _, ha, p⟩
  · omega
  · omega
  · have e : j = n := by omega
    subst e
    have h1 : 1 * 6 ^ m ≤ (a + b) * a * 6 ^ j := Nat.mul_le_mul (Nat.mul_pos (by omega) ha) (Nat.pow_le_pow_right (by decide) hm)
    omega
open NdefX (NScope ncx startF CellsAt inv_startN)
open ClX (pin_new pin_at base_none unpinE)

/-! ### own classes and errors: rules that the layer lacks -/
section
variable {X : Cx}
/-- a field's read, its K by another name -/
theorem pe_fldK {K : PySem.W.Frag} {e : Expr} {f : Str} {pos : Pos} {ta : TE} (he : PE X e ta) (hb : attributeBase e f X.env (eval e X.env) = eval e X.env) (hK : X.K = K := by rfl) : PE X (.Attribute e f pos) (tFld K ta f) := by
  subst hK
  exact pe_fld he hb
/-- floor division by a divisor of either sign -/
def CDivWN (_ j : Int) : Prop := j ≠ 0 ∧ j.natAbs.log2 < 9000
theorem op_fdivWN : OpR X (binaryOp .FloorDiv) (rI CDivWN fun i j => .int (i.fdiv j)) := opI fun _ _ _ _ _ _ _ c k => floordiv_int c.1 k (.inl (PyProof.noPylong_of_log2 c.2))
/-- a new instance whose __init__ may let an error out, wished for at the slots that stand -/
theorem made_at {CX : CXT} {n : Nat} {g D : Addr} {gd : FuncData} {qs : List Str} {pr : Sp} {Ex : L2.St → XK} {us0 : List Value} {vs0 : List V} {pn : List (Addr × Obj)} {τ : L2.St} {H0 : Hp} {st : Shared} {W : VK} {as : List Value} {xs : List V}
    (MK : Mk X.K D g) (OK : FnOk X.prog X.w X.K X.mg X.base CX n g gd qs pr) (room : Room (n + 1) X.A) (bd : Binds X.K gd qs us0) (dv : Vals vs0 us0) (out : PassesAt CX X τ (Ex τ)) (J : Inv X pn τ H0 st) (rel : Vals xs as)
    (go : ∀ p q, H0 p = none → H0 q = none → q ≠ p → pr (.ref p :: (xs ++ vs0)) (upd (upd H0 q (.own p)) p (.ins D q [])) (fun v H2 => v = .non ∧ W (.ref p) H2) (Ex τ)) :
    wpAny (model X.prog X.w) X.A (call (.ref D) as) (EP X pn τ W) X.xe st := by
  have new1 := J.hok.fresh (Nat.le_succ st.heap.objs.size)
  have new2 := J.hok.fresh (Nat.le_refl st.heap.objs.size)
  have asked := go _ _ new1 new2 (Nat.ne_of_lt (Nat.lt_succ_self _))
  have J2 := Inv.made (C := D) J
  have rel2 : Vals (V.ref (st.heap.objs.size + 1) :: (xs ++ vs0)) (Value.ref (st.heap.objs.size + 1) :: (as ++ us0)) :=
    .cons rfl (rel.append dv)
  have len2 : (Value.ref (st.heap.objs.size + 1) :: as ++ us0).length = qs.length := (rel2.length.symm).trans (OK.len _ _ _ _ asked)
  have env2 := J2.env0.make D as []
  have bound := bd _ (Value.ref (st.heap.objs.size + 1) :: as) J2.kIn len2
  have ran := OK.run _ X.stack _ _ _ _ _ _ (Ex τ) (room.make D as []) env2 bound rel2 asked
  refine wpAny_call (make_map (f := g) J.kIn MK.makes MK.init (beq_iff_eq.mp MK.fn) (codeAny_mono ran ?_))
  rintro (e | fl) s' back
  · exact out pn _ _ e s' J2 back
  · cases fl with
    | ret u =>
      obtain ⟨v, H', J3, rv, rfl, w3⟩ := J2.after back
      exact ⟨rv, V.ref (st.heap.objs.size + 1), _, J3, rfl, w3⟩
    | next => exact back.elim
    | brk => exact back.elim
    | cont => exact back.elim
def tMakeS (D : Addr) (pr : Sp) (vs0 : List V) (Ex : L2.St → XK) (t : TA) : TE := fun τ H Q => t τ H fun xs H1 => ∀ p q, H1 p = none → H1 q = none → q ≠ p →
  pr (.ref p :: (xs ++ vs0)) (upd (upd H1 q (.own p)) p (.ins D q [])) (fun v H2 => v = .non ∧ Q (.ref p) H2) (Ex τ)
theorem pe_makeS {CX : CXT} {n : Nat} {g D : Addr} {gd : FuncData} {qs : List Str} {pr : Sp} {Ex : L2.St → XK} {us0 : List Value} {vs0 : List V} {x : Str} {p pos : Pos} {e : Expr} {es : List Expr} {t : TA}
    (MK : Mk X.K D g) (OK : FnOk X.prog X.w X.K X.mg X.base CX n g gd qs pr) (room : Room (n + 1) X.A) (gl : Gl X x) (at_ : X.mg x = some (.ref D)) (bd : Binds X.K gd qs us0) (dv : Vals vs0 us0) (out : ∀ τ, PassesAt CX X τ (Ex τ)) (args : PA X (e :: es) t)
    (plain : (x == ("__debug__" : Str)) = false := by decide) (first : starEach (e :: es) X.env = (false, eval e X.env) :: starEach es X.env := by rfl) (noStar : (backTo pos (starEach es X.env)).any (·.1) = false := by rfl) :
    PE X (.Call (.Name x p) (e :: es) [] pos) (tMakeS D pr vs0 Ex t) :=
  ⟨fun pn s τ H Q J h => wpAny_Call_Name_kw (ld_glob J gl at_ (PySem.W.callWith_K (h₀ := X.base) J.ok.mod.kin MK.kp (thn (args.run pos pn s τ H _ J h) fun _ _ ⟨_, _, J1, rel, go⟩ => ⟨J1.kIn, made_at MK OK room bd dv (out τ) J1 rel go⟩) first noStar) plain)⟩
/-- isinstance(e, c) in a suite, e the error that it holds (of an own class at D, without a dict of its own) -/
def rIsX (K : PySem.W.Frag) (a : Addr) (cls : Value) (d : Option Addr) : List V → Hp → VK → Prop := fun xs H Q => ∃ D : Addr, ExcC K D ∧ cls = .ref D ∧ d = none ∧ rIsE K D a xs H Q
theorem call_isX {K : PySem.W.Frag} {a : Addr} {cls : Value} {d : Option Addr} {oe : Obj} {pn : List (Addr × Obj)} (hz : Zc cls d oe) (hf : ∃ vs, oe.data = .fields vs) (hK : X.K = K := by rfl) :
    CallR (X.suite a ((a, oe) :: pn)) (.builtin "isinstance") (rIsX K a cls d) := by
  intro pins s σ H xs us Q I r h
  subst hK
  obtain ⟨D, ec, rfl, rfl, h⟩ := h
  exact call_isE ec hz hf pins s σ H xs us Q I r h
end
theorem lk_one {k : Str} {v : V} {r : List (Str × V)} : List.lookup k ((k, v) :: r) = some v := by
  simp [List.lookup]
theorem lk_two {k g : Str} {v : V} {r : List (Str × V)} (h : (k == g) = false) : List.lookup k ((g, v) :: r) = List.lookup k r := by
  simp only [List.lookup, h]

/-! ### super().__init__(e, ..) as a method's first statement -/
theorem inst_of' {X : Cx} {pins : List (Addr × Obj)} {σ : L2.St} {H : Hp} {s : Shared} {a C dx : Addr} {fs : List (Str × V)} (I : Inv X pins σ H s) (e : H a = some (.ins C dx fs)) :
    s.heap.get? a = some (PySem.W.instObj C dx) ∧ ∃ od, PySem.W.InstAt s.heap a (PySem.W.instObj C dx) C (some od) := by
  obtain ⟨mA, O, _⟩ := ins_get I.hok e
  obtain ⟨od, J, _⟩ := O.look
  exact ⟨O.obj, od, J⟩
/-- what the top has written of a class D above which super() looks, for an instance of the class C: the function g at the name -/
structure SupC (K : PySem.W.Frag) (mg : Str → Option Value) (C D cc cda g : Addr) (file : Str) : Prop where
  isD : ∃ cd, PySem.W.clsIn K D = some cd
  sub : PySem.W.mroIn K C (.ref D) = some true
  cell : ∃ cl cld csl, K.lookup cc = some ⟨cl, cld, .cell (some (.ref D)), csl⟩
  code : ∃ ccl cdd vs ccs tf, K.lookup cda = some ⟨ccl, cdd, .fields vs, ccs⟩ ∧ vs[2]? = some (.str file tf)
  sup : PySem.W.ks_superIn K C D "__init__" = some (some (.ref g))
  tg : PySem.W.typeIn K (.ref g) = some (.type "function")
  fg : PySem.W.fnIn K g = true
  opq : PySem.W.nsIn K cStatics "thirdparty.any" = some none
  nosup : mg "super" = none
section
variable {CX : CXT} {P : Program} {w : World} {K : PySem.W.Frag} {mg : Str → Option Value} {base : Heap} {k j : Nat} {f g cc cda C D : Addr} {name qual : Str} {params : Arguments} {scope : Scope} {dV kV doc pm ct oc : Value} {an od : Option Addr}
  {osl : Array (Option Value)} {N ps qs : List Str} {sp si : Sp} {gd : FuncData} {e : Expr} {es : List Expr} {rest : List Stmt} {p0 p1 p2 p3 p4 : Pos} {ar : Arg} {pl : Sem Bool}
abbrev supSt (p0 p1 p2 p3 p4 : Pos) (es : List Expr) : Stmt := .Expr (.Call (.Attribute (.Call (.Name "super" p0) [] [] p1) "__init__" p2) es [] p3) p4
theorem fn_super {file : Str} (lk : K.lookup f = some ⟨oc, od, .func (PySem.W.ksFn name qual params (supSt p0 p1 p2 p3 p4 (e :: es) :: rest) scope dV kV doc pm an (.ref cda) ct cc), osl⟩) (hcd : PySem.W.codeIn K (.ref cda) qual = true) (S : NScope N ps ["__class__"] scope)
    (SC : SupC K mg C D cc cda g file) (hfile : ((P.main.file : Str) == file) = true) (htop : (P.main.scope.names.lookup ("super" : Str)).isSome = false) (hpar : (params.posonlyargs ++ params.args).head? = some ar) (hN : N[0]? = some ar.arg) (hka : scope.names.lookup ar.arg = some .local)
    (hks : scope.names.lookup ("super" : Str) = some .globalImplicit) (hkc : scope.names.lookup ("__class__" : Str) = some .free)
    (len : ∀ vs H Q E, sp vs H Q E → vs.length = ps.length) (G : FnOk P w K mg base CX j g gd qs si) (bd : Binds K gd qs []) (hj : j ≤ k)
    (hi : ∀ L, interactive (PySem.W.ksEnv qual scope L f (.ref cda) cc) = false)
    (hsw : ∀ L, swapsWith (.Call (.Attribute (.Call (.Name "super" p0) [] [] p1) "__init__" p2) (e :: es) [] p3) none p4.line (PySem.W.ksEnv qual scope L f (.ref cda) cc) = pure false)
    (hev : ∀ L, eval (.Call (.Attribute (.Call (.Name "super" p0) [] [] p1) "__init__" p2) (e :: es) [] p3) (PySem.W.ksEnv qual scope L f (.ref cda) cc) = (do
      let ov ← attributeBase (.Call (.Name "super" p0) [] [] p1) "__init__" (PySem.W.ksEnv qual scope L f (.ref cda) cc) (eval (.Call (.Name "super" p0) [] [] p1) (PySem.W.ksEnv qual scope L f (.ref cda) cc))
      standAt p2.atName
      let (f', first) ← holding [ov] (getMethod ov "__init__" pl)
      callWith p3 f' first (backTo p3 (starEach (e :: es) (PySem.W.ksEnv qual scope L f (.ref cda) cc))) []))
    (hst : ∀ L, starEach (e :: es) (PySem.W.ksEnv qual scope L f (.ref cda) cc) = (false, eval e (PySem.W.ksEnv qual scope L f (.ref cda) cc)) :: starEach es (PySem.W.ksEnv qual scope L f (.ref cda) cc))
    (hpl : ∀ L, (backTo p3 (starEach es (PySem.W.ksEnv qual scope L f (.ref cda) cc))).any (·.1) = false)
    (hbody : ∀ (A : Around) (outer : List Env) (s : Shared) (H : Hp) (vs : List V) (Q : VK) (E : XK), Room k (A.deeper (PySem.W.ksEnv qual scope s.heap.objs.size f (.ref cda) cc)) → sp vs H Q E →
      ∃ (ta : TA) (tr : TS) (a dx : Addr) (fs : List (Str × V)) (us0 : List V) (Ei : XK),
        PA (ncx CX P w K mg base N ⟨name, qual, params, supSt p0 p1 p2 p3 p4 (e :: es) :: rest, scope, [("__class__", cc)], cda⟩ f A outer s H E) (e :: es) ta ∧
        PSs (ncx CX P w K mg base N ⟨name, qual, params, supSt p0 p1 p2 p3 p4 (e :: es) :: rest, scope, [("__class__", cc)], cda⟩ f A outer s H E) rest tr ∧
        Passes CX (ncx CX P w K mg base N ⟨name, qual, params, supSt p0 p1 p2 p3 p4 (e :: es) :: rest, scope, [("__class__", cc)], cda⟩ f A outer s H E) Ei ∧ vs = .ref a :: us0 ∧ H a = some (.ins C dx fs) ∧
        ta (startF N vs [none]) H (fun ws H1 => si (.ref a :: ws) H1 (fun _ H2 => tr { nx := fun _ H' => Q .non H', rt := Q } (startF N vs [none]) H2) Ei)) :
    FnOk P w K mg base CX (k + 1) f (PySem.W.ksFn name qual params (supSt p0 p1 p2 p3 p4 (e :: es) :: rest) scope dV kV doc pm an (.ref cda) ct cc) ps sp := by
  refine ⟨len, fun A outer s H args us vs Q E hr e0 hb r asked => ?_⟩
  have hl := len _ _ _ _ asked
  have kb : ∀ b o, base.get? b = some o → s.heap.get? b = some o := fun b o z => (e0.bs b o z).1
  have KX : K.In s.heap := e0.mod.kin.keeps kb
  have lim : s.heap.NoLimit := e0.mod.nolimit.keeps kb
  obtain ⟨cl, cld, csl, hcell⟩ := SC.cell
  obtain ⟨ccl, cdd, fv, ccs, tf, hcode, hfv⟩ := SC.code
  obtain ⟨cdD, hD⟩ := SC.isD
  have C0 : CellsAt [("__class__", cc)] ["__class__"] [none] s.heap H := by
    refine ⟨rfl, fun y c z => ?_, fun y z c h1 h2 => ?_, fun i y z => ?_⟩
    · have hc : c = cc := by
        simp only [List.lookup] at z
        split at z
        · exact (Option.some.inj z).symm
        · cases z
      subst hc
      exact ⟨(e0.bs _ _ (e0.mod.kin _ _ hcell)).2, _, _, KX _ _ hcell, rfl⟩
    · have one : ∀ {t : Str}, [(("__class__" : Str), cc)].lookup t = some c → t = "__class__" := fun {t} h => by
        simp only [List.lookup] at h
        split at h
        · exact beq_iff_eq.mp (by assumption)
        · cases h
      rw [one h1, one h2]
    · have hy : y = "__class__" := by
        cases i with
        | zero => simpa using z.symm
        | succ n => simp at z
      subst hy
      exact ⟨cc, rfl, fun v h => by cases i <;> simp at h⟩
  refine ks_codeAny_call_defAt (fd := PySem.W.ksFn name qual params (supSt p0 p1 p2 p3 p4 (e :: es) :: rest) scope dV kV doc pm an (.ref cda) ct cc) (body := supSt p0 p1 p2 p3 p4 (e :: es) :: rest) (binds := ps.zip us) hr.depth (KX _ _ lk) rfl lim (PySem.W.codeRec_of KX hcd) rfl hb S.nocell (fun ⟨n, _⟩ hy => S.par n (List.of_mem_zip hy).1) (fun h₁ hns kp => ?_) S.co S.gen S.kind
  obtain ⟨ta, tr, a, dx, fs, us0, Ei, hpa, hps, hpass, ev, ha, hq⟩ := hbody A outer s H vs Q E (hr.deeper _) asked
  subst ev
  have I : Inv (ncx CX P w K mg base N ⟨name, qual, params, supSt p0 p1 p2 p3 p4 (e :: es) :: rest, scope, [("__class__", cc)], cda⟩ f A outer s H E) [] (startF N (.ref a :: us0) [none]) H { s with heap := h₁, toks := s.toks + (ps.zip us).length } := inv_startN (F := ⟨name, qual, params, supSt p0 p1 p2 p3 p4 (e :: es) :: rest, scope, [("__class__", cc)], cda⟩) S hr.hd e0 hl r C0 hns kp
  generalize hX : ncx CX P w K mg base N ⟨name, qual, params, supSt p0 p1 p2 p3 p4 (e :: es) :: rest, scope, [("__class__", cc)], cda⟩ f A outer s H E = X at I hpa hps hpass
  have hXr := hX
  subst hX
  have rm := hr.deeper (PySem.W.ksEnv qual scope s.heap.objs.size f (.ref cda) cc)
  show PySem.wpAt (model P w) (A.deeper (PySem.W.ksEnv qual scope s.heap.objs.size f (.ref cda) cc)) (.func (supSt p0 p1 p2 p3 p4 (e :: es) :: rest) (PySem.W.ksEnv qual scope s.heap.objs.size f (.ref cda) cc)) (execs (supSt p0 p1 p2 p3 p4 (e :: es) :: rest) (PySem.W.ksEnv qual scope s.heap.objs.size f (.ref cda) cc)) _ _ _
  refine ks_wpAt_execs_cons (ks_wpAt_Expr_any (ks_wpAt_MethodCall (pl := pl) ?_ (hev _)) (hi _) (hsw _))
  have KI := I.kIn
  refine ks_wpAt_super_base (env := PySem.W.ksEnv qual scope s.heap.objs.size f (.ref cda) cc) hks hkc (by decide) rfl (KI _ _ lk) rfl hpar rfl (KI _ _ hcode) rfl hfv hfile htop ?_
  obtain ⟨mb, hb1, hb2⟩ := I.mod.blt
  refine PySem.W.ks_loadName_global S.kind hks (Calls.loadGlobal_builtin (env := PySem.W.ksEnv qual scope s.heap.objs.size f (.ref cda) cc) (I.mod.glob.keeps I.bk) SC.nosup (hb1.keeps I.bk) ((hb2 "super" (by decide)).trans (by rfl)) ⟨rfl, ?_⟩)
  refine wpAny_loadName_free S.kind hkc rfl ⟨_, KI _ _ hcell, rfl⟩ ?_
  obtain ⟨m, hn, hl'⟩ := I.loc
  obtain ⟨u, ru, lku⟩ := hl' 0 ar.arg (.ref a) hN rfl (.inl hka)
  cases (show u = Value.ref a from ru)
  have hmu : m ar.arg = some (.ref a) := by
    rcases lku with ⟨_, z⟩ | ⟨z, _⟩
    · exact z
    · have hk' : scope.names.lookup ar.arg = some .cell ∨ scope.names.lookup ar.arg = some .free := z
      rw [hka] at hk'
      rcases hk' with z | z <;> cases z
  refine wpAny_loadName_local S.kind hka hn hmu ?_
  obtain ⟨oD, hD1, hD2⟩ : ∃ oD, h₁.get? D = some oD ∧ oD.data = .cls cdD := by
    unfold PySem.W.clsIn at hD
    split at hD
    · rename_i c d cd' sl ho
      cases hD
      exact ⟨_, KI _ _ ho, rfl⟩
    · cases hD
  refine ks_wpAny_isType_cls hD1 hD2 (And.intro rfl ?_)
  obtain ⟨hoa, oda, J⟩ := inst_of' I ha
  refine ks_wpAny_call_super hD1 hD2 J.at_ J.cls (fun c z => ?_) (PySem.W.looks_mroIn KI SC.sub) (fun h2 e2 k2 => ?_)
  · have := J.no
    unfold PySem.W.notCls at this
    rw [z] at this
    exact Bool.noConfusion this
  have I2 := I.kept (h' := h2) (t' := s.toks + (ps.zip us).length) k2
  have K2 := I2.kIn
  obtain ⟨hoa2, oda2, J2⟩ := inst_of' I2 ha
  have sup := SC.sup
  unfold PySem.W.ks_superIn at sup
  cases hc : PySem.W.clsIn K C with
  | none => rw [hc] at sup; cases sup
  | some cdC =>
  rw [hc] at sup
  obtain ⟨og, hog, hogc⟩ : ∃ og, h2.get? g = some og ∧ og.cls = .type "function" := by
    have ht' : (K.lookup g).map (·.cls) = some (.type "function") := SC.tg
    cases z : K.lookup g with
    | none =>
      rw [z] at ht'
      cases ht'
    | some og =>
      rw [z] at ht'
      exact ⟨og, K2 _ _ z, Option.some.inj ht'⟩
  refine ks_wpAny_getMethod_super e2 (PySem.W.looks_opaque K2 SC.opq) (l₀ := cdC.mro) (fun A Q E s k q => wpAny_bind ((PySem.W.looks_clsIn K2 hc) A _ E s k (wpAny_pure q))) rfl K2 sup hog hogc (PySem.W.ks_ne K2 J2 hc) (by decide) ?_
  have I3 : Inv (ncx CX P w K mg base N ⟨name, qual, params, supSt p0 p1 p2 p3 p4 (e :: es) :: rest, scope, [("__class__", cc)], cda⟩ f A outer s H E) [(h2.objs.size, PySem.W.methodObj (.ref g) (.ref a))] (startF N (.ref a :: us0) [none]) H ⟨h2.push (PySem.W.methodObj (.ref g) (.ref a)), s.gens, s.drawn, s.toks + (ps.zip us).length + 1, s.os⟩ :=
    pin_new (s := ⟨h2, s.gens, s.drawn, s.toks + (ps.zip us).length, s.os⟩) I2 (fun _ _ z => Heap.get?_push_of_some _ z) (Nat.le_refl _) (Heap.get?_push_size h2 rfl) (fun v z => nomatch z)
  have hbq : base.get? h2.objs.size = none := base_none I2 (Nat.le_refl _)
  have hL : h2.objs.size ≠ s.heap.objs.size := (I3.pin (h2.objs.size, PySem.W.methodObj (.ref g) (.ref a)) (List.mem_append_right _ List.mem_cons_self)).2.2.1
  refine PySem.W.callWith_M (K := K) (h₀ := base) (first := []) e0.mod.kin (news_at hL hbq (pin_at I3)) List.mem_cons_self SC.fg ?_ (hst _) (hpl _)
  refine wpAny_mono (hpa.run p3 _ _ _ H _ I3 hq) (fun ws s4 h4 => ?_) fun _ _ z => z
  obtain ⟨vs4, H4, I4, r4, q4⟩ := h4
  refine ⟨⟨pin_at I4, I4.kIn⟩, ?_⟩
  have lenq : (Value.ref a :: ws).length = qs.length := by
    have z := G.len _ _ _ _ q4
    rw [← z, List.length_cons, List.length_cons, r4.length]
  have bound := bd s4 (Value.ref a :: ws) I4.kIn (by rw [List.append_nil]; exact lenq)
  rw [List.append_nil] at bound
  have rm' : Room k (A.deeper (PySem.W.ksEnv qual scope s.heap.objs.size f (.ref cda) cc)) := hr.deeper _
  refine wpAny_mono (Q := fun u s' => EP (ncx CX P w K mg base N ⟨name, qual, params, supSt p0 p1 p2 p3 p4 (e :: es) :: rest, scope, [("__class__", cc)], cda⟩ f A outer s H E) [(h2.objs.size, PySem.W.methodObj (.ref g) (.ref a))] (startF N (.ref a :: us0) [none]) (fun _ H2 => tr { nx := fun _ H' => Q .non H', rt := Q } (startF N (.ref a :: us0) [none]) H2) u s')
    (wpAny_call (PySem.W.method_call (pin_at I4) (codeAny_mono (G.run _ _ s4 H4 ⟨Value.ref a :: ws, []⟩ (Value.ref a :: ws) (.ref a :: vs4) _ Ei (rm'.mono hj) I4.env0 bound (.cons rfl r4) q4) fun rr s' back => ?_))) (fun u s5 h5 => ?_) fun _ _ z => z
  · cases rr with
    | error er => exact hpass _ _ _ _ er s' I4 back
    | ok fl =>
      cases fl with
      | ret u => exact I4.after back
      | next => exact back.elim
      | brk => exact back.elim
      | cont => exact back.elim
  · obtain ⟨v5, H5, I5, _, q5⟩ := unpinE h5
    refine PySem.wpAt_of_wpAny ?_
    refine wpAny_mono (hps.run [] _ _ H5 _ I5 q5) (fun fl s' hs => ?_) fun er s' hs => hs
    have last : ∀ {τ : L2.St} {G' : Hp} {x : V} {y : Value}, Inv (ncx CX P w K mg base N ⟨name, qual, params, supSt p0 p1 p2 p3 p4 (e :: es) :: rest, scope, [("__class__", cc)], cda⟩ f A outer s H E) [] τ G' s' → L2.RelV x y → Q x G' → CE outer P w H s Q y s' :=
      fun {_ G' x _} Z rel z => ⟨x, G', Z.os, Z.bare, Z.base, Z.hok, rel, z⟩
    cases fl with
    | next =>
      obtain ⟨_, _, Z, z⟩ := hs
      exact last (x := V.non) (y := Value.none) Z rfl z
    | ret y =>
      obtain ⟨_, _, _, Z, rel, z⟩ := hs
      exact last Z rel z
    | brk => exact hs.elim fun _ ⟨_, _, z⟩ => z.elim
    | cont => exact hs.elim fun _ ⟨_, _, z⟩ => z.elim
end
/-- such a method as the top has written it: cc the cell of its class, cda its code -/
def FunS (K : PySem.W.Frag) (name qual : Str) (st : Stmt) (cc cda f : Addr) (fd : FuncData) : Prop :=
  (∃ (oc : Value) (od : Option Addr) (kV doc pm : Value) (an : Option Addr) (ct : Value) (osl : Array (Option Value)), fd = PySem.W.ksFn name qual (defArgs st) (defBody st) (defScope st) .none kV doc pm an (.ref cda) ct cc ∧
    K.lookup f = some ⟨oc, od, .func fd, osl⟩ ∧ PySem.W.codeIn K (.ref cda) qual = true) ∧ PySem.W.keepIn K (.ref f) = true
theorem FunS.binds {K : PySem.W.Frag} {name qual : Str} {st : Stmt} {cc cda f : Addr} {fd : FuncData} {ps : List Str} (F : FunS K name qual st cc cda f fd)
    (h : ∀ (kV doc pm : Value) (an : Option Addr) (ct : Value) (us : List Value), us.length = ps.length → bindArgs (PySem.W.ksFn name qual (defArgs st) (defBody st) (defScope st) .none kV doc pm an (.ref cda) ct cc) ⟨us, []⟩ = pure (ps.zip us)) : Binds K fd ps [] := by
  obtain ⟨⟨oc, od, kV, doc, pm, an, ct, osl, rfl, _, _⟩, _⟩ := F
  exact .all (h kV doc pm an ct)

/-! ### isinstance of a caught error, with or without fields -/
section
variable {X : Cx}
def rIsY (K : PySem.W.Frag) (a : Addr) (cls : Value) (d : Option Addr) : List V → Hp → VK → Prop := fun xs H Q => ∃ D : Addr, ExcC K D ∧ cls = .ref D ∧ (d = none ∨ ∃ dd fs, d = some dd ∧ H dd = some (.xd fs)) ∧ rIsE K D a xs H Q
theorem call_isY {K : PySem.W.Frag} {a : Addr} {cls : Value} {d : Option Addr} {oe : Obj} {pn : List (Addr × Obj)} (hz : Zc cls d oe) (hf : ∃ vs, oe.data = .fields vs) (hK : X.K = K := by rfl) :
    CallR (X.suite a ((a, oe) :: pn)) (.builtin "isinstance") (rIsY K a cls d) := by
  intro pins s σ H xs us Q I r h
  subst hK
  obtain ⟨D, ec, rfl, hd, h⟩ := h
  rcases hd with rfl | ⟨dd, fs, rfl, hdd⟩
  · exact call_isE ec hz hf pins s σ H xs us Q I r h
  · obtain ⟨c, cv, b, rfl, same, known, q⟩ := h
    obtain ⟨w1, ws, rfl, r1, rs⟩ : ∃ w1 ws, us = w1 :: ws ∧ RelV (.ref a) w1 ∧ Vals [c] ws := by
      cases r with
      | cons p t => exact ⟨_, _, rfl, p, t⟩
    obtain ⟨w2, rfl, r2⟩ : ∃ w2, ws = [w2] ∧ RelV c w2 := by
      cases rs with
      | cons p t =>
        cases t
        exact ⟨_, rfl, p⟩
    cases (show w1 = Value.ref a from r1)
    cases same _ r2
    obtain ⟨there, _⟩ := I.pin (a, oe) (List.mem_append.mpr (.inl List.mem_cons_self))
    obtain ⟨vs, hv⟩ := hf
    obtain ⟨mA, ns, _⟩ := (show ObjOk X.prog X.w H s.heap dd (.xd fs) from I.hok dd _ hdd)
    obtain ⟨od, ho, _⟩ := lookIn_ns ns
    have J : PySem.W.InstAt s.heap a oe D (some od) := ⟨there, hz.1, by unfold PySem.W.notCls; rw [hv] <;> rfl, by rw [hz.2]; exact ho⟩
    have cl : (PySem.W.clsIn X.K D).isSome = true := by
      obtain ⟨cd, hc, _⟩ := PySem.W.any_some ec.hd
      rw [hc]
      rfl
    exact PySem.W.kia_one (PySem.W.kitx_exc cl ec.hg ec.hk ec.hs ec.ha ec.hn ec.ht ec.hm) I.kIn J known (fun z => nomatch z) fun tk => ⟨.bl b, H, I.kept (t' := tk) fun _ _ z => z, rfl, q⟩
end

/-! ### try with several «except C as n» -/
/-- what the clauses wish of an error, one after the other: class, the name's slot, the suite's reading -/
def wAsM (K : PySem.W.Frag) (out : WX) (D : Ends) : List (Value × Nat × (Addr → Value → Option Addr → TS)) → WX
  | [] => out
  | (c, i, t) :: more => fun cls d σ H => ∃ b, PySem.W.exmOne K cls c = some b ∧
      (b = true → ∀ a, H a = none → t a cls d { nx := fun σ' H' => D.nx (σ'.set i none) H', rt := D.rt, bk := fun σ' H' => D.bk (σ'.set i none) H', ct := fun σ' H' => D.ct (σ'.set i none) H' } (σ.set i (some (.ref a))) H) ∧
      (b = false → wAsM K out D more cls d σ H)
inductive ClausesOk (X : Cx) : List ExceptHandler → List (Value × Nat × (Addr → Value → Option Addr → TS)) → Prop
  | nil : ClausesOk X [] []
  | cons {x n : Str} {c : Value} {i : Nat} {t : Addr → Value → Option Addr → TS} {st : Stmt} {sts : List Stmt} {q q' : Pos} {hs : List ExceptHandler} {ls : List (Value × Nat × (Addr → Value → Option Addr → TS))} (known : Names X x c) (slot : X.N[i]? = some n)
      (lo : X.env.kindOf n = some .local) (suite : ∀ (a : Addr) (oe : Obj) (cls : Value) (d : Option Addr) (pn : List (Addr × Obj)), Zc cls d oe → (∃ vs, oe.data = .fields vs) → PSs (X.suite a ((a, oe) :: pn)) (st :: sts) (t a cls d))
      (more : ClausesOk X hs ls) : ClausesOk X (.ExceptHandler (some (.Name x q)) (some n) (st :: sts) q' :: hs) ((c, i, t) :: ls)
  | bare {x : Str} {c : Value} {i : Nat} {t : Addr → Value → Option Addr → TS} {st : Stmt} {sts : List Stmt} {q q' : Pos} {hs : List ExceptHandler} {ls : List (Value × Nat × (Addr → Value → Option Addr → TS))} (known : Names X x c) (off : X.N.length ≤ i)
      (suite : ∀ (a : Addr) (oe : Obj) (cls : Value) (d : Option Addr) (pn : List (Addr × Obj)), Zc cls d oe → (∃ vs, oe.data = .fields vs) → PSs (X.suite a ((a, oe) :: pn)) (st :: sts) (t a cls d))
      (more : ClausesOk X hs ls) : ClausesOk X (.ExceptHandler (some (.Name x q)) none (st :: sts) q' :: hs) ((c, i, t) :: ls)
section
variable {X : Cx} {body : List Stmt} {h1 : ExceptHandler} {hs : List ExceptHandler} {ls : List (Value × Nat × (Addr → Value → Option Addr → TS))} {pos : Pos} {tb : WX → TS} {out : WX}
theorem ps_try_asM (st : X.stack = X.env :: X.outer) (fr : X.env.frame = some X.env.locals) (nd : X.N.Nodup) (tk : Takes X out)
    (runs : ∀ (W : WX) (pn : List (Addr × Obj)) (xe : Value → Shared → Prop), Takes (X.tr pn xe) W → PassesOwn (model X.prog X.w) X.A X.env xe → PSs (X.tr pn xe) body (tb W))
    (cl : ClausesOk X (h1 :: hs) ls) : PS X (.Try body (h1 :: hs) [] [] pos) (fun D σ H => tb (wAsM X.K out D ls) D σ H) := by
  refine ⟨fun pins s σ H D I want => ?_⟩
  have ok := I.ok
  have frames : X.A.frames = some (X.env :: X.outer) := by rw [ok.frames, st]
  refine wpAny_Try_except ?_
  refine wpAny_mono ((runs (wAsM X.K out D ls) (X.pn ++ pins) (fun u t1 => wpAny (model X.prog X.w) X.A (noteFrame u X.env) (fun _ t2 => wpAny (model X.prog X.w) X.A (setFlight u none)
    (fun _ t3 => wpAny (model X.prog X.w) X.A (handleBy u X.env (h1 :: hs)) (SP X pins D) X.xe t3) X.xe t2) X.xe t1) (fun u t0 flown => ?_) PassesOwn.looking).run [] s σ H D (I.toTry _) want) (fun f t0 done => ?_) (fun _ _ y => y)
  · obtain ⟨a, B, sI, pins1, σ1, H1, cls, d, rfl, J0, bare, kept, sky, fresh, osE, agree, wish⟩ := flown
    have J : Inv X pins σ1 H1 sI := J0.ofTry ok
    have sky1 : Sky B (X.env :: X.outer) a (Zc cls d) X.env.locals t0.heap := st ▸ sky
    show wpAny (model X.prog X.w) X.A (noteFrame (.ref a) X.env) _ X.xe t0
    refine Sky.land Zc.steady frames fr sky1 fun g fl up => ?_
    obtain ⟨oe, vs, atE, zE, dataE⟩ := fl.there
    have outF : a ∉ frs (X.env :: X.outer) := fun mem => by
      obtain ⟨_, o, here, no⟩ := fl.2.2.1.mem mem
      cases atE.symm.trans here
      exact no _ dataE
    have nL : a ≠ X.env.locals := fun z => outF (List.mem_filterMap.mpr ⟨X.env, List.mem_cons_self, by rw [fr, z]⟩)
    have nF : a ∉ X.fs := fun mem => outF (by
      obtain ⟨e, m1, m2⟩ := List.mem_filterMap.mp mem
      exact List.mem_filterMap.mpr ⟨e, List.mem_cons_of_mem _ m1, m2⟩)
    have J1 : Inv X pins σ1 H1 { t0 with heap := g } := J.landed bare fl.1 (kept.trans up) osE agree
    have S1 := J1.suite atE dataE fresh nL nF
    have go : ∀ {hh : List ExceptHandler} {ll : List (Value × Nat × (Addr → Value → Option Addr → TS))}, ClausesOk X hh ll → wAsM X.K out D ll cls d σ1 H1 → wpAny (model X.prog X.w) X.A (handleBy (.ref a) X.env hh) (SP X pins D) X.xe { t0 with heap := g } := by
      intro hh ll cc
      induction cc with
      | nil =>
        intro fly
        refine wpAny_handleBy_nil ?_
        obtain ⟨_, _, _, o, ws, T, oT, ts, g1, g2, g3, g4, _⟩ := id fl
        unfold PySem.passOn
        refine wpAny_bind (wpAny_field g1 g3 g4 ?_)
        rw [if_neg (by simp : ¬ ((Value.ref T == Value.none) = true))]
        have on : wpAny (model X.prog X.w) X.A (setFlight (.ref a) X.env.frame) (fun _ t4 => wpAny (model X.prog X.w) X.A (throw (.ref a) : Sem Flow) (SP X pins D) X.xe t4) X.xe { t0 with heap := g } := by
          rw [fr]
          exact HandSPX.setFlight_upZ fl fun g' sky' up' => wpAny_throw (tk _ _ ⟨a, B, sI, pins, σ1, H1, cls, d, rfl, J, bare, (kept.trans up).trans up', .inr (.inr (by rw [st]; exact sky')), fresh, osE, agree, fly⟩)
        first
          | exact wpAny_bind (wpAny_pure (wpAny_bind on))
          | exact wpAny_bind on
      | @cons x n c i t b₀ bs q q' hs' ls' known slot lo suite more ih =>
        intro w1
        obtain ⟨b, asked, yes, no⟩ := w1
        refine wpAny_handleBy_cons (codeAny_handlers_test ?_) (fun z => by cases z)
        have typ : PySem.W.Looks (model X.prog X.w) g (typeOf (.ref a)) cls := fun _ _ _ _ k z => wpAny_typeOf_ref (k _ _ atE) (by rw [zE.1]; exact z)
        have name : ∀ {Q : Value → Shared → Prop} {E : Value → Shared → Prop}, Q c { t0 with heap := g } → wpAny (model X.prog X.w) (X.A.mark (some (.ref a))) (eval (.Name x q) X.env) Q E { t0 with heap := g } := fun {Q E} z => by
          obtain ⟨k1, k2, k3 | ⟨k3, k4, k5⟩⟩ := known
          · exact ld_glob (X := X.suite a ((a, oe) :: (X.pn ++ pins))) S1 k1 k3 z k2
          · exact ld_blt (X := X.suite a ((a, oe) :: (X.pn ++ pins))) S1 k1 k3 k4 z k5 k2
        refine name ((PySem.W.exm_one (M := model X.prog X.w) J1.kIn typ asked).here ?_)
        cases b with
        | false => exact ih (no rfl)
        | true =>
          refine codeAny_handlers_suite_as (HandSPX.lands_againZ fl fun g' fl' up' => ?_)
          obtain ⟨oe', ws, atE', zE', dataE'⟩ := fl'.there
          have J2 : Inv X pins σ1 H1 { t0 with heap := g' } := J.landed bare fl'.1 ((kept.trans up).trans up') osE agree
          have S2 := J2.suite atE' dataE' fresh nL nF
          refine store_ok (X := X.suite a ((a, oe') :: (X.pn ++ pins))) (v := .ref a) S2 nd slot (.inl lo) rfl (fun t5 S5 => ?_) (.inr lo)
          refine wpAny_mono ((suite a oe' cls d (X.pn ++ pins) zE' ⟨_, dataE'⟩).run [] t5 _ H1 _ S5 (yes rfl a fresh)) (fun f t6 done => ?_) (fun _ _ z => z.elim)
          have gone : ∀ {σ6 : L2.St} {H6 : Hp} {Q : Shared → Prop}, Inv (X.suite a ((a, oe') :: (X.pn ++ pins))) [] σ6 H6 t6 → (∀ t7, Inv X pins (σ6.set i none) H6 t7 → Q t7) →
              wpAny (model X.prog X.w) X.A (do bindName X.env n .none; unbindBehindTheSuite X.env n q') (fun _ t7 => Q t7) X.xe t6 := fun S6 z => gone_ok (S6.unsuite ok) nd slot lo z
          cases f with
          | ret u =>
            obtain ⟨v6, σ6, H6, S6, r6, q6⟩ := done
            exact gone S6 fun _ J7 => ⟨_, _, _, J7, r6, q6⟩
          | next =>
            obtain ⟨_, _, S6, q6⟩ := done
            exact gone S6 fun _ J7 => ⟨_, _, J7, q6⟩
          | brk =>
            obtain ⟨_, _, S6, q6⟩ := done
            exact gone S6 fun _ J7 => ⟨_, _, J7, q6⟩
          | cont =>
            obtain ⟨_, _, S6, q6⟩ := done
            exact gone S6 fun _ J7 => ⟨_, _, J7, q6⟩
      | @bare x c i t b₀ bs q q' hs' ls' known off suite more ih =>
        intro w1
        obtain ⟨b, asked, yes, no⟩ := w1
        refine wpAny_handleBy_cons (codeAny_handlers_test ?_) (fun z => by cases z)
        have typ : PySem.W.Looks (model X.prog X.w) g (typeOf (.ref a)) cls := fun _ _ _ _ k z => wpAny_typeOf_ref (k _ _ atE) (by rw [zE.1]; exact z)
        have name : ∀ {Q : Value → Shared → Prop} {E : Value → Shared → Prop}, Q c { t0 with heap := g } → wpAny (model X.prog X.w) (X.A.mark (some (.ref a))) (eval (.Name x q) X.env) Q E { t0 with heap := g } := fun {Q E} z => by
          obtain ⟨k1, k2, k3 | ⟨k3, k4, k5⟩⟩ := known
          · exact ld_glob (X := X.suite a ((a, oe) :: (X.pn ++ pins))) S1 k1 k3 z k2
          · exact ld_blt (X := X.suite a ((a, oe) :: (X.pn ++ pins))) S1 k1 k3 k4 z k5 k2
        refine name ((PySem.W.exm_one (M := model X.prog X.w) J1.kIn typ asked).here ?_)
        cases b with
        | false => exact ih (no rfl)
        | true =>
          refine codeAny_handlers_suite (HandSPX.lands_againZ fl fun g' fl' up' => ?_)
          obtain ⟨oe', ws, atE', zE', dataE'⟩ := fl'.there
          have J2 : Inv X pins σ1 H1 { t0 with heap := g' } := J.landed bare fl'.1 ((kept.trans up).trans up') osE agree
          have S2 := J2.suite atE' dataE' fresh nL nF
          have w2 := yes rfl a fresh
          have l1 : σ1.length = X.N.length := J2.len
          rw [List.set_eq_of_length_le (by omega)] at w2
          refine wpAny_mono ((suite a oe' cls d (X.pn ++ pins) zE' ⟨_, dataE'⟩).run [] _ _ H1 _ S2 w2) (fun f t6 done => ?_) (fun _ _ z => z.elim)
          have off6 : ∀ {σ6 : L2.St} {H6 : Hp}, Inv (X.suite a ((a, oe') :: (X.pn ++ pins))) [] σ6 H6 t6 → σ6.set i none = σ6 := fun {σ6 _} S6 => by
            have l6 : σ6.length = X.N.length := S6.len
            exact List.set_eq_of_length_le (by omega)
          cases f with
          | ret u =>
            obtain ⟨v6, σ6, H6, S6, r6, q6⟩ := done
            exact ⟨_, _, _, S6.unsuite ok, r6, q6⟩
          | next =>
            obtain ⟨σ6, H6, S6, q6⟩ := done
            have q6 : D.nx (σ6.set i none) H6 := q6
            rw [off6 S6] at q6
            exact ⟨_, _, S6.unsuite ok, q6⟩
          | brk =>
            obtain ⟨σ6, H6, S6, q6⟩ := done
            have q6 : D.bk (σ6.set i none) H6 := q6
            rw [off6 S6] at q6
            exact ⟨_, _, S6.unsuite ok, q6⟩
          | cont =>
            obtain ⟨σ6, H6, S6, q6⟩ := done
            have q6 : D.ct (σ6.set i none) H6 := q6
            rw [off6 S6] at q6
            exact ⟨_, _, S6.unsuite ok, q6⟩
    exact go cl wish
  · cases f with
    | ret u =>
      obtain ⟨v, _, _, J1, r1, q1⟩ := done
      exact ⟨v, _, _, J1.ofTry ok, r1, q1⟩
    | next =>
      obtain ⟨_, _, J1, q1⟩ := done
      exact wpAny_execs_nil ⟨_, _, J1.ofTry ok, q1⟩
    | brk =>
      obtain ⟨_, _, J1, q1⟩ := done
      exact ⟨_, _, J1.ofTry ok, q1⟩
    | cont =>
      obtain ⟨_, _, J1, q1⟩ := done
      exact ⟨_, _, J1.ofTry ok, q1⟩
end

/-! ### errors of two fields -/
/-- the heap behind C(x, y), where __init__ stores both -/
def errH (H : Hp) (a C dx : Addr) (f g : Str) (x y : V) : Hp := upd (upd (upd H dx (exd dx [(f, x)])) a (exo a C (some dx))) dx (exd dx [(g, y), (f, x)])
theorem raise2 {C : Addr} {f g : Str} {x y : V} {H : Hp} {Q : XK} (hq : ∀ d, H d = none → Q (.ref C) (some d) (upd H d (.xd [(g, y), (f, x)]))) {a dx : Addr} (na : H a = none) (nd : upd H a (exo a C none) dx = none) (ne : dx ≠ a) :
    V.non = .non ∧ ∃ (d : Addr) (fs : List (Str × V)), errH (upd H a (exo a C none)) a C dx f g x y a = some (exo a C (some d)) ∧ errH (upd H a (exo a C none)) a C dx f g x y d = some (exd d fs) ∧ H d = none ∧
      Q (.ref C) (some d) (upd (del (errH (upd H a (exo a C none)) a C dx f g x y) a) d (.xd fs)) := by
  rw [upd_ne ne] at nd
  refine ⟨rfl, dx, _, ?_, upd_same, nd, ?_⟩
  · unfold errH
    rw [upd_ne (Ne.symm ne), upd_same]
  · have e : upd (del (errH (upd H a (exo a C none)) a C dx f g x y) a) dx (.xd [(g, y), (f, x)]) = upd H dx (.xd [(g, y), (f, x)]) := by
      funext b
      by_cases h1 : b = dx
      · rw [h1, upd_same, upd_same]
      · rw [upd_ne h1, upd_ne h1]
        by_cases h2 : b = a
        · rw [h2, del_same, na]
        · rw [del_ne h2]
          unfold errH
          rw [upd_ne h1, upd_ne h2, upd_ne h1, upd_ne h2]
    rw [e]
    exact hq dx nd
/-- the first weight below 1, from place i on -/
def badAt : List Int → Nat → Option Nat
  | [], _ => none
  | n :: r, i => if n < 1 then some i else badAt r (i + 1)

/-- the fields of a Weighted -/
def fW (m aside : Int) (t : Addr) : List (Str × V) := putF "aside" (.int aside) (putF "weights" (.ref t) (putF "many" (.int m) []))
/-- nothing but the object at p is another -/
def SameX (p : Addr) (H H' : Hp) : Prop := ∀ b o, b ≠ p → H b = some o → H' b = some o
theorem SameX.trans {p : Addr} {H H' H2 : Hp} (h : SameX p H H') (k : SameX p H' H2) : SameX p H H2 := fun b o n z => k b o n (h b o n z)
theorem SameX.new {p : Addr} {H : Hp} {a : Addr} {o : HO} (n : H a = none) : SameX p H (upd H a o) := fun b u _ z => (upd_ne (ne_of_none z n)).trans z
theorem SameX.put {p : Addr} {H : Hp} {o : HO} : SameX p H (upd H p o) := fun b u n z => (upd_ne n).trans z

/-- the first number below b, from place i on -/
def lowAt (b : Int) : List Int → Nat → Option Nat
  | [], _ => none
  | n :: r, i => if n < b then some i else lowAt b r (i + 1)
theorem low_bad : ∀ (ns : List Int) (i : Nat), lowAt 1 ns i = badAt ns i
  | [], _ => rfl
  | n :: r, i => by
    unfold lowAt badAt
    rw [low_bad r (i + 1)]

theorem same_sx {p : Addr} {H H' : Hp} (h : Same H H') : SameX p H H' := fun b o _ z => h b o z
theorem dp_ints {K : PySem.W.Frag} {H : Hp} {a : Addr} {ns : List Int} (h : SqL K H a (ns.map V.int)) : Dp K H (.ref a) (.list (ns.map PyData.int)) := by
  refine .lst h ?_
  clear h
  induction ns with
  | nil => exact .nil
  | cons n r ih => exact .cons (.int n) ih
theorem depthAll_ints : ∀ ns : List Int, PyData.depthAll (ns.map PyData.int) = 0
  | [] => rfl
  | n :: r => by
    show max (PyData.depth (.int n)) (PyData.depthAll (r.map PyData.int)) = 0
    rw [depthAll_ints r]
    rfl
theorem depth_ints (ns : List Int) : PyData.depth (.list (ns.map PyData.int)) = 1 := by
  show PyData.depthAll (ns.map PyData.int) + 1 = 1
  rw [depthAll_ints]
theorem lay_ints : ∀ ns : List Int, PyData.canLayAll0 (ns.map PyData.int) = true
  | [] => rfl
  | _ :: r => (Bool.true_and _).trans (lay_ints r)
/-- what is due for these weights and this number -/
inductive Due | many (m : Nat) | num (k : Nat) | aside | made
def dueW (ns : List Int) (aside : Int) : Due := if ns.length > 24 then .many ns.length else match badAt ns 0 with
  | some k => .num k
  | none => if aside < 1 then .aside else .made
def Due.due : Due → List V
  | .many m => [.str "many", .int m, .int 24]
  | .num k => [.str "number", .str "weights", .int k]
  | .aside => [.str "number", .str "aside", .non]
  | .made => [.str "made", .int 0, .int 0]
def Due.told : Due → List V
  | .many m => [.str "many", .int m, .int 24, .bl false]
  | .num k => [.str "number", .str "weights", .int k, .bl false]
  | .aside => [.str "number", .str "aside", .non, .bl false]
  | .made => []
theorem due_many {ns : List Int} {a : Int} (h : ns.length > 24) : dueW ns a = .many ns.length := if_pos h
theorem due_num {ns : List Int} {a : Int} {k : Nat} (h : ¬ ns.length > 24) (hb : badAt ns 0 = some k) : dueW ns a = .num k := by
  unfold dueW
  rw [if_neg h, hb]
theorem due_aside {ns : List Int} {a : Int} (h : ¬ ns.length > 24) (hb : badAt ns 0 = none) (ha : a < 1) : dueW ns a = .aside := by
  unfold dueW
  rw [if_neg h, hb]
  exact if_pos ha
theorem due_made {ns : List Int} {a : Int} (h : ¬ ns.length > 24) (hb : badAt ns 0 = none) (ha : ¬ a < 1) : dueW ns a = .made := by
  unfold dueW
  rw [if_neg h, hb]
  exact if_neg ha
theorem sameX_made {C x dx : Addr} {H H' : Hp} (nx : H x = none) (nd : H dx = none) (k : SameX x (upd (upd H dx (.own x)) x (.ins C dx [])) H') : Same H H' := fun b o e => by
  have h1 : b ≠ x := ne_of_none e nx
  have h2 : b ≠ dx := ne_of_none e nd
  exact k b o h1 (by rw [upd_ne h1, upd_ne h2]; exact e)
theorem fW_weights (m a : Int) (t : Addr) : (fW m a t).lookup ("weights" : Str) = some (V.ref t) := by rfl
theorem fW_aside (m a : Int) (t : Addr) : (fW m a t).lookup ("aside" : Str) = some (V.int a) := by rfl

/-! ### a Ratio in the heap -/
def rF (T B : Int) : List (Str × V) := [("top", .int T), ("bottom", .int B)]
def RatAt (C : Addr) (H : Hp) (p : Addr) (T B : Int) : Prop := ∃ dx, H p = some (.ins C dx (rF T B))
theorem rF_top (T B : Int) : (rF T B).lookup ("top" : Str) = some (.int T) := lk_one
theorem rF_bot (T B : Int) : (rF T B).lookup ("bottom" : Str) = some (.int B) := (lk_two (by decide +kernel)).trans lk_one
theorem rF_new (T B : Int) : putF "bottom" (.int B) (putF "top" (.int T) []) = rF T B := by
  show (if ("top" : Str) = "bottom" then _ else _) = _
  rw [if_neg (by decide +kernel)]
  rfl
theorem RatAt.same {C : Addr} {H H' : Hp} {p : Addr} {T B : Int} (s : Same H H') (h : RatAt C H p T B) : RatAt C H' p T B := by
  obtain ⟨dx, h⟩ := h
  exact ⟨dx, s _ _ h⟩
/-- not too long to divide by -/
def Sm (b : Int) : Prop := ∃ n, 0 < n ∧ n ≤ 8000 ∧ b.natAbs < 2 ^ n
theorem sm_of {b : Int} {n : Nat} (h : b.natAbs < 2 ^ n) (h0 : 0 < n := by decide) (hn : n ≤ 8000 := by decide) : Sm b := ⟨n, h0, hn, h⟩
theorem Sm.le {a b : Int} (h : Sm b) (hl : a.natAbs ≤ b.natAbs) : Sm a := by
  obtain ⟨n, h0, h1, h2⟩ := h
  exact ⟨n, h0, h1, Nat.lt_of_le_of_lt hl h2⟩
theorem Sm.log {a : Int} (h : Sm a) : a.natAbs.log2 < 8000 := by
  obtain ⟨n, h0, h1, h2⟩ := h
  exact Nat.lt_of_lt_of_le (PySem.Flt.log2_lt_of h0 h2) h1
theorem Sm.mul {a b : Int} (h : Sm a) (h' : Sm b) : CMulW a b := by
  have x := h.log
  have y := h'.log
  unfold CMulW
  omega
theorem rd_div {t b : Int} (h : b ≠ 0) (hs : Sm b) (i : Int) : CDivWN i (rd t b) := by
  refine ⟨rd_ne h, ?_⟩
  have h1 : (rd t b).natAbs ≤ b.natAbs := by
    rw [rd_abs]
    exact Nat.gcd_le_right _ (Int.natAbs_pos.mpr h)
  exact Nat.lt_of_lt_of_le (hs.le h1).log (by decide)

/-! ### numbers: a Ratio or an int -/
def NumAt (C : Addr) (H : Hp) (y : V) (T B : Int) : Prop := (∃ q, y = .ref q ∧ RatAt C H q T B) ∨ (y = .int T ∧ B = 1)
theorem RatAt.num {C : Addr} {H : Hp} {p : Addr} {T B : Int} (h : RatAt C H p T B) : NumAt C H (.ref p) T B := .inl ⟨p, rfl, h⟩
theorem NumAt.same {C : Addr} {H H' : Hp} {y : V} {T B : Int} (s : Same H H') (h : NumAt C H y T B) : NumAt C H' y T B := by
  rcases h with ⟨q, e, r⟩ | h
  · exact .inl ⟨q, e, r.same s⟩
  · exact .inr h
/-- what the operator rules ask of the second operand -/
theorem NumAt.arg {C : Addr} {H : Hp} {y : V} {T B : Int} (h : NumAt C H y T B) : (∃ b dy gs, y = .ref b ∧ H b = some (.ins C dy gs)) ∨ ∃ n, y = .int n := by
  rcases h with ⟨q, rfl, dx, e⟩ | ⟨rfl, _⟩
  · exact .inl ⟨q, dx, _, rfl, e⟩
  · exact .inr ⟨T, rfl⟩
theorem RatAt.self {C : Addr} {H : Hp} {p : Addr} {T B : Int} (h : RatAt C H p T B) : ∃ a dx fs, (V.ref p : V) = .ref a ∧ H a = some (.ins C dx fs) := by
  obtain ⟨dx, e⟩ := h
  exact ⟨p, dx, _, rfl, e⟩
theorem low_any {t b T B : Int} (hb : b ≠ 0) (pos : 0 < B) (cop : Nat.gcd T.natAbs B.natAbs = 1) (eq : T * b = t * B) : LowT t b T B := by
  have n : T.natAbs * b.natAbs = t.natAbs * B.natAbs := by
    rw [← Int.natAbs_mul, ← Int.natAbs_mul, eq]
  have d1 : B.natAbs ∣ b.natAbs := by
    have : B.natAbs ∣ T.natAbs * b.natAbs := n ▸ Nat.dvd_mul_left ..
    exact (Nat.Coprime.symm cop).dvd_of_dvd_mul_left this
  have d2 : T.natAbs ∣ t.natAbs := by
    have : T.natAbs ∣ t.natAbs * B.natAbs := n ▸ Nat.dvd_mul_right ..
    exact Nat.Coprime.dvd_of_dvd_mul_right cop this
  refine ⟨pos, eq, ?_, Nat.le_of_dvd (Int.natAbs_pos.mpr hb) d1, cop⟩
  rcases Nat.eq_zero_or_pos t.natAbs with z | z
  · rw [z, Nat.zero_mul] at n
    rcases Nat.mul_eq_zero.mp n with h | h
    · omega
    · exact absurd h (by have := Int.natAbs_pos.mpr hb; omega)
  · exact Nat.le_of_dvd z d2
theorem low_int (n : Int) : LowT n 1 n 1 := ⟨by decide, rfl, Nat.le_refl _, Nat.le_refl _, by simp⟩
theorem LowT.to {t b t' b' T B : Int} (h : LowT t b T B) (hb : b ≠ 0) (hb' : b' ≠ 0) (e : t * b' = t' * b) : LowT t' b' T B := by
  refine low_any hb' h.pos h.cop ?_
  have q := h.eq
  have : b * (T * b') = b * (t' * B) := by grind
  exact Int.eq_of_mul_eq_mul_left hb this
/-! ### operators of an own class -/
section
variable {prog : Program} {w : World} {A : Around} {E : Value → Shared → Prop} {s : Shared} {K : PySem.W.Frag}
/-- an int's own operator declines an instance -/
theorem declines_bin {id nm : String} {name : Str} {g : Int → Int → Sem Fin} {n : Int} {t : Tok} {a C dx : Addr} {Q : Value → Shared → Prop} (ha : s.heap.get? a = some (PySem.W.instObj C dx)) (slot : Slot "int" name id)
    (entry : entryFor table id = some (Builtin.Int.intBinary nm g)) (args : argsOk id ⟨[.int n t, .ref a], []⟩) (h : Q .notImplemented s) :
    wpAny (model prog w) A (call (.builtin id) [.int n t, .ref a]) Q E s := by
  refine GQ.call_here slot (by first | exact rfl | trivial) entry args ?_
  have e1 : slotArgs nm 1 ⟨[.int n t, .ref a], []⟩ = pure (.int n t, [.ref a]) := rfl
  have e2 : Builtin.Int.intOfSelf (.int n t) = pure n := rfl
  unfold Builtin.Int.intBinary
  rw [e1]
  refine wpAny_bind (wpAny_pure ?_)
  dsimp only
  rw [e2]
  refine wpAny_bind (wpAny_pure ?_)
  refine wpAny_bind ?_
  show wpAny (model prog w) A.in1 (asInt? (.ref a)) _ _ s
  unfold asInt?
  refine wpAny_bind (wpAny_load ha ?_)
  refine wpAny_pure ?_
  refine wpAny_bind (wpAny_rule ?_)
  exact wpAny_pure h
end
section
variable {prog : Program} {w : World} {A : Around} {E : Value → Shared → Prop} {s : Shared} {K : PySem.W.Frag}
/-- n op a: the int's own operator declines, then a's reflected one is asked -/
theorem bin_refl {op : Operator} {id nm : String} {g : Int → Int → Sem Fin} {n : Int} {t : Tok} {a C dx f : Addr} {od : Option Obj} {Q : Value → Shared → Prop} (X : K.In s.heap) (ha : s.heap.get? a = some (PySem.W.instObj C dx)) (J : PySem.W.InstAt s.heap a (PySem.W.instObj C dx) C od)
    (first : PySem.W.selfFirst K C = true) (slot : Slot "int" (dunder op.info.2) id) (entry : entryFor table id = some (Builtin.Int.intBinary nm g)) (args : argsOk id ⟨[.int n t, .ref a], []⟩)
    (fillI : fillsNumberSlot (.type "int") op.info.2 = pure true) {f0 : Addr} (own : PySem.W.findIn K (.ref C) (dunder op.info.2) = some (some (.ref f0))) (sub : PySem.W.subIn K (.ref C) (.type "int") = some false)
    (hr : PySem.W.findIn K (.ref C) (dunderR op.info.2) = some (some (.ref f))) (hf : PySem.W.isFn K (.ref f) = true)
    (h : wpAny (model prog w) A (call (.ref f) [.ref a, .int n t]) (PySem.W.CmpBack Q) E s) : wpAny (model prog w) A (binaryOp op (.int n t) (.ref a)) Q E s := by
  obtain ⟨cd, rest, hcd, hm⟩ := PySem.W.ksp_first first
  have back := PySem.W.ksp_try X J hr hf h
  rcases hi : op.info with ⟨sym, nm'⟩
  rw [hi] at slot fillI own hr back
  dsimp only at slot fillI own hr back
  have f1 : PySem.W.Looks (model prog w) s.heap (fillsNumberSlot (.ref C) nm') true := PySem.W.fills_K X hcd hm own
  have ne : (Value.type "int" == Value.ref C) = false := Bool.eq_false_iff.mpr fun z => by cases beq_iff_eq.mp z
  unfold binaryOp
  refine wpAny_holding ?_
  simp only [hi]
  refine wpAny_bind ?_
  unfold binaryOp1
  refine wpAny_bind (wpAny_typeOf (T := "int") (by exact rfl) (wpAny_bind (J.type.here (wpAny_bind (wpAny_of_eq fillI ?_)))))
  simp only [ne, Bool.false_eq_true, if_false]
  refine wpAny_bind (f1.here ?_)
  simp only [Bool.and_self, if_true]
  refine wpAny_bind ((PySem.W.looks_subIn X sub).here ?_)
  have hpy : numberSlotInPython (.type "int") nm' = pure false := rfl
  simp only [Bool.false_eq_true, if_false, pure_bind, Bool.not_false, Bool.and_self, if_true, hpy]
  refine wpAny_bind (wpAny_tryMethod_declines (T := "int") (by exact rfl) slot (declines_bin ha slot entry args ⟨rfl, ?_⟩))
  dsimp only
  refine wpAny_bind (wpAny_mono back (fun r s' z => ?_) fun _ _ z => z)
  obtain ⟨v, rfl, q⟩ := z
  exact wpAny_bind (wpAny_rule (wpAny_pure (wpAny_pure q)))
end
section
variable {X : Cx} {CX : CXT} {k : Nat} {f C : Addr} {fd : FuncData} {ps : List Str} {sp : Sp} {ds : List Value} {E : XK}
theorem ep_back {pins : List (Addr × Obj)} {σ : L2.St} {Q : VK} {u : Value} {s' : Shared} (h : EP X pins σ Q u s') : PySem.W.CmpBack (EP X pins σ Q) u s' := by
  obtain ⟨v, H', J, r, q⟩ := h
  cases u <;> first
    | exact ⟨v, H', J, r, q⟩
    | (exfalso; cases v <;> first | (obtain ⟨_, z⟩ := r; cases z) | cases r)
/-- x op y by the class's own operator; y an instance of the class, or an int -/
def rOwn (C : Addr) (sp : Sp) (E : XK) : R2 := fun x y H Q => (∃ a dx fs, x = .ref a ∧ H a = some (.ins C dx fs)) ∧ ((∃ b dy gs, y = .ref b ∧ H b = some (.ins C dy gs)) ∨ ∃ n, y = .int n) ∧ sp [x, y] H Q E
/-- n op a by the class's reflected operator -/
def rRef (C : Addr) (sp : Sp) (E : XK) : R2 := fun x y H Q => (∃ n, x = .int n) ∧ (∃ a dx fs, y = .ref a ∧ H a = some (.ins C dx fs)) ∧ sp [y, x] H Q E
theorem inst_of {pins : List (Addr × Obj)} {σ : L2.St} {H : Hp} {s : Shared} {a C dx : Addr} {fs : List (Str × V)} (I : Inv X pins σ H s) (e : H a = some (.ins C dx fs)) :
    s.heap.get? a = some (PySem.W.instObj C dx) ∧ ∃ od, PySem.W.InstAt s.heap a (PySem.W.instObj C dx) C (some od) := by
  obtain ⟨mA, O, _⟩ := ins_get I.hok e
  obtain ⟨od, J, _⟩ := O.look
  exact ⟨O.obj, od, J⟩
theorem op_own {op : Operator} {fo ro rc : Option Value} (M : Meth X.K C (dunder op.info.2) f) (first : PySem.W.selfFirst X.K C = true) (hr : PySem.W.findIn X.K (.ref C) (dunderR op.info.2) = some rc) (hp : rc = none ∨ ∃ g : Addr, rc = some (.ref g))
    (h1 : PySem.W.findIn X.K (.type "int") (dunder op.info.2) = some fo) (h2 : PySem.W.findIn X.K (.type "int") (dunderR op.info.2) = some ro) (hsub : PySem.W.subIn X.K (.type "int") (.ref C) = some false)
    (G : FnOk X.prog X.w X.K X.mg X.base CX k f fd ps sp) (room : Room k X.A) (bd : Binds X.K fd ps []) (out : Passes CX X E) : OpR X (binaryOp op) (rOwn C sp E) := by
  intro pins s σ H x y v u Q I rx ry h
  obtain ⟨⟨a, dx, fs, rfl, ha⟩, hy, h⟩ := h
  cases (show v = Value.ref a from rx)
  obtain ⟨_, od, J⟩ := inst_of I ha
  obtain ⟨m, F⟩ := I.fr
  have ran : wpAny (model X.prog X.w) X.A (call (.ref f) [.ref a, u]) (PySem.W.CmpBack (EP X pins σ Q)) X.xe s :=
    wpAny_mono (run_fn (ds := []) G room bd .nil out I (.cons (show L2.RelV (.ref a) (.ref a) from rfl) (.cons ry .nil)) h) (fun _ _ z => ep_back z) fun _ _ z => z
  rcases hy with ⟨b, dy, gs, rfl, hb⟩ | ⟨n, rfl⟩
  · cases (show u = Value.ref b from ry)
    obtain ⟨_, od', J'⟩ := inst_of I hb
    exact PySem.W.binop_K F I.ok.mod.kin J J'.type first M.at_ M.fn ran
  · obtain ⟨t, rfl⟩ := (show ∃ t, u = Value.int n t from ry)
    exact PySem.W.ksp_binT F I.ok.mod.kin J (T := "int") rfl first M.at_ M.fn hr hp h1 h2 hsub ran
theorem op_ref {op : Operator} {id nm : String} {g : Int → Int → Sem Fin} {f0 : Addr} (M : Meth X.K C (dunderR op.info.2) f) (first : PySem.W.selfFirst X.K C = true) (own : PySem.W.findIn X.K (.ref C) (dunder op.info.2) = some (some (.ref f0)))
    (sub : PySem.W.subIn X.K (.ref C) (.type "int") = some false) (slot : Slot "int" (dunder op.info.2) id) (entry : entryFor table id = some (Builtin.Int.intBinary nm g)) (args : ∀ a b, argsOk id ⟨[a, b], []⟩) (fillI : fillsNumberSlot (.type "int") op.info.2 = pure true)
    (G : FnOk X.prog X.w X.K X.mg X.base CX k f fd ps sp) (room : Room k X.A) (bd : Binds X.K fd ps []) (out : Passes CX X E) : OpR X (binaryOp op) (rRef C sp E) := by
  intro pins s σ H x y v u Q I rx ry h
  obtain ⟨⟨n, rfl⟩, ⟨a, dx, fs, rfl, ha⟩, h⟩ := h
  cases (show u = Value.ref a from ry)
  obtain ⟨t, rfl⟩ := (show ∃ t, v = Value.int n t from rx)
  obtain ⟨ho, od, J⟩ := inst_of I ha
  have ran : wpAny (model X.prog X.w) X.A (call (.ref f) [.ref a, .int n t]) (PySem.W.CmpBack (EP X pins σ Q)) X.xe s :=
    wpAny_mono (run_fn (ds := []) G room bd .nil out I (.cons (show L2.RelV (.ref a) (.ref a) from rfl) (.cons rx .nil)) h) (fun _ _ z => ep_back z) fun _ _ z => z
  exact bin_refl I.kIn ho J first slot entry (args _ _) fillI own sub M.at_ M.fn ran
/-- -a -/
def rNeg (C : Addr) (sp : Sp) (E : XK) : V → Hp → VK → Prop := fun x H Q => (∃ a dx fs, x = .ref a ∧ H a = some (.ins C dx fs)) ∧ sp [x] H Q E
theorem un_own (M : Meth X.K C "__neg__" f) (G : FnOk X.prog X.w X.K X.mg X.base CX k f fd ps sp) (room : Room k X.A) (bd : Binds X.K fd ps []) (out : Passes CX X E) : UnR X (unaryOp .USub) (rNeg C sp E) := by
  intro pins s σ H x v Q I rx h
  obtain ⟨⟨a, dx, fs, rfl, ha⟩, h⟩ := h
  cases (show v = Value.ref a from rx)
  obtain ⟨_, od, J⟩ := inst_of I ha
  obtain ⟨m, F⟩ := I.fr
  exact PySem.W.ksp_neg F I.ok.mod.kin J M.at_ M.fn (run_fn (ds := []) G room bd .nil out I (.cons (show L2.RelV (.ref a) (.ref a) from rfl) .nil) h)
end
section
variable {X : Cx} {CX : CXT} {k : Nat} {f C : Addr} {fd : FuncData} {ps : List Str} {sp : Sp} {ds : List Value} {E : XK}
/-- abs(a) by the class's own -/
def rAbsO (C : Addr) (sp : Sp) (E : XK) : List V → Hp → VK → Prop := fun xs H Q => ∃ a dx fs, xs = [.ref a] ∧ H a = some (.ins C dx fs) ∧ sp [.ref a] H Q E
/-- a def called where the frames are X's, one room further in -/
theorem run_in {B : Around} {pins : List (Addr × Obj)} {σ : L2.St} {H : Hp} {s : Shared} {Q : VK} {us : List Value} {vs : List V} (G : FnOk X.prog X.w X.K X.mg X.base CX k f fd ps sp) (room : Room k B) (fr : B.frames = X.A.frames) (bd : Binds X.K fd ps []) (out : Passes CX X E)
    (I : Inv X pins σ H s) (rel : Vals vs us) (h : sp vs H Q E) : wpAny (model X.prog X.w) B (call (.ref f) us) (EP X pins σ Q) X.xe s := by
  have n : us.length = ps.length := rel.length.symm.trans (G.len _ _ _ _ h)
  have bound := bd s us I.kIn (by rw [List.append_nil]; exact n)
  rw [List.append_nil] at bound
  have env := I.env0
  refine wpAny_call (codeAny_mono (G.run B X.stack s H ⟨us, []⟩ us vs Q E room ⟨fr.trans env.frames, env.mod, env.bs, env.bsz, env.funs, env.frf, env.hok, env.bare⟩ bound rel h) ?_)
  rintro (e | fl) s' back
  · exact out pins σ H s e s' I back
  · cases fl with
    | ret u => exact I.after back
    | next => exact back.elim
    | brk => exact back.elim
    | cont => exact back.elim
theorem call_absO (M : Meth X.K C "__abs__" f) (G : FnOk X.prog X.w X.K X.mg X.base CX k f fd ps sp) (room : Room (k + 1) X.A) (bd : Binds X.K fd ps []) (out : Passes CX X E) : CallR X (.builtin "abs") (rAbsO C sp E) := by
  intro pins s σ H xs us Q I r h
  obtain ⟨a, dx, fs, rfl, ha, h⟩ := h
  obtain ⟨u, rfl, rx⟩ := vals1 r
  cases (show u = Value.ref a from rx)
  obtain ⟨_, od, J⟩ := inst_of I ha
  refine PySem.Calls.call_function_entry PyProof.Rows.kind_abs PyProof.Rows.plain_abs PyProof.Rows.entry_abs (PyProof.Rows.args_abs _) ?_
  unfold Builtin.«abs»
  refine wpAny_bind (m := oneArg "abs" _) (wpAny_pure ?_)
  refine wpAny_bind (PySem.W.special_fn I.kIn J M.at_ (beq_iff_eq.mp M.fn) ?_)
  refine wpAny_mono (run_in (B := X.A.in1) G room.in1 rfl bd out I (.cons (show L2.RelV (.ref a) (.ref a) from rfl) .nil) h) (fun v s' z => ?_) fun _ _ z => z
  exact wpAny_pure ⟨_, rfl, z⟩
end

/-! ### methods and operators that may let an error out, wished for at the slots that stand -/
section
variable {X : Cx} {CX : CXT} {k : Nat} {f C : Addr} {fd : FuncData} {ps : List Str} {sp : Sp} {Ex : L2.St → XK}
def tMethT (C : Addr) (m : Str) (sp : Sp) (Ex : L2.St → XK) (ta : TE) (t : TA) : TE := fun τ H Q => ta τ H fun x H1 => ∃ a dx fs, x = .ref a ∧ H1 a = some (.ins C dx fs) ∧ fs.lookup m = none ∧ t τ H1 fun vs H2 => sp (.ref a :: vs) H2 Q (Ex τ)
theorem pe_methT {pl : Sem Bool} {m : Str} {o e : Expr} {es : List Expr} {apos pos : Pos} {ta : TE} {t : TA} (ho : PE X o ta) (c : Cls X.K C) (M : Meth X.K C m f) (G : FnOk X.prog X.w X.K X.mg X.base CX k f fd ps sp) (room : Room k X.A) (bd : Binds X.K fd ps [])
    (out : ∀ τ, PassesAt CX X τ (Ex τ)) (args : PA X (e :: es) t) (hst : starEach (e :: es) X.env = (false, eval e X.env) :: starEach es X.env := by rfl) (hpl : (backTo pos (starEach es X.env)).any (·.1) = false := by rfl)
    (ht : eval (.Call (.Attribute o m apos) (e :: es) [] pos) X.env = (do
      let w0 ← eval o X.env
      standAt apos.atName
      let (fn, fst) ← holding [w0] (getMethod w0 m pl)
      callWith pos fn fst (backTo pos (starEach (e :: es) X.env)) (backToKw pos (keywordEach [] X.env))) := by rfl) :
    PE X (.Call (.Attribute o m apos) (e :: es) [] pos) (tMethT C m sp Ex ta t) := by
  refine ⟨fun pn st τ H Q J h => PySem.W.methodCall_KW (pl := pl) (thn (ho.run pn st τ H _ J h) ?_) ht⟩
  rintro u s1 ⟨x, H1, J1, rx, a, dx, fs, rfl, ea, l, go⟩
  cases (show u = Value.ref a from rx)
  refine getmeth_ok J1 ea c M l (PySem.W.callWith_K (first := [.ref a]) (h₀ := X.base) J1.ok.mod.kin M.kp (thn (args.run pos pn s1 τ H1 _ J1 go) ?_) hst hpl)
  rintro us s2 ⟨vs, H2, J2, r, go2⟩
  exact ⟨J2.kIn, run_fnS (us := .ref a :: us) (vs := .ref a :: vs) G room bd (out τ) J2 (.cons (show L2.RelV (.ref a) (.ref a) from rfl) r) go2⟩
end

/-- x op y by the class's own operator, in a try's body -/
def tOwnT (C : Addr) (sp : Sp) (Ex : L2.St → XK) (ta tb : TE) : TE := fun τ H Q => ta τ H fun x H1 => tb τ H1 fun y H2 => rOwn C sp (Ex τ) x y H2 Q
section
variable {X : Cx} {CX : CXT} {k : Nat} {f C : Addr} {fd : FuncData} {ps : List Str} {sp : Sp} {Ex : L2.St → XK}
theorem own_at {op : Operator} {fo ro rc : Option Value} (M : Meth X.K C (dunder op.info.2) f) (first : PySem.W.selfFirst X.K C = true) (hr : PySem.W.findIn X.K (.ref C) (dunderR op.info.2) = some rc) (hp : rc = none ∨ ∃ g : Addr, rc = some (.ref g))
    (h1 : PySem.W.findIn X.K (.type "int") (dunder op.info.2) = some fo) (h2 : PySem.W.findIn X.K (.type "int") (dunderR op.info.2) = some ro) (hsub : PySem.W.subIn X.K (.type "int") (.ref C) = some false)
    (G : FnOk X.prog X.w X.K X.mg X.base CX k f fd ps sp) (room : Room k X.A) (bd : Binds X.K fd ps []) {τ : L2.St} (out : PassesAt CX X τ (Ex τ)) {pins : List (Addr × Obj)} {s : Shared} {H : Hp} {x y : V} {v u : Value} {Q : VK}
    (I : Inv X pins τ H s) (rx : RelV x v) (ry : RelV y u) (h : rOwn C sp (Ex τ) x y H Q) : wpAny (model X.prog X.w) X.A (binaryOp op v u) (EP X pins τ Q) X.xe s := by
  obtain ⟨⟨a, dx, fs, rfl, ha⟩, hy, h⟩ := h
  cases (show v = Value.ref a from rx)
  obtain ⟨_, od, J⟩ := inst_of I ha
  obtain ⟨m, F⟩ := I.fr
  have ran : wpAny (model X.prog X.w) X.A (call (.ref f) [.ref a, u]) (PySem.W.CmpBack (EP X pins τ Q)) X.xe s :=
    wpAny_mono (run_fnS G room bd out I (.cons (show L2.RelV (.ref a) (.ref a) from rfl) (.cons ry .nil)) h) (fun _ _ z => ep_back z) fun _ _ z => z
  rcases hy with ⟨b, dy, gs, rfl, hb⟩ | ⟨n, rfl⟩
  · cases (show u = Value.ref b from ry)
    obtain ⟨_, od', J'⟩ := inst_of I hb
    exact PySem.W.binop_K F I.ok.mod.kin J J'.type first M.at_ M.fn ran
  · obtain ⟨t, rfl⟩ := (show ∃ t, u = Value.int n t from ry)
    exact PySem.W.ksp_binT F I.ok.mod.kin J (T := "int") rfl first M.at_ M.fn hr hp h1 h2 hsub ran
end

/-! ### the operators one by one -/
section
variable {X : Cx} {CX : CXT} {k : Nat} {f C : Addr} {fd : FuncData} {ps : List Str} {sp : Sp} {E : XK}
theorem d_add : dunder Operator.Add.info.2 = ("__add__" : Str) := by decide +kernel
theorem dR_add : dunderR Operator.Add.info.2 = ("__radd__" : Str) := by decide +kernel
theorem op_own_Add (M : Meth X.K C "__add__" f) (first : PySem.W.selfFirst X.K C = true) (hr : ∃ rc : Option Value, PySem.W.findIn X.K (.ref C) "__radd__" = some rc ∧ (rc = none ∨ ∃ g : Addr, rc = some (.ref g)))
    (hi : ∃ fo ro : Option Value, PySem.W.findIn X.K (.type "int") "__add__" = some fo ∧ PySem.W.findIn X.K (.type "int") "__radd__" = some ro) (hsub : PySem.W.subIn X.K (.type "int") (.ref C) = some false)
    (G : FnOk X.prog X.w X.K X.mg X.base CX k f fd ps sp) (room : Room k X.A) (bd : Binds X.K fd ps []) (out : Passes CX X E) : OpR X (binaryOp .Add) (rOwn C sp E) := by
  obtain ⟨rc, e1, e2⟩ := hr
  obtain ⟨fo, ro, e3, e4⟩ := hi
  exact op_own (op := .Add) (by rw [d_add]; exact M) first (by rw [dR_add]; exact e1) e2 (by rw [d_add]; exact e3) (by rw [dR_add]; exact e4) hsub G room bd out
theorem d_sub : dunder Operator.Sub.info.2 = ("__sub__" : Str) := by decide +kernel
theorem dR_sub : dunderR Operator.Sub.info.2 = ("__rsub__" : Str) := by decide +kernel
theorem op_own_Sub (M : Meth X.K C "__sub__" f) (first : PySem.W.selfFirst X.K C = true) (hr : ∃ rc : Option Value, PySem.W.findIn X.K (.ref C) "__rsub__" = some rc ∧ (rc = none ∨ ∃ g : Addr, rc = some (.ref g)))
    (hi : ∃ fo ro : Option Value, PySem.W.findIn X.K (.type "int") "__sub__" = some fo ∧ PySem.W.findIn X.K (.type "int") "__rsub__" = some ro) (hsub : PySem.W.subIn X.K (.type "int") (.ref C) = some false)
    (G : FnOk X.prog X.w X.K X.mg X.base CX k f fd ps sp) (room : Room k X.A) (bd : Binds X.K fd ps []) (out : Passes CX X E) : OpR X (binaryOp .Sub) (rOwn C sp E) := by
  obtain ⟨rc, e1, e2⟩ := hr
  obtain ⟨fo, ro, e3, e4⟩ := hi
  exact op_own (op := .Sub) (by rw [d_sub]; exact M) first (by rw [dR_sub]; exact e1) e2 (by rw [d_sub]; exact e3) (by rw [dR_sub]; exact e4) hsub G room bd out
theorem d_mul : dunder Operator.Mult.info.2 = ("__mul__" : Str) := by decide +kernel
theorem dR_mul : dunderR Operator.Mult.info.2 = ("__rmul__" : Str) := by decide +kernel
theorem op_own_Mult (M : Meth X.K C "__mul__" f) (first : PySem.W.selfFirst X.K C = true) (hr : ∃ rc : Option Value, PySem.W.findIn X.K (.ref C) "__rmul__" = some rc ∧ (rc = none ∨ ∃ g : Addr, rc = some (.ref g)))
    (hi : ∃ fo ro : Option Value, PySem.W.findIn X.K (.type "int") "__mul__" = some fo ∧ PySem.W.findIn X.K (.type "int") "__rmul__" = some ro) (hsub : PySem.W.subIn X.K (.type "int") (.ref C) = some false)
    (G : FnOk X.prog X.w X.K X.mg X.base CX k f fd ps sp) (room : Room k X.A) (bd : Binds X.K fd ps []) (out : Passes CX X E) : OpR X (binaryOp .Mult) (rOwn C sp E) := by
  obtain ⟨rc, e1, e2⟩ := hr
  obtain ⟨fo, ro, e3, e4⟩ := hi
  exact op_own (op := .Mult) (by rw [d_mul]; exact M) first (by rw [dR_mul]; exact e1) e2 (by rw [d_mul]; exact e3) (by rw [dR_mul]; exact e4) hsub G room bd out
theorem d_floordiv : dunder Operator.FloorDiv.info.2 = ("__floordiv__" : Str) := by decide +kernel
theorem dR_floordiv : dunderR Operator.FloorDiv.info.2 = ("__rfloordiv__" : Str) := by decide +kernel
theorem op_own_FloorDiv (M : Meth X.K C "__floordiv__" f) (first : PySem.W.selfFirst X.K C = true) (hr : ∃ rc : Option Value, PySem.W.findIn X.K (.ref C) "__rfloordiv__" = some rc ∧ (rc = none ∨ ∃ g : Addr, rc = some (.ref g)))
    (hi : ∃ fo ro : Option Value, PySem.W.findIn X.K (.type "int") "__floordiv__" = some fo ∧ PySem.W.findIn X.K (.type "int") "__rfloordiv__" = some ro) (hsub : PySem.W.subIn X.K (.type "int") (.ref C) = some false)
    (G : FnOk X.prog X.w X.K X.mg X.base CX k f fd ps sp) (room : Room k X.A) (bd : Binds X.K fd ps []) (out : Passes CX X E) : OpR X (binaryOp .FloorDiv) (rOwn C sp E) := by
  obtain ⟨rc, e1, e2⟩ := hr
  obtain ⟨fo, ro, e3, e4⟩ := hi
  exact op_own (op := .FloorDiv) (by rw [d_floordiv]; exact M) first (by rw [dR_floordiv]; exact e1) e2 (by rw [d_floordiv]; exact e3) (by rw [dR_floordiv]; exact e4) hsub G room bd out
theorem d_mod : dunder Operator.Mod.info.2 = ("__mod__" : Str) := by decide +kernel
theorem dR_mod : dunderR Operator.Mod.info.2 = ("__rmod__" : Str) := by decide +kernel
theorem op_own_Mod (M : Meth X.K C "__mod__" f) (first : PySem.W.selfFirst X.K C = true) (hr : ∃ rc : Option Value, PySem.W.findIn X.K (.ref C) "__rmod__" = some rc ∧ (rc = none ∨ ∃ g : Addr, rc = some (.ref g)))
    (hi : ∃ fo ro : Option Value, PySem.W.findIn X.K (.type "int") "__mod__" = some fo ∧ PySem.W.findIn X.K (.type "int") "__rmod__" = some ro) (hsub : PySem.W.subIn X.K (.type "int") (.ref C) = some false)
    (G : FnOk X.prog X.w X.K X.mg X.base CX k f fd ps sp) (room : Room k X.A) (bd : Binds X.K fd ps []) (out : Passes CX X E) : OpR X (binaryOp .Mod) (rOwn C sp E) := by
  obtain ⟨rc, e1, e2⟩ := hr
  obtain ⟨fo, ro, e3, e4⟩ := hi
  exact op_own (op := .Mod) (by rw [d_mod]; exact M) first (by rw [dR_mod]; exact e1) e2 (by rw [d_mod]; exact e3) (by rw [dR_mod]; exact e4) hsub G room bd out
theorem op_ref_Add (M : Meth X.K C "__radd__" f) (first : PySem.W.selfFirst X.K C = true) (own : ∃ f0 : Addr, PySem.W.findIn X.K (.ref C) "__add__" = some (some (.ref f0))) (hsub : PySem.W.subIn X.K (.ref C) (.type "int") = some false)
    (G : FnOk X.prog X.w X.K X.mg X.base CX k f fd ps sp) (room : Room k X.A) (bd : Binds X.K fd ps []) (out : Passes CX X E) : OpR X (binaryOp .Add) (rRef C sp E) := by
  obtain ⟨f0, e1⟩ := own
  exact op_ref (op := .Add) (by rw [dR_add]; exact M) first (by rw [d_add]; exact e1) hsub PySem.F.slot_int_add PySem.F.entry_int_add PySem.F.args_int_add_2 (by kernel_rfl) G room bd out
theorem op_ref_Sub (M : Meth X.K C "__rsub__" f) (first : PySem.W.selfFirst X.K C = true) (own : ∃ f0 : Addr, PySem.W.findIn X.K (.ref C) "__sub__" = some (some (.ref f0))) (hsub : PySem.W.subIn X.K (.ref C) (.type "int") = some false)
    (G : FnOk X.prog X.w X.K X.mg X.base CX k f fd ps sp) (room : Room k X.A) (bd : Binds X.K fd ps []) (out : Passes CX X E) : OpR X (binaryOp .Sub) (rRef C sp E) := by
  obtain ⟨f0, e1⟩ := own
  exact op_ref (op := .Sub) (by rw [dR_sub]; exact M) first (by rw [d_sub]; exact e1) hsub PySem.F.slot_int_sub PySem.F.entry_int_sub PySem.F.args_int_sub_2 (by kernel_rfl) G room bd out
theorem op_ref_Mult (M : Meth X.K C "__rmul__" f) (first : PySem.W.selfFirst X.K C = true) (own : ∃ f0 : Addr, PySem.W.findIn X.K (.ref C) "__mul__" = some (some (.ref f0))) (hsub : PySem.W.subIn X.K (.ref C) (.type "int") = some false)
    (G : FnOk X.prog X.w X.K X.mg X.base CX k f fd ps sp) (room : Room k X.A) (bd : Binds X.K fd ps []) (out : Passes CX X E) : OpR X (binaryOp .Mult) (rRef C sp E) := by
  obtain ⟨f0, e1⟩ := own
  exact op_ref (op := .Mult) (by rw [dR_mul]; exact M) first (by rw [d_mul]; exact e1) hsub PySem.F.slot_int_mul PySem.F.entry_int_mul PySem.F.args_int_mul_2 (by kernel_rfl) G room bd out
end
section
variable {X : Cx} {CX : CXT} {k : Nat} {f C : Addr} {fd : FuncData} {ps : List Str} {sp : Sp} {Ex : L2.St → XK} {a b : Expr} {ta tb : TE} {pos : Pos}
theorem pe_ownT_FloorDiv (M : Meth X.K C "__floordiv__" f) (first : PySem.W.selfFirst X.K C = true) (hr : ∃ rc : Option Value, PySem.W.findIn X.K (.ref C) "__rfloordiv__" = some rc ∧ (rc = none ∨ ∃ g : Addr, rc = some (.ref g)))
    (hi : ∃ fo ro : Option Value, PySem.W.findIn X.K (.type "int") "__floordiv__" = some fo ∧ PySem.W.findIn X.K (.type "int") "__rfloordiv__" = some ro) (hsub : PySem.W.subIn X.K (.type "int") (.ref C) = some false)
    (G : FnOk X.prog X.w X.K X.mg X.base CX k f fd ps sp) (room : Room k X.A) (bd : Binds X.K fd ps []) (out : ∀ τ, PassesAt CX X τ (Ex τ)) (ha : PE X a ta) (hb : PE X b tb) : PE X (.BinOp a .FloorDiv b pos) (tOwnT C sp Ex ta tb) := by
  obtain ⟨rc, e1, e2⟩ := hr
  obtain ⟨fo, ro, e3, e4⟩ := hi
  refine ⟨fun pn st τ H Q J h => wpAny_BinOp (binT ha hb J h fun v u s2 x y H2 J2 rx ry go => ?_)⟩
  exact own_at (op := .FloorDiv) (by rw [d_floordiv]; exact M) first (by rw [dR_floordiv]; exact e1) e2 (by rw [d_floordiv]; exact e3) (by rw [dR_floordiv]; exact e4) hsub G room bd (out τ) J2 rx ry go
theorem pe_ownT_Mod (M : Meth X.K C "__mod__" f) (first : PySem.W.selfFirst X.K C = true) (hr : ∃ rc : Option Value, PySem.W.findIn X.K (.ref C) "__rmod__" = some rc ∧ (rc = none ∨ ∃ g : Addr, rc = some (.ref g)))
    (hi : ∃ fo ro : Option Value, PySem.W.findIn X.K (.type "int") "__mod__" = some fo ∧ PySem.W.findIn X.K (.type "int") "__rmod__" = some ro) (hsub : PySem.W.subIn X.K (.type "int") (.ref C) = some false)
    (G : FnOk X.prog X.w X.K X.mg X.base CX k f fd ps sp) (room : Room k X.A) (bd : Binds X.K fd ps []) (out : ∀ τ, PassesAt CX X τ (Ex τ)) (ha : PE X a ta) (hb : PE X b tb) : PE X (.BinOp a .Mod b pos) (tOwnT C sp Ex ta tb) := by
  obtain ⟨rc, e1, e2⟩ := hr
  obtain ⟨fo, ro, e3, e4⟩ := hi
  refine ⟨fun pn st τ H Q J h => wpAny_BinOp (binT ha hb J h fun v u s2 x y H2 J2 rx ry go => ?_)⟩
  exact own_at (op := .Mod) (by rw [d_mod]; exact M) first (by rw [dR_mod]; exact e1) e2 (by rw [d_mod]; exact e3) (by rw [dR_mod]; exact e4) hsub G room bd (out τ) J2 rx ry go
end

/-! ### x op y where x is an int or an instance, y an instance (or, behind an instance, an int) -/
section
variable {X : Cx} {CX : CXT} {k j : Nat} {f g C : Addr} {fd gd : FuncData} {ps qs : List Str} {sp sq : Sp} {E : XK}
def rAny (C : Addr) (sp sq : Sp) (E : XK) : R2 := fun x y H Q => rOwn C sp E x y H Q ∨ rRef C sq E x y H Q
theorem op_any_Add (M : Meth X.K C "__add__" f) (N : Meth X.K C "__radd__" g) (first : PySem.W.selfFirst X.K C = true) (hi : ∃ fo ro : Option Value, PySem.W.findIn X.K (.type "int") "__add__" = some fo ∧ PySem.W.findIn X.K (.type "int") "__radd__" = some ro)
    (si : PySem.W.subIn X.K (.type "int") (.ref C) = some false) (sr : PySem.W.subIn X.K (.ref C) (.type "int") = some false) (G : FnOk X.prog X.w X.K X.mg X.base CX k f fd ps sp) (G2 : FnOk X.prog X.w X.K X.mg X.base CX j g gd qs sq)
    (room : Room k X.A) (room2 : Room j X.A) (bd : Binds X.K fd ps []) (bd2 : Binds X.K gd qs []) (out : Passes CX X E) : OpR X (binaryOp .Add) (rAny C sp sq E) := by
  intro pins s σ H x y v u Q I rx ry h
  rcases h with h | h
  · exact op_own_Add M first ⟨_, N.at_, .inr ⟨_, rfl⟩⟩ hi si G room bd out pins s σ H x y v u Q I rx ry h
  · exact op_ref_Add N first ⟨_, M.at_⟩ sr G2 room2 bd2 out pins s σ H x y v u Q I rx ry h
theorem op_any_Sub (M : Meth X.K C "__sub__" f) (N : Meth X.K C "__rsub__" g) (first : PySem.W.selfFirst X.K C = true) (hi : ∃ fo ro : Option Value, PySem.W.findIn X.K (.type "int") "__sub__" = some fo ∧ PySem.W.findIn X.K (.type "int") "__rsub__" = some ro)
    (si : PySem.W.subIn X.K (.type "int") (.ref C) = some false) (sr : PySem.W.subIn X.K (.ref C) (.type "int") = some false) (G : FnOk X.prog X.w X.K X.mg X.base CX k f fd ps sp) (G2 : FnOk X.prog X.w X.K X.mg X.base CX j g gd qs sq)
    (room : Room k X.A) (room2 : Room j X.A) (bd : Binds X.K fd ps []) (bd2 : Binds X.K gd qs []) (out : Passes CX X E) : OpR X (binaryOp .Sub) (rAny C sp sq E) := by
  intro pins s σ H x y v u Q I rx ry h
  rcases h with h | h
  · exact op_own_Sub M first ⟨_, N.at_, .inr ⟨_, rfl⟩⟩ hi si G room bd out pins s σ H x y v u Q I rx ry h
  · exact op_ref_Sub N first ⟨_, M.at_⟩ sr G2 room2 bd2 out pins s σ H x y v u Q I rx ry h
theorem op_any_Mult (M : Meth X.K C "__mul__" f) (N : Meth X.K C "__rmul__" g) (first : PySem.W.selfFirst X.K C = true) (hi : ∃ fo ro : Option Value, PySem.W.findIn X.K (.type "int") "__mul__" = some fo ∧ PySem.W.findIn X.K (.type "int") "__rmul__" = some ro)
    (si : PySem.W.subIn X.K (.type "int") (.ref C) = some false) (sr : PySem.W.subIn X.K (.ref C) (.type "int") = some false) (G : FnOk X.prog X.w X.K X.mg X.base CX k f fd ps sp) (G2 : FnOk X.prog X.w X.K X.mg X.base CX j g gd qs sq)
    (room : Room k X.A) (room2 : Room j X.A) (bd : Binds X.K fd ps []) (bd2 : Binds X.K gd qs []) (out : Passes CX X E) : OpR X (binaryOp .Mult) (rAny C sp sq E) := by
  intro pins s σ H x y v u Q I rx ry h
  rcases h with h | h
  · exact op_own_Mult M first ⟨_, N.at_, .inr ⟨_, rfl⟩⟩ hi si G room bd out pins s σ H x y v u Q I rx ry h
  · exact op_ref_Mult N first ⟨_, M.at_⟩ sr G2 room2 bd2 out pins s σ H x y v u Q I rx ry h
end

/-! ### sum(xs, start=x) of own instances -/
theorem args_sumk (a v : Value) : argsOk "sum" ⟨[a], [(Str.ofString "start", v)]⟩ := by unfold argsOk; kernel_rfl
section
variable {prog : Program} {w : World} {A : Around} {E : Value → Shared → Prop} {s : Shared}
/-- a built-in with keywords that goes on by itself -/
theorem call_tree_kw {id : String} {b : Builtin} {args : List Value} {kw : List (Str × Value)} {Q : Value → Shared → Prop} (hk : builtinKind id = none) (hp : plainId id = true)
    (hb : entryFor table id = some b) (ha : argsOk id ⟨args, kw⟩)
    (hc : wpAny (model prog w) A.in1 (b ⟨args, kw⟩) (fun fin s' => match fin with
      | .done f => (match (Except.ok f : Result) with | .ok (.ret v) => Q v s' | .ok _ => False | .error e => E e s')
      | .again c' => c'.quiet = true ∧ codeAny (model prog w) A c' (fun r s' => match r with | .ok (.ret v) => Q v s' | .ok _ => False | .error e => E e s') s') E s) :
    wpAny (model prog w) A (call (.builtin id) args kw) Q E s := by
  refine wpAny_call (codeAny_call_builtin hp hb ?_)
  simp only [checkBuiltinCall, hk]
  cases hsig : Manifest.signature? id with
  | none => exact wpAny_pure hc
  | some sig =>
    simp only [argsOk, hsig] at ha
    have h2 : Bind.checkArgs id sig ⟨args, kw⟩ = pure () := ha
    show wpAny _ A.in1 (Bind.checkArgs id sig ⟨args, kw⟩) _ _ s
    rw [h2]; exact wpAny_pure hc
end
/-- what the top has written of a class whose instances are added up -/
structure SumC (K : PySem.W.Frag) (C : Addr) : Prop where
  str : PySem.W.subIn K (.ref C) (.type "str") = some false
  byt : PySem.W.subIn K (.ref C) (.type "bytes") = some false
  bya : PySem.W.subIn K (.ref C) (.type "bytearray") = some false
  fst : PySem.W.selfFirst K C = true
/-- sum(xs, start=x0); Iv: what holds of the sum by the number of items that are in it -/
def rSumO (K : PySem.W.Frag) (C : Addr) (sp : Sp) : List V → List V → Hp → VK → Prop := fun vs zs H Q => ∃ (l : Addr) (xs : List V) (x0 : V) (Iv : Nat → V → Hp → Prop), vs = [.ref l] ∧ zs = [x0] ∧ Iv 0 x0 H ∧
  (∀ i x H', Iv i x H' → SqL K H' l xs ∧ ∃ a dx fs, x = .ref a ∧ H' a = some (.ins C dx fs)) ∧
  (∀ i x y H', Iv i x H' → xs[i]? = some y → (∃ b dy gs, y = .ref b ∧ H' b = some (.ins C dy gs)) ∧ sp [x, y] H' (fun z H2 => Iv (i + 1) z H2) E0) ∧ (∀ x H', Iv xs.length x H' → Q x H')
section
variable {X : Cx} {CX : CXT} {k : Nat} {f C : Addr} {fd : FuncData} {ps : List Str} {sp : Sp}
/-- what of an object that stands beside the frame does not change -/
def Beside (X : Cx) (pins : List (Addr × Obj)) (b : Addr) : Prop := b ≠ X.env.locals ∧ b ∉ X.fs ∧ (b ∈ X.ex ∨ X.s_0.heap.objs.size ≤ b) ∧ (∀ x c, X.env.cells.lookup x = some c → c ≠ b) ∧ ∀ p ∈ X.pn ++ pins, p.1 ≠ b
theorem Beside.of_new {pins : List (Addr × Obj)} {σ : L2.St} {H : Hp} {s : Shared} {b : Addr} (I : Inv X pins σ H s) (hb : s.heap.objs.size ≤ b) : Beside X pins b := (I.fpOk hb (I.hok.fresh hb)).2
theorem inv_beside {pins : List (Addr × Obj)} {σ : L2.St} {H : Hp} {s : Shared} {b : Addr} {h' : Heap} {t' : Nat} (I : Inv X pins σ H s) (B : Beside X pins b) (n : H b = none) (k : ∀ c o, c ≠ b → s.heap.get? c = some o → h'.get? c = some o) :
    Inv X pins σ H { s with heap := h', toks := t' } := I.turned k n B.1 B.2.2.1 B.2.2.2.1 B.2.2.2.2
theorem pin_two {pins : List (Addr × Obj)} {σ : L2.St} {H : Hp} {s : Shared} {a b : Addr} {oa ob : Obj} (I : Inv X pins σ H s) (ha : s.heap.get? a = some oa) (hb : s.heap.get? b = some ob) (na : H a = none) (nb : H b = none) (Ba : Beside X pins a) (Bb : Beside X pins b) (ca : ∀ v, oa.data ≠ .cell v) (cb : ∀ v, ob.data ≠ .cell v) :
    Inv X ((a, oa) :: (b, ob) :: pins) σ H s := by
  refine I.pins_of fun p hp => ?_
  rcases List.mem_cons.mp hp with e | e
  · subst e
    exact ⟨ha, na, Ba.1, Ba.2.1, ca⟩
  rcases List.mem_cons.mp e with e | e
  · subst e
    exact ⟨hb, nb, Bb.1, Bb.2.1, cb⟩
  · exact I.pin p (List.mem_append_right _ e)
/-- x + y where the frames are X's and nothing is raised -/
theorem add_in {B : Around} {E : Value → Shared → Prop} {pins : List (Addr × Obj)} {σ : L2.St} {H : Hp} {s : Shared} {Q : VK} {a b dx dy : Addr} {fs gs : List (Str × V)} (M : Meth X.K C "__add__" f) (first : PySem.W.selfFirst X.K C = true)
    (out : ∀ E, Passes CX (X.wish E) E0) (G : FnOk X.prog X.w X.K X.mg X.base CX k f fd ps sp) (room : Room k B) (fr : B.frames = X.A.frames) (bd : Binds X.K fd ps []) (I : Inv X pins σ H s) (ha : H a = some (.ins C dx fs)) (hb : H b = some (.ins C dy gs)) (h : sp [.ref a, .ref b] H Q E0) :
    wpAny (model X.prog X.w) B (binaryOp .Add (.ref a) (.ref b)) (EP X pins σ Q) E s := by
  obtain ⟨_, od, J⟩ := inst_of I ha
  obtain ⟨_, od', J'⟩ := inst_of I hb
  obtain ⟨m, F⟩ := I.fr
  have ran : wpAny (model X.prog X.w) B (call (.ref f) [.ref a, .ref b]) (PySem.W.CmpBack (EP X pins σ Q)) E s :=
    wpAny_mono (run_in (X := X.wish E) (B := B) G room fr bd (out E) (I.wish E) (.cons (show L2.RelV (.ref a) (.ref a) from rfl) (.cons (show L2.RelV (.ref b) (.ref b) from rfl) .nil)) h)
      (fun _ _ ⟨v, H', J, r, q⟩ => ep_back ⟨v, H', J.unwish, r, q⟩) fun _ _ z => z
  exact PySem.W.binop_K F I.ok.mod.kin J J'.type first (by rw [d_add]; exact M.at_) M.fn ran
theorem sum_go {B : Around} {pins : List (Addr × Obj)} {σ : L2.St} {l it S : Addr} {xs : List V} {Iv : Nat → V → Hp → Prop} {Q : VK} {R : Result → Shared → Prop} (M : Meth X.K C "__add__" f) (first : PySem.W.selfFirst X.K C = true) (hh : B.handled = none)
    (out : ∀ E, Passes CX (X.wish E) E0) (G : FnOk X.prog X.w X.K X.mg X.base CX k f fd ps sp) (room : Room k B.in1) (fr : B.frames = X.A.frames) (bd : Binds X.K fd ps []) (Bi : Beside X pins it) (BS : Beside X pins S) (ne : it ≠ S)
    (inv : ∀ i x H', Iv i x H' → SqL X.K H' l xs ∧ ∃ a dx fs, x = .ref a ∧ H' a = some (.ins C dx fs))
    (step : ∀ i x y H', Iv i x H' → xs[i]? = some y → (∃ b dy gs, y = .ref b ∧ H' b = some (.ins C dy gs)) ∧ sp [x, y] H' (fun z H2 => Iv (i + 1) z H2) E0) (last : ∀ x H', Iv xs.length x H' → Q x H')
    (hR : ∀ u s', EP X pins σ Q u s' → R (.ok (.ret u)) s') :
    ∀ (m i : Nat) (s : Shared) (H : Hp) (x : V) (v : Value) (c : Nat), xs.length - i = m → i ≤ xs.length → Inv X pins σ H s → s.heap.IsListIter it l i → H it = none → H S = none → s.heap.get? S = some { cls := .type "list", dict := none, data := .seq #[v] c, slots := #[] } →
      Iv i x H → RelV x v → codeAny (model X.prog X.w) B (.builtin "sum.loop" ⟨[.ref it, .ref S, rawInt 2, rawInt 0], []⟩) R s := by
  intro m
  induction m with
  | zero =>
    intro i s H x v c hm hi I st ni nS hS iv rv
    obtain ⟨hl, a, dx, fs, rfl, ha⟩ := inv i x H iv
    obtain ⟨its, rvs, p, hz⟩ := I.list hl
    cases (show v = Value.ref a from rv)
    have e : i = xs.length := by omega
    subst e
    refine codeAny_builtin F.entry_sum_loop ?_
    rw [Around.under_plainId F.plain_sum_loop _]
    show wpAny _ B.in1 (seqItems? (.ref S) >>= _) _ _ s
    refine wpAny_bind (wpAny_seqItems hS rfl ?_)
    show wpAny _ B.in1 (tryCatch (pyNext (.ref it)) _ >>= _) _ _ s
    have hlen := rvs.length
    refine wpAny_bind (wpAny_tryCatch (wpAny_pyNext_list_end hh st p.isList (by simp; omega) fun h' eb => ?_))
    exact wpAny_pure (hR _ _ ⟨.ref a, H, inv_beside (t' := s.toks) I Bi ni fun b o hb e => eb b o hb e, rfl, last _ _ iv⟩)
  | succ m ih =>
    intro i s H x v c hm hi I st ni nS hS iv rv
    obtain ⟨hl, a, dx, fs, rfl, ha⟩ := inv i x H iv
    obtain ⟨its, rvs, p, hz⟩ := I.list hl
    cases (show v = Value.ref a from rv)
    have lt : i < xs.length := by omega
    obtain ⟨y, hy⟩ : ∃ y, xs[i]? = some y := ⟨_, List.getElem?_eq_getElem lt⟩
    obtain ⟨u, hu, ru⟩ := rvs.get hy
    obtain ⟨⟨b, dy, gs, rfl, hb⟩, go⟩ := step i _ y H iv hy
    cases (show u = Value.ref b from ru)
    refine codeAny_builtin F.entry_sum_loop ?_
    rw [Around.under_plainId F.plain_sum_loop _]
    show wpAny _ B.in1 (seqItems? (.ref S) >>= _) _ _ s
    refine wpAny_bind (wpAny_seqItems hS rfl ?_)
    show wpAny _ B.in1 (tryCatch (pyNext (.ref it)) _ >>= _) _ _ s
    refine wpAny_bind (wpAny_tryCatch (wpAny_pyNext_list_item st p.isList (x := .ref b) (by simpa using hu) fun h' st' sb => ?_))
    show wpAny _ B.in1 ((holding [Value.ref b] (binaryOp .Add (.ref a) (.ref b))).attempt >>= _) _ _ _
    have I1 : Inv X pins σ H { s with heap := h' } := inv_beside (t' := s.toks) I Bi ni fun b o hb e => (sb.2 b hb).trans e
    have hS1 : h'.get? S = some { cls := .type "list", dict := none, data := .seq #[Value.ref a] c, slots := #[] } := (sb.2 S (Ne.symm ne)).trans hS
    obtain ⟨oi, hoi, hci, hdi⟩ := id st'
    have I2 := pin_two I1 hoi hS1 ni nS Bi BS (fun v z => by rw [hdi] at z; cases z) (fun v z => by cases z)
    refine wpAny_bind (wpAny_attempt (wpAny_holding (wpAny_mono (add_in M first out G room fr bd I2 ha hb go) (fun z s3 back => ?_) fun _ _ z => z)))
    obtain ⟨zv, H3, I3, rz, iv3⟩ := back
    have hi3 := pin_at I3
    have n3 := ClX.pin_un I3
    have I4 := ClX.unpin I3
    have hS3 := pin_at I4
    have nS3 := ClX.pin_un I4
    have I5 := ClX.unpin I4
    have it3 : s3.heap.IsListIter it l (i + 1) := ⟨oi, hi3, hci, hdi⟩
    show wpAny _ B.in1 (updateSeq S (fun _ => #[z]) >>= _) _ _ _
    refine wpAny_bind (wpAny_updateSeq hS3 rfl ?_)
    have hS4 := Heap.get?_update_self (Obj.mapSeq fun _ => #[z]) hS3 rfl
    refine wpAny_bind (wpAny_letGo ?_)
    refine wpAny_bind (wpAny_updateSeq hS4 rfl (wpAny_pure ⟨plainId_quiet F.plain_sum_loop _, ?_⟩))
    have kp : ∀ b o, b ≠ S → s3.heap.get? b = some o → ((s3.heap.update S (Obj.mapSeq fun _ => #[z])).update S (Obj.mapSeq fun _ => #[z])).get? b = some o := fun b o hb e =>
      (Heap.get?_update_other _ _ (Ne.symm hb)).trans ((Heap.get?_update_other _ _ (Ne.symm hb)).trans e)
    have I6 := inv_beside (t' := s3.toks) I5 BS nS3 kp
    exact ih (i + 1) _ H3 zv z _ (by omega) lt I6 ⟨oi, kp it oi ne hi3, hci, hdi⟩ n3 nS3 (Heap.get?_update_self _ hS4 rfl) iv3 rz
/-- sum(xs, start=x0) of instances of a class with an own __add__ -/
theorem cr_sumO (S : SumC X.K C) (M : Meth X.K C "__add__" f) (hc : X.calm = true) (out : ∀ E, Passes CX (X.wish E) E0) (G : FnOk X.prog X.w X.K X.mg X.base CX k f fd ps sp) (room : Room (k + 1) X.A) (bd : Binds X.K fd ps []) : CallRK X (.builtin "sum") [Str.ofString "start"] (rSumO X.K C sp) := by
  intro pins s σ H vs zs us ws Q I r rz h
  obtain ⟨l, xs, x0, Iv, rfl, rfl, iv0, inv, step, last⟩ := h
  obtain rfl := Vals.ref1 r
  obtain ⟨w1, rfl, e1⟩ := vals1 rz
  obtain ⟨hl, a, dx, fs, rfl, ha⟩ := inv 0 x0 H iv0
  cases (show w1 = Value.ref a from e1)
  obtain ⟨its, rvs, p, hz⟩ := I.list hl
  show wpAny _ _ (call (.builtin "sum") [.ref l] [(Str.ofString "start", .ref a)]) _ _ _
  refine call_tree_kw F.kind_sum F.plain_sum F.entry_sum (args_sumk _ _) ?_
  unfold Builtin.«sum»
  simp only [List.length_cons, List.length_nil]
  rw [if_neg (by decide)]
  refine wpAny_bind (wpAny_of_eq (show Builtin.Builtins.bindParams "sum" ["start"] 0 ⟨[], [(Str.ofString "start", Value.ref a)]⟩ = pure [some (Value.ref a)] from by kernel_rfl) ?_)
  refine wpAny_bind (wpAny_pyIter_list p.isList ?_)
  have I1 : Inv X pins σ H { s with heap := s.heap.push { cls := .type "list_iterator", data := .fields #[.ref l, .int 0 0] } } := I.kept (t' := s.toks) fun b o e => Heap.get?_push_of_some _ e
  obtain ⟨_, od, J⟩ := inst_of I1 ha
  refine wpAny_bind (wpAny_pure ?_)
  simp only [List.forIn_cons, List.forIn_nil]
  refine wpAny_bind (wpAny_bind (wpAny_bind ((show PySem.W.Looks (model X.prog X.w) _ (isInstance (.ref a) (.type "str")) false from J.type.andThen (PySem.W.looks_subIn I1.kIn S.str)).here ?_)))
  simp only [Bool.false_eq_true, if_false]
  refine wpAny_pure (wpAny_bind (wpAny_bind ((show PySem.W.Looks (model X.prog X.w) _ (isInstance (.ref a) (.type "bytes")) false from J.type.andThen (PySem.W.looks_subIn I1.kIn S.byt)).here ?_)))
  simp only [Bool.false_eq_true, if_false]
  refine wpAny_pure (wpAny_bind (wpAny_bind ((show PySem.W.Looks (model X.prog X.w) _ (isInstance (.ref a) (.type "bytearray")) false from J.type.andThen (PySem.W.looks_subIn I1.kIn S.bya)).here ?_)))
  simp only [Bool.false_eq_true, if_false]
  refine wpAny_pure (wpAny_pure ?_)
  refine wpAny_bind (wpAny_newObj_type ?_)
  have sz : (s.heap.push { cls := .type "list_iterator", data := .fields #[.ref l, .int 0 0] }).objs.size = s.heap.objs.size + 1 := size_push' _ _
  have Bi := Beside.of_new I (Nat.le_refl s.heap.objs.size)
  have BS := Beside.of_new I (b := s.heap.objs.size + 1) (Nat.le_succ _)
  have n1 := I.hok.fresh (Nat.le_refl s.heap.objs.size)
  have n2 := I.hok.fresh (Nat.le_succ s.heap.objs.size)
  refine wpAny_pure ⟨plainId_quiet F.plain_sum_loop _, ?_⟩
  rw [show (s.heap.push { cls := .type "list_iterator", data := .fields #[.ref l, .int 0 0] }).objs.size = s.heap.objs.size + 1 from sz]
  refine sum_go (Q := Q) (Iv := Iv) M S.fst (I.ok.hd hc) out G room.in1 rfl bd Bi BS (Nat.ne_of_lt (Nat.lt_succ_self _)) inv step last (fun u s' z => z) xs.length 0 _ H (.ref a) (.ref a) 0 (by omega) (Nat.zero_le _)
    (I1.kept (t' := s.toks) fun b o e => Heap.get?_push_of_some _ e) ⟨_, Heap.get?_push_of_some _ (Heap.get?_push_size _ rfl), rfl, rfl⟩ n1 n2 ?_ iv0 rfl
  show ((s.heap.push { cls := .type "list_iterator", data := .fields #[.ref l, .int 0 0] }).push ({ cls := .type "list", dict := none, data := .seq #[Value.ref a] 0, slots := #[] } : Obj)).get? (s.heap.objs.size + 1) = _
  rw [← sz]
  exact Heap.get?_push_size _ rfl
end

/-! ### t[::-1] of a tuple -/
section
variable {prog : Program} {w : World} {A : Around} {E : Value → Shared → Prop} {s : Shared}
theorem places_rev (n : Nat) : Builtin.Slice.slicePlaces ((n : Int) - 1) (-1) (-1) = n := by
  unfold Builtin.Slice.slicePlaces
  have h1 : ¬ ((-1 : Int) > 0) := by omega
  have h2 : (- -1 : Int) = 1 := by decide
  simp only [h1, if_false, h2, Int.ediv_one]
  split <;> omega
theorem sliceApplied_rev {sl : Addr} {vl vu vs : Value} {n : Nat} {Q : Int × Int × Nat → Shared → Prop} (hs : s.heap.IsSliceOf sl vl vu vs) (pl : IsPart vl none) (pu : IsPart vu none) (ps : IsPart vs (some (-1)))
    (h : Q ((n : Int) - 1, -1, n) s) : wpAny (model prog w) A (Builtin.Slice.sliceApplied (.ref sl) (pure (n : Int))) Q E s := by
  obtain ⟨os, hos, hcs, hds⟩ := id hs
  unfold Builtin.Slice.sliceApplied Builtin.Slice.sliceFields
  refine wpAny_bind (wpAny_bind (wpAny_field hos hds (x := vl) rfl (wpAny_bind (wpAny_field hos hds (x := vu) rfl (wpAny_bind (wpAny_field hos hds (x := vs) rfl (wpAny_pure ?_)))))))
  refine wpAny_bind (HT.slicePart_ ps ?_)
  show wpAny _ _ (if ((-1 : Int) == 0) = true then _ else _) _ _ s
  rw [if_neg (by decide)]
  refine wpAny_bind (HT.slicePart_ pl (wpAny_bind (HT.slicePart_ pu (wpAny_bind (wpAny_pure ?_)))))
  show wpAny _ _ (pure ((n : Int) - 1, (-1 : Int), Builtin.Slice.slicePlaces ((n : Int) - 1) (-1) (-1))) _ _ s
  rw [places_rev]
  exact wpAny_pure h
theorem fm_congr {α β : Type} {f g : α → Option β} : ∀ {l : List α}, (∀ x ∈ l, f x = g x) → l.filterMap f = l.filterMap g
  | [], _ => rfl
  | x :: r, h => by
    rw [List.filterMap_cons, List.filterMap_cons, h x List.mem_cons_self, fm_congr fun y hy => h y (List.mem_cons_of_mem _ hy)]
theorem pick_rev (xs : Array Value) : ((List.range xs.size).filterMap fun (m : Nat) => xs[((xs.size : Int) - 1 + (m : Int) * -1).toNat]?).toArray = xs.toList.reverse.toArray := by
  have e : (List.range xs.size).filterMap (fun (m : Nat) => xs[((xs.size : Int) - 1 + (m : Int) * -1).toNat]?) = ((List.range xs.size).map fun k => xs.size - 1 - k).filterMap (xs[·]?) := by
    rw [List.filterMap_map]
    refine fm_congr ?_
    intro m hm
    have := List.mem_range.mp hm
    show xs[((xs.size : Int) - 1 + (m : Int) * -1).toNat]? = xs[xs.size - 1 - m]?
    congr 1
    omega
  rw [e, PySem.W.krv_range, List.filterMap_reverse, PySem.W.krv_all]
theorem getItem_tuple_rev {t sl : Addr} {items : Array Value} {vl vu vs : Value} {Q : Value → Shared → Prop} (ht : IsTup s.heap t items) (hs : s.heap.IsSliceOf sl vl vu vs) (pl : IsPart vl none) (pu : IsPart vu none) (ps : IsPart vs (some (-1)))
    (h : Q (.ref s.heap.objs.size) { s with heap := s.heap.push { cls := .type "tuple", data := .seq items.toList.reverse.toArray } }) (hsz : items.size ≤ sizeLine) : wpAny (model prog w) A (getItem (.ref t) (.ref sl)) Q E s := by
  have htake : sizeOk (.seq items.toList.reverse.toArray) := by
    show items.toList.reverse.toArray.size ≤ sizeLine
    rw [List.size_toArray, List.length_reverse, Array.length_toList]
    exact hsz
  obtain ⟨os, hos, hcs, hds⟩ := id hs
  have hTs : s.TypeIs (.ref sl) "slice" := ⟨os, hos, hcs⟩
  unfold getItem
  try with_reducible refine wpAny_holding ?_
  first | refine wpAny_bind (wpAny_pure ?_) | skip
  refine wpAny_bind (wpAny_sequenceKey ht.typeIs (by decide) ?_)
  refine wpAny_bind (wpAny_callSpecial?_slot (name := Str.ofString "__getitem__") ht.typeIs PyProof.Rows.slot_tuple_getitem
    (wpAny_call_entry PyProof.Rows.slot_tuple_getitem ht.typeIs entry_tuple_getitem ?_ (args_tuple_getitem _ _)))
  show wpAny _ _ (Builtin.Tuple.tupleItemsOf (.ref t) >>= _) _ _ s
  refine wpAny_bind (tupleItemsOf_ ht ?_)
  refine wpAny_bind (wpAny_typeOf hTs ?_)
  rw [if_pos (by decide)]
  refine wpAny_bind (sliceApplied_rev hs pl pu ps ?_)
  have hno : ¬ ((((items.size : Int) - 1) == 0 && (-1 : Int) == 1 && items.size == items.size) = true) := by
    intro q
    rw [Bool.and_eq_true, Bool.and_eq_true] at q
    exact absurd q.1.2 (by decide)
  show wpAny _ _ (if (((items.size : Int) - 1) == 0 && (-1 : Int) == 1 && items.size == items.size) = true then _ else _) _ _ s
  rw [if_neg hno, pick_rev]
  first
    | exact wpAny_bind (m := Builtin.Tuple.tupleExact _) (wpAny_newObj_type (wpAny_pure ⟨_, rfl, wpAny_pure h⟩) htake)
    | exact wpAny_bind (m := Builtin.Tuple.tupleExact _) (wpAny_newObj_type (wpAny_bind (wpAny_pure (wpAny_pure ⟨_, rfl, wpAny_pure h⟩))) htake)
    | exact wpAny_bind (wpAny_bind (m := Builtin.Tuple.tupleExact _) (wpAny_newObj_type (wpAny_pure (wpAny_pure ⟨_, rfl, wpAny_pure h⟩)) htake))
    | exact wpAny_bind (wpAny_bind (m := Builtin.Tuple.tupleExact _) (wpAny_newObj_type (wpAny_pure ⟨_, rfl, wpAny_pure h⟩) htake))
end
section
variable {X : Cx}
def tRevT (K : PySem.W.Frag) (te : TE) : TE := fun σ H Q => te σ H fun x H1 => ∃ a xs, x = .ref a ∧ SqT K H1 a xs ∧ ∀ p, H1 p = none → Q (.ref p) (upd H1 p (.tup xs.reverse))
theorem pe_revT {e : Expr} {te : TE} {k : Nat} {p1 p2 p3 pos : Pos} (he : PE X e te) : PE X (.Subscript e (.Slice none none (some (.UnaryOp .USub (.Constant (.int 1) k p1) p2)) p3) pos) (tRevT X.K te) := by
  refine ⟨fun pins s σ H Q I h => ?_⟩
  refine Subscript_ (thn (he.run pins s σ H _ I h) fun v s1 ⟨x, H1, I1, r1, q1⟩ => ?_)
  obtain ⟨a, xs, ex, hx, q⟩ := q1
  subst ex
  cases r1
  have hst : PO X (some (.UnaryOp .USub (.Constant (.int 1) k p1) p2)) (tPart (tUn (rU fun i => .int (-i)) (tC (.int 1)))) := po_some (pe_un un_neg pe_int)
  refine wpAny_Slice (thn (po_none.run pins s1 σ H1 (fun o H2 => o = none ∧ H2 = H1) I1 ⟨rfl, rfl⟩) fun vl s2 ⟨l, H2, I2, pl, el, e2⟩ => ?_)
  subst el e2
  refine thn (po_none.run pins s2 σ H2 (fun o H3 => o = none ∧ H3 = H2) I2 ⟨rfl, rfl⟩) fun vu s3 ⟨u, H3, I3, pu, eu, e3⟩ => ?_
  subst eu e3
  refine thn (hst.run pins s3 σ H3 (fun o H4 => o = some (-1) ∧ H4 = H3) I3 ⟨1, rfl, -1, rfl, rfl, rfl⟩) fun vs s4 ⟨o, H4, I4, ps, eo, e4⟩ => ?_
  subst eo e4
  have I5 : Inv X pins σ H4 { s4 with heap := s4.heap.push { cls := .type "slice", data := .fields #[vl, vu, vs] } } := I4.kept (t' := s4.toks) fun b ob q => Heap.get?_push_of_some _ q
  obtain ⟨its, r, ht, hz⟩ := I5.tuple hx
  have hlen := r.length
  show wpAny (model X.prog X.w) X.A (subscriptTail e (.Slice none none (some (.UnaryOp .USub (.Constant (.int 1) k p1) p2)) p3) (.ref a) (.ref s4.heap.objs.size)) (EP X pins σ Q) X.xe { s4 with heap := s4.heap.push { cls := .type "slice", data := .fields #[vl, vu, vs] } }
  refine tail_any (ops := [.ref a, .ref s4.heap.objs.size]) ht.typeIs PyProof.Rows.slot_tuple_getitem.lookup ?_ (by with_unfolding_all rfl)
  refine getItem_tuple_rev ht (Heap.IsSliceOf.new _ vl vu vs) pl pu ps ?_ (by rw [List.size_toArray]; omega)
  refine ⟨.ref _, _, I5.laid (t' := s4.toks) (o := .tup xs.reverse) (fun b ob q => Heap.get?_push_of_some _ q) (Nat.le_refl _) ?_, rfl, q _ (I5.hok.fresh (Nat.le_refl _))⟩
  exact ⟨by rw [List.length_reverse]; exact hz, _, r.reverse, IsTup.new _ _⟩
end

/-- a lot: ascending, from 0 on, below m -/
def lotB : List Int → Int → Int → Bool
  | [], _, _ => true
  | n :: r, b, m => if n ≤ b ∨ n ≥ m then false else lotB r n m

theorem fW_many (m a : Int) (t : Addr) : (fW m a t).lookup ("many" : Str) = some (V.int m) := by rfl

theorem lotB_in : ∀ {ns : List Int} {b m : Int}, lotB ns b m = true → ∀ n ∈ ns, b < n ∧ n < m
  | [], _, _, _, _, h => by cases h
  | x :: r, b, m, e, n, h => by
    by_cases c : x ≤ b ∨ x ≥ m
    · rw [show lotB (x :: r) b m = false from if_pos c] at e
      cases e
    · rw [show lotB (x :: r) b m = lotB r x m from if_neg c] at e
      rcases List.mem_cons.mp h with rfl | h
      · omega
      · have := lotB_in e n h
        omega
/-- the sum of the weights of a lot -/
def wSum (ws ns : List Int) : Int := (ns.map fun n => ws.getD n.toNat 0).sum
def wAt (ws ns : List Int) (i : Nat) : Int := if inV (.int (i : Int)) (ns.map V.int) = true then ws.getD i 0 else 0
theorem ws_at {ws : List Int} {n : Int} (h0 : 0 ≤ n) (h1 : n < ws.length) : atI (ws.map V.int) n = some (.int (ws.getD n.toNat 0)) := by
  obtain ⟨k, rfl⟩ : ∃ k : Nat, n = (k : Int) := ⟨n.toNat, by omega⟩
  have lt : k < ws.length := by omega
  refine atI_nat (int_at ?_)
  rw [Int.toNat_natCast, List.getD_eq_getElem?_getD, List.getElem?_eq_getElem lt]
  rfl
theorem ints_flat (ns : List Int) : (ns.map V.int).all flatV = true := by
  rw [List.all_eq_true]
  intro x hx
  obtain ⟨n, _, rfl⟩ := List.mem_map.mp hx
  rfl

theorem fW_shares (m a : Int) (t : Addr) : (fW m a t).lookup ("shares" : Str) = none := by rfl
theorem fW_away (m a : Int) (t : Addr) : (fW m a t).lookup ("away" : Str) = none := by rfl
theorem inV_int {n : Int} {ns : List Int} : inV (.int n) (ns.map V.int) = true ↔ n ∈ ns := by
  unfold inV
  rw [List.any_eq_true]
  constructor
  · rintro ⟨x, hx, e⟩
    obtain ⟨m, hm, rfl⟩ := List.mem_map.mp hx
    have e : decide (m = n) = true := by
      first | exact e | (simpa [eqV] using e)
    rw [← of_decide_eq_true e]
    exact hm
  · intro h
    refine ⟨.int n, List.mem_map.mpr ⟨n, h, rfl⟩, ?_⟩
    first | exact decide_eq_true rfl | simp [eqV]
/-- the values of f at the things of a lot, the others 0 -/
def hitF (f : Nat → Int) (ns : List Int) (i : Nat) : Int := if inV (.int (i : Int)) (ns.map V.int) = true then f i else 0
theorem lot_sum (f : Nat → Int) : ∀ (k : Nat) (b : Int) (lo : Nat) (ns : List Int) (m : Int), (lo : Int) = b + 1 → m - (lo : Int) = (k : Int) → lotB ns b m = true → ((List.range' lo k).map (hitF f ns)).sum = (ns.map fun n => f n.toNat).sum
  | 0, b, lo, ns, m, hb, hk, h => by
    cases ns with
    | nil => rfl
    | cons n r =>
      have := lotB_in h n List.mem_cons_self
      omega
  | k + 1, b, lo, ns, m, hb, hk, h => by
    rw [List.range'_succ, List.map_cons, List.sum_cons]
    cases ns with
    | nil =>
      rw [show hitF f [] lo = 0 from rfl, lot_sum f k (b + 1) (lo + 1) [] m (by omega) (by omega) rfl]
      rfl
    | cons n r =>
      by_cases c : n = (lo : Int)
      · have hn := lotB_in h n List.mem_cons_self
        have hr : lotB r n m = true := by
          have e : lotB (n :: r) b m = lotB r n m := if_neg (by omega)
          rw [← e]
          exact h
        have ih := lot_sum f k n (lo + 1) r m (by omega) (by omega) hr
        have same : (List.range' (lo + 1) k).map (hitF f (n :: r)) = (List.range' (lo + 1) k).map (hitF f r) := by
          apply List.map_congr_left
          intro i hi
          have hi := (List.mem_range'_1.mp hi).1
          unfold hitF
          have e : inV (.int (i : Int)) ((n :: r).map V.int) = inV (.int (i : Int)) (r.map V.int) := by
            rw [Bool.eq_iff_iff, inV_int, inV_int, List.mem_cons]
            constructor
            · rintro (z | z)
              · omega
              · exact z
            · exact .inr
          rw [e]
        rw [same, ih, List.map_cons, List.sum_cons]
        congr 1
        unfold hitF
        rw [if_pos (inV_int.mpr (by rw [c]; exact List.mem_cons_self)), c, Int.toNat_natCast]
      · have hn := lotB_in h n List.mem_cons_self
        have hr : lotB (n :: r) (b + 1) m = true := by
          have e : lotB (n :: r) b m = lotB r n m := if_neg (by omega)
          rw [e] at h
          exact (if_neg (by omega)).trans h
        rw [lot_sum f k (b + 1) (lo + 1) (n :: r) m (by omega) (by omega) hr]
        have z : hitF f (n :: r) lo = 0 := by
          unfold hitF
          refine if_neg fun y => ?_
          have y := inV_int.mp y
          have := lotB_in hr _ y
          omega
        rw [z, Int.zero_add]
theorem wAt_sum {ws ns : List Int} (h : lotB ns (-1) ws.length = true) : ((List.range ws.length).map (wAt ws ns)).sum = wSum ws ns := by
  rw [List.range_eq_range']
  exact lot_sum (fun i => ws.getD i 0) ws.length (-1) 0 ns ws.length rfl (by omega) h
theorem getD_nn {ws : List Int} (h : ∀ w ∈ ws, 1 ≤ w) (i : Nat) : 0 ≤ ws.getD i 0 := by
  rw [List.getD_eq_getElem?_getD]
  cases e : ws[i]? with
  | none => exact Int.le_refl 0
  | some w =>
    have := h w (List.mem_of_getElem? e)
    show 0 ≤ w
    omega
theorem wAt_nn {ws ns : List Int} (h : ∀ w ∈ ws, 1 ≤ w) (i : Nat) : 0 ≤ wAt ws ns i := by
  unfold wAt
  split
  · exact getD_nn h i
  · exact Int.le_refl 0
theorem sum_nn : ∀ {l : List Int}, (∀ x ∈ l, 0 ≤ x) → 0 ≤ l.sum
  | [], _ => Int.le_refl 0
  | x :: r, h => by
    rw [List.sum_cons]
    have := h x List.mem_cons_self
    have := sum_nn fun y hy => h y (List.mem_cons_of_mem _ hy)
    omega
theorem take_le {l : List Int} (h : ∀ x ∈ l, 0 ≤ x) (i : Nat) : 0 ≤ (l.take i).sum ∧ (l.take i).sum ≤ l.sum := by
  have a := sum_nn fun x hx => h x (List.mem_of_mem_take (i := i) hx)
  have b := sum_nn fun x hx => h x (List.mem_of_mem_drop (i := i) hx)
  have e : (l.take i).sum + (l.drop i).sum = l.sum := by
    rw [← List.sum_append, List.take_append_drop]
  omega
theorem mem_le {l : List Int} (h : ∀ x ∈ l, 0 ≤ x) : ∀ x ∈ l, x ≤ l.sum := by
  induction l with
  | nil =>
    intro x hx
    cases hx
  | cons y r ih =>
    intro x hx
    have hr : ∀ z ∈ r, 0 ≤ z := fun z hz => h z (List.mem_cons_of_mem _ hz)
    have := sum_nn hr
    have := h y List.mem_cons_self
    rw [List.sum_cons]
    rcases List.mem_cons.mp hx with rfl | hx
    · omega
    · have := ih hr x hx
      omega

theorem kL : kitB "list" "list" = some true := by decide +kernel
theorem lotB_mono : ∀ {ns : List Int} {b m m' : Int}, lotB ns b m = true → m ≤ m' → lotB ns b m' = true
  | [], _, _, _, _, _ => rfl
  | n :: r, b, m, m', h, le => by
    have hn := lotB_in h n List.mem_cons_self
    have e : lotB (n :: r) b m = lotB r n m := if_neg (by omega)
    rw [e] at h
    exact (if_neg (by omega)).trans (lotB_mono h le)
theorem lotB_snoc : ∀ {ns : List Int} {b m : Int}, lotB ns b m = true → b < m → lotB (ns ++ [m]) b (m + 1) = true
  | [], b, m, _, lt => (if_neg (by omega) : lotB [m] b (m + 1) = lotB [] m (m + 1)).trans rfl
  | n :: r, b, m, h, lt => by
    have hn := lotB_in h n List.mem_cons_self
    have e : lotB (n :: r) b m = lotB r n m := if_neg (by omega)
    rw [e] at h
    exact (if_neg (by omega)).trans (lotB_snoc h hn.2)
theorem lotB_pw : ∀ {ns : List Int} {b m : Int}, lotB ns b m = true → ns.Pairwise (· < ·)
  | [], _, _, _ => .nil
  | n :: r, b, m, h => by
    have hn := lotB_in h n List.mem_cons_self
    have e : lotB (n :: r) b m = lotB r n m := if_neg (by omega)
    rw [e] at h
    exact .cons (fun x hx => (lotB_in h x hx).1) (lotB_pw h)
theorem lotB_no {ns : List Int} {b m : Int} (h : lotB ns b m = true → False) : lotB ns b m = false := by
  cases e : lotB ns b m with
  | true => exact (h e).elim
  | false => rfl
theorem wSum_snoc (ws ns : List Int) {i : Nat} {n : Int} (h : ns[i]? = some n) : wSum ws (ns.take (i + 1)) = wSum ws (ns.take i) + ws.getD n.toNat 0 := by
  unfold wSum
  rw [List.take_add_one, h, List.map_append, List.sum_append]
  simp

/-- what of a rule by weights stands in the heap -/
def WAt (C : Addr) (H : Hp) (p dx t : Addr) (ws : List Int) (b : Int) : Prop := H p = some (.ins C dx (fW ws.length b t)) ∧ H t = some (.tup (ws.map V.int))
theorem WAt.same {C : Addr} {H H' : Hp} {p dx t : Addr} {ws : List Int} {b : Int} (s : Same H H') (h : WAt C H p dx t ws b) : WAt C H' p dx t ws b := ⟨s _ _ h.1, s _ _ h.2⟩
theorem wSum_nn {ws ns : List Int} (hw : ∀ w ∈ ws, 1 ≤ w) (ok : lotB ns (-1) ws.length = true) : 0 ≤ wSum ws ns ∧ ∀ j, j < ws.length → 0 ≤ wAt ws ns j ∧ wAt ws ns j ≤ wSum ws ns := by
  have nn : ∀ x ∈ (List.range ws.length).map (wAt ws ns), 0 ≤ x := fun x hx => by
    obtain ⟨i, _, rfl⟩ := List.mem_map.mp hx
    exact wAt_nn hw i
  have es := wAt_sum ok
  refine ⟨es ▸ sum_nn nn, fun j hj => ⟨wAt_nn hw j, es ▸ mem_le nn _ (List.mem_map.mpr ⟨j, List.mem_range.mpr hj, rfl⟩)⟩⟩
theorem cat_any {K : PySem.W.Frag} {a b : Addr} {xs ys : List V} {H : Hp} {Q : VK} (ha : H a = some (.tup xs)) (hb : H b = some (.tup ys)) (hz : xs.length + ys.length ≤ sizeLine) (q : ∀ H' p, Same H H' → H' p = some (.tup (xs ++ ys)) → Q (.ref p) H') : rCatA K (.ref a) (.ref b) H Q := by
  refine ⟨a, b, xs, ys, rfl, rfl, tup_t ha, tup_t hb, hz, fun e => ?_, fun _ e => ?_, fun _ _ p np => q _ p (same_upd np) upd_same⟩
  · subst e
    exact q H b (Same.refl H) hb
  · subst e
    exact q H a (Same.refl H) (ha.trans (by rw [List.append_nil]))
theorem sl_any {K : PySem.W.Frag} {a : Addr} {xs : List V} {lo hi : Option Int} {H : Hp} {Q : VK} (ha : H a = some (.tup xs)) (q : ∀ H' p, Same H H' → H' p = some (.tup (cutV xs lo hi)) → Q (.ref p) H') : rSlA K (.ref a) lo hi H Q := by
  refine ⟨a, xs, rfl, tup_t ha, fun e => q H a (Same.refl H) (ha.trans ?_), fun _ p np => q _ p (same_upd np) upd_same⟩
  unfold cutV
  rw [e.1, e.2, List.drop_zero, Nat.sub_zero, List.take_length]
theorem wSum_le {ws : List Int} : ∀ (ns : List Int), (∀ w ∈ ws, w ≤ 10 ^ 18) → wSum ws ns ≤ (ns.length : Int) * 10 ^ 18
  | [], _ => by
    unfold wSum
    simp
  | n :: r, h => by
    have ih := wSum_le r h
    have g : ws.getD n.toNat 0 ≤ 10 ^ 18 := by
      rw [List.getD_eq_getElem?_getD]
      cases e : ws[n.toNat]? with
      | none => decide
      | some w => exact h w (List.mem_of_getElem? e)
    have e : wSum ws (n :: r) = ws.getD n.toNat 0 + wSum ws r := rfl
    rw [e, List.length_cons]
    have : (((r.length + 1 : Nat) : Int)) * 10 ^ 18 = (r.length : Int) * 10 ^ 18 + 10 ^ 18 := by
      rw [Int.natCast_add, Int.add_mul]
      rfl
    omega

theorem fW_worth (m a : Int) (t : Addr) : (fW m a t).lookup ("worth" : Str) = none := by rfl
theorem iteND {c A B : Prop} [Decidable c] (h : ¬ c) (a : A) : if (!decide c) = true then A else B := by
  rw [decide_eq_false h]
  exact iteT a
theorem ite2N {c A B : Prop} [Decidable c] (h1 : ¬ c → A) (h2 : c → B) : if (!decide c) = true then A else B := by
  by_cases h : c
  · rw [decide_eq_true h]
    exact iteF (h2 h)
  · rw [decide_eq_false h]
    exact iteT (h1 h)
/-- the first price below 0, from place i on -/
def negAt : List Int → Nat → Option Nat
  | [], _ => none
  | n :: r, i => if n < 0 then some i else negAt r (i + 1)
theorem negAt_nn : ∀ {ps : List Int} {i : Nat}, negAt ps i = none → ∀ p ∈ ps, 0 ≤ p
  | [], _, _, _, h => by cases h
  | n :: r, i, h, p, hp => by
    by_cases c : n < 0
    · rw [show negAt (n :: r) i = some i from if_pos c] at h
      cases h
    · rw [show negAt (n :: r) i = negAt r (i + 1) from if_neg c] at h
      rcases List.mem_cons.mp hp with rfl | hp
      · omega
      · exact negAt_nn h p hp
theorem negAt_none : ∀ {ps : List Int} {i : Nat}, (∀ p ∈ ps, 0 ≤ p) → negAt ps i = none
  | [], _, _ => rfl
  | n :: r, i, h => by
    have := h n List.mem_cons_self
    exact (if_neg (by omega)).trans (negAt_none fun m hm => h m (List.mem_cons_of_mem _ hm))
theorem negAt_lt : ∀ {ps : List Int} {i k : Nat}, negAt ps i = some k → k < i + ps.length
  | [], _, _, h => by cases h
  | n :: r, i, k, h => by
    rw [List.length_cons]
    by_cases c : n < 0
    · rw [show negAt (n :: r) i = some i from if_pos c] at h
      cases h
      omega
    · rw [show negAt (n :: r) i = negAt r (i + 1) from if_neg c] at h
      have := negAt_lt h
      omega
theorem cross1 {T d W B P : Int} (h : T * d = W * B) : T * P * d = W * P * (B * 1) := by grind
/-- the sum of weight times price over a lot -/
def vSum (ws ps ns : List Int) : Int := (ns.map fun n => ws.getD n.toNat 0 * ps.getD n.toNat 0).sum
theorem vSum_snoc (ws ps ns : List Int) {i : Nat} {n : Int} (h : ns[i]? = some n) : vSum ws ps (ns.take (i + 1)) = vSum ws ps (ns.take i) + ws.getD n.toNat 0 * ps.getD n.toNat 0 := by
  unfold vSum
  rw [List.take_add_one, h, List.map_append, List.sum_append]
  simp
structure Fine (ws : List Int) (b : Int) (ps : List Int) : Prop where
  wl : ws.length ≤ 24
  w1 : ∀ w ∈ ws, 1 ≤ w
  w2 : ∀ w ∈ ws, w ≤ 10 ^ 18
  b1 : 0 < b
  b2 : b ≤ 10 ^ 18
  p2 : ∀ p ∈ ps, p ≤ 10 ^ 18
theorem getD_le {ws : List Int} (h : ∀ w ∈ ws, w ≤ 10 ^ 18) (i : Nat) : ws.getD i 0 ≤ 10 ^ 18 := by
  rw [List.getD_eq_getElem?_getD]
  cases e : ws[i]? with
  | none => decide
  | some w => exact h w (List.mem_of_getElem? e)
theorem getD_n0 {ws : List Int} (h : ∀ w ∈ ws, 0 ≤ w) (i : Nat) : 0 ≤ ws.getD i 0 := by
  rw [List.getD_eq_getElem?_getD]
  cases e : ws[i]? with
  | none => exact Int.le_refl 0
  | some w => exact h w (List.mem_of_getElem? e)
theorem mul_36 {a b : Int} (a0 : 0 ≤ a) (a1 : a ≤ 10 ^ 18) (b0 : 0 ≤ b) (b1 : b ≤ 10 ^ 18) : 0 ≤ a * b ∧ a * b ≤ 10 ^ 36 := by
  refine ⟨Int.mul_nonneg a0 b0, ?_⟩
  have := Int.mul_le_mul a1 b1 b0 (by decide)
  omega
theorem sum_bd {c : Int} : ∀ {l : List Int}, (∀ x ∈ l, 0 ≤ x ∧ x ≤ c) → l.sum ≤ (l.length : Int) * c
  | [], _ => by simp
  | x :: r, h => by
    have h1 := h x List.mem_cons_self
    have h2 := sum_bd fun y hy => h y (List.mem_cons_of_mem _ hy)
    rw [List.sum_cons, List.length_cons, Int.natCast_add, Int.add_mul]
    show x + r.sum ≤ (r.length : Int) * c + 1 * c
    omega
theorem items_bd {ws ps ns : List Int} (hw0 : ∀ w ∈ ws, 1 ≤ w) (hw1 : ∀ w ∈ ws, w ≤ 10 ^ 18) (hp0 : ∀ p ∈ ps, 0 ≤ p) (hp1 : ∀ p ∈ ps, p ≤ 10 ^ 18) : ∀ x ∈ ns.map fun n => ws.getD n.toNat 0 * ps.getD n.toNat 0, 0 ≤ x ∧ x ≤ 10 ^ 36 := fun x hx => by
  obtain ⟨n, _, rfl⟩ := List.mem_map.mp hx
  exact mul_36 (getD_n0 (fun w h => by have := hw0 w h; omega) _) (getD_le hw1 _) (getD_n0 hp0 _) (getD_le hp1 _)
theorem sm_36 {x : Int} (h0 : 0 ≤ x) (h1 : x ≤ 1000 * 10 ^ 36) : Sm x := sm_of (n := 200) (by
  have : x.natAbs ≤ 1000 * 10 ^ 36 := by omega
  exact Nat.lt_of_le_of_lt this (by decide))
theorem sm_sq {d : Int} (h0 : 0 ≤ d) (h : d ≤ 1001 * 10 ^ 18) : Sm (d * d) := by
  refine sm_of (n := 200) ?_
  rw [Int.natAbs_mul]
  have : d.natAbs ≤ 1001 * 10 ^ 18 := by omega
  exact Nat.lt_of_le_of_lt (Nat.mul_le_mul this this) (by decide)

theorem low_neg : ∀ (ns : List Int) (i : Nat), lowAt 0 ns i = negAt ns i
  | [], _ => rfl
  | n :: r, i => by
    unfold lowAt negAt
    rw [low_neg r (i + 1)]
/-! ### comparisons of an own class -/
section
variable {prog : Program} {w : World} {A : Around} {E : Value → Shared → Prop} {s : Shared} {K : PySem.W.Frag}
/-- n op a: the int's own comparison declines, then a's mirrored one is asked -/
theorem cmp_refl {op : CmpOp} {id nm : String} {g : Int → Int → Sem Fin} {n : Int} {t : Tok} {a C dx f : Addr} {od : Option Obj} {Q : Value → Shared → Prop} (hu : A.units < cLine) (X : K.In s.heap) (ha : s.heap.get? a = some (PySem.W.instObj C dx))
    (J : PySem.W.InstAt s.heap a (PySem.W.instObj C dx) C od) (slot : Slot "int" (cmpInfo op).2.1 id) (entry : entryFor table id = some (Builtin.Int.intBinary nm g)) (args : argsOk id ⟨[.int n t, .ref a], []⟩) (sub : PySem.W.subIn K (.ref C) (.type "int") = some false)
    (hr : PySem.W.findIn K (.ref C) (cmpInfo op).2.2 = some (some (.ref f))) (hf : PySem.W.isFn K (.ref f) = true) (one : oneThing? op (.int n t) (.ref a) = none)
    (h : wpAny (model prog w) A (call (.ref f) [.ref a, .int n t]) (PySem.W.CmpBack Q) E s) : wpAny (model prog w) A (richCompare op (.int n t) (.ref a)) Q E s := by
  have back : wpAny (model prog w) A (tryCompare (.ref a) (cmpInfo op).2.2 (.int n t)) (fun r s' => ∃ v, r = some v ∧ Q v s') E s := by
    unfold tryCompare
    refine wpAny_bind (PySem.W.ifBound_K X J hr hf (wpAny_mono h (fun v s' z => ?_) fun _ _ z => z))
    cases v <;> first
      | exact z.elim
      | exact wpAny_pure ⟨_, rfl, z⟩
  rcases hi : cmpInfo op with ⟨sym, fw, bw⟩
  rw [hi] at slot back
  dsimp only at slot back
  have ne : (Value.type "int" != Value.ref C) = true := by
    rw [bne, Bool.not_eq_true']
    exact Bool.eq_false_iff.mpr fun z => by cases beq_iff_eq.mp z
  unfold richCompare
  simp only [one, hi]
  refine wpAny_holding (wpAny_bind (wpAny_cRoomFor hu ?_))
  refine wpAny_bind (wpAny_typeOf (T := "int") (by exact rfl) (wpAny_bind (J.type.here ?_)))
  simp only [ne, if_true]
  refine wpAny_bind ((PySem.W.looks_subIn X sub).here ?_)
  simp only [Bool.false_eq_true, if_false, Bool.not_false, if_true]
  refine wpAny_bind (wpAny_tryCompare_declines (T := "int") (by exact rfl) slot (declines_bin ha slot entry args ⟨rfl, ?_⟩))
  dsimp only
  refine wpAny_bind (wpAny_mono back (fun r s' z => ?_) fun _ _ z => z)
  obtain ⟨v, rfl, q⟩ := z
  exact wpAny_pure q
end
section
variable {X : Cx} {CX : CXT} {k j : Nat} {f g C : Addr} {fd gd : FuncData} {ps qs : List Str} {sp sq : Sp} {E : XK}
/-- x op y by the class's comparison, or, where x is an int, by the mirrored one -/
def rCmp (C : Addr) (sp sq : Sp) (E : XK) : R2 := fun x y H Q => rOwn C sp E x y H Q ∨ rRef C sq E x y H Q
theorem op_cmp {op : CmpOp} {id nm : String} {gg : Int → Int → Sem Fin} (M : Meth X.K C (cmpInfo op).2.1 f) (N : Meth X.K C (cmpInfo op).2.2 g) (si : PySem.W.subIn X.K (.type "int") (.ref C) = some false) (sr : PySem.W.subIn X.K (.ref C) (.type "int") = some false)
    (slot : Slot "int" (cmpInfo op).2.1 id) (entry : entryFor table id = some (Builtin.Int.intBinary nm gg)) (args : ∀ a b, argsOk id ⟨[a, b], []⟩) (one : ∀ n t a, oneThing? op (.int n t) (.ref a) = none)
    (is : ∀ a b : Value, compareOp op a b = richCompare op a b)
    (G : FnOk X.prog X.w X.K X.mg X.base CX k f fd ps sp) (G2 : FnOk X.prog X.w X.K X.mg X.base CX j g gd qs sq) (room : Room k X.A) (room2 : Room j X.A) (bd : Binds X.K fd ps []) (bd2 : Binds X.K gd qs []) (out : Passes CX X E) : OpR X (compareOp op) (rCmp C sp sq E) := by
  intro pins s σ H x y v u Q I rx ry h
  rw [is]
  obtain ⟨m, F⟩ := I.fr
  rcases h with ⟨⟨a, dx, fs, rfl, ha⟩, hy, h⟩ | ⟨⟨n, rfl⟩, ⟨a, dx, fs, rfl, ha⟩, h⟩
  · cases (show v = Value.ref a from rx)
    obtain ⟨_, od, J⟩ := inst_of I ha
    have ran : wpAny (model X.prog X.w) X.A (call (.ref f) [.ref a, u]) (PySem.W.CmpBack (EP X pins σ Q)) X.xe s :=
      wpAny_mono (run_fn (ds := []) G room bd .nil out I (.cons (show L2.RelV (.ref a) (.ref a) from rfl) (.cons ry .nil)) h) (fun _ _ z => ep_back z) fun _ _ z => z
    rcases hy with ⟨b, dy, gs, rfl, hb⟩ | ⟨n, rfl⟩
    · cases (show u = Value.ref b from ry)
      obtain ⟨_, od', J'⟩ := inst_of I hb
      exact PySem.W.cmp_K room.units0 F I.ok.mod.kin J J'.type (by unfold PySem.W.notFirst; rw [beq_self_eq_true]; rfl) M.at_ M.fn ran
    · obtain ⟨t, rfl⟩ := (show ∃ t, u = Value.int n t from ry)
      exact PySem.W.cmp_K (tb := .type "int") room.units0 F I.ok.mod.kin J (PySem.W.Looks.of_pure rfl) (by unfold PySem.W.notFirst; rw [si]; simp) M.at_ M.fn ran
  · cases (show u = Value.ref a from ry)
    obtain ⟨t, rfl⟩ := (show ∃ t, v = Value.int n t from rx)
    obtain ⟨ho, od, J⟩ := inst_of I ha
    have ran : wpAny (model X.prog X.w) X.A (call (.ref g) [.ref a, .int n t]) (PySem.W.CmpBack (EP X pins σ Q)) X.xe s :=
      wpAny_mono (run_fn (ds := []) G2 room2 bd2 .nil out I (.cons (show L2.RelV (.ref a) (.ref a) from rfl) (.cons rx .nil)) h) (fun _ _ z => ep_back z) fun _ _ z => z
    exact cmp_refl room.units0 I.kIn ho J slot entry (args _ _) sr N.at_ N.fn (one n t a) ran
theorem dc_lt : (cmpInfo .Lt).2.1 = ("__lt__" : Str) := by decide +kernel
theorem dm_lt : (cmpInfo .Lt).2.2 = ("__gt__" : Str) := by decide +kernel
theorem op_cmp_Lt (M : Meth X.K C "__lt__" f) (N : Meth X.K C "__gt__" g) (si : PySem.W.subIn X.K (.type "int") (.ref C) = some false) (sr : PySem.W.subIn X.K (.ref C) (.type "int") = some false)
    (G : FnOk X.prog X.w X.K X.mg X.base CX k f fd ps sp) (G2 : FnOk X.prog X.w X.K X.mg X.base CX j g gd qs sq) (room : Room k X.A) (room2 : Room j X.A) (bd : Binds X.K fd ps []) (bd2 : Binds X.K gd qs []) (out : Passes CX X E) : OpR X (compareOp .Lt) (rCmp C sp sq E) :=
  op_cmp (op := .Lt) (by rw [dc_lt]; exact M) (by rw [dm_lt]; exact N) si sr PySem.F.slot_int_lt PySem.F.entry_int_lt PySem.F.args_int_lt_2 (fun _ _ _ => by rfl) (fun _ _ => rfl) G G2 room room2 bd bd2 out
theorem dc_le : (cmpInfo .LtE).2.1 = ("__le__" : Str) := by decide +kernel
theorem dm_le : (cmpInfo .LtE).2.2 = ("__ge__" : Str) := by decide +kernel
theorem op_cmp_LtE (M : Meth X.K C "__le__" f) (N : Meth X.K C "__ge__" g) (si : PySem.W.subIn X.K (.type "int") (.ref C) = some false) (sr : PySem.W.subIn X.K (.ref C) (.type "int") = some false)
    (G : FnOk X.prog X.w X.K X.mg X.base CX k f fd ps sp) (G2 : FnOk X.prog X.w X.K X.mg X.base CX j g gd qs sq) (room : Room k X.A) (room2 : Room j X.A) (bd : Binds X.K fd ps []) (bd2 : Binds X.K gd qs []) (out : Passes CX X E) : OpR X (compareOp .LtE) (rCmp C sp sq E) :=
  op_cmp (op := .LtE) (by rw [dc_le]; exact M) (by rw [dm_le]; exact N) si sr PySem.F.slot_int_le PySem.F.entry_int_le PySem.F.args_int_le_2 (fun _ _ _ => by rfl) (fun _ _ => rfl) G G2 room room2 bd bd2 out
theorem dc_gt : (cmpInfo .Gt).2.1 = ("__gt__" : Str) := by decide +kernel
theorem dm_gt : (cmpInfo .Gt).2.2 = ("__lt__" : Str) := by decide +kernel
theorem op_cmp_Gt (M : Meth X.K C "__gt__" f) (N : Meth X.K C "__lt__" g) (si : PySem.W.subIn X.K (.type "int") (.ref C) = some false) (sr : PySem.W.subIn X.K (.ref C) (.type "int") = some false)
    (G : FnOk X.prog X.w X.K X.mg X.base CX k f fd ps sp) (G2 : FnOk X.prog X.w X.K X.mg X.base CX j g gd qs sq) (room : Room k X.A) (room2 : Room j X.A) (bd : Binds X.K fd ps []) (bd2 : Binds X.K gd qs []) (out : Passes CX X E) : OpR X (compareOp .Gt) (rCmp C sp sq E) :=
  op_cmp (op := .Gt) (by rw [dc_gt]; exact M) (by rw [dm_gt]; exact N) si sr PySem.F.slot_int_gt PySem.F.entry_int_gt PySem.F.args_int_gt_2 (fun _ _ _ => by rfl) (fun _ _ => rfl) G G2 room room2 bd bd2 out
theorem dc_ge : (cmpInfo .GtE).2.1 = ("__ge__" : Str) := by decide +kernel
theorem dm_ge : (cmpInfo .GtE).2.2 = ("__le__" : Str) := by decide +kernel
theorem op_cmp_GtE (M : Meth X.K C "__ge__" f) (N : Meth X.K C "__le__" g) (si : PySem.W.subIn X.K (.type "int") (.ref C) = some false) (sr : PySem.W.subIn X.K (.ref C) (.type "int") = some false)
    (G : FnOk X.prog X.w X.K X.mg X.base CX k f fd ps sp) (G2 : FnOk X.prog X.w X.K X.mg X.base CX j g gd qs sq) (room : Room k X.A) (room2 : Room j X.A) (bd : Binds X.K fd ps []) (bd2 : Binds X.K gd qs []) (out : Passes CX X E) : OpR X (compareOp .GtE) (rCmp C sp sq E) :=
  op_cmp (op := .GtE) (by rw [dc_ge]; exact M) (by rw [dm_ge]; exact N) si sr PySem.F.slot_int_ge PySem.F.entry_int_ge PySem.F.args_int_ge_2 (fun _ _ _ => by rfl) (fun _ _ => rfl) G G2 room room2 bd bd2 out
theorem dc_eq : (cmpInfo .Eq).2.1 = ("__eq__" : Str) := by decide +kernel
theorem dm_eq : (cmpInfo .Eq).2.2 = ("__eq__" : Str) := by decide +kernel
theorem op_cmp_Eq (M : Meth X.K C "__eq__" f) (N : Meth X.K C "__eq__" g) (si : PySem.W.subIn X.K (.type "int") (.ref C) = some false) (sr : PySem.W.subIn X.K (.ref C) (.type "int") = some false)
    (G : FnOk X.prog X.w X.K X.mg X.base CX k f fd ps sp) (G2 : FnOk X.prog X.w X.K X.mg X.base CX j g gd qs sq) (room : Room k X.A) (room2 : Room j X.A) (bd : Binds X.K fd ps []) (bd2 : Binds X.K gd qs []) (out : Passes CX X E) : OpR X (compareOp .Eq) (rCmp C sp sq E) :=
  op_cmp (op := .Eq) (by rw [dc_eq]; exact M) (by rw [dm_eq]; exact N) si sr PySem.F.slot_int_eq PySem.F.entry_int_eq PySem.F.args_int_eq_2 (fun _ _ _ => by rfl) (fun _ _ => rfl) G G2 room room2 bd bd2 out
end

/-! ### bool(a) by the class's own -/
section
variable {prog : Program} {w : World}
theorem bool_new_in (x : Value) : MeetsIn prog w (Builtin.«bool.__new__» ⟨[.type "bool", x], []⟩) (fun A R s => wpAny (model prog w) A.in1 (truthy x) (fun b s' => R (.ok (.ret (.bool b))) s') (fun e s' => R (.error e) s') s) :=
  .of_wp fun A R s h => by
    obtain ⟨hp, g, d, tk, os⟩ := s
    have f1 := F.conv_sub_bool
    repeat (any_goals (first
      | assumption
      | (with_reducible refine wpAny_mono h (fun b s' z => ?_) fun _ _ z => z)
      | wp_step))
    all_goals first
      | exact ⟨_, rfl, z⟩
      | skip
end
section
variable {X : Cx} {CX : CXT} {k : Nat} {f C : Addr} {fd : FuncData} {ps : List Str} {sp : Sp} {E : XK}
def rBoolO (C : Addr) (sp : Sp) (E : XK) : List V → Hp → VK → Prop := fun xs H Q => ∃ a dx fs, xs = [.ref a] ∧ H a = some (.ins C dx fs) ∧ sp [.ref a] H (fun v H' => ∃ b, v = .bl b ∧ Q (.bl b) H') E
theorem call_boolO (M : Meth X.K C "__bool__" f) (G : FnOk X.prog X.w X.K X.mg X.base CX k f fd ps sp) (room : Room (k + 2) X.A) (bd : Binds X.K fd ps []) (out : Passes CX X E) : CallR X (.type "bool") (rBoolO C sp E) := by
  intro pins s σ H xs us Q I r h
  obtain ⟨a, dx, fs, rfl, ha, h⟩ := h
  obtain ⟨u, rfl, rx⟩ := vals1 r
  cases (show u = Value.ref a from rx)
  obtain ⟨_, od, J⟩ := inst_of I ha
  obtain ⟨m, F⟩ := I.fr
  refine callType_newIn PySem.F.called_bool PySem.F.newNe_bool (PySem.F.typeCall_bool_1 _) (PySem.F.newCall_bool_1 _) (fun obj => PySem.F.args_object_init_2 obj _) PySem.F.entry_bool_new (bool_new_in (.ref a)) ?_
  refine PySem.W.truthy_K F I.ok.mod.kin J M.at_ M.fn (wpAny_mono (run_in (B := X.A.in1.in1) G (room.in1.in1) rfl bd out I (.cons (show L2.RelV (.ref a) (.ref a) from rfl) .nil) h) (fun v s' z => ?_) fun _ _ z => z)
  obtain ⟨v', H', I', rv, b, rfl, q⟩ := z
  cases (show v = Value.bool b from rv)
  exact ⟨rfl, .bl b, H', I', rfl, q⟩
end

def nv (os : List Nat) : List V := (os.map fun (t : Nat) => (t : Int)).map V.int
theorem nv_at {os : List Nat} {i t : Nat} (h : os[i]? = some t) : (nv os)[i]? = some (.int (t : Int)) := by
  unfold nv
  rw [List.getElem?_map, List.getElem?_map, h]
  rfl
theorem nv_of {os : List Nat} {i : Nat} {x : V} (h : (nv os)[i]? = some x) : ∃ t : Nat, x = .int (t : Int) ∧ os[i]? = some t := by
  unfold nv at h
  obtain ⟨n, rfl, h2⟩ := int_of h
  rw [List.getElem?_map] at h2
  cases e : os[i]? with
  | none =>
    rw [e] at h2
    cases h2
  | some t =>
    rw [e] at h2
    exact ⟨t, by rw [← Option.some.inj h2], rfl⟩
theorem nv_len (os : List Nat) : (nv os).length = os.length := by
  unfold nv
  rw [List.length_map, List.length_map]
theorem nv_ins (os : List Nat) (k i : Nat) : (nv os).take k ++ [V.int (i : Int)] ++ (nv os).drop k = nv (os.take k ++ [i] ++ os.drop k) := by
  unfold nv
  simp only [List.map_append, List.map_take, List.map_drop, List.map_cons, List.map_nil]
theorem nv_flat (os : List Nat) : (nv os).all flatV = true := by
  rw [List.all_eq_true]
  intro x hx
  unfold nv at hx
  obtain ⟨n, _, rfl⟩ := List.mem_map.mp hx
  rfl
theorem nv_in {os : List Nat} {t : Nat} (h : t ∈ os) : inV (.int (t : Int)) (nv os) = true := by
  unfold inV
  rw [List.any_eq_true]
  refine ⟨.int (t : Int), ?_, ?_⟩
  · unfold nv
    exact List.mem_map.mpr ⟨(t : Int), List.mem_map.mpr ⟨t, h, rfl⟩, rfl⟩
  · show ((t : Int) == (t : Int)) = true
    exact beq_self_eq_true _
def pr (ns : List Int) (t : Nat) : Int := ns.getD t 0
theorem pr_at {ns : List Int} {t : Nat} (h : t < ns.length) : ns[t]? = some (pr ns t) := by
  unfold pr
  rw [List.getD_eq_getElem?_getD, List.getElem?_eq_getElem h]
  rfl
/-- the order that is asked: falling by price, of equal ones the lower first -/
def Dear (p : Nat → Int) (a b : Nat) : Prop := p b < p a ∨ (p a = p b ∧ a < b)
theorem dear_insert {p : Nat → Int} {os : List Nat} {i k : Nat} (hp : os.Pairwise (Dear p)) (hr : ∀ x ∈ os, x < i) (hd : ∀ j x, k ≤ j → os[j]? = some x → p x < p i)
    (hb : k = 0 ∨ ∃ y, os[k - 1]? = some y ∧ ¬ p y < p i) : (os.take k ++ [i] ++ os.drop k).Pairwise (Dear p) := by
  have hpp := hp
  rw [List.pairwise_iff_getElem] at hpp
  have h1 : (os.take k).Pairwise (Dear p) := hp.sublist (List.take_sublist k os)
  have h2 : (os.drop k).Pairwise (Dear p) := hp.sublist (List.drop_sublist k os)
  have h3 : ∀ x ∈ os.take k, Dear p x i := fun x hx => by
    obtain ⟨j, hj, e⟩ := List.mem_iff_getElem.mp hx
    rw [List.length_take] at hj
    have hj1 : j < os.length := by omega
    have hjk : j < k := by omega
    have e1 : os[j] = x := by
      rw [← e, List.getElem_take]
    have hxi : x < i := hr x (e1 ▸ List.getElem_mem hj1)
    rcases hb with hb | ⟨y, hy, hn⟩
    · omega
    · obtain ⟨g, ey⟩ := List.getElem?_eq_some_iff.mp hy
      have hxy : p y ≤ p x := by
        by_cases hjk1 : j = k - 1
        · subst hjk1
          rw [e1] at ey
          rw [ey]
          exact Int.le_refl _
        · have := hpp j (k - 1) hj1 g (by omega)
          rw [e1, ey] at this
          unfold Dear at this
          omega
      unfold Dear
      omega
  have h4 : ∀ x ∈ os.drop k, Dear p i x := fun x hx => by
    obtain ⟨j, hj, e⟩ := List.mem_iff_getElem.mp hx
    rw [List.length_drop] at hj
    have e1 : os[k + j]? = some x := by
      rw [← e, List.getElem_drop]
      exact List.getElem?_eq_getElem (by omega)
    exact .inl (hd (k + j) x (by omega) e1)
  have h5 : ∀ x ∈ os.take k, ∀ z ∈ os.drop k, Dear p x z := fun x hx z hz => by
    have a := h3 x hx
    have b := h4 z hz
    unfold Dear at *
    omega
  rw [List.append_assoc]
  refine List.pairwise_append.mpr ⟨h1, List.pairwise_append.mpr ⟨List.pairwise_singleton .., h2, fun x hx z hz => ?_⟩, fun x hx z hz => ?_⟩
  · rw [List.mem_singleton.mp hx]
    exact h4 z hz
  · rcases List.mem_append.mp hz with hz | hz
    · rw [List.mem_singleton.mp hz]
      exact h3 x hx
    · exact h5 x hx z hz
theorem perm_insert {os : List Nat} {i k : Nat} (h : os.Perm (List.range i)) : (os.take k ++ [i] ++ os.drop k).Perm (List.range (i + 1)) := by
  rw [List.range_succ]
  have h1 : (os.take k ++ [i] ++ os.drop k).Perm (os ++ [i]) := by
    have h2 : (os.take k ++ ([i] ++ os.drop k)).Perm (os.take k ++ (os.drop k ++ [i])) := List.Perm.append_left _ List.perm_append_comm
    rw [List.append_assoc]
    refine h2.trans ?_
    rw [← List.append_assoc, List.take_append_drop]
  exact h1.trans (h.append_right [i])
def lotOf (b : Int) : Nat → List Int
  | 0 => []
  | m + 1 => lotOf b m ++ (if b / 2 ^ m % 2 = 1 then [(m : Int)] else [])
def powSum (l : List Int) : Int := (l.map fun t => 1 * (2 : Int) ^ t.toNat).sum
theorem powSum_append (a b : List Int) : powSum (a ++ b) = powSum a + powSum b := by
  unfold powSum
  rw [List.map_append, List.sum_append]
theorem two_pos (m : Nat) : (0 : Int) < 2 ^ m := Int.pow_pos (by decide)
theorem half (b : Int) (m : Nat) : b / 2 ^ m / 2 = b / 2 ^ (m + 1) := by
  rw [Int.ediv_ediv_of_nonneg (Int.le_of_lt (two_pos m)), ← Int.pow_succ]
theorem powSum_lotOf (b : Int) : ∀ m : Nat, powSum (lotOf b m) = b % 2 ^ m
  | 0 => by
    show (0 : Int) = b % 1
    omega
  | m + 1 => by
    show powSum (lotOf b m ++ _) = _
    rw [powSum_append, powSum_lotOf b m]
    have e1 : (2 : Int) ^ (m + 1) = 2 ^ m * 2 := Int.pow_succ ..
    have e2 := Int.mul_ediv_add_emod b (2 ^ m)
    have e3 := Int.mul_ediv_add_emod b (2 ^ (m + 1))
    have e4 : b / 2 ^ (m + 1) = b / 2 ^ m / 2 := (half b m).symm
    have e5 := Int.emod_add_mul_ediv (b / 2 ^ m) 2
    have e6 : b % 2 ^ (m + 1) = b % 2 ^ m + 2 ^ m * (b / 2 ^ m % 2) := by
      have h1 : 2 ^ m * (b / 2 ^ m % 2 + 2 * (b / 2 ^ m / 2)) = 2 ^ m * (b / 2 ^ m) := by rw [e5]
      rw [Int.mul_add, ← Int.mul_assoc, ← e1, ← e4] at h1
      omega
    rw [e6]
    have h2 := Int.emod_two_eq (b / 2 ^ m)
    rcases h2 with h2 | h2
    · rw [h2, if_neg (by decide)]
      show _ + (0 : Int) = _
      omega
    · rw [h2, if_pos rfl]
      show _ + ((1 : Int) * 2 ^ ((m : Int)).toNat + 0) = _
      rw [Int.toNat_natCast]
      omega
theorem bit_mod (b : Int) {i m : Nat} (h : i < m) : (b % 2 ^ m) / 2 ^ i % 2 = b / 2 ^ i % 2 := by
  have e2 := Int.mul_ediv_add_emod b (2 ^ m)
  have e3 : (2 : Int) ^ m = 2 ^ i * (2 * 2 ^ (m - i - 1)) := by
    rw [← Int.mul_assoc, ← Int.pow_succ, ← Int.pow_add]
    congr 1
    omega
  have e4 : b = b % 2 ^ m + 2 ^ i * (2 * (2 ^ (m - i - 1) * (b / 2 ^ m))) := by
    have e5 : 2 ^ i * (2 * (2 ^ (m - i - 1) * (b / 2 ^ m))) = 2 ^ m * (b / 2 ^ m) := by
      generalize b / 2 ^ m = q
      rw [e3]
      simp only [Int.mul_assoc]
    omega
  conv => rhs; rw [e4]
  rw [Int.add_mul_ediv_left _ _ (Int.ne_of_gt (two_pos i)), Int.add_mul_emod_self_left]
theorem lotOf_mod (b : Int) {m : Nat} : ∀ {k : Nat}, k ≤ m → lotOf (b % 2 ^ m) k = lotOf b k
  | 0, _ => rfl
  | k + 1, h => by
    show lotOf (b % 2 ^ m) k ++ _ = lotOf b k ++ _
    rw [lotOf_mod b (Nat.le_of_succ_le h), bit_mod b h]
theorem lotOf_more (b : Int) (m : Nat) : lotOf (b % 2 ^ m) (m + 1) = lotOf b m := by
  show lotOf (b % 2 ^ m) m ++ _ = lotOf b m
  rw [lotOf_mod b (Nat.le_refl m), Int.ediv_eq_zero_of_lt (Int.emod_nonneg _ (Int.ne_of_gt (two_pos m))) (Int.emod_lt_of_pos _ (two_pos m)), if_neg (by decide), List.append_nil]
theorem lotOf_len (b : Int) : ∀ m : Nat, (lotOf b m).length ≤ m
  | 0 => Nat.le_refl 0
  | m + 1 => by
    show (lotOf b m ++ _).length ≤ _
    have h := lotOf_len b m
    rw [List.length_append]
    split <;> simp <;> omega
theorem lotOf_mem (b : Int) : ∀ {m : Nat} {t : Int}, t ∈ lotOf b m → 0 ≤ t ∧ t < m
  | 0, _, h => by cases h
  | m + 1, t, h => by
    rcases List.mem_append.mp h with h | h
    · have := lotOf_mem b h
      omega
    · split at h
      · have := List.mem_singleton.mp h
        omega
      · cases h
theorem lotOf_asc (b : Int) : ∀ m : Nat, (lotOf b m).Pairwise (· < ·)
  | 0 => List.Pairwise.nil
  | m + 1 => by
    refine List.pairwise_append.mpr ⟨lotOf_asc b m, ?_, fun x hx y hy => ?_⟩
    · split
      · exact List.pairwise_singleton ..
      · exact List.Pairwise.nil
    · split at hy
      · have := List.mem_singleton.mp hy
        have := lotOf_mem b hx
        omega
      · cases hy
theorem bit_one (x : Int) : Builtin.bitAnd x 1 = x % 2 := by
  have h := PySem.W.kbt_mask x 1
  exact h

/-! ### sorted(t, key=int), t a tuple of ints -/
section
variable {prog : Program} {w : World} {A : Around} {E : Value → Shared → Prop} {s : Shared}
/-- the items of a tuple as a list, with the heap as it then stands -/
theorem collect_tup {Q : List Value → Shared → Prop} (it : Addr) {o : Obj} {items : Array Value} {n : Nat} (ho : s.heap.get? it = some o) (hc : o.cls = .type "tuple") (hd : o.data = .seq items n)
    (hQ : Q items.toList { s with heap := (s.heap.push { cls := .type "list", data := .seq ([] : List Value).toArray }).update s.heap.objs.size (Obj.mapSeq (· ++ items)) }) (hsz : items.size ≤ sizeLine) :
    wpAny (model prog w) A (collect (.ref it)) Q E s := by
  unfold collect
  refine wpAny_bind (wpAny_runValue (codeAny_builtin F.entry_proto_collect ?_))
  rw [Around.under_plainId F.plain_proto_collect _]
  show wpAny _ A.in1 (newList [] >>= fun l => again (.builtin "list.__iadd__" ⟨[l, .ref it], []⟩)) _ _ s
  refine wpAny_bind (wpAny_newObj_type (wpAny_pure ⟨plainId_quiet F.plain_list_iadd _, codeAny_builtin F.entry_list_iadd ?_⟩))
  rw [Around.under_plainId F.plain_list_iadd _]
  show wpAny _ A.in1 (Builtin.List.listExtendWith (.ref s.heap.objs.size) (.ref it) (.ref s.heap.objs.size)) _ _ _
  have new : (s.heap.push { cls := .type "list", data := .seq ([] : List Value).toArray }).get? s.heap.objs.size = some { cls := .type "list", data := .seq #[] 0 } := Heap.get?_push_size _ rfl
  have grown := Heap.get?_update_self (Obj.mapSeq (· ++ items)) new rfl
  have last : wpAny (model prog w) A (match Value.ref s.heap.objs.size with
      | Value.ref a => do
        match (← load a).data with
          | Data.seq xs _ => pure xs.toList
          | _ => unsupported "internal:collect"
      | _ => unsupported "internal:collect") Q E { s with heap := (s.heap.push { cls := .type "list", data := .seq ([] : List Value).toArray }).update s.heap.objs.size (Obj.mapSeq (· ++ items)) } := by
    show wpAny _ A (load s.heap.objs.size >>= _) _ _ _
    refine wpAny_bind (wpAny_load grown (wpAny_pure ?_))
    show Q ((#[] : Array Value) ++ items).toList _
    rw [show ((#[] : Array Value) ++ items).toList = items.toList by simp]
    exact hQ
  refine wpAny_mono (wpAny_extend_seq (hsz := hsz) (A := A) (R := fun r s' => r = .ok (.ret (.ref s.heap.objs.size)) ∧ s' = { s with heap := (s.heap.push { cls := .type "list", data := .seq ([] : List Value).toArray }).update s.heap.objs.size (Obj.mapSeq (· ++ items)) })
    (s := { s with heap := s.heap.push { cls := .type "list", data := .seq ([] : List Value).toArray } }) _ it _ 0 (.inr rfl) new (Heap.get?_push_of_some _ ho) hc hd ⟨rfl, rfl⟩) (fun fin s' h => ?_) fun e s' h => absurd h.1 (by simp)
  cases fin with
  | done f =>
    obtain ⟨e, rfl⟩ := h
    cases e
    exact last
  | again c' =>
    refine ⟨h.1, codeAny_mono h.2 fun r s'' back => ?_⟩
    obtain ⟨rfl, rfl⟩ := back
    exact last
theorem type_key (a : Addr) (T : String) : Builtin.«list.sort» ⟨[.ref a], [(Str.ofString "key", .type T)]⟩ = PyProof.Rows.ksk_tree a (.type T) false := rfl
theorem sorted_tup_int {t : Addr} {vs : List Value} {ns : List Int} {Q : Value → Shared → Prop} (ht : IsTup s.heap t vs.toArray) (iv : PyProof.Rows.IntsAre vs ns) (hL : ns.length ≤ sizeLine) (hu : A.units + 3 < cLine)
    (h : ∀ out c h' tk p, s.heap.objs.size ≤ p → (∀ b o, s.heap.get? b = some o → h'.get? b = some o) → h'.get? p = some (seqObj "list" (List.toArray out) c) → PyProof.Rows.IntsAre out (ns.mergeSort fun a b => decide (a ≤ b)) → Q (.ref p) { s with heap := h', toks := tk }) :
    wpAny (model prog w) A (call (.builtin "sorted") [.ref t] [(Str.ofString "key", .type "int")]) Q E s := by
  have e : PySem.W.EachIs (fun (v : Value) (n : Int) => ∃ tk, v = .int n tk) vs ns := by
    clear ht h hL
    induction iv with
    | nil => exact .nil
    | cons n tk _ ih => exact .cons ⟨tk, rfl⟩ ih
  have back : ∀ {out : List Value} {ms : List Int}, PySem.W.EachIs (fun (v : Value) (n : Int) => ∃ tk, v = .int n tk) out ms → PyProof.Rows.IntsAre out ms := by
    intro out ms q
    induction q with
    | nil => exact .nil
    | cons r _ ih =>
      obtain ⟨tk, rfl⟩ := r
      exact .cons _ _ ih
  have hl : vs.length ≤ sizeLine := by rw [e.length]; exact hL
  obtain ⟨o, ho, hc, n, hd⟩ := id ht
  refine call_function_entry_kw kind_sorted plain_sorted entry_sorted (PyProof.Rows.ksk_s1 _ _) ?_
  unfold Builtin.«sorted»
  refine wpAny_bind (m := checkCount "sorted" 1 1 _) (wpAny_pure ?_)
  refine wpAny_bind (collect_tup t ho hc hd ?_ (by rw [List.size_toArray]; exact hl))
  have k1 : ∀ b u, s.heap.get? b = some u → ((s.heap.push { cls := .type "list", data := .seq ([] : List Value).toArray }).update s.heap.objs.size (Obj.mapSeq (· ++ vs.toArray))).get? b = some u := fun b u q =>
    (Heap.get?_update_other _ _ (Nat.ne_of_gt (Heap.lt_size q))).trans (Heap.get?_push_of_some _ q)
  have le : s.heap.objs.size ≤ ((s.heap.push { cls := .type "list", data := .seq ([] : List Value).toArray }).update s.heap.objs.size (Obj.mapSeq (· ++ vs.toArray))).objs.size := by
    rw [Heap.size_update, size_push']
    exact Nat.le_succ _
  generalize (s.heap.push { cls := .type "list", data := .seq ([] : List Value).toArray }).update s.heap.objs.size (Obj.mapSeq (· ++ vs.toArray)) = h1 at k1 le ⊢
  rw [show vs.toArray.toList = vs from by simp]
  refine wpAny_bind (wpAny_newList ?_ hl)
  have atp : (h1.push { cls := .type "list", data := .seq vs.toArray }).get? h1.objs.size = some (seqObj "list" vs.toArray 0) := Heap.get?_push_size _ rfl
  have old : ∀ b o, s.heap.get? b = some o → b ≠ h1.objs.size ∧ (h1.push { cls := .type "list", data := .seq vs.toArray }).get? b = some o := fun b o q => ⟨Nat.ne_of_lt (Heap.lt_size (k1 b o q)), Heap.get?_push_of_some _ (k1 b o q)⟩
  refine wpAny_bind (wpAny_holding (wpAny_call_entry_kw slot_list_sort ⟨_, atp, rfl⟩ entry_list_sort ?_ (PyProof.Rows.ksk_l1 _ _)))
  show wpAny (model prog w) A.in1.in1 (Builtin.«list.sort» ⟨[.ref h1.objs.size], [(Str.ofString "key", .type "int")]⟩) _ _ _
  rw [type_key]
  refine PySem.W.keyH_tree (kz := ns.map fun n => PyData.int n) (s := { s with heap := h1.push { cls := .type "list", data := .seq vs.toArray } }) atp (by rw [List.length_map]; exact e.length.symm) hl (PySem.W.AllAlike.of (enc := fun n => PyData.int n) fun _ _ => by simp [PySem.W.alike]) (PySem.W.Sortable.others (enc := fun n => PyData.int n) fun b => ⟨(fun z => by cases z), fun xs z => by cases z⟩)
    (PySem.W.bound_map (enc := fun n : Int => PyData.int n) (A := A.in1.in1) fun x _ => by show A.units + 2 + 0 < cLine; omega)
    (PySem.W.keyH_turns (s := { s with heap := h1.push { cls := .type "list", data := .seq vs.toArray } }) e fun v x hR hx h tk kp => ?_) fun h' tk out c kp hD ko => ⟨_, rfl, ?_⟩
  · obtain ⟨t', rfl⟩ := hR
    exact call_int_int ⟨h, tk, rfl, fun _ _ q => q, .int _ _⟩
  · have eo := PySem.W.keyedOut_each (R := fun (v : Value) (n : Int) => ∃ tk, v = .int n tk) (fun n : Int => PyData.int n) ko e
    rw [show PySem.W.dataLe false (fun n : Int => PyData.int n) = fun a b => decide (a ≤ b) from PySem.W.dataLe_int fun n => n] at eo
    exact wpAny_pure ⟨_, rfl, h out c h' tk _ le (fun b o q => kp b o (old b o q).1 (old b o q).2) hD (back eo)⟩
end
def rSortedInt (K : PySem.W.Frag) : List V → List V → Hp → VK → Prop := fun vs zs H Q => ∃ (t : Addr) (ns : List Int), vs = [.ref t] ∧ zs = [.ty "int"] ∧ SqT K H t (ns.map V.int) ∧ ns.length ≤ 1000 ∧ ∀ p, H p = none → Q (.ref p) (upd H p (.lst ((ns.mergeSort fun a b => decide (a ≤ b)).map V.int)))
theorem cr_sortedInt {X : Cx} (hu : X.A.units + 64 < cLine) : CallRK X (.builtin "sorted") [Str.ofString "key"] (rSortedInt X.K) := by
  intro pins s σ H vs zs us ws Q I r rz h
  obtain ⟨t, ns, rfl, rfl, hq, nl, q⟩ := h
  obtain rfl := Vals.ref1 r
  obtain ⟨w1, rfl, e1⟩ := vals1 rz
  obtain rfl : w1 = Value.type "int" := e1
  obtain ⟨its, rv, pl, hz⟩ := I.tuple hq
  have iv : PyProof.Rows.IntsAre its ns := by simpa using rv.ints
  refine sorted_tup_int pl iv (by rw [List.length_map] at hz; exact hz) (by omega) fun out c h' tk p hp k hD io => ?_
  have hlen : ((ns.mergeSort fun a b => decide (a ≤ b)).map V.int).length ≤ sizeLine := by
    rw [List.length_map, List.length_mergeSort]
    exact Nat.le_of_lt (small1000 (by omega))
  exact ⟨.ref p, _, I.laid (t' := tk) (o := .lst ((ns.mergeSort fun a b => decide (a ≤ b)).map V.int)) k hp ⟨hlen, out, c, vals_of_ints io, hD⟩, rfl, q p (I.hok.fresh hp)⟩
theorem cut_map (ps : List Int) (lo hi : Option Int) : ∃ ms : List Int, cutV (ps.map V.int) lo hi = ms.map V.int ∧ ∀ m ∈ ms, m ∈ ps := by
  unfold cutV
  refine ⟨(ps.drop (HT.sIx (ps.map V.int).length 0 lo)).take (HT.sIx (ps.map V.int).length (ps.map V.int).length hi - HT.sIx (ps.map V.int).length 0 lo), ?_, fun m hm => ?_⟩
  · rw [List.map_take, List.map_drop]
  · exact List.mem_of_mem_drop (List.mem_of_mem_take hm)
theorem within_rep {ds : List Int} {n : Nat} {b : Int} (h : Within ds (List.replicate n b)) : ∀ d ∈ ds, 0 ≤ d ∧ d < b := by
  induction n generalizing ds with
  | zero =>
    cases h.n
    intro d hd
    cases hd
  | succ n ih =>
    obtain ⟨d, r, rfl, h0, h1, w⟩ := Within.c (show Within ds (b :: List.replicate n b) from h)
    intro x hx
    rcases List.mem_cons.mp hx with rfl | hx
    · exact ⟨h0, h1⟩
    · exact ih w x hx
theorem five {α : Type} {xs : List α} (h : xs.length = 5) : ∃ a b c d e, xs = [a, b, c, d, e] := by
  rcases xs with _ | ⟨a, _ | ⟨b, _ | ⟨c, _ | ⟨d, _ | ⟨e, _ | ⟨f, r⟩⟩⟩⟩⟩⟩ <;> simp at h
  exact ⟨a, b, c, d, e, rfl⟩
theorem map_erase : ∀ (ls : List Int) (k : Nat), (ls.map V.int).eraseIdx k = (ls.eraseIdx k).map V.int
  | [], k => by cases k <;> rfl
  | n :: r, 0 => rfl
  | n :: r, k + 1 => by
    show V.int n :: (r.map V.int).eraseIdx k = _
    rw [map_erase r k]
    rfl
/-- the first k of an order, ascending -/
def firstK (os : List Int) (k : Int) : List Int := (os.take k.toNat).mergeSort fun a b => decide (a ≤ b)
theorem firstK_len (os : List Int) (k : Int) : (firstK os k).length ≤ os.length := by
  unfold firstK
  rw [List.length_mergeSort, List.length_take]
  exact Nat.min_le_right _ _
theorem perm_sumI {l k : List Int} (h : l.Perm k) : l.sum = k.sum := by
  induction h with
  | nil => rfl
  | cons x _ ih =>
    rw [List.sum_cons, List.sum_cons, ih]
  | swap x y r =>
    rw [List.sum_cons, List.sum_cons, List.sum_cons, List.sum_cons]
    omega
  | trans _ _ a b => exact a.trans b
/-- what lies above 0 -/
def ups (l : List Int) : Int := (l.map fun x => max 0 x).sum
theorem ups_nn : ∀ l : List Int, 0 ≤ ups l
  | [] => Int.le_refl _
  | x :: r => by
    have := ups_nn r
    show 0 ≤ max 0 x + ups r
    omega
theorem take_ups : ∀ (l : List Int) (j : Nat), (l.take j).sum ≤ ups l
  | l, 0 => by
    rw [List.take_zero]
    exact ups_nn l
  | [], _ + 1 => Int.le_refl _
  | x :: r, j + 1 => by
    have := take_ups r j
    show x + (r.take j).sum ≤ max 0 x + ups r
    omega
theorem ups_low : ∀ {l : List Int}, (∀ x ∈ l, x ≤ 0) → ups l = 0
  | [], _ => rfl
  | x :: r, h => by
    have h1 := h x List.mem_cons_self
    have h2 := ups_low fun y hy => h y (List.mem_cons_of_mem _ hy)
    show max 0 x + ups r = 0
    omega
/-- behind one that isn't above 0 there is none above 0 -/
def Falls (l : List Int) : Prop := l.Pairwise fun x y => 0 < y → 0 < x
/-- how many are above 0 -/
def hi (l : List Int) : Nat := l.countP fun x => decide (0 < x)
theorem hi_cons (x : Int) (r : List Int) : hi (x :: r) = hi r + if 0 < x then 1 else 0 := by
  unfold hi
  rw [List.countP_cons]
  by_cases h : 0 < x
  · rw [if_pos h, if_pos (decide_eq_true h)]
  · rw [if_neg h, if_neg (by rw [decide_eq_false h]; exact Bool.false_ne_true)]
theorem falls_low {x : Int} {r : List Int} (h : Falls (x :: r)) (k : ¬ 0 < x) : ∀ y ∈ x :: r, y ≤ 0 := fun y hy => by
  rcases List.mem_cons.mp hy with rfl | hy
  · omega
  · have := (List.pairwise_cons.mp h).1 y hy
    rcases (by omega : y ≤ 0 ∨ 0 < y) with z | z
    · exact z
    · exact absurd (this z) k
theorem hi_low : ∀ {l : List Int}, (∀ x ∈ l, x ≤ 0) → hi l = 0
  | [], _ => rfl
  | x :: r, h => by
    have h1 := h x List.mem_cons_self
    rw [hi_cons, hi_low fun y hy => h y (List.mem_cons_of_mem _ hy), if_neg (by omega)]
theorem take_hi : ∀ {l : List Int}, Falls l → (l.take (hi l)).sum = ups l
  | [], _ => rfl
  | x :: r, h => by
    by_cases k : 0 < x
    · rw [hi_cons, if_pos k]
      have := take_hi (List.pairwise_cons.mp h).2
      show x + (r.take (hi r)).sum = max 0 x + ups r
      omega
    · have lo := falls_low h k
      rw [hi_low lo, ups_low lo]
      rfl
theorem take_lt : ∀ {l : List Int} {j : Nat}, Falls l → j < hi l → (l.take j).sum < ups l
  | [], _, _, h => by cases h
  | x :: r, j, h, hj => by
    by_cases k : 0 < x
    · rw [hi_cons, if_pos k] at hj
      cases j with
      | zero =>
        have := ups_nn r
        show (0 : Int) < max 0 x + ups r
        omega
      | succ j =>
        have := take_lt (List.pairwise_cons.mp h).2 (show j < hi r by omega)
        show x + (r.take j).sum < max 0 x + ups r
        omega
    · rw [hi_low (falls_low h k)] at hj
      cases hj
theorem hi_le (l : List Int) : hi l ≤ l.length := List.countP_le_length
/-- the first prefix that reaches the bound is the one of those above 0 -/
theorem best_prefix {l : List Int} {k : Nat} {M : Int} (f : Falls l) (all : ∀ j ≤ l.length, (l.take j).sum ≤ M) (at_ : (l.take k).sum = M) (low : ∀ j < k, (l.take j).sum < M) : ups l = M ∧ k = hi l := by
  have h1 := all (hi l) (hi_le l)
  rw [take_hi f] at h1
  have h2 := take_ups l k
  have e : ups l = M := by omega
  refine ⟨e, ?_⟩
  rcases Nat.lt_trichotomy k (hi l) with z | z | z
  · have := take_lt f z
    omega
  · exact z
  · have := low _ z
    rw [take_hi f] at this
    omega
/-- what a thing brings above the rate T over B -/
def fz (ws ps : List Int) (T B : Int) (t : Nat) : Int := ws.getD t 0 * (ps.getD t 0 * B - T)
theorem fz_pos {ws ps : List Int} {T B : Int} {t : Nat} (h : 1 ≤ ws.getD t 0) : 0 < fz ws ps T B t ↔ T < ps.getD t 0 * B := by
  unfold fz
  constructor
  · intro z
    rcases (by omega : ps.getD t 0 * B - T ≤ 0 ∨ 0 < ps.getD t 0 * B - T) with y | y
    · have := Int.mul_le_mul_of_nonneg_left y (show 0 ≤ ws.getD t 0 by omega)
      rw [Int.mul_zero] at this
      omega
    · omega
  · intro z
    exact Int.mul_pos (by omega) (by omega)
/-- the things dearer than T over B -/
def dearT (ws ps : List Int) (T B : Int) : List Nat := (List.range ws.length).filter fun t => decide (T < ps.getD t 0 * B)
def allF (ws ps : List Int) (T B : Int) : List Int := (List.range ws.length).map (fz ws ps T B)
theorem vw_sum (ws ps : List Int) (T B : Int) : ∀ os : List Nat, vSum ws ps (os.map fun (t : Nat) => (t : Int)) * B - T * wSum ws (os.map fun (t : Nat) => (t : Int)) = (os.map (fz ws ps T B)).sum
  | [] => by
    unfold vSum wSum
    show (0 : Int) * B - T * 0 = 0
    rw [Int.zero_mul, Int.mul_zero]
    rfl
  | t :: r => by
    have ih := vw_sum ws ps T B r
    have e1 : vSum ws ps ((t :: r).map fun (t : Nat) => (t : Int)) = ws.getD t 0 * ps.getD t 0 + vSum ws ps (r.map fun (t : Nat) => (t : Int)) := by
      unfold vSum
      rw [List.map_cons, List.map_cons, List.sum_cons, Int.toNat_natCast]
    have e2 : wSum ws ((t :: r).map fun (t : Nat) => (t : Int)) = ws.getD t 0 + wSum ws (r.map fun (t : Nat) => (t : Int)) := by
      unfold wSum
      rw [List.map_cons, List.map_cons, List.sum_cons, Int.toNat_natCast]
    rw [e1, e2, List.map_cons, List.sum_cons, ← ih]
    unfold fz
    generalize vSum ws ps (r.map fun (t : Nat) => (t : Int)) = a
    generalize wSum ws (r.map fun (t : Nat) => (t : Int)) = c
    grind
theorem vSum_perm {ws ps a b : List Int} (h : a.Perm b) : vSum ws ps a = vSum ws ps b := perm_sumI (h.map _)
theorem wSum_perm {ws a b : List Int} (h : a.Perm b) : wSum ws a = wSum ws b := perm_sumI (h.map _)
theorem filter_ups (F : Nat → Int) (P : Nat → Bool) (h : ∀ t, P t = decide (0 < F t)) : ∀ l : List Nat, ((l.filter P).map F).sum = ups (l.map F)
  | [] => rfl
  | t :: r => by
    have ih := filter_ups F P h r
    by_cases k : 0 < F t
    · rw [List.filter_cons_of_pos (by rw [h t]; exact decide_eq_true k)]
      show F t + ((r.filter P).map F).sum = max 0 (F t) + ups (r.map F)
      omega
    · rw [List.filter_cons_of_neg (by rw [h t, decide_eq_false k]; exact Bool.false_ne_true)]
      show ((r.filter P).map F).sum = max 0 (F t) + ups (r.map F)
      omega
theorem lotOf_ups (F : Nat → Int) (b : Int) : ∀ m : Nat, ((lotOf b m).map fun n => F n.toNat).sum ≤ ups ((List.range m).map F)
  | 0 => Int.le_refl _
  | m + 1 => by
    have ih := lotOf_ups F b m
    have e : ups ((List.range (m + 1)).map F) = ups ((List.range m).map F) + max 0 (F m) := by
      unfold ups
      rw [List.range_succ, List.map_append, List.map_append, List.sum_append]
      congr 1
      show max 0 (F m) + 0 = _
      omega
    rw [e]
    show ((lotOf b m ++ (if b / 2 ^ m % 2 = 1 then [(m : Int)] else [])).map _).sum ≤ _
    rw [List.map_append, List.sum_append]
    split
    · show _ + (F ((m : Int)).toNat + 0) ≤ _
      rw [Int.toNat_natCast]
      omega
    · show _ + 0 ≤ _
      omega
/-- z = T over B is the best worth, brought by the k dearest things -/
structure BestK (ws ps : List Int) (b T B : Int) (k : Nat) : Prop where
  B0 : 0 < B
  T0 : 0 ≤ T
  Tb : T ≤ 10 ^ 39
  Bb : B ≤ 10 ^ 21
  pap : ups (allF ws ps T B) = b * T
  cnt : k = (dearT ws ps T B).length
theorem BestK.dear_at {ws ps : List Int} {b T B : Int} {k : Nat} (h : BestK ws ps b T B k) (w1 : ∀ w ∈ ws, 1 ≤ w) : vSum ws ps ((dearT ws ps T B).map fun (t : Nat) => (t : Int)) * B = T * (b + wSum ws ((dearT ws ps T B).map fun (t : Nat) => (t : Int))) := by
  have e := vw_sum ws ps T B (dearT ws ps T B)
  have e2 : ((dearT ws ps T B).map (fz ws ps T B)).sum = ups (allF ws ps T B) := by
    unfold dearT allF
    have : ∀ l : List Nat, (∀ t ∈ l, t < ws.length) → ((l.filter fun t => decide (T < ps.getD t 0 * B)).map (fz ws ps T B)).sum = ups (l.map (fz ws ps T B)) := by
      intro l
      induction l with
      | nil => exact fun _ => rfl
      | cons t r ih =>
        intro hl
        have ih := ih fun x hx => hl x (List.mem_cons_of_mem _ hx)
        have wt : 1 ≤ ws.getD t 0 := by
          have lt := hl t List.mem_cons_self
          rw [List.getD_eq_getElem?_getD, List.getElem?_eq_getElem lt]
          exact w1 _ (List.getElem_mem lt)
        by_cases k : T < ps.getD t 0 * B
        · rw [List.filter_cons_of_pos (p := fun t => decide (T < ps.getD t 0 * B)) (decide_eq_true k)]
          have := (fz_pos (ps := ps) (T := T) (B := B) wt).mpr k
          show fz ws ps T B t + (List.map _ _).sum = max 0 (fz ws ps T B t) + ups _
          omega
        · rw [List.filter_cons_of_neg (p := fun t => decide (T < ps.getD t 0 * B)) (by rw [decide_eq_false k]; exact Bool.false_ne_true)]
          have : ¬ 0 < fz ws ps T B t := fun z => k ((fz_pos wt).mp z)
          show (List.map _ _).sum = max 0 (fz ws ps T B t) + ups _
          omega
    exact this _ fun t ht => List.mem_range.mp ht
  rw [e2, h.pap] at e
  rw [Int.mul_add]
  have : b * T = T * b := Int.mul_comm _ _
  omega
theorem BestK.lot_le {ws ps : List Int} {b T B : Int} {k : Nat} (h : BestK ws ps b T B k) (c : Int) : vSum ws ps (lotOf c ws.length) * B ≤ T * (b + wSum ws (lotOf c ws.length)) := by
  have e := lotOf_ups (fz ws ps T B) c ws.length
  have p := h.pap
  unfold allF at p
  rw [p] at e
  have v := vw_sum ws ps T B ((lotOf c ws.length).map Int.toNat)
  have back : ((lotOf c ws.length).map Int.toNat).map (fun (t : Nat) => (t : Int)) = lotOf c ws.length := by
    rw [List.map_map]
    exact (List.map_congr_left fun n hn => Int.toNat_of_nonneg (lotOf_mem c hn).1).trans (List.map_id _)
  rw [back, List.map_map] at v
  have v : vSum ws ps (lotOf c ws.length) * B - T * wSum ws (lotOf c ws.length) = ((lotOf c ws.length).map fun n => fz ws ps T B n.toNat).sum := v
  rw [Int.mul_add]
  have : b * T = T * b := Int.mul_comm _ _
  omega
theorem falls_of {ws ps : List Int} {T B : Int} {os : List Nat} (w1 : ∀ w ∈ ws, 1 ≤ w) (B0 : 0 < B) (pm : os.Perm (List.range ws.length)) (pw : os.Pairwise (Dear (pr ps))) : Falls (os.map (fz ws ps T B)) := by
  unfold Falls
  rw [List.pairwise_map]
  have mem : ∀ t ∈ os, 1 ≤ ws.getD t 0 := fun t ht => by
    have lt := List.mem_range.mp (pm.mem_iff.mp ht)
    rw [List.getD_eq_getElem?_getD, List.getElem?_eq_getElem lt]
    exact w1 _ (List.getElem_mem lt)
  refine List.Pairwise.imp_of_mem (fun {x y} hx hy d z => ?_) pw
  have z := (fz_pos (mem y hy)).mp z
  refine (fz_pos (mem x hx)).mpr ?_
  have le : pr ps y ≤ pr ps x := by
    unfold Dear at d
    omega
  have := Int.mul_le_mul_of_nonneg_right le (show 0 ≤ B by omega)
  unfold pr at this
  omega
theorem hi_dear {ws ps : List Int} {T B : Int} {os : List Nat} (w1 : ∀ w ∈ ws, 1 ≤ w) (pm : os.Perm (List.range ws.length)) : hi (os.map (fz ws ps T B)) = (dearT ws ps T B).length := by
  unfold hi dearT
  rw [List.countP_map, ← List.countP_eq_length_filter, pm.countP_eq]
  refine List.countP_congr fun t ht => ?_
  have lt := List.mem_range.mp ht
  have wt : 1 ≤ ws.getD t 0 := by
    rw [List.getD_eq_getElem?_getD, List.getElem?_eq_getElem lt]
    exact w1 _ (List.getElem_mem lt)
  show decide (0 < fz ws ps T B t) = true ↔ decide (T < ps.getD t 0 * B) = true
  rw [decide_eq_true_iff, decide_eq_true_iff]
  exact fz_pos wt
theorem ups_perm {ws ps : List Int} {T B : Int} {os : List Nat} (pm : os.Perm (List.range ws.length)) : ups (os.map (fz ws ps T B)) = ups (allF ws ps T B) := perm_sumI ((pm.map _).map _)
/-- a prefix of a falling order against the best worth -/
theorem BestK.gap {ws ps : List Int} {b T B : Int} {k : Nat} (h : BestK ws ps b T B k) (w1 : ∀ w ∈ ws, 1 ≤ w) {os : List Nat} (pm : os.Perm (List.range ws.length)) (pw : os.Pairwise (Dear (pr ps))) (j : Nat) {V W : Int} (hV : V = vSum ws ps ((os.take j).map fun (t : Nat) => (t : Int))) (hW : W = wSum ws ((os.take j).map fun (t : Nat) => (t : Int))) :
    0 ≤ T * (b + W) - V * B ∧ (j < k → T * (b + W) - V * B ≠ 0) ∧ (j = k → T * (b + W) - V * B = 0) := by
  have f := falls_of (T := T) (B := B) w1 h.B0 pm pw
  have e := vw_sum ws ps T B (os.take j)
  rw [← hV, ← hW] at e
  have u := ups_perm (ps := ps) (T := T) (B := B) pm
  have hk := hi_dear (ps := ps) (T := T) (B := B) w1 pm
  rw [← h.cnt] at hk
  rw [h.pap] at u
  have e1 := take_ups (os.map (fz ws ps T B)) j
  rw [← List.map_take, ← e, u] at e1
  have c : b * T = T * b := Int.mul_comm _ _
  have g : T * (b + W) - V * B = T * b - (V * B - T * W) := by
    rw [Int.mul_add]
    omega
  refine ⟨by omega, fun z => ?_, fun z => ?_⟩
  · have e2 := take_lt f (show j < hi (os.map (fz ws ps T B)) by omega)
    rw [← List.map_take, ← e, u] at e2
    omega
  · have e2 := take_hi f
    rw [hk, ← z, ← List.map_take, ← e, u] at e2
    omega
/-- the first greatest worth of the prefixes of a falling order is the best -/
theorem best_of {ws ps : List Int} {b T B : Int} {k : Nat} (w1 : ∀ w ∈ ws, 1 ≤ w) (B0 : 0 < B) (T0 : 0 ≤ T) (Tb : T ≤ 10 ^ 39) (Bb : B ≤ 10 ^ 21) {os : List Nat} (pm : os.Perm (List.range ws.length)) (pw : os.Pairwise (Dear (pr ps)))
    (all : ∀ j ≤ ws.length, vSum ws ps ((os.take j).map fun (t : Nat) => (t : Int)) * B ≤ T * (b + wSum ws ((os.take j).map fun (t : Nat) => (t : Int))))
    (at_ : vSum ws ps ((os.take k).map fun (t : Nat) => (t : Int)) * B = T * (b + wSum ws ((os.take k).map fun (t : Nat) => (t : Int))))
    (low : ∀ j < k, vSum ws ps ((os.take j).map fun (t : Nat) => (t : Int)) * B < T * (b + wSum ws ((os.take j).map fun (t : Nat) => (t : Int)))) : BestK ws ps b T B k := by
  have f := falls_of (T := T) (B := B) w1 B0 pm pw
  have ol : os.length = ws.length := by rw [pm.length_eq, List.length_range]
  have c : b * T = T * b := Int.mul_comm _ _
  obtain ⟨e, hk⟩ := best_prefix (l := os.map (fz ws ps T B)) (k := k) (M := b * T) f (fun j hj => by
      rw [List.length_map] at hj
      have z := all j (by omega)
      rw [← List.map_take, ← vw_sum]
      rw [Int.mul_add] at z
      omega) (by
      rw [← List.map_take, ← vw_sum]
      have z := at_
      rw [Int.mul_add] at z
      omega) (fun j hj => by
      have z := low j hj
      rw [← List.map_take, ← vw_sum]
      rw [Int.mul_add] at z
      omega)
  exact ⟨B0, T0, Tb, Bb, (ups_perm pm).symm.trans e, hk.trans (hi_dear w1 pm)⟩
theorem ups_if : ∀ l : List Int, (l.map fun x => if x > 0 then x else 0).sum = ups l
  | [] => rfl
  | x :: r => by
    have ih := ups_if r
    show (if x > 0 then x else 0) + (r.map fun x => if x > 0 then x else 0).sum = max 0 x + ups r
    rw [ih]
    by_cases h : x > 0
    · rw [if_pos h]
      omega
    · rw [if_neg h]
      omega
theorem ups_mono {F G : Nat → Int} {c d : Int} (c0 : 0 ≤ c) (d0 : 0 ≤ d) : ∀ {l : List Nat}, (∀ t ∈ l, F t * c ≤ G t * d) → ups (l.map F) * c ≤ ups (l.map G) * d
  | [], _ => by
    show (0 : Int) * c ≤ 0 * d
    rw [Int.zero_mul, Int.zero_mul]
    exact Int.le_refl _
  | t :: r, h => by
    have ih := ups_mono c0 d0 fun x hx => h x (List.mem_cons_of_mem _ hx)
    have h0 := h t List.mem_cons_self
    show (max 0 (F t) + ups (r.map F)) * c ≤ (max 0 (G t) + ups (r.map G)) * d
    rw [Int.add_mul, Int.add_mul]
    have h1 : max 0 (F t) * c ≤ max 0 (G t) * d := by
      rcases (by omega : F t ≤ 0 ∨ 0 < F t) with z | z
      · rw [show max 0 (F t) = 0 by omega, Int.zero_mul]
        exact Int.mul_nonneg (by omega) d0
      · rw [show max 0 (F t) = F t by omega]
        rcases (by omega : G t ≤ 0 ∨ 0 < G t) with y | y
        · rw [show max 0 (G t) = 0 by omega, Int.zero_mul]
          have := Int.mul_le_mul_of_nonneg_right y d0
          rw [Int.zero_mul] at this
          omega
        · rw [show max 0 (G t) = G t by omega]
          exact h0
    omega
theorem BestK.not_above {ws ps : List Int} {b T B T2 B2 : Int} {k k2 : Nat} (b0 : 0 < b) (w0 : ∀ w ∈ ws, 0 ≤ w) (h : BestK ws ps b T B k) (g : BestK ws ps b T2 B2 k2) : T2 * B ≤ T * B2 := by
  have B0 := h.B0
  have B1 := g.B0
  rcases (by omega : T2 * B ≤ T * B2 ∨ T * B2 ≤ T2 * B) with z | z
  · exact z
  · have m := ups_mono (F := fz ws ps T2 B2) (G := fz ws ps T B) (c := B) (d := B2) (by omega) (by omega) (l := List.range ws.length) fun t ht => by
      unfold fz
      have wt : 0 ≤ ws.getD t 0 := by
        rw [List.getD_eq_getElem?_getD, List.getElem?_eq_getElem (List.mem_range.mp ht)]
        exact w0 _ (List.getElem_mem _)
      have e : (ps.getD t 0 * B2 - T2) * B ≤ (ps.getD t 0 * B - T) * B2 := by
        have : ps.getD t 0 * B2 * B = ps.getD t 0 * B * B2 := by grind
        rw [Int.sub_mul, Int.sub_mul]
        omega
      have := Int.mul_le_mul_of_nonneg_left e wt
      rw [Int.mul_assoc, Int.mul_assoc]
      exact this
    have p1 := h.pap
    have p2 := g.pap
    unfold allF at p1 p2
    rw [p1, p2, Int.mul_assoc, Int.mul_assoc] at m
    exact Int.le_of_mul_le_mul_left m b0
/-- there is one best worth only -/
theorem BestK.one {ws ps : List Int} {b T B T2 B2 : Int} {k k2 : Nat} (b0 : 0 < b) (w1 : ∀ w ∈ ws, 1 ≤ w) (h : BestK ws ps b T B k) (g : BestK ws ps b T2 B2 k2) : T2 * B = T * B2 ∧ k2 = k := by
  have w0 : ∀ w ∈ ws, 0 ≤ w := fun w hw => by
    have := w1 w hw
    omega
  have e : T2 * B = T * B2 := by
    have h1 := BestK.not_above b0 w0 h g
    have h2 := BestK.not_above b0 w0 g h
    omega
  refine ⟨e, ?_⟩
  rw [h.cnt, g.cnt]
  unfold dearT
  have B0 := h.B0
  have B1 := g.B0
  have : ∀ t : Nat, decide (T2 < ps.getD t 0 * B2) = decide (T < ps.getD t 0 * B) := fun t => by
    refine decide_eq_decide.mpr ⟨fun z => ?_, fun z => ?_⟩
    · have h1 := Int.mul_lt_mul_of_pos_right z B0
      have h2 : ps.getD t 0 * B2 * B = ps.getD t 0 * B * B2 := by grind
      rw [e, h2] at h1
      exact Int.lt_of_mul_lt_mul_right h1 (by omega)
    · have h1 := Int.mul_lt_mul_of_pos_right z B1
      have h2 : ps.getD t 0 * B * B2 = ps.getD t 0 * B2 * B := by grind
      rw [← e, h2] at h1
      exact Int.lt_of_mul_lt_mul_right h1 (by omega)
  exact congrArg List.length (congrArg (fun P => List.filter P (List.range ws.length)) (funext this))
theorem firstK_mem {os : List Int} {k n : Int} : n ∈ firstK os k ↔ n ∈ os.take k.toNat := (List.mergeSort_perm _ _).mem_iff
theorem lotB_of : ∀ {ns : List Int} {b m : Int}, ns.Pairwise (· < ·) → (∀ x ∈ ns, b < x ∧ x < m) → lotB ns b m = true
  | [], _, _, _, _ => rfl
  | n :: r, b, m, h, k => by
    have hn := k n List.mem_cons_self
    obtain ⟨h1, h2⟩ := List.pairwise_cons.mp h
    exact (if_neg (by omega) : lotB (n :: r) b m = lotB r n m).trans (lotB_of h2 fun x hx => ⟨h1 x hx, (k x (List.mem_cons_of_mem _ hx)).2⟩)

theorem first_perm (os : List Int) (k : Int) : (firstK os k).Perm (os.take k.toNat) := List.mergeSort_perm _ _
/-- the first k of an order as a lot -/
theorem first_lot {m : Nat} {os : List Nat} (pm : os.Perm (List.range m)) (k : Int) : lotB (firstK (os.map fun (t : Nat) => (t : Int)) k) (-1) (m : Int) = true := by
  have nd : (os.map fun (t : Nat) => (t : Int)).Nodup := List.Pairwise.map _ (fun a b h => by
    intro z
    exact h (Int.ofNat.inj z)) (pm.nodup_iff.mpr List.nodup_range)
  have h1 : (firstK (os.map fun (t : Nat) => (t : Int)) k).Pairwise fun a b => decide (a ≤ b) = true := List.pairwise_mergeSort (fun a b c h1 h2 => by
    have h1 := of_decide_eq_true h1
    have h2 := of_decide_eq_true h2
    exact decide_eq_true (by omega)) (fun a b => by
    rcases Int.le_total a b with h | h
    · rw [decide_eq_true h]
      rfl
    · rw [decide_eq_true h, Bool.or_true]) _
  have h2 : (firstK (os.map fun (t : Nat) => (t : Int)) k).Nodup := (first_perm _ _).nodup_iff.mpr ((List.take_sublist _ _).nodup nd)
  refine lotB_of ?_ fun x hx => ?_
  · have h3 := h1.and h2
    exact h3.imp fun {a b} h => by
      have := of_decide_eq_true h.1
      have := h.2
      omega
  · have hx := (first_perm _ _).mem_iff.mp hx
    obtain ⟨t, ht, rfl⟩ := List.mem_map.mp (List.mem_of_mem_take hx)
    have := List.mem_range.mp (pm.mem_iff.mp ht)
    omega
theorem first_take {ws ps : List Int} (os : List Nat) (j : Nat) : vSum ws ps (firstK (os.map fun (t : Nat) => (t : Int)) (j : Int)) = vSum ws ps ((os.take j).map fun (t : Nat) => (t : Int)) ∧ wSum ws (firstK (os.map fun (t : Nat) => (t : Int)) (j : Int)) = wSum ws ((os.take j).map fun (t : Nat) => (t : Int)) := by
  have h := first_perm (os.map fun (t : Nat) => (t : Int)) (j : Int)
  rw [Int.toNat_natCast, ← List.map_take] at h
  exact ⟨vSum_perm h, wSum_perm h⟩
theorem better {V D T B T' B' : Int} (D0 : 0 < D) (B0 : 0 < B) (B1 : 0 < B') (h : V * B ≤ T * D) (g : T * B' < T' * B) : V * B' < T' * D := by
  rcases Int.lt_or_le (V * B') (T' * D) with z | z
  · exact z
  · have h1 := Int.mul_le_mul_of_nonneg_right h (show 0 ≤ B' by omega)
    have h2 := Int.mul_lt_mul_of_pos_right g D0
    have h3 := Int.mul_le_mul_of_nonneg_right z (show 0 ≤ B by omega)
    have e1 : V * B * B' = V * B' * B := by grind
    have e2 : T * D * B' = T * B' * D := by grind
    have e3 : T' * B * D = T' * D * B := by grind
    omega
theorem worse {V D T B T' B' : Int} (D0 : 0 < D) (B1 : 0 < B') (e : T' * D = V * B') (g : T' * B ≤ T * B') : V * B ≤ T * D := by
  have h2 := Int.mul_le_mul_of_nonneg_right g (show 0 ≤ D by omega)
  have e1 : T' * B * D = V * B * B' := by
    have : T' * B * D = T' * D * B := by grind
    rw [this, e]
    grind
  have e2 : T * B' * D = T * D * B' := by grind
  rw [e1, e2] at h2
  exact Int.le_of_mul_le_mul_right h2 B1
theorem sm_60 {x : Int} (h : x.natAbs ≤ 10 ^ 60) : Sm x := sm_of (n := 300) (Nat.lt_of_le_of_lt h (by decide))
theorem low_01 {T B : Int} (h : LowT 0 1 T B) : T = 0 ∧ B = 1 := by
  have h1 := h.eq
  have h2 := h.pos
  have h3 := h.leB
  rw [Int.zero_mul, Int.mul_one] at h1
  exact ⟨h1, by omega⟩
theorem vw_bd {ws ps : List Int} {b : Int} (fi : Fine ws b ps) (hp0 : ∀ p ∈ ps, 0 ≤ p) {ns : List Int} (nl : ns.length ≤ 24) : 0 ≤ vSum ws ps ns ∧ vSum ws ps ns ≤ 24 * 10 ^ 36 ∧ 0 ≤ wSum ws ns ∧ wSum ws ns ≤ 24 * 10 ^ 18 := by
  have bd := items_bd (ns := ns) fi.w1 fi.w2 hp0 fi.p2
  have tot := sum_bd bd
  rw [List.length_map] at tot
  have t2 : (ns.length : Int) * 10 ^ 36 ≤ 24 * 10 ^ 36 := Int.mul_le_mul_of_nonneg_right (by omega) (by decide)
  have S1 := wSum_le ns fi.w2
  have S2 : (ns.length : Int) * 10 ^ 18 ≤ 24 * 10 ^ 18 := Int.mul_le_mul_of_nonneg_right (by omega) (by decide)
  refine ⟨sum_nn fun x hx => (bd x hx).1, by unfold vSum; omega, ?_, by omega⟩
  unfold wSum
  exact sum_nn fun x hx => by
    obtain ⟨n, _, rfl⟩ := List.mem_map.mp hx
    exact getD_nn fi.w1 _

/-- the things dearer than T over B, of the first i -/
def dearU (ps : List Int) (T B : Int) (i : Nat) : List Int := ((List.range i).filter fun t => decide (T < ps.getD t 0 * B)).map fun (t : Nat) => (t : Int)
theorem dearU_all (ws ps : List Int) (T B : Int) : dearU ps T B ws.length = (dearT ws ps T B).map fun (t : Nat) => (t : Int) := rfl
theorem dearU_next (ps : List Int) (T B : Int) (i : Nat) : dearU ps T B (i + 1) = dearU ps T B i ++ if T < ps.getD i 0 * B then [(i : Int)] else [] := by
  unfold dearU
  rw [List.range_succ, List.filter_append, List.map_append]
  congr 1
  by_cases h : T < ps.getD i 0 * B
  · rw [if_pos h, List.filter_cons_of_pos (p := fun t => decide (T < ps.getD t 0 * B)) (decide_eq_true h)]
    rfl
  · rw [if_neg h, List.filter_cons_of_neg (p := fun t => decide (T < ps.getD t 0 * B)) (by rw [decide_eq_false h]; exact Bool.false_ne_true)]
    rfl
theorem dearU_len (ps : List Int) (T B : Int) (i : Nat) : (dearU ps T B i).length ≤ i := by
  unfold dearU
  rw [List.length_map]
  have := List.length_filter_le (fun t => decide (T < ps.getD t 0 * B)) (List.range i)
  rw [List.length_range] at this
  exact this
theorem fW_best_dearest (m a : Int) (t : Addr) : (fW m a t).lookup ("best_dearest" : Str) = none := by rfl
theorem fW_best (m a : Int) (t : Addr) : (fW m a t).lookup ("best" : Str) = none := by rfl

/-- over a list or a tuple -/
theorem pi_Q {X : Cx} {tg e : Expr} {te : TE} (he : PE X e te) : PI X tg e (fun σ H R => te σ H fun v H1 => ∃ a, v = V.ref a ∧ (((∃ xs, SqL X.K H1 a xs) ∧ R (Itl X.K a) H1) ∨ ((∃ xs, SqT X.K H1 a xs) ∧ R (Itt X.K a) H1))) := by
  refine ⟨fun ps t τ G R J h => thn (he.run ps t τ G _ J h) ?_⟩
  rintro v t2 ⟨x, G1, J1, rx, a, rfl, q⟩
  cases (show v = Value.ref a from rx)
  rcases q with ⟨⟨xs, hq⟩, q⟩ | ⟨⟨xs, hq⟩, q⟩
  · obtain ⟨its, _, pl, _⟩ := J1.list hq
    exact wpAny_pyIter_list pl.isList (pi_one J1 _ (turn_list a _) ⟨_, Heap.get?_push_size _ rfl, rfl, rfl⟩ q)
  · obtain ⟨its, _, pl, _⟩ := J1.tuple hq
    exact wpAny_pyIter_tuple (show t2.heap.IsTuple a its.toArray from pl) (pi_one J1 _ (turn_tuple a _) ⟨_, Heap.get?_push_size _ rfl, rfl, rfl⟩ q)
theorem set_ints (ps : List Int) (j : Nat) (v : Int) : (ps.map V.int).set j (.int v) = (ps.set j v).map V.int := by rw [List.map_set]
theorem ixn_at {j m : Nat} (h : j < m) : ixN m (j : Int) = some j := by
  unfold ixN
  rw [if_pos (by omega), if_pos (by omega), Int.toNat_natCast]
theorem sh_ints (ns : List Int) : SeqAt.shaped (.list (ns.map PyData.int)) = true := by
  unfold SeqAt.shaped
  rw [show (PyData.list (ns.map PyData.int)).canLay0 = true from lay_ints ns, depth_ints ns]
  rfl

theorem sh_prices : SeqAt.shaped (.list [PyData.str ("prices" : Str), PyData.none]) = true := by decide +kernel
theorem negAt_set : ∀ {ps : List Int} {i k : Nat} {v : Int}, (∀ p ∈ ps, 0 ≤ p) → k < ps.length → v < 0 → negAt (ps.set k v) i = some (i + k)
  | [], _, _, _, _, h, _ => absurd h (by simp)
  | p :: r, i, 0, v, _, _, hv => by
    rw [List.set_cons_zero]
    unfold negAt
    rw [if_pos hv]
    rfl
  | p :: r, i, k + 1, v, hn, h, hv => by
    rw [List.set_cons_succ]
    unfold negAt
    have := hn p List.mem_cons_self
    rw [if_neg (by omega), negAt_set (fun q hq => hn q (List.mem_cons_of_mem _ hq)) (by rw [List.length_cons] at h; omega) hv]
    congr 1
    omega
theorem kSt : kitB "str" "str" = some true := by decide +kernel
theorem kIS : kitB "int" "str" = some false := by decide +kernel
theorem kLs : kitB "list" "list" = some true := by decide +kernel

section

/-! ### enumerate of a tuple -/
theorem enum1_meets {v : Value} {o : Obj} {G : Heap → Prop} (B : Begins v o G) : Meets (Builtin.«enumerate.__new__» ⟨[.type "enumerate", v], []⟩) (fun _ R st => G st.heap ∧ R (.ok (.ret (.ref (st.heap.push o).objs.size)))
      { st with heap := (st.heap.push o).push { cls := .type "enumerate", data := .fields #[.none, .bool false, .ref st.heap.objs.size, rawInt 0, .none, .none] } }) := by
  refine .of_wp fun P w A R st hh => ?_
  obtain ⟨hp, gs, dr, tk, ws⟩ := st
  obtain ⟨ok, q⟩ := hh
  have hsub := sub_enumerate
  have it0 : ∀ {A1 : Around} {E1 : Value → Shared → Prop} {Q1 : Value → Shared → Prop}, Q1 (.ref hp.objs.size) ⟨hp.push o, gs, dr, tk, ws⟩ → wpAny (model P w) A1 (pyIter v) Q1 E1 ⟨hp, gs, dr, tk, ws⟩ := fun z => B.iter P w _ _ ⟨hp, gs, dr, tk, ws⟩ _ ok z
  wp_walk using it0
  refine wpAny_stack_any fun fr => wpAny_pure ?_
  split
  · rename_i c _ _ _ _ _
    cases (c == Value.type "enumerate") <;> (wp_walk using it0; exact ⟨_, rfl, q⟩)
  · wp_walk using it0
    exact ⟨_, rfl, q⟩
theorem enum_of_tuple {P : Program} {w : World} {A : Around} {E : Value → Shared → Prop} {s : Shared} {t : Addr} {items : Array Value} {Q : Value → Shared → Prop} (ht : s.heap.IsTuple t items)
    (h : ∀ h', IsEnum h' (s.heap.objs.size + 1) s.heap.objs.size 0 .none → h'.IsTupleIter s.heap.objs.size t 0 → (∀ b o, s.heap.get? b = some o → h'.get? b = some o) → Q (.ref (s.heap.objs.size + 1)) { s with heap := h' }) : wpAny (model P w) A (call (.type "enumerate") [.ref t]) Q E s := by
  refine callType_new F.called_enumerate (by decide) (F.typeCall_enumerate_1 _) (F.newCall_enumerate_1 _) (fun ob => F.args_object_init_2 ob _) F.entry_enumerate_new (enum1_meets (begins_tuple t items)) ⟨ht, ?_⟩
  have z1 : (s.heap.push { cls := .type "tuple_iterator", data := .fields #[.ref t, .int 0 0] }).objs.size = s.heap.objs.size + 1 := Heap.size_push ..
  show _ ∧ _
  rw [z1]
  have e1 := Heap.get?_push_size (s.heap.push { cls := .type "tuple_iterator", data := .fields #[.ref t, .int 0 0] }) (o := { cls := .type "enumerate", data := .fields #[.none, .bool false, .ref s.heap.objs.size, rawInt 0, .none, .none] }) rfl
  rw [z1] at e1
  exact ⟨⟨_, e1, rfl⟩, h _ e1 ⟨_, Heap.get?_push_of_some _ (Heap.get?_push_size _ rfl), rfl, rfl⟩ fun b u z => Heap.get?_push_of_some _ (Heap.get?_push_of_some _ z)⟩
/-- the tuple at a, each item in a new pair behind its number -/
def IteT (K : PySem.W.Frag) (a : Addr) : It where
  go := fun i H => ∃ (ys : List V) (y : V), SqT K H a ys ∧ ys[i]? = some y
  yld := fun i H v H' => ∃ T y, v = .ref T ∧ H T = none ∧ H' = upd H T (.tup [.int (i : Nat), y]) ∧ ∀ ys, SqT K H a ys → ys[i]? = some y
  stop := fun i H => ∃ ys : List V, SqT K H a ys ∧ ys.length = i
theorem turn_enumT {P : Program} {w : World} {K : PySem.W.Frag} {elts : List Expr} {kk : Nat} {tpos : Pos} (a e it : Addr) :
    Turn P w K (.Tuple elts kk tpos) (IteT K a) [e, it] e (fun i h => (∃ u, IsEnum h e it ((i : Nat) : Int) u) ∧ h.IsTupleIter it a i ∧ e ≠ it) where
  mem := List.mem_cons_self
  obj := by
    rintro i h ⟨⟨u, he⟩, ⟨o, ho, _, hd⟩, _⟩ b hb
    rcases List.mem_cons.mp hb with rfl | hb
    · exact ⟨_, he, fun v q => nomatch q⟩
    · rw [List.mem_singleton.mp hb]
      exact ⟨o, ho, fun v q => by rw [hd] at q; cases q⟩
  keep := by
    rintro i h h' ⟨⟨u, he⟩, hi, hne⟩ k
    exact ⟨⟨u, k e List.mem_cons_self _ he⟩, hi.at fun o q => k it (List.mem_cons_of_mem _ List.mem_cons_self) o q, hne⟩
  item := by
    intro X hP hw hK hc i pins s σ H E I hf st hg
    subst hP hw hK
    obtain ⟨⟨u0, he⟩, hit, hne⟩ := st
    obtain ⟨ys, y, hq, hy⟩ := hg
    obtain ⟨its, rv, p, hz⟩ := I.tuple hq
    have p : s.heap.IsTuple a its.toArray := p
    obtain ⟨u, hu, ru⟩ := rv.get hy
    have el : e < s.heap.objs.size := Heap.lt_size he
    obtain ⟨oi, ei, ci, di⟩ := id hit
    have il : it < s.heap.objs.size := Heap.lt_size ei
    obtain ⟨op, ep, cp, np, dp⟩ := id p
    have n1 : a ≠ it := fun z => by
      rw [z, ei] at ep
      cases ep
      rw [ci] at cp
      exact absurd (Value.type.inj cp) (by decide)
    have n2 : a ≠ e := fun z => by
      rw [z, he] at ep
      cases ep
      exact absurd (Value.type.inj cp) (by decide)
    have ul : i < its.toArray.size := by
      have := (List.getElem?_eq_some_iff.mp hu).1
      simpa using this
    refine wpAny_pyNext_enum_itemD (Draws.tuple (show X.A.in1.handled = none from I.ok.hd hc) it a n1 its.toArray) he ⟨hit, p⟩ ul hne (by simp [hne, Ne.symm n2]) fun x h' tk hx ho hs' hT hsz hk => ?_
    have ex : x = u := by
      have hx : its.toArray[i]? = some x := hx
      rw [show its.toArray[i]? = its[i]? by simp, hu] at hx
      exact (Option.some.inj hx).symm
    subst ex
    refine ⟨_, rfl, wpAny_letOwnedTupleGo_enum (s := { s with heap := h', toks := tk + 1 }) ho fun h2 he' sb => ?_⟩
    have hT2 : h2.get? s.heap.objs.size = some { cls := .type "tuple", data := .seq #[.int i tk, x] } := (sb.2 _ (Nat.ne_of_gt el)).trans hT
    have new : ObjOk X.prog X.w (upd H s.heap.objs.size (.tup [.int (i : Nat), y])) h2 s.heap.objs.size (.tup [.int (i : Nat), y]) := ⟨by show 2 ≤ sizeLine; decide, [.int i tk, x], .cons ⟨_, rfl⟩ (.cons ru .nil), ⟨_, hT2, rfl, _, rfl⟩⟩
    have I1 : Inv X pins σ (upd H s.heap.objs.size (.tup [.int (i : Nat), y])) { s with heap := h2, toks := tk + 1 } :=
      I.turnedNew (ch := [e, it]) (fun b ob hb q => (sb.2 b (fun z => hb (by simp [z]))).trans (hk b ob (fun z => hb (by simp [z])) (fun z => hb (by simp [z])) q)) hf (Nat.le_refl _) new
    refine ⟨.ref s.heap.objs.size, _, I1, rfl, ⟨_, y, rfl, I.hok.fresh (Nat.le_refl _), rfl, fun zs hz => by rw [I.tuple_inj hz hq]; exact hy⟩, ⟨⟨x, ?_⟩, hs'.1.at fun o q => (sb.2 it (Ne.symm hne)).trans q, hne⟩, fun b hb => ?_⟩
    · rw [show ((i + 1 : Nat) : Int) = (i : Int) + 1 by omega]
      exact he'
    · have bl : b < s.heap.objs.size := by
        rcases List.mem_cons.mp hb with rfl | hb
        · exact el
        · rw [List.mem_singleton.mp hb]
          exact il
      rw [upd_ne (Nat.ne_of_lt bl)]
      exact (hf b hb).1
  done := by
    intro X hP hw hK hc i pins s σ H E I hf st hg
    subst hP hw hK
    obtain ⟨⟨u0, he⟩, hit, hne⟩ := st
    obtain ⟨ys, hq, hy⟩ := hg
    obtain ⟨its, rv, p, hz⟩ := I.tuple hq
    have p : s.heap.IsTuple a its.toArray := p
    obtain ⟨oi, ei, ci, di⟩ := id hit
    obtain ⟨op, ep, cp, np, dp⟩ := id p
    have n1 : a ≠ it := fun z => by
      rw [z, ei] at ep
      cases ep
      rw [ci] at cp
      exact absurd (Value.type.inj cp) (by decide)
    have ii : i = its.toArray.size := by
      have := rv.length
      simp
      omega
    subst ii
    obtain ⟨f0, f1, f2, f3, f4, f5⟩ := hf it (List.mem_cons_of_mem _ List.mem_cons_self)
    exact wpAny_pyNext_enum_endD (Draws.tuple (show X.A.in1.handled = none from I.ok.hd hc) it a n1 its.toArray) he ⟨hit, p⟩ fun h' eb => ⟨rfl, I.turned (t' := s.toks) (fun b o hb q => eb b o hb q) f0 f1 f3 f4 f5⟩
  self := fun A i s Q E st h => let ⟨⟨_, he⟩, _⟩ := st; wpAny_pyIter_enum he h
def iEnumT (K : PySem.W.Frag) (ta : TA) : TI := fun σ H R => ta σ H fun vs H1 => ∃ a ys, vs = [.ref a] ∧ SqT K H1 a ys ∧ R (IteT K a) H1
theorem pi_enumT {X : Cx} {e : Expr} {ta : TA} {p pos tpos : Pos} {elts : List Expr} {kk : Nat} (hg : Gl X "enumerate") (hm : X.mg "enumerate" = none) (ha : PA X [e] ta) (hs : starEach [e] X.env = [(false, eval e X.env)] := by rfl) :
    PI X (.Tuple elts kk tpos) (.Call (.Name "enumerate" p) [e] [] pos) (iEnumT X.K ta) := by
  refine ⟨fun pins s σ H R I h => Call_ (ld_blt I hg hm boot_enumerate (PyProof.Rows.callWith_type1 (thn (ha.run pos pins s σ H _ I h) ?_) hs rfl))⟩
  rintro us s1 ⟨vs, H1, I1, r1, a, ys, rfl, hq, q⟩
  obtain ⟨u, rfl, ru⟩ := vals1 r1
  cases (show u = Value.ref a from ru)
  obtain ⟨its, rv, p', hz⟩ := I1.tuple hq
  refine enum_of_tuple (show s1.heap.IsTuple a its.toArray from p') fun h' he hit hk => wpAny_pyIter_enum he ?_
  have I2 : Inv X pins σ H1 { s1 with heap := h' } := I1.kept (t' := s1.toks) hk
  refine ⟨s1.heap.objs.size + 1, [s1.heap.objs.size + 1, s1.heap.objs.size], _, _, H1, rfl, I2, turn_enumT a (s1.heap.objs.size + 1) s1.heap.objs.size, ⟨⟨.none, he⟩, hit, Nat.succ_ne_self _⟩, fun b hb => ?_, q⟩
  have le : s1.heap.objs.size ≤ b := by
    rcases List.mem_cons.mp hb with rfl | hb
    · exact Nat.le_succ _
    · rw [List.mem_singleton.mp hb]
      exact Nat.le_refl _
  exact I1.fpOk le (I1.hok.fresh le)
theorem walk_enumT {K : PySem.W.Frag} {a : Addr} {xs : List V} : Walk (IteT K a) xs.length (fun H => SqT K H a xs) (YPair (fun i => some (.int (i : Nat))) fun i => xs[i]?) :=
  ⟨fun i _ hi q => ⟨xs, xs[i], q, List.getElem?_eq_getElem hi⟩, fun _ q => ⟨xs, q, rfl⟩, fun _ _ _ _ _ q ⟨T, y, e1, e2, e3, e4⟩ => ⟨T, _, y, e1, e2, e3, rfl, e4 _ q⟩⟩


theorem pi_enumQ {X : Cx} {e : Expr} {ta : TA} {p pos tpos : Pos} {elts : List Expr} {kk : Nat} (hg : Gl X "enumerate") (hm : X.mg "enumerate" = none) (ha : PA X [e] ta) (hs : starEach [e] X.env = [(false, eval e X.env)] := by rfl) :
    PI X (.Tuple elts kk tpos) (.Call (.Name "enumerate" p) [e] [] pos) (fun σ H R => ta σ H fun vs H1 => ∃ a, vs = [V.ref a] ∧ ((∃ xs, SqL X.K H1 a xs ∧ R (Ite X.K a) H1) ∨ ∃ xs, SqT X.K H1 a xs ∧ R (IteT X.K a) H1)) := by
  refine ⟨fun pins s σ H R I h => Call_ (ld_blt I hg hm boot_enumerate (PyProof.Rows.callWith_type1 (thn (ha.run pos pins s σ H _ I h) ?_) hs rfl))⟩
  rintro us s1 ⟨vs, H1, I1, r1, a, rfl, q⟩
  obtain ⟨u, rfl, ru⟩ := vals1 r1
  cases (show u = Value.ref a from ru)
  rcases q with ⟨xs, hq, q⟩ | ⟨ys, hq, q⟩
  · obtain ⟨its, rv, p', hz⟩ := I1.list hq
    refine call_enumerate_list p'.isList fun h' he hit hsz hk => wpAny_pyIter_enum he ?_
    have I2 : Inv X pins σ H1 { s1 with heap := h' } := I1.kept (t' := s1.toks) hk
    refine ⟨s1.heap.objs.size + 1, [s1.heap.objs.size + 1, s1.heap.objs.size], _, _, H1, rfl, I2, turn_enum a (s1.heap.objs.size + 1) s1.heap.objs.size, ⟨⟨.none, he⟩, hit, Nat.succ_ne_self _⟩, fun b hb => ?_, q⟩
    have le : s1.heap.objs.size ≤ b := by
      rcases List.mem_cons.mp hb with rfl | hb
      · exact Nat.le_succ _
      · rw [List.mem_singleton.mp hb]
        exact Nat.le_refl _
    exact I1.fpOk le (I1.hok.fresh le)
  · obtain ⟨its, rv, p', hz⟩ := I1.tuple hq
    refine enum_of_tuple (show s1.heap.IsTuple a its.toArray from p') fun h' he hit hk => wpAny_pyIter_enum he ?_
    have I2 : Inv X pins σ H1 { s1 with heap := h' } := I1.kept (t' := s1.toks) hk
    refine ⟨s1.heap.objs.size + 1, [s1.heap.objs.size + 1, s1.heap.objs.size], _, _, H1, rfl, I2, turn_enumT a (s1.heap.objs.size + 1) s1.heap.objs.size, ⟨⟨.none, he⟩, hit, Nat.succ_ne_self _⟩, fun b hb => ?_, q⟩
    have le : s1.heap.objs.size ≤ b := by
      rcases List.mem_cons.mp hb with rfl | hb
      · exact Nat.le_succ _
      · rw [List.mem_singleton.mp hb]
        exact Nat.le_refl _
    exact I1.fpOk le (I1.hok.fresh le)
end
/-- what the top has written of the classes -/
structure Txt (K : PySem.W.Frag) (mg : Str → Option Value) (C_Weighted C_Ratio C_BadNumber C_TooMany C_ZeroBottom C_BadLot C_Unsure : Addr) : Prop where
  g_Weighted : mg "Weighted" = some (.ref C_Weighted)
  kc_Weighted : PySem.W.keepIn K (.ref C_Weighted) = true
  hd_Weighted : PySem.W.hasDictIn K C_Weighted = true
  ha_Weighted : PySem.W.findIn K (.ref C_Weighted) "__class__" = some (some (.builtin "object.__class__"))
  hm_Weighted : PySem.W.mroIn K C_Weighted (.type "object") = some true
  cl_Weighted : Cls K C_Weighted
  mk_Weighted : PySem.W.makesIn K C_Weighted = true
  n_Weighted_many : NoAttr K C_Weighted "many"
  n_Weighted_weights : NoAttr K C_Weighted "weights"
  n_Weighted_aside : NoAttr K C_Weighted "aside"
  g_Ratio : mg "Ratio" = some (.ref C_Ratio)
  kc_Ratio : PySem.W.keepIn K (.ref C_Ratio) = true
  hd_Ratio : PySem.W.hasDictIn K C_Ratio = true
  ha_Ratio : PySem.W.findIn K (.ref C_Ratio) "__class__" = some (some (.builtin "object.__class__"))
  hm_Ratio : PySem.W.mroIn K C_Ratio (.type "object") = some true
  cl_Ratio : Cls K C_Ratio
  mk_Ratio : PySem.W.makesIn K C_Ratio = true
  n_Ratio_top : NoAttr K C_Ratio "top"
  n_Ratio_bottom : NoAttr K C_Ratio "bottom"
  sum_Ratio : SumC K C_Ratio
  sf_Ratio : PySem.W.selfFirst K C_Ratio = true
  si_Ratio : PySem.W.subIn K (.type "int") (.ref C_Ratio) = some false
  sr_Ratio : PySem.W.subIn K (.ref C_Ratio) (.type "int") = some false
  rf_Ratio_add : ∃ rc : Option Value, PySem.W.findIn K (.ref C_Ratio) "__radd__" = some rc ∧ (rc = none ∨ ∃ g : Addr, rc = some (.ref g))
  of_Ratio_add : ∃ f0 : Addr, PySem.W.findIn K (.ref C_Ratio) "__add__" = some (some (.ref f0))
  int_add : ∃ fo ro : Option Value, PySem.W.findIn K (.type "int") "__add__" = some fo ∧ PySem.W.findIn K (.type "int") "__radd__" = some ro
  rf_Ratio_mul : ∃ rc : Option Value, PySem.W.findIn K (.ref C_Ratio) "__rmul__" = some rc ∧ (rc = none ∨ ∃ g : Addr, rc = some (.ref g))
  of_Ratio_mul : ∃ f0 : Addr, PySem.W.findIn K (.ref C_Ratio) "__mul__" = some (some (.ref f0))
  int_mul : ∃ fo ro : Option Value, PySem.W.findIn K (.type "int") "__mul__" = some fo ∧ PySem.W.findIn K (.type "int") "__rmul__" = some ro
  g_BadNumber : mg "BadNumber" = some (.ref C_BadNumber)
  kc_BadNumber : PySem.W.keepIn K (.ref C_BadNumber) = true
  hd_BadNumber : PySem.W.hasDictIn K C_BadNumber = true
  ha_BadNumber : PySem.W.findIn K (.ref C_BadNumber) "__class__" = some (some (.builtin "object.__class__"))
  hm_BadNumber : PySem.W.mroIn K C_BadNumber (.type "object") = some true
  b_BadNumber : PySem.W.subIn K (.ref C_BadNumber) (.type "BaseException") = some true
  t_BadNumber : PySem.W.typeIn K (.ref C_BadNumber) = some (.type "type")
  ga_BadNumber : PySem.W.findIn K (.ref C_BadNumber) "__getattribute__" = some (some (.builtin "BaseException.__getattribute__"))
  gg_BadNumber : PySem.W.findIn K (.ref C_BadNumber) "__getattr__" = some none
  ox_BadNumber : OexC K C_BadNumber
  xf_BadNumber : XfC K C_BadNumber
  n_BadNumber_what : PySem.W.findIn K (.ref C_BadNumber) "what" = some none
  n_BadNumber_at : PySem.W.findIn K (.ref C_BadNumber) "at" = some none
  g_TooMany : mg "TooMany" = some (.ref C_TooMany)
  kc_TooMany : PySem.W.keepIn K (.ref C_TooMany) = true
  hd_TooMany : PySem.W.hasDictIn K C_TooMany = true
  ha_TooMany : PySem.W.findIn K (.ref C_TooMany) "__class__" = some (some (.builtin "object.__class__"))
  hm_TooMany : PySem.W.mroIn K C_TooMany (.type "object") = some true
  b_TooMany : PySem.W.subIn K (.ref C_TooMany) (.type "BaseException") = some true
  t_TooMany : PySem.W.typeIn K (.ref C_TooMany) = some (.type "type")
  ga_TooMany : PySem.W.findIn K (.ref C_TooMany) "__getattribute__" = some (some (.builtin "BaseException.__getattribute__"))
  gg_TooMany : PySem.W.findIn K (.ref C_TooMany) "__getattr__" = some none
  ox_TooMany : OexC K C_TooMany
  xf_TooMany : XfC K C_TooMany
  n_TooMany_many : PySem.W.findIn K (.ref C_TooMany) "many" = some none
  n_TooMany_most : PySem.W.findIn K (.ref C_TooMany) "most" = some none
  g_ZeroBottom : mg "ZeroBottom" = some (.ref C_ZeroBottom)
  kc_ZeroBottom : PySem.W.keepIn K (.ref C_ZeroBottom) = true
  hd_ZeroBottom : PySem.W.hasDictIn K C_ZeroBottom = true
  ha_ZeroBottom : PySem.W.findIn K (.ref C_ZeroBottom) "__class__" = some (some (.builtin "object.__class__"))
  hm_ZeroBottom : PySem.W.mroIn K C_ZeroBottom (.type "object") = some true
  b_ZeroBottom : PySem.W.subIn K (.ref C_ZeroBottom) (.type "BaseException") = some true
  t_ZeroBottom : PySem.W.typeIn K (.ref C_ZeroBottom) = some (.type "type")
  ga_ZeroBottom : PySem.W.findIn K (.ref C_ZeroBottom) "__getattribute__" = some (some (.builtin "BaseException.__getattribute__"))
  gg_ZeroBottom : PySem.W.findIn K (.ref C_ZeroBottom) "__getattr__" = some none
  x_ZeroBottom : PySem.W.excIn K C_ZeroBottom [.type "ValueError", .type "Exception", .type "BaseException", .type "object"] "ValueError.__new__" = true
  g_BadLot : mg "BadLot" = some (.ref C_BadLot)
  kc_BadLot : PySem.W.keepIn K (.ref C_BadLot) = true
  hd_BadLot : PySem.W.hasDictIn K C_BadLot = true
  ha_BadLot : PySem.W.findIn K (.ref C_BadLot) "__class__" = some (some (.builtin "object.__class__"))
  hm_BadLot : PySem.W.mroIn K C_BadLot (.type "object") = some true
  b_BadLot : PySem.W.subIn K (.ref C_BadLot) (.type "BaseException") = some true
  t_BadLot : PySem.W.typeIn K (.ref C_BadLot) = some (.type "type")
  ga_BadLot : PySem.W.findIn K (.ref C_BadLot) "__getattribute__" = some (some (.builtin "BaseException.__getattribute__"))
  gg_BadLot : PySem.W.findIn K (.ref C_BadLot) "__getattr__" = some none
  x_BadLot : PySem.W.excIn K C_BadLot [.type "ValueError", .type "Exception", .type "BaseException", .type "object"] "ValueError.__new__" = true
  g_Unsure : mg "Unsure" = some (.ref C_Unsure)
  kc_Unsure : PySem.W.keepIn K (.ref C_Unsure) = true
  hd_Unsure : PySem.W.hasDictIn K C_Unsure = true
  ha_Unsure : PySem.W.findIn K (.ref C_Unsure) "__class__" = some (some (.builtin "object.__class__"))
  hm_Unsure : PySem.W.mroIn K C_Unsure (.type "object") = some true
  cl_Unsure : Cls K C_Unsure
  mk_Unsure : PySem.W.makesIn K C_Unsure = true
  n_Unsure_many : NoAttr K C_Unsure "many"
  n_Unsure_lows : NoAttr K C_Unsure "lows"
  n_Unsure_highs : NoAttr K C_Unsure "highs"
  n_Unsure_aside : NoAttr K C_Unsure "aside"
  hnc : PySem.W.specialIn K (.builtin "object.__class__") "__get__" = some (some (.builtin "getset_descriptor.__get__"))
  htk : PySem.W.takesIn K (.builtin "object.__class__") = some true
  sub_BadNumber_BadNumber : PySem.W.subIn K (.ref C_BadNumber) (.ref C_BadNumber) = some true
  kit_Ratio_Ratio : PySem.W.kitOne K (.ref C_Ratio) (.ref C_Ratio) = some true
  kit_int_Ratio : PySem.W.kitOne K (.type "int") (.ref C_Ratio) = some false
  g_gcd : mg "gcd" = some (.builtin "math.gcd")
  g_MOST_THINGS : ∃ t, mg "MOST_THINGS" = some (.int 24 t)
theorem Txt.ec_BadNumber {K : PySem.W.Frag} {mg : Str → Option Value} {C_Weighted C_Ratio C_BadNumber C_TooMany C_ZeroBottom C_BadLot C_Unsure : Addr} (T : Txt K mg C_Weighted C_Ratio C_BadNumber C_TooMany C_ZeroBottom C_BadLot C_Unsure) : ExcC K C_BadNumber := ⟨T.ga_BadNumber, T.gg_BadNumber, T.b_BadNumber, T.hd_BadNumber, T.ha_BadNumber, T.hnc, T.htk, T.hm_BadNumber⟩
theorem Txt.ec_TooMany {K : PySem.W.Frag} {mg : Str → Option Value} {C_Weighted C_Ratio C_BadNumber C_TooMany C_ZeroBottom C_BadLot C_Unsure : Addr} (T : Txt K mg C_Weighted C_Ratio C_BadNumber C_TooMany C_ZeroBottom C_BadLot C_Unsure) : ExcC K C_TooMany := ⟨T.ga_TooMany, T.gg_TooMany, T.b_TooMany, T.hd_TooMany, T.ha_TooMany, T.hnc, T.htk, T.hm_TooMany⟩
theorem Txt.ec_ZeroBottom {K : PySem.W.Frag} {mg : Str → Option Value} {C_Weighted C_Ratio C_BadNumber C_TooMany C_ZeroBottom C_BadLot C_Unsure : Addr} (T : Txt K mg C_Weighted C_Ratio C_BadNumber C_TooMany C_ZeroBottom C_BadLot C_Unsure) : ExcC K C_ZeroBottom := ⟨T.ga_ZeroBottom, T.gg_ZeroBottom, T.b_ZeroBottom, T.hd_ZeroBottom, T.ha_ZeroBottom, T.hnc, T.htk, T.hm_ZeroBottom⟩
theorem Txt.ec_BadLot {K : PySem.W.Frag} {mg : Str → Option Value} {C_Weighted C_Ratio C_BadNumber C_TooMany C_ZeroBottom C_BadLot C_Unsure : Addr} (T : Txt K mg C_Weighted C_Ratio C_BadNumber C_TooMany C_ZeroBottom C_BadLot C_Unsure) : ExcC K C_BadLot := ⟨T.ga_BadLot, T.gg_BadLot, T.b_BadLot, T.hd_BadLot, T.ha_BadLot, T.hnc, T.htk, T.hm_BadLot⟩
theorem Txt.exm_BadNumber_BadNumber {K : PySem.W.Frag} {mg : Str → Option Value} {C_Weighted C_Ratio C_BadNumber C_TooMany C_ZeroBottom C_BadLot C_Unsure : Addr} (T : Txt K mg C_Weighted C_Ratio C_BadNumber C_TooMany C_ZeroBottom C_BadLot C_Unsure) : PySem.W.exmOne K (.ref C_BadNumber) (.ref C_BadNumber) = some true := PySem.W.exm_ref T.b_BadNumber T.hd_BadNumber T.t_BadNumber T.sub_BadNumber_BadNumber

/-- a def that is called by its name, with its promise -/
def Cal (P : Program) (w : World) (K : PySem.W.Frag) (mg : Str → Option Value) (base : Heap) (CX : CXT) (k : Nat) (x : Str) (ps : List Str) (sp : Sp) : Prop :=
  ∃ (f : Addr) (fd : FuncData), FnOk P w K mg base CX k f fd ps sp ∧ mg x = some (.ref f) ∧ PySem.W.keepIn K (.ref f) = true ∧ Binds K fd ps []
/-- an own class's __init__; dvs: what stands for the parameters that a short call leaves out -/
def CalI (P : Program) (w : World) (K : PySem.W.Frag) (mg : Str → Option Value) (base : Heap) (CX : CXT) (k : Nat) (C : Addr) (ps : List Str) (sp : Sp) (dvs : List V) : Prop :=
  ∃ (f : Addr) (fd : FuncData), FnOk P w K mg base CX k f fd ps sp ∧ Mk K C f ∧ Binds K fd ps [] ∧ ∃ ds, Vals dvs ds ∧ Binds K fd ps ds
/-- an own error's __init__ -/
def CalX (P : Program) (w : World) (K : PySem.W.Frag) (mg : Str → Option Value) (base : Heap) (CX : CXT) (k : Nat) (C : Addr) (ps : List Str) (sp : Sp) : Prop :=
  ∃ (f : Addr) (fd : FuncData), FnOk P w K mg base CX k f fd ps sp ∧ PySem.W.findIn K (.ref C) "__init__" = some (some (.ref f)) ∧ PySem.W.typeIn K (.ref f) = some (.type "function") ∧ Binds K fd ps []
/-- a promise for one of several classes -/
theorem sup_for {P : Program} {w : World} {K : PySem.W.Frag} {mg : Str → Option Value} {base : Heap} {CX : CXT} {k : Nat} {f : Addr} {ps : List Str} {sp : Addr → Sp} {CL : List Addr} {C : Addr} (m : C ∈ CL) (h : ∃ fd : FuncData, FnOk P w K mg base CX k f fd ps (fun vs H Q E => ∃ C, C ∈ CL ∧ sp C vs H Q E) ∧ Binds K fd ps []) :
    ∃ fd : FuncData, FnOk P w K mg base CX k f fd ps (sp C) ∧ Binds K fd ps [] := by
  obtain ⟨fd, G, b⟩ := h
  exact ⟨fd, ⟨fun vs H Q E z => G.len vs H Q E ⟨C, m, z⟩, fun A outer s H args us vs Q E hr e0 hb r z => G.run A outer s H args us vs Q E hr e0 hb r ⟨C, m, z⟩⟩, b⟩
theorem init_for {P : Program} {w : World} {K : PySem.W.Frag} {mg : Str → Option Value} {base : Heap} {CX : CXT} {k : Nat} {f : Addr} {ps : List Str} {sp : Addr → Sp} {CL : List Addr} {C : Addr} (m : C ∈ CL) (h : ∃ fd : FuncData, FnOk P w K mg base CX k f fd ps (fun vs H Q E => ∃ C, C ∈ CL ∧ sp C vs H Q E) ∧ Binds K fd ps []) (M : Mk K C f) :
    CalI P w K mg base CX k C ps (sp C) [] := by
  obtain ⟨fd, G, b⟩ := sup_for m h
  exact ⟨f, fd, G, M, b, [], .nil, b⟩
/-- what is left over is a new tuple -/
def spStar (sp : Sp) (n : Nat) : Sp := fun vs H Q E => ∃ ws rest, vs = ws ++ rest ∧ ws.length = n ∧ rest.length ≤ sizeLine ∧ ∀ p, H p = none → sp (ws ++ [V.ref p]) (upd H p (.tup rest)) Q E
/-- a method -/
def CalM (P : Program) (w : World) (K : PySem.W.Frag) (mg : Str → Option Value) (base : Heap) (CX : CXT) (k : Nat) (C : Addr) (m : Str) (ps : List Str) (sp : Sp) : Prop :=
  ∃ (f : Addr) (fd : FuncData), FnOk P w K mg base CX k f fd ps sp ∧ Meth K C m f ∧ Binds K fd ps []

def fU (m : Int) (tl th ta : Addr) : List (Str × V) := putF "aside" (.ref ta) (putF "highs" (.ref th) (putF "lows" (.ref tl) (putF "many" (.int m) [])))
theorem fU_many (m : Int) (tl th ta : Addr) : (fU m tl th ta).lookup ("many" : Str) = some (V.int m) := by rfl
theorem fU_lows (m : Int) (tl th ta : Addr) : (fU m tl th ta).lookup ("lows" : Str) = some (V.ref tl) := by rfl
theorem fU_highs (m : Int) (tl th ta : Addr) : (fU m tl th ta).lookup ("highs" : Str) = some (V.ref th) := by rfl
theorem fU_aside (m : Int) (tl th ta : Addr) : (fU m tl th ta).lookup ("aside" : Str) = some (V.ref ta) := by rfl
theorem fU__check (m : Int) (tl th ta : Addr) : (fU m tl th ta).lookup ("_check" : Str) = none := by rfl
theorem fU__turned (m : Int) (tl th ta : Addr) : (fU m tl th ta).lookup ("_turned" : Str) = none := by rfl
theorem fU_least (m : Int) (tl th ta : Addr) : (fU m tl th ta).lookup ("least" : Str) = none := by rfl
theorem fU_greatest (m : Int) (tl th ta : Addr) : (fU m tl th ta).lookup ("greatest" : Str) = none := by rfl
theorem fU_best (m : Int) (tl th ta : Addr) : (fU m tl th ta).lookup ("best" : Str) = none := by rfl
/-- weights between bounds, in the heap -/
def UAt (C : Addr) (H : Hp) (p : Addr) (ls hs : List Int) (a b : Int) : Prop := ∃ dx tl th ta, H p = some (.ins C dx (fU ls.length tl th ta)) ∧ H tl = some (.tup (ls.map V.int)) ∧ H th = some (.tup (hs.map V.int)) ∧ H ta = some (.tup [.int a, .int b])
theorem UAt.same {C : Addr} {H H' : Hp} {p : Addr} {ls hs : List Int} {a b : Int} (s : Same H H') (h : UAt C H p ls hs a b) : UAt C H' p ls hs a b := by
  obtain ⟨dx, tl, th, ta, h1, h2, h3, h4⟩ := h
  exact ⟨dx, tl, th, ta, s _ _ h1, s _ _ h2, s _ _ h3, s _ _ h4⟩
/-- the first thing whose bounds are wrong -/
def badU : List Int → List Int → Nat → Option (Str × Nat)
  | l :: ls, h :: hs, i => if l < 1 then some ("lows", i) else if h < l then some ("highs", i) else badU ls hs (i + 1)
  | _, _, _ => none
inductive DueU | many (n : Nat) | num (w : Str) (v : V) | made
def DueU.tup : DueU → List V
  | .many n => [.str "many", .int (n : Int), .int 24]
  | .num w v => [.str "number", .str w, v]
  | .made => [.str "made"]
/-- what is due for these bounds -/
def dueU (ls hs : List Int) (a b : Int) : DueU := if ls.length > 24 then .many ls.length else if hs.length ≠ ls.length then .num "highs" .non else match badU ls hs 0 with
  | some (w, i) => .num w (.int (i : Int))
  | none => if a < 1 then .num "aside" (.int 0) else if b < a then .num "aside" (.int 1) else .made
theorem dueU_many {ls hs : List Int} {a b : Int} (h : ls.length > 24) : dueU ls hs a b = .many ls.length := if_pos h
theorem dueU_len {ls hs : List Int} {a b : Int} (h : ¬ ls.length > 24) (e : ¬ hs.length = ls.length) : dueU ls hs a b = .num "highs" .non := (if_neg h).trans (if_pos e)
theorem dueU_bad {ls hs : List Int} {a b : Int} (h : ¬ ls.length > 24) (e : hs.length = ls.length) {w : Str} {i : Nat} (k : badU ls hs 0 = some (w, i)) : dueU ls hs a b = .num w (.int (i : Int)) := by
  unfold dueU
  rw [if_neg h, if_neg (by omega), k]
theorem dueU_a {ls hs : List Int} {a b : Int} (h : ¬ ls.length > 24) (e : hs.length = ls.length) (k : badU ls hs 0 = none) (c : a < 1) : dueU ls hs a b = .num "aside" (.int 0) := by
  unfold dueU
  rw [if_neg h, if_neg (by omega), k]
  exact if_pos c
theorem dueU_b {ls hs : List Int} {a b : Int} (h : ¬ ls.length > 24) (e : hs.length = ls.length) (k : badU ls hs 0 = none) (c : ¬ a < 1) (c2 : b < a) : dueU ls hs a b = .num "aside" (.int 1) := by
  unfold dueU
  rw [if_neg h, if_neg (by omega), k]
  exact (if_neg c).trans (if_pos c2)
theorem dueU_made {ls hs : List Int} {a b : Int} (h : ¬ ls.length > 24) (e : hs.length = ls.length) (k : badU ls hs 0 = none) (c : ¬ a < 1) (c2 : ¬ b < a) : dueU ls hs a b = .made := by
  unfold dueU
  rw [if_neg h, if_neg (by omega), k]
  exact (if_neg c).trans (if_neg c2)

/-- the weight of thing i: dear if it is turned, cheap if it is of the lot, else low -/
def wofV (ls ds cs ns ts : List Int) (i : Nat) : Int := if (i : Int) ∈ ts then ds.getD i 0 else if (i : Int) ∈ ns then cs.getD i 0 else ls.getD i 0
def wof (ls ds cs ns ts : List Int) : List Int := (List.range ls.length).map (wofV ls ds cs ns ts)
theorem wof_len (ls ds cs ns ts : List Int) : (wof ls ds cs ns ts).length = ls.length := by unfold wof; rw [List.length_map, List.length_range]
theorem wof_getD {ls ds cs ns ts : List Int} {i : Nat} (h : i < ls.length) : (wof ls ds cs ns ts).getD i 0 = wofV ls ds cs ns ts i := by
  unfold wof
  rw [List.getD_eq_getElem?_getD, List.getElem?_map, List.getElem?_range h]
  rfl
theorem wof_at {ls ds cs ns ts : List Int} {i : Nat} (h : i < ls.length) : (wof ls ds cs ns ts)[i]? = some (wofV ls ds cs ns ts i) := by
  unfold wof
  rw [List.getElem?_map, List.getElem?_range h]
  rfl
theorem wof_none (ls ds cs : List Int) : wof ls ds cs [] [] = ls := by
  refine List.ext_getElem? fun i => ?_
  by_cases h : i < ls.length
  · rw [wof_at h, List.getElem?_eq_getElem h]
    unfold wofV
    rw [if_neg (by simp), if_neg (by simp), List.getD_eq_getElem?_getD, List.getElem?_eq_getElem h]
    rfl
  · rw [List.getElem?_eq_none (by rw [wof_len]; omega), List.getElem?_eq_none (by omega)]
theorem wof_set {ls ds cs ns ts ns' ts' : List Int} {n : Nat} {v : Int} (hn : n < ls.length) (h0 : wofV ls ds cs ns' ts' n = v) (h1 : ∀ i, i ≠ n → wofV ls ds cs ns ts i = wofV ls ds cs ns' ts' i) : (wof ls ds cs ns ts).set n v = wof ls ds cs ns' ts' := by
  refine List.ext_getElem? fun i => ?_
  by_cases h : i < ls.length
  · by_cases e : i = n
    · subst e
      rw [List.getElem?_set_self (by rw [wof_len]; exact hn), wof_at h, h0]
    · rw [List.getElem?_set_ne (fun z => e z.symm), wof_at h, wof_at h, h1 i e]
  · rw [List.getElem?_eq_none (by rw [List.length_set, wof_len]; omega), List.getElem?_eq_none (by rw [wof_len]; omega)]
theorem wof_cheap {ls ds cs ns ts : List Int} {n : Nat} (hn : n < ls.length) (ht : ¬ (n : Int) ∈ ts) : (wof ls ds cs ns ts).set n (cs.getD n 0) = wof ls ds cs (ns ++ [(n : Int)]) ts := by
  refine wof_set hn ?_ fun i hi => ?_
  · unfold wofV
    rw [if_neg ht, if_pos (by simp)]
  · unfold wofV
    have e : ((i : Int) ∈ ns ++ [(n : Int)]) ↔ (i : Int) ∈ ns := by
      rw [List.mem_append, List.mem_singleton]
      exact ⟨fun h => h.elim id fun z => absurd (Int.ofNat.inj z) hi, Or.inl⟩
    simp only [e]
theorem wof_dear {ls ds cs ns ts ts' : List Int} {n : Nat} (hn : n < ls.length) (ht : ∀ x : Int, x ∈ ts' ↔ x = (n : Int) ∨ x ∈ ts) : (wof ls ds cs ns ts).set n (ds.getD n 0) = wof ls ds cs ns ts' := by
  refine wof_set hn ?_ fun i hi => ?_
  · unfold wofV
    rw [if_pos ((ht _).mpr (.inl rfl))]
  · unfold wofV
    have e : ((i : Int) ∈ ts') ↔ (i : Int) ∈ ts := by
      rw [ht]
      exact ⟨fun h => h.elim (fun z => absurd (Int.ofNat.inj z) hi) id, Or.inr⟩
    simp only [e]
theorem wof_congr {ls ds cs ns ts ts' : List Int} (h : ∀ x, x ∈ ts ↔ x ∈ ts') : wof ls ds cs ns ts = wof ls ds cs ns ts' := by
  unfold wof
  refine List.map_congr_left fun i _ => ?_
  unfold wofV
  simp only [h]
structure WB (ws : List Int) (m : Nat) : Prop where
  len : ws.length = m
  w1 : ∀ w ∈ ws, 1 ≤ w
  w2 : ∀ w ∈ ws, w ≤ 10 ^ 18
theorem WB.at {ws : List Int} {m i : Nat} (h : WB ws m) (hi : i < m) : 1 ≤ ws.getD i 0 ∧ ws.getD i 0 ≤ 10 ^ 18 := by
  have lt : i < ws.length := by rw [h.len]; exact hi
  rw [List.getD_eq_getElem?_getD, List.getElem?_eq_getElem lt]
  exact ⟨h.w1 _ (List.getElem_mem lt), h.w2 _ (List.getElem_mem lt)⟩
theorem wof_wb {ls ds cs : List Int} {m : Nat} (hl : WB ls m) (hd : WB ds m) (hc : WB cs m) (ns ts : List Int) : WB (wof ls ds cs ns ts) m := by
  have one : ∀ i, i < m → 1 ≤ wofV ls ds cs ns ts i ∧ wofV ls ds cs ns ts i ≤ 10 ^ 18 := fun i hi => by
    unfold wofV
    split
    · exact hd.at hi
    · split
      · exact hc.at hi
      · exact hl.at hi
  refine ⟨(wof_len ..).trans hl.len, fun w hw => ?_, fun w hw => ?_⟩
  · obtain ⟨i, hi, rfl⟩ := List.mem_map.mp hw
    exact (one i (by rw [← hl.len]; exact List.mem_range.mp hi)).1
  · obtain ⟨i, hi, rfl⟩ := List.mem_map.mp hw
    exact (one i (by rw [← hl.len]; exact List.mem_range.mp hi)).2
theorem vSum_cons (ws ps : List Int) (n : Int) (r : List Int) : vSum ws ps (n :: r) = ws.getD n.toNat 0 * ps.getD n.toNat 0 + vSum ws ps r := by
  unfold vSum
  rw [List.map_cons, List.sum_cons]
theorem wSum_cons (ws : List Int) (n : Int) (r : List Int) : wSum ws (n :: r) = ws.getD n.toNat 0 + wSum ws r := by
  unfold wSum
  rw [List.map_cons, List.sum_cons]
/-- other weights of things with price p move a worth at no price p -/
theorem vw_shift {ws ws' ps : List Int} {p : Int} : ∀ ns : List Int, (∀ n ∈ ns, ws'.getD n.toNat 0 = ws.getD n.toNat 0 ∨ ps.getD n.toNat 0 = p) → vSum ws' ps ns - p * wSum ws' ns = vSum ws ps ns - p * wSum ws ns
  | [], _ => by unfold vSum wSum; simp
  | n :: r, h => by
    have ih := vw_shift r fun x hx => h x (List.mem_cons_of_mem _ hx)
    rw [vSum_cons, vSum_cons, wSum_cons, wSum_cons, Int.mul_add, Int.mul_add]
    rcases h n List.mem_cons_self with e | e
    · rw [e]
      omega
    · rw [e, Int.mul_comm p (ws'.getD n.toNat 0), Int.mul_comm p (ws.getD n.toNat 0)]
      omega
/-- a worth stays below the price of the thing that is turned -/
theorem turn_le {T B T' B' V D V' D' p : Int} (B0 : 0 < B) (D0' : 0 < D') (B0' : 0 < B') (e : T * D = V * B) (e' : T' * D' = V' * B') (D0 : 0 < D) (h : T ≤ p * B) (sh : V' - p * D' = V - p * D) : T' ≤ p * B' := by
  have h1 : V * B ≤ p * D * B := by
    have := Int.mul_le_mul_of_nonneg_right h (show 0 ≤ D by omega)
    have e2 : p * B * D = p * D * B := by grind
    omega
  have h2 : V ≤ p * D := Int.le_of_mul_le_mul_right h1 B0
  have h3 : V' ≤ p * D' := by omega
  have h4 := Int.mul_le_mul_of_nonneg_right h3 (show 0 ≤ B' by omega)
  have e3 : p * D' * B' = p * B' * D' := by grind
  exact Int.le_of_mul_le_mul_right (by omega : T' * D' ≤ p * B' * D') D0'
/-- prices of these things -/
structure PB (ps : List Int) (m : Nat) : Prop where
  len : ps.length = m
  p0 : ∀ p ∈ ps, 0 ≤ p
  p2 : ∀ p ∈ ps, p ≤ 10 ^ 18
theorem WB.fine {ws ps : List Int} {m : Nat} {a : Int} (h : WB ws m) (hp : PB ps m) (m24 : m ≤ 24) (a0 : 0 < a) (a1 : a ≤ 10 ^ 18) : Fine ws a ps := ⟨by rw [h.len]; exact m24, h.w1, h.w2, a0, a1, hp.p2⟩
theorem lotB_len_key {m : Int} : ∀ (ns : List Int) (b : Int), lotB ns b m = true → b ≤ m - 1 → (ns.length : Int) ≤ m - 1 - b
  | [], b, _, hb => by
    show (0 : Int) ≤ _
    omega
  | n :: r, b, h, hb => by
    have h1 := lotB_in h n List.mem_cons_self
    have h2 : lotB r n m = true := by
      unfold lotB at h
      split at h
      · cases h
      · exact h
    have := lotB_len_key r n h2 (by omega)
    rw [List.length_cons]
    omega
theorem lotB_len {ns : List Int} {m : Nat} (h : lotB ns (-1) (m : Int) = true) : ns.length ≤ m := by
  have := lotB_len_key ns (-1) h (by omega)
  omega
/-- bounds of 18 digits -/
structure FU (ls hs : List Int) (a b : Int) : Prop where
  l : WB ls ls.length
  h : WB hs ls.length
  a1 : 0 < a
  ab : a ≤ b
  b1 : 0 < b
  b2 : b ≤ 10 ^ 18
/-- the things turned in the end -/
def twT (ps ns : List Int) (T B : Int) : List Int := ns.filter fun n => decide (T ≤ ps.getD n.toNat 0 * B)
theorem mem_twT {ps ns : List Int} {T B n : Int} : n ∈ twT ps ns T B ↔ n ∈ ns ∧ T ≤ ps.getD n.toNat 0 * B := by
  unfold twT
  rw [List.mem_filter]
  exact ⟨fun h => ⟨h.1, of_decide_eq_true h.2⟩, fun h => ⟨h.1, decide_eq_true h.2⟩⟩
/-- where the turning stands after i things of the order -/
structure TurnS (ls ds cs ns ps : List Int) (a : Int) (os : List Nat) (i : Nat) (ts : List Int) (T B : Int) : Prop where
  lo : LowT (vSum (wof ls ds cs ns ts) ps ns) (a + wSum (wof ls ds cs ns ts) ns) T B
  inn : ∀ t ∈ ts, t ∈ ns ∧ T ≤ ps.getD t.toNat 0 * B
  out : ∀ (j x : Nat), j < i → os[j]? = some x → (x : Int) ∈ ns → ¬ (x : Int) ∈ ts → ps.getD x 0 * B < T
  bef : ∀ t ∈ ts, ∃ j x : Nat, j < i ∧ os[j]? = some x ∧ t = (x : Int)
theorem TurnS.keep {ls ds cs ns ps : List Int} {a : Int} {os : List Nat} {i k : Nat} {ts : List Int} {T B : Int} (h : TurnS ls ds cs ns ps a os i ts T B) (hk : os[i]? = some k) (hb : (k : Int) ∈ ns → ps.getD k 0 * B < T) : TurnS ls ds cs ns ps a os (i + 1) ts T B := by
  refine ⟨h.lo, h.inn, fun j x hj hx hn ht => ?_, fun t ht => ?_⟩
  · rcases (by omega : j < i ∨ j = i) with z | z
    · exact h.out j x z hx hn ht
    · subst z
      obtain rfl := Option.some.inj (hk.symm.trans hx)
      exact hb hn
  · obtain ⟨j, x, hj, hx, e⟩ := h.bef t ht
    exact ⟨j, x, by omega, hx, e⟩
/-- the sorted order -/
theorem dear_le {ps : List Int} {os : List Nat} (pw : os.Pairwise (Dear (pr ps))) {i j k x : Nat} (hk : os[i]? = some k) (hx : os[j]? = some x) (hj : j < i) : ps.getD k 0 ≤ ps.getD x 0 := by
  have h := List.pairwise_iff_getElem.mp pw j i (List.getElem?_eq_some_iff.mp hx).1 (List.getElem?_eq_some_iff.mp hk).1 hj
  rw [(List.getElem?_eq_some_iff.mp hx).2, (List.getElem?_eq_some_iff.mp hk).2] at h
  unfold Dear pr at h
  omega
theorem TurnS.new {ls ds cs ns ps : List Int} {a : Int} {os : List Nat} {i k m : Nat} {ts : List Int} {T B : Int} (h : TurnS ls ds cs ns ps a os i ts T B) (hk : os[i]? = some k) (pm : os.Perm (List.range m)) : ¬ (k : Int) ∈ ts := fun z => by
  obtain ⟨j, x, hj, hx, e⟩ := h.bef _ z
  obtain rfl := Int.ofNat.inj e
  have nd := pm.nodup_iff.mpr List.nodup_range
  have := List.pairwise_iff_getElem.mp nd j i (List.getElem?_eq_some_iff.mp hx).1 (List.getElem?_eq_some_iff.mp hk).1 hj
  rw [(List.getElem?_eq_some_iff.mp hx).2, (List.getElem?_eq_some_iff.mp hk).2] at this
  exact this rfl
theorem TurnS.turn {ls ds cs ns ps : List Int} {a : Int} {os : List Nat} {i k : Nat} {ts : List Int} {T B T' B' : Int} (h : TurnS ls ds cs ns ps a os i ts T B) (pw : os.Pairwise (Dear (pr ps))) (hk : os[i]? = some k) (km : k < ls.length) (inl : ∀ n ∈ ns, -1 < n ∧ n < (ls.length : Int))
    (kn : (k : Int) ∈ ns) (nk : ¬ (k : Int) ∈ ts) (hT : T ≤ ps.getD k 0 * B) (D0 : 0 < a + wSum (wof ls ds cs ns ts) ns) (D1 : 0 < a + wSum (wof ls ds cs ns ((k : Int) :: ts)) ns) (lo : LowT (vSum (wof ls ds cs ns ((k : Int) :: ts)) ps ns) (a + wSum (wof ls ds cs ns ((k : Int) :: ts)) ns) T' B') : TurnS ls ds cs ns ps a os (i + 1) ((k : Int) :: ts) T' B' := by
  have sh : vSum (wof ls ds cs ns ((k : Int) :: ts)) ps ns - ps.getD k 0 * wSum (wof ls ds cs ns ((k : Int) :: ts)) ns = vSum (wof ls ds cs ns ts) ps ns - ps.getD k 0 * wSum (wof ls ds cs ns ts) ns := by
    refine vw_shift ns fun n hn => ?_
    have bn := inl n hn
    obtain ⟨x, rfl⟩ : ∃ x : Nat, n = (x : Int) := ⟨n.toNat, by omega⟩
    rw [Int.toNat_natCast]
    by_cases e : x = k
    · exact .inr (by rw [e])
    · refine .inl ?_
      rw [wof_getD (by omega), wof_getD (by omega)]
      unfold wofV
      have e2 : ((x : Int) ∈ (k : Int) :: ts) ↔ (x : Int) ∈ ts := by
        rw [List.mem_cons]
        exact ⟨fun h => h.elim (fun z => absurd (Int.ofNat.inj z) e) id, Or.inr⟩
      simp only [e2]
  have key : T' ≤ ps.getD k 0 * B' := turn_le h.lo.pos D1 lo.pos h.lo.eq lo.eq D0 hT (by rw [Int.mul_add, Int.mul_add]; omega)
  have all : ∀ (j x : Nat), j < i → os[j]? = some x → T' ≤ ps.getD x 0 * B' := fun j x hj hx => by
    have h1 := dear_le pw hk hx hj
    have h2 := Int.mul_le_mul_of_nonneg_right h1 (show 0 ≤ B' by have := lo.pos; omega)
    omega
  refine ⟨lo, fun t ht => ?_, fun j x hj hx hn ht => ?_, fun t ht => ?_⟩
  · rcases List.mem_cons.mp ht with rfl | ht
    · exact ⟨kn, by rw [Int.toNat_natCast]; exact key⟩
    · obtain ⟨j, x, hj, hx, rfl⟩ := h.bef t ht
      exact ⟨(h.inn _ ht).1, by rw [Int.toNat_natCast]; exact all j x hj hx⟩
  · have ht1 : ¬ (x : Int) ∈ ts := fun z => ht (List.mem_cons_of_mem _ z)
    rcases (by omega : j < i ∨ j = i) with z | z
    · have h1 := h.out j x z hx hn ht1
      have h2 := dear_le pw hk hx z
      have h3 := Int.mul_le_mul_of_nonneg_right h2 (show 0 ≤ B by have := h.lo.pos; omega)
      omega
    · subst z
      obtain rfl := Option.some.inj (hk.symm.trans hx)
      exact absurd List.mem_cons_self ht
  · rcases List.mem_cons.mp ht with rfl | ht
    · exact ⟨i, k, by omega, hk, rfl⟩
    · obtain ⟨j, x, hj, hx, e⟩ := h.bef t ht
      exact ⟨j, x, by omega, hx, e⟩
theorem TurnS.fin {ls ds cs ns ps : List Int} {a : Int} {os : List Nat} {ts : List Int} {T B : Int} {m : Nat} (h : TurnS ls ds cs ns ps a os m ts T B) (pm : os.Perm (List.range m)) (inl : ∀ n ∈ ns, -1 < n ∧ n < (m : Int)) : wof ls ds cs ns ts = wof ls ds cs ns (twT ps ns T B) := by
  refine wof_congr fun x => ⟨fun hx => mem_twT.mpr (h.inn x hx), fun hx => ?_⟩
  obtain ⟨h1, h2⟩ := mem_twT.mp hx
  have bn := inl x h1
  obtain ⟨k, rfl⟩ : ∃ k : Nat, x = (k : Int) := ⟨x.toNat, by omega⟩
  have hk : k ∈ os := pm.mem_iff.mpr (List.mem_range.mpr (by omega))
  obtain ⟨j, hj, e⟩ := List.mem_iff_getElem.mp hk
  have jl : j < m := by
    have := pm.length_eq
    rw [List.length_range] at this
    omega
  by_cases c : (k : Int) ∈ ts
  · exact c
  · have := h.out j k jl (by rw [List.getElem?_eq_getElem hj, e]) h1 c
    rw [Int.toNat_natCast] at h2
    omega
theorem take_lotlt {ns : List Int} {m : Int} (ok : lotB ns (-1) m = true) {i : Nat} {n : Int} (h : ns[i]? = some n) : ¬ n ∈ ns.take i := fun z => by
  obtain ⟨j, hj, e⟩ := List.mem_iff_getElem.mp z
  rw [List.length_take] at hj
  have hi := (List.getElem?_eq_some_iff.mp h).1
  have := List.pairwise_iff_getElem.mp (lotB_pw ok) j i (by omega) hi (by omega)
  rw [List.getElem_take] at e
  rw [e, (List.getElem?_eq_some_iff.mp h).2] at this
  omega
theorem RatAt.putL {C : Addr} {H : Hp} {q E : Addr} {T B : Int} {xs : List V} {o : HO} (hE : H E = some (.lst xs)) (h : RatAt C H q T B) : RatAt C (upd H E o) q T B := by
  obtain ⟨dx, h⟩ := h
  refine ⟨dx, (upd_ne fun z => ?_).trans h⟩
  rw [z, hE] at h
  cases h
def tw (ls ds cs ps ns : List Int) (T B : Int) : List Int := wof ls ds cs ns (twT ps ns T B)
/-- pairs in the heap -/
def PrL (H : Hp) (us : List Addr) (zs : List (Int × Int)) : Prop := us.length = zs.length ∧ ∀ (i : Nat) (u : Addr) (z : Int × Int), us[i]? = some u → zs[i]? = some z → H u = some (.tup [.int z.1, .int z.2])
theorem PrL.same {H H' : Hp} {us : List Addr} {zs : List (Int × Int)} (s : Same H H') (h : PrL H us zs) : PrL H' us zs := ⟨h.1, fun i u z h1 h2 => s _ _ (h.2 i u z h1 h2)⟩
theorem PrL.put {H : Hp} {us : List Addr} {zs : List (Int × Int)} {L : Addr} {xs : List V} {o : HO} (hL : H L = some (.lst xs)) (h : PrL H us zs) : PrL (upd H L o) us zs := ⟨h.1, fun i u z h1 h2 => (upd_ne fun e => by
  have q := h.2 i u z h1 h2
  rw [e, hL] at q
  cases q).trans (h.2 i u z h1 h2)⟩
theorem PrL.snoc {H : Hp} {us : List Addr} {zs : List (Int × Int)} {u : Addr} {x y : Int} (h : PrL H us zs) (hu : H u = some (.tup [.int x, .int y])) : PrL H (us ++ [u]) (zs ++ [(x, y)]) := by
  refine ⟨by rw [List.length_append, List.length_append, h.1]; rfl, fun i v z h1 h2 => ?_⟩
  by_cases lt : i < us.length
  · rw [List.getElem?_append_left lt] at h1
    rw [List.getElem?_append_left (h.1 ▸ lt)] at h2
    exact h.2 i v z h1 h2
  · have e : i = us.length := by
      have := (List.getElem?_eq_some_iff.mp h1).1
      rw [List.length_append, List.length_singleton] at this
      omega
    subst e
    rw [List.getElem?_append_right (Nat.le_refl _), Nat.sub_self] at h1
    rw [h.1, List.getElem?_append_right (Nat.le_refl _), Nat.sub_self] at h2
    obtain rfl := Option.some.inj h1
    obtain rfl := Option.some.inj h2
    exact hu
theorem PrL.snoc_of {H : Hp} {us : List Addr} {zs : List (Int × Int)} {m : Nat} (h : PrL H us zs) (l : zs.length = m + 1) : ∃ (vs : List Addr) (ys : List (Int × Int)) (u : Addr) (x y : Int), us = vs ++ [u] ∧ zs = ys ++ [(x, y)] ∧ PrL H vs ys ∧ H u = some (.tup [.int x, .int y]) ∧ ys.length = m := by
  have lu : us.length = m + 1 := h.1.trans l
  obtain ⟨vs, u, rfl⟩ : ∃ vs u, us = vs ++ [u] := by
    rcases List.eq_nil_or_concat us with e | ⟨vs, u, e⟩
    · rw [e] at lu
      cases lu
    · exact ⟨vs, u, by rw [e, List.concat_eq_append]⟩
  obtain ⟨ys, z, rfl⟩ : ∃ ys z, zs = ys ++ [z] := by
    rcases List.eq_nil_or_concat zs with e | ⟨vs, u, e⟩
    · rw [e] at l
      cases l
    · exact ⟨vs, u, by rw [e, List.concat_eq_append]⟩
  rw [List.length_append, List.length_singleton] at lu l
  have lv : vs.length = m := by omega
  have ly : ys.length = m := by omega
  refine ⟨vs, ys, u, z.1, z.2, rfl, rfl, ⟨lv.trans ly.symm, fun i v w h1 h2 => h.2 i v w ?_ ?_⟩, h.2 m u z ?_ ?_, ly⟩
  · rw [List.getElem?_append_left (List.getElem?_eq_some_iff.mp h1).1]
    exact h1
  · rw [List.getElem?_append_left (List.getElem?_eq_some_iff.mp h2).1]
    exact h2
  · rw [List.getElem?_append_right (by omega), lv, Nat.sub_self]
    rfl
  · rw [List.getElem?_append_right (by omega), ly, Nat.sub_self]
    rfl
theorem last_cut {ns : List Int} {z : Int} (h : ns.getLast? = some z) : cutV (ns.map V.int) (some (-1)) none = [V.int z] := by
  obtain ⟨r, rfl⟩ : ∃ r, ns = r ++ [z] := by
    rw [List.getLast?_eq_some_iff] at h
    exact h
  unfold cutV
  rw [HT.sIx_none, show HT.sIx ((r ++ [z]).map V.int).length 0 (some (-1)) = r.length by
    show (if (-1 : Int) < 0 then ((-1 : Int) + (((r ++ [z]).map V.int).length : Int)).toNat else min (-1 : Int).toNat ((r ++ [z]).map V.int).length) = r.length
    rw [if_pos (by decide), List.length_map, List.length_append]
    show ((-1 : Int) + ((r.length + 1 : Nat) : Int)).toNat = r.length
    omega]
  rw [List.map_append, List.drop_left' (List.length_map _), List.length_append, List.length_map]
  show List.take (r.length + 1 - r.length) [V.int z] = [V.int z]
  rw [Nat.add_sub_cancel_left]
  rfl

/-- what is due for a question -/
def dueL (m : Nat) (ns ps : List Int) : List V := if ps.length = m then (match negAt ps 0 with
  | some k => [.str "number", .str "prices", .int (k : Int)]
  | none => if lotB ns (-1) m = true then [] else [.str "lot"]) else [.str "number", .str "prices", .non]
theorem dueL_len {m : Nat} {ns ps : List Int} (h : ¬ ps.length = m) : dueL m ns ps = [.str "number", .str "prices", .non] := if_neg h
theorem dueL_neg {m : Nat} {ns ps : List Int} (h : ps.length = m) {k : Nat} (e : negAt ps 0 = some k) : dueL m ns ps = [.str "number", .str "prices", .int (k : Int)] := by
  unfold dueL
  rw [if_pos h, e]
theorem dueL_lot {m : Nat} {ns ps : List Int} (h : ps.length = m) (e : negAt ps 0 = none) (c : lotB ns (-1) m = false) : dueL m ns ps = [.str "lot"] := by
  unfold dueL
  rw [if_pos h, e, c]
  rfl
theorem dueL_ok {m : Nat} {ns ps : List Int} (h : ps.length = m) (e : negAt ps 0 = none) (c : lotB ns (-1) m = true) : dueL m ns ps = [] := by
  unfold dueL
  rw [if_pos h, e, c]
  rfl

theorem dueL_form {m : Nat} {ns ps : List Int} (h : dueL m ns ps ≠ []) : ∃ wd rest, dueL m ns ps = .str wd :: rest ∧ (dueL m ns ps).length ≤ 3 ∧ ∀ (i : Nat) (v : V), (dueL m ns ps)[i]? = some v → (∃ s, v = .str s) ∨ v = .non ∨ ∃ n, v = .int n := by
  have three : ∀ (a b : Str) (c : V), (c = .non ∨ ∃ n, c = .int n) → ∀ (i : Nat) (v : V), [V.str a, V.str b, c][i]? = some v → (∃ s, v = .str s) ∨ v = .non ∨ ∃ n, v = .int n := fun a b c hc i v e => by
    rcases (by omega : i = 0 ∨ i = 1 ∨ i = 2 ∨ 3 ≤ i) with rfl | rfl | rfl | h
    · exact .inl ⟨_, (Option.some.inj e).symm⟩
    · exact .inl ⟨_, (Option.some.inj e).symm⟩
    · obtain rfl := Option.some.inj e
      exact .inr hc
    · rw [List.getElem?_eq_none (by show 3 ≤ i; exact h)] at e
      cases e
  by_cases e : ps.length = m
  · cases hn : negAt ps 0 with
    | some k =>
      rw [dueL_neg e hn]
      exact ⟨_, _, rfl, Nat.le_refl 3, three _ _ _ (.inr ⟨_, rfl⟩)⟩
    | none =>
      cases c : lotB ns (-1) m with
      | true => exact absurd (dueL_ok e hn c) h
      | false =>
        rw [dueL_lot e hn c]
        refine ⟨_, _, rfl, by decide, fun i v e => ?_⟩
        rcases (by omega : i = 0 ∨ 1 ≤ i) with rfl | h
        · exact .inl ⟨_, (Option.some.inj e).symm⟩
        · rw [List.getElem?_eq_none (by show 1 ≤ i; exact h)] at e
          cases e
  · rw [dueL_len e]
    exact ⟨_, _, rfl, Nat.le_refl 3, three _ _ _ (.inl rfl)⟩
theorem negAt_setU {v : Int} (hv : v < 0) : ∀ {ps : List Int} {k i : Nat}, (∀ p ∈ ps, 0 ≤ p) → k < ps.length → negAt (ps.set k v) i = some (i + k)
  | [], _, _, _, h => absurd h (Nat.not_lt_zero _)
  | n :: r, 0, i, _, _ => if_pos hv
  | n :: r, k + 1, i, h, hk => by
    have h0 := h n List.mem_cons_self
    rw [List.set_cons_succ]
    refine (if_neg (by omega)).trans ((negAt_setU hv (fun p hp => h p (List.mem_cons_of_mem _ hp)) (Nat.lt_of_succ_lt_succ hk)).trans ?_)
    rw [show i + 1 + k = i + (k + 1) by omega]

theorem lotOf_lot (b : Int) (m : Nat) : lotB (lotOf b m) (-1) m = true := lotB_of (lotOf_asc b m) fun x hx => by
  have := lotOf_mem b hx
  omega
theorem vw_mono {fs os ps : List Int} {T B : Int} : ∀ ns : List Int, (∀ n ∈ ns, (ps.getD n.toNat 0 * B - T) * fs.getD n.toNat 0 ≤ (ps.getD n.toNat 0 * B - T) * os.getD n.toNat 0) → vSum fs ps ns * B - T * wSum fs ns ≤ vSum os ps ns * B - T * wSum os ns
  | [], _ => by
    unfold vSum wSum
    simp
  | n :: r, h => by
    have ih := vw_mono r fun x hx => h x (List.mem_cons_of_mem _ hx)
    have h0 := h n List.mem_cons_self
    rw [vSum_cons, vSum_cons, wSum_cons, wSum_cons]
    generalize ps.getD n.toNat 0 = p at *
    generalize fs.getD n.toNat 0 = f at *
    generalize os.getD n.toNat 0 = o at *
    have e1 : (f * p + vSum fs ps r) * B - T * (f + wSum fs r) = (p * B - T) * f + (vSum fs ps r * B - T * wSum fs r) := by grind
    have e2 : (o * p + vSum os ps r) * B - T * (o + wSum os r) = (p * B - T) * o + (vSum os ps r * B - T * wSum os r) := by grind
    rw [e1, e2]
    omega
theorem tw_at {ls ds cs ps ns : List Int} {T B n : Int} (hn : n ∈ ns) (h0 : 0 ≤ n) (h1 : n < ls.length) : (tw ls ds cs ps ns T B).getD n.toNat 0 = if T ≤ ps.getD n.toNat 0 * B then ds.getD n.toNat 0 else cs.getD n.toNat 0 := by
  unfold tw
  rw [wof_getD (by omega)]
  unfold wofV
  rw [show ((n.toNat : Nat) : Int) = n by omega]
  by_cases c : T ≤ ps.getD n.toNat 0 * B
  · rw [if_pos (mem_twT.mpr ⟨hn, c⟩), if_pos c]
  · rw [if_neg (fun z => c (mem_twT.mp z).2), if_pos hn, if_neg c]
/-- weights within the bounds -/
def Wit (ls hs os : List Int) : Prop := ∀ i, i < ls.length → ls.getD i 0 ≤ os.getD i 0 ∧ os.getD i 0 ≤ hs.getD i 0
theorem least_le {ls hs os ps ns : List Int} {a oa T B : Int} (wi : Wit ls hs os) (inl : ∀ n ∈ ns, -1 < n ∧ n < (ls.length : Int)) (lo : LowT (vSum (tw ls ls hs ps ns T B) ps ns) (a + wSum (tw ls ls hs ps ns T B) ns) T B) (T0 : 0 ≤ T) (ha : oa ≤ a) : T * (oa + wSum os ns) ≤ vSum os ps ns * B := by
  have h := vw_mono (fs := tw ls ls hs ps ns T B) (os := os) (ps := ps) (T := T) (B := B) ns fun n hn => by
    have bn := inl n hn
    have w := wi n.toNat (by omega)
    rw [tw_at hn (by omega) (by omega)]
    by_cases c : T ≤ ps.getD n.toNat 0 * B
    · rw [if_pos c]
      exact Int.mul_le_mul_of_nonneg_left w.1 (by omega)
    · rw [if_neg c]
      have := Int.mul_le_mul_of_nonneg_left w.2 (show 0 ≤ T - ps.getD n.toNat 0 * B by omega)
      have e : ∀ x : Int, (ps.getD n.toNat 0 * B - T) * x = -((T - ps.getD n.toNat 0 * B) * x) := fun x => by grind
      rw [e, e]
      omega
  have e := lo.eq
  rw [Int.mul_add] at e
  have h2 := Int.mul_le_mul_of_nonneg_left ha T0
  rw [Int.mul_add]
  omega
theorem great_le {ls hs os ps ns : List Int} {a oa T B : Int} (wi : Wit ls hs os) (inl : ∀ n ∈ ns, -1 < n ∧ n < (ls.length : Int)) (lo : LowT (vSum (tw ls hs ls ps ns T B) ps ns) (a + wSum (tw ls hs ls ps ns T B) ns) T B) (T0 : 0 ≤ T) (ha : a ≤ oa) : vSum os ps ns * B ≤ T * (oa + wSum os ns) := by
  have h := vw_mono (fs := os) (os := tw ls hs ls ps ns T B) (ps := ps) (T := T) (B := B) ns fun n hn => by
    have bn := inl n hn
    have w := wi n.toNat (by omega)
    rw [tw_at hn (by omega) (by omega)]
    by_cases c : T ≤ ps.getD n.toNat 0 * B
    · rw [if_pos c]
      exact Int.mul_le_mul_of_nonneg_left w.2 (by omega)
    · rw [if_neg c]
      have := Int.mul_le_mul_of_nonneg_left w.1 (show 0 ≤ T - ps.getD n.toNat 0 * B by omega)
      have e : ∀ x : Int, (ps.getD n.toNat 0 * B - T) * x = -((T - ps.getD n.toNat 0 * B) * x) := fun x => by grind
      rw [e, e]
      omega
  have e := lo.eq
  rw [Int.mul_add] at e
  have h2 := Int.mul_le_mul_of_nonneg_left ha T0
  rw [Int.mul_add]
  omega
theorem PrL.take {H : Hp} {us : List Addr} {zs : List (Int × Int)} (h : PrL H us zs) (m : Nat) : PrL H (us.take m) (zs.take m) := ⟨by rw [List.length_take, List.length_take, h.1], fun i u z h1 h2 => by
  rw [List.getElem?_take] at h1 h2
  split at h1
  · rw [if_pos (by assumption)] at h2
    exact h.2 i u z h1 h2
  · cases h1⟩
theorem badU_none : ∀ {ls hs : List Int} {i : Nat}, (∀ k, k < ls.length → 1 ≤ ls.getD k 0 ∧ ls.getD k 0 ≤ hs.getD k 0) → badU ls hs i = none
  | [], _, _, _ => by
    unfold badU
    rfl
  | _ :: _, [], _, _ => rfl
  | l :: ls, h :: hs, i, k => by
    have h0 := k 0 (Nat.succ_pos _)
    have h1 : 1 ≤ l ∧ l ≤ h := h0
    refine (if_neg (by omega)).trans ((if_neg (by omega)).trans (badU_none fun j hj => ?_))
    have := k (j + 1) (Nat.succ_lt_succ hj)
    exact this
theorem vw_bd2 {ws ps : List Int} (w1 : ∀ w ∈ ws, 1 ≤ w) (w2 : ∀ w ∈ ws, w ≤ 10 ^ 18) (hp0 : ∀ p ∈ ps, 0 ≤ p) (p2 : ∀ p ∈ ps, p ≤ 10 ^ 18) {ns : List Int} (nl : ns.length ≤ 24) : 0 ≤ vSum ws ps ns ∧ vSum ws ps ns ≤ 24 * 10 ^ 36 ∧ 0 ≤ wSum ws ns ∧ wSum ws ns ≤ 24 * 10 ^ 18 := by
  have bd := items_bd (ns := ns) w1 w2 hp0 p2
  have tot := sum_bd bd
  rw [List.length_map] at tot
  have t2 : (ns.length : Int) * 10 ^ 36 ≤ 24 * 10 ^ 36 := Int.mul_le_mul_of_nonneg_right (by omega) (by decide)
  have S1 := wSum_le ns w2
  have S2 : (ns.length : Int) * 10 ^ 18 ≤ 24 * 10 ^ 18 := Int.mul_le_mul_of_nonneg_right (by omega) (by decide)
  refine ⟨sum_nn fun x hx => (bd x hx).1, by unfold vSum; omega, ?_, by omega⟩
  unfold wSum
  exact sum_nn fun x hx => by
    obtain ⟨n, _, rfl⟩ := List.mem_map.mp hx
    exact getD_nn w1 _
theorem low_nn {V D T B : Int} (lo : LowT V D T B) (V0 : 0 ≤ V) (D0 : 0 < D) : 0 ≤ T := by
  rcases Int.lt_or_le T 0 with z | z
  · have h1 := Int.mul_lt_mul_of_pos_right z D0
    have h2 := Int.mul_nonneg V0 (show 0 ≤ B by have := lo.pos; omega)
    have := lo.eq
    omega
  · exact z
/-- the things that are not in a lot -/
def restL (ns : List Int) (m : Nat) : List Int := ((List.range m).filter fun (t : Nat) => !inV (.int (t : Int)) (ns.map V.int)).map fun (t : Nat) => (t : Int)
theorem restL_succ (ns : List Int) (m : Nat) : restL ns (m + 1) = restL ns m ++ if inV (.int (m : Int)) (ns.map V.int) = true then [] else [(m : Int)] := by
  unfold restL
  rw [List.range_succ, List.filter_append, List.map_append]
  congr 1
  cases h : inV (.int (m : Int)) (ns.map V.int) with
  | true =>
    rw [List.filter_cons_of_neg (by rw [h]; decide)]
    rfl
  | false =>
    rw [List.filter_cons_of_pos (by rw [h]; decide)]
    rfl
theorem restL_lot (ns : List Int) (m : Nat) : lotB (restL ns m) (-1) m = true := by
  refine lotB_of ?_ fun x hx => ?_
  · unfold restL
    refine List.Pairwise.map _ (fun a b h => ?_) (List.Pairwise.filter _ List.pairwise_lt_range)
    exact Int.ofNat_lt.mpr h
  · unfold restL at hx
    obtain ⟨t, ht, rfl⟩ := List.mem_map.mp hx
    have := List.mem_range.mp (List.mem_filter.mp ht).1
    omega

theorem dearU_mem {ps : List Int} {T B n : Int} {m : Nat} (h0 : 0 ≤ n) (h1 : n < (m : Int)) (h2 : T < ps.getD n.toNat 0 * B) : n ∈ dearU ps T B m := by
  unfold dearU
  exact List.mem_map.mpr ⟨n.toNat, List.mem_filter.mpr ⟨List.mem_range.mpr (by omega), decide_eq_true h2⟩, by omega⟩
theorem dearU_in {ps : List Int} {T B n : Int} {m : Nat} (h : n ∈ dearU ps T B m) : 0 ≤ n ∧ n < (m : Int) ∧ T < ps.getD n.toNat 0 * B := by
  unfold dearU at h
  obtain ⟨t, ht, rfl⟩ := List.mem_map.mp h
  have h2 := List.mem_filter.mp ht
  have := List.mem_range.mp h2.1
  refine ⟨by omega, by omega, ?_⟩
  rw [Int.toNat_natCast]
  exact of_decide_eq_true h2.2

theorem nodup_ups (F : Nat → Int) : ∀ (m : Nat) (ks : List Nat), ks.Nodup → (∀ k ∈ ks, k < m) → (ks.map F).sum ≤ ups ((List.range m).map F)
  | 0, [], _, _ => Int.le_refl _
  | 0, k :: _, _, h => absurd (h k List.mem_cons_self) (by omega)
  | m + 1, ks, nd, h => by
    have e : ups ((List.range (m + 1)).map F) = ups ((List.range m).map F) + max 0 (F m) := by
      unfold ups
      rw [List.range_succ, List.map_append, List.map_append, List.sum_append]
      simp
    rw [e]
    by_cases c : m ∈ ks
    · have p := List.perm_cons_erase c
      have ih := nodup_ups F m (ks.erase m) (nd.erase m) fun k hk => by
        have h1 := (List.Nodup.mem_erase_iff nd).mp hk
        have := h k h1.2
        have := h1.1
        omega
      rw [perm_sumI (p.map F), List.map_cons, List.sum_cons]
      omega
    · have ih := nodup_ups F m ks nd fun k hk => by
        have h1 := h k hk
        have : k ≠ m := fun z => c (z ▸ hk)
        omega
      omega
theorem BestK.any {ws ps : List Int} {b T B : Int} {k : Nat} (h : BestK ws ps b T B k) {ks : List Nat} (nd : ks.Nodup) (lt : ∀ x ∈ ks, x < ws.length) : vSum ws ps (ks.map fun (t : Nat) => (t : Int)) * B ≤ T * (b + wSum ws (ks.map fun (t : Nat) => (t : Int))) := by
  have e := vw_sum ws ps T B ks
  have h1 : (ks.map (fz ws ps T B)).sum ≤ ups (allF ws ps T B) := nodup_ups _ _ ks nd lt
  have h2 := h.pap
  rw [Int.mul_add, Int.mul_comm T b]
  omega
theorem lot_nat {ms : List Int} {m : Nat} (ok : lotB ms (-1) (m : Int) = true) : ∃ ks : List Nat, ms = ks.map (fun (t : Nat) => (t : Int)) ∧ ks.Nodup ∧ ∀ x ∈ ks, x < m := by
  have inl := lotB_in ok
  have e : ms = (ms.map Int.toNat).map (fun (t : Nat) => (t : Int)) := by
    rw [List.map_map]
    have : ∀ l : List Int, (∀ n ∈ l, -1 < n) → l.map ((fun (t : Nat) => (t : Int)) ∘ Int.toNat) = l := by
      intro l
      induction l with
      | nil => exact fun _ => rfl
      | cons x r ih =>
        intro h
        rw [List.map_cons, ih fun n hn => h n (List.mem_cons_of_mem _ hn)]
        have := h x List.mem_cons_self
        show ((x.toNat : Nat) : Int) :: r = x :: r
        rw [show ((x.toNat : Nat) : Int) = x by omega]
    exact (this ms fun n hn => (inl n hn).1).symm
  refine ⟨_, e, ?_, fun x hx => ?_⟩
  · have pw := lotB_pw ok
    refine List.pairwise_map.mpr (List.Pairwise.imp_of_mem ?_ pw)
    intro a b ha hb hab
    have := inl a ha
    have := inl b hb
    omega
  · obtain ⟨n, hn, rfl⟩ := List.mem_map.mp hx
    have := inl n hn
    omega
theorem BestK.lot {ws ps : List Int} {b T B : Int} {k : Nat} (h : BestK ws ps b T B k) {ms : List Int} (ok : lotB ms (-1) (ws.length : Int) = true) : vSum ws ps ms * B ≤ T * (b + wSum ws ms) := by
  obtain ⟨ks, rfl, nd, lt⟩ := lot_nat ok
  exact h.any nd lt
theorem best_under {ls hs os ps ds : List Int} {b oa T B : Int} (wi : Wit ls hs os) (ind : ∀ n ∈ ds, 0 ≤ n ∧ n < (ls.length : Int) ∧ T < ps.getD n.toNat 0 * B) (e : T * (b + wSum ls ds) = vSum ls ps ds * B) (T0 : 0 ≤ T) (ha : oa ≤ b) : T * (oa + wSum os ds) ≤ vSum os ps ds * B := by
  have h := vw_mono (fs := ls) (os := os) (ps := ps) (T := T) (B := B) ds fun n hn => by
    obtain ⟨h0, h1, h2⟩ := ind n hn
    exact Int.mul_le_mul_of_nonneg_left (wi n.toNat (by omega)).1 (by omega)
  have h2 := Int.mul_le_mul_of_nonneg_left ha T0
  rw [Int.mul_add] at e ⊢
  omega
theorem wit_self {ls hs os : List Int} (wi : Wit ls hs os) : Wit ls hs ls := fun i hi => ⟨Int.le_refl _, by have := wi i hi; omega⟩
theorem least_best {ls hs ps ms : List Int} {b T B T1 B1 : Int} {k : Nat} (wi : Wit ls hs ls) (bk : BestK ls ps b T B k) (ok : lotB ms (-1) (ls.length : Int) = true) (lo : LowT (vSum (tw ls ls hs ps ms T1 B1) ps ms) (b + wSum (tw ls ls hs ps ms T1 B1) ms) T1 B1) (T10 : 0 ≤ T1) (D0 : 0 < b + wSum (tw ls ls hs ps ms T1 B1) ms) (Dl : 0 < b + wSum ls ms) : vSum (tw ls ls hs ps ms T1 B1) ps ms * B ≤ T * (b + wSum (tw ls ls hs ps ms T1 B1) ms) := by
  have h1 := least_le wi (lotB_in ok) lo T10 (Int.le_refl b)
  have h2 := bk.lot ok
  have e := lo.eq
  have B10 := lo.pos
  have B0 := bk.B0
  generalize vSum (tw ls ls hs ps ms T1 B1) ps ms = V at *
  generalize b + wSum (tw ls ls hs ps ms T1 B1) ms = D at *
  generalize vSum ls ps ms = Vl at *
  generalize b + wSum ls ms = Dd at *
  have h3 : T1 * B ≤ T * B1 := by
    have a1 := Int.mul_le_mul_of_nonneg_right h1 (show 0 ≤ B by omega)
    have a2 := Int.mul_le_mul_of_nonneg_right h2 (show 0 ≤ B1 by omega)
    have e1 : T1 * Dd * B = T1 * B * Dd := by grind
    have e2 : Vl * B1 * B = Vl * B * B1 := by grind
    have e3 : T * Dd * B1 = T * B1 * Dd := by grind
    exact Int.le_of_mul_le_mul_right (by omega : T1 * B * Dd ≤ T * B1 * Dd) Dl
  have a1 := Int.mul_le_mul_of_nonneg_right h3 (show 0 ≤ D by omega)
  have e1 : T1 * B * D = V * B * B1 := by
    have : T1 * B * D = T1 * D * B := by grind
    rw [this, e]
    grind
  have e2 : T * B1 * D = T * D * B1 := by grind
  exact Int.le_of_mul_le_mul_right (by omega : V * B * B1 ≤ T * D * B1) B10
theorem least_all {ls hs ps ms : List Int} {b T B T1 B1 : Int} {k : Nat} (w1 : ∀ i, i < ls.length → 1 ≤ ls.getD i 0) (wi : Wit ls hs ls) (bk : BestK ls ps b T B k) (ok : lotB ms (-1) (ls.length : Int) = true) (lo : LowT (vSum (tw ls ls hs ps ms T1 B1) ps ms) (b + wSum (tw ls ls hs ps ms T1 B1) ms) T1 B1) (D0 : 0 < b + wSum (tw ls ls hs ps ms T1 B1) ms)
    (eq : vSum (tw ls ls hs ps ms T1 B1) ps ms * B = T * (b + wSum (tw ls ls hs ps ms T1 B1) ms)) : ∀ d, 0 ≤ d → d < (ls.length : Int) → T < ps.getD d.toNat 0 * B → d ∈ ms := by
  have inl := lotB_in ok
  have e := lo.eq
  have B10 := lo.pos
  have B0 := bk.B0
  have eT : T1 * B = T * B1 := by
    have a1 : T1 * B * (b + wSum (tw ls ls hs ps ms T1 B1) ms) = T * B1 * (b + wSum (tw ls ls hs ps ms T1 B1) ms) := by
      generalize vSum (tw ls ls hs ps ms T1 B1) ps ms = V at *
      generalize b + wSum (tw ls ls hs ps ms T1 B1) ms = D at *
      have x1 : T1 * B * D = T1 * D * B := by grind
      have x2 : T * B1 * D = T * D * B1 := by grind
      rw [x1, x2, e, ← eq]
      grind
    exact Int.eq_of_mul_eq_mul_right (by omega) a1
  have h := vw_mono (fs := tw ls ls hs ps ms T1 B1) (os := ls) (ps := ps) (T := T) (B := B) ms fun n hn => by
    have bn := inl n hn
    have w := wi n.toNat (by omega)
    rw [tw_at hn (by omega) (by omega)]
    by_cases c : T1 ≤ ps.getD n.toNat 0 * B1
    · rw [if_pos c]
      exact Int.le_refl _
    · rw [if_neg c]
      generalize ps.getD n.toNat 0 = p at *
      have c2 : p * B < T := by
        have a1 := Int.mul_lt_mul_of_pos_right (show p * B1 < T1 by omega) B0
        have x1 : p * B1 * B = p * B * B1 := by grind
        rw [x1, eT] at a1
        exact Int.lt_of_mul_lt_mul_right a1 (by omega)
      have := Int.mul_le_mul_of_nonneg_left w.2 (show 0 ≤ T - p * B by omega)
      have x : ∀ y : Int, (p * B - T) * y = -((T - p * B) * y) := fun y => by grind
      rw [x, x]
      omega
  rw [Int.mul_add] at eq
  intro d d0 d1 hd
  by_cases c : d ∈ ms
  · exact c
  obtain ⟨ks, rfl, nd, lt⟩ := lot_nat ok
  have nd2 : (d.toNat :: ks).Nodup := List.nodup_cons.mpr ⟨fun z => c (List.mem_map.mpr ⟨_, z, by omega⟩), nd⟩
  have h2 := bk.any nd2 fun x hx => by
    rcases List.mem_cons.mp hx with rfl | hx
    · omega
    · exact lt x hx
  rw [List.map_cons, vSum_cons, wSum_cons, Int.toNat_natCast] at h2
  have w := w1 d.toNat (by omega)
  generalize ls.getD d.toNat 0 = l at *
  generalize ps.getD d.toNat 0 = p at *
  have x1 : (l * p + vSum ls ps (ks.map fun (t : Nat) => (t : Int))) * B = l * (p * B) + vSum ls ps (ks.map fun (t : Nat) => (t : Int)) * B := by grind
  have x2 : T * (b + (l + wSum ls (ks.map fun (t : Nat) => (t : Int)))) = T * b + l * T + T * wSum ls (ks.map fun (t : Nat) => (t : Int)) := by grind
  rw [x1, x2] at h2
  have x3 := Int.mul_le_mul_of_nonneg_left (show T + 1 ≤ p * B by omega) (show 0 ≤ l by omega)
  rw [Int.mul_add, Int.mul_one] at x3
  omega
/-- the best things are the same whichever fraction tells the worth -/
theorem dearU_one {ps : List Int} {T B T2 B2 : Int} {m : Nat} (B0 : 0 < B) (B20 : 0 < B2) (e : T2 * B = T * B2) : dearU ps T B m = dearU ps T2 B2 m := by
  unfold dearU
  congr 1
  refine List.filter_congr fun t _ => decide_eq_decide.mpr ?_
  generalize ps.getD t 0 = p
  constructor
  · intro h
    have a1 := Int.mul_lt_mul_of_pos_right h B20
    rw [← e] at a1
    have x1 : p * B * B2 = p * B2 * B := by grind
    rw [x1] at a1
    exact Int.lt_of_mul_lt_mul_right a1 (by omega)
  · intro h
    have a1 := Int.mul_lt_mul_of_pos_right h B0
    rw [e] at a1
    have x1 : p * B2 * B = p * B * B2 := by grind
    rw [x1] at a1
    exact Int.lt_of_mul_lt_mul_right a1 (by omega)
section
variable {P : Program} {w : World} {K : PySem.W.Frag} {mg : Str → Option Value} {base : Heap}
def sp_BadNumber___init__ (C : Addr) : Sp := fun vs H Q _ => ∃ (a : Addr) (x y : V), vs = [.ref a, x, y] ∧ H a = some (exo a C none) ∧ ∀ dx, H dx = none → dx ≠ a → Q .non (errH H a C dx "what" "at" x y)
theorem ok_BadNumber___init__ {f : Addr} {fd : FuncData} {C_Weighted C_Ratio C_BadNumber C_TooMany C_ZeroBottom C_BadLot C_Unsure : Addr} (F : Fun K "__init__" "BadNumber.__init__" s_BadNumber___init__ f fd) (T : Txt K mg C_Weighted C_Ratio C_BadNumber C_TooMany C_ZeroBottom C_BadLot C_Unsure) : FnOk P w K mg base CX0 1 f fd ["self", "what", "at"] (sp_BadNumber___init__ C_BadNumber) := by
  refine F.ok sc_BadNumber___init__ (fun vs H Q E h => ?_) (fun cdv A outer s H vs Q E hr h => ?_)
  · obtain ⟨a, x, y, rfl, _⟩ := h
    rfl
  · obtain ⟨a, x, y, rfl, ha, q⟩ := h
    refine ⟨_, (pss_cons (ps_ost (pv 0) (pv 1))
      (pss_one (ps_ost (pv 0) (pv 2)))), ?_⟩
    refine ⟨_, rfl, _, rfl, a, C_BadNumber, rfl, T.ox_BadNumber, T.n_BadNumber_what, .inl ⟨ha, fun dx nd ne => ?_⟩⟩
    exact ⟨_, rfl, _, rfl, a, C_BadNumber, rfl, T.ox_BadNumber, T.n_BadNumber_at, .inr ⟨dx, _, upd_same, (upd_ne ne).trans upd_same, by show 1 ≤ 900; decide, q dx nd ne⟩⟩
def sp_TooMany___init__ (C : Addr) : Sp := fun vs H Q _ => ∃ (a : Addr) (x y : V), vs = [.ref a, x, y] ∧ H a = some (exo a C none) ∧ ∀ dx, H dx = none → dx ≠ a → Q .non (errH H a C dx "many" "most" x y)
theorem ok_TooMany___init__ {f : Addr} {fd : FuncData} {C_Weighted C_Ratio C_BadNumber C_TooMany C_ZeroBottom C_BadLot C_Unsure : Addr} (F : Fun K "__init__" "TooMany.__init__" s_TooMany___init__ f fd) (T : Txt K mg C_Weighted C_Ratio C_BadNumber C_TooMany C_ZeroBottom C_BadLot C_Unsure) : FnOk P w K mg base CX0 1 f fd ["self", "many", "most"] (sp_TooMany___init__ C_TooMany) := by
  refine F.ok sc_TooMany___init__ (fun vs H Q E h => ?_) (fun cdv A outer s H vs Q E hr h => ?_)
  · obtain ⟨a, x, y, rfl, _⟩ := h
    rfl
  · obtain ⟨a, x, y, rfl, ha, q⟩ := h
    refine ⟨_, (pss_cons (ps_ost (pv 0) (pv 1))
      (pss_one (ps_ost (pv 0) (pv 2)))), ?_⟩
    refine ⟨_, rfl, _, rfl, a, C_TooMany, rfl, T.ox_TooMany, T.n_TooMany_many, .inl ⟨ha, fun dx nd ne => ?_⟩⟩
    exact ⟨_, rfl, _, rfl, a, C_TooMany, rfl, T.ox_TooMany, T.n_TooMany_most, .inr ⟨dx, _, upd_same, (upd_ne ne).trans upd_same, by show 1 ≤ 900; decide, q dx nd ne⟩⟩
def sp_check_many (CT : Addr) : Sp := fun vs H Q E => ∃ m n : Int, vs = [.int m, .int n] ∧ (m > n → ∀ d, H d = none → E (.ref CT) (some d) (upd H d (.xd [("most", .int n), ("many", .int m)]))) ∧ (¬ m > n → Q .non H)
theorem ok_check_many {f : Addr} {fd : FuncData} {C_Weighted C_Ratio C_BadNumber C_TooMany C_ZeroBottom C_BadLot C_Unsure : Addr} (F : Fun K "check_many" "check_many" s_check_many f fd) (T : Txt K mg C_Weighted C_Ratio C_BadNumber C_TooMany C_ZeroBottom C_BadLot C_Unsure) (c_TooMany___init__ : CalX P w K mg base CX0 1 C_TooMany ["self", "many", "most"] (sp_TooMany___init__ C_TooMany)) : FnOk P w K mg base (L2.CX P w) 3 f fd ["many", "most"] (sp_check_many C_TooMany) := by
  refine F.okX sc_check_many (fun vs H Q E h => ?_) (fun cdv A outer s H vs Q E hr h => ?_)
  · obtain ⟨m, n, rfl, _⟩ := h
    rfl
  · obtain ⟨m, n, rfl, kE, q⟩ := h
    obtain ⟨f_TooMany___init__, fd_TooMany___init__, G_TooMany___init__, ic_TooMany___init__, ti_TooMany___init__, b_TooMany___init__⟩ := c_TooMany___init__
    refine ⟨_, (pss_one (ps_if (pt_cmpR op_gt (pv 0) (pv 1) (nomark _)) (pss_one (ps_raise rfl (takes_of rfl rfl rfl rfl) (pmk_oex T.ox_TooMany ic_TooMany___init__ ti_TooMany___init__ G_TooMany___init__ (hr.mono (by decide)) b_TooMany___init__ .nil pass0 (by exact rfl) T.g_TooMany (pa_cons (pv 0) (pa_cons (pv 1) pa_nil))))) pss_nil)), ?_⟩
    refine ⟨_, rfl, _, rfl, _, _, rfl, rfl, _, rfl, ite2 (fun e => ?_) (fun e => q fun z => e (decide_eq_true z))⟩
    exact ⟨_, rfl, _, rfl, (by show 2 ≤ 1000; decide), fun a na => ⟨a, _, _, rfl, upd_same, fun dx nd ne => raise2 (kE (of_decide_eq_true e)) na nd ne⟩⟩
def sp_check_length (CB : Addr) : Sp := fun vs H Q E => ∃ (w : Str) (l : Addr) (xs : List V) (m : Int), vs = [.str w, .ref l, .int m] ∧ H l = some (.lst xs) ∧ (¬ (xs.length : Int) = m → ∀ d, H d = none → E (.ref CB) (some d) (upd H d (.xd [("at", .non), ("what", .str w)]))) ∧ ((xs.length : Int) = m → Q .non H)
theorem ok_check_length {f : Addr} {fd : FuncData} {C_Weighted C_Ratio C_BadNumber C_TooMany C_ZeroBottom C_BadLot C_Unsure : Addr} (F : Fun K "check_length" "check_length" s_check_length f fd) (T : Txt K mg C_Weighted C_Ratio C_BadNumber C_TooMany C_ZeroBottom C_BadLot C_Unsure) (m_len : mg "len" = none) (c_BadNumber___init__ : CalX P w K mg base CX0 1 C_BadNumber ["self", "what", "at"] (sp_BadNumber___init__ C_BadNumber)) : FnOk P w K mg base (L2.CX P w) 3 f fd ["what", "items", "many"] (sp_check_length C_BadNumber) := by
  refine F.okX sc_check_length (fun vs H Q E h => ?_) (fun cdv A outer s H vs Q E hr h => ?_)
  · obtain ⟨w, l, xs, m, rfl, _⟩ := h
    rfl
  · obtain ⟨w, l, xs, m, rfl, hl, kE, q⟩ := h
    obtain ⟨f_BadNumber___init__, fd_BadNumber___init__, G_BadNumber___init__, ic_BadNumber___init__, ti_BadNumber___init__, b_BadNumber___init__⟩ := c_BadNumber___init__
    refine ⟨_, (pss_one (ps_if (pt_cmpR op_ne (pe_callB call_len_seq (by rfl) m_len (by decide +kernel) (pa_cons (pv 1) pa_nil)) (pv 2) (nomark _)) (pss_one (ps_raise rfl (takes_of rfl rfl rfl rfl) (pmk_oex T.ox_BadNumber ic_BadNumber___init__ ti_BadNumber___init__ G_BadNumber___init__ (hr.mono (by decide)) b_BadNumber___init__ .nil pass0 (by exact rfl) T.g_BadNumber (pa_cons (pv 0) (pa_cons pe_non pa_nil))))) pss_nil)), ?_⟩
    refine ⟨_, rfl, l, _, rfl, .inl (lst_l hl), _, rfl, rfl, _, rfl, ite2N (fun e => ?_) (fun e => q (V.int.inj e))⟩
    exact ⟨_, rfl, (by show 2 ≤ 1000; decide), fun a na => ⟨a, _, _, rfl, upd_same, fun dx nd ne => raise2 (kE fun z => e (congrArg V.int z)) na nd ne⟩⟩
def sp_check_each (K : PySem.W.Frag) (CB : Addr) : Sp := fun vs H Q E => ∃ (l : Addr) (w : Str) (ns : List Int) (b : Int), vs = [.str w, .ref l, .int b] ∧ (H l = some (.lst (ns.map V.int)) ∨ H l = some (.tup (ns.map V.int))) ∧ ns.length ≤ 1000 ∧ (∀ k : Nat, lowAt b ns 0 = some k → ∀ H' d, Same H H' → H' d = some (.xd [("at", .int k), ("what", .str w)]) → E (.ref CB) (some d) H') ∧ (lowAt b ns 0 = none → ∀ H', Same H H' → Q .non H')
theorem ok_check_each {f : Addr} {fd : FuncData} {C_Weighted C_Ratio C_BadNumber C_TooMany C_ZeroBottom C_BadLot C_Unsure : Addr} (F : Fun K "check_each" "check_each" s_check_each f fd) (T : Txt K mg C_Weighted C_Ratio C_BadNumber C_TooMany C_ZeroBottom C_BadLot C_Unsure) (m_enumerate : mg "enumerate" = none) (c_BadNumber___init__ : CalX P w K mg base CX0 1 C_BadNumber ["self", "what", "at"] (sp_BadNumber___init__ C_BadNumber)) : FnOk P w K mg base (L2.CX P w) 3 f fd ["what", "numbers", "least"] (sp_check_each K C_BadNumber) := by
  refine F.okX sc_check_each (fun vs H Q E h => ?_) (fun cdv A outer s H vs Q E hr h => ?_)
  · obtain ⟨l, w, ns, b, rfl, _⟩ := h
    rfl
  · obtain ⟨l, w, ns, b, rfl, hl, hlen, kE, q⟩ := h
    obtain ⟨f_BadNumber___init__, fd_BadNumber___init__, G_BadNumber___init__, ic_BadNumber___init__, ti_BadNumber___init__, b_BadNumber___init__⟩ := c_BadNumber___init__
    refine ⟨_, (pss_one (ps_for (passes_of rfl) rfl (pi_enumQ (by rfl) m_enumerate (pa_cons (pv 1) pa_nil)) (pg_tup rfl (pgs_cons (pg_name (i := 3) sc_check_each.nd rfl (Or.inl rfl)) (pgs_cons (pg_name (i := 4) sc_check_each.nd rfl (Or.inl rfl)) pgs_nil)))
      (pss_one (ps_if (pt_cmpR op_lt (pv 4) (pv 2) (nomark _)) (pss_one (ps_raise rfl (takes_of rfl rfl rfl rfl) (pmk_oex T.ox_BadNumber ic_BadNumber___init__ ti_BadNumber___init__ G_BadNumber___init__ (hr.mono (by decide)) b_BadNumber___init__ .nil pass0 (by exact rfl) T.g_BadNumber (pa_cons (pv 0) (pa_cons (pv 3) pa_nil))))) pss_nil)))), ?_⟩
    rcases hl with hl | hl
    · refine ⟨_, rfl, l, rfl, .inl ⟨_, lst_l hl, ?_⟩⟩
      refine for_it (walk_enum (K := K) (a := l) (xs := ns.map V.int)) (fun i σ H2 => ∃ y1 y2 : Option V, σ = [some (.str w), some (.ref l), some (.int b), y1, y2] ∧ Same H H2 ∧ lowAt b ns 0 = lowAt b (ns.drop i) i) ⟨none, none, rfl, fun _ _ z => z, rfl⟩ ?_ ?_ ?_
      · rintro i σ H2 _ ⟨_, _, _, sx, _⟩
        exact lst_l (sx l _ hl)
      · rintro i x σ H2 H3 hi ⟨y1, y2, rfl, sx, hb⟩ ⟨tp, ix, nx, rfl, ntp, rfl, e1, e2⟩
        cases e1
        obtain ⟨n, rfl, hn⟩ := int_of e2
        rw [List.length_map] at hi
        refine ⟨tp, _, rfl, tup_t upd_same, rfl, _, _, rfl, _, _, rfl, rfl, ?_⟩
        have hd : ns.drop i = n :: ns.drop (i + 1) := by
          rw [List.drop_eq_getElem_cons hi]
          rw [List.getElem?_eq_getElem hi] at hn
          rw [Option.some.inj hn]
        refine ⟨_, rfl, _, rfl, _, _, rfl, rfl, _, rfl, ite2 (fun c => ?_) (fun c => ?_)⟩
        · have c := of_decide_eq_true c
          have hk : lowAt b ns 0 = some i := by
            rw [hb, hd]
            exact if_pos c
          exact ⟨_, rfl, _, rfl, (by show 2 ≤ 1000; decide), fun a na => ⟨a, _, _, rfl, upd_same, fun dx2 nd ne => raise2 (fun d nd => kE i hk _ _ ((sx.trans (same_upd ntp)).trans (same_upd nd)) upd_same) na nd ne⟩⟩
        · have c : ¬ n < b := fun z => c (decide_eq_true z)
          refine ⟨_, _, rfl, sx.trans (same_upd ntp), ?_⟩
          rw [hb, hd]
          exact if_neg c
      · rintro σ H2 ⟨y1, y2, rfl, sx, hb⟩
        rw [List.length_map, List.drop_length] at hb
        exact q hb H2 sx
    · refine ⟨_, rfl, l, rfl, .inr ⟨_, tup_t hl, ?_⟩⟩
      refine for_it (walk_enumT (K := K) (a := l) (xs := ns.map V.int)) (fun i σ H2 => ∃ y1 y2 : Option V, σ = [some (.str w), some (.ref l), some (.int b), y1, y2] ∧ Same H H2 ∧ lowAt b ns 0 = lowAt b (ns.drop i) i) ⟨none, none, rfl, fun _ _ z => z, rfl⟩ ?_ ?_ ?_
      · rintro i σ H2 _ ⟨_, _, _, sx, _⟩
        exact tup_t (sx l _ hl)
      · rintro i x σ H2 H3 hi ⟨y1, y2, rfl, sx, hb⟩ ⟨tp, ix, nx, rfl, ntp, rfl, e1, e2⟩
        cases e1
        obtain ⟨n, rfl, hn⟩ := int_of e2
        rw [List.length_map] at hi
        refine ⟨tp, _, rfl, tup_t upd_same, rfl, _, _, rfl, _, _, rfl, rfl, ?_⟩
        have hd : ns.drop i = n :: ns.drop (i + 1) := by
          rw [List.drop_eq_getElem_cons hi]
          rw [List.getElem?_eq_getElem hi] at hn
          rw [Option.some.inj hn]
        refine ⟨_, rfl, _, rfl, _, _, rfl, rfl, _, rfl, ite2 (fun c => ?_) (fun c => ?_)⟩
        · have c := of_decide_eq_true c
          have hk : lowAt b ns 0 = some i := by
            rw [hb, hd]
            exact if_pos c
          exact ⟨_, rfl, _, rfl, (by show 2 ≤ 1000; decide), fun a na => ⟨a, _, _, rfl, upd_same, fun dx2 nd ne => raise2 (fun d nd => kE i hk _ _ ((sx.trans (same_upd ntp)).trans (same_upd nd)) upd_same) na nd ne⟩⟩
        · have c : ¬ n < b := fun z => c (decide_eq_true z)
          refine ⟨_, _, rfl, sx.trans (same_upd ntp), ?_⟩
          rw [hb, hd]
          exact if_neg c
      · rintro σ H2 ⟨y1, y2, rfl, sx, hb⟩
        rw [List.length_map, List.drop_length] at hb
        exact q hb H2 sx
def sp_check_prices (K : PySem.W.Frag) (CB : Addr) : Sp := fun vs H Q E => ∃ (l : Addr) (ps : List Int) (m : Int), vs = [.ref l, .int m] ∧ H l = some (.lst (ps.map V.int)) ∧ ps.length ≤ 1000 ∧ (¬ (ps.length : Int) = m → ∀ H' d, Same H H' → H' d = some (.xd [("at", .non), ("what", .str "prices")]) → E (.ref CB) (some d) H') ∧
  ((ps.length : Int) = m → ∀ k : Nat, negAt ps 0 = some k → ∀ H' d, Same H H' → H' d = some (.xd [("at", .int k), ("what", .str "prices")]) → E (.ref CB) (some d) H') ∧ ((ps.length : Int) = m → negAt ps 0 = none → ∀ H', Same H H' → Q .non H')
theorem ok_check_prices {f : Addr} {fd : FuncData} {C_Weighted C_Ratio C_BadNumber C_TooMany C_ZeroBottom C_BadLot C_Unsure : Addr} (F : Fun K "check_prices" "check_prices" s_check_prices f fd) (T : Txt K mg C_Weighted C_Ratio C_BadNumber C_TooMany C_ZeroBottom C_BadLot C_Unsure) (c_check_length : Cal P w K mg base (L2.CX P w) 3 "check_length" ["what", "items", "many"] (sp_check_length C_BadNumber)) (c_check_each : Cal P w K mg base (L2.CX P w) 3 "check_each" ["what", "numbers", "least"] (sp_check_each K C_BadNumber)) : FnOk P w K mg base (L2.CX P w) 4 f fd ["prices", "many"] (sp_check_prices K C_BadNumber) := by
  refine F.okX sc_check_prices (fun vs H Q E h => ?_) (fun cdv A outer s H vs Q E hr h => ?_)
  · obtain ⟨l, ps, m, rfl, _⟩ := h
    rfl
  · obtain ⟨l, ps, m, rfl, hl, hlen, kL, kE, q⟩ := h
    obtain ⟨f_check_length, fd_check_length, G_check_length, m_check_length, k_check_length, b_check_length⟩ := c_check_length
    obtain ⟨f_check_each, fd_check_each, G_check_each, m_check_each, k_check_each, b_check_each⟩ := c_check_each
    refine ⟨_, (pss_cons (ps_expr (pe_call G_check_length (hr.mono (by decide)) (by rfl) m_check_length k_check_length b_check_length .nil (passes_call (takes_of rfl rfl rfl rfl) (fun _ _ _ _ h => h)) (pa_cons pe_str (pa_cons (pv 0) (pa_cons (pv 1) pa_nil)))))
      (pss_one (ps_expr (pe_call G_check_each (hr.mono (by decide)) (by rfl) m_check_each k_check_each b_check_each .nil (passes_call (takes_of rfl rfl rfl rfl) (fun _ _ _ _ h => h)) (pa_cons pe_str (pa_cons (pv 0) (pa_cons pe_int pa_nil))))))), ?_⟩
    refine ⟨_, rfl, _, rfl, _, l, _, m, rfl, hl, fun e d nd => ?_, fun e => ?_⟩
    · rw [List.length_map] at e
      exact kL e _ d (same_upd nd) upd_same
    rw [List.length_map] at e
    exact ⟨_, rfl, l, _, ps, 0, rfl, .inl hl, hlen, fun k hk H' d s hd => kE e k ((low_neg ps 0).symm.trans hk) H' d s hd, fun hb H' s => q e ((low_neg ps 0).symm.trans hb) H' s⟩
def sp_check_least (CB : Addr) : Sp := fun vs H Q E => ∃ (w : Str) (n b : Int), vs = [.str w, .int n, .int b] ∧ (n < b → ∀ d, H d = none → E (.ref CB) (some d) (upd H d (.xd [("at", .non), ("what", .str w)]))) ∧ (¬ n < b → Q .non H)
theorem ok_check_least {f : Addr} {fd : FuncData} {C_Weighted C_Ratio C_BadNumber C_TooMany C_ZeroBottom C_BadLot C_Unsure : Addr} (F : Fun K "check_least" "check_least" s_check_least f fd) (T : Txt K mg C_Weighted C_Ratio C_BadNumber C_TooMany C_ZeroBottom C_BadLot C_Unsure) (c_BadNumber___init__ : CalX P w K mg base CX0 1 C_BadNumber ["self", "what", "at"] (sp_BadNumber___init__ C_BadNumber)) : FnOk P w K mg base (L2.CX P w) 3 f fd ["what", "number", "least"] (sp_check_least C_BadNumber) := by
  refine F.okX sc_check_least (fun vs H Q E h => ?_) (fun cdv A outer s H vs Q E hr h => ?_)
  · obtain ⟨w, n, b, rfl, _⟩ := h
    rfl
  · obtain ⟨w, n, b, rfl, kE, q⟩ := h
    obtain ⟨f_BadNumber___init__, fd_BadNumber___init__, G_BadNumber___init__, ic_BadNumber___init__, ti_BadNumber___init__, b_BadNumber___init__⟩ := c_BadNumber___init__
    refine ⟨_, (pss_one (ps_if (pt_cmpR op_lt (pv 1) (pv 2) (nomark _)) (pss_one (ps_raise rfl (takes_of rfl rfl rfl rfl) (pmk_oex T.ox_BadNumber ic_BadNumber___init__ ti_BadNumber___init__ G_BadNumber___init__ (hr.mono (by decide)) b_BadNumber___init__ .nil pass0 (by exact rfl) T.g_BadNumber (pa_cons (pv 0) (pa_cons pe_non pa_nil))))) pss_nil)), ?_⟩
    refine ⟨_, rfl, _, rfl, _, _, rfl, rfl, _, rfl, ite2 (fun e => ?_) (fun e => q fun z => e (decide_eq_true z))⟩
    exact ⟨_, rfl, (by show 2 ≤ 1000; decide), fun a na => ⟨a, _, _, rfl, upd_same, fun dx nd ne => raise2 (kE (of_decide_eq_true e)) na nd ne⟩⟩
def sp_check_aside (CB : Addr) : Sp := fun vs H Q E => ∃ n : Int, vs = [.int n] ∧ (n < 1 → ∀ d, H d = none → E (.ref CB) (some d) (upd H d (.xd [("at", .non), ("what", .str "aside")]))) ∧ (¬ n < 1 → Q .non H)
theorem ok_check_aside {f : Addr} {fd : FuncData} {C_Weighted C_Ratio C_BadNumber C_TooMany C_ZeroBottom C_BadLot C_Unsure : Addr} (F : Fun K "check_aside" "check_aside" s_check_aside f fd) (T : Txt K mg C_Weighted C_Ratio C_BadNumber C_TooMany C_ZeroBottom C_BadLot C_Unsure) (c_check_least : Cal P w K mg base (L2.CX P w) 3 "check_least" ["what", "number", "least"] (sp_check_least C_BadNumber)) : FnOk P w K mg base (L2.CX P w) 4 f fd ["aside"] (sp_check_aside C_BadNumber) := by
  refine F.okX sc_check_aside (fun vs H Q E h => ?_) (fun cdv A outer s H vs Q E hr h => ?_)
  · obtain ⟨n, rfl, _⟩ := h
    rfl
  · obtain ⟨n, rfl, kE, q⟩ := h
    obtain ⟨f_check_least, fd_check_least, G_check_least, m_check_least, k_check_least, b_check_least⟩ := c_check_least
    refine ⟨_, (pss_one (ps_expr (pe_call G_check_least (hr.mono (by decide)) (by rfl) m_check_least k_check_least b_check_least .nil (passes_call (takes_of rfl rfl rfl rfl) (fun _ _ _ _ h => h)) (pa_cons pe_str (pa_cons (pv 0) (pa_cons pe_int pa_nil)))))), ?_⟩
    exact ⟨_, rfl, _, n, 1, rfl, kE, q⟩
def sp_check_up_to (CB : Addr) : Sp := fun vs H Q E => ∃ (w : Str) (n m : Int), vs = [.str w, .int n, .int m] ∧ ((n < 0 ∨ m < n) → ∀ d, H d = none → E (.ref CB) (some d) (upd H d (.xd [("at", .non), ("what", .str w)]))) ∧ (0 ≤ n → n ≤ m → Q .non H)
theorem ok_check_up_to {f : Addr} {fd : FuncData} {C_Weighted C_Ratio C_BadNumber C_TooMany C_ZeroBottom C_BadLot C_Unsure : Addr} (F : Fun K "check_up_to" "check_up_to" s_check_up_to f fd) (T : Txt K mg C_Weighted C_Ratio C_BadNumber C_TooMany C_ZeroBottom C_BadLot C_Unsure) (c_BadNumber___init__ : CalX P w K mg base CX0 1 C_BadNumber ["self", "what", "at"] (sp_BadNumber___init__ C_BadNumber)) : FnOk P w K mg base (L2.CX P w) 3 f fd ["what", "number", "most"] (sp_check_up_to C_BadNumber) := by
  refine F.okX sc_check_up_to (fun vs H Q E h => ?_) (fun cdv A outer s H vs Q E hr h => ?_)
  · obtain ⟨w, n, m, rfl, _⟩ := h
    rfl
  · obtain ⟨w, n, m, rfl, kE, q⟩ := h
    obtain ⟨f_BadNumber___init__, fd_BadNumber___init__, G_BadNumber___init__, ic_BadNumber___init__, ti_BadNumber___init__, b_BadNumber___init__⟩ := c_BadNumber___init__
    refine ⟨_, (pss_one (ps_if (PW.pt (pw_or (pt_cmpR op_lt (pv 1) pe_int (nomark _)) (pw_or1 (pt_cmpR op_gt (pv 1) (pv 2) (nomark _))))) (pss_one (ps_raise rfl (takes_of rfl rfl rfl rfl) (pmk_oex T.ox_BadNumber ic_BadNumber___init__ ti_BadNumber___init__ G_BadNumber___init__ (hr.mono (by decide)) b_BadNumber___init__ .nil pass0 (by exact rfl) T.g_BadNumber (pa_cons (pv 0) (pa_cons pe_non pa_nil))))) pss_nil)), ?_⟩
    refine ⟨_, rfl, _, _, rfl, rfl, _, rfl, ite2 (fun c => ?_) (fun c => ⟨_, rfl, _, rfl, _, _, rfl, rfl, _, rfl, ite2 (fun c2 => ?_) (fun c2 => ?_)⟩)⟩
    · exact ⟨_, rfl, (by show 2 ≤ 1000; decide), fun a na => ⟨a, _, _, rfl, upd_same, fun dx nd ne => raise2 (kE (.inl (of_decide_eq_true c))) na nd ne⟩⟩
    · exact ⟨_, rfl, (by show 2 ≤ 1000; decide), fun a na => ⟨a, _, _, rfl, upd_same, fun dx nd ne => raise2 (kE (.inr (of_decide_eq_true c2))) na nd ne⟩⟩
    · have c : ¬ n < 0 := fun z => c (decide_eq_true z)
      have c2 : ¬ n > m := fun z => c2 (decide_eq_true z)
      exact q (by omega) (by omega)
def sp_check_lot (K : PySem.W.Frag) (CL : Addr) : Sp := fun vs H Q E => ∃ (l : Addr) (ns : List Int) (m : Int), vs = [.ref l, .int m] ∧ SqT K H l (ns.map V.int) ∧ (lotB ns (-1) m = false → E (.ref CL) none H) ∧ (lotB ns (-1) m = true → Q .non H)
theorem ok_check_lot {f : Addr} {fd : FuncData} {C_Weighted C_Ratio C_BadNumber C_TooMany C_ZeroBottom C_BadLot C_Unsure : Addr} (F : Fun K "check_lot" "check_lot" s_check_lot f fd) (T : Txt K mg C_Weighted C_Ratio C_BadNumber C_TooMany C_ZeroBottom C_BadLot C_Unsure) : FnOk P w K mg base (L2.CX P w) 1 f fd ["lot", "many"] (sp_check_lot K C_BadLot) := by
  refine F.okX sc_check_lot (fun vs H Q E h => ?_) (fun cdv A outer s H vs Q E hr h => ?_)
  · obtain ⟨l, ns, m, rfl, _⟩ := h
    rfl
  · obtain ⟨l, ns, m, rfl, hl, kE, q⟩ := h
    refine ⟨_, (pss_cons (ps_set (i := 2) sc_check_lot.nd rfl (Or.inl rfl) (pe_un un_neg pe_int))
      (pss_one (ps_for (passes_of rfl) rfl (pi_tup (pv 0)) (pg_name (i := 3) sc_check_lot.nd rfl (Or.inl rfl))
      (pss_cons (ps_if (PW.pt (pw_or (pt_cmpR op_le (pv 3) (pv 2) (nomark _)) (pw_or1 (pt_cmpR op_ge (pv 3) (pv 1) (nomark _))))) (pss_one (ps_raise rfl (takes_of rfl rfl rfl rfl) (pmk_own PySem.F.excBase_ValueError T.x_BadLot T.g_BadLot T.kc_BadLot (raises_own T.b_BadLot T.t_BadLot) (by exact rfl)))) pss_nil)
      (pss_one (ps_set (i := 2) sc_check_lot.nd rfl (Or.inl rfl) (pv 3))))))), ?_⟩
    refine ⟨1, rfl, ?_⟩
    refine ⟨_, rfl, l, rfl, ⟨_, hl⟩, for_tup (K := K) (a := l) (xs := ns.map V.int) (fun i σ H2 => ∃ (b : Int) (y : Option V), σ = [some (.ref l), some (.int m), some (.int b), y] ∧ H2 = H ∧ lotB ns (-1) m = lotB (ns.drop i) b m) ⟨-1, none, rfl, rfl, rfl⟩ (fun i σ H2 _ ⟨_, _, _, e, _⟩ => e ▸ hl) ?_ ?_⟩
    · rintro i x σ H2 hi ⟨b, y, rfl, rfl, hb⟩
      obtain ⟨n, rfl, hn⟩ := int_of hi
      have hd : ns.drop i = n :: ns.drop (i + 1) := by
        have lt : i < ns.length := (List.getElem?_eq_some_iff.mp hn).1
        rw [List.drop_eq_getElem_cons lt]
        rw [List.getElem?_eq_getElem lt] at hn
        rw [Option.some.inj hn]
      rw [hd] at hb
      refine ⟨_, rfl, _, rfl, _, _, rfl, rfl, _, rfl, ite2 (fun c => ?_) (fun c => ⟨_, rfl, _, rfl, _, _, rfl, rfl, _, rfl, ite2 (fun c2 => ?_) (fun c2 => ?_)⟩)⟩
      · exact kE (hb.trans (if_pos (.inl (of_decide_eq_true c))))
      · exact kE (hb.trans (if_pos (.inr (of_decide_eq_true c2))))
      · refine ⟨_, rfl, n, _, rfl, rfl, ?_⟩
        rw [hb]
        exact if_neg fun z => z.elim (fun z => c (decide_eq_true z)) fun z => c2 (decide_eq_true z)
    · rintro σ H2 ⟨b, y, rfl, rfl, hb⟩
      rw [List.length_map, List.drop_length] at hb
      exact q hb
def sp__check_bounds_of_aside (CB : Addr) : Sp := fun vs H Q E => ∃ (t : Addr) (a b : Int), vs = [.ref t] ∧ H t = some (.tup [.int a, .int b]) ∧ (a < 1 → ∀ d, H d = none → E (.ref CB) (some d) (upd H d (.xd [("at", .int 0), ("what", .str "aside")]))) ∧
  (¬ a < 1 → b < a → ∀ d, H d = none → E (.ref CB) (some d) (upd H d (.xd [("at", .int 1), ("what", .str "aside")]))) ∧ (¬ a < 1 → ¬ b < a → Q .non H)
theorem ok__check_bounds_of_aside {f : Addr} {fd : FuncData} {C_Weighted C_Ratio C_BadNumber C_TooMany C_ZeroBottom C_BadLot C_Unsure : Addr} (F : Fun K "_check_bounds_of_aside" "_check_bounds_of_aside" s__check_bounds_of_aside f fd) (T : Txt K mg C_Weighted C_Ratio C_BadNumber C_TooMany C_ZeroBottom C_BadLot C_Unsure) (c_BadNumber___init__ : CalX P w K mg base CX0 1 C_BadNumber ["self", "what", "at"] (sp_BadNumber___init__ C_BadNumber)) : FnOk P w K mg base (L2.CX P w) 3 f fd ["aside"] (sp__check_bounds_of_aside C_BadNumber) := by
  refine F.okX sc__check_bounds_of_aside (fun vs H Q E h => ?_) (fun cdv A outer s H vs Q E hr h => ?_)
  · obtain ⟨t, a, b, rfl, _⟩ := h
    rfl
  · obtain ⟨t, a, b, rfl, ht, k1, k2, q⟩ := h
    obtain ⟨f_BadNumber___init__, fd_BadNumber___init__, G_BadNumber___init__, ic_BadNumber___init__, ti_BadNumber___init__, b_BadNumber___init__⟩ := c_BadNumber___init__
    refine ⟨_, (pss_cons (ps_asg (pv 0) (pg_tup rfl (pgs_cons (pg_name (i := 1) sc__check_bounds_of_aside.nd rfl (Or.inl rfl)) (pgs_cons (pg_name (i := 2) sc__check_bounds_of_aside.nd rfl (Or.inl rfl)) pgs_nil))))
      (pss_cons (ps_if (pt_cmpR op_lt (pv 1) pe_int (nomark _)) (pss_one (ps_raise rfl (takes_of rfl rfl rfl rfl) (pmk_oex T.ox_BadNumber ic_BadNumber___init__ ti_BadNumber___init__ G_BadNumber___init__ (hr.mono (by decide)) b_BadNumber___init__ .nil pass0 (by exact rfl) T.g_BadNumber (pa_cons pe_str (pa_cons pe_int pa_nil))))) pss_nil)
      (pss_one (ps_if (pt_cmpR op_lt (pv 2) (pv 1) (nomark _)) (pss_one (ps_raise rfl (takes_of rfl rfl rfl rfl) (pmk_oex T.ox_BadNumber ic_BadNumber___init__ ti_BadNumber___init__ G_BadNumber___init__ (hr.mono (by decide)) b_BadNumber___init__ .nil pass0 (by exact rfl) T.g_BadNumber (pa_cons pe_str (pa_cons pe_int pa_nil))))) pss_nil)))), ?_⟩
    refine ⟨_, rfl, t, _, rfl, tup_t ht, rfl, _, _, rfl, _, _, rfl, rfl, ?_⟩
    refine ⟨_, rfl, _, _, rfl, rfl, _, rfl, ite2 (fun c => ?_) (fun c => ?_)⟩
    · exact ⟨(by show 2 ≤ 1000; decide), fun x nx => ⟨x, _, _, rfl, upd_same, fun dx nd ne => raise2 (k1 (of_decide_eq_true c)) nx nd ne⟩⟩
    have c : ¬ a < 1 := fun z => c (decide_eq_true z)
    refine ⟨_, rfl, _, rfl, _, _, rfl, rfl, _, rfl, ite2 (fun c2 => ?_) (fun c2 => q c fun z => c2 (decide_eq_true z))⟩
    exact ⟨(by show 2 ≤ 1000; decide), fun x nx => ⟨x, _, _, rfl, upd_same, fun dx nd ne => raise2 (k2 c (of_decide_eq_true c2)) nx nd ne⟩⟩
def sp_Unsure___init__ (C CT CB : Addr) : Sp := fun vs H Q E => ∃ (p cx L M A : Addr) (ls hs : List Int) (a b : Int), vs = [.ref p, .ref L, .ref M, .ref A] ∧ H p = some (.ins C cx []) ∧ H L = some (.lst (ls.map V.int)) ∧ H M = some (.lst (hs.map V.int)) ∧ H A = some (.tup [.int a, .int b]) ∧ ls.length ≤ 900 ∧ hs.length ≤ 900 ∧
  (∀ n, dueU ls hs a b = .many n → ∀ H' d, SameX p H H' → H' d = some (.xd [("most", .int 24), ("many", .int (n : Int))]) → E (.ref CT) (some d) H') ∧
  (∀ w v, dueU ls hs a b = .num w v → ∀ H' d, SameX p H H' → H' d = some (.xd [("at", v), ("what", .str w)]) → E (.ref CB) (some d) H') ∧
  (dueU ls hs a b = .made → ∀ H', SameX p H H' → UAt C H' p ls hs a b → Q .non H')
theorem ok_Unsure___init__ {f : Addr} {fd : FuncData} {C_Weighted C_Ratio C_BadNumber C_TooMany C_ZeroBottom C_BadLot C_Unsure : Addr} (F : Fun K "__init__" "Unsure.__init__" s_Unsure___init__ f fd) (T : Txt K mg C_Weighted C_Ratio C_BadNumber C_TooMany C_ZeroBottom C_BadLot C_Unsure) (m_enumerate : mg "enumerate" = none) (m_len : mg "len" = none) (m_tuple : mg "tuple" = none) (m_zip : mg "zip" = none) (c_check_many : Cal P w K mg base (L2.CX P w) 3 "check_many" ["many", "most"] (sp_check_many C_TooMany)) (c_check_length : Cal P w K mg base (L2.CX P w) 3 "check_length" ["what", "items", "many"] (sp_check_length C_BadNumber)) (c_BadNumber___init__ : CalX P w K mg base CX0 1 C_BadNumber ["self", "what", "at"] (sp_BadNumber___init__ C_BadNumber)) (c__check_bounds_of_aside : Cal P w K mg base (L2.CX P w) 3 "_check_bounds_of_aside" ["aside"] (sp__check_bounds_of_aside C_BadNumber)) : FnOk P w K mg base (L2.CX P w) 4 f fd ["self", "lows", "highs", "aside"] (sp_Unsure___init__ C_Unsure C_TooMany C_BadNumber) := by
  refine F.okX sc_Unsure___init__ (fun vs H Q E h => ?_) (fun cdv A outer s H vs Q E hr h => ?_)
  · obtain ⟨p, cx, L, M, A, ls, hs, a, b, rfl, _⟩ := h
    rfl
  · obtain ⟨p, cx, L, M, A, ls, hs, a, b, rfl, hp, hL, hM, hA, nl, nh, k1, k2, q⟩ := h
    obtain ⟨f_check_many, fd_check_many, G_check_many, m_check_many, k_check_many, b_check_many⟩ := c_check_many
    obtain ⟨f_check_length, fd_check_length, G_check_length, m_check_length, k_check_length, b_check_length⟩ := c_check_length
    obtain ⟨f_BadNumber___init__, fd_BadNumber___init__, G_BadNumber___init__, ic_BadNumber___init__, ti_BadNumber___init__, b_BadNumber___init__⟩ := c_BadNumber___init__
    obtain ⟨f__check_bounds_of_aside, fd__check_bounds_of_aside, G__check_bounds_of_aside, m__check_bounds_of_aside, k__check_bounds_of_aside, b__check_bounds_of_aside⟩ := c__check_bounds_of_aside
    refine ⟨_, (pss_cons (ps_expr (pe_call G_check_many (hr.mono (by decide)) (by rfl) m_check_many k_check_many b_check_many .nil (passes_call (takes_of rfl rfl rfl rfl) (fun _ _ _ _ h => h)) (pa_cons (pe_callB call_len_seq (by rfl) m_len (by decide +kernel) (pa_cons (pv 1) pa_nil)) (pa_cons (pe_glob (v := .int 24) (by rfl) T.g_MOST_THINGS.choose_spec ⟨_, rfl⟩) pa_nil))))
      (pss_cons (ps_expr (pe_call G_check_length (hr.mono (by decide)) (by rfl) m_check_length k_check_length b_check_length .nil (passes_call (takes_of rfl rfl rfl rfl) (fun _ _ _ _ h => h)) (pa_cons pe_str (pa_cons (pv 2) (pa_cons (pe_callB call_len_seq (by rfl) m_len (by decide +kernel) (pa_cons (pv 1) pa_nil)) pa_nil)))))
      (pss_cons (ps_for (passes_of rfl) rfl (EZ.pi_ezip (by rfl) m_enumerate (by rfl) m_zip (pa_cons (pv 1) (pa_cons (pv 2) pa_nil))) (pg_tup rfl (pgs_cons (pg_name (i := 4) sc_Unsure___init__.nd rfl (Or.inl rfl)) (pgs_cons (pg_tup rfl (pgs_cons (pg_name (i := 5) sc_Unsure___init__.nd rfl (Or.inl rfl)) (pgs_cons (pg_name (i := 6) sc_Unsure___init__.nd rfl (Or.inl rfl)) pgs_nil))) pgs_nil)))
      (pss_cons (ps_if (pt_cmpR op_lt (pv 5) pe_int (nomark _)) (pss_one (ps_raise rfl (takes_of rfl rfl rfl rfl) (pmk_oex T.ox_BadNumber ic_BadNumber___init__ ti_BadNumber___init__ G_BadNumber___init__ (hr.mono (by decide)) b_BadNumber___init__ .nil pass0 (by exact rfl) T.g_BadNumber (pa_cons pe_str (pa_cons (pv 4) pa_nil))))) pss_nil)
      (pss_one (ps_if (pt_cmpR op_lt (pv 6) (pv 5) (nomark _)) (pss_one (ps_raise rfl (takes_of rfl rfl rfl rfl) (pmk_oex T.ox_BadNumber ic_BadNumber___init__ ti_BadNumber___init__ G_BadNumber___init__ (hr.mono (by decide)) b_BadNumber___init__ .nil pass0 (by exact rfl) T.g_BadNumber (pa_cons pe_str (pa_cons (pv 4) pa_nil))))) pss_nil))))
      (pss_cons (ps_expr (pe_call G__check_bounds_of_aside (hr.mono (by decide)) (by rfl) m__check_bounds_of_aside k__check_bounds_of_aside b__check_bounds_of_aside .nil (passes_call (takes_of rfl rfl rfl rfl) (fun _ _ _ _ h => h)) (pa_cons (pv 3) pa_nil)))
      (pss_cons (ps_fld (pv 0) (pe_callB call_len_seq (by rfl) m_len (by decide +kernel) (pa_cons (pv 1) pa_nil)) rfl)
      (pss_cons (ps_fld (pv 0) (pe_callTy call_tuple_of (by rfl) m_tuple (by decide +kernel) (pa_cons (pv 1) pa_nil)) rfl)
      (pss_cons (ps_fld (pv 0) (pe_callTy call_tuple_of (by rfl) m_tuple (by decide +kernel) (pa_cons (pv 2) pa_nil)) rfl)
      (pss_one (ps_fld (pv 0) (pe_callTy call_tuple_of (by rfl) m_tuple (by decide +kernel) (pa_cons (pv 3) pa_nil)) rfl))))))))), ?_⟩
    refine ⟨_, rfl, L, _, rfl, .inl (lst_l hL), _, 24, rfl, fun c d nd => ?_, fun c => ?_⟩
    · rw [List.length_map] at c ⊢
      exact k1 _ (dueU_many (by omega)) _ d (SameX.new nd) upd_same
    rw [List.length_map] at c
    have c24 : ¬ ls.length > 24 := by omega
    refine ⟨_, rfl, _, rfl, L, _, rfl, .inl (lst_l hL), "highs", M, _, _, rfl, hM, fun e d nd => k2 _ _ (dueU_len c24 fun z => e (by rw [List.length_map, List.length_map, z])) _ d (SameX.new nd) upd_same, fun e => ?_⟩
    rw [List.length_map, List.length_map] at e
    have e : hs.length = ls.length := by omega
    refine ⟨_, rfl, _, rfl, L, M, _, _, rfl, lst_l hL, lst_l hM, EZ.for_ezip (K := K) (xs := ls.map V.int) (ys := hs.map V.int) (by rw [List.length_map, List.length_map, e]) (fun i σ H2 => ∃ (y4 y5 y6 : Option V), σ = [some (.ref p), some (.ref L), some (.ref M), some (.ref A), y4, y5, y6] ∧ Same H H2 ∧ badU ls hs 0 = badU (ls.drop i) (hs.drop i) i) ⟨none, none, none, rfl, Same.refl _, rfl⟩ (fun i σ H2 ⟨_, _, _, _, s, _⟩ => ⟨lst_l (s _ _ hL), lst_l (s _ _ hM)⟩) ?_ ?_⟩
    · rintro i x y T S σ H2 hx hy ⟨y4, y5, y6, rfl, s2, hb⟩ nT nS ne
      obtain ⟨l, rfl, hl⟩ := int_of hx
      obtain ⟨h, rfl, hh⟩ := int_of hy
      have lt1 := (List.getElem?_eq_some_iff.mp hl).1
      have lt2 := (List.getElem?_eq_some_iff.mp hh).1
      have d1 : ls.drop i = l :: ls.drop (i + 1) := by
        rw [List.drop_eq_getElem_cons lt1, (List.getElem?_eq_some_iff.mp hl).2]
      have d2 : hs.drop i = h :: hs.drop (i + 1) := by
        rw [List.drop_eq_getElem_cons lt2, (List.getElem?_eq_some_iff.mp hh).2]
      rw [d1, d2] at hb
      have s3 := same_upd (o := .tup [V.int l, V.int h]) nT
      have nS' : upd H2 T (.tup [V.int l, V.int h]) S = none := (upd_ne (Ne.symm ne)).trans nS
      have s4 := s3.trans (same_upd (o := .tup [V.int (i : Nat), V.ref T]) nS')
      have hT : upd (upd H2 T (.tup [V.int l, V.int h])) S (.tup [V.int (i : Nat), V.ref T]) T = some (.tup [V.int l, V.int h]) := (upd_ne ne).trans upd_same
      have hS : upd (upd H2 T (.tup [V.int l, V.int h])) S (.tup [V.int (i : Nat), V.ref T]) S = some (.tup [V.int (i : Nat), V.ref T]) := upd_same
      have s5 := s2.trans s4
      generalize upd (upd H2 T (.tup [V.int l, V.int h])) S (.tup [V.int (i : Nat), V.ref T]) = H3 at hT hS s5 ⊢
      refine ⟨S, _, rfl, tup_t hS, rfl, _, _, rfl, _, _, rfl, T, _, rfl, tup_t hT, rfl, _, _, rfl, _, _, rfl, rfl, rfl, ?_⟩
      refine ⟨_, rfl, _, _, rfl, rfl, _, rfl, ite2 (fun c1 => ?_) (fun c1 => ?_)⟩
      · have hk : badU ls hs 0 = some (("lows" : Str), i) := hb.trans (if_pos (of_decide_eq_true c1))
        exact ⟨_, rfl, (by show 2 ≤ 1000; decide), fun x nx => ⟨x, _, _, rfl, upd_same, fun dx nd ne => raise2 (fun d nd => k2 _ _ (dueU_bad c24 e hk) _ d ((same_sx s5).trans (SameX.new nd)) upd_same) nx nd ne⟩⟩
      have c1 : ¬ l < 1 := fun z => c1 (decide_eq_true z)
      refine ⟨_, rfl, _, rfl, _, _, rfl, rfl, _, rfl, ite2 (fun c2 => ?_) (fun c2 => ?_)⟩
      · have hk : badU ls hs 0 = some (("highs" : Str), i) := hb.trans ((if_neg c1).trans (if_pos (of_decide_eq_true c2)))
        exact ⟨_, rfl, (by show 2 ≤ 1000; decide), fun x nx => ⟨x, _, _, rfl, upd_same, fun dx nd ne => raise2 (fun d nd => k2 _ _ (dueU_bad c24 e hk) _ d ((same_sx s5).trans (SameX.new nd)) upd_same) nx nd ne⟩⟩
      have c2 : ¬ h < l := fun z => c2 (decide_eq_true z)
      exact ⟨_, _, _, rfl, s5, hb.trans ((if_neg c1).trans (if_neg c2))⟩
    · rintro σ H2 ⟨y4, y5, y6, rfl, s2, hb⟩
      rw [List.length_map, List.drop_length, show hs.drop ls.length = [] from List.drop_of_length_le (by omega)] at hb
      have hk : badU ls hs 0 = none := hb
      have hp2 := s2 _ _ hp
      have x2 : SameX p H H2 := same_sx s2
      refine ⟨_, rfl, A, a, b, rfl, s2 _ _ hA, fun c1 d nd => k2 _ _ (dueU_a c24 e hk c1) _ d (x2.trans (SameX.new nd)) upd_same, fun c1 c2 d nd => k2 _ _ (dueU_b c24 e hk c1 c2) _ d (x2.trans (SameX.new nd)) upd_same, fun c1 c2 => ?_⟩
      have mk := dueU_made c24 e hk c1 c2
      have lp : L ≠ p := fun z => by
        rw [z, hp] at hL
        cases hL
      have mp : M ≠ p := fun z => by
        rw [z, hp] at hM
        cases hM
      have ap : A ≠ p := fun z => by
        rw [z, hp] at hA
        cases hA
      have qk := q mk
      generalize hF1 : putF "many" (.int (ls.length : Int)) [] = F1
      refine ⟨_, rfl, L, _, rfl, .inl (lst_l (s2 _ _ hL)), _, rfl, p, C_Unsure, cx, _, rfl, hp2, T.cl_Unsure, T.n_Unsure_many, (by show 0 < 1000; decide), ?_⟩
      rw [List.length_map, hF1]
      have x3 : SameX p H (upd H2 p (.ins C_Unsure cx F1)) := x2.trans SameX.put
      have hp3 : upd H2 p (.ins C_Unsure cx F1) p = some (.ins C_Unsure cx F1) := upd_same
      generalize upd H2 p (.ins C_Unsure cx F1) = H3 at x3 hp3 ⊢
      have n1 : F1.length = 1 := by rw [← hF1]; rfl
      refine ⟨_, rfl, L, _, rfl, .inl ⟨lst_l (x3 _ _ lp hL), fun tl ntl => ?_⟩⟩
      have tlp : tl ≠ p := fun z => by
        rw [z, hp3] at ntl
        cases ntl
      generalize hF2 : putF "lows" (.ref tl) F1 = F2
      have n2 : F2.length = 2 := by rw [← hF2, ← hF1]; rfl
      refine ⟨_, rfl, p, C_Unsure, cx, _, rfl, (upd_ne (Ne.symm tlp)).trans hp3, T.cl_Unsure, T.n_Unsure_lows, (by rw [n1]; decide), ?_⟩
      rw [hF2]
      have x4 := (x3.trans (SameX.new (o := .tup (ls.map V.int)) ntl)).trans (SameX.put (o := .ins C_Unsure cx F2))
      have hl4 : upd (upd H3 tl (.tup (ls.map V.int))) p (.ins C_Unsure cx F2) tl = some (.tup (ls.map V.int)) := (upd_ne tlp).trans upd_same
      have hp4 : upd (upd H3 tl (.tup (ls.map V.int))) p (.ins C_Unsure cx F2) p = some (.ins C_Unsure cx F2) := upd_same
      generalize upd (upd H3 tl (.tup (ls.map V.int))) p (.ins C_Unsure cx F2) = H4 at x4 hl4 hp4 ⊢
      refine ⟨_, rfl, M, _, rfl, .inl ⟨lst_l (x4 _ _ mp hM), fun th nth => ?_⟩⟩
      have thp : th ≠ p := fun z => by
        rw [z, hp4] at nth
        cases nth
      have thl : tl ≠ th := fun z => by
        rw [← z, hl4] at nth
        cases nth
      generalize hF3 : putF "highs" (.ref th) F2 = F3
      have n3 : F3.length = 3 := by rw [← hF3, ← hF2, ← hF1]; rfl
      refine ⟨_, rfl, p, C_Unsure, cx, _, rfl, (upd_ne (Ne.symm thp)).trans hp4, T.cl_Unsure, T.n_Unsure_highs, (by rw [n2]; decide), ?_⟩
      rw [hF3]
      have x5 := (x4.trans (SameX.new (o := .tup (hs.map V.int)) nth)).trans (SameX.put (o := .ins C_Unsure cx F3))
      have hl5 : upd (upd H4 th (.tup (hs.map V.int))) p (.ins C_Unsure cx F3) tl = some (.tup (ls.map V.int)) := (upd_ne tlp).trans ((upd_ne thl).trans hl4)
      have hh5 : upd (upd H4 th (.tup (hs.map V.int))) p (.ins C_Unsure cx F3) th = some (.tup (hs.map V.int)) := (upd_ne thp).trans upd_same
      have hp5 : upd (upd H4 th (.tup (hs.map V.int))) p (.ins C_Unsure cx F3) p = some (.ins C_Unsure cx F3) := upd_same
      generalize upd (upd H4 th (.tup (hs.map V.int))) p (.ins C_Unsure cx F3) = H5 at x5 hl5 hh5 hp5 ⊢
      have hA5 := x5 _ _ ap hA
      refine ⟨_, rfl, A, _, rfl, .inr ⟨tup_t hA5, ?_⟩⟩
      refine ⟨_, rfl, p, C_Unsure, cx, _, rfl, hp5, T.cl_Unsure, T.n_Unsure_aside, (by rw [n3]; decide), ?_⟩
      refine qk _ (x5.trans SameX.put) ⟨cx, tl, th, A, upd_same.trans ?_, (upd_ne tlp).trans hl5, (upd_ne thp).trans hh5, (upd_ne ap).trans hA5⟩
      rw [← hF3, ← hF2, ← hF1]
      rfl
/-- Ratio(t, b): ZeroBottom, or the fraction in lowest terms -/
def sp_Ratio___init__ (C CZ : Addr) : Sp := fun vs H Q E => ∃ (x dx : Addr) (t b : Int), vs = [.ref x, .int t, .int b] ∧ H x = some (.ins C dx []) ∧ (b ≠ 0 → Sm b) ∧ (b = 0 → E (.ref CZ) none H) ∧
  (b ≠ 0 → ∀ H', RatAt C H' x (nT t b) (nB t b) → (∀ c o, H c = some o → c ≠ x → H' c = some o) → Q .non H')

theorem ok_Ratio___init__ {f : Addr} {fd : FuncData} {C_Weighted C_Ratio C_BadNumber C_TooMany C_ZeroBottom C_BadLot C_Unsure : Addr} (F : FunD K "__init__" "Ratio.__init__" (defArgs s_Ratio___init__) (defBody s_Ratio___init__) (defScope s_Ratio___init__) [V.int 1] [] f fd) (T : Txt K mg C_Weighted C_Ratio C_BadNumber C_TooMany C_ZeroBottom C_BadLot C_Unsure) : FnOk P w K mg base (L2.CX P w) 1 f fd ["self", "top", "bottom"] (sp_Ratio___init__ C_Ratio C_ZeroBottom) := by
  refine FunD.ok (CX := (L2.CX P w)) F sc_Ratio___init__ (fun vs H Q E h => ?_) (fun cdv A outer s H vs Q E hr h => ?_)
  · obtain ⟨x, dx, t, b, rfl, _⟩ := h
    rfl
  · obtain ⟨x, dx, t, b, rfl, hx, hsm, kE, kQ⟩ := h
    refine ⟨_, (pss_cons (ps_if (pt_cmpR op_eq (pv 2) pe_int (nomark _)) (pss_one (ps_raise rfl (takes_of rfl rfl rfl rfl) (pmk_own PySem.F.excBase_ValueError T.x_ZeroBottom T.g_ZeroBottom T.kc_ZeroBottom (raises_own T.b_ZeroBottom T.t_ZeroBottom) (by exact rfl)))) pss_nil)
      (pss_cons (ps_set (i := 3) sc_Ratio___init__.nd rfl (Or.inl rfl) (pe_callBfun cr_gcd (by rfl) T.g_gcd (pa_cons (pv 1) (pa_cons (pv 2) pa_nil))))
      (Evl.pss_cut (ps_if (pt_cmpR op_lt (pv 2) pe_int (nomark _)) (pss_one (ps_set (i := 3) sc_Ratio___init__.nd rfl (Or.inl rfl) (pe_un un_neg (pv 3)))) pss_nil)
      (pss_cons (ps_fld (pv 0) (pe_op op_fdivWN (pv 1) (pv 3)) rfl)
      (pss_one (ps_fld (pv 0) (pe_op op_fdivWN (pv 2) (pv 3)) rfl)))))), ?_⟩
    refine ⟨_, rfl, rfl, _, rfl, ite2 (fun e => ?_) (fun e => ?_)⟩
    · have e := V.int.inj (of_decide_eq_true e)
      exact kE e
    · have hb : b ≠ 0 := fun z => e (decide_eq_true (congrArg V.int z))
      refine ⟨_, rfl, _, rfl, t, b, rfl, ?_⟩
      refine ⟨fun σ' H' => H' = H ∧ σ' = [some (.ref x), some (.int t), some (.int b), some (.int (rd t b))], ?_, ?_⟩
      · refine ⟨_, rfl, _, _, rfl, rfl, _, rfl, ite2 (fun e2 => ?_) (fun e2 => ?_)⟩
        · have e2 := of_decide_eq_true e2
          refine ⟨_, rfl, _, rfl, rfl, ?_⟩
          rw [show rd t b = -(rg t b) from if_pos e2]
          rfl
        · have e2 : ¬ b < 0 := fun z => e2 (decide_eq_true z)
          refine ⟨rfl, ?_⟩
          rw [show rd t b = rg t b from if_neg e2]
          rfl
      · rintro σ' H' ⟨rfl, rfl⟩
        refine ⟨_, rfl, _, rfl, t, rd t b, rfl, rfl, rd_div hb (hsm hb) t, _, rfl, x, C_Ratio, dx, [], rfl, hx, T.cl_Ratio, T.n_Ratio_top, (by show 0 < 1000; decide), ?_⟩
        refine ⟨_, rfl, _, rfl, b, rd t b, rfl, rfl, rd_div hb (hsm hb) b, _, rfl, x, C_Ratio, dx, _, rfl, upd_same, T.cl_Ratio, T.n_Ratio_bottom, (by show 1 < 1000; decide), ?_⟩
        refine kQ hb _ ⟨dx, Eq.trans upd_same (congrArg (fun q => some (HO.ins C_Ratio dx q)) (rF_new _ _))⟩ fun c o e hc => ?_
        rw [upd_ne hc, upd_ne hc]
        exact e

/-- how a caller makes a Ratio that there is -/
theorem mk_rat {C CZ : Addr} {t b : Int} {H : Hp} {G : Addr → Hp → Prop} {E : XK} (hb : b ≠ 0) (hs : Sm b) (k : ∀ x H', Same H H' → H x = none → RatAt C H' x (nT t b) (nB t b) → G x H') :
    ∀ x dx, H x = none → H dx = none → dx ≠ x → sp_Ratio___init__ C CZ [.ref x, .int t, .int b] (upd (upd H dx (.own x)) x (.ins C dx [])) (fun v H2 => v = .non ∧ G x H2) E :=
  fun x dx nx nd _ => ⟨x, dx, t, b, rfl, upd_same, fun _ => hs, fun z => absurd z hb, fun _ H' r kp => ⟨rfl, k x H' (Same.made nx nd kp) nx r⟩⟩
def sp__as_ratio (C : Addr) : Sp := fun vs H Q _ => ∃ (y : V) (T B : Int), vs = [y] ∧ NumAt C H y T B ∧ ∀ H' q, Same H H' → RatAt C H' q T B → Q (.ref q) H'
theorem ok__as_ratio {f : Addr} {fd : FuncData} {C_Weighted C_Ratio C_BadNumber C_TooMany C_ZeroBottom C_BadLot C_Unsure : Addr} (F : Fun K "_as_ratio" "_as_ratio" s__as_ratio f fd) (T : Txt K mg C_Weighted C_Ratio C_BadNumber C_TooMany C_ZeroBottom C_BadLot C_Unsure) (m_isinstance : mg "isinstance" = none) (c_Ratio___init__ : CalI P w K mg base (L2.CX P w) 1 C_Ratio ["self", "top", "bottom"] (sp_Ratio___init__ C_Ratio C_ZeroBottom) [V.int 1]) : FnOk P w K mg base CX0 3 f fd ["number"] (sp__as_ratio C_Ratio) := by
  refine F.ok sc__as_ratio (fun vs H Q E h => ?_) (fun cdv A outer s H vs Q E hr h => ?_)
  · obtain ⟨y, T1, B, rfl, _⟩ := h
    rfl
  · obtain ⟨y, T1, B, rfl, hy, q⟩ := h
    obtain ⟨f_Ratio___init__, fd_Ratio___init__, G_Ratio___init__, M_Ratio___init__, b_Ratio___init__, ds_Ratio___init__, vd_Ratio___init__, bd_Ratio___init__⟩ := c_Ratio___init__
    refine ⟨_, (pss_cons (ps_if (pt_val (pe_callB call_isi (by rfl) m_isinstance (by decide +kernel) (pa_cons (pv 0) (pa_cons (pe_glob (v := .ref C_Ratio) (by rfl) T.g_Ratio rfl) pa_nil)))) (pss_one (ps_ret (pv 0))) pss_nil)
      (pss_one (ps_ret (pe_make M_Ratio___init__ G_Ratio___init__ (hr.mono (by decide)) (by rfl) T.g_Ratio bd_Ratio___init__ vd_Ratio___init__ passL (pa_cons (pv 0) pa_nil))))), ?_⟩
    rcases hy with ⟨p, rfl, dx, hp⟩ | ⟨rfl, rfl⟩
    · refine ⟨.ref p, rfl, .ref p, .ref C_Ratio, .ref C_Ratio, .ref C_Ratio, true, rfl, .own C_Ratio, .base (.ins hp T.cl_Ratio T.ha_Ratio T.hnc T.htk T.hm_Ratio), T.kit_Ratio_Ratio, true, rfl, iteT ?_⟩
      exact ⟨_, rfl, q H p (Same.refl H) ⟨dx, hp⟩⟩
    · refine ⟨_, rfl, .int T1, .ref C_Ratio, .type "int", .ref C_Ratio, false, rfl, .own C_Ratio, .base (.int T1), T.kit_int_Ratio, false, rfl, iteF ?_⟩
      refine ⟨_, rfl, mk_rat (t := T1) (b := 1) (by decide) (sm_of (n := 1) (by decide)) fun x H5 e5 nx r => ?_⟩
      obtain ⟨e1, e2⟩ := low_uniq (by decide) (low (t := T1) (b := 1) (by decide)) (low_int T1)
      rw [e1, e2] at r
      exact q H5 x e5 r
def sp__gap (C : Addr) : Sp := fun vs H Q _ => ∃ (p : Addr) (y : V) (T1 B1 T2 B2 : Int), vs = [.ref p, y] ∧ RatAt C H p T1 B1 ∧ NumAt C H y T2 B2 ∧ Sm T1 ∧ Sm B1 ∧ Sm T2 ∧ Sm B2 ∧ ∀ H', Same H H' → Q (.int (T1 * B2 - T2 * B1)) H'
theorem ok__gap {f : Addr} {fd : FuncData} {C_Weighted C_Ratio C_BadNumber C_TooMany C_ZeroBottom C_BadLot C_Unsure : Addr} (F : Fun K "_gap" "_gap" s__gap f fd) (T : Txt K mg C_Weighted C_Ratio C_BadNumber C_TooMany C_ZeroBottom C_BadLot C_Unsure) (c__as_ratio : Cal P w K mg base CX0 3 "_as_ratio" ["number"] (sp__as_ratio C_Ratio)) : FnOk P w K mg base CX0 4 f fd ["ratio", "other"] (sp__gap C_Ratio) := by
  refine F.ok sc__gap (fun vs H Q E h => ?_) (fun cdv A outer s H vs Q E hr h => ?_)
  · obtain ⟨p, y, T1, B1, T2, B2, rfl, _⟩ := h
    rfl
  · obtain ⟨p, y, T1, B1, T2, B2, rfl, hp, hy, s1, s2, s3, s4, q⟩ := h
    obtain ⟨f__as_ratio, fd__as_ratio, G__as_ratio, m__as_ratio, k__as_ratio, b__as_ratio⟩ := c__as_ratio
    refine ⟨_, (pss_cons (ps_set (i := 2) sc__gap.nd rfl (Or.inl rfl) (pe_call G__as_ratio (hr.mono (by decide)) (by rfl) m__as_ratio k__as_ratio b__as_ratio .nil pass0 (pa_cons (pv 1) pa_nil)))
      (pss_one (ps_ret (pe_op op_sub (pe_op op_mulW (pe_fld (pv 0) rfl) (pe_fld (pv 2) rfl)) (pe_op op_mulW (pe_fld (pv 2) rfl) (pe_fld (pv 0) rfl)))))), ?_⟩
    refine ⟨y, rfl, y, T2, B2, rfl, hy, fun H1 z e1 rz => ?_⟩
    obtain ⟨dx, hp1⟩ := hp.same e1
    obtain ⟨dz, hz⟩ := rz
    refine ⟨.ref p, rfl, p, C_Ratio, dx, _, _, rfl, hp1, T.cl_Ratio, T.n_Ratio_top, rF_top T1 B1, .ref z, rfl, z, C_Ratio, dz, _, _, rfl, hz, T.cl_Ratio, T.n_Ratio_bottom, rF_bot T2 B2, T1, B2, rfl, rfl, s1.mul s4, ?_⟩
    exact ⟨.ref z, rfl, z, C_Ratio, dz, _, _, rfl, hz, T.cl_Ratio, T.n_Ratio_top, rF_top T2 B2, .ref p, rfl, p, C_Ratio, dx, _, _, rfl, hp1, T.cl_Ratio, T.n_Ratio_bottom, rF_bot T1 B1, T2, B1, rfl, rfl, s3.mul s2, _, _, rfl, rfl, q H1 e1⟩
def sp_Ratio___lt__ (C : Addr) : Sp := fun vs H Q _ => ∃ (p : Addr) (y : V) (T1 B1 T2 B2 : Int), vs = [.ref p, y] ∧ RatAt C H p T1 B1 ∧ NumAt C H y T2 B2 ∧ Sm T1 ∧ Sm B1 ∧ Sm T2 ∧ Sm B2 ∧ ∀ H', Same H H' → Q (.bl (decide (T1 * B2 < T2 * B1))) H'
theorem ok_Ratio___lt__ {f : Addr} {fd : FuncData} {C_Weighted C_Ratio C_BadNumber C_TooMany C_ZeroBottom C_BadLot C_Unsure : Addr} (F : Fun K "__lt__" "Ratio.__lt__" s_Ratio___lt__ f fd) (T : Txt K mg C_Weighted C_Ratio C_BadNumber C_TooMany C_ZeroBottom C_BadLot C_Unsure) (c__gap : Cal P w K mg base CX0 4 "_gap" ["ratio", "other"] (sp__gap C_Ratio)) : FnOk P w K mg base CX0 5 f fd ["self", "other"] (sp_Ratio___lt__ C_Ratio) := by
  refine F.ok sc_Ratio___lt__ (fun vs H Q E h => ?_) (fun cdv A outer s H vs Q E hr h => ?_)
  · obtain ⟨p, y, T1, B1, T2, B2, rfl, _⟩ := h
    rfl
  · obtain ⟨p, y, T1, B1, T2, B2, rfl, hp, hy, s1, s2, s3, s4, q⟩ := h
    obtain ⟨f__gap, fd__gap, G__gap, m__gap, k__gap, b__gap⟩ := c__gap
    refine ⟨_, (pss_one (ps_ret (pe_cmpR op_lt (pe_call G__gap (hr.mono (by decide)) (by rfl) m__gap k__gap b__gap .nil pass0 (pa_cons (pv 0) (pa_cons (pv 1) pa_nil))) pe_int (nomark _)))), ?_⟩
    refine ⟨.ref p, rfl, y, rfl, p, y, T1, B1, T2, B2, rfl, hp, hy, s1, s2, s3, s4, fun H1 e1 => ⟨_, _, rfl, rfl, ?_⟩⟩
    have e : decide (T1 * B2 - T2 * B1 < 0) = decide (T1 * B2 < T2 * B1) := decide_eq_decide.mpr (by omega)
    have h := q H1 e1
    rw [← e] at h
    exact h
def sp_Ratio___le__ (C : Addr) : Sp := fun vs H Q _ => ∃ (p : Addr) (y : V) (T1 B1 T2 B2 : Int), vs = [.ref p, y] ∧ RatAt C H p T1 B1 ∧ NumAt C H y T2 B2 ∧ Sm T1 ∧ Sm B1 ∧ Sm T2 ∧ Sm B2 ∧ ∀ H', Same H H' → Q (.bl (decide (T1 * B2 ≤ T2 * B1))) H'
theorem ok_Ratio___le__ {f : Addr} {fd : FuncData} {C_Weighted C_Ratio C_BadNumber C_TooMany C_ZeroBottom C_BadLot C_Unsure : Addr} (F : Fun K "__le__" "Ratio.__le__" s_Ratio___le__ f fd) (T : Txt K mg C_Weighted C_Ratio C_BadNumber C_TooMany C_ZeroBottom C_BadLot C_Unsure) (c__gap : Cal P w K mg base CX0 4 "_gap" ["ratio", "other"] (sp__gap C_Ratio)) : FnOk P w K mg base CX0 5 f fd ["self", "other"] (sp_Ratio___le__ C_Ratio) := by
  refine F.ok sc_Ratio___le__ (fun vs H Q E h => ?_) (fun cdv A outer s H vs Q E hr h => ?_)
  · obtain ⟨p, y, T1, B1, T2, B2, rfl, _⟩ := h
    rfl
  · obtain ⟨p, y, T1, B1, T2, B2, rfl, hp, hy, s1, s2, s3, s4, q⟩ := h
    obtain ⟨f__gap, fd__gap, G__gap, m__gap, k__gap, b__gap⟩ := c__gap
    refine ⟨_, (pss_one (ps_ret (pe_cmpR op_le (pe_call G__gap (hr.mono (by decide)) (by rfl) m__gap k__gap b__gap .nil pass0 (pa_cons (pv 0) (pa_cons (pv 1) pa_nil))) pe_int (nomark _)))), ?_⟩
    refine ⟨.ref p, rfl, y, rfl, p, y, T1, B1, T2, B2, rfl, hp, hy, s1, s2, s3, s4, fun H1 e1 => ⟨_, _, rfl, rfl, ?_⟩⟩
    have e : decide (T1 * B2 - T2 * B1 ≤ 0) = decide (T1 * B2 ≤ T2 * B1) := decide_eq_decide.mpr (by omega)
    have h := q H1 e1
    rw [← e] at h
    exact h
def sp_Ratio___gt__ (C : Addr) : Sp := fun vs H Q _ => ∃ (p : Addr) (y : V) (T1 B1 T2 B2 : Int), vs = [.ref p, y] ∧ RatAt C H p T1 B1 ∧ NumAt C H y T2 B2 ∧ Sm T1 ∧ Sm B1 ∧ Sm T2 ∧ Sm B2 ∧ ∀ H', Same H H' → Q (.bl (decide (T1 * B2 > T2 * B1))) H'
theorem ok_Ratio___gt__ {f : Addr} {fd : FuncData} {C_Weighted C_Ratio C_BadNumber C_TooMany C_ZeroBottom C_BadLot C_Unsure : Addr} (F : Fun K "__gt__" "Ratio.__gt__" s_Ratio___gt__ f fd) (T : Txt K mg C_Weighted C_Ratio C_BadNumber C_TooMany C_ZeroBottom C_BadLot C_Unsure) (c__gap : Cal P w K mg base CX0 4 "_gap" ["ratio", "other"] (sp__gap C_Ratio)) : FnOk P w K mg base CX0 5 f fd ["self", "other"] (sp_Ratio___gt__ C_Ratio) := by
  refine F.ok sc_Ratio___gt__ (fun vs H Q E h => ?_) (fun cdv A outer s H vs Q E hr h => ?_)
  · obtain ⟨p, y, T1, B1, T2, B2, rfl, _⟩ := h
    rfl
  · obtain ⟨p, y, T1, B1, T2, B2, rfl, hp, hy, s1, s2, s3, s4, q⟩ := h
    obtain ⟨f__gap, fd__gap, G__gap, m__gap, k__gap, b__gap⟩ := c__gap
    refine ⟨_, (pss_one (ps_ret (pe_cmpR op_gt (pe_call G__gap (hr.mono (by decide)) (by rfl) m__gap k__gap b__gap .nil pass0 (pa_cons (pv 0) (pa_cons (pv 1) pa_nil))) pe_int (nomark _)))), ?_⟩
    refine ⟨.ref p, rfl, y, rfl, p, y, T1, B1, T2, B2, rfl, hp, hy, s1, s2, s3, s4, fun H1 e1 => ⟨_, _, rfl, rfl, ?_⟩⟩
    have e : decide (0 < T1 * B2 - T2 * B1) = decide (T1 * B2 > T2 * B1) := decide_eq_decide.mpr (by omega)
    have h := q H1 e1
    rw [← e] at h
    exact h
def sp_Ratio___ge__ (C : Addr) : Sp := fun vs H Q _ => ∃ (p : Addr) (y : V) (T1 B1 T2 B2 : Int), vs = [.ref p, y] ∧ RatAt C H p T1 B1 ∧ NumAt C H y T2 B2 ∧ Sm T1 ∧ Sm B1 ∧ Sm T2 ∧ Sm B2 ∧ ∀ H', Same H H' → Q (.bl (decide (T1 * B2 ≥ T2 * B1))) H'
theorem ok_Ratio___ge__ {f : Addr} {fd : FuncData} {C_Weighted C_Ratio C_BadNumber C_TooMany C_ZeroBottom C_BadLot C_Unsure : Addr} (F : Fun K "__ge__" "Ratio.__ge__" s_Ratio___ge__ f fd) (T : Txt K mg C_Weighted C_Ratio C_BadNumber C_TooMany C_ZeroBottom C_BadLot C_Unsure) (c__gap : Cal P w K mg base CX0 4 "_gap" ["ratio", "other"] (sp__gap C_Ratio)) : FnOk P w K mg base CX0 5 f fd ["self", "other"] (sp_Ratio___ge__ C_Ratio) := by
  refine F.ok sc_Ratio___ge__ (fun vs H Q E h => ?_) (fun cdv A outer s H vs Q E hr h => ?_)
  · obtain ⟨p, y, T1, B1, T2, B2, rfl, _⟩ := h
    rfl
  · obtain ⟨p, y, T1, B1, T2, B2, rfl, hp, hy, s1, s2, s3, s4, q⟩ := h
    obtain ⟨f__gap, fd__gap, G__gap, m__gap, k__gap, b__gap⟩ := c__gap
    refine ⟨_, (pss_one (ps_ret (pe_cmpR op_ge (pe_call G__gap (hr.mono (by decide)) (by rfl) m__gap k__gap b__gap .nil pass0 (pa_cons (pv 0) (pa_cons (pv 1) pa_nil))) pe_int (nomark _)))), ?_⟩
    refine ⟨.ref p, rfl, y, rfl, p, y, T1, B1, T2, B2, rfl, hp, hy, s1, s2, s3, s4, fun H1 e1 => ⟨_, _, rfl, rfl, ?_⟩⟩
    have e : decide (0 ≤ T1 * B2 - T2 * B1) = decide (T1 * B2 ≥ T2 * B1) := decide_eq_decide.mpr (by omega)
    have h := q H1 e1
    rw [← e] at h
    exact h
def sp_Ratio___add__ (C : Addr) : Sp := fun vs H Q _ => ∃ (p : Addr) (y : V) (T1 B1 T2 B2 : Int), vs = [.ref p, y] ∧ RatAt C H p T1 B1 ∧ NumAt C H y T2 B2 ∧ 0 < B1 ∧ 0 < B2 ∧ Sm T1 ∧ Sm B1 ∧ Sm T2 ∧ Sm B2 ∧ Sm (B1 * B2) ∧
  ∀ H' r T B, Same H H' → RatAt C H' r T B → LowT (T1 * B2 + T2 * B1) (B1 * B2) T B → Q (.ref r) H'
theorem ok_Ratio___add__ {f : Addr} {fd : FuncData} {C_Weighted C_Ratio C_BadNumber C_TooMany C_ZeroBottom C_BadLot C_Unsure : Addr} (F : Fun K "__add__" "Ratio.__add__" s_Ratio___add__ f fd) (T : Txt K mg C_Weighted C_Ratio C_BadNumber C_TooMany C_ZeroBottom C_BadLot C_Unsure) (c__as_ratio : Cal P w K mg base CX0 3 "_as_ratio" ["number"] (sp__as_ratio C_Ratio)) (c_Ratio___init__ : CalI P w K mg base (L2.CX P w) 1 C_Ratio ["self", "top", "bottom"] (sp_Ratio___init__ C_Ratio C_ZeroBottom) [V.int 1]) : FnOk P w K mg base CX0 4 f fd ["self", "other"] (sp_Ratio___add__ C_Ratio) := by
  refine F.ok sc_Ratio___add__ (fun vs H Q E h => ?_) (fun cdv A outer s H vs Q E hr h => ?_)
  · obtain ⟨p, y, T1, B1, T2, B2, rfl, _⟩ := h
    rfl
  · obtain ⟨p, y, T1, B1, T2, B2, rfl, hp, hy, p1, p2, s1, s2, s3, s4, s5, q⟩ := h
    obtain ⟨f__as_ratio, fd__as_ratio, G__as_ratio, m__as_ratio, k__as_ratio, b__as_ratio⟩ := c__as_ratio
    obtain ⟨f_Ratio___init__, fd_Ratio___init__, G_Ratio___init__, M_Ratio___init__, b_Ratio___init__, ds_Ratio___init__, vd_Ratio___init__, bd_Ratio___init__⟩ := c_Ratio___init__
    refine ⟨_, (pss_cons (ps_set (i := 2) sc_Ratio___add__.nd rfl (Or.inl rfl) (pe_call G__as_ratio (hr.mono (by decide)) (by rfl) m__as_ratio k__as_ratio b__as_ratio .nil pass0 (pa_cons (pv 1) pa_nil)))
      (pss_one (ps_ret (pe_make M_Ratio___init__ G_Ratio___init__ (hr.mono (by decide)) (by rfl) T.g_Ratio b_Ratio___init__ .nil passL (pa_cons (pe_op op_add (pe_op op_mulW (pe_fld (pv 0) rfl) (pe_fld (pv 2) rfl)) (pe_op op_mulW (pe_fld (pv 2) rfl) (pe_fld (pv 0) rfl))) (pa_cons (pe_op op_mulW (pe_fld (pv 0) rfl) (pe_fld (pv 2) rfl)) pa_nil)))))), ?_⟩
    refine ⟨y, rfl, y, T2, B2, rfl, hy, fun H1 z e1 rz => ?_⟩
    obtain ⟨dx, hp1⟩ := hp.same e1
    obtain ⟨dz, hz⟩ := rz
    have n0 : B1 * B2 ≠ 0 := Int.ne_of_gt (Int.mul_pos p1 p2)
    refine ⟨.ref p, rfl, p, C_Ratio, dx, _, _, rfl, hp1, T.cl_Ratio, T.n_Ratio_top, rF_top T1 B1, .ref z, rfl, z, C_Ratio, dz, _, _, rfl, hz, T.cl_Ratio, T.n_Ratio_bottom, rF_bot T2 B2, T1, B2, rfl, rfl, s1.mul s4, ?_⟩
    refine ⟨.ref z, rfl, z, C_Ratio, dz, _, _, rfl, hz, T.cl_Ratio, T.n_Ratio_top, rF_top T2 B2, .ref p, rfl, p, C_Ratio, dx, _, _, rfl, hp1, T.cl_Ratio, T.n_Ratio_bottom, rF_bot T1 B1, T2, B1, rfl, rfl, s3.mul s2, _, _, rfl, rfl, ?_⟩
    refine ⟨.ref p, rfl, p, C_Ratio, dx, _, _, rfl, hp1, T.cl_Ratio, T.n_Ratio_bottom, rF_bot T1 B1, .ref z, rfl, z, C_Ratio, dz, _, _, rfl, hz, T.cl_Ratio, T.n_Ratio_bottom, rF_bot T2 B2, B1, B2, rfl, rfl, s2.mul s4, ?_⟩
    exact mk_rat (t := T1 * B2 + T2 * B1) (b := B1 * B2) n0 s5 fun x H5 e5 nx r => q H5 x _ _ (e1.trans e5) r (low n0)

theorem sum_take1 {ns : List Int} {i : Nat} {n : Int} (h : ns[i]? = some n) : (ns.take (i + 1)).sum = (ns.take i).sum + n := by
  rw [List.take_add_one, h, List.sum_append]
  simp
/-- sum(rs, start=Ratio(0)): all items over one bottom d -/
theorem sum_rats {K : PySem.W.Frag} {C l x0 : Addr} {H : Hp} {rs : List Addr} {ns : List Int} {d : Int} {Q : VK} (d0 : 0 < d) (sd : Sm d) (sdd : Sm (d * d)) (sS : ∀ i, Sm ((ns.take i).sum)) (sN : ∀ n ∈ ns, Sm n) (hl : H l = some (.lst (rs.map V.ref))) (lr : rs.length = ns.length)
    (hr : ∀ (i : Nat) (r : Addr) (n : Int), rs[i]? = some r → ns[i]? = some n → ∃ T B, RatAt C H r T B ∧ LowT n d T B) (h0 : ∃ T B, RatAt C H x0 T B ∧ LowT 0 1 T B)
    (q : ∀ H' r T B, Same H H' → RatAt C H' r T B → LowT ns.sum d T B → Q (.ref r) H') : rSumO K C (sp_Ratio___add__ C) [.ref l] [.ref x0] H Q := by
  have dn : d ≠ 0 := by omega
  refine ⟨l, rs.map V.ref, .ref x0, fun i x H' => ∃ r T B, x = .ref r ∧ Same H H' ∧ RatAt C H' r T B ∧ LowT (ns.take i).sum d T B, rfl, rfl, ?_, ?_, ?_, ?_⟩
  · obtain ⟨T, B, r0, lo⟩ := h0
    exact ⟨x0, T, B, rfl, Same.refl H, r0, lo.to (by decide) dn (by rw [List.take_zero]; show 0 * d = 0 * 1; omega)⟩
  · rintro i x H' ⟨r, T, B, rfl, s, ra, lo⟩
    obtain ⟨dx, e⟩ := ra
    exact ⟨lst_l (s _ _ hl), r, dx, _, rfl, e⟩
  · rintro i x y H' ⟨r, T1, B1, rfl, s, ra, lo⟩ hy
    rw [List.getElem?_map] at hy
    obtain ⟨r2, e2, rfl⟩ : ∃ r2, rs[i]? = some r2 ∧ V.ref r2 = y := by
      cases e : rs[i]? with
      | none =>
        rw [e] at hy
        cases hy
      | some z =>
        rw [e] at hy
        exact ⟨z, rfl, Option.some.inj hy⟩
    have lt : i < ns.length := lr ▸ (List.getElem?_eq_some_iff.mp e2).1
    have en : ns[i]? = some ns[i] := List.getElem?_eq_getElem lt
    obtain ⟨T2, B2, rb, lo2⟩ := hr i r2 _ e2 en
    have rb2 := rb.same s
    obtain ⟨dy, ey⟩ := id rb2
    refine ⟨⟨r2, dy, _, rfl, ey⟩, ?_⟩
    have p1 := lo.pos
    have p2 := lo2.pos
    have n12 : B1 * B2 ≠ 0 := Int.ne_of_gt (Int.mul_pos p1 p2)
    refine ⟨r, .ref r2, T1, B1, T2, B2, rfl, ra, rb2.num, p1, p2, (sS i).le lo.leT, sd.le lo.leB, (sN _ (List.getElem_mem lt)).le lo2.leT, sd.le lo2.leB, sdd.le ?_, fun H2 r3 T B s2 r3a lo3 => ?_⟩
    · rw [Int.natAbs_mul, Int.natAbs_mul]
      exact Nat.mul_le_mul lo.leB lo2.leB
    · refine ⟨r3, T, B, rfl, s.trans s2, r3a, lo3.to n12 dn ?_⟩
      rw [sum_take1 en]
      have e1 := lo.eq
      have e2 := lo2.eq
      generalize (ns.take i).sum = S at e1 ⊢
      generalize ns[i] = n at e2 ⊢
      grind
  · rintro x H' ⟨r, T, B, rfl, s, ra, lo⟩
    rw [List.length_map, lr, List.take_length] at lo
    exact q H' r T B s ra lo
def sp_Ratio___mul__ (C : Addr) : Sp := fun vs H Q _ => ∃ (p : Addr) (y : V) (T1 B1 T2 B2 : Int), vs = [.ref p, y] ∧ RatAt C H p T1 B1 ∧ NumAt C H y T2 B2 ∧ 0 < B1 ∧ 0 < B2 ∧ Sm T1 ∧ Sm B1 ∧ Sm T2 ∧ Sm B2 ∧ Sm (B1 * B2) ∧
  ∀ H' r T B, Same H H' → RatAt C H' r T B → LowT (T1 * T2) (B1 * B2) T B → Q (.ref r) H'
theorem ok_Ratio___mul__ {f : Addr} {fd : FuncData} {C_Weighted C_Ratio C_BadNumber C_TooMany C_ZeroBottom C_BadLot C_Unsure : Addr} (F : Fun K "__mul__" "Ratio.__mul__" s_Ratio___mul__ f fd) (T : Txt K mg C_Weighted C_Ratio C_BadNumber C_TooMany C_ZeroBottom C_BadLot C_Unsure) (c__as_ratio : Cal P w K mg base CX0 3 "_as_ratio" ["number"] (sp__as_ratio C_Ratio)) (c_Ratio___init__ : CalI P w K mg base (L2.CX P w) 1 C_Ratio ["self", "top", "bottom"] (sp_Ratio___init__ C_Ratio C_ZeroBottom) [V.int 1]) : FnOk P w K mg base CX0 4 f fd ["self", "other"] (sp_Ratio___mul__ C_Ratio) := by
  refine F.ok sc_Ratio___mul__ (fun vs H Q E h => ?_) (fun cdv A outer s H vs Q E hr h => ?_)
  · obtain ⟨p, y, T1, B1, T2, B2, rfl, _⟩ := h
    rfl
  · obtain ⟨p, y, T1, B1, T2, B2, rfl, hp, hy, p1, p2, s1, s2, s3, s4, s5, q⟩ := h
    obtain ⟨f__as_ratio, fd__as_ratio, G__as_ratio, m__as_ratio, k__as_ratio, b__as_ratio⟩ := c__as_ratio
    obtain ⟨f_Ratio___init__, fd_Ratio___init__, G_Ratio___init__, M_Ratio___init__, b_Ratio___init__, ds_Ratio___init__, vd_Ratio___init__, bd_Ratio___init__⟩ := c_Ratio___init__
    refine ⟨_, (pss_cons (ps_set (i := 2) sc_Ratio___mul__.nd rfl (Or.inl rfl) (pe_call G__as_ratio (hr.mono (by decide)) (by rfl) m__as_ratio k__as_ratio b__as_ratio .nil pass0 (pa_cons (pv 1) pa_nil)))
      (pss_one (ps_ret (pe_make M_Ratio___init__ G_Ratio___init__ (hr.mono (by decide)) (by rfl) T.g_Ratio b_Ratio___init__ .nil passL (pa_cons (pe_op op_mulW (pe_fld (pv 0) rfl) (pe_fld (pv 2) rfl)) (pa_cons (pe_op op_mulW (pe_fld (pv 0) rfl) (pe_fld (pv 2) rfl)) pa_nil)))))), ?_⟩
    refine ⟨y, rfl, y, T2, B2, rfl, hy, fun H1 z e1 rz => ?_⟩
    obtain ⟨dx, hp1⟩ := hp.same e1
    obtain ⟨dz, hz⟩ := rz
    have n0 : B1 * B2 ≠ 0 := Int.ne_of_gt (Int.mul_pos p1 p2)
    refine ⟨.ref p, rfl, p, C_Ratio, dx, _, _, rfl, hp1, T.cl_Ratio, T.n_Ratio_top, rF_top T1 B1, .ref z, rfl, z, C_Ratio, dz, _, _, rfl, hz, T.cl_Ratio, T.n_Ratio_top, rF_top T2 B2, T1, T2, rfl, rfl, s1.mul s3, ?_⟩
    refine ⟨.ref p, rfl, p, C_Ratio, dx, _, _, rfl, hp1, T.cl_Ratio, T.n_Ratio_bottom, rF_bot T1 B1, .ref z, rfl, z, C_Ratio, dz, _, _, rfl, hz, T.cl_Ratio, T.n_Ratio_bottom, rF_bot T2 B2, B1, B2, rfl, rfl, s2.mul s4, ?_⟩
    exact mk_rat (t := T1 * T2) (b := B1 * B2) n0 s5 fun x H5 e5 nx r => q H5 x _ _ (e1.trans e5) r (low n0)
def sp_Rule___init__ (C CT : Addr) : Sp := fun vs H Q E => ∃ (p dx : Addr) (fs : List (Str × V)) (m : Int), vs = [.ref p, .int m] ∧ H p = some (.ins C dx fs) ∧ fs.length ≤ 900 ∧ (m > 24 → ∀ d, H d = none → E (.ref CT) (some d) (upd H d (.xd [("most", .int 24), ("many", .int m)]))) ∧ (¬ m > 24 → Q .non (upd H p (.ins C dx (putF "many" (.int m) fs))))
theorem ok_Rule___init__ {f : Addr} {fd : FuncData} {C_Weighted C_Ratio C_BadNumber C_TooMany C_ZeroBottom C_BadLot C_Unsure : Addr} (F : Fun K "__init__" "Rule.__init__" s_Rule___init__ f fd) (T : Txt K mg C_Weighted C_Ratio C_BadNumber C_TooMany C_ZeroBottom C_BadLot C_Unsure) (c_check_many : Cal P w K mg base (L2.CX P w) 3 "check_many" ["many", "most"] (sp_check_many C_TooMany)) : FnOk P w K mg base (L2.CX P w) 4 f fd ["self", "many"] (sp_Rule___init__ C_Weighted C_TooMany) := by
  refine F.okX sc_Rule___init__ (fun vs H Q E h => ?_) (fun cdv A outer s H vs Q E hr h => ?_)
  · obtain ⟨p, dx, fs, m, rfl, _⟩ := h
    rfl
  · obtain ⟨p, dx, fs, m, rfl, hp, hl, kE, q⟩ := h
    obtain ⟨f_check_many, fd_check_many, G_check_many, m_check_many, k_check_many, b_check_many⟩ := c_check_many
    refine ⟨_, (pss_cons (ps_expr (pe_call G_check_many (hr.mono (by decide)) (by rfl) m_check_many k_check_many b_check_many .nil (passes_call (takes_of rfl rfl rfl rfl) (fun _ _ _ _ h => h)) (pa_cons (pv 1) (pa_cons (pe_glob (v := .int 24) (by rfl) T.g_MOST_THINGS.choose_spec ⟨_, rfl⟩) pa_nil))))
      (pss_one (ps_fld (pv 0) (pv 1) rfl))), ?_⟩
    refine ⟨_, rfl, m, 24, rfl, kE, fun e => ?_⟩
    exact ⟨_, rfl, _, rfl, p, C_Weighted, dx, fs, rfl, hp, T.cl_Weighted, T.n_Weighted_many, by omega, q e⟩
/-- what a Weighted wishes of its ends: the errors, the made one -/
structure MadeW (C CT CB p dx : Addr) (ns : List Int) (aside : Int) (H : Hp) (Q : VK) (E : XK) : Prop where
  t : ns.length > 24 → ∀ H' d, SameX p H H' → H' d = some (.xd [("most", .int 24), ("many", .int ns.length)]) → E (.ref CT) (some d) H'
  b : ¬ ns.length > 24 → ∀ k : Nat, badAt ns 0 = some k → ∀ H' d, SameX p H H' → H' d = some (.xd [("at", .int k), ("what", .str "weights")]) → E (.ref CB) (some d) H'
  a : ¬ ns.length > 24 → badAt ns 0 = none → aside < 1 → ∀ H' d, SameX p H H' → H' d = some (.xd [("at", .non), ("what", .str "aside")]) → E (.ref CB) (some d) H'
  m : ¬ ns.length > 24 → badAt ns 0 = none → ¬ aside < 1 → ∀ H' t, SameX p H H' → H' p = some (.ins C dx (fW ns.length aside t)) → H' t = some (.tup (ns.map V.int)) → Q .non H'
def sp_Weighted___init__ (K : PySem.W.Frag) (C CT CB : Addr) : Sp := fun vs H Q E => ∃ (p dx l : Addr) (ns : List Int) (aside : Int), vs = [.ref p, .ref l, .int aside] ∧ H p = some (.ins C dx []) ∧ H l = some (.tup (ns.map V.int)) ∧ ns.length ≤ 1000 ∧ MadeW C CT CB p dx ns aside H Q E
theorem ok_Weighted___init__ {f cc cda g_Rule : Addr} {fd : FuncData} {file : Str} {C_Weighted C_Ratio C_BadNumber C_TooMany C_ZeroBottom C_BadLot C_Unsure : Addr} (F : FunS K "__init__" "Weighted.__init__" s_Weighted___init__ cc cda f fd) (SC : SupC K mg C_Weighted C_Weighted cc cda g_Rule file) (hfile : ((P.main.file : Str) == file) = true) (htop : (P.main.scope.names.lookup ("super" : Str)).isSome = false) (T : Txt K mg C_Weighted C_Ratio C_BadNumber C_TooMany C_ZeroBottom C_BadLot C_Unsure) (m_len : mg "len" = none) (m_tuple : mg "tuple" = none) (c_Rule___init__ : ∃ fd : FuncData, FnOk P w K mg base (L2.CX P w) 4 g_Rule fd ["self", "many"] (sp_Rule___init__ C_Weighted C_TooMany) ∧ Binds K fd ["self", "many"] []) (c_check_each : Cal P w K mg base (L2.CX P w) 3 "check_each" ["what", "numbers", "least"] (sp_check_each K C_BadNumber)) (c_check_aside : Cal P w K mg base (L2.CX P w) 4 "check_aside" ["aside"] (sp_check_aside C_BadNumber)) : FnOk P w K mg base (L2.CX P w) 5 f fd ["self", "weights", "aside"] (sp_Weighted___init__ K C_Weighted C_TooMany C_BadNumber) := by
  obtain ⟨fd_Rule___init__, G_Rule___init__, b_Rule___init__⟩ := c_Rule___init__
  obtain ⟨f_check_each, fd_check_each, G_check_each, m_check_each, k_check_each, b_check_each⟩ := c_check_each
  obtain ⟨f_check_aside, fd_check_aside, G_check_aside, m_check_aside, k_check_aside, b_check_aside⟩ := c_check_aside
  obtain ⟨⟨oc, od, kV, doc, pm, an, ct, osl, rfl, lk, hcd⟩, _⟩ := F
  refine fn_super (C := C_Weighted) lk hcd sc_Weighted___init__ SC hfile htop rfl rfl rfl rfl rfl (fun vs H Q E h => ?_) G_Rule___init__ b_Rule___init__ (by decide) (fun _ => rfl) (fun _ => rfl) (fun _ => rfl) (fun _ => rfl) (fun _ => rfl) (fun A outer s H vs Q E hr h => ?_)
  · obtain ⟨p, dx, l, ns, aside, rfl, _⟩ := h
    rfl
  · obtain ⟨p, dx, l, ns, aside, rfl, hp, hl, hlen, W⟩ := h
    refine ⟨_, _, p, dx, [], _, E, (pa_cons (pe_callB call_len_seq (by rfl) m_len (by decide +kernel) (pa_cons (pv 1) pa_nil)) pa_nil), (pss_cons (ps_expr (pe_call G_check_each (hr.mono (by decide)) (by rfl) m_check_each k_check_each b_check_each .nil (passes_call (takes_of rfl rfl rfl rfl) (fun _ _ _ _ h => h)) (pa_cons pe_str (pa_cons (pv 1) (pa_cons pe_int pa_nil)))))
      (pss_cons (ps_expr (pe_call G_check_aside (hr.mono (by decide)) (by rfl) m_check_aside k_check_aside b_check_aside .nil (passes_call (takes_of rfl rfl rfl rfl) (fun _ _ _ _ h => h)) (pa_cons (pv 2) pa_nil)))
      (pss_cons (ps_fld (pv 0) (pe_callTy call_tuple_of (by rfl) m_tuple (by decide +kernel) (pa_cons (pv 1) pa_nil)) rfl)
      (pss_one (ps_fld (pv 0) (pv 2) rfl))))), passes_call (takes_of rfl rfl rfl rfl) (fun _ _ _ _ h => h), rfl, hp, ?_⟩
    have pl : l ≠ p := fun z => by
      rw [z, hp] at hl
      cases hl
    refine ⟨_, rfl, l, _, rfl, .inr (tup_t hl), ?_⟩
    rw [List.length_map]
    refine ⟨p, dx, [], (ns.length : Int), rfl, hp, Nat.zero_le _, fun e d nd => W.t (by omega) _ _ (SameX.new nd) upd_same, fun e => ?_⟩
    have e0 : ¬ ns.length > 24 := fun z => e (by omega)
    have hl1 := (upd_ne (o := .ins C_Weighted dx (putF "many" (.int ns.length) [])) pl).trans hl
    refine ⟨_, rfl, l, _, ns, 1, rfl, .inr hl1, hlen, fun k hk H' d s' hd => W.b e0 k ((low_bad ns 0).symm.trans hk) _ _ (SameX.put.trans (same_sx s')) hd, fun hb H2 s2 => ?_⟩
    have hb := (low_bad ns 0).symm.trans hb
    have hp2 := s2 _ _ (upd_same (H := H) (a := p) (o := .ins C_Weighted dx (putF "many" (.int ns.length) [])))
    have hl2 := s2 _ _ hl1
    have sx := SameX.put.trans (same_sx s2)
    refine ⟨_, rfl, aside, rfl, fun c d nd => W.a e0 hb c _ _ (sx.trans (SameX.new nd)) upd_same, fun c => ?_⟩
    refine ⟨_, rfl, l, _, rfl, .inr ⟨tup_t hl2, ?_⟩⟩
    have hp3 := hp2
    refine ⟨_, rfl, p, C_Weighted, dx, _, rfl, hp3, T.cl_Weighted, T.n_Weighted_weights, (by show 1 < 1000; decide), ?_⟩
    refine ⟨_, rfl, _, rfl, p, C_Weighted, dx, _, rfl, upd_same, T.cl_Weighted, T.n_Weighted_aside, (by show 2 < 1000; decide), ?_⟩
    refine W.m e0 hb c _ l ((sx.trans SameX.put).trans SameX.put) upd_same ?_
    rw [upd_ne pl, upd_ne pl]
    exact hl2

theorem badAt_none : ∀ {ns : List Int} {i : Nat}, (∀ n ∈ ns, 1 ≤ n) → badAt ns i = none
  | [], _, _ => rfl
  | n :: r, i, h => by
    have := h n List.mem_cons_self
    exact (if_neg (by omega)).trans (badAt_none fun m hm => h m (List.mem_cons_of_mem _ hm))
/-- how a caller makes a rule by weights that there is -/
theorem mk_w {K : PySem.W.Frag} {C CT CB l : Addr} {ws : List Int} {b : Int} {H : Hp} {G : Addr → Hp → Prop} {E : XK} (hl : H l = some (.tup (ws.map V.int))) (wl : ws.length ≤ 24) (hw : ∀ w ∈ ws, 1 ≤ w) (b0 : 0 < b)
    (k : ∀ x dx t H', Same H H' → H x = none → WAt C H' x dx t ws b → G x H') :
    ∀ x dx, H x = none → H dx = none → dx ≠ x → sp_Weighted___init__ K C CT CB [.ref x, .ref l, .int b] (upd (upd H dx (.own x)) x (.ins C dx [])) (fun v H2 => v = .non ∧ G x H2) E :=
  fun x dx nx nd _ => ⟨x, dx, l, ws, b, rfl, upd_same, (upd_ne (ne_of_none hl nx)).trans ((upd_ne (ne_of_none hl nd)).trans hl), by omega,
    ⟨fun e => absurd e (by omega), fun _ j hj => (by
      rw [badAt_none hw] at hj
      cases hj), fun _ _ c => absurd c (by omega), fun _ _ _ H' t sx hx ht => ⟨rfl, k x dx t H' (sameX_made nx nd sx) nx ⟨hx, ht⟩⟩⟩⟩
def sp_Weighted_shares (K : PySem.W.Frag) (C CR CL : Addr) : Sp := fun vs H Q E => ∃ (p l dx t : Addr) (ws ns : List Int) (b : Int), vs = [.ref p, .ref l] ∧ H p = some (.ins C dx (fW ws.length b t)) ∧ H t = some (.tup (ws.map V.int)) ∧ H l = some (.tup (ns.map V.int)) ∧ ws.length ≤ 24 ∧ ns.length ≤ 1000 ∧
  (lotB ns (-1) ws.length = false → E (.ref CL) none H) ∧ (lotB ns (-1) ws.length = true → b + wSum ws ns ≠ 0 ∧ Sm (b + wSum ws ns) ∧ ∀ H' L (rs : List Addr), Same H H' → H L = none → H' L = some (.lst (rs.map V.ref)) → rs.length = ws.length →
    (∀ (i : Nat) (r : Addr), rs[i]? = some r → RatAt CR H' r (nT (wAt ws ns i) (b + wSum ws ns)) (nB (wAt ws ns i) (b + wSum ws ns))) → Q (.ref L) H')
theorem ok_Weighted_shares {f : Addr} {fd : FuncData} {C_Weighted C_Ratio C_BadNumber C_TooMany C_ZeroBottom C_BadLot C_Unsure : Addr} (F : Fun K "shares" "Weighted.shares" s_Weighted_shares f fd) (T : Txt K mg C_Weighted C_Ratio C_BadNumber C_TooMany C_ZeroBottom C_BadLot C_Unsure) (m_range : mg "range" = none) (m_sum : mg "sum" = none) (c_check_lot : Cal P w K mg base (L2.CX P w) 1 "check_lot" ["lot", "many"] (sp_check_lot K C_BadLot)) (c_Ratio___init__ : CalI P w K mg base (L2.CX P w) 1 C_Ratio ["self", "top", "bottom"] (sp_Ratio___init__ C_Ratio C_ZeroBottom) [V.int 1]) : FnOk P w K mg base (L2.CX P w) 3 f fd ["self", "lot"] (sp_Weighted_shares K C_Weighted C_Ratio C_BadLot) := by
  refine F.okX sc_Weighted_shares (fun vs H Q E h => ?_) (fun cdv A outer s H vs Q E hr h => ?_)
  · obtain ⟨p, l, dx, t, ws, ns, b, rfl, _⟩ := h
    rfl
  · obtain ⟨p, l, dx, t, ws, ns, b, rfl, hp, ht, hl, wl, nl, kE, q⟩ := h
    obtain ⟨f_check_lot, fd_check_lot, G_check_lot, m_check_lot, k_check_lot, b_check_lot⟩ := c_check_lot
    obtain ⟨f_Ratio___init__, fd_Ratio___init__, G_Ratio___init__, M_Ratio___init__, b_Ratio___init__, ds_Ratio___init__, vd_Ratio___init__, bd_Ratio___init__⟩ := c_Ratio___init__
    refine ⟨_, (pss_cons (ps_expr (pe_call G_check_lot (hr.mono (by decide)) (by rfl) m_check_lot k_check_lot b_check_lot .nil (passes_call (takes_of rfl rfl rfl rfl) (fun _ _ _ _ h => h)) (pa_cons (pv 1) (pa_cons (pe_fld (pv 0) rfl) pa_nil))))
      (pss_cons (ps_set (i := 2) sc_Weighted_shares.nd rfl (Or.inr rfl) (pe_op op_add (pe_fld (pv 0) rfl) (pe_callB (cr_sum rfl) (by rfl) m_sum (by decide +kernel) (pa_cons (pe_lc (own := [("thing", 3)]) (g := (gName 3)) (tt := tYes) rfl sc_Weighted_shares.nd (pi_tup (pv 1)) (blkOk_by (own := [("thing", 3)]) (N := ["self", "lot", "total", "thing"]) (sc := defScope s_Weighted_shares) (by decide +kernel)) (fun _ _ _ _ _ => (pg_name (i := 3) sc_Weighted_shares.nd rfl (Or.inl rfl))) (fun _ _ _ _ _ => pts_nil) (fun _ _ _ _ _ => (pe_ix (r := rIxT K) ix_tup (pe_fldK (K := K) (pv 0) rfl) (pv 3) (fun _ _ => rfl)))) pa_nil))))
      (pss_one (ps_ret (pe_lc (own := [("thing", 3)]) (g := (gName 3)) (tt := tYes) rfl sc_Weighted_shares.nd (pi_range1 (by rfl) m_range (pa_cons (pe_fld (pv 0) rfl) pa_nil)) (blkOk_by (own := [("thing", 3)]) (N := ["self", "lot", "total", "thing"]) (sc := defScope s_Weighted_shares) (by decide +kernel)) (fun _ _ _ _ _ => (pg_name (i := 3) sc_Weighted_shares.nd rfl (Or.inl rfl))) (fun _ _ _ _ _ => pts_nil) (fun _ _ _ _ _ => (pe_make M_Ratio___init__ G_Ratio___init__ (hr.mono (by decide)) (by rfl) T.g_Ratio b_Ratio___init__ .nil passL (pa_cons (pe_ifExp (pt_cmpR (r := rIn K false) op_in_seq (pv 3) (pv 1) (by rfl)) (pe_ix (r := rIxT K) ix_tup (pe_fldK (K := K) (pv 0) rfl) (pv 3) (fun _ _ => rfl)) pe_int) (pa_cons (pv 2) pa_nil))))))))), ?_⟩
    refine ⟨_, rfl, _, rfl, p, C_Weighted, dx, _, _, rfl, hp, T.cl_Weighted, T.n_Weighted_many, fW_many _ _ _, l, ns, _, rfl, tup_t hl, kE, fun ok => ?_⟩
    obtain ⟨n0, sm, q⟩ := q ok
    have inl := lotB_in ok
    refine ⟨_, rfl, p, C_Weighted, dx, _, _, rfl, hp, T.cl_Weighted, T.n_Weighted_aside, fW_aside _ _ _, _, rfl, l, rfl, ⟨_, tup_t hl⟩, fun D nD => lc_tup (K := K) (a := l) (xs := ns.map V.int) (fun i H2 => Same H H2 ∧ H2 D = some (.lst (((ns.take i).map fun n => ws.getD n.toNat 0).map V.int))) ⟨same_upd nD, upd_same⟩ (fun i H2 _ ⟨s, _⟩ => tup_t (s _ _ hl)) ?_ ?_⟩
    · rintro i x H2 hi ⟨s, hD⟩
      obtain ⟨n, rfl, hin⟩ := int_of hi
      have bn := inl n (List.mem_of_getElem? hin)
      refine ⟨rfl, ?_⟩
      refine lc_yes ?_
      refine iteT ?_
      refine ⟨_, rfl, p, C_Weighted, dx, _, _, rfl, (s _ _ hp), T.cl_Weighted, T.n_Weighted_weights, fW_weights _ _ _, _, rfl, t, _, _, _, rfl, rfl, tup_t (s _ _ ht), ws_at (by omega) bn.2, _, hD, ?_, same_mut s nD, ?_⟩
      · rw [List.length_map, List.length_map, List.length_take]
        exact small1000 (by omega)
      · rw [upd_same, List.take_add_one, hin, List.map_append, List.map_append]
        rfl
    rintro H2 ⟨s, hD⟩
    rw [List.length_map, List.take_length] at hD
    refine ⟨D, _, rfl, lst_l hD, _, _, rfl, rfl, ?_⟩
    have hp2 := s _ _ hp
    have ht2 := s _ _ ht
    have hl2 := s _ _ hl
    refine ⟨_, rfl, p, C_Weighted, dx, _, _, rfl, hp2, T.cl_Weighted, T.n_Weighted_many, fW_many _ _ _, _, rfl, by omega, by omega, ?_⟩
    rw [Int.toNat_natCast]
    refine fun L nL => lc_range (lo := 0) (n := ws.length) (fun i H3 => ∃ rs : List Addr, Same H2 H3 ∧ H3 L = some (.lst (rs.map V.ref)) ∧ rs.length = i ∧ ∀ (j : Nat) (r : Addr), rs[j]? = some r → RatAt C_Ratio H3 r (nT (wAt ws ns j) (b + wSum ws ns)) (nB (wAt ws ns j) (b + wSum ws ns))) ⟨[], same_upd nL, upd_same, rfl, fun j r h => by cases h⟩ ?_ ?_
    · rintro i H3 hi ⟨rs, s3, hL, lr, hr⟩
      have bi : wAt ws ns i = if inV (.int (0 + (i : Int))) (ns.map V.int) = true then ws.getD i 0 else 0 := by
        unfold wAt
        rw [Int.zero_add]
      refine ⟨rfl, ?_⟩
      refine lc_yes ?_
      refine iteT ?_
      have fin : ∀ (x : Addr) (H4 : Hp), Same H3 H4 → RatAt C_Ratio H4 x (nT (wAt ws ns i) (b + wSum ws ns)) (nB (wAt ws ns i) (b + wSum ws ns)) → ∃ acc, H4 L = some (.lst acc) ∧ acc.length < sizeLine ∧ ∃ rs' : List Addr, Same H2 (upd H4 L (.lst (acc ++ [V.ref x]))) ∧
          upd H4 L (.lst (acc ++ [V.ref x])) L = some (.lst (rs'.map V.ref)) ∧ rs'.length = i + 1 ∧ ∀ (j : Nat) (r : Addr), rs'[j]? = some r → RatAt C_Ratio (upd H4 L (.lst (acc ++ [V.ref x]))) r (nT (wAt ws ns j) (b + wSum ws ns)) (nB (wAt ws ns j) (b + wSum ws ns)) := by
        intro x H4 e4 rx
        have hL4 := e4 _ _ hL
        have stay : ∀ {r : Addr} {T' B' : Int}, RatAt C_Ratio H4 r T' B' → RatAt C_Ratio (upd H4 L (.lst (rs.map V.ref ++ [V.ref x]))) r T' B' := fun {r T' B'} ⟨dx', e⟩ => ⟨dx', (upd_ne fun z => by
          rw [z, hL4] at e
          cases e).trans e⟩
        refine ⟨_, hL4, ?_, rs ++ [x], same_mut (s3.trans e4) nL, ?_, ?_, fun j r h => ?_⟩
        · rw [List.length_map]
          exact small1000 (by omega)
        · rw [upd_same, List.map_append]
          rfl
        · rw [List.length_append, lr]
          rfl
        · by_cases hj : j < rs.length
          · rw [List.getElem?_append_left hj] at h
            exact stay ((hr j r h).same e4)
          · rw [List.getElem?_append_right (by omega)] at h
            obtain ⟨k, hk⟩ : ∃ k, j - rs.length = k := ⟨_, rfl⟩
            rw [hk] at h
            cases k with
            | zero =>
              have : j = i := by omega
              subst this
              cases h
              exact stay rx
            | succ k => cases h
      refine ⟨_, rfl, _, rfl, ⟨l, _, rfl, .inr (tup_t (s3 _ _ hl2)), rfl, ints_flat ns, _, rfl, ite2 (fun c => ?_) (fun c => ?_)⟩⟩
      · refine ⟨_, rfl, p, C_Weighted, dx, _, _, rfl, (s3 _ _ hp2), T.cl_Weighted, T.n_Weighted_weights, fW_weights _ _ _, _, rfl, t, _, _, _, rfl, rfl, tup_t (s3 _ _ ht2), ws_at (by omega) (by omega), _, rfl, mk_rat n0 sm fun x H4 e4 nx rx => ?_⟩
        have c : inV (.int (0 + (i : Int))) (ns.map V.int) = true := c
        have e : ws.getD (0 + (i : Int)).toNat 0 = wAt ws ns i := by
          rw [bi, if_pos c, Int.zero_add, Int.toNat_natCast]
        rw [e] at rx
        exact fin x H4 e4 rx
      · refine ⟨_, rfl, mk_rat (t := 0) n0 sm fun x H4 e4 nx rx => ?_⟩
        have c : ¬ inV (.int (0 + (i : Int))) (ns.map V.int) = true := c
        have e : (0 : Int) = wAt ws ns i := by
          rw [bi, if_neg c]
        refine fin x H4 e4 ?_
        rw [← e]
        exact rx
    · rintro H3 ⟨rs, s3, hL, lr, hr⟩
      exact q H3 L rs (s.trans s3) (s.free nL) hL lr hr
def sp_Rule_worth (C CR CL CB : Addr) : Sp := fun vs H Q E => ∃ (p l P dx t : Addr) (ws ns ps : List Int) (b : Int), vs = [.ref p, .ref l, .ref P] ∧ WAt C H p dx t ws b ∧ H l = some (.tup (ns.map V.int)) ∧ H P = some (.lst (ps.map V.int)) ∧ ns.length ≤ 1000 ∧ ps.length ≤ 1000 ∧ Fine ws b ps ∧
  (¬ ps.length = ws.length → ∀ H' d, Same H H' → H' d = some (.xd [("at", .non), ("what", .str "prices")]) → E (.ref CB) (some d) H') ∧
  (ps.length = ws.length → ∀ k : Nat, negAt ps 0 = some k → ∀ H' d, Same H H' → H' d = some (.xd [("at", .int k), ("what", .str "prices")]) → E (.ref CB) (some d) H') ∧
  (ps.length = ws.length → negAt ps 0 = none → lotB ns (-1) ws.length = false → ∀ H', Same H H' → E (.ref CL) none H') ∧
  (ps.length = ws.length → negAt ps 0 = none → lotB ns (-1) ws.length = true → ∀ H' r T B, Same H H' → RatAt CR H' r T B → LowT (vSum ws ps ns) (b + wSum ws ns) T B → Q (.ref r) H')
theorem ok_Rule_worth {f : Addr} {fd : FuncData} {C_Weighted C_Ratio C_BadNumber C_TooMany C_ZeroBottom C_BadLot C_Unsure : Addr} (F : Fun K "worth" "Rule.worth" s_Rule_worth f fd) (T : Txt K mg C_Weighted C_Ratio C_BadNumber C_TooMany C_ZeroBottom C_BadLot C_Unsure) (m_sum : mg "sum" = none) (c_check_prices : Cal P w K mg base (L2.CX P w) 4 "check_prices" ["prices", "many"] (sp_check_prices K C_BadNumber)) (c_Weighted_shares : CalM P w K mg base (L2.CX P w) 3 C_Weighted "shares" ["self", "lot"] (sp_Weighted_shares K C_Weighted C_Ratio C_BadLot)) (c_Ratio___init__ : CalI P w K mg base (L2.CX P w) 1 C_Ratio ["self", "top", "bottom"] (sp_Ratio___init__ C_Ratio C_ZeroBottom) [V.int 1]) (c_Ratio___mul__ : CalM P w K mg base CX0 4 C_Ratio "__mul__" ["self", "other"] (sp_Ratio___mul__ C_Ratio)) (c_Ratio___add__ : CalM P w K mg base CX0 4 C_Ratio "__add__" ["self", "other"] (sp_Ratio___add__ C_Ratio)) : FnOk P w K mg base (L2.CX P w) 6 f fd ["self", "lot", "prices"] (sp_Rule_worth C_Weighted C_Ratio C_BadLot C_BadNumber) := by
  refine F.okX sc_Rule_worth (fun vs H Q E h => ?_) (fun cdv A outer s H vs Q E hr h => ?_)
  · obtain ⟨p, l, P, dx, t, ws, ns, ps, b, rfl, _⟩ := h
    rfl
  · obtain ⟨p, l, P, dx, t, ws, ns, ps, b, rfl, w, hl, hP, nl, pl, fi, k1, k2, k3, q⟩ := h
    obtain ⟨f_check_prices, fd_check_prices, G_check_prices, m_check_prices, k_check_prices, b_check_prices⟩ := c_check_prices
    obtain ⟨f_Weighted_shares, fd_Weighted_shares, G_Weighted_shares, M_Weighted_shares, b_Weighted_shares⟩ := c_Weighted_shares
    obtain ⟨f_Ratio___init__, fd_Ratio___init__, G_Ratio___init__, M_Ratio___init__, b_Ratio___init__, ds_Ratio___init__, vd_Ratio___init__, bd_Ratio___init__⟩ := c_Ratio___init__
    obtain ⟨f_Ratio___mul__, fd_Ratio___mul__, G_Ratio___mul__, M_Ratio___mul__, b_Ratio___mul__⟩ := c_Ratio___mul__
    obtain ⟨f_Ratio___add__, fd_Ratio___add__, G_Ratio___add__, M_Ratio___add__, b_Ratio___add__⟩ := c_Ratio___add__
    refine ⟨_, (pss_cons (ps_expr (pe_call G_check_prices (hr.mono (by decide)) (by rfl) m_check_prices k_check_prices b_check_prices .nil (passes_call (takes_of rfl rfl rfl rfl) (fun _ _ _ _ h => h)) (pa_cons (pv 2) (pa_cons (pe_fld (pv 0) rfl) pa_nil))))
      (pss_cons (ps_set (i := 3) sc_Rule_worth.nd rfl (Or.inr rfl) (pe_meth (pv 0) T.cl_Weighted M_Weighted_shares G_Weighted_shares (hr.mono (by decide)) b_Weighted_shares .nil (passes_call (takes_of rfl rfl rfl rfl) (fun _ _ _ _ h => h)) (pa_cons (pv 1) pa_nil)))
      (pss_one (ps_ret (pe_callBK (cr_sumO T.sum_Ratio M_Ratio___add__ rfl (fun _ => pass0) G_Ratio___add__ (hr.mono (by decide)) b_Ratio___add__) (by rfl) m_sum (by decide +kernel) (pa_cons (pe_lc (own := [("thing", 4)]) (g := (gName 4)) (tt := tYes) rfl sc_Rule_worth.nd (pi_tup (pv 1)) (blkOk_by (own := [("thing", 4)]) (N := ["self", "lot", "prices", "shares", "thing"]) (sc := defScope s_Rule_worth) (by decide +kernel)) (fun _ _ _ _ _ => (pg_name (i := 4) sc_Rule_worth.nd rfl (Or.inl rfl))) (fun _ _ _ _ _ => pts_nil) (fun _ _ _ _ _ => (pe_op (op_own_Mult M_Ratio___mul__ T.sf_Ratio T.rf_Ratio_mul T.int_mul T.si_Ratio G_Ratio___mul__ (hr.mono (by decide)) b_Ratio___mul__ pass0) (pe_ix (r := rIxL K) ix_list (pv 3) (pv 4) (fun _ _ => rfl)) (pe_ix (r := rIxL K) ix_list (pv 2) (pv 4) (fun _ _ => rfl))))) pa_nil) (pk_cons (pe_make M_Ratio___init__ G_Ratio___init__ (hr.mono (by decide)) (by rfl) T.g_Ratio bd_Ratio___init__ vd_Ratio___init__ (passes_call (takes_of rfl rfl rfl rfl) (fun _ _ _ _ h => h)) (pa_cons pe_int pa_nil)) pk_nil)))))), ?_⟩
    refine ⟨_, rfl, _, rfl, p, C_Weighted, dx, _, _, rfl, w.1, T.cl_Weighted, T.n_Weighted_many, fW_many _ _ _, P, ps, _, rfl, hP, pl, fun e H' d s hd => k1 (fun z => e (by omega)) H' d s hd, fun e k hk H' d s hd => k2 (by omega) k hk H' d s hd, fun e hn H1 s1 => ?_⟩
    have e : ps.length = ws.length := by omega
    have w1 := w.same s1
    refine ⟨_, rfl, p, dx, _, rfl, w1.1, fW_shares _ _ _, _, rfl, p, l, dx, t, ws, ns, b, rfl, w1.1, w1.2, s1 _ _ hl, fi.wl, nl, fun bad => k3 e hn bad H1 s1, fun ok => ?_⟩
    have inl := lotB_in ok
    have hp0 := negAt_nn hn
    obtain ⟨S0, wle⟩ := wSum_nn fi.w1 ok
    have S1 := wSum_le ns fi.w2
    have S2 : (ns.length : Int) * 10 ^ 18 ≤ 1000 * 10 ^ 18 := Int.mul_le_mul_of_nonneg_right (by omega) (by decide)
    have fb1 := fi.b1
    have fb2 := fi.b2
    obtain ⟨d, hd⟩ : ∃ d, d = b + wSum ws ns := ⟨_, rfl⟩
    have d0 : 0 < d := by omega
    have smm : Sm (d * d) := sm_sq (by omega) (by omega)
    have sd : Sm d := smm.le (by
      rw [Int.natAbs_mul]
      exact Nat.le_mul_of_pos_right _ (by omega))
    have q := q e hn ok
    rw [← hd] at q ⊢
    refine ⟨by omega, sd, fun H2 L rs s2 nL hL lr hr => ?_⟩
    have s12 := s1.trans s2
    have hl2 := s12 _ _ hl
    have hP2 := s12 _ _ hP
    refine ⟨_, rfl, l, rfl, ⟨_, tup_t hl2⟩, fun D nD => lc_tup (K := K) (a := l) (xs := ns.map V.int) (fun i H3 => ∃ gs : List Addr, Same H2 H3 ∧ H3 D = some (.lst (gs.map V.ref)) ∧ gs.length = i ∧ ∀ (j : Nat) (r : Addr) (n : Int), gs[j]? = some r → ns[j]? = some n → ∃ T B, RatAt C_Ratio H3 r T B ∧ LowT (ws.getD n.toNat 0 * ps.getD n.toNat 0) d T B) ⟨[], same_upd nD, upd_same, rfl, fun j r n h => by cases h⟩ (fun i H3 _ ⟨_, s, _⟩ => tup_t (s _ _ hl2)) ?_ ?_⟩
    · rintro i x H3 hi ⟨gs, s3, hD, lg, hg⟩
      obtain ⟨n, rfl, hin⟩ := int_of hi
      have bn := inl n (List.mem_of_getElem? hin)
      obtain ⟨k, rfl⟩ : ∃ k : Nat, n = (k : Int) := ⟨n.toNat, by omega⟩
      have kl : k < ws.length := by omega
      have er : rs[k]? = some rs[k] := List.getElem?_eq_getElem (by omega)
      have vr : (rs.map V.ref)[k]? = some (.ref rs[k]) := by rw [List.getElem?_map, er]; rfl
      have ra := (hr k _ er).same s3
      have lo := low (t := wAt ws ns k) (b := d) (by omega)
      have wk : wAt ws ns k = ws.getD k 0 := if_pos (inV_int.mpr (List.mem_of_getElem? hin))
      refine ⟨rfl, ?_⟩
      refine lc_yes ?_
      refine iteT ?_
      refine ⟨_, rfl, _, rfl, L, _, _, _, rfl, rfl, lst_l (s3 _ _ hL), atI_nat vr, _, rfl, _, rfl, P, _, _, _, rfl, rfl, lst_l (s3 _ _ hP2), ws_at (by omega) (by omega), ra.self, .inr ⟨_, rfl⟩, ?_⟩
      have g0 := getD_n0 hp0 k
      have g1 := getD_le fi.p2 k
      have u0 : 0 ≤ ws.getD k 0 := getD_nn fi.w1 k
      have u1 := getD_le fi.w2 k
      have sk : Sm (wAt ws ns k) := sm_36 (by omega) (by omega)
      rw [Int.toNat_natCast]
      refine ⟨rs[k], .int (ps.getD k 0), _, _, ps.getD k 0, 1, rfl, ra, .inr ⟨rfl, rfl⟩, lo.pos, by decide, sk.le lo.leT, sd.le lo.leB, sm_36 g0 (by omega), sm_of (n := 1) (by decide), by rw [Int.mul_one]; exact sd.le lo.leB, fun H4 z T1 B1 s4 rz lz => ?_⟩
      have hD4 := s4 _ _ hD
      have stay : ∀ {r : Addr} {T' B' : Int}, RatAt C_Ratio H4 r T' B' → RatAt C_Ratio (upd H4 D (.lst (gs.map V.ref ++ [V.ref z]))) r T' B' := fun {r T' B'} ⟨dx', e⟩ => ⟨dx', (upd_ne fun z => by
        rw [z, hD4] at e
        cases e).trans e⟩
      refine ⟨_, hD4, ?_, gs ++ [z], same_mut (s3.trans s4) nD, ?_, ?_, fun j r n h hn' => ?_⟩
      · rw [List.length_map]
        have := (List.getElem?_eq_some_iff.mp hin).1
        exact small1000 (by omega)
      · rw [upd_same, List.map_append]
        rfl
      · rw [List.length_append, lg]
        rfl
      · by_cases hj : j < gs.length
        · rw [List.getElem?_append_left hj] at h
          obtain ⟨T', B', h1, h2⟩ := hg j r n h hn'
          exact ⟨T', B', stay (h1.same s4), h2⟩
        · rw [List.getElem?_append_right (by omega)] at h
          obtain ⟨y, hy⟩ : ∃ y, j - gs.length = y := ⟨_, rfl⟩
          rw [hy] at h
          cases y with
          | zero =>
            have : j = i := by omega
            subst this
            cases h
            rw [hin] at hn'
            cases hn'
            refine ⟨T1, B1, stay rz, lz.to (by have := lo.pos; omega) (by omega) ?_⟩
            rw [Int.toNat_natCast]
            exact cross1 (lo.eq.trans (congrArg (· * nB (wAt ws ns k) d) wk))
          | succ y => cases h
    rintro H3 ⟨gs, s3, hD, lg, hg⟩
    rw [List.length_map] at lg
    refine mk_rat (t := 0) (b := 1) (by decide) (sm_of (n := 1) (by decide)) fun x0 H4 s4 nx r0 => ?_
    have bd := items_bd (ns := ns) fi.w1 fi.w2 hp0 fi.p2
    have tot := sum_bd bd
    rw [List.length_map] at tot
    have tot2 : (ns.length : Int) * 10 ^ 36 ≤ 1000 * 10 ^ 36 := Int.mul_le_mul_of_nonneg_right (by omega) (by decide)
    refine sum_rats (ns := ns.map fun n => ws.getD n.toNat 0 * ps.getD n.toNat 0) (d := d) d0 sd smm (fun i => ?_) (fun n hn' => ?_) (s4 _ _ hD) (by rw [List.length_map]; exact lg) (fun i r n hi hn' => ?_) ⟨_, _, r0, low (by decide)⟩ fun H5 r T1 B1 s5 rr lo => ?_
    · have := take_le (fun x hx => (bd x hx).1) i
      exact sm_36 this.1 (by omega)
    · have := bd n hn'
      exact sm_36 this.1 (by omega)
    · rw [List.getElem?_map] at hn'
      cases en : ns[i]? with
      | none =>
        rw [en] at hn'
        cases hn'
      | some n0 =>
        rw [en] at hn'
        cases hn'
        obtain ⟨T', B', h1, h2⟩ := hg i r n0 hi en
        exact ⟨T', B', h1.same s4, h2⟩
    · exact q H5 r T1 B1 (((s12.trans s3).trans s4).trans s5) rr lo
def sp__worth (CR : Addr) : Sp := fun vs H Q _ => ∃ (l P W : Addr) (ns ps ws : List Int) (a : Int), vs = [.ref l, .ref P, .ref W, .int a] ∧ H l = some (.tup (ns.map V.int)) ∧ H P = some (.lst (ps.map V.int)) ∧ H W = some (.lst (ws.map V.int)) ∧ Fine ws a ps ∧ PB ps ws.length ∧ lotB ns (-1) ws.length = true ∧
  ∀ H' r T B, Same H H' → RatAt CR H' r T B → LowT (vSum ws ps ns) (a + wSum ws ns) T B → Q (.ref r) H'
theorem ok__worth {f : Addr} {fd : FuncData} {C_Weighted C_Ratio C_BadNumber C_TooMany C_ZeroBottom C_BadLot C_Unsure : Addr} (F : Fun K "_worth" "_worth" s__worth f fd) (T : Txt K mg C_Weighted C_Ratio C_BadNumber C_TooMany C_ZeroBottom C_BadLot C_Unsure) (m_sum : mg "sum" = none) (c_Ratio___init__ : CalI P w K mg base (L2.CX P w) 1 C_Ratio ["self", "top", "bottom"] (sp_Ratio___init__ C_Ratio C_ZeroBottom) [V.int 1]) : FnOk P w K mg base CX0 3 f fd ["lot", "prices", "weights", "aside"] (sp__worth C_Ratio) := by
  refine F.ok sc__worth (fun vs H Q E h => ?_) (fun cdv A outer s H vs Q E hr h => ?_)
  · obtain ⟨l, P, W, ns, ps, ws, a, rfl, _⟩ := h
    rfl
  · obtain ⟨l, P, W, ns, ps, ws, a, rfl, hl, hP, hW, fi, pb, ok, q⟩ := h
    obtain ⟨f_Ratio___init__, fd_Ratio___init__, G_Ratio___init__, M_Ratio___init__, b_Ratio___init__, ds_Ratio___init__, vd_Ratio___init__, bd_Ratio___init__⟩ := c_Ratio___init__
    refine ⟨_, (pss_cons (ps_set (i := 4) sc__worth.nd rfl (Or.inl rfl) (pe_callB (cr_sum rfl) (by rfl) m_sum (by decide +kernel) (pa_cons (pe_lc (own := [("thing", 5)]) (g := (gName 5)) (tt := tYes) rfl sc__worth.nd (pi_tup (pv 0)) (blkOk_by (own := [("thing", 5)]) (N := ["lot", "prices", "weights", "aside", "brought", "thing"]) (sc := defScope s__worth) (by decide +kernel)) (fun _ _ _ _ _ => (pg_name (i := 5) sc__worth.nd rfl (Or.inl rfl))) (fun _ _ _ _ _ => pts_nil) (fun _ _ _ _ _ => (pe_op op_mul (pe_ix (r := rIxL K) ix_list (pv 2) (pv 5) (fun _ _ => rfl)) (pe_ix (r := rIxL K) ix_list (pv 1) (pv 5) (fun _ _ => rfl))))) pa_nil)))
      (pss_one (ps_ret (pe_make M_Ratio___init__ G_Ratio___init__ (hr.mono (by decide)) (by rfl) T.g_Ratio b_Ratio___init__ .nil passL (pa_cons (pv 4) (pa_cons (pe_op op_add (pv 3) (pe_callB (cr_sum rfl) (by rfl) m_sum (by decide +kernel) (pa_cons (pe_lc (own := [("thing", 5)]) (g := (gName 5)) (tt := tYes) rfl sc__worth.nd (pi_tup (pv 0)) (blkOk_by (own := [("thing", 5)]) (N := ["lot", "prices", "weights", "aside", "brought", "thing"]) (sc := defScope s__worth) (by decide +kernel)) (fun _ _ _ _ _ => (pg_name (i := 5) sc__worth.nd rfl (Or.inl rfl))) (fun _ _ _ _ _ => pts_nil) (fun _ _ _ _ _ => (pe_ix (r := rIxL K) ix_list (pv 2) (pv 5) (fun _ _ => rfl)))) pa_nil))) pa_nil)))))), ?_⟩
    have inl := lotB_in ok
    have nl := lotB_len ok
    have wl := fi.wl
    have pl := pb.len
    refine ⟨_, rfl, l, rfl, ⟨_, tup_t hl⟩, fun D nD => lc_tup (K := K) (a := l) (xs := ns.map V.int) (fun i H2 => Same H H2 ∧ H2 D = some (.lst (((ns.take i).map fun n => ws.getD n.toNat 0 * ps.getD n.toNat 0).map V.int))) ⟨same_upd nD, upd_same⟩ (fun i H2 _ ⟨s, _⟩ => tup_t (s _ _ hl)) ?_ ?_⟩
    · rintro i x H2 hi ⟨s, hD⟩
      obtain ⟨n, rfl, hin⟩ := int_of hi
      have bn := inl n (List.mem_of_getElem? hin)
      refine ⟨rfl, ?_⟩
      refine lc_yes ?_
      refine iteT ?_
      refine ⟨_, rfl, _, rfl, W, _, _, _, rfl, rfl, lst_l (s _ _ hW), ws_at (by omega) bn.2, _, rfl, _, rfl, P, _, _, _, rfl, rfl, lst_l (s _ _ hP), ws_at (by omega) (by omega), _, _, rfl, rfl, ?_, _, hD, ?_, same_mut s nD, ?_⟩
      · have w0 := getD_nn fi.w1 n.toNat
        have w1 := getD_le fi.w2 n.toNat
        have p0 := getD_n0 pb.p0 n.toNat
        have p1 := getD_le fi.p2 n.toNat
        exact .inl ⟨by omega, by omega⟩
      · rw [List.length_map, List.length_map, List.length_take]
        exact small1000 (by omega)
      · rw [upd_same, List.take_add_one, hin, List.map_append, List.map_append]
        rfl
    rintro H2 ⟨s, hD⟩
    rw [List.length_map, List.take_length] at hD
    refine ⟨D, _, rfl, lst_l hD, ?_⟩
    refine ⟨_, rfl, _, rfl, _, rfl, l, rfl, ⟨_, tup_t (s _ _ hl)⟩, fun D2 nD2 => lc_tup (K := K) (a := l) (xs := ns.map V.int) (fun i H3 => Same H2 H3 ∧ H3 D2 = some (.lst (((ns.take i).map fun n => ws.getD n.toNat 0).map V.int))) ⟨same_upd nD2, upd_same⟩ (fun i H3 _ ⟨s3, _⟩ => tup_t (s3 _ _ (s _ _ hl))) ?_ ?_⟩
    · rintro i x H3 hi ⟨s3, hD2⟩
      obtain ⟨n, rfl, hin⟩ := int_of hi
      have bn := inl n (List.mem_of_getElem? hin)
      refine ⟨rfl, ?_⟩
      refine lc_yes ?_
      refine iteT ?_
      refine ⟨_, rfl, _, rfl, W, _, _, _, rfl, rfl, lst_l (s3 _ _ (s _ _ hW)), ws_at (by omega) bn.2, _, hD2, ?_, same_mut s3 nD2, ?_⟩
      · rw [List.length_map, List.length_map, List.length_take]
        exact small1000 (by omega)
      · rw [upd_same, List.take_add_one, hin, List.map_append, List.map_append]
        rfl
    rintro H3 ⟨s3, hD2⟩
    rw [List.length_map, List.take_length] at hD2
    refine ⟨D2, _, rfl, lst_l hD2, _, _, rfl, rfl, ?_⟩
    have bd := vw_bd fi pb.p0 (ns := ns) (by omega)
    have b1 := fi.b1
    have b2 := fi.b2
    exact mk_rat (t := vSum ws ps ns) (b := a + wSum ws ns) (by omega) (sm_36 (by omega) (by omega)) fun x H5 s5 nx r => q _ _ _ _ ((s.trans s3).trans s5) r (low (by omega))
def sp_dearest_order (K : PySem.W.Frag) : Sp := fun vs H Q _ => ∃ (a : Addr) (ns : List Int), vs = [.ref a] ∧ SqL K H a (ns.map V.int) ∧ ns.length ≤ 900 ∧
  ∀ (os : List Nat) (H' : Hp) (p : Addr), os.Perm (List.range ns.length) → os.Pairwise (Dear (pr ns)) → Same H H' → H p = none → H' p = some (.tup (nv os)) → Q (.ref p) H'

theorem ok_dearest_order {f : Addr} {fd : FuncData} {C_Weighted C_Ratio C_BadNumber C_TooMany C_ZeroBottom C_BadLot C_Unsure : Addr} (F : Fun K "dearest_order" "dearest_order" s_dearest_order f fd) (T : Txt K mg C_Weighted C_Ratio C_BadNumber C_TooMany C_ZeroBottom C_BadLot C_Unsure) (m_len : mg "len" = none) (m_range : mg "range" = none) (m_tuple : mg "tuple" = none) : FnOk P w K mg base CX0 1 f fd ["prices"] (sp_dearest_order K) := by
  refine F.ok sc_dearest_order (fun vs H Q E h => ?_) (fun cdv A outer s H vs Q E hr h => ?_)
  · obtain ⟨a, ns, rfl, _⟩ := h
    rfl
  · obtain ⟨a, ns, rfl, hS, hlen, q⟩ := h
    refine ⟨_, (pss_cons (ps_set (i := 1) sc_dearest_order.nd rfl (Or.inl rfl) (pe_lst pa_nil))
      (pss_cons (ps_for PassesOwn.never rfl (pi_range1 (by rfl) m_range (pa_cons (pe_callB call_len_seq (by rfl) m_len (by decide +kernel) (pa_cons (pv 0) pa_nil)) pa_nil)) (pg_name (i := 2) sc_dearest_order.nd rfl (Or.inl rfl))
      (pss_cons (ps_set (i := 3) sc_dearest_order.nd rfl (Or.inl rfl) (pe_callB call_len_seq (by rfl) m_len (by decide +kernel) (pa_cons (pv 1) pa_nil)))
      (pss_cons (ps_while PassesOwn.never (PW.pt (pw_and (pt_cmpR op_gt (pv 3) pe_int (nomark _)) (pw_and1 (pt_cmpR op_lt (pe_ix ix_list (pv 0) (pe_ix ix_list (pv 1) (pe_op op_sub (pv 3) pe_int) (fun _ _ => rfl)) (fun _ _ => rfl)) (pe_ix ix_list (pv 0) (pv 2) (fun _ _ => rfl)) (nomark _))))) (pss_one (ps_set (i := 3) sc_dearest_order.nd rfl (Or.inl rfl) (pe_op op_sub (pv 3) pe_int))))
      (pss_one (ps_expr (pe_bm PySem.F.plainAttrs_list PySem.F.slot_list_insert PySem.F.type_list_insert mt_insert (pv 1) (pa_cons (pv 3) (pa_cons (pv 2) pa_nil))))))))
      (pss_one (ps_ret (pe_callTy call_tuple_of (by rfl) m_tuple (by decide +kernel) (pa_cons (pv 1) pa_nil)))))), ?_⟩
    refine ⟨Nat.zero_le _, fun o no => ?_⟩
    have s1 : Same H (upd H o (.lst [])) := same_upd no
    refine ⟨.ref a, rfl, a, _, rfl, .inl (s1.seq hS), _, rfl, ?_⟩
    rw [List.length_map]
    refine ⟨by omega, by omega, ?_⟩
    rw [Int.toNat_natCast]
    refine for_range (lo := 0) (n := ns.length) (fun i σ H2 => ∃ (os : List Nat) (y1 y2 : Option V), σ = [some (.ref a), some (.ref o), y1, y2] ∧ os.Perm (List.range i) ∧ os.Pairwise (Dear (pr ns)) ∧ Same H H2 ∧ H2 o = some (.lst (nv os))) ⟨[], none, none, rfl, List.Perm.refl _, List.Pairwise.nil, s1, upd_same⟩ ?_ ?_
    · rintro i σ H2 hi ⟨os, y1, y2, rfl, hp, hw, s, hD⟩
      have hol : os.length = i := by
        rw [hp.length_eq, List.length_range]
      have hlt : ∀ x ∈ os, x < i := fun x hx => List.mem_range.mp (hp.mem_iff.mp hx)
      have hL : SqL K H2 o (nv os) := lst_l hD
      have hA : SqL K H2 a (ns.map V.int) := s.seq hS
      -- at = len(order)
      refine ⟨.ref o, rfl, o, _, rfl, .inl hL, ?_⟩
      rw [nv_len]
      -- while at > 0 and prices[order[at - 1]] < prices[thing]
      refine ⟨fun m σ H3 => H3 = H2 ∧ m ≤ os.length ∧ (∀ j x, m ≤ j → os[j]? = some x → pr ns x < pr ns i) ∧ σ = [some (.ref a), some (.ref o), some (.int (0 + (i : Int))), some (.int (m : Int))], ⟨os.length, rfl, Nat.le_refl _, fun j x hj hx => ?_, rfl⟩, ?_⟩
      · have := (List.getElem?_eq_some_iff.mp hx).1
        omega
      · rintro m σ H3 ⟨rfl, hm, hall, rfl⟩
        have fin : ∀ (hb : m = 0 ∨ ∃ y, os[m - 1]? = some y ∧ ¬ pr ns y < pr ns i), ∃ (os' : List Nat) (y1 y2 : Option V), [some (V.ref a), some (V.ref o), some (V.int (0 + (i : Int))), some (V.int (m : Int))] = [some (.ref a), some (.ref o), y1, y2] ∧ os'.Perm (List.range (i + 1)) ∧ os'.Pairwise (Dear (pr ns)) ∧ Same H (upd H3 o (.lst ((nv os).take (m : Int).toNat ++ [V.int (0 + (i : Int))] ++ (nv os).drop (m : Int).toNat))) ∧ (upd H3 o (.lst ((nv os).take (m : Int).toNat ++ [V.int (0 + (i : Int))] ++ (nv os).drop (m : Int).toNat))) o = some (.lst (nv os')) := fun hb =>
          ⟨os.take m ++ [i] ++ os.drop m, _, _, rfl, perm_insert hp, dear_insert hw hlt hall hb, same_mut s no, by rw [upd_same, Int.toNat_natCast, Int.zero_add, nv_ins]⟩
        refine ⟨_, rfl, _, _, rfl, rfl, _, rfl, ite2 (fun e => ?_) (fun e => ?_)⟩
        · have hm0 : 0 < m := by
            have := of_decide_eq_true e
            omega
          obtain ⟨x, hx⟩ : ∃ x, os[m - 1]? = some x := ⟨os[m - 1], List.getElem?_eq_getElem (by omega)⟩
          have hxi : x < i := hlt x (List.mem_of_getElem? hx)
          refine ⟨.ref a, rfl, .ref o, rfl, _, rfl, _, _, rfl, rfl, o, _, _, _, rfl, rfl, hL, at_of (j := m - 1) (by omega) (nv_at hx), a, _, _, _, rfl, rfl, hA, atI_nat (int_at (pr_at (by omega))),
            .ref a, rfl, .int (0 + (i : Int)), rfl, a, _, _, _, rfl, rfl, hA, at_of (Int.zero_add _) (int_at (pr_at hi)), _, _, rfl, rfl, _, rfl, ite2 (fun e2 => ?_) (fun e2 => ?_)⟩
          · have e2 := of_decide_eq_true e2
            refine ⟨fun σ' H' => H' = H3 ∧ σ' = [some (.ref a), some (.ref o), some (.int (0 + (i : Int))), some (.int (((m - 1 : Nat) : Nat) : Int))], fun σ' H' h => ⟨m - 1, by omega, h.1, by omega, fun j y hj hy => ?_, h.2⟩, ?_⟩
            · by_cases hjm : j = m - 1
              · subst hjm
                rw [hx] at hy
                cases hy
                exact e2
              · exact hall j y (by omega) hy
            · refine ⟨_, rfl, _, _, rfl, rfl, rfl, ?_⟩
              rw [show (((m - 1 : Nat) : Nat) : Int) = (m : Int) - 1 by omega]
              rfl
          · have e2 : ¬ pr ns x < pr ns i := fun z => e2 (decide_eq_true z)
            refine ⟨.ref o, rfl, .inl ⟨rfl, _, hL⟩, _, rfl, _, rfl, o, _, _, _, rfl, rfl, hD, ?_, by omega, by omega, fin (.inr ⟨x, hx, e2⟩)⟩
            rw [nv_len]
            exact small1000 (by omega)
        · have hm0 : m = 0 := by
            have : ¬ (0 : Int) < (m : Int) := fun z => e (decide_eq_true z)
            omega
          refine ⟨.ref o, rfl, .inl ⟨rfl, _, hL⟩, _, rfl, _, rfl, o, _, _, _, rfl, rfl, hD, ?_, by omega, by omega, fin (.inl hm0)⟩
          rw [nv_len]
          exact small1000 (by omega)
    · rintro σ H2 ⟨os, y1, y2, rfl, hp, hw, s, hD⟩
      exact ⟨.ref o, rfl, o, _, rfl, .inl ⟨lst_l hD, fun p np => q os _ p hp hw (same_mut s (s.free np)) (s.free np) upd_same⟩⟩
def sp_first_things (K : PySem.W.Frag) (CB : Addr) : Sp := fun vs H Q E => ∃ (t : Addr) (os : List Int) (k : Int), vs = [.ref t, .int k] ∧ H t = some (.tup (os.map V.int)) ∧ os.length ≤ 900 ∧
  ((k < 0 ∨ (os.length : Int) < k) → ∀ d, H d = none → E (.ref CB) (some d) (upd H d (.xd [("at", .non), ("what", .str "k")]))) ∧ (0 ≤ k → k ≤ (os.length : Int) → ∀ H' u, Same H H' → H' u = some (.tup ((firstK os k).map V.int)) → Q (.ref u) H')
theorem ok_first_things {f : Addr} {fd : FuncData} {C_Weighted C_Ratio C_BadNumber C_TooMany C_ZeroBottom C_BadLot C_Unsure : Addr} (F : Fun K "first_things" "first_things" s_first_things f fd) (T : Txt K mg C_Weighted C_Ratio C_BadNumber C_TooMany C_ZeroBottom C_BadLot C_Unsure) (m_int : mg "int" = none) (m_len : mg "len" = none) (m_sorted : mg "sorted" = none) (m_tuple : mg "tuple" = none) (c_check_up_to : Cal P w K mg base (L2.CX P w) 3 "check_up_to" ["what", "number", "most"] (sp_check_up_to C_BadNumber)) : FnOk P w K mg base (L2.CX P w) 4 f fd ["order", "k"] (sp_first_things K C_BadNumber) := by
  refine F.okX sc_first_things (fun vs H Q E h => ?_) (fun cdv A outer s H vs Q E hr h => ?_)
  · obtain ⟨t, os, k, rfl, _⟩ := h
    rfl
  · obtain ⟨t, os, k, rfl, ht, ol, kE, q⟩ := h
    obtain ⟨f_check_up_to, fd_check_up_to, G_check_up_to, m_check_up_to, k_check_up_to, b_check_up_to⟩ := c_check_up_to
    refine ⟨_, (pss_cons (ps_expr (pe_call G_check_up_to (hr.mono (by decide)) (by rfl) m_check_up_to k_check_up_to b_check_up_to .nil (passes_call (takes_of rfl rfl rfl rfl) (fun _ _ _ _ h => h)) (pa_cons pe_str (pa_cons (pv 1) (pa_cons (pe_callB call_len_seq (by rfl) m_len (by decide +kernel) (pa_cons (pv 0) pa_nil)) pa_nil)))))
      (pss_one (ps_ret (pe_callTy call_tuple_of (by rfl) m_tuple (by decide +kernel) (pa_cons (pe_callBK (cr_sortedInt hr.units) (by rfl) m_sorted (by decide +kernel) (pa_cons (pe_slice sl_tupA (pv 0) po_none (po_some (pv 1))) pa_nil) (pk_cons (pe_bltn (v := .ty "int") (by rfl) m_int (by decide +kernel) rfl) pk_nil)) pa_nil))))), ?_⟩
    refine ⟨_, rfl, _, rfl, t, _, rfl, .inr (tup_t ht), ?_⟩
    rw [List.length_map]
    refine ⟨_, k, _, rfl, kE, fun c c2 => ?_⟩
    obtain ⟨j, rfl⟩ : ∃ j : Nat, k = (j : Int) := ⟨k.toNat, by omega⟩
    refine ⟨_, rfl, _, rfl, (j : Int), rfl, ?_⟩
    refine sl_any ht fun H1 u s1 hu => ?_
    rw [cut_to, ← List.map_take] at hu
    refine ⟨u, os.take j, rfl, rfl, tup_t hu, by rw [List.length_take]; omega, fun p np => ?_⟩
    refine ⟨p, _, rfl, .inl ⟨lst_l upd_same, fun v nv => ?_⟩⟩
    exact q (by omega) (by omega) _ v ((s1.trans (same_upd np)).trans (same_upd nv)) upd_same
def sp_Rule_best_dearest (C CR CB : Addr) : Sp := fun vs H Q E => ∃ (p P dx t : Addr) (ws ps : List Int) (b : Int), vs = [.ref p, .ref P] ∧ WAt C H p dx t ws b ∧ H P = some (.lst (ps.map V.int)) ∧ ps.length ≤ 900 ∧ Fine ws b ps ∧ (¬ ps.length = ws.length → ∀ H' d, Same H H' → H' d = some (.xd [("at", .non), ("what", .str "prices")]) → E (.ref CB) (some d) H') ∧
  (ps.length = ws.length → ∀ k : Nat, negAt ps 0 = some k → ∀ H' d, Same H H' → H' d = some (.xd [("at", .int k), ("what", .str "prices")]) → E (.ref CB) (some d) H') ∧
  (ps.length = ws.length → negAt ps 0 = none → ∀ H' u r T B (k : Nat), Same H H' → H' u = some (.tup [.int (k : Int), .ref r]) → RatAt CR H' r T B → BestK ws ps b T B k → Q (.ref u) H')
theorem ok_Rule_best_dearest {f : Addr} {fd : FuncData} {C_Weighted C_Ratio C_BadNumber C_TooMany C_ZeroBottom C_BadLot C_Unsure : Addr} (F : Fun K "best_dearest" "Rule.best_dearest" s_Rule_best_dearest f fd) (T : Txt K mg C_Weighted C_Ratio C_BadNumber C_TooMany C_ZeroBottom C_BadLot C_Unsure) (m_range : mg "range" = none) (c_check_prices : Cal P w K mg base (L2.CX P w) 4 "check_prices" ["prices", "many"] (sp_check_prices K C_BadNumber)) (c_dearest_order : Cal P w K mg base CX0 1 "dearest_order" ["prices"] (sp_dearest_order K)) (c_Ratio___init__ : CalI P w K mg base (L2.CX P w) 1 C_Ratio ["self", "top", "bottom"] (sp_Ratio___init__ C_Ratio C_ZeroBottom) [V.int 1]) (c_first_things : Cal P w K mg base (L2.CX P w) 4 "first_things" ["order", "k"] (sp_first_things K C_BadNumber)) (c_Rule_worth : CalM P w K mg base (L2.CX P w) 6 C_Weighted "worth" ["self", "lot", "prices"] (sp_Rule_worth C_Weighted C_Ratio C_BadLot C_BadNumber)) (c_Ratio___gt__ : CalM P w K mg base CX0 5 C_Ratio "__gt__" ["self", "other"] (sp_Ratio___gt__ C_Ratio)) (c_Ratio___lt__ : CalM P w K mg base CX0 5 C_Ratio "__lt__" ["self", "other"] (sp_Ratio___lt__ C_Ratio)) : FnOk P w K mg base (L2.CX P w) 7 f fd ["self", "prices"] (sp_Rule_best_dearest C_Weighted C_Ratio C_BadNumber) := by
  refine F.okX sc_Rule_best_dearest (fun vs H Q E h => ?_) (fun cdv A outer s H vs Q E hr h => ?_)
  · obtain ⟨p, P, dx, t, ws, ps, b, rfl, _⟩ := h
    rfl
  · obtain ⟨p, P, dx, t, ws, ps, b, rfl, w, hP, pl, fi, k1, k2, q⟩ := h
    obtain ⟨f_check_prices, fd_check_prices, G_check_prices, m_check_prices, k_check_prices, b_check_prices⟩ := c_check_prices
    obtain ⟨f_dearest_order, fd_dearest_order, G_dearest_order, m_dearest_order, k_dearest_order, b_dearest_order⟩ := c_dearest_order
    obtain ⟨f_Ratio___init__, fd_Ratio___init__, G_Ratio___init__, M_Ratio___init__, b_Ratio___init__, ds_Ratio___init__, vd_Ratio___init__, bd_Ratio___init__⟩ := c_Ratio___init__
    obtain ⟨f_first_things, fd_first_things, G_first_things, m_first_things, k_first_things, b_first_things⟩ := c_first_things
    obtain ⟨f_Rule_worth, fd_Rule_worth, G_Rule_worth, M_Rule_worth, b_Rule_worth⟩ := c_Rule_worth
    obtain ⟨f_Ratio___gt__, fd_Ratio___gt__, G_Ratio___gt__, M_Ratio___gt__, b_Ratio___gt__⟩ := c_Ratio___gt__
    obtain ⟨f_Ratio___lt__, fd_Ratio___lt__, G_Ratio___lt__, M_Ratio___lt__, b_Ratio___lt__⟩ := c_Ratio___lt__
    refine ⟨_, (pss_cons (ps_expr (pe_call G_check_prices (hr.mono (by decide)) (by rfl) m_check_prices k_check_prices b_check_prices .nil (passes_call (takes_of rfl rfl rfl rfl) (fun _ _ _ _ h => h)) (pa_cons (pv 1) (pa_cons (pe_fld (pv 0) rfl) pa_nil))))
      (pss_cons (ps_set (i := 2) sc_Rule_best_dearest.nd rfl (Or.inl rfl) (pe_call G_dearest_order (hr.mono (by decide)) (by rfl) m_dearest_order k_dearest_order b_dearest_order .nil pass0 (pa_cons (pv 1) pa_nil)))
      (pss_cons (ps_set (i := 3) sc_Rule_best_dearest.nd rfl (Or.inl rfl) pe_int)
      (pss_cons (ps_set (i := 4) sc_Rule_best_dearest.nd rfl (Or.inl rfl) (pe_make M_Ratio___init__ G_Ratio___init__ (hr.mono (by decide)) (by rfl) T.g_Ratio bd_Ratio___init__ vd_Ratio___init__ (passes_call (takes_of rfl rfl rfl rfl) (fun _ _ _ _ h => h)) (pa_cons pe_int pa_nil)))
      (pss_cons (ps_for (passes_of rfl) rfl (pi_range2 (by rfl) m_range (pa_cons pe_int (pa_cons (pe_op op_add (pe_fld (pv 0) rfl) pe_int) pa_nil))) (pg_name (i := 5) sc_Rule_best_dearest.nd rfl (Or.inl rfl))
      (pss_cons (ps_set (i := 6) sc_Rule_best_dearest.nd rfl (Or.inl rfl) (pe_meth (pv 0) T.cl_Weighted M_Rule_worth G_Rule_worth (hr.mono (by decide)) b_Rule_worth .nil (passes_call (takes_of rfl rfl rfl rfl) (fun _ _ _ _ h => h)) (pa_cons (pe_call G_first_things (hr.mono (by decide)) (by rfl) m_first_things k_first_things b_first_things .nil (passes_call (takes_of rfl rfl rfl rfl) (fun _ _ _ _ h => h)) (pa_cons (pv 2) (pa_cons (pv 5) pa_nil))) (pa_cons (pv 1) pa_nil))))
      (pss_one (ps_if (pt_cmpR (op_cmp_Gt M_Ratio___gt__ M_Ratio___lt__ T.si_Ratio T.sr_Ratio G_Ratio___gt__ G_Ratio___lt__ (hr.mono (by decide)) (hr.mono (by decide)) b_Ratio___gt__ b_Ratio___lt__ pass0) (pv 6) (pv 4) (nomark _)) (pss_cons (ps_set (i := 3) sc_Rule_best_dearest.nd rfl (Or.inl rfl) (pv 5))
      (pss_one (ps_set (i := 4) sc_Rule_best_dearest.nd rfl (Or.inl rfl) (pv 6)))) pss_nil))))
      (pss_one (ps_ret (pe_tup (pa_cons (pv 3) (pa_cons (pv 4) pa_nil)))))))))), ?_⟩
    refine ⟨_, rfl, _, rfl, p, C_Weighted, dx, _, _, rfl, w.1, T.cl_Weighted, T.n_Weighted_many, fW_many _ _ _, P, ps, _, rfl, hP, by omega, fun e H' d s hd => k1 (fun z => e (by omega)) H' d s hd, fun e k hk H' d s hd => k2 (by omega) k hk H' d s hd, fun e hn H1 s1 => ?_⟩
    have e : ps.length = ws.length := by omega
    have q := q e hn
    have hp0 := negAt_nn hn
    have wl := fi.wl
    refine ⟨_, rfl, P, ps, rfl, lst_l (s1 _ _ hP), by omega, fun os H2 o pm pw s2 no ho => ?_⟩
    have ol : os.length = ws.length := by rw [pm.length_eq, List.length_range, e]
    rw [e] at pm
    have s12 := s1.trans s2
    refine mk_rat (t := 0) (b := 1) (by decide) (sm_of (n := 1) (by decide)) fun x0 H3 s3 nx r0 => ?_
    obtain ⟨T0, B0, r0, lo0⟩ : ∃ T0 B0, RatAt C_Ratio H3 x0 T0 B0 ∧ LowT 0 1 T0 B0 := ⟨_, _, r0, low (by decide)⟩
    obtain ⟨rfl, rfl⟩ := low_01 lo0
    have s13 := s12.trans s3
    have w3 := w.same s13
    have ho3 := s3 _ _ ho
    refine ⟨_, rfl, p, C_Weighted, dx, _, _, rfl, w3.1, T.cl_Weighted, T.n_Weighted_many, fW_many _ _ _, _, _, rfl, rfl, 1, (ws.length : Int) + 1, rfl, ⟨by decide, by decide, by omega, by omega⟩, ?_⟩
    rw [show ((ws.length : Int) + 1 - 1).toNat = ws.length by omega]
    refine for_range (lo := 1) (n := ws.length) (fun i σ H4 => ∃ (k : Nat) (r : Addr) (T B : Int) (y1 y2 : Option V), σ = [some (.ref p), some (.ref P), some (.ref o), some (.int (k : Int)), some (.ref r), y1, y2] ∧ Same H3 H4 ∧ RatAt C_Ratio H4 r T B ∧ 0 < B ∧ 0 ≤ T ∧ T ≤ 24 * 10 ^ 36 ∧ B ≤ 25 * 10 ^ 18 ∧ k ≤ i ∧
      (∀ j ≤ i, vSum ws ps ((os.take j).map fun (t : Nat) => (t : Int)) * B ≤ T * (b + wSum ws ((os.take j).map fun (t : Nat) => (t : Int)))) ∧ vSum ws ps ((os.take k).map fun (t : Nat) => (t : Int)) * B = T * (b + wSum ws ((os.take k).map fun (t : Nat) => (t : Int))) ∧ ∀ j < k, vSum ws ps ((os.take j).map fun (t : Nat) => (t : Int)) * B < T * (b + wSum ws ((os.take j).map fun (t : Nat) => (t : Int)))) ?_ ?_ ?_
    · refine ⟨0, x0, 0, 1, none, none, rfl, Same.refl _, r0, by decide, by decide, by decide, by decide, Nat.le_refl _, fun j hj => ?_, ?_, fun j hj => absurd hj (by omega)⟩
      · obtain rfl : j = 0 := by omega
        show vSum ws ps [] * 1 ≤ 0 * _
        rw [Int.zero_mul]
        exact Int.le_refl _
      · show vSum ws ps [] * 1 = 0 * _
        rw [Int.zero_mul]
        rfl
    · rintro i σ H4 hi ⟨k, r, T, B, y1, y2, rfl, s4, ra, B0, T0, Tb, Bb, ki, all, at_, low_⟩
      have s14 := s13.trans s4
      have w4 := w.same s14
      have n24 : ((os.take (i + 1)).map fun (t : Nat) => (t : Int)).length ≤ 24 := by
        rw [List.length_map, List.length_take]
        omega
      obtain ⟨v0, v1, u0, u1⟩ := vw_bd fi hp0 n24
      obtain ⟨f1, f2⟩ := first_take (ws := ws) (ps := ps) os (i + 1)
      have fb1 := fi.b1
      have fb2 := fi.b2
      refine ⟨_, rfl, p, dx, _, rfl, w4.1, fW_worth _ _ _, _, rfl, _, rfl, o, os.map fun (t : Nat) => (t : Int), 1 + (i : Int), rfl, s4 _ _ ho3, by rw [List.length_map]; omega, fun c => absurd c (by rw [List.length_map]; omega), fun _ _ H5 u s5 hu => ?_⟩
      rw [show 1 + (i : Int) = ((i + 1 : Nat) : Int) by omega] at hu
      have s15 := s14.trans s5
      have ok := first_lot pm ((i + 1 : Nat) : Int)
      refine ⟨_, rfl, p, u, P, dx, t, ws, firstK (os.map fun (t : Nat) => (t : Int)) ((i + 1 : Nat) : Int), ps, b, rfl, w.same s15, hu, s15 _ _ hP, ?_, by omega, fi, fun z => absurd e z, fun _ k' hk' => absurd (hn.symm.trans hk') (by simp), fun _ _ z => absurd (ok.symm.trans z) (by simp), fun _ _ _ H6 r' T' B' s6 rr lo => ?_⟩
      · have := firstK_len (os.map fun (t : Nat) => (t : Int)) ((i + 1 : Nat) : Int)
        rw [List.length_map] at this
        omega
      rw [f1, f2] at lo
      have P0 := lo.pos
      have eq := lo.eq
      have lT := lo.leT
      have lB := lo.leB
      generalize hV : vSum ws ps ((os.take (i + 1)).map fun (t : Nat) => (t : Int)) = V at v0 v1 eq lT lB
      generalize hW : wSum ws ((os.take (i + 1)).map fun (t : Nat) => (t : Int)) = W at u0 u1 eq lT lB
      have ra6 := (ra.same s5).same s6
      have T'0 : 0 ≤ T' := by
        rcases Int.lt_or_le T' 0 with z | z
        · have h1 := Int.mul_lt_mul_of_pos_right z (show 0 < b + W by omega)
          have h2 := Int.mul_nonneg v0 (show 0 ≤ B' by omega)
          omega
        · exact z
      have sT : Sm T := sm_36 T0 (by omega)
      have sB : Sm B := sm_36 (by omega) (by omega)
      have sT' : Sm T' := sm_36 T'0 (by omega)
      have sB' : Sm B' := sm_36 (by omega) (by omega)
      refine ⟨_, rfl, _, rfl, .inl ⟨rr.self, .inl ra6.self, r', .ref r, T', B', T, B, rfl, rr, .inl ⟨r, rfl, ra6⟩, sT', sB', sT, sB, fun H7 s7 => ⟨_, rfl, ite2 (fun c => ?_) (fun c => ?_)⟩⟩⟩
      · have c : T' * B > T * B' := of_decide_eq_true c
        have les : ∀ j ≤ i, vSum ws ps ((os.take j).map fun (t : Nat) => (t : Int)) * B' < T' * (b + wSum ws ((os.take j).map fun (t : Nat) => (t : Int))) := fun j hj => by
          have nj : ((os.take j).map fun (t : Nat) => (t : Int)).length ≤ 24 := by
            rw [List.length_map, List.length_take]
            omega
          have := (vw_bd fi hp0 nj).2.2.1
          exact better (by omega) B0 P0 (all j hj) c
        refine ⟨_, rfl, _, rfl, i + 1, r', T', B', some (.int (1 + (i : Int))), some (.ref r'), ?_, ((s4.trans s5).trans s6).trans s7, rr.same s7, P0, T'0, by omega, by omega, Nat.le_refl _, fun j hj => ?_, by rw [hV, hW]; omega, fun j hj => les j (by omega)⟩
        · rw [show ((i + 1 : Nat) : Int) = 1 + (i : Int) by omega]
          rfl
        · rcases (by omega : j ≤ i ∨ j = i + 1) with z | z
          · have := les j z
            omega
          · subst z
            rw [hV, hW]
            omega
      · have c : T' * B ≤ T * B' := by
          have : ¬ T' * B > T * B' := fun z => c (decide_eq_true z)
          omega
        refine ⟨k, r, T, B, _, _, rfl, ((s4.trans s5).trans s6).trans s7, ra6.same s7, B0, T0, Tb, Bb, by omega, fun j hj => ?_, at_, low_⟩
        rcases (by omega : j ≤ i ∨ j = i + 1) with z | z
        · exact all j z
        · subst z
          rw [hV, hW]
          exact worse (by omega) P0 eq c
    · rintro σ H4 ⟨k, r, T, B, y1, y2, rfl, s4, ra, B0, T0, Tb, Bb, ki, all, at_, low_⟩
      refine ⟨_, rfl, _, rfl, (by show 2 ≤ sizeLine; decide), fun u nu => ?_⟩
      have su := same_upd (o := .tup [V.int (k : Int), V.ref r]) nu
      exact q _ u r T B k ((s13.trans s4).trans su) upd_same (ra.same su) (best_of fi.w1 B0 T0 (by omega) (by omega) pm pw all at_ low_)
def sp_Weighted_best (C CR CB : Addr) : Sp := fun vs H Q E => ∃ (p P dx t : Addr) (ws ps : List Int) (b : Int), vs = [.ref p, .ref P] ∧ WAt C H p dx t ws b ∧ H P = some (.lst (ps.map V.int)) ∧ ps.length ≤ 900 ∧ Fine ws b ps ∧ (¬ ps.length = ws.length → ∀ H' d, Same H H' → H' d = some (.xd [("at", .non), ("what", .str "prices")]) → E (.ref CB) (some d) H') ∧
  (ps.length = ws.length → ∀ k : Nat, negAt ps 0 = some k → ∀ H' d, Same H H' → H' d = some (.xd [("at", .int k), ("what", .str "prices")]) → E (.ref CB) (some d) H') ∧
  (ps.length = ws.length → negAt ps 0 = none → ∀ H' u l r T B (k : Nat), Same H H' → H' u = some (.tup [.ref l, .ref r]) → H' l = some (.tup ((dearU ps T B ws.length).map V.int)) → RatAt CR H' r T B → BestK ws ps b T B k → Q (.ref u) H')
theorem ok_Weighted_best {f : Addr} {fd : FuncData} {C_Weighted C_Ratio C_BadNumber C_TooMany C_ZeroBottom C_BadLot C_Unsure : Addr} (F : Fun K "best" "Weighted.best" s_Weighted_best f fd) (T : Txt K mg C_Weighted C_Ratio C_BadNumber C_TooMany C_ZeroBottom C_BadLot C_Unsure) (m_range : mg "range" = none) (m_tuple : mg "tuple" = none) (c_Rule_best_dearest : CalM P w K mg base (L2.CX P w) 7 C_Weighted "best_dearest" ["self", "prices"] (sp_Rule_best_dearest C_Weighted C_Ratio C_BadNumber)) (c_Ratio___gt__ : CalM P w K mg base CX0 5 C_Ratio "__gt__" ["self", "other"] (sp_Ratio___gt__ C_Ratio)) (c_Ratio___lt__ : CalM P w K mg base CX0 5 C_Ratio "__lt__" ["self", "other"] (sp_Ratio___lt__ C_Ratio)) : FnOk P w K mg base (L2.CX P w) 8 f fd ["self", "prices"] (sp_Weighted_best C_Weighted C_Ratio C_BadNumber) := by
  refine F.okX sc_Weighted_best (fun vs H Q E h => ?_) (fun cdv A outer s H vs Q E hr h => ?_)
  · obtain ⟨p, P, dx, t, ws, ps, b, rfl, _⟩ := h
    rfl
  · obtain ⟨p, P, dx, t, ws, ps, b, rfl, w, hP, pl, fi, k1, k2, q⟩ := h
    obtain ⟨f_Rule_best_dearest, fd_Rule_best_dearest, G_Rule_best_dearest, M_Rule_best_dearest, b_Rule_best_dearest⟩ := c_Rule_best_dearest
    obtain ⟨f_Ratio___gt__, fd_Ratio___gt__, G_Ratio___gt__, M_Ratio___gt__, b_Ratio___gt__⟩ := c_Ratio___gt__
    obtain ⟨f_Ratio___lt__, fd_Ratio___lt__, G_Ratio___lt__, M_Ratio___lt__, b_Ratio___lt__⟩ := c_Ratio___lt__
    refine ⟨_, (pss_cons (ps_asg (pe_meth (pv 0) T.cl_Weighted M_Rule_best_dearest G_Rule_best_dearest (hr.mono (by decide)) b_Rule_best_dearest .nil (passes_call (takes_of rfl rfl rfl rfl) (fun _ _ _ _ h => h)) (pa_cons (pv 1) pa_nil)) (pg_tup rfl (pgs_cons (pg_name (i := 2) sc_Weighted_best.nd rfl (Or.inl rfl)) (pgs_cons (pg_name (i := 3) sc_Weighted_best.nd rfl (Or.inr rfl)) pgs_nil))))
      (pss_one (ps_ret (pe_tup (pa_cons (pe_callTy call_tuple_of (by rfl) m_tuple (by decide +kernel) (pa_cons (pe_lc (own := [("thing", 4)]) (g := (gName 4)) rfl sc_Weighted_best.nd (pi_range1 (by rfl) m_range (pa_cons (pe_fld (pv 0) rfl) pa_nil)) (blkOk_by (own := [("thing", 4)]) (N := ["self", "prices", "_", "worth", "thing"]) (sc := defScope s_Weighted_best) (by decide +kernel)) (fun _ _ _ _ _ => (pg_name (i := 4) sc_Weighted_best.nd rfl (Or.inl rfl))) (fun _ _ _ _ _ => (pts_one (pt_cmpR (op_cmp_Gt M_Ratio___gt__ M_Ratio___lt__ T.si_Ratio T.sr_Ratio G_Ratio___gt__ G_Ratio___lt__ (hr.mono (by decide)) (hr.mono (by decide)) b_Ratio___gt__ b_Ratio___lt__ pass0) (pe_ix (r := rIxL K) ix_list (pv 1) (pv 4) (fun _ _ => rfl)) (pv 3) (nomark _)))) (fun _ _ _ _ _ => (pv 4))) pa_nil)) (pa_cons (pv 3) pa_nil)))))), ?_⟩
    refine ⟨_, rfl, p, dx, _, rfl, w.1, fW_best_dearest _ _ _, _, rfl, p, P, dx, t, ws, ps, b, rfl, w, hP, pl, fi, k1, k2, fun e hn H1 u0 r Z B k s1 hu0 ra bk => ?_⟩
    have q := q e hn
    have wl := fi.wl
    have w1 := w.same s1
    have hp0 := negAt_nn hn
    refine ⟨u0, _, rfl, tup_t hu0, rfl, _, _, rfl, _, _, rfl, rfl, ?_⟩
    refine ⟨_, rfl, p, C_Weighted, dx, _, _, rfl, w1.1, T.cl_Weighted, T.n_Weighted_many, fW_many _ _ _, _, rfl, by omega, by omega, ?_⟩
    rw [Int.toNat_natCast]
    refine fun D nD => lc_range (lo := 0) (n := ws.length) (fun i H3 => Same H1 H3 ∧ H3 D = some (.lst ((dearU ps Z B i).map V.int))) ⟨same_upd nD, upd_same⟩ ?_ ?_
    · rintro i H3 hi ⟨s3, hD⟩
      have s13 := s1.trans s3
      have ra3 := ra.same s3
      have Tb := bk.Tb
      have T0 := bk.T0
      have B0 := bk.B0
      have Bb := bk.Bb
      have p0 := getD_n0 hp0 i
      have p1 := getD_le fi.p2 i
      refine ⟨rfl, ?_⟩
      refine ⟨_, rfl, _, rfl, P, _, _, .int (ps.getD i 0), rfl, rfl, lst_l (s13 _ _ hP), ?_, ?_⟩
      · have := ws_at (ws := ps) (n := 0 + (i : Int)) (by omega) (by omega)
        rw [show (0 + (i : Int)).toNat = i by omega] at this
        exact this
      have sZ : Sm Z := sm_36 T0 (by omega)
      have sB : Sm B := sm_36 (by omega) (by omega)
      refine ⟨_, rfl, .inr ⟨⟨_, rfl⟩, ra3.self, r, .int (ps.getD i 0), Z, B, ps.getD i 0, 1, rfl, ra3, .inr ⟨rfl, rfl⟩, sZ, sB, sm_36 p0 (by omega), sm_of (n := 1) (by decide), fun H4 s4 => ⟨_, rfl, ite2 (fun c => ?_) (fun c => ?_)⟩⟩⟩
      · have c : Z * 1 < ps.getD i 0 * B := of_decide_eq_true c
        refine ⟨_, rfl, _, s4 _ _ hD, ?_, same_mut (s3.trans s4) nD, ?_⟩
        · rw [List.length_map]
          have := dearU_len ps Z B i
          exact small1000 (by omega)
        · rw [upd_same, dearU_next, if_pos (by omega), Int.zero_add, List.map_append]
          rfl
      · have c : ¬ Z * 1 < ps.getD i 0 * B := fun z => c (decide_eq_true z)
        refine ⟨s3.trans s4, ?_⟩
        rw [s4 _ _ hD, dearU_next, if_neg (by omega), List.append_nil]
    · rintro H3 ⟨s3, hD⟩
      refine ⟨D, _, rfl, .inl ⟨lst_l hD, fun l nl => ?_⟩⟩
      have sl := same_upd (o := .tup ((dearU ps Z B ws.length).map V.int)) nl
      refine ⟨_, rfl, (by show 2 ≤ sizeLine; decide), fun u nu => ?_⟩
      have su := same_upd (o := .tup [V.ref l, V.ref r]) nu
      exact q _ u l r Z B k (((s1.trans s3).trans sl).trans su) upd_same (su _ _ upd_same) (((ra.same s3).same sl).same su) bk
def sp_Unsure_best (C CR CB : Addr) : Sp := fun vs H Q E => ∃ (p P : Addr) (ls hs ps : List Int) (a b : Int), vs = [.ref p, .ref P] ∧ UAt C H p ls hs a b ∧ FU ls hs a b ∧ ls.length ≤ 24 ∧ H P = some (.lst (ps.map V.int)) ∧ ps.length ≤ 900 ∧ (∀ x ∈ ps, x ≤ 10 ^ 18) ∧
  (¬ ps.length = ls.length → ∀ H' d, Same H H' → H' d = some (.xd [("at", .non), ("what", .str "prices")]) → E (.ref CB) (some d) H') ∧
  (ps.length = ls.length → ∀ k : Nat, negAt ps 0 = some k → ∀ H' d, Same H H' → H' d = some (.xd [("at", .int k), ("what", .str "prices")]) → E (.ref CB) (some d) H') ∧
  (ps.length = ls.length → negAt ps 0 = none → ∀ H' u l r T B (k : Nat), Same H H' → H' u = some (.tup [.ref l, .ref r]) → H' l = some (.tup ((dearU ps T B ls.length).map V.int)) → RatAt CR H' r T B → BestK ls ps b T B k → Q (.ref u) H')
theorem ok_Unsure_best {f : Addr} {fd : FuncData} {C_Weighted C_Ratio C_BadNumber C_TooMany C_ZeroBottom C_BadLot C_Unsure : Addr} (F : Fun K "best" "Unsure.best" s_Unsure_best f fd) (T : Txt K mg C_Weighted C_Ratio C_BadNumber C_TooMany C_ZeroBottom C_BadLot C_Unsure) (c_Weighted___init__ : CalI P w K mg base (L2.CX P w) 5 C_Weighted ["self", "weights", "aside"] (sp_Weighted___init__ K C_Weighted C_TooMany C_BadNumber) []) (c_Weighted_best : CalM P w K mg base (L2.CX P w) 8 C_Weighted "best" ["self", "prices"] (sp_Weighted_best C_Weighted C_Ratio C_BadNumber)) : FnOk P w K mg base (L2.CX P w) 9 f fd ["self", "prices"] (sp_Unsure_best C_Unsure C_Ratio C_BadNumber) := by
  refine F.okX sc_Unsure_best (fun vs H Q E h => ?_) (fun cdv A outer s H vs Q E hr h => ?_)
  · obtain ⟨p, P, ls, hs, ps, a, b, rfl, _⟩ := h
    rfl
  · obtain ⟨p, P, ls, hs, ps, a, b, rfl, ⟨dx, tl, th, ta, hp, htl, hth, hta⟩, fu, m24, hP, pl, p18, k1, k2, q⟩ := h
    obtain ⟨f_Weighted___init__, fd_Weighted___init__, G_Weighted___init__, M_Weighted___init__, b_Weighted___init__, ds_Weighted___init__, vd_Weighted___init__, bd_Weighted___init__⟩ := c_Weighted___init__
    obtain ⟨f_Weighted_best, fd_Weighted_best, G_Weighted_best, M_Weighted_best, b_Weighted_best⟩ := c_Weighted_best
    refine ⟨_, (pss_one (ps_ret (pe_meth (pe_make M_Weighted___init__ G_Weighted___init__ (hr.mono (by decide)) (by rfl) T.g_Weighted b_Weighted___init__ .nil (passes_call (takes_of rfl rfl rfl rfl) (fun _ _ _ _ h => h)) (pa_cons (pe_fld (pv 0) rfl) (pa_cons (pe_ix ix_tup (pe_fld (pv 0) rfl) pe_int (fun _ _ => rfl)) pa_nil))) T.cl_Weighted M_Weighted_best G_Weighted_best (hr.mono (by decide)) b_Weighted_best .nil (passes_call (takes_of rfl rfl rfl rfl) (fun _ _ _ _ h => h)) (pa_cons (pv 1) pa_nil)))), ?_⟩
    have b1 := fu.b1
    have b2 := fu.b2
    refine ⟨_, rfl, p, C_Unsure, dx, _, _, rfl, hp, T.cl_Unsure, T.n_Unsure_lows, fU_lows _ _ _ _, _, rfl, p, C_Unsure, dx, _, _, rfl, hp, T.cl_Unsure, T.n_Unsure_aside, fU_aside _ _ _ _, ta, _, _, _, rfl, rfl, tup_t hta, atI_nat (j := 1) rfl, ?_⟩
    refine mk_w htl m24 fu.l.w1 fu.b1 fun x dw t H1 s1 nx w => ?_
    have p0 := fu.l.w1
    exact ⟨x, dw, _, rfl, w.1, fW_best _ _ _, _, rfl, x, P, dw, t, ls, ps, b, rfl, w, s1 _ _ hP, pl, ⟨m24, fu.l.w1, fu.l.w2, fu.b1, fu.b2, p18⟩, fun e H' d s hd => k1 e H' d (s1.trans s) hd, fun e k hk H' d s hd => k2 e k hk H' d (s1.trans s) hd, fun e hn H2 u l r Z B k s2 hu hl ra bk => q e hn H2 u l r Z B k (s1.trans s2) hu hl ra bk⟩
def sp_Unsure__check (C CL CB : Addr) : Sp := fun vs H Q E => ∃ (p l P : Addr) (ls hs ns ps : List Int) (a b : Int), vs = [.ref p, .ref l, .ref P] ∧ UAt C H p ls hs a b ∧ H l = some (.tup (ns.map V.int)) ∧ H P = some (.lst (ps.map V.int)) ∧ ns.length ≤ 1000 ∧ ps.length ≤ 1000 ∧ ls.length ≤ 24 ∧ (¬ ps.length = ls.length → ∀ H' d, Same H H' → H' d = some (.xd [("at", .non), ("what", .str "prices")]) → E (.ref CB) (some d) H') ∧
  (ps.length = ls.length → ∀ k : Nat, negAt ps 0 = some k → ∀ H' d, Same H H' → H' d = some (.xd [("at", .int k), ("what", .str "prices")]) → E (.ref CB) (some d) H') ∧
  (ps.length = ls.length → negAt ps 0 = none → lotB ns (-1) ls.length = false → ∀ H', Same H H' → E (.ref CL) none H') ∧
  (ps.length = ls.length → negAt ps 0 = none → lotB ns (-1) ls.length = true → ∀ H', Same H H' → Q .non H')
theorem ok_Unsure__check {f : Addr} {fd : FuncData} {C_Weighted C_Ratio C_BadNumber C_TooMany C_ZeroBottom C_BadLot C_Unsure : Addr} (F : Fun K "_check" "Unsure._check" s_Unsure__check f fd) (T : Txt K mg C_Weighted C_Ratio C_BadNumber C_TooMany C_ZeroBottom C_BadLot C_Unsure) (c_check_prices : Cal P w K mg base (L2.CX P w) 4 "check_prices" ["prices", "many"] (sp_check_prices K C_BadNumber)) (c_check_lot : Cal P w K mg base (L2.CX P w) 1 "check_lot" ["lot", "many"] (sp_check_lot K C_BadLot)) : FnOk P w K mg base (L2.CX P w) 5 f fd ["self", "lot", "prices"] (sp_Unsure__check C_Unsure C_BadLot C_BadNumber) := by
  refine F.okX sc_Unsure__check (fun vs H Q E h => ?_) (fun cdv A outer s H vs Q E hr h => ?_)
  · obtain ⟨p, l, P, ls, hs, ns, ps, a, b, rfl, _⟩ := h
    rfl
  · obtain ⟨p, l, P, ls, hs, ns, ps, a, b, rfl, ⟨dx, tl, th, ta, hp, htl, hth, hta⟩, hl, hP, nl, pl, m24, k1, k2, k3, q⟩ := h
    obtain ⟨f_check_prices, fd_check_prices, G_check_prices, m_check_prices, k_check_prices, b_check_prices⟩ := c_check_prices
    obtain ⟨f_check_lot, fd_check_lot, G_check_lot, m_check_lot, k_check_lot, b_check_lot⟩ := c_check_lot
    refine ⟨_, (pss_cons (ps_expr (pe_call G_check_prices (hr.mono (by decide)) (by rfl) m_check_prices k_check_prices b_check_prices .nil (passes_call (takes_of rfl rfl rfl rfl) (fun _ _ _ _ h => h)) (pa_cons (pv 2) (pa_cons (pe_fld (pv 0) rfl) pa_nil))))
      (pss_one (ps_expr (pe_call G_check_lot (hr.mono (by decide)) (by rfl) m_check_lot k_check_lot b_check_lot .nil (passes_call (takes_of rfl rfl rfl rfl) (fun _ _ _ _ h => h)) (pa_cons (pv 1) (pa_cons (pe_fld (pv 0) rfl) pa_nil)))))), ?_⟩
    refine ⟨_, rfl, _, rfl, p, C_Unsure, dx, _, _, rfl, hp, T.cl_Unsure, T.n_Unsure_many, fU_many _ _ _ _, P, ps, _, rfl, hP, pl, fun e H' d s hd => k1 (fun z => e (by omega)) H' d s hd, fun e k hk H' d s hd => k2 (by omega) k hk H' d s hd, fun e hn H1 s1 => ?_⟩
    have hp1 := s1 _ _ hp
    have e : ps.length = ls.length := by omega
    exact ⟨_, rfl, _, rfl, p, C_Unsure, dx, _, _, rfl, hp1, T.cl_Unsure, T.n_Unsure_many, fU_many _ _ _ _, l, ns, _, rfl, tup_t (s1 _ _ hl), fun c => k3 e hn c H1 s1, fun c => q e hn c H1 s1⟩
def sp_Unsure__turned (C CR : Addr) : Sp := fun vs H Q _ => ∃ (p l P td tc : Addr) (ls hs ds cs ns ps : List Int) (a1 a2 a : Int), vs = [.ref p, .ref l, .ref P, .ref td, .ref tc, .int a] ∧ UAt C H p ls hs a1 a2 ∧ H l = some (.tup (ns.map V.int)) ∧ H P = some (.lst (ps.map V.int)) ∧ H td = some (.tup (ds.map V.int)) ∧ H tc = some (.tup (cs.map V.int)) ∧ WB ls ls.length ∧ WB ds ls.length ∧ WB cs ls.length ∧ PB ps ls.length ∧ ls.length ≤ 24 ∧ 0 < a ∧ a ≤ 10 ^ 18 ∧ lotB ns (-1) ls.length = true ∧ ∀ H' u r W T B, Same H H' → H W = none → H' u = some (.tup [.ref r, .ref W, .int a]) → RatAt CR H' r T B → H' W = some (.lst ((tw ls ds cs ps ns T B).map V.int)) → LowT (vSum (tw ls ds cs ps ns T B) ps ns) (a + wSum (tw ls ds cs ps ns T B) ns) T B → Q (.ref u) H'
theorem ok_Unsure__turned {f : Addr} {fd : FuncData} {C_Weighted C_Ratio C_BadNumber C_TooMany C_ZeroBottom C_BadLot C_Unsure : Addr} (F : Fun K "_turned" "Unsure._turned" s_Unsure__turned f fd) (T : Txt K mg C_Weighted C_Ratio C_BadNumber C_TooMany C_ZeroBottom C_BadLot C_Unsure) (m_list : mg "list" = none) (c__worth : Cal P w K mg base CX0 3 "_worth" ["lot", "prices", "weights", "aside"] (sp__worth C_Ratio)) (c_dearest_order : Cal P w K mg base CX0 1 "dearest_order" ["prices"] (sp_dearest_order K)) (c_Ratio___le__ : CalM P w K mg base CX0 5 C_Ratio "__le__" ["self", "other"] (sp_Ratio___le__ C_Ratio)) (c_Ratio___ge__ : CalM P w K mg base CX0 5 C_Ratio "__ge__" ["self", "other"] (sp_Ratio___ge__ C_Ratio)) : FnOk P w K mg base CX0 6 f fd ["self", "lot", "prices", "dear", "cheap", "aside"] (sp_Unsure__turned C_Unsure C_Ratio) := by
  refine F.ok sc_Unsure__turned (fun vs H Q E h => ?_) (fun cdv A outer s H vs Q E hr h => ?_)
  · obtain ⟨p, l, P, td, tc, ls, hs, ds, cs, ns, ps, a1, a2, a, rfl, _⟩ := h
    rfl
  · obtain ⟨p, l, P, td, tc, ls, hs, ds, cs, ns, ps, a1, a2, a, rfl, ⟨dx, tl, th, ta, hp, htl, hth, hta⟩, hl, hP, htd, htc, wbl, wbd, wbc, pb, m24, a0, a18, ok, q⟩ := h
    obtain ⟨f__worth, fd__worth, G__worth, m__worth, k__worth, b__worth⟩ := c__worth
    obtain ⟨f_dearest_order, fd_dearest_order, G_dearest_order, m_dearest_order, k_dearest_order, b_dearest_order⟩ := c_dearest_order
    obtain ⟨f_Ratio___le__, fd_Ratio___le__, G_Ratio___le__, M_Ratio___le__, b_Ratio___le__⟩ := c_Ratio___le__
    obtain ⟨f_Ratio___ge__, fd_Ratio___ge__, G_Ratio___ge__, M_Ratio___ge__, b_Ratio___ge__⟩ := c_Ratio___ge__
    refine ⟨_, (pss_cons (ps_set (i := 6) sc_Unsure__turned.nd rfl (Or.inl rfl) (pe_callTy call_list_of (by rfl) m_list (by decide +kernel) (pa_cons (pe_fld (pv 0) rfl) pa_nil)))
      (pss_cons (ps_for PassesOwn.never rfl (pi_tup (pv 1)) (pg_name (i := 7) sc_Unsure__turned.nd rfl (Or.inl rfl))
      (pss_one (ps_asg (pe_ix ix_tup (pv 4) (pv 7) (fun _ _ => rfl)) (pg_sub (pv 6) (pv 7) set_list))))
      (pss_cons (ps_set (i := 8) sc_Unsure__turned.nd rfl (Or.inl rfl) (pe_call G__worth (hr.mono (by decide)) (by rfl) m__worth k__worth b__worth .nil pass0 (pa_cons (pv 1) (pa_cons (pv 2) (pa_cons (pv 6) (pa_cons (pv 5) pa_nil))))))
      (pss_cons (ps_for PassesOwn.never rfl (pi_tup (pe_call G_dearest_order (hr.mono (by decide)) (by rfl) m_dearest_order k_dearest_order b_dearest_order .nil pass0 (pa_cons (pv 2) pa_nil))) (pg_name (i := 7) sc_Unsure__turned.nd rfl (Or.inl rfl))
      (pss_one (ps_if (PW.pt (pw_and (pt_cmpR op_in_seq (pv 7) (pv 1) (by rfl)) (pw_and1 (pt_cmpR (op_cmp_LtE M_Ratio___le__ M_Ratio___ge__ T.si_Ratio T.sr_Ratio G_Ratio___le__ G_Ratio___ge__ (hr.mono (by decide)) (hr.mono (by decide)) b_Ratio___le__ b_Ratio___ge__ pass0) (pv 8) (pe_ix ix_list (pv 2) (pv 7) (fun _ _ => rfl)) (nomark _))))) (pss_cons (ps_asg (pe_ix ix_tup (pv 3) (pv 7) (fun _ _ => rfl)) (pg_sub (pv 6) (pv 7) set_list))
      (pss_one (ps_set (i := 8) sc_Unsure__turned.nd rfl (Or.inl rfl) (pe_call G__worth (hr.mono (by decide)) (by rfl) m__worth k__worth b__worth .nil pass0 (pa_cons (pv 1) (pa_cons (pv 2) (pa_cons (pv 6) (pa_cons (pv 5) pa_nil)))))))) pss_nil)))
      (pss_one (ps_ret (pe_tup (pa_cons (pv 8) (pa_cons (pv 6) (pa_cons (pv 5) pa_nil)))))))))), ?_⟩
    have inl := lotB_in ok
    have nl := lotB_len ok
    have pl := pb.len
    have dl := wbd.len
    have cl := wbc.len
    refine ⟨_, rfl, p, C_Unsure, dx, _, _, rfl, hp, T.cl_Unsure, T.n_Unsure_lows, fU_lows _ _ _ _, tl, _, rfl, .inr (tup_t htl), fun W nW => ?_⟩
    have sW := same_upd (o := .lst (ls.map V.int)) nW
    have hW := upd_same (H := H) (a := W) (o := .lst (ls.map V.int))
    generalize upd H W (.lst (ls.map V.int)) = H1 at sW hW ⊢
    refine ⟨_, rfl, l, rfl, ⟨_, tup_t (sW _ _ hl)⟩, for_tup (K := K) (a := l) (xs := ns.map V.int) (fun i σ H2 => ∃ (y : Option V), σ = [some (.ref p), some (.ref l), some (.ref P), some (.ref td), some (.ref tc), some (.int a), some (.ref W), y, none] ∧ Same H H2 ∧ H2 W = some (.lst ((wof ls ds cs (ns.take i) []).map V.int))) ⟨none, rfl, sW, by rw [List.take_zero, wof_none]; exact hW⟩ (fun i σ H2 _ ⟨_, _, s, _⟩ => tup_t (s _ _ hl)) ?_ ?_⟩
    · rintro i x σ H2 hi ⟨y, rfl, s2, hW2⟩
      obtain ⟨n, rfl, hin⟩ := int_of hi
      have bn := inl n (List.mem_of_getElem? hin)
      obtain ⟨k, rfl⟩ : ∃ k : Nat, n = (k : Int) := ⟨n.toNat, by omega⟩
      have kn : ¬ (k : Int) ∈ ns.take i := fun z => take_lotlt ok hin z
      refine ⟨_, rfl, _, rfl, tc, _, _, _, rfl, rfl, tup_t (s2 _ _ htc), ws_at (ws := cs) (n := (k : Int)) (by omega) (by omega), _, rfl, _, rfl, W, _, _, k, rfl, rfl, hW2, ?_, ?_⟩
      · rw [List.length_map, wof_len]
        exact ixn_at (by omega)
      · rw [Int.toNat_natCast, set_ints, wof_cheap (by omega) (by simp)]
        refine ⟨_, rfl, same_mut s2 nW, ?_⟩
        rw [upd_same, List.take_add_one, hin]
        rfl
    rintro σ H2 ⟨y, rfl, s2, hW2⟩
    rw [List.length_map, List.take_length] at hW2
    have wb := fun ts => wof_wb (m := ls.length) wbl wbd wbc ns ts
    have fin := fun ts => (wb ts).fine pb m24 a0 a18
    refine ⟨_, rfl, _, rfl, _, rfl, _, rfl, l, P, W, ns, ps, wof ls ds cs ns [], a, rfl, s2 _ _ hl, s2 _ _ hP, hW2, fin [], by rw [wof_len]; exact pb, by rw [wof_len]; exact ok, fun H3 r T B s3 ra lo => ?_⟩
    have s13 := s2.trans s3
    have hW3 := s3 _ _ hW2
    refine ⟨_, rfl, P, ps, rfl, lst_l (s13 _ _ hP), by omega, fun os H4 o pm pw s4 no ho => ?_⟩
    have ol : os.length = ls.length := by rw [pm.length_eq, List.length_range, pl]
    have s14 := s13.trans s4
    have hW4 := s4 _ _ hW3
    have ra4 := ra.same s4
    have oW : o ≠ W := fun z => by
      rw [z, hW3] at no
      cases no
    clear s2 s3 s13 s4 hW2 hW3 hW sW no ra
    refine ⟨o, rfl, ⟨_, tup_t ho⟩, for_tup (K := K) (a := o) (xs := nv os) (fun i σ H2 => ∃ (ts : List Int) (r : Addr) (T B : Int) (y : Option V), σ = [some (.ref p), some (.ref l), some (.ref P), some (.ref td), some (.ref tc), some (.int a), some (.ref W), y, some (.ref r)] ∧ Same H H2 ∧ H2 o = some (.tup (nv os)) ∧ H2 W = some (.lst ((wof ls ds cs ns ts).map V.int)) ∧ RatAt C_Ratio H2 r T B ∧ TurnS ls ds cs ns ps a os i ts T B) ⟨[], r, T, B, y, rfl, s14, ho, hW4, ra4, lo, fun t h => (by cases h), fun j x h => (by omega), fun t h => (by cases h)⟩ (fun i σ H2 _ ⟨_, _, _, _, _, _, _, h, _⟩ => tup_t h) ?_ ?_⟩
    · rintro i x σ H5 hi ⟨ts, r, T, B, y, rfl, s5, ho5, hW5, ra5, ss⟩
      obtain ⟨k, hk, rfl⟩ : ∃ k : Nat, os[i]? = some k ∧ x = .int (k : Int) := by
        obtain ⟨k, hk⟩ : ∃ k, os[i]? = some k := by
          have := (List.getElem?_eq_some_iff.mp hi).1
          rw [nv_len] at this
          exact ⟨_, List.getElem?_eq_getElem this⟩
        exact ⟨k, hk, (Option.some.inj ((nv_at hk).symm.trans hi)).symm⟩
      have km : k < ls.length := by
        have := List.mem_range.mp (pm.mem_iff.mp (List.mem_of_getElem? hk))
        omega
      have new := ss.new hk pm
      obtain ⟨v0, v1, u0, u1⟩ := vw_bd (fin ts) pb.p0 (ns := ns) (by omega)
      obtain ⟨v0', v1', u0', u1'⟩ := vw_bd (fin ((k : Int) :: ts)) pb.p0 (ns := ns) (by omega)
      have pos := ss.lo.pos
      have lT := ss.lo.leT
      have lB := ss.lo.leB
      have p0 := getD_n0 pb.p0 k
      have p1 := getD_le pb.p2 k
      have sT : Sm T := (sm_36 (x := vSum (wof ls ds cs ns ts) ps ns) v0 (by omega)).le lT
      have sB : Sm B := (sm_36 (x := a + wSum (wof ls ds cs ns ts) ns) (by omega) (by omega)).le lB
      refine ⟨_, rfl, _, rfl, l, _, rfl, .inr (tup_t (s5 _ _ hl)), rfl, ints_flat ns, _, rfl, ite2 (fun c => ?_) (fun c => ?_)⟩
      · have c : (k : Int) ∈ ns := inV_int.mp c
        refine ⟨_, rfl, _, rfl, _, rfl, P, _, _, .int (ps.getD k 0), rfl, rfl, lst_l (s5 _ _ hP), ws_at (ws := ps) (n := (k : Int)) (by omega) (by omega), .inl ⟨ra5.self, .inr ⟨_, rfl⟩, r, .int (ps.getD k 0), T, B, ps.getD k 0, 1, rfl, ra5, .inr ⟨rfl, rfl⟩, sT, sB, sm_36 p0 (by omega), sm_of (n := 1) (by decide), fun H6 s6 => ⟨_, rfl, ite2 (fun c2 => ?_) (fun c2 => ?_)⟩⟩⟩
        · have c2 : T ≤ ps.getD k 0 * B := by
            have : T * 1 ≤ ps.getD k 0 * B := of_decide_eq_true c2
            omega
          have s56 := s5.trans s6
          have hW6 := s6 _ _ hW5
          refine ⟨_, rfl, _, rfl, td, _, _, _, rfl, rfl, tup_t (s56 _ _ htd), ws_at (ws := ds) (n := (k : Int)) (by omega) (by omega), _, rfl, _, rfl, W, _, _, k, rfl, rfl, hW6, ?_, ?_⟩
          · rw [List.length_map, wof_len]
            exact ixn_at (by omega)
          rw [Int.toNat_natCast, set_ints, wof_dear (ts' := (k : Int) :: ts) (by omega) (fun x => List.mem_cons)]
          have s7 := same_mut (o := .lst ((wof ls ds cs ns ((k : Int) :: ts)).map V.int)) s56 nW
          have hW7 := upd_same (H := H6) (a := W) (o := .lst ((wof ls ds cs ns ((k : Int) :: ts)).map V.int))
          have ho7 := (upd_ne (o := .lst ((wof ls ds cs ns ((k : Int) :: ts)).map V.int)) oW).trans (s6 _ _ ho5)
          refine ⟨_, rfl, _, rfl, _, rfl, _, rfl, l, P, W, ns, ps, wof ls ds cs ns ((k : Int) :: ts), a, rfl, s7 _ _ hl, s7 _ _ hP, hW7, fin _, by rw [wof_len]; exact pb, by rw [wof_len]; exact ok, fun H8 r2 T2 B2 s8 ra8 lo8 => ?_⟩
          exact ⟨(k : Int) :: ts, r2, T2, B2, _, rfl, s7.trans s8, s8 _ _ ho7, s8 _ _ hW7, ra8, ss.turn pw hk km inl c new c2 (by omega) (by omega) lo8⟩
        · have c2 : ps.getD k 0 * B < T := by
            have : ¬ T * 1 ≤ ps.getD k 0 * B := fun z => c2 (decide_eq_true z)
            omega
          exact ⟨ts, r, T, B, _, rfl, s5.trans s6, s6 _ _ ho5, s6 _ _ hW5, ra5.same s6, ss.keep hk fun _ => c2⟩
      · have c : ¬ (k : Int) ∈ ns := fun z => c (inV_int.mpr z)
        exact ⟨ts, r, T, B, _, rfl, s5, ho5, hW5, ra5, ss.keep hk fun z => absurd z c⟩
    rintro σ H5 ⟨ts, r, T, B, y, rfl, s5, ho5, hW5, ra5, ss⟩
    rw [nv_len, ol] at ss
    have lo5 := ss.lo
    rw [ss.fin (by rw [← pl]; exact pm) inl] at hW5 lo5
    refine ⟨_, rfl, _, rfl, _, rfl, (by show 3 ≤ sizeLine; decide), fun u nu => ?_⟩
    have su := same_upd (o := .tup [V.ref r, V.ref W, V.int a]) nu
    exact q _ u r W T B (s5.trans su) nW upd_same (ra5.same su) (su _ _ hW5) lo5
def sp_Unsure_least (C CR CL CB : Addr) : Sp := fun vs H Q E => ∃ (p l P : Addr) (ls hs ns ps : List Int) (a b : Int), vs = [.ref p, .ref l, .ref P] ∧ UAt C H p ls hs a b ∧ H l = some (.tup (ns.map V.int)) ∧ H P = some (.lst (ps.map V.int)) ∧ ns.length ≤ 1000 ∧ ps.length ≤ 1000 ∧ ls.length ≤ 24 ∧ FU ls hs a b ∧ (∀ x ∈ ps, x ≤ 10 ^ 18) ∧ (¬ ps.length = ls.length → ∀ H' d, Same H H' → H' d = some (.xd [("at", .non), ("what", .str "prices")]) → E (.ref CB) (some d) H') ∧
  (ps.length = ls.length → ∀ k : Nat, negAt ps 0 = some k → ∀ H' d, Same H H' → H' d = some (.xd [("at", .int k), ("what", .str "prices")]) → E (.ref CB) (some d) H') ∧
  (ps.length = ls.length → negAt ps 0 = none → lotB ns (-1) ls.length = false → ∀ H', Same H H' → E (.ref CL) none H') ∧
  (ps.length = ls.length → negAt ps 0 = none → lotB ns (-1) ls.length = true → ∀ H' u r W T B, Same H H' → H W = none → H' u = some (.tup [.ref r, .ref W, .int b]) → RatAt CR H' r T B → H' W = some (.lst ((tw ls ls hs ps ns T B).map V.int)) → LowT (vSum (tw ls ls hs ps ns T B) ps ns) (b + wSum (tw ls ls hs ps ns T B) ns) T B → Q (.ref u) H')
theorem ok_Unsure_least {f : Addr} {fd : FuncData} {C_Weighted C_Ratio C_BadNumber C_TooMany C_ZeroBottom C_BadLot C_Unsure : Addr} (F : Fun K "least" "Unsure.least" s_Unsure_least f fd) (T : Txt K mg C_Weighted C_Ratio C_BadNumber C_TooMany C_ZeroBottom C_BadLot C_Unsure) (c_Unsure__check : CalM P w K mg base (L2.CX P w) 5 C_Unsure "_check" ["self", "lot", "prices"] (sp_Unsure__check C_Unsure C_BadLot C_BadNumber)) (c_Unsure__turned : CalM P w K mg base CX0 6 C_Unsure "_turned" ["self", "lot", "prices", "dear", "cheap", "aside"] (sp_Unsure__turned C_Unsure C_Ratio)) : FnOk P w K mg base (L2.CX P w) 7 f fd ["self", "lot", "prices"] (sp_Unsure_least C_Unsure C_Ratio C_BadLot C_BadNumber) := by
  refine F.okX sc_Unsure_least (fun vs H Q E h => ?_) (fun cdv A outer s H vs Q E hr h => ?_)
  · obtain ⟨p, l, P, ls, hs, ns, ps, a, b, rfl, _⟩ := h
    rfl
  · obtain ⟨p, l, P, ls, hs, ns, ps, a, b, rfl, ua, hl, hP, nl, pl, m24, fu, p18, k1, k2, k3, q⟩ := h
    obtain ⟨f_Unsure__check, fd_Unsure__check, G_Unsure__check, M_Unsure__check, b_Unsure__check⟩ := c_Unsure__check
    obtain ⟨f_Unsure__turned, fd_Unsure__turned, G_Unsure__turned, M_Unsure__turned, b_Unsure__turned⟩ := c_Unsure__turned
    refine ⟨_, (pss_cons (ps_expr (pe_meth (pv 0) T.cl_Unsure M_Unsure__check G_Unsure__check (hr.mono (by decide)) b_Unsure__check .nil (passes_call (takes_of rfl rfl rfl rfl) (fun _ _ _ _ h => h)) (pa_cons (pv 1) (pa_cons (pv 2) pa_nil))))
      (pss_one (ps_ret (pe_meth (pv 0) T.cl_Unsure M_Unsure__turned G_Unsure__turned (hr.mono (by decide)) b_Unsure__turned .nil pass0 (pa_cons (pv 1) (pa_cons (pv 2) (pa_cons (pe_fld (pv 0) rfl) (pa_cons (pe_fld (pv 0) rfl) (pa_cons (pe_ix ix_tup (pe_fld (pv 0) rfl) pe_int (fun _ _ => rfl)) pa_nil))))))))), ?_⟩
    obtain ⟨dx, tl, th, ta, hp, htl, hth, hta⟩ := id ua
    refine ⟨_, rfl, p, dx, _, rfl, hp, fU__check _ _ _ _, _, rfl, _, rfl, p, l, P, ls, hs, ns, ps, a, b, rfl, ua, hl, hP, nl, pl, m24, k1, k2, k3, fun e hn ok H1 s1 => ?_⟩
    have hp1 := s1 _ _ hp
    have b0 := fu.b1
    have b1 := fu.b2
    have a0 := fu.a1
    have ab := fu.ab
    exact ⟨_, rfl, p, dx, _, rfl, hp1, fU__turned _ _ _ _, _, rfl, _, rfl, _, rfl, p, C_Unsure, dx, _, _, rfl, hp1, T.cl_Unsure, T.n_Unsure_lows, fU_lows _ _ _ _, _, rfl, p, C_Unsure, dx, _, _, rfl, hp1, T.cl_Unsure, T.n_Unsure_highs, fU_highs _ _ _ _, _, rfl, p, C_Unsure, dx, _, _, rfl, hp1, T.cl_Unsure, T.n_Unsure_aside, fU_aside _ _ _ _, ta, _, _, _, rfl, rfl, tup_t (s1 _ _ hta), atI_nat (j := 1) rfl, p, l, P, tl, th, ls, hs, ls, hs, ns, ps, a, b, b, rfl, ua.same s1, s1 _ _ hl, s1 _ _ hP, s1 _ _ htl, s1 _ _ hth, fu.l, fu.l, fu.h, ⟨e, negAt_nn hn, p18⟩, m24, by omega, by omega, ok, fun H2 u r W T B s2 nW hu ra hW lo => q e hn ok H2 u r W T B (s1.trans s2) (s1.free nW) hu ra hW lo⟩
def sp__law_cell (K : PySem.W.Frag) : Sp := fun vs H Q _ => ∃ (a : Addr) (ns : List Int) (j : Nat), vs = [.ref a, .int (j : Int)] ∧ SqL K H a (ns.map V.int) ∧ ∀ v : Int, Q (.int v) H
theorem ok__law_cell {f : Addr} {fd : FuncData} {C_Weighted C_Ratio C_BadNumber C_TooMany C_ZeroBottom C_BadLot C_Unsure : Addr} (F : Fun K "_law_cell" "_law_cell" s__law_cell f fd) (T : Txt K mg C_Weighted C_Ratio C_BadNumber C_TooMany C_ZeroBottom C_BadLot C_Unsure) (m_int : mg "int" = none) (m_len : mg "len" = none) : FnOk P w K mg base CX0 1 f fd ["_law_script", "_law_place"] (sp__law_cell K) := by
  refine F.ok sc__law_cell (fun vs H Q E h => ?_) (fun cdv A outer s H vs Q E hr h => ?_)
  · obtain ⟨a, ns, j, rfl, _⟩ := h
    rfl
  · obtain ⟨a, ns, j, rfl, hS, q⟩ := h
    refine ⟨_, (pss_cons (ps_if (pt_cmpR op_lt (pv 1) (pe_callB call_len_seq (by rfl) m_len (by decide +kernel) (pa_cons (pv 0) pa_nil)) (nomark _)) (pss_one (ps_ret (pe_callTy call_int1 (by rfl) m_int (by decide +kernel) (pa_cons (pe_ix ix_list (pv 0) (pv 1) (fun _ _ => rfl)) pa_nil)))) pss_nil)
      (pss_one (ps_ret pe_int))), ?_⟩
    refine ⟨_, rfl, .ref a, rfl, a, _, rfl, .inl hS, _, _, rfl, rfl, _, rfl, ite2 (fun e => ?_) (fun _ => q 0)⟩
    have hj : j < ns.length := by
      have e := of_decide_eq_true e
      rw [List.length_map] at e
      omega
    exact ⟨.ref a, rfl, .int (j : Int), rfl, a, _, _, _, rfl, rfl, hS, atI_nat (int_at (List.getElem?_eq_getElem hj)), .inl ⟨_, rfl, q _⟩⟩
def sp__law_draws (K : PySem.W.Frag) : Sp := fun vs H Q _ => ∃ (c : Int) (a : Addr) (ns : List Int), vs = [.int c, .ref a] ∧ SqL K H a (ns.map V.int) ∧ (∀ n ∈ ns, 0 < n ∧ n < 2 ^ 100) ∧ ns.length ≤ 1000 ∧
  ∀ ds H' p, Within ds ns → Same H H' → H p = none → H' p = some (.lst (ds.map V.int)) → Q (.ref p) H'

theorem ok__law_draws {f : Addr} {fd : FuncData} {C_Weighted C_Ratio C_BadNumber C_TooMany C_ZeroBottom C_BadLot C_Unsure : Addr} (F : Fun K "_law_draws" "_law_draws" s__law_draws f fd) (T : Txt K mg C_Weighted C_Ratio C_BadNumber C_TooMany C_ZeroBottom C_BadLot C_Unsure) (m_int : mg "int" = none) (m_len : mg "len" = none) (m_range : mg "range" = none) : FnOk P w K mg base CX0 1 f fd ["_law_cell_here", "_law_sizes"] (sp__law_draws K) := by
  refine F.ok sc__law_draws (fun vs H Q E h => ?_) (fun cdv A outer s H vs Q E hr h => ?_)
  · obtain ⟨c, a, ns, rfl, _⟩ := h
    rfl
  · obtain ⟨c, a, ns, rfl, hS, hn, hlen, q⟩ := h
    refine ⟨_, (pss_cons (ps_if (pt_cmpR op_eq (pv 0) pe_int (nomark _)) (pss_one (ps_ret (pe_lc (own := [("_law_size", 2)]) (g := (gName 2)) (tt := tYes) rfl sc__law_draws.nd (pi_list (pv 1)) (blkOk_by (own := [("_law_size", 2)]) (N := ["_law_cell_here", "_law_sizes", "_law_size", "_law_left", "_law_found", "_law_k", "_law_low", "_law_high"]) (sc := defScope s__law_draws) (by decide +kernel)) (fun _ _ _ _ _ => (pg_name (i := 2) sc__law_draws.nd rfl (Or.inl rfl))) (fun _ _ _ _ _ => pts_nil) (fun _ _ _ _ _ => pe_int)))) pss_nil)
      (pss_cons (ps_if (pt_cmpR op_ge (pv 0) (pe_op op_pow pe_int pe_int) (nomark _)) (pss_cons (ps_set (i := 3) sc__law_draws.nd rfl (Or.inl rfl) (pe_op op_sub (pv 0) (pe_op op_pow pe_int pe_int)))
      (pss_cons (ps_set (i := 4) sc__law_draws.nd rfl (Or.inl rfl) (pe_lst pa_nil))
      (pss_cons (ps_for PassesOwn.never rfl (pi_list (pv 1)) (pg_name (i := 2) sc__law_draws.nd rfl (Or.inl rfl))
      (pss_cons (ps_expr (pe_bm PySem.F.plainAttrs_list PySem.F.slot_list_append PySem.F.type_list_append mt_append (pv 4) (pa_cons (pe_op op_mod (pe_callTy call_int1 (by rfl) m_int (by decide +kernel) (pa_cons (pv 3) pa_nil)) (pv 2)) pa_nil)))
      (pss_one (ps_set (i := 3) sc__law_draws.nd rfl (Or.inl rfl) (pe_op op_fdivW (pv 3) (pv 2))))))
      (pss_one (ps_ret (pv 4)))))) pss_nil)
      (pss_cons (ps_set (i := 4) sc__law_draws.nd rfl (Or.inl rfl) (pe_lst pa_nil))
      (pss_cons (ps_for PassesOwn.never rfl (pi_range1 (by rfl) m_range (pa_cons (pe_callB call_len_seq (by rfl) m_len (by decide +kernel) (pa_cons (pv 1) pa_nil)) pa_nil)) (pg_name (i := 5) sc__law_draws.nd rfl (Or.inl rfl))
      (pss_cons (ps_set (i := 6) sc__law_draws.nd rfl (Or.inl rfl) (pe_op op_mod (pe_callTy call_int1 (by rfl) m_int (by decide +kernel) (pa_cons (pe_op op_add (pe_op op_mul (pv 0) pe_int) (pe_op op_mul (pe_op op_add (pv 5) pe_int) pe_int)) pa_nil)) pe_int))
      (pss_cons (ps_set (i := 6) sc__law_draws.nd rfl (Or.inl rfl) (pe_op op_mod (pe_callTy call_int1 (by rfl) m_int (by decide +kernel) (pa_cons (pe_op op_add (pe_op op_mul (pv 6) pe_int) (pe_op op_mul (pe_op op_add (pv 5) pe_int) pe_int)) pa_nil)) pe_int))
      (pss_cons (ps_set (i := 7) sc__law_draws.nd rfl (Or.inl rfl) (pe_op op_mod (pe_callTy call_int1 (by rfl) m_int (by decide +kernel) (pa_cons (pe_op op_add (pe_op op_mul (pv 0) pe_int) (pe_op op_mul (pe_op op_add (pv 5) pe_int) pe_int)) pa_nil)) pe_int))
      (pss_cons (ps_set (i := 7) sc__law_draws.nd rfl (Or.inl rfl) (pe_op op_mod (pe_callTy call_int1 (by rfl) m_int (by decide +kernel) (pa_cons (pe_op op_add (pe_op op_mul (pv 7) pe_int) (pv 6)) pa_nil)) pe_int))
      (pss_one (ps_expr (pe_bm PySem.F.plainAttrs_list PySem.F.slot_list_append PySem.F.type_list_append mt_append (pv 4) (pa_cons (pe_op op_mod (pe_callTy call_int1 (by rfl) m_int (by decide +kernel) (pa_cons (pe_op op_add (pe_op op_mul (pv 7) pe_int) (pv 6)) pa_nil)) (pe_ix ix_list (pv 1) (pv 5) (fun _ _ => rfl))) pa_nil)))))))))
      (pss_one (ps_ret (pv 4))))))), ?_⟩
    have small : ∀ {ds : List Int} {i : Nat}, Within ds (ns.take i) → (ds.map V.int).length < sizeLine := fun {ds i} w => by
      rw [List.length_map, w.len, List.length_take]
      exact small1000 (by omega)
    refine ⟨_, rfl, rfl, _, rfl, ite2 (fun _ => ?_) (fun _ => ?_)⟩
    · -- [0 for size in sizes]
      refine ⟨.ref a, rfl, a, rfl, ⟨_, hS⟩, fun D nD => lc_list (K := K) (a := a) (xs := ns.map V.int) (fun i H2 => ∃ ds : List Int, Same H H2 ∧ H2 D = some (.lst (ds.map V.int)) ∧ Within ds (ns.take i)) ⟨[], same_upd nD, upd_same, Within.zero ns⟩ (fun i H2 _ ⟨_, s, _⟩ => s.seq hS) ?_ ?_⟩
      · rintro i x H2 hi ⟨ds, s, hD, w⟩
        obtain ⟨n, rfl, hin⟩ := int_of hi
        refine ⟨rfl, ?_⟩
        refine lc_yes ?_
        refine iteT ?_
        exact ⟨_, hD, small w, ds ++ [0], same_mut s nD, by rw [upd_same, ← snoc_int], w.step hin (Int.le_refl 0) (hn n (List.mem_of_getElem? hin)).1⟩
      · rintro H2 ⟨ds, s, hD, w⟩
        rw [List.length_map] at w
        exact q ds H2 D w.full s nD hD
    refine ⟨_, rfl, 10, 18, rfl, rfl, ⟨by decide, by decide, by decide⟩, _, _, rfl, rfl, _, rfl, ite2 (fun _ => ?_) (fun _ => ?_)⟩
    · -- left = cell - 10 ** 18; found = []
      refine ⟨_, rfl, 10, 18, rfl, rfl, ⟨by decide, by decide, by decide⟩, _, _, rfl, rfl, ?_⟩
      refine ⟨Nat.zero_le _, fun o no => ?_⟩
      have s1 : Same H (upd H o (.lst [])) := same_upd no
      refine ⟨.ref a, rfl, a, rfl, ⟨_, s1.seq hS⟩, for_list (K := K) (a := a) (xs := ns.map V.int) (fun i σ H2 => ∃ (ds : List Int) (l : Int) (y : Option V), σ = [some (.int c), some (.ref a), y, some (.int l), some (.ref o), none, none, none] ∧ Same H H2 ∧ H2 o = some (.lst (ds.map V.int)) ∧ Within ds (ns.take i))
        ⟨[], _, none, rfl, s1, upd_same, Within.zero ns⟩ (fun i σ H2 _ ⟨_, _, _, _, s, _⟩ => s.seq hS) ?_ ?_⟩
      · rintro i x σ H2 hi ⟨ds, l, y, rfl, s, hD, w⟩
        obtain ⟨n, rfl, hin⟩ := int_of hi
        obtain ⟨n0, n1⟩ := hn n (List.mem_of_getElem? hin)
        refine ⟨.ref o, rfl, .inl ⟨rfl, _, lst_l hD⟩, _, rfl, .inl ⟨l, rfl, _, rfl, _, _, rfl, rfl, n0, o, _, _, rfl, rfl, hD, small w, ?_⟩⟩
        refine ⟨_, rfl, _, rfl, _, _, rfl, rfl, w_div n0 n1, ds ++ [l % n], _, _, rfl, same_mut s no, by rw [upd_same, ← snoc_int], w.step hin (Int.emod_nonneg _ (by omega)) (Int.emod_lt_of_pos _ n0)⟩
      · rintro σ H2 ⟨ds, l, y, rfl, s, hD, w⟩
        rw [List.length_map] at w
        exact ⟨_, rfl, q ds H2 o w.full s no hD⟩
    · refine ⟨Nat.zero_le _, fun o no => ?_⟩
      have s1 : Same H (upd H o (.lst [])) := same_upd no
      refine ⟨.ref a, rfl, a, _, rfl, .inl (s1.seq hS), _, rfl, ?_⟩
      rw [List.length_map]
      refine ⟨by omega, by omega, ?_⟩
      rw [Int.toNat_natCast]
      refine for_range (lo := 0) (n := ns.length) (fun i σ H2 => ∃ (ds : List Int) (y1 y2 y3 : Option V), σ = [some (.int c), some (.ref a), none, none, some (.ref o), y1, y2, y3] ∧ Same H H2 ∧ H2 o = some (.lst (ds.map V.int)) ∧ Within ds (ns.take i))
        ⟨[], none, none, none, rfl, s1, upd_same, Within.zero ns⟩ ?_ ?_
      · rintro i σ H2 hi ⟨ds, y1, y2, y3, rfl, s, hD, w⟩
        have hin : ns[i]? = some ns[i] := List.getElem?_eq_getElem hi
        obtain ⟨n0, n1⟩ := hn ns[i] (List.getElem_mem hi)
        refine ⟨_, rfl, _, _, rfl, rfl, .inr ⟨by decide, by decide⟩, _, rfl, _, _, rfl, rfl, _, _, rfl, rfl, .inr ⟨by decide, by decide⟩, _, _, rfl, rfl, .inl ⟨_, rfl, _, _, rfl, rfl, (show (0 : Int) < 2147483647 by decide), ?_⟩⟩
        refine ⟨_, rfl, _, _, rfl, rfl, .inr ⟨by decide, by decide⟩, _, rfl, _, _, rfl, rfl, _, _, rfl, rfl, .inr ⟨by decide, by decide⟩, _, _, rfl, rfl, .inl ⟨_, rfl, _, _, rfl, rfl, (show (0 : Int) < 2147483399 by decide), ?_⟩⟩
        refine ⟨_, rfl, _, _, rfl, rfl, .inr ⟨by decide, by decide⟩, _, rfl, _, _, rfl, rfl, _, _, rfl, rfl, .inr ⟨by decide, by decide⟩, _, _, rfl, rfl, .inl ⟨_, rfl, _, _, rfl, rfl, (show (0 : Int) < 2147483563 by decide), ?_⟩⟩
        refine ⟨_, rfl, _, _, rfl, rfl, .inr ⟨by decide, by decide⟩, _, rfl, _, _, rfl, rfl, .inl ⟨_, rfl, _, _, rfl, rfl, (show (0 : Int) < 2147483587 by decide), ?_⟩⟩
        refine ⟨.ref o, rfl, .inl ⟨rfl, _, lst_l hD⟩, _, rfl, _, _, rfl, rfl, .inr ⟨by decide, by decide⟩, _, rfl, _, _, rfl, rfl, .inl ⟨_, rfl, .ref a, rfl, .int (0 + (i : Int)), rfl, a, _, _, _, rfl, rfl, s.seq hS, at_of (Int.zero_add _) (int_at hin), _, _, rfl, rfl, n0, o, _, _, rfl, rfl, hD, small w, ?_⟩⟩
        exact ⟨ds ++ [_], _, _, _, rfl, same_mut s no, by rw [upd_same, ← snoc_int], w.step hin (Int.emod_nonneg _ (by omega)) (Int.emod_lt_of_pos _ n0)⟩
      · rintro σ H2 ⟨ds, y1, y2, y3, rfl, s, hD, w⟩
        exact ⟨_, rfl, q ds H2 o w.full s no hD⟩
def sp__law_row (K : PySem.W.Frag) : Sp := fun vs H Q _ => ∃ (c : Int) (m : Nat), vs = [.int c, .int (m : Int)] ∧ m ≤ 900 ∧ ∀ (ns : List Int) (H' : Hp) (p : Addr), ns.length = m → (∀ n ∈ ns, 0 ≤ n ∧ n < 10 ^ 18 - 1) → Same H H' → H p = none → H' p = some (.lst (ns.map V.int)) → Q (.ref p) H'

theorem ok__law_row {f : Addr} {fd : FuncData} {C_Weighted C_Ratio C_BadNumber C_TooMany C_ZeroBottom C_BadLot C_Unsure : Addr} (F : Fun K "_law_row" "_law_row" s__law_row f fd) (T : Txt K mg C_Weighted C_Ratio C_BadNumber C_TooMany C_ZeroBottom C_BadLot C_Unsure) (m_int : mg "int" = none) (m_range : mg "range" = none) (c__law_draws : Cal P w K mg base CX0 1 "_law_draws" ["_law_cell_here", "_law_sizes"] (sp__law_draws K)) : FnOk P w K mg base CX0 2 f fd ["_law_cell_here", "_law_count"] (sp__law_row K) := by
  refine F.ok sc__law_row (fun vs H Q E h => ?_) (fun cdv A outer s H vs Q E hr h => ?_)
  · obtain ⟨c, m, rfl, _⟩ := h
    rfl
  · obtain ⟨c, m, rfl, hm, q⟩ := h
    obtain ⟨f__law_draws, fd__law_draws, G__law_draws, m__law_draws, k__law_draws, b__law_draws⟩ := c__law_draws
    refine ⟨_, (pss_cons (ps_set (i := 2) sc__law_row.nd rfl (Or.inl rfl) (pe_call G__law_draws (hr.mono (by decide)) (by rfl) m__law_draws k__law_draws b__law_draws .nil pass0 (pa_cons (pv 0) (pa_cons (pe_op op_cat (pe_lst (pa_cons pe_int pa_nil)) (pe_lc (own := [("_law_k", 5)]) (g := (gName 5)) (tt := tYes) rfl sc__law_row.nd (pi_range1 (by rfl) m_range (pa_cons (pv 1) pa_nil)) (blkOk_by (own := [("_law_k", 5)]) (N := ["_law_cell_here", "_law_count", "_law_drawn", "_law_bound", "_law_value", "_law_k"]) (sc := defScope s__law_row) (by decide +kernel)) (fun _ _ _ _ _ => (pg_name (i := 5) sc__law_row.nd rfl (Or.inl rfl))) (fun _ _ _ _ _ => pts_nil) (fun _ _ _ _ _ => (pe_op op_pow pe_int pe_int)))) pa_nil))))
      (pss_cons (ps_set (i := 3) sc__law_row.nd rfl (Or.inr rfl) (pe_ix ix_list (pe_lst (pa_cons pe_int (pa_cons pe_int (pa_cons (pe_op op_pow pe_int pe_int) (pa_cons (pe_op op_sub (pe_op op_pow pe_int pe_int) pe_int) pa_nil))))) (pe_ix ix_list (pv 2) pe_int (fun _ _ => rfl)) (fun _ _ => rfl)))
      (pss_one (ps_ret (pe_lc (own := [("_law_value", 4)]) (g := (gName 4)) (tt := tYes) rfl sc__law_row.nd (pi_list (pe_slice sl_list (pv 2) (po_some pe_int) po_none)) (blkOk_by (own := [("_law_value", 4)]) (N := ["_law_cell_here", "_law_count", "_law_drawn", "_law_bound", "_law_value", "_law_k"]) (sc := defScope s__law_row) (by decide +kernel)) (fun _ _ _ _ _ => (pg_name (i := 4) sc__law_row.nd rfl (Or.inl rfl))) (fun _ _ _ _ _ => pts_nil) (fun _ _ _ _ _ => (pe_op op_mod (pe_callTy call_int1 (by rfl) m_int (by decide +kernel) (pa_cons (pv 4) pa_nil)) (pv 3)))))))), ?_⟩
    -- draws(cell, [4] + [10 ** 18 for k in range(count)])
    refine ⟨_, rfl, small1000 (by decide), fun p1 n1 => ?_⟩
    have s1 : Same H (upd H p1 (.lst [V.int 4])) := same_upd n1
    refine ⟨_, rfl, _, rfl, by omega, by omega, ?_⟩
    rw [Int.toNat_natCast]
    refine fun D nD => lc_range (lo := 0) (n := m) (fun i H2 => Same (upd H p1 (.lst [V.int 4])) H2 ∧ H2 D = some (.lst ((List.replicate i (10 ^ 18 : Int)).map V.int))) ⟨same_upd nD, upd_same⟩ ?_ ?_
    · rintro i H2 hi ⟨s, hD⟩
      refine ⟨rfl, ?_⟩
      refine lc_yes ?_
      refine iteT ?_
      refine ⟨10, 18, rfl, rfl, ⟨by decide, by decide, by decide⟩, _, hD, ?_, same_mut s nD, ?_⟩
      · rw [List.length_map, List.length_replicate]
        exact small1000 (by omega)
      · rw [upd_same, List.replicate_succ', ← snoc_int]
        rfl
    rintro H2 ⟨s2, hD⟩
    refine ⟨p1, D, _, _, rfl, rfl, s2 _ _ upd_same, hD, ?_, fun p3 n3 => ?_⟩
    · rw [List.length_map, List.length_replicate]
      exact Nat.le_of_lt (small1000 (by show 1 + m ≤ 1000; omega))
    have s3 : Same H (upd H2 p3 (.lst ((4 :: List.replicate m (10 ^ 18 : Int)).map V.int))) := (s1.trans s2).trans (same_upd n3)
    refine ⟨c, p3, 4 :: List.replicate m (10 ^ 18 : Int), rfl, lst_l upd_same, ?_, ?_, fun ds H4 d w s4 nd hd => ?_⟩
    · intro n hn
      rcases List.mem_cons.mp hn with rfl | hn
      · decide
      · rw [(List.mem_replicate.mp hn).2]
        exact big18
    · rw [List.length_cons, List.length_replicate]
      omega
    obtain ⟨d0, r, rfl, l0, u0, w⟩ := w.c
    have hr : r.length = m := by
      rw [w.len, List.length_replicate]
    have hL : SqL K H4 d ((d0 :: r).map V.int) := lst_l hd
    have sH : Same H H4 := s3.trans s4
    -- bound = [4, 30, 10 ** 9, 10 ** 18 - 1][drawn[0]]
    refine ⟨10, 9, rfl, rfl, ⟨by decide, by decide, by decide⟩, 10, 18, rfl, rfl, ⟨by decide, by decide, by decide⟩, _, _, rfl, rfl, small1000 (by decide), fun p5 n5 => ?_⟩
    obtain ⟨b, hb, b0, b1⟩ : ∃ b : Int, atI [V.int 4, V.int 30, V.int (10 ^ 9), V.int (10 ^ 18 - 1)] d0 = some (V.int b) ∧ 0 < b ∧ b ≤ 10 ^ 18 - 1 := by
      rcases (by omega : d0 = 0 ∨ d0 = 1 ∨ d0 = 2 ∨ d0 = 3) with rfl | rfl | rfl | rfl
      · exact ⟨4, rfl, by decide, by decide⟩
      · exact ⟨30, rfl, by decide, by decide⟩
      · exact ⟨10 ^ 9, rfl, by decide, by decide⟩
      · exact ⟨10 ^ 18 - 1, rfl, by decide, by decide⟩
    have s5 := same_upd (o := .lst [V.int 4, V.int 30, V.int (10 ^ 9), V.int (10 ^ 18 - 1)]) n5
    refine ⟨.ref d, rfl, d, _, _, .int d0, rfl, rfl, s5.seq hL, atI_nat (j := 0) rfl, p5, _, _, .int b, rfl, rfl, lst_l upd_same, hb, ?_⟩
    -- [int(value) % bound for value in drawn[1:]]
    refine ⟨.ref d, rfl, 1, rfl, d, _, rfl, s5.seq hL, fun p6 n6 => ?_⟩
    rw [cut_from1]
    have s6 := same_upd (o := .lst (((d0 :: r).map V.int).drop 1)) n6
    have sT : Same H _ := (sH.trans s5).trans s6
    refine ⟨p6, rfl, ⟨r.map V.int, lst_l upd_same⟩, fun D nD => lc_list (K := K) (a := p6) (xs := r.map V.int) (fun i H2 => Same (upd (upd H4 p5 (.lst [V.int 4, V.int 30, V.int (10 ^ 9), V.int (10 ^ 18 - 1)])) p6 (.lst (((d0 :: r).map V.int).drop 1))) H2 ∧ H2 D = some (.lst (((r.take i).map fun v => v % b).map V.int))) ⟨same_upd nD, upd_same⟩ (fun i H2 _ ⟨s, _⟩ => s.seq (lst_l upd_same)) ?_ ?_⟩
    · rintro i x H2 hi ⟨s, hD⟩
      obtain ⟨n, rfl, hin⟩ := int_of hi
      refine ⟨rfl, ?_⟩
      refine lc_yes ?_
      refine iteT ?_
      refine ⟨_, rfl, .inl ⟨n, rfl, _, rfl, _, _, rfl, rfl, b0, _, hD, ?_, same_mut s nD, ?_⟩⟩
      · rw [List.length_map, List.length_map, List.length_take]
        exact small1000 (by omega)
      · rw [upd_same, List.take_add_one, hin, List.map_append, List.map_append]
        rfl
    · rintro H2 ⟨s, hD⟩
      rw [List.length_map, List.take_length] at hD
      refine q (r.map fun v => v % b) H2 D (by rw [List.length_map, hr]) ?_ (sT.trans s) (sT.free nD) hD
      intro n hn
      obtain ⟨x, _, rfl⟩ := List.mem_map.mp hn
      have h1 := Int.emod_nonneg x (show b ≠ 0 by omega)
      have h2 := Int.emod_lt_of_pos x b0
      omega
def sp__law_lot (K : PySem.W.Frag) : Sp := fun vs H Q _ => ∃ (b : Int) (m : Nat), vs = [.int b, .int (m : Int)] ∧ m ≤ 1000 ∧ ∀ H' p, Same H H' → H p = none → H' p = some (.tup ((lotOf b m).map V.int)) → Q (.ref p) H'

theorem ok__law_lot {f : Addr} {fd : FuncData} {C_Weighted C_Ratio C_BadNumber C_TooMany C_ZeroBottom C_BadLot C_Unsure : Addr} (F : Fun K "_law_lot" "_law_lot" s__law_lot f fd) (T : Txt K mg C_Weighted C_Ratio C_BadNumber C_TooMany C_ZeroBottom C_BadLot C_Unsure) (m_int : mg "int" = none) (m_range : mg "range" = none) (m_tuple : mg "tuple" = none) : FnOk P w K mg base CX0 1 f fd ["_law_bits", "_law_many"] (sp__law_lot K) := by
  refine F.ok sc__law_lot (fun vs H Q E h => ?_) (fun cdv A outer s H vs Q E hr h => ?_)
  · obtain ⟨b, m, rfl, _⟩ := h
    rfl
  · obtain ⟨b, m, rfl, hm, q⟩ := h
    refine ⟨_, (pss_cons (ps_set (i := 2) sc__law_lot.nd rfl (Or.inl rfl) (pe_lst pa_nil))
      (pss_cons (ps_set (i := 3) sc__law_lot.nd rfl (Or.inl rfl) (pe_callTy call_int1 (by rfl) m_int (by decide +kernel) (pa_cons (pv 0) pa_nil)))
      (pss_cons (ps_for PassesOwn.never rfl (pi_range1 (by rfl) m_range (pa_cons (pv 1) pa_nil)) (pg_name (i := 4) sc__law_lot.nd rfl (Or.inl rfl))
      (Evl.pss_cut (ps_if (pt_cmpR op_eq (pe_op op_mod (pv 3) pe_int) pe_int (nomark _)) (pss_one (ps_expr (pe_bm PySem.F.plainAttrs_list PySem.F.slot_list_append PySem.F.type_list_append mt_append (pv 2) (pa_cons (pv 4) pa_nil)))) pss_nil)
      (pss_one (ps_set (i := 3) sc__law_lot.nd rfl (Or.inl rfl) (pe_op op_fdivW (pv 3) pe_int)))))
      (pss_one (ps_ret (pe_callTy call_tuple_of (by rfl) m_tuple (by decide +kernel) (pa_cons (pv 2) pa_nil))))))), ?_⟩
    refine ⟨Nat.zero_le _, fun o no => ?_⟩
    refine ⟨_, rfl, .inl ⟨b, rfl, ?_⟩⟩
    refine ⟨_, rfl, _, rfl, by omega, by omega, ?_⟩
    rw [Int.toNat_natCast]
    refine for_range (lo := 0) (n := m) (fun i σ H2 => ∃ (y : Option V), σ = [some (.int b), some (.int (m : Int)), some (.ref o), some (.int (b / 2 ^ i)), y] ∧ Same H H2 ∧ H2 o = some (.lst ((lotOf b i).map V.int))) ⟨none, ?_, same_upd no, upd_same⟩ ?_ ?_
    · show [some (V.int b), some (V.int (m : Int)), some (V.ref o), some (V.int b), none] = [some (V.int b), some (V.int (m : Int)), some (V.ref o), some (V.int (b / 1)), none]
      rw [Int.ediv_one]
    · rintro i σ H2 hi ⟨y, rfl, s, hD⟩
      have hl : ((lotOf b i).map V.int).length < sizeLine := by
        rw [List.length_map]
        exact small1000 (Nat.le_trans (lotOf_len b i) (by omega))
      refine ⟨fun σ' H' => σ' = [some (.int b), some (.int (m : Int)), some (.ref o), some (.int (b / 2 ^ i)), some (.int (0 + (i : Int)))] ∧ Same H H' ∧ H' o = some (.lst ((lotOf b (i + 1)).map V.int)), ?_, ?_⟩
      · refine ⟨_, rfl, _, _, rfl, rfl, (show (0 : Int) < 2 by decide), rfl, _, rfl, ite2 (fun e => ?_) (fun e => ?_)⟩
        · have e : b / 2 ^ i % 2 = 1 := V.int.inj (of_decide_eq_true e)
          refine ⟨.ref o, rfl, .inl ⟨rfl, _, lst_l hD⟩, _, rfl, o, _, _, rfl, rfl, hD, hl, rfl, same_mut s no, ?_⟩
          rw [upd_same]
          show _ = some (HO.lst ((lotOf b i ++ (if b / 2 ^ i % 2 = 1 then [(i : Int)] else [])).map V.int))
          rw [if_pos e, ← snoc_int, Int.zero_add]
        · have e : ¬ b / 2 ^ i % 2 = 1 := fun z => e (decide_eq_true (congrArg V.int z))
          refine ⟨rfl, s, ?_⟩
          show _ = some (HO.lst ((lotOf b i ++ (if b / 2 ^ i % 2 = 1 then [(i : Int)] else [])).map V.int))
          rw [if_neg e, List.append_nil]
          exact hD
      · rintro σ' H' ⟨rfl, s', hD'⟩
        refine ⟨_, rfl, _, _, rfl, rfl, ⟨by decide, by decide⟩, some (.int (0 + (i : Int))), ?_, s', hD'⟩
        dsimp only
        rw [half]
        rfl
    · rintro σ H2 ⟨y, rfl, s, hD⟩
      exact ⟨.ref o, rfl, o, _, rfl, .inl ⟨lst_l hD, fun p np => q _ p (same_mut s (s.free np)) (s.free np) upd_same⟩⟩
def sp__law_is_int : Sp := fun vs H Q _ => ∃ v : Int, vs = [.int v] ∧ Q (.bl true) H
theorem ok__law_is_int {f : Addr} {fd : FuncData} {C_Weighted C_Ratio C_BadNumber C_TooMany C_ZeroBottom C_BadLot C_Unsure : Addr} (F : Fun K "_law_is_int" "_law_is_int" s__law_is_int f fd) (T : Txt K mg C_Weighted C_Ratio C_BadNumber C_TooMany C_ZeroBottom C_BadLot C_Unsure) (m_bool : mg "bool" = none) (m_int : mg "int" = none) (m_isinstance : mg "isinstance" = none) : FnOk P w K mg base CX0 1 f fd ["_law_x"] sp__law_is_int := by
  refine F.ok sc__law_is_int (fun vs H Q E h => ?_) (fun cdv A outer s H vs Q E hr h => ?_)
  · obtain ⟨v, rfl, _⟩ := h
    rfl
  · obtain ⟨v, rfl, q⟩ := h
    refine ⟨_, (pss_one (ps_ret (pe_and (pe_callB call_isi (by rfl) m_isinstance (by decide +kernel) (pa_cons (pv 0) (pa_cons (pe_bltn (v := .ty "int") (by rfl) m_int (by decide +kernel) rfl) pa_nil))) (pe_one (pe_not (pe_callB call_isi (by rfl) m_isinstance (by decide +kernel) (pa_cons (pv 0) (pa_cons (pe_bltn (v := .ty "bool") (by rfl) m_bool (by decide +kernel) rfl) pa_nil)))))))), ?_⟩
    exact ⟨_, rfl, .int v, .ty "int", _, _, true, rfl, .ty "int", .base (.int v), kit_ty kI, true, rfl, iteT ⟨_, rfl, .int v, .ty "bool", _, _, false, rfl, .ty "bool", .base (.int v), kit_ty kB, false, rfl, q⟩⟩
def sp__law_is_ratio (C : Addr) : Sp := fun vs H Q _ => ∃ (p : Addr) (T B : Int), vs = [.ref p] ∧ RatAt C H p T B ∧ 0 < B ∧ Q (.bl true) H
theorem ok__law_is_ratio {f : Addr} {fd : FuncData} {C_Weighted C_Ratio C_BadNumber C_TooMany C_ZeroBottom C_BadLot C_Unsure : Addr} (F : Fun K "_law_is_ratio" "_law_is_ratio" s__law_is_ratio f fd) (T : Txt K mg C_Weighted C_Ratio C_BadNumber C_TooMany C_ZeroBottom C_BadLot C_Unsure) (m_isinstance : mg "isinstance" = none) (c__law_is_int : Cal P w K mg base CX0 1 "_law_is_int" ["_law_x"] sp__law_is_int) : FnOk P w K mg base CX0 2 f fd ["_law_x"] (sp__law_is_ratio C_Ratio) := by
  refine F.ok sc__law_is_ratio (fun vs H Q E h => ?_) (fun cdv A outer s H vs Q E hr h => ?_)
  · obtain ⟨p, T1, B, rfl, _⟩ := h
    rfl
  · obtain ⟨p, T1, B, rfl, ⟨dx, hp⟩, pos, q⟩ := h
    obtain ⟨f__law_is_int, fd__law_is_int, G__law_is_int, m__law_is_int, k__law_is_int, b__law_is_int⟩ := c__law_is_int
    refine ⟨_, (pss_cons (ps_if (pt_not (pt_val (pe_callB call_isi (by rfl) m_isinstance (by decide +kernel) (pa_cons (pv 0) (pa_cons (pe_glob (v := .ref C_Ratio) (by rfl) T.g_Ratio rfl) pa_nil))))) (pss_one (ps_ret pe_bl)) pss_nil)
      (pss_one (ps_ret (pe_and (pe_call G__law_is_int (hr.mono (by decide)) (by rfl) m__law_is_int k__law_is_int b__law_is_int .nil pass0 (pa_cons (pe_fld (pv 0) rfl) pa_nil)) (pe_and (pe_call G__law_is_int (hr.mono (by decide)) (by rfl) m__law_is_int k__law_is_int b__law_is_int .nil pass0 (pa_cons (pe_fld (pv 0) rfl) pa_nil)) (pe_one (pe_cmpR op_ge (pe_fld (pv 0) rfl) pe_int (nomark _)))))))), ?_⟩
    refine ⟨.ref p, rfl, .ref p, .ref C_Ratio, .ref C_Ratio, .ref C_Ratio, true, rfl, .own C_Ratio, .base (.ins hp T.cl_Ratio T.ha_Ratio T.hnc T.htk T.hm_Ratio), T.kit_Ratio_Ratio, true, rfl, iteF ?_⟩
    refine ⟨.ref p, rfl, p, C_Ratio, dx, _, _, rfl, hp, T.cl_Ratio, T.n_Ratio_top, rF_top T1 B, T1, rfl, true, rfl, iteT ?_⟩
    refine ⟨.ref p, rfl, p, C_Ratio, dx, _, _, rfl, hp, T.cl_Ratio, T.n_Ratio_bottom, rF_bot T1 B, B, rfl, true, rfl, iteT ?_⟩
    refine ⟨.ref p, rfl, p, C_Ratio, dx, _, _, rfl, hp, T.cl_Ratio, T.n_Ratio_bottom, rF_bot T1 B, _, _, rfl, rfl, ?_⟩
    show Q (.bl (decide (B ≥ 1))) H
    rw [decide_eq_true (show B ≥ 1 by omega)]
    exact q
def sp__law_same (C : Addr) : Sp := fun vs H Q _ => ∃ (p : Addr) (T B t b : Int), vs = [.ref p, .int t, .int b] ∧ RatAt C H p T B ∧ 0 < B ∧ T * b = t * B ∧ CMulW T b ∧ CMulW t B ∧ Q (.bl true) H
theorem ok__law_same {f : Addr} {fd : FuncData} {C_Weighted C_Ratio C_BadNumber C_TooMany C_ZeroBottom C_BadLot C_Unsure : Addr} (F : Fun K "_law_same" "_law_same" s__law_same f fd) (T : Txt K mg C_Weighted C_Ratio C_BadNumber C_TooMany C_ZeroBottom C_BadLot C_Unsure) (m_isinstance : mg "isinstance" = none) (c__law_is_int : Cal P w K mg base CX0 1 "_law_is_int" ["_law_x"] sp__law_is_int) : FnOk P w K mg base CX0 2 f fd ["_law_x", "_law_top", "_law_bottom"] (sp__law_same C_Ratio) := by
  refine F.ok sc__law_same (fun vs H Q E h => ?_) (fun cdv A outer s H vs Q E hr h => ?_)
  · obtain ⟨p, T1, B, t, b, rfl, _⟩ := h
    rfl
  · obtain ⟨p, T1, B, t, b, rfl, ⟨dx, hp⟩, pos, eq, m1, m2, q⟩ := h
    obtain ⟨f__law_is_int, fd__law_is_int, G__law_is_int, m__law_is_int, k__law_is_int, b__law_is_int⟩ := c__law_is_int
    refine ⟨_, (pss_cons (ps_if (pt_not (pt_val (pe_callB call_isi (by rfl) m_isinstance (by decide +kernel) (pa_cons (pv 0) (pa_cons (pe_glob (v := .ref C_Ratio) (by rfl) T.g_Ratio rfl) pa_nil))))) (pss_one (ps_ret pe_bl)) pss_nil)
      (pss_cons (ps_if (PW.pt (pw_or (pt_not (pt_val (pe_call G__law_is_int (hr.mono (by decide)) (by rfl) m__law_is_int k__law_is_int b__law_is_int .nil pass0 (pa_cons (pe_fld (pv 0) rfl) pa_nil)))) (pw_or (pt_not (pt_val (pe_call G__law_is_int (hr.mono (by decide)) (by rfl) m__law_is_int k__law_is_int b__law_is_int .nil pass0 (pa_cons (pe_fld (pv 0) rfl) pa_nil)))) (pw_or1 (pt_cmpR op_lt (pe_fld (pv 0) rfl) pe_int (nomark _)))))) (pss_one (ps_ret pe_bl)) pss_nil)
      (pss_one (ps_ret (pe_cmpR op_eq (pe_op op_mulW (pe_fld (pv 0) rfl) (pv 2)) (pe_op op_mulW (pv 1) (pe_fld (pv 0) rfl)) (nomark _)))))), ?_⟩
    refine ⟨.ref p, rfl, .ref p, .ref C_Ratio, .ref C_Ratio, .ref C_Ratio, true, rfl, .own C_Ratio, .base (.ins hp T.cl_Ratio T.ha_Ratio T.hnc T.htk T.hm_Ratio), T.kit_Ratio_Ratio, true, rfl, iteF ?_⟩
    refine ⟨.ref p, rfl, p, C_Ratio, dx, _, _, rfl, hp, T.cl_Ratio, T.n_Ratio_top, rF_top T1 B, T1, rfl, true, rfl, iteF ?_⟩
    refine ⟨.ref p, rfl, p, C_Ratio, dx, _, _, rfl, hp, T.cl_Ratio, T.n_Ratio_bottom, rF_bot T1 B, B, rfl, true, rfl, iteF ?_⟩
    refine ⟨.ref p, rfl, p, C_Ratio, dx, _, _, rfl, hp, T.cl_Ratio, T.n_Ratio_bottom, rF_bot T1 B, _, _, rfl, rfl, _, rfl, ?_⟩
    rw [decide_eq_false (show ¬ B < 1 by omega)]
    refine iteF ?_
    refine ⟨.ref p, rfl, p, C_Ratio, dx, _, _, rfl, hp, T.cl_Ratio, T.n_Ratio_top, rF_top T1 B, .int b, rfl, T1, b, rfl, rfl, m1, .int t, rfl, .ref p, rfl, p, C_Ratio, dx, _, _, rfl, hp, T.cl_Ratio, T.n_Ratio_bottom, rF_bot T1 B, t, B, rfl, rfl, m2, rfl, ?_⟩
    rw [decide_eq_true (congrArg V.int eq)]
    exact q
def sp__law_same_lot (K : PySem.W.Frag) : Sp := fun vs H Q _ => ∃ (a b : Addr) (ns : List Int), vs = [.ref a, .ref b] ∧ H a = some (.tup (ns.map V.int)) ∧ (SqL K H b (ns.map V.int) ∨ SqT K H b (ns.map V.int)) ∧ ns.length ≤ 1000 ∧ Q (.bl true) H
theorem ok__law_same_lot {f : Addr} {fd : FuncData} {C_Weighted C_Ratio C_BadNumber C_TooMany C_ZeroBottom C_BadLot C_Unsure : Addr} (F : Fun K "_law_same_lot" "_law_same_lot" s__law_same_lot f fd) (T : Txt K mg C_Weighted C_Ratio C_BadNumber C_TooMany C_ZeroBottom C_BadLot C_Unsure) (m_isinstance : mg "isinstance" = none) (m_len : mg "len" = none) (m_range : mg "range" = none) (m_tuple : mg "tuple" = none) (c__law_is_int : Cal P w K mg base CX0 1 "_law_is_int" ["_law_x"] sp__law_is_int) : FnOk P w K mg base CX0 2 f fd ["_law_x", "_law_due"] (sp__law_same_lot K) := by
  refine F.ok sc__law_same_lot (fun vs H Q E h => ?_) (fun cdv A outer s H vs Q E hr h => ?_)
  · obtain ⟨a, b, ns, rfl, _⟩ := h
    rfl
  · obtain ⟨a, b, ns, rfl, hA, hB, hlen, q⟩ := h
    obtain ⟨f__law_is_int, fd__law_is_int, G__law_is_int, m__law_is_int, k__law_is_int, b__law_is_int⟩ := c__law_is_int
    refine ⟨_, (pss_cons (ps_if (PW.pt (pw_or (pt_not (pt_val (pe_callB call_isi (by rfl) m_isinstance (by decide +kernel) (pa_cons (pv 0) (pa_cons (pe_bltn (v := .ty "tuple") (by rfl) m_tuple (by decide +kernel) rfl) pa_nil))))) (pw_or1 (pt_cmpR op_ne (pe_callB call_len_seq (by rfl) m_len (by decide +kernel) (pa_cons (pv 0) pa_nil)) (pe_callB call_len_seq (by rfl) m_len (by decide +kernel) (pa_cons (pv 1) pa_nil)) (nomark _))))) (pss_one (ps_ret pe_bl)) pss_nil)
      (pss_cons (ps_for PassesOwn.never rfl (pi_range1 (by rfl) m_range (pa_cons (pe_callB call_len_seq (by rfl) m_len (by decide +kernel) (pa_cons (pv 1) pa_nil)) pa_nil)) (pg_name (i := 2) sc__law_same_lot.nd rfl (Or.inl rfl))
      (pss_one (ps_if (PW.pt (pw_or (pt_not (pt_val (pe_call G__law_is_int (hr.mono (by decide)) (by rfl) m__law_is_int k__law_is_int b__law_is_int .nil pass0 (pa_cons (pe_ix ix_tup (pv 0) (pv 2) (fun _ _ => rfl)) pa_nil)))) (pw_or1 (pt_cmpR op_ne (pe_ix ix_tup (pv 0) (pv 2) (fun _ _ => rfl)) (pe_ix ix_seq (pv 1) (pv 2) (fun _ _ => rfl)) (nomark _))))) (pss_one (ps_ret pe_bl)) pss_nil)))
      (pss_one (ps_ret pe_bl)))), ?_⟩
    have hA' : SqT K H a (ns.map V.int) := tup_t hA
    rcases hB with hB | hB
    · refine ⟨_, rfl, .ref a, .ty "tuple", _, _, true, rfl, .ty "tuple", .base (.tup hA), kit_ty kT, true, rfl, iteF ?_⟩
      refine ⟨.ref a, rfl, a, _, rfl, .inr hA', .ref b, rfl, b, _, rfl, .inl hB, rfl, _, rfl, iteNS rfl ?_⟩
      refine ⟨.ref b, rfl, b, _, rfl, .inl hB, _, rfl, ?_⟩
      rw [List.length_map]
      refine ⟨by omega, by omega, ?_⟩
      rw [Int.toNat_natCast]
      refine for_range (lo := 0) (n := ns.length) (fun i σ H2 => ∃ (y : Option V), σ = [some (.ref a), some (.ref b), y] ∧ H2 = H) ⟨none, rfl, rfl⟩ ?_ ?_
      · rintro i σ H2 hi ⟨y, rfl, rfl⟩
        have hin : (ns.map V.int)[i]? = some (.int ns[i]) := int_at (List.getElem?_eq_getElem hi)
        refine ⟨.ref a, rfl, .int (0 + (i : Int)), rfl, a, _, _, _, rfl, rfl, hA', at_of (Int.zero_add _) hin, ns[i], rfl, true, rfl, iteF ?_⟩
        refine ⟨.ref a, rfl, .int (0 + (i : Int)), rfl, a, _, _, _, rfl, rfl, hA', at_of (Int.zero_add _) hin, .ref b, rfl, .int (0 + (i : Int)), rfl, .inl ⟨b, _, _, _, rfl, rfl, hB, at_of (Int.zero_add _) hin, rfl, _, rfl, iteNS rfl ?_⟩⟩
        exact ⟨_, rfl, rfl⟩
      · rintro σ H2 ⟨y, rfl, rfl⟩
        exact q
    · refine ⟨_, rfl, .ref a, .ty "tuple", _, _, true, rfl, .ty "tuple", .base (.tup hA), kit_ty kT, true, rfl, iteF ?_⟩
      refine ⟨.ref a, rfl, a, _, rfl, .inr hA', .ref b, rfl, b, _, rfl, .inr hB, rfl, _, rfl, iteNS rfl ?_⟩
      refine ⟨.ref b, rfl, b, _, rfl, .inr hB, _, rfl, ?_⟩
      rw [List.length_map]
      refine ⟨by omega, by omega, ?_⟩
      rw [Int.toNat_natCast]
      refine for_range (lo := 0) (n := ns.length) (fun i σ H2 => ∃ (y : Option V), σ = [some (.ref a), some (.ref b), y] ∧ H2 = H) ⟨none, rfl, rfl⟩ ?_ ?_
      · rintro i σ H2 hi ⟨y, rfl, rfl⟩
        have hin : (ns.map V.int)[i]? = some (.int ns[i]) := int_at (List.getElem?_eq_getElem hi)
        refine ⟨.ref a, rfl, .int (0 + (i : Int)), rfl, a, _, _, _, rfl, rfl, hA', at_of (Int.zero_add _) hin, ns[i], rfl, true, rfl, iteF ?_⟩
        refine ⟨.ref a, rfl, .int (0 + (i : Int)), rfl, a, _, _, _, rfl, rfl, hA', at_of (Int.zero_add _) hin, .ref b, rfl, .int (0 + (i : Int)), rfl, .inr <| .inl ⟨b, _, _, _, rfl, rfl, hB, at_of (Int.zero_add _) hin, rfl, _, rfl, iteNS rfl ?_⟩⟩
        exact ⟨_, rfl, rfl⟩
      · rintro σ H2 ⟨y, rfl, rfl⟩
        exact q
def sp__law_refused : Sp := fun vs H Q _ => ∃ (t u : Addr) (xs : List V), vs = [.ref t, .ref u] ∧ H t = some (.tup xs) ∧ H u = some (.tup xs) ∧ xs.length ≤ 3 ∧ (∀ (i : Nat) (v : V), xs[i]? = some v → (∃ s, v = .str s) ∨ v = .non ∨ ∃ n, v = .int n) ∧ Q (.bl true) H
theorem ok__law_refused {f : Addr} {fd : FuncData} {C_Weighted C_Ratio C_BadNumber C_TooMany C_ZeroBottom C_BadLot C_Unsure : Addr} (F : Fun K "_law_refused" "_law_refused" s__law_refused f fd) (T : Txt K mg C_Weighted C_Ratio C_BadNumber C_TooMany C_ZeroBottom C_BadLot C_Unsure) (m_isinstance : mg "isinstance" = none) (m_len : mg "len" = none) (m_range : mg "range" = none) (m_str : mg "str" = none) (c__law_is_int : Cal P w K mg base CX0 1 "_law_is_int" ["_law_x"] sp__law_is_int) : FnOk P w K mg base CX0 2 f fd ["_law_answer", "_law_due"] (sp__law_refused) := by
  refine F.ok sc__law_refused (fun vs H Q E h => ?_) (fun cdv A outer s H vs Q E hr h => ?_)
  · obtain ⟨t, u, xs, rfl, _⟩ := h
    rfl
  · obtain ⟨t, u, xs, rfl, ht, hu, lx, kd, q⟩ := h
    obtain ⟨f__law_is_int, fd__law_is_int, G__law_is_int, m__law_is_int, k__law_is_int, b__law_is_int⟩ := c__law_is_int
    refine ⟨_, (pss_cons (ps_if (pt_cmpR op_ne (pe_callB call_len_seq (by rfl) m_len (by decide +kernel) (pa_cons (pv 0) pa_nil)) (pe_callB call_len_seq (by rfl) m_len (by decide +kernel) (pa_cons (pv 1) pa_nil)) (nomark _)) (pss_one (ps_ret pe_bl)) pss_nil)
      (pss_cons (ps_for PassesOwn.never rfl (pi_range1 (by rfl) m_range (pa_cons (pe_callB call_len_seq (by rfl) m_len (by decide +kernel) (pa_cons (pv 1) pa_nil)) pa_nil)) (pg_name (i := 2) sc__law_refused.nd rfl (Or.inl rfl))
      (pss_one (ps_if (pt_cmpR op_isN (pe_ix ix_tup (pv 1) (pv 2) (fun _ _ => rfl)) pe_non (nomark _)) (pss_one (ps_if (pt_cmpR op_notN (pe_ix ix_tup (pv 0) (pv 2) (fun _ _ => rfl)) pe_non (nomark _)) (pss_one (ps_ret pe_bl)) pss_nil)) (pss_one (ps_if (pt_val (pe_callB call_isi (by rfl) m_isinstance (by decide +kernel) (pa_cons (pe_ix ix_tup (pv 1) (pv 2) (fun _ _ => rfl)) (pa_cons (pe_bltn (v := .ty "str") (by rfl) m_str (by decide +kernel) rfl) pa_nil)))) (pss_one (ps_if (PW.pt (pw_or (pt_not (pt_val (pe_callB call_isi (by rfl) m_isinstance (by decide +kernel) (pa_cons (pe_ix ix_tup (pv 0) (pv 2) (fun _ _ => rfl)) (pa_cons (pe_bltn (v := .ty "str") (by rfl) m_str (by decide +kernel) rfl) pa_nil))))) (pw_or1 (pt_cmpR op_ne (pe_ix ix_tup (pv 0) (pv 2) (fun _ _ => rfl)) (pe_ix ix_tup (pv 1) (pv 2) (fun _ _ => rfl)) (nomark _))))) (pss_one (ps_ret pe_bl)) pss_nil)) (pss_one (ps_if (PW.pt (pw_or (pt_not (pt_val (pe_call G__law_is_int (hr.mono (by decide)) (by rfl) m__law_is_int k__law_is_int b__law_is_int .nil pass0 (pa_cons (pe_ix ix_tup (pv 0) (pv 2) (fun _ _ => rfl)) pa_nil)))) (pw_or1 (pt_cmpR op_ne (pe_ix ix_tup (pv 0) (pv 2) (fun _ _ => rfl)) (pe_ix ix_tup (pv 1) (pv 2) (fun _ _ => rfl)) (nomark _))))) (pss_one (ps_ret pe_bl)) pss_nil)))))))
      (pss_one (ps_ret pe_bl)))), ?_⟩
    refine ⟨.ref t, rfl, t, _, rfl, .inr (tup_t ht), .ref u, rfl, u, _, rfl, .inr (tup_t hu), rfl, _, rfl, iteNS rfl ?_⟩
    refine ⟨.ref u, rfl, u, _, rfl, .inr (tup_t hu), _, rfl, by omega, by omega, ?_⟩
    rw [Int.toNat_natCast]
    refine for_range (lo := 0) (n := xs.length) (fun i σ H2 => ∃ (y : Option V), σ = [some (.ref t), some (.ref u), y] ∧ H2 = H) ⟨none, rfl, rfl⟩ ?_ ?_
    · rintro i σ H2 hi ⟨y, rfl, rfl⟩
      obtain ⟨v, g⟩ : ∃ v, xs[i]? = some v := ⟨_, List.getElem?_eq_getElem (by omega)⟩
      rcases kd i v g with ⟨s, rfl⟩ | rfl | ⟨n, rfl⟩
      · refine ⟨.ref u, rfl, .int (0 + (i : Int)), rfl, u, _, _, _, rfl, rfl, tup_t hu, at_of (Int.zero_add _) g, rfl, _, rfl, iteDF (fun z => by cases z) ?_⟩
        refine ⟨.ref u, rfl, .int (0 + (i : Int)), rfl, u, _, _, _, rfl, rfl, tup_t hu, at_of (Int.zero_add _) g, .str s, .ty "str", _, _, true, rfl, .ty "str", .base (.str _), kit_ty kSt, true, rfl, iteT ?_⟩
        refine ⟨.ref t, rfl, .int (0 + (i : Int)), rfl, t, _, _, _, rfl, rfl, tup_t ht, at_of (Int.zero_add _) g, .str s, .ty "str", _, _, true, rfl, .ty "str", .base (.str _), kit_ty kSt, true, rfl, iteF ?_⟩
        exact ⟨.ref t, rfl, .int (0 + (i : Int)), rfl, t, _, _, _, rfl, rfl, tup_t ht, at_of (Int.zero_add _) g, .ref u, rfl, .int (0 + (i : Int)), rfl, u, _, _, _, rfl, rfl, tup_t hu, at_of (Int.zero_add _) g, rfl, _, rfl, iteNS rfl ⟨_, rfl, rfl⟩⟩
      · refine ⟨.ref u, rfl, .int (0 + (i : Int)), rfl, u, _, _, _, rfl, rfl, tup_t hu, at_of (Int.zero_add _) g, rfl, _, rfl, iteD rfl ?_⟩
        exact ⟨.ref t, rfl, .int (0 + (i : Int)), rfl, t, _, _, _, rfl, rfl, tup_t ht, at_of (Int.zero_add _) g, rfl, _, rfl, iteNS rfl ⟨_, rfl, rfl⟩⟩
      · refine ⟨.ref u, rfl, .int (0 + (i : Int)), rfl, u, _, _, _, rfl, rfl, tup_t hu, at_of (Int.zero_add _) g, rfl, _, rfl, iteDF (fun z => by cases z) ?_⟩
        refine ⟨.ref u, rfl, .int (0 + (i : Int)), rfl, u, _, _, _, rfl, rfl, tup_t hu, at_of (Int.zero_add _) g, .int n, .ty "str", _, _, false, rfl, .ty "str", .base (.int _), kit_ty kIS, false, rfl, iteF ?_⟩
        refine ⟨.ref t, rfl, .int (0 + (i : Int)), rfl, t, _, _, _, rfl, rfl, tup_t ht, at_of (Int.zero_add _) g, n, rfl, true, rfl, iteF ?_⟩
        exact ⟨.ref t, rfl, .int (0 + (i : Int)), rfl, t, _, _, _, rfl, rfl, tup_t ht, at_of (Int.zero_add _) g, .ref u, rfl, .int (0 + (i : Int)), rfl, u, _, _, _, rfl, rfl, tup_t hu, at_of (Int.zero_add _) g, rfl, _, rfl, iteNS rfl ⟨_, rfl, rfl⟩⟩
    · rintro σ H2 ⟨y, rfl, rfl⟩
      exact q
def sp__law_bounds : Sp := fun vs H Q _ => ∃ (c1 c2 : Int) (m : Nat), vs = [.int c1, .int c2, .int (m : Int)] ∧ m ≤ 900 ∧ ∀ H' L us zs, Same H H' → H L = none → H' L = some (.lst (us.map V.ref)) → PrL H' us zs → zs.length = m → (∀ z ∈ zs, 1 ≤ z.1 ∧ z.1 ≤ z.2 ∧ z.2 ≤ 10 ^ 18) → Q (.ref L) H'
theorem ok__law_bounds {f : Addr} {fd : FuncData} {C_Weighted C_Ratio C_BadNumber C_TooMany C_ZeroBottom C_BadLot C_Unsure : Addr} (F : Fun K "_law_bounds" "_law_bounds" s__law_bounds f fd) (T : Txt K mg C_Weighted C_Ratio C_BadNumber C_TooMany C_ZeroBottom C_BadLot C_Unsure) (m_int : mg "int" = none) (m_range : mg "range" = none) (c__law_row : Cal P w K mg base CX0 2 "_law_row" ["_law_cell_here", "_law_count"] (sp__law_row K)) : FnOk P w K mg base CX0 3 f fd ["_law_low_cell", "_law_high_cell", "_law_count"] sp__law_bounds := by
  refine F.ok sc__law_bounds (fun vs H Q E h => ?_) (fun cdv A outer s H vs Q E hr h => ?_)
  · obtain ⟨c1, c2, m, rfl, _⟩ := h
    rfl
  · obtain ⟨c1, c2, m, rfl, m9, q⟩ := h
    obtain ⟨f__law_row, fd__law_row, G__law_row, m__law_row, k__law_row, b__law_row⟩ := c__law_row
    refine ⟨_, (pss_cons (ps_set (i := 3) sc__law_bounds.nd rfl (Or.inl rfl) (pe_call G__law_row (hr.mono (by decide)) (by rfl) m__law_row k__law_row b__law_row .nil pass0 (pa_cons (pv 0) (pa_cons (pv 2) pa_nil))))
      (pss_cons (ps_set (i := 4) sc__law_bounds.nd rfl (Or.inl rfl) (pe_call G__law_row (hr.mono (by decide)) (by rfl) m__law_row k__law_row b__law_row .nil pass0 (pa_cons (pv 1) (pa_cons (pv 2) pa_nil))))
      (pss_cons (ps_set (i := 5) sc__law_bounds.nd rfl (Or.inl rfl) (pe_lst pa_nil))
      (pss_cons (ps_for PassesOwn.never rfl (pi_range1 (by rfl) m_range (pa_cons (pv 2) pa_nil)) (pg_name (i := 6) sc__law_bounds.nd rfl (Or.inl rfl))
      (pss_cons (ps_set (i := 7) sc__law_bounds.nd rfl (Or.inl rfl) (pe_op op_add pe_int (pe_ix ix_list (pv 3) (pv 6) (fun _ _ => rfl))))
      (pss_one (ps_expr (pe_bm PySem.F.plainAttrs_list PySem.F.slot_list_append PySem.F.type_list_append mt_append (pv 5) (pa_cons (pe_tup (pa_cons (pv 7) (pa_cons (pe_op op_add (pv 7) (pe_op op_mod (pe_callTy call_int1 (by rfl) m_int (by decide +kernel) (pa_cons (pe_ix ix_list (pv 4) (pv 6) (fun _ _ => rfl)) pa_nil)) (pe_op op_sub (pe_op op_pow pe_int pe_int) (pv 7)))) pa_nil))) pa_nil))))))
      (pss_one (ps_ret (pv 5))))))), ?_⟩
    refine ⟨_, rfl, _, rfl, c1, m, rfl, m9, fun bs H1 B lB bB s1 nB hB => ?_⟩
    refine ⟨_, rfl, _, rfl, c2, m, rfl, m9, fun es H2 X lX bX s2 nX hX => ?_⟩
    have hB := s2 _ _ hB
    have s2 := s1.trans s2
    refine ⟨Nat.zero_le _, fun L nL => ?_⟩
    refine ⟨_, rfl, _, rfl, by omega, by omega, ?_⟩
    rw [Int.toNat_natCast]
    refine for_range (lo := 0) (n := m) (fun i σ H' => ∃ (us : List Addr) (zs : List (Int × Int)) (y1 y2 : Option V), σ = [some (.int c1), some (.int c2), some (.int (m : Int)), some (.ref B), some (.ref X), some (.ref L), y1, y2] ∧ Same H2 H' ∧ H' L = some (.lst (us.map V.ref)) ∧ PrL H' us zs ∧ zs.length = i ∧ (∀ z ∈ zs, 1 ≤ z.1 ∧ z.1 ≤ z.2 ∧ z.2 ≤ 10 ^ 18)) ⟨[], [], none, none, rfl, same_upd nL, upd_same, ⟨rfl, fun i u z h => by cases h⟩, rfl, fun z h => by cases h⟩ ?_ ?_
    · rintro i σ H9 hi ⟨us, zs, y1, y2, rfl, s9, hL, pr, lz, bz⟩
      have gB : (bs.map V.int)[i]? = some (.int bs[i]) := int_at (List.getElem?_eq_getElem (by omega))
      have gX : (es.map V.int)[i]? = some (.int es[i]) := int_at (List.getElem?_eq_getElem (by omega))
      have hb := bB _ (List.getElem_mem (show i < bs.length by omega))
      generalize bs[i] = b0 at gB hb
      generalize es[i] = e0 at gX
      refine ⟨_, rfl, _, rfl, B, _, _, _, rfl, rfl, lst_l (s9 _ _ hB), at_of (Int.zero_add _) gB, _, _, rfl, rfl, ?_⟩
      refine ⟨_, rfl, .inl ⟨rfl, _, lst_l hL⟩, ?_⟩
      refine ⟨_, rfl, _, rfl, _, rfl, _, rfl, X, _, _, _, rfl, rfl, lst_l (s9 _ _ hX), at_of (Int.zero_add _) gX, .inl ⟨_, rfl, 10, 18, rfl, rfl, ⟨by decide, by decide, by decide⟩, _, rfl, _, _, rfl, rfl, _, _, rfl, rfl, (by show (0 : Int) < 10 ^ 18 - (1 + b0); omega), _, _, rfl, rfl, (by show 2 ≤ sizeLine; decide), fun u nu => ?_⟩⟩
      have su := same_upd (o := .tup [V.int (1 + b0), V.int (1 + b0 + e0 % (10 ^ (18 : Int).toNat - (1 + b0)))]) nu
      have hu := upd_same (H := H9) (a := u) (o := .tup [V.int (1 + b0), V.int (1 + b0 + e0 % (10 ^ (18 : Int).toNat - (1 + b0)))])
      have hL := su _ _ hL
      have pr := pr.same su
      refine ⟨L, _, _, rfl, rfl, hL, by rw [List.length_map, pr.1, lz]; exact small1000 (by omega), us ++ [u], zs ++ [(1 + b0, 1 + b0 + e0 % (10 ^ (18 : Int).toNat - (1 + b0)))], _, _, rfl, same_mut (s9.trans su) nL, by rw [upd_same, List.map_append]; rfl, (pr.snoc hu).put hL, by rw [List.length_append, lz]; rfl, fun z hz => ?_⟩
      rcases List.mem_append.mp hz with hz | hz
      · exact bz z hz
      · rw [List.mem_singleton.mp hz]
        have e18 : (10 ^ (18 : Int).toNat : Int) = 10 ^ 18 := rfl
        have h1 := Int.emod_nonneg e0 (show (10 ^ (18 : Int).toNat - (1 + b0) : Int) ≠ 0 by omega)
        have h2 := Int.emod_lt_of_pos e0 (show (0 : Int) < 10 ^ (18 : Int).toNat - (1 + b0) by omega)
        show 1 ≤ 1 + b0 ∧ 1 + b0 ≤ 1 + b0 + e0 % (10 ^ (18 : Int).toNat - (1 + b0)) ∧ 1 + b0 + e0 % (10 ^ (18 : Int).toNat - (1 + b0)) ≤ 10 ^ 18
        omega
    rintro σ H9 ⟨us, zs, y1, y2, rfl, s9, hL, pr, lz, bz⟩
    exact ⟨_, rfl, q H9 L us zs (s2.trans s9) (s2.free nL) hL pr lz bz⟩
def sp__law_within (K : PySem.W.Frag) : Sp := fun vs H Q _ => ∃ (c : Int) (L : Addr) (us : List Addr) (zs : List (Int × Int)), vs = [.int c, .ref L] ∧ H L = some (.lst (us.map V.ref)) ∧ PrL H us zs ∧ zs.length ≤ 900 ∧ (∀ z ∈ zs, 1 ≤ z.1 ∧ z.1 ≤ z.2 ∧ z.2 ≤ 10 ^ 18) ∧
  ∀ H' p (os : List Int), Same H H' → H' p = some (.lst (os.map V.int)) → os.length = zs.length → (∀ (i : Nat) (o : Int) (z : Int × Int), os[i]? = some o → zs[i]? = some z → z.1 ≤ o ∧ o ≤ z.2) → Q (.ref p) H'
theorem ok__law_within {f : Addr} {fd : FuncData} {C_Weighted C_Ratio C_BadNumber C_TooMany C_ZeroBottom C_BadLot C_Unsure : Addr} (F : Fun K "_law_within" "_law_within" s__law_within f fd) (T : Txt K mg C_Weighted C_Ratio C_BadNumber C_TooMany C_ZeroBottom C_BadLot C_Unsure) (m_int : mg "int" = none) (m_len : mg "len" = none) (m_range : mg "range" = none) (c__law_draws : Cal P w K mg base CX0 1 "_law_draws" ["_law_cell_here", "_law_sizes"] (sp__law_draws K)) : FnOk P w K mg base CX0 2 f fd ["_law_cell_here", "_law_couples"] (sp__law_within K) := by
  refine F.ok sc__law_within (fun vs H Q E h => ?_) (fun cdv A outer s H vs Q E hr h => ?_)
  · obtain ⟨c, L, us, zs, rfl, _⟩ := h
    rfl
  · obtain ⟨c, L, us, zs, rfl, hL, pr, m9, bz, q⟩ := h
    obtain ⟨f__law_draws, fd__law_draws, G__law_draws, m__law_draws, k__law_draws, b__law_draws⟩ := c__law_draws
    refine ⟨_, (pss_cons (ps_set (i := 2) sc__law_within.nd rfl (Or.inl rfl) (pe_call G__law_draws (hr.mono (by decide)) (by rfl) m__law_draws k__law_draws b__law_draws .nil pass0 (pa_cons (pv 0) (pa_cons (pe_lc (own := [("_law_couple", 5)]) (g := (gName 5)) (tt := tYes) rfl sc__law_within.nd (pi_list (pv 1)) (blkOk_by (own := [("_law_couple", 5)]) (N := ["_law_cell_here", "_law_couples", "_law_drawn", "_law_found", "_law_k", "_law_couple"]) (sc := defScope s__law_within) (by decide +kernel)) (fun _ _ _ _ _ => (pg_name (i := 5) sc__law_within.nd rfl (Or.inl rfl))) (fun _ _ _ _ _ => pts_nil) (fun _ _ _ _ _ => (pe_op op_pow pe_int pe_int))) pa_nil))))
      (pss_cons (ps_set (i := 3) sc__law_within.nd rfl (Or.inl rfl) (pe_lst pa_nil))
      (pss_cons (ps_for PassesOwn.never rfl (pi_range1 (by rfl) m_range (pa_cons (pe_callB call_len_seq (by rfl) m_len (by decide +kernel) (pa_cons (pv 1) pa_nil)) pa_nil)) (pg_name (i := 4) sc__law_within.nd rfl (Or.inl rfl))
      (pss_one (ps_expr (pe_bm PySem.F.plainAttrs_list PySem.F.slot_list_append PySem.F.type_list_append mt_append (pv 3) (pa_cons (pe_op op_add (pe_ix ix_tup (pe_ix ix_list (pv 1) (pv 4) (fun _ _ => rfl)) pe_int (fun _ _ => rfl)) (pe_op op_mod (pe_callTy call_int1 (by rfl) m_int (by decide +kernel) (pa_cons (pe_ix ix_list (pv 2) (pv 4) (fun _ _ => rfl)) pa_nil)) (pe_op op_add (pe_op op_sub (pe_ix ix_tup (pe_ix ix_list (pv 1) (pv 4) (fun _ _ => rfl)) pe_int (fun _ _ => rfl)) (pe_ix ix_tup (pe_ix ix_list (pv 1) (pv 4) (fun _ _ => rfl)) pe_int (fun _ _ => rfl))) pe_int))) pa_nil)))))
      (pss_one (ps_ret (pv 3)))))), ?_⟩
    have lu := pr.1
    refine ⟨_, rfl, _, rfl, L, rfl, ⟨_, lst_l hL⟩, fun D nD => lc_list (K := K) (a := L) (xs := us.map V.ref) (fun i H2 => Same H H2 ∧ H2 D = some (.lst ((List.replicate i (10 ^ 18 : Int)).map V.int))) ⟨same_upd nD, upd_same⟩ (fun i H2 _ ⟨s, _⟩ => lst_l (s _ _ hL)) ?_ ?_⟩
    · rintro i x H2 hi ⟨s, hD⟩
      have li := (List.getElem?_eq_some_iff.mp hi).1
      rw [List.length_map] at li
      refine ⟨rfl, ?_⟩
      refine lc_yes ?_
      refine iteT ?_
      refine ⟨10, 18, rfl, rfl, ⟨by decide, by decide, by decide⟩, _, hD, ?_, same_mut s nD, ?_⟩
      · rw [List.length_map, List.length_replicate]
        exact small1000 (by omega)
      · rw [upd_same, List.replicate_succ', ← snoc_int]
        rfl
    rintro H2 ⟨s2, hD⟩
    rw [List.length_map] at hD
    refine ⟨c, D, List.replicate us.length (10 ^ 18), rfl, lst_l hD, fun n hn => ?_, by rw [List.length_replicate]; omega, fun ds H3 d w s3 nd hd => ?_⟩
    · rw [(List.mem_replicate.mp hn).2]
      exact big18
    have ld : ds.length = zs.length := by rw [w.len, List.length_replicate, lu]
    have s13 := s2.trans s3
    refine ⟨Nat.zero_le _, fun F nF => ?_⟩
    refine ⟨_, rfl, L, _, rfl, .inl (lst_l ((s13.trans (same_upd nF)) _ _ hL)), _, rfl, ?_⟩
    rw [List.length_map, lu]
    refine ⟨by omega, by omega, ?_⟩
    rw [Int.toNat_natCast]
    refine for_range (lo := 0) (n := zs.length) (fun i σ H' => ∃ (os : List Int) (y1 y2 : Option V), σ = [some (.int c), some (.ref L), some (.ref d), some (.ref F), y1, y2] ∧ Same H3 H' ∧ H' F = some (.lst (os.map V.int)) ∧ os.length = i ∧ (∀ (i : Nat) (o : Int) (z : Int × Int), os[i]? = some o → zs[i]? = some z → z.1 ≤ o ∧ o ≤ z.2)) ⟨[], _, _, rfl, same_upd nF, upd_same, rfl, fun i o z h => by cases h⟩ ?_ ?_
    · rintro i σ H9 hi ⟨os, y1, y2, rfl, s9, hF, lo, bo⟩
      have s19 := s13.trans s9
      have hL := s19 _ _ hL
      have gu : us[i]? = some us[i] := List.getElem?_eq_getElem (by omega)
      have gz : zs[i]? = some zs[i] := List.getElem?_eq_getElem hi
      have gU : (us.map V.ref)[i]? = some (.ref us[i]) := by rw [List.getElem?_map, gu]; rfl
      have gd : (ds.map V.int)[i]? = some (.int ds[i]) := int_at (List.getElem?_eq_getElem (by omega))
      have hu := (pr.same s19).2 i _ _ gu gz
      have hz := bz _ (List.getElem_mem hi)
      generalize zs[i] = z0 at gz hu hz
      generalize ds[i] = d0 at gd
      have hF2 := hF
      refine ⟨_, rfl, .inl ⟨rfl, _, lst_l hF⟩, _, rfl, _, rfl, L, _, _, _, rfl, rfl, lst_l hL, at_of (Int.zero_add _) gU, us[i], _, _, _, rfl, rfl, tup_t hu, atI_nat (j := 0) rfl, _, rfl, _, rfl, d, _, _, _, rfl, rfl, lst_l (s9 _ _ hd), at_of (Int.zero_add _) gd, .inl ⟨_, rfl, _, rfl, _, rfl, L, _, _, _, rfl, rfl, lst_l hL, at_of (Int.zero_add _) gU, us[i], _, _, _, rfl, rfl, tup_t hu, atI_nat (j := 1) rfl, _, rfl, _, rfl, L, _, _, _, rfl, rfl, lst_l hL, at_of (Int.zero_add _) gU, us[i], _, _, _, rfl, rfl, tup_t hu, atI_nat (j := 0) rfl, _, _, rfl, rfl, _, _, rfl, rfl, _, _, rfl, rfl, (by show (0 : Int) < z0.2 - z0.1 + 1; omega), _, _, rfl, rfl, F, _, _, rfl, rfl, hF, ?_, os ++ [z0.1 + d0 % (z0.2 - z0.1 + 1)], _, _, rfl, same_mut s9 nF, by rw [upd_same, ← snoc_int], by rw [List.length_append, lo]; rfl, fun j o z ho hz2 => ?_⟩⟩
      · rw [List.length_map, lo]
        exact small1000 (by omega)
      by_cases jl : j < os.length
      · rw [List.getElem?_append_left jl] at ho
        exact bo j o z ho hz2
      · have je : j = os.length := by
          have := (List.getElem?_eq_some_iff.mp ho).1
          rw [List.length_append] at this
          have : j < os.length + 1 := this
          omega
        subst je
        rw [List.getElem?_append_right (Nat.le_refl _), Nat.sub_self] at ho
        obtain rfl := Option.some.inj ho
        rw [lo] at hz2
        obtain rfl := Option.some.inj (gz.symm.trans hz2)
        have h1 := Int.emod_nonneg d0 (show z0.2 - z0.1 + 1 ≠ 0 by omega)
        have h2 := Int.emod_lt_of_pos d0 (show 0 < z0.2 - z0.1 + 1 by omega)
        omega
    rintro σ H9 ⟨os, y1, y2, rfl, s9, hF, lo, bo⟩
    exact ⟨_, rfl, q H9 F os (s13.trans s9) hF lo bo⟩
def sp__law_worth : Sp := fun vs H Q _ => ∃ (W P l : Addr) (ws ps ns : List Int) (b : Int), vs = [.ref W, .int b, .ref P, .ref l] ∧ H W = some (.lst (ws.map V.int)) ∧ H P = some (.lst (ps.map V.int)) ∧ (H l = some (.lst (ns.map V.int)) ∨ H l = some (.tup (ns.map V.int))) ∧ (∀ w ∈ ws, 1 ≤ w ∧ w ≤ 10 ^ 18) ∧ ps.length ≤ ws.length ∧ (∀ n ∈ ns, 0 ≤ n ∧ n < (ps.length : Int)) ∧
  ∀ H' t, Same H H' → H' t = some (.tup [.int (vSum ws ps ns), .int (b + wSum ws ns)]) → Q (.ref t) H' 
theorem ok__law_worth {f : Addr} {fd : FuncData} {C_Weighted C_Ratio C_BadNumber C_TooMany C_ZeroBottom C_BadLot C_Unsure : Addr} (F : Fun K "_law_worth" "_law_worth" s__law_worth f fd) (T : Txt K mg C_Weighted C_Ratio C_BadNumber C_TooMany C_ZeroBottom C_BadLot C_Unsure) : FnOk P w K mg base CX0 1 f fd ["_law_weights", "_law_apart", "_law_prices", "_law_lot_here"] sp__law_worth := by
  refine F.ok sc__law_worth (fun vs H Q E h => ?_) (fun cdv A outer s H vs Q E hr h => ?_)
  · obtain ⟨W, P, l, ws, ps, ns, b, rfl, _⟩ := h
    rfl
  · obtain ⟨W, P, l, ws, ps, ns, b, rfl, hW, hP, hl, hw, e, inl, q⟩ := h
    refine ⟨_, (pss_cons (ps_set (i := 4) sc__law_worth.nd rfl (Or.inl rfl) pe_int)
      (pss_cons (ps_set (i := 5) sc__law_worth.nd rfl (Or.inl rfl) (pv 1))
      (pss_cons (ps_for PassesOwn.never rfl (pi_Q (pv 3)) (pg_name (i := 6) sc__law_worth.nd rfl (Or.inl rfl))
      (pss_cons (ps_set (i := 4) sc__law_worth.nd rfl (Or.inl rfl) (pe_op op_add (pv 4) (pe_op op_mul (pe_ix ix_list (pv 0) (pv 6) (fun _ _ => rfl)) (pe_ix ix_list (pv 2) (pv 6) (fun _ _ => rfl)))))
      (pss_one (ps_set (i := 5) sc__law_worth.nd rfl (Or.inl rfl) (pe_op op_add (pv 5) (pe_ix ix_list (pv 0) (pv 6) (fun _ _ => rfl)))))))
      (pss_one (ps_ret (pe_tup (pa_cons (pv 4) (pa_cons (pv 5) pa_nil)))))))), ?_⟩
    refine ⟨_, rfl, ?_⟩
    rcases hl with hl | hl
    · refine ⟨_, rfl, l, rfl, .inl ⟨⟨_, lst_l hl⟩, for_list (K := K) (a := l) (xs := ns.map V.int) (fun i σ H2 => ∃ (y : Option V), σ = [some (.ref W), some (.int b), some (.ref P), some (.ref l), some (.int (vSum ws ps (ns.take i))), some (.int (b + wSum ws (ns.take i))), y] ∧ H2 = H) ⟨none, by rw [List.take_zero, show b + wSum ws [] = b from Int.add_zero b]; rfl, rfl⟩ (fun i σ H2 _ ⟨_, _, e⟩ => e ▸ lst_l hl) ?_ ?_⟩⟩
      · rintro i x σ H2 hi ⟨y, rfl, rfl⟩
        obtain ⟨n, rfl, hin⟩ := int_of hi
        have bn := inl n (List.mem_of_getElem? hin)
        have g0 : 0 ≤ ws.getD n.toNat 0 := getD_nn (fun w h => (hw w h).1) _
        have g1 := getD_le (fun w h => (hw w h).2) n.toNat
        refine ⟨_, rfl, .ref W, rfl, _, rfl, W, _, _, _, rfl, rfl, lst_l hW, ws_at (by omega) (by omega), .ref P, rfl, _, rfl, P, _, _, _, rfl, rfl, lst_l hP, ws_at (by omega) (by omega), _, _, rfl, rfl, .inl ⟨by omega, by omega⟩, _, _, rfl, rfl, ?_⟩
        refine ⟨_, rfl, .ref W, rfl, _, rfl, W, _, _, _, rfl, rfl, lst_l hW, ws_at (by omega) (by omega), _, _, rfl, rfl, some (.int n), ?_, rfl⟩
        rw [vSum_snoc ws ps ns hin, wSum_snoc ws ns hin, ← Int.add_assoc]
        rfl
      rintro σ H2 ⟨y, rfl, rfl⟩
      rw [List.length_map, List.take_length]
      exact ⟨_, rfl, _, rfl, (by show 2 ≤ sizeLine; decide), fun t nt => q _ t (same_upd nt) upd_same⟩
    · refine ⟨_, rfl, l, rfl, .inr ⟨⟨_, tup_t hl⟩, for_tup (K := K) (a := l) (xs := ns.map V.int) (fun i σ H2 => ∃ (y : Option V), σ = [some (.ref W), some (.int b), some (.ref P), some (.ref l), some (.int (vSum ws ps (ns.take i))), some (.int (b + wSum ws (ns.take i))), y] ∧ H2 = H) ⟨none, by rw [List.take_zero, show b + wSum ws [] = b from Int.add_zero b]; rfl, rfl⟩ (fun i σ H2 _ ⟨_, _, e⟩ => e ▸ tup_t hl) ?_ ?_⟩⟩
      · rintro i x σ H2 hi ⟨y, rfl, rfl⟩
        obtain ⟨n, rfl, hin⟩ := int_of hi
        have bn := inl n (List.mem_of_getElem? hin)
        have g0 : 0 ≤ ws.getD n.toNat 0 := getD_nn (fun w h => (hw w h).1) _
        have g1 := getD_le (fun w h => (hw w h).2) n.toNat
        refine ⟨_, rfl, .ref W, rfl, _, rfl, W, _, _, _, rfl, rfl, lst_l hW, ws_at (by omega) (by omega), .ref P, rfl, _, rfl, P, _, _, _, rfl, rfl, lst_l hP, ws_at (by omega) (by omega), _, _, rfl, rfl, .inl ⟨by omega, by omega⟩, _, _, rfl, rfl, ?_⟩
        refine ⟨_, rfl, .ref W, rfl, _, rfl, W, _, _, _, rfl, rfl, lst_l hW, ws_at (by omega) (by omega), _, _, rfl, rfl, some (.int n), ?_, rfl⟩
        rw [vSum_snoc ws ps ns hin, wSum_snoc ws ns hin, ← Int.add_assoc]
        rfl
      rintro σ H2 ⟨y, rfl, rfl⟩
      rw [List.length_map, List.take_length]
      exact ⟨_, rfl, _, rfl, (by show 2 ≤ sizeLine; decide), fun t nt => q _ t (same_upd nt) upd_same⟩
def sp__law_asked (C : Addr) : Sp := fun vs H Q _ => ∃ (p P : Addr) (ls hs ps : List Int) (a b : Int), vs = [.ref p, .ref P] ∧ UAt C H p ls hs a b ∧ FU ls hs a b ∧ ls.length ≤ 24 ∧ H P = some (.lst (ps.map V.int)) ∧ ps.length ≤ 900 ∧ (∀ x ∈ ps, x ≤ 10 ^ 18) ∧ dueL ls.length [] ps ≠ [] ∧ ∀ H' u, Same H H' → H' u = some (.tup (dueL ls.length [] ps)) → Q (.ref u) H'
theorem ok__law_asked {f : Addr} {fd : FuncData} {C_Weighted C_Ratio C_BadNumber C_TooMany C_ZeroBottom C_BadLot C_Unsure : Addr} (F : Fun K "_law_asked" "_law_asked" s__law_asked f fd) (T : Txt K mg C_Weighted C_Ratio C_BadNumber C_TooMany C_ZeroBottom C_BadLot C_Unsure) (c_Unsure_best : CalM P w K mg base (L2.CX P w) 9 C_Unsure "best" ["self", "prices"] (sp_Unsure_best C_Unsure C_Ratio C_BadNumber)) : FnOk P w K mg base CX0 10 f fd ["_law_unsure", "_law_prices"] (sp__law_asked C_Unsure) := by
  refine F.ok sc__law_asked (fun vs H Q E h => ?_) (fun cdv A outer s H vs Q E hr h => ?_)
  · obtain ⟨p, P, ls, hs, ps, a, b, rfl, _⟩ := h
    rfl
  · obtain ⟨p, P, ls, hs, ps, a, b, rfl, ua, fu, m24, hP, pl, p18, no, q⟩ := h
    obtain ⟨f_Unsure_best, fd_Unsure_best, G_Unsure_best, M_Unsure_best, b_Unsure_best⟩ := c_Unsure_best
    refine ⟨_, (pss_one (ps_try_as (i := 2) (Wout := fun _ _ _ _ => False) rfl rfl sc__law_asked.nd rfl rfl ⟨rfl, by decide, Or.inl T.g_BadNumber⟩ takes0
      (fun W pn xe tk _ => (pss_one (ps_ret (pe_tup (pa_cons pe_str (pa_cons (pe_methT (pv 0) T.cl_Unsure M_Unsure_best G_Unsure_best (hr.mono (by decide)) b_Unsure_best (fun σ => passAt tk σ) (pa_cons (pv 1) pa_nil)) pa_nil))))))
      (fun a oe cls d pn hz hf => (pss_one (ps_ret (pe_tup (pa_cons pe_str (pa_cons (pe_xf T.xf_BadNumber T.n_BadNumber_what hz hf (pv 2)) (pa_cons (pe_xf T.xf_BadNumber T.n_BadNumber_at hz hf (pv 2)) pa_nil))))))))), ?_⟩
    obtain ⟨dx, tl, th, ta, hp, htl, hth, hta⟩ := id ua
    refine ⟨_, rfl, p, dx, _, rfl, hp, fU_best _ _ _ _, _, rfl, p, P, ls, hs, ps, a, b, rfl, ua, fu, m24, hP, pl, p18, fun e H' d sd hd => ?_, fun e k hk H' d sd hd => ?_, fun e hn => absurd (dueL_ok e hn rfl) no⟩
    · have ed := dueL_len (ns := []) e
      exact ⟨true, T.exm_BadNumber_BadNumber, fun _ a0 na => ⟨.ref a0, rfl, rfl, rfl, d, _, _, rfl, hd, by rfl, .ref a0, rfl, rfl, rfl, d, _, _, rfl, hd, by rfl, (by show 3 ≤ sizeLine; decide), fun u nu => q _ u (sd.trans (same_upd nu)) (by rw [ed]; exact upd_same)⟩, fun z => Bool.noConfusion z⟩
    · have ed := dueL_neg (ns := []) e hk
      exact ⟨true, T.exm_BadNumber_BadNumber, fun _ a0 na => ⟨.ref a0, rfl, rfl, rfl, d, _, _, rfl, hd, by rfl, .ref a0, rfl, rfl, rfl, d, _, _, rfl, hd, by rfl, (by show 3 ≤ sizeLine; decide), fun u nu => q _ u (sd.trans (same_upd nu)) (by rw [ed]; exact upd_same)⟩, fun z => Bool.noConfusion z⟩
def sp__law_refuses (C : Addr) : Sp := fun vs H Q _ => ∃ (p P : Addr) (ls hs ps : List Int) (a b fm : Int), vs = [.ref p, .int fm, .ref P] ∧ UAt C H p ls hs a b ∧ FU ls hs a b ∧ ls.length ≤ 24 ∧ H P = some (.lst (ps.map V.int)) ∧ (∀ x ∈ ps, x ≤ 10 ^ 18) ∧ ps.length = ls.length ∧ negAt ps 0 = none ∧ 0 ≤ fm ∧ fm ≤ 10 ^ 17 ∧ ∀ H', Same H H' → Q (.bl true) H'
theorem ok__law_refuses {f : Addr} {fd : FuncData} {C_Weighted C_Ratio C_BadNumber C_TooMany C_ZeroBottom C_BadLot C_Unsure : Addr} (F : Fun K "_law_refuses" "_law_refuses" s__law_refuses f fd) (T : Txt K mg C_Weighted C_Ratio C_BadNumber C_TooMany C_ZeroBottom C_BadLot C_Unsure) (m_int : mg "int" = none) (m_len : mg "len" = none) (m_list : mg "list" = none) (c__law_asked : Cal P w K mg base CX0 10 "_law_asked" ["_law_unsure", "_law_prices"] (sp__law_asked C_Unsure)) (c__law_refused : Cal P w K mg base CX0 2 "_law_refused" ["_law_answer", "_law_due"] (sp__law_refused)) : FnOk P w K mg base CX0 11 f fd ["_law_unsure", "_law_form", "_law_prices"] (sp__law_refuses C_Unsure) := by
  refine F.ok sc__law_refuses (fun vs H Q E h => ?_) (fun cdv A outer s H vs Q E hr h => ?_)
  · obtain ⟨p, P, ls, hs, ps, a, b, fm, rfl, _⟩ := h
    rfl
  · obtain ⟨p, P, ls, hs, ps, a, b, fm, rfl, ua, fu, m24, hP, p18, el, hn, m0, m17, q⟩ := h
    obtain ⟨f__law_asked, fd__law_asked, G__law_asked, m__law_asked, k__law_asked, b__law_asked⟩ := c__law_asked
    obtain ⟨f__law_refused, fd__law_refused, G__law_refused, m__law_refused, k__law_refused, b__law_refused⟩ := c__law_refused
    refine ⟨_, (pss_cons (ps_set (i := 3) sc__law_refuses.nd rfl (Or.inl rfl) (pe_callB call_len_seq (by rfl) m_len (by decide +kernel) (pa_cons (pv 2) pa_nil)))
      (pss_cons (ps_set (i := 4) sc__law_refuses.nd rfl (Or.inl rfl) (pe_callTy call_list_of (by rfl) m_list (by decide +kernel) (pa_cons (pv 2) pa_nil)))
      (pss_cons (ps_set (i := 5) sc__law_refuses.nd rfl (Or.inl rfl) (pe_tup (pa_cons pe_str (pa_cons pe_str (pa_cons pe_non pa_nil)))))
      (Evl.pss_cut (ps_if (PW.pt (pw_and (pt_cmpR op_eq (pe_op op_mod (pe_callTy call_int1 (by rfl) m_int (by decide +kernel) (pa_cons (pv 1) pa_nil)) pe_int) pe_int (nomark _)) (pw_and1 (pt_cmpR op_gt (pv 3) pe_int (nomark _))))) (pss_cons (ps_asg (pe_un un_neg (pv 1)) (pg_sub (pv 4) (pe_op op_mod (pe_callTy call_int1 (by rfl) m_int (by decide +kernel) (pa_cons (pv 1) pa_nil)) (pv 3)) set_list))
      (pss_one (ps_set (i := 5) sc__law_refuses.nd rfl (Or.inl rfl) (pe_tup (pa_cons pe_str (pa_cons pe_str (pa_cons (pe_op op_mod (pe_callTy call_int1 (by rfl) m_int (by decide +kernel) (pa_cons (pv 1) pa_nil)) (pv 3)) pa_nil))))))) (pss_one (ps_expr (pe_bm PySem.F.plainAttrs_list PySem.F.slot_list_append PySem.F.type_list_append mt_append (pv 4) (pa_cons (pv 1) pa_nil)))))
      (pss_one (ps_ret (pe_call G__law_refused (hr.mono (by decide)) (by rfl) m__law_refused k__law_refused b__law_refused .nil pass0 (pa_cons (pe_call G__law_asked (hr.mono (by decide)) (by rfl) m__law_asked k__law_asked b__law_asked .nil pass0 (pa_cons (pv 0) (pa_cons (pv 4) pa_nil))) (pa_cons (pv 5) pa_nil))))))))), ?_⟩
    refine ⟨_, rfl, P, _, rfl, .inl (lst_l hP), ?_⟩
    refine ⟨_, rfl, P, _, rfl, .inl (lst_l hP), fun R nR => ?_⟩
    have sR := same_upd (o := .lst (ps.map V.int)) nR
    have hR := upd_same (H := H) (a := R) (o := .lst (ps.map V.int))
    rw [List.length_map, el]
    have pn := negAt_nn hn
    refine ⟨(by show 3 ≤ sizeLine; decide), fun t nt => ?_⟩
    have st := same_upd (o := .tup [V.str "number", V.str "prices", V.non]) nt
    have ht := upd_same (a := t) (o := .tup [V.str "number", V.str "prices", V.non]) (H := upd H R (.lst (ps.map V.int)))
    have tR : R ≠ t := ne_of_none hR nt
    have hR := st _ _ hR
    have sRt := sR.trans st
    generalize upd (upd H R (.lst (ps.map V.int))) t (.tup [V.str "number", V.str "prices", V.non]) = H1 at sRt hR ht ⊢
    clear st sR nt
    refine ⟨fun σ' H' => ∃ (t : Addr) (qs : List Int) (xs : List V), Same H H' ∧ H' R = some (.lst (qs.map V.int)) ∧ H' t = some (.tup xs) ∧ xs ≠ [] ∧ (dueL ls.length [] qs = xs) ∧ qs.length ≤ 100 ∧ (∀ x ∈ qs, x ≤ 10 ^ 18) ∧ σ' = [some (.ref p), some (.int fm), some (.ref P), some (.int (ls.length : Int)), some (.ref R), some (.ref t)], ?_, ?_⟩
    · refine ⟨_, rfl, .inl ⟨fm, rfl, _, _, rfl, rfl, (show (0 : Int) < 2 by decide), rfl, _, rfl, ite2 (fun c => ⟨_, rfl, _, _, rfl, rfl, _, rfl, ite2 (fun c3 => ?_) (fun c3 => ?_)⟩) (fun c => iteF ?_)⟩⟩
      · have c : fm % 2 = 1 := V.int.inj (of_decide_eq_true c)
        have c3 : 0 < (ls.length : Int) := of_decide_eq_true c3
        have j0 := Int.emod_nonneg fm (show (ls.length : Int) ≠ 0 by omega)
        have j1 := Int.emod_lt_of_pos fm c3
        obtain ⟨k, hk⟩ : ∃ k : Nat, fm % (ls.length : Int) = (k : Int) := ⟨(fm % (ls.length : Int)).toNat, by omega⟩
        have kl : k < ps.length := by omega
        refine ⟨_, rfl, _, rfl, _, rfl, _, rfl, .inl ⟨fm, rfl, _, rfl, _, _, rfl, rfl, c3, R, _, _, k, rfl, rfl, hR, ?_, ?_⟩⟩
        · rw [hk, List.length_map]
          exact ixn_at kl
        rw [set_ints]
        refine ⟨_, rfl, .inl ⟨fm, rfl, _, rfl, _, _, rfl, rfl, c3, (by show 3 ≤ sizeLine; decide), fun u nu => ?_⟩⟩
        have su := same_upd (o := .tup [V.str "number", V.str "prices", V.int (fm % (ls.length : Int))]) nu
        have s2 := same_mut (o := .lst ((ps.set k (-fm)).map V.int)) sRt nR
        have hneg : negAt (ps.set k (-fm)) 0 = some k := by
          have := negAt_setU (v := -fm) (i := 0) (by omega) pn kl
          rw [Nat.zero_add] at this
          exact this
        have ql : (ps.set k (-fm)).length = ls.length := by rw [List.length_set, el]
        have hdue : dueL ls.length [] (ps.set k (-fm)) = [V.str "number", V.str "prices", V.int (fm % (ls.length : Int))] := by
          rw [hk]
          exact dueL_neg ql hneg
        exact ⟨u, ps.set k (-fm), [V.str "number", V.str "prices", V.int (fm % (ls.length : Int))], s2.trans su, su _ _ upd_same, upd_same, List.cons_ne_nil _ _, hdue, by omega, fun x hx => by
          rcases List.mem_or_eq_of_mem_set hx with hx | rfl
          · exact p18 x hx
          · omega, rfl⟩
      all_goals
        refine ⟨_, rfl, .inl ⟨rfl, _, lst_l hR⟩, _, rfl, R, _, _, rfl, rfl, hR, by rw [List.length_map]; exact small1000 (by omega), ?_⟩
        have s2 := same_mut (o := .lst ((ps ++ [fm]).map V.int)) sRt nR
        have ql : ¬ (ps ++ [fm]).length = ls.length := by rw [List.length_append]; show ¬ ps.length + 1 = ls.length; omega
        refine ⟨t, ps ++ [fm], _, ?_, by rw [upd_same, ← snoc_int], (upd_ne (Ne.symm tR)).trans ht, List.cons_ne_nil _ _, dueL_len ql, by rw [List.length_append]; show ps.length + 1 ≤ 100; omega, fun x hx => ?_, rfl⟩
        · rw [snoc_int]
          exact s2
        · rcases List.mem_append.mp hx with hx | hx
          · exact p18 x hx
          · rw [List.mem_singleton.mp hx]
            omega
    rintro σ' H2 ⟨t, qs, xs, s2, hR, ht, xne, kd, lq, q18, rfl⟩
    subst kd
    obtain ⟨wd, rest, ew, l3, el3⟩ := dueL_form xne
    refine ⟨_, rfl, _, rfl, p, R, ls, hs, qs, a, b, rfl, ua.same s2, fu, m24, hR, by omega, q18, xne, fun H3 v s3 hv => ?_⟩
    exact ⟨_, rfl, v, t, _, rfl, hv, s3 _ _ ht, l3, el3, q _ (s2.trans s3)⟩
def sp__law_best_lot (CR : Addr) : Sp := fun vs H Q _ => ∃ (t L P l r : Addr) (ls ps : List Int) (a T1 B : Int) (k : Nat), vs = [.ref t, .ref L, .int a, .ref P] ∧ H t = some (.tup [.ref l, .ref r]) ∧ H l = some (.tup ((dearU ps T1 B ls.length).map V.int)) ∧ RatAt CR H r T1 B ∧ BestK ls ps a T1 B k ∧ H L = some (.lst (ls.map V.int)) ∧ H P = some (.lst (ps.map V.int)) ∧ Fine ls a ps ∧ PB ps ls.length ∧
  ∀ H' D, Same H H' → H D = none → H' D = some (.lst ((dearU ps T1 B ls.length).map V.int)) → Q (.ref D) H'
theorem ok__law_best_lot {f : Addr} {fd : FuncData} {C_Weighted C_Ratio C_BadNumber C_TooMany C_ZeroBottom C_BadLot C_Unsure : Addr} (F : Fun K "_law_best_lot" "_law_best_lot" s__law_best_lot f fd) (T : Txt K mg C_Weighted C_Ratio C_BadNumber C_TooMany C_ZeroBottom C_BadLot C_Unsure) (m_isinstance : mg "isinstance" = none) (m_len : mg "len" = none) (m_range : mg "range" = none) (m_tuple : mg "tuple" = none) (c__law_is_ratio : Cal P w K mg base CX0 2 "_law_is_ratio" ["_law_x"] (sp__law_is_ratio C_Ratio)) (c__law_worth : Cal P w K mg base CX0 1 "_law_worth" ["_law_weights", "_law_apart", "_law_prices", "_law_lot_here"] sp__law_worth) (c__law_same_lot : Cal P w K mg base CX0 2 "_law_same_lot" ["_law_x", "_law_due"] (sp__law_same_lot K)) (c__law_same : Cal P w K mg base CX0 2 "_law_same" ["_law_x", "_law_top", "_law_bottom"] (sp__law_same C_Ratio)) : FnOk P w K mg base CX0 3 f fd ["_law_told", "_law_lows", "_law_apart", "_law_prices"] (sp__law_best_lot C_Ratio) := by
  refine F.ok sc__law_best_lot (fun vs H Q E h => ?_) (fun cdv A outer s H vs Q E hr h => ?_)
  · obtain ⟨t, L, P, l, r, ls, ps, a, T1, B, k, rfl, _⟩ := h
    rfl
  · obtain ⟨t, L, P, l, r, ls, ps, a, T1, B, k, rfl, ht, hl, ra, bk, hL, hP, fi, pb, q⟩ := h
    obtain ⟨f__law_is_ratio, fd__law_is_ratio, G__law_is_ratio, m__law_is_ratio, k__law_is_ratio, b__law_is_ratio⟩ := c__law_is_ratio
    obtain ⟨f__law_worth, fd__law_worth, G__law_worth, m__law_worth, k__law_worth, b__law_worth⟩ := c__law_worth
    obtain ⟨f__law_same_lot, fd__law_same_lot, G__law_same_lot, m__law_same_lot, k__law_same_lot, b__law_same_lot⟩ := c__law_same_lot
    obtain ⟨f__law_same, fd__law_same, G__law_same, m__law_same, k__law_same, b__law_same⟩ := c__law_same
    refine ⟨_, (pss_cons (ps_if (PW.pt (pw_or (pt_not (pt_val (pe_callB call_isi (by rfl) m_isinstance (by decide +kernel) (pa_cons (pv 0) (pa_cons (pe_bltn (v := .ty "tuple") (by rfl) m_tuple (by decide +kernel) rfl) pa_nil))))) (pw_or (pt_cmpR op_ne (pe_callB call_len_seq (by rfl) m_len (by decide +kernel) (pa_cons (pv 0) pa_nil)) pe_int (nomark _)) (pw_or1 (pt_not (pt_val (pe_call G__law_is_ratio (hr.mono (by decide)) (by rfl) m__law_is_ratio k__law_is_ratio b__law_is_ratio .nil pass0 (pa_cons (pe_ix ix_tup (pv 0) pe_int (fun _ _ => rfl)) pa_nil)))))))) (pss_one (ps_ret pe_non)) pss_nil)
      (pss_cons (ps_setLc (i := 4) (own := [("_law_thing", 6)]) (g := (gName 6)) rfl sc__law_best_lot.nd rfl rfl (sw_true rfl rfl rfl (by decide +kernel)) (pi_range1 (by rfl) m_range (pa_cons (pe_callB call_len_seq (by rfl) m_len (by decide +kernel) (pa_cons (pv 3) pa_nil)) pa_nil)) (blkOk_by (own := [("_law_thing", 6)]) (N := ["_law_told", "_law_lows", "_law_apart", "_law_prices", "_law_best", "_law_due", "_law_thing"]) (sc := defScope s__law_best_lot) (by decide +kernel)) (fun _ _ _ _ _ => (pg_name (i := 6) sc__law_best_lot.nd rfl (Or.inl rfl))) (fun _ _ _ _ _ => (pts_one (pt_cmpR op_gt (pe_op op_mul (pe_ix (r := rIxL K) ix_list (pv 3) (pv 6) (fun _ _ => rfl)) (pe_fldK (K := K) (pe_ix (r := rIxT K) ix_tup (pv 0) pe_int (fun _ _ => rfl)) rfl)) (pe_fldK (K := K) (pe_ix (r := rIxT K) ix_tup (pv 0) pe_int (fun _ _ => rfl)) rfl) (nomark _)))) (fun _ _ _ _ _ => (pv 6)))
      (pss_cons (ps_set (i := 5) sc__law_best_lot.nd rfl (Or.inl rfl) (pe_call G__law_worth (hr.mono (by decide)) (by rfl) m__law_worth k__law_worth b__law_worth .nil pass0 (pa_cons (pv 1) (pa_cons (pv 2) (pa_cons (pv 3) (pa_cons (pv 4) pa_nil))))))
      (pss_cons (ps_if (PW.pt (pw_or (pt_not (pt_val (pe_call G__law_same_lot (hr.mono (by decide)) (by rfl) m__law_same_lot k__law_same_lot b__law_same_lot .nil pass0 (pa_cons (pe_ix ix_tup (pv 0) pe_int (fun _ _ => rfl)) (pa_cons (pv 4) pa_nil))))) (pw_or1 (pt_not (pt_val (pe_call G__law_same (hr.mono (by decide)) (by rfl) m__law_same k__law_same b__law_same .nil pass0 (pa_cons (pe_ix ix_tup (pv 0) pe_int (fun _ _ => rfl)) (pa_cons (pe_ix ix_tup (pv 5) pe_int (fun _ _ => rfl)) (pa_cons (pe_ix ix_tup (pv 5) pe_int (fun _ _ => rfl)) pa_nil))))))))) (pss_one (ps_ret pe_non)) pss_nil)
      (pss_one (ps_ret (pv 4))))))), ?_⟩
    obtain ⟨dr, hr⟩ := id ra
    have wl := fi.wl
    have pl := pb.len
    have B0 := bk.B0
    refine ⟨_, rfl, .ref t, .ty "tuple", _, _, true, rfl, .ty "tuple", .base (.tup ht), kit_ty kT, true, rfl, iteF ?_⟩
    refine ⟨_, rfl, t, _, rfl, .inr (tup_t ht), rfl, _, rfl, iteNS rfl ?_⟩
    refine ⟨_, rfl, t, _, _, _, rfl, rfl, tup_t ht, atI_nat (j := 1) rfl, r, T1, B, rfl, ra, B0, true, rfl, iteF ?_⟩
    refine ⟨_, rfl, P, _, rfl, .inl (lst_l hP), _, rfl, ?_⟩
    rw [List.length_map]
    refine ⟨by omega, by omega, ?_⟩
    rw [Int.toNat_natCast]
    refine fun D nD => lc_range (lo := 0) (n := ps.length) (fun i H' => Same H H' ∧ H' D = some (.lst ((dearU ps T1 B i).map V.int))) ⟨same_upd nD, upd_same⟩ ?_ ?_
    · rintro i H' hi ⟨s, hD⟩
      have p0 := getD_n0 pb.p0 i
      have p1 := getD_le pb.p2 i
      have rl := dearU_len ps T1 B i
      refine ⟨rfl, ?_⟩
      refine ⟨_, rfl, _, rfl, P, _, _, .int (ps.getD i 0), rfl, rfl, lst_l (s _ _ hP), ?_, _, rfl, t, _, _, _, rfl, rfl, tup_t (s _ _ ht), atI_nat (j := 1) rfl, r, C_Ratio, dr, _, _, rfl, (s _ _ hr), T.cl_Ratio, T.n_Ratio_bottom, rF_bot T1 B, _, _, rfl, rfl, .inl ⟨by omega, by omega⟩, _, rfl, t, _, _, _, rfl, rfl, tup_t (s _ _ ht), atI_nat (j := 1) rfl, r, C_Ratio, dr, _, _, rfl, (s _ _ hr), T.cl_Ratio, T.n_Ratio_top, rF_top T1 B, _, _, rfl, rfl, _, rfl, ite2 (fun c => ?_) (fun c => ?_)⟩
      · have := ws_at (ws := ps) (n := 0 + (i : Int)) (by omega) (by omega)
        rw [show (0 + (i : Int)).toNat = i by omega] at this
        exact this
      · have c : T1 < ps.getD i 0 * B := of_decide_eq_true c
        refine ⟨_, rfl, _, hD, ?_, same_mut s nD, ?_⟩
        · rw [List.length_map]
          exact small1000 (by omega)
        · rw [upd_same, dearU_next, if_pos c, Int.zero_add, List.map_append]
          rfl
      · have c : ¬ T1 < ps.getD i 0 * B := fun z => c (decide_eq_true z)
        refine ⟨s, ?_⟩
        rw [hD, dearU_next, if_neg c, List.append_nil]
    rintro H2 ⟨s2, hD⟩
    rw [pl] at hD
    have inl := fun n (hn : n ∈ dearU ps T1 B ls.length) => dearU_in hn
    have nl := dearU_len ps T1 B ls.length
    have bd := vw_bd fi pb.p0 (ns := dearU ps T1 B ls.length) (by omega)
    have eq : T1 * (a + wSum ls (dearU ps T1 B ls.length)) = vSum ls ps (dearU ps T1 B ls.length) * B := (bk.dear_at fi.w1).symm
    have b1 := fi.b1
    have b2 := fi.b2
    have T0 := bk.T0
    have Tb := bk.Tb
    have Bb := bk.Bb
    generalize dearU ps T1 B ls.length = ds at hl hD q inl nl bd eq
    have sT : Sm T1 := sm_36 T0 (by omega)
    have sB : Sm B := sm_36 (by omega) (by omega)
    have sV : Sm (vSum ls ps ds) := sm_36 (by omega) (by omega)
    have sD : Sm (a + wSum ls ds) := sm_36 (by omega) (by omega)
    refine ⟨_, rfl, _, rfl, _, rfl, _, rfl, L, P, D, ls, ps, ds, a, rfl, s2 _ _ hL, s2 _ _ hP, .inl hD, fun w hw => ⟨fi.w1 w hw, fi.w2 w hw⟩, by omega, fun n hn => by have := inl n hn; omega, fun H3 t3 s3 ht3 => ?_⟩
    have s23 := s2.trans s3
    refine ⟨_, rfl, t, _, _, _, rfl, rfl, tup_t (s23 _ _ ht), atI_nat (j := 0) rfl, _, rfl, l, D, ds, rfl, s23 _ _ hl, .inl (lst_l (s3 _ _ hD)), by omega, true, rfl, iteF ?_⟩
    refine ⟨_, rfl, t, _, _, _, rfl, rfl, tup_t (s23 _ _ ht), atI_nat (j := 1) rfl, _, rfl, t3, _, _, _, rfl, rfl, tup_t ht3, atI_nat (j := 0) rfl, _, rfl, t3, _, _, _, rfl, rfl, tup_t ht3, atI_nat (j := 1) rfl, r, T1, B, _, _, rfl, ra.same s23, B0, eq, sT.mul sD, sV.mul sB, true, rfl, iteF ?_⟩
    exact ⟨_, rfl, q H3 D s23 nD (s3 _ _ hD)⟩
def sp__law_inside (CR : Addr) : Sp := fun vs H Q _ => ∃ (u L r W : Addr) (us : List Addr) (zs : List (Int × Int)) (fs : List Int) (om T1 B : Int), vs = [.ref u, .ref L] ∧ H u = some (.tup [.ref r, .ref W, .int om]) ∧ RatAt CR H r T1 B ∧ 0 < B ∧ H W = some (.lst (fs.map V.int)) ∧ H L = some (.lst (us.map V.ref)) ∧ PrL H us zs ∧ zs.length = fs.length + 1 ∧ fs.length ≤ 24 ∧ (∀ (i : Nat) (f : Int) (z : Int × Int), (fs ++ [om])[i]? = some f → zs[i]? = some z → z.1 ≤ f ∧ f ≤ z.2) ∧ ∀ H', Same H H' → Q (.bl true) H'
theorem ok__law_inside {f : Addr} {fd : FuncData} {C_Weighted C_Ratio C_BadNumber C_TooMany C_ZeroBottom C_BadLot C_Unsure : Addr} (F : Fun K "_law_inside" "_law_inside" s__law_inside f fd) (T : Txt K mg C_Weighted C_Ratio C_BadNumber C_TooMany C_ZeroBottom C_BadLot C_Unsure) (m_isinstance : mg "isinstance" = none) (m_len : mg "len" = none) (m_list : mg "list" = none) (m_range : mg "range" = none) (m_tuple : mg "tuple" = none) (c__law_is_ratio : Cal P w K mg base CX0 2 "_law_is_ratio" ["_law_x"] (sp__law_is_ratio C_Ratio)) (c__law_is_int : Cal P w K mg base CX0 1 "_law_is_int" ["_law_x"] sp__law_is_int) : FnOk P w K mg base CX0 3 f fd ["_law_told", "_law_couples"] (sp__law_inside C_Ratio) := by
  refine F.ok sc__law_inside (fun vs H Q E h => ?_) (fun cdv A outer s H vs Q E hr h => ?_)
  · obtain ⟨u, L, r, W, us, zs, fs, om, T1, B, rfl, _⟩ := h
    rfl
  · obtain ⟨u, L, r, W, us, zs, fs, om, T1, B, rfl, hu, ra, B0, hW, hL, pr, lz, m24, bo, q⟩ := h
    obtain ⟨f__law_is_ratio, fd__law_is_ratio, G__law_is_ratio, m__law_is_ratio, k__law_is_ratio, b__law_is_ratio⟩ := c__law_is_ratio
    obtain ⟨f__law_is_int, fd__law_is_int, G__law_is_int, m__law_is_int, k__law_is_int, b__law_is_int⟩ := c__law_is_int
    refine ⟨_, (pss_cons (ps_set (i := 2) sc__law_inside.nd rfl (Or.inl rfl) (pe_op op_sub (pe_callB call_len_seq (by rfl) m_len (by decide +kernel) (pa_cons (pv 1) pa_nil)) pe_int))
      (pss_cons (ps_if (PW.pt (pw_or (pt_not (pt_val (pe_callB call_isi (by rfl) m_isinstance (by decide +kernel) (pa_cons (pv 0) (pa_cons (pe_bltn (v := .ty "tuple") (by rfl) m_tuple (by decide +kernel) rfl) pa_nil))))) (pw_or (pt_cmpR op_ne (pe_callB call_len_seq (by rfl) m_len (by decide +kernel) (pa_cons (pv 0) pa_nil)) pe_int (nomark _)) (pw_or1 (pt_not (pt_val (pe_call G__law_is_ratio (hr.mono (by decide)) (by rfl) m__law_is_ratio k__law_is_ratio b__law_is_ratio .nil pass0 (pa_cons (pe_ix ix_tup (pv 0) pe_int (fun _ _ => rfl)) pa_nil)))))))) (pss_one (ps_ret pe_bl)) pss_nil)
      (pss_cons (ps_if (PW.pt (pw_or (pt_not (pt_val (pe_callB call_isi (by rfl) m_isinstance (by decide +kernel) (pa_cons (pe_ix ix_tup (pv 0) pe_int (fun _ _ => rfl)) (pa_cons (pe_bltn (v := .ty "list") (by rfl) m_list (by decide +kernel) rfl) pa_nil))))) (pw_or1 (pt_cmpR op_ne (pe_callB call_len_seq (by rfl) m_len (by decide +kernel) (pa_cons (pe_ix ix_tup (pv 0) pe_int (fun _ _ => rfl)) pa_nil)) (pv 2) (nomark _))))) (pss_one (ps_ret pe_bl)) pss_nil)
      (pss_cons (ps_set (i := 3) sc__law_inside.nd rfl (Or.inl rfl) (pe_op op_cat (pe_callTy call_list_of (by rfl) m_list (by decide +kernel) (pa_cons (pe_ix ix_tup (pv 0) pe_int (fun _ _ => rfl)) pa_nil)) (pe_lst (pa_cons (pe_ix ix_tup (pv 0) pe_int (fun _ _ => rfl)) pa_nil))))
      (pss_cons (ps_for PassesOwn.never rfl (pi_range1 (by rfl) m_range (pa_cons (pe_op op_add (pv 2) pe_int) pa_nil)) (pg_name (i := 4) sc__law_inside.nd rfl (Or.inl rfl))
      (pss_one (ps_if (PW.pt (pw_or (pt_not (pt_val (pe_call G__law_is_int (hr.mono (by decide)) (by rfl) m__law_is_int k__law_is_int b__law_is_int .nil pass0 (pa_cons (pe_ix ix_list (pv 3) (pv 4) (fun _ _ => rfl)) pa_nil)))) (pw_or (pt_cmpR op_lt (pe_ix ix_list (pv 3) (pv 4) (fun _ _ => rfl)) (pe_ix ix_tup (pe_ix ix_list (pv 1) (pv 4) (fun _ _ => rfl)) pe_int (fun _ _ => rfl)) (nomark _)) (pw_or1 (pt_cmpR op_gt (pe_ix ix_list (pv 3) (pv 4) (fun _ _ => rfl)) (pe_ix ix_tup (pe_ix ix_list (pv 1) (pv 4) (fun _ _ => rfl)) pe_int (fun _ _ => rfl)) (nomark _)))))) (pss_one (ps_ret pe_bl)) pss_nil)))
      (pss_one (ps_ret pe_bl))))))), ?_⟩
    have lu := pr.1
    refine ⟨_, rfl, L, _, rfl, .inl (lst_l hL), _, _, rfl, rfl, ?_⟩
    refine ⟨_, rfl, .ref u, .ty "tuple", _, _, true, rfl, .ty "tuple", .base (.tup hu), kit_ty kT, true, rfl, iteF ?_⟩
    refine ⟨_, rfl, u, _, rfl, .inr (tup_t hu), rfl, _, rfl, iteNS rfl ?_⟩
    refine ⟨_, rfl, u, _, _, _, rfl, rfl, tup_t hu, atI_nat (j := 0) rfl, r, T1, B, rfl, ra, B0, true, rfl, iteF ?_⟩
    refine ⟨_, rfl, u, _, _, _, rfl, rfl, tup_t hu, atI_nat (j := 1) rfl, .ref W, .ty "list", _, _, true, rfl, .ty "list", .base (.lst hW), kit_ty kLs, true, rfl, iteF ?_⟩
    refine ⟨_, rfl, u, _, _, _, rfl, rfl, tup_t hu, atI_nat (j := 1) rfl, W, _, rfl, .inl (lst_l hW), _, rfl, rfl, _, rfl, iteNS ?_ ?_⟩
    · rw [List.length_map, List.length_map, lu, lz]
      exact congrArg V.int (by omega)
    refine ⟨_, rfl, u, _, _, _, rfl, rfl, tup_t hu, atI_nat (j := 1) rfl, W, _, rfl, .inl (lst_l hW), fun N1 nN1 => ?_⟩
    have s1 := same_upd (o := .lst (fs.map V.int)) nN1
    refine ⟨_, rfl, u, _, _, _, rfl, rfl, tup_t (s1 _ _ hu), atI_nat (j := 2) rfl, (by show 1 ≤ sizeLine; decide), fun N2 nN2 => ?_⟩
    have s2 := same_upd (o := .lst [V.int om]) nN2
    refine ⟨N1, N2, _, _, rfl, rfl, s2 _ _ upd_same, upd_same, by rw [List.length_map]; show fs.length + 1 ≤ sizeLine; exact Nat.le_of_lt (small1000 (by omega)), fun N nN => ?_⟩
    have s3 := same_upd (o := .lst (fs.map V.int ++ [V.int om])) nN
    have hN := upd_same (a := N) (o := .lst (fs.map V.int ++ [V.int om])) (H := upd (upd H N1 (.lst (fs.map V.int))) N2 (.lst [V.int om]))
    have s13 := s1.trans (s2.trans s3)
    generalize upd (upd (upd H N1 (.lst (fs.map V.int))) N2 (.lst [V.int om])) N (.lst (fs.map V.int ++ [V.int om])) = H1 at hN s13 ⊢
    have hN : H1 N = some (.lst ((fs ++ [om]).map V.int)) := by rw [hN, ← snoc_int]
    have hL1 := s13 _ _ hL
    have pr1 := pr.same s13
    have lfo : (fs ++ [om]).length = fs.length + 1 := by rw [List.length_append]; rfl
    refine ⟨_, rfl, _, _, rfl, rfl, _, rfl, by rw [List.length_map]; omega, by rw [List.length_map]; omega, ?_⟩
    rw [show (((us.map V.ref).length : Int) - 1 + 1).toNat = fs.length + 1 from by rw [List.length_map]; omega]
    refine for_range (lo := 0) (n := fs.length + 1) (fun i σ H' => ∃ (y : Option V), σ = [some (.ref u), some (.ref L), some (.int (((us.map V.ref).length : Int) - 1)), some (.ref N), y] ∧ H' = H1) ⟨_, rfl, rfl⟩ ?_ ?_
    · rintro i σ H' hi ⟨y, rfl, rfl⟩
      obtain ⟨f0, gf⟩ : ∃ f0, (fs ++ [om])[i]? = some f0 := ⟨_, List.getElem?_eq_getElem (by omega)⟩
      obtain ⟨z0, gz⟩ : ∃ z0, zs[i]? = some z0 := ⟨_, List.getElem?_eq_getElem (by omega)⟩
      obtain ⟨u0, gu⟩ : ∃ u0, us[i]? = some u0 := ⟨_, List.getElem?_eq_getElem (by omega)⟩
      have gU : (us.map V.ref)[i]? = some (.ref u0) := by rw [List.getElem?_map, gu]; rfl
      have hz := pr1.2 i u0 z0 gu gz
      have b0 := bo i f0 z0 gf gz
      refine ⟨_, rfl, _, rfl, N, _, _, _, rfl, rfl, lst_l hN, at_of (Int.zero_add _) (int_at gf), f0, rfl, true, rfl, iteF ?_⟩
      refine ⟨_, rfl, _, rfl, N, _, _, _, rfl, rfl, lst_l hN, at_of (Int.zero_add _) (int_at gf), _, rfl, _, rfl, L, _, _, _, rfl, rfl, lst_l hL1, at_of (Int.zero_add _) gU, u0, _, _, _, rfl, rfl, tup_t hz, atI_nat (j := 0) rfl, _, _, rfl, rfl, _, rfl, ite2 (fun c => absurd (of_decide_eq_true c) (by omega)) (fun _ => ?_)⟩
      exact ⟨_, rfl, _, rfl, N, _, _, _, rfl, rfl, lst_l hN, at_of (Int.zero_add _) (int_at gf), _, rfl, _, rfl, L, _, _, _, rfl, rfl, lst_l hL1, at_of (Int.zero_add _) gU, u0, _, _, _, rfl, rfl, tup_t hz, atI_nat (j := 1) rfl, _, _, rfl, rfl, _, rfl, ite2 (fun c => absurd (of_decide_eq_true c) (by omega)) (fun _ => ⟨_, rfl, rfl⟩)⟩
    rintro σ H' ⟨y, rfl, rfl⟩
    exact q _ s13
def sp__law_other (CR : Addr) : Sp := fun vs H Q _ => ∃ (w c pc : Int) (L r P : Addr) (bs ps : List Int) (T1 B : Int), vs = [.int w, .int c, .int pc, .ref L, .ref r, .ref P] ∧ H L = some (.lst (bs.map V.int)) ∧ RatAt CR H r T1 B ∧ H P = some (.lst (ps.map V.int)) ∧ ps.length ≤ 24 ∧ PB ps ps.length ∧ ∀ H' u ms, Same H H' → H' u = some (.tup (ms.map V.int)) → lotB ms (-1) ps.length = true → Q (.ref u) H'
theorem ok__law_other {f : Addr} {fd : FuncData} {C_Weighted C_Ratio C_BadNumber C_TooMany C_ZeroBottom C_BadLot C_Unsure : Addr} (F : Fun K "_law_other" "_law_other" s__law_other f fd) (T : Txt K mg C_Weighted C_Ratio C_BadNumber C_TooMany C_ZeroBottom C_BadLot C_Unsure) (m_int : mg "int" = none) (m_len : mg "len" = none) (m_range : mg "range" = none) (m_tuple : mg "tuple" = none) (c__law_lot : Cal P w K mg base CX0 1 "_law_lot" ["_law_bits", "_law_many"] (sp__law_lot K)) : FnOk P w K mg base CX0 2 f fd ["_law_way", "_law_bits", "_law_place", "_law_best", "_law_worth_here", "_law_prices"] (sp__law_other C_Ratio) := by
  refine F.ok sc__law_other (fun vs H Q E h => ?_) (fun cdv A outer s H vs Q E hr h => ?_)
  · obtain ⟨w9, c9, pc, L, r, P, bs, ps, T1, B, rfl, _⟩ := h
    rfl
  · obtain ⟨w9, c9, pc, L, r, P, bs, ps, T1, B, rfl, hL, ra, hP, m24, pb, q⟩ := h
    obtain ⟨f__law_lot, fd__law_lot, G__law_lot, m__law_lot, k__law_lot, b__law_lot⟩ := c__law_lot
    refine ⟨_, (pss_cons (ps_set (i := 6) sc__law_other.nd rfl (Or.inr rfl) (pe_callB call_len_seq (by rfl) m_len (by decide +kernel) (pa_cons (pv 5) pa_nil)))
      (pss_cons (ps_if (PW.pt (pw_and (pt_cmpR op_eq (pv 0) pe_int (nomark _)) (pw_and1 (pt_cmpR op_gt (pv 6) pe_int (nomark _))))) (pss_one (ps_ret (pe_callTy call_tuple_of (by rfl) m_tuple (by decide +kernel) (pa_cons (pe_lc (own := [("_law_k", 7)]) (g := (gName 7)) rfl sc__law_other.nd (pi_range1 (by rfl) m_range (pa_cons (pv 6) pa_nil)) (blkOk_by (own := [("_law_k", 7)]) (N := ["_law_way", "_law_bits", "_law_place", "_law_best", "_law_worth_here", "_law_prices", "_law_many", "_law_k"]) (sc := defScope s__law_other) (by decide +kernel)) (fun _ _ _ _ _ => (pg_name (i := 7) sc__law_other.nd rfl (Or.inl rfl))) (fun _ _ _ _ _ => (pts_one (pt_cmpR op_ne (pe_cmpR (r := rIn K false) op_in_seq (pv 7) (pv 3) (by rfl)) (pe_cmpR op_eq (pv 7) (pe_op op_mod (pe_callTy call_int1 (by rfl) m_int (by decide +kernel) (pa_cons (pv 2) pa_nil)) (pv 6)) (nomark _)) (nomark _)))) (fun _ _ _ _ _ => (pv 7))) pa_nil)))) pss_nil)
      (pss_cons (ps_if (pt_cmpR op_eq (pv 0) pe_int (nomark _)) (pss_one (ps_ret (pe_callTy call_tuple_of (by rfl) m_tuple (by decide +kernel) (pa_cons (pe_lc (own := [("_law_k", 7)]) (g := (gName 7)) rfl sc__law_other.nd (pi_range1 (by rfl) m_range (pa_cons (pv 6) pa_nil)) (blkOk_by (own := [("_law_k", 7)]) (N := ["_law_way", "_law_bits", "_law_place", "_law_best", "_law_worth_here", "_law_prices", "_law_many", "_law_k"]) (sc := defScope s__law_other) (by decide +kernel)) (fun _ _ _ _ _ => (pg_name (i := 7) sc__law_other.nd rfl (Or.inl rfl))) (fun _ _ _ _ _ => (pts_one (pt_cmpR op_ge (pe_op op_mul (pe_ix (r := rIxL K) ix_list (pv 5) (pv 7) (fun _ _ => rfl)) (pe_fldK (K := K) (pv 4) rfl)) (pe_fldK (K := K) (pv 4) rfl) (nomark _)))) (fun _ _ _ _ _ => (pv 7))) pa_nil)))) pss_nil)
      (pss_cons (ps_if (pt_cmpR op_eq (pv 0) pe_int (nomark _)) (pss_one (ps_ret (pe_callTy call_tuple_of (by rfl) m_tuple (by decide +kernel) (pa_cons (pe_lc (own := [("_law_k", 7)]) (g := (gName 7)) (tt := tYes) rfl sc__law_other.nd (pi_range1 (by rfl) m_range (pa_cons (pv 6) pa_nil)) (blkOk_by (own := [("_law_k", 7)]) (N := ["_law_way", "_law_bits", "_law_place", "_law_best", "_law_worth_here", "_law_prices", "_law_many", "_law_k"]) (sc := defScope s__law_other) (by decide +kernel)) (fun _ _ _ _ _ => (pg_name (i := 7) sc__law_other.nd rfl (Or.inl rfl))) (fun _ _ _ _ _ => pts_nil) (fun _ _ _ _ _ => (pv 7))) pa_nil)))) pss_nil)
      (pss_one (ps_ret (pe_call G__law_lot (hr.mono (by decide)) (by rfl) m__law_lot k__law_lot b__law_lot .nil pass0 (pa_cons (pv 1) (pa_cons (pv 6) pa_nil))))))))), ?_⟩
    obtain ⟨dr, hr⟩ := id ra
    refine ⟨_, rfl, P, _, rfl, .inl (lst_l hP), ?_⟩
    rw [List.length_map]
    refine ⟨_, rfl, rfl, _, rfl, ite2 (fun _ => ⟨_, rfl, _, _, rfl, rfl, _, rfl, ite2 (fun c2 => ?_) (fun _ => ?_)⟩) (fun _ => iteF ?_)⟩
    · refine ⟨_, rfl, _, rfl, by omega, by omega, ?_⟩
      rw [Int.toNat_natCast]
      refine fun D nD => lc_range (lo := 0) (n := ps.length) (fun i H' => ∃ ks : List Int, Same H H' ∧ H' D = some (.lst (ks.map V.int)) ∧ lotB ks (-1) (i : Int) = true) ⟨[], same_upd nD, upd_same, rfl⟩ ?_ ?_
      · rintro i H' hi ⟨ks, s, hD, ok⟩
        have kl := lotB_len ok
        have YES : ∃ acc, H' D = some (.lst acc) ∧ acc.length < sizeLine ∧ ∃ ks : List Int, Same H (upd H' D (.lst (acc ++ [V.int (0 + (i : Int))]))) ∧ upd H' D (.lst (acc ++ [V.int (0 + (i : Int))])) D = some (.lst (ks.map V.int)) ∧ lotB ks (-1) ((i + 1 : Nat) : Int) = true := ⟨_, hD, by rw [List.length_map]; exact small1000 (by omega), ks ++ [(i : Int)], same_mut s nD, by rw [upd_same, Int.zero_add, List.map_append]; rfl, by
          rw [show ((i + 1 : Nat) : Int) = (i : Int) + 1 by omega]
          exact lotB_snoc ok (by omega)⟩
        have NO : ∃ ks : List Int, Same H H' ∧ H' D = some (.lst (ks.map V.int)) ∧ lotB ks (-1) ((i + 1 : Nat) : Int) = true := ⟨ks, s, hD, lotB_mono ok (by omega)⟩
        refine ⟨rfl, ?_⟩
        refine ⟨_, rfl, _, rfl, L, _, rfl, .inl (lst_l (s _ _ hL)), rfl, ints_flat _, _, rfl, _, rfl, .inl ⟨pc, rfl, _, rfl, _, _, rfl, rfl, of_decide_eq_true c2, rfl, rfl, _, rfl, ite2N (fun _ => ⟨_, rfl, YES⟩) (fun _ => NO)⟩⟩
      rintro H2 ⟨ks, s, hD, ok⟩
      exact ⟨D, _, rfl, .inl ⟨lst_l hD, fun u nu => q _ u ks (s.trans (same_upd nu)) upd_same ok⟩⟩
    · refine ⟨_, rfl, rfl, _, rfl, ite2 (fun _ => ?_) (fun _ => ⟨_, rfl, rfl, _, rfl, ite2 (fun _ => ?_) (fun _ => ?_)⟩)⟩
      · refine ⟨_, rfl, _, rfl, by omega, by omega, ?_⟩
        rw [Int.toNat_natCast]
        refine fun D nD => lc_range (lo := 0) (n := ps.length) (fun i H' => ∃ ks : List Int, Same H H' ∧ H' D = some (.lst (ks.map V.int)) ∧ lotB ks (-1) (i : Int) = true) ⟨[], same_upd nD, upd_same, rfl⟩ ?_ ?_
        · rintro i H' hi ⟨ks, s, hD, ok⟩
          have kl := lotB_len ok
          have YES : ∃ acc, H' D = some (.lst acc) ∧ acc.length < sizeLine ∧ ∃ ks : List Int, Same H (upd H' D (.lst (acc ++ [V.int (0 + (i : Int))]))) ∧ upd H' D (.lst (acc ++ [V.int (0 + (i : Int))])) D = some (.lst (ks.map V.int)) ∧ lotB ks (-1) ((i + 1 : Nat) : Int) = true := ⟨_, hD, by rw [List.length_map]; exact small1000 (by omega), ks ++ [(i : Int)], same_mut s nD, by rw [upd_same, Int.zero_add, List.map_append]; rfl, by
            rw [show ((i + 1 : Nat) : Int) = (i : Int) + 1 by omega]
            exact lotB_snoc ok (by omega)⟩
          have NO : ∃ ks : List Int, Same H H' ∧ H' D = some (.lst (ks.map V.int)) ∧ lotB ks (-1) ((i + 1 : Nat) : Int) = true := ⟨ks, s, hD, lotB_mono ok (by omega)⟩
          refine ⟨rfl, ?_⟩
          have p0 := getD_n0 pb.p0 i
          have p1 := getD_le pb.p2 i
          refine ⟨_, rfl, _, rfl, P, _, _, .int (ps.getD i 0), rfl, rfl, lst_l (s _ _ hP), ?_, _, rfl, r, C_Ratio, dr, _, _, rfl, (s _ _ hr), T.cl_Ratio, T.n_Ratio_bottom, rF_bot T1 B, _, _, rfl, rfl, .inl ⟨by omega, by omega⟩, _, rfl, r, C_Ratio, dr, _, _, rfl, (s _ _ hr), T.cl_Ratio, T.n_Ratio_top, rF_top T1 B, _, _, rfl, rfl, _, rfl, ite2 (fun _ => ⟨_, rfl, YES⟩) (fun _ => NO)⟩
          have := ws_at (ws := ps) (n := 0 + (i : Int)) (by omega) (by omega)
          rw [show (0 + (i : Int)).toNat = i by omega] at this
          exact this
        rintro H2 ⟨ks, s, hD, ok⟩
        exact ⟨D, _, rfl, .inl ⟨lst_l hD, fun u nu => q _ u ks (s.trans (same_upd nu)) upd_same ok⟩⟩
      · refine ⟨_, rfl, _, rfl, by omega, by omega, ?_⟩
        rw [Int.toNat_natCast]
        refine fun D nD => lc_range (lo := 0) (n := ps.length) (fun i H' => ∃ ks : List Int, Same H H' ∧ H' D = some (.lst (ks.map V.int)) ∧ lotB ks (-1) (i : Int) = true) ⟨[], same_upd nD, upd_same, rfl⟩ ?_ ?_
        · rintro i H' hi ⟨ks, s, hD, ok⟩
          have kl := lotB_len ok
          have YES : ∃ acc, H' D = some (.lst acc) ∧ acc.length < sizeLine ∧ ∃ ks : List Int, Same H (upd H' D (.lst (acc ++ [V.int (0 + (i : Int))]))) ∧ upd H' D (.lst (acc ++ [V.int (0 + (i : Int))])) D = some (.lst (ks.map V.int)) ∧ lotB ks (-1) ((i + 1 : Nat) : Int) = true := ⟨_, hD, by rw [List.length_map]; exact small1000 (by omega), ks ++ [(i : Int)], same_mut s nD, by rw [upd_same, Int.zero_add, List.map_append]; rfl, by
            rw [show ((i + 1 : Nat) : Int) = (i : Int) + 1 by omega]
            exact lotB_snoc ok (by omega)⟩
          have NO : ∃ ks : List Int, Same H H' ∧ H' D = some (.lst (ks.map V.int)) ∧ lotB ks (-1) ((i + 1 : Nat) : Int) = true := ⟨ks, s, hD, lotB_mono ok (by omega)⟩
          refine ⟨rfl, ?_⟩
          exact lc_yes (iteT ⟨_, rfl, YES⟩)
        rintro H2 ⟨ks, s, hD, ok⟩
        exact ⟨D, _, rfl, .inl ⟨lst_l hD, fun u nu => q _ u ks (s.trans (same_upd nu)) upd_same ok⟩⟩
      · exact ⟨_, rfl, _, rfl, c9, ps.length, rfl, by omega, fun H' p s np hp => q H' p _ s hp (lotOf_lot c9 ps.length)⟩
    · refine ⟨_, rfl, rfl, _, rfl, ite2 (fun _ => ?_) (fun _ => ⟨_, rfl, rfl, _, rfl, ite2 (fun _ => ?_) (fun _ => ?_)⟩)⟩
      · refine ⟨_, rfl, _, rfl, by omega, by omega, ?_⟩
        rw [Int.toNat_natCast]
        refine fun D nD => lc_range (lo := 0) (n := ps.length) (fun i H' => ∃ ks : List Int, Same H H' ∧ H' D = some (.lst (ks.map V.int)) ∧ lotB ks (-1) (i : Int) = true) ⟨[], same_upd nD, upd_same, rfl⟩ ?_ ?_
        · rintro i H' hi ⟨ks, s, hD, ok⟩
          have kl := lotB_len ok
          have YES : ∃ acc, H' D = some (.lst acc) ∧ acc.length < sizeLine ∧ ∃ ks : List Int, Same H (upd H' D (.lst (acc ++ [V.int (0 + (i : Int))]))) ∧ upd H' D (.lst (acc ++ [V.int (0 + (i : Int))])) D = some (.lst (ks.map V.int)) ∧ lotB ks (-1) ((i + 1 : Nat) : Int) = true := ⟨_, hD, by rw [List.length_map]; exact small1000 (by omega), ks ++ [(i : Int)], same_mut s nD, by rw [upd_same, Int.zero_add, List.map_append]; rfl, by
            rw [show ((i + 1 : Nat) : Int) = (i : Int) + 1 by omega]
            exact lotB_snoc ok (by omega)⟩
          have NO : ∃ ks : List Int, Same H H' ∧ H' D = some (.lst (ks.map V.int)) ∧ lotB ks (-1) ((i + 1 : Nat) : Int) = true := ⟨ks, s, hD, lotB_mono ok (by omega)⟩
          refine ⟨rfl, ?_⟩
          have p0 := getD_n0 pb.p0 i
          have p1 := getD_le pb.p2 i
          refine ⟨_, rfl, _, rfl, P, _, _, .int (ps.getD i 0), rfl, rfl, lst_l (s _ _ hP), ?_, _, rfl, r, C_Ratio, dr, _, _, rfl, (s _ _ hr), T.cl_Ratio, T.n_Ratio_bottom, rF_bot T1 B, _, _, rfl, rfl, .inl ⟨by omega, by omega⟩, _, rfl, r, C_Ratio, dr, _, _, rfl, (s _ _ hr), T.cl_Ratio, T.n_Ratio_top, rF_top T1 B, _, _, rfl, rfl, _, rfl, ite2 (fun _ => ⟨_, rfl, YES⟩) (fun _ => NO)⟩
          have := ws_at (ws := ps) (n := 0 + (i : Int)) (by omega) (by omega)
          rw [show (0 + (i : Int)).toNat = i by omega] at this
          exact this
        rintro H2 ⟨ks, s, hD, ok⟩
        exact ⟨D, _, rfl, .inl ⟨lst_l hD, fun u nu => q _ u ks (s.trans (same_upd nu)) upd_same ok⟩⟩
      · refine ⟨_, rfl, _, rfl, by omega, by omega, ?_⟩
        rw [Int.toNat_natCast]
        refine fun D nD => lc_range (lo := 0) (n := ps.length) (fun i H' => ∃ ks : List Int, Same H H' ∧ H' D = some (.lst (ks.map V.int)) ∧ lotB ks (-1) (i : Int) = true) ⟨[], same_upd nD, upd_same, rfl⟩ ?_ ?_
        · rintro i H' hi ⟨ks, s, hD, ok⟩
          have kl := lotB_len ok
          have YES : ∃ acc, H' D = some (.lst acc) ∧ acc.length < sizeLine ∧ ∃ ks : List Int, Same H (upd H' D (.lst (acc ++ [V.int (0 + (i : Int))]))) ∧ upd H' D (.lst (acc ++ [V.int (0 + (i : Int))])) D = some (.lst (ks.map V.int)) ∧ lotB ks (-1) ((i + 1 : Nat) : Int) = true := ⟨_, hD, by rw [List.length_map]; exact small1000 (by omega), ks ++ [(i : Int)], same_mut s nD, by rw [upd_same, Int.zero_add, List.map_append]; rfl, by
            rw [show ((i + 1 : Nat) : Int) = (i : Int) + 1 by omega]
            exact lotB_snoc ok (by omega)⟩
          have NO : ∃ ks : List Int, Same H H' ∧ H' D = some (.lst (ks.map V.int)) ∧ lotB ks (-1) ((i + 1 : Nat) : Int) = true := ⟨ks, s, hD, lotB_mono ok (by omega)⟩
          refine ⟨rfl, ?_⟩
          exact lc_yes (iteT ⟨_, rfl, YES⟩)
        rintro H2 ⟨ks, s, hD, ok⟩
        exact ⟨D, _, rfl, .inl ⟨lst_l hD, fun u nu => q _ u ks (s.trans (same_upd nu)) upd_same ok⟩⟩
      · exact ⟨_, rfl, _, rfl, c9, ps.length, rfl, by omega, fun H' p s np hp => q H' p _ s hp (lotOf_lot c9 ps.length)⟩
def sp_law (K : PySem.W.Frag) : Sp := fun vs H Q _ => ∃ (a : Addr) (ns : List Int), vs = [.ref a] ∧ SqL K H a (ns.map V.int) ∧ ns.length ≤ 63 ∧ ∀ H', Q (.bl true) H'

theorem ok_law {f : Addr} {fd : FuncData} {C_Weighted C_Ratio C_BadNumber C_TooMany C_ZeroBottom C_BadLot C_Unsure : Addr} (F : Fun K "law" "law" s_law f fd) (T : Txt K mg C_Weighted C_Ratio C_BadNumber C_TooMany C_ZeroBottom C_BadLot C_Unsure) (m_all : mg "all" = none) (m_list : mg "list" = none) (c_Unsure___init__ : ∃ (f : Addr) (fd : FuncData), FnOk P w K mg base (L2.CX P w) 4 f fd ["self", "lows", "highs", "aside"] (sp_Unsure___init__ C_Unsure C_TooMany C_BadNumber) ∧ Mk K C_Unsure f ∧ KBn K fd ["self", "lows", "highs", "aside"] 3 ["aside"] (fun us ws => us ++ ws) (fun vs zs => vs ++ zs)) (c_Unsure_best : CalM P w K mg base (L2.CX P w) 9 C_Unsure "best" ["self", "prices"] (sp_Unsure_best C_Unsure C_Ratio C_BadNumber)) (c_Unsure_least : CalM P w K mg base (L2.CX P w) 7 C_Unsure "least" ["self", "lot", "prices"] (sp_Unsure_least C_Unsure C_Ratio C_BadLot C_BadNumber)) (c__law_cell : Cal P w K mg base CX0 1 "_law_cell" ["_law_script", "_law_place"] (sp__law_cell K)) (c__law_draws : Cal P w K mg base CX0 1 "_law_draws" ["_law_cell_here", "_law_sizes"] (sp__law_draws K)) (c__law_row : Cal P w K mg base CX0 2 "_law_row" ["_law_cell_here", "_law_count"] (sp__law_row K)) (c__law_lot : Cal P w K mg base CX0 1 "_law_lot" ["_law_bits", "_law_many"] (sp__law_lot K)) (c__law_bounds : Cal P w K mg base CX0 3 "_law_bounds" ["_law_low_cell", "_law_high_cell", "_law_count"] sp__law_bounds) (c__law_within : Cal P w K mg base CX0 2 "_law_within" ["_law_cell_here", "_law_couples"] (sp__law_within K)) (c__law_worth : Cal P w K mg base CX0 1 "_law_worth" ["_law_weights", "_law_apart", "_law_prices", "_law_lot_here"] sp__law_worth) (c__law_refuses : Cal P w K mg base CX0 11 "_law_refuses" ["_law_unsure", "_law_form", "_law_prices"] (sp__law_refuses C_Unsure)) (c__law_best_lot : Cal P w K mg base CX0 3 "_law_best_lot" ["_law_told", "_law_lows", "_law_apart", "_law_prices"] (sp__law_best_lot C_Ratio)) (c__law_other : Cal P w K mg base CX0 2 "_law_other" ["_law_way", "_law_bits", "_law_place", "_law_best", "_law_worth_here", "_law_prices"] (sp__law_other C_Ratio)) (c__law_inside : Cal P w K mg base CX0 3 "_law_inside" ["_law_told", "_law_couples"] (sp__law_inside C_Ratio)) : FnOk P w K mg base CX0 12 f fd ["_law_script"] (sp_law K) := by
  refine F.ok sc_law (fun vs H Q E h => ?_) (fun cdv A outer s H vs Q E hr h => ?_)
  · obtain ⟨a, ns, rfl, _⟩ := h
    rfl
  · obtain ⟨a, ns, rfl, hS, hlen, q⟩ := h
    obtain ⟨f_Unsure___init__, fd_Unsure___init__, G_Unsure___init__, M_Unsure___init__, kb_Unsure___init__⟩ := c_Unsure___init__
    obtain ⟨f_Unsure_best, fd_Unsure_best, G_Unsure_best, M_Unsure_best, b_Unsure_best⟩ := c_Unsure_best
    obtain ⟨f_Unsure_least, fd_Unsure_least, G_Unsure_least, M_Unsure_least, b_Unsure_least⟩ := c_Unsure_least
    obtain ⟨f__law_cell, fd__law_cell, G__law_cell, m__law_cell, k__law_cell, b__law_cell⟩ := c__law_cell
    obtain ⟨f__law_draws, fd__law_draws, G__law_draws, m__law_draws, k__law_draws, b__law_draws⟩ := c__law_draws
    obtain ⟨f__law_row, fd__law_row, G__law_row, m__law_row, k__law_row, b__law_row⟩ := c__law_row
    obtain ⟨f__law_lot, fd__law_lot, G__law_lot, m__law_lot, k__law_lot, b__law_lot⟩ := c__law_lot
    obtain ⟨f__law_bounds, fd__law_bounds, G__law_bounds, m__law_bounds, k__law_bounds, b__law_bounds⟩ := c__law_bounds
    obtain ⟨f__law_within, fd__law_within, G__law_within, m__law_within, k__law_within, b__law_within⟩ := c__law_within
    obtain ⟨f__law_worth, fd__law_worth, G__law_worth, m__law_worth, k__law_worth, b__law_worth⟩ := c__law_worth
    obtain ⟨f__law_refuses, fd__law_refuses, G__law_refuses, m__law_refuses, k__law_refuses, b__law_refuses⟩ := c__law_refuses
    obtain ⟨f__law_best_lot, fd__law_best_lot, G__law_best_lot, m__law_best_lot, k__law_best_lot, b__law_best_lot⟩ := c__law_best_lot
    obtain ⟨f__law_other, fd__law_other, G__law_other, m__law_other, k__law_other, b__law_other⟩ := c__law_other
    obtain ⟨f__law_inside, fd__law_inside, G__law_inside, m__law_inside, k__law_inside, b__law_inside⟩ := c__law_inside
    refine ⟨_, (pss_cons (ps_set (i := 1) sc_law.nd rfl (Or.inl rfl) (pe_call G__law_draws (hr.mono (by decide)) (by rfl) m__law_draws k__law_draws b__law_draws .nil pass0 (pa_cons (pe_call G__law_cell (hr.mono (by decide)) (by rfl) m__law_cell k__law_cell b__law_cell .nil pass0 (pa_cons (pv 0) (pa_cons pe_int pa_nil))) (pa_cons (pe_lst (pa_cons pe_int (pa_cons pe_int (pa_cons pe_int (pa_cons pe_int (pa_cons pe_int (pa_cons pe_int pa_nil))))))) pa_nil))))
      (pss_cons (ps_set (i := 2) sc_law.nd rfl (Or.inl rfl) (pe_ix ix_list (pv 1) pe_int (fun _ _ => rfl)))
      (pss_cons (ps_set (i := 3) sc_law.nd rfl (Or.inl rfl) (pe_call G__law_bounds (hr.mono (by decide)) (by rfl) m__law_bounds k__law_bounds b__law_bounds .nil pass0 (pa_cons (pe_call G__law_cell (hr.mono (by decide)) (by rfl) m__law_cell k__law_cell b__law_cell .nil pass0 (pa_cons (pv 0) (pa_cons pe_int pa_nil))) (pa_cons (pe_call G__law_cell (hr.mono (by decide)) (by rfl) m__law_cell k__law_cell b__law_cell .nil pass0 (pa_cons (pv 0) (pa_cons pe_int pa_nil))) (pa_cons (pe_op op_add (pv 2) pe_int) pa_nil)))))
      (pss_cons (ps_setLc (i := 4) (own := [("_law_couple", 18)]) (g := (gName 18)) (tt := tYes) rfl sc_law.nd rfl rfl (sw_true rfl rfl rfl (by decide +kernel)) (pi_list (pe_slice sl_list (pv 3) po_none (po_some (pv 2)))) (blkOk_by (own := [("_law_couple", 18)]) (N := ["_law_script", "_law_drawn", "_law_many", "_law_couples", "_law_lows", "_law_highs", "_law_pair", "_law_prices", "_law_others", "_law_unsure", "_law_passed", "_law_told", "_law_best", "_law_second", "_law_worth_here", "_law_met", "_law_lot_here", "_law_least", "_law_couple", "_law_thing"]) (sc := defScope s_law) (by decide +kernel)) (fun _ _ _ _ _ => (pg_name (i := 18) sc_law.nd rfl (Or.inl rfl))) (fun _ _ _ _ _ => pts_nil) (fun _ _ _ _ _ => (pe_ix (r := rIxT K) ix_tup (pv 18) pe_int (fun _ _ => rfl))))
      (pss_cons (ps_setLc (i := 5) (own := [("_law_couple", 18)]) (g := (gName 18)) (tt := tYes) rfl sc_law.nd rfl rfl (sw_true rfl rfl rfl (by decide +kernel)) (pi_list (pe_slice sl_list (pv 3) po_none (po_some (pv 2)))) (blkOk_by (own := [("_law_couple", 18)]) (N := ["_law_script", "_law_drawn", "_law_many", "_law_couples", "_law_lows", "_law_highs", "_law_pair", "_law_prices", "_law_others", "_law_unsure", "_law_passed", "_law_told", "_law_best", "_law_second", "_law_worth_here", "_law_met", "_law_lot_here", "_law_least", "_law_couple", "_law_thing"]) (sc := defScope s_law) (by decide +kernel)) (fun _ _ _ _ _ => (pg_name (i := 18) sc_law.nd rfl (Or.inl rfl))) (fun _ _ _ _ _ => pts_nil) (fun _ _ _ _ _ => (pe_ix (r := rIxT K) ix_tup (pv 18) pe_int (fun _ _ => rfl))))
      (pss_cons (ps_set (i := 6) sc_law.nd rfl (Or.inl rfl) (pe_ix ix_list (pv 3) (pv 2) (fun _ _ => rfl)))
      (pss_cons (ps_set (i := 7) sc_law.nd rfl (Or.inl rfl) (pe_call G__law_row (hr.mono (by decide)) (by rfl) m__law_row k__law_row b__law_row .nil pass0 (pa_cons (pe_call G__law_cell (hr.mono (by decide)) (by rfl) m__law_cell k__law_cell b__law_cell .nil pass0 (pa_cons (pv 0) (pa_cons pe_int pa_nil))) (pa_cons (pv 2) pa_nil))))
      (pss_cons (ps_set (i := 8) sc_law.nd rfl (Or.inl rfl) (pe_call G__law_within (hr.mono (by decide)) (by rfl) m__law_within k__law_within b__law_within .nil pass0 (pa_cons (pe_call G__law_cell (hr.mono (by decide)) (by rfl) m__law_cell k__law_cell b__law_cell .nil pass0 (pa_cons (pv 0) (pa_cons pe_int pa_nil))) (pa_cons (pv 3) pa_nil))))
      (pss_cons (ps_set (i := 9) sc_law.nd rfl (Or.inl rfl) (pe_makeK (n := 2) M_Unsure___init__ G_Unsure___init__ (hr.mono (by decide)) (by rfl) T.g_Unsure kb_Unsure___init__ passL (pa_cons (pe_callTy call_list_of (by rfl) m_list (by decide +kernel) (pa_cons (pv 4) pa_nil)) (pa_cons (pe_callTy call_list_of (by rfl) m_list (by decide +kernel) (pa_cons (pv 5) pa_nil)) pa_nil)) (pk_cons (pv 6) pk_nil)))
      (Evl.pss_cut (ps_if (PW.pt (pw_and (pt_cmpR op_eq (pe_ix ix_list (pv 1) pe_int (fun _ _ => rfl)) pe_int (nomark _)) (pw_and1 (pt_not (pt_val (pe_call G__law_refuses (hr.mono (by decide)) (by rfl) m__law_refuses k__law_refuses b__law_refuses .nil pass0 (pa_cons (pv 9) (pa_cons (pe_ix ix_list (pv 1) pe_int (fun _ _ => rfl)) (pa_cons (pv 7) pa_nil))))))))) (pss_one (ps_ret pe_bl)) pss_nil)
      (pss_cons (ps_set (i := 10) sc_law.nd rfl (Or.inl rfl) (pe_callTy call_list_of (by rfl) m_list (by decide +kernel) (pa_cons (pv 7) pa_nil)))
      (pss_cons (ps_set (i := 11) sc_law.nd rfl (Or.inl rfl) (pe_meth (pv 9) T.cl_Unsure M_Unsure_best G_Unsure_best (hr.mono (by decide)) b_Unsure_best .nil passL (pa_cons (pv 10) pa_nil)))
      (pss_cons (ps_set (i := 12) sc_law.nd rfl (Or.inl rfl) (pe_call G__law_best_lot (hr.mono (by decide)) (by rfl) m__law_best_lot k__law_best_lot b__law_best_lot .nil pass0 (pa_cons (pv 11) (pa_cons (pv 4) (pa_cons (pe_ix ix_tup (pv 6) pe_int (fun _ _ => rfl)) (pa_cons (pv 7) pa_nil))))))
      (pss_cons (ps_if (PW.pt (pw_or (pt_cmpR (op_neD hr.units) (pv 10) (pv 7) (nomark _)) (pw_or1 (pt_cmpR op_isN (pv 12) pe_non (nomark _))))) (pss_one (ps_ret pe_bl)) pss_nil)
      (pss_cons (ps_set (i := 13) sc_law.nd rfl (Or.inl rfl) (pe_call G__law_row (hr.mono (by decide)) (by rfl) m__law_row k__law_row b__law_row .nil pass0 (pa_cons (pe_call G__law_cell (hr.mono (by decide)) (by rfl) m__law_cell k__law_cell b__law_cell .nil pass0 (pa_cons (pv 0) (pa_cons pe_int pa_nil))) (pa_cons (pv 2) pa_nil))))
      (pss_cons (ps_if (pt_cmpR op_isN (pe_call G__law_best_lot (hr.mono (by decide)) (by rfl) m__law_best_lot k__law_best_lot b__law_best_lot .nil pass0 (pa_cons (pe_meth (pv 9) T.cl_Unsure M_Unsure_best G_Unsure_best (hr.mono (by decide)) b_Unsure_best .nil passL (pa_cons (pe_callTy call_list_of (by rfl) m_list (by decide +kernel) (pa_cons (pv 13) pa_nil)) pa_nil)) (pa_cons (pv 4) (pa_cons (pe_ix ix_tup (pv 6) pe_int (fun _ _ => rfl)) (pa_cons (pv 13) pa_nil))))) pe_non (nomark _)) (pss_one (ps_ret pe_bl)) pss_nil)
      (pss_cons (ps_if (pt_cmpR (op_neD hr.units) (pe_call G__law_best_lot (hr.mono (by decide)) (by rfl) m__law_best_lot k__law_best_lot b__law_best_lot .nil pass0 (pa_cons (pe_meth (pv 9) T.cl_Unsure M_Unsure_best G_Unsure_best (hr.mono (by decide)) b_Unsure_best .nil passL (pa_cons (pv 10) pa_nil)) (pa_cons (pv 4) (pa_cons (pe_ix ix_tup (pv 6) pe_int (fun _ _ => rfl)) (pa_cons (pv 7) pa_nil))))) (pv 12) (nomark _)) (pss_one (ps_ret pe_bl)) pss_nil)
      (pss_cons (ps_set (i := 14) sc_law.nd rfl (Or.inl rfl) (pe_ix ix_tup (pv 11) pe_int (fun _ _ => rfl)))
      (pss_cons (ps_set (i := 15) sc_law.nd rfl (Or.inl rfl) (pe_call G__law_worth (hr.mono (by decide)) (by rfl) m__law_worth k__law_worth b__law_worth .nil pass0 (pa_cons (pv 8) (pa_cons (pe_ix ix_list (pv 8) (pv 2) (fun _ _ => rfl)) (pa_cons (pv 7) (pa_cons (pv 12) pa_nil))))))
      (pss_cons (ps_if (pt_cmpR op_gt (pe_op op_mulW (pe_fld (pv 14) rfl) (pe_ix ix_tup (pv 15) pe_int (fun _ _ => rfl))) (pe_op op_mulW (pe_ix ix_tup (pv 15) pe_int (fun _ _ => rfl)) (pe_fld (pv 14) rfl)) (nomark _)) (pss_one (ps_ret pe_bl)) pss_nil)
      (pss_cons (ps_set (i := 16) sc_law.nd rfl (Or.inr rfl) (pe_call G__law_other (hr.mono (by decide)) (by rfl) m__law_other k__law_other b__law_other .nil pass0 (pa_cons (pe_ix ix_list (pv 1) pe_int (fun _ _ => rfl)) (pa_cons (pe_ix ix_list (pv 1) pe_int (fun _ _ => rfl)) (pa_cons (pe_ix ix_list (pv 1) pe_int (fun _ _ => rfl)) (pa_cons (pv 12) (pa_cons (pv 14) (pa_cons (pv 7) pa_nil))))))))
      (pss_cons (ps_set (i := 17) sc_law.nd rfl (Or.inl rfl) (pe_meth (pv 9) T.cl_Unsure M_Unsure_least G_Unsure_least (hr.mono (by decide)) b_Unsure_least .nil passL (pa_cons (pv 16) (pa_cons (pv 10) pa_nil))))
      (pss_cons (ps_if (PW.pt (pw_or (pt_cmpR (op_neD hr.units) (pv 10) (pv 7) (nomark _)) (pw_or1 (pt_not (pt_val (pe_call G__law_inside (hr.mono (by decide)) (by rfl) m__law_inside k__law_inside b__law_inside .nil pass0 (pa_cons (pv 17) (pa_cons (pv 3) pa_nil)))))))) (pss_one (ps_ret pe_bl)) pss_nil)
      (pss_cons (ps_set (i := 15) sc_law.nd rfl (Or.inl rfl) (pe_call G__law_worth (hr.mono (by decide)) (by rfl) m__law_worth k__law_worth b__law_worth .nil pass0 (pa_cons (pe_ix ix_tup (pv 17) pe_int (fun _ _ => rfl)) (pa_cons (pe_ix ix_tup (pv 17) pe_int (fun _ _ => rfl)) (pa_cons (pv 7) (pa_cons (pv 16) pa_nil))))))
      (pss_cons (ps_if (pt_cmpR op_gt (pe_op op_mulW (pe_ix ix_tup (pv 15) pe_int (fun _ _ => rfl)) (pe_fld (pv 14) rfl)) (pe_op op_mulW (pe_fld (pv 14) rfl) (pe_ix ix_tup (pv 15) pe_int (fun _ _ => rfl))) (nomark _)) (pss_one (ps_ret pe_bl)) pss_nil)
      (pss_cons (ps_if (pt_cmpR op_eq (pe_op op_mulW (pe_ix ix_tup (pv 15) pe_int (fun _ _ => rfl)) (pe_fld (pv 14) rfl)) (pe_op op_mulW (pe_fld (pv 14) rfl) (pe_ix ix_tup (pv 15) pe_int (fun _ _ => rfl))) (nomark _)) (pss_one (ps_ret (pe_callB (cr_all rfl) (by rfl) m_all (by decide +kernel) (pa_cons (pe_lc (own := [("_law_thing", 19)]) (g := (gName 19)) (tt := tYes) rfl sc_law.nd (pi_list (pv 12)) (blkOk_by (own := [("_law_thing", 19)]) (N := ["_law_script", "_law_drawn", "_law_many", "_law_couples", "_law_lows", "_law_highs", "_law_pair", "_law_prices", "_law_others", "_law_unsure", "_law_passed", "_law_told", "_law_best", "_law_second", "_law_worth_here", "_law_met", "_law_lot_here", "_law_least", "_law_couple", "_law_thing"]) (sc := defScope s_law) (by decide +kernel)) (fun _ _ _ _ _ => (pg_name (i := 19) sc_law.nd rfl (Or.inl rfl))) (fun _ _ _ _ _ => pts_nil) (fun _ _ _ _ _ => (pe_cmpR (r := rIn K false) op_in_seq (pv 19) (pv 16) (by rfl)))) pa_nil)))) pss_nil)
      (pss_one (ps_ret pe_bl)))))))))))))))))))))))))))), ?_⟩
    refine ⟨.ref a, rfl, a, ns, 0, rfl, hS, fun c1 => ?_⟩
    refine ⟨(by show 6 ≤ sizeLine; decide), fun p1 np1 => ?_⟩
    refine ⟨c1, p1, [25, 16777216, 4, 24, 4, 48], rfl, lst_l upd_same, by decide, by decide, fun dsd1 H1 d1 wd1 s1 nd1 hd1 => ?_⟩
    have s1 : Same H H1 := (same_upd np1).trans s1
    have nd1 : H d1 = none := (same_upd np1).free nd1
    obtain ⟨x0, rx0, rfl, lx0, ux0, wd1⟩ := wd1.c
    obtain ⟨x1, rx1, rfl, lx1, ux1, wd1⟩ := wd1.c
    obtain ⟨x2, rx2, rfl, lx2, ux2, wd1⟩ := wd1.c
    obtain ⟨x3, rx3, rfl, lx3, ux3, wd1⟩ := wd1.c
    obtain ⟨x4, rx4, rfl, lx4, ux4, wd1⟩ := wd1.c
    obtain ⟨x5, rx5, rfl, lx5, ux5, wd1⟩ := wd1.c
    cases wd1.n
    have Ld1 : SqL K H1 d1 ([x0, x1, x2, x3, x4, x5].map V.int) := lst_l hd1
    refine ⟨_, rfl, d1, _, _, _, rfl, rfl, Ld1, atI_nat (j := 0) rfl, ?_⟩
    obtain ⟨m, rfl⟩ : ∃ m : Nat, x0 = (m : Int) := ⟨x0.toNat, by omega⟩
    have m24 : m ≤ 24 := by omega
    have s12 := s1
    have s2 := Same.refl H1
    refine ⟨_, rfl, a, ns, 1, rfl, s12.seq hS, fun c2 => ⟨_, rfl, a, ns, 2, rfl, s12.seq hS, fun c3 => ⟨_, rfl, _, _, rfl, rfl, c2, c3, m + 1, rfl, by omega, fun H3 L us zs s3 nL hL pr lz bz => ?_⟩⟩⟩
    refine ⟨_, rfl, _, rfl, (m : Int), rfl, L, _, rfl, lst_l hL, fun W0 nW0 => ?_⟩
    rw [show cutV (us.map V.ref) none (some (m : Int)) = (us.take m).map V.ref from (cut_to _ m).trans (List.map_take).symm]
    have sW0 := same_upd (o := .lst ((us.take m).map V.ref)) nW0
    have hW0 : upd H3 W0 (.lst ((us.take m).map V.ref)) W0 = some (.lst ((us.take m).map V.ref)) := upd_same
    generalize upd H3 W0 (.lst ((us.take m).map V.ref)) = HW0 at sW0 hW0 ⊢
    have prW0 := (pr.same sW0).take m
    refine ⟨W0, rfl, ⟨_, lst_l hW0⟩, fun D1 nD1 => lc_list (K := K) (a := W0) (xs := (us.take m).map V.ref) (fun i H' => Same HW0 H' ∧ H' D1 = some (.lst ((((zs.take m).take i).map Prod.fst).map V.int))) ⟨same_upd nD1, upd_same⟩ (fun i H' _ ⟨s, _⟩ => lst_l (s _ _ hW0)) ?_ ?_⟩
    · rintro i x H' hi ⟨s, hD⟩
      have li := (List.getElem?_eq_some_iff.mp hi).1
      rw [List.length_map] at li
      have hi2 : (us.take m)[i]? = some (us.take m)[i] := List.getElem?_eq_getElem li
      rw [List.getElem?_map, hi2] at hi
      obtain rfl := Option.some.inj hi
      have hz : (zs.take m)[i]? = some ((zs.take m)[i]'(prW0.1 ▸ li)) := List.getElem?_eq_getElem _
      have lt2 : (zs.take m).length ≤ 24 := by rw [List.length_take]; omega
      refine ⟨rfl, ?_⟩
      refine lc_yes ?_
      refine iteT ?_
      refine ⟨_, rfl, (us.take m)[i], _, _, _, rfl, rfl, tup_t (s _ _ (prW0.2 i _ _ hi2 hz)), atI_nat (j := 0) rfl, _, hD, ?_, same_mut s nD1, ?_⟩
      · rw [List.length_map, List.length_map, List.length_take]
        exact small1000 (by omega)
      · rw [upd_same, List.take_add_one (l := zs.take m), hz, List.map_append, List.map_append]
        rfl
    rintro H4 ⟨s4, hD1⟩
    rw [List.length_map, prW0.1, List.take_length] at hD1
    have s4 := sW0.trans s4
    clear sW0 hW0 prW0 nW0 nD1
    have hL := s4 _ _ hL
    have pr := pr.same s4
    refine ⟨_, rfl, _, rfl, (m : Int), rfl, L, _, rfl, lst_l hL, fun W1 nW1 => ?_⟩
    rw [show cutV (us.map V.ref) none (some (m : Int)) = (us.take m).map V.ref from (cut_to _ m).trans (List.map_take).symm]
    have sW1 := same_upd (o := .lst ((us.take m).map V.ref)) nW1
    have hW1 : upd H4 W1 (.lst ((us.take m).map V.ref)) W1 = some (.lst ((us.take m).map V.ref)) := upd_same
    generalize upd H4 W1 (.lst ((us.take m).map V.ref)) = HW1 at sW1 hW1 ⊢
    have prW1 := (pr.same sW1).take m
    refine ⟨W1, rfl, ⟨_, lst_l hW1⟩, fun D2 nD2 => lc_list (K := K) (a := W1) (xs := (us.take m).map V.ref) (fun i H' => Same HW1 H' ∧ H' D2 = some (.lst ((((zs.take m).take i).map Prod.snd).map V.int))) ⟨same_upd nD2, upd_same⟩ (fun i H' _ ⟨s, _⟩ => lst_l (s _ _ hW1)) ?_ ?_⟩
    · rintro i x H' hi ⟨s, hD⟩
      have li := (List.getElem?_eq_some_iff.mp hi).1
      rw [List.length_map] at li
      have hi2 : (us.take m)[i]? = some (us.take m)[i] := List.getElem?_eq_getElem li
      rw [List.getElem?_map, hi2] at hi
      obtain rfl := Option.some.inj hi
      have hz : (zs.take m)[i]? = some ((zs.take m)[i]'(prW1.1 ▸ li)) := List.getElem?_eq_getElem _
      have lt2 : (zs.take m).length ≤ 24 := by rw [List.length_take]; omega
      refine ⟨rfl, ?_⟩
      refine lc_yes ?_
      refine iteT ?_
      refine ⟨_, rfl, (us.take m)[i], _, _, _, rfl, rfl, tup_t (s _ _ (prW1.2 i _ _ hi2 hz)), atI_nat (j := 1) rfl, _, hD, ?_, same_mut s nD2, ?_⟩
      · rw [List.length_map, List.length_map, List.length_take]
        exact small1000 (by omega)
      · rw [upd_same, List.take_add_one (l := zs.take m), hz, List.map_append, List.map_append]
        rfl
    rintro H5 ⟨s5, hD2⟩
    rw [List.length_map, prW1.1, List.take_length] at hD2
    have s5 := sW1.trans s5
    clear sW1 hW1 prW1 nW1 nD2
    have hL := s5 _ _ hL
    have pr := pr.same s5
    have hD1 := s5 _ _ hD1
    have s15 := s3.trans (s4.trans s5)
    clear s3 s4 s5
    obtain ⟨ls, els⟩ : ∃ ls, ls = (zs.take m).map Prod.fst := ⟨_, rfl⟩
    obtain ⟨hs, ehs⟩ : ∃ hs, hs = (zs.take m).map Prod.snd := ⟨_, rfl⟩
    rw [← els] at hD1
    rw [← ehs] at hD2
    have zm : m < zs.length := by omega
    have lls : ls.length = m := by rw [els, List.length_map, List.length_take]; omega
    have lhs : hs.length = m := by rw [ehs, List.length_map, List.length_take]; omega
    have atl : ∀ i, i < m → ∃ z, zs[i]? = some z ∧ ls.getD i 0 = z.1 ∧ hs.getD i 0 = z.2 := fun i hi => by
      obtain ⟨z0, e⟩ : ∃ z0, zs[i]? = some z0 := ⟨_, List.getElem?_eq_getElem (by omega)⟩
      refine ⟨z0, e, ?_, ?_⟩
      · rw [els, List.getD_eq_getElem?_getD, List.getElem?_map, List.getElem?_take_of_lt hi, e]
        rfl
      · rw [ehs, List.getD_eq_getElem?_getD, List.getElem?_map, List.getElem?_take_of_lt hi, e]
        rfl
    have wbl : WB ls ls.length := ⟨rfl, fun w hw => by
      rw [els] at hw
      obtain ⟨z, hz, rfl⟩ := List.mem_map.mp hw
      exact (bz z (List.mem_of_mem_take hz)).1, fun w hw => by
      rw [els] at hw
      obtain ⟨z, hz, rfl⟩ := List.mem_map.mp hw
      have := bz z (List.mem_of_mem_take hz)
      omega⟩
    have wbh : WB hs ls.length := ⟨lhs.trans lls.symm, fun w hw => by
      rw [ehs] at hw
      obtain ⟨z, hz, rfl⟩ := List.mem_map.mp hw
      have := bz z (List.mem_of_mem_take hz)
      omega, fun w hw => by
      rw [ehs] at hw
      obtain ⟨z, hz, rfl⟩ := List.mem_map.mp hw
      exact (bz z (List.mem_of_mem_take hz)).2.2⟩
    have gz : zs[m]? = some zs[m] := List.getElem?_eq_getElem zm
    have bzm := bz _ (List.getElem_mem zm)
    obtain ⟨u, gu⟩ : ∃ u, us[m]? = some u := ⟨_, List.getElem?_eq_getElem (by rw [pr.1]; exact zm)⟩
    have hu := pr.2 m u _ gu gz
    obtain ⟨za, zb, ez⟩ : ∃ za zb, zs[m] = (za, zb) := ⟨_, _, rfl⟩
    rw [ez] at hu bzm gz
    have fu : FU ls hs za zb := ⟨wbl, wbh, by have := bzm.1; omega, bzm.2.1, by have := bzm.1; have := bzm.2.1; omega, bzm.2.2⟩
    have made : dueU ls hs za zb = .made := dueU_made (by omega) (lhs.trans lls.symm) (badU_none fun k hk => by
      obtain ⟨z, hz, e1, e2⟩ := atl k (by omega)
      have := bz z (List.mem_of_getElem? hz)
      rw [e1, e2]
      omega) (by have := fu.a1; omega) (by have := fu.ab; omega)
    refine ⟨_, rfl, _, rfl, L, _, _, .ref u, rfl, rfl, lst_l hL, atI_nat (j := m) (by rw [List.getElem?_map, gu]; rfl), ?_⟩
    have s05 := s12.trans s15
    refine ⟨_, rfl, a, ns, 3, rfl, s05.seq hS, fun c4 => ⟨_, rfl, c4, m, rfl, by omega, fun ps H6 P lp bp s6 nP hP => ?_⟩⟩
    have s06 := s05.trans s6
    refine ⟨_, rfl, a, ns, 4, rfl, s06.seq hS, fun c5 => ⟨_, rfl, c5, L, us, zs, rfl, s6 _ _ hL, pr.same s6, by omega, bz, fun H7 O os s7 hO lo bo => ?_⟩⟩
    have s57 := s6.trans s7
    have hD1 := s57 _ _ hD1
    have hD2 := s57 _ _ hD2
    have hu := s57 _ _ hu
    have hP := s7 _ _ hP
    have Ld := ((s2.trans s15).trans s57).seq Ld1
    have s07 := s05.trans s57
    have hL := s57 _ _ hL
    have pr := pr.same s57
    clear s6 s7 s05 s06 s15 s12 s2 Ld1 s57
    refine ⟨_, rfl, D1, _, rfl, .inl (lst_l hD1), fun L1 nL1 => ?_⟩
    have t1 := same_upd (o := .lst (ls.map V.int)) nL1
    refine ⟨_, rfl, D2, _, rfl, .inl (lst_l (t1 _ _ hD2)), fun L2 nL2 => ?_⟩
    have t2 := same_upd (o := .lst (hs.map V.int)) nL2
    have hL1 := t2 _ _ (upd_same (H := H7) (a := L1) (o := .lst (ls.map V.int)))
    have hL2 := upd_same (H := upd H7 L1 (.lst (ls.map V.int))) (a := L2) (o := .lst (hs.map V.int))
    have t12 := t1.trans t2
    generalize upd (upd H7 L1 (.lst (ls.map V.int))) L2 (.lst (hs.map V.int)) = H8 at t12 hL1 hL2 ⊢
    clear t1 t2 nL1 nL2
    refine ⟨_, rfl, rfl, rfl, fun x dx nx nd ne => ?_⟩
    have s0 : Same H8 (upd (upd H8 dx (.own x)) x (.ins C_Unsure dx [])) := fun b o e => by
      rw [upd_ne (ne_of_none e nx), upd_ne (ne_of_none e nd)]
      exact e
    refine ⟨x, dx, L1, L2, u, ls, hs, za, zb, rfl, upd_same, s0 _ _ hL1, s0 _ _ hL2, s0 _ _ (t12 _ _ hu), by omega, by omega, fun n e => DueU.noConfusion (made.symm.trans e), fun w v e => DueU.noConfusion (made.symm.trans e), fun _ H9 sx ua => ⟨rfl, ?_⟩⟩
    have s79 := t12.trans (sameX_made nx nd sx)
    clear s0 sx t12 hL1 hL2 nx nd ne
    have hD1 := s79 _ _ hD1
    have hD2 := s79 _ _ hD2
    have hu := s79 _ _ hu
    have hP := s79 _ _ hP
    have hO := s79 _ _ hO
    have Ld := s79.seq Ld
    have hL := s79 _ _ hL
    have pr := pr.same s79
    have s09 := s07.trans s79
    have hn : negAt ps 0 = none := negAt_none fun p hp => (bp p hp).1
    have p18 : ∀ p ∈ ps, p ≤ 10 ^ 18 := fun p hp => by have := bp p hp; omega
    clear s07 s79
    refine ⟨fun σ' H' => Same H9 H' ∧ σ' = [some (.ref a), some (.ref d1), some (.int (m : Int)), some (.ref L), some (.ref D1), some (.ref D2), some (.ref u), some (.ref P), some (.ref O), some (.ref x), none, none, none, none, none, none, none, none, none, none], ?_, ?_⟩
    · refine ⟨_, rfl, d1, _, _, _, rfl, rfl, Ld, atI_nat (j := 4) rfl, rfl, _, rfl, ite2 (fun c => ?_) (fun _ => iteF ⟨Same.refl _, rfl⟩)⟩
      exact ⟨_, rfl, _, rfl, d1, _, _, _, rfl, rfl, Ld, atI_nat (j := 5) rfl, _, rfl, x, P, ls, hs, ps, za, zb, x5, rfl, ua, fu, by omega, hP, p18, by omega, hn, by omega, by omega, fun H' s => ⟨true, rfl, iteF ⟨s, rfl⟩⟩⟩
    rintro σ' H10 ⟨s10, rfl⟩
    refine ⟨_, rfl, P, _, rfl, .inl (lst_l (s10 _ _ hP)), fun R nR => ?_⟩
    have t1 := same_upd (o := .lst (ps.map V.int)) nR
    have hR := upd_same (H := H10) (a := R) (o := .lst (ps.map V.int))
    have s10 := s10.trans t1
    generalize upd H10 R (.lst (ps.map V.int)) = H11 at hR s10 ⊢
    clear t1 nR
    have s09 := s09.trans s10
    have hD1 := s10 _ _ hD1
    have hu := s10 _ _ hu
    have hP := s10 _ _ hP
    have hO := s10 _ _ hO
    have hL := s10 _ _ hL
    have pr := pr.same s10
    have Ld := s10.seq Ld
    have ua := ua.same s10
    clear s10 hD2
    obtain ⟨dx, tl, th, ta, hx, htl, hth, hta⟩ := id ua
    have pbp : PB ps m := ⟨lp, fun p hp => (bp p hp).1, p18⟩
    have pbl : PB ps ls.length := by rw [lls]; exact pbp
    have za1 := bzm.1
    have zab := bzm.2.1
    have zb2 := bzm.2.2
    simp only at za1 zab zb2
    have fi : Fine ls zb ps := wbl.fine pbl (by omega) (by omega) zb2
    have wit : Wit ls hs os := fun i hi => by
      obtain ⟨z, hz, e1, e2⟩ := atl i (by omega)
      have eo : os[i]? = some os[i] := List.getElem?_eq_getElem (by omega)
      have := bo i _ z eo hz
      rw [e1, e2, List.getD_eq_getElem?_getD, eo]
      exact this
    obtain ⟨om, gom⟩ : ∃ om, os[m]? = some om := ⟨_, List.getElem?_eq_getElem (by omega)⟩
    have bom := bo m om _ gom gz
    simp only at bom
    have bos : ∀ w ∈ os, 1 ≤ w ∧ w ≤ 10 ^ 18 := fun w hw => by
      obtain ⟨i, hi, e⟩ := List.mem_iff_getElem.mp hw
      have h1 := bo i w _ (by rw [List.getElem?_eq_getElem hi, e]) (List.getElem?_eq_getElem (show i < zs.length by omega))
      have h2 := bz _ (List.getElem_mem (show i < zs.length by omega))
      omega
    refine ⟨_, rfl, x, dx, _, rfl, hx, fU_best _ _ _ _, _, rfl, x, R, ls, hs, ps, za, zb, rfl, ua, fu, by omega, hR, by omega, p18, fun e => absurd (by omega) e, fun _ k hk => absurd (hn.symm.trans hk) (by simp), fun _ _ H12 t1 l1 r1 T1 B1 k1 s11 ht1 hl1 ra1 bk1 => ?_⟩
    refine ⟨_, rfl, _, rfl, _, rfl, u, _, _, _, rfl, rfl, tup_t (s11 _ _ hu), atI_nat (j := 1) rfl, _, rfl, t1, D1, P, l1, r1, ls, ps, zb, T1, B1, k1, rfl, ht1, hl1, ra1, bk1, s11 _ _ hD1, s11 _ _ hP, fi, pbl, fun H13 D3 s12 nD3 hD3 => ?_⟩
    have ht1 := s12 _ _ ht1
    have ra1 := ra1.same s12
    have s11 := s11.trans s12
    have hR := s11 _ _ hR
    have hP := s11 _ _ hP
    have hD1 := s11 _ _ hD1
    have hu := s11 _ _ hu
    have hO := s11 _ _ hO
    have hL := s11 _ _ hL
    have hx := s11 _ _ hx
    have pr := pr.same s11
    have Ld := s11.seq Ld
    have ua := ua.same s11
    have s09 := s09.trans s11
    clear s11 s12 nD3 hl1 htl hth hta
    refine ⟨_, rfl, _, rfl, _, _, dp_ints (lst_l hR), dp_ints (lst_l hP), sh_ints _, sh_ints _, false, (by rw [SeqAt.eqv_refl _ (SeqAt.canLay_of_shaped (sh_ints _))]; rfl), iteF ?_⟩
    refine ⟨_, rfl, rfl, _, rfl, iteDF (fun z => by cases z) ?_⟩
    refine ⟨_, rfl, a, ns, 5, rfl, s09.seq hS, fun c6 => ⟨_, rfl, c6, m, rfl, by omega, fun qs H14 Z lq bq sa nZ hZ => ?_⟩⟩
    have hR := sa _ _ hR
    have hP := sa _ _ hP
    have hD1 := sa _ _ hD1
    have hu := sa _ _ hu
    have hO := sa _ _ hO
    have hL := sa _ _ hL
    have hx := sa _ _ hx
    have hD3 := sa _ _ hD3
    have ht1 := sa _ _ ht1
    have pr := pr.same sa
    have ua := ua.same sa
    have ra1 := ra1.same sa
    have Ld := sa.seq Ld
    have s09 := s09.trans sa
    clear sa nZ
    have pbq : PB qs m := ⟨lq, fun p hp => (bq p hp).1, fun p hp => by have := bq p hp; omega⟩
    have pbql : PB qs ls.length := by rw [lls]; exact pbq
    have hnq : negAt qs 0 = none := negAt_none pbq.p0
    have fiq : Fine ls zb qs := wbl.fine pbql (by omega) (by omega) zb2
    refine ⟨_, rfl, x, dx, _, rfl, hx, fU_best _ _ _ _, _, rfl, Z, _, rfl, .inl (lst_l hZ), fun R2 nR2 => ?_⟩
    have sb := same_upd (o := .lst (qs.map V.int)) nR2
    refine ⟨x, R2, ls, hs, qs, za, zb, rfl, ua.same sb, fu, by omega, upd_same, by omega, pbq.p2, fun e => absurd (by omega) e, fun _ k hk => absurd (hnq.symm.trans hk) (by simp), fun _ _ H15 t2 l2 r2 T2 B2 k2 sc ht2 hl2 ra2 bk2 => ?_⟩
    have sa := sb.trans sc
    refine ⟨_, rfl, _, rfl, u, _, _, _, rfl, rfl, tup_t (sa _ _ hu), atI_nat (j := 1) rfl, _, rfl, t2, D1, Z, l2, r2, ls, qs, zb, T2, B2, k2, rfl, ht2, hl2, ra2, bk2, sa _ _ hD1, sa _ _ hZ, fiq, pbql, fun H16 D4 sd nD4 hD4 => ?_⟩
    have sa := sa.trans sd
    have hR := sa _ _ hR
    have hP := sa _ _ hP
    have hD1 := sa _ _ hD1
    have hu := sa _ _ hu
    have hO := sa _ _ hO
    have hL := sa _ _ hL
    have hx := sa _ _ hx
    have hD3 := sa _ _ hD3
    have ht1 := sa _ _ ht1
    have pr := pr.same sa
    have ua := ua.same sa
    have ra1 := ra1.same sa
    have Ld := sa.seq Ld
    have s09 := s09.trans sa
    clear sa sb sc sd nR2 ht2 hl2 ra2 bk2 nD4 hD4 hZ fiq pbql pbq hnq
    refine ⟨rfl, _, rfl, iteDF (fun z => by cases z) ?_⟩
    refine ⟨_, rfl, x, dx, _, rfl, hx, fU_best _ _ _ _, _, rfl, x, R, ls, hs, ps, za, zb, rfl, ua, fu, by omega, hR, by omega, p18, fun e => absurd (by omega) e, fun _ k hk => absurd (hn.symm.trans hk) (by simp), fun _ _ H17 t3 l3 r3 T3 B3 k3 sa ht3 hl3 ra3 bk3 => ?_⟩
    refine ⟨_, rfl, _, rfl, u, _, _, _, rfl, rfl, tup_t (sa _ _ hu), atI_nat (j := 1) rfl, _, rfl, t3, D1, P, l3, r3, ls, ps, zb, T3, B3, k3, rfl, ht3, hl3, ra3, bk3, sa _ _ hD1, sa _ _ hP, fi, pbl, fun H18 D5 sb nD5 hD5 => ?_⟩
    have sa := sa.trans sb
    rw [dearU_one (m := ls.length) bk3.B0 bk1.B0 (BestK.one fu.b1 fu.l.w1 bk3 bk1).1] at hD5
    have hR := sa _ _ hR
    have hP := sa _ _ hP
    have hD1 := sa _ _ hD1
    have hu := sa _ _ hu
    have hO := sa _ _ hO
    have hL := sa _ _ hL
    have hx := sa _ _ hx
    have hD3 := sa _ _ hD3
    have ht1 := sa _ _ ht1
    have pr := pr.same sa
    have ua := ua.same sa
    have ra1 := ra1.same sa
    have Ld := sa.seq Ld
    have s09 := s09.trans sa
    clear sa sb nD5 hl3 ra3 bk3 ht3
    have ind := fun n (hn : n ∈ dearU ps T1 B1 ls.length) => dearU_in hn
    have inU : ∀ d, 0 ≤ d → d < (ls.length : Int) → T1 < ps.getD d.toNat 0 * B1 → d ∈ dearU ps T1 B1 ls.length := fun d h0 h1 h2 => dearU_mem h0 h1 h2
    have nld := dearU_len ps T1 B1 ls.length
    have eqd : T1 * (zb + wSum ls (dearU ps T1 B1 ls.length)) = vSum ls ps (dearU ps T1 B1 ls.length) * B1 := (bk1.dear_at fi.w1).symm
    generalize dearU ps T1 B1 ls.length = ds at hD3 hD5 ind inU nld eqd
    refine ⟨_, rfl, _, _, dp_ints (lst_l hD5), dp_ints (lst_l hD3), sh_ints _, sh_ints _, false, (by rw [SeqAt.eqv_refl _ (SeqAt.canLay_of_shaped (sh_ints _))]; rfl), iteF ?_⟩
    clear hD5
    refine ⟨_, rfl, t1, _, _, _, rfl, rfl, tup_t ht1, atI_nat (j := 1) rfl, ?_⟩
    refine ⟨_, rfl, _, rfl, _, rfl, O, _, _, _, rfl, rfl, lst_l hO, atI_nat (j := m) (int_at gom), _, rfl, _, rfl, O, P, D3, os, ps, ds, om, rfl, hO, hP, .inl hD3, bos, by omega, fun n hn => by have := ind n hn; omega, fun H19 t sa ht => ?_⟩
    have hR := sa _ _ hR
    have hP := sa _ _ hP
    have hD1 := sa _ _ hD1
    have hu := sa _ _ hu
    have hO := sa _ _ hO
    have hL := sa _ _ hL
    have hx := sa _ _ hx
    have hD3 := sa _ _ hD3
    have pr := pr.same sa
    have ua := ua.same sa
    have ra1 := ra1.same sa
    have Ld := sa.seq Ld
    have s09 := s09.trans sa
    clear sa
    obtain ⟨dr1, hr1⟩ := id ra1
    have T10 := bk1.T0
    have T1b := bk1.Tb
    have B1b := bk1.Bb
    have B10 := bk1.B0
    have bd3 := vw_bd2 (fun w h => (bos w h).1) (fun w h => (bos w h).2) pbp.p0 pbp.p2 (ns := ds) (by omega)
    have sT1 : Sm T1 := sm_36 T10 (by omega)
    have sB1 : Sm B1 := sm_36 (by omega) (by omega)
    have sV : Sm (vSum os ps ds) := sm_36 bd3.1 (by omega)
    have sD : Sm (om + wSum os ds) := sm_36 (by omega) (by omega)
    have le1 := best_under wit ind eqd T10 bom.2
    refine ⟨_, rfl, r1, C_Ratio, dr1, _, _, rfl, hr1, T.cl_Ratio, T.n_Ratio_top, rF_top T1 B1, _, rfl, t, _, _, _, rfl, rfl, tup_t ht, atI_nat (j := 1) rfl, _, _, rfl, rfl, sT1.mul sD, _, rfl, t, _, _, _, rfl, rfl, tup_t ht, atI_nat (j := 0) rfl, _, rfl, r1, C_Ratio, dr1, _, _, rfl, hr1, T.cl_Ratio, T.n_Ratio_bottom, rF_bot T1 B1, _, _, rfl, rfl, sV.mul sB1, _, _, rfl, rfl, _, rfl, ite2 (fun c => absurd (of_decide_eq_true c) (by omega)) (fun _ => ?_)⟩
    clear sV sD bd3 le1 ht
    refine ⟨_, rfl, d1, _, _, _, rfl, rfl, Ld, atI_nat (j := 2) rfl, _, rfl, d1, _, _, _, rfl, rfl, Ld, atI_nat (j := 1) rfl, _, rfl, d1, _, _, _, rfl, rfl, Ld, atI_nat (j := 3) rfl, _, rfl, _, rfl, _, rfl, x2, x1, x3, D3, r1, P, ds, ps, T1, B1, rfl, hD3, ra1, hP, by omega, by rw [lp]; exact pbp, fun H20 A ms sa hA okm => ?_⟩
    rw [lp] at okm
    have hR := sa _ _ hR
    have hP := sa _ _ hP
    have hD1 := sa _ _ hD1
    have hu := sa _ _ hu
    have hO := sa _ _ hO
    have hL := sa _ _ hL
    have hx := sa _ _ hx
    have hD3 := sa _ _ hD3
    have pr := pr.same sa
    have ua := ua.same sa
    have ra1 := ra1.same sa
    have Ld := sa.seq Ld
    have s09 := s09.trans sa
    clear sa hr1
    have nm := lotB_len okm
    have okl : lotB ms (-1) (ls.length : Int) = true := by rw [lls]; exact okm
    have inm := lotB_in okl
    refine ⟨_, rfl, x, dx, _, rfl, hx, fU_least _ _ _ _, _, rfl, _, rfl, x, A, R, ls, hs, ms, ps, za, zb, rfl, ua, hA, hR, by omega, by omega, by omega, fu, p18, fun e => absurd (by omega) e, fun _ k hk => absurd (hn.symm.trans hk) (by simp), fun _ _ c => absurd (okl.symm.trans c) (by simp), fun _ _ _ H21 u1 r2 W1 T2 B2 sa nW1 hu1 ra2 hW1 lo1 => ?_⟩
    have hR := sa _ _ hR
    have hP := sa _ _ hP
    have hD1 := sa _ _ hD1
    have hu := sa _ _ hu
    have hO := sa _ _ hO
    have hL := sa _ _ hL
    have hx := sa _ _ hx
    have hD3 := sa _ _ hD3
    have hA := sa _ _ hA
    have pr := pr.same sa
    have ua := ua.same sa
    have ra1 := ra1.same sa
    have Ld := sa.seq Ld
    have s09 := s09.trans sa
    clear sa nW1
    refine ⟨_, rfl, _, rfl, _, _, dp_ints (lst_l hR), dp_ints (lst_l hP), sh_ints _, sh_ints _, false, (by rw [SeqAt.eqv_refl _ (SeqAt.canLay_of_shaped (sh_ints _))]; rfl), iteF ?_⟩
    have wb2 : WB (tw ls ls hs ps ms T2 B2) ls.length := wof_wb wbl wbl wbh _ _
    have w2l := wb2.len
    have bd2 := vw_bd2 wb2.w1 wb2.w2 pbp.p0 pbp.p2 (ns := ms) (by omega)
    have bd4 := vw_bd2 wbl.w1 wbl.w2 pbp.p0 pbp.p2 (ns := ms) (by omega)
    have D20 : 0 < zb + wSum (tw ls ls hs ps ms T2 B2) ms := by omega
    have T20 := low_nn lo1 bd2.1 D20
    have lb := least_best (wit_self wit) bk1 okl lo1 T20 D20 (by omega)
    have la := fun eq => least_all (T1 := T2) (B1 := B2) (fun i hi => (wbl.at hi).1) (wit_self wit) bk1 okl lo1 D20 eq
    refine ⟨_, rfl, _, rfl, u1, L, r2, W1, us, zs, tw ls ls hs ps ms T2 B2, zb, T2, B2, rfl, hu1, ra2, lo1.pos, hW1, hL, pr, by omega, by omega, fun i f z hf hz => ?_, fun H22 sa => ⟨true, rfl, iteF ?_⟩⟩
    · by_cases im : i < m
      · rw [List.getElem?_append_left (by omega)] at hf
        have hf2 : (tw ls ls hs ps ms T2 B2)[i]? = some (wofV ls ls hs ms (twT ps ms T2 B2) i) := wof_at (by omega)
        obtain rfl := Option.some.inj (hf2.symm.trans hf)
        obtain ⟨z2, hz2, e1, e2⟩ := atl i im
        obtain rfl := Option.some.inj (hz2.symm.trans hz)
        have bz2 := bz _ (List.mem_of_getElem? hz)
        unfold wofV
        split
        · rw [e1]
          omega
        · split
          · rw [e2]
            omega
          · rw [e1]
            omega
      · have ie : i = m := by
          have := (List.getElem?_eq_some_iff.mp hz).1
          omega
        subst ie
        rw [List.getElem?_append_right (by omega), w2l, lls, Nat.sub_self] at hf
        obtain rfl := Option.some.inj hf
        obtain rfl := Option.some.inj (gz.symm.trans hz)
        exact ⟨zab, Int.le_refl _⟩
    have hu1 := sa _ _ hu1
    have hW1 := sa _ _ hW1
    have hP := sa _ _ hP
    have hA := sa _ _ hA
    have hD3 := sa _ _ hD3
    have ra1 := ra1.same sa
    clear sa
    refine ⟨_, rfl, u1, _, _, _, rfl, rfl, tup_t hu1, atI_nat (j := 1) rfl, _, rfl, u1, _, _, _, rfl, rfl, tup_t hu1, atI_nat (j := 2) rfl, _, rfl, _, rfl, W1, P, A, tw ls ls hs ps ms T2 B2, ps, ms, zb, rfl, hW1, hP, .inr hA, fun w hw => ⟨wb2.w1 w hw, wb2.w2 w hw⟩, by omega, fun n hn => by have := inm n hn; omega, fun H23 t4 sa ht4 => ?_⟩
    have hA := sa _ _ hA
    have hD3 := sa _ _ hD3
    obtain ⟨dr1, hr1⟩ := ra1.same sa
    clear sa
    have sV : Sm (vSum (tw ls ls hs ps ms T2 B2) ps ms) := sm_36 bd2.1 (by omega)
    have sD : Sm (zb + wSum (tw ls ls hs ps ms T2 B2) ms) := sm_36 (by omega) (by omega)
    refine ⟨_, rfl, t4, _, _, _, rfl, rfl, tup_t ht4, atI_nat (j := 0) rfl, _, rfl, r1, C_Ratio, dr1, _, _, rfl, hr1, T.cl_Ratio, T.n_Ratio_bottom, rF_bot T1 B1, _, _, rfl, rfl, sV.mul sB1, _, rfl, r1, C_Ratio, dr1, _, _, rfl, hr1, T.cl_Ratio, T.n_Ratio_top, rF_top T1 B1, _, rfl, t4, _, _, _, rfl, rfl, tup_t ht4, atI_nat (j := 1) rfl, _, _, rfl, rfl, sT1.mul sD, _, _, rfl, rfl, _, rfl, ite2 (fun c => absurd (of_decide_eq_true c) (by omega)) (fun _ => ?_)⟩
    refine ⟨_, rfl, t4, _, _, _, rfl, rfl, tup_t ht4, atI_nat (j := 0) rfl, _, rfl, r1, C_Ratio, dr1, _, _, rfl, hr1, T.cl_Ratio, T.n_Ratio_bottom, rF_bot T1 B1, _, _, rfl, rfl, sV.mul sB1, _, rfl, r1, C_Ratio, dr1, _, _, rfl, hr1, T.cl_Ratio, T.n_Ratio_top, rF_top T1 B1, _, rfl, t4, _, _, _, rfl, rfl, tup_t ht4, atI_nat (j := 1) rfl, _, _, rfl, rfl, sT1.mul sD, rfl, _, rfl, ite2 (fun c => ?_) (fun _ => q _)⟩
    have c := V.int.inj (of_decide_eq_true c)
    have all := la c
    refine ⟨_, rfl, D3, rfl, ⟨_, lst_l hD3⟩, fun D nD => lc_list (K := K) (a := D3) (xs := ds.map V.int) (fun i H' => Same H23 H' ∧ H' D = some (.lst ((List.replicate i true).map V.bl))) ⟨same_upd nD, upd_same⟩ (fun i H' _ ⟨s, _⟩ => lst_l (s _ _ hD3)) ?_ ?_⟩
    · rintro i y H' hi ⟨s, hD⟩
      obtain ⟨n, rfl, hin⟩ := int_of hi
      have nd := ind n (List.mem_of_getElem? hin)
      have il := (List.getElem?_eq_some_iff.mp hin).1
      have mem := all n nd.1 nd.2.1 nd.2.2
      refine ⟨rfl, ?_⟩
      refine lc_yes ?_
      refine iteT ?_
      refine ⟨_, rfl, _, rfl, A, _, rfl, .inr (tup_t (s _ _ hA)), rfl, ints_flat _, _, hD, ?_, same_mut s nD, ?_⟩
      · rw [List.length_map, List.length_replicate]
        exact small1000 (by omega)
      · rw [upd_same, List.replicate_succ', List.map_append]
        exact congrArg (fun z => some (HO.lst ((List.replicate i true).map V.bl ++ [V.bl z]))) (inV_int.mpr mem)
    rintro H24 ⟨s, hD⟩
    refine ⟨D, List.replicate (ds.map V.int).length true, rfl, lst_l hD, ?_⟩
    rw [show (List.replicate (ds.map V.int).length true).all id = true from by simp]
    exact q _
end
/-! ### what the top has written; the law's own head -/
theorem all_mk {l : PySem.W.OpenLaw} {w : World} {K : PySem.W.Frag} {h : Heap} {mg : Str → Option Value} {fa f1 f2 f3 f4 f5 f6 f7 f8 f9 f10 f11 f12 f13 f14 f15 f16 f17 f18 f19 f20 f21 f22 f23 f24 f25 f26 f27 f28 f29 f30 f31 f32 f33 f34 f35 f36 f37 f38 f39 f40 f41 f42 f43 f44 f45 f46 f47 f48 f49 f50 f51 f52 C_Weighted C_Ratio C_BadNumber C_TooMany C_ZeroBottom C_BadLot C_Unsure fx_rf_Ratio_add fx_of_Ratio_add fx_rf_Ratio_mul fx_of_Ratio_mul : Addr} (X : K.In h) (G : h.Ns mainGlobals mg) (hfa : mg "law" = some (.ref fa))
    {od1 an1 od2 an2 od3 an3 od4 an4 od5 an5 od6 an6 od7 an7 od8 an8 od9 an9 od10 an10 od11 an11 od12 an12 od13 an13 od14 an14 od15 an15 od16 an16 od17 an17 od18 an18 od19 an19 od20 an20 od21 an21 od22 an22 od23 an23 od24 an24 od25 an25 od26 an26 od27 an27 od28 an28 od29 an29 od30 an30 od31 an31 od32 an32 od33 an33 od34 an34 od35 an35 od36 an36 od37 an37 od38 an38 od39 an39 od40 an40 od41 an41 od42 an42 od43 an43 od44 an44 od45 an45 od46 an46 od47 an47 od48 an48 od49 an49 od50 an50 od51 an51 od52 an52 : Option Addr} {sl1 sl2 sl3 sl4 sl5 sl6 sl7 sl8 sl9 sl10 sl11 sl12 sl13 sl14 sl15 sl16 sl17 sl18 sl19 sl20 sl21 sl22 sl23 sl24 sl25 sl26 sl27 sl28 sl29 sl30 sl31 sl32 sl33 sl34 sl35 sl36 sl37 sl38 sl39 sl40 sl41 sl42 sl43 sl44 sl45 sl46 sl47 sl48 sl49 sl50 sl51 sl52 : Array (Option Value)} {oc1 kV1 dc1 pm1 cd1 ct1 oc2 kV2 dc2 pm2 cd2 ct2 oc3 kV3 dc3 pm3 cd3 ct3 oc4 kV4 dc4 pm4 cd4 ct4 oc5 kV5 dc5 pm5 cd5 ct5 oc6 kV6 dc6 pm6 cd6 ct6 oc7 kV7 dc7 pm7 cd7 ct7 oc8 kV8 dc8 pm8 cd8 ct8 oc9 kV9 dc9 pm9 cd9 ct9 oc10 kV10 dc10 pm10 cd10 ct10 oc11 kV11 dc11 pm11 cd11 ct11 oc12 kV12 dc12 pm12 cd12 ct12 oc13 kV13 dc13 pm13 cd13 ct13 oc14 kV14 dc14 pm14 cd14 ct14 oc15 kV15 dc15 pm15 cd15 ct15 oc16 kV16 dc16 pm16 cd16 ct16 oc17 kV17 dc17 pm17 cd17 ct17 oc18 kV18 dc18 pm18 cd18 ct18 oc19 kV19 dc19 pm19 cd19 ct19 oc20 kV20 dc20 pm20 cd20 ct20 oc21 kV21 dc21 pm21 cd21 ct21 oc22 kV22 dc22 pm22 cd22 ct22 oc23 kV23 dc23 pm23 ct23 oc24 kV24 dc24 pm24 cd24 ct24 oc25 kV25 dc25 pm25 cd25 ct25 oc26 kV26 dc26 pm26 cd26 ct26 oc27 kV27 dc27 pm27 cd27 ct27 oc28 kV28 dc28 pm28 cd28 ct28 oc29 kV29 dc29 pm29 cd29 ct29 oc30 kV30 dc30 pm30 cd30 ct30 oc31 kV31 dc31 pm31 cd31 ct31 oc32 kV32 dc32 pm32 cd32 ct32 oc33 kV33 dc33 pm33 cd33 ct33 oc34 kV34 dc34 pm34 cd34 ct34 oc35 kV35 dc35 pm35 cd35 ct35 oc36 kV36 dc36 pm36 cd36 ct36 oc37 kV37 dc37 pm37 cd37 ct37 oc38 kV38 dc38 pm38 cd38 ct38 oc39 kV39 dc39 pm39 cd39 ct39 oc40 kV40 dc40 pm40 cd40 ct40 oc41 kV41 dc41 pm41 cd41 ct41 oc42 kV42 dc42 pm42 cd42 ct42 oc43 kV43 dc43 pm43 cd43 ct43 oc44 kV44 dc44 pm44 cd44 ct44 oc45 kV45 dc45 pm45 cd45 ct45 oc46 kV46 dc46 pm46 cd46 ct46 oc47 kV47 dc47 pm47 cd47 ct47 oc48 kV48 dc48 pm48 cd48 ct48 oc49 kV49 dc49 pm49 cd49 ct49 oc50 kV50 dc50 pm50 cd50 ct50 oc51 kV51 dc51 pm51 cd51 ct51 oc52 kV52 dc52 pm52 cd52 ct52 : Value} {tk_MOST_THINGS : Tok} {tT13 : Addr} {oT13 : Value} {dT13 : Option Addr} {nT13 : Nat} {sT13 : Array (Option Value)} {tq13_0 : Tok} {cc23 cda23 : Addr} {cl23 ccl23 : Value} {cld23 cdd23 : Option Addr} {csl23 ccs23 : Array (Option Value)} {vs23 : Array Value} {fi23 : Str} {tf23 : Tok} {cdW23 : ClassData}
    (a_Weighted : PySem.W.nsIn K mainGlobals "Weighted" = some (some (.ref C_Weighted)))
    (kc_Weighted : PySem.W.keepIn K (.ref C_Weighted) = true)
    (hd_Weighted : PySem.W.hasDictIn K C_Weighted = true)
    (ha_Weighted : PySem.W.findIn K (.ref C_Weighted) "__class__" = some (some (.builtin "object.__class__")))
    (hm_Weighted : PySem.W.mroIn K C_Weighted (.type "object") = some true)
    (pg_Weighted : PySem.W.plainGet K C_Weighted Str.empty = true)
    (po_Weighted : PySem.W.plainOver K C_Weighted = true)
    (sa_Weighted : PySem.W.findIn K (.ref C_Weighted) "__setattr__" = some (some (.builtin "object.__setattr__")))
    (mk_Weighted : PySem.W.makesIn K C_Weighted = true)
    (n_Weighted_many : PySem.W.findIn K (.ref C_Weighted) "many" = some none)
    (n_Weighted_weights : PySem.W.findIn K (.ref C_Weighted) "weights" = some none)
    (n_Weighted_aside : PySem.W.findIn K (.ref C_Weighted) "aside" = some none)
    (a_Ratio : PySem.W.nsIn K mainGlobals "Ratio" = some (some (.ref C_Ratio)))
    (kc_Ratio : PySem.W.keepIn K (.ref C_Ratio) = true)
    (hd_Ratio : PySem.W.hasDictIn K C_Ratio = true)
    (ha_Ratio : PySem.W.findIn K (.ref C_Ratio) "__class__" = some (some (.builtin "object.__class__")))
    (hm_Ratio : PySem.W.mroIn K C_Ratio (.type "object") = some true)
    (pg_Ratio : PySem.W.plainGet K C_Ratio Str.empty = true)
    (po_Ratio : PySem.W.plainOver K C_Ratio = true)
    (sa_Ratio : PySem.W.findIn K (.ref C_Ratio) "__setattr__" = some (some (.builtin "object.__setattr__")))
    (mk_Ratio : PySem.W.makesIn K C_Ratio = true)
    (n_Ratio_top : PySem.W.findIn K (.ref C_Ratio) "top" = some none)
    (n_Ratio_bottom : PySem.W.findIn K (.ref C_Ratio) "bottom" = some none)
    (ss_Ratio : PySem.W.subIn K (.ref C_Ratio) (.type "str") = some false)
    (sb_Ratio : PySem.W.subIn K (.ref C_Ratio) (.type "bytes") = some false)
    (sy_Ratio : PySem.W.subIn K (.ref C_Ratio) (.type "bytearray") = some false)
    (sf_Ratio : PySem.W.selfFirst K C_Ratio = true)
    (si_Ratio : PySem.W.subIn K (.type "int") (.ref C_Ratio) = some false)
    (sr_Ratio : PySem.W.subIn K (.ref C_Ratio) (.type "int") = some false)
    (rf_Ratio_add : PySem.W.findIn K (.ref C_Ratio) "__radd__" = some (some (.ref fx_rf_Ratio_add)))
    (of_Ratio_add : PySem.W.findIn K (.ref C_Ratio) "__add__" = some (some (.ref fx_of_Ratio_add)))
    (inta_add : PySem.W.findIn K (.type "int") "__add__" = some (some (.builtin "int.__add__")))
    (intr_add : PySem.W.findIn K (.type "int") "__radd__" = some (some (.builtin "int.__radd__")))
    (rf_Ratio_mul : PySem.W.findIn K (.ref C_Ratio) "__rmul__" = some (some (.ref fx_rf_Ratio_mul)))
    (of_Ratio_mul : PySem.W.findIn K (.ref C_Ratio) "__mul__" = some (some (.ref fx_of_Ratio_mul)))
    (inta_mul : PySem.W.findIn K (.type "int") "__mul__" = some (some (.builtin "int.__mul__")))
    (intr_mul : PySem.W.findIn K (.type "int") "__rmul__" = some (some (.builtin "int.__rmul__")))
    (a_BadNumber : PySem.W.nsIn K mainGlobals "BadNumber" = some (some (.ref C_BadNumber)))
    (kc_BadNumber : PySem.W.keepIn K (.ref C_BadNumber) = true)
    (hd_BadNumber : PySem.W.hasDictIn K C_BadNumber = true)
    (ha_BadNumber : PySem.W.findIn K (.ref C_BadNumber) "__class__" = some (some (.builtin "object.__class__")))
    (hm_BadNumber : PySem.W.mroIn K C_BadNumber (.type "object") = some true)
    (b_BadNumber : PySem.W.subIn K (.ref C_BadNumber) (.type "BaseException") = some true)
    (t_BadNumber : PySem.W.typeIn K (.ref C_BadNumber) = some (.type "type"))
    (ga_BadNumber : PySem.W.findIn K (.ref C_BadNumber) "__getattribute__" = some (some (.builtin "BaseException.__getattribute__")))
    (gg_BadNumber : PySem.W.findIn K (.ref C_BadNumber) "__getattr__" = some none)
    (ol_BadNumber : K.lookup C_BadNumber = some (excClassObj nm_BadNumber q_BadNumber C_BadNumber N_BadNumber bs_BadNumber bm_BadNumber true sn_BadNumber sub_BadNumber ab_BadNumber col_BadNumber dd_BadNumber k0_BadNumber k1_BadNumber k2_BadNumber k3_BadNumber k5_BadNumber "ValueError.__new__"))
    (or_BadNumber : PySem.HandSPX.refsVE bm_BadNumber = true)
    (sa_BadNumber : PySem.W.findIn K (.ref C_BadNumber) "__setattr__" = some (some (.builtin "object.__setattr__")))
    (n_BadNumber_what : PySem.W.findIn K (.ref C_BadNumber) "what" = some none)
    (n_BadNumber_at : PySem.W.findIn K (.ref C_BadNumber) "at" = some none)
    (a_TooMany : PySem.W.nsIn K mainGlobals "TooMany" = some (some (.ref C_TooMany)))
    (kc_TooMany : PySem.W.keepIn K (.ref C_TooMany) = true)
    (hd_TooMany : PySem.W.hasDictIn K C_TooMany = true)
    (ha_TooMany : PySem.W.findIn K (.ref C_TooMany) "__class__" = some (some (.builtin "object.__class__")))
    (hm_TooMany : PySem.W.mroIn K C_TooMany (.type "object") = some true)
    (b_TooMany : PySem.W.subIn K (.ref C_TooMany) (.type "BaseException") = some true)
    (t_TooMany : PySem.W.typeIn K (.ref C_TooMany) = some (.type "type"))
    (ga_TooMany : PySem.W.findIn K (.ref C_TooMany) "__getattribute__" = some (some (.builtin "BaseException.__getattribute__")))
    (gg_TooMany : PySem.W.findIn K (.ref C_TooMany) "__getattr__" = some none)
    (ol_TooMany : K.lookup C_TooMany = some (excClassObj nm_TooMany q_TooMany C_TooMany N_TooMany bs_TooMany bm_TooMany true sn_TooMany sub_TooMany ab_TooMany col_TooMany dd_TooMany k0_TooMany k1_TooMany k2_TooMany k3_TooMany k5_TooMany "ValueError.__new__"))
    (or_TooMany : PySem.HandSPX.refsVE bm_TooMany = true)
    (sa_TooMany : PySem.W.findIn K (.ref C_TooMany) "__setattr__" = some (some (.builtin "object.__setattr__")))
    (n_TooMany_many : PySem.W.findIn K (.ref C_TooMany) "many" = some none)
    (n_TooMany_most : PySem.W.findIn K (.ref C_TooMany) "most" = some none)
    (a_ZeroBottom : PySem.W.nsIn K mainGlobals "ZeroBottom" = some (some (.ref C_ZeroBottom)))
    (kc_ZeroBottom : PySem.W.keepIn K (.ref C_ZeroBottom) = true)
    (hd_ZeroBottom : PySem.W.hasDictIn K C_ZeroBottom = true)
    (ha_ZeroBottom : PySem.W.findIn K (.ref C_ZeroBottom) "__class__" = some (some (.builtin "object.__class__")))
    (hm_ZeroBottom : PySem.W.mroIn K C_ZeroBottom (.type "object") = some true)
    (b_ZeroBottom : PySem.W.subIn K (.ref C_ZeroBottom) (.type "BaseException") = some true)
    (t_ZeroBottom : PySem.W.typeIn K (.ref C_ZeroBottom) = some (.type "type"))
    (ga_ZeroBottom : PySem.W.findIn K (.ref C_ZeroBottom) "__getattribute__" = some (some (.builtin "BaseException.__getattribute__")))
    (gg_ZeroBottom : PySem.W.findIn K (.ref C_ZeroBottom) "__getattr__" = some none)
    (x_ZeroBottom : PySem.W.excIn K C_ZeroBottom [.type "ValueError", .type "Exception", .type "BaseException", .type "object"] "ValueError.__new__" = true)
    (a_BadLot : PySem.W.nsIn K mainGlobals "BadLot" = some (some (.ref C_BadLot)))
    (kc_BadLot : PySem.W.keepIn K (.ref C_BadLot) = true)
    (hd_BadLot : PySem.W.hasDictIn K C_BadLot = true)
    (ha_BadLot : PySem.W.findIn K (.ref C_BadLot) "__class__" = some (some (.builtin "object.__class__")))
    (hm_BadLot : PySem.W.mroIn K C_BadLot (.type "object") = some true)
    (b_BadLot : PySem.W.subIn K (.ref C_BadLot) (.type "BaseException") = some true)
    (t_BadLot : PySem.W.typeIn K (.ref C_BadLot) = some (.type "type"))
    (ga_BadLot : PySem.W.findIn K (.ref C_BadLot) "__getattribute__" = some (some (.builtin "BaseException.__getattribute__")))
    (gg_BadLot : PySem.W.findIn K (.ref C_BadLot) "__getattr__" = some none)
    (x_BadLot : PySem.W.excIn K C_BadLot [.type "ValueError", .type "Exception", .type "BaseException", .type "object"] "ValueError.__new__" = true)
    (a_Unsure : PySem.W.nsIn K mainGlobals "Unsure" = some (some (.ref C_Unsure)))
    (kc_Unsure : PySem.W.keepIn K (.ref C_Unsure) = true)
    (hd_Unsure : PySem.W.hasDictIn K C_Unsure = true)
    (ha_Unsure : PySem.W.findIn K (.ref C_Unsure) "__class__" = some (some (.builtin "object.__class__")))
    (hm_Unsure : PySem.W.mroIn K C_Unsure (.type "object") = some true)
    (pg_Unsure : PySem.W.plainGet K C_Unsure Str.empty = true)
    (po_Unsure : PySem.W.plainOver K C_Unsure = true)
    (sa_Unsure : PySem.W.findIn K (.ref C_Unsure) "__setattr__" = some (some (.builtin "object.__setattr__")))
    (mk_Unsure : PySem.W.makesIn K C_Unsure = true)
    (n_Unsure_many : PySem.W.findIn K (.ref C_Unsure) "many" = some none)
    (n_Unsure_lows : PySem.W.findIn K (.ref C_Unsure) "lows" = some none)
    (n_Unsure_highs : PySem.W.findIn K (.ref C_Unsure) "highs" = some none)
    (n_Unsure_aside : PySem.W.findIn K (.ref C_Unsure) "aside" = some none)
    (hnc : PySem.W.specialIn K (.builtin "object.__class__") "__get__" = some (some (.builtin "getset_descriptor.__get__")))
    (htk : PySem.W.takesIn K (.builtin "object.__class__") = some true)
    (sub_BadNumber_BadNumber : PySem.W.subIn K (.ref C_BadNumber) (.ref C_BadNumber) = some true)
    (kit_Ratio_Ratio : PySem.W.kitOne K (.ref C_Ratio) (.ref C_Ratio) = some true)
    (kit_int_Ratio : PySem.W.kitOne K (.type "int") (.ref C_Ratio) = some false)
    (a_gcd : PySem.W.nsIn K mainGlobals "gcd" = some (some (.builtin "math.gcd")))
    (a_MOST_THINGS : PySem.W.nsIn K mainGlobals "MOST_THINGS" = some (some (.int 24 tk_MOST_THINGS)))
    (a1 : PySem.W.findIn K (.ref C_BadNumber) "__init__" = some (some (.ref f1))) (i1 : PySem.W.isFn K (.ref f1) = true)
    (l1 : K.lookup f1 = some ⟨oc1, od1, .func (PySem.W.fnOf "__init__" "BadNumber.__init__" (defArgs s_BadNumber___init__) (defBody s_BadNumber___init__) (defScope s_BadNumber___init__) .none kV1 dc1 pm1 an1 cd1 ct1), sl1⟩)
    (c1 : PySem.W.codeIn K cd1 "BadNumber.__init__" = true) (k1 : PySem.W.keepIn K (.ref f1) = true)
    (a2 : PySem.W.findIn K (.ref C_TooMany) "__init__" = some (some (.ref f2))) (i2 : PySem.W.isFn K (.ref f2) = true)
    (l2 : K.lookup f2 = some ⟨oc2, od2, .func (PySem.W.fnOf "__init__" "TooMany.__init__" (defArgs s_TooMany___init__) (defBody s_TooMany___init__) (defScope s_TooMany___init__) .none kV2 dc2 pm2 an2 cd2 ct2), sl2⟩)
    (c2 : PySem.W.codeIn K cd2 "TooMany.__init__" = true) (k2 : PySem.W.keepIn K (.ref f2) = true)
    (a3 : PySem.W.nsIn K mainGlobals "check_many" = some (some (.ref f3)))
    (l3 : K.lookup f3 = some ⟨oc3, od3, .func (PySem.W.fnOf "check_many" "check_many" (defArgs s_check_many) (defBody s_check_many) (defScope s_check_many) .none kV3 dc3 pm3 an3 cd3 ct3), sl3⟩)
    (c3 : PySem.W.codeIn K cd3 "check_many" = true) (k3 : PySem.W.keepIn K (.ref f3) = true)
    (a4 : PySem.W.nsIn K mainGlobals "check_length" = some (some (.ref f4)))
    (l4 : K.lookup f4 = some ⟨oc4, od4, .func (PySem.W.fnOf "check_length" "check_length" (defArgs s_check_length) (defBody s_check_length) (defScope s_check_length) .none kV4 dc4 pm4 an4 cd4 ct4), sl4⟩)
    (c4 : PySem.W.codeIn K cd4 "check_length" = true) (k4 : PySem.W.keepIn K (.ref f4) = true)
    (a5 : PySem.W.nsIn K mainGlobals "check_each" = some (some (.ref f5)))
    (l5 : K.lookup f5 = some ⟨oc5, od5, .func (PySem.W.fnOf "check_each" "check_each" (defArgs s_check_each) (defBody s_check_each) (defScope s_check_each) .none kV5 dc5 pm5 an5 cd5 ct5), sl5⟩)
    (c5 : PySem.W.codeIn K cd5 "check_each" = true) (k5 : PySem.W.keepIn K (.ref f5) = true)
    (a6 : PySem.W.nsIn K mainGlobals "check_prices" = some (some (.ref f6)))
    (l6 : K.lookup f6 = some ⟨oc6, od6, .func (PySem.W.fnOf "check_prices" "check_prices" (defArgs s_check_prices) (defBody s_check_prices) (defScope s_check_prices) .none kV6 dc6 pm6 an6 cd6 ct6), sl6⟩)
    (c6 : PySem.W.codeIn K cd6 "check_prices" = true) (k6 : PySem.W.keepIn K (.ref f6) = true)
    (a7 : PySem.W.nsIn K mainGlobals "check_least" = some (some (.ref f7)))
    (l7 : K.lookup f7 = some ⟨oc7, od7, .func (PySem.W.fnOf "check_least" "check_least" (defArgs s_check_least) (defBody s_check_least) (defScope s_check_least) .none kV7 dc7 pm7 an7 cd7 ct7), sl7⟩)
    (c7 : PySem.W.codeIn K cd7 "check_least" = true) (k7 : PySem.W.keepIn K (.ref f7) = true)
    (a8 : PySem.W.nsIn K mainGlobals "check_aside" = some (some (.ref f8)))
    (l8 : K.lookup f8 = some ⟨oc8, od8, .func (PySem.W.fnOf "check_aside" "check_aside" (defArgs s_check_aside) (defBody s_check_aside) (defScope s_check_aside) .none kV8 dc8 pm8 an8 cd8 ct8), sl8⟩)
    (c8 : PySem.W.codeIn K cd8 "check_aside" = true) (k8 : PySem.W.keepIn K (.ref f8) = true)
    (a9 : PySem.W.nsIn K mainGlobals "check_up_to" = some (some (.ref f9)))
    (l9 : K.lookup f9 = some ⟨oc9, od9, .func (PySem.W.fnOf "check_up_to" "check_up_to" (defArgs s_check_up_to) (defBody s_check_up_to) (defScope s_check_up_to) .none kV9 dc9 pm9 an9 cd9 ct9), sl9⟩)
    (c9 : PySem.W.codeIn K cd9 "check_up_to" = true) (k9 : PySem.W.keepIn K (.ref f9) = true)
    (a10 : PySem.W.nsIn K mainGlobals "check_lot" = some (some (.ref f10)))
    (l10 : K.lookup f10 = some ⟨oc10, od10, .func (PySem.W.fnOf "check_lot" "check_lot" (defArgs s_check_lot) (defBody s_check_lot) (defScope s_check_lot) .none kV10 dc10 pm10 an10 cd10 ct10), sl10⟩)
    (c10 : PySem.W.codeIn K cd10 "check_lot" = true) (k10 : PySem.W.keepIn K (.ref f10) = true)
    (a11 : PySem.W.nsIn K mainGlobals "_check_bounds_of_aside" = some (some (.ref f11)))
    (l11 : K.lookup f11 = some ⟨oc11, od11, .func (PySem.W.fnOf "_check_bounds_of_aside" "_check_bounds_of_aside" (defArgs s__check_bounds_of_aside) (defBody s__check_bounds_of_aside) (defScope s__check_bounds_of_aside) .none kV11 dc11 pm11 an11 cd11 ct11), sl11⟩)
    (c11 : PySem.W.codeIn K cd11 "_check_bounds_of_aside" = true) (k11 : PySem.W.keepIn K (.ref f11) = true)
    (a12 : PySem.W.findIn K (.ref C_Unsure) "__init__" = some (some (.ref f12))) (i12 : PySem.W.isFn K (.ref f12) = true)
    (l12 : K.lookup f12 = some ⟨oc12, od12, .func (PySem.W.fnOf "__init__" "Unsure.__init__" (defArgs s_Unsure___init__) (defBody s_Unsure___init__) (defScope s_Unsure___init__) .none kV12 dc12 pm12 an12 cd12 ct12), sl12⟩)
    (c12 : PySem.W.codeIn K cd12 "Unsure.__init__" = true) (k12 : PySem.W.keepIn K (.ref f12) = true)
    (a13 : PySem.W.findIn K (.ref C_Ratio) "__init__" = some (some (.ref f13))) (i13 : PySem.W.isFn K (.ref f13) = true)
    (l13 : K.lookup f13 = some ⟨oc13, od13, .func (PySem.W.fnOf "__init__" "Ratio.__init__" (defArgs s_Ratio___init__) (defBody s_Ratio___init__) (defScope s_Ratio___init__) (.ref tT13) kV13 dc13 pm13 an13 cd13 ct13), sl13⟩)
    (lt13 : K.lookup tT13 = some ⟨oT13, dT13, .seq #[.int 1 tq13_0] nT13, sT13⟩)
    (c13 : PySem.W.codeIn K cd13 "Ratio.__init__" = true) (k13 : PySem.W.keepIn K (.ref f13) = true)
    (a14 : PySem.W.nsIn K mainGlobals "_as_ratio" = some (some (.ref f14)))
    (l14 : K.lookup f14 = some ⟨oc14, od14, .func (PySem.W.fnOf "_as_ratio" "_as_ratio" (defArgs s__as_ratio) (defBody s__as_ratio) (defScope s__as_ratio) .none kV14 dc14 pm14 an14 cd14 ct14), sl14⟩)
    (c14 : PySem.W.codeIn K cd14 "_as_ratio" = true) (k14 : PySem.W.keepIn K (.ref f14) = true)
    (a15 : PySem.W.nsIn K mainGlobals "_gap" = some (some (.ref f15)))
    (l15 : K.lookup f15 = some ⟨oc15, od15, .func (PySem.W.fnOf "_gap" "_gap" (defArgs s__gap) (defBody s__gap) (defScope s__gap) .none kV15 dc15 pm15 an15 cd15 ct15), sl15⟩)
    (c15 : PySem.W.codeIn K cd15 "_gap" = true) (k15 : PySem.W.keepIn K (.ref f15) = true)
    (a16 : PySem.W.findIn K (.ref C_Ratio) "__lt__" = some (some (.ref f16))) (i16 : PySem.W.isFn K (.ref f16) = true)
    (l16 : K.lookup f16 = some ⟨oc16, od16, .func (PySem.W.fnOf "__lt__" "Ratio.__lt__" (defArgs s_Ratio___lt__) (defBody s_Ratio___lt__) (defScope s_Ratio___lt__) .none kV16 dc16 pm16 an16 cd16 ct16), sl16⟩)
    (c16 : PySem.W.codeIn K cd16 "Ratio.__lt__" = true) (k16 : PySem.W.keepIn K (.ref f16) = true)
    (a17 : PySem.W.findIn K (.ref C_Ratio) "__le__" = some (some (.ref f17))) (i17 : PySem.W.isFn K (.ref f17) = true)
    (l17 : K.lookup f17 = some ⟨oc17, od17, .func (PySem.W.fnOf "__le__" "Ratio.__le__" (defArgs s_Ratio___le__) (defBody s_Ratio___le__) (defScope s_Ratio___le__) .none kV17 dc17 pm17 an17 cd17 ct17), sl17⟩)
    (c17 : PySem.W.codeIn K cd17 "Ratio.__le__" = true) (k17 : PySem.W.keepIn K (.ref f17) = true)
    (a18 : PySem.W.findIn K (.ref C_Ratio) "__gt__" = some (some (.ref f18))) (i18 : PySem.W.isFn K (.ref f18) = true)
    (l18 : K.lookup f18 = some ⟨oc18, od18, .func (PySem.W.fnOf "__gt__" "Ratio.__gt__" (defArgs s_Ratio___gt__) (defBody s_Ratio___gt__) (defScope s_Ratio___gt__) .none kV18 dc18 pm18 an18 cd18 ct18), sl18⟩)
    (c18 : PySem.W.codeIn K cd18 "Ratio.__gt__" = true) (k18 : PySem.W.keepIn K (.ref f18) = true)
    (a19 : PySem.W.findIn K (.ref C_Ratio) "__ge__" = some (some (.ref f19))) (i19 : PySem.W.isFn K (.ref f19) = true)
    (l19 : K.lookup f19 = some ⟨oc19, od19, .func (PySem.W.fnOf "__ge__" "Ratio.__ge__" (defArgs s_Ratio___ge__) (defBody s_Ratio___ge__) (defScope s_Ratio___ge__) .none kV19 dc19 pm19 an19 cd19 ct19), sl19⟩)
    (c19 : PySem.W.codeIn K cd19 "Ratio.__ge__" = true) (k19 : PySem.W.keepIn K (.ref f19) = true)
    (a20 : PySem.W.findIn K (.ref C_Ratio) "__add__" = some (some (.ref f20))) (i20 : PySem.W.isFn K (.ref f20) = true)
    (l20 : K.lookup f20 = some ⟨oc20, od20, .func (PySem.W.fnOf "__add__" "Ratio.__add__" (defArgs s_Ratio___add__) (defBody s_Ratio___add__) (defScope s_Ratio___add__) .none kV20 dc20 pm20 an20 cd20 ct20), sl20⟩)
    (c20 : PySem.W.codeIn K cd20 "Ratio.__add__" = true) (k20 : PySem.W.keepIn K (.ref f20) = true)
    (a21 : PySem.W.findIn K (.ref C_Ratio) "__mul__" = some (some (.ref f21))) (i21 : PySem.W.isFn K (.ref f21) = true)
    (l21 : K.lookup f21 = some ⟨oc21, od21, .func (PySem.W.fnOf "__mul__" "Ratio.__mul__" (defArgs s_Ratio___mul__) (defBody s_Ratio___mul__) (defScope s_Ratio___mul__) .none kV21 dc21 pm21 an21 cd21 ct21), sl21⟩)
    (c21 : PySem.W.codeIn K cd21 "Ratio.__mul__" = true) (k21 : PySem.W.keepIn K (.ref f21) = true)
    (sg22_Weighted : PySem.W.ks_superIn K C_Weighted C_Weighted "__init__" = some (some (.ref f22)))
    (l22 : K.lookup f22 = some ⟨oc22, od22, .func (PySem.W.fnOf "__init__" "Rule.__init__" (defArgs s_Rule___init__) (defBody s_Rule___init__) (defScope s_Rule___init__) .none kV22 dc22 pm22 an22 cd22 ct22), sl22⟩)
    (c22 : PySem.W.codeIn K cd22 "Rule.__init__" = true) (k22 : PySem.W.keepIn K (.ref f22) = true)
    (sa23 : PySem.W.clsIn K C_Weighted = some cdW23)
    (sb23 : PySem.W.mroIn K C_Weighted (.ref C_Weighted) = some true)
    (a23 : PySem.W.findIn K (.ref C_Weighted) "__init__" = some (some (.ref f23))) (i23 : PySem.W.isFn K (.ref f23) = true)
    (l23 : K.lookup f23 = some ⟨oc23, od23, .func (PySem.W.ksFn "__init__" "Weighted.__init__" (defArgs s_Weighted___init__) (defBody s_Weighted___init__) (defScope s_Weighted___init__) .none kV23 dc23 pm23 an23 (.ref cda23) ct23 cc23), sl23⟩)
    (c23 : PySem.W.codeIn K (.ref cda23) "Weighted.__init__" = true) (k23 : PySem.W.keepIn K (.ref f23) = true)
    (sc23 : K.lookup cc23 = some ⟨cl23, cld23, .cell (some (.ref C_Weighted)), csl23⟩)
    (sd23 : K.lookup cda23 = some ⟨ccl23, cdd23, .fields vs23, ccs23⟩)
    (se23 : vs23[2]? = some (.str fi23 tf23))
    (sh23 : PySem.W.typeIn K (.ref f22) = some (.type "function"))
    (si23 : PySem.W.fnIn K f22 = true)
    (sj23 : PySem.W.nsIn K cStatics "thirdparty.any" = some none)
    (sk23 : PySem.W.nsIn K mainGlobals "super" = some none)
    (sl_23 : ((l.prog.main.file : Str) == fi23) = true)
    (sm23 : (l.prog.main.scope.names.lookup ("super" : Str)).isSome = false)
    (a24 : PySem.W.findIn K (.ref C_Weighted) "shares" = some (some (.ref f24))) (i24 : PySem.W.isFn K (.ref f24) = true)
    (l24 : K.lookup f24 = some ⟨oc24, od24, .func (PySem.W.fnOf "shares" "Weighted.shares" (defArgs s_Weighted_shares) (defBody s_Weighted_shares) (defScope s_Weighted_shares) .none kV24 dc24 pm24 an24 cd24 ct24), sl24⟩)
    (c24 : PySem.W.codeIn K cd24 "Weighted.shares" = true) (k24 : PySem.W.keepIn K (.ref f24) = true)
    (a25 : PySem.W.findIn K (.ref C_Weighted) "worth" = some (some (.ref f25))) (i25 : PySem.W.isFn K (.ref f25) = true)
    (l25 : K.lookup f25 = some ⟨oc25, od25, .func (PySem.W.fnOf "worth" "Rule.worth" (defArgs s_Rule_worth) (defBody s_Rule_worth) (defScope s_Rule_worth) .none kV25 dc25 pm25 an25 cd25 ct25), sl25⟩)
    (c25 : PySem.W.codeIn K cd25 "Rule.worth" = true) (k25 : PySem.W.keepIn K (.ref f25) = true)
    (a26 : PySem.W.nsIn K mainGlobals "_worth" = some (some (.ref f26)))
    (l26 : K.lookup f26 = some ⟨oc26, od26, .func (PySem.W.fnOf "_worth" "_worth" (defArgs s__worth) (defBody s__worth) (defScope s__worth) .none kV26 dc26 pm26 an26 cd26 ct26), sl26⟩)
    (c26 : PySem.W.codeIn K cd26 "_worth" = true) (k26 : PySem.W.keepIn K (.ref f26) = true)
    (a27 : PySem.W.nsIn K mainGlobals "dearest_order" = some (some (.ref f27)))
    (l27 : K.lookup f27 = some ⟨oc27, od27, .func (PySem.W.fnOf "dearest_order" "dearest_order" (defArgs s_dearest_order) (defBody s_dearest_order) (defScope s_dearest_order) .none kV27 dc27 pm27 an27 cd27 ct27), sl27⟩)
    (c27 : PySem.W.codeIn K cd27 "dearest_order" = true) (k27 : PySem.W.keepIn K (.ref f27) = true)
    (a28 : PySem.W.nsIn K mainGlobals "first_things" = some (some (.ref f28)))
    (l28 : K.lookup f28 = some ⟨oc28, od28, .func (PySem.W.fnOf "first_things" "first_things" (defArgs s_first_things) (defBody s_first_things) (defScope s_first_things) .none kV28 dc28 pm28 an28 cd28 ct28), sl28⟩)
    (c28 : PySem.W.codeIn K cd28 "first_things" = true) (k28 : PySem.W.keepIn K (.ref f28) = true)
    (a29 : PySem.W.findIn K (.ref C_Weighted) "best_dearest" = some (some (.ref f29))) (i29 : PySem.W.isFn K (.ref f29) = true)
    (l29 : K.lookup f29 = some ⟨oc29, od29, .func (PySem.W.fnOf "best_dearest" "Rule.best_dearest" (defArgs s_Rule_best_dearest) (defBody s_Rule_best_dearest) (defScope s_Rule_best_dearest) .none kV29 dc29 pm29 an29 cd29 ct29), sl29⟩)
    (c29 : PySem.W.codeIn K cd29 "Rule.best_dearest" = true) (k29 : PySem.W.keepIn K (.ref f29) = true)
    (a30 : PySem.W.findIn K (.ref C_Weighted) "best" = some (some (.ref f30))) (i30 : PySem.W.isFn K (.ref f30) = true)
    (l30 : K.lookup f30 = some ⟨oc30, od30, .func (PySem.W.fnOf "best" "Weighted.best" (defArgs s_Weighted_best) (defBody s_Weighted_best) (defScope s_Weighted_best) .none kV30 dc30 pm30 an30 cd30 ct30), sl30⟩)
    (c30 : PySem.W.codeIn K cd30 "Weighted.best" = true) (k30 : PySem.W.keepIn K (.ref f30) = true)
    (a31 : PySem.W.findIn K (.ref C_Unsure) "best" = some (some (.ref f31))) (i31 : PySem.W.isFn K (.ref f31) = true)
    (l31 : K.lookup f31 = some ⟨oc31, od31, .func (PySem.W.fnOf "best" "Unsure.best" (defArgs s_Unsure_best) (defBody s_Unsure_best) (defScope s_Unsure_best) .none kV31 dc31 pm31 an31 cd31 ct31), sl31⟩)
    (c31 : PySem.W.codeIn K cd31 "Unsure.best" = true) (k31 : PySem.W.keepIn K (.ref f31) = true)
    (a32 : PySem.W.findIn K (.ref C_Unsure) "_check" = some (some (.ref f32))) (i32 : PySem.W.isFn K (.ref f32) = true)
    (l32 : K.lookup f32 = some ⟨oc32, od32, .func (PySem.W.fnOf "_check" "Unsure._check" (defArgs s_Unsure__check) (defBody s_Unsure__check) (defScope s_Unsure__check) .none kV32 dc32 pm32 an32 cd32 ct32), sl32⟩)
    (c32 : PySem.W.codeIn K cd32 "Unsure._check" = true) (k32 : PySem.W.keepIn K (.ref f32) = true)
    (a33 : PySem.W.findIn K (.ref C_Unsure) "_turned" = some (some (.ref f33))) (i33 : PySem.W.isFn K (.ref f33) = true)
    (l33 : K.lookup f33 = some ⟨oc33, od33, .func (PySem.W.fnOf "_turned" "Unsure._turned" (defArgs s_Unsure__turned) (defBody s_Unsure__turned) (defScope s_Unsure__turned) .none kV33 dc33 pm33 an33 cd33 ct33), sl33⟩)
    (c33 : PySem.W.codeIn K cd33 "Unsure._turned" = true) (k33 : PySem.W.keepIn K (.ref f33) = true)
    (a34 : PySem.W.findIn K (.ref C_Unsure) "least" = some (some (.ref f34))) (i34 : PySem.W.isFn K (.ref f34) = true)
    (l34 : K.lookup f34 = some ⟨oc34, od34, .func (PySem.W.fnOf "least" "Unsure.least" (defArgs s_Unsure_least) (defBody s_Unsure_least) (defScope s_Unsure_least) .none kV34 dc34 pm34 an34 cd34 ct34), sl34⟩)
    (c34 : PySem.W.codeIn K cd34 "Unsure.least" = true) (k34 : PySem.W.keepIn K (.ref f34) = true)
    (a35 : PySem.W.nsIn K mainGlobals "_law_cell" = some (some (.ref f35)))
    (l35 : K.lookup f35 = some ⟨oc35, od35, .func (PySem.W.fnOf "_law_cell" "_law_cell" (defArgs s__law_cell) (defBody s__law_cell) (defScope s__law_cell) .none kV35 dc35 pm35 an35 cd35 ct35), sl35⟩)
    (c35 : PySem.W.codeIn K cd35 "_law_cell" = true) (k35 : PySem.W.keepIn K (.ref f35) = true)
    (a36 : PySem.W.nsIn K mainGlobals "_law_draws" = some (some (.ref f36)))
    (l36 : K.lookup f36 = some ⟨oc36, od36, .func (PySem.W.fnOf "_law_draws" "_law_draws" (defArgs s__law_draws) (defBody s__law_draws) (defScope s__law_draws) .none kV36 dc36 pm36 an36 cd36 ct36), sl36⟩)
    (c36 : PySem.W.codeIn K cd36 "_law_draws" = true) (k36 : PySem.W.keepIn K (.ref f36) = true)
    (a37 : PySem.W.nsIn K mainGlobals "_law_row" = some (some (.ref f37)))
    (l37 : K.lookup f37 = some ⟨oc37, od37, .func (PySem.W.fnOf "_law_row" "_law_row" (defArgs s__law_row) (defBody s__law_row) (defScope s__law_row) .none kV37 dc37 pm37 an37 cd37 ct37), sl37⟩)
    (c37 : PySem.W.codeIn K cd37 "_law_row" = true) (k37 : PySem.W.keepIn K (.ref f37) = true)
    (a38 : PySem.W.nsIn K mainGlobals "_law_lot" = some (some (.ref f38)))
    (l38 : K.lookup f38 = some ⟨oc38, od38, .func (PySem.W.fnOf "_law_lot" "_law_lot" (defArgs s__law_lot) (defBody s__law_lot) (defScope s__law_lot) .none kV38 dc38 pm38 an38 cd38 ct38), sl38⟩)
    (c38 : PySem.W.codeIn K cd38 "_law_lot" = true) (k38 : PySem.W.keepIn K (.ref f38) = true)
    (a39 : PySem.W.nsIn K mainGlobals "_law_is_int" = some (some (.ref f39)))
    (l39 : K.lookup f39 = some ⟨oc39, od39, .func (PySem.W.fnOf "_law_is_int" "_law_is_int" (defArgs s__law_is_int) (defBody s__law_is_int) (defScope s__law_is_int) .none kV39 dc39 pm39 an39 cd39 ct39), sl39⟩)
    (c39 : PySem.W.codeIn K cd39 "_law_is_int" = true) (k39 : PySem.W.keepIn K (.ref f39) = true)
    (a40 : PySem.W.nsIn K mainGlobals "_law_is_ratio" = some (some (.ref f40)))
    (l40 : K.lookup f40 = some ⟨oc40, od40, .func (PySem.W.fnOf "_law_is_ratio" "_law_is_ratio" (defArgs s__law_is_ratio) (defBody s__law_is_ratio) (defScope s__law_is_ratio) .none kV40 dc40 pm40 an40 cd40 ct40), sl40⟩)
    (c40 : PySem.W.codeIn K cd40 "_law_is_ratio" = true) (k40 : PySem.W.keepIn K (.ref f40) = true)
    (a41 : PySem.W.nsIn K mainGlobals "_law_same" = some (some (.ref f41)))
    (l41 : K.lookup f41 = some ⟨oc41, od41, .func (PySem.W.fnOf "_law_same" "_law_same" (defArgs s__law_same) (defBody s__law_same) (defScope s__law_same) .none kV41 dc41 pm41 an41 cd41 ct41), sl41⟩)
    (c41 : PySem.W.codeIn K cd41 "_law_same" = true) (k41 : PySem.W.keepIn K (.ref f41) = true)
    (a42 : PySem.W.nsIn K mainGlobals "_law_same_lot" = some (some (.ref f42)))
    (l42 : K.lookup f42 = some ⟨oc42, od42, .func (PySem.W.fnOf "_law_same_lot" "_law_same_lot" (defArgs s__law_same_lot) (defBody s__law_same_lot) (defScope s__law_same_lot) .none kV42 dc42 pm42 an42 cd42 ct42), sl42⟩)
    (c42 : PySem.W.codeIn K cd42 "_law_same_lot" = true) (k42 : PySem.W.keepIn K (.ref f42) = true)
    (a43 : PySem.W.nsIn K mainGlobals "_law_refused" = some (some (.ref f43)))
    (l43 : K.lookup f43 = some ⟨oc43, od43, .func (PySem.W.fnOf "_law_refused" "_law_refused" (defArgs s__law_refused) (defBody s__law_refused) (defScope s__law_refused) .none kV43 dc43 pm43 an43 cd43 ct43), sl43⟩)
    (c43 : PySem.W.codeIn K cd43 "_law_refused" = true) (k43 : PySem.W.keepIn K (.ref f43) = true)
    (a44 : PySem.W.nsIn K mainGlobals "_law_bounds" = some (some (.ref f44)))
    (l44 : K.lookup f44 = some ⟨oc44, od44, .func (PySem.W.fnOf "_law_bounds" "_law_bounds" (defArgs s__law_bounds) (defBody s__law_bounds) (defScope s__law_bounds) .none kV44 dc44 pm44 an44 cd44 ct44), sl44⟩)
    (c44 : PySem.W.codeIn K cd44 "_law_bounds" = true) (k44 : PySem.W.keepIn K (.ref f44) = true)
    (a45 : PySem.W.nsIn K mainGlobals "_law_within" = some (some (.ref f45)))
    (l45 : K.lookup f45 = some ⟨oc45, od45, .func (PySem.W.fnOf "_law_within" "_law_within" (defArgs s__law_within) (defBody s__law_within) (defScope s__law_within) .none kV45 dc45 pm45 an45 cd45 ct45), sl45⟩)
    (c45 : PySem.W.codeIn K cd45 "_law_within" = true) (k45 : PySem.W.keepIn K (.ref f45) = true)
    (a46 : PySem.W.nsIn K mainGlobals "_law_worth" = some (some (.ref f46)))
    (l46 : K.lookup f46 = some ⟨oc46, od46, .func (PySem.W.fnOf "_law_worth" "_law_worth" (defArgs s__law_worth) (defBody s__law_worth) (defScope s__law_worth) .none kV46 dc46 pm46 an46 cd46 ct46), sl46⟩)
    (c46 : PySem.W.codeIn K cd46 "_law_worth" = true) (k46 : PySem.W.keepIn K (.ref f46) = true)
    (a47 : PySem.W.nsIn K mainGlobals "_law_asked" = some (some (.ref f47)))
    (l47 : K.lookup f47 = some ⟨oc47, od47, .func (PySem.W.fnOf "_law_asked" "_law_asked" (defArgs s__law_asked) (defBody s__law_asked) (defScope s__law_asked) .none kV47 dc47 pm47 an47 cd47 ct47), sl47⟩)
    (c47 : PySem.W.codeIn K cd47 "_law_asked" = true) (k47 : PySem.W.keepIn K (.ref f47) = true)
    (a48 : PySem.W.nsIn K mainGlobals "_law_refuses" = some (some (.ref f48)))
    (l48 : K.lookup f48 = some ⟨oc48, od48, .func (PySem.W.fnOf "_law_refuses" "_law_refuses" (defArgs s__law_refuses) (defBody s__law_refuses) (defScope s__law_refuses) .none kV48 dc48 pm48 an48 cd48 ct48), sl48⟩)
    (c48 : PySem.W.codeIn K cd48 "_law_refuses" = true) (k48 : PySem.W.keepIn K (.ref f48) = true)
    (a49 : PySem.W.nsIn K mainGlobals "_law_best_lot" = some (some (.ref f49)))
    (l49 : K.lookup f49 = some ⟨oc49, od49, .func (PySem.W.fnOf "_law_best_lot" "_law_best_lot" (defArgs s__law_best_lot) (defBody s__law_best_lot) (defScope s__law_best_lot) .none kV49 dc49 pm49 an49 cd49 ct49), sl49⟩)
    (c49 : PySem.W.codeIn K cd49 "_law_best_lot" = true) (k49 : PySem.W.keepIn K (.ref f49) = true)
    (a50 : PySem.W.nsIn K mainGlobals "_law_inside" = some (some (.ref f50)))
    (l50 : K.lookup f50 = some ⟨oc50, od50, .func (PySem.W.fnOf "_law_inside" "_law_inside" (defArgs s__law_inside) (defBody s__law_inside) (defScope s__law_inside) .none kV50 dc50 pm50 an50 cd50 ct50), sl50⟩)
    (c50 : PySem.W.codeIn K cd50 "_law_inside" = true) (k50 : PySem.W.keepIn K (.ref f50) = true)
    (a51 : PySem.W.nsIn K mainGlobals "_law_other" = some (some (.ref f51)))
    (l51 : K.lookup f51 = some ⟨oc51, od51, .func (PySem.W.fnOf "_law_other" "_law_other" (defArgs s__law_other) (defBody s__law_other) (defScope s__law_other) .none kV51 dc51 pm51 an51 cd51 ct51), sl51⟩)
    (c51 : PySem.W.codeIn K cd51 "_law_other" = true) (k51 : PySem.W.keepIn K (.ref f51) = true)
    (a52 : PySem.W.nsIn K mainGlobals "law" = some (some (.ref f52)))
    (l52 : K.lookup f52 = some ⟨oc52, od52, .func (PySem.W.fnOf "law" "law" (defArgs s_law) (defBody s_law) (defScope s_law) .none kV52 dc52 pm52 an52 cd52 ct52), sl52⟩)
    (c52 : PySem.W.codeIn K cd52 "law" = true) (k52 : PySem.W.keepIn K (.ref f52) = true)
    (z_all : PySem.W.nsIn K mainGlobals "all" = some none)
    (z_bool : PySem.W.nsIn K mainGlobals "bool" = some none)
    (z_enumerate : PySem.W.nsIn K mainGlobals "enumerate" = some none)
    (z_int : PySem.W.nsIn K mainGlobals "int" = some none)
    (z_isinstance : PySem.W.nsIn K mainGlobals "isinstance" = some none)
    (z_len : PySem.W.nsIn K mainGlobals "len" = some none)
    (z_list : PySem.W.nsIn K mainGlobals "list" = some none)
    (z_range : PySem.W.nsIn K mainGlobals "range" = some none)
    (z_sorted : PySem.W.nsIn K mainGlobals "sorted" = some none)
    (z_str : PySem.W.nsIn K mainGlobals "str" = some none)
    (z_sum : PySem.W.nsIn K mainGlobals "sum" = some none)
    (z_tuple : PySem.W.nsIn K mainGlobals "tuple" = some none)
    (z_zip : PySem.W.nsIn K mainGlobals "zip" = some none) :
    ∃ fd : FuncData, (∀ (s : Shared) (v : Value), BindsTo s fd ⟨[v], []⟩ [("_law_script", v)]) ∧ ∀ base : Heap, K.In base → base.Ns mainGlobals mg → FnOk l.prog w K mg base CX0 12 fa fd ["_law_script"] (sp_law K) := by
  have e := hfa.symm.trans (PySem.W.mg_of X G a52)
  cases e
  have m_all := PySem.W.mg_none_of X G z_all
  have m_bool := PySem.W.mg_none_of X G z_bool
  have m_enumerate := PySem.W.mg_none_of X G z_enumerate
  have m_int := PySem.W.mg_none_of X G z_int
  have m_isinstance := PySem.W.mg_none_of X G z_isinstance
  have m_len := PySem.W.mg_none_of X G z_len
  have m_list := PySem.W.mg_none_of X G z_list
  have m_range := PySem.W.mg_none_of X G z_range
  have m_sorted := PySem.W.mg_none_of X G z_sorted
  have m_str := PySem.W.mg_none_of X G z_str
  have m_sum := PySem.W.mg_none_of X G z_sum
  have m_tuple := PySem.W.mg_none_of X G z_tuple
  have m_zip := PySem.W.mg_none_of X G z_zip
  have T : Txt K mg C_Weighted C_Ratio C_BadNumber C_TooMany C_ZeroBottom C_BadLot C_Unsure := ⟨PySem.W.mg_of X G a_Weighted, kc_Weighted, hd_Weighted, ha_Weighted, hm_Weighted, ⟨pg_Weighted, hd_Weighted, po_Weighted, sa_Weighted⟩, mk_Weighted, n_Weighted_many, n_Weighted_weights, n_Weighted_aside, PySem.W.mg_of X G a_Ratio, kc_Ratio, hd_Ratio, ha_Ratio, hm_Ratio, ⟨pg_Ratio, hd_Ratio, po_Ratio, sa_Ratio⟩, mk_Ratio, n_Ratio_top, n_Ratio_bottom, ⟨ss_Ratio, sb_Ratio, sy_Ratio, sf_Ratio⟩, sf_Ratio, si_Ratio, sr_Ratio, ⟨_, rf_Ratio_add, .inr ⟨_, rfl⟩⟩, ⟨_, of_Ratio_add⟩, ⟨_, _, inta_add, intr_add⟩, ⟨_, rf_Ratio_mul, .inr ⟨_, rfl⟩⟩, ⟨_, of_Ratio_mul⟩, ⟨_, _, inta_mul, intr_mul⟩, PySem.W.mg_of X G a_BadNumber, kc_BadNumber, hd_BadNumber, ha_BadNumber, hm_BadNumber, b_BadNumber, t_BadNumber, ga_BadNumber, gg_BadNumber, ⟨⟨_, _, _, _, _, _, _, _, _, _, _, _, _, _, _, ol_BadNumber, or_BadNumber⟩, sa_BadNumber, b_BadNumber, t_BadNumber, kc_BadNumber⟩, ⟨ga_BadNumber, gg_BadNumber, b_BadNumber, hd_BadNumber⟩, n_BadNumber_what, n_BadNumber_at, PySem.W.mg_of X G a_TooMany, kc_TooMany, hd_TooMany, ha_TooMany, hm_TooMany, b_TooMany, t_TooMany, ga_TooMany, gg_TooMany, ⟨⟨_, _, _, _, _, _, _, _, _, _, _, _, _, _, _, ol_TooMany, or_TooMany⟩, sa_TooMany, b_TooMany, t_TooMany, kc_TooMany⟩, ⟨ga_TooMany, gg_TooMany, b_TooMany, hd_TooMany⟩, n_TooMany_many, n_TooMany_most, PySem.W.mg_of X G a_ZeroBottom, kc_ZeroBottom, hd_ZeroBottom, ha_ZeroBottom, hm_ZeroBottom, b_ZeroBottom, t_ZeroBottom, ga_ZeroBottom, gg_ZeroBottom, x_ZeroBottom, PySem.W.mg_of X G a_BadLot, kc_BadLot, hd_BadLot, ha_BadLot, hm_BadLot, b_BadLot, t_BadLot, ga_BadLot, gg_BadLot, x_BadLot, PySem.W.mg_of X G a_Unsure, kc_Unsure, hd_Unsure, ha_Unsure, hm_Unsure, ⟨pg_Unsure, hd_Unsure, po_Unsure, sa_Unsure⟩, mk_Unsure, n_Unsure_many, n_Unsure_lows, n_Unsure_highs, n_Unsure_aside, hnc, htk, sub_BadNumber_BadNumber, kit_Ratio_Ratio, kit_int_Ratio, PySem.W.mg_of X G a_gcd, ⟨_, PySem.W.mg_of X G a_MOST_THINGS⟩⟩
  have F1 := fun_mk (st := s_BadNumber___init__) l1 c1 k1
  have b1 := F1.binds (ps := ["self", "what", "at"]) fun _ _ _ _ _ _ us hl => match us, hl with | [_, _, _], _ => rfl
  have F2 := fun_mk (st := s_TooMany___init__) l2 c2 k2
  have b2 := F2.binds (ps := ["self", "many", "most"]) fun _ _ _ _ _ _ us hl => match us, hl with | [_, _, _], _ => rfl
  have F3 := fun_mk (st := s_check_many) l3 c3 k3
  have b3 := F3.binds (ps := ["many", "most"]) fun _ _ _ _ _ _ us hl => match us, hl with | [_, _], _ => rfl
  have F4 := fun_mk (st := s_check_length) l4 c4 k4
  have b4 := F4.binds (ps := ["what", "items", "many"]) fun _ _ _ _ _ _ us hl => match us, hl with | [_, _, _], _ => rfl
  have F5 := fun_mk (st := s_check_each) l5 c5 k5
  have b5 := F5.binds (ps := ["what", "numbers", "least"]) fun _ _ _ _ _ _ us hl => match us, hl with | [_, _, _], _ => rfl
  have F6 := fun_mk (st := s_check_prices) l6 c6 k6
  have b6 := F6.binds (ps := ["prices", "many"]) fun _ _ _ _ _ _ us hl => match us, hl with | [_, _], _ => rfl
  have F7 := fun_mk (st := s_check_least) l7 c7 k7
  have b7 := F7.binds (ps := ["what", "number", "least"]) fun _ _ _ _ _ _ us hl => match us, hl with | [_, _, _], _ => rfl
  have F8 := fun_mk (st := s_check_aside) l8 c8 k8
  have b8 := F8.binds (ps := ["aside"]) fun _ _ _ _ _ _ us hl => match us, hl with | [_], _ => rfl
  have F9 := fun_mk (st := s_check_up_to) l9 c9 k9
  have b9 := F9.binds (ps := ["what", "number", "most"]) fun _ _ _ _ _ _ us hl => match us, hl with | [_, _, _], _ => rfl
  have F10 := fun_mk (st := s_check_lot) l10 c10 k10
  have b10 := F10.binds (ps := ["lot", "many"]) fun _ _ _ _ _ _ us hl => match us, hl with | [_, _], _ => rfl
  have F11 := fun_mk (st := s__check_bounds_of_aside) l11 c11 k11
  have b11 := F11.binds (ps := ["aside"]) fun _ _ _ _ _ _ us hl => match us, hl with | [_], _ => rfl
  have F12 := fun_mk (st := s_Unsure___init__) l12 c12 k12
  have F13 : FunD K "__init__" "Ratio.__init__" (defArgs s_Ratio___init__) (defBody s_Ratio___init__) (defScope s_Ratio___init__) [V.int 1] [] f13 _ := ⟨⟨oc13, od13, .ref tT13, kV13, dc13, pm13, an13, cd13, ct13, sl13, rfl, l13, c13, .inr ⟨List.cons_ne_nil _ _, tT13, _, [.int 1 tq13_0], nT13, rfl, lt13, rfl, (.cons ⟨_, rfl⟩ .nil)⟩, .inl rfl⟩, k13⟩
  obtain ⟨dn13, vn13, b13⟩ := F13.binds1 (ps := ["self", "top", "bottom"]) 3 1 (List.cons_ne_nil _ _) rfl fun _ _ _ _ _ _ _ us its hl hi => match us, its, hl, hi with | [_, _, _], [_], _, _ => ⟨_, rfl, rfl⟩
  cases vn13
  obtain ⟨dd13, vd13, bd13⟩ := F13.binds1 (ps := ["self", "top", "bottom"]) 2 0 (List.cons_ne_nil _ _) rfl fun _ _ _ _ _ _ _ us its hl hi => match us, its, hl, hi with | [_, _], [_], _, _ => ⟨_, rfl, rfl⟩
  have F14 := fun_mk (st := s__as_ratio) l14 c14 k14
  have b14 := F14.binds (ps := ["number"]) fun _ _ _ _ _ _ us hl => match us, hl with | [_], _ => rfl
  have F15 := fun_mk (st := s__gap) l15 c15 k15
  have b15 := F15.binds (ps := ["ratio", "other"]) fun _ _ _ _ _ _ us hl => match us, hl with | [_, _], _ => rfl
  have F16 := fun_mk (st := s_Ratio___lt__) l16 c16 k16
  have b16 := F16.binds (ps := ["self", "other"]) fun _ _ _ _ _ _ us hl => match us, hl with | [_, _], _ => rfl
  have F17 := fun_mk (st := s_Ratio___le__) l17 c17 k17
  have b17 := F17.binds (ps := ["self", "other"]) fun _ _ _ _ _ _ us hl => match us, hl with | [_, _], _ => rfl
  have F18 := fun_mk (st := s_Ratio___gt__) l18 c18 k18
  have b18 := F18.binds (ps := ["self", "other"]) fun _ _ _ _ _ _ us hl => match us, hl with | [_, _], _ => rfl
  have F19 := fun_mk (st := s_Ratio___ge__) l19 c19 k19
  have b19 := F19.binds (ps := ["self", "other"]) fun _ _ _ _ _ _ us hl => match us, hl with | [_, _], _ => rfl
  have F20 := fun_mk (st := s_Ratio___add__) l20 c20 k20
  have b20 := F20.binds (ps := ["self", "other"]) fun _ _ _ _ _ _ us hl => match us, hl with | [_, _], _ => rfl
  have F21 := fun_mk (st := s_Ratio___mul__) l21 c21 k21
  have b21 := F21.binds (ps := ["self", "other"]) fun _ _ _ _ _ _ us hl => match us, hl with | [_, _], _ => rfl
  have F22 := fun_mk (st := s_Rule___init__) l22 c22 k22
  have b22 := F22.binds (ps := ["self", "many"]) fun _ _ _ _ _ _ us hl => match us, hl with | [_, _], _ => rfl
  have F23 : FunS K "__init__" "Weighted.__init__" s_Weighted___init__ cc23 cda23 f23 _ := ⟨⟨oc23, od23, kV23, dc23, pm23, an23, ct23, sl23, rfl, l23, c23⟩, k23⟩
  have b23 := F23.binds (ps := ["self", "weights", "aside"]) fun _ _ _ _ _ us hl => match us, hl with | [_, _, _], _ => rfl
  have S23 : SupC K mg C_Weighted C_Weighted cc23 cda23 f22 fi23 := ⟨⟨_, sa23⟩, sb23, ⟨_, _, _, sc23⟩, ⟨_, _, _, _, _, sd23, se23⟩, sg22_Weighted, sh23, si23, sj23, PySem.W.mg_none_of X G sk23⟩
  have F24 := fun_mk (st := s_Weighted_shares) l24 c24 k24
  have b24 := F24.binds (ps := ["self", "lot"]) fun _ _ _ _ _ _ us hl => match us, hl with | [_, _], _ => rfl
  have F25 := fun_mk (st := s_Rule_worth) l25 c25 k25
  have b25 := F25.binds (ps := ["self", "lot", "prices"]) fun _ _ _ _ _ _ us hl => match us, hl with | [_, _, _], _ => rfl
  have F26 := fun_mk (st := s__worth) l26 c26 k26
  have b26 := F26.binds (ps := ["lot", "prices", "weights", "aside"]) fun _ _ _ _ _ _ us hl => match us, hl with | [_, _, _, _], _ => rfl
  have F27 := fun_mk (st := s_dearest_order) l27 c27 k27
  have b27 := F27.binds (ps := ["prices"]) fun _ _ _ _ _ _ us hl => match us, hl with | [_], _ => rfl
  have F28 := fun_mk (st := s_first_things) l28 c28 k28
  have b28 := F28.binds (ps := ["order", "k"]) fun _ _ _ _ _ _ us hl => match us, hl with | [_, _], _ => rfl
  have F29 := fun_mk (st := s_Rule_best_dearest) l29 c29 k29
  have b29 := F29.binds (ps := ["self", "prices"]) fun _ _ _ _ _ _ us hl => match us, hl with | [_, _], _ => rfl
  have F30 := fun_mk (st := s_Weighted_best) l30 c30 k30
  have b30 := F30.binds (ps := ["self", "prices"]) fun _ _ _ _ _ _ us hl => match us, hl with | [_, _], _ => rfl
  have F31 := fun_mk (st := s_Unsure_best) l31 c31 k31
  have b31 := F31.binds (ps := ["self", "prices"]) fun _ _ _ _ _ _ us hl => match us, hl with | [_, _], _ => rfl
  have F32 := fun_mk (st := s_Unsure__check) l32 c32 k32
  have b32 := F32.binds (ps := ["self", "lot", "prices"]) fun _ _ _ _ _ _ us hl => match us, hl with | [_, _, _], _ => rfl
  have F33 := fun_mk (st := s_Unsure__turned) l33 c33 k33
  have b33 := F33.binds (ps := ["self", "lot", "prices", "dear", "cheap", "aside"]) fun _ _ _ _ _ _ us hl => match us, hl with | [_, _, _, _, _, _], _ => rfl
  have F34 := fun_mk (st := s_Unsure_least) l34 c34 k34
  have b34 := F34.binds (ps := ["self", "lot", "prices"]) fun _ _ _ _ _ _ us hl => match us, hl with | [_, _, _], _ => rfl
  have F35 := fun_mk (st := s__law_cell) l35 c35 k35
  have b35 := F35.binds (ps := ["_law_script", "_law_place"]) fun _ _ _ _ _ _ us hl => match us, hl with | [_, _], _ => rfl
  have F36 := fun_mk (st := s__law_draws) l36 c36 k36
  have b36 := F36.binds (ps := ["_law_cell_here", "_law_sizes"]) fun _ _ _ _ _ _ us hl => match us, hl with | [_, _], _ => rfl
  have F37 := fun_mk (st := s__law_row) l37 c37 k37
  have b37 := F37.binds (ps := ["_law_cell_here", "_law_count"]) fun _ _ _ _ _ _ us hl => match us, hl with | [_, _], _ => rfl
  have F38 := fun_mk (st := s__law_lot) l38 c38 k38
  have b38 := F38.binds (ps := ["_law_bits", "_law_many"]) fun _ _ _ _ _ _ us hl => match us, hl with | [_, _], _ => rfl
  have F39 := fun_mk (st := s__law_is_int) l39 c39 k39
  have b39 := F39.binds (ps := ["_law_x"]) fun _ _ _ _ _ _ us hl => match us, hl with | [_], _ => rfl
  have F40 := fun_mk (st := s__law_is_ratio) l40 c40 k40
  have b40 := F40.binds (ps := ["_law_x"]) fun _ _ _ _ _ _ us hl => match us, hl with | [_], _ => rfl
  have F41 := fun_mk (st := s__law_same) l41 c41 k41
  have b41 := F41.binds (ps := ["_law_x", "_law_top", "_law_bottom"]) fun _ _ _ _ _ _ us hl => match us, hl with | [_, _, _], _ => rfl
  have F42 := fun_mk (st := s__law_same_lot) l42 c42 k42
  have b42 := F42.binds (ps := ["_law_x", "_law_due"]) fun _ _ _ _ _ _ us hl => match us, hl with | [_, _], _ => rfl
  have F43 := fun_mk (st := s__law_refused) l43 c43 k43
  have b43 := F43.binds (ps := ["_law_answer", "_law_due"]) fun _ _ _ _ _ _ us hl => match us, hl with | [_, _], _ => rfl
  have F44 := fun_mk (st := s__law_bounds) l44 c44 k44
  have b44 := F44.binds (ps := ["_law_low_cell", "_law_high_cell", "_law_count"]) fun _ _ _ _ _ _ us hl => match us, hl with | [_, _, _], _ => rfl
  have F45 := fun_mk (st := s__law_within) l45 c45 k45
  have b45 := F45.binds (ps := ["_law_cell_here", "_law_couples"]) fun _ _ _ _ _ _ us hl => match us, hl with | [_, _], _ => rfl
  have F46 := fun_mk (st := s__law_worth) l46 c46 k46
  have b46 := F46.binds (ps := ["_law_weights", "_law_apart", "_law_prices", "_law_lot_here"]) fun _ _ _ _ _ _ us hl => match us, hl with | [_, _, _, _], _ => rfl
  have F47 := fun_mk (st := s__law_asked) l47 c47 k47
  have b47 := F47.binds (ps := ["_law_unsure", "_law_prices"]) fun _ _ _ _ _ _ us hl => match us, hl with | [_, _], _ => rfl
  have F48 := fun_mk (st := s__law_refuses) l48 c48 k48
  have b48 := F48.binds (ps := ["_law_unsure", "_law_form", "_law_prices"]) fun _ _ _ _ _ _ us hl => match us, hl with | [_, _, _], _ => rfl
  have F49 := fun_mk (st := s__law_best_lot) l49 c49 k49
  have b49 := F49.binds (ps := ["_law_told", "_law_lows", "_law_apart", "_law_prices"]) fun _ _ _ _ _ _ us hl => match us, hl with | [_, _, _, _], _ => rfl
  have F50 := fun_mk (st := s__law_inside) l50 c50 k50
  have b50 := F50.binds (ps := ["_law_told", "_law_couples"]) fun _ _ _ _ _ _ us hl => match us, hl with | [_, _], _ => rfl
  have F51 := fun_mk (st := s__law_other) l51 c51 k51
  have b51 := F51.binds (ps := ["_law_way", "_law_bits", "_law_place", "_law_best", "_law_worth_here", "_law_prices"]) fun _ _ _ _ _ _ us hl => match us, hl with | [_, _, _, _, _, _], _ => rfl
  have F52 := fun_mk (st := s_law) l52 c52 k52
  refine ⟨PySem.W.fnOf "law" "law" (defArgs s_law) (defBody s_law) (defScope s_law) .none kV52 dc52 pm52 an52 cd52 ct52, fun s v => .of_eq rfl, fun base _ _ => ?_⟩
  have K_BadNumber___init__ : CalX l.prog w K mg base CX0 1 C_BadNumber ["self", "what", "at"] (sp_BadNumber___init__ C_BadNumber) := ⟨f1, _, ok_BadNumber___init__ F1 T, a1, beq_iff_eq.mp i1, b1⟩
  have K_TooMany___init__ : CalX l.prog w K mg base CX0 1 C_TooMany ["self", "many", "most"] (sp_TooMany___init__ C_TooMany) := ⟨f2, _, ok_TooMany___init__ F2 T, a2, beq_iff_eq.mp i2, b2⟩
  have K_check_many : Cal l.prog w K mg base (L2.CX l.prog w) 3 "check_many" ["many", "most"] (sp_check_many C_TooMany) := ⟨f3, _, ok_check_many F3 T K_TooMany___init__, PySem.W.mg_of X G a3, k3, b3⟩
  have K_check_length : Cal l.prog w K mg base (L2.CX l.prog w) 3 "check_length" ["what", "items", "many"] (sp_check_length C_BadNumber) := ⟨f4, _, ok_check_length F4 T m_len K_BadNumber___init__, PySem.W.mg_of X G a4, k4, b4⟩
  have K_check_each : Cal l.prog w K mg base (L2.CX l.prog w) 3 "check_each" ["what", "numbers", "least"] (sp_check_each K C_BadNumber) := ⟨f5, _, ok_check_each F5 T m_enumerate K_BadNumber___init__, PySem.W.mg_of X G a5, k5, b5⟩
  have K_check_prices : Cal l.prog w K mg base (L2.CX l.prog w) 4 "check_prices" ["prices", "many"] (sp_check_prices K C_BadNumber) := ⟨f6, _, ok_check_prices F6 T K_check_length K_check_each, PySem.W.mg_of X G a6, k6, b6⟩
  have K_check_least : Cal l.prog w K mg base (L2.CX l.prog w) 3 "check_least" ["what", "number", "least"] (sp_check_least C_BadNumber) := ⟨f7, _, ok_check_least F7 T K_BadNumber___init__, PySem.W.mg_of X G a7, k7, b7⟩
  have K_check_aside : Cal l.prog w K mg base (L2.CX l.prog w) 4 "check_aside" ["aside"] (sp_check_aside C_BadNumber) := ⟨f8, _, ok_check_aside F8 T K_check_least, PySem.W.mg_of X G a8, k8, b8⟩
  have K_check_up_to : Cal l.prog w K mg base (L2.CX l.prog w) 3 "check_up_to" ["what", "number", "most"] (sp_check_up_to C_BadNumber) := ⟨f9, _, ok_check_up_to F9 T K_BadNumber___init__, PySem.W.mg_of X G a9, k9, b9⟩
  have K_check_lot : Cal l.prog w K mg base (L2.CX l.prog w) 1 "check_lot" ["lot", "many"] (sp_check_lot K C_BadLot) := ⟨f10, _, ok_check_lot F10 T, PySem.W.mg_of X G a10, k10, b10⟩
  have K__check_bounds_of_aside : Cal l.prog w K mg base (L2.CX l.prog w) 3 "_check_bounds_of_aside" ["aside"] (sp__check_bounds_of_aside C_BadNumber) := ⟨f11, _, ok__check_bounds_of_aside F11 T K_BadNumber___init__, PySem.W.mg_of X G a11, k11, b11⟩
  have K_Unsure___init__ : ∃ (f : Addr) (fd : FuncData), FnOk l.prog w K mg base (L2.CX l.prog w) 4 f fd ["self", "lows", "highs", "aside"] (sp_Unsure___init__ C_Unsure C_TooMany C_BadNumber) ∧ Mk K C_Unsure f ∧ KBn K fd ["self", "lows", "highs", "aside"] 3 ["aside"] (fun us ws => us ++ ws) (fun vs zs => vs ++ zs) := ⟨f12, _, ok_Unsure___init__ F12 T m_enumerate m_len m_tuple m_zip K_check_many K_check_length K_BadNumber___init__ K__check_bounds_of_aside, ⟨mk_Unsure, a12, i12, kc_Unsure⟩, ⟨fun s us ws X l1 l2 => match us, ws, l1, l2 with | [_, _, _], [_], _, _ => .of_eq rfl, fun r1 r2 => r1.append r2⟩⟩
  have K_Ratio___init__ : CalI l.prog w K mg base (L2.CX l.prog w) 1 C_Ratio ["self", "top", "bottom"] (sp_Ratio___init__ C_Ratio C_ZeroBottom) [V.int 1] := ⟨f13, _, ok_Ratio___init__ F13 T, ⟨mk_Ratio, a13, i13, kc_Ratio⟩, b13, dd13, vd13, bd13⟩
  have K__as_ratio : Cal l.prog w K mg base CX0 3 "_as_ratio" ["number"] (sp__as_ratio C_Ratio) := ⟨f14, _, ok__as_ratio F14 T m_isinstance K_Ratio___init__, PySem.W.mg_of X G a14, k14, b14⟩
  have K__gap : Cal l.prog w K mg base CX0 4 "_gap" ["ratio", "other"] (sp__gap C_Ratio) := ⟨f15, _, ok__gap F15 T K__as_ratio, PySem.W.mg_of X G a15, k15, b15⟩
  have K_Ratio___lt__ : CalM l.prog w K mg base CX0 5 C_Ratio "__lt__" ["self", "other"] (sp_Ratio___lt__ C_Ratio) := ⟨f16, _, ok_Ratio___lt__ F16 T K__gap, ⟨a16, i16, k16⟩, b16⟩
  have K_Ratio___le__ : CalM l.prog w K mg base CX0 5 C_Ratio "__le__" ["self", "other"] (sp_Ratio___le__ C_Ratio) := ⟨f17, _, ok_Ratio___le__ F17 T K__gap, ⟨a17, i17, k17⟩, b17⟩
  have K_Ratio___gt__ : CalM l.prog w K mg base CX0 5 C_Ratio "__gt__" ["self", "other"] (sp_Ratio___gt__ C_Ratio) := ⟨f18, _, ok_Ratio___gt__ F18 T K__gap, ⟨a18, i18, k18⟩, b18⟩
  have K_Ratio___ge__ : CalM l.prog w K mg base CX0 5 C_Ratio "__ge__" ["self", "other"] (sp_Ratio___ge__ C_Ratio) := ⟨f19, _, ok_Ratio___ge__ F19 T K__gap, ⟨a19, i19, k19⟩, b19⟩
  have K_Ratio___add__ : CalM l.prog w K mg base CX0 4 C_Ratio "__add__" ["self", "other"] (sp_Ratio___add__ C_Ratio) := ⟨f20, _, ok_Ratio___add__ F20 T K__as_ratio K_Ratio___init__, ⟨a20, i20, k20⟩, b20⟩
  have K_Ratio___mul__ : CalM l.prog w K mg base CX0 4 C_Ratio "__mul__" ["self", "other"] (sp_Ratio___mul__ C_Ratio) := ⟨f21, _, ok_Ratio___mul__ F21 T K__as_ratio K_Ratio___init__, ⟨a21, i21, k21⟩, b21⟩
  have K_Rule___init__ : ∃ fd : FuncData, FnOk l.prog w K mg base (L2.CX l.prog w) 4 f22 fd ["self", "many"] (sp_Rule___init__ C_Weighted C_TooMany) ∧ Binds K fd ["self", "many"] [] := ⟨_, ok_Rule___init__ F22 T K_check_many, b22⟩
  have K_Weighted___init__ : CalI l.prog w K mg base (L2.CX l.prog w) 5 C_Weighted ["self", "weights", "aside"] (sp_Weighted___init__ K C_Weighted C_TooMany C_BadNumber) [] := ⟨f23, _, ok_Weighted___init__ F23 S23 sl_23 sm23 T m_len m_tuple K_Rule___init__ K_check_each K_check_aside, ⟨mk_Weighted, a23, i23, kc_Weighted⟩, b23, [], .nil, b23⟩
  have K_Weighted_shares : CalM l.prog w K mg base (L2.CX l.prog w) 3 C_Weighted "shares" ["self", "lot"] (sp_Weighted_shares K C_Weighted C_Ratio C_BadLot) := ⟨f24, _, ok_Weighted_shares F24 T m_range m_sum K_check_lot K_Ratio___init__, ⟨a24, i24, k24⟩, b24⟩
  have K_Rule_worth : CalM l.prog w K mg base (L2.CX l.prog w) 6 C_Weighted "worth" ["self", "lot", "prices"] (sp_Rule_worth C_Weighted C_Ratio C_BadLot C_BadNumber) := ⟨f25, _, ok_Rule_worth F25 T m_sum K_check_prices K_Weighted_shares K_Ratio___init__ K_Ratio___mul__ K_Ratio___add__, ⟨a25, i25, k25⟩, b25⟩
  have K__worth : Cal l.prog w K mg base CX0 3 "_worth" ["lot", "prices", "weights", "aside"] (sp__worth C_Ratio) := ⟨f26, _, ok__worth F26 T m_sum K_Ratio___init__, PySem.W.mg_of X G a26, k26, b26⟩
  have K_dearest_order : Cal l.prog w K mg base CX0 1 "dearest_order" ["prices"] (sp_dearest_order K) := ⟨f27, _, ok_dearest_order F27 T m_len m_range m_tuple, PySem.W.mg_of X G a27, k27, b27⟩
  have K_first_things : Cal l.prog w K mg base (L2.CX l.prog w) 4 "first_things" ["order", "k"] (sp_first_things K C_BadNumber) := ⟨f28, _, ok_first_things F28 T m_int m_len m_sorted m_tuple K_check_up_to, PySem.W.mg_of X G a28, k28, b28⟩
  have K_Rule_best_dearest : CalM l.prog w K mg base (L2.CX l.prog w) 7 C_Weighted "best_dearest" ["self", "prices"] (sp_Rule_best_dearest C_Weighted C_Ratio C_BadNumber) := ⟨f29, _, ok_Rule_best_dearest F29 T m_range K_check_prices K_dearest_order K_Ratio___init__ K_first_things K_Rule_worth K_Ratio___gt__ K_Ratio___lt__, ⟨a29, i29, k29⟩, b29⟩
  have K_Weighted_best : CalM l.prog w K mg base (L2.CX l.prog w) 8 C_Weighted "best" ["self", "prices"] (sp_Weighted_best C_Weighted C_Ratio C_BadNumber) := ⟨f30, _, ok_Weighted_best F30 T m_range m_tuple K_Rule_best_dearest K_Ratio___gt__ K_Ratio___lt__, ⟨a30, i30, k30⟩, b30⟩
  have K_Unsure_best : CalM l.prog w K mg base (L2.CX l.prog w) 9 C_Unsure "best" ["self", "prices"] (sp_Unsure_best C_Unsure C_Ratio C_BadNumber) := ⟨f31, _, ok_Unsure_best F31 T K_Weighted___init__ K_Weighted_best, ⟨a31, i31, k31⟩, b31⟩
  have K_Unsure__check : CalM l.prog w K mg base (L2.CX l.prog w) 5 C_Unsure "_check" ["self", "lot", "prices"] (sp_Unsure__check C_Unsure C_BadLot C_BadNumber) := ⟨f32, _, ok_Unsure__check F32 T K_check_prices K_check_lot, ⟨a32, i32, k32⟩, b32⟩
  have K_Unsure__turned : CalM l.prog w K mg base CX0 6 C_Unsure "_turned" ["self", "lot", "prices", "dear", "cheap", "aside"] (sp_Unsure__turned C_Unsure C_Ratio) := ⟨f33, _, ok_Unsure__turned F33 T m_list K__worth K_dearest_order K_Ratio___le__ K_Ratio___ge__, ⟨a33, i33, k33⟩, b33⟩
  have K_Unsure_least : CalM l.prog w K mg base (L2.CX l.prog w) 7 C_Unsure "least" ["self", "lot", "prices"] (sp_Unsure_least C_Unsure C_Ratio C_BadLot C_BadNumber) := ⟨f34, _, ok_Unsure_least F34 T K_Unsure__check K_Unsure__turned, ⟨a34, i34, k34⟩, b34⟩
  have K__law_cell : Cal l.prog w K mg base CX0 1 "_law_cell" ["_law_script", "_law_place"] (sp__law_cell K) := ⟨f35, _, ok__law_cell F35 T m_int m_len, PySem.W.mg_of X G a35, k35, b35⟩
  have K__law_draws : Cal l.prog w K mg base CX0 1 "_law_draws" ["_law_cell_here", "_law_sizes"] (sp__law_draws K) := ⟨f36, _, ok__law_draws F36 T m_int m_len m_range, PySem.W.mg_of X G a36, k36, b36⟩
  have K__law_row : Cal l.prog w K mg base CX0 2 "_law_row" ["_law_cell_here", "_law_count"] (sp__law_row K) := ⟨f37, _, ok__law_row F37 T m_int m_range K__law_draws, PySem.W.mg_of X G a37, k37, b37⟩
  have K__law_lot : Cal l.prog w K mg base CX0 1 "_law_lot" ["_law_bits", "_law_many"] (sp__law_lot K) := ⟨f38, _, ok__law_lot F38 T m_int m_range m_tuple, PySem.W.mg_of X G a38, k38, b38⟩
  have K__law_is_int : Cal l.prog w K mg base CX0 1 "_law_is_int" ["_law_x"] sp__law_is_int := ⟨f39, _, ok__law_is_int F39 T m_bool m_int m_isinstance, PySem.W.mg_of X G a39, k39, b39⟩
  have K__law_is_ratio : Cal l.prog w K mg base CX0 2 "_law_is_ratio" ["_law_x"] (sp__law_is_ratio C_Ratio) := ⟨f40, _, ok__law_is_ratio F40 T m_isinstance K__law_is_int, PySem.W.mg_of X G a40, k40, b40⟩
  have K__law_same : Cal l.prog w K mg base CX0 2 "_law_same" ["_law_x", "_law_top", "_law_bottom"] (sp__law_same C_Ratio) := ⟨f41, _, ok__law_same F41 T m_isinstance K__law_is_int, PySem.W.mg_of X G a41, k41, b41⟩
  have K__law_same_lot : Cal l.prog w K mg base CX0 2 "_law_same_lot" ["_law_x", "_law_due"] (sp__law_same_lot K) := ⟨f42, _, ok__law_same_lot F42 T m_isinstance m_len m_range m_tuple K__law_is_int, PySem.W.mg_of X G a42, k42, b42⟩
  have K__law_refused : Cal l.prog w K mg base CX0 2 "_law_refused" ["_law_answer", "_law_due"] (sp__law_refused) := ⟨f43, _, ok__law_refused F43 T m_isinstance m_len m_range m_str K__law_is_int, PySem.W.mg_of X G a43, k43, b43⟩
  have K__law_bounds : Cal l.prog w K mg base CX0 3 "_law_bounds" ["_law_low_cell", "_law_high_cell", "_law_count"] sp__law_bounds := ⟨f44, _, ok__law_bounds F44 T m_int m_range K__law_row, PySem.W.mg_of X G a44, k44, b44⟩
  have K__law_within : Cal l.prog w K mg base CX0 2 "_law_within" ["_law_cell_here", "_law_couples"] (sp__law_within K) := ⟨f45, _, ok__law_within F45 T m_int m_len m_range K__law_draws, PySem.W.mg_of X G a45, k45, b45⟩
  have K__law_worth : Cal l.prog w K mg base CX0 1 "_law_worth" ["_law_weights", "_law_apart", "_law_prices", "_law_lot_here"] sp__law_worth := ⟨f46, _, ok__law_worth F46 T, PySem.W.mg_of X G a46, k46, b46⟩
  have K__law_asked : Cal l.prog w K mg base CX0 10 "_law_asked" ["_law_unsure", "_law_prices"] (sp__law_asked C_Unsure) := ⟨f47, _, ok__law_asked F47 T K_Unsure_best, PySem.W.mg_of X G a47, k47, b47⟩
  have K__law_refuses : Cal l.prog w K mg base CX0 11 "_law_refuses" ["_law_unsure", "_law_form", "_law_prices"] (sp__law_refuses C_Unsure) := ⟨f48, _, ok__law_refuses F48 T m_int m_len m_list K__law_asked K__law_refused, PySem.W.mg_of X G a48, k48, b48⟩
  have K__law_best_lot : Cal l.prog w K mg base CX0 3 "_law_best_lot" ["_law_told", "_law_lows", "_law_apart", "_law_prices"] (sp__law_best_lot C_Ratio) := ⟨f49, _, ok__law_best_lot F49 T m_isinstance m_len m_range m_tuple K__law_is_ratio K__law_worth K__law_same_lot K__law_same, PySem.W.mg_of X G a49, k49, b49⟩
  have K__law_inside : Cal l.prog w K mg base CX0 3 "_law_inside" ["_law_told", "_law_couples"] (sp__law_inside C_Ratio) := ⟨f50, _, ok__law_inside F50 T m_isinstance m_len m_list m_range m_tuple K__law_is_ratio K__law_is_int, PySem.W.mg_of X G a50, k50, b50⟩
  have K__law_other : Cal l.prog w K mg base CX0 2 "_law_other" ["_law_way", "_law_bits", "_law_place", "_law_best", "_law_worth_here", "_law_prices"] (sp__law_other C_Ratio) := ⟨f51, _, ok__law_other F51 T m_int m_len m_range m_tuple K__law_lot, PySem.W.mg_of X G a51, k51, b51⟩
  exact ok_law F52 T m_all m_list K_Unsure___init__ K_Unsure_best K_Unsure_least K__law_cell K__law_draws K__law_row K__law_lot K__law_bounds K__law_within K__law_worth K__law_refuses K__law_best_lot K__law_other K__law_inside
end K66
open PySem PySem.W PyProof.Rows
set_option pp.maxSteps 400 in
set_option maxHeartbeats 0 in
theorem PySem.Challenge.cw_dearestshelf_k66_whole_best_in_the_worst_holds : PySem.Challenge.rw_dearestshelf_k66_whole_best_in_the_worst.Holds := by
  w_on; o_law; k_head; (case hw => w_witness2)
  k_fill
  refine L2.walk_of (l := PySem.Challenge.rw_dearestshelf_k66_whole_best_in_the_worst) (n := 63) (k := 12) (x := "_law_script") (CX := fun _ => L2.CX0) (sp := fun w => K66.sp_law _) rfl (by decide) rfl ⟨rfl, by decide, by decide⟩ (fun w h Y => PySem.W.kIn_of Y) ?F (fun _ _ a ns hl _ hS => ⟨a, ns, rfl, hS, hl, fun _ => rfl⟩) (fun _ _ _ _ _ h => h)
  case F =>
    intro w mg fa h KX G hmg
    refine' K66.all_mk KX G hmg ?a_Weighted ?kc_Weighted ?hd_Weighted ?ha_Weighted ?hm_Weighted ?pg_Weighted ?po_Weighted ?sa_Weighted ?mk_Weighted ?n_Weighted_many ?n_Weighted_weights ?n_Weighted_aside ?a_Ratio ?kc_Ratio ?hd_Ratio ?ha_Ratio ?hm_Ratio ?pg_Ratio ?po_Ratio ?sa_Ratio ?mk_Ratio ?n_Ratio_top ?n_Ratio_bottom ?ss_Ratio ?sb_Ratio ?sy_Ratio ?sf_Ratio ?si_Ratio ?sr_Ratio ?rf_Ratio_add ?of_Ratio_add ?inta_add ?intr_add ?rf_Ratio_mul ?of_Ratio_mul ?inta_mul ?intr_mul ?a_BadNumber ?kc_BadNumber ?hd_BadNumber ?ha_BadNumber ?hm_BadNumber ?b_BadNumber ?t_BadNumber ?ga_BadNumber ?gg_BadNumber ?ol_BadNumber ?or_BadNumber ?sa_BadNumber ?n_BadNumber_what ?n_BadNumber_at ?a_TooMany ?kc_TooMany ?hd_TooMany ?ha_TooMany ?hm_TooMany ?b_TooMany ?t_TooMany ?ga_TooMany ?gg_TooMany ?ol_TooMany ?or_TooMany ?sa_TooMany ?n_TooMany_many ?n_TooMany_most ?a_ZeroBottom ?kc_ZeroBottom ?hd_ZeroBottom ?ha_ZeroBottom ?hm_ZeroBottom ?b_ZeroBottom ?t_ZeroBottom ?ga_ZeroBottom ?gg_ZeroBottom ?x_ZeroBottom ?a_BadLot ?kc_BadLot ?hd_BadLot ?ha_BadLot ?hm_BadLot ?b_BadLot ?t_BadLot ?ga_BadLot ?gg_BadLot ?x_BadLot ?a_Unsure ?kc_Unsure ?hd_Unsure ?ha_Unsure ?hm_Unsure ?pg_Unsure ?po_Unsure ?sa_Unsure ?mk_Unsure ?n_Unsure_many ?n_Unsure_lows ?n_Unsure_highs ?n_Unsure_aside ?hnc ?htk ?sub_BadNumber_BadNumber ?kit_Ratio_Ratio ?kit_int_Ratio ?a_gcd ?a_MOST_THINGS ?a1 ?i1 ?l1 ?c1 ?k1 ?a2 ?i2 ?l2 ?c2 ?k2 ?a3 ?l3 ?c3 ?k3 ?a4 ?l4 ?c4 ?k4 ?a5 ?l5 ?c5 ?k5 ?a6 ?l6 ?c6 ?k6 ?a7 ?l7 ?c7 ?k7 ?a8 ?l8 ?c8 ?k8 ?a9 ?l9 ?c9 ?k9 ?a10 ?l10 ?c10 ?k10 ?a11 ?l11 ?c11 ?k11 ?a12 ?i12 ?l12 ?c12 ?k12 ?a13 ?i13 ?l13 ?lt13 ?c13 ?k13 ?a14 ?l14 ?c14 ?k14 ?a15 ?l15 ?c15 ?k15 ?a16 ?i16 ?l16 ?c16 ?k16 ?a17 ?i17 ?l17 ?c17 ?k17 ?a18 ?i18 ?l18 ?c18 ?k18 ?a19 ?i19 ?l19 ?c19 ?k19 ?a20 ?i20 ?l20 ?c20 ?k20 ?a21 ?i21 ?l21 ?c21 ?k21 ?sg22_Weighted ?l22 ?c22 ?k22 ?sa23 ?sb23 ?a23 ?i23 ?l23 ?c23 ?k23 ?sc23 ?sd23 ?se23 ?sh23 ?si23 ?sj23 ?sk23 ?sl_23 ?sm23 ?a24 ?i24 ?l24 ?c24 ?k24 ?a25 ?i25 ?l25 ?c25 ?k25 ?a26 ?l26 ?c26 ?k26 ?a27 ?l27 ?c27 ?k27 ?a28 ?l28 ?c28 ?k28 ?a29 ?i29 ?l29 ?c29 ?k29 ?a30 ?i30 ?l30 ?c30 ?k30 ?a31 ?i31 ?l31 ?c31 ?k31 ?a32 ?i32 ?l32 ?c32 ?k32 ?a33 ?i33 ?l33 ?c33 ?k33 ?a34 ?i34 ?l34 ?c34 ?k34 ?a35 ?l35 ?c35 ?k35 ?a36 ?l36 ?c36 ?k36 ?a37 ?l37 ?c37 ?k37 ?a38 ?l38 ?c38 ?k38 ?a39 ?l39 ?c39 ?k39 ?a40 ?l40 ?c40 ?k40 ?a41 ?l41 ?c41 ?k41 ?a42 ?l42 ?c42 ?k42 ?a43 ?l43 ?c43 ?k43 ?a44 ?l44 ?c44 ?k44 ?a45 ?l45 ?c45 ?k45 ?a46 ?l46 ?c46 ?k46 ?a47 ?l47 ?c47 ?k47 ?a48 ?l48 ?c48 ?k48 ?a49 ?l49 ?c49 ?k49 ?a50 ?l50 ?c50 ?k50 ?a51 ?l51 ?c51 ?k51 ?a52 ?l52 ?c52 ?k52 ?z_all ?z_bool ?z_enumerate ?z_int ?z_isinstance ?z_len ?z_list ?z_range ?z_sorted ?z_str ?z_sum ?z_tuple ?z_zip
    (case a_Weighted => k_is); (case kc_Weighted => k_is); (case hd_Weighted => k_is); (case ha_Weighted => k_is); (case hm_Weighted => k_is); (case pg_Weighted => k_is); (case po_Weighted => k_is); (case sa_Weighted => k_is); (case mk_Weighted => k_is); (case n_Weighted_many => k_is); (case n_Weighted_weights => k_is); (case n_Weighted_aside => k_is); (case a_Ratio => k_is); (case kc_Ratio => k_is); (case hd_Ratio => k_is); (case ha_Ratio => k_is); (case hm_Ratio => k_is); (case pg_Ratio => k_is); (case po_Ratio => k_is); (case sa_Ratio => k_is); (case mk_Ratio => k_is); (case n_Ratio_top => k_is); (case n_Ratio_bottom => k_is); (case ss_Ratio => (first | k_is | decide +kernel)); (case sb_Ratio => (first | k_is | decide +kernel)); (case sy_Ratio => (first | k_is | decide +kernel)); (case sf_Ratio => k_is); (case si_Ratio => (first | k_is | decide +kernel)); (case sr_Ratio => (first | k_is | decide +kernel)); (case rf_Ratio_add => k_is); (case of_Ratio_add => k_is); (case inta_add => k_is); (case intr_add => k_is); (case rf_Ratio_mul => k_is); (case of_Ratio_mul => k_is); (case inta_mul => k_is); (case intr_mul => k_is); (case a_BadNumber => k_is); (case kc_BadNumber => k_is); (case hd_BadNumber => k_is); (case ha_BadNumber => k_is); (case hm_BadNumber => k_is); (case b_BadNumber => k_is); (case t_BadNumber => k_is); (case ga_BadNumber => k_is); (case gg_BadNumber => k_is); (case ol_BadNumber => k_is); (case or_BadNumber => rfl); (case sa_BadNumber => k_is); (case n_BadNumber_what => k_is); (case n_BadNumber_at => k_is); (case a_TooMany => k_is); (case kc_TooMany => k_is); (case hd_TooMany => k_is); (case ha_TooMany => k_is); (case hm_TooMany => k_is); (case b_TooMany => k_is); (case t_TooMany => k_is); (case ga_TooMany => k_is); (case gg_TooMany => k_is); (case ol_TooMany => k_is); (case or_TooMany => rfl); (case sa_TooMany => k_is); (case n_TooMany_many => k_is); (case n_TooMany_most => k_is); (case a_ZeroBottom => k_is); (case kc_ZeroBottom => k_is); (case hd_ZeroBottom => k_is); (case ha_ZeroBottom => k_is); (case hm_ZeroBottom => k_is); (case b_ZeroBottom => k_is); (case t_ZeroBottom => k_is); (case ga_ZeroBottom => k_is); (case gg_ZeroBottom => k_is); (case x_ZeroBottom => k_exc); (case a_BadLot => k_is); (case kc_BadLot => k_is); (case hd_BadLot => k_is); (case ha_BadLot => k_is); (case hm_BadLot => k_is); (case b_BadLot => k_is); (case t_BadLot => k_is); (case ga_BadLot => k_is); (case gg_BadLot => k_is); (case x_BadLot => k_exc); (case a_Unsure => k_is); (case kc_Unsure => k_is); (case hd_Unsure => k_is); (case ha_Unsure => k_is); (case hm_Unsure => k_is); (case pg_Unsure => k_is); (case po_Unsure => k_is); (case sa_Unsure => k_is); (case mk_Unsure => k_is); (case n_Unsure_many => k_is); (case n_Unsure_lows => k_is); (case n_Unsure_highs => k_is); (case n_Unsure_aside => k_is); (case hnc => k_is); (case htk => k_is); (case sub_BadNumber_BadNumber => (first | rfl | k_is)); (case kit_Ratio_Ratio => kit_is); (case kit_int_Ratio => kit_is); (case a_gcd => k_is); (case a_MOST_THINGS => k_is); (case a1 => k_is); (case i1 => k_is); (case l1 => k_is); (case c1 => k_is); (case k1 => k_is); (case a2 => k_is); (case i2 => k_is); (case l2 => k_is); (case c2 => k_is); (case k2 => k_is); (case a3 => k_is); (case l3 => k_is); (case c3 => k_is); (case k3 => k_is); (case a4 => k_is); (case l4 => k_is); (case c4 => k_is); (case k4 => k_is); (case a5 => k_is); (case l5 => k_is); (case c5 => k_is); (case k5 => k_is); (case a6 => k_is); (case l6 => k_is); (case c6 => k_is); (case k6 => k_is); (case a7 => k_is); (case l7 => k_is); (case c7 => k_is); (case k7 => k_is); (case a8 => k_is); (case l8 => k_is); (case c8 => k_is); (case k8 => k_is); (case a9 => k_is); (case l9 => k_is); (case c9 => k_is); (case k9 => k_is); (case a10 => k_is); (case l10 => k_is); (case c10 => k_is); (case k10 => k_is); (case a11 => k_is); (case l11 => k_is); (case c11 => k_is); (case k11 => k_is); (case a12 => k_is); (case i12 => k_is); (case l12 => k_is); (case c12 => k_is); (case k12 => k_is); (case a13 => k_is); (case i13 => k_is); (case l13 => k_is); (case lt13 => k_is); (case c13 => k_is); (case k13 => k_is); (case a14 => k_is); (case l14 => k_is); (case c14 => k_is); (case k14 => k_is); (case a15 => k_is); (case l15 => k_is); (case c15 => k_is); (case k15 => k_is); (case a16 => k_is); (case i16 => k_is); (case l16 => k_is); (case c16 => k_is); (case k16 => k_is); (case a17 => k_is); (case i17 => k_is); (case l17 => k_is); (case c17 => k_is); (case k17 => k_is); (case a18 => k_is); (case i18 => k_is); (case l18 => k_is); (case c18 => k_is); (case k18 => k_is); (case a19 => k_is); (case i19 => k_is); (case l19 => k_is); (case c19 => k_is); (case k19 => k_is); (case a20 => k_is); (case i20 => k_is); (case l20 => k_is); (case c20 => k_is); (case k20 => k_is); (case a21 => k_is); (case i21 => k_is); (case l21 => k_is); (case c21 => k_is); (case k21 => k_is); (case sg22_Weighted => ks_is); (case l22 => k_is); (case c22 => k_is); (case k22 => k_is); (case sa23 => k_is); (case sb23 => k_is); (case a23 => k_is); (case i23 => k_is); (case l23 => k_is); (case c23 => k_is); (case k23 => k_is); (case sc23 => k_is); (case sd23 => k_is); (case se23 => rfl); (case sh23 => k_is); (case si23 => k_is); (case sj23 => k_is); (case sk23 => k_is); (case sl_23 => (first | rfl | decide +kernel)); (case sm23 => (first | rfl | decide +kernel)); (case a24 => k_is); (case i24 => k_is); (case l24 => k_is); (case c24 => k_is); (case k24 => k_is); (case a25 => k_is); (case i25 => k_is); (case l25 => k_is); (case c25 => k_is); (case k25 => k_is); (case a26 => k_is); (case l26 => k_is); (case c26 => k_is); (case k26 => k_is); (case a27 => k_is); (case l27 => k_is); (case c27 => k_is); (case k27 => k_is); (case a28 => k_is); (case l28 => k_is); (case c28 => k_is); (case k28 => k_is); (case a29 => k_is); (case i29 => k_is); (case l29 => k_is); (case c29 => k_is); (case k29 => k_is); (case a30 => k_is); (case i30 => k_is); (case l30 => k_is); (case c30 => k_is); (case k30 => k_is); (case a31 => k_is); (case i31 => k_is); (case l31 => k_is); (case c31 => k_is); (case k31 => k_is); (case a32 => k_is); (case i32 => k_is); (case l32 => k_is); (case c32 => k_is); (case k32 => k_is); (case a33 => k_is); (case i33 => k_is); (case l33 => k_is); (case c33 => k_is); (case k33 => k_is); (case a34 => k_is); (case i34 => k_is); (case l34 => k_is); (case c34 => k_is); (case k34 => k_is); (case a35 => k_is); (case l35 => k_is); (case c35 => k_is); (case k35 => k_is); (case a36 => k_is); (case l36 => k_is); (case c36 => k_is); (case k36 => k_is); (case a37 => k_is); (case l37 => k_is); (case c37 => k_is); (case k37 => k_is); (case a38 => k_is); (case l38 => k_is); (case c38 => k_is); (case k38 => k_is); (case a39 => k_is); (case l39 => k_is); (case c39 => k_is); (case k39 => k_is); (case a40 => k_is); (case l40 => k_is); (case c40 => k_is); (case k40 => k_is); (case a41 => k_is); (case l41 => k_is); (case c41 => k_is); (case k41 => k_is); (case a42 => k_is); (case l42 => k_is); (case c42 => k_is); (case k42 => k_is); (case a43 => k_is); (case l43 => k_is); (case c43 => k_is); (case k43 => k_is); (case a44 => k_is); (case l44 => k_is); (case c44 => k_is); (case k44 => k_is); (case a45 => k_is); (case l45 => k_is); (case c45 => k_is); (case k45 => k_is); (case a46 => k_is); (case l46 => k_is); (case c46 => k_is); (case k46 => k_is); (case a47 => k_is); (case l47 => k_is); (case c47 => k_is); (case k47 => k_is); (case a48 => k_is); (case l48 => k_is); (case c48 => k_is); (case k48 => k_is); (case a49 => k_is); (case l49 => k_is); (case c49 => k_is); (case k49 => k_is); (case a50 => k_is); (case l50 => k_is); (case c50 => k_is); (case k50 => k_is); (case a51 => k_is); (case l51 => k_is); (case c51 => k_is); (case k51 => k_is); (case a52 => k_is); (case l52 => k_is); (case c52 => k_is); (case k52 => k_is); (case z_all => k_is); (case z_bool => k_is); (case z_enumerate => k_is); (case z_int => k_is); (case z_isinstance => k_is); (case z_len => k_is); (case z_list => k_is); (case z_range => k_is); (case z_sorted => k_is); (case z_str => k_is); (case z_sum => k_is); (case z_tuple => k_is); (case z_zip => k_is)
