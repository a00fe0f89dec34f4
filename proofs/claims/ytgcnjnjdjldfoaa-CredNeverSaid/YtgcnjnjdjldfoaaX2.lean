/- The walk of CredTells; credentials that come in by value. -/
import Derived.Test.YtgcnjnjdjldfoaaX1
import Derived.Lib.SmallJoins
import Derived.Deep.Fields
import Derived.ChangeSame
namespace Go.Proofs.Ytgcnjnjdjldfoaa
open Go.RowKit Go.ChangeShapes Go.WideShapes Go.Deep
set_option linter.unusedVariables false
set_option linter.unusedSimpArgs false

theorem rof_at (u g r e s h x k : Int) (hp : ofP u g = (⟨r, e, s, h, x⟩, k)) (w : World) : Calls Try.prog 11 #[.int .i64 u, .int .i64 g] w fun v w' => v = .returned (.tuple #[.agg #[.int .i64 r, .int .i64 e, .int .i64 s, .int .i64 h, .int .i64 x], .int .i64 k]) ∧ Below w.heap.size w w' :=
  (rof_any u g w).mono fun _ _ ⟨he, hb⟩ => ⟨by rw [he, hp]; rfl, hb⟩
theorem rexec_at (r e s g x m o r' e' s' g' x' k : Int) (hp : execP ⟨r, e, s, g, x⟩ m o = (⟨r', e', s', g', x'⟩, k)) (w : World) : Calls Try.prog 13 #[.agg #[.int .i64 r, .int .i64 e, .int .i64 s, .int .i64 g, .int .i64 x], .int .i64 m, .int .i64 o] w fun v w' => v = .returned (.tuple #[.agg #[.int .i64 r', .int .i64 e', .int .i64 s', .int .i64 g', .int .i64 x'], .int .i64 k]) ∧ Below w.heap.size w w' :=
  (rexec_any r e s g x m o w).mono fun _ _ ⟨he, hb⟩ => ⟨by rw [he, hp]; rfl, hb⟩
theorem rsuid_at (r e s g x u r' e' s' g' x' k : Int) (hp : suidP ⟨r, e, s, g, x⟩ u = (⟨r', e', s', g', x'⟩, k)) (w : World) : Calls Try.prog 15 #[.agg #[.int .i64 r, .int .i64 e, .int .i64 s, .int .i64 g, .int .i64 x], .int .i64 u] w fun v w' => v = .returned (.tuple #[.agg #[.int .i64 r', .int .i64 e', .int .i64 s', .int .i64 g', .int .i64 x'], .int .i64 k]) ∧ Below w.heap.size w w' :=
  (rsuid_any r e s g x u w).mono fun _ _ ⟨he, hb⟩ => ⟨by rw [he, hp]; rfl, hb⟩
theorem rsgid_at (r e s g x u r' e' s' g' x' k : Int) (hp : sgidP ⟨r, e, s, g, x⟩ u = (⟨r', e', s', g', x'⟩, k)) (w : World) : Calls Try.prog 17 #[.agg #[.int .i64 r, .int .i64 e, .int .i64 s, .int .i64 g, .int .i64 x], .int .i64 u] w fun v w' => v = .returned (.tuple #[.agg #[.int .i64 r', .int .i64 e', .int .i64 s', .int .i64 g', .int .i64 x'], .int .i64 k]) ∧ Below w.heap.size w w' :=
  (rsgid_any r e s g x u w).mono fun _ _ ⟨he, hb⟩ => ⟨by rw [he, hp]; rfl, hb⟩
theorem open_ans (a : Crd × Int) : ∃ r e s g x k, a = (⟨r, e, s, g, x⟩, k) := ⟨_, _, _, _, _, _, rfl⟩
theorem crdT : Try.prog.underlying 23 = some (.struct (Try.prog.fieldsOf 23)) := by kernel_rfl
theorem list5 {l : List Value} (h : l.length = 5) : ∃ a b c d e, l = [a, b, c, d, e] := by
  match l, h with
  | [a, b, c, d, e], _ => exact ⟨a, b, c, d, e, rfl⟩
section
variable {H : Type} {enc : TypeId × Value → H} {w : World} {base : Nat} {spare : Nat → Bool} {held : Bool}
/-- credentials that came in by value: five numbers. -/
theorem open_crd {r : Reach} {b0 : Nat} {v : Value} {d : DataW H} {p : List MemPlace} (hv : Value.okWide Try.prog w r b0 23 v) (h : DataW.Trod enc Try.prog w base spare held 23 v d p) :
    ∃ z : Crd, v = .agg #[.int .i64 z.r, .int .i64 z.e, .int .i64 z.s, .int .i64 z.g, .int .i64 z.x] ∧ True := by
  obtain ⟨cs, rfl, hsz⟩ := okWide_struct crdT hv
  obtain ⟨fuel, hf⟩ := h
  obtain ⟨xs, m, _, _, hl, hxl, hg⟩ := DataW.trod_struct crdT hf
  rw [show Try.prog.cellsOf 23 = 5 by kernel_rfl] at hsz
  obtain ⟨l⟩ := cs
  obtain ⟨c0, c1, c2, c3, c4, rfl⟩ := list5 (show l.length = 5 from hsz)
  have hs : (Try.prog.fieldsOf 23).size = 5 := by kernel_rfl
  have key : ∀ (i : Nat), i < 5 → ((Try.prog.fieldsOf 23)[i]?.map fun g => (g.offset, g.type)) = some (i, 3) → ∃ y, DataW.trod enc Try.prog w base spare held m 3 (([c0, c1, c2, c3, c4].drop i).take (Try.prog.cellsOf 3)) = some y := by
    intro i hi ht
    cases hgi : (Try.prog.fieldsOf 23)[i]? with
    | none => rw [hgi] at ht; cases ht
    | some f =>
      rw [hgi] at ht
      obtain ⟨fo, ft⟩ := Prod.mk.inj (Option.some.inj ht)
      have := hg i f hgi
      rw [fo, ft] at this
      exact ⟨xs[i]'(by omega), by rw [← List.getElem?_eq_getElem (show i < xs.length by omega)]; exact this⟩
  have c3' : Try.prog.cellsOf 3 = 1 := by kernel_rfl
  obtain ⟨_, h0⟩ := key 0 (by decide) (by kernel_rfl)
  obtain ⟨_, h1⟩ := key 1 (by decide) (by kernel_rfl)
  obtain ⟨_, h2⟩ := key 2 (by decide) (by kernel_rfl)
  obtain ⟨_, h3⟩ := key 3 (by decide) (by kernel_rfl)
  obtain ⟨_, h4⟩ := key 4 (by decide) (by kernel_rfl)
  rw [c3'] at h0 h1 h2 h3 h4
  obtain ⟨n0, e0, _, k0⟩ := DataW.trod_int Try.underlying3 h0
  obtain ⟨n1, e1, _, k1⟩ := DataW.trod_int Try.underlying3 h1
  obtain ⟨n2, e2, _, k2⟩ := DataW.trod_int Try.underlying3 h2
  obtain ⟨n3, e3, _, k3⟩ := DataW.trod_int Try.underlying3 h3
  obtain ⟨n4, e4, _, k4⟩ := DataW.trod_int Try.underlying3 h4
  simp at e0 e1 e2 e3 e4
  subst e0 e1 e2 e3 e4
  exact ⟨⟨n0, n1, n2, n3, n4⟩, rfl, trivial⟩
end
set_option maxHeartbeats 4000000 in
set_option maxRecDepth 100000 in
theorem tells_walk (z : Crd) (u g m o : Int) (w : World) : Calls Try.prog 3 #[.agg #[.int .i64 z.r, .int .i64 z.e, .int .i64 z.s, .int .i64 z.g, .int .i64 z.x], .int .i64 u, .int .i64 g, .int .i64 m, .int .i64 o] w fun v w' => v = .returned (.bool true) ∧ Below w.heap.size w w' := by
  obtain ⟨r1, e1, s1, g1, x1, k1, h1⟩ := open_ans (ofP u g)
  obtain ⟨r2, e2, s2, g2, x2, k2, h2⟩ := open_ans (execP ⟨z.r, z.e, z.s, z.g, z.x⟩ m o)
  obtain ⟨r3, e3, s3, g3, x3, k3, h3⟩ := open_ans (suidP ⟨z.r, z.e, z.s, z.g, z.x⟩ u)
  obtain ⟨r4, e4, s4, g4, x4, k4, h4⟩ := open_ans (sgidP ⟨z.r, z.e, z.s, z.g, z.x⟩ g)
  have H1 := Lib.hid h1
  have H2 := Lib.hid h2
  have H3 := Lib.hid h3
  have H4 := Lib.hid h4
  clear h1 h2 h3 h4
  go_enter Try.func3, Try.ntmps3
  go_wp2_with fail
  refine (shown_any _).mono ?_
  rintro e w1 ⟨rfl, hb1⟩
  have hB0 := Below.refl w.heap.size w
  have hs0 := Nat.le_refl w.heap.size
  obtain ⟨hB1, hs1, hz1⟩ := next hB0 hs0 hb1
  have Kc1 := (CAt.new w (z.r) (z.e) (z.s) (z.g) (z.x)).below hb1 (by simp)
  obtain ⟨cc0, cc1, cc2, cc3, cc4⟩ := Kc1.cells
  obtain ⟨cf0, cf1, cf2, cf3, cf4⟩ := Kc1.frozens
  have ltc1 := Kc1.lt
  replace Kc1 := Lib.hid Kc1
  clear hb1
  go_wp2_with fail
  refine (of_at _ _ _ _ _ _ _ _ H1.out _).mono ?_
  rintro e w2 ⟨rfl, hb2⟩
  obtain ⟨hB2, hs2, hz2⟩ := next0 hB1 hs1 hb2
  have Kc2 := Kc1.out.below hb2 Kc1.out.lt
  clear cc0 cc1 cc2 cc3 cc4 cf0 cf1 cf2 cf3 cf4
  obtain ⟨cc0, cc1, cc2, cc3, cc4⟩ := Kc2.cells
  obtain ⟨cf0, cf1, cf2, cf3, cf4⟩ := Kc2.frozens
  have ltc2 := Kc2.lt
  replace Kc2 := Lib.hid Kc2
  clear hb2
  go_wp2_with fail
  refine (rof_at _ _ _ _ _ _ _ _ H1.out _).mono ?_
  rintro e w3 ⟨rfl, hb3⟩
  obtain ⟨hB3, hs3, hz3⟩ := next hB2 hs2 hb3
  have Kc3 := (Kc2.out.alloc _).below hb3 (by have := Kc2.out.lt; simp; omega)
  have Ka3 := (CAt.new w2 (r1) (e1) (s1) (g1) (x1)).below hb3 (by simp)
  clear cc0 cc1 cc2 cc3 cc4 cf0 cf1 cf2 cf3 cf4
  obtain ⟨cc0, cc1, cc2, cc3, cc4⟩ := Kc3.cells
  obtain ⟨cf0, cf1, cf2, cf3, cf4⟩ := Kc3.frozens
  have ltc3 := Kc3.lt
  replace Kc3 := Lib.hid Kc3
  obtain ⟨ac0, ac1, ac2, ac3, ac4⟩ := Ka3.cells
  obtain ⟨af0, af1, af2, af3, af4⟩ := Ka3.frozens
  have lta3 := Ka3.lt
  replace Ka3 := Lib.hid Ka3
  clear hb3
  go_wp2_with fail
  refine (exec_at _ _ _ _ _ _ _ _ _ _ _ _ _ H2.out _).mono ?_
  rintro e w4 ⟨rfl, hb4⟩
  obtain ⟨hB4, hs4, hz4⟩ := next hB3 hs3 hb4
  have Kc4 := (Kc3.out.alloc _).below hb4 (by have := Kc3.out.lt; simp; omega)
  have Ka4 := (Ka3.out.alloc _).below hb4 (by have := Ka3.out.lt; simp; omega)
  have Kb4 := (CAt.new w3 (r1) (e1) (s1) (g1) (x1)).below hb4 (by simp)
  clear cc0 cc1 cc2 cc3 cc4 cf0 cf1 cf2 cf3 cf4
  obtain ⟨cc0, cc1, cc2, cc3, cc4⟩ := Kc4.cells
  obtain ⟨cf0, cf1, cf2, cf3, cf4⟩ := Kc4.frozens
  have ltc4 := Kc4.lt
  replace Kc4 := Lib.hid Kc4
  clear ac0 ac1 ac2 ac3 ac4 af0 af1 af2 af3 af4
  obtain ⟨ac0, ac1, ac2, ac3, ac4⟩ := Ka4.cells
  obtain ⟨af0, af1, af2, af3, af4⟩ := Ka4.frozens
  have lta4 := Ka4.lt
  replace Ka4 := Lib.hid Ka4
  obtain ⟨bc0, bc1, bc2, bc3, bc4⟩ := Kb4.cells
  obtain ⟨bf0, bf1, bf2, bf3, bf4⟩ := Kb4.frozens
  have ltb4 := Kb4.lt
  replace Kb4 := Lib.hid Kb4
  clear hb4
  go_wp2_with fail
  refine (rexec_at _ _ _ _ _ _ _ _ _ _ _ _ _ H2.out _).mono ?_
  rintro e w5 ⟨rfl, hb5⟩
  obtain ⟨hB5, hs5, hz5⟩ := next hB4 hs4 hb5
  have Kc5 := (Kc4.out.alloc _).below hb5 (by have := Kc4.out.lt; simp; omega)
  have Ka5 := (Ka4.out.alloc _).below hb5 (by have := Ka4.out.lt; simp; omega)
  have Kb5 := (Kb4.out.alloc _).below hb5 (by have := Kb4.out.lt; simp; omega)
  have Kx5 := (CAt.new w4 (r2) (e2) (s2) (g2) (x2)).below hb5 (by simp)
  clear cc0 cc1 cc2 cc3 cc4 cf0 cf1 cf2 cf3 cf4
  obtain ⟨cc0, cc1, cc2, cc3, cc4⟩ := Kc5.cells
  obtain ⟨cf0, cf1, cf2, cf3, cf4⟩ := Kc5.frozens
  have ltc5 := Kc5.lt
  replace Kc5 := Lib.hid Kc5
  clear ac0 ac1 ac2 ac3 ac4 af0 af1 af2 af3 af4
  obtain ⟨ac0, ac1, ac2, ac3, ac4⟩ := Ka5.cells
  obtain ⟨af0, af1, af2, af3, af4⟩ := Ka5.frozens
  have lta5 := Ka5.lt
  replace Ka5 := Lib.hid Ka5
  clear bc0 bc1 bc2 bc3 bc4 bf0 bf1 bf2 bf3 bf4
  obtain ⟨bc0, bc1, bc2, bc3, bc4⟩ := Kb5.cells
  obtain ⟨bf0, bf1, bf2, bf3, bf4⟩ := Kb5.frozens
  have ltb5 := Kb5.lt
  replace Kb5 := Lib.hid Kb5
  obtain ⟨xc0, xc1, xc2, xc3, xc4⟩ := Kx5.cells
  obtain ⟨xf0, xf1, xf2, xf3, xf4⟩ := Kx5.frozens
  have ltx5 := Kx5.lt
  replace Kx5 := Lib.hid Kx5
  clear hb5
  have q1 := eq_at r1 e1 s1 g1 x1 r1 e1 s1 g1 x1 true (eqC_refl _)
  have q2 := fun op a b => guard_at op a b r1 e1 s1 g1 x1 r1 e1 s1 g1 x1
  have q3 := eq_at r2 e2 s2 g2 x2 r2 e2 s2 g2 x2 true (eqC_refl _)
  have q4 := fun op a b => guard_at op a b r2 e2 s2 g2 x2 r2 e2 s2 g2 x2
  go_wp2_with fail
  refine (suid_at _ _ _ _ _ _ _ _ _ _ _ _ H3.out _).mono ?_
  rintro e w6 ⟨rfl, hb6⟩
  obtain ⟨hB6, hs6, hz6⟩ := next hB5 hs5 hb6
  have Kc6 := (Kc5.out.alloc _).below hb6 (by have := Kc5.out.lt; simp; omega)
  have Ka6 := (Ka5.out.alloc _).below hb6 (by have := Ka5.out.lt; simp; omega)
  have Kb6 := (Kb5.out.alloc _).below hb6 (by have := Kb5.out.lt; simp; omega)
  have Kx6 := (Kx5.out.alloc _).below hb6 (by have := Kx5.out.lt; simp; omega)
  have Ky6 := (CAt.new w5 (r2) (e2) (s2) (g2) (x2)).below hb6 (by simp)
  clear cc0 cc1 cc2 cc3 cc4 cf0 cf1 cf2 cf3 cf4
  obtain ⟨cc0, cc1, cc2, cc3, cc4⟩ := Kc6.cells
  obtain ⟨cf0, cf1, cf2, cf3, cf4⟩ := Kc6.frozens
  have ltc6 := Kc6.lt
  replace Kc6 := Lib.hid Kc6
  clear ac0 ac1 ac2 ac3 ac4 af0 af1 af2 af3 af4
  obtain ⟨ac0, ac1, ac2, ac3, ac4⟩ := Ka6.cells
  obtain ⟨af0, af1, af2, af3, af4⟩ := Ka6.frozens
  have lta6 := Ka6.lt
  replace Ka6 := Lib.hid Ka6
  clear bc0 bc1 bc2 bc3 bc4 bf0 bf1 bf2 bf3 bf4
  obtain ⟨bc0, bc1, bc2, bc3, bc4⟩ := Kb6.cells
  obtain ⟨bf0, bf1, bf2, bf3, bf4⟩ := Kb6.frozens
  have ltb6 := Kb6.lt
  replace Kb6 := Lib.hid Kb6
  clear xc0 xc1 xc2 xc3 xc4 xf0 xf1 xf2 xf3 xf4
  obtain ⟨xc0, xc1, xc2, xc3, xc4⟩ := Kx6.cells
  obtain ⟨xf0, xf1, xf2, xf3, xf4⟩ := Kx6.frozens
  have ltx6 := Kx6.lt
  replace Kx6 := Lib.hid Kx6
  obtain ⟨yc0, yc1, yc2, yc3, yc4⟩ := Ky6.cells
  obtain ⟨yf0, yf1, yf2, yf3, yf4⟩ := Ky6.frozens
  have lty6 := Ky6.lt
  replace Ky6 := Lib.hid Ky6
  clear hb6
  clear q1 q2 q3 q4
  go_wp2_with fail
  refine (rsuid_at _ _ _ _ _ _ _ _ _ _ _ _ H3.out _).mono ?_
  rintro e w7 ⟨rfl, hb7⟩
  obtain ⟨hB7, hs7, hz7⟩ := nextS hB6 hs6 (show w.heap.size ≤ w2.heap.size by omega) hb7
  have Kc7 := (Kc6.out.far5 (show w.heap.size ≠ w2.heap.size by omega) _ _ _ _ _).below hb7 (by have := Kc6.out.lt; simpa using this)
  have Ka7 := (Ka6.out.set5 (r3) (e3) (s3) (g3) (x3)).below hb7 (by have := Ka6.out.lt; simpa using this)
  have Kb7 := (Kb6.out.far5 (show w3.heap.size ≠ w2.heap.size by omega) _ _ _ _ _).below hb7 (by have := Kb6.out.lt; simpa using this)
  have Kx7 := (Kx6.out.far5 (show w4.heap.size ≠ w2.heap.size by omega) _ _ _ _ _).below hb7 (by have := Kx6.out.lt; simpa using this)
  have Ky7 := (Ky6.out.far5 (show w5.heap.size ≠ w2.heap.size by omega) _ _ _ _ _).below hb7 (by have := Ky6.out.lt; simpa using this)
  clear cc0 cc1 cc2 cc3 cc4 cf0 cf1 cf2 cf3 cf4
  obtain ⟨cc0, cc1, cc2, cc3, cc4⟩ := Kc7.cells
  obtain ⟨cf0, cf1, cf2, cf3, cf4⟩ := Kc7.frozens
  have ltc7 := Kc7.lt
  replace Kc7 := Lib.hid Kc7
  clear ac0 ac1 ac2 ac3 ac4 af0 af1 af2 af3 af4
  obtain ⟨ac0, ac1, ac2, ac3, ac4⟩ := Ka7.cells
  obtain ⟨af0, af1, af2, af3, af4⟩ := Ka7.frozens
  have lta7 := Ka7.lt
  replace Ka7 := Lib.hid Ka7
  clear bc0 bc1 bc2 bc3 bc4 bf0 bf1 bf2 bf3 bf4
  obtain ⟨bc0, bc1, bc2, bc3, bc4⟩ := Kb7.cells
  obtain ⟨bf0, bf1, bf2, bf3, bf4⟩ := Kb7.frozens
  have ltb7 := Kb7.lt
  replace Kb7 := Lib.hid Kb7
  clear xc0 xc1 xc2 xc3 xc4 xf0 xf1 xf2 xf3 xf4
  obtain ⟨xc0, xc1, xc2, xc3, xc4⟩ := Kx7.cells
  obtain ⟨xf0, xf1, xf2, xf3, xf4⟩ := Kx7.frozens
  have ltx7 := Kx7.lt
  replace Kx7 := Lib.hid Kx7
  clear yc0 yc1 yc2 yc3 yc4 yf0 yf1 yf2 yf3 yf4
  obtain ⟨yc0, yc1, yc2, yc3, yc4⟩ := Ky7.cells
  obtain ⟨yf0, yf1, yf2, yf3, yf4⟩ := Ky7.frozens
  have lty7 := Ky7.lt
  replace Ky7 := Lib.hid Ky7
  clear hb7
  go_wp2_with fail
  refine (sgid_at _ _ _ _ _ _ _ _ _ _ _ _ H4.out _).mono ?_
  rintro e w8 ⟨rfl, hb8⟩
  obtain ⟨hB8, hs8, hz8⟩ := nextS hB7 hs7 (show w.heap.size ≤ w3.heap.size by omega) hb8
  have Kc8 := (Kc7.out.far5 (show w.heap.size ≠ w3.heap.size by omega) _ _ _ _ _).below hb8 (by have := Kc7.out.lt; simpa using this)
  have Ka8 := (Ka7.out.far5 (show w2.heap.size ≠ w3.heap.size by omega) _ _ _ _ _).below hb8 (by have := Ka7.out.lt; simpa using this)
  have Kb8 := (Kb7.out.set5 (r3) (e3) (s3) (g3) (x3)).below hb8 (by have := Kb7.out.lt; simpa using this)
  have Kx8 := (Kx7.out.far5 (show w4.heap.size ≠ w3.heap.size by omega) _ _ _ _ _).below hb8 (by have := Kx7.out.lt; simpa using this)
  have Ky8 := (Ky7.out.far5 (show w5.heap.size ≠ w3.heap.size by omega) _ _ _ _ _).below hb8 (by have := Ky7.out.lt; simpa using this)
  clear cc0 cc1 cc2 cc3 cc4 cf0 cf1 cf2 cf3 cf4
  obtain ⟨cc0, cc1, cc2, cc3, cc4⟩ := Kc8.cells
  obtain ⟨cf0, cf1, cf2, cf3, cf4⟩ := Kc8.frozens
  have ltc8 := Kc8.lt
  replace Kc8 := Lib.hid Kc8
  clear ac0 ac1 ac2 ac3 ac4 af0 af1 af2 af3 af4
  obtain ⟨ac0, ac1, ac2, ac3, ac4⟩ := Ka8.cells
  obtain ⟨af0, af1, af2, af3, af4⟩ := Ka8.frozens
  have lta8 := Ka8.lt
  replace Ka8 := Lib.hid Ka8
  clear bc0 bc1 bc2 bc3 bc4 bf0 bf1 bf2 bf3 bf4
  obtain ⟨bc0, bc1, bc2, bc3, bc4⟩ := Kb8.cells
  obtain ⟨bf0, bf1, bf2, bf3, bf4⟩ := Kb8.frozens
  have ltb8 := Kb8.lt
  replace Kb8 := Lib.hid Kb8
  clear xc0 xc1 xc2 xc3 xc4 xf0 xf1 xf2 xf3 xf4
  obtain ⟨xc0, xc1, xc2, xc3, xc4⟩ := Kx8.cells
  obtain ⟨xf0, xf1, xf2, xf3, xf4⟩ := Kx8.frozens
  have ltx8 := Kx8.lt
  replace Kx8 := Lib.hid Kx8
  clear yc0 yc1 yc2 yc3 yc4 yf0 yf1 yf2 yf3 yf4
  obtain ⟨yc0, yc1, yc2, yc3, yc4⟩ := Ky8.cells
  obtain ⟨yf0, yf1, yf2, yf3, yf4⟩ := Ky8.frozens
  have lty8 := Ky8.lt
  replace Ky8 := Lib.hid Ky8
  clear hb8
  go_wp2_with fail
  refine (rsgid_at _ _ _ _ _ _ _ _ _ _ _ _ H4.out _).mono ?_
  rintro e w9 ⟨rfl, hb9⟩
  obtain ⟨hB9, hs9, hz9⟩ := nextS hB8 hs8 (show w.heap.size ≤ w4.heap.size by omega) hb9
  have Kc9 := (Kc8.out.far5 (show w.heap.size ≠ w4.heap.size by omega) _ _ _ _ _).below hb9 (by have := Kc8.out.lt; simpa using this)
  have Ka9 := (Ka8.out.far5 (show w2.heap.size ≠ w4.heap.size by omega) _ _ _ _ _).below hb9 (by have := Ka8.out.lt; simpa using this)
  have Kb9 := (Kb8.out.far5 (show w3.heap.size ≠ w4.heap.size by omega) _ _ _ _ _).below hb9 (by have := Kb8.out.lt; simpa using this)
  have Kx9 := (Kx8.out.set5 (r4) (e4) (s4) (g4) (x4)).below hb9 (by have := Kx8.out.lt; simpa using this)
  have Ky9 := (Ky8.out.far5 (show w5.heap.size ≠ w4.heap.size by omega) _ _ _ _ _).below hb9 (by have := Ky8.out.lt; simpa using this)
  clear cc0 cc1 cc2 cc3 cc4 cf0 cf1 cf2 cf3 cf4
  obtain ⟨cc0, cc1, cc2, cc3, cc4⟩ := Kc9.cells
  obtain ⟨cf0, cf1, cf2, cf3, cf4⟩ := Kc9.frozens
  have ltc9 := Kc9.lt
  replace Kc9 := Lib.hid Kc9
  clear ac0 ac1 ac2 ac3 ac4 af0 af1 af2 af3 af4
  obtain ⟨ac0, ac1, ac2, ac3, ac4⟩ := Ka9.cells
  obtain ⟨af0, af1, af2, af3, af4⟩ := Ka9.frozens
  have lta9 := Ka9.lt
  replace Ka9 := Lib.hid Ka9
  clear bc0 bc1 bc2 bc3 bc4 bf0 bf1 bf2 bf3 bf4
  obtain ⟨bc0, bc1, bc2, bc3, bc4⟩ := Kb9.cells
  obtain ⟨bf0, bf1, bf2, bf3, bf4⟩ := Kb9.frozens
  have ltb9 := Kb9.lt
  replace Kb9 := Lib.hid Kb9
  clear xc0 xc1 xc2 xc3 xc4 xf0 xf1 xf2 xf3 xf4
  obtain ⟨xc0, xc1, xc2, xc3, xc4⟩ := Kx9.cells
  obtain ⟨xf0, xf1, xf2, xf3, xf4⟩ := Kx9.frozens
  have ltx9 := Kx9.lt
  replace Kx9 := Lib.hid Kx9
  clear yc0 yc1 yc2 yc3 yc4 yf0 yf1 yf2 yf3 yf4
  obtain ⟨yc0, yc1, yc2, yc3, yc4⟩ := Ky9.cells
  obtain ⟨yf0, yf1, yf2, yf3, yf4⟩ := Ky9.frozens
  have lty9 := Ky9.lt
  replace Ky9 := Lib.hid Ky9
  clear hb9
  have q1 := eq_at r3 e3 s3 g3 x3 r3 e3 s3 g3 x3 true (eqC_refl _)
  have q2 := fun op a b => guard_at op a b r3 e3 s3 g3 x3 r3 e3 s3 g3 x3
  have q3 := eq_at r4 e4 s4 g4 x4 r4 e4 s4 g4 x4 true (eqC_refl _)
  have q4 := fun op a b => guard_at op a b r4 e4 s4 g4 x4 r4 e4 s4 g4 x4
  go_wp2_with fail
  go_ret
  exact ⟨rfl, set5_below hB9 (show w.heap.size ≤ w5.heap.size by omega) _ _ _ _ _⟩
end Go.Proofs.Ytgcnjnjdjldfoaa
