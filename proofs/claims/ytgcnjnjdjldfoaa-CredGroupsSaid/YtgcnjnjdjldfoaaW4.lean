/- '==' of two credentials; what must be in any case. -/
import Derived.Test.YtgcnjnjdjldfoaaW3
import Derived.Laws.StructEq
namespace Go.Proofs.Ytgcnjnjdjldfoaa
open Go.RowKit
set_option linter.unusedVariables false
set_option linter.unusedSimpArgs false

def eqC (u v : Crd) : Bool := u.r == v.r && (u.e == v.e && (u.s == v.s && (u.g == v.g && u.x == v.x)))
theorem eqC_iff (u v : Crd) : eqC u v = true ↔ u = v := by
  unfold eqC
  simp only [Bool.and_eq_true, beq_iff_eq]
  constructor
  · rintro ⟨h1, h2, h3, h4, h5⟩
    obtain ⟨a, b, c, d, e⟩ := u
    obtain ⟨a', b', c', d', e'⟩ := v
    simp only at h1 h2 h3 h4 h5
    rw [h1, h2, h3, h4, h5]
  · rintro rfl; simp
set_option maxHeartbeats 1000000 in
theorem equal_crd (u v : Crd) (w : World) : (Op.equalIn 10000 23 u.val v.val).run Try.prog w = .ok (eqC u v) w := by
  have hS : Try.prog.underlying 23 = some (.struct (Try.prog.fieldsOf 23)) := by kernel_rfl
  have hp : Try.prog.stoodInHeld 23 = false := by kernel_rfl
  unfold Crd.val
  rw [show (10000 : Nat) = 9999 + 1 from rfl, run_equalIn_agg w 9999 _ _ _ hS hp]
  simp only [Program.fieldsOf, Try.underlying23]
  unfold eqC
  go_simp
  by_cases h1 : u.r = v.r
  · by_cases h2 : u.e = v.e
    · by_cases h3 : u.s = v.s
      · by_cases h4 : u.g = v.g
        · by_cases h5 : u.x = v.x
          · simp [h1, h2, h3, h4, h5]
          · simp [h1, h2, h3, h4, h5]
        · simp [h1, h2, h3, h4]
      · simp [h1, h2, h3]
    · simp [h1, h2]
  · simp [h1]
theorem guard_crd (op : BinOp) (a b : Operand) (u v : Crd) (w : World) : (eqGuard op 23 a b u.val v.val).run Try.prog w = .ok () w := run_eqGuard_agg w op _ a b _ _ (by kernel_rfl)
theorem Blk.new (w : World) (t : TypeId) (cs : Array Value) : Blk (w.alloc (.cells cs t)) w.heap.size t cs := heap_alloc_new w _
theorem Blk.below {w w' : World} {g B : Nat} {t : TypeId} {cs : Array Value} (h : Blk w g t cs) (hb : Below B w w') (hg : g < B) : Blk w' g t cs := (hb.block g hg).trans h
theorem Blk.lt {w : World} {g : Nat} {t : TypeId} {cs : Array Value} (h : Blk w g t cs) : g < w.heap.size := by
  rcases Nat.lt_or_ge g w.heap.size with hlt | hge
  · exact hlt
  · unfold Blk at h; rw [Array.getElem?_eq_none hge] at h; cases h
theorem Blk.alloc {w : World} {g : Nat} {t : TypeId} {cs : Array Value} (h : Blk w g t cs) (o : Obj) : Blk (w.alloc o) g t cs := (Below.heap_alloc w o g h.lt).trans h
theorem Blk.frozen {w : World} {g : Nat} {t : TypeId} {cs : Array Value} (h : Blk w g t cs) (i : Nat) : w.frozen? ⟨g, i, none⟩ = false := by
  unfold Blk at h
  simp [World.frozen?, h]
/-- a block of credentials, cell by cell. -/
def CAt (w : World) (g : Nat) (c : Crd) : Prop := Blk w g 23 #[.int .i64 c.r, .int .i64 c.e, .int .i64 c.s, .int .i64 c.g, .int .i64 c.x]
theorem CAt.cells {w : World} {g : Nat} {r e s h x : Int} (k : CAt w g ⟨r, e, s, h, x⟩) : w.cell? ⟨g, 0, none⟩ = some (.int .i64 r) ∧ w.cell? ⟨g, 1, none⟩ = some (.int .i64 e) ∧ w.cell? ⟨g, 2, none⟩ = some (.int .i64 s) ∧ w.cell? ⟨g, 3, none⟩ = some (.int .i64 h) ∧ w.cell? ⟨g, 4, none⟩ = some (.int .i64 x) :=
  ⟨Blk.cell k 0, Blk.cell k 1, Blk.cell k 2, Blk.cell k 3, Blk.cell k 4⟩
theorem CAt.frozens {w : World} {g : Nat} {c : Crd} (k : CAt w g c) : w.frozen? ⟨g, 0, none⟩ = false ∧ w.frozen? ⟨g, 1, none⟩ = false ∧ w.frozen? ⟨g, 2, none⟩ = false ∧ w.frozen? ⟨g, 3, none⟩ = false ∧ w.frozen? ⟨g, 4, none⟩ = false :=
  ⟨Blk.frozen k 0, Blk.frozen k 1, Blk.frozen k 2, Blk.frozen k 3, Blk.frozen k 4⟩
theorem CAt.new (w : World) (r e s h x : Int) : CAt (w.alloc (.cells #[.int .i64 r, .int .i64 e, .int .i64 s, .int .i64 h, .int .i64 x] 23)) w.heap.size ⟨r, e, s, h, x⟩ := Blk.new w _ _
theorem CAt.below {w w' : World} {g B : Nat} {c : Crd} (h : CAt w g c) (hb : Below B w w') (hg : g < B) : CAt w' g c := Blk.below h hb hg
theorem CAt.alloc {w : World} {g : Nat} {c : Crd} (h : CAt w g c) (o : Obj) : CAt (w.alloc o) g c := Blk.alloc h o
theorem CAt.lt {w : World} {g : Nat} {c : Crd} (h : CAt w g c) : g < w.heap.size := Blk.lt h
/-- the contracts with their answers laid open. -/
theorem of_at (u g r e s h x k : Int) (hp : ofP u g = (⟨r, e, s, h, x⟩, k)) (w : World) : Calls Try.prog 10 #[.int .i64 u, .int .i64 g] w fun v w' => v = .returned (.tuple #[.agg #[.int .i64 r, .int .i64 e, .int .i64 s, .int .i64 h, .int .i64 x], .int .i64 k]) ∧ Below w.heap.size w w' :=
  (of_any u g w).mono fun _ _ ⟨he, hb⟩ => ⟨by rw [he, hp]; rfl, hb⟩
theorem exec_at (r e s g x m o r' e' s' g' x' k : Int) (hp : execP ⟨r, e, s, g, x⟩ m o = (⟨r', e', s', g', x'⟩, k)) (w : World) : Calls Try.prog 12 #[.agg #[.int .i64 r, .int .i64 e, .int .i64 s, .int .i64 g, .int .i64 x], .int .i64 m, .int .i64 o] w fun v w' => v = .returned (.tuple #[.agg #[.int .i64 r', .int .i64 e', .int .i64 s', .int .i64 g', .int .i64 x'], .int .i64 k]) ∧ Below w.heap.size w w' :=
  (exec_any r e s g x m o w).mono fun _ _ ⟨he, hb⟩ => ⟨by rw [he, hp]; rfl, hb⟩
theorem suid_at (r e s g x u r' e' s' g' x' k : Int) (hp : suidP ⟨r, e, s, g, x⟩ u = (⟨r', e', s', g', x'⟩, k)) (w : World) : Calls Try.prog 14 #[.agg #[.int .i64 r, .int .i64 e, .int .i64 s, .int .i64 g, .int .i64 x], .int .i64 u] w fun v w' => v = .returned (.tuple #[.agg #[.int .i64 r', .int .i64 e', .int .i64 s', .int .i64 g', .int .i64 x'], .int .i64 k]) ∧ Below w.heap.size w w' :=
  (suid_any r e s g x u w).mono fun _ _ ⟨he, hb⟩ => ⟨by rw [he, hp]; rfl, hb⟩
theorem sgid_at (r e s g x u r' e' s' g' x' k : Int) (hp : sgidP ⟨r, e, s, g, x⟩ u = (⟨r', e', s', g', x'⟩, k)) (w : World) : Calls Try.prog 16 #[.agg #[.int .i64 r, .int .i64 e, .int .i64 s, .int .i64 g, .int .i64 x], .int .i64 u] w fun v w' => v = .returned (.tuple #[.agg #[.int .i64 r', .int .i64 e', .int .i64 s', .int .i64 g', .int .i64 x'], .int .i64 k]) ∧ Below w.heap.size w w' :=
  (sgid_any r e s g x u w).mono fun _ _ ⟨he, hb⟩ => ⟨by rw [he, hp]; rfl, hb⟩
theorem p57 : ofP 5 7 = (⟨5, 5, 5, 7, 7⟩, 0) := by kernel_rfl
theorem x57 : execP ⟨5, 5, 5, 7, 7⟩ 2541 0 = (⟨5, 0, 0, 7, 7⟩, 0) := by kernel_rfl
theorem u57 : suidP ⟨5, 0, 0, 7, 7⟩ 5 = (⟨5, 5, 5, 7, 7⟩, 0) := by kernel_rfl
theorem n57 : suidP ⟨5, 5, 5, 7, 7⟩ 0 = (⟨0, 0, 0, 0, 0⟩, 2) := by kernel_rfl
/-- the world goes on: what was below stays. -/
theorem next {B : Nat} {w w1 w2 : World} {o : Obj} (h : Below B w w1) (hB : B ≤ w1.heap.size) (hb : Below (w1.alloc o).heap.size (w1.alloc o) w2) : Below B w w2 ∧ B ≤ w2.heap.size ∧ w1.heap.size < w2.heap.size := by
  have h1 := hb.size
  rw [show (w1.alloc o).heap.size = w1.heap.size + 1 by simp] at h1
  exact ⟨(h.alloc hB _).trans (hb.mono (by simp; omega)), by omega, by omega⟩
theorem next0 {B : Nat} {w w1 w2 : World} (h : Below B w w1) (hB : B ≤ w1.heap.size) (hb : Below w1.heap.size w1 w2) : Below B w w2 ∧ B ≤ w2.heap.size ∧ w1.heap.size ≤ w2.heap.size := by
  have h1 := hb.size
  exact ⟨h.trans (hb.mono hB), by omega, by omega⟩
theorem set5_below {B : Nat} {w w1 : World} {g : Nat} (h : Below B w w1) (hg : B ≤ g) (v0 v1 v2 v3 v4 : Value) : Below B w (((((w1.setCell ⟨g, 0, none⟩ v0).setCell ⟨g, 1, none⟩ v1).setCell ⟨g, 2, none⟩ v2).setCell ⟨g, 3, none⟩ v3).setCell ⟨g, 4, none⟩ v4) :=
  ((((h.setCell (p := ⟨g, 0, none⟩) hg _).setCell (p := ⟨g, 1, none⟩) hg _).setCell (p := ⟨g, 2, none⟩) hg _).setCell (p := ⟨g, 3, none⟩) hg _).setCell (p := ⟨g, 4, none⟩) hg _
theorem set5_size {w1 : World} {g : Nat} {v0 v1 v2 v3 v4 : Value} : (((((w1.setCell ⟨g, 0, none⟩ v0).setCell ⟨g, 1, none⟩ v1).setCell ⟨g, 2, none⟩ v2).setCell ⟨g, 3, none⟩ v3).setCell ⟨g, 4, none⟩ v4).heap.size = w1.heap.size := by simp
theorem nextS {B : Nat} {w w1 w2 : World} {g : Nat} {v0 v1 v2 v3 v4 : Value} (h : Below B w w1) (hB : B ≤ w1.heap.size) (hg : B ≤ g)
    (hb : Below (((((w1.setCell ⟨g, 0, none⟩ v0).setCell ⟨g, 1, none⟩ v1).setCell ⟨g, 2, none⟩ v2).setCell ⟨g, 3, none⟩ v3).setCell ⟨g, 4, none⟩ v4).heap.size (((((w1.setCell ⟨g, 0, none⟩ v0).setCell ⟨g, 1, none⟩ v1).setCell ⟨g, 2, none⟩ v2).setCell ⟨g, 3, none⟩ v3).setCell ⟨g, 4, none⟩ v4) w2) :
    Below B w w2 ∧ B ≤ w2.heap.size ∧ w1.heap.size ≤ w2.heap.size := by
  have h1 := hb.size
  rw [set5_size] at h1
  exact ⟨(set5_below h hg _ _ _ _ _).trans (hb.mono (by rw [set5_size]; exact hB)), by omega, by omega⟩
theorem CAt.set5 {w : World} {g : Nat} {c : Crd} (h : CAt w g c) (r e s k x : Int) : CAt (((((w.setCell ⟨g, 0, none⟩ (.int .i64 r)).setCell ⟨g, 1, none⟩ (.int .i64 e)).setCell ⟨g, 2, none⟩ (.int .i64 s)).setCell ⟨g, 3, none⟩ (.int .i64 k)).setCell ⟨g, 4, none⟩ (.int .i64 x)) g ⟨r, e, s, k, x⟩ := five h _ _ _ _ _
theorem CAt.far5 {w : World} {b g : Nat} {c : Crd} (h : CAt w b c) (hne : b ≠ g) (v0 v1 v2 v3 v4 : Value) : CAt (((((w.setCell ⟨g, 0, none⟩ v0).setCell ⟨g, 1, none⟩ v1).setCell ⟨g, 2, none⟩ v2).setCell ⟨g, 3, none⟩ v3).setCell ⟨g, 4, none⟩ v4) b c :=
  ((((Blk.far h (p := ⟨g, 0, none⟩) hne _).far (p := ⟨g, 1, none⟩) hne _).far (p := ⟨g, 2, none⟩) hne _).far (p := ⟨g, 3, none⟩) hne _).far (p := ⟨g, 4, none⟩) hne _
/-- '==' of credentials whose parts are given. -/
theorem eq_at (r e s g x r' e' s' g' x' : Int) (b : Bool) (h : eqC ⟨r, e, s, g, x⟩ ⟨r', e', s', g', x'⟩ = b) (w : World) : (Op.equalIn 10000 23 (.agg #[.int .i64 r, .int .i64 e, .int .i64 s, .int .i64 g, .int .i64 x]) (.agg #[.int .i64 r', .int .i64 e', .int .i64 s', .int .i64 g', .int .i64 x'])).run Try.prog w = .ok b w := by
  have := equal_crd ⟨r, e, s, g, x⟩ ⟨r', e', s', g', x'⟩ w
  rw [h] at this
  exact this
theorem guard_at (op : BinOp) (a b : Operand) (r e s g x r' e' s' g' x' : Int) (w : World) : (eqGuard op 23 a b (.agg #[.int .i64 r, .int .i64 e, .int .i64 s, .int .i64 g, .int .i64 x]) (.agg #[.int .i64 r', .int .i64 e', .int .i64 s', .int .i64 g', .int .i64 x'])).run Try.prog w = .ok () w :=
  guard_crd op a b ⟨r, e, s, g, x⟩ ⟨r', e', s', g', x'⟩ w
set_option maxHeartbeats 2000000 in
theorem shown_any (w : World) : Calls Try.prog 9 #[] w fun v w' => v = .returned (.bool true) ∧ Below w.heap.size w w' := by
  go_enter Try.func9, Try.ntmps9
  go_wp2_with fail
  refine (of_at _ _ _ _ _ _ _ _ p57 _).mono ?_
  rintro e w1 ⟨rfl, hb1⟩
  have hB1 := hb1
  have hs1 := hb1.size
  go_wp2_with fail
  refine (exec_at _ _ _ _ _ _ _ _ _ _ _ _ _ x57 _).mono ?_
  rintro e w2 ⟨rfl, hb2⟩
  obtain ⟨hB2, hs2, hz2⟩ := next hB1 hs1 hb2
  have Kc2 := (CAt.new w1 (5) (5) (5) (7) (7)).below hb2 (by simp)
  obtain ⟨cc0, cc1, cc2, cc3, cc4⟩ := Kc2.cells
  obtain ⟨cf0, cf1, cf2, cf3, cf4⟩ := Kc2.frozens
  have ltc2 := Kc2.lt
  replace Kc2 := Lib.hid Kc2
  clear hb2
  go_wp2_with fail
  refine (suid_at _ _ _ _ _ _ _ _ _ _ _ _ u57 _).mono ?_
  rintro e w3 ⟨rfl, hb3⟩
  obtain ⟨hB3, hs3, hz3⟩ := next hB2 hs2 hb3
  have Kc3 := (Kc2.out.alloc _).below hb3 (by have := Kc2.out.lt; simp; omega)
  have Kd3 := (CAt.new w2 (5) (0) (0) (7) (7)).below hb3 (by simp)
  clear cc0 cc1 cc2 cc3 cc4 cf0 cf1 cf2 cf3 cf4
  obtain ⟨cc0, cc1, cc2, cc3, cc4⟩ := Kc3.cells
  obtain ⟨cf0, cf1, cf2, cf3, cf4⟩ := Kc3.frozens
  have ltc3 := Kc3.lt
  replace Kc3 := Lib.hid Kc3
  obtain ⟨dc0, dc1, dc2, dc3, dc4⟩ := Kd3.cells
  obtain ⟨df0, df1, df2, df3, df4⟩ := Kd3.frozens
  have ltd3 := Kd3.lt
  replace Kd3 := Lib.hid Kd3
  clear hb3
  go_wp2_with fail
  refine (suid_at _ _ _ _ _ _ _ _ _ _ _ _ n57 _).mono ?_
  rintro e w4 ⟨rfl, hb4⟩
  obtain ⟨hB4, hs4, hz4⟩ := next hB3 hs3 hb4
  have Kc4 := (Kc3.out.alloc _).below hb4 (by have := Kc3.out.lt; simp; omega)
  have Kd4 := (Kd3.out.alloc _).below hb4 (by have := Kd3.out.lt; simp; omega)
  have Kb4 := (CAt.new w3 (5) (5) (5) (7) (7)).below hb4 (by simp)
  clear cc0 cc1 cc2 cc3 cc4 cf0 cf1 cf2 cf3 cf4
  obtain ⟨cc0, cc1, cc2, cc3, cc4⟩ := Kc4.cells
  obtain ⟨cf0, cf1, cf2, cf3, cf4⟩ := Kc4.frozens
  have ltc4 := Kc4.lt
  replace Kc4 := Lib.hid Kc4
  clear dc0 dc1 dc2 dc3 dc4 df0 df1 df2 df3 df4
  obtain ⟨dc0, dc1, dc2, dc3, dc4⟩ := Kd4.cells
  obtain ⟨df0, df1, df2, df3, df4⟩ := Kd4.frozens
  have ltd4 := Kd4.lt
  replace Kd4 := Lib.hid Kd4
  obtain ⟨bc0, bc1, bc2, bc3, bc4⟩ := Kb4.cells
  obtain ⟨bf0, bf1, bf2, bf3, bf4⟩ := Kb4.frozens
  have ltb4 := Kb4.lt
  replace Kb4 := Lib.hid Kb4
  clear hb4
  have q1 := eq_at 5 0 0 7 7 5 0 0 7 7 true (by kernel_rfl)
  have q2 := eq_at 5 5 5 7 7 5 5 5 7 7 true (by kernel_rfl)
  have q3 := fun op a b => guard_at op a b 5 0 0 7 7 5 0 0 7 7
  have q4 := fun op a b => guard_at op a b 5 5 5 7 7 5 5 5 7 7
  go_wp2_with fail
  go_ret
  exact ⟨rfl, hB4.alloc hs4 _⟩
end Go.Proofs.Ytgcnjnjdjldfoaa
