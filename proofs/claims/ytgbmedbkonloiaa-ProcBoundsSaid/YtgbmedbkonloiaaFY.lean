/- does: a step on both tables. -/
import Derived.Test.YtgbmedbkonloiaaFX
namespace Go.Proofs.Ytgbmedbkonloiaa
open Go.RowKit
set_option linter.unusedVariables false
set_option linter.unusedSimpArgs false
variable {w0 W W' : World} {T D : Nat} {s d : TB} {K : Nat → Prop} {m : Int}
theorem op_new (w : World) (cs : Array Value) (t : TypeId) {j : Nat} {v : Value} (h : cs[j]? = some v) : (w.alloc (.cells cs t)).cell? ⟨w.heap.size, j, none⟩ = some v := by
  rw [cell_of_row _ w.heap.size j _ _ (0, 0) (heap_alloc_new w _)]
  exact h
theorem kept_cell {g o : Nat} {v : Value} (h : Fr (fun k => ¬ K k) W W') (hg : K g) (hc : W.cell? ⟨g, o, none⟩ = some v) : W'.cell? ⟨g, o, none⟩ = some v := h.cell hc (fun hn => hn hg)
theorem kept2 {g : Nat} {a b : Int} (h : Fr (fun k => ¬ K k) W W') (hg : K g) (hc : W.cell? ⟨g, 1, none⟩ = some (.int .i64 a) ∧ W.cell? ⟨g, 2, none⟩ = some (.int .i64 b)) : W'.cell? ⟨g, 1, none⟩ = some (.int .i64 a) ∧ W'.cell? ⟨g, 2, none⟩ = some (.int .i64 b) := ⟨kept_cell h hg hc.1, kept_cell h hg hc.2⟩
theorem TP.more {m' : Int} (h : TP K w0 W T D m s d) (hm : m ≤ m') : TP K w0 W T D m' s d := by
  obtain ⟨ex, k, kd, l, ld, b⟩ := h
  exact ⟨ex, k, kd, by omega, by omega, b⟩
set_option maxHeartbeats 8000000 in
set_option maxRecDepth 100000 in
theorem does_any (o : OpP) (ho : o.Ok) (hm : m ≤ 900000) (h : TP K w0 W T D m s s) :
    Calls Try.prog 10 #[.pointer (some ⟨T, 0, none⟩), .pointer (some ⟨D, 0, none⟩), .agg #[.int .i64 o.kind, .int .i64 o.a, .int .i64 o.b, .bool o.on]] W fun r w' => r = .returned (.bool true) ∧ TP K w0 w' T D (m + 2) (opP o s) (opP o s) ∧ Fr (fun k => ¬ K k) W w' := by
  obtain ⟨kd, a, b, on⟩ := o
  have ha : I64 a := ho.a
  have hm1 : m ≤ 1000000 := by omega
  have f0 : Fr (fun _ => False) W (W.alloc (.cells #[.int .i64 kd, .int .i64 a, .int .i64 b, .bool on] 29)) := (Fr.refl _ W).alloc _
  obtain ⟨KK, hKK⟩ : ∃ KK : Nat → Prop, ∀ k, KK k ↔ (K k ∨ k = W.heap.size) := ⟨fun k => K k ∨ k = W.heap.size, fun _ => Iff.rfl⟩
  have HK := Lib.hid (h.keep (K' := KK) f0 fun k hk => by
    rcases (hKK k).1 hk with hk | hk
    · obtain ⟨⟨S, R, h1, h2, h3, h4⟩, _⟩ := h
      exact ⟨.inl hk, Nat.lt_of_lt_of_le (h4 k hk).2.2 f0.size⟩
    · exact ⟨.inr (by omega), by rw [hk]; simp⟩)
  have q0 := op_new W #[.int .i64 kd, .int .i64 a, .int .i64 b, .bool on] 29 (j := 0) rfl
  have q1 := op_new W #[.int .i64 kd, .int .i64 a, .int .i64 b, .bool on] 29 (j := 1) rfl
  have q2 := op_new W #[.int .i64 kd, .int .i64 a, .int .i64 b, .bool on] 29 (j := 2) rfl
  have q3 := op_new W #[.int .i64 kd, .int .i64 a, .int .i64 b, .bool on] 29 (j := 3) rfl
  have hfin : ∀ wz, Fr (fun k => ¬ KK k) (W.alloc (.cells #[.int .i64 kd, .int .i64 a, .int .i64 b, .bool on] 29)) wz → Fr (fun k => ¬ K k) W wz := fun wz f => ⟨f.os.trans f0.os, f.tape.trans f0.tape, f.output.trans f0.output, Nat.le_trans f0.size f.size, fun k hk hn => (f.block k (Nat.lt_of_lt_of_le hk f0.size) (fun h => h ((hKK k).2 (.inl (Classical.not_not.1 hn))))).trans (f0.block k hk id)⟩
  have HFIN := Lib.hid hfin
  have HUP := Lib.hid (show ∀ (wz : World) (m' : Int) (x y : TB), TP KK w0 wz T D m' x y → m' ≤ m + 2 → TP K w0 wz T D (m + 2) x y from fun wz m' x y h hm' => (h.free fun k hk => (hKK k).2 (.inl hk)).more hm')
  have hHK : KK W.heap.size := (hKK _).2 (.inr rfl)
  obtain ⟨X, hX⟩ : ∃ X, opP ⟨kd, a, b, on⟩ s = X := ⟨_, rfl⟩
  rw [hX]
  unfold opP at hX
  simp only at hX
  clear ho h hfin f0 hKK
  by_cases k1 : kd = 1
  · subst k1
    rw [if_pos rfl] at hX
    subst hX
    go_enter Try.func10, Try.ntmps10
    go_wp2_with fail
    refine (tp_fork HK.out hm1 a on ha).mono ?_
    rintro e w2 ⟨rfl, h2, f2⟩
    have r1 := kept_cell f2 hHK q1
    have r3 := kept_cell f2 hHK q3
    have H2 := Lib.hid h2
    have F2 := Lib.hid f2
    clear HK q0 q1 q2 q3 f2 h2
    generalize W.heap.size = G at *
    go_wp2_with fail
    refine (td_fork H2.out (by omega) a on ha).mono ?_
    rintro e w3 ⟨rfl, h3, f3⟩
    have H3 := Lib.hid h3
    have F3 := Lib.hid f3
    clear h3 f3 r1 r3
    go_wp2
    go_ret
    exact ⟨rfl, HUP.out _ _ _ _ H3.out (by omega), HFIN.out _ (F2.out.trans F3.out)⟩
  rw [if_neg k1] at hX
  have n1 : (kd == 1) = false := by simpa using k1
  by_cases k2 : kd = 2
  · subst k2
    rw [if_pos rfl] at hX
    subst hX
    go_enter Try.func10, Try.ntmps10
    go_wp2_with fail
    have e1 : (W.alloc (.cells #[.int .i64 2, .int .i64 a, .int .i64 b, .bool on] 29)).drew.cell? ⟨W.heap.size, 1, none⟩ = some (.int .i64 a) := q1
    have e2 : (W.alloc (.cells #[.int .i64 2, .int .i64 a, .int .i64 b, .bool on] 29)).drew.cell? ⟨W.heap.size, 2, none⟩ = some (.int .i64 b) := q2
    have HKD := Lib.hid (HK.out.fresh ((Fr.refl _ _).drew))
    have HP := Lib.hid fun (wz : World) (hz : TP KK w0 wz T D m s s) => tp_bec hz hm1 a b ha
    have HD := Lib.hid fun (wz : World) (x : TB) (hz : TP KK w0 wz T D m x s) => td_bec hz hm1 a b ha
    go_region_held3 (fun w' => w'.cell? ⟨W.heap.size, 1, none⟩ = some (.int .i64 a) ∧ w'.cell? ⟨W.heap.size, 2, none⟩ = some (.int .i64 b))
      (first | exact ⟨e1, e2⟩ | exact ⟨r1, r2⟩ | exact ⟨s1, s2⟩)
      (first
        | (go_at_call 20; (refine (HP.out _ HKD.out).mono ?_); rintro e w2 ⟨rfl, h2, f2⟩; obtain ⟨r1, r2⟩ := kept2 f2 hHK ⟨e1, e2⟩)
        | (go_at_call 24; (refine (HD.out _ _ h2).mono ?_); rintro e w3 ⟨rfl, h3, f3⟩; obtain ⟨s1, s2⟩ := kept2 f3 hHK ⟨r1, r2⟩))
    all_goals
      have H3 := Lib.hid h3
      have F23 := Lib.hid (f2.trans f3)
      clear h2 h3 f2 f3 r1 r2 s1 s2 e1 e2 q0 q1 q2 q3 HK HKD HP HD
      go_wp2
      go_ret
      exact ⟨rfl, HUP.out _ _ _ _ H3.out (by omega), HFIN.out _ (((Fr.refl _ _).drew).trans F23.out)⟩
  rw [if_neg k2] at hX
  have n2 : (kd == 2) = false := by simpa using k2
  by_cases k3 : kd = 3
  · subst k3
    rw [if_pos rfl] at hX
    subst hX
    go_enter Try.func10, Try.ntmps10
    go_wp2_with fail
    have e1 : (W.alloc (.cells #[.int .i64 3, .int .i64 a, .int .i64 b, .bool on] 29)).drew.cell? ⟨W.heap.size, 1, none⟩ = some (.int .i64 a) := q1
    have e2 : (W.alloc (.cells #[.int .i64 3, .int .i64 a, .int .i64 b, .bool on] 29)).drew.cell? ⟨W.heap.size, 2, none⟩ = some (.int .i64 b) := q2
    have HKD := Lib.hid (HK.out.fresh ((Fr.refl _ _).drew))
    have HP := Lib.hid fun (wz : World) (hz : TP KK w0 wz T D m s s) => tp_lead hz hm1 a ha
    have HD := Lib.hid fun (wz : World) (x : TB) (hz : TP KK w0 wz T D m x s) => td_lead hz hm1 a ha
    go_region_held3 (fun w' => w'.cell? ⟨W.heap.size, 1, none⟩ = some (.int .i64 a) ∧ w'.cell? ⟨W.heap.size, 2, none⟩ = some (.int .i64 b))
      (first | exact ⟨e1, e2⟩ | exact ⟨r1, r2⟩ | exact ⟨s1, s2⟩)
      (first
        | (go_at_call 21; (refine (HP.out _ HKD.out).mono ?_); rintro e w2 ⟨rfl, h2, f2⟩; obtain ⟨r1, r2⟩ := kept2 f2 hHK ⟨e1, e2⟩)
        | (go_at_call 25; (refine (HD.out _ _ h2).mono ?_); rintro e w3 ⟨rfl, h3, f3⟩; obtain ⟨s1, s2⟩ := kept2 f3 hHK ⟨r1, r2⟩))
    all_goals
      have H3 := Lib.hid h3
      have F23 := Lib.hid (f2.trans f3)
      clear h2 h3 f2 f3 r1 r2 s1 s2 e1 e2 q0 q1 q2 q3 HK HKD HP HD
      go_wp2
      go_ret
      exact ⟨rfl, HUP.out _ _ _ _ H3.out (by omega), HFIN.out _ (((Fr.refl _ _).drew).trans F23.out)⟩
  rw [if_neg k3] at hX
  have n3 : (kd == 3) = false := by simpa using k3
  by_cases k4 : kd = 4
  · subst k4
    rw [if_pos rfl] at hX
    subst hX
    go_enter Try.func10, Try.ntmps10
    go_wp2_with fail
    have e1 : (W.alloc (.cells #[.int .i64 4, .int .i64 a, .int .i64 b, .bool on] 29)).drew.cell? ⟨W.heap.size, 1, none⟩ = some (.int .i64 a) := q1
    have e2 : (W.alloc (.cells #[.int .i64 4, .int .i64 a, .int .i64 b, .bool on] 29)).drew.cell? ⟨W.heap.size, 2, none⟩ = some (.int .i64 b) := q2
    have HKD := Lib.hid (HK.out.fresh ((Fr.refl _ _).drew))
    have HP := Lib.hid fun (wz : World) (hz : TP KK w0 wz T D m s s) => tp_exit hz hm1 a b ha
    have HD := Lib.hid fun (wz : World) (x : TB) (hz : TP KK w0 wz T D m x s) => td_exit hz hm1 a b ha
    go_region_held3 (fun w' => w'.cell? ⟨W.heap.size, 1, none⟩ = some (.int .i64 a) ∧ w'.cell? ⟨W.heap.size, 2, none⟩ = some (.int .i64 b))
      (first | exact ⟨e1, e2⟩ | exact ⟨r1, r2⟩ | exact ⟨s1, s2⟩)
      (first
        | (go_at_call 18; (refine (HP.out _ HKD.out).mono ?_); rintro e w2 ⟨rfl, h2, f2⟩; obtain ⟨r1, r2⟩ := kept2 f2 hHK ⟨e1, e2⟩)
        | (go_at_call 26; (refine (HD.out _ _ h2).mono ?_); rintro e w3 ⟨rfl, h3, f3⟩; obtain ⟨s1, s2⟩ := kept2 f3 hHK ⟨r1, r2⟩))
    all_goals
      have H3 := Lib.hid h3
      have F23 := Lib.hid (f2.trans f3)
      clear h2 h3 f2 f3 r1 r2 s1 s2 e1 e2 q0 q1 q2 q3 HK HKD HP HD
      go_wp2
      go_ret
      exact ⟨rfl, HUP.out _ _ _ _ H3.out (by omega), HFIN.out _ (((Fr.refl _ _).drew).trans F23.out)⟩
  rw [if_neg k4] at hX
  have n4 : (kd == 4) = false := by simpa using k4
  subst hX
  go_enter Try.func10, Try.ntmps10
  go_wp2_with fail
  refine (tp_wait HK.out hm1 a b ha).mono ?_
  unfold w3V
  rintro e w2 ⟨rfl, h2, f2⟩
  have r1 := kept_cell f2 hHK q1
  have r2 := kept_cell f2 hHK q2
  have H2 := Lib.hid h2
  have F2 := Lib.hid f2
  clear HK q0 q1 q2 q3 f2 h2
  generalize W.heap.size = G at *
  go_wp2_with fail
  refine (td_wait H2.out (by omega) a b ha).mono ?_
  unfold w3V
  rintro e w3 ⟨rfl, h3, f3⟩
  have H3 := Lib.hid h3
  have F3 := Lib.hid f3
  clear h3 f3 r1 r2
  go_wp2
  go_ret
  exact ⟨rfl, HUP.out _ _ _ _ H3.out (by omega), HFIN.out _ (F2.out.trans F3.out)⟩
end Go.Proofs.Ytgbmedbkonloiaa
